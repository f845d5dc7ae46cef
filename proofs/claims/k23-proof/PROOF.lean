import PyProof.Rows.All
import Wide.All
import OpenK.AllK
import Wide.FinOn
import PyProof.ReprRoads
import KE.KExcIs
import HandS.Base
import HandS.Call
import HandS.List
import HandS.Comp
import HandS.Ends
import HandS.Words
import HandS.Dict
import HandS.Iter
import HandS.Text
import HandS.Evl
import HandS.IsInst
import HandS.Walk
import HandS.More
import HandS.TupAny
import HandS.OwnEq
import HandS.SlotsOwn
import HandS.Exc
import HandS.ExcInit
import HandS.ExcField
import HandS.WordsExc
import HandS.CallSlots
import HandS.Strs
import HandS.Conv
import HandS.RaiseMore
import HandS.Style
import HandS.ExcIs
import HandS.MakeKw
import HandS.MakeKwOnly
import PyProof.ExcBaseAll.LookupError
import PyProof.Rows.FactsExc_KeyError
import PyProof.ExcBaseAll.RuntimeError
import PyProof.ExcBaseAll.OverflowError
import HandS.TupMul
import HandS.TupLe
import HandS.DictComp
import HandS.LawCells
import HandS.Small
import HandS.TryMany
import HandS.TryOnly
import HandS.GenBody
import HandS.GenYield
import HandS.GenCall
import HandS.GenList
import HandS.ListEq
import HandS.DictEq
import HandS.WordsDict
import HandS.Zip
import HandS.Zip0
import KE.KStateDown
import HandS.Defaults
import HandS.Head0
import HandS.Head1
import HandS.Head2
import HandS.HeadEnd
import HandS.HeadHook1
import HandS.HeadHook2
import HandS.HeadHook3
import HandS.HeadHook4
import KE.KDictKeyed
import PySem.Challenge.RW_steadycalls_k23_statements_told
set_option Elab.async false
set_option linter.all false
set_option maxRecDepth 100000
set_option maxHeartbeats 4000000
namespace Sc
open PySem PySem.Spec PyProof.Rows L2
def topS (i : Nat) : Stmt := PySem.Challenge.pw_steadycalls_k23_statements_told.main.body.getD i (.Pass ⟨0, 0, 0, 0⟩)
abbrev sPool : Stmt := topS 33
abbrev sDraw : Stmt := topS 34
abbrev sPick : Stmt := topS 35
theorem scPool : FnScope ["_law_script", "_law_k", "_law_cell", "_law_size", "_law_mixed"] ["_law_script", "_law_k"] (defScope sPool) := ⟨rfl, rfl, rfl, by decide +kernel, rfl, by decide +kernel, by decide +kernel⟩
theorem scDraw : FnScope ["_law_pool_here", "_law_many", "_law_found"] ["_law_pool_here", "_law_many"] (defScope sDraw) := ⟨rfl, rfl, rfl, by decide +kernel, rfl, by decide +kernel, by decide +kernel⟩
theorem scPick : FnScope ["_law_pool_here", "_law_row"] ["_law_pool_here", "_law_row"] (defScope sPick) := ⟨rfl, rfl, rfl, by decide +kernel, rfl, by decide +kernel, by decide +kernel⟩
/-- a pool of draws stands at p -/
def PoolAt (H : Hp) (p : Addr) : Prop := ∃ x y : Int, H p = some (.lst [.int x, .int y]) ∧ 0 ≤ x ∧ 0 ≤ y ∧ y < 2147483648
/-- all that was known but for p is as it was -/
def But (p : Addr) (H H' : Hp) : Prop := ∀ b o, H b = some o → b ≠ p → H' b = some o
theorem But.refl (p : Addr) (H : Hp) : But p H H := fun _ _ h _ => h
theorem But.trans {p : Addr} {H H1 H2 : Hp} (a : But p H H1) (b : But p H1 H2) : But p H H2 := fun c o h n => b c o (a c o h n) n
theorem But.of {p : Addr} {H H' : Hp} (s : Same H H') : But p H H' := fun b o h _ => s b o h
theorem same_upd {H : Hp} {p : Addr} {o : HO} (h : H p = none) : Same H (upd H p o) := fun b x e => by
  rw [upd_ne (ne_of_none e h)]
  exact e
theorem But.upd {p : Addr} {H : Hp} {o : HO} : But p H (L2.upd H p o) := fun b x e n => by
  rw [upd_ne n]
  exact e
/-- what an expression gives, by what is true of it -/
theorem q_asgP {te : TE} {tz : TS} {D : Ends} {σ : L2.St} {H : Hp} {i : Nat} (Pr : V → Hp → Prop) (h : ∀ Q : VK, (∀ v H', Pr v H' → Q v H') → te σ H Q) (k : ∀ v H1, Pr v H1 → tz D (σ.set i (some v)) H1) : tSeq (tAsg te (gName i)) tz D σ H := h _ k
theorem But.rd {p : Addr} {H H' : Hp} (b : But p H H') {a : Addr} {u : HO} (n : a ≠ p) (h : Rd H a u) : Rd H' a u := by
  rcases h with h | ⟨o, h⟩
  · exact .inl (b _ _ h n)
  · exact .inr ⟨o, b _ _ h n⟩
theorem But.seq {p : Addr} {H H' : Hp} (b : But p H H') {K : PySem.W.Frag} {a : Addr} {xs : List V} (n : a ≠ p) (h : SqL K H a xs) : SqL K H' a xs := h.imp (b.rd n) id
theorem But.seqT {p : Addr} {H H' : Hp} (b : But p H H') {K : PySem.W.Frag} {a : Addr} {xs : List V} (n : a ≠ p) (h : SqT K H a xs) : SqT K H' a xs := h.imp (b.rd n) id
theorem at_nn {xs : List V} {v : Int} {x : V} (h0 : 0 ≤ v) (h : xs[v.toNat]? = some x) : atI xs v = some x := by
  obtain ⟨n, rfl⟩ := Int.eq_ofNat_of_zero_le h0
  exact atI_nat h
theorem b01 (b : Bool) : 0 ≤ (if b = true then (1 : Int) else 0) ∧ (if b = true then (1 : Int) else 0) ≤ 1 := by cases b <;> decide
structure Blt (mg : Str → Option Value) : Prop where
  abs : mg "abs" = none
  int : mg "int" = none
  len : mg "len" = none
  sum : mg "sum" = none
  max : mg "max" = none
  min : mg "min" = none
  range : mg "range" = none
  isinstance : mg "isinstance" = none
  bool : mg "bool" = none
  str : mg "str" = none
  tuple : mg "tuple" = none
  list : mg "list" = none
  dict : mg "dict" = none
  all : mg "all" = none
  sorted : mg "sorted" = none
  repr : mg "repr" = none
  zip : mg "zip" = none
section
variable {P : Program} {w : World} {K : PySem.W.Frag} {mg : Str → Option Value} {base : Heap}
def spPool (K : PySem.W.Frag) : Sp := fun vs H Q _ => ∃ (a : Addr) (ns : List Int) (k : Nat), vs = [.ref a, .int k] ∧ SqL K H a (ns.map V.int) ∧ k ≤ 3 ∧ (k < ns.length ∨ ns = []) ∧
  ∀ H' p, H p = none → Same H H' → PoolAt H' p → Q (.ref p) H'
theorem ok_pool {f : Addr} {fd : FuncData} (F : Fun K "_law_pool" "_law_pool" sPool f fd) (M : Blt mg) : FnOk P w K mg base CX0 1 f fd ["_law_script", "_law_k"] (spPool K) := by
  refine F.ok scPool (fun vs H Q E h => ?_) (fun cdv A outer s H vs Q E hr h => ?_)
  · obtain ⟨a, ns, k, rfl, _⟩ := h
    rfl
  · obtain ⟨a, ns, k, rfl, hS, hk, hin, q⟩ := h
    refine ⟨_, pss_cons (ps_set (i := 2) scPool.nd rfl (.inl rfl) (pe_ifExp (pt_cmpR op_lt (pv 1) (pe_callB call_len_seq (by rfl) M.len PySem.boot_len (pa_cons (pv 0) pa_nil)) (nomark _))
        (pe_ix ix_list (pv 0) (pv 1) (fun _ _ => rfl))
        (pe_op op_add (pe_op op_mul pe_int (pe_callB (cr_sum rfl) (by rfl) M.sum (by decide +kernel) (pa_cons (pe_slice sl_list (pv 0) po_none (po_some pe_int)) pa_nil))) (pv 1))))
      (pss_cons (ps_set (i := 3) scPool.nd rfl (.inl rfl) (pe_callB call_abs (by rfl) M.abs (by decide +kernel) (pa_cons (pv 2) pa_nil)))
      (pss_cons (ps_set (i := 4) scPool.nd rfl (.inl rfl)
        (pe_op op_add (pe_op op_add (pe_op op_add (pe_op op_mod (pe_callTy call_int1 (by rfl) M.int (by decide +kernel) (pa_cons (pv 3) pa_nil)) pe_int)
          (pe_op op_mul (pe_op op_mul pe_int (pv 1)) (pv 1))) (pe_op op_mul pe_int (pv 1))) pe_int))
      (pss_cons (ps_set (i := 4) scPool.nd rfl (.inl rfl)
        (pe_op op_mod (pe_callTy call_int1 (by rfl) M.int (by decide +kernel) (pa_cons (pe_op op_mul (pv 4) pe_int) pa_nil)) pe_int))
      (pss_one (ps_ret (pe_lst (pa_cons
          (pe_op op_mul (pv 3) (pe_callTy call_int1 (by rfl) M.int (by decide +kernel) (pa_cons (pe_cmpR op_ge (pv 3) (pe_op op_pow pe_int pe_int) (nomark _)) pa_nil)))
          (pa_cons (pe_op op_mod (pe_callTy call_int1 (by rfl) M.int (by decide +kernel) (pa_cons (pe_op op_mul (pv 4) (pv 4)) pa_nil)) pe_int) pa_nil)))))))), ?_⟩
    refine q_asgP (Pr := fun v H1 => (∃ c : Int, v = .int c) ∧ Same H H1) (fun Q' hq => ?_) (fun v H1 hv => ?_)
    · refine ⟨_, rfl, _, rfl, _, _, rfl, .inl hS, _, _, rfl, rfl, _, rfl, ite2 (fun e => ?_) (fun e => ?_)⟩
      · have e1 := of_decide_eq_true e
        rw [List.length_map] at e1
        have e2 : k < ns.length := by omega
        refine ⟨_, rfl, _, rfl, a, ns.map V.int, k, .int ns[k], rfl, rfl, hS, atI_nat ?_, hq _ _ ⟨⟨_, rfl⟩, Same.refl H⟩⟩
        rw [List.getElem?_map, List.getElem?_eq_getElem e2]
        rfl
      · have e1 : ns = [] := by
          rcases hin with h | h
          · refine absurd (decide_eq_true ?_) e
            rw [List.length_map]
            omega
          · exact h
        subst e1
        refine ⟨_, rfl, 63, rfl, a, _, rfl, hS, fun p np => ?_⟩
        refine ⟨p, [], rfl, .inl (.inl (upd_same.trans ?_)), _, _, rfl, rfl, .inl ⟨by decide, by decide⟩, _, rfl, _, _, rfl, rfl, hq _ _ ⟨⟨_, rfl⟩, same_upd np⟩⟩
        rfl
    · obtain ⟨⟨c, rfl⟩, s1⟩ := hv
      have hz : 0 ≤ (if c < 0 then -c else c) := by split <;> omega
      have fin : ∀ (x y : Int), 0 ≤ x → 0 ≤ y → y < 2147483648 → ∀ p, H1 p = none → Q (.ref p) (upd H1 p (.lst [.int x, .int y])) := fun x y hx hy hy2 p np =>
        q _ p (s1.free np) (s1.trans (same_upd np)) ⟨x, y, upd_same, hx, hy, hy2⟩
      refine ⟨.int c, rfl, _, rfl, ?_⟩
      refine ⟨_, rfl, .inl ⟨_, rfl, _, _, rfl, rfl, (by show (0 : Int) < 2147483629; decide), ?_⟩⟩
      have m1 : 0 ≤ (if c < 0 then -c else c) % 2147483629 := Int.emod_nonneg _ (by decide)
      have m2 : (if c < 0 then -c else c) % 2147483629 < 2147483629 := Int.emod_lt_of_pos _ (by decide)
      have k0 : (7919 * (k : Int) * (k : Int)) ≤ 71271 ∧ 0 ≤ (7919 * (k : Int) * (k : Int)) := by
        rcases (show k = 0 ∨ k = 1 ∨ k = 2 ∨ k = 3 by omega) with e | e | e | e <;> subst e <;> decide
      refine ⟨_, rfl, _, _, rfl, rfl, .inl ⟨by decide, by decide⟩, _, rfl, _, _, rfl, rfl, .inr ⟨by omega, by omega⟩, _, _, rfl, rfl, _, rfl, _, _, rfl, rfl, .inl ⟨by decide, by decide⟩, _, _, rfl, rfl, _, _, rfl, rfl, ?_⟩
      refine ⟨_, rfl, _, _, rfl, rfl, .inr ⟨by decide, by decide⟩, .inl ⟨_, rfl, _, _, rfl, rfl, (by show (0 : Int) < 2147483647; decide), ?_⟩⟩
      have n1 : 0 ≤ ((if c < 0 then -c else c) % 2147483629 + 7919 * (k : Int) * (k : Int) + 31 * (k : Int) + 17) * 48271 % 2147483647 := Int.emod_nonneg _ (by decide)
      have n2 : ((if c < 0 then -c else c) % 2147483629 + 7919 * (k : Int) * (k : Int) + 31 * (k : Int) + 17) * 48271 % 2147483647 < 2147483647 := Int.emod_lt_of_pos _ (by decide)
      refine ⟨_, rfl, _, rfl, _, _, rfl, rfl, ⟨by decide, by decide, by decide⟩, _, _, rfl, rfl, ?_⟩
      refine .inr ⟨_, rfl, ?_⟩
      refine ⟨_, _, rfl, rfl, .inr ?_, _, rfl, _, rfl, _, _, rfl, rfl, .inl ⟨by omega, by omega⟩, .inl ⟨_, rfl, _, _, rfl, rfl, (by show (0 : Int) < 2147483629; decide), (by show 2 ≤ sizeLine; decide), fun p np => ?_⟩⟩
      · exact ⟨Int.lt_of_lt_of_le (by decide) (b01 _).1, Int.lt_of_le_of_lt (b01 _).2 (by decide)⟩
      · refine fin _ _ (Int.mul_nonneg hz (b01 _).1) (Int.emod_nonneg _ (by decide)) ?_ p np
        exact Int.lt_trans (Int.emod_lt_of_pos _ (by decide)) (by decide)
def spDraw : Sp := fun vs H Q _ => ∃ (p : Addr) (n : Int), vs = [.ref p, .int n] ∧ PoolAt H p ∧ 0 < n ∧ n ≤ 1000000000 ∧
  ∀ (v : Int) H', 0 ≤ v → v < n → But p H H' → PoolAt H' p → (∀ b, H b = none → H' b = none) → Q (.int v) H'
theorem ok_draw {f : Addr} {fd : FuncData} (F : Fun K "_law_draw" "_law_draw" sDraw f fd) (M : Blt mg) : FnOk P w K mg base CX0 1 f fd ["_law_pool_here", "_law_many"] spDraw := by
  refine F.ok scDraw (fun vs H Q E h => ?_) (fun cdv A outer s H vs Q E hr h => ?_)
  · obtain ⟨p, n, rfl, _⟩ := h
    rfl
  · obtain ⟨p, n, rfl, ⟨x, y, hp, hx, hy, hy2⟩, hn, hn2, q⟩ := h
    refine ⟨_, pss_cons (ps_if (pt_cmpR op_gt (pe_ix ix_list (pv 0) pe_int (fun _ _ => rfl)) pe_int (nomark _))
        (pss_cons (ps_set (i := 2) scDraw.nd rfl (.inl rfl) (pe_op op_mod (pe_callTy call_int1 (by rfl) M.int (by decide +kernel) (pa_cons (pe_ix ix_list (pv 0) pe_int (fun _ _ => rfl)) pa_nil)) (pv 1)))
        (pss_cons (ps_asg (pe_op op_fdiv (pe_ix ix_list (pv 0) pe_int (fun _ _ => rfl)) (pv 1)) (pg_sub (pv 0) pe_int set_list))
        (pss_one (ps_ret (pv 2))))) pss_nil)
      (pss_cons (ps_asg (pe_op op_mod (pe_callTy call_int1 (by rfl) M.int (by decide +kernel) (pa_cons (pe_op op_add (pe_op op_mul (pe_ix ix_list (pv 0) pe_int (fun _ _ => rfl)) pe_int) pe_int) pa_nil)) pe_int) (pg_sub (pv 0) pe_int set_list))
      (pss_one (ps_ret (pe_op op_mod (pe_callTy call_int1 (by rfl) M.int (by decide +kernel) (pa_cons (pe_op op_fdiv (pe_op op_mod (pe_callTy call_int1 (by rfl) M.int (by decide +kernel)
          (pa_cons (pe_op op_mul (pe_ix ix_list (pv 0) pe_int (fun _ _ => rfl)) (pe_ix ix_list (pv 0) pe_int (fun _ _ => rfl))) pa_nil)) pe_int) pe_int) pa_nil)) (pv 1))))), ?_⟩
    have hS : SqL K H p [.int x, .int y] := .inl (.inl hp)
    have fr : ∀ o b, H b = none → upd H p o b = none := fun o b hb => by
      rw [upd_ne (fun e => by rw [e, hp] at hb; cases hb)]
      exact hb
    refine ⟨.ref p, rfl, p, _, 0, .int x, rfl, rfl, hS, rfl, x, 0, rfl, rfl, _, rfl, ite2 (fun e => ?_) (fun e => ?_)⟩
    · refine ⟨.ref p, rfl, p, _, 0, .int x, rfl, rfl, hS, rfl, .inl ⟨x, rfl, _, rfl, x, n, rfl, rfl, hn, ?_⟩⟩
      refine ⟨.ref p, rfl, p, _, 0, .int x, rfl, rfl, hS, rfl, .int n, rfl, x, n, rfl, rfl, ⟨hn, by omega⟩, ?_⟩
      refine ⟨.ref p, rfl, p, _, 0, 0, rfl, rfl, hp, rfl, ?_⟩
      refine ⟨_, rfl, q _ _ (Int.emod_nonneg _ (by omega)) (Int.emod_lt_of_pos _ hn) But.upd ⟨_, y, upd_same, ?_, hy, hy2⟩ (fr _)⟩
      exact Int.ediv_nonneg hx (by omega)
    · refine ⟨.ref p, rfl, p, _, 1, .int y, rfl, rfl, hS, rfl, y, _, rfl, rfl, .inl ⟨by omega, by omega⟩, _, _, rfl, rfl, .inl ⟨_, rfl, _, _, rfl, rfl, (by show (0 : Int) < 2147483647; decide), ?_⟩⟩
      refine ⟨.ref p, rfl, p, _, 1, 1, rfl, rfl, hp, rfl, ?_⟩
      have b1 : 0 ≤ (y * 48271 + 11) % 2147483647 := Int.emod_nonneg _ (by decide)
      have b2 : (y * 48271 + 11) % 2147483647 < 2147483647 := Int.emod_lt_of_pos _ (by decide)
      have hS2 : SqL K (upd H p (.lst ([V.int x, .int y].set 1 (.int ((y * 48271 + 11) % 2147483647))))) p [.int x, .int ((y * 48271 + 11) % 2147483647)] := .inl (.inl upd_same)
      refine ⟨.ref p, rfl, p, _, 1, _, rfl, rfl, hS2, rfl, .ref p, rfl, p, _, 1, _, rfl, rfl, hS2, rfl, _, _, rfl, rfl, .inl ⟨by omega, by omega⟩, .inl ⟨_, rfl, _, _, rfl, rfl, (by show (0 : Int) < 2147483629; decide), _, _, rfl, rfl, ⟨by decide, by decide⟩, .inl ⟨_, rfl, ?_⟩⟩⟩
      refine ⟨.int n, rfl, _, n, rfl, rfl, hn, ?_⟩
      exact q _ _ (Int.emod_nonneg _ (by omega)) (Int.emod_lt_of_pos _ hn) But.upd ⟨x, _, upd_same, hx, b1, by omega⟩ (fr _)
def spPick (K : PySem.W.Frag) : Sp := fun vs H Q _ => ∃ (p r : Addr) (xs : List V), vs = [.ref p, .ref r] ∧ PoolAt H p ∧ p ≠ r ∧ (SqL K H r xs ∨ SqT K H r xs) ∧ 0 < xs.length ∧ xs.length ≤ 1000000 ∧
  ∀ (i : Nat) (hi : i < xs.length) H', But p H H' → PoolAt H' p → (∀ b, H b = none → H' b = none) → Q xs[i] H'
theorem ok_pick {f fD : Addr} {fd fdD : FuncData} (F : Fun K "_law_pick" "_law_pick" sPick f fd) (M : Blt mg) (FD : Fun K "_law_draw" "_law_draw" sDraw fD fdD) (bD : Binds K fdD ["_law_pool_here", "_law_many"] []) (gD : mg "_law_draw" = some (.ref fD)) :
    FnOk P w K mg base CX0 2 f fd ["_law_pool_here", "_law_row"] (spPick K) := by
  have GD : FnOk P w K mg base CX0 1 fD fdD ["_law_pool_here", "_law_many"] spDraw := ok_draw FD M
  refine F.ok scPick (fun vs H Q E h => ?_) (fun cdv A outer s H vs Q E hr h => ?_)
  · obtain ⟨p, r, xs, rfl, _⟩ := h
    rfl
  · obtain ⟨p, r, xs, rfl, hp, npr, hS, hl, hl2, q⟩ := h
    refine ⟨_, pss_one (ps_ret (pe_ix ix_seq (pv 1) (pe_call GD hr (by rfl) gD FD.kp bD .nil pass0 (pa_cons (pv 0) (pa_cons (pe_callB call_len_seq (by rfl) M.len PySem.boot_len (pa_cons (pv 1) pa_nil)) pa_nil))) (fun _ _ => rfl))), ?_⟩
    refine ⟨_, rfl, _, rfl, _, rfl, _, _, rfl, hS, p, _, rfl, hp, by omega, by omega, fun v H' v0 v1 bt hp' fr => ?_⟩
    have hv : v.toNat < xs.length := by omega
    have ha : atI xs v = some xs[v.toNat] := at_nn v0 (List.getElem?_eq_getElem hv)
    have sk : SqL K H' r xs ∨ SqT K H' r xs := hS.imp (bt.seq npr.symm) (bt.seqT npr.symm)
    rcases sk with sk | sk
    · exact .inl ⟨_, _, _, _, rfl, rfl, sk, ha, q _ hv _ bt hp' fr⟩
    · exact .inr (.inl ⟨_, _, _, _, rfl, rfl, sk, ha, q _ hv _ bt hp' fr⟩)
end
/-! ### data -/
mutual
theorem dp_mono {K : PySem.W.Frag} {H H' : Hp} (ht : ∀ a xs, SqT K H a xs → SqT K H' a xs) (hl : ∀ a xs, SqL K H a xs → SqL K H' a xs) : ∀ (d : PyData) (v : V), Dp K H v d → Dp K H' v d
  | .none, _, h => by
    cases h
    exact .non
  | .bool b, _, h => by
    cases h
    exact .bl b
  | .int i, _, h => by
    cases h
    exact .int i
  | .str x, _, h => by
    cases h
    exact .str x
  | .list ds, _, h => by
    cases h with
    | lst hs ha => exact .lst (hl _ _ hs) (dpAll_mono ht hl ds _ ha)
  | .tuple ds, _, h => by
    cases h with
    | tup hs ha => exact .tup (ht _ _ hs) (dpAll_mono ht hl ds _ ha)
  | .dict _, _, h => by cases h
theorem dpAll_mono {K : PySem.W.Frag} {H H' : Hp} (ht : ∀ a xs, SqT K H a xs → SqT K H' a xs) (hl : ∀ a xs, SqL K H a xs → SqL K H' a xs) : ∀ (ds : List PyData) (vs : List V), DpAll K H vs ds → DpAll K H' vs ds
  | [], _, h => by
    cases h
    exact .nil
  | d :: ds, _, h => by
    cases h with
    | cons h1 h2 => exact .cons (dp_mono ht hl d _ h1) (dpAll_mono ht hl ds _ h2)
end
theorem same_sqT {K : PySem.W.Frag} {H H' : Hp} (s : Same H H') {a : Addr} {xs : List V} (h : SqT K H a xs) : SqT K H' a xs := by
  rcases h with (h | ⟨o, h⟩) | h
  · exact .inl (.inl (s _ _ h))
  · exact .inl (.inr ⟨o, s _ _ h⟩)
  · exact .inr h
theorem dp_same {K : PySem.W.Frag} {H H' : Hp} (s : Same H H') {d : PyData} {v : V} (h : Dp K H v d) : Dp K H' v d := dp_mono (fun _ _ => same_sqT s) (fun _ _ => s.seq) d v h
theorem dpA_same {K : PySem.W.Frag} {H H' : Hp} (s : Same H H') {ds : List PyData} {vs : List V} (h : DpAll K H vs ds) : DpAll K H' vs ds := dpAll_mono (fun _ _ => same_sqT s) (fun _ _ => s.seq) ds vs h
/-! data without lists -/
mutual
def noL : PyData → Bool
  | .list _ => false
  | .tuple ds => noLs ds
  | .dict _ => false
  | _ => true
def noLs : List PyData → Bool
  | [] => true
  | d :: ds => noL d && noLs ds
end
mutual
theorem dp_tups {K : PySem.W.Frag} {H H' : Hp} (ht : ∀ a xs, SqT K H a xs → SqT K H' a xs) : ∀ (d : PyData) (v : V), noL d = true → Dp K H v d → Dp K H' v d
  | .none, _, _, h => by
    cases h
    exact .non
  | .bool b, _, _, h => by
    cases h
    exact .bl b
  | .int i, _, _, h => by
    cases h
    exact .int i
  | .str x, _, _, h => by
    cases h
    exact .str x
  | .list ds, _, n, _ => by cases n
  | .tuple ds, _, n, h => by
    cases h with
    | tup hs ha => exact .tup (ht _ _ hs) (dpAll_tups ht ds _ n ha)
  | .dict _, _, _, h => by cases h
theorem dpAll_tups {K : PySem.W.Frag} {H H' : Hp} (ht : ∀ a xs, SqT K H a xs → SqT K H' a xs) : ∀ (ds : List PyData) (vs : List V), noLs ds = true → DpAll K H vs ds → DpAll K H' vs ds
  | [], _, _, h => by
    cases h
    exact .nil
  | d :: ds, _, n, h => by
    have n1 : noL d = true := (Bool.and_eq_true _ _ ▸ n : noL d = true ∧ noLs ds = true).1
    have n2 : noLs ds = true := (Bool.and_eq_true _ _ ▸ n : noL d = true ∧ noLs ds = true).2
    cases h with
    | cons h1 h2 => exact .cons (dp_tups ht d _ n1 h1) (dpAll_tups ht ds _ n2 h2)
end
/-- tuples stand while a list is changed -/
theorem but_sqT {K : PySem.W.Frag} {p : Addr} {H H' : Hp} {ys : List V} (hp : H p = some (.lst ys)) (b : But p H H') {a : Addr} {xs : List V} (h : SqT K H a xs) : SqT K H' a xs := by
  rcases h with (h | ⟨o, h⟩) | h
  · exact .inl (.inl (b _ _ h (ne_of h hp (fun z => nomatch z))))
  · exact .inl (.inr ⟨o, b _ _ h (ne_of h hp (fun z => nomatch z))⟩)
  · exact .inr h
theorem dp_but {K : PySem.W.Frag} {p : Addr} {H H' : Hp} (hp : PoolAt H p) (b : But p H H') {d : PyData} {v : V} (n : noL d = true) (h : Dp K H v d) : Dp K H' v d := by
  obtain ⟨x, y, e, _⟩ := hp
  exact dp_tups (fun _ _ => but_sqT e b) d v n h
/-- a value's own name of its class -/
def kind : PyData → String
  | .none => "NoneType"
  | .bool _ => "bool"
  | .int _ => "int"
  | .str _ => "str"
  | .list _ => "list"
  | .tuple _ => "tuple"
  | .dict _ => "dict"
theorem tyx_sqT {K : PySem.W.Frag} {H : Hp} {a : Addr} {xs : List V} (h : SqT K H a xs) : TyX K H (.ref a) (.type "tuple") := by
  rcases h with (h | ⟨o, h⟩) | ⟨o, _, _, h, c, _⟩
  · exact .base (.tup h)
  · exact .fTuple h
  · exact .kTuple h c
theorem tyx_sqL {K : PySem.W.Frag} {H : Hp} {a : Addr} {xs : List V} (h : SqL K H a xs) : TyX K H (.ref a) (.type "list") := by
  rcases h with (h | ⟨o, h⟩) | ⟨o, _, _, h, c, _⟩
  · exact .base (.lst h)
  · exact .base (.frz h)
  · exact .kList h c
theorem dp_ty {K : PySem.W.Frag} {H : Hp} {d : PyData} {v : V} (h : Dp K H v d) : TyX K H v (.type (kind d)) := by
  cases h with
  | non => exact .base .non
  | bl b => exact .base (.bl b)
  | int i => exact .base (.int i)
  | str x => exact .base (.str x)
  | lst hs _ => exact tyx_sqL hs
  | tup hs _ => exact tyx_sqT hs
def isInt : PyData → Bool
  | .int _ => true
  | .bool _ => true
  | _ => false
def isBool : PyData → Bool
  | .bool _ => true
  | _ => false
def isStr : PyData → Bool
  | .str _ => true
  | _ => false
def isTup : PyData → Bool
  | .tuple _ => true
  | _ => false
theorem kit_int (K : PySem.W.Frag) : ∀ d : PyData, PySem.W.kitOne K (.type (kind d)) (.type "int") = some (isInt d)
  | .none => kit_ty (show kitB "NoneType" "int" = some false by decide +kernel)
  | .bool _ => kit_ty (show kitB "bool" "int" = some true by decide +kernel)
  | .int _ => kit_ty (show kitB "int" "int" = some true by decide +kernel)
  | .str _ => kit_ty (show kitB "str" "int" = some false by decide +kernel)
  | .list _ => kit_ty (show kitB "list" "int" = some false by decide +kernel)
  | .tuple _ => kit_ty (show kitB "tuple" "int" = some false by decide +kernel)
  | .dict _ => kit_ty (show kitB "dict" "int" = some false by decide +kernel)
theorem kit_bool (K : PySem.W.Frag) : ∀ d : PyData, PySem.W.kitOne K (.type (kind d)) (.type "bool") = some (isBool d)
  | .none => kit_ty (show kitB "NoneType" "bool" = some false by decide +kernel)
  | .bool _ => kit_ty (show kitB "bool" "bool" = some true by decide +kernel)
  | .int _ => kit_ty (show kitB "int" "bool" = some false by decide +kernel)
  | .str _ => kit_ty (show kitB "str" "bool" = some false by decide +kernel)
  | .list _ => kit_ty (show kitB "list" "bool" = some false by decide +kernel)
  | .tuple _ => kit_ty (show kitB "tuple" "bool" = some false by decide +kernel)
  | .dict _ => kit_ty (show kitB "dict" "bool" = some false by decide +kernel)
theorem kit_str (K : PySem.W.Frag) : ∀ d : PyData, PySem.W.kitOne K (.type (kind d)) (.type "str") = some (isStr d)
  | .none => kit_ty (show kitB "NoneType" "str" = some false by decide +kernel)
  | .bool _ => kit_ty (show kitB "bool" "str" = some false by decide +kernel)
  | .int _ => kit_ty (show kitB "int" "str" = some false by decide +kernel)
  | .str _ => kit_ty (show kitB "str" "str" = some true by decide +kernel)
  | .list _ => kit_ty (show kitB "list" "str" = some false by decide +kernel)
  | .tuple _ => kit_ty (show kitB "tuple" "str" = some false by decide +kernel)
  | .dict _ => kit_ty (show kitB "dict" "str" = some false by decide +kernel)
theorem kit_tup (K : PySem.W.Frag) : ∀ d : PyData, PySem.W.kitOne K (.type (kind d)) (.type "tuple") = some (isTup d)
  | .none => kit_ty (show kitB "NoneType" "tuple" = some false by decide +kernel)
  | .bool _ => kit_ty (show kitB "bool" "tuple" = some false by decide +kernel)
  | .int _ => kit_ty (show kitB "int" "tuple" = some false by decide +kernel)
  | .str _ => kit_ty (show kitB "str" "tuple" = some false by decide +kernel)
  | .list _ => kit_ty (show kitB "list" "tuple" = some false by decide +kernel)
  | .tuple _ => kit_ty (show kitB "tuple" "tuple" = some true by decide +kernel)
  | .dict _ => kit_ty (show kitB "dict" "tuple" = some false by decide +kernel)
/-- a block that goes through an iterator: what each turn asks, and what holds at the end -/
abbrev Turns (J : It) (H0 : Hp) (End : Hp → Prop) (Body : (Hp → Prop) → V → Hp → Prop) : Prop :=
  ∃ Wk : Nat → Nat → Hp → Prop, (∃ left, Wk 0 left H0) ∧
    ∀ at_ left Hn, Wk at_ left Hn → (J.stop at_ Hn ∧ End Hn) ∨ (J.go at_ Hn ∧
      ∃ Then : Hp → Prop, (∀ Hb, Then Hb → ∃ fewer, fewer < left ∧ Wk (at_ + 1) fewer Hb) ∧ ∀ item Hi, J.yld at_ Hn item Hi → Body Then item Hi)
/-- a turn of a list's comprehension without a test -/
abbrev LcBody (D : Addr) (te : TE) (vs : List Nat) (j : Nat) (σ : L2.St) : (Hp → Prop) → V → Hp → Prop := fun Then item Hi =>
  gName j item (wipe σ vs) Hi fun σn Hn => wipe σn vs = wipe σ vs ∧ tYes σn Hn fun yes Hy =>
    if yes = true then te σn Hy (fun made Hm => ∃ sofar, Hm D = some (.lst sofar) ∧ sofar.length < sizeLine ∧ Then (upd Hm D (.lst (sofar ++ [made])))) else Then Hy
/-- a comprehension whose i-th item is f i -/
theorem lc_vals {J : It} {n : Nat} {G : Hp → Prop} {Y : Nat → Hp → V → Hp → Prop} (w : Walk J n G Y) {j : Nat} {te : TE} {vs : List Nat} {σ : L2.St} {H1 : Hp} {D : Addr} {Qd : Hp → Prop} (f : Nat → V) (hz : n ≤ 50000)
    (hD : H1 D = none) (hw : ∀ x, wipe ((wipe σ vs).set j (some x)) vs = wipe σ vs) (hG : ∀ H, Same H1 H → G H)
    (he : ∀ i x H H', i < n → Same H1 H → Y i H x H' → Same H H' ∧ ∀ Q : VK, (∀ H2, Same H' H2 → Q (f i) H2) → te ((wipe σ vs).set j (some x)) H' Q)
    (hd : ∀ H, Same H1 H → H D = some (.lst ((List.range n).map f)) → Qd H)  :
    Turns J (upd H1 D (.lst [])) Qd (LcBody D te vs j σ) := by
  refine lc_it w (fun i H => Same H1 H ∧ H D = some (.lst ((List.range i).map f))) ⟨same_upd hD, upd_same⟩ (fun i H _ p => hG H p.1) (fun i x H H' hi p y => ?_) (fun H p => hd H p.1 p.2)
  obtain ⟨s1, e1⟩ := p
  obtain ⟨s2, k⟩ := he i x H H' hi s1 y
  refine And.intro (hw x) ?_
  unfold tYes
  refine iteT ?_
  refine k _ fun H2 s3 => ⟨_, s3 _ _ (s2 _ _ e1), ?_, fun b o e => ?_, ?_⟩
  · rw [List.length_map, List.length_range]
    exact Nat.lt_of_lt_of_le (show i < 50000 by omega) (by decide)
  · have hb : b ≠ D := ne_of_none e hD
    rw [upd_ne hb]
    exact s3 _ _ (s2 _ _ (s1 _ _ e))
  · rw [upd_same, List.range_succ, List.map_append]
    rfl
theorem range_get {α : Type} (xs : List α) (f : Nat → α) (h : ∀ i x, xs[i]? = some x → f i = x) : (List.range xs.length).map f = xs := by
  apply List.ext_getElem?
  intro i
  rw [List.getElem?_map]
  by_cases hi : i < xs.length
  · rw [List.getElem?_range hi, List.getElem?_eq_getElem hi]
    exact congrArg some (h i _ (List.getElem?_eq_getElem hi))
  · rw [List.getElem?_eq_none (by simpa using hi), List.getElem?_eq_none (by simpa using hi)]
    rfl
theorem dpA_len {K : PySem.W.Frag} {H : Hp} : ∀ {ds : List PyData} {vs : List V}, DpAll K H vs ds → vs.length = ds.length
  | [], _, h => by
    cases h
    rfl
  | d :: ds, _, h => by
    cases h with
    | cons _ h2 => rw [List.length_cons, List.length_cons, dpA_len h2]
theorem dpA_get {K : PySem.W.Frag} {H : Hp} : ∀ {ds : List PyData} {vs : List V} {i : Nat} {d : PyData}, DpAll K H vs ds → ds[i]? = some d → ∃ v, vs[i]? = some v ∧ Dp K H v d
  | [], _, _, _, _, e => by simp at e
  | d :: ds, _, 0, _, h, e => by
    cases h with
    | cons h1 _ =>
      have e1 : d = _ := Option.some.inj e
      subst e1
      exact ⟨_, rfl, h1⟩
  | d :: ds, _, i + 1, _, h, e => by
    cases h with
    | cons _ h2 => exact dpA_get (i := i) h2 e
theorem dpA_app {K : PySem.W.Frag} {H : Hp} : ∀ {ds es : List PyData} {vs us : List V}, DpAll K H vs ds → DpAll K H us es → DpAll K H (vs ++ us) (ds ++ es)
  | [], _, _, _, h, h' => by
    cases h
    exact h'
  | d :: ds, _, _, _, h, h' => by
    cases h with
    | cons h1 h2 => exact .cons h1 (dpA_app h2 h')
/-- a walk by its turns, whatever a turn asks -/
theorem walk_gen {J : It} {n : Nat} {G : Hp → Prop} {Y : Nat → Hp → V → Hp → Prop} (w : Walk J n G Y) {H0 : Hp} {End : Hp → Prop} {Body : (Hp → Prop) → V → Hp → Prop} (Pv : Nat → Hp → Prop) (h0 : Pv 0 H0) (hG : ∀ i H, i ≤ n → Pv i H → G H)
    (hs : ∀ i x H H', i < n → Pv i H → Y i H x H' → Body (Pv (i + 1)) x H') (hd : ∀ H, Pv n H → End H) : Turns J H0 End Body := by
  refine ⟨fun at_ left Hn => at_ + left = n ∧ Pv at_ Hn, ⟨n, Nat.zero_add n, h0⟩, fun at_ left Hn ⟨sum, holds⟩ => ?_⟩
  cases left with
  | zero =>
    have all : at_ = n := sum
    subst all
    exact Or.inl (And.intro (w.stops Hn (hG _ Hn (Nat.le_refl _) holds)) (hd Hn holds))
  | succ less =>
    have more : at_ < n := by omega
    have good := hG at_ Hn (Nat.le_of_lt more) holds
    refine Or.inr (And.intro (w.goes at_ Hn more good) ⟨Pv (at_ + 1), fun Hb next => ⟨less, Nat.lt_succ_self less, by omega, next⟩, fun item Hi given => ?_⟩)
    exact hs at_ item Hn Hi more holds (w.yields at_ Hn item Hi more good given)
theorem dpA_at {K : PySem.W.Frag} {H : Hp} : ∀ {ds : List PyData} {vs : List V} {i : Nat} {v : V}, DpAll K H vs ds → vs[i]? = some v → ∃ d, ds[i]? = some d ∧ Dp K H v d
  | _, [], _, _, _, e => by simp at e
  | _, _ :: _, 0, _, h, e => by
    cases h with
    | cons h1 _ =>
      have e1 := Option.some.inj e
      subst e1
      exact ⟨_, rfl, h1⟩
  | _, _ :: _, i + 1, _, h, e => by
    cases h with
    | cons _ h2 => exact dpA_at (i := i) h2 e
theorem take_snoc {α : Type} : ∀ {l : List α} {i : Nat} {x : α}, l[i]? = some x → l.take (i + 1) = l.take i ++ [x]
  | [], i, x, h => by simp at h
  | a :: l, 0, x, h => by
    have e : a = x := Option.some.inj h
    subst e
    rfl
  | a :: l, i + 1, x, h => by
    have ih := take_snoc (l := l) (i := i) (x := x) h
    show a :: l.take (i + 1) = a :: l.take i ++ [x]
    rw [ih]
    rfl
theorem cut1 (xs : List V) : cutV xs (some 1) none = xs.drop 1 := by
  unfold cutV
  rw [show HT.sIx xs.length 0 (some 1) = min 1 xs.length from HT.sIx_nat xs.length 0 1, HT.sIx_none]
  cases xs with
  | nil => rfl
  | cons x r =>
    rw [show min 1 (x :: r).length = 1 by
      rw [List.length_cons]
      omega]
    show (List.take ((x :: r).length - 1) r) = r
    rw [List.length_cons, Nat.add_sub_cancel]
    exact List.take_length
theorem q_c {tz : TS} {D : Ends} {σ : L2.St} {H : Hp} {i : Nat} {v : V} (h : tz D (σ.set i (some v)) H) : tSeq (tAsg (tC v) (gName i)) tz D σ H := h
theorem q_w {c : TT} {tb tz : TS} {D : Ends} {σ : L2.St} {H : Hp} (h : tWhile c tb { D with nx := tz D } σ H) : tSeq (tWhile c tb) tz D σ H := h
theorem wh_by {c : TT} {tb : TS} {D : Ends} {σ : L2.St} {H : Hp} (W : Nat → L2.St → Hp → Prop) (m0 : Nat) (h0 : W m0 σ H)
    (hs : ∀ m σ H, W m σ H → c σ H fun b H1 => if b = true then tb { D with nx := fun σ' H' => ∃ m', m' < m ∧ W m' σ' H', ct := fun σ' H' => ∃ m', m' < m ∧ W m' σ' H', bk := D.nx } σ H1 else D.nx σ H1)
    (mono : ∀ σ H Q Q', (∀ b H1, Q b H1 → Q' b H1) → c σ H Q → c σ H Q') : tWhile c tb D σ H :=
  ⟨W, ⟨m0, h0⟩, fun m σ H hw => mono _ _ _ _ (fun b H1 q => by
    cases b with
    | true => exact ⟨_, fun σ' H' h => h, q⟩
    | false => exact q) (hs m σ H hw)⟩
/-- a comprehension whose i-th item is as R says -/
theorem lc_rel {J : It} {n : Nat} {G : Hp → Prop} {Y : Nat → Hp → V → Hp → Prop} (w : Walk J n G Y) {j : Nat} {te : TE} {vs : List Nat} {σ : L2.St} {H1 : Hp} {D : Addr} {Qd : Hp → Prop} (R : Nat → V → Hp → Prop) (hz : n ≤ 50000)
    (hD : H1 D = none) (hw : ∀ x, wipe ((wipe σ vs).set j (some x)) vs = wipe σ vs) (hG : ∀ H, Same H1 H → G H) (hR : ∀ i v H H' zs, H D = some (.lst zs) → But D H H' → R i v H → R i v H')
    (he : ∀ i x H H', i < n → Same H1 H → Y i H x H' → Same H H' ∧ ∀ Q : VK, (∀ v H2, Same H' H2 → R i v H2 → Q v H2) → te ((wipe σ vs).set j (some x)) H' Q)
    (hd : ∀ ys H, Same H1 H → H D = some (.lst ys) → ys.length = n → (∀ i v, ys[i]? = some v → R i v H) → Qd H)  :
    Turns J (upd H1 D (.lst [])) Qd (LcBody D te vs j σ) := by
  refine lc_it w (fun i H => Same H1 H ∧ ∃ ys, H D = some (.lst ys) ∧ ys.length = i ∧ ∀ k v, ys[k]? = some v → R k v H) ⟨same_upd hD, [], upd_same, rfl, fun k v e => by simp at e⟩ (fun i H _ p => hG H p.1) (fun i x H H' hi p y => ?_) (fun H p => ?_)
  · obtain ⟨s1, ys, e1, el, er⟩ := p
    obtain ⟨s2, k⟩ := he i x H H' hi s1 y
    refine And.intro (hw x) ?_
    unfold tYes
    refine iteT ?_
    refine k _ fun v H2 s3 rv => ⟨ys, s3 _ _ (s2 _ _ e1), ?_, fun b o e => ?_, ys ++ [v], upd_same, ?_, fun k u eu => ?_⟩
    · exact Nat.lt_of_lt_of_le (show ys.length < 50000 by omega) (by decide)
    · have hb : b ≠ D := ne_of_none e hD
      rw [upd_ne hb]
      exact s3 _ _ (s2 _ _ (s1 _ _ e))
    · rw [List.length_append, el]
      rfl
    · have e2 : H2 D = some (.lst ys) := s3 _ _ (s2 _ _ e1)
      refine hR k u H2 _ ys e2 But.upd ?_
      by_cases hk : k < ys.length
      · rw [List.getElem?_append_left hk] at eu
        exact hR k u H H2 ys e1 (But.of (s2.trans s3)) (er k u eu)
      · have hk2 : k = ys.length := by
          have := (List.getElem?_eq_some_iff.mp eu).1
          rw [List.length_append] at this
          simp at this
          omega
        rw [hk2, List.getElem?_append_right (Nat.le_refl _), Nat.sub_self] at eu
        have eu2 := Option.some.inj eu
        subst eu2
        rw [hk2, el]
        exact rv
  · obtain ⟨s1, ys, e1, el, er⟩ := p
    exact hd ys H s1 e1 el er
theorem PoolAt.upd {H : Hp} {p l : Addr} {o : HO} (h : PoolAt H p) (n : H l = none) : PoolAt (L2.upd H l o) p := by
  obtain ⟨x, y, e, r⟩ := h
  refine ⟨x, y, ?_, r⟩
  rw [upd_ne (ne_of_none e n)]
  exact e
theorem PoolAt.ne {H : Hp} {p l : Addr} (h : PoolAt H p) (n : H l = none) : p ≠ l := by
  obtain ⟨x, y, e, r⟩ := h
  exact ne_of_none e n
theorem PoolAt.same {H H' : Hp} {p : Addr} (h : PoolAt H p) (s : Same H H') : PoolAt H' p := by
  obtain ⟨x, y, e, r⟩ := h
  exact ⟨x, y, s _ _ e, r⟩
/-- a comprehension that draws: its items are as R says, whatever is drawn -/
theorem lc_pool {J : It} {n : Nat} {Y : Nat → Hp → V → Hp → Prop} (w : Walk J n (fun _ => True) Y) {j : Nat} {te : TE} {vs : List Nat} {σ : L2.St} {H1 : Hp} {D p : Addr} {Qd : Hp → Prop} (R : V → Prop) (hz : n ≤ 50000)
    (hD : H1 D = none) (hp : PoolAt H1 p) (hw : ∀ x, wipe ((wipe σ vs).set j (some x)) vs = wipe σ vs)
    (he : ∀ i x H H', i < n → PoolAt H p → Y i H x H' → H' = H ∧ ∀ Q : VK, (∀ v H2, But p H H2 → PoolAt H2 p → R v → Q v H2) → te ((wipe σ vs).set j (some x)) H Q)
    (hd : ∀ ys H, But p H1 H → PoolAt H p → H D = some (.lst ys) → ys.length = n → (∀ v ∈ ys, R v) → Qd H)  :
    Turns J (upd H1 D (.lst [])) Qd (LcBody D te vs j σ) := by
  have npD : D ≠ p := (hp.ne hD).symm
  refine lc_it w (fun i H => But p H1 H ∧ PoolAt H p ∧ ∃ ys, H D = some (.lst ys) ∧ ys.length = i ∧ ∀ v ∈ ys, R v) ⟨But.of (same_upd hD), hp.upd hD, [], upd_same, rfl, fun v e => by simp at e⟩ (fun i H _ p => True.intro) (fun i x H H' hi q y => ?_) (fun H q => ?_)
  · obtain ⟨s1, h1, ys, e1, el, er⟩ := q
    obtain ⟨rfl, k⟩ := he i x H H' hi h1 y
    refine And.intro (hw x) ?_
    unfold tYes
    refine iteT ?_
    refine k _ fun v H2 s3 h3 rv => ⟨ys, s3 _ _ e1 npD, ?_, fun b o e nb => ?_, ?_, ys ++ [v], upd_same, ?_, fun u hu => ?_⟩
    · exact Nat.lt_of_lt_of_le (show ys.length < 50000 by omega) (by decide)
    · have hb : b ≠ D := ne_of_none e hD
      rw [upd_ne hb]
      exact s3 _ _ (s1 _ _ e nb) nb
    · obtain ⟨x, y, e, r⟩ := h3
      exact ⟨x, y, by rw [upd_ne npD.symm]; exact e, r⟩
    · rw [List.length_append, el]
      rfl
    · rcases List.mem_append.mp hu with hu | hu
      · exact er u hu
      · rw [List.mem_singleton.mp hu]
        exact rv
  · obtain ⟨s1, h1, ys, e1, el, er⟩ := q
    exact hd ys H s1 h1 e1 el er
theorem at_of {j : Nat} {xs : List V} {v : V} {z : Int} (same : z = (j : Int)) (there : xs[j]? = some v) : atI xs z = some v := same ▸ atI_nat there
/-! ### terms as data -/
def isWhole : PyData → Bool
  | .int _ => true
  | _ => false
def isValue : PyData → Bool
  | .int i => decide (0 ≤ i) && decide (i < 3)
  | _ => false
def lowCode (c : Nat) : Bool := decide (97 ≤ c) && decide (c ≤ 122)
def isName : PyData → Bool
  | .str z => decide (1 ≤ (z.length : Int)) && decide ((z.length : Int) ≤ 8) && z.cps.toList.all lowCode
  | _ => false
theorem isWhole_eq (d : PyData) : isWhole d = (isInt d && !isBool d) := by cases d <;> rfl
mutual
def szD : PyData → Bool
  | .str z => decide (z.length ≤ 1000)
  | .tuple ds => decide (ds.length ≤ 1000) && szDs ds
  | .list ds => decide (ds.length ≤ 1000) && szDs ds
  | _ => true
def szDs : List PyData → Bool
  | [] => true
  | d :: ds => szD d && szDs ds
end
theorem nlt (a b : Nat) : (!decide ([a] < [b])) = decide (b ≤ a) := by
  by_cases h : a < b
  · rw [decide_eq_true (show [a] < [b] from List.cons_lt_cons_iff.mpr (.inl h)), decide_eq_false (by omega)]
    rfl
  · have q : ¬ [a] < [b] := fun q => by
      rcases List.cons_lt_cons_iff.mp q with q | ⟨_, q⟩
      · exact h q
      · exact absurd q (List.not_lt_nil _)
    rw [decide_eq_false q, decide_eq_true (by omega)]
    rfl
theorem all_range (l : List Nat) (g : Nat → Bool) : ((List.range l.length).map fun i => g (l.getD i 0)).all id = l.all g := by
  have e : (List.range l.length).map (fun i => g (l.getD i 0)) = l.map g := by
    apply List.ext_getElem?
    intro i
    rw [List.getElem?_map, List.getElem?_map]
    by_cases hi : i < l.length
    · rw [List.getElem?_range hi, List.getElem?_eq_getElem hi]
      show some (g (l.getD i 0)) = some (g l[i])
      rw [List.getD_eq_getElem?_getD, List.getElem?_eq_getElem hi]
      rfl
    · rw [List.getElem?_eq_none (by simpa using hi), List.getElem?_eq_none (by simpa using hi)]
      rfl
  rw [e, List.all_map]
  rfl
def lenOf (z : Str) : Option Int := if z = "tick" then some 1 else if z = "plus" then some 3 else if z = "less" then some 3 else if z = "same" then some 3 else if z = "if" then some 4 else none
def callForm : PyData → Bool
  | .tuple ts => decide ((ts.length : Int) ≤ 2)
  | _ => false
def below (n : Int) : PyData → Bool
  | .int i => decide (0 ≤ i) && decide (i < n)
  | _ => false
def on1 (g : PyData → Bool) : List PyData → Bool
  | [x] => g x
  | _ => false
def on2 (g : PyData → PyData → Bool) : List PyData → Bool
  | [x, y] => g x y
  | _ => false
theorem len2 {α : Type} : ∀ {l : List α}, l.length = 2 → ∃ x y, l = [x, y]
  | [x, y], _ => ⟨x, y, rfl⟩
  | [], h => by cases h
  | [_], h => by cases h
  | _ :: _ :: _ :: _, h => by
    simp only [List.length_cons] at h
    omega
theorem on1_bad {g : PyData → Bool} : ∀ {l : List PyData}, l.length ≠ 1 → on1 g l = false
  | [], _ => rfl
  | [_], h => absurd rfl h
  | _ :: _ :: _, _ => rfl
theorem on2_bad {g : PyData → PyData → Bool} : ∀ {l : List PyData}, l.length ≠ 2 → on2 g l = false
  | [], _ => rfl
  | [_], _ => rfl
  | [_, _], h => absurd rfl h
  | _ :: _ :: _ :: _, _ => rfl
def formOf (n : Int) (z : Str) (rest : List PyData) : Bool :=
  if z = "arg" then on1 (below n) rest
  else if z = "cell" then on1 isName rest
  else if z = "call" then on2 (fun x y => isName x && callForm y) rest
  else match lenOf z with
    | some k => decide ((rest.length : Int) + 1 = k)
    | none => false
def hasForm (n : Int) (d : PyData) : Bool := isValue d || match d with
  | .tuple (.str z :: rest) => formOf n z rest
  | _ => false
theorem szD_tup {ds : List PyData} (h : szD (.tuple ds) = true) : szDs ds = true := (Bool.and_eq_true_iff.mp h).2
theorem szDs_get : ∀ {ds : List PyData} {i : Nat} {d : PyData}, szDs ds = true → ds[i]? = some d → szD d = true
  | [], _, _, _, e => by simp at e
  | d :: ds, 0, _, h, e => by
    have e1 := Option.some.inj e
    subst e1
    exact (Bool.and_eq_true_iff.mp h).1
  | d :: ds, i + 1, _, h, e => szDs_get (i := i) (Bool.and_eq_true_iff.mp h).2 e
theorem dint (a b : Int) : decide (V.int a = V.int b) = decide (a = b) := by
  by_cases h : a = b
  · rw [h, decide_eq_true rfl, decide_eq_true rfl]
  · rw [decide_eq_false h, decide_eq_false (fun q => h (V.int.inj q))]
theorem dstr (a b : Str) : decide (V.str a = V.str b) = decide (a = b) := by
  by_cases h : a = b
  · rw [h, decide_eq_true rfl, decide_eq_true rfl]
  · rw [decide_eq_false h, decide_eq_false (fun q => h (V.str.inj q))]
def second : List PyData → List PyData
  | [_, .tuple ts] => ts
  | _ => []
def inner : PyData → List PyData
  | .tuple (.str z :: rest) => if z = "arg" ∨ z = "cell" then [] else if z = "call" then second rest else rest
  | _ => []
theorem form_str {n : Int} {d : PyData} (h : hasForm n d = true) (hv : isValue d = false) : ∃ z rest, d = .tuple (.str z :: rest) ∧ formOf n z rest = true := by
  unfold hasForm at h
  rw [hv] at h
  match d, h with
  | .tuple (.str z :: rest), h => exact ⟨z, rest, rfl, h⟩
theorem in_two (z a b : Str) : inV (.str z) [.str a, .str b] = decide (z = a ∨ z = b) := by
  show ((a == z) || ((b == z) || false)) = _
  rw [Bool.or_false]
  by_cases h1 : z = a
  · subst h1
    rw [beq_self_eq_true, decide_eq_true (.inl rfl)]
    rfl
  · have e1 : (a == z) = false := beq_eq_false_iff_ne.mpr (fun q => h1 q.symm)
    rw [e1]
    by_cases h2 : z = b
    · subst h2
      rw [beq_self_eq_true, decide_eq_true (.inr rfl)]
      rfl
    · have e2 : (b == z) = false := beq_eq_false_iff_ne.mpr (fun q => h2 q.symm)
      rw [e2, decide_eq_false (fun q => q.elim h1 h2)]
      rfl
def bin (h : Str) : Prop := h = "plus" ∨ h = "less" ∨ h = "same"
inductive Gd (n : Int) : Nat → PyData → Prop
  | val {f : Nat} {i : Int} : 0 ≤ i → i < 3 → Gd n (f + 1) (.int i)
  | arg {f : Nat} {i : Int} : 0 ≤ i → i < n → Gd n (f + 1) (.tuple [.str "arg", .int i])
  | cell {f : Nat} {x : Str} : isName (.str x) = true → Gd n (f + 1) (.tuple [.str "cell", .str x])
  | tick {f : Nat} : Gd n (f + 1) (.tuple [.str "tick"])
  | call {f : Nat} {x : Str} {ts : List PyData} : isName (.str x) = true → ts.length ≤ 2 → (∀ t ∈ ts, Gd n f t) → Gd n (f + 1) (.tuple [.str "call", .str x, .tuple ts])
  | op {f : Nat} {z : Str} {ts : List PyData} : (z = "if" ∧ ts.length = 3) ∨ (bin z ∧ ts.length = 2) → (∀ t ∈ ts, Gd n f t) → Gd n (f + 1) (.tuple (.str z :: ts))
theorem op_word {z : Str} {ts : List PyData} (h : (z = "if" ∧ ts.length = 3) ∨ (bin z ∧ ts.length = 2)) : z = "if" ∨ z = "plus" ∨ z = "less" ∨ z = "same" := by
  rcases h with ⟨h, _⟩ | ⟨h, _⟩
  · exact .inl h
  · exact .inr h
theorem op_inner {z : Str} {ts : List PyData} (h : z = "if" ∨ z = "plus" ∨ z = "less" ∨ z = "same") : inner (.tuple (.str z :: ts)) = ts := by
  rcases h with rfl | rfl | rfl | rfl <;> rfl
theorem gd_inner {n : Int} {f : Nat} {d : PyData} (h : Gd n (f + 1) d) : (∀ t ∈ inner d, Gd n f t) ∧ (inner d).length ≤ 3 := by
  cases h with
  | val _ _ => exact ⟨fun t ht => (by cases ht), Nat.zero_le _⟩
  | arg _ _ => exact ⟨fun t ht => (by cases ht), Nat.zero_le _⟩
  | cell _ => exact ⟨fun t ht => (by cases ht), Nat.zero_le _⟩
  | tick => exact ⟨fun t ht => (by cases ht), Nat.zero_le _⟩
  | call _ hl ht => exact ⟨ht, Nat.le_trans hl (by decide)⟩
  | op hz ht =>
    rw [op_inner (op_word hz)]
    refine ⟨ht, ?_⟩
    rcases hz with ⟨_, h⟩ | ⟨_, h⟩ <;> omega
theorem gd_form {n : Int} {f : Nat} {d : PyData} (h : Gd n f d) : hasForm n d = true := by
  cases h with
  | val h0 h3 =>
    show (isValue (.int _) || false) = true
    have e : isValue (.int _) = true := Bool.and_eq_true_iff.mpr ⟨decide_eq_true h0, decide_eq_true h3⟩
    rw [e]
    rfl
  | arg h0 h3 => exact Bool.and_eq_true_iff.mpr ⟨decide_eq_true h0, decide_eq_true h3⟩
  | cell hx => exact hx
  | tick => rfl
  | call hx hl _ => exact Bool.and_eq_true_iff.mpr ⟨hx, decide_eq_true (by omega)⟩
  | @op f z ts hz _ =>
    rcases hz with ⟨rfl, h⟩ | ⟨rfl | rfl | rfl, h⟩
    · show decide ((ts.length : Int) + 1 = 4) = true
      exact decide_eq_true (by omega)
    · show decide ((ts.length : Int) + 1 = 3) = true
      exact decide_eq_true (by omega)
    · show decide ((ts.length : Int) + 1 = 3) = true
      exact decide_eq_true (by omega)
    · show decide ((ts.length : Int) + 1 = 3) = true
      exact decide_eq_true (by omega)
theorem szDs_of : ∀ {ts : List PyData}, (∀ t ∈ ts, szD t = true) → szDs ts = true
  | [], _ => rfl
  | t :: ts, h => by
    show (szD t && szDs ts) = true
    rw [h t List.mem_cons_self, szDs_of fun u hu => h u (List.mem_cons_of_mem _ hu)]
    rfl
theorem noLs_of : ∀ {ts : List PyData}, (∀ t ∈ ts, noL t = true) → noLs ts = true
  | [], _ => rfl
  | t :: ts, h => by
    show (noL t && noLs ts) = true
    rw [h t List.mem_cons_self, noLs_of fun u hu => h u (List.mem_cons_of_mem _ hu)]
    rfl
theorem name_sz {x : Str} (h : isName (.str x) = true) : szD (.str x) = true := by
  have h1 := Bool.and_eq_true_iff.mp (Bool.and_eq_true_iff.mp (show (decide (1 ≤ (x.length : Int)) && decide ((x.length : Int) ≤ 8) && x.cps.toList.all lowCode) = true from h)).1
  have h2 := of_decide_eq_true h1.2
  exact decide_eq_true (by omega)
theorem word_sz {z : Str} (h : z = "if" ∨ z = "plus" ∨ z = "less" ∨ z = "same") : szD (.str z) = true := by
  rcases h with rfl | rfl | rfl | rfl <;> decide +kernel
theorem gd_sz {n : Int} : ∀ (f : Nat) (d : PyData), Gd n f d → szD d = true
  | 0, _, h => nomatch h
  | f + 1, d, h => by
    cases h with
    | val _ _ => rfl
    | arg _ _ =>
      show (decide (2 ≤ 1000) && (szD (.str "arg") && (true && true))) = true
      decide +kernel
    | cell hx =>
      show (decide (2 ≤ 1000) && (szD (.str "cell") && (szD (.str _) && true))) = true
      rw [name_sz hx]
      decide +kernel
    | tick => decide +kernel
    | @call _ x ts hx hl ht =>
      show (decide (3 ≤ 1000) && (szD (.str "call") && (szD (.str x) && ((decide (ts.length ≤ 1000) && szDs ts) && true)))) = true
      rw [name_sz hx, szDs_of fun t h => gd_sz f t (ht t h), decide_eq_true (show ts.length ≤ 1000 by omega)]
      decide +kernel
    | @op _ z ts hz ht =>
      show (decide (ts.length + 1 ≤ 1000) && (szD (.str z) && szDs ts)) = true
      rw [word_sz (op_word hz), szDs_of fun t h => gd_sz f t (ht t h), decide_eq_true (show ts.length + 1 ≤ 1000 by rcases hz with ⟨_, h⟩ | ⟨_, h⟩ <;> omega)]
      rfl
theorem gd_nl {n : Int} : ∀ (f : Nat) (d : PyData), Gd n f d → noL d = true
  | 0, _, h => nomatch h
  | f + 1, d, h => by
    cases h with
    | val _ _ => rfl
    | arg _ _ => rfl
    | cell hx => rfl
    | tick => rfl
    | @call _ x ts hx hl ht =>
      show (true && (true && (noLs ts && true))) = true
      rw [noLs_of fun t h => gd_nl f t (ht t h)]
      rfl
    | @op _ z ts hz ht =>
      show (true && noLs ts) = true
      rw [noLs_of fun t h => gd_nl f t (ht t h)]
      rfl
theorem name_ok {x : Str} (h : isName (.str x) = true) : PyData.strOk x = true := by
  have h1 := (Bool.and_eq_true_iff.mp (show (decide (1 ≤ (x.length : Int)) && decide ((x.length : Int) ≤ 8) && x.cps.toList.all lowCode) = true from h)).2
  unfold PyData.strOk
  rw [← Array.all_toList]
  refine List.all_eq_true.mpr fun c hc => ?_
  have h2 := Bool.and_eq_true_iff.mp (show (decide (97 ≤ c) && decide (c ≤ 122)) = true from List.all_eq_true.mp h1 c hc)
  have h3 := of_decide_eq_true h2.2
  exact decide_eq_true (by omega)
theorem word_ok {z : Str} (h : z = "if" ∨ z = "plus" ∨ z = "less" ∨ z = "same") : PyData.strOk z = true := by
  rcases h with rfl | rfl | rfl | rfl <;> decide +kernel
theorem canLay_of : ∀ {ts : List PyData}, (∀ t ∈ ts, t.canLay0 = true) → PyData.canLayAll0 ts = true
  | [], _ => rfl
  | t :: ts, h => by
    show (t.canLay0 && PyData.canLayAll0 ts) = true
    rw [h t List.mem_cons_self, canLay_of fun u hu => h u (List.mem_cons_of_mem _ hu)]
    rfl
theorem depth_of {m : Nat} : ∀ {ts : List PyData}, (∀ t ∈ ts, t.depth ≤ m) → PyData.depthAll ts ≤ m
  | [], _ => Nat.zero_le _
  | t :: ts, h => by
    show max t.depth (PyData.depthAll ts) ≤ m
    have h1 := h t List.mem_cons_self
    have h2 := depth_of fun u hu => h u (List.mem_cons_of_mem _ hu)
    omega
theorem gd_lay {n : Int} : ∀ (f : Nat) (d : PyData), Gd n f d → d.canLay0 = true ∧ d.depth ≤ 2 * f
  | 0, _, h => nomatch h
  | f + 1, d, h => by
    cases h with
    | val _ _ => exact ⟨rfl, Nat.zero_le _⟩
    | arg _ _ =>
      refine ⟨?_, ?_⟩
      · show (PyData.strOk "arg" && (true && true)) = true
        decide +kernel
      · show (max 0 (max 0 0)) + 1 ≤ _
        omega
    | @cell _ x hx =>
      refine ⟨?_, ?_⟩
      · show (PyData.strOk "cell" && (PyData.strOk x && true)) = true
        rw [name_ok hx]
        decide +kernel
      · show (max 0 (max 0 0)) + 1 ≤ _
        omega
    | tick =>
      refine ⟨by decide +kernel, ?_⟩
      show (max 0 0) + 1 ≤ _
      omega
    | @call _ x ts hx hl ht =>
      refine ⟨?_, ?_⟩
      · show (PyData.strOk "call" && (PyData.strOk x && (PyData.canLayAll0 ts && true))) = true
        rw [name_ok hx, canLay_of fun t h => (gd_lay f t (ht t h)).1]
        decide +kernel
      · have h1 := depth_of fun t h => (gd_lay f t (ht t h)).2
        show (max 0 (max 0 (max (PyData.depthAll ts + 1) 0))) + 1 ≤ _
        omega
    | @op _ z ts hz ht =>
      refine ⟨?_, ?_⟩
      · show (PyData.strOk z && PyData.canLayAll0 ts) = true
        rw [word_ok (op_word hz), canLay_of fun t h => (gd_lay f t (ht t h)).1]
        rfl
      · have h1 := depth_of fun t h => (gd_lay f t (ht t h)).2
        show (max 0 (PyData.depthAll ts)) + 1 ≤ _
        omega
theorem gd_shaped {n : Int} {f : Nat} {d : PyData} (h : Gd n f d) (hf : f ≤ 8) : SeqAt.shaped d = true := by
  have h1 := gd_lay f d h
  exact Bool.and_eq_true_iff.mpr ⟨h1.1, decide_eq_true (by omega)⟩
theorem gd_tup {n : Int} {f : Nat} {d : PyData} (h : Gd n f d) : (∃ i, d = .int i ∧ 0 ≤ i ∧ i < 3) ∨ ∃ z rest, d = .tuple (.str z :: rest) ∧ (z = "call" → ∃ x ts, rest = [.str x, .tuple ts]) ∧ (z = "tick" → rest = []) := by
  cases h with
  | val h0 h3 => exact .inl ⟨_, rfl, h0, h3⟩
  | arg _ _ => exact .inr ⟨"arg", _, rfl, fun e => absurd e (by decide +kernel), fun e => absurd e (by decide +kernel)⟩
  | cell _ => exact .inr ⟨"cell", _, rfl, fun e => absurd e (by decide +kernel), fun e => absurd e (by decide +kernel)⟩
  | tick => exact .inr ⟨"tick", _, rfl, fun e => absurd e (by decide +kernel), fun _ => rfl⟩
  | call _ _ _ => exact .inr ⟨"call", _, rfl, fun _ => ⟨_, _, rfl⟩, fun e => absurd e (by decide +kernel)⟩
  | @op _ z ts hz _ =>
    refine .inr ⟨z, ts, rfl, fun e => ?_, fun e => ?_⟩
    · rcases op_word hz with h | h | h | h <;> (rw [h] at e; exact absurd e (by decide +kernel))
    · rcases op_word hz with h | h | h | h <;> (rw [h] at e; exact absurd e (by decide +kernel))
/-! ### values and names -/
abbrev sWhole : Stmt := topS 9
abbrev sValue : Stmt := topS 10
abbrev sName : Stmt := topS 11
theorem scWhole : FnScope ["value"] ["value"] (defScope sWhole) := ⟨rfl, rfl, rfl, by decide +kernel, rfl, by decide +kernel, by decide +kernel⟩
theorem scValue : FnScope ["value"] ["value"] (defScope sValue) := ⟨rfl, rfl, rfl, by decide +kernel, rfl, by decide +kernel, by decide +kernel⟩
theorem scName : FnScope ["value", "letter"] ["value"] (defScope sName) := ⟨rfl, rfl, rfl, by decide +kernel, rfl, by decide +kernel, by decide +kernel⟩
def spB (K : PySem.W.Frag) (g : PyData → Bool) : Sp := fun vs H Q _ => ∃ (v : V) (d : PyData), vs = [v] ∧ Dp K H v d ∧ szD d = true ∧ ∀ H', Same H H' → Q (.bl (g d)) H'
structure CellsTxt (K : PySem.W.Frag) (mg : Str → Option Value) : Prop where
  vals : ∃ aV, mg "VALUES" = some (.ref aV) ∧ ∀ H : Hp, SqT K H aV [.int 0, .int 1, .int 2]
  long : ∃ t, mg "LONGEST_NAME" = some (.int 8 t)
section
variable {P : Program} {w : World} {K : PySem.W.Frag} {mg : Str → Option Value} {base : Heap}
theorem ok_whole {f : Addr} {fd : FuncData} (F : Fun K "is_whole" "is_whole" sWhole f fd) (M : Blt mg) : FnOk P w K mg base CX0 1 f fd ["value"] (spB K isWhole) := by
  refine F.ok scWhole (fun vs H Q E h => ?_) (fun cdv A outer s H vs Q E hr h => ?_)
  · obtain ⟨v, d, rfl, _⟩ := h
    rfl
  · obtain ⟨v, d, rfl, hv, hsz, q'⟩ := h
    have q := q' H (Same.refl H)
    refine ⟨_, pss_one (ps_ret (pe_and (pe_callB call_isi (by rfl) M.isinstance (by decide +kernel) (pa_cons (pv 0) (pa_cons (pe_bltn (v := .ty "int") (by rfl) M.int (by decide +kernel) rfl) pa_nil)))
      (pe_one (pe_not (pe_callB call_isi (by rfl) M.isinstance (by decide +kernel) (pa_cons (pv 0) (pa_cons (pe_bltn (v := .ty "bool") (by rfl) M.bool (by decide +kernel) rfl) pa_nil))))))), ?_⟩
    rw [isWhole_eq] at q
    refine ⟨v, rfl, v, _, _, _, _, rfl, .ty "int", dp_ty hv, kit_int K d, _, rfl, ?_⟩
    cases hi : isInt d with
    | true =>
      refine iteT ⟨v, rfl, v, _, _, _, _, rfl, .ty "bool", dp_ty hv, kit_bool K d, _, rfl, ?_⟩
      rw [hi] at q
      exact q
    | false =>
      rw [hi] at q
      exact iteF q
theorem ok_value {f fW : Addr} {fd fdW : FuncData} (F : Fun K "is_value" "is_value" sValue f fd) (M : Blt mg) (T : CellsTxt K mg) (FW : Fun K "is_whole" "is_whole" sWhole fW fdW) (bW : Binds K fdW ["value"] []) (gW : mg "is_whole" = some (.ref fW)) :
    FnOk P w K mg base CX0 2 f fd ["value"] (spB K isValue) := by
  have GW : FnOk P w K mg base CX0 1 fW fdW ["value"] (spB K isWhole) := ok_whole FW M
  obtain ⟨aV, gV, sV⟩ := T.vals
  refine F.ok scValue (fun vs H Q E h => ?_) (fun cdv A outer s H vs Q E hr h => ?_)
  · obtain ⟨v, d, rfl, _⟩ := h
    rfl
  · obtain ⟨v, d, rfl, hv, hsz, q'⟩ := h
    have q := q' H (Same.refl H)
    refine ⟨_, pss_one (ps_ret (pe_and (pe_call GW hr (by rfl) gW FW.kp bW .nil pass0 (pa_cons (pv 0) pa_nil))
      (pe_one (pe_chain op_le op_lt pe_int (pv 0) (pe_callB call_len_seq (by rfl) M.len PySem.boot_len (pa_cons (pe_glob (v := .ref aV) (by rfl) gV rfl) pa_nil)))))), ?_⟩
    refine ⟨v, rfl, v, d, rfl, hv, hsz, fun H1 s1 => ⟨_, rfl, ?_⟩⟩
    replace q := q' H1 s1
    cases d with
    | int i =>
      cases hv
      refine iteT ⟨_, rfl, _, _, rfl, rfl, _, rfl, ?_⟩
      cases h0 : decide (0 ≤ i) with
      | false =>
        refine iteF ?_
        have e : isValue (.int i) = false := by
          show (decide (0 ≤ i) && decide (i < 3)) = false
          rw [h0] <;> rfl
        rw [e] at q
        exact q
      | true =>
        refine iteT ⟨aV, _, rfl, .inr (sV _), _, _, rfl, rfl, ?_⟩
        have e : isValue (.int i) = decide (i < 3) := by
          show (decide (0 ≤ i) && decide (i < 3)) = _
          rw [h0] <;> rfl
        rw [e] at q
        exact q
    | none => exact iteF q
    | bool b => exact iteF q
    | str z => exact iteF q
    | list ds => exact iteF q
    | tuple ds => exact iteF q
    | dict kvs => exact iteF q
theorem ok_name {f : Addr} {fd : FuncData} (F : Fun K "is_name" "is_name" sName f fd) (M : Blt mg) (T : CellsTxt K mg) : FnOk P w K mg base CX0 1 f fd ["value"] (spB K isName) := by
  obtain ⟨tl, gL⟩ := T.long
  refine F.ok scName (fun vs H Q E h => ?_) (fun cdv A outer s H vs Q E hr h => ?_)
  · obtain ⟨v, d, rfl, _⟩ := h
    rfl
  · obtain ⟨v, d, rfl, hv, hsz, q'⟩ := h
    have q := q' H (Same.refl H)
    refine ⟨_, pss_cons (ps_if (PW.pt (pw_or (pt_not (pt_val (pe_callB call_isi (by rfl) M.isinstance (by decide +kernel) (pa_cons (pv 0) (pa_cons (pe_bltn (v := .ty "str") (by rfl) M.str (by decide +kernel) rfl) pa_nil)))))
        (pw_or1 (pt_not (pt_chain op_le op_le pe_int (pe_callB call_len (by rfl) M.len PySem.boot_len (pa_cons (pv 0) pa_nil)) (pe_glob (v := .int 8) (by rfl) gL ⟨_, rfl⟩)))))) (pss_one (ps_ret pe_bl)) pss_nil)
      (pss_one (ps_ret (pe_callB (cr_all rfl) (by rfl) M.all (by decide +kernel) (pa_cons
        (pe_lc (own := [("letter", 1)]) (g := gName 1) (by rfl) scName.nd (pi_str (pv 0)) (blkOk_by (own := [("letter", 1)]) (N := ["value", "letter"]) (sc := defScope sName) (by decide +kernel))
          (fun _ _ _ _ _ => pg_name (i := 1) scName.nd rfl (Or.inl rfl)) (fun _ _ _ _ _ => pts_nil) (fun _ _ _ _ _ => pe_chain op_le_str op_le_str pe_str (pv 1) pe_str)) pa_nil)))), ?_⟩
    have no : isName d = false → Q (.bl false) H := fun e => by
      rw [e] at q
      exact q
    refine ⟨v, rfl, v, _, _, _, _, rfl, .ty "str", dp_ty hv, kit_str K d, _, rfl, ?_⟩
    cases d with
    | str z =>
      cases hv
      refine iteF ?_
      have hzl : z.length ≤ sizeLine := Nat.le_trans (of_decide_eq_true hsz) (by decide)
      by_cases hz : z.length ≤ 8
      · refine ⟨.str z, rfl, .str z, z.length, rfl, ⟨hzl, rfl⟩, _, _, rfl, rfl, _, rfl, ?_⟩
        cases h1 : decide (1 ≤ (z.length : Int)) with
        | false =>
          refine iteF ⟨_, rfl, iteT (no ?_)⟩
          show (decide (1 ≤ (z.length : Int)) && decide ((z.length : Int) ≤ 8) && z.cps.toList.all lowCode) = false
          rw [h1]
          rfl
        | true =>
          refine iteT ⟨_, _, rfl, rfl, _, rfl, ?_⟩
          have h2 : decide ((z.length : Int) ≤ 8) = true := decide_eq_true (by omega)
          rw [h2]
          refine iteF ⟨_, rfl, z, rfl, fun D hD => ?_⟩
          have ln : z.cps.size ≤ 8 := hz
          refine lc_vals (vs := [1]) (j := 1) (σ := [some (.str z), none]) walk_str (fun i => .bl (lowCode (z.cps.getD i 0))) (by omega) hD (fun x => rfl) (fun _ _ => True.intro) (fun i x H0 H' hi s1 y => ?_) (fun H' s1 e1 => ?_)
          · obtain ⟨rfl, c, hc, rfl⟩ := y
            have gc : z.cps.getD i 0 = c := by
              rw [Array.getD_eq_getD_getElem?, hc]
              rfl
            refine ⟨Same.refl _, fun Q2 q2 => ⟨_, rfl, _, _, rfl, rfl, _, rfl, ?_⟩⟩
            show if (!decide ([c] < [97])) = true then _ else _
            rw [nlt c 97]
            cases h3 : decide (97 ≤ c) with
            | false =>
              refine iteF ?_
              have e : lowCode (z.cps.getD i 0) = false := by
                rw [gc]
                show (decide (97 ≤ c) && decide (c ≤ 122)) = false
                rw [h3]
                rfl
              have q3 := q2 _ (Same.refl _)
              rw [e] at q3
              exact q3
            | true =>
              refine iteT ⟨_, _, rfl, rfl, ?_⟩
              have e : lowCode (z.cps.getD i 0) = (!decide ([122] < [c])) := by
                rw [gc, nlt 122 c]
                show (decide (97 ≤ c) && decide (c ≤ 122)) = _
                rw [h3]
                rfl
              have q3 := q2 _ (Same.refl _)
              rw [e] at q3
              exact q3
          · refine ⟨D, (List.range z.cps.size).map (fun i => lowCode (z.cps.getD i 0)), rfl, .inl (.inl ?_), ?_⟩
            · rw [e1, List.map_map]
              rfl
            · have e : ((List.range z.cps.size).map fun i => lowCode (z.cps.getD i 0)).all id = z.cps.toList.all lowCode := by
                rw [← all_range z.cps.toList lowCode]
                have ez : z.cps.toList.length = z.cps.size := by simp
                rw [ez]
                have eg : (fun i => lowCode (z.cps.getD i 0)) = fun i => lowCode (z.cps.toList.getD i 0) := by
                  funext i
                  rw [Array.getD_eq_getD_getElem?, List.getD_eq_getElem?_getD, Array.getElem?_toList]
                rw [eg]
              have e2 : isName (.str z) = z.cps.toList.all lowCode := by
                show (decide (1 ≤ (z.length : Int)) && decide ((z.length : Int) ≤ 8) && z.cps.toList.all lowCode) = _
                rw [h1, h2]
                rfl
              have q2 := q' H' s1
              rw [e2] at q2
              rw [e]
              exact q2
      · have nz : isName (.str z) = false := by
          show (decide (1 ≤ (z.length : Int)) && decide ((z.length : Int) ≤ 8) && z.cps.toList.all lowCode) = false
          rw [decide_eq_false (show ¬ (z.length : Int) ≤ 8 by omega), Bool.and_false]
          rfl
        refine ⟨.str z, rfl, .str z, z.length, rfl, ⟨hzl, rfl⟩, _, _, rfl, rfl, _, rfl, ?_⟩
        rw [decide_eq_true (show 1 ≤ (z.length : Int) by omega)]
        refine iteT ⟨_, _, rfl, rfl, _, rfl, ?_⟩
        rw [decide_eq_false (show ¬ (z.length : Int) ≤ 8 by omega)]
        exact iteT (no nz)
    | none => exact iteT (no rfl)
    | bool b => exact iteT (no rfl)
    | int i => exact iteT (no rfl)
    | list ds => exact iteT (no rfl)
    | tuple ds => exact iteT (no rfl)
    | dict kvs => exact iteT (no rfl)
end
/-! ### dicts whose keys are tuples within tuples -/
mutual
def nk : PyData → NestedKey
  | .none => .none
  | .bool b => .num (if b = true then 1 else 0)
  | .int i => .num i
  | .str x => .text x
  | .tuple ds => .tup (nks ds)
  | .list _ => .none
  | .dict _ => .none
def nks : List PyData → List NestedKey
  | [] => []
  | d :: ds => nk d :: nks ds
end
-- ints, texts and tuples of these alone
mutual
def plainD : PyData → Bool
  | .int _ => true
  | .str _ => true
  | .tuple ds => plainDs ds
  | _ => false
def plainDs : List PyData → Bool
  | [] => true
  | d :: ds => plainD d && plainDs ds
end
mutual
theorem nk_inj : ∀ d e : PyData, plainD d = true → plainD e = true → nk d = nk e → d = e
  | .int i, e, _, h2, h => by
    cases e with
    | int j => exact congrArg PyData.int (NestedKey.num.inj h)
    | _ => first | (simp [nk] at h; done) | (simp [plainD] at h2; done)
  | .str x, e, _, h2, h => by
    cases e with
    | str j => exact congrArg PyData.str (NestedKey.text.inj h)
    | _ => first | (simp [nk] at h; done) | (simp [plainD] at h2; done)
  | .tuple ds, e, h1, h2, h => by
    cases e with
    | tuple es => exact congrArg PyData.tuple (nks_inj ds es h1 h2 (NestedKey.tup.inj h))
    | _ => first | (simp [nk] at h; done) | (simp [plainD] at h2; done)
  | .none, _, h1, _, _ => by simp [plainD] at h1
  | .bool _, _, h1, _, _ => by simp [plainD] at h1
  | .list _, _, h1, _, _ => by simp [plainD] at h1
  | .dict _, _, h1, _, _ => by simp [plainD] at h1
theorem nks_inj : ∀ ds es : List PyData, plainDs ds = true → plainDs es = true → nks ds = nks es → ds = es
  | [], [], _, _, _ => rfl
  | [], _ :: _, _, _, h => by simp [nks] at h
  | _ :: _, [], _, _, h => by simp [nks] at h
  | d :: ds, e :: es, h1, h2, h => by
    have a1 := Bool.and_eq_true_iff.mp (show (plainD d && plainDs ds) = true from h1)
    have a2 := Bool.and_eq_true_iff.mp (show (plainD e && plainDs es) = true from h2)
    have q := List.cons.inj (show nk d :: nks ds = nk e :: nks es from h)
    rw [nk_inj d e a1.1 a2.1 q.1, nks_inj ds es a1.2 a2.2 q.2]
end
mutual
theorem plain_nl : ∀ d : PyData, plainD d = true → noL d = true
  | .int _, _ => rfl
  | .str _, _ => rfl
  | .tuple ds, h => plains_nl ds h
  | .none, h => by simp [plainD] at h
  | .bool _, h => by simp [plainD] at h
  | .list _, h => by simp [plainD] at h
  | .dict _, h => by simp [plainD] at h
theorem plains_nl : ∀ ds : List PyData, plainDs ds = true → noLs ds = true
  | [], _ => rfl
  | d :: ds, h => by
    have a1 := Bool.and_eq_true_iff.mp (show (plainD d && plainDs ds) = true from h)
    show (noL d && noLs ds) = true
    rw [plain_nl d a1.1, plains_nl ds a1.2]
    rfl
end
theorem plainDs_of : ∀ {ts : List PyData}, (∀ t ∈ ts, plainD t = true) → plainDs ts = true
  | [], _ => rfl
  | t :: ts, h => by
    show (plainD t && plainDs ts) = true
    rw [h t List.mem_cons_self, plainDs_of fun u hu => h u (List.mem_cons_of_mem _ hu)]
    rfl
section
variable {X : Cx} {pins : List (Addr × Obj)} {σ : L2.St} {H : Hp} {s : Shared}
mutual
theorem nk_is (I : Inv X pins σ H s) : ∀ (d : PyData) (v : V) (u : Value), Dp X.K H v d → plainD d = true → RelV v u → NestedIs s.heap (nk d) u
  | .int i, _, _, h, _, r => by
    cases h
    obtain ⟨t, rfl⟩ := r
    exact .int i t
  | .str x, _, _, h, _, r => by
    cases h
    obtain ⟨t, rfl⟩ := r
    exact .text x t
  | .tuple ds, _, _, h, p, r => by
    cases h with
    | tup hs ha =>
      cases r
      obtain ⟨its, rv, ⟨o, ho, hc, n, hd⟩, _⟩ := I.tuple hs
      exact .tup ho hc hd (by simpa using nks_is I ds _ its ha p rv)
  | .none, _, _, _, p, _ => by simp [plainD] at p
  | .bool _, _, _, _, p, _ => by simp [plainD] at p
  | .list _, _, _, _, p, _ => by simp [plainD] at p
  | .dict _, _, _, _, p, _ => by simp [plainD] at p
theorem nks_is (I : Inv X pins σ H s) : ∀ (ds : List PyData) (vs : List V) (us : List Value), DpAll X.K H vs ds → plainDs ds = true → Vals vs us → NestedAll s.heap (nks ds) us
  | [], _, _, h, _, r => by
    cases h
    cases r
    exact .nil
  | d :: ds, _, _, h, p, r => by
    have a1 := Bool.and_eq_true_iff.mp (show (plainD d && plainDs ds) = true from p)
    cases h with
    | cons h1 h2 =>
      cases r with
      | cons r1 r2 => exact .cons (nk_is I d _ _ h1 a1.1 r1) (nks_is I ds _ _ h2 a1.2 r2)
end
end
abbrev NX := NestedKey × Addr × V
abbrev NY := NestedKey × Addr × Value
def NP (ks : List NX) (xs : List NY) : Prop := Paired (fun p q => p.1 = q.1 ∧ p.2.1 = q.2.1 ∧ RelV p.2.2 q.2.2) ks xs
/-- the object of such a dict: its keys, where they stand, its values -/
def NDo (P : Program) (w : World) (a : Addr) (ks : List NX) : HO := .ext fun h => ks.length ≤ sizeLine ∧ (a == sysModules) = false ∧ ∃ xs : List NY, NP ks xs ∧
  ∃ o es ep, h.get? a = some o ∧ o.ExactDict ∧ o.data = .dict es ep ∧ es.toList = xs.map (entryOfKey (nestedKind P w)) ∧ (xs.map (·.1)).Nodup
/-- a key of such a dict -/
def NKey (K : PySem.W.Frag) (H : Hp) (y : V) (k : NestedKey) : Prop := ∃ d b, y = .ref b ∧ k = nk d ∧ Dp K H y d ∧ plainD d = true ∧ k.depth ≤ 8
def kvsOf (ks : List NX) : List (NestedKey × V) := ks.map fun x => (x.1, x.2.2)
/-- such a dict stands at a -/
def NDAt (P : Program) (w : World) (K : PySem.W.Frag) (H : Hp) (a : Addr) (kvs : List (NestedKey × V)) : Prop :=
  ∃ ks, H a = some (NDo P w a ks) ∧ kvs = kvsOf ks ∧ ∀ x ∈ ks, NKey K H (.ref x.2.1) x.1
def NGet (P : Program) (w : World) (K : PySem.W.Frag) (H : Hp) (a : Addr) (y : V) (r : Option V) : Prop := ∃ kvs k, NDAt P w K H a kvs ∧ NKey K H y k ∧ r = valV kvs k
theorem ndo_tup {P : Program} {w : World} {a : Addr} {ks : List NX} {xs : List V} : NDo P w a ks ≠ .tup xs := fun z => by
  unfold NDo at z
  cases z
theorem ndo_frz {P : Program} {w : World} {a : Addr} {ks : List NX} {o : Obj} {u : HO} : NDo P w a ks ≠ .frz o u := fun z => by
  unfold NDo at z
  cases z
theorem nd_sqT {P : Program} {w : World} {K : PySem.W.Frag} {H H' : Hp} {g : Addr} {ks : List NX} (e : H g = some (NDo P w g ks)) (b : But g H H') {a : Addr} {xs : List V} (h : SqT K H a xs) : SqT K H' a xs := by
  rcases h with (h | ⟨o, h⟩) | h
  · exact .inl (.inl (b _ _ h (ne_of h e (fun z => ndo_tup z.symm))))
  · exact .inl (.inr ⟨o, b _ _ h (ne_of h e (fun z => ndo_frz z.symm))⟩)
  · exact .inr h
theorem NKey.of {K : PySem.W.Frag} {H H' : Hp} {y : V} {k : NestedKey} (h : NKey K H y k) (ht : ∀ a xs, SqT K H a xs → SqT K H' a xs) : NKey K H' y k := by
  obtain ⟨d, b, e, ek, dp, p, l⟩ := h
  exact ⟨d, b, e, ek, dp_tups ht d y (plain_nl d p) dp, p, l⟩
theorem NDAt.of {P : Program} {w : World} {K : PySem.W.Frag} {H H' : Hp} {a : Addr} {kvs : List (NestedKey × V)} (h : NDAt P w K H a kvs) (ha : ∀ o, H a = some o → H' a = some o) (ht : ∀ a xs, SqT K H a xs → SqT K H' a xs) : NDAt P w K H' a kvs := by
  obtain ⟨ks, e, ek, h⟩ := h
  exact ⟨ks, ha _ e, ek, fun x hx => (h x hx).of ht⟩
theorem NDAt.same {P : Program} {w : World} {K : PySem.W.Frag} {H H' : Hp} {a : Addr} {kvs : List (NestedKey × V)} (h : NDAt P w K H a kvs) (s : Same H H') : NDAt P w K H' a kvs := h.of (fun _ e => s _ _ e) (fun _ _ => same_sqT s)
theorem NP.len {ks : List NX} {xs : List NY} (h : NP ks xs) : ks.length = xs.length := Paired.length h
theorem NP.val {ks : List NX} {xs : List NY} (h : NP ks xs) (k : NestedKey) : RelO (valV (kvsOf ks) k) ((atKey xs k).map (·.2)) := by
  unfold NP at h
  induction h with
  | nil => exact True.intro
  | @cons p q ps qs hq t ih =>
    obtain ⟨e1, e2, e3⟩ := hq
    by_cases e : p.1 = k
    · rw [show valV (kvsOf (p :: ps)) k = some p.2.2 from valV_pos (p := (p.1, p.2.2)) e]
      have : atKey (q :: qs) k = some q.2 := by
        unfold atKey
        rw [List.find?_cons, decide_eq_true (e1 ▸ e)]
        rfl
      rw [this]
      exact e3
    · rw [show valV (kvsOf (p :: ps)) k = valV (kvsOf ps) k from valV_neg (p := (p.1, p.2.2)) e]
      have : atKey (q :: qs) k = atKey qs k := by
        unfold atKey
        rw [List.find?_cons, decide_eq_false (e1 ▸ e)]
      rw [this]
      exact ih
/-- in its place, or at the end -/
def putX (ks : List NX) (k : NestedKey) (b : Addr) (v : V) : List NX := if (ks.any fun x => decide (x.1 = k)) = true then ks.map (fun x => if x.1 = k then (x.1, x.2.1, v) else x) else ks ++ [(k, b, v)]
theorem putX_kvs (ks : List NX) (k : NestedKey) (b : Addr) (v : V) : kvsOf (putX ks k b v) = putK (kvsOf ks) k v := by
  unfold putX putK kvsOf
  rw [List.any_map]
  have e : ((fun kv : NestedKey × V => decide (kv.1 = k)) ∘ fun x : NX => (x.1, x.2.2)) = fun x => decide (x.1 = k) := rfl
  rw [e]
  by_cases h : (ks.any fun x => decide (x.1 = k)) = true
  · rw [if_pos h, if_pos h, List.map_map, List.map_map]
    apply List.map_congr_left
    intro x _
    show (_, _) = _
    by_cases hx : x.1 = k
    · simp [hx]
    · simp [hx]
  · rw [if_neg h, if_neg h, List.map_append]
    rfl
theorem NP.any {ks : List NX} {xs : List NY} (h : NP ks xs) (k : NestedKey) : (ks.any fun x => decide (x.1 = k)) = xs.any fun x => decide (x.1 = k) := by
  unfold NP at h
  induction h with
  | nil => rfl
  | @cons p q ps qs hq t ih => rw [List.any_cons, List.any_cons, ih, hq.1]
theorem NP.repl {ks : List NX} {xs : List NY} (h : NP ks xs) (k : NestedKey) {v : V} {u : Value} (r : RelV v u) : NP (ks.map fun x => if x.1 = k then (x.1, x.2.1, v) else x) (xs.map (putAt k u)) := by
  unfold NP at h
  induction h with
  | nil => exact .nil
  | @cons p q ps qs hq t ih =>
    refine .cons ?_ ih
    obtain ⟨e1, e2, e3⟩ := hq
    unfold putAt
    dsimp only
    by_cases e : p.1 = k
    · rw [if_pos e, if_pos (e1 ▸ e)]
      exact ⟨e1, e2, r⟩
    · rw [if_neg e, if_neg (e1 ▸ e)]
      exact ⟨e1, e2, e3⟩
theorem NP.snoc {ks : List NX} {xs : List NY} (h : NP ks xs) (k : NestedKey) (b : Addr) {v : V} {u : Value} (r : RelV v u) : NP (ks ++ [(k, b, v)]) (xs ++ [(k, b, u)]) := by
  unfold NP at h
  induction h with
  | nil => exact .cons ⟨rfl, rfl, r⟩ .nil
  | cons hq t ih => exact .cons hq ih
theorem valX_any (ks : List NX) (k : NestedKey) : (ks.any fun x => decide (x.1 = k)) = (valV (kvsOf ks) k).isSome := by
  rw [← valV_any]
  unfold kvsOf
  rw [List.any_map]
  rfl
theorem NP.put {ks : List NX} {xs : List NY} (r : NP ks xs) (k : NestedKey) (b : Addr) {v : V} {u : Value} (ry : RelV v u) : NP (putX ks k b v) (storedH xs k b u) := by
  have e : (ks.any fun x => decide (x.1 = k)) = (atKey xs k).isSome := by
    rw [valX_any, (r.val k).isSome_eq, Option.isSome_map]
  unfold putX storedH
  rw [e]
  by_cases q : (atKey xs k).isSome = true
  · rw [if_pos q, if_pos q]
    exact r.repl k ry
  · rw [if_neg q, if_neg q]
    exact r.snoc k b ry
theorem putX_len (ks : List NX) (k : NestedKey) (b : Addr) (v : V) : (putX ks k b v).length ≤ ks.length + 1 := by
  unfold putX
  split
  · rw [List.length_map]
    omega
  · rw [List.length_append]
    exact Nat.le_refl _
theorem putX_mem {ks : List NX} {k : NestedKey} {b : Addr} {v : V} {x : NX} (h : x ∈ putX ks k b v) : (∃ y ∈ ks, y.1 = x.1 ∧ y.2.1 = x.2.1) ∨ (x.1 = k ∧ x.2.1 = b) := by
  unfold putX at h
  split at h
  · obtain ⟨y, hy, e⟩ := List.mem_map.mp h
    refine .inl ⟨y, hy, ?_⟩
    by_cases q : y.1 = k
    · rw [if_pos q] at e
      subst e
      exact ⟨rfl, rfl⟩
    · rw [if_neg q] at e
      subst e
      exact ⟨rfl, rfl⟩
  · rcases List.mem_append.mp h with h | h
    · exact .inl ⟨x, h, rfl, rfl⟩
    · rw [List.mem_singleton.mp h]
      exact .inr ⟨rfl, rfl⟩
section
variable {X : Cx} {pins : List (Addr × Obj)} {σ : L2.St} {H : Hp} {s : Shared} {a : Addr} {y v : V} {u r : Value} {o : Option V} {A : Around} {E : Value → Shared → Prop}
theorem NKey.is (I : Inv X pins σ H s) {b : Addr} {k : NestedKey} (h : NKey X.K H (.ref b) k) : (nestedKind X.prog X.w).is s.heap k b := by
  obtain ⟨d, c, e, ek, dp, p, l⟩ := h
  subst ek
  exact ⟨nk_is I d _ _ dp p rfl, l⟩
theorem nd_dict (I : Inv X pins σ H s) {kvs : List (NestedKey × V)} (h : NDAt X.prog X.w X.K H a kvs) : ∃ ks xs, H a = some (NDo X.prog X.w a ks) ∧ kvs = kvsOf ks ∧ (∀ x ∈ ks, NKey X.K H (.ref x.2.1) x.1) ∧ ks.length ≤ sizeLine ∧ (a == sysModules) = false ∧ NP ks xs ∧ s.heap.DictOfH (nestedKind X.prog X.w) a xs := by
  obtain ⟨ks, e, ek, hk⟩ := h
  obtain ⟨⟨z, hd, xs, rel, ob, es, ep, h1, h2, h3, h4, h5⟩, _⟩ := (show ObjOk X.prog X.w H s.heap a (NDo X.prog X.w a ks) from I.hok a _ e)
  refine ⟨ks, xs, e, ek, hk, z, hd, rel, ob, es, ep, h1, h2, h3, h4, fun x hx => ?_, h5⟩
  have all : ∀ {l : List NX} {m : List NY}, NP l m → (∀ x ∈ l, NKey X.K H (.ref x.2.1) x.1) → ∀ x ∈ m, (nestedKind X.prog X.w).is s.heap x.1 x.2.1 := by
    intro l m q
    unfold NP at q
    induction q with
    | nil => intro _ x hx; exact nomatch hx
    | @cons p q ps qs hq t ih =>
      intro hl x hx
      rcases List.mem_cons.mp hx with e | hx
      · subst e
        have := (hl p List.mem_cons_self).is I
        rw [hq.1, hq.2.1] at this
        exact this
      · exact ih (fun x hx => hl x (List.mem_cons_of_mem _ hx)) x hx
  exact all rel hk x hx
theorem n_room (hu : A.units + 20 < cLine) : (nestedKind X.prog X.w).room A.in1 := by
  show A.in1.units + 8 < cLine
  have : A.in1.units ≤ A.units + 1 := Nat.le_refl _
  omega
theorem n_getItem {Q : Value → Shared → Prop} (hu : A.units + 20 < cLine) (I : Inv X pins σ H s) (g : NGet X.prog X.w X.K H a y (some v)) (ry : RelV y u) (h : ∀ w' s', Inv X pins σ H s' → RelV v w' → Q w' s') :
    wpAny (model X.prog X.w) A (getItem (.ref a) u) Q E s := by
  obtain ⟨kvs, k, d, hk, l⟩ := g
  obtain ⟨ks, xs, e, rfl, hks, z, hd, rel, dd⟩ := nd_dict I d
  obtain ⟨b, rfl⟩ : ∃ b, y = .ref b := let ⟨_, b, e, _⟩ := hk; ⟨b, e⟩
  cases (show u = Value.ref b from ry)
  obtain ⟨w', hw, rw'⟩ := RelO.some_of (v := v) (o := (atKey xs k).map (·.2)) (by rw [l]; exact rel.val k)
  obtain ⟨p, hp, hp2⟩ := Option.map_eq_some_iff.mp hw
  refine wpAny_getItem_heap (n_room hu) (hk.is I) dd hp ?_
  rw [hp2]
  exact h w' _ (I.tok _) rw'
theorem n_in {Q : Value → Shared → Prop} (hu : A.units + 20 < cLine) (I : Inv X pins σ H s) (g : NGet X.prog X.w X.K H a y o) (ry : RelV y u) (h : ∀ s', Inv X pins σ H s' → Q (.bool o.isSome) s') :
    wpAny (model X.prog X.w) A (compareOp .In u (.ref a)) Q E s := by
  obtain ⟨kvs, k, d, hk, l⟩ := g
  obtain ⟨ks, xs, e, rfl, hks, z, hd, rel, dd⟩ := nd_dict I d
  obtain ⟨b, rfl⟩ : ∃ b, y = .ref b := let ⟨_, b, e, _⟩ := hk; ⟨b, e⟩
  cases (show u = Value.ref b from ry)
  refine wpAny_in_heap (n_room hu) (hk.is I) hd dd ?_
  have q := (rel.val k).isSome_eq
  rw [Option.isSome_map] at q
  rw [← q, ← l]
  exact h _ (I.tok _)
theorem n_notIn {Q : Value → Shared → Prop} (hu : A.units + 20 < cLine) (I : Inv X pins σ H s) (g : NGet X.prog X.w X.K H a y o) (ry : RelV y u) (h : ∀ s', Inv X pins σ H s' → Q (.bool (!o.isSome)) s') :
    wpAny (model X.prog X.w) A (compareOp .NotIn u (.ref a)) Q E s := by
  obtain ⟨kvs, k, d, hk, l⟩ := g
  obtain ⟨ks, xs, e, rfl, hks, z, hd, rel, dd⟩ := nd_dict I d
  obtain ⟨b, rfl⟩ : ∃ b, y = .ref b := let ⟨_, b, e, _⟩ := hk; ⟨b, e⟩
  cases (show u = Value.ref b from ry)
  refine wpAny_notIn_heap (n_room hu) (hk.is I) hd dd ?_
  have q := (rel.val k).isSome_eq
  rw [Option.isSome_map] at q
  rw [← q, ← l]
  exact h _ (I.tok _)
theorem n_setItem {kvs : List (NestedKey × V)} {k : NestedKey} {Q : Unit → Shared → Prop} (hu : A.units + 20 < cLine) (I : Inv X pins σ H s) (d : NDAt X.prog X.w X.K H a kvs) (hk : NKey X.K H y k) (hl : kvs.length < sizeLine) (ry : RelV y u) (rv : RelV v r)
    (h : ∀ H' s', Inv X pins σ H' s' → NDAt X.prog X.w X.K H' a (putK kvs k v) → But a H H' → (∀ b, H b = none → H' b = none) → Q () s') :
    wpAny (model X.prog X.w) A (setItem (.ref a) u r) Q E s := by
  obtain ⟨ks, xs, e, rfl, hks, z, hd, rel, dd⟩ := nd_dict I d
  obtain ⟨b, rfl⟩ : ∃ b, y = .ref b := let ⟨_, b, e, _⟩ := hk; ⟨b, e⟩
  cases (show u = Value.ref b from ry)
  have hz : xs.length ≤ sizeLine := by rw [← rel.len]; exact z
  have hl2 : (putX ks k b v).length ≤ sizeLine := by
    have h1 := putX_len ks k b v
    have h2 : ks.length < sizeLine := by
      unfold kvsOf at hl
      rw [List.length_map] at hl
      exact hl
    omega
  refine wpAny_setItem_heap (hsz := hz) (n_room hu) (hk.is I) dd fun h' dd' hs => ?_
  obtain ⟨q, es, ep, hq, h2, h3, h4, _, h5⟩ := dd'
  have hbut : But a H (upd H a (NDo X.prog X.w a (putX ks k b v))) := But.upd
  refine h (upd H a (NDo X.prog X.w a (putX ks k b v))) _ (d_write I (by rw [e]; exact True.intro) hs ⟨q, hq⟩ ?_) ⟨_, upd_same, (putX_kvs ks k b v).symm, fun x hx => ?_⟩ hbut (fun c hc => ?_)
  · refine ⟨⟨hl2, hd, _, rel.put k b rv, q, es, ep, hq, h2, h3, h4, h5⟩, ⟨q, hq⟩, fun g1 g2 p st => ?_⟩
    obtain ⟨z1, z2, xs', z3, o', es', ep', z4, z5⟩ := p
    exact ⟨z1, z2, xs', z3, o', es', ep', st _ z4, z5⟩
  · have tk : ∀ c xs, SqT X.K H c xs → SqT X.K (upd H a (NDo X.prog X.w a (putX ks k b v))) c xs := fun c xs h => nd_sqT e hbut h
    rcases putX_mem hx with ⟨y, hy, e1, e2⟩ | ⟨e1, e2⟩
    · rw [← e1, ← e2]
      exact (hks y hy).of tk
    · rw [e1, e2]
      exact hk.of tk
  · rw [upd_ne (fun z => by rw [z, e] at hc; cases hc)]
    exact hc
theorem n_typeIs (I : Inv X pins σ H s) {kvs : List (NestedKey × V)} (d : NDAt X.prog X.w X.K H a kvs) : s.TypeIs (.ref a) "dict" := by
  obtain ⟨ks, xs, e, rfl, hks, z, hd, rel, dd⟩ := nd_dict I d
  exact dd.typeIs
end
/-- d[y], y in d, y not in d -/
def tNGet (P : Program) (w : World) (K : PySem.W.Frag) (td ty : TE) : TE := fun σ H Q => td σ H fun x H1 => ty σ H1 fun y H2 => ∃ a v, x = .ref a ∧ NGet P w K H2 a y (some v) ∧ Q v H2
def rNNotIn (P : Program) (w : World) (K : PySem.W.Frag) : R2 := fun y x H Q => ∃ a o, x = .ref a ∧ NGet P w K H a y o ∧ Q (.bl (!o.isSome)) H
def rNIn (P : Program) (w : World) (K : PySem.W.Frag) : R2 := fun y x H Q => ∃ a o, x = .ref a ∧ NGet P w K H a y o ∧ Q (.bl o.isSome) H
/-- d[y] = v -/
def sNPut (P : Program) (w : World) (K : PySem.W.Frag) (td ty tv : TE) : TS := fun D σ H => tv σ H fun v H1 => td σ H1 fun x H2 => ty σ H2 fun y H3 => ∃ a kvs k, x = .ref a ∧ NDAt P w K H3 a kvs ∧ NKey K H3 y k ∧ kvs.length < sizeLine ∧
  ∀ H', NDAt P w K H' a (putK kvs k v) → But a H3 H' → (∀ b, H3 b = none → H' b = none) → D.nx σ H'
/-- {}, to be such a dict -/
def tNNew (P : Program) (w : World) (K : PySem.W.Frag) : TE := fun _ H Q => ∀ p H', H p = none → NDAt P w K H' p [] → But p H H' → H' = upd H p (NDo P w p []) → Q (.ref p) H'
section
variable {X : Cx} {o i value : Expr} {pos pos' : Pos} {td ty tv : TE}
theorem pe_nget (hu : X.A.units + 20 < cLine) (ho : PE X o td) (hi : PE X i ty) (hs : NoSl i) : PE X (.Subscript o i pos) (tNGet X.prog X.w X.K td ty) := by
  refine ⟨fun pins s σ H Q I h => ?_⟩
  refine subD_of PySem.F.slot_dict_getitem.lookup hs (thn (ho.run pins s σ H _ I h) fun u s1 ⟨x, H1, I1, rx, q1⟩ => thn (hi.run pins s1 σ H1 _ I1 q1) fun iv s2 ⟨y, H2, I2, ry, a, v, ex, g, q2⟩ => ?_)
  subst ex
  obtain rfl : u = Value.ref a := rx
  exact ⟨(let ⟨_, _, d, _⟩ := g; n_typeIs I2 d), n_getItem hu I2 g ry fun w' s3 I3 rw' => ⟨v, H2, I3, rw', q2⟩⟩
theorem op_nnotin (hu : X.A.units + 20 < cLine) : OpR X (compareOp .NotIn) (rNNotIn X.prog X.w X.K) := by
  rintro pins st σ H x y v1 v2 Q I rx ry ⟨a, ov, ex, g, q2⟩
  subst ex
  obtain rfl : v2 = Value.ref a := ry
  exact n_notIn hu I g rx fun s3 I3 => ⟨.bl (!ov.isSome), H, I3, rfl, q2⟩
theorem op_nin (hu : X.A.units + 20 < cLine) : OpR X (compareOp .In) (rNIn X.prog X.w X.K) := by
  rintro pins st σ H x y v1 v2 Q I rx ry ⟨a, ov, ex, g, q2⟩
  subst ex
  obtain rfl : v2 = Value.ref a := ry
  exact n_in hu I g rx fun s3 I3 => ⟨.bl ov.isSome, H, I3, rfl, q2⟩
theorem ps_nput (hu : X.A.units + 20 < cLine) (ho : PE X o td) (hi : PE X i ty) (hv : PE X value tv) (hs : swapsWith value (some (.Subscript o i pos')) pos.line X.env = pure false) :
    PS X (.Assign [.Subscript o i pos'] value pos) (sNPut X.prog X.w X.K td ty tv) := by
  refine ⟨fun pins s σ H D I h => ?_⟩
  refine wpAny_Assign_Subscript (thn (hv.run pins s σ H _ I h) fun r s1 ⟨v, H1, I1, rv, q1⟩ => thn (ho.run pins s1 σ H1 _ I1 q1) fun u s2 ⟨x, H2, I2, rx, q2⟩ => thn (hi.run pins s2 σ H2 _ I2 q2) fun iv s3 ⟨y, H3, I3, ry, a, kvs, k, ex, d, hk, hl, q3⟩ => ?_) hs
  subst ex
  obtain rfl : u = Value.ref a := rx
  exact n_setItem hu I3 d hk hl ry rv fun H' s4 I4 d4 b4 f4 => ⟨σ, H', I4, q3 H' d4 b4 f4⟩
theorem pe_nnew : PE X (.Dict [] [] pos) (tNNew X.prog X.w X.K) := ⟨fun pins s σ H Q I h => by
  have hf := I.hok.fresh (Nat.le_refl s.heap.objs.size)
  refine wpAny_Dict_empty ⟨.ref s.heap.objs.size, _, I.laid (a := s.heap.objs.size) (o := NDo X.prog X.w s.heap.objs.size []) (t' := s.toks) (fun _ _ q => Heap.get?_push_of_some _ q) (Nat.le_refl _) ?_, rfl, h _ _ hf ⟨[], upd_same, rfl, fun x hx => nomatch hx⟩ But.upd rfl⟩
  refine ⟨⟨Nat.zero_le _, beq_eq_false_iff_ne.mpr (Ne.symm (Nat.ne_of_lt I.big)), [], .nil, _, #[], 0, Heap.get?_push_size _ rfl, ⟨rfl, rfl, rfl⟩, rfl, rfl, List.nodup_nil⟩, ⟨_, Heap.get?_push_size _ rfl⟩, fun g1 g2 p st => ?_⟩
  obtain ⟨z1, z2, xs', z3, o', es', ep', z4, z5⟩ := p
  exact ⟨z1, z2, xs', z3, o', es', ep', st _ z4, z5⟩⟩
end
/-! ### the law's names -/
abbrev sLNames : Stmt := topS 36
theorem scLNames : FnScope ["_law_pool_here", "_law_count", "_law_signs", "_law_origin", "_law_step", "_law_ends", "_law_head", "_law_tail", "_law_k"] ["_law_pool_here", "_law_count"] (defScope sLNames) := ⟨rfl, rfl, rfl, by decide +kernel, rfl, by decide +kernel, by decide +kernel⟩
theorem low_at : ∀ i : Nat, i < 26 → ∃ c, (Str.ofString "abcdefghijklmnopqrstuvwxyz").cps.toList[i]? = some c ∧ lowCode c = true ∧ c = 97 + i := by
  have h : ∀ i : Nat, i < 26 → ((Str.ofString "abcdefghijklmnopqrstuvwxyz").cps.toList[i]?).any (fun c => lowCode c && decide (c = 97 + i)) = true := by decide +kernel
  intro i hi
  have h1 := h i hi
  cases e : (Str.ofString "abcdefghijklmnopqrstuvwxyz").cps.toList[i]? with
  | none =>
    rw [e] at h1
    cases h1
  | some c =>
    rw [e] at h1
    have h2 : (lowCode c && decide (c = 97 + i)) = true := h1
    rw [Bool.and_eq_true] at h2
    exact ⟨c, rfl, h2.1, of_decide_eq_true h2.2⟩
theorem name_of {h t : Str} {c : Nat} (hh : h.cps.toList.all lowCode = true) (ht : t.cps.toList.all lowCode = true) (hc : lowCode c = true) (hl : h.length + t.length ≤ 7) : isName (.str (h ++ ⟨#[c]⟩ ++ t)) = true := by
  have e1 : (h ++ (⟨#[c]⟩ : Str) ++ t).cps = h.cps ++ #[c] ++ t.cps := rfl
  have e2 : (h ++ (⟨#[c]⟩ : Str) ++ t).length = h.length + 1 + t.length := by
    show (h ++ (⟨#[c]⟩ : Str) ++ t).cps.size = h.cps.size + 1 + t.cps.size
    rw [e1, Array.size_append, Array.size_append]
    rfl
  show (decide (1 ≤ ((h ++ (⟨#[c]⟩ : Str) ++ t).length : Int)) && decide (((h ++ (⟨#[c]⟩ : Str) ++ t).length : Int) ≤ 8) && (h ++ (⟨#[c]⟩ : Str) ++ t).cps.toList.all lowCode) = true
  rw [e2, decide_eq_true (by omega), decide_eq_true (by omega), e1, Array.toList_append, Array.toList_append, List.all_append, List.all_append, hh, ht]
  show (true && true && (true && (lowCode c && true) && true)) = true
  rw [hc]
  rfl
theorem len_of {h t : Str} {c : Nat} : (h ++ (⟨#[c]⟩ : Str) ++ t).length = h.length + 1 + t.length := by
  show (h ++ (⟨#[c]⟩ : Str) ++ t).cps.size = h.cps.size + 1 + t.cps.size
  rw [show (h ++ (⟨#[c]⟩ : Str) ++ t).cps = h.cps ++ #[c] ++ t.cps from rfl, Array.size_append, Array.size_append]
  rfl
theorem but_sameN {p : Addr} {H H1 H2 : Hp} (b : But p H H1) (s : Same H1 H2) : But p H H2 := b.trans (But.of s)
theorem dpT {K : PySem.W.Frag} {H : Hp} {t : Addr} {xs : List V} {ds : List PyData} (n : H t = none) (h : DpAll K H xs ds) : Dp K (upd H t (.tup xs)) (.ref t) (.tuple ds) := .tup (.inl (.inl upd_same)) (dpA_same (same_upd n) h)
theorem sign_inj {h tl : Str} {c d : Nat} (e : h ++ (⟨#[c]⟩ : Str) ++ tl = h ++ (⟨#[d]⟩ : Str) ++ tl) : c = d := by
  have e1 : (h.cps ++ #[c] ++ tl.cps) = (h.cps ++ #[d] ++ tl.cps) := congrArg Str.cps e
  have e2 := congrArg Array.toList e1
  rw [Array.toList_append, Array.toList_append, Array.toList_append, Array.toList_append] at e2
  have e3 := List.append_cancel_left (List.append_cancel_right e2)
  exact (List.cons.inj e3).1
theorem signs_nodup {h tl : Str} {o z : Int} (z0 : 0 ≤ z) (z1 : z < 6) {zs : List Str} (hl : zs.length ≤ 8) (hs : ∀ (m : Nat) (u : Str), zs[m]? = some u → u = h ++ (⟨#[97 + ((o + (1 + 2 * z) * (m : Int)) % 26).toNat]⟩ : Str) ++ tl) : zs.Nodup := by
  refine List.pairwise_iff_getElem.mpr fun i j hi hj lt e => ?_
  have e1 := hs i _ (List.getElem?_eq_getElem hi)
  have e2 := hs j _ (List.getElem?_eq_getElem hj)
  rw [e1, e2] at e
  have e3 := sign_inj e
  rcases (show z = 0 ∨ z = 1 ∨ z = 2 ∨ z = 3 ∨ z = 4 ∨ z = 5 by omega) with q | q | q | q | q | q <;> subst q <;> omega
def spLNames (K : PySem.W.Frag) : Sp := fun vs H Q _ => ∃ (p : Addr) (cn : Nat), vs = [.ref p, .int cn] ∧ cn ≤ 8 ∧ PoolAt H p ∧ ∀ (r : Addr) (zs : List Str) H', But p H H' → PoolAt H' p → H' r = some (.lst (zs.map V.str)) → zs.length = cn → (∀ z ∈ zs, isName (.str z) = true) → zs.Nodup → (∀ z ∈ zs, z.length ≤ 4 ∨ z.length = 8) → Q (.ref r) H'
def endsD : List PyData := [.tuple [.str "", .str ""], .tuple [.str "", .str "q"], .tuple [.str "ab", .str ""], .tuple [.str "abcdefg", .str ""], .tuple [.str "", .str "abcdefg"]]
theorem ends_are : ∀ {i : Nat} {d : PyData}, endsD[i]? = some d → ∃ h t : Str, d = .tuple [.str h, .str t] ∧ h.cps.toList.all lowCode = true ∧ t.cps.toList.all lowCode = true ∧ h.length + t.length ≤ 7 ∧ (h.length + t.length ≤ 3 ∨ h.length + t.length = 7)
  | 0, _, e => ⟨_, _, (Option.some.inj e).symm, by decide +kernel, by decide +kernel, by decide +kernel, by decide +kernel⟩
  | 1, _, e => ⟨_, _, (Option.some.inj e).symm, by decide +kernel, by decide +kernel, by decide +kernel, by decide +kernel⟩
  | 2, _, e => ⟨_, _, (Option.some.inj e).symm, by decide +kernel, by decide +kernel, by decide +kernel, by decide +kernel⟩
  | 3, _, e => ⟨_, _, (Option.some.inj e).symm, by decide +kernel, by decide +kernel, by decide +kernel, by decide +kernel⟩
  | 4, _, e => ⟨_, _, (Option.some.inj e).symm, by decide +kernel, by decide +kernel, by decide +kernel, by decide +kernel⟩
  | n + 5, _, e => nomatch e
section
variable {P : Program} {w : World} {K : PySem.W.Frag} {mg : Str → Option Value} {base : Heap}
theorem ok_lnames {f fD fP : Addr} {fd dD dP : FuncData} (F : Fun K "_law_names" "_law_names" sLNames f fd) (M : Blt mg)
    (FD : Fun K "_law_draw" "_law_draw" sDraw fD dD) (bD : Binds K dD ["_law_pool_here", "_law_many"] []) (gD : mg "_law_draw" = some (.ref fD))
    (FP : Fun K "_law_pick" "_law_pick" sPick fP dP) (bP : Binds K dP ["_law_pool_here", "_law_row"] []) (gP : mg "_law_pick" = some (.ref fP)) :
    FnOk P w K mg base CX0 3 f fd ["_law_pool_here", "_law_count"] (spLNames K) := by
  have GD : FnOk P w K mg base CX0 1 fD dD ["_law_pool_here", "_law_many"] spDraw := ok_draw FD M
  have GP : FnOk P w K mg base CX0 2 fP dP ["_law_pool_here", "_law_row"] (spPick K) := ok_pick FP M FD bD gD
  refine F.ok scLNames (fun vs H Q E h => ?_) (fun cdv A outer s H vs Q E hr h => ?_)
  · obtain ⟨p, cn, rfl, _⟩ := h
    rfl
  · obtain ⟨p, cn, rfl, hc8, hp, q⟩ := h
    have hr1 : Room 1 _ := hr.mono (by omega)
    refine ⟨_, pss_cons (ps_set (i := 2) scLNames.nd rfl (.inr rfl) pe_str)
      (pss_cons (ps_asg (pe_tup (pa_cons (pe_call GD hr1 (by rfl) gD FD.kp bD .nil pass0 (pa_cons (pv 0) (pa_cons pe_int pa_nil)))
          (pa_cons (pe_op op_add pe_int (pe_op op_mul pe_int (pe_call GD hr1 (by rfl) gD FD.kp bD .nil pass0 (pa_cons (pv 0) (pa_cons pe_int pa_nil))))) pa_nil)))
          (pg_tup (by rfl) (pgs_cons (pg_name (i := 3) scLNames.nd rfl (.inr rfl)) (pgs_cons (pg_name (i := 4) scLNames.nd rfl (.inr rfl)) pgs_nil))))
      (pss_cons (ps_set (i := 5) scLNames.nd rfl (.inl rfl) (pe_lst (pa_cons (pe_tup (pa_cons pe_str (pa_cons pe_str pa_nil))) (pa_cons (pe_tup (pa_cons pe_str (pa_cons pe_str pa_nil))) (pa_cons (pe_tup (pa_cons pe_str (pa_cons pe_str pa_nil)))
          (pa_cons (pe_tup (pa_cons pe_str (pa_cons pe_str pa_nil))) (pa_cons (pe_tup (pa_cons pe_str (pa_cons pe_str pa_nil))) pa_nil)))))))
      (pss_cons (ps_asg (pe_call GP hr (by rfl) gP FP.kp bP .nil pass0 (pa_cons (pv 0) (pa_cons (pv 5) pa_nil)))
          (pg_tup (by rfl) (pgs_cons (pg_name (i := 6) scLNames.nd rfl (.inr rfl)) (pgs_cons (pg_name (i := 7) scLNames.nd rfl (.inr rfl)) pgs_nil))))
      (pss_one (ps_ret (pe_lc (own := [("_law_k", 8)]) (g := gName 8) (by rfl) scLNames.nd (pi_range1 (by rfl) M.range (pa_cons (pv 1) pa_nil)) (blkOk_by (own := [("_law_k", 8)]) (N := ["_law_pool_here", "_law_count", "_law_signs", "_law_origin", "_law_step", "_law_ends", "_law_head", "_law_tail", "_law_k"]) (sc := defScope sLNames) (by decide +kernel))
          (fun _ _ _ _ _ => pg_name (i := 8) scLNames.nd rfl (Or.inl rfl)) (fun _ _ _ _ _ => pts_nil)
          (fun _ _ _ _ _ => pe_op op_add_str (pe_op op_add_str (pv 6) (pe_ix ix_str (pv 2) (pe_op op_mod (pe_callTy call_int1 (by rfl) M.int (by decide +kernel) (pa_cons (pe_op op_add (pv 3) (pe_op op_mul (pv 4) (pv 8))) pa_nil)) pe_int) (fun _ _ => rfl))) (pv 7)))))))), ?_⟩
    refine q_c (i := 2) (v := .str "abcdefghijklmnopqrstuvwxyz") ?_
    dsimp only [List.set]
    refine ⟨.ref p, rfl, p, 26, rfl, hp, by omega, by omega, fun o H1 o0 o1 b1 hp1 fr1 => ?_⟩
    refine ⟨.ref p, rfl, p, 6, rfl, hp1, by omega, by omega, fun z H2 z0 z1 b2 hp2 fr2 => ?_⟩
    refine ⟨_, _, rfl, rfl, .inl ⟨by decide, by decide⟩, _, _, rfl, rfl, (by show 2 ≤ sizeLine; decide), fun t nt => ?_⟩
    refine ⟨t, _, rfl, .inl (.inl upd_same), rfl, _, _, rfl, _, _, rfl, rfl, ?_⟩
    have st : Same H2 (upd H2 t (.tup [.int o, .int (1 + 2 * z)])) := same_upd nt
    have b3 := but_sameN (b1.trans b2) st
    have hp3 := hp2.same st
    generalize upd H2 t (.tup [.int o, .int (1 + 2 * z)]) = H3 at b3 hp3
    refine ⟨(by show 2 ≤ sizeLine; decide), fun t1 m1 => ⟨(by show 2 ≤ sizeLine; decide), fun t2 m2 => ⟨(by show 2 ≤ sizeLine; decide), fun t3 m3 => ⟨(by show 2 ≤ sizeLine; decide), fun t4 m4 => ⟨(by show 2 ≤ sizeLine; decide), fun t5 m5 => ⟨(by show 5 ≤ sizeLine; decide), fun l ml => ?_⟩⟩⟩⟩⟩⟩
    have k2 := same_upd (o := .tup [.str "", .str "q"]) m2
    have k3 := same_upd (o := .tup [.str "ab", .str ""]) m3
    have k4 := same_upd (o := .tup [.str "abcdefg", .str ""]) m4
    have k5 := same_upd (o := .tup [.str "", .str "abcdefg"]) m5
    have k1 := same_upd (o := .tup [.str "", .str ""]) m1
    have kl := same_upd (o := .lst [.ref t1, .ref t2, .ref t3, .ref t4, .ref t5]) ml
    have two : ∀ (H : Hp) (a b : Str), DpAll K H [.str a, .str b] [.str a, .str b] := fun H a b => .cons (.str a) (.cons (.str b) .nil)
    have hA : DpAll K _ [.ref t1, .ref t2, .ref t3, .ref t4, .ref t5] endsD := dpA_same kl (.cons (dp_same (k2.trans (k3.trans (k4.trans k5))) (dpT m1 (two _ _ _))) (.cons (dp_same (k3.trans (k4.trans k5)) (dpT m2 (two _ _ _))) (.cons (dp_same (k4.trans k5) (dpT m3 (two _ _ _))) (.cons (dp_same k5 (dpT m4 (two _ _ _))) (.cons (dpT m5 (two _ _ _)) .nil)))))
    have s4 := k1.trans (k2.trans (k3.trans (k4.trans (k5.trans kl))))
    have el : (upd (upd (upd (upd (upd (upd H3 t1 (.tup [.str "", .str ""])) t2 (.tup [.str "", .str "q"])) t3 (.tup [.str "ab", .str ""])) t4 (.tup [.str "abcdefg", .str ""])) t5 (.tup [.str "", .str "abcdefg"])) l (.lst [.ref t1, .ref t2, .ref t3, .ref t4, .ref t5])) l = some (.lst [.ref t1, .ref t2, .ref t3, .ref t4, .ref t5]) := upd_same
    have npl : p ≠ l := (((((hp3.upd m1).upd m2).upd m3).upd m4).upd m5).ne ml
    generalize upd (upd (upd (upd (upd (upd H3 t1 (.tup [.str "", .str ""])) t2 (.tup [.str "", .str "q"])) t3 (.tup [.str "ab", .str ""])) t4 (.tup [.str "abcdefg", .str ""])) t5 (.tup [.str "", .str "abcdefg"])) l (.lst [.ref t1, .ref t2, .ref t3, .ref t4, .ref t5]) = H4 at hA s4 el
    have b4 := but_sameN b3 s4
    have hp4 := hp3.same s4
    refine ⟨.ref p, rfl, .ref l, rfl, p, l, _, rfl, hp4, npl, .inl (.inl (.inl el)), Nat.le_of_ble_eq_true rfl, Nat.le_of_ble_eq_true rfl, fun i hi H5 b5 hp5 fr5 => ?_⟩
    obtain ⟨de, hde, dv⟩ := dpA_at hA (List.getElem?_eq_getElem hi)
    obtain ⟨h, tl, rfl, lowh, lowt, hlen, hlen2⟩ := ends_are hde
    generalize [V.ref t1, .ref t2, .ref t3, .ref t4, .ref t5][i] = vv at dv
    cases dv with
    | @tup a ys _ hs ha =>
      cases ha with
      | cons h1 h2 =>
        cases h1
        cases h2 with
        | cons h3 h4 =>
          cases h3
          cases h4
          obtain ⟨px, py, pe, _⟩ := hp4
          refine ⟨a, _, rfl, but_sqT pe b5 hs, rfl, _, _, rfl, _, _, rfl, rfl, ?_⟩
          refine ⟨_, rfl, (cn : Int), rfl, by omega, by omega, fun D hD => ?_⟩
          refine walk_gen (walk_range (lo := 0) (n := (cn : Int).toNat)) (fun i H' => Same H5 H' ∧ ∃ zs : List Str, H' D = some (.lst (zs.map V.str)) ∧ zs.length = i ∧ (∀ z ∈ zs, isName (.str z) = true) ∧ ∀ (m : Nat) (u : Str), zs[m]? = some u → u = h ++ (⟨#[97 + ((o + (1 + 2 * z) * (m : Int)) % 26).toNat]⟩ : Str) ++ tl) ⟨same_upd hD, [], upd_same, rfl, (fun z h => by cases h), fun m u e => by simp at e⟩ (fun _ _ _ _ => True.intro) (fun i' x H6 H7 hi' pv' y => ?_) (fun H' pv' => ?_)
          · obtain ⟨s6, zs, e6, l6, a6, f6⟩ := pv'
            obtain ⟨rfl, rfl⟩ := y
            refine And.intro rfl ?_
            unfold tYes
            refine iteT ?_
            generalize hv : (o + (1 + 2 * z) * (0 + (i' : Int))) = vv
            have h1 := Int.emod_lt_of_pos vv (show (0 : Int) < 26 by decide)
            have h2 := Int.emod_nonneg vv (show (26 : Int) ≠ 0 by decide)
            obtain ⟨c, hc, lc, c97⟩ := low_at (vv % 26).toNat (by omega)
            have hat : atI (Str.ofString "abcdefghijklmnopqrstuvwxyz").cps.toList (vv % 26) = some c := by
              unfold atI ixN
              rw [if_pos h2, if_pos (show vv % 26 < (((Str.ofString "abcdefghijklmnopqrstuvwxyz").cps.toList.length : Nat) : Int) from h1)]
              exact hc
            refine ⟨_, rfl, _, rfl, _, rfl, _, rfl, _, rfl, _, _, rfl, rfl, .inl ⟨by omega, by omega⟩, _, _, rfl, rfl, .inl ⟨_, rfl, _, _, rfl, rfl, (by show (0 : Int) < 26; decide), ?_⟩⟩
            rw [hv]
            have hl1 : h.length + (⟨#[c]⟩ : Str).length ≤ sizeLine := Nat.le_trans (show h.length + 1 ≤ 8 by omega) (by decide)
            have hl2 : (h ++ (⟨#[c]⟩ : Str)).length + tl.length ≤ sizeLine := by
              have e2 : (h ++ (⟨#[c]⟩ : Str)).length = h.length + 1 := by
                show (h.cps ++ #[c]).size = h.cps.size + 1
                rw [Array.size_append]
                rfl
              rw [e2]
              exact Nat.le_trans (show h.length + 1 + tl.length ≤ 8 by omega) (by decide)
            refine ⟨_, _, c, rfl, rfl, (by decide +kernel), hat, _, _, rfl, rfl, hl1, _, rfl, _, _, rfl, rfl, hl2, zs.map V.str, e6, ?_, fun b o' e' => ?_, zs ++ [h ++ (⟨#[c]⟩ : Str) ++ tl], ?_, ?_, (fun u hu => ?_), fun m u em => ?_⟩
            · rw [List.length_map, l6]
              exact Nat.lt_of_le_of_lt (show i' ≤ 8 by omega) (by decide)
            · rw [upd_ne (ne_of_none e' hD)]
              exact s6 _ _ e'
            · rw [upd_same, List.map_append]
              rfl
            · rw [List.length_append, l6]
              rfl
            · rcases List.mem_append.mp hu with hu | hu
              · exact a6 u hu
              · rw [List.mem_singleton.mp hu]
                exact name_of lowh lowt lc hlen
            · by_cases hm : m < zs.length
              · rw [List.getElem?_append_left hm] at em
                exact f6 m u em
              · have hm2 : m = zs.length := by
                  have := (List.getElem?_eq_some_iff.mp em).1
                  rw [List.length_append] at this
                  simp at this
                  omega
                rw [hm2, List.getElem?_append_right (Nat.le_refl _), Nat.sub_self] at em
                have e2 := Option.some.inj em
                subst e2
                rw [hm2, l6, c97]
                rw [Int.zero_add] at hv
                rw [hv]
          · obtain ⟨s6, zs, e6, l6, a6, f6⟩ := pv'
            exact q D zs H' (but_sameN (b4.trans b5) s6) (hp5.same s6) e6 (by rw [l6]; rfl) a6 (signs_nodup z0 z1 (by omega) f6) (fun u hu => by
              obtain ⟨m, em⟩ := List.getElem?_of_mem hu
              rw [f6 m u em, len_of]
              omega)
end
/-! ### the law's terms, drawn over any drawn book -/
/-- what a drawn book tells: cells with their kinds, functions with their numbers of arguments -/
structure LB where
  cells : List (Str × Str)
  fns : List (Str × Nat)
structure LOk (L : LB) : Prop where
  c : ∀ x ∈ L.cells, isName (.str x.1) = true ∧ x.2 ∈ (["frozen", "setting", "table"] : List Str)
  f : ∀ x ∈ L.fns, isName (.str x.1) = true ∧ x.2 ≤ 2
  lc : L.cells.length ≤ 8
  lf : L.fns.length ≤ 8
/-- a term over this book, of so many arguments -/
inductive GdL (L : LB) (n : Int) : Nat → PyData → Prop
  | val {f : Nat} {i : Int} : 0 ≤ i → i < 3 → GdL L n (f + 1) (.int i)
  | arg {f : Nat} {i : Int} : 0 ≤ i → i < n → GdL L n (f + 1) (.tuple [.str "arg", .int i])
  | cell {f : Nat} {x k : Str} : (x, k) ∈ L.cells → GdL L n (f + 1) (.tuple [.str "cell", .str x])
  | tick {f : Nat} : GdL L n (f + 1) (.tuple [.str "tick"])
  | call {f : Nat} {x : Str} {ts : List PyData} : (x, ts.length) ∈ L.fns → (∀ t ∈ ts, GdL L n f t) → GdL L n (f + 1) (.tuple [.str "call", .str x, .tuple ts])
  | op {f : Nat} {z : Str} {ts : List PyData} : (z = "if" ∧ ts.length = 3) ∨ (bin z ∧ ts.length = 2) → (∀ t ∈ ts, GdL L n f t) → GdL L n (f + 1) (.tuple (.str z :: ts))
theorem gdl_gd {L : LB} (o : LOk L) {n : Int} : ∀ (f : Nat) (d : PyData), GdL L n f d → Gd n f d
  | 0, _, h => nomatch h
  | f + 1, d, h => by
    cases h with
    | val a b => exact .val a b
    | arg a b => exact .arg a b
    | cell a => exact .cell (o.c _ a).1
    | tick => exact .tick
    | call a c => exact .call (o.f _ a).1 (o.f _ a).2 fun t ht => gdl_gd o f t (c t ht)
    | op a c => exact .op a fun t ht => gdl_gd o f t (c t ht)
theorem gdl_mono {L : LB} {n : Int} : ∀ (f f' : Nat) (d : PyData), GdL L n f d → f ≤ f' → GdL L n f' d
  | 0, _, _, h, _ => nomatch h
  | f + 1, 0, _, _, h => absurd h (Nat.not_succ_le_zero f)
  | f + 1, f' + 1, d, h, hf => by
    cases h with
    | val a b => exact .val a b
    | arg a b => exact .arg a b
    | cell a => exact .cell a
    | tick => exact .tick
    | call a c => exact .call a fun t ht => gdl_mono f f' t (c t ht) (by omega)
    | op a c => exact .op a fun t ht => gdl_mono f f' t (c t ht) (by omega)
theorem q_seqR {ta tz : TS} {D : Ends} {σ : L2.St} {H : Hp} (Pr : L2.St → Hp → Prop) (h : ∀ nx, (∀ σ' H', Pr σ' H' → nx σ' H') → ta { D with nx := nx } σ H) (k : ∀ σ' H', Pr σ' H' → tz D σ' H') : tSeq ta tz D σ H := h _ k
abbrev sLTerm : Stmt := topS 37
theorem scLTerm : FnScope ["_law_pool_here", "_law_b", "_law_many", "_law_deep", "_law_kind", "_law_f", "_law_head", "_law_at"] ["_law_pool_here", "_law_b", "_law_many", "_law_deep"] (defScope sLTerm) := ⟨rfl, rfl, rfl, by decide +kernel, rfl, by decide +kernel, by decide +kernel⟩
def rNeLen (K : PySem.W.Frag) : R2 := fun x y H Q => ∃ a b xs ys, x = .ref a ∧ y = .ref b ∧ SqL K H a xs ∧ SqL K H b ys ∧ xs.length ≠ ys.length ∧ Q (.bl true) H
theorem op_neLen {X : Cx} (few : X.A.units + 64 < cLine) : OpR X (compareOp .NotEq) (rNeLen X.K) := by
  rintro pins st σ H one other v1 v2 Q inv rel1 rel2 ⟨a1, a2, l1, l2, rfl, rfl, s1, s2, unlike, goal⟩
  obtain rfl : v1 = Value.ref a1 := rel1
  obtain rfl : v2 = Value.ref a2 := rel2
  have f1 := inv.list s1
  have f2 := inv.list s2
  rcases f1 with ⟨w1, vals1, is1, -⟩
  rcases f2 with ⟨w2, vals2, is2, -⟩
  have sizes : (w1.toArray.size != w2.toArray.size) = true := by
    have n1 : w1.toArray.size = l1.length := List.size_toArray.trans vals1.length.symm
    have n2 : w2.toArray.size = l2.length := List.size_toArray.trans vals2.length.symm
    rw [n1, n2]
    simpa using unlike
  exact SeqAt.RcNeAt.lists_lengths is1.isList is2.isList sizes (by omega) _ _ _ _ ⟨V.bl true, H, inv, rfl, goal⟩
theorem in_twoI (k a b : Int) : inV (.int k) [.int a, .int b] = decide (k = a ∨ k = b) := by
  show ((a == k) || ((b == k) || false)) = _
  rw [Bool.or_false, Bool.eq_iff_iff, Bool.or_eq_true, decide_eq_true_eq, beq_iff_eq, beq_iff_eq]
  exact ⟨fun h => h.imp Eq.symm Eq.symm, fun h => h.imp Eq.symm Eq.symm⟩
def CellT (K : PySem.W.Frag) (H : Hp) (v : V) (x : Str × Str) : Prop := ∃ t, v = .ref t ∧ SqT K H t [.str x.1, .str x.2]
def FnD (H : Hp) (v : V) (x : Str × Nat) : Prop := ∃ g kvs, v = .ref g ∧ H g = some (.dK kvs) ∧ valV kvs (.inr "name" : Key) = some (.str x.1) ∧ valV kvs (.inr "many" : Key) = some (.int (x.2 : Nat))
def Rows {α : Type} (R : V → α → Prop) (xs : List V) (cs : List α) : Prop := xs.length = cs.length ∧ ∀ (i : Nat) x c, xs[i]? = some x → cs[i]? = some c → R x c
theorem Rows.mono {α : Type} {R R' : V → α → Prop} {xs : List V} {cs : List α} (h : Rows R xs cs) (k : ∀ x c, R x c → R' x c) : Rows R' xs cs := ⟨h.1, fun i x c a b => k x c (h.2 i x c a b)⟩
theorem Rows.at {α : Type} {R : V → α → Prop} {xs : List V} {cs : List α} (h : Rows R xs cs) {i : Nat} (hi : i < xs.length) : ∃ c, c ∈ cs ∧ R xs[i] c := by
  have hj : i < cs.length := h.1 ▸ hi
  exact ⟨cs[i], List.getElem_mem hj, h.2 i _ _ (List.getElem?_eq_getElem hi) (List.getElem?_eq_getElem hj)⟩
/-- the drawn book stands at b -/
def LBk (K : PySem.W.Frag) (L : LB) (H : Hp) (b : Addr) : Prop := ∃ c f ts gs, H b = some (.dK [(.inr "cells", .ref c), (.inr "functions", .ref f)]) ∧ H c = some (.lst ts) ∧ H f = some (.lst gs) ∧ Rows (CellT K H) ts L.cells ∧ Rows (FnD H) gs L.fns
theorem LBk.but {K : PySem.W.Frag} {L : LB} {H H' : Hp} {b p : Addr} (h : LBk K L H b) (hp : PoolAt H p) (bt : But p H H') : LBk K L H' b := by
  obtain ⟨c, f, ts, gs, e0, e1, e4, r1, r2⟩ := h
  obtain ⟨x, y, ep, _⟩ := hp
  have nc : c ≠ p := fun q => by
    rw [q, ep] at e1
    cases e1
    obtain ⟨d, _, t, e, _⟩ := r1.at (i := 0) (by show 0 < 2; decide)
    cases e
  have nf : f ≠ p := fun q => by
    rw [q, ep] at e4
    cases e4
    obtain ⟨d, _, t, _, e, _⟩ := r2.at (i := 0) (by show 0 < 2; decide)
    cases e
  refine ⟨c, f, ts, gs, bt _ _ e0 (ne_of e0 ep (fun z => nomatch z)), bt _ _ e1 nc, bt _ _ e4 nf, r1.mono fun v d h => ?_, r2.mono fun v d h => ?_⟩
  · obtain ⟨t, e, h⟩ := h
    exact ⟨t, e, but_sqT ep bt h⟩
  · obtain ⟨g, kvs, e, h, h1, h2⟩ := h
    exact ⟨g, kvs, e, bt _ _ h (ne_of h ep (fun z => nomatch z)), h1, h2⟩
theorem dg {H : Hp} {r : Addr} {kv : List (Key × V)} (e : H r = some (.dK kv)) (z : Str) {v : V} (h : valV kv (.inr z) = some v) : DGet H r (.str z) (some v) := .inl ⟨kv, .inr z, .inl e, rfl, h.symm⟩
/-- the cells as data -/
def cellsD (L : LB) : List PyData := L.cells.map fun x => .tuple [.str x.1, .str x.2]
theorem cells_dp {K : PySem.W.Frag} {H : Hp} : ∀ {ts : List V} {cs : List (Str × Str)}, Rows (CellT K H) ts cs → DpAll K H ts (cs.map fun x => .tuple [.str x.1, .str x.2])
  | [], [], _ => .nil
  | [], _ :: _, h => absurd h.1 (by simp)
  | _ :: _, [], h => absurd h.1 (by simp)
  | v :: ts, x :: cs, h => by
    obtain ⟨t, rfl, ht⟩ := h.2 0 v x rfl rfl
    exact .cons (.tup ht (.cons (.str _) (.cons (.str _) .nil))) (cells_dp ⟨Nat.succ.inj h.1, fun i y d e1 e2 => h.2 (i + 1) y d e1 e2⟩)
theorem cells_shaped {L : LB} (o : LOk L) : SeqAt.shaped (.list (cellsD L)) = true := by
  have one : ∀ d ∈ cellsD L, d.canLay0 = true ∧ d.depth ≤ 1 := fun d hd => by
    obtain ⟨x, hx, rfl⟩ := List.mem_map.mp hd
    obtain ⟨h1, h2⟩ := o.c x hx
    have k : PyData.strOk x.2 = true := by
      simp only [List.mem_cons, List.not_mem_nil, or_false] at h2
      rcases h2 with e | e | e <;> rw [e] <;> decide +kernel
    refine ⟨?_, ?_⟩
    · show (PyData.strOk x.1 && (PyData.strOk x.2 && true)) = true
      rw [name_ok h1, k]
      rfl
    · show max 0 (max 0 0) + 1 ≤ 1
      decide
  refine Bool.and_eq_true_iff.mpr ⟨canLay_of fun t h => (one t h).1, decide_eq_true ?_⟩
  show PyData.depthAll (cellsD L) + 1 ≤ 64
  have := depth_of (m := 1) (ts := cellsD L) fun t h => (one t h).2
  omega
/-- != against an empty list -/
def rNeNil (K : PySem.W.Frag) : R2 := fun x y H Q => ∃ a b xs, x = .ref a ∧ y = .ref b ∧ SqL K H a xs ∧ SqL K H b [] ∧ Q (.bl (!xs.isEmpty)) H
theorem op_neNil {X : Cx} (few : X.A.units + 64 < cLine) : OpR X (compareOp .NotEq) (rNeNil X.K) := by
  intro pins st σ H one other v1 v2 Q inv rel1 rel2 h
  obtain ⟨a1, a2, l1, rfl, rfl, s1, s2, goal⟩ := h
  cases l1 with
  | nil => exact op_neD few pins st σ H _ _ v1 v2 Q inv rel1 rel2 ⟨.list [], .list [], .lst s1 .nil, .lst s2 .nil, by decide +kernel, by decide +kernel, by rw [show PyData.eqv (.list []) (.list []) = true from SeqAt.eqv_refl _ (by decide +kernel)]; exact goal⟩
  | cons x r => exact op_neLen few pins st σ H _ _ v1 v2 Q inv rel1 rel2 ⟨a1, a2, x :: r, [], rfl, rfl, s1, s2, by simp, goal⟩
/-- a comprehension of terms drawn -/
theorem lc_terms {K : PySem.W.Frag} {p : Addr} {L : LB} (ok : LOk L) {n : Int} {f : Nat} {J : It} {cnt : Nat} {Y : Nat → Hp → V → Hp → Prop} (w : Walk J cnt (fun _ => True) Y) {j : Nat} {te : TE} {vs : List Nat} {σ : L2.St} {H1 : Hp} {D : Addr} {Qd : Hp → Prop} (hz : cnt ≤ 1000)
    (hD : H1 D = none) (hp : PoolAt H1 p) (hw : ∀ x, wipe ((wipe σ vs).set j (some x)) vs = wipe σ vs)
    (he : ∀ i x H H', i < cnt → But p H1 H → PoolAt H p → Y i H x H' → H' = H ∧ ∀ Q : VK, (∀ v d H2, But p H H2 → PoolAt H2 p → Dp K H2 v d → GdL L n f d → Q v H2) → te ((wipe σ vs).set j (some x)) H Q)
    (hd : ∀ ys ts H, But p H1 H → PoolAt H p → H D = some (.lst ys) → DpAll K H ys ts → ts.length = cnt → (∀ t ∈ ts, GdL L n f t) → Qd H)  :
    Turns J (upd H1 D (.lst [])) Qd (LcBody D te vs j σ) := by
  have npD : D ≠ p := (hp.ne hD).symm
  refine lc_it w (fun i H => But p H1 H ∧ PoolAt H p ∧ ∃ ys ts, H D = some (.lst ys) ∧ DpAll K H ys ts ∧ ts.length = i ∧ ∀ t ∈ ts, GdL L n f t) ⟨But.of (same_upd hD), hp.upd hD, [], [], upd_same, .nil, rfl, fun v e => by cases e⟩ (fun i H _ p => True.intro) (fun i x H H' hi q y => ?_) (fun H q => ?_)
  · obtain ⟨s1, h1, ys, ts, e1, ea, el, er⟩ := q
    obtain ⟨rfl, k⟩ := he i x H H' hi s1 h1 y
    refine And.intro (hw x) ?_
    unfold tYes
    refine iteT ?_
    refine k _ fun v d H2 s3 h3 dv gd => ⟨ys, s3 _ _ e1 npD, ?_, fun b o e nb => ?_, ?_, ys ++ [v], ts ++ [d], upd_same, ?_, ?_, fun u hu => ?_⟩
    · exact Nat.lt_of_le_of_lt (show ys.length ≤ 1000 by rw [dpA_len ea]; omega) (by decide)
    · have hb : b ≠ D := ne_of_none e hD
      rw [upd_ne hb]
      exact s3 _ _ (s1 _ _ e nb) nb
    · obtain ⟨x, y, e, r⟩ := h3
      exact ⟨x, y, by rw [upd_ne npD.symm]; exact e, r⟩
    · have nl : noLs ts = true := noLs_of fun t ht => gd_nl f t (gdl_gd ok f t (er t ht))
      have e2 := s3 _ _ e1 npD
      obtain ⟨px, py, pe, _⟩ := h1
      have a1 : DpAll K H2 ys ts := dpAll_tups (fun _ _ => but_sqT pe s3) ts ys nl ea
      exact dpA_app (dpAll_tups (fun _ _ => but_sqT e2 But.upd) ts ys nl a1) (.cons (dp_tups (fun _ _ => but_sqT e2 But.upd) d v (gd_nl f d (gdl_gd ok f d gd)) dv) .nil)
    · rw [List.length_append, el]
      rfl
    · rcases List.mem_append.mp hu with hu | hu
      · exact er u hu
      · rw [List.mem_singleton.mp hu]
        exact gd
  · obtain ⟨s1, h1, ys, ts, e1, ea, el, er⟩ := q
    exact hd ys ts H s1 h1 e1 ea el er
def spLTerm (K : PySem.W.Frag) (m : Nat) : Sp := fun vs H Q _ => ∃ (L : LB) (p b : Addr) (n : Int) (deep : Nat), LOk L ∧ vs = [.ref p, .ref b, .int n, .int deep] ∧ PoolAt H p ∧ LBk K L H b ∧ 0 ≤ n ∧ n ≤ 2 ∧ deep < m ∧
  ∀ v d H', But p H H' → PoolAt H' p → Dp K H' v d → GdL L n (deep + 1) d → Q v H'
section
variable {P : Program} {w : World} {K : PySem.W.Frag} {mg : Str → Option Value} {base : Heap}
theorem ok_lterm {f fD fP : Addr} {fd dD dP : FuncData} (F : Fun K "_law_term" "_law_term" sLTerm f fd) (M : Blt mg) (bF : Binds K fd ["_law_pool_here", "_law_b", "_law_many", "_law_deep"] []) (gF : mg "_law_term" = some (.ref f))
    (FD : Fun K "_law_draw" "_law_draw" sDraw fD dD) (bD : Binds K dD ["_law_pool_here", "_law_many"] []) (gD : mg "_law_draw" = some (.ref fD))
    (FP : Fun K "_law_pick" "_law_pick" sPick fP dP) (bP : Binds K dP ["_law_pool_here", "_law_row"] []) (gP : mg "_law_pick" = some (.ref fP)) :
    ∀ m : Nat, FnOk P w K mg base CX0 (m + 3) f fd ["_law_pool_here", "_law_b", "_law_many", "_law_deep"] (spLTerm K m) := by
  have GD : FnOk P w K mg base CX0 1 fD dD ["_law_pool_here", "_law_many"] spDraw := ok_draw FD M
  have GP : FnOk P w K mg base CX0 2 fP dP ["_law_pool_here", "_law_row"] (spPick K) := ok_pick FP M FD bD gD
  intro m
  induction m with
  | zero =>
    refine F.ok scLTerm (fun vs H Q E h => ?_) (fun cdv A outer s H vs Q E hr h => ?_)
    · obtain ⟨L, p, b, n, deep, N, rfl, _⟩ := h
      rfl
    · obtain ⟨L, p, b, n, deep, N, rfl, _, _, _, _, h, _⟩ := h
      exact absurd h (Nat.not_lt_zero _)
  | succ m GT =>
    refine F.ok scLTerm (fun vs H Q E h => ?_) (fun cdv A outer s H vs Q E hr h => ?_)
    · obtain ⟨L, p, b, n, deep, N, rfl, _⟩ := h
      rfl
    · obtain ⟨L, p, b, n, deep, N, rfl, hp, hb, hn0, hn2, hdm, q⟩ := h
      have hr1 : Room 1 _ := hr.mono (by omega)
      have hr2 : Room 2 _ := hr.mono (by omega)
      have hu := hu_of hr
      refine ⟨_, pss_cons (ps_set (i := 4) scLTerm.nd rfl (.inl rfl) (pe_call GD hr1 (by rfl) gD FD.kp bD .nil pass0 (pa_cons (pv 0) (pa_cons (pe_ifExp (pt_cmpR op_gt (pv 3) pe_int (nomark _)) pe_int pe_int) pa_nil))))
        (pss_cons (ps_if (PW.pt (pw_or (pt_cmpR op_eq (pv 4) pe_int (nomark _)) (pw_or (PW.pt (pw_and (pt_cmpR op_eq (pv 4) pe_int (nomark _)) (pw_and1 (pt_cmpR op_eq (pv 2) pe_int (nomark _)))))
            (pw_or1 (PW.pt (pw_and (pt_cmpR op_in_seq (pv 4) (pe_lst (pa_cons pe_int (pa_cons pe_int pa_nil))) (by rfl)) (pw_and1 (pt_cmpR (op_eqD hr.units) (pe_dget hu (pv 1) pe_str (fun _ _ => rfl)) (pe_lst pa_nil) (nomark _)))))))))
            (pss_one (ps_ret (pe_call GD hr1 (by rfl) gD FD.kp bD .nil pass0 (pa_cons (pv 0) (pa_cons pe_int pa_nil))))) pss_nil)
        (pss_cons (ps_if (pt_cmpR op_eq (pv 4) pe_int (nomark _)) (pss_one (ps_ret (pe_tup (pa_cons pe_str (pa_cons (pe_call GD hr1 (by rfl) gD FD.kp bD .nil pass0 (pa_cons (pv 0) (pa_cons (pv 2) pa_nil))) pa_nil))))) pss_nil)
        (pss_cons (ps_if (PW.pt (pw_or (pt_cmpR op_eq (pv 4) pe_int (nomark _)) (pw_or1 (pt_cmpR op_eq (pv 4) pe_int (nomark _)))))
            (pss_one (ps_ret (pe_tup (pa_cons pe_str (pa_cons (pe_ix ix_tup (pe_call GP hr2 (by rfl) gP FP.kp bP .nil pass0 (pa_cons (pv 0) (pa_cons (pe_dget hu (pv 1) pe_str (fun _ _ => rfl)) pa_nil))) pe_int (fun _ _ => rfl)) pa_nil))))) pss_nil)
        (pss_cons (ps_if (pt_cmpR op_eq (pv 4) pe_int (nomark _))
            (pss_one (ps_ret (pe_ifExp (pt_cmpR op_eq (pe_call GD hr1 (by rfl) gD FD.kp bD .nil pass0 (pa_cons (pv 0) (pa_cons pe_int pa_nil))) pe_int (nomark _)) (pe_tup (pa_cons pe_str pa_nil)) (pe_call GD hr1 (by rfl) gD FD.kp bD .nil pass0 (pa_cons (pv 0) (pa_cons pe_int pa_nil)))))) pss_nil)
        (pss_cons (ps_if (PW.pt (pw_and (pt_cmpR op_eq (pv 4) pe_int (nomark _)) (pw_and1 (pt_cmpR (op_neNil hr.units) (pe_dget hu (pv 1) pe_str (fun _ _ => rfl)) (pe_lst pa_nil) (nomark _)))))
            (pss_cons (ps_set (i := 5) scLTerm.nd rfl (.inl rfl) (pe_call GP hr2 (by rfl) gP FP.kp bP .nil pass0 (pa_cons (pv 0) (pa_cons (pe_dget hu (pv 1) pe_str (fun _ _ => rfl)) pa_nil))))
            (pss_one (ps_ret (pe_tup (pa_cons pe_str (pa_cons (pe_dget hu (pv 5) pe_str (fun _ _ => rfl)) (pa_cons (pe_callTy call_tuple_of (by rfl) M.tuple (by decide +kernel) (pa_cons
              (pe_lc (own := [("_law_at", 7)]) (g := gName 7) (te := tCall (spLTerm K m) [] E0 (tCons (tVar 0) (tCons (tVar 1) (tCons (tVar 2) (tCons (tC (.int 0)) tNil))))) (by rfl) scLTerm.nd (pi_range1 (by rfl) M.range (pa_cons (pe_dget hu (pv 5) pe_str (fun _ _ => rfl)) pa_nil)) (blkOk_by (own := [("_law_at", 7)]) (N := ["_law_pool_here", "_law_b", "_law_many", "_law_deep", "_law_kind", "_law_f", "_law_head", "_law_at"]) (sc := defScope sLTerm) (by decide +kernel))
                (fun _ _ _ _ _ => pg_name (i := 7) scLTerm.nd rfl (Or.inl rfl)) (fun _ _ _ _ _ => pts_nil) (fun _ _ _ _ _ => pe_call GT hr (by rfl) gF F.kp bF .nil pass0 (pa_cons (pv 0) (pa_cons (pv 1) (pa_cons (pv 2) (pa_cons pe_int pa_nil)))))) pa_nil)) pa_nil))))))) pss_nil)
        (pss_cons (ps_if (pt_cmpR op_eq (pv 4) pe_int (nomark _))
            (pss_one (ps_ret (pe_op op_catT (pe_tup (pa_cons pe_str pa_nil)) (pe_callTy call_tuple_of (by rfl) M.tuple (by decide +kernel) (pa_cons
              (pe_lc (own := [("_law_at", 7)]) (g := gName 7) (te := tCall (spLTerm K m) [] E0 (tCons (tVar 0) (tCons (tVar 1) (tCons (tVar 2) (tCons (tOp (rI0 fun i j => .int (i - j)) (tVar 3) (tC (.int 1))) tNil))))) (by rfl) scLTerm.nd (pi_range1 (by rfl) M.range (pa_cons pe_int pa_nil)) (blkOk_by (own := [("_law_at", 7)]) (N := ["_law_pool_here", "_law_b", "_law_many", "_law_deep", "_law_kind", "_law_f", "_law_head", "_law_at"]) (sc := defScope sLTerm) (by decide +kernel))
                (fun _ _ _ _ _ => pg_name (i := 7) scLTerm.nd rfl (Or.inl rfl)) (fun _ _ _ _ _ => pts_nil) (fun _ _ _ _ _ => pe_call GT hr (by rfl) gF F.kp bF .nil pass0 (pa_cons (pv 0) (pa_cons (pv 1) (pa_cons (pv 2) (pa_cons (pe_op op_sub (pv 3) pe_int) pa_nil)))))) pa_nil))))) pss_nil)
        (pss_cons (ps_set (i := 6) scLTerm.nd rfl (.inl rfl) (pe_call GP hr2 (by rfl) gP FP.kp bP .nil pass0 (pa_cons (pv 0) (pa_cons (pe_lst (pa_cons pe_str (pa_cons pe_str (pa_cons pe_str pa_nil)))) pa_nil))))
        (pss_one (ps_ret (pe_tup (pa_cons (pv 6) (pa_cons (pe_call GT hr (by rfl) gF F.kp bF .nil pass0 (pa_cons (pv 0) (pa_cons (pv 1) (pa_cons (pv 2) (pa_cons (pe_op op_sub (pv 3) pe_int) pa_nil)))))
            (pa_cons (pe_call GT hr (by rfl) gF F.kp bF .nil pass0 (pa_cons (pv 0) (pa_cons (pv 1) (pa_cons (pv 2) (pa_cons (pe_op op_sub (pv 3) pe_int) pa_nil))))) pa_nil))))))))))))), ?_⟩
      refine q_asgP (Pr := fun v H1 => ∃ k : Int, v = .int k ∧ 0 ≤ k ∧ k < 9 ∧ (4 ≤ k → 0 < deep) ∧ But p H H1 ∧ PoolAt H1 p) (fun Q' hq => ?_) (fun v H1 hv => ?_)
      · refine ⟨.ref p, rfl, _, rfl, _, _, rfl, rfl, _, rfl, ite2 (fun e => ?_) (fun e => ?_)⟩
        · refine ⟨p, 9, rfl, hp, by omega, by omega, fun k H1 k0 k9 b1 hp1 fr => hq _ _ ⟨k, rfl, k0, k9, fun _ => ?_, b1, hp1⟩⟩
          have := of_decide_eq_true e
          omega
        · exact ⟨p, 4, rfl, hp, by omega, by omega, fun k H1 k0 k9 b1 hp1 fr => hq _ _ ⟨k, rfl, k0, by omega, fun _ => by omega, b1, hp1⟩⟩
      · obtain ⟨k, rfl, k0, k9, k4, b1, hp1⟩ := hv
        have leaf : ∀ (H2 : Hp) (Q2 : VK), But p H H2 → PoolAt H2 p → (∀ v H', Q v H' → Q2 v H') → ∃ (p' : Addr) (n' : Int), [V.ref p, V.int 3] = [.ref p', .int n'] ∧ PoolAt H2 p' ∧ 0 < n' ∧ n' ≤ 1000000000 ∧ ∀ (v : Int) H', 0 ≤ v → v < n' → But p' H2 H' → PoolAt H' p' → (∀ b, H2 b = none → H' b = none) → Q2 (.int v) H' :=
          fun H2 Q2 b2 hp2 hq => ⟨p, 3, rfl, hp2, by omega, by omega, fun z H3 z0 z3 b3 hp3 fr => hq _ _ (q _ (.int z) H3 (b2.trans b3) hp3 (.int z) (.val z0 z3))⟩
        refine q_seqR (fun σ' H' => σ' = [some (.ref p), some (.ref b), some (.int n), some (.int deep), some (.int k), none, none, none] ∧ But p H H' ∧ PoolAt H' p ∧ k ≠ 0 ∧ (k = 1 → n ≠ 0) ∧ ((k = 2 ∨ k = 8) → L.cells ≠ [])) (fun nx hnx => ?_) (fun σ' H2 hP => ?_)
        · refine ⟨_, rfl, rfl, _, rfl, ?_⟩
          rw [dint]
          by_cases h0 : k = 0
          · rw [decide_eq_true h0]
            exact iteT ⟨.ref p, rfl, leaf H1 _ b1 hp1 fun _ _ h => h⟩
          rw [decide_eq_false h0]
          refine iteF ⟨_, rfl, rfl, _, rfl, ?_⟩
          rw [dint]
          by_cases h1 : k = 1
          · rw [decide_eq_true h1]
            refine iteT ⟨_, rfl, rfl, _, rfl, ?_⟩
            rw [dint]
            by_cases hz : n = 0
            · rw [decide_eq_true hz]
              exact iteT ⟨.ref p, rfl, leaf H1 _ b1 hp1 fun _ _ h => h⟩
            · rw [decide_eq_false hz]
              refine iteF ⟨_, rfl, (by show 2 ≤ sizeLine; decide), fun l nl => ⟨l, _, rfl, .inl (.inl (.inl upd_same)), rfl, rfl, _, rfl, ?_⟩⟩
              rw [in_twoI, decide_eq_false (by omega)]
              exact iteF (iteF (hnx _ _ ⟨rfl, but_sameN b1 (same_upd nl), hp1.upd nl, h0, fun _ => hz, fun h => by omega⟩))
          · rw [decide_eq_false h1]
            refine iteF (iteF ⟨_, rfl, (by show 2 ≤ sizeLine; decide), fun l nl => ⟨l, _, rfl, .inl (.inl (.inl upd_same)), rfl, rfl, _, rfl, ?_⟩⟩)
            rw [in_twoI]
            by_cases h2 : k = 2 ∨ k = 8
            · rw [decide_eq_true h2]
              have b2 := but_sameN b1 (same_upd (o := .lst [.int 2, .int 8]) nl)
              have hp2 := hp1.upd (o := .lst [.int 2, .int 8]) nl
              obtain ⟨c, f', ts, gs, e0, e1, e4, r1, r2⟩ := hb.but hp b2
              refine iteT ⟨_, rfl, b, .ref c, rfl, dg e0 "cells" rfl, Nat.zero_le _, fun l2 nl2 => ?_⟩
              have s2 := same_upd (o := .lst []) nl2
              refine ⟨.list (cellsD L), .list [], .lst (.inl (.inl (s2 _ _ e1))) (dpA_same s2 (cells_dp r1)), .lst (.inl (.inl upd_same)) .nil, cells_shaped N, by decide +kernel, _, rfl, ?_⟩
              cases hcs : L.cells with
              | nil =>
                have ec : cellsD L = [] := by
                  unfold cellsD
                  rw [hcs]
                  rfl
                rw [ec, show PyData.eqv (.list []) (.list []) = true from SeqAt.eqv_refl _ (by decide +kernel)]
                exact iteT ⟨.ref p, rfl, leaf _ _ (but_sameN b2 s2) (hp2.upd nl2) fun _ _ h => h⟩
              | cons x r =>
                have ec : PyData.eqv (.list (cellsD L)) (.list []) = false := by
                  unfold cellsD
                  rw [hcs]
                  rfl
                rw [ec]
                exact iteF (hnx _ _ ⟨rfl, but_sameN b2 s2, hp2.upd nl2, h0, (fun h => absurd h h1), fun _ e => by rw [hcs] at e; cases e⟩)
            · rw [decide_eq_false h2]
              exact iteF (iteF (hnx _ _ ⟨rfl, but_sameN b1 (same_upd nl), hp1.upd nl, h0, (fun h => absurd h h1), fun h => absurd h h2⟩))
        · obtain ⟨rfl, b2, hp2, h0, hn1, hcell⟩ := hP
          clear b1 hp1
          have hb2 := hb.but hp b2
          refine ⟨_, rfl, rfl, _, rfl, ?_⟩
          rw [dint]
          by_cases h1 : k = 1
          · rw [decide_eq_true h1]
            refine iteT ⟨_, rfl, _, rfl, p, n, rfl, hp2, ?_, by omega, fun z H3 z0 zn b3 hp3 fr => ⟨(by show 2 ≤ sizeLine; decide), fun t nt => ?_⟩⟩
            · have := hn1 h1
              omega
            · exact q _ (.tuple [.str "arg", .int z]) _ (but_sameN (b2.trans b3) (same_upd nt)) (hp3.upd nt) (dpT nt (.cons (.str _) (.cons (.int _) .nil))) (.arg z0 zn)
          rw [decide_eq_false h1]
          refine iteF ⟨_, rfl, rfl, _, rfl, ?_⟩
          rw [dint]
          have cell : L.cells ≠ [] → ∀ (Q2 : VK), (∀ v d H', But p H H' → PoolAt H' p → Dp K H' v d → GdL L n (deep + 1) d → Q2 v H') → (tTup (tCons (tC (.str "cell")) (tCons (tOp (rIxT K) (tCall (spPick K) [] E0 (tCons (tVar 0) (tCons (tDGet (tVar 1) (tC (.str "cells"))) tNil))) (tC (.int 0))) tNil))) [some (.ref p), some (.ref b), some (.int n), some (.int deep), some (.int k), none, none, none] H2 Q2 := by
            intro hne Q2 hq
            obtain ⟨c, f', ts, gs, e0, e1, e4, r1, r2⟩ := hb2
            obtain ⟨x, y, ep, _⟩ := id hp2
            have l1 : 1 ≤ ts.length := by
              rw [r1.1]
              cases h : L.cells with
              | nil => exact absurd h hne
              | cons _ _ => simp
            have l8 : ts.length ≤ 8 := by rw [r1.1]; exact N.lc
            have npc : p ≠ c := fun q => by
              rw [← q, ep] at e1
              cases e1
              obtain ⟨d, _, t, e, _⟩ := r1.at (i := 0) (by show 0 < 2; decide)
              cases e
            refine ⟨_, rfl, _, rfl, b, .ref c, rfl, dg e0 "cells" rfl, p, c, ts, rfl, hp2, npc, .inl (.inl (.inl e1)), l1, Nat.le_trans l8 (by decide), fun i hi H3 b3 hp3 fr => ?_⟩
            obtain ⟨d, hd, t, et, ht⟩ := r1.at hi
            rw [et]
            exact ⟨t, _, 0, .str d.1, rfl, rfl, but_sqT ep b3 ht, atI_nat (j := 0) rfl, (by show 2 ≤ sizeLine; decide), fun l nl => hq _ (.tuple [.str "cell", .str d.1]) _ (but_sameN (b2.trans b3) (same_upd nl)) (hp3.upd nl) (dpT nl (.cons (.str _) (.cons (.str _) .nil))) (.cell (k := d.2) hd)⟩
          by_cases h2 : k = 2
          · rw [decide_eq_true h2]
            exact iteT (cell (hcell (.inl h2)) _ q)
          rw [decide_eq_false h2]
          refine iteF ⟨_, rfl, rfl, _, rfl, ?_⟩
          rw [dint]
          by_cases h8 : k = 8
          · rw [decide_eq_true h8]
            exact iteT (cell (hcell (.inr h8)) _ q)
          rw [decide_eq_false h8]
          refine iteF ⟨_, rfl, rfl, _, rfl, ?_⟩
          rw [dint]
          by_cases h3 : k = 3
          · rw [decide_eq_true h3]
            refine iteT ⟨_, rfl, p, 3, rfl, hp2, by omega, by omega, fun z H3 z0 z3 b3 hp3 fr => ⟨rfl, _, rfl, ite2 (fun _ => ⟨(by show 1 ≤ sizeLine; decide), fun t nt => ?_⟩) (fun _ => ⟨.ref p, rfl, leaf H3 _ (b2.trans b3) hp3 fun _ _ h => h⟩)⟩⟩
            exact q _ (.tuple [.str "tick"]) _ (but_sameN (b2.trans b3) (same_upd nt)) (hp3.upd nt) (dpT nt (.cons (.str _) .nil)) .tick
          rw [decide_eq_false h3]
          refine iteF ?_
          dsimp only [tNext]
          have dpos : 0 < deep := k4 (by omega)
          have dm : deep - 1 + 1 = deep := by omega
          have dcast : ((deep : Nat) : Int) - 1 = ((deep - 1 : Nat) : Int) := by omega
          have dargs : [V.ref p, V.ref b, V.int n, V.int (((deep : Nat) : Int) - 1)] = [V.ref p, V.ref b, V.int n, V.int ((deep - 1 : Nat) : Int)] := by rw [dcast]
          refine q_seqR (fun σ' H' => σ' = [some (.ref p), some (.ref b), some (.int n), some (.int deep), some (.int k), none, none, none] ∧ But p H H' ∧ PoolAt H' p ∧ LBk K L H' b) (fun nx hnx => ?_) (fun σ' H2 hP => ?_)
          · refine ⟨_, rfl, rfl, _, rfl, ?_⟩
            rw [dint]
            by_cases h4 : ¬ k = 4
            · rw [decide_eq_false h4]
              exact iteF (hnx _ _ ⟨rfl, b2, hp2, hb2⟩)
            rw [decide_eq_true (Decidable.not_not.mp h4)]
            have hb2' := hb2
            obtain ⟨c, f', ts, gs, e0, e1, e4, r1, r2⟩ := hb2
            refine iteT ⟨_, rfl, b, .ref f', rfl, dg e0 "functions" rfl, Nat.zero_le _, fun l nl => ?_⟩
            have sl : Same H2 (upd H2 l (.lst [])) := same_upd nl
            refine ⟨f', l, gs, rfl, rfl, .inl (.inl (sl _ _ e4)), .inl (.inl upd_same), _, rfl, ?_⟩
            cases hgs : gs with
            | nil => exact iteF (hnx _ _ ⟨rfl, but_sameN b2 sl, hp2.same sl, hb2'.but hp2 (But.of sl)⟩)
            | cons g0 gr =>
            refine iteT ?_
            have l1 : 1 ≤ gs.length := by rw [hgs]; simp
            have l8 : gs.length ≤ 8 := by rw [r2.1]; exact N.lf
            have b3 := but_sameN b2 sl
            have hp3 := hp2.same sl
            have npf : p ≠ f' := fun q => by
              obtain ⟨x, y, ep, _⟩ := hp2
              rw [← q, ep] at e4
              cases e4
              obtain ⟨d, _, t, _, e, _⟩ := r2.at (i := 0) (by show 0 < 2; decide)
              cases e
            have hb3 := hb2'.but hp2 (But.of sl)
            have r3 : Rows (FnD (upd H2 l (.lst []))) gs L.fns := r2.mono fun v d h => by
              obtain ⟨g, kvs, e, h, r⟩ := h
              exact ⟨g, kvs, e, sl _ _ h, r⟩
            generalize upd H2 l (.lst []) = H3 at sl b3 hp3 hb3 r3
            refine ⟨_, rfl, _, rfl, b, .ref f', rfl, dg (sl _ _ e0) "functions" rfl, p, f', gs, rfl, hp3, npf, .inl (.inl (.inl (sl _ _ e4))), l1, Nat.le_trans l8 (by decide), fun i hi H4 b4 hp4 fr => ?_⟩
            have hb4 := hb3.but hp3 b4
            obtain ⟨⟨nx, cnt⟩, hmem, g, kvs, eg, e3g, kn, km⟩ := r3.at hi
            have e4g : H4 g = some (.dK kvs) := by
              obtain ⟨x, y, ep, _⟩ := hp3
              exact b4 _ _ e3g (ne_of e3g ep (fun z => nomatch z))
            have hc := (N.f _ hmem).2
            dsimp only at hc kn km
            rw [eg]
            refine ⟨.ref g, rfl, g, .str nx, rfl, dg e4g "name" kn, .ref g, rfl, g, .int (cnt : Int), rfl, dg e4g "many" km, (cnt : Int), rfl, by omega, by omega, fun D hD => ?_⟩
            refine lc_terms (K := K) N (n := n) (f := 1) (vs := [7]) (j := 7) (D := D) (p := p) walk_range (by omega) hD hp4 (fun x => rfl)
              (fun i' x H5 H6 hi' b5 hp5 y => ⟨y.1, fun Q2 q2 => ⟨.ref p, rfl, .ref b, rfl, .int n, rfl, L, p, b, n, 0, N, rfl, hp5, hb4.but hp4 b5, hn0, hn2, by omega, fun v d H7 b7 hp7 dv gd => q2 v d H7 b7 hp7 dv gd⟩⟩)
              (fun ys ts H5 b5 hp5 e5' ha el hall => ⟨D, ys, rfl, .inl ⟨.inl (.inl e5'), fun t nt => ⟨(by show 3 ≤ sizeLine; decide), fun t2 nt2 => ?_⟩⟩⟩)
            refine q _ (.tuple [.str "call", .str nx, .tuple ts]) _ (but_sameN ((b3.trans b4).trans b5) ((same_upd nt).trans (same_upd nt2))) ((hp5.upd nt).upd nt2) (dpT nt2 (.cons (.str _) (.cons (.str _) (.cons (dpT nt ha) .nil)))) (.call (by rw [el, show ((cnt : Int)).toNat = cnt from rfl]; exact hmem) fun t ht => gdl_mono 1 deep t (hall t ht) dpos)
          clear b2 hp2 hb2
          obtain ⟨rfl, b2, hp2, hb2⟩ := hP
          refine ⟨_, rfl, rfl, _, rfl, ?_⟩
          rw [dint]
          by_cases h7 : k = 7
          · rw [decide_eq_true h7]
            refine iteT ⟨(by show 1 ≤ sizeLine; decide), fun t1 nt1 => ⟨3, rfl, by decide, by decide, fun D hD => ?_⟩⟩
            have s1 : Same H2 (upd H2 t1 (.tup [.str "if"])) := same_upd nt1
            have hp3 := hp2.upd (o := .tup [.str "if"]) nt1
            have et1 : SqT K (upd H2 t1 (.tup [.str "if"])) t1 [.str "if"] := .inl (.inl upd_same)
            refine lc_terms (K := K) N (n := n) (f := deep) (vs := [7]) (j := 7) (D := D) (p := p) (walk_range (n := 3)) (by decide) hD hp3 (fun x => rfl)
              (fun i' x H5 H6 hi' b5 hp5 y => ⟨y.1, fun Q2 q2 => ⟨.ref p, rfl, .ref b, rfl, .int n, rfl, .int deep, rfl, _, _, rfl, rfl, L, p, b, n, deep - 1, N, dargs, hp5, (hb2.but hp2 (But.of s1)).but hp3 b5, hn0, hn2, by omega, fun v d H7 b7 hp7 dv gd => q2 v d H7 b7 hp7 dv (by rw [dm] at gd; exact gd)⟩⟩)
              (fun ys ts H5 b5 hp5 e5' ha el hall => ⟨D, ys, rfl, .inl ⟨.inl (.inl e5'), fun t2 nt2 => ?_⟩⟩)
            have ely : ys.length = 3 := by rw [dpA_len ha, el]
            have et5 : SqT K H5 t1 [.str "if"] := by
              obtain ⟨x, y, ep, _⟩ := hp3
              exact but_sqT ep b5 et1
            refine ⟨t1, t2, [.str "if"], ys, rfl, rfl, same_sqT (same_upd nt2) et5, .inl (.inl upd_same), by simp, ?_, fun e => ?_, fun _ t3 nt3 => ?_⟩
            · rw [ely]
              decide
            · rw [e] at ely
              cases ely
            · exact q _ (.tuple (.str "if" :: ts)) _ (but_sameN ((but_sameN b2 s1).trans b5) ((same_upd nt2).trans (same_upd nt3))) ((hp5.upd nt2).upd nt3) (dpT nt3 (.cons (.str _) (dpA_same (same_upd nt2) ha))) (.op (.inl ⟨rfl, el⟩) hall)
          rw [decide_eq_false h7]
          refine iteF ?_
          refine ⟨.ref p, rfl, (by show 3 ≤ sizeLine; decide), fun l nl => ?_⟩
          refine ⟨p, l, _, rfl, hp2.upd nl, hp2.ne nl, .inl (.inl (.inl upd_same)), (by decide), (by decide), fun i hi H3 b3 hp3 fr => ?_⟩
          have sl : Same H2 (upd H2 l (.lst [.str "plus", .str "less", .str "same"])) := same_upd nl
          have hb3 := (hb2.but hp2 (But.of sl)).but (hp2.upd nl) b3
          have bb3 := (but_sameN b2 sl).trans b3
          obtain ⟨h, eh, hbin⟩ : ∃ h, [V.str "plus", .str "less", .str "same"][i] = .str h ∧ bin h := by
            match i, hi with
            | 0, _ => exact ⟨_, rfl, .inl rfl⟩
            | 1, _ => exact ⟨_, rfl, .inr (.inl rfl)⟩
            | 2, _ => exact ⟨_, rfl, .inr (.inr rfl)⟩
          rw [eh]
          refine ⟨.str h, rfl, .ref p, rfl, .ref b, rfl, .int n, rfl, .int deep, rfl, _, _, rfl, rfl, L, p, b, n, deep - 1, N, dargs, hp3, hb3, hn0, hn2, by omega, fun v1 d1 H4 b4 hp4 dv1 gd1 => ?_⟩
          rw [dm] at gd1
          refine ⟨.ref p, rfl, .ref b, rfl, .int n, rfl, .int deep, rfl, _, _, rfl, rfl, L, p, b, n, deep - 1, N, dargs, hp4, hb3.but hp3 b4, hn0, hn2, by omega, fun v2 d2 H5 b5 hp5 dv2 gd2 => ⟨(by show 3 ≤ sizeLine; decide), fun t nt => ?_⟩⟩
          rw [dm] at gd2
          refine q _ (.tuple [.str h, d1, d2]) _ (but_sameN ((bb3.trans b4).trans b5) (same_upd nt)) (hp5.upd nt) (dpT nt (.cons (.str _) (.cons (dp_but hp4 b5 (gd_nl _ _ (gdl_gd N _ _ gd1)) dv1) (.cons dv2 .nil)))) (.op (.inr ⟨hbin, rfl⟩) fun t ht => ?_)
          rcases List.mem_cons.mp ht with rfl | ht
          · exact gd1
          · rw [List.mem_singleton.mp ht]
            exact gd2
end
/-! ### the law's writes, drawn -/
def WrD (L : LB) (n : Int) (d : PyData) : Prop := d = .tuple [] ∨ ∃ z t, d = .tuple [.tuple [.str z, t]] ∧ (z, ("table" : Str)) ∈ L.cells ∧ GdL L n 2 t
abbrev sLW : Stmt := topS 38
theorem scLW : FnScope ["_law_pool_here", "_law_b", "_law_many", "_law_tables", "_law_cell"] ["_law_pool_here", "_law_b", "_law_many"] (defScope sLW) := ⟨rfl, rfl, rfl, by decide +kernel, rfl, by decide +kernel, by decide +kernel⟩
def tablesOf (cs : List (Str × Str)) : List Str := (cs.filter fun x => decide (x.2 = ("table" : Str))).map (·.1)
def spLW (K : PySem.W.Frag) : Sp := fun vs H Q _ => ∃ (L : LB) (p b : Addr) (n : Int), LOk L ∧ vs = [.ref p, .ref b, .int n] ∧ PoolAt H p ∧ LBk K L H b ∧ 0 ≤ n ∧ n ≤ 2 ∧
  ∀ v d H', But p H H' → PoolAt H' p → Dp K H' v d → WrD L n d → Q v H'
theorem strs_dp {K : PySem.W.Frag} {H : Hp} : ∀ zs : List Str, DpAll K H (zs.map V.str) (zs.map PyData.str)
  | [] => .nil
  | z :: zs => .cons (.str z) (strs_dp zs)
section
variable {P : Program} {w : World} {K : PySem.W.Frag} {mg : Str → Option Value} {base : Heap}
theorem ok_lw {f fD fP fT : Addr} {fd dD dP dT : FuncData} (F : Fun K "_law_writes" "_law_writes" sLW f fd) (M : Blt mg)
    (FD : Fun K "_law_draw" "_law_draw" sDraw fD dD) (bD : Binds K dD ["_law_pool_here", "_law_many"] []) (gD : mg "_law_draw" = some (.ref fD))
    (FP : Fun K "_law_pick" "_law_pick" sPick fP dP) (bP : Binds K dP ["_law_pool_here", "_law_row"] []) (gP : mg "_law_pick" = some (.ref fP))
    (FT : Fun K "_law_term" "_law_term" sLTerm fT dT) (bT : Binds K dT ["_law_pool_here", "_law_b", "_law_many", "_law_deep"] []) (gT : mg "_law_term" = some (.ref fT)) : FnOk P w K mg base CX0 6 f fd ["_law_pool_here", "_law_b", "_law_many"] (spLW K) := by
  have GD : FnOk P w K mg base CX0 1 fD dD ["_law_pool_here", "_law_many"] spDraw := ok_draw FD M
  have GP : FnOk P w K mg base CX0 2 fP dP ["_law_pool_here", "_law_row"] (spPick K) := ok_pick FP M FD bD gD
  have GT : FnOk P w K mg base CX0 5 fT dT ["_law_pool_here", "_law_b", "_law_many", "_law_deep"] (spLTerm K 2) := ok_lterm FT M bT gT FD bD gD FP bP gP 2
  refine F.ok scLW (fun vs H Q E h => ?_) (fun cdv A outer s H vs Q E hr h => ?_)
  · obtain ⟨L, p, b, n, _, rfl, _⟩ := h
    rfl
  · obtain ⟨L, p, b, n, o, rfl, hp, hb, n0, n2, q⟩ := h
    have hr1 : Room 1 (A.deeper (envOfC "_law_writes" (defScope sLW) s.heap.objs.size f cdv)) := hr.mono (by decide)
    have hr2 : Room 2 (A.deeper (envOfC "_law_writes" (defScope sLW) s.heap.objs.size f cdv)) := hr.mono (by decide)
    have hu := hu_of hr
    refine ⟨_, pss_cons (ps_setLc (i := 3) (own := [("_law_cell", 4)]) (g := gName 4) (wi := iList K (tDGet (tVar 1) (tC (.str "cells")))) (tt := tTest (tOp rEq (tOp (rIxT K) (tVar 4) (tC (.int 1))) (tC (.str "table")))) (te := tOp (rIxT K) (tVar 4) (tC (.int 0))) (by rfl) scLW.nd rfl rfl (sw_true rfl rfl rfl (by decide +kernel)) (pi_list (pe_dget hu (pv 1) pe_str (fun _ _ => rfl)))
          (blkOk_by (own := [("_law_cell", 4)]) (N := ["_law_pool_here", "_law_b", "_law_many", "_law_tables", "_law_cell"]) (sc := defScope sLW) (by decide +kernel)) (fun _ _ _ _ _ => pg_name (i := 4) scLW.nd rfl (Or.inl rfl)) (fun _ _ _ _ _ => pts_one (pt_cmpR op_eq (pe_ix ix_tup (pv 4) pe_int (fun _ _ => rfl)) pe_str (nomark _))) (fun _ _ _ _ _ => pe_ix ix_tup (pv 4) pe_int (fun _ _ => rfl)))
      (pss_cons (ps_if (PW.pt (pw_or (pt_cmpR (op_eqD hr.units) (pv 3) (pe_lst pa_nil) (nomark _)) (pw_or1 (pt_cmpR op_eq (pe_call GD hr1 (by rfl) gD FD.kp bD .nil pass0 (pa_cons (pv 0) (pa_cons pe_int pa_nil))) pe_int (nomark _))))) (pss_one (ps_ret (pe_tup pa_nil))) pss_nil)
      (pss_one (ps_ret (pe_tup (pa_cons (pe_tup (pa_cons (pe_call GP hr2 (by rfl) gP FP.kp bP .nil pass0 (pa_cons (pv 0) (pa_cons (pv 3) pa_nil))) (pa_cons (pe_call GT hr (by rfl) gT FT.kp bT .nil pass0 (pa_cons (pv 0) (pa_cons (pv 1) (pa_cons (pv 2) (pa_cons pe_int pa_nil))))) pa_nil))) pa_nil))))), ?_⟩
    obtain ⟨c, fa, ts, gs, e0, e1, e4, r1, r2⟩ := id hb
    refine ⟨.ref b, rfl, b, .ref c, rfl, dg e0 "cells" rfl, c, rfl, ⟨_, .inl (.inl e1)⟩, fun D hD => ?_⟩
    refine walk_gen (walk_list (K := K) (a := c) (xs := ts)) (fun i H' => Same H H' ∧ H' D = some (.lst ((tablesOf (L.cells.take i)).map V.str))) ⟨same_upd hD, upd_same⟩ (fun i H' _ pr => .inl (.inl (pr.1 _ _ e1))) (fun i x H1 H2 hi pr y => ?_) (fun H1 pr => ?_)
    · obtain ⟨s1, eD⟩ := pr
      obtain ⟨rfl, hx⟩ := y
      have hi' : i < L.cells.length := by
        have := (List.getElem?_eq_some_iff.mp hx).1
        rw [r1.1] at this
        exact this
      have hc := List.getElem?_eq_getElem hi'
      obtain ⟨t, rfl, ht⟩ := r1.2 i x _ hx hc
      have ht1 := same_sqT s1 ht
      have snoc : tablesOf (L.cells.take (i + 1)) = tablesOf (L.cells.take i) ++ (if decide (L.cells[i].2 = ("table" : Str)) = true then [L.cells[i].1] else []) := by
        unfold tablesOf
        rw [take_snoc hc, List.filter_append, List.map_append]
        congr 1
        cases e : decide (L.cells[i].2 = ("table" : Str)) with
        | true => rw [List.filter_cons_of_pos (by exact e)]; rfl
        | false => rw [List.filter_cons_of_neg (by rw [e]; decide)]; rfl
      refine And.intro rfl ?_
      refine ⟨.ref t, rfl, t, _, 1, .str _, rfl, rfl, ht1, atI_nat (j := 1) rfl, rfl, _, rfl, ?_⟩
      have dd : decide (V.str L.cells[i].2 = V.str "table") = decide (L.cells[i].2 = ("table" : Str)) := by
        by_cases e : L.cells[i].2 = "table"
        · rw [decide_eq_true e, decide_eq_true (by rw [e])]
        · rw [decide_eq_false e, decide_eq_false (fun z => e (V.str.inj z))]
      rw [dd]
      cases e : decide (L.cells[i].2 = ("table" : Str)) with
      | true =>
        rw [e] at snoc
        refine iteT ⟨.ref t, rfl, t, _, 0, .str _, rfl, rfl, ht1, atI_nat (j := 0) rfl, _, eD, ?_, fun b o e => ?_, ?_⟩
        · rw [List.length_map]
          unfold tablesOf
          rw [List.length_map]
          refine Nat.lt_of_le_of_lt (List.length_filter_le _ _) ?_
          rw [List.length_take]
          have := o.lc
          exact Nat.lt_of_le_of_lt (show _ ≤ 8 by omega) (by decide)
        · rw [upd_ne (ne_of_none e hD)]
          exact s1 _ _ e
        · rw [snoc, List.map_append]
          exact upd_same
      | false =>
        rw [e] at snoc
        refine iteF ⟨s1, ?_⟩
        rw [snoc]
        simpa using eD
    · obtain ⟨s1, eD⟩ := pr
      rw [r1.1, List.take_length] at eD
      have hp1 := hp.same s1
      have hb1 := hb.but hp (But.of s1)
      obtain ⟨zs, ez⟩ : ∃ zs, tablesOf L.cells = zs := ⟨_, rfl⟩
      have mem : ∀ z ∈ zs, (z, ("table" : Str)) ∈ L.cells := fun z hz => by
        rw [← ez] at hz
        unfold tablesOf at hz
        obtain ⟨x, hx, rfl⟩ := List.mem_map.mp hz
        obtain ⟨h1, h2⟩ := List.mem_filter.mp hx
        have e : x.2 = ("table" : Str) := of_decide_eq_true h2
        rw [← e]
        exact h1
      have lz : zs.length ≤ 8 := by
        rw [← ez]
        unfold tablesOf
        rw [List.length_map]
        exact Nat.le_trans (List.length_filter_le _ _) o.lc
      rw [ez] at eD
      refine ⟨.ref D, rfl, Nat.zero_le _, fun l nl => ?_⟩
      have sl := same_upd (o := .lst []) nl
      have names : ∀ z ∈ zs, PyData.strOk z = true := fun z hz => name_ok (o.c _ (mem z hz)).1
      have shp : SeqAt.shaped (.list (zs.map PyData.str)) = true := by
        refine Bool.and_eq_true_iff.mpr ⟨canLay_of fun t h => ?_, decide_eq_true ?_⟩
        · obtain ⟨z, hz, rfl⟩ := List.mem_map.mp h
          exact names z hz
        · show PyData.depthAll (zs.map PyData.str) + 1 ≤ 64
          have := depth_of (m := 0) (ts := zs.map PyData.str) fun t h => by
            obtain ⟨z, hz, rfl⟩ := List.mem_map.mp h
            exact Nat.le_refl _
          omega
      refine ⟨.list (zs.map PyData.str), .list [], .lst (.inl (.inl (sl _ _ eD))) (strs_dp zs), .lst (.inl (.inl upd_same)) .nil, shp, by decide +kernel, _, rfl, ?_⟩
      have b2 : But p H (upd H1 l (.lst [])) := (But.of s1).trans (But.of sl)
      have hp2 := hp1.same sl
      have hb2 := hb1.but hp1 (But.of sl)
      have eD2 := sl _ _ eD
      have nDp : p ≠ D := by
        obtain ⟨x, y, ep, _⟩ := hp
        exact ne_of_none ep hD
      have gone : ∀ H', But p H H' → PoolAt H' p → (tTup tNil) [some (.ref p), some (.ref b), some (.int n), some (.ref D), none] H' Q := fun H' k h => ⟨by show 0 ≤ sizeLine; decide, fun t nt => q _ (.tuple []) _ (but_sameN k (same_upd nt)) (h.upd nt) (dpT nt .nil) (.inl rfl)⟩
      cases hz : zs with
      | nil =>
        rw [show PyData.eqv (.list (([] : List Str).map PyData.str)) (.list []) = true from SeqAt.eqv_refl _ (by decide +kernel)]
        exact iteT (gone _ b2 hp2)
      | cons z0 zr =>
        rw [show PyData.eqv (.list ((z0 :: zr).map PyData.str)) (.list []) = false from rfl]
        have l1 : 1 ≤ (zs.map V.str).length := by rw [hz]; simp
        refine iteF ⟨.ref p, rfl, p, 2, rfl, hp2, by omega, by omega, fun k H3 k0 k2 b3 hp3 fr => ⟨rfl, _, rfl, ?_⟩⟩
        have b13 := b2.trans b3
        refine ite2 (fun _ => gone _ b13 hp3) (fun _ => ?_)
        have eD3 := b3 _ _ eD2 nDp.symm
        refine ⟨.ref p, rfl, .ref D, rfl, p, D, zs.map V.str, rfl, hp3, nDp, .inl (.inl (.inl eD3)), l1, Nat.le_trans (by rw [List.length_map]; exact lz) (by decide), fun i hi H4 b4 hp4 fr4 => ?_⟩
        have hi' : i < zs.length := by rw [List.length_map] at hi; exact hi
        have hb4 := (hb2.but hp2 b3).but hp3 b4
        rw [List.getElem_map]
        refine ⟨.ref p, rfl, .ref b, rfl, .int n, rfl, L, p, b, n, 1, o, rfl, hp4, hb4, n0, n2, by decide, fun v d H5 b5 hp5 dv gd => ?_⟩
        refine ⟨by show 2 ≤ sizeLine; decide, fun t1 m1 => ⟨by show 1 ≤ sizeLine; decide, fun t2 m2 => ?_⟩⟩
        refine q _ (.tuple [.tuple [.str zs[i], d]]) _ (but_sameN ((b13.trans b4).trans b5) ((same_upd m1).trans (same_upd m2))) ((hp5.upd m1).upd m2) (dpT m2 (.cons (dpT m1 (.cons (.str _) (.cons dv .nil))) .nil)) (.inr ⟨_, d, rfl, mem _ (List.getElem_mem hi'), gd⟩)
end
/-! ### the law's book, drawn -/
structure FDr where
  nm : Str
  many : Nat
  res : PyData
  ws : PyData
  cost : Int
  label : Str
def FDrAt (K : PySem.W.Frag) (H : Hp) (v : V) (F : FDr) : Prop := ∃ (g : Addr) (vr vw : V), v = .ref g ∧ H g = some (.dK [(.inr "name", .str F.nm), (.inr "many", .int (F.many : Nat)), (.inr "result", vr), (.inr "writes", vw), (.inr "cost", .int F.cost), (.inr "label", .str F.label)]) ∧
  Dp K H vr F.res ∧ Dp K H vw F.ws ∧ noL F.res = true ∧ noL F.ws = true
def lbOf (cells : List (Str × Str)) (fs : List FDr) : LB := ⟨cells, fs.map fun F => (F.nm, F.many)⟩
def labelRow : List Str := ["always", "session", "statement", "changing"]
/-- what is known of a function drawn behind others -/
structure FOk (deep : Nat) (cells : List (Str × Str)) (prev : List FDr) (F : FDr) : Prop where
  nm : isName (.str F.nm) = true
  many : F.many ≤ 2
  res : GdL (lbOf cells prev) F.many (deep + 1) F.res
  ws : WrD (lbOf cells prev) F.many F.ws
  c0 : 0 ≤ F.cost
  c9 : F.cost < 10
  lab : F.label ∈ labelRow
/-- what is known of a drawn book, its functions so far -/
structure DOk (deep : Nat) (words : List Str) (cells : List (Str × Str)) (fs : List FDr) : Prop where
  lc : cells.length ≤ 3
  lf : fs.length ≤ 3
  cn : ∀ (i : Nat) x, cells[i]? = some x → words[i]? = some x.1 ∧ x.2 ∈ (["frozen", "setting", "table"] : List Str)
  fn : ∀ (i : Nat) F, fs[i]? = some F → words[4 + i]? = some F.nm ∧ FOk deep cells (fs.take i) F
/-- the drawn book stands at b -/
def BkAt (K : PySem.W.Frag) (cells : List (Str × Str)) (fs : List FDr) (H : Hp) (b : Addr) : Prop := ∃ c f ts gs, H b = some (.dK [(.inr "cells", .ref c), (.inr "functions", .ref f)]) ∧ H c = some (.lst ts) ∧ H f = some (.lst gs) ∧ Rows (CellT K H) ts cells ∧ Rows (FDrAt K H) gs fs
theorem BkAt.lbk {K : PySem.W.Frag} {cells : List (Str × Str)} {fs : List FDr} {H : Hp} {b : Addr} (h : BkAt K cells fs H b) : LBk K (lbOf cells fs) H b := by
  obtain ⟨c, f, ts, gs, e0, e1, e2, r1, r2⟩ := h
  refine ⟨c, f, ts, gs, e0, e1, e2, r1, ⟨by rw [r2.1]; simp [lbOf], fun i x y e1 e2 => ?_⟩⟩
  have e3 : (fs.map fun F => (F.nm, F.many))[i]? = some y := e2
  rw [List.getElem?_map] at e3
  obtain ⟨F, hF, rfl⟩ := Option.map_eq_some_iff.mp e3
  obtain ⟨g, vr, vw, rfl, e, _⟩ := r2.2 i x F e1 hF
  exact ⟨g, _, rfl, e, rfl, rfl⟩
theorem DOk.lok {deep : Nat} {words : List Str} {cells : List (Str × Str)} {fs : List FDr} (h : DOk deep words cells fs) (wn : ∀ z ∈ words, isName (.str z) = true) : LOk (lbOf cells fs) where
  c := fun x hx => by
    obtain ⟨i, hi⟩ := List.getElem?_of_mem hx
    obtain ⟨h1, h2⟩ := h.cn i x hi
    exact ⟨wn _ (List.mem_of_getElem? h1), h2⟩
  f := fun x hx => by
    obtain ⟨F, hF, rfl⟩ := List.mem_map.mp hx
    obtain ⟨i, hi⟩ := List.getElem?_of_mem hF
    obtain ⟨_, h2⟩ := h.fn i F hi
    exact ⟨h2.nm, h2.many⟩
  lc := Nat.le_trans h.lc (by decide)
  lf := by
    show (fs.map _).length ≤ 8
    rw [List.length_map]
    exact Nat.le_trans h.lf (by decide)
theorem rows_nil {α : Type} {R : V → α → Prop} : Rows R [] [] := ⟨rfl, fun i x c e _ => by simp at e⟩
theorem rows_snoc {α : Type} {R : V → α → Prop} {xs : List V} {cs : List α} {x : V} {c : α} (h : Rows R xs cs) (k : R x c) : Rows R (xs ++ [x]) (cs ++ [c]) := ⟨by rw [List.length_append, List.length_append, h.1]; rfl, fun i y d e1 e2 => by
  by_cases hi : i < xs.length
  · rw [List.getElem?_append_left hi] at e1
    rw [List.getElem?_append_left (h.1 ▸ hi)] at e2
    exact h.2 i y d e1 e2
  · have h1 := (List.getElem?_eq_some_iff.mp e1).1
    rw [List.length_append] at h1
    have hi2 : i = xs.length := by simp at h1; omega
    rw [hi2, List.getElem?_append_right (Nat.le_refl _), Nat.sub_self] at e1
    rw [hi2, h.1, List.getElem?_append_right (Nat.le_refl _), Nat.sub_self] at e2
    cases e1
    cases e2
    exact k⟩
theorem sqT_dk {K : PySem.W.Frag} {H H' : Hp} {g : Addr} {kvs : List (Key × V)} (e : H g = some (.dK kvs)) (b : But g H H') {a : Addr} {xs : List V} (h : SqT K H a xs) : SqT K H' a xs := by
  rcases h with (h | ⟨o, h⟩) | h
  · exact .inl (.inl (b _ _ h (ne_of h e (fun z => nomatch z))))
  · exact .inl (.inr ⟨o, b _ _ h (ne_of h e (fun z => nomatch z))⟩)
  · exact .inr h
theorem cellT_of {K : PySem.W.Frag} {H H' : Hp} (k : ∀ a xs, SqT K H a xs → SqT K H' a xs) {v : V} {x : Str × Str} (h : CellT K H v x) : CellT K H' v x := by
  obtain ⟨t, e, h⟩ := h
  exact ⟨t, e, k _ _ h⟩
theorem fdrAt_of {K : PySem.W.Frag} {H H' : Hp} (k : ∀ a xs, SqT K H a xs → SqT K H' a xs) {v : V} {F : FDr} (kd : ∀ g kvs, v = .ref g → H g = some (.dK kvs) → kvs.length = 6 → H' g = some (.dK kvs)) (h : FDrAt K H v F) : FDrAt K H' v F := by
  obtain ⟨g, vr, vw, rfl, e, h1, h2, n1, n2⟩ := h
  exact ⟨g, vr, vw, rfl, kd g _ rfl e rfl, dp_tups k _ _ n1 h1, dp_tups k _ _ n2 h2, n1, n2⟩
theorem BkAt.but {K : PySem.W.Frag} {cells : List (Str × Str)} {fs : List FDr} {H H' : Hp} {b p : Addr} (h : BkAt K cells fs H b) (hp : PoolAt H p) (bt : But p H H') : BkAt K cells fs H' b := by
  obtain ⟨c, f, ts, gs, e0, e1, e4, r1, r2⟩ := h
  obtain ⟨x, y, ep, _⟩ := hp
  have nc : c ≠ p := fun q => by
    rw [q, ep] at e1
    cases e1
    obtain ⟨d, _, t, e, _⟩ := r1.at (i := 0) (by show 0 < 2; decide)
    cases e
  have nf : f ≠ p := fun q => by
    rw [q, ep] at e4
    cases e4
    obtain ⟨d, _, t, _, _, e, _⟩ := r2.at (i := 0) (by show 0 < 2; decide)
    cases e
  exact ⟨c, f, ts, gs, bt _ _ e0 (ne_of e0 ep (fun z => nomatch z)), bt _ _ e1 nc, bt _ _ e4 nf, r1.mono fun v d h => cellT_of (fun a xs h => but_sqT ep bt h) h, r2.mono fun v d h => fdrAt_of (fun a xs h => but_sqT ep bt h) (fun g kvs _ e _ => bt _ _ e (ne_of e ep (fun z => nomatch z))) h⟩
theorem upd_two {H : Hp} {a : Addr} {x y : HO} : upd (upd H a x) a y = upd H a y := by
  funext b
  by_cases h : b = a
  · subst h
    rw [upd_same, upd_same]
  · rw [upd_ne h, upd_ne h, upd_ne h]
theorem pool_ne {H : Hp} {p g : Addr} {o : HO} (h : PoolAt H p) (n : p ≠ g) : PoolAt (upd H g o) p := by
  obtain ⟨x, y, e, r⟩ := h
  exact ⟨x, y, by rw [upd_ne n]; exact e, r⟩
theorem but_new {p g : Addr} {G X : Hp} {o : HO} (k : But p G X) (ng : G g = none) : But p G (upd X g o) := fun x u e n => by
  rw [upd_ne (ne_of_none e ng)]
  exact k _ _ e n
theorem wr_nl {L : LB} (o : LOk L) {n : Int} {d : PyData} (h : WrD L n d) : noL d = true := by
  rcases h with rfl | ⟨z, t, rfl, _, g⟩
  · rfl
  · show ((true && (noL t && true)) && true) = true
    rw [gd_nl 2 t (gdl_gd o 2 t g)]
    rfl
abbrev sLB : Stmt := topS 39
theorem scLB : FnScope ["_law_pool_here", "_law_most", "_law_deep", "_law_words", "_law_b", "_law_kinds", "_law_at", "_law_many", "_law_f"] ["_law_pool_here", "_law_most", "_law_deep"] (defScope sLB) := ⟨rfl, rfl, rfl, by decide +kernel, rfl, by decide +kernel, by decide +kernel⟩
def spLB (K : PySem.W.Frag) : Sp := fun vs H Q _ => ∃ (p : Addr) (most : Int) (deep : Nat), vs = [.ref p, .int most, .int (deep : Nat)] ∧ PoolAt H p ∧ 0 < most ∧ most ≤ 3 ∧ deep ≤ 2 ∧
  ∀ b words cells fs H', But p H H' → PoolAt H' p → words.length = 8 → (∀ z ∈ words, isName (.str z) = true) → words.Nodup → (∀ z ∈ words, z.length ≤ 4 ∨ z.length = 8) → BkAt K cells fs H' b → DOk deep words cells fs → 1 ≤ fs.length → H b = none → Q (.ref b) H'
section
variable {P : Program} {w : World} {K : PySem.W.Frag} {mg : Str → Option Value} {base : Heap}
theorem ok_lb {f fD fP fT fN fW : Addr} {fd dD dP dT dN dW : FuncData} (F : Fun K "_law_book" "_law_book" sLB f fd) (M : Blt mg)
    (FD : Fun K "_law_draw" "_law_draw" sDraw fD dD) (bD : Binds K dD ["_law_pool_here", "_law_many"] []) (gD : mg "_law_draw" = some (.ref fD))
    (FP : Fun K "_law_pick" "_law_pick" sPick fP dP) (bP : Binds K dP ["_law_pool_here", "_law_row"] []) (gP : mg "_law_pick" = some (.ref fP))
    (FN : Fun K "_law_names" "_law_names" sLNames fN dN) (bN : Binds K dN ["_law_pool_here", "_law_count"] []) (gN : mg "_law_names" = some (.ref fN))
    (FT : Fun K "_law_term" "_law_term" sLTerm fT dT) (bT : Binds K dT ["_law_pool_here", "_law_b", "_law_many", "_law_deep"] []) (gT : mg "_law_term" = some (.ref fT))
    (FW : Fun K "_law_writes" "_law_writes" sLW fW dW) (bW : Binds K dW ["_law_pool_here", "_law_b", "_law_many"] []) (gW : mg "_law_writes" = some (.ref fW)) : FnOk P w K mg base CX0 8 f fd ["_law_pool_here", "_law_most", "_law_deep"] (spLB K) := by
  have GD : FnOk P w K mg base CX0 1 fD dD ["_law_pool_here", "_law_many"] spDraw := ok_draw FD M
  have GP : FnOk P w K mg base CX0 2 fP dP ["_law_pool_here", "_law_row"] (spPick K) := ok_pick FP M FD bD gD
  have GN : FnOk P w K mg base CX0 3 fN dN ["_law_pool_here", "_law_count"] (spLNames K) := ok_lnames FN M FD bD gD FP bP gP
  have GT : FnOk P w K mg base CX0 6 fT dT ["_law_pool_here", "_law_b", "_law_many", "_law_deep"] (spLTerm K 3) := ok_lterm FT M bT gT FD bD gD FP bP gP 3
  have GW : FnOk P w K mg base CX0 6 fW dW ["_law_pool_here", "_law_b", "_law_many"] (spLW K) := ok_lw FW M FD bD gD FP bP gP FT bT gT
  refine F.ok scLB (fun vs H Q E h => ?_) (fun cdv A outer s H vs Q E hr h => ?_)
  · obtain ⟨p, most, deep, rfl, _⟩ := h
    rfl
  · obtain ⟨p, most, deep, rfl, hp, m0, m3, d2, q⟩ := h
    have hr1 : Room 1 (A.deeper (envOfC "_law_book" (defScope sLB) s.heap.objs.size f cdv)) := hr.mono (by decide)
    have hr2 : Room 2 (A.deeper (envOfC "_law_book" (defScope sLB) s.heap.objs.size f cdv)) := hr.mono (by decide)
    have hr3 : Room 3 (A.deeper (envOfC "_law_book" (defScope sLB) s.heap.objs.size f cdv)) := hr.mono (by decide)
    have hr6 : Room 6 (A.deeper (envOfC "_law_book" (defScope sLB) s.heap.objs.size f cdv)) := hr.mono (by decide)
    have hu := hu_of hr
    refine ⟨_, pss_cons (ps_set (i := 3) scLB.nd rfl (.inl rfl) (pe_call GN hr3 (by rfl) gN FN.kp bN .nil pass0 (pa_cons (pv 0) (pa_cons pe_int pa_nil))))
      (pss_cons (ps_par (i := 4) (j := 5) (by rfl) scLB.nd rfl rfl (by decide) rfl rfl (pa_cons (pe_disp (pps_cons pe_str (pe_lst pa_nil) (pps_cons pe_str (pe_lst pa_nil) pps_nil)) (by rfl) (by rfl) (by simp) (by decide)) (pa_cons (pe_lst (pa_cons pe_str (pa_cons pe_str (pa_cons pe_str (pa_cons pe_str pa_nil))))) pa_nil)) (by rfl))
      (pss_cons (ps_for PassesOwn.never rfl (pi_range1 (by rfl) M.range (pa_cons (pe_call GD hr1 (by rfl) gD FD.kp bD .nil pass0 (pa_cons (pv 0) (pa_cons pe_int pa_nil))) pa_nil)) (pg_name (i := 6) scLB.nd rfl (.inl rfl))
        (pss_one (ps_dput hu (pv 4) pe_str (pe_op op_cat (pe_dget hu (pv 4) pe_str (fun _ _ => rfl)) (pe_lst (pa_cons (pe_tup (pa_cons (pe_ix ix_list (pv 3) (pv 6) (fun _ _ => rfl)) (pa_cons (pe_call GP hr2 (by rfl) gP FP.kp bP .nil pass0 (pa_cons (pv 0) (pa_cons (pv 5) pa_nil))) pa_nil))) pa_nil))) (by rfl))))
      (pss_cons (ps_for PassesOwn.never rfl (pi_range1 (by rfl) M.range (pa_cons (pe_op op_add pe_int (pe_call GD hr1 (by rfl) gD FD.kp bD .nil pass0 (pa_cons (pv 0) (pa_cons (pv 1) pa_nil)))) pa_nil)) (pg_name (i := 6) scLB.nd rfl (.inl rfl))
        (pss_cons (ps_set (i := 7) scLB.nd rfl (.inl rfl) (pe_call GD hr1 (by rfl) gD FD.kp bD .nil pass0 (pa_cons (pv 0) (pa_cons pe_int pa_nil))))
        (pss_cons (ps_set (i := 8) scLB.nd rfl (.inl rfl) (pe_disp (pps_cons pe_str (pe_ix ix_list (pv 3) (pe_op op_add pe_int (pv 6)) (fun _ _ => rfl)) (pps_cons pe_str (pv 7) (pps_cons pe_str (pe_call GT hr6 (by rfl) gT FT.kp bT .nil pass0 (pa_cons (pv 0) (pa_cons (pv 4) (pa_cons (pv 7) (pa_cons (pv 2) pa_nil))))) pps_nil))) (by rfl) (by rfl) (by simp) (by decide)))
        (pss_cons (ps_asg (pe_tup (pa_cons (pe_call GW hr6 (by rfl) gW FW.kp bW .nil pass0 (pa_cons (pv 0) (pa_cons (pv 4) (pa_cons (pv 7) pa_nil)))) (pa_cons (pe_call GD hr1 (by rfl) gD FD.kp bD .nil pass0 (pa_cons (pv 0) (pa_cons pe_int pa_nil))) pa_nil)))
            (pg_tup (by rfl) (pgs_cons (pg_sub (pv 8) pe_str (set_dict hu)) (pgs_cons (pg_sub (pv 8) pe_str (set_dict hu)) pgs_nil))))
        (pss_cons (ps_dput hu (pv 8) pe_str (pe_call GP hr2 (by rfl) gP FP.kp bP .nil pass0 (pa_cons (pv 0) (pa_cons (pe_lst (pa_cons pe_str (pa_cons pe_str (pa_cons pe_str (pa_cons pe_str (pa_cons pe_str pa_nil)))))) pa_nil))) (by rfl))
        (pss_one (ps_dput hu (pv 4) pe_str (pe_op op_cat (pe_dget hu (pv 4) pe_str (fun _ _ => rfl)) (pe_lst (pa_cons (pv 8) pa_nil))) (by rfl))))))))
      (pss_one (ps_ret (pv 4)))))), ?_⟩
    refine ⟨.ref p, rfl, p, 8, rfl, by decide, hp, fun wl words H1 b1 hp1 ew lw wn wnd wln => ?_⟩
    have nw : wl ≠ p := fun e => by
      obtain ⟨x, y, ep, _⟩ := hp1
      rw [e, ep] at ew
      have e2 := HO.lst.inj (Option.some.inj ew)
      rcases words with _ | ⟨z0, zr⟩
      · cases lw
      · cases e2
    dsimp only [gName, List.set]
    refine fun b nb1 => ⟨by show 0 ≤ sizeLine; decide, fun c nc => ⟨by show 0 ≤ sizeLine; decide, fun fl nfl => ?_⟩⟩
    have s1 : Same H1 (upd H1 b (.dK [])) := same_upd nb1
    have s2 := same_upd (o := HO.lst []) nc
    have s3 := same_upd (o := HO.lst []) nfl
    have npb : p ≠ b := hp1.ne nb1
    have nwb : wl ≠ b := ne_of_none ew nb1
    have nbH : H b = none := by
      cases h : H b with
      | none => rfl
      | some o =>
        have := b1 _ _ h npb.symm
        rw [nb1] at this
        cases this
    have eb : (upd (upd (upd H1 b (.dK [])) c (.lst [])) fl (.lst [])) b = some (.dK []) := s3 _ _ (s2 _ _ upd_same)
    have ec : (upd (upd (upd H1 b (.dK [])) c (.lst [])) fl (.lst [])) c = some (.lst []) := s3 _ _ upd_same
    have efl : (upd (upd (upd H1 b (.dK [])) c (.lst [])) fl (.lst [])) fl = some (.lst []) := upd_same
    have b2 : But p H1 (upd (upd (upd H1 b (.dK [])) c (.lst [])) fl (.lst [])) := But.of ((s1.trans s2).trans s3)
    have hp2 : PoolAt (upd (upd (upd H1 b (.dK [])) c (.lst [])) fl (.lst [])) p := hp1.same ((s1.trans s2).trans s3)
    refine ⟨eb, [(.inr "cells", .ref c), (.inr "functions", .ref fl)], rfl, (by show 2 ≤ 15; decide), ?_⟩
    generalize upd (upd (upd H1 b (.dK [])) c (.lst [])) fl (.lst []) = H2 at eb ec efl b2 hp2
    refine ⟨by show 4 ≤ sizeLine; decide, fun kl nkl => ⟨_, _, rfl, ?_⟩⟩
    have skl := same_upd (o := HO.lst [V.str "frozen", .str "setting", .str "table", .str "table"]) nkl
    have ncb : c ≠ b := ne_of ec eb (fun z => nomatch z)
    have nfb : fl ≠ b := ne_of efl eb (fun z => nomatch z)
    have bk0 : BkAt K [] [] (upd (upd H2 b (.dK (mergeK [] [(.inr "cells", .ref c), (.inr "functions", .ref fl)]))) kl (.lst [V.str "frozen", .str "setting", .str "table", .str "table"])) b := ⟨c, fl, [], [], skl _ _ upd_same, skl _ _ (by rw [upd_ne ncb]; exact ec), skl _ _ (by rw [upd_ne nfb]; exact efl), rows_nil, rows_nil⟩
    have b13 : But p H (upd (upd H2 b (.dK (mergeK [] [(.inr "cells", .ref c), (.inr "functions", .ref fl)]))) kl (.lst [V.str "frozen", .str "setting", .str "table", .str "table"])) := but_sameN (but_new (b1.trans b2) nbH) skl
    have hp3 : PoolAt (upd (upd H2 b (.dK (mergeK [] [(.inr "cells", .ref c), (.inr "functions", .ref fl)]))) kl (.lst [V.str "frozen", .str "setting", .str "table", .str "table"])) p := (pool_ne hp2 npb).same skl
    have ew3 : (upd (upd H2 b (.dK (mergeK [] [(.inr "cells", .ref c), (.inr "functions", .ref fl)]))) kl (.lst [V.str "frozen", .str "setting", .str "table", .str "table"])) wl = some (.lst (words.map V.str)) := skl _ _ (by rw [upd_ne nwb]; exact b2 _ _ ew nw)
    have ekl : (upd (upd H2 b (.dK (mergeK [] [(.inr "cells", .ref c), (.inr "functions", .ref fl)]))) kl (.lst [V.str "frozen", .str "setting", .str "table", .str "table"])) kl = some (.lst [V.str "frozen", .str "setting", .str "table", .str "table"]) := upd_same
    generalize upd (upd H2 b (.dK (mergeK [] [(.inr "cells", .ref c), (.inr "functions", .ref fl)]))) kl (.lst [V.str "frozen", .str "setting", .str "table", .str "table"]) = H3 at bk0 b13 hp3 ew3 ekl
    clear skl nfb ncb hp2 b2 efl ec eb s3 s2 s1 nkl
    have npk : p ≠ kl := fun q => by
      obtain ⟨x, y, ep, _⟩ := hp3
      rw [q, ekl] at ep
      cases ep
    dsimp only [gName, List.set]
    refine ⟨.ref p, rfl, p, 4, rfl, hp3, by omega, by omega, fun k H5 k0 k4 b5 hp5 fr => ⟨k, rfl, by omega, by omega, ?_⟩⟩
    refine for_range (lo := 0) (n := k.toNat) (fun j σ H' => ∃ y5 y6 y7, σ = [some (.ref p), some (.int most), some (.int (deep : Nat)), some (.ref wl), some (.ref b), some (.ref kl), y5, y6, y7] ∧ But p H H' ∧ PoolAt H' p ∧ H' wl = some (.lst (words.map V.str)) ∧ H' kl = some (.lst [V.str "frozen", .str "setting", .str "table", .str "table"]) ∧ ∃ cells, BkAt K cells [] H' b ∧ cells.length = j ∧ ∀ (i : Nat) x, cells[i]? = some x → words[i]? = some x.1 ∧ x.2 ∈ (["frozen", "setting", "table"] : List Str))
      ⟨_, _, _, rfl, b13.trans b5, hp5, b5 _ _ ew3 nw, b5 _ _ ekl npk.symm, [], bk0.but hp3 b5, rfl, fun i x e => by simp at e⟩ (fun j σ G hj hW => ?_) (fun σ G hW => ?_)
    · obtain ⟨y5, y6, y7, rfl, bG, hpG, eG, eK, cells, bk, lc, cn⟩ := hW
      have j4 : j < 4 := by omega
      obtain ⟨wd, hwd⟩ : ∃ wd, words[j]? = some wd := ⟨_, List.getElem?_eq_getElem (by omega)⟩
      obtain ⟨cc, ff, ts, gs, f0, f1, f4, r1, r2⟩ := id bk
      refine ⟨.ref b, rfl, b, .ref cc, rfl, dg f0 "cells" rfl, ?_⟩
      refine ⟨.ref wl, rfl, _, rfl, wl, words.map V.str, (j : Nat), .str wd, rfl, (by show V.int (0 + (j : Int)) = _; rw [Int.zero_add]), .inl (.inl eG), atI_nat (by rw [List.getElem?_map, hwd]; rfl), ?_⟩
      refine ⟨.ref p, rfl, .ref kl, rfl, p, kl, _, rfl, hpG, npk, .inl (.inl (.inl eK)), by decide, by decide, fun m hm G1 k1 hpA fr1 => ?_⟩
      obtain ⟨kd, hkd, ek⟩ : ∃ kd, kd ∈ (["frozen", "setting", "table"] : List Str) ∧ [V.str "frozen", .str "setting", .str "table", .str "table"][m] = V.str kd := by
        have hm' : m < 4 := hm
        rcases (show m = 0 ∨ m = 1 ∨ m = 2 ∨ m = 3 by omega) with e | e | e | e <;> subst e
        · exact ⟨"frozen", by decide, rfl⟩
        · exact ⟨"setting", by decide, rfl⟩
        · exact ⟨"table", by decide, rfl⟩
        · exact ⟨"table", by decide, rfl⟩
      rw [ek]
      obtain ⟨px, py, ep, _⟩ := id hpA
      refine ⟨by show 2 ≤ sizeLine; decide, fun t nt => ⟨by show 1 ≤ sizeLine; decide, fun l2 m2 => ?_⟩⟩
      have st := same_upd (o := HO.tup [V.str wd, .str kd]) nt
      have sl := same_upd (o := HO.lst [V.ref t]) m2
      have k2 : But p G (upd (upd G1 t (.tup [V.str wd, .str kd])) l2 (.lst [V.ref t])) := but_sameN (but_sameN k1 st) sl
      have hp2 : PoolAt (upd (upd G1 t (.tup [V.str wd, .str kd])) l2 (.lst [V.ref t])) p := (hpA.same st).same sl
      have et : (upd (upd G1 t (.tup [V.str wd, .str kd])) l2 (.lst [V.ref t])) t = some (.tup [V.str wd, .str kd]) := sl _ _ upd_same
      have el2 : (upd (upd G1 t (.tup [V.str wd, .str kd])) l2 (.lst [V.ref t])) l2 = some (.lst [V.ref t]) := upd_same
      generalize upd (upd G1 t (.tup [V.str wd, .str kd])) l2 (.lst [V.ref t]) = G2 at k2 hp2 et el2
      have bk2 := bk.but hpG k2
      have nc : cc ≠ p := fun q => by
        obtain ⟨x, y, ep, _⟩ := hpG
        rw [q, ep] at f1
        cases f1
        obtain ⟨d, _, t, e, _⟩ := r1.at (i := 0) (by show 0 < 2; decide)
        cases e
      have nff : ff ≠ p := fun q => by
        obtain ⟨x, y, ep, _⟩ := hpG
        rw [q, ep] at f4
        cases f4
        have := r2.1
        simp at this
      have npb' : b ≠ p := npb.symm
      have g0 := k2 _ _ f0 npb'
      have g1 := k2 _ _ f1 nc
      have g4 := k2 _ _ f4 nff
      have r1' : Rows (CellT K G2) ts cells := by
        obtain ⟨x, y, ep, _⟩ := hpG
        exact r1.mono fun v x h => cellT_of (fun a xs h => but_sqT ep k2 h) h
      refine ⟨cc, l2, ts, [.ref t], rfl, rfl, g1, el2, (by rw [r1.1]; exact Nat.le_trans (show cells.length + 1 ≤ 5 by omega) (by decide)), fun l3 m3 => ?_⟩
      have s3 := same_upd (o := HO.lst (ts ++ [V.ref t])) m3
      have h0 := s3 _ _ g0
      refine ⟨.ref b, rfl, b, _, rfl, .inl ⟨_, .inr "cells", h0, rfl, (by show 2 < sizeLine; decide), rfl⟩, ?_⟩
      have tk : ∀ a xs, SqT K G2 a xs → SqT K (upd (upd G2 l3 (.lst (ts ++ [V.ref t]))) b (.dK (putK [(.inr "cells", .ref cc), (.inr "functions", .ref ff)] (.inr "cells" : Key) (.ref l3)))) a xs := fun a xs h => sqT_dk h0 But.upd (same_sqT s3 h)
      have nbG : ∀ {a : Addr} {u : HO}, (upd G2 l3 (.lst (ts ++ [V.ref t]))) a = some u → (∀ kvs, u ≠ .dK kvs) → a ≠ b := fun e n q => by
        rw [q, h0] at e
        exact n _ (Option.some.inj e).symm
      refine ⟨_, _, _, rfl, fun x u e n => ?_, pool_ne (hp2.same s3) npb, ?_, ?_, cells ++ [(wd, kd)], ⟨l3, ff, ts ++ [.ref t], gs, upd_same, ?_, ?_, rows_snoc (r1'.mono fun v x h => cellT_of tk h) ⟨t, rfl, tk _ _ (.inl (.inl et))⟩, ?_⟩, ?_, fun i x ej => ?_⟩
      · rw [upd_ne (ne_of_none e nbH)]
        exact s3 _ _ (k2 _ _ (bG _ _ e n) n)
      · rw [upd_ne nwb]
        exact s3 _ _ (k2 _ _ eG nw)
      · have h := s3 _ _ (k2 _ _ eK npk.symm)
        rw [upd_ne (nbG h (fun kvs z => nomatch z))]
        exact h
      · rw [upd_ne (nbG upd_same (fun kvs z => nomatch z))]
        exact upd_same
      · have h := s3 _ _ g4
        rw [upd_ne (nbG h (fun kvs z => nomatch z))]
        exact h
      · have hg : gs = [] := List.length_eq_zero_iff.mp r2.1
        subst hg
        exact rows_nil
      · rw [List.length_append, lc]
        rfl
      · by_cases hj : i < cells.length
        · rw [List.getElem?_append_left hj] at ej
          exact cn i x ej
        · have hj2 : i = cells.length := by
            have := (List.getElem?_eq_some_iff.mp ej).1
            rw [List.length_append] at this
            simp at this
            omega
          rw [hj2, List.getElem?_append_right (Nat.le_refl _), Nat.sub_self] at ej
          cases ej
          exact ⟨by rw [hj2, lc]; exact hwd, hkd⟩
    · obtain ⟨y5, y6, y7, rfl, bC, hpC, eC, eK, cells, bkC, lc0, cn⟩ := hW
      have lc : cells.length ≤ 3 := by omega
      clear bk0 b13 hp3 ew3 ekl fr b5 hp5
      refine ⟨.ref p, rfl, .int most, rfl, p, most, rfl, hpC, m0, by omega, fun k H5 k0 km b5 hp5 fr => ⟨_, _, rfl, rfl, _, rfl, by omega, by omega, ?_⟩⟩
      have bk5 : BkAt K cells [] H5 b := bkC.but hpC b5
      refine for_range (lo := 0) (n := _) (fun j σ H' => ∃ y5 y6 y7, σ = [some (.ref p), some (.int most), some (.int (deep : Nat)), some (.ref wl), some (.ref b), some (.ref kl), y5, y6, y7] ∧ But p H H' ∧ PoolAt H' p ∧ H' wl = some (.lst (words.map V.str)) ∧ ∃ fs, BkAt K cells fs H' b ∧ DOk deep words cells fs ∧ fs.length = j)
        ⟨_, _, _, rfl, bC.trans b5, hp5, b5 _ _ eC nw, [], bk5, ⟨lc, Nat.zero_le _, cn, fun i F e => by simp at e⟩, rfl⟩ (fun j σ G hj hW => ?_) (fun σ G hW => ?_)
      · obtain ⟨y5, y6, y7, rfl, bG, hpG, eG, fs, bk, ok, lf⟩ := hW
        have j3 : j < 3 := by omega
        have L1 := ok.lok wn
        obtain ⟨wd, hwd⟩ : ∃ wd, words[4 + j]? = some wd := ⟨_, List.getElem?_eq_getElem (by omega)⟩
        refine ⟨.ref p, rfl, p, 3, rfl, hpG, by omega, by omega, fun mk G1 mk0 mk3 k1 hpA fr1 => ?_⟩
        obtain ⟨mn, rfl⟩ : ∃ mn : Nat, mk = mn := ⟨mk.toNat, by omega⟩
        dsimp only [gName, List.set]
        refine fun g ng => ?_
        have ngG : G g = none := by
          cases h : G g with
          | none => rfl
          | some o => exact absurd (k1 _ _ h (hpA.ne ng).symm) (by rw [ng]; simp)
        have npg : p ≠ g := hpA.ne ng
        have kA : But p G (upd G1 g (.dK [])) := but_new k1 ngG
        have hpB := pool_ne (o := .dK []) hpA npg
        have egB : (upd G1 g (.dK [])) g = some (.dK []) := upd_same
        generalize upd G1 g (.dK []) = G2 at kA hpB egB
        refine ⟨.ref wl, rfl, .int (0 + (j : Int)), rfl, _, _, rfl, rfl, wl, words.map V.str, _, .str wd, rfl, rfl, .inl (.inl (kA _ _ eG nw)), (by rw [show (4 + (0 + (j : Int))) = ((4 + j : Nat) : Int) by omega]; exact atI_nat (by rw [List.getElem?_map, hwd]; rfl)), .int (mn : Nat), rfl, ?_⟩
        refine ⟨.ref p, rfl, .ref b, rfl, .int (mn : Nat), rfl, .int (deep : Nat), rfl, lbOf cells fs, p, b, (mn : Nat), deep, L1, rfl, hpB, (bk.but hpG kA).lbk, by omega, by omega, by omega, fun v1 d1 G3 k3 hpC dv1 gd1 => ?_⟩
        have e3g := k3 _ _ egB npg.symm
        refine ⟨e3g, [(.inr "name", .str wd), (.inr "many", .int (mn : Nat)), (.inr "result", v1)], rfl, (by show 3 ≤ 15; decide), ?_⟩
        have nl1 := gd_nl _ _ (gdl_gd L1 _ _ gd1)
        have kC := kA.trans k3
        have dv1 : Dp K (upd G3 g (.dK (mergeK [] [(.inr "name", .str wd), (.inr "many", .int (mn : Nat)), (.inr "result", v1)]))) v1 d1 := dp_tups (fun a xs h => sqT_dk e3g But.upd h) _ _ nl1 dv1
        have kD : But p G (upd G3 g (.dK (mergeK [] [(.inr "name", .str wd), (.inr "many", .int (mn : Nat)), (.inr "result", v1)]))) := but_new kC ngG
        have hpD := pool_ne (o := .dK (mergeK [] [(.inr "name", .str wd), (.inr "many", .int (mn : Nat)), (.inr "result", v1)])) hpC npg
        have e4g : (upd G3 g (.dK (mergeK [] [(.inr "name", .str wd), (.inr "many", .int (mn : Nat)), (.inr "result", v1)]))) g = some (.dK [(.inr "name", .str wd), (.inr "many", .int (mn : Nat)), (.inr "result", v1)]) := upd_same
        generalize upd G3 g (.dK (mergeK [] [(.inr "name", .str wd), (.inr "many", .int (mn : Nat)), (.inr "result", v1)])) = G4 at kD hpD e4g dv1
        clear e3g kC egB kA hpB hpC k3
        dsimp only [gName, List.set]
        refine ⟨.ref p, rfl, .ref b, rfl, .int (mn : Nat), rfl, lbOf cells fs, p, b, (mn : Nat), L1, rfl, hpD, (bk.but hpG kD).lbk, by omega, by omega, fun v2 d2 G5 k5 hpE dv2 wr2 => ?_⟩
        have nl2 := wr_nl L1 wr2
        refine ⟨.ref p, rfl, p, 10, rfl, hpE, by omega, by omega, fun cost G6 c0 c9 k6 hpF fr6 => ⟨by show 2 ≤ sizeLine; decide, fun t nt => ?_⟩⟩
        have k46 := k5.trans k6
        have e6g := k46 _ _ e4g npg.symm
        have dv1 := dp_but hpD k46 nl1 dv1
        have dv2 := dp_but hpE k6 nl2 dv2
        have st := same_upd (o := HO.tup [v2, .int cost]) nt
        have ntg : t ≠ g := (ne_of_none e6g nt).symm
        refine ⟨t, _, rfl, .inl (.inl upd_same), rfl, v2, _, rfl, .ref g, rfl, g, _, rfl, .inl ⟨_, .inr "writes", st _ _ e6g, rfl, (by show 3 < sizeLine; decide), rfl⟩, _, _, rfl, .ref g, rfl, g, _, rfl, .inl ⟨_, .inr "cost", upd_same, rfl, (by show 4 < sizeLine; decide), rfl⟩, rfl, ?_⟩
        rw [upd_two]
        have kG : But p G (upd (upd G6 t (.tup [v2, .int cost])) g (.dK (putK (putK [(.inr "name", .str wd), (.inr "many", .int (mn : Nat)), (.inr "result", v1)] (.inr "writes" : Key) v2) (.inr "cost" : Key) (.int cost)))) := but_new ((kD.trans k46).trans (But.of st)) ngG
        have hpG2 := pool_ne (o := .dK (putK (putK [(.inr "name", .str wd), (.inr "many", .int (mn : Nat)), (.inr "result", v1)] (.inr "writes" : Key) v2) (.inr "cost" : Key) (.int cost))) (hpF.upd (o := .tup [v2, .int cost]) nt) npg
        have e9g : (upd (upd G6 t (.tup [v2, .int cost])) g (.dK (putK (putK [(.inr "name", .str wd), (.inr "many", .int (mn : Nat)), (.inr "result", v1)] (.inr "writes" : Key) v2) (.inr "cost" : Key) (.int cost)))) g = some (.dK [(.inr "name", .str wd), (.inr "many", .int (mn : Nat)), (.inr "result", v1), (.inr "writes", v2), (.inr "cost", .int cost)]) := upd_same
        have dv1 : Dp K (upd (upd G6 t (.tup [v2, .int cost])) g (.dK (putK (putK [(.inr "name", .str wd), (.inr "many", .int (mn : Nat)), (.inr "result", v1)] (.inr "writes" : Key) v2) (.inr "cost" : Key) (.int cost)))) v1 d1 := dp_tups (fun a xs h => sqT_dk (st _ _ e6g) But.upd (same_sqT st h)) _ _ nl1 dv1
        have dv2 : Dp K (upd (upd G6 t (.tup [v2, .int cost])) g (.dK (putK (putK [(.inr "name", .str wd), (.inr "many", .int (mn : Nat)), (.inr "result", v1)] (.inr "writes" : Key) v2) (.inr "cost" : Key) (.int cost)))) v2 d2 := dp_tups (fun a xs h => sqT_dk (st _ _ e6g) But.upd (same_sqT st h)) _ _ nl2 dv2
        generalize upd (upd G6 t (.tup [v2, .int cost])) g (.dK (putK (putK [(.inr "name", .str wd), (.inr "many", .int (mn : Nat)), (.inr "result", v1)] (.inr "writes" : Key) v2) (.inr "cost" : Key) (.int cost))) = G9 at kG hpG2 e9g dv1 dv2
        clear st ntg e6g k46 kD hpD e4g
        refine ⟨.ref p, rfl, (by show 5 ≤ sizeLine; decide), fun l nl => ⟨p, l, _, rfl, hpG2.upd nl, hpG2.ne nl, .inl (.inl (.inl upd_same)), by decide, by decide, fun m hm G10 k10 hpH fr10 => ?_⟩⟩
        obtain ⟨lb, hlb, elb⟩ : ∃ lb, lb ∈ labelRow ∧ [V.str "always", .str "session", .str "statement", .str "changing", .str "changing"][m] = V.str lb := by
          have hm' : m < 5 := hm
          rcases (show m = 0 ∨ m = 1 ∨ m = 2 ∨ m = 3 ∨ m = 4 by omega) with e | e | e | e | e <;> subst e
          · exact ⟨"always", by decide, rfl⟩
          · exact ⟨"session", by decide, rfl⟩
          · exact ⟨"statement", by decide, rfl⟩
          · exact ⟨"changing", by decide, rfl⟩
          · exact ⟨"changing", by decide, rfl⟩
        rw [elb]
        have sl := same_upd (o := HO.lst [V.str "always", .str "session", .str "statement", .str "changing", .str "changing"]) nl
        have k910 : But p G9 G10 := (But.of sl).trans k10
        have eag := k910 _ _ e9g npg.symm
        have dv1 := dp_but hpG2 k910 nl1 dv1
        have dv2 := dp_but hpG2 k910 nl2 dv2
        refine ⟨.ref g, rfl, g, _, rfl, .inl ⟨_, .inr "label", eag, rfl, (by show 5 < sizeLine; decide), rfl⟩, ?_⟩
        have kL : But p G (upd G10 g (.dK (putK [(.inr "name", .str wd), (.inr "many", .int (mn : Nat)), (.inr "result", v1), (.inr "writes", v2), (.inr "cost", .int cost)] (.inr "label" : Key) (.str lb)))) := but_new (kG.trans k910) ngG
        have hpL := pool_ne (o := .dK (putK [(.inr "name", .str wd), (.inr "many", .int (mn : Nat)), (.inr "result", v1), (.inr "writes", v2), (.inr "cost", .int cost)] (.inr "label" : Key) (.str lb))) hpH npg
        have fdr : FDrAt K (upd G10 g (.dK (putK [(.inr "name", .str wd), (.inr "many", .int (mn : Nat)), (.inr "result", v1), (.inr "writes", v2), (.inr "cost", .int cost)] (.inr "label" : Key) (.str lb)))) (.ref g) ⟨wd, mn, d1, d2, cost, lb⟩ := ⟨g, v1, v2, rfl, upd_same, dp_tups (fun a xs h => sqT_dk eag But.upd h) _ _ nl1 dv1, dp_tups (fun a xs h => sqT_dk eag But.upd h) _ _ nl2 dv2, nl1, nl2⟩
        generalize upd G10 g (.dK (putK [(.inr "name", .str wd), (.inr "many", .int (mn : Nat)), (.inr "result", v1), (.inr "writes", v2), (.inr "cost", .int cost)] (.inr "label" : Key) (.str lb))) = G11 at kL hpL fdr
        clear dv1 dv2 eag k910 sl hpH k10 hpG2 e9g kG
        obtain ⟨cc, ff, ts2, gs2, f0, f1, f4, r1, r2⟩ := bk.but hpG kL
        refine ⟨.ref b, rfl, b, .ref ff, rfl, dg f0 "functions" rfl, .ref g, rfl, (by show 1 ≤ sizeLine; decide), fun l2 m2 => ⟨ff, l2, gs2, [.ref g], rfl, rfl, same_upd m2 _ _ f4, upd_same, (by rw [r2.1]; exact Nat.le_trans (show fs.length + 1 ≤ 4 by omega) (by decide)), fun l3 m3 => ?_⟩⟩
        have s2 := same_upd (o := HO.lst [V.ref g]) m2
        have s3 := same_upd (o := HO.lst (gs2 ++ [V.ref g])) m3
        have s23 := s2.trans s3
        have f0' := s23 _ _ f0
        refine ⟨.ref b, rfl, b, _, rfl, .inl ⟨_, .inr "functions", f0', rfl, (by show 2 < sizeLine; decide), rfl⟩, ?_⟩
        have bb : ∀ {a : Addr} {u : HO}, (upd (upd G11 l2 (.lst [V.ref g])) l3 (.lst (gs2 ++ [V.ref g]))) a = some u → (∀ kvs, u = .dK kvs → kvs.length = 6) → a ≠ b := fun e n q => by
          rw [q, f0'] at e
          have := n _ (Option.some.inj e).symm
          simp at this
        have tk : ∀ a xs, SqT K G11 a xs → SqT K (upd (upd (upd G11 l2 (.lst [V.ref g])) l3 (.lst (gs2 ++ [V.ref g]))) b (.dK (putK [(.inr "cells", .ref cc), (.inr "functions", .ref ff)] (.inr "functions" : Key) (.ref l3)))) a xs := fun a xs h => sqT_dk f0' But.upd (same_sqT s23 h)
        have kd : ∀ (v : V) (a : Addr) (kvs : List (Key × V)), v = .ref a → G11 a = some (.dK kvs) → kvs.length = 6 → (upd (upd (upd G11 l2 (.lst [V.ref g])) l3 (.lst (gs2 ++ [V.ref g]))) b (.dK (putK [(.inr "cells", .ref cc), (.inr "functions", .ref ff)] (.inr "functions" : Key) (.ref l3)))) a = some (.dK kvs) := fun v a kvs _ e n => by
          have e2 := s23 _ _ e
          rw [upd_ne (bb e2 (fun k2 e3 => by cases e3; exact n))]
          exact e2
        refine ⟨_, _, _, rfl, fun x u e n => ?_, ?_, ?_, fs ++ [⟨wd, mn, d1, d2, cost, lb⟩], ⟨cc, l3, ts2, gs2 ++ [.ref g], upd_same, ?_, ?_, r1.mono fun v x h => cellT_of tk h, rows_snoc (r2.mono fun v F h => fdrAt_of tk (kd v) h) (fdrAt_of tk (kd _) fdr)⟩, ⟨ok.lc, ?_, ok.cn, fun i F e => ?_⟩, ?_⟩
        · rw [upd_ne (ne_of_none e nbH)]
          exact s23 _ _ (kL _ _ (bG _ _ e n) n)
        · exact pool_ne (hpL.same s23) npb
        · rw [upd_ne nwb]
          exact s23 _ _ (kL _ _ eG nw)
        · rw [upd_ne (bb (s23 _ _ f1) (fun k e => by cases e))]
          exact s23 _ _ f1
        · rw [upd_ne (bb upd_same (fun k e => by cases e))]
          exact upd_same
        · rw [List.length_append, lf]
          show j + 1 ≤ 3
          omega
        · by_cases hi : i < fs.length
          · rw [List.getElem?_append_left hi] at e
            rw [List.take_append_of_le_length (by omega)]
            exact ok.fn i F e
          · have hi2 : i = fs.length := by
              have := (List.getElem?_eq_some_iff.mp e).1
              rw [List.length_append] at this
              simp at this
              omega
            rw [hi2, List.getElem?_append_right (Nat.le_refl _), Nat.sub_self] at e
            cases e
            rw [hi2, List.take_left', lf]
            · exact ⟨hwd, wn _ (List.mem_of_getElem? hwd), by show mn ≤ 2; omega, gd1, wr2, c0, c9, hlb⟩
            · rfl
        · rw [List.length_append, lf]
          rfl
      · obtain ⟨y5, y6, y7, rfl, bG, hpG, eG, fs, bk, ok, lf⟩ := hW
        exact ⟨.ref b, rfl, q b words cells fs G bG hpG lw wn wnd wln bk ok (by rw [lf]; show 1 ≤ (1 + k).toNat; omega) nbH⟩
end
/-! ### columns, calls -/
theorem ps_dead {X : Cx} {st : Stmt} : PS X st (fun _ _ _ => False) := ⟨fun _ _ _ _ _ _ h => h.elim⟩
theorem iteT' {c : Bool} {A B : Prop} (hc : c = true) (h : A) : if c = true then A else B := by
  rw [if_pos hc]
  exact h
theorem iteF' {c : Bool} {A B : Prop} (hc : c = false) (h : B) : if c = true then A else B := by
  rw [if_neg (by rw [hc]; decide)]
  exact h
theorem dp_pair {K : PySem.W.Frag} {H : Hp} {ys : List V} {c d : PyData} (h : DpAll K H ys [c, d]) : ∃ y0 y1, ys = [y0, y1] ∧ Dp K H y0 c ∧ Dp K H y1 d := by
  cases h with
  | cons h1 r =>
    cases r with
    | cons h2 r =>
      cases r
      exact ⟨_, _, rfl, h1, h2⟩
abbrev sIsCol : Stmt := topS 21
theorem scIsCol : FnScope ["value"] ["value"] (defScope sIsCol) := ⟨rfl, rfl, rfl, by decide +kernel, rfl, by decide +kernel, by decide +kernel⟩
abbrev sIsCall : Stmt := topS 20
theorem scIsCall : FnScope ["value", "given"] ["value"] (defScope sIsCall) := ⟨rfl, rfl, rfl, by decide +kernel, rfl, by decide +kernel, by decide +kernel⟩
abbrev sIsCon : Stmt := topS 22
theorem scIsCon : FnScope ["call", "given"] ["call"] (defScope sIsCon) := ⟨rfl, rfl, rfl, by decide +kernel, rfl, by decide +kernel, by decide +kernel⟩
abbrev sValOf : Stmt := topS 23
theorem scValOf : FnScope ["call", "row", "given"] ["call", "row"] (defScope sValOf) := ⟨rfl, rfl, rfl, by decide +kernel, rfl, by decide +kernel, by decide +kernel⟩
def isCol : PyData → Bool
  | .str z => decide (z = "x" ∨ z = "y")
  | _ => false
def givenB (d : PyData) : Bool := isValue d || isCol d
def callB : PyData → Bool
  | .tuple [n, .tuple as] => isName n && (decide (as.length ≤ 2) && as.all givenB)
  | _ => false
def constB : PyData → Bool
  | .tuple [_, .tuple as] => as.all fun d => !isCol d
  | _ => false
/-- the value of the argument d in the row -/
def inRow (r0 r1 : Int) : PyData → Int
  | .int i => i
  | .str z => if z = "x" then r0 else r1
  | _ => 0
/-- a row of values stands at a -/
def RowAt (K : PySem.W.Frag) (H : Hp) (a : Addr) (r0 r1 : Int) : Prop := SqT K H a [.int r0, .int r1]
def rowVals (r0 r1 : Int) : PyData → List Int
  | .tuple [_, .tuple as] => as.map (inRow r0 r1)
  | _ => []
/-- the names of the columns, and such -/
structure StTxt (K : PySem.W.Frag) (mg : Str → Option Value) : Prop where
  cols : ∃ a o, mg "COLUMNS" = some (.ref a) ∧ K.lookup a = some o ∧ o.cls = .type "tuple" ∧ o.dict = none ∧ ∀ H : Hp, SqT K H a [.str "x", .str "y"]
  args : ∃ t, mg "MOST_ARGUMENTS" = some (.int 2 t)
structure CellFns (K : PySem.W.Frag) (mg : Str → Option Value) (fW fV fN : Addr) (dW dV dN : FuncData) : Prop where
  W : Fun K "is_whole" "is_whole" sWhole fW dW
  V : Fun K "is_value" "is_value" sValue fV dV
  N : Fun K "is_name" "is_name" sName fN dN
  bW : Binds K dW ["value"] []
  bV : Binds K dV ["value"] []
  bN : Binds K dN ["value"] []
  gW : mg "is_whole" = some (.ref fW)
  gV : mg "is_value" = some (.ref fV)
  gN : mg "is_name" = some (.ref fN)
theorem szDs_item {ds : List PyData} {i : Nat} {d : PyData} (h : szDs ds = true) (e : ds[i]? = some d) : szD d = true := szDs_get h e
theorem szDs_len {ds : List PyData} (h : szDs ds = true) : True := True.intro
theorem sz_len {ds : List PyData} (h : szD (.tuple ds) = true) : ds.length ≤ 1000 := by
  unfold szD at h
  have := (Bool.and_eq_true_iff.mp h).1
  simp only [decide_eq_true_eq] at this
  omega
/-- [f(d) for d in t], by truths -/
theorem all_bls {ds : List PyData} {g : PyData → Bool} {n : Nat} (e : n = ds.length) : ((List.range n).map fun i => V.bl (g (ds.getD i .none))) = (ds.map g).map V.bl := by
  subst e
  apply List.ext_getElem?
  intro i
  rw [List.getElem?_map, List.getElem?_map, List.getElem?_map]
  by_cases h : i < ds.length
  · rw [List.getElem?_range h, List.getElem?_eq_getElem h, Option.map_some, Option.map_some, Option.map_some, List.getD_eq_getElem?_getD, List.getElem?_eq_getElem h]
    rfl
  · rw [List.getElem?_eq_none (by rw [List.length_range]; omega), List.getElem?_eq_none (by omega)]
    rfl
theorem getD_some {ds : List PyData} {i : Nat} {d : PyData} (h : ds[i]? = some d) : ds.getD i .none = d := by
  rw [List.getD_eq_getElem?_getD, h]
  rfl
theorem in_cols (z : Str) : inV (V.str z) [.str "x", .str "y"] = decide (z = "x" ∨ z = "y") := in_two z "x" "y"
section
variable {P : Program} {w : World} {K : PySem.W.Frag} {mg : Str → Option Value} {base : Heap}
theorem ok_isCol {f : Addr} {fd : FuncData} (F : Fun K "_is_column" "_is_column" sIsCol f fd) (M : Blt mg) (T : StTxt K mg) : FnOk P w K mg base CX0 1 f fd ["value"] (spB K isCol) := by
  obtain ⟨aC, oC, gC, lC, cC, dC', hC⟩ := T.cols
  refine F.ok scIsCol (fun vs H Q E h => ?_) (fun cdv A outer s H vs Q E hr h => ?_)
  · obtain ⟨v, d, rfl, _⟩ := h
    rfl
  · obtain ⟨v, d, rfl, hv, hz, q⟩ := h
    refine ⟨_, pss_one (ps_ret (pe_and (pe_callB call_isi (by rfl) M.isinstance (by decide +kernel) (pa_cons (pv 0) (pa_cons (pe_bltn (v := .ty "str") (by rfl) M.str (by decide +kernel) rfl) pa_nil))) (pe_one (pe_cmpR op_in_seq (pv 0) (pe_glob (v := .ref aC) (by rfl) gC rfl) (by rfl))))), ?_⟩
    refine ⟨v, rfl, v, _, _, _, _, rfl, .ty "str", dp_ty hv, kit_str K d, _, rfl, ?_⟩
    cases hv with
    | str z =>
      refine iteT ⟨.str z, rfl, aC, _, rfl, .inr (hC H), rfl, by decide, ?_⟩
      rw [in_cols]
      exact q H (Same.refl H)
    | _ => exact iteF (q H (Same.refl H))
theorem ok_isCall {f fW fV fN fC : Addr} {fd dW dV dN dC : FuncData} (F : Fun K "is_call" "is_call" sIsCall f fd) (M : Blt mg) (TC : CellsTxt K mg) (T : StTxt K mg) (G : CellFns K mg fW fV fN dW dV dN)
    (FC : Fun K "_is_column" "_is_column" sIsCol fC dC) (bC : Binds K dC ["value"] []) (gC : mg "_is_column" = some (.ref fC)) : FnOk P w K mg base CX0 3 f fd ["value"] (spB K callB) := by
  have GV : FnOk P w K mg base CX0 2 fV dV ["value"] (spB K isValue) := ok_value G.V M TC G.W G.bW G.gW
  have GN : FnOk P w K mg base CX0 1 fN dN ["value"] (spB K isName) := ok_name G.N M TC
  have GC : FnOk P w K mg base CX0 1 fC dC ["value"] (spB K isCol) := ok_isCol FC M T
  obtain ⟨t2, g2⟩ := T.args
  refine F.ok scIsCall (fun vs H Q E h => ?_) (fun cdv A outer s H vs Q E hr h => ?_)
  · obtain ⟨v, d, rfl, _⟩ := h
    rfl
  · obtain ⟨v, d, rfl, hv, hz, q⟩ := h
    have hr1 : Room 1 _ := hr.mono (by decide)
    refine ⟨_, pss_cons (ps_if (PW.pt (pw_or (pt_not (pt_val (pe_callB call_isi (by rfl) M.isinstance (by decide +kernel) (pa_cons (pv 0) (pa_cons (pe_bltn (v := .ty "tuple") (by rfl) M.tuple (by decide +kernel) rfl) pa_nil)))))
        (pw_or (pt_cmpR op_ne (pe_callB call_len_seq (by rfl) M.len PySem.boot_len (pa_cons (pv 0) pa_nil)) pe_int (nomark _))
          (pw_or1 (pt_not (pt_val (pe_call GN hr1 (by rfl) G.gN G.N.kp G.bN .nil pass0 (pa_cons (pe_ix ix_tup (pv 0) pe_int (fun _ _ => rfl)) pa_nil))))))))
        (pss_one (ps_ret pe_bl)) pss_nil)
      (pss_cons (ps_if (PW.pt (pw_or (pt_not (pt_val (pe_callB call_isi (by rfl) M.isinstance (by decide +kernel) (pa_cons (pe_ix ix_tup (pv 0) pe_int (fun _ _ => rfl)) (pa_cons (pe_bltn (v := .ty "tuple") (by rfl) M.tuple (by decide +kernel) rfl) pa_nil)))))
          (pw_or1 (pt_cmpR op_gt (pe_callB call_len_seq (by rfl) M.len PySem.boot_len (pa_cons (pe_ix ix_tup (pv 0) pe_int (fun _ _ => rfl)) pa_nil)) (pe_glob (v := .int 2) (by rfl) g2 ⟨_, rfl⟩) (nomark _)))))
        (pss_one (ps_ret pe_bl)) pss_nil)
      (pss_one (ps_ret (pe_callB (cr_all rfl) (by rfl) M.all (by decide +kernel) (pa_cons
        (pe_lc (own := [("given", 1)]) (g := gName 1) (wi := iTup K (tOp (rIxT K) (tVar 0) (tC (.int 1)))) (tt := tYes) (te := tOrV (tCall (spB K isValue) [] E0 (tCons (tVar 1) tNil)) (tCall (spB K isCol) [] E0 (tCons (tVar 1) tNil))) (by rfl) scIsCall.nd (pi_tup (pe_ix ix_tup (pv 0) pe_int (fun _ _ => rfl))) (blkOk_by (own := [("given", 1)]) (N := ["value", "given"]) (sc := defScope sIsCall) (by decide +kernel))
          (fun _ _ _ _ _ => pg_name (i := 1) scIsCall.nd rfl (Or.inl rfl)) (fun _ _ _ _ _ => pts_nil) (fun _ _ _ _ _ => pe_or (pe_call GV hr (by rfl) G.gV G.V.kp G.bV .nil pass0 (pa_cons (pv 1) pa_nil)) (pe_one (pe_call GC hr1 (by rfl) gC FC.kp bC .nil pass0 (pa_cons (pv 1) pa_nil))))) pa_nil))))), ?_⟩
    have fin : ∀ (b : Bool) H2, Same H H2 → callB d = b → Q (.bl b) H2 := fun b H2 s2 e => by
      have q1 := q H2 s2
      rw [e] at q1
      exact q1
    refine ⟨v, rfl, v, _, _, _, _, rfl, .ty "tuple", dp_ty hv, kit_tup K d, _, rfl, ?_⟩
    cases hv with
    | @tup a xs ts hs ha =>
      have el : xs.length = ts.length := dpA_len ha
      refine iteF ⟨_, rfl, a, xs, rfl, .inr hs, rfl, _, rfl, ?_⟩
      by_cases h2 : ts.length = 2
      · obtain ⟨d0, d1, rfl⟩ := len2 h2
        obtain ⟨x0, x1, rfl, h0, h1⟩ := dp_pair ha
        refine iteF' (by rw [el]; rfl) ⟨_, rfl, a, _, 0, x0, rfl, rfl, hs, rfl, x0, d0, rfl, h0, szDs_get (szD_tup hz) (i := 0) rfl, fun H1 s1 => ⟨_, rfl, ?_⟩⟩
        have z1 : szD d1 = true := szDs_get (szD_tup hz) (i := 1) rfl
        cases hn : isName d0 with
        | false =>
          refine iteT (fin false H1 s1 ?_)
          unfold callB
          split
          · rename_i n as e
            injection e with e
            injection e with e0 e1
            rw [← e0, hn]
            rfl
          · rfl
        | true =>
          refine iteF ⟨_, rfl, a, _, 1, x1, rfl, rfl, same_sqT s1 hs, rfl, x1, _, _, _, _, rfl, .ty "tuple", dp_ty (dp_same s1 h1), kit_tup K d1, _, rfl, ?_⟩
          have h1' := dp_same s1 h1
          cases h1' with
          | @tup c us as hs1 ha1 =>
            have eu : us.length = as.length := dpA_len ha1
            refine iteF ⟨_, rfl, a, _, 1, .ref c, rfl, rfl, same_sqT s1 hs, rfl, c, us, rfl, .inr hs1, _, _, rfl, rfl, _, rfl, ?_⟩
            have cb : callB (.tuple [d0, .tuple as]) = (decide (as.length ≤ 2) && as.all givenB) := by
              show (isName d0 && _) = _
              rw [hn, Bool.true_and]
            by_cases l2 : as.length ≤ 2
            · refine iteF' (decide_eq_false (by omega)) ?_
              refine ⟨_, rfl, a, _, 1, .ref c, rfl, rfl, same_sqT s1 hs, rfl, c, rfl, ⟨_, hs1⟩, fun D hD => ?_⟩
              refine lc_vals (walk_tup (K := K) (a := c) (xs := us)) (fun i => .bl (givenB (as.getD i .none))) (by omega) hD (fun x => rfl) (fun H' s => same_sqT s hs1) (fun i x H2 H3 hi s2 y => ?_) (fun H2 s2 e2 => ?_)
              · obtain ⟨rfl, hx⟩ := y
                obtain ⟨e, he, hxe⟩ := dpA_at ha1 hx
                have ze : szD e = true := szDs_get (szD_tup z1) he
                refine ⟨Same.refl _, fun Q' q' => ⟨x, rfl, x, e, rfl, dp_same s2 hxe, ze, fun H4 s4 => ⟨_, rfl, ?_⟩⟩⟩
                have eg : givenB (as.getD i .none) = (isValue e || isCol e) := by rw [getD_some he]; rfl
                cases hv2 : isValue e with
                | true =>
                  rw [eg, hv2] at q'
                  exact iteT (q' H4 s4)
                | false =>
                  rw [eg, hv2] at q'
                  exact iteF ⟨x, rfl, x, e, rfl, dp_same (s2.trans s4) hxe, ze, fun H5 s5 => q' H5 (s4.trans s5)⟩
              · rw [all_bls eu] at e2
                refine ⟨D, as.map givenB, rfl, .inl (.inl e2), ?_⟩
                have e3 : (as.map givenB).all id = callB (.tuple [d0, .tuple as]) := by
                  rw [cb, decide_eq_true l2, Bool.true_and, List.all_map]
                  rfl
                rw [e3]
                exact q H2 (s1.trans s2)
            · refine iteT' (decide_eq_true (by omega)) (fin false H1 s1 ?_)
              rw [cb, decide_eq_false l2]
              rfl
          | _ => exact iteT (fin false H1 s1 rfl)
      · refine iteT' (by rw [el, decide_eq_false (show ¬ (V.int ((ts.length : Nat) : Int) = V.int 2) from fun e => h2 (Int.ofNat.inj (V.int.inj e)))]; rfl) (fin false H (Same.refl H) ?_)
        unfold callB
        split
        · rename_i n as e
          injection e with e
          rw [e] at h2
          exact absurd rfl h2
        · rfl
    | _ => exact iteT (fin false H (Same.refl H) rfl)
def spIsCon (K : PySem.W.Frag) : Sp := fun vs H Q _ => ∃ (v : V) (d : PyData), vs = [v] ∧ Dp K H v d ∧ szD d = true ∧ callB d = true ∧ ∀ H', Same H H' → Q (.bl (constB d)) H'
def spValOf (K : PySem.W.Frag) : Sp := fun vs H Q _ => ∃ (v : V) (d : PyData) (a : Addr) (r0 r1 : Int), vs = [v, .ref a] ∧ Dp K H v d ∧ szD d = true ∧ callB d = true ∧ RowAt K H a r0 r1 ∧ ∀ t H', Same H H' → SqT K H' t ((rowVals r0 r1 d).map V.int) → Q (.ref t) H'
theorem call_shape {d : PyData} (h : callB d = true) : ∃ n as, d = .tuple [n, .tuple as] ∧ isName n = true ∧ as.length ≤ 2 ∧ ∀ e ∈ as, givenB e = true := by
  unfold callB at h
  split at h
  · rename_i n as
    simp only [Bool.and_eq_true, decide_eq_true_eq, List.all_eq_true] at h
    exact ⟨n, as, rfl, h.1, h.2.1, h.2.2⟩
  · cases h
theorem ok_isCon {f fC : Addr} {fd dC : FuncData} (F : Fun K "is_constant" "is_constant" sIsCon f fd) (M : Blt mg) (T : StTxt K mg)
    (FC : Fun K "_is_column" "_is_column" sIsCol fC dC) (bC : Binds K dC ["value"] []) (gC : mg "_is_column" = some (.ref fC)) : FnOk P w K mg base CX0 2 f fd ["call"] (spIsCon K) := by
  have GC : FnOk P w K mg base CX0 1 fC dC ["value"] (spB K isCol) := ok_isCol FC M T
  refine F.ok scIsCon (fun vs H Q E h => ?_) (fun cdv A outer s H vs Q E hr h => ?_)
  · obtain ⟨v, d, rfl, _⟩ := h
    rfl
  · obtain ⟨v, d, rfl, hv, hz, hc, q⟩ := h
    obtain ⟨n, as, rfl, hn, l2, hg⟩ := call_shape hc
    refine ⟨_, pss_one (ps_ret (pe_callB (cr_all rfl) (by rfl) M.all (by decide +kernel) (pa_cons
        (pe_lc (own := [("given", 1)]) (g := gName 1) (wi := iTup K (tOp (rIxT K) (tVar 0) (tC (.int 1)))) (tt := tYes) (te := tNotV (tCall (spB K isCol) [] E0 (tCons (tVar 1) tNil))) (by rfl) scIsCon.nd (pi_tup (pe_ix ix_tup (pv 0) pe_int (fun _ _ => rfl))) (blkOk_by (own := [("given", 1)]) (N := ["call", "given"]) (sc := defScope sIsCon) (by decide +kernel))
          (fun _ _ _ _ _ => pg_name (i := 1) scIsCon.nd rfl (Or.inl rfl)) (fun _ _ _ _ _ => pts_nil) (fun _ _ _ _ _ => pe_not (pe_call GC hr (by rfl) gC FC.kp bC .nil pass0 (pa_cons (pv 1) pa_nil)))) pa_nil))), ?_⟩
    cases hv with
    | @tup a xs ts hs ha =>
      obtain ⟨x0, x1, rfl, h0, h1⟩ := dp_pair ha
      cases h1 with
      | @tup c us as hs1 ha1 =>
        have eu : us.length = as.length := dpA_len ha1
        have z1 : szD (.tuple as) = true := szDs_get (szD_tup hz) (i := 1) rfl
        refine ⟨_, rfl, a, _, 1, .ref c, rfl, rfl, hs, rfl, c, rfl, ⟨_, hs1⟩, fun D hD => ?_⟩
        refine lc_vals (walk_tup (K := K) (a := c) (xs := us)) (fun i => .bl (!isCol (as.getD i .none))) (by omega) hD (fun x => rfl) (fun H' s => same_sqT s hs1) (fun i x H2 H3 hi s2 y => ?_) (fun H2 s2 e2 => ?_)
        · obtain ⟨rfl, hx⟩ := y
          obtain ⟨e, he, hxe⟩ := dpA_at ha1 hx
          refine ⟨Same.refl _, fun Q' q' => ⟨x, rfl, x, e, rfl, dp_same s2 hxe, szDs_get (szD_tup z1) he, fun H4 s4 => ⟨_, rfl, ?_⟩⟩⟩
          rw [getD_some he] at q'
          exact q' H4 s4
        · rw [all_bls (g := fun d => !isCol d) eu] at e2
          refine ⟨D, as.map fun d => !isCol d, rfl, .inl (.inl e2), ?_⟩
          have e3 : (as.map fun d => !isCol d).all id = constB (.tuple [n, .tuple as]) := by
            rw [List.all_map]
            rfl
          rw [e3]
          exact q H2 s2
theorem ok_valOf {f fC : Addr} {fd dC : FuncData} (F : Fun K "values_of" "values_of" sValOf f fd) (M : Blt mg) (T : StTxt K mg)
    (FC : Fun K "_is_column" "_is_column" sIsCol fC dC) (bC : Binds K dC ["value"] []) (gC : mg "_is_column" = some (.ref fC)) : FnOk P w K mg base CX0 2 f fd ["call", "row"] (spValOf K) := by
  have GC : FnOk P w K mg base CX0 1 fC dC ["value"] (spB K isCol) := ok_isCol FC M T
  obtain ⟨aC, oC, gCo, lC, cC, dC', hC⟩ := T.cols
  refine F.ok scValOf (fun vs H Q E h => ?_) (fun cdv A outer s H vs Q E hr h => ?_)
  · obtain ⟨v, d, a, r0, r1, rfl, _⟩ := h
    rfl
  · obtain ⟨v, d, ra, r0, r1, rfl, hv, hz, hc, hrow, q⟩ := h
    obtain ⟨n, as, rfl, hn, l2, hg⟩ := call_shape hc
    refine ⟨_, pss_one (ps_ret (pe_callTy call_tuple_of (by rfl) M.tuple (by decide +kernel) (pa_cons
        (pe_lc (own := [("given", 2)]) (g := gName 2) (wi := iTup K (tOp (rIxT K) (tVar 0) (tC (.int 1)))) (tt := tYes) (te := tIf (tB (tCall (spB K isCol) [] E0 (tCons (tVar 2) tNil))) (tOp (rIxT K) (tVar 1) (tBM K "tuple" (fun x xs H Q => ∃ p, ∃ ys : List Str, ∃ z j, x = .ref p ∧ xs = [.str z] ∧ SqT K H p (ys.map V.str) ∧ ys[j]? = some z ∧ (∀ m, m < j → ys[m]? ≠ some z) ∧ Q (.int (j : Nat)) H) (tC (.ref aC)) (tCons (tVar 2) tNil))) (tVar 2)) (by rfl) scValOf.nd (pi_tup (pe_ix ix_tup (pv 0) pe_int (fun _ _ => rfl))) (blkOk_by (own := [("given", 2)]) (N := ["call", "row", "given"]) (sc := defScope sValOf) (by decide +kernel))
          (fun _ _ _ _ _ => pg_name (i := 2) scValOf.nd rfl (Or.inl rfl)) (fun _ _ _ _ _ => pts_nil) (fun _ _ _ _ _ => pe_ifExp (pt_val (pe_call GC hr (by rfl) gC FC.kp bC .nil pass0 (pa_cons (pv 2) pa_nil)))
            (pe_ix ix_tup (pv 1) (pe_bm PySem.F.plainAttrs_tuple PySem.F.slot_tuple_index PySem.F.type_tuple_index mt_tup_index (pe_glob (v := .ref aC) (by rfl) gCo rfl) (pa_cons (pv 2) pa_nil)) (fun _ _ => rfl)) (pv 2))) pa_nil))), ?_⟩
    cases hv with
    | @tup a xs ts hs ha =>
      obtain ⟨x0, x1, rfl, h0, h1⟩ := dp_pair ha
      cases h1 with
      | @tup c us as hs1 ha1 =>
        have eu : us.length = as.length := dpA_len ha1
        have z1 : szD (.tuple as) = true := szDs_get (szD_tup hz) (i := 1) rfl
        refine ⟨_, rfl, a, _, 1, .ref c, rfl, rfl, hs, rfl, c, rfl, ⟨_, hs1⟩, fun D hD => ?_⟩
        refine lc_vals (walk_tup (K := K) (a := c) (xs := us)) (fun i => .int (inRow r0 r1 (as.getD i .none))) (by omega) hD (fun x => rfl) (fun H' s => same_sqT s hs1) (fun i x H2 H3 hi s2 y => ?_) (fun H2 s2 e2 => ?_)
        · obtain ⟨rfl, hx⟩ := y
          obtain ⟨e, he, hxe⟩ := dpA_at ha1 hx
          have ge := hg e (List.mem_of_getElem? he)
          refine ⟨Same.refl _, fun Q' q' => ⟨x, rfl, x, e, rfl, dp_same s2 hxe, szDs_get (szD_tup z1) he, fun H4 s4 => ⟨_, rfl, ?_⟩⟩⟩
          rw [getD_some he] at q'
          cases hxe with
          | int j => exact iteF ⟨_, rfl, q' H4 s4⟩
          | str z =>
            have hz2 : z = "x" ∨ z = "y" := of_decide_eq_true (show decide (z = "x" ∨ z = "y") = true from ge)
            refine iteT' (decide_eq_true hz2) ?_
            obtain ⟨j, ej, bef⟩ : ∃ j, (["x", "y"] : List Str)[j]? = some z ∧ (∀ m, m < j → (["x", "y"] : List Str)[m]? ≠ some z) ∧ ([V.int r0, V.int r1] : List V)[j]? = some (V.int (inRow r0 r1 (.str z))) := by
              rcases hz2 with rfl | rfl
              · exact ⟨0, rfl, fun m hm => absurd hm (Nat.not_lt_zero _), rfl⟩
              · refine ⟨1, rfl, fun m hm => ?_, rfl⟩
                have e0 : m = 0 := by omega
                rw [e0]
                exact fun q => absurd (Option.some.inj q) (by decide)
            exact ⟨.ref ra, rfl, .inr (.inl ⟨rfl, oC, lC, cC, dC'⟩), .str z, rfl, aC, _, z, j, rfl, rfl, hC _, ej, bef.1, ra, _, j, .int (inRow r0 r1 (.str z)), rfl, rfl, same_sqT (s2.trans s4) hrow, atI_nat bef.2, q' H4 s4⟩
          | _ => cases ge
        · have e3 : ((List.range us.length).map fun i => V.int (inRow r0 r1 (as.getD i .none))) = (rowVals r0 r1 (.tuple [n, .tuple as])).map V.int := by
            show _ = (as.map (inRow r0 r1)).map V.int
            rw [eu]
            apply List.ext_getElem?
            intro i
            rw [List.getElem?_map, List.getElem?_map, List.getElem?_map]
            by_cases h : i < as.length
            · rw [List.getElem?_range h, List.getElem?_eq_getElem h, Option.map_some, Option.map_some, Option.map_some, List.getD_eq_getElem?_getD, List.getElem?_eq_getElem h]
              rfl
            · rw [List.getElem?_eq_none (by rw [List.length_range]; omega), List.getElem?_eq_none (by omega)]
              rfl
          rw [e3] at e2
          exact ⟨D, _, rfl, .inl ⟨.inl (.inl e2), fun t nt => q t _ (s2.trans (same_upd nt)) (.inl (.inl upd_same))⟩⟩
end
/-! ### trees -/
abbrev sIsTr : Stmt := topS 25
theorem scIsTr : FnScope ["value", "deep", "word", "part"] ["value", "deep"] (defScope sIsTr) := ⟨rfl, rfl, rfl, by decide +kernel, rfl, by decide +kernel, by decide +kernel⟩
abbrev sTree : Stmt := topS 24
theorem scTree : FnScope ["value"] ["value"] (defScope sTree) := ⟨rfl, rfl, rfl, by decide +kernel, rfl, by decide +kernel, by decide +kernel⟩
abbrev sBr : Stmt := topS 26
theorem scBr : FnScope ["tree"] ["tree"] (defScope sBr) := ⟨rfl, rfl, rfl, by decide +kernel, rfl, by decide +kernel, by decide +kernel⟩
def isForm : List PyData → Bool
  | [c, v] => callB c && isValue v
  | _ => false
def oneT (f : PyData → Bool) : List PyData → Bool
  | [t] => f t
  | _ => false
def rowT (f : PyData → Bool) : List PyData → Bool
  | [.tuple ts] => decide (1 ≤ ts.length) && (decide (ts.length ≤ 8) && ts.all f)
  | _ => false
/-- a tree at most so deep -/
def treeB : Nat → PyData → Bool
  | 0, _ => false
  | f + 1, .tuple (.str w :: rest) => if w = "is" then isForm rest else if w = "not" then oneT (treeB f) rest else if w = "and" ∨ w = "or" then rowT (treeB f) rest else false
  | _ + 1, _ => false
theorem isForm_bad : ∀ {l : List PyData}, l.length ≠ 2 → isForm l = false
  | [], _ => rfl
  | [_], _ => rfl
  | [_, _], h => absurd rfl h
  | _ :: _ :: _ :: _, _ => rfl
theorem oneT_bad {f : PyData → Bool} : ∀ {l : List PyData}, l.length ≠ 1 → oneT f l = false
  | [], _ => rfl
  | [_], h => absurd rfl h
  | _ :: _ :: _, _ => rfl
theorem rowT_bad {f : PyData → Bool} : ∀ {l : List PyData}, l.length ≠ 1 → rowT f l = false
  | [], _ => rfl
  | [_], h => absurd rfl h
  | .none :: _ :: _, _ => rfl
  | .bool _ :: _ :: _, _ => rfl
  | .int _ :: _ :: _, _ => rfl
  | .str _ :: _ :: _, _ => rfl
  | .list _ :: _ :: _, _ => rfl
  | .tuple _ :: _ :: _, _ => rfl
  | .dict _ :: _ :: _, _ => rfl
theorem treeB_eq (f : Nat) (w : Str) (rest : List PyData) : treeB (f + 1) (.tuple (.str w :: rest)) = if w = "is" then isForm rest else if w = "not" then oneT (treeB f) rest else if w = "and" ∨ w = "or" then rowT (treeB f) rest else false := rfl
theorem treeB_flat {f : Nat} {d : PyData} (h : ∀ w rest, d ≠ .tuple (.str w :: rest)) : treeB f d = false := by
  cases f with
  | zero => rfl
  | succ f =>
    cases d with
    | tuple ts =>
      cases ts with
      | nil => rfl
      | cons x r =>
        cases x with
        | str w => exact absurd rfl (h w r)
        | _ => rfl
    | _ => rfl
theorem in_three (z a b c : Str) : inV (.str z) [.str a, .str b, .str c] = decide (z = a ∨ z = b ∨ z = c) := by
  show ((a == z) || ((b == z) || ((c == z) || false))) = _
  rw [Bool.eq_iff_iff]
  simp only [Bool.or_eq_true, beq_iff_eq, Bool.or_false, decide_eq_true_eq]
  constructor
  · rintro (h | h | h)
    · exact .inl h.symm
    · exact .inr (.inl h.symm)
    · exact .inr (.inr h.symm)
  · rintro (h | h | h)
    · exact .inl h.symm
    · exact .inr (.inl h.symm)
    · exact .inr (.inr h.symm)
def spTr (K : PySem.W.Frag) (n : Nat) : Sp := fun vs H Q _ => ∃ (v : V) (d : PyData) (m : Nat), vs = [v, .int m] ∧ m ≤ n ∧ Dp K H v d ∧ szD d = true ∧ ∀ H', Same H H' → Q (.bl (treeB m d)) H'
structure TrTxt (K : PySem.W.Frag) (mg : Str → Option Value) : Prop where
  br : ∃ t, mg "MOST_BRANCHES" = some (.int 8 t)
  dp : ∃ t, mg "DEEPEST_TREE" = some (.int 8 t)
section
variable {P : Program} {w : World} {K : PySem.W.Frag} {mg : Str → Option Value} {base : Heap}
/-- the body of _is_tree, by what it says one less deep -/
theorem isTr_body {f fC fV fT : Addr} {fd dC dV : FuncData} {dT : FuncData} {n : Nat} (F : Fun K "_is_tree" "_is_tree" sIsTr f fd) (M : Blt mg) (T : TrTxt K mg)
    (GC : FnOk P w K mg base CX0 3 fC dC ["value"] (spB K callB)) (kC : PySem.W.keepIn K (.ref fC) = true) (bC : Binds K dC ["value"] []) (gC : mg "is_call" = some (.ref fC))
    (GV : FnOk P w K mg base CX0 2 fV dV ["value"] (spB K isValue)) (kV : PySem.W.keepIn K (.ref fV) = true) (bV : Binds K dV ["value"] []) (gV : mg "is_value" = some (.ref fV))
    (GT : FnOk P w K mg base CX0 (4 + n) f fd ["value", "deep"] (spTr K n)) (bT : Binds K fd ["value", "deep"] []) (gT : mg "_is_tree" = some (.ref f)) : FnOk P w K mg base CX0 (4 + (n + 1)) f fd ["value", "deep"] (spTr K (n + 1)) := by
  obtain ⟨t8, g8⟩ := T.br
  refine F.ok scIsTr (fun vs H Q E h => ?_) (fun cdv A outer s H vs Q E hr h => ?_)
  · obtain ⟨v, d, m, rfl, _⟩ := h
    rfl
  · obtain ⟨v, d, m, rfl, hm, hv, hz, q⟩ := h
    have hr3 : Room 3 (A.deeper (envOfC "_is_tree" (defScope sIsTr) s.heap.objs.size f cdv)) := hr.mono (show 3 ≤ 4 + n by omega)
    have hr2 : Room 2 (A.deeper (envOfC "_is_tree" (defScope sIsTr) s.heap.objs.size f cdv)) := hr.mono (show 2 ≤ 4 + n by omega)
    refine ⟨_, pss_cons (ps_if (PW.pt (pw_or (pt_cmpR op_eq (pv 1) pe_int (nomark _)) (pw_or (pt_not (pt_val (pe_callB call_isi (by rfl) M.isinstance (by decide +kernel) (pa_cons (pv 0) (pa_cons (pe_bltn (v := .ty "tuple") (by rfl) M.tuple (by decide +kernel) rfl) pa_nil)))))
          (pw_or (pt_cmpR op_lt (pe_callB call_len_seq (by rfl) M.len PySem.boot_len (pa_cons (pv 0) pa_nil)) pe_int (nomark _))
            (pw_or1 (pt_not (pt_val (pe_callB call_isi (by rfl) M.isinstance (by decide +kernel) (pa_cons (pe_ix ix_tup (pv 0) pe_int (fun _ _ => rfl)) (pa_cons (pe_bltn (v := .ty "str") (by rfl) M.str (by decide +kernel) rfl) pa_nil))))))))))
        (pss_one (ps_ret pe_bl)) pss_nil)
      (pss_cons (ps_set (i := 2) scIsTr.nd rfl (.inl rfl) (pe_ix ix_tup (pv 0) pe_int (fun _ _ => rfl)))
      (pss_cons (ps_if (pt_cmpR op_eq (pv 2) pe_str (nomark _)) (pss_one (ps_ret (pe_and (pe_cmpR op_eq (pe_callB call_len_seq (by rfl) M.len PySem.boot_len (pa_cons (pv 0) pa_nil)) pe_int (nomark _))
          (pe_and (pe_call GC hr3 (by rfl) gC kC bC .nil pass0 (pa_cons (pe_ix ix_tup (pv 0) pe_int (fun _ _ => rfl)) pa_nil)) (pe_one (pe_call GV hr2 (by rfl) gV kV bV .nil pass0 (pa_cons (pe_ix ix_tup (pv 0) pe_int (fun _ _ => rfl)) pa_nil))))))) pss_nil)
      (pss_cons (ps_if (PW.pt (pw_or (pt_cmpR op_notIn_seq (pv 2) (pe_tup (pa_cons pe_str (pa_cons pe_str (pa_cons pe_str pa_nil)))) (by rfl)) (pw_or1 (pt_cmpR op_ne (pe_callB call_len_seq (by rfl) M.len PySem.boot_len (pa_cons (pv 0) pa_nil)) pe_int (nomark _))))) (pss_one (ps_ret pe_bl)) pss_nil)
      (pss_cons (ps_if (pt_cmpR op_eq (pv 2) pe_str (nomark _)) (pss_one (ps_ret (pe_call GT hr (by rfl) gT F.kp bT .nil pass0 (pa_cons (pe_ix ix_tup (pv 0) pe_int (fun _ _ => rfl)) (pa_cons (pe_op op_sub (pv 1) pe_int) pa_nil))))) pss_nil)
      (pss_cons (ps_if (PW.pt (pw_or (pt_not (pt_val (pe_callB call_isi (by rfl) M.isinstance (by decide +kernel) (pa_cons (pe_ix ix_tup (pv 0) pe_int (fun _ _ => rfl)) (pa_cons (pe_bltn (v := .ty "tuple") (by rfl) M.tuple (by decide +kernel) rfl) pa_nil)))))
          (pw_or1 (pt_not (pt_chain op_le op_le pe_int (pe_callB call_len_seq (by rfl) M.len PySem.boot_len (pa_cons (pe_ix ix_tup (pv 0) pe_int (fun _ _ => rfl)) pa_nil)) (pe_glob (v := .int 8) (by rfl) g8 ⟨_, rfl⟩)))))) (pss_one (ps_ret pe_bl)) pss_nil)
      (pss_cons (ps_for PassesOwn.never rfl (pi_tup (pe_ix ix_tup (pv 0) pe_int (fun _ _ => rfl))) (pg_name (i := 3) scIsTr.nd rfl (.inl rfl))
        (pss_one (ps_if (pt_not (pt_val (pe_call GT hr (by rfl) gT F.kp bT .nil pass0 (pa_cons (pv 3) (pa_cons (pe_op op_sub (pv 1) pe_int) pa_nil))))) (pss_one (ps_ret pe_bl)) pss_nil)))
      (pss_one (ps_ret pe_bl)))))))), ?_⟩
    have fin : ∀ (b : Bool) H2, Same H H2 → treeB m d = b → Q (.bl b) H2 := fun b H2 s2 e => by
      have q1 := q H2 s2
      rw [e] at q1
      exact q1
    refine ⟨_, rfl, rfl, _, rfl, ?_⟩
    cases m with
    | zero => exact iteT' (decide_eq_true rfl) (fin false H (Same.refl H) rfl)
    | succ m =>
      refine iteF' (decide_eq_false (fun e => by have := V.int.inj e; omega)) ⟨v, rfl, v, _, _, _, _, rfl, .ty "tuple", dp_ty hv, kit_tup K d, _, rfl, ?_⟩
      cases hv with
      | @tup a xs ts hs ha =>
        have el : xs.length = ts.length := dpA_len ha
        refine iteF ⟨_, rfl, a, xs, rfl, .inr hs, _, _, rfl, rfl, _, rfl, ?_⟩
        by_cases l2 : ts.length < 2
        · refine iteT' (decide_eq_true (by omega)) (fin false H (Same.refl H) ?_)
          match ts, l2 with
          | [], _ => exact treeB_flat fun w rest e => by cases e
          | [x], _ =>
            cases x with
            | str w =>
              rw [treeB_eq, isForm_bad (l := []) (by decide), oneT_bad (l := []) (by decide), rowT_bad (l := []) (by decide)]
              split
              · rfl
              · split
                · rfl
                · split <;> rfl
            | _ => exact treeB_flat fun w rest e => by cases e
        · refine iteF' (decide_eq_false (by omega)) ?_
          match ts, l2, ha with
          | d0 :: rest, l2, ha =>
          cases ha with
          | @cons x0 xr _ _ h0 hr0 =>
          have at0 : atI (x0 :: xr) (0 : Int) = some x0 := atI_nat (j := 0) rfl
          refine ⟨_, rfl, a, _, 0, x0, rfl, rfl, hs, at0, x0, _, _, _, _, rfl, .ty "str", dp_ty h0, kit_str K d0, _, rfl, ?_⟩
          cases h0 with
          | str w =>
            refine iteF ?_
            dsimp only [tNext]
            refine ⟨_, rfl, a, _, 0, .str w, rfl, rfl, hs, at0, ?_⟩
            dsimp only [gName, List.set]
            have elr : xr.length = rest.length := dpA_len hr0
            have zr : szDs rest = true := by
              have := szD_tup hz
              have h2 : (szD (.str w) && szDs rest) = true := by
                unfold szDs at this
                exact this
              exact (Bool.and_eq_true_iff.mp h2).2
            refine ⟨_, rfl, rfl, _, rfl, ?_⟩
            rw [dstr]
            by_cases hi : w = "is"
            · subst hi
              refine iteT' (decide_eq_true rfl) ⟨_, rfl, a, _, rfl, .inr hs, rfl, _, rfl, ?_⟩
              by_cases h3 : rest.length = 2
              · obtain ⟨c, u, rfl⟩ := len2 h3
                obtain ⟨y0, y1, rfl, g0, g1⟩ := dp_pair hr0
                have et : treeB (m + 1) (.tuple [.str "is", c, u]) = (callB c && isValue u) := rfl
                refine iteT' (by rfl) ⟨_, rfl, a, _, 1, y0, rfl, rfl, hs, rfl, y0, c, rfl, g0, szDs_get zr (i := 0) rfl, fun H1 s1 => ⟨_, rfl, ?_⟩⟩
                cases hc : callB c with
                | false => exact iteF (fin false H1 s1 (by rw [et, hc]; rfl))
                | true => exact iteT ⟨_, rfl, a, _, 2, y1, rfl, rfl, same_sqT s1 hs, rfl, y1, u, rfl, dp_same s1 g1, szDs_get zr (i := 1) rfl, fun H2 s2 => fin _ H2 (s1.trans s2) (by rw [et, hc]; rfl)⟩
              · refine iteF' (decide_eq_false (fun e => h3 ?_)) (fin false H (Same.refl H) ?_)
                · have e2 : ((xr.length + 1 : Nat) : Int) = 3 := V.int.inj e
                  omega
                · rw [treeB_eq, if_pos rfl, isForm_bad h3]
            · refine iteF' (decide_eq_false hi) ?_
              dsimp only [tNext]
              refine ⟨_, rfl, (by show 3 ≤ sizeLine; decide), fun tp np => ?_⟩
              have s1 := same_upd (o := HO.tup [.str "not", .str "and", .str "or"]) np
              have etp : SqT K (upd H tp (.tup [.str "not", .str "and", .str "or"])) tp [.str "not", .str "and", .str "or"] := .inl (.inl upd_same)
              generalize upd H tp (.tup [.str "not", .str "and", .str "or"]) = H1 at s1 etp ⊢
              have hs1 := same_sqT s1 hs
              refine ⟨tp, _, rfl, .inr etp, rfl, by decide, _, rfl, ?_⟩
              rw [in_three]
              by_cases hw : w = "not" ∨ w = "and" ∨ w = "or"
              · refine iteF' (by rw [decide_eq_true hw]; rfl) ⟨_, rfl, a, _, rfl, .inr hs1, rfl, _, rfl, ?_⟩
                by_cases h1 : rest.length = 1
                · obtain ⟨t, rfl⟩ := List.length_eq_one_iff.mp h1
                  cases hr0 with
                  | @cons y0 yr _ _ g0 gr =>
                  cases gr
                  have zt : szD t = true := szDs_get zr (i := 0) rfl
                  refine iteF' (by rfl) ?_
                  dsimp only [tNext]
                  refine ⟨_, rfl, rfl, _, rfl, ?_⟩
                  rw [dstr]
                  by_cases hn : w = "not"
                  · subst hn
                    refine iteT' (decide_eq_true rfl) ⟨_, rfl, a, _, 1, y0, rfl, rfl, hs1, rfl, _, rfl, _, _, rfl, rfl, y0, t, m, by show [y0, V.int (((m + 1 : Nat) : Int) - 1)] = _; rw [show ((m + 1 : Nat) : Int) - 1 = (m : Nat) by omega], by omega, dp_same s1 g0, zt, fun H2 s2 => fin _ H2 (s1.trans s2) rfl⟩
                  · refine iteF' (decide_eq_false hn) ?_
                    dsimp only [tNext]
                    have hao : w = "and" ∨ w = "or" := hw.resolve_left hn
                    have et : ∀ x, treeB (m + 1) (.tuple [.str w, x]) = rowT (treeB m) [x] := fun x => by rw [treeB_eq, if_neg hi, if_neg hn, if_pos hao]
                    refine ⟨_, rfl, a, _, 1, y0, rfl, rfl, hs1, rfl, y0, _, _, _, _, rfl, .ty "tuple", dp_ty (dp_same s1 g0), kit_tup K t, _, rfl, ?_⟩
                    have g1 := dp_same s1 g0
                    cases g1 with
                    | @tup c us ts2 hs2 ha2 =>
                      have eu : us.length = ts2.length := dpA_len ha2
                      refine iteF ⟨_, rfl, a, _, 1, .ref c, rfl, rfl, hs1, rfl, c, us, rfl, .inr hs2, ?_⟩
                      have er : treeB (m + 1) (.tuple [.str w, .tuple ts2]) = (decide (1 ≤ ts2.length) && (decide (ts2.length ≤ 8) && ts2.all (treeB m))) := et _
                      by_cases hb : 1 ≤ ts2.length ∧ ts2.length ≤ 8
                      · refine ⟨_, _, rfl, rfl, _, rfl, iteT' (decide_eq_true (by omega)) ⟨_, _, rfl, rfl, _, rfl, iteF' (by rw [decide_eq_true (show ((us.length : Nat) : Int) ≤ 8 by omega)]; rfl) ?_⟩⟩
                        dsimp only [tNext]
                        refine ⟨_, rfl, a, _, 1, .ref c, rfl, rfl, hs1, rfl, c, rfl, ⟨_, hs2⟩, ?_⟩
                        have zts : szDs ts2 = true := szD_tup zt
                        refine for_tup (K := K) (a := c) (xs := us) (fun j σ H' => ∃ z3, σ = [some (.ref a), some (.int ((m + 1 : Nat) : Int)), some (.str w), z3] ∧ Same H1 H' ∧ ∀ i e, i < j → ts2[i]? = some e → treeB m e = true) ⟨_, rfl, Same.refl H1, fun i e h => absurd h (Nat.not_lt_zero _)⟩ (fun j σ H' _ pr => ?_) (fun j x σ H' hx pr => ?_) (fun σ H' pr => ?_)
                        · obtain ⟨_, _, s2, _⟩ := pr
                          exact same_sqT s2 hs2
                        · obtain ⟨z3, rfl, s2, was⟩ := pr
                          obtain ⟨e, he, hxe⟩ := dpA_at ha2 hx
                          dsimp only [gName, List.set]
                          refine ⟨x, rfl, _, rfl, _, _, rfl, rfl, x, e, m, by show [x, V.int (((m + 1 : Nat) : Int) - 1)] = _; rw [show ((m + 1 : Nat) : Int) - 1 = (m : Nat) by omega], by omega, dp_same s2 hxe, szDs_get zts he, fun H2 s3 => ⟨_, rfl, ?_⟩⟩
                          cases hte : treeB m e with
                          | false =>
                            refine iteT (fin false H2 (s1.trans (s2.trans s3)) ?_)
                            rw [er]
                            have : ts2.all (treeB m) = false := by
                              rw [List.all_eq_false]
                              exact ⟨e, List.mem_of_getElem? he, by rw [hte]; decide⟩
                            rw [this, Bool.and_false, Bool.and_false]
                          | true =>
                            refine iteF ⟨_, rfl, s2.trans s3, fun i e' hi' he' => ?_⟩
                            by_cases ij : i = j
                            · subst ij
                              rw [he] at he'
                              exact Option.some.inj he' ▸ hte
                            · exact was i e' (by omega) he'
                        · obtain ⟨z3, rfl, s2, was⟩ := pr
                          refine fin true H' (s1.trans s2) ?_
                          rw [er, decide_eq_true hb.1, decide_eq_true hb.2, Bool.true_and, Bool.true_and, List.all_eq_true]
                          intro e he
                          obtain ⟨i, hi'⟩ := List.getElem?_of_mem he
                          exact was i e (by rw [eu]; exact (List.getElem?_eq_some_iff.mp hi').1) hi'
                      · have ef : treeB (m + 1) (.tuple [.str w, .tuple ts2]) = false := by
                          rw [er]
                          by_cases h1' : 1 ≤ ts2.length
                          · rw [decide_eq_false (show ¬ ts2.length ≤ 8 from fun h => hb ⟨h1', h⟩)]
                            simp
                          · rw [decide_eq_false h1']
                            rfl
                        refine ⟨_, _, rfl, rfl, _, rfl, ?_⟩
                        cases h1' : decide ((1 : Int) ≤ ((us.length : Nat) : Int)) with
                        | false => exact iteF ⟨_, rfl, iteT (fin false H1 s1 ef)⟩
                        | true =>
                          refine iteT ⟨_, _, rfl, rfl, _, rfl, iteT' ?_ (fin false H1 s1 ef)⟩
                          rw [decide_eq_false (show ¬ ((us.length : Nat) : Int) ≤ 8 from fun h => hb ⟨by have := of_decide_eq_true h1'; omega, by omega⟩)]
                          rfl
                    | _ => exact iteT (fin false H1 s1 (by rw [et] <;> rfl))
                · refine iteT' ?_ (fin false H1 s1 ?_)
                  · rw [decide_eq_false (show ¬ (V.int (((V.str w :: xr).length : Nat) : Int) = V.int 2) from fun e => h1 (by have e2 : ((xr.length + 1 : Nat) : Int) = 2 := V.int.inj e; omega))]
                    rfl
                  · rw [treeB_eq, if_neg hi, oneT_bad h1, rowT_bad h1]
                    split
                    · rfl
                    · split <;> rfl
              · refine iteT' (by rw [decide_eq_false hw]; rfl) (fin false H1 s1 ?_)
                rw [treeB_eq, if_neg hi, if_neg fun e => hw (.inl e), if_neg fun e => hw (.inr e)]
          | _ => exact iteT (fin false H (Same.refl H) (treeB_flat fun w rest e => by cases e))
      | _ => exact iteT (fin false H (Same.refl H) (treeB_flat fun w rest e => by cases e))
end
/-! ### trees: what they hold -/
theorem fm_congr {α β : Type} {f g : α → List β} : ∀ {l : List α}, (∀ t ∈ l, f t = g t) → l.flatMap f = l.flatMap g
  | [], _ => rfl
  | a :: l, h => by rw [List.flatMap_cons, List.flatMap_cons, h a List.mem_cons_self, fm_congr fun t m => h t (List.mem_cons_of_mem _ m)]
theorem all_bool {α : Type} {p : α → Bool} {l : List α} (h : l.all p = true) : ∀ x ∈ l, p x = true := fun x hx => List.all_eq_true.mp h x hx
theorem tree_shape {f : Nat} {d : PyData} (h : treeB f d = true) : ∃ g, f = g + 1 ∧ ((∃ c v, d = .tuple [.str "is", c, v] ∧ callB c = true ∧ isValue v = true) ∨ (∃ t, d = .tuple [.str "not", t] ∧ treeB g t = true) ∨
    (∃ w ts, d = .tuple [.str w, .tuple ts] ∧ (w = "and" ∨ w = "or") ∧ 1 ≤ ts.length ∧ ts.length ≤ 8 ∧ ∀ t ∈ ts, treeB g t = true)) := by
  cases f with
  | zero => cases h
  | succ g =>
    refine ⟨g, rfl, ?_⟩
    by_cases e : ∃ w rest, d = .tuple (.str w :: rest)
    · obtain ⟨w, rest, rfl⟩ := e
      rw [treeB_eq] at h
      by_cases hi : w = "is"
      · rw [if_pos hi] at h
        by_cases l : rest.length = 2
        · obtain ⟨c, v, rfl⟩ := len2 l
          have h2 : (callB c && isValue v) = true := h
          rw [Bool.and_eq_true] at h2
          exact .inl ⟨c, v, by rw [hi], h2.1, h2.2⟩
        · rw [isForm_bad l] at h
          cases h
      · rw [if_neg hi] at h
        by_cases hn : w = "not"
        · rw [if_pos hn] at h
          by_cases l : rest.length = 1
          · obtain ⟨t, rfl⟩ := List.length_eq_one_iff.mp l
            exact .inr (.inl ⟨t, by rw [hn], h⟩)
          · rw [oneT_bad l] at h
            cases h
        · rw [if_neg hn] at h
          by_cases ha : w = "and" ∨ w = "or"
          · rw [if_pos ha] at h
            by_cases l : rest.length = 1
            · obtain ⟨t, rfl⟩ := List.length_eq_one_iff.mp l
              cases t with
              | tuple ts =>
                have h2 : (decide (1 ≤ ts.length) && (decide (ts.length ≤ 8) && ts.all (treeB g))) = true := h
                simp only [Bool.and_eq_true, decide_eq_true_eq] at h2
                exact .inr (.inr ⟨w, ts, rfl, ha, h2.1, h2.2.1, all_bool h2.2.2⟩)
              | _ => cases h
            · rw [rowT_bad l] at h
              cases h
          · rw [if_neg ha] at h
            cases h
    · rw [treeB_flat fun w rest q => e ⟨w, rest, q⟩] at h
      cases h
theorem not_w {w : Str} (h : w = "and" ∨ w = "or") : w ≠ "is" ∧ w ≠ "not" := by rcases h with rfl | rfl <;> exact ⟨by decide, by decide⟩
theorem treeB_mono : ∀ (f : Nat) {d : PyData}, treeB f d = true → treeB (f + 1) d = true
  | f, d, h => by
    obtain ⟨g, rfl, ⟨c, v, rfl, hc, hv⟩ | ⟨t, rfl, ht⟩ | ⟨w, ts, rfl, hw, l1, l8, hts⟩⟩ := tree_shape h
    · show (callB c && isValue v) = true
      rw [hc, hv]
      rfl
    · exact treeB_mono g ht
    · rw [treeB_eq, if_neg (not_w hw).1, if_neg (not_w hw).2, if_pos hw]
      show (decide (1 ≤ ts.length) && (decide (ts.length ≤ 8) && ts.all (treeB (g + 1)))) = true
      rw [decide_eq_true l1, decide_eq_true l8, Bool.true_and, Bool.true_and, List.all_eq_true]
      exact fun t m => treeB_mono g (hts t m)
termination_by f => f
theorem treeB_le {f g : Nat} (h : f ≤ g) {d : PyData} (t : treeB f d = true) : treeB g d = true := by
  induction h with
  | refl => exact t
  | step _ ih => exact treeB_mono _ ih
def rowOf : PyData → List PyData
  | .tuple ts => ts
  | _ => []
def branchesD : PyData → List PyData
  | .tuple [.str w, x] => if w = "not" then [x] else rowOf x
  | _ => []
def callsF : Nat → PyData → List PyData
  | 0, _ => []
  | _ + 1, .tuple [.str _, c, _] => [c]
  | f + 1, d => (branchesD d).flatMap (callsF f)
/-- how many branches, where some stand -/
def headN : PyData → List Nat
  | .tuple [.str w, .tuple ts] => if w = "and" ∨ w = "or" then [ts.length] else []
  | _ => []
def nodesF : Nat → PyData → List Nat
  | 0, _ => []
  | f + 1, d => headN d ++ (branchesD d).flatMap (nodesF f)
def sizeF : Nat → PyData → Nat
  | 0, _ => 0
  | f + 1, d => 1 + ((branchesD d).map (sizeF f)).sum
theorem br_is (c v : PyData) : branchesD (.tuple [.str "is", c, v]) = [] := rfl
theorem br_not (t : PyData) : branchesD (.tuple [.str "not", t]) = [t] := rfl
theorem br_row {w : Str} (h : w = "and" ∨ w = "or") (ts : List PyData) : branchesD (.tuple [.str w, .tuple ts]) = ts := by
  show (if w = "not" then _ else _) = _
  rw [if_neg (not_w h).2]
  rfl
theorem branch_tree {f : Nat} {d : PyData} (h : treeB (f + 1) d = true) : (branchesD d).length ≤ 8 ∧ ∀ t ∈ branchesD d, treeB f t = true := by
  obtain ⟨g, e, ⟨c, v, rfl, hc, hv⟩ | ⟨t, rfl, ht⟩ | ⟨w, ts, rfl, hw, l1, l8, hts⟩⟩ := tree_shape h
  · exact ⟨Nat.zero_le _, fun t m => by cases m⟩
  · cases e
    exact ⟨by show 1 ≤ 8; decide, fun u m => by rw [br_not, List.mem_singleton] at m; exact m ▸ ht⟩
  · cases e
    rw [br_row hw]
    exact ⟨l8, hts⟩
theorem calls_fix : ∀ (f : Nat) {d : PyData}, treeB f d = true → callsF (f + 1) d = callsF f d
  | f, d, h => by
    obtain ⟨g, rfl, ⟨c, v, rfl, hc, hv⟩ | ⟨t, rfl, ht⟩ | ⟨w, ts, rfl, hw, l1, l8, hts⟩⟩ := tree_shape h
    · rfl
    · show List.flatMap (callsF (g + 1)) [t] = List.flatMap (callsF g) [t]
      rw [List.flatMap_singleton, List.flatMap_singleton]
      exact calls_fix g ht
    · show List.flatMap (callsF (g + 1)) (branchesD (.tuple [.str w, .tuple ts])) = List.flatMap (callsF g) (branchesD (.tuple [.str w, .tuple ts]))
      rw [br_row hw]
      exact fm_congr fun t m => calls_fix g (hts t m)
termination_by f => f
theorem nodes_fix : ∀ (f : Nat) {d : PyData}, treeB f d = true → nodesF (f + 1) d = nodesF f d
  | f, d, h => by
    obtain ⟨g, rfl, _⟩ := tree_shape h
    have hb := (branch_tree h).2
    show headN d ++ List.flatMap (nodesF (g + 1)) (branchesD d) = headN d ++ List.flatMap (nodesF g) (branchesD d)
    rw [fm_congr fun t m => nodes_fix g (hb t m)]
termination_by f => f
theorem size_fix : ∀ (f : Nat) {d : PyData}, treeB f d = true → sizeF (f + 1) d = sizeF f d
  | f, d, h => by
    obtain ⟨g, rfl, _⟩ := tree_shape h
    have hb := (branch_tree h).2
    show 1 + ((branchesD d).map (sizeF (g + 1))).sum = 1 + ((branchesD d).map (sizeF g)).sum
    rw [List.map_congr_left fun t m => size_fix g (hb t m)]
termination_by f => f
abbrev T8 (d : PyData) : Prop := treeB 8 d = true
theorem t8_br {d : PyData} (h : T8 d) : ∀ t ∈ branchesD d, T8 t := fun t m => treeB_mono 7 ((branch_tree (f := 7) h).2 t m)
theorem t8_calls {d : PyData} (h : T8 d) : (∃ c v, d = .tuple [.str "is", c, v] ∧ callB c = true ∧ callsF 8 d = [c] ∧ branchesD d = []) ∨ ((∀ c v, d ≠ .tuple [.str "is", c, v]) ∧ callsF 8 d = (branchesD d).flatMap (callsF 8)) := by
  have e := calls_fix 8 h
  obtain ⟨g, _, ⟨c, v, rfl, hc, hv⟩ | ⟨t, rfl, ht⟩ | ⟨w, ts, rfl, hw, l1, l8, hts⟩⟩ := tree_shape h
  · exact .inl ⟨c, v, rfl, hc, rfl, rfl⟩
  · exact .inr ⟨(fun c v q => by cases q), e.symm⟩
  · exact .inr ⟨(fun c v q => by cases q), e.symm⟩
theorem t8_nodes {d : PyData} (h : T8 d) : nodesF 8 d = headN d ++ (branchesD d).flatMap (nodesF 8) := (nodes_fix 8 h).symm
theorem t8_size {d : PyData} (h : T8 d) : sizeF 8 d = 1 + ((branchesD d).map (sizeF 8)).sum := (size_fix 8 h).symm
section
variable {P : Program} {w : World} {K : PySem.W.Frag} {mg : Str → Option Value} {base : Heap}
theorem isTr_zero {f fC fV : Addr} {fd dC dV : FuncData} (F : Fun K "_is_tree" "_is_tree" sIsTr f fd) (M : Blt mg) : FnOk P w K mg base CX0 (4 + 0) f fd ["value", "deep"] (spTr K 0) := by
  refine F.ok scIsTr (fun vs H Q E h => ?_) (fun cdv A outer s H vs Q E hr h => ?_)
  · obtain ⟨v, d, m, rfl, _⟩ := h
    rfl
  · obtain ⟨v, d, m, rfl, hm, hv, hz, q⟩ := h
    refine ⟨_, pss_cons (ps_if (PW.pt (pw_or (pt_cmpR op_eq (pv 1) pe_int (nomark _)) (pw_or (pt_not (pt_val (pe_callB call_isi (by rfl) M.isinstance (by decide +kernel) (pa_cons (pv 0) (pa_cons (pe_bltn (v := .ty "tuple") (by rfl) M.tuple (by decide +kernel) rfl) pa_nil)))))
          (pw_or (pt_cmpR op_lt (pe_callB call_len_seq (by rfl) M.len PySem.boot_len (pa_cons (pv 0) pa_nil)) pe_int (nomark _))
            (pw_or1 (pt_not (pt_val (pe_callB call_isi (by rfl) M.isinstance (by decide +kernel) (pa_cons (pe_ix ix_tup (pv 0) pe_int (fun _ _ => rfl)) (pa_cons (pe_bltn (v := .ty "str") (by rfl) M.str (by decide +kernel) rfl) pa_nil))))))))))
        (pss_one (ps_ret pe_bl)) pss_nil)
      (pss_cons ps_dead (pss_cons ps_dead (pss_cons ps_dead (pss_cons ps_dead (pss_cons ps_dead (pss_cons ps_dead (pss_one ps_dead))))))), ?_⟩
    have m0 : m = 0 := by omega
    subst m0
    exact ⟨_, rfl, rfl, _, rfl, iteT' (decide_eq_true rfl) (q H (Same.refl H))⟩
theorem ok_isTr {f fC fV : Addr} {fd dC dV : FuncData} (F : Fun K "_is_tree" "_is_tree" sIsTr f fd) (M : Blt mg) (T : TrTxt K mg)
    (GC : FnOk P w K mg base CX0 3 fC dC ["value"] (spB K callB)) (kC : PySem.W.keepIn K (.ref fC) = true) (bC : Binds K dC ["value"] []) (gC : mg "is_call" = some (.ref fC))
    (GV : FnOk P w K mg base CX0 2 fV dV ["value"] (spB K isValue)) (kV : PySem.W.keepIn K (.ref fV) = true) (bV : Binds K dV ["value"] []) (gV : mg "is_value" = some (.ref fV))
    (bT : Binds K fd ["value", "deep"] []) (gT : mg "_is_tree" = some (.ref f)) : ∀ n, FnOk P w K mg base CX0 (4 + n) f fd ["value", "deep"] (spTr K n)
  | 0 => isTr_zero (fC := fC) (fV := fV) (dC := dC) (dV := dV) F M
  | n + 1 => isTr_body (fT := f) (dT := fd) F M T GC kC bC gC GV kV bV gV (ok_isTr F M T GC kC bC gC GV kV bV gV bT gT n) bT gT
theorem ok_tree {f fT : Addr} {fd dT : FuncData} (F : Fun K "is_tree" "is_tree" sTree f fd) (T : TrTxt K mg) (GT : FnOk P w K mg base CX0 (4 + 8) fT dT ["value", "deep"] (spTr K 8)) (kT : PySem.W.keepIn K (.ref fT) = true) (bT : Binds K dT ["value", "deep"] []) (gT : mg "_is_tree" = some (.ref fT)) : FnOk P w K mg base CX0 13 f fd ["value"] (spB K (treeB 8)) := by
  obtain ⟨t8, g8⟩ := T.dp
  refine F.ok scTree (fun vs H Q E h => ?_) (fun cdv A outer s H vs Q E hr h => ?_)
  · obtain ⟨v, d, rfl, _⟩ := h
    rfl
  · obtain ⟨v, d, rfl, hv, hz, q⟩ := h
    refine ⟨_, pss_one (ps_ret (pe_call GT hr (by rfl) gT kT bT .nil pass0 (pa_cons (pv 0) (pa_cons (pe_glob (v := .int 8) (by rfl) g8 ⟨_, rfl⟩) pa_nil)))), ?_⟩
    exact ⟨v, rfl, v, d, 8, rfl, Nat.le_refl _, hv, hz, q⟩
/-- what branches off a tree -/
def spBr (K : PySem.W.Frag) : Sp := fun vs H Q _ => ∃ (v : V) (d : PyData) (H0 : Hp), vs = [v] ∧ Same H0 H ∧ Dp K H0 v d ∧ T8 d ∧ ∀ p xs H', Same H H' → H p = none → H' p = some (.lst xs) → DpAll K H0 xs (branchesD d) → Q (.ref p) H'
theorem ok_br {f : Addr} {fd : FuncData} (F : Fun K "_branches" "_branches" sBr f fd) (M : Blt mg) : FnOk P w K mg base CX0 1 f fd ["tree"] (spBr K) := by
  refine F.ok scBr (fun vs H Q E h => ?_) (fun cdv A outer s H vs Q E hr h => ?_)
  · obtain ⟨v, d, H0, rfl, _⟩ := h
    rfl
  · obtain ⟨v, d, H0, rfl, s0, hv, ht, q⟩ := h
    refine ⟨_, pss_cons (ps_if (pt_cmpR op_eq (pe_ix ix_tup (pv 0) pe_int (fun _ _ => rfl)) pe_str (nomark _)) (pss_one (ps_ret (pe_lst pa_nil))) pss_nil)
      (pss_one (ps_ret (pe_ifExp (pt_cmpR op_eq (pe_ix ix_tup (pv 0) pe_int (fun _ _ => rfl)) pe_str (nomark _)) (pe_lst (pa_cons (pe_ix ix_tup (pv 0) pe_int (fun _ _ => rfl)) pa_nil)) (pe_callTy call_list_of (by rfl) M.list (by decide +kernel) (pa_cons (pe_ix ix_tup (pv 0) pe_int (fun _ _ => rfl)) pa_nil))))), ?_⟩
    have hv1 := dp_same s0 hv
    obtain ⟨g, _, ⟨c, u, rfl, hc, hu⟩ | ⟨t, rfl, h7⟩ | ⟨w, ts, rfl, hw, l1, l8, hts⟩⟩ := tree_shape ht
    · cases hv1 with
      | @tup a xs _ hs ha =>
      cases ha with
      | @cons x0 xr _ _ h0 hr0 =>
      cases h0
      exact ⟨_, rfl, a, _, 0, .str "is", rfl, rfl, hs, atI_nat (j := 0) rfl, rfl, _, rfl, iteT' (by decide) ⟨Nat.zero_le _, fun p np => q p [] _ (same_upd np) np upd_same .nil⟩⟩
    · cases hv with
      | @tup a xs _ hs ha =>
      have hs1 := same_sqT s0 hs
      cases ha with
      | @cons x0 xr _ _ h0 hr0 =>
      cases h0
      cases hr0 with
      | @cons x1 xr2 _ _ h1 hr1 =>
      cases hr1
      exact ⟨_, rfl, a, _, 0, .str "not", rfl, rfl, hs1, rfl, rfl, _, rfl, iteF' (by decide) ⟨_, rfl, a, _, 0, .str "not", rfl, rfl, hs1, rfl, rfl, _, rfl, iteT' (by decide) ⟨_, rfl, a, _, 1, x1, rfl, rfl, hs1, rfl, (by show 1 ≤ sizeLine; decide), fun p np => q p [x1] _ (same_upd np) np upd_same (.cons h1 .nil)⟩⟩⟩
    · cases hv with
      | @tup a xs _ hs ha =>
      have hs1 := same_sqT s0 hs
      cases ha with
      | @cons x0 xr _ _ h0 hr0 =>
      cases h0
      cases hr0 with
      | @cons x1 xr2 _ _ h1 hr1 =>
      cases hr1
      cases h1 with
      | @tup c us _ hs2 ha2 =>
      have nw := not_w hw
      refine ⟨_, rfl, a, _, 0, _, rfl, rfl, hs1, rfl, rfl, _, rfl, iteF' (by rw [dstr]; exact decide_eq_false nw.1) ⟨_, rfl, a, _, 0, _, rfl, rfl, hs1, rfl, rfl, _, rfl, iteF' (by rw [dstr]; exact decide_eq_false nw.2) ⟨_, rfl, a, _, 1, .ref c, rfl, rfl, hs1, rfl, c, us, rfl, .inr (same_sqT s0 hs2), fun p np => q p us _ (same_upd np) np upd_same ?_⟩⟩⟩
      rw [br_row hw]
      exact ha2
end
/-! ### a list from behind: l[::-1] -/
section
variable {X : Cx}
def tRevL (K : PySem.W.Frag) (te : TE) : TE := fun σ H Q => te σ H fun x H1 => ∃ a xs, x = .ref a ∧ SqL K H1 a xs ∧ ∀ p, H1 p = none → Q (.ref p) (upd H1 p (.lst xs.reverse))
theorem pe_revL {e : Expr} {te : TE} {k : Nat} {p1 p2 p3 pos : Pos} (he : PE X e te) : PE X (.Subscript e (.Slice none none (some (.UnaryOp .USub (.Constant (.int 1) k p1) p2)) p3) pos) (tRevL X.K te) := ⟨fun pins s σ H Q I h => by
  refine Subscript_ (thn (he.run pins s σ H _ I h) fun v s1 ⟨x, H1, I1, r1, q1⟩ => ?_)
  obtain ⟨a, xs, ex, hx, q⟩ := q1
  subst ex
  cases r1
  have none_at : ∀ (sA : Shared) (HA : Hp), Inv X pins σ HA sA → tNoPart σ HA (fun o HB => o = none ∧ HB = HA) := fun _ _ _ => ⟨rfl, rfl⟩
  have back : PO X (some (.UnaryOp .USub (.Constant (.int 1) k p1) p2)) (tPart (tUn (rU fun i => .int (-i)) (tC (.int 1)))) := po_some (pe_un un_neg pe_int)
  refine wpAny_Slice (thn (po_none.run pins s1 σ H1 _ I1 (none_at _ _ I1)) fun vl s2 ⟨l, H2, I2, pl, e1⟩ => ?_)
  obtain ⟨el, e2⟩ := e1
  subst el e2
  refine thn (po_none.run pins s2 σ H2 _ I2 (none_at _ _ I2)) fun vu s3 ⟨u, H3, I3, pu, e3⟩ => ?_
  obtain ⟨eu, e4⟩ := e3
  subst eu e4
  refine thn (back.run pins s3 σ H3 (fun o H4 => o = some (-1) ∧ H4 = H3) I3 ⟨1, rfl, -1, rfl, rfl, rfl⟩) fun vk s4 ⟨o, H4, I4, pk, e5⟩ => ?_
  obtain ⟨eo, e6⟩ := e5
  subst eo e6
  cases pl
  cases pu
  have I5 : Inv X pins σ H4 { s4 with heap := s4.heap.push { cls := .type "slice", data := .fields #[Value.none, .none, vk] } } := I4.kept (t' := s4.toks) fun b ob z => Heap.get?_push_of_some _ z
  obtain ⟨its, r, pl, hz⟩ := I5.list hx
  have ht := pl.isList
  have len : its.toArray.size = xs.length := by rw [List.size_toArray]; exact r.length.symm
  show wpAny (model X.prog X.w) X.A (subscriptTail e (.Slice none none (some (.UnaryOp .USub (.Constant (.int 1) k p1) p2)) p3) (.ref a) (.ref s4.heap.objs.size)) (EP X pins σ Q) X.xe { s4 with heap := s4.heap.push { cls := .type "slice", data := .fields #[Value.none, .none, vk] } }
  refine tail_any (ops := [.ref a, .ref s4.heap.objs.size]) ht.typeIs list_getitem_lookup ?_ (by with_unfolding_all rfl)
  refine wpAny_getItem_list_slice ht (Heap.IsSliceOf.new _ .none .none vk) .none .none pk (by decide) ?_ (by rw [len]; exact hz)
  rw [PySem.W.krv_pick]
  refine ⟨.ref _, _, I5.laid (t' := s4.toks) (o := .lst xs.reverse) (fun b ob z => Heap.get?_push_of_some _ z) (Nat.le_refl _) ?_, rfl, q _ (I5.hok.fresh (Nat.le_refl _))⟩
  exact ⟨by rw [List.length_reverse]; exact hz, _, _, r.reverse, Heap.get?_push_size _ rfl⟩⟩
end
/-! ### the calls of a tree -/
abbrev sCIn : Stmt := topS 27
theorem scCIn : FnScope ["tree", "calls", "waiting", "part"] ["tree"] (defScope sCIn) := ⟨rfl, rfl, rfl, by decide +kernel, rfl, by decide +kernel, by decide +kernel⟩
theorem dpA_snoc {K : PySem.W.Frag} {H : Hp} {xs : List V} {ds : List PyData} {d : PyData} (h : DpAll K H xs (ds ++ [d])) : ∃ ys y, xs = ys ++ [y] ∧ DpAll K H ys ds ∧ Dp K H y d := by
  induction ds generalizing xs with
  | nil =>
    cases h with
    | cons h0 h1 =>
      cases h1
      exact ⟨[], _, rfl, .nil, h0⟩
  | cons e ds ih =>
    cases h with
    | cons h0 h1 =>
      obtain ⟨ys, y, rfl, h2, h3⟩ := ih h1
      exact ⟨_ :: ys, y, rfl, .cons h0 h2, h3⟩
theorem dpA_rev {K : PySem.W.Frag} {H : Hp} : ∀ {xs : List V} {ds : List PyData}, DpAll K H xs ds → DpAll K H xs.reverse ds.reverse
  | [], [], _ => .nil
  | x :: xs, d :: ds, h => by
    cases h with
    | cons h0 h1 =>
      rw [List.reverse_cons, List.reverse_cons]
      exact dpA_app (dpA_rev h1) (.cons h0 .nil)
  | [], _ :: _, h => by cases h
  | _ :: _, [], h => by cases h
theorem same_updN {H H1 : Hp} {x : Addr} {o : HO} (s : Same H H1) (nx : H x = none) : Same H (upd H1 x o) := fun a ob e => by
  rw [upd_ne (ne_of_none e nx)]
  exact s a ob e
theorem last_app {xs : List V} {x : V} : (xs ++ [x])[(xs ++ [x]).length - 1]? = some x ∧ (xs ++ [x]).dropLast = xs := by
  refine ⟨?_, by simp⟩
  rw [List.length_append, List.length_singleton, Nat.add_sub_cancel, List.getElem?_append_right (Nat.le_refl _), Nat.sub_self]
  rfl
/-- how much is still to be looked at -/
def left8 (ts : List PyData) : Nat := (ts.map (sizeF 8)).sum
theorem left8_len {ts : List PyData} (h : ∀ t ∈ ts, T8 t) : ts.length ≤ left8 ts := by
  induction ts with
  | nil => exact Nat.le_refl _
  | cons t ts ih =>
    have h1 := ih fun u m => h u (List.mem_cons_of_mem _ m)
    have h2 := t8_size (h t List.mem_cons_self)
    show ts.length + 1 ≤ (sizeF 8 t :: ts.map (sizeF 8)).sum
    rw [List.sum_cons]
    unfold left8 at h1
    omega
theorem left8_snoc (ts : List PyData) (t : PyData) : left8 (ts ++ [t]) = left8 ts + sizeF 8 t := by
  unfold left8
  rw [List.map_append, List.sum_append]
  rfl
theorem left8_app (ts us : List PyData) : left8 (ts ++ us.reverse) = left8 ts + (us.map (sizeF 8)).sum := by
  unfold left8
  rw [List.map_append, List.sum_append, List.map_reverse, List.sum_reverse]
def spCI (K : PySem.W.Frag) : Sp := fun vs H Q _ => ∃ (v : V) (d : PyData) (HB : Hp), vs = [v] ∧ Same HB H ∧ Dp K HB v d ∧ T8 d ∧ (callsF 8 d).length ≤ 8 ∧ sizeF 8 d ≤ 1000 ∧ ∀ p xs H', Same H H' → H p = none → H' p = some (.lst xs) → DpAll K HB xs (callsF 8 d) → Q (.ref p) H'
structure CallTxt (mg : Str → Option Value) : Prop where
  most : ∃ t, mg "MOST_CALLS" = some (.int 8 t)
section
variable {P : Program} {w : World} {K : PySem.W.Frag} {mg : Str → Option Value} {base : Heap}
theorem ok_cIn {f fB : Addr} {fd dB : FuncData} (F : Fun K "_calls_in" "_calls_in" sCIn f fd) (M : Blt mg) (T : CallTxt mg) (GB : FnOk P w K mg base CX0 1 fB dB ["tree"] (spBr K)) (kB : PySem.W.keepIn K (.ref fB) = true) (bB : Binds K dB ["tree"] []) (gB : mg "_branches" = some (.ref fB)) : FnOk P w K mg base CX0 2 f fd ["tree"] (spCI K) := by
  obtain ⟨t8, g8⟩ := T.most
  refine F.ok scCIn (fun vs H Q E h => ?_) (fun cdv A outer s H vs Q E hr h => ?_)
  · obtain ⟨v, d, HB, rfl, _⟩ := h
    rfl
  · obtain ⟨v, d, HB, rfl, sB, hv, ht, l8, z8, q⟩ := h
    refine ⟨_, pss_cons (ps_set (i := 1) scCIn.nd rfl (.inl rfl) (pe_lst pa_nil)) (pss_cons (ps_set (i := 2) scCIn.nd rfl (.inl rfl) (pe_lst (pa_cons (pv 0) pa_nil)))
      (pss_cons (ps_while PassesOwn.never (PW.pt (pw_and (pt_truth (pv 2) (by intro _; rfl)) (pw_and1 (pt_cmpR op_le (pe_callB call_len_seq (by rfl) M.len PySem.boot_len (pa_cons (pv 1) pa_nil)) (pe_glob (v := .int 8) (by rfl) g8 ⟨_, rfl⟩) (nomark _)))))
        (pss_cons (ps_set (i := 3) scCIn.nd rfl (.inl rfl) (pe_bm0 PySem.F.plainAttrs_list PySem.F.slot_list_pop PySem.F.type_list_pop mt_pop (pv 2)))
        (pss_cons (ps_if (pt_cmpR op_eq (pe_ix ix_tup (pv 3) pe_int (fun _ _ => rfl)) pe_str (nomark _)) (pss_one (ps_expr (pe_bm PySem.F.plainAttrs_list PySem.F.slot_list_append PySem.F.type_list_append mt_append (pv 1) (pa_cons (pe_ix ix_tup (pv 3) pe_int (fun _ _ => rfl)) pa_nil)))) pss_nil)
        (pss_one (ps_expr (pe_bm PySem.F.plainAttrs_list PySem.F.slot_list_extend PySem.F.type_list_extend mt_extend (pv 2) (pa_cons (pe_revL (pe_call GB hr (by rfl) gB kB bB .nil pass0 (pa_cons (pv 3) pa_nil))) pa_nil)))))))
      (pss_one (ps_ret (pv 1))))), ?_⟩
    refine ⟨Nat.zero_le _, fun cl nc => ?_⟩
    have s0 := same_upd (o := HO.lst []) nc
    have e0 : (upd H cl (.lst [])) cl = some (.lst []) := upd_same
    generalize upd H cl (.lst []) = H0 at s0 e0 ⊢
    dsimp only [gName, List.set]
    refine ⟨v, rfl, (by show 1 ≤ sizeLine; decide), fun wl nw => ?_⟩
    have s1 := same_upd (o := HO.lst [v]) nw
    have e1 : (upd H0 wl (.lst [v])) wl = some (.lst [v]) := upd_same
    have ncw : cl ≠ wl := ne_of_none e0 nw
    have nwH : H wl = none := s0.free nw
    generalize upd H0 wl (.lst [v]) = H1 at s1 e1 ⊢
    dsimp only [gName, List.set]
    refine q_w ⟨fun m σ H' => ∃ (cs ws : List V) (done todo : List PyData) (z3 : Option V), σ = [some v, some (.ref cl), some (.ref wl), z3] ∧ Same H H' ∧ H' cl = some (.lst cs) ∧ H' wl = some (.lst ws) ∧ DpAll K HB cs done ∧ DpAll K HB ws todo ∧ (∀ t ∈ todo, T8 t) ∧ done ++ todo.reverse.flatMap (callsF 8) = callsF 8 d ∧ m = left8 todo ∧ m ≤ 1000,
      ⟨left8 [d], [], [v], [], [d], none, rfl, s0.trans s1, s1 _ _ e0, e1, .nil, .cons hv .nil, fun t m => by rw [List.mem_singleton] at m; exact m ▸ ht, by simp, rfl, by show sizeF 8 d + 0 ≤ 1000; omega⟩, fun m σ H' hw => ?_⟩
    obtain ⟨cs, ws, done, todo, z3, rfl, sH, ec, ew, hc, hw, ht8, eq, em, lm⟩ := hw
    have lt := left8_len ht8
    have ldone : done.length ≤ 8 := by
      have : (done ++ todo.reverse.flatMap (callsF 8)).length ≤ 8 := by rw [eq]; exact l8
      rw [List.length_append] at this
      omega
    refine ⟨.ref wl, rfl, _, .inl ⟨ws, .inl (.inl ew), rfl⟩, ?_⟩
    rcases List.eq_nil_or_concat todo with rfl | ⟨init, t, rfl⟩
    · cases hw
      refine iteF' rfl ?_
      refine ⟨.ref cl, rfl, q cl cs H' sH nc ec ?_⟩
      rw [List.reverse_nil, List.flatMap_nil, List.append_nil] at eq
      exact eq ▸ hc
    · rw [List.concat_eq_append] at *
      obtain ⟨ys, y, rfl, hi, hy⟩ := dpA_snoc hw
      refine iteT' (by simp) ?_
      refine ⟨.ref cl, rfl, cl, cs, rfl, .inl (.inl (.inl ec)), _, _, rfl, rfl, _, rfl, iteT' (decide_eq_true (by rw [dpA_len hc]; omega)) ?_⟩
      have mem : T8 t := ht8 t (by simp)
      have inH : ∀ u ∈ init, T8 u := fun u mu => ht8 u (by simp [mu])
      rw [left8_snoc] at em lt
      have sp : Same H (upd H' wl (.lst ys)) := same_updN sH nwH
      have ep : (upd H' wl (.lst ys)) wl = some (.lst ys) := upd_same
      have ec2 : (upd H' wl (.lst ys)) cl = some (.lst cs) := by rw [upd_ne ncw]; exact ec
      refine ⟨_, fun _ _ h => h, .ref wl, rfl, .inl ⟨rfl, _, .inl (.inl ew)⟩, wl, ys ++ [y], y, rfl, rfl, ew, last_app.1, ?_⟩
      rw [last_app.2]
      generalize upd H' wl (.lst ys) = H2 at sp ep ec2 ⊢
      dsimp only [gName, List.set]
      have brl := (branch_tree (f := 7) mem).1
      have brt := t8_br mem
      have step : ∀ (cs2 : List V) (don2 : List PyData) (H3 : Hp), Same H H3 → H3 cl = some (.lst cs2) → H3 wl = some (.lst ys) → DpAll K HB cs2 don2 → don2 ++ (branchesD t ++ init.reverse).flatMap (callsF 8) = callsF 8 d →
          ∀ H5 (bs : List V), Same H H5 → H5 cl = some (.lst cs2) → H5 wl = some (.lst (ys ++ bs.reverse)) → DpAll K HB bs (branchesD t) →
            ∃ m', m' < m ∧ ∃ cs ws done todo z3, [some v, some (V.ref cl), some (.ref wl), some y] = [some v, some (.ref cl), some (.ref wl), z3] ∧ Same H H5 ∧ H5 cl = some (.lst cs) ∧ H5 wl = some (.lst ws) ∧ DpAll K HB cs done ∧ DpAll K HB ws todo ∧ (∀ t ∈ todo, T8 t) ∧ done ++ todo.reverse.flatMap (callsF 8) = callsF 8 d ∧ m' = left8 todo ∧ m' ≤ 1000 := fun cs2 don2 H3 s3 e3 w3 h3 q3 H5 bs s5 e5 w5 hb => by
        have sz := t8_size mem
        have la := left8_app init (branchesD t)
        refine ⟨left8 (init ++ (branchesD t).reverse), by omega, cs2, ys ++ bs.reverse, don2, init ++ (branchesD t).reverse, some y, rfl, s5, e5, w5, h3, dpA_app hi (dpA_rev hb), fun u mu => ?_, ?_, rfl, by omega⟩
        · rcases List.mem_append.mp mu with mu | mu
          · exact inH u mu
          · exact brt u (List.mem_reverse.mp mu)
        · rw [List.reverse_append, List.reverse_reverse]
          exact q3
      have roll : ∀ (cs2 : List V) (don2 : List PyData) (H3 : Hp), Same H H3 → H3 cl = some (.lst cs2) → H3 wl = some (.lst ys) → DpAll K HB cs2 don2 → don2 ++ (branchesD t ++ init.reverse).flatMap (callsF 8) = callsF 8 d →
          ∀ (D : Ends), (∀ H5 (bs : List V), Same H H5 → H5 cl = some (.lst cs2) → H5 wl = some (.lst (ys ++ bs.reverse)) → DpAll K HB bs (branchesD t) → D.nx [some v, some (.ref cl), some (.ref wl), some y] H5) →
          tDrop (tBM K "list" rExtend (tVar 2) (tCons (tRevL K (tCall (spBr K) [] E (tCons (tVar 3) tNil))) tNil)) D [some v, some (.ref cl), some (.ref wl), some y] H3 := fun cs2 don2 H3 s3 e3 w3 h3 q3 D r => by
        refine ⟨.ref wl, rfl, .inl ⟨rfl, _, .inl (.inl w3)⟩, y, rfl, y, t, HB, rfl, sB.trans s3, hy, mem, fun p bs H4 s4 np e4 hb => ⟨p, bs, rfl, .inl (.inl e4), fun p2 np2 => ?_⟩⟩
        have s6 := same_upd (o := HO.lst bs.reverse) np2
        refine ⟨wl, p2, ys, bs.reverse, rfl, rfl, s6 _ _ (s4 _ _ w3), upd_same, ?_, ?_⟩
        · rw [List.length_reverse, dpA_len hb, dpA_len hi]
          have : (init ++ [t]).length ≤ 1000 := by omega
          rw [List.length_append] at this
          exact Nat.le_trans (show init.length + (branchesD t).length ≤ 1008 by omega) (by decide)
        · refine r _ bs (same_updN ((s3.trans s4).trans s6) nwH) ?_ upd_same hb
          rw [upd_ne ncw]
          exact s6 _ _ (s4 _ _ e3)
      obtain ⟨c, u, rfl, hc2, ec3, eb⟩ | ⟨nis, ec3⟩ := t8_calls mem
      · rw [List.reverse_append, List.reverse_singleton, List.singleton_append, List.flatMap_cons, ec3, ← List.append_assoc] at eq
        have hy0 := hy
        cases hy with
        | @tup a xs _ hs ha =>
        have hs2 := same_sqT (sB.trans sp) hs
        cases ha with
        | @cons x0 xr _ _ h0 hr0 =>
        cases h0
        cases hr0 with
        | @cons x1 xr2 _ _ h1 hr1 =>
        refine ⟨_, rfl, a, _, 0, .str "is", rfl, rfl, hs2, atI_nat (j := 0) rfl, rfl, _, rfl, iteT' (by decide) ?_⟩
        refine ⟨.ref cl, rfl, .inl ⟨rfl, _, .inl (.inl ec2)⟩, .ref a, rfl, a, _, 1, x1, rfl, rfl, hs2, atI_nat (j := 1) rfl, cl, cs, x1, rfl, rfl, ec2, ?_, ?_⟩
        · rw [dpA_len hc]
          exact Nat.lt_of_le_of_lt (show _ ≤ 8 by omega) (by decide)
        · refine roll (cs ++ [x1]) (done ++ [c]) _ (same_updN sp nc) upd_same (by rw [upd_ne ncw.symm]; exact ep) (dpA_app hc (.cons h1 .nil)) (by rw [eb]; exact eq) _ ?_
          exact step (cs ++ [x1]) (done ++ [c]) _ (same_updN sp nc) upd_same (by rw [upd_ne ncw.symm]; exact ep) (dpA_app hc (.cons h1 .nil)) (by rw [eb]; exact eq)
      · rw [List.reverse_append, List.reverse_singleton, List.singleton_append, List.flatMap_cons, ec3, ← List.flatMap_append] at eq
        have hy0 := hy
        have no : ∃ a us z, y = .ref a ∧ SqT K HB a (.str z :: us) ∧ z ≠ "is" := by
          obtain ⟨g, _, ⟨c, u, rfl, hc5, hu⟩ | ⟨t, rfl, h7⟩ | ⟨wd, ts, rfl, hwd, l1, l8, hts⟩⟩ := tree_shape mem
          · exact absurd rfl (nis c u)
          · cases hy with
            | @tup a xs _ hs ha =>
            cases ha with
            | @cons x0 xr _ _ h0 hr0 =>
            cases h0
            exact ⟨a, _, _, rfl, hs, by decide⟩
          · cases hy with
            | @tup a xs _ hs ha =>
            cases ha with
            | @cons x0 xr _ _ h0 hr0 =>
            cases h0
            exact ⟨a, _, _, rfl, hs, (not_w hwd).1⟩
        obtain ⟨a, us, z, rfl, hs, nz⟩ := no
        have hs2 := same_sqT (sB.trans sp) hs
        refine ⟨_, rfl, a, _, 0, .str z, rfl, rfl, hs2, atI_nat (j := 0) rfl, rfl, _, rfl, iteF' (by rw [dstr]; exact decide_eq_false nz) ?_⟩
        exact roll cs done _ sp ec2 ep hc eq _ (step cs done _ sp ec2 ep hc eq)
end
/-! ### a walk over a list or a tuple -/
/-- what holds of a list or a tuple -/
abbrev SqA (K : PySem.W.Frag) (H : Hp) (a : Addr) (xs : List V) : Prop := SqL K H a xs ∨ SqT K H a xs
theorem SqA.same {K : PySem.W.Frag} {H H' : Hp} {a : Addr} {xs : List V} (h : SqA K H a xs) (s : Same H H') : SqA K H' a xs := h.imp s.seq fun r => r.imp (fun r => r.imp (s _ _) fun ⟨o, e⟩ => ⟨o, s _ _ e⟩) id
def iSeqA (K : PySem.W.Frag) (tl : TE) : TI := fun σ H R => tl σ H fun x H1 => ∃ a, x = .ref a ∧ (((∃ xs, SqL K H1 a xs) ∧ R (Itl K a) H1) ∨ ((∃ xs, SqT K H1 a xs) ∧ R (Itt K a) H1))
theorem pi_seqA {X : Cx} {tg l : Expr} {tl : TE} (hl : PE X l tl) : PI X tg l (iSeqA X.K tl) := by
  refine ⟨fun pins s σ H R I h => ?_⟩
  refine thn (hl.run pins s σ H _ I h) fun v s1 ⟨x, H1, I1, r1, q1⟩ => ?_
  obtain ⟨a, e, q1⟩ := q1
  subst e
  cases r1
  rcases q1 with ⟨⟨xs, hq⟩, q⟩ | ⟨⟨xs, hq⟩, q⟩
  · obtain ⟨its, rv, p, hz⟩ := I1.list hq
    refine wpAny_pyIter_list p.isList ?_
    refine ⟨s1.heap.objs.size, [s1.heap.objs.size], _, _, H1, rfl, I1.kept (t' := s1.toks) fun b o e => Heap.get?_push_of_some _ e, turn_list a _, ⟨_, Heap.get?_push_size _ rfl, rfl, rfl⟩, fun b hb => ?_, q⟩
    have e : b = s1.heap.objs.size := by simpa using hb
    subst e
    exact I1.fpOk (Nat.le_refl _) (I1.hok.fresh (Nat.le_refl _))
  · obtain ⟨its, rv, p, hz⟩ := I1.tuple hq
    refine wpAny_pyIter_tuple (show s1.heap.IsTuple a its.toArray from p) ?_
    refine ⟨s1.heap.objs.size, [s1.heap.objs.size], _, _, H1, rfl, I1.kept (t' := s1.toks) fun b o e => Heap.get?_push_of_some _ e, turn_tuple a _, ⟨_, Heap.get?_push_size _ rfl, rfl, rfl⟩, fun b hb => ?_, q⟩
    have e : b = s1.heap.objs.size := by simpa using hb
    subst e
    exact I1.fpOk (Nat.le_refl _) (I1.hok.fresh (Nat.le_refl _))
/-! ### rows and tables -/
abbrev sAV : Stmt := topS 12
theorem scAV : FnScope ["values", "many", "value"] ["values", "many"] (defScope sAV) := ⟨rfl, rfl, rfl, by decide +kernel, rfl, by decide +kernel, by decide +kernel⟩
abbrev sRow : Stmt := topS 28
theorem scRow : FnScope ["value"] ["value"] (defScope sRow) := ⟨rfl, rfl, rfl, by decide +kernel, rfl, by decide +kernel, by decide +kernel⟩
abbrev sTab : Stmt := topS 29
theorem scTab : FnScope ["value", "row"] ["value"] (defScope sTab) := ⟨rfl, rfl, rfl, by decide +kernel, rfl, by decide +kernel, by decide +kernel⟩
/-- arguments of the right form, so many -/
def valuesB (many : Nat) (ds : List PyData) : Bool := decide (ds.length = many) && ds.all isValue
def spAV (K : PySem.W.Frag) : Sp := fun vs H Q _ => ∃ (v : V) (a : Addr) (us : List V) (ds : List PyData) (many : Nat), vs = [.ref a, .int many] ∧ (SqL K H a us ∨ SqT K H a us) ∧ DpAll K H us ds ∧ szDs ds = true ∧ ds.length ≤ 1000 ∧ ∀ H', Same H H' → Q (.bl (valuesB many ds)) H'
def isSeq : PyData → Bool
  | .list _ => true
  | .tuple _ => true
  | _ => false
theorem kit_seq (K : PySem.W.Frag) (d : PyData) : PySem.W.kitAny K (.type (kind d)) [.type "list", .type "tuple"] = some (isSeq d) := by
  have hl : PySem.W.kitOne K (.type (kind d)) (.type "list") = some (match d with | .list _ => true | _ => false) := by
    cases d with
    | none => exact kit_ty (show kitB "NoneType" "list" = some false by decide +kernel)
    | bool _ => exact kit_ty (show kitB "bool" "list" = some false by decide +kernel)
    | int _ => exact kit_ty (show kitB "int" "list" = some false by decide +kernel)
    | str _ => exact kit_ty (show kitB "str" "list" = some false by decide +kernel)
    | list _ => exact kit_ty (show kitB "list" "list" = some true by decide +kernel)
    | tuple _ => exact kit_ty (show kitB "tuple" "list" = some false by decide +kernel)
    | dict _ => exact kit_ty (show kitB "dict" "list" = some false by decide +kernel)
  have ht := kit_tup K d
  cases d <;> simp [PySem.W.kitAny, hl, ht, isSeq, isTup]
def rowB : PyData → Bool
  | .tuple ds => valuesB 2 ds
  | _ => false
def tableB : PyData → Bool
  | .list ds => decide (ds.length ≤ 6) && ds.all rowB
  | .tuple ds => decide (ds.length ≤ 6) && ds.all rowB
  | _ => false
theorem sz_lenL {ds : List PyData} (h : szD (.list ds) = true) : ds.length ≤ 1000 := of_decide_eq_true (Bool.and_eq_true_iff.mp h).1
theorem szL_in {ds : List PyData} (h : szD (.list ds) = true) : szDs ds = true := (Bool.and_eq_true_iff.mp h).2
theorem szT_in {ds : List PyData} (h : szD (.tuple ds) = true) : szDs ds = true := (Bool.and_eq_true_iff.mp h).2
section
variable {P : Program} {w : World} {K : PySem.W.Frag} {mg : Str → Option Value} {base : Heap}
theorem ok_av {f fV : Addr} {fd dV : FuncData} (F : Fun K "are_values" "are_values" sAV f fd) (M : Blt mg) (GV : FnOk P w K mg base CX0 2 fV dV ["value"] (spB K isValue)) (kV : PySem.W.keepIn K (.ref fV) = true) (bV : Binds K dV ["value"] []) (gV : mg "is_value" = some (.ref fV)) : FnOk P w K mg base CX0 3 f fd ["values", "many"] (spAV K) := by
  refine F.ok scAV (fun vs H Q E h => ?_) (fun cdv A outer s H vs Q E hr h => ?_)
  · obtain ⟨_, a, us, ds, many, rfl, _⟩ := h
    rfl
  · obtain ⟨_, a, us, ds, many, rfl, hs, hd, hz, hl, q⟩ := h
    refine ⟨_, pss_one (ps_ret (pe_and (pe_cmpR op_eq (pe_callB call_len_seq (by rfl) M.len PySem.boot_len (pa_cons (pv 0) pa_nil)) (pv 1) (nomark _)) (pe_one (pe_callB (cr_all rfl) (by rfl) M.all (by decide +kernel) (pa_cons
      (pe_lc (own := [("value", 2)]) (g := gName 2) (wi := iSeqA K (tVar 0)) (tt := tYes) (te := tCall (spB K isValue) [] E0 (tCons (tVar 2) tNil)) (by rfl) scAV.nd (pi_seqA (pv 0)) (blkOk_by (own := [("value", 2)]) (N := ["values", "many", "value"]) (sc := defScope sAV) (by decide +kernel))
        (fun _ _ _ _ _ => pg_name (i := 2) scAV.nd rfl (Or.inl rfl)) (fun _ _ _ _ _ => pts_nil) (fun _ _ _ _ _ => pe_call GV hr (by rfl) gV kV bV .nil pass0 (pa_cons (pv 2) pa_nil))) pa_nil))))), ?_⟩
    have lu := dpA_len hd
    refine ⟨.ref a, rfl, a, _, rfl, hs, .int many, rfl, rfl, _, rfl, ?_⟩
    have step : ∀ (i : Nat) (x : V) (H1 : Hp), Same H H1 → us[i]? = some x → ∀ Q' : VK, (∀ H2, Same H1 H2 → Q' (.bl (isValue (ds.getD i .none))) H2) → spB K isValue [x] H1 Q' E0 := fun i x H1 s1 hx Q' q' => by
      obtain ⟨d, hi, hv⟩ := dpA_at hd hx
      refine ⟨x, d, rfl, dp_same s1 hv, szDs_get hz hi, fun H2 s2 => ?_⟩
      have e : ds.getD i .none = d := by rw [List.getD_eq_getElem?_getD, hi]; rfl
      rw [← e]
      exact q' H2 s2
    by_cases hm : ds.length ≠ many
    · refine iteF' (decide_eq_false fun e => hm (by rw [lu] at e; exact Int.ofNat.inj (V.int.inj e))) ?_
      · have e : valuesB many ds = false := by unfold valuesB; rw [decide_eq_false hm]; rfl
        rw [e] at q
        exact q H (Same.refl H)
    have hm := Decidable.of_not_not hm
    refine iteT' (by rw [lu, hm]; exact decide_eq_true rfl) ⟨.ref a, rfl, a, rfl, ?_⟩
    have fin : ∀ (D : Addr) (H' : Hp), Same H H' → H' D = some (.lst ((List.range us.length).map fun i => V.bl (isValue (ds.getD i .none)))) → ∃ a bs, [V.ref D] = [V.ref a] ∧ SqL K H' a (List.map V.bl bs) ∧ Q (.bl (bs.all id)) H' := fun D H' s' e' => by
      have el : ((List.range us.length).map fun i => V.bl (isValue (ds.getD i .none))) = (ds.map isValue).map V.bl := by
        rw [lu]
        apply List.ext_getElem?
        intro i
        rw [List.getElem?_map, List.getElem?_map, List.getElem?_map]
        by_cases h : i < ds.length
        · rw [List.getElem?_range h, List.getElem?_eq_getElem h, Option.map_some, Option.map_some, Option.map_some, List.getD_eq_getElem?_getD, List.getElem?_eq_getElem h]
          rfl
        · rw [List.getElem?_eq_none (by rw [List.length_range]; omega), List.getElem?_eq_none (by omega)]
          rfl
      rw [el] at e'
      refine ⟨D, ds.map isValue, rfl, .inl (.inl e'), ?_⟩
      have e : valuesB many ds = (ds.map isValue).all id := by
        unfold valuesB
        rw [decide_eq_true hm, Bool.true_and, List.all_map]
        rfl
      rw [e] at q
      exact q H' s'
    rcases hs with hs | hs
    · refine .inl ⟨⟨_, hs⟩, fun D hD => ?_⟩
      refine lc_vals (walk_list (K := K) (a := a) (xs := us)) (fun i => .bl (isValue (ds.getD i .none))) (by omega) hD (fun x => rfl) (fun H' s => s.seq hs) (fun i x H2 H3 hi s2 y => ?_) (fun H2 s2 e2 => fin D H2 s2 e2)
      obtain ⟨rfl, hx⟩ := y
      exact ⟨Same.refl _, fun Q' q' => ⟨x, rfl, step i x _ s2 hx Q' q'⟩⟩
    · refine .inr ⟨⟨_, hs⟩, fun D hD => ?_⟩
      refine lc_vals (walk_tup (K := K) (a := a) (xs := us)) (fun i => .bl (isValue (ds.getD i .none))) (by omega) hD (fun x => rfl) (fun H' s => same_sqT s hs) (fun i x H2 H3 hi s2 y => ?_) (fun H2 s2 e2 => fin D H2 s2 e2)
      obtain ⟨rfl, hx⟩ := y
      exact ⟨Same.refl _, fun Q' q' => ⟨x, rfl, step i x _ s2 hx Q' q'⟩⟩
theorem ok_row {f fA : Addr} {fd dA : FuncData} (F : Fun K "is_row" "is_row" sRow f fd) (M : Blt mg) (T : StTxt K mg) (GA : FnOk P w K mg base CX0 3 fA dA ["values", "many"] (spAV K)) (kA : PySem.W.keepIn K (.ref fA) = true) (bA : Binds K dA ["values", "many"] []) (gA : mg "are_values" = some (.ref fA)) : FnOk P w K mg base CX0 4 f fd ["value"] (spB K rowB) := by
  obtain ⟨aC, oC, gC, lC, cC, dC', hC⟩ := T.cols
  refine F.ok scRow (fun vs H Q E h => ?_) (fun cdv A outer s H vs Q E hr h => ?_)
  · obtain ⟨v, d, rfl, _⟩ := h
    rfl
  · obtain ⟨v, d, rfl, hv, hz, q⟩ := h
    refine ⟨_, pss_one (ps_ret (pe_and (pe_callB call_isi (by rfl) M.isinstance (by decide +kernel) (pa_cons (pv 0) (pa_cons (pe_bltn (v := .ty "tuple") (by rfl) M.tuple (by decide +kernel) rfl) pa_nil)))
      (pe_one (pe_call GA hr (by rfl) gA kA bA .nil pass0 (pa_cons (pv 0) (pa_cons (pe_callB call_len_seq (by rfl) M.len PySem.boot_len (pa_cons (pe_glob (v := .ref aC) (by rfl) gC rfl) pa_nil)) pa_nil)))))), ?_⟩
    refine ⟨v, rfl, v, _, _, _, _, rfl, .ty "tuple", dp_ty hv, kit_tup K d, _, rfl, ?_⟩
    cases hv with
    | @tup a us ds hs hd =>
      exact iteT ⟨_, rfl, aC, _, rfl, .inr (hC H), .non, a, us, ds, 2, rfl, .inr hs, hd, szT_in hz, sz_len hz, q⟩
    | _ => exact iteF (q H (Same.refl H))
theorem ok_tab {f fR : Addr} {fd dR : FuncData} (F : Fun K "is_table" "is_table" sTab f fd) (M : Blt mg) (T6 : ∃ t, mg "MOST_ROWS" = some (.int 6 t)) (GR : FnOk P w K mg base CX0 4 fR dR ["value"] (spB K rowB)) (kR : PySem.W.keepIn K (.ref fR) = true) (bR : Binds K dR ["value"] []) (gR : mg "is_row" = some (.ref fR)) : FnOk P w K mg base CX0 5 f fd ["value"] (spB K tableB) := by
  obtain ⟨t6, g6⟩ := T6
  refine F.ok scTab (fun vs H Q E h => ?_) (fun cdv A outer s H vs Q E hr h => ?_)
  · obtain ⟨v, d, rfl, _⟩ := h
    rfl
  · obtain ⟨v, d, rfl, hv, hz, q⟩ := h
    refine ⟨_, pss_cons (ps_if (PW.pt (pw_or (pt_not (pt_val (pe_callB call_isiT (by rfl) M.isinstance (by decide +kernel) (pa_cons (pv 0) (pa_cons (pe_tup (pa_cons (pe_bltn (v := .ty "list") (by rfl) M.list (by decide +kernel) rfl) (pa_cons (pe_bltn (v := .ty "tuple") (by rfl) M.tuple (by decide +kernel) rfl) pa_nil))) pa_nil)))))
        (pw_or1 (pt_cmpR op_gt (pe_callB call_len_seq (by rfl) M.len PySem.boot_len (pa_cons (pv 0) pa_nil)) (pe_glob (v := .int 6) (by rfl) g6 ⟨_, rfl⟩) (nomark _)))))
        (pss_one (ps_ret pe_bl)) pss_nil)
      (pss_one (ps_ret (pe_callB (cr_all rfl) (by rfl) M.all (by decide +kernel) (pa_cons
        (pe_lc (own := [("row", 1)]) (g := gName 1) (wi := iSeqA K (tVar 0)) (tt := tYes) (te := tCall (spB K rowB) [] E0 (tCons (tVar 1) tNil)) (by rfl) scTab.nd (pi_seqA (pv 0)) (blkOk_by (own := [("row", 1)]) (N := ["value", "row"]) (sc := defScope sTab) (by decide +kernel))
          (fun _ _ _ _ _ => pg_name (i := 1) scTab.nd rfl (Or.inl rfl)) (fun _ _ _ _ _ => pts_nil) (fun _ _ _ _ _ => pe_call GR hr (by rfl) gR kR bR .nil pass0 (pa_cons (pv 1) pa_nil))) pa_nil)))), ?_⟩
    refine ⟨v, rfl, (by show 2 ≤ sizeLine; decide), fun tp np => ?_⟩
    have s0 : Same H (upd H tp (HO.tup [.ty "list", .ty "tuple"])) := same_upd np
    have tcs : Paired ClsV [V.ty "list", V.ty "tuple"] [Value.type "list", Value.type "tuple"] := .cons (.ty "list") (.cons (.ty "tuple") .nil)
    have hv0 := dp_same s0 hv
    refine ⟨v, tp, _, _, _, _, rfl, upd_same, tcs, dp_ty hv0, kit_seq K d, _, rfl, ?_⟩
    generalize upd H tp (HO.tup [.ty "list", .ty "tuple"]) = H1 at s0 hv0 ⊢
    replace q : ∀ H', Same H1 H' → Q (.bl (tableB d)) H' := fun H' s1 => q H' (s0.trans s1)
    cases hq : isSeq d with
    | false =>
      have e : tableB d = false := by cases d <;> first | rfl | cases hq
      rw [e] at q
      exact iteT (q H1 (Same.refl H1))
    | true =>
      refine iteF ?_
      obtain ⟨a, us, ds, rfl, hs, hd, zs, l1, et⟩ : ∃ a us ds, v = .ref a ∧ (SqL K H1 a us ∨ SqT K H1 a us) ∧ DpAll K H1 us ds ∧ szDs ds = true ∧ ds.length ≤ 1000 ∧ tableB d = (decide (ds.length ≤ 6) && ds.all rowB) := by
        cases hv0 with
        | lst h1 h2 => exact ⟨_, _, _, rfl, .inl h1, h2, szL_in hz, sz_lenL hz, rfl⟩
        | tup h1 h2 => exact ⟨_, _, _, rfl, .inr h1, h2, szT_in hz, sz_len hz, rfl⟩
        | _ => cases hq
      have lu := dpA_len hd
      rw [et] at q
      refine ⟨.ref a, rfl, a, us, rfl, hs, _, _, rfl, rfl, _, rfl, ?_⟩
      by_cases l6 : ds.length ≤ 6
      · refine iteF' (decide_eq_false (by omega)) ?_
        rw [decide_eq_true l6, Bool.true_and] at q
        have fin : ∀ (D : Addr) (H' : Hp), Same H1 H' → H' D = some (.lst ((List.range us.length).map fun i => V.bl (rowB (ds.getD i .none)))) → ∃ a bs, [V.ref D] = [V.ref a] ∧ SqL K H' a (List.map V.bl bs) ∧ Q (.bl (bs.all id)) H' := fun D H' s' e' => by
          rw [all_bls lu] at e'
          refine ⟨D, ds.map rowB, rfl, .inl (.inl e'), ?_⟩
          rw [List.all_map]
          exact q H' s'
        have step : ∀ (i : Nat) (x : V) (H2 : Hp), Same H1 H2 → us[i]? = some x → ∀ Q' : VK, (∀ H3, Same H2 H3 → Q' (.bl (rowB (ds.getD i .none))) H3) → spB K rowB [x] H2 Q' E0 := fun i x H2 s1 hx Q' q' => by
          obtain ⟨d, hi, hv⟩ := dpA_at hd hx
          refine ⟨x, d, rfl, dp_same s1 hv, szDs_get zs hi, fun H3 s2 => ?_⟩
          rw [← getD_some hi]
          exact q' H3 s2
        refine ⟨.ref a, rfl, a, rfl, ?_⟩
        rcases hs with hs | hs
        · refine .inl ⟨⟨_, hs⟩, fun D hD => ?_⟩
          refine lc_vals (walk_list (K := K) (a := a) (xs := us)) (fun i => .bl (rowB (ds.getD i .none))) (by omega) hD (fun x => rfl) (fun H' s => s.seq hs) (fun i x H2 H3 hi s2 y => ?_) (fun H2 s2 e2 => fin D H2 s2 e2)
          obtain ⟨rfl, hx⟩ := y
          exact ⟨Same.refl _, fun Q' q' => ⟨x, rfl, step i x _ s2 hx Q' q'⟩⟩
        · refine .inr ⟨⟨_, hs⟩, fun D hD => ?_⟩
          refine lc_vals (walk_tup (K := K) (a := a) (xs := us)) (fun i => .bl (rowB (ds.getD i .none))) (by omega) hD (fun x => rfl) (fun H' s => same_sqT s hs) (fun i x H2 H3 hi s2 y => ?_) (fun H2 s2 e2 => fin D H2 s2 e2)
          obtain ⟨rfl, hx⟩ := y
          exact ⟨Same.refl _, fun Q' q' => ⟨x, rfl, step i x _ s2 hx Q' q'⟩⟩
      · refine iteT' (decide_eq_true (by omega)) ?_
        rw [decide_eq_false l6] at q
        exact q H1 (Same.refl H1)
end
/-! ### enumerate over a tuple -/
namespace EnT
section
variable {prog : Program} {w : World} {A : Around} {E : Value → Shared → Prop} {s : Shared} {it t : Addr} {i : Nat} {items : Array Value}
theorem one_more {x : Value} {Q : Value → Shared → Prop} (hit : s.heap.IsTupleIter it t i) (tup : s.heap.IsTuple t items) (hx : items[i]? = some x)
    (out : ∀ g, g.IsTupleIter it t (i + 1) → Heap.SameBut it s.heap g → Q x { s with heap := g }) : wpAny (model prog w) A (Builtin.SmallTypes.nextOf (.ref it)) Q E s := by
  obtain ⟨oi, ei, ci, di⟩ := id hit
  obtain ⟨ot, et, _, nt, dt⟩ := tup
  have upd1 : (s.heap.update it (Obj.mapFields fun vs => vs.setIfInBounds 1 (.int ((i : Int) + 1) 0))).IsTupleIter it t (i + 1) := ⟨_, Heap.get?_update_self _ ei (Obj.isFreed_of_fields (Obj.data_mapFields di _)), (Obj.cls_mapFields ..).trans ci, by rw [Obj.data_mapFields di]; simp [rawInt]⟩
  unfold Builtin.SmallTypes.nextOf
  refine wpAny_bind (wpAny_callSpecial?_slot (name := Str.ofString "__next__") hit.typeIs PySem.F.slot_tuple_iterator_next (wpAny_call_entry PySem.F.slot_tuple_iterator_next hit.typeIs PySem.F.entry_tuple_iterator_next ?_ (PySem.F.args_tuple_iterator_next_1 _)))
  show wpAny _ _ (field (.ref it) 0 >>= fun _ => _) _ _ s
  refine wpAny_bind (wpAny_field ei di (x := .ref t) rfl ?_)
  have nn : ¬ ((Value.ref t == Value.none) = true) := Bool.false_ne_true
  show wpAny _ _ (if (Value.ref t == Value.none) = true then _ else (field (.ref it) 1 >>= fun _ => _)) _ _ s
  rw [if_neg nn]
  refine wpAny_bind (wpAny_field ei di (x := .int i 0) rfl ?_)
  show wpAny _ _ (seqItems? (.ref t) >>= fun _ => _) _ _ s
  refine wpAny_bind (wpAny_seqItems et dt ?_)
  simp only [hx, Int.toNat_natCast]
  exact wpAny_bind (wpAny_setField ei di (by simp) (wpAny_pure ⟨x, rfl, wpAny_pure (out _ upd1 (Heap.SameBut.update ..))⟩))
theorem no_more {Q : Value → Shared → Prop} (hh : A.handled = none) (hit : s.heap.IsTupleIter it t i) (tup : s.heap.IsTuple t items) (hx : items[i]? = none)
    (out : ∀ g e, Heap.ExtBut it s.heap g → (∃ o, g.get? e = some o ∧ o.cls = .type "StopIteration") → E (.ref e) { s with heap := g }) : wpAny (model prog w) A (Builtin.SmallTypes.nextOf (.ref it)) Q E s := by
  obtain ⟨oi, ei, ci, di⟩ := id hit
  obtain ⟨ot, et, _, nt, dt⟩ := tup
  unfold Builtin.SmallTypes.nextOf
  refine wpAny_bind (wpAny_callSpecial?_slot (name := Str.ofString "__next__") hit.typeIs PySem.F.slot_tuple_iterator_next (wpAny_call_entry PySem.F.slot_tuple_iterator_next hit.typeIs PySem.F.entry_tuple_iterator_next ?_ (PySem.F.args_tuple_iterator_next_1 _)))
  show wpAny _ _ (field (.ref it) 0 >>= fun _ => _) _ _ s
  refine wpAny_bind (wpAny_field ei di (x := .ref t) rfl ?_)
  have nn : ¬ ((Value.ref t == Value.none) = true) := Bool.false_ne_true
  show wpAny _ _ (if (Value.ref t == Value.none) = true then _ else (field (.ref it) 1 >>= fun _ => _)) _ _ s
  rw [if_neg nn]
  refine wpAny_bind (wpAny_field ei di (x := .int i 0) rfl ?_)
  show wpAny _ _ (seqItems? (.ref t) >>= fun _ => _) _ _ s
  refine wpAny_bind (wpAny_seqItems et dt ?_)
  simp only [hx, Int.toNat_natCast]
  refine wpAny_bind (wpAny_rule (wpAny_bind (wpAny_setField ei di (by simp) ?_)))
  show wpAny _ _ (newExc (.type "StopIteration") [] >>= fun _ => _) _ _ _
  refine wpAny_bind ?_
  simp only [newTuple, newExc]
  refine wpAny_bind (wpAny_newObj_type ?_ (by size_fits))
  refine wpAny_bind (m := firstArgMember _ _) (wpAny_of_eq (a := Value.none) (by simp only [firstArgMember]; rfl) ?_)
  refine wpAny_newObj_type ?_ (by size_fits)
  simp only [raiseNew]
  refine wpAny_bind (wpAny_handled ?_)
  rw [show A.in1.handled = none from hh]
  refine wpAny_bind (wpAny_pure (wpAny_throw ?_))
  exact out _ _ (((Heap.SameBut.update ..).extBut.push _).push _) ⟨_, Heap.get?_push_size _ rfl, rfl⟩
end
theorem draws_tup {prog : Program} {w : World} {A : Around} (hh : A.handled = none) (it t : Addr) (ne : t ≠ it) (items : Array Value) : Draws prog w A it [it, t] items.size (fun i v => items[i]? = some v) (fun i h => h.IsTupleIter it t i ∧ h.IsTuple t items) where
  live := fun _ _ st => let ⟨o, e, _⟩ := st.1; ⟨o, e⟩
  frame := fun i g g' st k => ⟨let ⟨o, e, r⟩ := st.1; ⟨o, k it (by simp) o e, r⟩, let ⟨o, e, r⟩ := st.2; ⟨o, k t (by simp) o e, r⟩⟩
  item := fun i s Q E hi st q => one_more st.1 st.2 (x := items[i]) (by simp [hi]) fun g hg sb => q _ g s.toks (by simp [hi]) ⟨hg, st.2.extBut sb.extBut ne⟩ sb
  done := fun s Q E st q => no_more hh st.1 st.2 (by simp) q
theorem made (l : Addr) (items : Array Value) (n : Nat) (dct : Option Addr) (sl : Array (Option Value)) :
    Meets (Builtin.«enumerate.__new__» ⟨[.type "enumerate", .ref l], []⟩) (fun _ R s => s.heap.get? l = some { cls := .type "tuple", dict := dct, data := .seq items n, slots := sl } ∧
      R (.ok (.ret (.ref (s.heap.push { cls := .type "tuple_iterator", data := .fields #[.ref l, .int 0 0] }).objs.size)))
        { s with heap := (s.heap.push { cls := .type "tuple_iterator", data := .fields #[.ref l, .int 0 0] }).push { cls := .type "enumerate", data := .fields #[.none, .bool false, .ref s.heap.objs.size, rawInt 0, .none, .none] } }) :=
  .of_wp fun prog w A R s h => by
    obtain ⟨hp, g, d, tk, os⟩ := s
    obtain ⟨hl, h⟩ := h
    have sub := sub_enumerate
    have isT : Heap.IsTuple (Shared.heap ⟨hp, g, d, tk, os⟩) l items := ⟨_, hl, rfl, n, rfl⟩
    wp_walk using AutoSeq1.wpAny_loadPart' hl
    refine wpAny_stack_any fun st => wpAny_pure ?_
    split
    · rename_i c _ _ _ _ _
      cases (c == Value.type "enumerate") <;> (wp_walk using AutoSeq1.wpAny_loadPart' hl, wpAny_pyIter_tuple isT; exact ⟨_, rfl, h⟩)
    · wp_walk using AutoSeq1.wpAny_loadPart' hl, wpAny_pyIter_tuple isT
      exact ⟨_, rfl, h⟩
section
variable {prog : Program} {w : World} {A : Around} {E : Value → Shared → Prop} {s : Shared}
theorem call_made {l : Addr} {items : Array Value} {Q : Value → Shared → Prop} (tup : s.heap.IsTuple l items)
    (h : ∀ g, IsEnum g (s.heap.objs.size + 1) s.heap.objs.size 0 .none → g.IsTupleIter s.heap.objs.size l 0 → g.objs.size = s.heap.objs.size + 2 → (∀ b o, s.heap.get? b = some o → g.get? b = some o) → Q (.ref (s.heap.objs.size + 1)) { s with heap := g }) :
    wpAny (model prog w) A (call (.type "enumerate") [.ref l]) Q E s := by
  obtain ⟨⟨cl, dct, dat, sl⟩, hl, hc, n, hd⟩ := tup
  have hc' : cl = .type "tuple" := hc
  have hd' : dat = .seq items n := hd
  subst hc' hd'
  refine callType_new PySem.F.called_enumerate (by decide) (PySem.F.typeCall_enumerate_1 _) (PySem.F.newCall_enumerate_1 _) (fun obj => PySem.F.args_object_init_2 obj _) PySem.F.entry_enumerate_new (made l items n dct sl) ⟨hl, ?_⟩
  have sz : (s.heap.push { cls := .type "tuple_iterator", data := .fields #[.ref l, .int 0 0] }).objs.size = s.heap.objs.size + 1 := Heap.size_push ..
  show _ ∧ _
  rw [sz]
  have en : IsEnum ((s.heap.push { cls := .type "tuple_iterator", data := .fields #[.ref l, .int 0 0] }).push { cls := .type "enumerate", data := .fields #[.none, .bool false, .ref s.heap.objs.size, rawInt 0, .none, .none] }) (s.heap.objs.size + 1) s.heap.objs.size 0 .none := by
    have z := Heap.get?_push_size (s.heap.push { cls := .type "tuple_iterator", data := .fields #[.ref l, .int 0 0] }) (o := { cls := .type "enumerate", data := .fields #[.none, .bool false, .ref s.heap.objs.size, rawInt 0, .none, .none] }) rfl
    rwa [sz] at z
  exact ⟨⟨_, en, rfl⟩, h _ en ⟨_, Heap.get?_push_of_some _ (Heap.get?_push_size _ rfl), rfl, rfl⟩ (by rw [Heap.size_push, sz]) fun b o x => Heap.get?_push_of_some _ (Heap.get?_push_of_some _ x)⟩
end
/-- the tuple at a as it stands, its items in new pairs with their places -/
def IteT (K : PySem.W.Frag) (a : Addr) : It :=
  ⟨fun i H => ∃ (xs : List V) (x : V), SqT K H a xs ∧ xs[i]? = some x, fun i H v H' => ∃ T x, v = .ref T ∧ H T = none ∧ H' = upd H T (.tup [.int (i : Nat), x]) ∧ ∀ xs, SqT K H a xs → xs[i]? = some x, fun i H => ∃ xs : List V, SqT K H a xs ∧ xs.length ≤ i⟩
theorem turn_of {P : Program} {w : World} {K : PySem.W.Frag} {elts : List Expr} {kk : Nat} {tpos : Pos} (a e it : Addr) :
    Turn P w K (.Tuple elts kk tpos) (IteT K a) [e, it] e (fun i h => (∃ old, IsEnum h e it ((i : Nat) : Int) old) ∧ h.IsTupleIter it a i ∧ e ≠ it) where
  mem := List.mem_cons_self
  obj := fun i h st b hb => by
    obtain ⟨⟨old, he⟩, ⟨o, ho, hc, hd⟩, _⟩ := st
    rcases (show b = e ∨ b = it by simpa using hb) with z | z <;> rw [z]
    · exact ⟨_, he, fun v q => nomatch q⟩
    · exact ⟨o, ho, fun v q => by rw [hd] at q; cases q⟩
  keep := fun i h h' st k => let ⟨⟨old, he⟩, ⟨o, ho, r⟩, hne⟩ := st; ⟨⟨old, k e List.mem_cons_self _ he⟩, ⟨o, k it (by simp) o ho, r⟩, hne⟩
  item := by
    intro X hP hw hK hc i pins s σ H E I hf st hg
    subst hP hw hK
    obtain ⟨⟨old, he⟩, hit, hne⟩ := st
    obtain ⟨xs, x, hq, hx⟩ := hg
    obtain ⟨its, rv, p, hz⟩ := I.tuple hq
    have el : e < s.heap.objs.size := Heap.lt_size he
    have il : it < s.heap.objs.size := let ⟨_, q, _⟩ := hit; Heap.lt_size q
    have it1 : its.toArray.size = xs.length := by rw [List.size_toArray, ← rv.length]
    have isT : s.heap.IsTuple a its.toArray := p
    have ta : a ≠ it := fun z => by
      obtain ⟨o1, q1, c1, _⟩ := isT
      obtain ⟨o2, q2, c2, _⟩ := hit
      rw [z, q2] at q1
      cases q1
      rw [c2] at c1
      exact absurd (Value.type.inj c1) (by decide)
    have tae : a ≠ e := fun z => by
      obtain ⟨o1, q1, c1, _⟩ := isT
      have q2 : s.heap.get? e = some _ := he
      rw [z, q2] at q1
      cases q1
      exact absurd (Value.type.inj (show Value.type "enumerate" = Value.type "tuple" from c1)) (by decide)
    refine wpAny_pyNext_enum_itemD (draws_tup (A := X.A.in1) (I.ok.hd hc) it a ta its.toArray) he ⟨hit, isT⟩ (by rw [it1]; exact (List.getElem?_eq_some_iff.mp hx).1) hne (by simp [hne, tae.symm]) fun u h' tk hu ho st' hT hsz hk => ?_
    have ru : RelV x u := by
      obtain ⟨u', e1, r1⟩ := rv.get hx
      have e2 : its[i]? = some u := by simpa using hu
      rw [e1] at e2
      cases e2
      exact r1
    refine ⟨_, rfl, wpAny_letOwnedTupleGo_enum (s := { s with heap := h', toks := tk + 1 }) ho fun h'' he' sb => ?_⟩
    have hT2 : h''.get? s.heap.objs.size = some { cls := .type "tuple", data := .seq #[.int i tk, u] } := (sb.2 _ (Nat.ne_of_gt el)).trans hT
    have new : ObjOk X.prog X.w (upd H s.heap.objs.size (.tup [.int (i : Nat), x])) h'' s.heap.objs.size (.tup [.int (i : Nat), x]) := ⟨by show 2 ≤ sizeLine; decide, [.int i tk, u], .cons ⟨_, rfl⟩ (.cons ru .nil), ⟨_, hT2, rfl, _, rfl⟩⟩
    have I1 : Inv X pins σ (upd H s.heap.objs.size (.tup [.int (i : Nat), x])) { s with heap := h'', toks := tk + 1 } := I.turnedNew (ch := [e, it]) (fun b ob hb q => (sb.2 b (fun z => hb (by simp [z]))).trans (hk b ob (fun z => hb (by simp [z])) (fun z => hb (by simp [z])) q)) hf (Nat.le_refl _) new
    refine ⟨.ref s.heap.objs.size, _, I1, rfl, ⟨_, x, rfl, I.hok.fresh (Nat.le_refl _), rfl, fun ys hy => by rw [I.tuple_inj hy hq]; exact hx⟩, ⟨⟨u, ?_⟩, ?_, hne⟩, fun b hb => ?_⟩
    · rw [show ((i + 1 : Nat) : Int) = (i : Int) + 1 by omega]
      exact he'
    · obtain ⟨o, q, r⟩ := st'.1
      exact ⟨o, (sb.2 it (Ne.symm hne)).trans q, r⟩
    · rw [upd_ne (Nat.ne_of_lt (by rcases (show b = e ∨ b = it by simpa using hb) with z | z <;> rw [z] <;> assumption))]
      exact (hf b hb).1
  done := by
    intro X hP hw hK hc i pins s σ H E I hf st hg
    subst hP hw hK
    obtain ⟨⟨old, he⟩, hit, hne⟩ := st
    obtain ⟨xs, hq, hx⟩ := hg
    obtain ⟨its, rv, p, hz⟩ := I.tuple hq
    obtain ⟨f0, f1, f2, f3, f4, f5⟩ := hf it (by simp)
    have isT : s.heap.IsTuple a its.toArray := p
    have hl := rv.length
    have hT : s.TypeIs (.ref e) "enumerate" := ⟨_, he, rfl⟩
    unfold pyNext
    refine wpAny_bind (wpAny_attempt (wpAny_callSpecial?_slot (name := Str.ofString "__next__") hT PySem.F.slot_enumerate_next (wpAny_call_entry PySem.F.slot_enumerate_next hT PySem.F.entry_enumerate_next ?_ (PySem.F.args_enumerate_next_1 _))))
    show wpAny _ _ (field (.ref e) 2 >>= fun _ => _) _ _ _
    refine wpAny_bind (wpAny_field he rfl (x := .ref it) rfl ?_)
    refine wpAny_bind (no_more (I.ok.hd hc) hit isT (by simp; omega) fun h' x eb hx' => ?_)
    obtain ⟨o, ho, hcl⟩ := hx'
    refine wpAny_bind (wpAny_isInstance (T := "StopIteration") (b := true) ⟨o, ho, hcl⟩ isSubtype_stop ?_)
    exact wpAny_pure ⟨rfl, I.turned (t' := s.toks) (fun b o hb q => eb b o hb q) f0 f1 f3 f4 f5⟩
  self := fun A i s Q E st h => let ⟨⟨_, he⟩, _⟩ := st; wpAny_pyIter_enum he h
def iEnumA (K : PySem.W.Frag) (ta : TA) : TI := fun σ H R => ta σ H fun vs H1 => ∃ a xs, vs = [.ref a] ∧ ((SqL K H1 a xs ∧ R (Ite K a) H1) ∨ (SqT K H1 a xs ∧ R (IteT K a) H1))
/-- enumerate(e), of a list or a tuple -/
theorem pi_enumA {X : Cx} {e : Expr} {ta : TA} {p pos tpos : Pos} {elts : List Expr} {kk : Nat} (hg : Gl X "enumerate") (hm : X.mg "enumerate" = none) (ha : PA X [e] ta) (one : starEach [e] X.env = [(false, eval e X.env)] := by rfl) :
    PI X (.Tuple elts kk tpos) (.Call (.Name "enumerate" p) [e] [] pos) (iEnumA X.K ta) := by
  refine ⟨fun pins s σ H R I h => ?_⟩
  refine Call_ (ld_blt I hg hm boot_enumerate (PyProof.Rows.callWith_type1 (thn (ha.run pos pins s σ H _ I h) fun us s1 ⟨vs, H1, I1, r1, z⟩ => ?_) one rfl))
  obtain ⟨a, xs, rfl, z⟩ := z
  obtain ⟨u1, rfl, r⟩ := vals1 r1
  obtain rfl : u1 = Value.ref a := r
  have two : ∀ b, b ∈ [s1.heap.objs.size + 1, s1.heap.objs.size] → s1.heap.objs.size ≤ b := fun b hb => by
    rcases (show b = s1.heap.objs.size + 1 ∨ b = s1.heap.objs.size by simpa using hb) with z | z <;> omega
  rcases z with ⟨hq, q⟩ | ⟨hq, q⟩
  · obtain ⟨its, rv, p', hz⟩ := I1.list hq
    refine call_enumerate_list p'.isList fun g he hit hsz hk => wpAny_pyIter_enum he ?_
    exact ⟨s1.heap.objs.size + 1, [s1.heap.objs.size + 1, s1.heap.objs.size], _, _, H1, rfl, (I1.kept (t' := s1.toks) hk : Inv X pins σ H1 { s1 with heap := g }), turn_enum a (s1.heap.objs.size + 1) s1.heap.objs.size, ⟨⟨.none, he⟩, hit, Nat.succ_ne_self _⟩, fun b hb => I1.fpOk (two b hb) (I1.hok.fresh (two b hb)), q⟩
  · obtain ⟨its, rv, p', hz⟩ := I1.tuple hq
    refine call_made (show s1.heap.IsTuple a its.toArray from p') fun g he hit hsz hk => wpAny_pyIter_enum he ?_
    exact ⟨s1.heap.objs.size + 1, [s1.heap.objs.size + 1, s1.heap.objs.size], _, _, H1, rfl, (I1.kept (t' := s1.toks) hk : Inv X pins σ H1 { s1 with heap := g }), turn_of a (s1.heap.objs.size + 1) s1.heap.objs.size, ⟨⟨.none, he⟩, hit, Nat.succ_ne_self _⟩, fun b hb => I1.fpOk (two b hb) (I1.hok.fresh (two b hb)), q⟩
theorem walk_enumT {K : PySem.W.Frag} {a : Addr} {xs : List V} : Walk (IteT K a) xs.length (fun H => SqT K H a xs) (YPair (fun i => some (.int (i : Nat))) (fun i => xs[i]?)) := by
  refine ⟨fun i _ hi q => ⟨xs, xs[i], q, by simp [hi]⟩, fun _ q => ⟨xs, q, Nat.le_refl _⟩, fun i H v H' _ q y => ?_⟩
  obtain ⟨T, x, e1, e2, e3, e4⟩ := y
  exact ⟨T, .int (i : Nat), x, e1, e2, e3, rfl, e4 xs q⟩
end EnT
/-! ### a Statement made -/
abbrev sChkO : Stmt := topS 31
theorem scChkO : FnScope ["outputs", "index", "output"] ["outputs"] (defScope sChkO) := ⟨rfl, rfl, rfl, by decide +kernel, rfl, by decide +kernel, by decide +kernel⟩
abbrev sStI : Stmt := inClass (topS 30) 0
theorem scStI : FnScope ["self", "condition", "outputs", "atoms", "calls", "call", "_"] ["self", "condition", "outputs"] (defScope sStI) := ⟨rfl, rfl, rfl, by decide +kernel, rfl, by decide +kernel, by decide +kernel⟩
def outB : PyData → Bool
  | .tuple [c, .bool _] => callB c
  | _ => false
def fstD : PyData → PyData
  | .tuple [c, _] => c
  | _ => .none
theorem outB_at {d : PyData} (h : outB d = true) : ∃ c b, d = .tuple [c, .bool b] ∧ callB c = true := by
  unfold outB at h
  split at h
  · exact ⟨_, _, rfl, h⟩
  · cases h
/-- a filter -/
def CondOk (d : PyData) : Prop := d = .none ∨ (T8 d ∧ sizeF 8 d ≤ 1000)
def condCalls (d : PyData) : List PyData := callsF 8 d
def allCalls (dc : PyData) (ods : List PyData) : List PyData := condCalls dc ++ ods.map fstD
structure OutsOk (ods : List PyData) : Prop where
  ok : ∀ d ∈ ods, outB d = true
  sz : szDs ods = true
def spChkO (K : PySem.W.Frag) : Sp := fun vs H Q _ => ∃ (a : Addr) (us : List V) (ds : List PyData), vs = [.ref a] ∧ SqA K H a us ∧ DpAll K H us ds ∧ OutsOk ds ∧ ds.length ≤ 100 ∧ ∀ H', Same H H' → Q .non H'
/-- a Statement stands at a -/
def StAt (K : PySem.W.Frag) (H : Hp) (CS a : Addr) (dc : PyData) (ods : List PyData) : Prop := ∃ (dx : Addr) (vc : V) (t ta tc : Addr) (us as cs : List V), H a = some (.ins CS dx [("condition", vc), ("outputs", .ref t), ("_atoms", .ref ta), ("_calls", .ref tc)]) ∧ Dp K H vc dc ∧ SqT K H t us ∧ DpAll K H us ods ∧ SqT K H ta as ∧ DpAll K H as (condCalls dc) ∧ SqT K H tc cs ∧ DpAll K H cs (allCalls dc ods) ∧ CondOk dc ∧ OutsOk ods ∧ (allCalls dc ods).length ≤ 8
theorem StAt.same {K : PySem.W.Frag} {H H' : Hp} {CS a : Addr} {dc : PyData} {ods : List PyData} (h : StAt K H CS a dc ods) (s : Same H H') : StAt K H' CS a dc ods := by
  obtain ⟨dx, vc, t, ta, tc, us, as, cs, e, h1, h2, h3, h4, h5, h6, h7, r⟩ := h
  exact ⟨dx, vc, t, ta, tc, us, as, cs, s _ _ e, dp_same s h1, same_sqT s h2, dpA_same s h3, same_sqT s h4, dpA_same s h5, same_sqT s h6, dpA_same s h7, r⟩
structure StC (K : PySem.W.Frag) (CS : Addr) : Prop where
  cl : Cls K CS
  n1 : NoAttr K CS "condition"
  n2 : NoAttr K CS "outputs"
  n3 : NoAttr K CS "_atoms"
  n4 : NoAttr K CS "_calls"
def spStI (K : PySem.W.Frag) (CS : Addr) : Sp := fun vs H Q _ => ∃ (a dx o : Addr) (vc : V) (dc : PyData) (us : List V) (ods : List PyData) (H0 : Hp), vs = [.ref a, vc, .ref o] ∧ H a = some (.ins CS dx []) ∧ Same H0 H ∧ H0 a = none ∧ Dp K H0 vc dc ∧ CondOk dc ∧ szD dc = true ∧ SqA K H0 o us ∧ DpAll K H0 us ods ∧ OutsOk ods ∧ (allCalls dc ods).length ≤ 8 ∧
  ∀ H', Same H0 H' → StAt K H' CS a dc ods → Q .non H'
theorem none_is {K : PySem.W.Frag} {H : Hp} {v : V} {d : PyData} (h : Dp K H v d) : decide (v = .non) = (match d with | .none => true | _ => false) := by
  cases h <;> first | rfl | exact decide_eq_false (fun e => nomatch e)
theorem t8_none {d : PyData} (h : T8 d) : d ≠ .none := fun e => by
  rw [e] at h
  cases h
section
variable {P : Program} {w : World} {K : PySem.W.Frag} {mg : Str → Option Value} {base : Heap}
theorem ok_chkO {f fC : Addr} {fd dC : FuncData} (F : Fun K "_check_outputs" "_check_outputs" sChkO f fd) (M : Blt mg) (gE : mg "enumerate" = none) (GC : FnOk P w K mg base CX0 3 fC dC ["value"] (spB K callB)) (kC : PySem.W.keepIn K (.ref fC) = true) (bC : Binds K dC ["value"] []) (gC : mg "is_call" = some (.ref fC)) : FnOk P w K mg base CX0 4 f fd ["outputs"] (spChkO K) := by
  refine F.ok scChkO (fun vs H Q E h => ?_) (fun cdv A outer s H vs Q E hr h => ?_)
  · obtain ⟨a, us, ds, rfl, _⟩ := h
    rfl
  · obtain ⟨a, us, ds, rfl, hA, hd, ok, l1, q⟩ := h
    have lu := dpA_len hd
    refine ⟨_, pss_cons (ps_if (pt_not (pt_val (pe_callB call_isiT (by rfl) M.isinstance (by decide +kernel) (pa_cons (pv 0) (pa_cons (pe_tup (pa_cons (pe_bltn (v := .ty "list") (by rfl) M.list (by decide +kernel) rfl) (pa_cons (pe_bltn (v := .ty "tuple") (by rfl) M.tuple (by decide +kernel) rfl) pa_nil))) pa_nil)))))
        (pss_one ps_dead) pss_nil)
      (pss_one (ps_for PassesOwn.never rfl (EnT.pi_enumA (by rfl) gE (pa_cons (pv 0) pa_nil)) (pg_tup (by rfl) (pgs_cons (pg_name (i := 1) scChkO.nd rfl (.inl rfl)) (pgs_cons (pg_name (i := 2) scChkO.nd rfl (.inl rfl)) pgs_nil)))
        (pss_cons (ps_if (PW.pt (pw_or (pt_not (pt_val (pe_callB call_isi (by rfl) M.isinstance (by decide +kernel) (pa_cons (pv 2) (pa_cons (pe_bltn (v := .ty "tuple") (by rfl) M.tuple (by decide +kernel) rfl) pa_nil)))))
            (pw_or1 (pt_cmpR op_ne (pe_callB call_len_seq (by rfl) M.len PySem.boot_len (pa_cons (pv 2) pa_nil)) pe_int (nomark _))))) (pss_one ps_dead) pss_nil)
        (pss_one (ps_if (PW.pt (pw_or (pt_not (pt_val (pe_call GC hr (by rfl) gC kC bC .nil pass0 (pa_cons (pe_ix ix_tup (pv 2) pe_int (fun _ _ => rfl)) pa_nil))))
            (pw_or1 (pt_not (pt_val (pe_callB call_isi (by rfl) M.isinstance (by decide +kernel) (pa_cons (pe_ix ix_tup (pv 2) pe_int (fun _ _ => rfl)) (pa_cons (pe_bltn (v := .ty "bool") (by rfl) M.bool (by decide +kernel) rfl) pa_nil)))))))) (pss_one ps_dead) pss_nil))))), ?_⟩
    refine ⟨_, rfl, (by show 2 ≤ sizeLine; decide), fun tp np => ?_⟩
    have s0 : Same H (upd H tp (HO.tup [.ty "list", .ty "tuple"])) := same_upd np
    have tcs : Paired ClsV [V.ty "list", V.ty "tuple"] [Value.type "list", Value.type "tuple"] := .cons (.ty "list") (.cons (.ty "tuple") .nil)
    have ty : ∃ d, TyX K (upd H tp (HO.tup [.ty "list", .ty "tuple"])) (.ref a) (.type (kind d)) ∧ isSeq d = true := by
      rcases hA with hA | hA
      · exact ⟨.list ds, dp_ty (dp_same s0 (.lst hA hd)), rfl⟩
      · exact ⟨.tuple ds, dp_ty (dp_same s0 (.tup hA hd)), rfl⟩
    obtain ⟨d, ty, isq⟩ := ty
    have kt := kit_seq K d
    rw [isq] at kt
    refine ⟨_, tp, _, _, _, _, rfl, upd_same, tcs, ty, kt, _, rfl, iteF ?_⟩
    generalize upd H tp (HO.tup [.ty "list", .ty "tuple"]) = H0 at s0 ⊢
    refine ⟨.ref a, rfl, a, us, rfl, ?_⟩
    obtain ⟨Pv, hPv⟩ : ∃ Pv : Nat → L2.St → Hp → Prop, Pv = fun j σ H' => ∃ z1 z2, σ = [some (.ref a), z1, z2] ∧ Same H H' := ⟨_, rfl⟩
    have h0 : Pv 0 [some (.ref a), none, none] H0 := by
      subst hPv
      exact ⟨_, _, rfl, s0⟩
    have hA0 : SqA K H0 a us := hA.same s0
    rcases hA with hA | hA
    case' inl => refine .inl ⟨s0.seq hA, ?_⟩; refine for_it (walk_enum (K := K) (a := a) (xs := us)) Pv h0 (fun j σ H' _ pr => by subst hPv; obtain ⟨_, _, _, s⟩ := pr; exact s.seq hA) (fun j x σ H2 H3 hj pr y => ?_) (fun σ H2 pr => ?_)
    case' inr => refine .inr ⟨same_sqT s0 hA, ?_⟩; refine for_it (EnT.walk_enumT (K := K) (a := a) (xs := us)) Pv h0 (fun j σ H' _ pr => by subst hPv; obtain ⟨_, _, _, s⟩ := pr; exact same_sqT s hA) (fun j x σ H2 H3 hj pr y => ?_) (fun σ H2 pr => ?_)
    all_goals subst hPv
    case' inl.refine_1 | inr.refine_1 =>
      obtain ⟨z1, z2, rfl, s2⟩ := pr
      obtain ⟨T, y0, x0, rfl, nT, rfl, ey, hx⟩ := y
      cases ey
      obtain ⟨d2, hdi, hv⟩ := dpA_at hd hx
      have sT : Same H2 (upd H2 T (.tup [.int (j : Nat), x0])) := same_upd nT
      have s3 := s2.trans sT
      obtain ⟨c, b, rfl, hc⟩ := outB_at (ok.ok d2 (List.mem_of_getElem? hdi))
      have zc : szD c = true := szDs_get (szD_tup (szDs_get ok.sz hdi)) (i := 0) rfl
      have hv3 := dp_same s3 hv
      refine ⟨T, _, rfl, .inl (.inl upd_same), rfl, _, _, rfl, _, _, rfl, rfl, ?_⟩
      generalize upd H2 T (.tup [.int (j : Nat), x0]) = H3 at sT s3 hv3 ⊢
      cases hv with
      | @tup e xs _ hs ha =>
      obtain ⟨x1, x2, rfl, hy1, hy2⟩ := dp_pair ha
      cases hy2
      refine ⟨_, rfl, _, .ty "tuple", _, _, _, rfl, .ty "tuple", dp_ty hv3, kit_tup K _, _, rfl, iteF ⟨_, rfl, e, _, rfl, .inr (same_sqT s3 hs), rfl, _, rfl, iteF' (by rfl) ?_⟩⟩
      refine ⟨_, rfl, e, _, 0, x1, rfl, rfl, same_sqT s3 hs, rfl, x1, c, rfl, dp_same s3 hy1, zc, fun H4 s4 => ⟨_, rfl, ?_⟩⟩
      rw [hc]
      refine iteF ⟨_, rfl, e, _, 1, .bl b, rfl, rfl, same_sqT (s3.trans s4) hs, rfl, .bl b, .ty "bool", _, _, _, rfl, .ty "bool", dp_ty (.bl b), kit_bool K (.bool b), _, rfl, iteF ?_⟩
      exact ⟨_, _, rfl, s3.trans s4⟩
    all_goals
      obtain ⟨z1, z2, rfl, s2⟩ := pr
      exact q H2 s2
end
theorem q_te {te : TE} {tz : TS} {D : Ends} {σ : L2.St} {H : Hp} {i : Nat} (h : te σ H fun v H' => tz D (σ.set i (some v)) H') : tSeq (tAsg te (gName i)) tz D σ H := h
theorem q_if {c : TT} {tt te tz : TS} {D : Ends} {σ : L2.St} {H : Hp} (h : c σ H fun b H' => if b = true then tt { D with nx := tz D } σ H' else te { D with nx := tz D } σ H') : tSeq (tIfS c tt te) tz D σ H := h
theorem q_drop {te : TE} {tz : TS} {D : Ends} {σ : L2.St} {H : Hp} (h : te σ H fun _ H' => tz D σ H') : tSeq (tDrop te) tz D σ H := h
theorem q_fldV {K : PySem.W.Frag} {a C dx : Addr} {fs : List (Str × V)} {f : Str} {i : Nat} {v : V} {tz : TS} {D : Ends} {σ : L2.St} {H H0 : Hp} (at0 : σ[0]? = some (some (V.ref a))) (ati : σ[i]? = some (some v)) (e : H a = some (.ins C dx fs)) (s0 : Same H0 H) (n0 : H0 a = none) (cl : Cls K C) (no : NoAttr K C f) (few : fs.length < 1000)
    (k : ∀ G, Same H0 G → G a = some (.ins C dx (putF f v fs)) → (∀ l o, l ≠ a → H l = some o → G l = some o) → tz D σ G) : tSeq (sFld K (tVar 0) (tVar i) f) tz D σ H :=
  ⟨v, ati, .ref a, at0, a, C, dx, fs, rfl, e, cl, no, few, k _ (same_updN s0 n0) upd_same (fun l o n h => by rw [upd_ne n]; exact h)⟩
theorem q_fldTup {K : PySem.W.Frag} {a C dx p : Addr} {fs : List (Str × V)} {f : Str} {i : Nat} {xs : List V} {tz : TS} {D : Ends} {σ : L2.St} {H H0 : Hp} (at0 : σ[0]? = some (some (V.ref a))) (ati : σ[i]? = some (some (V.ref p))) (e : H a = some (.ins C dx fs)) (s0 : Same H0 H) (n0 : H0 a = none) (hs : SqL K H p xs ∨ SqT K H0 p xs) (cl : Cls K C) (no : NoAttr K C f) (few : fs.length < 1000)
    (k : ∀ G t, Same H0 G → G a = some (.ins C dx (putF f (.ref t) fs)) → (∀ l o, l ≠ a → H l = some o → G l = some o) → SqT K G t xs → (∀ u ys, SqT K H u ys → SqT K G u ys) → tz D σ G) : tSeq (sFld K (tVar 0) (tCB (fun xs H Q => ∃ p ys, xs = [V.ref p] ∧ ((SqL K H p ys ∧ ∀ l, H l = none → Q (V.ref l) (upd H l (.tup ys))) ∨ (SqT K H p ys ∧ Q (V.ref p) H))) (tCons (tVar i) tNil)) f) tz D σ H := by
  have keep : ∀ (G : Hp), (∀ l o, l ≠ a → H l = some o → G l = some o) → ∀ u ys, SqT K H u ys → SqT K G u ys := fun G g u ys h => by
    rcases h with (h | ⟨o, h⟩) | h
    · exact .inl (.inl (g _ _ (fun q => by rw [q, e] at h; cases h) h))
    · exact .inl (.inr ⟨o, g _ _ (fun q => by rw [q, e] at h; cases h) h⟩)
    · exact .inr h
  refine ⟨.ref p, ati, p, xs, rfl, ?_⟩
  rcases hs with hs | hs
  · refine .inl ⟨hs, fun l nl => ⟨.ref a, at0, a, C, dx, fs, rfl, same_upd nl _ _ e, cl, no, few, ?_⟩⟩
    have ne : l ≠ a := fun q => by rw [q, e] at nl; cases nl
    have g : ∀ b o, b ≠ a → H b = some o → (upd (upd H l (.tup xs)) a (.ins C dx (putF f (.ref l) fs))) b = some o := fun b o n h => by
      rw [upd_ne n]
      exact same_upd nl _ _ h
    exact k _ _ (same_updN (s0.trans (same_upd nl)) n0) upd_same g (.inl (.inl (by rw [upd_ne ne]; exact upd_same))) (keep _ g)
  · have g : ∀ b o, b ≠ a → H b = some o → (upd H a (.ins C dx (putF f (.ref p) fs))) b = some o := fun b o n h => by
      rw [upd_ne n]
      exact h
    have s1 : Same H0 (upd H a (.ins C dx (putF f (.ref p) fs))) := same_updN s0 n0
    exact .inr ⟨same_sqT s0 hs, .ref a, at0, a, C, dx, fs, rfl, e, cl, no, few, k _ _ s1 upd_same g (same_sqT s1 hs) (keep _ g)⟩
theorem q_last {ts : TS} {D : Ends} {σ : L2.St} {H : Hp} (h : tSeq ts tNext D σ H) : ts D σ H := h
theorem atoms_te {K : PySem.W.Frag} {H H0 : Hp} {σ : L2.St} {vc : V} {dc : PyData} (at1 : σ[1]? = some (some vc)) (s0 : Same H0 H) (hc : Dp K H0 vc dc) (okc : CondOk dc) (l8 : (callsF 8 dc).length ≤ 8) {Q : VK} (q : ∀ l as H1, Same H H1 → H l = none → H1 l = some (.lst as) → DpAll K H0 as (condCalls dc) → Q (.ref l) H1) :
    tIf (tB (tIsN (tVar 1))) (tLst tNil) (tCall (spCI K) [] E0 (tCons (tVar 1) tNil)) σ H Q := by
  refine ⟨vc, at1, _, rfl, ?_⟩
  rw [none_is hc]
  rcases okc with rfl | ⟨h8, z8⟩
  · exact iteT ⟨Nat.zero_le _, fun p np => q p [] _ (same_upd np) np upd_same .nil⟩
  · refine iteF' ?_ ⟨vc, at1, vc, dc, H0, rfl, s0, hc, h8, l8, z8, fun p xs H' s' np ep hx => q p xs H' s' np ep hx⟩
    cases dc <;> first | rfl | exact absurd rfl (t8_none h8)
theorem outs_lc {K : PySem.W.Frag} {H H0 : Hp} {σ : L2.St} {o : Addr} {i j k : Nat} {us : List V} {ods : List PyData} (ati : (wipe σ [j, k])[i]? = some (some (.ref o))) (len : True) (s0 : Same H0 H) (hA : SqA K H0 o us) (hd : DpAll K H0 us ods) (oko : OutsOk ods) (l8 : ods.length ≤ 100)
    (hget : ∀ x y, (((wipe σ [j, k]).set j (some x)).set k (some y))[j]? = some (some x)) (hw : ∀ x y, wipe (((wipe σ [j, k]).set j (some x)).set k (some y)) [j, k] = wipe σ [j, k]) {Q : VK} (q : ∀ D acc H1, Same H H1 → H D = none → H1 D = some (.lst acc) → DpAll K H0 acc (ods.map fstD) → Q (.ref D) H1) (ati2 : σ[i]? = some (some (.ref o))) :
    tLc (iSeqA K (tVar i)) (gTup K 2 (gCons (gName j) (gCons (gName k) gNil))) tYes (tVar j) [j, k] σ H Q := by
  have lu := dpA_len hd
  refine ⟨.ref o, ati2, o, rfl, ?_⟩
  rcases hA with hA | hA
  case' inl => refine .inl ⟨⟨_, s0.seq hA⟩, fun D nD => ?_⟩; refine walk_gen (walk_list (K := K) (a := o) (xs := us)) (fun n H2 => Same H H2 ∧ ∃ acc, H2 D = some (.lst acc) ∧ DpAll K H0 acc ((ods.take n).map fstD)) ⟨same_upd nD, [], upd_same, .nil⟩ (fun _ H' _ p => (s0.trans p.1).seq hA) (fun n x H2 H3 hi p y => ?_) (fun H2 p => ?_)
  case' inr => refine .inr ⟨⟨_, same_sqT s0 hA⟩, fun D nD => ?_⟩; refine walk_gen (walk_tup (K := K) (a := o) (xs := us)) (fun n H2 => Same H H2 ∧ ∃ acc, H2 D = some (.lst acc) ∧ DpAll K H0 acc ((ods.take n).map fstD)) ⟨same_upd nD, [], upd_same, .nil⟩ (fun _ H' _ p => same_sqT (s0.trans p.1) hA) (fun n x H2 H3 hi p y => ?_) (fun H2 p => ?_)
  case' inl.refine_1 | inr.refine_1 =>
    obtain ⟨s2, acc, eD, ha⟩ := p
    obtain ⟨rfl, hx⟩ := y
    obtain ⟨d, hdi, hv⟩ := dpA_at hd hx
    obtain ⟨c, b, rfl, hc⟩ := outB_at (oko.ok d (List.mem_of_getElem? hdi))
    cases hv with
    | @tup e xs _ hs ha2 =>
    obtain ⟨x1, x2, rfl, h1, h2⟩ := dp_pair ha2
    refine ⟨e, _, rfl, same_sqT (s0.trans s2) hs, rfl, _, _, rfl, _, _, rfl, rfl, hw x1 x2, ?_⟩
    unfold tYes
    refine iteT ⟨x1, hget x1 x2, acc, eD, ?_, same_updN s2 nD, _, upd_same, ?_⟩
    · rw [dpA_len ha, List.length_map, List.length_take]
      exact Nat.lt_of_le_of_lt (show _ ≤ 100 by omega) (by decide)
    · rw [take_snoc hdi, List.map_append]
      exact dpA_app ha (.cons h1 .nil)
  all_goals
    obtain ⟨s2, acc, eD, ha⟩ := p
    rw [lu, List.take_length] at ha
    exact q D acc H2 s2 nD eD ha
section
variable {P : Program} {w : World} {K : PySem.W.Frag} {mg : Str → Option Value} {base : Heap}
theorem ok_stI {CS f fT fK fI aD : Addr} {fd dT dK dI : FuncData} (F : FunD K "__init__" "Statement.__init__" (defArgs sStI) (defBody sStI) (defScope sStI) [.ref aD] [] f fd) (M : Blt mg) (SC : StC K CS) (T8' : CallTxt mg)
    (GT : FnOk P w K mg base CX0 13 fT dT ["value"] (spB K (treeB 8))) (kT : PySem.W.keepIn K (.ref fT) = true) (bT : Binds K dT ["value"] []) (gT : mg "is_tree" = some (.ref fT))
    (GK : FnOk P w K mg base CX0 4 fK dK ["outputs"] (spChkO K)) (kK : PySem.W.keepIn K (.ref fK) = true) (bK : Binds K dK ["outputs"] []) (gK : mg "_check_outputs" = some (.ref fK))
    (GI : FnOk P w K mg base CX0 2 fI dI ["tree"] (spCI K)) (kI : PySem.W.keepIn K (.ref fI) = true) (bI : Binds K dI ["tree"] []) (gI : mg "_calls_in" = some (.ref fI)) :
    FnOk P w K mg base CX0 14 f fd ["self", "condition", "outputs"] (spStI K CS) := by
  obtain ⟨t8, g8⟩ := T8'.most
  refine F.ok scStI (fun vs H Q E h => ?_) (fun cdv A outer s H vs Q E hr h => ?_)
  · obtain ⟨a, dx, o, vc, dc, us, ods, H0, rfl, _⟩ := h
    rfl
  · obtain ⟨a, dx, o, vc, dc, us, ods, H0, rfl, ea, s0, n0, hc, okc, zc, hA, hd, oko, l8, q⟩ := h
    refine ⟨_, pss_cons (ps_if (PW.pt (pw_and (pt_cmp (pc_notN (pv 1))) (pw_and1 (pt_not (pt_val (pe_call GT hr (by rfl) gT kT bT .nil pass0 (pa_cons (pv 1) pa_nil))))))) (pss_one ps_dead) pss_nil)
      (pss_cons (ps_expr (pe_call GK (hr.mono (by decide)) (by rfl) gK kK bK .nil pass0 (pa_cons (pv 2) pa_nil)))
      (pss_cons (ps_set (i := 3) scStI.nd rfl (.inl rfl) (pe_ifExp (pt_cmp (pc_isN (pv 1))) (pe_lst pa_nil) (pe_call GI (hr.mono (by decide)) (by rfl) gI kI bI .nil pass0 (pa_cons (pv 1) pa_nil))))
      (pss_cons (ps_set (i := 4) scStI.nd rfl (.inl rfl) (pe_op op_cat (pv 3) (pe_lc (own := [("call", 5), ("_", 6)]) (g := gTup K 2 (gCons (gName 5) (gCons (gName 6) gNil))) (wi := iSeqA K (tVar 2)) (tt := tYes) (te := tVar 5) (by rfl) scStI.nd (pi_seqA (pv 2)) (blkOk_by (own := [("call", 5), ("_", 6)]) (N := ["self", "condition", "outputs", "atoms", "calls", "call", "_"]) (sc := defScope sStI) (by decide +kernel))
          (fun _ _ _ _ _ => pg_tup (by rfl) (pgs_cons (pg_name (i := 5) scStI.nd rfl (Or.inl rfl)) (pgs_cons (pg_name (i := 6) scStI.nd rfl (Or.inl rfl)) pgs_nil))) (fun _ _ _ _ _ => pts_nil) (fun _ _ _ _ _ => pv 5))))
      (pss_cons (ps_if (pt_cmpR op_gt (pe_callB call_len_seq (by rfl) M.len PySem.boot_len (pa_cons (pv 4) pa_nil)) (pe_glob (v := .int 8) (by rfl) g8 ⟨_, rfl⟩) (nomark _)) (pss_one ps_dead) pss_nil)
      (pss_cons (ps_fld (pv 0) (pv 1) (by rfl))
      (pss_cons (ps_fld (pv 0) (pe_callTy call_tuple_of (by rfl) M.tuple (by decide +kernel) (pa_cons (pv 2) pa_nil)) (by rfl))
      (pss_cons (ps_fld (pv 0) (pe_callTy call_tuple_of (by rfl) M.tuple (by decide +kernel) (pa_cons (pv 3) pa_nil)) (by rfl))
      (pss_one (ps_fld (pv 0) (pe_callTy call_tuple_of (by rfl) M.tuple (by decide +kernel) (pa_cons (pv 4) pa_nil)) (by rfl)))))))))), ?_⟩
    have hc1 := dp_same s0 hc
    have nn := none_is hc
    have lu := dpA_len hd
    have lo : ods.length ≤ 8 := by
      unfold allCalls at l8
      rw [List.length_append, List.length_map] at l8
      omega
    have lcc : (callsF 8 dc).length ≤ 8 := by
      unfold allCalls condCalls at l8
      rw [List.length_append] at l8
      omega
    have s00 : Same H0 H := s0
    refine q_if ?_
    have c0 : ∀ R : Bool → Hp → Prop, (∀ H', Same H H' → R false H') → (tAnd (tB (tNotN (tVar 1))) (tNot (tB (tCall (spB K (treeB 8)) [] E0 (tCons (tVar 1) tNil))))) (L2.start ["self", "condition", "outputs", "atoms", "calls", "call", "_"] [.ref a, vc, .ref o]) H R := fun R r => by
      refine ⟨vc, rfl, _, rfl, ?_⟩
      rw [nn]
      rcases okc with rfl | ⟨h8, z8⟩
      · exact iteF (r H (Same.refl H))
      · refine iteT' ?_ ⟨vc, rfl, vc, dc, rfl, hc1, zc, fun H' s' => ⟨_, rfl, ?_⟩⟩
        · cases dc <;> first | rfl | exact absurd rfl (t8_none h8)
        · have h8' : treeB 8 dc = true := h8
          rw [h8']
          exact r H' s'
    refine c0 _ fun H1 s1 => iteF ?_
    dsimp only [tNext]
    refine q_drop ?_
    refine ⟨.ref o, rfl, o, us, ods, rfl, hA.same (s0.trans s1), dpA_same (s0.trans s1) hd, oko, by omega, fun H2 s2 => ?_⟩
    have t2 := (s0.trans s1).trans s2
    have ea2 := s2 _ _ (s1 _ _ ea)
    refine q_te ?_
    refine (atoms_te (dc := dc) rfl t2 hc okc lcc fun l as H3 s3 nl el has => ?_)
    have t3 := t2.trans s3
    have ea3 := s3 _ _ ea2
    refine q_te ?_
    refine ⟨.ref l, rfl, ?_⟩
    refine outs_lc (H0 := H0) (i := 2) rfl trivial t3 hA hd oko (by omega) (fun _ _ => rfl) (fun _ _ => rfl) (fun m acc H4 s4 nm em hm => ?_) rfl
    have t4 := t3.trans s4
    refine ⟨l, m, as, acc, rfl, rfl, s4 _ _ el, em, ?_, fun p np => ?_⟩
    · rw [dpA_len has, dpA_len hm, List.length_map]
      exact Nat.le_trans (show _ ≤ 16 by unfold condCalls; omega) (by decide)
    have s5 := same_upd (o := HO.lst (as ++ acc)) np
    have t5 := t4.trans s5
    have ea5 := s5 _ _ (s4 _ _ ea3)
    have el5 := s5 _ _ (s4 _ _ el)
    have ep : (upd H4 p (.lst (as ++ acc))) p = some (.lst (as ++ acc)) := upd_same
    have hcs : DpAll K H0 (as ++ acc) (allCalls dc ods) := dpA_app has hm
    generalize upd H4 p (.lst (as ++ acc)) = H5 at s5 t5 ea5 el5 ep ⊢
    have lcs : (as ++ acc).length ≤ 8 := by rw [dpA_len hcs]; exact l8
    refine q_if ?_
    refine ⟨.ref p, rfl, p, as ++ acc, rfl, .inl (.inl (.inl ep)), _, _, rfl, rfl, _, rfl, iteF' (decide_eq_false (by omega)) ?_⟩
    dsimp only [tNext]
    have npa : p ≠ a := fun e => by rw [e, ea5] at ep; cases ep
    have nla : l ≠ a := fun e => by rw [e, ea5] at el5; cases el5
    refine q_fldV rfl rfl ea5 t5 n0 SC.cl SC.n1 (by show 0 < 1000; decide) fun G1 g1 e1 k1 => ?_
    have hA1 : SqL K G1 o us ∨ SqT K H0 o us := hA.imp g1.seq id
    refine q_fldTup rfl rfl e1 g1 n0 hA1 SC.cl SC.n2 (by show 1 < 1000; decide) fun G2 to g2 e2 k2 h2 kk2 => ?_
    refine q_fldTup (xs := as) rfl rfl e2 g2 n0 (.inl (.inl (.inl (k2 _ _ nla (k1 _ _ nla el5))))) SC.cl SC.n3 (by show 2 < 1000; decide) fun G3 ta g3 e3 k3 h3 kk3 => ?_
    refine q_last ?_
    refine q_fldTup (xs := as ++ acc) rfl rfl e3 g3 n0 (.inl (.inl (.inl (k3 _ _ npa (k2 _ _ npa (k1 _ _ npa ep)))))) SC.cl SC.n4 (by show 3 < 1000; decide) fun G4 tc g4 e4 k4 h4 kk4 => ?_
    refine q G4 g4 ⟨dx, vc, to, ta, tc, us, as, as ++ acc, e4, dp_same g4 hc, ?_, dpA_same g4 hd, ?_, dpA_same g4 has, h4, dpA_same g4 hcs, okc, oko, l8⟩
    · exact kk4 _ _ (kk3 _ _ h2)
    · exact kk4 _ _ h3
end
/-! ### trees and outputs: no lists in them, of a form that == takes -/
theorem given_ok {d : PyData} (h : givenB d = true) : noL d = true ∧ d.canLay0 = true ∧ d.depth ≤ 0 ∧ szD d = true := by
  unfold givenB at h
  cases d with
  | int i => exact ⟨rfl, rfl, Nat.le_refl _, rfl⟩
  | str z =>
    have h2 : z = "x" ∨ z = "y" := of_decide_eq_true (show decide (z = "x" ∨ z = "y") = true from h)
    rcases h2 with rfl | rfl
    · exact ⟨rfl, by decide +kernel, Nat.le_refl _, by decide +kernel⟩
    · exact ⟨rfl, by decide +kernel, Nat.le_refl _, by decide +kernel⟩
  | _ => cases h
theorem szDs_of9 : ∀ {ds : List PyData}, (∀ d ∈ ds, szD d = true) → szDs ds = true
  | [], _ => rfl
  | d :: ds, h => by
    show (szD d && szDs ds) = true
    rw [h d List.mem_cons_self, szDs_of9 fun e m => h e (List.mem_cons_of_mem _ m)]
    rfl
theorem sz_tupof {ds : List PyData} (l : ds.length ≤ 1000) (h : ∀ d ∈ ds, szD d = true) : szD (.tuple ds) = true := by
  show (decide (ds.length ≤ 1000) && szDs ds) = true
  rw [decide_eq_true l, szDs_of9 h]
  rfl
theorem name_sz' {z : Str} (h : isName (.str z) = true) : szD (.str z) = true := by
  have h2 : (decide (1 ≤ (z.length : Int)) && decide ((z.length : Int) ≤ 8) && z.cps.toList.all lowCode) = true := h
  simp only [Bool.and_eq_true, decide_eq_true_eq] at h2
  exact decide_eq_true (by omega)
theorem isName_str {d : PyData} (h : isName d = true) : ∃ z, d = .str z := by
  cases d with
  | str z => exact ⟨z, rfl⟩
  | _ => cases h
theorem call_ok {d : PyData} (h : callB d = true) : noL d = true ∧ d.canLay0 = true ∧ d.depth ≤ 2 ∧ szD d = true := by
  obtain ⟨n, as, rfl, hn, l2, hg⟩ := call_shape h
  obtain ⟨z, rfl⟩ := isName_str hn
  have g := fun e m => given_ok (hg e m)
  refine ⟨?_, ?_, ?_, ?_⟩
  · show (true && (noLs as && true)) = true
    rw [noLs_of fun e m => (g e m).1]
    rfl
  · show (PyData.strOk z && (PyData.canLayAll0 as && true)) = true
    rw [name_ok hn, canLay_of fun t h => (g t h).2.1]
    rfl
  · have h1 := depth_of fun t h => (g t h).2.2.1
    show (max 0 (max (PyData.depthAll as + 1) 0)) + 1 ≤ _
    omega
  · refine sz_tupof (by show 2 ≤ 1000; decide) fun e m => ?_
    rcases List.mem_cons.mp m with rfl | m
    · exact name_sz' hn
    · rw [List.mem_singleton.mp m]
      exact sz_tupof (by omega) fun e m => (g e m).2.2.2
theorem val_ok {d : PyData} (h : isValue d = true) : noL d = true ∧ d.canLay0 = true ∧ d.depth ≤ 0 ∧ szD d = true := by
  cases d with
  | int i => exact ⟨rfl, rfl, Nat.le_refl _, rfl⟩
  | _ => cases h
theorem tree_ok : ∀ (f : Nat) {d : PyData}, treeB f d = true → noL d = true ∧ d.canLay0 = true ∧ d.depth ≤ 2 * f + 3 ∧ szD d = true
  | f, d, h => by
    obtain ⟨g, rfl, ⟨c, v, rfl, hc, hv⟩ | ⟨t, rfl, ht⟩ | ⟨w, ts, rfl, hw, l1, l8, hts⟩⟩ := tree_shape h
    · have k1 := call_ok hc
      have k2 := val_ok hv
      refine ⟨?_, ?_, ?_, ?_⟩
      · show (true && (noL c && (noL v && true))) = true
        rw [k1.1, k2.1]
        rfl
      · show (PyData.strOk "is" && (c.canLay0 && (v.canLay0 && true))) = true
        rw [k1.2.1, k2.2.1]
        decide +kernel
      · show (max 0 (max c.depth (max v.depth 0))) + 1 ≤ _
        have := k1.2.2.1
        have := k2.2.2.1
        omega
      · refine sz_tupof (by show 3 ≤ 1000; decide) fun e m => ?_
        simp only [List.mem_cons, List.not_mem_nil, or_false] at m
        rcases m with rfl | rfl | rfl
        · decide +kernel
        · exact k1.2.2.2
        · exact k2.2.2.2
    · have k1 := tree_ok g ht
      refine ⟨?_, ?_, ?_, ?_⟩
      · show (true && (noL t && true)) = true
        rw [k1.1]
        rfl
      · show (PyData.strOk "not" && (t.canLay0 && true)) = true
        rw [k1.2.1]
        decide +kernel
      · show (max 0 (max t.depth 0)) + 1 ≤ _
        have := k1.2.2.1
        omega
      · refine sz_tupof (by show 2 ≤ 1000; decide) fun e m => ?_
        simp only [List.mem_cons, List.not_mem_nil, or_false] at m
        rcases m with rfl | rfl
        · decide +kernel
        · exact k1.2.2.2
    · have k := fun t m => tree_ok g (hts t m)
      have ow : PyData.strOk w = true ∧ szD (.str w) = true := by rcases hw with rfl | rfl <;> exact ⟨by decide +kernel, by decide +kernel⟩
      refine ⟨?_, ?_, ?_, ?_⟩
      · show (true && (noLs ts && true)) = true
        rw [noLs_of fun t m => (k t m).1]
        rfl
      · show (PyData.strOk w && (PyData.canLayAll0 ts && true)) = true
        rw [ow.1, canLay_of fun t m => (k t m).2.1]
        rfl
      · have h1 := depth_of fun t m => (k t m).2.2.1
        show (max 0 (max (PyData.depthAll ts + 1) 0)) + 1 ≤ _
        omega
      · refine sz_tupof (by show 2 ≤ 1000; decide) fun e m => ?_
        rcases List.mem_cons.mp m with rfl | m
        · exact ow.2
        · rw [List.mem_singleton.mp m]
          exact sz_tupof (by omega) fun e m => (k e m).2.2.2
termination_by f => f
theorem cond_ok {d : PyData} (h : CondOk d) : noL d = true ∧ SeqAt.shaped d = true ∧ szD d = true := by
  rcases h with rfl | ⟨h, _⟩
  · exact ⟨rfl, by decide +kernel, rfl⟩
  · have k := tree_ok 8 h
    exact ⟨k.1, Bool.and_eq_true_iff.mpr ⟨k.2.1, decide_eq_true (by omega)⟩, k.2.2.2⟩
theorem out_ok {d : PyData} (h : outB d = true) : noL d = true ∧ d.canLay0 = true ∧ d.depth ≤ 3 ∧ szD d = true := by
  obtain ⟨c, b, rfl, hc⟩ := outB_at h
  have k1 := call_ok hc
  refine ⟨?_, ?_, ?_, ?_⟩
  · show (noL c && (true && true)) = true
    rw [k1.1]
    rfl
  · show (c.canLay0 && (true && true)) = true
    rw [k1.2.1]
    rfl
  · show (max c.depth (max 0 0)) + 1 ≤ _
    omega
  · refine sz_tupof (by show 2 ≤ 1000; decide) fun e m => ?_
    simp only [List.mem_cons, List.not_mem_nil, or_false] at m
    rcases m with rfl | rfl
    · exact k1.2.2.2
    · rfl
theorem shaped_of {ds : List PyData} (h : ∀ d ∈ ds, d.canLay0 = true ∧ d.depth ≤ 40) : SeqAt.shaped (.list ds) = true ∧ SeqAt.shaped (.tuple ds) = true := by
  have h1 := depth_of fun t m => (h t m).2
  have h2 := canLay_of fun t m => (h t m).1
  exact ⟨Bool.and_eq_true_iff.mpr ⟨h2, decide_eq_true (by show PyData.depthAll ds + 1 ≤ 64; omega)⟩, Bool.and_eq_true_iff.mpr ⟨h2, decide_eq_true (by show PyData.depthAll ds + 1 ≤ 64; omega)⟩⟩
theorem outs_ok {ds : List PyData} (h : OutsOk ds) : noLs ds = true ∧ SeqAt.shaped (.tuple ds) = true := by
  refine ⟨noLs_of fun d m => (out_ok (h.ok d m)).1, (shaped_of fun d m => ⟨(out_ok (h.ok d m)).2.1, ?_⟩).2⟩
  have := (out_ok (h.ok d m)).2.2.1
  omega
theorem calls_tree : ∀ (f : Nat) {d : PyData}, treeB f d = true → ∀ c ∈ callsF f d, callB c = true
  | f, d, h => by
    obtain ⟨g, rfl, ⟨c, v, rfl, hc, hv⟩ | ⟨t, rfl, ht⟩ | ⟨w, ts, rfl, hw, l1, l8, hts⟩⟩ := tree_shape h
    · intro e m
      have m2 : e ∈ [c] := m
      rw [List.mem_singleton.mp m2]
      exact hc
    · intro e m
      have m2 : e ∈ [t].flatMap (callsF g) := m
      rw [List.flatMap_singleton] at m2
      exact calls_tree g ht e m2
    · intro e m
      have m2 : e ∈ (branchesD (.tuple [.str w, .tuple ts])).flatMap (callsF g) := m
      rw [br_row hw] at m2
      obtain ⟨t, mt, me⟩ := List.mem_flatMap.mp m2
      exact calls_tree g (hts t mt) e me
termination_by f => f
theorem calls_ok {dc : PyData} {ods : List PyData} (hc : CondOk dc) (ho : OutsOk ods) : ∀ c ∈ allCalls dc ods, callB c = true := fun c m => by
  rcases List.mem_append.mp m with m | m
  · rcases hc with rfl | ⟨h, _⟩
    · cases m
    · exact calls_tree 8 h c m
  · obtain ⟨d, md, rfl⟩ := List.mem_map.mp m
    obtain ⟨c, b, rfl, hc⟩ := outB_at (ho.ok d md)
    exact hc
/-! ### the methods of a Statement -/
abbrev sStE : Stmt := inClass (topS 30) 1
theorem scStE : FnScope ["self", "other"] ["self", "other"] (defScope sStE) := ⟨rfl, rfl, rfl, by decide +kernel, rfl, by decide +kernel, by decide +kernel⟩
abbrev sStL : Stmt := inClass (topS 30) 2
theorem scStL : FnScope ["self"] ["self"] (defScope sStL) := ⟨rfl, rfl, rfl, by decide +kernel, rfl, by decide +kernel, by decide +kernel⟩
abbrev sStA : Stmt := inClass (topS 30) 3
theorem scStA : FnScope ["self"] ["self"] (defScope sStA) := ⟨rfl, rfl, rfl, by decide +kernel, rfl, by decide +kernel, by decide +kernel⟩
abbrev sStW : Stmt := inClass (topS 30) 8
theorem scStW : FnScope ["self", "call", "shown"] ["self", "call", "shown"] (defScope sStW) := ⟨rfl, rfl, rfl, by decide +kernel, rfl, by decide +kernel, by decide +kernel⟩
def NoKit (K : PySem.W.Frag) (C : Addr) : Prop := ∀ d : PyData, PySem.W.kitOne K (.type (kind d)) (.ref C) = some false
/-- what isinstance asks of a class -/
structure KitC (K : PySem.W.Frag) (C : Addr) : Prop where
  cl : Cls K C
  me : PySem.W.kitOne K (.ref C) (.ref C) = some true
  ca : PySem.W.findIn K (.ref C) "__class__" = some (some (.builtin "object.__class__"))
  cg : PySem.W.specialIn K (.builtin "object.__class__") "__get__" = some (some (.builtin "getset_descriptor.__get__"))
  ct : PySem.W.takesIn K (.builtin "object.__class__") = some true
  cm : PySem.W.mroIn K C (.type "object") = some true
  no : NoKit K C
def eqSt (dc : PyData) (ods : List PyData) (ec : PyData) (eds : List PyData) : Bool := PyData.eqv dc ec && PyData.eqv (.tuple ods) (.tuple eds)
def spStE (K : PySem.W.Frag) (CS : Addr) : Sp := fun vs H Q _ => ∃ (a : Addr) (y : V) (dc : PyData) (ods : List PyData), vs = [.ref a, y] ∧ StAt K H CS a dc ods ∧ ((∃ b ec eds, y = .ref b ∧ StAt K H CS b ec eds ∧ Q (.bl (eqSt dc ods ec eds)) H) ∨ ∃ g kvs, y = .ref g ∧ H g = some (.dK kvs) ∧ Q (.bl false) H)
def spStL (K : PySem.W.Frag) (CS : Addr) : Sp := fun vs H Q _ => ∃ (a : Addr) (dc : PyData) (ods : List PyData), vs = [.ref a] ∧ StAt K H CS a dc ods ∧ Q (.int ((allCalls dc ods).length : Nat)) H
def spStA (K : PySem.W.Frag) (CS : Addr) : Sp := fun vs H Q _ => ∃ (a : Addr) (dc : PyData) (ods : List PyData), vs = [.ref a] ∧ StAt K H CS a dc ods ∧ ∀ p xs, H p = none → DpAll K (upd H p (.lst xs)) xs (allCalls dc ods) → Q (.ref p) (upd H p (.lst xs))
def spStW (K : PySem.W.Frag) (CS : Addr) : Sp := fun vs H Q _ => ∃ (a : Addr) (vc : V) (bb : Bool) (c dc : PyData) (ods : List PyData), vs = [.ref a, vc, .bl bb] ∧ StAt K H CS a dc ods ∧ Dp K H vc c ∧ callB c = true ∧ (allCalls dc ods).length ≤ 7 ∧ ∀ b H', Same H H' → StAt K H' CS b dc (ods ++ [.tuple [c, .bool bb]]) → Q (.ref b) H'
section
variable {P : Program} {w : World} {K : PySem.W.Frag} {mg : Str → Option Value} {base : Heap}
theorem ok_stE {CS f : Addr} {fd : FuncData} (F : Fun K "__eq__" "Statement.__eq__" sStE f fd) (M : Blt mg) (KC : KitC K CS) (SC : StC K CS) (gS : mg "Statement" = some (.ref CS)) : FnOk P w K mg base CX0 1 f fd ["self", "other"] (spStE K CS) := by
  refine F.ok scStE (fun vs H Q E h => ?_) (fun cdv A outer s H vs Q E hr h => ?_)
  · obtain ⟨a, y, dc, ods, rfl, _⟩ := h
    rfl
  · obtain ⟨a, y, dc, ods, rfl, ⟨dx, vc, t, ta, tc, us, as, cs, e, h1, h2, h3, h4, h5, h6, h7, kc, ko, l8⟩, h⟩ := h
    refine ⟨_, pss_one (ps_ret (pe_and (pe_callB call_isi (by rfl) M.isinstance (by decide +kernel) (pa_cons (pv 1) (pa_cons (pe_glob (v := .ref CS) (by rfl) gS rfl) pa_nil)))
      (pe_and (pe_cmpR (op_eqD hr.units) (pe_fld (pv 0) (by rfl)) (pe_fld (pv 1) (by rfl)) (nomark _)) (pe_one (pe_cmpR (op_eqD hr.units) (pe_fld (pv 0) (by rfl)) (pe_fld (pv 1) (by rfl)) (nomark _)))))), ?_⟩
    rcases h with ⟨b, ec, eds, rfl, ⟨dx', vc', t', ta', tc', us', as', cs', e', g1, g2, g3, g4, g5, g6, g7, kc', ko', l8'⟩, q⟩ | ⟨g, kvs, rfl, eg, q⟩
    · unfold eqSt at q
      refine ⟨_, rfl, _, _, _, _, _, rfl, .own CS, .base (.ins e' KC.cl KC.ca KC.cg KC.ct KC.cm), KC.me, _, rfl, iteT ?_⟩
      refine ⟨_, rfl, a, CS, dx, _, _, rfl, e, KC.cl, SC.n1, rfl, _, rfl, b, CS, dx', _, _, rfl, e', KC.cl, SC.n1, rfl, dc, ec, h1, g1, (cond_ok kc).2.1, (cond_ok kc').2.1, _, rfl, ?_⟩
      cases x1 : PyData.eqv dc ec with
      | false => rw [x1] at q; exact iteF q
      | true =>
        rw [x1] at q
        exact iteT ⟨_, rfl, a, CS, dx, _, _, rfl, e, KC.cl, SC.n2, rfl, _, rfl, b, CS, dx', _, _, rfl, e', KC.cl, SC.n2, rfl, .tuple ods, .tuple eds, .tup h2 h3, .tup g2 g3, (outs_ok ko).2, (outs_ok ko').2, q⟩
    · exact ⟨_, rfl, _, _, _, _, _, rfl, .own CS, .base (.dK eg), KC.no (.dict []), _, rfl, iteF q⟩
theorem ok_stL {CS f : Addr} {fd : FuncData} (F : Fun K "__len__" "Statement.__len__" sStL f fd) (M : Blt mg) (SC : StC K CS) : FnOk P w K mg base CX0 1 f fd ["self"] (spStL K CS) := by
  refine F.ok scStL (fun vs H Q E h => ?_) (fun cdv A outer s H vs Q E hr h => ?_)
  · obtain ⟨a, dc, ods, rfl, _⟩ := h
    rfl
  · obtain ⟨a, dc, ods, rfl, ⟨dx, vc, t, ta, tc, us, as, cs, e, h1, h2, h3, h4, h5, h6, h7, kc, ko, l8⟩, q⟩ := h
    refine ⟨_, pss_one (ps_ret (pe_callB call_len_seq (by rfl) M.len PySem.boot_len (pa_cons (pe_fld (pv 0) (by rfl)) pa_nil))), ?_⟩
    refine ⟨_, rfl, a, CS, dx, _, _, rfl, e, SC.cl, SC.n4, rfl, tc, cs, rfl, .inr h6, ?_⟩
    rw [dpA_len h7]
    exact q
theorem ok_stA {CS f : Addr} {fd : FuncData} (F : Fun K "all_calls" "Statement.all_calls" sStA f fd) (M : Blt mg) (SC : StC K CS) : FnOk P w K mg base CX0 1 f fd ["self"] (spStA K CS) := by
  refine F.ok scStA (fun vs H Q E h => ?_) (fun cdv A outer s H vs Q E hr h => ?_)
  · obtain ⟨a, dc, ods, rfl, _⟩ := h
    rfl
  · obtain ⟨a, dc, ods, rfl, ⟨dx, vc, t, ta, tc, us, as, cs, e, h1, h2, h3, h4, h5, h6, h7, kc, ko, l8⟩, q⟩ := h
    refine ⟨_, pss_one (ps_ret (pe_callTy call_list_of (by rfl) M.list (by decide +kernel) (pa_cons (pe_fld (pv 0) (by rfl)) pa_nil))), ?_⟩
    exact ⟨_, rfl, a, CS, dx, _, _, rfl, e, SC.cl, SC.n4, rfl, tc, cs, rfl, .inr h6, fun p np => q p cs np (dpA_same (same_upd np) h7)⟩
end
theorem made_same9 {H : Hp} {x dx C : Addr} (nx : H x = none) (nd : H dx = none) : Same H (upd (upd H dx (.own x)) x (.ins C dx [])) := fun b o e => by
  rw [upd_ne (ne_of_none e nx), upd_ne (ne_of_none e nd)]
  exact e
structure StMk (P : Program) (w : World) (K : PySem.W.Frag) (mg : Str → Option Value) (base : Heap) (CS f : Addr) (fd : FuncData) : Prop where
  make : Mk K CS f
  ok : FnOk P w K mg base CX0 14 f fd ["self", "condition", "outputs"] (spStI K CS)
  gC : mg "Statement" = some (.ref CS)
  bi : Binds K fd ["self", "condition", "outputs"] []
theorem st_made {K : PySem.W.Frag} {CS o : Addr} {H : Hp} {x dx : Addr} {vc : V} {dc : PyData} {us : List V} {ods : List PyData} {Q : VK} {E : XK} (nx : H x = none) (nd : H dx = none) (hc : Dp K H vc dc) (okc : CondOk dc) (hA : SqA K H o us) (hd : DpAll K H us ods) (oko : OutsOk ods) (l8 : (allCalls dc ods).length ≤ 8)
    (q : ∀ H', Same H H' → StAt K H' CS x dc ods → Q (.ref x) H') : spStI K CS [.ref x, vc, .ref o] (upd (upd H dx (.own x)) x (.ins CS dx [])) (fun v H2 => v = .non ∧ Q (.ref x) H2) E :=
  ⟨x, dx, o, vc, dc, us, ods, H, rfl, upd_same, made_same9 nx nd, nx, hc, okc, (cond_ok okc).2.2, hA, hd, oko, l8, fun H' s h => ⟨rfl, q H' s h⟩⟩
theorem outs_snoc {ods : List PyData} {c : PyData} {b : Bool} (h : OutsOk ods) (hc : callB c = true) : OutsOk (ods ++ [.tuple [c, .bool b]]) where
  ok := fun d m => by
    rcases List.mem_append.mp m with m | m
    · exact h.ok d m
    · rw [List.mem_singleton.mp m]
      exact hc
  sz := szDs_of9 fun d m => by
    rcases List.mem_append.mp m with m | m
    · exact (out_ok (h.ok d m)).2.2.2
    · rw [List.mem_singleton.mp m]
      exact (out_ok (d := .tuple [c, .bool b]) hc).2.2.2
abbrev sStP : Stmt := inClass (topS 30) 5
theorem scStP : FnScope ["self", "numbers", "waiting", "tree"] ["self"] (defScope sStP) := ⟨rfl, rfl, rfl, by decide +kernel, rfl, by decide +kernel, by decide +kernel⟩
def spStP (K : PySem.W.Frag) (CS : Addr) : Sp := fun vs H Q _ => ∃ (a : Addr) (dc : PyData) (ods : List PyData), vs = [.ref a] ∧ StAt K H CS a dc ods ∧ ∀ p H', Same H H' → H p = none → H' p = some (.lst ((nodesF 8 dc).map fun n => V.int (n : Nat))) → Q (.ref p) H'
section
variable {P : Program} {w : World} {K : PySem.W.Frag} {mg : Str → Option Value} {base : Heap}
theorem ok_stW {CS f fI : Addr} {fd dI : FuncData} (F : Fun K "with_output" "Statement.with_output" sStW f fd) (SC : StC K CS) (SM : StMk P w K mg base CS fI dI) : FnOk P w K mg base CX0 16 f fd ["self", "call", "shown"] (spStW K CS) := by
  refine F.ok scStW (fun vs H Q E h => ?_) (fun cdv A outer s H vs Q E hr h => ?_)
  · obtain ⟨a, vc, bb, c, dc, ods, rfl, _⟩ := h
    rfl
  · obtain ⟨a, vc, bb, c, dc, ods, rfl, ⟨dx, v1, t, ta, tc, us, as, cs, e, h1, h2, h3, h4, h5, h6, h7, kc, ko, l8⟩, hv, hc, l7, q⟩ := h
    refine ⟨_, pss_one (ps_ret (pe_make (dvs := []) SM.make SM.ok hr (by rfl) SM.gC SM.bi .nil pass0 (pa_cons (pe_fld (pv 0) (by rfl)) (pa_cons (pe_op op_catA (pe_fld (pv 0) (by rfl)) (pe_tup (pa_cons (pe_tup (pa_cons (pv 1) (pa_cons (pv 2) pa_nil))) pa_nil))) pa_nil)))), ?_⟩
    have fin : ∀ (o : Addr) (H1 : Hp) (ys : List V), Same H H1 → SqT K H1 o ys → DpAll K H1 ys (ods ++ [.tuple [c, .bool bb]]) → ∀ x d, H1 x = none → H1 d = none → spStI K CS [.ref x, v1, .ref o] (upd (upd H1 d (.own x)) x (.ins CS d [])) (fun v H2 => v = .non ∧ Q (.ref x) H2) E0 := fun o H1 ys s1 ho hy x d nx nd => by
      refine st_made (Q := Q) nx nd (dp_same s1 h1) kc (.inr ho) hy (outs_snoc ko hc) ?_ fun H' s' hS => q x H' (s1.trans s') hS
      have : allCalls dc (ods ++ [.tuple [c, .bool bb]]) = allCalls dc ods ++ [c] := by
        unfold allCalls
        rw [List.map_append, ← List.append_assoc]
        rfl
      rw [this, List.length_append]
      exact Nat.succ_le_succ l7
    refine ⟨_, rfl, a, CS, dx, _, _, rfl, e, SC.cl, SC.n1, rfl, _, rfl, a, CS, dx, _, _, rfl, e, SC.cl, SC.n2, rfl, vc, rfl, .bl bb, rfl, (by show 2 ≤ sizeLine; decide), fun p np => ?_⟩
    have sp := same_upd (o := HO.tup [vc, .bl bb]) np
    have ep : (upd H p (.tup [vc, .bl bb])) p = some (.tup [vc, .bl bb]) := upd_same
    generalize upd H p (.tup [vc, .bl bb]) = H1 at sp ep ⊢
    refine ⟨(by show 1 ≤ sizeLine; decide), fun p2 np2 => ?_⟩
    have sp2 := same_upd (o := HO.tup [V.ref p]) np2
    have ep2 : (upd H1 p2 (.tup [V.ref p])) p2 = some (.tup [V.ref p]) := upd_same
    generalize upd H1 p2 (.tup [V.ref p]) = H2 at sp2 ep2 ⊢
    have t2 := sp.trans sp2
    have hnew : ∀ {H3 : Hp}, Same H2 H3 → Dp K H3 (.ref p) (.tuple [c, .bool bb]) := fun s3 => .tup (.inl (.inl (s3 _ _ (sp2 _ _ ep)))) (.cons (dp_same (t2.trans s3) hv) (.cons (.bl bb) .nil))
    have hlen : us.length ≤ 8 := by
      rw [dpA_len h3]
      unfold allCalls at l8
      rw [List.length_append, List.length_map] at l8
      omega
    refine ⟨t, p2, us, [.ref p], rfl, rfl, same_sqT t2 h2, .inl (.inl ep2), Nat.le_trans (show us.length + 1 ≤ 9 by omega) (by decide), fun e0 => ?_, fun _ e1 => absurd e1 (List.cons_ne_nil _ _), fun _ _ p3 np3 => ?_⟩
    · subst e0
      cases h3
      exact fun x d nx nd _ => fin p2 H2 [.ref p] t2 (.inl (.inl ep2)) (.cons (hnew (Same.refl _)) .nil) x d nx nd
    · have s3 := same_upd (o := HO.tup (us ++ [V.ref p])) np3
      exact fun x d nx nd _ => fin p3 _ (us ++ [.ref p]) (t2.trans s3) (.inl (.inl upd_same)) (dpA_app (dpA_same (t2.trans s3) h3) (.cons (hnew s3) .nil)) x d nx nd
theorem ok_stP {CS f fB : Addr} {fd dB : FuncData} (F : Fun K "parts" "Statement.parts" sStP f fd) (M : Blt mg) (SC : StC K CS) (GB : FnOk P w K mg base CX0 1 fB dB ["tree"] (spBr K)) (kB : PySem.W.keepIn K (.ref fB) = true) (bB : Binds K dB ["tree"] []) (gB : mg "_branches" = some (.ref fB)) : FnOk P w K mg base CX0 2 f fd ["self"] (spStP K CS) := by
  refine F.ok scStP (fun vs H Q E h => ?_) (fun cdv A outer s H vs Q E hr h => ?_)
  · obtain ⟨a, dc, ods, rfl, _⟩ := h
    rfl
  · obtain ⟨a, dc, ods, rfl, ⟨dx, v1, t, ta, tc, us, as, cs, e, h1, h2, h3, h4, h5, h6, h7, kc, ko, l8⟩, q⟩ := h
    refine ⟨_, pss_cons (ps_set (i := 1) scStP.nd rfl (.inl rfl) (pe_lst pa_nil)) (pss_cons (ps_set (i := 2) scStP.nd rfl (.inl rfl) (pe_ifExp (pt_cmp (pc_isN (pe_fld (pv 0) (by rfl)))) (pe_lst pa_nil) (pe_lst (pa_cons (pe_fld (pv 0) (by rfl)) pa_nil))))
      (pss_cons (ps_while PassesOwn.never (pt_truth (pv 2) (by intro _; rfl))
        (pss_cons (ps_set (i := 3) scStP.nd rfl (.inl rfl) (pe_bm0 PySem.F.plainAttrs_list PySem.F.slot_list_pop PySem.F.type_list_pop mt_pop (pv 2)))
        (pss_cons (ps_if (pt_cmpR op_in_seq (pe_ix ix_tup (pv 3) pe_int (fun _ _ => rfl)) (pe_tup (pa_cons pe_str (pa_cons pe_str pa_nil))) (by rfl)) (pss_one (ps_expr (pe_bm PySem.F.plainAttrs_list PySem.F.slot_list_append PySem.F.type_list_append mt_append (pv 1) (pa_cons (pe_callB call_len_seq (by rfl) M.len PySem.boot_len (pa_cons (pe_ix ix_tup (pv 3) pe_int (fun _ _ => rfl)) pa_nil)) pa_nil)))) pss_nil)
        (pss_one (ps_expr (pe_bm PySem.F.plainAttrs_list PySem.F.slot_list_extend PySem.F.type_list_extend mt_extend (pv 2) (pa_cons (pe_revL (pe_call GB hr (by rfl) gB kB bB .nil pass0 (pa_cons (pv 3) pa_nil))) pa_nil)))))))
      (pss_one (ps_ret (pv 1))))), ?_⟩
    refine ⟨Nat.zero_le _, fun cl nc => ?_⟩
    have s0 := same_upd (o := HO.lst []) nc
    have e0 : (upd H cl (.lst [])) cl = some (.lst []) := upd_same
    generalize upd H cl (.lst []) = H0 at s0 e0 ⊢
    dsimp only [gName, List.set]
    have wait : ∀ Q' : VK, (∀ wl ws todo H1, Same H0 H1 → H0 wl = none → H1 wl = some (.lst ws) → DpAll K H ws todo → (∀ t ∈ todo, T8 t) → todo.reverse.flatMap (nodesF 8) = nodesF 8 dc → left8 todo ≤ 1000 → Q' (.ref wl) H1) → tIf (tB (tIsN (tFld K (tVar 0) "condition"))) (tLst tNil) (tLst (tCons (tFld K (tVar 0) "condition") tNil)) [some (.ref a), some (.ref cl), none, none] H0 Q' := fun Q' q' => by
      refine ⟨.ref a, rfl, a, CS, dx, _, _, rfl, s0 _ _ e, SC.cl, SC.n1, rfl, _, rfl, ?_⟩
      rw [none_is h1]
      rcases kc with rfl | ⟨h8, z8⟩
      · exact iteT ⟨Nat.zero_le _, fun p np => q' p [] [] _ (same_upd np) np upd_same .nil (fun t m => by cases m) rfl (by decide)⟩
      · refine iteF' ?_ ⟨.ref a, rfl, a, CS, dx, _, _, rfl, s0 _ _ e, SC.cl, SC.n1, rfl, (by show 1 ≤ sizeLine; decide), fun p np => q' p [v1] [dc] _ (same_upd np) np upd_same (.cons h1 .nil) (fun t m => by rw [List.mem_singleton] at m; exact m ▸ h8) (by simp) (by show sizeF 8 dc + 0 ≤ 1000; omega)⟩
        cases dc <;> first | rfl | exact absurd rfl (t8_none h8)
    refine q_te ?_
    refine wait _ fun wl ws todo H1 s1 nw ew hws ht8 eqn lm => ?_
    have ec1 := s1 _ _ e0
    have nwH : H wl = none := s0.free nw
    have ncw : cl ≠ wl := fun q => by rw [← q, e0] at nw; cases nw
    have t1 := s0.trans s1
    refine q_w ⟨fun m σ H' => ∃ (ns : List Nat) (ws : List V) (todo : List PyData) (z3 : Option V), σ = [some (.ref a), some (.ref cl), some (.ref wl), z3] ∧ Same H H' ∧ H' cl = some (.lst (ns.map fun n => V.int (n : Nat))) ∧ H' wl = some (.lst ws) ∧ DpAll K H ws todo ∧ (∀ t ∈ todo, T8 t) ∧ ns ++ todo.reverse.flatMap (nodesF 8) = nodesF 8 dc ∧ m = left8 todo ∧ ns.length + m ≤ 1000,
      ⟨left8 todo, [], ws, todo, none, rfl, t1, ec1, ew, hws, ht8, eqn, rfl, by show 0 + _ ≤ _; omega⟩, fun m σ H' hw => ?_⟩
    clear ht8 eqn lm hws ew ec1 t1 s1
    obtain ⟨ns, ws, todo, z3, rfl, sH, ec, ew, hw, ht8, eq, em, lm⟩ := hw
    have lt := left8_len ht8
    refine ⟨.ref wl, rfl, _, .inl ⟨ws, .inl (.inl ew), rfl⟩, ?_⟩
    rcases List.eq_nil_or_concat todo with rfl | ⟨init, t, rfl⟩
    · cases hw
      refine iteF' rfl ?_
      rw [List.reverse_nil, List.flatMap_nil, List.append_nil] at eq
      exact ⟨.ref cl, rfl, q cl H' sH nc (eq ▸ ec)⟩
    · rw [List.concat_eq_append] at *
      obtain ⟨ys, y, rfl, hi, hy⟩ := dpA_snoc hw
      refine iteT' (by simp) ?_
      have mem : T8 t := ht8 t (by simp)
      have inH : ∀ u ∈ init, T8 u := fun u mu => ht8 u (by simp [mu])
      rw [left8_snoc] at em lt
      have sp : Same H (upd H' wl (.lst ys)) := same_updN sH nwH
      have ep : (upd H' wl (.lst ys)) wl = some (.lst ys) := upd_same
      have ec2 : (upd H' wl (.lst ys)) cl = some (.lst (ns.map fun n => V.int (n : Nat))) := by rw [upd_ne ncw]; exact ec
      refine ⟨_, fun _ _ h => h, .ref wl, rfl, .inl ⟨rfl, _, .inl (.inl ew)⟩, wl, ys ++ [y], y, rfl, rfl, ew, last_app.1, ?_⟩
      rw [last_app.2]
      generalize upd H' wl (.lst ys) = H2 at sp ep ec2 ⊢
      dsimp only [gName, List.set]
      have brl := (branch_tree (f := 7) mem).1
      have brt := t8_br mem
      have sz := t8_size mem
      have la := left8_app init (branchesD t)
      have step : ∀ (ns2 : List Nat), ns2.length ≤ ns.length + 1 → ns2 ++ (branchesD t ++ init.reverse).flatMap (nodesF 8) = nodesF 8 dc →
          ∀ H5 (bs : List V), Same H H5 → H5 cl = some (.lst (ns2.map fun n => V.int (n : Nat))) → H5 wl = some (.lst (ys ++ bs.reverse)) → DpAll K H bs (branchesD t) →
            ∃ m', m' < m ∧ ∃ ns ws todo z3, [some (V.ref a), some (V.ref cl), some (.ref wl), some y] = [some (.ref a), some (.ref cl), some (.ref wl), z3] ∧ Same H H5 ∧ H5 cl = some (.lst (List.map (fun n : Nat => V.int (n : Nat)) ns)) ∧ H5 wl = some (.lst ws) ∧ DpAll K H ws todo ∧ (∀ t ∈ todo, T8 t) ∧ ns ++ todo.reverse.flatMap (nodesF 8) = nodesF 8 dc ∧ m' = left8 todo ∧ ns.length + m' ≤ 1000 := fun ns2 ln q3 H5 bs s5 e5 w5 hb => by
        refine ⟨left8 (init ++ (branchesD t).reverse), by omega, ns2, ys ++ bs.reverse, init ++ (branchesD t).reverse, some y, rfl, s5, e5, w5, dpA_app hi (dpA_rev hb), fun u mu => ?_, ?_, rfl, by omega⟩
        · rcases List.mem_append.mp mu with mu | mu
          · exact inH u mu
          · exact brt u (List.mem_reverse.mp mu)
        · rw [List.reverse_append, List.reverse_reverse]
          exact q3
      have roll : ∀ (ns2 : List Nat) (H3 : Hp), Same H H3 → H3 cl = some (.lst (ns2.map fun n => V.int (n : Nat))) → H3 wl = some (.lst ys) →
          ∀ (D : Ends), (∀ H5 (bs : List V), Same H H5 → H5 cl = some (.lst (ns2.map fun n => V.int (n : Nat))) → H5 wl = some (.lst (ys ++ bs.reverse)) → DpAll K H bs (branchesD t) → D.nx [some (.ref a), some (.ref cl), some (.ref wl), some y] H5) →
          tDrop (tBM K "list" rExtend (tVar 2) (tCons (tRevL K (tCall (spBr K) [] E0 (tCons (tVar 3) tNil))) tNil)) D [some (.ref a), some (.ref cl), some (.ref wl), some y] H3 := fun ns2 H3 s3 e3 w3 D r => by
        refine ⟨.ref wl, rfl, .inl ⟨rfl, _, .inl (.inl w3)⟩, y, rfl, y, t, H, rfl, s3, hy, mem, fun p bs H4 s4 np e4 hb => ⟨p, bs, rfl, .inl (.inl e4), fun p2 np2 => ?_⟩⟩
        have s6 := same_upd (o := HO.lst bs.reverse) np2
        refine ⟨wl, p2, ys, bs.reverse, rfl, rfl, s6 _ _ (s4 _ _ w3), upd_same, ?_, ?_⟩
        · rw [List.length_reverse, dpA_len hb, dpA_len hi]
          have : (init ++ [t]).length ≤ 1000 := by omega
          rw [List.length_append] at this
          exact Nat.le_trans (show init.length + (branchesD t).length ≤ 1008 by omega) (by decide)
        · refine r _ bs (same_updN ((s3.trans s4).trans s6) nwH) ?_ upd_same hb
          rw [upd_ne ncw]
          exact s6 _ _ (s4 _ _ e3)
      rw [List.reverse_append, List.reverse_singleton, List.singleton_append, List.flatMap_cons, t8_nodes mem, List.append_assoc, ← List.flatMap_append] at eq
      have hd : (∃ ea z rest ts b us, y = .ref ea ∧ SqT K H ea (.str z :: .ref b :: rest) ∧ (z = "and" ∨ z = "or") ∧ SqT K H b us ∧ us.length = ts ∧ headN t = [ts] ∧ ts ≤ 8) ∨ ∃ ea z rest, y = .ref ea ∧ SqT K H ea (.str z :: rest) ∧ ¬(z = "and" ∨ z = "or") ∧ headN t = [] := by
        obtain ⟨g, _, ⟨c, u, rfl, hc5, hu⟩ | ⟨t, rfl, h7⟩ | ⟨wd, ts, rfl, hwd, l1, l8, hts⟩⟩ := tree_shape mem
        · cases hy with
          | @tup ea xs _ hs ha =>
          cases ha with
          | @cons x0 xr _ _ h0 hr0 =>
          cases h0
          refine .inr ⟨ea, _, _, rfl, hs, by decide, ?_⟩
          cases c <;> rfl
        · cases hy with
          | @tup ea xs _ hs ha =>
          cases ha with
          | @cons x0 xr _ _ h0 hr0 =>
          cases h0
          refine .inr ⟨ea, _, _, rfl, hs, by decide, ?_⟩
          cases t <;> rfl
        · cases hy with
          | @tup ea xs _ hs ha =>
          cases ha with
          | @cons x0 xr _ _ h0 hr0 =>
          cases h0
          cases hr0 with
          | @cons x1 xr2 _ _ h1 hr1 =>
          cases h1 with
          | @tup b us _ hs2 ha2 =>
          refine .inl ⟨ea, wd, _, ts.length, b, us, rfl, hs, hwd, hs2, dpA_len ha2, ?_, l8⟩
          show (if wd = "and" ∨ wd = "or" then [ts.length] else []) = _
          rw [if_pos hwd]
      rcases hd with ⟨ea, z, rest, ts, b, us, rfl, hs, hz, hs2, lus, hh, l8⟩ | ⟨ea, z, rest, rfl, hs, hz, hh⟩
      · refine ⟨_, rfl, ea, _, 0, .str z, rfl, rfl, same_sqT sp hs, atI_nat (j := 0) rfl, (by show 2 ≤ sizeLine; decide), fun tp np => ?_⟩
        have s7 := same_upd (o := HO.tup [V.str "and", V.str "or"]) np
        have e7 : (upd H2 tp (.tup [V.str "and", V.str "or"])) tp = some (.tup [V.str "and", V.str "or"]) := upd_same
        generalize upd H2 tp (.tup [V.str "and", V.str "or"]) = H7 at s7 e7 ⊢
        have sp7 := sp.trans s7
        refine ⟨tp, _, rfl, .inr (.inl (.inl e7)), rfl, by decide, ?_⟩
        rw [in_two, decide_eq_true hz]
        refine ⟨_, rfl, iteT ?_⟩
        refine ⟨.ref cl, rfl, .inl ⟨rfl, _, .inl (.inl (s7 _ _ ec2))⟩, .ref ea, rfl, ea, _, 1, .ref b, rfl, rfl, same_sqT sp7 hs, atI_nat (j := 1) rfl, b, us, rfl, .inr (same_sqT sp7 hs2), cl, _, _, rfl, rfl, s7 _ _ ec2, ?_, ?_⟩
        · rw [List.length_map]
          exact Nat.lt_of_le_of_lt (show _ ≤ 1000 by omega) (by decide)
        · have en : (ns.map fun n => V.int (n : Nat)) ++ [V.int (us.length : Nat)] = (ns ++ [ts]).map fun n => V.int (n : Nat) := by
            rw [List.map_append, lus]
            rfl
          rw [en]
          refine roll (ns ++ [ts]) _ (same_updN sp7 nc) upd_same (by rw [upd_ne ncw.symm]; exact s7 _ _ ep) _ ?_
          exact step (ns ++ [ts]) (by rw [List.length_append]; exact Nat.le_refl _) (by rw [hh] at eq; rw [List.append_assoc]; exact eq)
      · refine ⟨_, rfl, ea, _, 0, .str z, rfl, rfl, same_sqT sp hs, atI_nat (j := 0) rfl, (by show 2 ≤ sizeLine; decide), fun tp np => ?_⟩
        have s7 := same_upd (o := HO.tup [V.str "and", V.str "or"]) np
        have e7 : (upd H2 tp (.tup [V.str "and", V.str "or"])) tp = some (.tup [V.str "and", V.str "or"]) := upd_same
        generalize upd H2 tp (.tup [V.str "and", V.str "or"]) = H7 at s7 e7 ⊢
        have sp7 := sp.trans s7
        refine ⟨tp, _, rfl, .inr (.inl (.inl e7)), rfl, by decide, ?_⟩
        rw [in_two, decide_eq_false hz]
        refine ⟨_, rfl, iteF ?_⟩
        refine roll ns H7 sp7 (s7 _ _ ec2) (s7 _ _ ep) _ ?_
        exact step ns (Nat.le_succ _) (by rw [hh] at eq; exact eq)
end
/-! ### the columns of a Statement -/
def isS (z : Str) : PyData → Bool
  | .str s => decide (s = z)
  | _ => false
def hasCol (z : Str) : PyData → Bool
  | .tuple [_, .tuple as] => as.any (isS z)
  | _ => false
def colsOf (cs : List PyData) : List Str := (["x", "y"] : List Str).filter fun z => cs.any (hasCol z)
theorem given_in {K : PySem.W.Frag} {H : Hp} (z : Str) : ∀ {us : List V} {as : List PyData}, DpAll K H us as → (∀ e ∈ as, givenB e = true) → us.all flatV = true ∧ inV (.str z) us = as.any (isS z)
  | [], [], _, _ => ⟨rfl, rfl⟩
  | u :: us, d :: as, h, g => by
    cases h with
    | cons h0 h1 =>
      obtain ⟨k1, k2⟩ := given_in z h1 fun e m => g e (List.mem_cons_of_mem _ m)
      have gd := g d List.mem_cons_self
      cases d with
      | int i =>
        cases h0
        exact ⟨k1, k2⟩
      | str s =>
        cases h0
        refine ⟨k1, ?_⟩
        show ((s == z) || inV (.str z) us) = (decide (s = z) || as.any (isS z))
        rw [k2]
        rfl
      | _ => cases gd
  | [], _ :: _, h, _ => by cases h
  | _ :: _, [], h, _ => by cases h
theorem tb_cb {r : List V → Hp → VK → Prop} {te : TE} {σ : L2.St} {H : Hp} {R : Bool → Hp → Prop} (h : te σ H fun v H1 => r [v] H1 fun x H2 => ∃ b, x = .bl b ∧ R b H2) : tB (tCB r (tCons te tNil)) σ H R := h
abbrev sStC : Stmt := inClass (topS 30) 6
theorem scStC : FnScope ["self", "column", "_", "given"] ["self"] (defScope sStC) := ⟨rfl, rfl, rfl, by decide +kernel, rfl, by decide +kernel, by decide +kernel⟩
def colScope : Scope := { kind := .function, names := [(".0", .local), ("column", .cell), ("any", .globalImplicit), ("self", .cell)], isGenerator := false, isCoroutine := false }
def spStC (K : PySem.W.Frag) (CS : Addr) : Sp := fun vs H Q _ => ∃ (a : Addr) (dc : PyData) (ods : List PyData), vs = [.ref a] ∧ StAt K H CS a dc ods ∧ ∀ p H', Same H H' → H p = none → H' p = some (.lst ((colsOf (allCalls dc ods)).map V.str)) → Q (.ref p) H'
section
variable {P : Program} {w : World} {K : PySem.W.Frag} {mg : Str → Option Value} {base : Heap}
theorem ok_stC {CS f : Addr} {fd : FuncData} (F : Fun K "columns" "Statement.columns" sStC f fd) (M : Blt mg) (gAny : mg "any" = none) (T : StTxt K mg) (SC : StC K CS) : FnOk P w K mg base CX0 1 f fd ["self"] (spStC K CS) := by
  obtain ⟨aC, oC, gC, lC, cC, dC', hC⟩ := T.cols
  refine F.ok scStC (fun vs H Q E h => ?_) (fun cdv A outer s H vs Q E hr h => ?_)
  · obtain ⟨a, dc, ods, rfl, _⟩ := h
    rfl
  · obtain ⟨a, dc, ods, rfl, hS, q⟩ := h
    obtain ⟨dx, v1, t, ta, tc, us, as, cs, e, h1, h2, h3, h4, h5, h6, h7, kc, ko, l8⟩ := id hS
    have hcs := calls_ok kc ko
    refine ⟨_, pss_one (ps_ret (pe_lc (own := [("column", 1)]) (g := gName 1) (wi := iTup K (tC (.ref aC)))
      (tt := tB (tCB (rAny K) (tCons (tLc (iTup K (tFld K (tVar 0) "_calls")) (gTup K 2 (gCons (gName 2) (gCons (gName 3) gNil))) tYes (tOp (rIn K false) (tVar 1) (tVar 3)) [2, 3]) tNil))) (te := tVar 1) (by rfl) scStC.nd (pi_tup (pe_glob (v := .ref aC) (by rfl) gC rfl))
      (blkOk_by (own := [("column", 1)]) (N := ["self", "column", "_", "given"]) (sc := defScope sStC) (by decide +kernel)) (fun _ _ _ _ _ => pg_name (i := 1) scStC.nd rfl (Or.inr rfl))
      (fun _ _ _ _ _ => pts_one (pt_val (pe_callB (cr_any rfl) (by rfl) gAny (by decide +kernel) (pa_cons
        (pe_lc (own := [("_", 2), ("given", 3)]) (g := gTup K 2 (gCons (gName 2) (gCons (gName 3) gNil))) (wi := iTup K (tFld K (tVar 0) "_calls")) (tt := tYes) (te := tOp (rIn K false) (tVar 1) (tVar 3)) (by rfl) scStC.nd (pi_tup (pe_fld (pv 0) (by rfl))) (blkOk_by (own := [("_", 2), ("given", 3)]) (N := ["self", "column", "_", "given"]) (sc := colScope) (by decide +kernel))
          (fun _ _ _ _ _ => pg_tup (by rfl) (pgs_cons (pg_name (i := 2) scStC.nd rfl (Or.inl rfl)) (pgs_cons (pg_name (i := 3) scStC.nd rfl (Or.inl rfl)) pgs_nil))) (fun _ _ _ _ _ => pts_nil) (fun _ _ _ _ _ => pe_cmpR op_in_seq (pv 1) (pv 3) (by rfl))) pa_nil))))
      (fun _ _ _ _ _ => pv 1))), ?_⟩
    have lcs := dpA_len h7
    have inner : ∀ (z : Str) (H1 : Hp), Same H H1 → ∀ R : VK, (∀ D2 H2, Same H1 H2 → H1 D2 = none → H2 D2 = some (.lst (((allCalls dc ods).map (hasCol z)).map V.bl)) → R (.ref D2) H2) →
        tLc (iTup K (tFld K (tVar 0) "_calls")) (gTup K 2 (gCons (gName 2) (gCons (gName 3) gNil))) tYes (tOp (rIn K false) (tVar 1) (tVar 3)) [2, 3] [some (.ref a), some (.str z), none, none] H1 R := fun z H1 s1 R r => by
      refine ⟨.ref a, rfl, a, CS, dx, _, _, rfl, s1 _ _ e, SC.cl, SC.n4, rfl, tc, rfl, ⟨_, same_sqT s1 h6⟩, fun D2 nD => ?_⟩
      refine walk_gen (walk_tup (K := K) (a := tc) (xs := cs)) (fun n H2 => Same H1 H2 ∧ H2 D2 = some (.lst ((((allCalls dc ods).take n).map (hasCol z)).map V.bl))) ⟨same_upd nD, upd_same⟩ (fun _ H' _ p => same_sqT (s1.trans p.1) h6) (fun n x H2 H3 hi p y => ?_) (fun H2 p => ?_)
      · obtain ⟨s2, eD⟩ := p
        obtain ⟨rfl, hx⟩ := y
        obtain ⟨d, hdi, hv⟩ := dpA_at h7 hx
        obtain ⟨nm, gs, rfl, hn, l2, hg⟩ := call_shape (hcs d (List.mem_of_getElem? hdi))
        cases hv with
        | @tup ea xs _ hs ha2 =>
        obtain ⟨x1, x2, rfl, k1, k2⟩ := dp_pair ha2
        cases k2 with
        | @tup eb us _ hs2 ha3 =>
        have t2 := s1.trans s2
        obtain ⟨fl, iv⟩ := given_in z ha3 hg
        refine ⟨ea, _, rfl, same_sqT t2 hs, rfl, _, _, rfl, _, _, rfl, rfl, rfl, ?_⟩
        unfold tYes
        refine iteT ⟨.str z, rfl, .ref eb, rfl, eb, us, rfl, .inr (same_sqT t2 hs2), rfl, fl, _, eD, ?_, same_updN s2 nD, ?_⟩
        · rw [List.length_map, List.length_map, List.length_take]
          exact Nat.lt_of_le_of_lt (show _ ≤ 8 by omega) (by decide)
        · rw [upd_same, take_snoc hdi, List.map_append, List.map_append]
          have : inV (.str z) us = hasCol z (.tuple [nm, .tuple gs]) := iv
          exact congrArg (fun q => some (HO.lst (_ ++ [V.bl q]))) this
      · obtain ⟨s2, eD⟩ := p
        rw [lcs, List.take_length] at eD
        exact r D2 H2 s2 nD eD
    refine ⟨aC, rfl, ⟨_, hC H⟩, fun D nD => ?_⟩
    refine walk_gen (walk_tup (K := K) (a := aC) (xs := [V.str "x", V.str "y"])) (fun n H2 => Same H H2 ∧ H2 D = some (.lst (((([("x" : Str), "y"].take n).filter fun z => (allCalls dc ods).any (hasCol z))).map V.str))) ⟨same_upd nD, upd_same⟩ (fun _ H' _ p => hC H') (fun n x H2 H3 hi p y => ?_) (fun H2 p => ?_)
    · obtain ⟨s2, eD⟩ := p
      obtain ⟨rfl, hx⟩ := y
      obtain ⟨z, rfl, hz⟩ : ∃ z : Str, x = .str z ∧ [("x" : Str), "y"][n]? = some z := by
        match n, hx with
        | 0, hx => cases hx; exact ⟨_, rfl, rfl⟩
        | 1, hx => cases hx; exact ⟨_, rfl, rfl⟩
      refine ⟨rfl, ?_⟩
      refine tb_cb ?_
      refine inner z _ s2 _ fun D2 H4 s4 n4 e4 => ?_
      refine ⟨D2, (allCalls dc ods).map (hasCol z), rfl, .inl (.inl e4), _, rfl, ?_⟩
      have eD4 := s4 _ _ eD
      have ea : ((allCalls dc ods).map (hasCol z)).any id = (allCalls dc ods).any (hasCol z) := by
        rw [List.any_map]
        rfl
      rw [ea]
      cases hb : (allCalls dc ods).any (hasCol z) with
      | true =>
        refine iteT ⟨.str z, rfl, _, eD4, ?_, same_updN (s2.trans s4) nD, ?_⟩
        · rw [List.length_map]
          refine Nat.lt_of_le_of_lt (Nat.le_trans (List.length_filter_le _ _) (show _ ≤ 2 from ?_)) (by decide)
          rw [List.length_take]
          exact Nat.min_le_right _ _
        · rw [upd_same, take_snoc hz, List.filter_append, List.map_append, show List.filter (fun z => (allCalls dc ods).any (hasCol z)) [z] = [z] from List.filter_cons_of_pos hb]
          rfl
      | false =>
        refine iteF ⟨s2.trans s4, ?_⟩
        rw [take_snoc hz, List.filter_append, List.map_append, show List.filter (fun z => (allCalls dc ods).any (hasCol z)) [z] = [] from List.filter_cons_of_neg (by rw [hb]; decide)]
        rw [eD4]
        simp
    · obtain ⟨s2, eD⟩ := p
      exact q D H2 s2 nD eD
end
/-! ### the law's calls and nodes of a tree -/
abbrev sLCI : Stmt := topS 40
theorem scLCI : FnScope ["_law_tree_here", "_law_found", "_law_part"] ["_law_tree_here"] (defScope sLCI) := ⟨rfl, rfl, rfl, by decide +kernel, rfl, by decide +kernel, by decide +kernel⟩
abbrev sLNI : Stmt := topS 41
theorem scLNI : FnScope ["_law_tree_here", "_law_found", "_law_part"] ["_law_tree_here"] (defScope sLNI) := ⟨rfl, rfl, rfl, by decide +kernel, rfl, by decide +kernel, by decide +kernel⟩
def nodesD (n : Nat) (d : PyData) : List PyData := (nodesF n d).map fun k => .int (k : Nat)
def spLX (K : PySem.W.Frag) (g : Nat → PyData → List PyData) (n : Nat) : Sp := fun vs H Q _ => ∃ (v : V) (d : PyData) (H0 : Hp), vs = [v] ∧ Same H0 H ∧ Dp K H0 v d ∧ (d = .none ∨ treeB n d = true) ∧ (g n d).length ≤ 1000 ∧ ∀ p xs H', Same H H' → H p = none → H' p = some (.lst xs) → DpAll K H0 xs (g n d) → Q (.ref p) H'
theorem fm_len {α β : Type} {f : α → List β} {l : List α} {x : α} (h : x ∈ l) : (f x).length ≤ (l.flatMap f).length := by
  induction l with
  | nil => cases h
  | cons a l ih =>
    rw [List.flatMap_cons, List.length_append]
    rcases List.mem_cons.mp h with rfl | h
    · omega
    · have := ih h
      omega
theorem fm_take {α β : Type} {f : α → List β} (l : List α) (n : Nat) : ((l.take n).flatMap f).length ≤ (l.flatMap f).length := by
  conv => rhs; rw [← List.take_append_drop n l, List.flatMap_append, List.length_append]
  omega
theorem tree_none {n : Nat} {d : PyData} (h : treeB n d = true) : d ≠ .none := fun e => by
  rw [e] at h
  cases n <;> cases h
theorem not_none {K : PySem.W.Frag} {H : Hp} {v : V} {d : PyData} (h : Dp K H v d) (n : d ≠ .none) : decide (v = .non) = false := by
  rw [none_is h]
  cases d <;> first | rfl | exact absurd rfl n
section
variable {P : Program} {w : World} {K : PySem.W.Frag} {mg : Str → Option Value} {base : Heap}
theorem lci_body {n m : Nat} {f fR : Addr} {fd dR : FuncData} (F : Fun K "_law_calls_in" "_law_calls_in" sLCI f fd) (GR : FnOk P w K mg base CX0 m fR dR ["_law_tree_here"] (spLX K callsF n)) (bR : Binds K dR ["_law_tree_here"] []) (kR : PySem.W.keepIn K (.ref fR) = true) (gR : mg "_law_calls_in" = some (.ref fR)) : FnOk P w K mg base CX0 (m + 1) f fd ["_law_tree_here"] (spLX K callsF (n + 1)) := by
  refine F.ok scLCI (fun vs H Q E h => ?_) (fun cdv A outer s H vs Q E hr h => ?_)
  · obtain ⟨v, d, H0, rfl, _⟩ := h
    rfl
  · obtain ⟨v, d, H0, rfl, s0, hv, ht, lg, q⟩ := h
    have hr1 : Room m _ := hr
    refine ⟨_, pss_cons (ps_if (pt_cmp (pc_isN (pv 0))) (pss_one (ps_ret (pe_lst pa_nil))) pss_nil)
      (pss_cons (ps_if (pt_cmpR op_eq (pe_ix ix_tup (pv 0) pe_int (fun _ _ => rfl)) pe_str (nomark _)) (pss_one (ps_ret (pe_lst (pa_cons (pe_ix ix_tup (pv 0) pe_int (fun _ _ => rfl)) pa_nil)))) pss_nil)
      (pss_cons (ps_if (pt_cmpR op_eq (pe_ix ix_tup (pv 0) pe_int (fun _ _ => rfl)) pe_str (nomark _)) (pss_one (ps_ret (pe_call GR hr1 (by rfl) gR kR bR .nil pass0 (pa_cons (pe_ix ix_tup (pv 0) pe_int (fun _ _ => rfl)) pa_nil)))) pss_nil)
      (pss_cons (ps_set (i := 1) scLCI.nd rfl (.inl rfl) (pe_lst pa_nil))
      (pss_cons (ps_for PassesOwn.never rfl (pi_tup (pe_ix ix_tup (pv 0) pe_int (fun _ _ => rfl))) (pg_name (i := 2) scLCI.nd rfl (.inl rfl))
        (pss_one (ps_set (i := 1) scLCI.nd rfl (.inl rfl) (pe_op op_cat (pv 1) (pe_call GR hr1 (by rfl) gR kR bR .nil pass0 (pa_cons (pv 2) pa_nil))))))
      (pss_one (ps_ret (pv 1))))))), ?_⟩
    refine ⟨v, rfl, _, rfl, ?_⟩
    by_cases hn : d = .none
    · subst hn
      cases hv
      refine iteT' (by decide) ⟨Nat.zero_le _, fun p np => q p [] _ (same_upd np) np upd_same ?_⟩
      exact .nil
    have ht : treeB (n + 1) d = true := ht.resolve_left hn
    refine iteF' (not_none hv hn) ?_
    obtain ⟨g, eg, ⟨c, u, rfl, hc, hu⟩ | ⟨t, rfl, h7⟩ | ⟨wd, ts, rfl, hw, l1, l8, hts⟩⟩ := tree_shape ht
    · cases eg
      cases hv with
      | @tup a xs _ hs ha =>
      have hs1 := same_sqT s0 hs
      cases ha with
      | @cons x0 xr _ _ h0 hr0 =>
      cases h0
      cases hr0 with
      | @cons x1 xr2 _ _ h1 hr1 =>
      exact ⟨_, rfl, a, _, 0, .str "is", rfl, rfl, hs1, atI_nat (j := 0) rfl, rfl, _, rfl, iteT' (by decide) ⟨_, rfl, a, _, 1, x1, rfl, rfl, hs1, atI_nat (j := 1) rfl, (by show 1 ≤ sizeLine; decide), fun p np => q p [x1] _ (same_upd np) np upd_same (.cons h1 .nil)⟩⟩
    · cases eg
      cases hv with
      | @tup a xs _ hs ha =>
      have hs1 := same_sqT s0 hs
      cases ha with
      | @cons x0 xr _ _ h0 hr0 =>
      cases h0
      cases hr0 with
      | @cons x1 xr2 _ _ h1 hr1 =>
      have el : callsF (n + 1) (.tuple [.str "not", t]) = callsF n t := List.flatMap_singleton _ _
      rw [el] at lg q
      exact ⟨_, rfl, a, _, 0, .str "not", rfl, rfl, hs1, atI_nat (j := 0) rfl, rfl, _, rfl, iteF' (by decide) ⟨_, rfl, a, _, 0, .str "not", rfl, rfl, hs1, atI_nat (j := 0) rfl, rfl, _, rfl, iteT' (by decide) ⟨_, rfl, a, _, 1, x1, rfl, rfl, hs1, atI_nat (j := 1) rfl, x1, t, H0, rfl, s0, h1, .inr h7, lg, q⟩⟩⟩
    · cases eg
      cases hv with
      | @tup a xs _ hs ha =>
      have hs1 := same_sqT s0 hs
      cases ha with
      | @cons x0 xr _ _ h0 hr0 =>
      cases h0
      cases hr0 with
      | @cons x1 xr2 _ _ h1 hr1 =>
      cases h1 with
      | @tup b us _ hs2 ha2 =>
      have nw := not_w hw
      have el : callsF (n + 1) (.tuple [.str wd, .tuple ts]) = ts.flatMap (callsF n) := by
        show (branchesD (.tuple [.str wd, .tuple ts])).flatMap (callsF n) = _
        rw [br_row hw]
      rw [el] at lg q
      refine ⟨_, rfl, a, _, 0, .str wd, rfl, rfl, hs1, atI_nat (j := 0) rfl, rfl, _, rfl, iteF' (by rw [dstr]; exact decide_eq_false nw.1) ⟨_, rfl, a, _, 0, .str wd, rfl, rfl, hs1, atI_nat (j := 0) rfl, rfl, _, rfl, iteF' (by rw [dstr]; exact decide_eq_false nw.2) ?_⟩⟩
      refine ⟨Nat.zero_le _, fun l nl => ?_⟩
      have sl := same_upd (o := HO.lst []) nl
      have el0 : (upd H l (.lst [])) l = some (.lst []) := upd_same
      generalize upd H l (.lst []) = H1 at sl el0 ⊢
      refine ⟨.ref a, rfl, a, _, 1, .ref b, rfl, rfl, same_sqT sl hs1, atI_nat (j := 1) rfl, b, rfl, ⟨_, same_sqT (s0.trans sl) hs2⟩, ?_⟩
      refine for_tup (K := K) (a := b) (xs := us) (fun j σ H' => ∃ l2 acc z2, σ = [some (.ref a), some (.ref l2), z2] ∧ Same H H' ∧ H l2 = none ∧ H' l2 = some (.lst acc) ∧ DpAll K H0 acc ((ts.take j).flatMap (callsF n))) ⟨l, [], none, rfl, sl, nl, el0, .nil⟩ (fun j σ H' _ pr => ?_) (fun j x σ H' hx pr => ?_) (fun σ H' pr => ?_)
      · obtain ⟨_, _, _, _, s', _⟩ := pr
        exact same_sqT (s0.trans s') hs2
      · obtain ⟨l2, acc, z2, rfl, s', n2, e2, hacc⟩ := pr
        obtain ⟨t, hti, hvt⟩ := dpA_at ha2 hx
        have mt := List.mem_of_getElem? hti
        have k1 := fm_len (f := callsF n) mt
        have k2 := fm_take (f := callsF n) ts j
        refine ⟨.ref l2, rfl, x, rfl, x, t, H0, rfl, s0.trans s', hvt, .inr (hts t mt), by omega, fun p ys H3 s3 np3 e3 hys => ?_⟩
        refine ⟨l2, p, acc, ys, rfl, rfl, s3 _ _ e2, e3, ?_, fun p2 np2 => ?_⟩
        · rw [dpA_len hacc, dpA_len hys]
          exact Nat.le_trans (show _ ≤ 2000 by omega) (by decide)
        · have s4 := same_upd (o := HO.lst (acc ++ ys)) np2
          refine ⟨p2, acc ++ ys, _, rfl, (s'.trans s3).trans s4, (s'.trans s3).free np2, upd_same, ?_⟩
          rw [take_snoc hti, List.flatMap_append, List.flatMap_singleton]
          exact dpA_app hacc hys
      · obtain ⟨l2, acc, z2, rfl, s', n2, e2, hacc⟩ := pr
        rw [dpA_len ha2, List.take_length] at hacc
        exact ⟨.ref l2, rfl, q l2 acc H' s' n2 e2 hacc⟩
theorem lci_zero {f : Addr} {fd : FuncData} (F : Fun K "_law_calls_in" "_law_calls_in" sLCI f fd) : FnOk P w K mg base CX0 (1 + 0) f fd ["_law_tree_here"] (spLX K callsF 0) := by
  refine F.ok scLCI (fun vs H Q E h => ?_) (fun cdv A outer s H vs Q E hr h => ?_)
  · obtain ⟨v, d, H0, rfl, _⟩ := h
    rfl
  · obtain ⟨v, d, H0, rfl, s0, hv, ht, lg, q⟩ := h
    refine ⟨_, pss_cons (ps_if (pt_cmp (pc_isN (pv 0))) (pss_one (ps_ret (pe_lst pa_nil))) pss_nil) (pss_cons ps_dead (pss_cons ps_dead (pss_cons ps_dead (pss_cons ps_dead (pss_one ps_dead))))), ?_⟩
    rcases ht with rfl | ht
    · cases hv
      exact ⟨_, rfl, _, rfl, iteT' (by decide) ⟨Nat.zero_le _, fun p np => q p [] _ (same_upd np) np upd_same .nil⟩⟩
    · cases ht
theorem ok_lci {f : Addr} {fd : FuncData} (F : Fun K "_law_calls_in" "_law_calls_in" sLCI f fd) (bR : Binds K fd ["_law_tree_here"] []) (gR : mg "_law_calls_in" = some (.ref f)) : ∀ n, FnOk P w K mg base CX0 (1 + n) f fd ["_law_tree_here"] (spLX K callsF n)
  | 0 => lci_zero F
  | n + 1 => lci_body F (ok_lci F bR gR n) bR F.kp gR
theorem lni_body {n m : Nat} {f fR : Addr} {fd dR : FuncData} (F : Fun K "_law_nodes_in" "_law_nodes_in" sLNI f fd) (M : Blt mg) (GR : FnOk P w K mg base CX0 m fR dR ["_law_tree_here"] (spLX K nodesD n)) (bR : Binds K dR ["_law_tree_here"] []) (kR : PySem.W.keepIn K (.ref fR) = true) (gR : mg "_law_nodes_in" = some (.ref fR)) : FnOk P w K mg base CX0 (m + 1) f fd ["_law_tree_here"] (spLX K nodesD (n + 1)) := by
  refine F.ok scLNI (fun vs H Q E h => ?_) (fun cdv A outer s H vs Q E hr h => ?_)
  · obtain ⟨v, d, H0, rfl, _⟩ := h
    rfl
  · obtain ⟨v, d, H0, rfl, s0, hv, ht, lg, q⟩ := h
    have hr1 : Room m _ := hr
    refine ⟨_, pss_cons (ps_if (PW.pt (pw_or (pt_cmp (pc_isN (pv 0))) (pw_or1 (pt_cmpR op_eq (pe_ix ix_tup (pv 0) pe_int (fun _ _ => rfl)) pe_str (nomark _))))) (pss_one (ps_ret (pe_lst pa_nil))) pss_nil)
      (pss_cons (ps_if (pt_cmpR op_eq (pe_ix ix_tup (pv 0) pe_int (fun _ _ => rfl)) pe_str (nomark _)) (pss_one (ps_ret (pe_call GR hr1 (by rfl) gR kR bR .nil pass0 (pa_cons (pe_ix ix_tup (pv 0) pe_int (fun _ _ => rfl)) pa_nil)))) pss_nil)
      (pss_cons (ps_set (i := 1) scLNI.nd rfl (.inl rfl) (pe_lst (pa_cons (pe_callB call_len_seq (by rfl) M.len PySem.boot_len (pa_cons (pe_ix ix_tup (pv 0) pe_int (fun _ _ => rfl)) pa_nil)) pa_nil)))
      (pss_cons (ps_for PassesOwn.never rfl (pi_tup (pe_ix ix_tup (pv 0) pe_int (fun _ _ => rfl))) (pg_name (i := 2) scLNI.nd rfl (.inl rfl))
        (pss_one (ps_set (i := 1) scLNI.nd rfl (.inl rfl) (pe_op op_cat (pv 1) (pe_call GR hr1 (by rfl) gR kR bR .nil pass0 (pa_cons (pv 2) pa_nil))))))
      (pss_one (ps_ret (pv 1)))))), ?_⟩
    refine ⟨v, rfl, _, rfl, ?_⟩
    by_cases hn : d = .none
    · subst hn
      cases hv
      refine iteT' (by decide) ⟨Nat.zero_le _, fun p np => q p [] _ (same_upd np) np upd_same ?_⟩
      exact .nil
    have ht : treeB (n + 1) d = true := ht.resolve_left hn
    refine iteF' (not_none hv hn) ?_
    obtain ⟨g, eg, ⟨c, u, rfl, hc, hu⟩ | ⟨t, rfl, h7⟩ | ⟨wd, ts, rfl, hw, l1, l8, hts⟩⟩ := tree_shape ht
    · cases eg
      cases hv with
      | @tup a xs _ hs ha =>
      have hs1 := same_sqT s0 hs
      cases ha with
      | @cons x0 xr _ _ h0 hr0 =>
      cases h0
      cases hr0 with
      | @cons x1 xr2 _ _ h1 hr1 =>
      have el : nodesD (n + 1) (.tuple [.str "is", c, u]) = [] := by cases c <;> rfl
      rw [el] at q
      exact ⟨_, rfl, a, _, 0, .str "is", rfl, rfl, hs1, atI_nat (j := 0) rfl, rfl, _, rfl, iteT' (by decide) ⟨Nat.zero_le _, fun p np => q p [] _ (same_upd np) np upd_same .nil⟩⟩
    · cases eg
      cases hv with
      | @tup a xs _ hs ha =>
      have hs1 := same_sqT s0 hs
      cases ha with
      | @cons x0 xr _ _ h0 hr0 =>
      cases h0
      cases hr0 with
      | @cons x1 xr2 _ _ h1 hr1 =>
      have el : nodesD (n + 1) (.tuple [.str "not", t]) = nodesD n t := by
        have hh : headN (.tuple [.str "not", t]) = [] := by cases t <;> rfl
        show (headN (.tuple [.str "not", t]) ++ [t].flatMap (nodesF n)).map _ = _
        rw [hh, List.flatMap_singleton]
        rfl
      rw [el] at lg q
      exact ⟨_, rfl, a, _, 0, .str "not", rfl, rfl, hs1, atI_nat (j := 0) rfl, rfl, _, rfl, iteF' (by decide) ⟨_, rfl, a, _, 0, .str "not", rfl, rfl, hs1, atI_nat (j := 0) rfl, rfl, _, rfl, iteT' (by decide) ⟨_, rfl, a, _, 1, x1, rfl, rfl, hs1, atI_nat (j := 1) rfl, x1, t, H0, rfl, s0, h1, .inr h7, lg, q⟩⟩⟩
    · cases eg
      cases hv with
      | @tup a xs _ hs ha =>
      have hs1 := same_sqT s0 hs
      cases ha with
      | @cons x0 xr _ _ h0 hr0 =>
      cases h0
      cases hr0 with
      | @cons x1 xr2 _ _ h1 hr1 =>
      cases h1 with
      | @tup b us _ hs2 ha2 =>
      have nw := not_w hw
      have el : nodesD (n + 1) (.tuple [.str wd, .tuple ts]) = [.int (ts.length : Nat)] ++ ts.flatMap (nodesD n) := by
        show ((if wd = "and" ∨ wd = "or" then [ts.length] else []) ++ (branchesD (.tuple [.str wd, .tuple ts])).flatMap (nodesF n)).map _ = _
        rw [if_pos hw, br_row hw, List.map_append, List.map_flatMap]
        rfl
      rw [el] at lg q
      refine ⟨_, rfl, a, _, 0, .str wd, rfl, rfl, hs1, atI_nat (j := 0) rfl, rfl, _, rfl, iteF' (by rw [dstr]; exact decide_eq_false nw.1) ⟨_, rfl, a, _, 0, .str wd, rfl, rfl, hs1, atI_nat (j := 0) rfl, rfl, _, rfl, iteF' (by rw [dstr]; exact decide_eq_false nw.2) ?_⟩⟩
      refine ⟨_, rfl, a, _, 1, .ref b, rfl, rfl, hs1, atI_nat (j := 1) rfl, b, us, rfl, .inr (same_sqT s0 hs2), (by show 1 ≤ sizeLine; decide), fun l nl => ?_⟩
      have sl := same_upd (o := HO.lst [V.int (us.length : Nat)]) nl
      have el0 : (upd H l (.lst [V.int (us.length : Nat)])) l = some (.lst [V.int (us.length : Nat)]) := upd_same
      generalize upd H l (.lst [V.int (us.length : Nat)]) = H1 at sl el0 ⊢
      refine ⟨.ref a, rfl, a, _, 1, .ref b, rfl, rfl, same_sqT sl hs1, atI_nat (j := 1) rfl, b, rfl, ⟨_, same_sqT (s0.trans sl) hs2⟩, ?_⟩
      refine for_tup (K := K) (a := b) (xs := us) (fun j σ H' => ∃ l2 acc z2, σ = [some (.ref a), some (.ref l2), z2] ∧ Same H H' ∧ H l2 = none ∧ H' l2 = some (.lst acc) ∧ DpAll K H0 acc ([.int (ts.length : Nat)] ++ (ts.take j).flatMap (nodesD n))) ⟨l, [V.int (us.length : Nat)], none, rfl, sl, nl, el0, dpA_len ha2 ▸ .cons (.int _) .nil⟩ (fun j σ H' _ pr => ?_) (fun j x σ H' hx pr => ?_) (fun σ H' pr => ?_)
      · obtain ⟨_, _, _, _, s', _⟩ := pr
        exact same_sqT (s0.trans s') hs2
      · obtain ⟨l2, acc, z2, rfl, s', n2, e2, hacc⟩ := pr
        obtain ⟨t, hti, hvt⟩ := dpA_at ha2 hx
        have mt := List.mem_of_getElem? hti
        have k1 := fm_len (f := nodesD n) mt
        have k2 := fm_take (f := nodesD n) ts j
        rw [List.length_append] at lg
        refine ⟨.ref l2, rfl, x, rfl, x, t, H0, rfl, s0.trans s', hvt, .inr (hts t mt), by omega, fun p ys H3 s3 np3 e3 hys => ?_⟩
        refine ⟨l2, p, acc, ys, rfl, rfl, s3 _ _ e2, e3, ?_, fun p2 np2 => ?_⟩
        · rw [dpA_len hacc, dpA_len hys, List.length_append, List.length_singleton]
          exact Nat.le_trans (show _ ≤ 2001 by omega) (by decide)
        · have s4 := same_upd (o := HO.lst (acc ++ ys)) np2
          refine ⟨p2, acc ++ ys, _, rfl, (s'.trans s3).trans s4, (s'.trans s3).free np2, upd_same, ?_⟩
          rw [take_snoc hti, List.flatMap_append, List.flatMap_singleton, ← List.append_assoc]
          exact dpA_app hacc hys
      · obtain ⟨l2, acc, z2, rfl, s', n2, e2, hacc⟩ := pr
        rw [dpA_len ha2, List.take_length] at hacc
        exact ⟨.ref l2, rfl, q l2 acc H' s' n2 e2 hacc⟩
theorem lni_zero {f : Addr} {fd : FuncData} (F : Fun K "_law_nodes_in" "_law_nodes_in" sLNI f fd) : FnOk P w K mg base CX0 (1 + 0) f fd ["_law_tree_here"] (spLX K nodesD 0) := by
  refine F.ok scLNI (fun vs H Q E h => ?_) (fun cdv A outer s H vs Q E hr h => ?_)
  · obtain ⟨v, d, H0, rfl, _⟩ := h
    rfl
  · obtain ⟨v, d, H0, rfl, s0, hv, ht, lg, q⟩ := h
    refine ⟨_, pss_cons (ps_if (PW.pt (pw_or (pt_cmp (pc_isN (pv 0))) (pw_or1 (pt_cmpR op_eq (pe_ix ix_tup (pv 0) pe_int (fun _ _ => rfl)) pe_str (nomark _))))) (pss_one (ps_ret (pe_lst pa_nil))) pss_nil) (pss_cons ps_dead (pss_cons ps_dead (pss_cons ps_dead (pss_one ps_dead)))), ?_⟩
    rcases ht with rfl | ht
    · cases hv
      exact ⟨_, rfl, _, rfl, iteT' (by decide) ⟨Nat.zero_le _, fun p np => q p [] _ (same_upd np) np upd_same .nil⟩⟩
    · cases ht
theorem ok_lni {f : Addr} {fd : FuncData} (F : Fun K "_law_nodes_in" "_law_nodes_in" sLNI f fd) (M : Blt mg) (bR : Binds K fd ["_law_tree_here"] []) (gR : mg "_law_nodes_in" = some (.ref f)) : ∀ n, FnOk P w K mg base CX0 (1 + n) f fd ["_law_tree_here"] (spLX K nodesD n)
  | 0 => lni_zero F
  | n + 1 => lni_body F M (ok_lni F M bR gR n) bR F.kp gR
end
/-! ### the law's calls, trees and statements, drawn -/
theorem lc_data {K : PySem.W.Frag} {p : Addr} {G : PyData → Prop} (gnl : ∀ d, G d → noL d = true) {J : It} {cnt : Nat} {Y : Nat → Hp → V → Hp → Prop} (w : Walk J cnt (fun _ => True) Y) {j : Nat} {te : TE} {vs : List Nat} {σ : L2.St} {H1 : Hp} {D : Addr} {Qd : Hp → Prop} (hz : cnt ≤ 1000)
    (hD : H1 D = none) (hp : PoolAt H1 p) (hw : ∀ x, wipe ((wipe σ vs).set j (some x)) vs = wipe σ vs)
    (he : ∀ i x H H', i < cnt → But p H1 H → PoolAt H p → Y i H x H' → H' = H ∧ ∀ Q : VK, (∀ v d H2, But p H H2 → PoolAt H2 p → Dp K H2 v d → G d → Q v H2) → te ((wipe σ vs).set j (some x)) H Q)
    (hd : ∀ ys ts H, But p H1 H → PoolAt H p → H D = some (.lst ys) → DpAll K H ys ts → ts.length = cnt → (∀ t ∈ ts, G t) → Qd H)  :
    Turns J (upd H1 D (.lst [])) Qd (LcBody D te vs j σ) := by
  have npD : D ≠ p := (hp.ne hD).symm
  refine lc_it w (fun i H => But p H1 H ∧ PoolAt H p ∧ ∃ ys ts, H D = some (.lst ys) ∧ DpAll K H ys ts ∧ ts.length = i ∧ ∀ t ∈ ts, G t) ⟨But.of (same_upd hD), hp.upd hD, [], [], upd_same, .nil, rfl, fun v e => by cases e⟩ (fun i H _ p => True.intro) (fun i x H H' hi q y => ?_) (fun H q => ?_)
  · obtain ⟨s1, h1, ys, ts, e1, ea, el, er⟩ := q
    obtain ⟨rfl, k⟩ := he i x H H' hi s1 h1 y
    refine And.intro (hw x) ?_
    unfold tYes
    refine iteT ?_
    refine k _ fun v d H2 s3 h3 dv gd => ⟨ys, s3 _ _ e1 npD, ?_, fun b o e nb => ?_, ?_, ys ++ [v], ts ++ [d], upd_same, ?_, ?_, fun u hu => ?_⟩
    · exact Nat.lt_of_le_of_lt (show ys.length ≤ 1000 by rw [dpA_len ea]; omega) (by decide)
    · have hb : b ≠ D := ne_of_none e hD
      rw [upd_ne hb]
      exact s3 _ _ (s1 _ _ e nb) nb
    · obtain ⟨x, y, e, r⟩ := h3
      exact ⟨x, y, by rw [upd_ne npD.symm]; exact e, r⟩
    · have nl : noLs ts = true := noLs_of fun t ht => gnl t (er t ht)
      have e2 := s3 _ _ e1 npD
      obtain ⟨px, py, pe, _⟩ := h1
      have a1 : DpAll K H2 ys ts := dpAll_tups (fun _ _ => but_sqT pe s3) ts ys nl ea
      exact dpA_app (dpAll_tups (fun _ _ => but_sqT e2 But.upd) ts ys nl a1) (.cons (dp_tups (fun _ _ => but_sqT e2 But.upd) d v (gnl d gd) dv) .nil)
    · rw [List.length_append, el]
      rfl
    · rcases List.mem_append.mp hu with hu | hu
      · exact er u hu
      · rw [List.mem_singleton.mp hu]
        exact gd
  · obtain ⟨s1, h1, ys, ts, e1, ea, el, er⟩ := q
    exact hd ys ts H s1 h1 e1 ea el er

abbrev sDC : Stmt := topS 43
theorem scDC : FnScope ["_law_pool_here", "_law_b", "_law_f", "_law_at"] ["_law_pool_here", "_law_b"] (defScope sDC) := ⟨rfl, rfl, rfl, by decide +kernel, rfl, by decide +kernel, by decide +kernel⟩
def spDC (K : PySem.W.Frag) : Sp := fun vs H Q _ => ∃ (L : LB) (p b : Addr), vs = [.ref p, .ref b] ∧ LOk L ∧ 1 ≤ L.fns.length ∧ PoolAt H p ∧ LBk K L H b ∧ ∀ v c H', But p H H' → PoolAt H' p → Dp K H' v c → callB c = true → Q v H'
theorem row_given {i : Nat} {v : V} (h : [V.str "x", .str "y", .str "x", .int 0, .int 1, .int 2][i]? = some v) : ∃ d, givenB d = true ∧ ∀ (K : PySem.W.Frag) (H : Hp), Dp K H v d := by
  match i, h with
  | 0, h => cases h; exact ⟨.str "x", by decide +kernel, fun _ _ => .str _⟩
  | 1, h => cases h; exact ⟨.str "y", by decide +kernel, fun _ _ => .str _⟩
  | 2, h => cases h; exact ⟨.str "x", by decide +kernel, fun _ _ => .str _⟩
  | 3, h => cases h; exact ⟨.int 0, by decide +kernel, fun _ _ => .int _⟩
  | 4, h => cases h; exact ⟨.int 1, by decide +kernel, fun _ _ => .int _⟩
  | 5, h => cases h; exact ⟨.int 2, by decide +kernel, fun _ _ => .int _⟩
  | n + 6, h => simp at h
theorem call_mk {z : Str} {as : List PyData} (hz : isName (.str z) = true) (l2 : as.length ≤ 2) (h : ∀ d ∈ as, givenB d = true) : callB (.tuple [.str z, .tuple as]) = true := by
  show (isName (.str z) && (decide (as.length ≤ 2) && as.all givenB)) = true
  rw [hz, decide_eq_true l2, List.all_eq_true.mpr h]
  rfl
section
variable {P : Program} {w : World} {K : PySem.W.Frag} {mg : Str → Option Value} {base : Heap}
theorem ok_dc {f fP : Addr} {fd dP : FuncData} (F : Fun K "_law_draw_call" "_law_draw_call" sDC f fd) (M : Blt mg) (GP : FnOk P w K mg base CX0 2 fP dP ["_law_pool_here", "_law_row"] (spPick K)) (kP : PySem.W.keepIn K (.ref fP) = true) (bP : Binds K dP ["_law_pool_here", "_law_row"] []) (gP : mg "_law_pick" = some (.ref fP)) : FnOk P w K mg base CX0 3 f fd ["_law_pool_here", "_law_b"] (spDC K) := by
  refine F.ok scDC (fun vs H Q E h => ?_) (fun cdv A outer s H vs Q E hr h => ?_)
  · obtain ⟨L, p, b, rfl, _⟩ := h
    rfl
  · obtain ⟨L, p, b, rfl, N, l1, hp, hb, q⟩ := h
    have hu := hu_of hr
    refine ⟨_, pss_cons (ps_set (i := 2) scDC.nd rfl (.inl rfl) (pe_call GP hr (by rfl) gP kP bP .nil pass0 (pa_cons (pv 0) (pa_cons (pe_dget hu (pv 1) pe_str (fun _ _ => rfl)) pa_nil))))
      (pss_one (ps_ret (pe_tup (pa_cons (pe_dget hu (pv 2) pe_str (fun _ _ => rfl)) (pa_cons (pe_callTy call_tuple_of (by rfl) M.tuple (by decide +kernel) (pa_cons
        (pe_lc (own := [("_law_at", 3)]) (g := gName 3) (tt := tYes) (te := tCall (spPick K) [] E0 (tCons (tVar 0) (tCons (tLst (tCons (tC (.str "x")) (tCons (tC (.str "y")) (tCons (tC (.str "x")) (tCons (tC (.int 0)) (tCons (tC (.int 1)) (tCons (tC (.int 2)) tNil))))))) tNil))) (by rfl) scDC.nd (pi_range1 (by rfl) M.range (pa_cons (pe_dget hu (pv 2) pe_str (fun _ _ => rfl)) pa_nil)) (blkOk_by (own := [("_law_at", 3)]) (N := ["_law_pool_here", "_law_b", "_law_f", "_law_at"]) (sc := defScope sDC) (by decide +kernel))
          (fun _ _ _ _ _ => pg_name (i := 3) scDC.nd rfl (Or.inl rfl)) (fun _ _ _ _ _ => pts_nil) (fun _ _ _ _ _ => pe_call GP hr (by rfl) gP kP bP .nil pass0 (pa_cons (pv 0) (pa_cons (pe_lst (pa_cons pe_str (pa_cons pe_str (pa_cons pe_str (pa_cons pe_int (pa_cons pe_int (pa_cons pe_int pa_nil))))))) pa_nil)))) pa_nil)) pa_nil))))), ?_⟩
    obtain ⟨c, f', ts, gs, e0, e1, e4, r1, r2⟩ := id hb
    have npf : p ≠ f' := fun q => by
      obtain ⟨x, y, ep, _⟩ := hp
      rw [← q, ep] at e4
      cases e4
      obtain ⟨d, _, t, _, e, _⟩ := r2.at (i := 0) (by show 0 < 2; decide)
      cases e
    have lg : gs.length = L.fns.length := r2.1
    refine ⟨.ref p, rfl, .ref b, rfl, b, .ref f', rfl, dg e0 "functions" rfl, p, f', gs, rfl, hp, npf, .inl (.inl (.inl e4)), by omega, Nat.le_trans (show gs.length ≤ 8 by have := N.lf; omega) (by decide), fun i hi H4 b4 hp4 fr => ?_⟩
    obtain ⟨⟨nx, cnt⟩, hmem, g, kvs, eg, e3g, kn, km⟩ := r2.at hi
    have e4g : H4 g = some (.dK kvs) := by
      obtain ⟨x, y, ep, _⟩ := hp
      exact b4 _ _ e3g (ne_of e3g ep (fun z => nomatch z))
    have hc := N.f _ hmem
    dsimp only at hc kn km
    rw [eg]
    refine ⟨.ref g, rfl, g, .str nx, rfl, dg e4g "name" kn, .ref g, rfl, g, .int (cnt : Int), rfl, dg e4g "many" km, (cnt : Int), rfl, by omega, by omega, fun D hD => ?_⟩
    refine lc_data (K := K) (G := fun d => givenB d = true) (fun d h => (given_ok h).1) (vs := [3]) (j := 3) (D := D) (p := p) walk_range (by omega) hD hp4 (fun x => rfl)
      (fun i' x H5 H6 hi' b5 hp5 y => ⟨y.1, fun Q2 q2 => ⟨.ref p, rfl, (by show 6 ≤ sizeLine; decide), fun r nr => ?_⟩⟩)
      (fun ys ts H5 b5 hp5 e5' ha el hall => ⟨D, ys, rfl, .inl ⟨.inl (.inl e5'), fun t nt => ⟨(by show 2 ≤ sizeLine; decide), fun t2 nt2 => ?_⟩⟩⟩)
    · have sr := same_upd (o := HO.lst [V.str "x", .str "y", .str "x", .int 0, .int 1, .int 2]) nr
      have hp6 := hp5.upd (o := HO.lst [V.str "x", .str "y", .str "x", .int 0, .int 1, .int 2]) nr
      refine ⟨p, r, _, rfl, hp6, hp5.ne nr, .inl (.inl (.inl upd_same)), by decide, by decide, fun k hk H7 b7 hp7 fr7 => ?_⟩
      obtain ⟨d, gd, hd⟩ := row_given (List.getElem?_eq_getElem hk)
      exact q2 _ d H7 ((But.of sr).trans b7) hp7 (hd K H7) gd
    · have := hc.2
      exact q _ (.tuple [.str nx, .tuple ts]) _ (but_sameN (b4.trans b5) ((same_upd nt).trans (same_upd nt2))) ((hp5.upd nt).upd nt2) (dpT nt2 (.cons (.str _) (.cons (dpT nt ha) .nil))) (call_mk hc.1 (by rw [el]; omega) hall)
end
/-! ### drawn trees -/
structure LT (f n s : Nat) (d : PyData) : Prop where
  tr : treeB f d = true
  cn : (callsF f d).length = n
  sz : sizeF f d ≤ s
theorem callsF_le {f g : Nat} (h : f ≤ g) {d : PyData} (t : treeB f d = true) : callsF g d = callsF f d := by
  induction h with
  | refl => rfl
  | step h ih => rw [calls_fix _ (treeB_le h t), ih]
theorem sizeF_le {f g : Nat} (h : f ≤ g) {d : PyData} (t : treeB f d = true) : sizeF g d = sizeF f d := by
  induction h with
  | refl => rfl
  | step h ih => rw [size_fix _ (treeB_le h t), ih]
theorem LT.up {f n s g t : Nat} {d : PyData} (h : LT f n s d) (k : f ≤ g) (l : s ≤ t) : LT g n t d where
  tr := treeB_le k h.tr
  cn := by rw [callsF_le k h.tr]; exact h.cn
  sz := by rw [sizeF_le k h.tr]; exact Nat.le_trans h.sz l
theorem LT.leaf {c : PyData} {u : Int} (hc : callB c = true) (h0 : 0 ≤ u) (h3 : u < 3) : LT 1 1 1 (.tuple [.str "is", c, .int u]) where
  tr := by
    show (callB c && isValue (.int u)) = true
    have : isValue (.int u) = true := by
      show (decide (0 ≤ u) && decide (u < 3)) = true
      rw [decide_eq_true h0, decide_eq_true h3]
      rfl
    rw [hc, this]
    rfl
  cn := rfl
  sz := Nat.le_refl _
theorem LT.not {f n s : Nat} {d : PyData} (h : LT f n s d) : LT (f + 1) n (s + 1) (.tuple [.str "not", d]) where
  tr := h.tr
  cn := by
    show ([d].flatMap (callsF f)).length = n
    rw [List.flatMap_singleton]
    exact h.cn
  sz := by
    show 1 + ([d].map (sizeF f)).sum ≤ s + 1
    have := h.sz
    simp only [List.map_cons, List.map_nil, List.sum_cons, List.sum_nil]
    omega
theorem LT.row {f n s : Nat} {w : Str} {ts : List PyData} (hw : w = "and" ∨ w = "or") (l1 : 1 ≤ ts.length) (l8 : ts.length ≤ 8) (ht : ∀ t ∈ ts, treeB f t = true) (hc : (ts.flatMap (callsF f)).length = n) (hs : (ts.map (sizeF f)).sum ≤ s) : LT (f + 1) n (s + 1) (.tuple [.str w, .tuple ts]) where
  tr := by
    rw [treeB_eq, if_neg (not_w hw).1, if_neg (not_w hw).2, if_pos hw]
    show (decide (1 ≤ ts.length) && (decide (ts.length ≤ 8) && ts.all (treeB f))) = true
    rw [decide_eq_true l1, decide_eq_true l8, List.all_eq_true.mpr ht]
    rfl
  cn := by
    show ((branchesD (.tuple [.str w, .tuple ts])).flatMap (callsF f)).length = n
    rw [br_row hw]
    exact hc
  sz := by
    show 1 + ((branchesD (.tuple [.str w, .tuple ts])).map (sizeF f)).sum ≤ s + 1
    rw [br_row hw]
    omega
theorem LT.pair {f a b s t : Nat} {w : Str} {d e : PyData} (hw : w = "and" ∨ w = "or") (h : LT f a s d) (k : LT f b t e) : LT (f + 1) (a + b) (s + t + 1) (.tuple [.str w, .tuple [d, e]]) := by
  refine LT.row hw (by show 1 ≤ 2; decide) (by show 2 ≤ 8; decide) (fun u m => ?_) ?_ ?_
  · simp only [List.mem_cons, List.not_mem_nil, or_false] at m
    rcases m with rfl | rfl
    · exact h.tr
    · exact k.tr
  · rw [List.flatMap_cons, List.flatMap_singleton, List.length_append, h.cn, k.cn]
  · simp only [List.map_cons, List.map_nil, List.sum_cons, List.sum_nil]
    have := h.sz
    have := k.sz
    omega
theorem ones {f s : Nat} : ∀ {ts : List PyData}, (∀ t ∈ ts, LT f 1 s t) → (ts.flatMap (callsF f)).length = ts.length ∧ (ts.map (sizeF f)).sum ≤ ts.length * s
  | [], _ => ⟨rfl, Nat.zero_le _⟩
  | t :: ts, h => by
    obtain ⟨k1, k2⟩ := ones fun u m => h u (List.mem_cons_of_mem _ m)
    have h0 := h t List.mem_cons_self
    have := h0.sz
    refine ⟨?_, ?_⟩
    · rw [List.flatMap_cons, List.length_append, h0.cn, k1, List.length_cons]
      omega
    · rw [List.map_cons, List.sum_cons, List.length_cons, Nat.succ_mul]
      omega
abbrev TD (n : Nat) (d : PyData) : Prop := LT (2 * n) n (4 * n - 2) d
theorem td_nl {n : Nat} {d : PyData} (h : TD n d) : noL d = true := (tree_ok _ h.tr).1
abbrev sLTr : Stmt := topS 44
theorem scLTr : FnScope ["_law_pool_here", "_law_b", "_law_many", "_law_leaf", "_law_first", "_law_found", "_law_at"] ["_law_pool_here", "_law_b", "_law_many"] (defScope sLTr) := ⟨rfl, rfl, rfl, by decide +kernel, rfl, by decide +kernel, by decide +kernel⟩
def spLT (K : PySem.W.Frag) (m : Nat) : Sp := fun vs H Q _ => ∃ (L : LB) (p b : Addr) (n : Nat), vs = [.ref p, .ref b, .int (n : Nat)] ∧ LOk L ∧ 1 ≤ L.fns.length ∧ PoolAt H p ∧ LBk K L H b ∧ 1 ≤ n ∧ n ≤ m ∧ n ≤ 4 ∧ ∀ v d H', But p H H' → PoolAt H' p → Dp K H' v d → TD n d → Q v H'
theorem row_word {i : Nat} {v : V} (h : [V.str "and", .str "or"][i]? = some v) : ∃ z : Str, (z = "and" ∨ z = "or") ∧ v = .str z := by
  match i, h with
  | 0, h => cases h; exact ⟨_, .inl rfl, rfl⟩
  | 1, h => cases h; exact ⟨_, .inr rfl, rfl⟩
  | n + 2, h => simp at h
section
variable {P : Program} {w : World} {K : PySem.W.Frag} {mg : Str → Option Value} {base : Heap}
theorem lt_body {m : Nat} {f fR fD fP fC : Addr} {fd dR dD dP dC : FuncData} (F : Fun K "_law_tree" "_law_tree" sLTr f fd) (M : Blt mg) (GR : FnOk P w K mg base CX0 (m + 3) fR dR ["_law_pool_here", "_law_b", "_law_many"] (spLT K m)) (kR : PySem.W.keepIn K (.ref fR) = true) (bR : Binds K dR ["_law_pool_here", "_law_b", "_law_many"] []) (gR : mg "_law_tree" = some (.ref fR))
    (GD : FnOk P w K mg base CX0 1 fD dD ["_law_pool_here", "_law_many"] spDraw) (kD : PySem.W.keepIn K (.ref fD) = true) (bD : Binds K dD ["_law_pool_here", "_law_many"] []) (gD : mg "_law_draw" = some (.ref fD))
    (GP : FnOk P w K mg base CX0 2 fP dP ["_law_pool_here", "_law_row"] (spPick K)) (kP : PySem.W.keepIn K (.ref fP) = true) (bP : Binds K dP ["_law_pool_here", "_law_row"] []) (gP : mg "_law_pick" = some (.ref fP))
    (GC : FnOk P w K mg base CX0 3 fC dC ["_law_pool_here", "_law_b"] (spDC K)) (kC : PySem.W.keepIn K (.ref fC) = true) (bC : Binds K dC ["_law_pool_here", "_law_b"] []) (gC : mg "_law_draw_call" = some (.ref fC)) :
    FnOk P w K mg base CX0 (m + 4) f fd ["_law_pool_here", "_law_b", "_law_many"] (spLT K (m + 1)) := by
  refine F.ok scLTr (fun vs H Q E h => ?_) (fun cdv A outer s H vs Q E hr h => ?_)
  · obtain ⟨L, p, b, n, rfl, _⟩ := h
    rfl
  · obtain ⟨L, p, b, n, rfl, N, l1, hp, hb, n1, nm, n4, q⟩ := h
    have hr1 : Room 1 (A.deeper (envOfC "_law_tree" (defScope sLTr) s.heap.objs.size f cdv)) := hr.mono (by omega)
    have hr2 : Room 2 (A.deeper (envOfC "_law_tree" (defScope sLTr) s.heap.objs.size f cdv)) := hr.mono (by omega)
    have hr3 : Room 3 (A.deeper (envOfC "_law_tree" (defScope sLTr) s.heap.objs.size f cdv)) := hr.mono (by omega)
    refine ⟨_, pss_cons (ps_if (pt_cmpR op_eq (pv 2) pe_int (nomark _))
        (pss_cons (ps_set (i := 3) scLTr.nd rfl (.inl rfl) (pe_tup (pa_cons pe_str (pa_cons (pe_call GC hr3 (by rfl) gC kC bC .nil pass0 (pa_cons (pv 0) (pa_cons (pv 1) pa_nil))) (pa_cons (pe_call GD hr1 (by rfl) gD kD bD .nil pass0 (pa_cons (pv 0) (pa_cons pe_int pa_nil))) pa_nil)))))
          (pss_one (ps_ret (pe_ifExp (pt_cmpR op_eq (pe_call GD hr1 (by rfl) gD kD bD .nil pass0 (pa_cons (pv 0) (pa_cons pe_int pa_nil))) pe_int (nomark _)) (pe_tup (pa_cons pe_str (pa_cons (pv 3) pa_nil))) (pv 3))))) pss_nil)
      (pss_cons (ps_if (PW.pt (pw_and (pt_cmpR op_gt (pv 2) pe_int (nomark _)) (pw_and1 (pt_cmpR op_eq (pe_call GD hr1 (by rfl) gD kD bD .nil pass0 (pa_cons (pv 0) (pa_cons pe_int pa_nil))) pe_int (nomark _)))))
        (pss_one (ps_ret (pe_tup (pa_cons (pe_call GP hr2 (by rfl) gP kP bP .nil pass0 (pa_cons (pv 0) (pa_cons (pe_lst (pa_cons pe_str (pa_cons pe_str pa_nil))) pa_nil))) (pa_cons (pe_callTy call_tuple_of (by rfl) M.tuple (by decide +kernel) (pa_cons
          (pe_lc (own := [("_law_at", 6)]) (g := gName 6) (tt := tYes) (te := tCall (spLT K m) [] E0 (tCons (tVar 0) (tCons (tVar 1) (tCons (tC (.int 1)) tNil)))) (by rfl) scLTr.nd (pi_range1 (by rfl) M.range (pa_cons (pv 2) pa_nil)) (blkOk_by (own := [("_law_at", 6)]) (N := ["_law_pool_here", "_law_b", "_law_many", "_law_leaf", "_law_first", "_law_found", "_law_at"]) (sc := defScope sLTr) (by decide +kernel))
            (fun _ _ _ _ _ => pg_name (i := 6) scLTr.nd rfl (Or.inl rfl)) (fun _ _ _ _ _ => pts_nil) (fun _ _ _ _ _ => pe_call GR hr (by rfl) gR kR bR .nil pass0 (pa_cons (pv 0) (pa_cons (pv 1) (pa_cons pe_int pa_nil))))) pa_nil)) pa_nil))))) pss_nil)
      (pss_cons (ps_set (i := 4) scLTr.nd rfl (.inl rfl) (pe_op op_add pe_int (pe_call GD hr1 (by rfl) gD kD bD .nil pass0 (pa_cons (pv 0) (pa_cons (pe_op op_sub (pv 2) pe_int) pa_nil)))))
      (pss_cons (ps_set (i := 5) scLTr.nd rfl (.inl rfl) (pe_tup (pa_cons (pe_call GP hr2 (by rfl) gP kP bP .nil pass0 (pa_cons (pv 0) (pa_cons (pe_lst (pa_cons pe_str (pa_cons pe_str pa_nil))) pa_nil))) (pa_cons (pe_tup (pa_cons (pe_call GR hr (by rfl) gR kR bR .nil pass0 (pa_cons (pv 0) (pa_cons (pv 1) (pa_cons (pv 4) pa_nil)))) (pa_cons (pe_call GR hr (by rfl) gR kR bR .nil pass0 (pa_cons (pv 0) (pa_cons (pv 1) (pa_cons (pe_op op_sub (pv 2) (pv 4)) pa_nil)))) pa_nil))) pa_nil))))
      (pss_one (ps_ret (pe_ifExp (PW.pt (pw_and (pt_cmpR op_lt (pv 2) pe_int (nomark _)) (pw_and1 (pt_cmpR op_eq (pe_call GD hr1 (by rfl) gD kD bD .nil pass0 (pa_cons (pv 0) (pa_cons pe_int pa_nil))) pe_int (nomark _))))) (pe_tup (pa_cons pe_str (pa_cons (pv 5) pa_nil))) (pv 5))))))), ?_⟩
    refine ⟨_, rfl, rfl, _, rfl, ?_⟩
    rw [dint]
    by_cases hn : n = 1
    · subst hn
      refine iteT' (decide_eq_true rfl) ?_
      refine ⟨.ref p, rfl, .ref b, rfl, L, p, b, rfl, N, l1, hp, hb, fun v c H1 b1 hp1 dv hc => ⟨.ref p, rfl, p, 3, rfl, hp1, by decide, by decide, fun u H2 u0 u3 b2 hp2 fr2 => ⟨(by show 3 ≤ sizeLine; decide), fun t nt => ?_⟩⟩⟩
      have hl : Dp K (upd H2 t (.tup [.str "is", v, .int u])) (.ref t) (.tuple [.str "is", c, .int u]) := dpT nt (.cons (.str _) (.cons (dp_but hp1 b2 (call_ok hc).1 dv) (.cons (.int u) .nil)))
      have b3 : But p H (upd H2 t (.tup [.str "is", v, .int u])) := but_sameN (b1.trans b2) (same_upd nt)
      have hp3 : PoolAt (upd H2 t (.tup [.str "is", v, .int u])) p := hp2.upd nt
      have leaf := LT.leaf hc u0 u3
      have nl : noL (.tuple [.str "is", c, .int u]) = true := (tree_ok _ leaf.tr).1
      generalize upd H2 t (.tup [.str "is", v, .int u]) = H3 at hl b3 hp3 ⊢
      dsimp only [gName]
      refine ⟨.ref p, rfl, p, 4, rfl, hp3, by decide, by decide, fun k H4 k0 k4 b4 hp4 fr4 => ⟨rfl, _, rfl, ?_⟩⟩
      have hl4 := dp_but hp3 b4 nl hl
      by_cases hk : V.int k = V.int 0
      · refine iteT' (decide_eq_true hk) ⟨_, rfl, (by show 2 ≤ sizeLine; decide), fun t2 nt2 => ?_⟩
        exact q _ (.tuple [.str "not", .tuple [.str "is", c, .int u]]) _ (but_sameN (b3.trans b4) (same_upd nt2)) (hp4.upd nt2) (dpT nt2 (.cons (.str _) (.cons hl4 .nil))) (leaf.not.up (by decide) (by decide))
      · exact iteF' (decide_eq_false hk) ⟨_, rfl, q _ _ _ (b3.trans b4) hp4 hl4 (leaf.up (by decide) (by decide))⟩
    · refine iteF' (decide_eq_false (by omega)) ?_
      dsimp only [tNext]
      have n2 : 2 ≤ n := by omega
      -- the last part, after the row was not drawn
      have tail : ∀ (H1 : Hp), But p H H1 → PoolAt H1 p → ∀ (D : Ends) (tz : TS), True := fun _ _ _ _ _ => trivial
      refine q_if ?_
      have c0 : ∀ R : Bool → Hp → Prop, (∀ H1, But p H H1 → PoolAt H1 p → R false H1) → (3 ≤ n → ∀ H1, But p H H1 → PoolAt H1 p → R true H1) → (tAnd (tTest (tOp (rI0 fun i j => V.bl (decide (j < i))) (tVar 2) (tC (V.int 2)))) (tTest (tOp rEq (tCall spDraw [] E0 (tCons (tVar 0) (tCons (tC (V.int 3)) tNil))) (tC (V.int 0))))) (L2.start ["_law_pool_here", "_law_b", "_law_many", "_law_leaf", "_law_first", "_law_found", "_law_at"] [.ref p, .ref b, .int (n : Nat)]) H R := fun R rF rT => by
        refine ⟨_, rfl, _, _, rfl, rfl, _, rfl, ?_⟩
        by_cases h3 : 3 ≤ n
        · refine iteT' (decide_eq_true (by omega)) ⟨.ref p, rfl, p, 3, rfl, hp, by decide, by decide, fun k H1 k0 k3 b1 hp1 fr1 => ⟨rfl, _, rfl, ?_⟩⟩
          by_cases hk : V.int k = V.int 0
          · rw [decide_eq_true hk]
            exact rT h3 H1 b1 hp1
          · rw [decide_eq_false hk]
            exact rF H1 b1 hp1
        · exact iteF' (decide_eq_false (by omega)) (rF H (But.refl p H) hp)
      refine c0 _ (fun H1 b1 hp1 => iteF ?_) (fun h3 H1 b1 hp1 => iteT ?_)
      · dsimp only [tNext]
        refine ⟨.ref p, rfl, _, rfl, _, _, rfl, rfl, p, (n : Int) - 1, rfl, hp1, by omega, by omega, fun k H2 k0 kn b2 hp2 fr2 => ⟨_, _, rfl, rfl, ?_⟩⟩
        obtain ⟨a, ea⟩ : ∃ a : Nat, (1 : Int) + k = (a : Nat) := ⟨(1 + k).toNat, by omega⟩
        obtain ⟨b', eb⟩ : ∃ b' : Nat, (n : Int) - (a : Nat) = (b' : Nat) := ⟨((n : Int) - (a : Nat)).toNat, by omega⟩
        have eab : a + b' = n := by omega
        dsimp only [gName]
        rw [ea]
        refine ⟨.ref p, rfl, (by show 2 ≤ sizeLine; decide), fun r nr => ?_⟩
        have sr := same_upd (o := HO.lst [V.str "and", .str "or"]) nr
        have hp3 := hp2.upd (o := HO.lst [V.str "and", .str "or"]) nr
        refine ⟨p, r, _, rfl, hp3, hp2.ne nr, .inl (.inl (.inl upd_same)), by decide, by decide, fun i hi H4 b4 hp4 fr4 => ?_⟩
        obtain ⟨z, hz, ez⟩ := row_word (List.getElem?_eq_getElem hi)
        rw [ez]
        have t4 : But p H H4 := (but_sameN (b1.trans b2) sr).trans b4
        refine ⟨.ref p, rfl, .ref b, rfl, _, rfl, L, p, b, a, rfl, N, l1, hp4, hb.but hp t4, by omega, by omega, by omega, fun v1 d1 H5 b5 hp5 dv1 td1 => ?_⟩
        refine ⟨.ref p, rfl, .ref b, rfl, _, rfl, _, rfl, _, _, rfl, rfl, L, p, b, b', congrArg (fun x => [V.ref p, V.ref b, V.int x]) eb, N, l1, hp5, hb.but hp (t4.trans b5), by omega, by omega, by omega, fun v2 d2 H6 b6 hp6 dv2 td2 => ?_⟩
        refine ⟨(by show 2 ≤ sizeLine; decide), fun t1 nt1 => ⟨(by show 2 ≤ sizeLine; decide), fun t2 nt2 => ?_⟩⟩
        have hin : Dp K (upd H6 t1 (.tup [v1, v2])) (.ref t1) (.tuple [d1, d2]) := dpT nt1 (.cons (dp_but hp5 b6 (td_nl td1) dv1) (.cons dv2 .nil))
        have hout : Dp K (upd (upd H6 t1 (.tup [v1, v2])) t2 (.tup [.str z, .ref t1])) (.ref t2) (.tuple [.str z, .tuple [d1, d2]]) := dpT nt2 (.cons (.str _) (.cons hin .nil))
        have t7 : But p H (upd (upd H6 t1 (.tup [v1, v2])) t2 (.tup [.str z, .ref t1])) := but_sameN ((t4.trans b5).trans b6) ((same_upd nt1).trans (same_upd nt2))
        have hp7 : PoolAt (upd (upd H6 t1 (.tup [v1, v2])) t2 (.tup [.str z, .ref t1])) p := (hp6.upd nt1).upd nt2
        generalize upd (upd H6 t1 (.tup [v1, v2])) t2 (.tup [.str z, .ref t1]) = H7 at hout t7 hp7 ⊢
        have both : LT (2 * n - 2 + 1) (a + b') ((4 * a - 2) + (4 * b' - 2) + 1) (.tuple [.str z, .tuple [d1, d2]]) := LT.pair hz (td1.up (by omega) (Nat.le_refl _)) (td2.up (by omega) (Nat.le_refl _))
        rw [eab] at both
        have nl := (tree_ok _ both.tr).1
        dsimp only [gName]
        have c1 : ∀ R : Bool → Hp → Prop, (∀ H1, But p H7 H1 → PoolAt H1 p → R false H1) → (∀ H1, But p H7 H1 → PoolAt H1 p → R true H1) → (tAnd (tTest (tOp (rI0 fun i j => V.bl (decide (i < j))) (tVar 2) (tC (V.int 3)))) (tTest (tOp rEq (tCall spDraw [] E0 (tCons (tVar 0) (tCons (tC (V.int 5)) tNil))) (tC (V.int 0))))) (((L2.start ["_law_pool_here", "_law_b", "_law_many", "_law_leaf", "_law_first", "_law_found", "_law_at"] [.ref p, .ref b, .int (n : Nat)]).set 4 (some (.int (a : Nat)))).set 5 (some (.ref t2))) H7 R := fun R rF rT => by
          refine ⟨_, rfl, _, _, rfl, rfl, _, rfl, ?_⟩
          by_cases h3 : n < 3
          · refine iteT' (decide_eq_true (by omega)) ⟨.ref p, rfl, p, 5, rfl, hp7, by decide, by decide, fun k H1 k0 k3 b1 hp1 fr1 => ⟨rfl, _, rfl, ?_⟩⟩
            by_cases hk : V.int k = V.int 0
            · rw [decide_eq_true hk]
              exact rT H1 b1 hp1
            · rw [decide_eq_false hk]
              exact rF H1 b1 hp1
          · exact iteF' (decide_eq_false (by omega)) (rF H7 (But.refl p H7) hp7)
        refine c1 _ (fun H8 b8 hp8 => iteF ?_) (fun H8 b8 hp8 => iteT ?_)
        · exact ⟨_, rfl, q _ _ _ (t7.trans b8) hp8 (dp_but hp7 b8 nl hout) (both.up (by omega) (by omega))⟩
        · refine ⟨_, rfl, (by show 2 ≤ sizeLine; decide), fun t3 nt3 => ?_⟩
          exact q _ (.tuple [.str "not", .tuple [.str z, .tuple [d1, d2]]]) _ (but_sameN (t7.trans b8) (same_upd nt3)) (hp8.upd nt3) (dpT nt3 (.cons (.str _) (.cons (dp_but hp7 b8 nl hout) .nil))) (both.not.up (by omega) (by omega))
      · refine ⟨.ref p, rfl, (by show 2 ≤ sizeLine; decide), fun r nr => ?_⟩
        have sr := same_upd (o := HO.lst [V.str "and", .str "or"]) nr
        have hp3 := hp1.upd (o := HO.lst [V.str "and", .str "or"]) nr
        refine ⟨p, r, _, rfl, hp3, hp1.ne nr, .inl (.inl (.inl upd_same)), by decide, by decide, fun i hi H4 b4 hp4 fr4 => ?_⟩
        obtain ⟨z, hz, ez⟩ := row_word (List.getElem?_eq_getElem hi)
        rw [ez]
        have t4 : But p H H4 := (but_sameN b1 sr).trans b4
        refine ⟨_, rfl, (n : Int), rfl, by omega, by omega, fun D hD => ?_⟩
        refine lc_data (K := K) (G := TD 1) (fun d h => td_nl h) (vs := [6]) (j := 6) (D := D) (p := p) walk_range (by omega) hD hp4 (fun x => rfl)
          (fun i' x H5 H6 hi' b5 hp5 y => ⟨y.1, fun Q2 q2 => ⟨.ref p, rfl, .ref b, rfl, L, p, b, 1, rfl, N, l1, hp5, hb.but hp (t4.trans b5), by omega, by omega, by omega, fun v d H7 b7 hp7 dv gd => q2 v d H7 b7 hp7 dv gd⟩⟩)
          (fun ys ts H5 b5 hp5 e5' ha el hall => ⟨D, ys, rfl, .inl ⟨.inl (.inl e5'), fun t nt => ⟨(by show 2 ≤ sizeLine; decide), fun t2 nt2 => ?_⟩⟩⟩)
        have el2 : ts.length = n := by rw [el]; exact Int.toNat_natCast n
        obtain ⟨k1, k2⟩ := ones hall
        refine q _ (.tuple [.str z, .tuple ts]) _ (but_sameN (t4.trans b5) ((same_upd nt).trans (same_upd nt2))) ((hp5.upd nt).upd nt2) (dpT nt2 (.cons (.str _) (.cons (dpT nt ha) .nil))) ?_
        have r1 : LT (2 * 1 + 1) n (n * 2 + 1) (.tuple [.str z, .tuple ts]) := LT.row hz (by omega) (by omega) (fun t m => (hall t m).tr) (by rw [k1, el2]) (by rw [el2] at k2; exact k2)
        exact r1.up (by omega) (by omega)
theorem lt_zero {f : Addr} {fd : FuncData} (F : Fun K "_law_tree" "_law_tree" sLTr f fd) : FnOk P w K mg base CX0 (0 + 3) f fd ["_law_pool_here", "_law_b", "_law_many"] (spLT K 0) := by
  refine F.ok scLTr (fun vs H Q E h => ?_) (fun cdv A outer s H vs Q E hr h => ?_)
  · obtain ⟨L, p, b, n, rfl, _⟩ := h
    rfl
  · obtain ⟨L, p, b, n, rfl, N, l1, hp, hb, n1, nm, _⟩ := h
    omega
theorem ok_lt {f fD fP fC : Addr} {fd dD dP dC : FuncData} (F : Fun K "_law_tree" "_law_tree" sLTr f fd) (M : Blt mg) (bR : Binds K fd ["_law_pool_here", "_law_b", "_law_many"] []) (gR : mg "_law_tree" = some (.ref f))
    (GD : FnOk P w K mg base CX0 1 fD dD ["_law_pool_here", "_law_many"] spDraw) (kD : PySem.W.keepIn K (.ref fD) = true) (bD : Binds K dD ["_law_pool_here", "_law_many"] []) (gD : mg "_law_draw" = some (.ref fD))
    (GP : FnOk P w K mg base CX0 2 fP dP ["_law_pool_here", "_law_row"] (spPick K)) (kP : PySem.W.keepIn K (.ref fP) = true) (bP : Binds K dP ["_law_pool_here", "_law_row"] []) (gP : mg "_law_pick" = some (.ref fP))
    (GC : FnOk P w K mg base CX0 3 fC dC ["_law_pool_here", "_law_b"] (spDC K)) (kC : PySem.W.keepIn K (.ref fC) = true) (bC : Binds K dC ["_law_pool_here", "_law_b"] []) (gC : mg "_law_draw_call" = some (.ref fC)) :
    ∀ m, FnOk P w K mg base CX0 (m + 3) f fd ["_law_pool_here", "_law_b", "_law_many"] (spLT K m)
  | 0 => lt_zero F
  | m + 1 => lt_body F M (ok_lt F M bR gR GD kD bD gD GP kP bP gP GC kC bC gC m) F.kp bR gR GD kD bD gD GP kP bP gP GC kC bC gC
end
/-! ### drawn statements -/
/-- the law's statement stands at g -/
def LSt (K : PySem.W.Frag) (H : Hp) (g : Addr) (dc : PyData) (ods : List PyData) : Prop := ∃ (vc : V) (t : Addr) (us : List V), H g = some (.dK [(.inr "filter", vc), (.inr "outputs", .ref t)]) ∧ Dp K H vc dc ∧ SqT K H t us ∧ DpAll K H us ods
/-- what is known of a drawn statement -/
structure LSok (dc : PyData) (ods : List PyData) : Prop where
  c : dc = .none ∨ ∃ n, 1 ≤ n ∧ n ≤ 3 ∧ TD n dc
  o : OutsOk ods
  lo : ods.length ≤ 2
theorem LSok.cond {dc : PyData} {ods : List PyData} (h : LSok dc ods) : CondOk dc ∧ (callsF 8 dc).length ≤ 3 := by
  rcases h.c with rfl | ⟨n, n1, n3, td⟩
  · exact ⟨.inl rfl, Nat.zero_le _⟩
  · have k := td.up (show 2 * n ≤ 8 by omega) (show 4 * n - 2 ≤ 1000 by omega)
    exact ⟨.inr ⟨k.tr, k.sz⟩, by rw [k.cn]; exact n3⟩
theorem LSok.len {dc : PyData} {ods : List PyData} (h : LSok dc ods) : (allCalls dc ods).length ≤ 5 := by
  unfold allCalls condCalls
  rw [List.length_append, List.length_map]
  have := h.cond.2
  have := h.lo
  omega
theorem LSt.same {K : PySem.W.Frag} {H H' : Hp} {g : Addr} {dc : PyData} {ods : List PyData} (h : LSt K H g dc ods) (s : Same H H') : LSt K H' g dc ods := by
  obtain ⟨vc, t, us, e, h1, h2, h3⟩ := h
  exact ⟨vc, t, us, s _ _ e, dp_same s h1, same_sqT s h2, dpA_same s h3⟩
/-- what stays when one list is written -/
theorem LSt.list {K : PySem.W.Frag} {H H' : Hp} {g p : Addr} {xs : List V} {dc : PyData} {ods : List PyData} (h : LSt K H g dc ods) (ok : LSok dc ods) (e : H p = some (.lst xs)) (b : But p H H') : LSt K H' g dc ods := by
  obtain ⟨vc, t, us, e0, h1, h2, h3⟩ := h
  have k := fun (a : Addr) (ys : List V) (h : SqT K H a ys) => but_sqT e b h
  exact ⟨vc, t, us, b _ _ e0 (ne_of e0 e (fun z => nomatch z)), dp_tups k _ _ (cond_ok ok.cond.1).1 h1, k _ _ h2, dpAll_tups k _ _ (outs_ok ok.o).1 h3⟩
theorem LSt.but {K : PySem.W.Frag} {H H' : Hp} {g p : Addr} {dc : PyData} {ods : List PyData} (h : LSt K H g dc ods) (ok : LSok dc ods) (hp : PoolAt H p) (b : But p H H') : LSt K H' g dc ods := by
  obtain ⟨x, y, e, _⟩ := hp
  exact h.list ok e b
abbrev sLS : Stmt := topS 45
theorem scLS : FnScope ["_law_pool_here", "_law_b", "_law_most", "_law_many", "_law_st", "_law_at"] ["_law_pool_here", "_law_b", "_law_most"] (defScope sLS) := ⟨rfl, rfl, rfl, by decide +kernel, rfl, by decide +kernel, by decide +kernel⟩
def spLS (K : PySem.W.Frag) : Sp := fun vs H Q _ => ∃ (L : LB) (p b : Addr) (n : Nat), vs = [.ref p, .ref b, .int (n : Nat)] ∧ LOk L ∧ 1 ≤ L.fns.length ∧ PoolAt H p ∧ LBk K L H b ∧ n ≤ 3 ∧ ∀ g dc ods H', But p H H' → PoolAt H' p → H g = none → LSt K H' g dc ods → LSok dc ods → Q (.ref g) H'
section
variable {P : Program} {w : World} {K : PySem.W.Frag} {mg : Str → Option Value} {base : Heap}
theorem ok_ls {f fR fD fC : Addr} {fd dR dD dC : FuncData} (F : Fun K "_law_statement" "_law_statement" sLS f fd) (M : Blt mg) (GR : FnOk P w K mg base CX0 6 fR dR ["_law_pool_here", "_law_b", "_law_many"] (spLT K 3)) (kR : PySem.W.keepIn K (.ref fR) = true) (bR : Binds K dR ["_law_pool_here", "_law_b", "_law_many"] []) (gR : mg "_law_tree" = some (.ref fR))
    (GD : FnOk P w K mg base CX0 1 fD dD ["_law_pool_here", "_law_many"] spDraw) (kD : PySem.W.keepIn K (.ref fD) = true) (bD : Binds K dD ["_law_pool_here", "_law_many"] []) (gD : mg "_law_draw" = some (.ref fD))
    (GC : FnOk P w K mg base CX0 3 fC dC ["_law_pool_here", "_law_b"] (spDC K)) (kC : PySem.W.keepIn K (.ref fC) = true) (bC : Binds K dC ["_law_pool_here", "_law_b"] []) (gC : mg "_law_draw_call" = some (.ref fC)) :
    FnOk P w K mg base CX0 7 f fd ["_law_pool_here", "_law_b", "_law_most"] (spLS K) := by
  refine F.ok scLS (fun vs H Q E h => ?_) (fun cdv A outer s H vs Q E hr h => ?_)
  · obtain ⟨L, p, b, n, rfl, _⟩ := h
    rfl
  · obtain ⟨L, p, b, n, rfl, N, l1, hp, hb, n3, q⟩ := h
    have hu := hu_of hr
    have hr1 : Room 1 (A.deeper (envOfC "_law_statement" (defScope sLS) s.heap.objs.size f cdv)) := hr.mono (by omega)
    have hr3 : Room 3 (A.deeper (envOfC "_law_statement" (defScope sLS) s.heap.objs.size f cdv)) := hr.mono (by omega)
    refine ⟨_, pss_cons (ps_set (i := 3) scLS.nd rfl (.inl rfl) (pe_call GD hr1 (by rfl) gD kD bD .nil pass0 (pa_cons (pv 0) (pa_cons (pe_op op_add (pv 2) pe_int) pa_nil))))
      (pss_cons (ps_set (i := 4) scLS.nd rfl (.inl rfl) (pe_disp (pps_cons pe_str (pe_ifExp (pt_cmpR op_eq (pv 3) pe_int (nomark _)) pe_non (pe_call GR hr (by rfl) gR kR bR .nil pass0 (pa_cons (pv 0) (pa_cons (pv 1) (pa_cons (pv 3) pa_nil))))) (pps_cons pe_str (pe_tup pa_nil) pps_nil)) (by rfl) (by rfl) (by simp) (by decide)))
      (pss_cons (ps_for PassesOwn.never rfl (pi_range1 (by rfl) M.range (pa_cons (pe_call GD hr1 (by rfl) gD kD bD .nil pass0 (pa_cons (pv 0) (pa_cons pe_int pa_nil))) pa_nil)) (pg_name (i := 5) scLS.nd rfl (.inl rfl))
        (pss_one (ps_dput hu (pv 4) pe_str (pe_op op_catA (pe_dget hu (pv 4) pe_str (fun _ _ => rfl)) (pe_tup (pa_cons (pe_tup (pa_cons (pe_call GC hr3 (by rfl) gC kC bC .nil pass0 (pa_cons (pv 0) (pa_cons (pv 1) pa_nil))) (pa_cons (pe_cmpR op_gt (pe_call GD hr1 (by rfl) gD kD bD .nil pass0 (pa_cons (pv 0) (pa_cons pe_int pa_nil))) pe_int (nomark _)) pa_nil))) pa_nil))) (by rfl))))
      (pss_one (ps_ret (pv 4))))), ?_⟩
    refine ⟨.ref p, rfl, _, rfl, _, _, rfl, rfl, p, (n : Int) + 1, rfl, hp, by omega, by omega, fun k H1 k0 kn b1 hp1 fr1 => ?_⟩
    obtain ⟨m, rfl⟩ : ∃ m : Nat, k = (m : Nat) := ⟨k.toNat, by omega⟩
    dsimp only [gName]
    intro g ng
    have npg : p ≠ g := hp1.ne ng
    have ngH : H g = none := by
      cases h : H g with
      | none => rfl
      | some o =>
        have := b1 _ _ h npg.symm
        rw [ng] at this
        cases this
    have sg := same_upd (o := HO.dK []) ng
    have eg : (upd H1 g (.dK [])) g = some (.dK []) := upd_same
    have hp2 := hp1.upd (o := HO.dK []) ng
    have b2 : But p H (upd H1 g (.dK [])) := but_sameN b1 sg
    generalize upd H1 g (.dK []) = H2 at eg hp2 b2 ⊢
    have filt : ∀ R : VK, (∀ v dc H3, But p H2 H3 → PoolAt H3 p → Dp K H3 v dc → (dc = .none ∨ ∃ n, 1 ≤ n ∧ n ≤ 3 ∧ TD n dc) → R v H3) → tIf (tTest (tOp rEq (tVar 3) (tC (V.int 0)))) (tC V.non) (tCall (spLT K 3) [] E0 (tCons (tVar 0) (tCons (tVar 1) (tCons (tVar 3) tNil)))) ((L2.start ["_law_pool_here", "_law_b", "_law_most", "_law_many", "_law_st", "_law_at"] [.ref p, .ref b, .int (n : Nat)]).set 3 (some (.int (m : Nat)))) H2 R := fun R r => by
      refine ⟨_, rfl, rfl, _, rfl, ?_⟩
      by_cases hm : m = 0
      · subst hm
        exact iteT' (by decide) (r _ _ H2 (But.refl p H2) hp2 .non (.inl rfl))
      · refine iteF' (by rw [dint]; exact decide_eq_false (by omega)) ⟨.ref p, rfl, .ref b, rfl, _, rfl, L, p, b, m, rfl, N, l1, hp2, hb.but hp b2, by omega, by omega, by omega, fun v d H3 b3 hp3 dv td => r v d H3 b3 hp3 dv (.inr ⟨m, by omega, by omega, td⟩)⟩
    refine filt _ fun vc dc H3 b3 hp3 dv okc => ?_
    refine ⟨Nat.zero_le _, fun t nt => ?_⟩
    have st := same_upd (o := HO.tup []) nt
    have npg' : g ≠ p := npg.symm
    have eg3 := st _ _ (b3 _ _ eg npg')
    have hp4 := hp3.upd (o := HO.tup []) nt
    have et : (upd H3 t (.tup [])) t = some (.tup []) := upd_same
    have b4 : But p H (upd H3 t (.tup [])) := but_sameN (b2.trans b3) st
    have dv4 := dp_same st dv
    generalize upd H3 t (.tup []) = H4 at eg3 hp4 et b4 dv4 ⊢
    refine ⟨eg3, [(.inr "filter", vc), (.inr "outputs", .ref t)], rfl, (by show 2 ≤ 15; decide), ?_⟩
    have nlc : noL dc = true := by
      rcases okc with rfl | ⟨n, _, _, td⟩
      · rfl
      · exact td_nl td
    have kd : ∀ a xs, SqT K H4 a xs → SqT K (upd H4 g (.dK (mergeK [] [(.inr "filter", vc), (.inr "outputs", .ref t)]))) a xs := fun a xs h => sqT_dk eg3 But.upd h
    have ls5 : LSt K (upd H4 g (.dK (mergeK [] [(.inr "filter", vc), (.inr "outputs", .ref t)]))) g dc [] := ⟨vc, t, [], upd_same, dp_tups kd _ _ nlc dv4, kd _ _ (.inl (.inl et)), .nil⟩
    have b5 : But p H (upd H4 g (.dK (mergeK [] [(.inr "filter", vc), (.inr "outputs", .ref t)]))) := but_new b4 ngH
    have hp5 := pool_ne (o := .dK (mergeK [] [(.inr "filter", vc), (.inr "outputs", .ref t)])) hp4 npg
    generalize upd H4 g (.dK (mergeK [] [(.inr "filter", vc), (.inr "outputs", .ref t)])) = H5 at ls5 b5 hp5 ⊢
    dsimp only [gName, List.set]
    refine ⟨.ref p, rfl, p, 3, rfl, hp5, by omega, by omega, fun k H6 k0 k4 b6 hp6 fr6 => ⟨k, rfl, by omega, by omega, ?_⟩⟩
    have ls0 : LSok dc [] := ⟨okc, ⟨(fun d m => by cases m), rfl⟩, Nat.zero_le _⟩
    refine for_range (lo := 0) (n := k.toNat) (fun j σ H' => ∃ z5, σ = [some (.ref p), some (.ref b), some (.int (n : Nat)), some (.int (m : Nat)), some (.ref g), z5] ∧ But p H H' ∧ PoolAt H' p ∧ ∃ ods, LSt K H' g dc ods ∧ OutsOk ods ∧ ods.length = j)
      ⟨_, rfl, b5.trans b6, hp6, [], ls5.but ls0 hp5 b6, ls0.o, rfl⟩ (fun j σ G hj hW => ?_) (fun σ G hW => ?_)
    · obtain ⟨z5, rfl, bG, hpG, ods, lsG, okG, lj⟩ := hW
      obtain ⟨vc', t', us, eG, d1, h2, h3⟩ := id lsG
      have j2 : j < 2 := by omega
      have lsok : LSok dc ods := ⟨okc, okG, by omega⟩
      refine ⟨.ref g, rfl, g, .ref t', rfl, dg eG "outputs" rfl, ?_⟩
      refine ⟨.ref p, rfl, .ref b, rfl, L, p, b, rfl, N, l1, hpG, hb.but hp bG, fun v c H7 b7 hp7 dvc hc => ?_⟩
      refine ⟨.ref p, rfl, p, 3, rfl, hp7, by decide, by decide, fun i H8 i0 i3 b8 hp8 fr8 => ⟨_, _, rfl, rfl, ?_⟩⟩
      have ls8 := (lsG.but lsok hpG b7).but lsok hp7 b8
      obtain ⟨vc8, t8, us8, e8, d8, h28, h38⟩ := id ls8
      have same8 : (V.ref t' : V) = .ref t8 := by
        have := b8 _ _ (b7 _ _ eG npg') npg'
        rw [e8] at this
        injection this with this
        injection this with this
        injection this with _ this
        injection this with this _
        injection this with _ this
        exact this.symm
      cases same8
      have dc8 := dp_but hp7 b8 (call_ok hc).1 dvc
      refine ⟨(by show 2 ≤ sizeLine; decide), fun t1 nt1 => ⟨(by show 1 ≤ sizeLine; decide), fun t2 nt2 => ?_⟩⟩
      have s1 := same_upd (o := HO.tup [v, .bl (decide (0 < i))]) nt1
      have e1 : (upd H8 t1 (.tup [v, .bl (decide (0 < i))])) t1 = some (.tup [v, .bl (decide (0 < i))]) := upd_same
      have hp9 := hp8.upd (o := HO.tup [v, .bl (decide (0 < i))]) nt1
      generalize upd H8 t1 (.tup [v, .bl (decide (0 < i))]) = H9 at s1 e1 hp9 nt2 ⊢
      have s2 := same_upd (o := HO.tup [V.ref t1]) nt2
      have e2 : (upd H9 t2 (.tup [V.ref t1])) t2 = some (.tup [V.ref t1]) := upd_same
      have hp10 := hp9.upd (o := HO.tup [V.ref t1]) nt2
      generalize upd H9 t2 (.tup [V.ref t1]) = H10 at s2 e2 hp10 ⊢
      have s12 := s1.trans s2
      have b10 : But p H H10 := but_sameN ((bG.trans b7).trans b8) s12
      have hnew : Dp K H10 (.ref t1) (.tuple [c, .bool (decide (0 < i))]) := .tup (.inl (.inl (s2 _ _ e1))) (.cons (dp_same s12 dc8) (.cons (.bl _) .nil))
      have okN : OutsOk (ods ++ [.tuple [c, .bool (decide (0 < i))]]) := outs_snoc okG hc
      have fin : ∀ (o : Addr) (ys : List V) (H11 : Hp), Same H10 H11 → PoolAt H11 p → SqT K H11 o ys → DpAll K H11 ys (ods ++ [.tuple [c, .bool (decide (0 < i))]]) →
          ∃ z5, [some (V.ref p), some (.ref b), some (.int (n : Nat)), some (.int (m : Nat)), some (.ref g), some (.int (0 + (j : Int)))] = [some (.ref p), some (.ref b), some (.int (n : Nat)), some (.int (m : Nat)), some (.ref g), z5] ∧ But p H (upd H11 g (.dK (putK [(.inr "filter", vc8), (.inr "outputs", .ref t')] (.inr "outputs" : Key) (.ref o)))) ∧ PoolAt (upd H11 g (.dK (putK [(.inr "filter", vc8), (.inr "outputs", .ref t')] (.inr "outputs" : Key) (.ref o)))) p ∧ ∃ ods2, LSt K (upd H11 g (.dK (putK [(.inr "filter", vc8), (.inr "outputs", .ref t')] (.inr "outputs" : Key) (.ref o)))) g dc ods2 ∧ OutsOk ods2 ∧ ods2.length = j + 1 := fun o ys H11 s11 hp11 ho hys => by
        have e11 := s11 _ _ (s12 _ _ e8)
        have k11 : ∀ a xs, SqT K H11 a xs → SqT K (upd H11 g (.dK (putK [(.inr "filter", vc8), (.inr "outputs", .ref t')] (.inr "outputs" : Key) (.ref o)))) a xs := fun a xs h => sqT_dk e11 But.upd h
        refine ⟨_, rfl, but_new (but_sameN b10 s11) ngH, pool_ne hp11 npg, ods ++ [.tuple [c, .bool (decide (0 < i))]], ⟨vc8, o, ys, upd_same, dp_tups k11 _ _ nlc (dp_same (s12.trans s11) d8), k11 _ _ ho, dpAll_tups k11 _ _ (outs_ok okN).1 hys⟩, okN, by rw [List.length_append, lj]; rfl⟩
      have lu : us8.length ≤ 2 := by rw [dpA_len h38]; omega
      refine ⟨t', t2, us8, [.ref t1], rfl, rfl, same_sqT s12 h28, .inl (.inl e2), Nat.le_trans (show us8.length + 1 ≤ 9 by omega) (by decide), fun e0 => ?_, fun _ e1 => absurd e1 (List.cons_ne_nil _ _), fun _ _ p3 np3 => ?_⟩
      · subst e0
        have ho : ods = [] := List.length_eq_zero_iff.mp (dpA_len h38).symm
        refine ⟨.ref g, rfl, g, _, rfl, .inl ⟨_, .inr "outputs", s12 _ _ e8, rfl, (by show 2 < sizeLine; decide), rfl⟩, ?_⟩
        refine fin t2 [.ref t1] H10 (Same.refl _) hp10 (.inl (.inl e2)) ?_
        rw [ho]
        exact .cons hnew .nil
      · have s3 := same_upd (o := HO.tup (us8 ++ [V.ref t1])) np3
        refine ⟨.ref g, rfl, g, _, rfl, .inl ⟨_, .inr "outputs", s3 _ _ (s12 _ _ e8), rfl, (by show 2 < sizeLine; decide), rfl⟩, ?_⟩
        exact fin p3 (us8 ++ [.ref t1]) _ s3 (hp10.upd np3) (.inl (.inl upd_same)) (dpA_app (dpA_same (s12.trans s3) h38) (.cons (dp_same s3 hnew) .nil))
    · obtain ⟨z5, rfl, bG, hpG, ods, lsG, okG, lj⟩ := hW
      exact ⟨.ref g, rfl, q g dc ods G bG hpG ngH lsG ⟨okc, okG, by omega⟩⟩
end
/-! ### the law's calls of a statement; a statement made; values put in -/
abbrev sLA : Stmt := topS 42
theorem scLA : FnScope ["_law_st", "_law_row"] ["_law_st"] (defScope sLA) := ⟨rfl, rfl, rfl, by decide +kernel, rfl, by decide +kernel, by decide +kernel⟩
abbrev sLMS : Stmt := topS 46
theorem scLMS : FnScope ["_law_st"] ["_law_st"] (defScope sLMS) := ⟨rfl, rfl, rfl, by decide +kernel, rfl, by decide +kernel, by decide +kernel⟩
abbrev sLPI : Stmt := topS 47
theorem scLPI : FnScope ["_law_call", "_law_row", "_law_spots", "_law_one"] ["_law_call", "_law_row"] (defScope sLPI) := ⟨rfl, rfl, rfl, by decide +kernel, rfl, by decide +kernel, by decide +kernel⟩
def spLA (K : PySem.W.Frag) : Sp := fun vs H Q _ => ∃ (g : Addr) (dc : PyData) (ods : List PyData), vs = [.ref g] ∧ LSt K H g dc ods ∧ LSok dc ods ∧ ∀ p xs H', Same H H' → H p = none → H' p = some (.lst xs) → DpAll K H xs (allCalls dc ods) → Q (.ref p) H'
def spLMS (K : PySem.W.Frag) (CS : Addr) : Sp := fun vs H Q _ => ∃ (g : Addr) (dc : PyData) (ods : List PyData), vs = [.ref g] ∧ LSt K H g dc ods ∧ LSok dc ods ∧ ∀ b H', Same H H' → StAt K H' CS b dc ods → Q (.ref b) H'
def spLPI (K : PySem.W.Frag) : Sp := fun vs H Q _ => ∃ (v : V) (c : PyData) (a : Addr) (r0 r1 : Int), vs = [v, .ref a] ∧ Dp K H v c ∧ callB c = true ∧ RowAt K H a r0 r1 ∧ ∀ t H', Same H H' → SqT K H' t ((rowVals r0 r1 c).map V.int) → Q (.ref t) H'
section
variable {P : Program} {w : World} {K : PySem.W.Frag} {mg : Str → Option Value} {base : Heap}
theorem ok_la {f fI : Addr} {fd dI : FuncData} (F : Fun K "_law_all_calls" "_law_all_calls" sLA f fd) (M : Blt mg) (GI : FnOk P w K mg base CX0 (1 + 8) fI dI ["_law_tree_here"] (spLX K callsF 8)) (kI : PySem.W.keepIn K (.ref fI) = true) (bI : Binds K dI ["_law_tree_here"] []) (gI : mg "_law_calls_in" = some (.ref fI)) : FnOk P w K mg base CX0 10 f fd ["_law_st"] (spLA K) := by
  refine F.ok scLA (fun vs H Q E h => ?_) (fun cdv A outer s H vs Q E hr h => ?_)
  · obtain ⟨g, dc, ods, rfl, _⟩ := h
    rfl
  · obtain ⟨g, dc, ods, rfl, ls, ok, q⟩ := h
    obtain ⟨vc, t, us, e, h1, h2, h3⟩ := id ls
    have hu := hu_of hr
    refine ⟨_, pss_one (ps_ret (pe_op op_cat (pe_call GI hr (by rfl) gI kI bI .nil pass0 (pa_cons (pe_dget hu (pv 0) pe_str (fun _ _ => rfl)) pa_nil))
      (pe_lc (own := [("_law_row", 1)]) (g := gName 1) (wi := iTup K (tDGet (tVar 0) (tC (.str "outputs")))) (tt := tYes) (te := tOp (rIxT K) (tVar 1) (tC (.int 0))) (by rfl) scLA.nd (pi_tup (pe_dget hu (pv 0) pe_str (fun _ _ => rfl))) (blkOk_by (own := [("_law_row", 1)]) (N := ["_law_st", "_law_row"]) (sc := defScope sLA) (by decide +kernel))
        (fun _ _ _ _ _ => pg_name (i := 1) scLA.nd rfl (Or.inl rfl)) (fun _ _ _ _ _ => pts_nil) (fun _ _ _ _ _ => pe_ix ix_tup (pv 1) pe_int (fun _ _ => rfl))))), ?_⟩
    have hc8 : dc = .none ∨ treeB 8 dc = true := by
      rcases ok.cond.1 with h | ⟨h, _⟩
      · exact .inl h
      · exact .inr h
    have l3 := ok.cond.2
    refine ⟨.ref g, rfl, g, vc, rfl, dg e "filter" rfl, vc, dc, H, rfl, Same.refl H, h1, hc8, by omega, fun l xs H1 s1 nl el hxs => ?_⟩
    refine ⟨.ref g, rfl, g, .ref t, rfl, dg (s1 _ _ e) "outputs" rfl, t, rfl, ⟨_, same_sqT s1 h2⟩, fun D nD => ?_⟩
    refine walk_gen (walk_tup (K := K) (a := t) (xs := us)) (fun n H2 => Same H1 H2 ∧ ∃ acc, H2 D = some (.lst acc) ∧ DpAll K H acc ((ods.take n).map fstD)) ⟨same_upd nD, [], upd_same, .nil⟩ (fun _ H' _ p => same_sqT (s1.trans p.1) h2) (fun n x H2 H3 hi p y => ?_) (fun H2 p => ?_)
    · obtain ⟨s2, acc, eD, ha⟩ := p
      obtain ⟨rfl, hx⟩ := y
      obtain ⟨d, hdi, hv⟩ := dpA_at h3 hx
      obtain ⟨c, b, rfl, hc⟩ := outB_at (ok.o.ok d (List.mem_of_getElem? hdi))
      cases hv with
      | @tup ea ys _ hs ha2 =>
      obtain ⟨x1, x2, rfl, k1, k2⟩ := dp_pair ha2
      refine ⟨rfl, ?_⟩
      unfold tYes
      refine iteT ⟨_, rfl, ea, _, 0, x1, rfl, rfl, same_sqT (s1.trans s2) hs, atI_nat (j := 0) rfl, acc, eD, ?_, same_updN s2 nD, _, upd_same, ?_⟩
      · rw [dpA_len ha, List.length_map, List.length_take]
        exact Nat.lt_of_le_of_lt (show _ ≤ 2 by have := ok.lo; omega) (by decide)
      · rw [take_snoc hdi, List.map_append]
        exact dpA_app ha (.cons k1 .nil)
    · obtain ⟨s2, acc, eD, ha⟩ := p
      rw [dpA_len h3, List.take_length] at ha
      refine ⟨l, D, xs, acc, rfl, rfl, s2 _ _ el, eD, ?_, fun p np => ?_⟩
      · rw [dpA_len hxs, dpA_len ha, List.length_map]
        exact Nat.le_trans (show _ ≤ 5 by have := ok.lo; omega) (by decide)
      · exact q p (xs ++ acc) _ ((s1.trans s2).trans (same_upd np)) ((s1.trans s2).free np) upd_same (dpA_app hxs ha)
theorem ok_lms {CS f fI : Addr} {fd dI : FuncData} (F : Fun K "_law_made_statement" "_law_made_statement" sLMS f fd) (SM : StMk P w K mg base CS fI dI) : FnOk P w K mg base CX0 16 f fd ["_law_st"] (spLMS K CS) := by
  refine F.ok scLMS (fun vs H Q E h => ?_) (fun cdv A outer s H vs Q E hr h => ?_)
  · obtain ⟨g, dc, ods, rfl, _⟩ := h
    rfl
  · obtain ⟨g, dc, ods, rfl, ⟨vc, t, us, e, h1, h2, h3⟩, ok, q⟩ := h
    have hu := hu_of hr
    refine ⟨_, pss_one (ps_ret (pe_make (dvs := []) SM.make SM.ok hr (by rfl) SM.gC SM.bi .nil pass0 (pa_cons (pe_dget hu (pv 0) pe_str (fun _ _ => rfl)) (pa_cons (pe_dget hu (pv 0) pe_str (fun _ _ => rfl)) pa_nil)))), ?_⟩
    refine ⟨.ref g, rfl, g, vc, rfl, dg e "filter" rfl, .ref g, rfl, g, .ref t, rfl, dg e "outputs" rfl, fun x dx nx nd _ => ?_⟩
    exact st_made (Q := Q) nx nd h1 ok.cond.1 (.inr h2) h3 ok.o (by have := ok.len; omega) fun H' s' hS => q x H' s' hS
theorem ok_lpi {f : Addr} {fd : FuncData} (F : Fun K "_law_put_in" "_law_put_in" sLPI f fd) (M : Blt mg) : FnOk P w K mg base CX0 1 f fd ["_law_call", "_law_row"] (spLPI K) := by
  refine F.ok scLPI (fun vs H Q E h => ?_) (fun cdv A outer s H vs Q E hr h => ?_)
  · obtain ⟨v, c, a, r0, r1, rfl, _⟩ := h
    rfl
  · obtain ⟨v, c, a, r0, r1, rfl, hv, hc, hrow, q⟩ := h
    obtain ⟨n, as, rfl, hn, l2, hg⟩ := call_shape hc
    have hu := hu_of hr
    refine ⟨_, pss_cons (ps_set (i := 2) scLPI.nd rfl (.inr rfl) (pe_disp (pps_cons pe_str (pe_ix ix_tup (pv 1) pe_int (fun _ _ => rfl)) (pps_cons pe_str (pe_ix ix_tup (pv 1) pe_int (fun _ _ => rfl)) pps_nil)) (by rfl) (by rfl) (by simp) (by decide)))
      (pss_one (ps_ret (pe_callTy call_tuple_of (by rfl) M.tuple (by decide +kernel) (pa_cons
        (pe_lc (own := [("_law_one", 3)]) (g := gName 3) (wi := iTup K (tOp (rIxT K) (tVar 0) (tC (.int 1)))) (tt := tYes) (te := tIf (tTest (tOp (rIn K false) (tVar 3) (tLst (tCons (tC (.str "x")) (tCons (tC (.str "y")) tNil))))) (tDGet (tVar 2) (tVar 3)) (tVar 3)) (by rfl) scLPI.nd (pi_tup (pe_ix ix_tup (pv 0) pe_int (fun _ _ => rfl))) (blkOk_by (own := [("_law_one", 3)]) (N := ["_law_call", "_law_row", "_law_spots", "_law_one"]) (sc := defScope sLPI) (by decide +kernel))
          (fun _ _ _ _ _ => pg_name (i := 3) scLPI.nd rfl (Or.inl rfl)) (fun _ _ _ _ _ => pts_nil) (fun _ _ _ _ _ => pe_ifExp (pt_cmpR op_in_seq (pv 3) (pe_lst (pa_cons pe_str (pa_cons pe_str pa_nil))) (by rfl)) (pe_dget hu (pv 2) (pv 3) (fun _ _ => rfl)) (pv 3))) pa_nil)))), ?_⟩
    intro g ng
    have sg := same_upd (o := HO.dK []) ng
    have eg : (upd H g (.dK [])) g = some (.dK []) := upd_same
    generalize upd H g (.dK []) = H1 at sg eg ⊢
    have hrow1 := same_sqT sg hrow
    refine ⟨_, rfl, a, _, 0, .int r0, rfl, rfl, hrow1, atI_nat (j := 0) rfl, _, rfl, a, _, 1, .int r1, rfl, rfl, hrow1, atI_nat (j := 1) rfl, eg, [(.inr "x", .int r0), (.inr "y", .int r1)], rfl, (by show 2 ≤ 15; decide), ?_⟩
    have s2 : Same H (upd H1 g (.dK (mergeK [] [(.inr "x", .int r0), (.inr "y", .int r1)]))) := same_updN sg ng
    have e2 : (upd H1 g (.dK (mergeK [] [(.inr "x", .int r0), (.inr "y", .int r1)]))) g = some (.dK [(.inr "x", .int r0), (.inr "y", .int r1)]) := upd_same
    generalize upd H1 g (.dK (mergeK [] [(.inr "x", .int r0), (.inr "y", .int r1)])) = H2 at s2 e2 ⊢
    cases hv with
    | @tup ea xs _ hs ha =>
    obtain ⟨x1, x2, rfl, k1, k2⟩ := dp_pair ha
    cases k2 with
    | @tup b us _ hs2 ha2 =>
    have lu := dpA_len ha2
    refine ⟨_, rfl, ea, _, 1, .ref b, rfl, rfl, same_sqT s2 hs, atI_nat (j := 1) rfl, b, rfl, ⟨_, same_sqT s2 hs2⟩, fun D hD => ?_⟩
    refine lc_vals (walk_tup (K := K) (a := b) (xs := us)) (fun i => .int (inRow r0 r1 (as.getD i .none))) (by omega) hD (fun x => rfl) (fun H' s => same_sqT (s2.trans s) hs2) (fun i x H3 H4 hi s3 y => ?_) (fun H3 s3 e3 => ?_)
    · obtain ⟨rfl, hx⟩ := y
      obtain ⟨d, hi2, hxe⟩ := dpA_at ha2 hx
      have ge := hg d (List.mem_of_getElem? hi2)
      refine ⟨Same.refl _, fun Q' q' => ?_⟩
      rw [getD_some hi2] at q'
      refine ⟨x, rfl, (by show 2 ≤ sizeLine; decide), fun l nl => ?_⟩
      have sl := same_upd (o := HO.lst [V.str "x", .str "y"]) nl
      have el : (upd H4 l (.lst [V.str "x", .str "y"])) l = some (.lst [V.str "x", .str "y"]) := upd_same
      generalize upd H4 l (.lst [V.str "x", .str "y"]) = H5 at sl el ⊢
      have t5 := (s2.trans s3).trans sl
      cases hxe with
      | int j =>
        refine ⟨l, _, rfl, .inl (.inl (.inl el)), rfl, by decide, ?_⟩
        exact ⟨_, rfl, iteF' rfl ⟨_, rfl, q' _ sl⟩⟩
      | str z =>
        have hz2 : z = "x" ∨ z = "y" := of_decide_eq_true (show decide (z = "x" ∨ z = "y") = true from ge)
        refine ⟨l, _, rfl, .inl (.inl (.inl el)), rfl, by decide, ?_⟩
        refine ⟨_, rfl, iteT' (by rw [in_two, decide_eq_true hz2]; rfl) ⟨.ref g, rfl, .str z, rfl, g, .int (inRow r0 r1 (.str z)), rfl, dg (sl _ _ (s3 _ _ e2)) z ?_, q' _ sl⟩⟩
        rcases hz2 with rfl | rfl <;> rfl
      | _ => cases ge
    · have e4 : ((List.range us.length).map fun i => V.int (inRow r0 r1 (as.getD i .none))) = (rowVals r0 r1 (.tuple [n, .tuple as])).map V.int := by
        show _ = (as.map (inRow r0 r1)).map V.int
        rw [lu]
        apply List.ext_getElem?
        intro i
        rw [List.getElem?_map, List.getElem?_map, List.getElem?_map]
        by_cases h : i < as.length
        · rw [List.getElem?_range h, List.getElem?_eq_getElem h, Option.map_some, Option.map_some, Option.map_some, List.getD_eq_getElem?_getD, List.getElem?_eq_getElem h]
          rfl
        · rw [List.getElem?_eq_none (by rw [List.length_range]; omega), List.getElem?_eq_none (by omega)]
          rfl
      rw [e4] at e3
      exact ⟨D, _, rfl, .inl ⟨.inl (.inl e3), fun t nt => q t _ ((s2.trans s3).trans (same_upd nt)) (.inl (.inl upd_same))⟩⟩
end
/-! ### forms, right and wrong -/
/-- te makes a datum, over all that H0 has -/
def DatS (K : PySem.W.Frag) (H0 : Hp) (te : TE) (σ : L2.St) (d : PyData) : Prop := ∀ (H : Hp) (Q : VK), Same H0 H → (∀ v H', Same H H' → Dp K H' v d → Q v H') → te σ H Q
def DatSA (K : PySem.W.Frag) (H0 : Hp) (ta : TA) (σ : L2.St) (ds : List PyData) : Prop := ∀ (H : Hp) (Q : List V → Hp → Prop), Same H0 H → (∀ vs H', Same H H' → DpAll K H' vs ds → Q vs H') → ta σ H Q
section
variable {K : PySem.W.Frag} {H0 : Hp} {σ : L2.St}
theorem ds_non : DatS K H0 (tC .non) σ .none := fun H Q _ q => q _ H (Same.refl H) .non
theorem ds_bl {b : Bool} : DatS K H0 (tC (.bl b)) σ (.bool b) := fun H Q _ q => q _ H (Same.refl H) (.bl b)
theorem ds_int {i : Int} : DatS K H0 (tC (.int i)) σ (.int i) := fun H Q _ q => q _ H (Same.refl H) (.int i)
theorem ds_str {z : Str} : DatS K H0 (tC (.str z)) σ (.str z) := fun H Q _ q => q _ H (Same.refl H) (.str z)
theorem ds_var {i : Nat} {v : V} {d : PyData} (e : σ[i]? = some (some v)) (h : Dp K H0 v d) : DatS K H0 (tVar i) σ d := fun H Q s q => ⟨v, e, q v H (Same.refl H) (dp_same s h)⟩
theorem dsa_nil : DatSA K H0 tNil σ [] := fun H Q _ q => q _ H (Same.refl H) .nil
theorem dsa_cons {te : TE} {ta : TA} {d : PyData} {ds : List PyData} (h : DatS K H0 te σ d) (r : DatSA K H0 ta σ ds) : DatSA K H0 (tCons te ta) σ (d :: ds) := fun H Q s q => h H _ s fun v H1 s1 hv => r H1 _ (s.trans s1) fun vs H2 s2 hs => q _ H2 (s1.trans s2) (.cons (dp_same s2 hv) hs)
theorem ds_tup {ta : TA} {ds : List PyData} (h : DatSA K H0 ta σ ds) (n : ds.length ≤ sizeLine) : DatS K H0 (tTup ta) σ (.tuple ds) := fun H Q s q => h H _ s fun vs H1 s1 hs => ⟨by rw [dpA_len hs]; exact n, fun p np => q _ _ (s1.trans (same_upd np)) (.tup (.inl (.inl upd_same)) (dpA_same (same_upd np) hs))⟩
theorem ds_lst {ta : TA} {ds : List PyData} (h : DatSA K H0 ta σ ds) (n : ds.length ≤ sizeLine) : DatS K H0 (tLst ta) σ (.list ds) := fun H Q s q => h H _ s fun vs H1 s1 hs => ⟨by rw [dpA_len hs]; exact n, fun p np => q _ _ (s1.trans (same_upd np)) (.lst (.inl (.inl upd_same)) (dpA_same (same_upd np) hs))⟩
theorem dpA_rep {H : Hp} {v : V} {d : PyData} (h : Dp K H v d) : ∀ k : Nat, DpAll K H (List.replicate k [v]).flatten (List.replicate k d)
  | 0 => .nil
  | k + 1 => .cons h (dpA_rep h k)
theorem ds_repT {te : TE} {d : PyData} {k : Int} {m : Nat} (h : DatS K H0 te σ d) (k2 : 2 ≤ k) (k3 : k ≤ 1000) (hm : k.toNat = m) : DatS K H0 (tOp (rRepT K) (tTup (tCons te tNil)) (tC (.int k))) σ (.tuple (List.replicate m d)) := fun H Q s q => h H _ s fun v H1 s1 hv => ⟨(by show 1 ≤ sizeLine; decide), fun p np => ⟨p, k, [v], rfl, rfl, .inl (.inl upd_same), List.cons_ne_nil _ _, k2, k3, by show 1 ≤ 1000; decide, fun p2 np2 => by
  have s2 := (same_upd (o := HO.tup [v]) np).trans (same_upd (o := HO.tup (List.replicate k.toNat [v]).flatten) np2)
  exact q _ _ (s1.trans s2) (.tup (.inl (.inl upd_same)) (hm ▸ dpA_rep (dp_same s2 hv) _))⟩⟩
theorem ds_repL {te : TE} {d : PyData} {k : Int} {m : Nat} (h : DatS K H0 te σ d) (k2 : 0 ≤ k) (k3 : k ≤ 1000) (hm : k.toNat = m) : DatS K H0 (tOp rRep (tLst (tCons te tNil)) (tC (.int k))) σ (.list (List.replicate m d)) := fun H Q s q => h H _ s fun v H1 s1 hv => ⟨(by show 1 ≤ sizeLine; decide), fun p np => ⟨p, k, [v], rfl, rfl, upd_same, by omega, by omega, Nat.le_trans (show 1 * k.toNat ≤ 1000 by omega) (by decide), fun p2 np2 => by
  have s2 := (same_upd (o := HO.lst [v]) np).trans (same_upd (o := HO.lst (List.replicate k.toNat [v]).flatten) np2)
  exact q _ _ (s1.trans s2) (.lst (.inl (.inl upd_same)) (hm ▸ dpA_rep (dp_same s2 hv) _))⟩⟩
/-- a new list, with its items -/
theorem dsl_new {ta : TA} {ds : List PyData} (h : DatSA K H0 ta σ ds) (n : ds.length ≤ sizeLine) {H : Hp} {Q : VK} (s : Same H0 H) (q : ∀ l xs H', Same H H' → H' l = some (.lst xs) → DpAll K H' xs ds → Q (.ref l) H') : tLst ta σ H Q :=
  h H _ s fun vs H1 s1 hs => ⟨by rw [dpA_len hs]; exact n, fun p np => q p vs _ (s1.trans (same_upd np)) upd_same (dpA_same (same_upd np) hs)⟩
/-- f(e) of a datum -/
theorem ds_ask {g : PyData → Bool} {te : TE} {d : PyData} (h : DatS K H0 te σ d) (z : szD d = true) {H : Hp} {Q : VK} (s : Same H0 H) (q : ∀ H', Same H H' → Q (.bl (g d)) H') : tCall (spB K g) [] E0 (tCons te tNil) σ H Q := h H _ s fun v H1 s1 hv => ⟨v, d, rfl, hv, z, fun H2 s2 => q H2 (s1.trans s2)⟩
end
abbrev sLFR : Stmt := topS 48
theorem scLFR : FnScope ["_law_tree_here", "_law_odds", "_law_odd"] ["_law_tree_here"] (defScope sLFR) := ⟨rfl, rfl, rfl, by decide +kernel, rfl, by decide +kernel, by decide +kernel⟩
def odds1 (d : PyData) : List PyData := [.none, .int 5, .str "is", .tuple [], .tuple [.str "is"], .tuple [.str "not"], .tuple [.str "and", .tuple []], .tuple [.str "and", .list [d]]]
def odds2 : List PyData := [.tuple [.str "is", .tuple [.str "f", .tuple []], .int 3], .tuple [.str "not", .none]]
def odds3 : List PyData := [.none, .tuple [.str "f"], .tuple [.str "f", .list [.str "x"]], .tuple [.str "F", .tuple []], .tuple [.str "f", .tuple [.str "z"]], .tuple [.str "f", .tuple [.int 3]], .tuple [.str "f", .tuple [.bool true]], .tuple [.str "f", .tuple (List.replicate 3 (.str "x"))]]
def odds4 : List PyData := [.none, .int 5, .list [.tuple [.int 0]], .list [.tuple [.int 0, .int 3]], .list [.list [.int 0, .int 1]], .list [.tuple [.int 0, .bool true]], .list (List.replicate 7 (.tuple [.int 0, .int 0]))]
theorem odds1_bad {d : PyData} (z : szD d = true) : ∀ e ∈ odds1 d ++ odds2, treeB 8 e = false ∧ szD e = true := by
  intro e m
  simp only [odds1, odds2, List.cons_append, List.nil_append, List.mem_cons, List.not_mem_nil, or_false] at m
  rcases m with rfl | rfl | rfl | rfl | rfl | rfl | rfl | rfl | rfl | rfl
  case inr.inr.inr.inr.inr.inr.inr.inl =>
    refine ⟨rfl, ?_⟩
    show (decide (2 ≤ 1000) && (szD (.str "and") && ((decide (1 ≤ 1000) && (szD d && true)) && true))) = true
    rw [z]
    decide +kernel
  all_goals exact ⟨by decide +kernel, by decide +kernel⟩
theorem odds3_bad : ∀ e ∈ odds3, callB e = false ∧ szD e = true ∧ treeB 8 (.tuple [.str "is", e, .int 0]) = false ∧ szD (.tuple [.str "is", e, .int 0]) = true := by
  intro e m
  simp only [odds3, List.mem_cons, List.not_mem_nil, or_false] at m
  rcases m with rfl | rfl | rfl | rfl | rfl | rfl | rfl | rfl <;> exact ⟨by decide +kernel, by decide +kernel, by decide +kernel, by decide +kernel⟩
theorem odds4_bad : ∀ e ∈ odds4, tableB e = false ∧ szD e = true := by
  intro e m
  simp only [odds4, List.mem_cons, List.not_mem_nil, or_false] at m
  rcases m with rfl | rfl | rfl | rfl | rfl | rfl | rfl <;> exact ⟨by decide +kernel, by decide +kernel⟩
theorem odd_loop {K : PySem.W.Frag} {tl : TE} {tc : TT} {tz tr : TS} {D : Ends} {H : Hp} {ds : List PyData} {a0 a1 z : Option V}
    (hl : ∀ R : VK, (∀ l xs H', Same H H' → H' l = some (.lst xs) → DpAll K H' xs ds → R (.ref l) H') → tl [a0, a1, z] H R)
    (hc : ∀ (x : V) (d : PyData) (H1 : Hp), Same H H1 → d ∈ ds → Dp K H1 x d → ∀ R : Bool → Hp → Prop, (∀ H2, Same H1 H2 → R false H2) → tc [a0, a1, some x] H1 R)
    (k : ∀ z H', Same H H' → tz D [a0, a1, z] H') : tSeq (tFor (iList K tl) (gName 2) (tIfS tc tr tNext)) tz D [a0, a1, z] H := by
  refine hl _ fun l xs H1 s1 el hxs => ?_
  refine ⟨l, rfl, ⟨_, .inl (.inl el)⟩, ?_⟩
  refine for_list (K := K) (a := l) (xs := xs) (fun j σ H' => ∃ z, σ = [a0, a1, z] ∧ Same H1 H') ⟨_, rfl, Same.refl _⟩ (fun j σ H' _ pr => ?_) (fun j x σ H' hx pr => ?_) (fun σ H' pr => ?_)
  · obtain ⟨_, _, s'⟩ := pr
    exact .inl (.inl (s' _ _ el))
  · obtain ⟨z, rfl, s'⟩ := pr
    obtain ⟨d, hd, hv⟩ := dpA_at hxs hx
    exact hc x d H' (s1.trans s') (List.mem_of_getElem? hd) (dp_same s' hv) _ fun H2 s2 => iteF ⟨_, rfl, s'.trans s2⟩
  · obtain ⟨z, rfl, s'⟩ := pr
    exact k z H' (s1.trans s')
/-- f(e) is not b, where it is b -/
theorem nf_isnot {K : PySem.W.Frag} {H0 H : Hp} {σ : L2.St} {g : PyData → Bool} {te : TE} {d : PyData} {b : Bool} (h : DatS K H0 te σ d) (z : szD d = true) (e : g d = b) (s : Same H0 H) {R : Bool → Hp → Prop} (r : ∀ H', Same H H' → R false H') :
    tTest (tOp (fun x y H Q => ∃ a b, x = V.bl a ∧ y = V.bl b ∧ Q (V.bl (!decide (a = b))) H) (tCall (spB K g) [] E0 (tCons te tNil)) (tC (V.bl b))) σ H R :=
  ds_ask h z s fun H1 s1 => ⟨_, _, rfl, rfl, _, rfl, by rw [e, decide_eq_true rfl]; exact r H1 s1⟩
def spLFR (K : PySem.W.Frag) : Sp := fun vs H Q _ => ∃ (v : V) (d : PyData), vs = [v] ∧ Dp K H v d ∧ treeB 1 d = true ∧ ∀ H', Same H H' → Q (.bl true) H'
section
variable {P : Program} {w : World} {K : PySem.W.Frag} {mg : Str → Option Value} {base : Heap}
theorem ok_lfr {f fT fC fB : Addr} {fd dT dC dB : FuncData} (F : Fun K "_law_forms_right" "_law_forms_right" sLFR f fd)
    (GT : FnOk P w K mg base CX0 13 fT dT ["value"] (spB K (treeB 8))) (kT : PySem.W.keepIn K (.ref fT) = true) (bT : Binds K dT ["value"] []) (gT : mg "is_tree" = some (.ref fT))
    (GC : FnOk P w K mg base CX0 3 fC dC ["value"] (spB K callB)) (kC : PySem.W.keepIn K (.ref fC) = true) (bC : Binds K dC ["value"] []) (gC : mg "is_call" = some (.ref fC))
    (GB : FnOk P w K mg base CX0 5 fB dB ["value"] (spB K tableB)) (kB : PySem.W.keepIn K (.ref fB) = true) (bB : Binds K dB ["value"] []) (gB : mg "is_table" = some (.ref fB)) :
    FnOk P w K mg base CX0 14 f fd ["_law_tree_here"] (spLFR K) := by
  refine F.ok scLFR (fun vs H Q E h => ?_) (fun cdv A outer s H vs Q E hr h => ?_)
  · obtain ⟨v, d, rfl, _⟩ := h
    rfl
  · obtain ⟨v, d, rfl, hv, ht, q⟩ := h
    have hr3 : Room 3 (A.deeper (envOfC "_law_forms_right" (defScope sLFR) s.heap.objs.size f cdv)) := hr.mono (by omega)
    have hr5 : Room 5 (A.deeper (envOfC "_law_forms_right" (defScope sLFR) s.heap.objs.size f cdv)) := hr.mono (by omega)
    refine ⟨_, pss_cons (ps_set (i := 1) scLFR.nd rfl (.inl rfl) (pe_lst (pa_cons pe_non (pa_cons pe_int (pa_cons pe_str (pa_cons (pe_tup pa_nil) (pa_cons (pe_tup (pa_cons pe_str pa_nil)) (pa_cons (pe_tup (pa_cons pe_str pa_nil)) (pa_cons (pe_tup (pa_cons pe_str (pa_cons (pe_tup pa_nil) pa_nil))) (pa_cons (pe_tup (pa_cons pe_str (pa_cons (pe_lst (pa_cons (pv 0) pa_nil)) pa_nil))) pa_nil))))))))))
      (pss_cons (ps_for PassesOwn.never rfl (pi_list (pe_op op_cat (pv 1) (pe_lst (pa_cons (pe_tup (pa_cons pe_str (pa_cons (pe_tup (pa_cons pe_str (pa_cons (pe_tup pa_nil) pa_nil))) (pa_cons pe_int pa_nil)))) (pa_cons (pe_tup (pa_cons pe_str (pa_cons pe_non pa_nil))) pa_nil))))) (pg_name (i := 2) scLFR.nd rfl (.inl rfl))
        (pss_one (ps_if (pt_cmpR op_isnot_bl (pe_call GT hr (by rfl) gT kT bT .nil pass0 (pa_cons (pv 2) pa_nil)) pe_bl (nomark _)) (pss_one (ps_ret pe_bl)) pss_nil)))
      (pss_cons (ps_if (PW.pt (pw_or (pt_cmpR op_isnot_bl (pe_call GT hr (by rfl) gT kT bT .nil pass0 (pa_cons (pv 0) pa_nil)) pe_bl (nomark _)) (pw_or (pt_cmpR op_isnot_bl (pe_call GT hr (by rfl) gT kT bT .nil pass0 (pa_cons (pe_tup (pa_cons pe_str (pa_cons (pv 0) pa_nil))) pa_nil)) pe_bl (nomark _))
          (pw_or1 (pt_cmpR op_isnot_bl (pe_call GT hr (by rfl) gT kT bT .nil pass0 (pa_cons (pe_tup (pa_cons pe_str (pa_cons (pe_op op_repT (pe_tup (pa_cons (pv 0) pa_nil)) pe_int) pa_nil))) pa_nil)) pe_bl (nomark _)))))) (pss_one (ps_ret pe_bl)) pss_nil)
      (pss_cons (ps_for PassesOwn.never rfl (pi_list (pe_lst (pa_cons pe_non (pa_cons (pe_tup (pa_cons pe_str pa_nil)) (pa_cons (pe_tup (pa_cons pe_str (pa_cons (pe_lst (pa_cons pe_str pa_nil)) pa_nil))) (pa_cons (pe_tup (pa_cons pe_str (pa_cons (pe_tup pa_nil) pa_nil))) (pa_cons (pe_tup (pa_cons pe_str (pa_cons (pe_tup (pa_cons pe_str pa_nil)) pa_nil))) (pa_cons (pe_tup (pa_cons pe_str (pa_cons (pe_tup (pa_cons pe_int pa_nil)) pa_nil))) (pa_cons (pe_tup (pa_cons pe_str (pa_cons (pe_tup (pa_cons pe_bl pa_nil)) pa_nil))) (pa_cons (pe_tup (pa_cons pe_str (pa_cons (pe_op op_repT (pe_tup (pa_cons pe_str pa_nil)) pe_int) pa_nil))) pa_nil)))))))))) (pg_name (i := 2) scLFR.nd rfl (.inl rfl))
        (pss_one (ps_if (PW.pt (pw_or (pt_cmpR op_isnot_bl (pe_call GC hr3 (by rfl) gC kC bC .nil pass0 (pa_cons (pv 2) pa_nil)) pe_bl (nomark _)) (pw_or1 (pt_cmpR op_isnot_bl (pe_call GT hr (by rfl) gT kT bT .nil pass0 (pa_cons (pe_tup (pa_cons pe_str (pa_cons (pv 2) (pa_cons pe_int pa_nil)))) pa_nil)) pe_bl (nomark _))))) (pss_one (ps_ret pe_bl)) pss_nil)))
      (pss_cons (ps_for PassesOwn.never rfl (pi_list (pe_lst (pa_cons pe_non (pa_cons pe_int (pa_cons (pe_lst (pa_cons (pe_tup (pa_cons pe_int pa_nil)) pa_nil)) (pa_cons (pe_lst (pa_cons (pe_tup (pa_cons pe_int (pa_cons pe_int pa_nil))) pa_nil)) (pa_cons (pe_lst (pa_cons (pe_lst (pa_cons pe_int (pa_cons pe_int pa_nil))) pa_nil)) (pa_cons (pe_lst (pa_cons (pe_tup (pa_cons pe_int (pa_cons pe_bl pa_nil))) pa_nil)) (pa_cons (pe_op op_rep (pe_lst (pa_cons (pe_tup (pa_cons pe_int (pa_cons pe_int pa_nil))) pa_nil)) pe_int) pa_nil))))))))) (pg_name (i := 2) scLFR.nd rfl (.inl rfl))
        (pss_one (ps_if (pt_cmpR op_isnot_bl (pe_call GB hr5 (by rfl) gB kB bB .nil pass0 (pa_cons (pv 2) pa_nil)) pe_bl (nomark _)) (pss_one (ps_ret pe_bl)) pss_nil)))
      (pss_one (ps_ret (pe_and (pe_cmpR op_is_bl (pe_call GB hr5 (by rfl) gB kB bB .nil pass0 (pa_cons (pe_lst pa_nil) pa_nil)) pe_bl (nomark _)) (pe_and (pe_cmpR op_is_bl (pe_call GB hr5 (by rfl) gB kB bB .nil pass0 (pa_cons (pe_op op_rep (pe_lst (pa_cons (pe_tup (pa_cons pe_int (pa_cons pe_int pa_nil))) pa_nil)) pe_int) pa_nil)) pe_bl (nomark _))
        (pe_one (pe_cmpR op_is_bl (pe_call GC hr3 (by rfl) gC kC bC .nil pass0 (pa_cons (pe_tup (pa_cons pe_str (pa_cons (pe_tup (pa_cons pe_str (pa_cons pe_str pa_nil))) pa_nil))) pa_nil)) pe_bl (nomark _))))))))))), ?_⟩
    have zd : szD d = true := (tree_ok 1 ht).2.2.2
    have n10 : (8 : Nat) ≤ sizeLine := by decide
    refine q_te ?_
    refine dsl_new (K := K) (H0 := H) (ds := odds1 d) (dsa_cons ds_non (dsa_cons ds_int (dsa_cons ds_str (dsa_cons (ds_tup dsa_nil (by decide)) (dsa_cons (ds_tup (dsa_cons ds_str dsa_nil) (by decide)) (dsa_cons (ds_tup (dsa_cons ds_str dsa_nil) (by decide)) (dsa_cons (ds_tup (dsa_cons ds_str (dsa_cons (ds_tup dsa_nil (by decide)) dsa_nil)) (by decide)) (dsa_cons (ds_tup (dsa_cons ds_str (dsa_cons (ds_lst (dsa_cons (ds_var rfl hv) dsa_nil) (by show 1 ≤ sizeLine; decide)) dsa_nil)) (by show 2 ≤ sizeLine; decide)) dsa_nil)))))))) n10 (Same.refl H) fun l xs H1 s1 el hxs => ?_
    refine odd_loop (ds := odds1 d ++ odds2) (fun R r => ?_) (fun x e H2 s2 me hx R r => nf_isnot (H0 := H2) (ds_var rfl hx) (odds1_bad zd e me).2 (odds1_bad zd e me).1 (Same.refl H2) r) (fun z2 H2 s2 => ?_)
    · refine ⟨.ref l, rfl, ?_⟩
      refine dsl_new (K := K) (H0 := H1) (ds := odds2) (dsa_cons (ds_tup (dsa_cons ds_str (dsa_cons (ds_tup (dsa_cons ds_str (dsa_cons (ds_tup dsa_nil (by decide)) dsa_nil)) (by show 2 ≤ sizeLine; decide)) (dsa_cons ds_int dsa_nil))) (by show 3 ≤ sizeLine; decide)) (dsa_cons (ds_tup (dsa_cons ds_str (dsa_cons ds_non dsa_nil)) (by show 2 ≤ sizeLine; decide)) dsa_nil)) (by show 2 ≤ sizeLine; decide) (Same.refl H1) fun l2 ys H3 s3 el2 hys => ?_
      refine ⟨l, l2, xs, ys, rfl, rfl, s3 _ _ el, el2, ?_, fun p np => ?_⟩
      · rw [dpA_len hxs, dpA_len hys]
        show 8 + 2 ≤ sizeLine
        decide
      · exact r p _ _ (s3.trans (same_upd np)) upd_same (dpA_same (same_upd np) (dpA_app (dpA_same s3 hxs) hys))
    · have t2 := s1.trans s2
      refine q_if ?_
      have hv2 := dp_same t2 hv
      have t8 : treeB 8 d = true := treeB_le (by decide) ht
      have z9 : szD (.tuple [.str "or", .tuple (List.replicate 9 d)]) = true := by
        refine sz_tupof (by show 2 ≤ 1000; decide) fun e m => ?_
        rcases List.mem_cons.mp m with rfl | m
        · decide +kernel
        · rw [List.mem_singleton.mp m]
          exact sz_tupof (by rw [List.length_replicate]; decide) fun e m => by rw [(List.mem_replicate.mp m).2]; exact zd
      refine nf_isnot (H0 := H2) (ds_var rfl hv2) zd t8 (Same.refl H2) fun H3 s3 => iteF ?_
      refine nf_isnot (H0 := H2) (ds_tup (dsa_cons ds_str (dsa_cons (ds_var rfl hv2) dsa_nil)) (by show 2 ≤ sizeLine; decide)) (sz_tupof (by show 2 ≤ 1000; decide) fun e m => ?_) (show treeB 8 (.tuple [.str "not", d]) = true from (treeB_le (f := 1) (g := 7) (by decide) ht : treeB 7 d = true)) s3 fun H4 s4 => iteF ?_
      · rcases List.mem_cons.mp m with rfl | m
        · decide +kernel
        · rw [List.mem_singleton.mp m]
          exact zd
      refine nf_isnot (H0 := H2) (ds_tup (dsa_cons ds_str (dsa_cons (ds_repT (m := 9) (ds_var rfl hv2) (by decide) (by decide) rfl) dsa_nil)) (by show 2 ≤ sizeLine; decide)) z9 ?_ (s3.trans s4) fun H5 s5 => iteF ?_
      · rfl
      dsimp only [tNext]
      have t5 := ((t2.trans s3).trans s4).trans s5
      refine odd_loop (ds := odds3) (fun R r => ?_) (fun x e H6 s6 me hx R r => ?_) (fun z6 H6 s6 => ?_)
      · exact dsl_new (K := K) (H0 := H5) (ds := odds3) (dsa_cons ds_non (dsa_cons (ds_tup (dsa_cons ds_str dsa_nil) (by decide)) (dsa_cons (ds_tup (dsa_cons ds_str (dsa_cons (ds_lst (dsa_cons ds_str dsa_nil) (by decide)) dsa_nil)) (by decide)) (dsa_cons (ds_tup (dsa_cons ds_str (dsa_cons (ds_tup dsa_nil (by decide)) dsa_nil)) (by decide)) (dsa_cons (ds_tup (dsa_cons ds_str (dsa_cons (ds_tup (dsa_cons ds_str dsa_nil) (by decide)) dsa_nil)) (by decide)) (dsa_cons (ds_tup (dsa_cons ds_str (dsa_cons (ds_tup (dsa_cons ds_int dsa_nil) (by decide)) dsa_nil)) (by decide)) (dsa_cons (ds_tup (dsa_cons ds_str (dsa_cons (ds_tup (dsa_cons ds_bl dsa_nil) (by decide)) dsa_nil)) (by decide)) (dsa_cons (ds_tup (dsa_cons ds_str (dsa_cons (ds_repT (m := 3) ds_str (by decide) (by decide) rfl) dsa_nil)) (by show 2 ≤ sizeLine; decide)) dsa_nil)))))))) n10 (Same.refl H5) r
      · obtain ⟨c1, c2, c3, c4⟩ := odds3_bad e me
        refine nf_isnot (H0 := H6) (ds_var rfl hx) c2 c1 (Same.refl H6) fun H7 s7 => iteF ?_
        exact nf_isnot (H0 := H6) (ds_tup (dsa_cons ds_str (dsa_cons (ds_var rfl hx) (dsa_cons ds_int dsa_nil))) (by show 3 ≤ sizeLine; decide)) c4 c3 s7 fun H8 s8 => r H8 (s7.trans s8)
      · refine odd_loop (ds := odds4) (fun R r => ?_) (fun x e H7 s7 me hx R r => nf_isnot (H0 := H7) (ds_var rfl hx) (odds4_bad e me).2 (odds4_bad e me).1 (Same.refl H7) r) (fun z7 H7 s7 => ?_)
        · exact dsl_new (K := K) (H0 := H6) (ds := odds4) (dsa_cons ds_non (dsa_cons ds_int (dsa_cons (ds_lst (dsa_cons (ds_tup (dsa_cons ds_int dsa_nil) (by decide)) dsa_nil) (by decide)) (dsa_cons (ds_lst (dsa_cons (ds_tup (dsa_cons ds_int (dsa_cons ds_int dsa_nil)) (by decide)) dsa_nil) (by decide)) (dsa_cons (ds_lst (dsa_cons (ds_lst (dsa_cons ds_int (dsa_cons ds_int dsa_nil)) (by decide)) dsa_nil) (by decide)) (dsa_cons (ds_lst (dsa_cons (ds_tup (dsa_cons ds_int (dsa_cons ds_bl dsa_nil)) (by decide)) dsa_nil) (by decide)) (dsa_cons (ds_repL (m := 7) (ds_tup (dsa_cons ds_int (dsa_cons ds_int dsa_nil)) (by decide)) (by decide) (by decide) rfl) dsa_nil))))))) (by show 7 ≤ sizeLine; decide) (Same.refl H6) r
        · have t7 := (t5.trans s6).trans s7
          refine ds_ask (H0 := H7) (ds_lst dsa_nil (by decide)) (by decide +kernel) (Same.refl H7) fun H8 s8 => ⟨_, _, rfl, rfl, _, rfl, iteT' (by decide +kernel) ?_⟩
          refine ds_ask (H0 := H7) (ds_repL (m := 6) (ds_tup (dsa_cons ds_int (dsa_cons ds_int dsa_nil)) (by decide)) (by decide) (by decide) rfl) (by decide +kernel) s8 fun H9 s9 => ⟨_, _, rfl, rfl, _, rfl, iteT' (by decide +kernel) ?_⟩
          refine ds_ask (H0 := H7) (ds_tup (dsa_cons ds_str (dsa_cons (ds_tup (dsa_cons ds_str (dsa_cons ds_str dsa_nil)) (by decide)) dsa_nil)) (by decide)) (by decide +kernel) (s8.trans s9) fun H10 s10 => ⟨_, _, rfl, rfl, ?_⟩
          have eq : decide (callB (.tuple [.str "f", .tuple [.str "x", .str "y"]]) = true) = true := by decide +kernel
          rw [eq]
          exact q H10 (((t7.trans s8).trans s9).trans s10)
end
/-! ### == of two statements of the law -/
/-- two dicts of a filter and outputs -/
def rEqDD (K : PySem.W.Frag) : R2 := fun x y H Q => ∃ (a b : Addr) (v1 v2 w1 w2 : V) (d1 d2 e1 e2 : PyData), x = .ref a ∧ y = .ref b ∧ H a = some (.dK [(.inr "filter", v1), (.inr "outputs", v2)]) ∧ H b = some (.dK [(.inr "filter", w1), (.inr "outputs", w2)]) ∧ Dp K H v1 d1 ∧ Dp K H v2 d2 ∧ Dp K H w1 e1 ∧ Dp K H w2 e2 ∧
  SeqAt.shaped d1 = true ∧ SeqAt.shaped d2 = true ∧ SeqAt.shaped e1 = true ∧ SeqAt.shaped e2 = true ∧ Q (.bl (PyData.eqv d1 e1 && PyData.eqv d2 e2)) H
theorem kv_two {k1 k2 : Key} {v1 v2 : V} {vs : List (Key × Value)} (h : KV [(k1, v1), (k2, v2)] vs) : ∃ u1 u2, vs = [(k1, u1), (k2, u2)] ∧ RelV v1 u1 ∧ RelV v2 u2 := by
  cases h with
  | cons h1 r =>
    cases r with
    | cons h2 r =>
      cases r
      obtain ⟨e1, r1⟩ := h1
      obtain ⟨e2, r2⟩ := h2
      rename_i q1 q2
      obtain ⟨k, u⟩ := q1
      obtain ⟨k', u'⟩ := q2
      cases e1
      cases e2
      exact ⟨_, _, rfl, r1, r2⟩
theorem op_eqDD {X : Cx} (hu : X.A.units + 70 < cLine) : OpR X (compareOp .Eq) (rEqDD X.K) := by
  intro pins s σ H x y v u Q I rx ry h
  obtain ⟨a, b, v1, v2, w1, w2, d1, d2, e1, e2, rfl, rfl, ea, eb, h1, h2, k1, k2, z1, z2, z3, z4, q⟩ := h
  cases (show v = Value.ref a from rx)
  cases (show u = Value.ref b from ry)
  obtain ⟨_, na, vs, kva, da⟩ := dk_of I.hok ea
  obtain ⟨_, nb, ws, kvb, db⟩ := dk_of I.hok eb
  obtain ⟨x1, x2, rfl, rx1, rx2⟩ := kv_two kva
  obtain ⟨y1, y2, rfl, ry1, ry2⟩ := kv_two kvb
  obtain ⟨as1, p1⟩ := Dp.reads I d1 v1 x1 h1 rx1
  obtain ⟨as2, p2⟩ := Dp.reads I d2 v2 x2 h2 rx2
  obtain ⟨bs1, p3⟩ := Dp.reads I e1 w1 y1 k1 ry1
  obtain ⟨bs2, p4⟩ := Dp.reads I e2 w2 y2 k2 ry2
  have hi : X.A.in1.units + 64 < cLine := by
    have : X.A.in1.units ≤ X.A.units + 1 := by
      first | exact Nat.le_refl _ | (simp [Around.in1, Around.units])
    omega
  have q1 := PySem.W.keq_at p1 p3 z1 z3 hi
  have q2 := PySem.W.keq_at p2 p4 z2 z4 hi
  show wpAny _ _ (richCompare .Eq (.ref a) (.ref b)) _ _ _
  refine PySem.W.rcP_dicts (r := PyData.eqv d1 e1 && (PyData.eqv d2 e2 && true)) na nb da db (by omega) (fun _ => ?_) _ _ ?_
  · refine .hit (y := y1) (by rfl) (fun E Q h => q1 _ _ E Q h) (.hit (y := y2) (by rfl) (fun E Q h => q2 _ _ E Q h) .nil)
  · rw [Bool.and_true]
    exact ⟨.bl _, H, I, rfl, q⟩
/-! ### an error of the text's own, over an own base -/
/-- what is written of the class B, whose __init__ is asked for by the class's name x -/
structure OwnBase (K : PySem.W.Frag) (mg : Str → Option Value) (x : Str) (B : Addr) : Prop where
  nam : mg x = some (.ref B)
  gta : PySem.W.specialIn K (.ref B) "__getattribute__" = some (some (.builtin "type.__getattribute__"))
  typ : PySem.W.typeIn K (.ref B) = some (.type "type")
  rds : PySem.W.readsIn K B (.type "type") = true
  ini : PySem.W.findCls K (.ref B) (.type "type") "__init__" = some (.val (.builtin "ValueError.__init__"))
section
variable {X : Cx} {e : Expr} {es : List Expr} {ta : TA} {p1 p2 pos : Pos}
theorem pe_baseI {pl : Sem Bool} {x : Str} {B : Addr} (vis : Gl X x) (T : OwnBase X.K X.mg x B) (arg : PA X (e :: es) ta)
    (run : eval (.Call (.Attribute (.Name x p1) "__init__" p2) (e :: es) [] pos) X.env = (do
      let cv ← eval (.Name x p1) X.env
      standAt p2.atName
      let (g, hd) ← holding [cv] (getMethod cv "__init__" pl)
      callWith pos g hd (backTo pos (starEach (e :: es) X.env)) (backToKw pos (keywordEach [] X.env))) := by rfl)
    (dbg : (x == ("__debug__" : Str)) = false := by decide) (one : starEach (e :: es) X.env = (false, eval e X.env) :: starEach es X.env := by rfl)
    (nos : (backTo pos (starEach es X.env)).any (·.1) = false := by rfl) : PE X (.Call (.Attribute (.Name x p1) "__init__" p2) (e :: es) [] pos) (tVeI X.K ta) := ⟨fun pins s σ H Q I h => by
  obtain ⟨m, fr⟩ := I.fr
  have kin := I.ok.mod.kin
  refine PySem.W.methodCall_KW (ld_glob I vis T.nam (PySem.W.method_of_cls fr kin T.gta (PySem.W.cls_val fr kin T.typ T.rds T.ini (by decide +kernel) ?_)) dbg) run
  exact PyProof.Rows.callWith_method1 (thn (arg.run pos pins _ σ H _ (I.tok _) h) fun us s1 z => by
    obtain ⟨vs, H1, I1, r1, a, C, ws, ev, hl, T1, ea, q⟩ := z
    subst ev
    cases r1 with
    | @cons _ u0 _ ur ra rw' =>
      cases (show u0 = Value.ref a from ra)
      have hlen : ur.length ≤ sizeLine := by rw [← Paired.length rw', sizeLine_eq]; omega
      exact oinit_ok T1 I1 ea hlen fun s' J => ⟨V.non, H1, J, rfl, q⟩) one nos⟩
end
/-- C(e, ..) in a try: what leaves __init__ goes to the wish at the present slots -/
def tMakeS (C : Addr) (sp : Sp) (E : L2.St → XK) (t : TA) : TE := fun σ H Q => t σ H fun vs H1 => ∀ x dx, H1 x = none → H1 dx = none → dx ≠ x → sp (.ref x :: vs) (upd (upd H1 dx (.own x)) x (.ins C dx [])) (fun v H2 => v = .non ∧ Q (.ref x) H2) (E σ)
theorem pe_makeS {X : Cx} {CX : CXT} {C f : Addr} {fd : FuncData} {k : Nat} {ps : List Str} {sp : Sp} {x : Str} {p pos : Pos} {e : Expr} {es : List Expr} {t : TA} {E : L2.St → XK} (M : Mk X.K C f) (F : FnOk X.prog X.w X.K X.mg X.base CX k f fd ps sp)
    (hr : Room (k + 1) X.A) (hg : Gl X x) (hm : X.mg x = some (.ref C)) (hb : Binds X.K fd ps []) (way : ∀ σ, PassesAt CX X σ (E σ)) (ha : PA X (e :: es) t) (hdb : (x == ("__debug__" : Str)) = false := by decide)
    (he : starEach (e :: es) X.env = (false, eval e X.env) :: starEach es X.env := by rfl) (hpl : (backTo pos (starEach es X.env)).any (·.1) = false := by rfl) : PE X (.Call (.Name x p) (e :: es) [] pos) (tMakeS C sp E t) := ⟨fun pins s σ H Q I h => by
  refine wpAny_Call_Name_kw (ld_glob I hg hm (PySem.W.callWith_K (h₀ := X.base) I.ok.mod.kin M.kp (thn (ha.run pos pins s σ H _ I h) fun us s1 z => ?_) he hpl) hdb)
  obtain ⟨vs, H1, I1, r, q⟩ := z
  let n := s1.heap.objs.size
  have here := q (n + 1) n (I1.hok.fresh (Nat.le_succ _)) (I1.hok.fresh (Nat.le_refl _)) (Nat.ne_of_lt (Nat.lt_succ_self _))
  have made := Inv.made (C := C) I1
  have rs : Vals (V.ref (n + 1) :: vs) (Value.ref (n + 1) :: us) := .cons rfl r
  have many : (Value.ref (n + 1) :: us).length = ps.length := rs.length.symm.trans (F.len _ _ _ _ here)
  have bind := hb ⟨_, s1.gens, s1.drawn, s1.toks, s1.os⟩ (Value.ref (n + 1) :: us) made.kIn (by rw [List.append_nil]; exact many)
  rw [List.append_nil] at bind
  refine ⟨I1.kIn, wpAny_call (make_map (f := f) I1.kIn M.makes M.init (beq_iff_eq.mp M.fn) (codeAny_mono (F.run _ X.stack _ _ ⟨Value.ref (n + 1) :: us, []⟩ (Value.ref (n + 1) :: us) _ _ (E σ) (hr.make C us []) (made.env0.make C us []) bind rs here) fun r s' z => ?_))⟩
  cases r with
  | error er => exact way σ pins _ _ er s' made z
  | ok fl =>
    cases fl with
    | ret u =>
      obtain ⟨v, H', J, rv, ev, q3⟩ := made.after z
      subst ev
      exact ⟨rv, V.ref (n + 1), H', J, rfl, q3⟩
    | next => exact False.elim z
    | brk => exact False.elim z
    | cont => exact False.elim z⟩
/-- a def that may raise, called where it doesn't -/
theorem pass00 {X : Cx} : Passes (L2.CX X.prog X.w) X (fun _ _ _ => False) := passes_call takes0 (fun _ _ _ _ h => h)
/-! ### isinstance of a caught error that has its dict -/
structure ErrC (K : PySem.W.Frag) (C : Addr) : Prop where
  cl : (PySem.W.clsIn K C).isSome = true
  ga : PySem.W.findIn K (.ref C) "__getattribute__" = some (some (.builtin "BaseException.__getattribute__"))
  gt : PySem.W.findIn K (.ref C) "__getattr__" = some none
  be : PySem.W.subIn K (.ref C) (.type "BaseException") = some true
  ca : PySem.W.findIn K (.ref C) "__class__" = some (some (.builtin "object.__class__"))
  cn : PySem.W.specialIn K (.builtin "object.__class__") "__get__" = some (some (.builtin "getset_descriptor.__get__"))
  tk : PySem.W.takesIn K (.builtin "object.__class__") = some true
  mo : PySem.W.mroIn K C (.type "object") = some true
def rIsD (K : PySem.W.Frag) (D a : Addr) (cls : Value) (d : Option Addr) : List V → Hp → VK → Prop := fun xs H Q => ∃ (c : V) (cv : Value) (b : Bool) (dd : Addr) (fs : List (Str × V)), xs = [.ref a, c] ∧ (∀ u, RelV c u → u = cv) ∧ cls = .ref D ∧ d = some dd ∧ H dd = some (.xd fs) ∧ PySem.W.kitOne K (.ref D) cv = some b ∧ Q (.bl b) H
theorem call_isD {X : Cx} {a D : Addr} {cls : Value} {d : Option Addr} {oe : Obj} {pn : List (Addr × Obj)} (T : ErrC X.K D) (hz : Zc cls d oe) (hf : ∃ vs, oe.data = .fields vs) : CallR (X.suite a ((a, oe) :: pn)) (.builtin "isinstance") (rIsD X.K D a cls d) := by
  intro pins s σ H xs us Q I r h
  obtain ⟨c, cv, b, dd, fs, rfl, hcv, rfl, rfl, hd, e, q⟩ := h
  obtain ⟨u1, u2, rfl, r1, r2⟩ := vals2 r
  cases (show u1 = Value.ref a from r1)
  cases hcv _ r2
  obtain ⟨hget, _⟩ := I.pin (a, oe) (List.mem_append_left _ List.mem_cons_self)
  obtain ⟨vs, hv⟩ := hf
  obtain ⟨mA, hns, _⟩ := (show ObjOk X.prog X.w H s.heap dd (.xd fs) from I.hok dd _ hd)
  obtain ⟨od, ho, _⟩ := lookIn_ns hns
  have J : PySem.W.InstAt s.heap a oe D (some od) := ⟨hget, hz.1, by unfold PySem.W.notCls; rw [hv] <;> rfl, by rw [hz.2]; exact ho⟩
  exact PySem.W.kia_one (PySem.W.kitx_exc T.cl T.ga T.gt T.be T.ca T.cn T.tk T.mo) I.kIn J e (fun z => nomatch z) fun tk => ⟨.bl b, H, I.kept (t' := tk) fun _ _ z => z, rfl, q⟩
/-! ### operators by own defs -/
section
variable {X : Cx} {n : Nat} {C g : Addr} {fd : FuncData} {ps : List Str} {sp : Sp}
def rOwnI (C : Addr) (sp : Sp) : R2 := fun x y H Q => ∃ a b dx dy fs gs, x = .ref a ∧ y = .ref b ∧ H a = some (.ins C dx fs) ∧ H b = some (.ins C dy gs) ∧ sp [x, y] H Q E0
theorem op_ownI {op : CmpOp} (hs : PySem.W.findIn X.K (.ref C) (cmpInfo op).2.1 = some (some (.ref g))) (hf : PySem.W.isFn X.K (.ref g) = true) (F : FnOk X.prog X.w X.K X.mg X.base CX0 n g fd ps sp) (hb : Binds X.K fd ps []) (hr : Room n X.A)
    (hop : ∀ a b, compareOp op a b = richCompare op a b := by intro _ _; rfl) : OpR X (compareOp op) (rOwnI C sp) := by
  intro pins s σ H x y v u Q I rx ry h
  obtain ⟨a, b, dx, dy, fs, gs, rfl, rfl, ea, eb, q⟩ := h
  cases (show v = Value.ref a from rx)
  cases (show u = Value.ref b from ry)
  obtain ⟨mA, J, _⟩ := ins_get I.hok ea
  obtain ⟨mB, J', _⟩ := ins_get I.hok eb
  obtain ⟨od, J, _⟩ := J.look
  obtain ⟨od', J', _⟩ := J'.look
  obtain ⟨m, hF⟩ := I.fr
  rw [hop]
  refine PySem.W.cmp_K (op := op) (tb := .ref C) hr.units0 hF I.ok.mod.kin J J'.type (by simp [PySem.W.notFirst]) hs hf ?_
  exact wpAny_mono (run_fn (vs := [.ref a, .ref b]) F hr hb .nil pass0 I (.cons rfl (.cons rfl .nil)) q) (fun w s' ⟨z', H', I', rz, qz⟩ => SlX.cmpback rz ⟨z', H', I', rz, qz⟩) fun _ _ x => x
end
/-! ### != by an own == -/
namespace NeX
open PySem.W
section
variable {prog : Program} {w : World} {A : Around} {E : Value → Shared → Prop} {s : Shared} {K : Frag} {x C L f : Addr} {h₀ : Heap} {m : Str → Option Value} {ox : Obj} {od : Option Obj} {b tb : Value}
theorem bound_blt {M : Model} {name : Str} {id : String} {args : List Value} {Q : Option Value → Shared → Prop} (X : K.In s.heap) (I : InstAt s.heap x ox C od) (hs : findIn K (.ref C) name = some (some (.builtin id)))
    (hb : bindSpecial (.builtin id) (.ref x) = pure (Value.builtin id, [Value.ref x])) (h : wpAny M A (call (.builtin id) (.ref x :: args)) (fun v => Q (some v)) E s) : wpAny M A (callSpecialIfBound? (.ref x) name args) Q E s := by
  simp only [callSpecialIfBound?, bindSpecialIfBound?]
  refine wpAny_holding (wpAny_bind (wpAny_bind (wpAny_bind (I.type.here ((looks_findIn X hs).here ?_)))))
  simp only [hb]
  have out : wpAny M A (call (.builtin id) ([.ref x] ++ args) >>= fun v => pure (some v)) Q E s := wpAny_bind (wpAny_mono h (fun _ _ z => wpAny_pure z) fun _ _ z => z)
  refine wpAny_bind (wpAny_askSetting (wpAny_ite ?_))
  split
  · exact wpAny_bind (wpAny_pure (wpAny_pure out))
  · exact wpAny_tryCatch (wpAny_bind (wpAny_pure (wpAny_pure out)))
theorem run_ne (hu : A.units < cLine) (X : K.In s.heap) (I : InstAt s.heap x ox C od) (he : findIn K (.ref C) "__eq__" = some (some (.ref f))) (hf : isFn K (.ref f) = true) {Q : Fin → Shared → Prop}
    (h : wpAny (model prog w) A (call (.ref f) [.ref x, b]) (fun v s' => ∃ k, v = .bool k ∧ Q (.done (.ret (.bool (!k)))) s') E s) : wpAny (model prog w) A (Builtin.«object.__ne__» ⟨[.ref x, b], []⟩) Q E s := by
  unfold Builtin.«object.__ne__»
  repeat (first
    | with_reducible refine wpAny_cRoomFor hu ?_
    | (refine wpAny_bind (m := callSpecialIfBound? (.ref x) (Str.ofString "__eq__") [b]) (ifBound_K X I he hf (wpAny_mono h (fun r s' hr => by
          obtain ⟨k, rfl, hq⟩ := hr
          repeat (first | exact hq | exact wpAny_pure hq | exact wpAny_truthy_bool hq | (refine wpAny_bind (m := truthy (.bool _)) (wpAny_truthy_bool ?_)) | wp_step)) fun _ _ z => z)))
    | wp_step)
theorem rich_ne (hu : A.units + 1 < cLine) (F : Fr h₀ L s.heap m) (X₀ : K.In h₀) (I : InstAt s.heap x ox C od) (hb : Looks (model prog w) s.heap (typeOf b) tb) (hn : notFirst K C tb = true)
    (hne : findIn K (.ref C) "__ne__" = some (some (.builtin "object.__ne__"))) (hso : subIn K (.ref C) (.type "object") = some true)
    (he : findIn K (.ref C) "__eq__" = some (some (.ref f))) (hf : isFn K (.ref f) = true) {Q : Value → Shared → Prop}
    (h : wpAny (model prog w) A.in1 (call (.ref f) [.ref x, b]) (fun v s' => ∃ k, v = .bool k ∧ Q (.bool (!k)) s') E s) : wpAny (model prog w) A (richCompare .NotEq (.ref x) b) Q E s := by
  have X := X₀.keeps F.keep
  have one : wpAny (model prog w) A (tryCompare (.ref x) "__ne__" b) (fun r s' => ∃ v, r = some v ∧ Q v s') E s := by
    unfold tryCompare
    refine wpAny_bind (bound_blt X I hne (PySem.F.cmp_object.ne.bind _) (wpAny_call (codeAny_call_builtin PySem.F.cmp_object.ne.plain PySem.F.cmpEntry_ne
      (check_slot PySem.F.cmpKind_ne PySem.F.cmpSplit_ne (I.type.andThen (looks_subIn X hso)) (PySem.F.cmpArgs_ne _ _) (run_ne (A := A.in1) (by show A.units + 1 < cLine; exact hu) X I he hf (wpAny_mono h (fun v s' hv => ?_) fun _ _ z => z))))))
    obtain ⟨k, rfl, hq⟩ := hv
    exact ⟨k, rfl, wpAny_pure ⟨_, rfl, hq⟩⟩
  unfold richCompare
  simp only [oneThing_ref]
  refine wpAny_holding (wpAny_bind (wpAny_cRoomFor (Nat.lt_of_succ_lt hu) ?_))
  rw [cmpInfo_NotEq]
  dsimp only
  refine wpAny_bind (I.type.here (wpAny_bind (hb.here ?_)))
  split
  · rename_i q
    have e : subIn K tb (.ref C) = some false := by
      rcases Bool.or_eq_true_iff.mp hn with z | z
      · rw [beq_iff_eq.mp z] at q; simp at q
      · exact beq_iff_eq.mp z
    refine wpAny_bind ((looks_subIn X e).here ?_)
    simp only [Bool.false_eq_true, if_false]
    exact wpAny_bind (wpAny_mono one (fun r s' ⟨v, z, hq⟩ => by subst z; exact wpAny_pure hq) fun _ _ z => z)
  · refine wpAny_bind (wpAny_pure ?_)
    simp only [Bool.false_eq_true, if_false]
    exact wpAny_bind (wpAny_mono one (fun r s' ⟨v, z, hq⟩ => by subst z; exact wpAny_pure hq) fun _ _ z => z)
end
end NeX
section
variable {X : Cx} {n : Nat} {C g : Addr} {fd : FuncData} {ps : List Str} {sp : Sp}
/-- what y, on the other side, is: an instance of the same class, or plain -/
def Other (K : PySem.W.Frag) (H : Hp) (C : Addr) (y : V) : Prop := (∃ b dy gs, y = .ref b ∧ H b = some (.ins C dy gs)) ∨ ∃ z, y = .str z
/-- x != y, by C's own == alone -/
def rNeI (K : PySem.W.Frag) (C : Addr) (sp : Sp) : R2 := fun x y H Q => ∃ a dx fs, x = .ref a ∧ H a = some (.ins C dx fs) ∧ Other K H C y ∧ sp [x, y] H (fun v H' => ∃ k, v = .bl k ∧ Q (.bl (!k)) H') E0
theorem op_neI (hne : PySem.W.findIn X.K (.ref C) "__ne__" = some (some (.builtin "object.__ne__"))) (hso : PySem.W.subIn X.K (.ref C) (.type "object") = some true) (hst : PySem.W.notFirst X.K C (.type "str") = true)
    (he : PySem.W.findIn X.K (.ref C) "__eq__" = some (some (.ref g))) (hf : PySem.W.isFn X.K (.ref g) = true) (F : FnOk X.prog X.w X.K X.mg X.base CX0 n g fd ps sp) (hb : Binds X.K fd ps []) (hr : Room (n + 1) X.A) : OpR X (compareOp .NotEq) (rNeI X.K C sp) := by
  intro pins s σ H x y v u Q I rx ry h
  obtain ⟨a, dx, fs, rfl, ea, ho, q⟩ := h
  cases (show v = Value.ref a from rx)
  obtain ⟨mA, J, _⟩ := ins_get I.hok ea
  obtain ⟨od, J, _⟩ := J.look
  obtain ⟨m, hF⟩ := I.fr
  have hu : X.A.units + 1 < cLine := by have := hr.units; omega
  have call1 : wpAny (model X.prog X.w) X.A.in1 (call (.ref g) [.ref a, u]) (fun v' s' => ∃ k, v' = .bool k ∧ EP X pins σ Q (.bool (!k)) s') X.xe s := by
    refine wpAny_mono (wpAny_call (SlX.run_at (us := [.ref a, u]) (ws := [.ref a, y]) (F.raw hb .nil) hr.in1 I.env0.in1 pass0 I (.cons rfl (.cons ry .nil)) q)) (fun w' s' z => ?_) fun _ _ z => z
    obtain ⟨z', H', I', rz, k, ez, qz⟩ := z
    subst ez
    cases rz
    exact ⟨k, rfl, .bl (!k), H', I', rfl, qz⟩
  rcases ho with ⟨b, dy, gs, rfl, eb⟩ | ⟨z, rfl⟩
  · cases (show u = Value.ref b from ry)
    obtain ⟨mB, J', _⟩ := ins_get I.hok eb
    obtain ⟨od', J', _⟩ := J'.look
    exact NeX.rich_ne hu hF I.ok.mod.kin J J'.type (by simp [PySem.W.notFirst]) hne hso he hf call1
  · obtain ⟨t, et⟩ := (show ∃ t, u = Value.str z t from ry)
    cases et
    exact NeX.rich_ne hu hF I.ok.mod.kin J (PySem.W.Looks.of_pure rfl) hst hne hso he hf call1
end

/-! ### != of two lists whose items are equal, one by one -/
namespace NlX
open PySem.SeqAt MeetsSeq MeetsSeq2 MeetsSeq3 SeqRoads2
open AutoSeq1 (wpAny_loadPart')
section
variable {prog : Program} {w : World} {A : Around} {R : Result → Shared → Prop}
/-- where the machine stands at the item number j of N: both lists as they are now, and the two items are seen to be equal -/
def Turns (prog : Program) (w : World) (A : Around) (E : Value → Shared → Prop) (p q : Addr) (N : Nat) (J : Nat → Shared → Prop) : Prop := GQ.ListI prog w A E p q N J
theorem ne_turns (p q : Addr) (N : Nat) (J : Nat → Shared → Prop) (T : Turns prog w A (fun e s' => R (.error e) s') p q N J) (out : ∀ s, J N s → R (.ok (.ret (.bool false))) s) :
    ∀ (left j : Nat), j + left = N → ∀ s, J j s → wpAny (model prog w) A.in1 (Builtin.«list.__eq__.loop» ⟨[.ref p, .ref q, rawInt j, rawInt 3], []⟩) (GQ.FinOf prog w A R) (fun e s' => R (.error e) s') s
  | 0, j, hj, s, h => by
    obtain ⟨xs, ys, m1, m2, e1, e2, z1, z2, _⟩ := T _ _ h
    have hjN : j = N := by omega
    subst hjN
    have fin := out s h
    obtain ⟨hp, g, d, tk, os⟩ := s
    wp_walk using wpAny_loadPart' e1, wpAny_loadPart' e2
    have a1 : xs[((j : Nat) : Int).toNat]? = none := by simp; omega
    have a2 : ys[((j : Nat) : Int).toNat]? = none := by simp; omega
    rw [a1, a2]
    wp_walk using wpAny_loadPart' e1, wpAny_loadPart' e2
    show R (.ok (.ret (.bool (xs.size != ys.size)))) _
    rw [z1, z2]
    simpa using fin
  | left + 1, j, hj, s, h => by
    obtain ⟨xs, ys, m1, m2, e1, e2, z1, z2, turn⟩ := T _ _ h
    have b1 : j < xs.size := by omega
    have b2 : j < ys.size := by omega
    have step := turn b1 b2
    obtain ⟨hp, g, d, tk, os⟩ := s
    wp_walk using wpAny_loadPart' e1, wpAny_loadPart' e2
    have a1 : xs[((j : Nat) : Int).toNat]? = some xs[j] := by simp [b1]
    have a2 : ys[((j : Nat) : Int).toNat]? = some ys[j] := by simp [b2]
    have up : ((j : Int) + 1) = ((j + 1 : Nat) : Int) := by omega
    rw [a1, a2]
    refine wpAny_bind (wpAny_mono step (fun r s2 z => ?_) fun _ _ z => z)
    obtain ⟨er, z⟩ := z
    subst er
    have more := ne_turns p q N J T out left (j + 1) (by omega) s2 z
    obtain ⟨hp2, g2, d2, tk2, os2⟩ := s2
    wp_walk
    rw [up]
    exact ⟨plainId_quiet plain_eq_loop _, codeAny_builtin entry_eq_loop (by
      rw [Around.under_plainId plain_eq_loop _]
      exact more)⟩
theorem ne_lists (p q : Addr) (N : Nat) (J : Nat → Shared → Prop) (T : Turns prog w A (fun e s' => R (.error e) s') p q N J) (out : ∀ s, J N s → R (.ok (.ret (.bool false))) s) {s : Shared} (h : J 0 s) :
    wpAny (model prog w) A.in1 (Builtin.«list.__ne__» ⟨[.ref p, .ref q], []⟩) (GQ.FinOf prog w A R) (fun e s' => R (.error e) s') s := by
  obtain ⟨xs, ys, m1, m2, e1, e2, z1, z2, _⟩ := T _ _ h
  have more := ne_turns (A := A) (R := R) p q N J T out N 0 (by omega) s h
  obtain ⟨hp, g, d, tk, os⟩ := s
  have sub := AutoSeq1.sub_list_list
  have same : ¬ (xs.size != ys.size) = true := by simp [z1, z2]
  wp_walk using wpAny_loadPart' e1, wpAny_loadPart' e2
  exact ⟨plainId_quiet plain_eq_loop _, codeAny_builtin entry_eq_loop (by
    rw [Around.under_plainId plain_eq_loop _]
    exact more)⟩
end
section
variable {prog : Program} {w : World} {A : Around} {E : Value → Shared → Prop} {s : Shared}
theorem rich_neL {p q : Addr} {N : Nat} {Q : Value → Shared → Prop} (hu : A.units < cLine) (J : Nat → Shared → Prop) (T : Turns prog w A E p q N J) (out : ∀ s, J N s → Q (.bool false) s) (h : J 0 s) :
    wpAny (model prog w) A (richCompare .NotEq (.ref p) (.ref q)) Q E s := by
  obtain ⟨xs, ys, m1, m2, e1, e2, _, _, _⟩ := T _ _ h
  refine wpAny_richCompare_same_room (op := .NotEq) ⟨_, e1, rfl⟩ ⟨_, e2, rfl⟩ F.slot_list_ne (GQ.call_here F.slot_list_ne ⟨_, e1, rfl⟩ F.entry_list_ne (F.args_list_ne_2 _ _) ?_) hu
  exact ne_lists (R := wants (fun v s' => v ≠ .notImplemented ∧ Q v s') E) p q N J T (fun s' z => ⟨(fun x => nomatch x), out s' z⟩) h
end
end NlX
section
variable {X : Cx} {n : Nat} {D : Eqv}
/-- xs != ys, lists whose items are equal by D -/
def rNeL (D : Eqv) : R2 := fun x y H Q => DList D x y H ∧ ∀ H', Ext H H' → Q (.bl false) H'
theorem op_neL (hD : Mon D) (h : EqG X n D) (hr : Room (n + 1) X.A) : OpR X (compareOp .NotEq) (rNeL D) := by
  intro pins s σ H x y v u Q I rx ry ⟨d, q⟩
  obtain ⟨a, b, xs, ys, rfl, rfl, ea, eb, p⟩ := d
  cases rx
  cases ry
  refine NlX.rich_neL (N := xs.length) hr.units0 (fun _ s' => LoopI X pins σ H s') (fun i s' z => ?_) (fun s' ⟨H', I', e⟩ => ⟨.bl false, H', I', rfl, q H' e⟩) ⟨H, I, Ext.rfl'⟩
  obtain ⟨H1, I1, e1⟩ := id z
  obtain ⟨_, its, k, r, o1⟩ := I1.hok a _ (e1 _ _ ea)
  obtain ⟨_, its2, k2, r2, o2⟩ := I1.hok b _ (e1 _ _ eb)
  exact ⟨its.toArray, its2.toArray, k, k2, o1, o2, by rw [List.size_toArray, ← r.length], by rw [List.size_toArray, ← r2.length, ← p.1], fun h1 h2 => turnG hD h ⟨hr, rfl⟩ p r r2 i h1 h2 s' z⟩
end
/-! ### own in, not in, len, [] -/
/-- an own method by which an operation goes -/
structure Op1 (P : Program) (w : World) (K : PySem.W.Frag) (mg : Str → Option Value) (base : Heap) (CX : CXT) (n : Nat) (C : Addr) (name : String) (g : Addr) (fd : FuncData) (ps : List Str) (sp : Sp) : Prop where
  at_ : PySem.W.findIn K (.ref C) name = some (some (.ref g))
  fn : PySem.W.isFn K (.ref g) = true
  fi : PySem.W.fnIn K g = true
  ok : FnOk P w K mg base CX n g fd ps sp
  b : Binds K fd ps []
section
variable {X : Cx} {CX : CXT} {n : Nat} {C g : Addr} {fd : FuncData} {ps : List Str} {sp : Sp} {E : XK}
/-- y in x, by x's own __contains__ -/
def rOwnIn (C : Addr) (sp : Sp) (E : XK) (neg : Bool) : R2 := fun y x H Q => ∃ a dx fs, x = .ref a ∧ H a = some (.ins C dx fs) ∧ sp [x, y] H (fun v H' => ∃ k, v = .bl k ∧ Q (.bl (if neg = true then !k else k)) H') E
theorem op_ownIn (O : Op1 X.prog X.w X.K X.mg X.base CX n C "__contains__" g fd ps sp) (hr : Room n X.A) (hx : Passes CX X E) : OpR X (compareOp .In) (rOwnIn C sp E false) := by
  intro pins s σ H y x u v Q I ry rx h
  obtain ⟨a, dx, fs, rfl, ea, q⟩ := h
  cases (show v = Value.ref a from rx)
  obtain ⟨mA, J, _⟩ := ins_get I.hok ea
  obtain ⟨od, J, _⟩ := J.look
  obtain ⟨m, hF⟩ := I.fr
  refine PySem.W.in_K hF I.ok.mod.kin J O.at_ O.fn (wpAny_mono (wpAny_call (SlX.run_at (us := [.ref a, u]) (ws := [.ref a, y]) (O.ok.raw O.b .nil) hr I.env0 hx I (.cons rfl (.cons ry .nil)) q)) (fun w' s' z => ?_) fun _ _ z => z)
  obtain ⟨z', H', I', rz, k, ez, qz⟩ := z
  subst ez
  cases rz
  exact wpAny_truthy_bool ⟨.bl k, H', I', rfl, qz⟩
theorem op_ownNotIn (O : Op1 X.prog X.w X.K X.mg X.base CX n C "__contains__" g fd ps sp) (hr : Room n X.A) (hx : Passes CX X E) : OpR X (compareOp .NotIn) (rOwnIn C sp E true) := by
  intro pins s σ H y x u v Q I ry rx h
  obtain ⟨a, dx, fs, rfl, ea, q⟩ := h
  cases (show v = Value.ref a from rx)
  obtain ⟨mA, J, _⟩ := ins_get I.hok ea
  obtain ⟨od, J, _⟩ := J.look
  obtain ⟨m, hF⟩ := I.fr
  refine PySem.W.notIn_K hF I.ok.mod.kin J O.at_ O.fn (wpAny_mono (wpAny_call (SlX.run_at (us := [.ref a, u]) (ws := [.ref a, y]) (O.ok.raw O.b .nil) hr I.env0 hx I (.cons rfl (.cons ry .nil)) q)) (fun w' s' z => ?_) fun _ _ z => z)
  obtain ⟨z', H', I', rz, k, ez, qz⟩ := z
  subst ez
  cases rz
  exact wpAny_truthy_bool ⟨.bl (!k), H', I', rfl, qz⟩
/-- len(x), by x's own __len__ -/
def rOwnLen (C : Addr) (sp : Sp) (E : XK) : List V → Hp → VK → Prop := fun xs H Q => ∃ a dx fs, xs = [V.ref a] ∧ H a = some (.ins C dx fs) ∧ sp [.ref a] H (fun v H' => ∃ k : Nat, v = .int (k : Nat) ∧ k < 2 ^ 63 ∧ Q v H') E
theorem call_ownLen (O : Op1 X.prog X.w X.K X.mg X.base CX n C "__len__" g fd ps sp) (hr : Room (n + 1) X.A) (hx : Passes CX X E) : CallR X (.builtin "len") (rOwnLen C sp E) := by
  intro pins s σ H xs us Q I r h
  obtain ⟨a, dx, fs, rfl, ea, q⟩ := h
  obtain ⟨u, rfl, rx⟩ := vals1 r
  cases (show u = Value.ref a from rx)
  obtain ⟨mA, J, _⟩ := ins_get I.hok ea
  obtain ⟨od, J, _⟩ := J.look
  obtain ⟨m, hF⟩ := I.fr
  refine PySem.W.len_K hF I.ok.mod.kin J O.at_ O.fn (wpAny_mono (wpAny_call (SlX.run_at (us := [.ref a]) (ws := [.ref a]) (O.ok.raw O.b .nil) hr.in1 I.env0.in1 hx I (.cons rfl .nil) q)) (fun w' s' z => ?_) fun _ _ z => z)
  obtain ⟨z', H', I', rz, k, ez, hk, qz⟩ := z
  subst ez
  obtain ⟨t, rfl⟩ := rz
  refine ⟨⟨Int.natCast_nonneg k, by omega⟩, .int (k : Nat), H', I'.tok _, ⟨_, rfl⟩, qz⟩
/-- x[y], by x's own __getitem__ -/
def tOwnSub (C : Addr) (sp : Sp) (E : XK) (td ty : TE) : TE := fun σ H Q => td σ H fun x H1 => ty σ H1 fun y H2 => ∃ a dx fs, x = .ref a ∧ H2 a = some (.ins C dx fs) ∧ sp [x, y] H2 Q E
theorem pe_ownSub {o i : Expr} {pos : Pos} {td ty : TE} (O : Op1 X.prog X.w X.K X.mg X.base CX n C "__getitem__" g fd ps sp) (hr : Room (n + 1) X.A) (hx : Passes CX X E) (ho : PE X o td) (hi : PE X i ty)
    (hsl : ∀ (a : Addr) (v : Value), subscripted i true (.ref a) v = runValue (.builtin "lifetime.subscript" ⟨[.ref a, v], []⟩)) : PE X (.Subscript o i pos) (tOwnSub C sp E td ty) := by
  refine ⟨fun pins s σ H Q I h => ?_⟩
  refine Subscript_ (thn (ho.run pins s σ H _ I h) fun u s1 ⟨x, H1, I1, rx, q1⟩ => thn (hi.run pins s1 σ H1 _ I1 q1) fun iv s2 ⟨y, H2, I2, ry, a, dx, fs, ex, ea, q2⟩ => ?_)
  subst ex
  obtain rfl : u = Value.ref a := rx
  obtain ⟨mA, J, _⟩ := ins_get I2.hok ea
  obtain ⟨od, J, _⟩ := J.look
  obtain ⟨m, hF⟩ := I2.fr
  exact PySem.W.sub_K hF I2.ok.mod.kin J O.at_ O.fi O.fn (wpAny_call (SlX.run_at (us := [.ref a, iv]) (ws := [.ref a, y]) (O.ok.raw O.b .nil) hr.in1 I2.env0.in1 hx I2 (.cons rfl (.cons ry .nil)) q2)) (hsl a iv)
end
/-! ### a Statement against a dict; what the law asks of one -/
def rOwnD (C : Addr) (sp : Sp) : R2 := fun x y H Q => ∃ a dx fs l kvs, x = .ref a ∧ y = .ref l ∧ H a = some (.ins C dx fs) ∧ H l = some (.dK kvs) ∧ sp [x, y] H Q E0
theorem op_ownD {X : Cx} {n : Nat} {C g : Addr} {fd : FuncData} {ps : List Str} {sp : Sp} {op : CmpOp} (hst : PySem.W.notFirst X.K C (.type "dict") = true) (hs : PySem.W.findIn X.K (.ref C) (cmpInfo op).2.1 = some (some (.ref g))) (hf : PySem.W.isFn X.K (.ref g) = true) (F : FnOk X.prog X.w X.K X.mg X.base CX0 n g fd ps sp) (hb : Binds X.K fd ps []) (hr : Room n X.A)
    (hop : ∀ a b, compareOp op a b = richCompare op a b := by intro _ _; rfl) : OpR X (compareOp op) (rOwnD C sp) := by
  intro pins s σ H x y v u Q I rx ry h
  obtain ⟨a, dx, fs, l, kvs, rfl, rfl, ea, hl, q⟩ := h
  cases (show v = Value.ref a from rx)
  cases (show u = Value.ref l from ry)
  obtain ⟨mA, J, _⟩ := ins_get I.hok ea
  obtain ⟨od, J, _⟩ := J.look
  obtain ⟨m, hF⟩ := I.fr
  obtain ⟨_, nb, vs, kv, db⟩ := dk_of I.hok hl
  rw [hop]
  refine PySem.W.cmp_K (op := op) (tb := .type "dict") hr.units0 hF I.ok.mod.kin J (fun A Q E s' kp hq => ?_) hst hs hf ?_
  · obtain ⟨o, es, ep, eo, ex, _⟩ := db
    exact wpAny_typeOf ⟨o, kp l o eo, ex.1⟩ hq
  · exact wpAny_mono (run_fn (vs := [.ref a, .ref l]) F hr hb .nil pass0 I (.cons rfl (.cons rfl .nil)) q) (fun w s' ⟨z', H', I', rz, qz⟩ => SlX.cmpback rz ⟨z', H', I', rz, qz⟩) fun _ _ x => x
/-! ### words for a law -/
theorem same_but {p : Addr} {H H1 H2 : Hp} (s : Same H H1) (n : H p = none) (h2 : But p H1 H2) : Same H H2 := fun b o e => h2 b o (s b o e) (ne_of_none e n)
theorem turns {L i : Nat} (h : i < (if (if (2 : Int) < (L : Int) then (2 : Int) else (L : Int)) > 1 then (if (2 : Int) < (L : Int) then (2 : Int) else (L : Int)) else 1).toNat) : i ≤ 1 ∧ (i < L ∨ L = 0) := by
  split at h <;> split at h <;> omega
theorem dpL {K : PySem.W.Frag} {H : Hp} {t : Addr} {xs : List V} {ds : List PyData} (n : H t = none) (h : DpAll K H xs ds) : Dp K (upd H t (.lst xs)) (.ref t) (.list ds) := .lst (.inl (.inl upd_same)) (dpA_same (same_upd n) h)
theorem range_bounds {L : Nat} : -(2 ^ 62) ≤ (if (if (2 : Int) < (L : Int) then (2 : Int) else (L : Int)) > 1 then (if (2 : Int) < (L : Int) then (2 : Int) else (L : Int)) else 1) ∧ (if (if (2 : Int) < (L : Int) then (2 : Int) else (L : Int)) > 1 then (if (2 : Int) < (L : Int) then (2 : Int) else (L : Int)) else 1) < 2 ^ 62 := by
  split <;> split <;> omega
theorem op_P {r : R2} {ta tb : TE} {σ : L2.St} {H : Hp} {Q : VK} (P1 : V → Hp → Prop) (P2 : V → Hp → V → Hp → Prop) (h1 : ∀ Q' : VK, (∀ v H', P1 v H' → Q' v H') → ta σ H Q')
    (h2 : ∀ v H1, P1 v H1 → ∀ Q' : VK, (∀ u H', P2 v H1 u H' → Q' u H') → tb σ H1 Q') (k : ∀ v H1 u H2, P1 v H1 → P2 v H1 u H2 → r v u H2 Q) : tOp r ta tb σ H Q :=
  h1 _ fun v H1 p1 => h2 v H1 p1 _ fun u H2 p2 => k v H1 u H2 p1 p2
theorem ifop_P {r : R2} {ta tb : TE} {t1 t2 : TS} {D : Ends} {σ : L2.St} {H : Hp} (P1 : V → Hp → Prop) (P2 : V → Hp → V → Hp → Prop) (h1 : ∀ Q' : VK, (∀ v H', P1 v H' → Q' v H') → ta σ H Q')
    (h2 : ∀ v H1, P1 v H1 → ∀ Q' : VK, (∀ u H', P2 v H1 u H' → Q' u H') → tb σ H1 Q') (k : ∀ v H1 u H2, P1 v H1 → P2 v H1 u H2 → r v u H2 fun x H' => ∃ b, x = .bl b ∧ if b = true then t1 D σ H' else t2 D σ H') : tIfS (tTest (tOp r ta tb)) t1 t2 D σ H :=
  op_P P1 P2 h1 h2 k
theorem ifor_P {r : R2} {ta tb : TE} {c2 : TT} {t1 t2 : TS} {D : Ends} {σ : L2.St} {H : Hp} (P1 : V → Hp → Prop) (P2 : V → Hp → V → Hp → Prop) (h1 : ∀ Q' : VK, (∀ v H', P1 v H' → Q' v H') → ta σ H Q')
    (h2 : ∀ v H1, P1 v H1 → ∀ Q' : VK, (∀ u H', P2 v H1 u H' → Q' u H') → tb σ H1 Q') (k : ∀ v H1 u H2, P1 v H1 → P2 v H1 u H2 → r v u H2 fun x H' => ∃ b, x = .bl b ∧ if b = true then (if true = true then t1 D σ H' else t2 D σ H') else tIfS c2 t1 t2 D σ H') : tIfS (tOr (tTest (tOp r ta tb)) c2) t1 t2 D σ H :=
  h1 _ fun v H1 p1 => h2 v H1 p1 _ fun u H2 p2 => k v H1 u H2 p1 p2
/-! ### the law of statements told -/
abbrev sLaw : Stmt := topS 49
theorem scLaw : FnScope ["_law_script", "_law_k", "_law_pool_here", "_law_b", "_law_st", "_law_some", "_law_row", "_law_outs", "_law_wanted", "_law_calls", "_law_turn", "_law_columns", "_law_call", "_law_more", "_law_longer", "_law_word", "_law_one"] ["_law_script"] (defScope sLaw) := ⟨rfl, rfl, rfl, by decide +kernel, rfl, by decide +kernel, by decide +kernel⟩
def spLaw (K : PySem.W.Frag) : Sp := fun vs H Q _ => ∃ (a : Addr) (ns : List Int), vs = [.ref a] ∧ SqL K H a (ns.map V.int) ∧ ns.length ≤ 63 ∧ ∀ H', Q (.bl true) H'
def colScopeL : Scope := { kind := .function, names := [(".0", .local), ("_law_word", .cell), ("_law_calls", .cell)], isGenerator := false, isCoroutine := false }
/-- a def of the law's -/
structure LFn (P : Program) (w : World) (K : PySem.W.Frag) (mg : Str → Option Value) (base : Heap) (x : Str) (n : Nat) (f : Addr) (fd : FuncData) (ps : List Str) (sp : Sp) : Prop where
  ok : FnOk P w K mg base CX0 n f fd ps sp
  k : PySem.W.keepIn K (.ref f) = true
  b : Binds K fd ps []
  g : mg x = some (.ref f)
/-- a method -/
structure Mth (P : Program) (w : World) (K : PySem.W.Frag) (mg : Str → Option Value) (base : Heap) (C : Addr) (x : Str) (n : Nat) (f : Addr) (fd : FuncData) (ps : List Str) (sp : Sp) : Prop where
  ok : FnOk P w K mg base CX0 n f fd ps sp
  m : Meth K C x f
  b : Binds K fd ps []
/-- the own == of a Statement -/
structure StQ (P : Program) (w : World) (K : PySem.W.Frag) (mg : Str → Option Value) (base : Heap) (CS g : Addr) (fg : FuncData) : Prop where
  eq_ : PySem.W.findIn K (.ref CS) "__eq__" = some (some (.ref g))
  fn : PySem.W.isFn K (.ref g) = true
  ok : FnOk P w K mg base CX0 1 g fg ["self", "other"] (spStE K CS)
  b : Binds K fg ["self", "other"] []
  ne_ : PySem.W.findIn K (.ref CS) "__ne__" = some (some (.builtin "object.__ne__"))
  so : PySem.W.subIn K (.ref CS) (.type "object") = some true
  nf : PySem.W.notFirst K CS (.type "str") = true
  nd : PySem.W.notFirst K CS (.type "dict") = true
theorem turns4 {L i : Nat} (h : i < (if (if (4 : Int) < (L : Int) then (4 : Int) else (L : Int)) > 1 then (if (4 : Int) < (L : Int) then (4 : Int) else (L : Int)) else 1).toNat) : i ≤ 3 ∧ (i < L ∨ L = 0) := by
  split at h <;> split at h <;> omega
theorem range_bounds4 {L : Nat} : -(2 ^ 62) ≤ (if (if (4 : Int) < (L : Int) then (4 : Int) else (L : Int)) > 1 then (if (4 : Int) < (L : Int) then (4 : Int) else (L : Int)) else 1) ∧ (if (if (4 : Int) < (L : Int) then (4 : Int) else (L : Int)) > 1 then (if (4 : Int) < (L : Int) then (4 : Int) else (L : Int)) else 1) < 2 ^ 62 := by
  split <;> split <;> omega
theorem StAt.list {K : PySem.W.Frag} {H H' : Hp} {CS a p : Addr} {xs : List V} {dc : PyData} {ods : List PyData} (h : StAt K H CS a dc ods) (e : H p = some (.lst xs)) (b : But p H H') : StAt K H' CS a dc ods := by
  obtain ⟨dx, vc, t, ta, tc, us, as, cs, e0, h1, h2, h3, h4, h5, h6, h7, kc, ko, l8⟩ := h
  have k := fun (a : Addr) (ys : List V) (h : SqT K H a ys) => but_sqT e b h
  have nc := calls_ok kc ko
  have n2 : noLs (allCalls dc ods) = true := noLs_of fun t m => (call_ok (nc t m)).1
  have n1 : noLs (condCalls dc) = true := noLs_of fun t m => (call_ok (nc t (List.mem_append.mpr (.inl m)))).1
  exact ⟨dx, vc, t, ta, tc, us, as, cs, b _ _ e0 (ne_of e0 e (fun z => nomatch z)), dp_tups k _ _ (cond_ok kc).1 h1, k _ _ h2, dpAll_tups k _ _ (outs_ok ko).1 h3, k _ _ h4, dpAll_tups k _ _ n1 h5, k _ _ h6, dpAll_tups k _ _ n2 h7, kc, ko, l8⟩
theorem int_dp {K : PySem.W.Frag} {H : Hp} : ∀ ns : List Int, DpAll K H (ns.map V.int) (ns.map PyData.int)
  | [] => .nil
  | n :: ns => .cons (.int _) (int_dp ns)
theorem ints_sh (ns : List Int) : SeqAt.shaped (.tuple (ns.map PyData.int)) = true ∧ PyData.eqv (.tuple (ns.map PyData.int)) (.tuple (ns.map PyData.int)) = true := by
  have z := (shaped_of (ds := ns.map PyData.int) fun d m => by
    obtain ⟨n, _, rfl⟩ := List.mem_map.mp m
    exact ⟨rfl, Nat.zero_le _⟩).2
  exact ⟨z, SeqAt.eqv_refl _ (SeqAt.canLay_of_shaped z)⟩
theorem none_filter {p : PyData → Bool} (l : List PyData) : (l.filter p).isEmpty = l.all fun d => !p d := by
  induction l with
  | nil => rfl
  | cons a l ih =>
    cases h : p a with
    | true => rw [List.filter_cons_of_pos h, List.all_cons, h]; rfl
    | false => rw [List.filter_cons_of_neg (by rw [h]; decide), List.all_cons, h, ih]; rfl
/-- [one for one in call[1] if one in ["x", "y"]] -/
theorem cols_in {K : PySem.W.Frag} {H : Hp} {σ : L2.St} {vcl : V} {n : PyData} {as : List PyData} (e12 : σ[12]? = some (some vcl)) (hv : Dp K H vcl (.tuple [n, .tuple as])) (hg : ∀ e ∈ as, givenB e = true) (l2 : as.length ≤ 2) (h16 : ∀ c, ((wipe σ [16]).set 16 (some c))[16]? = some (some c)) (hwi : ∀ c, wipe ((wipe σ [16]).set 16 (some c)) [16] = wipe σ [16]) {Q : VK}
    (q : ∀ D acc H', Same H H' → H' D = some (.lst acc) → DpAll K H acc (as.filter isCol) → Q (.ref D) H') : tLc (iTup K (tOp (rIxT K) (tVar 12) (tC (.int 1)))) (gName 16) (tTest (tOp (rIn K false) (tVar 16) (tLst (tCons (tC (.str "x")) (tCons (tC (.str "y")) tNil))))) (tVar 16) [16] σ H Q := by
  cases hv with
  | @tup ea xs _ hs ha =>
  obtain ⟨x1, x2, rfl, k1, k2⟩ := dp_pair ha
  cases k2 with
  | @tup eb us _ hs2 ha2 =>
  refine ⟨_, e12, ea, _, 1, .ref eb, rfl, rfl, hs, atI_nat (j := 1) rfl, eb, rfl, ⟨_, hs2⟩, fun D nD => ?_⟩
  refine walk_gen (walk_tup (K := K) (a := eb) (xs := us)) (fun n H2 => Same H H2 ∧ ∃ acc, H2 D = some (.lst acc) ∧ DpAll K H acc ((as.take n).filter isCol)) ⟨same_upd nD, [], upd_same, .nil⟩ (fun _ H' _ p => same_sqT p.1 hs2) (fun n x H2 H3 hi p y => ?_) (fun H2 p => ?_)
  · obtain ⟨s2, acc, eD, ha4⟩ := p
    obtain ⟨rfl, hx⟩ := y
    obtain ⟨d, hdi, hvd⟩ := dpA_at ha2 hx
    have gd := hg d (List.mem_of_getElem? hdi)
    refine ⟨hwi _, ?_⟩
    refine ⟨x, h16 _, (by show 2 ≤ sizeLine; decide), fun l nl => ?_⟩
    have sl := same_upd (o := HO.lst [V.str "x", .str "y"]) nl
    have fv : flatV x = true ∧ inV x [.str "x", .str "y"] = isCol d := by
      cases d with
      | int j => cases hvd; exact ⟨rfl, rfl⟩
      | str z => cases hvd; exact ⟨rfl, by rw [in_two]; rfl⟩
      | _ => cases gd
    refine ⟨l, _, rfl, .inl (.inl (.inl upd_same)), fv.1, by decide, _, rfl, ?_⟩
    have ev : (if false = true then !inV x [.str "x", .str "y"] else inV x [.str "x", .str "y"]) = isCol d := fv.2
    rw [ev]
    have t2 := s2.trans sl
    have eD2 := sl _ _ eD
    cases hb : isCol d with
    | true =>
      refine iteT ⟨_, h16 _, acc, eD2, ?_, same_updN t2 nD, _, upd_same, ?_⟩
      · rw [dpA_len ha4]
        refine Nat.lt_of_le_of_lt (Nat.le_trans (List.length_filter_le _ _) (show _ ≤ 8 from ?_)) (by decide)
        rw [List.length_take]
        omega
      · rw [take_snoc hdi, List.filter_append, show List.filter isCol [d] = [d] from List.filter_cons_of_pos hb]
        exact dpA_app ha4 (.cons hvd .nil)
    | false =>
      refine iteF ⟨t2, acc, eD2, ?_⟩
      rw [take_snoc hdi, List.filter_append, show List.filter isCol [d] = [] from List.filter_cons_of_neg (by rw [hb]; decide), List.append_nil]
      exact ha4
  · obtain ⟨s2, acc, eD, ha4⟩ := p
    rw [dpA_len ha2, List.take_length] at ha4
    exact q D acc H2 s2 eD ha4
theorem te_op {r : R2} {ta tb : TE} {σ : L2.St} {H : Hp} {Q : VK} (h : ta σ H fun v H1 => tb σ H1 fun u H2 => r v u H2 Q) : tOp r ta tb σ H Q := h
theorem eqv_nil2 (l : List PyData) : PyData.eqv (.list l) (.list []) = l.isEmpty := by cases l <;> rfl
theorem cols_sh (cs : List PyData) : SeqAt.shaped (.list ((colsOf cs).map PyData.str)) = true ∧ PyData.eqv (.list ((colsOf cs).map PyData.str)) (.list ((colsOf cs).map PyData.str)) = true := by
  have z := (shaped_of (ds := (colsOf cs).map PyData.str) fun d m => by
    obtain ⟨s, ms, rfl⟩ := List.mem_map.mp m
    have m2 := (List.mem_filter.mp ms).1
    simp only [List.mem_cons, List.not_mem_nil, or_false] at m2
    rcases m2 with rfl | rfl <;> exact ⟨by decide +kernel, Nat.zero_le _⟩).1
  exact ⟨z, SeqAt.eqv_refl _ (SeqAt.canLay_of_shaped z)⟩
theorem eqv_nil (l : List PyData) : (!PyData.eqv (.list l) (.list [])) = !l.isEmpty := by cases l <;> rfl
theorem any_filter {p : PyData → Bool} (l : List PyData) : (!(l.filter p).isEmpty) = l.any p := by
  induction l with
  | nil => rfl
  | cons a l ih =>
    cases h : p a with
    | true => rw [List.filter_cons_of_pos h, List.any_cons, h]; rfl
    | false => rw [List.filter_cons_of_neg (by rw [h]; decide), List.any_cons, h, Bool.false_or]; exact ih
theorem tt_op {r : R2} {ta tb : TE} {σ : L2.St} {H : Hp} {R : Bool → Hp → Prop} (h : ta σ H fun v H1 => tb σ H1 fun u H2 => r v u H2 fun x H3 => ∃ b, x = .bl b ∧ R b H3) : tTest (tOp r ta tb) σ H R := h
/-- [c for c in calls if z in c[1]] -/
theorem with_col {K : PySem.W.Frag} {H : Hp} {σ : L2.St} {lc : Addr} {cs : List V} {ds : List PyData} {z : Str} (e9 : σ[9]? = some (some (.ref lc))) (hw : ∀ c, ((wipe σ [12]).set 12 (some c))[15]? = some (some (.str z))) (hc12 : ∀ c, ((wipe σ [12]).set 12 (some c))[12]? = some (some c)) (hwi : ∀ c, wipe ((wipe σ [12]).set 12 (some c)) [12] = wipe σ [12]) (el : H lc = some (.lst cs)) (hc : DpAll K H cs ds) (ok : ∀ d ∈ ds, callB d = true) (l5 : ds.length ≤ 8) {Q : VK}
    (q : ∀ D acc H', Same H H' → H' D = some (.lst acc) → DpAll K H acc (ds.filter (hasCol z)) → Q (.ref D) H') : tLc (iList K (tVar 9)) (gName 12) (tTest (tOp (rIn K false) (tVar 15) (tOp (rIxT K) (tVar 12) (tC (.int 1))))) (tVar 12) [12] σ H Q := by
  refine ⟨.ref lc, e9, lc, rfl, ⟨_, .inl (.inl el)⟩, fun D nD => ?_⟩
  refine walk_gen (walk_list (K := K) (a := lc) (xs := cs)) (fun n H2 => Same H H2 ∧ ∃ acc, H2 D = some (.lst acc) ∧ DpAll K H acc ((ds.take n).filter (hasCol z))) ⟨same_upd nD, [], upd_same, .nil⟩ (fun _ H' _ p => .inl (.inl (p.1 _ _ el))) (fun n x H2 H3 hi p y => ?_) (fun H2 p => ?_)
  · obtain ⟨s2, acc, eD, ha⟩ := p
    obtain ⟨rfl, hx⟩ := y
    obtain ⟨d, hdi, hv⟩ := dpA_at hc hx
    obtain ⟨nm, gs, rfl, hn, l2, hg⟩ := call_shape (ok d (List.mem_of_getElem? hdi))
    have hv0 := hv
    cases hv with
    | @tup ea xs _ hs ha2 =>
    obtain ⟨x1, x2, rfl, k1, k2⟩ := dp_pair ha2
    cases k2 with
    | @tup eb us _ hs2 ha3 =>
    obtain ⟨fl, iv⟩ := given_in z ha3 hg
    refine ⟨hwi _, ?_⟩
    refine ⟨.str z, hw _, _, hc12 _, ea, _, 1, .ref eb, rfl, rfl, same_sqT s2 hs, atI_nat (j := 1) rfl, eb, us, rfl, .inr (same_sqT s2 hs2), rfl, fl, _, rfl, ?_⟩
    have ev : (if false = true then !inV (.str z) us else inV (.str z) us) = hasCol z (.tuple [nm, .tuple gs]) := iv
    rw [ev]
    cases hb : hasCol z (.tuple [nm, .tuple gs]) with
    | true =>
      refine iteT ⟨_, hc12 _, acc, eD, ?_, same_updN s2 nD, _, upd_same, ?_⟩
      · rw [dpA_len ha]
        refine Nat.lt_of_le_of_lt (Nat.le_trans (List.length_filter_le _ _) (show _ ≤ 8 from ?_)) (by decide)
        rw [List.length_take]
        omega
      · rw [take_snoc hdi, List.filter_append, show List.filter (hasCol z) [.tuple [nm, .tuple gs]] = [.tuple [nm, .tuple gs]] from List.filter_cons_of_pos hb]
        exact dpA_app ha (.cons hv0 .nil)
    | false =>
      refine iteF ⟨s2, acc, eD, ?_⟩
      rw [take_snoc hdi, List.filter_append, show List.filter (hasCol z) [.tuple [nm, .tuple gs]] = [] from List.filter_cons_of_neg (by rw [hb]; decide), List.append_nil]
      exact ha
  · obtain ⟨s2, acc, eD, ha⟩ := p
    rw [dpA_len hc, List.take_length] at ha
    exact q D acc H2 s2 eD ha
theorem ints_dp {K : PySem.W.Frag} {H : Hp} : ∀ ns : List Nat, DpAll K H (ns.map fun n => V.int (n : Nat)) (ns.map fun n => PyData.int (n : Nat))
  | [] => .nil
  | n :: ns => .cons (.int _) (ints_dp ns)
theorem nodes_sh (dc : PyData) : SeqAt.shaped (.list (nodesD 8 dc)) = true ∧ PyData.eqv (.list (nodesD 8 dc)) (.list (nodesD 8 dc)) = true := by
  have z := (shaped_of (ds := nodesD 8 dc) fun d m => by
    obtain ⟨n, _, rfl⟩ := List.mem_map.mp m
    exact ⟨rfl, Nat.zero_le _⟩).1
  exact ⟨z, SeqAt.eqv_refl _ (SeqAt.canLay_of_shaped z)⟩
theorem nodes_size : ∀ (f : Nat) {d : PyData}, treeB f d = true → (nodesF f d).length ≤ sizeF f d
  | f, d, h => by
    obtain ⟨g, rfl, _⟩ := tree_shape h
    have hb := (branch_tree h).2
    show (headN d ++ (branchesD d).flatMap (nodesF g)).length ≤ 1 + ((branchesD d).map (sizeF g)).sum
    have h1 : (headN d).length ≤ 1 := by
      unfold headN
      split
      · split <;> simp
      · simp
    have h2 : ∀ l : List PyData, (∀ t ∈ l, treeB g t = true) → (l.flatMap (nodesF g)).length ≤ (l.map (sizeF g)).sum := fun l => by
      induction l with
      | nil => exact fun _ => Nat.le_refl _
      | cons t l ih =>
        intro hl
        have k1 := nodes_size g (hl t List.mem_cons_self)
        have k2 := ih fun u m => hl u (List.mem_cons_of_mem _ m)
        rw [List.flatMap_cons, List.length_append, List.map_cons, List.sum_cons]
        omega
    rw [List.length_append]
    have := h2 _ hb
    omega
termination_by f => f
theorem nodes_len {dc : PyData} (h : CondOk dc) : (nodesF 8 dc).length ≤ 1000 := by
  rcases h with rfl | ⟨h, z⟩
  · exact Nat.zero_le _
  · exact Nat.le_trans (nodes_size 8 h) z
/-- what the law has drawn and made -/
structure Sit23 (K : PySem.W.Frag) (H : Hp) (CS p b g g2 x lc rt : Addr) (L : LB) (dc : PyData) (ods : List PyData) (dc2 : PyData) (ods2 : List PyData) (cs : List V) (r0 r1 : Int) : Prop where
  s1 : LSt K H g dc ods
  s2 : LSt K H g2 dc2 ods2
  o1 : LSok dc ods
  o2 : LSok dc2 ods2
  st : StAt K H CS x dc ods
  el : H lc = some (.lst cs)
  hc : DpAll K H cs (allCalls dc ods)
  row : RowAt K H rt r0 r1
  hp : PoolAt H p
  bk : LBk K L H b
theorem Sit23.same {K : PySem.W.Frag} {H H' : Hp} {CS p b g g2 x lc rt : Addr} {L : LB} {dc : PyData} {ods : List PyData} {dc2 : PyData} {ods2 : List PyData} {cs : List V} {r0 r1 : Int} (h : Sit23 K H CS p b g g2 x lc rt L dc ods dc2 ods2 cs r0 r1) (s : Same H H') : Sit23 K H' CS p b g g2 x lc rt L dc ods dc2 ods2 cs r0 r1 :=
  ⟨h.s1.same s, h.s2.same s, h.o1, h.o2, h.st.same s, s _ _ h.el, dpA_same s h.hc, same_sqT s h.row, h.hp.same s, h.bk.but h.hp (But.of s)⟩
theorem Sit23.sh {K : PySem.W.Frag} {H : Hp} {CS p b g g2 x lc rt : Addr} {L : LB} {dc : PyData} {ods : List PyData} {dc2 : PyData} {ods2 : List PyData} {cs : List V} {r0 r1 : Int} (h : Sit23 K H CS p b g g2 x lc rt L dc ods dc2 ods2 cs r0 r1) : SeqAt.shaped (.list (allCalls dc ods)) = true ∧ PyData.eqv (.list (allCalls dc ods)) (.list (allCalls dc ods)) = true := by
  have nc := calls_ok h.o1.cond.1 h.o1.o
  have z := (shaped_of fun d m => ⟨(call_ok (nc d m)).2.1, by have := (call_ok (nc d m)).2.2.1; omega⟩).1
  exact ⟨z, SeqAt.eqv_refl _ (SeqAt.canLay_of_shaped z)⟩
section
variable {P : Program} {w : World} {K : PySem.W.Frag} {mg : Str → Option Value} {base : Heap}
theorem ok_law {CS fD fPl fB fS fI fA fN fM fP fC fR fV fIC fIN fIT mA mP mC mW mL mE f : Addr} {fd dD dPl dB dS dI dA dN dM dP dC dR dV dIC dIN dIT eA eP eC eW eL eE : FuncData} (F0 : Fun K "law" "law" sLaw f fd) (M : Blt mg)
    (FPl : Fun K "_law_pool" "_law_pool" sPool fPl dPl) (bPl : Binds K dPl ["_law_script", "_law_k"] []) (gPl : mg "_law_pool" = some (.ref fPl)) (FD : Fun K "_law_draw" "_law_draw" sDraw fD dD) (bD : Binds K dD ["_law_pool_here", "_law_many"] []) (gD : mg "_law_draw" = some (.ref fD))
    (LB : LFn P w K mg base "_law_book" 8 fB dB ["_law_pool_here", "_law_most", "_law_deep"] (spLB K)) (LS : LFn P w K mg base "_law_statement" 7 fS dS ["_law_pool_here", "_law_b", "_law_most"] (spLS K)) (SM : StMk P w K mg base CS fI dI) (SC : StC K CS)
    (LA : LFn P w K mg base "_law_all_calls" 10 fA dA ["_law_st"] (spLA K)) (LN : LFn P w K mg base "_law_nodes_in" (1 + 8) fN dN ["_law_tree_here"] (spLX K nodesD 8)) (LM : LFn P w K mg base "_law_made_statement" 16 fM dM ["_law_st"] (spLMS K CS))
    (LP : LFn P w K mg base "_law_put_in" 1 fP dP ["_law_call", "_law_row"] (spLPI K)) (LD : LFn P w K mg base "_law_draw_call" 3 fC dC ["_law_pool_here", "_law_b"] (spDC K)) (LR : LFn P w K mg base "_law_forms_right" 14 fR dR ["_law_tree_here"] (spLFR K))
    (LV : LFn P w K mg base "values_of" 2 fV dV ["call", "row"] (spValOf K)) (LC : LFn P w K mg base "is_call" 3 fIC dIC ["value"] (spB K callB)) (LK : LFn P w K mg base "is_constant" 2 fIN dIN ["call"] (spIsCon K)) (LT : LFn P w K mg base "is_tree" 13 fIT dIT ["value"] (spB K (treeB 8)))
    (MA : Mth P w K mg base CS "all_calls" 1 mA eA ["self"] (spStA K CS)) (MP : Mth P w K mg base CS "parts" 2 mP eP ["self"] (spStP K CS)) (MC : Mth P w K mg base CS "columns" 1 mC eC ["self"] (spStC K CS)) (MW : Mth P w K mg base CS "with_output" 16 mW eW ["self", "call", "shown"] (spStW K CS))
    (OL : Op1 P w K mg base CX0 1 CS "__len__" mL eL ["self"] (spStL K CS)) (SQ : StQ P w K mg base CS mE eE) : FnOk P w K mg base CX0 20 f fd ["_law_script"] (spLaw K) := by
  have GP := ok_pool (P := P) (w := w) (base := base) FPl M
  have GD : FnOk P w K mg base CX0 1 fD dD ["_law_pool_here", "_law_many"] spDraw := ok_draw FD M
  refine F0.ok scLaw (fun vs H Q E h => ?_) (fun cdv A outer s H vs Q E hr h => ?_)
  · obtain ⟨a, ns, rfl, _⟩ := h
    rfl
  · obtain ⟨a, ns, rfl, hS, hlen, q⟩ := h
    have hrX : ∀ {n : Nat}, n ≤ 19 → Room n (A.deeper (envOfC "law" (defScope sLaw) s.heap.objs.size f cdv)) := fun h => hr.mono h
    have hu := hu_of hr
    have hdd : (A.deeper (envOfC "law" (defScope sLaw) s.heap.objs.size f cdv)).units + 70 < cLine := by
      have := hr.un
      omega
    have cS := SC.cl
    refine ⟨_, pss_cons (ps_for PassesOwn.never rfl (pi_range1 (by rfl) M.range (pa_cons (pe_callB (call_max2 rfl) (by rfl) M.max (by decide +kernel) (pa_cons pe_int (pa_cons (pe_callB (call_min2 rfl) (by rfl) M.min (by decide +kernel) (pa_cons (pe_callB call_len_seq (by rfl) M.len PySem.boot_len (pa_cons (pv 0) pa_nil)) (pa_cons pe_int pa_nil))) pa_nil))) pa_nil)) (pg_name (i := 1) scLaw.nd rfl (.inl rfl))
        (pss_cons (ps_set (i := 2) scLaw.nd rfl (.inl rfl) (pe_call GP (hrX (by decide)) (by rfl) gPl FPl.kp bPl .nil pass0 (pa_cons (pv 0) (pa_cons (pv 1) pa_nil))))
        (pss_cons (ps_set (i := 3) scLaw.nd rfl (.inl rfl) (pe_call LB.ok (hrX (by decide)) (by rfl) LB.g LB.k LB.b .nil pass0 (pa_cons (pv 2) (pa_cons pe_int (pa_cons pe_int pa_nil)))))
        (pss_cons (ps_par3 (i := 4) (j := 5) (l := 6) (by rfl) scLaw.nd rfl rfl rfl (by decide) (by decide) (by decide) rfl rfl rfl (pa_cons (pe_call LS.ok (hrX (by decide)) (by rfl) LS.g LS.k LS.b .nil pass0 (pa_cons (pv 2) (pa_cons (pv 3) (pa_cons pe_int pa_nil)))) (pa_cons (pe_call LS.ok (hrX (by decide)) (by rfl) LS.g LS.k LS.b .nil pass0 (pa_cons (pv 2) (pa_cons (pv 3) (pa_cons pe_int pa_nil))))
            (pa_cons (pe_tup (pa_cons (pe_call GD (hrX (by decide)) (by rfl) gD FD.kp bD .nil pass0 (pa_cons (pv 2) (pa_cons pe_int pa_nil))) (pa_cons (pe_call GD (hrX (by decide)) (by rfl) gD FD.kp bD .nil pass0 (pa_cons (pv 2) (pa_cons pe_int pa_nil))) pa_nil))) pa_nil))) rfl)
        (pss_cons (ps_set (i := 7) scLaw.nd rfl (.inl rfl) (pe_callTy call_list_of (by rfl) M.list (by decide +kernel) (pa_cons (pe_dget hu (pv 4) pe_str (fun _ _ => rfl)) pa_nil)))
        (pss_cons (ps_asg (pe_tup (pa_cons (pe_make (dvs := []) SM.make SM.ok (hrX (by decide)) (by rfl) SM.gC SM.bi .nil pass0 (pa_cons (pe_dget hu (pv 4) pe_str (fun _ _ => rfl)) (pa_cons (pv 7) pa_nil))) (pa_cons (pe_call LA.ok (hrX (by decide)) (by rfl) LA.g LA.k LA.b .nil pass0 (pa_cons (pv 4) pa_nil)) pa_nil))) (pg_tup (by rfl) (pgs_cons (pg_name (i := 8) scLaw.nd rfl (.inl rfl)) (pgs_cons (pg_name (i := 9) scLaw.nd rfl (.inr rfl)) pgs_nil))))
        (pss_cons (ps_expr (pe_bm PySem.F.plainAttrs_list PySem.F.slot_list_append PySem.F.type_list_append mt_append (pv 7) (pa_cons pe_non pa_nil)))
        (pss_cons (ps_for PassesOwn.never rfl (pi_range1 (by rfl) M.range (pa_cons pe_int pa_nil)) (pg_name (i := 10) scLaw.nd rfl (.inl rfl))
          (pss_cons (ps_if (PW.pt (pw_or (pt_cmpR (op_neD hr.units) (pe_meth0 (pv 8) cS MA.m MA.ok (hrX (by decide)) MA.b .nil pass0) (pv 9) (nomark _)) (pw_or1 (pt_cmpR op_ne (pe_callB (call_ownLen OL (hrX (by decide)) pass0) (by rfl) M.len PySem.boot_len (pa_cons (pv 8) pa_nil)) (pe_callB call_len_seq (by rfl) M.len PySem.boot_len (pa_cons (pv 9) pa_nil)) (nomark _))))) (pss_one (ps_ret pe_bl)) pss_nil)
          (pss_cons (ps_if (pt_cmpR (op_neD hr.units) (pe_meth0 (pv 8) cS MP.m MP.ok (hrX (by decide)) MP.b .nil pass0) (pe_call LN.ok (hrX (by decide)) (by rfl) LN.g LN.k LN.b .nil pass0 (pa_cons (pe_dget hu (pv 4) pe_str (fun _ _ => rfl)) pa_nil)) (nomark _)) (pss_one (ps_ret pe_bl)) pss_nil)
          (pss_cons (ps_expr (pe_bm PySem.F.plainAttrs_list PySem.F.slot_list_append PySem.F.type_list_append mt_append (pe_meth0 (pv 8) cS MA.m MA.ok (hrX (by decide)) MA.b .nil pass0) (pa_cons pe_non pa_nil)))
          (pss_one (ps_expr (pe_bm PySem.F.plainAttrs_list PySem.F.slot_list_append PySem.F.type_list_append mt_append (pe_meth0 (pv 8) cS MP.m MP.ok (hrX (by decide)) MP.b .nil pass0) (pa_cons pe_non pa_nil))))))))
        (pss_cons (ps_setLc (i := 11) (own := [("_law_word", 15)]) (g := gName 15) (wi := iList K (tLst (tCons (tC (.str "x")) (tCons (tC (.str "y")) tNil)))) (tt := tTest (tOp (rNeD K) (tLc (iList K (tVar 9)) (gName 12) (tTest (tOp (rIn K false) (tVar 15) (tOp (rIxT K) (tVar 12) (tC (.int 1))))) (tVar 12) [12]) (tLst tNil))) (te := tVar 15) (by rfl) scLaw.nd rfl rfl (sw_true rfl rfl rfl (by decide +kernel)) (pi_list (pe_lst (pa_cons pe_str (pa_cons pe_str pa_nil))))
            (blkOk_by (own := [("_law_word", 15)]) (N := ["_law_script", "_law_k", "_law_pool_here", "_law_b", "_law_st", "_law_some", "_law_row", "_law_outs", "_law_wanted", "_law_calls", "_law_turn", "_law_columns", "_law_call", "_law_more", "_law_longer", "_law_word", "_law_one"]) (sc := defScope sLaw) (by decide +kernel)) (fun _ _ _ _ _ => pg_name (i := 15) scLaw.nd rfl (Or.inr rfl))
            (fun _ _ _ _ _ => pts_one (pt_cmpR (op_neD hr.units) (pe_lc (own := [("_law_call", 12)]) (g := gName 12) (wi := iList K (tVar 9)) (tt := tTest (tOp (rIn K false) (tVar 15) (tOp (rIxT K) (tVar 12) (tC (.int 1))))) (te := tVar 12) (by rfl) scLaw.nd (pi_list (pv 9)) (blkOk_by (own := [("_law_call", 12)]) (N := ["_law_script", "_law_k", "_law_pool_here", "_law_b", "_law_st", "_law_some", "_law_row", "_law_outs", "_law_wanted", "_law_calls", "_law_turn", "_law_columns", "_law_call", "_law_more", "_law_longer", "_law_word", "_law_one"]) (sc := colScopeL) (by decide +kernel))
              (fun _ _ _ _ _ => pg_name (i := 12) scLaw.nd rfl (Or.inl rfl)) (fun _ _ _ _ _ => pts_one (pt_cmpR op_in_seq (pv 15) (pe_ix ix_tup (pv 12) pe_int (fun _ _ => rfl)) (by rfl))) (fun _ _ _ _ _ => pv 12)) (pe_lst pa_nil) (nomark _)))
            (fun _ _ _ _ _ => pv 15))
        (pss_cons (ps_if (PW.pt (pw_or (pt_cmpR (op_neD hr.units) (pe_meth0 (pv 8) cS MC.m MC.ok (hrX (by decide)) MC.b .nil pass0) (pv 11) (nomark _)) (pw_or (pt_cmpR (op_neD hr.units) (pe_fld (pv 8) (by rfl)) (pe_dget hu (pv 4) pe_str (fun _ _ => rfl)) (nomark _)) (pw_or1 (pt_cmpR (op_neD hr.units) (pe_fld (pv 8) (by rfl)) (pe_dget hu (pv 4) pe_str (fun _ _ => rfl)) (nomark _)))))) (pss_one (ps_ret pe_bl)) pss_nil)
        (pss_cons (ps_if (PW.pt (pw_or (pt_cmpR op_ne (pe_cmpR (op_ownI SQ.eq_ SQ.fn SQ.ok SQ.b (hrX (by decide))) (pv 8) (pe_call LM.ok (hrX (by decide)) (by rfl) LM.g LM.k LM.b .nil pass0 (pa_cons (pv 5) pa_nil)) (nomark _)) (pe_cmpR (op_eqDD hdd) (pv 4) (pv 5) (nomark _)) (nomark _))
            (pw_or (pt_cmpR (op_neI SQ.ne_ SQ.so SQ.nf SQ.eq_ SQ.fn SQ.ok SQ.b (hrX (by decide))) (pv 8) (pe_call LM.ok (hrX (by decide)) (by rfl) LM.g LM.k LM.b .nil pass0 (pa_cons (pv 4) pa_nil)) (nomark _))
              (pw_or1 (pt_cmpR (op_ownD SQ.nd SQ.eq_ SQ.fn SQ.ok SQ.b (hrX (by decide))) (pv 8) (pv 4) (nomark _)))))) (pss_one (ps_ret pe_bl)) pss_nil)
        (pss_cons (ps_for PassesOwn.never rfl (pi_list (pv 9)) (pg_name (i := 12) scLaw.nd rfl (.inl rfl))
          (pss_cons (ps_if (PW.pt (pw_or (pt_cmpR (op_neD hr.units) (pe_call LV.ok (hrX (by decide)) (by rfl) LV.g LV.k LV.b .nil pass0 (pa_cons (pv 12) (pa_cons (pv 6) pa_nil))) (pe_call LP.ok (hrX (by decide)) (by rfl) LP.g LP.k LP.b .nil pass0 (pa_cons (pv 12) (pa_cons (pv 6) pa_nil))) (nomark _))
              (pw_or1 (pt_cmpR op_isnot_bl (pe_call LC.ok (hrX (by decide)) (by rfl) LC.g LC.k LC.b .nil pass0 (pa_cons (pv 12) pa_nil)) pe_bl (nomark _))))) (pss_one (ps_ret pe_bl)) pss_nil)
          (pss_one (ps_if (pt_cmpR op_ne (pe_call LK.ok (hrX (by decide)) (by rfl) LK.g LK.k LK.b .nil pass0 (pa_cons (pv 12) pa_nil)) (pe_cmpR (op_eqD hr.units) (pe_lc (own := [("_law_one", 16)]) (g := gName 16) (wi := iTup K (tOp (rIxT K) (tVar 12) (tC (.int 1)))) (tt := tTest (tOp (rIn K false) (tVar 16) (tLst (tCons (tC (.str "x")) (tCons (tC (.str "y")) tNil))))) (te := tVar 16) (by rfl) scLaw.nd (pi_tup (pe_ix ix_tup (pv 12) pe_int (fun _ _ => rfl)))
              (blkOk_by (own := [("_law_one", 16)]) (N := ["_law_script", "_law_k", "_law_pool_here", "_law_b", "_law_st", "_law_some", "_law_row", "_law_outs", "_law_wanted", "_law_calls", "_law_turn", "_law_columns", "_law_call", "_law_more", "_law_longer", "_law_word", "_law_one"]) (sc := defScope sLaw) (by decide +kernel)) (fun _ _ _ _ _ => pg_name (i := 16) scLaw.nd rfl (Or.inl rfl)) (fun _ _ _ _ _ => pts_one (pt_cmpR op_in_seq (pv 16) (pe_lst (pa_cons pe_str (pa_cons pe_str pa_nil))) (by rfl))) (fun _ _ _ _ _ => pv 16)) (pe_lst pa_nil) (nomark _)) (nomark _)) (pss_one (ps_ret pe_bl)) pss_nil))))
        (pss_cons (ps_set (i := 13) scLaw.nd rfl (.inl rfl) (pe_call LD.ok (hrX (by decide)) (by rfl) LD.g LD.k LD.b .nil pass0 (pa_cons (pv 2) (pa_cons (pv 3) pa_nil))))
        (pss_cons (ps_set (i := 14) scLaw.nd rfl (.inl rfl) (pe_meth (pv 8) cS MW.m MW.ok (hrX (by decide)) MW.b .nil pass0 (pa_cons (pv 13) (pa_cons pe_bl pa_nil))))
        (pss_cons (ps_if (PW.pt (pw_or (pt_cmpR (op_neD hr.units) (pe_fld (pv 14) (by rfl)) (pe_op op_catA (pe_dget hu (pv 4) pe_str (fun _ _ => rfl)) (pe_tup (pa_cons (pe_tup (pa_cons (pv 13) (pa_cons pe_bl pa_nil))) pa_nil))) (nomark _)) (pw_or1 (pt_cmpR (op_neD hr.units) (pe_fld (pv 8) (by rfl)) (pe_dget hu (pv 4) pe_str (fun _ _ => rfl)) (nomark _))))) (pss_one (ps_ret pe_bl)) pss_nil)
        (pss_one (ps_if (PW.pt (pw_or (pt_not (pt_val (pe_call LR.ok (hrX (by decide)) (by rfl) LR.g LR.k LR.b .nil pass0 (pa_cons (pe_tup (pa_cons pe_str (pa_cons (pv 13) (pa_cons pe_int pa_nil)))) pa_nil)))) (pw_or1 (PW.pt (pw_and (pt_cmp (pc_notN (pe_dget hu (pv 4) pe_str (fun _ _ => rfl)))) (pw_and1 (pt_cmpR op_isnot_bl (pe_call LT.ok (hrX (by decide)) (by rfl) LT.g LT.k LT.b .nil pass0 (pa_cons (pe_dget hu (pv 4) pe_str (fun _ _ => rfl)) pa_nil)) pe_bl (nomark _)))))))) (pss_one (ps_ret pe_bl)) pss_nil)))))))))))))))))
      (pss_one (ps_ret pe_bl)), ?_⟩
    refine ⟨.ref a, rfl, a, _, rfl, .inl hS, _, _, rfl, _, _, rfl, _, rfl, range_bounds4.1, range_bounds4.2, ?_⟩
    refine for_range (lo := 0) (n := _) (fun i σ H' => ∃ y1 y2 y3 y4 y5 y6 y7 y8 y9 y10 y11 y12 y13 y14 y15 y16, σ = [some (.ref a), y1, y2, y3, y4, y5, y6, y7, y8, y9, y10, y11, y12, y13, y14, y15, y16] ∧ Same H H')
      ⟨none, none, none, none, none, none, none, none, none, none, none, none, none, none, none, none, rfl, Same.refl H⟩ (fun i σ H0 hi hW => ?_) (fun σ H0 hW => q H0)
    obtain ⟨y1, y2, y3, y4, y5, y6, y7, y8, y9, y10, y11, y12, y13, y14, y15, y16, rfl, s0⟩ := hW
    have ht := turns4 hi
    rw [List.length_map] at ht
    refine ⟨.ref a, rfl, _, rfl, a, ns, i, (by show ([V.ref a, V.int (0 + (i : Int))] : List V) = _; rw [Int.zero_add]), s0.seq hS, ht.1, ht.2.imp id (fun e => List.eq_nil_of_length_eq_zero e), fun H1 p np s1 hp => ?_⟩
    have nHp : H p = none := s0.free np
    dsimp only [gName, List.set]
    refine ⟨.ref p, rfl, p, 3, 1, rfl, hp, by decide, by decide, by decide, fun b words cells fs H2 b2 hp2 lw wn wnd wz bk ok lf nb => ?_⟩
    have s2 : Same H H2 := same_but (s0.trans s1) nHp b2
    have N := ok.lok wn
    have bl := bk.lbk
    have l1 : 1 ≤ (lbOf cells fs).fns.length := by
      show 1 ≤ (fs.map _).length
      rw [List.length_map]
      exact lf
    generalize lbOf cells fs = L at N bl l1
    clear bk ok lw wn wnd wz lf nb
    dsimp only [gName, List.set]
    refine ⟨.ref p, rfl, .ref b, rfl, L, p, b, 3, rfl, N, l1, hp2, bl, by decide, fun g dc ods H3 b3 hp3 ng ls3 ok1 => ?_⟩
    refine ⟨.ref p, rfl, .ref b, rfl, L, p, b, 2, rfl, N, l1, hp3, bl.but hp2 b3, by decide, fun g2 dc2 ods2 H4 b4 hp4 ng2 ls4 ok2 => ?_⟩
    refine ⟨.ref p, rfl, p, 3, rfl, hp4, by decide, by decide, fun r0 H5 r00 r03 b5 hp5 f5 => ⟨.ref p, rfl, p, 3, rfl, hp5, by decide, by decide, fun r1 H6 r10 r13 b6 hp6 f6 => ⟨(by show 2 ≤ sizeLine; decide), fun rt nrt => ⟨_, _, _, rfl, ?_⟩⟩⟩⟩
    have sr := same_upd (o := HO.tup [V.int r0, .int r1]) nrt
    have c1 := (((ls3.but ok1 hp3 b4).but ok1 hp4 b5).but ok1 hp5 b6).same sr
    have c2 := ((ls4.but ok2 hp4 b5).but ok2 hp5 b6).same sr
    have row : RowAt K (upd H6 rt (.tup [.int r0, .int r1])) rt r0 r1 := .inl (.inl upd_same)
    have hp7 : PoolAt (upd H6 rt (.tup [.int r0, .int r1])) p := hp6.same sr
    have b27 : But p H2 (upd H6 rt (.tup [.int r0, .int r1])) := but_sameN (((b3.trans b4).trans b5).trans b6) sr
    have bl7 := bl.but hp2 b27
    have s7 : Same H (upd H6 rt (.tup [.int r0, .int r1])) := same_but s2 nHp b27
    generalize upd H6 rt (.tup [.int r0, .int r1]) = HB at c1 c2 row hp7 bl7 s7 ⊢
    clear b27 f6 b6 hp6 f5 b5 hp5 ls4 b4 hp4 ls3 b3 hp3 sr nrt bl b2 hp2 s2
    dsimp only [List.set]
    obtain ⟨vc, t, us, eg, dvc, ht7, hus⟩ := id c1
    refine ⟨.ref g, rfl, g, .ref t, rfl, dg eg "outputs" rfl, t, us, rfl, .inr ht7, fun lo nlo => ?_⟩
    have so := same_upd (o := HO.lst us) nlo
    have elo : (upd HB lo (.lst us)) lo = some (.lst us) := upd_same
    generalize upd HB lo (.lst us) = H8 at so elo ⊢
    dsimp only [gName, List.set]
    refine ⟨.ref g, rfl, g, vc, rfl, dg (so _ _ eg) "filter" rfl, .ref lo, rfl, fun x dx nx nd _ => ?_⟩
    refine ⟨x, dx, lo, vc, dc, us, ods, H8, rfl, upd_same, made_same9 nx nd, nx, dp_same so dvc, ok1.cond.1, (cond_ok ok1.cond.1).2.2, .inl (.inl (.inl elo)), dpA_same so hus, ok1.o, (by have := ok1.len; omega), fun H9 s9 hX => ⟨rfl, ?_⟩⟩
    refine ⟨.ref g, rfl, g, dc, ods, rfl, c1.same (so.trans s9), ok1, fun lc cs H10 s10 nlc elc hcs => ⟨(by show 2 ≤ sizeLine; decide), fun tu ntu => ⟨tu, _, rfl, .inl (.inl upd_same), rfl, _, _, rfl, _, _, rfl, rfl, ?_⟩⟩⟩
    have su := same_upd (o := HO.tup [V.ref x, .ref lc]) ntu
    have t11 := (s9.trans s10).trans su
    have elo11 := t11 _ _ elo
    have elc11 := su _ _ elc
    have hX11 := (hX.same s10).same su
    have hcs11 := dpA_same su (dpA_same s10 hcs)
    generalize upd H10 tu (.tup [.ref x, .ref lc]) = H11 at t11 elo11 elc11 hX11 hcs11 ⊢
    dsimp only [List.set]
    refine ⟨.ref lo, rfl, .inl ⟨rfl, _, .inl (.inl elo11)⟩, lo, us, .non, rfl, rfl, elo11, ?_, ?_⟩
    · rw [dpA_len hus]
      exact Nat.lt_of_le_of_lt (show _ ≤ 2 from ok1.lo) (by decide)
    have nc := calls_ok ok1.cond.1 ok1.o
    have bo : But lo H11 (upd H11 lo (.lst (us ++ [.non]))) := But.upd
    have kb := fun (a : Addr) (ys : List V) (h : SqT K H11 a ys) => but_sqT elo11 bo h
    have nlcl : lc ≠ lo := fun e => by rw [e, s9 _ _ elo] at nlc; cases nlc
    have sB : Same HB (upd H11 lo (.lst (us ++ [.non]))) := same_updN (so.trans t11) nlo
    have sit : Sit23 K (upd H11 lo (.lst (us ++ [.non]))) CS p b g g2 x lc rt L dc ods dc2 ods2 cs r0 r1 :=
      ⟨c1.same sB, c2.same sB, ok1, ok2, hX11.list elo11 bo, bo _ _ elc11 nlcl, dpAll_tups kb _ _ (noLs_of fun t m => (call_ok (nc t m)).1) hcs11, same_sqT sB row, hp7.same sB, bl7.but hp7 (But.of sB)⟩
    have s12 := s7.trans sB
    generalize upd H11 lo (.lst (us ++ [.non])) = H12 at sit s12 ⊢
    clear sB kb bo elc11 elo11 hX11 hcs11 t11 su elc hcs s10 hX s9 nx nd so elo nlo c1 c2 row hp7 bl7 s7
    dsimp only
    refine ⟨2, rfl, by decide, by decide, ?_⟩
    refine for_range (lo := 0) (n := _) (fun j σ H' => ∃ z10, σ = [some (.ref a), some (.int ((0 : Int) + (i : Nat))), some (.ref p), some (.ref b), some (.ref g), some (.ref g2), some (.ref rt), some (.ref lo), some (.ref x), some (.ref lc), z10, y11, y12, y13, y14, y15, y16] ∧ Same H12 H')
      ⟨_, rfl, Same.refl _⟩ (fun j σ G hj hW => ?_) (fun σ G hW => ?_)
    · obtain ⟨z10, rfl, sG⟩ := hW
      have S := sit.same sG
      obtain ⟨dx, vcx, tx, tax, tcx, usx, asx, csx, eX, _⟩ := id S.st
      obtain ⟨vcg, tg, usg, egG, dvg, _⟩ := id S.s1
      have nlen := nodes_len S.o1.cond.1
      have clen := S.o1.len
      have csl := dpA_len S.hc
      dsimp only [gName, List.set]
      refine ⟨.ref x, rfl, x, dx, _, rfl, eX, rfl, x, dc, ods, rfl, S.st, fun p1 x1 n1 h1 => ?_⟩
      have s1 := same_upd (o := HO.lst x1) n1
      refine ⟨.ref lc, rfl, .list (allCalls dc ods), .list (allCalls dc ods), .lst (.inl (.inl upd_same)) h1, .lst (.inl (.inl (s1 _ _ S.el))) (dpA_same s1 S.hc), S.sh.1, S.sh.1, _, rfl, iteF' (by rw [S.sh.2]; rfl) ?_⟩
      have S1 := S.same s1
      have eX1 := s1 _ _ eX
      have egG1 := s1 _ _ egG
      have dvg1 := dp_same s1 dvg
      generalize upd G p1 (.lst x1) = G1 at s1 S1 eX1 egG1 dvg1 ⊢
      refine ⟨.ref x, rfl, x, dx, _, rfl, eX1, x, dc, ods, rfl, S1.st, ⟨_, rfl, by omega, .ref lc, rfl, lc, cs, rfl, .inl (.inl (.inl S1.el)), rfl, _, rfl, iteF' (by rw [csl, decide_eq_true rfl]; rfl) ?_⟩⟩
      dsimp only [tNext]
      have hc8 : dc = .none ∨ treeB 8 dc = true := by
        rcases S.o1.cond.1 with h | ⟨h, _⟩
        · exact .inl h
        · exact .inr h
      refine ⟨.ref x, rfl, x, dx, _, rfl, eX1, rfl, x, dc, ods, rfl, S1.st, fun p2 G2 s2 n2 e2 => ?_⟩
      refine ⟨.ref g, rfl, g, vcg, rfl, dg (s2 _ _ egG1) "filter" rfl, vcg, dc, G1, rfl, s2, dvg1, hc8, (by show ((nodesF 8 dc).map _).length ≤ 1000; rw [List.length_map]; exact nlen), fun p3 x3 G3 s3 n3 e3 h3 => ?_⟩
      refine ⟨.list (nodesD 8 dc), .list (nodesD 8 dc), .lst (.inl (.inl (s3 _ _ e2))) (ints_dp _), .lst (.inl (.inl e3)) (dpA_same (s2.trans s3) h3), (nodes_sh dc).1, (nodes_sh dc).1, _, rfl, iteF' (by rw [(nodes_sh dc).2]; rfl) ?_⟩
      dsimp only [tNext]
      have s13 := s2.trans s3
      have S3 := S1.same s13
      have eX3 := s13 _ _ eX1
      refine ⟨.ref x, rfl, x, dx, _, rfl, eX3, rfl, x, dc, ods, rfl, S3.st, fun p4 x4 n4 h4 => ?_⟩
      refine ⟨.inl ⟨rfl, _, .inl (.inl upd_same)⟩, p4, x4, .non, rfl, rfl, upd_same, ?_, ?_⟩
      · rw [dpA_len h4]
        exact Nat.lt_of_le_of_lt (show _ ≤ 5 from clen) (by decide)
      have s4 : Same G3 (upd (upd G3 p4 (.lst x4)) p4 (.lst (x4 ++ [.non]))) := same_updN (same_upd n4) n4
      generalize upd (upd G3 p4 (.lst x4)) p4 (.lst (x4 ++ [.non])) = G4 at s4 ⊢
      have S4 := S3.same s4
      refine ⟨.ref x, rfl, x, dx, _, rfl, s4 _ _ eX3, rfl, x, dc, ods, rfl, S4.st, fun p5 G5 s5 n5 e5 => ?_⟩
      refine ⟨.inl ⟨rfl, _, .inl (.inl e5)⟩, p5, _, .non, rfl, rfl, e5, ?_, ?_⟩
      · rw [List.length_map]
        exact Nat.lt_of_le_of_lt nlen (by decide)
      have s6 : Same G4 (upd G5 p5 (.lst (((nodesF 8 dc).map fun n => V.int (n : Nat)) ++ [.non]))) := same_updN s5 n5
      exact ⟨_, rfl, ((((sG.trans s1).trans s13).trans s4).trans s6)⟩
    · obtain ⟨z10, rfl, sG⟩ := hW
      have S := sit.same sG
      have nc := calls_ok S.o1.cond.1 S.o1.o
      have clen := S.o1.len
      dsimp only [gName, List.set]
      refine ⟨(by show 2 ≤ sizeLine; decide), fun lw nlw => ?_⟩
      have sw := same_upd (o := HO.lst [V.str "x", .str "y"]) nlw
      have elw : (upd G lw (.lst [V.str "x", .str "y"])) lw = some (.lst [V.str "x", .str "y"]) := upd_same
      have S1 := S.same sw
      have sG1 := sG.trans sw
      generalize upd G lw (.lst [V.str "x", .str "y"]) = G1 at elw S1 sG1 ⊢
      refine ⟨lw, rfl, ⟨_, .inl (.inl elw)⟩, fun D nD => ?_⟩
      refine walk_gen (walk_list (K := K) (a := lw) (xs := [V.str "x", V.str "y"])) (fun n H2 => Same G1 H2 ∧ H2 D = some (.lst (((([("x" : Str), "y"].take n).filter fun z => (allCalls dc ods).any (hasCol z))).map V.str))) ⟨same_upd nD, upd_same⟩ (fun _ H' _ p => .inl (.inl (p.1 _ _ elw))) (fun n xx H2 H3 hi p y => ?_) (fun G2 p => ?_)
      · obtain ⟨s2, eD⟩ := p
        obtain ⟨rfl, hx⟩ := y
        obtain ⟨z, rfl, hz⟩ : ∃ z : Str, xx = .str z ∧ [("x" : Str), "y"][n]? = some z := by
          match n, hx with
          | 0, hx => cases hx; exact ⟨_, rfl, rfl⟩
          | 1, hx => cases hx; exact ⟨_, rfl, rfl⟩
        refine ⟨rfl, ?_⟩
        have S2 := S1.same s2
        refine tt_op ?_
        refine with_col (z := z) (ds := allCalls dc ods) (by rfl) (by intro _; rfl) (by intro _; rfl) (by intro _; rfl) S2.el S2.hc nc (by omega) fun D2 acc H4 s4 e4 hacc => ?_
        refine ⟨Nat.zero_le _, fun l0 nl0 => ?_⟩
        have s5 := same_upd (o := HO.lst []) nl0
        have shf : SeqAt.shaped (.list ((allCalls dc ods).filter (hasCol z))) = true := (shaped_of fun d m => ⟨(call_ok (nc d (List.mem_filter.mp m).1)).2.1, by have := (call_ok (nc d (List.mem_filter.mp m).1)).2.2.1; omega⟩).1
        refine ⟨.list ((allCalls dc ods).filter (hasCol z)), .list [], .lst (.inl (.inl (s5 _ _ e4))) (dpA_same (s4.trans s5) hacc), .lst (.inl (.inl upd_same)) .nil, shf, by decide +kernel, _, rfl, ?_⟩
        rw [eqv_nil, any_filter]
        have t5 := (s2.trans s4).trans s5
        have eD5 := (s4.trans s5) _ _ eD
        cases hb : (allCalls dc ods).any (hasCol z) with
        | true =>
          refine iteT ⟨.str z, rfl, _, eD5, ?_, same_updN t5 nD, ?_⟩
          · rw [List.length_map]
            refine Nat.lt_of_le_of_lt (Nat.le_trans (List.length_filter_le _ _) (show _ ≤ 2 from ?_)) (by decide)
            rw [List.length_take]
            exact Nat.min_le_right _ _
          · rw [upd_same, take_snoc hz, List.filter_append, List.map_append, show List.filter (fun z => (allCalls dc ods).any (hasCol z)) [z] = [z] from List.filter_cons_of_pos hb]
            rfl
        | false =>
          refine iteF ⟨t5, ?_⟩
          rw [take_snoc hz, List.filter_append, List.map_append, show List.filter (fun z => (allCalls dc ods).any (hasCol z)) [z] = [] from List.filter_cons_of_neg (by rw [hb]; decide)]
          rw [eD5]
          simp
      obtain ⟨s2, eD⟩ := p
      have S2 := S1.same s2
      have sG2 := sG1.trans s2
      dsimp only [gName, List.set]
      obtain ⟨dx, vcx, tx, tax, tcx, usx, asx, csx, eX, hx1, hx2, hx3, _⟩ := id S2.st
      obtain ⟨vcg, tg, usg, egG, dvg, hg2, hg3⟩ := id S2.s1
      have eD' : G2 D = some (.lst ((colsOf (allCalls dc ods)).map V.str)) := eD
      have so := (outs_ok S2.o1.o).2
      have sc := (cond_ok S2.o1.cond.1).2.1
      have eo := SeqAt.eqv_refl _ (SeqAt.canLay_of_shaped so)
      have ec := SeqAt.eqv_refl _ (SeqAt.canLay_of_shaped sc)
      refine ⟨.ref x, rfl, x, dx, _, rfl, eX, rfl, x, dc, ods, rfl, S2.st, fun p1 G3 s3 n3 e3 => ?_⟩
      refine ⟨.ref D, rfl, .list ((colsOf (allCalls dc ods)).map PyData.str), .list ((colsOf (allCalls dc ods)).map PyData.str), .lst (.inl (.inl e3)) (strs_dp _), .lst (.inl (.inl (s3 _ _ eD'))) (strs_dp _), (cols_sh _).1, (cols_sh _).1, _, rfl, iteF' (by rw [(cols_sh _).2]; rfl) ?_⟩
      have eX3 := s3 _ _ eX
      have eg3 := s3 _ _ egG
      refine ⟨.ref x, rfl, x, CS, dx, _, _, rfl, eX3, SC.cl, SC.n2, rfl, .ref g, rfl, g, .ref tg, rfl, dg eg3 "outputs" rfl, .tuple ods, .tuple ods, dp_same s3 (.tup hx2 hx3), dp_same s3 (.tup hg2 hg3), so, so, _, rfl, iteF' (by rw [eo]; rfl) ?_⟩
      refine ⟨.ref x, rfl, x, CS, dx, _, _, rfl, eX3, SC.cl, SC.n1, rfl, .ref g, rfl, g, vcg, rfl, dg eg3 "filter" rfl, dc, dc, dp_same s3 hx1, dp_same s3 dvg, sc, sc, _, rfl, iteF' (by rw [ec]; rfl) ?_⟩
      dsimp only [tNext]
      have S3 := S2.same s3
      obtain ⟨vcg2, tg2, usg2, egG2, dvg2, hg22, hg23⟩ := id S3.s2
      have so2 := (outs_ok S3.o2.o).2
      have sc2 := (cond_ok S3.o2.cond.1).2.1
      refine ⟨.ref x, rfl, .ref g2, rfl, g2, dc2, ods2, rfl, S3.s2, S3.o2, fun b2 G4 s4 hB => ?_⟩
      obtain ⟨dy, _, _, _, _, _, _, _, eB, _⟩ := id hB
      have S4 := S3.same s4
      refine ⟨x, b2, dx, dy, _, _, rfl, rfl, s4 _ _ eX3, eB, x, .ref b2, dc, ods, rfl, S4.st, .inl ⟨b2, dc2, ods2, rfl, hB, ?_⟩⟩
      refine ⟨.ref g, rfl, .ref g2, rfl, g, g2, vcg, .ref tg, vcg2, .ref tg2, dc, .tuple ods, dc2, .tuple ods2, rfl, rfl, s4 _ _ eg3, s4 _ _ egG2, dp_same (s3.trans s4) dvg, dp_same (s3.trans s4) (.tup hg2 hg3), dp_same s4 dvg2, dp_same s4 (.tup hg22 hg23), sc, so, sc2, so2, rfl, _, rfl, iteF' (by show (!decide (V.bl (eqSt dc ods dc2 ods2) = V.bl (eqSt dc ods dc2 ods2))) = false; rw [decide_eq_true rfl]; rfl) ?_⟩
      refine ⟨.ref x, rfl, .ref g, rfl, g, dc, ods, rfl, S4.s1, S4.o1, fun b3 G5 s5 hB3 => ?_⟩
      obtain ⟨dz, _, _, _, _, _, _, _, eB3, _⟩ := id hB3
      have S5 := S4.same s5
      have eX5 := s5 _ _ (s4 _ _ eX3)
      refine ⟨x, dx, _, rfl, eX5, ?_, x, .ref b3, dc, ods, rfl, S5.st, .inl ⟨b3, dc, ods, rfl, hB3, _, rfl, _, rfl, iteF' ?_ ?_⟩⟩
      · exact .inl ⟨b3, dz, _, rfl, eB3⟩
      · show (!eqSt dc ods dc ods) = false
        unfold eqSt
        rw [ec, eo]
        rfl
      obtain ⟨vcg5, tg5, usg5, egG5, _⟩ := id S5.s1
      refine ⟨.ref x, rfl, .ref g, rfl, x, dx, _, g, _, rfl, rfl, eX5, egG5, x, .ref g, dc, ods, rfl, S5.st, .inr ⟨g, _, rfl, egG5, _, rfl, iteF ?_⟩⟩
      dsimp only [tNext]
      have sG5 := ((sG2.trans s3).trans s4).trans s5
      refine ⟨.ref lc, rfl, lc, rfl, ⟨_, .inl (.inl S5.el)⟩, ?_⟩
      refine for_list (K := K) (a := lc) (xs := cs) (fun j σ H' => ∃ z12, σ = [some (.ref a), some (.int ((0 : Int) + (i : Nat))), some (.ref p), some (.ref b), some (.ref g), some (.ref g2), some (.ref rt), some (.ref lo), some (.ref x), some (.ref lc), z10, some (.ref D), z12, y13, y14, y15, y16] ∧ Same G5 H') ⟨_, rfl, Same.refl _⟩ (fun j σ H' _ pr => ?_) (fun j xv σ G6 hx pr => ?_) (fun σ G6 pr => ?_)
      · obtain ⟨_, _, s'⟩ := pr
        exact .inl (.inl (s' _ _ S5.el))
      · obtain ⟨z12, rfl, s6⟩ := pr
        have S6 := S5.same s6
        obtain ⟨d, hdi, hv5⟩ := dpA_at S5.hc hx
        have hv := dp_same s6 hv5
        have cb := nc d (List.mem_of_getElem? hdi)
        have zd := (call_ok cb).2.2.2
        obtain ⟨nm, as, rfl, hn, l2, hg⟩ := call_shape cb
        dsimp only [gName, List.set]
        refine ⟨_, rfl, .ref rt, rfl, xv, _, rt, r0, r1, rfl, hv, zd, cb, S6.row, fun t1 H1 s1 h1 => ?_⟩
        refine ⟨_, rfl, .ref rt, rfl, xv, _, rt, r0, r1, rfl, dp_same s1 hv, cb, same_sqT s1 S6.row, fun t2 H2 s2 h2 => ?_⟩
        refine ⟨.tuple ((rowVals r0 r1 (.tuple [nm, .tuple as])).map PyData.int), .tuple ((rowVals r0 r1 (.tuple [nm, .tuple as])).map PyData.int), .tup (same_sqT s2 h1) (int_dp _), .tup h2 (int_dp _), (ints_sh _).1, (ints_sh _).1, _, rfl, iteF' (by rw [(ints_sh _).2]; rfl) ?_⟩
        have t12 := s1.trans s2
        refine ⟨_, rfl, xv, _, rfl, dp_same t12 hv, zd, fun H3 s3 => ⟨_, _, rfl, rfl, _, rfl, iteF' (by rw [cb]; rfl) ?_⟩⟩
        dsimp only [tNext]
        have t3 := t12.trans s3
        refine ⟨_, rfl, xv, _, rfl, dp_same t3 hv, zd, cb, fun H4 s4 => ?_⟩
        have t4 := t3.trans s4
        refine te_op ?_
        refine cols_in (n := nm) (as := as) rfl (dp_same t4 hv) hg l2 (by intro _; rfl) (by intro _; rfl) fun D2 acc H5 s5 e5 hacc => ?_
        refine ⟨Nat.zero_le _, fun l0 nl0 => ?_⟩
        have sl := same_upd (o := HO.lst []) nl0
        have shf : SeqAt.shaped (.list (as.filter isCol)) = true := (shaped_of fun e m => by
          have k := given_ok (hg e (List.mem_filter.mp m).1)
          exact ⟨k.2.1, Nat.le_trans k.2.2.1 (Nat.zero_le _)⟩).1
        refine ⟨.list (as.filter isCol), .list [], .lst (.inl (.inl (sl _ _ e5))) (dpA_same (s5.trans sl) hacc), .lst (.inl (.inl upd_same)) .nil, shf, by decide +kernel, rfl, _, rfl, iteF' ?_ ?_⟩
        · rw [eqv_nil2, none_filter]
          show (!decide (V.bl (as.all fun d => !isCol d) = V.bl (as.all fun d => !isCol d))) = false
          rw [decide_eq_true rfl]
          rfl
        · exact ⟨_, rfl, ((s6.trans t4).trans s5).trans sl⟩
      · obtain ⟨z12, rfl, s6⟩ := pr
        have S6 := S5.same s6
        have sG6 := sG5.trans s6
        dsimp only [gName, List.set]
        refine ⟨.ref p, rfl, .ref b, rfl, L, p, b, rfl, N, l1, S6.hp, S6.bk, fun vm cm H1 b1 hp1 dvm hcm => ?_⟩
        obtain ⟨px, py, ep, _⟩ := id S6.hp
        have T1 := S6.s1.but S6.o1 S6.hp b1
        have X1 := S6.st.list ep b1
        obtain ⟨dx, vcx, tx, tax, tcx, usx, asx, csx, eX, hx1, hx2, hx3, _⟩ := id X1
        have s17 : Same H H1 := same_but (s12.trans sG6) nHp b1
        dsimp only [gName, List.set]
        refine ⟨.ref x, rfl, x, dx, _, rfl, eX, rfl, vm, rfl, x, vm, false, cm, dc, ods, rfl, X1, dvm, hcm, (by have := S6.o1.len; omega), fun xl H2 s2 hL => ?_⟩
        have T2 := T1.same s2
        have X2 := X1.same s2
        have dm2 := dp_same s2 dvm
        obtain ⟨dl, vcl, tl, _, _, usl, _, _, eL, hl1, hl2, hl3, _, _, _, _, _, okl, _⟩ := id hL
        obtain ⟨vcg, tg, usg, egG, dvg, hg2, hg3⟩ := id T2
        have so := (outs_ok S6.o1.o).2
        have eo := SeqAt.eqv_refl _ (SeqAt.canLay_of_shaped so)
        have sol := (outs_ok okl).2
        have eol := SeqAt.eqv_refl _ (SeqAt.canLay_of_shaped sol)
        dsimp only [gName, List.set]
        refine ⟨.ref xl, rfl, xl, CS, dl, _, _, rfl, eL, SC.cl, SC.n2, rfl, .ref g, rfl, g, .ref tg, rfl, dg egG "outputs" rfl, vm, rfl, (by show 2 ≤ sizeLine; decide), fun t1 nt1 => ⟨(by show 1 ≤ sizeLine; decide), fun t2 nt2 => ?_⟩⟩
        have st := (same_upd (o := HO.tup [vm, .bl false]) nt1).trans (same_upd (o := HO.tup [V.ref t1]) nt2)
        have e2 : (upd (upd H2 t1 (.tup [vm, .bl false])) t2 (.tup [V.ref t1])) t2 = some (.tup [V.ref t1]) := upd_same
        have e1 : (upd (upd H2 t1 (.tup [vm, .bl false])) t2 (.tup [V.ref t1])) t1 = some (.tup [vm, .bl false]) := same_upd nt2 _ _ upd_same
        generalize upd (upd H2 t1 (.tup [vm, .bl false])) t2 (.tup [V.ref t1]) = H3 at st e1 e2 ⊢
        have hnew : Dp K H3 (.ref t1) (.tuple [cm, .bool false]) := .tup (.inl (.inl e1)) (.cons (dp_same st dm2) (.cons (.bl _) .nil))
        have fin : ∀ (o : Addr) (ys : List V) (H4 : Hp), Same H3 H4 → SqT K H4 o ys → DpAll K H4 ys (ods ++ [.tuple [cm, .bool false]]) → True := fun _ _ _ _ _ _ => trivial
        have lu : usg.length ≤ 2 := by rw [dpA_len hg3]; exact S6.o1.lo
        have s37 := (s17.trans s2).trans st
        have rest : ∀ (D9 : Ends) (R : Bool → Hp → Prop), True := fun _ _ => trivial
        refine ⟨tg, t2, usg, [.ref t1], rfl, rfl, same_sqT st hg2, .inl (.inl e2), Nat.le_trans (show usg.length + 1 ≤ 9 by omega) (by decide), fun e0 => ?_, fun _ e1 => absurd e1 (List.cons_ne_nil _ _), fun _ _ p3 np3 => ?_⟩
        · subst e0
          have ho : ods = [] := List.length_eq_zero_iff.mp (dpA_len hg3).symm
          have hO : Dp K H3 (.ref t2) (.tuple (ods ++ [.tuple [cm, .bool false]])) := by
            rw [ho]
            exact .tup (.inl (.inl e2)) (.cons hnew .nil)
          have sx := Same.refl H3
          have sx2 := st.trans sx
          have T3 := T2.same sx2
          have eX3 := sx2 _ _ (s2 _ _ eX)
          have eg3 := sx2 _ _ egG
          refine ⟨PyData.tuple (ods ++ [PyData.tuple [cm, PyData.bool false]]), PyData.tuple (ods ++ [PyData.tuple [cm, PyData.bool false]]), dp_same sx2 (.tup hl2 hl3), hO, sol, sol, _, rfl, iteF' (by rw [eol]; rfl) ?_⟩
          refine ⟨.ref x, rfl, x, CS, dx, _, _, rfl, eX3, SC.cl, SC.n2, rfl, .ref g, rfl, g, .ref tg, rfl, dg eg3 "outputs" rfl, .tuple ods, .tuple ods, dp_same (s2.trans sx2) (.tup hx2 hx3), dp_same sx2 (.tup hg2 hg3), so, so, _, rfl, iteF' (by rw [eo]; rfl) ?_⟩
          dsimp only [tNext]
          refine ⟨vm, rfl, (by show 3 ≤ sizeLine; decide), fun t5 nt5 => ?_⟩
          have s5 := same_upd (o := HO.tup [V.str "is", vm, .int 1]) nt5
          have h5 := dpT (K := K) nt5 (.cons (.str "is") (.cons (dp_same sx2 dm2) (.cons (.int 1) .nil)))
          refine ⟨.ref t5, .tuple [.str "is", cm, .int 1], rfl, h5, (by show (callB cm && isValue (.int 1)) = true; rw [hcm]; decide +kernel), fun H6 s6 => ⟨_, rfl, iteF' rfl ?_⟩⟩
          have t6 := s5.trans s6
          refine ⟨.ref g, rfl, g, vcg, rfl, dg (t6 _ _ eg3) "filter" rfl, _, rfl, ?_⟩
          by_cases hn : dc = .none
          · have hvn : vcg = .non := by
              have d2 := dvg
              rw [hn] at d2
              cases d2
              rfl
            refine iteF' (by rw [decide_eq_true hvn]; rfl) (iteF ?_)
            exact ⟨_, _, _, _, _, _, _, _, _, _, _, _, _, _, _, _, rfl, (s37.trans sx).trans t6⟩
          · refine iteT' (by rw [not_none dvg hn]; rfl) ?_
            refine ⟨.ref g, rfl, g, vcg, rfl, dg (t6 _ _ eg3) "filter" rfl, vcg, dc, rfl, dp_same (sx2.trans t6) dvg, (cond_ok S6.o1.cond.1).2.2, fun H7 s7 => ⟨_, _, rfl, rfl, _, rfl, ?_⟩⟩
            have t8 : treeB 8 dc = true := by
              rcases S6.o1.cond.1 with h | ⟨h, _⟩
              · exact absurd h hn
              · exact h
            rw [t8]
            refine iteF' rfl ?_
            exact ⟨_, _, _, _, _, _, _, _, _, _, _, _, _, _, _, _, rfl, ((s37.trans sx).trans t6).trans s7⟩
        · have sx := same_upd (o := HO.tup (usg ++ [V.ref t1])) np3
          have hO : Dp K (upd H3 p3 (.tup (usg ++ [.ref t1]))) (.ref p3) (.tuple (ods ++ [.tuple [cm, .bool false]])) := .tup (.inl (.inl upd_same)) (dpA_app (dpA_same (st.trans sx) hg3) (.cons (dp_same sx hnew) .nil))
          generalize upd H3 p3 (.tup (usg ++ [V.ref t1])) = H4 at sx hO ⊢
          have sx2 := st.trans sx
          have T3 := T2.same sx2
          have eX3 := sx2 _ _ (s2 _ _ eX)
          have eg3 := sx2 _ _ egG
          refine ⟨PyData.tuple (ods ++ [PyData.tuple [cm, PyData.bool false]]), PyData.tuple (ods ++ [PyData.tuple [cm, PyData.bool false]]), dp_same sx2 (.tup hl2 hl3), hO, sol, sol, _, rfl, iteF' (by rw [eol]; rfl) ?_⟩
          refine ⟨.ref x, rfl, x, CS, dx, _, _, rfl, eX3, SC.cl, SC.n2, rfl, .ref g, rfl, g, .ref tg, rfl, dg eg3 "outputs" rfl, .tuple ods, .tuple ods, dp_same (s2.trans sx2) (.tup hx2 hx3), dp_same sx2 (.tup hg2 hg3), so, so, _, rfl, iteF' (by rw [eo]; rfl) ?_⟩
          dsimp only [tNext]
          refine ⟨vm, rfl, (by show 3 ≤ sizeLine; decide), fun t5 nt5 => ?_⟩
          have s5 := same_upd (o := HO.tup [V.str "is", vm, .int 1]) nt5
          have h5 := dpT (K := K) nt5 (.cons (.str "is") (.cons (dp_same sx2 dm2) (.cons (.int 1) .nil)))
          refine ⟨.ref t5, .tuple [.str "is", cm, .int 1], rfl, h5, (by show (callB cm && isValue (.int 1)) = true; rw [hcm]; decide +kernel), fun H6 s6 => ⟨_, rfl, iteF' rfl ?_⟩⟩
          have t6 := s5.trans s6
          refine ⟨.ref g, rfl, g, vcg, rfl, dg (t6 _ _ eg3) "filter" rfl, _, rfl, ?_⟩
          by_cases hn : dc = .none
          · have hvn : vcg = .non := by
              have d2 := dvg
              rw [hn] at d2
              cases d2
              rfl
            refine iteF' (by rw [decide_eq_true hvn]; rfl) (iteF ?_)
            exact ⟨_, _, _, _, _, _, _, _, _, _, _, _, _, _, _, _, rfl, (s37.trans sx).trans t6⟩
          · refine iteT' (by rw [not_none dvg hn]; rfl) ?_
            refine ⟨.ref g, rfl, g, vcg, rfl, dg (t6 _ _ eg3) "filter" rfl, vcg, dc, rfl, dp_same (sx2.trans t6) dvg, (cond_ok S6.o1.cond.1).2.2, fun H7 s7 => ⟨_, _, rfl, rfl, _, rfl, ?_⟩⟩
            have t8 : treeB 8 dc = true := by
              rcases S6.o1.cond.1 with h | ⟨h, _⟩
              · exact absurd h hn
              · exact h
            rw [t8]
            refine iteF' rfl ?_
            exact ⟨_, _, _, _, _, _, _, _, _, _, _, _, _, _, _, _, rfl, ((s37.trans sx).trans t6).trans s7⟩
end
/-! ### the head: what the top has left, looked at in the kernel -/
namespace Hd
open He
theorem at_ {l : List Bool} (c : l.all id = true) (i : Nat) {b : Bool} (h : l[i]? = some b) : b = true := List.all_eq_true.mp c b (List.mem_of_getElem? h)
theorem fun_of {K : PySem.W.Frag} {x q : Str} {st : Stmt} {f : Addr} {fd : FuncData} (D : FunD K x q (defArgs st) (defBody st) (defScope st) [] [] f fd) : Fun K x q st f fd := by
  obtain ⟨oc, od, dV, kV, doc, pm, an, cdv, ct, osl, rfl, lk, hcd, dl, _⟩ := D.ex
  rcases dl with ⟨_, rfl⟩ | ⟨h, _⟩
  · exact ⟨⟨oc, od, kV, doc, pm, an, cdv, ct, osl, rfl, lk, hcd⟩, D.kp⟩
  · exact absurd rfl h
theorem dfl0 {K : PySem.W.Frag} {dV : Value} (h : DflV K dV []) : dV = .none := by
  rcases h with ⟨_, e⟩ | ⟨h, _⟩
  · exact e
  · exact absurd rfl h
/-- a number of the module -/
def intB (K : PySem.W.Frag) (x : Str) (i : Int) : Bool := match PySem.W.nsIn K mainGlobals x with
  | some (some (.int j _)) => decide (j = i)
  | _ => false
theorem int_at {K : PySem.W.Frag} {x : Str} {i : Int} (c : intB K x i = true) : ∃ t, PySem.W.nsIn K mainGlobals x = some (some (.int i t)) := by
  unfold intB at c
  cases e : PySem.W.nsIn K mainGlobals x with
  | none =>
    rw [e] at c
    cases c
  | some o =>
    cases o with
    | none =>
      rw [e] at c
      cases c
    | some v =>
      rw [e] at c
      cases v with
      | int j t =>
        have ej : j = i := of_decide_eq_true c
        exact ⟨t, by rw [ej]⟩
      | _ => cases c
/-- a tuple of the module -/
def tupB (K : PySem.W.Frag) (a : Addr) (vs : List V) : Bool := match K.lookup a with
  | some ⟨.type c, none, .seq its _, _⟩ => decide (c = "tuple") && (decide (its.size ≤ sizeLine) && relAll vs its.toList)
  | _ => false
theorem tup_at {K : PySem.W.Frag} {a : Addr} {vs : List V} (h : Hd.tupB K a vs = true) : ∃ (its : Array Value) (n : Nat) (sl : Array (Option Value)), K.lookup a = some ⟨.type "tuple", none, .seq its n, sl⟩ ∧ its.size ≤ sizeLine ∧ Vals vs its.toList := by
  unfold Hd.tupB at h
  cases q : K.lookup a with
  | none =>
    rw [q] at h
    cases h
  | some o =>
    obtain ⟨oc, od, dt, osl⟩ := o
    rw [q] at h
    cases oc with
    | type c =>
      cases od with
      | none =>
        cases dt with
        | seq its n =>
          obtain ⟨h1, h2⟩ := ba (show (decide (c = "tuple") && (decide (its.size ≤ sizeLine) && relAll vs its.toList)) = true from h)
          obtain ⟨h3, h4⟩ := ba h2
          have e : c = "tuple" := of_decide_eq_true h1
          rw [e]
          exact ⟨its, n, osl, rfl, of_decide_eq_true h3, relAll_ok h4⟩
        | _ => cases h
      | some d => cases dt <;> cases h
    | _ => cases od <;> cases dt <;> cases h
/-- a class of errors -/
def excB (K : PySem.W.Frag) (C : Addr) (bm : List Value) (newId : String) : Bool := match K.lookup C with
  | some ⟨.type "type", _, .cls cd, sl⟩ => (match cd.mro, sl.toList with
    | .ref C' :: bm', [_, _, _, _, some (.builtin n), _] => C' == C && n == newId && !cd.hasDel && cd.hasDict && decide (bm' = bm)
    | _, _ => false)
  | _ => false
theorem exc_at {K : PySem.W.Frag} {C : Addr} {bm : List Value} {newId : String} (q : excB K C bm newId = true) :
    ∃ nm qn N bs sn sub ab col dd k0 k1 k2 k3 k5, K.lookup C = some (excClassObj nm qn C N bs bm true sn sub ab col dd k0 k1 k2 k3 k5 newId) := by
  unfold excB at q
  split at q
  · rename_i dd cd sl ho
    split at q
    · rename_i C' bm k0 k1 k2 k3 n k5 hm hs
      simp only [Bool.and_eq_true, beq_iff_eq, Bool.not_eq_true', decide_eq_true_eq] at q
      obtain ⟨⟨⟨⟨rfl, rfl⟩, hdel⟩, hdc⟩, rfl⟩ := q
      obtain ⟨nm, bs, mro, ns, qn, hd, sn, sub, ab, col, del⟩ := cd
      dsimp only at hm hdel hdc
      subst hm hdel hdc
      have hsl : sl = #[k0, k1, k2, k3, some (.builtin n), k5] := by
        obtain ⟨l⟩ := sl
        simp only at hs
        rw [hs]
      subst hsl
      exact ⟨nm, qn, ns, bs, sn, sub, ab, col, dd, k0, k1, k2, k3, k5, ho⟩
    · cases q
  · cases q
/-- what a class's look-up finds, if it is a plain value -/
def fclsB (K : PySem.W.Frag) (c m : Value) (n : Str) (b : String) : Bool := match PySem.W.findCls K c m n with
  | some (.val (.builtin x)) => decide (x = b)
  | _ => false
theorem fcls_at {K : PySem.W.Frag} {c m : Value} {n : Str} {b : String} (h : fclsB K c m n b = true) : PySem.W.findCls K c m n = some (.val (.builtin b)) := by
  unfold fclsB at h
  split at h
  · rename_i x e
    rw [e, (of_decide_eq_true h : x = b)]
  · cases h
/-- what an object of the top names: a def's code and defaults, a class's names -/
def selO (o : Obj) : List Addr := match o.data with
  | .func fd => refV fd.code ++ refV fd.defaults ++ refV fd.kwdefaults
  | .cls cd => [cd.ns]
  | _ => []
def selG (g : Addr → Option Obj) (a : Addr) : List Addr := match g a with
  | some o => selO o
  | none => []
/-- the methods that are wanted -/
def metG (g : Addr → Option Obj) (ms : List Str) (a : Addr) : List Addr := match g a with
  | some ⟨_, _, .dict es _, _⟩ => es.toList.flatMap fun e => match e.key with
    | .str x _ => (match ms.contains x with
      | true => refV e.val
      | false => [])
    | _ => []
  | _ => []
def seqL {α : Type} (l : List Addr) (k : List Addr → α) : α := match l with
  | [] => k []
  | a :: r => seqL r fun z => HandSHeadRun.frNat a fun a => k (a :: z)
def asP (g : Addr → Option Obj) (rs ms : List Str) : List Addr := seqL (rs.map (ga (frG g [mainGlobals]))) fun l1 => seqL (l1.flatMap (selG g)) fun l2 => seqL (l2.flatMap (metG g ms)) fun l3 => seqL (l3.flatMap (selG g)) fun l4 => mainGlobals :: cStatics :: (l1 ++ (l2 ++ (l3 ++ l4)))
/-- what is told: the defs, the tables, the rest by one Bool -/
structure Says (fn : List DefD) (ts : List Tab) (ex : PySem.W.Frag → Bool) (w : World) (K : PySem.W.Frag) : Prop where
  t : SaysT [] fn ts w K
  more : ex K = true
def obsP (rs ms : List Str) (fn : List DefD) (ts : List Tab) (ex : PySem.W.Frag → Bool) (g : Addr → Option Obj) : AlX := (obsT [] fn ts (frG g (asP g rs ms)), ex (frG g (asP g rs ms)))
def hookP (rs ms : List Str) (fn : List DefD) (ts : List Tab) (ex : PySem.W.Frag → Bool) : PySem.W.Hook where
  α := AlX
  obs := fun s => obsP rs ms fn ts ex s.heap.get?
  val := fun w => valX fn ts w
  says := fun w h => ∃ K : PySem.W.Frag, K.In h ∧ Says fn ts ex w K
  of := fun _ _ e => ⟨_, frG_in, ⟨congrArg (fun z : AlX => z.1) e, congrArg (fun z : AlX => z.2) e⟩⟩
  keeps := fun _ _ _ ⟨K, hK, c⟩ k => ⟨K, PySem.W.Frag.In.keeps hK k, c⟩
theorem obsP_eq {rs ms : List Str} {fn : List DefD} {ts : List Tab} {ex : PySem.W.Frag → Bool} {g : Addr → Option Obj} {s : Shared} (h : ∀ a, g a = s.heap.get? a) : obsP rs ms fn ts ex g = (hookP rs ms fn ts ex).obs s := by
  have e : g = s.heap.get? := funext h
  rw [e] <;> rfl
end Hd
/-! ### what the top has written; the end -/
theorem all_mk {l : PySem.W.OpenLaw} {w : World} {K : PySem.W.Frag} {h : Heap} {mg : Str → Option Value} {fa : Addr} (X : K.In h) (G : h.Ns mainGlobals mg) (hfa : mg "law" = some (.ref fa))
    {cS : Addr}
    {fSI : Addr} {fdSI : FuncData}
    {fSE : Addr} {fdSE : FuncData}
    {fSL : Addr} {fdSL : FuncData}
    {fSA : Addr} {fdSA : FuncData}
    {fSP : Addr} {fdSP : FuncData}
    {fSC : Addr} {fdSC : FuncData}
    {fSW : Addr} {fdSW : FuncData}
    {fWh : Addr} {fdWh : FuncData}
    {fVa : Addr} {fdVa : FuncData}
    {fNa : Addr} {fdNa : FuncData}
    {fIc : Addr} {fdIc : FuncData}
    {fCa : Addr} {fdCa : FuncData}
    {fCn : Addr} {fdCn : FuncData}
    {fVo : Addr} {fdVo : FuncData}
    {fIt : Addr} {fdIt : FuncData}
    {fTr : Addr} {fdTr : FuncData}
    {fBr : Addr} {fdBr : FuncData}
    {fCi : Addr} {fdCi : FuncData}
    {fAv : Addr} {fdAv : FuncData}
    {fRo : Addr} {fdRo : FuncData}
    {fTb : Addr} {fdTb : FuncData}
    {fCk : Addr} {fdCk : FuncData}
    {fPl : Addr} {fdPl : FuncData}
    {fDr : Addr} {fdDr : FuncData}
    {fPk : Addr} {fdPk : FuncData}
    {fNm : Addr} {fdNm : FuncData}
    {fLt : Addr} {fdLt : FuncData}
    {fLw : Addr} {fdLw : FuncData}
    {fLb : Addr} {fdLb : FuncData}
    {fLc : Addr} {fdLc : FuncData}
    {fLn : Addr} {fdLn : FuncData}
    {fLo : Addr} {fdLo : FuncData}
    {fLd : Addr} {fdLd : FuncData}
    {fLe : Addr} {fdLe : FuncData}
    {fLs : Addr} {fdLs : FuncData}
    {fLm : Addr} {fdLm : FuncData}
    {fLp : Addr} {fdLp : FuncData}
    {fLf : Addr} {fdLf : FuncData}
    {fLa : Addr} {fdLa : FuncData}
    {t_LONGEST_NAME : Tok}
    {t_MOST_ARGUMENTS : Tok}
    {t_MOST_CALLS : Tok}
    {t_MOST_ROWS : Tok}
    {t_MOST_BRANCHES : Tok}
    {t_DEEPEST_TREE : Tok}
    {aD : Addr} {aR : Addr} {itsR : Array Value} {nR : Nat} {slR : Array (Option Value)} {aV : Addr} {itsV : Array Value} {nV : Nat} {slV : Array (Option Value)} 
    (a_S : PySem.W.nsIn K mainGlobals "Statement" = some (some (.ref cS)))
    (aSI : PySem.W.findIn K (.ref cS) "__init__" = some (some (.ref fSI)))
    (iSI : PySem.W.isFn K (.ref fSI) = true)
    (DSI : FunD K "__init__" "Statement.__init__" (defArgs sStI) (defBody sStI) (defScope sStI) [.ref aD] [] fSI fdSI)
    (aSE : PySem.W.findIn K (.ref cS) "__eq__" = some (some (.ref fSE)))
    (iSE : PySem.W.isFn K (.ref fSE) = true)
    (DSE : FunD K "__eq__" "Statement.__eq__" (defArgs sStE) (defBody sStE) (defScope sStE) [] [] fSE fdSE)
    (aSL : PySem.W.findIn K (.ref cS) "__len__" = some (some (.ref fSL)))
    (iSL : PySem.W.isFn K (.ref fSL) = true)
    (DSL : FunD K "__len__" "Statement.__len__" (defArgs sStL) (defBody sStL) (defScope sStL) [] [] fSL fdSL)
    (aSA : PySem.W.findIn K (.ref cS) "all_calls" = some (some (.ref fSA)))
    (iSA : PySem.W.isFn K (.ref fSA) = true)
    (DSA : FunD K "all_calls" "Statement.all_calls" (defArgs sStA) (defBody sStA) (defScope sStA) [] [] fSA fdSA)
    (aSP : PySem.W.findIn K (.ref cS) "parts" = some (some (.ref fSP)))
    (iSP : PySem.W.isFn K (.ref fSP) = true)
    (DSP : FunD K "parts" "Statement.parts" (defArgs sStP) (defBody sStP) (defScope sStP) [] [] fSP fdSP)
    (aSC : PySem.W.findIn K (.ref cS) "columns" = some (some (.ref fSC)))
    (iSC : PySem.W.isFn K (.ref fSC) = true)
    (DSC : FunD K "columns" "Statement.columns" (defArgs sStC) (defBody sStC) (defScope sStC) [] [] fSC fdSC)
    (aSW : PySem.W.findIn K (.ref cS) "with_output" = some (some (.ref fSW)))
    (iSW : PySem.W.isFn K (.ref fSW) = true)
    (DSW : FunD K "with_output" "Statement.with_output" (defArgs sStW) (defBody sStW) (defScope sStW) [] [] fSW fdSW)
    (aWh : PySem.W.nsIn K mainGlobals "is_whole" = some (some (.ref fWh)))
    (DWh : FunD K "is_whole" "is_whole" (defArgs sWhole) (defBody sWhole) (defScope sWhole) [] [] fWh fdWh)
    (aVa : PySem.W.nsIn K mainGlobals "is_value" = some (some (.ref fVa)))
    (DVa : FunD K "is_value" "is_value" (defArgs sValue) (defBody sValue) (defScope sValue) [] [] fVa fdVa)
    (aNa : PySem.W.nsIn K mainGlobals "is_name" = some (some (.ref fNa)))
    (DNa : FunD K "is_name" "is_name" (defArgs sName) (defBody sName) (defScope sName) [] [] fNa fdNa)
    (aIc : PySem.W.nsIn K mainGlobals "_is_column" = some (some (.ref fIc)))
    (DIc : FunD K "_is_column" "_is_column" (defArgs sIsCol) (defBody sIsCol) (defScope sIsCol) [] [] fIc fdIc)
    (aCa : PySem.W.nsIn K mainGlobals "is_call" = some (some (.ref fCa)))
    (DCa : FunD K "is_call" "is_call" (defArgs sIsCall) (defBody sIsCall) (defScope sIsCall) [] [] fCa fdCa)
    (aCn : PySem.W.nsIn K mainGlobals "is_constant" = some (some (.ref fCn)))
    (DCn : FunD K "is_constant" "is_constant" (defArgs sIsCon) (defBody sIsCon) (defScope sIsCon) [] [] fCn fdCn)
    (aVo : PySem.W.nsIn K mainGlobals "values_of" = some (some (.ref fVo)))
    (DVo : FunD K "values_of" "values_of" (defArgs sValOf) (defBody sValOf) (defScope sValOf) [] [] fVo fdVo)
    (aIt : PySem.W.nsIn K mainGlobals "_is_tree" = some (some (.ref fIt)))
    (DIt : FunD K "_is_tree" "_is_tree" (defArgs sIsTr) (defBody sIsTr) (defScope sIsTr) [] [] fIt fdIt)
    (aTr : PySem.W.nsIn K mainGlobals "is_tree" = some (some (.ref fTr)))
    (DTr : FunD K "is_tree" "is_tree" (defArgs sTree) (defBody sTree) (defScope sTree) [] [] fTr fdTr)
    (aBr : PySem.W.nsIn K mainGlobals "_branches" = some (some (.ref fBr)))
    (DBr : FunD K "_branches" "_branches" (defArgs sBr) (defBody sBr) (defScope sBr) [] [] fBr fdBr)
    (aCi : PySem.W.nsIn K mainGlobals "_calls_in" = some (some (.ref fCi)))
    (DCi : FunD K "_calls_in" "_calls_in" (defArgs sCIn) (defBody sCIn) (defScope sCIn) [] [] fCi fdCi)
    (aAv : PySem.W.nsIn K mainGlobals "are_values" = some (some (.ref fAv)))
    (DAv : FunD K "are_values" "are_values" (defArgs sAV) (defBody sAV) (defScope sAV) [] [] fAv fdAv)
    (aRo : PySem.W.nsIn K mainGlobals "is_row" = some (some (.ref fRo)))
    (DRo : FunD K "is_row" "is_row" (defArgs sRow) (defBody sRow) (defScope sRow) [] [] fRo fdRo)
    (aTb : PySem.W.nsIn K mainGlobals "is_table" = some (some (.ref fTb)))
    (DTb : FunD K "is_table" "is_table" (defArgs sTab) (defBody sTab) (defScope sTab) [] [] fTb fdTb)
    (aCk : PySem.W.nsIn K mainGlobals "_check_outputs" = some (some (.ref fCk)))
    (DCk : FunD K "_check_outputs" "_check_outputs" (defArgs sChkO) (defBody sChkO) (defScope sChkO) [] [] fCk fdCk)
    (aPl : PySem.W.nsIn K mainGlobals "_law_pool" = some (some (.ref fPl)))
    (DPl : FunD K "_law_pool" "_law_pool" (defArgs sPool) (defBody sPool) (defScope sPool) [] [] fPl fdPl)
    (aDr : PySem.W.nsIn K mainGlobals "_law_draw" = some (some (.ref fDr)))
    (DDr : FunD K "_law_draw" "_law_draw" (defArgs sDraw) (defBody sDraw) (defScope sDraw) [] [] fDr fdDr)
    (aPk : PySem.W.nsIn K mainGlobals "_law_pick" = some (some (.ref fPk)))
    (DPk : FunD K "_law_pick" "_law_pick" (defArgs sPick) (defBody sPick) (defScope sPick) [] [] fPk fdPk)
    (aNm : PySem.W.nsIn K mainGlobals "_law_names" = some (some (.ref fNm)))
    (DNm : FunD K "_law_names" "_law_names" (defArgs sLNames) (defBody sLNames) (defScope sLNames) [] [] fNm fdNm)
    (aLt : PySem.W.nsIn K mainGlobals "_law_term" = some (some (.ref fLt)))
    (DLt : FunD K "_law_term" "_law_term" (defArgs sLTerm) (defBody sLTerm) (defScope sLTerm) [] [] fLt fdLt)
    (aLw : PySem.W.nsIn K mainGlobals "_law_writes" = some (some (.ref fLw)))
    (DLw : FunD K "_law_writes" "_law_writes" (defArgs sLW) (defBody sLW) (defScope sLW) [] [] fLw fdLw)
    (aLb : PySem.W.nsIn K mainGlobals "_law_book" = some (some (.ref fLb)))
    (DLb : FunD K "_law_book" "_law_book" (defArgs sLB) (defBody sLB) (defScope sLB) [] [] fLb fdLb)
    (aLc : PySem.W.nsIn K mainGlobals "_law_calls_in" = some (some (.ref fLc)))
    (DLc : FunD K "_law_calls_in" "_law_calls_in" (defArgs sLCI) (defBody sLCI) (defScope sLCI) [] [] fLc fdLc)
    (aLn : PySem.W.nsIn K mainGlobals "_law_nodes_in" = some (some (.ref fLn)))
    (DLn : FunD K "_law_nodes_in" "_law_nodes_in" (defArgs sLNI) (defBody sLNI) (defScope sLNI) [] [] fLn fdLn)
    (aLo : PySem.W.nsIn K mainGlobals "_law_all_calls" = some (some (.ref fLo)))
    (DLo : FunD K "_law_all_calls" "_law_all_calls" (defArgs sLA) (defBody sLA) (defScope sLA) [] [] fLo fdLo)
    (aLd : PySem.W.nsIn K mainGlobals "_law_draw_call" = some (some (.ref fLd)))
    (DLd : FunD K "_law_draw_call" "_law_draw_call" (defArgs sDC) (defBody sDC) (defScope sDC) [] [] fLd fdLd)
    (aLe : PySem.W.nsIn K mainGlobals "_law_tree" = some (some (.ref fLe)))
    (DLe : FunD K "_law_tree" "_law_tree" (defArgs sLTr) (defBody sLTr) (defScope sLTr) [] [] fLe fdLe)
    (aLs : PySem.W.nsIn K mainGlobals "_law_statement" = some (some (.ref fLs)))
    (DLs : FunD K "_law_statement" "_law_statement" (defArgs sLS) (defBody sLS) (defScope sLS) [] [] fLs fdLs)
    (aLm : PySem.W.nsIn K mainGlobals "_law_made_statement" = some (some (.ref fLm)))
    (DLm : FunD K "_law_made_statement" "_law_made_statement" (defArgs sLMS) (defBody sLMS) (defScope sLMS) [] [] fLm fdLm)
    (aLp : PySem.W.nsIn K mainGlobals "_law_put_in" = some (some (.ref fLp)))
    (DLp : FunD K "_law_put_in" "_law_put_in" (defArgs sLPI) (defBody sLPI) (defScope sLPI) [] [] fLp fdLp)
    (aLf : PySem.W.nsIn K mainGlobals "_law_forms_right" = some (some (.ref fLf)))
    (DLf : FunD K "_law_forms_right" "_law_forms_right" (defArgs sLFR) (defBody sLFR) (defScope sLFR) [] [] fLf fdLf)
    (aLa : PySem.W.nsIn K mainGlobals "law" = some (some (.ref fLa)))
    (DLa : FunD K "law" "law" (defArgs sLaw) (defBody sLaw) (defScope sLaw) [] [] fLa fdLa)
    (z_abs : PySem.W.nsIn K mainGlobals "abs" = some none)
    (z_int : PySem.W.nsIn K mainGlobals "int" = some none)
    (z_len : PySem.W.nsIn K mainGlobals "len" = some none)
    (z_sum : PySem.W.nsIn K mainGlobals "sum" = some none)
    (z_max : PySem.W.nsIn K mainGlobals "max" = some none)
    (z_min : PySem.W.nsIn K mainGlobals "min" = some none)
    (z_range : PySem.W.nsIn K mainGlobals "range" = some none)
    (z_isinstance : PySem.W.nsIn K mainGlobals "isinstance" = some none)
    (z_bool : PySem.W.nsIn K mainGlobals "bool" = some none)
    (z_str : PySem.W.nsIn K mainGlobals "str" = some none)
    (z_tuple : PySem.W.nsIn K mainGlobals "tuple" = some none)
    (z_list : PySem.W.nsIn K mainGlobals "list" = some none)
    (z_dict : PySem.W.nsIn K mainGlobals "dict" = some none)
    (z_all : PySem.W.nsIn K mainGlobals "all" = some none)
    (z_sorted : PySem.W.nsIn K mainGlobals "sorted" = some none)
    (z_repr : PySem.W.nsIn K mainGlobals "repr" = some none)
    (z_zip : PySem.W.nsIn K mainGlobals "zip" = some none)
    (z_enumerate : PySem.W.nsIn K mainGlobals "enumerate" = some none)
    (z_any : PySem.W.nsIn K mainGlobals "any" = some none)
    (i_LONGEST_NAME : PySem.W.nsIn K mainGlobals "LONGEST_NAME" = some (some (.int 8 t_LONGEST_NAME)))
    (i_MOST_ARGUMENTS : PySem.W.nsIn K mainGlobals "MOST_ARGUMENTS" = some (some (.int 2 t_MOST_ARGUMENTS)))
    (i_MOST_CALLS : PySem.W.nsIn K mainGlobals "MOST_CALLS" = some (some (.int 8 t_MOST_CALLS)))
    (i_MOST_ROWS : PySem.W.nsIn K mainGlobals "MOST_ROWS" = some (some (.int 6 t_MOST_ROWS)))
    (i_MOST_BRANCHES : PySem.W.nsIn K mainGlobals "MOST_BRANCHES" = some (some (.int 8 t_MOST_BRANCHES)))
    (i_DEEPEST_TREE : PySem.W.nsIn K mainGlobals "DEEPEST_TREE" = some (some (.int 8 t_DEEPEST_TREE)))
    (pgS : PySem.W.plainGet K cS Str.empty = true)
    (hdS : PySem.W.hasDictIn K cS = true)
    (poS : PySem.W.plainOver K cS = true)
    (saS : PySem.W.findIn K (.ref cS) "__setattr__" = some (some (.builtin "object.__setattr__")))
    (mkS : PySem.W.makesIn K cS = true)
    (kcS : PySem.W.keepIn K (.ref cS) = true)
    (cgL : PySem.W.specialIn K (.builtin "object.__class__") "__get__" = some (some (.builtin "getset_descriptor.__get__")))
    (ctL : PySem.W.takesIn K (.builtin "object.__class__") = some true)
    (meS : PySem.W.kitOne K (.ref cS) (.ref cS) = some true)
    (caS : PySem.W.findIn K (.ref cS) "__class__" = some (some (.builtin "object.__class__")))
    (cmS : PySem.W.mroIn K cS (.type "object") = some true)
    (noS_NoneType : PySem.W.kitOne K (.type "NoneType") (.ref cS) = some false)
    (noS_bool : PySem.W.kitOne K (.type "bool") (.ref cS) = some false)
    (noS_int : PySem.W.kitOne K (.type "int") (.ref cS) = some false)
    (noS_str : PySem.W.kitOne K (.type "str") (.ref cS) = some false)
    (noS_list : PySem.W.kitOne K (.type "list") (.ref cS) = some false)
    (noS_tuple : PySem.W.kitOne K (.type "tuple") (.ref cS) = some false)
    (noS_dict : PySem.W.kitOne K (.type "dict") (.ref cS) = some false)
    (neS : PySem.W.findIn K (.ref cS) "__ne__" = some (some (.builtin "object.__ne__")))
    (soS : PySem.W.subIn K (.ref cS) (.type "object") = some true)
    (nfS : PySem.W.notFirst K cS (.type "str") = true)
    (ndS : PySem.W.notFirst K cS (.type "dict") = true)
    (fiSL : PySem.W.fnIn K fSL = true)
    (n_condition : PySem.W.findIn K (.ref cS) "condition" = some none)
    (n_outputs : PySem.W.findIn K (.ref cS) "outputs" = some none)
    (n__atoms : PySem.W.findIn K (.ref cS) "_atoms" = some none)
    (n__calls : PySem.W.findIn K (.ref cS) "_calls" = some none)
    (vR : PySem.W.nsIn K mainGlobals "COLUMNS" = some (some (.ref aR)))
    (lR : K.lookup aR = some ⟨.type "tuple", none, .seq itsR nR, slR⟩)
    (rR : Vals [.str "x", .str "y"] itsR.toList)
    (sR : itsR.size ≤ sizeLine)
    (vV : PySem.W.nsIn K mainGlobals "VALUES" = some (some (.ref aV)))
    (lV : K.lookup aV = some ⟨.type "tuple", none, .seq itsV nV, slV⟩)
    (rV : Vals [.int 0, .int 1, .int 2] itsV.toList)
    (sV : itsV.size ≤ sizeLine) :
    ∃ fd : FuncData, (∀ (s : Shared) (v : Value), BindsTo s fd ⟨[v], []⟩ [("_law_script", v)]) ∧ ∀ base : Heap, K.In base → base.Ns mainGlobals mg → FnOk l.prog w K mg base CX0 20 fa fd ["_law_script"] (spLaw K) := by
  have e := hfa.symm.trans (PySem.W.mg_of X G aLa)
  cases e
  have kSI := DSI.kp
  have kSE := DSE.kp
  have FSE := Hd.fun_of DSE
  have bSE := FSE.binds (ps := ["self", "other"]) fun _ _ _ _ _ _ us hl => match us, hl with | [_, _], _ => rfl
  have kSL := DSL.kp
  have FSL := Hd.fun_of DSL
  have bSL := FSL.binds (ps := ["self"]) fun _ _ _ _ _ _ us hl => match us, hl with | [_], _ => rfl
  have kSA := DSA.kp
  have FSA := Hd.fun_of DSA
  have bSA := FSA.binds (ps := ["self"]) fun _ _ _ _ _ _ us hl => match us, hl with | [_], _ => rfl
  have kSP := DSP.kp
  have FSP := Hd.fun_of DSP
  have bSP := FSP.binds (ps := ["self"]) fun _ _ _ _ _ _ us hl => match us, hl with | [_], _ => rfl
  have kSC := DSC.kp
  have FSC := Hd.fun_of DSC
  have bSC := FSC.binds (ps := ["self"]) fun _ _ _ _ _ _ us hl => match us, hl with | [_], _ => rfl
  have kSW := DSW.kp
  have FSW := Hd.fun_of DSW
  have bSW := FSW.binds (ps := ["self", "call", "shown"]) fun _ _ _ _ _ _ us hl => match us, hl with | [_, _, _], _ => rfl
  have kWh := DWh.kp
  have FWh := Hd.fun_of DWh
  have bWh := FWh.binds (ps := ["value"]) fun _ _ _ _ _ _ us hl => match us, hl with | [_], _ => rfl
  have kVa := DVa.kp
  have FVa := Hd.fun_of DVa
  have bVa := FVa.binds (ps := ["value"]) fun _ _ _ _ _ _ us hl => match us, hl with | [_], _ => rfl
  have kNa := DNa.kp
  have FNa := Hd.fun_of DNa
  have bNa := FNa.binds (ps := ["value"]) fun _ _ _ _ _ _ us hl => match us, hl with | [_], _ => rfl
  have kIc := DIc.kp
  have FIc := Hd.fun_of DIc
  have bIc := FIc.binds (ps := ["value"]) fun _ _ _ _ _ _ us hl => match us, hl with | [_], _ => rfl
  have kCa := DCa.kp
  have FCa := Hd.fun_of DCa
  have bCa := FCa.binds (ps := ["value"]) fun _ _ _ _ _ _ us hl => match us, hl with | [_], _ => rfl
  have kCn := DCn.kp
  have FCn := Hd.fun_of DCn
  have bCn := FCn.binds (ps := ["call"]) fun _ _ _ _ _ _ us hl => match us, hl with | [_], _ => rfl
  have kVo := DVo.kp
  have FVo := Hd.fun_of DVo
  have bVo := FVo.binds (ps := ["call", "row"]) fun _ _ _ _ _ _ us hl => match us, hl with | [_, _], _ => rfl
  have kIt := DIt.kp
  have FIt := Hd.fun_of DIt
  have bIt := FIt.binds (ps := ["value", "deep"]) fun _ _ _ _ _ _ us hl => match us, hl with | [_, _], _ => rfl
  have kTr := DTr.kp
  have FTr := Hd.fun_of DTr
  have bTr := FTr.binds (ps := ["value"]) fun _ _ _ _ _ _ us hl => match us, hl with | [_], _ => rfl
  have kBr := DBr.kp
  have FBr := Hd.fun_of DBr
  have bBr := FBr.binds (ps := ["tree"]) fun _ _ _ _ _ _ us hl => match us, hl with | [_], _ => rfl
  have kCi := DCi.kp
  have FCi := Hd.fun_of DCi
  have bCi := FCi.binds (ps := ["tree"]) fun _ _ _ _ _ _ us hl => match us, hl with | [_], _ => rfl
  have kAv := DAv.kp
  have FAv := Hd.fun_of DAv
  have bAv := FAv.binds (ps := ["values", "many"]) fun _ _ _ _ _ _ us hl => match us, hl with | [_, _], _ => rfl
  have kRo := DRo.kp
  have FRo := Hd.fun_of DRo
  have bRo := FRo.binds (ps := ["value"]) fun _ _ _ _ _ _ us hl => match us, hl with | [_], _ => rfl
  have kTb := DTb.kp
  have FTb := Hd.fun_of DTb
  have bTb := FTb.binds (ps := ["value"]) fun _ _ _ _ _ _ us hl => match us, hl with | [_], _ => rfl
  have kCk := DCk.kp
  have FCk := Hd.fun_of DCk
  have bCk := FCk.binds (ps := ["outputs"]) fun _ _ _ _ _ _ us hl => match us, hl with | [_], _ => rfl
  have kPl := DPl.kp
  have FPl := Hd.fun_of DPl
  have bPl := FPl.binds (ps := ["_law_script", "_law_k"]) fun _ _ _ _ _ _ us hl => match us, hl with | [_, _], _ => rfl
  have kDr := DDr.kp
  have FDr := Hd.fun_of DDr
  have bDr := FDr.binds (ps := ["_law_pool_here", "_law_many"]) fun _ _ _ _ _ _ us hl => match us, hl with | [_, _], _ => rfl
  have kPk := DPk.kp
  have FPk := Hd.fun_of DPk
  have bPk := FPk.binds (ps := ["_law_pool_here", "_law_row"]) fun _ _ _ _ _ _ us hl => match us, hl with | [_, _], _ => rfl
  have kNm := DNm.kp
  have FNm := Hd.fun_of DNm
  have bNm := FNm.binds (ps := ["_law_pool_here", "_law_count"]) fun _ _ _ _ _ _ us hl => match us, hl with | [_, _], _ => rfl
  have kLt := DLt.kp
  have FLt := Hd.fun_of DLt
  have bLt := FLt.binds (ps := ["_law_pool_here", "_law_b", "_law_many", "_law_deep"]) fun _ _ _ _ _ _ us hl => match us, hl with | [_, _, _, _], _ => rfl
  have kLw := DLw.kp
  have FLw := Hd.fun_of DLw
  have bLw := FLw.binds (ps := ["_law_pool_here", "_law_b", "_law_many"]) fun _ _ _ _ _ _ us hl => match us, hl with | [_, _, _], _ => rfl
  have kLb := DLb.kp
  have FLb := Hd.fun_of DLb
  have bLb := FLb.binds (ps := ["_law_pool_here", "_law_most", "_law_deep"]) fun _ _ _ _ _ _ us hl => match us, hl with | [_, _, _], _ => rfl
  have kLc := DLc.kp
  have FLc := Hd.fun_of DLc
  have bLc := FLc.binds (ps := ["_law_tree_here"]) fun _ _ _ _ _ _ us hl => match us, hl with | [_], _ => rfl
  have kLn := DLn.kp
  have FLn := Hd.fun_of DLn
  have bLn := FLn.binds (ps := ["_law_tree_here"]) fun _ _ _ _ _ _ us hl => match us, hl with | [_], _ => rfl
  have kLo := DLo.kp
  have FLo := Hd.fun_of DLo
  have bLo := FLo.binds (ps := ["_law_st"]) fun _ _ _ _ _ _ us hl => match us, hl with | [_], _ => rfl
  have kLd := DLd.kp
  have FLd := Hd.fun_of DLd
  have bLd := FLd.binds (ps := ["_law_pool_here", "_law_b"]) fun _ _ _ _ _ _ us hl => match us, hl with | [_, _], _ => rfl
  have kLe := DLe.kp
  have FLe := Hd.fun_of DLe
  have bLe := FLe.binds (ps := ["_law_pool_here", "_law_b", "_law_many"]) fun _ _ _ _ _ _ us hl => match us, hl with | [_, _, _], _ => rfl
  have kLs := DLs.kp
  have FLs := Hd.fun_of DLs
  have bLs := FLs.binds (ps := ["_law_pool_here", "_law_b", "_law_most"]) fun _ _ _ _ _ _ us hl => match us, hl with | [_, _, _], _ => rfl
  have kLm := DLm.kp
  have FLm := Hd.fun_of DLm
  have bLm := FLm.binds (ps := ["_law_st"]) fun _ _ _ _ _ _ us hl => match us, hl with | [_], _ => rfl
  have kLp := DLp.kp
  have FLp := Hd.fun_of DLp
  have bLp := FLp.binds (ps := ["_law_call", "_law_row"]) fun _ _ _ _ _ _ us hl => match us, hl with | [_, _], _ => rfl
  have kLf := DLf.kp
  have FLf := Hd.fun_of DLf
  have bLf := FLf.binds (ps := ["_law_tree_here"]) fun _ _ _ _ _ _ us hl => match us, hl with | [_], _ => rfl
  have kLa := DLa.kp
  have FLa := Hd.fun_of DLa
  have M : Blt mg := ⟨PySem.W.mg_none_of X G z_abs, PySem.W.mg_none_of X G z_int, PySem.W.mg_none_of X G z_len, PySem.W.mg_none_of X G z_sum, PySem.W.mg_none_of X G z_max, PySem.W.mg_none_of X G z_min, PySem.W.mg_none_of X G z_range, PySem.W.mg_none_of X G z_isinstance, PySem.W.mg_none_of X G z_bool, PySem.W.mg_none_of X G z_str, PySem.W.mg_none_of X G z_tuple, PySem.W.mg_none_of X G z_list, PySem.W.mg_none_of X G z_dict, PySem.W.mg_none_of X G z_all, PySem.W.mg_none_of X G z_sorted, PySem.W.mg_none_of X G z_repr, PySem.W.mg_none_of X G z_zip⟩
  have NKS : NoKit K cS := fun d => match d with
    | .none => noS_NoneType
    | .bool _ => noS_bool
    | .int _ => noS_int
    | .str _ => noS_str
    | .list _ => noS_list
    | .tuple _ => noS_tuple
    | .dict _ => noS_dict
  have TC : CellsTxt K mg := ⟨⟨aV, (PySem.W.mg_of X G vV), fun H => .inr ⟨_, itsV, nV, lV, rfl, rfl, sV, rV⟩⟩, ⟨_, (PySem.W.mg_of X G i_LONGEST_NAME)⟩⟩
  have TS : StTxt K mg := ⟨⟨aR, _, (PySem.W.mg_of X G vR), lR, rfl, rfl, fun H => .inr ⟨_, itsR, nR, lR, rfl, rfl, sR, rR⟩⟩, ⟨_, (PySem.W.mg_of X G i_MOST_ARGUMENTS)⟩⟩
  have TT : TrTxt K mg := ⟨⟨_, (PySem.W.mg_of X G i_MOST_BRANCHES)⟩, ⟨_, (PySem.W.mg_of X G i_DEEPEST_TREE)⟩⟩
  have TK : CallTxt mg := ⟨⟨_, (PySem.W.mg_of X G i_MOST_CALLS)⟩⟩
  have CF : CellFns K mg fWh fVa fNa _ _ _ := ⟨FWh, FVa, FNa, bWh, bVa, bNa, (PySem.W.mg_of X G aWh), (PySem.W.mg_of X G aVa), (PySem.W.mg_of X G aNa)⟩
  have KS : KitC K cS := ⟨⟨pgS, hdS, poS, saS⟩, meS, caS, cgL, ctL, cmS, NKS⟩
  have SC : StC K cS := ⟨⟨pgS, hdS, poS, saS⟩, n_condition, n_outputs, n__atoms, n__calls⟩
  have DS := DSI
  obtain ⟨dsS, hdsS, bSI⟩ := DS.binds1 (ps := ["self", "condition", "outputs"]) 3 1 (by simp) rfl (fun T kV doc pm an cdv ct us its l1 l2 => match us, its, l1, l2 with | [_, _, _], [_], _, _ => ⟨_, rfl, rfl⟩)
  have hn0 : dsS = [] := by
    have z : Vals [] dsS := hdsS
    cases z
    rfl
  subst hn0
  have bLaw := FunD.bindsA (ps := ["_law_script"]) DLa fun _ _ _ _ _ _ us hl => match us, hl with | [_], _ => rfl
  exact ⟨fdLa, fun s v => bLaw s [v] rfl, fun base _ _ => by
    have GWh := ok_whole (P := l.prog) (w := w) (base := base) FWh M
    have GVa := ok_value (P := l.prog) (w := w) (base := base) FVa M TC FWh bWh ((PySem.W.mg_of X G aWh))
    have GIc := ok_isCol (P := l.prog) (w := w) (base := base) FIc M TS
    have GCa := ok_isCall (P := l.prog) (w := w) (base := base) FCa M TC TS CF FIc bIc ((PySem.W.mg_of X G aIc))
    have GCn := ok_isCon (P := l.prog) (w := w) (base := base) FCn M TS FIc bIc ((PySem.W.mg_of X G aIc))
    have GVo := ok_valOf (P := l.prog) (w := w) (base := base) FVo M TS FIc bIc ((PySem.W.mg_of X G aIc))
    have GIt := ok_isTr (P := l.prog) (w := w) (base := base) FIt M TT GCa kCa bCa ((PySem.W.mg_of X G aCa)) GVa kVa bVa ((PySem.W.mg_of X G aVa)) bIt ((PySem.W.mg_of X G aIt)) 8
    have GTr := ok_tree (P := l.prog) (w := w) (base := base) FTr TT GIt kIt bIt ((PySem.W.mg_of X G aIt))
    have GBr := ok_br (P := l.prog) (w := w) (base := base) FBr M
    have GCi := ok_cIn (P := l.prog) (w := w) (base := base) FCi M TK GBr kBr bBr ((PySem.W.mg_of X G aBr))
    have GAv := ok_av (P := l.prog) (w := w) (base := base) FAv M GVa kVa bVa ((PySem.W.mg_of X G aVa))
    have GRo := ok_row (P := l.prog) (w := w) (base := base) FRo M TS GAv kAv bAv ((PySem.W.mg_of X G aAv))
    have GTb := ok_tab (P := l.prog) (w := w) (base := base) FTb M ⟨_, (PySem.W.mg_of X G i_MOST_ROWS)⟩ GRo kRo bRo ((PySem.W.mg_of X G aRo))
    have GCk := ok_chkO (P := l.prog) (w := w) (base := base) FCk M (PySem.W.mg_none_of X G z_enumerate) GCa kCa bCa ((PySem.W.mg_of X G aCa))
    have GSI := ok_stI (P := l.prog) (w := w) (base := base) DS M SC TK GTr kTr bTr ((PySem.W.mg_of X G aTr)) GCk kCk bCk ((PySem.W.mg_of X G aCk)) GCi kCi bCi ((PySem.W.mg_of X G aCi))
    have SM : StMk l.prog w K mg base cS fSI _ := ⟨⟨mkS, aSI, iSI, kcS⟩, GSI, (PySem.W.mg_of X G a_S), bSI⟩
    have GSE := ok_stE (P := l.prog) (w := w) (base := base) FSE M KS SC ((PySem.W.mg_of X G a_S))
    have GSL := ok_stL (P := l.prog) (w := w) (base := base) FSL M SC
    have GSA := ok_stA (P := l.prog) (w := w) (base := base) FSA M SC
    have GSP := ok_stP (P := l.prog) (w := w) (base := base) FSP M SC GBr kBr bBr ((PySem.W.mg_of X G aBr))
    have GSC := ok_stC (P := l.prog) (w := w) (base := base) FSC M (PySem.W.mg_none_of X G z_any) TS SC
    have GSW := ok_stW (P := l.prog) (w := w) (base := base) FSW SC SM
    have GDr := ok_draw (P := l.prog) (w := w) (K := K) (base := base) FDr M
    have GPk := ok_pick (P := l.prog) (w := w) (base := base) FPk M FDr bDr ((PySem.W.mg_of X G aDr))
    have GLb := ok_lb (P := l.prog) (w := w) (base := base) FLb M FDr bDr ((PySem.W.mg_of X G aDr)) FPk bPk ((PySem.W.mg_of X G aPk)) FNm bNm ((PySem.W.mg_of X G aNm)) FLt bLt ((PySem.W.mg_of X G aLt)) FLw bLw ((PySem.W.mg_of X G aLw))
    have GLc := ok_lci (P := l.prog) (w := w) (base := base) FLc bLc ((PySem.W.mg_of X G aLc)) 8
    have GLn := ok_lni (P := l.prog) (w := w) (base := base) FLn M bLn ((PySem.W.mg_of X G aLn)) 8
    have GLo := ok_la (P := l.prog) (w := w) (base := base) FLo M GLc kLc bLc ((PySem.W.mg_of X G aLc))
    have GLd := ok_dc (P := l.prog) (w := w) (base := base) FLd M GPk kPk bPk ((PySem.W.mg_of X G aPk))
    have GLe := ok_lt (P := l.prog) (w := w) (base := base) FLe M bLe ((PySem.W.mg_of X G aLe)) GDr kDr bDr ((PySem.W.mg_of X G aDr)) GPk kPk bPk ((PySem.W.mg_of X G aPk)) GLd kLd bLd ((PySem.W.mg_of X G aLd)) 3
    have GLs := ok_ls (P := l.prog) (w := w) (base := base) FLs M GLe kLe bLe ((PySem.W.mg_of X G aLe)) GDr kDr bDr ((PySem.W.mg_of X G aDr)) GLd kLd bLd ((PySem.W.mg_of X G aLd))
    have GLm := ok_lms (P := l.prog) (w := w) (base := base) FLm SM
    have GLp := ok_lpi (P := l.prog) (w := w) (base := base) FLp M
    have GLf := ok_lfr (P := l.prog) (w := w) (base := base) FLf GTr kTr bTr ((PySem.W.mg_of X G aTr)) GCa kCa bCa ((PySem.W.mg_of X G aCa)) GTb kTb bTb ((PySem.W.mg_of X G aTb))
    have SQ : StQ l.prog w K mg base cS fSE _ := ⟨aSE, iSE, GSE, bSE, neS, soS, nfS, ndS⟩
    have OL : Op1 l.prog w K mg base CX0 1 cS "__len__" fSL _ _ _ := ⟨aSL, iSL, fiSL, GSL, bSL⟩
    exact ok_law FLa M FPl bPl ((PySem.W.mg_of X G aPl)) FDr bDr ((PySem.W.mg_of X G aDr)) ⟨GLb, kLb, bLb, (PySem.W.mg_of X G aLb)⟩ ⟨GLs, kLs, bLs, (PySem.W.mg_of X G aLs)⟩ SM SC ⟨GLo, kLo, bLo, (PySem.W.mg_of X G aLo)⟩ ⟨GLn, kLn, bLn, (PySem.W.mg_of X G aLn)⟩ ⟨GLm, kLm, bLm, (PySem.W.mg_of X G aLm)⟩ ⟨GLp, kLp, bLp, (PySem.W.mg_of X G aLp)⟩ ⟨GLd, kLd, bLd, (PySem.W.mg_of X G aLd)⟩ ⟨GLf, kLf, bLf, (PySem.W.mg_of X G aLf)⟩ ⟨GVo, kVo, bVo, (PySem.W.mg_of X G aVo)⟩ ⟨GCa, kCa, bCa, (PySem.W.mg_of X G aCa)⟩ ⟨GCn, kCn, bCn, (PySem.W.mg_of X G aCn)⟩ ⟨GTr, kTr, bTr, (PySem.W.mg_of X G aTr)⟩ ⟨GSA, ⟨aSA, iSA, kSA⟩, bSA⟩ ⟨GSP, ⟨aSP, iSP, kSP⟩, bSP⟩ ⟨GSC, ⟨aSC, iSC, kSC⟩, bSC⟩ ⟨GSW, ⟨aSW, iSW, kSW⟩, bSW⟩ OL SQ⟩
namespace Hd
open He
def cS (K : PySem.W.Frag) : Addr := ga K "Statement"
def fSI (K : PySem.W.Frag) : Addr := fAd K ("Statement", some "__init__")
def fSE (K : PySem.W.Frag) : Addr := fAd K ("Statement", some "__eq__")
def fSL (K : PySem.W.Frag) : Addr := fAd K ("Statement", some "__len__")
def fSA (K : PySem.W.Frag) : Addr := fAd K ("Statement", some "all_calls")
def fSP (K : PySem.W.Frag) : Addr := fAd K ("Statement", some "parts")
def fSC (K : PySem.W.Frag) : Addr := fAd K ("Statement", some "columns")
def fSW (K : PySem.W.Frag) : Addr := fAd K ("Statement", some "with_output")
def fWh (K : PySem.W.Frag) : Addr := fAd K ("is_whole", none)
def fVa (K : PySem.W.Frag) : Addr := fAd K ("is_value", none)
def fNa (K : PySem.W.Frag) : Addr := fAd K ("is_name", none)
def fIc (K : PySem.W.Frag) : Addr := fAd K ("_is_column", none)
def fCa (K : PySem.W.Frag) : Addr := fAd K ("is_call", none)
def fCn (K : PySem.W.Frag) : Addr := fAd K ("is_constant", none)
def fVo (K : PySem.W.Frag) : Addr := fAd K ("values_of", none)
def fIt (K : PySem.W.Frag) : Addr := fAd K ("_is_tree", none)
def fTr (K : PySem.W.Frag) : Addr := fAd K ("is_tree", none)
def fBr (K : PySem.W.Frag) : Addr := fAd K ("_branches", none)
def fCi (K : PySem.W.Frag) : Addr := fAd K ("_calls_in", none)
def fAv (K : PySem.W.Frag) : Addr := fAd K ("are_values", none)
def fRo (K : PySem.W.Frag) : Addr := fAd K ("is_row", none)
def fTb (K : PySem.W.Frag) : Addr := fAd K ("is_table", none)
def fCk (K : PySem.W.Frag) : Addr := fAd K ("_check_outputs", none)
def fPl (K : PySem.W.Frag) : Addr := fAd K ("_law_pool", none)
def fDr (K : PySem.W.Frag) : Addr := fAd K ("_law_draw", none)
def fPk (K : PySem.W.Frag) : Addr := fAd K ("_law_pick", none)
def fNm (K : PySem.W.Frag) : Addr := fAd K ("_law_names", none)
def fLt (K : PySem.W.Frag) : Addr := fAd K ("_law_term", none)
def fLw (K : PySem.W.Frag) : Addr := fAd K ("_law_writes", none)
def fLb (K : PySem.W.Frag) : Addr := fAd K ("_law_book", none)
def fLc (K : PySem.W.Frag) : Addr := fAd K ("_law_calls_in", none)
def fLn (K : PySem.W.Frag) : Addr := fAd K ("_law_nodes_in", none)
def fLo (K : PySem.W.Frag) : Addr := fAd K ("_law_all_calls", none)
def fLd (K : PySem.W.Frag) : Addr := fAd K ("_law_draw_call", none)
def fLe (K : PySem.W.Frag) : Addr := fAd K ("_law_tree", none)
def fLs (K : PySem.W.Frag) : Addr := fAd K ("_law_statement", none)
def fLm (K : PySem.W.Frag) : Addr := fAd K ("_law_made_statement", none)
def fLp (K : PySem.W.Frag) : Addr := fAd K ("_law_put_in", none)
def fLf (K : PySem.W.Frag) : Addr := fAd K ("_law_forms_right", none)
def fLa (K : PySem.W.Frag) : Addr := fAd K ("law", none)
def aR (K : PySem.W.Frag) : Addr := ga K "COLUMNS"
def aV (K : PySem.W.Frag) : Addr := ga K "VALUES"
def aD (K : PySem.W.Frag) : Addr := dflAt ("Statement", some "__init__") 0 K
def fn : List DefD := [⟨("Statement", some "__init__"), "__init__", "Statement.__init__", defArgs sStI, defBody sStI, defScope sStI, [.adr (dflAt ("Statement", some "__init__") 0)], []⟩,
  ⟨("Statement", some "__eq__"), "__eq__", "Statement.__eq__", defArgs sStE, defBody sStE, defScope sStE, [], []⟩,
  ⟨("Statement", some "__len__"), "__len__", "Statement.__len__", defArgs sStL, defBody sStL, defScope sStL, [], []⟩,
  ⟨("Statement", some "all_calls"), "all_calls", "Statement.all_calls", defArgs sStA, defBody sStA, defScope sStA, [], []⟩,
  ⟨("Statement", some "parts"), "parts", "Statement.parts", defArgs sStP, defBody sStP, defScope sStP, [], []⟩,
  ⟨("Statement", some "columns"), "columns", "Statement.columns", defArgs sStC, defBody sStC, defScope sStC, [], []⟩,
  ⟨("Statement", some "with_output"), "with_output", "Statement.with_output", defArgs sStW, defBody sStW, defScope sStW, [], []⟩,
  ⟨("is_whole", none), "is_whole", "is_whole", defArgs sWhole, defBody sWhole, defScope sWhole, [], []⟩,
  ⟨("is_value", none), "is_value", "is_value", defArgs sValue, defBody sValue, defScope sValue, [], []⟩,
  ⟨("is_name", none), "is_name", "is_name", defArgs sName, defBody sName, defScope sName, [], []⟩,
  ⟨("_is_column", none), "_is_column", "_is_column", defArgs sIsCol, defBody sIsCol, defScope sIsCol, [], []⟩,
  ⟨("is_call", none), "is_call", "is_call", defArgs sIsCall, defBody sIsCall, defScope sIsCall, [], []⟩,
  ⟨("is_constant", none), "is_constant", "is_constant", defArgs sIsCon, defBody sIsCon, defScope sIsCon, [], []⟩,
  ⟨("values_of", none), "values_of", "values_of", defArgs sValOf, defBody sValOf, defScope sValOf, [], []⟩,
  ⟨("_is_tree", none), "_is_tree", "_is_tree", defArgs sIsTr, defBody sIsTr, defScope sIsTr, [], []⟩,
  ⟨("is_tree", none), "is_tree", "is_tree", defArgs sTree, defBody sTree, defScope sTree, [], []⟩,
  ⟨("_branches", none), "_branches", "_branches", defArgs sBr, defBody sBr, defScope sBr, [], []⟩,
  ⟨("_calls_in", none), "_calls_in", "_calls_in", defArgs sCIn, defBody sCIn, defScope sCIn, [], []⟩,
  ⟨("are_values", none), "are_values", "are_values", defArgs sAV, defBody sAV, defScope sAV, [], []⟩,
  ⟨("is_row", none), "is_row", "is_row", defArgs sRow, defBody sRow, defScope sRow, [], []⟩,
  ⟨("is_table", none), "is_table", "is_table", defArgs sTab, defBody sTab, defScope sTab, [], []⟩,
  ⟨("_check_outputs", none), "_check_outputs", "_check_outputs", defArgs sChkO, defBody sChkO, defScope sChkO, [], []⟩,
  ⟨("_law_pool", none), "_law_pool", "_law_pool", defArgs sPool, defBody sPool, defScope sPool, [], []⟩,
  ⟨("_law_draw", none), "_law_draw", "_law_draw", defArgs sDraw, defBody sDraw, defScope sDraw, [], []⟩,
  ⟨("_law_pick", none), "_law_pick", "_law_pick", defArgs sPick, defBody sPick, defScope sPick, [], []⟩,
  ⟨("_law_names", none), "_law_names", "_law_names", defArgs sLNames, defBody sLNames, defScope sLNames, [], []⟩,
  ⟨("_law_term", none), "_law_term", "_law_term", defArgs sLTerm, defBody sLTerm, defScope sLTerm, [], []⟩,
  ⟨("_law_writes", none), "_law_writes", "_law_writes", defArgs sLW, defBody sLW, defScope sLW, [], []⟩,
  ⟨("_law_book", none), "_law_book", "_law_book", defArgs sLB, defBody sLB, defScope sLB, [], []⟩,
  ⟨("_law_calls_in", none), "_law_calls_in", "_law_calls_in", defArgs sLCI, defBody sLCI, defScope sLCI, [], []⟩,
  ⟨("_law_nodes_in", none), "_law_nodes_in", "_law_nodes_in", defArgs sLNI, defBody sLNI, defScope sLNI, [], []⟩,
  ⟨("_law_all_calls", none), "_law_all_calls", "_law_all_calls", defArgs sLA, defBody sLA, defScope sLA, [], []⟩,
  ⟨("_law_draw_call", none), "_law_draw_call", "_law_draw_call", defArgs sDC, defBody sDC, defScope sDC, [], []⟩,
  ⟨("_law_tree", none), "_law_tree", "_law_tree", defArgs sLTr, defBody sLTr, defScope sLTr, [], []⟩,
  ⟨("_law_statement", none), "_law_statement", "_law_statement", defArgs sLS, defBody sLS, defScope sLS, [], []⟩,
  ⟨("_law_made_statement", none), "_law_made_statement", "_law_made_statement", defArgs sLMS, defBody sLMS, defScope sLMS, [], []⟩,
  ⟨("_law_put_in", none), "_law_put_in", "_law_put_in", defArgs sLPI, defBody sLPI, defScope sLPI, [], []⟩,
  ⟨("_law_forms_right", none), "_law_forms_right", "_law_forms_right", defArgs sLFR, defBody sLFR, defScope sLFR, [], []⟩,
  ⟨("law", none), "law", "law", defArgs sLaw, defBody sLaw, defScope sLaw, [], []⟩]
def ts : List Tab := []
def chk0 (K : PySem.W.Frag) : List Bool := [decide (PySem.W.nsIn K mainGlobals "Statement" = some (some (.ref (cS K)))),
  decide (PySem.W.findIn K (.ref (cS K)) "__init__" = some (some (.ref (fSI K)))),
  PySem.W.isFn K (.ref (fSI K)),
  decide (PySem.W.findIn K (.ref (cS K)) "__eq__" = some (some (.ref (fSE K)))),
  PySem.W.isFn K (.ref (fSE K)),
  decide (PySem.W.findIn K (.ref (cS K)) "__len__" = some (some (.ref (fSL K)))),
  PySem.W.isFn K (.ref (fSL K)),
  decide (PySem.W.findIn K (.ref (cS K)) "all_calls" = some (some (.ref (fSA K)))),
  PySem.W.isFn K (.ref (fSA K)),
  decide (PySem.W.findIn K (.ref (cS K)) "parts" = some (some (.ref (fSP K)))),
  PySem.W.isFn K (.ref (fSP K)),
  decide (PySem.W.findIn K (.ref (cS K)) "columns" = some (some (.ref (fSC K)))),
  PySem.W.isFn K (.ref (fSC K)),
  decide (PySem.W.findIn K (.ref (cS K)) "with_output" = some (some (.ref (fSW K)))),
  PySem.W.isFn K (.ref (fSW K)),
  decide (PySem.W.nsIn K mainGlobals "is_whole" = some (some (.ref (fWh K)))),
  decide (PySem.W.nsIn K mainGlobals "is_value" = some (some (.ref (fVa K)))),
  decide (PySem.W.nsIn K mainGlobals "is_name" = some (some (.ref (fNa K)))),
  decide (PySem.W.nsIn K mainGlobals "_is_column" = some (some (.ref (fIc K)))),
  decide (PySem.W.nsIn K mainGlobals "is_call" = some (some (.ref (fCa K)))),
  decide (PySem.W.nsIn K mainGlobals "is_constant" = some (some (.ref (fCn K)))),
  decide (PySem.W.nsIn K mainGlobals "values_of" = some (some (.ref (fVo K)))),
  decide (PySem.W.nsIn K mainGlobals "_is_tree" = some (some (.ref (fIt K)))),
  decide (PySem.W.nsIn K mainGlobals "is_tree" = some (some (.ref (fTr K)))),
  decide (PySem.W.nsIn K mainGlobals "_branches" = some (some (.ref (fBr K)))),
  decide (PySem.W.nsIn K mainGlobals "_calls_in" = some (some (.ref (fCi K)))),
  decide (PySem.W.nsIn K mainGlobals "are_values" = some (some (.ref (fAv K)))),
  decide (PySem.W.nsIn K mainGlobals "is_row" = some (some (.ref (fRo K))))]
def chk1 (K : PySem.W.Frag) : List Bool := [decide (PySem.W.nsIn K mainGlobals "is_table" = some (some (.ref (fTb K)))),
  decide (PySem.W.nsIn K mainGlobals "_check_outputs" = some (some (.ref (fCk K)))),
  decide (PySem.W.nsIn K mainGlobals "_law_pool" = some (some (.ref (fPl K)))),
  decide (PySem.W.nsIn K mainGlobals "_law_draw" = some (some (.ref (fDr K)))),
  decide (PySem.W.nsIn K mainGlobals "_law_pick" = some (some (.ref (fPk K)))),
  decide (PySem.W.nsIn K mainGlobals "_law_names" = some (some (.ref (fNm K)))),
  decide (PySem.W.nsIn K mainGlobals "_law_term" = some (some (.ref (fLt K)))),
  decide (PySem.W.nsIn K mainGlobals "_law_writes" = some (some (.ref (fLw K)))),
  decide (PySem.W.nsIn K mainGlobals "_law_book" = some (some (.ref (fLb K)))),
  decide (PySem.W.nsIn K mainGlobals "_law_calls_in" = some (some (.ref (fLc K)))),
  decide (PySem.W.nsIn K mainGlobals "_law_nodes_in" = some (some (.ref (fLn K)))),
  decide (PySem.W.nsIn K mainGlobals "_law_all_calls" = some (some (.ref (fLo K)))),
  decide (PySem.W.nsIn K mainGlobals "_law_draw_call" = some (some (.ref (fLd K)))),
  decide (PySem.W.nsIn K mainGlobals "_law_tree" = some (some (.ref (fLe K)))),
  decide (PySem.W.nsIn K mainGlobals "_law_statement" = some (some (.ref (fLs K)))),
  decide (PySem.W.nsIn K mainGlobals "_law_made_statement" = some (some (.ref (fLm K)))),
  decide (PySem.W.nsIn K mainGlobals "_law_put_in" = some (some (.ref (fLp K)))),
  decide (PySem.W.nsIn K mainGlobals "_law_forms_right" = some (some (.ref (fLf K)))),
  decide (PySem.W.nsIn K mainGlobals "law" = some (some (.ref (fLa K)))),
  decide (PySem.W.nsIn K mainGlobals "abs" = some none),
  decide (PySem.W.nsIn K mainGlobals "int" = some none),
  decide (PySem.W.nsIn K mainGlobals "len" = some none),
  decide (PySem.W.nsIn K mainGlobals "sum" = some none),
  decide (PySem.W.nsIn K mainGlobals "max" = some none),
  decide (PySem.W.nsIn K mainGlobals "min" = some none),
  decide (PySem.W.nsIn K mainGlobals "range" = some none),
  decide (PySem.W.nsIn K mainGlobals "isinstance" = some none),
  decide (PySem.W.nsIn K mainGlobals "bool" = some none)]
def chk2 (K : PySem.W.Frag) : List Bool := [decide (PySem.W.nsIn K mainGlobals "str" = some none),
  decide (PySem.W.nsIn K mainGlobals "tuple" = some none),
  decide (PySem.W.nsIn K mainGlobals "list" = some none),
  decide (PySem.W.nsIn K mainGlobals "dict" = some none),
  decide (PySem.W.nsIn K mainGlobals "all" = some none),
  decide (PySem.W.nsIn K mainGlobals "sorted" = some none),
  decide (PySem.W.nsIn K mainGlobals "repr" = some none),
  decide (PySem.W.nsIn K mainGlobals "zip" = some none),
  decide (PySem.W.nsIn K mainGlobals "enumerate" = some none),
  decide (PySem.W.nsIn K mainGlobals "any" = some none),
  intB K "LONGEST_NAME" 8,
  intB K "MOST_ARGUMENTS" 2,
  intB K "MOST_CALLS" 8,
  intB K "MOST_ROWS" 6,
  intB K "MOST_BRANCHES" 8,
  intB K "DEEPEST_TREE" 8,
  PySem.W.plainGet K (cS K) Str.empty,
  PySem.W.hasDictIn K (cS K),
  PySem.W.plainOver K (cS K),
  decide (PySem.W.findIn K (.ref (cS K)) "__setattr__" = some (some (.builtin "object.__setattr__"))),
  PySem.W.makesIn K (cS K),
  PySem.W.keepIn K (.ref (cS K)),
  decide (PySem.W.specialIn K (.builtin "object.__class__") "__get__" = some (some (.builtin "getset_descriptor.__get__"))),
  decide (PySem.W.takesIn K (.builtin "object.__class__") = some true),
  decide (PySem.W.kitOne K (.ref (cS K)) (.ref (cS K)) = some true),
  decide (PySem.W.findIn K (.ref (cS K)) "__class__" = some (some (.builtin "object.__class__"))),
  decide (PySem.W.mroIn K (cS K) (.type "object") = some true),
  decide (PySem.W.kitOne K (.type "NoneType") (.ref (cS K)) = some false)]
def chk3 (K : PySem.W.Frag) : List Bool := [decide (PySem.W.kitOne K (.type "bool") (.ref (cS K)) = some false),
  decide (PySem.W.kitOne K (.type "int") (.ref (cS K)) = some false),
  decide (PySem.W.kitOne K (.type "str") (.ref (cS K)) = some false),
  decide (PySem.W.kitOne K (.type "list") (.ref (cS K)) = some false),
  decide (PySem.W.kitOne K (.type "tuple") (.ref (cS K)) = some false),
  decide (PySem.W.kitOne K (.type "dict") (.ref (cS K)) = some false),
  decide (PySem.W.findIn K (.ref (cS K)) "__ne__" = some (some (.builtin "object.__ne__"))),
  decide (PySem.W.subIn K (.ref (cS K)) (.type "object") = some true),
  PySem.W.notFirst K (cS K) (.type "str"),
  PySem.W.notFirst K (cS K) (.type "dict"),
  PySem.W.fnIn K (fSL K),
  decide (PySem.W.findIn K (.ref (cS K)) "condition" = some none),
  decide (PySem.W.findIn K (.ref (cS K)) "outputs" = some none),
  decide (PySem.W.findIn K (.ref (cS K)) "_atoms" = some none),
  decide (PySem.W.findIn K (.ref (cS K)) "_calls" = some none),
  decide (PySem.W.nsIn K mainGlobals "COLUMNS" = some (some (.ref (aR K)))),
  Hd.tupB K (aR K) [.str "x", .str "y"],
  decide (PySem.W.nsIn K mainGlobals "VALUES" = some (some (.ref (aV K)))),
  Hd.tupB K (aV K) [.int 0, .int 1, .int 2]]
def chk (K : PySem.W.Frag) : Bool := (chk0 K).all id && ((chk1 K).all id && ((chk2 K).all id && ((chk3 K).all id)))
theorem facts {l : PySem.W.OpenLaw} {w : World} {K : PySem.W.Frag} {h : Heap} {mg : Str → Option Value} {fa : Addr} (X : K.In h) (G : h.Ns mainGlobals mg) (hfa : mg "law" = some (.ref fa)) (c : Says fn ts chk w K) :
    ∃ fd : FuncData, (∀ (s : Shared) (v : Value), BindsTo s fd ⟨[v], []⟩ [("_law_script", v)]) ∧ ∀ base : Heap, K.In base → base.Ns mainGlobals mg → FnOk l.prog w K mg base CX0 20 fa fd ["_law_script"] (spLaw K) := by
  have z0 : chk K = true := c.more
  unfold chk at z0
  obtain ⟨q0, z1⟩ := ba z0
  obtain ⟨q1, z2⟩ := ba z1
  obtain ⟨q2, z3⟩ := ba z2
  have q3 := z3
  obtain ⟨fdSI, DSI⟩ := c.t.d.def_ 0 rfl
  obtain ⟨fdSE, DSE⟩ := c.t.d.def_ 1 rfl
  obtain ⟨fdSL, DSL⟩ := c.t.d.def_ 2 rfl
  obtain ⟨fdSA, DSA⟩ := c.t.d.def_ 3 rfl
  obtain ⟨fdSP, DSP⟩ := c.t.d.def_ 4 rfl
  obtain ⟨fdSC, DSC⟩ := c.t.d.def_ 5 rfl
  obtain ⟨fdSW, DSW⟩ := c.t.d.def_ 6 rfl
  obtain ⟨fdWh, DWh⟩ := c.t.d.def_ 7 rfl
  obtain ⟨fdVa, DVa⟩ := c.t.d.def_ 8 rfl
  obtain ⟨fdNa, DNa⟩ := c.t.d.def_ 9 rfl
  obtain ⟨fdIc, DIc⟩ := c.t.d.def_ 10 rfl
  obtain ⟨fdCa, DCa⟩ := c.t.d.def_ 11 rfl
  obtain ⟨fdCn, DCn⟩ := c.t.d.def_ 12 rfl
  obtain ⟨fdVo, DVo⟩ := c.t.d.def_ 13 rfl
  obtain ⟨fdIt, DIt⟩ := c.t.d.def_ 14 rfl
  obtain ⟨fdTr, DTr⟩ := c.t.d.def_ 15 rfl
  obtain ⟨fdBr, DBr⟩ := c.t.d.def_ 16 rfl
  obtain ⟨fdCi, DCi⟩ := c.t.d.def_ 17 rfl
  obtain ⟨fdAv, DAv⟩ := c.t.d.def_ 18 rfl
  obtain ⟨fdRo, DRo⟩ := c.t.d.def_ 19 rfl
  obtain ⟨fdTb, DTb⟩ := c.t.d.def_ 20 rfl
  obtain ⟨fdCk, DCk⟩ := c.t.d.def_ 21 rfl
  obtain ⟨fdPl, DPl⟩ := c.t.d.def_ 22 rfl
  obtain ⟨fdDr, DDr⟩ := c.t.d.def_ 23 rfl
  obtain ⟨fdPk, DPk⟩ := c.t.d.def_ 24 rfl
  obtain ⟨fdNm, DNm⟩ := c.t.d.def_ 25 rfl
  obtain ⟨fdLt, DLt⟩ := c.t.d.def_ 26 rfl
  obtain ⟨fdLw, DLw⟩ := c.t.d.def_ 27 rfl
  obtain ⟨fdLb, DLb⟩ := c.t.d.def_ 28 rfl
  obtain ⟨fdLc, DLc⟩ := c.t.d.def_ 29 rfl
  obtain ⟨fdLn, DLn⟩ := c.t.d.def_ 30 rfl
  obtain ⟨fdLo, DLo⟩ := c.t.d.def_ 31 rfl
  obtain ⟨fdLd, DLd⟩ := c.t.d.def_ 32 rfl
  obtain ⟨fdLe, DLe⟩ := c.t.d.def_ 33 rfl
  obtain ⟨fdLs, DLs⟩ := c.t.d.def_ 34 rfl
  obtain ⟨fdLm, DLm⟩ := c.t.d.def_ 35 rfl
  obtain ⟨fdLp, DLp⟩ := c.t.d.def_ 36 rfl
  obtain ⟨fdLf, DLf⟩ := c.t.d.def_ 37 rfl
  obtain ⟨fdLa, DLa⟩ := c.t.d.def_ 38 rfl
  obtain ⟨_, i_LONGEST_NAME⟩ := int_at (at_ q2 10 rfl)
  obtain ⟨_, i_MOST_ARGUMENTS⟩ := int_at (at_ q2 11 rfl)
  obtain ⟨_, i_MOST_CALLS⟩ := int_at (at_ q2 12 rfl)
  obtain ⟨_, i_MOST_ROWS⟩ := int_at (at_ q2 13 rfl)
  obtain ⟨_, i_MOST_BRANCHES⟩ := int_at (at_ q2 14 rfl)
  obtain ⟨_, i_DEEPEST_TREE⟩ := int_at (at_ q2 15 rfl)
  obtain ⟨_, _, _, lR, sR, rR⟩ := tup_at (at_ q3 16 rfl)
  obtain ⟨_, _, _, lV, sV, rV⟩ := tup_at (at_ q3 18 rfl)
  exact all_mk (l := l) (w := w) X G hfa (of_decide_eq_true (at_ q0 0 rfl)) (of_decide_eq_true (at_ q0 1 rfl)) (at_ q0 2 rfl) DSI (of_decide_eq_true (at_ q0 3 rfl)) (at_ q0 4 rfl) DSE (of_decide_eq_true (at_ q0 5 rfl))
    (at_ q0 6 rfl) DSL (of_decide_eq_true (at_ q0 7 rfl)) (at_ q0 8 rfl) DSA (of_decide_eq_true (at_ q0 9 rfl)) (at_ q0 10 rfl) DSP
    (of_decide_eq_true (at_ q0 11 rfl)) (at_ q0 12 rfl) DSC (of_decide_eq_true (at_ q0 13 rfl)) (at_ q0 14 rfl) DSW (of_decide_eq_true (at_ q0 15 rfl)) DWh
    (of_decide_eq_true (at_ q0 16 rfl)) DVa (of_decide_eq_true (at_ q0 17 rfl)) DNa (of_decide_eq_true (at_ q0 18 rfl)) DIc (of_decide_eq_true (at_ q0 19 rfl)) DCa
    (of_decide_eq_true (at_ q0 20 rfl)) DCn (of_decide_eq_true (at_ q0 21 rfl)) DVo (of_decide_eq_true (at_ q0 22 rfl)) DIt (of_decide_eq_true (at_ q0 23 rfl)) DTr
    (of_decide_eq_true (at_ q0 24 rfl)) DBr (of_decide_eq_true (at_ q0 25 rfl)) DCi (of_decide_eq_true (at_ q0 26 rfl)) DAv (of_decide_eq_true (at_ q0 27 rfl)) DRo
    (of_decide_eq_true (at_ q1 0 rfl)) DTb (of_decide_eq_true (at_ q1 1 rfl)) DCk (of_decide_eq_true (at_ q1 2 rfl)) DPl (of_decide_eq_true (at_ q1 3 rfl)) DDr
    (of_decide_eq_true (at_ q1 4 rfl)) DPk (of_decide_eq_true (at_ q1 5 rfl)) DNm (of_decide_eq_true (at_ q1 6 rfl)) DLt (of_decide_eq_true (at_ q1 7 rfl)) DLw
    (of_decide_eq_true (at_ q1 8 rfl)) DLb (of_decide_eq_true (at_ q1 9 rfl)) DLc (of_decide_eq_true (at_ q1 10 rfl)) DLn (of_decide_eq_true (at_ q1 11 rfl)) DLo
    (of_decide_eq_true (at_ q1 12 rfl)) DLd (of_decide_eq_true (at_ q1 13 rfl)) DLe (of_decide_eq_true (at_ q1 14 rfl)) DLs (of_decide_eq_true (at_ q1 15 rfl)) DLm
    (of_decide_eq_true (at_ q1 16 rfl)) DLp (of_decide_eq_true (at_ q1 17 rfl)) DLf (of_decide_eq_true (at_ q1 18 rfl)) DLa (of_decide_eq_true (at_ q1 19 rfl)) (of_decide_eq_true (at_ q1 20 rfl))
    (of_decide_eq_true (at_ q1 21 rfl)) (of_decide_eq_true (at_ q1 22 rfl)) (of_decide_eq_true (at_ q1 23 rfl)) (of_decide_eq_true (at_ q1 24 rfl)) (of_decide_eq_true (at_ q1 25 rfl)) (of_decide_eq_true (at_ q1 26 rfl)) (of_decide_eq_true (at_ q1 27 rfl)) (of_decide_eq_true (at_ q2 0 rfl))
    (of_decide_eq_true (at_ q2 1 rfl)) (of_decide_eq_true (at_ q2 2 rfl)) (of_decide_eq_true (at_ q2 3 rfl)) (of_decide_eq_true (at_ q2 4 rfl)) (of_decide_eq_true (at_ q2 5 rfl)) (of_decide_eq_true (at_ q2 6 rfl)) (of_decide_eq_true (at_ q2 7 rfl)) (of_decide_eq_true (at_ q2 8 rfl))
    (of_decide_eq_true (at_ q2 9 rfl)) i_LONGEST_NAME i_MOST_ARGUMENTS i_MOST_CALLS i_MOST_ROWS i_MOST_BRANCHES i_DEEPEST_TREE (at_ q2 16 rfl)
    (at_ q2 17 rfl) (at_ q2 18 rfl) (of_decide_eq_true (at_ q2 19 rfl)) (at_ q2 20 rfl) (at_ q2 21 rfl) (of_decide_eq_true (at_ q2 22 rfl)) (of_decide_eq_true (at_ q2 23 rfl)) (of_decide_eq_true (at_ q2 24 rfl))
    (of_decide_eq_true (at_ q2 25 rfl)) (of_decide_eq_true (at_ q2 26 rfl)) (of_decide_eq_true (at_ q2 27 rfl)) (of_decide_eq_true (at_ q3 0 rfl)) (of_decide_eq_true (at_ q3 1 rfl)) (of_decide_eq_true (at_ q3 2 rfl)) (of_decide_eq_true (at_ q3 3 rfl)) (of_decide_eq_true (at_ q3 4 rfl))
    (of_decide_eq_true (at_ q3 5 rfl)) (of_decide_eq_true (at_ q3 6 rfl)) (of_decide_eq_true (at_ q3 7 rfl)) (at_ q3 8 rfl) (at_ q3 9 rfl) (at_ q3 10 rfl) (of_decide_eq_true (at_ q3 11 rfl)) (of_decide_eq_true (at_ q3 12 rfl))
    (of_decide_eq_true (at_ q3 13 rfl)) (of_decide_eq_true (at_ q3 14 rfl)) (of_decide_eq_true (at_ q3 15 rfl)) lR rR sR (of_decide_eq_true (at_ q3 17 rfl)) lV
    rV sV
def names0 : List PySem.Str := ["__name__", "StoreError", "BadCall", "BadTree", "BadOutput", "TooMany", "VALUES", "LONGEST_NAME", "is_whole", "is_value", "is_name", "are_values", "MOST_ARGUMENTS", "COLUMNS", "MOST_CALLS", "MOST_ROWS", "MOST_BRANCHES", "DEEPEST_TREE", "is_call", "_is_column", "is_constant", "values_of", "is_tree", "_is_tree", "_branches", "_calls_in", "is_row", "is_table", "Statement", "_check_outputs"]
def names1 : List PySem.Str := ["_law_pool", "_law_draw", "_law_pick", "_law_names", "_law_term", "_law_writes", "_law_book", "_law_calls_in", "_law_nodes_in", "_law_all_calls", "_law_draw_call", "_law_tree", "_law_statement", "_law_made_statement", "_law_put_in", "_law_forms_right"]
def names : List PySem.Str := names0 ++ (names1)
abbrev R : PySem.W.OpenRow := PySem.W.OpenLaw.row PySem.Challenge.rw_steadycalls_k23_statements_told
def rs0 : List PySem.Str := ["Statement", "is_whole", "is_value", "is_name", "_is_column", "is_call", "is_constant", "values_of", "_is_tree", "is_tree", "_branches", "_calls_in", "are_values", "is_row", "is_table", "_check_outputs", "_law_pool", "_law_draw", "_law_pick", "_law_names", "_law_term", "_law_writes", "_law_book", "_law_calls_in", "_law_nodes_in", "_law_all_calls", "_law_draw_call", "_law_tree", "_law_statement", "_law_made_statement"]
def rs1 : List PySem.Str := ["_law_put_in", "_law_forms_right", "law", "COLUMNS", "VALUES"]
def rs : List PySem.Str := rs0 ++ (rs1)
def ms : List PySem.Str := ["__init__", "__eq__", "__len__", "all_calls", "parts", "columns", "with_output"]
abbrev hk : PySem.W.Hook := hookP rs ms fn ts chk
def ob (s : PySem.W.SharedT) : AlX := obsP rs ms fn ts chk (HandSHeadRun.getT s)
theorem ob_eq (s : PySem.W.SharedT) : ob s = hk.obs s.abs := obsP_eq (HandSHeadRun.getT_eq s)
abbrev RunAt (w : World) : Prop := HandSHeadRun.RunEq R (PySem.W.view R.prog [49]) hk ob 20000 names w
theorem run_false (w : World) : RunAt (w.withFollow "special-get-raises" false) := by
  intro os
  kernel_rfl
theorem run_true (w : World) : RunAt (w.withFollow "special-get-raises" true) := by
  intro os
  kernel_rfl
theorem run (w : World) : HandSHeadRun.RunEq R (PySem.W.view R.prog [49]) hk ob 20000 names w := PySem.W.byRow2 "special-get-raises" (P := RunAt) run_false run_true w
end Hd
end Sc
open PySem PySem.W PyProof.Rows
set_option maxHeartbeats 0 in
theorem PySem.Challenge.cw_steadycalls_k23_statements_told_holds : PySem.Challenge.rw_steadycalls_k23_statements_told.Holds := by
  w_on; o_law
  refine HandSHeadRun.head_any (r := PySem.W.OpenLaw.row PySem.Challenge.rw_steadycalls_k23_statements_told) (q := view (PySem.W.OpenLaw.row PySem.Challenge.rw_steadycalls_k23_statements_told).prog [49]) (H := Sc.Hd.hk) (ob := Sc.Hd.ob) (M := 20000) (loose := Sc.Hd.names) (d := HandSHeadRun.topDef (PySem.W.OpenLaw.row PySem.Challenge.rw_steadycalls_k23_statements_told).prog 49) (kwd := []) Sc.Hd.ob_eq
    (by kernel_rfl) (fun s => by kernel_rfl) Sc.Hd.run (by kernel_rfl) (by kernel_rfl) (by kernel_rfl) (by rfl) (by first | assumption | decide +kernel) (by decide +kernel) ⟨rfl, rfl, rfl, rfl, rfl, by decide +kernel⟩ ?hw ?hc
  case hw => w_witness2
  case hc =>
    refine L2.walk_ofE (l := PySem.Challenge.rw_steadycalls_k23_statements_told) (n := 63) (k := 20) (x := "_law_script") (CX := L2.CX0) rfl (by decide) (by kernel_rfl) ⟨rfl, by decide, by decide⟩ ?F (fun _ _ _ _ z => z)
    intro w mg fa h Y G hmg0
    obtain ⟨K, KX, c⟩ := Y
    have hmg : mg ("law" : PySem.Str) = some (.ref fa) := by
      have e : (HandSHeadRun.topDef (PySem.W.OpenLaw.row PySem.Challenge.rw_steadycalls_k23_statements_told).prog 49).name = ("law" : PySem.Str) := by kernel_rfl
      rw [← e]
      exact hmg0
    obtain ⟨fd, hb, hF⟩ := Sc.Hd.facts (l := PySem.Challenge.rw_steadycalls_k23_statements_told) KX G hmg c
    exact ⟨K, fd, Sc.spLaw K, KX, hb, fun H a ns hl _ hS => ⟨a, ns, rfl, hS, hl, fun _ => rfl⟩, hF⟩


