import PyProof.Rows.All
import Wide.All
import OpenK.AllK
import Wide.FinOn
import PyProof.ReprRoads
import KE.KExcIs
import HandS.Base
import HandS.Call
import HandS.List
import HandS.Comp
import HandS.Ends
import HandS.Words
import HandS.Dict
import HandS.Iter
import HandS.Text
import HandS.Evl
import HandS.IsInst
import HandS.Walk
import HandS.More
import HandS.TupAny
import HandS.OwnEq
import HandS.SlotsOwn
import HandS.Exc
import HandS.ExcInit
import HandS.ExcField
import HandS.WordsExc
import HandS.CallSlots
import HandS.Strs
import HandS.Conv
import HandS.RaiseMore
import HandS.Style
import HandS.ExcIs
import HandS.MakeKw
import HandS.MakeKwOnly
import PyProof.ExcBaseAll.LookupError
import PyProof.Rows.FactsExc_KeyError
import PyProof.ExcBaseAll.RuntimeError
import PyProof.ExcBaseAll.OverflowError
import HandS.TupMul
import HandS.TupLe
import HandS.DictComp
import HandS.LawCells
import HandS.Small
import HandS.TryMany
import HandS.TryOnly
import HandS.GenBody
import HandS.GenYield
import HandS.GenCall
import HandS.GenList
import HandS.ListEq
import HandS.DictEq
import HandS.WordsDict
import PySem.Challenge.RW_steadycalls_k05_functions_told
set_option Elab.async false
set_option linter.all false
set_option maxRecDepth 100000
set_option maxHeartbeats 4000000
namespace Sc
open PySem PySem.Spec PyProof.Rows L2
def topS (i : Nat) : Stmt := PySem.Challenge.pw_steadycalls_k05_functions_told.main.body.getD i (.Pass ⟨0, 0, 0, 0⟩)
abbrev sPool : Stmt := topS 33
abbrev sDraw : Stmt := topS 34
abbrev sPick : Stmt := topS 35
theorem scPool : FnScope ["_law_script", "_law_k", "_law_cell", "_law_size", "_law_mixed"] ["_law_script", "_law_k"] (defScope sPool) := ⟨rfl, rfl, rfl, by decide +kernel, rfl, by decide +kernel, by decide +kernel⟩
theorem scDraw : FnScope ["_law_pool_here", "_law_many", "_law_found"] ["_law_pool_here", "_law_many"] (defScope sDraw) := ⟨rfl, rfl, rfl, by decide +kernel, rfl, by decide +kernel, by decide +kernel⟩
theorem scPick : FnScope ["_law_pool_here", "_law_row"] ["_law_pool_here", "_law_row"] (defScope sPick) := ⟨rfl, rfl, rfl, by decide +kernel, rfl, by decide +kernel, by decide +kernel⟩
/-- a pool of draws stands at p -/
def PoolAt (H : Hp) (p : Addr) : Prop := ∃ x y : Int, H p = some (.lst [.int x, .int y]) ∧ 0 ≤ x ∧ 0 ≤ y ∧ y < 2147483648
/-- all that was known but for p is as it was -/
def But (p : Addr) (H H' : Hp) : Prop := ∀ b o, H b = some o → b ≠ p → H' b = some o
theorem But.refl (p : Addr) (H : Hp) : But p H H := fun _ _ h _ => h
theorem But.trans {p : Addr} {H H1 H2 : Hp} (a : But p H H1) (b : But p H1 H2) : But p H H2 := fun c o h n => b c o (a c o h n) n
theorem But.of {p : Addr} {H H' : Hp} (s : Same H H') : But p H H' := fun b o h _ => s b o h
theorem same_upd {H : Hp} {p : Addr} {o : HO} (h : H p = none) : Same H (upd H p o) := fun b x e => by
  rw [upd_ne (ne_of_none e h)]
  exact e
theorem But.upd {p : Addr} {H : Hp} {o : HO} : But p H (L2.upd H p o) := fun b x e n => by
  rw [upd_ne n]
  exact e
/-- what an expression gives, by what is true of it -/
theorem q_asgP {te : TE} {tz : TS} {D : Ends} {σ : L2.St} {H : Hp} {i : Nat} (Pr : V → Hp → Prop) (h : ∀ Q : VK, (∀ v H', Pr v H' → Q v H') → te σ H Q) (k : ∀ v H1, Pr v H1 → tz D (σ.set i (some v)) H1) : tSeq (tAsg te (gName i)) tz D σ H := h _ k
theorem But.rd {p : Addr} {H H' : Hp} (b : But p H H') {a : Addr} {u : HO} (n : a ≠ p) (h : Rd H a u) : Rd H' a u := by
  rcases h with h | ⟨o, h⟩
  · exact .inl (b _ _ h n)
  · exact .inr ⟨o, b _ _ h n⟩
theorem But.seq {p : Addr} {H H' : Hp} (b : But p H H') {K : PySem.W.Frag} {a : Addr} {xs : List V} (n : a ≠ p) (h : SqL K H a xs) : SqL K H' a xs := h.imp (b.rd n) id
theorem But.seqT {p : Addr} {H H' : Hp} (b : But p H H') {K : PySem.W.Frag} {a : Addr} {xs : List V} (n : a ≠ p) (h : SqT K H a xs) : SqT K H' a xs := h.imp (b.rd n) id
theorem at_nn {xs : List V} {v : Int} {x : V} (h0 : 0 ≤ v) (h : xs[v.toNat]? = some x) : atI xs v = some x := by
  obtain ⟨n, rfl⟩ := Int.eq_ofNat_of_zero_le h0
  exact atI_nat h
theorem b01 (b : Bool) : 0 ≤ (if b = true then (1 : Int) else 0) ∧ (if b = true then (1 : Int) else 0) ≤ 1 := by cases b <;> decide
structure Blt (mg : Str → Option Value) : Prop where
  abs : mg "abs" = none
  int : mg "int" = none
  len : mg "len" = none
  sum : mg "sum" = none
  max : mg "max" = none
  min : mg "min" = none
  range : mg "range" = none
  isinstance : mg "isinstance" = none
  bool : mg "bool" = none
  str : mg "str" = none
  tuple : mg "tuple" = none
  list : mg "list" = none
  dict : mg "dict" = none
  all : mg "all" = none
  sorted : mg "sorted" = none
  repr : mg "repr" = none
  zip : mg "zip" = none
section
variable {P : Program} {w : World} {K : PySem.W.Frag} {mg : Str → Option Value} {base : Heap}
def spPool (K : PySem.W.Frag) : Sp := fun vs H Q _ => ∃ (a : Addr) (ns : List Int) (k : Nat), vs = [.ref a, .int k] ∧ SqL K H a (ns.map V.int) ∧ k ≤ 1 ∧ (k < ns.length ∨ ns = []) ∧
  ∀ H' p, H p = none → Same H H' → PoolAt H' p → Q (.ref p) H'
theorem ok_pool {f : Addr} {fd : FuncData} (F : Fun K "_law_pool" "_law_pool" sPool f fd) (M : Blt mg) : FnOk P w K mg base CX0 1 f fd ["_law_script", "_law_k"] (spPool K) := by
  refine F.ok scPool (fun vs H Q E h => ?_) (fun cdv A outer s H vs Q E hr h => ?_)
  · obtain ⟨a, ns, k, rfl, _⟩ := h
    rfl
  · obtain ⟨a, ns, k, rfl, hS, hk, hin, q⟩ := h
    refine ⟨_, pss_cons (ps_set (i := 2) scPool.nd rfl (.inl rfl) (pe_ifExp (pt_cmpR op_lt (pv 1) (pe_callB call_len_seq (by rfl) M.len PySem.boot_len (pa_cons (pv 0) pa_nil)) (nomark _))
        (pe_ix ix_list (pv 0) (pv 1) (fun _ _ => rfl))
        (pe_op op_add (pe_op op_mul pe_int (pe_callB (cr_sum rfl) (by rfl) M.sum (by decide +kernel) (pa_cons (pe_slice sl_list (pv 0) po_none (po_some pe_int)) pa_nil))) (pv 1))))
      (pss_cons (ps_set (i := 3) scPool.nd rfl (.inl rfl) (pe_callB call_abs (by rfl) M.abs (by decide +kernel) (pa_cons (pv 2) pa_nil)))
      (pss_cons (ps_set (i := 4) scPool.nd rfl (.inl rfl)
        (pe_op op_add (pe_op op_add (pe_op op_add (pe_op op_mod (pe_callTy call_int1 (by rfl) M.int (by decide +kernel) (pa_cons (pv 3) pa_nil)) pe_int)
          (pe_op op_mul (pe_op op_mul pe_int (pv 1)) (pv 1))) (pe_op op_mul pe_int (pv 1))) pe_int))
      (pss_cons (ps_set (i := 4) scPool.nd rfl (.inl rfl)
        (pe_op op_mod (pe_callTy call_int1 (by rfl) M.int (by decide +kernel) (pa_cons (pe_op op_mul (pv 4) pe_int) pa_nil)) pe_int))
      (pss_one (ps_ret (pe_lst (pa_cons
          (pe_op op_mul (pv 3) (pe_callTy call_int1 (by rfl) M.int (by decide +kernel) (pa_cons (pe_cmpR op_ge (pv 3) (pe_op op_pow pe_int pe_int) (nomark _)) pa_nil)))
          (pa_cons (pe_op op_mod (pe_callTy call_int1 (by rfl) M.int (by decide +kernel) (pa_cons (pe_op op_mul (pv 4) (pv 4)) pa_nil)) pe_int) pa_nil)))))))), ?_⟩
    refine q_asgP (Pr := fun v H1 => (∃ c : Int, v = .int c) ∧ Same H H1) (fun Q' hq => ?_) (fun v H1 hv => ?_)
    · refine ⟨_, rfl, _, rfl, _, _, rfl, .inl hS, _, _, rfl, rfl, _, rfl, ite2 (fun e => ?_) (fun e => ?_)⟩
      · have e1 := of_decide_eq_true e
        rw [List.length_map] at e1
        have e2 : k < ns.length := by omega
        refine ⟨_, rfl, _, rfl, a, ns.map V.int, k, .int ns[k], rfl, rfl, hS, atI_nat ?_, hq _ _ ⟨⟨_, rfl⟩, Same.refl H⟩⟩
        rw [List.getElem?_map, List.getElem?_eq_getElem e2]
        rfl
      · have e1 : ns = [] := by
          rcases hin with h | h
          · refine absurd (decide_eq_true ?_) e
            rw [List.length_map]
            omega
          · exact h
        subst e1
        refine ⟨_, rfl, 63, rfl, a, _, rfl, hS, fun p np => ?_⟩
        refine ⟨p, [], rfl, .inl (.inl (upd_same.trans ?_)), _, _, rfl, rfl, .inl ⟨by decide, by decide⟩, _, rfl, _, _, rfl, rfl, hq _ _ ⟨⟨_, rfl⟩, same_upd np⟩⟩
        rfl
    · obtain ⟨⟨c, rfl⟩, s1⟩ := hv
      have hz : 0 ≤ (if c < 0 then -c else c) := by split <;> omega
      have fin : ∀ (x y : Int), 0 ≤ x → 0 ≤ y → y < 2147483648 → ∀ p, H1 p = none → Q (.ref p) (upd H1 p (.lst [.int x, .int y])) := fun x y hx hy hy2 p np =>
        q _ p (s1.free np) (s1.trans (same_upd np)) ⟨x, y, upd_same, hx, hy, hy2⟩
      refine ⟨.int c, rfl, _, rfl, ?_⟩
      refine ⟨_, rfl, .inl ⟨_, rfl, _, _, rfl, rfl, (by show (0 : Int) < 2147483629; decide), ?_⟩⟩
      have m1 : 0 ≤ (if c < 0 then -c else c) % 2147483629 := Int.emod_nonneg _ (by decide)
      have m2 : (if c < 0 then -c else c) % 2147483629 < 2147483629 := Int.emod_lt_of_pos _ (by decide)
      have k0 : (7919 * (k : Int) * (k : Int)) ≤ 7919 ∧ 0 ≤ (7919 * (k : Int) * (k : Int)) := by
        rcases (show k = 0 ∨ k = 1 by omega) with e | e <;> subst e <;> decide
      refine ⟨_, rfl, _, _, rfl, rfl, .inl ⟨by decide, by decide⟩, _, rfl, _, _, rfl, rfl, .inr ⟨by omega, by omega⟩, _, _, rfl, rfl, _, rfl, _, _, rfl, rfl, .inl ⟨by decide, by decide⟩, _, _, rfl, rfl, _, _, rfl, rfl, ?_⟩
      refine ⟨_, rfl, _, _, rfl, rfl, .inr ⟨by decide, by decide⟩, .inl ⟨_, rfl, _, _, rfl, rfl, (by show (0 : Int) < 2147483647; decide), ?_⟩⟩
      have n1 : 0 ≤ ((if c < 0 then -c else c) % 2147483629 + 7919 * (k : Int) * (k : Int) + 31 * (k : Int) + 17) * 48271 % 2147483647 := Int.emod_nonneg _ (by decide)
      have n2 : ((if c < 0 then -c else c) % 2147483629 + 7919 * (k : Int) * (k : Int) + 31 * (k : Int) + 17) * 48271 % 2147483647 < 2147483647 := Int.emod_lt_of_pos _ (by decide)
      refine ⟨_, rfl, _, rfl, _, _, rfl, rfl, ⟨by decide, by decide, by decide⟩, _, _, rfl, rfl, ?_⟩
      refine .inr ⟨_, rfl, ?_⟩
      refine ⟨_, _, rfl, rfl, .inr ?_, _, rfl, _, rfl, _, _, rfl, rfl, .inl ⟨by omega, by omega⟩, .inl ⟨_, rfl, _, _, rfl, rfl, (by show (0 : Int) < 2147483629; decide), (by show 2 ≤ sizeLine; decide), fun p np => ?_⟩⟩
      · exact ⟨Int.lt_of_lt_of_le (by decide) (b01 _).1, Int.lt_of_le_of_lt (b01 _).2 (by decide)⟩
      · refine fin _ _ (Int.mul_nonneg hz (b01 _).1) (Int.emod_nonneg _ (by decide)) ?_ p np
        exact Int.lt_trans (Int.emod_lt_of_pos _ (by decide)) (by decide)
def spDraw : Sp := fun vs H Q _ => ∃ (p : Addr) (n : Int), vs = [.ref p, .int n] ∧ PoolAt H p ∧ 0 < n ∧ n ≤ 1000000000 ∧
  ∀ (v : Int) H', 0 ≤ v → v < n → But p H H' → PoolAt H' p → (∀ b, H b = none → H' b = none) → Q (.int v) H'
theorem ok_draw {f : Addr} {fd : FuncData} (F : Fun K "_law_draw" "_law_draw" sDraw f fd) (M : Blt mg) : FnOk P w K mg base CX0 1 f fd ["_law_pool_here", "_law_many"] spDraw := by
  refine F.ok scDraw (fun vs H Q E h => ?_) (fun cdv A outer s H vs Q E hr h => ?_)
  · obtain ⟨p, n, rfl, _⟩ := h
    rfl
  · obtain ⟨p, n, rfl, ⟨x, y, hp, hx, hy, hy2⟩, hn, hn2, q⟩ := h
    refine ⟨_, pss_cons (ps_if (pt_cmpR op_gt (pe_ix ix_list (pv 0) pe_int (fun _ _ => rfl)) pe_int (nomark _))
        (pss_cons (ps_set (i := 2) scDraw.nd rfl (.inl rfl) (pe_op op_mod (pe_callTy call_int1 (by rfl) M.int (by decide +kernel) (pa_cons (pe_ix ix_list (pv 0) pe_int (fun _ _ => rfl)) pa_nil)) (pv 1)))
        (pss_cons (ps_asg (pe_op op_fdiv (pe_ix ix_list (pv 0) pe_int (fun _ _ => rfl)) (pv 1)) (pg_sub (pv 0) pe_int set_list))
        (pss_one (ps_ret (pv 2))))) pss_nil)
      (pss_cons (ps_asg (pe_op op_mod (pe_callTy call_int1 (by rfl) M.int (by decide +kernel) (pa_cons (pe_op op_add (pe_op op_mul (pe_ix ix_list (pv 0) pe_int (fun _ _ => rfl)) pe_int) pe_int) pa_nil)) pe_int) (pg_sub (pv 0) pe_int set_list))
      (pss_one (ps_ret (pe_op op_mod (pe_callTy call_int1 (by rfl) M.int (by decide +kernel) (pa_cons (pe_op op_fdiv (pe_op op_mod (pe_callTy call_int1 (by rfl) M.int (by decide +kernel)
          (pa_cons (pe_op op_mul (pe_ix ix_list (pv 0) pe_int (fun _ _ => rfl)) (pe_ix ix_list (pv 0) pe_int (fun _ _ => rfl))) pa_nil)) pe_int) pe_int) pa_nil)) (pv 1))))), ?_⟩
    have hS : SqL K H p [.int x, .int y] := .inl (.inl hp)
    have fr : ∀ o b, H b = none → upd H p o b = none := fun o b hb => by
      rw [upd_ne (fun e => by rw [e, hp] at hb; cases hb)]
      exact hb
    refine ⟨.ref p, rfl, p, _, 0, .int x, rfl, rfl, hS, rfl, x, 0, rfl, rfl, _, rfl, ite2 (fun e => ?_) (fun e => ?_)⟩
    · refine ⟨.ref p, rfl, p, _, 0, .int x, rfl, rfl, hS, rfl, .inl ⟨x, rfl, _, rfl, x, n, rfl, rfl, hn, ?_⟩⟩
      refine ⟨.ref p, rfl, p, _, 0, .int x, rfl, rfl, hS, rfl, .int n, rfl, x, n, rfl, rfl, ⟨hn, by omega⟩, ?_⟩
      refine ⟨.ref p, rfl, p, _, 0, 0, rfl, rfl, hp, rfl, ?_⟩
      refine ⟨_, rfl, q _ _ (Int.emod_nonneg _ (by omega)) (Int.emod_lt_of_pos _ hn) But.upd ⟨_, y, upd_same, ?_, hy, hy2⟩ (fr _)⟩
      exact Int.ediv_nonneg hx (by omega)
    · refine ⟨.ref p, rfl, p, _, 1, .int y, rfl, rfl, hS, rfl, y, _, rfl, rfl, .inl ⟨by omega, by omega⟩, _, _, rfl, rfl, .inl ⟨_, rfl, _, _, rfl, rfl, (by show (0 : Int) < 2147483647; decide), ?_⟩⟩
      refine ⟨.ref p, rfl, p, _, 1, 1, rfl, rfl, hp, rfl, ?_⟩
      have b1 : 0 ≤ (y * 48271 + 11) % 2147483647 := Int.emod_nonneg _ (by decide)
      have b2 : (y * 48271 + 11) % 2147483647 < 2147483647 := Int.emod_lt_of_pos _ (by decide)
      have hS2 : SqL K (upd H p (.lst ([V.int x, .int y].set 1 (.int ((y * 48271 + 11) % 2147483647))))) p [.int x, .int ((y * 48271 + 11) % 2147483647)] := .inl (.inl upd_same)
      refine ⟨.ref p, rfl, p, _, 1, _, rfl, rfl, hS2, rfl, .ref p, rfl, p, _, 1, _, rfl, rfl, hS2, rfl, _, _, rfl, rfl, .inl ⟨by omega, by omega⟩, .inl ⟨_, rfl, _, _, rfl, rfl, (by show (0 : Int) < 2147483629; decide), _, _, rfl, rfl, ⟨by decide, by decide⟩, .inl ⟨_, rfl, ?_⟩⟩⟩
      refine ⟨.int n, rfl, _, n, rfl, rfl, hn, ?_⟩
      exact q _ _ (Int.emod_nonneg _ (by omega)) (Int.emod_lt_of_pos _ hn) But.upd ⟨x, _, upd_same, hx, b1, by omega⟩ (fr _)
def spPick (K : PySem.W.Frag) : Sp := fun vs H Q _ => ∃ (p r : Addr) (xs : List V), vs = [.ref p, .ref r] ∧ PoolAt H p ∧ p ≠ r ∧ (SqL K H r xs ∨ SqT K H r xs) ∧ 0 < xs.length ∧ xs.length ≤ 1000000 ∧
  ∀ (i : Nat) (hi : i < xs.length) H', But p H H' → PoolAt H' p → (∀ b, H b = none → H' b = none) → Q xs[i] H'
theorem ok_pick {f fD : Addr} {fd fdD : FuncData} (F : Fun K "_law_pick" "_law_pick" sPick f fd) (M : Blt mg) (FD : Fun K "_law_draw" "_law_draw" sDraw fD fdD) (bD : Binds K fdD ["_law_pool_here", "_law_many"] []) (gD : mg "_law_draw" = some (.ref fD)) :
    FnOk P w K mg base CX0 2 f fd ["_law_pool_here", "_law_row"] (spPick K) := by
  have GD : FnOk P w K mg base CX0 1 fD fdD ["_law_pool_here", "_law_many"] spDraw := ok_draw FD M
  refine F.ok scPick (fun vs H Q E h => ?_) (fun cdv A outer s H vs Q E hr h => ?_)
  · obtain ⟨p, r, xs, rfl, _⟩ := h
    rfl
  · obtain ⟨p, r, xs, rfl, hp, npr, hS, hl, hl2, q⟩ := h
    refine ⟨_, pss_one (ps_ret (pe_ix ix_seq (pv 1) (pe_call GD hr (by rfl) gD FD.kp bD .nil pass0 (pa_cons (pv 0) (pa_cons (pe_callB call_len_seq (by rfl) M.len PySem.boot_len (pa_cons (pv 1) pa_nil)) pa_nil))) (fun _ _ => rfl))), ?_⟩
    refine ⟨_, rfl, _, rfl, _, rfl, _, _, rfl, hS, p, _, rfl, hp, by omega, by omega, fun v H' v0 v1 bt hp' fr => ?_⟩
    have hv : v.toNat < xs.length := by omega
    have ha : atI xs v = some xs[v.toNat] := at_nn v0 (List.getElem?_eq_getElem hv)
    have sk : SqL K H' r xs ∨ SqT K H' r xs := hS.imp (bt.seq npr.symm) (bt.seqT npr.symm)
    rcases sk with sk | sk
    · exact .inl ⟨_, _, _, _, rfl, rfl, sk, ha, q _ hv _ bt hp' fr⟩
    · exact .inr (.inl ⟨_, _, _, _, rfl, rfl, sk, ha, q _ hv _ bt hp' fr⟩)
end
/-! ### data -/
mutual
theorem dp_mono {K : PySem.W.Frag} {H H' : Hp} (ht : ∀ a xs, SqT K H a xs → SqT K H' a xs) (hl : ∀ a xs, SqL K H a xs → SqL K H' a xs) : ∀ (d : PyData) (v : V), Dp K H v d → Dp K H' v d
  | .none, _, h => by
    cases h
    exact .non
  | .bool b, _, h => by
    cases h
    exact .bl b
  | .int i, _, h => by
    cases h
    exact .int i
  | .str x, _, h => by
    cases h
    exact .str x
  | .list ds, _, h => by
    cases h with
    | lst hs ha => exact .lst (hl _ _ hs) (dpAll_mono ht hl ds _ ha)
  | .tuple ds, _, h => by
    cases h with
    | tup hs ha => exact .tup (ht _ _ hs) (dpAll_mono ht hl ds _ ha)
  | .dict _, _, h => by cases h
theorem dpAll_mono {K : PySem.W.Frag} {H H' : Hp} (ht : ∀ a xs, SqT K H a xs → SqT K H' a xs) (hl : ∀ a xs, SqL K H a xs → SqL K H' a xs) : ∀ (ds : List PyData) (vs : List V), DpAll K H vs ds → DpAll K H' vs ds
  | [], _, h => by
    cases h
    exact .nil
  | d :: ds, _, h => by
    cases h with
    | cons h1 h2 => exact .cons (dp_mono ht hl d _ h1) (dpAll_mono ht hl ds _ h2)
end
theorem same_sqT {K : PySem.W.Frag} {H H' : Hp} (s : Same H H') {a : Addr} {xs : List V} (h : SqT K H a xs) : SqT K H' a xs := by
  rcases h with (h | ⟨o, h⟩) | h
  · exact .inl (.inl (s _ _ h))
  · exact .inl (.inr ⟨o, s _ _ h⟩)
  · exact .inr h
theorem dp_same {K : PySem.W.Frag} {H H' : Hp} (s : Same H H') {d : PyData} {v : V} (h : Dp K H v d) : Dp K H' v d := dp_mono (fun _ _ => same_sqT s) (fun _ _ => s.seq) d v h
theorem dpA_same {K : PySem.W.Frag} {H H' : Hp} (s : Same H H') {ds : List PyData} {vs : List V} (h : DpAll K H vs ds) : DpAll K H' vs ds := dpAll_mono (fun _ _ => same_sqT s) (fun _ _ => s.seq) ds vs h
/-! data without lists -/
mutual
def noL : PyData → Bool
  | .list _ => false
  | .tuple ds => noLs ds
  | .dict _ => false
  | _ => true
def noLs : List PyData → Bool
  | [] => true
  | d :: ds => noL d && noLs ds
end
mutual
theorem dp_tups {K : PySem.W.Frag} {H H' : Hp} (ht : ∀ a xs, SqT K H a xs → SqT K H' a xs) : ∀ (d : PyData) (v : V), noL d = true → Dp K H v d → Dp K H' v d
  | .none, _, _, h => by
    cases h
    exact .non
  | .bool b, _, _, h => by
    cases h
    exact .bl b
  | .int i, _, _, h => by
    cases h
    exact .int i
  | .str x, _, _, h => by
    cases h
    exact .str x
  | .list ds, _, n, _ => by cases n
  | .tuple ds, _, n, h => by
    cases h with
    | tup hs ha => exact .tup (ht _ _ hs) (dpAll_tups ht ds _ n ha)
  | .dict _, _, _, h => by cases h
theorem dpAll_tups {K : PySem.W.Frag} {H H' : Hp} (ht : ∀ a xs, SqT K H a xs → SqT K H' a xs) : ∀ (ds : List PyData) (vs : List V), noLs ds = true → DpAll K H vs ds → DpAll K H' vs ds
  | [], _, _, h => by
    cases h
    exact .nil
  | d :: ds, _, n, h => by
    have n1 : noL d = true := (Bool.and_eq_true _ _ ▸ n : noL d = true ∧ noLs ds = true).1
    have n2 : noLs ds = true := (Bool.and_eq_true _ _ ▸ n : noL d = true ∧ noLs ds = true).2
    cases h with
    | cons h1 h2 => exact .cons (dp_tups ht d _ n1 h1) (dpAll_tups ht ds _ n2 h2)
end
/-- tuples stand while a list is changed -/
theorem but_sqT {K : PySem.W.Frag} {p : Addr} {H H' : Hp} {ys : List V} (hp : H p = some (.lst ys)) (b : But p H H') {a : Addr} {xs : List V} (h : SqT K H a xs) : SqT K H' a xs := by
  rcases h with (h | ⟨o, h⟩) | h
  · exact .inl (.inl (b _ _ h (ne_of h hp (fun z => nomatch z))))
  · exact .inl (.inr ⟨o, b _ _ h (ne_of h hp (fun z => nomatch z))⟩)
  · exact .inr h
theorem dp_but {K : PySem.W.Frag} {p : Addr} {H H' : Hp} (hp : PoolAt H p) (b : But p H H') {d : PyData} {v : V} (n : noL d = true) (h : Dp K H v d) : Dp K H' v d := by
  obtain ⟨x, y, e, _⟩ := hp
  exact dp_tups (fun _ _ => but_sqT e b) d v n h
/-- a value's own name of its class -/
def kind : PyData → String
  | .none => "NoneType"
  | .bool _ => "bool"
  | .int _ => "int"
  | .str _ => "str"
  | .list _ => "list"
  | .tuple _ => "tuple"
  | .dict _ => "dict"
theorem tyx_sqT {K : PySem.W.Frag} {H : Hp} {a : Addr} {xs : List V} (h : SqT K H a xs) : TyX K H (.ref a) (.type "tuple") := by
  rcases h with (h | ⟨o, h⟩) | ⟨o, _, _, h, c, _⟩
  · exact .base (.tup h)
  · exact .fTuple h
  · exact .kTuple h c
theorem tyx_sqL {K : PySem.W.Frag} {H : Hp} {a : Addr} {xs : List V} (h : SqL K H a xs) : TyX K H (.ref a) (.type "list") := by
  rcases h with (h | ⟨o, h⟩) | ⟨o, _, _, h, c, _⟩
  · exact .base (.lst h)
  · exact .base (.frz h)
  · exact .kList h c
theorem dp_ty {K : PySem.W.Frag} {H : Hp} {d : PyData} {v : V} (h : Dp K H v d) : TyX K H v (.type (kind d)) := by
  cases h with
  | non => exact .base .non
  | bl b => exact .base (.bl b)
  | int i => exact .base (.int i)
  | str x => exact .base (.str x)
  | lst hs _ => exact tyx_sqL hs
  | tup hs _ => exact tyx_sqT hs
def isInt : PyData → Bool
  | .int _ => true
  | .bool _ => true
  | _ => false
def isBool : PyData → Bool
  | .bool _ => true
  | _ => false
def isStr : PyData → Bool
  | .str _ => true
  | _ => false
def isTup : PyData → Bool
  | .tuple _ => true
  | _ => false
theorem kit_int (K : PySem.W.Frag) : ∀ d : PyData, PySem.W.kitOne K (.type (kind d)) (.type "int") = some (isInt d)
  | .none => kit_ty (show kitB "NoneType" "int" = some false by decide +kernel)
  | .bool _ => kit_ty (show kitB "bool" "int" = some true by decide +kernel)
  | .int _ => kit_ty (show kitB "int" "int" = some true by decide +kernel)
  | .str _ => kit_ty (show kitB "str" "int" = some false by decide +kernel)
  | .list _ => kit_ty (show kitB "list" "int" = some false by decide +kernel)
  | .tuple _ => kit_ty (show kitB "tuple" "int" = some false by decide +kernel)
  | .dict _ => kit_ty (show kitB "dict" "int" = some false by decide +kernel)
theorem kit_bool (K : PySem.W.Frag) : ∀ d : PyData, PySem.W.kitOne K (.type (kind d)) (.type "bool") = some (isBool d)
  | .none => kit_ty (show kitB "NoneType" "bool" = some false by decide +kernel)
  | .bool _ => kit_ty (show kitB "bool" "bool" = some true by decide +kernel)
  | .int _ => kit_ty (show kitB "int" "bool" = some false by decide +kernel)
  | .str _ => kit_ty (show kitB "str" "bool" = some false by decide +kernel)
  | .list _ => kit_ty (show kitB "list" "bool" = some false by decide +kernel)
  | .tuple _ => kit_ty (show kitB "tuple" "bool" = some false by decide +kernel)
  | .dict _ => kit_ty (show kitB "dict" "bool" = some false by decide +kernel)
theorem kit_str (K : PySem.W.Frag) : ∀ d : PyData, PySem.W.kitOne K (.type (kind d)) (.type "str") = some (isStr d)
  | .none => kit_ty (show kitB "NoneType" "str" = some false by decide +kernel)
  | .bool _ => kit_ty (show kitB "bool" "str" = some false by decide +kernel)
  | .int _ => kit_ty (show kitB "int" "str" = some false by decide +kernel)
  | .str _ => kit_ty (show kitB "str" "str" = some true by decide +kernel)
  | .list _ => kit_ty (show kitB "list" "str" = some false by decide +kernel)
  | .tuple _ => kit_ty (show kitB "tuple" "str" = some false by decide +kernel)
  | .dict _ => kit_ty (show kitB "dict" "str" = some false by decide +kernel)
theorem kit_tup (K : PySem.W.Frag) : ∀ d : PyData, PySem.W.kitOne K (.type (kind d)) (.type "tuple") = some (isTup d)
  | .none => kit_ty (show kitB "NoneType" "tuple" = some false by decide +kernel)
  | .bool _ => kit_ty (show kitB "bool" "tuple" = some false by decide +kernel)
  | .int _ => kit_ty (show kitB "int" "tuple" = some false by decide +kernel)
  | .str _ => kit_ty (show kitB "str" "tuple" = some false by decide +kernel)
  | .list _ => kit_ty (show kitB "list" "tuple" = some false by decide +kernel)
  | .tuple _ => kit_ty (show kitB "tuple" "tuple" = some true by decide +kernel)
  | .dict _ => kit_ty (show kitB "dict" "tuple" = some false by decide +kernel)
/-- a block that goes through an iterator: what each turn asks, and what holds at the end -/
abbrev Turns (J : It) (H0 : Hp) (End : Hp → Prop) (Body : (Hp → Prop) → V → Hp → Prop) : Prop :=
  ∃ Wk : Nat → Nat → Hp → Prop, (∃ left, Wk 0 left H0) ∧
    ∀ at_ left Hn, Wk at_ left Hn → (J.stop at_ Hn ∧ End Hn) ∨ (J.go at_ Hn ∧
      ∃ Then : Hp → Prop, (∀ Hb, Then Hb → ∃ fewer, fewer < left ∧ Wk (at_ + 1) fewer Hb) ∧ ∀ item Hi, J.yld at_ Hn item Hi → Body Then item Hi)
/-- a turn of a list's comprehension without a test -/
abbrev LcBody (D : Addr) (te : TE) (vs : List Nat) (j : Nat) (σ : L2.St) : (Hp → Prop) → V → Hp → Prop := fun Then item Hi =>
  gName j item (wipe σ vs) Hi fun σn Hn => wipe σn vs = wipe σ vs ∧ tYes σn Hn fun yes Hy =>
    if yes = true then te σn Hy (fun made Hm => ∃ sofar, Hm D = some (.lst sofar) ∧ sofar.length < sizeLine ∧ Then (upd Hm D (.lst (sofar ++ [made])))) else Then Hy
/-- a comprehension whose i-th item is f i -/
theorem lc_vals {J : It} {n : Nat} {G : Hp → Prop} {Y : Nat → Hp → V → Hp → Prop} (w : Walk J n G Y) {j : Nat} {te : TE} {vs : List Nat} {σ : L2.St} {H1 : Hp} {D : Addr} {Qd : Hp → Prop} (f : Nat → V) (hz : n ≤ 50000)
    (hD : H1 D = none) (hw : ∀ x, wipe ((wipe σ vs).set j (some x)) vs = wipe σ vs) (hG : ∀ H, Same H1 H → G H)
    (he : ∀ i x H H', i < n → Same H1 H → Y i H x H' → Same H H' ∧ ∀ Q : VK, (∀ H2, Same H' H2 → Q (f i) H2) → te ((wipe σ vs).set j (some x)) H' Q)
    (hd : ∀ H, Same H1 H → H D = some (.lst ((List.range n).map f)) → Qd H)  :
    Turns J (upd H1 D (.lst [])) Qd (LcBody D te vs j σ) := by
  refine lc_it w (fun i H => Same H1 H ∧ H D = some (.lst ((List.range i).map f))) ⟨same_upd hD, upd_same⟩ (fun i H _ p => hG H p.1) (fun i x H H' hi p y => ?_) (fun H p => hd H p.1 p.2)
  obtain ⟨s1, e1⟩ := p
  obtain ⟨s2, k⟩ := he i x H H' hi s1 y
  refine And.intro (hw x) ?_
  unfold tYes
  refine iteT ?_
  refine k _ fun H2 s3 => ⟨_, s3 _ _ (s2 _ _ e1), ?_, fun b o e => ?_, ?_⟩
  · rw [List.length_map, List.length_range]
    exact Nat.lt_of_lt_of_le (show i < 50000 by omega) (by decide)
  · have hb : b ≠ D := ne_of_none e hD
    rw [upd_ne hb]
    exact s3 _ _ (s2 _ _ (s1 _ _ e))
  · rw [upd_same, List.range_succ, List.map_append]
    rfl
theorem range_get {α : Type} (xs : List α) (f : Nat → α) (h : ∀ i x, xs[i]? = some x → f i = x) : (List.range xs.length).map f = xs := by
  apply List.ext_getElem?
  intro i
  rw [List.getElem?_map]
  by_cases hi : i < xs.length
  · rw [List.getElem?_range hi, List.getElem?_eq_getElem hi]
    exact congrArg some (h i _ (List.getElem?_eq_getElem hi))
  · rw [List.getElem?_eq_none (by simpa using hi), List.getElem?_eq_none (by simpa using hi)]
    rfl
theorem dpA_len {K : PySem.W.Frag} {H : Hp} : ∀ {ds : List PyData} {vs : List V}, DpAll K H vs ds → vs.length = ds.length
  | [], _, h => by
    cases h
    rfl
  | d :: ds, _, h => by
    cases h with
    | cons _ h2 => rw [List.length_cons, List.length_cons, dpA_len h2]
theorem dpA_get {K : PySem.W.Frag} {H : Hp} : ∀ {ds : List PyData} {vs : List V} {i : Nat} {d : PyData}, DpAll K H vs ds → ds[i]? = some d → ∃ v, vs[i]? = some v ∧ Dp K H v d
  | [], _, _, _, _, e => by simp at e
  | d :: ds, _, 0, _, h, e => by
    cases h with
    | cons h1 _ =>
      have e1 : d = _ := Option.some.inj e
      subst e1
      exact ⟨_, rfl, h1⟩
  | d :: ds, _, i + 1, _, h, e => by
    cases h with
    | cons _ h2 => exact dpA_get (i := i) h2 e
theorem dpA_app {K : PySem.W.Frag} {H : Hp} : ∀ {ds es : List PyData} {vs us : List V}, DpAll K H vs ds → DpAll K H us es → DpAll K H (vs ++ us) (ds ++ es)
  | [], _, _, _, h, h' => by
    cases h
    exact h'
  | d :: ds, _, _, _, h, h' => by
    cases h with
    | cons h1 h2 => exact .cons h1 (dpA_app h2 h')
/-- a walk by its turns, whatever a turn asks -/
theorem walk_gen {J : It} {n : Nat} {G : Hp → Prop} {Y : Nat → Hp → V → Hp → Prop} (w : Walk J n G Y) {H0 : Hp} {End : Hp → Prop} {Body : (Hp → Prop) → V → Hp → Prop} (Pv : Nat → Hp → Prop) (h0 : Pv 0 H0) (hG : ∀ i H, i ≤ n → Pv i H → G H)
    (hs : ∀ i x H H', i < n → Pv i H → Y i H x H' → Body (Pv (i + 1)) x H') (hd : ∀ H, Pv n H → End H) : Turns J H0 End Body := by
  refine ⟨fun at_ left Hn => at_ + left = n ∧ Pv at_ Hn, ⟨n, Nat.zero_add n, h0⟩, fun at_ left Hn ⟨sum, holds⟩ => ?_⟩
  cases left with
  | zero =>
    have all : at_ = n := sum
    subst all
    exact Or.inl (And.intro (w.stops Hn (hG _ Hn (Nat.le_refl _) holds)) (hd Hn holds))
  | succ less =>
    have more : at_ < n := by omega
    have good := hG at_ Hn (Nat.le_of_lt more) holds
    refine Or.inr (And.intro (w.goes at_ Hn more good) ⟨Pv (at_ + 1), fun Hb next => ⟨less, Nat.lt_succ_self less, by omega, next⟩, fun item Hi given => ?_⟩)
    exact hs at_ item Hn Hi more holds (w.yields at_ Hn item Hi more good given)
theorem dpA_at {K : PySem.W.Frag} {H : Hp} : ∀ {ds : List PyData} {vs : List V} {i : Nat} {v : V}, DpAll K H vs ds → vs[i]? = some v → ∃ d, ds[i]? = some d ∧ Dp K H v d
  | _, [], _, _, _, e => by simp at e
  | _, _ :: _, 0, _, h, e => by
    cases h with
    | cons h1 _ =>
      have e1 := Option.some.inj e
      subst e1
      exact ⟨_, rfl, h1⟩
  | _, _ :: _, i + 1, _, h, e => by
    cases h with
    | cons _ h2 => exact dpA_at (i := i) h2 e
theorem take_snoc {α : Type} : ∀ {l : List α} {i : Nat} {x : α}, l[i]? = some x → l.take (i + 1) = l.take i ++ [x]
  | [], i, x, h => by simp at h
  | a :: l, 0, x, h => by
    have e : a = x := Option.some.inj h
    subst e
    rfl
  | a :: l, i + 1, x, h => by
    have ih := take_snoc (l := l) (i := i) (x := x) h
    show a :: l.take (i + 1) = a :: l.take i ++ [x]
    rw [ih]
    rfl
theorem cut1 (xs : List V) : cutV xs (some 1) none = xs.drop 1 := by
  unfold cutV
  rw [show HT.sIx xs.length 0 (some 1) = min 1 xs.length from HT.sIx_nat xs.length 0 1, HT.sIx_none]
  cases xs with
  | nil => rfl
  | cons x r =>
    rw [show min 1 (x :: r).length = 1 by
      rw [List.length_cons]
      omega]
    show (List.take ((x :: r).length - 1) r) = r
    rw [List.length_cons, Nat.add_sub_cancel]
    exact List.take_length
theorem q_c {tz : TS} {D : Ends} {σ : L2.St} {H : Hp} {i : Nat} {v : V} (h : tz D (σ.set i (some v)) H) : tSeq (tAsg (tC v) (gName i)) tz D σ H := h
theorem q_w {c : TT} {tb tz : TS} {D : Ends} {σ : L2.St} {H : Hp} (h : tWhile c tb { D with nx := tz D } σ H) : tSeq (tWhile c tb) tz D σ H := h
theorem wh_by {c : TT} {tb : TS} {D : Ends} {σ : L2.St} {H : Hp} (W : Nat → L2.St → Hp → Prop) (m0 : Nat) (h0 : W m0 σ H)
    (hs : ∀ m σ H, W m σ H → c σ H fun b H1 => if b = true then tb { D with nx := fun σ' H' => ∃ m', m' < m ∧ W m' σ' H', ct := fun σ' H' => ∃ m', m' < m ∧ W m' σ' H', bk := D.nx } σ H1 else D.nx σ H1)
    (mono : ∀ σ H Q Q', (∀ b H1, Q b H1 → Q' b H1) → c σ H Q → c σ H Q') : tWhile c tb D σ H :=
  ⟨W, ⟨m0, h0⟩, fun m σ H hw => mono _ _ _ _ (fun b H1 q => by
    cases b with
    | true => exact ⟨_, fun σ' H' h => h, q⟩
    | false => exact q) (hs m σ H hw)⟩
/-- a comprehension whose i-th item is as R says -/
theorem lc_rel {J : It} {n : Nat} {G : Hp → Prop} {Y : Nat → Hp → V → Hp → Prop} (w : Walk J n G Y) {j : Nat} {te : TE} {vs : List Nat} {σ : L2.St} {H1 : Hp} {D : Addr} {Qd : Hp → Prop} (R : Nat → V → Hp → Prop) (hz : n ≤ 50000)
    (hD : H1 D = none) (hw : ∀ x, wipe ((wipe σ vs).set j (some x)) vs = wipe σ vs) (hG : ∀ H, Same H1 H → G H) (hR : ∀ i v H H' zs, H D = some (.lst zs) → But D H H' → R i v H → R i v H')
    (he : ∀ i x H H', i < n → Same H1 H → Y i H x H' → Same H H' ∧ ∀ Q : VK, (∀ v H2, Same H' H2 → R i v H2 → Q v H2) → te ((wipe σ vs).set j (some x)) H' Q)
    (hd : ∀ ys H, Same H1 H → H D = some (.lst ys) → ys.length = n → (∀ i v, ys[i]? = some v → R i v H) → Qd H)  :
    Turns J (upd H1 D (.lst [])) Qd (LcBody D te vs j σ) := by
  refine lc_it w (fun i H => Same H1 H ∧ ∃ ys, H D = some (.lst ys) ∧ ys.length = i ∧ ∀ k v, ys[k]? = some v → R k v H) ⟨same_upd hD, [], upd_same, rfl, fun k v e => by simp at e⟩ (fun i H _ p => hG H p.1) (fun i x H H' hi p y => ?_) (fun H p => ?_)
  · obtain ⟨s1, ys, e1, el, er⟩ := p
    obtain ⟨s2, k⟩ := he i x H H' hi s1 y
    refine And.intro (hw x) ?_
    unfold tYes
    refine iteT ?_
    refine k _ fun v H2 s3 rv => ⟨ys, s3 _ _ (s2 _ _ e1), ?_, fun b o e => ?_, ys ++ [v], upd_same, ?_, fun k u eu => ?_⟩
    · exact Nat.lt_of_lt_of_le (show ys.length < 50000 by omega) (by decide)
    · have hb : b ≠ D := ne_of_none e hD
      rw [upd_ne hb]
      exact s3 _ _ (s2 _ _ (s1 _ _ e))
    · rw [List.length_append, el]
      rfl
    · have e2 : H2 D = some (.lst ys) := s3 _ _ (s2 _ _ e1)
      refine hR k u H2 _ ys e2 But.upd ?_
      by_cases hk : k < ys.length
      · rw [List.getElem?_append_left hk] at eu
        exact hR k u H H2 ys e1 (But.of (s2.trans s3)) (er k u eu)
      · have hk2 : k = ys.length := by
          have := (List.getElem?_eq_some_iff.mp eu).1
          rw [List.length_append] at this
          simp at this
          omega
        rw [hk2, List.getElem?_append_right (Nat.le_refl _), Nat.sub_self] at eu
        have eu2 := Option.some.inj eu
        subst eu2
        rw [hk2, el]
        exact rv
  · obtain ⟨s1, ys, e1, el, er⟩ := p
    exact hd ys H s1 e1 el er
theorem PoolAt.upd {H : Hp} {p l : Addr} {o : HO} (h : PoolAt H p) (n : H l = none) : PoolAt (L2.upd H l o) p := by
  obtain ⟨x, y, e, r⟩ := h
  refine ⟨x, y, ?_, r⟩
  rw [upd_ne (ne_of_none e n)]
  exact e
theorem PoolAt.ne {H : Hp} {p l : Addr} (h : PoolAt H p) (n : H l = none) : p ≠ l := by
  obtain ⟨x, y, e, r⟩ := h
  exact ne_of_none e n
theorem PoolAt.same {H H' : Hp} {p : Addr} (h : PoolAt H p) (s : Same H H') : PoolAt H' p := by
  obtain ⟨x, y, e, r⟩ := h
  exact ⟨x, y, s _ _ e, r⟩
/-- a comprehension that draws: its items are as R says, whatever is drawn -/
theorem lc_pool {J : It} {n : Nat} {Y : Nat → Hp → V → Hp → Prop} (w : Walk J n (fun _ => True) Y) {j : Nat} {te : TE} {vs : List Nat} {σ : L2.St} {H1 : Hp} {D p : Addr} {Qd : Hp → Prop} (R : V → Prop) (hz : n ≤ 50000)
    (hD : H1 D = none) (hp : PoolAt H1 p) (hw : ∀ x, wipe ((wipe σ vs).set j (some x)) vs = wipe σ vs)
    (he : ∀ i x H H', i < n → PoolAt H p → Y i H x H' → H' = H ∧ ∀ Q : VK, (∀ v H2, But p H H2 → PoolAt H2 p → R v → Q v H2) → te ((wipe σ vs).set j (some x)) H Q)
    (hd : ∀ ys H, But p H1 H → PoolAt H p → H D = some (.lst ys) → ys.length = n → (∀ v ∈ ys, R v) → Qd H)  :
    Turns J (upd H1 D (.lst [])) Qd (LcBody D te vs j σ) := by
  have npD : D ≠ p := (hp.ne hD).symm
  refine lc_it w (fun i H => But p H1 H ∧ PoolAt H p ∧ ∃ ys, H D = some (.lst ys) ∧ ys.length = i ∧ ∀ v ∈ ys, R v) ⟨But.of (same_upd hD), hp.upd hD, [], upd_same, rfl, fun v e => by simp at e⟩ (fun i H _ p => True.intro) (fun i x H H' hi q y => ?_) (fun H q => ?_)
  · obtain ⟨s1, h1, ys, e1, el, er⟩ := q
    obtain ⟨rfl, k⟩ := he i x H H' hi h1 y
    refine And.intro (hw x) ?_
    unfold tYes
    refine iteT ?_
    refine k _ fun v H2 s3 h3 rv => ⟨ys, s3 _ _ e1 npD, ?_, fun b o e nb => ?_, ?_, ys ++ [v], upd_same, ?_, fun u hu => ?_⟩
    · exact Nat.lt_of_lt_of_le (show ys.length < 50000 by omega) (by decide)
    · have hb : b ≠ D := ne_of_none e hD
      rw [upd_ne hb]
      exact s3 _ _ (s1 _ _ e nb) nb
    · obtain ⟨x, y, e, r⟩ := h3
      exact ⟨x, y, by rw [upd_ne npD.symm]; exact e, r⟩
    · rw [List.length_append, el]
      rfl
    · rcases List.mem_append.mp hu with hu | hu
      · exact er u hu
      · rw [List.mem_singleton.mp hu]
        exact rv
  · obtain ⟨s1, h1, ys, e1, el, er⟩ := q
    exact hd ys H s1 h1 e1 el er
theorem at_of {j : Nat} {xs : List V} {v : V} {z : Int} (same : z = (j : Int)) (there : xs[j]? = some v) : atI xs z = some v := same ▸ atI_nat there
/-! ### values and names -/
abbrev sWhole : Stmt := topS 9
abbrev sValue : Stmt := topS 10
abbrev sName : Stmt := topS 11
theorem scWhole : FnScope ["value"] ["value"] (defScope sWhole) := ⟨rfl, rfl, rfl, by decide +kernel, rfl, by decide +kernel, by decide +kernel⟩
theorem scValue : FnScope ["value"] ["value"] (defScope sValue) := ⟨rfl, rfl, rfl, by decide +kernel, rfl, by decide +kernel, by decide +kernel⟩
theorem scName : FnScope ["value", "letter"] ["value"] (defScope sName) := ⟨rfl, rfl, rfl, by decide +kernel, rfl, by decide +kernel, by decide +kernel⟩
def isWhole : PyData → Bool
  | .int _ => true
  | _ => false
def isValue : PyData → Bool
  | .int i => decide (0 ≤ i) && decide (i < 3)
  | _ => false
def lowCode (c : Nat) : Bool := decide (97 ≤ c) && decide (c ≤ 122)
def isName : PyData → Bool
  | .str z => decide (1 ≤ (z.length : Int)) && decide ((z.length : Int) ≤ 8) && z.cps.toList.all lowCode
  | _ => false
theorem isWhole_eq (d : PyData) : isWhole d = (isInt d && !isBool d) := by cases d <;> rfl
mutual
def szD : PyData → Bool
  | .str z => decide (z.length ≤ 1000)
  | .tuple ds => decide (ds.length ≤ 1000) && szDs ds
  | .list ds => decide (ds.length ≤ 1000) && szDs ds
  | _ => true
def szDs : List PyData → Bool
  | [] => true
  | d :: ds => szD d && szDs ds
end
theorem nlt (a b : Nat) : (!decide ([a] < [b])) = decide (b ≤ a) := by
  by_cases h : a < b
  · rw [decide_eq_true (show [a] < [b] from List.cons_lt_cons_iff.mpr (.inl h)), decide_eq_false (by omega)]
    rfl
  · have q : ¬ [a] < [b] := fun q => by
      rcases List.cons_lt_cons_iff.mp q with q | ⟨_, q⟩
      · exact h q
      · exact absurd q (List.not_lt_nil _)
    rw [decide_eq_false q, decide_eq_true (by omega)]
    rfl
theorem all_range (l : List Nat) (g : Nat → Bool) : ((List.range l.length).map fun i => g (l.getD i 0)).all id = l.all g := by
  have e : (List.range l.length).map (fun i => g (l.getD i 0)) = l.map g := by
    apply List.ext_getElem?
    intro i
    rw [List.getElem?_map, List.getElem?_map]
    by_cases hi : i < l.length
    · rw [List.getElem?_range hi, List.getElem?_eq_getElem hi]
      show some (g (l.getD i 0)) = some (g l[i])
      rw [List.getD_eq_getElem?_getD, List.getElem?_eq_getElem hi]
      rfl
    · rw [List.getElem?_eq_none (by simpa using hi), List.getElem?_eq_none (by simpa using hi)]
      rfl
  rw [e, List.all_map]
  rfl
/-- a truth about one value, told without a change -/
def spB (K : PySem.W.Frag) (g : PyData → Bool) : Sp := fun vs H Q _ => ∃ (v : V) (d : PyData), vs = [v] ∧ Dp K H v d ∧ szD d = true ∧ ∀ H', Same H H' → Q (.bl (g d)) H'
structure CellsTxt (K : PySem.W.Frag) (mg : Str → Option Value) : Prop where
  vals : ∃ aV, mg "VALUES" = some (.ref aV) ∧ ∀ H : Hp, SqT K H aV [.int 0, .int 1, .int 2]
  long : ∃ t, mg "LONGEST_NAME" = some (.int 8 t)
section
variable {P : Program} {w : World} {K : PySem.W.Frag} {mg : Str → Option Value} {base : Heap}
theorem ok_whole {f : Addr} {fd : FuncData} (F : Fun K "is_whole" "is_whole" sWhole f fd) (M : Blt mg) : FnOk P w K mg base CX0 1 f fd ["value"] (spB K isWhole) := by
  refine F.ok scWhole (fun vs H Q E h => ?_) (fun cdv A outer s H vs Q E hr h => ?_)
  · obtain ⟨v, d, rfl, _⟩ := h
    rfl
  · obtain ⟨v, d, rfl, hv, hsz, q'⟩ := h
    have q := q' H (Same.refl H)
    refine ⟨_, pss_one (ps_ret (pe_and (pe_callB call_isi (by rfl) M.isinstance (by decide +kernel) (pa_cons (pv 0) (pa_cons (pe_bltn (v := .ty "int") (by rfl) M.int (by decide +kernel) rfl) pa_nil)))
      (pe_one (pe_not (pe_callB call_isi (by rfl) M.isinstance (by decide +kernel) (pa_cons (pv 0) (pa_cons (pe_bltn (v := .ty "bool") (by rfl) M.bool (by decide +kernel) rfl) pa_nil))))))), ?_⟩
    rw [isWhole_eq] at q
    refine ⟨v, rfl, v, _, _, _, _, rfl, .ty "int", dp_ty hv, kit_int K d, _, rfl, ?_⟩
    cases hi : isInt d with
    | true =>
      refine iteT ⟨v, rfl, v, _, _, _, _, rfl, .ty "bool", dp_ty hv, kit_bool K d, _, rfl, ?_⟩
      rw [hi] at q
      exact q
    | false =>
      rw [hi] at q
      exact iteF q
theorem ok_value {f fW : Addr} {fd fdW : FuncData} (F : Fun K "is_value" "is_value" sValue f fd) (M : Blt mg) (T : CellsTxt K mg) (FW : Fun K "is_whole" "is_whole" sWhole fW fdW) (bW : Binds K fdW ["value"] []) (gW : mg "is_whole" = some (.ref fW)) :
    FnOk P w K mg base CX0 2 f fd ["value"] (spB K isValue) := by
  have GW : FnOk P w K mg base CX0 1 fW fdW ["value"] (spB K isWhole) := ok_whole FW M
  obtain ⟨aV, gV, sV⟩ := T.vals
  refine F.ok scValue (fun vs H Q E h => ?_) (fun cdv A outer s H vs Q E hr h => ?_)
  · obtain ⟨v, d, rfl, _⟩ := h
    rfl
  · obtain ⟨v, d, rfl, hv, hsz, q'⟩ := h
    have q := q' H (Same.refl H)
    refine ⟨_, pss_one (ps_ret (pe_and (pe_call GW hr (by rfl) gW FW.kp bW .nil pass0 (pa_cons (pv 0) pa_nil))
      (pe_one (pe_chain op_le op_lt pe_int (pv 0) (pe_callB call_len_seq (by rfl) M.len PySem.boot_len (pa_cons (pe_glob (v := .ref aV) (by rfl) gV rfl) pa_nil)))))), ?_⟩
    refine ⟨v, rfl, v, d, rfl, hv, hsz, fun H1 s1 => ⟨_, rfl, ?_⟩⟩
    replace q := q' H1 s1
    cases d with
    | int i =>
      cases hv
      refine iteT ⟨_, rfl, _, _, rfl, rfl, _, rfl, ?_⟩
      cases h0 : decide (0 ≤ i) with
      | false =>
        refine iteF ?_
        have e : isValue (.int i) = false := by
          show (decide (0 ≤ i) && decide (i < 3)) = false
          rw [h0] <;> rfl
        rw [e] at q
        exact q
      | true =>
        refine iteT ⟨aV, _, rfl, .inr (sV _), _, _, rfl, rfl, ?_⟩
        have e : isValue (.int i) = decide (i < 3) := by
          show (decide (0 ≤ i) && decide (i < 3)) = _
          rw [h0] <;> rfl
        rw [e] at q
        exact q
    | none => exact iteF q
    | bool b => exact iteF q
    | str z => exact iteF q
    | list ds => exact iteF q
    | tuple ds => exact iteF q
    | dict kvs => exact iteF q
theorem ok_name {f : Addr} {fd : FuncData} (F : Fun K "is_name" "is_name" sName f fd) (M : Blt mg) (T : CellsTxt K mg) : FnOk P w K mg base CX0 1 f fd ["value"] (spB K isName) := by
  obtain ⟨tl, gL⟩ := T.long
  refine F.ok scName (fun vs H Q E h => ?_) (fun cdv A outer s H vs Q E hr h => ?_)
  · obtain ⟨v, d, rfl, _⟩ := h
    rfl
  · obtain ⟨v, d, rfl, hv, hsz, q'⟩ := h
    have q := q' H (Same.refl H)
    refine ⟨_, pss_cons (ps_if (PW.pt (pw_or (pt_not (pt_val (pe_callB call_isi (by rfl) M.isinstance (by decide +kernel) (pa_cons (pv 0) (pa_cons (pe_bltn (v := .ty "str") (by rfl) M.str (by decide +kernel) rfl) pa_nil)))))
        (pw_or1 (pt_not (pt_chain op_le op_le pe_int (pe_callB call_len (by rfl) M.len PySem.boot_len (pa_cons (pv 0) pa_nil)) (pe_glob (v := .int 8) (by rfl) gL ⟨_, rfl⟩)))))) (pss_one (ps_ret pe_bl)) pss_nil)
      (pss_one (ps_ret (pe_callB (cr_all rfl) (by rfl) M.all (by decide +kernel) (pa_cons
        (pe_lc (own := [("letter", 1)]) (g := gName 1) (by rfl) scName.nd (pi_str (pv 0)) (blkOk_by (own := [("letter", 1)]) (N := ["value", "letter"]) (sc := defScope sName) (by decide +kernel))
          (fun _ _ _ _ _ => pg_name (i := 1) scName.nd rfl (Or.inl rfl)) (fun _ _ _ _ _ => pts_nil) (fun _ _ _ _ _ => pe_chain op_le_str op_le_str pe_str (pv 1) pe_str)) pa_nil)))), ?_⟩
    have no : isName d = false → Q (.bl false) H := fun e => by
      rw [e] at q
      exact q
    refine ⟨v, rfl, v, _, _, _, _, rfl, .ty "str", dp_ty hv, kit_str K d, _, rfl, ?_⟩
    cases d with
    | str z =>
      cases hv
      refine iteF ?_
      have hzl : z.length ≤ sizeLine := Nat.le_trans (of_decide_eq_true hsz) (by decide)
      by_cases hz : z.length ≤ 8
      · refine ⟨.str z, rfl, .str z, z.length, rfl, ⟨hzl, rfl⟩, _, _, rfl, rfl, _, rfl, ?_⟩
        cases h1 : decide (1 ≤ (z.length : Int)) with
        | false =>
          refine iteF ⟨_, rfl, iteT (no ?_)⟩
          show (decide (1 ≤ (z.length : Int)) && decide ((z.length : Int) ≤ 8) && z.cps.toList.all lowCode) = false
          rw [h1]
          rfl
        | true =>
          refine iteT ⟨_, _, rfl, rfl, _, rfl, ?_⟩
          have h2 : decide ((z.length : Int) ≤ 8) = true := decide_eq_true (by omega)
          rw [h2]
          refine iteF ⟨_, rfl, z, rfl, fun D hD => ?_⟩
          have ln : z.cps.size ≤ 8 := hz
          refine lc_vals (vs := [1]) (j := 1) (σ := [some (.str z), none]) walk_str (fun i => .bl (lowCode (z.cps.getD i 0))) (by omega) hD (fun x => rfl) (fun _ _ => True.intro) (fun i x H0 H' hi s1 y => ?_) (fun H' s1 e1 => ?_)
          · obtain ⟨rfl, c, hc, rfl⟩ := y
            have gc : z.cps.getD i 0 = c := by
              rw [Array.getD_eq_getD_getElem?, hc]
              rfl
            refine ⟨Same.refl _, fun Q2 q2 => ⟨_, rfl, _, _, rfl, rfl, _, rfl, ?_⟩⟩
            show if (!decide ([c] < [97])) = true then _ else _
            rw [nlt c 97]
            cases h3 : decide (97 ≤ c) with
            | false =>
              refine iteF ?_
              have e : lowCode (z.cps.getD i 0) = false := by
                rw [gc]
                show (decide (97 ≤ c) && decide (c ≤ 122)) = false
                rw [h3]
                rfl
              have q3 := q2 _ (Same.refl _)
              rw [e] at q3
              exact q3
            | true =>
              refine iteT ⟨_, _, rfl, rfl, ?_⟩
              have e : lowCode (z.cps.getD i 0) = (!decide ([122] < [c])) := by
                rw [gc, nlt 122 c]
                show (decide (97 ≤ c) && decide (c ≤ 122)) = _
                rw [h3]
                rfl
              have q3 := q2 _ (Same.refl _)
              rw [e] at q3
              exact q3
          · refine ⟨D, (List.range z.cps.size).map (fun i => lowCode (z.cps.getD i 0)), rfl, .inl (.inl ?_), ?_⟩
            · rw [e1, List.map_map]
              rfl
            · have e : ((List.range z.cps.size).map fun i => lowCode (z.cps.getD i 0)).all id = z.cps.toList.all lowCode := by
                rw [← all_range z.cps.toList lowCode]
                have ez : z.cps.toList.length = z.cps.size := by simp
                rw [ez]
                have eg : (fun i => lowCode (z.cps.getD i 0)) = fun i => lowCode (z.cps.toList.getD i 0) := by
                  funext i
                  rw [Array.getD_eq_getD_getElem?, List.getD_eq_getElem?_getD, Array.getElem?_toList]
                rw [eg]
              have e2 : isName (.str z) = z.cps.toList.all lowCode := by
                show (decide (1 ≤ (z.length : Int)) && decide ((z.length : Int) ≤ 8) && z.cps.toList.all lowCode) = _
                rw [h1, h2]
                rfl
              have q2 := q' H' s1
              rw [e2] at q2
              rw [e]
              exact q2
      · have nz : isName (.str z) = false := by
          show (decide (1 ≤ (z.length : Int)) && decide ((z.length : Int) ≤ 8) && z.cps.toList.all lowCode) = false
          rw [decide_eq_false (show ¬ (z.length : Int) ≤ 8 by omega), Bool.and_false]
          rfl
        refine ⟨.str z, rfl, .str z, z.length, rfl, ⟨hzl, rfl⟩, _, _, rfl, rfl, _, rfl, ?_⟩
        rw [decide_eq_true (show 1 ≤ (z.length : Int) by omega)]
        refine iteT ⟨_, _, rfl, rfl, _, rfl, ?_⟩
        rw [decide_eq_false (show ¬ (z.length : Int) ≤ 8 by omega)]
        exact iteT (no nz)
    | none => exact iteT (no rfl)
    | bool b => exact iteT (no rfl)
    | int i => exact iteT (no rfl)
    | list ds => exact iteT (no rfl)
    | tuple ds => exact iteT (no rfl)
    | dict kvs => exact iteT (no rfl)
end
/-! ### terms -/
abbrev sHas : Stmt := topS 22
abbrev sCallForm : Stmt := topS 23
theorem scHas : FnScope ["part", "arguments", "word"] ["part", "arguments"] (defScope sHas) := ⟨rfl, rfl, rfl, by decide +kernel, rfl, by decide +kernel, by decide +kernel⟩
theorem scCallForm : FnScope ["terms"] ["terms"] (defScope sCallForm) := ⟨rfl, rfl, rfl, by decide +kernel, rfl, by decide +kernel, by decide +kernel⟩
def lenOf (z : Str) : Option Int := if z = "tick" then some 1 else if z = "plus" then some 3 else if z = "less" then some 3 else if z = "same" then some 3 else if z = "if" then some 4 else none
def callForm : PyData → Bool
  | .tuple ts => decide ((ts.length : Int) ≤ 2)
  | _ => false
def below (n : Int) : PyData → Bool
  | .int i => decide (0 ≤ i) && decide (i < n)
  | _ => false
def on1 (g : PyData → Bool) : List PyData → Bool
  | [x] => g x
  | _ => false
def on2 (g : PyData → PyData → Bool) : List PyData → Bool
  | [x, y] => g x y
  | _ => false
theorem len2 {α : Type} : ∀ {l : List α}, l.length = 2 → ∃ x y, l = [x, y]
  | [x, y], _ => ⟨x, y, rfl⟩
  | [], h => by cases h
  | [_], h => by cases h
  | _ :: _ :: _ :: _, h => by
    simp only [List.length_cons] at h
    omega
theorem on1_bad {g : PyData → Bool} : ∀ {l : List PyData}, l.length ≠ 1 → on1 g l = false
  | [], _ => rfl
  | [_], h => absurd rfl h
  | _ :: _ :: _, _ => rfl
theorem on2_bad {g : PyData → PyData → Bool} : ∀ {l : List PyData}, l.length ≠ 2 → on2 g l = false
  | [], _ => rfl
  | [_], _ => rfl
  | [_, _], h => absurd rfl h
  | _ :: _ :: _ :: _, _ => rfl
def formOf (n : Int) (z : Str) (rest : List PyData) : Bool :=
  if z = "arg" then on1 (below n) rest
  else if z = "cell" then on1 isName rest
  else if z = "call" then on2 (fun x y => isName x && callForm y) rest
  else match lenOf z with
    | some k => decide ((rest.length : Int) + 1 = k)
    | none => false
def hasForm (n : Int) (d : PyData) : Bool := isValue d || match d with
  | .tuple (.str z :: rest) => formOf n z rest
  | _ => false
theorem szD_tup {ds : List PyData} (h : szD (.tuple ds) = true) : szDs ds = true := (Bool.and_eq_true_iff.mp h).2
theorem szDs_get : ∀ {ds : List PyData} {i : Nat} {d : PyData}, szDs ds = true → ds[i]? = some d → szD d = true
  | [], _, _, _, e => by simp at e
  | d :: ds, 0, _, h, e => by
    have e1 := Option.some.inj e
    subst e1
    exact (Bool.and_eq_true_iff.mp h).1
  | d :: ds, i + 1, _, h, e => szDs_get (i := i) (Bool.and_eq_true_iff.mp h).2 e
theorem dint (a b : Int) : decide (V.int a = V.int b) = decide (a = b) := by
  by_cases h : a = b
  · rw [h, decide_eq_true rfl, decide_eq_true rfl]
  · rw [decide_eq_false h, decide_eq_false (fun q => h (V.int.inj q))]
theorem dstr (a b : Str) : decide (V.str a = V.str b) = decide (a = b) := by
  by_cases h : a = b
  · rw [h, decide_eq_true rfl, decide_eq_true rfl]
  · rw [decide_eq_false h, decide_eq_false (fun q => h (V.str.inj q))]
structure TermsTxt (K : PySem.W.Frag) (w : World) (mg : Str → Option Value) : Prop where
  lens : ∃ (aL : Addr) (es : Array DictEntry) (n : Nat), mg "LENGTHS" = some (.ref aL) ∧ KDict K w aL es n ∧ ∀ z, match lenOf z with
    | some k => ∃ t, PySem.W.nsIn K aL z = some (some (.int k t))
    | none => PySem.W.nsIn K aL z = some none
  args : ∃ t, mg "MOST_ARGUMENTS" = some (.int 2 t)
  deep : ∃ t, mg "MOST_DEEP" = some (.int 8 t)
  parts : ∃ t, mg "MOST_PARTS" = some (.int 30 t)
/-- a truth about one value and a number -/
def spBn (K : PySem.W.Frag) (g : Int → PyData → Bool) : Sp := fun vs H Q _ => ∃ (v : V) (d : PyData) (n : Int), vs = [v, .int n] ∧ Dp K H v d ∧ szD d = true ∧ ∀ H', Same H H' → Q (.bl (g n d)) H'
section
variable {P : Program} {w : World} {K : PySem.W.Frag} {mg : Str → Option Value} {base : Heap}
theorem ok_callForm {f : Addr} {fd : FuncData} (F : Fun K "_has_call_form" "_has_call_form" sCallForm f fd) (M : Blt mg) (T : TermsTxt K w mg) : FnOk P w K mg base CX0 1 f fd ["terms"] (spB K callForm) := by
  obtain ⟨tA, gA⟩ := T.args
  refine F.ok scCallForm (fun vs H Q E h => ?_) (fun cdv A outer s H vs Q E hr h => ?_)
  · obtain ⟨v, d, rfl, _⟩ := h
    rfl
  · obtain ⟨v, d, rfl, hv, hsz, q⟩ := h
    refine ⟨_, pss_one (ps_ret (pe_and (pe_callB call_isi (by rfl) M.isinstance (by decide +kernel) (pa_cons (pv 0) (pa_cons (pe_bltn (v := .ty "tuple") (by rfl) M.tuple (by decide +kernel) rfl) pa_nil)))
      (pe_one (pe_cmpR op_le (pe_callB call_len_seq (by rfl) M.len PySem.boot_len (pa_cons (pv 0) pa_nil)) (pe_glob (v := .int 2) (by rfl) gA ⟨_, rfl⟩) (nomark _))))), ?_⟩
    refine ⟨v, rfl, v, _, _, _, _, rfl, .ty "tuple", dp_ty hv, kit_tup K d, _, rfl, ?_⟩
    have q1 := q H (Same.refl H)
    cases d with
    | tuple ts =>
      cases hv with
      | @tup a xs _ hs ha =>
        refine iteT ⟨_, rfl, a, xs, rfl, .inr hs, _, _, rfl, rfl, ?_⟩
        have e : xs.length = ts.length := dpA_len ha
        rw [e]
        exact q1
    | none => exact iteF q1
    | bool b => exact iteF q1
    | int i => exact iteF q1
    | str z => exact iteF q1
    | list ds => exact iteF q1
    | dict kvs => exact iteF q1
structure CellFns (K : PySem.W.Frag) (mg : Str → Option Value) (fW fV fN : Addr) (dW dV dN : FuncData) : Prop where
  W : Fun K "is_whole" "is_whole" sWhole fW dW
  V : Fun K "is_value" "is_value" sValue fV dV
  N : Fun K "is_name" "is_name" sName fN dN
  bW : Binds K dW ["value"] []
  bV : Binds K dV ["value"] []
  bN : Binds K dN ["value"] []
  gW : mg "is_whole" = some (.ref fW)
  gV : mg "is_value" = some (.ref fV)
  gN : mg "is_name" = some (.ref fN)
theorem ok_has {f fC fW fV fN : Addr} {fd dC dW dV dN : FuncData} (F : Fun K "_has_form" "_has_form" sHas f fd) (M : Blt mg) (TC : CellsTxt K mg) (T : TermsTxt K w mg) (G : CellFns K mg fW fV fN dW dV dN)
    (FC : Fun K "_has_call_form" "_has_call_form" sCallForm fC dC) (bC : Binds K dC ["terms"] []) (gC : mg "_has_call_form" = some (.ref fC)) :
    FnOk P w K mg base CX0 3 f fd ["part", "arguments"] (spBn K hasForm) := by
  have GW : FnOk P w K mg base CX0 1 fW dW ["value"] (spB K isWhole) := ok_whole G.W M
  have GV : FnOk P w K mg base CX0 2 fV dV ["value"] (spB K isValue) := ok_value G.V M TC G.W G.bW G.gW
  have GN : FnOk P w K mg base CX0 1 fN dN ["value"] (spB K isName) := ok_name G.N M TC
  have GC : FnOk P w K mg base CX0 1 fC dC ["terms"] (spB K callForm) := ok_callForm FC M T
  obtain ⟨aL, es, n0, gL, kL, hL⟩ := T.lens
  refine F.ok scHas (fun vs H Q E h => ?_) (fun cdv A outer s H vs Q E hr h => ?_)
  · obtain ⟨v, d, n, rfl, _⟩ := h
    rfl
  · obtain ⟨v, d, n, rfl, hv, hsz, q⟩ := h
    have hr1 : Room 1 _ := hr.mono (by decide)
    have hu := hu_of hr
    refine ⟨_, pss_cons (ps_if (pt_val (pe_call GV hr (by rfl) G.gV G.V.kp G.bV .nil pass0 (pa_cons (pv 0) pa_nil))) (pss_one (ps_ret pe_bl)) pss_nil)
      (pss_cons (ps_if (PW.pt (pw_or (pt_not (pt_val (pe_callB call_isi (by rfl) M.isinstance (by decide +kernel) (pa_cons (pv 0) (pa_cons (pe_bltn (v := .ty "tuple") (by rfl) M.tuple (by decide +kernel) rfl) pa_nil)))))
        (pw_or (pt_cmpR op_eq (pe_callB call_len_seq (by rfl) M.len PySem.boot_len (pa_cons (pv 0) pa_nil)) pe_int (nomark _))
          (pw_or1 (pt_not (pt_val (pe_callB call_isi (by rfl) M.isinstance (by decide +kernel) (pa_cons (pe_ix ix_tup (pv 0) pe_int (fun _ _ => rfl)) (pa_cons (pe_bltn (v := .ty "str") (by rfl) M.str (by decide +kernel) rfl) pa_nil)))))))))
        (pss_one (ps_ret pe_bl)) pss_nil)
      (pss_cons (ps_set (i := 2) scHas.nd rfl (.inl rfl) (pe_ix ix_tup (pv 0) pe_int (fun _ _ => rfl)))
      (pss_cons (ps_if (pt_cmpR op_eq (pv 2) pe_str (nomark _)) (pss_one (ps_ret (pe_and (pe_cmpR op_eq (pe_callB call_len_seq (by rfl) M.len PySem.boot_len (pa_cons (pv 0) pa_nil)) pe_int (nomark _))
          (pe_and (pe_call GW hr1 (by rfl) G.gW G.W.kp G.bW .nil pass0 (pa_cons (pe_ix ix_tup (pv 0) pe_int (fun _ _ => rfl)) pa_nil))
            (pe_one (pe_chain op_le op_lt pe_int (pe_ix ix_tup (pv 0) pe_int (fun _ _ => rfl)) (pv 1))))))) pss_nil)
      (pss_cons (ps_if (pt_cmpR op_eq (pv 2) pe_str (nomark _)) (pss_one (ps_ret (pe_and (pe_cmpR op_eq (pe_callB call_len_seq (by rfl) M.len PySem.boot_len (pa_cons (pv 0) pa_nil)) pe_int (nomark _))
          (pe_one (pe_call GN hr1 (by rfl) G.gN G.N.kp G.bN .nil pass0 (pa_cons (pe_ix ix_tup (pv 0) pe_int (fun _ _ => rfl)) pa_nil)))))) pss_nil)
      (pss_cons (ps_if (pt_cmpR op_eq (pv 2) pe_str (nomark _)) (pss_one (ps_ret (pe_and (pe_cmpR op_eq (pe_callB call_len_seq (by rfl) M.len PySem.boot_len (pa_cons (pv 0) pa_nil)) pe_int (nomark _))
          (pe_and (pe_call GN hr1 (by rfl) G.gN G.N.kp G.bN .nil pass0 (pa_cons (pe_ix ix_tup (pv 0) pe_int (fun _ _ => rfl)) pa_nil))
            (pe_one (pe_call GC hr1 (by rfl) gC FC.kp bC .nil pass0 (pa_cons (pe_ix ix_tup (pv 0) pe_int (fun _ _ => rfl)) pa_nil))))))) pss_nil)
      (pss_one (ps_ret (pe_and (pe_cmpR (op_in_kd kL) (pv 2) (pe_glob (v := .ref aL) (by rfl) gL rfl) (by rfl))
        (pe_one (pe_cmpR op_eq (pe_callB call_len_seq (by rfl) M.len PySem.boot_len (pa_cons (pv 0) pa_nil)) (pe_ix ix_kdict (pe_glob (v := .ref aL) (by rfl) gL rfl) (pv 2) (fun _ _ => rfl)) (nomark _))))))))))), ?_⟩
    refine ⟨v, rfl, v, d, rfl, hv, hsz, fun H1 s1 => ⟨_, rfl, ?_⟩⟩
    have hv1 := dp_same s1 hv
    have fin : ∀ (b : Bool) H2, Same H1 H2 → hasForm n d = b → Q (.bl b) H2 := fun b H2 s2 e => by
      have q1 := q H2 (s1.trans s2)
      rw [e] at q1
      exact q1
    cases hval : isValue d with
    | true =>
      refine iteT (fin true H1 (Same.refl _) ?_)
      show (isValue d || _) = true
      rw [hval]
      rfl
    | false =>
      refine iteF ⟨v, rfl, v, _, _, _, _, rfl, .ty "tuple", dp_ty hv1, kit_tup K d, _, rfl, ?_⟩
      cases d with
      | tuple ts =>
        cases hv1 with
        | @tup a xs _ hs ha =>
          have el : xs.length = ts.length := dpA_len ha
          refine iteF ⟨_, rfl, a, xs, rfl, .inr hs, rfl, _, rfl, ?_⟩
          rw [dint]
          cases ts with
          | nil =>
            rw [el]
            exact iteT (fin false H1 (Same.refl _) (by
              show (isValue (.tuple []) || false) = false
              rw [hval]
              rfl))
          | cons d0 rest =>
            have e0 : xs.length = rest.length + 1 := el
            rw [decide_eq_false (show ¬ (xs.length : Int) = 0 by omega)]
            cases ha with
            | @cons x0 xr _ _ h0 hr0 =>
              have at0 : atI (x0 :: xr) (0 : Int) = some x0 := atI_nat (j := 0) rfl
              have lr : xr.length = rest.length := dpA_len hr0
              refine iteF ⟨_, rfl, a, x0 :: xr, 0, x0, rfl, rfl, hs, at0, x0, _, _, _, _, rfl, .ty "str", dp_ty h0, kit_str K d0, _, rfl, ?_⟩
              cases d0 with
              | str z =>
                cases h0
                refine iteF ⟨_, rfl, a, _, 0, .str z, rfl, rfl, hs, at0, ?_⟩
                have hf : hasForm n (.tuple (.str z :: rest)) = formOf n z rest := by
                  show (isValue (.tuple (.str z :: rest)) || formOf n z rest) = _
                  rw [hval]
                  rfl
                refine ⟨_, rfl, rfl, _, rfl, ?_⟩
                have hszr : szDs rest = true := (Bool.and_eq_true_iff.mp (szD_tup hsz)).2
                rw [dstr]
                by_cases z1 : z = "arg"
                · have fe : formOf n z rest = on1 (below n) rest := if_pos z1
                  rw [fe] at hf
                  rw [decide_eq_true z1]
                  refine iteT ⟨_, rfl, a, _, rfl, .inr hs, rfl, _, rfl, ?_⟩
                  rw [dint]
                  by_cases hl : rest.length = 1
                  · rw [decide_eq_true (show (((V.str z :: xr).length : Nat) : Int) = 2 by rw [List.length_cons]; omega)]
                    obtain ⟨d1, rfl⟩ := List.length_eq_one_iff.mp hl
                    cases hr0 with
                    | @cons x1 xr1 _ _ h1 hn1 =>
                      cases hn1
                      have at1 : atI [.str z, x1] (1 : Int) = some x1 := atI_nat (j := 1) rfl
                      refine iteT ⟨_, rfl, a, _, 1, x1, rfl, rfl, hs, at1, x1, d1, rfl, h1, szDs_get hszr (i := 0) rfl, fun H2 s2 => ⟨_, rfl, ?_⟩⟩
                      cases d1 with
                      | int i =>
                        cases h1
                        refine iteT ⟨_, rfl, a, _, 1, _, rfl, rfl, same_sqT s2 hs, at1, _, _, rfl, rfl, _, rfl, ?_⟩
                        have hb : hasForm n (.tuple [.str z, .int i]) = (decide (0 ≤ i) && decide (i < n)) := hf
                        cases h0 : decide (0 ≤ i) with
                        | false =>
                          rw [h0] at hb
                          exact iteF (fin false H2 s2 hb)
                        | true =>
                          rw [h0] at hb
                          exact iteT ⟨_, rfl, _, _, rfl, rfl, fin _ H2 s2 hb⟩
                      | none => exact iteF (fin false H2 s2 hf)
                      | bool b => exact iteF (fin false H2 s2 hf)
                      | str y => exact iteF (fin false H2 s2 hf)
                      | list ds => exact iteF (fin false H2 s2 hf)
                      | tuple ds => exact iteF (fin false H2 s2 hf)
                      | dict kvs => exact iteF (fin false H2 s2 hf)
                  · rw [decide_eq_false (show ¬ (((V.str z :: xr).length : Nat) : Int) = 2 by rw [List.length_cons]; omega)]
                    exact iteF (fin false H1 (Same.refl _) (hf.trans (on1_bad hl)))
                · rw [decide_eq_false z1]
                  refine iteF ⟨_, rfl, rfl, _, rfl, ?_⟩
                  rw [dstr]
                  by_cases z2 : z = "cell"
                  · have fe : formOf n z rest = on1 isName rest := (if_neg z1).trans (if_pos z2)
                    rw [fe] at hf
                    rw [decide_eq_true z2]
                    refine iteT ⟨_, rfl, a, _, rfl, .inr hs, rfl, _, rfl, ?_⟩
                    rw [dint]
                    by_cases hl : rest.length = 1
                    · rw [decide_eq_true (show (((V.str z :: xr).length : Nat) : Int) = 2 by rw [List.length_cons]; omega)]
                      obtain ⟨d1, rfl⟩ := List.length_eq_one_iff.mp hl
                      cases hr0 with
                      | @cons x1 xr1 _ _ h1 hn1 =>
                        cases hn1
                        have at1 : atI [.str z, x1] (1 : Int) = some x1 := atI_nat (j := 1) rfl
                        exact iteT ⟨_, rfl, a, _, 1, x1, rfl, rfl, hs, at1, x1, d1, rfl, h1, szDs_get hszr (i := 0) rfl, fun H2 s2 => fin _ H2 s2 hf⟩
                    · rw [decide_eq_false (show ¬ (((V.str z :: xr).length : Nat) : Int) = 2 by rw [List.length_cons]; omega)]
                      exact iteF (fin false H1 (Same.refl _) (hf.trans (on1_bad hl)))
                  · rw [decide_eq_false z2]
                    refine iteF ⟨_, rfl, rfl, _, rfl, ?_⟩
                    rw [dstr]
                    by_cases z3 : z = "call"
                    · have fe : formOf n z rest = on2 (fun x y => isName x && callForm y) rest := (if_neg z1).trans ((if_neg z2).trans (if_pos z3))
                      rw [fe] at hf
                      rw [decide_eq_true z3]
                      refine iteT ⟨_, rfl, a, _, rfl, .inr hs, rfl, _, rfl, ?_⟩
                      rw [dint]
                      by_cases hl : rest.length = 2
                      · rw [decide_eq_true (show (((V.str z :: xr).length : Nat) : Int) = 3 by rw [List.length_cons]; omega)]
                        obtain ⟨d1, d2, rfl⟩ := len2 hl
                        cases hr0 with
                        | @cons x1 xr1 _ _ h1 hn1 =>
                          cases hn1 with
                          | @cons x2 xr2 _ _ h2 hn2 =>
                            cases hn2
                            have at1 : atI [.str z, x1, x2] (1 : Int) = some x1 := atI_nat (j := 1) rfl
                            have at2 : atI [.str z, x1, x2] (2 : Int) = some x2 := atI_nat (j := 2) rfl
                            refine iteT ⟨_, rfl, a, _, 1, x1, rfl, rfl, hs, at1, x1, d1, rfl, h1, szDs_get hszr (i := 0) rfl, fun H2 s2 => ⟨_, rfl, ?_⟩⟩
                            have hb : hasForm n (.tuple [.str z, d1, d2]) = (isName d1 && callForm d2) := hf
                            cases hn : isName d1 with
                            | false =>
                              rw [hn] at hb
                              exact iteF (fin false H2 s2 hb)
                            | true =>
                              rw [hn] at hb
                              exact iteT ⟨_, rfl, a, _, 2, x2, rfl, rfl, same_sqT s2 hs, at2, x2, d2, rfl, dp_same s2 h2, szDs_get hszr (i := 1) rfl, fun H3 s3 => fin _ H3 (s2.trans s3) hb⟩
                      · rw [decide_eq_false (show ¬ (((V.str z :: xr).length : Nat) : Int) = 3 by rw [List.length_cons]; omega)]
                        exact iteF (fin false H1 (Same.refl _) (hf.trans (on2_bad hl)))
                    · rw [decide_eq_false z3]
                      have fe : formOf n z rest = (match lenOf z with | some k => decide ((rest.length : Int) + 1 = k) | none => false) := (if_neg z1).trans ((if_neg z2).trans (if_neg z3))
                      rw [fe] at hf
                      have hz := hL z
                      cases ez : lenOf z with
                      | none =>
                        rw [ez] at hz hf
                        exact iteF ⟨_, rfl, z, none, rfl, rfl, hz, _, rfl, iteF (fin false H1 (Same.refl _) hf)⟩
                      | some k =>
                        rw [ez] at hz hf
                        obtain ⟨t, hz⟩ := hz
                        refine iteF ⟨_, rfl, z, some _, rfl, rfl, hz, _, rfl, iteT ⟨_, rfl, a, _, rfl, .inr hs, _, rfl, aL, z, .int k, rfl, rfl, ⟨es, n0, _, kL.at_, kL.lit, hz, ⟨_, rfl⟩⟩, rfl, ?_⟩⟩
                        rw [dint]
                        have e5 : (((V.str z :: xr).length : Nat) : Int) = (rest.length : Int) + 1 := by
                          rw [List.length_cons]
                          omega
                        have e6 := fin _ H1 (Same.refl _) hf
                        rw [← e5] at e6
                        exact e6
              | none => exact iteT (fin false H1 (Same.refl _) (Bool.or_eq_false_iff.mpr ⟨hval, rfl⟩))
              | bool b => exact iteT (fin false H1 (Same.refl _) (Bool.or_eq_false_iff.mpr ⟨hval, rfl⟩))
              | int i => exact iteT (fin false H1 (Same.refl _) (Bool.or_eq_false_iff.mpr ⟨hval, rfl⟩))
              | list ds => exact iteT (fin false H1 (Same.refl _) (Bool.or_eq_false_iff.mpr ⟨hval, rfl⟩))
              | tuple ds => exact iteT (fin false H1 (Same.refl _) (Bool.or_eq_false_iff.mpr ⟨hval, rfl⟩))
              | dict kvs => exact iteT (fin false H1 (Same.refl _) (Bool.or_eq_false_iff.mpr ⟨hval, rfl⟩))
      | none => exact iteT (fin false H1 (Same.refl _) (Bool.or_eq_false_iff.mpr ⟨hval, rfl⟩))
      | bool b => exact iteT (fin false H1 (Same.refl _) (Bool.or_eq_false_iff.mpr ⟨hval, rfl⟩))
      | int i => exact iteT (fin false H1 (Same.refl _) (Bool.or_eq_false_iff.mpr ⟨hval, rfl⟩))
      | str z => exact iteT (fin false H1 (Same.refl _) (Bool.or_eq_false_iff.mpr ⟨hval, rfl⟩))
      | list ds => exact iteT (fin false H1 (Same.refl _) (Bool.or_eq_false_iff.mpr ⟨hval, rfl⟩))
      | dict kvs => exact iteT (fin false H1 (Same.refl _) (Bool.or_eq_false_iff.mpr ⟨hval, rfl⟩))
end
/-! ### what stands in a term -/
abbrev sInner : Stmt := topS 24
abbrev sNext : Stmt := topS 25
theorem scInner : FnScope ["term"] ["term"] (defScope sInner) := ⟨rfl, rfl, rfl, by decide +kernel, rfl, by decide +kernel, by decide +kernel⟩
theorem scNext : FnScope ["level", "part", "inner"] ["level"] (defScope sNext) := ⟨rfl, rfl, rfl, by decide +kernel, rfl, by decide +kernel, by decide +kernel⟩
def second : List PyData → List PyData
  | [_, .tuple ts] => ts
  | _ => []
def inner : PyData → List PyData
  | .tuple (.str z :: rest) => if z = "arg" ∨ z = "cell" then [] else if z = "call" then second rest else rest
  | _ => []
theorem form_str {n : Int} {d : PyData} (h : hasForm n d = true) (hv : isValue d = false) : ∃ z rest, d = .tuple (.str z :: rest) ∧ formOf n z rest = true := by
  unfold hasForm at h
  rw [hv] at h
  match d, h with
  | .tuple (.str z :: rest), h => exact ⟨z, rest, rfl, h⟩
theorem in_two (z a b : Str) : inV (.str z) [.str a, .str b] = decide (z = a ∨ z = b) := by
  show ((a == z) || ((b == z) || false)) = _
  rw [Bool.or_false]
  by_cases h1 : z = a
  · subst h1
    rw [beq_self_eq_true, decide_eq_true (.inl rfl)]
    rfl
  · have e1 : (a == z) = false := beq_eq_false_iff_ne.mpr (fun q => h1 q.symm)
    rw [e1]
    by_cases h2 : z = b
    · subst h2
      rw [beq_self_eq_true, decide_eq_true (.inr rfl)]
      rfl
    · have e2 : (b == z) = false := beq_eq_false_iff_ne.mpr (fun q => h2 q.symm)
      rw [e2, decide_eq_false (fun q => q.elim h1 h2)]
      rfl
def spInner (K : PySem.W.Frag) : Sp := fun vs H Q _ => ∃ (v : V) (d : PyData) (n : Int) (H0 : Hp), vs = [v] ∧ Same H0 H ∧ Dp K H0 v d ∧ szD d = true ∧ hasForm n d = true ∧
  ∀ p xs H', Same H H' → H p = none → H' p = some (.lst xs) → DpAll K H0 xs (inner d) → Q (.ref p) H'
section
variable {P : Program} {w : World} {K : PySem.W.Frag} {mg : Str → Option Value} {base : Heap}
theorem ok_inner {f fW fV fN : Addr} {fd dW dV dN : FuncData} (F : Fun K "inner_terms" "inner_terms" sInner f fd) (M : Blt mg) (TC : CellsTxt K mg) (G : CellFns K mg fW fV fN dW dV dN) : FnOk P w K mg base CX0 3 f fd ["term"] (spInner K) := by
  have GV : FnOk P w K mg base CX0 2 fV dV ["value"] (spB K isValue) := ok_value G.V M TC G.W G.bW G.gW
  refine F.ok scInner (fun vs H Q E h => ?_) (fun cdv A outer s H vs Q E hr h => ?_)
  · obtain ⟨v, d, n, H0, rfl, _⟩ := h
    rfl
  · obtain ⟨v, d, n, H0, rfl, s0, hv, hsz, hf, q⟩ := h
    refine ⟨_, pss_cons (ps_if (PW.pt (pw_or (pt_val (pe_call GV hr (by rfl) G.gV G.V.kp G.bV .nil pass0 (pa_cons (pv 0) pa_nil)))
        (pw_or1 (pt_cmpR op_in_seq (pe_ix ix_tup (pv 0) pe_int (fun _ _ => rfl)) (pe_tup (pa_cons pe_str (pa_cons pe_str pa_nil))) (by rfl))))) (pss_one (ps_ret (pe_lst pa_nil))) pss_nil)
      (pss_cons (ps_if (pt_cmpR op_eq (pe_ix ix_tup (pv 0) pe_int (fun _ _ => rfl)) pe_str (nomark _)) (pss_one (ps_ret (pe_callTy call_list_of (by rfl) M.list (by decide +kernel) (pa_cons (pe_ix ix_tup (pv 0) pe_int (fun _ _ => rfl)) pa_nil)))) pss_nil)
      (pss_one (ps_ret (pe_callTy call_list_of (by rfl) M.list (by decide +kernel) (pa_cons (pe_slice sl_tup (pv 0) (po_some pe_int) po_none) pa_nil))))), ?_⟩
    have fin : ∀ xs H1, Same H H1 → DpAll K H0 xs (inner d) → ∀ p, H1 p = none → Q (.ref p) (upd H1 p (.lst xs)) := fun xs H1 s1 ha p np => q p xs _ (s1.trans (same_upd np)) (s1.free np) upd_same ha
    refine ⟨v, rfl, v, d, rfl, dp_same s0 hv, hsz, fun H1 s1 => ⟨_, rfl, ?_⟩⟩
    cases hval : isValue d with
    | true =>
      have ei : inner d = [] := by cases d <;> first | rfl | cases hval
      exact iteT ⟨Nat.zero_le _, fun p np => fin [] H1 s1 (by rw [ei]; exact .nil) p np⟩
    | false =>
      obtain ⟨z, rest, rfl, hf1⟩ := form_str hf hval
      cases hv with
      | @tup a xs _ hs ha =>
        cases ha with
        | @cons x0 xr _ _ h0 hr0 =>
          cases h0
          have at0 : atI (V.str z :: xr) (0 : Int) = some (.str z) := atI_nat (j := 0) rfl
          refine iteF ⟨_, rfl, a, _, 0, .str z, rfl, rfl, same_sqT (s0.trans s1) hs, at0, (by show 2 ≤ sizeLine; decide), fun p np => ?_⟩
          have s2 : Same H1 (upd H1 p (.tup [.str "arg", .str "cell"])) := same_upd np
          refine ⟨p, _, rfl, .inr (.inl (.inl upd_same)), rfl, rfl, _, rfl, ?_⟩
          rw [in_two]
          by_cases z1 : z = "arg" ∨ z = "cell"
          · rw [decide_eq_true z1]
            have ei : inner (.tuple (.str z :: rest)) = [] := if_pos z1
            exact iteT ⟨Nat.zero_le _, fun p2 np2 => fin [] _ (s1.trans s2) (by rw [ei]; exact .nil) p2 np2⟩
          · rw [decide_eq_false z1]
            have hs2 := same_sqT s2 (same_sqT (s0.trans s1) hs)
            refine iteF ⟨_, rfl, a, _, 0, .str z, rfl, rfl, hs2, at0, rfl, _, rfl, ?_⟩
            rw [dstr]
            by_cases z3 : z = "call"
            · rw [decide_eq_true z3]
              have fe : formOf n z rest = on2 (fun x y => isName x && callForm y) rest := (if_neg (fun h => z1 (.inl h))).trans ((if_neg (fun h => z1 (.inr h))).trans (if_pos z3))
              rw [fe] at hf1
              have ei : inner (.tuple (.str z :: rest)) = second rest := (if_neg z1).trans (if_pos z3)
              have hl : rest.length = 2 := by
                by_cases h : rest.length = 2
                · exact h
                · rw [on2_bad h] at hf1
                  cases hf1
              obtain ⟨d1, d2, rfl⟩ := len2 hl
              cases hr0 with
              | @cons x1 xr1 _ _ h1 hn1 =>
                cases hn1 with
                | @cons x2 xr2 _ _ h2 hn2 =>
                  cases hn2
                  have at2 : atI [.str z, x1, x2] (2 : Int) = some x2 := atI_nat (j := 2) rfl
                  have hc : callForm d2 = true := (Bool.and_eq_true_iff.mp hf1).2
                  cases d2 with
                  | tuple ts =>
                    cases h2 with
                    | @tup b ys _ hb hys =>
                      exact iteT ⟨_, rfl, a, _, 2, _, rfl, rfl, hs2, at2, b, ys, rfl, .inr (same_sqT s2 (same_sqT (s0.trans s1) hb)), fun p2 np2 => fin ys _ (s1.trans s2) (by rw [ei]; exact hys) p2 np2⟩
                  | none => cases hc
                  | bool _ => cases hc
                  | int _ => cases hc
                  | str _ => cases hc
                  | list _ => cases hc
                  | dict _ => cases hc
            · rw [decide_eq_false z3]
              have ei : inner (.tuple (.str z :: rest)) = rest := (if_neg z1).trans (if_neg z3)
              refine iteF ⟨_, rfl, 1, rfl, a, _, rfl, hs2, ?_, fun p2 np2 => ?_⟩
              · intro h
                have h1 := h.1
                rw [show HT.sIx (V.str z :: xr).length 0 (some 1) = min 1 (V.str z :: xr).length from HT.sIx_nat _ 0 1, List.length_cons] at h1
                omega
              · have s3 := (s1.trans s2).trans (same_upd (o := .tup (cutV (V.str z :: xr) (some 1) none)) np2)
                refine ⟨p2, cutV (V.str z :: xr) (some 1) none, rfl, .inr (.inl (.inl upd_same)), fun p3 np3 => fin _ _ s3 ?_ p3 np3⟩
                rw [ei, cut1]
                exact hr0
end
def spNext (K : PySem.W.Frag) : Sp := fun vs H Q _ => ∃ (a : Addr) (xs : List V) (ds : List PyData) (n : Int) (H0 : Hp), vs = [.ref a] ∧ Same H0 H ∧ SqL K H a xs ∧ DpAll K H0 xs ds ∧ szDs ds = true ∧ ds.all (hasForm n) = true ∧ (ds.flatMap inner).length ≤ 10000 ∧ ds.length ≤ 10000 ∧
  ∀ p ys H', Same H H' → H p = none → H' p = some (.lst ys) → DpAll K H0 ys (ds.flatMap inner) → Q (.ref p) H'
theorem flat_take {ds : List PyData} {i : Nat} {d : PyData} (h : ds[i]? = some d) : (ds.take (i + 1)).flatMap inner = (ds.take i).flatMap inner ++ inner d := by
  rw [take_snoc h, List.flatMap_append]
  simp
theorem flat_take_len (ds : List PyData) (i : Nat) : ((ds.take i).flatMap inner).length ≤ (ds.flatMap inner).length := by
  have h : ds.flatMap inner = (ds.take i).flatMap inner ++ (ds.drop i).flatMap inner := by
    rw [← List.flatMap_append, List.take_append_drop]
  rw [h, List.length_append]
  omega
section
variable {P : Program} {w : World} {K : PySem.W.Frag} {mg : Str → Option Value} {base : Heap}
theorem ok_next {f fI : Addr} {fd dI : FuncData} (F : Fun K "_next_level" "_next_level" sNext f fd) (GI : FnOk P w K mg base CX0 3 fI dI ["term"] (spInner K)) (FI : Fun K "inner_terms" "inner_terms" sInner fI dI) (bI : Binds K dI ["term"] []) (gI : mg "inner_terms" = some (.ref fI)) :
    FnOk P w K mg base CX0 4 f fd ["level"] (spNext K) := by
  refine F.ok scNext (fun vs H Q E h => ?_) (fun cdv A outer s H vs Q E hr h => ?_)
  · obtain ⟨a, xs, ds, n, H0, rfl, _⟩ := h
    rfl
  · obtain ⟨a, xs, ds, n, H0, rfl, s0, hs, ha, hsz, hf, hlen, hlen2, q⟩ := h
    refine' ⟨_, pss_one (ps_ret ?e), ?r⟩
    case e =>
      refine' pe_lc2 (own := [("part", 1), ("inner", 2)]) (vs1 := [2]) (g := gName 1) (g1 := gName 2) (wi1 := iList K (tCall (spInner K) [] E0 (tCons (tVar 1) tNil))) (by rfl) scNext.nd (pi_list (pv 0)) (blkOk_by (own := [("part", 1), ("inner", 2)]) (N := ["level", "part", "inner"]) (sc := defScope sNext) (by decide +kernel)) (by decide)
        ?hg ?ht ?hi ?hg1 ?ht1 ?he
      case hg => exact fun _ _ _ _ _ => pg_name (i := 1) scNext.nd rfl (Or.inl rfl)
      case ht => exact fun _ _ _ _ _ => pts_nil
      case hi => exact fun _ _ _ _ _ => pi_list (pe_call GI hr (by rfl) gI FI.kp bI .nil pass0 (pa_cons (pv 1) pa_nil))
      case hg1 => exact fun _ _ _ _ _ => pg_name (i := 2) scNext.nd rfl (Or.inl rfl)
      case ht1 => exact fun _ _ _ _ _ => pts_nil
      case he => exact fun _ _ _ _ _ => pv 2
    have el : xs.length = ds.length := dpA_len ha
    refine ⟨_, rfl, a, rfl, ⟨_, hs⟩, fun D hD => ?_⟩
    refine walk_gen (walk_list (K := K) (a := a) (xs := xs)) (fun i H' => Same H H' ∧ ∃ acc, H' D = some (.lst acc) ∧ DpAll K H0 acc ((ds.take i).flatMap inner)) ⟨same_upd hD, [], upd_same, .nil⟩ (fun i H' _ p => p.1.seq hs) (fun i x H1 H2 hi p y => ?_) (fun H' p => ?_)
    · obtain ⟨s1, acc, e1, ac⟩ := p
      obtain ⟨rfl, hx⟩ := y
      obtain ⟨d, hd, dx⟩ := dpA_at ha hx
      have hfd : hasForm n d = true := List.all_eq_true.mp hf d (List.mem_of_getElem? hd)
      refine And.intro rfl ?_
      unfold tYes
      refine iteT ?_
      refine ⟨_, rfl, x, d, n, H0, rfl, s0.trans s1, dx, szDs_get hsz hd, hfd, fun p ys H3 s3 np e3 hys => ?_⟩
      have nDp : D ≠ p := ne_of_none e1 np
      refine ⟨p, rfl, ⟨ys, .inl (.inl e3)⟩, ?_⟩
      have ely : ys.length = (inner d).length := dpA_len hys
      have e13 : H3 D = some (.lst acc) := s3 _ _ e1
      refine walk_gen (walk_list (K := K) (a := p) (xs := ys)) (fun j H' => Same H H' ∧ H' p = some (.lst ys) ∧ H' D = some (.lst (acc ++ ys.take j))) ⟨s1.trans s3, e3, by rw [List.take_zero, List.append_nil]; exact e13⟩ (fun j H' _ p' => .inl (.inl p'.2.1)) (fun j z H4 H5 hj p4 y4 => ?_) (fun H' p' => ?_)
      · obtain ⟨s4, e4, f4⟩ := p4
        obtain ⟨rfl, hz⟩ := y4
        refine And.intro rfl ?_
        refine iteT ?_
        refine ⟨z, rfl, acc ++ ys.take j, f4, ?_, fun b o e => ?_, ?_, ?_⟩
        · rw [List.length_append, List.length_take, dpA_len ac]
          have h1 := flat_take_len ds (i + 1)
          rw [flat_take hd, List.length_append] at h1
          exact Nat.lt_of_le_of_lt (show _ ≤ 10000 by omega) (by decide)
        · rw [upd_ne (ne_of_none e hD)]
          exact s4 _ _ e
        · rw [upd_ne (fun e => nDp e.symm)]
          exact e4
        · rw [upd_same, take_snoc hz, List.append_assoc]
      · obtain ⟨s5, e5, f5⟩ := p'
        refine ⟨s5, acc ++ ys, ?_, ?_⟩
        · rw [f5, List.take_length]
        · rw [flat_take hd]
          exact dpA_app ac hys
    · obtain ⟨s1, acc, e1, ac⟩ := p
      rw [el, List.take_length] at ac
      exact q D acc H' s1 hD e1 ac
end
/-! ### is_term -/
abbrev sTerm : Stmt := topS 21
theorem scTerm : FnScope ["value", "arguments", "level", "deep", "many", "part"] ["value", "arguments"] (defScope sTerm) := ⟨rfl, rfl, rfl, by decide +kernel, rfl, by decide +kernel, by decide +kernel⟩
def goT (n : Int) : Nat → List PyData → Nat → Nat → Bool
  | 0, _, _, _ => false
  | _ + 1, [], _, _ => true
  | f + 1, d :: ds, deep, many => !decide (8 < deep + 1 ∨ 30 < many + (d :: ds).length) && ((d :: ds).all (hasForm n) && goT n f ((d :: ds).flatMap inner) (deep + 1) (many + (d :: ds).length))
def isTerm (n : Int) (d : PyData) : Bool := goT n 9 [d] 0 0
theorem goT_nil {n : Int} {f deep many : Nat} : goT n (f + 1) [] deep many = true := rfl
theorem goT_cons {n : Int} {f deep many : Nat} {ds : List PyData} (h : ds ≠ []) : goT n (f + 1) ds deep many = (!decide (8 < deep + 1 ∨ 30 < many + ds.length) && (ds.all (hasForm n) && goT n f (ds.flatMap inner) (deep + 1) (many + ds.length))) := by
  cases ds with
  | nil => exact absurd rfl h
  | cons d ds => rfl
theorem form_len {n : Int} {z : Str} {rest : List PyData} (h : formOf n z rest = true) : rest.length ≤ 3 ∧ (z = "call" → ∃ d1 ts, rest = [d1, .tuple ts] ∧ ts.length ≤ 2) := by
  unfold formOf at h
  by_cases z1 : z = "arg"
  · rw [if_pos z1] at h
    have hl : rest.length = 1 := by
      by_cases q : rest.length = 1
      · exact q
      · rw [on1_bad q] at h
        cases h
    refine ⟨by omega, fun q => ?_⟩
    rw [z1] at q
    exact absurd q (by decide +kernel)
  · rw [if_neg z1] at h
    by_cases z2 : z = "cell"
    · rw [if_pos z2] at h
      have hl : rest.length = 1 := by
        by_cases q : rest.length = 1
        · exact q
        · rw [on1_bad q] at h
          cases h
      refine ⟨by omega, fun q => ?_⟩
      rw [z2] at q
      exact absurd q (by decide +kernel)
    · rw [if_neg z2] at h
      by_cases z3 : z = "call"
      · rw [if_pos z3] at h
        have hl : rest.length = 2 := by
          by_cases q : rest.length = 2
          · exact q
          · rw [on2_bad q] at h
            cases h
        refine ⟨by omega, fun _ => ?_⟩
        obtain ⟨d1, d2, rfl⟩ := len2 hl
        have hc : callForm d2 = true := (Bool.and_eq_true_iff.mp h).2
        cases d2 with
        | tuple ts => exact ⟨d1, ts, rfl, by have := of_decide_eq_true hc; omega⟩
        | none => cases hc
        | bool _ => cases hc
        | int _ => cases hc
        | str _ => cases hc
        | list _ => cases hc
        | dict _ => cases hc
      · rw [if_neg z3] at h
        refine ⟨?_, fun q => absurd q z3⟩
        cases e : lenOf z with
        | none =>
          rw [e] at h
          cases h
        | some k =>
          rw [e] at h
          have h1 := of_decide_eq_true h
          have hk : k ≤ 4 := by
            unfold lenOf at e
            split at e
            · cases e
              decide
            · split at e
              · cases e
                decide
              · split at e
                · cases e
                  decide
                · split at e
                  · cases e
                    decide
                  · split at e
                    · cases e
                      decide
                    · cases e
          omega
theorem inner_len {n : Int} {d : PyData} (h : hasForm n d = true) : (inner d).length ≤ 3 := by
  cases hv : isValue d with
  | true =>
    have e : inner d = [] := by cases d <;> first | rfl | cases hv
    rw [e]
    exact Nat.zero_le _
  | false =>
    obtain ⟨z, rest, rfl, hf⟩ := form_str h hv
    have hl := form_len hf
    show (if z = "arg" ∨ z = "cell" then [] else if z = "call" then second rest else rest).length ≤ 3
    by_cases z1 : z = "arg" ∨ z = "cell"
    · rw [if_pos z1]
      exact Nat.zero_le _
    · rw [if_neg z1]
      by_cases z3 : z = "call"
      · rw [if_pos z3]
        obtain ⟨d1, ts, rfl, ht⟩ := hl.2 z3
        show ts.length ≤ 3
        omega
      · rw [if_neg z3]
        exact hl.1
theorem flat_len {n : Int} : ∀ {ds : List PyData}, ds.all (hasForm n) = true → (ds.flatMap inner).length ≤ 3 * ds.length
  | [], _ => Nat.le_refl _
  | d :: ds, h => by
    have h1 := Bool.and_eq_true_iff.mp h
    rw [List.flatMap_cons, List.length_append, List.length_cons]
    have := inner_len h1.1
    have := flat_len h1.2
    omega
theorem szDs_app : ∀ {a b : List PyData}, szDs (a ++ b) = (szDs a && szDs b)
  | [], _ => rfl
  | d :: a, b => by
    show (szD d && szDs (a ++ b)) = ((szD d && szDs a) && szDs b)
    rw [szDs_app, Bool.and_assoc]
theorem sz_inner {d : PyData} (h : szD d = true) : szDs (inner d) = true := by
  match d, h with
  | .none, _ => rfl
  | .bool _, _ => rfl
  | .int _, _ => rfl
  | .str _, _ => rfl
  | .list _, _ => rfl
  | .dict _, _ => rfl
  | .tuple [], _ => rfl
  | .tuple (.none :: _), _ => rfl
  | .tuple (.bool _ :: _), _ => rfl
  | .tuple (.int _ :: _), _ => rfl
  | .tuple (.list _ :: _), _ => rfl
  | .tuple (.tuple _ :: _), _ => rfl
  | .tuple (.dict _ :: _), _ => rfl
  | .tuple (.str z :: rest), h =>
    have hr : szDs rest = true := (Bool.and_eq_true_iff.mp (szD_tup h)).2
    show szDs (if z = "arg" ∨ z = "cell" then [] else if z = "call" then second rest else rest) = true
    by_cases z1 : z = "arg" ∨ z = "cell"
    · rw [if_pos z1]
      rfl
    · rw [if_neg z1]
      by_cases z3 : z = "call"
      · rw [if_pos z3]
        match rest, hr with
        | [_, .tuple ts], hr => exact szD_tup (szDs_get (i := 1) hr rfl)
        | [], _ => rfl
        | [_], _ => rfl
        | [_, .none], _ => rfl
        | [_, .bool _], _ => rfl
        | [_, .int _], _ => rfl
        | [_, .str _], _ => rfl
        | [_, .list _], _ => rfl
        | [_, .dict _], _ => rfl
        | _ :: b :: _ :: _, _ => cases b <;> rfl
      · rw [if_neg z3]
        exact hr
theorem sz_flat : ∀ {ds : List PyData}, szDs ds = true → szDs (ds.flatMap inner) = true
  | [], _ => rfl
  | d :: ds, h => by
    have h1 := Bool.and_eq_true_iff.mp h
    rw [List.flatMap_cons, szDs_app, sz_inner h1.1, sz_flat h1.2]
    rfl
theorem all_rangeD (l : List PyData) (g : PyData → Bool) : ((List.range l.length).map fun i => g (l.getD i .none)).all id = l.all g := by
  have e : (List.range l.length).map (fun i => g (l.getD i .none)) = l.map g := by
    apply List.ext_getElem?
    intro i
    rw [List.getElem?_map, List.getElem?_map]
    by_cases hi : i < l.length
    · rw [List.getElem?_range hi, List.getElem?_eq_getElem hi]
      show some (g (l.getD i .none)) = some (g l[i])
      rw [List.getD_eq_getElem?_getD, List.getElem?_eq_getElem hi]
      rfl
    · rw [List.getElem?_eq_none (by simpa using hi), List.getElem?_eq_none (by simpa using hi)]
      rfl
  rw [e, List.all_map]
  rfl
section
variable {P : Program} {w : World} {K : PySem.W.Frag} {mg : Str → Option Value} {base : Heap}
theorem ok_term {f fH fX : Addr} {fd dH dX : FuncData} (F : Fun K "is_term" "is_term" sTerm f fd) (M : Blt mg) (T : TermsTxt K w mg)
    (GH : FnOk P w K mg base CX0 3 fH dH ["part", "arguments"] (spBn K hasForm)) (FH : Fun K "_has_form" "_has_form" sHas fH dH) (bH : Binds K dH ["part", "arguments"] []) (gH : mg "_has_form" = some (.ref fH))
    (GX : FnOk P w K mg base CX0 4 fX dX ["level"] (spNext K)) (FX : Fun K "_next_level" "_next_level" sNext fX dX) (bX : Binds K dX ["level"] []) (gX : mg "_next_level" = some (.ref fX)) :
    FnOk P w K mg base CX0 5 f fd ["value", "arguments"] (spBn K isTerm) := by
  obtain ⟨tD, gD⟩ := T.deep
  obtain ⟨tP, gP⟩ := T.parts
  refine F.ok scTerm (fun vs H Q E h => ?_) (fun cdv A outer s H vs Q E hr h => ?_)
  · obtain ⟨v, d, n, rfl, _⟩ := h
    rfl
  · obtain ⟨v, d, n, rfl, hv, hsz, q⟩ := h
    have hr3 : Room 3 _ := hr.mono (by decide)
    refine ⟨_, pss_cons (ps_set (i := 2) scTerm.nd rfl (.inl rfl) (pe_lst (pa_cons (pv 0) pa_nil)))
      (pss_cons (ps_set (i := 3) scTerm.nd rfl (.inl rfl) pe_int)
      (pss_cons (ps_set (i := 4) scTerm.nd rfl (.inl rfl) pe_int)
      (pss_cons (ps_while PassesOwn.never (pt_truth (pv 2) (by intro _; rfl))
        (pss_cons (ps_aug (i := 3) scTerm.nd rfl (.inl rfl) pe_int ip_add)
        (pss_cons (ps_aug (i := 4) scTerm.nd rfl (.inl rfl) (pe_callB call_len_seq (by rfl) M.len PySem.boot_len (pa_cons (pv 2) pa_nil)) ip_add)
        (pss_cons (ps_if (PW.pt (pw_or (pt_cmpR op_gt (pv 3) (pe_glob (v := .int 8) (by rfl) gD ⟨_, rfl⟩) (nomark _)) (pw_or1 (pt_cmpR op_gt (pv 4) (pe_glob (v := .int 30) (by rfl) gP ⟨_, rfl⟩) (nomark _))))) (pss_one (ps_ret pe_bl)) pss_nil)
        (pss_cons (ps_if (pt_not (pt_val (pe_callB (cr_all rfl) (by rfl) M.all (by decide +kernel) (pa_cons
            (pe_lc (own := [("part", 5)]) (g := gName 5) (te := tCall (spBn K hasForm) [] E0 (tCons (tVar 5) (tCons (tVar 1) tNil))) (by rfl) scTerm.nd (pi_list (pv 2)) (blkOk_by (own := [("part", 5)]) (N := ["value", "arguments", "level", "deep", "many", "part"]) (sc := defScope sTerm) (by decide +kernel))
              (fun _ _ _ _ _ => pg_name (i := 5) scTerm.nd rfl (Or.inl rfl)) (fun _ _ _ _ _ => pts_nil) (fun _ _ _ _ _ => pe_call GH hr3 (by rfl) gH FH.kp bH .nil pass0 (pa_cons (pv 5) (pa_cons (pv 1) pa_nil)))) pa_nil)))) (pss_one (ps_ret pe_bl)) pss_nil)
        (pss_one (ps_set (i := 2) scTerm.nd rfl (.inl rfl) (pe_call GX hr (by rfl) gX FX.kp bX .nil pass0 (pa_cons (pv 2) pa_nil)))))))))
      (pss_one (ps_ret pe_bl))))), ?_⟩
    have fin : ∀ (b : Bool) H1, Same H H1 → isTerm n d = b → Q (.bl b) H1 := fun b H1 s1 e => by
      rw [← e]
      exact q H1 s1
    refine ⟨v, rfl, (by show 1 ≤ sizeLine; decide), fun a0 na0 => ?_⟩
    refine q_c (σ := [some v, some (.int n), some (.ref a0), none, none, none]) (i := 3) (v := .int 0) ?_
    refine q_c (i := 4) (v := .int 0) ?_
    dsimp only [List.set]
    refine q_w ?_
    refine while_by (fun σ H' => ∃ (a : Addr) (xs : List V) (lv : List PyData) (k m : Nat) (y : Option V), σ = [some v, some (.int n), some (.ref a), some (.int k), some (.int m), y] ∧ Same H H' ∧ H' a = some (.lst xs) ∧ DpAll K H xs lv ∧ szDs lv = true ∧ k ≤ 8 ∧ lv.length ≤ 3000 ∧ goT n (9 - k) lv k m = isTerm n d)
      (fun σ _ => match σ with | [_, _, _, some (.int k), _, _] => 9 - k.toNat | _ => 0)
      ⟨a0, [v], [d], 0, 0, none, rfl, same_upd na0, upd_same, .cons hv .nil, (by show (szD d && true) = true; rw [hsz]; rfl), by omega, (by show 1 ≤ 3000; decide), rfl⟩ (fun σ H' hW => ?_) (fun σ H' Q1 Q2 hq ⟨x, e, k, t, q⟩ => ⟨x, e, k, t, hq _ _ q⟩)
    obtain ⟨a, xs, lv, k, m, y, rfl, s1, ea, ha, hz, hk, hln, hg⟩ := hW
    have el : xs.length = lv.length := dpA_len ha
    have hS : SqL K H' a xs := .inl (.inl ea)
    refine ⟨.ref a, rfl, _, .inl ⟨xs, hS, rfl⟩, ?_⟩
    cases lv with
    | nil =>
      have ex : xs = [] := List.eq_nil_of_length_eq_zero el
      subst ex
      refine iteF (fin true H' s1 ?_)
      rw [← hg, show 9 - k = (8 - k) + 1 by omega]
      rfl
    | cons d0 ds =>
      have ex : (!xs.isEmpty) = true := by
        cases xs with
        | nil => cases el
        | cons _ _ => rfl
      rw [ex]
      generalize hlv : d0 :: ds = lv at *
      have hne : lv ≠ [] := by
        rw [← hlv]
        exact List.cons_ne_nil _ _
      rw [show 9 - k = (8 - k) + 1 by omega, goT_cons hne] at hg
      refine iteT ⟨_, rfl, _, _, rfl, rfl, ?_⟩
      refine ⟨_, rfl, _, rfl, a, xs, rfl, .inl hS, _, _, rfl, rfl, ?_⟩
      refine ⟨_, rfl, _, _, rfl, rfl, _, rfl, ?_⟩
      have c1 : decide ((8 : Int) < (k : Int) + 1) = decide (8 < k + 1) := by
        by_cases h : 8 < k + 1
        · rw [decide_eq_true h, decide_eq_true (by omega)]
        · rw [decide_eq_false h, decide_eq_false (by omega)]
      have c2 : decide ((30 : Int) < (m : Int) + (xs.length : Int)) = decide (30 < m + lv.length) := by
        by_cases h : 30 < m + lv.length
        · rw [decide_eq_true h, decide_eq_true (by omega)]
        · rw [decide_eq_false h, decide_eq_false (by omega)]
      rw [c1]
      by_cases h1 : 8 < k + 1
      · rw [decide_eq_true h1]
        refine iteT (iteT (fin false H' s1 ?_))
        rw [← hg, decide_eq_true (.inl h1)]
        rfl
      · rw [decide_eq_false h1]
        refine iteF ⟨_, rfl, _, _, rfl, rfl, _, rfl, ?_⟩
        rw [c2]
        by_cases h2 : 30 < m + lv.length
        · rw [decide_eq_true h2]
          refine iteT (fin false H' s1 ?_)
          rw [← hg, decide_eq_true (.inr h2)]
          rfl
        · rw [decide_eq_false h2]
          rw [decide_eq_false (show ¬ (8 < k + 1 ∨ 30 < m + lv.length) from fun q => q.elim h1 h2)] at hg
          refine iteF ⟨_, rfl, a, rfl, ⟨_, hS⟩, fun D hD => ?_⟩
          refine lc_vals (vs := [5]) (j := 5) (walk_list (K := K) (a := a) (xs := xs)) (fun i => .bl (hasForm n (lv.getD i .none))) (by omega) hD (fun x => rfl) (fun H2 s2 => s2.seq hS) (fun i x H2 H3 hi s2 y2 => ?_) (fun H2 s2 e2 => ?_)
          · obtain ⟨rfl, hx⟩ := y2
            obtain ⟨di, hdi, dx⟩ := dpA_at ha hx
            refine ⟨Same.refl _, fun Q2 q2 => ?_⟩
            refine ⟨x, rfl, _, rfl, x, di, n, rfl, dp_same (s1.trans s2) dx, szDs_get hz hdi, fun H4 s4 => ?_⟩
            have e4 := q2 H4 s4
            rw [List.getD_eq_getElem?_getD, hdi] at e4
            exact e4
          · have eb : ((List.range xs.length).map fun i => hasForm n (lv.getD i .none)).all id = lv.all (hasForm n) := by
              rw [el]
              exact all_rangeD lv (hasForm n)
            refine ⟨D, (List.range xs.length).map (fun i => hasForm n (lv.getD i .none)), rfl, .inl (.inl ?_), ?_⟩
            · rw [e2, List.map_map]
              rfl
            · refine ⟨_, rfl, ?_⟩
              rw [eb]
              cases hb : lv.all (hasForm n) with
              | false =>
                refine iteT (fin false H2 (s1.trans s2) ?_)
                rw [← hg, hb]
                rfl
              | true =>
                rw [hb] at hg
                refine iteF ⟨_, rfl, a, xs, lv, n, H, rfl, s1.trans s2, s2.seq hS, ha, hz, hb, ?_, by omega, fun p ys H5 s5 np e5 hys => ?_⟩
                · have := flat_len hb
                  omega
                · have hfl := flat_len hb
                  refine ⟨⟨p, ys, lv.flatMap inner, k + 1, m + lv.length, y, ?_, (s1.trans s2).trans s5, e5, hys, sz_flat hz, by omega, by omega, ?_⟩, ?_⟩
                  · show [some v, some (V.int n), some (V.ref p), some (V.int ((k : Int) + 1)), some (V.int ((m : Int) + (xs.length : Int))), y] = _
                    rw [el]
                    rfl
                  · rw [show 9 - (k + 1) = 8 - k by omega]
                    exact hg
                  · show 9 - ((k : Int) + 1).toNat < 9 - (k : Int).toNat
                    omega
end
/-! ### an error of the text's own, over an own base -/
/-- what is written of the class B, whose __init__ is asked for by the class's name x -/
structure OwnBase (K : PySem.W.Frag) (mg : Str → Option Value) (x : Str) (B : Addr) : Prop where
  nam : mg x = some (.ref B)
  gta : PySem.W.specialIn K (.ref B) "__getattribute__" = some (some (.builtin "type.__getattribute__"))
  typ : PySem.W.typeIn K (.ref B) = some (.type "type")
  rds : PySem.W.readsIn K B (.type "type") = true
  ini : PySem.W.findCls K (.ref B) (.type "type") "__init__" = some (.val (.builtin "ValueError.__init__"))
section
variable {X : Cx} {e : Expr} {es : List Expr} {ta : TA} {p1 p2 pos : Pos}
theorem pe_baseI {pl : Sem Bool} {x : Str} {B : Addr} (vis : Gl X x) (T : OwnBase X.K X.mg x B) (arg : PA X (e :: es) ta)
    (run : eval (.Call (.Attribute (.Name x p1) "__init__" p2) (e :: es) [] pos) X.env = (do
      let cv ← eval (.Name x p1) X.env
      standAt p2.atName
      let (g, hd) ← holding [cv] (getMethod cv "__init__" pl)
      callWith pos g hd (backTo pos (starEach (e :: es) X.env)) (backToKw pos (keywordEach [] X.env))) := by rfl)
    (dbg : (x == ("__debug__" : Str)) = false := by decide) (one : starEach (e :: es) X.env = (false, eval e X.env) :: starEach es X.env := by rfl)
    (nos : (backTo pos (starEach es X.env)).any (·.1) = false := by rfl) : PE X (.Call (.Attribute (.Name x p1) "__init__" p2) (e :: es) [] pos) (tVeI X.K ta) := ⟨fun pins s σ H Q I h => by
  obtain ⟨m, fr⟩ := I.fr
  have kin := I.ok.mod.kin
  refine PySem.W.methodCall_KW (ld_glob I vis T.nam (PySem.W.method_of_cls fr kin T.gta (PySem.W.cls_val fr kin T.typ T.rds T.ini (by decide +kernel) ?_)) dbg) run
  exact PyProof.Rows.callWith_method1 (thn (arg.run pos pins _ σ H _ (I.tok _) h) fun us s1 z => by
    obtain ⟨vs, H1, I1, r1, a, C, ws, ev, hl, T1, ea, q⟩ := z
    subst ev
    cases r1 with
    | @cons _ u0 _ ur ra rw' =>
      cases (show u0 = Value.ref a from ra)
      have hlen : ur.length ≤ sizeLine := by rw [← Paired.length rw', sizeLine_eq]; omega
      exact oinit_ok T1 I1 ea hlen fun s' J => ⟨V.non, H1, J, rfl, q⟩) one nos⟩
end
/-- C(e, ..) in a try: what leaves __init__ goes to the wish at the present slots -/
def tMakeS (C : Addr) (sp : Sp) (E : L2.St → XK) (t : TA) : TE := fun σ H Q => t σ H fun vs H1 => ∀ x dx, H1 x = none → H1 dx = none → dx ≠ x → sp (.ref x :: vs) (upd (upd H1 dx (.own x)) x (.ins C dx [])) (fun v H2 => v = .non ∧ Q (.ref x) H2) (E σ)
theorem pe_makeS {X : Cx} {CX : CXT} {C f : Addr} {fd : FuncData} {k : Nat} {ps : List Str} {sp : Sp} {x : Str} {p pos : Pos} {e : Expr} {es : List Expr} {t : TA} {E : L2.St → XK} (M : Mk X.K C f) (F : FnOk X.prog X.w X.K X.mg X.base CX k f fd ps sp)
    (hr : Room (k + 1) X.A) (hg : Gl X x) (hm : X.mg x = some (.ref C)) (hb : Binds X.K fd ps []) (way : ∀ σ, PassesAt CX X σ (E σ)) (ha : PA X (e :: es) t) (hdb : (x == ("__debug__" : Str)) = false := by decide)
    (he : starEach (e :: es) X.env = (false, eval e X.env) :: starEach es X.env := by rfl) (hpl : (backTo pos (starEach es X.env)).any (·.1) = false := by rfl) : PE X (.Call (.Name x p) (e :: es) [] pos) (tMakeS C sp E t) := ⟨fun pins s σ H Q I h => by
  refine wpAny_Call_Name_kw (ld_glob I hg hm (PySem.W.callWith_K (h₀ := X.base) I.ok.mod.kin M.kp (thn (ha.run pos pins s σ H _ I h) fun us s1 z => ?_) he hpl) hdb)
  obtain ⟨vs, H1, I1, r, q⟩ := z
  let n := s1.heap.objs.size
  have here := q (n + 1) n (I1.hok.fresh (Nat.le_succ _)) (I1.hok.fresh (Nat.le_refl _)) (Nat.ne_of_lt (Nat.lt_succ_self _))
  have made := Inv.made (C := C) I1
  have rs : Vals (V.ref (n + 1) :: vs) (Value.ref (n + 1) :: us) := .cons rfl r
  have many : (Value.ref (n + 1) :: us).length = ps.length := rs.length.symm.trans (F.len _ _ _ _ here)
  have bind := hb ⟨_, s1.gens, s1.drawn, s1.toks, s1.os⟩ (Value.ref (n + 1) :: us) made.kIn (by rw [List.append_nil]; exact many)
  rw [List.append_nil] at bind
  refine ⟨I1.kIn, wpAny_call (make_map (f := f) I1.kIn M.makes M.init (beq_iff_eq.mp M.fn) (codeAny_mono (F.run _ X.stack _ _ ⟨Value.ref (n + 1) :: us, []⟩ (Value.ref (n + 1) :: us) _ _ (E σ) (hr.make C us []) (made.env0.make C us []) bind rs here) fun r s' z => ?_))⟩
  cases r with
  | error er => exact way σ pins _ _ er s' made z
  | ok fl =>
    cases fl with
    | ret u =>
      obtain ⟨v, H', J, rv, ev, q3⟩ := made.after z
      subst ev
      exact ⟨rv, V.ref (n + 1), H', J, rfl, q3⟩
    | next => exact False.elim z
    | brk => exact False.elim z
    | cont => exact False.elim z⟩
/-- a def that may raise, called where it doesn't -/
theorem pass00 {X : Cx} : Passes (L2.CX X.prog X.w) X (fun _ _ _ => False) := passes_call takes0 (fun _ _ _ _ h => h)
/-! ### isinstance of a caught error that has its dict -/
structure ErrC (K : PySem.W.Frag) (C : Addr) : Prop where
  cl : (PySem.W.clsIn K C).isSome = true
  ga : PySem.W.findIn K (.ref C) "__getattribute__" = some (some (.builtin "BaseException.__getattribute__"))
  gt : PySem.W.findIn K (.ref C) "__getattr__" = some none
  be : PySem.W.subIn K (.ref C) (.type "BaseException") = some true
  ca : PySem.W.findIn K (.ref C) "__class__" = some (some (.builtin "object.__class__"))
  cn : PySem.W.specialIn K (.builtin "object.__class__") "__get__" = some (some (.builtin "getset_descriptor.__get__"))
  tk : PySem.W.takesIn K (.builtin "object.__class__") = some true
  mo : PySem.W.mroIn K C (.type "object") = some true
def rIsD (K : PySem.W.Frag) (D a : Addr) (cls : Value) (d : Option Addr) : List V → Hp → VK → Prop := fun xs H Q => ∃ (c : V) (cv : Value) (b : Bool) (dd : Addr) (fs : List (Str × V)), xs = [.ref a, c] ∧ (∀ u, RelV c u → u = cv) ∧ cls = .ref D ∧ d = some dd ∧ H dd = some (.xd fs) ∧ PySem.W.kitOne K (.ref D) cv = some b ∧ Q (.bl b) H
theorem call_isD {X : Cx} {a D : Addr} {cls : Value} {d : Option Addr} {oe : Obj} {pn : List (Addr × Obj)} (T : ErrC X.K D) (hz : Zc cls d oe) (hf : ∃ vs, oe.data = .fields vs) : CallR (X.suite a ((a, oe) :: pn)) (.builtin "isinstance") (rIsD X.K D a cls d) := by
  intro pins s σ H xs us Q I r h
  obtain ⟨c, cv, b, dd, fs, rfl, hcv, rfl, rfl, hd, e, q⟩ := h
  obtain ⟨u1, u2, rfl, r1, r2⟩ := vals2 r
  cases (show u1 = Value.ref a from r1)
  cases hcv _ r2
  obtain ⟨hget, _⟩ := I.pin (a, oe) (List.mem_append_left _ List.mem_cons_self)
  obtain ⟨vs, hv⟩ := hf
  obtain ⟨mA, hns, _⟩ := (show ObjOk X.prog X.w H s.heap dd (.xd fs) from I.hok dd _ hd)
  obtain ⟨od, ho, _⟩ := lookIn_ns hns
  have J : PySem.W.InstAt s.heap a oe D (some od) := ⟨hget, hz.1, by unfold PySem.W.notCls; rw [hv] <;> rfl, by rw [hz.2]; exact ho⟩
  exact PySem.W.kia_one (PySem.W.kitx_exc T.cl T.ga T.gt T.be T.ca T.cn T.tk T.mo) I.kIn J e (fun z => nomatch z) fun tk => ⟨.bl b, H, I.kept (t' := tk) fun _ _ z => z, rfl, q⟩
/-! ### operators by own defs -/
section
variable {X : Cx} {n : Nat} {C g : Addr} {fd : FuncData} {ps : List Str} {sp : Sp}
def rOwnI (C : Addr) (sp : Sp) : R2 := fun x y H Q => ∃ a b dx dy fs gs, x = .ref a ∧ y = .ref b ∧ H a = some (.ins C dx fs) ∧ H b = some (.ins C dy gs) ∧ sp [x, y] H Q E0
theorem op_ownI {op : CmpOp} (hs : PySem.W.findIn X.K (.ref C) (cmpInfo op).2.1 = some (some (.ref g))) (hf : PySem.W.isFn X.K (.ref g) = true) (F : FnOk X.prog X.w X.K X.mg X.base CX0 n g fd ps sp) (hb : Binds X.K fd ps []) (hr : Room n X.A)
    (hop : ∀ a b, compareOp op a b = richCompare op a b := by intro _ _; rfl) : OpR X (compareOp op) (rOwnI C sp) := by
  intro pins s σ H x y v u Q I rx ry h
  obtain ⟨a, b, dx, dy, fs, gs, rfl, rfl, ea, eb, q⟩ := h
  cases (show v = Value.ref a from rx)
  cases (show u = Value.ref b from ry)
  obtain ⟨mA, J, _⟩ := ins_get I.hok ea
  obtain ⟨mB, J', _⟩ := ins_get I.hok eb
  obtain ⟨od, J, _⟩ := J.look
  obtain ⟨od', J', _⟩ := J'.look
  obtain ⟨m, hF⟩ := I.fr
  rw [hop]
  refine PySem.W.cmp_K (op := op) (tb := .ref C) hr.units0 hF I.ok.mod.kin J J'.type (by simp [PySem.W.notFirst]) hs hf ?_
  exact wpAny_mono (run_fn (vs := [.ref a, .ref b]) F hr hb .nil pass0 I (.cons rfl (.cons rfl .nil)) q) (fun w s' ⟨z', H', I', rz, qz⟩ => SlX.cmpback rz ⟨z', H', I', rz, qz⟩) fun _ _ x => x
end
/-! ### != by an own == -/
namespace NeX
open PySem.W
section
variable {prog : Program} {w : World} {A : Around} {E : Value → Shared → Prop} {s : Shared} {K : Frag} {x C L f : Addr} {h₀ : Heap} {m : Str → Option Value} {ox : Obj} {od : Option Obj} {b tb : Value}
theorem bound_blt {M : Model} {name : Str} {id : String} {args : List Value} {Q : Option Value → Shared → Prop} (X : K.In s.heap) (I : InstAt s.heap x ox C od) (hs : findIn K (.ref C) name = some (some (.builtin id)))
    (hb : bindSpecial (.builtin id) (.ref x) = pure (Value.builtin id, [Value.ref x])) (h : wpAny M A (call (.builtin id) (.ref x :: args)) (fun v => Q (some v)) E s) : wpAny M A (callSpecialIfBound? (.ref x) name args) Q E s := by
  simp only [callSpecialIfBound?, bindSpecialIfBound?]
  refine wpAny_holding (wpAny_bind (wpAny_bind (wpAny_bind (I.type.here ((looks_findIn X hs).here ?_)))))
  simp only [hb]
  have out : wpAny M A (call (.builtin id) ([.ref x] ++ args) >>= fun v => pure (some v)) Q E s := wpAny_bind (wpAny_mono h (fun _ _ z => wpAny_pure z) fun _ _ z => z)
  refine wpAny_bind (wpAny_askSetting (wpAny_ite ?_))
  split
  · exact wpAny_bind (wpAny_pure (wpAny_pure out))
  · exact wpAny_tryCatch (wpAny_bind (wpAny_pure (wpAny_pure out)))
theorem run_ne (hu : A.units < cLine) (X : K.In s.heap) (I : InstAt s.heap x ox C od) (he : findIn K (.ref C) "__eq__" = some (some (.ref f))) (hf : isFn K (.ref f) = true) {Q : Fin → Shared → Prop}
    (h : wpAny (model prog w) A (call (.ref f) [.ref x, b]) (fun v s' => ∃ k, v = .bool k ∧ Q (.done (.ret (.bool (!k)))) s') E s) : wpAny (model prog w) A (Builtin.«object.__ne__» ⟨[.ref x, b], []⟩) Q E s := by
  unfold Builtin.«object.__ne__»
  repeat (first
    | with_reducible refine wpAny_cRoomFor hu ?_
    | (refine wpAny_bind (m := callSpecialIfBound? (.ref x) (Str.ofString "__eq__") [b]) (ifBound_K X I he hf (wpAny_mono h (fun r s' hr => by
          obtain ⟨k, rfl, hq⟩ := hr
          repeat (first | exact hq | exact wpAny_pure hq | exact wpAny_truthy_bool hq | (refine wpAny_bind (m := truthy (.bool _)) (wpAny_truthy_bool ?_)) | wp_step)) fun _ _ z => z)))
    | wp_step)
theorem rich_ne (hu : A.units + 1 < cLine) (F : Fr h₀ L s.heap m) (X₀ : K.In h₀) (I : InstAt s.heap x ox C od) (hb : Looks (model prog w) s.heap (typeOf b) tb) (hn : notFirst K C tb = true)
    (hne : findIn K (.ref C) "__ne__" = some (some (.builtin "object.__ne__"))) (hso : subIn K (.ref C) (.type "object") = some true)
    (he : findIn K (.ref C) "__eq__" = some (some (.ref f))) (hf : isFn K (.ref f) = true) {Q : Value → Shared → Prop}
    (h : wpAny (model prog w) A.in1 (call (.ref f) [.ref x, b]) (fun v s' => ∃ k, v = .bool k ∧ Q (.bool (!k)) s') E s) : wpAny (model prog w) A (richCompare .NotEq (.ref x) b) Q E s := by
  have X := X₀.keeps F.keep
  have one : wpAny (model prog w) A (tryCompare (.ref x) "__ne__" b) (fun r s' => ∃ v, r = some v ∧ Q v s') E s := by
    unfold tryCompare
    refine wpAny_bind (bound_blt X I hne (PySem.F.cmp_object.ne.bind _) (wpAny_call (codeAny_call_builtin PySem.F.cmp_object.ne.plain PySem.F.cmpEntry_ne
      (check_slot PySem.F.cmpKind_ne PySem.F.cmpSplit_ne (I.type.andThen (looks_subIn X hso)) (PySem.F.cmpArgs_ne _ _) (run_ne (A := A.in1) (by show A.units + 1 < cLine; exact hu) X I he hf (wpAny_mono h (fun v s' hv => ?_) fun _ _ z => z))))))
    obtain ⟨k, rfl, hq⟩ := hv
    exact ⟨k, rfl, wpAny_pure ⟨_, rfl, hq⟩⟩
  unfold richCompare
  simp only [oneThing_ref]
  refine wpAny_holding (wpAny_bind (wpAny_cRoomFor (Nat.lt_of_succ_lt hu) ?_))
  rw [cmpInfo_NotEq]
  dsimp only
  refine wpAny_bind (I.type.here (wpAny_bind (hb.here ?_)))
  split
  · rename_i q
    have e : subIn K tb (.ref C) = some false := by
      rcases Bool.or_eq_true_iff.mp hn with z | z
      · rw [beq_iff_eq.mp z] at q; simp at q
      · exact beq_iff_eq.mp z
    refine wpAny_bind ((looks_subIn X e).here ?_)
    simp only [Bool.false_eq_true, if_false]
    exact wpAny_bind (wpAny_mono one (fun r s' ⟨v, z, hq⟩ => by subst z; exact wpAny_pure hq) fun _ _ z => z)
  · refine wpAny_bind (wpAny_pure ?_)
    simp only [Bool.false_eq_true, if_false]
    exact wpAny_bind (wpAny_mono one (fun r s' ⟨v, z, hq⟩ => by subst z; exact wpAny_pure hq) fun _ _ z => z)
end
end NeX
section
variable {X : Cx} {n : Nat} {C g : Addr} {fd : FuncData} {ps : List Str} {sp : Sp}
/-- what y, on the other side, is: an instance of the same class, or plain -/
def Other (K : PySem.W.Frag) (H : Hp) (C : Addr) (y : V) : Prop := (∃ b dy gs, y = .ref b ∧ H b = some (.ins C dy gs)) ∨ ∃ z, y = .str z
/-- x != y, by C's own == alone -/
def rNeI (K : PySem.W.Frag) (C : Addr) (sp : Sp) : R2 := fun x y H Q => ∃ a dx fs, x = .ref a ∧ H a = some (.ins C dx fs) ∧ Other K H C y ∧ sp [x, y] H (fun v H' => ∃ k, v = .bl k ∧ Q (.bl (!k)) H') E0
theorem op_neI (hne : PySem.W.findIn X.K (.ref C) "__ne__" = some (some (.builtin "object.__ne__"))) (hso : PySem.W.subIn X.K (.ref C) (.type "object") = some true) (hst : PySem.W.notFirst X.K C (.type "str") = true)
    (he : PySem.W.findIn X.K (.ref C) "__eq__" = some (some (.ref g))) (hf : PySem.W.isFn X.K (.ref g) = true) (F : FnOk X.prog X.w X.K X.mg X.base CX0 n g fd ps sp) (hb : Binds X.K fd ps []) (hr : Room (n + 1) X.A) : OpR X (compareOp .NotEq) (rNeI X.K C sp) := by
  intro pins s σ H x y v u Q I rx ry h
  obtain ⟨a, dx, fs, rfl, ea, ho, q⟩ := h
  cases (show v = Value.ref a from rx)
  obtain ⟨mA, J, _⟩ := ins_get I.hok ea
  obtain ⟨od, J, _⟩ := J.look
  obtain ⟨m, hF⟩ := I.fr
  have hu : X.A.units + 1 < cLine := by have := hr.units; omega
  have call1 : wpAny (model X.prog X.w) X.A.in1 (call (.ref g) [.ref a, u]) (fun v' s' => ∃ k, v' = .bool k ∧ EP X pins σ Q (.bool (!k)) s') X.xe s := by
    refine wpAny_mono (wpAny_call (SlX.run_at (us := [.ref a, u]) (ws := [.ref a, y]) (F.raw hb .nil) hr.in1 I.env0.in1 pass0 I (.cons rfl (.cons ry .nil)) q)) (fun w' s' z => ?_) fun _ _ z => z
    obtain ⟨z', H', I', rz, k, ez, qz⟩ := z
    subst ez
    cases rz
    exact ⟨k, rfl, .bl (!k), H', I', rfl, qz⟩
  rcases ho with ⟨b, dy, gs, rfl, eb⟩ | ⟨z, rfl⟩
  · cases (show u = Value.ref b from ry)
    obtain ⟨mB, J', _⟩ := ins_get I.hok eb
    obtain ⟨od', J', _⟩ := J'.look
    exact NeX.rich_ne hu hF I.ok.mod.kin J J'.type (by simp [PySem.W.notFirst]) hne hso he hf call1
  · obtain ⟨t, et⟩ := (show ∃ t, u = Value.str z t from ry)
    cases et
    exact NeX.rich_ne hu hF I.ok.mod.kin J (PySem.W.Looks.of_pure rfl) hst hne hso he hf call1
end

/-! ### != of two lists whose items are equal, one by one -/
namespace NlX
open PySem.SeqAt MeetsSeq MeetsSeq2 MeetsSeq3 SeqRoads2
open AutoSeq1 (wpAny_loadPart')
section
variable {prog : Program} {w : World} {A : Around} {R : Result → Shared → Prop}
/-- where the machine stands at the item number j of N: both lists as they are now, and the two items are seen to be equal -/
def Turns (prog : Program) (w : World) (A : Around) (E : Value → Shared → Prop) (p q : Addr) (N : Nat) (J : Nat → Shared → Prop) : Prop := GQ.ListI prog w A E p q N J
theorem ne_turns (p q : Addr) (N : Nat) (J : Nat → Shared → Prop) (T : Turns prog w A (fun e s' => R (.error e) s') p q N J) (out : ∀ s, J N s → R (.ok (.ret (.bool false))) s) :
    ∀ (left j : Nat), j + left = N → ∀ s, J j s → wpAny (model prog w) A.in1 (Builtin.«list.__eq__.loop» ⟨[.ref p, .ref q, rawInt j, rawInt 3], []⟩) (GQ.FinOf prog w A R) (fun e s' => R (.error e) s') s
  | 0, j, hj, s, h => by
    obtain ⟨xs, ys, m1, m2, e1, e2, z1, z2, _⟩ := T _ _ h
    have hjN : j = N := by omega
    subst hjN
    have fin := out s h
    obtain ⟨hp, g, d, tk, os⟩ := s
    wp_walk using wpAny_loadPart' e1, wpAny_loadPart' e2
    have a1 : xs[((j : Nat) : Int).toNat]? = none := by simp; omega
    have a2 : ys[((j : Nat) : Int).toNat]? = none := by simp; omega
    rw [a1, a2]
    wp_walk using wpAny_loadPart' e1, wpAny_loadPart' e2
    show R (.ok (.ret (.bool (xs.size != ys.size)))) _
    rw [z1, z2]
    simpa using fin
  | left + 1, j, hj, s, h => by
    obtain ⟨xs, ys, m1, m2, e1, e2, z1, z2, turn⟩ := T _ _ h
    have b1 : j < xs.size := by omega
    have b2 : j < ys.size := by omega
    have step := turn b1 b2
    obtain ⟨hp, g, d, tk, os⟩ := s
    wp_walk using wpAny_loadPart' e1, wpAny_loadPart' e2
    have a1 : xs[((j : Nat) : Int).toNat]? = some xs[j] := by simp [b1]
    have a2 : ys[((j : Nat) : Int).toNat]? = some ys[j] := by simp [b2]
    have up : ((j : Int) + 1) = ((j + 1 : Nat) : Int) := by omega
    rw [a1, a2]
    refine wpAny_bind (wpAny_mono step (fun r s2 z => ?_) fun _ _ z => z)
    obtain ⟨er, z⟩ := z
    subst er
    have more := ne_turns p q N J T out left (j + 1) (by omega) s2 z
    obtain ⟨hp2, g2, d2, tk2, os2⟩ := s2
    wp_walk
    rw [up]
    exact ⟨plainId_quiet plain_eq_loop _, codeAny_builtin entry_eq_loop (by
      rw [Around.under_plainId plain_eq_loop _]
      exact more)⟩
theorem ne_lists (p q : Addr) (N : Nat) (J : Nat → Shared → Prop) (T : Turns prog w A (fun e s' => R (.error e) s') p q N J) (out : ∀ s, J N s → R (.ok (.ret (.bool false))) s) {s : Shared} (h : J 0 s) :
    wpAny (model prog w) A.in1 (Builtin.«list.__ne__» ⟨[.ref p, .ref q], []⟩) (GQ.FinOf prog w A R) (fun e s' => R (.error e) s') s := by
  obtain ⟨xs, ys, m1, m2, e1, e2, z1, z2, _⟩ := T _ _ h
  have more := ne_turns (A := A) (R := R) p q N J T out N 0 (by omega) s h
  obtain ⟨hp, g, d, tk, os⟩ := s
  have sub := AutoSeq1.sub_list_list
  have same : ¬ (xs.size != ys.size) = true := by simp [z1, z2]
  wp_walk using wpAny_loadPart' e1, wpAny_loadPart' e2
  exact ⟨plainId_quiet plain_eq_loop _, codeAny_builtin entry_eq_loop (by
    rw [Around.under_plainId plain_eq_loop _]
    exact more)⟩
end
section
variable {prog : Program} {w : World} {A : Around} {E : Value → Shared → Prop} {s : Shared}
theorem rich_neL {p q : Addr} {N : Nat} {Q : Value → Shared → Prop} (hu : A.units < cLine) (J : Nat → Shared → Prop) (T : Turns prog w A E p q N J) (out : ∀ s, J N s → Q (.bool false) s) (h : J 0 s) :
    wpAny (model prog w) A (richCompare .NotEq (.ref p) (.ref q)) Q E s := by
  obtain ⟨xs, ys, m1, m2, e1, e2, _, _, _⟩ := T _ _ h
  refine wpAny_richCompare_same_room (op := .NotEq) ⟨_, e1, rfl⟩ ⟨_, e2, rfl⟩ F.slot_list_ne (GQ.call_here F.slot_list_ne ⟨_, e1, rfl⟩ F.entry_list_ne (F.args_list_ne_2 _ _) ?_) hu
  exact ne_lists (R := wants (fun v s' => v ≠ .notImplemented ∧ Q v s') E) p q N J T (fun s' z => ⟨(fun x => nomatch x), out s' z⟩) h
end
end NlX
section
variable {X : Cx} {n : Nat} {D : Eqv}
/-- xs != ys, lists whose items are equal by D -/
def rNeL (D : Eqv) : R2 := fun x y H Q => DList D x y H ∧ ∀ H', Ext H H' → Q (.bl false) H'
theorem op_neL (hD : Mon D) (h : EqG X n D) (hr : Room (n + 1) X.A) : OpR X (compareOp .NotEq) (rNeL D) := by
  intro pins s σ H x y v u Q I rx ry ⟨d, q⟩
  obtain ⟨a, b, xs, ys, rfl, rfl, ea, eb, p⟩ := d
  cases rx
  cases ry
  refine NlX.rich_neL (N := xs.length) hr.units0 (fun _ s' => LoopI X pins σ H s') (fun i s' z => ?_) (fun s' ⟨H', I', e⟩ => ⟨.bl false, H', I', rfl, q H' e⟩) ⟨H, I, Ext.rfl'⟩
  obtain ⟨H1, I1, e1⟩ := id z
  obtain ⟨_, its, k, r, o1⟩ := I1.hok a _ (e1 _ _ ea)
  obtain ⟨_, its2, k2, r2, o2⟩ := I1.hok b _ (e1 _ _ eb)
  exact ⟨its.toArray, its2.toArray, k, k2, o1, o2, by rw [List.size_toArray, ← r.length], by rw [List.size_toArray, ← r2.length, ← p.1], fun h1 h2 => turnG hD h ⟨hr, rfl⟩ p r r2 i h1 h2 s' z⟩
end
/-! ### defs that are run where no repr is under way: what repr of a list or tuple wants -/
/-- as FnOk, for a def that lets nothing out, called where no repr is under way -/
structure FnG (P : Program) (w : World) (K : PySem.W.Frag) (mg : Str → Option Value) (base : Heap) (k : Nat) (f : Addr) (fd : FuncData) (ps : List Str) (sp : Sp) : Prop where
  many : ∀ vs H Q, sp vs H Q E0 → vs.length = ps.length
  goes : ∀ (A : Around) (outer : List Env) (s : Shared) (H : Hp) (us : List Value) (vs : List V) (Q : VK), A.guards = some [] → Room k A → Env0 P w K mg base A outer s H → BindsTo s fd ⟨us, []⟩ (ps.zip us) → Vals vs us → sp vs H Q E0 →
    codeAny (model P w) A (.call (.ref f) ⟨us, []⟩) (CR CX0 outer P w H s Q E0) s
section
variable {P : Program} {w : World} {K : PySem.W.Frag} {mg : Str → Option Value} {base : Heap}
theorem Fun.okG {x qual : Str} {st : Stmt} {f : Addr} {fd : FuncData} {N ps : List Str} {k : Nat} {sp : Sp} (F : Fun K x qual st f fd) (S : FnScope N ps (defScope st)) (many : ∀ vs H Q, sp vs H Q E0 → vs.length = ps.length)
    (body : ∀ (cdv : Value) (A : Around) (outer : List Env) (s : Shared) (H : Hp) (vs : List V) (Q : VK), A.guards = some [] → Room k (A.deeper (envOfC qual (defScope st) s.heap.objs.size f cdv)) → sp vs H Q E0 →
      ∃ t, PSs (cxOf CX0 P w K mg base N qual (defScope st) f cdv A outer s H E0).nox (defBody st) t ∧ t { nx := fun _ H' => Q .non H', rt := Q } (start N vs) H) : FnG P w K mg base (k + 1) f fd ps sp := by
  obtain ⟨oc, od, kV, doc, pm, an, cdv, ct, osl, rfl, at_, cd⟩ := F.ex
  refine ⟨many, fun A outer s H us vs Q hg hr e0 hb r hs => ?_⟩
  have KX : K.In s.heap := e0.mod.kin.keeps fun b o e => (e0.bs b o e).1
  have lim : s.heap.NoLimit := e0.mod.nolimit.keeps fun b o e => (e0.bs b o e).1
  refine codeAny_call_function hr.depth (KX _ _ at_) rfl S.co S.gen rfl (PySem.W.codeRec_of KX cd) (hb _ _ _ _ ?_)
  refine wpAny_newFunctionEnv_cells S.kind (fun ⟨n, v⟩ hy => ?_) fun env he s1 x => ?_
  · rcases S.par n (List.of_mem_zip hy).1 with q | q
    · exact .inl q
    · exact .inr ⟨q, PySem.W.cellsFrom_some _ _ _ (.inl q)⟩
  · subst he
    obtain ⟨t, ht, hq⟩ := body cdv A outer s H vs Q hg (hr.deeper _) hs
    refine ⟨lim.keeps x.toInCall.keep, codeAny_func (wpAny_mono (ht.nox.run [] s1 (start N vs) H _ (inv_start S hr.hd e0 (many _ _ _ hs) r x) hq) (fun fl s' z => ?_) fun e s' z => z)⟩
    have out : ∀ {σ' : L2.St} {H' : Hp} {v : V} {u : Value}, Inv (cxOf CX0 P w K mg base N qual (defScope st) f cdv A outer s H E0) [] σ' H' s' → RelV v u → Q v H' → CE outer P w H s Q u s' := fun {σ' H' v u} J rv q => ⟨v, H', J.os, J.bare, J.base, J.hok, rv, q⟩
    cases fl with
    | ret u => exact let ⟨v, σ', H', J, rv, q⟩ := z; out J rv q
    | next => exact let ⟨σ', H', J, q⟩ := z; out (v := V.non) (u := Value.none) J rfl q
    | brk => exact let ⟨_, _, _, q⟩ := z; False.elim q
    | cont => exact let ⟨_, _, _, q⟩ := z; False.elim q
end
section
variable {X : Cx} {k : Nat} {f : Addr} {fd : FuncData} {ps : List Str} {sp : Sp} {x : Str} {e : Expr} {es : List Expr} {p pos : Pos} {t : TA}
theorem pe_callG (F : FnG X.prog X.w X.K X.mg X.base k f fd ps sp) (gu : X.A.guards = some []) (hr : Room k X.A) (hg : Gl X x) (hm : X.mg x = some (.ref f)) (hk : PySem.W.keepIn X.K (.ref f) = true) (hb : Binds X.K fd ps []) (ha : PA X (e :: es) t)
    (hdb : (x == ("__debug__" : Str)) = false := by decide) (he : starEach (e :: es) X.env = (false, eval e X.env) :: starEach es X.env := by rfl) (hpl : (backTo pos (starEach es X.env)).any (·.1) = false := by rfl) :
    PE X (.Call (.Name x p) (e :: es) [] pos) (tCall sp [] E0 t) := ⟨fun pins s σ H Q I h => by
  refine wpAny_Call_Name_kw (ld_glob I hg hm (PySem.W.callWith_K (h₀ := X.base) I.ok.mod.kin hk (thn (ha.run pos pins s σ H _ I h) fun us s1 z => ?_) he hpl) hdb)
  obtain ⟨vs, H1, I1, r, q⟩ := z
  have q' : sp vs H1 Q E0 := by
    have z : sp (vs ++ []) H1 Q E0 := q
    rwa [List.append_nil] at z
  have hl : (us ++ []).length = ps.length := by rw [List.append_nil, ← r.length]; exact F.many _ _ _ q'
  have bt := hb s1 us I1.kIn hl
  rw [List.append_nil] at bt
  refine ⟨I1.kIn, wpAny_call (codeAny_mono (F.goes X.A X.stack s1 H1 us vs Q gu hr I1.env0 bt r q') fun r s' z => ?_)⟩
  cases r with
  | error e => exact z.elim
  | ok fl =>
    cases fl with
    | ret u => exact I1.after z
    | next => exact False.elim z
    | brk => exact False.elim z
    | cont => exact False.elim z⟩
/-- repr of data -/
def rReprD (K : PySem.W.Frag) : List V → Hp → VK → Prop := fun xs H Q => ∃ (x : V) (d : PyData), xs = [x] ∧ Dp K H x d ∧ d.showable = true ∧ d.hasDict = false ∧ d.depth ≤ 60 ∧ d.shown.length ≤ sizeLine ∧ Q (.str d.shown) H
theorem call_reprD (gu : X.A.guards = some []) (un : X.A.units + 100 < cLine) : CallR X (.builtin "repr") (rReprD X.K) := by
  intro pins s σ H xs us Q I r h
  obtain ⟨x, d, rfl, hd, hs, hn, hdp, hz, q⟩ := h
  obtain ⟨u, rfl, ru⟩ := r.one

  obtain ⟨as, R⟩ := Dp.reads I d x u hd ru
  have put : ∀ {t : Tok} {z : Str}, z = d.shown → EP X pins σ Q (.str z t) { s with toks := s.toks + 1 } := fun {t z} e => by
    subst e
    exact ⟨.str d.shown, H, I.tok _, ⟨t, rfl⟩, q⟩
  cases hd with
  | non => cases (show u = Value.none from ru); exact PySem.P.repr_of_none (put rfl)
  | bl b => cases (show u = Value.bool b from ru); exact PySem.P.repr_of_bool (put rfl)
  | int i =>
    obtain ⟨t, e⟩ := (show ∃ t, u = Value.int i t from ru)
    cases e
    exact PySem.P.repr_of_int (by simpa [PyData.showable] using hs) (put rfl)
  | str z =>
    obtain ⟨t, e⟩ := (show ∃ t, u = Value.str z t from ru)
    cases e
    exact PySem.P.repr_of_str (put rfl) (by simpa [PyData.shown] using hz)
  | @lst a vs ds hS hD =>
    cases (show u = Value.ref a from ru)
    exact repr_of_reads' R hs (PyData.noDict_hsm hn) gu (by omega) (fun _ _ e => e) (fun h' t tk k => ⟨.str _, H, I.kept (t' := tk) k, ⟨t, rfl⟩, q⟩) hz
  | @tup a vs ds hS hD =>
    cases (show u = Value.ref a from ru)
    exact repr_of_reads' R hs (PyData.noDict_hsm hn) gu (by omega) (fun _ _ e => e) (fun h' t tk k => ⟨.str _, H, I.kept (t' := tk) k, ⟨t, rfl⟩, q⟩) hz
end
/-! ### the end, by a law's def that is run where no repr is under way -/
namespace EndG
section
variable {P : Program} {w : World} {K : PySem.W.Frag} {mg mb : Str → Option Value} {k : Nat} {fa a : Addr} {fd : FuncData} {x : Str} {sp : Sp} {s : Shared} {vs : List Value} {ns : List Int}
/-- what is asked of the run at last -/
def Told (s : Shared) (r : Result) (s' : Shared) : Prop := r = .ok (.ret (.bool true)) ∧ OldK s.heap s'.heap ∧ s'.os = s.os ∧ AllBare s'.gens
/-- from a heap of which at most the script is tracked -/
theorem told_at (KX : K.In s.heap) (n1 : s.heap.Ns mainGlobals mg) (n2 : s.heap.Ns builtinsNs mb) (bb : ∀ x : Str, x ≠ "__name__" → mb x = bootBuiltins x) (lim : s.heap.NoLimit) (gs : s.gens = #[])
    (oa : s.heap.get? a = some { cls := .type "list", data := .seq vs.toArray }) (hr : Room k callerA) (F : ∀ base : Heap, K.In base → base.Ns mainGlobals mg → FnG P w K mg base k fa fd [x] sp)
    (bind : ∀ (s : Shared) (u : Value), BindsTo s fd ⟨[u], []⟩ [(x, u)]) (H : Hp) (only : Only H) (ok : HOk P w H s.heap) (at_a : ∀ b, H b ≠ none → b = a) (notK : H a ≠ none → K.lookup a = none)
    (h : sp [.ref a] H (fun v _ => v = .bl true) E0) : codeAny (model P w) callerA (.call (.ref fa) ⟨[.ref a], []⟩) (Told s) s := by
  have none_or : ∀ b, H b = none ∨ b = a := fun b => by
    cases q : H b with
    | none => exact .inl rfl
    | some u => exact .inr (at_a b (by rw [q]; exact fun z => nomatch z))
  have free : ∀ {b : Addr} {o : Obj} {es : Array DictEntry} {ep : Nat}, s.heap.get? b = some o → o.data = .dict es ep → H b = none := fun {b o es ep} e d => by
    rcases none_or b with z | z
    · exact z
    · rw [z, oa] at e
      cases e
      exact absurd (show Data.seq vs.toArray _ = Data.dict es ep from d) (fun y => nomatch y)
  have ns0 : ∀ {b : Addr} {m : Str → Option Value}, s.heap.Ns b m → (hidT s.heap H).Ns b m := fun {b m} z => by
    obtain ⟨o, es, ep, e, d, r⟩ := z
    exact ⟨o, es, ep, hidT_get e (free e d), d, r⟩
  have kb : K.In (hidT s.heap H) := fun b o e => hidT_get (KX b o e) (by
    rcases none_or b with z | z
    · exact z
    · cases q : H b with
      | none => rfl
      | some u =>
        rw [z] at q e
        rw [notK (by rw [q]; exact fun y => nomatch y)] at e
        cases e)
  have md : Mod K mg (hidT s.heap H) := ⟨kb, ns0 n1, ⟨mb, ns0 n2, bb⟩, by
    obtain ⟨mc, c1, c2⟩ := lim
    exact ⟨mc, ns0 c1, c2⟩⟩
  have noF : ∀ b : Addr, b ∉ ([] : List Addr) := fun b => by simp
  have e0 : Env0 P w K mg (hidT s.heap H) callerA [] s H := ⟨rfl, md, fun b o z => of_hidT z, Nat.le_of_eq (hidT_size _ _), trivial, fun b z => absurd (show b ∈ ([] : List Addr) from z) (noF b), ok, .of_eq gs⟩
  refine codeAny_mono ((F _ kb (ns0 n1)).goes callerA [] s H [.ref a] [.ref a] _ rfl hr e0 (bind s (.ref a)) (.cons rfl .nil) h) fun r s' z => ?_
  cases r with
  | error e => exact z.elim
  | ok fl =>
    cases fl with
    | next => exact False.elim z
    | brk => exact False.elim z
    | cont => exact False.elim z
    | ret u =>
      obtain ⟨v, H', os, bare, un, ok', rv, ev⟩ := z
      cases (show v = .bl true from ev)
      cases (show u = Value.bool true from rv)
      refine ⟨rfl, OldK.of_keep fun b o e => ?_, os, bare⟩
      cases q : H b with
      | none => exact un.keep b o e q (fun y => absurd (show b ∈ ([] : List Addr) from y) (noF b)) (noF b)
      | some u =>
        rcases only b with y | ⟨ob, xs, y⟩
        · rw [q] at y
          cases y
        · obtain ⟨g1, _⟩ := ok b _ y
          obtain ⟨g2, _⟩ := ok' b _ (un.frzs b ob _ y)
          rw [e] at g1
          cases g1
          exact g2
theorem law_told (KX : K.In s.heap) (n1 : s.heap.Ns mainGlobals mg) (n2 : s.heap.Ns builtinsNs mb) (bb : ∀ x : Str, x ≠ "__name__" → mb x = bootBuiltins x) (lim : s.heap.NoLimit) (gs : s.gens = #[])
    (oa : s.heap.get? a = some { cls := .type "list", data := .seq vs.toArray }) (isI : IntsAre vs ns) (few : ns.length ≤ sizeLine) (hr : Room k callerA) (F : ∀ base : Heap, K.In base → base.Ns mainGlobals mg → FnG P w K mg base k fa fd [x] sp)
    (bind : ∀ (s : Shared) (u : Value), BindsTo s fd ⟨[u], []⟩ [(x, u)]) (h : ∀ H : Hp, Only H → SqL K H a (ns.map V.int) → sp [.ref a] H (fun v _ => v = .bl true) E0) : codeAny (model P w) callerA (.call (.ref fa) ⟨[.ref a], []⟩) (Told s) s := by
  have rv := vals_ints isI
  have len := isI.length
  cases inK : K.lookup a with
  | some o =>
    have e := KX a o inK
    rw [oa] at e
    cases e
    have only : Only (fun _ => none) := fun _ => .inl rfl
    refine told_at KX n1 n2 bb lim gs oa hr F bind (fun _ => none) only (fun b u z => nomatch (show (none : Option HO) = some u from z)) (fun b z => absurd rfl z) (fun z => absurd rfl z) (h _ only ?_)
    exact .inr ⟨_, vs.toArray, _, inK, rfl, rfl, rfl, by rw [List.size_toArray, len]; exact few, by simpa using rv⟩
  | none =>
    let scr : Obj := { cls := .type "list", data := .seq vs.toArray }
    let H : Hp := fun b => if b = a then some (.frz scr (.lst (ns.map V.int))) else none
    have Ha : H a = some (.frz scr (.lst (ns.map V.int))) := if_pos rfl
    have Hb : ∀ b, b ≠ a → H b = none := fun b z => if_neg z
    have only : Only H := fun b => by
      by_cases z : b = a
      · exact .inr ⟨scr, _, by rw [z]; exact Ha⟩
      · exact .inl (Hb b z)
    refine told_at KX n1 n2 bb lim gs oa hr F bind H only (fun b u z => ?_) (fun b z => ?_) (fun _ => inK) (h H only (.inl (.inr ⟨scr, Ha⟩)))
    · by_cases y : b = a
      · subst y
        rw [Ha] at z
        cases z
        exact ⟨oa, by rw [List.length_map]; exact few, vs, _, rv, oa⟩
      · rw [Hb b y] at z
        cases z
    · by_cases y : b = a
      · exact y
      · exact absurd (Hb b y) z
end
theorem walk_told {l : PySem.W.OpenLaw} {n k : Nat} {q : Program} {loose : List Str} {XP : (Str → Option Value) → Heap → Prop} {YP : World → Heap → Prop} {d : DefRec} {K : Params → PySem.W.Frag} {sp : World → Sp} {x : Str} (most : l.most = some n) (few : n ≤ sizeLine) (nod : d.params.defaults = []) (hr : Room k callerA)
    (KI : ∀ (w : World) (h : Heap), YP w h → (K w.params).In h)
    (F : ∀ (w : World) (mg : Str → Option Value) (fa : Addr) (h : Heap), (K w.params).In h → h.Ns mainGlobals mg → mg d.name = some (.ref fa) → ∃ fd : FuncData, (∀ (s : Shared) (u : Value), BindsTo s fd ⟨[u], []⟩ [(x, u)]) ∧ ∀ base : Heap, (K w.params).In base → base.Ns mainGlobals mg → FnG l.prog w (K w.params) mg base k fa fd [x] (sp w))
    (holds : ∀ (w : World) (H : Hp) (a : Addr) (ns : List Int), ns.length ≤ n → SqL (K w.params) H a (ns.map V.int) → sp w [.ref a] H (fun v _ => v = .bl true) E0) : PySem.W.WalkO q loose XP YP l.row.toRowW d [] (fun f vs => PySem.call f vs) := Att.attach_call most nod fun w s₀ s₁ mg mb fa o pm cd doc a vs ns G Y ho hd hcd hmg hobj hints hlen hg => by
  obtain ⟨fd, bind, F1⟩ := F w mg fa _ (KI w _ Y) G.T.g hmg
  exact law_told (KI w _ Y) G.T.g G.T.b G.T.builtins G.T.nolimit hg hobj hints (Nat.le_trans hlen few) hr F1 bind fun H _ hS => holds w H a ns hlen hS
end EndG
/-! ### a tuple from behind: t[::-1] -/
namespace RvT
section
variable {prog : Program} {w : World} {A : Around} {E : Value → Shared → Prop} {s : Shared}
theorem from_end (n : Nat) : Builtin.Slice.sliceAdjust none none (-1) (n : Int) = ((n : Int) - 1, -1) := by
  unfold Builtin.Slice.sliceAdjust
  simp
theorem as_many (n : Nat) : Builtin.Slice.slicePlaces ((n : Int) - 1) (-1) (-1) = n := by
  unfold Builtin.Slice.slicePlaces
  simp
  omega
theorem applied_back {sl : Addr} {vk : Value} {n : Nat} {Q : Int × Int × Nat → Shared → Prop} (hs : s.heap.IsSliceOf sl .none .none vk) (pk : IsPart vk (some (-1))) (h : Q ((n : Int) - 1, -1, n) s) :
    wpAny (model prog w) A (Builtin.Slice.sliceApplied (.ref sl) (pure (n : Int))) Q E s := by
  obtain ⟨os, o1, _, o2⟩ := id hs
  unfold Builtin.Slice.sliceApplied Builtin.Slice.sliceFields
  refine wpAny_bind (wpAny_bind (wpAny_field o1 o2 (x := .none) rfl (wpAny_bind (wpAny_field o1 o2 (x := .none) rfl (wpAny_bind (wpAny_field o1 o2 (x := vk) rfl (wpAny_pure ?_)))))))
  refine wpAny_bind (HT.slicePart_ pk ?_)
  show wpAny _ _ (if ((-1 : Int) == 0) = true then _ else _) _ _ s
  rw [if_neg (by decide)]
  refine wpAny_bind (slicePart_none (wpAny_bind (slicePart_none (wpAny_bind (wpAny_pure ?_)))))
  show wpAny _ _ (match Builtin.Slice.sliceAdjust none none (-1) (n : Int) with | (a, b) => pure (a, (-1 : Int), Builtin.Slice.slicePlaces a b (-1))) _ _ s
  rw [from_end n]
  show wpAny _ _ (pure ((n : Int) - 1, (-1 : Int), Builtin.Slice.slicePlaces ((n : Int) - 1) (-1) (-1))) _ _ s
  rw [as_many]
  exact wpAny_pure h
theorem picked (xs : Array Value) : ((List.range xs.size).filterMap fun (m : Nat) => xs[(((xs.size : Int) - 1) + (m : Int) * (-1)).toNat]?).toArray = xs.toList.reverse.toArray := by
  have e : (List.range xs.size).filterMap (fun (m : Nat) => xs[(((xs.size : Int) - 1) + (m : Int) * (-1)).toNat]?) = ((List.range xs.size).map fun m => xs.size - 1 - m).filterMap (xs[·]?) := by
    rw [List.filterMap_map]
    have all : ∀ l : List Nat, (∀ m ∈ l, m < xs.size) → l.filterMap (fun (m : Nat) => xs[(((xs.size : Int) - 1) + (m : Int) * (-1)).toNat]?) = l.filterMap ((xs[·]?) ∘ fun m => xs.size - 1 - m) := by
      intro l
      induction l with
      | nil => exact fun _ => rfl
      | cons m l ih =>
        intro hl
        have lt := hl m List.mem_cons_self
        have z : (((xs.size : Int) - 1) + (m : Int) * (-1)).toNat = xs.size - 1 - m := by omega
        rw [List.filterMap_cons, List.filterMap_cons, z, ih fun m' h' => hl m' (List.mem_cons_of_mem _ h')]
        rfl
    exact all _ fun m hm => List.mem_range.mp hm
  rw [e, PySem.W.krv_range, List.filterMap_reverse, PySem.W.krv_all]
theorem item_back {t sl : Addr} {items : Array Value} {vk : Value} {Q : Value → Shared → Prop} (ht : IsTup s.heap t items) (hs : s.heap.IsSliceOf sl .none .none vk) (pk : IsPart vk (some (-1))) (hz : items.size ≤ sizeLine)
    (h : Q (.ref s.heap.objs.size) { s with heap := s.heap.push { cls := .type "tuple", data := .seq items.toList.reverse.toArray } }) : wpAny (model prog w) A (getItem (.ref t) (.ref sl)) Q E s := by
  have room : sizeOk (.seq items.toList.reverse.toArray) := by
    show items.toList.reverse.toArray.size ≤ sizeLine
    rw [List.size_toArray, List.length_reverse, Array.length_toList]
    exact hz
  obtain ⟨os, o1, o2, _⟩ := id hs
  have isSl : s.TypeIs (.ref sl) "slice" := ⟨os, o1, o2⟩
  unfold getItem
  try with_reducible refine wpAny_holding ?_
  first | refine wpAny_bind (wpAny_pure ?_) | skip
  refine wpAny_bind (wpAny_sequenceKey ht.typeIs (by decide) ?_)
  refine wpAny_bind (wpAny_callSpecial?_slot (name := Str.ofString "__getitem__") ht.typeIs slot_tuple_getitem (wpAny_call_entry slot_tuple_getitem ht.typeIs entry_tuple_getitem ?_ (args_tuple_getitem _ _)))
  show wpAny _ _ (Builtin.Tuple.tupleItemsOf (.ref t) >>= _) _ _ s
  refine wpAny_bind (tupleItemsOf_ ht (wpAny_bind (wpAny_typeOf isSl ?_)))
  rw [if_pos (by decide)]
  refine wpAny_bind (applied_back hs pk ?_)
  show wpAny _ _ (if (((items.size : Int) - 1) == 0 && (-1 : Int) == 1 && items.size == items.size) = true then _ else _) _ _ s
  rw [if_neg (by simp), picked]
  first
    | exact wpAny_bind (m := Builtin.Tuple.tupleExact _) (wpAny_newObj_type (wpAny_pure ⟨_, rfl, wpAny_pure h⟩) room)
    | exact wpAny_bind (m := Builtin.Tuple.tupleExact _) (wpAny_newObj_type (wpAny_bind (wpAny_pure (wpAny_pure ⟨_, rfl, wpAny_pure h⟩))) room)
    | exact wpAny_bind (wpAny_bind (m := Builtin.Tuple.tupleExact _) (wpAny_newObj_type (wpAny_pure (wpAny_pure ⟨_, rfl, wpAny_pure h⟩)) room))
    | exact wpAny_bind (wpAny_bind (m := Builtin.Tuple.tupleExact _) (wpAny_newObj_type (wpAny_pure ⟨_, rfl, wpAny_pure h⟩) room))
end
end RvT
section
variable {X : Cx}
def tRevT (K : PySem.W.Frag) (te : TE) : TE := fun σ H Q => te σ H fun x H1 => ∃ a xs, x = .ref a ∧ SqT K H1 a xs ∧ ∀ p, H1 p = none → Q (.ref p) (upd H1 p (.tup xs.reverse))
theorem pe_revT {e : Expr} {te : TE} {k : Nat} {p1 p2 p3 pos : Pos} (he : PE X e te) : PE X (.Subscript e (.Slice none none (some (.UnaryOp .USub (.Constant (.int 1) k p1) p2)) p3) pos) (tRevT X.K te) := ⟨fun pins s σ H Q I h => by
  refine Subscript_ (thn (he.run pins s σ H _ I h) fun v s1 ⟨x, H1, I1, r1, q1⟩ => ?_)
  obtain ⟨a, xs, ex, hx, q⟩ := q1
  subst ex
  cases r1
  have none_at : ∀ (sA : Shared) (HA : Hp), Inv X pins σ HA sA → tNoPart σ HA (fun o HB => o = none ∧ HB = HA) := fun _ _ _ => ⟨rfl, rfl⟩
  have back : PO X (some (.UnaryOp .USub (.Constant (.int 1) k p1) p2)) (tPart (tUn (rU fun i => .int (-i)) (tC (.int 1)))) := po_some (pe_un un_neg pe_int)
  refine wpAny_Slice (thn (po_none.run pins s1 σ H1 _ I1 (none_at _ _ I1)) fun vl s2 ⟨l, H2, I2, pl, e1⟩ => ?_)
  obtain ⟨el, e2⟩ := e1
  subst el e2
  refine thn (po_none.run pins s2 σ H2 _ I2 (none_at _ _ I2)) fun vu s3 ⟨u, H3, I3, pu, e3⟩ => ?_
  obtain ⟨eu, e4⟩ := e3
  subst eu e4
  refine thn (back.run pins s3 σ H3 (fun o H4 => o = some (-1) ∧ H4 = H3) I3 ⟨1, rfl, -1, rfl, rfl, rfl⟩) fun vk s4 ⟨o, H4, I4, pk, e5⟩ => ?_
  obtain ⟨eo, e6⟩ := e5
  subst eo e6
  cases pl
  cases pu
  have I5 : Inv X pins σ H4 { s4 with heap := s4.heap.push { cls := .type "slice", data := .fields #[Value.none, .none, vk] } } := I4.kept (t' := s4.toks) fun b ob z => Heap.get?_push_of_some _ z
  obtain ⟨its, r, ht, hz⟩ := I5.tuple hx
  have len : its.toArray.size = xs.length := by rw [List.size_toArray]; exact r.length.symm
  show wpAny (model X.prog X.w) X.A (subscriptTail e (.Slice none none (some (.UnaryOp .USub (.Constant (.int 1) k p1) p2)) p3) (.ref a) (.ref s4.heap.objs.size)) (EP X pins σ Q) X.xe { s4 with heap := s4.heap.push { cls := .type "slice", data := .fields #[Value.none, .none, vk] } }
  refine tail_any (ops := [.ref a, .ref s4.heap.objs.size]) ht.typeIs slot_tuple_getitem.lookup ?_ (by with_unfolding_all rfl)
  refine RvT.item_back ht (Heap.IsSliceOf.new _ .none .none vk) pk (by rw [len]; exact hz) ?_
  refine ⟨.ref _, _, I5.laid (t' := s4.toks) (o := .tup xs.reverse) (fun b ob z => Heap.get?_push_of_some _ z) (Nat.le_refl _) ?_, rfl, q _ (I5.hok.fresh (Nat.le_refl _))⟩
  exact ⟨by rw [List.length_reverse]; exact hz, _, r.reverse, IsTup.new _ _⟩⟩
end
/-! ### BadLabel -/
abbrev sBL : Stmt := inClass (topS 3) 0
abbrev sBadPart : Stmt := inClass (topS 4) 0
theorem scBadPart : FnScope ["self", "part"] ["self", "part"] (defScope sBadPart) := ⟨rfl, rfl, rfl, by decide +kernel, rfl, by decide +kernel, by decide +kernel⟩
abbrev sBadTerm : Stmt := inClass (topS 5) 0
theorem scBadTerm : FnScope ["self", "term"] ["self", "term"] (defScope sBadTerm) := ⟨rfl, rfl, rfl, by decide +kernel, rfl, by decide +kernel, by decide +kernel⟩
abbrev sLab : Stmt := inClass (topS 14) 0
theorem scBL : FnScope ["self", "label"] ["self", "label"] (defScope sBL) := ⟨rfl, rfl, rfl, by decide +kernel, rfl, by decide +kernel, by decide +kernel⟩
theorem scLab : FnScope ["self", "name"] ["self", "name"] (defScope sLab) := ⟨rfl, rfl, rfl, by decide +kernel, rfl, by decide +kernel, by decide +kernel⟩
/-- an error of the class C that keeps its argument under the name f: what its __init__ leaves -/
def spErr (C : Addr) (f : Str) : Sp := fun vs H Q _ => ∃ a v, vs = [.ref a, v] ∧ H a = some (exo a C none) ∧ ∀ d, H d = none → d ≠ a → Q .non (upd (upd H d (exd d [(f, v)])) a (exo a C (some d)))
/-- what is written of an error's class -/
structure ErrT (K : PySem.W.Frag) (mg : Str → Option Value) (x : Str) (f : Str) (C fI : Addr) : Prop where
  oex : OexC K C
  nof : PySem.W.findIn K (.ref C) f = some none
  ini : PySem.W.findIn K (.ref C) "__init__" = some (some (.ref fI))
  typ : PySem.W.typeIn K (.ref fI) = some (.type "function")
  nam : mg x = some (.ref C)
/-- what comes of raise C(v): its dict, new, holds v -/
def Left (H : Hp) (d : Addr) (f : Str) (v : V) (H' : Hp) : Prop := H d = none ∧ Same H H' ∧ H' d = some (.xd [(f, v)])
theorem mk_left {H : Hp} {C : Addr} {f : Str} {v : V} {Q : XK} (h : ∀ d H', Left H d f v H' → Q (.ref C) (some d) H') : ∀ a, H a = none → spErr C f [.ref a, v] (upd H a (exo a C none))
    (fun w H2 => w = .non ∧ ∃ (d : Addr) (fs : List (Str × V)), H2 a = some (exo a C (some d)) ∧ H2 d = some (exd d fs) ∧ H d = none ∧ Q (.ref C) (some d) (upd (L2.del H2 a) d (.xd fs))) (fun _ _ _ => False) := fun a na => by
  refine ⟨a, v, rfl, upd_same, fun d nd hda => ?_⟩
  have nd0 : H d = none := by rw [upd_ne hda] at nd; exact nd
  refine ⟨rfl, d, _, upd_same, by rw [upd_ne hda]; exact upd_same, nd0, h d _ ⟨nd0, fun b o e => ?_, upd_same⟩⟩
  have b1 : b ≠ d := ne_of_none e nd0
  have b2 : b ≠ a := ne_of_none e na
  rw [upd_ne b1, L2.del_ne b2, upd_ne b2, upd_ne b1, upd_ne b2]
  exact e
/-! ### labels -/
def labRow : List Str := ["always", "session", "statement", "changing"]
/-- no name of a label -/
def noLab : PyData → Bool
  | .str z => decide (z ∉ labRow)
  | _ => true
/-- what is written of the class Label -/
structure LabC (K : PySem.W.Frag) (mg : Str → Option Value) (C : Addr) : Prop where
  cl : Cls K C
  nh : NoAttr K C "_height"
  nn : NoAttr K C "name"
  me : PySem.W.kitOne K (.ref C) (.ref C) = some true
  ot : PySem.W.kitOne K (.type "str") (.ref C) = some false
  gC : mg "Label" = some (.ref C)
  ca : PySem.W.findIn K (.ref C) "__class__" = some (some (.builtin "object.__class__"))
  cg : PySem.W.specialIn K (.builtin "object.__class__") "__get__" = some (some (.builtin "getset_descriptor.__get__"))
  ct : PySem.W.takesIn K (.builtin "object.__class__") = some true
  cm : PySem.W.mroIn K C (.type "object") = some true
  ne : PySem.W.findIn K (.ref C) "__ne__" = some (some (.builtin "object.__ne__"))
  so : PySem.W.subIn K (.ref C) (.type "object") = some true
  nf : PySem.W.notFirst K C (.type "str") = true
/-- the table of the names -/
def RowT (K : PySem.W.Frag) (mg : Str → Option Value) : Prop := ∃ a o, mg "LABELS" = some (.ref a) ∧ K.lookup a = some o ∧ o.cls = .type "tuple" ∧ o.dict = none ∧ ∀ H : Hp, SqT K H a (labRow.map V.str)
/-- the label number i of the row, at a -/
def LabAt (H : Hp) (C a : Addr) (i : Nat) : Prop := ∃ dx fs z, H a = some (.ins C dx fs) ∧ labRow[i]? = some z ∧ fs.lookup ("_height" : Str) = some (V.int (4 - (i : Int))) ∧ fs.lookup ("name" : Str) = some (V.str z) ∧
  fs.lookup ("is_steady" : Str) = none ∧ fs.lookup ("higher" : Str) = none
theorem LabAt.ext {H H' : Hp} {C a : Addr} {i : Nat} (h : LabAt H C a i) (s : Ext H H') : LabAt H' C a i := by
  obtain ⟨dx, fs, z, e, r⟩ := h
  exact ⟨dx, fs, z, s _ _ e, r⟩
theorem LabAt.but {H H' : Hp} {C a D : Addr} {i : Nat} {zs : List V} (h : LabAt H C a i) (e : H D = some (.lst zs)) (b : But D H H') : LabAt H' C a i := by
  obtain ⟨dx, fs, z, ea, r⟩ := h
  exact ⟨dx, fs, z, b _ _ ea (fun q => by rw [q, e] at ea; cases ea), r⟩
theorem LabAt.lt {H : Hp} {C a : Addr} {i : Nat} (h : LabAt H C a i) : i < 4 := by
  obtain ⟨dx, fs, z, e, r, _⟩ := h
  exact List.getElem?_eq_some_iff.mp r |>.1
theorem LabAt.at {H : Hp} {C a : Addr} {i j : Nat} (h : LabAt H C a i) (e : j = i) : LabAt H C a j := e ▸ h
abbrev spOut (H : Hp) (v : V) (CB : Addr) (E : XK) : Prop := ∀ dd H', Left H dd "label" v H' → E (.ref CB) (some dd) H'
theorem upd_twice {H : Hp} {a : Addr} {x y : HO} : upd (upd H a x) a y = upd H a y := by
  funext b
  by_cases h : b = a
  · subst h
    rw [upd_same, upd_same]
  · rw [upd_ne h, upd_ne h, upd_ne h]
def spLab (K : PySem.W.Frag) (C CB : Addr) : Sp := fun vs H Q E => ∃ a dx v d, vs = [.ref a, v] ∧ H a = some (.ins C dx []) ∧ Dp K H v d ∧
  ((∃ (i : Nat) (z : Str), labRow[i]? = some z ∧ v = .str z ∧ ∀ fs, fs.lookup ("_height" : Str) = some (V.int (4 - (i : Int))) → fs.lookup ("name" : Str) = some (V.str z) → fs.lookup ("is_steady" : Str) = none → fs.lookup ("higher" : Str) = none → Q .non (upd H a (.ins C dx fs))) ∨
   (noLab d = true ∧ ∀ dd H', Left H dd "label" v H' → E (.ref CB) (some dd) H'))
def spLabEq (K : PySem.W.Frag) (C : Addr) : Sp := fun vs H Q _ => ∃ (a : Addr) (i : Nat) (y : V), vs = [.ref a, y] ∧ LabAt H C a i ∧ ((∃ b j, y = .ref b ∧ LabAt H C b j ∧ Q (.bl (decide (i = j))) H) ∨ ∃ z, y = .str z ∧ Q (.bl false) H)
def spLabLt (C : Addr) : Sp := fun vs H Q _ => ∃ (a b : Addr) (i j : Nat), vs = [.ref a, .ref b] ∧ LabAt H C a i ∧ LabAt H C b j ∧ Q (.bl (decide (j < i))) H
def spLabLe (C : Addr) : Sp := fun vs H Q _ => ∃ (a b : Addr) (i j : Nat), vs = [.ref a, .ref b] ∧ LabAt H C a i ∧ LabAt H C b j ∧ Q (.bl (decide (j ≤ i))) H
def spSteady (C : Addr) : Sp := fun vs H Q _ => ∃ (a : Addr) (i : Nat), vs = [.ref a] ∧ LabAt H C a i ∧ Q (.bl (decide (i ≠ 3))) H
abbrev sLabEq : Stmt := inClass (topS 14) 1
abbrev sLabLt : Stmt := inClass (topS 14) 2
abbrev sLabLe : Stmt := inClass (topS 14) 3
abbrev sSteady : Stmt := inClass (topS 14) 4
theorem scLabEq : FnScope ["self", "other"] ["self", "other"] (defScope sLabEq) := ⟨rfl, rfl, rfl, by decide +kernel, rfl, by decide +kernel, by decide +kernel⟩
theorem scLabLt : FnScope ["self", "other"] ["self", "other"] (defScope sLabLt) := ⟨rfl, rfl, rfl, by decide +kernel, rfl, by decide +kernel, by decide +kernel⟩
theorem scLabLe : FnScope ["self", "other"] ["self", "other"] (defScope sLabLe) := ⟨rfl, rfl, rfl, by decide +kernel, rfl, by decide +kernel, by decide +kernel⟩
theorem scSteady : FnScope ["self"] ["self"] (defScope sSteady) := ⟨rfl, rfl, rfl, by decide +kernel, rfl, by decide +kernel, by decide +kernel⟩
theorem row_str {i : Nat} {z : Str} (h : labRow[i]? = some z) : (i = 0 ∧ z = "always") ∨ (i = 1 ∧ z = "session") ∨ (i = 2 ∧ z = "statement") ∨ (i = 3 ∧ z = "changing") := by
  rcases i with _ | _ | _ | _ | i
  · exact .inl ⟨rfl, (Option.some.inj h).symm⟩
  · exact .inr (.inl ⟨rfl, (Option.some.inj h).symm⟩)
  · exact .inr (.inr (.inl ⟨rfl, (Option.some.inj h).symm⟩))
  · exact .inr (.inr (.inr ⟨rfl, (Option.some.inj h).symm⟩))
  · simp [labRow] at h
theorem inV_row (z : Str) : inV (V.str z) (labRow.map V.str) = decide (z ∈ labRow) := by
  rw [Bool.eq_iff_iff]
  unfold inV
  rw [List.any_eq_true, decide_eq_true_eq]
  constructor
  · rintro ⟨y, hy, e⟩
    obtain ⟨w, hw, rfl⟩ := List.mem_map.mp hy
    have e2 : w = z := by
      have e' : (w == z) = true := e
      exact beq_iff_eq.mp e'
    exact e2 ▸ hw
  · intro h
    exact ⟨V.str z, List.mem_map.mpr ⟨z, h, rfl⟩, (beq_self_eq_true z : (z == z) = true)⟩
section
variable {P : Program} {w : World} {K : PySem.W.Frag} {mg : Str → Option Value} {base : Heap}
theorem ok_badL {C f B : Addr} {fd : FuncData} (F : Fun K "__init__" "BadLabel.__init__" sBL f fd) (TB : OwnBase K mg "StoreError" B) (oex : OexC K C) (nof : PySem.W.findIn K (.ref C) "label" = some none) :
    FnOk P w K mg base CX0 1 f fd ["self", "label"] (spErr C "label") := by
  refine F.ok scBL (fun vs H Q E h => ?_) (fun cdv A outer s H vs Q E hr h => ?_)
  · obtain ⟨a, v, rfl, _⟩ := h
    rfl
  · obtain ⟨a, v, rfl, e, q⟩ := h
    refine ⟨_, pss_cons (ps_expr (pe_baseI (by rfl) TB (pa_cons (pv 0) (pa_cons pe_str pa_nil)))) (pss_one (ps_ost (pv 0) (pv 1))), ?_⟩
    refine ⟨.ref a, rfl, a, C, _, rfl, by show (1 : Nat) ≤ 1000; decide, oex, e, ?_⟩
    exact ⟨v, rfl, .ref a, rfl, a, C, rfl, oex, nof, .inl ⟨e, fun d nd ne => q d nd ne⟩⟩
theorem ok_badPart {C f B : Addr} {fd : FuncData} (F : Fun K "__init__" "BadPart.__init__" sBadPart f fd) (TB : OwnBase K mg "StoreError" B) (oex : OexC K C) (nof : PySem.W.findIn K (.ref C) "part" = some none) :
    FnOk P w K mg base CX0 1 f fd ["self", "part"] (spErr C "part") := by
  refine F.ok scBadPart (fun vs H Q E h => ?_) (fun cdv A outer s H vs Q E hr h => ?_)
  · obtain ⟨a, v, rfl, _⟩ := h
    rfl
  · obtain ⟨a, v, rfl, e, q⟩ := h
    refine ⟨_, pss_cons (ps_expr (pe_baseI (by rfl) TB (pa_cons (pv 0) (pa_cons pe_str pa_nil)))) (pss_one (ps_ost (pv 0) (pv 1))), ?_⟩
    refine ⟨.ref a, rfl, a, C, _, rfl, by show (1 : Nat) ≤ 1000; decide, oex, e, ?_⟩
    exact ⟨v, rfl, .ref a, rfl, a, C, rfl, oex, nof, .inl ⟨e, fun d nd ne => q d nd ne⟩⟩
theorem ok_badTerm {C f B : Addr} {fd : FuncData} (F : Fun K "__init__" "BadTerm.__init__" sBadTerm f fd) (TB : OwnBase K mg "StoreError" B) (oex : OexC K C) (nof : PySem.W.findIn K (.ref C) "term" = some none) :
    FnOk P w K mg base CX0 1 f fd ["self", "term"] (spErr C "term") := by
  refine F.ok scBadTerm (fun vs H Q E h => ?_) (fun cdv A outer s H vs Q E hr h => ?_)
  · obtain ⟨a, v, rfl, _⟩ := h
    rfl
  · obtain ⟨a, v, rfl, e, q⟩ := h
    refine ⟨_, pss_cons (ps_expr (pe_baseI (by rfl) TB (pa_cons (pv 0) (pa_cons pe_str pa_nil)))) (pss_one (ps_ost (pv 0) (pv 1))), ?_⟩
    refine ⟨.ref a, rfl, a, C, _, rfl, by show (1 : Nat) ≤ 1000; decide, oex, e, ?_⟩
    exact ⟨v, rfl, .ref a, rfl, a, C, rfl, oex, nof, .inl ⟨e, fun d nd ne => q d nd ne⟩⟩
theorem ok_lab {C CB f fB : Addr} {fd fdB : FuncData} (F : Fun K "__init__" "Label.__init__" sLab f fd) (M : Blt mg) (T : LabC K mg C) (R : RowT K mg) (TE : ErrT K mg "BadLabel" "label" CB fB)
    (GB : FnOk P w K mg base CX0 1 fB fdB ["self", "label"] (spErr CB "label")) (bB : Binds K fdB ["self", "label"] []) : FnOk P w K mg base (L2.CX P w) 3 f fd ["self", "name"] (spLab K C CB) := by
  obtain ⟨aR, oR, gR, lR, cR, dR, hR⟩ := R
  refine F.okX scLab (fun vs H Q E h => ?_) (fun cdv A outer s H vs Q E hr h => ?_)
  · obtain ⟨a, dx, v, d, rfl, _⟩ := h
    rfl
  · obtain ⟨a, dx, v, d, rfl, ea, hv, h⟩ := h
    have gl : ∀ {X : Cx}, X.mg = mg → X.mg "LABELS" = some (.ref aR) := fun e => e ▸ gR
    refine ⟨_, pss_cons (ps_if (PW.pt (pw_or (pt_not (pt_val (pe_callB call_isi (by rfl) M.isinstance (by decide +kernel) (pa_cons (pv 1) (pa_cons (pe_bltn (v := .ty "str") (by rfl) M.str (by decide +kernel) rfl) pa_nil)))))
        (pw_or1 (pt_cmpR op_notIn_seq (pv 1) (pe_glob (v := .ref aR) (by rfl) gR rfl) (by rfl))))) (pss_one (ps_raise rfl (takes_of rfl rfl rfl rfl) (pmk_oex (k := 1) (ps := ["self", "label"]) (sp := spErr CB "label") (ds := []) (dvs := []) TE.oex TE.ini TE.typ GB hr bB .nil pass0 (by rfl) TE.nam (pa_cons (pv 1) pa_nil)))) pss_nil)
      (pss_cons (ps_fld (pv 0) (pv 1) (by rfl))
      (pss_one (ps_fld (pv 0) (pe_op op_sub (pe_callB call_len_seq (by rfl) M.len PySem.boot_len (pa_cons (pe_glob (v := .ref aR) (by rfl) gR rfl) pa_nil))
        (pe_bm PySem.F.plainAttrs_tuple PySem.F.slot_tuple_index PySem.F.type_tuple_index mt_tup_index (pe_glob (v := .ref aR) (by rfl) gR rfl) (pa_cons (pv 1) pa_nil))) (by rfl)))), ?_⟩
    refine ⟨v, rfl, v, .ty "str", _, _, _, rfl, .ty "str", dp_ty hv, kit_str K d, _, rfl, ?_⟩
    rcases h with ⟨i, z, hi, rfl, q⟩ | ⟨hno, q⟩
    · have hd : d = .str z := by cases hv; rfl
      subst hd
      have hz : z ∈ labRow := List.mem_of_getElem? hi
      have i4 : i < 4 := List.getElem?_eq_some_iff.mp hi |>.1
      refine iteF ⟨V.str z, rfl, aR, _, rfl, .inr (hR H), rfl, by decide, _, rfl, ?_⟩
      have e1 : inV (V.str z) (labRow.map V.str) = true := by rw [inV_row, decide_eq_true hz]
      simp only [e1]
      refine iteF ⟨V.str z, rfl, .ref a, rfl, a, C, dx, [], rfl, ea, T.cl, T.nn, by decide, ?_⟩
      refine ⟨aR, _, rfl, .inr (hR _), .inr (.inl ⟨rfl, oR, lR, cR, dR⟩), V.str z, rfl, ?_⟩
      have at_ : ∀ m, m < i → labRow[m]? ≠ some z := fun m hm => by
        rcases row_str hi with ⟨e, e'⟩ | ⟨e, e'⟩ | ⟨e, e'⟩ | ⟨e, e'⟩ <;> subst e e'
        · omega
        · obtain rfl : m = 0 := by omega
          decide
        · rcases (show m = 0 ∨ m = 1 by omega) with e | e <;> subst e <;> decide
        · rcases (show m = 0 ∨ m = 1 ∨ m = 2 by omega) with e | e | e <;> subst e <;> decide
      refine ⟨aR, labRow, z, i, rfl, rfl, hR _, hi, at_, ?_⟩
      refine ⟨_, _, rfl, rfl, .ref a, rfl, a, C, dx, _, rfl, upd_same, T.cl, T.nh, (by show (1 : Nat) < 1000; decide), ?_⟩
      rw [upd_twice]
      refine q _ ?_ rfl rfl rfl
      have e4 : ((List.map V.str labRow).length : Int) = 4 := by decide
      rw [e4]
      rfl
    · have out : spOut H v CB E := q
      cases hv with
      | str z =>
        have hz : z ∉ labRow := of_decide_eq_true hno
        refine iteF ⟨V.str z, rfl, aR, _, rfl, .inr (hR H), rfl, by decide, _, rfl, ?_⟩
        have e1 : inV (V.str z) (labRow.map V.str) = false := by rw [inV_row, decide_eq_false hz]
        simp only [e1]
        exact iteT ⟨V.str z, rfl, by show (1 : Nat) ≤ 1000; decide, mk_left out⟩
      | non => exact iteT (iteT ⟨_, rfl, by show (1 : Nat) ≤ 1000; decide, mk_left out⟩)
      | bl b => exact iteT (iteT ⟨_, rfl, by show (1 : Nat) ≤ 1000; decide, mk_left out⟩)
      | int b => exact iteT (iteT ⟨_, rfl, by show (1 : Nat) ≤ 1000; decide, mk_left out⟩)
      | lst h1 h2 => exact iteT (iteT ⟨_, rfl, by show (1 : Nat) ≤ 1000; decide, mk_left out⟩)
      | tup h1 h2 => exact iteT (iteT ⟨_, rfl, by show (1 : Nat) ≤ 1000; decide, mk_left out⟩)
theorem ok_labEq {C f : Addr} {fd : FuncData} (F : Fun K "__eq__" "Label.__eq__" sLabEq f fd) (M : Blt mg) (T : LabC K mg C) : FnOk P w K mg base CX0 1 f fd ["self", "other"] (spLabEq K C) := by
  refine F.ok scLabEq (fun vs H Q E h => ?_) (fun cdv A outer s H vs Q E hr h => ?_)
  · obtain ⟨a, i, y, rfl, _⟩ := h
    rfl
  · obtain ⟨a, i, y, rfl, ⟨dx, fs, z, ea, hi, ha, na, _⟩, h⟩ := h
    refine ⟨_, pss_one (ps_ret (pe_and (pe_callB call_isi (by rfl) M.isinstance (by decide +kernel) (pa_cons (pv 1) (pa_cons (pe_glob (v := .ref C) (by rfl) T.gC rfl) pa_nil)))
      (pe_one (pe_cmpR op_eq (pe_fld (pv 0) (by rfl)) (pe_fld (pv 1) (by rfl)) (nomark _))))), ?_⟩
    rcases h with ⟨b, j, rfl, ⟨dy, gs, z2, eb, hj, hb, nb, _⟩, q⟩ | ⟨z2, rfl, q⟩
    · refine ⟨_, rfl, _, _, _, _, _, rfl, .own C, .base (.ins eb T.cl T.ca T.cg T.ct T.cm), T.me, _, rfl, iteT ?_⟩
      refine ⟨_, rfl, a, C, dx, fs, _, rfl, ea, T.cl, T.nh, ha, _, rfl, b, C, dy, gs, _, rfl, eb, T.cl, T.nh, hb, rfl, ?_⟩
      have e : decide (V.int (4 - (i : Int)) = V.int (4 - (j : Int))) = decide (i = j) := by
        by_cases h : i = j
        · subst h
          rw [decide_eq_true rfl, decide_eq_true rfl]
        · rw [decide_eq_false h, decide_eq_false (fun z => h (by have := V.int.inj z; omega))]
      rw [e]
      exact q
    · exact ⟨_, rfl, _, _, _, _, _, rfl, .own C, .base (.str z2), T.ot, _, rfl, iteF q⟩
theorem ok_labLt {C f : Addr} {fd : FuncData} (F : Fun K "__lt__" "Label.__lt__" sLabLt f fd) (M : Blt mg) (T : LabC K mg C) : FnOk P w K mg base CX0 1 f fd ["self", "other"] (spLabLt C) := by
  refine F.ok scLabLt (fun vs H Q E h => ?_) (fun cdv A outer s H vs Q E hr h => ?_)
  · obtain ⟨a, b, i, j, rfl, _⟩ := h
    rfl
  · obtain ⟨a, b, i, j, rfl, ⟨dx, fs, z, ea, hi, ha, na, _⟩, ⟨dy, gs, z2, eb, hj, hb, nb, _⟩, q⟩ := h
    refine ⟨_, pss_cons (ps_if (pt_not (pt_val (pe_callB call_isi (by rfl) M.isinstance (by decide +kernel) (pa_cons (pv 1) (pa_cons (pe_glob (v := .ref C) (by rfl) T.gC rfl) pa_nil))))) (pss_one ps_never) pss_nil)
      (pss_one (ps_ret (pe_cmpR op_lt (pe_fld (pv 0) (by rfl)) (pe_fld (pv 1) (by rfl)) (nomark _)))), ?_⟩
    refine ⟨_, rfl, _, _, _, _, _, rfl, .own C, .base (.ins eb T.cl T.ca T.cg T.ct T.cm), T.me, _, rfl, iteF ?_⟩
    refine ⟨_, rfl, a, C, dx, fs, _, rfl, ea, T.cl, T.nh, ha, _, rfl, b, C, dy, gs, _, rfl, eb, T.cl, T.nh, hb, _, _, rfl, rfl, ?_⟩
    have e : decide ((4 - (i : Int)) < 4 - (j : Int)) = decide (j < i) := by
      by_cases h : j < i
      · rw [decide_eq_true h, decide_eq_true (by omega)]
      · rw [decide_eq_false h, decide_eq_false (by omega)]
    rw [← e] at q
    exact q
theorem ok_labLe {C f : Addr} {fd : FuncData} (F : Fun K "__le__" "Label.__le__" sLabLe f fd) (M : Blt mg) (T : LabC K mg C) : FnOk P w K mg base CX0 1 f fd ["self", "other"] (spLabLe C) := by
  refine F.ok scLabLe (fun vs H Q E h => ?_) (fun cdv A outer s H vs Q E hr h => ?_)
  · obtain ⟨a, b, i, j, rfl, _⟩ := h
    rfl
  · obtain ⟨a, b, i, j, rfl, ⟨dx, fs, z, ea, hi, ha, na, _⟩, ⟨dy, gs, z2, eb, hj, hb, nb, _⟩, q⟩ := h
    refine ⟨_, pss_cons (ps_if (pt_not (pt_val (pe_callB call_isi (by rfl) M.isinstance (by decide +kernel) (pa_cons (pv 1) (pa_cons (pe_glob (v := .ref C) (by rfl) T.gC rfl) pa_nil))))) (pss_one ps_never) pss_nil)
      (pss_one (ps_ret (pe_cmpR op_le (pe_fld (pv 0) (by rfl)) (pe_fld (pv 1) (by rfl)) (nomark _)))), ?_⟩
    refine ⟨_, rfl, _, _, _, _, _, rfl, .own C, .base (.ins eb T.cl T.ca T.cg T.ct T.cm), T.me, _, rfl, iteF ?_⟩
    refine ⟨_, rfl, a, C, dx, fs, _, rfl, ea, T.cl, T.nh, ha, _, rfl, b, C, dy, gs, _, rfl, eb, T.cl, T.nh, hb, _, _, rfl, rfl, ?_⟩
    have e : decide ((4 - (i : Int)) ≤ 4 - (j : Int)) = decide (j ≤ i) := by
      by_cases h : j ≤ i
      · rw [decide_eq_true h, decide_eq_true (by omega)]
      · rw [decide_eq_false h, decide_eq_false (by omega)]
    rw [← e] at q
    exact q
/-- Label(name), the name number i, in a def that lets nothing out: a new label -/
theorem lab_made {H H1 : Hp} {C CB : Addr} {E : XK} {Q : VK} {i : Nat} {z : Str} (hi : labRow[i]? = some z) (s0 : Same H H1) (h : ∀ x H', H1 x = none → Same H H' → Same H1 H' → LabAt H' C x i → Q (.ref x) H') :
    ∀ x dx, H1 x = none → H1 dx = none → dx ≠ x → spLab K C CB [.ref x, .str z] (upd (upd H1 dx (.own x)) x (.ins C dx [])) (fun v H2 => v = .non ∧ Q (.ref x) H2) E := fun x dx nx nd ne => by
  refine ⟨x, dx, _, _, rfl, upd_same, .str z, .inl ⟨i, z, hi, rfl, fun fs f1 f2 f3 f4 => ⟨rfl, ?_⟩⟩⟩
  have s1 : Same H1 (upd (upd (upd H1 dx (.own x)) x (.ins C dx [])) x (.ins C dx fs)) := fun b o e => by
    rw [upd_ne (ne_of_none e nx), upd_ne (ne_of_none e nx), upd_ne (ne_of_none e nd)]
    exact e
  exact h x _ nx (s0.trans s1) s1 ⟨dx, fs, z, upd_same, hi, f1, f2, f3, f4⟩
/-- what is at hand of the class Label, its __init__ with its promise -/
structure LabM (P : Program) (w : World) (K : PySem.W.Frag) (mg : Str → Option Value) (base : Heap) (C CB f : Addr) (fd : FuncData) : Prop where
  make : Mk K C f
  ok : FnOk P w K mg base (L2.CX P w) 3 f fd ["self", "name"] (spLab K C CB)
  bi : Binds K fd ["self", "name"] []
  gC : mg "Label" = some (.ref C)
/-- the labels above the one number i, from the next one up: a new list -/
def Higher (H : Hp) (C : Addr) (i : Nat) (ys : List V) : Prop := ys.length = i ∧ ∀ k v, ys[k]? = some v → ∃ a, v = .ref a ∧ LabAt H C a (i - 1 - k)
def spHigh (K : PySem.W.Frag) (C : Addr) : Sp := fun vs H Q _ => ∃ (a : Addr) (i : Nat), vs = [.ref a] ∧ LabAt H C a i ∧ ∀ l ys H', Same H H' → H' l = some (.lst ys) → Higher H' C i ys → Q (.ref l) H'
theorem take_rev {i k : Nat} (hi : i ≤ 4) (hk : k < i) : ((labRow.map V.str).take i).reverse[k]? = (labRow[i - 1 - k]?).map V.str := by
  have len : (labRow.map V.str).length = 4 := rfl
  rw [List.getElem?_reverse (by rw [List.length_take, len]; omega), List.length_take, len, List.getElem?_take_of_lt (by omega), List.getElem?_map]
  congr 2
  omega
theorem cut_to (i : Nat) (hi : i < 4) : cutV (labRow.map V.str) none (some (i : Int)) = (labRow.map V.str).take i := by
  rcases (show i = 0 ∨ i = 1 ∨ i = 2 ∨ i = 3 by omega) with e | e | e | e <;> subst e <;> rfl
end
/-! ### to_label -/
abbrev sToLab : Stmt := topS 15
theorem scToLab : FnScope ["value"] ["value"] (defScope sToLab) := ⟨rfl, rfl, rfl, by decide +kernel, rfl, by decide +kernel, by decide +kernel⟩
/-- no datum is of the class C -/
def NoKit (K : PySem.W.Frag) (C : Addr) : Prop := ∀ d : PyData, PySem.W.kitOne K (.type (kind d)) (.ref C) = some false
def spToLab (K : PySem.W.Frag) (C CB : Addr) : Sp := fun vs H Q E => ∃ v, vs = [v] ∧
  ((∃ a i, v = .ref a ∧ LabAt H C a i ∧ ∀ H', Same H H' → Q v H') ∨
   (∃ i z, labRow[i]? = some z ∧ v = .str z ∧ ∀ x H', Same H H' → LabAt H' C x i → Q (.ref x) H') ∨
   (∃ d, Dp K H v d ∧ noLab d = true ∧ ∀ dd H', Left H dd "label" v H' → E (.ref CB) (some dd) H'))
theorem Left.back {H H1 H' : Hp} {d : Addr} {f : Str} {v : V} (h : Left H1 d f v H') (s : Same H H1) : Left H d f v H' := by
  obtain ⟨n, s2, e⟩ := h
  exact ⟨s.free n, s.trans s2, e⟩
theorem made_same {H : Hp} {x dx C : Addr} (nx : H x = none) (nd : H dx = none) : Same H (upd (upd H dx (.own x)) x (.ins C dx [])) := fun b o e => by
  rw [upd_ne (ne_of_none e nx), upd_ne (ne_of_none e nd)]
  exact e
section
variable {P : Program} {w : World} {K : PySem.W.Frag} {mg : Str → Option Value} {base : Heap}
theorem ok_toLab {C CB f fL : Addr} {fd fdL : FuncData} (F : Fun K "to_label" "to_label" sToLab f fd) (M : Blt mg) (T : LabC K mg C) (N : NoKit K C) (L : LabM P w K mg base C CB fL fdL) : FnOk P w K mg base (L2.CX P w) 5 f fd ["value"] (spToLab K C CB) := by
  refine F.okX scToLab (fun vs H Q E h => ?_) (fun cdv A outer s H vs Q E hr h => ?_)
  · obtain ⟨v, rfl, _⟩ := h
    rfl
  · obtain ⟨v, rfl, h⟩ := h
    refine ⟨_, pss_cons (ps_if (pt_val (pe_callB call_isi (by rfl) M.isinstance (by decide +kernel) (pa_cons (pv 0) (pa_cons (pe_glob (v := .ref C) (by rfl) T.gC rfl) pa_nil)))) (pss_one (ps_ret (pv 0))) pss_nil)
      (pss_one (ps_ret (pe_make (E := E) (dvs := []) L.make L.ok hr (by rfl) L.gC L.bi .nil (passes_call (takes_of rfl rfl rfl rfl) (fun _ _ _ _ h => h)) (pa_cons (pv 0) pa_nil)))), ?_⟩
    rcases h with ⟨a, i, rfl, la, q⟩ | ⟨i, z, hi, rfl, q⟩ | ⟨d, hv, hno, out⟩
    · obtain ⟨dx, fs, z, ea, _⟩ := id la
      exact ⟨_, rfl, _, _, _, _, _, rfl, .own C, .base (.ins ea T.cl T.ca T.cg T.ct T.cm), T.me, _, rfl, iteT ⟨_, rfl, q H (Same.refl H)⟩⟩
    · refine ⟨_, rfl, _, _, _, _, _, rfl, .own C, .base (.str z), T.ot, _, rfl, iteF ?_⟩
      exact ⟨_, rfl, lab_made hi (Same.refl H) fun x H' nx s1 _ lx => q x H' s1 lx⟩
    · refine ⟨_, rfl, _, _, _, _, _, rfl, .own C, dp_ty hv, N d, _, rfl, iteF ?_⟩
      refine ⟨v, rfl, fun x dx nx nd ne => ⟨x, dx, v, d, rfl, upd_same, dp_same (made_same nx nd) hv, .inr ⟨hno, fun dd H' l => out dd H' (l.back (made_same nx nd))⟩⟩⟩
end
/-! ### _are_writes -/
abbrev sAreW : Stmt := topS 31
theorem scAreW : FnScope ["value", "names", "entry"] ["value"] (defScope sAreW) := ⟨rfl, rfl, rfl, by decide +kernel, rfl, by decide +kernel, by decide +kernel⟩
def isSeq : PyData → Bool
  | .list _ => true
  | .tuple _ => true
  | _ => false
theorem kit_seq (K : PySem.W.Frag) (d : PyData) : PySem.W.kitAny K (.type (kind d)) [.type "list", .type "tuple"] = some (isSeq d) := by
  have hl : PySem.W.kitOne K (.type (kind d)) (.type "list") = some (match d with | .list _ => true | _ => false) := by
    cases d with
    | none => exact kit_ty (show kitB "NoneType" "list" = some false by decide +kernel)
    | bool _ => exact kit_ty (show kitB "bool" "list" = some false by decide +kernel)
    | int _ => exact kit_ty (show kitB "int" "list" = some false by decide +kernel)
    | str _ => exact kit_ty (show kitB "str" "list" = some false by decide +kernel)
    | list _ => exact kit_ty (show kitB "list" "list" = some true by decide +kernel)
    | tuple _ => exact kit_ty (show kitB "tuple" "list" = some false by decide +kernel)
    | dict _ => exact kit_ty (show kitB "dict" "list" = some false by decide +kernel)
  have ht := kit_tup K d
  cases d <;> simp [PySem.W.kitAny, hl, ht, isSeq, isTup]
/-- what is asked of one entry -/
def entryOk (seen : List Str) : PyData → Option Str
  | .tuple [.str z, _] => if isName (.str z) && !decide (z ∈ seen) then some z else none
  | _ => none
/-- the writes behind some whose names are seen -/
def writesGo : List Str → List PyData → Bool
  | _, [] => true
  | seen, d :: r => match entryOk seen d with
    | some z => writesGo (seen ++ [z]) r
    | none => false
def areWrites : PyData → Bool
  | .list ds => decide (ds.length ≤ 3) && writesGo [] ds
  | .tuple ds => decide (ds.length ≤ 3) && writesGo [] ds
  | _ => false
theorem inV_strs (z : Str) (seen : List Str) : inV (V.str z) (seen.map V.str) = decide (z ∈ seen) := by
  rw [Bool.eq_iff_iff]
  unfold inV
  rw [List.any_eq_true, decide_eq_true_eq]
  constructor
  · rintro ⟨y, hy, e⟩
    obtain ⟨w, hw, rfl⟩ := List.mem_map.mp hy
    have e' : (w == z) = true := e
    exact (beq_iff_eq.mp e') ▸ hw
  · intro h
    exact ⟨V.str z, List.mem_map.mpr ⟨z, h, rfl⟩, (beq_self_eq_true z : (z == z) = true)⟩
theorem flat_strs (seen : List Str) : (seen.map V.str).all flatV = true := by
  rw [List.all_map]
  exact List.all_eq_true.mpr fun _ _ => rfl
theorem szD_item {ds : List PyData} {i : Nat} {d : PyData} (h : szDs ds = true) (e : ds[i]? = some d) : szD d = true := by
  induction ds generalizing i with
  | nil => simp at e
  | cons c ds ih =>
    have h2 : (szD c && szDs ds) = true := by
      unfold szDs at h
      exact h
    rw [Bool.and_eq_true] at h2
    cases i with
    | zero =>
      cases e
      exact h2.1
    | succ i => exact ih h2.2 e
theorem szD_seqL {ds : List PyData} (h : szD (.list ds) = true) : szDs ds = true := by
  unfold szD at h
  exact (Bool.and_eq_true_iff.mp h).2
theorem szD_seqT {ds : List PyData} (h : szD (.tuple ds) = true) : szDs ds = true := by
  unfold szD at h
  exact (Bool.and_eq_true_iff.mp h).2
theorem iteS {c A B : Prop} [Decidable c] (hc : ¬ c) (h : A) : if (!decide c) = true then A else B := by
  rw [decide_eq_false hc]
  exact iteT h
/-- what is at hand of the module of functions -/
structure FunTxt (K : PySem.W.Frag) (mg : Str → Option Value) : Prop where
  most : ∃ t, mg "MOST_WRITES" = some (.int 3 t)
  cost : ∃ t, mg "GREATEST_COST" = some (.int 99 t)
section
variable {P : Program} {w : World} {K : PySem.W.Frag} {mg : Str → Option Value} {base : Heap}
theorem ok_areW {f fN : Addr} {fd dN : FuncData} (F : Fun K "_are_writes" "_are_writes" sAreW f fd) (M : Blt mg) (T : FunTxt K mg) (GN : FnOk P w K mg base CX0 1 fN dN ["value"] (spB K isName)) (kN : PySem.W.keepIn K (.ref fN) = true) (bN : Binds K dN ["value"] []) (gN : mg "is_name" = some (.ref fN)) :
    FnOk P w K mg base CX0 2 f fd ["value"] (spB K areWrites) := by
  obtain ⟨tm, gm⟩ := T.most
  refine F.ok scAreW (fun vs H Q E h => ?_) (fun cdv A outer s H vs Q E hr h => ?_)
  · obtain ⟨v, d, rfl, _⟩ := h
    rfl
  · obtain ⟨v, d, rfl, hv, hsz, q⟩ := h
    have no : ∀ e : isSeq d = false, areWrites d = false := fun e => by cases d <;> first | rfl | exact Bool.noConfusion e
    by_cases hq : isSeq d = true
    · cases d with
      | list ds =>
        cases hv with
        | @lst a xs _ hs ha =>
        have hv : Dp K H (.ref a) (.list ds) := .lst hs ha
        refine ⟨_, pss_cons (ps_if (PW.pt (pw_or (pt_not (pt_val (pe_callB call_isiT (by rfl) M.isinstance (by decide +kernel) (pa_cons (pv 0) (pa_cons (pe_tup (pa_cons (pe_bltn (v := .ty "list") (by rfl) M.list (by decide +kernel) rfl) (pa_cons (pe_bltn (v := .ty "tuple") (by rfl) M.tuple (by decide +kernel) rfl) pa_nil))) pa_nil)))))
          (pw_or1 (pt_cmpR op_gt (pe_callB call_len_seq (by rfl) M.len PySem.boot_len (pa_cons (pv 0) pa_nil)) (pe_glob (v := .int 3) (by rfl) gm ⟨_, rfl⟩) (nomark _))))) (pss_one (ps_ret pe_bl)) pss_nil)
        (pss_cons (ps_set (i := 1) scAreW.nd rfl (.inl rfl) (pe_lst pa_nil))
        (pss_cons (ps_for PassesOwn.never rfl (pi_list (pv 0)) (pg_name (i := 2) scAreW.nd rfl (.inl rfl))
          (pss_cons (ps_if (PW.pt (pw_or (pt_not (pt_val (pe_callB call_isi (by rfl) M.isinstance (by decide +kernel) (pa_cons (pv 2) (pa_cons (pe_bltn (v := .ty "tuple") (by rfl) M.tuple (by decide +kernel) rfl) pa_nil)))))
            (pw_or (pt_cmpR op_ne (pe_callB call_len_seq (by rfl) M.len PySem.boot_len (pa_cons (pv 2) pa_nil)) pe_int (nomark _))
            (pw_or1 (pt_not (pt_val (pe_call GN hr (by rfl) gN kN bN .nil pass0 (pa_cons (pe_ix ix_tup (pv 2) pe_int (fun _ _ => rfl)) pa_nil)))))))) (pss_one (ps_ret pe_bl)) pss_nil)
          (pss_cons (ps_if (pt_cmpR op_in_seq (pe_ix ix_tup (pv 2) pe_int (fun _ _ => rfl)) (pv 1) (by rfl)) (pss_one (ps_ret pe_bl)) pss_nil)
          (pss_one (ps_expr (pe_bm PySem.F.plainAttrs_list PySem.F.slot_list_append PySem.F.type_list_append mt_append (pv 1) (pa_cons (pe_ix ix_tup (pv 2) pe_int (fun _ _ => rfl)) pa_nil)))))))
        (pss_one (ps_ret pe_bl)))), ?_⟩
        refine ⟨.ref a, rfl, (by show 2 ≤ sizeLine; decide), fun tp np => ⟨.ref a, tp, [.ty "list", .ty "tuple"], _, [.type "list", .type "tuple"], _, rfl, upd_same, .cons (.ty "list") (.cons (.ty "tuple") .nil), dp_ty (dp_same (same_upd np) hv), kit_seq K _, _, rfl, ?_⟩⟩
        have s0 : Same H (upd H tp (HO.tup [.ty "list", .ty "tuple"])) := same_upd np
        refine iteF ⟨_, rfl, a, xs, rfl, .inl (s0.seq hs), _, _, rfl, rfl, _, rfl, ?_⟩
        have len := dpA_len ha
        have qf : ∀ H', Same H H' → areWrites (.list ds) = false → Q (.bl false) H' := fun H' s e => by
          have := q H' s
          rw [e] at this
          exact this
        refine ite2 (fun t => ?_) (fun t => ?_)
        · refine qf _ s0 ?_
          have : ¬ ds.length ≤ 3 := by
            have h4 := of_decide_eq_true t
            omega
          show (decide (ds.length ≤ 3) && writesGo [] ds) = false
          rw [decide_eq_false this]
          rfl
        · have h3 : ds.length ≤ 3 := by
            have : ¬ ((xs.length : Int) > 3) := fun h => t (decide_eq_true h)
            omega
          have qb : ∀ b H', Same H H' → writesGo [] ds = b → Q (.bl b) H' := fun b H' s e => by
            have := q H' s
            have e2 : areWrites (.list ds) = b := by
              show (decide (ds.length ≤ 3) && writesGo [] ds) = b
              rw [decide_eq_true h3, Bool.true_and, e]
            rw [e2] at this
            exact this
          refine ⟨(by show 0 ≤ sizeLine; decide), fun ln nn => ?_⟩
          have e1 := upd_same (H := upd H tp (HO.tup [V.ty "list", .ty "tuple"])) (a := ln) (o := HO.lst [])
          have nH : H ln = none := s0.free nn
          have s1 : Same H (upd (upd H tp (HO.tup [V.ty "list", .ty "tuple"])) ln (HO.lst [])) := s0.trans (same_upd nn)
          generalize upd (upd H tp (HO.tup [V.ty "list", .ty "tuple"])) ln (HO.lst []) = H1 at e1 s1 ⊢
          refine ⟨.ref a, rfl, a, rfl, ⟨_, s1.seq hs⟩, ?_⟩
          refine for_list (K := K) (a := a) (xs := xs) (fun k σ H' => ∃ (seen : List Str) (z2 : Option V), σ = [some (.ref a), some (.ref ln), z2] ∧ H' ln = some (.lst (seen.map V.str)) ∧ Same H H' ∧ writesGo [] ds = writesGo seen (ds.drop k) ∧ seen.length = k)
            ⟨[], none, rfl, e1, s1, rfl, rfl⟩ (fun k σ H' _ hW => ?_) (fun k x σ H2 hk hW => ?_) (fun σ H2 hW => ?_)
          · obtain ⟨_, _, _, _, s, _⟩ := hW
            exact s.seq hs
          · obtain ⟨seen, z2, rfl, e2, s2, eg, el⟩ := hW
            obtain ⟨d, hd, hx0⟩ := dpA_at ha hk
            have hx := dp_same s2 hx0
            have szd := szD_item (szD_seqL hsz) hd
            have hdr : ds.drop k = d :: ds.drop (k + 1) := List.drop_eq_getElem_cons (List.getElem?_eq_some_iff.mp hd).1 ▸ by rw [(List.getElem?_eq_some_iff.mp hd).2]
            have stop : entryOk seen d = none → ∀ H', Same H H' → Q (.bl false) H' := fun e H' s => qb _ H' s (by
              rw [eg, hdr]
              unfold writesGo
              rw [e])
            refine ⟨x, rfl, x, _, _, _, _, rfl, .ty "tuple", dp_ty hx, kit_tup K d, _, rfl, ?_⟩
            cases d with
            | tuple es =>
              cases hx with
              | @tup b ys _ hb hy =>
              have ylen := dpA_len hy
              refine iteF ⟨_, rfl, b, ys, rfl, .inr hb, rfl, _, rfl, ?_⟩
              by_cases h2 : es.length = 2
              · obtain ⟨d0, d1, rfl⟩ : ∃ d0 d1, es = [d0, d1] := by
                  match es, h2 with
                  | [d0, d1], _ => exact ⟨d0, d1, rfl⟩
                obtain ⟨y0, ey0, hy0⟩ := dpA_get (i := 0) (d := d0) hy rfl
                have at0 : atI ys 0 = some y0 := atI_nat (j := 0) ey0
                have sz0 : szD d0 = true := szD_item (i := 0) (szD_seqT szd) rfl
                refine iteNS (by rw [ylen]; rfl) ?_
                refine ⟨_, rfl, b, ys, 0, y0, rfl, rfl, hb, at0, ⟨y0, d0, rfl, hy0, sz0, fun H3 s3 => ⟨_, rfl, ?_⟩⟩⟩
                by_cases hn : isName d0 = true
                · obtain ⟨z, rfl⟩ : ∃ z, d0 = .str z := by
                    cases d0 <;> first | exact ⟨_, rfl⟩ | exact Bool.noConfusion hn
                  cases hy0
                  rw [hn]
                  refine iteF ?_
                  have e3 := s3 _ _ e2
                  refine ⟨_, rfl, b, ys, 0, _, rfl, rfl, same_sqT s3 hb, at0, .ref ln, rfl, ln, _, rfl, .inl (.inl (.inl e3)), rfl, flat_strs seen, _, rfl, ?_⟩
                  rw [inV_strs]
                  by_cases hz : z ∈ seen
                  · rw [decide_eq_true hz]
                    refine iteT (stop ?_ H3 (s2.trans s3))
                    show (if (isName (.str z) && !decide (z ∈ seen)) = true then some z else none) = none
                    rw [decide_eq_true hz, Bool.not_true, Bool.and_false]
                    rfl
                  · rw [decide_eq_false hz]
                    refine iteF ?_
                    refine ⟨.ref ln, rfl, .inl ⟨rfl, _, .inl (.inl e3)⟩, _, rfl, b, ys, 0, _, rfl, rfl, same_sqT s3 hb, at0, ln, _, _, rfl, rfl, e3, ?_, ?_⟩
                    · rw [List.length_map, el]
                      have := (List.getElem?_eq_some_iff.mp hk).1
                      exact Nat.lt_of_lt_of_le (Nat.lt_of_lt_of_le this (by rw [len]; exact h3)) (by decide)
                    · refine ⟨seen ++ [z], some (.ref b), rfl, ?_, fun c o e => ?_, ?_, ?_⟩
                      · rw [List.map_append]
                        exact upd_same
                      · rw [upd_ne (ne_of_none e nH)]
                        exact s3 _ _ (s2 _ _ e)
                      · rw [eg, hdr]
                        show (match entryOk seen (.tuple [.str z, d1]) with | some z => writesGo (seen ++ [z]) (ds.drop (k + 1)) | none => false) = _
                        have ee : entryOk seen (.tuple [.str z, d1]) = some z := by
                          show (if (isName (.str z) && !decide (z ∈ seen)) = true then some z else none) = some z
                          rw [hn, decide_eq_false hz]
                          rfl
                        rw [ee]
                      · rw [List.length_append, el]
                        rfl
                · have hn0 := eq_false_of_ne_true hn
                  rw [hn0]
                  refine iteT (stop ?_ H3 (s2.trans s3))
                  cases d0 with
                  | str z =>
                    show (if (isName (.str z) && !decide (z ∈ seen)) = true then some z else none) = none
                    rw [hn0]
                    rfl
                  | _ => rfl
              · refine iteS (by
                  rw [ylen]
                  intro e
                  exact h2 (by exact_mod_cast V.int.inj e)) ?_
                refine stop ?_ H2 s2
                match es, h2 with
                | [], _ => rfl
                | [_], _ => unfold entryOk; split <;> first | rfl | (next e => cases e)
                | [_, _], h => exact absurd rfl h
                | _ :: _ :: _ :: _, _ => unfold entryOk; split <;> first | rfl | (next e => cases e)
            | none => exact iteT (stop rfl H2 s2)
            | bool _ => exact iteT (stop rfl H2 s2)
            | int _ => exact iteT (stop rfl H2 s2)
            | str _ => exact iteT (stop rfl H2 s2)
            | list _ => exact iteT (stop rfl H2 s2)
            | dict _ => exact iteT (stop rfl H2 s2)
          · obtain ⟨seen, z2, rfl, e2, s2, eg, el⟩ := hW
            refine qb true H2 s2 ?_
            rw [eg, len, List.drop_length]
            unfold writesGo
            rfl
      | tuple ds =>
        cases hv with
        | @tup a xs _ hs ha =>
        have hv : Dp K H (.ref a) (.tuple ds) := .tup hs ha
        refine ⟨_, pss_cons (ps_if (PW.pt (pw_or (pt_not (pt_val (pe_callB call_isiT (by rfl) M.isinstance (by decide +kernel) (pa_cons (pv 0) (pa_cons (pe_tup (pa_cons (pe_bltn (v := .ty "list") (by rfl) M.list (by decide +kernel) rfl) (pa_cons (pe_bltn (v := .ty "tuple") (by rfl) M.tuple (by decide +kernel) rfl) pa_nil))) pa_nil)))))
          (pw_or1 (pt_cmpR op_gt (pe_callB call_len_seq (by rfl) M.len PySem.boot_len (pa_cons (pv 0) pa_nil)) (pe_glob (v := .int 3) (by rfl) gm ⟨_, rfl⟩) (nomark _))))) (pss_one (ps_ret pe_bl)) pss_nil)
        (pss_cons (ps_set (i := 1) scAreW.nd rfl (.inl rfl) (pe_lst pa_nil))
        (pss_cons (ps_for PassesOwn.never rfl (pi_tup (pv 0)) (pg_name (i := 2) scAreW.nd rfl (.inl rfl))
          (pss_cons (ps_if (PW.pt (pw_or (pt_not (pt_val (pe_callB call_isi (by rfl) M.isinstance (by decide +kernel) (pa_cons (pv 2) (pa_cons (pe_bltn (v := .ty "tuple") (by rfl) M.tuple (by decide +kernel) rfl) pa_nil)))))
            (pw_or (pt_cmpR op_ne (pe_callB call_len_seq (by rfl) M.len PySem.boot_len (pa_cons (pv 2) pa_nil)) pe_int (nomark _))
            (pw_or1 (pt_not (pt_val (pe_call GN hr (by rfl) gN kN bN .nil pass0 (pa_cons (pe_ix ix_tup (pv 2) pe_int (fun _ _ => rfl)) pa_nil)))))))) (pss_one (ps_ret pe_bl)) pss_nil)
          (pss_cons (ps_if (pt_cmpR op_in_seq (pe_ix ix_tup (pv 2) pe_int (fun _ _ => rfl)) (pv 1) (by rfl)) (pss_one (ps_ret pe_bl)) pss_nil)
          (pss_one (ps_expr (pe_bm PySem.F.plainAttrs_list PySem.F.slot_list_append PySem.F.type_list_append mt_append (pv 1) (pa_cons (pe_ix ix_tup (pv 2) pe_int (fun _ _ => rfl)) pa_nil)))))))
        (pss_one (ps_ret pe_bl)))), ?_⟩
        refine ⟨.ref a, rfl, (by show 2 ≤ sizeLine; decide), fun tp np => ⟨.ref a, tp, [.ty "list", .ty "tuple"], _, [.type "list", .type "tuple"], _, rfl, upd_same, .cons (.ty "list") (.cons (.ty "tuple") .nil), dp_ty (dp_same (same_upd np) hv), kit_seq K _, _, rfl, ?_⟩⟩
        have s0 : Same H (upd H tp (HO.tup [.ty "list", .ty "tuple"])) := same_upd np
        refine iteF ⟨_, rfl, a, xs, rfl, .inr (same_sqT s0 hs), _, _, rfl, rfl, _, rfl, ?_⟩
        have len := dpA_len ha
        have qf : ∀ H', Same H H' → areWrites (.tuple ds) = false → Q (.bl false) H' := fun H' s e => by
          have := q H' s
          rw [e] at this
          exact this
        refine ite2 (fun t => ?_) (fun t => ?_)
        · refine qf _ s0 ?_
          have : ¬ ds.length ≤ 3 := by
            have h4 := of_decide_eq_true t
            omega
          show (decide (ds.length ≤ 3) && writesGo [] ds) = false
          rw [decide_eq_false this]
          rfl
        · have h3 : ds.length ≤ 3 := by
            have : ¬ ((xs.length : Int) > 3) := fun h => t (decide_eq_true h)
            omega
          have qb : ∀ b H', Same H H' → writesGo [] ds = b → Q (.bl b) H' := fun b H' s e => by
            have := q H' s
            have e2 : areWrites (.tuple ds) = b := by
              show (decide (ds.length ≤ 3) && writesGo [] ds) = b
              rw [decide_eq_true h3, Bool.true_and, e]
            rw [e2] at this
            exact this
          refine ⟨(by show 0 ≤ sizeLine; decide), fun ln nn => ?_⟩
          have e1 := upd_same (H := upd H tp (HO.tup [V.ty "list", .ty "tuple"])) (a := ln) (o := HO.lst [])
          have nH : H ln = none := s0.free nn
          have s1 : Same H (upd (upd H tp (HO.tup [V.ty "list", .ty "tuple"])) ln (HO.lst [])) := s0.trans (same_upd nn)
          generalize upd (upd H tp (HO.tup [V.ty "list", .ty "tuple"])) ln (HO.lst []) = H1 at e1 s1 ⊢
          refine ⟨.ref a, rfl, a, rfl, ⟨_, same_sqT s1 hs⟩, ?_⟩
          refine for_tup (K := K) (a := a) (xs := xs) (fun k σ H' => ∃ (seen : List Str) (z2 : Option V), σ = [some (.ref a), some (.ref ln), z2] ∧ H' ln = some (.lst (seen.map V.str)) ∧ Same H H' ∧ writesGo [] ds = writesGo seen (ds.drop k) ∧ seen.length = k)
            ⟨[], none, rfl, e1, s1, rfl, rfl⟩ (fun k σ H' _ hW => ?_) (fun k x σ H2 hk hW => ?_) (fun σ H2 hW => ?_)
          · obtain ⟨_, _, _, _, s, _⟩ := hW
            exact same_sqT s hs
          · obtain ⟨seen, z2, rfl, e2, s2, eg, el⟩ := hW
            obtain ⟨d, hd, hx0⟩ := dpA_at ha hk
            have hx := dp_same s2 hx0
            have szd := szD_item (szD_seqT hsz) hd
            have hdr : ds.drop k = d :: ds.drop (k + 1) := List.drop_eq_getElem_cons (List.getElem?_eq_some_iff.mp hd).1 ▸ by rw [(List.getElem?_eq_some_iff.mp hd).2]
            have stop : entryOk seen d = none → ∀ H', Same H H' → Q (.bl false) H' := fun e H' s => qb _ H' s (by
              rw [eg, hdr]
              unfold writesGo
              rw [e])
            refine ⟨x, rfl, x, _, _, _, _, rfl, .ty "tuple", dp_ty hx, kit_tup K d, _, rfl, ?_⟩
            cases d with
            | tuple es =>
              cases hx with
              | @tup b ys _ hb hy =>
              have ylen := dpA_len hy
              refine iteF ⟨_, rfl, b, ys, rfl, .inr hb, rfl, _, rfl, ?_⟩
              by_cases h2 : es.length = 2
              · obtain ⟨d0, d1, rfl⟩ : ∃ d0 d1, es = [d0, d1] := by
                  match es, h2 with
                  | [d0, d1], _ => exact ⟨d0, d1, rfl⟩
                obtain ⟨y0, ey0, hy0⟩ := dpA_get (i := 0) (d := d0) hy rfl
                have at0 : atI ys 0 = some y0 := atI_nat (j := 0) ey0
                have sz0 : szD d0 = true := szD_item (i := 0) (szD_seqT szd) rfl
                refine iteNS (by rw [ylen]; rfl) ?_
                refine ⟨_, rfl, b, ys, 0, y0, rfl, rfl, hb, at0, ⟨y0, d0, rfl, hy0, sz0, fun H3 s3 => ⟨_, rfl, ?_⟩⟩⟩
                by_cases hn : isName d0 = true
                · obtain ⟨z, rfl⟩ : ∃ z, d0 = .str z := by
                    cases d0 <;> first | exact ⟨_, rfl⟩ | exact Bool.noConfusion hn
                  cases hy0
                  rw [hn]
                  refine iteF ?_
                  have e3 := s3 _ _ e2
                  refine ⟨_, rfl, b, ys, 0, _, rfl, rfl, same_sqT s3 hb, at0, .ref ln, rfl, ln, _, rfl, .inl (.inl (.inl e3)), rfl, flat_strs seen, _, rfl, ?_⟩
                  rw [inV_strs]
                  by_cases hz : z ∈ seen
                  · rw [decide_eq_true hz]
                    refine iteT (stop ?_ H3 (s2.trans s3))
                    show (if (isName (.str z) && !decide (z ∈ seen)) = true then some z else none) = none
                    rw [decide_eq_true hz, Bool.not_true, Bool.and_false]
                    rfl
                  · rw [decide_eq_false hz]
                    refine iteF ?_
                    refine ⟨.ref ln, rfl, .inl ⟨rfl, _, .inl (.inl e3)⟩, _, rfl, b, ys, 0, _, rfl, rfl, same_sqT s3 hb, at0, ln, _, _, rfl, rfl, e3, ?_, ?_⟩
                    · rw [List.length_map, el]
                      have := (List.getElem?_eq_some_iff.mp hk).1
                      exact Nat.lt_of_lt_of_le (Nat.lt_of_lt_of_le this (by rw [len]; exact h3)) (by decide)
                    · refine ⟨seen ++ [z], some (.ref b), rfl, ?_, fun c o e => ?_, ?_, ?_⟩
                      · rw [List.map_append]
                        exact upd_same
                      · rw [upd_ne (ne_of_none e nH)]
                        exact s3 _ _ (s2 _ _ e)
                      · rw [eg, hdr]
                        show (match entryOk seen (.tuple [.str z, d1]) with | some z => writesGo (seen ++ [z]) (ds.drop (k + 1)) | none => false) = _
                        have ee : entryOk seen (.tuple [.str z, d1]) = some z := by
                          show (if (isName (.str z) && !decide (z ∈ seen)) = true then some z else none) = some z
                          rw [hn, decide_eq_false hz]
                          rfl
                        rw [ee]
                      · rw [List.length_append, el]
                        rfl
                · have hn0 := eq_false_of_ne_true hn
                  rw [hn0]
                  refine iteT (stop ?_ H3 (s2.trans s3))
                  cases d0 with
                  | str z =>
                    show (if (isName (.str z) && !decide (z ∈ seen)) = true then some z else none) = none
                    rw [hn0]
                    rfl
                  | _ => rfl
              · refine iteS (by
                  rw [ylen]
                  intro e
                  exact h2 (by exact_mod_cast V.int.inj e)) ?_
                refine stop ?_ H2 s2
                match es, h2 with
                | [], _ => rfl
                | [_], _ => unfold entryOk; split <;> first | rfl | (next e => cases e)
                | [_, _], h => exact absurd rfl h
                | _ :: _ :: _ :: _, _ => unfold entryOk; split <;> first | rfl | (next e => cases e)
            | none => exact iteT (stop rfl H2 s2)
            | bool _ => exact iteT (stop rfl H2 s2)
            | int _ => exact iteT (stop rfl H2 s2)
            | str _ => exact iteT (stop rfl H2 s2)
            | list _ => exact iteT (stop rfl H2 s2)
            | dict _ => exact iteT (stop rfl H2 s2)
          · obtain ⟨seen, z2, rfl, e2, s2, eg, el⟩ := hW
            refine qb true H2 s2 ?_
            rw [eg, len, List.drop_length]
            unfold writesGo
            rfl
      | _ => exact Bool.noConfusion hq
    · have hq0 := eq_false_of_ne_true hq
      refine ⟨_, pss_cons (ps_if (PW.pt (pw_or (pt_not (pt_val (pe_callB call_isiT (by rfl) M.isinstance (by decide +kernel) (pa_cons (pv 0) (pa_cons (pe_tup (pa_cons (pe_bltn (v := .ty "list") (by rfl) M.list (by decide +kernel) rfl) (pa_cons (pe_bltn (v := .ty "tuple") (by rfl) M.tuple (by decide +kernel) rfl) pa_nil))) pa_nil)))))
          (pw_or1 (pt_cmpR op_gt (pe_callB call_len_seq (by rfl) M.len PySem.boot_len (pa_cons (pv 0) pa_nil)) (pe_glob (v := .int 3) (by rfl) gm ⟨_, rfl⟩) (nomark _))))) (pss_one (ps_ret pe_bl)) pss_nil)
        (pss_cons (ps_set (i := 1) scAreW.nd rfl (.inl rfl) (pe_lst pa_nil))
        (pss_cons (ps_for PassesOwn.never rfl (pi_list (pv 0)) (pg_name (i := 2) scAreW.nd rfl (.inl rfl))
          (pss_cons (ps_if (PW.pt (pw_or (pt_not (pt_val (pe_callB call_isi (by rfl) M.isinstance (by decide +kernel) (pa_cons (pv 2) (pa_cons (pe_bltn (v := .ty "tuple") (by rfl) M.tuple (by decide +kernel) rfl) pa_nil)))))
            (pw_or (pt_cmpR op_ne (pe_callB call_len_seq (by rfl) M.len PySem.boot_len (pa_cons (pv 2) pa_nil)) pe_int (nomark _))
            (pw_or1 (pt_not (pt_val (pe_call GN hr (by rfl) gN kN bN .nil pass0 (pa_cons (pe_ix ix_tup (pv 2) pe_int (fun _ _ => rfl)) pa_nil)))))))) (pss_one (ps_ret pe_bl)) pss_nil)
          (pss_cons (ps_if (pt_cmpR op_in_seq (pe_ix ix_tup (pv 2) pe_int (fun _ _ => rfl)) (pv 1) (by rfl)) (pss_one (ps_ret pe_bl)) pss_nil)
          (pss_one (ps_expr (pe_bm PySem.F.plainAttrs_list PySem.F.slot_list_append PySem.F.type_list_append mt_append (pv 1) (pa_cons (pe_ix ix_tup (pv 2) pe_int (fun _ _ => rfl)) pa_nil)))))))
        (pss_one (ps_ret pe_bl)))), ?_⟩
      refine ⟨v, rfl, (by show 2 ≤ sizeLine; decide), fun tp np => ⟨v, tp, [.ty "list", .ty "tuple"], _, [.type "list", .type "tuple"], _, rfl, upd_same, .cons (.ty "list") (.cons (.ty "tuple") .nil), dp_ty (dp_same (same_upd np) hv), kit_seq K _, _, rfl, ?_⟩⟩
      rw [hq0]
      refine iteT ?_
      have e := no hq0
      have q1 := q _ (same_upd (o := HO.tup [.ty "list", .ty "tuple"]) np)
      rw [e] at q1
      exact q1
end
/-! ### Function.__init__ -/
abbrev sFun : Stmt := inClass (topS 30) 0
theorem scFun : FnScope ["self", "name", "arguments", "result", "label", "writes", "cost", "kept_label", "_", "term"] ["self", "name", "arguments", "result", "label", "writes", "cost"] (defScope sFun) := ⟨rfl, rfl, rfl, by decide +kernel, rfl, by decide +kernel, by decide +kernel⟩
/-- what a Function is refused for -/
inductive FErr where
  | part (z : Str)
  | label (d : PyData)
  | term (d : PyData)
def countOk (m : Int) : PyData → Bool
  | .int i => decide (0 ≤ i) && decide (i ≤ m)
  | _ => false
/-- the first term of writes that is none -/
def badTerm (n : Int) : List PyData → Option PyData
  | [] => none
  | .tuple [_, t] :: r => if isTerm n t then badTerm n r else some t
  | _ :: r => badTerm n r
def entries : PyData → List PyData
  | .list ds => ds
  | .tuple ds => ds
  | _ => []
def numOf : PyData → Int
  | .int i => i
  | _ => 0
/-- lab: none for a Label, else the datum that is there -/
def funOut (dn da dr : PyData) (lab : Option PyData) (dw dc : PyData) : Option FErr :=
  if !isName dn then some (.part "name") else
  if !countOk 2 da then some (.part "arguments") else
  match lab.filter noLab with
  | some d => some (.label d)
  | none =>
    if !isTerm (numOf da) dr then some (.term dr) else
    if !areWrites dw then some (.part "writes") else
    match badTerm (numOf da) (entries dw) with
    | some t => some (.term t)
    | none => if !countOk 99 dc then some (.part "cost") else none
theorem lab_of {d : PyData} (h : noLab d = false) : ∃ (i : Nat) (z : Str), labRow[i]? = some z ∧ d = .str z := by
  cases d with
  | str z =>
    have hz : z ∈ labRow := by
      by_cases e : z ∈ labRow
      · exact e
      · have : noLab (.str z) = true := decide_eq_true e
        rw [this] at h
        cases h
    obtain ⟨i, hi⟩ := List.getElem?_of_mem hz
    exact ⟨i, z, hi, rfl⟩
  | _ => cases h
theorem writes_of : ∀ {d : PyData}, areWrites d = true → writesGo [] (entries d) = true
  | .list ds, h => (Bool.and_eq_true_iff.mp h).2
  | .tuple ds, h => (Bool.and_eq_true_iff.mp h).2
theorem writes_at : ∀ {ds : List PyData} {seen : List Str} {k : Nat} {d : PyData}, writesGo seen ds = true → ds[k]? = some d → ∃ z t, d = .tuple [.str z, t]
  | [], _, _, _, _, e => by simp at e
  | c :: r, seen, k, d, h, e => by
    unfold writesGo at h
    cases ee : entryOk seen c with
    | none =>
      rw [ee] at h
      cases h
    | some z =>
      rw [ee] at h
      cases k with
      | zero =>
        cases e
        unfold entryOk at ee
        split at ee
        · exact ⟨_, _, rfl⟩
        · cases ee
      | succ k => exact writes_at (seen := seen ++ [z]) h e
theorem dp_pair {K : PySem.W.Frag} {H : Hp} {ys : List V} {c d : PyData} (h : DpAll K H ys [c, d]) : ∃ y0 y1, ys = [y0, y1] ∧ Dp K H y0 c ∧ Dp K H y1 d := by
  cases h with
  | cons h1 r =>
    cases r with
    | cons h2 r =>
      cases r
      exact ⟨_, _, rfl, h1, h2⟩
theorem ins_ne {H : Hp} {a b : Addr} {C dx : Addr} {fs : List (Str × V)} {o : HO} (ea : H a = some (.ins C dx fs)) (e : H b = some o) (no : ∀ C dx fs, o ≠ .ins C dx fs) : b ≠ a := fun z => by
  rw [z, ea] at e
  exact no _ _ _ (Option.some.inj e).symm
theorem sqT_aside {K : PySem.W.Frag} {H H' : Hp} {a C dx : Addr} {fs : List (Str × V)} (ea : H a = some (.ins C dx fs)) (hb : ∀ b o, H b = some o → b ≠ a → H' b = some o) {p : Addr} {xs : List V} (h : SqT K H p xs) : SqT K H' p xs := by
  rcases h with (h | ⟨o, h⟩) | h
  · exact .inl (.inl (hb _ _ h (ins_ne ea h fun _ _ _ z => by cases z)))
  · exact .inl (.inr ⟨o, hb _ _ h (ins_ne ea h fun _ _ _ z => by cases z)⟩)
  · exact .inr h
theorem sqL_aside {K : PySem.W.Frag} {H H' : Hp} {a C dx : Addr} {fs : List (Str × V)} (ea : H a = some (.ins C dx fs)) (hb : ∀ b o, H b = some o → b ≠ a → H' b = some o) {p : Addr} {xs : List V} (h : SqL K H p xs) : SqL K H' p xs := by
  rcases h with (h | ⟨o, h⟩) | h
  · exact .inl (.inl (hb _ _ h (ins_ne ea h fun _ _ _ z => by cases z)))
  · exact .inl (.inr ⟨o, hb _ _ h (ins_ne ea h fun _ _ _ z => by cases z)⟩)
  · exact .inr h
theorem dpA_aside {K : PySem.W.Frag} {H H' : Hp} {a C dx : Addr} {fs : List (Str × V)} (ea : H a = some (.ins C dx fs)) (hb : ∀ b o, H b = some o → b ≠ a → H' b = some o) {ds : List PyData} {vs : List V} (h : DpAll K H vs ds) : DpAll K H' vs ds := dpAll_mono (fun _ _ => sqT_aside ea hb) (fun _ _ => sqL_aside ea hb) ds vs h
theorem lab_aside {H H' : Hp} {a C dx : Addr} (ea : H a = some (.ins C dx [])) (hb : ∀ b o, H b = some o → b ≠ a → H' b = some o) {CL x : Addr} {i : Nat} (h : LabAt H CL x i) : LabAt H' CL x i := by
  obtain ⟨dx2, fs, z, e, r1, r2, r3⟩ := h
  refine ⟨dx2, fs, z, hb _ _ e fun q => ?_, r1, r2, r3⟩
  rw [q, ea] at e
  cases e
  cases r2
/-- what is there for a label: an instance with its number, or a datum -/
def LabIn (K : PySem.W.Frag) (H : Hp) (CL : Addr) (v : V) (lab : Option PyData) : Prop := (∃ a i, v = .ref a ∧ lab = none ∧ LabAt H CL a i) ∨ ∃ d, lab = some d ∧ Dp K H v d
/-- the number of the label that such an argument stands for -/
def LabNo (H : Hp) (CL : Addr) (vl : V) (lab : Option PyData) (i : Nat) : Prop := (∃ a, vl = .ref a ∧ lab = none ∧ LabAt H CL a i) ∨ ∃ z, lab = some (.str z) ∧ labRow[i]? = some z
/-- the fields of a Function -/
structure FunAt (K : PySem.W.Frag) (H : Hp) (CF CL : Addr) (dx : Addr) (fs : List (Str × V)) (vn va vr vc : V) (dw : PyData) (no : Nat → Prop) : Prop where
  name : fs.lookup ("name" : Str) = some vn
  args : fs.lookup ("arguments" : Str) = some va
  res : fs.lookup ("result" : Str) = some vr
  cost : fs.lookup ("cost" : Str) = some vc
  lab : ∃ a i, fs.lookup ("label" : Str) = some (.ref a) ∧ LabAt H CL a i ∧ no i
  wr : ∃ b, fs.lookup ("writes" : Str) = some (.ref b) ∧ Dp K H (.ref b) (.tuple (entries dw))
  no1 : fs.lookup ("labelled" : Str) = none
  no2 : fs.lookup ("changed" : Str) = none
  no3 : fs.lookup ("parts" : Str) = none
/-- what is wanted of a Function made, by what it is refused for -/
def FWish (K : PySem.W.Frag) (H : Hp) (CB CP CT : Addr) (vl : V) (E : XK) (ok : Prop) : Option FErr → Prop
  | some (.part z) => ∀ dd H', Left H dd "part" (.str z) H' → E (.ref CP) (some dd) H'
  | some (.label _) => ∀ dd H', Left H dd "label" vl H' → E (.ref CB) (some dd) H'
  | some (.term d) => ∀ v dd H', Dp K H' v d → Left H dd "term" v H' → E (.ref CT) (some dd) H'
  | none => ok
theorem FWish.map {K : PySem.W.Frag} {H H1 : Hp} {CB CP CT : Addr} {vl : V} {E : XK} {ok ok' : Prop} (s : Same H H1) (h : ok → ok') : ∀ {r : Option FErr}, FWish K H CB CP CT vl E ok r → FWish K H1 CB CP CT vl E ok' r
  | some (.part _), o => fun dd H' l => o dd H' (l.back s)
  | some (.label _), o => fun dd H' l => o dd H' (l.back s)
  | some (.term _), o => fun v dd H' hv l => o v dd H' hv (l.back s)
  | none, o => h o
def spFun (K : PySem.W.Frag) (CF CL CB CP CT : Addr) : Sp := fun vs H Q E => ∃ (a dx : Addr) (vn va vr vl vw vc : V) (dn da dr dw dc : PyData) (lab : Option PyData), vs = [.ref a, vn, va, vr, vl, vw, vc] ∧ H a = some (.ins CF dx []) ∧
  Dp K H vn dn ∧ Dp K H va da ∧ Dp K H vr dr ∧ Dp K H vw dw ∧ Dp K H vc dc ∧ LabIn K H CL vl lab ∧ szD dn = true ∧ szD da = true ∧ szD dr = true ∧ szD dw = true ∧ szD dc = true ∧
  FWish K H CB CP CT vl E (∀ fs H', (∀ b o, H b = some o → b ≠ a → H' b = some o) → H' a = some (.ins CF dx fs) → FunAt K H' CF CL dx fs vn va vr vc dw (LabNo H CL vl lab) → Q .non H') (funOut dn da dr lab dw dc)
structure FunC (P : Program) (w : World) (K : PySem.W.Frag) (mg : Str → Option Value) (base : Heap) (CF CL CB CP CT fN fW fL fT fA fP fE : Addr) (dN dW dL dT dA dP dE : FuncData) : Prop where
  GN : FnOk P w K mg base CX0 1 fN dN ["value"] (spB K isName)
  kN : PySem.W.keepIn K (.ref fN) = true
  bN : Binds K dN ["value"] []
  gN : mg "is_name" = some (.ref fN)
  GW : FnOk P w K mg base CX0 1 fW dW ["value"] (spB K isWhole)
  kW : PySem.W.keepIn K (.ref fW) = true
  bW : Binds K dW ["value"] []
  gW : mg "is_whole" = some (.ref fW)
  GL : FnOk P w K mg base (L2.CX P w) 5 fL dL ["value"] (spToLab K CL CB)
  kL : PySem.W.keepIn K (.ref fL) = true
  bL : Binds K dL ["value"] []
  gL : mg "to_label" = some (.ref fL)
  GT : FnOk P w K mg base CX0 5 fT dT ["value", "arguments"] (spBn K isTerm)
  kT : PySem.W.keepIn K (.ref fT) = true
  bT : Binds K dT ["value", "arguments"] []
  gT : mg "is_term" = some (.ref fT)
  GA : FnOk P w K mg base CX0 2 fA dA ["value"] (spB K areWrites)
  kA : PySem.W.keepIn K (.ref fA) = true
  bA : Binds K dA ["value"] []
  gA : mg "_are_writes" = some (.ref fA)
  TP : ErrT K mg "BadPart" "part" CP fP
  GP : FnOk P w K mg base CX0 1 fP dP ["self", "part"] (spErr CP "part")
  bP : Binds K dP ["self", "part"] []
  TE : ErrT K mg "BadTerm" "term" CT fE
  GE : FnOk P w K mg base CX0 1 fE dE ["self", "term"] (spErr CT "term")
  bE : Binds K dE ["self", "term"] []
  most : ∃ t, mg "MOST_ARGUMENTS" = some (.int 2 t)
  cl : Cls K CF
  n1 : NoAttr K CF "name"
  n2 : NoAttr K CF "arguments"
  n3 : NoAttr K CF "result"
  n4 : NoAttr K CF "label"
  n5 : NoAttr K CF "writes"
  n6 : NoAttr K CF "cost"
section
variable {P : Program} {w : World} {K : PySem.W.Frag} {mg : Str → Option Value} {base : Heap}
theorem ok_fun {CF CL CB CP CT f fN fW fL fT fA fP fE : Addr} {fd dN dW dL dT dA dP dE : FuncData} (F : Fun K "__init__" "Function.__init__" sFun f fd) (M : Blt mg) (T : FunTxt K mg) (C : FunC P w K mg base CF CL CB CP CT fN fW fL fT fA fP fE dN dW dL dT dA dP dE) :
    FnOk P w K mg base (L2.CX P w) 6 f fd ["self", "name", "arguments", "result", "label", "writes", "cost"] (spFun K CF CL CB CP CT) := by
  obtain ⟨tm, gm⟩ := C.most
  obtain ⟨tc, gc⟩ := T.cost
  refine F.okX scFun (fun vs H Q E h => ?_) (fun cdv A outer s H vs Q E hr h => ?_)
  · obtain ⟨a, dx, vn, va, vr, vl, vw, vc, dn, da, dr, dw, dc, lab, rfl, _⟩ := h
    rfl
  · obtain ⟨a, dx, vn, va, vr, vl, vw, vc, dn, da, dr, dw, dc, lab, rfl, ea, hn, ha, hre, hw, hc, hl, zn, za, zr, zw, zc, out⟩ := h
    have hr1 : Room 1 (A.deeper (envOfC "Function.__init__" (defScope sFun) s.heap.objs.size f cdv)) := hr.mono (by decide)
    have hr2 : Room 2 (A.deeper (envOfC "Function.__init__" (defScope sFun) s.heap.objs.size f cdv)) := hr.mono (by decide)
    by_cases hq : isTup dw = true
    · refine ⟨_, pss_cons (ps_if (pt_not (pt_val (pe_call C.GN hr1 (by rfl) C.gN C.kN C.bN .nil pass0 (pa_cons (pv 1) pa_nil)))) (pss_one (ps_raise rfl (takes_of rfl rfl rfl rfl) (pmk_oex (k := 1) (ps := ["self", "part"]) (sp := spErr CP "part") (ds := []) (dvs := []) C.TP.oex C.TP.ini C.TP.typ C.GP hr2 C.bP .nil pass0 (by rfl) C.TP.nam (pa_cons pe_str pa_nil)))) pss_nil)
        (pss_cons (ps_if (PW.pt (pw_or (pt_not (pt_val (pe_call C.GW hr1 (by rfl) C.gW C.kW C.bW .nil pass0 (pa_cons (pv 2) pa_nil)))) (pw_or1 (pt_not (pt_chain op_le op_le pe_int (pv 2) (pe_glob (v := .int 2) (by rfl) gm ⟨_, rfl⟩)))))) (pss_one (ps_raise rfl (takes_of rfl rfl rfl rfl) (pmk_oex (k := 1) (ps := ["self", "part"]) (sp := spErr CP "part") (ds := []) (dvs := []) C.TP.oex C.TP.ini C.TP.typ C.GP hr2 C.bP .nil pass0 (by rfl) C.TP.nam (pa_cons pe_str pa_nil)))) pss_nil)
        (pss_cons (ps_set (i := 7) scFun.nd rfl (.inl rfl) (pe_call (E := E) C.GL hr (by rfl) C.gL C.kL C.bL .nil (passes_call (takes_of rfl rfl rfl rfl) (fun _ _ _ _ h => h)) (pa_cons (pv 4) pa_nil)))
        (pss_cons (ps_if (pt_not (pt_val (pe_call C.GT hr (by rfl) C.gT C.kT C.bT .nil pass0 (pa_cons (pv 3) (pa_cons (pv 2) pa_nil))))) (pss_one (ps_raise rfl (takes_of rfl rfl rfl rfl) (pmk_oex (k := 1) (ps := ["self", "term"]) (sp := spErr CT "term") (ds := []) (dvs := []) C.TE.oex C.TE.ini C.TE.typ C.GE hr2 C.bE .nil pass0 (by rfl) C.TE.nam (pa_cons (pv 3) pa_nil)))) pss_nil)
        (pss_cons (ps_if (pt_not (pt_val (pe_call C.GA hr2 (by rfl) C.gA C.kA C.bA .nil pass0 (pa_cons (pv 5) pa_nil)))) (pss_one (ps_raise rfl (takes_of rfl rfl rfl rfl) (pmk_oex (k := 1) (ps := ["self", "part"]) (sp := spErr CP "part") (ds := []) (dvs := []) C.TP.oex C.TP.ini C.TP.typ C.GP hr2 C.bP .nil pass0 (by rfl) C.TP.nam (pa_cons pe_str pa_nil)))) pss_nil)
        (pss_cons (ps_for (passes_of rfl) rfl (pi_tup (pv 5)) (pg_tup (by rfl) (pgs_cons (pg_name (i := 8) scFun.nd rfl (.inl rfl)) (pgs_cons (pg_name (i := 9) scFun.nd rfl (.inl rfl)) pgs_nil)))
          (pss_one (ps_if (pt_not (pt_val (pe_call C.GT hr (by rfl) C.gT C.kT C.bT .nil pass0 (pa_cons (pv 9) (pa_cons (pv 2) pa_nil))))) (pss_one (ps_raise rfl (takes_of rfl rfl rfl rfl) (pmk_oex (k := 1) (ps := ["self", "term"]) (sp := spErr CT "term") (ds := []) (dvs := []) C.TE.oex C.TE.ini C.TE.typ C.GE hr2 C.bE .nil pass0 (by rfl) C.TE.nam (pa_cons (pv 9) pa_nil)))) pss_nil)))
        (pss_cons (ps_if (PW.pt (pw_or (pt_not (pt_val (pe_call C.GW hr1 (by rfl) C.gW C.kW C.bW .nil pass0 (pa_cons (pv 6) pa_nil)))) (pw_or1 (pt_not (pt_chain op_le op_le pe_int (pv 6) (pe_glob (v := .int 99) (by rfl) gc ⟨_, rfl⟩)))))) (pss_one (ps_raise rfl (takes_of rfl rfl rfl rfl) (pmk_oex (k := 1) (ps := ["self", "part"]) (sp := spErr CP "part") (ds := []) (dvs := []) C.TP.oex C.TP.ini C.TP.typ C.GP hr2 C.bP .nil pass0 (by rfl) C.TP.nam (pa_cons pe_str pa_nil)))) pss_nil)
        (pss_cons (ps_fld (pv 0) (pv 1) (by rfl)) (pss_cons (ps_fld (pv 0) (pv 2) (by rfl)) (pss_cons (ps_fld (pv 0) (pv 3) (by rfl)) (pss_cons (ps_fld (pv 0) (pv 7) (by rfl))
        (pss_cons (ps_fld (pv 0) (pe_callTy call_tuple_of (by rfl) M.tuple (by decide +kernel) (pa_cons (pv 5) pa_nil)) (by rfl))
        (pss_one (ps_fld (pv 0) (pv 6) (by rfl)))))))))))))), ?_⟩
      have put : ∀ (r : Option FErr), funOut dn da dr lab dw dc = r → FWish K H CB CP CT vl E (∀ fs H', (∀ b o, H b = some o → b ≠ a → H' b = some o) → H' a = some (.ins CF dx fs) → FunAt K H' CF CL dx fs vn va vr vc dw (LabNo H CL vl lab) → Q .non H') r := fun r e => by
        subst e
        exact out
      have one : (1 : Nat) ≤ 1000 := by decide
      refine ⟨vn, rfl, vn, dn, rfl, hn, zn, fun H1 s1 => ⟨_, rfl, ?_⟩⟩
      cases en : isName dn with
      | false =>
        have o := put (some (.part "name")) (by unfold funOut; rw [en]; rfl)
        exact iteT ⟨one, mk_left fun dd H' l => o dd H' (l.back s1)⟩
      | true =>
      refine iteF ?_
      refine ⟨va, rfl, va, da, rfl, dp_same s1 ha, za, fun H2 s2 => ⟨_, rfl, ?_⟩⟩
      have s2 := s1.trans s2
      have bad2 : countOk 2 da = false → ∀ H', Same H H' → ∀ dd H'', Left H' dd "part" (.str "arguments") H'' → E (.ref CP) (some dd) H'' := fun e H' s dd H'' l => by
        have o := put (some (.part "arguments")) (by unfold funOut; rw [en, e]; rfl)
        exact o dd H'' (l.back s)
      cases da with
      | int n =>
        cases ha
        refine iteF ?_
        refine ⟨_, rfl, _, _, rfl, rfl, _, rfl, ?_⟩
        cases h0 : decide (0 ≤ n) with
        | false =>
          have e : countOk 2 (.int n) = false := by
            show (decide (0 ≤ n) && decide (n ≤ 2)) = false
            rw [h0]
            rfl
          exact iteF ⟨_, rfl, iteT ⟨one, mk_left fun dd H' l => bad2 e _ s2 dd H' l⟩⟩
        | true =>
        refine iteT ⟨_, _, rfl, rfl, _, rfl, ?_⟩
        cases h2 : decide (n ≤ 2) with
        | false =>
          have e : countOk 2 (.int n) = false := by
            show (decide (0 ≤ n) && decide (n ≤ 2)) = false
            rw [h0, h2]
            rfl
          exact iteT ⟨one, mk_left fun dd H' l => bad2 e _ s2 dd H' l⟩
        | true =>
        have eA : countOk 2 (.int n) = true := by
          show (decide (0 ≤ n) && decide (n ≤ 2)) = true
          rw [h0, h2]
          rfl
        refine iteF ?_
        unfold tNext
        dsimp only
        refine q_asgP (Pr := fun v H' => ∃ x i, v = .ref x ∧ Same H H' ∧ LabAt H' CL x i ∧ lab.filter noLab = none ∧ LabNo H CL vl lab i) (fun Q' hq => ?_) (fun v H3 hv => ?_)
        · refine ⟨vl, rfl, vl, rfl, ?_⟩
          rcases hl with ⟨a2, i, rfl, rfl, la⟩ | ⟨d, rfl, hd⟩
          · exact .inl ⟨a2, i, rfl, la.ext s2, fun H' s' => hq _ _ ⟨a2, i, rfl, s2.trans s', (la.ext s2).ext s', rfl, .inl ⟨a2, rfl, rfl, la⟩⟩⟩
          · by_cases hno : noLab d = true
            · have o := put (some (.label d)) (by unfold funOut; rw [en, eA, Option.filter_some_pos hno]; rfl)
              exact .inr (.inr ⟨d, dp_same s2 hd, hno, fun dd H' l => o dd H' (l.back s2)⟩)
            · obtain ⟨i, z, hi, rfl⟩ := lab_of (eq_false_of_ne_true hno)
              cases hd
              exact .inr (.inl ⟨i, z, hi, rfl, fun x H' s' lx => hq _ _ ⟨x, i, rfl, s2.trans s', lx, Option.filter_some_neg (eq_false_of_ne_true hno), .inr ⟨z, rfl, hi⟩⟩⟩)
        · obtain ⟨x, i, rfl, s3, lx, ef, lno⟩ := hv
          have eL : ∀ r, funOut dn (.int n) dr lab dw dc = r ↔ (if !isTerm n dr then some (.term dr) else if !areWrites dw then some (.part "writes") else
              match badTerm n (entries dw) with
              | some t => some (.term t)
              | none => if !countOk 99 dc then some (.part "cost") else none) = r := fun r => by
            unfold funOut
            rw [en, eA, ef]
            exact Iff.rfl
          refine ⟨vr, rfl, .int n, rfl, vr, dr, n, rfl, dp_same s3 hre, zr, fun H4 t4 => ⟨_, rfl, ?_⟩⟩
          have s4 := s3.trans t4
          have lx := lx.ext t4
          cases et : isTerm n dr with
          | false =>
            have o := put (some (.term dr)) ((eL _).mpr (by rw [et]; rfl))
            exact iteT ⟨vr, rfl, one, mk_left fun dd H' l => o vr dd H' (dp_same (s4.trans l.2.1) hre) (l.back s4)⟩
          | true =>
          refine iteF ?_
          refine ⟨vw, rfl, vw, dw, rfl, dp_same s4 hw, zw, fun H5 t5 => ⟨_, rfl, ?_⟩⟩
          have s5 := s4.trans t5
          have lx := lx.ext t5
          cases ew : areWrites dw with
          | false =>
            have o := put (some (.part "writes")) ((eL _).mpr (by rw [et, ew]; rfl))
            exact iteT ⟨one, mk_left fun dd H' l => o dd H' (l.back s5)⟩
          | true =>
          refine iteF ?_
          cases dw with
          | tuple ds =>
            cases hw with
            | @tup wa xs _ hs hds =>
            have len := dpA_len hds
            refine ⟨.ref wa, rfl, wa, rfl, ⟨_, same_sqT s5 hs⟩, ?_⟩
            refine for_tup (K := K) (a := wa) (xs := xs) (fun k σ H' => ∃ z8 z9, σ = [some (.ref a), some vn, some (.int n), some vr, some vl, some (.ref wa), some vc, some (.ref x), z8, z9] ∧ Same H H' ∧ LabAt H' CL x i ∧ badTerm n ds = badTerm n (ds.drop k))
              ⟨none, none, rfl, s5, lx, rfl⟩ (fun k σ H' _ hW => ?_) (fun k v σ H6 hk hW => ?_) (fun σ H6 hW => ?_)
            · obtain ⟨_, _, _, s, _, _⟩ := hW
              exact same_sqT s hs
            · obtain ⟨z8, z9, rfl, s6, lx6, eb⟩ := hW
              obtain ⟨d, hd, hx0⟩ := dpA_at hds hk
              obtain ⟨z, t, rfl⟩ := writes_at (writes_of ew) hd
              have hx := dp_same s6 hx0
              have szd := szD_item (szD_seqT zw) hd
              have hdr : ds.drop k = .tuple [.str z, t] :: ds.drop (k + 1) := List.drop_eq_getElem_cons (List.getElem?_eq_some_iff.mp hd).1 ▸ by rw [(List.getElem?_eq_some_iff.mp hd).2]
              have szt : szD t = true := szD_item (i := 1) (szD_seqT szd) rfl
              cases hx with
              | @tup b ys _ hb hy =>
              obtain ⟨y0, y1, rfl, hy0, hy1⟩ := dp_pair hy
              refine ⟨b, _, rfl, hb, rfl, ?_⟩
              refine ⟨y0, [y1], rfl, y1, [], rfl, rfl, ?_⟩
              refine ⟨y1, rfl, .int n, rfl, y1, t, n, rfl, hy1, szt, fun H7 s7 => ⟨_, rfl, ?_⟩⟩
              cases ett : isTerm n t with
              | false =>
                have eb2 : badTerm n ds = some t := by
                  rw [eb, hdr]
                  show (if isTerm n t then badTerm n (ds.drop (k + 1)) else some t) = some t
                  rw [ett]
                  rfl
                have o := put (some (.term t)) ((eL _).mpr (by
                  rw [et, ew]
                  show (match badTerm n ds with | some t => some (FErr.term t) | none => _) = _
                  rw [eb2]))
                exact iteT ⟨y1, rfl, one, mk_left fun dd H' l => o y1 dd H' (dp_same (s7.trans l.2.1) hy1) (l.back (s6.trans s7))⟩
              | true =>
                refine iteF ⟨_, _, rfl, s6.trans s7, lx6.ext s7, ?_⟩
                rw [eb, hdr]
                show (if isTerm n t then badTerm n (ds.drop (k + 1)) else some t) = _
                rw [ett]
                rfl
            · obtain ⟨z8, z9, rfl, s6, lx6, eb⟩ := hW
              have eb2 : badTerm n ds = none := by
                rw [eb, len, List.drop_length]
                rfl
              have eM : ∀ r, (if !countOk 99 dc then some (FErr.part "cost") else none) = r → funOut dn (.int n) dr lab (.tuple ds) dc = r := fun r e => (eL r).mpr (by
                rw [et, ew]
                show (match badTerm n ds with | some t => some (FErr.term t) | none => _) = _
                rw [eb2]
                exact e)
              have bad99 : countOk 99 dc = false → ∀ H', Same H H' → ∀ dd H'', Left H' dd "part" (.str "cost") H'' → E (.ref CP) (some dd) H'' := fun e H' s dd H'' l => by
                have o := put (some (.part "cost")) (eM _ (by rw [e]; rfl))
                exact o dd H'' (l.back s)
              dsimp only
              refine ⟨vc, rfl, vc, dc, rfl, dp_same s6 hc, zc, fun H7 t7 => ⟨_, rfl, ?_⟩⟩
              have s7 := s6.trans t7
              have lx := lx6.ext t7
              cases dc with
              | int m =>
                cases hc
                refine iteF ?_
                refine ⟨_, rfl, _, _, rfl, rfl, _, rfl, ?_⟩
                cases g0 : decide (0 ≤ m) with
                | false =>
                  have e : countOk 99 (.int m) = false := by
                    show (decide (0 ≤ m) && decide (m ≤ 99)) = false
                    rw [g0]
                    rfl
                  exact iteF ⟨_, rfl, iteT ⟨one, mk_left fun dd H' l => bad99 e _ s7 dd H' l⟩⟩
                | true =>
                refine iteT ⟨_, _, rfl, rfl, _, rfl, ?_⟩
                cases g2 : decide (m ≤ 99) with
                | false =>
                  have e : countOk 99 (.int m) = false := by
                    show (decide (0 ≤ m) && decide (m ≤ 99)) = false
                    rw [g0, g2]
                    rfl
                  exact iteT ⟨one, mk_left fun dd H' l => bad99 e _ s7 dd H' l⟩
                | true =>
                have eC : countOk 99 (.int m) = true := by
                  show (decide (0 ≤ m) && decide (m ≤ 99)) = true
                  rw [g0, g2]
                  rfl
                have o := put none (eM _ (by rw [eC]; rfl))
                refine iteF ?_
                have e7 := s7 _ _ ea
                refine ⟨vn, rfl, .ref a, rfl, a, CF, dx, [], rfl, e7, C.cl, C.n1, (by decide), ?_⟩
                refine ⟨.int n, rfl, .ref a, rfl, a, CF, dx, _, rfl, upd_same, C.cl, C.n2, (by show 1 < 1000; decide), ?_⟩
                rw [upd_twice]
                refine ⟨vr, rfl, .ref a, rfl, a, CF, dx, _, rfl, upd_same, C.cl, C.n3, (by show 2 < 1000; decide), ?_⟩
                rw [upd_twice]
                refine ⟨.ref x, rfl, .ref a, rfl, a, CF, dx, _, rfl, upd_same, C.cl, C.n4, (by show 3 < 1000; decide), ?_⟩
                rw [upd_twice]
                have b4 : ∀ (o4 : HO) b o, H7 b = some o → b ≠ a → upd H7 a o4 b = some o := fun o4 b o e nb => by
                  rw [upd_ne nb]
                  exact e
                refine ⟨.ref wa, rfl, wa, xs, rfl, .inr ⟨sqT_aside e7 (b4 _) (same_sqT s7 hs), ?_⟩⟩
                refine ⟨.ref a, rfl, a, CF, dx, _, rfl, upd_same, C.cl, C.n5, (by show 4 < 1000; decide), ?_⟩
                rw [upd_twice]
                refine ⟨.int m, rfl, .ref a, rfl, a, CF, dx, _, rfl, upd_same, C.cl, C.n6, (by show 5 < 1000; decide), ?_⟩
                rw [upd_twice]
                exact o _ _ (fun b ob e nb => b4 _ b ob (s7 _ _ e) nb) upd_same ⟨rfl, rfl, rfl, rfl, ⟨x, i, rfl, lab_aside e7 (b4 _) lx, lno⟩, ⟨wa, rfl, .tup (sqT_aside e7 (b4 _) (same_sqT s7 hs)) (dpA_aside e7 (b4 _) (dpA_same s7 hds))⟩, rfl, rfl, rfl⟩
              | none => exact iteT (iteT ⟨one, mk_left fun dd H' l => bad99 rfl _ s7 dd H' l⟩)
              | bool _ => exact iteT (iteT ⟨one, mk_left fun dd H' l => bad99 rfl _ s7 dd H' l⟩)
              | str _ => exact iteT (iteT ⟨one, mk_left fun dd H' l => bad99 rfl _ s7 dd H' l⟩)
              | list _ => exact iteT (iteT ⟨one, mk_left fun dd H' l => bad99 rfl _ s7 dd H' l⟩)
              | tuple _ => exact iteT (iteT ⟨one, mk_left fun dd H' l => bad99 rfl _ s7 dd H' l⟩)
              | dict _ => exact iteT (iteT ⟨one, mk_left fun dd H' l => bad99 rfl _ s7 dd H' l⟩)
          | _ => exact Bool.noConfusion hq
      | none => exact iteT (iteT ⟨one, mk_left fun dd H' l => bad2 rfl _ s2 dd H' l⟩)
      | bool _ => exact iteT (iteT ⟨one, mk_left fun dd H' l => bad2 rfl _ s2 dd H' l⟩)
      | str _ => exact iteT (iteT ⟨one, mk_left fun dd H' l => bad2 rfl _ s2 dd H' l⟩)
      | list _ => exact iteT (iteT ⟨one, mk_left fun dd H' l => bad2 rfl _ s2 dd H' l⟩)
      | tuple _ => exact iteT (iteT ⟨one, mk_left fun dd H' l => bad2 rfl _ s2 dd H' l⟩)
      | dict _ => exact iteT (iteT ⟨one, mk_left fun dd H' l => bad2 rfl _ s2 dd H' l⟩)

    · refine ⟨_, pss_cons (ps_if (pt_not (pt_val (pe_call C.GN hr1 (by rfl) C.gN C.kN C.bN .nil pass0 (pa_cons (pv 1) pa_nil)))) (pss_one (ps_raise rfl (takes_of rfl rfl rfl rfl) (pmk_oex (k := 1) (ps := ["self", "part"]) (sp := spErr CP "part") (ds := []) (dvs := []) C.TP.oex C.TP.ini C.TP.typ C.GP hr2 C.bP .nil pass0 (by rfl) C.TP.nam (pa_cons pe_str pa_nil)))) pss_nil)
        (pss_cons (ps_if (PW.pt (pw_or (pt_not (pt_val (pe_call C.GW hr1 (by rfl) C.gW C.kW C.bW .nil pass0 (pa_cons (pv 2) pa_nil)))) (pw_or1 (pt_not (pt_chain op_le op_le pe_int (pv 2) (pe_glob (v := .int 2) (by rfl) gm ⟨_, rfl⟩)))))) (pss_one (ps_raise rfl (takes_of rfl rfl rfl rfl) (pmk_oex (k := 1) (ps := ["self", "part"]) (sp := spErr CP "part") (ds := []) (dvs := []) C.TP.oex C.TP.ini C.TP.typ C.GP hr2 C.bP .nil pass0 (by rfl) C.TP.nam (pa_cons pe_str pa_nil)))) pss_nil)
        (pss_cons (ps_set (i := 7) scFun.nd rfl (.inl rfl) (pe_call (E := E) C.GL hr (by rfl) C.gL C.kL C.bL .nil (passes_call (takes_of rfl rfl rfl rfl) (fun _ _ _ _ h => h)) (pa_cons (pv 4) pa_nil)))
        (pss_cons (ps_if (pt_not (pt_val (pe_call C.GT hr (by rfl) C.gT C.kT C.bT .nil pass0 (pa_cons (pv 3) (pa_cons (pv 2) pa_nil))))) (pss_one (ps_raise rfl (takes_of rfl rfl rfl rfl) (pmk_oex (k := 1) (ps := ["self", "term"]) (sp := spErr CT "term") (ds := []) (dvs := []) C.TE.oex C.TE.ini C.TE.typ C.GE hr2 C.bE .nil pass0 (by rfl) C.TE.nam (pa_cons (pv 3) pa_nil)))) pss_nil)
        (pss_cons (ps_if (pt_not (pt_val (pe_call C.GA hr2 (by rfl) C.gA C.kA C.bA .nil pass0 (pa_cons (pv 5) pa_nil)))) (pss_one (ps_raise rfl (takes_of rfl rfl rfl rfl) (pmk_oex (k := 1) (ps := ["self", "part"]) (sp := spErr CP "part") (ds := []) (dvs := []) C.TP.oex C.TP.ini C.TP.typ C.GP hr2 C.bP .nil pass0 (by rfl) C.TP.nam (pa_cons pe_str pa_nil)))) pss_nil)
        (pss_cons (ps_for (passes_of rfl) rfl (pi_list (pv 5)) (pg_tup (by rfl) (pgs_cons (pg_name (i := 8) scFun.nd rfl (.inl rfl)) (pgs_cons (pg_name (i := 9) scFun.nd rfl (.inl rfl)) pgs_nil)))
          (pss_one (ps_if (pt_not (pt_val (pe_call C.GT hr (by rfl) C.gT C.kT C.bT .nil pass0 (pa_cons (pv 9) (pa_cons (pv 2) pa_nil))))) (pss_one (ps_raise rfl (takes_of rfl rfl rfl rfl) (pmk_oex (k := 1) (ps := ["self", "term"]) (sp := spErr CT "term") (ds := []) (dvs := []) C.TE.oex C.TE.ini C.TE.typ C.GE hr2 C.bE .nil pass0 (by rfl) C.TE.nam (pa_cons (pv 9) pa_nil)))) pss_nil)))
        (pss_cons (ps_if (PW.pt (pw_or (pt_not (pt_val (pe_call C.GW hr1 (by rfl) C.gW C.kW C.bW .nil pass0 (pa_cons (pv 6) pa_nil)))) (pw_or1 (pt_not (pt_chain op_le op_le pe_int (pv 6) (pe_glob (v := .int 99) (by rfl) gc ⟨_, rfl⟩)))))) (pss_one (ps_raise rfl (takes_of rfl rfl rfl rfl) (pmk_oex (k := 1) (ps := ["self", "part"]) (sp := spErr CP "part") (ds := []) (dvs := []) C.TP.oex C.TP.ini C.TP.typ C.GP hr2 C.bP .nil pass0 (by rfl) C.TP.nam (pa_cons pe_str pa_nil)))) pss_nil)
        (pss_cons (ps_fld (pv 0) (pv 1) (by rfl)) (pss_cons (ps_fld (pv 0) (pv 2) (by rfl)) (pss_cons (ps_fld (pv 0) (pv 3) (by rfl)) (pss_cons (ps_fld (pv 0) (pv 7) (by rfl))
        (pss_cons (ps_fld (pv 0) (pe_callTy call_tuple_of (by rfl) M.tuple (by decide +kernel) (pa_cons (pv 5) pa_nil)) (by rfl))
        (pss_one (ps_fld (pv 0) (pv 6) (by rfl)))))))))))))), ?_⟩
      have put : ∀ (r : Option FErr), funOut dn da dr lab dw dc = r → FWish K H CB CP CT vl E (∀ fs H', (∀ b o, H b = some o → b ≠ a → H' b = some o) → H' a = some (.ins CF dx fs) → FunAt K H' CF CL dx fs vn va vr vc dw (LabNo H CL vl lab) → Q .non H') r := fun r e => by
        subst e
        exact out
      have one : (1 : Nat) ≤ 1000 := by decide
      refine ⟨vn, rfl, vn, dn, rfl, hn, zn, fun H1 s1 => ⟨_, rfl, ?_⟩⟩
      cases en : isName dn with
      | false =>
        have o := put (some (.part "name")) (by unfold funOut; rw [en]; rfl)
        exact iteT ⟨one, mk_left fun dd H' l => o dd H' (l.back s1)⟩
      | true =>
      refine iteF ?_
      refine ⟨va, rfl, va, da, rfl, dp_same s1 ha, za, fun H2 s2 => ⟨_, rfl, ?_⟩⟩
      have s2 := s1.trans s2
      have bad2 : countOk 2 da = false → ∀ H', Same H H' → ∀ dd H'', Left H' dd "part" (.str "arguments") H'' → E (.ref CP) (some dd) H'' := fun e H' s dd H'' l => by
        have o := put (some (.part "arguments")) (by unfold funOut; rw [en, e]; rfl)
        exact o dd H'' (l.back s)
      cases da with
      | int n =>
        cases ha
        refine iteF ?_
        refine ⟨_, rfl, _, _, rfl, rfl, _, rfl, ?_⟩
        cases h0 : decide (0 ≤ n) with
        | false =>
          have e : countOk 2 (.int n) = false := by
            show (decide (0 ≤ n) && decide (n ≤ 2)) = false
            rw [h0]
            rfl
          exact iteF ⟨_, rfl, iteT ⟨one, mk_left fun dd H' l => bad2 e _ s2 dd H' l⟩⟩
        | true =>
        refine iteT ⟨_, _, rfl, rfl, _, rfl, ?_⟩
        cases h2 : decide (n ≤ 2) with
        | false =>
          have e : countOk 2 (.int n) = false := by
            show (decide (0 ≤ n) && decide (n ≤ 2)) = false
            rw [h0, h2]
            rfl
          exact iteT ⟨one, mk_left fun dd H' l => bad2 e _ s2 dd H' l⟩
        | true =>
        have eA : countOk 2 (.int n) = true := by
          show (decide (0 ≤ n) && decide (n ≤ 2)) = true
          rw [h0, h2]
          rfl
        refine iteF ?_
        unfold tNext
        dsimp only
        refine q_asgP (Pr := fun v H' => ∃ x i, v = .ref x ∧ Same H H' ∧ LabAt H' CL x i ∧ lab.filter noLab = none ∧ LabNo H CL vl lab i) (fun Q' hq => ?_) (fun v H3 hv => ?_)
        · refine ⟨vl, rfl, vl, rfl, ?_⟩
          rcases hl with ⟨a2, i, rfl, rfl, la⟩ | ⟨d, rfl, hd⟩
          · exact .inl ⟨a2, i, rfl, la.ext s2, fun H' s' => hq _ _ ⟨a2, i, rfl, s2.trans s', (la.ext s2).ext s', rfl, .inl ⟨a2, rfl, rfl, la⟩⟩⟩
          · by_cases hno : noLab d = true
            · have o := put (some (.label d)) (by unfold funOut; rw [en, eA, Option.filter_some_pos hno]; rfl)
              exact .inr (.inr ⟨d, dp_same s2 hd, hno, fun dd H' l => o dd H' (l.back s2)⟩)
            · obtain ⟨i, z, hi, rfl⟩ := lab_of (eq_false_of_ne_true hno)
              cases hd
              exact .inr (.inl ⟨i, z, hi, rfl, fun x H' s' lx => hq _ _ ⟨x, i, rfl, s2.trans s', lx, Option.filter_some_neg (eq_false_of_ne_true hno), .inr ⟨z, rfl, hi⟩⟩⟩)
        · obtain ⟨x, i, rfl, s3, lx, ef, lno⟩ := hv
          have eL : ∀ r, funOut dn (.int n) dr lab dw dc = r ↔ (if !isTerm n dr then some (.term dr) else if !areWrites dw then some (.part "writes") else
              match badTerm n (entries dw) with
              | some t => some (.term t)
              | none => if !countOk 99 dc then some (.part "cost") else none) = r := fun r => by
            unfold funOut
            rw [en, eA, ef]
            exact Iff.rfl
          refine ⟨vr, rfl, .int n, rfl, vr, dr, n, rfl, dp_same s3 hre, zr, fun H4 t4 => ⟨_, rfl, ?_⟩⟩
          have s4 := s3.trans t4
          have lx := lx.ext t4
          cases et : isTerm n dr with
          | false =>
            have o := put (some (.term dr)) ((eL _).mpr (by rw [et]; rfl))
            exact iteT ⟨vr, rfl, one, mk_left fun dd H' l => o vr dd H' (dp_same (s4.trans l.2.1) hre) (l.back s4)⟩
          | true =>
          refine iteF ?_
          refine ⟨vw, rfl, vw, dw, rfl, dp_same s4 hw, zw, fun H5 t5 => ⟨_, rfl, ?_⟩⟩
          have s5 := s4.trans t5
          have lx := lx.ext t5
          cases ew : areWrites dw with
          | false =>
            have o := put (some (.part "writes")) ((eL _).mpr (by rw [et, ew]; rfl))
            exact iteT ⟨one, mk_left fun dd H' l => o dd H' (l.back s5)⟩
          | true =>
          refine iteF ?_
          cases dw with
          | list ds =>
            cases hw with
            | @lst wa xs _ hs hds =>
            have len := dpA_len hds
            refine ⟨.ref wa, rfl, wa, rfl, ⟨_, s5.seq hs⟩, ?_⟩
            refine for_list (K := K) (a := wa) (xs := xs) (fun k σ H' => ∃ z8 z9, σ = [some (.ref a), some vn, some (.int n), some vr, some vl, some (.ref wa), some vc, some (.ref x), z8, z9] ∧ Same H H' ∧ LabAt H' CL x i ∧ badTerm n ds = badTerm n (ds.drop k))
              ⟨none, none, rfl, s5, lx, rfl⟩ (fun k σ H' _ hW => ?_) (fun k v σ H6 hk hW => ?_) (fun σ H6 hW => ?_)
            · obtain ⟨_, _, _, s, _, _⟩ := hW
              exact s.seq hs
            · obtain ⟨z8, z9, rfl, s6, lx6, eb⟩ := hW
              obtain ⟨d, hd, hx0⟩ := dpA_at hds hk
              obtain ⟨z, t, rfl⟩ := writes_at (writes_of ew) hd
              have hx := dp_same s6 hx0
              have szd := szD_item (szD_seqL zw) hd
              have hdr : ds.drop k = .tuple [.str z, t] :: ds.drop (k + 1) := List.drop_eq_getElem_cons (List.getElem?_eq_some_iff.mp hd).1 ▸ by rw [(List.getElem?_eq_some_iff.mp hd).2]
              have szt : szD t = true := szD_item (i := 1) (szD_seqT szd) rfl
              cases hx with
              | @tup b ys _ hb hy =>
              obtain ⟨y0, y1, rfl, hy0, hy1⟩ := dp_pair hy
              refine ⟨b, _, rfl, hb, rfl, ?_⟩
              refine ⟨y0, [y1], rfl, y1, [], rfl, rfl, ?_⟩
              refine ⟨y1, rfl, .int n, rfl, y1, t, n, rfl, hy1, szt, fun H7 s7 => ⟨_, rfl, ?_⟩⟩
              cases ett : isTerm n t with
              | false =>
                have eb2 : badTerm n ds = some t := by
                  rw [eb, hdr]
                  show (if isTerm n t then badTerm n (ds.drop (k + 1)) else some t) = some t
                  rw [ett]
                  rfl
                have o := put (some (.term t)) ((eL _).mpr (by
                  rw [et, ew]
                  show (match badTerm n ds with | some t => some (FErr.term t) | none => _) = _
                  rw [eb2]))
                exact iteT ⟨y1, rfl, one, mk_left fun dd H' l => o y1 dd H' (dp_same (s7.trans l.2.1) hy1) (l.back (s6.trans s7))⟩
              | true =>
                refine iteF ⟨_, _, rfl, s6.trans s7, lx6.ext s7, ?_⟩
                rw [eb, hdr]
                show (if isTerm n t then badTerm n (ds.drop (k + 1)) else some t) = _
                rw [ett]
                rfl
            · obtain ⟨z8, z9, rfl, s6, lx6, eb⟩ := hW
              have eb2 : badTerm n ds = none := by
                rw [eb, len, List.drop_length]
                rfl
              have eM : ∀ r, (if !countOk 99 dc then some (FErr.part "cost") else none) = r → funOut dn (.int n) dr lab (.list ds) dc = r := fun r e => (eL r).mpr (by
                rw [et, ew]
                show (match badTerm n ds with | some t => some (FErr.term t) | none => _) = _
                rw [eb2]
                exact e)
              have bad99 : countOk 99 dc = false → ∀ H', Same H H' → ∀ dd H'', Left H' dd "part" (.str "cost") H'' → E (.ref CP) (some dd) H'' := fun e H' s dd H'' l => by
                have o := put (some (.part "cost")) (eM _ (by rw [e]; rfl))
                exact o dd H'' (l.back s)
              dsimp only
              refine ⟨vc, rfl, vc, dc, rfl, dp_same s6 hc, zc, fun H7 t7 => ⟨_, rfl, ?_⟩⟩
              have s7 := s6.trans t7
              have lx := lx6.ext t7
              cases dc with
              | int m =>
                cases hc
                refine iteF ?_
                refine ⟨_, rfl, _, _, rfl, rfl, _, rfl, ?_⟩
                cases g0 : decide (0 ≤ m) with
                | false =>
                  have e : countOk 99 (.int m) = false := by
                    show (decide (0 ≤ m) && decide (m ≤ 99)) = false
                    rw [g0]
                    rfl
                  exact iteF ⟨_, rfl, iteT ⟨one, mk_left fun dd H' l => bad99 e _ s7 dd H' l⟩⟩
                | true =>
                refine iteT ⟨_, _, rfl, rfl, _, rfl, ?_⟩
                cases g2 : decide (m ≤ 99) with
                | false =>
                  have e : countOk 99 (.int m) = false := by
                    show (decide (0 ≤ m) && decide (m ≤ 99)) = false
                    rw [g0, g2]
                    rfl
                  exact iteT ⟨one, mk_left fun dd H' l => bad99 e _ s7 dd H' l⟩
                | true =>
                have eC : countOk 99 (.int m) = true := by
                  show (decide (0 ≤ m) && decide (m ≤ 99)) = true
                  rw [g0, g2]
                  rfl
                have o := put none (eM _ (by rw [eC]; rfl))
                refine iteF ?_
                have e7 := s7 _ _ ea
                refine ⟨vn, rfl, .ref a, rfl, a, CF, dx, [], rfl, e7, C.cl, C.n1, (by decide), ?_⟩
                refine ⟨.int n, rfl, .ref a, rfl, a, CF, dx, _, rfl, upd_same, C.cl, C.n2, (by show 1 < 1000; decide), ?_⟩
                rw [upd_twice]
                refine ⟨vr, rfl, .ref a, rfl, a, CF, dx, _, rfl, upd_same, C.cl, C.n3, (by show 2 < 1000; decide), ?_⟩
                rw [upd_twice]
                refine ⟨.ref x, rfl, .ref a, rfl, a, CF, dx, _, rfl, upd_same, C.cl, C.n4, (by show 3 < 1000; decide), ?_⟩
                rw [upd_twice]
                have b4 : ∀ (o4 : HO) b o, H7 b = some o → b ≠ a → upd H7 a o4 b = some o := fun o4 b o e nb => by
                  rw [upd_ne nb]
                  exact e
                refine ⟨.ref wa, rfl, wa, xs, rfl, .inl ⟨sqL_aside e7 (b4 _) (s7.seq hs), fun tw ntw => ?_⟩⟩
                have hne : a ≠ tw := ne_of_none upd_same ntw
                refine ⟨.ref a, rfl, a, CF, dx, _, rfl, same_upd ntw _ _ upd_same, C.cl, C.n5, (by show 4 < 1000; decide), ?_⟩
                refine ⟨.int m, rfl, .ref a, rfl, a, CF, dx, _, rfl, upd_same, C.cl, C.n6, (by show 5 < 1000; decide), ?_⟩
                rw [upd_twice]
                have b9 : ∀ (o4 o5 : HO) b o, H7 b = some o → b ≠ a → upd (upd (upd H7 a o4) tw (.tup xs)) a o5 b = some o := fun o4 o5 b o e nb => by
                  rw [upd_ne nb]
                  refine same_upd ?_ _ _ (b4 o4 b o e nb)
                  rw [upd_ne hne.symm]
                  rw [upd_ne hne.symm] at ntw
                  exact ntw
                refine o _ _ (fun b ob e nb => b9 _ _ b ob (s7 _ _ e) nb) upd_same ⟨rfl, rfl, rfl, rfl, ⟨x, i, rfl, lab_aside e7 (b9 _ _) lx, lno⟩, ⟨tw, rfl, .tup (.inl (.inl ?_)) (dpA_aside e7 (b9 _ _) (dpA_same s7 hds))⟩, rfl, rfl, rfl⟩
                rw [upd_ne hne.symm]
                exact upd_same
              | none => exact iteT (iteT ⟨one, mk_left fun dd H' l => bad99 rfl _ s7 dd H' l⟩)
              | bool _ => exact iteT (iteT ⟨one, mk_left fun dd H' l => bad99 rfl _ s7 dd H' l⟩)
              | str _ => exact iteT (iteT ⟨one, mk_left fun dd H' l => bad99 rfl _ s7 dd H' l⟩)
              | list _ => exact iteT (iteT ⟨one, mk_left fun dd H' l => bad99 rfl _ s7 dd H' l⟩)
              | tuple _ => exact iteT (iteT ⟨one, mk_left fun dd H' l => bad99 rfl _ s7 dd H' l⟩)
              | dict _ => exact iteT (iteT ⟨one, mk_left fun dd H' l => bad99 rfl _ s7 dd H' l⟩)
          | _ => first | exact Bool.noConfusion ew | exact absurd rfl hq
      | none => exact iteT (iteT ⟨one, mk_left fun dd H' l => bad2 rfl _ s2 dd H' l⟩)
      | bool _ => exact iteT (iteT ⟨one, mk_left fun dd H' l => bad2 rfl _ s2 dd H' l⟩)
      | str _ => exact iteT (iteT ⟨one, mk_left fun dd H' l => bad2 rfl _ s2 dd H' l⟩)
      | list _ => exact iteT (iteT ⟨one, mk_left fun dd H' l => bad2 rfl _ s2 dd H' l⟩)
      | tuple _ => exact iteT (iteT ⟨one, mk_left fun dd H' l => bad2 rfl _ s2 dd H' l⟩)
      | dict _ => exact iteT (iteT ⟨one, mk_left fun dd H' l => bad2 rfl _ s2 dd H' l⟩)

end
/-! ### a try with several clauses that give the error the same name -/
/-- what such clauses want of an error: the first one that fits has it in slot i -/
def wRow (K : PySem.W.Frag) (i : Nat) (Wout : WX) (D : Ends) : List (Value × (Addr → Value → Option Addr → TS)) → WX
  | [] => Wout
  | q :: r => fun k d σ H => ∃ fits, PySem.W.exmOne K k q.1 = some fits ∧
      (fits = true → ∀ a, H a = none → q.2 a k d ⟨fun σ' H' => D.nx (σ'.set i none) H', D.rt, fun σ' H' => D.bk (σ'.set i none) H', fun σ' H' => D.ct (σ'.set i none) H'⟩ (σ.set i (some (.ref a))) H) ∧ (fits = false → wRow K i Wout D r k d σ H)
inductive RowOk (X : Cx) (n : Str) : List ExceptHandler → List (Value × (Addr → Value → Option Addr → TS)) → Prop
  | nil : RowOk X n [] []
  | cons {x : Str} {c : Value} {ts : Addr → Value → Option Addr → TS} {b : Stmt} {bs : List Stmt} {p1 p2 : Pos} {hs : List ExceptHandler} {l : List (Value × (Addr → Value → Option Addr → TS))} (nam : Names X x c)
      (run : ∀ (a : Addr) (oe : Obj) (k : Value) (d : Option Addr) (pn : List (Addr × Obj)), Zc k d oe → (∃ vs, oe.data = .fields vs) → PSs (X.suite a ((a, oe) :: pn)) (b :: bs) (ts a k d)) (rest : RowOk X n hs l) :
      RowOk X n (.ExceptHandler (some (.Name x p1)) (some n) (b :: bs) p2 :: hs) ((c, ts) :: l)
section
variable {X : Cx} {body : List Stmt} {top : ExceptHandler} {hs : List ExceptHandler} {l : List (Value × (Addr → Value → Option Addr → TS))} {pos : Pos} {tb : WX → TS} {Wout : WX} {n : Str} {i : Nat}
theorem ps_try_row (st : X.stack = X.env :: X.outer) (fr : X.env.frame = some X.env.locals) (nd : X.N.Nodup) (at_ : X.N[i]? = some n) (loc : X.env.kindOf n = some .local) (tk : Takes X Wout)
    (inner : ∀ (W : WX) (pn : List (Addr × Obj)) (xe : Value → Shared → Prop), Takes (X.tr pn xe) W → PassesOwn (model X.prog X.w) X.A X.env xe → PSs (X.tr pn xe) body (tb W)) (row : RowOk X n (top :: hs) l) :
    PS X (.Try body (top :: hs) [] [] pos) (fun D σ H => tb (wRow X.K i Wout D l) D σ H) := ⟨fun pins s σ H D I wish => by
  have okI := I.ok
  have frames : X.A.frames = some (X.env :: X.outer) := by rw [okI.frames, st]
  refine wpAny_Try_except (wpAny_mono ((inner (wRow X.K i Wout D l) (X.pn ++ pins) (fun e s₁ => wpAny (model X.prog X.w) X.A (noteFrame e X.env) (fun _ s₂ => wpAny (model X.prog X.w) X.A (setFlight e none)
    (fun _ s₃ => wpAny (model X.prog X.w) X.A (handleBy e X.env (top :: hs)) (SP X pins D) X.xe s₃) X.xe s₂) X.xe s₁) (fun u z caught => ?_) PassesOwn.looking).run [] s σ H D (I.toTry _) wish) (fun flow z done => ?_) (fun _ _ gone => gone))
  · obtain ⟨a, B, sI, pins', τ, G, k, d, rfl, J', nb, up, sky, free, os, ag, w⟩ := caught
    have J : Inv X pins τ G sI := J'.ofTry okI
    have sky1 : Sky B (X.env :: X.outer) a (Zc k d) X.env.locals z.heap := st ▸ sky
    refine Sky.land Zc.steady frames fr sky1 fun g lies higher => ?_
    have Jg : Inv X pins τ G { z with heap := g } := J.landed nb lies.1 (up.trans higher) os ag
    obtain ⟨oe, vs, there, zc, dat⟩ := lies.there
    have away : a ∉ frs (X.env :: X.outer) := fun inn => by
      obtain ⟨_, o', e', un⟩ := lies.2.2.1.mem inn
      rw [there] at e'
      cases e'
      exact un _ dat
    have aL : a ≠ X.env.locals := fun q => away (List.mem_filterMap.mpr ⟨X.env, List.mem_cons_self, by rw [fr, q]⟩)
    have aF : a ∉ X.fs := fun inn => by
      obtain ⟨e, inn', q⟩ := List.mem_filterMap.mp inn
      exact away (List.mem_filterMap.mpr ⟨e, List.mem_cons_of_mem _ inn', q⟩)
    have Sg := Jg.suite there dat free aL aF
    have each : ∀ {hs' : List ExceptHandler} {l' : List (Value × (Addr → Value → Option Addr → TS))}, RowOk X n hs' l' → wRow X.K i Wout D l' k d τ G →
        wpAny (model X.prog X.w) X.A (handleBy (.ref a) X.env hs') (SP X pins D) X.xe { z with heap := g } := fun {hs' l'} ok => by
      induction ok with
      | nil =>
        intro out
        refine wpAny_handleBy_nil ?_
        obtain ⟨_, _, _, o2, vs2, T, oT, _, e2, z2, d2, f2, r2⟩ := id lies
        unfold PySem.passOn
        refine wpAny_bind (wpAny_field e2 d2 f2 ?_)
        rw [if_neg (show ¬ ((Value.ref T == Value.none) = true) from by simp)]
        have leave : wpAny (model X.prog X.w) X.A (setFlight (.ref a) X.env.frame) (fun _ s4 => wpAny (model X.prog X.w) X.A (throw (.ref a) : Sem Flow) (SP X pins D) X.xe s4) X.xe { z with heap := g } := by
          rw [fr]
          exact HandSPX.setFlight_upZ lies fun g2 low up2 => wpAny_throw (tk _ _ ⟨a, B, sI, pins, τ, G, k, d, rfl, J, nb, (up.trans higher).trans up2, .inr (.inr (st ▸ low)), free, os, ag, out⟩)
        first
          | exact wpAny_bind leave
          | exact wpAny_bind (wpAny_pure (wpAny_bind leave))
      | @cons x c ts b bs p1 p2 hs2 l2 nam run rest ih =>
        rintro ⟨fits, ef, yes, no⟩
        refine wpAny_handleBy_cons (codeAny_handlers_test ?_) (by intro q; cases q)
        have looks : PySem.W.Looks (model X.prog X.w) g (typeOf (.ref a)) k := fun _ _ _ _ kp q => wpAny_typeOf_ref (kp _ _ there) (by rw [zc.1]; exact q)
        have cls : ∀ {Q E : Value → Shared → Prop}, Q c { z with heap := g } → wpAny (model X.prog X.w) (X.A.mark (some (.ref a))) (eval (.Name x p1) X.env) Q E { z with heap := g } := fun {Q E} q => by
          rcases nam with ⟨vis, dbg, e | ⟨e, e', e''⟩⟩
          · exact ld_glob (X := X.suite a ((a, oe) :: (X.pn ++ pins))) Sg vis e q dbg
          · exact ld_blt (X := X.suite a ((a, oe) :: (X.pn ++ pins))) Sg vis e e' q e'' dbg
        refine cls ((PySem.W.exm_one (M := model X.prog X.w) Jg.kIn looks ef).here ?_)
        cases fits with
        | false =>
          show wpAny _ X.A (handleBy (.ref a) X.env hs2) _ _ _
          exact ih (no rfl)
        | true =>
          refine codeAny_handlers_suite_as (HandSPX.lands_againZ lies fun g4 lies4 higher4 => ?_)
          have J4 : Inv X pins τ G { z with heap := g4 } := J.landed nb lies4.1 ((up.trans higher).trans higher4) os ag
          obtain ⟨o4, v4, there4, z4, dat4⟩ := lies4.there
          refine store_ok (X := X.suite a ((a, o4) :: (X.pn ++ pins))) (v := .ref a) (J4.suite there4 dat4 free aL aF) nd at_ (.inl loc) rfl (fun s5 J5 => ?_) (.inr loc)
          refine wpAny_mono ((run a o4 k d (X.pn ++ pins) z4 ⟨_, dat4⟩).run [] s5 _ G _ J5 (yes rfl a free)) (fun flow s6 q => ?_) (fun _ _ q => q.elim)
          have close : ∀ {τ6 : L2.St} {G6 : Hp} {Q : Shared → Prop}, Inv (X.suite a ((a, o4) :: (X.pn ++ pins))) [] τ6 G6 s6 → (∀ s7, Inv X pins (τ6.set i none) G6 s7 → Q s7) →
              wpAny (model X.prog X.w) X.A (do bindName X.env n .none; unbindBehindTheSuite X.env n p2) (fun _ s7 => Q s7) X.xe s6 := fun J6 q6 => gone_ok (J6.unsuite okI) nd at_ loc q6
          cases flow with
          | ret u => exact let ⟨_, _, _, J6, r6, q6⟩ := q; close J6 fun s7 J7 => ⟨_, _, _, J7, r6, q6⟩
          | next => exact let ⟨_, _, J6, q6⟩ := q; close J6 fun s7 J7 => ⟨_, _, J7, q6⟩
          | brk => exact let ⟨_, _, J6, q6⟩ := q; close J6 fun s7 J7 => ⟨_, _, J7, q6⟩
          | cont => exact let ⟨_, _, J6, q6⟩ := q; close J6 fun s7 J7 => ⟨_, _, J7, q6⟩
    exact each row w
  · cases flow with
    | ret u => exact let ⟨v, τ, G, J, r, q⟩ := done; ⟨v, τ, G, J.ofTry okI, r, q⟩
    | next => exact let ⟨τ, G, J, q⟩ := done; wpAny_execs_nil ⟨τ, G, J.ofTry okI, q⟩
    | brk => exact let ⟨τ, G, J, q⟩ := done; ⟨τ, G, J.ofTry okI, q⟩
    | cont => exact let ⟨τ, G, J, q⟩ := done; ⟨τ, G, J.ofTry okI, q⟩⟩
end
/-! ### C(e, k = v, ..) and o.m(e, ..) in a try -/
def tMakeKS (C : Addr) (n m : Nat) (sp : Sp) (gV : List V → List V → List V) (E : L2.St → XK) (t tk : TA) : TE := fun σ H Q => t σ H fun vs H1 => tk σ H1 fun zs H2 => vs.length = n ∧ zs.length = m ∧
  ∀ x dx, H2 x = none → H2 dx = none → dx ≠ x → sp (gV (.ref x :: vs) zs) (upd (upd H2 dx (.own x)) x (.ins C dx [])) (fun v H3 => v = .non ∧ Q (.ref x) H3) (E σ)
theorem pe_makeKS {X : Cx} {CX : CXT} {C f : Addr} {fd : FuncData} {k n : Nat} {ps ks : List Str} {sp : Sp} {x : Str} {p pos : Pos} {e : Expr} {es : List Expr} {kws : List Keyword} {t tk : TA} {E : L2.St → XK} {g : List Value → List Value → List Value} {gV : List V → List V → List V}
    (M : Mk X.K C f) (F : FnOk X.prog X.w X.K X.mg X.base CX k f fd ps sp) (hr : Room (k + 1) X.A) (vis : Gl X x) (at_ : X.mg x = some (.ref C)) (bind : KBn X.K fd ps (n + 1) ks g gV) (way : ∀ σ, PassesAt CX X σ (E σ)) (ha : PA X (e :: es) t) (hk : PK X kws tk)
    (all : (backToKw pos (keywordEach kws X.env)).all (·.1.isSome) = true := by rfl) (named : (backToKw pos (keywordEach kws X.env)).filterMap (·.1) = ks := by rfl) (dbg : (x == ("__debug__" : Str)) = false := by decide)
    (one : starEach (e :: es) X.env = (false, eval e X.env) :: starEach es X.env := by rfl) (nos : ((backTo pos (starEach (e :: es) X.env)).any (·.1) || (backToKw pos (keywordEach kws X.env)).any (·.1.isNone)) = false := by rfl) :
    PE X (.Call (.Name x p) (e :: es) kws pos) (tMakeKS C n ks.length sp gV E t tk) := ⟨fun pins s σ H Q I h => by
  refine wpAny_Call_Name_kw (ld_glob I vis at_ (PySem.W.callWith_KW (h₀ := X.base) I.ok.mod.kin M.kp all (thn (ha.run pos pins s σ H _ I h) fun us s1 z => ?_) nos one) dbg)
  obtain ⟨vs, H1, I1, r, q⟩ := z
  refine thn (hk.run pos pins s1 σ H1 _ I1 q) fun ws s2 z => ?_
  obtain ⟨zs, H2, I2, rz, l1, l2, q2⟩ := z
  let m := s2.heap.objs.size
  have here := q2 (m + 1) m (I2.hok.fresh (Nat.le_succ _)) (I2.hok.fresh (Nat.le_refl _)) (Nat.ne_of_lt (Nat.lt_succ_self _))
  have made := Inv.made (C := C) I2
  have many : (Value.ref (m + 1) :: us).length = n + 1 := congrArg Nat.succ (r.length.symm.trans l1)
  have rs := bind.rel (vs := V.ref (m + 1) :: vs) (us := Value.ref (m + 1) :: us) (.cons rfl r) rz
  have bs := bind.to ⟨_, s2.gens, s2.drawn, s2.toks, s2.os⟩ (Value.ref (m + 1) :: us) ws made.kIn many (rz.length.symm.trans l2)
  rw [named]
  refine ⟨I2.kIn, wpAny_call (make_map (f := f) I2.kIn M.makes M.init (beq_iff_eq.mp M.fn) (codeAny_mono (F.run _ X.stack _ _ ⟨Value.ref (m + 1) :: us, ks.zip ws⟩ (g (Value.ref (m + 1) :: us) ws) _ _ (E σ) (hr.make C us (ks.zip ws)) (made.env0.make C us (ks.zip ws)) bs rs here) fun r s' z => ?_))⟩
  cases r with
  | error er => exact way σ pins _ _ er s' made z
  | ok fl =>
    cases fl with
    | ret u => exact let ⟨v, G, J, rv, ev, q3⟩ := made.after z; by subst ev; exact ⟨rv, V.ref (m + 1), G, J, rfl, q3⟩
    | next => exact z.elim
    | brk => exact z.elim
    | cont => exact z.elim⟩
def tMethS (C : Addr) (m : Str) (sp : Sp) (E : L2.St → XK) (ta : TE) (t : TA) : TE := fun σ H Q => ta σ H fun x H1 => ∃ a dx fs, x = .ref a ∧ H1 a = some (.ins C dx fs) ∧ fs.lookup m = none ∧ t σ H1 fun vs H2 => sp (.ref a :: vs) H2 Q (E σ)
theorem pe_methS {X : Cx} {CX : CXT} {C f : Addr} {fd : FuncData} {k : Nat} {ps : List Str} {sp : Sp} {m : Str} {pos apos : Pos} {e o : Expr} {es : List Expr} {ta : TE} {t : TA} {E : L2.St → XK} {pl : Sem Bool} (ho : PE X o ta) (cls : Cls X.K C) (met : Meth X.K C m f)
    (F : FnOk X.prog X.w X.K X.mg X.base CX k f fd ps sp) (hr : Room k X.A) (bind : Binds X.K fd ps []) (way : ∀ σ, PassesAt CX X σ (E σ)) (ha : PA X (e :: es) t) (one : starEach (e :: es) X.env = (false, eval e X.env) :: starEach es X.env := by rfl)
    (nos : (backTo pos (starEach es X.env)).any (·.1) = false := by rfl)
    (runs : eval (.Call (.Attribute o m apos) (e :: es) [] pos) X.env = (do
      let obj ← eval o X.env
      standAt apos.atName
      let (g, hd) ← holding [obj] (getMethod obj m pl)
      callWith pos g hd (backTo pos (starEach (e :: es) X.env)) (backToKw pos (keywordEach [] X.env))) := by rfl) : PE X (.Call (.Attribute o m apos) (e :: es) [] pos) (tMethS C m sp E ta t) := ⟨fun pins s σ H Q I h => by
  refine PySem.W.methodCall_KW (pl := pl) (thn (ho.run pins s σ H _ I h) fun u s1 z => ?_) runs
  obtain ⟨x, H1, I1, rx, a, dx, fs, rfl, at_, none_, q⟩ := z
  cases (show u = Value.ref a from rx)
  refine getmeth_ok I1 at_ cls met none_ (PySem.W.callWith_K (first := [.ref a]) (h₀ := X.base) I.ok.mod.kin met.kp (thn (ha.run pos pins s1 σ H1 _ I1 q) fun us s2 z => ?_) one nos)
  obtain ⟨vs, H2, I2, r, q2⟩ := z
  exact ⟨I2.kIn, run_fnS (us := .ref a :: us) (vs := .ref a :: vs) F hr bind (way σ) I2 (.cons rfl r) q2⟩⟩
/-! ### a Function by its data -/
structure FD where
  nm : Str
  ar : Int
  res : PyData
  ws : List PyData
structure FdOk (F : FD) : Prop where
  nm : isName (.str F.nm) = true
  res : isTerm F.ar F.res = true
  zr : szD F.res = true
  ws : writesGo [] F.ws = true
  bt : badTerm F.ar F.ws = none
  zw : szDs F.ws = true
  few : F.ws.length ≤ 3
/-- a Function of these data, at a -/
def FunOf (K : PySem.W.Frag) (H : Hp) (CF a : Addr) (F : FD) : Prop := FdOk F ∧ ∃ (dx : Addr) (fs : List (Str × V)) (vr : V) (wa : Addr), H a = some (.ins CF dx fs) ∧ fs.lookup ("name" : Str) = some (.str F.nm) ∧ fs.lookup ("arguments" : Str) = some (.int F.ar) ∧
  fs.lookup ("result" : Str) = some vr ∧ Dp K H vr F.res ∧ fs.lookup ("writes" : Str) = some (.ref wa) ∧ Dp K H (.ref wa) (.tuple F.ws) ∧ fs.lookup ("parts" : Str) = none
theorem FunOf.same {K : PySem.W.Frag} {H H' : Hp} {CF a : Addr} {F : FD} (h : FunOf K H CF a F) (s : Same H H') : FunOf K H' CF a F := by
  obtain ⟨k, dx, fs, vr, wa, e, h1, h2, h3, h4, h5, h6, h7⟩ := h
  exact ⟨k, dx, fs, vr, wa, s _ _ e, h1, h2, h3, dp_same s h4, h5, dp_same s h6, h7⟩
theorem LabIn.ext {K : PySem.W.Frag} {H H' : Hp} {CL : Addr} {v : V} {lab : Option PyData} (h : LabIn K H CL v lab) (s : Same H H') : LabIn K H' CL v lab := by
  rcases h with ⟨a, i, rfl, rfl, l⟩ | ⟨d, rfl, hd⟩
  · exact .inl ⟨a, i, rfl, rfl, l.ext s⟩
  · exact .inr ⟨d, rfl, dp_same s hd⟩
theorem iteD {c A B : Prop} [Decidable c] (h : c) (a : A) : if decide c = true then A else B := by
  rw [decide_eq_true h]
  exact iteT a
theorem iteDN {c A B : Prop} [Decidable c] (h : ¬ c) (b : B) : if decide c = true then A else B := by
  rw [decide_eq_false h]
  exact iteF b
theorem fdOk_of {n : Str} {m : Int} {dr dw dc : PyData} {lab : Option PyData} (h : funOut (.str n) (.int m) dr lab dw dc = none) (zr : szD dr = true) (zw : szD dw = true) : FdOk ⟨n, m, dr, entries dw⟩ := by
  unfold funOut at h
  split at h
  · cases h
  · next e1 =>
    split at h
    · cases h
    · split at h
      · cases h
      · split at h
        · cases h
        · next e4 =>
          split at h
          · cases h
          · next e5 =>
            split at h
            · cases h
            · next e6 =>
              have e1 : isName (.str n) = true := by simpa using e1
              have e4 : isTerm m dr = true := by simpa [numOf] using e4
              have e5 : areWrites dw = true := by simpa using e5
              have e6 : badTerm m (entries dw) = none := by simpa [numOf] using e6
              refine ⟨e1, e4, zr, writes_of e5, e6, ?_, ?_⟩
              · match dw, e5, zw with
                | .list ds, _, z => exact szD_seqL z
                | .tuple ds, _, z => exact szD_seqT z
              · match dw, e5 with
                | .list ds, e => exact of_decide_eq_true (Bool.and_eq_true_iff.mp e).1
                | .tuple ds, e => exact of_decide_eq_true (Bool.and_eq_true_iff.mp e).1
theorem funOf_of {K : PySem.W.Frag} {H : Hp} {CF CL a dx : Addr} {fs : List (Str × V)} {n : Str} {m : Int} {vr vc : V} {dr dw dc : PyData} {lab : Option PyData} (e : H a = some (.ins CF dx fs)) {no : Nat → Prop} (T : FunAt K H CF CL dx fs (.str n) (.int m) vr vc dw no) (hr : Dp K H vr dr) (h : funOut (.str n) (.int m) dr lab dw dc = none) (zr : szD dr = true) (zw : szD dw = true) :
    FunOf K H CF a ⟨n, m, dr, entries dw⟩ := by
  obtain ⟨wa, e2, hw⟩ := T.wr
  exact ⟨fdOk_of h zr zw, dx, fs, vr, wa, e, T.name, T.args, T.res, hr, e2, hw, T.no3⟩
/-! ### Function.parts -/
abbrev sFParts : Stmt := inClass (topS 30) 4
theorem scFParts : FnScope ["self", "_", "term"] ["self"] (defScope sFParts) := ⟨rfl, rfl, rfl, by decide +kernel, rfl, by decide +kernel, by decide +kernel⟩
def sndD : PyData → PyData
  | .tuple [_, t] => t
  | d => d
def partsF (F : FD) : List PyData := F.res :: F.ws.map sndD
structure FldC (K : PySem.W.Frag) (CF : Addr) : Prop where
  cl : Cls K CF
  n1 : NoAttr K CF "name"
  n2 : NoAttr K CF "arguments"
  n3 : NoAttr K CF "result"
  n5 : NoAttr K CF "writes"
def spFParts (K : PySem.W.Frag) (CF : Addr) : Sp := fun vs H Q _ => ∃ (a : Addr) (F : FD), vs = [.ref a] ∧ FunOf K H CF a F ∧ ∀ p xs H', Same H H' → H' p = some (.lst xs) → DpAll K H' xs (partsF F) → Q (.ref p) H'
section
variable {P : Program} {w : World} {K : PySem.W.Frag} {mg : Str → Option Value} {base : Heap}
theorem ok_fparts {CF f : Addr} {fd : FuncData} (F : Fun K "parts" "Function.parts" sFParts f fd) (C : FldC K CF) : FnOk P w K mg base CX0 1 f fd ["self"] (spFParts K CF) := by
  refine F.ok scFParts (fun vs H Q E h => ?_) (fun cdv A outer s H vs Q E hr h => ?_)
  · obtain ⟨a, F, rfl, _⟩ := h
    rfl
  · obtain ⟨a, F, rfl, ⟨ok, dx, fs, vr, wa, ea, h1, h2, h3, hr3, h5, hw, _⟩, q⟩ := h
    refine ⟨_, pss_one (ps_ret (pe_op op_cat (pe_lst (pa_cons (pe_fld (pv 0) (by rfl)) pa_nil))
      (pe_lc (own := [("_", 1), ("term", 2)]) (g := gTup K 2 (gCons (gName 1) (gCons (gName 2) gNil))) (wi := iTup K (tFld K (tVar 0) "writes")) (tt := tYes) (te := tVar 2) (by rfl) scFParts.nd (pi_tup (pe_fld (pv 0) (by rfl)))
        (blkOk_by (own := [("_", 1), ("term", 2)]) (N := ["self", "_", "term"]) (sc := defScope sFParts) (by decide +kernel)) (fun _ _ _ _ _ => pg_tup (by rfl) (pgs_cons (pg_name (i := 1) scFParts.nd rfl (Or.inl rfl)) (pgs_cons (pg_name (i := 2) scFParts.nd rfl (Or.inl rfl)) pgs_nil))) (fun _ _ _ _ _ => pts_nil) (fun _ _ _ _ _ => pv 2)))), ?_⟩
    refine ⟨.ref a, rfl, a, CF, dx, fs, vr, rfl, ea, C.cl, C.n3, h3, by show 1 ≤ sizeLine; decide, fun p np => ?_⟩
    have s1 : Same H (upd H p (.lst [vr])) := same_upd np
    cases hw with
    | @tup _ xs _ hs hds =>
    refine ⟨.ref a, rfl, a, CF, dx, fs, .ref wa, rfl, s1 _ _ ea, C.cl, C.n5, h5, wa, rfl, ⟨_, same_sqT s1 hs⟩, fun D hD => ?_⟩
    have len := dpA_len hds
    have few := ok.few
    refine walk_gen (walk_tup (K := K) (a := wa) (xs := xs)) (fun i H' => Same (upd H p (.lst [vr])) H' ∧ ∃ acc, H' D = some (.lst acc) ∧ DpAll K H acc ((F.ws.take i).map sndD)) ⟨same_upd hD, [], upd_same, .nil⟩ (fun i H' _ p => same_sqT (s1.trans p.1) hs) (fun i x H2 H3 hi p y => ?_) (fun H' p => ?_)
    · obtain ⟨s2, acc, eD, ha⟩ := p
      obtain ⟨rfl, hx⟩ := y
      obtain ⟨di, hd, hxi⟩ := dpA_at hds hx
      obtain ⟨z, t, rfl⟩ := writes_at ok.ws hd
      have hi' : i < F.ws.length := (List.getElem?_eq_some_iff.mp hd).1
      cases hxi with
      | @tup b ys _ hb hy =>
      obtain ⟨y0, y1, rfl, hy0, hy1⟩ := dp_pair hy
      refine ⟨b, _, rfl, same_sqT (s1.trans s2) hb, rfl, y0, [y1], rfl, y1, [], rfl, rfl, rfl, ?_⟩
      unfold tYes
      refine iteT ⟨y1, rfl, acc, eD, ?_, fun b o e => ?_, acc ++ [y1], upd_same, ?_⟩
      · rw [dpA_len ha, List.length_map, List.length_take]
        exact Nat.lt_of_le_of_lt (show _ ≤ 3 by omega) (by decide)
      · rw [upd_ne (ne_of_none e hD)]
        exact s2 _ _ e
      · rw [take_snoc hd, List.map_append]
        exact dpA_app ha (.cons hy1 .nil)
    · obtain ⟨s2, acc, eD, ha⟩ := p
      rw [len, List.take_length] at ha
      have t2 := s1.trans s2
      refine ⟨p, D, [vr], acc, rfl, rfl, s2 _ _ upd_same, eD, ?_, fun l nl => ?_⟩
      · rw [dpA_len ha, List.length_map]
        exact Nat.le_trans (show _ ≤ 4 by simp; omega) (by decide)
      · exact q l _ _ (t2.trans (same_upd nl)) upd_same (dpA_same (t2.trans (same_upd nl)) (.cons hr3 (dpA_same (Same.refl _) ha)))
end
/-! ### levels and what stands within -/
def szF : Nat → PyData → Nat
  | 0, _ => 0
  | f + 1, d => 1 + ((inner d).map (szF f)).sum
def dpF : Nat → PyData → Nat
  | 0, _ => 0
  | f + 1, d => 1 + ((inner d).map (dpF f)).foldr max 0
def fmF (n : Int) : Nat → PyData → Bool
  | 0, _ => true
  | f + 1, d => hasForm n d && (inner d).all (fmF n f)
def sums (g : PyData → Nat) (l : List PyData) : Nat := (l.map g).sum
def most (g : PyData → Nat) (l : List PyData) : Nat := (l.map g).foldr max 0
theorem sums_app {g : PyData → Nat} {a b : List PyData} : sums g (a ++ b) = sums g a + sums g b := by
  unfold sums
  rw [List.map_append, List.sum_append]
theorem most_app {g : PyData → Nat} : ∀ {a b : List PyData}, most g (a ++ b) = max (most g a) (most g b)
  | [], b => by
    show most g b = max 0 (most g b)
    omega
  | d :: a, b => by
    show max (g d) (most g (a ++ b)) = max (max (g d) (most g a)) (most g b)
    rw [most_app]
    omega
theorem sums_flat {f : Nat} : ∀ {l : List PyData}, sums (szF (f + 1)) l = l.length + sums (szF f) (l.flatMap inner)
  | [] => rfl
  | d :: l => by
    rw [List.flatMap_cons, sums_app]
    show (1 + sums (szF f) (inner d)) + sums (szF (f + 1)) l = (l.length + 1) + _
    rw [sums_flat]
    omega
theorem most_flat {f : Nat} : ∀ {l : List PyData}, l ≠ [] → most (dpF (f + 1)) l = 1 + most (dpF f) (l.flatMap inner)
  | [], h => absurd rfl h
  | [d], _ => by
    rw [List.flatMap_cons, List.flatMap_nil, List.append_nil]
    show max (1 + most (dpF f) (inner d)) 0 = _
    omega
  | d :: e :: l, _ => by
    rw [List.flatMap_cons, most_app]
    have h := most_flat (f := f) (l := e :: l) (List.cons_ne_nil _ _)
    show max (1 + most (dpF f) (inner d)) (most (dpF (f + 1)) (e :: l)) = _
    rw [h]
    omega
theorem all_flat {n : Int} {f : Nat} : ∀ {l : List PyData}, l.all (fmF n (f + 1)) = (l.all (hasForm n) && (l.flatMap inner).all (fmF n f))
  | [] => rfl
  | d :: l => by
    rw [List.flatMap_cons, List.all_append, List.all_cons, List.all_cons, all_flat]
    show ((hasForm n d && (inner d).all (fmF n f)) && (l.all (hasForm n) && (l.flatMap inner).all (fmF n f))) = _
    cases hasForm n d <;> cases (inner d).all (fmF n f) <;> cases l.all (hasForm n) <;> cases (l.flatMap inner).all (fmF n f) <;> rfl
theorem goT_is {n : Int} : ∀ (f : Nat) (lv : List PyData) (deep many : Nat), f + deep = 9 → 1 ≤ f → many ≤ 30 → goT n f lv deep many = (lv.all (fmF n f) && (decide (many + sums (szF f) lv ≤ 30) && decide (deep + most (dpF f) lv ≤ 8)))
  | 0, _, _, _, _, h, _ => absurd h (by decide)
  | f + 1, [], deep, many, hf, _, hm => by
    show true = (true && (decide (many + 0 ≤ 30) && decide (deep + 0 ≤ 8)))
    rw [decide_eq_true (show many + 0 ≤ 30 by omega), decide_eq_true (show deep + 0 ≤ 8 by omega)]
    rfl
  | f + 1, d :: ds, deep, many, hf, _, hm => by
    have hne : d :: ds ≠ [] := List.cons_ne_nil _ _
    generalize d :: ds = lv at hne
    rw [goT_cons hne, all_flat, sums_flat, most_flat hne]
    by_cases h1 : 8 < deep + 1 ∨ 30 < many + lv.length
    · rw [decide_eq_true h1]
      have h2 : (decide (many + (lv.length + sums (szF f) (lv.flatMap inner)) ≤ 30) && decide (deep + (1 + most (dpF f) (lv.flatMap inner)) ≤ 8)) = false := by
        rcases h1 with h1 | h1
        · rw [decide_eq_false (show ¬ deep + (1 + most (dpF f) (lv.flatMap inner)) ≤ 8 by omega), Bool.and_false]
        · rw [decide_eq_false (show ¬ many + (lv.length + sums (szF f) (lv.flatMap inner)) ≤ 30 by omega)]
          rfl
      rw [h2, Bool.and_false]
      rfl
    · rw [decide_eq_false h1]
      rw [goT_is f _ (deep + 1) (many + lv.length) (by omega) (by omega) (by omega)]
      have e1 : decide (many + lv.length + sums (szF f) (lv.flatMap inner) ≤ 30) = decide (many + (lv.length + sums (szF f) (lv.flatMap inner)) ≤ 30) := by
        rw [Nat.add_assoc]
      have e2 : decide (deep + 1 + most (dpF f) (lv.flatMap inner) ≤ 8) = decide (deep + (1 + most (dpF f) (lv.flatMap inner)) ≤ 8) := by
        rw [Nat.add_assoc]
      rw [e1, e2]
      cases lv.all (hasForm n) <;> cases (lv.flatMap inner).all (fmF n f) <;> rfl
theorem isTerm_is (n : Int) (d : PyData) : isTerm n d = (fmF n 9 d && (decide (szF 9 d ≤ 30) && decide (dpF 9 d ≤ 8))) := by
  unfold isTerm
  rw [goT_is 9 [d] 0 0 rfl (by decide) (by decide)]
  have e1 : sums (szF 9) [d] = szF 9 d := by
    show szF 9 d + 0 = _
    omega
  have e2 : most (dpF 9) [d] = dpF 9 d := by
    show max (dpF 9 d) 0 = _
    omega
  rw [e1, e2, Nat.zero_add, Nat.zero_add]
  show ((fmF n 9 d && true) && _) = _
  rw [Bool.and_true]
def bin (h : Str) : Prop := h = "plus" ∨ h = "less" ∨ h = "same"
/-! ### the law's terms -/
inductive Gd (n : Int) : Nat → PyData → Prop
  | val {f : Nat} {i : Int} : 0 ≤ i → i < 3 → Gd n (f + 1) (.int i)
  | arg {f : Nat} {i : Int} : 0 ≤ i → i < n → Gd n (f + 1) (.tuple [.str "arg", .int i])
  | cell {f : Nat} {x : Str} : isName (.str x) = true → Gd n (f + 1) (.tuple [.str "cell", .str x])
  | tick {f : Nat} : Gd n (f + 1) (.tuple [.str "tick"])
  | call {f : Nat} {x : Str} {ts : List PyData} : isName (.str x) = true → ts.length ≤ 2 → (∀ t ∈ ts, Gd n f t) → Gd n (f + 1) (.tuple [.str "call", .str x, .tuple ts])
  | op {f : Nat} {z : Str} {ts : List PyData} : (z = "if" ∧ ts.length = 3) ∨ (bin z ∧ ts.length = 2) → (∀ t ∈ ts, Gd n f t) → Gd n (f + 1) (.tuple (.str z :: ts))
theorem op_word {z : Str} {ts : List PyData} (h : (z = "if" ∧ ts.length = 3) ∨ (bin z ∧ ts.length = 2)) : z = "if" ∨ z = "plus" ∨ z = "less" ∨ z = "same" := by
  rcases h with ⟨h, _⟩ | ⟨h, _⟩
  · exact .inl h
  · exact .inr h
theorem op_inner {z : Str} {ts : List PyData} (h : z = "if" ∨ z = "plus" ∨ z = "less" ∨ z = "same") : inner (.tuple (.str z :: ts)) = ts := by
  rcases h with rfl | rfl | rfl | rfl <;> rfl
theorem gd_inner {n : Int} {f : Nat} {d : PyData} (h : Gd n (f + 1) d) : (∀ t ∈ inner d, Gd n f t) ∧ (inner d).length ≤ 3 := by
  cases h with
  | val _ _ => exact ⟨fun t ht => (by cases ht), Nat.zero_le _⟩
  | arg _ _ => exact ⟨fun t ht => (by cases ht), Nat.zero_le _⟩
  | cell _ => exact ⟨fun t ht => (by cases ht), Nat.zero_le _⟩
  | tick => exact ⟨fun t ht => (by cases ht), Nat.zero_le _⟩
  | call _ hl ht => exact ⟨ht, Nat.le_trans hl (by decide)⟩
  | op hz ht =>
    rw [op_inner (op_word hz)]
    refine ⟨ht, ?_⟩
    rcases hz with ⟨_, h⟩ | ⟨_, h⟩ <;> omega
theorem gd_form {n : Int} {f : Nat} {d : PyData} (h : Gd n f d) : hasForm n d = true := by
  cases h with
  | val h0 h3 =>
    show (isValue (.int _) || false) = true
    have e : isValue (.int _) = true := Bool.and_eq_true_iff.mpr ⟨decide_eq_true h0, decide_eq_true h3⟩
    rw [e]
    rfl
  | arg h0 h3 => exact Bool.and_eq_true_iff.mpr ⟨decide_eq_true h0, decide_eq_true h3⟩
  | cell hx => exact hx
  | tick => rfl
  | call hx hl _ => exact Bool.and_eq_true_iff.mpr ⟨hx, decide_eq_true (by omega)⟩
  | @op f z ts hz _ =>
    rcases hz with ⟨rfl, h⟩ | ⟨rfl | rfl | rfl, h⟩
    · show decide ((ts.length : Int) + 1 = 4) = true
      exact decide_eq_true (by omega)
    · show decide ((ts.length : Int) + 1 = 3) = true
      exact decide_eq_true (by omega)
    · show decide ((ts.length : Int) + 1 = 3) = true
      exact decide_eq_true (by omega)
    · show decide ((ts.length : Int) + 1 = 3) = true
      exact decide_eq_true (by omega)
theorem gd_fm {n : Int} : ∀ (k f : Nat) (d : PyData), Gd n f d → fmF n k d = true
  | 0, _, _, _ => rfl
  | k + 1, 0, d, h => nomatch h
  | k + 1, f + 1, d, h => by
    show (hasForm n d && (inner d).all (fmF n k)) = true
    rw [gd_form h]
    exact List.all_eq_true.mpr fun t ht => gd_fm k f t ((gd_inner h).1 t ht)
theorem szDs_of : ∀ {ts : List PyData}, (∀ t ∈ ts, szD t = true) → szDs ts = true
  | [], _ => rfl
  | t :: ts, h => by
    show (szD t && szDs ts) = true
    rw [h t List.mem_cons_self, szDs_of fun u hu => h u (List.mem_cons_of_mem _ hu)]
    rfl
theorem noLs_of : ∀ {ts : List PyData}, (∀ t ∈ ts, noL t = true) → noLs ts = true
  | [], _ => rfl
  | t :: ts, h => by
    show (noL t && noLs ts) = true
    rw [h t List.mem_cons_self, noLs_of fun u hu => h u (List.mem_cons_of_mem _ hu)]
    rfl
theorem name_sz {x : Str} (h : isName (.str x) = true) : szD (.str x) = true := by
  have h1 := Bool.and_eq_true_iff.mp (Bool.and_eq_true_iff.mp (show (decide (1 ≤ (x.length : Int)) && decide ((x.length : Int) ≤ 8) && x.cps.toList.all lowCode) = true from h)).1
  have h2 := of_decide_eq_true h1.2
  exact decide_eq_true (by omega)
theorem word_sz {z : Str} (h : z = "if" ∨ z = "plus" ∨ z = "less" ∨ z = "same") : szD (.str z) = true := by
  rcases h with rfl | rfl | rfl | rfl <;> decide +kernel
theorem gd_sz {n : Int} : ∀ (f : Nat) (d : PyData), Gd n f d → szD d = true
  | 0, _, h => nomatch h
  | f + 1, d, h => by
    cases h with
    | val _ _ => rfl
    | arg _ _ =>
      show (decide (2 ≤ 1000) && (szD (.str "arg") && (true && true))) = true
      decide +kernel
    | cell hx =>
      show (decide (2 ≤ 1000) && (szD (.str "cell") && (szD (.str _) && true))) = true
      rw [name_sz hx]
      decide +kernel
    | tick => decide +kernel
    | @call _ x ts hx hl ht =>
      show (decide (3 ≤ 1000) && (szD (.str "call") && (szD (.str x) && ((decide (ts.length ≤ 1000) && szDs ts) && true)))) = true
      rw [name_sz hx, szDs_of fun t h => gd_sz f t (ht t h), decide_eq_true (show ts.length ≤ 1000 by omega)]
      decide +kernel
    | @op _ z ts hz ht =>
      show (decide (ts.length + 1 ≤ 1000) && (szD (.str z) && szDs ts)) = true
      rw [word_sz (op_word hz), szDs_of fun t h => gd_sz f t (ht t h), decide_eq_true (show ts.length + 1 ≤ 1000 by rcases hz with ⟨_, h⟩ | ⟨_, h⟩ <;> omega)]
      rfl
theorem gd_nl {n : Int} : ∀ (f : Nat) (d : PyData), Gd n f d → noL d = true
  | 0, _, h => nomatch h
  | f + 1, d, h => by
    cases h with
    | val _ _ => rfl
    | arg _ _ => rfl
    | cell hx => rfl
    | tick => rfl
    | @call _ x ts hx hl ht =>
      show (true && (true && (noLs ts && true))) = true
      rw [noLs_of fun t h => gd_nl f t (ht t h)]
      rfl
    | @op _ z ts hz ht =>
      show (true && noLs ts) = true
      rw [noLs_of fun t h => gd_nl f t (ht t h)]
      rfl
theorem gd_szF {n : Int} : ∀ (f k k' : Nat) (d : PyData), Gd n f d → f ≤ k → f ≤ k' → szF k d = szF k' d
  | 0, _, _, _, h, _, _ => nomatch h
  | f + 1, 0, _, _, _, h, _ => by omega
  | f + 1, _, 0, _, _, _, h => by omega
  | f + 1, k + 1, k' + 1, d, h, h1, h2 => by
    show 1 + ((inner d).map (szF k)).sum = 1 + ((inner d).map (szF k')).sum
    rw [List.map_congr_left fun t ht => gd_szF f k k' t ((gd_inner h).1 t ht) (by omega) (by omega)]
theorem gd_dpF {n : Int} : ∀ (f k k' : Nat) (d : PyData), Gd n f d → f ≤ k → f ≤ k' → dpF k d = dpF k' d
  | 0, _, _, _, h, _, _ => nomatch h
  | f + 1, 0, _, _, _, h, _ => by omega
  | f + 1, _, 0, _, _, _, h => by omega
  | f + 1, k + 1, k' + 1, d, h, h1, h2 => by
    show 1 + ((inner d).map (dpF k)).foldr max 0 = 1 + ((inner d).map (dpF k')).foldr max 0
    rw [List.map_congr_left fun t ht => gd_dpF f k k' t ((gd_inner h).1 t ht) (by omega) (by omega)]
theorem gd_dle {n : Int} : ∀ (f k : Nat) (d : PyData), Gd n f d → dpF k d ≤ f
  | 0, _, _, h => nomatch h
  | f + 1, 0, _, _ => Nat.zero_le _
  | f + 1, k + 1, d, h => by
    show 1 + ((inner d).map (dpF k)).foldr max 0 ≤ f + 1
    have h1 : ∀ l : List PyData, (∀ t ∈ l, dpF k t ≤ f) → (l.map (dpF k)).foldr max 0 ≤ f := fun l => by
      induction l with
      | nil => exact fun _ => Nat.zero_le _
      | cons a l ih =>
        intro hl
        show max (dpF k a) _ ≤ f
        have := hl a List.mem_cons_self
        have := ih fun t ht => hl t (List.mem_cons_of_mem _ ht)
        omega
    have := h1 (inner d) fun t ht => gd_dle f k t ((gd_inner h).1 t ht)
    omega
theorem gd_many {n : Int} : ∀ (f k : Nat) (d : PyData), Gd n f d → szF k d ≤ 4 ^ f
  | 0, _, _, h => nomatch h
  | f + 1, 0, _, _ => Nat.zero_le _
  | f + 1, k + 1, d, h => by
    show 1 + ((inner d).map (szF k)).sum ≤ 4 ^ (f + 1)
    have h1 : ∀ l : List PyData, (∀ t ∈ l, szF k t ≤ 4 ^ f) → (l.map (szF k)).sum ≤ l.length * 4 ^ f := fun l => by
      induction l with
      | nil => exact fun _ => Nat.zero_le _
      | cons a l ih =>
        intro hl
        rw [List.map_cons, List.sum_cons, List.length_cons, Nat.succ_mul]
        have := hl a List.mem_cons_self
        have := ih fun t ht => hl t (List.mem_cons_of_mem _ ht)
        omega
    have h2 := h1 (inner d) fun t ht => gd_many f k t ((gd_inner h).1 t ht)
    have h3 := Nat.mul_le_mul_right (4 ^ f) (gd_inner h).2
    have h4 : 1 ≤ 4 ^ f := Nat.one_le_pow _ _ (by decide)
    rw [Nat.pow_succ]
    omega
def sz9 (d : PyData) : Nat := szF 9 d
def dp9 (d : PyData) : Nat := dpF 9 d
theorem sz9_in {n : Int} {f : Nat} {d : PyData} (h : Gd n (f + 1) d) (hf : f ≤ 8) : sz9 d = 1 + ((inner d).map sz9).sum := by
  show 1 + ((inner d).map (szF 8)).sum = _
  rw [List.map_congr_left fun t ht => gd_szF f 8 9 t ((gd_inner h).1 t ht) hf (by omega)]
  rfl
theorem dp9_in {n : Int} {f : Nat} {d : PyData} (h : Gd n (f + 1) d) (hf : f ≤ 8) : dp9 d = 1 + ((inner d).map dp9).foldr max 0 := by
  show 1 + ((inner d).map (dpF 8)).foldr max 0 = _
  rw [List.map_congr_left fun t ht => gd_dpF f 8 9 t ((gd_inner h).1 t ht) hf (by omega)]
  rfl
theorem gd_isTerm {n : Int} {f : Nat} {d : PyData} (h : Gd n f d) (hf : f ≤ 8) : isTerm n d = decide (sz9 d ≤ 30) := by
  rw [isTerm_is, gd_fm 9 f d h, decide_eq_true (Nat.le_trans (gd_dle f 9 d h) hf), Bool.and_true]
  rfl
theorem name_ok {x : Str} (h : isName (.str x) = true) : PyData.strOk x = true := by
  have h1 := (Bool.and_eq_true_iff.mp (show (decide (1 ≤ (x.length : Int)) && decide ((x.length : Int) ≤ 8) && x.cps.toList.all lowCode) = true from h)).2
  unfold PyData.strOk
  rw [← Array.all_toList]
  refine List.all_eq_true.mpr fun c hc => ?_
  have h2 := Bool.and_eq_true_iff.mp (show (decide (97 ≤ c) && decide (c ≤ 122)) = true from List.all_eq_true.mp h1 c hc)
  have h3 := of_decide_eq_true h2.2
  exact decide_eq_true (by omega)
theorem word_ok {z : Str} (h : z = "if" ∨ z = "plus" ∨ z = "less" ∨ z = "same") : PyData.strOk z = true := by
  rcases h with rfl | rfl | rfl | rfl <;> decide +kernel
theorem canLay_of : ∀ {ts : List PyData}, (∀ t ∈ ts, t.canLay0 = true) → PyData.canLayAll0 ts = true
  | [], _ => rfl
  | t :: ts, h => by
    show (t.canLay0 && PyData.canLayAll0 ts) = true
    rw [h t List.mem_cons_self, canLay_of fun u hu => h u (List.mem_cons_of_mem _ hu)]
    rfl
theorem depth_of {m : Nat} : ∀ {ts : List PyData}, (∀ t ∈ ts, t.depth ≤ m) → PyData.depthAll ts ≤ m
  | [], _ => Nat.zero_le _
  | t :: ts, h => by
    show max t.depth (PyData.depthAll ts) ≤ m
    have h1 := h t List.mem_cons_self
    have h2 := depth_of fun u hu => h u (List.mem_cons_of_mem _ hu)
    omega
theorem gd_lay {n : Int} : ∀ (f : Nat) (d : PyData), Gd n f d → d.canLay0 = true ∧ d.depth ≤ 2 * f
  | 0, _, h => nomatch h
  | f + 1, d, h => by
    cases h with
    | val _ _ => exact ⟨rfl, Nat.zero_le _⟩
    | arg _ _ =>
      refine ⟨?_, ?_⟩
      · show (PyData.strOk "arg" && (true && true)) = true
        decide +kernel
      · show (max 0 (max 0 0)) + 1 ≤ _
        omega
    | @cell _ x hx =>
      refine ⟨?_, ?_⟩
      · show (PyData.strOk "cell" && (PyData.strOk x && true)) = true
        rw [name_ok hx]
        decide +kernel
      · show (max 0 (max 0 0)) + 1 ≤ _
        omega
    | tick =>
      refine ⟨by decide +kernel, ?_⟩
      show (max 0 0) + 1 ≤ _
      omega
    | @call _ x ts hx hl ht =>
      refine ⟨?_, ?_⟩
      · show (PyData.strOk "call" && (PyData.strOk x && (PyData.canLayAll0 ts && true))) = true
        rw [name_ok hx, canLay_of fun t h => (gd_lay f t (ht t h)).1]
        decide +kernel
      · have h1 := depth_of fun t h => (gd_lay f t (ht t h)).2
        show (max 0 (max 0 (max (PyData.depthAll ts + 1) 0))) + 1 ≤ _
        omega
    | @op _ z ts hz ht =>
      refine ⟨?_, ?_⟩
      · show (PyData.strOk z && PyData.canLayAll0 ts) = true
        rw [word_ok (op_word hz), canLay_of fun t h => (gd_lay f t (ht t h)).1]
        rfl
      · have h1 := depth_of fun t h => (gd_lay f t (ht t h)).2
        show (max 0 (PyData.depthAll ts)) + 1 ≤ _
        omega
theorem gd_shaped {n : Int} {f : Nat} {d : PyData} (h : Gd n f d) (hf : f ≤ 8) : SeqAt.shaped d = true := by
  have h1 := gd_lay f d h
  exact Bool.and_eq_true_iff.mpr ⟨h1.1, decide_eq_true (by omega)⟩
theorem gd_tup {n : Int} {f : Nat} {d : PyData} (h : Gd n f d) : (∃ i, d = .int i ∧ 0 ≤ i ∧ i < 3) ∨ ∃ z rest, d = .tuple (.str z :: rest) ∧ (z = "call" → ∃ x ts, rest = [.str x, .tuple ts]) ∧ (z = "tick" → rest = []) := by
  cases h with
  | val h0 h3 => exact .inl ⟨_, rfl, h0, h3⟩
  | arg _ _ => exact .inr ⟨"arg", _, rfl, fun e => absurd e (by decide +kernel), fun e => absurd e (by decide +kernel)⟩
  | cell _ => exact .inr ⟨"cell", _, rfl, fun e => absurd e (by decide +kernel), fun e => absurd e (by decide +kernel)⟩
  | tick => exact .inr ⟨"tick", _, rfl, fun e => absurd e (by decide +kernel), fun _ => rfl⟩
  | call _ _ _ => exact .inr ⟨"call", _, rfl, fun _ => ⟨_, _, rfl⟩, fun e => absurd e (by decide +kernel)⟩
  | @op _ z ts hz _ =>
    refine .inr ⟨z, ts, rfl, fun e => ?_, fun e => ?_⟩
    · rcases op_word hz with h | h | h | h <;> (rw [h] at e; exact absurd e (by decide +kernel))
    · rcases op_word hz with h | h | h | h <;> (rw [h] at e; exact absurd e (by decide +kernel))
/-! ### the law's names -/
abbrev sLNames : Stmt := topS 36
theorem scLNames : FnScope ["_law_pool_here", "_law_count", "_law_signs", "_law_origin", "_law_step", "_law_ends", "_law_head", "_law_tail", "_law_k"] ["_law_pool_here", "_law_count"] (defScope sLNames) := ⟨rfl, rfl, rfl, by decide +kernel, rfl, by decide +kernel, by decide +kernel⟩
theorem low_at : ∀ i : Nat, i < 26 → ∃ c, (Str.ofString "abcdefghijklmnopqrstuvwxyz").cps.toList[i]? = some c ∧ lowCode c = true ∧ c = 97 + i := by
  have h : ∀ i : Nat, i < 26 → ((Str.ofString "abcdefghijklmnopqrstuvwxyz").cps.toList[i]?).any (fun c => lowCode c && decide (c = 97 + i)) = true := by decide +kernel
  intro i hi
  have h1 := h i hi
  cases e : (Str.ofString "abcdefghijklmnopqrstuvwxyz").cps.toList[i]? with
  | none =>
    rw [e] at h1
    cases h1
  | some c =>
    rw [e] at h1
    have h2 : (lowCode c && decide (c = 97 + i)) = true := h1
    rw [Bool.and_eq_true] at h2
    exact ⟨c, rfl, h2.1, of_decide_eq_true h2.2⟩
theorem name_of {h t : Str} {c : Nat} (hh : h.cps.toList.all lowCode = true) (ht : t.cps.toList.all lowCode = true) (hc : lowCode c = true) (hl : h.length + t.length ≤ 7) : isName (.str (h ++ ⟨#[c]⟩ ++ t)) = true := by
  have e1 : (h ++ (⟨#[c]⟩ : Str) ++ t).cps = h.cps ++ #[c] ++ t.cps := rfl
  have e2 : (h ++ (⟨#[c]⟩ : Str) ++ t).length = h.length + 1 + t.length := by
    show (h ++ (⟨#[c]⟩ : Str) ++ t).cps.size = h.cps.size + 1 + t.cps.size
    rw [e1, Array.size_append, Array.size_append]
    rfl
  show (decide (1 ≤ ((h ++ (⟨#[c]⟩ : Str) ++ t).length : Int)) && decide (((h ++ (⟨#[c]⟩ : Str) ++ t).length : Int) ≤ 8) && (h ++ (⟨#[c]⟩ : Str) ++ t).cps.toList.all lowCode) = true
  rw [e2, decide_eq_true (by omega), decide_eq_true (by omega), e1, Array.toList_append, Array.toList_append, List.all_append, List.all_append, hh, ht]
  show (true && true && (true && (lowCode c && true) && true)) = true
  rw [hc]
  rfl
theorem len_of {h t : Str} {c : Nat} : (h ++ (⟨#[c]⟩ : Str) ++ t).length = h.length + 1 + t.length := by
  show (h ++ (⟨#[c]⟩ : Str) ++ t).cps.size = h.cps.size + 1 + t.cps.size
  rw [show (h ++ (⟨#[c]⟩ : Str) ++ t).cps = h.cps ++ #[c] ++ t.cps from rfl, Array.size_append, Array.size_append]
  rfl
theorem but_sameN {p : Addr} {H H1 H2 : Hp} (b : But p H H1) (s : Same H1 H2) : But p H H2 := b.trans (But.of s)
theorem dpT {K : PySem.W.Frag} {H : Hp} {t : Addr} {xs : List V} {ds : List PyData} (n : H t = none) (h : DpAll K H xs ds) : Dp K (upd H t (.tup xs)) (.ref t) (.tuple ds) := .tup (.inl (.inl upd_same)) (dpA_same (same_upd n) h)
theorem sign_inj {h tl : Str} {c d : Nat} (e : h ++ (⟨#[c]⟩ : Str) ++ tl = h ++ (⟨#[d]⟩ : Str) ++ tl) : c = d := by
  have e1 : (h.cps ++ #[c] ++ tl.cps) = (h.cps ++ #[d] ++ tl.cps) := congrArg Str.cps e
  have e2 := congrArg Array.toList e1
  rw [Array.toList_append, Array.toList_append, Array.toList_append, Array.toList_append] at e2
  have e3 := List.append_cancel_left (List.append_cancel_right e2)
  exact (List.cons.inj e3).1
theorem signs_nodup {h tl : Str} {o z : Int} (z0 : 0 ≤ z) (z1 : z < 6) {zs : List Str} (hl : zs.length ≤ 8) (hs : ∀ (m : Nat) (u : Str), zs[m]? = some u → u = h ++ (⟨#[97 + ((o + (1 + 2 * z) * (m : Int)) % 26).toNat]⟩ : Str) ++ tl) : zs.Nodup := by
  refine List.pairwise_iff_getElem.mpr fun i j hi hj lt e => ?_
  have e1 := hs i _ (List.getElem?_eq_getElem hi)
  have e2 := hs j _ (List.getElem?_eq_getElem hj)
  rw [e1, e2] at e
  have e3 := sign_inj e
  rcases (show z = 0 ∨ z = 1 ∨ z = 2 ∨ z = 3 ∨ z = 4 ∨ z = 5 by omega) with q | q | q | q | q | q <;> subst q <;> omega
def spLNames (K : PySem.W.Frag) : Sp := fun vs H Q _ => ∃ (p : Addr) (cn : Nat), vs = [.ref p, .int cn] ∧ cn ≤ 8 ∧ PoolAt H p ∧ ∀ (r : Addr) (zs : List Str) H', But p H H' → PoolAt H' p → H' r = some (.lst (zs.map V.str)) → zs.length = cn → (∀ z ∈ zs, isName (.str z) = true) → zs.Nodup → (∀ z ∈ zs, z.length ≤ 4 ∨ z.length = 8) → Q (.ref r) H'
def endsD : List PyData := [.tuple [.str "", .str ""], .tuple [.str "", .str "q"], .tuple [.str "ab", .str ""], .tuple [.str "abcdefg", .str ""], .tuple [.str "", .str "abcdefg"]]
theorem ends_are : ∀ {i : Nat} {d : PyData}, endsD[i]? = some d → ∃ h t : Str, d = .tuple [.str h, .str t] ∧ h.cps.toList.all lowCode = true ∧ t.cps.toList.all lowCode = true ∧ h.length + t.length ≤ 7 ∧ (h.length + t.length ≤ 3 ∨ h.length + t.length = 7)
  | 0, _, e => ⟨_, _, (Option.some.inj e).symm, by decide +kernel, by decide +kernel, by decide +kernel, by decide +kernel⟩
  | 1, _, e => ⟨_, _, (Option.some.inj e).symm, by decide +kernel, by decide +kernel, by decide +kernel, by decide +kernel⟩
  | 2, _, e => ⟨_, _, (Option.some.inj e).symm, by decide +kernel, by decide +kernel, by decide +kernel, by decide +kernel⟩
  | 3, _, e => ⟨_, _, (Option.some.inj e).symm, by decide +kernel, by decide +kernel, by decide +kernel, by decide +kernel⟩
  | 4, _, e => ⟨_, _, (Option.some.inj e).symm, by decide +kernel, by decide +kernel, by decide +kernel, by decide +kernel⟩
  | n + 5, _, e => nomatch e
section
variable {P : Program} {w : World} {K : PySem.W.Frag} {mg : Str → Option Value} {base : Heap}
theorem ok_lnames {f fD fP : Addr} {fd dD dP : FuncData} (F : Fun K "_law_names" "_law_names" sLNames f fd) (M : Blt mg)
    (FD : Fun K "_law_draw" "_law_draw" sDraw fD dD) (bD : Binds K dD ["_law_pool_here", "_law_many"] []) (gD : mg "_law_draw" = some (.ref fD))
    (FP : Fun K "_law_pick" "_law_pick" sPick fP dP) (bP : Binds K dP ["_law_pool_here", "_law_row"] []) (gP : mg "_law_pick" = some (.ref fP)) :
    FnOk P w K mg base CX0 3 f fd ["_law_pool_here", "_law_count"] (spLNames K) := by
  have GD : FnOk P w K mg base CX0 1 fD dD ["_law_pool_here", "_law_many"] spDraw := ok_draw FD M
  have GP : FnOk P w K mg base CX0 2 fP dP ["_law_pool_here", "_law_row"] (spPick K) := ok_pick FP M FD bD gD
  refine F.ok scLNames (fun vs H Q E h => ?_) (fun cdv A outer s H vs Q E hr h => ?_)
  · obtain ⟨p, cn, rfl, _⟩ := h
    rfl
  · obtain ⟨p, cn, rfl, hc8, hp, q⟩ := h
    have hr1 : Room 1 _ := hr.mono (by omega)
    refine ⟨_, pss_cons (ps_set (i := 2) scLNames.nd rfl (.inr rfl) pe_str)
      (pss_cons (ps_asg (pe_tup (pa_cons (pe_call GD hr1 (by rfl) gD FD.kp bD .nil pass0 (pa_cons (pv 0) (pa_cons pe_int pa_nil)))
          (pa_cons (pe_op op_add pe_int (pe_op op_mul pe_int (pe_call GD hr1 (by rfl) gD FD.kp bD .nil pass0 (pa_cons (pv 0) (pa_cons pe_int pa_nil))))) pa_nil)))
          (pg_tup (by rfl) (pgs_cons (pg_name (i := 3) scLNames.nd rfl (.inr rfl)) (pgs_cons (pg_name (i := 4) scLNames.nd rfl (.inr rfl)) pgs_nil))))
      (pss_cons (ps_set (i := 5) scLNames.nd rfl (.inl rfl) (pe_lst (pa_cons (pe_tup (pa_cons pe_str (pa_cons pe_str pa_nil))) (pa_cons (pe_tup (pa_cons pe_str (pa_cons pe_str pa_nil))) (pa_cons (pe_tup (pa_cons pe_str (pa_cons pe_str pa_nil)))
          (pa_cons (pe_tup (pa_cons pe_str (pa_cons pe_str pa_nil))) (pa_cons (pe_tup (pa_cons pe_str (pa_cons pe_str pa_nil))) pa_nil)))))))
      (pss_cons (ps_asg (pe_call GP hr (by rfl) gP FP.kp bP .nil pass0 (pa_cons (pv 0) (pa_cons (pv 5) pa_nil)))
          (pg_tup (by rfl) (pgs_cons (pg_name (i := 6) scLNames.nd rfl (.inr rfl)) (pgs_cons (pg_name (i := 7) scLNames.nd rfl (.inr rfl)) pgs_nil))))
      (pss_one (ps_ret (pe_lc (own := [("_law_k", 8)]) (g := gName 8) (by rfl) scLNames.nd (pi_range1 (by rfl) M.range (pa_cons (pv 1) pa_nil)) (blkOk_by (own := [("_law_k", 8)]) (N := ["_law_pool_here", "_law_count", "_law_signs", "_law_origin", "_law_step", "_law_ends", "_law_head", "_law_tail", "_law_k"]) (sc := defScope sLNames) (by decide +kernel))
          (fun _ _ _ _ _ => pg_name (i := 8) scLNames.nd rfl (Or.inl rfl)) (fun _ _ _ _ _ => pts_nil)
          (fun _ _ _ _ _ => pe_op op_add_str (pe_op op_add_str (pv 6) (pe_ix ix_str (pv 2) (pe_op op_mod (pe_callTy call_int1 (by rfl) M.int (by decide +kernel) (pa_cons (pe_op op_add (pv 3) (pe_op op_mul (pv 4) (pv 8))) pa_nil)) pe_int) (fun _ _ => rfl))) (pv 7)))))))), ?_⟩
    refine q_c (i := 2) (v := .str "abcdefghijklmnopqrstuvwxyz") ?_
    dsimp only [List.set]
    refine ⟨.ref p, rfl, p, 26, rfl, hp, by omega, by omega, fun o H1 o0 o1 b1 hp1 fr1 => ?_⟩
    refine ⟨.ref p, rfl, p, 6, rfl, hp1, by omega, by omega, fun z H2 z0 z1 b2 hp2 fr2 => ?_⟩
    refine ⟨_, _, rfl, rfl, .inl ⟨by decide, by decide⟩, _, _, rfl, rfl, (by show 2 ≤ sizeLine; decide), fun t nt => ?_⟩
    refine ⟨t, _, rfl, .inl (.inl upd_same), rfl, _, _, rfl, _, _, rfl, rfl, ?_⟩
    have st : Same H2 (upd H2 t (.tup [.int o, .int (1 + 2 * z)])) := same_upd nt
    have b3 := but_sameN (b1.trans b2) st
    have hp3 := hp2.same st
    generalize upd H2 t (.tup [.int o, .int (1 + 2 * z)]) = H3 at b3 hp3
    refine ⟨(by show 2 ≤ sizeLine; decide), fun t1 m1 => ⟨(by show 2 ≤ sizeLine; decide), fun t2 m2 => ⟨(by show 2 ≤ sizeLine; decide), fun t3 m3 => ⟨(by show 2 ≤ sizeLine; decide), fun t4 m4 => ⟨(by show 2 ≤ sizeLine; decide), fun t5 m5 => ⟨(by show 5 ≤ sizeLine; decide), fun l ml => ?_⟩⟩⟩⟩⟩⟩
    have k2 := same_upd (o := .tup [.str "", .str "q"]) m2
    have k3 := same_upd (o := .tup [.str "ab", .str ""]) m3
    have k4 := same_upd (o := .tup [.str "abcdefg", .str ""]) m4
    have k5 := same_upd (o := .tup [.str "", .str "abcdefg"]) m5
    have k1 := same_upd (o := .tup [.str "", .str ""]) m1
    have kl := same_upd (o := .lst [.ref t1, .ref t2, .ref t3, .ref t4, .ref t5]) ml
    have two : ∀ (H : Hp) (a b : Str), DpAll K H [.str a, .str b] [.str a, .str b] := fun H a b => .cons (.str a) (.cons (.str b) .nil)
    have hA : DpAll K _ [.ref t1, .ref t2, .ref t3, .ref t4, .ref t5] endsD := dpA_same kl (.cons (dp_same (k2.trans (k3.trans (k4.trans k5))) (dpT m1 (two _ _ _))) (.cons (dp_same (k3.trans (k4.trans k5)) (dpT m2 (two _ _ _))) (.cons (dp_same (k4.trans k5) (dpT m3 (two _ _ _))) (.cons (dp_same k5 (dpT m4 (two _ _ _))) (.cons (dpT m5 (two _ _ _)) .nil)))))
    have s4 := k1.trans (k2.trans (k3.trans (k4.trans (k5.trans kl))))
    have el : (upd (upd (upd (upd (upd (upd H3 t1 (.tup [.str "", .str ""])) t2 (.tup [.str "", .str "q"])) t3 (.tup [.str "ab", .str ""])) t4 (.tup [.str "abcdefg", .str ""])) t5 (.tup [.str "", .str "abcdefg"])) l (.lst [.ref t1, .ref t2, .ref t3, .ref t4, .ref t5])) l = some (.lst [.ref t1, .ref t2, .ref t3, .ref t4, .ref t5]) := upd_same
    have npl : p ≠ l := (((((hp3.upd m1).upd m2).upd m3).upd m4).upd m5).ne ml
    generalize upd (upd (upd (upd (upd (upd H3 t1 (.tup [.str "", .str ""])) t2 (.tup [.str "", .str "q"])) t3 (.tup [.str "ab", .str ""])) t4 (.tup [.str "abcdefg", .str ""])) t5 (.tup [.str "", .str "abcdefg"])) l (.lst [.ref t1, .ref t2, .ref t3, .ref t4, .ref t5]) = H4 at hA s4 el
    have b4 := but_sameN b3 s4
    have hp4 := hp3.same s4
    refine ⟨.ref p, rfl, .ref l, rfl, p, l, _, rfl, hp4, npl, .inl (.inl (.inl el)), Nat.le_of_ble_eq_true rfl, Nat.le_of_ble_eq_true rfl, fun i hi H5 b5 hp5 fr5 => ?_⟩
    obtain ⟨de, hde, dv⟩ := dpA_at hA (List.getElem?_eq_getElem hi)
    obtain ⟨h, tl, rfl, lowh, lowt, hlen, hlen2⟩ := ends_are hde
    generalize [V.ref t1, .ref t2, .ref t3, .ref t4, .ref t5][i] = vv at dv
    cases dv with
    | @tup a ys _ hs ha =>
      cases ha with
      | cons h1 h2 =>
        cases h1
        cases h2 with
        | cons h3 h4 =>
          cases h3
          cases h4
          obtain ⟨px, py, pe, _⟩ := hp4
          refine ⟨a, _, rfl, but_sqT pe b5 hs, rfl, _, _, rfl, _, _, rfl, rfl, ?_⟩
          refine ⟨_, rfl, (cn : Int), rfl, by omega, by omega, fun D hD => ?_⟩
          refine walk_gen (walk_range (lo := 0) (n := (cn : Int).toNat)) (fun i H' => Same H5 H' ∧ ∃ zs : List Str, H' D = some (.lst (zs.map V.str)) ∧ zs.length = i ∧ (∀ z ∈ zs, isName (.str z) = true) ∧ ∀ (m : Nat) (u : Str), zs[m]? = some u → u = h ++ (⟨#[97 + ((o + (1 + 2 * z) * (m : Int)) % 26).toNat]⟩ : Str) ++ tl) ⟨same_upd hD, [], upd_same, rfl, (fun z h => by cases h), fun m u e => by simp at e⟩ (fun _ _ _ _ => True.intro) (fun i' x H6 H7 hi' pv' y => ?_) (fun H' pv' => ?_)
          · obtain ⟨s6, zs, e6, l6, a6, f6⟩ := pv'
            obtain ⟨rfl, rfl⟩ := y
            refine And.intro rfl ?_
            unfold tYes
            refine iteT ?_
            generalize hv : (o + (1 + 2 * z) * (0 + (i' : Int))) = vv
            have h1 := Int.emod_lt_of_pos vv (show (0 : Int) < 26 by decide)
            have h2 := Int.emod_nonneg vv (show (26 : Int) ≠ 0 by decide)
            obtain ⟨c, hc, lc, c97⟩ := low_at (vv % 26).toNat (by omega)
            have hat : atI (Str.ofString "abcdefghijklmnopqrstuvwxyz").cps.toList (vv % 26) = some c := by
              unfold atI ixN
              rw [if_pos h2, if_pos (show vv % 26 < (((Str.ofString "abcdefghijklmnopqrstuvwxyz").cps.toList.length : Nat) : Int) from h1)]
              exact hc
            refine ⟨_, rfl, _, rfl, _, rfl, _, rfl, _, rfl, _, _, rfl, rfl, .inl ⟨by omega, by omega⟩, _, _, rfl, rfl, .inl ⟨_, rfl, _, _, rfl, rfl, (by show (0 : Int) < 26; decide), ?_⟩⟩
            rw [hv]
            have hl1 : h.length + (⟨#[c]⟩ : Str).length ≤ sizeLine := Nat.le_trans (show h.length + 1 ≤ 8 by omega) (by decide)
            have hl2 : (h ++ (⟨#[c]⟩ : Str)).length + tl.length ≤ sizeLine := by
              have e2 : (h ++ (⟨#[c]⟩ : Str)).length = h.length + 1 := by
                show (h.cps ++ #[c]).size = h.cps.size + 1
                rw [Array.size_append]
                rfl
              rw [e2]
              exact Nat.le_trans (show h.length + 1 + tl.length ≤ 8 by omega) (by decide)
            refine ⟨_, _, c, rfl, rfl, (by decide +kernel), hat, _, _, rfl, rfl, hl1, _, rfl, _, _, rfl, rfl, hl2, zs.map V.str, e6, ?_, fun b o' e' => ?_, zs ++ [h ++ (⟨#[c]⟩ : Str) ++ tl], ?_, ?_, (fun u hu => ?_), fun m u em => ?_⟩
            · rw [List.length_map, l6]
              exact Nat.lt_of_le_of_lt (show i' ≤ 8 by omega) (by decide)
            · rw [upd_ne (ne_of_none e' hD)]
              exact s6 _ _ e'
            · rw [upd_same, List.map_append]
              rfl
            · rw [List.length_append, l6]
              rfl
            · rcases List.mem_append.mp hu with hu | hu
              · exact a6 u hu
              · rw [List.mem_singleton.mp hu]
                exact name_of lowh lowt lc hlen
            · by_cases hm : m < zs.length
              · rw [List.getElem?_append_left hm] at em
                exact f6 m u em
              · have hm2 : m = zs.length := by
                  have := (List.getElem?_eq_some_iff.mp em).1
                  rw [List.length_append] at this
                  simp at this
                  omega
                rw [hm2, List.getElem?_append_right (Nat.le_refl _), Nat.sub_self] at em
                have e2 := Option.some.inj em
                subst e2
                rw [hm2, l6, c97]
                rw [Int.zero_add] at hv
                rw [hv]
          · obtain ⟨s6, zs, e6, l6, a6, f6⟩ := pv'
            exact q D zs H' (but_sameN (b4.trans b5) s6) (hp5.same s6) e6 (by rw [l6]; rfl) a6 (signs_nodup z0 z1 (by omega) f6) (fun u hu => by
              obtain ⟨m, em⟩ := List.getElem?_of_mem hu
              rw [f6 m u em, len_of]
              omega)
end
/-! ### Function.__eq__ -/
abbrev sFEq : Stmt := inClass (topS 30) 1
theorem scFEq : FnScope ["self", "other"] ["self", "other"] (defScope sFEq) := ⟨rfl, rfl, rfl, by decide +kernel, rfl, by decide +kernel, by decide +kernel⟩
/-- a whole Function: its data, the number of its label, its cost -/
structure FX where
  d : FD
  lab : Nat
  cost : Int
structure FXOk (F : FX) : Prop where
  fd : FdOk F.d
  sr : SeqAt.shaped F.d.res = true
  sw : SeqAt.shaped (.tuple F.d.ws) = true
  ar : countOk 2 (.int F.d.ar) = true
  co : countOk 99 (.int F.cost) = true
def FunFull (K : PySem.W.Frag) (H : Hp) (CF CL a : Addr) (F : FX) : Prop := FXOk F ∧ ∃ (dx : Addr) (fs : List (Str × V)) (vr : V) (wa la : Addr), H a = some (.ins CF dx fs) ∧ fs.lookup ("name" : Str) = some (.str F.d.nm) ∧ fs.lookup ("arguments" : Str) = some (.int F.d.ar) ∧
  fs.lookup ("result" : Str) = some vr ∧ Dp K H vr F.d.res ∧ fs.lookup ("writes" : Str) = some (.ref wa) ∧ Dp K H (.ref wa) (.tuple F.d.ws) ∧ fs.lookup ("label" : Str) = some (.ref la) ∧ LabAt H CL la F.lab ∧ fs.lookup ("cost" : Str) = some (.int F.cost) ∧
  fs.lookup ("labelled" : Str) = none ∧ fs.lookup ("changed" : Str) = none ∧ fs.lookup ("parts" : Str) = none
theorem FunFull.same {K : PySem.W.Frag} {H H' : Hp} {CF CL a : Addr} {F : FX} (h : FunFull K H CF CL a F) (s : Same H H') : FunFull K H' CF CL a F := by
  obtain ⟨k, dx, fs, vr, wa, la, e, l1, l2, l3, d1, l4, d2, l5, la1, l6, r⟩ := h
  exact ⟨k, dx, fs, vr, wa, la, s _ _ e, l1, l2, l3, dp_same s d1, l4, dp_same s d2, l5, la1.ext s, l6, r⟩
theorem FunFull.of {K : PySem.W.Frag} {H : Hp} {CF CL a : Addr} {F : FX} (h : FunFull K H CF CL a F) : FunOf K H CF a F.d := by
  obtain ⟨k, dx, fs, vr, wa, la, e, l1, l2, l3, d1, l4, d2, l5, la1, l6, n1, n2, n3⟩ := h
  exact ⟨k.fd, dx, fs, vr, wa, e, l1, l2, l3, d1, l4, d2, n3⟩
def eqFX (F G : FX) : Bool := decide (F.d.nm = G.d.nm) && (decide (F.d.ar = G.d.ar) && (PyData.eqv F.d.res G.d.res && (decide (F.lab = G.lab) && (PyData.eqv (.tuple F.d.ws) (.tuple G.d.ws) && decide (F.cost = G.cost)))))
def spFEq (K : PySem.W.Frag) (CF CL : Addr) : Sp := fun vs H Q _ => ∃ (a : Addr) (F : FX) (y : V), vs = [.ref a, y] ∧ FunFull K H CF CL a F ∧ ((∃ b G, y = .ref b ∧ FunFull K H CF CL b G ∧ Q (.bl (eqFX F G)) H) ∨ ∃ z, y = .str z ∧ Q (.bl false) H)
/-- what isinstance asks of a class -/
structure KitC (K : PySem.W.Frag) (C : Addr) : Prop where
  cl : Cls K C
  me : PySem.W.kitOne K (.ref C) (.ref C) = some true
  ca : PySem.W.findIn K (.ref C) "__class__" = some (some (.builtin "object.__class__"))
  cg : PySem.W.specialIn K (.builtin "object.__class__") "__get__" = some (some (.builtin "getset_descriptor.__get__"))
  ct : PySem.W.takesIn K (.builtin "object.__class__") = some true
  cm : PySem.W.mroIn K C (.type "object") = some true
  no : NoKit K C
/-- the attributes of a Function -/
structure FAtt (K : PySem.W.Frag) (CF : Addr) : Prop where
  n1 : NoAttr K CF "name"
  n2 : NoAttr K CF "arguments"
  n3 : NoAttr K CF "result"
  n4 : NoAttr K CF "label"
  n5 : NoAttr K CF "writes"
  n6 : NoAttr K CF "cost"
/-- Label.__eq__, as the own == goes by it -/
structure LabQ (P : Program) (w : World) (K : PySem.W.Frag) (mg : Str → Option Value) (base : Heap) (CL g : Addr) (fg : FuncData) : Prop where
  eq_ : PySem.W.findIn K (.ref CL) (cmpInfo .Eq).2.1 = some (some (.ref g))
  eqf : PySem.W.isFn K (.ref g) = true
  eqo : FnOk P w K mg base CX0 1 g fg ["self", "other"] (spLabEq K CL)
  eqb : Binds K fg ["self", "other"] []
section
variable {P : Program} {w : World} {K : PySem.W.Frag} {mg : Str → Option Value} {base : Heap}
theorem ok_feq {CF CL f g : Addr} {fd fg : FuncData} (F : Fun K "__eq__" "Function.__eq__" sFEq f fd) (M : Blt mg) (KC : KitC K CF) (gF : mg "Function" = some (.ref CF)) (T : FAtt K CF) (LQ : LabQ P w K mg base CL g fg) : FnOk P w K mg base CX0 2 f fd ["self", "other"] (spFEq K CF CL) := by
  refine F.ok scFEq (fun vs H Q E h => ?_) (fun cdv A outer s H vs Q E hr h => ?_)
  · obtain ⟨a, F, y, rfl, _⟩ := h
    rfl
  · obtain ⟨a, F, y, rfl, ⟨k, dx, fs, vr, wa, la, e, l1, l2, l3, d1, l4, d2, l5, la1, l6, _⟩, h⟩ := h
    refine ⟨_, pss_one (ps_ret (pe_and (pe_callB call_isi (by rfl) M.isinstance (by decide +kernel) (pa_cons (pv 1) (pa_cons (pe_glob (v := .ref CF) (by rfl) gF rfl) pa_nil)))
      (pe_and (pe_cmpR op_eq (pe_fld (pv 0) (by rfl)) (pe_fld (pv 1) (by rfl)) (nomark _)) (pe_and (pe_cmpR op_eq (pe_fld (pv 0) (by rfl)) (pe_fld (pv 1) (by rfl)) (nomark _)) (pe_and (pe_cmpR (op_eqD hr.units) (pe_fld (pv 0) (by rfl)) (pe_fld (pv 1) (by rfl)) (nomark _))
      (pe_and (pe_cmpR (op_ownI LQ.eq_ LQ.eqf LQ.eqo LQ.eqb hr) (pe_fld (pv 0) (by rfl)) (pe_fld (pv 1) (by rfl)) (nomark _)) (pe_and (pe_cmpR (op_eqD hr.units) (pe_fld (pv 0) (by rfl)) (pe_fld (pv 1) (by rfl)) (nomark _)) (pe_one (pe_cmpR op_eq (pe_fld (pv 0) (by rfl)) (pe_fld (pv 1) (by rfl)) (nomark _)))))))))), ?_⟩
    rcases h with ⟨b, G, rfl, ⟨k', dy, gs, ur, wb, lb, e', m1, m2, m3, c1, m4, c2, m5, lb1, m6, _⟩, q⟩ | ⟨z2, rfl, q⟩
    · obtain ⟨dxa, fsa, za, ela, _⟩ := id la1
      obtain ⟨dxb, fsb, zb, elb, _⟩ := id lb1
      have es : ∀ x y : Str, decide (V.str x = V.str y) = decide (x = y) := fun x y => by
        by_cases e : x = y
        · rw [decide_eq_true e, decide_eq_true (by rw [e])]
        · rw [decide_eq_false e, decide_eq_false (fun z => e (V.str.inj z))]
      have ei : ∀ x y : Int, decide (V.int x = V.int y) = decide (x = y) := fun x y => by
        by_cases e : x = y
        · rw [decide_eq_true e, decide_eq_true (by rw [e])]
        · rw [decide_eq_false e, decide_eq_false (fun z => e (V.int.inj z))]
      unfold eqFX at q
      refine ⟨_, rfl, _, _, _, _, _, rfl, .own CF, .base (.ins e' KC.cl KC.ca KC.cg KC.ct KC.cm), KC.me, _, rfl, iteT ?_⟩
      refine ⟨_, rfl, a, CF, dx, fs, _, rfl, e, KC.cl, T.n1, l1, _, rfl, b, CF, dy, gs, _, rfl, e', KC.cl, T.n1, m1, rfl, _, rfl, ?_⟩
      rw [es]
      cases h1 : decide (F.d.nm = G.d.nm) with
      | false => rw [h1] at q; exact iteF q
      | true =>
      rw [h1] at q
      refine iteT ⟨_, rfl, a, CF, dx, fs, _, rfl, e, KC.cl, T.n2, l2, _, rfl, b, CF, dy, gs, _, rfl, e', KC.cl, T.n2, m2, rfl, _, rfl, ?_⟩
      rw [ei]
      cases h2 : decide (F.d.ar = G.d.ar) with
      | false => rw [h2] at q; exact iteF q
      | true =>
      rw [h2] at q
      refine iteT ⟨_, rfl, a, CF, dx, fs, _, rfl, e, KC.cl, T.n3, l3, _, rfl, b, CF, dy, gs, _, rfl, e', KC.cl, T.n3, m3, _, _, d1, c1, k.sr, k'.sr, _, rfl, ?_⟩
      cases h3 : PyData.eqv F.d.res G.d.res with
      | false => rw [h3] at q; exact iteF q
      | true =>
      rw [h3] at q
      refine iteT ⟨_, rfl, a, CF, dx, fs, _, rfl, e, KC.cl, T.n4, l5, _, rfl, b, CF, dy, gs, _, rfl, e', KC.cl, T.n4, m5, la, lb, dxa, dxb, fsa, fsb, rfl, rfl, ela, elb, la, F.lab, .ref lb, rfl, la1, .inl ⟨lb, G.lab, rfl, lb1, _, rfl, ?_⟩⟩
      cases h4 : decide (F.lab = G.lab) with
      | false => rw [h4] at q; exact iteF q
      | true =>
      rw [h4] at q
      refine iteT ⟨_, rfl, a, CF, dx, fs, _, rfl, e, KC.cl, T.n5, l4, _, rfl, b, CF, dy, gs, _, rfl, e', KC.cl, T.n5, m4, _, _, d2, c2, k.sw, k'.sw, _, rfl, ?_⟩
      cases h5 : PyData.eqv (.tuple F.d.ws) (.tuple G.d.ws) with
      | false => rw [h5] at q; exact iteF q
      | true =>
      rw [h5] at q
      refine iteT ⟨_, rfl, a, CF, dx, fs, _, rfl, e, KC.cl, T.n6, l6, _, rfl, b, CF, dy, gs, _, rfl, e', KC.cl, T.n6, m6, rfl, ?_⟩
      rw [ei]
      exact q
    · exact ⟨_, rfl, _, _, _, _, _, rfl, .own CF, .base (.str z2), KC.no (.str z2), _, rfl, iteF q⟩
end
/-! ### Functions made, labelled, changed -/
def LabGiven (H : Hp) (CL : Addr) (vl : V) (lab : Option PyData) (i : Nat) : Prop := (∃ a, vl = .ref a ∧ lab = none ∧ LabAt H CL a i) ∨ ∃ z, lab = some (.str z) ∧ vl = .str z ∧ labRow[i]? = some z
theorem LabGiven.same {H H' : Hp} {CL : Addr} {vl : V} {lab : Option PyData} {i : Nat} (h : LabGiven H CL vl lab i) (s : Same H H') : LabGiven H' CL vl lab i := by
  rcases h with ⟨a, e, el, l⟩ | h
  · exact .inl ⟨a, e, el, l.ext s⟩
  · exact .inr h
theorem LabGiven.in {K : PySem.W.Frag} {H : Hp} {CL : Addr} {vl : V} {lab : Option PyData} {i : Nat} (h : LabGiven H CL vl lab i) : LabIn K H CL vl lab := by
  rcases h with ⟨a, rfl, rfl, l⟩ | ⟨z, rfl, rfl, _⟩
  · exact .inl ⟨a, i, rfl, rfl, l⟩
  · exact .inr ⟨.str z, rfl, .str z⟩
theorem LabGiven.ok {H : Hp} {CL : Addr} {vl : V} {lab : Option PyData} {i : Nat} (h : LabGiven H CL vl lab i) : lab.filter noLab = none := by
  rcases h with ⟨a, rfl, rfl, l⟩ | ⟨z, rfl, rfl, hi⟩
  · rfl
  · have hz : z ∈ labRow := List.mem_of_getElem? hi
    have : noLab (.str z) = false := decide_eq_false (fun n => n hz)
    exact Option.filter_some_neg (by rw [this])
theorem labRow_inj {i j : Nat} {z : Str} (hi : labRow[i]? = some z) (hj : labRow[j]? = some z) : i = j := by
  rcases row_str hi with ⟨e, e'⟩ | ⟨e, e'⟩ | ⟨e, e'⟩ | ⟨e, e'⟩ <;> rcases row_str hj with ⟨g, g'⟩ | ⟨g, g'⟩ | ⟨g, g'⟩ | ⟨g, g'⟩ <;> subst e g <;> first | rfl | (rw [e'] at g'; exact absurd g' (by decide))
theorem LabGiven.no {H H' : Hp} {CL : Addr} {vl : V} {lab : Option PyData} {i j : Nat} (h : LabGiven H CL vl lab i) (s : Same H H') (n : LabNo H' CL vl lab j) : j = i := by
  rcases h with ⟨a, rfl, rfl, l⟩ | ⟨z, rfl, rfl, hi⟩
  · rcases n with ⟨b, eb, _, l2⟩ | ⟨z, e, _⟩
    · cases eb
      obtain ⟨dx, fs, z, e1, hi, h1, _⟩ := l.ext s
      obtain ⟨dy, gs, y, e2, hj, h2, _⟩ := l2
      rw [e1] at e2
      cases e2
      rw [h1] at h2
      have := V.int.inj (Option.some.inj h2)
      omega
    · cases e
  · rcases n with ⟨b, eb, _, l2⟩ | ⟨y, e, hj⟩
    · cases eb
    · cases e
      exact labRow_inj hj hi
theorem fx_out {F : FX} (k : FXOk F) {lab : Option PyData} (hl : lab.filter noLab = none) {dw : PyData} (he : entries dw = F.d.ws) (hw : areWrites dw = true) : funOut (.str F.d.nm) (.int F.d.ar) F.d.res lab dw (.int F.cost) = none := by
  unfold funOut
  rw [k.fd.nm, k.ar, hl]
  show (if !isTerm F.d.ar F.d.res then some (FErr.term F.d.res) else if !areWrites dw then some (.part "writes") else match badTerm F.d.ar (entries dw) with | some t => some (.term t) | none => if !countOk 99 (.int F.cost) then some (FErr.part "cost") else none) = none
  rw [k.fd.res, hw, he, k.fd.bt]
  show (if !countOk 99 (.int F.cost) then some (FErr.part "cost") else none) = none
  rw [k.co]
  rfl
theorem fun_full {K : PySem.W.Frag} {CF CL CB CP CT : Addr} {H : Hp} {x dx : Addr} {vn va vr vl vw vc : V} {F : FX} {lab : Option PyData} {dw : PyData} {Q : VK} {E : XK} (k : FXOk F) (nx : H x = none) (nd : H dx = none) (hn : Dp K H vn (.str F.d.nm)) (ha : Dp K H va (.int F.d.ar)) (hr : Dp K H vr F.d.res) (hw : Dp K H vw dw) (hc : Dp K H vc (.int F.cost)) (hi : LabGiven H CL vl lab F.lab) (he : entries dw = F.d.ws) (haw : areWrites dw = true) (zw : szD dw = true)
    (q : ∀ H', Same H H' → FunFull K H' CF CL x F → Q (.ref x) H') : spFun K CF CL CB CP CT [.ref x, vn, va, vr, vl, vw, vc] (upd (upd H dx (.own x)) x (.ins CF dx [])) (fun v H2 => v = .non ∧ Q (.ref x) H2) E := by
  have ms := made_same (C := CF) nx nd
  have zn : szD (.str F.d.nm) = true := name_sz k.fd.nm
  refine ⟨x, dx, vn, va, vr, vl, vw, vc, .str F.d.nm, .int F.d.ar, F.d.res, dw, .int F.cost, lab, rfl, upd_same, dp_same ms hn, dp_same ms ha, dp_same ms hr, dp_same ms hw, dp_same ms hc, (hi.same ms).in, zn, rfl, k.fd.zr, zw, rfl, ?_⟩
  rw [fx_out k hi.ok he haw]
  intro fs H' keep e T
  have s1 : Same H H' := fun b o e => keep b o (ms b o e) (ne_of_none e nx)
  obtain ⟨la, i, e5, l5, no⟩ := T.lab
  obtain ⟨wa, e6, h6⟩ := T.wr
  have ei := hi.no ms no
  subst ei
  cases hn
  cases ha
  cases hc
  rw [he] at h6
  exact ⟨rfl, q H' s1 ⟨k, dx, fs, vr, wa, la, e, T.name, T.args, T.res, dp_same s1 hr, e6, h6, e5, l5, T.cost, T.no1, T.no2, T.no3⟩⟩
theorem tup_writes {F : FX} (k : FXOk F) : areWrites (.tuple F.d.ws) = true := by
  show (decide (F.d.ws.length ≤ 3) && writesGo [] F.d.ws) = true
  rw [decide_eq_true k.fd.few, k.fd.ws]
  rfl
theorem tup_sz {F : FX} (k : FXOk F) : szD (.tuple F.d.ws) = true := by
  show (decide (F.d.ws.length ≤ 1000) && szDs F.d.ws) = true
  have := k.fd.few
  rw [decide_eq_true (by omega), k.fd.zw]
  rfl
abbrev sLbl : Stmt := inClass (topS 30) 2
theorem scLbl : FnScope ["self", "label"] ["self", "label"] (defScope sLbl) := ⟨rfl, rfl, rfl, by decide +kernel, rfl, by decide +kernel, by decide +kernel⟩
abbrev sChg : Stmt := inClass (topS 30) 3
theorem scChg : FnScope ["self", "part", "value"] ["self", "part", "value"] (defScope sChg) := ⟨rfl, rfl, rfl, by decide +kernel, rfl, by decide +kernel, by decide +kernel⟩
/-- one of this Function, labelled so: no error comes of it -/
def spLbl (K : PySem.W.Frag) (CF CL : Addr) : Sp := fun vs H Q _ => ∃ (a : Addr) (v : V) (F : FX) (lab : Option PyData) (i : Nat), vs = [.ref a, v] ∧ FunFull K H CF CL a F ∧ LabGiven H CL v lab i ∧ ∀ x H', Same H H' → FunFull K H' CF CL x ⟨F.d, i, F.cost⟩ → Q (.ref x) H'
structure FunM (P : Program) (w : World) (K : PySem.W.Frag) (mg : Str → Option Value) (base : Heap) (CF CL CB CP CT f : Addr) (fd : FuncData) : Prop where
  make : Mk K CF f
  ok : FnOk P w K mg base (L2.CX P w) 6 f fd ["self", "name", "arguments", "result", "label", "writes", "cost"] (spFun K CF CL CB CP CT)
  gC : mg "Function" = some (.ref CF)
  b3 : KBn K fd ["self", "name", "arguments", "result", "label", "writes", "cost"] 4 ["label", "writes", "cost"] (fun us ws => us ++ ws) (fun vs zs => vs ++ zs)
section
variable {P : Program} {w : World} {K : PySem.W.Frag} {mg : Str → Option Value} {base : Heap}
theorem ok_lbl {CF CL CB CP CT f fF : Addr} {fd fdF : FuncData} (F : Fun K "labelled" "Function.labelled" sLbl f fd) (M : FunM P w K mg base CF CL CB CP CT fF fdF) (cl : Cls K CF) (T : FAtt K CF) : FnOk P w K mg base (L2.CX P w) 8 f fd ["self", "label"] (spLbl K CF CL) := by
  refine F.okX scLbl (fun vs H Q E h => ?_) (fun cdv A outer s H vs Q E hr h => ?_)
  · obtain ⟨a, v, F, lab, i, rfl, _⟩ := h
    rfl
  · obtain ⟨a, v, F, lab, i, rfl, ⟨k, dx, fs, vr, wa, la, e, l1, l2, l3, d1, l4, d2, l5, la1, l6, _⟩, hi, q⟩ := h
    refine ⟨_, pss_one (ps_ret (pe_makeK (E := E) M.make M.ok hr (by rfl) M.gC M.b3 (passes_call (takes_of rfl rfl rfl rfl) (fun _ _ _ _ h => h)) (pa_cons (pe_fld (pv 0) (by rfl)) (pa_cons (pe_fld (pv 0) (by rfl)) (pa_cons (pe_fld (pv 0) (by rfl)) pa_nil)))
      (pk_cons (pv 1) (pk_cons (pe_fld (pv 0) (by rfl)) (pk_cons (pe_fld (pv 0) (by rfl)) pk_nil))))), ?_⟩
    refine ⟨.ref a, rfl, a, CF, dx, fs, _, rfl, e, cl, T.n1, l1, .ref a, rfl, a, CF, dx, fs, _, rfl, e, cl, T.n2, l2, .ref a, rfl, a, CF, dx, fs, vr, rfl, e, cl, T.n3, l3, ?_⟩
    refine ⟨v, rfl, .ref a, rfl, a, CF, dx, fs, .ref wa, rfl, e, cl, T.n5, l4, .ref a, rfl, a, CF, dx, fs, _, rfl, e, cl, T.n6, l6, rfl, rfl, fun x dx2 nx nd ne => ?_⟩
    have k2 : FXOk ⟨F.d, i, F.cost⟩ := ⟨k.fd, k.sr, k.sw, k.ar, k.co⟩
    exact fun_full (F := ⟨F.d, i, F.cost⟩) k2 nx nd (.str _) (.int _) d1 d2 (.int _) hi rfl (tup_writes k) (tup_sz k) fun H' s h => q x H' s h
end
def partRow : List Str := ["result", "writes", "cost"]
/-- the Function with this part put in its place: of data that are right -/
inductive ChgTo (F : FX) : Str → PyData → FX → Prop
  | res (d : PyData) : ChgTo F "result" d ⟨⟨F.d.nm, F.d.ar, d, F.d.ws⟩, F.lab, F.cost⟩
  | ws (d : PyData) : areWrites d = true → szD d = true → ChgTo F "writes" d ⟨⟨F.d.nm, F.d.ar, F.d.res, entries d⟩, F.lab, F.cost⟩
  | cost (c : Int) : ChgTo F "cost" (.int c) ⟨F.d, F.lab, c⟩
/-- what names no part -/
def noPart : PyData → Bool
  | .str z => decide (z ∉ partRow)
  | _ => true
def spChg (K : PySem.W.Frag) (CF CL CP : Addr) : Sp := fun vs H Q E => ∃ (a : Addr) (v u : V) (F : FX), vs = [.ref a, v, u] ∧ FunFull K H CF CL a F ∧
  ((∃ z d G, v = .str z ∧ Dp K H u d ∧ ChgTo F z d G ∧ FXOk G ∧ ∀ x H', Same H H' → FunFull K H' CF CL x G → Q (.ref x) H') ∨
   (∃ d, Dp K H v d ∧ noPart d = true ∧ ∀ H1 dd H', Same H H1 → Left H1 dd "part" v H' → E (.ref CP) (some dd) H'))
section
variable {P : Program} {w : World} {K : PySem.W.Frag} {mg : Str → Option Value} {base : Heap}
theorem ok_chg {CF CL CB CP CT f fF fP : Addr} {fd fdF dP : FuncData} (F : Fun K "changed" "Function.changed" sChg f fd) (B : Blt mg) (R : ∃ aR, mg "CHANGING_PARTS" = some (.ref aR) ∧ ∀ H : Hp, SqT K H aR (partRow.map V.str)) (M : FunM P w K mg base CF CL CB CP CT fF fdF) (cl : Cls K CF) (T : FAtt K CF)
    (TP : ErrT K mg "BadPart" "part" CP fP) (GP : FnOk P w K mg base CX0 1 fP dP ["self", "part"] (spErr CP "part")) (bP : Binds K dP ["self", "part"] []) : FnOk P w K mg base (L2.CX P w) 8 f fd ["self", "part", "value"] (spChg K CF CL CP) := by
  obtain ⟨aR, gR, hR⟩ := R
  refine F.okX scChg (fun vs H Q E h => ?_) (fun cdv A outer s H vs Q E hr h => ?_)
  · obtain ⟨a, v, u, F, rfl, _⟩ := h
    rfl
  · obtain ⟨a, v, u, F, rfl, ⟨k, dx, fs, vr, wa, la, e, l1, l2, l3, d1, l4, d2, l5, la1, l6, _⟩, h⟩ := h
    have hr2 : Room 2 (A.deeper (envOfC "Function.changed" (defScope sChg) s.heap.objs.size f cdv)) := hr.mono (by decide)
    have one : (1 : Nat) ≤ 1000 := by decide
    refine ⟨_, pss_cons (ps_if (PW.pt (pw_or (pt_not (pt_val (pe_callB call_isi (by rfl) B.isinstance (by decide +kernel) (pa_cons (pv 1) (pa_cons (pe_bltn (v := .ty "str") (by rfl) B.str (by decide +kernel) rfl) pa_nil)))))
        (pw_or1 (pt_cmpR op_notIn_seq (pv 1) (pe_glob (v := .ref aR) (by rfl) gR rfl) (by rfl))))) (pss_one (ps_raise rfl (takes_of rfl rfl rfl rfl) (pmk_oex (k := 1) (ps := ["self", "part"]) (sp := spErr CP "part") (ds := []) (dvs := []) TP.oex TP.ini TP.typ GP hr2 bP .nil pass0 (by rfl) TP.nam (pa_cons (pv 1) pa_nil)))) pss_nil)
      (pss_one (ps_ret (pe_makeK (E := E) M.make M.ok hr (by rfl) M.gC M.b3 (passes_call (takes_of rfl rfl rfl rfl) (fun _ _ _ _ h => h)) (pa_cons (pe_fld (pv 0) (by rfl)) (pa_cons (pe_fld (pv 0) (by rfl)) (pa_cons (pe_ifExp (pt_cmpR op_eq (pv 1) pe_str (nomark _)) (pv 2) (pe_fld (pv 0) (by rfl))) pa_nil)))
      (pk_cons (pe_fld (pv 0) (by rfl)) (pk_cons (pe_ifExp (pt_cmpR op_eq (pv 1) pe_str (nomark _)) (pv 2) (pe_fld (pv 0) (by rfl))) (pk_cons (pe_ifExp (pt_cmpR op_eq (pv 1) pe_str (nomark _)) (pv 2) (pe_fld (pv 0) (by rfl))) pk_nil)))))), ?_⟩
    rcases h with ⟨z, d, G, rfl, hu, ch, kG, q⟩ | ⟨d, hv, hno, out⟩
    · have hz : z ∈ partRow := by cases ch <;> decide
      refine ⟨.str z, rfl, .str z, .ty "str", _, _, _, rfl, .ty "str", .base (.str z), kit_str K (.str z), _, rfl, iteF ⟨.str z, rfl, aR, _, rfl, .inr (hR H), rfl, rfl, _, rfl, ?_⟩⟩
      have e1 : inV (V.str z) (partRow.map V.str) = true := by rw [inV_strs, decide_eq_true hz]
      simp only [e1]
      refine iteF ?_
      refine ⟨.ref a, rfl, a, CF, dx, fs, _, rfl, e, cl, T.n1, l1, .ref a, rfl, a, CF, dx, fs, _, rfl, e, cl, T.n2, l2, .str z, rfl, rfl, _, rfl, ?_⟩
      have lg : LabGiven H CL (.ref la) none F.lab := .inl ⟨la, rfl, rfl, la1⟩
      cases ch with
      | res d =>
        refine iteD rfl ⟨u, rfl, .ref a, rfl, a, CF, dx, fs, .ref la, rfl, e, cl, T.n4, l5, .str "result", rfl, rfl, _, rfl, iteDN (by decide +kernel) ⟨.ref a, rfl, a, CF, dx, fs, .ref wa, rfl, e, cl, T.n5, l4, .str "result", rfl, rfl, _, rfl, iteDN (by decide +kernel) ⟨.ref a, rfl, a, CF, dx, fs, _, rfl, e, cl, T.n6, l6, rfl, rfl, fun x dx2 nx nd ne => ?_⟩⟩⟩
        exact fun_full kG nx nd (.str _) (.int _) hu d2 (.int _) lg rfl (tup_writes k) (tup_sz k) fun H' s h => q x H' s h
      | ws d hw zw =>
        refine iteDN (by decide +kernel) ⟨.ref a, rfl, a, CF, dx, fs, vr, rfl, e, cl, T.n3, l3, .ref a, rfl, a, CF, dx, fs, .ref la, rfl, e, cl, T.n4, l5, .str "writes", rfl, rfl, _, rfl, iteD rfl ⟨u, rfl, .str "writes", rfl, rfl, _, rfl, iteDN (by decide +kernel) ⟨.ref a, rfl, a, CF, dx, fs, _, rfl, e, cl, T.n6, l6, rfl, rfl, fun x dx2 nx nd ne => ?_⟩⟩⟩
        exact fun_full kG nx nd (.str _) (.int _) d1 hu (.int _) lg rfl hw zw fun H' s h => q x H' s h
      | cost c =>
        refine iteDN (by decide +kernel) ⟨.ref a, rfl, a, CF, dx, fs, vr, rfl, e, cl, T.n3, l3, .ref a, rfl, a, CF, dx, fs, .ref la, rfl, e, cl, T.n4, l5, .str "cost", rfl, rfl, _, rfl, iteDN (by decide +kernel) ⟨.ref a, rfl, a, CF, dx, fs, .ref wa, rfl, e, cl, T.n5, l4, .str "cost", rfl, rfl, _, rfl, iteD rfl ⟨u, rfl, rfl, rfl, fun x dx2 nx nd ne => ?_⟩⟩⟩
        exact fun_full kG nx nd (.str _) (.int _) d1 d2 hu lg rfl (tup_writes k) (tup_sz k) fun H' s h => q x H' s h
    · refine ⟨v, rfl, v, .ty "str", _, _, _, rfl, .ty "str", dp_ty hv, kit_str K d, _, rfl, ?_⟩
      cases hv with
      | str z =>
        have hz : z ∉ partRow := of_decide_eq_true hno
        refine iteF ⟨.str z, rfl, aR, _, rfl, .inr (hR H), rfl, by decide, _, rfl, ?_⟩
        have e1 : inV (V.str z) (partRow.map V.str) = false := by rw [inV_strs, decide_eq_false hz]
        simp only [e1]
        exact iteT ⟨_, rfl, one, mk_left fun dd H' l => out H dd H' (Same.refl H) l⟩
      | non => exact iteT (iteT ⟨_, rfl, one, mk_left fun dd H' l => out H dd H' (Same.refl H) l⟩)
      | bl b => exact iteT (iteT ⟨_, rfl, one, mk_left fun dd H' l => out H dd H' (Same.refl H) l⟩)
      | int b => exact iteT (iteT ⟨_, rfl, one, mk_left fun dd H' l => out H dd H' (Same.refl H) l⟩)
      | lst h1 h2 => exact iteT (iteT ⟨_, rfl, one, mk_left fun dd H' l => out H dd H' (Same.refl H) l⟩)
      | tup h1 h2 => exact iteT (iteT ⟨_, rfl, one, mk_left fun dd H' l => out H dd H' (Same.refl H) l⟩)
end
/-! ### the law's terms, drawn over any drawn book -/
/-- what a drawn book tells: cells with their kinds, functions with their numbers of arguments -/
structure LB where
  cells : List (Str × Str)
  fns : List (Str × Nat)
structure LOk (L : LB) : Prop where
  c : ∀ x ∈ L.cells, isName (.str x.1) = true ∧ x.2 ∈ (["frozen", "setting", "table"] : List Str)
  f : ∀ x ∈ L.fns, isName (.str x.1) = true ∧ x.2 ≤ 2
  lc : L.cells.length ≤ 8
  lf : L.fns.length ≤ 8
/-- a term over this book, of so many arguments -/
inductive GdL (L : LB) (n : Int) : Nat → PyData → Prop
  | val {f : Nat} {i : Int} : 0 ≤ i → i < 3 → GdL L n (f + 1) (.int i)
  | arg {f : Nat} {i : Int} : 0 ≤ i → i < n → GdL L n (f + 1) (.tuple [.str "arg", .int i])
  | cell {f : Nat} {x k : Str} : (x, k) ∈ L.cells → GdL L n (f + 1) (.tuple [.str "cell", .str x])
  | tick {f : Nat} : GdL L n (f + 1) (.tuple [.str "tick"])
  | call {f : Nat} {x : Str} {ts : List PyData} : (x, ts.length) ∈ L.fns → (∀ t ∈ ts, GdL L n f t) → GdL L n (f + 1) (.tuple [.str "call", .str x, .tuple ts])
  | op {f : Nat} {z : Str} {ts : List PyData} : (z = "if" ∧ ts.length = 3) ∨ (bin z ∧ ts.length = 2) → (∀ t ∈ ts, GdL L n f t) → GdL L n (f + 1) (.tuple (.str z :: ts))
theorem gdl_gd {L : LB} (o : LOk L) {n : Int} : ∀ (f : Nat) (d : PyData), GdL L n f d → Gd n f d
  | 0, _, h => nomatch h
  | f + 1, d, h => by
    cases h with
    | val a b => exact .val a b
    | arg a b => exact .arg a b
    | cell a => exact .cell (o.c _ a).1
    | tick => exact .tick
    | call a c => exact .call (o.f _ a).1 (o.f _ a).2 fun t ht => gdl_gd o f t (c t ht)
    | op a c => exact .op a fun t ht => gdl_gd o f t (c t ht)
theorem gdl_mono {L : LB} {n : Int} : ∀ (f f' : Nat) (d : PyData), GdL L n f d → f ≤ f' → GdL L n f' d
  | 0, _, _, h, _ => nomatch h
  | f + 1, 0, _, _, h => absurd h (Nat.not_succ_le_zero f)
  | f + 1, f' + 1, d, h, hf => by
    cases h with
    | val a b => exact .val a b
    | arg a b => exact .arg a b
    | cell a => exact .cell a
    | tick => exact .tick
    | call a c => exact .call a fun t ht => gdl_mono f f' t (c t ht) (by omega)
    | op a c => exact .op a fun t ht => gdl_mono f f' t (c t ht) (by omega)
theorem q_seqR {ta tz : TS} {D : Ends} {σ : L2.St} {H : Hp} (Pr : L2.St → Hp → Prop) (h : ∀ nx, (∀ σ' H', Pr σ' H' → nx σ' H') → ta { D with nx := nx } σ H) (k : ∀ σ' H', Pr σ' H' → tz D σ' H') : tSeq ta tz D σ H := h _ k
abbrev sLTerm : Stmt := topS 37
theorem scLTerm : FnScope ["_law_pool_here", "_law_b", "_law_many", "_law_deep", "_law_kind", "_law_f", "_law_head", "_law_at"] ["_law_pool_here", "_law_b", "_law_many", "_law_deep"] (defScope sLTerm) := ⟨rfl, rfl, rfl, by decide +kernel, rfl, by decide +kernel, by decide +kernel⟩
def rNeLen (K : PySem.W.Frag) : R2 := fun x y H Q => ∃ a b xs ys, x = .ref a ∧ y = .ref b ∧ SqL K H a xs ∧ SqL K H b ys ∧ xs.length ≠ ys.length ∧ Q (.bl true) H
theorem op_neLen {X : Cx} (few : X.A.units + 64 < cLine) : OpR X (compareOp .NotEq) (rNeLen X.K) := by
  rintro pins st σ H one other v1 v2 Q inv rel1 rel2 ⟨a1, a2, l1, l2, rfl, rfl, s1, s2, unlike, goal⟩
  obtain rfl : v1 = Value.ref a1 := rel1
  obtain rfl : v2 = Value.ref a2 := rel2
  have f1 := inv.list s1
  have f2 := inv.list s2
  rcases f1 with ⟨w1, vals1, is1, -⟩
  rcases f2 with ⟨w2, vals2, is2, -⟩
  have sizes : (w1.toArray.size != w2.toArray.size) = true := by
    have n1 : w1.toArray.size = l1.length := List.size_toArray.trans vals1.length.symm
    have n2 : w2.toArray.size = l2.length := List.size_toArray.trans vals2.length.symm
    rw [n1, n2]
    simpa using unlike
  exact SeqAt.RcNeAt.lists_lengths is1.isList is2.isList sizes (by omega) _ _ _ _ ⟨V.bl true, H, inv, rfl, goal⟩
theorem in_twoI (k a b : Int) : inV (.int k) [.int a, .int b] = decide (k = a ∨ k = b) := by
  show ((a == k) || ((b == k) || false)) = _
  rw [Bool.or_false, Bool.eq_iff_iff, Bool.or_eq_true, decide_eq_true_eq, beq_iff_eq, beq_iff_eq]
  exact ⟨fun h => h.imp Eq.symm Eq.symm, fun h => h.imp Eq.symm Eq.symm⟩
def CellT (K : PySem.W.Frag) (H : Hp) (v : V) (x : Str × Str) : Prop := ∃ t, v = .ref t ∧ SqT K H t [.str x.1, .str x.2]
def FnD (H : Hp) (v : V) (x : Str × Nat) : Prop := ∃ g kvs, v = .ref g ∧ H g = some (.dK kvs) ∧ valV kvs (.inr "name" : Key) = some (.str x.1) ∧ valV kvs (.inr "many" : Key) = some (.int (x.2 : Nat))
def Rows {α : Type} (R : V → α → Prop) (xs : List V) (cs : List α) : Prop := xs.length = cs.length ∧ ∀ (i : Nat) x c, xs[i]? = some x → cs[i]? = some c → R x c
theorem Rows.mono {α : Type} {R R' : V → α → Prop} {xs : List V} {cs : List α} (h : Rows R xs cs) (k : ∀ x c, R x c → R' x c) : Rows R' xs cs := ⟨h.1, fun i x c a b => k x c (h.2 i x c a b)⟩
theorem Rows.at {α : Type} {R : V → α → Prop} {xs : List V} {cs : List α} (h : Rows R xs cs) {i : Nat} (hi : i < xs.length) : ∃ c, c ∈ cs ∧ R xs[i] c := by
  have hj : i < cs.length := h.1 ▸ hi
  exact ⟨cs[i], List.getElem_mem hj, h.2 i _ _ (List.getElem?_eq_getElem hi) (List.getElem?_eq_getElem hj)⟩
/-- the drawn book stands at b -/
def LBk (K : PySem.W.Frag) (L : LB) (H : Hp) (b : Addr) : Prop := ∃ c f ts gs, H b = some (.dK [(.inr "cells", .ref c), (.inr "functions", .ref f)]) ∧ H c = some (.lst ts) ∧ H f = some (.lst gs) ∧ Rows (CellT K H) ts L.cells ∧ Rows (FnD H) gs L.fns
theorem LBk.but {K : PySem.W.Frag} {L : LB} {H H' : Hp} {b p : Addr} (h : LBk K L H b) (hp : PoolAt H p) (bt : But p H H') : LBk K L H' b := by
  obtain ⟨c, f, ts, gs, e0, e1, e4, r1, r2⟩ := h
  obtain ⟨x, y, ep, _⟩ := hp
  have nc : c ≠ p := fun q => by
    rw [q, ep] at e1
    cases e1
    obtain ⟨d, _, t, e, _⟩ := r1.at (i := 0) (by show 0 < 2; decide)
    cases e
  have nf : f ≠ p := fun q => by
    rw [q, ep] at e4
    cases e4
    obtain ⟨d, _, t, _, e, _⟩ := r2.at (i := 0) (by show 0 < 2; decide)
    cases e
  refine ⟨c, f, ts, gs, bt _ _ e0 (ne_of e0 ep (fun z => nomatch z)), bt _ _ e1 nc, bt _ _ e4 nf, r1.mono fun v d h => ?_, r2.mono fun v d h => ?_⟩
  · obtain ⟨t, e, h⟩ := h
    exact ⟨t, e, but_sqT ep bt h⟩
  · obtain ⟨g, kvs, e, h, h1, h2⟩ := h
    exact ⟨g, kvs, e, bt _ _ h (ne_of h ep (fun z => nomatch z)), h1, h2⟩
theorem dg {H : Hp} {r : Addr} {kv : List (Key × V)} (e : H r = some (.dK kv)) (z : Str) {v : V} (h : valV kv (.inr z) = some v) : DGet H r (.str z) (some v) := .inl ⟨kv, .inr z, .inl e, rfl, h.symm⟩
/-- the cells as data -/
def cellsD (L : LB) : List PyData := L.cells.map fun x => .tuple [.str x.1, .str x.2]
theorem cells_dp {K : PySem.W.Frag} {H : Hp} : ∀ {ts : List V} {cs : List (Str × Str)}, Rows (CellT K H) ts cs → DpAll K H ts (cs.map fun x => .tuple [.str x.1, .str x.2])
  | [], [], _ => .nil
  | [], _ :: _, h => absurd h.1 (by simp)
  | _ :: _, [], h => absurd h.1 (by simp)
  | v :: ts, x :: cs, h => by
    obtain ⟨t, rfl, ht⟩ := h.2 0 v x rfl rfl
    exact .cons (.tup ht (.cons (.str _) (.cons (.str _) .nil))) (cells_dp ⟨Nat.succ.inj h.1, fun i y d e1 e2 => h.2 (i + 1) y d e1 e2⟩)
theorem cells_shaped {L : LB} (o : LOk L) : SeqAt.shaped (.list (cellsD L)) = true := by
  have one : ∀ d ∈ cellsD L, d.canLay0 = true ∧ d.depth ≤ 1 := fun d hd => by
    obtain ⟨x, hx, rfl⟩ := List.mem_map.mp hd
    obtain ⟨h1, h2⟩ := o.c x hx
    have k : PyData.strOk x.2 = true := by
      simp only [List.mem_cons, List.not_mem_nil, or_false] at h2
      rcases h2 with e | e | e <;> rw [e] <;> decide +kernel
    refine ⟨?_, ?_⟩
    · show (PyData.strOk x.1 && (PyData.strOk x.2 && true)) = true
      rw [name_ok h1, k]
      rfl
    · show max 0 (max 0 0) + 1 ≤ 1
      decide
  refine Bool.and_eq_true_iff.mpr ⟨canLay_of fun t h => (one t h).1, decide_eq_true ?_⟩
  show PyData.depthAll (cellsD L) + 1 ≤ 64
  have := depth_of (m := 1) (ts := cellsD L) fun t h => (one t h).2
  omega
/-- != against an empty list -/
def rNeNil (K : PySem.W.Frag) : R2 := fun x y H Q => ∃ a b xs, x = .ref a ∧ y = .ref b ∧ SqL K H a xs ∧ SqL K H b [] ∧ Q (.bl (!xs.isEmpty)) H
theorem op_neNil {X : Cx} (few : X.A.units + 64 < cLine) : OpR X (compareOp .NotEq) (rNeNil X.K) := by
  intro pins st σ H one other v1 v2 Q inv rel1 rel2 h
  obtain ⟨a1, a2, l1, rfl, rfl, s1, s2, goal⟩ := h
  cases l1 with
  | nil => exact op_neD few pins st σ H _ _ v1 v2 Q inv rel1 rel2 ⟨.list [], .list [], .lst s1 .nil, .lst s2 .nil, by decide +kernel, by decide +kernel, by rw [show PyData.eqv (.list []) (.list []) = true from SeqAt.eqv_refl _ (by decide +kernel)]; exact goal⟩
  | cons x r => exact op_neLen few pins st σ H _ _ v1 v2 Q inv rel1 rel2 ⟨a1, a2, x :: r, [], rfl, rfl, s1, s2, by simp, goal⟩
/-- a comprehension of terms drawn -/
theorem lc_terms {K : PySem.W.Frag} {p : Addr} {L : LB} (ok : LOk L) {n : Int} {f : Nat} {J : It} {cnt : Nat} {Y : Nat → Hp → V → Hp → Prop} (w : Walk J cnt (fun _ => True) Y) {j : Nat} {te : TE} {vs : List Nat} {σ : L2.St} {H1 : Hp} {D : Addr} {Qd : Hp → Prop} (hz : cnt ≤ 1000)
    (hD : H1 D = none) (hp : PoolAt H1 p) (hw : ∀ x, wipe ((wipe σ vs).set j (some x)) vs = wipe σ vs)
    (he : ∀ i x H H', i < cnt → But p H1 H → PoolAt H p → Y i H x H' → H' = H ∧ ∀ Q : VK, (∀ v d H2, But p H H2 → PoolAt H2 p → Dp K H2 v d → GdL L n f d → Q v H2) → te ((wipe σ vs).set j (some x)) H Q)
    (hd : ∀ ys ts H, But p H1 H → PoolAt H p → H D = some (.lst ys) → DpAll K H ys ts → ts.length = cnt → (∀ t ∈ ts, GdL L n f t) → Qd H)  :
    Turns J (upd H1 D (.lst [])) Qd (LcBody D te vs j σ) := by
  have npD : D ≠ p := (hp.ne hD).symm
  refine lc_it w (fun i H => But p H1 H ∧ PoolAt H p ∧ ∃ ys ts, H D = some (.lst ys) ∧ DpAll K H ys ts ∧ ts.length = i ∧ ∀ t ∈ ts, GdL L n f t) ⟨But.of (same_upd hD), hp.upd hD, [], [], upd_same, .nil, rfl, fun v e => by cases e⟩ (fun i H _ p => True.intro) (fun i x H H' hi q y => ?_) (fun H q => ?_)
  · obtain ⟨s1, h1, ys, ts, e1, ea, el, er⟩ := q
    obtain ⟨rfl, k⟩ := he i x H H' hi s1 h1 y
    refine And.intro (hw x) ?_
    unfold tYes
    refine iteT ?_
    refine k _ fun v d H2 s3 h3 dv gd => ⟨ys, s3 _ _ e1 npD, ?_, fun b o e nb => ?_, ?_, ys ++ [v], ts ++ [d], upd_same, ?_, ?_, fun u hu => ?_⟩
    · exact Nat.lt_of_le_of_lt (show ys.length ≤ 1000 by rw [dpA_len ea]; omega) (by decide)
    · have hb : b ≠ D := ne_of_none e hD
      rw [upd_ne hb]
      exact s3 _ _ (s1 _ _ e nb) nb
    · obtain ⟨x, y, e, r⟩ := h3
      exact ⟨x, y, by rw [upd_ne npD.symm]; exact e, r⟩
    · have nl : noLs ts = true := noLs_of fun t ht => gd_nl f t (gdl_gd ok f t (er t ht))
      have e2 := s3 _ _ e1 npD
      obtain ⟨px, py, pe, _⟩ := h1
      have a1 : DpAll K H2 ys ts := dpAll_tups (fun _ _ => but_sqT pe s3) ts ys nl ea
      exact dpA_app (dpAll_tups (fun _ _ => but_sqT e2 But.upd) ts ys nl a1) (.cons (dp_tups (fun _ _ => but_sqT e2 But.upd) d v (gd_nl f d (gdl_gd ok f d gd)) dv) .nil)
    · rw [List.length_append, el]
      rfl
    · rcases List.mem_append.mp hu with hu | hu
      · exact er u hu
      · rw [List.mem_singleton.mp hu]
        exact gd
  · obtain ⟨s1, h1, ys, ts, e1, ea, el, er⟩ := q
    exact hd ys ts H s1 h1 e1 ea el er
def spLTerm (K : PySem.W.Frag) (m : Nat) : Sp := fun vs H Q _ => ∃ (L : LB) (p b : Addr) (n : Int) (deep : Nat), LOk L ∧ vs = [.ref p, .ref b, .int n, .int deep] ∧ PoolAt H p ∧ LBk K L H b ∧ 0 ≤ n ∧ n ≤ 2 ∧ deep < m ∧
  ∀ v d H', But p H H' → PoolAt H' p → Dp K H' v d → GdL L n (deep + 1) d → Q v H'
section
variable {P : Program} {w : World} {K : PySem.W.Frag} {mg : Str → Option Value} {base : Heap}
theorem ok_lterm {f fD fP : Addr} {fd dD dP : FuncData} (F : Fun K "_law_term" "_law_term" sLTerm f fd) (M : Blt mg) (bF : Binds K fd ["_law_pool_here", "_law_b", "_law_many", "_law_deep"] []) (gF : mg "_law_term" = some (.ref f))
    (FD : Fun K "_law_draw" "_law_draw" sDraw fD dD) (bD : Binds K dD ["_law_pool_here", "_law_many"] []) (gD : mg "_law_draw" = some (.ref fD))
    (FP : Fun K "_law_pick" "_law_pick" sPick fP dP) (bP : Binds K dP ["_law_pool_here", "_law_row"] []) (gP : mg "_law_pick" = some (.ref fP)) :
    ∀ m : Nat, FnOk P w K mg base CX0 (m + 3) f fd ["_law_pool_here", "_law_b", "_law_many", "_law_deep"] (spLTerm K m) := by
  have GD : FnOk P w K mg base CX0 1 fD dD ["_law_pool_here", "_law_many"] spDraw := ok_draw FD M
  have GP : FnOk P w K mg base CX0 2 fP dP ["_law_pool_here", "_law_row"] (spPick K) := ok_pick FP M FD bD gD
  intro m
  induction m with
  | zero =>
    refine F.ok scLTerm (fun vs H Q E h => ?_) (fun cdv A outer s H vs Q E hr h => ?_)
    · obtain ⟨L, p, b, n, deep, N, rfl, _⟩ := h
      rfl
    · obtain ⟨L, p, b, n, deep, N, rfl, _, _, _, _, h, _⟩ := h
      exact absurd h (Nat.not_lt_zero _)
  | succ m GT =>
    refine F.ok scLTerm (fun vs H Q E h => ?_) (fun cdv A outer s H vs Q E hr h => ?_)
    · obtain ⟨L, p, b, n, deep, N, rfl, _⟩ := h
      rfl
    · obtain ⟨L, p, b, n, deep, N, rfl, hp, hb, hn0, hn2, hdm, q⟩ := h
      have hr1 : Room 1 _ := hr.mono (by omega)
      have hr2 : Room 2 _ := hr.mono (by omega)
      have hu := hu_of hr
      refine ⟨_, pss_cons (ps_set (i := 4) scLTerm.nd rfl (.inl rfl) (pe_call GD hr1 (by rfl) gD FD.kp bD .nil pass0 (pa_cons (pv 0) (pa_cons (pe_ifExp (pt_cmpR op_gt (pv 3) pe_int (nomark _)) pe_int pe_int) pa_nil))))
        (pss_cons (ps_if (PW.pt (pw_or (pt_cmpR op_eq (pv 4) pe_int (nomark _)) (pw_or (PW.pt (pw_and (pt_cmpR op_eq (pv 4) pe_int (nomark _)) (pw_and1 (pt_cmpR op_eq (pv 2) pe_int (nomark _)))))
            (pw_or1 (PW.pt (pw_and (pt_cmpR op_in_seq (pv 4) (pe_lst (pa_cons pe_int (pa_cons pe_int pa_nil))) (by rfl)) (pw_and1 (pt_cmpR (op_eqD hr.units) (pe_dget hu (pv 1) pe_str (fun _ _ => rfl)) (pe_lst pa_nil) (nomark _)))))))))
            (pss_one (ps_ret (pe_call GD hr1 (by rfl) gD FD.kp bD .nil pass0 (pa_cons (pv 0) (pa_cons pe_int pa_nil))))) pss_nil)
        (pss_cons (ps_if (pt_cmpR op_eq (pv 4) pe_int (nomark _)) (pss_one (ps_ret (pe_tup (pa_cons pe_str (pa_cons (pe_call GD hr1 (by rfl) gD FD.kp bD .nil pass0 (pa_cons (pv 0) (pa_cons (pv 2) pa_nil))) pa_nil))))) pss_nil)
        (pss_cons (ps_if (PW.pt (pw_or (pt_cmpR op_eq (pv 4) pe_int (nomark _)) (pw_or1 (pt_cmpR op_eq (pv 4) pe_int (nomark _)))))
            (pss_one (ps_ret (pe_tup (pa_cons pe_str (pa_cons (pe_ix ix_tup (pe_call GP hr2 (by rfl) gP FP.kp bP .nil pass0 (pa_cons (pv 0) (pa_cons (pe_dget hu (pv 1) pe_str (fun _ _ => rfl)) pa_nil))) pe_int (fun _ _ => rfl)) pa_nil))))) pss_nil)
        (pss_cons (ps_if (pt_cmpR op_eq (pv 4) pe_int (nomark _))
            (pss_one (ps_ret (pe_ifExp (pt_cmpR op_eq (pe_call GD hr1 (by rfl) gD FD.kp bD .nil pass0 (pa_cons (pv 0) (pa_cons pe_int pa_nil))) pe_int (nomark _)) (pe_tup (pa_cons pe_str pa_nil)) (pe_call GD hr1 (by rfl) gD FD.kp bD .nil pass0 (pa_cons (pv 0) (pa_cons pe_int pa_nil)))))) pss_nil)
        (pss_cons (ps_if (PW.pt (pw_and (pt_cmpR op_eq (pv 4) pe_int (nomark _)) (pw_and1 (pt_cmpR (op_neNil hr.units) (pe_dget hu (pv 1) pe_str (fun _ _ => rfl)) (pe_lst pa_nil) (nomark _)))))
            (pss_cons (ps_set (i := 5) scLTerm.nd rfl (.inl rfl) (pe_call GP hr2 (by rfl) gP FP.kp bP .nil pass0 (pa_cons (pv 0) (pa_cons (pe_dget hu (pv 1) pe_str (fun _ _ => rfl)) pa_nil))))
            (pss_one (ps_ret (pe_tup (pa_cons pe_str (pa_cons (pe_dget hu (pv 5) pe_str (fun _ _ => rfl)) (pa_cons (pe_callTy call_tuple_of (by rfl) M.tuple (by decide +kernel) (pa_cons
              (pe_lc (own := [("_law_at", 7)]) (g := gName 7) (te := tCall (spLTerm K m) [] E0 (tCons (tVar 0) (tCons (tVar 1) (tCons (tVar 2) (tCons (tC (.int 0)) tNil))))) (by rfl) scLTerm.nd (pi_range1 (by rfl) M.range (pa_cons (pe_dget hu (pv 5) pe_str (fun _ _ => rfl)) pa_nil)) (blkOk_by (own := [("_law_at", 7)]) (N := ["_law_pool_here", "_law_b", "_law_many", "_law_deep", "_law_kind", "_law_f", "_law_head", "_law_at"]) (sc := defScope sLTerm) (by decide +kernel))
                (fun _ _ _ _ _ => pg_name (i := 7) scLTerm.nd rfl (Or.inl rfl)) (fun _ _ _ _ _ => pts_nil) (fun _ _ _ _ _ => pe_call GT hr (by rfl) gF F.kp bF .nil pass0 (pa_cons (pv 0) (pa_cons (pv 1) (pa_cons (pv 2) (pa_cons pe_int pa_nil)))))) pa_nil)) pa_nil))))))) pss_nil)
        (pss_cons (ps_if (pt_cmpR op_eq (pv 4) pe_int (nomark _))
            (pss_one (ps_ret (pe_op op_catT (pe_tup (pa_cons pe_str pa_nil)) (pe_callTy call_tuple_of (by rfl) M.tuple (by decide +kernel) (pa_cons
              (pe_lc (own := [("_law_at", 7)]) (g := gName 7) (te := tCall (spLTerm K m) [] E0 (tCons (tVar 0) (tCons (tVar 1) (tCons (tVar 2) (tCons (tOp (rI0 fun i j => .int (i - j)) (tVar 3) (tC (.int 1))) tNil))))) (by rfl) scLTerm.nd (pi_range1 (by rfl) M.range (pa_cons pe_int pa_nil)) (blkOk_by (own := [("_law_at", 7)]) (N := ["_law_pool_here", "_law_b", "_law_many", "_law_deep", "_law_kind", "_law_f", "_law_head", "_law_at"]) (sc := defScope sLTerm) (by decide +kernel))
                (fun _ _ _ _ _ => pg_name (i := 7) scLTerm.nd rfl (Or.inl rfl)) (fun _ _ _ _ _ => pts_nil) (fun _ _ _ _ _ => pe_call GT hr (by rfl) gF F.kp bF .nil pass0 (pa_cons (pv 0) (pa_cons (pv 1) (pa_cons (pv 2) (pa_cons (pe_op op_sub (pv 3) pe_int) pa_nil)))))) pa_nil))))) pss_nil)
        (pss_cons (ps_set (i := 6) scLTerm.nd rfl (.inl rfl) (pe_call GP hr2 (by rfl) gP FP.kp bP .nil pass0 (pa_cons (pv 0) (pa_cons (pe_lst (pa_cons pe_str (pa_cons pe_str (pa_cons pe_str pa_nil)))) pa_nil))))
        (pss_one (ps_ret (pe_tup (pa_cons (pv 6) (pa_cons (pe_call GT hr (by rfl) gF F.kp bF .nil pass0 (pa_cons (pv 0) (pa_cons (pv 1) (pa_cons (pv 2) (pa_cons (pe_op op_sub (pv 3) pe_int) pa_nil)))))
            (pa_cons (pe_call GT hr (by rfl) gF F.kp bF .nil pass0 (pa_cons (pv 0) (pa_cons (pv 1) (pa_cons (pv 2) (pa_cons (pe_op op_sub (pv 3) pe_int) pa_nil))))) pa_nil))))))))))))), ?_⟩
      refine q_asgP (Pr := fun v H1 => ∃ k : Int, v = .int k ∧ 0 ≤ k ∧ k < 9 ∧ (4 ≤ k → 0 < deep) ∧ But p H H1 ∧ PoolAt H1 p) (fun Q' hq => ?_) (fun v H1 hv => ?_)
      · refine ⟨.ref p, rfl, _, rfl, _, _, rfl, rfl, _, rfl, ite2 (fun e => ?_) (fun e => ?_)⟩
        · refine ⟨p, 9, rfl, hp, by omega, by omega, fun k H1 k0 k9 b1 hp1 fr => hq _ _ ⟨k, rfl, k0, k9, fun _ => ?_, b1, hp1⟩⟩
          have := of_decide_eq_true e
          omega
        · exact ⟨p, 4, rfl, hp, by omega, by omega, fun k H1 k0 k9 b1 hp1 fr => hq _ _ ⟨k, rfl, k0, by omega, fun _ => by omega, b1, hp1⟩⟩
      · obtain ⟨k, rfl, k0, k9, k4, b1, hp1⟩ := hv
        have leaf : ∀ (H2 : Hp) (Q2 : VK), But p H H2 → PoolAt H2 p → (∀ v H', Q v H' → Q2 v H') → ∃ (p' : Addr) (n' : Int), [V.ref p, V.int 3] = [.ref p', .int n'] ∧ PoolAt H2 p' ∧ 0 < n' ∧ n' ≤ 1000000000 ∧ ∀ (v : Int) H', 0 ≤ v → v < n' → But p' H2 H' → PoolAt H' p' → (∀ b, H2 b = none → H' b = none) → Q2 (.int v) H' :=
          fun H2 Q2 b2 hp2 hq => ⟨p, 3, rfl, hp2, by omega, by omega, fun z H3 z0 z3 b3 hp3 fr => hq _ _ (q _ (.int z) H3 (b2.trans b3) hp3 (.int z) (.val z0 z3))⟩
        refine q_seqR (fun σ' H' => σ' = [some (.ref p), some (.ref b), some (.int n), some (.int deep), some (.int k), none, none, none] ∧ But p H H' ∧ PoolAt H' p ∧ k ≠ 0 ∧ (k = 1 → n ≠ 0) ∧ ((k = 2 ∨ k = 8) → L.cells ≠ [])) (fun nx hnx => ?_) (fun σ' H2 hP => ?_)
        · refine ⟨_, rfl, rfl, _, rfl, ?_⟩
          rw [dint]
          by_cases h0 : k = 0
          · rw [decide_eq_true h0]
            exact iteT ⟨.ref p, rfl, leaf H1 _ b1 hp1 fun _ _ h => h⟩
          rw [decide_eq_false h0]
          refine iteF ⟨_, rfl, rfl, _, rfl, ?_⟩
          rw [dint]
          by_cases h1 : k = 1
          · rw [decide_eq_true h1]
            refine iteT ⟨_, rfl, rfl, _, rfl, ?_⟩
            rw [dint]
            by_cases hz : n = 0
            · rw [decide_eq_true hz]
              exact iteT ⟨.ref p, rfl, leaf H1 _ b1 hp1 fun _ _ h => h⟩
            · rw [decide_eq_false hz]
              refine iteF ⟨_, rfl, (by show 2 ≤ sizeLine; decide), fun l nl => ⟨l, _, rfl, .inl (.inl (.inl upd_same)), rfl, rfl, _, rfl, ?_⟩⟩
              rw [in_twoI, decide_eq_false (by omega)]
              exact iteF (iteF (hnx _ _ ⟨rfl, but_sameN b1 (same_upd nl), hp1.upd nl, h0, fun _ => hz, fun h => by omega⟩))
          · rw [decide_eq_false h1]
            refine iteF (iteF ⟨_, rfl, (by show 2 ≤ sizeLine; decide), fun l nl => ⟨l, _, rfl, .inl (.inl (.inl upd_same)), rfl, rfl, _, rfl, ?_⟩⟩)
            rw [in_twoI]
            by_cases h2 : k = 2 ∨ k = 8
            · rw [decide_eq_true h2]
              have b2 := but_sameN b1 (same_upd (o := .lst [.int 2, .int 8]) nl)
              have hp2 := hp1.upd (o := .lst [.int 2, .int 8]) nl
              obtain ⟨c, f', ts, gs, e0, e1, e4, r1, r2⟩ := hb.but hp b2
              refine iteT ⟨_, rfl, b, .ref c, rfl, dg e0 "cells" rfl, Nat.zero_le _, fun l2 nl2 => ?_⟩
              have s2 := same_upd (o := .lst []) nl2
              refine ⟨.list (cellsD L), .list [], .lst (.inl (.inl (s2 _ _ e1))) (dpA_same s2 (cells_dp r1)), .lst (.inl (.inl upd_same)) .nil, cells_shaped N, by decide +kernel, _, rfl, ?_⟩
              cases hcs : L.cells with
              | nil =>
                have ec : cellsD L = [] := by
                  unfold cellsD
                  rw [hcs]
                  rfl
                rw [ec, show PyData.eqv (.list []) (.list []) = true from SeqAt.eqv_refl _ (by decide +kernel)]
                exact iteT ⟨.ref p, rfl, leaf _ _ (but_sameN b2 s2) (hp2.upd nl2) fun _ _ h => h⟩
              | cons x r =>
                have ec : PyData.eqv (.list (cellsD L)) (.list []) = false := by
                  unfold cellsD
                  rw [hcs]
                  rfl
                rw [ec]
                exact iteF (hnx _ _ ⟨rfl, but_sameN b2 s2, hp2.upd nl2, h0, (fun h => absurd h h1), fun _ e => by rw [hcs] at e; cases e⟩)
            · rw [decide_eq_false h2]
              exact iteF (iteF (hnx _ _ ⟨rfl, but_sameN b1 (same_upd nl), hp1.upd nl, h0, (fun h => absurd h h1), fun h => absurd h h2⟩))
        · obtain ⟨rfl, b2, hp2, h0, hn1, hcell⟩ := hP
          clear b1 hp1
          have hb2 := hb.but hp b2
          refine ⟨_, rfl, rfl, _, rfl, ?_⟩
          rw [dint]
          by_cases h1 : k = 1
          · rw [decide_eq_true h1]
            refine iteT ⟨_, rfl, _, rfl, p, n, rfl, hp2, ?_, by omega, fun z H3 z0 zn b3 hp3 fr => ⟨(by show 2 ≤ sizeLine; decide), fun t nt => ?_⟩⟩
            · have := hn1 h1
              omega
            · exact q _ (.tuple [.str "arg", .int z]) _ (but_sameN (b2.trans b3) (same_upd nt)) (hp3.upd nt) (dpT nt (.cons (.str _) (.cons (.int _) .nil))) (.arg z0 zn)
          rw [decide_eq_false h1]
          refine iteF ⟨_, rfl, rfl, _, rfl, ?_⟩
          rw [dint]
          have cell : L.cells ≠ [] → ∀ (Q2 : VK), (∀ v d H', But p H H' → PoolAt H' p → Dp K H' v d → GdL L n (deep + 1) d → Q2 v H') → (tTup (tCons (tC (.str "cell")) (tCons (tOp (rIxT K) (tCall (spPick K) [] E0 (tCons (tVar 0) (tCons (tDGet (tVar 1) (tC (.str "cells"))) tNil))) (tC (.int 0))) tNil))) [some (.ref p), some (.ref b), some (.int n), some (.int deep), some (.int k), none, none, none] H2 Q2 := by
            intro hne Q2 hq
            obtain ⟨c, f', ts, gs, e0, e1, e4, r1, r2⟩ := hb2
            obtain ⟨x, y, ep, _⟩ := id hp2
            have l1 : 1 ≤ ts.length := by
              rw [r1.1]
              cases h : L.cells with
              | nil => exact absurd h hne
              | cons _ _ => simp
            have l8 : ts.length ≤ 8 := by rw [r1.1]; exact N.lc
            have npc : p ≠ c := fun q => by
              rw [← q, ep] at e1
              cases e1
              obtain ⟨d, _, t, e, _⟩ := r1.at (i := 0) (by show 0 < 2; decide)
              cases e
            refine ⟨_, rfl, _, rfl, b, .ref c, rfl, dg e0 "cells" rfl, p, c, ts, rfl, hp2, npc, .inl (.inl (.inl e1)), l1, Nat.le_trans l8 (by decide), fun i hi H3 b3 hp3 fr => ?_⟩
            obtain ⟨d, hd, t, et, ht⟩ := r1.at hi
            rw [et]
            exact ⟨t, _, 0, .str d.1, rfl, rfl, but_sqT ep b3 ht, atI_nat (j := 0) rfl, (by show 2 ≤ sizeLine; decide), fun l nl => hq _ (.tuple [.str "cell", .str d.1]) _ (but_sameN (b2.trans b3) (same_upd nl)) (hp3.upd nl) (dpT nl (.cons (.str _) (.cons (.str _) .nil))) (.cell (k := d.2) hd)⟩
          by_cases h2 : k = 2
          · rw [decide_eq_true h2]
            exact iteT (cell (hcell (.inl h2)) _ q)
          rw [decide_eq_false h2]
          refine iteF ⟨_, rfl, rfl, _, rfl, ?_⟩
          rw [dint]
          by_cases h8 : k = 8
          · rw [decide_eq_true h8]
            exact iteT (cell (hcell (.inr h8)) _ q)
          rw [decide_eq_false h8]
          refine iteF ⟨_, rfl, rfl, _, rfl, ?_⟩
          rw [dint]
          by_cases h3 : k = 3
          · rw [decide_eq_true h3]
            refine iteT ⟨_, rfl, p, 3, rfl, hp2, by omega, by omega, fun z H3 z0 z3 b3 hp3 fr => ⟨rfl, _, rfl, ite2 (fun _ => ⟨(by show 1 ≤ sizeLine; decide), fun t nt => ?_⟩) (fun _ => ⟨.ref p, rfl, leaf H3 _ (b2.trans b3) hp3 fun _ _ h => h⟩)⟩⟩
            exact q _ (.tuple [.str "tick"]) _ (but_sameN (b2.trans b3) (same_upd nt)) (hp3.upd nt) (dpT nt (.cons (.str _) .nil)) .tick
          rw [decide_eq_false h3]
          refine iteF ?_
          dsimp only [tNext]
          have dpos : 0 < deep := k4 (by omega)
          have dm : deep - 1 + 1 = deep := by omega
          have dcast : ((deep : Nat) : Int) - 1 = ((deep - 1 : Nat) : Int) := by omega
          have dargs : [V.ref p, V.ref b, V.int n, V.int (((deep : Nat) : Int) - 1)] = [V.ref p, V.ref b, V.int n, V.int ((deep - 1 : Nat) : Int)] := by rw [dcast]
          refine q_seqR (fun σ' H' => σ' = [some (.ref p), some (.ref b), some (.int n), some (.int deep), some (.int k), none, none, none] ∧ But p H H' ∧ PoolAt H' p ∧ LBk K L H' b) (fun nx hnx => ?_) (fun σ' H2 hP => ?_)
          · refine ⟨_, rfl, rfl, _, rfl, ?_⟩
            rw [dint]
            by_cases h4 : ¬ k = 4
            · rw [decide_eq_false h4]
              exact iteF (hnx _ _ ⟨rfl, b2, hp2, hb2⟩)
            rw [decide_eq_true (Decidable.not_not.mp h4)]
            have hb2' := hb2
            obtain ⟨c, f', ts, gs, e0, e1, e4, r1, r2⟩ := hb2
            refine iteT ⟨_, rfl, b, .ref f', rfl, dg e0 "functions" rfl, Nat.zero_le _, fun l nl => ?_⟩
            have sl : Same H2 (upd H2 l (.lst [])) := same_upd nl
            refine ⟨f', l, gs, rfl, rfl, .inl (.inl (sl _ _ e4)), .inl (.inl upd_same), _, rfl, ?_⟩
            cases hgs : gs with
            | nil => exact iteF (hnx _ _ ⟨rfl, but_sameN b2 sl, hp2.same sl, hb2'.but hp2 (But.of sl)⟩)
            | cons g0 gr =>
            refine iteT ?_
            have l1 : 1 ≤ gs.length := by rw [hgs]; simp
            have l8 : gs.length ≤ 8 := by rw [r2.1]; exact N.lf
            have b3 := but_sameN b2 sl
            have hp3 := hp2.same sl
            have npf : p ≠ f' := fun q => by
              obtain ⟨x, y, ep, _⟩ := hp2
              rw [← q, ep] at e4
              cases e4
              obtain ⟨d, _, t, _, e, _⟩ := r2.at (i := 0) (by show 0 < 2; decide)
              cases e
            have hb3 := hb2'.but hp2 (But.of sl)
            have r3 : Rows (FnD (upd H2 l (.lst []))) gs L.fns := r2.mono fun v d h => by
              obtain ⟨g, kvs, e, h, r⟩ := h
              exact ⟨g, kvs, e, sl _ _ h, r⟩
            generalize upd H2 l (.lst []) = H3 at sl b3 hp3 hb3 r3
            refine ⟨_, rfl, _, rfl, b, .ref f', rfl, dg (sl _ _ e0) "functions" rfl, p, f', gs, rfl, hp3, npf, .inl (.inl (.inl (sl _ _ e4))), l1, Nat.le_trans l8 (by decide), fun i hi H4 b4 hp4 fr => ?_⟩
            have hb4 := hb3.but hp3 b4
            obtain ⟨⟨nx, cnt⟩, hmem, g, kvs, eg, e3g, kn, km⟩ := r3.at hi
            have e4g : H4 g = some (.dK kvs) := by
              obtain ⟨x, y, ep, _⟩ := hp3
              exact b4 _ _ e3g (ne_of e3g ep (fun z => nomatch z))
            have hc := (N.f _ hmem).2
            dsimp only at hc kn km
            rw [eg]
            refine ⟨.ref g, rfl, g, .str nx, rfl, dg e4g "name" kn, .ref g, rfl, g, .int (cnt : Int), rfl, dg e4g "many" km, (cnt : Int), rfl, by omega, by omega, fun D hD => ?_⟩
            refine lc_terms (K := K) N (n := n) (f := 1) (vs := [7]) (j := 7) (D := D) (p := p) walk_range (by omega) hD hp4 (fun x => rfl)
              (fun i' x H5 H6 hi' b5 hp5 y => ⟨y.1, fun Q2 q2 => ⟨.ref p, rfl, .ref b, rfl, .int n, rfl, L, p, b, n, 0, N, rfl, hp5, hb4.but hp4 b5, hn0, hn2, by omega, fun v d H7 b7 hp7 dv gd => q2 v d H7 b7 hp7 dv gd⟩⟩)
              (fun ys ts H5 b5 hp5 e5' ha el hall => ⟨D, ys, rfl, .inl ⟨.inl (.inl e5'), fun t nt => ⟨(by show 3 ≤ sizeLine; decide), fun t2 nt2 => ?_⟩⟩⟩)
            refine q _ (.tuple [.str "call", .str nx, .tuple ts]) _ (but_sameN ((b3.trans b4).trans b5) ((same_upd nt).trans (same_upd nt2))) ((hp5.upd nt).upd nt2) (dpT nt2 (.cons (.str _) (.cons (.str _) (.cons (dpT nt ha) .nil)))) (.call (by rw [el, show ((cnt : Int)).toNat = cnt from rfl]; exact hmem) fun t ht => gdl_mono 1 deep t (hall t ht) dpos)
          clear b2 hp2 hb2
          obtain ⟨rfl, b2, hp2, hb2⟩ := hP
          refine ⟨_, rfl, rfl, _, rfl, ?_⟩
          rw [dint]
          by_cases h7 : k = 7
          · rw [decide_eq_true h7]
            refine iteT ⟨(by show 1 ≤ sizeLine; decide), fun t1 nt1 => ⟨3, rfl, by decide, by decide, fun D hD => ?_⟩⟩
            have s1 : Same H2 (upd H2 t1 (.tup [.str "if"])) := same_upd nt1
            have hp3 := hp2.upd (o := .tup [.str "if"]) nt1
            have et1 : SqT K (upd H2 t1 (.tup [.str "if"])) t1 [.str "if"] := .inl (.inl upd_same)
            refine lc_terms (K := K) N (n := n) (f := deep) (vs := [7]) (j := 7) (D := D) (p := p) (walk_range (n := 3)) (by decide) hD hp3 (fun x => rfl)
              (fun i' x H5 H6 hi' b5 hp5 y => ⟨y.1, fun Q2 q2 => ⟨.ref p, rfl, .ref b, rfl, .int n, rfl, .int deep, rfl, _, _, rfl, rfl, L, p, b, n, deep - 1, N, dargs, hp5, (hb2.but hp2 (But.of s1)).but hp3 b5, hn0, hn2, by omega, fun v d H7 b7 hp7 dv gd => q2 v d H7 b7 hp7 dv (by rw [dm] at gd; exact gd)⟩⟩)
              (fun ys ts H5 b5 hp5 e5' ha el hall => ⟨D, ys, rfl, .inl ⟨.inl (.inl e5'), fun t2 nt2 => ?_⟩⟩)
            have ely : ys.length = 3 := by rw [dpA_len ha, el]
            have et5 : SqT K H5 t1 [.str "if"] := by
              obtain ⟨x, y, ep, _⟩ := hp3
              exact but_sqT ep b5 et1
            refine ⟨t1, t2, [.str "if"], ys, rfl, rfl, same_sqT (same_upd nt2) et5, .inl (.inl upd_same), by simp, ?_, fun e => ?_, fun _ t3 nt3 => ?_⟩
            · rw [ely]
              decide
            · rw [e] at ely
              cases ely
            · exact q _ (.tuple (.str "if" :: ts)) _ (but_sameN ((but_sameN b2 s1).trans b5) ((same_upd nt2).trans (same_upd nt3))) ((hp5.upd nt2).upd nt3) (dpT nt3 (.cons (.str _) (dpA_same (same_upd nt2) ha))) (.op (.inl ⟨rfl, el⟩) hall)
          rw [decide_eq_false h7]
          refine iteF ?_
          refine ⟨.ref p, rfl, (by show 3 ≤ sizeLine; decide), fun l nl => ?_⟩
          refine ⟨p, l, _, rfl, hp2.upd nl, hp2.ne nl, .inl (.inl (.inl upd_same)), (by decide), (by decide), fun i hi H3 b3 hp3 fr => ?_⟩
          have sl : Same H2 (upd H2 l (.lst [.str "plus", .str "less", .str "same"])) := same_upd nl
          have hb3 := (hb2.but hp2 (But.of sl)).but (hp2.upd nl) b3
          have bb3 := (but_sameN b2 sl).trans b3
          obtain ⟨h, eh, hbin⟩ : ∃ h, [V.str "plus", .str "less", .str "same"][i] = .str h ∧ bin h := by
            match i, hi with
            | 0, _ => exact ⟨_, rfl, .inl rfl⟩
            | 1, _ => exact ⟨_, rfl, .inr (.inl rfl)⟩
            | 2, _ => exact ⟨_, rfl, .inr (.inr rfl)⟩
          rw [eh]
          refine ⟨.str h, rfl, .ref p, rfl, .ref b, rfl, .int n, rfl, .int deep, rfl, _, _, rfl, rfl, L, p, b, n, deep - 1, N, dargs, hp3, hb3, hn0, hn2, by omega, fun v1 d1 H4 b4 hp4 dv1 gd1 => ?_⟩
          rw [dm] at gd1
          refine ⟨.ref p, rfl, .ref b, rfl, .int n, rfl, .int deep, rfl, _, _, rfl, rfl, L, p, b, n, deep - 1, N, dargs, hp4, hb3.but hp3 b4, hn0, hn2, by omega, fun v2 d2 H5 b5 hp5 dv2 gd2 => ⟨(by show 3 ≤ sizeLine; decide), fun t nt => ?_⟩⟩
          rw [dm] at gd2
          refine q _ (.tuple [.str h, d1, d2]) _ (but_sameN ((bb3.trans b4).trans b5) (same_upd nt)) (hp5.upd nt) (dpT nt (.cons (.str _) (.cons (dp_but hp4 b5 (gd_nl _ _ (gdl_gd N _ _ gd1)) dv1) (.cons dv2 .nil)))) (.op (.inr ⟨hbin, rfl⟩) fun t ht => ?_)
          rcases List.mem_cons.mp ht with rfl | ht
          · exact gd1
          · rw [List.mem_singleton.mp ht]
            exact gd2
end
/-! ### the law's writes, drawn -/
def WrD (L : LB) (n : Int) (d : PyData) : Prop := d = .tuple [] ∨ ∃ z t, d = .tuple [.tuple [.str z, t]] ∧ (z, ("table" : Str)) ∈ L.cells ∧ GdL L n 2 t
abbrev sLW : Stmt := topS 38
theorem scLW : FnScope ["_law_pool_here", "_law_b", "_law_many", "_law_tables", "_law_cell"] ["_law_pool_here", "_law_b", "_law_many"] (defScope sLW) := ⟨rfl, rfl, rfl, by decide +kernel, rfl, by decide +kernel, by decide +kernel⟩
def tablesOf (cs : List (Str × Str)) : List Str := (cs.filter fun x => decide (x.2 = ("table" : Str))).map (·.1)
def spLW (K : PySem.W.Frag) : Sp := fun vs H Q _ => ∃ (L : LB) (p b : Addr) (n : Int), LOk L ∧ vs = [.ref p, .ref b, .int n] ∧ PoolAt H p ∧ LBk K L H b ∧ 0 ≤ n ∧ n ≤ 2 ∧
  ∀ v d H', But p H H' → PoolAt H' p → Dp K H' v d → WrD L n d → Q v H'
theorem strs_dp {K : PySem.W.Frag} {H : Hp} : ∀ zs : List Str, DpAll K H (zs.map V.str) (zs.map PyData.str)
  | [] => .nil
  | z :: zs => .cons (.str z) (strs_dp zs)
section
variable {P : Program} {w : World} {K : PySem.W.Frag} {mg : Str → Option Value} {base : Heap}
theorem ok_lw {f fD fP fT : Addr} {fd dD dP dT : FuncData} (F : Fun K "_law_writes" "_law_writes" sLW f fd) (M : Blt mg)
    (FD : Fun K "_law_draw" "_law_draw" sDraw fD dD) (bD : Binds K dD ["_law_pool_here", "_law_many"] []) (gD : mg "_law_draw" = some (.ref fD))
    (FP : Fun K "_law_pick" "_law_pick" sPick fP dP) (bP : Binds K dP ["_law_pool_here", "_law_row"] []) (gP : mg "_law_pick" = some (.ref fP))
    (FT : Fun K "_law_term" "_law_term" sLTerm fT dT) (bT : Binds K dT ["_law_pool_here", "_law_b", "_law_many", "_law_deep"] []) (gT : mg "_law_term" = some (.ref fT)) : FnOk P w K mg base CX0 6 f fd ["_law_pool_here", "_law_b", "_law_many"] (spLW K) := by
  have GD : FnOk P w K mg base CX0 1 fD dD ["_law_pool_here", "_law_many"] spDraw := ok_draw FD M
  have GP : FnOk P w K mg base CX0 2 fP dP ["_law_pool_here", "_law_row"] (spPick K) := ok_pick FP M FD bD gD
  have GT : FnOk P w K mg base CX0 5 fT dT ["_law_pool_here", "_law_b", "_law_many", "_law_deep"] (spLTerm K 2) := ok_lterm FT M bT gT FD bD gD FP bP gP 2
  refine F.ok scLW (fun vs H Q E h => ?_) (fun cdv A outer s H vs Q E hr h => ?_)
  · obtain ⟨L, p, b, n, _, rfl, _⟩ := h
    rfl
  · obtain ⟨L, p, b, n, o, rfl, hp, hb, n0, n2, q⟩ := h
    have hr1 : Room 1 (A.deeper (envOfC "_law_writes" (defScope sLW) s.heap.objs.size f cdv)) := hr.mono (by decide)
    have hr2 : Room 2 (A.deeper (envOfC "_law_writes" (defScope sLW) s.heap.objs.size f cdv)) := hr.mono (by decide)
    have hu := hu_of hr
    refine ⟨_, pss_cons (ps_setLc (i := 3) (own := [("_law_cell", 4)]) (g := gName 4) (wi := iList K (tDGet (tVar 1) (tC (.str "cells")))) (tt := tTest (tOp rEq (tOp (rIxT K) (tVar 4) (tC (.int 1))) (tC (.str "table")))) (te := tOp (rIxT K) (tVar 4) (tC (.int 0))) (by rfl) scLW.nd rfl rfl (sw_true rfl rfl rfl (by decide +kernel)) (pi_list (pe_dget hu (pv 1) pe_str (fun _ _ => rfl)))
          (blkOk_by (own := [("_law_cell", 4)]) (N := ["_law_pool_here", "_law_b", "_law_many", "_law_tables", "_law_cell"]) (sc := defScope sLW) (by decide +kernel)) (fun _ _ _ _ _ => pg_name (i := 4) scLW.nd rfl (Or.inl rfl)) (fun _ _ _ _ _ => pts_one (pt_cmpR op_eq (pe_ix ix_tup (pv 4) pe_int (fun _ _ => rfl)) pe_str (nomark _))) (fun _ _ _ _ _ => pe_ix ix_tup (pv 4) pe_int (fun _ _ => rfl)))
      (pss_cons (ps_if (PW.pt (pw_or (pt_cmpR (op_eqD hr.units) (pv 3) (pe_lst pa_nil) (nomark _)) (pw_or1 (pt_cmpR op_eq (pe_call GD hr1 (by rfl) gD FD.kp bD .nil pass0 (pa_cons (pv 0) (pa_cons pe_int pa_nil))) pe_int (nomark _))))) (pss_one (ps_ret (pe_tup pa_nil))) pss_nil)
      (pss_one (ps_ret (pe_tup (pa_cons (pe_tup (pa_cons (pe_call GP hr2 (by rfl) gP FP.kp bP .nil pass0 (pa_cons (pv 0) (pa_cons (pv 3) pa_nil))) (pa_cons (pe_call GT hr (by rfl) gT FT.kp bT .nil pass0 (pa_cons (pv 0) (pa_cons (pv 1) (pa_cons (pv 2) (pa_cons pe_int pa_nil))))) pa_nil))) pa_nil))))), ?_⟩
    obtain ⟨c, fa, ts, gs, e0, e1, e4, r1, r2⟩ := id hb
    refine ⟨.ref b, rfl, b, .ref c, rfl, dg e0 "cells" rfl, c, rfl, ⟨_, .inl (.inl e1)⟩, fun D hD => ?_⟩
    refine walk_gen (walk_list (K := K) (a := c) (xs := ts)) (fun i H' => Same H H' ∧ H' D = some (.lst ((tablesOf (L.cells.take i)).map V.str))) ⟨same_upd hD, upd_same⟩ (fun i H' _ pr => .inl (.inl (pr.1 _ _ e1))) (fun i x H1 H2 hi pr y => ?_) (fun H1 pr => ?_)
    · obtain ⟨s1, eD⟩ := pr
      obtain ⟨rfl, hx⟩ := y
      have hi' : i < L.cells.length := by
        have := (List.getElem?_eq_some_iff.mp hx).1
        rw [r1.1] at this
        exact this
      have hc := List.getElem?_eq_getElem hi'
      obtain ⟨t, rfl, ht⟩ := r1.2 i x _ hx hc
      have ht1 := same_sqT s1 ht
      have snoc : tablesOf (L.cells.take (i + 1)) = tablesOf (L.cells.take i) ++ (if decide (L.cells[i].2 = ("table" : Str)) = true then [L.cells[i].1] else []) := by
        unfold tablesOf
        rw [take_snoc hc, List.filter_append, List.map_append]
        congr 1
        cases e : decide (L.cells[i].2 = ("table" : Str)) with
        | true => rw [List.filter_cons_of_pos (by exact e)]; rfl
        | false => rw [List.filter_cons_of_neg (by rw [e]; decide)]; rfl
      refine And.intro rfl ?_
      refine ⟨.ref t, rfl, t, _, 1, .str _, rfl, rfl, ht1, atI_nat (j := 1) rfl, rfl, _, rfl, ?_⟩
      have dd : decide (V.str L.cells[i].2 = V.str "table") = decide (L.cells[i].2 = ("table" : Str)) := by
        by_cases e : L.cells[i].2 = "table"
        · rw [decide_eq_true e, decide_eq_true (by rw [e])]
        · rw [decide_eq_false e, decide_eq_false (fun z => e (V.str.inj z))]
      rw [dd]
      cases e : decide (L.cells[i].2 = ("table" : Str)) with
      | true =>
        rw [e] at snoc
        refine iteT ⟨.ref t, rfl, t, _, 0, .str _, rfl, rfl, ht1, atI_nat (j := 0) rfl, _, eD, ?_, fun b o e => ?_, ?_⟩
        · rw [List.length_map]
          unfold tablesOf
          rw [List.length_map]
          refine Nat.lt_of_le_of_lt (List.length_filter_le _ _) ?_
          rw [List.length_take]
          have := o.lc
          exact Nat.lt_of_le_of_lt (show _ ≤ 8 by omega) (by decide)
        · rw [upd_ne (ne_of_none e hD)]
          exact s1 _ _ e
        · rw [snoc, List.map_append]
          exact upd_same
      | false =>
        rw [e] at snoc
        refine iteF ⟨s1, ?_⟩
        rw [snoc]
        simpa using eD
    · obtain ⟨s1, eD⟩ := pr
      rw [r1.1, List.take_length] at eD
      have hp1 := hp.same s1
      have hb1 := hb.but hp (But.of s1)
      obtain ⟨zs, ez⟩ : ∃ zs, tablesOf L.cells = zs := ⟨_, rfl⟩
      have mem : ∀ z ∈ zs, (z, ("table" : Str)) ∈ L.cells := fun z hz => by
        rw [← ez] at hz
        unfold tablesOf at hz
        obtain ⟨x, hx, rfl⟩ := List.mem_map.mp hz
        obtain ⟨h1, h2⟩ := List.mem_filter.mp hx
        have e : x.2 = ("table" : Str) := of_decide_eq_true h2
        rw [← e]
        exact h1
      have lz : zs.length ≤ 8 := by
        rw [← ez]
        unfold tablesOf
        rw [List.length_map]
        exact Nat.le_trans (List.length_filter_le _ _) o.lc
      rw [ez] at eD
      refine ⟨.ref D, rfl, Nat.zero_le _, fun l nl => ?_⟩
      have sl := same_upd (o := .lst []) nl
      have names : ∀ z ∈ zs, PyData.strOk z = true := fun z hz => name_ok (o.c _ (mem z hz)).1
      have shp : SeqAt.shaped (.list (zs.map PyData.str)) = true := by
        refine Bool.and_eq_true_iff.mpr ⟨canLay_of fun t h => ?_, decide_eq_true ?_⟩
        · obtain ⟨z, hz, rfl⟩ := List.mem_map.mp h
          exact names z hz
        · show PyData.depthAll (zs.map PyData.str) + 1 ≤ 64
          have := depth_of (m := 0) (ts := zs.map PyData.str) fun t h => by
            obtain ⟨z, hz, rfl⟩ := List.mem_map.mp h
            exact Nat.le_refl _
          omega
      refine ⟨.list (zs.map PyData.str), .list [], .lst (.inl (.inl (sl _ _ eD))) (strs_dp zs), .lst (.inl (.inl upd_same)) .nil, shp, by decide +kernel, _, rfl, ?_⟩
      have b2 : But p H (upd H1 l (.lst [])) := (But.of s1).trans (But.of sl)
      have hp2 := hp1.same sl
      have hb2 := hb1.but hp1 (But.of sl)
      have eD2 := sl _ _ eD
      have nDp : p ≠ D := by
        obtain ⟨x, y, ep, _⟩ := hp
        exact ne_of_none ep hD
      have gone : ∀ H', But p H H' → PoolAt H' p → (tTup tNil) [some (.ref p), some (.ref b), some (.int n), some (.ref D), none] H' Q := fun H' k h => ⟨by show 0 ≤ sizeLine; decide, fun t nt => q _ (.tuple []) _ (but_sameN k (same_upd nt)) (h.upd nt) (dpT nt .nil) (.inl rfl)⟩
      cases hz : zs with
      | nil =>
        rw [show PyData.eqv (.list (([] : List Str).map PyData.str)) (.list []) = true from SeqAt.eqv_refl _ (by decide +kernel)]
        exact iteT (gone _ b2 hp2)
      | cons z0 zr =>
        rw [show PyData.eqv (.list ((z0 :: zr).map PyData.str)) (.list []) = false from rfl]
        have l1 : 1 ≤ (zs.map V.str).length := by rw [hz]; simp
        refine iteF ⟨.ref p, rfl, p, 2, rfl, hp2, by omega, by omega, fun k H3 k0 k2 b3 hp3 fr => ⟨rfl, _, rfl, ?_⟩⟩
        have b13 := b2.trans b3
        refine ite2 (fun _ => gone _ b13 hp3) (fun _ => ?_)
        have eD3 := b3 _ _ eD2 nDp.symm
        refine ⟨.ref p, rfl, .ref D, rfl, p, D, zs.map V.str, rfl, hp3, nDp, .inl (.inl (.inl eD3)), l1, Nat.le_trans (by rw [List.length_map]; exact lz) (by decide), fun i hi H4 b4 hp4 fr4 => ?_⟩
        have hi' : i < zs.length := by rw [List.length_map] at hi; exact hi
        have hb4 := (hb2.but hp2 b3).but hp3 b4
        rw [List.getElem_map]
        refine ⟨.ref p, rfl, .ref b, rfl, .int n, rfl, L, p, b, n, 1, o, rfl, hp4, hb4, n0, n2, by decide, fun v d H5 b5 hp5 dv gd => ?_⟩
        refine ⟨by show 2 ≤ sizeLine; decide, fun t1 m1 => ⟨by show 1 ≤ sizeLine; decide, fun t2 m2 => ?_⟩⟩
        refine q _ (.tuple [.tuple [.str zs[i], d]]) _ (but_sameN ((b13.trans b4).trans b5) ((same_upd m1).trans (same_upd m2))) ((hp5.upd m1).upd m2) (dpT m2 (.cons (dpT m1 (.cons (.str _) (.cons dv .nil))) .nil)) (.inr ⟨_, d, rfl, mem _ (List.getElem_mem hi'), gd⟩)
end
/-! ### the law's book, drawn -/
structure FDr where
  nm : Str
  many : Nat
  res : PyData
  ws : PyData
  cost : Int
  label : Str
def FDrAt (K : PySem.W.Frag) (H : Hp) (v : V) (F : FDr) : Prop := ∃ (g : Addr) (vr vw : V), v = .ref g ∧ H g = some (.dK [(.inr "name", .str F.nm), (.inr "many", .int (F.many : Nat)), (.inr "result", vr), (.inr "writes", vw), (.inr "cost", .int F.cost), (.inr "label", .str F.label)]) ∧
  Dp K H vr F.res ∧ Dp K H vw F.ws ∧ noL F.res = true ∧ noL F.ws = true
def lbOf (cells : List (Str × Str)) (fs : List FDr) : LB := ⟨cells, fs.map fun F => (F.nm, F.many)⟩
def labelRow : List Str := ["always", "session", "statement", "changing"]
/-- what is known of a function drawn behind others -/
structure FOk (deep : Nat) (cells : List (Str × Str)) (prev : List FDr) (F : FDr) : Prop where
  nm : isName (.str F.nm) = true
  many : F.many ≤ 2
  res : GdL (lbOf cells prev) F.many (deep + 1) F.res
  ws : WrD (lbOf cells prev) F.many F.ws
  c0 : 0 ≤ F.cost
  c9 : F.cost < 10
  lab : F.label ∈ labelRow
/-- what is known of a drawn book, its functions so far -/
structure DOk (deep : Nat) (words : List Str) (cells : List (Str × Str)) (fs : List FDr) : Prop where
  lc : cells.length ≤ 3
  lf : fs.length ≤ 3
  cn : ∀ (i : Nat) x, cells[i]? = some x → words[i]? = some x.1 ∧ x.2 ∈ (["frozen", "setting", "table"] : List Str)
  fn : ∀ (i : Nat) F, fs[i]? = some F → words[4 + i]? = some F.nm ∧ FOk deep cells (fs.take i) F
/-- the drawn book stands at b -/
def BkAt (K : PySem.W.Frag) (cells : List (Str × Str)) (fs : List FDr) (H : Hp) (b : Addr) : Prop := ∃ c f ts gs, H b = some (.dK [(.inr "cells", .ref c), (.inr "functions", .ref f)]) ∧ H c = some (.lst ts) ∧ H f = some (.lst gs) ∧ Rows (CellT K H) ts cells ∧ Rows (FDrAt K H) gs fs
theorem BkAt.lbk {K : PySem.W.Frag} {cells : List (Str × Str)} {fs : List FDr} {H : Hp} {b : Addr} (h : BkAt K cells fs H b) : LBk K (lbOf cells fs) H b := by
  obtain ⟨c, f, ts, gs, e0, e1, e2, r1, r2⟩ := h
  refine ⟨c, f, ts, gs, e0, e1, e2, r1, ⟨by rw [r2.1]; simp [lbOf], fun i x y e1 e2 => ?_⟩⟩
  have e3 : (fs.map fun F => (F.nm, F.many))[i]? = some y := e2
  rw [List.getElem?_map] at e3
  obtain ⟨F, hF, rfl⟩ := Option.map_eq_some_iff.mp e3
  obtain ⟨g, vr, vw, rfl, e, _⟩ := r2.2 i x F e1 hF
  exact ⟨g, _, rfl, e, rfl, rfl⟩
theorem DOk.lok {deep : Nat} {words : List Str} {cells : List (Str × Str)} {fs : List FDr} (h : DOk deep words cells fs) (wn : ∀ z ∈ words, isName (.str z) = true) : LOk (lbOf cells fs) where
  c := fun x hx => by
    obtain ⟨i, hi⟩ := List.getElem?_of_mem hx
    obtain ⟨h1, h2⟩ := h.cn i x hi
    exact ⟨wn _ (List.mem_of_getElem? h1), h2⟩
  f := fun x hx => by
    obtain ⟨F, hF, rfl⟩ := List.mem_map.mp hx
    obtain ⟨i, hi⟩ := List.getElem?_of_mem hF
    obtain ⟨_, h2⟩ := h.fn i F hi
    exact ⟨h2.nm, h2.many⟩
  lc := Nat.le_trans h.lc (by decide)
  lf := by
    show (fs.map _).length ≤ 8
    rw [List.length_map]
    exact Nat.le_trans h.lf (by decide)
theorem rows_nil {α : Type} {R : V → α → Prop} : Rows R [] [] := ⟨rfl, fun i x c e _ => by simp at e⟩
theorem rows_snoc {α : Type} {R : V → α → Prop} {xs : List V} {cs : List α} {x : V} {c : α} (h : Rows R xs cs) (k : R x c) : Rows R (xs ++ [x]) (cs ++ [c]) := ⟨by rw [List.length_append, List.length_append, h.1]; rfl, fun i y d e1 e2 => by
  by_cases hi : i < xs.length
  · rw [List.getElem?_append_left hi] at e1
    rw [List.getElem?_append_left (h.1 ▸ hi)] at e2
    exact h.2 i y d e1 e2
  · have h1 := (List.getElem?_eq_some_iff.mp e1).1
    rw [List.length_append] at h1
    have hi2 : i = xs.length := by simp at h1; omega
    rw [hi2, List.getElem?_append_right (Nat.le_refl _), Nat.sub_self] at e1
    rw [hi2, h.1, List.getElem?_append_right (Nat.le_refl _), Nat.sub_self] at e2
    cases e1
    cases e2
    exact k⟩
theorem sqT_dk {K : PySem.W.Frag} {H H' : Hp} {g : Addr} {kvs : List (Key × V)} (e : H g = some (.dK kvs)) (b : But g H H') {a : Addr} {xs : List V} (h : SqT K H a xs) : SqT K H' a xs := by
  rcases h with (h | ⟨o, h⟩) | h
  · exact .inl (.inl (b _ _ h (ne_of h e (fun z => nomatch z))))
  · exact .inl (.inr ⟨o, b _ _ h (ne_of h e (fun z => nomatch z))⟩)
  · exact .inr h
theorem cellT_of {K : PySem.W.Frag} {H H' : Hp} (k : ∀ a xs, SqT K H a xs → SqT K H' a xs) {v : V} {x : Str × Str} (h : CellT K H v x) : CellT K H' v x := by
  obtain ⟨t, e, h⟩ := h
  exact ⟨t, e, k _ _ h⟩
theorem fdrAt_of {K : PySem.W.Frag} {H H' : Hp} (k : ∀ a xs, SqT K H a xs → SqT K H' a xs) {v : V} {F : FDr} (kd : ∀ g kvs, v = .ref g → H g = some (.dK kvs) → kvs.length = 6 → H' g = some (.dK kvs)) (h : FDrAt K H v F) : FDrAt K H' v F := by
  obtain ⟨g, vr, vw, rfl, e, h1, h2, n1, n2⟩ := h
  exact ⟨g, vr, vw, rfl, kd g _ rfl e rfl, dp_tups k _ _ n1 h1, dp_tups k _ _ n2 h2, n1, n2⟩
theorem BkAt.but {K : PySem.W.Frag} {cells : List (Str × Str)} {fs : List FDr} {H H' : Hp} {b p : Addr} (h : BkAt K cells fs H b) (hp : PoolAt H p) (bt : But p H H') : BkAt K cells fs H' b := by
  obtain ⟨c, f, ts, gs, e0, e1, e4, r1, r2⟩ := h
  obtain ⟨x, y, ep, _⟩ := hp
  have nc : c ≠ p := fun q => by
    rw [q, ep] at e1
    cases e1
    obtain ⟨d, _, t, e, _⟩ := r1.at (i := 0) (by show 0 < 2; decide)
    cases e
  have nf : f ≠ p := fun q => by
    rw [q, ep] at e4
    cases e4
    obtain ⟨d, _, t, _, _, e, _⟩ := r2.at (i := 0) (by show 0 < 2; decide)
    cases e
  exact ⟨c, f, ts, gs, bt _ _ e0 (ne_of e0 ep (fun z => nomatch z)), bt _ _ e1 nc, bt _ _ e4 nf, r1.mono fun v d h => cellT_of (fun a xs h => but_sqT ep bt h) h, r2.mono fun v d h => fdrAt_of (fun a xs h => but_sqT ep bt h) (fun g kvs _ e _ => bt _ _ e (ne_of e ep (fun z => nomatch z))) h⟩
theorem upd_two {H : Hp} {a : Addr} {x y : HO} : upd (upd H a x) a y = upd H a y := by
  funext b
  by_cases h : b = a
  · subst h
    rw [upd_same, upd_same]
  · rw [upd_ne h, upd_ne h, upd_ne h]
theorem pool_ne {H : Hp} {p g : Addr} {o : HO} (h : PoolAt H p) (n : p ≠ g) : PoolAt (upd H g o) p := by
  obtain ⟨x, y, e, r⟩ := h
  exact ⟨x, y, by rw [upd_ne n]; exact e, r⟩
theorem but_new {p g : Addr} {G X : Hp} {o : HO} (k : But p G X) (ng : G g = none) : But p G (upd X g o) := fun x u e n => by
  rw [upd_ne (ne_of_none e ng)]
  exact k _ _ e n
theorem wr_nl {L : LB} (o : LOk L) {n : Int} {d : PyData} (h : WrD L n d) : noL d = true := by
  rcases h with rfl | ⟨z, t, rfl, _, g⟩
  · rfl
  · show ((true && (noL t && true)) && true) = true
    rw [gd_nl 2 t (gdl_gd o 2 t g)]
    rfl
abbrev sLB : Stmt := topS 39
theorem scLB : FnScope ["_law_pool_here", "_law_most", "_law_deep", "_law_words", "_law_b", "_law_at", "_law_many", "_law_f"] ["_law_pool_here", "_law_most", "_law_deep"] (defScope sLB) := ⟨rfl, rfl, rfl, by decide +kernel, rfl, by decide +kernel, by decide +kernel⟩
def spLB (K : PySem.W.Frag) : Sp := fun vs H Q _ => ∃ (p : Addr) (most : Int) (deep : Nat), vs = [.ref p, .int most, .int (deep : Nat)] ∧ PoolAt H p ∧ 0 < most ∧ most ≤ 3 ∧ deep ≤ 2 ∧
  ∀ b words cells fs H', But p H H' → PoolAt H' p → words.length = 8 → (∀ z ∈ words, isName (.str z) = true) → words.Nodup → (∀ z ∈ words, z.length ≤ 4 ∨ z.length = 8) → BkAt K cells fs H' b → DOk deep words cells fs → 1 ≤ fs.length → H b = none → Q (.ref b) H'
section
variable {P : Program} {w : World} {K : PySem.W.Frag} {mg : Str → Option Value} {base : Heap}
theorem ok_lb {f fD fP fT fN fW : Addr} {fd dD dP dT dN dW : FuncData} (F : Fun K "_law_book" "_law_book" sLB f fd) (M : Blt mg)
    (FD : Fun K "_law_draw" "_law_draw" sDraw fD dD) (bD : Binds K dD ["_law_pool_here", "_law_many"] []) (gD : mg "_law_draw" = some (.ref fD))
    (FP : Fun K "_law_pick" "_law_pick" sPick fP dP) (bP : Binds K dP ["_law_pool_here", "_law_row"] []) (gP : mg "_law_pick" = some (.ref fP))
    (FN : Fun K "_law_names" "_law_names" sLNames fN dN) (bN : Binds K dN ["_law_pool_here", "_law_count"] []) (gN : mg "_law_names" = some (.ref fN))
    (FT : Fun K "_law_term" "_law_term" sLTerm fT dT) (bT : Binds K dT ["_law_pool_here", "_law_b", "_law_many", "_law_deep"] []) (gT : mg "_law_term" = some (.ref fT))
    (FW : Fun K "_law_writes" "_law_writes" sLW fW dW) (bW : Binds K dW ["_law_pool_here", "_law_b", "_law_many"] []) (gW : mg "_law_writes" = some (.ref fW)) : FnOk P w K mg base CX0 8 f fd ["_law_pool_here", "_law_most", "_law_deep"] (spLB K) := by
  have GD : FnOk P w K mg base CX0 1 fD dD ["_law_pool_here", "_law_many"] spDraw := ok_draw FD M
  have GP : FnOk P w K mg base CX0 2 fP dP ["_law_pool_here", "_law_row"] (spPick K) := ok_pick FP M FD bD gD
  have GN : FnOk P w K mg base CX0 3 fN dN ["_law_pool_here", "_law_count"] (spLNames K) := ok_lnames FN M FD bD gD FP bP gP
  have GT : FnOk P w K mg base CX0 6 fT dT ["_law_pool_here", "_law_b", "_law_many", "_law_deep"] (spLTerm K 3) := ok_lterm FT M bT gT FD bD gD FP bP gP 3
  have GW : FnOk P w K mg base CX0 6 fW dW ["_law_pool_here", "_law_b", "_law_many"] (spLW K) := ok_lw FW M FD bD gD FP bP gP FT bT gT
  refine F.ok scLB (fun vs H Q E h => ?_) (fun cdv A outer s H vs Q E hr h => ?_)
  · obtain ⟨p, most, deep, rfl, _⟩ := h
    rfl
  · obtain ⟨p, most, deep, rfl, hp, m0, m3, d2, q⟩ := h
    have hr1 : Room 1 (A.deeper (envOfC "_law_book" (defScope sLB) s.heap.objs.size f cdv)) := hr.mono (by decide)
    have hr2 : Room 2 (A.deeper (envOfC "_law_book" (defScope sLB) s.heap.objs.size f cdv)) := hr.mono (by decide)
    have hr3 : Room 3 (A.deeper (envOfC "_law_book" (defScope sLB) s.heap.objs.size f cdv)) := hr.mono (by decide)
    have hr6 : Room 6 (A.deeper (envOfC "_law_book" (defScope sLB) s.heap.objs.size f cdv)) := hr.mono (by decide)
    have hu := hu_of hr
    refine ⟨_, pss_cons (ps_set (i := 3) scLB.nd rfl (.inr rfl) (pe_call GN hr3 (by rfl) gN FN.kp bN .nil pass0 (pa_cons (pv 0) (pa_cons pe_int pa_nil))))
      (pss_cons (ps_set (i := 4) scLB.nd rfl (.inl rfl) (pe_disp (pps_cons pe_str (pe_lc (own := [("_law_at", 5)]) (g := gName 5) (tt := tYes) (te := tTup (tCons (tOp (rIxL K) (tVar 3) (tVar 5)) (tCons (tCall (spPick K) [] E0 (tCons (tVar 0) (tCons (tLst (tCons (tC (.str "frozen")) (tCons (tC (.str "setting")) (tCons (tC (.str "table")) (tCons (tC (.str "table")) tNil))))) tNil))) tNil))) (by rfl) scLB.nd
            (pi_range1 (by rfl) M.range (pa_cons (pe_call GD hr1 (by rfl) gD FD.kp bD .nil pass0 (pa_cons (pv 0) (pa_cons pe_int pa_nil))) pa_nil)) (blkOk_by (own := [("_law_at", 5)]) (N := ["_law_pool_here", "_law_most", "_law_deep", "_law_words", "_law_b", "_law_at", "_law_many", "_law_f"]) (sc := defScope sLB) (by decide +kernel)) (fun _ _ _ _ _ => pg_name (i := 5) scLB.nd rfl (Or.inl rfl)) (fun _ _ _ _ _ => pts_nil)
            (fun _ _ _ _ _ => pe_tup (pa_cons (pe_ix ix_list (pv 3) (pv 5) (fun _ _ => rfl)) (pa_cons (pe_call GP hr2 (by rfl) gP FP.kp bP .nil pass0 (pa_cons (pv 0) (pa_cons (pe_lst (pa_cons pe_str (pa_cons pe_str (pa_cons pe_str (pa_cons pe_str pa_nil))))) pa_nil))) pa_nil)))) pps_nil) (by rfl) (by rfl) (by simp) (by decide)))
      (pss_cons (ps_dput hu (pv 4) pe_str (pe_lst pa_nil) (by rfl))
      (pss_cons (ps_for PassesOwn.never rfl (pi_range1 (by rfl) M.range (pa_cons (pe_op op_add pe_int (pe_call GD hr1 (by rfl) gD FD.kp bD .nil pass0 (pa_cons (pv 0) (pa_cons (pv 1) pa_nil)))) pa_nil)) (pg_name (i := 5) scLB.nd rfl (.inl rfl))
        (pss_cons (ps_set (i := 6) scLB.nd rfl (.inl rfl) (pe_call GD hr1 (by rfl) gD FD.kp bD .nil pass0 (pa_cons (pv 0) (pa_cons pe_int pa_nil))))
        (pss_cons (ps_set (i := 7) scLB.nd rfl (.inl rfl) (pe_disp (pps_cons pe_str (pe_ix ix_list (pv 3) (pe_op op_add pe_int (pv 5)) (fun _ _ => rfl)) (pps_cons pe_str (pv 6) (pps_cons pe_str (pe_call GT hr6 (by rfl) gT FT.kp bT .nil pass0 (pa_cons (pv 0) (pa_cons (pv 4) (pa_cons (pv 6) (pa_cons (pv 2) pa_nil))))) pps_nil))) (by rfl) (by rfl) (by simp) (by decide)))
        (pss_cons (ps_asg (pe_tup (pa_cons (pe_call GW hr6 (by rfl) gW FW.kp bW .nil pass0 (pa_cons (pv 0) (pa_cons (pv 4) (pa_cons (pv 6) pa_nil)))) (pa_cons (pe_call GD hr1 (by rfl) gD FD.kp bD .nil pass0 (pa_cons (pv 0) (pa_cons pe_int pa_nil))) pa_nil)))
            (pg_tup (by rfl) (pgs_cons (pg_sub (pv 7) pe_str (set_dict hu)) (pgs_cons (pg_sub (pv 7) pe_str (set_dict hu)) pgs_nil))))
        (pss_cons (ps_dput hu (pv 7) pe_str (pe_call GP hr2 (by rfl) gP FP.kp bP .nil pass0 (pa_cons (pv 0) (pa_cons (pe_lst (pa_cons pe_str (pa_cons pe_str (pa_cons pe_str (pa_cons pe_str (pa_cons pe_str pa_nil)))))) pa_nil))) (by rfl))
        (pss_one (ps_dput hu (pv 4) pe_str (pe_op op_cat (pe_dget hu (pv 4) pe_str (fun _ _ => rfl)) (pe_lst (pa_cons (pv 7) pa_nil))) (by rfl))))))))
      (pss_one (ps_ret (pv 4)))))), ?_⟩
    refine ⟨.ref p, rfl, p, 8, rfl, by decide, hp, fun wl words H1 b1 hp1 ew lw wn wnd wln => ?_⟩
    have nw : wl ≠ p := fun e => by
      obtain ⟨x, y, ep, _⟩ := hp1
      rw [e, ep] at ew
      have e2 := HO.lst.inj (Option.some.inj ew)
      rcases words with _ | ⟨z0, zr⟩
      · cases lw
      · cases e2
    dsimp only [gName, List.set]
    refine q_asgP (Pr := fun v H' => ∃ b c ts cells, v = .ref b ∧ But p H1 H' ∧ PoolAt H' p ∧ H1 b = none ∧ H' b = some (.dK [(.inr "cells", .ref c)]) ∧ H' c = some (.lst ts) ∧ Rows (CellT K H') ts cells ∧ cells.length ≤ 3 ∧ ∀ (i : Nat) x, cells[i]? = some x → words[i]? = some x.1 ∧ x.2 ∈ (["frozen", "setting", "table"] : List Str)) (fun Q' hq => ?_) (fun v H2 hv => ?_)
    · refine fun b nb => ?_
      have sb : Same H1 (upd H1 b (.dK [])) := same_upd nb
      have hpb := hp1.upd (o := .dK []) nb
      have npb : p ≠ b := hp1.ne nb
      refine ⟨.ref p, rfl, p, 4, rfl, hpb, by omega, by omega, fun k H2 k0 k4 b2 hp2 fr => ⟨k, rfl, by omega, by omega, fun D hD => ?_⟩⟩
      have nDp : D ≠ p := (hp2.ne hD).symm
      have e2b : H2 b = some (.dK []) := b2 _ _ upd_same npb.symm
      have e2w := b2 _ _ (sb _ _ ew) nw
      refine walk_gen (walk_range (lo := 0) (n := k.toNat)) (fun i H' => But p H2 H' ∧ PoolAt H' p ∧ ∃ ts cells, H' D = some (.lst ts) ∧ Rows (CellT K H') ts cells ∧ cells.length = i ∧ ∀ (i : Nat) x, cells[i]? = some x → words[i]? = some x.1 ∧ x.2 ∈ (["frozen", "setting", "table"] : List Str))
        ⟨But.of (same_upd hD), hp2.upd hD, [], [], upd_same, rows_nil, rfl, fun i x e => by simp at e⟩ (fun i H' _ w => True.intro) (fun i x H3 H4 hi w y => ?_) (fun H3 w => ?_)
      · obtain ⟨b3, hp3, ts, cells, eD, rc, lc, cn⟩ := w
        obtain ⟨rfl, rfl⟩ := y
        have i3 : i < 4 := by omega
        obtain ⟨wd, hwd⟩ : ∃ wd, words[i]? = some wd := ⟨_, List.getElem?_eq_getElem (by omega)⟩
        refine And.intro rfl ?_
        unfold tYes
        refine iteT ?_
        refine ⟨.ref wl, rfl, _, rfl, wl, words.map V.str, (i : Nat), .str wd, (by rfl), (by show V.int (0 + (i : Int)) = _; rw [Int.zero_add]), .inl (.inl (b3 _ _ e2w nw)), atI_nat (by rw [List.getElem?_map, hwd]; rfl), ?_⟩
        refine ⟨.ref p, rfl, by show 4 ≤ sizeLine; decide, fun l nl => ?_⟩
        refine ⟨p, l, _, rfl, hp3.upd nl, hp3.ne nl, .inl (.inl (.inl upd_same)), by decide, by decide, fun m hm H5 b5 hp5 fr5 => ?_⟩
        obtain ⟨kd, hkd, ek⟩ : ∃ kd, kd ∈ (["frozen", "setting", "table"] : List Str) ∧ [V.str "frozen", .str "setting", .str "table", .str "table"][m] = V.str kd := by
          have hm' : m < 4 := hm
          rcases (show m = 0 ∨ m = 1 ∨ m = 2 ∨ m = 3 by omega) with e | e | e | e <;> subst e
          · exact ⟨"frozen", by decide, rfl⟩
          · exact ⟨"setting", by decide, rfl⟩
          · exact ⟨"table", by decide, rfl⟩
          · exact ⟨"table", by decide, rfl⟩
        rw [ek]
        refine ⟨by show 2 ≤ sizeLine; decide, fun t nt => ?_⟩
        have sl : Same H4 (upd H4 l (.lst [V.str "frozen", .str "setting", .str "table", .str "table"])) := same_upd nl
        have st := same_upd (o := HO.tup [V.str wd, .str kd]) nt
        have b35 : But p H4 (upd H5 t (.tup [V.str wd, .str kd])) := ((But.of sl).trans b5).trans (But.of st)
        have e5D := b35 _ _ eD nDp
        obtain ⟨px, py, ep3, _⟩ := id hp3
        refine ⟨ts, e5D, ?_, fun x o e n => ?_, ?_, ts ++ [.ref t], cells ++ [(wd, kd)], upd_same, ?_, ?_, fun j x ej => ?_⟩
        · rw [rc.1, lc]
          exact Nat.lt_of_le_of_lt (show i ≤ 4 by omega) (by decide)
        · rw [upd_ne (ne_of_none e hD)]
          exact b35 _ _ (b3 _ _ e n) n
        · obtain ⟨x, y, e, r⟩ := hp5.upd (o := HO.tup [V.str wd, .str kd]) nt
          exact ⟨x, y, by rw [upd_ne nDp.symm]; exact e, r⟩
        · exact rows_snoc (rc.mono fun v x h => cellT_of (fun a xs h => but_sqT e5D But.upd (but_sqT ep3 b35 h)) h) ⟨t, rfl, but_sqT e5D But.upd (.inl (.inl upd_same))⟩
        · rw [List.length_append, lc]
          rfl
        · by_cases hj : j < cells.length
          · rw [List.getElem?_append_left hj] at ej
            exact cn j x ej
          · have hj2 : j = cells.length := by
              have := (List.getElem?_eq_some_iff.mp ej).1
              rw [List.length_append] at this
              simp at this
              omega
            rw [hj2, List.getElem?_append_right (Nat.le_refl _), Nat.sub_self] at ej
            cases ej
            exact ⟨by rw [hj2, lc]; exact hwd, hkd⟩
      · obtain ⟨b3, hp3, ts, cells, eD, rc, lc, cn⟩ := w
        have e3b := b3 _ _ e2b npb.symm
        refine ⟨e3b, [(.inr "cells", .ref D)], rfl, (by show 1 ≤ 15; decide), hq _ _ ⟨b, D, ts, cells, rfl, fun x o e n => ?_, ?_, nb, upd_same, ?_, rc.mono fun v x h => cellT_of (fun a xs h => sqT_dk e3b But.upd h) h, by omega, cn⟩⟩
        · rw [upd_ne (ne_of_none e nb)]
          exact b3 _ _ (b2 _ _ (sb _ _ e) n) n
        · obtain ⟨x, y, e, r⟩ := hp3
          exact ⟨x, y, by rw [upd_ne npb]; exact e, r⟩
        · rw [upd_ne (ne_of eD e3b (fun z => nomatch z))]
          exact eD
    · obtain ⟨b, c, ts, cells, rfl, b2, hp2, nb1, eb, ec, rc, lc, cn⟩ := hv
      have npb : p ≠ b := hp1.ne nb1
      have nwb : wl ≠ b := ne_of_none ew nb1
      have nbH : H b = none := by
        cases h : H b with
        | none => rfl
        | some o =>
          have := b1 _ _ h npb.symm
          rw [nb1] at this
          cases this
      -- no functions as yet
      refine ⟨by show 0 ≤ sizeLine; decide, fun fl nfl => ⟨.ref b, rfl, b, _, rfl, .inl ⟨_, .inr "functions", same_upd nfl _ _ eb, rfl, by show 1 < sizeLine; decide, rfl⟩, ?_⟩⟩
      have sf : Same H2 (upd H2 fl (.lst [])) := same_upd nfl
      have efl : (upd H2 fl (.lst [])) fl = some (.lst []) := upd_same
      have hpf := hp2.upd (o := .lst []) nfl
      generalize upd H2 fl (.lst []) = H3 at sf efl hpf
      have eb3 := sf _ _ eb
      have nfb : fl ≠ b := ne_of efl eb3 (fun z => nomatch z)
      have ncb : c ≠ b := ne_of (sf _ _ ec) eb3 (fun z => nomatch z)
      have bk0 : BkAt K cells [] (upd H3 b (.dK (putK [(.inr "cells", .ref c)] (.inr "functions" : Key) (.ref fl)))) b := ⟨c, fl, ts, [], upd_same, by rw [upd_ne ncb]; exact sf _ _ ec, by rw [upd_ne nfb]; exact efl, rc.mono fun v x h => cellT_of (fun a xs h => sqT_dk eb3 But.upd (same_sqT sf h)) h, rows_nil⟩
      have b13 : But p H (upd H3 b (.dK (putK [(.inr "cells", .ref c)] (.inr "functions" : Key) (.ref fl)))) := fun x o e n => by
        rw [upd_ne (ne_of_none e nbH)]
        exact sf _ _ (b2 _ _ (b1 _ _ e n) n)
      have hp3 : PoolAt (upd H3 b (.dK (putK [(.inr "cells", .ref c)] (.inr "functions" : Key) (.ref fl)))) p := by
        obtain ⟨x, y, e, r⟩ := hpf
        exact ⟨x, y, by rw [upd_ne npb]; exact e, r⟩
      have ew3 : (upd H3 b (.dK (putK [(.inr "cells", .ref c)] (.inr "functions" : Key) (.ref fl)))) wl = some (.lst (words.map V.str)) := by
        rw [upd_ne nwb]
        exact sf _ _ (b2 _ _ ew nw)
      generalize upd H3 b (.dK (putK [(.inr "cells", .ref c)] (.inr "functions" : Key) (.ref fl))) = H4 at bk0 b13 hp3 ew3
      clear efl sf hpf eb3 ec rc eb b2 hp2
      refine ⟨.ref p, rfl, .int most, rfl, p, most, rfl, hp3, m0, by omega, fun k H5 k0 km b5 hp5 fr => ⟨_, _, rfl, rfl, _, rfl, by omega, by omega, ?_⟩⟩
      have bk5 : BkAt K cells [] H5 b := bk0.but hp3 b5
      refine for_range (lo := 0) (n := _) (fun j σ H' => ∃ y5 y6 y7, σ = [some (.ref p), some (.int most), some (.int (deep : Nat)), some (.ref wl), some (.ref b), y5, y6, y7] ∧ But p H H' ∧ PoolAt H' p ∧ H' wl = some (.lst (words.map V.str)) ∧ ∃ fs, BkAt K cells fs H' b ∧ DOk deep words cells fs ∧ fs.length = j)
        ⟨none, none, none, rfl, b13.trans b5, hp5, b5 _ _ ew3 nw, [], bk5, ⟨lc, Nat.zero_le _, cn, fun i F e => by simp at e⟩, rfl⟩ (fun j σ G hj hW => ?_) (fun σ G hW => ?_)
      · obtain ⟨y5, y6, y7, rfl, bG, hpG, eG, fs, bk, ok, lf⟩ := hW
        have j3 : j < 3 := by omega
        have L1 := ok.lok wn
        obtain ⟨wd, hwd⟩ : ∃ wd, words[4 + j]? = some wd := ⟨_, List.getElem?_eq_getElem (by omega)⟩
        refine ⟨.ref p, rfl, p, 3, rfl, hpG, by omega, by omega, fun mk G1 mk0 mk3 k1 hpA fr1 => ?_⟩
        obtain ⟨mn, rfl⟩ : ∃ mn : Nat, mk = mn := ⟨mk.toNat, by omega⟩
        dsimp only [gName, List.set]
        refine fun g ng => ?_
        have ngG : G g = none := by
          cases h : G g with
          | none => rfl
          | some o => exact absurd (k1 _ _ h (hpA.ne ng).symm) (by rw [ng]; simp)
        have npg : p ≠ g := hpA.ne ng
        have kA : But p G (upd G1 g (.dK [])) := but_new k1 ngG
        have hpB := pool_ne (o := .dK []) hpA npg
        have egB : (upd G1 g (.dK [])) g = some (.dK []) := upd_same
        generalize upd G1 g (.dK []) = G2 at kA hpB egB
        refine ⟨.ref wl, rfl, .int (0 + (j : Int)), rfl, _, _, rfl, rfl, wl, words.map V.str, _, .str wd, rfl, rfl, .inl (.inl (kA _ _ eG nw)), (by rw [show (4 + (0 + (j : Int))) = ((4 + j : Nat) : Int) by omega]; exact atI_nat (by rw [List.getElem?_map, hwd]; rfl)), .int (mn : Nat), rfl, ?_⟩
        refine ⟨.ref p, rfl, .ref b, rfl, .int (mn : Nat), rfl, .int (deep : Nat), rfl, lbOf cells fs, p, b, (mn : Nat), deep, L1, rfl, hpB, (bk.but hpG kA).lbk, by omega, by omega, by omega, fun v1 d1 G3 k3 hpC dv1 gd1 => ?_⟩
        have e3g := k3 _ _ egB npg.symm
        refine ⟨e3g, [(.inr "name", .str wd), (.inr "many", .int (mn : Nat)), (.inr "result", v1)], rfl, (by show 3 ≤ 15; decide), ?_⟩
        have nl1 := gd_nl _ _ (gdl_gd L1 _ _ gd1)
        have kC := kA.trans k3
        have dv1 : Dp K (upd G3 g (.dK (mergeK [] [(.inr "name", .str wd), (.inr "many", .int (mn : Nat)), (.inr "result", v1)]))) v1 d1 := dp_tups (fun a xs h => sqT_dk e3g But.upd h) _ _ nl1 dv1
        have kD : But p G (upd G3 g (.dK (mergeK [] [(.inr "name", .str wd), (.inr "many", .int (mn : Nat)), (.inr "result", v1)]))) := but_new kC ngG
        have hpD := pool_ne (o := .dK (mergeK [] [(.inr "name", .str wd), (.inr "many", .int (mn : Nat)), (.inr "result", v1)])) hpC npg
        have e4g : (upd G3 g (.dK (mergeK [] [(.inr "name", .str wd), (.inr "many", .int (mn : Nat)), (.inr "result", v1)]))) g = some (.dK [(.inr "name", .str wd), (.inr "many", .int (mn : Nat)), (.inr "result", v1)]) := upd_same
        generalize upd G3 g (.dK (mergeK [] [(.inr "name", .str wd), (.inr "many", .int (mn : Nat)), (.inr "result", v1)])) = G4 at kD hpD e4g dv1
        clear e3g kC egB kA hpB hpC k3
        dsimp only [gName, List.set]
        refine ⟨.ref p, rfl, .ref b, rfl, .int (mn : Nat), rfl, lbOf cells fs, p, b, (mn : Nat), L1, rfl, hpD, (bk.but hpG kD).lbk, by omega, by omega, fun v2 d2 G5 k5 hpE dv2 wr2 => ?_⟩
        have nl2 := wr_nl L1 wr2
        refine ⟨.ref p, rfl, p, 10, rfl, hpE, by omega, by omega, fun cost G6 c0 c9 k6 hpF fr6 => ⟨by show 2 ≤ sizeLine; decide, fun t nt => ?_⟩⟩
        have k46 := k5.trans k6
        have e6g := k46 _ _ e4g npg.symm
        have dv1 := dp_but hpD k46 nl1 dv1
        have dv2 := dp_but hpE k6 nl2 dv2
        have st := same_upd (o := HO.tup [v2, .int cost]) nt
        have ntg : t ≠ g := (ne_of_none e6g nt).symm
        refine ⟨t, _, rfl, .inl (.inl upd_same), rfl, v2, _, rfl, .ref g, rfl, g, _, rfl, .inl ⟨_, .inr "writes", st _ _ e6g, rfl, (by show 3 < sizeLine; decide), rfl⟩, _, _, rfl, .ref g, rfl, g, _, rfl, .inl ⟨_, .inr "cost", upd_same, rfl, (by show 4 < sizeLine; decide), rfl⟩, rfl, ?_⟩
        rw [upd_two]
        have kG : But p G (upd (upd G6 t (.tup [v2, .int cost])) g (.dK (putK (putK [(.inr "name", .str wd), (.inr "many", .int (mn : Nat)), (.inr "result", v1)] (.inr "writes" : Key) v2) (.inr "cost" : Key) (.int cost)))) := but_new ((kD.trans k46).trans (But.of st)) ngG
        have hpG2 := pool_ne (o := .dK (putK (putK [(.inr "name", .str wd), (.inr "many", .int (mn : Nat)), (.inr "result", v1)] (.inr "writes" : Key) v2) (.inr "cost" : Key) (.int cost))) (hpF.upd (o := .tup [v2, .int cost]) nt) npg
        have e9g : (upd (upd G6 t (.tup [v2, .int cost])) g (.dK (putK (putK [(.inr "name", .str wd), (.inr "many", .int (mn : Nat)), (.inr "result", v1)] (.inr "writes" : Key) v2) (.inr "cost" : Key) (.int cost)))) g = some (.dK [(.inr "name", .str wd), (.inr "many", .int (mn : Nat)), (.inr "result", v1), (.inr "writes", v2), (.inr "cost", .int cost)]) := upd_same
        have dv1 : Dp K (upd (upd G6 t (.tup [v2, .int cost])) g (.dK (putK (putK [(.inr "name", .str wd), (.inr "many", .int (mn : Nat)), (.inr "result", v1)] (.inr "writes" : Key) v2) (.inr "cost" : Key) (.int cost)))) v1 d1 := dp_tups (fun a xs h => sqT_dk (st _ _ e6g) But.upd (same_sqT st h)) _ _ nl1 dv1
        have dv2 : Dp K (upd (upd G6 t (.tup [v2, .int cost])) g (.dK (putK (putK [(.inr "name", .str wd), (.inr "many", .int (mn : Nat)), (.inr "result", v1)] (.inr "writes" : Key) v2) (.inr "cost" : Key) (.int cost)))) v2 d2 := dp_tups (fun a xs h => sqT_dk (st _ _ e6g) But.upd (same_sqT st h)) _ _ nl2 dv2
        generalize upd (upd G6 t (.tup [v2, .int cost])) g (.dK (putK (putK [(.inr "name", .str wd), (.inr "many", .int (mn : Nat)), (.inr "result", v1)] (.inr "writes" : Key) v2) (.inr "cost" : Key) (.int cost))) = G9 at kG hpG2 e9g dv1 dv2
        clear st ntg e6g k46 kD hpD e4g
        refine ⟨.ref p, rfl, (by show 5 ≤ sizeLine; decide), fun l nl => ⟨p, l, _, rfl, hpG2.upd nl, hpG2.ne nl, .inl (.inl (.inl upd_same)), by decide, by decide, fun m hm G10 k10 hpH fr10 => ?_⟩⟩
        obtain ⟨lb, hlb, elb⟩ : ∃ lb, lb ∈ labelRow ∧ [V.str "always", .str "session", .str "statement", .str "changing", .str "changing"][m] = V.str lb := by
          have hm' : m < 5 := hm
          rcases (show m = 0 ∨ m = 1 ∨ m = 2 ∨ m = 3 ∨ m = 4 by omega) with e | e | e | e | e <;> subst e
          · exact ⟨"always", by decide, rfl⟩
          · exact ⟨"session", by decide, rfl⟩
          · exact ⟨"statement", by decide, rfl⟩
          · exact ⟨"changing", by decide, rfl⟩
          · exact ⟨"changing", by decide, rfl⟩
        rw [elb]
        have sl := same_upd (o := HO.lst [V.str "always", .str "session", .str "statement", .str "changing", .str "changing"]) nl
        have k910 : But p G9 G10 := (But.of sl).trans k10
        have eag := k910 _ _ e9g npg.symm
        have dv1 := dp_but hpG2 k910 nl1 dv1
        have dv2 := dp_but hpG2 k910 nl2 dv2
        refine ⟨.ref g, rfl, g, _, rfl, .inl ⟨_, .inr "label", eag, rfl, (by show 5 < sizeLine; decide), rfl⟩, ?_⟩
        have kL : But p G (upd G10 g (.dK (putK [(.inr "name", .str wd), (.inr "many", .int (mn : Nat)), (.inr "result", v1), (.inr "writes", v2), (.inr "cost", .int cost)] (.inr "label" : Key) (.str lb)))) := but_new (kG.trans k910) ngG
        have hpL := pool_ne (o := .dK (putK [(.inr "name", .str wd), (.inr "many", .int (mn : Nat)), (.inr "result", v1), (.inr "writes", v2), (.inr "cost", .int cost)] (.inr "label" : Key) (.str lb))) hpH npg
        have fdr : FDrAt K (upd G10 g (.dK (putK [(.inr "name", .str wd), (.inr "many", .int (mn : Nat)), (.inr "result", v1), (.inr "writes", v2), (.inr "cost", .int cost)] (.inr "label" : Key) (.str lb)))) (.ref g) ⟨wd, mn, d1, d2, cost, lb⟩ := ⟨g, v1, v2, rfl, upd_same, dp_tups (fun a xs h => sqT_dk eag But.upd h) _ _ nl1 dv1, dp_tups (fun a xs h => sqT_dk eag But.upd h) _ _ nl2 dv2, nl1, nl2⟩
        generalize upd G10 g (.dK (putK [(.inr "name", .str wd), (.inr "many", .int (mn : Nat)), (.inr "result", v1), (.inr "writes", v2), (.inr "cost", .int cost)] (.inr "label" : Key) (.str lb))) = G11 at kL hpL fdr
        clear dv1 dv2 eag k910 sl hpH k10 hpG2 e9g kG
        obtain ⟨cc, ff, ts2, gs2, f0, f1, f4, r1, r2⟩ := bk.but hpG kL
        refine ⟨.ref b, rfl, b, .ref ff, rfl, dg f0 "functions" rfl, .ref g, rfl, (by show 1 ≤ sizeLine; decide), fun l2 m2 => ⟨ff, l2, gs2, [.ref g], rfl, rfl, same_upd m2 _ _ f4, upd_same, (by rw [r2.1]; exact Nat.le_trans (show fs.length + 1 ≤ 4 by omega) (by decide)), fun l3 m3 => ?_⟩⟩
        have s2 := same_upd (o := HO.lst [V.ref g]) m2
        have s3 := same_upd (o := HO.lst (gs2 ++ [V.ref g])) m3
        have s23 := s2.trans s3
        have f0' := s23 _ _ f0
        refine ⟨.ref b, rfl, b, _, rfl, .inl ⟨_, .inr "functions", f0', rfl, (by show 2 < sizeLine; decide), rfl⟩, ?_⟩
        have bb : ∀ {a : Addr} {u : HO}, (upd (upd G11 l2 (.lst [V.ref g])) l3 (.lst (gs2 ++ [V.ref g]))) a = some u → (∀ kvs, u = .dK kvs → kvs.length = 6) → a ≠ b := fun e n q => by
          rw [q, f0'] at e
          have := n _ (Option.some.inj e).symm
          simp at this
        have tk : ∀ a xs, SqT K G11 a xs → SqT K (upd (upd (upd G11 l2 (.lst [V.ref g])) l3 (.lst (gs2 ++ [V.ref g]))) b (.dK (putK [(.inr "cells", .ref cc), (.inr "functions", .ref ff)] (.inr "functions" : Key) (.ref l3)))) a xs := fun a xs h => sqT_dk f0' But.upd (same_sqT s23 h)
        have kd : ∀ (v : V) (a : Addr) (kvs : List (Key × V)), v = .ref a → G11 a = some (.dK kvs) → kvs.length = 6 → (upd (upd (upd G11 l2 (.lst [V.ref g])) l3 (.lst (gs2 ++ [V.ref g]))) b (.dK (putK [(.inr "cells", .ref cc), (.inr "functions", .ref ff)] (.inr "functions" : Key) (.ref l3)))) a = some (.dK kvs) := fun v a kvs _ e n => by
          have e2 := s23 _ _ e
          rw [upd_ne (bb e2 (fun k2 e3 => by cases e3; exact n))]
          exact e2
        refine ⟨_, _, _, rfl, fun x u e n => ?_, ?_, ?_, fs ++ [⟨wd, mn, d1, d2, cost, lb⟩], ⟨cc, l3, ts2, gs2 ++ [.ref g], upd_same, ?_, ?_, r1.mono fun v x h => cellT_of tk h, rows_snoc (r2.mono fun v F h => fdrAt_of tk (kd v) h) (fdrAt_of tk (kd _) fdr)⟩, ⟨ok.lc, ?_, ok.cn, fun i F e => ?_⟩, ?_⟩
        · rw [upd_ne (ne_of_none e nbH)]
          exact s23 _ _ (kL _ _ (bG _ _ e n) n)
        · exact pool_ne (hpL.same s23) npb
        · rw [upd_ne nwb]
          exact s23 _ _ (kL _ _ eG nw)
        · rw [upd_ne (bb (s23 _ _ f1) (fun k e => by cases e))]
          exact s23 _ _ f1
        · rw [upd_ne (bb upd_same (fun k e => by cases e))]
          exact upd_same
        · rw [List.length_append, lf]
          show j + 1 ≤ 3
          omega
        · by_cases hi : i < fs.length
          · rw [List.getElem?_append_left hi] at e
            rw [List.take_append_of_le_length (by omega)]
            exact ok.fn i F e
          · have hi2 : i = fs.length := by
              have := (List.getElem?_eq_some_iff.mp e).1
              rw [List.length_append] at this
              simp at this
              omega
            rw [hi2, List.getElem?_append_right (Nat.le_refl _), Nat.sub_self] at e
            cases e
            rw [hi2, List.take_left', lf]
            · exact ⟨hwd, wn _ (List.mem_of_getElem? hwd), by show mn ≤ 2; omega, gd1, wr2, c0, c9, hlb⟩
            · rfl
        · rw [List.length_append, lf]
          rfl
      · obtain ⟨y5, y6, y7, rfl, bG, hpG, eG, fs, bk, ok, lf⟩ := hW
        exact ⟨.ref b, rfl, q b words cells fs G bG hpG lw wn wnd wln bk ok (by rw [lf]; show 1 ≤ (1 + k).toNat; omega) nbH⟩
end
/-! ### the law's Function, out of its dict -/
/-- the dict at g tells the Function F; its writes are dw -/
def DictF (K : PySem.W.Frag) (H : Hp) (g : Addr) (F : FX) (dw : PyData) : Prop := FXOk F ∧ entries dw = F.d.ws ∧ areWrites dw = true ∧ szD dw = true ∧ ∃ (kvs : List (Key × V)) (vr vw : V) (z : Str), H g = some (.dK kvs) ∧ valV kvs (.inr "name" : Key) = some (.str F.d.nm) ∧ valV kvs (.inr "many" : Key) = some (.int F.d.ar) ∧
  valV kvs (.inr "result" : Key) = some vr ∧ Dp K H vr F.d.res ∧ valV kvs (.inr "writes" : Key) = some vw ∧ Dp K H vw dw ∧ valV kvs (.inr "cost" : Key) = some (.int F.cost) ∧ valV kvs (.inr "label" : Key) = some (.str z) ∧ labRow[F.lab]? = some z ∧ kvs.length ≤ 20
theorem DictF.same {K : PySem.W.Frag} {H H' : Hp} {g : Addr} {F : FX} {dw : PyData} (h : DictF K H g F dw) (s : Same H H') : DictF K H' g F dw := by
  obtain ⟨k, h1, h2, h3, kvs, vr, vw, z, e, n1, n2, n3, d3, n4, d4, r⟩ := h
  exact ⟨k, h1, h2, h3, kvs, vr, vw, z, s _ _ e, n1, n2, n3, dp_same s d3, n4, dp_same s d4, r⟩
abbrev sLF : Stmt := topS 40
theorem scLF : FnScope ["_law_f"] ["_law_f"] (defScope sLF) := ⟨rfl, rfl, rfl, by decide +kernel, rfl, by decide +kernel, by decide +kernel⟩
def spLF (K : PySem.W.Frag) (CF CL : Addr) : Sp := fun vs H Q _ => ∃ (g : Addr) (F : FX) (dw : PyData), vs = [.ref g] ∧ DictF K H g F dw ∧ ∀ x H', Same H H' → FunFull K H' CF CL x F → Q (.ref x) H'
abbrev sRef : Stmt := topS 41
theorem scRef : FnScope ["_law_one", "_law_part", "e"] ["_law_one", "_law_part"] (defScope sRef) := ⟨rfl, rfl, rfl, by decide +kernel, rfl, by decide +kernel, by decide +kernel⟩
/-- what is asked of a datum that is shown -/
structure Shown (d : PyData) : Prop where
  sh : d.showable = true
  nd : d.hasDict = false
  dp : d.depth ≤ 60
  sz : d.shown.length ≤ sizeLine
def spRef (K : PySem.W.Frag) (CF CL : Addr) : Sp := fun vs H Q _ => ∃ (a : Addr) (v : V) (F : FX) (d : PyData), vs = [.ref a, v] ∧ FunFull K H CF CL a F ∧ Dp K H v d ∧ noPart d = true ∧ Shown d ∧ ∀ H', Same H H' → Q (.bl true) H'
/-- what the law's clause wants of BadPart -/
structure ErrX (K : PySem.W.Frag) (mg : Str → Option Value) (CP : Addr) : Prop where
  gP : mg "BadPart" = some (.ref CP)
  xP : XfC K CP
  nP : PySem.W.findIn K (.ref CP) "part" = some none
  pp : PySem.W.exmOne K (.ref CP) (.ref CP) = some true
section
variable {P : Program} {w : World} {K : PySem.W.Frag} {mg : Str → Option Value} {base : Heap}
theorem ok_lf {CF CL CB CP CT f fF : Addr} {fd fdF : FuncData} (F : Fun K "_law_function" "_law_function" sLF f fd) (M : FunM P w K mg base CF CL CB CP CT fF fdF) : FnOk P w K mg base CX0 8 f fd ["_law_f"] (spLF K CF CL) := by
  refine F.ok scLF (fun vs H Q E h => ?_) (fun cdv A outer s H vs Q E hr h => ?_)
  · obtain ⟨g, F, dw, rfl, _⟩ := h
    rfl
  · obtain ⟨g, F, dw, rfl, ⟨k, h1, h2, h3, kvs, vr, vw, z, e, n1, n2, n3, d3, n4, d4, n5, n6, lz, kl⟩, q⟩ := h
    have hu := hu_of hr
    have D : ∀ {y : Str} {v : V}, valV kvs (.inr y : Key) = some v → DGet H g (.str y) (some v) := fun {y v} h => .inl ⟨kvs, .inr y, .inl e, rfl, h.symm⟩
    refine ⟨_, pss_one (ps_ret (pe_makeK M.make M.ok hr (by rfl) M.gC M.b3 pass00 (pa_cons (pe_dget hu (pv 0) pe_str (fun _ _ => rfl)) (pa_cons (pe_dget hu (pv 0) pe_str (fun _ _ => rfl)) (pa_cons (pe_dget hu (pv 0) pe_str (fun _ _ => rfl)) pa_nil)))
      (pk_cons (pe_dget hu (pv 0) pe_str (fun _ _ => rfl)) (pk_cons (pe_dget hu (pv 0) pe_str (fun _ _ => rfl)) (pk_cons (pe_dget hu (pv 0) pe_str (fun _ _ => rfl)) pk_nil))))), ?_⟩
    refine ⟨.ref g, rfl, g, _, rfl, D n1, .ref g, rfl, g, _, rfl, D n2, .ref g, rfl, g, _, rfl, D n3, .ref g, rfl, g, _, rfl, D n6, .ref g, rfl, g, _, rfl, D n4, .ref g, rfl, g, _, rfl, D n5, rfl, rfl, fun x dx nx nd ne => ?_⟩
    exact fun_full k nx nd (.str _) (.int _) d3 d4 (.int _) (.inr ⟨z, rfl, rfl, lz⟩) h1 h2 h3 fun H' s h => q x H' s h
theorem ok_ref {CF CL CP f fC : Addr} {fd dC : FuncData} (F : Fun K "_law_refused" "_law_refused" sRef f fd) (M : Blt mg) (cl : Cls K CF) (mc : Meth K CF "changed" fC) (GC : FnOk P w K mg base (L2.CX P w) 8 fC dC ["self", "part", "value"] (spChg K CF CL CP)) (bC : Binds K dC ["self", "part", "value"] []) (X : ErrX K mg CP) : FnG P w K mg base 9 f fd ["_law_one", "_law_part"] (spRef K CF CL) := by
  refine Fun.okG F scRef (fun vs H Q h => ?_) (fun cdv A outer s H vs Q gu hr h => ?_)
  · obtain ⟨a, v, F, d, rfl, _⟩ := h
    rfl
  · obtain ⟨a, v, F, d, rfl, hF, hv, no, sh, q⟩ := h
    have un0 : (A.deeper (envOfC "_law_refused" (defScope sRef) s.heap.objs.size f cdv)).units + 100 < cLine := by have := hr.un; omega
    refine ⟨_, pss_cons (ps_try_row (i := 2) (tb := fun W => tDrop (tMethS CF "changed" (spChg K CF CL CP) (WE W) (tVar 0) (tCons (tVar 1) (tCons (tC (.int 1)) tNil)))) (Wout := fun _ _ _ _ => False) rfl rfl scRef.nd rfl rfl takes0
        (fun W pn xe tk _ => pss_one (ps_expr (pe_methS (pv 0) cl mc GC hr bC (fun σ => passAt tk σ) (pa_cons (pv 1) (pa_cons pe_int pa_nil)))))
        (.cons ⟨rfl, by decide, Or.inl X.gP⟩ (fun a oe k d pn hz hf => pss_one (ps_ret (pe_cmpR op_eq (pe_callB (id := "repr") (r := rReprD K) (call_reprD (by exact gu) (by exact un0)) (by rfl) M.repr (by decide +kernel) (pa_cons (pe_xf X.xP X.nP hz hf (pv 2)) pa_nil)) (pe_callB (id := "repr") (r := rReprD K) (call_reprD (by exact gu) (by exact un0)) (by rfl) M.repr (by decide +kernel) (pa_cons (pv 1) pa_nil)) (nomark _)))) .nil))
      (pss_one (ps_ret pe_bl)), ?_⟩
    obtain ⟨k, dx, fs, vr, wa, la, e, l1, l2, l3, d1, l4, d2, l5, la1, l6, m1, m2, m3⟩ := id hF
    refine ⟨.ref a, rfl, a, dx, fs, rfl, e, m2, v, rfl, a, v, .int 1, F, rfl, hF, .inr ⟨d, hv, no, fun H1 dd H' s1 left => ⟨true, X.pp, fun _ b nb => ?_, fun e => Bool.noConfusion e⟩⟩⟩
    obtain ⟨_, s2, ed⟩ := left
    have hv2 := dp_same (s1.trans s2) hv
    refine ⟨.ref b, rfl, rfl, rfl, dd, _, v, rfl, ed, rfl, v, d, rfl, hv2, sh.sh, sh.nd, sh.dp, sh.sz, v, rfl, v, d, rfl, hv2, sh.sh, sh.nd, sh.dp, sh.sz, rfl, ?_⟩
    rw [decide_eq_true rfl]
    exact q _ (s1.trans s2)
end
/-! ### displays of data -/
/-- G has all that is new in H' -/
def NewIn (H H' G : Hp) : Prop := ∀ b o, H b = none → H' b = some o → G b = some o
/-- te makes a datum d at the slots σ, whatever is there; it stands in each heap that has what is new -/
def Dat (K : PySem.W.Frag) (te : TE) (σ : L2.St) (d : PyData) : Prop := ∀ (H : Hp) (Q : VK), (∀ v H', Same H H' → (∀ G, NewIn H H' G → Dp K G v d) → Q v H') → te σ H Q
def DatA (K : PySem.W.Frag) (ta : TA) (σ : L2.St) (ds : List PyData) : Prop := ∀ (H : Hp) (Q : List V → Hp → Prop), (∀ vs H', Same H H' → (∀ G, NewIn H H' G → DpAll K G vs ds) → Q vs H') → ta σ H Q
section
variable {K : PySem.W.Frag} {σ : L2.St}
theorem dat_non : Dat K (tC .non) σ .none := fun H Q q => q _ H (Same.refl H) fun _ _ => .non
theorem dat_bl {b : Bool} : Dat K (tC (.bl b)) σ (.bool b) := fun H Q q => q _ H (Same.refl H) fun _ _ => .bl b
theorem dat_int {i : Int} : Dat K (tC (.int i)) σ (.int i) := fun H Q q => q _ H (Same.refl H) fun _ _ => .int i
theorem dat_neg {i : Int} : Dat K (tUn (rU fun i => .int (-i)) (tC (.int i))) σ (.int (-i)) := fun H Q q => ⟨_, rfl, q _ H (Same.refl H) fun _ _ => .int _⟩
theorem dat_str {z : Str} : Dat K (tC (.str z)) σ (.str z) := fun H Q q => q _ H (Same.refl H) fun _ _ => .str z
theorem da_nil : DatA K tNil σ [] := fun H Q q => q _ H (Same.refl H) fun _ _ => .nil
theorem da_cons {te : TE} {ta : TA} {d : PyData} {ds : List PyData} (h : Dat K te σ d) (r : DatA K ta σ ds) : DatA K (tCons te ta) σ (d :: ds) := fun H Q q => h H _ fun v H1 s1 hv => r H1 _ fun vs H2 s2 hs => q _ H2 (s1.trans s2) fun G g =>
  .cons (hv G fun b o n e => g b o n (s2 _ _ e)) (hs G fun b o n e => g b o (s1.free n) e)
theorem newIn_self {H H' : Hp} : NewIn H H' H' := fun _ _ _ e => e
theorem dat_tup {ta : TA} {ds : List PyData} (h : DatA K ta σ ds) (n : ds.length ≤ sizeLine) : Dat K (tTup ta) σ (.tuple ds) := fun H Q q => h H _ fun vs H1 s1 hs => ⟨by rw [dpA_len (hs H1 newIn_self)]; exact n, fun p np => q _ _ (s1.trans (same_upd np)) fun G g =>
  .tup (.inl (.inl (g p _ (s1.free np) upd_same))) (hs G fun b o n e => g b o n (same_upd np _ _ e))⟩
theorem dat_lst {ta : TA} {ds : List PyData} (h : DatA K ta σ ds) (n : ds.length ≤ sizeLine) : Dat K (tLst ta) σ (.list ds) := fun H Q q => h H _ fun vs H1 s1 hs => ⟨by rw [dpA_len (hs H1 newIn_self)]; exact n, fun p np => q _ _ (s1.trans (same_upd np)) fun G g =>
  .lst (.inl (.inl (g p _ (s1.free np) upd_same))) (hs G fun b o n e => g b o n (same_upd np _ _ e))⟩
/-- a new list, with its items -/
theorem lst_new {ta : TA} {ds : List PyData} (h : DatA K ta σ ds) (n : ds.length ≤ sizeLine) (H : Hp) (Q : VK) (q : ∀ l xs H', Same H H' → H' l = some (.lst xs) → DpAll K H' xs ds → Q (.ref l) H') : tLst ta σ H Q :=
  h H _ fun vs H1 s1 hs => ⟨by rw [dpA_len (hs H1 newIn_self)]; exact n, fun p np => q p vs _ (s1.trans (same_upd np)) upd_same (hs _ fun b o n e => same_upd np _ _ e)⟩
theorem a_consP {te : TE} {ta : TA} {H : Hp} {Q : List V → Hp → Prop} (Pr : V → Hp → Prop) (h : ∀ Q' : VK, (∀ v H', Pr v H' → Q' v H') → te σ H Q') (k : ∀ v H1, Pr v H1 → ta σ H1 fun vs H2 => Q (v :: vs) H2) : tCons te ta σ H Q := h _ k
/-- a list at t that grows: its items stand whatever is written at t -/
def Grows (K : PySem.W.Frag) (t : Addr) (ds : List PyData) (H : Hp) : Prop := ∃ xs, H t = some (.lst xs) ∧ ∀ G : Hp, (∀ b o, H b = some o → b ≠ t → G b = some o) → DpAll K G xs ds
theorem q_append {te : TE} {tz : TS} {D : Ends} {H : Hp} {t : Addr} {ds : List PyData} {d : PyData} {i : Nat} (at_ : σ[i]? = some (some (.ref t))) (g : Grows K t ds H) (hd : Dat K te σ d) (n : ds.length < sizeLine)
    (k : ∀ H', (∀ b o, H b = some o → b ≠ t → H' b = some o) → Grows K t (ds ++ [d]) H' → tz D σ H') : tSeq (tDrop (tBM K "list" rAppend (tVar i) (tCons te tNil))) tz D σ H := by
  obtain ⟨xs, et, hx⟩ := g
  refine ⟨.ref t, at_, .inl ⟨rfl, xs, .inl (.inl et)⟩, hd H _ fun v H1 s1 hv => ?_⟩
  refine ⟨t, xs, v, rfl, rfl, s1 _ _ et, by rw [dpA_len (hx H fun _ _ e _ => e)]; exact n, k _ (fun b o e nb => ?_) ⟨xs ++ [v], upd_same, fun G ag => ?_⟩⟩
  · rw [upd_ne nb]
    exact s1 _ _ e
  · refine dpA_app (hx G fun b o e nb => ag b o (by rw [upd_ne nb]; exact s1 _ _ e) nb) (.cons (hv G fun b o nn e => ?_) .nil)
    have nb : b ≠ t := fun q => by
      rw [q, et] at nn
      cases nn
    exact ag b o (by rw [upd_ne nb]; exact e) nb
end
/-! ### words for a law -/
theorem same_but {p : Addr} {H H1 H2 : Hp} (s : Same H H1) (n : H p = none) (h2 : But p H1 H2) : Same H H2 := fun b o e => h2 b o (s b o e) (ne_of_none e n)
theorem turns {L i : Nat} (h : i < (if (if (2 : Int) < (L : Int) then (2 : Int) else (L : Int)) > 1 then (if (2 : Int) < (L : Int) then (2 : Int) else (L : Int)) else 1).toNat) : i ≤ 1 ∧ (i < L ∨ L = 0) := by
  split at h <;> split at h <;> omega
theorem dpL {K : PySem.W.Frag} {H : Hp} {t : Addr} {xs : List V} {ds : List PyData} (n : H t = none) (h : DpAll K H xs ds) : Dp K (upd H t (.lst xs)) (.ref t) (.list ds) := .lst (.inl (.inl upd_same)) (dpA_same (same_upd n) h)
theorem range_bounds {L : Nat} : -(2 ^ 62) ≤ (if (if (2 : Int) < (L : Int) then (2 : Int) else (L : Int)) > 1 then (if (2 : Int) < (L : Int) then (2 : Int) else (L : Int)) else 1) ∧ (if (if (2 : Int) < (L : Int) then (2 : Int) else (L : Int)) > 1 then (if (2 : Int) < (L : Int) then (2 : Int) else (L : Int)) else 1) < 2 ^ 62 := by
  split <;> split <;> omega
theorem op_P {r : R2} {ta tb : TE} {σ : L2.St} {H : Hp} {Q : VK} (P1 : V → Hp → Prop) (P2 : V → Hp → V → Hp → Prop) (h1 : ∀ Q' : VK, (∀ v H', P1 v H' → Q' v H') → ta σ H Q')
    (h2 : ∀ v H1, P1 v H1 → ∀ Q' : VK, (∀ u H', P2 v H1 u H' → Q' u H') → tb σ H1 Q') (k : ∀ v H1 u H2, P1 v H1 → P2 v H1 u H2 → r v u H2 Q) : tOp r ta tb σ H Q :=
  h1 _ fun v H1 p1 => h2 v H1 p1 _ fun u H2 p2 => k v H1 u H2 p1 p2
theorem ifop_P {r : R2} {ta tb : TE} {t1 t2 : TS} {D : Ends} {σ : L2.St} {H : Hp} (P1 : V → Hp → Prop) (P2 : V → Hp → V → Hp → Prop) (h1 : ∀ Q' : VK, (∀ v H', P1 v H' → Q' v H') → ta σ H Q')
    (h2 : ∀ v H1, P1 v H1 → ∀ Q' : VK, (∀ u H', P2 v H1 u H' → Q' u H') → tb σ H1 Q') (k : ∀ v H1 u H2, P1 v H1 → P2 v H1 u H2 → r v u H2 fun x H' => ∃ b, x = .bl b ∧ if b = true then t1 D σ H' else t2 D σ H') : tIfS (tTest (tOp r ta tb)) t1 t2 D σ H :=
  op_P P1 P2 h1 h2 k
theorem ifor_P {r : R2} {ta tb : TE} {c2 : TT} {t1 t2 : TS} {D : Ends} {σ : L2.St} {H : Hp} (P1 : V → Hp → Prop) (P2 : V → Hp → V → Hp → Prop) (h1 : ∀ Q' : VK, (∀ v H', P1 v H' → Q' v H') → ta σ H Q')
    (h2 : ∀ v H1, P1 v H1 → ∀ Q' : VK, (∀ u H', P2 v H1 u H' → Q' u H') → tb σ H1 Q') (k : ∀ v H1 u H2, P1 v H1 → P2 v H1 u H2 → r v u H2 fun x H' => ∃ b, x = .bl b ∧ if b = true then (if true = true then t1 D σ H' else t2 D σ H') else tIfS c2 t1 t2 D σ H') : tIfS (tOr (tTest (tOp r ta tb)) c2) t1 t2 D σ H :=
  h1 _ fun v H1 p1 => h2 v H1 p1 _ fun u H2 p2 => k v H1 u H2 p1 p2
/-! ### whether a Function tells its parts -/
def rOwnS (C : Addr) (sp : Sp) : R2 := fun x y H Q => ∃ a dx fs z, x = .ref a ∧ y = .str z ∧ H a = some (.ins C dx fs) ∧ sp [x, y] H Q E0
theorem op_ownS {X : Cx} {n : Nat} {C g : Addr} {fd : FuncData} {ps : List Str} {sp : Sp} {op : CmpOp} (hst : PySem.W.notFirst X.K C (.type "str") = true) (hs : PySem.W.findIn X.K (.ref C) (cmpInfo op).2.1 = some (some (.ref g))) (hf : PySem.W.isFn X.K (.ref g) = true) (F : FnOk X.prog X.w X.K X.mg X.base CX0 n g fd ps sp) (hb : Binds X.K fd ps []) (hr : Room n X.A)
    (hop : ∀ a b, compareOp op a b = richCompare op a b := by intro _ _; rfl) : OpR X (compareOp op) (rOwnS C sp) := by
  intro pins s σ H x y v u Q I rx ry h
  obtain ⟨a, dx, fs, z, rfl, rfl, ea, q⟩ := h
  cases (show v = Value.ref a from rx)
  obtain ⟨t, et⟩ := (show ∃ t, u = Value.str z t from ry)
  cases et
  obtain ⟨mA, J, _⟩ := ins_get I.hok ea
  obtain ⟨od, J, _⟩ := J.look
  obtain ⟨m, hF⟩ := I.fr
  rw [hop]
  refine PySem.W.cmp_K (op := op) (tb := .type "str") hr.units0 hF I.ok.mod.kin J (PySem.W.Looks.of_pure rfl) hst hs hf ?_
  exact wpAny_mono (run_fn (vs := [.ref a, .str z]) F hr hb .nil pass0 I (.cons rfl (.cons ry .nil)) q) (fun w s' ⟨z', H', I', rz, qz⟩ => SlX.cmpback rz ⟨z', H', I', rz, qz⟩) fun _ _ x => x
/-- data that lie flat enough -/
structure Small (F : FX) : Prop where
  r1 : F.d.res.canLay0 = true
  r2 : F.d.res.depth ≤ 20
  w1 : PyData.canLayAll0 F.d.ws = true
  w2 : PyData.depthAll F.d.ws ≤ 20
theorem shaped_list {ds : List PyData} (h : ∀ d ∈ ds, d.canLay0 = true ∧ d.depth ≤ 30) : SeqAt.shaped (.list ds) = true := by
  refine Bool.and_eq_true_iff.mpr ⟨canLay_of fun t ht => (h t ht).1, decide_eq_true ?_⟩
  show PyData.depthAll ds + 1 ≤ 64
  have := depth_of (m := 30) (ts := ds) fun t ht => (h t ht).2
  omega
theorem lay_of {ts : List PyData} (h : PyData.canLayAll0 ts = true) : ∀ t ∈ ts, t.canLay0 = true := by
  induction ts with
  | nil => intro t ht; cases ht
  | cons a r ih =>
    have h2 : (a.canLay0 && PyData.canLayAll0 r) = true := by simpa [PyData.canLayAll0] using h
    rw [Bool.and_eq_true] at h2
    intro t ht
    rcases List.mem_cons.mp ht with rfl | ht
    · exact h2.1
    · exact ih h2.2 t ht
theorem dep_of {m : Nat} {ts : List PyData} (h : PyData.depthAll ts ≤ m) : ∀ t ∈ ts, t.depth ≤ m := by
  induction ts with
  | nil => intro t ht; cases ht
  | cons a r ih =>
    have h2 : max a.depth (PyData.depthAll r) ≤ m := by simpa [PyData.depthAll] using h
    intro t ht
    rcases List.mem_cons.mp ht with rfl | ht
    · omega
    · exact ih (by omega) t ht
theorem parts_small {F : FX} (k : FXOk F) (s : Small F) : ∀ d ∈ partsF F.d, d.canLay0 = true ∧ d.depth ≤ 30 := fun d hd => by
  unfold partsF at hd
  rcases List.mem_cons.mp hd with rfl | hd
  · exact ⟨s.r1, Nat.le_trans s.r2 (by decide)⟩
  · obtain ⟨c, hc, rfl⟩ := List.mem_map.mp hd
    obtain ⟨i, hi⟩ := List.getElem?_of_mem hc
    obtain ⟨z, t, rfl⟩ := writes_at k.fd.ws hi
    have h1 := lay_of s.w1 _ hc
    have h2 := dep_of s.w2 _ hc
    have h3 : (PyData.strOk z && (t.canLay0 && true)) = true := h1
    have h4 : max 0 (max t.depth 0) + 1 ≤ 20 := h2
    rw [Bool.and_eq_true, Bool.and_true] at h3
    exact ⟨h3.2, by show t.depth ≤ 30; omega⟩
theorem sh_none : Shown .none := ⟨by decide +kernel, by decide +kernel, by decide +kernel, by decide +kernel⟩
def badParts : List PyData := [.none, .str "name", .str "label", .str "Cost", .int 5, .list [.str "cost"]]
theorem bad_shown : ∀ {i : Nat} {d : PyData}, badParts[i]? = some d → noPart d = true ∧ Shown d
  | 0, _, e => by cases e; exact ⟨by decide +kernel, by decide +kernel, by decide +kernel, by decide +kernel, by decide +kernel⟩
  | 1, _, e => by cases e; exact ⟨by decide +kernel, by decide +kernel, by decide +kernel, by decide +kernel, by decide +kernel⟩
  | 2, _, e => by cases e; exact ⟨by decide +kernel, by decide +kernel, by decide +kernel, by decide +kernel, by decide +kernel⟩
  | 3, _, e => by cases e; exact ⟨by decide +kernel, by decide +kernel, by decide +kernel, by decide +kernel, by decide +kernel⟩
  | 4, _, e => by cases e; exact ⟨by decide +kernel, by decide +kernel, by decide +kernel, by decide +kernel, by decide +kernel⟩
  | 5, _, e => by cases e; exact ⟨by decide +kernel, by decide +kernel, by decide +kernel, by decide +kernel, by decide +kernel⟩
  | i + 6, _, e => by simp [badParts] at e
theorem lab_te {K : PySem.W.Frag} {C CB : Addr} {H : Hp} {Q : VK} {i : Nat} {z : Str} {ta : TE} {σ : L2.St} (hi : labRow[i]? = some z) (a1 : ∀ Q' : VK, Q' (.str z) H → ta σ H Q') (h : ∀ x H', Same H H' → LabAt H' C x i → Q (.ref x) H') : tMake C (spLab K C CB) [] (fun _ _ _ => False) (tCons ta tNil) σ H Q :=
  a1 _ (lab_made hi (Same.refl H) fun x H' _ s _ l => h x H' s l)
abbrev sOR : Stmt := topS 42
theorem scOR : FnScope ["_law_f", "_law_one", "_law_other", "_law_row", "_law_part"] ["_law_f", "_law_one"] (defScope sOR) := ⟨rfl, rfl, rfl, by decide +kernel, rfl, by decide +kernel, by decide +kernel⟩
def spOR (K : PySem.W.Frag) (CF CL : Addr) : Sp := fun vs H Q _ => ∃ (g a : Addr) (F : FX), vs = [.ref g, .ref a] ∧ DictF K H g F (.tuple F.d.ws) ∧ FunFull K H CF CL a F ∧ Small F ∧ ∀ H', Same H H' → Q (.bl true) H'
/-- what is at hand of the class Function: how it is made, == and != -/
structure FunQ (P : Program) (w : World) (K : PySem.W.Frag) (mg : Str → Option Value) (base : Heap) (CF CL CB CP CT fF gE w0 : Addr) (fdF dE : FuncData) (gv0 : List Value → List Value → List Value) (gV0 : List V → List V → List V) : Prop where
  M : FunM P w K mg base CF CL CB CP CT fF fdF
  b0 : KBn K fdF ["self", "name", "arguments", "result", "label", "writes", "cost"] 4 [] gv0 gV0
  h0 : ∀ vs, gV0 vs [] = vs ++ [.str "changing", .ref w0, .int 1]
  w0 : ∀ H : Hp, SqT K H w0 []
  eq_ : PySem.W.findIn K (.ref CF) (cmpInfo .Eq).2.1 = some (some (.ref gE))
  eqf : PySem.W.isFn K (.ref gE) = true
  eqo : FnOk P w K mg base CX0 2 gE dE ["self", "other"] (spFEq K CF CL)
  eqb : Binds K dE ["self", "other"] []
  ne_ : PySem.W.findIn K (.ref CF) "__ne__" = some (some (.builtin "object.__ne__"))
  so : PySem.W.subIn K (.ref CF) (.type "object") = some true
  nf : PySem.W.notFirst K CF (.type "str") = true
  cl : Cls K CF
  T : FAtt K CF
section
variable {P : Program} {w : World} {K : PySem.W.Frag} {mg : Str → Option Value} {base : Heap}
theorem ok_or {CF CL CB CP CT fF gE gL w0 f fL fP fR : Addr} {fd fdF dE dg dL dP dR : FuncData} {gv0 : List Value → List Value → List Value} {gV0 : List V → List V → List V} (F : Fun K "_law_one_right" "_law_one_right" sOR f fd) (M : Blt mg) (U : FunQ P w K mg base CF CL CB CP CT fF gE w0 fdF dE gv0 gV0) (LQ : LabQ P w K mg base CL gL dg) (T : LabC K mg CL) (LM : LabM P w K mg base CL CB fL dL)
    (GP : FnOk P w K mg base CX0 1 fP dP ["self"] (spFParts K CF)) (mP : Meth K CF "parts" fP) (bP : Binds K dP ["self"] [])
    (GR : FnG P w K mg base 9 fR dR ["_law_one", "_law_part"] (spRef K CF CL)) (kR : PySem.W.keepIn K (.ref fR) = true) (bR : Binds K dR ["_law_one", "_law_part"] []) (gR : mg "_law_refused" = some (.ref fR)) : FnG P w K mg base 10 f fd ["_law_f", "_law_one"] (spOR K CF CL) := by
  refine Fun.okG F scOR (fun vs H Q h => ?_) (fun cdv A outer s H vs Q gu hr h => ?_)
  · obtain ⟨g, a, F, rfl, _⟩ := h
    rfl
  · obtain ⟨g, a, F, rfl, hD, hF, sm, q⟩ := h
    have hr1 : Room 1 (A.deeper (envOfC "_law_one_right" (defScope sOR) s.heap.objs.size f cdv)) := hr.mono (by decide)
    have hr2 : Room 2 (A.deeper (envOfC "_law_one_right" (defScope sOR) s.heap.objs.size f cdv)) := hr.mono (by decide)
    have hr4 : Room 4 (A.deeper (envOfC "_law_one_right" (defScope sOR) s.heap.objs.size f cdv)) := hr.mono (by decide)
    have hr7 : Room 7 (A.deeper (envOfC "_law_one_right" (defScope sOR) s.heap.objs.size f cdv)) := hr.mono (by decide)
    have hr9 : Room 9 (A.deeper (envOfC "_law_one_right" (defScope sOR) s.heap.objs.size f cdv)) := hr.mono (by decide)
    have hu := hu_of hr
    refine ⟨_, pss_cons (ps_if (pt_cmpR (op_neD hr.units) (pe_lst (pa_cons (pe_fld (pv 1) (by rfl)) (pa_cons (pe_fld (pv 1) (by rfl)) (pa_cons (pe_fld (pv 1) (by rfl)) (pa_cons (pe_fld (pv 1) (by rfl)) pa_nil))))) (pe_lst (pa_cons (pe_dget hu (pv 0) pe_str (fun _ _ => rfl)) (pa_cons (pe_dget hu (pv 0) pe_str (fun _ _ => rfl)) (pa_cons (pe_dget hu (pv 0) pe_str (fun _ _ => rfl)) (pa_cons (pe_dget hu (pv 0) pe_str (fun _ _ => rfl)) pa_nil))))) (nomark _)) (pss_one (ps_ret pe_bl)) pss_nil)
      (pss_cons (ps_if (pt_cmpR (op_neI T.ne T.so T.nf LQ.eq_ LQ.eqf LQ.eqo LQ.eqb hr2) (pe_fld (pv 1) (by rfl)) (pe_make (dvs := []) LM.make LM.ok hr4 (by rfl) LM.gC LM.bi .nil pass00 (pa_cons (pe_dget hu (pv 0) pe_str (fun _ _ => rfl)) pa_nil)) (nomark _)) (pss_one (ps_ret pe_bl)) pss_nil)
      (pss_cons (ps_if (PW.pt (pw_or (pt_cmpR (op_neD hr.units) (pe_fld (pv 1) (by rfl)) (pe_callTy call_tuple_of (by rfl) M.tuple (by decide +kernel) (pa_cons (pe_dget hu (pv 0) pe_str (fun _ _ => rfl)) pa_nil)) (nomark _))
          (pw_or1 (pt_cmpR (op_neD hr.units) (pe_meth0 (pv 1) U.cl mP GP hr1 bP .nil pass0) (pe_op op_cat (pe_lst (pa_cons (pe_dget hu (pv 0) pe_str (fun _ _ => rfl)) pa_nil))
            (pe_lc (own := [("_law_row", 3)]) (g := gName 3) (wi := iTup K (tDGet (tVar 0) (tC (.str "writes")))) (tt := tYes) (te := tOp (rIxT K) (tVar 3) (tC (.int 1))) (by rfl) scOR.nd (pi_tup (pe_dget hu (pv 0) pe_str (fun _ _ => rfl))) (blkOk_by (own := [("_law_row", 3)]) (N := ["_law_f", "_law_one", "_law_other", "_law_row", "_law_part"]) (sc := defScope sOR) (by decide +kernel)) (fun _ _ _ _ _ => pg_name (i := 3) scOR.nd rfl (Or.inl rfl)) (fun _ _ _ _ _ => pts_nil) (fun _ _ _ _ _ => pe_ix ix_tup (pv 3) pe_int (fun _ _ => rfl)))) (nomark _))))) (pss_one (ps_ret pe_bl)) pss_nil)
      (pss_cons (ps_set (i := 2) scOR.nd rfl (.inl rfl) (pe_makeK (ks := []) U.M.make U.M.ok hr7 (by rfl) U.M.gC U.b0 pass00 (pa_cons (pe_dget hu (pv 0) pe_str (fun _ _ => rfl)) (pa_cons (pe_dget hu (pv 0) pe_str (fun _ _ => rfl)) (pa_cons (pe_dget hu (pv 0) pe_str (fun _ _ => rfl)) pa_nil))) pk_nil))
      (pss_cons (ps_if (PW.pt (pw_or (pt_cmpR (op_neD hr.units) (pe_lst (pa_cons (pe_fld (pe_fld (pv 2) (by rfl)) (by rfl)) (pa_cons (pe_fld (pv 2) (by rfl)) (pa_cons (pe_fld (pv 2) (by rfl)) pa_nil)))) (pe_lst (pa_cons pe_str (pa_cons (pe_tup pa_nil) (pa_cons pe_int pa_nil)))) (nomark _))
          (pw_or1 (pt_cmpR (op_ownS U.nf U.eq_ U.eqf U.eqo U.eqb hr2) (pv 1) (pe_dget hu (pv 0) pe_str (fun _ _ => rfl)) (nomark _))))) (pss_one (ps_ret pe_bl)) pss_nil)
      (pss_one (ps_ret (pe_cmpR (op_eqD hr.units) (pe_lc (own := [("_law_part", 4)]) (g := gName 4) (wi := iList K (tLst (tCons (tC .non) (tCons (tC (.str "name")) (tCons (tC (.str "label")) (tCons (tC (.str "Cost")) (tCons (tC (.int 5)) (tCons (tLst (tCons (tC (.str "cost")) tNil)) tNil)))))))) (tt := tNot (tB (tCall (spRef K CF CL) [] E0 (tCons (tVar 1) (tCons (tVar 4) tNil))))) (te := tVar 4) (by rfl) scOR.nd (pi_list (pe_lst (pa_cons pe_non (pa_cons pe_str (pa_cons pe_str (pa_cons pe_str (pa_cons pe_int (pa_cons (pe_lst (pa_cons pe_str pa_nil)) pa_nil))))))))
          (blkOk_by (own := [("_law_part", 4)]) (N := ["_law_f", "_law_one", "_law_other", "_law_row", "_law_part"]) (sc := defScope sOR) (by decide +kernel)) (fun _ _ _ _ _ => pg_name (i := 4) scOR.nd rfl (Or.inl rfl)) (fun _ _ _ _ _ => pts_one (pt_not (pt_val (pe_callG GR gu hr9 (by rfl) gR kR bR (pa_cons (pv 1) (pa_cons (pv 4) pa_nil)))))) (fun _ _ _ _ _ => pv 4)) (pe_lst pa_nil) (nomark _)))))))), ?_⟩
    obtain ⟨k, h1, h2, h3, kvs, ur, uw, z, eg, n1, n2, n3, d3, n4, d4, n5, n6, lz, kl⟩ := id hD
    obtain ⟨_, dx, fs, vr, wa, la, e, l1, l2, l3, d1, l4, d2, l5, la1, l6, m1, m2, m3⟩ := id hF
    have D : ∀ {G : Hp}, Same H G → ∀ {y : Str} {v : V}, valV kvs (.inr y : Key) = some v → DGet G g (.str y) (some v) := by
      intro G s y v h
      exact .inl ⟨kvs, .inr y, .inl (s _ _ eg), rfl, h.symm⟩
    have nmok := name_ok k.fd.nm
    have shL : SeqAt.shaped (.list [.str F.d.nm, .int F.d.ar, F.d.res, .int F.cost]) = true := shaped_list fun d hd => by
      simp only [List.mem_cons, List.not_mem_nil, or_false] at hd
      rcases hd with rfl | rfl | rfl | rfl
      · exact ⟨nmok, Nat.zero_le _⟩
      · exact ⟨rfl, Nat.zero_le _⟩
      · exact ⟨sm.r1, Nat.le_trans sm.r2 (by decide)⟩
      · exact ⟨rfl, Nat.zero_le _⟩
    -- its parts, as a row
    refine ⟨.ref a, rfl, a, CF, dx, fs, _, rfl, e, U.cl, U.T.n1, l1, .ref a, rfl, a, CF, dx, fs, _, rfl, e, U.cl, U.T.n2, l2, .ref a, rfl, a, CF, dx, fs, vr, rfl, e, U.cl, U.T.n3, l3, .ref a, rfl, a, CF, dx, fs, _, rfl, e, U.cl, U.T.n6, l6, (by show 4 ≤ sizeLine; decide), fun p1 np1 => ?_⟩
    have s1 := same_upd (o := HO.lst [V.str F.d.nm, .int F.d.ar, vr, .int F.cost]) np1
    refine ⟨.ref g, rfl, g, _, rfl, D s1 n1, .ref g, rfl, g, _, rfl, D s1 n2, .ref g, rfl, g, _, rfl, D s1 n3, .ref g, rfl, g, _, rfl, D s1 n5, (by show 4 ≤ sizeLine; decide), fun p2 np2 => ?_⟩
    have s2 := same_upd (o := HO.lst [V.str F.d.nm, .int F.d.ar, ur, .int F.cost]) np2
    refine ⟨.list [.str F.d.nm, .int F.d.ar, F.d.res, .int F.cost], .list [.str F.d.nm, .int F.d.ar, F.d.res, .int F.cost], .lst (.inl (.inl (s2 _ _ upd_same))) (.cons (.str _) (.cons (.int _) (.cons (dp_same (s1.trans s2) d1) (.cons (.int _) .nil)))), .lst (.inl (.inl upd_same)) (.cons (.str _) (.cons (.int _) (.cons (dp_same (s1.trans s2) d3) (.cons (.int _) .nil)))), shL, shL, _, rfl, ?_⟩
    rw [SeqAt.eqv_refl _ (SeqAt.canLay_of_shaped shL)]
    refine iteF ?_
    have t2 := s1.trans s2
    generalize upd (upd H p1 (HO.lst [V.str F.d.nm, .int F.d.ar, vr, .int F.cost])) p2 (HO.lst [V.str F.d.nm, .int F.d.ar, ur, .int F.cost]) = H2 at t2
    clear s1 s2
    dsimp only [tNext]
    -- its label
    refine ifop_P (fun v H' => v = .ref la ∧ H' = H2) (fun v H1 u H' => ∃ x, u = .ref x ∧ Same H1 H' ∧ LabAt H' CL x F.lab) (fun Q' hq => ⟨.ref a, rfl, a, CF, dx, fs, .ref la, rfl, t2 _ _ e, U.cl, U.T.n4, l5, hq _ _ ⟨rfl, rfl⟩⟩) (fun v H1 h Q' hq => lab_te lz (fun Q'' q'' => ⟨.ref g, rfl, g, _, rfl, by rw [h.2]; exact D t2 n6, q''⟩) fun x H' s l => hq _ _ ⟨x, rfl, s, l⟩) (fun v H1 u H3 p1 p2 => ?_)
    obtain ⟨rfl, rfl⟩ := p1
    obtain ⟨x, rfl, s3, lx⟩ := p2
    have t3 := t2.trans s3
    obtain ⟨dxa, fsa, za, ela, _⟩ := la1.ext t3
    obtain ⟨dxb, fsb, zb, elb, _⟩ := id lx
    refine ⟨la, dxa, fsa, rfl, ela, .inl ⟨x, dxb, fsb, rfl, elb⟩, la, F.lab, .ref x, rfl, la1.ext t3, .inl ⟨x, F.lab, rfl, lx, _, rfl, _, rfl, ?_⟩⟩
    rw [decide_eq_true rfl]
    refine iteF ?_
    dsimp only [tNext]
    -- its writes
    cases d4 with
    | @tup wb ys _ hs hds =>
    refine ⟨.ref a, rfl, a, CF, dx, fs, .ref wa, rfl, t3 _ _ e, U.cl, U.T.n5, l4, .ref g, rfl, g, .ref wb, rfl, D t3 n4, wb, ys, rfl, .inr ⟨same_sqT t3 hs, .tuple F.d.ws, .tuple F.d.ws, dp_same t3 d2, .tup (same_sqT t3 hs) (dpA_same t3 hds), k.sw, k.sw, _, rfl, ?_⟩⟩
    rw [SeqAt.eqv_refl _ (SeqAt.canLay_of_shaped k.sw)]
    refine iteF ?_
    -- its parts
    have shP : SeqAt.shaped (.list (partsF F.d)) = true := shaped_list (parts_small k sm)
    have few := k.fd.few
    have len := dpA_len hds
    refine ⟨.ref a, rfl, a, dx, fs, rfl, t3 _ _ e, m3, a, F.d, rfl, (hF.same t3).of, fun pp ps H4 s4 ep hps => ?_⟩
    have t4 := t3.trans s4
    refine ⟨.ref g, rfl, g, _, rfl, D t4 n3, (by show 1 ≤ sizeLine; decide), fun l nl => ?_⟩
    have s5 := same_upd (o := HO.lst [ur]) nl
    have t5 := t4.trans s5
    refine ⟨.ref g, rfl, g, .ref wb, rfl, D t5 n4, wb, rfl, ⟨_, same_sqT t5 hs⟩, fun D' hD' => ?_⟩
    refine walk_gen (walk_tup (K := K) (a := wb) (xs := ys)) (fun i H' => Same (upd H4 l (.lst [ur])) H' ∧ ∃ acc, H' D' = some (.lst acc) ∧ DpAll K H acc ((F.d.ws.take i).map sndD)) ⟨same_upd hD', [], upd_same, .nil⟩ (fun i H' _ w => same_sqT (t5.trans w.1) hs) (fun i x H5 H6 hi w y => ?_) (fun H5 w => ?_)
    · obtain ⟨s6, acc, eD, hacc⟩ := w
      obtain ⟨rfl, hx⟩ := y
      obtain ⟨di, hd, hxi⟩ := dpA_at hds hx
      obtain ⟨y, t, rfl⟩ := writes_at k.fd.ws hd
      have hi' : i < F.d.ws.length := (List.getElem?_eq_some_iff.mp hd).1
      cases hxi with
      | @tup b zs _ hb hy =>
      obtain ⟨y0, y1, rfl, hy0, hy1⟩ := dp_pair hy
      refine And.intro rfl ?_
      unfold tYes
      refine iteT ⟨.ref b, rfl, b, _, 1, y1, rfl, rfl, same_sqT (t5.trans s6) hb, atI_nat (j := 1) rfl, acc, eD, ?_, fun b o e => ?_, acc ++ [y1], upd_same, ?_⟩
      · rw [dpA_len hacc, List.length_map, List.length_take]
        exact Nat.lt_of_le_of_lt (show _ ≤ 3 by omega) (by decide)
      · rw [upd_ne (ne_of_none e hD')]
        exact s6 _ _ e
      · rw [take_snoc hd, List.map_append]
        exact dpA_app hacc (.cons hy1 .nil)
    obtain ⟨s6, acc, eD, hacc⟩ := w
    rw [len, List.take_length] at hacc
    refine ⟨l, D', [ur], acc, rfl, rfl, s6 _ _ upd_same, eD, ?_, fun l3 nl3 => ?_⟩
    · rw [dpA_len hacc, List.length_map]
      exact Nat.le_trans (show _ ≤ 4 by simp; omega) (by decide)
    have s7 := same_upd (o := HO.lst ([ur] ++ acc)) nl3
    have t7 := (t5.trans s6).trans s7
    refine ⟨.list (partsF F.d), .list (partsF F.d), .lst (.inl (.inl ((s5.trans (s6.trans s7)) _ _ ep))) (dpA_same (s5.trans (s6.trans s7)) hps), .lst (.inl (.inl upd_same)) (.cons (dp_same t7 d3) (dpA_same t7 hacc)), shP, shP, _, rfl, ?_⟩
    rw [SeqAt.eqv_refl _ (SeqAt.canLay_of_shaped shP)]
    refine iteF ?_
    generalize upd H5 l3 (HO.lst ([ur] ++ acc)) = H7 at t7
    clear s7 s6 s5 t5 s4 t4
    dsimp only [tNext]
    -- another one, with what is left out
    have k2 : FXOk ⟨⟨F.d.nm, F.d.ar, F.d.res, []⟩, 3, 1⟩ := ⟨⟨k.fd.nm, k.fd.res, k.fd.zr, rfl, rfl, rfl, Nat.zero_le _⟩, k.sr, (by show SeqAt.shaped (.tuple []) = true; decide +kernel), k.ar, (by show countOk 99 (.int 1) = true; decide +kernel)⟩
    refine q_asgP (Pr := fun v H' => ∃ x, v = .ref x ∧ Same H7 H' ∧ FunFull K H' CF CL x ⟨⟨F.d.nm, F.d.ar, F.d.res, []⟩, 3, 1⟩) (fun Q' hq => ?_) (fun v H8 hv => ?_)
    · refine ⟨.ref g, rfl, g, _, rfl, D t7 n1, .ref g, rfl, g, _, rfl, D t7 n2, .ref g, rfl, g, _, rfl, D t7 n3, rfl, rfl, fun xo dxo nxo ndo neo => ?_⟩
      rw [U.h0]
      exact fun_full (F := ⟨⟨F.d.nm, F.d.ar, F.d.res, []⟩, 3, 1⟩) k2 nxo ndo (.str _) (.int _) (dp_same t7 d3) (.tup (U.w0 _) .nil) (.int 1) (.inr ⟨"changing", rfl, rfl, rfl⟩) rfl rfl rfl fun H8 s8 hO => hq _ _ ⟨xo, rfl, s8, hO⟩
    obtain ⟨xo, rfl, s8, hO⟩ := hv
    have t8 := t7.trans s8
    obtain ⟨_, dy, gs, vo, wo, lo, eo, _, _, _, _, o4, dw4, o5, lo1, o6, _⟩ := hO
    obtain ⟨dl, fl, zl, el, hzl, _, hnl, _⟩ := id lo1
    have hzl2 : zl = "changing" := (Option.some.inj hzl).symm
    subst hzl2
    refine ⟨.ref xo, rfl, xo, CF, dy, gs, .ref lo, rfl, eo, U.cl, U.T.n4, o5, lo, CL, dl, fl, .str "changing", rfl, el, T.cl, T.nn, hnl, .ref xo, rfl, xo, CF, dy, gs, .ref wo, rfl, eo, U.cl, U.T.n5, o4, .ref xo, rfl, xo, CF, dy, gs, _, rfl, eo, U.cl, U.T.n6, o6, (by show 3 ≤ sizeLine; decide), fun q1 m1 => ?_⟩
    have r1 := same_upd (o := HO.lst [V.str "changing", .ref wo, .int 1]) m1
    refine ⟨by show 0 ≤ sizeLine; decide, fun q2 m2 => ⟨by show 3 ≤ sizeLine; decide, fun q3 m3' => ?_⟩⟩
    have r2 := same_upd (o := HO.tup []) m2
    have r3 := same_upd (o := HO.lst [V.str "changing", .ref q2, .int 1]) m3'
    refine ⟨.list [.str "changing", .tuple [], .int 1], .list [.str "changing", .tuple [], .int 1], .lst (.inl (.inl ((r2.trans r3) _ _ upd_same))) (.cons (.str _) (.cons (dp_same (r1.trans (r2.trans r3)) dw4) (.cons (.int _) .nil))), .lst (.inl (.inl upd_same)) (.cons (.str _) (.cons (.tup (.inl (.inl (r3 _ _ upd_same))) .nil) (.cons (.int _) .nil))), by decide +kernel, by decide +kernel, _, rfl, ?_⟩
    rw [show PyData.eqv (.list [.str "changing", .tuple [], .int 1]) (.list [.str "changing", .tuple [], .int 1]) = true from SeqAt.eqv_refl _ (by decide +kernel)]
    refine iteF ?_
    have t9 := t8.trans (r1.trans (r2.trans r3))
    generalize upd (upd (upd H8 q1 (HO.lst [V.str "changing", .ref wo, .int 1])) q2 (HO.tup [])) q3 (HO.lst [V.str "changing", .ref q2, .int 1]) = H9 at t9
    refine ⟨.ref a, rfl, .ref g, rfl, g, _, rfl, D t9 n1, a, dx, fs, F.d.nm, rfl, rfl, t9 _ _ e, a, F, .str F.d.nm, rfl, hF.same t9, .inr ⟨F.d.nm, rfl, _, rfl, iteF ?_⟩⟩
    dsimp only [tNext]
    -- what names no part
    refine ⟨by show 1 ≤ sizeLine; decide, fun b1 c1 => ⟨by show 6 ≤ sizeLine; decide, fun b2 c2 => ⟨b2, rfl, ⟨_, .inl (.inl upd_same)⟩, fun D2 hD2 => ?_⟩⟩⟩
    have w1 := same_upd (o := HO.lst [V.str "cost"]) c1
    have w2 := same_upd (o := HO.lst [V.non, .str "name", .str "label", .str "Cost", .int 5, .ref b1]) c2
    have bad : DpAll K (upd (upd H9 b1 (.lst [V.str "cost"])) b2 (.lst [V.non, .str "name", .str "label", .str "Cost", .int 5, .ref b1])) [V.non, .str "name", .str "label", .str "Cost", .int 5, .ref b1] badParts := .cons .non (.cons (.str _) (.cons (.str _) (.cons (.str _) (.cons (.int _) (.cons (.lst (.inl (.inl (w2 _ _ upd_same))) (.cons (.str _) .nil)) .nil)))))
    have e2 : (upd (upd H9 b1 (.lst [V.str "cost"])) b2 (.lst [V.non, .str "name", .str "label", .str "Cost", .int 5, .ref b1])) b2 = some (.lst [V.non, .str "name", .str "label", .str "Cost", .int 5, .ref b1]) := upd_same
    have t10 := t9.trans (w1.trans w2)
    generalize upd (upd H9 b1 (.lst [V.str "cost"])) b2 (.lst [V.non, .str "name", .str "label", .str "Cost", .int 5, .ref b1]) = H10 at bad e2 t10 hD2
    refine walk_gen (walk_list (K := K) (a := b2) (xs := [V.non, .str "name", .str "label", .str "Cost", .int 5, .ref b1])) (fun i H' => Same H10 H' ∧ H' D2 = some (.lst [])) ⟨same_upd hD2, upd_same⟩ (fun i H' _ w => .inl (.inl (w.1 _ _ e2))) (fun i x G1 G2 hi w y => ?_) (fun G1 w => ?_)
    · obtain ⟨s11, eD2⟩ := w
      obtain ⟨rfl, hx⟩ := y
      obtain ⟨d, hd, hxd⟩ := dpA_at bad hx
      obtain ⟨no, sh⟩ := bad_shown hd
      refine And.intro rfl ?_
      refine ⟨.ref a, rfl, x, rfl, a, x, F, d, rfl, hF.same (t10.trans s11), dp_same s11 hxd, no, sh, fun G3 s12 => ⟨_, rfl, ?_⟩⟩
      exact iteF ⟨s11.trans s12, s12 _ _ eD2⟩
    obtain ⟨s11, eD2⟩ := w
    refine ⟨by show 0 ≤ sizeLine; decide, fun b3 c3 => ⟨.list [], .list [], .lst (.inl (.inl (same_upd c3 _ _ eD2))) .nil, .lst (.inl (.inl upd_same)) .nil, by decide +kernel, by decide +kernel, ?_⟩⟩
    rw [show PyData.eqv (.list []) (.list []) = true from SeqAt.eqv_refl _ (by decide +kernel)]
    exact q _ (t10.trans (s11.trans (same_upd c3)))
end
/-! ### comparisons that find nothing unlike -/
def NF (te : TE) (σ : L2.St) (H : Hp) : Prop := ∀ Q : VK, (∀ H', Same H H' → Q (.bl false) H') → te σ H Q
theorem nf_if {te : TE} {t1 t2 : TS} {D : Ends} {σ : L2.St} {H : Hp} (h : NF te σ H) (k : ∀ H', Same H H' → t2 D σ H') : tIfS (tTest te) t1 t2 D σ H := h _ fun H' s => ⟨false, rfl, iteF (k H' s)⟩
theorem nf_or {te : TE} {tb : TT} {t1 t2 : TS} {D : Ends} {σ : L2.St} {H : Hp} (h : NF te σ H) (k : ∀ H', Same H H' → tIfS tb t1 t2 D σ H') : tIfS (tOr (tTest te) tb) t1 t2 D σ H := h _ fun H' s => ⟨false, rfl, iteF (k H' s)⟩
theorem eqFX_self {G : FX} (k : FXOk G) : eqFX G G = true := by
  unfold eqFX
  rw [decide_eq_true rfl, decide_eq_true rfl, decide_eq_true rfl, decide_eq_true rfl, SeqAt.eqv_refl _ (SeqAt.canLay_of_shaped k.sr), SeqAt.eqv_refl _ (SeqAt.canLay_of_shaped k.sw)]
  rfl
/-- te makes such a Function -/
def Makes (K : PySem.W.Frag) (CF CL : Addr) (te : TE) (σ : L2.St) (H : Hp) (G : FX) : Prop := ∀ Q : VK, (∀ x H', Same H H' → FunFull K H' CF CL x G → Q (.ref x) H') → te σ H Q
section
variable {K : PySem.W.Frag} {CF CL : Addr} {σ : L2.St} {H : Hp}
theorem nf_fun {tx ty : TE} {G : FX} (k : FXOk G) (hx : Makes K CF CL tx σ H G) (hy : ∀ H1, Same H H1 → Makes K CF CL ty σ H1 G) : NF (tOp (rNeI K CF (spFEq K CF CL)) tx ty) σ H := fun Q q => hx _ fun x H1 s1 f1 => hy H1 s1 _ fun y H2 s2 f2 => by
  have f1 := f1.same s2
  obtain ⟨_, dx, fs, _, _, _, e, _⟩ := id f1
  obtain ⟨_, dy, gs, _, _, _, e', _⟩ := id f2
  refine ⟨x, dx, fs, rfl, e, .inl ⟨y, dy, gs, rfl, e'⟩, x, G, .ref y, rfl, f1, .inl ⟨y, G, rfl, f2, _, rfl, ?_⟩⟩
  rw [eqFX_self k]
  exact q H2 (s1.trans s2)
/-- (tx == one) != tb, where both tell the same -/
theorem nf_same {tx tb : TE} {G F : FX} {a : Addr} {i : Nat} {b : Bool} (at_ : σ[i]? = some (some (V.ref a))) (hF : FunFull K H CF CL a F) (hx : Makes K CF CL tx σ H G) (eb : eqFX G F = b) (hb : ∀ H1, Same H H1 → ∀ Q : VK, (∀ H', Same H1 H' → Q (.bl b) H') → tb σ H1 Q) : NF (tOp rNe (tOp (rOwnI CF (spFEq K CF CL)) tx (tVar i)) tb) σ H := fun Q q => hx _ fun x H1 s1 f1 => by
  have hF1 := hF.same s1
  obtain ⟨_, dx, fs, _, _, _, e, _⟩ := id f1
  obtain ⟨_, dy, gs, _, _, _, e', _⟩ := id hF1
  refine ⟨.ref a, at_, x, a, dx, dy, fs, gs, rfl, rfl, e, e', x, G, .ref a, rfl, f1, .inl ⟨a, F, rfl, hF1, ?_⟩⟩
  rw [eb]
  refine hb H1 s1 _ fun H' s2 => ⟨rfl, ?_⟩
  rw [decide_eq_true rfl]
  exact q H' (s1.trans s2)
end
/-! ### whether a Function changes as told -/
def rowsD : List PyData := [.tuple [.str "result", .int 2], .tuple [.str "writes", .tuple [.tuple [.str "z", .int 1], .tuple [.str "q", .tuple [.str "tick"]]]], .tuple [.str "cost", .int 99], .tuple [.str "writes", .list []], .tuple [.str "cost", .int 0]]
/-- what a changed Function's own look at its part tells -/
def sameB (F : FX) : Str → PyData → Bool := fun z d => if z = "writes" then PyData.eqv (.list (entries d)) (.list F.d.ws) else if z = "result" then PyData.eqv d F.d.res else PyData.eqv d (.int F.cost)
theorem ar_ok {n : Int} (h : countOk 2 (.int n) = true) : 0 ≤ n ∧ n ≤ 2 := by
  have h2 : (decide (0 ≤ n) && decide (n ≤ 2)) = true := h
  rw [Bool.and_eq_true] at h2
  exact ⟨of_decide_eq_true h2.1, of_decide_eq_true h2.2⟩
theorem eqv_int (a b : Int) : PyData.eqv (.int a) (.int b) = decide (a = b) := by
  simp [PyData.eqv, Bool.beq_eq_decide_eq]
theorem row_chg {F : FX} (k : FXOk F) : ∀ (j : Nat) (d : PyData), rowsD[j]? = some d → ∃ z e G, d = .tuple [.str z, e] ∧ ChgTo F z e G ∧ FXOk G ∧ SeqAt.shaped e = true ∧ eqFX G F = sameB F z e ∧ (z = "writes" → isSeq e = true ∧ SeqAt.shaped (.list (entries e)) = true ∧ areWrites e = true ∧ szD e = true) := by
  have ref1 := SeqAt.eqv_refl _ (SeqAt.canLay_of_shaped k.sr)
  have ref2 := SeqAt.eqv_refl _ (SeqAt.canLay_of_shaped k.sw)
  obtain ⟨a0, a2⟩ := ar_ok k.ar
  have t2 : isTerm F.d.ar (.int 2) = true := by rcases (show F.d.ar = 0 ∨ F.d.ar = 1 ∨ F.d.ar = 2 by omega) with e | e | e <;> rw [e] <;> decide +kernel
  have bw : badTerm F.d.ar [.tuple [.str "z", .int 1], .tuple [.str "q", .tuple [.str "tick"]]] = none := by rcases (show F.d.ar = 0 ∨ F.d.ar = 1 ∨ F.d.ar = 2 by omega) with e | e | e <;> rw [e] <;> decide +kernel
  have eR : ∀ d : PyData, eqFX ⟨⟨F.d.nm, F.d.ar, d, F.d.ws⟩, F.lab, F.cost⟩ F = PyData.eqv d F.d.res := fun d => by
    unfold eqFX
    dsimp only
    rw [decide_eq_true rfl, decide_eq_true rfl, decide_eq_true rfl, decide_eq_true rfl, ref2]
    simp
  have eW : ∀ ws : List PyData, eqFX ⟨⟨F.d.nm, F.d.ar, F.d.res, ws⟩, F.lab, F.cost⟩ F = PyData.eqv (.tuple ws) (.tuple F.d.ws) := fun d => by
    unfold eqFX
    dsimp only
    rw [decide_eq_true rfl, decide_eq_true rfl, decide_eq_true rfl, decide_eq_true rfl, ref1]
    simp
  have eC : ∀ c : Int, eqFX ⟨F.d, F.lab, c⟩ F = PyData.eqv (.int c) (.int F.cost) := fun c => by
    unfold eqFX
    dsimp only
    rw [decide_eq_true rfl, decide_eq_true rfl, decide_eq_true rfl, ref1, ref2, eqv_int]
    simp
  have lt : ∀ a b : List PyData, PyData.eqv (.list a) (.list b) = PyData.eqv (.tuple a) (.tuple b) := fun a b => by simp [PyData.eqv]
  intro j d e
  match j, e with
  | 0, e => cases e; exact ⟨"result", _, _, rfl, .res _, ⟨⟨k.fd.nm, t2, rfl, k.fd.ws, k.fd.bt, k.fd.zw, k.fd.few⟩, by show SeqAt.shaped (.int 2) = true; decide +kernel, k.sw, k.ar, k.co⟩, by decide +kernel, eR _, fun h => absurd h (by decide +kernel)⟩
  | 1, e => cases e; exact ⟨"writes", _, _, rfl, .ws _ (by decide +kernel) (by decide +kernel), ⟨⟨k.fd.nm, k.fd.res, k.fd.zr, by show writesGo [] [.tuple [.str "z", .int 1], .tuple [.str "q", .tuple [.str "tick"]]] = true; decide +kernel, bw, by show szDs [.tuple [.str "z", .int 1], .tuple [.str "q", .tuple [.str "tick"]]] = true; decide +kernel, by show 2 ≤ 3; decide⟩, k.sr, by show SeqAt.shaped (.tuple [.tuple [.str "z", .int 1], .tuple [.str "q", .tuple [.str "tick"]]]) = true; decide +kernel, k.ar, k.co⟩, by decide +kernel, (eW _).trans (lt _ _).symm, fun _ => ⟨rfl, by decide +kernel, by decide +kernel, by decide +kernel⟩⟩
  | 2, e => cases e; exact ⟨"cost", _, _, rfl, .cost _, ⟨k.fd, k.sr, k.sw, k.ar, by show countOk 99 (.int 99) = true; decide +kernel⟩, by decide +kernel, eC _, fun h => absurd h (by decide +kernel)⟩
  | 3, e => cases e; exact ⟨"writes", _, _, rfl, .ws _ (by decide +kernel) (by decide +kernel), ⟨⟨k.fd.nm, k.fd.res, k.fd.zr, rfl, rfl, rfl, Nat.zero_le _⟩, k.sr, by show SeqAt.shaped (.tuple []) = true; decide +kernel, k.ar, k.co⟩, by decide +kernel, (eW _).trans (lt _ _).symm, fun _ => ⟨rfl, by decide +kernel, by decide +kernel, by decide +kernel⟩⟩
  | 4, e => cases e; exact ⟨"cost", _, _, rfl, .cost _, ⟨k.fd, k.sr, k.sw, k.ar, by show countOk 99 (.int 0) = true; decide +kernel⟩, by decide +kernel, eC _, fun h => absurd h (by decide +kernel)⟩
  | j + 5, e => simp [rowsD] at e
theorem put_len {kvs : List (Key × V)} {x : Str} {u v : V} (h : valV kvs (.inr x : Key) = some v) : (putK kvs (.inr x : Key) u).length = kvs.length := by
  unfold putK
  rw [if_pos (by rw [valV_any, h]; rfl), List.length_map]
theorem q_forD {K : PySem.W.Frag} {H : Hp} {ds : List PyData} {ta : TA} {σ : L2.St} {g : TG} {tb tz : TS} {D : Ends} (h : DatA K ta σ ds) (n : ds.length ≤ sizeLine) (Pv : Nat → L2.St → Hp → Hp → Prop) (h0 : ∀ G, Pv 0 σ G G) (hl : ∀ j σ' G H', Pv j σ' G H' → Same G H')
    (hs : ∀ G, Same H G → ∀ (j : Nat) x d σ' H', ds[j]? = some d → Dp K G x d → Pv j σ' G H' → g x σ' H' fun σ2 H2 => tb { ({ D with nx := tz D } : Ends) with nx := fun σ3 H3 => Pv (j + 1) σ3 G H3, ct := fun σ3 H3 => Pv (j + 1) σ3 G H3, bk := ({ D with nx := tz D } : Ends).nx } σ2 H2)
    (hd : ∀ G σ' H', Same H G → Pv ds.length σ' G H' → tz D σ' H') : tSeq (tFor (iList K (tLst ta)) g tb) tz D σ H := by
  unfold tSeq tFor iList
  refine lst_new h n H _ fun l us H' s e i => ⟨l, rfl, ⟨_, .inl (.inl e)⟩, ?_⟩
  exact for_list (K := K) (a := l) (xs := us) (D := { D with nx := tz D }) (fun j σ' H'' => Pv j σ' H' H'') (h0 H') (fun j σ' H'' _ w => .inl (.inl (hl _ _ _ _ w _ _ e))) (fun j x σ' H'' hx w => by
    obtain ⟨c, hc, hr⟩ := dpA_at i hx
    exact hs H' s j x c σ' H'' hc hr w) (fun σ' H'' w => hd H' σ' H'' s (dpA_len i ▸ w))
theorem dat_rows {K : PySem.W.Frag} {σ : L2.St} : DatA K (tCons (tTup (tCons (tC (.str "result")) (tCons (tC (.int 2)) tNil))) (tCons (tTup (tCons (tC (.str "writes")) (tCons (tTup (tCons (tTup (tCons (tC (.str "z")) (tCons (tC (.int 1)) tNil))) (tCons (tTup (tCons (tC (.str "q")) (tCons (tTup (tCons (tC (.str "tick")) tNil)) tNil))) tNil))) tNil))) (tCons (tTup (tCons (tC (.str "cost")) (tCons (tC (.int 99)) tNil))) (tCons (tTup (tCons (tC (.str "writes")) (tCons (tLst tNil) tNil))) (tCons (tTup (tCons (tC (.str "cost")) (tCons (tC (.int 0)) tNil))) tNil))))) σ rowsD :=
  da_cons (dat_tup (da_cons dat_str (da_cons dat_int da_nil)) (Nat.le_of_ble_eq_true rfl)) (da_cons (dat_tup (da_cons dat_str (da_cons (dat_tup (da_cons (dat_tup (da_cons dat_str (da_cons dat_int da_nil)) (Nat.le_of_ble_eq_true rfl)) (da_cons (dat_tup (da_cons dat_str (da_cons (dat_tup (da_cons dat_str da_nil) (Nat.le_of_ble_eq_true rfl)) da_nil)) (Nat.le_of_ble_eq_true rfl)) da_nil)) (Nat.le_of_ble_eq_true rfl)) da_nil)) (Nat.le_of_ble_eq_true rfl))
    (da_cons (dat_tup (da_cons dat_str (da_cons dat_int da_nil)) (Nat.le_of_ble_eq_true rfl)) (da_cons (dat_tup (da_cons dat_str (da_cons (dat_lst da_nil (Nat.le_of_ble_eq_true rfl)) da_nil)) (Nat.le_of_ble_eq_true rfl)) (da_cons (dat_tup (da_cons dat_str (da_cons dat_int da_nil)) (Nat.le_of_ble_eq_true rfl)) da_nil))))
abbrev sCR : Stmt := topS 43
theorem scCR : FnScope ["_law_f", "_law_one", "_law_name", "_law_due", "_law_part", "_law_value", "_law_is_same"] ["_law_f", "_law_one"] (defScope sCR) := ⟨rfl, rfl, rfl, by decide +kernel, rfl, by decide +kernel, by decide +kernel⟩
def spCR (K : PySem.W.Frag) (CF CL : Addr) : Sp := fun vs H Q _ => ∃ (g a : Addr) (F : FX), vs = [.ref g, .ref a] ∧ DictF K H g F (.tuple F.d.ws) ∧ FunFull K H CF CL a F ∧ Small F ∧ ∀ H', Same H H' → Q (.bl true) H'
/-- a dict like another, with this put in its place -/
theorem dict_put {K : PySem.W.Frag} {H : Hp} {g : Addr} {kvs : List (Key × V)} {F G : FX} {dw dw' : PyData} {y : Str} {u : V} (hF : FXOk F ∧ entries dw = F.d.ws ∧ areWrites dw = true ∧ szD dw = true) (kG : FXOk G) (w1 : entries dw' = G.d.ws) (w2 : areWrites dw' = true) (w3 : szD dw' = true) (e : H g = some (.dK (putK kvs (.inr y : Key) u)))
    (h : ∃ (vr vw : V) (z : Str), valV (putK kvs (.inr y : Key) u) (.inr "name" : Key) = some (.str G.d.nm) ∧ valV (putK kvs (.inr y : Key) u) (.inr "many" : Key) = some (.int G.d.ar) ∧ valV (putK kvs (.inr y : Key) u) (.inr "result" : Key) = some vr ∧ Dp K H vr G.d.res ∧ valV (putK kvs (.inr y : Key) u) (.inr "writes" : Key) = some vw ∧ Dp K H vw dw' ∧
      valV (putK kvs (.inr y : Key) u) (.inr "cost" : Key) = some (.int G.cost) ∧ valV (putK kvs (.inr y : Key) u) (.inr "label" : Key) = some (.str z) ∧ labRow[G.lab]? = some z) (lk : (putK kvs (.inr y : Key) u).length ≤ 20) : DictF K H g G dw' := by
  obtain ⟨vr, vw, z, g1, g2, g3, g4, g5, g6, g7, g8, g9⟩ := h
  exact ⟨kG, w1, w2, w3, _, vr, vw, z, e, g1, g2, g3, g4, g5, g6, g7, g8, g9, lk⟩
theorem put_at {kvs : List (Key × V)} {y : Str} {u : V} : valV (putK kvs (.inr y : Key) u) (.inr y : Key) = some u := by rw [valV_put, if_pos rfl]
theorem put_ne {kvs : List (Key × V)} {x y : Str} {u v : V} (n : x ≠ y) (h : valV kvs (.inr x : Key) = some v) : valV (putK kvs (.inr y : Key) u) (.inr x : Key) = some v := by rw [valV_put, if_neg (fun e => n (Sum.inr.inj e)), h]
section
variable {P : Program} {w : World} {K : PySem.W.Frag} {mg : Str → Option Value} {base : Heap}
theorem ok_cr {CF CL CB CP CT fF gE w0 f fL fA fB fG : Addr} {fd fdF dE dL dA dB dG : FuncData} {gv0 : List Value → List Value → List Value} {gV0 : List V → List V → List V} (F0 : Fun K "_law_changes_right" "_law_changes_right" sCR f fd) (M : Blt mg) (U : FunQ P w K mg base CF CL CB CP CT fF gE w0 fdF dE gv0 gV0) (T : LabC K mg CL) (LM : LabM P w K mg base CL CB fL dL)
    (GA : FnOk P w K mg base (L2.CX P w) 8 fA dA ["self", "label"] (spLbl K CF CL)) (mA : Meth K CF "labelled" fA) (bA : Binds K dA ["self", "label"] [])
    (GB : FnOk P w K mg base (L2.CX P w) 8 fB dB ["self", "part", "value"] (spChg K CF CL CP)) (mB : Meth K CF "changed" fB) (bB : Binds K dB ["self", "part", "value"] [])
    (GG : FnOk P w K mg base CX0 8 fG dG ["_law_f"] (spLF K CF CL)) (kG : PySem.W.keepIn K (.ref fG) = true) (bG : Binds K dG ["_law_f"] []) (gG : mg "_law_function" = some (.ref fG)) : FnOk P w K mg base CX0 9 f fd ["_law_f", "_law_one"] (spCR K CF CL) := by
  refine F0.ok scCR (fun vs H Q E h => ?_) (fun cdv A outer s H vs Q E hr h => ?_)
  · obtain ⟨g, a, F, rfl, _⟩ := h
    rfl
  · obtain ⟨g, a, F, rfl, hD, hF, sm, q⟩ := h
    have hr2 : Room 2 (A.deeper (envOfC "_law_changes_right" (defScope sCR) s.heap.objs.size f cdv)) := hr.mono (by decide)
    have hr3 : Room 3 (A.deeper (envOfC "_law_changes_right" (defScope sCR) s.heap.objs.size f cdv)) := hr.mono (by decide)
    have hr4 : Room 4 (A.deeper (envOfC "_law_changes_right" (defScope sCR) s.heap.objs.size f cdv)) := hr.mono (by decide)
    have hu := hu_of hr
    refine ⟨_, pss_cons (ps_for PassesOwn.never rfl (pi_list (pe_lst (pa_cons pe_str (pa_cons pe_str (pa_cons pe_str (pa_cons pe_str pa_nil)))))) (pg_name (i := 2) scCR.nd rfl (.inl rfl))
        (pss_cons (ps_set (i := 3) scCR.nd rfl (.inl rfl) (pe_callTy call_dictD (by rfl) M.dict (by decide +kernel) (pa_cons (pv 0) pa_nil)))
        (pss_cons (ps_dput hu (pv 3) pe_str (pv 2) (by rfl))
        (pss_cons (ps_if (PW.pt (pw_or (pt_cmpR (op_neI U.ne_ U.so U.nf U.eq_ U.eqf U.eqo U.eqb hr3) (pe_meth (pv 1) U.cl mA GA hr bA .nil pass00 (pa_cons (pv 2) pa_nil)) (pe_call GG hr (by rfl) gG kG bG .nil pass0 (pa_cons (pv 3) pa_nil)) (nomark _))
            (pw_or1 (pt_cmpR (op_neI U.ne_ U.so U.nf U.eq_ U.eqf U.eqo U.eqb hr3) (pe_meth (pv 1) U.cl mA GA hr bA .nil pass00 (pa_cons (pe_make (dvs := []) LM.make LM.ok hr4 (by rfl) LM.gC LM.bi .nil pass00 (pa_cons (pv 2) pa_nil)) pa_nil)) (pe_call GG hr (by rfl) gG kG bG .nil pass0 (pa_cons (pv 3) pa_nil)) (nomark _))))) (pss_one (ps_ret pe_bl)) pss_nil)
        (pss_one (ps_if (pt_cmpR op_ne (pe_cmpR (op_ownI U.eq_ U.eqf U.eqo U.eqb hr2) (pe_meth (pv 1) U.cl mA GA hr bA .nil pass00 (pa_cons (pv 2) pa_nil)) (pv 1) (nomark _)) (pe_cmpR op_eq (pv 2) (pe_dget hu (pv 0) pe_str (fun _ _ => rfl)) (nomark _)) (nomark _)) (pss_one (ps_ret pe_bl)) pss_nil))))))
      (pss_cons (ps_for PassesOwn.never rfl (pi_list (pe_lst (pa_cons (pe_tup (pa_cons pe_str (pa_cons pe_int pa_nil))) (pa_cons (pe_tup (pa_cons pe_str (pa_cons (pe_tup (pa_cons (pe_tup (pa_cons pe_str (pa_cons pe_int pa_nil))) (pa_cons (pe_tup (pa_cons pe_str (pa_cons (pe_tup (pa_cons pe_str pa_nil)) pa_nil))) pa_nil))) pa_nil))) (pa_cons (pe_tup (pa_cons pe_str (pa_cons pe_int pa_nil))) (pa_cons (pe_tup (pa_cons pe_str (pa_cons (pe_lst pa_nil) pa_nil))) (pa_cons (pe_tup (pa_cons pe_str (pa_cons pe_int pa_nil))) pa_nil))))))) (pg_tup (by rfl) (pgs_cons (pg_name (i := 4) scCR.nd rfl (.inl rfl)) (pgs_cons (pg_name (i := 5) scCR.nd rfl (.inl rfl)) pgs_nil)))
        (pss_cons (ps_set (i := 3) scCR.nd rfl (.inl rfl) (pe_callTy call_dictD (by rfl) M.dict (by decide +kernel) (pa_cons (pv 0) pa_nil)))
        (pss_cons (ps_dput hu (pv 3) (pv 4) (pv 5) (by rfl))
        (pss_cons (ps_set (i := 6) scCR.nd rfl (.inl rfl) (pe_ifExp (pt_cmpR op_eq (pv 4) pe_str (nomark _)) (pe_cmpR (op_eqD hr.units) (pe_callTy call_list_of (by rfl) M.list (by decide +kernel) (pa_cons (pv 5) pa_nil)) (pe_callTy call_list_of (by rfl) M.list (by decide +kernel) (pa_cons (pe_dget hu (pv 0) (pv 4) (fun _ _ => rfl)) pa_nil)) (nomark _)) (pe_cmpR (op_eqD hr.units) (pv 5) (pe_dget hu (pv 0) (pv 4) (fun _ _ => rfl)) (nomark _))))
        (pss_one (ps_if (PW.pt (pw_or (pt_cmpR (op_neI U.ne_ U.so U.nf U.eq_ U.eqf U.eqo U.eqb hr3) (pe_meth (pv 1) U.cl mB GB hr bB .nil pass00 (pa_cons (pv 4) (pa_cons (pv 5) pa_nil))) (pe_call GG hr (by rfl) gG kG bG .nil pass0 (pa_cons (pv 3) pa_nil)) (nomark _))
            (pw_or1 (pt_cmpR op_ne (pe_cmpR (op_ownI U.eq_ U.eqf U.eqo U.eqb hr2) (pe_meth (pv 1) U.cl mB GB hr bB .nil pass00 (pa_cons (pv 4) (pa_cons (pv 5) pa_nil))) (pv 1) (nomark _)) (pv 6) (nomark _))))) (pss_one (ps_ret pe_bl)) pss_nil))))))
      (pss_one (ps_ret pe_bl))), ?_⟩
    obtain ⟨k, h1, h2, h3, kvs, ur, uw, zl, eg, n1, n2, n3, d3, n4, d4, n5, n6, lz, kl⟩ := id hD
    obtain ⟨_, dx, fs, vr, wa, la, e, l1, l2, l3, d1, l4, d2, l5, la1, l6, m1, m2, m3⟩ := id hF
    have D : ∀ {G : Hp}, Same H G → ∀ {y : Str} {v : V}, valV kvs (.inr y : Key) = some v → DGet G g (.str y) (some v) := by
      intro G s y v h
      exact .inl ⟨kvs, .inr y, .inl (s _ _ eg), rfl, h.symm⟩
    have ref1 := SeqAt.eqv_refl _ (SeqAt.canLay_of_shaped k.sr)
    have ref2 := SeqAt.eqv_refl _ (SeqAt.canLay_of_shaped k.sw)
    have mkL : ∀ {σ : L2.St} {G : Hp} {i : Nat} {lab : Option PyData} {tv : TA}, σ[1]? = some (some (V.ref a)) → Same H G → (∀ Q' : List V → Hp → Prop, (∀ v H', Same G H' → LabGiven H' CL v lab i → Q' [v] H') → tv σ G Q') → Makes K CF CL (tMeth CF "labelled" (spLbl K CF CL) [] (fun _ _ _ => False) (tVar 1) tv) σ G ⟨F.d, i, F.cost⟩ := by
      intro σ G i lab tv at_ s h Q q
      exact ⟨.ref a, at_, a, dx, fs, rfl, s _ _ e, m1, h _ fun v H' s' lg => ⟨a, v, F, lab, i, rfl, hF.same (s.trans s'), lg, fun x H'' s'' f => q x H'' (s'.trans s'') f⟩⟩
    have mkG : ∀ {σ : L2.St} {G : Hp} {g2 : Addr} {G' : FX} {dw : PyData}, σ[3]? = some (some (V.ref g2)) → DictF K G g2 G' dw → Makes K CF CL (tCall (spLF K CF CL) [] E0 (tCons (tVar 3) tNil)) σ G G' := by
      intro σ G g2 G' dw at_ hd Q q
      exact ⟨.ref g2, at_, g2, G', dw, rfl, hd, fun x H' s f => q x H' s f⟩
    -- the four labels
    refine ⟨by show 4 ≤ sizeLine; decide, fun l nl => ⟨l, rfl, ⟨_, .inl (.inl upd_same)⟩, ?_⟩⟩
    have s1 := same_upd (o := HO.lst (labRow.map V.str)) nl
    have el : (upd H l (HO.lst (labRow.map V.str))) l = some (.lst (labRow.map V.str)) := upd_same
    refine for_list (K := K) (a := l) (xs := labRow.map V.str) (fun j σ H' => ∃ y2 y3, σ = [some (.ref g), some (.ref a), y2, y3, none, none, none] ∧ Same (upd H l (HO.lst (labRow.map V.str))) H') ⟨_, _, rfl, Same.refl _⟩ (fun j σ H' _ w => by obtain ⟨_, _, _, s⟩ := w; exact .inl (.inl (s _ _ el))) (fun j v σ G hv w => ?_) (fun σ G w => ?_)
    · obtain ⟨y2, y3, rfl, s2⟩ := w
      rw [List.getElem?_map] at hv
      obtain ⟨nm, hnm, rfl⟩ := Option.map_eq_some_iff.mp hv
      have t2 := s1.trans s2
      dsimp only [gName, List.set]
      refine ⟨.ref g, rfl, g, kvs, rfl, .inl (t2 _ _ eg), fun g2 ng2 => ?_⟩
      dsimp only [gName, List.set]
      refine ⟨.str nm, rfl, .ref g2, rfl, g2, _, rfl, .inl ⟨kvs, .inr "label", upd_same, rfl, Nat.lt_of_le_of_lt kl (by decide), rfl⟩, ?_⟩
      have s3 : Same G (upd (upd G g2 (.dK kvs)) g2 (.dK (putK kvs (.inr "label" : Key) (.str nm)))) := fun b o e => by
        rw [upd_ne (ne_of_none e ng2), upd_ne (ne_of_none e ng2)]
        exact e
      have t3 := t2.trans s3
      have k2 : FXOk ⟨F.d, j, F.cost⟩ := ⟨k.fd, k.sr, k.sw, k.ar, k.co⟩
      have due : DictF K (upd (upd G g2 (.dK kvs)) g2 (.dK (putK kvs (.inr "label" : Key) (.str nm)))) g2 ⟨F.d, j, F.cost⟩ (.tuple F.d.ws) := dict_put ⟨k, h1, h2, h3⟩ k2 rfl h2 h3 upd_same ⟨ur, uw, nm, put_ne (by decide +kernel) n1, put_ne (by decide +kernel) n2, put_ne (by decide +kernel) n3, dp_same t3 d3, put_ne (by decide +kernel) n4, dp_same t3 d4, put_ne (by decide +kernel) n5, put_at, hnm⟩ (by rw [put_len n6]; exact kl)
      generalize upd (upd G g2 (.dK kvs)) g2 (.dK (putK kvs (.inr "label" : Key) (.str nm))) = G3 at s3 t3 due
      refine nf_or (nf_fun k2 (mkL (i := j) (lab := some (.str nm)) rfl t3 (fun Q' q' => ⟨.str nm, rfl, q' _ _ (Same.refl _) (.inr ⟨nm, rfl, rfl, hnm⟩)⟩)) (fun G4 s4 => mkG rfl (due.same s4))) (fun G5 s5 => ?_)
      refine nf_if (nf_fun k2 (mkL (i := j) (lab := none) rfl (t3.trans s5) (fun Q' q' => lab_te hnm (fun Q'' q'' => ⟨.str nm, rfl, q''⟩) fun x H' s l => q' _ _ s (.inl ⟨x, rfl, rfl, l⟩))) (fun G6 s6 => mkG rfl (due.same (s5.trans s6)))) (fun G6 s6 => ?_)
      dsimp only [tNext]
      have eb : eqFX ⟨F.d, j, F.cost⟩ F = decide (V.str nm = V.str zl) := by
        unfold eqFX
        dsimp only
        rw [decide_eq_true rfl, decide_eq_true rfl, decide_eq_true rfl, ref1, ref2]
        by_cases hj : j = F.lab
        · have ez : nm = zl := by
            rw [hj, lz] at hnm
            exact (Option.some.inj hnm).symm
          rw [decide_eq_true hj, decide_eq_true (by rw [ez])]
          rfl
        · rw [decide_eq_false hj, decide_eq_false (fun z => hj (labRow_inj hnm (by rw [V.str.inj z]; exact lz)))]
          rfl
      refine nf_if (nf_same (i := 1) rfl (hF.same ((t3.trans s5).trans s6)) (mkL (i := j) (lab := some (.str nm)) rfl ((t3.trans s5).trans s6) (fun Q' q' => ⟨.str nm, rfl, q' _ _ (Same.refl _) (.inr ⟨nm, rfl, rfl, hnm⟩)⟩)) eb (fun G7 s7 Q' q' => ⟨.str nm, rfl, .ref g, rfl, g, _, rfl, D (((t3.trans s5).trans s6).trans s7) n6, rfl, q' _ (Same.refl _)⟩)) (fun G7 s7 => ?_)
      exact ⟨_, _, rfl, s2.trans (s3.trans (s5.trans (s6.trans s7)))⟩
    obtain ⟨y2, y3, rfl, s2⟩ := w
    have t2 := s1.trans s2
    clear s1 s2 el
    -- the five parts
    refine q_forD dat_rows (by show 5 ≤ sizeLine; decide) (fun j σ G H' => ∃ y3 y4 y5 y6, σ = [some (.ref g), some (.ref a), y2, y3, y4, y5, y6] ∧ Same G H') (fun G' => ⟨_, _, _, _, rfl, Same.refl _⟩) (fun j σ G' H' w => by obtain ⟨_, _, _, _, _, s⟩ := w; exact s) (fun G1 s1 j x d σ G2 hd hx w => ?_) (fun G1 σ G2 s1 w => ?_)
    · obtain ⟨y3', y4, y5, y6, rfl, s3⟩ := w
      obtain ⟨z, ed, G', rfl, ch, kG', she, eb, hwr⟩ := row_chg k j d hd
      have hx2 := dp_same s3 hx
      cases hx2 with
      | @tup t ys _ ht hy =>
      obtain ⟨v0, u, rfl, hv0, hu0⟩ := dp_pair hy
      cases hv0
      have t3 := t2.trans (s1.trans s3)
      refine ⟨t, _, rfl, ht, rfl, _, _, rfl, _, _, rfl, rfl, ?_⟩
      refine ⟨.ref g, rfl, g, kvs, rfl, .inl (t3 _ _ eg), fun g2 ng2 => ?_⟩
      dsimp only [gName, List.set]
      refine ⟨u, rfl, .ref g2, rfl, .str z, rfl, g2, _, rfl, .inl ⟨kvs, .inr z, upd_same, rfl, Nat.lt_of_le_of_lt kl (by decide), rfl⟩, ?_⟩
      have s4 : Same G2 (upd (upd G2 g2 (.dK kvs)) g2 (.dK (putK kvs (.inr z : Key) u))) := fun b o e => by
        rw [upd_ne (ne_of_none e ng2), upd_ne (ne_of_none e ng2)]
        exact e
      have t4 := t3.trans s4
      have hu4 := dp_same s4 hu0
      have due : ∃ dw', DictF K (upd (upd G2 g2 (.dK kvs)) g2 (.dK (putK kvs (.inr z : Key) u))) g2 G' dw' := by
        cases ch with
        | res d => exact ⟨.tuple F.d.ws, dict_put ⟨k, h1, h2, h3⟩ kG' rfl h2 h3 upd_same ⟨u, uw, zl, put_ne (by decide +kernel) n1, put_ne (by decide +kernel) n2, put_at, hu4, put_ne (by decide +kernel) n4, dp_same t4 d4, put_ne (by decide +kernel) n5, put_ne (by decide +kernel) n6, lz⟩ (by rw [put_len n3]; exact kl)⟩
        | ws _ hw zw => exact ⟨ed, dict_put ⟨k, h1, h2, h3⟩ kG' rfl hw zw upd_same ⟨ur, u, zl, put_ne (by decide +kernel) n1, put_ne (by decide +kernel) n2, put_ne (by decide +kernel) n3, dp_same t4 d3, put_at, hu4, put_ne (by decide +kernel) n5, put_ne (by decide +kernel) n6, lz⟩ (by rw [put_len n4]; exact kl)⟩
        | cost c =>
          cases hu0
          exact ⟨.tuple F.d.ws, dict_put ⟨k, h1, h2, h3⟩ kG' rfl h2 h3 upd_same ⟨ur, uw, zl, put_ne (by decide +kernel) n1, put_ne (by decide +kernel) n2, put_ne (by decide +kernel) n3, dp_same t4 d3, put_ne (by decide +kernel) n4, dp_same t4 d4, put_at, put_ne (by decide +kernel) n6, lz⟩ (by rw [put_len n5]; exact kl)⟩
      obtain ⟨dw', due⟩ := due
      generalize upd (upd G2 g2 (.dK kvs)) g2 (.dK (putK kvs (.inr z : Key) u)) = G4 at s4 t4 hu4 due
      dsimp only
      refine q_asgP (Pr := fun v H' => v = .bl (eqFX G' F) ∧ Same G4 H') (fun Q' hq => ?_) (fun v G5 hv => ?_)
      · refine ⟨.str z, rfl, rfl, _, rfl, ?_⟩
        have shW : SeqAt.shaped (.list F.d.ws) = true := shaped_list fun d hd => ⟨lay_of sm.w1 d hd, Nat.le_trans (dep_of sm.w2 d hd) (by decide)⟩
        rw [eb] at hq
        cases ch with
        | res d =>
          refine iteDN (by decide +kernel) ⟨u, rfl, .ref g, rfl, .str "result", rfl, g, _, rfl, D t4 n3, ed, F.d.res, hu4, dp_same t4 d3, she, k.sr, hq _ _ ⟨?_, Same.refl _⟩⟩
          rfl
        | cost c =>
          refine iteDN (by decide +kernel) ⟨u, rfl, .ref g, rfl, .str "cost", rfl, g, _, rfl, D t4 n5, .int c, .int F.cost, hu4, .int _, she, (by show SeqAt.shaped (.int F.cost) = true; rfl), hq _ _ ⟨?_, Same.refl _⟩⟩
          rfl
        | ws _ hw zw =>
          obtain ⟨hsq, shl, _, _⟩ := hwr rfl
          obtain ⟨p2, ps, eu, hps, hdps⟩ : ∃ (p2 : Addr) (ps : List V), u = .ref p2 ∧ (SqL K G4 p2 ps ∨ SqT K G4 p2 ps) ∧ DpAll K G4 ps (entries ed) := by
            cases hu4 with
            | lst a1 a2 => exact ⟨_, _, rfl, .inl a1, a2⟩
            | tup a1 a2 => exact ⟨_, _, rfl, .inr a1, a2⟩
            | non => cases hsq
            | bl b => cases hsq
            | int b => cases hsq
            | str b => cases hsq
          subst eu
          have d4' := dp_same t4 d4
          cases d4' with
          | @tup wb zs _ hs hds =>
          refine iteD rfl ⟨.ref p2, rfl, p2, ps, rfl, hps, fun q1 m1' => ?_⟩
          have r1 := same_upd (o := HO.lst ps) m1'
          refine ⟨.ref g, rfl, .str "writes", rfl, g, .ref wb, rfl, D (t4.trans r1) n4, wb, zs, rfl, .inr (same_sqT r1 hs), fun q2 m2' => ?_⟩
          have r2 := same_upd (o := HO.lst zs) m2'
          refine ⟨.list (entries ed), .list F.d.ws, .lst (.inl (.inl (r2 _ _ upd_same))) (dpA_same (r1.trans r2) hdps), .lst (.inl (.inl upd_same)) (dpA_same (r1.trans r2) hds), shl, shW, hq _ _ ⟨?_, r1.trans r2⟩⟩
          rfl
      · obtain ⟨rfl, s5⟩ := hv
        have t5 := t4.trans s5
        dsimp only [gName, List.set]
        have mkC : ∀ {G : Hp}, Same G5 G → Makes K CF CL (tMeth CF "changed" (spChg K CF CL CP) [] (fun _ _ _ => False) (tVar 1) (tCons (tVar 4) (tCons (tVar 5) tNil))) [some (.ref g), some (.ref a), y2, some (.ref g2), some (.str z), some u, some (.bl (eqFX G' F))] G G' := by
          intro G s Q q
          exact ⟨.ref a, rfl, a, dx, fs, rfl, (t5.trans s) _ _ e, m2, .str z, rfl, u, rfl, a, .str z, u, F, rfl, hF.same (t5.trans s), .inl ⟨z, ed, G', rfl, dp_same (s5.trans s) hu4, ch, kG', fun x H' s f => q x H' s f⟩⟩
        refine nf_or (nf_fun kG' (mkC (Same.refl _)) (fun G6 s6 => mkG rfl (due.same (s5.trans s6)))) (fun G6 s6 => ?_)
        refine nf_if (nf_same (i := 1) rfl (hF.same (t5.trans s6)) (mkC s6) rfl (fun G7 s7 Q' q' => ⟨.bl _, rfl, q' _ (Same.refl _)⟩)) (fun G7 s7 => ?_)
        exact ⟨_, _, _, _, rfl, s3.trans (s4.trans (s5.trans (s6.trans s7)))⟩
    · obtain ⟨y3', y4, y5, y6, rfl, s3⟩ := w
      exact q _ (t2.trans (s1.trans s3))
end
/-! ### the law of Functions told -/
theorem gd_geo {n : Int} : ∀ (f k : Nat) (d : PyData) (m : Nat), Gd n f d → 2 * m + 1 = 3 ^ f → szF k d ≤ m
  | 0, _, _, _, h, _ => nomatch h
  | f + 1, 0, d, m, h, e => by
    show 0 ≤ m
    omega
  | f + 1, k + 1, d, m, h, e => by
    obtain ⟨ht, hl⟩ := gd_inner h
    obtain ⟨r, hr⟩ : ∃ r, 2 * r + 1 = 3 ^ f := by
      have : 3 ^ f % 2 = 1 := by
        clear ht hl h e
        induction f with
        | zero => rfl
        | succ f ih => rw [Nat.pow_succ]; omega
      exact ⟨3 ^ f / 2, by omega⟩
    have each : ∀ x ∈ (inner d).map (szF k), x ≤ r := fun x hx => by
      obtain ⟨t, htm, rfl⟩ := List.mem_map.mp hx
      exact gd_geo f k t r (ht t htm) hr
    have sum_le : ∀ l : List Nat, (∀ x ∈ l, x ≤ r) → l.sum ≤ l.length * r := by
      intro l
      induction l with
      | nil => intro _; exact Nat.zero_le _
      | cons a l ih =>
        intro h
        rw [List.sum_cons, List.length_cons, Nat.succ_mul]
        have := h a List.mem_cons_self
        have := ih fun x hx => h x (List.mem_cons_of_mem _ hx)
        omega
    have h2 := sum_le _ each
    rw [List.length_map] at h2
    have h3 : (inner d).length * r ≤ 3 * r := Nat.mul_le_mul_right r hl
    rw [Nat.pow_succ] at e
    show 1 + ((inner d).map (szF k)).sum ≤ m
    omega
theorem gdm {n : Int} : ∀ (f f' : Nat) (d : PyData), Gd n f d → f ≤ f' → Gd n f' d
  | 0, _, _, h, _ => nomatch h
  | f + 1, 0, _, _, h => absurd h (Nat.not_succ_le_zero f)
  | f + 1, f' + 1, d, h, hf => by
    cases h with
    | val a b => exact .val a b
    | arg a b => exact .arg a b
    | cell a => exact .cell a
    | tick => exact .tick
    | call a b c => exact .call a b fun t ht => gdm f f' t (c t ht) (by omega)
    | op a c => exact .op a fun t ht => gdm f f' t (c t ht) (by omega)
theorem gd_term {n : Int} {f : Nat} {d : PyData} (h : Gd n f d) (hf : f ≤ 3) : isTerm n d = true := by
  rw [gd_isTerm h (by omega)]
  have h13 : sz9 d ≤ 13 := by
    have h3 : Gd n 3 d := gdm f 3 d h hf
    exact gd_geo 3 9 d 13 h3 rfl
  exact decide_eq_true (by omega)
theorem lok_take {cells : List (Str × Str)} {fs : List FDr} (o : LOk (lbOf cells fs)) (i : Nat) : LOk (lbOf cells (fs.take i)) where
  c := o.c
  f := fun x hx => by
    obtain ⟨F, hF, rfl⟩ := List.mem_map.mp hx
    exact o.f _ (List.mem_map.mpr ⟨F, List.mem_of_mem_take hF, rfl⟩)
  lc := o.lc
  lf := by
    have h := o.lf
    show ((fs.take i).map _).length ≤ 8
    rw [List.length_map, List.length_take]
    have h2 : (fs.map fun F => (F.nm, F.many)).length ≤ 8 := h
    rw [List.length_map] at h2
    omega
/-- a drawn function, as a whole Function -/
theorem fx_of {K : PySem.W.Frag} {cells : List (Str × Str)} {prev : List FDr} {F : FDr} (o : LOk (lbOf cells prev)) (h : FOk 2 cells prev F) : ∃ X : FX, FXOk X ∧ Small X ∧ ∀ (H : Hp) (v : V), FDrAt K H v F → ∃ g, v = .ref g ∧ DictF K H g X (.tuple X.d.ws) := by
  obtain ⟨i, hi⟩ := List.getElem?_of_mem (show F.label ∈ labRow from h.lab)
  have gd := gdl_gd o _ _ h.res
  have lay := gd_lay 3 _ gd
  have ws : ∃ ws, F.ws = .tuple ws ∧ writesGo [] ws = true ∧ badTerm F.many ws = none ∧ szDs ws = true ∧ ws.length ≤ 3 ∧ PyData.canLayAll0 ws = true ∧ PyData.depthAll ws ≤ 20 := by
    rcases h.ws with e | ⟨z, t, e, hz, gt⟩
    · exact ⟨[], e, rfl, rfl, rfl, Nat.zero_le _, by simp [PyData.canLayAll0], by simp [PyData.depthAll]⟩
    · have hn := (o.c _ hz).1
      have g2 := gdl_gd o _ _ gt
      have l2 := gd_lay 2 _ g2
      refine ⟨[.tuple [.str z, t]], e, ?_, ?_, ?_, by show 1 ≤ 3; decide, ?_, ?_⟩
      · have e1 : entryOk [] (.tuple [.str z, t]) = some z := by
          show (if (isName (.str z) && !decide (z ∈ ([] : List Str))) = true then some z else none) = some z
          rw [hn]
          rfl
        unfold writesGo
        rw [e1]
        rfl
      · show (if isTerm F.many t then none else some t) = none
        rw [gd_term g2 (by decide)]
        rfl
      · show ((true && (szD (.str z) && (szD t && true))) && true) = true
        rw [name_sz hn, gd_sz 2 t g2]
        rfl
      · have : PyData.canLayAll0 [.tuple [.str z, t]] = true := canLay_of fun d hd => by
          rw [List.mem_singleton.mp hd]
          show (PyData.strOk z && (t.canLay0 && true)) = true
          rw [name_ok hn, l2.1]
          rfl
        exact this
      · refine depth_of fun d hd => ?_
        rw [List.mem_singleton.mp hd]
        show max 0 (max t.depth 0) + 1 ≤ 20
        have := l2.2
        omega
  obtain ⟨ws, ew, w1, w2, w3, w4, w5, w6⟩ := ws
  have mo : F.many = 0 ∨ F.many = 1 ∨ F.many = 2 := by have := h.many; omega
  have shw : SeqAt.shaped (.tuple ws) = true := Bool.and_eq_true_iff.mpr ⟨w5, decide_eq_true (by show PyData.depthAll ws + 1 ≤ 64; omega)⟩
  have k : FXOk ⟨⟨F.nm, F.many, F.res, ws⟩, i, F.cost⟩ := ⟨⟨h.nm, gd_term gd (by decide), gd_sz _ _ gd, w1, w2, w3, w4⟩, gd_shaped gd (by decide), shw, by rcases mo with e | e | e <;> rw [e] <;> rfl, by
    show (decide (0 ≤ F.cost) && decide (F.cost ≤ 99)) = true
    rw [decide_eq_true h.c0, decide_eq_true (by have := h.c9; omega)]
    rfl⟩
  refine ⟨⟨⟨F.nm, F.many, F.res, ws⟩, i, F.cost⟩, k, ⟨lay.1, by have := lay.2; show F.res.depth ≤ 20; omega, w5, w6⟩, fun H v hv => ?_⟩
  obtain ⟨g, vr, vw, rfl, e, d1, d2, _⟩ := hv
  rw [ew] at d2
  exact ⟨g, rfl, k, rfl, tup_writes k, tup_sz k, _, vr, vw, F.label, e, rfl, rfl, rfl, d1, rfl, d2, rfl, rfl, hi, by show 6 ≤ 20; decide⟩
abbrev sLaw : Stmt := topS 44
theorem scLaw : FnScope ["_law_script", "_law_k", "_law_pool_here", "_law_f", "_law_one", "_law_mate"] ["_law_script"] (defScope sLaw) := ⟨rfl, rfl, rfl, by decide +kernel, rfl, by decide +kernel, by decide +kernel⟩
def spLaw (K : PySem.W.Frag) : Sp := fun vs H Q _ => ∃ (a : Addr) (ns : List Int), vs = [.ref a] ∧ SqL K H a (ns.map V.int) ∧ ns.length ≤ 63 ∧ ∀ H', Q (.bl true) H'
section
variable {P : Program} {w : World} {K : PySem.W.Frag} {mg : Str → Option Value} {base : Heap}
theorem ok_law {CF CL CB CP CT fF gE w0 fPl fB fG fR fC f : Addr} {fd fdF dE dPl dB dG dR dC : FuncData} {gv0 : List Value → List Value → List Value} {gV0 : List V → List V → List V} (F : Fun K "law" "law" sLaw f fd) (M : Blt mg) (U : FunQ P w K mg base CF CL CB CP CT fF gE w0 fdF dE gv0 gV0)
    (FPl : Fun K "_law_pool" "_law_pool" sPool fPl dPl) (bPl : Binds K dPl ["_law_script", "_law_k"] []) (gPl : mg "_law_pool" = some (.ref fPl))
    (GB : FnOk P w K mg base CX0 8 fB dB ["_law_pool_here", "_law_most", "_law_deep"] (spLB K)) (kB : PySem.W.keepIn K (.ref fB) = true) (bB : Binds K dB ["_law_pool_here", "_law_most", "_law_deep"] []) (gB : mg "_law_book" = some (.ref fB))
    (GG : FnOk P w K mg base CX0 8 fG dG ["_law_f"] (spLF K CF CL)) (kG : PySem.W.keepIn K (.ref fG) = true) (bG : Binds K dG ["_law_f"] []) (gG : mg "_law_function" = some (.ref fG))
    (GR : FnG P w K mg base 10 fR dR ["_law_f", "_law_one"] (spOR K CF CL)) (kR : PySem.W.keepIn K (.ref fR) = true) (bR : Binds K dR ["_law_f", "_law_one"] []) (gR : mg "_law_one_right" = some (.ref fR))
    (GC : FnOk P w K mg base CX0 9 fC dC ["_law_f", "_law_one"] (spCR K CF CL)) (kC : PySem.W.keepIn K (.ref fC) = true) (bC : Binds K dC ["_law_f", "_law_one"] []) (gC : mg "_law_changes_right" = some (.ref fC)) : FnG P w K mg base 11 f fd ["_law_script"] (spLaw K) := by
  have GP := ok_pool (P := P) (w := w) (base := base) FPl M
  refine Fun.okG F scLaw (fun vs H Q h => ?_) (fun cdv A outer s H vs Q gu hr h => ?_)
  · obtain ⟨a, ns, rfl, _⟩ := h
    rfl
  · obtain ⟨a, ns, rfl, hS, hlen, q⟩ := h
    have hr1 : Room 1 (A.deeper (envOfC "law" (defScope sLaw) s.heap.objs.size f cdv)) := hr.mono (by decide)
    have hr2 : Room 2 (A.deeper (envOfC "law" (defScope sLaw) s.heap.objs.size f cdv)) := hr.mono (by decide)
    have hr3 : Room 3 (A.deeper (envOfC "law" (defScope sLaw) s.heap.objs.size f cdv)) := hr.mono (by decide)
    have hr8 : Room 8 (A.deeper (envOfC "law" (defScope sLaw) s.heap.objs.size f cdv)) := hr.mono (by decide)
    have hr9 : Room 9 (A.deeper (envOfC "law" (defScope sLaw) s.heap.objs.size f cdv)) := hr.mono (by decide)
    have hr10 : Room 10 (A.deeper (envOfC "law" (defScope sLaw) s.heap.objs.size f cdv)) := hr.mono (by decide)
    have hu := hu_of hr
    refine ⟨_, pss_cons (ps_for PassesOwn.never rfl (pi_range1 (by rfl) M.range (pa_cons (pe_callB (call_max2 rfl) (by rfl) M.max (by decide +kernel) (pa_cons pe_int (pa_cons (pe_callB (call_min2 rfl) (by rfl) M.min (by decide +kernel) (pa_cons (pe_callB call_len_seq (by rfl) M.len PySem.boot_len (pa_cons (pv 0) pa_nil)) (pa_cons pe_int pa_nil))) pa_nil))) pa_nil)) (pg_name (i := 1) scLaw.nd rfl (.inl rfl))
        (pss_cons (ps_set (i := 2) scLaw.nd rfl (.inl rfl) (pe_call GP hr1 (by rfl) gPl FPl.kp bPl .nil pass0 (pa_cons (pv 0) (pa_cons (pv 1) pa_nil))))
        (pss_one (ps_for PassesOwn.never rfl (pi_list (pe_dget hu (pe_call GB hr8 (by rfl) gB kB bB .nil pass0 (pa_cons (pv 2) (pa_cons pe_int (pa_cons pe_int pa_nil)))) pe_str (fun _ _ => rfl))) (pg_name (i := 3) scLaw.nd rfl (.inl rfl))
          (pss_cons (ps_set (i := 4) scLaw.nd rfl (.inl rfl) (pe_call GG hr8 (by rfl) gG kG bG .nil pass0 (pa_cons (pv 3) pa_nil)))
          (pss_cons (ps_if (PW.pt (pw_or (pt_not (pt_val (pe_callG GR gu hr10 (by rfl) gR kR bR (pa_cons (pv 3) (pa_cons (pv 4) pa_nil))))) (pw_or (pt_not (pt_val (pe_call GC hr9 (by rfl) gC kC bC .nil pass0 (pa_cons (pv 3) (pa_cons (pv 4) pa_nil)))))
              (pw_or1 (pt_cmpR (op_neI U.ne_ U.so U.nf U.eq_ U.eqf U.eqo U.eqb hr3) (pv 4) (pe_call GG hr8 (by rfl) gG kG bG .nil pass0 (pa_cons (pv 3) pa_nil)) (nomark _)))))) (pss_one (ps_ret pe_bl)) pss_nil)
          (pss_cons (ps_set (i := 5) scLaw.nd rfl (.inl rfl) (pe_callTy call_dictD (by rfl) M.dict (by decide +kernel) (pa_cons (pv 3) pa_nil)))
          (pss_cons (ps_dput hu (pv 5) pe_str (pe_ifExp (pt_cmpR op_eq (pe_dget hu (pv 3) pe_str (fun _ _ => rfl)) pe_str (nomark _)) pe_str pe_str) (by rfl))
          (pss_one (ps_if (pt_cmpR (op_ownI U.eq_ U.eqf U.eqo U.eqb hr2) (pe_call GG hr8 (by rfl) gG kG bG .nil pass0 (pa_cons (pv 5) pa_nil)) (pv 4) (nomark _)) (pss_one (ps_ret pe_bl)) pss_nil))))))))))
      (pss_one (ps_ret pe_bl)), ?_⟩
    refine ⟨.ref a, rfl, a, _, rfl, .inl hS, _, _, rfl, _, _, rfl, _, rfl, range_bounds.1, range_bounds.2, ?_⟩
    refine for_range (lo := 0) (n := _) (fun i σ H' => ∃ y1 y2 y3 y4 y5, σ = [some (.ref a), y1, y2, y3, y4, y5] ∧ Same H H')
      ⟨none, none, none, none, none, rfl, Same.refl H⟩ (fun i σ H0 hi hW => ?_) (fun σ H0 hW => q H0)
    obtain ⟨y1, y2, y3, y4, y5, rfl, s0⟩ := hW
    have ht := turns hi
    rw [List.length_map] at ht
    refine ⟨.ref a, rfl, _, rfl, a, ns, i, (by show ([V.ref a, V.int (0 + (i : Int))] : List V) = _; rw [Int.zero_add]), s0.seq hS, ht.1, ht.2.imp id (fun e => List.eq_nil_of_length_eq_zero e), fun H1 p np s1 hp => ?_⟩
    have nHp : H p = none := s0.free np
    dsimp only [gName, List.set]
    refine ⟨.ref p, rfl, p, 3, 2, rfl, hp, by decide, by decide, by decide, fun b words cells fs H2 b2 hp2 lw wn wnd wln bk ok lf nb => ?_⟩
    have s2 : Same H H2 := same_but (s0.trans s1) nHp b2
    obtain ⟨cc, ff, ts, gs, f0, f1, f4, r1, r2⟩ := id bk
    have L1 := ok.lok wn
    refine ⟨b, .ref ff, rfl, dg f0 "functions" rfl, ff, rfl, ⟨_, .inl (.inl f4)⟩, ?_⟩
    refine for_list (K := K) (a := ff) (xs := gs) (fun j σ H' => ∃ y3 y4 y5, σ = [some (.ref a), some (.int (0 + (i : Int))), some (.ref p), y3, y4, y5] ∧ Same H2 H') ⟨_, _, _, rfl, Same.refl _⟩ (fun j σ H' _ w => by obtain ⟨_, _, _, _, s⟩ := w; exact .inl (.inl (s _ _ f4))) (fun j v σ H3 hv w => ?_) (fun σ H3 w => ?_)
    · obtain ⟨y3', y4', y5', rfl, s3⟩ := w
      have hj : j < fs.length := by
        have := (List.getElem?_eq_some_iff.mp hv).1
        rw [r2.1] at this
        exact this
      have hF0 := List.getElem?_eq_getElem hj
      have hFr := r2.2 j v _ hv hF0
      obtain ⟨X, kX, sX, mkD⟩ := fx_of (K := K) (lok_take L1 j) (ok.fn j _ hF0).2
      obtain ⟨g, rfl, hD2⟩ := mkD H2 v hFr
      have hD := hD2.same s3
      dsimp only [gName, List.set]
      refine q_asgP (Pr := fun v H' => ∃ x, v = .ref x ∧ Same H3 H' ∧ FunFull K H' CF CL x X) (fun Q' hq => ⟨.ref g, rfl, g, X, _, rfl, hD, fun x H' s f => hq _ _ ⟨x, rfl, s, f⟩⟩) (fun v H4 hv => ?_)
      obtain ⟨x, rfl, s4, hX⟩ := hv
      have hD4 := hD.same s4
      dsimp only [gName, List.set]
      refine ⟨.ref g, rfl, .ref x, rfl, g, x, X, rfl, hD4, hX, sX, fun H5 s5 => ⟨_, rfl, iteF ?_⟩⟩
      refine ⟨.ref g, rfl, .ref x, rfl, g, x, X, rfl, hD4.same s5, hX.same s5, sX, fun H6 s6 => ⟨_, rfl, iteF ?_⟩⟩
      have t6 := s5.trans s6
      refine nf_if (nf_fun (G := X) kX (fun Q' q' => ⟨.ref x, rfl, q' x H6 (Same.refl _) (hX.same t6)⟩) (fun H7 s7 Q' q' => ⟨.ref g, rfl, g, X, _, rfl, hD4.same (t6.trans s7), fun x H' s f => q' x H' s f⟩)) (fun H7 s7 => ?_)
      dsimp only [tNext]
      have t7 := t6.trans s7
      have hD7 := hD4.same t7
      obtain ⟨_, w1, w2, w3, kvs, ur, uw, zl, eg, n1, n2, n3, d3, n4, d4, n5, n6, lz, kl⟩ := id hD7
      refine ⟨.ref g, rfl, g, kvs, rfl, .inl eg, fun g2 ng2 => ?_⟩
      dsimp only [gName, List.set]
      have eg1 : (upd H7 g2 (.dK kvs)) g = some (.dK kvs) := same_upd ng2 _ _ eg
      refine ⟨.ref g, rfl, g, _, rfl, .inl ⟨kvs, .inr "name", .inl eg1, rfl, n1.symm⟩, rfl, _, rfl, ?_⟩
      by_cases h : X.d.nm = "z"
      case' pos =>
        rw [decide_eq_true (show V.str X.d.nm = V.str "z" by rw [h])]
        refine iteT ?_
        have hnm : isName (.str "q") = true := by decide +kernel
        have hne : ("q" : Str) ≠ X.d.nm := by rw [h]; decide +kernel
        generalize ("q" : Str) = nm at hnm hne ⊢
      case' neg =>
        rw [decide_eq_false (show ¬ V.str X.d.nm = V.str "z" from fun e => h (V.str.inj e))]
        refine iteF ?_
        have hnm : isName (.str "z") = true := by decide +kernel
        have hne : ("z" : Str) ≠ X.d.nm := fun e => h e.symm
        generalize ("z" : Str) = nm at hnm hne ⊢
      all_goals
        refine ⟨.ref g2, rfl, g2, _, rfl, .inl ⟨kvs, .inr "name", upd_same, rfl, Nat.lt_of_le_of_lt kl (by decide), rfl⟩, ?_⟩
        have s8 : Same H7 (upd (upd H7 g2 (.dK kvs)) g2 (.dK (putK kvs (.inr "name" : Key) (.str nm)))) := fun b o e => by
          rw [upd_ne (ne_of_none e ng2), upd_ne (ne_of_none e ng2)]
          exact e
        have kM : FXOk ⟨⟨nm, X.d.ar, X.d.res, X.d.ws⟩, X.lab, X.cost⟩ := ⟨⟨hnm, kX.fd.res, kX.fd.zr, kX.fd.ws, kX.fd.bt, kX.fd.zw, kX.fd.few⟩, kX.sr, kX.sw, kX.ar, kX.co⟩
        have due : DictF K (upd (upd H7 g2 (.dK kvs)) g2 (.dK (putK kvs (.inr "name" : Key) (.str nm)))) g2 ⟨⟨nm, X.d.ar, X.d.res, X.d.ws⟩, X.lab, X.cost⟩ (.tuple X.d.ws) := dict_put ⟨kX, w1, w2, w3⟩ kM rfl w2 w3 upd_same ⟨ur, uw, zl, put_at, put_ne (by decide +kernel) n2, put_ne (by decide +kernel) n3, dp_same s8 d3, put_ne (by decide +kernel) n4, dp_same s8 d4, put_ne (by decide +kernel) n5, put_ne (by decide +kernel) n6, lz⟩ (by rw [put_len n1]; exact kl)
        generalize upd (upd H7 g2 (.dK kvs)) g2 (.dK (putK kvs (.inr "name" : Key) (.str nm))) = H8 at s8 due
        refine ⟨.ref g2, rfl, g2, _, _, rfl, due, fun y H9 s9 hY => ?_⟩
        have hX9 := hX.same (t7.trans (s8.trans s9))
        obtain ⟨_, dx, fs1, _, _, _, ex, _⟩ := id hX9
        obtain ⟨_, dy, fs2, _, _, _, ey, _⟩ := id hY
        refine ⟨.ref x, rfl, y, x, dy, dx, fs2, fs1, rfl, rfl, ey, ex, y, _, .ref x, rfl, hY, .inl ⟨x, X, rfl, hX9, _, rfl, ?_⟩⟩
        have no : eqFX ⟨⟨nm, X.d.ar, X.d.res, X.d.ws⟩, X.lab, X.cost⟩ X = false := by
          unfold eqFX
          dsimp only
          rw [decide_eq_false hne]
          rfl
        rw [no]
        exact iteF ⟨_, _, _, rfl, s3.trans (s4.trans (t7.trans (s8.trans s9)))⟩
    · obtain ⟨y3', y4', y5', rfl, s3⟩ := w
      exact ⟨_, _, _, _, _, rfl, s2.trans s3⟩
end
/-! ### the table of lengths -/
def Lens (r : Option DictEntry) (o : Option Int) : Prop := match o with
  | some k => ∃ e t, r = some e ∧ e.val = .int k t
  | none => r = none
theorem lens_in {K : PySem.W.Frag} {aL : Addr} {es : Array DictEntry} {n : Nat} (l : K.lookup aL = some ⟨.type "dict", none, .dict es n, #[]⟩) {z : Str} (e : Lens (es.toList.find? (·.key.isStr z)) (lenOf z)) (o : es.toList.any (·.refKey) = false) :
    match lenOf z with
    | some k => ∃ t, PySem.W.nsIn K aL z = some (some (.int k t))
    | none => PySem.W.nsIn K aL z = some none := by
  have h : PySem.W.nsIn K aL z = (match es.toList.find? (·.key.isStr z) with
      | some e => some (some e.val)
      | none => if es.toList.any (·.refKey) then none else some none) := by
    unfold PySem.W.nsIn
    rw [l]
    rfl
  unfold Lens at e
  cases hz : lenOf z with
  | none =>
    rw [hz] at e
    show PySem.W.nsIn K aL z = some none
    have e' : es.toList.find? (·.key.isStr z) = none := e
    rw [h, e', o]
    rfl
  | some k =>
    rw [hz] at e
    obtain ⟨en, t, e1, e2⟩ := (e : ∃ en t, es.toList.find? (·.key.isStr z) = some en ∧ en.val = .int k t)
    refine ⟨t, ?_⟩
    rw [h, e1]
    show some (some en.val) = _
    rw [e2]
theorem isStr_str (a b : Str) (t : Tok) : (Value.str a t).isStr b = decide (b = a) := by
  rw [PySem.W.isStr_of]
  by_cases h : b = a
  · subst h
    rw [decide_eq_true rfl]
    simp [Value.isStrOf]
  · rw [decide_eq_false h]
    simp [Value.isStrOf]
    intro q
    exact h q.symm
theorem lens_five (z : Str) (e1 e2 e3 e4 e5 : DictEntry) {t1 t2 t3 t4 t5 : Tok} (k1 : e1.key = .str "tick" t1) (k2 : e2.key = .str "plus" t2) (k3 : e3.key = .str "less" t3) (k4 : e4.key = .str "same" t4) (k5 : e5.key = .str "if" t5)
    (v1 : ∃ t, e1.val = .int 1 t) (v2 : ∃ t, e2.val = .int 3 t) (v3 : ∃ t, e3.val = .int 3 t) (v4 : ∃ t, e4.val = .int 3 t) (v5 : ∃ t, e5.val = .int 4 t) : Lens ([e1, e2, e3, e4, e5].find? (·.key.isStr z)) (lenOf z) := by
  unfold lenOf
  rw [List.find?_cons, k1, isStr_str]
  by_cases h1 : z = "tick"
  · rw [if_pos h1, decide_eq_true h1]
    obtain ⟨t, v⟩ := v1
    exact ⟨e1, t, rfl, v⟩
  · rw [if_neg h1, decide_eq_false h1]
    show Lens (List.find? _ [e2, e3, e4, e5]) _
    rw [List.find?_cons, k2, isStr_str]
    by_cases h2 : z = "plus"
    · rw [if_pos h2, decide_eq_true h2]
      obtain ⟨t, v⟩ := v2
      exact ⟨e2, t, rfl, v⟩
    · rw [if_neg h2, decide_eq_false h2]
      show Lens (List.find? _ [e3, e4, e5]) _
      rw [List.find?_cons, k3, isStr_str]
      by_cases h3 : z = "less"
      · rw [if_pos h3, decide_eq_true h3]
        obtain ⟨t, v⟩ := v3
        exact ⟨e3, t, rfl, v⟩
      · rw [if_neg h3, decide_eq_false h3]
        show Lens (List.find? _ [e4, e5]) _
        rw [List.find?_cons, k4, isStr_str]
        by_cases h4 : z = "same"
        · rw [if_pos h4, decide_eq_true h4]
          obtain ⟨t, v⟩ := v4
          exact ⟨e4, t, rfl, v⟩
        · rw [if_neg h4, decide_eq_false h4]
          show Lens (List.find? _ [e5]) _
          rw [List.find?_cons, k5, isStr_str]
          by_cases h5 : z = "if"
          · rw [if_pos h5, decide_eq_true h5]
            obtain ⟨t, v⟩ := v5
            exact ⟨e5, t, rfl, v⟩
          · rw [if_neg h5, decide_eq_false h5]
            rfl
/-! ### what the top has written; the end -/
theorem all_mk {l : PySem.W.OpenLaw} {w : World} {K : PySem.W.Frag} {h : Heap} {mg : Str → Option Value} {fa : Addr} (X : K.In h) (G : h.Ns mainGlobals mg) (hfa : mg "law" = some (.ref fa))
    {cL cB cP cT cS cF : Addr}
    {fBI : Addr} {odBI anBI : Option Addr} {slBI : Array (Option Value)} {ocBI kVBI dcBI pmBI cdBI ctBI : Value}
    {fPI : Addr} {odPI anPI : Option Addr} {slPI : Array (Option Value)} {ocPI kVPI dcPI pmPI cdPI ctPI : Value}
    {fTI : Addr} {odTI anTI : Option Addr} {slTI : Array (Option Value)} {ocTI kVTI dcTI pmTI cdTI ctTI : Value}
    {fLI : Addr} {odLI anLI : Option Addr} {slLI : Array (Option Value)} {ocLI kVLI dcLI pmLI cdLI ctLI : Value}
    {fLE : Addr} {odLE anLE : Option Addr} {slLE : Array (Option Value)} {ocLE kVLE dcLE pmLE cdLE ctLE : Value}
    {fFI : Addr} {odFI anFI : Option Addr} {slFI : Array (Option Value)} {ocFI kVFI dcFI pmFI cdFI ctFI : Value}
    {fFE : Addr} {odFE anFE : Option Addr} {slFE : Array (Option Value)} {ocFE kVFE dcFE pmFE cdFE ctFE : Value}
    {fFL : Addr} {odFL anFL : Option Addr} {slFL : Array (Option Value)} {ocFL kVFL dcFL pmFL cdFL ctFL : Value}
    {fFC : Addr} {odFC anFC : Option Addr} {slFC : Array (Option Value)} {ocFC kVFC dcFC pmFC cdFC ctFC : Value}
    {fFP : Addr} {odFP anFP : Option Addr} {slFP : Array (Option Value)} {ocFP kVFP dcFP pmFP cdFP ctFP : Value}
    {fWh : Addr} {odWh anWh : Option Addr} {slWh : Array (Option Value)} {ocWh kVWh dcWh pmWh cdWh ctWh : Value}
    {fVa : Addr} {odVa anVa : Option Addr} {slVa : Array (Option Value)} {ocVa kVVa dcVa pmVa cdVa ctVa : Value}
    {fNa : Addr} {odNa anNa : Option Addr} {slNa : Array (Option Value)} {ocNa kVNa dcNa pmNa cdNa ctNa : Value}
    {fTl : Addr} {odTl anTl : Option Addr} {slTl : Array (Option Value)} {ocTl kVTl dcTl pmTl cdTl ctTl : Value}
    {fTe : Addr} {odTe anTe : Option Addr} {slTe : Array (Option Value)} {ocTe kVTe dcTe pmTe cdTe ctTe : Value}
    {fHa : Addr} {odHa anHa : Option Addr} {slHa : Array (Option Value)} {ocHa kVHa dcHa pmHa cdHa ctHa : Value}
    {fCf : Addr} {odCf anCf : Option Addr} {slCf : Array (Option Value)} {ocCf kVCf dcCf pmCf cdCf ctCf : Value}
    {fIn : Addr} {odIn anIn : Option Addr} {slIn : Array (Option Value)} {ocIn kVIn dcIn pmIn cdIn ctIn : Value}
    {fNx : Addr} {odNx anNx : Option Addr} {slNx : Array (Option Value)} {ocNx kVNx dcNx pmNx cdNx ctNx : Value}
    {fAw : Addr} {odAw anAw : Option Addr} {slAw : Array (Option Value)} {ocAw kVAw dcAw pmAw cdAw ctAw : Value}
    {fPl : Addr} {odPl anPl : Option Addr} {slPl : Array (Option Value)} {ocPl kVPl dcPl pmPl cdPl ctPl : Value}
    {fDr : Addr} {odDr anDr : Option Addr} {slDr : Array (Option Value)} {ocDr kVDr dcDr pmDr cdDr ctDr : Value}
    {fPk : Addr} {odPk anPk : Option Addr} {slPk : Array (Option Value)} {ocPk kVPk dcPk pmPk cdPk ctPk : Value}
    {fNm : Addr} {odNm anNm : Option Addr} {slNm : Array (Option Value)} {ocNm kVNm dcNm pmNm cdNm ctNm : Value}
    {fLt : Addr} {odLt anLt : Option Addr} {slLt : Array (Option Value)} {ocLt kVLt dcLt pmLt cdLt ctLt : Value}
    {fLw : Addr} {odLw anLw : Option Addr} {slLw : Array (Option Value)} {ocLw kVLw dcLw pmLw cdLw ctLw : Value}
    {fLb : Addr} {odLb anLb : Option Addr} {slLb : Array (Option Value)} {ocLb kVLb dcLb pmLb cdLb ctLb : Value}
    {fLf : Addr} {odLf anLf : Option Addr} {slLf : Array (Option Value)} {ocLf kVLf dcLf pmLf cdLf ctLf : Value}
    {fLr : Addr} {odLr anLr : Option Addr} {slLr : Array (Option Value)} {ocLr kVLr dcLr pmLr cdLr ctLr : Value}
    {fLo : Addr} {odLo anLo : Option Addr} {slLo : Array (Option Value)} {ocLo kVLo dcLo pmLo cdLo ctLo : Value}
    {fLc : Addr} {odLc anLc : Option Addr} {slLc : Array (Option Value)} {ocLc kVLc dcLc pmLc cdLc ctLc : Value}
    {fLa : Addr} {odLa anLa : Option Addr} {slLa : Array (Option Value)} {ocLa kVLa dcLa pmLa cdLa ctLa : Value}
    {t_LONGEST_NAME : Tok}
    {t_MOST_ARGUMENTS : Tok}
    {t_MOST_DEEP : Tok}
    {t_MOST_PARTS : Tok}
    {t_MOST_WRITES : Tok}
    {t_GREATEST_COST : Tok}
    {nmB qqB : Str} {NNB : Addr} {bsB : List Value} {snB : List Str} {suB : List Value} {abB : Bool} {coB : Option Bool} {ddB : Option Addr} {maB mbB mcB mdB me_B : Option Value} {nmP qqP : Str} {NNP : Addr} {bsP : List Value} {snP : List Str} {suP : List Value} {abP : Bool} {coP : Option Bool} {ddP : Option Addr} {maP mbP mcP mdP me_P : Option Value} {nmT qqT : Str} {NNT : Addr} {bsT : List Value} {snT : List Str} {suT : List Value} {abT : Bool} {coT : Option Bool} {ddT : Option Addr} {maT mbT mcT mdT me_T : Option Value} {aR : Addr} {itsR : Array Value} {nR : Nat} {slR : Array (Option Value)} {aV : Addr} {itsV : Array Value} {nV : Nat} {slV : Array (Option Value)} {ddV : Option Addr} {aJ : Addr} {itsJ : Array Value} {nJ : Nat} {slJ : Array (Option Value)} {ddJ : Option Addr} {aQ : Addr} {esL : Array DictEntry} {nQ : Nat} {aD aW : Addr} {itsW : Array Value} {nW : Nat} {slW : Array (Option Value)} {ddW : Option Addr} {tk1 tk2 : Tok} 
    (a_L : PySem.W.nsIn K mainGlobals "Label" = some (some (.ref cL)))
    (a_B : PySem.W.nsIn K mainGlobals "BadLabel" = some (some (.ref cB)))
    (a_P : PySem.W.nsIn K mainGlobals "BadPart" = some (some (.ref cP)))
    (a_T : PySem.W.nsIn K mainGlobals "BadTerm" = some (some (.ref cT)))
    (a_S : PySem.W.nsIn K mainGlobals "StoreError" = some (some (.ref cS)))
    (a_F : PySem.W.nsIn K mainGlobals "Function" = some (some (.ref cF)))
    (aBI : PySem.W.findIn K (.ref cB) "__init__" = some (some (.ref fBI))) (iBI : PySem.W.isFn K (.ref fBI) = true)
    (lBI : K.lookup fBI = some ⟨ocBI, odBI, .func (PySem.W.fnOf "__init__" "BadLabel.__init__" (defArgs sBL) (defBody sBL) (defScope sBL) .none kVBI dcBI pmBI anBI cdBI ctBI), slBI⟩) (cBI : PySem.W.codeIn K cdBI "BadLabel.__init__" = true) (kBI : PySem.W.keepIn K (.ref fBI) = true)
    (aPI : PySem.W.findIn K (.ref cP) "__init__" = some (some (.ref fPI))) (iPI : PySem.W.isFn K (.ref fPI) = true)
    (lPI : K.lookup fPI = some ⟨ocPI, odPI, .func (PySem.W.fnOf "__init__" "BadPart.__init__" (defArgs sBadPart) (defBody sBadPart) (defScope sBadPart) .none kVPI dcPI pmPI anPI cdPI ctPI), slPI⟩) (cPI : PySem.W.codeIn K cdPI "BadPart.__init__" = true) (kPI : PySem.W.keepIn K (.ref fPI) = true)
    (aTI : PySem.W.findIn K (.ref cT) "__init__" = some (some (.ref fTI))) (iTI : PySem.W.isFn K (.ref fTI) = true)
    (lTI : K.lookup fTI = some ⟨ocTI, odTI, .func (PySem.W.fnOf "__init__" "BadTerm.__init__" (defArgs sBadTerm) (defBody sBadTerm) (defScope sBadTerm) .none kVTI dcTI pmTI anTI cdTI ctTI), slTI⟩) (cTI : PySem.W.codeIn K cdTI "BadTerm.__init__" = true) (kTI : PySem.W.keepIn K (.ref fTI) = true)
    (aLI : PySem.W.findIn K (.ref cL) "__init__" = some (some (.ref fLI))) (iLI : PySem.W.isFn K (.ref fLI) = true)
    (lLI : K.lookup fLI = some ⟨ocLI, odLI, .func (PySem.W.fnOf "__init__" "Label.__init__" (defArgs sLab) (defBody sLab) (defScope sLab) .none kVLI dcLI pmLI anLI cdLI ctLI), slLI⟩) (cLI : PySem.W.codeIn K cdLI "Label.__init__" = true) (kLI : PySem.W.keepIn K (.ref fLI) = true)
    (aLE : PySem.W.findIn K (.ref cL) "__eq__" = some (some (.ref fLE))) (iLE : PySem.W.isFn K (.ref fLE) = true)
    (lLE : K.lookup fLE = some ⟨ocLE, odLE, .func (PySem.W.fnOf "__eq__" "Label.__eq__" (defArgs sLabEq) (defBody sLabEq) (defScope sLabEq) .none kVLE dcLE pmLE anLE cdLE ctLE), slLE⟩) (cLE : PySem.W.codeIn K cdLE "Label.__eq__" = true) (kLE : PySem.W.keepIn K (.ref fLE) = true)
    (aFI : PySem.W.findIn K (.ref cF) "__init__" = some (some (.ref fFI))) (iFI : PySem.W.isFn K (.ref fFI) = true)
    (lFI : K.lookup fFI = some ⟨ocFI, odFI, .func (PySem.W.fnOf "__init__" "Function.__init__" (defArgs sFun) (defBody sFun) (defScope sFun) .none kVFI dcFI pmFI anFI cdFI ctFI), slFI⟩) (cFI : PySem.W.codeIn K cdFI "Function.__init__" = true) (kFI : PySem.W.keepIn K (.ref fFI) = true)
    (aFE : PySem.W.findIn K (.ref cF) "__eq__" = some (some (.ref fFE))) (iFE : PySem.W.isFn K (.ref fFE) = true)
    (lFE : K.lookup fFE = some ⟨ocFE, odFE, .func (PySem.W.fnOf "__eq__" "Function.__eq__" (defArgs sFEq) (defBody sFEq) (defScope sFEq) .none kVFE dcFE pmFE anFE cdFE ctFE), slFE⟩) (cFE : PySem.W.codeIn K cdFE "Function.__eq__" = true) (kFE : PySem.W.keepIn K (.ref fFE) = true)
    (aFL : PySem.W.findIn K (.ref cF) "labelled" = some (some (.ref fFL))) (iFL : PySem.W.isFn K (.ref fFL) = true)
    (lFL : K.lookup fFL = some ⟨ocFL, odFL, .func (PySem.W.fnOf "labelled" "Function.labelled" (defArgs sLbl) (defBody sLbl) (defScope sLbl) .none kVFL dcFL pmFL anFL cdFL ctFL), slFL⟩) (cFL : PySem.W.codeIn K cdFL "Function.labelled" = true) (kFL : PySem.W.keepIn K (.ref fFL) = true)
    (aFC : PySem.W.findIn K (.ref cF) "changed" = some (some (.ref fFC))) (iFC : PySem.W.isFn K (.ref fFC) = true)
    (lFC : K.lookup fFC = some ⟨ocFC, odFC, .func (PySem.W.fnOf "changed" "Function.changed" (defArgs sChg) (defBody sChg) (defScope sChg) .none kVFC dcFC pmFC anFC cdFC ctFC), slFC⟩) (cFC : PySem.W.codeIn K cdFC "Function.changed" = true) (kFC : PySem.W.keepIn K (.ref fFC) = true)
    (aFP : PySem.W.findIn K (.ref cF) "parts" = some (some (.ref fFP))) (iFP : PySem.W.isFn K (.ref fFP) = true)
    (lFP : K.lookup fFP = some ⟨ocFP, odFP, .func (PySem.W.fnOf "parts" "Function.parts" (defArgs sFParts) (defBody sFParts) (defScope sFParts) .none kVFP dcFP pmFP anFP cdFP ctFP), slFP⟩) (cFP : PySem.W.codeIn K cdFP "Function.parts" = true) (kFP : PySem.W.keepIn K (.ref fFP) = true)
    (aWh : PySem.W.nsIn K mainGlobals "is_whole" = some (some (.ref fWh)))
    (lWh : K.lookup fWh = some ⟨ocWh, odWh, .func (PySem.W.fnOf "is_whole" "is_whole" (defArgs sWhole) (defBody sWhole) (defScope sWhole) .none kVWh dcWh pmWh anWh cdWh ctWh), slWh⟩) (cWh : PySem.W.codeIn K cdWh "is_whole" = true) (kWh : PySem.W.keepIn K (.ref fWh) = true)
    (aVa : PySem.W.nsIn K mainGlobals "is_value" = some (some (.ref fVa)))
    (lVa : K.lookup fVa = some ⟨ocVa, odVa, .func (PySem.W.fnOf "is_value" "is_value" (defArgs sValue) (defBody sValue) (defScope sValue) .none kVVa dcVa pmVa anVa cdVa ctVa), slVa⟩) (cVa : PySem.W.codeIn K cdVa "is_value" = true) (kVa : PySem.W.keepIn K (.ref fVa) = true)
    (aNa : PySem.W.nsIn K mainGlobals "is_name" = some (some (.ref fNa)))
    (lNa : K.lookup fNa = some ⟨ocNa, odNa, .func (PySem.W.fnOf "is_name" "is_name" (defArgs sName) (defBody sName) (defScope sName) .none kVNa dcNa pmNa anNa cdNa ctNa), slNa⟩) (cNa : PySem.W.codeIn K cdNa "is_name" = true) (kNa : PySem.W.keepIn K (.ref fNa) = true)
    (aTl : PySem.W.nsIn K mainGlobals "to_label" = some (some (.ref fTl)))
    (lTl : K.lookup fTl = some ⟨ocTl, odTl, .func (PySem.W.fnOf "to_label" "to_label" (defArgs sToLab) (defBody sToLab) (defScope sToLab) .none kVTl dcTl pmTl anTl cdTl ctTl), slTl⟩) (cTl : PySem.W.codeIn K cdTl "to_label" = true) (kTl : PySem.W.keepIn K (.ref fTl) = true)
    (aTe : PySem.W.nsIn K mainGlobals "is_term" = some (some (.ref fTe)))
    (lTe : K.lookup fTe = some ⟨ocTe, odTe, .func (PySem.W.fnOf "is_term" "is_term" (defArgs sTerm) (defBody sTerm) (defScope sTerm) .none kVTe dcTe pmTe anTe cdTe ctTe), slTe⟩) (cTe : PySem.W.codeIn K cdTe "is_term" = true) (kTe : PySem.W.keepIn K (.ref fTe) = true)
    (aHa : PySem.W.nsIn K mainGlobals "_has_form" = some (some (.ref fHa)))
    (lHa : K.lookup fHa = some ⟨ocHa, odHa, .func (PySem.W.fnOf "_has_form" "_has_form" (defArgs sHas) (defBody sHas) (defScope sHas) .none kVHa dcHa pmHa anHa cdHa ctHa), slHa⟩) (cHa : PySem.W.codeIn K cdHa "_has_form" = true) (kHa : PySem.W.keepIn K (.ref fHa) = true)
    (aCf : PySem.W.nsIn K mainGlobals "_has_call_form" = some (some (.ref fCf)))
    (lCf : K.lookup fCf = some ⟨ocCf, odCf, .func (PySem.W.fnOf "_has_call_form" "_has_call_form" (defArgs sCallForm) (defBody sCallForm) (defScope sCallForm) .none kVCf dcCf pmCf anCf cdCf ctCf), slCf⟩) (cCf : PySem.W.codeIn K cdCf "_has_call_form" = true) (kCf : PySem.W.keepIn K (.ref fCf) = true)
    (aIn : PySem.W.nsIn K mainGlobals "inner_terms" = some (some (.ref fIn)))
    (lIn : K.lookup fIn = some ⟨ocIn, odIn, .func (PySem.W.fnOf "inner_terms" "inner_terms" (defArgs sInner) (defBody sInner) (defScope sInner) .none kVIn dcIn pmIn anIn cdIn ctIn), slIn⟩) (cIn : PySem.W.codeIn K cdIn "inner_terms" = true) (kIn : PySem.W.keepIn K (.ref fIn) = true)
    (aNx : PySem.W.nsIn K mainGlobals "_next_level" = some (some (.ref fNx)))
    (lNx : K.lookup fNx = some ⟨ocNx, odNx, .func (PySem.W.fnOf "_next_level" "_next_level" (defArgs sNext) (defBody sNext) (defScope sNext) .none kVNx dcNx pmNx anNx cdNx ctNx), slNx⟩) (cNx : PySem.W.codeIn K cdNx "_next_level" = true) (kNx : PySem.W.keepIn K (.ref fNx) = true)
    (aAw : PySem.W.nsIn K mainGlobals "_are_writes" = some (some (.ref fAw)))
    (lAw : K.lookup fAw = some ⟨ocAw, odAw, .func (PySem.W.fnOf "_are_writes" "_are_writes" (defArgs sAreW) (defBody sAreW) (defScope sAreW) .none kVAw dcAw pmAw anAw cdAw ctAw), slAw⟩) (cAw : PySem.W.codeIn K cdAw "_are_writes" = true) (kAw : PySem.W.keepIn K (.ref fAw) = true)
    (aPl : PySem.W.nsIn K mainGlobals "_law_pool" = some (some (.ref fPl)))
    (lPl : K.lookup fPl = some ⟨ocPl, odPl, .func (PySem.W.fnOf "_law_pool" "_law_pool" (defArgs sPool) (defBody sPool) (defScope sPool) .none kVPl dcPl pmPl anPl cdPl ctPl), slPl⟩) (cPl : PySem.W.codeIn K cdPl "_law_pool" = true) (kPl : PySem.W.keepIn K (.ref fPl) = true)
    (aDr : PySem.W.nsIn K mainGlobals "_law_draw" = some (some (.ref fDr)))
    (lDr : K.lookup fDr = some ⟨ocDr, odDr, .func (PySem.W.fnOf "_law_draw" "_law_draw" (defArgs sDraw) (defBody sDraw) (defScope sDraw) .none kVDr dcDr pmDr anDr cdDr ctDr), slDr⟩) (cDr : PySem.W.codeIn K cdDr "_law_draw" = true) (kDr : PySem.W.keepIn K (.ref fDr) = true)
    (aPk : PySem.W.nsIn K mainGlobals "_law_pick" = some (some (.ref fPk)))
    (lPk : K.lookup fPk = some ⟨ocPk, odPk, .func (PySem.W.fnOf "_law_pick" "_law_pick" (defArgs sPick) (defBody sPick) (defScope sPick) .none kVPk dcPk pmPk anPk cdPk ctPk), slPk⟩) (cPk : PySem.W.codeIn K cdPk "_law_pick" = true) (kPk : PySem.W.keepIn K (.ref fPk) = true)
    (aNm : PySem.W.nsIn K mainGlobals "_law_names" = some (some (.ref fNm)))
    (lNm : K.lookup fNm = some ⟨ocNm, odNm, .func (PySem.W.fnOf "_law_names" "_law_names" (defArgs sLNames) (defBody sLNames) (defScope sLNames) .none kVNm dcNm pmNm anNm cdNm ctNm), slNm⟩) (cNm : PySem.W.codeIn K cdNm "_law_names" = true) (kNm : PySem.W.keepIn K (.ref fNm) = true)
    (aLt : PySem.W.nsIn K mainGlobals "_law_term" = some (some (.ref fLt)))
    (lLt : K.lookup fLt = some ⟨ocLt, odLt, .func (PySem.W.fnOf "_law_term" "_law_term" (defArgs sLTerm) (defBody sLTerm) (defScope sLTerm) .none kVLt dcLt pmLt anLt cdLt ctLt), slLt⟩) (cLt : PySem.W.codeIn K cdLt "_law_term" = true) (kLt : PySem.W.keepIn K (.ref fLt) = true)
    (aLw : PySem.W.nsIn K mainGlobals "_law_writes" = some (some (.ref fLw)))
    (lLw : K.lookup fLw = some ⟨ocLw, odLw, .func (PySem.W.fnOf "_law_writes" "_law_writes" (defArgs sLW) (defBody sLW) (defScope sLW) .none kVLw dcLw pmLw anLw cdLw ctLw), slLw⟩) (cLw : PySem.W.codeIn K cdLw "_law_writes" = true) (kLw : PySem.W.keepIn K (.ref fLw) = true)
    (aLb : PySem.W.nsIn K mainGlobals "_law_book" = some (some (.ref fLb)))
    (lLb : K.lookup fLb = some ⟨ocLb, odLb, .func (PySem.W.fnOf "_law_book" "_law_book" (defArgs sLB) (defBody sLB) (defScope sLB) .none kVLb dcLb pmLb anLb cdLb ctLb), slLb⟩) (cLb : PySem.W.codeIn K cdLb "_law_book" = true) (kLb : PySem.W.keepIn K (.ref fLb) = true)
    (aLf : PySem.W.nsIn K mainGlobals "_law_function" = some (some (.ref fLf)))
    (lLf : K.lookup fLf = some ⟨ocLf, odLf, .func (PySem.W.fnOf "_law_function" "_law_function" (defArgs sLF) (defBody sLF) (defScope sLF) .none kVLf dcLf pmLf anLf cdLf ctLf), slLf⟩) (cLf : PySem.W.codeIn K cdLf "_law_function" = true) (kLf : PySem.W.keepIn K (.ref fLf) = true)
    (aLr : PySem.W.nsIn K mainGlobals "_law_refused" = some (some (.ref fLr)))
    (lLr : K.lookup fLr = some ⟨ocLr, odLr, .func (PySem.W.fnOf "_law_refused" "_law_refused" (defArgs sRef) (defBody sRef) (defScope sRef) .none kVLr dcLr pmLr anLr cdLr ctLr), slLr⟩) (cLr : PySem.W.codeIn K cdLr "_law_refused" = true) (kLr : PySem.W.keepIn K (.ref fLr) = true)
    (aLo : PySem.W.nsIn K mainGlobals "_law_one_right" = some (some (.ref fLo)))
    (lLo : K.lookup fLo = some ⟨ocLo, odLo, .func (PySem.W.fnOf "_law_one_right" "_law_one_right" (defArgs sOR) (defBody sOR) (defScope sOR) .none kVLo dcLo pmLo anLo cdLo ctLo), slLo⟩) (cLo : PySem.W.codeIn K cdLo "_law_one_right" = true) (kLo : PySem.W.keepIn K (.ref fLo) = true)
    (aLc : PySem.W.nsIn K mainGlobals "_law_changes_right" = some (some (.ref fLc)))
    (lLc : K.lookup fLc = some ⟨ocLc, odLc, .func (PySem.W.fnOf "_law_changes_right" "_law_changes_right" (defArgs sCR) (defBody sCR) (defScope sCR) .none kVLc dcLc pmLc anLc cdLc ctLc), slLc⟩) (cLc : PySem.W.codeIn K cdLc "_law_changes_right" = true) (kLc : PySem.W.keepIn K (.ref fLc) = true)
    (aLa : PySem.W.nsIn K mainGlobals "law" = some (some (.ref fLa)))
    (lLa : K.lookup fLa = some ⟨ocLa, odLa, .func (PySem.W.fnOf "law" "law" (defArgs sLaw) (defBody sLaw) (defScope sLaw) .none kVLa dcLa pmLa anLa cdLa ctLa), slLa⟩) (cLa : PySem.W.codeIn K cdLa "law" = true) (kLa : PySem.W.keepIn K (.ref fLa) = true)
    (z_abs : PySem.W.nsIn K mainGlobals "abs" = some none)
    (z_int : PySem.W.nsIn K mainGlobals "int" = some none)
    (z_len : PySem.W.nsIn K mainGlobals "len" = some none)
    (z_sum : PySem.W.nsIn K mainGlobals "sum" = some none)
    (z_max : PySem.W.nsIn K mainGlobals "max" = some none)
    (z_min : PySem.W.nsIn K mainGlobals "min" = some none)
    (z_range : PySem.W.nsIn K mainGlobals "range" = some none)
    (z_isinstance : PySem.W.nsIn K mainGlobals "isinstance" = some none)
    (z_bool : PySem.W.nsIn K mainGlobals "bool" = some none)
    (z_str : PySem.W.nsIn K mainGlobals "str" = some none)
    (z_tuple : PySem.W.nsIn K mainGlobals "tuple" = some none)
    (z_list : PySem.W.nsIn K mainGlobals "list" = some none)
    (z_dict : PySem.W.nsIn K mainGlobals "dict" = some none)
    (z_all : PySem.W.nsIn K mainGlobals "all" = some none)
    (z_sorted : PySem.W.nsIn K mainGlobals "sorted" = some none)
    (z_repr : PySem.W.nsIn K mainGlobals "repr" = some none)
    (z_zip : PySem.W.nsIn K mainGlobals "zip" = some none)
    (z_ValueError : PySem.W.nsIn K mainGlobals "ValueError" = some none)
    (i_LONGEST_NAME : PySem.W.nsIn K mainGlobals "LONGEST_NAME" = some (some (.int 8 t_LONGEST_NAME)))
    (i_MOST_ARGUMENTS : PySem.W.nsIn K mainGlobals "MOST_ARGUMENTS" = some (some (.int 2 t_MOST_ARGUMENTS)))
    (i_MOST_DEEP : PySem.W.nsIn K mainGlobals "MOST_DEEP" = some (some (.int 8 t_MOST_DEEP)))
    (i_MOST_PARTS : PySem.W.nsIn K mainGlobals "MOST_PARTS" = some (some (.int 30 t_MOST_PARTS)))
    (i_MOST_WRITES : PySem.W.nsIn K mainGlobals "MOST_WRITES" = some (some (.int 3 t_MOST_WRITES)))
    (i_GREATEST_COST : PySem.W.nsIn K mainGlobals "GREATEST_COST" = some (some (.int 99 t_GREATEST_COST)))
    (pgL : PySem.W.plainGet K cL Str.empty = true)
    (hdL : PySem.W.hasDictIn K cL = true)
    (poL : PySem.W.plainOver K cL = true)
    (saL : PySem.W.findIn K (.ref cL) "__setattr__" = some (some (.builtin "object.__setattr__")))
    (mkL : PySem.W.makesIn K cL = true)
    (kcL : PySem.W.keepIn K (.ref cL) = true)
    (pgF : PySem.W.plainGet K cF Str.empty = true)
    (hdF : PySem.W.hasDictIn K cF = true)
    (poF : PySem.W.plainOver K cF = true)
    (saF : PySem.W.findIn K (.ref cF) "__setattr__" = some (some (.builtin "object.__setattr__")))
    (mkF : PySem.W.makesIn K cF = true)
    (kcF : PySem.W.keepIn K (.ref cF) = true)
    (cgL : PySem.W.specialIn K (.builtin "object.__class__") "__get__" = some (some (.builtin "getset_descriptor.__get__")))
    (ctL : PySem.W.takesIn K (.builtin "object.__class__") = some true)
    (meL : PySem.W.kitOne K (.ref cL) (.ref cL) = some true)
    (caL : PySem.W.findIn K (.ref cL) "__class__" = some (some (.builtin "object.__class__")))
    (cmL : PySem.W.mroIn K cL (.type "object") = some true)
    (noL_NoneType : PySem.W.kitOne K (.type "NoneType") (.ref cL) = some false)
    (noL_bool : PySem.W.kitOne K (.type "bool") (.ref cL) = some false)
    (noL_int : PySem.W.kitOne K (.type "int") (.ref cL) = some false)
    (noL_str : PySem.W.kitOne K (.type "str") (.ref cL) = some false)
    (noL_list : PySem.W.kitOne K (.type "list") (.ref cL) = some false)
    (noL_tuple : PySem.W.kitOne K (.type "tuple") (.ref cL) = some false)
    (noL_dict : PySem.W.kitOne K (.type "dict") (.ref cL) = some false)
    (meF : PySem.W.kitOne K (.ref cF) (.ref cF) = some true)
    (caF : PySem.W.findIn K (.ref cF) "__class__" = some (some (.builtin "object.__class__")))
    (cmF : PySem.W.mroIn K cF (.type "object") = some true)
    (noF_NoneType : PySem.W.kitOne K (.type "NoneType") (.ref cF) = some false)
    (noF_bool : PySem.W.kitOne K (.type "bool") (.ref cF) = some false)
    (noF_int : PySem.W.kitOne K (.type "int") (.ref cF) = some false)
    (noF_str : PySem.W.kitOne K (.type "str") (.ref cF) = some false)
    (noF_list : PySem.W.kitOne K (.type "list") (.ref cF) = some false)
    (noF_tuple : PySem.W.kitOne K (.type "tuple") (.ref cF) = some false)
    (noF_dict : PySem.W.kitOne K (.type "dict") (.ref cF) = some false)
    (neL : PySem.W.findIn K (.ref cL) "__ne__" = some (some (.builtin "object.__ne__")))
    (soL : PySem.W.subIn K (.ref cL) (.type "object") = some true)
    (nfL : PySem.W.notFirst K cL (.type "str") = true)
    (neF : PySem.W.findIn K (.ref cF) "__ne__" = some (some (.builtin "object.__ne__")))
    (soF : PySem.W.subIn K (.ref cF) (.type "object") = some true)
    (nfF : PySem.W.notFirst K cF (.type "str") = true)
    (nhL : PySem.W.findIn K (.ref cL) "_height" = some none)
    (nnL : PySem.W.findIn K (.ref cL) "name" = some none)
    (n_name : PySem.W.findIn K (.ref cF) "name" = some none)
    (n_arguments : PySem.W.findIn K (.ref cF) "arguments" = some none)
    (n_result : PySem.W.findIn K (.ref cF) "result" = some none)
    (n_label : PySem.W.findIn K (.ref cF) "label" = some none)
    (n_writes : PySem.W.findIn K (.ref cF) "writes" = some none)
    (n_cost : PySem.W.findIn K (.ref cF) "cost" = some none)
    (xB : K.lookup cB = some (excClassObj nmB qqB cB NNB bsB [.ref cS, .type "ValueError", .type "Exception", .type "BaseException", .type "object"] true snB suB abB coB ddB maB mbB mcB mdB me_B "ValueError.__new__"))
    (saB : PySem.W.findIn K (.ref cB) "__setattr__" = some (some (.builtin "object.__setattr__")))
    (exB : PySem.W.subIn K (.ref cB) (.type "BaseException") = some true)
    (tyB : PySem.W.typeIn K (.ref cB) = some (.type "type"))
    (kcB : PySem.W.keepIn K (.ref cB) = true)
    (nlB : PySem.W.findIn K (.ref cB) "label" = some none)
    (tfB : PySem.W.typeIn K (.ref fBI) = some (.type "function"))
    (gaB : PySem.W.findIn K (.ref cB) "__getattribute__" = some (some (.builtin "BaseException.__getattribute__")))
    (ggB : PySem.W.findIn K (.ref cB) "__getattr__" = some none)
    (hdB : PySem.W.hasDictIn K cB = true)
    (xP : K.lookup cP = some (excClassObj nmP qqP cP NNP bsP [.ref cS, .type "ValueError", .type "Exception", .type "BaseException", .type "object"] true snP suP abP coP ddP maP mbP mcP mdP me_P "ValueError.__new__"))
    (saP : PySem.W.findIn K (.ref cP) "__setattr__" = some (some (.builtin "object.__setattr__")))
    (exP : PySem.W.subIn K (.ref cP) (.type "BaseException") = some true)
    (tyP : PySem.W.typeIn K (.ref cP) = some (.type "type"))
    (kcP : PySem.W.keepIn K (.ref cP) = true)
    (nlP : PySem.W.findIn K (.ref cP) "part" = some none)
    (tfP : PySem.W.typeIn K (.ref fPI) = some (.type "function"))
    (gaP : PySem.W.findIn K (.ref cP) "__getattribute__" = some (some (.builtin "BaseException.__getattribute__")))
    (ggP : PySem.W.findIn K (.ref cP) "__getattr__" = some none)
    (hdP : PySem.W.hasDictIn K cP = true)
    (xT : K.lookup cT = some (excClassObj nmT qqT cT NNT bsT [.ref cS, .type "ValueError", .type "Exception", .type "BaseException", .type "object"] true snT suT abT coT ddT maT mbT mcT mdT me_T "ValueError.__new__"))
    (saT : PySem.W.findIn K (.ref cT) "__setattr__" = some (some (.builtin "object.__setattr__")))
    (exT : PySem.W.subIn K (.ref cT) (.type "BaseException") = some true)
    (tyT : PySem.W.typeIn K (.ref cT) = some (.type "type"))
    (kcT : PySem.W.keepIn K (.ref cT) = true)
    (nlT : PySem.W.findIn K (.ref cT) "term" = some none)
    (tfT : PySem.W.typeIn K (.ref fTI) = some (.type "function"))
    (gaT : PySem.W.findIn K (.ref cT) "__getattribute__" = some (some (.builtin "BaseException.__getattribute__")))
    (ggT : PySem.W.findIn K (.ref cT) "__getattr__" = some none)
    (hdT : PySem.W.hasDictIn K cT = true)
    (ePP : PySem.W.subIn K (.ref cP) (.ref cP) = some true)
    (spS : PySem.W.specialIn K (.ref cS) "__getattribute__" = some (some (.builtin "type.__getattribute__")))
    (tyS : PySem.W.typeIn K (.ref cS) = some (.type "type"))
    (rdS : PySem.W.readsIn K cS (.type "type") = true)
    (fiS : PySem.W.findCls K (.ref cS) (.type "type") "__init__" = some (.val (.builtin "ValueError.__init__")))
    (vR : PySem.W.nsIn K mainGlobals "LABELS" = some (some (.ref aR)))
    (lR : K.lookup aR = some ⟨.type "tuple", none, .seq itsR nR, slR⟩)
    (rR : Vals (labRow.map V.str) itsR.toList)
    (sR : itsR.size ≤ sizeLine)
    (vV : PySem.W.nsIn K mainGlobals "VALUES" = some (some (.ref aV)))
    (lV : K.lookup aV = some ⟨.type "tuple", ddV, .seq itsV nV, slV⟩)
    (rV : Vals [.int 0, .int 1, .int 2] itsV.toList)
    (sV : itsV.size ≤ sizeLine)
    (vJ : PySem.W.nsIn K mainGlobals "CHANGING_PARTS" = some (some (.ref aJ)))
    (lJ : K.lookup aJ = some ⟨.type "tuple", ddJ, .seq itsJ nJ, slJ⟩)
    (rJ : Vals (partRow.map V.str) itsJ.toList)
    (sJ : itsJ.size ≤ sizeLine)
    (vQ : PySem.W.nsIn K mainGlobals "LENGTHS" = some (some (.ref aQ)))
    (lQ : K.lookup aQ = some ⟨.type "dict", none, .dict esL nQ, #[]⟩)
    (kQ : PySem.W.KeysLit w.params esL.toList)
    (yQ : (aQ == sysModules) = false)
    (eQ : ∀ z : Str, Lens (esL.toList.find? (·.key.isStr z)) (lenOf z))
    (oQ : esL.toList.any (·.refKey) = false)
    (kvD : kVFI = .ref aD)
    (d1 : PySem.W.nsIn K aD "label" = some (some (.str "changing" tk1)))
    (d2 : PySem.W.nsIn K aD "writes" = some (some (.ref aW)))
    (d3 : PySem.W.nsIn K aD "cost" = some (some (.int 1 tk2)))
    (lW : K.lookup aW = some ⟨.type "tuple", ddW, .seq itsW nW, slW⟩)
    (rW : Vals [] itsW.toList)
    (sW : itsW.size ≤ sizeLine) :
    ∃ fd : FuncData, (∀ (s : Shared) (v : Value), BindsTo s fd ⟨[v], []⟩ [("_law_script", v)]) ∧ ∀ base : Heap, K.In base → base.Ns mainGlobals mg → FnG l.prog w K mg base 11 fa fd ["_law_script"] (spLaw K) := by
  have e := hfa.symm.trans (PySem.W.mg_of X G aLa)
  cases e
  have FBI := fun_mk (st := sBL) lBI cBI kBI
  have bBI := FBI.binds (ps := ["self", "label"]) fun _ _ _ _ _ _ us hl => match us, hl with | [_, _], _ => rfl
  have FPI := fun_mk (st := sBadPart) lPI cPI kPI
  have bPI := FPI.binds (ps := ["self", "part"]) fun _ _ _ _ _ _ us hl => match us, hl with | [_, _], _ => rfl
  have FTI := fun_mk (st := sBadTerm) lTI cTI kTI
  have bTI := FTI.binds (ps := ["self", "term"]) fun _ _ _ _ _ _ us hl => match us, hl with | [_, _], _ => rfl
  have FLI := fun_mk (st := sLab) lLI cLI kLI
  have bLI := FLI.binds (ps := ["self", "name"]) fun _ _ _ _ _ _ us hl => match us, hl with | [_, _], _ => rfl
  have FLE := fun_mk (st := sLabEq) lLE cLE kLE
  have bLE := FLE.binds (ps := ["self", "other"]) fun _ _ _ _ _ _ us hl => match us, hl with | [_, _], _ => rfl
  have FFI := fun_mk (st := sFun) lFI cFI kFI
  have FFE := fun_mk (st := sFEq) lFE cFE kFE
  have bFE := FFE.binds (ps := ["self", "other"]) fun _ _ _ _ _ _ us hl => match us, hl with | [_, _], _ => rfl
  have FFL := fun_mk (st := sLbl) lFL cFL kFL
  have bFL := FFL.binds (ps := ["self", "label"]) fun _ _ _ _ _ _ us hl => match us, hl with | [_, _], _ => rfl
  have FFC := fun_mk (st := sChg) lFC cFC kFC
  have bFC := FFC.binds (ps := ["self", "part", "value"]) fun _ _ _ _ _ _ us hl => match us, hl with | [_, _, _], _ => rfl
  have FFP := fun_mk (st := sFParts) lFP cFP kFP
  have bFP := FFP.binds (ps := ["self"]) fun _ _ _ _ _ _ us hl => match us, hl with | [_], _ => rfl
  have FWh := fun_mk (st := sWhole) lWh cWh kWh
  have bWh := FWh.binds (ps := ["value"]) fun _ _ _ _ _ _ us hl => match us, hl with | [_], _ => rfl
  have FVa := fun_mk (st := sValue) lVa cVa kVa
  have bVa := FVa.binds (ps := ["value"]) fun _ _ _ _ _ _ us hl => match us, hl with | [_], _ => rfl
  have FNa := fun_mk (st := sName) lNa cNa kNa
  have bNa := FNa.binds (ps := ["value"]) fun _ _ _ _ _ _ us hl => match us, hl with | [_], _ => rfl
  have FTl := fun_mk (st := sToLab) lTl cTl kTl
  have bTl := FTl.binds (ps := ["value"]) fun _ _ _ _ _ _ us hl => match us, hl with | [_], _ => rfl
  have FTe := fun_mk (st := sTerm) lTe cTe kTe
  have bTe := FTe.binds (ps := ["value", "arguments"]) fun _ _ _ _ _ _ us hl => match us, hl with | [_, _], _ => rfl
  have FHa := fun_mk (st := sHas) lHa cHa kHa
  have bHa := FHa.binds (ps := ["part", "arguments"]) fun _ _ _ _ _ _ us hl => match us, hl with | [_, _], _ => rfl
  have FCf := fun_mk (st := sCallForm) lCf cCf kCf
  have bCf := FCf.binds (ps := ["terms"]) fun _ _ _ _ _ _ us hl => match us, hl with | [_], _ => rfl
  have FIn := fun_mk (st := sInner) lIn cIn kIn
  have bIn := FIn.binds (ps := ["term"]) fun _ _ _ _ _ _ us hl => match us, hl with | [_], _ => rfl
  have FNx := fun_mk (st := sNext) lNx cNx kNx
  have bNx := FNx.binds (ps := ["level"]) fun _ _ _ _ _ _ us hl => match us, hl with | [_], _ => rfl
  have FAw := fun_mk (st := sAreW) lAw cAw kAw
  have bAw := FAw.binds (ps := ["value"]) fun _ _ _ _ _ _ us hl => match us, hl with | [_], _ => rfl
  have FPl := fun_mk (st := sPool) lPl cPl kPl
  have bPl := FPl.binds (ps := ["_law_script", "_law_k"]) fun _ _ _ _ _ _ us hl => match us, hl with | [_, _], _ => rfl
  have FDr := fun_mk (st := sDraw) lDr cDr kDr
  have bDr := FDr.binds (ps := ["_law_pool_here", "_law_many"]) fun _ _ _ _ _ _ us hl => match us, hl with | [_, _], _ => rfl
  have FPk := fun_mk (st := sPick) lPk cPk kPk
  have bPk := FPk.binds (ps := ["_law_pool_here", "_law_row"]) fun _ _ _ _ _ _ us hl => match us, hl with | [_, _], _ => rfl
  have FNm := fun_mk (st := sLNames) lNm cNm kNm
  have bNm := FNm.binds (ps := ["_law_pool_here", "_law_count"]) fun _ _ _ _ _ _ us hl => match us, hl with | [_, _], _ => rfl
  have FLt := fun_mk (st := sLTerm) lLt cLt kLt
  have bLt := FLt.binds (ps := ["_law_pool_here", "_law_b", "_law_many", "_law_deep"]) fun _ _ _ _ _ _ us hl => match us, hl with | [_, _, _, _], _ => rfl
  have FLw := fun_mk (st := sLW) lLw cLw kLw
  have bLw := FLw.binds (ps := ["_law_pool_here", "_law_b", "_law_many"]) fun _ _ _ _ _ _ us hl => match us, hl with | [_, _, _], _ => rfl
  have FLb := fun_mk (st := sLB) lLb cLb kLb
  have bLb := FLb.binds (ps := ["_law_pool_here", "_law_most", "_law_deep"]) fun _ _ _ _ _ _ us hl => match us, hl with | [_, _, _], _ => rfl
  have FLf := fun_mk (st := sLF) lLf cLf kLf
  have bLf := FLf.binds (ps := ["_law_f"]) fun _ _ _ _ _ _ us hl => match us, hl with | [_], _ => rfl
  have FLr := fun_mk (st := sRef) lLr cLr kLr
  have bLr := FLr.binds (ps := ["_law_one", "_law_part"]) fun _ _ _ _ _ _ us hl => match us, hl with | [_, _], _ => rfl
  have FLo := fun_mk (st := sOR) lLo cLo kLo
  have bLo := FLo.binds (ps := ["_law_f", "_law_one"]) fun _ _ _ _ _ _ us hl => match us, hl with | [_, _], _ => rfl
  have FLc := fun_mk (st := sCR) lLc cLc kLc
  have bLc := FLc.binds (ps := ["_law_f", "_law_one"]) fun _ _ _ _ _ _ us hl => match us, hl with | [_, _], _ => rfl
  have FLa := fun_mk (st := sLaw) lLa cLa kLa
  have M : Blt mg := ⟨PySem.W.mg_none_of X G z_abs, PySem.W.mg_none_of X G z_int, PySem.W.mg_none_of X G z_len, PySem.W.mg_none_of X G z_sum, PySem.W.mg_none_of X G z_max, PySem.W.mg_none_of X G z_min, PySem.W.mg_none_of X G z_range, PySem.W.mg_none_of X G z_isinstance, PySem.W.mg_none_of X G z_bool, PySem.W.mg_none_of X G z_str, PySem.W.mg_none_of X G z_tuple, PySem.W.mg_none_of X G z_list, PySem.W.mg_none_of X G z_dict, PySem.W.mg_none_of X G z_all, PySem.W.mg_none_of X G z_sorted, PySem.W.mg_none_of X G z_repr, PySem.W.mg_none_of X G z_zip⟩
  have T : LabC K mg cL := ⟨⟨pgL, hdL, poL, saL⟩, nhL, nnL, meL, noL_str, (PySem.W.mg_of X G a_L), caL, cgL, ctL, cmL, neL, soL, nfL⟩
  have R : RowT K mg := ⟨aR, _, (PySem.W.mg_of X G vR), lR, rfl, rfl, fun H => .inr ⟨_, itsR, nR, lR, rfl, rfl, sR, rR⟩⟩
  have oB : OexC K cB := ⟨⟨nmB, qqB, NNB, bsB, _, snB, suB, abB, coB, ddB, maB, mbB, mcB, mdB, me_B, xB, by rfl⟩, saB, exB, tyB, kcB⟩
  have EB : ErrT K mg "BadLabel" "label" cB fBI := ⟨oB, nlB, aBI, tfB, (PySem.W.mg_of X G a_B)⟩
  have oP : OexC K cP := ⟨⟨nmP, qqP, NNP, bsP, _, snP, suP, abP, coP, ddP, maP, mbP, mcP, mdP, me_P, xP, by rfl⟩, saP, exP, tyP, kcP⟩
  have EP : ErrT K mg "BadPart" "part" cP fPI := ⟨oP, nlP, aPI, tfP, (PySem.W.mg_of X G a_P)⟩
  have oT : OexC K cT := ⟨⟨nmT, qqT, NNT, bsT, _, snT, suT, abT, coT, ddT, maT, mbT, mcT, mdT, me_T, xT, by rfl⟩, saT, exT, tyT, kcT⟩
  have ET : ErrT K mg "BadTerm" "term" cT fTI := ⟨oT, nlT, aTI, tfT, (PySem.W.mg_of X G a_T)⟩
  have OB : OwnBase K mg "StoreError" cS := ⟨(PySem.W.mg_of X G a_S), spS, tyS, rdS, fiS⟩
  have NKL : NoKit K cL := fun d => match d with
    | .none => noL_NoneType
    | .bool _ => noL_bool
    | .int _ => noL_int
    | .str _ => noL_str
    | .list _ => noL_list
    | .tuple _ => noL_tuple
    | .dict _ => noL_dict
  have NKF : NoKit K cF := fun d => match d with
    | .none => noF_NoneType
    | .bool _ => noF_bool
    | .int _ => noF_int
    | .str _ => noF_str
    | .list _ => noF_list
    | .tuple _ => noF_tuple
    | .dict _ => noF_dict
  have TC : CellsTxt K mg := ⟨⟨aV, (PySem.W.mg_of X G vV), fun H => .inr ⟨_, itsV, nV, lV, rfl, rfl, sV, rV⟩⟩, ⟨_, (PySem.W.mg_of X G i_LONGEST_NAME)⟩⟩
  have TX : TermsTxt K w mg := ⟨⟨aQ, esL, nQ, (PySem.W.mg_of X G vQ), ⟨lQ, kQ, yQ⟩, fun z => lens_in lQ (eQ z) oQ⟩, ⟨_, (PySem.W.mg_of X G i_MOST_ARGUMENTS)⟩, ⟨_, (PySem.W.mg_of X G i_MOST_DEEP)⟩, ⟨_, (PySem.W.mg_of X G i_MOST_PARTS)⟩⟩
  have CF : CellFns K mg fWh fVa fNa _ _ _ := ⟨FWh, FVa, FNa, bWh, bVa, bNa, (PySem.W.mg_of X G aWh), (PySem.W.mg_of X G aVa), (PySem.W.mg_of X G aNa)⟩
  have TF : FunTxt K mg := ⟨⟨_, (PySem.W.mg_of X G i_MOST_WRITES)⟩, ⟨_, (PySem.W.mg_of X G i_GREATEST_COST)⟩⟩
  have KFu : KitC K cF := ⟨⟨pgF, hdF, poF, saF⟩, meF, caF, cgL, ctL, cmF, NKF⟩
  have FC : FldC K cF := ⟨⟨pgF, hdF, poF, saF⟩, n_name, n_arguments, n_result, n_writes⟩
  have FA : FAtt K cF := ⟨n_name, n_arguments, n_result, n_label, n_writes, n_cost⟩
  have EX : ErrX K mg cP := ⟨(PySem.W.mg_of X G a_P), ⟨gaP, ggP, exP, hdP⟩, nlP, PySem.W.exm_ref exP hdP tyP ePP⟩
  have DF : FunD K "__init__" "Function.__init__" (defArgs sFun) (defBody sFun) (defScope sFun) [] [("label", .str "changing"), ("writes", .ref aW), ("cost", .int 1)] fFI (PySem.W.fnOf "__init__" "Function.__init__" (defArgs sFun) (defBody sFun) (defScope sFun) .none kVFI dcFI pmFI anFI cdFI ctFI) := ⟨⟨_, _, _, _, _, _, _, _, _, _, rfl, lFI, cFI, .inl ⟨rfl, rfl⟩, .inr ⟨aD, kvD, fun q hq => by
    simp only [List.mem_cons, List.not_mem_nil, or_false] at hq
    rcases hq with rfl | rfl | rfl
    · exact ⟨_, d1, ⟨_, rfl⟩⟩
    · exact ⟨_, d2, rfl⟩
    · exact ⟨_, d3, ⟨_, rfl⟩⟩⟩⟩, kFI⟩
  obtain ⟨ds, hds, bds⟩ := DF.binds0 (ps := ["self", "name", "arguments", "result", "label", "writes", "cost"]) 4 (by simp) rfl (fun D doc pm an cdv ct us ks l1 l2 => match us, ks, l1, l2 with | [_, _, _, _], [_, _, _], _, _ => ⟨_, _, _, _, _, _, rfl, rfl, _, _, _, _, _, _, rfl, rfl, _, _, _, _, _, _, rfl, rfl, rfl⟩)
  have kb : KBn K (PySem.W.fnOf "__init__" "Function.__init__" (defArgs sFun) (defBody sFun) (defScope sFun) .none kVFI dcFI pmFI anFI cdFI ctFI) ["self", "name", "arguments", "result", "label", "writes", "cost"] 4 [] (fun us _ => us ++ ds) (fun vs _ => vs ++ [.str "changing", .ref aW, .int 1]) := ⟨fun s us ws X1 l1 l2 => match ws, l2 with | [], _ => bds s us X1 (by rw [List.length_append, l1, ← hds.length]; rfl), fun r1 _ => r1.append hds⟩
  have b3 : KBn K (PySem.W.fnOf "__init__" "Function.__init__" (defArgs sFun) (defBody sFun) (defScope sFun) .none kVFI dcFI pmFI anFI cdFI ctFI) ["self", "name", "arguments", "result", "label", "writes", "cost"] 4 ["label", "writes", "cost"] (fun us ws => us ++ ws) (fun vs zs => vs ++ zs) := ⟨fun s us ws X1 l1 l2 => match us, ws, l1, l2 with | [_, _, _, _], [_, _, _], _, _ => .of_eq rfl, fun r1 r2 => r1.append r2⟩
  exact ⟨PySem.W.fnOf "law" "law" (defArgs sLaw) (defBody sLaw) (defScope sLaw) .none kVLa dcLa pmLa anLa cdLa ctLa, fun s v => .of_eq rfl, fun base _ _ => by
    have GB := ok_badL (P := l.prog) (w := w) (base := base) FBI OB oB nlB
    have GP := ok_badPart (P := l.prog) (w := w) (base := base) FPI OB oP nlP
    have GT := ok_badTerm (P := l.prog) (w := w) (base := base) FTI OB oT nlT
    have GL := ok_lab (P := l.prog) (w := w) (base := base) FLI M T R EB GB bBI
    have LM : LabM l.prog w K mg base cL cB fLI _ := ⟨⟨mkL, aLI, iLI, kcL⟩, GL, bLI, (PySem.W.mg_of X G a_L)⟩
    have GTl := ok_toLab FTl M T NKL LM
    have GWh := ok_whole (P := l.prog) (w := w) (base := base) FWh M
    have GNa := ok_name (P := l.prog) (w := w) (base := base) FNa M TC
    have GI := ok_inner (P := l.prog) (w := w) (base := base) FIn M TC CF
    have GX := ok_next (P := l.prog) (w := w) (base := base) FNx GI FIn bIn ((PySem.W.mg_of X G aIn))
    have GH := ok_has (P := l.prog) (w := w) (base := base) FHa M TC TX CF FCf bCf ((PySem.W.mg_of X G aCf))
    have GTe := ok_term FTe M TX GH FHa bHa ((PySem.W.mg_of X G aHa)) GX FNx bNx ((PySem.W.mg_of X G aNx))
    have GA := ok_areW (P := l.prog) (w := w) (base := base) FAw M TF GNa kNa bNa ((PySem.W.mg_of X G aNa))
    have C : FunC l.prog w K mg base cF cL cB cP cT fNa fWh fTl fTe fAw fPI fTI _ _ _ _ _ _ _ := ⟨GNa, kNa, bNa, (PySem.W.mg_of X G aNa), GWh, kWh, bWh, (PySem.W.mg_of X G aWh), GTl, kTl, bTl, (PySem.W.mg_of X G aTl), GTe, kTe, bTe, (PySem.W.mg_of X G aTe), GA, kAw, bAw, (PySem.W.mg_of X G aAw), EP, GP, bPI, ET, GT, bTI, ⟨_, (PySem.W.mg_of X G i_MOST_ARGUMENTS)⟩, ⟨pgF, hdF, poF, saF⟩, n_name, n_arguments, n_result, n_label, n_writes, n_cost⟩
    have GF := ok_fun (P := l.prog) (w := w) (base := base) FFI M TF C
    have FM : FunM l.prog w K mg base cF cL cB cP cT fFI _ := ⟨⟨mkF, aFI, iFI, kcF⟩, GF, (PySem.W.mg_of X G a_F), b3⟩
    have GLE := ok_labEq (P := l.prog) (w := w) (base := base) FLE M T
    have LQ : LabQ l.prog w K mg base cL fLE _ := ⟨aLE, iLE, GLE, bLE⟩
    have GFE := ok_feq (P := l.prog) (w := w) (base := base) FFE M KFu ((PySem.W.mg_of X G a_F)) FA LQ
    have U : FunQ l.prog w K mg base cF cL cB cP cT fFI fFE aW _ _ _ _ := ⟨FM, kb, fun vs => rfl, fun H => .inr ⟨_, itsW, nW, lW, rfl, rfl, sW, rW⟩, aFE, iFE, GFE, bFE, neF, soF, nfF, ⟨pgF, hdF, poF, saF⟩, FA⟩
    have GFL := ok_lbl FFL FM ⟨pgF, hdF, poF, saF⟩ FA
    have GFC := ok_chg FFC M ⟨aJ, (PySem.W.mg_of X G vJ), fun H => .inr ⟨_, itsJ, nJ, lJ, rfl, rfl, sJ, rJ⟩⟩ FM ⟨pgF, hdF, poF, saF⟩ FA EP GP bPI
    have GFP := ok_fparts (P := l.prog) (w := w) (mg := mg) (base := base) FFP FC
    have GLf := ok_lf FLf FM
    have GLr := ok_ref FLr M ⟨pgF, hdF, poF, saF⟩ ⟨aFC, iFC, kFC⟩ GFC bFC EX
    have GLo := ok_or FLo M U LQ T LM GFP ⟨aFP, iFP, kFP⟩ bFP GLr kLr bLr ((PySem.W.mg_of X G aLr))
    have GLc := ok_cr FLc M U T LM GFL ⟨aFL, iFL, kFL⟩ bFL GFC ⟨aFC, iFC, kFC⟩ bFC GLf kLf bLf ((PySem.W.mg_of X G aLf))
    have GLb := ok_lb (P := l.prog) (w := w) (base := base) FLb M FDr bDr ((PySem.W.mg_of X G aDr)) FPk bPk ((PySem.W.mg_of X G aPk)) FNm bNm ((PySem.W.mg_of X G aNm)) FLt bLt ((PySem.W.mg_of X G aLt)) FLw bLw ((PySem.W.mg_of X G aLw))
    exact ok_law FLa M U FPl bPl ((PySem.W.mg_of X G aPl)) GLb kLb bLb ((PySem.W.mg_of X G aLb)) GLf kLf bLf ((PySem.W.mg_of X G aLf)) GLo kLo bLo ((PySem.W.mg_of X G aLo)) GLc kLc bLc ((PySem.W.mg_of X G aLc))⟩
end Sc
open PySem PySem.W PyProof.Rows
set_option maxHeartbeats 0 in
theorem PySem.Challenge.cw_steadycalls_k05_functions_told_holds : PySem.Challenge.rw_steadycalls_k05_functions_told.Holds := by
  w_on; o_law; k_head; (case hw => w_witness2)
  k_fill
  refine Sc.EndG.walk_told (l := PySem.Challenge.rw_steadycalls_k05_functions_told) (n := 63) (k := 11) (x := "_law_script") (sp := fun w => Sc.spLaw _) rfl (by decide) rfl ⟨rfl, by decide, by decide⟩ (fun w h Y => PySem.W.kIn_of Y) ?F (fun _ _ a ns hl hS => ⟨a, ns, rfl, hS, hl, fun _ => rfl⟩)
  case F =>
    intro w mg fa h KX G hmg
    refine' Sc.all_mk KX G hmg ?a_L ?a_B ?a_P ?a_T ?a_S ?a_F ?aBI ?iBI ?lBI ?cBI ?kBI ?aPI ?iPI ?lPI ?cPI ?kPI ?aTI ?iTI ?lTI ?cTI ?kTI ?aLI ?iLI ?lLI ?cLI ?kLI ?aLE ?iLE ?lLE ?cLE ?kLE ?aFI ?iFI ?lFI ?cFI ?kFI ?aFE ?iFE ?lFE ?cFE ?kFE ?aFL ?iFL ?lFL ?cFL ?kFL ?aFC ?iFC ?lFC ?cFC ?kFC ?aFP ?iFP ?lFP ?cFP ?kFP ?aWh ?lWh ?cWh ?kWh ?aVa ?lVa ?cVa ?kVa ?aNa ?lNa ?cNa ?kNa ?aTl ?lTl ?cTl ?kTl ?aTe ?lTe ?cTe ?kTe ?aHa ?lHa ?cHa ?kHa ?aCf ?lCf ?cCf ?kCf ?aIn ?lIn ?cIn ?kIn ?aNx ?lNx ?cNx ?kNx ?aAw ?lAw ?cAw ?kAw ?aPl ?lPl ?cPl ?kPl ?aDr ?lDr ?cDr ?kDr ?aPk ?lPk ?cPk ?kPk ?aNm ?lNm ?cNm ?kNm ?aLt ?lLt ?cLt ?kLt ?aLw ?lLw ?cLw ?kLw ?aLb ?lLb ?cLb ?kLb ?aLf ?lLf ?cLf ?kLf ?aLr ?lLr ?cLr ?kLr ?aLo ?lLo ?cLo ?kLo ?aLc ?lLc ?cLc ?kLc ?aLa ?lLa ?cLa ?kLa ?z_abs ?z_int ?z_len ?z_sum ?z_max ?z_min ?z_range ?z_isinstance ?z_bool ?z_str ?z_tuple ?z_list ?z_dict ?z_all ?z_sorted ?z_repr ?z_zip ?z_ValueError ?i_LONGEST_NAME ?i_MOST_ARGUMENTS ?i_MOST_DEEP ?i_MOST_PARTS ?i_MOST_WRITES ?i_GREATEST_COST ?pgL ?hdL ?poL ?saL ?mkL ?kcL ?pgF ?hdF ?poF ?saF ?mkF ?kcF ?cgL ?ctL ?meL ?caL ?cmL ?noL_NoneType ?noL_bool ?noL_int ?noL_str ?noL_list ?noL_tuple ?noL_dict ?meF ?caF ?cmF ?noF_NoneType ?noF_bool ?noF_int ?noF_str ?noF_list ?noF_tuple ?noF_dict ?neL ?soL ?nfL ?neF ?soF ?nfF ?nhL ?nnL ?n_name ?n_arguments ?n_result ?n_label ?n_writes ?n_cost ?xB ?saB ?exB ?tyB ?kcB ?nlB ?tfB ?gaB ?ggB ?hdB ?xP ?saP ?exP ?tyP ?kcP ?nlP ?tfP ?gaP ?ggP ?hdP ?xT ?saT ?exT ?tyT ?kcT ?nlT ?tfT ?gaT ?ggT ?hdT ?ePP ?spS ?tyS ?rdS ?fiS ?vR ?lR ?rR ?sR ?vV ?lV ?rV ?sV ?vJ ?lJ ?rJ ?sJ ?vQ ?lQ ?kQ ?yQ ?eQ ?oQ ?kvD ?d1 ?d2 ?d3 ?lW ?rW ?sW
    case a_L => k_is
    case a_B => k_is
    case a_P => k_is
    case a_T => k_is
    case a_S => k_is
    case a_F => k_is
    case aBI => k_is
    case iBI => k_is
    case lBI => k_is
    case cBI => k_is
    case kBI => k_is
    case aPI => k_is
    case iPI => k_is
    case lPI => k_is
    case cPI => k_is
    case kPI => k_is
    case aTI => k_is
    case iTI => k_is
    case lTI => k_is
    case cTI => k_is
    case kTI => k_is
    case aLI => k_is
    case iLI => k_is
    case lLI => k_is
    case cLI => k_is
    case kLI => k_is
    case aLE => k_is
    case iLE => k_is
    case lLE => k_is
    case cLE => k_is
    case kLE => k_is
    case aFI => k_is
    case iFI => k_is
    case lFI => k_is
    case cFI => k_is
    case kFI => k_is
    case aFE => k_is
    case iFE => k_is
    case lFE => k_is
    case cFE => k_is
    case kFE => k_is
    case aFL => k_is
    case iFL => k_is
    case lFL => k_is
    case cFL => k_is
    case kFL => k_is
    case aFC => k_is
    case iFC => k_is
    case lFC => k_is
    case cFC => k_is
    case kFC => k_is
    case aFP => k_is
    case iFP => k_is
    case lFP => k_is
    case cFP => k_is
    case kFP => k_is
    case aWh => k_is
    case lWh => k_is
    case cWh => k_is
    case kWh => k_is
    case aVa => k_is
    case lVa => k_is
    case cVa => k_is
    case kVa => k_is
    case aNa => k_is
    case lNa => k_is
    case cNa => k_is
    case kNa => k_is
    case aTl => k_is
    case lTl => k_is
    case cTl => k_is
    case kTl => k_is
    case aTe => k_is
    case lTe => k_is
    case cTe => k_is
    case kTe => k_is
    case aHa => k_is
    case lHa => k_is
    case cHa => k_is
    case kHa => k_is
    case aCf => k_is
    case lCf => k_is
    case cCf => k_is
    case kCf => k_is
    case aIn => k_is
    case lIn => k_is
    case cIn => k_is
    case kIn => k_is
    case aNx => k_is
    case lNx => k_is
    case cNx => k_is
    case kNx => k_is
    case aAw => k_is
    case lAw => k_is
    case cAw => k_is
    case kAw => k_is
    case aPl => k_is
    case lPl => k_is
    case cPl => k_is
    case kPl => k_is
    case aDr => k_is
    case lDr => k_is
    case cDr => k_is
    case kDr => k_is
    case aPk => k_is
    case lPk => k_is
    case cPk => k_is
    case kPk => k_is
    case aNm => k_is
    case lNm => k_is
    case cNm => k_is
    case kNm => k_is
    case aLt => k_is
    case lLt => k_is
    case cLt => k_is
    case kLt => k_is
    case aLw => k_is
    case lLw => k_is
    case cLw => k_is
    case kLw => k_is
    case aLb => k_is
    case lLb => k_is
    case cLb => k_is
    case kLb => k_is
    case aLf => k_is
    case lLf => k_is
    case cLf => k_is
    case kLf => k_is
    case aLr => k_is
    case lLr => k_is
    case cLr => k_is
    case kLr => k_is
    case aLo => k_is
    case lLo => k_is
    case cLo => k_is
    case kLo => k_is
    case aLc => k_is
    case lLc => k_is
    case cLc => k_is
    case kLc => k_is
    case aLa => k_is
    case lLa => k_is
    case cLa => k_is
    case kLa => k_is
    case z_abs => k_is
    case z_int => k_is
    case z_len => k_is
    case z_sum => k_is
    case z_max => k_is
    case z_min => k_is
    case z_range => k_is
    case z_isinstance => k_is
    case z_bool => k_is
    case z_str => k_is
    case z_tuple => k_is
    case z_list => k_is
    case z_dict => k_is
    case z_all => k_is
    case z_sorted => k_is
    case z_repr => k_is
    case z_zip => k_is
    case z_ValueError => k_is
    case i_LONGEST_NAME => k_is
    case i_MOST_ARGUMENTS => k_is
    case i_MOST_DEEP => k_is
    case i_MOST_PARTS => k_is
    case i_MOST_WRITES => k_is
    case i_GREATEST_COST => k_is
    case pgL => k_is
    case hdL => k_is
    case poL => k_is
    case saL => k_is
    case mkL => k_is
    case kcL => k_is
    case pgF => k_is
    case hdF => k_is
    case poF => k_is
    case saF => k_is
    case mkF => k_is
    case kcF => k_is
    case cgL => k_is
    case ctL => k_is
    case meL => first | k_is | rfl | decide +kernel
    case caL => k_is
    case cmL => k_is
    case noL_NoneType => first | k_is | rfl | decide +kernel
    case noL_bool => first | k_is | rfl | decide +kernel
    case noL_int => first | k_is | rfl | decide +kernel
    case noL_str => first | k_is | rfl | decide +kernel
    case noL_list => first | k_is | rfl | decide +kernel
    case noL_tuple => first | k_is | rfl | decide +kernel
    case noL_dict => first | k_is | rfl | decide +kernel
    case meF => first | k_is | rfl | decide +kernel
    case caF => k_is
    case cmF => k_is
    case noF_NoneType => first | k_is | rfl | decide +kernel
    case noF_bool => first | k_is | rfl | decide +kernel
    case noF_int => first | k_is | rfl | decide +kernel
    case noF_str => first | k_is | rfl | decide +kernel
    case noF_list => first | k_is | rfl | decide +kernel
    case noF_tuple => first | k_is | rfl | decide +kernel
    case noF_dict => first | k_is | rfl | decide +kernel
    case neL => k_is
    case soL => k_is
    case nfL => first | k_is | rfl | decide +kernel
    case neF => k_is
    case soF => k_is
    case nfF => first | k_is | rfl | decide +kernel
    case nhL => k_is
    case nnL => k_is
    case n_name => k_is
    case n_arguments => k_is
    case n_result => k_is
    case n_label => k_is
    case n_writes => k_is
    case n_cost => k_is
    case xB => k_is
    case saB => k_is
    case exB => k_is
    case tyB => k_is
    case kcB => k_is
    case nlB => k_is
    case tfB => k_is
    case gaB => k_is
    case ggB => k_is
    case hdB => k_is
    case xP => k_is
    case saP => k_is
    case exP => k_is
    case tyP => k_is
    case kcP => k_is
    case nlP => k_is
    case tfP => k_is
    case gaP => k_is
    case ggP => k_is
    case hdP => k_is
    case xT => k_is
    case saT => k_is
    case exT => k_is
    case tyT => k_is
    case kcT => k_is
    case nlT => k_is
    case tfT => k_is
    case gaT => k_is
    case ggT => k_is
    case hdT => k_is
    case ePP => first | k_is | rfl | decide +kernel
    case spS => k_is
    case tyS => k_is
    case rdS => first | k_is | rfl | decide +kernel
    case fiS => first | k_is | rfl | decide +kernel
    case vR => k_is
    case lR => k_is
    case rR => first | exact .nil | exact .cons ⟨_, rfl⟩ (.cons ⟨_, rfl⟩ (.cons ⟨_, rfl⟩ .nil)) | exact .cons ⟨_, rfl⟩ (.cons ⟨_, rfl⟩ (.cons ⟨_, rfl⟩ (.cons ⟨_, rfl⟩ .nil)))
    case sR => decide +kernel
    case vV => k_is
    case lV => k_is
    case rV => first | exact .nil | exact .cons ⟨_, rfl⟩ (.cons ⟨_, rfl⟩ (.cons ⟨_, rfl⟩ .nil)) | exact .cons ⟨_, rfl⟩ (.cons ⟨_, rfl⟩ (.cons ⟨_, rfl⟩ (.cons ⟨_, rfl⟩ .nil)))
    case sV => decide +kernel
    case vJ => k_is
    case lJ => k_is
    case rJ => first | exact .nil | exact .cons ⟨_, rfl⟩ (.cons ⟨_, rfl⟩ (.cons ⟨_, rfl⟩ .nil)) | exact .cons ⟨_, rfl⟩ (.cons ⟨_, rfl⟩ (.cons ⟨_, rfl⟩ (.cons ⟨_, rfl⟩ .nil)))
    case sJ => decide +kernel
    case vQ => k_is
    case lQ => k_is
    case kQ => first | k_is | exact ⟨⟨_, _, rfl, rfl⟩, ⟨_, _, rfl, rfl⟩, ⟨_, _, rfl, rfl⟩, ⟨_, _, rfl, rfl⟩, ⟨_, _, rfl, rfl⟩, trivial⟩
    case yQ => first | rfl | decide +kernel
    case eQ => exact fun z => Sc.lens_five z _ _ _ _ _ rfl rfl rfl rfl rfl ⟨_, rfl⟩ ⟨_, rfl⟩ ⟨_, rfl⟩ ⟨_, rfl⟩ ⟨_, rfl⟩
    case oQ => first | rfl | decide +kernel
    case kvD => rfl
    case d1 => k_is
    case d2 => k_is
    case d3 => k_is
    case lW => k_is
    case rW => exact .nil
    case sW => decide +kernel


