import PyProof.Rows.All
import Wide.All
import OpenK.AllK
import Wide.FinOn
import HandS.Base
import HandS.Call
import HandS.List
import HandS.Comp
import HandS.Ends
import HandS.Words
import HandS.Dict
import HandS.Iter
import HandS.Text
import HandS.Evl
import HandS.IsInst
import HandS.Walk
import HandS.More
import HandS.TupAny
import HandS.TupMul
import HandS.TupLe
import PySem.Challenge.RW_steadycalls_k04_terms_at_the_bounds
set_option Elab.async false
set_option linter.all false
set_option maxRecDepth 100000
set_option maxHeartbeats 4000000
namespace Sc
open PySem PySem.Spec PyProof.Rows L2
def topS (i : Nat) : Stmt := PySem.Challenge.pw_steadycalls_k04_terms_at_the_bounds.main.body.getD i (.Pass ⟨0, 0, 0, 0⟩)
abbrev sPool : Stmt := topS 20
abbrev sDraw : Stmt := topS 21
abbrev sPick : Stmt := topS 22
theorem scPool : FnScope ["_law_script", "_law_k", "_law_cell", "_law_size", "_law_mixed"] ["_law_script", "_law_k"] (defScope sPool) := ⟨rfl, rfl, rfl, by decide +kernel, rfl, by decide +kernel, by decide +kernel⟩
theorem scDraw : FnScope ["_law_pool_here", "_law_many", "_law_found"] ["_law_pool_here", "_law_many"] (defScope sDraw) := ⟨rfl, rfl, rfl, by decide +kernel, rfl, by decide +kernel, by decide +kernel⟩
theorem scPick : FnScope ["_law_pool_here", "_law_row_here"] ["_law_pool_here", "_law_row_here"] (defScope sPick) := ⟨rfl, rfl, rfl, by decide +kernel, rfl, by decide +kernel, by decide +kernel⟩
/-- a pool of draws stands at p -/
def PoolAt (H : Hp) (p : Addr) : Prop := ∃ x y : Int, H p = some (.lst [.int x, .int y]) ∧ 0 ≤ x ∧ 0 ≤ y ∧ y < 2147483648
/-- all that was known but for p is as it was -/
def But (p : Addr) (H H' : Hp) : Prop := ∀ b o, H b = some o → b ≠ p → H' b = some o
theorem But.refl (p : Addr) (H : Hp) : But p H H := fun _ _ h _ => h
theorem But.trans {p : Addr} {H H1 H2 : Hp} (a : But p H H1) (b : But p H1 H2) : But p H H2 := fun c o h n => b c o (a c o h n) n
theorem But.of {p : Addr} {H H' : Hp} (s : Same H H') : But p H H' := fun b o h _ => s b o h
theorem same_upd {H : Hp} {p : Addr} {o : HO} (h : H p = none) : Same H (upd H p o) := fun b x e => by
  rw [upd_ne (ne_of_none e h)]
  exact e
theorem But.upd {p : Addr} {H : Hp} {o : HO} : But p H (L2.upd H p o) := fun b x e n => by
  rw [upd_ne n]
  exact e
/-- what an expression gives, by what is true of it -/
theorem q_asgP {te : TE} {tz : TS} {D : Ends} {σ : L2.St} {H : Hp} {i : Nat} (Pr : V → Hp → Prop) (h : ∀ Q : VK, (∀ v H', Pr v H' → Q v H') → te σ H Q) (k : ∀ v H1, Pr v H1 → tz D (σ.set i (some v)) H1) : tSeq (tAsg te (gName i)) tz D σ H := h _ k
theorem But.rd {p : Addr} {H H' : Hp} (b : But p H H') {a : Addr} {u : HO} (n : a ≠ p) (h : Rd H a u) : Rd H' a u := by
  rcases h with h | ⟨o, h⟩
  · exact .inl (b _ _ h n)
  · exact .inr ⟨o, b _ _ h n⟩
theorem But.seq {p : Addr} {H H' : Hp} (b : But p H H') {K : PySem.W.Frag} {a : Addr} {xs : List V} (n : a ≠ p) (h : SqL K H a xs) : SqL K H' a xs := h.imp (b.rd n) id
theorem But.seqT {p : Addr} {H H' : Hp} (b : But p H H') {K : PySem.W.Frag} {a : Addr} {xs : List V} (n : a ≠ p) (h : SqT K H a xs) : SqT K H' a xs := h.imp (b.rd n) id
theorem at_nn {xs : List V} {v : Int} {x : V} (h0 : 0 ≤ v) (h : xs[v.toNat]? = some x) : atI xs v = some x := by
  obtain ⟨n, rfl⟩ := Int.eq_ofNat_of_zero_le h0
  exact atI_nat h
theorem b01 (b : Bool) : 0 ≤ (if b = true then (1 : Int) else 0) ∧ (if b = true then (1 : Int) else 0) ≤ 1 := by cases b <;> decide
structure Blt (mg : Str → Option Value) : Prop where
  abs : mg "abs" = none
  int : mg "int" = none
  len : mg "len" = none
  sum : mg "sum" = none
  max : mg "max" = none
  min : mg "min" = none
  range : mg "range" = none
  isinstance : mg "isinstance" = none
  bool : mg "bool" = none
  str : mg "str" = none
  tuple : mg "tuple" = none
  list : mg "list" = none
  dict : mg "dict" = none
  all : mg "all" = none
  sorted : mg "sorted" = none
  repr : mg "repr" = none
  zip : mg "zip" = none
section
variable {P : Program} {w : World} {K : PySem.W.Frag} {mg : Str → Option Value} {base : Heap}
def spPool (K : PySem.W.Frag) : Sp := fun vs H Q _ => ∃ (a : Addr) (ns : List Int) (k : Nat), vs = [.ref a, .int k] ∧ SqL K H a (ns.map V.int) ∧ k ≤ 1 ∧ (k < ns.length ∨ ns = []) ∧
  ∀ H' p, H p = none → Same H H' → PoolAt H' p → Q (.ref p) H'
theorem ok_pool {f : Addr} {fd : FuncData} (F : Fun K "_law_pool" "_law_pool" sPool f fd) (M : Blt mg) : FnOk P w K mg base CX0 1 f fd ["_law_script", "_law_k"] (spPool K) := by
  refine F.ok scPool (fun vs H Q E h => ?_) (fun cdv A outer s H vs Q E hr h => ?_)
  · obtain ⟨a, ns, k, rfl, _⟩ := h
    rfl
  · obtain ⟨a, ns, k, rfl, hS, hk, hin, q⟩ := h
    refine ⟨_, pss_cons (ps_set (i := 2) scPool.nd rfl (.inl rfl) (pe_ifExp (pt_cmpR op_lt (pv 1) (pe_callB call_len_seq (by rfl) M.len PySem.boot_len (pa_cons (pv 0) pa_nil)) (nomark _))
        (pe_ix ix_list (pv 0) (pv 1) (fun _ _ => rfl))
        (pe_op op_add (pe_op op_mul pe_int (pe_callB (cr_sum rfl) (by rfl) M.sum (by decide +kernel) (pa_cons (pe_slice sl_list (pv 0) po_none (po_some pe_int)) pa_nil))) (pv 1))))
      (pss_cons (ps_set (i := 3) scPool.nd rfl (.inl rfl) (pe_callB call_abs (by rfl) M.abs (by decide +kernel) (pa_cons (pv 2) pa_nil)))
      (pss_cons (ps_set (i := 4) scPool.nd rfl (.inl rfl)
        (pe_op op_add (pe_op op_add (pe_op op_add (pe_op op_mod (pe_callTy call_int1 (by rfl) M.int (by decide +kernel) (pa_cons (pv 3) pa_nil)) pe_int)
          (pe_op op_mul (pe_op op_mul pe_int (pv 1)) (pv 1))) (pe_op op_mul pe_int (pv 1))) pe_int))
      (pss_cons (ps_set (i := 4) scPool.nd rfl (.inl rfl)
        (pe_op op_mod (pe_callTy call_int1 (by rfl) M.int (by decide +kernel) (pa_cons (pe_op op_mul (pv 4) pe_int) pa_nil)) pe_int))
      (pss_one (ps_ret (pe_lst (pa_cons
          (pe_op op_mul (pv 3) (pe_callTy call_int1 (by rfl) M.int (by decide +kernel) (pa_cons (pe_cmpR op_ge (pv 3) (pe_op op_pow pe_int pe_int) (nomark _)) pa_nil)))
          (pa_cons (pe_op op_mod (pe_callTy call_int1 (by rfl) M.int (by decide +kernel) (pa_cons (pe_op op_mul (pv 4) (pv 4)) pa_nil)) pe_int) pa_nil)))))))), ?_⟩
    refine q_asgP (Pr := fun v H1 => (∃ c : Int, v = .int c) ∧ Same H H1) (fun Q' hq => ?_) (fun v H1 hv => ?_)
    · refine ⟨_, rfl, _, rfl, _, _, rfl, .inl hS, _, _, rfl, rfl, _, rfl, ite2 (fun e => ?_) (fun e => ?_)⟩
      · have e1 := of_decide_eq_true e
        rw [List.length_map] at e1
        have e2 : k < ns.length := by omega
        refine ⟨_, rfl, _, rfl, a, ns.map V.int, k, .int ns[k], rfl, rfl, hS, atI_nat ?_, hq _ _ ⟨⟨_, rfl⟩, Same.refl H⟩⟩
        rw [List.getElem?_map, List.getElem?_eq_getElem e2]
        rfl
      · have e1 : ns = [] := by
          rcases hin with h | h
          · refine absurd (decide_eq_true ?_) e
            rw [List.length_map]
            omega
          · exact h
        subst e1
        refine ⟨_, rfl, 63, rfl, a, _, rfl, hS, fun p np => ?_⟩
        refine ⟨p, [], rfl, .inl (.inl (upd_same.trans ?_)), _, _, rfl, rfl, .inl ⟨by decide, by decide⟩, _, rfl, _, _, rfl, rfl, hq _ _ ⟨⟨_, rfl⟩, same_upd np⟩⟩
        rfl
    · obtain ⟨⟨c, rfl⟩, s1⟩ := hv
      have hz : 0 ≤ (if c < 0 then -c else c) := by split <;> omega
      have fin : ∀ (x y : Int), 0 ≤ x → 0 ≤ y → y < 2147483648 → ∀ p, H1 p = none → Q (.ref p) (upd H1 p (.lst [.int x, .int y])) := fun x y hx hy hy2 p np =>
        q _ p (s1.free np) (s1.trans (same_upd np)) ⟨x, y, upd_same, hx, hy, hy2⟩
      refine ⟨.int c, rfl, _, rfl, ?_⟩
      refine ⟨_, rfl, .inl ⟨_, rfl, _, _, rfl, rfl, (by show (0 : Int) < 2147483629; decide), ?_⟩⟩
      have m1 : 0 ≤ (if c < 0 then -c else c) % 2147483629 := Int.emod_nonneg _ (by decide)
      have m2 : (if c < 0 then -c else c) % 2147483629 < 2147483629 := Int.emod_lt_of_pos _ (by decide)
      have k0 : (7919 * (k : Int) * (k : Int)) ≤ 7919 ∧ 0 ≤ (7919 * (k : Int) * (k : Int)) := by
        rcases (show k = 0 ∨ k = 1 by omega) with e | e <;> subst e <;> decide
      refine ⟨_, rfl, _, _, rfl, rfl, .inl ⟨by decide, by decide⟩, _, rfl, _, _, rfl, rfl, .inr ⟨by omega, by omega⟩, _, _, rfl, rfl, _, rfl, _, _, rfl, rfl, .inl ⟨by decide, by decide⟩, _, _, rfl, rfl, _, _, rfl, rfl, ?_⟩
      refine ⟨_, rfl, _, _, rfl, rfl, .inr ⟨by decide, by decide⟩, .inl ⟨_, rfl, _, _, rfl, rfl, (by show (0 : Int) < 2147483647; decide), ?_⟩⟩
      have n1 : 0 ≤ ((if c < 0 then -c else c) % 2147483629 + 7919 * (k : Int) * (k : Int) + 31 * (k : Int) + 17) * 48271 % 2147483647 := Int.emod_nonneg _ (by decide)
      have n2 : ((if c < 0 then -c else c) % 2147483629 + 7919 * (k : Int) * (k : Int) + 31 * (k : Int) + 17) * 48271 % 2147483647 < 2147483647 := Int.emod_lt_of_pos _ (by decide)
      refine ⟨_, rfl, _, rfl, _, _, rfl, rfl, ⟨by decide, by decide, by decide⟩, _, _, rfl, rfl, ?_⟩
      refine .inr ⟨_, rfl, ?_⟩
      refine ⟨_, _, rfl, rfl, .inr ?_, _, rfl, _, rfl, _, _, rfl, rfl, .inl ⟨by omega, by omega⟩, .inl ⟨_, rfl, _, _, rfl, rfl, (by show (0 : Int) < 2147483629; decide), (by show 2 ≤ sizeLine; decide), fun p np => ?_⟩⟩
      · exact ⟨Int.lt_of_lt_of_le (by decide) (b01 _).1, Int.lt_of_le_of_lt (b01 _).2 (by decide)⟩
      · refine fin _ _ (Int.mul_nonneg hz (b01 _).1) (Int.emod_nonneg _ (by decide)) ?_ p np
        exact Int.lt_trans (Int.emod_lt_of_pos _ (by decide)) (by decide)
def spDraw : Sp := fun vs H Q _ => ∃ (p : Addr) (n : Int), vs = [.ref p, .int n] ∧ PoolAt H p ∧ 0 < n ∧ n ≤ 1000000000 ∧
  ∀ (v : Int) H', 0 ≤ v → v < n → But p H H' → PoolAt H' p → (∀ b, H b = none → H' b = none) → Q (.int v) H'
theorem ok_draw {f : Addr} {fd : FuncData} (F : Fun K "_law_draw" "_law_draw" sDraw f fd) (M : Blt mg) : FnOk P w K mg base CX0 1 f fd ["_law_pool_here", "_law_many"] spDraw := by
  refine F.ok scDraw (fun vs H Q E h => ?_) (fun cdv A outer s H vs Q E hr h => ?_)
  · obtain ⟨p, n, rfl, _⟩ := h
    rfl
  · obtain ⟨p, n, rfl, ⟨x, y, hp, hx, hy, hy2⟩, hn, hn2, q⟩ := h
    refine ⟨_, pss_cons (ps_if (pt_cmpR op_gt (pe_ix ix_list (pv 0) pe_int (fun _ _ => rfl)) pe_int (nomark _))
        (pss_cons (ps_set (i := 2) scDraw.nd rfl (.inl rfl) (pe_op op_mod (pe_callTy call_int1 (by rfl) M.int (by decide +kernel) (pa_cons (pe_ix ix_list (pv 0) pe_int (fun _ _ => rfl)) pa_nil)) (pv 1)))
        (pss_cons (ps_asg (pe_op op_fdiv (pe_ix ix_list (pv 0) pe_int (fun _ _ => rfl)) (pv 1)) (pg_sub (pv 0) pe_int set_list))
        (pss_one (ps_ret (pv 2))))) pss_nil)
      (pss_cons (ps_asg (pe_op op_mod (pe_callTy call_int1 (by rfl) M.int (by decide +kernel) (pa_cons (pe_op op_add (pe_op op_mul (pe_ix ix_list (pv 0) pe_int (fun _ _ => rfl)) pe_int) pe_int) pa_nil)) pe_int) (pg_sub (pv 0) pe_int set_list))
      (pss_one (ps_ret (pe_op op_mod (pe_callTy call_int1 (by rfl) M.int (by decide +kernel) (pa_cons (pe_op op_fdiv (pe_op op_mod (pe_callTy call_int1 (by rfl) M.int (by decide +kernel)
          (pa_cons (pe_op op_mul (pe_ix ix_list (pv 0) pe_int (fun _ _ => rfl)) (pe_ix ix_list (pv 0) pe_int (fun _ _ => rfl))) pa_nil)) pe_int) pe_int) pa_nil)) (pv 1))))), ?_⟩
    have hS : SqL K H p [.int x, .int y] := .inl (.inl hp)
    have fr : ∀ o b, H b = none → upd H p o b = none := fun o b hb => by
      rw [upd_ne (fun e => by rw [e, hp] at hb; cases hb)]
      exact hb
    refine ⟨.ref p, rfl, p, _, 0, .int x, rfl, rfl, hS, rfl, x, 0, rfl, rfl, _, rfl, ite2 (fun e => ?_) (fun e => ?_)⟩
    · refine ⟨.ref p, rfl, p, _, 0, .int x, rfl, rfl, hS, rfl, .inl ⟨x, rfl, _, rfl, x, n, rfl, rfl, hn, ?_⟩⟩
      refine ⟨.ref p, rfl, p, _, 0, .int x, rfl, rfl, hS, rfl, .int n, rfl, x, n, rfl, rfl, ⟨hn, by omega⟩, ?_⟩
      refine ⟨.ref p, rfl, p, _, 0, 0, rfl, rfl, hp, rfl, ?_⟩
      refine ⟨_, rfl, q _ _ (Int.emod_nonneg _ (by omega)) (Int.emod_lt_of_pos _ hn) But.upd ⟨_, y, upd_same, ?_, hy, hy2⟩ (fr _)⟩
      exact Int.ediv_nonneg hx (by omega)
    · refine ⟨.ref p, rfl, p, _, 1, .int y, rfl, rfl, hS, rfl, y, _, rfl, rfl, .inl ⟨by omega, by omega⟩, _, _, rfl, rfl, .inl ⟨_, rfl, _, _, rfl, rfl, (by show (0 : Int) < 2147483647; decide), ?_⟩⟩
      refine ⟨.ref p, rfl, p, _, 1, 1, rfl, rfl, hp, rfl, ?_⟩
      have b1 : 0 ≤ (y * 48271 + 11) % 2147483647 := Int.emod_nonneg _ (by decide)
      have b2 : (y * 48271 + 11) % 2147483647 < 2147483647 := Int.emod_lt_of_pos _ (by decide)
      have hS2 : SqL K (upd H p (.lst ([V.int x, .int y].set 1 (.int ((y * 48271 + 11) % 2147483647))))) p [.int x, .int ((y * 48271 + 11) % 2147483647)] := .inl (.inl upd_same)
      refine ⟨.ref p, rfl, p, _, 1, _, rfl, rfl, hS2, rfl, .ref p, rfl, p, _, 1, _, rfl, rfl, hS2, rfl, _, _, rfl, rfl, .inl ⟨by omega, by omega⟩, .inl ⟨_, rfl, _, _, rfl, rfl, (by show (0 : Int) < 2147483629; decide), _, _, rfl, rfl, ⟨by decide, by decide⟩, .inl ⟨_, rfl, ?_⟩⟩⟩
      refine ⟨.int n, rfl, _, n, rfl, rfl, hn, ?_⟩
      exact q _ _ (Int.emod_nonneg _ (by omega)) (Int.emod_lt_of_pos _ hn) But.upd ⟨x, _, upd_same, hx, b1, by omega⟩ (fr _)
def spPick (K : PySem.W.Frag) : Sp := fun vs H Q _ => ∃ (p r : Addr) (xs : List V), vs = [.ref p, .ref r] ∧ PoolAt H p ∧ p ≠ r ∧ (SqL K H r xs ∨ SqT K H r xs) ∧ 0 < xs.length ∧ xs.length ≤ 1000000 ∧
  ∀ (i : Nat) (hi : i < xs.length) H', But p H H' → PoolAt H' p → (∀ b, H b = none → H' b = none) → Q xs[i] H'
theorem ok_pick {f fD : Addr} {fd fdD : FuncData} (F : Fun K "_law_pick" "_law_pick" sPick f fd) (M : Blt mg) (FD : Fun K "_law_draw" "_law_draw" sDraw fD fdD) (bD : Binds K fdD ["_law_pool_here", "_law_many"] []) (gD : mg "_law_draw" = some (.ref fD)) :
    FnOk P w K mg base CX0 2 f fd ["_law_pool_here", "_law_row_here"] (spPick K) := by
  have GD : FnOk P w K mg base CX0 1 fD fdD ["_law_pool_here", "_law_many"] spDraw := ok_draw FD M
  refine F.ok scPick (fun vs H Q E h => ?_) (fun cdv A outer s H vs Q E hr h => ?_)
  · obtain ⟨p, r, xs, rfl, _⟩ := h
    rfl
  · obtain ⟨p, r, xs, rfl, hp, npr, hS, hl, hl2, q⟩ := h
    refine ⟨_, pss_one (ps_ret (pe_ix ix_seq (pv 1) (pe_call GD hr (by rfl) gD FD.kp bD .nil pass0 (pa_cons (pv 0) (pa_cons (pe_callB call_len_seq (by rfl) M.len PySem.boot_len (pa_cons (pv 1) pa_nil)) pa_nil))) (fun _ _ => rfl))), ?_⟩
    refine ⟨_, rfl, _, rfl, _, rfl, _, _, rfl, hS, p, _, rfl, hp, by omega, by omega, fun v H' v0 v1 bt hp' fr => ?_⟩
    have hv : v.toNat < xs.length := by omega
    have ha : atI xs v = some xs[v.toNat] := at_nn v0 (List.getElem?_eq_getElem hv)
    have sk : SqL K H' r xs ∨ SqT K H' r xs := hS.imp (bt.seq npr.symm) (bt.seqT npr.symm)
    rcases sk with sk | sk
    · exact .inl ⟨_, _, _, _, rfl, rfl, sk, ha, q _ hv _ bt hp' fr⟩
    · exact .inr (.inl ⟨_, _, _, _, rfl, rfl, sk, ha, q _ hv _ bt hp' fr⟩)
end
/-! ### data -/
mutual
theorem dp_mono {K : PySem.W.Frag} {H H' : Hp} (ht : ∀ a xs, SqT K H a xs → SqT K H' a xs) (hl : ∀ a xs, SqL K H a xs → SqL K H' a xs) : ∀ (d : PyData) (v : V), Dp K H v d → Dp K H' v d
  | .none, _, h => by
    cases h
    exact .non
  | .bool b, _, h => by
    cases h
    exact .bl b
  | .int i, _, h => by
    cases h
    exact .int i
  | .str x, _, h => by
    cases h
    exact .str x
  | .list ds, _, h => by
    cases h with
    | lst hs ha => exact .lst (hl _ _ hs) (dpAll_mono ht hl ds _ ha)
  | .tuple ds, _, h => by
    cases h with
    | tup hs ha => exact .tup (ht _ _ hs) (dpAll_mono ht hl ds _ ha)
  | .dict _, _, h => by cases h
theorem dpAll_mono {K : PySem.W.Frag} {H H' : Hp} (ht : ∀ a xs, SqT K H a xs → SqT K H' a xs) (hl : ∀ a xs, SqL K H a xs → SqL K H' a xs) : ∀ (ds : List PyData) (vs : List V), DpAll K H vs ds → DpAll K H' vs ds
  | [], _, h => by
    cases h
    exact .nil
  | d :: ds, _, h => by
    cases h with
    | cons h1 h2 => exact .cons (dp_mono ht hl d _ h1) (dpAll_mono ht hl ds _ h2)
end
theorem same_sqT {K : PySem.W.Frag} {H H' : Hp} (s : Same H H') {a : Addr} {xs : List V} (h : SqT K H a xs) : SqT K H' a xs := by
  rcases h with (h | ⟨o, h⟩) | h
  · exact .inl (.inl (s _ _ h))
  · exact .inl (.inr ⟨o, s _ _ h⟩)
  · exact .inr h
theorem dp_same {K : PySem.W.Frag} {H H' : Hp} (s : Same H H') {d : PyData} {v : V} (h : Dp K H v d) : Dp K H' v d := dp_mono (fun _ _ => same_sqT s) (fun _ _ => s.seq) d v h
theorem dpA_same {K : PySem.W.Frag} {H H' : Hp} (s : Same H H') {ds : List PyData} {vs : List V} (h : DpAll K H vs ds) : DpAll K H' vs ds := dpAll_mono (fun _ _ => same_sqT s) (fun _ _ => s.seq) ds vs h
/-! data without lists -/
mutual
def noL : PyData → Bool
  | .list _ => false
  | .tuple ds => noLs ds
  | .dict _ => false
  | _ => true
def noLs : List PyData → Bool
  | [] => true
  | d :: ds => noL d && noLs ds
end
mutual
theorem dp_tups {K : PySem.W.Frag} {H H' : Hp} (ht : ∀ a xs, SqT K H a xs → SqT K H' a xs) : ∀ (d : PyData) (v : V), noL d = true → Dp K H v d → Dp K H' v d
  | .none, _, _, h => by
    cases h
    exact .non
  | .bool b, _, _, h => by
    cases h
    exact .bl b
  | .int i, _, _, h => by
    cases h
    exact .int i
  | .str x, _, _, h => by
    cases h
    exact .str x
  | .list ds, _, n, _ => by cases n
  | .tuple ds, _, n, h => by
    cases h with
    | tup hs ha => exact .tup (ht _ _ hs) (dpAll_tups ht ds _ n ha)
  | .dict _, _, _, h => by cases h
theorem dpAll_tups {K : PySem.W.Frag} {H H' : Hp} (ht : ∀ a xs, SqT K H a xs → SqT K H' a xs) : ∀ (ds : List PyData) (vs : List V), noLs ds = true → DpAll K H vs ds → DpAll K H' vs ds
  | [], _, _, h => by
    cases h
    exact .nil
  | d :: ds, _, n, h => by
    have n1 : noL d = true := (Bool.and_eq_true _ _ ▸ n : noL d = true ∧ noLs ds = true).1
    have n2 : noLs ds = true := (Bool.and_eq_true _ _ ▸ n : noL d = true ∧ noLs ds = true).2
    cases h with
    | cons h1 h2 => exact .cons (dp_tups ht d _ n1 h1) (dpAll_tups ht ds _ n2 h2)
end
/-- tuples stand while a list is changed -/
theorem but_sqT {K : PySem.W.Frag} {p : Addr} {H H' : Hp} {ys : List V} (hp : H p = some (.lst ys)) (b : But p H H') {a : Addr} {xs : List V} (h : SqT K H a xs) : SqT K H' a xs := by
  rcases h with (h | ⟨o, h⟩) | h
  · exact .inl (.inl (b _ _ h (ne_of h hp (fun z => nomatch z))))
  · exact .inl (.inr ⟨o, b _ _ h (ne_of h hp (fun z => nomatch z))⟩)
  · exact .inr h
theorem dp_but {K : PySem.W.Frag} {p : Addr} {H H' : Hp} (hp : PoolAt H p) (b : But p H H') {d : PyData} {v : V} (n : noL d = true) (h : Dp K H v d) : Dp K H' v d := by
  obtain ⟨x, y, e, _⟩ := hp
  exact dp_tups (fun _ _ => but_sqT e b) d v n h
/-- a value's own name of its class -/
def kind : PyData → String
  | .none => "NoneType"
  | .bool _ => "bool"
  | .int _ => "int"
  | .str _ => "str"
  | .list _ => "list"
  | .tuple _ => "tuple"
  | .dict _ => "dict"
theorem tyx_sqT {K : PySem.W.Frag} {H : Hp} {a : Addr} {xs : List V} (h : SqT K H a xs) : TyX K H (.ref a) (.type "tuple") := by
  rcases h with (h | ⟨o, h⟩) | ⟨o, _, _, h, c, _⟩
  · exact .base (.tup h)
  · exact .fTuple h
  · exact .kTuple h c
theorem tyx_sqL {K : PySem.W.Frag} {H : Hp} {a : Addr} {xs : List V} (h : SqL K H a xs) : TyX K H (.ref a) (.type "list") := by
  rcases h with (h | ⟨o, h⟩) | ⟨o, _, _, h, c, _⟩
  · exact .base (.lst h)
  · exact .base (.frz h)
  · exact .kList h c
theorem dp_ty {K : PySem.W.Frag} {H : Hp} {d : PyData} {v : V} (h : Dp K H v d) : TyX K H v (.type (kind d)) := by
  cases h with
  | non => exact .base .non
  | bl b => exact .base (.bl b)
  | int i => exact .base (.int i)
  | str x => exact .base (.str x)
  | lst hs _ => exact tyx_sqL hs
  | tup hs _ => exact tyx_sqT hs
def isInt : PyData → Bool
  | .int _ => true
  | .bool _ => true
  | _ => false
def isBool : PyData → Bool
  | .bool _ => true
  | _ => false
def isStr : PyData → Bool
  | .str _ => true
  | _ => false
def isTup : PyData → Bool
  | .tuple _ => true
  | _ => false
theorem kit_int (K : PySem.W.Frag) : ∀ d : PyData, PySem.W.kitOne K (.type (kind d)) (.type "int") = some (isInt d)
  | .none => kit_ty (show kitB "NoneType" "int" = some false by decide +kernel)
  | .bool _ => kit_ty (show kitB "bool" "int" = some true by decide +kernel)
  | .int _ => kit_ty (show kitB "int" "int" = some true by decide +kernel)
  | .str _ => kit_ty (show kitB "str" "int" = some false by decide +kernel)
  | .list _ => kit_ty (show kitB "list" "int" = some false by decide +kernel)
  | .tuple _ => kit_ty (show kitB "tuple" "int" = some false by decide +kernel)
  | .dict _ => kit_ty (show kitB "dict" "int" = some false by decide +kernel)
theorem kit_bool (K : PySem.W.Frag) : ∀ d : PyData, PySem.W.kitOne K (.type (kind d)) (.type "bool") = some (isBool d)
  | .none => kit_ty (show kitB "NoneType" "bool" = some false by decide +kernel)
  | .bool _ => kit_ty (show kitB "bool" "bool" = some true by decide +kernel)
  | .int _ => kit_ty (show kitB "int" "bool" = some false by decide +kernel)
  | .str _ => kit_ty (show kitB "str" "bool" = some false by decide +kernel)
  | .list _ => kit_ty (show kitB "list" "bool" = some false by decide +kernel)
  | .tuple _ => kit_ty (show kitB "tuple" "bool" = some false by decide +kernel)
  | .dict _ => kit_ty (show kitB "dict" "bool" = some false by decide +kernel)
theorem kit_str (K : PySem.W.Frag) : ∀ d : PyData, PySem.W.kitOne K (.type (kind d)) (.type "str") = some (isStr d)
  | .none => kit_ty (show kitB "NoneType" "str" = some false by decide +kernel)
  | .bool _ => kit_ty (show kitB "bool" "str" = some false by decide +kernel)
  | .int _ => kit_ty (show kitB "int" "str" = some false by decide +kernel)
  | .str _ => kit_ty (show kitB "str" "str" = some true by decide +kernel)
  | .list _ => kit_ty (show kitB "list" "str" = some false by decide +kernel)
  | .tuple _ => kit_ty (show kitB "tuple" "str" = some false by decide +kernel)
  | .dict _ => kit_ty (show kitB "dict" "str" = some false by decide +kernel)
theorem kit_tup (K : PySem.W.Frag) : ∀ d : PyData, PySem.W.kitOne K (.type (kind d)) (.type "tuple") = some (isTup d)
  | .none => kit_ty (show kitB "NoneType" "tuple" = some false by decide +kernel)
  | .bool _ => kit_ty (show kitB "bool" "tuple" = some false by decide +kernel)
  | .int _ => kit_ty (show kitB "int" "tuple" = some false by decide +kernel)
  | .str _ => kit_ty (show kitB "str" "tuple" = some false by decide +kernel)
  | .list _ => kit_ty (show kitB "list" "tuple" = some false by decide +kernel)
  | .tuple _ => kit_ty (show kitB "tuple" "tuple" = some true by decide +kernel)
  | .dict _ => kit_ty (show kitB "dict" "tuple" = some false by decide +kernel)
/-- a block that goes through an iterator: what each turn asks, and what holds at the end -/
abbrev Turns (J : It) (H0 : Hp) (End : Hp → Prop) (Body : (Hp → Prop) → V → Hp → Prop) : Prop :=
  ∃ Wk : Nat → Nat → Hp → Prop, (∃ left, Wk 0 left H0) ∧
    ∀ at_ left Hn, Wk at_ left Hn → (J.stop at_ Hn ∧ End Hn) ∨ (J.go at_ Hn ∧
      ∃ Then : Hp → Prop, (∀ Hb, Then Hb → ∃ fewer, fewer < left ∧ Wk (at_ + 1) fewer Hb) ∧ ∀ item Hi, J.yld at_ Hn item Hi → Body Then item Hi)
/-- a turn of a list's comprehension without a test -/
abbrev LcBody (D : Addr) (te : TE) (vs : List Nat) (j : Nat) (σ : L2.St) : (Hp → Prop) → V → Hp → Prop := fun Then item Hi =>
  gName j item (wipe σ vs) Hi fun σn Hn => wipe σn vs = wipe σ vs ∧ tYes σn Hn fun yes Hy =>
    if yes = true then te σn Hy (fun made Hm => ∃ sofar, Hm D = some (.lst sofar) ∧ sofar.length < sizeLine ∧ Then (upd Hm D (.lst (sofar ++ [made])))) else Then Hy
/-- a comprehension whose i-th item is f i -/
theorem lc_vals {J : It} {n : Nat} {G : Hp → Prop} {Y : Nat → Hp → V → Hp → Prop} (w : Walk J n G Y) {j : Nat} {te : TE} {vs : List Nat} {σ : L2.St} {H1 : Hp} {D : Addr} {Qd : Hp → Prop} (f : Nat → V) (hz : n ≤ 50000)
    (hD : H1 D = none) (hw : ∀ x, wipe ((wipe σ vs).set j (some x)) vs = wipe σ vs) (hG : ∀ H, Same H1 H → G H)
    (he : ∀ i x H H', i < n → Same H1 H → Y i H x H' → Same H H' ∧ ∀ Q : VK, (∀ H2, Same H' H2 → Q (f i) H2) → te ((wipe σ vs).set j (some x)) H' Q)
    (hd : ∀ H, Same H1 H → H D = some (.lst ((List.range n).map f)) → Qd H)  :
    Turns J (upd H1 D (.lst [])) Qd (LcBody D te vs j σ) := by
  refine lc_it w (fun i H => Same H1 H ∧ H D = some (.lst ((List.range i).map f))) ⟨same_upd hD, upd_same⟩ (fun i H _ p => hG H p.1) (fun i x H H' hi p y => ?_) (fun H p => hd H p.1 p.2)
  obtain ⟨s1, e1⟩ := p
  obtain ⟨s2, k⟩ := he i x H H' hi s1 y
  refine And.intro (hw x) ?_
  unfold tYes
  refine iteT ?_
  refine k _ fun H2 s3 => ⟨_, s3 _ _ (s2 _ _ e1), ?_, fun b o e => ?_, ?_⟩
  · rw [List.length_map, List.length_range]
    exact Nat.lt_of_lt_of_le (show i < 50000 by omega) (by decide)
  · have hb : b ≠ D := ne_of_none e hD
    rw [upd_ne hb]
    exact s3 _ _ (s2 _ _ (s1 _ _ e))
  · rw [upd_same, List.range_succ, List.map_append]
    rfl
theorem range_get {α : Type} (xs : List α) (f : Nat → α) (h : ∀ i x, xs[i]? = some x → f i = x) : (List.range xs.length).map f = xs := by
  apply List.ext_getElem?
  intro i
  rw [List.getElem?_map]
  by_cases hi : i < xs.length
  · rw [List.getElem?_range hi, List.getElem?_eq_getElem hi]
    exact congrArg some (h i _ (List.getElem?_eq_getElem hi))
  · rw [List.getElem?_eq_none (by simpa using hi), List.getElem?_eq_none (by simpa using hi)]
    rfl
theorem dpA_len {K : PySem.W.Frag} {H : Hp} : ∀ {ds : List PyData} {vs : List V}, DpAll K H vs ds → vs.length = ds.length
  | [], _, h => by
    cases h
    rfl
  | d :: ds, _, h => by
    cases h with
    | cons _ h2 => rw [List.length_cons, List.length_cons, dpA_len h2]
theorem dpA_get {K : PySem.W.Frag} {H : Hp} : ∀ {ds : List PyData} {vs : List V} {i : Nat} {d : PyData}, DpAll K H vs ds → ds[i]? = some d → ∃ v, vs[i]? = some v ∧ Dp K H v d
  | [], _, _, _, _, e => by simp at e
  | d :: ds, _, 0, _, h, e => by
    cases h with
    | cons h1 _ =>
      have e1 : d = _ := Option.some.inj e
      subst e1
      exact ⟨_, rfl, h1⟩
  | d :: ds, _, i + 1, _, h, e => by
    cases h with
    | cons _ h2 => exact dpA_get (i := i) h2 e
theorem dpA_app {K : PySem.W.Frag} {H : Hp} : ∀ {ds es : List PyData} {vs us : List V}, DpAll K H vs ds → DpAll K H us es → DpAll K H (vs ++ us) (ds ++ es)
  | [], _, _, _, h, h' => by
    cases h
    exact h'
  | d :: ds, _, _, _, h, h' => by
    cases h with
    | cons h1 h2 => exact .cons h1 (dpA_app h2 h')
/-- a walk by its turns, whatever a turn asks -/
theorem walk_gen {J : It} {n : Nat} {G : Hp → Prop} {Y : Nat → Hp → V → Hp → Prop} (w : Walk J n G Y) {H0 : Hp} {End : Hp → Prop} {Body : (Hp → Prop) → V → Hp → Prop} (Pv : Nat → Hp → Prop) (h0 : Pv 0 H0) (hG : ∀ i H, i ≤ n → Pv i H → G H)
    (hs : ∀ i x H H', i < n → Pv i H → Y i H x H' → Body (Pv (i + 1)) x H') (hd : ∀ H, Pv n H → End H) : Turns J H0 End Body := by
  refine ⟨fun at_ left Hn => at_ + left = n ∧ Pv at_ Hn, ⟨n, Nat.zero_add n, h0⟩, fun at_ left Hn ⟨sum, holds⟩ => ?_⟩
  cases left with
  | zero =>
    have all : at_ = n := sum
    subst all
    exact Or.inl (And.intro (w.stops Hn (hG _ Hn (Nat.le_refl _) holds)) (hd Hn holds))
  | succ less =>
    have more : at_ < n := by omega
    have good := hG at_ Hn (Nat.le_of_lt more) holds
    refine Or.inr (And.intro (w.goes at_ Hn more good) ⟨Pv (at_ + 1), fun Hb next => ⟨less, Nat.lt_succ_self less, by omega, next⟩, fun item Hi given => ?_⟩)
    exact hs at_ item Hn Hi more holds (w.yields at_ Hn item Hi more good given)
theorem dpA_at {K : PySem.W.Frag} {H : Hp} : ∀ {ds : List PyData} {vs : List V} {i : Nat} {v : V}, DpAll K H vs ds → vs[i]? = some v → ∃ d, ds[i]? = some d ∧ Dp K H v d
  | _, [], _, _, _, e => by simp at e
  | _, _ :: _, 0, _, h, e => by
    cases h with
    | cons h1 _ =>
      have e1 := Option.some.inj e
      subst e1
      exact ⟨_, rfl, h1⟩
  | _, _ :: _, i + 1, _, h, e => by
    cases h with
    | cons _ h2 => exact dpA_at (i := i) h2 e
theorem take_snoc {α : Type} : ∀ {l : List α} {i : Nat} {x : α}, l[i]? = some x → l.take (i + 1) = l.take i ++ [x]
  | [], i, x, h => by simp at h
  | a :: l, 0, x, h => by
    have e : a = x := Option.some.inj h
    subst e
    rfl
  | a :: l, i + 1, x, h => by
    have ih := take_snoc (l := l) (i := i) (x := x) h
    show a :: l.take (i + 1) = a :: l.take i ++ [x]
    rw [ih]
    rfl
theorem cut1 (xs : List V) : cutV xs (some 1) none = xs.drop 1 := by
  unfold cutV
  rw [show HT.sIx xs.length 0 (some 1) = min 1 xs.length from HT.sIx_nat xs.length 0 1, HT.sIx_none]
  cases xs with
  | nil => rfl
  | cons x r =>
    rw [show min 1 (x :: r).length = 1 by
      rw [List.length_cons]
      omega]
    show (List.take ((x :: r).length - 1) r) = r
    rw [List.length_cons, Nat.add_sub_cancel]
    exact List.take_length
theorem q_c {tz : TS} {D : Ends} {σ : L2.St} {H : Hp} {i : Nat} {v : V} (h : tz D (σ.set i (some v)) H) : tSeq (tAsg (tC v) (gName i)) tz D σ H := h
theorem q_w {c : TT} {tb tz : TS} {D : Ends} {σ : L2.St} {H : Hp} (h : tWhile c tb { D with nx := tz D } σ H) : tSeq (tWhile c tb) tz D σ H := h
theorem wh_by {c : TT} {tb : TS} {D : Ends} {σ : L2.St} {H : Hp} (W : Nat → L2.St → Hp → Prop) (m0 : Nat) (h0 : W m0 σ H)
    (hs : ∀ m σ H, W m σ H → c σ H fun b H1 => if b = true then tb { D with nx := fun σ' H' => ∃ m', m' < m ∧ W m' σ' H', ct := fun σ' H' => ∃ m', m' < m ∧ W m' σ' H', bk := D.nx } σ H1 else D.nx σ H1)
    (mono : ∀ σ H Q Q', (∀ b H1, Q b H1 → Q' b H1) → c σ H Q → c σ H Q') : tWhile c tb D σ H :=
  ⟨W, ⟨m0, h0⟩, fun m σ H hw => mono _ _ _ _ (fun b H1 q => by
    cases b with
    | true => exact ⟨_, fun σ' H' h => h, q⟩
    | false => exact q) (hs m σ H hw)⟩
/-- a comprehension whose i-th item is as R says -/
theorem lc_rel {J : It} {n : Nat} {G : Hp → Prop} {Y : Nat → Hp → V → Hp → Prop} (w : Walk J n G Y) {j : Nat} {te : TE} {vs : List Nat} {σ : L2.St} {H1 : Hp} {D : Addr} {Qd : Hp → Prop} (R : Nat → V → Hp → Prop) (hz : n ≤ 50000)
    (hD : H1 D = none) (hw : ∀ x, wipe ((wipe σ vs).set j (some x)) vs = wipe σ vs) (hG : ∀ H, Same H1 H → G H) (hR : ∀ i v H H' zs, H D = some (.lst zs) → But D H H' → R i v H → R i v H')
    (he : ∀ i x H H', i < n → Same H1 H → Y i H x H' → Same H H' ∧ ∀ Q : VK, (∀ v H2, Same H' H2 → R i v H2 → Q v H2) → te ((wipe σ vs).set j (some x)) H' Q)
    (hd : ∀ ys H, Same H1 H → H D = some (.lst ys) → ys.length = n → (∀ i v, ys[i]? = some v → R i v H) → Qd H)  :
    Turns J (upd H1 D (.lst [])) Qd (LcBody D te vs j σ) := by
  refine lc_it w (fun i H => Same H1 H ∧ ∃ ys, H D = some (.lst ys) ∧ ys.length = i ∧ ∀ k v, ys[k]? = some v → R k v H) ⟨same_upd hD, [], upd_same, rfl, fun k v e => by simp at e⟩ (fun i H _ p => hG H p.1) (fun i x H H' hi p y => ?_) (fun H p => ?_)
  · obtain ⟨s1, ys, e1, el, er⟩ := p
    obtain ⟨s2, k⟩ := he i x H H' hi s1 y
    refine And.intro (hw x) ?_
    unfold tYes
    refine iteT ?_
    refine k _ fun v H2 s3 rv => ⟨ys, s3 _ _ (s2 _ _ e1), ?_, fun b o e => ?_, ys ++ [v], upd_same, ?_, fun k u eu => ?_⟩
    · exact Nat.lt_of_lt_of_le (show ys.length < 50000 by omega) (by decide)
    · have hb : b ≠ D := ne_of_none e hD
      rw [upd_ne hb]
      exact s3 _ _ (s2 _ _ (s1 _ _ e))
    · rw [List.length_append, el]
      rfl
    · have e2 : H2 D = some (.lst ys) := s3 _ _ (s2 _ _ e1)
      refine hR k u H2 _ ys e2 But.upd ?_
      by_cases hk : k < ys.length
      · rw [List.getElem?_append_left hk] at eu
        exact hR k u H H2 ys e1 (But.of (s2.trans s3)) (er k u eu)
      · have hk2 : k = ys.length := by
          have := (List.getElem?_eq_some_iff.mp eu).1
          rw [List.length_append] at this
          simp at this
          omega
        rw [hk2, List.getElem?_append_right (Nat.le_refl _), Nat.sub_self] at eu
        have eu2 := Option.some.inj eu
        subst eu2
        rw [hk2, el]
        exact rv
  · obtain ⟨s1, ys, e1, el, er⟩ := p
    exact hd ys H s1 e1 el er
theorem PoolAt.upd {H : Hp} {p l : Addr} {o : HO} (h : PoolAt H p) (n : H l = none) : PoolAt (L2.upd H l o) p := by
  obtain ⟨x, y, e, r⟩ := h
  refine ⟨x, y, ?_, r⟩
  rw [upd_ne (ne_of_none e n)]
  exact e
theorem PoolAt.ne {H : Hp} {p l : Addr} (h : PoolAt H p) (n : H l = none) : p ≠ l := by
  obtain ⟨x, y, e, r⟩ := h
  exact ne_of_none e n
theorem PoolAt.same {H H' : Hp} {p : Addr} (h : PoolAt H p) (s : Same H H') : PoolAt H' p := by
  obtain ⟨x, y, e, r⟩ := h
  exact ⟨x, y, s _ _ e, r⟩
/-- a comprehension that draws: its items are as R says, whatever is drawn -/
theorem lc_pool {J : It} {n : Nat} {Y : Nat → Hp → V → Hp → Prop} (w : Walk J n (fun _ => True) Y) {j : Nat} {te : TE} {vs : List Nat} {σ : L2.St} {H1 : Hp} {D p : Addr} {Qd : Hp → Prop} (R : V → Prop) (hz : n ≤ 50000)
    (hD : H1 D = none) (hp : PoolAt H1 p) (hw : ∀ x, wipe ((wipe σ vs).set j (some x)) vs = wipe σ vs)
    (he : ∀ i x H H', i < n → PoolAt H p → Y i H x H' → H' = H ∧ ∀ Q : VK, (∀ v H2, But p H H2 → PoolAt H2 p → R v → Q v H2) → te ((wipe σ vs).set j (some x)) H Q)
    (hd : ∀ ys H, But p H1 H → PoolAt H p → H D = some (.lst ys) → ys.length = n → (∀ v ∈ ys, R v) → Qd H)  :
    Turns J (upd H1 D (.lst [])) Qd (LcBody D te vs j σ) := by
  have npD : D ≠ p := (hp.ne hD).symm
  refine lc_it w (fun i H => But p H1 H ∧ PoolAt H p ∧ ∃ ys, H D = some (.lst ys) ∧ ys.length = i ∧ ∀ v ∈ ys, R v) ⟨But.of (same_upd hD), hp.upd hD, [], upd_same, rfl, fun v e => by simp at e⟩ (fun i H _ p => True.intro) (fun i x H H' hi q y => ?_) (fun H q => ?_)
  · obtain ⟨s1, h1, ys, e1, el, er⟩ := q
    obtain ⟨rfl, k⟩ := he i x H H' hi h1 y
    refine And.intro (hw x) ?_
    unfold tYes
    refine iteT ?_
    refine k _ fun v H2 s3 h3 rv => ⟨ys, s3 _ _ e1 npD, ?_, fun b o e nb => ?_, ?_, ys ++ [v], upd_same, ?_, fun u hu => ?_⟩
    · exact Nat.lt_of_lt_of_le (show ys.length < 50000 by omega) (by decide)
    · have hb : b ≠ D := ne_of_none e hD
      rw [upd_ne hb]
      exact s3 _ _ (s1 _ _ e nb) nb
    · obtain ⟨x, y, e, r⟩ := h3
      exact ⟨x, y, by rw [upd_ne npD.symm]; exact e, r⟩
    · rw [List.length_append, el]
      rfl
    · rcases List.mem_append.mp hu with hu | hu
      · exact er u hu
      · rw [List.mem_singleton.mp hu]
        exact rv
  · obtain ⟨s1, h1, ys, e1, el, er⟩ := q
    exact hd ys H s1 h1 e1 el er
theorem at_of {j : Nat} {xs : List V} {v : V} {z : Int} (same : z = (j : Int)) (there : xs[j]? = some v) : atI xs z = some v := same ▸ atI_nat there
/-! ### values and names -/
abbrev sWhole : Stmt := topS 3
abbrev sValue : Stmt := topS 4
abbrev sName : Stmt := topS 5
theorem scWhole : FnScope ["value"] ["value"] (defScope sWhole) := ⟨rfl, rfl, rfl, by decide +kernel, rfl, by decide +kernel, by decide +kernel⟩
theorem scValue : FnScope ["value"] ["value"] (defScope sValue) := ⟨rfl, rfl, rfl, by decide +kernel, rfl, by decide +kernel, by decide +kernel⟩
theorem scName : FnScope ["value", "letter"] ["value"] (defScope sName) := ⟨rfl, rfl, rfl, by decide +kernel, rfl, by decide +kernel, by decide +kernel⟩
def isWhole : PyData → Bool
  | .int _ => true
  | _ => false
def isValue : PyData → Bool
  | .int i => decide (0 ≤ i) && decide (i < 3)
  | _ => false
def lowCode (c : Nat) : Bool := decide (97 ≤ c) && decide (c ≤ 122)
def isName : PyData → Bool
  | .str z => decide (1 ≤ (z.length : Int)) && decide ((z.length : Int) ≤ 8) && z.cps.toList.all lowCode
  | _ => false
theorem isWhole_eq (d : PyData) : isWhole d = (isInt d && !isBool d) := by cases d <;> rfl
mutual
def szD : PyData → Bool
  | .str z => decide (z.length ≤ 1000)
  | .tuple ds => decide (ds.length ≤ 1000) && szDs ds
  | .list ds => decide (ds.length ≤ 1000) && szDs ds
  | _ => true
def szDs : List PyData → Bool
  | [] => true
  | d :: ds => szD d && szDs ds
end
theorem nlt (a b : Nat) : (!decide ([a] < [b])) = decide (b ≤ a) := by
  by_cases h : a < b
  · rw [decide_eq_true (show [a] < [b] from List.cons_lt_cons_iff.mpr (.inl h)), decide_eq_false (by omega)]
    rfl
  · have q : ¬ [a] < [b] := fun q => by
      rcases List.cons_lt_cons_iff.mp q with q | ⟨_, q⟩
      · exact h q
      · exact absurd q (List.not_lt_nil _)
    rw [decide_eq_false q, decide_eq_true (by omega)]
    rfl
theorem all_range (l : List Nat) (g : Nat → Bool) : ((List.range l.length).map fun i => g (l.getD i 0)).all id = l.all g := by
  have e : (List.range l.length).map (fun i => g (l.getD i 0)) = l.map g := by
    apply List.ext_getElem?
    intro i
    rw [List.getElem?_map, List.getElem?_map]
    by_cases hi : i < l.length
    · rw [List.getElem?_range hi, List.getElem?_eq_getElem hi]
      show some (g (l.getD i 0)) = some (g l[i])
      rw [List.getD_eq_getElem?_getD, List.getElem?_eq_getElem hi]
      rfl
    · rw [List.getElem?_eq_none (by simpa using hi), List.getElem?_eq_none (by simpa using hi)]
      rfl
  rw [e, List.all_map]
  rfl
/-- a truth about one value, told without a change -/
def spB (K : PySem.W.Frag) (g : PyData → Bool) : Sp := fun vs H Q _ => ∃ (v : V) (d : PyData), vs = [v] ∧ Dp K H v d ∧ szD d = true ∧ ∀ H', Same H H' → Q (.bl (g d)) H'
structure CellsTxt (K : PySem.W.Frag) (mg : Str → Option Value) : Prop where
  vals : ∃ aV, mg "VALUES" = some (.ref aV) ∧ ∀ H : Hp, SqT K H aV [.int 0, .int 1, .int 2]
  long : ∃ t, mg "LONGEST_NAME" = some (.int 8 t)
section
variable {P : Program} {w : World} {K : PySem.W.Frag} {mg : Str → Option Value} {base : Heap}
theorem ok_whole {f : Addr} {fd : FuncData} (F : Fun K "is_whole" "is_whole" sWhole f fd) (M : Blt mg) : FnOk P w K mg base CX0 1 f fd ["value"] (spB K isWhole) := by
  refine F.ok scWhole (fun vs H Q E h => ?_) (fun cdv A outer s H vs Q E hr h => ?_)
  · obtain ⟨v, d, rfl, _⟩ := h
    rfl
  · obtain ⟨v, d, rfl, hv, hsz, q'⟩ := h
    have q := q' H (Same.refl H)
    refine ⟨_, pss_one (ps_ret (pe_and (pe_callB call_isi (by rfl) M.isinstance (by decide +kernel) (pa_cons (pv 0) (pa_cons (pe_bltn (v := .ty "int") (by rfl) M.int (by decide +kernel) rfl) pa_nil)))
      (pe_one (pe_not (pe_callB call_isi (by rfl) M.isinstance (by decide +kernel) (pa_cons (pv 0) (pa_cons (pe_bltn (v := .ty "bool") (by rfl) M.bool (by decide +kernel) rfl) pa_nil))))))), ?_⟩
    rw [isWhole_eq] at q
    refine ⟨v, rfl, v, _, _, _, _, rfl, .ty "int", dp_ty hv, kit_int K d, _, rfl, ?_⟩
    cases hi : isInt d with
    | true =>
      refine iteT ⟨v, rfl, v, _, _, _, _, rfl, .ty "bool", dp_ty hv, kit_bool K d, _, rfl, ?_⟩
      rw [hi] at q
      exact q
    | false =>
      rw [hi] at q
      exact iteF q
theorem ok_value {f fW : Addr} {fd fdW : FuncData} (F : Fun K "is_value" "is_value" sValue f fd) (M : Blt mg) (T : CellsTxt K mg) (FW : Fun K "is_whole" "is_whole" sWhole fW fdW) (bW : Binds K fdW ["value"] []) (gW : mg "is_whole" = some (.ref fW)) :
    FnOk P w K mg base CX0 2 f fd ["value"] (spB K isValue) := by
  have GW : FnOk P w K mg base CX0 1 fW fdW ["value"] (spB K isWhole) := ok_whole FW M
  obtain ⟨aV, gV, sV⟩ := T.vals
  refine F.ok scValue (fun vs H Q E h => ?_) (fun cdv A outer s H vs Q E hr h => ?_)
  · obtain ⟨v, d, rfl, _⟩ := h
    rfl
  · obtain ⟨v, d, rfl, hv, hsz, q'⟩ := h
    have q := q' H (Same.refl H)
    refine ⟨_, pss_one (ps_ret (pe_and (pe_call GW hr (by rfl) gW FW.kp bW .nil pass0 (pa_cons (pv 0) pa_nil))
      (pe_one (pe_chain op_le op_lt pe_int (pv 0) (pe_callB call_len_seq (by rfl) M.len PySem.boot_len (pa_cons (pe_glob (v := .ref aV) (by rfl) gV rfl) pa_nil)))))), ?_⟩
    refine ⟨v, rfl, v, d, rfl, hv, hsz, fun H1 s1 => ⟨_, rfl, ?_⟩⟩
    replace q := q' H1 s1
    cases d with
    | int i =>
      cases hv
      refine iteT ⟨_, rfl, _, _, rfl, rfl, _, rfl, ?_⟩
      cases h0 : decide (0 ≤ i) with
      | false =>
        refine iteF ?_
        have e : isValue (.int i) = false := by
          show (decide (0 ≤ i) && decide (i < 3)) = false
          rw [h0] <;> rfl
        rw [e] at q
        exact q
      | true =>
        refine iteT ⟨aV, _, rfl, .inr (sV _), _, _, rfl, rfl, ?_⟩
        have e : isValue (.int i) = decide (i < 3) := by
          show (decide (0 ≤ i) && decide (i < 3)) = _
          rw [h0] <;> rfl
        rw [e] at q
        exact q
    | none => exact iteF q
    | bool b => exact iteF q
    | str z => exact iteF q
    | list ds => exact iteF q
    | tuple ds => exact iteF q
    | dict kvs => exact iteF q
theorem ok_name {f : Addr} {fd : FuncData} (F : Fun K "is_name" "is_name" sName f fd) (M : Blt mg) (T : CellsTxt K mg) : FnOk P w K mg base CX0 1 f fd ["value"] (spB K isName) := by
  obtain ⟨tl, gL⟩ := T.long
  refine F.ok scName (fun vs H Q E h => ?_) (fun cdv A outer s H vs Q E hr h => ?_)
  · obtain ⟨v, d, rfl, _⟩ := h
    rfl
  · obtain ⟨v, d, rfl, hv, hsz, q'⟩ := h
    have q := q' H (Same.refl H)
    refine ⟨_, pss_cons (ps_if (PW.pt (pw_or (pt_not (pt_val (pe_callB call_isi (by rfl) M.isinstance (by decide +kernel) (pa_cons (pv 0) (pa_cons (pe_bltn (v := .ty "str") (by rfl) M.str (by decide +kernel) rfl) pa_nil)))))
        (pw_or1 (pt_not (pt_chain op_le op_le pe_int (pe_callB call_len (by rfl) M.len PySem.boot_len (pa_cons (pv 0) pa_nil)) (pe_glob (v := .int 8) (by rfl) gL ⟨_, rfl⟩)))))) (pss_one (ps_ret pe_bl)) pss_nil)
      (pss_one (ps_ret (pe_callB (cr_all rfl) (by rfl) M.all (by decide +kernel) (pa_cons
        (pe_lc (own := [("letter", 1)]) (g := gName 1) (by rfl) scName.nd (pi_str (pv 0)) (blkOk_by (own := [("letter", 1)]) (N := ["value", "letter"]) (sc := defScope sName) (by decide +kernel))
          (fun _ _ _ _ _ => pg_name (i := 1) scName.nd rfl (Or.inl rfl)) (fun _ _ _ _ _ => pts_nil) (fun _ _ _ _ _ => pe_chain op_le_str op_le_str pe_str (pv 1) pe_str)) pa_nil)))), ?_⟩
    have no : isName d = false → Q (.bl false) H := fun e => by
      rw [e] at q
      exact q
    refine ⟨v, rfl, v, _, _, _, _, rfl, .ty "str", dp_ty hv, kit_str K d, _, rfl, ?_⟩
    cases d with
    | str z =>
      cases hv
      refine iteF ?_
      have hzl : z.length ≤ sizeLine := Nat.le_trans (of_decide_eq_true hsz) (by decide)
      by_cases hz : z.length ≤ 8
      · refine ⟨.str z, rfl, .str z, z.length, rfl, ⟨hzl, rfl⟩, _, _, rfl, rfl, _, rfl, ?_⟩
        cases h1 : decide (1 ≤ (z.length : Int)) with
        | false =>
          refine iteF ⟨_, rfl, iteT (no ?_)⟩
          show (decide (1 ≤ (z.length : Int)) && decide ((z.length : Int) ≤ 8) && z.cps.toList.all lowCode) = false
          rw [h1]
          rfl
        | true =>
          refine iteT ⟨_, _, rfl, rfl, _, rfl, ?_⟩
          have h2 : decide ((z.length : Int) ≤ 8) = true := decide_eq_true (by omega)
          rw [h2]
          refine iteF ⟨_, rfl, z, rfl, fun D hD => ?_⟩
          have ln : z.cps.size ≤ 8 := hz
          refine lc_vals (vs := [1]) (j := 1) (σ := [some (.str z), none]) walk_str (fun i => .bl (lowCode (z.cps.getD i 0))) (by omega) hD (fun x => rfl) (fun _ _ => True.intro) (fun i x H0 H' hi s1 y => ?_) (fun H' s1 e1 => ?_)
          · obtain ⟨rfl, c, hc, rfl⟩ := y
            have gc : z.cps.getD i 0 = c := by
              rw [Array.getD_eq_getD_getElem?, hc]
              rfl
            refine ⟨Same.refl _, fun Q2 q2 => ⟨_, rfl, _, _, rfl, rfl, _, rfl, ?_⟩⟩
            show if (!decide ([c] < [97])) = true then _ else _
            rw [nlt c 97]
            cases h3 : decide (97 ≤ c) with
            | false =>
              refine iteF ?_
              have e : lowCode (z.cps.getD i 0) = false := by
                rw [gc]
                show (decide (97 ≤ c) && decide (c ≤ 122)) = false
                rw [h3]
                rfl
              have q3 := q2 _ (Same.refl _)
              rw [e] at q3
              exact q3
            | true =>
              refine iteT ⟨_, _, rfl, rfl, ?_⟩
              have e : lowCode (z.cps.getD i 0) = (!decide ([122] < [c])) := by
                rw [gc, nlt 122 c]
                show (decide (97 ≤ c) && decide (c ≤ 122)) = _
                rw [h3]
                rfl
              have q3 := q2 _ (Same.refl _)
              rw [e] at q3
              exact q3
          · refine ⟨D, (List.range z.cps.size).map (fun i => lowCode (z.cps.getD i 0)), rfl, .inl (.inl ?_), ?_⟩
            · rw [e1, List.map_map]
              rfl
            · have e : ((List.range z.cps.size).map fun i => lowCode (z.cps.getD i 0)).all id = z.cps.toList.all lowCode := by
                rw [← all_range z.cps.toList lowCode]
                have ez : z.cps.toList.length = z.cps.size := by simp
                rw [ez]
                have eg : (fun i => lowCode (z.cps.getD i 0)) = fun i => lowCode (z.cps.toList.getD i 0) := by
                  funext i
                  rw [Array.getD_eq_getD_getElem?, List.getD_eq_getElem?_getD, Array.getElem?_toList]
                rw [eg]
              have e2 : isName (.str z) = z.cps.toList.all lowCode := by
                show (decide (1 ≤ (z.length : Int)) && decide ((z.length : Int) ≤ 8) && z.cps.toList.all lowCode) = _
                rw [h1, h2]
                rfl
              have q2 := q' H' s1
              rw [e2] at q2
              rw [e]
              exact q2
      · have nz : isName (.str z) = false := by
          show (decide (1 ≤ (z.length : Int)) && decide ((z.length : Int) ≤ 8) && z.cps.toList.all lowCode) = false
          rw [decide_eq_false (show ¬ (z.length : Int) ≤ 8 by omega), Bool.and_false]
          rfl
        refine ⟨.str z, rfl, .str z, z.length, rfl, ⟨hzl, rfl⟩, _, _, rfl, rfl, _, rfl, ?_⟩
        rw [decide_eq_true (show 1 ≤ (z.length : Int) by omega)]
        refine iteT ⟨_, _, rfl, rfl, _, rfl, ?_⟩
        rw [decide_eq_false (show ¬ (z.length : Int) ≤ 8 by omega)]
        exact iteT (no nz)
    | none => exact iteT (no rfl)
    | bool b => exact iteT (no rfl)
    | int i => exact iteT (no rfl)
    | list ds => exact iteT (no rfl)
    | tuple ds => exact iteT (no rfl)
    | dict kvs => exact iteT (no rfl)
end
/-! ### terms -/
abbrev sHas : Stmt := topS 12
abbrev sCallForm : Stmt := topS 13
theorem scHas : FnScope ["part", "arguments", "word"] ["part", "arguments"] (defScope sHas) := ⟨rfl, rfl, rfl, by decide +kernel, rfl, by decide +kernel, by decide +kernel⟩
theorem scCallForm : FnScope ["terms"] ["terms"] (defScope sCallForm) := ⟨rfl, rfl, rfl, by decide +kernel, rfl, by decide +kernel, by decide +kernel⟩
def lenOf (z : Str) : Option Int := if z = "tick" then some 1 else if z = "plus" then some 3 else if z = "less" then some 3 else if z = "same" then some 3 else if z = "if" then some 4 else none
def callForm : PyData → Bool
  | .tuple ts => decide ((ts.length : Int) ≤ 2)
  | _ => false
def below (n : Int) : PyData → Bool
  | .int i => decide (0 ≤ i) && decide (i < n)
  | _ => false
def on1 (g : PyData → Bool) : List PyData → Bool
  | [x] => g x
  | _ => false
def on2 (g : PyData → PyData → Bool) : List PyData → Bool
  | [x, y] => g x y
  | _ => false
theorem len2 {α : Type} : ∀ {l : List α}, l.length = 2 → ∃ x y, l = [x, y]
  | [x, y], _ => ⟨x, y, rfl⟩
  | [], h => by cases h
  | [_], h => by cases h
  | _ :: _ :: _ :: _, h => by
    simp only [List.length_cons] at h
    omega
theorem on1_bad {g : PyData → Bool} : ∀ {l : List PyData}, l.length ≠ 1 → on1 g l = false
  | [], _ => rfl
  | [_], h => absurd rfl h
  | _ :: _ :: _, _ => rfl
theorem on2_bad {g : PyData → PyData → Bool} : ∀ {l : List PyData}, l.length ≠ 2 → on2 g l = false
  | [], _ => rfl
  | [_], _ => rfl
  | [_, _], h => absurd rfl h
  | _ :: _ :: _ :: _, _ => rfl
def formOf (n : Int) (z : Str) (rest : List PyData) : Bool :=
  if z = "arg" then on1 (below n) rest
  else if z = "cell" then on1 isName rest
  else if z = "call" then on2 (fun x y => isName x && callForm y) rest
  else match lenOf z with
    | some k => decide ((rest.length : Int) + 1 = k)
    | none => false
def hasForm (n : Int) (d : PyData) : Bool := isValue d || match d with
  | .tuple (.str z :: rest) => formOf n z rest
  | _ => false
theorem szD_tup {ds : List PyData} (h : szD (.tuple ds) = true) : szDs ds = true := (Bool.and_eq_true_iff.mp h).2
theorem szDs_get : ∀ {ds : List PyData} {i : Nat} {d : PyData}, szDs ds = true → ds[i]? = some d → szD d = true
  | [], _, _, _, e => by simp at e
  | d :: ds, 0, _, h, e => by
    have e1 := Option.some.inj e
    subst e1
    exact (Bool.and_eq_true_iff.mp h).1
  | d :: ds, i + 1, _, h, e => szDs_get (i := i) (Bool.and_eq_true_iff.mp h).2 e
theorem dint (a b : Int) : decide (V.int a = V.int b) = decide (a = b) := by
  by_cases h : a = b
  · rw [h, decide_eq_true rfl, decide_eq_true rfl]
  · rw [decide_eq_false h, decide_eq_false (fun q => h (V.int.inj q))]
theorem dstr (a b : Str) : decide (V.str a = V.str b) = decide (a = b) := by
  by_cases h : a = b
  · rw [h, decide_eq_true rfl, decide_eq_true rfl]
  · rw [decide_eq_false h, decide_eq_false (fun q => h (V.str.inj q))]
structure TermsTxt (K : PySem.W.Frag) (w : World) (mg : Str → Option Value) : Prop where
  lens : ∃ (aL : Addr) (es : Array DictEntry) (n : Nat), mg "LENGTHS" = some (.ref aL) ∧ KDict K w aL es n ∧ ∀ z, match lenOf z with
    | some k => ∃ t, PySem.W.nsIn K aL z = some (some (.int k t))
    | none => PySem.W.nsIn K aL z = some none
  args : ∃ t, mg "MOST_ARGUMENTS" = some (.int 2 t)
  deep : ∃ t, mg "MOST_DEEP" = some (.int 8 t)
  parts : ∃ t, mg "MOST_PARTS" = some (.int 30 t)
/-- a truth about one value and a number -/
def spBn (K : PySem.W.Frag) (g : Int → PyData → Bool) : Sp := fun vs H Q _ => ∃ (v : V) (d : PyData) (n : Int), vs = [v, .int n] ∧ Dp K H v d ∧ szD d = true ∧ ∀ H', Same H H' → Q (.bl (g n d)) H'
section
variable {P : Program} {w : World} {K : PySem.W.Frag} {mg : Str → Option Value} {base : Heap}
theorem ok_callForm {f : Addr} {fd : FuncData} (F : Fun K "_has_call_form" "_has_call_form" sCallForm f fd) (M : Blt mg) (T : TermsTxt K w mg) : FnOk P w K mg base CX0 1 f fd ["terms"] (spB K callForm) := by
  obtain ⟨tA, gA⟩ := T.args
  refine F.ok scCallForm (fun vs H Q E h => ?_) (fun cdv A outer s H vs Q E hr h => ?_)
  · obtain ⟨v, d, rfl, _⟩ := h
    rfl
  · obtain ⟨v, d, rfl, hv, hsz, q⟩ := h
    refine ⟨_, pss_one (ps_ret (pe_and (pe_callB call_isi (by rfl) M.isinstance (by decide +kernel) (pa_cons (pv 0) (pa_cons (pe_bltn (v := .ty "tuple") (by rfl) M.tuple (by decide +kernel) rfl) pa_nil)))
      (pe_one (pe_cmpR op_le (pe_callB call_len_seq (by rfl) M.len PySem.boot_len (pa_cons (pv 0) pa_nil)) (pe_glob (v := .int 2) (by rfl) gA ⟨_, rfl⟩) (nomark _))))), ?_⟩
    refine ⟨v, rfl, v, _, _, _, _, rfl, .ty "tuple", dp_ty hv, kit_tup K d, _, rfl, ?_⟩
    have q1 := q H (Same.refl H)
    cases d with
    | tuple ts =>
      cases hv with
      | @tup a xs _ hs ha =>
        refine iteT ⟨_, rfl, a, xs, rfl, .inr hs, _, _, rfl, rfl, ?_⟩
        have e : xs.length = ts.length := dpA_len ha
        rw [e]
        exact q1
    | none => exact iteF q1
    | bool b => exact iteF q1
    | int i => exact iteF q1
    | str z => exact iteF q1
    | list ds => exact iteF q1
    | dict kvs => exact iteF q1
structure CellFns (K : PySem.W.Frag) (mg : Str → Option Value) (fW fV fN : Addr) (dW dV dN : FuncData) : Prop where
  W : Fun K "is_whole" "is_whole" sWhole fW dW
  V : Fun K "is_value" "is_value" sValue fV dV
  N : Fun K "is_name" "is_name" sName fN dN
  bW : Binds K dW ["value"] []
  bV : Binds K dV ["value"] []
  bN : Binds K dN ["value"] []
  gW : mg "is_whole" = some (.ref fW)
  gV : mg "is_value" = some (.ref fV)
  gN : mg "is_name" = some (.ref fN)
theorem ok_has {f fC fW fV fN : Addr} {fd dC dW dV dN : FuncData} (F : Fun K "_has_form" "_has_form" sHas f fd) (M : Blt mg) (TC : CellsTxt K mg) (T : TermsTxt K w mg) (G : CellFns K mg fW fV fN dW dV dN)
    (FC : Fun K "_has_call_form" "_has_call_form" sCallForm fC dC) (bC : Binds K dC ["terms"] []) (gC : mg "_has_call_form" = some (.ref fC)) :
    FnOk P w K mg base CX0 3 f fd ["part", "arguments"] (spBn K hasForm) := by
  have GW : FnOk P w K mg base CX0 1 fW dW ["value"] (spB K isWhole) := ok_whole G.W M
  have GV : FnOk P w K mg base CX0 2 fV dV ["value"] (spB K isValue) := ok_value G.V M TC G.W G.bW G.gW
  have GN : FnOk P w K mg base CX0 1 fN dN ["value"] (spB K isName) := ok_name G.N M TC
  have GC : FnOk P w K mg base CX0 1 fC dC ["terms"] (spB K callForm) := ok_callForm FC M T
  obtain ⟨aL, es, n0, gL, kL, hL⟩ := T.lens
  refine F.ok scHas (fun vs H Q E h => ?_) (fun cdv A outer s H vs Q E hr h => ?_)
  · obtain ⟨v, d, n, rfl, _⟩ := h
    rfl
  · obtain ⟨v, d, n, rfl, hv, hsz, q⟩ := h
    have hr1 : Room 1 _ := hr.mono (by decide)
    have hu := hu_of hr
    refine ⟨_, pss_cons (ps_if (pt_val (pe_call GV hr (by rfl) G.gV G.V.kp G.bV .nil pass0 (pa_cons (pv 0) pa_nil))) (pss_one (ps_ret pe_bl)) pss_nil)
      (pss_cons (ps_if (PW.pt (pw_or (pt_not (pt_val (pe_callB call_isi (by rfl) M.isinstance (by decide +kernel) (pa_cons (pv 0) (pa_cons (pe_bltn (v := .ty "tuple") (by rfl) M.tuple (by decide +kernel) rfl) pa_nil)))))
        (pw_or (pt_cmpR op_eq (pe_callB call_len_seq (by rfl) M.len PySem.boot_len (pa_cons (pv 0) pa_nil)) pe_int (nomark _))
          (pw_or1 (pt_not (pt_val (pe_callB call_isi (by rfl) M.isinstance (by decide +kernel) (pa_cons (pe_ix ix_tup (pv 0) pe_int (fun _ _ => rfl)) (pa_cons (pe_bltn (v := .ty "str") (by rfl) M.str (by decide +kernel) rfl) pa_nil)))))))))
        (pss_one (ps_ret pe_bl)) pss_nil)
      (pss_cons (ps_set (i := 2) scHas.nd rfl (.inl rfl) (pe_ix ix_tup (pv 0) pe_int (fun _ _ => rfl)))
      (pss_cons (ps_if (pt_cmpR op_eq (pv 2) pe_str (nomark _)) (pss_one (ps_ret (pe_and (pe_cmpR op_eq (pe_callB call_len_seq (by rfl) M.len PySem.boot_len (pa_cons (pv 0) pa_nil)) pe_int (nomark _))
          (pe_and (pe_call GW hr1 (by rfl) G.gW G.W.kp G.bW .nil pass0 (pa_cons (pe_ix ix_tup (pv 0) pe_int (fun _ _ => rfl)) pa_nil))
            (pe_one (pe_chain op_le op_lt pe_int (pe_ix ix_tup (pv 0) pe_int (fun _ _ => rfl)) (pv 1))))))) pss_nil)
      (pss_cons (ps_if (pt_cmpR op_eq (pv 2) pe_str (nomark _)) (pss_one (ps_ret (pe_and (pe_cmpR op_eq (pe_callB call_len_seq (by rfl) M.len PySem.boot_len (pa_cons (pv 0) pa_nil)) pe_int (nomark _))
          (pe_one (pe_call GN hr1 (by rfl) G.gN G.N.kp G.bN .nil pass0 (pa_cons (pe_ix ix_tup (pv 0) pe_int (fun _ _ => rfl)) pa_nil)))))) pss_nil)
      (pss_cons (ps_if (pt_cmpR op_eq (pv 2) pe_str (nomark _)) (pss_one (ps_ret (pe_and (pe_cmpR op_eq (pe_callB call_len_seq (by rfl) M.len PySem.boot_len (pa_cons (pv 0) pa_nil)) pe_int (nomark _))
          (pe_and (pe_call GN hr1 (by rfl) G.gN G.N.kp G.bN .nil pass0 (pa_cons (pe_ix ix_tup (pv 0) pe_int (fun _ _ => rfl)) pa_nil))
            (pe_one (pe_call GC hr1 (by rfl) gC FC.kp bC .nil pass0 (pa_cons (pe_ix ix_tup (pv 0) pe_int (fun _ _ => rfl)) pa_nil))))))) pss_nil)
      (pss_one (ps_ret (pe_and (pe_cmpR (op_in_kd kL) (pv 2) (pe_glob (v := .ref aL) (by rfl) gL rfl) (by rfl))
        (pe_one (pe_cmpR op_eq (pe_callB call_len_seq (by rfl) M.len PySem.boot_len (pa_cons (pv 0) pa_nil)) (pe_ix ix_kdict (pe_glob (v := .ref aL) (by rfl) gL rfl) (pv 2) (fun _ _ => rfl)) (nomark _))))))))))), ?_⟩
    refine ⟨v, rfl, v, d, rfl, hv, hsz, fun H1 s1 => ⟨_, rfl, ?_⟩⟩
    have hv1 := dp_same s1 hv
    have fin : ∀ (b : Bool) H2, Same H1 H2 → hasForm n d = b → Q (.bl b) H2 := fun b H2 s2 e => by
      have q1 := q H2 (s1.trans s2)
      rw [e] at q1
      exact q1
    cases hval : isValue d with
    | true =>
      refine iteT (fin true H1 (Same.refl _) ?_)
      show (isValue d || _) = true
      rw [hval]
      rfl
    | false =>
      refine iteF ⟨v, rfl, v, _, _, _, _, rfl, .ty "tuple", dp_ty hv1, kit_tup K d, _, rfl, ?_⟩
      cases d with
      | tuple ts =>
        cases hv1 with
        | @tup a xs _ hs ha =>
          have el : xs.length = ts.length := dpA_len ha
          refine iteF ⟨_, rfl, a, xs, rfl, .inr hs, rfl, _, rfl, ?_⟩
          rw [dint]
          cases ts with
          | nil =>
            rw [el]
            exact iteT (fin false H1 (Same.refl _) (by
              show (isValue (.tuple []) || false) = false
              rw [hval]
              rfl))
          | cons d0 rest =>
            have e0 : xs.length = rest.length + 1 := el
            rw [decide_eq_false (show ¬ (xs.length : Int) = 0 by omega)]
            cases ha with
            | @cons x0 xr _ _ h0 hr0 =>
              have at0 : atI (x0 :: xr) (0 : Int) = some x0 := atI_nat (j := 0) rfl
              have lr : xr.length = rest.length := dpA_len hr0
              refine iteF ⟨_, rfl, a, x0 :: xr, 0, x0, rfl, rfl, hs, at0, x0, _, _, _, _, rfl, .ty "str", dp_ty h0, kit_str K d0, _, rfl, ?_⟩
              cases d0 with
              | str z =>
                cases h0
                refine iteF ⟨_, rfl, a, _, 0, .str z, rfl, rfl, hs, at0, ?_⟩
                have hf : hasForm n (.tuple (.str z :: rest)) = formOf n z rest := by
                  show (isValue (.tuple (.str z :: rest)) || formOf n z rest) = _
                  rw [hval]
                  rfl
                refine ⟨_, rfl, rfl, _, rfl, ?_⟩
                have hszr : szDs rest = true := (Bool.and_eq_true_iff.mp (szD_tup hsz)).2
                rw [dstr]
                by_cases z1 : z = "arg"
                · have fe : formOf n z rest = on1 (below n) rest := if_pos z1
                  rw [fe] at hf
                  rw [decide_eq_true z1]
                  refine iteT ⟨_, rfl, a, _, rfl, .inr hs, rfl, _, rfl, ?_⟩
                  rw [dint]
                  by_cases hl : rest.length = 1
                  · rw [decide_eq_true (show (((V.str z :: xr).length : Nat) : Int) = 2 by rw [List.length_cons]; omega)]
                    obtain ⟨d1, rfl⟩ := List.length_eq_one_iff.mp hl
                    cases hr0 with
                    | @cons x1 xr1 _ _ h1 hn1 =>
                      cases hn1
                      have at1 : atI [.str z, x1] (1 : Int) = some x1 := atI_nat (j := 1) rfl
                      refine iteT ⟨_, rfl, a, _, 1, x1, rfl, rfl, hs, at1, x1, d1, rfl, h1, szDs_get hszr (i := 0) rfl, fun H2 s2 => ⟨_, rfl, ?_⟩⟩
                      cases d1 with
                      | int i =>
                        cases h1
                        refine iteT ⟨_, rfl, a, _, 1, _, rfl, rfl, same_sqT s2 hs, at1, _, _, rfl, rfl, _, rfl, ?_⟩
                        have hb : hasForm n (.tuple [.str z, .int i]) = (decide (0 ≤ i) && decide (i < n)) := hf
                        cases h0 : decide (0 ≤ i) with
                        | false =>
                          rw [h0] at hb
                          exact iteF (fin false H2 s2 hb)
                        | true =>
                          rw [h0] at hb
                          exact iteT ⟨_, rfl, _, _, rfl, rfl, fin _ H2 s2 hb⟩
                      | none => exact iteF (fin false H2 s2 hf)
                      | bool b => exact iteF (fin false H2 s2 hf)
                      | str y => exact iteF (fin false H2 s2 hf)
                      | list ds => exact iteF (fin false H2 s2 hf)
                      | tuple ds => exact iteF (fin false H2 s2 hf)
                      | dict kvs => exact iteF (fin false H2 s2 hf)
                  · rw [decide_eq_false (show ¬ (((V.str z :: xr).length : Nat) : Int) = 2 by rw [List.length_cons]; omega)]
                    exact iteF (fin false H1 (Same.refl _) (hf.trans (on1_bad hl)))
                · rw [decide_eq_false z1]
                  refine iteF ⟨_, rfl, rfl, _, rfl, ?_⟩
                  rw [dstr]
                  by_cases z2 : z = "cell"
                  · have fe : formOf n z rest = on1 isName rest := (if_neg z1).trans (if_pos z2)
                    rw [fe] at hf
                    rw [decide_eq_true z2]
                    refine iteT ⟨_, rfl, a, _, rfl, .inr hs, rfl, _, rfl, ?_⟩
                    rw [dint]
                    by_cases hl : rest.length = 1
                    · rw [decide_eq_true (show (((V.str z :: xr).length : Nat) : Int) = 2 by rw [List.length_cons]; omega)]
                      obtain ⟨d1, rfl⟩ := List.length_eq_one_iff.mp hl
                      cases hr0 with
                      | @cons x1 xr1 _ _ h1 hn1 =>
                        cases hn1
                        have at1 : atI [.str z, x1] (1 : Int) = some x1 := atI_nat (j := 1) rfl
                        exact iteT ⟨_, rfl, a, _, 1, x1, rfl, rfl, hs, at1, x1, d1, rfl, h1, szDs_get hszr (i := 0) rfl, fun H2 s2 => fin _ H2 s2 hf⟩
                    · rw [decide_eq_false (show ¬ (((V.str z :: xr).length : Nat) : Int) = 2 by rw [List.length_cons]; omega)]
                      exact iteF (fin false H1 (Same.refl _) (hf.trans (on1_bad hl)))
                  · rw [decide_eq_false z2]
                    refine iteF ⟨_, rfl, rfl, _, rfl, ?_⟩
                    rw [dstr]
                    by_cases z3 : z = "call"
                    · have fe : formOf n z rest = on2 (fun x y => isName x && callForm y) rest := (if_neg z1).trans ((if_neg z2).trans (if_pos z3))
                      rw [fe] at hf
                      rw [decide_eq_true z3]
                      refine iteT ⟨_, rfl, a, _, rfl, .inr hs, rfl, _, rfl, ?_⟩
                      rw [dint]
                      by_cases hl : rest.length = 2
                      · rw [decide_eq_true (show (((V.str z :: xr).length : Nat) : Int) = 3 by rw [List.length_cons]; omega)]
                        obtain ⟨d1, d2, rfl⟩ := len2 hl
                        cases hr0 with
                        | @cons x1 xr1 _ _ h1 hn1 =>
                          cases hn1 with
                          | @cons x2 xr2 _ _ h2 hn2 =>
                            cases hn2
                            have at1 : atI [.str z, x1, x2] (1 : Int) = some x1 := atI_nat (j := 1) rfl
                            have at2 : atI [.str z, x1, x2] (2 : Int) = some x2 := atI_nat (j := 2) rfl
                            refine iteT ⟨_, rfl, a, _, 1, x1, rfl, rfl, hs, at1, x1, d1, rfl, h1, szDs_get hszr (i := 0) rfl, fun H2 s2 => ⟨_, rfl, ?_⟩⟩
                            have hb : hasForm n (.tuple [.str z, d1, d2]) = (isName d1 && callForm d2) := hf
                            cases hn : isName d1 with
                            | false =>
                              rw [hn] at hb
                              exact iteF (fin false H2 s2 hb)
                            | true =>
                              rw [hn] at hb
                              exact iteT ⟨_, rfl, a, _, 2, x2, rfl, rfl, same_sqT s2 hs, at2, x2, d2, rfl, dp_same s2 h2, szDs_get hszr (i := 1) rfl, fun H3 s3 => fin _ H3 (s2.trans s3) hb⟩
                      · rw [decide_eq_false (show ¬ (((V.str z :: xr).length : Nat) : Int) = 3 by rw [List.length_cons]; omega)]
                        exact iteF (fin false H1 (Same.refl _) (hf.trans (on2_bad hl)))
                    · rw [decide_eq_false z3]
                      have fe : formOf n z rest = (match lenOf z with | some k => decide ((rest.length : Int) + 1 = k) | none => false) := (if_neg z1).trans ((if_neg z2).trans (if_neg z3))
                      rw [fe] at hf
                      have hz := hL z
                      cases ez : lenOf z with
                      | none =>
                        rw [ez] at hz hf
                        exact iteF ⟨_, rfl, z, none, rfl, rfl, hz, _, rfl, iteF (fin false H1 (Same.refl _) hf)⟩
                      | some k =>
                        rw [ez] at hz hf
                        obtain ⟨t, hz⟩ := hz
                        refine iteF ⟨_, rfl, z, some _, rfl, rfl, hz, _, rfl, iteT ⟨_, rfl, a, _, rfl, .inr hs, _, rfl, aL, z, .int k, rfl, rfl, ⟨es, n0, _, kL.at_, kL.lit, hz, ⟨_, rfl⟩⟩, rfl, ?_⟩⟩
                        rw [dint]
                        have e5 : (((V.str z :: xr).length : Nat) : Int) = (rest.length : Int) + 1 := by
                          rw [List.length_cons]
                          omega
                        have e6 := fin _ H1 (Same.refl _) hf
                        rw [← e5] at e6
                        exact e6
              | none => exact iteT (fin false H1 (Same.refl _) (Bool.or_eq_false_iff.mpr ⟨hval, rfl⟩))
              | bool b => exact iteT (fin false H1 (Same.refl _) (Bool.or_eq_false_iff.mpr ⟨hval, rfl⟩))
              | int i => exact iteT (fin false H1 (Same.refl _) (Bool.or_eq_false_iff.mpr ⟨hval, rfl⟩))
              | list ds => exact iteT (fin false H1 (Same.refl _) (Bool.or_eq_false_iff.mpr ⟨hval, rfl⟩))
              | tuple ds => exact iteT (fin false H1 (Same.refl _) (Bool.or_eq_false_iff.mpr ⟨hval, rfl⟩))
              | dict kvs => exact iteT (fin false H1 (Same.refl _) (Bool.or_eq_false_iff.mpr ⟨hval, rfl⟩))
      | none => exact iteT (fin false H1 (Same.refl _) (Bool.or_eq_false_iff.mpr ⟨hval, rfl⟩))
      | bool b => exact iteT (fin false H1 (Same.refl _) (Bool.or_eq_false_iff.mpr ⟨hval, rfl⟩))
      | int i => exact iteT (fin false H1 (Same.refl _) (Bool.or_eq_false_iff.mpr ⟨hval, rfl⟩))
      | str z => exact iteT (fin false H1 (Same.refl _) (Bool.or_eq_false_iff.mpr ⟨hval, rfl⟩))
      | list ds => exact iteT (fin false H1 (Same.refl _) (Bool.or_eq_false_iff.mpr ⟨hval, rfl⟩))
      | dict kvs => exact iteT (fin false H1 (Same.refl _) (Bool.or_eq_false_iff.mpr ⟨hval, rfl⟩))
end
/-! ### what stands in a term -/
abbrev sInner : Stmt := topS 14
abbrev sNext : Stmt := topS 15
theorem scInner : FnScope ["term"] ["term"] (defScope sInner) := ⟨rfl, rfl, rfl, by decide +kernel, rfl, by decide +kernel, by decide +kernel⟩
theorem scNext : FnScope ["level", "part", "inner"] ["level"] (defScope sNext) := ⟨rfl, rfl, rfl, by decide +kernel, rfl, by decide +kernel, by decide +kernel⟩
def second : List PyData → List PyData
  | [_, .tuple ts] => ts
  | _ => []
def inner : PyData → List PyData
  | .tuple (.str z :: rest) => if z = "arg" ∨ z = "cell" then [] else if z = "call" then second rest else rest
  | _ => []
theorem form_str {n : Int} {d : PyData} (h : hasForm n d = true) (hv : isValue d = false) : ∃ z rest, d = .tuple (.str z :: rest) ∧ formOf n z rest = true := by
  unfold hasForm at h
  rw [hv] at h
  match d, h with
  | .tuple (.str z :: rest), h => exact ⟨z, rest, rfl, h⟩
theorem in_two (z a b : Str) : inV (.str z) [.str a, .str b] = decide (z = a ∨ z = b) := by
  show ((a == z) || ((b == z) || false)) = _
  rw [Bool.or_false]
  by_cases h1 : z = a
  · subst h1
    rw [beq_self_eq_true, decide_eq_true (.inl rfl)]
    rfl
  · have e1 : (a == z) = false := beq_eq_false_iff_ne.mpr (fun q => h1 q.symm)
    rw [e1]
    by_cases h2 : z = b
    · subst h2
      rw [beq_self_eq_true, decide_eq_true (.inr rfl)]
      rfl
    · have e2 : (b == z) = false := beq_eq_false_iff_ne.mpr (fun q => h2 q.symm)
      rw [e2, decide_eq_false (fun q => q.elim h1 h2)]
      rfl
def spInner (K : PySem.W.Frag) : Sp := fun vs H Q _ => ∃ (v : V) (d : PyData) (n : Int) (H0 : Hp), vs = [v] ∧ Same H0 H ∧ Dp K H0 v d ∧ szD d = true ∧ hasForm n d = true ∧
  ∀ p xs H', Same H H' → H p = none → H' p = some (.lst xs) → DpAll K H0 xs (inner d) → Q (.ref p) H'
section
variable {P : Program} {w : World} {K : PySem.W.Frag} {mg : Str → Option Value} {base : Heap}
theorem ok_inner {f fW fV fN : Addr} {fd dW dV dN : FuncData} (F : Fun K "inner_terms" "inner_terms" sInner f fd) (M : Blt mg) (TC : CellsTxt K mg) (G : CellFns K mg fW fV fN dW dV dN) : FnOk P w K mg base CX0 3 f fd ["term"] (spInner K) := by
  have GV : FnOk P w K mg base CX0 2 fV dV ["value"] (spB K isValue) := ok_value G.V M TC G.W G.bW G.gW
  refine F.ok scInner (fun vs H Q E h => ?_) (fun cdv A outer s H vs Q E hr h => ?_)
  · obtain ⟨v, d, n, H0, rfl, _⟩ := h
    rfl
  · obtain ⟨v, d, n, H0, rfl, s0, hv, hsz, hf, q⟩ := h
    refine ⟨_, pss_cons (ps_if (PW.pt (pw_or (pt_val (pe_call GV hr (by rfl) G.gV G.V.kp G.bV .nil pass0 (pa_cons (pv 0) pa_nil)))
        (pw_or1 (pt_cmpR op_in_seq (pe_ix ix_tup (pv 0) pe_int (fun _ _ => rfl)) (pe_tup (pa_cons pe_str (pa_cons pe_str pa_nil))) (by rfl))))) (pss_one (ps_ret (pe_lst pa_nil))) pss_nil)
      (pss_cons (ps_if (pt_cmpR op_eq (pe_ix ix_tup (pv 0) pe_int (fun _ _ => rfl)) pe_str (nomark _)) (pss_one (ps_ret (pe_callTy call_list_of (by rfl) M.list (by decide +kernel) (pa_cons (pe_ix ix_tup (pv 0) pe_int (fun _ _ => rfl)) pa_nil)))) pss_nil)
      (pss_one (ps_ret (pe_callTy call_list_of (by rfl) M.list (by decide +kernel) (pa_cons (pe_slice sl_tup (pv 0) (po_some pe_int) po_none) pa_nil))))), ?_⟩
    have fin : ∀ xs H1, Same H H1 → DpAll K H0 xs (inner d) → ∀ p, H1 p = none → Q (.ref p) (upd H1 p (.lst xs)) := fun xs H1 s1 ha p np => q p xs _ (s1.trans (same_upd np)) (s1.free np) upd_same ha
    refine ⟨v, rfl, v, d, rfl, dp_same s0 hv, hsz, fun H1 s1 => ⟨_, rfl, ?_⟩⟩
    cases hval : isValue d with
    | true =>
      have ei : inner d = [] := by cases d <;> first | rfl | cases hval
      exact iteT ⟨Nat.zero_le _, fun p np => fin [] H1 s1 (by rw [ei]; exact .nil) p np⟩
    | false =>
      obtain ⟨z, rest, rfl, hf1⟩ := form_str hf hval
      cases hv with
      | @tup a xs _ hs ha =>
        cases ha with
        | @cons x0 xr _ _ h0 hr0 =>
          cases h0
          have at0 : atI (V.str z :: xr) (0 : Int) = some (.str z) := atI_nat (j := 0) rfl
          refine iteF ⟨_, rfl, a, _, 0, .str z, rfl, rfl, same_sqT (s0.trans s1) hs, at0, (by show 2 ≤ sizeLine; decide), fun p np => ?_⟩
          have s2 : Same H1 (upd H1 p (.tup [.str "arg", .str "cell"])) := same_upd np
          refine ⟨p, _, rfl, .inr (.inl (.inl upd_same)), rfl, rfl, _, rfl, ?_⟩
          rw [in_two]
          by_cases z1 : z = "arg" ∨ z = "cell"
          · rw [decide_eq_true z1]
            have ei : inner (.tuple (.str z :: rest)) = [] := if_pos z1
            exact iteT ⟨Nat.zero_le _, fun p2 np2 => fin [] _ (s1.trans s2) (by rw [ei]; exact .nil) p2 np2⟩
          · rw [decide_eq_false z1]
            have hs2 := same_sqT s2 (same_sqT (s0.trans s1) hs)
            refine iteF ⟨_, rfl, a, _, 0, .str z, rfl, rfl, hs2, at0, rfl, _, rfl, ?_⟩
            rw [dstr]
            by_cases z3 : z = "call"
            · rw [decide_eq_true z3]
              have fe : formOf n z rest = on2 (fun x y => isName x && callForm y) rest := (if_neg (fun h => z1 (.inl h))).trans ((if_neg (fun h => z1 (.inr h))).trans (if_pos z3))
              rw [fe] at hf1
              have ei : inner (.tuple (.str z :: rest)) = second rest := (if_neg z1).trans (if_pos z3)
              have hl : rest.length = 2 := by
                by_cases h : rest.length = 2
                · exact h
                · rw [on2_bad h] at hf1
                  cases hf1
              obtain ⟨d1, d2, rfl⟩ := len2 hl
              cases hr0 with
              | @cons x1 xr1 _ _ h1 hn1 =>
                cases hn1 with
                | @cons x2 xr2 _ _ h2 hn2 =>
                  cases hn2
                  have at2 : atI [.str z, x1, x2] (2 : Int) = some x2 := atI_nat (j := 2) rfl
                  have hc : callForm d2 = true := (Bool.and_eq_true_iff.mp hf1).2
                  cases d2 with
                  | tuple ts =>
                    cases h2 with
                    | @tup b ys _ hb hys =>
                      exact iteT ⟨_, rfl, a, _, 2, _, rfl, rfl, hs2, at2, b, ys, rfl, .inr (same_sqT s2 (same_sqT (s0.trans s1) hb)), fun p2 np2 => fin ys _ (s1.trans s2) (by rw [ei]; exact hys) p2 np2⟩
                  | none => cases hc
                  | bool _ => cases hc
                  | int _ => cases hc
                  | str _ => cases hc
                  | list _ => cases hc
                  | dict _ => cases hc
            · rw [decide_eq_false z3]
              have ei : inner (.tuple (.str z :: rest)) = rest := (if_neg z1).trans (if_neg z3)
              refine iteF ⟨_, rfl, 1, rfl, a, _, rfl, hs2, ?_, fun p2 np2 => ?_⟩
              · intro h
                have h1 := h.1
                rw [show HT.sIx (V.str z :: xr).length 0 (some 1) = min 1 (V.str z :: xr).length from HT.sIx_nat _ 0 1, List.length_cons] at h1
                omega
              · have s3 := (s1.trans s2).trans (same_upd (o := .tup (cutV (V.str z :: xr) (some 1) none)) np2)
                refine ⟨p2, cutV (V.str z :: xr) (some 1) none, rfl, .inr (.inl (.inl upd_same)), fun p3 np3 => fin _ _ s3 ?_ p3 np3⟩
                rw [ei, cut1]
                exact hr0
end
def spNext (K : PySem.W.Frag) : Sp := fun vs H Q _ => ∃ (a : Addr) (xs : List V) (ds : List PyData) (n : Int) (H0 : Hp), vs = [.ref a] ∧ Same H0 H ∧ SqL K H a xs ∧ DpAll K H0 xs ds ∧ szDs ds = true ∧ ds.all (hasForm n) = true ∧ (ds.flatMap inner).length ≤ 10000 ∧ ds.length ≤ 10000 ∧
  ∀ p ys H', Same H H' → H p = none → H' p = some (.lst ys) → DpAll K H0 ys (ds.flatMap inner) → Q (.ref p) H'
theorem flat_take {ds : List PyData} {i : Nat} {d : PyData} (h : ds[i]? = some d) : (ds.take (i + 1)).flatMap inner = (ds.take i).flatMap inner ++ inner d := by
  rw [take_snoc h, List.flatMap_append]
  simp
theorem flat_take_len (ds : List PyData) (i : Nat) : ((ds.take i).flatMap inner).length ≤ (ds.flatMap inner).length := by
  have h : ds.flatMap inner = (ds.take i).flatMap inner ++ (ds.drop i).flatMap inner := by
    rw [← List.flatMap_append, List.take_append_drop]
  rw [h, List.length_append]
  omega
section
variable {P : Program} {w : World} {K : PySem.W.Frag} {mg : Str → Option Value} {base : Heap}
theorem ok_next {f fI : Addr} {fd dI : FuncData} (F : Fun K "_next_level" "_next_level" sNext f fd) (GI : FnOk P w K mg base CX0 3 fI dI ["term"] (spInner K)) (FI : Fun K "inner_terms" "inner_terms" sInner fI dI) (bI : Binds K dI ["term"] []) (gI : mg "inner_terms" = some (.ref fI)) :
    FnOk P w K mg base CX0 4 f fd ["level"] (spNext K) := by
  refine F.ok scNext (fun vs H Q E h => ?_) (fun cdv A outer s H vs Q E hr h => ?_)
  · obtain ⟨a, xs, ds, n, H0, rfl, _⟩ := h
    rfl
  · obtain ⟨a, xs, ds, n, H0, rfl, s0, hs, ha, hsz, hf, hlen, hlen2, q⟩ := h
    refine' ⟨_, pss_one (ps_ret ?e), ?r⟩
    case e =>
      refine' pe_lc2 (own := [("part", 1), ("inner", 2)]) (vs1 := [2]) (g := gName 1) (g1 := gName 2) (wi1 := iList K (tCall (spInner K) [] E0 (tCons (tVar 1) tNil))) (by rfl) scNext.nd (pi_list (pv 0)) (blkOk_by (own := [("part", 1), ("inner", 2)]) (N := ["level", "part", "inner"]) (sc := defScope sNext) (by decide +kernel)) (by decide)
        ?hg ?ht ?hi ?hg1 ?ht1 ?he
      case hg => exact fun _ _ _ _ _ => pg_name (i := 1) scNext.nd rfl (Or.inl rfl)
      case ht => exact fun _ _ _ _ _ => pts_nil
      case hi => exact fun _ _ _ _ _ => pi_list (pe_call GI hr (by rfl) gI FI.kp bI .nil pass0 (pa_cons (pv 1) pa_nil))
      case hg1 => exact fun _ _ _ _ _ => pg_name (i := 2) scNext.nd rfl (Or.inl rfl)
      case ht1 => exact fun _ _ _ _ _ => pts_nil
      case he => exact fun _ _ _ _ _ => pv 2
    have el : xs.length = ds.length := dpA_len ha
    refine ⟨_, rfl, a, rfl, ⟨_, hs⟩, fun D hD => ?_⟩
    refine walk_gen (walk_list (K := K) (a := a) (xs := xs)) (fun i H' => Same H H' ∧ ∃ acc, H' D = some (.lst acc) ∧ DpAll K H0 acc ((ds.take i).flatMap inner)) ⟨same_upd hD, [], upd_same, .nil⟩ (fun i H' _ p => p.1.seq hs) (fun i x H1 H2 hi p y => ?_) (fun H' p => ?_)
    · obtain ⟨s1, acc, e1, ac⟩ := p
      obtain ⟨rfl, hx⟩ := y
      obtain ⟨d, hd, dx⟩ := dpA_at ha hx
      have hfd : hasForm n d = true := List.all_eq_true.mp hf d (List.mem_of_getElem? hd)
      refine And.intro rfl ?_
      unfold tYes
      refine iteT ?_
      refine ⟨_, rfl, x, d, n, H0, rfl, s0.trans s1, dx, szDs_get hsz hd, hfd, fun p ys H3 s3 np e3 hys => ?_⟩
      have nDp : D ≠ p := ne_of_none e1 np
      refine ⟨p, rfl, ⟨ys, .inl (.inl e3)⟩, ?_⟩
      have ely : ys.length = (inner d).length := dpA_len hys
      have e13 : H3 D = some (.lst acc) := s3 _ _ e1
      refine walk_gen (walk_list (K := K) (a := p) (xs := ys)) (fun j H' => Same H H' ∧ H' p = some (.lst ys) ∧ H' D = some (.lst (acc ++ ys.take j))) ⟨s1.trans s3, e3, by rw [List.take_zero, List.append_nil]; exact e13⟩ (fun j H' _ p' => .inl (.inl p'.2.1)) (fun j z H4 H5 hj p4 y4 => ?_) (fun H' p' => ?_)
      · obtain ⟨s4, e4, f4⟩ := p4
        obtain ⟨rfl, hz⟩ := y4
        refine And.intro rfl ?_
        refine iteT ?_
        refine ⟨z, rfl, acc ++ ys.take j, f4, ?_, fun b o e => ?_, ?_, ?_⟩
        · rw [List.length_append, List.length_take, dpA_len ac]
          have h1 := flat_take_len ds (i + 1)
          rw [flat_take hd, List.length_append] at h1
          exact Nat.lt_of_le_of_lt (show _ ≤ 10000 by omega) (by decide)
        · rw [upd_ne (ne_of_none e hD)]
          exact s4 _ _ e
        · rw [upd_ne (fun e => nDp e.symm)]
          exact e4
        · rw [upd_same, take_snoc hz, List.append_assoc]
      · obtain ⟨s5, e5, f5⟩ := p'
        refine ⟨s5, acc ++ ys, ?_, ?_⟩
        · rw [f5, List.take_length]
        · rw [flat_take hd]
          exact dpA_app ac hys
    · obtain ⟨s1, acc, e1, ac⟩ := p
      rw [el, List.take_length] at ac
      exact q D acc H' s1 hD e1 ac
end
/-! ### is_term -/
abbrev sTerm : Stmt := topS 11
theorem scTerm : FnScope ["value", "arguments", "level", "deep", "many", "part"] ["value", "arguments"] (defScope sTerm) := ⟨rfl, rfl, rfl, by decide +kernel, rfl, by decide +kernel, by decide +kernel⟩
def goT (n : Int) : Nat → List PyData → Nat → Nat → Bool
  | 0, _, _, _ => false
  | _ + 1, [], _, _ => true
  | f + 1, d :: ds, deep, many => !decide (8 < deep + 1 ∨ 30 < many + (d :: ds).length) && ((d :: ds).all (hasForm n) && goT n f ((d :: ds).flatMap inner) (deep + 1) (many + (d :: ds).length))
def isTerm (n : Int) (d : PyData) : Bool := goT n 9 [d] 0 0
theorem goT_nil {n : Int} {f deep many : Nat} : goT n (f + 1) [] deep many = true := rfl
theorem goT_cons {n : Int} {f deep many : Nat} {ds : List PyData} (h : ds ≠ []) : goT n (f + 1) ds deep many = (!decide (8 < deep + 1 ∨ 30 < many + ds.length) && (ds.all (hasForm n) && goT n f (ds.flatMap inner) (deep + 1) (many + ds.length))) := by
  cases ds with
  | nil => exact absurd rfl h
  | cons d ds => rfl
theorem form_len {n : Int} {z : Str} {rest : List PyData} (h : formOf n z rest = true) : rest.length ≤ 3 ∧ (z = "call" → ∃ d1 ts, rest = [d1, .tuple ts] ∧ ts.length ≤ 2) := by
  unfold formOf at h
  by_cases z1 : z = "arg"
  · rw [if_pos z1] at h
    have hl : rest.length = 1 := by
      by_cases q : rest.length = 1
      · exact q
      · rw [on1_bad q] at h
        cases h
    refine ⟨by omega, fun q => ?_⟩
    rw [z1] at q
    exact absurd q (by decide +kernel)
  · rw [if_neg z1] at h
    by_cases z2 : z = "cell"
    · rw [if_pos z2] at h
      have hl : rest.length = 1 := by
        by_cases q : rest.length = 1
        · exact q
        · rw [on1_bad q] at h
          cases h
      refine ⟨by omega, fun q => ?_⟩
      rw [z2] at q
      exact absurd q (by decide +kernel)
    · rw [if_neg z2] at h
      by_cases z3 : z = "call"
      · rw [if_pos z3] at h
        have hl : rest.length = 2 := by
          by_cases q : rest.length = 2
          · exact q
          · rw [on2_bad q] at h
            cases h
        refine ⟨by omega, fun _ => ?_⟩
        obtain ⟨d1, d2, rfl⟩ := len2 hl
        have hc : callForm d2 = true := (Bool.and_eq_true_iff.mp h).2
        cases d2 with
        | tuple ts => exact ⟨d1, ts, rfl, by have := of_decide_eq_true hc; omega⟩
        | none => cases hc
        | bool _ => cases hc
        | int _ => cases hc
        | str _ => cases hc
        | list _ => cases hc
        | dict _ => cases hc
      · rw [if_neg z3] at h
        refine ⟨?_, fun q => absurd q z3⟩
        cases e : lenOf z with
        | none =>
          rw [e] at h
          cases h
        | some k =>
          rw [e] at h
          have h1 := of_decide_eq_true h
          have hk : k ≤ 4 := by
            unfold lenOf at e
            split at e
            · cases e
              decide
            · split at e
              · cases e
                decide
              · split at e
                · cases e
                  decide
                · split at e
                  · cases e
                    decide
                  · split at e
                    · cases e
                      decide
                    · cases e
          omega
theorem inner_len {n : Int} {d : PyData} (h : hasForm n d = true) : (inner d).length ≤ 3 := by
  cases hv : isValue d with
  | true =>
    have e : inner d = [] := by cases d <;> first | rfl | cases hv
    rw [e]
    exact Nat.zero_le _
  | false =>
    obtain ⟨z, rest, rfl, hf⟩ := form_str h hv
    have hl := form_len hf
    show (if z = "arg" ∨ z = "cell" then [] else if z = "call" then second rest else rest).length ≤ 3
    by_cases z1 : z = "arg" ∨ z = "cell"
    · rw [if_pos z1]
      exact Nat.zero_le _
    · rw [if_neg z1]
      by_cases z3 : z = "call"
      · rw [if_pos z3]
        obtain ⟨d1, ts, rfl, ht⟩ := hl.2 z3
        show ts.length ≤ 3
        omega
      · rw [if_neg z3]
        exact hl.1
theorem flat_len {n : Int} : ∀ {ds : List PyData}, ds.all (hasForm n) = true → (ds.flatMap inner).length ≤ 3 * ds.length
  | [], _ => Nat.le_refl _
  | d :: ds, h => by
    have h1 := Bool.and_eq_true_iff.mp h
    rw [List.flatMap_cons, List.length_append, List.length_cons]
    have := inner_len h1.1
    have := flat_len h1.2
    omega
theorem szDs_app : ∀ {a b : List PyData}, szDs (a ++ b) = (szDs a && szDs b)
  | [], _ => rfl
  | d :: a, b => by
    show (szD d && szDs (a ++ b)) = ((szD d && szDs a) && szDs b)
    rw [szDs_app, Bool.and_assoc]
theorem sz_inner {d : PyData} (h : szD d = true) : szDs (inner d) = true := by
  match d, h with
  | .none, _ => rfl
  | .bool _, _ => rfl
  | .int _, _ => rfl
  | .str _, _ => rfl
  | .list _, _ => rfl
  | .dict _, _ => rfl
  | .tuple [], _ => rfl
  | .tuple (.none :: _), _ => rfl
  | .tuple (.bool _ :: _), _ => rfl
  | .tuple (.int _ :: _), _ => rfl
  | .tuple (.list _ :: _), _ => rfl
  | .tuple (.tuple _ :: _), _ => rfl
  | .tuple (.dict _ :: _), _ => rfl
  | .tuple (.str z :: rest), h =>
    have hr : szDs rest = true := (Bool.and_eq_true_iff.mp (szD_tup h)).2
    show szDs (if z = "arg" ∨ z = "cell" then [] else if z = "call" then second rest else rest) = true
    by_cases z1 : z = "arg" ∨ z = "cell"
    · rw [if_pos z1]
      rfl
    · rw [if_neg z1]
      by_cases z3 : z = "call"
      · rw [if_pos z3]
        match rest, hr with
        | [_, .tuple ts], hr => exact szD_tup (szDs_get (i := 1) hr rfl)
        | [], _ => rfl
        | [_], _ => rfl
        | [_, .none], _ => rfl
        | [_, .bool _], _ => rfl
        | [_, .int _], _ => rfl
        | [_, .str _], _ => rfl
        | [_, .list _], _ => rfl
        | [_, .dict _], _ => rfl
        | _ :: b :: _ :: _, _ => cases b <;> rfl
      · rw [if_neg z3]
        exact hr
theorem sz_flat : ∀ {ds : List PyData}, szDs ds = true → szDs (ds.flatMap inner) = true
  | [], _ => rfl
  | d :: ds, h => by
    have h1 := Bool.and_eq_true_iff.mp h
    rw [List.flatMap_cons, szDs_app, sz_inner h1.1, sz_flat h1.2]
    rfl
theorem all_rangeD (l : List PyData) (g : PyData → Bool) : ((List.range l.length).map fun i => g (l.getD i .none)).all id = l.all g := by
  have e : (List.range l.length).map (fun i => g (l.getD i .none)) = l.map g := by
    apply List.ext_getElem?
    intro i
    rw [List.getElem?_map, List.getElem?_map]
    by_cases hi : i < l.length
    · rw [List.getElem?_range hi, List.getElem?_eq_getElem hi]
      show some (g (l.getD i .none)) = some (g l[i])
      rw [List.getD_eq_getElem?_getD, List.getElem?_eq_getElem hi]
      rfl
    · rw [List.getElem?_eq_none (by simpa using hi), List.getElem?_eq_none (by simpa using hi)]
      rfl
  rw [e, List.all_map]
  rfl
section
variable {P : Program} {w : World} {K : PySem.W.Frag} {mg : Str → Option Value} {base : Heap}
theorem ok_term {f fH fX : Addr} {fd dH dX : FuncData} (F : Fun K "is_term" "is_term" sTerm f fd) (M : Blt mg) (T : TermsTxt K w mg)
    (GH : FnOk P w K mg base CX0 3 fH dH ["part", "arguments"] (spBn K hasForm)) (FH : Fun K "_has_form" "_has_form" sHas fH dH) (bH : Binds K dH ["part", "arguments"] []) (gH : mg "_has_form" = some (.ref fH))
    (GX : FnOk P w K mg base CX0 4 fX dX ["level"] (spNext K)) (FX : Fun K "_next_level" "_next_level" sNext fX dX) (bX : Binds K dX ["level"] []) (gX : mg "_next_level" = some (.ref fX)) :
    FnOk P w K mg base CX0 5 f fd ["value", "arguments"] (spBn K isTerm) := by
  obtain ⟨tD, gD⟩ := T.deep
  obtain ⟨tP, gP⟩ := T.parts
  refine F.ok scTerm (fun vs H Q E h => ?_) (fun cdv A outer s H vs Q E hr h => ?_)
  · obtain ⟨v, d, n, rfl, _⟩ := h
    rfl
  · obtain ⟨v, d, n, rfl, hv, hsz, q⟩ := h
    have hr3 : Room 3 _ := hr.mono (by decide)
    refine ⟨_, pss_cons (ps_set (i := 2) scTerm.nd rfl (.inl rfl) (pe_lst (pa_cons (pv 0) pa_nil)))
      (pss_cons (ps_set (i := 3) scTerm.nd rfl (.inl rfl) pe_int)
      (pss_cons (ps_set (i := 4) scTerm.nd rfl (.inl rfl) pe_int)
      (pss_cons (ps_while PassesOwn.never (pt_truth (pv 2) (by intro _; rfl))
        (pss_cons (ps_aug (i := 3) scTerm.nd rfl (.inl rfl) pe_int ip_add)
        (pss_cons (ps_aug (i := 4) scTerm.nd rfl (.inl rfl) (pe_callB call_len_seq (by rfl) M.len PySem.boot_len (pa_cons (pv 2) pa_nil)) ip_add)
        (pss_cons (ps_if (PW.pt (pw_or (pt_cmpR op_gt (pv 3) (pe_glob (v := .int 8) (by rfl) gD ⟨_, rfl⟩) (nomark _)) (pw_or1 (pt_cmpR op_gt (pv 4) (pe_glob (v := .int 30) (by rfl) gP ⟨_, rfl⟩) (nomark _))))) (pss_one (ps_ret pe_bl)) pss_nil)
        (pss_cons (ps_if (pt_not (pt_val (pe_callB (cr_all rfl) (by rfl) M.all (by decide +kernel) (pa_cons
            (pe_lc (own := [("part", 5)]) (g := gName 5) (te := tCall (spBn K hasForm) [] E0 (tCons (tVar 5) (tCons (tVar 1) tNil))) (by rfl) scTerm.nd (pi_list (pv 2)) (blkOk_by (own := [("part", 5)]) (N := ["value", "arguments", "level", "deep", "many", "part"]) (sc := defScope sTerm) (by decide +kernel))
              (fun _ _ _ _ _ => pg_name (i := 5) scTerm.nd rfl (Or.inl rfl)) (fun _ _ _ _ _ => pts_nil) (fun _ _ _ _ _ => pe_call GH hr3 (by rfl) gH FH.kp bH .nil pass0 (pa_cons (pv 5) (pa_cons (pv 1) pa_nil)))) pa_nil)))) (pss_one (ps_ret pe_bl)) pss_nil)
        (pss_one (ps_set (i := 2) scTerm.nd rfl (.inl rfl) (pe_call GX hr (by rfl) gX FX.kp bX .nil pass0 (pa_cons (pv 2) pa_nil)))))))))
      (pss_one (ps_ret pe_bl))))), ?_⟩
    have fin : ∀ (b : Bool) H1, Same H H1 → isTerm n d = b → Q (.bl b) H1 := fun b H1 s1 e => by
      rw [← e]
      exact q H1 s1
    refine ⟨v, rfl, (by show 1 ≤ sizeLine; decide), fun a0 na0 => ?_⟩
    refine q_c (σ := [some v, some (.int n), some (.ref a0), none, none, none]) (i := 3) (v := .int 0) ?_
    refine q_c (i := 4) (v := .int 0) ?_
    dsimp only [List.set]
    refine q_w ?_
    refine while_by (fun σ H' => ∃ (a : Addr) (xs : List V) (lv : List PyData) (k m : Nat) (y : Option V), σ = [some v, some (.int n), some (.ref a), some (.int k), some (.int m), y] ∧ Same H H' ∧ H' a = some (.lst xs) ∧ DpAll K H xs lv ∧ szDs lv = true ∧ k ≤ 8 ∧ lv.length ≤ 3000 ∧ goT n (9 - k) lv k m = isTerm n d)
      (fun σ _ => match σ with | [_, _, _, some (.int k), _, _] => 9 - k.toNat | _ => 0)
      ⟨a0, [v], [d], 0, 0, none, rfl, same_upd na0, upd_same, .cons hv .nil, (by show (szD d && true) = true; rw [hsz]; rfl), by omega, (by show 1 ≤ 3000; decide), rfl⟩ (fun σ H' hW => ?_) (fun σ H' Q1 Q2 hq ⟨x, e, k, t, q⟩ => ⟨x, e, k, t, hq _ _ q⟩)
    obtain ⟨a, xs, lv, k, m, y, rfl, s1, ea, ha, hz, hk, hln, hg⟩ := hW
    have el : xs.length = lv.length := dpA_len ha
    have hS : SqL K H' a xs := .inl (.inl ea)
    refine ⟨.ref a, rfl, _, .inl ⟨xs, hS, rfl⟩, ?_⟩
    cases lv with
    | nil =>
      have ex : xs = [] := List.eq_nil_of_length_eq_zero el
      subst ex
      refine iteF (fin true H' s1 ?_)
      rw [← hg, show 9 - k = (8 - k) + 1 by omega]
      rfl
    | cons d0 ds =>
      have ex : (!xs.isEmpty) = true := by
        cases xs with
        | nil => cases el
        | cons _ _ => rfl
      rw [ex]
      generalize hlv : d0 :: ds = lv at *
      have hne : lv ≠ [] := by
        rw [← hlv]
        exact List.cons_ne_nil _ _
      rw [show 9 - k = (8 - k) + 1 by omega, goT_cons hne] at hg
      refine iteT ⟨_, rfl, _, _, rfl, rfl, ?_⟩
      refine ⟨_, rfl, _, rfl, a, xs, rfl, .inl hS, _, _, rfl, rfl, ?_⟩
      refine ⟨_, rfl, _, _, rfl, rfl, _, rfl, ?_⟩
      have c1 : decide ((8 : Int) < (k : Int) + 1) = decide (8 < k + 1) := by
        by_cases h : 8 < k + 1
        · rw [decide_eq_true h, decide_eq_true (by omega)]
        · rw [decide_eq_false h, decide_eq_false (by omega)]
      have c2 : decide ((30 : Int) < (m : Int) + (xs.length : Int)) = decide (30 < m + lv.length) := by
        by_cases h : 30 < m + lv.length
        · rw [decide_eq_true h, decide_eq_true (by omega)]
        · rw [decide_eq_false h, decide_eq_false (by omega)]
      rw [c1]
      by_cases h1 : 8 < k + 1
      · rw [decide_eq_true h1]
        refine iteT (iteT (fin false H' s1 ?_))
        rw [← hg, decide_eq_true (.inl h1)]
        rfl
      · rw [decide_eq_false h1]
        refine iteF ⟨_, rfl, _, _, rfl, rfl, _, rfl, ?_⟩
        rw [c2]
        by_cases h2 : 30 < m + lv.length
        · rw [decide_eq_true h2]
          refine iteT (fin false H' s1 ?_)
          rw [← hg, decide_eq_true (.inr h2)]
          rfl
        · rw [decide_eq_false h2]
          rw [decide_eq_false (show ¬ (8 < k + 1 ∨ 30 < m + lv.length) from fun q => q.elim h1 h2)] at hg
          refine iteF ⟨_, rfl, a, rfl, ⟨_, hS⟩, fun D hD => ?_⟩
          refine lc_vals (vs := [5]) (j := 5) (walk_list (K := K) (a := a) (xs := xs)) (fun i => .bl (hasForm n (lv.getD i .none))) (by omega) hD (fun x => rfl) (fun H2 s2 => s2.seq hS) (fun i x H2 H3 hi s2 y2 => ?_) (fun H2 s2 e2 => ?_)
          · obtain ⟨rfl, hx⟩ := y2
            obtain ⟨di, hdi, dx⟩ := dpA_at ha hx
            refine ⟨Same.refl _, fun Q2 q2 => ?_⟩
            refine ⟨x, rfl, _, rfl, x, di, n, rfl, dp_same (s1.trans s2) dx, szDs_get hz hdi, fun H4 s4 => ?_⟩
            have e4 := q2 H4 s4
            rw [List.getD_eq_getElem?_getD, hdi] at e4
            exact e4
          · have eb : ((List.range xs.length).map fun i => hasForm n (lv.getD i .none)).all id = lv.all (hasForm n) := by
              rw [el]
              exact all_rangeD lv (hasForm n)
            refine ⟨D, (List.range xs.length).map (fun i => hasForm n (lv.getD i .none)), rfl, .inl (.inl ?_), ?_⟩
            · rw [e2, List.map_map]
              rfl
            · refine ⟨_, rfl, ?_⟩
              rw [eb]
              cases hb : lv.all (hasForm n) with
              | false =>
                refine iteT (fin false H2 (s1.trans s2) ?_)
                rw [← hg, hb]
                rfl
              | true =>
                rw [hb] at hg
                refine iteF ⟨_, rfl, a, xs, lv, n, H, rfl, s1.trans s2, s2.seq hS, ha, hz, hb, ?_, by omega, fun p ys H5 s5 np e5 hys => ?_⟩
                · have := flat_len hb
                  omega
                · have hfl := flat_len hb
                  refine ⟨⟨p, ys, lv.flatMap inner, k + 1, m + lv.length, y, ?_, (s1.trans s2).trans s5, e5, hys, sz_flat hz, by omega, by omega, ?_⟩, ?_⟩
                  · show [some v, some (V.int n), some (V.ref p), some (V.int ((k : Int) + 1)), some (V.int ((m : Int) + (xs.length : Int))), y] = _
                    rw [el]
                    rfl
                  · rw [show 9 - (k + 1) = 8 - k by omega]
                    exact hg
                  · show 9 - ((k : Int) + 1).toNat < 9 - (k : Int).toNat
                    omega
end
/-! ### how great a term is -/
abbrev sParts : Stmt := topS 16
abbrev sSize : Stmt := topS 17
abbrev sDepth : Stmt := topS 18
theorem scParts : FnScope ["term", "parts", "level"] ["term"] (defScope sParts) := ⟨rfl, rfl, rfl, by decide +kernel, rfl, by decide +kernel, by decide +kernel⟩
theorem scSize : FnScope ["term"] ["term"] (defScope sSize) := ⟨rfl, rfl, rfl, by decide +kernel, rfl, by decide +kernel, by decide +kernel⟩
theorem scDepth : FnScope ["term", "deep", "level"] ["term"] (defScope sDepth) := ⟨rfl, rfl, rfl, by decide +kernel, rfl, by decide +kernel, by decide +kernel⟩
/-- all levels one behind the other -/
def flatGo : Nat → List PyData → List PyData
  | 0, _ => []
  | f + 1, lv => lv ++ flatGo f (lv.flatMap inner)
def deepGo : Nat → List PyData → Nat
  | 0, _ => 0
  | _ + 1, [] => 0
  | f + 1, d :: ds => 1 + deepGo f ((d :: ds).flatMap inner)
def partsD (d : PyData) : List PyData := flatGo 9 [d]
def depthD (d : PyData) : Nat := deepGo 9 [d]
theorem flatGo_nil : ∀ f, flatGo f [] = []
  | 0 => rfl
  | f + 1 => by
    show [] ++ flatGo f [] = []
    rw [flatGo_nil f]
    rfl
/-- what stands of a term that is one -/
theorem goT_true {n : Int} {f deep many : Nat} {lv : List PyData} (hne : lv ≠ []) (h : goT n f lv deep many = true) : ∃ g, f = g + 1 ∧ lv.all (hasForm n) = true ∧ many + lv.length ≤ 30 ∧ goT n g (lv.flatMap inner) (deep + 1) (many + lv.length) = true := by
  cases f with
  | zero => cases h
  | succ g =>
    rw [goT_cons hne] at h
    have h1 := Bool.and_eq_true_iff.mp h
    have h2 := Bool.and_eq_true_iff.mp h1.2
    refine ⟨g, rfl, h2.1, ?_, h2.2⟩
    have h3 : ¬ (8 < deep + 1 ∨ 30 < many + lv.length) := of_decide_eq_false (by simpa using h1.1)
    omega
def spParts (K : PySem.W.Frag) : Sp := fun vs H Q _ => ∃ (v : V) (d : PyData) (n : Int), vs = [v] ∧ Dp K H v d ∧ szD d = true ∧ isTerm n d = true ∧
  ∀ p xs H', Same H H' → H p = none → H' p = some (.lst xs) → DpAll K H xs (partsD d) → xs.length ≤ 30 → Q (.ref p) H'
/-- a number told of a term -/
def spNum (K : PySem.W.Frag) (g : PyData → Int) : Sp := fun vs H Q _ => ∃ (v : V) (d : PyData) (n : Int), vs = [v] ∧ Dp K H v d ∧ szD d = true ∧ isTerm n d = true ∧ ∀ H', Same H H' → Q (.int (g d)) H'
section
variable {P : Program} {w : World} {K : PySem.W.Frag} {mg : Str → Option Value} {base : Heap}
theorem ok_parts {f fX : Addr} {fd dX : FuncData} (F : Fun K "all_parts" "all_parts" sParts f fd)
    (GX : FnOk P w K mg base CX0 4 fX dX ["level"] (spNext K)) (FX : Fun K "_next_level" "_next_level" sNext fX dX) (bX : Binds K dX ["level"] []) (gX : mg "_next_level" = some (.ref fX)) :
    FnOk P w K mg base CX0 5 f fd ["term"] (spParts K) := by
  refine F.ok scParts (fun vs H Q E h => ?_) (fun cdv A outer s H vs Q E hr h => ?_)
  · obtain ⟨v, d, n, rfl, _⟩ := h
    rfl
  · obtain ⟨v, d, n, rfl, hv, hsz, ht, q⟩ := h
    refine ⟨_, pss_cons (ps_set (i := 1) scParts.nd rfl (.inl rfl) (pe_lst pa_nil))
      (pss_cons (ps_set (i := 2) scParts.nd rfl (.inl rfl) (pe_lst (pa_cons (pv 0) pa_nil)))
      (pss_cons (ps_while PassesOwn.never (pt_truth (pv 2) (by intro _; rfl))
        (pss_cons (ps_expr (pe_bm PySem.F.plainAttrs_list PySem.F.slot_list_extend PySem.F.type_list_extend mt_extend (pv 1) (pa_cons (pv 2) pa_nil)))
        (pss_one (ps_set (i := 2) scParts.nd rfl (.inl rfl) (pe_call GX hr (by rfl) gX FX.kp bX .nil pass0 (pa_cons (pv 2) pa_nil))))))
      (pss_one (ps_ret (pv 1))))), ?_⟩
    refine ⟨Nat.zero_le _, fun o no => ?_⟩
    refine ⟨v, rfl, (by show 1 ≤ sizeLine; decide), fun a0 na0 => ?_⟩
    have noa : o ≠ a0 := fun e => by
      rw [← e, upd_same] at na0
      cases na0
    dsimp only [gName]
    refine q_w (σ := [some v, some (.ref o), some (.ref a0)]) ?_
    refine wh_by (fun f σ H' => ∃ (a : Addr) (xs acc : List V) (lv pre : List PyData) (deep : Nat), σ = [some v, some (.ref o), some (.ref a)] ∧ a ≠ o ∧ Same H H' ∧ H' a = some (.lst xs) ∧ H' o = some (.lst acc) ∧ DpAll K H xs lv ∧ DpAll K H acc pre ∧ pre.length ≤ 30 ∧ szDs lv = true ∧ lv.length ≤ 3000 ∧ (lv = [] ∨ goT n f lv deep pre.length = true) ∧ pre ++ flatGo f lv = partsD d)
      9 ⟨a0, [v], [], [d], [], 0, rfl, noa.symm, (same_upd no).trans (same_upd na0), upd_same, by rw [upd_ne noa]; exact upd_same, .cons hv .nil, .nil, by decide, (by show (szD d && true) = true; rw [hsz]; rfl), (by show 1 ≤ 3000; decide), .inr ht, rfl⟩ (fun f σ H' hW => ?_) (fun σ H' Q1 Q2 hq ⟨x, e, k, t, q⟩ => ⟨x, e, k, t, hq _ _ q⟩)
    obtain ⟨a, xs, acc, lv, pre, deep, rfl, nao, s1, ea, eo, ha, hp, hpl, hz, hln, hg, hfl⟩ := hW
    have el : xs.length = lv.length := dpA_len ha
    have elp : acc.length = pre.length := dpA_len hp
    have hS : SqL K H' a xs := .inl (.inl ea)
    refine ⟨.ref a, rfl, _, .inl ⟨xs, hS, rfl⟩, ?_⟩
    by_cases hne : lv = []
    · have ex : xs = [] := List.eq_nil_of_length_eq_zero (by rw [el, hne]; rfl)
      subst ex
      refine iteF ⟨.ref o, rfl, q o acc H' s1 no eo ?_ (by omega)⟩
      rw [← hfl, hne, flatGo_nil, List.append_nil]
      exact hp
    · have ex : (!xs.isEmpty) = true := by
        cases xs with
        | nil => exact absurd (List.eq_nil_of_length_eq_zero el.symm) hne
        | cons _ _ => rfl
      rw [ex]
      obtain ⟨g, rfl, hb, hm, hg2⟩ := goT_true hne (hg.resolve_left hne)
      have hfl2 := flat_len hb
      refine iteT ⟨.ref o, rfl, .inl ⟨rfl, _, .inl (.inl eo)⟩, .ref a, rfl, o, a, acc, xs, rfl, rfl, eo, ea, ?_, ?_⟩
      · rw [elp, el]
        exact Nat.le_trans (show pre.length + lv.length ≤ 60 by omega) (by decide)
      · have s2 : Same H (upd H' o (.lst (acc ++ xs))) := fun b u e => by
          rw [upd_ne (ne_of_none e no)]
          exact s1 _ _ e
        have ea2 : (upd H' o (.lst (acc ++ xs))) a = some (.lst xs) := by
          rw [upd_ne nao]
          exact ea
        refine ⟨.ref a, rfl, a, xs, lv, n, H, rfl, s2, .inl (.inl ea2), ha, hz, hb, by omega, by omega, fun p ys H5 s5 np e5 hys => ?_⟩
        have npo : p ≠ o := fun e => by
          rw [e, upd_same] at np
          cases np
        refine ⟨g, Nat.lt_succ_self _, p, ys, acc ++ xs, lv.flatMap inner, pre ++ lv, deep + 1, rfl, npo, s2.trans s5, e5, s5 _ _ upd_same, hys, dpA_app hp ha, ?_, sz_flat hz, by omega, .inr ?_, ?_⟩
        · rw [List.length_append]
          exact hm
        · rw [List.length_append]
          exact hg2
        · rw [← hfl, List.append_assoc]
          rfl
theorem ok_size {f fX : Addr} {fd dX : FuncData} (F : Fun K "term_size" "term_size" sSize f fd) (M : Blt mg)
    (GX : FnOk P w K mg base CX0 5 fX dX ["term"] (spParts K)) (FX : Fun K "all_parts" "all_parts" sParts fX dX) (bX : Binds K dX ["term"] []) (gX : mg "all_parts" = some (.ref fX)) :
    FnOk P w K mg base CX0 6 f fd ["term"] (spNum K fun d => ((partsD d).length : Int)) := by
  refine F.ok scSize (fun vs H Q E h => ?_) (fun cdv A outer s H vs Q E hr h => ?_)
  · obtain ⟨v, d, n, rfl, _⟩ := h
    rfl
  · obtain ⟨v, d, n, rfl, hv, hsz, ht, q⟩ := h
    refine ⟨_, pss_one (ps_ret (pe_callB call_len_seq (by rfl) M.len PySem.boot_len (pa_cons (pe_call GX hr (by rfl) gX FX.kp bX .nil pass0 (pa_cons (pv 0) pa_nil)) pa_nil))), ?_⟩
    refine ⟨v, rfl, v, d, n, rfl, hv, hsz, ht, fun p xs H' s1 np e1 hxs _ => ⟨p, xs, rfl, .inl (.inl (.inl e1)), ?_⟩⟩
    have e := q H' s1
    rw [dpA_len hxs]
    exact e
theorem deepGo_nil : ∀ f, deepGo f [] = 0
  | 0 => rfl
  | _ + 1 => rfl
theorem deepGo_cons {f : Nat} {lv : List PyData} (h : lv ≠ []) : deepGo (f + 1) lv = 1 + deepGo f (lv.flatMap inner) := by
  cases lv with
  | nil => exact absurd rfl h
  | cons d ds => rfl
theorem ok_depth {f fX : Addr} {fd dX : FuncData} (F : Fun K "term_depth" "term_depth" sDepth f fd)
    (GX : FnOk P w K mg base CX0 4 fX dX ["level"] (spNext K)) (FX : Fun K "_next_level" "_next_level" sNext fX dX) (bX : Binds K dX ["level"] []) (gX : mg "_next_level" = some (.ref fX)) :
    FnOk P w K mg base CX0 5 f fd ["term"] (spNum K fun d => (depthD d : Int)) := by
  refine F.ok scDepth (fun vs H Q E h => ?_) (fun cdv A outer s H vs Q E hr h => ?_)
  · obtain ⟨v, d, n, rfl, _⟩ := h
    rfl
  · obtain ⟨v, d, n, rfl, hv, hsz, ht, q⟩ := h
    refine ⟨_, pss_cons (ps_set (i := 1) scDepth.nd rfl (.inl rfl) pe_int)
      (pss_cons (ps_set (i := 2) scDepth.nd rfl (.inl rfl) (pe_lst (pa_cons (pv 0) pa_nil)))
      (pss_cons (ps_while PassesOwn.never (pt_truth (pv 2) (by intro _; rfl))
        (pss_cons (ps_aug (i := 1) scDepth.nd rfl (.inl rfl) pe_int ip_add)
        (pss_one (ps_set (i := 2) scDepth.nd rfl (.inl rfl) (pe_call GX hr (by rfl) gX FX.kp bX .nil pass0 (pa_cons (pv 2) pa_nil))))))
      (pss_one (ps_ret (pv 1))))), ?_⟩
    refine ⟨v, rfl, (by show 1 ≤ sizeLine; decide), fun a0 na0 => ?_⟩
    dsimp only [gName]
    refine q_w (σ := [some v, some (.int 0), some (.ref a0)]) ?_
    refine wh_by (fun f σ H' => ∃ (a : Addr) (xs : List V) (lv : List PyData) (k deep many : Nat), σ = [some v, some (.int k), some (.ref a)] ∧ Same H H' ∧ H' a = some (.lst xs) ∧ DpAll K H xs lv ∧ szDs lv = true ∧ lv.length ≤ 3000 ∧ (lv = [] ∨ goT n f lv deep many = true) ∧ k + deepGo f lv = depthD d)
      9 ⟨a0, [v], [d], 0, 0, 0, rfl, same_upd na0, upd_same, .cons hv .nil, (by show (szD d && true) = true; rw [hsz]; rfl), (by show 1 ≤ 3000; decide), .inr ht, Nat.zero_add _⟩ (fun f σ H' hW => ?_) (fun σ H' Q1 Q2 hq ⟨x, e, k, t, q⟩ => ⟨x, e, k, t, hq _ _ q⟩)
    obtain ⟨a, xs, lv, k, deep, many, rfl, s1, ea, ha, hz, hln, hg, hfl⟩ := hW
    have el : xs.length = lv.length := dpA_len ha
    have hS : SqL K H' a xs := .inl (.inl ea)
    refine ⟨.ref a, rfl, _, .inl ⟨xs, hS, rfl⟩, ?_⟩
    by_cases hne : lv = []
    · have ex : xs = [] := List.eq_nil_of_length_eq_zero (by rw [el, hne]; rfl)
      subst ex
      refine iteF ⟨_, rfl, ?_⟩
      have e : Q (.int ((depthD d : Nat) : Int)) H' := q H' s1
      rw [← hfl, hne, deepGo_nil] at e
      exact e
    · have ex : (!xs.isEmpty) = true := by
        cases xs with
        | nil => exact absurd (List.eq_nil_of_length_eq_zero el.symm) hne
        | cons _ _ => rfl
      rw [ex]
      obtain ⟨g, rfl, hb, hm, hg2⟩ := goT_true hne (hg.resolve_left hne)
      have hfl2 := flat_len hb
      refine iteT ⟨_, rfl, _, _, rfl, rfl, ?_⟩
      refine ⟨.ref a, rfl, a, xs, lv, n, H, rfl, s1, hS, ha, hz, hb, by omega, by omega, fun p ys H5 s5 np e5 hys => ?_⟩
      refine ⟨g, Nat.lt_succ_self _, p, ys, lv.flatMap inner, k + 1, deep + 1, many + lv.length, rfl, s1.trans s5, e5, hys, sz_flat hz, by omega, .inr hg2, ?_⟩
      rw [← hfl, deepGo_cons hne]
      omega
end
/-! ### levels and what stands within -/
def szF : Nat → PyData → Nat
  | 0, _ => 0
  | f + 1, d => 1 + ((inner d).map (szF f)).sum
def dpF : Nat → PyData → Nat
  | 0, _ => 0
  | f + 1, d => 1 + ((inner d).map (dpF f)).foldr max 0
def fmF (n : Int) : Nat → PyData → Bool
  | 0, _ => true
  | f + 1, d => hasForm n d && (inner d).all (fmF n f)
def sums (g : PyData → Nat) (l : List PyData) : Nat := (l.map g).sum
def most (g : PyData → Nat) (l : List PyData) : Nat := (l.map g).foldr max 0
theorem sums_app {g : PyData → Nat} {a b : List PyData} : sums g (a ++ b) = sums g a + sums g b := by
  unfold sums
  rw [List.map_append, List.sum_append]
theorem most_app {g : PyData → Nat} : ∀ {a b : List PyData}, most g (a ++ b) = max (most g a) (most g b)
  | [], b => by
    show most g b = max 0 (most g b)
    omega
  | d :: a, b => by
    show max (g d) (most g (a ++ b)) = max (max (g d) (most g a)) (most g b)
    rw [most_app]
    omega
theorem sums_flat {f : Nat} : ∀ {l : List PyData}, sums (szF (f + 1)) l = l.length + sums (szF f) (l.flatMap inner)
  | [] => rfl
  | d :: l => by
    rw [List.flatMap_cons, sums_app]
    show (1 + sums (szF f) (inner d)) + sums (szF (f + 1)) l = (l.length + 1) + _
    rw [sums_flat]
    omega
theorem most_flat {f : Nat} : ∀ {l : List PyData}, l ≠ [] → most (dpF (f + 1)) l = 1 + most (dpF f) (l.flatMap inner)
  | [], h => absurd rfl h
  | [d], _ => by
    rw [List.flatMap_cons, List.flatMap_nil, List.append_nil]
    show max (1 + most (dpF f) (inner d)) 0 = _
    omega
  | d :: e :: l, _ => by
    rw [List.flatMap_cons, most_app]
    have h := most_flat (f := f) (l := e :: l) (List.cons_ne_nil _ _)
    show max (1 + most (dpF f) (inner d)) (most (dpF (f + 1)) (e :: l)) = _
    rw [h]
    omega
theorem all_flat {n : Int} {f : Nat} : ∀ {l : List PyData}, l.all (fmF n (f + 1)) = (l.all (hasForm n) && (l.flatMap inner).all (fmF n f))
  | [] => rfl
  | d :: l => by
    rw [List.flatMap_cons, List.all_append, List.all_cons, List.all_cons, all_flat]
    show ((hasForm n d && (inner d).all (fmF n f)) && (l.all (hasForm n) && (l.flatMap inner).all (fmF n f))) = _
    cases hasForm n d <;> cases (inner d).all (fmF n f) <;> cases l.all (hasForm n) <;> cases (l.flatMap inner).all (fmF n f) <;> rfl
theorem goT_is {n : Int} : ∀ (f : Nat) (lv : List PyData) (deep many : Nat), f + deep = 9 → 1 ≤ f → many ≤ 30 → goT n f lv deep many = (lv.all (fmF n f) && (decide (many + sums (szF f) lv ≤ 30) && decide (deep + most (dpF f) lv ≤ 8)))
  | 0, _, _, _, _, h, _ => absurd h (by decide)
  | f + 1, [], deep, many, hf, _, hm => by
    show true = (true && (decide (many + 0 ≤ 30) && decide (deep + 0 ≤ 8)))
    rw [decide_eq_true (show many + 0 ≤ 30 by omega), decide_eq_true (show deep + 0 ≤ 8 by omega)]
    rfl
  | f + 1, d :: ds, deep, many, hf, _, hm => by
    have hne : d :: ds ≠ [] := List.cons_ne_nil _ _
    generalize d :: ds = lv at hne
    rw [goT_cons hne, all_flat, sums_flat, most_flat hne]
    by_cases h1 : 8 < deep + 1 ∨ 30 < many + lv.length
    · rw [decide_eq_true h1]
      have h2 : (decide (many + (lv.length + sums (szF f) (lv.flatMap inner)) ≤ 30) && decide (deep + (1 + most (dpF f) (lv.flatMap inner)) ≤ 8)) = false := by
        rcases h1 with h1 | h1
        · rw [decide_eq_false (show ¬ deep + (1 + most (dpF f) (lv.flatMap inner)) ≤ 8 by omega), Bool.and_false]
        · rw [decide_eq_false (show ¬ many + (lv.length + sums (szF f) (lv.flatMap inner)) ≤ 30 by omega)]
          rfl
      rw [h2, Bool.and_false]
      rfl
    · rw [decide_eq_false h1]
      rw [goT_is f _ (deep + 1) (many + lv.length) (by omega) (by omega) (by omega)]
      have e1 : decide (many + lv.length + sums (szF f) (lv.flatMap inner) ≤ 30) = decide (many + (lv.length + sums (szF f) (lv.flatMap inner)) ≤ 30) := by
        rw [Nat.add_assoc]
      have e2 : decide (deep + 1 + most (dpF f) (lv.flatMap inner) ≤ 8) = decide (deep + (1 + most (dpF f) (lv.flatMap inner)) ≤ 8) := by
        rw [Nat.add_assoc]
      rw [e1, e2]
      cases lv.all (hasForm n) <;> cases (lv.flatMap inner).all (fmF n f) <;> rfl
theorem isTerm_is (n : Int) (d : PyData) : isTerm n d = (fmF n 9 d && (decide (szF 9 d ≤ 30) && decide (dpF 9 d ≤ 8))) := by
  unfold isTerm
  rw [goT_is 9 [d] 0 0 rfl (by decide) (by decide)]
  have e1 : sums (szF 9) [d] = szF 9 d := by
    show szF 9 d + 0 = _
    omega
  have e2 : most (dpF 9) [d] = dpF 9 d := by
    show max (dpF 9 d) 0 = _
    omega
  rw [e1, e2, Nat.zero_add, Nat.zero_add]
  show ((fmF n 9 d && true) && _) = _
  rw [Bool.and_true]
theorem flatGo_len : ∀ (f : Nat) (lv : List PyData), (flatGo f lv).length = sums (szF f) lv
  | 0, lv => by
    show 0 = sums (fun _ => 0) lv
    unfold sums
    induction lv with
    | nil => rfl
    | cons d l ih => rw [List.map_cons, List.sum_cons, ← ih]
  | f + 1, lv => by
    show (lv ++ flatGo f (lv.flatMap inner)).length = _
    rw [List.length_append, flatGo_len f, sums_flat]
theorem deepGo_is : ∀ (f : Nat) (lv : List PyData), deepGo f lv = most (dpF f) lv
  | 0, lv => by
    show 0 = most (fun _ => 0) lv
    induction lv with
    | nil => rfl
    | cons d l ih =>
      show 0 = max 0 (most _ l)
      rw [← ih]
      rfl
  | _ + 1, [] => rfl
  | f + 1, d :: ds => by
    rw [deepGo_cons (List.cons_ne_nil _ _), most_flat (List.cons_ne_nil _ _), deepGo_is f]
theorem partsD_len (d : PyData) : (partsD d).length = szF 9 d := by
  unfold partsD
  rw [flatGo_len]
  show szF 9 d + 0 = _
  omega
theorem depthD_is (d : PyData) : depthD d = dpF 9 d := by
  unfold depthD
  rw [deepGo_is]
  show max (dpF 9 d) 0 = _
  omega
/-! ### chains and trees -/
/-- a word with two terms -/
def bin (h : Str) : Prop := h = "plus" ∨ h = "less" ∨ h = "same"
theorem bin_form {h : Str} (hb : bin h) (n : Int) (a b : PyData) : hasForm n (.tuple [.str h, a, b]) = true := by
  rcases hb with rfl | rfl | rfl <;> rfl
theorem bin_inner {h : Str} (hb : bin h) (a b : PyData) : inner (.tuple [.str h, a, b]) = [a, b] := by
  rcases hb with rfl | rfl | rfl <;> rfl
theorem bin_sz {h : Str} (hb : bin h) {a b : PyData} (ha : szD a = true) (hbb : szD b = true) : szD (.tuple [.str h, a, b]) = true := by
  have e : szD (.str h) = true := by rcases hb with rfl | rfl | rfl <;> decide +kernel
  show (decide (3 ≤ 1000) && (szD (.str h) && (szD a && (szD b && true)))) = true
  rw [e, ha, hbb]
  rfl
theorem bin_noL {h : Str} {a b : PyData} (ha : noL a = true) (hbb : noL b = true) : noL (.tuple [.str h, a, b]) = true := by
  show (true && (noL a && (noL b && true))) = true
  rw [ha, hbb]
  rfl
theorem bin_szF {h : Str} (hb : bin h) (a b : PyData) (f : Nat) : szF (f + 1) (.tuple [.str h, a, b]) = 1 + szF f a + szF f b := by
  show 1 + ((inner (.tuple [.str h, a, b])).map (szF f)).sum = _
  rw [bin_inner hb]
  show 1 + (szF f a + (szF f b + 0)) = _
  omega
theorem bin_dpF {h : Str} (hb : bin h) (a b : PyData) (f : Nat) : dpF (f + 1) (.tuple [.str h, a, b]) = 1 + max (dpF f a) (dpF f b) := by
  show 1 + ((inner (.tuple [.str h, a, b])).map (dpF f)).foldr max 0 = _
  rw [bin_inner hb]
  show 1 + max (dpF f a) (max (dpF f b) 0) = _
  omega
theorem bin_fmF {h : Str} (hb : bin h) {a b : PyData} {n : Int} {f : Nat} (ha : fmF n f a = true) (hbb : fmF n f b = true) : fmF n (f + 1) (.tuple [.str h, a, b]) = true := by
  show (hasForm n (.tuple [.str h, a, b]) && (inner (.tuple [.str h, a, b])).all (fmF n f)) = true
  rw [bin_form hb, bin_inner hb]
  show (true && (fmF n f a && (fmF n f b && true))) = true
  rw [ha, hbb]
  rfl
theorem val_inner (i : Int) : inner (.int i) = [] := rfl
theorem val_szF (i : Int) (f : Nat) : szF (f + 1) (.int i) = 1 := rfl
theorem val_dpF (i : Int) (f : Nat) : dpF (f + 1) (.int i) = 1 := rfl
theorem val_fmF {i : Int} (h0 : 0 ≤ i) (h3 : i < 3) (n : Int) : ∀ f : Nat, fmF n f (.int i) = true
  | 0 => rfl
  | f + 1 => by
    show ((isValue (.int i) || false) && true) = true
    have e : isValue (.int i) = true := by
      show (decide (0 ≤ i) && decide (i < 3)) = true
      rw [decide_eq_true h0, decide_eq_true h3]
      rfl
    rw [e]
    rfl
/-- a chain of k -/
structure Ch (k : Nat) (d : PyData) : Prop where
  pos : 1 ≤ k
  fm : ∀ (n : Int) (f : Nat), fmF n f d = true
  dp : ∀ f, dpF f d = min k f
  sz : ∀ f, k ≤ f → szF f d = 2 * k - 1
  ok : szD d = true
  nl : noL d = true
theorem ch_one {i : Int} (h0 : 0 ≤ i) (h3 : i < 3) : Ch 1 (.int i) where
  pos := Nat.le_refl _
  fm := fun n f => val_fmF h0 h3 n f
  dp := fun f => by
    cases f with
    | zero => rfl
    | succ f =>
      rw [val_dpF]
      omega
  sz := fun f hf => by
    cases f with
    | zero => omega
    | succ f => rfl
  ok := rfl
  nl := rfl
theorem ch_left {h : Str} (hb : bin h) {k : Nat} {d : PyData} (c : Ch k d) {i : Int} (h0 : 0 ≤ i) (h3 : i < 3) : Ch (k + 1) (.tuple [.str h, d, .int i]) where
  pos := Nat.le_add_left _ _
  fm := fun n f => by
    cases f with
    | zero => rfl
    | succ f => exact bin_fmF hb (c.fm n f) (val_fmF h0 h3 n f)
  dp := fun f => by
    cases f with
    | zero => rfl
    | succ f =>
      have := c.pos
      rw [bin_dpF hb, c.dp]
      cases f with
      | zero =>
        show 1 + max (min k 0) 0 = _
        omega
      | succ f =>
        rw [val_dpF]
        omega
  sz := fun f hf => by
    cases f with
    | zero => omega
    | succ f =>
      have := c.pos
      rw [bin_szF hb, c.sz f (by omega)]
      cases f with
      | zero => omega
      | succ f =>
        rw [val_szF]
        omega
  ok := bin_sz hb c.ok rfl
  nl := bin_noL c.nl rfl
theorem ch_right {h : Str} (hb : bin h) {k : Nat} {d : PyData} (c : Ch k d) {i : Int} (h0 : 0 ≤ i) (h3 : i < 3) : Ch (k + 1) (.tuple [.str h, .int i, d]) where
  pos := Nat.le_add_left _ _
  fm := fun n f => by
    cases f with
    | zero => rfl
    | succ f => exact bin_fmF hb (val_fmF h0 h3 n f) (c.fm n f)
  dp := fun f => by
    cases f with
    | zero => rfl
    | succ f =>
      have := c.pos
      rw [bin_dpF hb, c.dp]
      cases f with
      | zero =>
        show 1 + max 0 (min k 0) = _
        omega
      | succ f =>
        rw [val_dpF]
        omega
  sz := fun f hf => by
    cases f with
    | zero => omega
    | succ f =>
      have := c.pos
      rw [bin_szF hb, c.sz f (by omega)]
      cases f with
      | zero => omega
      | succ f =>
        rw [val_szF]
        omega
  ok := bin_sz hb rfl c.ok
  nl := bin_noL rfl c.nl
theorem ch_isTerm {k : Nat} {d : PyData} (c : Ch k d) (n : Int) : isTerm n d = decide (k ≤ 8) := by
  rw [isTerm_is, c.fm, c.dp]
  by_cases h : k ≤ 8
  · rw [c.sz 9 (by omega), decide_eq_true h, decide_eq_true (show 2 * k - 1 ≤ 30 by omega), decide_eq_true (show min k 9 ≤ 8 by omega)]
    rfl
  · rw [decide_eq_false h, decide_eq_false (show ¬ min k 9 ≤ 8 by omega), Bool.and_false]
    rfl
/-- a tree of m leaves, at most h deep -/
structure Tr (m h : Nat) (d : PyData) : Prop where
  pos : 1 ≤ h
  mp : 1 ≤ m
  fm : ∀ (n : Int) (f : Nat), fmF n f d = true
  dp : ∀ f, dpF f d ≤ h
  sz : ∀ f, h ≤ f → szF f d = 2 * m - 1
  ok : szD d = true
  nl : noL d = true
theorem tr_one {i : Int} (h0 : 0 ≤ i) (h3 : i < 3) {h : Nat} (hh : 1 ≤ h) : Tr 1 h (.int i) where
  pos := hh
  mp := Nat.le_refl _
  fm := fun n f => val_fmF h0 h3 n f
  dp := fun f => by
    cases f with
    | zero => exact Nat.zero_le _
    | succ f =>
      rw [val_dpF]
      exact hh
  sz := fun f hf => by
    cases f with
    | zero => omega
    | succ f => rfl
  ok := rfl
  nl := rfl
theorem Tr.mono {m h h' : Nat} {d : PyData} (t : Tr m h d) (hh : h ≤ h') : Tr m h' d :=
  ⟨Nat.le_trans t.pos hh, t.mp, t.fm, fun f => Nat.le_trans (t.dp f) hh, fun f hf => t.sz f (Nat.le_trans hh hf), t.ok, t.nl⟩
theorem tr_two {w : Str} (hb : bin w) {m1 m2 h : Nat} {a b : PyData} (ta : Tr m1 h a) (tb : Tr m2 h b) : Tr (m1 + m2) (h + 1) (.tuple [.str w, a, b]) where
  pos := Nat.le_add_left _ _
  mp := Nat.le_trans ta.mp (Nat.le_add_right _ _)
  fm := fun n f => by
    cases f with
    | zero => rfl
    | succ f => exact bin_fmF hb (ta.fm n f) (tb.fm n f)
  dp := fun f => by
    cases f with
    | zero => exact Nat.zero_le _
    | succ f =>
      have := ta.dp f
      have := tb.dp f
      rw [bin_dpF hb]
      omega
  sz := fun f hf => by
    cases f with
    | zero => omega
    | succ f =>
      have := ta.mp
      have := tb.mp
      rw [bin_szF hb, ta.sz f (by omega), tb.sz f (by omega)]
      omega
  ok := bin_sz hb ta.ok tb.ok
  nl := bin_noL ta.nl tb.nl
theorem tr_isTerm {m h : Nat} {d : PyData} (t : Tr m h d) (n : Int) (hh : h ≤ 8) : isTerm n d = decide (2 * m - 1 ≤ 30) := by
  rw [isTerm_is, t.fm, t.sz 9 (by omega), decide_eq_true (Nat.le_trans (t.dp 9) hh), Bool.and_true]
  rfl
/-! ### the law's chains -/
abbrev sChain : Stmt := topS 23
theorem scChain : FnScope ["_law_pool_here", "_law_many", "_law_term", "_law_turn", "_law_head"] ["_law_pool_here", "_law_many"] (defScope sChain) := ⟨rfl, rfl, rfl, by decide +kernel, rfl, by decide +kernel, by decide +kernel⟩
def spChain (K : PySem.W.Frag) : Sp := fun vs H Q _ => ∃ (p : Addr) (k : Nat), vs = [.ref p, .int k] ∧ PoolAt H p ∧ 1 ≤ k ∧ k ≤ 100 ∧ ∀ v d H', But p H H' → PoolAt H' p → Dp K H' v d → Ch k d → Q v H'
section
variable {P : Program} {w : World} {K : PySem.W.Frag} {mg : Str → Option Value} {base : Heap}
theorem ok_chain {f fD fP : Addr} {fd dD dP : FuncData} (F : Fun K "_law_chain" "_law_chain" sChain f fd) (M : Blt mg)
    (FD : Fun K "_law_draw" "_law_draw" sDraw fD dD) (bD : Binds K dD ["_law_pool_here", "_law_many"] []) (gD : mg "_law_draw" = some (.ref fD))
    (FP : Fun K "_law_pick" "_law_pick" sPick fP dP) (bP : Binds K dP ["_law_pool_here", "_law_row_here"] []) (gP : mg "_law_pick" = some (.ref fP)) :
    FnOk P w K mg base CX0 3 f fd ["_law_pool_here", "_law_many"] (spChain K) := by
  have GD : FnOk P w K mg base CX0 1 fD dD ["_law_pool_here", "_law_many"] spDraw := ok_draw FD M
  have GP : FnOk P w K mg base CX0 2 fP dP ["_law_pool_here", "_law_row_here"] (spPick K) := ok_pick FP M FD bD gD
  refine F.ok scChain (fun vs H Q E h => ?_) (fun cdv A outer s H vs Q E hr h => ?_)
  · obtain ⟨p, k, rfl, _⟩ := h
    rfl
  · obtain ⟨p, k, rfl, hp, hk1, hk2, q⟩ := h
    have hr1 : Room 1 _ := hr.mono (by decide)
    refine ⟨_, pss_cons (ps_set (i := 2) scChain.nd rfl (.inl rfl) (pe_call GD hr1 (by rfl) gD FD.kp bD .nil pass0 (pa_cons (pv 0) (pa_cons pe_int pa_nil))))
      (pss_cons (ps_for PassesOwn.never rfl (pi_range1 (by rfl) M.range (pa_cons (pe_op op_sub (pv 1) pe_int) pa_nil)) (pg_name (i := 3) scChain.nd rfl (.inl rfl))
        (pss_cons (ps_set (i := 4) scChain.nd rfl (.inl rfl) (pe_call GP hr (by rfl) gP FP.kp bP .nil pass0 (pa_cons (pv 0) (pa_cons (pe_lst (pa_cons pe_str (pa_cons pe_str (pa_cons pe_str pa_nil)))) pa_nil))))
        (pss_one (ps_set (i := 2) scChain.nd rfl (.inl rfl) (pe_ifExp (pt_cmpR op_eq (pe_call GD hr1 (by rfl) gD FD.kp bD .nil pass0 (pa_cons (pv 0) (pa_cons pe_int pa_nil))) pe_int (nomark _))
          (pe_tup (pa_cons (pv 4) (pa_cons (pv 2) (pa_cons pe_int pa_nil)))) (pe_tup (pa_cons (pv 4) (pa_cons pe_int (pa_cons (pv 2) pa_nil)))))))))
      (pss_one (ps_ret (pv 2)))), ?_⟩
    refine ⟨.ref p, rfl, p, 3, rfl, hp, by omega, by omega, fun x H1 x0 x3 b1 hp1 fr1 => ?_⟩
    refine ⟨.int k, rfl, _, _, rfl, rfl, _, rfl, by omega, by omega, ?_⟩
    refine for_range (lo := 0) (n := ((k : Int) - 1).toNat) (fun i σ H' => ∃ (v : V) (d : PyData) (y3 y4 : Option V), σ = [some (.ref p), some (.int k), some v, y3, y4] ∧ But p H H' ∧ PoolAt H' p ∧ Dp K H' v d ∧ Ch (i + 1) d)
      ⟨.int x, .int x, none, none, rfl, b1, hp1, .int x, ch_one x0 x3⟩ (fun i σ H2 hi hW => ?_) (fun σ H2 hW => ?_)
    · obtain ⟨v, d, y3, y4, rfl, b2, hp2, hv, hc⟩ := hW
      refine ⟨.ref p, rfl, (by show 3 ≤ sizeLine; decide), fun l nl => ?_⟩
      refine ⟨p, l, _, rfl, hp2.upd nl, hp2.ne nl, .inl (.inl (.inl upd_same)), (by decide), (by decide), fun j hj H3 b3 hp3 fr3 => ?_⟩
      have hd3 : Dp K H3 v d := dp_but (hp2.upd nl) b3 hc.nl (dp_same (same_upd nl) hv)
      have bb3 : But p H H3 := b2.trans ((But.of (same_upd nl)).trans b3)
      obtain ⟨h, eh, hb⟩ : ∃ h, [V.str "plus", .str "less", .str "same"][j] = .str h ∧ bin h := by
        match j, hj with
        | 0, _ => exact ⟨_, rfl, .inl rfl⟩
        | 1, _ => exact ⟨_, rfl, .inr (.inl rfl)⟩
        | 2, _ => exact ⟨_, rfl, .inr (.inr rfl)⟩
      rw [eh]
      refine ⟨.ref p, rfl, p, 2, rfl, hp3, by omega, by omega, fun z H4 z0 z2 b4 hp4 fr4 => ?_⟩
      have hd4 : Dp K H4 v d := dp_but hp3 b4 hc.nl hd3
      refine ⟨rfl, _, rfl, ite2 (fun _ => ?_) (fun _ => ?_)⟩
      · refine ⟨_, rfl, _, rfl, (by show 3 ≤ sizeLine; decide), fun t nt => ?_⟩
        refine ⟨.ref t, .tuple [.str h, d, .int 1], _, _, rfl, (bb3.trans b4).trans (But.of (same_upd nt)), hp4.upd nt, .tup (.inl (.inl upd_same)) (.cons (.str h) (.cons (dp_same (same_upd nt) hd4) (.cons (.int 1) .nil))), ch_left hb hc (by decide) (by decide)⟩
      · refine ⟨_, rfl, _, rfl, (by show 3 ≤ sizeLine; decide), fun t nt => ?_⟩
        refine ⟨.ref t, .tuple [.str h, .int 0, d], _, _, rfl, (bb3.trans b4).trans (But.of (same_upd nt)), hp4.upd nt, .tup (.inl (.inl upd_same)) (.cons (.str h) (.cons (.int 0) (.cons (dp_same (same_upd nt) hd4) .nil))), ch_right hb hc (by decide) (by decide)⟩
    · obtain ⟨v, d, y3, y4, rfl, b2, hp2, hv, hc⟩ := hW
      have e : ((k : Int) - 1).toNat + 1 = k := by omega
      rw [e] at hc
      exact ⟨v, rfl, q v d H2 b2 hp2 hv hc⟩
end
/-! ### the law's rows of terms -/
abbrev sRow : Stmt := topS 24
theorem scRow : FnScope ["_law_terms", "_law_row_here", "_law_turn", "_law_later", "_law_at"] ["_law_terms"] (defScope sRow) := ⟨rfl, rfl, rfl, by decide +kernel, rfl, by decide +kernel, by decide +kernel⟩
/-- terms with m leaves in all, none deeper than h -/
inductive Row : Nat → Nat → List PyData → Prop
  | nil {h : Nat} : Row 0 h []
  | cons {m k h : Nat} {d : PyData} {l : List PyData} : Tr m h d → Row k h l → Row (m + k) h (d :: l)
def pairUp : List PyData → List PyData
  | [] => []
  | [a] => [a]
  | a :: b :: r => .tuple [.str "plus", a, b] :: pairUp r
theorem pairUp_len : ∀ l : List PyData, (pairUp l).length = (l.length + 1) / 2
  | [] => rfl
  | [a] => by
    simp [pairUp]
  | a :: b :: r => by
    show (pairUp r).length + 1 = (r.length + 1 + 1 + 1) / 2
    rw [pairUp_len r]
    omega
theorem row_mono {m h h' : Nat} {l : List PyData} (hh : h ≤ h') (r : Row m h l) : Row m h' l := by
  induction r with
  | nil => exact .nil
  | cons t _ ih => exact .cons (t.mono hh) (ih hh)
theorem rg_two {L : Nat} (h1 : 2 ≤ L) (h2 : L ≤ 40) : RgC 0 ((L : Int) - 1) 2 (L / 2) := by
  have h : ∀ L : Nat, L < 41 → 2 ≤ L → Builtin.Range.small 0 ((L : Int) - 1) 2 = true ∧ Builtin.Range.rangeSize 0 ((L : Int) - 1) 2 = ((L / 2 : Nat) : Int) := by decide +kernel
  exact ⟨by decide, by decide, (h L (by omega) h1).1, (h L (by omega) h1).2⟩
theorem cut_from (xs : List V) {k : Nat} (hk : k ≤ xs.length) : cutV xs (some (k : Int)) none = xs.drop k := by
  unfold cutV
  rw [HT.sIx_nat, HT.sIx_none, Nat.min_eq_left hk]
  exact List.take_of_length_le (by rw [List.length_drop]; exact Nat.le_refl _)
def bnd : Nat → Nat
  | 0 => 40
  | i + 1 => (bnd i + 1) / 2
theorem bnd_pos : ∀ i, 1 ≤ bnd i
  | 0 => by decide
  | i + 1 => by
    have := bnd_pos i
    show 1 ≤ (bnd i + 1) / 2
    omega
theorem bnd_le : ∀ i, bnd i ≤ 40
  | 0 => Nat.le_refl _
  | i + 1 => by
    have := bnd_le i
    show (bnd i + 1) / 2 ≤ 40
    omega
theorem row_pair : ∀ {l : List PyData} {m h : Nat}, Row m h l → Row m (h + 1) (pairUp l)
  | [], _, _, r => by
    cases r
    exact .nil
  | [a], _, _, r => row_mono (Nat.le_succ _) r
  | a :: b :: l, _, _, r => by
    cases r with
    | cons ta r1 =>
      cases r1 with
      | @cons m2 k2 _ _ _ tb r2 =>
        rw [← Nat.add_assoc]
        exact .cons (tr_two (.inl rfl) ta tb) (row_pair r2)
theorem row_nl {m h : Nat} {l : List PyData} (r : Row m h l) : noLs l = true := by
  induction r with
  | nil => rfl
  | cons t _ ih =>
    show (noL _ && noLs _) = true
    rw [t.nl, ih]
    rfl
theorem noLs_get : ∀ {ds : List PyData} {i : Nat} {d : PyData}, noLs ds = true → ds[i]? = some d → noL d = true
  | [], _, _, _, e => by simp at e
  | d :: ds, 0, _, h, e => by
    have e1 := Option.some.inj e
    subst e1
    exact (Bool.and_eq_true_iff.mp h).1
  | d :: ds, i + 1, _, h, e => noLs_get (i := i) (Bool.and_eq_true_iff.mp h).2 e
theorem noLs_getD {ds : List PyData} (h : noLs ds = true) (i : Nat) : noL (ds.getD i .none) = true := by
  rw [List.getD_eq_getElem?_getD]
  cases e : ds[i]? with
  | none => rfl
  | some d => exact noLs_get h e
theorem dpA_of {K : PySem.W.Frag} {H : Hp} : ∀ {vs : List V} {ds : List PyData}, vs.length = ds.length → (∀ (k : Nat) v d, vs[k]? = some v → ds[k]? = some d → Dp K H v d) → DpAll K H vs ds
  | [], [], _, _ => .nil
  | v :: vs, d :: ds, h, f => .cons (f 0 v d rfl rfl) (dpA_of (by simpa using h) fun k v d e1 e2 => f (k + 1) v d e1 e2)
  | [], _ :: _, h, _ => by cases h
  | _ :: _, [], h, _ => by cases h
theorem dpA_drop {K : PySem.W.Frag} {H : Hp} : ∀ (n : Nat) {vs : List V} {ds : List PyData}, DpAll K H vs ds → DpAll K H (vs.drop n) (ds.drop n)
  | 0, _, _, h => h
  | _ + 1, _, _, .nil => .nil
  | n + 1, _, _, .cons _ h => dpA_drop n h
theorem row_one {m h : Nat} {d : PyData} (r : Row m h [d]) : Tr m h d := by
  cases r with
  | cons t r => cases r with
    | nil => exact t
/-- the pairs, then what is left over -/
def pairs (l : List PyData) : List PyData := (List.range (l.length / 2)).map fun j => .tuple [.str "plus", l.getD (2 * j) .none, l.getD (2 * j + 1) .none]
theorem pairs_eq : ∀ l : List PyData, pairs l ++ l.drop (l.length - l.length % 2) = pairUp l
  | [] => rfl
  | [a] => by
    simp [pairUp, pairs]
  | a :: b :: r => by
    have ih := pairs_eq r
    have e1 : (a :: b :: r).length / 2 = r.length / 2 + 1 := by
      show (r.length + 1 + 1) / 2 = _
      omega
    have e2 : (a :: b :: r).length - (a :: b :: r).length % 2 = r.length - r.length % 2 + 2 := by
      show (r.length + 1 + 1) - (r.length + 1 + 1) % 2 = _
      omega
    have e3 : pairs (a :: b :: r) = .tuple [.str "plus", a, b] :: pairs r := by
      unfold pairs
      rw [e1, List.range_succ_eq_map, List.map_cons, List.map_map]
      rfl
    rw [e2, e3]
    show _ :: (pairs r ++ (a :: b :: r).drop (r.length - r.length % 2 + 2)) = _ :: pairUp r
    rw [← ih]
    rfl
def spRow (K : PySem.W.Frag) : Sp := fun vs H Q _ => ∃ (a : Addr) (xs : List V) (ds : List PyData) (m : Nat), vs = [.ref a] ∧ SqL K H a xs ∧ DpAll K H xs ds ∧ Row m 1 ds ∧ 1 ≤ ds.length ∧ ds.length ≤ 40 ∧ ∀ v d H', Same H H' → Dp K H' v d → Tr m 7 d → Q v H'
section
variable {P : Program} {w : World} {K : PySem.W.Frag} {mg : Str → Option Value} {base : Heap}
theorem ok_row {f : Addr} {fd : FuncData} (F : Fun K "_law_row" "_law_row" sRow f fd) (M : Blt mg) : FnOk P w K mg base CX0 1 f fd ["_law_terms"] (spRow K) := by
  refine F.ok scRow (fun vs H Q E h => ?_) (fun cdv A outer s H vs Q E hr h => ?_)
  · obtain ⟨a, xs, ds, m, rfl, _⟩ := h
    rfl
  · obtain ⟨a, xs, ds, m, rfl, hs, ha, hrow, hl1, hl2, q⟩ := h
    refine ⟨_, pss_cons (ps_set (i := 1) scRow.nd rfl (.inr rfl) (pe_callTy call_list_of (by rfl) M.list (by decide +kernel) (pa_cons (pv 0) pa_nil)))
      (pss_cons (ps_for PassesOwn.never rfl (pi_range1 (by rfl) M.range (pa_cons pe_int pa_nil)) (pg_name (i := 2) scRow.nd rfl (.inl rfl))
        (pss_one (ps_if (pt_cmpR op_gt (pe_callB call_len_seq (by rfl) M.len PySem.boot_len (pa_cons (pv 1) pa_nil)) pe_int (nomark _))
          (pss_cons (ps_setLc (i := 3) (own := [("_law_at", 4)]) (g := gName 4) (te := tTup (tCons (tC (.str "plus")) (tCons (tOp (rIxL K) (tVar 1) (tVar 4)) (tCons (tOp (rIxL K) (tVar 1) (tOp (rI0 fun i j => .int (i + j)) (tVar 4) (tC (.int 1)))) tNil)))) (by rfl) scRow.nd rfl rfl (sw_true rfl rfl rfl (by decide +kernel))
              (pi_range3 (by rfl) M.range (pa_cons pe_int (pa_cons (pe_op op_sub (pe_callB call_len_seq (by rfl) M.len PySem.boot_len (pa_cons (pv 1) pa_nil)) pe_int) (pa_cons pe_int pa_nil))))
              (blkOk_by (own := [("_law_at", 4)]) (N := ["_law_terms", "_law_row_here", "_law_turn", "_law_later", "_law_at"]) (sc := defScope sRow) (by decide +kernel))
              (fun _ _ _ _ _ => pg_name (i := 4) scRow.nd rfl (Or.inl rfl)) (fun _ _ _ _ _ => pts_nil)
              (fun _ _ _ _ _ => pe_tup (pa_cons pe_str (pa_cons (pe_ix ix_list (pv 1) (pv 4) (fun _ _ => rfl)) (pa_cons (pe_ix ix_list (pv 1) (pe_op op_add (pv 4) pe_int) (fun _ _ => rfl)) pa_nil)))))
          (pss_one (ps_set (i := 1) scRow.nd rfl (.inr rfl) (pe_op op_cat (pv 3) (pe_slice sl_list (pv 1) (po_some (pe_op op_sub (pe_callB call_len_seq (by rfl) M.len PySem.boot_len (pa_cons (pv 1) pa_nil))
              (pe_op op_mod (pe_callTy call_int1 (by rfl) M.int (by decide +kernel) (pa_cons (pe_callB call_len_seq (by rfl) M.len PySem.boot_len (pa_cons (pv 1) pa_nil)) pa_nil)) pe_int))) po_none))))) pss_nil)))
      (pss_one (ps_ret (pe_ix ix_list (pv 1) pe_int (fun _ _ => rfl))))), ?_⟩
    refine ⟨.ref a, rfl, a, xs, rfl, .inl hs, fun r0 nr0 => ?_⟩
    refine ⟨6, rfl, by decide, by decide, ?_⟩
    refine for_range (lo := 0) (n := 6) (fun i σ H' => ∃ (r : Addr) (ys : List V) (es : List PyData) (y2 y3 y4 : Option V), σ = [some (.ref a), some (.ref r), y2, y3, y4] ∧ Same H H' ∧ H' r = some (.lst ys) ∧ DpAll K H' ys es ∧ Row m (i + 1) es ∧ 1 ≤ es.length ∧ es.length ≤ bnd i)
      ⟨r0, xs, ds, none, none, none, rfl, same_upd nr0, upd_same, dpA_same (same_upd nr0) ha, hrow, hl1, hl2⟩ (fun i σ H2 hi hW => ?_) (fun σ H2 hW => ?_)
    · obtain ⟨r, ys, es, y2, y3, y4, rfl, s2, er, he, hrw, h1, h2⟩ := hW
      have el : ys.length = es.length := dpA_len he
      have hb := bnd_le i
      have hS : SqL K H2 r ys := .inl (.inl er)
      refine ⟨.ref r, rfl, r, ys, rfl, .inl hS, _, _, rfl, rfl, _, rfl, ite2 (fun e => ?_) (fun e => ?_)⟩
      · have e1 : 1 < es.length := by
          have := of_decide_eq_true e
          omega
        refine ⟨.ref r, rfl, r, ys, rfl, .inl hS, _, _, rfl, rfl, 0, (ys.length : Int) - 1, 2, ys.length / 2, rfl, rg_two (by omega) (by omega), fun D hD => ?_⟩
        refine lc_rel (vs := [4]) (j := 4) (D := D) walk_rangeC (fun j v H' => Dp K H' v (.tuple [.str "plus", es.getD (2 * j) .none, es.getD (2 * j + 1) .none])) (by omega) hD (fun x => rfl) (fun _ _ => True.intro) (fun j v H3 H4 zs eD b d => ?_) (fun j x H3 H4 hj s3 y => ?_) (fun zs H3 s3 eD elz hz => ?_)
        · refine dp_tups (fun _ _ => but_sqT eD b) _ v ?_ d
          have hnl := row_nl hrw
          exact bin_noL (noLs_getD hnl _) (noLs_getD hnl _)
        · obtain ⟨rfl, rfl⟩ := y
          refine ⟨Same.refl _, fun Q2 q2 => ?_⟩
          have hS3 : SqL K _ r ys := s3.seq hS
          have g1 : (2 * j : Nat) < es.length := by omega
          have g2 : (2 * j + 1 : Nat) < es.length := by omega
          obtain ⟨v1, e1v, d1⟩ := dpA_get he (List.getElem?_eq_getElem g1)
          obtain ⟨v2, e2v, d2⟩ := dpA_get he (List.getElem?_eq_getElem g2)
          have at1 : atI ys (0 + (j : Int) * 2) = some v1 := at_of (j := 2 * j) (by omega) e1v
          have at2 : atI ys (0 + (j : Int) * 2 + 1) = some v2 := at_of (j := 2 * j + 1) (by omega) e2v
          refine ⟨.ref r, rfl, _, rfl, r, ys, _, v1, rfl, rfl, hS3, at1, .ref r, rfl, _, rfl, _, _, rfl, rfl, r, ys, _, v2, rfl, rfl, hS3, at2, (by show 3 ≤ sizeLine; decide), fun t nt => ?_⟩
          refine q2 (.ref t) _ (same_upd nt) ?_
          have c1 : es.getD (2 * j) .none = es[2 * j] := by
            rw [List.getD_eq_getElem?_getD, List.getElem?_eq_getElem g1]
            rfl
          have c2 : es.getD (2 * j + 1) .none = es[2 * j + 1] := by
            rw [List.getD_eq_getElem?_getD, List.getElem?_eq_getElem g2]
            rfl
          rw [c1, c2]
          exact .tup (.inl (.inl upd_same)) (.cons (.str _) (.cons (dp_same (s3.trans (same_upd nt)) d1) (.cons (dp_same (s3.trans (same_upd nt)) d2) .nil)))
        · have er3 : H3 r = some (.lst ys) := s3 _ _ er
          have hS3 : SqL K H3 r ys := .inl (.inl er3)
          refine ⟨.ref D, rfl, .ref r, rfl, .ref r, rfl, r, ys, rfl, .inl hS3, .ref r, rfl, r, ys, rfl, .inl hS3, .inl ⟨_, rfl, _, _, rfl, rfl, (by show (0 : Int) < 2; decide), _, _, rfl, rfl, _, rfl, r, ys, rfl, hS3, fun c nc => ?_⟩⟩
          have nDc : D ≠ c := ne_of_none eD nc
          have s4 : Same H3 (upd H3 c (.lst (cutV ys (some ((ys.length : Int) - (ys.length : Int) % 2)) none))) := same_upd nc
          have ec : cutV ys (some ((ys.length : Int) - (ys.length : Int) % 2)) none = ys.drop (es.length - es.length % 2) := by
            rw [show ((ys.length : Int) - (ys.length : Int) % 2) = ((es.length - es.length % 2 : Nat) : Int) by omega]
            exact cut_from ys (by omega)
          refine ⟨D, c, zs, _, rfl, rfl, s4 _ _ eD, upd_same, ?_, fun g ng => ?_⟩
          · rw [ec, List.length_drop]
            exact Nat.le_trans (show _ ≤ 100 by omega) (by decide)
          · have s5 := (s3.trans s4).trans (same_upd (o := .lst (zs ++ cutV ys (some ((ys.length : Int) - (ys.length : Int) % 2)) none)) ng)
            refine ⟨g, _, pairUp es, _, _, _, rfl, s2.trans s5, upd_same, ?_, row_pair hrw, ?_, ?_⟩
            · rw [← pairs_eq es]
              have hcd := dpA_drop (es.length - es.length % 2) (dpA_same s5 he)
              rw [← ec] at hcd
              refine dpA_app (dpA_of ?_ fun k v d ev ed => ?_) hcd
              · rw [elz, el]
                unfold pairs
                rw [List.length_map, List.length_range]
              · have hk : k < es.length / 2 := by
                  have := (List.getElem?_eq_some_iff.mp ev).1
                  omega
                have e3 : (pairs es)[k]? = some (.tuple [.str "plus", es.getD (2 * k) .none, es.getD (2 * k + 1) .none]) := by
                  unfold pairs
                  rw [List.getElem?_map, List.getElem?_range hk]
                  rfl
                rw [e3] at ed
                have e4 := Option.some.inj ed
                rw [← e4]
                exact dp_same (s4.trans (same_upd ng)) (hz k v ev)
            · rw [pairUp_len]
              omega
            · rw [pairUp_len]
              show (es.length + 1) / 2 ≤ (bnd i + 1) / 2
              omega
      · have e1 : es.length ≤ 1 := by
          by_cases h : es.length ≤ 1
          · exact h
          · exact absurd (decide_eq_true (show (1 : Int) < (ys.length : Int) by omega)) e
        have := bnd_pos (i + 1)
        exact ⟨r, ys, es, _, y3, y4, rfl, s2, er, he, row_mono (Nat.le_succ _) hrw, h1, by omega⟩
    · obtain ⟨r, ys, es, y2, y3, y4, rfl, s2, er, he, hrw, h1, h2⟩ := hW
      have e6 : bnd 6 = 1 := by decide
      rw [e6] at h2
      obtain ⟨d, rfl⟩ := List.length_eq_one_iff.mp (show es.length = 1 by omega)
      cases he with
      | cons hv hn =>
        cases hn
        exact ⟨.ref r, rfl, r, _, 0, _, rfl, rfl, .inl (.inl er), atI_nat (j := 0) rfl, q _ d H2 s2 hv (row_one hrw)⟩
end
/-! ### the last terms of the law -/
theorem node_is {n : Int} {d : PyData} {ts : List PyData} {S : Nat} (hi : inner d = ts) (hf : hasForm n d = true) (hts : ts.all (fmF n 8) = true) (hd : most (dpF 8) ts ≤ 7) (hsz : sums (szF 8) ts = S) : isTerm n d = decide (1 + S ≤ 30) := by
  rw [isTerm_is]
  have e1 : fmF n 9 d = true := by
    show (hasForm n d && (inner d).all (fmF n 8)) = true
    rw [hf, hi, hts]
    rfl
  have e2 : szF 9 d = 1 + S := by
    show 1 + sums (szF 8) (inner d) = _
    rw [hi, hsz]
  have e3 : dpF 9 d ≤ 8 := by
    show 1 + most (dpF 8) (inner d) ≤ 8
    rw [hi]
    omega
  rw [e1, e2, decide_eq_true e3, Bool.and_true]
  rfl
theorem bad_is {n : Int} {d : PyData} (hf : hasForm n d = false) : isTerm n d = false := by
  rw [isTerm_is]
  have e1 : fmF n 9 d = false := by
    show (hasForm n d && (inner d).all (fmF n 8)) = false
    rw [hf]
    rfl
  rw [e1]
  rfl
theorem deep_is {n : Int} {d : PyData} (h : 8 ≤ most (dpF 8) (inner d)) : isTerm n d = false := by
  rw [isTerm_is]
  have e3 : ¬ dpF 9 d ≤ 8 := by
    show ¬ 1 + most (dpF 8) (inner d) ≤ 8
    omega
  rw [decide_eq_false e3, Bool.and_false, Bool.and_false]
theorem call_has {n : Int} {ts : List PyData} (h : ts.length ≤ 2) : hasForm n (.tuple [.str "call", .str "f", .tuple ts]) = true := by
  have e : decide ((ts.length : Int) ≤ 2) = true := decide_eq_true (by omega)
  show (false || (isName (.str "f") && decide ((ts.length : Int) ≤ 2))) = true
  rw [e]
  decide +kernel
theorem wide1 {m : Nat} {d : PyData} (t : Tr m 7 d) (n : Int) : isTerm n (.tuple [.str "call", .str "f", .tuple [d]]) = decide (1 + (2 * m - 1) ≤ 30) := by
  refine node_is (ts := [d]) rfl (call_has (by simp)) ?_ ?_ ?_
  · show (fmF n 8 d && true) = true
    rw [t.fm]
    rfl
  · show max (dpF 8 d) 0 ≤ 7
    have := t.dp 8
    omega
  · show szF 8 d + 0 = _
    rw [t.sz 8 (by omega)]
    rfl
theorem wide2 {m : Nat} {d : PyData} (t : Tr m 7 d) (n : Int) : isTerm n (.tuple [.str "call", .str "f", .tuple [d, .int 1]]) = decide (1 + (2 * m - 1 + 1) ≤ 30) := by
  refine node_is (ts := [d, .int 1]) rfl (call_has (by simp)) ?_ ?_ ?_
  · show (fmF n 8 d && (fmF n 8 (.int 1) && true)) = true
    rw [t.fm, val_fmF (by decide) (by decide)]
    rfl
  · show max (dpF 8 d) (max 1 0) ≤ 7
    have := t.dp 8
    omega
  · show szF 8 d + (1 + 0) = _
    rw [t.sz 8 (by omega)]
theorem wide3 {m : Nat} {d : PyData} (t : Tr m 7 d) (n : Int) : isTerm n (.tuple [.str "if", d, .int 0, .int 1]) = decide (1 + (2 * m - 1 + 2) ≤ 30) := by
  refine node_is (ts := [d, .int 0, .int 1]) rfl rfl ?_ ?_ ?_
  · show (fmF n 8 d && (fmF n 8 (.int 0) && (fmF n 8 (.int 1) && true))) = true
    rw [t.fm, val_fmF (by decide) (by decide), val_fmF (by decide) (by decide)]
    rfl
  · show max (dpF 8 d) (max 1 (max 1 0)) ≤ 7
    have := t.dp 8
    omega
  · show szF 8 d + (1 + (1 + 0)) = _
    rw [t.sz 8 (by omega)]
theorem nest1 {k : Nat} {d : PyData} (c : Ch k d) (hk : 9 ≤ k) (n : Int) : isTerm n (.tuple [.str "call", .str "f", .tuple [d]]) = false := by
  refine deep_is ?_
  show 8 ≤ max (dpF 8 d) 0
  rw [c.dp]
  omega
theorem nest2 (a b c : PyData) (n : Int) : isTerm n (.tuple [.str "call", .str "f", .tuple [a, b, c]]) = false := by
  refine bad_is ?_
  show (false || (isName (.str "f") && decide (((3 : Nat) : Int) ≤ 2))) = false
  decide +kernel
/-- drawn leaves -/
def Leaf (v : V) : Prop := ∃ x : Int, v = .int x ∧ 0 ≤ x ∧ x < 3
theorem leaves {K : PySem.W.Frag} {H : Hp} : ∀ {ys : List V}, (∀ v ∈ ys, Leaf v) → ∃ ds, DpAll K H ys ds ∧ Row ys.length 1 ds
  | [], _ => ⟨[], .nil, .nil⟩
  | v :: ys, h => by
    obtain ⟨x, rfl, x0, x3⟩ := h v List.mem_cons_self
    obtain ⟨ds, hd, hr⟩ := leaves (K := K) (H := H) (ys := ys) fun u hu => h u (List.mem_cons_of_mem _ hu)
    refine ⟨.int x :: ds, .cons (.int x) hd, ?_⟩
    rw [List.length_cons, Nat.add_comm]
    exact .cons (tr_one x0 x3 (Nat.le_refl _)) hr
theorem turns {L i : Nat} (h : i < (if (if (2 : Int) < (L : Int) then (2 : Int) else (L : Int)) > 1 then (if (2 : Int) < (L : Int) then (2 : Int) else (L : Int)) else 1).toNat) : i ≤ 1 ∧ (i < L ∨ L = 0) := by
  split at h <;> split at h <;> omega
theorem dpT {K : PySem.W.Frag} {H : Hp} {t : Addr} {xs : List V} {ds : List PyData} (n : H t = none) (h : DpAll K H xs ds) : Dp K (upd H t (.tup xs)) (.ref t) (.tuple ds) := .tup (.inl (.inl upd_same)) (dpA_same (same_upd n) h)
theorem dpL {K : PySem.W.Frag} {H : Hp} {t : Addr} {xs : List V} {ds : List PyData} (n : H t = none) (h : DpAll K H xs ds) : Dp K (upd H t (.lst xs)) (.ref t) (.list ds) := .lst (.inl (.inl upd_same)) (dpA_same (same_upd n) h)
theorem range_bounds {L : Nat} : -(2 ^ 62) ≤ (if (if (2 : Int) < (L : Int) then (2 : Int) else (L : Int)) > 1 then (if (2 : Int) < (L : Int) then (2 : Int) else (L : Int)) else 1) ∧ (if (if (2 : Int) < (L : Int) then (2 : Int) else (L : Int)) > 1 then (if (2 : Int) < (L : Int) then (2 : Int) else (L : Int)) else 1) < 2 ^ 62 := by
  split <;> split <;> omega
theorem nineS {K : PySem.W.Frag} {H : Hp} (z : Str) : DpAll K H (List.replicate (9 : Int).toNat [V.str z]).flatten (List.replicate 9 (.str z)) :=
  .cons (.str z) (.cons (.str z) (.cons (.str z) (.cons (.str z) (.cons (.str z) (.cons (.str z) (.cons (.str z) (.cons (.str z) (.cons (.str z) .nil))))))))
theorem nineI {K : PySem.W.Frag} {H : Hp} (z : Int) : DpAll K H (List.replicate (9 : Int).toNat [V.int z]).flatten (List.replicate 9 (.int z)) :=
  .cons (.int z) (.cons (.int z) (.cons (.int z) (.cons (.int z) (.cons (.int z) (.cons (.int z) (.cons (.int z) (.cons (.int z) (.cons (.int z) .nil))))))))
/-! ### the law of terms at the bounds -/
abbrev sLaw : Stmt := topS 25
theorem scLaw : FnScope ["_law_script", "_law_k", "_law_pool_here", "_law_deep", "_law_term", "_law_many", "_law_wide", "_law_nest", "_law_turn", "_law_odd", "_law_at"] ["_law_script"] (defScope sLaw) := ⟨rfl, rfl, rfl, by decide +kernel, rfl, by decide +kernel, by decide +kernel⟩
def spLaw (K : PySem.W.Frag) : Sp := fun vs H Q _ => ∃ (a : Addr) (ns : List Int), vs = [.ref a] ∧ SqL K H a (ns.map V.int) ∧ ns.length ≤ 63 ∧ ∀ H', Q (.bl true) H'
theorem same_but {p : Addr} {H H1 H2 : Hp} (s : Same H H1) (n : H p = none) (h2 : But p H1 H2) : Same H H2 := fun b o e => h2 b o (s b o e) (ne_of_none e n)
theorem but_same {p : Addr} {H H1 H2 : Hp} (b : But p H H1) (s : Same H1 H2) : But p H H2 := b.trans (But.of s)
theorem dneq (a b : Bool) : (!decide (V.bl a = V.bl b)) = (a != b) := by cases a <;> cases b <;> rfl
theorem sum1 (g : PyData → Nat) (a : PyData) : ([a].map g).sum = g a := Nat.add_zero _
section
variable {P : Program} {w : World} {K : PySem.W.Frag} {mg : Str → Option Value} {base : Heap}
structure LawFns (K : PySem.W.Frag) (mg : Str → Option Value) (fPl fDr fCh fRw fTm fSz fDp : Addr) (dPl dDr dCh dRw dTm dSz dDp : FuncData) : Prop where
  Pl : Fun K "_law_pool" "_law_pool" sPool fPl dPl
  Dr : Fun K "_law_draw" "_law_draw" sDraw fDr dDr
  Ch : Fun K "_law_chain" "_law_chain" sChain fCh dCh
  Rw : Fun K "_law_row" "_law_row" sRow fRw dRw
  Tm : Fun K "is_term" "is_term" sTerm fTm dTm
  Sz : Fun K "term_size" "term_size" sSize fSz dSz
  Dp : Fun K "term_depth" "term_depth" sDepth fDp dDp
  bPl : Binds K dPl ["_law_script", "_law_k"] []
  bDr : Binds K dDr ["_law_pool_here", "_law_many"] []
  bCh : Binds K dCh ["_law_pool_here", "_law_many"] []
  bRw : Binds K dRw ["_law_terms"] []
  bTm : Binds K dTm ["value", "arguments"] []
  bSz : Binds K dSz ["term"] []
  bDp : Binds K dDp ["term"] []
  gPl : mg "_law_pool" = some (.ref fPl)
  gDr : mg "_law_draw" = some (.ref fDr)
  gCh : mg "_law_chain" = some (.ref fCh)
  gRw : mg "_law_row" = some (.ref fRw)
  gTm : mg "is_term" = some (.ref fTm)
  gSz : mg "term_size" = some (.ref fSz)
  gDp : mg "term_depth" = some (.ref fDp)
theorem ok_law {f fPl fDr fCh fRw fTm fSz fDp : Addr} {fd dPl dDr dCh dRw dTm dSz dDp : FuncData} (F : Fun K "law" "law" sLaw f fd) (M : Blt mg) (L : LawFns K mg fPl fDr fCh fRw fTm fSz fDp dPl dDr dCh dRw dTm dSz dDp)
    (GP : FnOk P w K mg base CX0 1 fPl dPl ["_law_script", "_law_k"] (spPool K)) (GD : FnOk P w K mg base CX0 1 fDr dDr ["_law_pool_here", "_law_many"] spDraw) (GC : FnOk P w K mg base CX0 3 fCh dCh ["_law_pool_here", "_law_many"] (spChain K)) (GR : FnOk P w K mg base CX0 1 fRw dRw ["_law_terms"] (spRow K))
    (GT : FnOk P w K mg base CX0 5 fTm dTm ["value", "arguments"] (spBn K isTerm)) (GS : FnOk P w K mg base CX0 6 fSz dSz ["term"] (spNum K fun d => ((partsD d).length : Int))) (GE : FnOk P w K mg base CX0 5 fDp dDp ["term"] (spNum K fun d => (depthD d : Int))) :
    FnOk P w K mg base CX0 7 f fd ["_law_script"] (spLaw K) := by
  refine F.ok scLaw (fun vs H Q E h => ?_) (fun cdv A outer s H vs Q E hr h => ?_)
  · obtain ⟨a, ns, rfl, _⟩ := h
    rfl
  · obtain ⟨a, ns, rfl, hS, hlen, q⟩ := h
    have hr1 : Room 1 _ := hr.mono (by decide)
    have hr3 : Room 3 _ := hr.mono (by decide)
    have hr5 : Room 5 _ := hr.mono (by decide)
    refine ⟨_, pss_cons (ps_for PassesOwn.never rfl (pi_range1 (by rfl) M.range (pa_cons (pe_callB (call_max2 rfl) (by rfl) M.max (by decide +kernel) (pa_cons pe_int (pa_cons (pe_callB (call_min2 rfl) (by rfl) M.min (by decide +kernel) (pa_cons (pe_callB call_len_seq (by rfl) M.len PySem.boot_len (pa_cons (pv 0) pa_nil)) (pa_cons pe_int pa_nil))) pa_nil))) pa_nil)) (pg_name (i := 1) scLaw.nd rfl (.inl rfl))
        (pss_cons (ps_set (i := 2) scLaw.nd rfl (.inr rfl) (pe_call GP hr1 (by rfl) L.gPl L.Pl.kp L.bPl .nil pass0 (pa_cons (pv 0) (pa_cons (pv 1) pa_nil))))
        -- the chains
        (pss_cons (ps_for PassesOwn.never rfl (pi_range2 (by rfl) M.range (pa_cons pe_int (pa_cons pe_int pa_nil))) (pg_name (i := 3) scLaw.nd rfl (.inl rfl))
          (pss_cons (ps_set (i := 4) scLaw.nd rfl (.inl rfl) (pe_call GC hr3 (by rfl) L.gCh L.Ch.kp L.bCh .nil pass0 (pa_cons (pv 2) (pa_cons (pv 3) pa_nil))))
          (pss_cons (ps_if (pt_cmpR op_ne (pe_call GT hr5 (by rfl) L.gTm L.Tm.kp L.bTm .nil pass0 (pa_cons (pv 4) (pa_cons pe_int pa_nil))) (pe_cmpR op_le (pv 3) pe_int (nomark _)) (nomark _)) (pss_one (ps_ret pe_bl)) pss_nil)
          (pss_one (ps_if (PW.pt (pw_and (pt_cmpR op_le (pv 3) pe_int (nomark _)) (pw_and1 (pt_cmpR (op_neD hr.units)
              (pe_lst (pa_cons (pe_call GE hr5 (by rfl) L.gDp L.Dp.kp L.bDp .nil pass0 (pa_cons (pv 4) pa_nil)) (pa_cons (pe_call GS hr (by rfl) L.gSz L.Sz.kp L.bSz .nil pass0 (pa_cons (pv 4) pa_nil)) pa_nil)))
              (pe_lst (pa_cons (pv 3) (pa_cons (pe_op op_sub (pe_op op_mul pe_int (pv 3)) pe_int) pa_nil))) (nomark _))))) (pss_one (ps_ret pe_bl)) pss_nil)))))
        -- the rows
        (pss_cons (ps_for PassesOwn.never rfl (pi_range2 (by rfl) M.range (pa_cons pe_int (pa_cons pe_int pa_nil))) (pg_name (i := 5) scLaw.nd rfl (.inl rfl))
          (pss_cons (ps_set (i := 4) scLaw.nd rfl (.inl rfl) (pe_call GR hr1 (by rfl) L.gRw L.Rw.kp L.bRw .nil pass0 (pa_cons
              (pe_lc (own := [("_law_at", 10)]) (g := gName 10) (te := tCall spDraw [] E0 (tCons (tVar 2) (tCons (tC (.int 3)) tNil))) (by rfl) scLaw.nd (pi_range1 (by rfl) M.range (pa_cons (pv 5) pa_nil)) (blkOk_by (own := [("_law_at", 10)]) (N := ["_law_script", "_law_k", "_law_pool_here", "_law_deep", "_law_term", "_law_many", "_law_wide", "_law_nest", "_law_turn", "_law_odd", "_law_at"]) (sc := defScope sLaw) (by decide +kernel))
                (fun _ _ _ _ _ => pg_name (i := 10) scLaw.nd rfl (Or.inl rfl)) (fun _ _ _ _ _ => pts_nil) (fun _ _ _ _ _ => pe_call GD hr1 (by rfl) L.gDr L.Dr.kp L.bDr .nil pass0 (pa_cons (pv 2) (pa_cons pe_int pa_nil)))) pa_nil)))
          (pss_one (ps_if (PW.pt (pw_or (pt_cmpR op_ne (pe_call GT hr5 (by rfl) L.gTm L.Tm.kp L.bTm .nil pass0 (pa_cons (pv 4) (pa_cons pe_int pa_nil))) (pe_cmpR op_le (pe_op op_sub (pe_op op_mul pe_int (pv 5)) pe_int) pe_int (nomark _)) (nomark _))
            (pw_or1 (PW.pt (pw_and (pt_cmpR op_le (pe_op op_sub (pe_op op_mul pe_int (pv 5)) pe_int) pe_int (nomark _)) (pw_and1 (pt_cmpR op_ne (pe_call GS hr (by rfl) L.gSz L.Sz.kp L.bSz .nil pass0 (pa_cons (pv 4) pa_nil)) (pe_op op_sub (pe_op op_mul pe_int (pv 5)) pe_int) (nomark _)))))))) (pss_one (ps_ret pe_bl)) pss_nil))))
        -- the wide ones
        (pss_cons (ps_set (i := 6) scLaw.nd rfl (.inl rfl) (pe_call GR hr1 (by rfl) L.gRw L.Rw.kp L.bRw .nil pass0 (pa_cons
              (pe_lc (own := [("_law_at", 10)]) (g := gName 10) (te := tCall spDraw [] E0 (tCons (tVar 2) (tCons (tC (.int 3)) tNil))) (by rfl) scLaw.nd (pi_range1 (by rfl) M.range (pa_cons pe_int pa_nil)) (blkOk_by (own := [("_law_at", 10)]) (N := ["_law_script", "_law_k", "_law_pool_here", "_law_deep", "_law_term", "_law_many", "_law_wide", "_law_nest", "_law_turn", "_law_odd", "_law_at"]) (sc := defScope sLaw) (by decide +kernel))
                (fun _ _ _ _ _ => pg_name (i := 10) scLaw.nd rfl (Or.inl rfl)) (fun _ _ _ _ _ => pts_nil) (fun _ _ _ _ _ => pe_call GD hr1 (by rfl) L.gDr L.Dr.kp L.bDr .nil pass0 (pa_cons (pv 2) (pa_cons pe_int pa_nil)))) pa_nil)))
        (pss_cons (ps_if (PW.pt (pw_or (pt_cmpR op_isnot_bl (pe_call GT hr5 (by rfl) L.gTm L.Tm.kp L.bTm .nil pass0 (pa_cons (pe_tup (pa_cons pe_str (pa_cons pe_str (pa_cons (pe_tup (pa_cons (pv 6) pa_nil)) pa_nil)))) (pa_cons pe_int pa_nil))) pe_bl (nomark _))
            (pw_or1 (pt_cmpR op_isnot_bl (pe_call GT hr5 (by rfl) L.gTm L.Tm.kp L.bTm .nil pass0 (pa_cons (pe_tup (pa_cons pe_str (pa_cons pe_str (pa_cons (pe_tup (pa_cons (pv 6) (pa_cons pe_int pa_nil))) pa_nil)))) (pa_cons pe_int pa_nil))) pe_bl (nomark _))))) (pss_one (ps_ret pe_bl)) pss_nil)
        (pss_cons (ps_if (PW.pt (pw_or (pt_cmpR op_isnot_bl (pe_call GT hr5 (by rfl) L.gTm L.Tm.kp L.bTm .nil pass0 (pa_cons (pe_tup (pa_cons pe_str (pa_cons (pv 6) (pa_cons pe_int (pa_cons pe_int pa_nil))))) (pa_cons pe_int pa_nil))) pe_bl (nomark _))
            (pw_or1 (pt_cmpR op_isnot_bl (pe_call GT hr5 (by rfl) L.gTm L.Tm.kp L.bTm .nil pass0 (pa_cons (pe_tup (pa_cons pe_str (pa_cons pe_str (pa_cons (pe_tup (pa_cons pe_int (pa_cons (pe_tup (pa_cons pe_str (pa_cons pe_int pa_nil))) pa_nil))) pa_nil)))) (pa_cons pe_int pa_nil))) pe_bl (nomark _))))) (pss_one (ps_ret pe_bl)) pss_nil)
        -- the deep and the long ones
        (pss_cons (ps_set (i := 7) scLaw.nd rfl (.inl rfl) pe_int)
        (pss_cons (ps_for PassesOwn.never rfl (pi_range1 (by rfl) M.range (pa_cons pe_int pa_nil)) (pg_name (i := 8) scLaw.nd rfl (.inl rfl))
          (pss_one (ps_set (i := 7) scLaw.nd rfl (.inl rfl) (pe_tup (pa_cons pe_str (pa_cons (pv 7) (pa_cons pe_int pa_nil)))))))
        (pss_one (ps_for PassesOwn.never rfl (pi_list (pe_lst (pa_cons (pv 7) (pa_cons (pe_tup (pa_cons pe_str (pa_cons pe_str (pa_cons (pv 7) pa_nil)))) (pa_cons (pe_tup (pa_cons pe_str (pa_cons pe_str (pa_cons (pe_tup (pa_cons (pv 7) pa_nil)) pa_nil))))
              (pa_cons (pe_op op_repT (pe_tup (pa_cons pe_str pa_nil)) pe_int) (pa_cons (pe_op op_catT (pe_tup (pa_cons pe_str pa_nil)) (pe_op op_repT (pe_tup (pa_cons pe_int pa_nil)) pe_int)) pa_nil))))))) (pg_name (i := 9) scLaw.nd rfl (.inl rfl))
          (pss_one (ps_if (pt_cmpR op_isnot_bl (pe_call GT hr5 (by rfl) L.gTm L.Tm.kp L.bTm .nil pass0 (pa_cons (pv 9) (pa_cons pe_int pa_nil))) pe_bl (nomark _)) (pss_one (ps_ret pe_bl)) pss_nil)))))))))))))
      (pss_one (ps_ret pe_bl)), ?_⟩
    refine ⟨.ref a, rfl, a, _, rfl, .inl hS, _, _, rfl, _, _, rfl, _, rfl, range_bounds.1, range_bounds.2, ?_⟩
    refine for_range (lo := 0) (n := _) (fun i σ H' => ∃ y1 y2 y3 y4 y5 y6 y7 y8 y9 y10, σ = [some (.ref a), y1, y2, y3, y4, y5, y6, y7, y8, y9, y10] ∧ Same H H')
      ⟨none, none, none, none, none, none, none, none, none, none, rfl, Same.refl H⟩ (fun i σ H0 hi hW => ?_) (fun σ H0 hW => q H0)
    obtain ⟨y1, y2, y3, y4, y5, y6, y7, y8, y9, y10, rfl, s0⟩ := hW
    have ht := turns hi
    rw [List.length_map] at ht
    refine ⟨.ref a, rfl, _, rfl, a, ns, i, (by show ([V.ref a, V.int (0 + (i : Int))] : List V) = _; rw [Int.zero_add]), s0.seq hS, ht.1, ht.2.imp id (fun e => List.eq_nil_of_length_eq_zero e), fun H1 p np s1 hp => ?_⟩
    have nHp : H p = none := s0.free np
    -- the chains
    refine ⟨6, 11, rfl, ⟨by decide, by decide, by decide, by decide⟩, ?_⟩
    refine for_range (lo := 6) (n := (11 - 6 : Int).toNat) (fun j σ H' => ∃ z1 z3 z4 z5 z6 z7 z8 z9 z10, σ = [some (.ref a), z1, some (.ref p), z3, z4, z5, z6, z7, z8, z9, z10] ∧ But p H1 H' ∧ PoolAt H' p)
      ⟨_, _, _, _, _, _, _, _, _, rfl, But.refl p H1, hp⟩ (fun j σ H2 hj hW => ?_) (fun σ H2 hW => ?_)
    · obtain ⟨z1, z3, z4, z5, z6, z7, z8, z9, z10, rfl, b2, hp2⟩ := hW
      have hj5 : j < 5 := hj
      refine ⟨.ref p, rfl, _, rfl, p, 6 + j, rfl, hp2, by omega, by omega, fun v d H3 b3 hp3 hv hc => ?_⟩
      refine ⟨v, rfl, v, d, 0, rfl, hv, hc.ok, fun H4 s4 => ?_⟩
      have e8 : decide ((6 : Int) + (j : Int) ≤ 8) = decide (6 + j ≤ 8) := by
        by_cases h : 6 + j ≤ 8
        · rw [decide_eq_true h, decide_eq_true (by omega)]
        · rw [decide_eq_false h, decide_eq_false (by omega)]
      refine ⟨_, rfl, _, _, rfl, rfl, rfl, _, rfl, iteNS (congrArg V.bl ((ch_isTerm hc 0).trans e8.symm)) ?_⟩
      refine ⟨_, rfl, _, _, rfl, rfl, _, rfl, ?_⟩
      have nx : ∀ H5, Same H4 H5 → But p H1 H5 ∧ PoolAt H5 p := fun H5 s5 => ⟨but_same (b2.trans b3) (s4.trans s5), hp3.same (s4.trans s5)⟩
      rw [e8]
      by_cases h8 : 6 + j ≤ 8
      · rw [decide_eq_true h8]
        have tt : isTerm 0 d = true := by
          rw [ch_isTerm hc, decide_eq_true h8]
        refine iteT ⟨v, rfl, v, d, 0, rfl, dp_same s4 hv, hc.ok, tt, fun H5 s5 => ?_⟩
        refine ⟨v, rfl, v, d, 0, rfl, dp_same (s4.trans s5) hv, hc.ok, tt, fun H6 s6 => ⟨(by show 2 ≤ sizeLine; decide), fun l1 n1 => ?_⟩⟩
        refine ⟨_, rfl, _, rfl, _, _, rfl, rfl, .inl ⟨by decide, by decide⟩, _, _, rfl, rfl, (by show 2 ≤ sizeLine; decide), fun l2 n2 => ?_⟩
        have ed : depthD d = 6 + j := by
          rw [depthD_is, hc.dp]
          omega
        have es : (partsD d).length = 2 * (6 + j) - 1 := by
          rw [partsD_len, hc.sz 9 (by omega)]
        refine ⟨.list [.int (depthD d : Int), .int ((partsD d).length : Int)], .list [.int ((6 : Int) + (j : Int)), .int (2 * ((6 : Int) + (j : Int)) - 1)], dp_same (same_upd n2) (dpL n1 (.cons (.int _) (.cons (.int _) .nil))), dpL n2 (.cons (.int _) (.cons (.int _) .nil)), rfl, rfl, _, rfl, ?_⟩
        have ee : (PyData.list [.int (depthD d : Int), .int ((partsD d).length : Int)]) = .list [.int ((6 : Int) + (j : Int)), .int (2 * ((6 : Int) + (j : Int)) - 1)] := by
          rw [ed, es]
          have e1 : ((6 + j : Nat) : Int) = (6 : Int) + (j : Int) := by omega
          have e2 : ((2 * (6 + j) - 1 : Nat) : Int) = 2 * ((6 : Int) + (j : Int)) - 1 := by omega
          rw [e1, e2]
        have ev : PyData.eqv (PyData.list [.int (depthD d : Int), .int ((partsD d).length : Int)]) (.list [.int ((6 : Int) + (j : Int)), .int (2 * ((6 : Int) + (j : Int)) - 1)]) = true := by
          rw [ee]
          exact SeqAt.eqv_refl _ rfl
        rw [ev]
        obtain ⟨bb, hh⟩ := nx _ ((s5.trans s6).trans ((same_upd (o := .lst [.int (depthD d : Int), .int ((partsD d).length : Int)]) n1).trans (same_upd (o := .lst [.int ((6 : Int) + (j : Int)), .int (2 * ((6 : Int) + (j : Int)) - 1)]) n2)))
        exact iteF ⟨_, _, _, _, _, _, _, _, _, rfl, bb, hh⟩
      · rw [decide_eq_false h8]
        obtain ⟨bb, hh⟩ := nx _ (Same.refl _)
        exact iteF (iteF ⟨_, _, _, _, _, _, _, _, _, rfl, bb, hh⟩)
    · obtain ⟨z1, z3, z4, z5, z6, z7, z8, z9, z10, rfl, b2, hp2⟩ := hW
      -- the rows
      refine ⟨10, 18, rfl, ⟨by decide, by decide, by decide, by decide⟩, ?_⟩
      refine for_range (lo := 10) (n := (18 - 10 : Int).toNat) (fun j σ H' => ∃ z1 z3 z4 z5 z6 z7 z8 z9 z10, σ = [some (.ref a), z1, some (.ref p), z3, z4, z5, z6, z7, z8, z9, z10] ∧ But p H1 H' ∧ PoolAt H' p)
        ⟨_, _, _, _, _, _, _, _, _, rfl, b2, hp2⟩ (fun j σ H3 hj hW => ?_) (fun σ H3 hW => ?_)
      · obtain ⟨z1, z3, z4, z5, z6, z7, z8, z9, z10, rfl, b3, hp3⟩ := hW
        have hj8 : j < 8 := hj
        refine ⟨_, rfl, _, rfl, by omega, by omega, fun D hD => ?_⟩
        refine lc_pool (vs := [10]) (j := 10) (D := D) (p := p) walk_range Leaf (by omega) hD hp3 (fun x => rfl) (fun k x H4 H5 hk hp4 y => ⟨y.1, fun Q2 q2 => ⟨.ref p, rfl, p, 3, rfl, hp4, by omega, by omega, fun z H6 z0 z3 b6 hp6 fr6 => q2 _ H6 b6 hp6 ⟨z, rfl, z0, z3⟩⟩⟩) (fun ys H4 b4 hp4 e4 el hl => ?_)
        obtain ⟨ds, hds, hrow⟩ := leaves (K := K) (H := H4) hl
        have eld := dpA_len hds
        have el2 : ys.length = 10 + j := by omega
        rw [el2] at hrow
        refine ⟨D, ys, ds, 10 + j, rfl, .inl (.inl e4), hds, hrow, by omega, by omega, fun v d H5 s5 hv ht => ?_⟩
        refine ⟨v, rfl, v, d, 2, rfl, hv, ht.ok, fun H6 s6 => ?_⟩
        have e30 : decide (2 * ((10 : Int) + (j : Int)) - 1 ≤ 30) = decide (2 * (10 + j) - 1 ≤ 30) := by
          by_cases h : 2 * (10 + j) - 1 ≤ 30
          · rw [decide_eq_true h, decide_eq_true (by omega)]
          · rw [decide_eq_false h, decide_eq_false (by omega)]
        have tt : isTerm 2 d = decide (2 * (10 + j) - 1 ≤ 30) := tr_isTerm ht 2 (by decide)
        refine ⟨_, rfl, _, _, rfl, rfl, .inl ⟨by decide, by decide⟩, _, _, rfl, rfl, _, _, rfl, rfl, rfl, _, rfl, iteNS (congrArg V.bl (tt.trans e30.symm)) ?_⟩
        refine ⟨_, rfl, _, _, rfl, rfl, .inl ⟨by decide, by decide⟩, _, _, rfl, rfl, _, _, rfl, rfl, _, rfl, ?_⟩
        have nx : ∀ H7, Same H6 H7 → But p H1 H7 ∧ PoolAt H7 p := fun H7 s7 => ⟨but_same (b3.trans b4) ((s5.trans s6).trans s7), hp4.same ((s5.trans s6).trans s7)⟩
        rw [e30]
        by_cases h30 : 2 * (10 + j) - 1 ≤ 30
        · rw [decide_eq_true h30] at tt
          rw [decide_eq_true h30]
          refine iteT ⟨v, rfl, v, d, 2, rfl, dp_same s6 hv, ht.ok, tt, fun H7 s7 => ?_⟩
          have es : (((partsD d).length : Nat) : Int) = 2 * ((10 : Int) + (j : Int)) - 1 := by
            rw [partsD_len, ht.sz 9 (by decide)]
            omega
          refine ⟨_, rfl, _, _, rfl, rfl, .inl ⟨by decide, by decide⟩, _, _, rfl, rfl, rfl, _, rfl, iteNS (congrArg V.int es) ?_⟩
          obtain ⟨bb, hh⟩ := nx _ s7
          exact ⟨_, _, _, _, _, _, _, _, _, rfl, bb, hh⟩
        · rw [decide_eq_false h30]
          obtain ⟨bb, hh⟩ := nx _ (Same.refl _)
          exact iteF (iteF ⟨_, _, _, _, _, _, _, _, _, rfl, bb, hh⟩)
      · obtain ⟨z1, z3, z4, z5, z6, z7, z8, z9, z10, rfl, b3, hp3⟩ := hW
        -- the wide ones
        refine ⟨15, rfl, by decide, by decide, fun D hD => ?_⟩
        refine lc_pool (vs := [10]) (j := 10) (D := D) (p := p) (walk_range (n := 15)) Leaf (by decide) hD hp3 (fun x => rfl) (fun k x H4 H5 hk hp4 y => ⟨y.1, fun Q2 q2 => ⟨.ref p, rfl, p, 3, rfl, hp4, by omega, by omega, fun z H6 z0 z3 b6 hp6 fr6 => q2 _ H6 b6 hp6 ⟨z, rfl, z0, z3⟩⟩⟩) (fun ys H4 b4 hp4 e4 el hl => ?_)
        obtain ⟨ds, hds, hrow⟩ := leaves (K := K) (H := H4) hl
        have eld := dpA_len hds
        rw [el] at hrow
        refine ⟨D, ys, ds, 15, rfl, .inl (.inl e4), hds, hrow, by omega, by omega, fun v d H5 s5 hv ht => ?_⟩
        -- ('call', 'f', (wide,)), ('call', 'f', (wide, 1))
        refine ⟨v, rfl, (by show 1 ≤ sizeLine; decide), fun t1 n1 => ⟨(by show 3 ≤ sizeLine; decide), fun t2 n2 => ?_⟩⟩
        have d2 := dpT n2 (.cons (.str "call") (.cons (.str "f") (.cons (dpT n1 (.cons hv .nil)) .nil)))
        refine ⟨.ref t2, _, 0, rfl, d2, ?_, fun H6 s6 => ?_⟩
        · show (decide (3 ≤ 1000) && (szD (.str "call") && (szD (.str "f") && ((decide (1 ≤ 1000) && (szD d && true)) && true)))) = true
          rw [ht.ok]
          decide +kernel
        refine ⟨_, _, rfl, rfl, _, rfl, ?_⟩
        rw [wide1 ht 0]
        refine iteF ?_
        have hv6 : Dp K H6 v d := dp_same ((same_upd n1).trans ((same_upd n2).trans s6)) hv
        refine ⟨v, rfl, (by show 2 ≤ sizeLine; decide), fun t3 n3 => ⟨(by show 3 ≤ sizeLine; decide), fun t4 n4 => ?_⟩⟩
        have d4 := dpT n4 (.cons (.str "call") (.cons (.str "f") (.cons (dpT n3 (.cons hv6 (.cons (.int 1) .nil))) .nil)))
        refine ⟨.ref t4, _, 0, rfl, d4, ?_, fun H7 s7 => ?_⟩
        · show (decide (3 ≤ 1000) && (szD (.str "call") && (szD (.str "f") && ((decide (2 ≤ 1000) && (szD d && (true && true))) && true)))) = true
          rw [ht.ok]
          decide +kernel
        refine ⟨_, _, rfl, rfl, _, rfl, ?_⟩
        rw [wide2 ht 0]
        refine iteF ?_
        have hv7 : Dp K H7 v d := dp_same ((same_upd n3).trans ((same_upd n4).trans s7)) hv6
        -- ('if', wide, 0, 1), ('call', 'f', (1, ('arg', 0)))
        refine ⟨v, rfl, (by show 4 ≤ sizeLine; decide), fun t5 n5 => ?_⟩
        have d5 := dpT n5 (.cons (.str "if") (.cons hv7 (.cons (.int 0) (.cons (.int 1) .nil))))
        refine ⟨.ref t5, _, 0, rfl, d5, ?_, fun H8 s8 => ?_⟩
        · show (decide (4 ≤ 1000) && (szD (.str "if") && (szD d && (true && (true && true))))) = true
          rw [ht.ok]
          decide +kernel
        refine ⟨_, _, rfl, rfl, _, rfl, ?_⟩
        rw [wide3 ht 0]
        refine iteF ?_
        refine ⟨(by show 2 ≤ sizeLine; decide), fun t6 n6 => ⟨(by show 2 ≤ sizeLine; decide), fun t7 n7 => ⟨(by show 3 ≤ sizeLine; decide), fun t8 n8 => ?_⟩⟩⟩
        have d8 := dpT (K := K) n8 (.cons (.str "call") (.cons (.str "f") (.cons (dpT n7 (.cons (.int 1) (.cons (dpT n6 (.cons (.str "arg") (.cons (.int 0) .nil))) .nil))) .nil)))
        refine ⟨.ref t8, _, 1, rfl, d8, (by decide +kernel), fun H9 s9 => ?_⟩
        refine ⟨_, _, rfl, rfl, _, rfl, ?_⟩
        have e9 : isTerm 1 (.tuple [.str "call", .str "f", .tuple [.int 1, .tuple [.str "arg", .int 0]]]) = true := by decide +kernel
        rw [e9]
        refine iteF ?_
        -- the nest
        have st : Same H4 H9 := s5.trans ((same_upd n1).trans ((same_upd n2).trans (s6.trans ((same_upd n3).trans ((same_upd n4).trans (s7.trans ((same_upd n5).trans (s8.trans ((same_upd n6).trans ((same_upd n7).trans ((same_upd n8).trans s9)))))))))))
        have sall : Same H H9 := (same_but (s0.trans s1) nHp (b3.trans b4)).trans st
        refine ⟨60, rfl, by decide, by decide, ?_⟩
        refine for_range (lo := 0) (n := (60 : Int).toNat) (fun j σ H' => ∃ (z1 z8 : Option V) (u : V) (c : PyData), σ = [some (.ref a), z1, some (.ref p), z3, z4, z5, some v, some u, z8, z9, z10] ∧ Same H H' ∧ Dp K H' u c ∧ Ch (j + 1) c ∧ (1 ≤ j → ∃ c', c = .tuple [.str "plus", c', .int 1]))
          ⟨_, _, .int 1, .int 1, rfl, sall, .int 1, ch_one (by decide) (by decide), fun h => absurd h (by decide)⟩ (fun j σ H2 hj hW => ?_) (fun σ H2 hW => ?_)
        · obtain ⟨z1, z8, u, c, rfl, s2, hu, hc, _⟩ := hW
          refine ⟨_, rfl, (by show 3 ≤ sizeLine; decide), fun t nt => ?_⟩
          exact ⟨_, _, .ref t, .tuple [.str "plus", c, .int 1], rfl, s2.trans (same_upd nt), dpT nt (.cons (.str "plus") (.cons hu (.cons (.int 1) .nil))), ch_left (.inl rfl) hc (by decide) (by decide), fun _ => ⟨c, rfl⟩⟩
        · obtain ⟨z1, z8, u, c, rfl, s2, hu, hc, hcc⟩ := hW
          obtain ⟨c', rfl⟩ := hcc (by decide)
          -- the five odd ones
          refine ⟨u, rfl, u, rfl, (by show 3 ≤ sizeLine; decide), fun t1 n1 => ⟨u, rfl, (by show 1 ≤ sizeLine; decide), fun t2 n2 => ⟨(by show 3 ≤ sizeLine; decide), fun t3 n3 => ?_⟩⟩⟩
          refine ⟨(by show 1 ≤ sizeLine; decide), fun t4 n4 => ⟨t4, 9, [.str "plus"], rfl, rfl, .inl (.inl upd_same), (by decide), (by decide), (by decide), (by decide), fun t5 n5 => ?_⟩⟩
          refine ⟨(by show 1 ≤ sizeLine; decide), fun t6 n6 => ⟨(by show 1 ≤ sizeLine; decide), fun t7 n7 => ⟨t7, 9, [.int 1], rfl, rfl, .inl (.inl upd_same), (by decide), (by decide), (by decide), (by decide), fun t8 n8 => ?_⟩⟩⟩
          have k1 := same_upd (o := .tup [.str "call", .str "f", u]) n1
          have k2 := same_upd (o := .tup [u]) n2
          have k3 := same_upd (o := .tup [.str "call", .str "f", .ref t2]) n3
          have k4 := same_upd (o := .tup [.str "plus"]) n4
          have k5 := same_upd (o := .tup (List.replicate (9 : Int).toNat [V.str "plus"]).flatten) n5
          have k6 := same_upd (o := .tup [.str "if"]) n6
          have k7 := same_upd (o := .tup [.int 1]) n7
          have k8 := same_upd (o := .tup (List.replicate (9 : Int).toNat [V.int 1]).flatten) n8
          refine ⟨t6, t8, [.str "if"], (List.replicate (9 : Int).toNat [V.int 1]).flatten, rfl, rfl, same_sqT (k7.trans k8) (.inl (.inl upd_same)), .inl (.inl upd_same), (by decide), (by show 10 ≤ sizeLine; decide), (fun e => by cases e), fun _ t9 n9 => ⟨(by show 5 ≤ sizeLine; decide), fun l nl => ?_⟩⟩
          have k9 := same_upd (o := .tup ([V.str "if"] ++ (List.replicate (9 : Int).toNat [V.int 1]).flatten)) n9
          have kl := same_upd (o := .lst [u, .ref t1, .ref t3, .ref t5, .ref t9]) nl
          have hA := dpA_same kl (.cons (dp_same (k1.trans (k2.trans (k3.trans (k4.trans (k5.trans (k6.trans (k7.trans (k8.trans k9)))))))) hu)
            (.cons (dp_same (k2.trans (k3.trans (k4.trans (k5.trans (k6.trans (k7.trans (k8.trans k9))))))) (dpT n1 (.cons (.str "call") (.cons (.str "f") (.cons hu .nil)))))
            (.cons (dp_same (k4.trans (k5.trans (k6.trans (k7.trans (k8.trans k9))))) (dpT n3 (.cons (.str "call") (.cons (.str "f") (.cons (dpT n2 (.cons (dp_same k1 hu) .nil)) .nil)))))
            (.cons (dp_same (k6.trans (k7.trans (k8.trans k9))) (dpT (K := K) n5 (nineS "plus")))
            (.cons (dpT (K := K) n9 (.cons (.str "if") (nineI 1))) .nil)))))
          have hall : ∀ d ∈ [PyData.tuple [.str "plus", c', .int 1], .tuple [.str "call", .str "f", .tuple [.str "plus", c', .int 1]], .tuple [.str "call", .str "f", .tuple [.tuple [.str "plus", c', .int 1]]], .tuple (List.replicate 9 (.str "plus")), .tuple (.str "if" :: List.replicate 9 (.int 1))], isTerm 2 d = false ∧ szD d = true := by
            intro d hd
            rcases List.mem_cons.mp hd with rfl | hd
            · exact ⟨(ch_isTerm hc 2).trans rfl, hc.ok⟩
            rcases List.mem_cons.mp hd with rfl | hd
            · refine ⟨nest2 _ _ _ 2, ?_⟩
              show (decide (3 ≤ 1000) && (szD (.str "call") && (szD (.str "f") && (szD (.tuple [.str "plus", c', .int 1]) && true)))) = true
              rw [hc.ok]
              decide +kernel
            rcases List.mem_cons.mp hd with rfl | hd
            · refine ⟨nest1 hc (by decide) 2, ?_⟩
              show (decide (3 ≤ 1000) && (szD (.str "call") && (szD (.str "f") && ((decide (1 ≤ 1000) && (szD (.tuple [.str "plus", c', .int 1]) && true)) && true)))) = true
              rw [hc.ok]
              decide +kernel
            rcases List.mem_cons.mp hd with rfl | hd
            · exact ⟨by decide +kernel, by decide +kernel⟩
            rcases List.mem_cons.mp hd with rfl | hd
            · exact ⟨by decide +kernel, by decide +kernel⟩
            · cases hd
          have sall2 := s2.trans (k1.trans (k2.trans (k3.trans (k4.trans (k5.trans (k6.trans (k7.trans (k8.trans (k9.trans kl)))))))))
          refine ⟨l, rfl, ⟨_, .inl (.inl upd_same)⟩, ?_⟩
          refine for_list (K := K) (a := l) (xs := [u, .ref t1, .ref t3, .ref t5, .ref t9]) (fun j σ H' => (∃ z1 z8 z9, σ = [some (.ref a), z1, some (.ref p), z3, z4, z5, some v, some u, z8, z9, z10]) ∧ Same H H' ∧ H' l = some (.lst [u, .ref t1, .ref t3, .ref t5, .ref t9]) ∧ DpAll K H' [u, .ref t1, .ref t3, .ref t5, .ref t9] [PyData.tuple [.str "plus", c', .int 1], .tuple [.str "call", .str "f", .tuple [.str "plus", c', .int 1]], .tuple [.str "call", .str "f", .tuple [.tuple [.str "plus", c', .int 1]]], .tuple (List.replicate 9 (.str "plus")), .tuple (.str "if" :: List.replicate 9 (.int 1))])
            ⟨⟨_, _, _, rfl⟩, sall2, upd_same, hA⟩ (fun j σ H' _ h => .inl (.inl h.2.2.1)) (fun j x σ H' hx h => ?_) (fun σ H' h => ?_)
          · obtain ⟨⟨w1, w8, w9, rfl⟩, sH, eL, hA'⟩ := h
            obtain ⟨d, hd, dx⟩ := dpA_at hA' hx
            obtain ⟨hf, hz⟩ := hall d (List.mem_of_getElem? hd)
            refine ⟨x, rfl, x, d, 2, rfl, dx, hz, fun H5 s5 => ⟨_, _, rfl, rfl, _, rfl, ?_⟩⟩
            rw [hf]
            exact iteF ⟨⟨_, _, _, rfl⟩, sH.trans s5, s5 _ _ eL, dpA_same s5 hA'⟩
          · obtain ⟨⟨w1, w8, w9, rfl⟩, sH, eL, hA'⟩ := h
            exact ⟨_, _, _, _, _, _, _, _, _, _, rfl, sH⟩
end
/-! ### the table of lengths -/
def Lens (r : Option DictEntry) (o : Option Int) : Prop := match o with
  | some k => ∃ e t, r = some e ∧ e.val = .int k t
  | none => r = none
theorem lens_in {K : PySem.W.Frag} {aL : Addr} {es : Array DictEntry} {n : Nat} (l : K.lookup aL = some ⟨.type "dict", none, .dict es n, #[]⟩) {z : Str} (e : Lens (es.toList.find? (·.key.isStr z)) (lenOf z)) (o : es.toList.any (·.refKey) = false) :
    match lenOf z with
    | some k => ∃ t, PySem.W.nsIn K aL z = some (some (.int k t))
    | none => PySem.W.nsIn K aL z = some none := by
  have h : PySem.W.nsIn K aL z = (match es.toList.find? (·.key.isStr z) with
      | some e => some (some e.val)
      | none => if es.toList.any (·.refKey) then none else some none) := by
    unfold PySem.W.nsIn
    rw [l]
    rfl
  unfold Lens at e
  cases hz : lenOf z with
  | none =>
    rw [hz] at e
    show PySem.W.nsIn K aL z = some none
    have e' : es.toList.find? (·.key.isStr z) = none := e
    rw [h, e', o]
    rfl
  | some k =>
    rw [hz] at e
    obtain ⟨en, t, e1, e2⟩ := (e : ∃ en t, es.toList.find? (·.key.isStr z) = some en ∧ en.val = .int k t)
    refine ⟨t, ?_⟩
    rw [h, e1]
    show some (some en.val) = _
    rw [e2]
theorem isStr_str (a b : Str) (t : Tok) : (Value.str a t).isStr b = decide (b = a) := by
  rw [PySem.W.isStr_of]
  by_cases h : b = a
  · subst h
    rw [decide_eq_true rfl]
    simp [Value.isStrOf]
  · rw [decide_eq_false h]
    simp [Value.isStrOf]
    intro q
    exact h q.symm
theorem lens_five (z : Str) (e1 e2 e3 e4 e5 : DictEntry) {t1 t2 t3 t4 t5 : Tok} (k1 : e1.key = .str "tick" t1) (k2 : e2.key = .str "plus" t2) (k3 : e3.key = .str "less" t3) (k4 : e4.key = .str "same" t4) (k5 : e5.key = .str "if" t5)
    (v1 : ∃ t, e1.val = .int 1 t) (v2 : ∃ t, e2.val = .int 3 t) (v3 : ∃ t, e3.val = .int 3 t) (v4 : ∃ t, e4.val = .int 3 t) (v5 : ∃ t, e5.val = .int 4 t) : Lens ([e1, e2, e3, e4, e5].find? (·.key.isStr z)) (lenOf z) := by
  unfold lenOf
  rw [List.find?_cons, k1, isStr_str]
  by_cases h1 : z = "tick"
  · rw [if_pos h1, decide_eq_true h1]
    obtain ⟨t, v⟩ := v1
    exact ⟨e1, t, rfl, v⟩
  · rw [if_neg h1, decide_eq_false h1]
    show Lens (List.find? _ [e2, e3, e4, e5]) _
    rw [List.find?_cons, k2, isStr_str]
    by_cases h2 : z = "plus"
    · rw [if_pos h2, decide_eq_true h2]
      obtain ⟨t, v⟩ := v2
      exact ⟨e2, t, rfl, v⟩
    · rw [if_neg h2, decide_eq_false h2]
      show Lens (List.find? _ [e3, e4, e5]) _
      rw [List.find?_cons, k3, isStr_str]
      by_cases h3 : z = "less"
      · rw [if_pos h3, decide_eq_true h3]
        obtain ⟨t, v⟩ := v3
        exact ⟨e3, t, rfl, v⟩
      · rw [if_neg h3, decide_eq_false h3]
        show Lens (List.find? _ [e4, e5]) _
        rw [List.find?_cons, k4, isStr_str]
        by_cases h4 : z = "same"
        · rw [if_pos h4, decide_eq_true h4]
          obtain ⟨t, v⟩ := v4
          exact ⟨e4, t, rfl, v⟩
        · rw [if_neg h4, decide_eq_false h4]
          show Lens (List.find? _ [e5]) _
          rw [List.find?_cons, k5, isStr_str]
          by_cases h5 : z = "if"
          · rw [if_pos h5, decide_eq_true h5]
            obtain ⟨t, v⟩ := v5
            exact ⟨e5, t, rfl, v⟩
          · rw [if_neg h5, decide_eq_false h5]
            rfl
/-! ### what the top has written; the law's own head -/
theorem all_mk {l : PySem.W.OpenLaw} {w : World} {K : PySem.W.Frag} {h : Heap} {mg : Str → Option Value} {fa : Addr} (X : K.In h) (G : h.Ns mainGlobals mg) (hfa : mg "law" = some (.ref fa))
    {fWh : Addr} {odWh anWh : Option Addr} {slWh : Array (Option Value)} {ocWh kVWh dcWh pmWh cdWh ctWh : Value}
    {fVa : Addr} {odVa anVa : Option Addr} {slVa : Array (Option Value)} {ocVa kVVa dcVa pmVa cdVa ctVa : Value}
    {fNa : Addr} {odNa anNa : Option Addr} {slNa : Array (Option Value)} {ocNa kVNa dcNa pmNa cdNa ctNa : Value}
    {fTe : Addr} {odTe anTe : Option Addr} {slTe : Array (Option Value)} {ocTe kVTe dcTe pmTe cdTe ctTe : Value}
    {fHa : Addr} {odHa anHa : Option Addr} {slHa : Array (Option Value)} {ocHa kVHa dcHa pmHa cdHa ctHa : Value}
    {fCf : Addr} {odCf anCf : Option Addr} {slCf : Array (Option Value)} {ocCf kVCf dcCf pmCf cdCf ctCf : Value}
    {fIn : Addr} {odIn anIn : Option Addr} {slIn : Array (Option Value)} {ocIn kVIn dcIn pmIn cdIn ctIn : Value}
    {fNx : Addr} {odNx anNx : Option Addr} {slNx : Array (Option Value)} {ocNx kVNx dcNx pmNx cdNx ctNx : Value}
    {fPa : Addr} {odPa anPa : Option Addr} {slPa : Array (Option Value)} {ocPa kVPa dcPa pmPa cdPa ctPa : Value}
    {fSz : Addr} {odSz anSz : Option Addr} {slSz : Array (Option Value)} {ocSz kVSz dcSz pmSz cdSz ctSz : Value}
    {fDp : Addr} {odDp anDp : Option Addr} {slDp : Array (Option Value)} {ocDp kVDp dcDp pmDp cdDp ctDp : Value}
    {fPl : Addr} {odPl anPl : Option Addr} {slPl : Array (Option Value)} {ocPl kVPl dcPl pmPl cdPl ctPl : Value}
    {fDr : Addr} {odDr anDr : Option Addr} {slDr : Array (Option Value)} {ocDr kVDr dcDr pmDr cdDr ctDr : Value}
    {fPi : Addr} {odPi anPi : Option Addr} {slPi : Array (Option Value)} {ocPi kVPi dcPi pmPi cdPi ctPi : Value}
    {fCh : Addr} {odCh anCh : Option Addr} {slCh : Array (Option Value)} {ocCh kVCh dcCh pmCh cdCh ctCh : Value}
    {fRw : Addr} {odRw anRw : Option Addr} {slRw : Array (Option Value)} {ocRw kVRw dcRw pmRw cdRw ctRw : Value}
    {fLa : Addr} {odLa anLa : Option Addr} {slLa : Array (Option Value)} {ocLa kVLa dcLa pmLa cdLa ctLa : Value}
    {t_LONGEST_NAME : Tok}
    {t_MOST_ARGUMENTS : Tok}
    {t_MOST_DEEP : Tok}
    {t_MOST_PARTS : Tok}
    (aWh : PySem.W.nsIn K mainGlobals "is_whole" = some (some (.ref fWh))) (lWh : K.lookup fWh = some ⟨ocWh, odWh, .func (PySem.W.fnOf "is_whole" "is_whole" (defArgs sWhole) (defBody sWhole) (defScope sWhole) .none kVWh dcWh pmWh anWh cdWh ctWh), slWh⟩) (cWh : PySem.W.codeIn K cdWh "is_whole" = true) (kWh : PySem.W.keepIn K (.ref fWh) = true)
    (aVa : PySem.W.nsIn K mainGlobals "is_value" = some (some (.ref fVa))) (lVa : K.lookup fVa = some ⟨ocVa, odVa, .func (PySem.W.fnOf "is_value" "is_value" (defArgs sValue) (defBody sValue) (defScope sValue) .none kVVa dcVa pmVa anVa cdVa ctVa), slVa⟩) (cVa : PySem.W.codeIn K cdVa "is_value" = true) (kVa : PySem.W.keepIn K (.ref fVa) = true)
    (aNa : PySem.W.nsIn K mainGlobals "is_name" = some (some (.ref fNa))) (lNa : K.lookup fNa = some ⟨ocNa, odNa, .func (PySem.W.fnOf "is_name" "is_name" (defArgs sName) (defBody sName) (defScope sName) .none kVNa dcNa pmNa anNa cdNa ctNa), slNa⟩) (cNa : PySem.W.codeIn K cdNa "is_name" = true) (kNa : PySem.W.keepIn K (.ref fNa) = true)
    (aTe : PySem.W.nsIn K mainGlobals "is_term" = some (some (.ref fTe))) (lTe : K.lookup fTe = some ⟨ocTe, odTe, .func (PySem.W.fnOf "is_term" "is_term" (defArgs sTerm) (defBody sTerm) (defScope sTerm) .none kVTe dcTe pmTe anTe cdTe ctTe), slTe⟩) (cTe : PySem.W.codeIn K cdTe "is_term" = true) (kTe : PySem.W.keepIn K (.ref fTe) = true)
    (aHa : PySem.W.nsIn K mainGlobals "_has_form" = some (some (.ref fHa))) (lHa : K.lookup fHa = some ⟨ocHa, odHa, .func (PySem.W.fnOf "_has_form" "_has_form" (defArgs sHas) (defBody sHas) (defScope sHas) .none kVHa dcHa pmHa anHa cdHa ctHa), slHa⟩) (cHa : PySem.W.codeIn K cdHa "_has_form" = true) (kHa : PySem.W.keepIn K (.ref fHa) = true)
    (aCf : PySem.W.nsIn K mainGlobals "_has_call_form" = some (some (.ref fCf))) (lCf : K.lookup fCf = some ⟨ocCf, odCf, .func (PySem.W.fnOf "_has_call_form" "_has_call_form" (defArgs sCallForm) (defBody sCallForm) (defScope sCallForm) .none kVCf dcCf pmCf anCf cdCf ctCf), slCf⟩) (cCf : PySem.W.codeIn K cdCf "_has_call_form" = true) (kCf : PySem.W.keepIn K (.ref fCf) = true)
    (aIn : PySem.W.nsIn K mainGlobals "inner_terms" = some (some (.ref fIn))) (lIn : K.lookup fIn = some ⟨ocIn, odIn, .func (PySem.W.fnOf "inner_terms" "inner_terms" (defArgs sInner) (defBody sInner) (defScope sInner) .none kVIn dcIn pmIn anIn cdIn ctIn), slIn⟩) (cIn : PySem.W.codeIn K cdIn "inner_terms" = true) (kIn : PySem.W.keepIn K (.ref fIn) = true)
    (aNx : PySem.W.nsIn K mainGlobals "_next_level" = some (some (.ref fNx))) (lNx : K.lookup fNx = some ⟨ocNx, odNx, .func (PySem.W.fnOf "_next_level" "_next_level" (defArgs sNext) (defBody sNext) (defScope sNext) .none kVNx dcNx pmNx anNx cdNx ctNx), slNx⟩) (cNx : PySem.W.codeIn K cdNx "_next_level" = true) (kNx : PySem.W.keepIn K (.ref fNx) = true)
    (aPa : PySem.W.nsIn K mainGlobals "all_parts" = some (some (.ref fPa))) (lPa : K.lookup fPa = some ⟨ocPa, odPa, .func (PySem.W.fnOf "all_parts" "all_parts" (defArgs sParts) (defBody sParts) (defScope sParts) .none kVPa dcPa pmPa anPa cdPa ctPa), slPa⟩) (cPa : PySem.W.codeIn K cdPa "all_parts" = true) (kPa : PySem.W.keepIn K (.ref fPa) = true)
    (aSz : PySem.W.nsIn K mainGlobals "term_size" = some (some (.ref fSz))) (lSz : K.lookup fSz = some ⟨ocSz, odSz, .func (PySem.W.fnOf "term_size" "term_size" (defArgs sSize) (defBody sSize) (defScope sSize) .none kVSz dcSz pmSz anSz cdSz ctSz), slSz⟩) (cSz : PySem.W.codeIn K cdSz "term_size" = true) (kSz : PySem.W.keepIn K (.ref fSz) = true)
    (aDp : PySem.W.nsIn K mainGlobals "term_depth" = some (some (.ref fDp))) (lDp : K.lookup fDp = some ⟨ocDp, odDp, .func (PySem.W.fnOf "term_depth" "term_depth" (defArgs sDepth) (defBody sDepth) (defScope sDepth) .none kVDp dcDp pmDp anDp cdDp ctDp), slDp⟩) (cDp : PySem.W.codeIn K cdDp "term_depth" = true) (kDp : PySem.W.keepIn K (.ref fDp) = true)
    (aPl : PySem.W.nsIn K mainGlobals "_law_pool" = some (some (.ref fPl))) (lPl : K.lookup fPl = some ⟨ocPl, odPl, .func (PySem.W.fnOf "_law_pool" "_law_pool" (defArgs sPool) (defBody sPool) (defScope sPool) .none kVPl dcPl pmPl anPl cdPl ctPl), slPl⟩) (cPl : PySem.W.codeIn K cdPl "_law_pool" = true) (kPl : PySem.W.keepIn K (.ref fPl) = true)
    (aDr : PySem.W.nsIn K mainGlobals "_law_draw" = some (some (.ref fDr))) (lDr : K.lookup fDr = some ⟨ocDr, odDr, .func (PySem.W.fnOf "_law_draw" "_law_draw" (defArgs sDraw) (defBody sDraw) (defScope sDraw) .none kVDr dcDr pmDr anDr cdDr ctDr), slDr⟩) (cDr : PySem.W.codeIn K cdDr "_law_draw" = true) (kDr : PySem.W.keepIn K (.ref fDr) = true)
    (aPi : PySem.W.nsIn K mainGlobals "_law_pick" = some (some (.ref fPi))) (lPi : K.lookup fPi = some ⟨ocPi, odPi, .func (PySem.W.fnOf "_law_pick" "_law_pick" (defArgs sPick) (defBody sPick) (defScope sPick) .none kVPi dcPi pmPi anPi cdPi ctPi), slPi⟩) (cPi : PySem.W.codeIn K cdPi "_law_pick" = true) (kPi : PySem.W.keepIn K (.ref fPi) = true)
    (aCh : PySem.W.nsIn K mainGlobals "_law_chain" = some (some (.ref fCh))) (lCh : K.lookup fCh = some ⟨ocCh, odCh, .func (PySem.W.fnOf "_law_chain" "_law_chain" (defArgs sChain) (defBody sChain) (defScope sChain) .none kVCh dcCh pmCh anCh cdCh ctCh), slCh⟩) (cCh : PySem.W.codeIn K cdCh "_law_chain" = true) (kCh : PySem.W.keepIn K (.ref fCh) = true)
    (aRw : PySem.W.nsIn K mainGlobals "_law_row" = some (some (.ref fRw))) (lRw : K.lookup fRw = some ⟨ocRw, odRw, .func (PySem.W.fnOf "_law_row" "_law_row" (defArgs sRow) (defBody sRow) (defScope sRow) .none kVRw dcRw pmRw anRw cdRw ctRw), slRw⟩) (cRw : PySem.W.codeIn K cdRw "_law_row" = true) (kRw : PySem.W.keepIn K (.ref fRw) = true)
    (aLa : PySem.W.nsIn K mainGlobals "law" = some (some (.ref fLa))) (lLa : K.lookup fLa = some ⟨ocLa, odLa, .func (PySem.W.fnOf "law" "law" (defArgs sLaw) (defBody sLaw) (defScope sLaw) .none kVLa dcLa pmLa anLa cdLa ctLa), slLa⟩) (cLa : PySem.W.codeIn K cdLa "law" = true) (kLa : PySem.W.keepIn K (.ref fLa) = true)
    (z_abs : PySem.W.nsIn K mainGlobals "abs" = some none)
    (z_int : PySem.W.nsIn K mainGlobals "int" = some none)
    (z_len : PySem.W.nsIn K mainGlobals "len" = some none)
    (z_sum : PySem.W.nsIn K mainGlobals "sum" = some none)
    (z_max : PySem.W.nsIn K mainGlobals "max" = some none)
    (z_min : PySem.W.nsIn K mainGlobals "min" = some none)
    (z_range : PySem.W.nsIn K mainGlobals "range" = some none)
    (z_isinstance : PySem.W.nsIn K mainGlobals "isinstance" = some none)
    (z_bool : PySem.W.nsIn K mainGlobals "bool" = some none)
    (z_str : PySem.W.nsIn K mainGlobals "str" = some none)
    (z_tuple : PySem.W.nsIn K mainGlobals "tuple" = some none)
    (z_list : PySem.W.nsIn K mainGlobals "list" = some none)
    (z_dict : PySem.W.nsIn K mainGlobals "dict" = some none)
    (z_all : PySem.W.nsIn K mainGlobals "all" = some none)
    (z_sorted : PySem.W.nsIn K mainGlobals "sorted" = some none)
    (z_repr : PySem.W.nsIn K mainGlobals "repr" = some none)
    (z_zip : PySem.W.nsIn K mainGlobals "zip" = some none)
    (i_LONGEST_NAME : PySem.W.nsIn K mainGlobals "LONGEST_NAME" = some (some (.int 8 t_LONGEST_NAME)))
    (i_MOST_ARGUMENTS : PySem.W.nsIn K mainGlobals "MOST_ARGUMENTS" = some (some (.int 2 t_MOST_ARGUMENTS)))
    (i_MOST_DEEP : PySem.W.nsIn K mainGlobals "MOST_DEEP" = some (some (.int 8 t_MOST_DEEP)))
    (i_MOST_PARTS : PySem.W.nsIn K mainGlobals "MOST_PARTS" = some (some (.int 30 t_MOST_PARTS)))
    {aV : Addr} {ddV : Option Addr} {itsV : Array Value} {nV : Nat} {slV : Array (Option Value)} (vV : PySem.W.nsIn K mainGlobals "VALUES" = some (some (.ref aV))) (lV : K.lookup aV = some ⟨.type "tuple", ddV, .seq itsV nV, slV⟩) (rV : Vals [.int 0, .int 1, .int 2] itsV.toList) (sV : itsV.size ≤ sizeLine)
    {aL : Addr} {esL : Array DictEntry} {nL : Nat} (vL : PySem.W.nsIn K mainGlobals "LENGTHS" = some (some (.ref aL))) (lL : K.lookup aL = some ⟨.type "dict", none, .dict esL nL, #[]⟩) (kL : PySem.W.KeysLit w.params esL.toList) (yL : (aL == sysModules) = false) (eL : ∀ z : Str, Lens (esL.toList.find? (·.key.isStr z)) (lenOf z)) (oL : esL.toList.any (·.refKey) = false)
 :
    ∃ fd : FuncData, (∀ (s : Shared) (v : Value), BindsTo s fd ⟨[v], []⟩ [("_law_script", v)]) ∧ ∀ base : Heap, K.In base → base.Ns mainGlobals mg → FnOk l.prog w K mg base CX0 7 fa fd ["_law_script"] (spLaw K) := by
  have e := hfa.symm.trans (PySem.W.mg_of X G aLa)
  cases e
  have FWh := fun_mk (st := sWhole) lWh cWh kWh
  have bWh := FWh.binds (ps := ["value"]) fun _ _ _ _ _ _ us hl => match us, hl with | [_], _ => rfl
  have FVa := fun_mk (st := sValue) lVa cVa kVa
  have bVa := FVa.binds (ps := ["value"]) fun _ _ _ _ _ _ us hl => match us, hl with | [_], _ => rfl
  have FNa := fun_mk (st := sName) lNa cNa kNa
  have bNa := FNa.binds (ps := ["value"]) fun _ _ _ _ _ _ us hl => match us, hl with | [_], _ => rfl
  have FTe := fun_mk (st := sTerm) lTe cTe kTe
  have bTe := FTe.binds (ps := ["value", "arguments"]) fun _ _ _ _ _ _ us hl => match us, hl with | [_, _], _ => rfl
  have FHa := fun_mk (st := sHas) lHa cHa kHa
  have bHa := FHa.binds (ps := ["part", "arguments"]) fun _ _ _ _ _ _ us hl => match us, hl with | [_, _], _ => rfl
  have FCf := fun_mk (st := sCallForm) lCf cCf kCf
  have bCf := FCf.binds (ps := ["terms"]) fun _ _ _ _ _ _ us hl => match us, hl with | [_], _ => rfl
  have FIn := fun_mk (st := sInner) lIn cIn kIn
  have bIn := FIn.binds (ps := ["term"]) fun _ _ _ _ _ _ us hl => match us, hl with | [_], _ => rfl
  have FNx := fun_mk (st := sNext) lNx cNx kNx
  have bNx := FNx.binds (ps := ["level"]) fun _ _ _ _ _ _ us hl => match us, hl with | [_], _ => rfl
  have FPa := fun_mk (st := sParts) lPa cPa kPa
  have bPa := FPa.binds (ps := ["term"]) fun _ _ _ _ _ _ us hl => match us, hl with | [_], _ => rfl
  have FSz := fun_mk (st := sSize) lSz cSz kSz
  have bSz := FSz.binds (ps := ["term"]) fun _ _ _ _ _ _ us hl => match us, hl with | [_], _ => rfl
  have FDp := fun_mk (st := sDepth) lDp cDp kDp
  have bDp := FDp.binds (ps := ["term"]) fun _ _ _ _ _ _ us hl => match us, hl with | [_], _ => rfl
  have FPl := fun_mk (st := sPool) lPl cPl kPl
  have bPl := FPl.binds (ps := ["_law_script", "_law_k"]) fun _ _ _ _ _ _ us hl => match us, hl with | [_, _], _ => rfl
  have FDr := fun_mk (st := sDraw) lDr cDr kDr
  have bDr := FDr.binds (ps := ["_law_pool_here", "_law_many"]) fun _ _ _ _ _ _ us hl => match us, hl with | [_, _], _ => rfl
  have FPi := fun_mk (st := sPick) lPi cPi kPi
  have bPi := FPi.binds (ps := ["_law_pool_here", "_law_row_here"]) fun _ _ _ _ _ _ us hl => match us, hl with | [_, _], _ => rfl
  have FCh := fun_mk (st := sChain) lCh cCh kCh
  have bCh := FCh.binds (ps := ["_law_pool_here", "_law_many"]) fun _ _ _ _ _ _ us hl => match us, hl with | [_, _], _ => rfl
  have FRw := fun_mk (st := sRow) lRw cRw kRw
  have bRw := FRw.binds (ps := ["_law_terms"]) fun _ _ _ _ _ _ us hl => match us, hl with | [_], _ => rfl
  have FLa := fun_mk (st := sLaw) lLa cLa kLa
  have M : Blt mg := ⟨PySem.W.mg_none_of X G z_abs, PySem.W.mg_none_of X G z_int, PySem.W.mg_none_of X G z_len, PySem.W.mg_none_of X G z_sum, PySem.W.mg_none_of X G z_max, PySem.W.mg_none_of X G z_min, PySem.W.mg_none_of X G z_range, PySem.W.mg_none_of X G z_isinstance, PySem.W.mg_none_of X G z_bool, PySem.W.mg_none_of X G z_str, PySem.W.mg_none_of X G z_tuple, PySem.W.mg_none_of X G z_list, PySem.W.mg_none_of X G z_dict, PySem.W.mg_none_of X G z_all, PySem.W.mg_none_of X G z_sorted, PySem.W.mg_none_of X G z_repr, PySem.W.mg_none_of X G z_zip⟩
  have TC : CellsTxt K mg := ⟨⟨aV, PySem.W.mg_of X G vV, fun H => .inr ⟨_, itsV, nV, lV, rfl, rfl, sV, rV⟩⟩, ⟨_, PySem.W.mg_of X G i_LONGEST_NAME⟩⟩
  have TT : TermsTxt K w mg := ⟨⟨aL, esL, nL, PySem.W.mg_of X G vL, ⟨lL, kL, yL⟩, fun z => lens_in lL (eL z) oL⟩, ⟨_, PySem.W.mg_of X G i_MOST_ARGUMENTS⟩, ⟨_, PySem.W.mg_of X G i_MOST_DEEP⟩, ⟨_, PySem.W.mg_of X G i_MOST_PARTS⟩⟩
  have CF : CellFns K mg fWh fVa fNa _ _ _ := ⟨FWh, FVa, FNa, bWh, bVa, bNa, PySem.W.mg_of X G aWh, PySem.W.mg_of X G aVa, PySem.W.mg_of X G aNa⟩
  have LF : LawFns K mg fPl fDr fCh fRw fTe fSz fDp _ _ _ _ _ _ _ := ⟨FPl, FDr, FCh, FRw, FTe, FSz, FDp, bPl, bDr, bCh, bRw, bTe, bSz, bDp, PySem.W.mg_of X G aPl, PySem.W.mg_of X G aDr, PySem.W.mg_of X G aCh, PySem.W.mg_of X G aRw, PySem.W.mg_of X G aTe, PySem.W.mg_of X G aSz, PySem.W.mg_of X G aDp⟩
  exact ⟨PySem.W.fnOf "law" "law" (defArgs sLaw) (defBody sLaw) (defScope sLaw) .none kVLa dcLa pmLa anLa cdLa ctLa, fun s v => .of_eq rfl, fun base _ _ => by
    have GI := ok_inner (P := l.prog) (w := w) (base := base) FIn M TC CF
    have GX := ok_next (P := l.prog) (w := w) (base := base) FNx GI FIn bIn (PySem.W.mg_of X G aIn)
    have GH := ok_has (P := l.prog) (w := w) (base := base) FHa M TC TT CF FCf bCf (PySem.W.mg_of X G aCf)
    exact ok_law FLa M LF (ok_pool FPl M) (ok_draw FDr M) (ok_chain FCh M FDr bDr (PySem.W.mg_of X G aDr) FPi bPi (PySem.W.mg_of X G aPi)) (ok_row FRw M) (ok_term FTe M TT GH FHa bHa (PySem.W.mg_of X G aHa) GX FNx bNx (PySem.W.mg_of X G aNx))
      (ok_size FSz M (ok_parts FPa GX FNx bNx (PySem.W.mg_of X G aNx)) FPa bPa (PySem.W.mg_of X G aPa)) (ok_depth FDp GX FNx bNx (PySem.W.mg_of X G aNx))⟩
end Sc
open PySem PySem.W PyProof.Rows
set_option maxHeartbeats 0 in
theorem PySem.Challenge.cw_steadycalls_k04_terms_at_the_bounds_holds : PySem.Challenge.rw_steadycalls_k04_terms_at_the_bounds.Holds := by
  w_on; o_law; k_head; (case hw => w_witness2)
  k_fill
  refine L2.walk_of (l := PySem.Challenge.rw_steadycalls_k04_terms_at_the_bounds) (n := 63) (k := 7) (x := "_law_script") (CX := fun _ => L2.CX0) (sp := fun w => Sc.spLaw _) rfl (by decide) rfl ⟨rfl, by decide, by decide⟩ (fun w h Y => PySem.W.kIn_of Y) ?F (fun _ _ a ns hl _ hS => ⟨a, ns, rfl, hS, hl, fun _ => rfl⟩) (fun _ _ _ _ _ h => h)
  case F =>
    intro w mg fa h KX G hmg
    refine' Sc.all_mk KX G hmg ?aWh ?lWh ?cWh ?kWh ?aVa ?lVa ?cVa ?kVa ?aNa ?lNa ?cNa ?kNa ?aTe ?lTe ?cTe ?kTe ?aHa ?lHa ?cHa ?kHa ?aCf ?lCf ?cCf ?kCf ?aIn ?lIn ?cIn ?kIn ?aNx ?lNx ?cNx ?kNx ?aPa ?lPa ?cPa ?kPa ?aSz ?lSz ?cSz ?kSz ?aDp ?lDp ?cDp ?kDp ?aPl ?lPl ?cPl ?kPl ?aDr ?lDr ?cDr ?kDr ?aPi ?lPi ?cPi ?kPi ?aCh ?lCh ?cCh ?kCh ?aRw ?lRw ?cRw ?kRw ?aLa ?lLa ?cLa ?kLa ?z_abs ?z_int ?z_len ?z_sum ?z_max ?z_min ?z_range ?z_isinstance ?z_bool ?z_str ?z_tuple ?z_list ?z_dict ?z_all ?z_sorted ?z_repr ?z_zip ?i_LONGEST_NAME ?i_MOST_ARGUMENTS ?i_MOST_DEEP ?i_MOST_PARTS ?vV ?lV ?rV ?sV ?vL ?lL ?kL ?yL ?eL ?oL
    (case aWh => k_is); (case lWh => k_is); (case cWh => k_is); (case kWh => k_is); (case aVa => k_is); (case lVa => k_is)
    (case cVa => k_is); (case kVa => k_is); (case aNa => k_is); (case lNa => k_is); (case cNa => k_is); (case kNa => k_is)
    (case aTe => k_is); (case lTe => k_is); (case cTe => k_is); (case kTe => k_is); (case aHa => k_is); (case lHa => k_is)
    (case cHa => k_is); (case kHa => k_is); (case aCf => k_is); (case lCf => k_is); (case cCf => k_is); (case kCf => k_is)
    (case aIn => k_is); (case lIn => k_is); (case cIn => k_is); (case kIn => k_is); (case aNx => k_is); (case lNx => k_is)
    (case cNx => k_is); (case kNx => k_is); (case aPa => k_is); (case lPa => k_is); (case cPa => k_is); (case kPa => k_is)
    (case aSz => k_is); (case lSz => k_is); (case cSz => k_is); (case kSz => k_is); (case aDp => k_is); (case lDp => k_is)
    (case cDp => k_is); (case kDp => k_is); (case aPl => k_is); (case lPl => k_is); (case cPl => k_is); (case kPl => k_is)
    (case aDr => k_is); (case lDr => k_is); (case cDr => k_is); (case kDr => k_is); (case aPi => k_is); (case lPi => k_is)
    (case cPi => k_is); (case kPi => k_is); (case aCh => k_is); (case lCh => k_is); (case cCh => k_is); (case kCh => k_is)
    (case aRw => k_is); (case lRw => k_is); (case cRw => k_is); (case kRw => k_is); (case aLa => k_is); (case lLa => k_is)
    (case cLa => k_is); (case kLa => k_is); (case z_abs => k_is); (case z_int => k_is); (case z_len => k_is); (case z_sum => k_is)
    (case z_max => k_is); (case z_min => k_is); (case z_range => k_is); (case z_isinstance => k_is); (case z_bool => k_is); (case z_str => k_is)
    (case z_tuple => k_is); (case z_list => k_is); (case z_dict => k_is); (case z_all => k_is); (case z_sorted => k_is); (case z_repr => k_is)
    (case z_zip => k_is); (case i_LONGEST_NAME => k_is); (case i_MOST_ARGUMENTS => k_is); (case i_MOST_DEEP => k_is); (case i_MOST_PARTS => k_is)
    case vV => k_is
    case lV => k_is
    case rV => exact .cons ⟨_, rfl⟩ (.cons ⟨_, rfl⟩ (.cons ⟨_, rfl⟩ .nil))
    case sV => decide +kernel
    case vL => k_is
    case lL => k_is
    case kL => first | k_is | exact ⟨⟨_, _, rfl, rfl⟩, ⟨_, _, rfl, rfl⟩, ⟨_, _, rfl, rfl⟩, ⟨_, _, rfl, rfl⟩, ⟨_, _, rfl, rfl⟩, trivial⟩
    case yL => first | rfl | decide +kernel
    case eL => exact fun z => Sc.lens_five z _ _ _ _ _ rfl rfl rfl rfl rfl ⟨_, rfl⟩ ⟨_, rfl⟩ ⟨_, rfl⟩ ⟨_, rfl⟩ ⟨_, rfl⟩
    case oL => first | rfl | decide +kernel


