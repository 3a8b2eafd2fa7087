import PyProof.Rows.All
import Wide.All
import OpenK.AllK
import Wide.FinOn
import HandS.ForMost
import PySem.Challenge.RW_coveredcells_k17_errors_made
import HandS.ExcInit
import HandS.ExcField
import HandS.ClsMeth
import HandS.Defaults
import HandS.FStr
import HandS.MakeKw
import KE.KExcIs
import PyProof.FactsAll.bool_1
import HandS.MakeKwOnly
import HandS.IsInst
import HandS.More
set_option Elab.async false
set_option maxRecDepth 100000
/-! The drawing part of the laws: the source of draws, the draws, a picked item, a subset. -/
namespace CC
open PySem L2
set_option linter.unusedVariables false
def top (i : Nat) : Stmt := PySem.Challenge.pw_coveredcells_k17_errors_made.main.body.getD i (.Pass ⟨0, 0, 0, 0⟩)
abbrev sSource : Stmt := top 18
abbrev sDraw : Stmt := top 19
abbrev sPick : Stmt := top 20
/-- all that stood stands, but perhaps what stands at p -/
def Grow (p : Addr) (H H' : Hp) : Prop := ∀ b o, H b = some o → b ≠ p → H' b = some o
theorem Grow.rfl' {p : Addr} {H : Hp} : Grow p H H := fun _ _ e _ => e
theorem Grow.trans {p : Addr} {H H1 H2 : Hp} (a : Grow p H H1) (b : Grow p H1 H2) : Grow p H H2 := fun q o e n => b q o (a q o e n) n
theorem Grow.new {p q : Addr} {o : HO} {H : Hp} (h : H q = none) : Grow p H (upd H q o) := fun b u e _ => by
  rw [upd_ne (ne_of_none e h)]
  exact e
theorem Grow.at_ {p : Addr} {o : HO} {H : Hp} : Grow p H (upd H p o) := fun b u e n => by
  rw [upd_ne n]
  exact e
theorem Grow.put {p q : Addr} {o : HO} {H H1 : Hp} (g : Grow p H H1) (h : H q = none) : Grow p H (upd H1 q o) := fun b u e n => by
  rw [upd_ne (ne_of_none e h)]
  exact g b u e n
theorem small {n : Nat} (h : n < 1000000) : n < sizeLine := by
  rw [PySem.sizeLine_eq]
  omega
/-- the source of draws at p: its three numbers; at most n draws have been done -/
def Src (p : Addr) (n : Nat) (H : Hp) : Prop := ∃ g s c : Int, H p = some (.lst [.int g, .int s, .int c]) ∧ 0 ≤ s ∧ s < 2147483647 ∧ 0 ≤ c ∧ c ≤ (n : Int)
theorem Src.le {p : Addr} {n m : Nat} {H : Hp} (h : Src p n H) (e : n ≤ m) : Src p m H := by
  obtain ⟨g, s, c, a, b, d, f, z⟩ := h
  exact ⟨g, s, c, a, b, d, f, by omega⟩
theorem Src.new {p q : Addr} {n : Nat} {o : HO} {H : Hp} (h : Src p n H) (hq : H q = none) : Src p n (upd H q o) := by
  obtain ⟨g, s, c, a, r⟩ := h
  exact ⟨g, s, c, by rw [upd_ne (ne_of_none a hq)]; exact a, r⟩
theorem Src.ne {p q : Addr} {n : Nat} {H : Hp} (h : Src p n H) (hq : H q = none) : p ≠ q := by
  obtain ⟨g, s, c, a, r⟩ := h
  exact ne_of_none a hq
theorem Src.put {p q : Addr} {n : Nat} {o : HO} {H : Hp} (h : Src p n H) (hq : p ≠ q) : Src p n (upd H q o) := by
  obtain ⟨g, s, c, a, r⟩ := h
  exact ⟨g, s, c, by rw [upd_ne hq]; exact a, r⟩
def spSource (K : PySem.W.Frag) : Sp := fun vs H Q _ => ∃ (a : Addr) (ns : List Int), vs = [.ref a] ∧ SqL K H a (ns.map V.int) ∧
  ∀ (p : Addr) (H' : Hp), Same H H' → H p = none → Src p 0 H' → Q (.ref p) H'
def spDraw : Sp := fun vs H Q _ => ∃ (p : Addr) (n : Nat) (m : Int), vs = [.ref p, .int m] ∧ Src p n H ∧ n < 1000000 ∧ 0 < m ∧ m < 1000000 ∧
  ∀ (r : Int) (H' : Hp), 0 ≤ r → r < m → Grow p H H' → Src p (n + 1) H' → Q (.int r) H'
section
variable {P : Program} {w : World} {K : PySem.W.Frag} {mg : Str → Option Value} {base : Heap}
theorem mod_lo (a : Int) : 0 ≤ a.fmod 2147483647 ∧ a.fmod 2147483647 < 2147483647 := ⟨Int.fmod_nonneg_of_pos a (by decide), Int.fmod_lt_of_pos a (by decide)⟩
theorem scSource : FnScope ["_law_script", "_law_great", "_law_seed", "_law_cell"] ["_law_script"] (defScope sSource) := ⟨rfl, rfl, rfl, by decide +kernel, rfl, by decide +kernel, by decide +kernel⟩
theorem ok_source {f : Addr} {fd : FuncData} (F : Fun K "_law_source" "_law_source" sSource f fd) (ti : mg "int" = none) : FnOk P w K mg base CX0 1 f fd ["_law_script"] (spSource K) := by
  refine F.ok scSource (fun vs H Q E h => ?_) (fun cdv A outer s H vs Q E hr h => ?_)
  · obtain ⟨a, ns, rfl, _⟩ := h
    rfl
  · obtain ⟨a, ns, rfl, hS, k⟩ := h
    refine ⟨_, pss_cons (ps_asg (pe_tup (pa_cons pe_int (pa_cons pe_int pa_nil))) (pg_tup (by rfl) (pgs_cons (pg_name (i := 1) scSource.nd rfl (Or.inl rfl)) (pgs_cons (pg_name (i := 2) scSource.nd rfl (Or.inl rfl)) pgs_nil))))
      (pss_cons (ps_for PassesOwn.never rfl (pi_list (pv 0)) (pg_name (i := 3) scSource.nd rfl (Or.inl rfl))
        (pss_cons (ps_if (PW.pt (pw_and (pt_cmpR op_eq (pv 1) pe_int (nomark _)) (pw_and1 (pt_cmpR op_ge (pv 3) (pe_op op_pow pe_int pe_int) (nomark _)))))
          (pss_one (ps_set (i := 1) scSource.nd rfl (Or.inl rfl) (pv 3))) pss_nil)
        (pss_one (ps_set (i := 2) scSource.nd rfl (Or.inl rfl) (pe_op op_modN (pe_callTy call_int1 (by rfl) ti (by decide +kernel) (pa_cons (pe_op op_add (pe_op op_add (pe_op op_mul (pv 2) pe_int) (pv 3)) pe_int) pa_nil)) pe_int)))))
      (pss_one (ps_ret (pe_lst (pa_cons (pv 1) (pa_cons (pv 2) (pa_cons pe_int pa_nil))))))), ?_⟩
    refine ⟨(by show 2 ≤ sizeLine; decide), fun t ht => ?_⟩
    have s1 : Same H (upd H t (.tup [V.int 0, V.int 17])) := fun b o e => by
      rw [upd_ne (ne_of_none e ht)]
      exact e
    refine ⟨t, _, rfl, SqT.of upd_same, rfl, _, _, rfl, _, _, rfl, rfl, ?_⟩
    refine ⟨_, rfl, a, rfl, ⟨_, s1.seq hS⟩, for_list (K := K) (a := a) (xs := ns.map V.int) (fun i σ H2 => ∃ (g z : Int) (v : Option V), σ = [some (.ref a), some (.int g), some (.int z), v] ∧ Same H H2 ∧ 0 ≤ z ∧ z < 2147483647)
      ⟨0, 17, none, rfl, s1, by decide, by decide⟩ (fun i σ H2 _ ⟨_, _, _, _, e, _⟩ => e.seq hS) ?_ ?_⟩
    · rintro i y σ H2 hi ⟨g, z, v, rfl, s2, z0, z1⟩
      obtain ⟨x, rfl⟩ : ∃ x, y = V.int x := by
        rw [List.getElem?_map] at hi
        cases e : ns[i]? with
        | none =>
          rw [e] at hi
          cases hi
        | some x =>
          rw [e] at hi
          exact ⟨x, (Option.some.inj hi).symm⟩
      have md := mod_lo (z * 31 + x + 7)
      -- great == 0 and cell >= 10 ** 18
      refine ⟨_, rfl, rfl, _, rfl, ?_⟩
      refine ite2 (fun _ => ?_) (fun _ => iteF ?_)
      · refine ⟨_, rfl, _, _, rfl, rfl, ⟨by decide, by decide, by decide⟩, _, _, rfl, rfl, _, rfl, ?_⟩
        refine ite2 (fun _ => ?_) (fun _ => ?_)
        · refine ⟨_, rfl, ?_⟩
          exact ⟨_, rfl, _, _, rfl, rfl, Or.inr ⟨by decide, by decide⟩, _, rfl, _, _, rfl, rfl, _, _, rfl, rfl, Or.inl ⟨_, rfl, _, _, rfl, rfl, (by show (2147483647 : Int) ≠ 0; decide), _, _, _, rfl, s2, md.1, md.2⟩⟩
        · exact ⟨_, rfl, _, _, rfl, rfl, Or.inr ⟨by decide, by decide⟩, _, rfl, _, _, rfl, rfl, _, _, rfl, rfl, Or.inl ⟨_, rfl, _, _, rfl, rfl, (by show (2147483647 : Int) ≠ 0; decide), _, _, _, rfl, s2, md.1, md.2⟩⟩
      · exact ⟨_, rfl, _, _, rfl, rfl, Or.inr ⟨by decide, by decide⟩, _, rfl, _, _, rfl, rfl, _, _, rfl, rfl, Or.inl ⟨_, rfl, _, _, rfl, rfl, (by show (2147483647 : Int) ≠ 0; decide), _, _, _, rfl, s2, md.1, md.2⟩⟩
    · rintro σ H2 ⟨g, z, v, rfl, s2, z0, z1⟩
      refine ⟨_, rfl, _, rfl, (by show 3 ≤ sizeLine; decide), fun p hp => ?_⟩
      refine k p _ (fun b o e => ?_) (s2.free hp) ⟨g, z, 0, upd_same, z0, z1, by omega, by omega⟩
      rw [upd_ne (ne_of_none (s2 b o e) hp)]
      exact s2 b o e
theorem at0 {x y z : V} : atI [x, y, z] 0 = some x := rfl
theorem at1 {x y z : V} : atI [x, y, z] 1 = some y := rfl
theorem at2 {x y z : V} : atI [x, y, z] 2 = some z := rfl
theorem md_lo (a : Int) {m : Int} (h : 0 < m) : 0 ≤ a.fmod m ∧ a.fmod m < m := ⟨Int.fmod_nonneg_of_pos a h, Int.fmod_lt_of_pos a h⟩
theorem abs_lt {a : Int} (h : 0 ≤ a) (k : a < 2 ^ 64) : a.natAbs < 2 ^ 64 := by omega
theorem sq_lt {c : Int} (h : 0 ≤ c) (k : c ≤ 1000000) : 0 ≤ 16807 * c * c ∧ 16807 * c * c ≤ 16807000000 * 1000000 := by
  have h1 : 16807 * c ≤ 16807000000 := by omega
  have h0 : 0 ≤ 16807 * c := by omega
  exact ⟨Int.mul_nonneg h0 h, Int.mul_le_mul h1 k h (by decide)⟩
theorem scDraw : FnScope ["_law_source_here", "_law_many", "_law_digit", "_law_mixed"] ["_law_source_here", "_law_many"] (defScope sDraw) := ⟨rfl, rfl, rfl, by decide +kernel, rfl, by decide +kernel, by decide +kernel⟩
theorem ok_draw {f : Addr} {fd : FuncData} (F : Fun K "_law_draw" "_law_draw" sDraw f fd) (ti : mg "int" = none) : FnOk P w K mg base CX0 1 f fd ["_law_source_here", "_law_many"] spDraw := by
  refine F.ok scDraw (fun vs H Q E h => ?_) (fun cdv A outer s H vs Q E hr h => ?_)
  · obtain ⟨p, n, m, rfl, _⟩ := h
    rfl
  · obtain ⟨p, n, m, rfl, ⟨g, z, c, hp, z0, z1, c0, c1⟩, hn, m0, m1, k⟩ := h
    refine ⟨_, pss_cons (ps_asg (pe_op op_add (pe_ix ix_list (pv 0) pe_int (fun _ _ => rfl)) pe_int) (pg_sub (pv 0) pe_int set_list))
      (pss_cons (ps_if (pt_cmpR op_gt (pe_ix ix_list (pv 0) pe_int (fun _ _ => rfl)) pe_int (nomark _))
        (pss_cons (ps_set (i := 2) scDraw.nd rfl (Or.inl rfl) (pe_op op_modN (pe_callTy call_int1 (by rfl) ti (by decide +kernel) (pa_cons (pe_ix ix_list (pv 0) pe_int (fun _ _ => rfl)) pa_nil)) (pv 1)))
        (pss_cons (ps_asg (pe_op op_fdivN (pe_ix ix_list (pv 0) pe_int (fun _ _ => rfl)) (pv 1)) (pg_sub (pv 0) pe_int set_list))
        (pss_one (ps_ret (pv 2))))) pss_nil)
      (pss_cons (ps_set (i := 3) scDraw.nd rfl (Or.inl rfl) (pe_op op_modN (pe_op op_pow (pe_op op_add (pe_ix ix_list (pv 0) pe_int (fun _ _ => rfl)) (pe_op op_mul pe_int (pe_ix ix_list (pv 0) pe_int (fun _ _ => rfl)))) pe_int) pe_int))
      (pss_one (ps_ret (pe_op op_modN (pe_op op_modN (pe_op op_pow (pe_op op_add (pe_op op_add (pe_op op_mul (pv 3) pe_int) (pe_op op_mul (pe_op op_mul pe_int (pe_ix ix_list (pv 0) pe_int (fun _ _ => rfl))) (pe_ix ix_list (pv 0) pe_int (fun _ _ => rfl)))) pe_int) pe_int) pe_int) (pv 1)))))), ?_⟩
    refine ⟨_, rfl, p, _, _, _, rfl, rfl, SqL.of hp, at2, _, _, rfl, rfl, _, rfl, p, _, _, 2, rfl, rfl, hp, rfl, ?_⟩
    have h1 : (upd H p (.lst [V.int g, V.int z, V.int (c + 1)])) p = some (.lst [V.int g, V.int z, V.int (c + 1)]) := upd_same
    refine ⟨_, rfl, p, _, _, _, rfl, rfl, SqL.of h1, at0, _, _, rfl, rfl, _, rfl, ?_⟩
    have mm := md_lo g m0
    refine ite2 (fun _ => ?_) (fun _ => ?_)
    · refine ⟨_, rfl, p, _, _, _, rfl, rfl, SqL.of h1, at0, Or.inl ⟨_, rfl, _, rfl, _, _, rfl, rfl, (by show m ≠ 0; omega), ?_⟩⟩
      refine ⟨_, rfl, p, _, _, _, rfl, rfl, SqL.of h1, at0, _, rfl, _, _, rfl, rfl, ⟨by omega, by omega⟩, _, rfl, p, _, _, 0, rfl, rfl, h1, rfl, ?_⟩
      refine ⟨_, rfl, k _ _ mm.1 mm.2 (Grow.at_.trans Grow.at_) ⟨_, _, _, upd_same, z0, z1, by omega, by omega⟩⟩
    · refine ⟨_, rfl, p, _, _, _, rfl, rfl, SqL.of h1, at1, _, rfl, p, _, _, _, rfl, rfl, SqL.of h1, at2, _, _, rfl, rfl, Or.inl ⟨by decide, by decide⟩, _, _, rfl, rfl, _, _, rfl, rfl, ⟨by decide, by decide, abs_lt (by omega) (by omega)⟩, _, _, rfl, rfl, (by show (2147483629 : Int) ≠ 0; decide), ?_⟩
      have e1 := md_lo ((z + 7919 * (c + 1)) ^ (5 : Int).toNat) (m := 2147483629) (by decide)
      have e2 := sq_lt (c := c + 1) (by omega) (by omega)
      refine ⟨_, rfl, _, _, rfl, rfl, Or.inr ⟨by decide, by decide⟩, _, rfl, p, _, _, _, rfl, rfl, SqL.of h1, at2, _, _, rfl, rfl, Or.inl ⟨by decide, by decide⟩, _, rfl, p, _, _, _, rfl, rfl, SqL.of h1, at2, _, _, rfl, rfl, Or.inl ⟨by omega, by omega⟩, _, _, rfl, rfl, _, _, rfl, rfl, _, _, rfl, rfl, ⟨by decide, by decide, abs_lt (by omega) (by omega)⟩, _, _, rfl, rfl, (by show (1000000007 : Int) ≠ 0; decide), _, rfl, _, _, rfl, rfl, (by show m ≠ 0; omega), ?_⟩
      exact k _ _ (md_lo _ m0).1 (md_lo _ m0).2 Grow.at_ ⟨_, _, _, upd_same, z0, z1, by omega, by omega⟩
/-! ### an item that is picked -/
def spPick (K : PySem.W.Frag) : Sp := fun vs H Q _ => ∃ (p l : Addr) (n : Nat) (xs : List V), vs = [.ref p, .ref l] ∧ Src p n H ∧ n < 1000000 ∧ H l = some (.lst xs) ∧ 0 < xs.length ∧ xs.length < 1000 ∧ p ≠ l ∧
  ∀ (x : V) (H' : Hp), x ∈ xs → Grow p H H' → Src p (n + 1) H' → Q x H'
theorem scPick : FnScope ["_law_source_here", "_law_things"] ["_law_source_here", "_law_things"] (defScope sPick) := ⟨rfl, rfl, rfl, by decide +kernel, rfl, by decide +kernel, by decide +kernel⟩
theorem ok_pick {f fD : Addr} {fd fdD : FuncData} (F : Fun K "_law_pick" "_law_pick" sPick f fd) (GD : FnOk P w K mg base CX0 1 fD fdD ["_law_source_here", "_law_many"] spDraw) (mD : mg "_law_draw" = some (.ref fD)) (kD : PySem.W.keepIn K (.ref fD) = true) (bD : Binds K fdD ["_law_source_here", "_law_many"] []) (tl : mg "len" = none) :
    FnOk P w K mg base CX0 2 f fd ["_law_source_here", "_law_things"] (spPick K) := by
  refine F.ok scPick (fun vs H Q E h => ?_) (fun cdv A outer s H vs Q E hr h => ?_)
  · obtain ⟨p, l, n, xs, rfl, _⟩ := h
    rfl
  · obtain ⟨p, l, n, xs, rfl, hp, hn, hl, l0, l1, npl, k⟩ := h
    refine ⟨_, pss_one (ps_ret (pe_ix ix_list (pv 1) (pe_call GD hr rfl mD kD bD .nil pass0 (pa_cons (pv 0) (pa_cons (pe_callB call_len_seq (by rfl) tl PySem.boot_len (pa_cons (pv 1) pa_nil)) pa_nil))) (fun _ _ => rfl))), ?_⟩
    refine ⟨_, rfl, _, rfl, _, rfl, l, _, rfl, .inl (SqL.of hl), p, n, _, rfl, hp, hn, by omega, by omega, fun r H' r0 r1 gr sr => ?_⟩
    have hl' : H' l = some (.lst xs) := gr l _ hl npl.symm
    obtain ⟨j, rfl⟩ : ∃ j : Nat, r = (j : Int) := ⟨r.toNat, by omega⟩
    have hj : j < xs.length := by omega
    refine ⟨l, _, _, xs[j], rfl, rfl, SqL.of hl', atI_nat (List.getElem?_eq_getElem hj), ?_⟩
    exact k _ _ (List.getElem_mem hj) gr sr
theorem ite_no {b : Bool} {A B : Prop} (e : b = false) (h : B) : if b = true then A else B := by
  rw [e]
  exact iteF h
theorem ite_yes {b : Bool} {A B : Prop} (e : b = true) (h : A) : if b = true then A else B := by
  rw [e]
  exact iteT h
theorem tyes_if {σ : L2.St} {H : Hp} {A B : Hp → Prop} (h : A H) : tYes σ H (fun b H3 => if b = true then A H3 else B H3) := by
  show (if true = true then A H else B H)
  exact iteT h
theorem same_new {H : Hp} {q : Addr} {o : HO} (h : H q = none) : Same H (upd H q o) := fun b u e => by
  rw [upd_ne (ne_of_none e h)]
  exact e
theorem same_put {H H1 : Hp} {q : Addr} {o : HO} (g : Same H H1) (h : H q = none) : Same H (upd H1 q o) := fun b u e => by
  rw [upd_ne (ne_of_none e h)]
  exact g b u e
theorem same_tr {H H1 H2 : Hp} (a : Same H H1) (b : Same H1 H2) : Same H H2 := fun q o e => b q o (a q o e)
theorem not_dec {p : Prop} [Decidable p] (h : p) : (!decide p) = false := by
  rw [decide_eq_true h]
  rfl
theorem ix_tupK {X : Cx} {K : PySem.W.Frag} (e : X.K = K) : IxR X (rIxT K) := e ▸ ix_tup
theorem ix_listK {X : Cx} {K : PySem.W.Frag} (e : X.K = K) : IxR X (rIxL K) := e ▸ ix_list
theorem paired_app {α β : Type} {F : α → β → Prop} : ∀ {l : List α} {m : List β} {l2 : List α} {m2 : List β}, Paired F l m → Paired F l2 m2 → Paired F (l ++ l2) (m ++ m2)
  | _, _, _, _, .nil, h => h
  | _, _, _, _, .cons h t, r => .cons h (paired_app t r)
theorem seq_via {t u : TS} {D : Ends} {σ : L2.St} {H : Hp} (Z : L2.St → Hp → Prop) (h2 : ∀ σ' H', Z σ' H' → u D σ' H') (h1 : ∀ D' : Ends, (∀ σ' H', Z σ' H' → D'.nx σ' H') → t D' σ H) : tSeq t u D σ H := h1 _ h2
end
end CC
set_option Elab.async false
set_option maxRecDepth 100000
namespace CC
open PySem PySem.Spec PyProof.Rows L2
set_option linter.unusedVariables false
/-! ### numbers: a power of any size, abs and str of a bool -/
section
variable {X : Cx}
def CPowB (i j : Int) : Prop := 0 ≤ j ∧ (Builtin.Int.intBits i : Int) * j ≤ 2 ^ 27
theorem op_powB : OpR X (binaryOp .Pow) (rI CPowB fun i j => .int (i ^ j.toNat)) := opI fun _ _ _ _ _ _ _ hc q => pow_int hc.1 hc.2 q
theorem abs_of_bool {prog : Program} {w : World} {A : Around} {E : Value → Shared → Prop} {s : Shared} {b : Bool} {Q : Value → Shared → Prop} (h : ∀ u tk, Q (.int (if b then 1 else 0) u) { s with toks := tk }) :
    wpAny (model prog w) A (call (.builtin "abs") [.bool b]) Q E s := by
  refine Calls.call_function_entry kind_abs plain_abs entry_abs (args_abs _) ?_
  unfold Builtin.«abs»
  refine wpAny_bind (m := oneArg "abs" _) (wpAny_pure ?_)
  refine wpAny_bind (m := callSpecial? (.bool b) (Str.ofString "__abs__")) (wpAny_callSpecial?_slot (name := Str.ofString "__abs__") (PySem.typeIs_bool s b) F.slot_bool_abs
    (wpAny_call_entry F.slot_bool_abs (PySem.typeIs_bool s b) entry_int_abs ?_ (args_int_abs _)))
  cases b with
  | true => exact wpAny_ret_mkInt (wpAny_pure ⟨_, rfl, h _ _⟩)
  | false => exact wpAny_ret_mkInt (wpAny_pure ⟨_, rfl, h _ _⟩)
theorem call_absN : CallR X (.builtin "abs") (fun xs H Q => (∃ i, xs = [.int i] ∧ Q (.int (if i < 0 then -i else i)) H) ∨ ∃ b, xs = [.bl b] ∧ Q (.int (if b then 1 else 0)) H) := by
  intro pins s σ H xs us Q I r h
  rcases h with ⟨i, rfl, q⟩ | ⟨b, rfl, q⟩
  · obtain ⟨u, rfl, t, rfl⟩ := vals1 r
    exact call_abs_int fun u tk => ⟨.int (if i < 0 then -i else i), H, I.tok _, ⟨_, rfl⟩, q⟩
  · obtain ⟨u, rfl, r1⟩ := vals1 r
    cases r1
    exact abs_of_bool fun u tk => ⟨.int (if b then 1 else 0), H, I.tok _, ⟨_, rfl⟩, q⟩
theorem call_strN : CallR X (.type "str") (fun xs H Q => (∃ i, xs = [.int i] ∧ i.natAbs.log2 < 1920 ∧ Q (.str (toString i)) H) ∨ ∃ b, xs = [.bl b] ∧ Q (.str (if b then "True" else "False")) H) := by
  intro pins s σ H xs us Q I r h
  rcases h with ⟨i, rfl, hz, q⟩ | ⟨b, rfl, q⟩
  · obtain ⟨u, rfl, t, rfl⟩ := vals1 r
    exact PySem.P.str_of_int hz ⟨.str _, H, I.tok _, ⟨_, rfl⟩, q⟩
  · obtain ⟨u, rfl, r1⟩ := vals1 r
    cases r1
    exact PySem.P.str_of_bool ⟨.str _, H, I.tok _, ⟨_, rfl⟩, q⟩
end
end CC
set_option Elab.async false
set_option maxRecDepth 100000
namespace PySem
namespace HandSPX
open PySem.W PySem.Calls PyProof.Rows
section
variable {prog : Program} {w : World} {A : Around} {E : Value → Shared → Prop} {R : Result → Shared → Prop} {h : Heap} {g : Array GenState} {d : Drawn} {t : Nat} {os : OsState}
variable {nm q : Str} {C N : Addr} {bs bm bmB : List Value} {hdct : Bool} {sn : List Str} {sub : List Value} {ab : Bool} {col : Option Bool} {dd : Option Addr} {k0 k1 k2 k3 k5 : Option Value} {B newId initId : String}
/-- __new__ of such a class takes any keywords -/
theorem kw_check (F : ExcBaseFacts B newId initId bmB) (hT : ∀ X : String, bm.contains (.type X) = bmB.contains (.type X)) {us : List Value} {kw : List (Str × Value)} {M : Model} {Q : Unit → Shared → Prop}
    (own : h.get? C = some (excClassObj nm q C N bs bm hdct sn sub ab col dd k0 k1 k2 k3 k5 newId)) (end_ : Q () ⟨h, g, d, t, os⟩) : wpAny M A (checkBuiltinCall newId ⟨.ref C :: us, kw⟩) Q E ⟨h, g, d, t, os⟩ := by
  have up : (Value.ref C :: bm).contains (.type B) = true := by
    rw [List.contains_cons, hT, F.hasB]
    exact Bool.or_true _
  have e1 := F.noStar
  simp only [checkBuiltinCall, F.newRow, F.newKind, F.newSplit]
  repeat (first | refine wpAny_staticBase_exc own ?_ | refine wpAny_loadPart_at own ?_ | refine wpAny_madeBy_exc own ?_ | (refine wpAny_isSubtype_exc own ?_; rw [up]) | simp only [Bool.false_eq_true, bne_self_eq_false, if_false] | wp_step)
  first | exact end_ | skip
theorem kw_new (F : ExcBaseFacts B newId initId bmB) (hT : ∀ X : String, bm.contains (.type X) = bmB.contains (.type X)) {us : List Value} {kw : List (Str × Value)}
    (own : h.get? C = some (excClassObj nm q C N bs bm hdct sn sub ab col dd k0 k1 k2 k3 k5 newId))
    (end_ : R (.ok (.ret (.ref (h.objs.size + 1)))) ⟨(h.push (kdv_tup us)).push (excO C h.objs.size), g, d, t, os⟩) (few : us.length ≤ sizeLine) :
    codeAny (model prog w) A (.builtin newId ⟨.ref C :: us, kw⟩) R ⟨h, g, d, t, os⟩ := by
  have e0 := F.ends
  have up : (Value.ref C :: bm).contains (.type B) = true := by
    rw [List.contains_cons, hT, F.hasB]
    exact Bool.or_true _
  have na : (Value.ref C :: bm).contains (.type "AttributeError") = false := by
    rw [List.contains_cons, hT, F.noAttr]
    rfl
  have nn : (Value.ref C :: bm).contains (.type "NameError") = false := by
    rw [List.contains_cons, hT, F.noName]
    rfl
  refine codeAny_builtinAt F.entry ?_
  unfold Builtin.«BaseException.__new__»
  refine wpAt_bind ?_
  show wpAt _ _ _ (stack >>= _) _ _ _
  refine wpAt_bind (wpAt_stack fun x1 x2 => wpAt_of_wpAny ?_)
  wp_walk
  refine wpAt_of_wpAny ?_
  rw [F.owner]
  repeat (first | with_reducible refine wpAny_loadPart_at own ?_ | with_reducible refine wpAny_madeHere_exc F.canon own ?_ | (with_reducible refine wpAny_isSubtype_exc own ?_; first | rw [na] | rw [nn] | rw [up]) | wp_step)
  show R _ _
  rw [Heap.size_push]
  exact end_
theorem kw_type_call (F : ExcBaseFacts B newId initId bmB) (hT : ∀ X : String, bm.contains (.type X) = bmB.contains (.type X)) {us : List Value} {kw : List (Str × Value)} {fI : Addr} {Q : Fin → Shared → Prop}
    (own : h.get? C = some (excClassObj nm q C N bs bm hdct sn sub ab col dd k0 k1 k2 k3 k5 newId))
    (li : W.Looks (model prog w) h (typeLookup (.ref C) "__init__") (some (.ref fI))) (lb : ∀ self, W.Looks (model prog w) h (bindSpecial (.ref fI) self) (.ref fI, [self])) (few : us.length ≤ sizeLine)
    (run : codeAny (model prog w) A (.call (.ref fI) ⟨.ref (h.objs.size + 1) :: us, kw⟩)
      (fun r s' => match r with | .ok (.ret v) => v = .none ∧ Q (.done (.ret (.ref (h.objs.size + 1)))) s' | .ok _ => False | .error e => E e s')
      ⟨(h.push (kdv_tup us)).push (excO C h.objs.size), g, d, t, os⟩) :
    wpAny (model prog w) A (Builtin.«type.__call__» ⟨.ref C :: us, kw⟩) Q E ⟨h, g, d, t, os⟩ := by
  repeat (first | with_reducible refine wpAny_madeBy_exc own ?_ | with_reducible refine wpAny_loadPart_at own ?_ | wp_step)
  refine codeAny_call_builtin_code (Code.quiet_builtin _ F.quiet) (kw_check F hT own ?_)
  refine kw_new F hT own ?_ few
  show wpAny _ _ _ _ _ _
  have on : ∀ b o, h.get? b = some o → ((h.push (kdv_tup us)).push (excO C h.objs.size)).get? b = some o := fun b o e => Heap.get?_push_of_some _ (Heap.get?_push_of_some _ e)
  have own2 := on _ _ own
  have at_ : ((h.push (kdv_tup us)).push (excO C h.objs.size)).get? (h.objs.size + 1) = some (excO C h.objs.size) := by heap_get
  have self_ : (Value.ref C :: bm).contains (.ref C) = true := by simp
  have li2 := li.keeps on
  have lb2 := (lb (.ref (h.objs.size + 1))).keeps on
  unfold isInstance
  repeat (first | with_reducible refine wpAny_loadPart_at at_ ?_ | (with_reducible refine wpAny_isSubtype_exc own2 ?_; rw [self_]) | wp_step)
  show wpAny _ _ (typeLookup (.ref C) _) _ _ _
  refine li2.at ?_
  refine wpAny_holding (wpAny_bind (lb2.at ?_))
  refine wpAny_bind (wpAny_call (codeAny_mono run fun r s' z => ?_))
  rcases r with e | (v | _ | _ | _) <;> first | exact z | exact z.elim | skip
  obtain ⟨rfl, z⟩ := z
  first
    | exact wpAny_pure (wpAny_pure z)
    | (wp_walk; exact z)
theorem kw_check_type {us : List Value} {kw : List (Str × Value)} {M : Model} {Q : Unit → Shared → Prop} (own : h.get? C = some (excClassObj nm q C N bs bm hdct sn sub ab col dd k0 k1 k2 k3 k5 newId))
    (end_ : Q () ⟨h, g, d, t, os⟩) : wpAny M A (checkBuiltinCall "type.__call__" ⟨.ref C :: us, kw⟩) Q E ⟨h, g, d, t, os⟩ := by
  have l2 := tc_sub
  have ty_ : (⟨h, g, d, t, os⟩ : Shared).TypeIs (.ref C) "type" := ⟨_, own, rfl⟩
  simp only [checkBuiltinCall, tc_split, tc_kind]
  repeat (any_goals (first | assumption | with_reducible refine wpAny_map ?_ | with_reducible refine wpAny_loadPart_at own ?_ | with_reducible refine wpAny_onRaise ?_ | wp_step))
theorem kw_own (F : ExcBaseFacts B newId initId bmB) (hT : ∀ X : String, bm.contains (.type X) = bmB.contains (.type X)) {us : List Value} {kw : List (Str × Value)} {fI : Addr}
    (own : h.get? C = some (excClassObj nm q C N bs bm hdct sn sub ab col dd k0 k1 k2 k3 k5 newId))
    (li : W.Looks (model prog w) h (typeLookup (.ref C) "__init__") (some (.ref fI))) (lb : ∀ self, W.Looks (model prog w) h (bindSpecial (.ref fI) self) (.ref fI, [self])) (few : us.length ≤ sizeLine)
    (run : codeAny (model prog w) (A.under (.builtin "type.__call__" ⟨.ref C :: us, kw⟩)) (.call (.ref fI) ⟨.ref (h.objs.size + 1) :: us, kw⟩) (W.InitBack (h.objs.size + 1) R)
      ⟨(h.push (kdv_tup us)).push (excO C h.objs.size), g, d, t, os⟩) :
    codeAny (model prog w) A (.call (.ref C) ⟨us, kw⟩) R ⟨h, g, d, t, os⟩ := by
  have l0 := tc_lookup
  have l1 := tc_bind (.ref C)
  have l2 := tc_sub
  have ty_ : (⟨h, g, d, t, os⟩ : Shared).TypeIs (.ref C) "type" := ⟨_, own, rfl⟩
  refine codeAny_of_tree ?_
  show wpAny _ _ (callAny (.ref C) _) _ _ _
  repeat (any_goals (first | assumption | with_reducible refine wpAny_loadPart_at own ?_ | wp_step))
  refine ⟨rfl, ?_⟩
  refine codeAny_call_builtin_at (Code.quiet_builtin _ (by decide +kernel)) entry_typeCall (kw_check_type own (kw_type_call F hT own li lb few ?_))
  refine codeAny_mono run fun r s' z => ?_
  rcases r with e | (v | _ | _ | _)
  all_goals exact z
end
end HandSPX
end PySem
set_option Elab.async false
set_option maxRecDepth 100000
namespace CC
open PySem PySem.Spec PyProof.Rows L2
set_option linter.unusedVariables false
/-! ### an exception object of an own class with its own __init__, as a value -/
def ExN (H : Hp) (e C : Addr) : Prop := H e = some (exo e C none)
def ExF (H : Hp) (e C : Addr) (f : Str) (x : V) : Prop := ∃ d, H e = some (exo e C (some d)) ∧ H d = some (exd d [(f, x)])
def ExA (H : Hp) (e C : Addr) : Prop := ExN H e C ∨ ∃ f x, ExF H e C f x
theorem ExN.same {H H' : Hp} {e C : Addr} (h : ExN H e C) (s : Same H H') : ExN H' e C := s _ _ h
theorem ExF.same {H H' : Hp} {e C : Addr} {f : Str} {x : V} (h : ExF H e C f x) (s : Same H H') : ExF H' e C f x := by
  obtain ⟨d, a, b⟩ := h
  exact ⟨d, s _ _ a, s _ _ b⟩
theorem ExA.same {H H' : Hp} {e C : Addr} (h : ExA H e C) (s : Same H H') : ExA H' e C := by
  rcases h with h | ⟨f, x, h⟩
  · exact .inl (h.same s)
  · exact .inr ⟨f, x, h.same s⟩
/-- what __init__ is asked, the object being at a -/
def mkAsk (C : Addr) (sp : Sp) (vs : List V) (H : Hp) (Q : VK) : Prop := ∀ a, H a = none → sp (.ref a :: vs) (upd H a (exo a C none)) (fun v H2 => v = .non ∧ Q (.ref a) H2) (fun _ _ _ => False)
def tMkV (C : Addr) (sp : Sp) (dvs : List V) (ta : TA) : TE := fun σ H Q => ta σ H fun vs H1 => vs.length ≤ 1000 ∧ mkAsk C sp (vs ++ dvs) H1 Q
def tMkK (C : Addr) (m : Nat) (sp : Sp) (gV : List V → List V → List V) (tk : TA) : TE := fun σ H Q => tk σ H fun zs H1 => zs.length = m ∧ ∀ a, H1 a = none → sp (gV [.ref a] zs) (upd H1 a (exo a C none)) (fun v H2 => v = .non ∧ Q (.ref a) H2) (fun _ _ _ => False)
section
variable {X : Cx} {CX : CXT} {k : Nat} {C fI : Addr} {fd : FuncData} {ps ks : List Str} {sp : Sp} {x : Str} {p pos : Pos} {e : Expr} {es : List Expr} {kws : List Keyword} {ta tk : TA} {ds : List Value} {dvs : List V} {g : List Value → List Value → List Value} {gV : List V → List V → List V}
structure MkX (X : Cx) (C fI : Addr) : Prop where
  T : OexC X.K C
  init : PySem.W.findIn X.K (.ref C) "__init__" = some (some (.ref fI))
  fn : PySem.W.typeIn X.K (.ref fI) = some (.type "function")
theorem run_oex {pins : List (Addr × Obj)} {σ : L2.St} {H : Hp} {s : Shared} {Q : VK} {us : List Value} {kw : List (Str × Value)} {vs : Addr → List V} {uu : Addr → List Value} (M : MkX X C fI) (F : FnOk X.prog X.w X.K X.mg X.base CX k fI fd ps sp) (hr : Room (k + 1) X.A)
    (few : us.length ≤ sizeLine) (hb : ∀ a s', X.K.In s'.heap → BindsTo s' fd ⟨.ref a :: us, kw⟩ (ps.zip (uu a))) (r : ∀ a, Vals (vs a) (uu a)) (hx : Passes CX X (fun _ _ _ => False)) (I : Inv X pins σ H s)
    (h : ∀ a, H a = none → sp (vs a) (upd H a (exo a C none)) (fun v H2 => v = .non ∧ Q (.ref a) H2) (fun _ _ _ => False)) :
    wpAny (model X.prog X.w) X.A (call (.ref C) us kw) (EP X pins σ Q) X.xe s := by
  obtain ⟨nm, q, N, bs, bm, sn, sub, ab, col, dd, k0, k1, k2, k3, k5, cC, low⟩ := M.T.cls
  obtain ⟨hp, gs, dr, tk, os⟩ := s
  have n1 : hp.objs.size ≤ hp.objs.size + 1 := Nat.le_succ _
  have n2 : H (hp.objs.size + 1) = none := I.hok.fresh n1
  have hq := h (hp.objs.size + 1) n2
  have on : ∀ b o, hp.get? b = some o → ((hp.push (PySem.W.kdv_tup us)).push (PySem.HandSPX.excO C hp.objs.size)).get? b = some o := fun b o e => Heap.get?_push_of_some _ (Heap.get?_push_of_some _ e)
  have at_ : ((hp.push (PySem.W.kdv_tup us)).push (PySem.HandSPX.excO C hp.objs.size)).get? (hp.objs.size + 1) = some (PySem.HandSPX.excO C hp.objs.size) := by heap_get
  have J : Inv X pins σ (upd H (hp.objs.size + 1) (exo (hp.objs.size + 1) C none)) ⟨(hp.push (PySem.W.kdv_tup us)).push (PySem.HandSPX.excO C hp.objs.size), gs, dr, tk, os⟩ :=
    I.laid (t' := tk) (a := hp.objs.size + 1) (o := exo (hp.objs.size + 1) C none) (h' := (hp.push (PySem.W.kdv_tup us)).push (PySem.HandSPX.excO C hp.objs.size)) on n1 (exo_ok at_)
  refine wpAny_call (PySem.HandSPX.kw_own PySem.F.excBase_ValueError (fun Y => PySem.HandSPX.refsVE_contains Y bm low) (I.kIn _ _ cC) (PySem.W.looks_findIn I.kIn M.init) (fun self => PySem.W.bind_fn I.kIn self M.fn) few
    (codeAny_mono (F.run _ X.stack _ _ ⟨Value.ref (hp.objs.size + 1) :: us, kw⟩ (uu (hp.objs.size + 1)) _ _ (fun _ _ _ => False) (hr.make C us kw) (J.env0.make C us kw) (hb _ _ J.kIn) (r _) hq) fun res s' z => ?_))
  cases res with
  | error er => exact hx pins σ _ _ er s' J z
  | ok fl =>
    cases fl with
    | ret u =>
      obtain ⟨v, H', J3, rv, ev, q3⟩ := J.after z
      subst ev
      exact ⟨rv, ⟨V.ref (hp.objs.size + 1), H', J3, rfl, q3⟩⟩
    | next => exact False.elim z
    | brk => exact False.elim z
    | cont => exact False.elim z
theorem pe_oexV (M : MkX X C fI) (F : FnOk X.prog X.w X.K X.mg X.base CX k fI fd ps sp) (hr : Room (k + 1) X.A) (hb : L2.Binds X.K fd ps ds) (hd : Vals dvs ds) (hx : Passes CX X (fun _ _ _ => False)) (hg : Gl X x) (hm : X.mg x = some (.ref C)) (ha : PA X (e :: es) ta)
    (hdb : (x == ("__debug__" : Str)) = false := by decide) (he : starEach (e :: es) X.env = (false, eval e X.env) :: starEach es X.env := by rfl) (hpl : (backTo pos (starEach es X.env)).any (·.1) = false := by rfl) :
    PE X (.Call (.Name x p) (e :: es) [] pos) (tMkV C sp dvs ta) := by
  refine ⟨fun pins s σ H Q I h => ?_⟩
  refine wpAny_Call_Name_kw (ld_glob I hg hm ?_ hdb)
  refine PySem.W.callWith_K (h₀ := X.base) I.ok.mod.kin M.T.kC (thn (ha.run pos pins s σ H _ I h) fun us s1 ⟨vs, H1, I1, r1, hz, q1⟩ => ⟨I1.kIn, ?_⟩) he hpl
  have few : us.length ≤ sizeLine := by
    rw [← Paired.length r1, sizeLine_eq]
    omega
  have l2 : ∀ a, (Value.ref a :: us ++ ds).length = ps.length := fun a => by
    have e := (F.len _ _ _ _ (q1 _ (I1.hok.fresh (Nat.le_refl _))))
    have e2 := r1.length
    have e3 := hd.length
    rw [List.length_cons, List.length_append] at e
    rw [List.length_append, List.length_cons, ← e, e2, e3]
    omega
  exact run_oex (vs := fun a => .ref a :: (vs ++ dvs)) (uu := fun a => .ref a :: (us ++ ds)) M F hr few (fun a s' kI => hb s' (Value.ref a :: us) kI (l2 a)) (fun a => .cons rfl (r1.append hd)) hx I1 q1
theorem pe_oex0 (M : MkX X C fI) (F : FnOk X.prog X.w X.K X.mg X.base CX k fI fd ps sp) (hr : Room (k + 1) X.A) (hb : L2.Binds X.K fd ps []) (hx : Passes CX X (fun _ _ _ => False)) (hg : Gl X x) (hm : X.mg x = some (.ref C)) (hl : ps.length = 1)
    (hdb : (x == ("__debug__" : Str)) = false := by decide) : PE X (.Call (.Name x p) [] [] pos) (tMkV C sp [] tNil) := by
  refine ⟨fun pins s σ H Q I h => ?_⟩
  refine wpAny_Call_Name_kw (ld_glob I hg hm ?_ hdb)
  obtain ⟨_, q⟩ := h
  refine PySem.W.callWith_K0 I.kIn M.T.kC (run_oex (us := []) (kw := []) (vs := fun a => [.ref a]) (uu := fun a => [.ref a]) M F hr (Nat.zero_le _) (fun a s' kI => hb s' [Value.ref a] kI (by rw [hl]; rfl)) (fun a => .cons rfl .nil) hx I q)
theorem pe_oexK (M : MkX X C fI) (F : FnOk X.prog X.w X.K X.mg X.base CX k fI fd ps sp) (hr : Room (k + 1) X.A) (hb : KBn X.K fd ps 1 ks g gV) (hx : Passes CX X (fun _ _ _ => False)) (hg : Gl X x) (hm : X.mg x = some (.ref C)) (hkw : PK X kws tk)
    (hall : (backToKw pos (keywordEach kws X.env)).all (·.1.isSome) = true := by rfl) (hks : (backToKw pos (keywordEach kws X.env)).filterMap (·.1) = ks := by rfl) (hdb : (x == ("__debug__" : Str)) = false := by decide)
    (hpl : ((backTo pos (starEach [] X.env)).any (·.1) || (backToKw pos (keywordEach kws X.env)).any (·.1.isNone)) = false := by rfl) :
    PE X (.Call (.Name x p) [] kws pos) (tMkK C ks.length sp gV tk) := by
  refine ⟨fun pins s σ H Q I h => ?_⟩
  refine wpAny_Call_Name_kw (ld_glob I hg hm ?_ hdb)
  refine PySem.W.callWith_KW0 (h₀ := X.base) I.ok.mod.kin M.T.kC hall ?_ hpl
  refine thn (hkw.run pos pins s σ H _ I h) fun ws s2 ⟨zs, H2, I2, rz, l2, q2⟩ => ⟨I2.kIn, ?_⟩
  rw [hks]
  exact run_oex (us := []) (vs := fun a => gV [.ref a] zs) (uu := fun a => g [.ref a] ws) M F hr (Nat.zero_le _) (fun a s' kI => hb.to s' [Value.ref a] ws kI rfl (rz.length.symm.trans l2)) (fun a => hb.rel (.cons rfl .nil) rz) hx I2 q2
end
end CC
set_option Elab.async false
set_option maxRecDepth 100000
namespace CC
open PySem PySem.Spec PyProof.Rows L2
set_option linter.unusedVariables false
/-! ### a def read off an own class, called: C.m(e, ..) -/
structure ClsFn (K : PySem.W.Frag) (C : Addr) (m : Str) (f : Addr) : Prop where
  ga : PySem.W.specialIn K (.ref C) "__getattribute__" = some (some (.builtin "type.__getattribute__"))
  rd : PySem.W.readsIn K C (.type "type") = true
  at_ : PySem.W.findCls K (.ref C) (.type "type") m = some (.val (.ref f))
section
variable {X : Cx} {e : Expr} {es : List Expr} {t : TA} {apos np pos : Pos} {CX : CXT} {x m : Str} {C f : Addr} {k : Nat} {fd : FuncData} {ps : List Str} {sp : Sp} {ds : List Value} {dvs : List V} {E : XK}
theorem pe_clsfn {pl : Sem Bool} (c : ClsFn X.K C m f) (F : FnOk X.prog X.w X.K X.mg X.base CX k f fd ps sp) (hr : Room k X.A) (hg : Gl X x) (hm : X.mg x = some (.ref C)) (hk : PySem.W.keepIn X.K (.ref f) = true) (hb : L2.Binds X.K fd ps ds) (hd : Vals dvs ds) (hx : Passes CX X E)
    (ha : PA X (e :: es) t) (hdb : (x == ("__debug__" : Str)) = false := by decide)
    (ht : eval (.Call (.Attribute (.Name x np) m apos) (e :: es) [] pos) X.env = (do let ov ← eval (.Name x np) X.env; standAt apos.atName; let (f, first) ← holding [ov] (getMethod ov m pl); callWith pos f first (backTo pos (starEach (e :: es) X.env)) (backToKw pos (keywordEach [] X.env))) := by rfl)
    (he : starEach (e :: es) X.env = (false, eval e X.env) :: starEach es X.env := by rfl) (hpl : (backTo pos (starEach es X.env)).any (·.1) = false := by rfl) :
    PE X (.Call (.Attribute (.Name x np) m apos) (e :: es) [] pos) (tCall sp dvs E t) := by
  refine ⟨fun pins s σ H Q I h => ?_⟩
  refine PySem.W.methodCall_KW (pl := pl) (ld_glob I hg hm ?_ hdb) ht
  refine PySem.W.method_cls I.kIn c.ga (PySem.W.cls_value I.kIn c.rd c.at_ rfl ?_)
  have I2 : Inv X pins σ H { s with toks := s.toks + 1 } := I.tok _
  show wpAny _ _ (callWith pos (Value.ref f) [] (backTo pos (starEach (e :: es) X.env)) []) _ _ _
  refine PySem.W.callWith_K (h₀ := X.base) I.ok.mod.kin hk (thn (ha.run pos pins _ σ H _ I2 h) fun us s1 ⟨vs, H1, I1, r, q⟩ => ⟨I1.kIn, ?_⟩) he hpl
  exact run_fn F hr hb hd hx I1 r q
end
/-! ### the attribute of such an object; isinstance of it; != of lists that hold the same -/
def tXa (K : PySem.W.Frag) (f : Str) (te : TE) : TE := fun σ H Q => te σ H fun x H1 => ∃ e C y, x = .ref e ∧ ExF H1 e C f y ∧ XfC K C ∧ PySem.W.findIn K (.ref C) f = some none ∧ Q y H1
/-- what isinstance asks of the class -/
structure XcC (K : PySem.W.Frag) (D : Addr) : Prop where
  cl : (PySem.W.clsIn K D).isSome = true
  hg : PySem.W.findIn K (.ref D) "__getattribute__" = some (some (.builtin "BaseException.__getattribute__"))
  hk : PySem.W.findIn K (.ref D) "__getattr__" = some none
  hs : PySem.W.subIn K (.ref D) (.type "BaseException") = some true
  ha : PySem.W.findIn K (.ref D) "__class__" = some (some (.builtin "object.__class__"))
  hn : PySem.W.specialIn K (.builtin "object.__class__") "__get__" = some (some (.builtin "getset_descriptor.__get__"))
  ht : PySem.W.takesIn K (.builtin "object.__class__") = some true
  hm : PySem.W.mroIn K D (.type "object") = some true
def rIsX (K : PySem.W.Frag) : List V → Hp → VK → Prop := fun xs H Q => ∃ (e C : Addr) (c : V) (cv : Value) (b : Bool), xs = [.ref e, c] ∧ ExA H e C ∧ XcC K C ∧ ClsV c cv ∧ PySem.W.kitOne K (.ref C) cv = some b ∧ Q (.bl b) H
theorem paired_at {α β : Type} {F : α → β → Prop} : ∀ {l : List α} {m : List β} {i : Nat} {a : α}, Paired F l m → l[i]? = some a → ∃ b, m[i]? = some b ∧ F a b
  | _, _, _, _, .nil, h => by simp at h
  | _, _, 0, _, .cons h t, e => ⟨_, rfl, by cases Option.some.inj e; exact h⟩
  | _, _, i + 1, _, .cons h t, e => paired_at (i := i) t e
def rNeS (K : PySem.W.Frag) : R2 := fun x y H Q => ∃ (a b : Addr) (xs : List V), x = .ref a ∧ y = .ref b ∧ SqL K H a xs ∧ SqL K H b xs ∧ (∀ v ∈ xs, flatB v = true ∨ ∃ c, v = .ref c) ∧ Q (.bl false) H
section
variable {X : Cx}
theorem pe_xa {e : Expr} {te : TE} {n : Str} {pos : Pos} (he : PE X e te) (hb : attributeBase e n X.env (eval e X.env) = eval e X.env := by rfl) : PE X (.Attribute e n pos) (tXa X.K n te) := by
  refine ⟨fun pins s σ H Q I h => ?_⟩
  refine attr_of hb (thn (he.run pins s σ H _ I h) fun u s1 hh => ?_)
  obtain ⟨x, H1, I1, rx, a, C, y, ex, ⟨d, ea, ed⟩, T, hno, q⟩ := hh
  subst ex
  obtain rfl : u = Value.ref a := rx
  obtain ⟨t1, ga⟩ := exo_at I1.hok ea
  obtain ⟨mA, hns, rel⟩ := exd_at I1.hok ed
  obtain ⟨od, ho, look⟩ := lookIn_ns hns
  have e0 : List.lookup n [(n, y)] = some y := by simp
  obtain ⟨v, hv, rv⟩ := RelO.some_of (v := y) (o := mA n) (by rw [← e0]; exact rel n)
  have J : PySem.W.InstAt s1.heap a { cls := .ref C, dict := some d, data := .fields #[.ref t1, .none, .none, .none, .bool false, .none] } C (some od) := ⟨ga, rfl, rfl, ho⟩
  exact HandSPX.exc_get I1.kIn J T.ga T.gg T.exC (PySem.W.findObj_own T.hdC hno rfl (by rw [look, hv])) (handed_of rv) ⟨y, H1, I1.tok _, rv, q⟩
theorem call_isX : CallR X (.builtin "isinstance") (rIsX X.K) := by
  intro pins s σ H xs us Q I r h
  obtain ⟨a, C, c, cv, b, rfl, ex, T, kc, kb, q⟩ := h
  obtain ⟨u1, u2, rfl, r1, r2⟩ := vals2 r
  have e2 := kc.eq r2
  subst e2
  cases (show u1 = Value.ref a from r1)
  have J : ∃ ox od, PySem.W.InstAt s.heap a ox C od := by
    rcases ex with ea | ⟨f, x, d, ea, ed⟩
    · obtain ⟨t1, ga⟩ := exo_at I.hok ea
      exact ⟨_, none, ga, rfl, rfl, trivial⟩
    · obtain ⟨t1, ga⟩ := exo_at I.hok ea
      obtain ⟨mA, hns, rel⟩ := exd_at I.hok ed
      obtain ⟨od, ho, look⟩ := lookIn_ns hns
      exact ⟨_, some od, ga, rfl, rfl, ho⟩
  obtain ⟨ox, od, J⟩ := J
  exact PySem.W.kia_one (PySem.W.kitx_exc T.cl T.hg T.hk T.hs T.ha T.hn T.ht T.hm) I.kIn J kb (fun z => nomatch z) fun tk => ⟨.bl b, H, I.tok _, rfl, q⟩
theorem op_neS (hu : X.A.units < cLine) : OpR X (compareOp .NotEq) (rNeS X.K) := by
  intro pins s σ H x y v u Q I rx ry h
  obtain ⟨a, b, xs, rfl, rfl, ha, hb, hv, q⟩ := h
  cases (show v = Value.ref a from rx)
  cases (show u = Value.ref b from ry)
  obtain ⟨us, r1, l1, _⟩ := I.list ha
  obtain ⟨ws, r2, l2, _⟩ := I.list hb
  have sz : us.toArray.size = ws.toArray.size := by
    rw [List.size_toArray, List.size_toArray, ← r1.length, ← r2.length]
  have all_ : ∀ j (h1 : j < us.toArray.size) (h2 : j < ws.toArray.size), SeqAt.EqAt X.A.in1 s us.toArray[j] ws.toArray[j] true := by
    intro j h1 h2
    have j0 : j < xs.length := by
      rw [r1.length]
      simpa using h1
    obtain ⟨u1, e1, q1⟩ := paired_at r1 (List.getElem?_eq_getElem j0)
    obtain ⟨u2, e2, q2⟩ := paired_at r2 (List.getElem?_eq_getElem j0)
    have d1 : us.toArray[j] = u1 := by
      have := List.getElem?_eq_some_iff.mp e1
      obtain ⟨_, h⟩ := this
      simpa using h
    have d2 : ws.toArray[j] = u2 := by
      have := List.getElem?_eq_some_iff.mp e2
      obtain ⟨_, h⟩ := this
      simpa using h
    rw [d1, d2]
    rcases hv _ (List.getElem_mem j0) with f | ⟨c, ec⟩
    · exact eqAt_same q1 q2 f
    · rw [ec] at q1 q2
      cases (show u1 = Value.ref c from q1)
      cases (show u2 = Value.ref c from q2)
      exact SeqAt.EqAt.same _
  refine SeqAt.RcNeAt.lists (e := fun _ => true) l1.isList l2.isList sz hu all_ X.prog X.w _ _ ?_
  rw [show (!(List.range us.toArray.size).all fun _ => true) = false by simp]
  exact ⟨.bl false, H, I, rfl, q⟩
end
end CC
set_option Elab.async false
set_option maxRecDepth 100000
namespace CC
open PySem PySem.Spec PyProof.Rows L2
set_option linter.unusedVariables false
/-! ### shown, and the __init__ of CellError -/
abbrev sShown : Stmt := top 2
abbrev sCellInit : Stmt := inClass (top 3) 0
/-- the values that an error is made with here -/
inductive XV (H : Hp) : V → Prop where
  | non : XV H .non
  | int (i : Int) : XV H (.int i)
  | str (z : Str) (h : z.length ≤ 1000) : XV H (.str z)
  | bl (b : Bool) : XV H (.bl b)
  | tup {a : Addr} {xs : List V} (h : H a = some (.tup xs)) : XV H (.ref a)
  | lst {a : Addr} {xs : List V} (h : H a = some (.lst xs)) : XV H (.ref a)
  | dic {a : Addr} (h : H a = some (.dK [])) : XV H (.ref a)
theorem XV.same {H H' : Hp} {x : V} (h : XV H x) (s : Same H H') : XV H' x := by
  cases h with
  | non => exact .non
  | int i => exact .int i
  | str z h => exact .str z h
  | bl b => exact .bl b
  | tup h => exact .tup (s _ _ h)
  | lst h => exact .lst (s _ _ h)
  | dic h => exact .dic (s _ _ h)
theorem XV.plain {H : Hp} {x : V} (h : XV H x) : flatB x = true ∨ ∃ c, x = .ref c := by
  cases h with
  | non => exact .inl rfl
  | int i => exact .inl rfl
  | str z h => exact .inl rfl
  | bl b => exact .inl rfl
  | tup h => exact .inr ⟨_, rfl⟩
  | lst h => exact .inr ⟨_, rfl⟩
  | dic h => exact .inr ⟨_, rfl⟩
def spShown : Sp := fun vs H Q _ => (∃ z : Str, vs = [.str z] ∧ Q (.str z) H) ∨ ∃ x, vs = [x] ∧ XV H x ∧ ∀ z : Str, z.length ≤ 2000 → Q (.str z) H
/-- CellError's own: the exception at a stays as it is -/
def spCellInit (K : PySem.W.Frag) : Sp := fun vs H Q _ => ∃ (a C : Addr) (z : Str), vs = [.ref a, .str z] ∧ OexC K C ∧ H a = some (exo a C none) ∧ Q .non H
section
variable {P : Program} {w : World} {K : PySem.W.Frag} {mg : Str → Option Value} {base : Heap} {t1 : Tok}
theorem log_12 {i : Int} (h : (if i < 0 then -i else i) < 1000000000000) : i.natAbs.log2 < 1920 := by
  by_cases z : i.natAbs = 0
  · rw [z]
    decide
  · have : i.natAbs.log2 < 40 := (Nat.log2_lt z).mpr (by
      have e : (i.natAbs : Int) < 1000000000000 := by
        by_cases n : i < 0
        · rw [if_pos n] at h
          omega
        · rw [if_neg n] at h
          omega
      have : i.natAbs < 1000000000000 := by omega
      exact Nat.lt_trans this (by decide))
    omega
theorem scShown : FnScope ["value"] ["value"] (defScope sShown) := ⟨rfl, rfl, rfl, by decide +kernel, rfl, by decide +kernel, by decide +kernel⟩
theorem ok_shown {f : Addr} {fd : FuncData} (F : Fun K "shown" "shown" sShown f fd) (ti : mg "isinstance" = none) (ts : mg "str" = none) (tn : mg "int" = none) (ta : mg "abs" = none) (mS : mg "SHOWN_BELOW" = some (.int 1000000000000 t1)) :
    FnOk P w K mg base CX0 1 f fd ["value"] spShown := by
  refine F.ok scShown (fun vs H Q E h => ?_) (fun cdv A outer s H vs Q E hr h => ?_)
  · rcases h with ⟨z, rfl, _⟩ | ⟨x, rfl, _⟩
    · rfl
    · rfl
  · refine ⟨_, pss_cons (ps_if (pt_val (pe_callB call_isi (by rfl) ti (by decide +kernel) (pa_cons (pv 0) (pa_cons (pe_bltn (v := .ty "str") (by rfl) ts (by decide +kernel) rfl) pa_nil)))) (pss_one (ps_ret (pv 0))) pss_nil)
      (pss_cons (ps_if (PW.pt (pw_and (pt_val (pe_callB call_isi (by rfl) ti (by decide +kernel) (pa_cons (pv 0) (pa_cons (pe_bltn (v := .ty "int") (by rfl) tn (by decide +kernel) rfl) pa_nil)))) (pw_and1 (pt_cmpR op_lt (pe_callB call_absN (by rfl) ta (by decide +kernel) (pa_cons (pv 0) pa_nil)) (pe_glob (v := .int 1000000000000) rfl mS ⟨_, rfl⟩) (nomark _)))))
        (pss_one (ps_ret (pe_callTy call_strN (by rfl) ts (by decide +kernel) (pa_cons (pv 0) pa_nil)))) pss_nil)
      (pss_one (ps_ret pe_str))), ?_⟩
    rcases h with ⟨z, rfl, q⟩ | ⟨x, rfl, xv, q⟩
    · exact ⟨_, rfl, _, _, _, _, true, rfl, .ty _, .base (.str z), kit_ty (by decide +kernel), true, rfl, iteT ⟨_, rfl, q⟩⟩
    have dots : Q (.str "...") H := q _ (by decide +kernel)
    cases xv with
    | non => exact ⟨_, rfl, _, _, _, _, false, rfl, .ty _, .base .non, kit_ty (by decide +kernel), false, rfl, iteF ⟨_, rfl, _, _, _, _, false, rfl, .ty _, .base .non, kit_ty (by decide +kernel), false, rfl, iteF dots⟩⟩
    | str z hz => exact ⟨_, rfl, _, _, _, _, true, rfl, .ty _, .base (.str z), kit_ty (by decide +kernel), true, rfl, iteT ⟨_, rfl, q z (by omega)⟩⟩
    | bl b =>
      refine ⟨_, rfl, _, _, _, _, false, rfl, .ty _, .base (.bl b), kit_ty (by decide +kernel), false, rfl, iteF ?_⟩
      refine ⟨_, rfl, _, _, _, _, true, rfl, .ty _, .base (.bl b), kit_ty (by decide +kernel), true, rfl, iteT ?_⟩
      refine ⟨_, rfl, .inr ⟨b, rfl, _, _, rfl, rfl, _, rfl, ite_yes (decide_eq_true ?_) ?_⟩⟩
      · cases b <;> decide
      · exact ⟨_, rfl, .inr ⟨b, rfl, q _ (by cases b <;> decide +kernel)⟩⟩
    | int i =>
      refine ⟨_, rfl, _, _, _, _, false, rfl, .ty _, .base (.int i), kit_ty (by decide +kernel), false, rfl, iteF ?_⟩
      refine ⟨_, rfl, _, _, _, _, true, rfl, .ty _, .base (.int i), kit_ty (by decide +kernel), true, rfl, iteT ?_⟩
      refine ⟨_, rfl, .inl ⟨i, rfl, _, _, rfl, rfl, _, rfl, ite2 (fun h => ?_) (fun _ => dots)⟩⟩
      have lg := log_12 (of_decide_eq_true h)
      exact ⟨_, rfl, .inl ⟨i, rfl, lg, q _ (Nat.le_trans (PyProof.Rows.int_text_len_1921 lg) (by decide))⟩⟩
    | tup e => exact ⟨_, rfl, _, _, _, _, false, rfl, .ty _, .base (.tup e), kit_ty (by decide +kernel), false, rfl, iteF ⟨_, rfl, _, _, _, _, false, rfl, .ty _, .base (.tup e), kit_ty (by decide +kernel), false, rfl, iteF dots⟩⟩
    | lst e => exact ⟨_, rfl, _, _, _, _, false, rfl, .ty _, .base (.lst e), kit_ty (by decide +kernel), false, rfl, iteF ⟨_, rfl, _, _, _, _, false, rfl, .ty _, .base (.lst e), kit_ty (by decide +kernel), false, rfl, iteF dots⟩⟩
    | dic e => exact ⟨_, rfl, _, _, _, _, false, rfl, .ty _, .base (.dK e), kit_ty (by decide +kernel), false, rfl, iteF ⟨_, rfl, _, _, _, _, false, rfl, .ty _, .base (.dK e), kit_ty (by decide +kernel), false, rfl, iteF dots⟩⟩
theorem scCellInit : FnScope ["self", "why"] ["self", "why"] (defScope sCellInit) := ⟨rfl, rfl, rfl, by decide +kernel, rfl, by decide +kernel, by decide +kernel⟩
theorem ok_cellinit {f fS : Addr} {fd fdS : FuncData} (F : FunD K "__init__" "CellError.__init__" (defArgs sCellInit) (defBody sCellInit) (defScope sCellInit) [V.str ""] [] f fd)
    (GS : FnOk P w K mg base CX0 1 fS fdS ["value"] spShown) (mS : mg "shown" = some (.ref fS)) (kS : PySem.W.keepIn K (.ref fS) = true) (bS : L2.Binds K fdS ["value"] []) (tv : mg "ValueError" = none)
    (vV : PySem.W.findCls K (.type "ValueError") (.type "type") "__init__" = some (.val (.builtin "ValueError.__init__"))) :
    FnOk P w K mg base CX0 2 f fd ["self", "why"] (spCellInit K) := by
  refine F.ok scCellInit (fun vs H Q E h => ?_) (fun cdv A outer s H vs Q E hr h => ?_)
  · obtain ⟨a, C, z, rfl, _⟩ := h
    rfl
  · obtain ⟨a, C, z, rfl, T, ha, q⟩ := h
    refine ⟨_, pss_one (ps_expr (pe_veinit (by rfl) tv vV (pa_cons (pv 0) (pa_cons (pe_call GS hr rfl mS kS bS .nil pass0 (pa_cons (pv 1) pa_nil)) pa_nil)))), ?_⟩
    exact ⟨_, rfl, _, rfl, .inl ⟨z, rfl, a, C, [V.str z], rfl, (by show 1 ≤ 1000; decide), T, ha, q⟩⟩
end
end CC
set_option Elab.async false
set_option maxRecDepth 100000
namespace CC
open PySem PySem.Spec PyProof.Rows L2
set_option linter.unusedVariables false
/-! ### the own __init__ of each error -/
/-- asked with a value x: the object at a gets the one attribute -/
def spInit (K : PySem.W.Frag) (C : Addr) (f : Str) : Sp := fun vs H Q _ => ∃ (a : Addr) (x : V), vs = [.ref a, x] ∧ OexC K C ∧ H a = some (exo a C none) ∧ XV H x ∧
  ∀ dx, H dx = none → dx ≠ a → Q .non (upd (upd H dx (exd dx [(f, x)])) a (exo a C (some dx)))
def spInit0 (K : PySem.W.Frag) (C : Addr) : Sp := fun vs H Q _ => ∃ (a : Addr), vs = [.ref a] ∧ OexC K C ∧ H a = some (exo a C none) ∧ Q .non H
section
variable {P : Program} {w : World} {K : PySem.W.Frag} {mg : Str → Option Value} {base : Heap} {f fS fC CE C : Addr} {fd fdS fdC : FuncData}
abbrev sBadProgramI : Stmt := inClass (top 4) 0
theorem scBadProgramI : FnScope ["self", "row"] ["self", "row"] (defScope sBadProgramI) := ⟨rfl, rfl, rfl, by decide +kernel, rfl, by decide +kernel, by decide +kernel⟩
theorem ok_BadProgramI (F : Fun K "__init__" "BadProgram.__init__" sBadProgramI f fd)
    (GS : FnOk P w K mg base CX0 1 fS fdS ["value"] spShown) (mS : mg "shown" = some (.ref fS)) (kS : PySem.W.keepIn K (.ref fS) = true) (bS : L2.Binds K fdS ["value"] [])
    (GC : FnOk P w K mg base CX0 2 fC fdC ["self", "why"] (spCellInit K)) (mC : mg "CellError" = some (.ref CE)) (c : ClsFn K CE "__init__" fC) (kC : PySem.W.keepIn K (.ref fC) = true) (bC : L2.Binds K fdC ["self", "why"] [])
    (nR : PySem.W.findIn K (.ref C) "row" = some none) :
    FnOk P w K mg base CX0 3 f fd ["self", "row"] (spInit K C "row") := by
  refine F.ok scBadProgramI (fun vs H Q E h => ?_) (fun cdv A outer s H vs Q E hr h => ?_)
  · obtain ⟨a, x, rfl, _⟩ := h
    rfl
  · obtain ⟨a, x, rfl, T, ha, xv, q⟩ := h
    have hr1 : Room 1 _ := hr.mono (by decide)
    refine ⟨_, pss_cons (ps_expr (pe_clsfn c GC hr rfl mC kC bC .nil pass0 (pa_cons (pv 0) (pa_cons (pe_joined (PJ.cons pe_str (PJ.cons (pe_fmt (pe_call GS hr1 rfl mS kS bS .nil pass0 (pa_cons (pv 1) pa_nil))) (PJ.cons pe_str PJ.nil)))) pa_nil))))
      (pss_one (ps_ost (pv 0) (pv 1))), ?_⟩
    have c1 : (Str.empty ++ Str.ofString "row ").length = 4 := by decide +kernel
    have c2 : (Str.ofString " cannot stand in a program").length = 26 := by decide +kernel
    refine ⟨_, rfl, _, rfl, (by decide +kernel), _, rfl, .inr ⟨x, rfl, xv, fun z ln => .inl ⟨_, rfl, ?_, _, rfl, ?_, _, rfl, ?_, ?_⟩⟩⟩
    · exact Nat.le_trans ln (by decide)
    · rw [PySem.Str.length_append, c1, PySem.sizeLine_eq]
      omega
    · rw [PySem.Str.length_append, PySem.Str.length_append, c1, c2, PySem.sizeLine_eq]
      omega
    · exact ⟨a, C, _, rfl, T, ha, _, rfl, _, rfl, a, C, rfl, T, nR, .inl ⟨ha, fun dx hdx n => q dx hdx n⟩⟩
abbrev sNotOnceI : Stmt := inClass (top 5) 0
theorem scNotOnceI : FnScope ["self", "row"] ["self", "row"] (defScope sNotOnceI) := ⟨rfl, rfl, rfl, by decide +kernel, rfl, by decide +kernel, by decide +kernel⟩
theorem ok_NotOnceI (F : Fun K "__init__" "NotOnce.__init__" sNotOnceI f fd)
    (GS : FnOk P w K mg base CX0 1 fS fdS ["value"] spShown) (mS : mg "shown" = some (.ref fS)) (kS : PySem.W.keepIn K (.ref fS) = true) (bS : L2.Binds K fdS ["value"] [])
    (GC : FnOk P w K mg base CX0 2 fC fdC ["self", "why"] (spCellInit K)) (mC : mg "CellError" = some (.ref CE)) (c : ClsFn K CE "__init__" fC) (kC : PySem.W.keepIn K (.ref fC) = true) (bC : L2.Binds K fdC ["self", "why"] [])
    (nR : PySem.W.findIn K (.ref C) "row" = some none) :
    FnOk P w K mg base CX0 3 f fd ["self", "row"] (spInit K C "row") := by
  refine F.ok scNotOnceI (fun vs H Q E h => ?_) (fun cdv A outer s H vs Q E hr h => ?_)
  · obtain ⟨a, x, rfl, _⟩ := h
    rfl
  · obtain ⟨a, x, rfl, T, ha, xv, q⟩ := h
    have hr1 : Room 1 _ := hr.mono (by decide)
    refine ⟨_, pss_cons (ps_expr (pe_clsfn c GC hr rfl mC kC bC .nil pass0 (pa_cons (pv 0) (pa_cons (pe_joined (PJ.cons pe_str (PJ.cons (pe_fmt (pe_call GS hr1 rfl mS kS bS .nil pass0 (pa_cons (pv 1) pa_nil))) (PJ.cons pe_str PJ.nil)))) pa_nil))))
      (pss_one (ps_ost (pv 0) (pv 1))), ?_⟩
    have c1 : (Str.empty ++ Str.ofString "who begins at row ").length = 18 := by decide +kernel
    have c2 : (Str.ofString " is perhaps not inside just once").length = 32 := by decide +kernel
    refine ⟨_, rfl, _, rfl, (by decide +kernel), _, rfl, .inr ⟨x, rfl, xv, fun z ln => .inl ⟨_, rfl, ?_, _, rfl, ?_, _, rfl, ?_, ?_⟩⟩⟩
    · exact Nat.le_trans ln (by decide)
    · rw [PySem.Str.length_append, c1, PySem.sizeLine_eq]
      omega
    · rw [PySem.Str.length_append, PySem.Str.length_append, c1, c2, PySem.sizeLine_eq]
      omega
    · exact ⟨a, C, _, rfl, T, ha, _, rfl, _, rfl, a, C, rfl, T, nR, .inl ⟨ha, fun dx hdx n => q dx hdx n⟩⟩
abbrev sBadFieldI : Stmt := inClass (top 6) 0
theorem scBadFieldI : FnScope ["self", "place"] ["self", "place"] (defScope sBadFieldI) := ⟨rfl, rfl, rfl, by decide +kernel, rfl, by decide +kernel, by decide +kernel⟩
theorem ok_BadFieldI (F : Fun K "__init__" "BadField.__init__" sBadFieldI f fd)
    (GS : FnOk P w K mg base CX0 1 fS fdS ["value"] spShown) (mS : mg "shown" = some (.ref fS)) (kS : PySem.W.keepIn K (.ref fS) = true) (bS : L2.Binds K fdS ["value"] [])
    (GC : FnOk P w K mg base CX0 2 fC fdC ["self", "why"] (spCellInit K)) (mC : mg "CellError" = some (.ref CE)) (c : ClsFn K CE "__init__" fC) (kC : PySem.W.keepIn K (.ref fC) = true) (bC : L2.Binds K fdC ["self", "why"] [])
    (nR : PySem.W.findIn K (.ref C) "place" = some none) :
    FnOk P w K mg base CX0 3 f fd ["self", "place"] (spInit K C "place") := by
  refine F.ok scBadFieldI (fun vs H Q E h => ?_) (fun cdv A outer s H vs Q E hr h => ?_)
  · obtain ⟨a, x, rfl, _⟩ := h
    rfl
  · obtain ⟨a, x, rfl, T, ha, xv, q⟩ := h
    have hr1 : Room 1 _ := hr.mono (by decide)
    refine ⟨_, pss_cons (ps_expr (pe_clsfn c GC hr rfl mC kC bC .nil pass0 (pa_cons (pv 0) (pa_cons (pe_joined (PJ.cons pe_str (PJ.cons (pe_fmt (pe_call GS hr1 rfl mS kS bS .nil pass0 (pa_cons (pv 1) pa_nil))) (PJ.cons pe_str PJ.nil)))) pa_nil))))
      (pss_one (ps_ost (pv 0) (pv 1))), ?_⟩
    have c1 : (Str.empty ++ Str.ofString "the ").length = 4 := by decide +kernel
    have c2 : (Str.ofString " are not those of a field").length = 25 := by decide +kernel
    refine ⟨_, rfl, _, rfl, (by decide +kernel), _, rfl, .inr ⟨x, rfl, xv, fun z ln => .inl ⟨_, rfl, ?_, _, rfl, ?_, _, rfl, ?_, ?_⟩⟩⟩
    · exact Nat.le_trans ln (by decide)
    · rw [PySem.Str.length_append, c1, PySem.sizeLine_eq]
      omega
    · rw [PySem.Str.length_append, PySem.Str.length_append, c1, c2, PySem.sizeLine_eq]
      omega
    · exact ⟨a, C, _, rfl, T, ha, _, rfl, _, rfl, a, C, rfl, T, nR, .inl ⟨ha, fun dx hdx n => q dx hdx n⟩⟩
abbrev sBadCellI : Stmt := inClass (top 7) 0
theorem scBadCellI : FnScope ["self", "name"] ["self", "name"] (defScope sBadCellI) := ⟨rfl, rfl, rfl, by decide +kernel, rfl, by decide +kernel, by decide +kernel⟩
theorem ok_BadCellI (F : Fun K "__init__" "BadCell.__init__" sBadCellI f fd)
    (GS : FnOk P w K mg base CX0 1 fS fdS ["value"] spShown) (mS : mg "shown" = some (.ref fS)) (kS : PySem.W.keepIn K (.ref fS) = true) (bS : L2.Binds K fdS ["value"] [])
    (GC : FnOk P w K mg base CX0 2 fC fdC ["self", "why"] (spCellInit K)) (mC : mg "CellError" = some (.ref CE)) (c : ClsFn K CE "__init__" fC) (kC : PySem.W.keepIn K (.ref fC) = true) (bC : L2.Binds K fdC ["self", "why"] [])
    (nR : PySem.W.findIn K (.ref C) "name" = some none) :
    FnOk P w K mg base CX0 3 f fd ["self", "name"] (spInit K C "name") := by
  refine F.ok scBadCellI (fun vs H Q E h => ?_) (fun cdv A outer s H vs Q E hr h => ?_)
  · obtain ⟨a, x, rfl, _⟩ := h
    rfl
  · obtain ⟨a, x, rfl, T, ha, xv, q⟩ := h
    have hr1 : Room 1 _ := hr.mono (by decide)
    refine ⟨_, pss_cons (ps_expr (pe_clsfn c GC hr rfl mC kC bC .nil pass0 (pa_cons (pv 0) (pa_cons (pe_joined (PJ.cons pe_str (PJ.cons (pe_fmt (pe_call GS hr1 rfl mS kS bS .nil pass0 (pa_cons (pv 1) pa_nil))) PJ.nil))) pa_nil))))
      (pss_one (ps_ost (pv 0) (pv 1))), ?_⟩
    have c1 : (Str.empty ++ Str.ofString "not a cell to take: ").length = 20 := by decide +kernel
    refine ⟨_, rfl, _, rfl, (by decide +kernel), _, rfl, .inr ⟨x, rfl, xv, fun z ln => .inl ⟨_, rfl, ?_, _, rfl, ?_, ?_⟩⟩⟩
    · exact Nat.le_trans ln (by decide)
    · rw [PySem.Str.length_append, c1, PySem.sizeLine_eq]
      omega
    · exact ⟨a, C, _, rfl, T, ha, _, rfl, _, rfl, a, C, rfl, T, nR, .inl ⟨ha, fun dx hdx n => q dx hdx n⟩⟩
abbrev sBadRunI : Stmt := inClass (top 8) 0
theorem scBadRunI : FnScope ["self", "index"] ["self", "index"] (defScope sBadRunI) := ⟨rfl, rfl, rfl, by decide +kernel, rfl, by decide +kernel, by decide +kernel⟩
theorem ok_BadRunI (F : Fun K "__init__" "BadRun.__init__" sBadRunI f fd)
    (GS : FnOk P w K mg base CX0 1 fS fdS ["value"] spShown) (mS : mg "shown" = some (.ref fS)) (kS : PySem.W.keepIn K (.ref fS) = true) (bS : L2.Binds K fdS ["value"] [])
    (GC : FnOk P w K mg base CX0 2 fC fdC ["self", "why"] (spCellInit K)) (mC : mg "CellError" = some (.ref CE)) (c : ClsFn K CE "__init__" fC) (kC : PySem.W.keepIn K (.ref fC) = true) (bC : L2.Binds K fdC ["self", "why"] [])
    (nR : PySem.W.findIn K (.ref C) "index" = some none) :
    FnOk P w K mg base CX0 3 f fd ["self", "index"] (spInit K C "index") := by
  refine F.ok scBadRunI (fun vs H Q E h => ?_) (fun cdv A outer s H vs Q E hr h => ?_)
  · obtain ⟨a, x, rfl, _⟩ := h
    rfl
  · obtain ⟨a, x, rfl, T, ha, xv, q⟩ := h
    have hr1 : Room 1 _ := hr.mono (by decide)
    refine ⟨_, pss_cons (ps_expr (pe_clsfn c GC hr rfl mC kC bC .nil pass0 (pa_cons (pv 0) (pa_cons (pe_joined (PJ.cons pe_str (PJ.cons (pe_fmt (pe_call GS hr1 rfl mS kS bS .nil pass0 (pa_cons (pv 1) pa_nil))) (PJ.cons pe_str PJ.nil)))) pa_nil))))
      (pss_one (ps_ost (pv 0) (pv 1))), ?_⟩
    have c1 : (Str.empty ++ Str.ofString "not a thread, at index ").length = 23 := by decide +kernel
    have c2 : (Str.ofString " of the run").length = 11 := by decide +kernel
    refine ⟨_, rfl, _, rfl, (by decide +kernel), _, rfl, .inr ⟨x, rfl, xv, fun z ln => .inl ⟨_, rfl, ?_, _, rfl, ?_, _, rfl, ?_, ?_⟩⟩⟩
    · exact Nat.le_trans ln (by decide)
    · rw [PySem.Str.length_append, c1, PySem.sizeLine_eq]
      omega
    · rw [PySem.Str.length_append, PySem.Str.length_append, c1, c2, PySem.sizeLine_eq]
      omega
    · exact ⟨a, C, _, rfl, T, ha, _, rfl, _, rfl, a, C, rfl, T, nR, .inl ⟨ha, fun dx hdx n => q dx hdx n⟩⟩
abbrev sBadCountI : Stmt := inClass (top 9) 0
theorem scBadCountI : FnScope ["self", "count"] ["self", "count"] (defScope sBadCountI) := ⟨rfl, rfl, rfl, by decide +kernel, rfl, by decide +kernel, by decide +kernel⟩
theorem ok_BadCountI (F : Fun K "__init__" "BadCount.__init__" sBadCountI f fd)
    (GS : FnOk P w K mg base CX0 1 fS fdS ["value"] spShown) (mS : mg "shown" = some (.ref fS)) (kS : PySem.W.keepIn K (.ref fS) = true) (bS : L2.Binds K fdS ["value"] [])
    (GC : FnOk P w K mg base CX0 2 fC fdC ["self", "why"] (spCellInit K)) (mC : mg "CellError" = some (.ref CE)) (c : ClsFn K CE "__init__" fC) (kC : PySem.W.keepIn K (.ref fC) = true) (bC : L2.Binds K fdC ["self", "why"] [])
    (nR : PySem.W.findIn K (.ref C) "count" = some none) :
    FnOk P w K mg base CX0 3 f fd ["self", "count"] (spInit K C "count") := by
  refine F.ok scBadCountI (fun vs H Q E h => ?_) (fun cdv A outer s H vs Q E hr h => ?_)
  · obtain ⟨a, x, rfl, _⟩ := h
    rfl
  · obtain ⟨a, x, rfl, T, ha, xv, q⟩ := h
    have hr1 : Room 1 _ := hr.mono (by decide)
    refine ⟨_, pss_cons (ps_expr (pe_clsfn c GC hr rfl mC kC bC .nil pass0 (pa_cons (pv 0) (pa_cons (pe_joined (PJ.cons pe_str (PJ.cons (pe_fmt (pe_call GS hr1 rfl mS kS bS .nil pass0 (pa_cons (pv 1) pa_nil))) PJ.nil))) pa_nil))))
      (pss_one (ps_ost (pv 0) (pv 1))), ?_⟩
    have c1 : (Str.empty ++ Str.ofString "not a number of threads: ").length = 25 := by decide +kernel
    refine ⟨_, rfl, _, rfl, (by decide +kernel), _, rfl, .inr ⟨x, rfl, xv, fun z ln => .inl ⟨_, rfl, ?_, _, rfl, ?_, ?_⟩⟩⟩
    · exact Nat.le_trans ln (by decide)
    · rw [PySem.Str.length_append, c1, PySem.sizeLine_eq]
      omega
    · exact ⟨a, C, _, rfl, T, ha, _, rfl, _, rfl, a, C, rfl, T, nR, .inl ⟨ha, fun dx hdx n => q dx hdx n⟩⟩
abbrev sBadThreadI : Stmt := inClass (top 10) 0
theorem scBadThreadI : FnScope ["self", "thread"] ["self", "thread"] (defScope sBadThreadI) := ⟨rfl, rfl, rfl, by decide +kernel, rfl, by decide +kernel, by decide +kernel⟩
theorem ok_BadThreadI (F : Fun K "__init__" "BadThread.__init__" sBadThreadI f fd)
    (GS : FnOk P w K mg base CX0 1 fS fdS ["value"] spShown) (mS : mg "shown" = some (.ref fS)) (kS : PySem.W.keepIn K (.ref fS) = true) (bS : L2.Binds K fdS ["value"] [])
    (GC : FnOk P w K mg base CX0 2 fC fdC ["self", "why"] (spCellInit K)) (mC : mg "CellError" = some (.ref CE)) (c : ClsFn K CE "__init__" fC) (kC : PySem.W.keepIn K (.ref fC) = true) (bC : L2.Binds K fdC ["self", "why"] [])
    (nR : PySem.W.findIn K (.ref C) "thread" = some none) :
    FnOk P w K mg base CX0 3 f fd ["self", "thread"] (spInit K C "thread") := by
  refine F.ok scBadThreadI (fun vs H Q E h => ?_) (fun cdv A outer s H vs Q E hr h => ?_)
  · obtain ⟨a, x, rfl, _⟩ := h
    rfl
  · obtain ⟨a, x, rfl, T, ha, xv, q⟩ := h
    have hr1 : Room 1 _ := hr.mono (by decide)
    refine ⟨_, pss_cons (ps_expr (pe_clsfn c GC hr rfl mC kC bC .nil pass0 (pa_cons (pv 0) (pa_cons (pe_joined (PJ.cons pe_str (PJ.cons (pe_fmt (pe_call GS hr1 rfl mS kS bS .nil pass0 (pa_cons (pv 1) pa_nil))) PJ.nil))) pa_nil))))
      (pss_one (ps_ost (pv 0) (pv 1))), ?_⟩
    have c1 : (Str.empty ++ Str.ofString "not a thread: ").length = 14 := by decide +kernel
    refine ⟨_, rfl, _, rfl, (by decide +kernel), _, rfl, .inr ⟨x, rfl, xv, fun z ln => .inl ⟨_, rfl, ?_, _, rfl, ?_, ?_⟩⟩⟩
    · exact Nat.le_trans ln (by decide)
    · rw [PySem.Str.length_append, c1, PySem.sizeLine_eq]
      omega
    · exact ⟨a, C, _, rfl, T, ha, _, rfl, _, rfl, a, C, rfl, T, nR, .inl ⟨ha, fun dx hdx n => q dx hdx n⟩⟩
abbrev sEnoughI : Stmt := inClass (top 11) 0
theorem scEnoughI : FnScope ["self", "number"] ["self", "number"] (defScope sEnoughI) := ⟨rfl, rfl, rfl, by decide +kernel, rfl, by decide +kernel, by decide +kernel⟩
theorem ok_EnoughI (F : Fun K "__init__" "Enough.__init__" sEnoughI f fd)
    (GS : FnOk P w K mg base CX0 1 fS fdS ["value"] spShown) (mS : mg "shown" = some (.ref fS)) (kS : PySem.W.keepIn K (.ref fS) = true) (bS : L2.Binds K fdS ["value"] [])
    (GC : FnOk P w K mg base CX0 2 fC fdC ["self", "why"] (spCellInit K)) (mC : mg "CellError" = some (.ref CE)) (c : ClsFn K CE "__init__" fC) (kC : PySem.W.keepIn K (.ref fC) = true) (bC : L2.Binds K fdC ["self", "why"] [])
    (nR : PySem.W.findIn K (.ref C) "number" = some none) :
    FnOk P w K mg base CX0 3 f fd ["self", "number"] (spInit K C "number") := by
  refine F.ok scEnoughI (fun vs H Q E h => ?_) (fun cdv A outer s H vs Q E hr h => ?_)
  · obtain ⟨a, x, rfl, _⟩ := h
    rfl
  · obtain ⟨a, x, rfl, T, ha, xv, q⟩ := h
    have hr1 : Room 1 _ := hr.mono (by decide)
    refine ⟨_, pss_cons (ps_expr (pe_clsfn c GC hr rfl mC kC bC .nil pass0 (pa_cons (pv 0) (pa_cons (pe_joined (PJ.cons pe_str (PJ.cons (pe_fmt (pe_call GS hr1 rfl mS kS bS .nil pass0 (pa_cons (pv 1) pa_nil))) PJ.nil))) pa_nil))))
      (pss_one (ps_ost (pv 0) (pv 1))), ?_⟩
    have c1 : (Str.empty ++ Str.ofString "the cells are enough: ").length = 22 := by decide +kernel
    refine ⟨_, rfl, _, rfl, (by decide +kernel), _, rfl, .inr ⟨x, rfl, xv, fun z ln => .inl ⟨_, rfl, ?_, _, rfl, ?_, ?_⟩⟩⟩
    · exact Nat.le_trans ln (by decide)
    · rw [PySem.Str.length_append, c1, PySem.sizeLine_eq]
      omega
    · exact ⟨a, C, _, rfl, T, ha, _, rfl, _, rfl, a, C, rfl, T, nR, .inl ⟨ha, fun dx hdx n => q dx hdx n⟩⟩
abbrev sBadStepsI : Stmt := inClass (top 12) 0
theorem scBadStepsI : FnScope ["self", "steps"] ["self", "steps"] (defScope sBadStepsI) := ⟨rfl, rfl, rfl, by decide +kernel, rfl, by decide +kernel, by decide +kernel⟩
theorem ok_BadStepsI (F : Fun K "__init__" "BadSteps.__init__" sBadStepsI f fd)
    (GS : FnOk P w K mg base CX0 1 fS fdS ["value"] spShown) (mS : mg "shown" = some (.ref fS)) (kS : PySem.W.keepIn K (.ref fS) = true) (bS : L2.Binds K fdS ["value"] [])
    (GC : FnOk P w K mg base CX0 2 fC fdC ["self", "why"] (spCellInit K)) (mC : mg "CellError" = some (.ref CE)) (c : ClsFn K CE "__init__" fC) (kC : PySem.W.keepIn K (.ref fC) = true) (bC : L2.Binds K fdC ["self", "why"] [])
    (nR : PySem.W.findIn K (.ref C) "steps" = some none) :
    FnOk P w K mg base CX0 3 f fd ["self", "steps"] (spInit K C "steps") := by
  refine F.ok scBadStepsI (fun vs H Q E h => ?_) (fun cdv A outer s H vs Q E hr h => ?_)
  · obtain ⟨a, x, rfl, _⟩ := h
    rfl
  · obtain ⟨a, x, rfl, T, ha, xv, q⟩ := h
    have hr1 : Room 1 _ := hr.mono (by decide)
    refine ⟨_, pss_cons (ps_expr (pe_clsfn c GC hr rfl mC kC bC .nil pass0 (pa_cons (pv 0) (pa_cons (pe_joined (PJ.cons pe_str (PJ.cons (pe_fmt (pe_call GS hr1 rfl mS kS bS .nil pass0 (pa_cons (pv 1) pa_nil))) PJ.nil))) pa_nil))))
      (pss_one (ps_ost (pv 0) (pv 1))), ?_⟩
    have c1 : (Str.empty ++ Str.ofString "not a number of steps: ").length = 23 := by decide +kernel
    refine ⟨_, rfl, _, rfl, (by decide +kernel), _, rfl, .inr ⟨x, rfl, xv, fun z ln => .inl ⟨_, rfl, ?_, _, rfl, ?_, ?_⟩⟩⟩
    · exact Nat.le_trans ln (by decide)
    · rw [PySem.Str.length_append, c1, PySem.sizeLine_eq]
      omega
    · exact ⟨a, C, _, rfl, T, ha, _, rfl, _, rfl, a, C, rfl, T, nR, .inl ⟨ha, fun dx hdx n => q dx hdx n⟩⟩
abbrev sBadSeenI : Stmt := inClass (top 13) 0
theorem scBadSeenI : FnScope ["self", "index"] ["self", "index"] (defScope sBadSeenI) := ⟨rfl, rfl, rfl, by decide +kernel, rfl, by decide +kernel, by decide +kernel⟩
theorem ok_BadSeenI (F : Fun K "__init__" "BadSeen.__init__" sBadSeenI f fd)
    (GS : FnOk P w K mg base CX0 1 fS fdS ["value"] spShown) (mS : mg "shown" = some (.ref fS)) (kS : PySem.W.keepIn K (.ref fS) = true) (bS : L2.Binds K fdS ["value"] [])
    (GC : FnOk P w K mg base CX0 2 fC fdC ["self", "why"] (spCellInit K)) (mC : mg "CellError" = some (.ref CE)) (c : ClsFn K CE "__init__" fC) (kC : PySem.W.keepIn K (.ref fC) = true) (bC : L2.Binds K fdC ["self", "why"] [])
    (nR : PySem.W.findIn K (.ref C) "index" = some none) :
    FnOk P w K mg base CX0 3 f fd ["self", "index"] (spInit K C "index") := by
  refine F.ok scBadSeenI (fun vs H Q E h => ?_) (fun cdv A outer s H vs Q E hr h => ?_)
  · obtain ⟨a, x, rfl, _⟩ := h
    rfl
  · obtain ⟨a, x, rfl, T, ha, xv, q⟩ := h
    have hr1 : Room 1 _ := hr.mono (by decide)
    refine ⟨_, pss_cons (ps_expr (pe_clsfn c GC hr rfl mC kC bC .nil pass0 (pa_cons (pv 0) (pa_cons (pe_joined (PJ.cons pe_str (PJ.cons (pe_fmt (pe_call GS hr1 rfl mS kS bS .nil pass0 (pa_cons (pv 1) pa_nil))) PJ.nil))) pa_nil))))
      (pss_one (ps_ost (pv 0) (pv 1))), ?_⟩
    have c1 : (Str.empty ++ Str.ofString "not the worths of the cells, at index ").length = 38 := by decide +kernel
    refine ⟨_, rfl, _, rfl, (by decide +kernel), _, rfl, .inr ⟨x, rfl, xv, fun z ln => .inl ⟨_, rfl, ?_, _, rfl, ?_, ?_⟩⟩⟩
    · exact Nat.le_trans ln (by decide)
    · rw [PySem.Str.length_append, c1, PySem.sizeLine_eq]
      omega
    · exact ⟨a, C, _, rfl, T, ha, _, rfl, _, rfl, a, C, rfl, T, nR, .inl ⟨ha, fun dx hdx n => q dx hdx n⟩⟩
abbrev sBadTextI : Stmt := inClass (top 14) 0
theorem scBadTextI : FnScope ["self", "line"] ["self", "line"] (defScope sBadTextI) := ⟨rfl, rfl, rfl, by decide +kernel, rfl, by decide +kernel, by decide +kernel⟩
theorem ok_BadTextI (F : Fun K "__init__" "BadText.__init__" sBadTextI f fd)
    (GS : FnOk P w K mg base CX0 1 fS fdS ["value"] spShown) (mS : mg "shown" = some (.ref fS)) (kS : PySem.W.keepIn K (.ref fS) = true) (bS : L2.Binds K fdS ["value"] [])
    (GC : FnOk P w K mg base CX0 2 fC fdC ["self", "why"] (spCellInit K)) (mC : mg "CellError" = some (.ref CE)) (c : ClsFn K CE "__init__" fC) (kC : PySem.W.keepIn K (.ref fC) = true) (bC : L2.Binds K fdC ["self", "why"] [])
    (nR : PySem.W.findIn K (.ref C) "line" = some none) :
    FnOk P w K mg base CX0 3 f fd ["self", "line"] (spInit K C "line") := by
  refine F.ok scBadTextI (fun vs H Q E h => ?_) (fun cdv A outer s H vs Q E hr h => ?_)
  · obtain ⟨a, x, rfl, _⟩ := h
    rfl
  · obtain ⟨a, x, rfl, T, ha, xv, q⟩ := h
    have hr1 : Room 1 _ := hr.mono (by decide)
    refine ⟨_, pss_cons (ps_expr (pe_clsfn c GC hr rfl mC kC bC .nil pass0 (pa_cons (pv 0) (pa_cons (pe_joined (PJ.cons pe_str (PJ.cons (pe_fmt (pe_call GS hr1 rfl mS kS bS .nil pass0 (pa_cons (pv 1) pa_nil))) (PJ.cons pe_str PJ.nil)))) pa_nil))))
      (pss_one (ps_ost (pv 0) (pv 1))), ?_⟩
    have c1 : (Str.empty ++ Str.ofString "line ").length = 5 := by decide +kernel
    have c2 : (Str.ofString " of the text cannot stand there").length = 31 := by decide +kernel
    refine ⟨_, rfl, _, rfl, (by decide +kernel), _, rfl, .inr ⟨x, rfl, xv, fun z ln => .inl ⟨_, rfl, ?_, _, rfl, ?_, _, rfl, ?_, ?_⟩⟩⟩
    · exact Nat.le_trans ln (by decide)
    · rw [PySem.Str.length_append, c1, PySem.sizeLine_eq]
      omega
    · rw [PySem.Str.length_append, PySem.Str.length_append, c1, c2, PySem.sizeLine_eq]
      omega
    · exact ⟨a, C, _, rfl, T, ha, _, rfl, _, rfl, a, C, rfl, T, nR, .inl ⟨ha, fun dx hdx n => q dx hdx n⟩⟩
abbrev sBadScriptI : Stmt := inClass (top 15) 0
theorem scBadScriptI : FnScope ["self", "line"] ["self", "line"] (defScope sBadScriptI) := ⟨rfl, rfl, rfl, by decide +kernel, rfl, by decide +kernel, by decide +kernel⟩
theorem ok_BadScriptI (F : Fun K "__init__" "BadScript.__init__" sBadScriptI f fd)
    (GS : FnOk P w K mg base CX0 1 fS fdS ["value"] spShown) (mS : mg "shown" = some (.ref fS)) (kS : PySem.W.keepIn K (.ref fS) = true) (bS : L2.Binds K fdS ["value"] [])
    (GC : FnOk P w K mg base CX0 2 fC fdC ["self", "why"] (spCellInit K)) (mC : mg "CellError" = some (.ref CE)) (c : ClsFn K CE "__init__" fC) (kC : PySem.W.keepIn K (.ref fC) = true) (bC : L2.Binds K fdC ["self", "why"] [])
    (nR : PySem.W.findIn K (.ref C) "line" = some none) :
    FnOk P w K mg base CX0 3 f fd ["self", "line"] (spInit K C "line") := by
  refine F.ok scBadScriptI (fun vs H Q E h => ?_) (fun cdv A outer s H vs Q E hr h => ?_)
  · obtain ⟨a, x, rfl, _⟩ := h
    rfl
  · obtain ⟨a, x, rfl, T, ha, xv, q⟩ := h
    have hr1 : Room 1 _ := hr.mono (by decide)
    refine ⟨_, pss_cons (ps_expr (pe_clsfn c GC hr rfl mC kC bC .nil pass0 (pa_cons (pv 0) (pa_cons (pe_joined (PJ.cons pe_str (PJ.cons (pe_fmt (pe_call GS hr1 rfl mS kS bS .nil pass0 (pa_cons (pv 1) pa_nil))) (PJ.cons pe_str PJ.nil)))) pa_nil))))
      (pss_one (ps_ost (pv 0) (pv 1))), ?_⟩
    have c1 : (Str.empty ++ Str.ofString "line ").length = 5 := by decide +kernel
    have c2 : (Str.ofString " of the script cannot stand there").length = 33 := by decide +kernel
    refine ⟨_, rfl, _, rfl, (by decide +kernel), _, rfl, .inr ⟨x, rfl, xv, fun z ln => .inl ⟨_, rfl, ?_, _, rfl, ?_, _, rfl, ?_, ?_⟩⟩⟩
    · exact Nat.le_trans ln (by decide)
    · rw [PySem.Str.length_append, c1, PySem.sizeLine_eq]
      omega
    · rw [PySem.Str.length_append, PySem.Str.length_append, c1, c2, PySem.sizeLine_eq]
      omega
    · exact ⟨a, C, _, rfl, T, ha, _, rfl, _, rfl, a, C, rfl, T, nR, .inl ⟨ha, fun dx hdx n => q dx hdx n⟩⟩
abbrev sNoDeedI : Stmt := inClass (top 16) 0
theorem scNoDeedI : FnScope ["self"] ["self"] (defScope sNoDeedI) := ⟨rfl, rfl, rfl, by decide +kernel, rfl, by decide +kernel, by decide +kernel⟩
theorem ok_NoDeedI (F : Fun K "__init__" "NoDeed.__init__" sNoDeedI f fd)
    (GC : FnOk P w K mg base CX0 2 fC fdC ["self", "why"] (spCellInit K)) (mC : mg "CellError" = some (.ref CE)) (c : ClsFn K CE "__init__" fC) (kC : PySem.W.keepIn K (.ref fC) = true) (bC : L2.Binds K fdC ["self", "why"] []) :
    FnOk P w K mg base CX0 3 f fd ["self"] (spInit0 K C) := by
  refine F.ok scNoDeedI (fun vs H Q E h => ?_) (fun cdv A outer s H vs Q E hr h => ?_)
  · obtain ⟨a, rfl, _⟩ := h
    rfl
  · obtain ⟨a, rfl, T, ha, q⟩ := h
    refine ⟨_, pss_one (ps_expr (pe_clsfn c GC hr rfl mC kC bC .nil pass0 (pa_cons (pv 0) (pa_cons pe_str pa_nil)))), ?_⟩
    exact ⟨_, rfl, a, C, _, rfl, T, ha, q⟩
end
end CC
set_option Elab.async false
set_option maxRecDepth 100000
namespace CC
open PySem PySem.Spec PyProof.Rows L2
set_option linter.unusedVariables false
abbrev sKinds : Stmt := top 21
abbrev sLaw : Stmt := top 22
/-- where the classes stand, in the order in which kinds asks for them -/
structure Cls13 where
  (c0 c1 c2 c3 c4 c5 c6 c7 c8 c9 c10 c11 c12 : Addr)
def Cls13.all (c : Cls13) : List Addr := [c.c0, c.c1, c.c2, c.c3, c.c4, c.c5, c.c6, c.c7, c.c8, c.c9, c.c10, c.c11, c.c12]
structure Named (mg : Str → Option Value) (c : Cls13) : Prop where
  n0 : mg "BadProgram" = some (.ref c.c0)
  n1 : mg "NotOnce" = some (.ref c.c1)
  n2 : mg "BadField" = some (.ref c.c2)
  n3 : mg "BadCell" = some (.ref c.c3)
  n4 : mg "BadRun" = some (.ref c.c4)
  n5 : mg "BadCount" = some (.ref c.c5)
  n6 : mg "BadThread" = some (.ref c.c6)
  n7 : mg "BadText" = some (.ref c.c7)
  n8 : mg "Enough" = some (.ref c.c8)
  n9 : mg "BadSteps" = some (.ref c.c9)
  n10 : mg "BadSeen" = some (.ref c.c10)
  n11 : mg "BadScript" = some (.ref c.c11)
  n12 : mg "NoDeed" = some (.ref c.c12)
def spKinds (K : PySem.W.Frag) (c : Cls13) : Sp := fun vs H Q _ => ∃ (e C : Addr), vs = [.ref e] ∧ ExA H e C ∧ XcC K C ∧ (∀ d ∈ c.all, PySem.W.kitOne K (.ref C) (.ref d) = some (decide (C = d))) ∧
  ∀ (q : Addr) (H' : Hp), Same H H' → H' q = some (.lst (c.all.map fun d => V.bl (decide (C = d)))) → Q (.ref q) H'
section
variable {P : Program} {w : World} {K : PySem.W.Frag} {mg : Str → Option Value} {base : Heap}
theorem scKinds : FnScope ["_law_e", "_law_found"] ["_law_e"] (defScope sKinds) := ⟨rfl, rfl, rfl, by decide +kernel, rfl, by decide +kernel, by decide +kernel⟩
theorem ok_kinds {f : Addr} {fd : FuncData} {c : Cls13} (F : Fun K "_law_kinds" "_law_kinds" sKinds f fd) (N : Named mg c) (ti : mg "isinstance" = none) :
    FnOk P w K mg base CX0 1 f fd ["_law_e"] (spKinds K c) := by
  refine F.ok scKinds (fun vs H Q E h => ?_) (fun cdv A outer s H vs Q E hr h => ?_)
  · obtain ⟨e, C, rfl, _⟩ := h
    rfl
  · refine ⟨_, pss_cons (ps_set (i := 1) scKinds.nd rfl (Or.inl rfl) (pe_lst
        (pa_cons (pe_callB call_isX (by rfl) ti (by decide +kernel) (pa_cons (pv 0) (pa_cons (pe_glob (v := .ref c.c0) (by rfl) N.n0 rfl) pa_nil)))
        (pa_cons (pe_callB call_isX (by rfl) ti (by decide +kernel) (pa_cons (pv 0) (pa_cons (pe_glob (v := .ref c.c1) (by rfl) N.n1 rfl) pa_nil)))
        (pa_cons (pe_callB call_isX (by rfl) ti (by decide +kernel) (pa_cons (pv 0) (pa_cons (pe_glob (v := .ref c.c2) (by rfl) N.n2 rfl) pa_nil)))
        (pa_cons (pe_callB call_isX (by rfl) ti (by decide +kernel) (pa_cons (pv 0) (pa_cons (pe_glob (v := .ref c.c3) (by rfl) N.n3 rfl) pa_nil))) pa_nil))))))
      (pss_cons (ps_set (i := 1) scKinds.nd rfl (Or.inl rfl) (pe_op op_cat (pv 1) (pe_lst
        (pa_cons (pe_callB call_isX (by rfl) ti (by decide +kernel) (pa_cons (pv 0) (pa_cons (pe_glob (v := .ref c.c4) (by rfl) N.n4 rfl) pa_nil)))
        (pa_cons (pe_callB call_isX (by rfl) ti (by decide +kernel) (pa_cons (pv 0) (pa_cons (pe_glob (v := .ref c.c5) (by rfl) N.n5 rfl) pa_nil)))
        (pa_cons (pe_callB call_isX (by rfl) ti (by decide +kernel) (pa_cons (pv 0) (pa_cons (pe_glob (v := .ref c.c6) (by rfl) N.n6 rfl) pa_nil)))
        (pa_cons (pe_callB call_isX (by rfl) ti (by decide +kernel) (pa_cons (pv 0) (pa_cons (pe_glob (v := .ref c.c7) (by rfl) N.n7 rfl) pa_nil))) pa_nil)))))))
      (pss_cons (ps_set (i := 1) scKinds.nd rfl (Or.inl rfl) (pe_op op_cat (pv 1) (pe_lst
        (pa_cons (pe_callB call_isX (by rfl) ti (by decide +kernel) (pa_cons (pv 0) (pa_cons (pe_glob (v := .ref c.c8) (by rfl) N.n8 rfl) pa_nil)))
        (pa_cons (pe_callB call_isX (by rfl) ti (by decide +kernel) (pa_cons (pv 0) (pa_cons (pe_glob (v := .ref c.c9) (by rfl) N.n9 rfl) pa_nil)))
        (pa_cons (pe_callB call_isX (by rfl) ti (by decide +kernel) (pa_cons (pv 0) (pa_cons (pe_glob (v := .ref c.c10) (by rfl) N.n10 rfl) pa_nil))) pa_nil))))))
      (pss_one (ps_ret (pe_op op_cat (pv 1) (pe_lst
        (pa_cons (pe_callB call_isX (by rfl) ti (by decide +kernel) (pa_cons (pv 0) (pa_cons (pe_glob (v := .ref c.c11) (by rfl) N.n11 rfl) pa_nil)))
        (pa_cons (pe_callB call_isX (by rfl) ti (by decide +kernel) (pa_cons (pv 0) (pa_cons (pe_glob (v := .ref c.c12) (by rfl) N.n12 rfl) pa_nil))) pa_nil)))))))), ?_⟩
    obtain ⟨e, C, rfl, ex, xc, kt, q⟩ := h
    refine ⟨_, rfl, e, C, _, _, _, rfl, ex, xc, .own _, kt _ (by simp [Cls13.all]), ⟨_, rfl, e, C, _, _, _, rfl, ex, xc, .own _, kt _ (by simp [Cls13.all]), ⟨_, rfl, e, C, _, _, _, rfl, ex, xc, .own _, kt _ (by simp [Cls13.all]), ⟨_, rfl, e, C, _, _, _, rfl, ex, xc, .own _, kt _ (by simp [Cls13.all]), ⟨(by show 4 ≤ sizeLine; decide), fun p1 h1 => ?_⟩⟩⟩⟩⟩
    have s1 := same_new (o := .lst [V.bl (decide (C = c.c0)), V.bl (decide (C = c.c1)), V.bl (decide (C = c.c2)), V.bl (decide (C = c.c3))]) h1
    refine ⟨_, rfl, _, rfl, e, C, _, _, _, rfl, ex.same s1, xc, .own _, kt _ (by simp [Cls13.all]), ⟨_, rfl, e, C, _, _, _, rfl, ex.same s1, xc, .own _, kt _ (by simp [Cls13.all]), ⟨_, rfl, e, C, _, _, _, rfl, ex.same s1, xc, .own _, kt _ (by simp [Cls13.all]), ⟨_, rfl, e, C, _, _, _, rfl, ex.same s1, xc, .own _, kt _ (by simp [Cls13.all]), ⟨(by show 4 ≤ sizeLine; decide), fun p2 h2 => ?_⟩⟩⟩⟩⟩
    have s2 := same_tr s1 (same_new (o := .lst [V.bl (decide (C = c.c4)), V.bl (decide (C = c.c5)), V.bl (decide (C = c.c6)), V.bl (decide (C = c.c7))]) h2)
    refine ⟨p1, p2, _, _, rfl, rfl, (by rw [upd_ne (ne_of_none upd_same h2), upd_same]), upd_same, (by show 8 ≤ sizeLine; decide), fun p3 h3 => ?_⟩
    have s3 := same_tr s2 (same_new (o := .lst ([V.bl (decide (C = c.c0)), V.bl (decide (C = c.c1)), V.bl (decide (C = c.c2)), V.bl (decide (C = c.c3))] ++ [V.bl (decide (C = c.c4)), V.bl (decide (C = c.c5)), V.bl (decide (C = c.c6)), V.bl (decide (C = c.c7))])) h3)
    have g3 : ∀ {H3 : Hp} {o : HO}, (upd H3 p3 o) p3 = some o := fun {_ _} => upd_same
    have e3 := g3 (H3 := upd (upd H p1 (.lst [V.bl (decide (C = c.c0)), V.bl (decide (C = c.c1)), V.bl (decide (C = c.c2)), V.bl (decide (C = c.c3))])) p2 (.lst [V.bl (decide (C = c.c4)), V.bl (decide (C = c.c5)), V.bl (decide (C = c.c6)), V.bl (decide (C = c.c7))])) (o := .lst ([V.bl (decide (C = c.c0)), V.bl (decide (C = c.c1)), V.bl (decide (C = c.c2)), V.bl (decide (C = c.c3))] ++ [V.bl (decide (C = c.c4)), V.bl (decide (C = c.c5)), V.bl (decide (C = c.c6)), V.bl (decide (C = c.c7))]))
    revert s3 e3
    generalize upd (upd (upd H p1 (.lst [V.bl (decide (C = c.c0)), V.bl (decide (C = c.c1)), V.bl (decide (C = c.c2)), V.bl (decide (C = c.c3))])) p2 (.lst [V.bl (decide (C = c.c4)), V.bl (decide (C = c.c5)), V.bl (decide (C = c.c6)), V.bl (decide (C = c.c7))])) p3 (.lst ([V.bl (decide (C = c.c0)), V.bl (decide (C = c.c1)), V.bl (decide (C = c.c2)), V.bl (decide (C = c.c3))] ++ [V.bl (decide (C = c.c4)), V.bl (decide (C = c.c5)), V.bl (decide (C = c.c6)), V.bl (decide (C = c.c7))])) = H3
    intro s3 e3
    refine ⟨_, rfl, _, rfl, e, C, _, _, _, rfl, ex.same s3, xc, .own _, kt _ (by simp [Cls13.all]), ⟨_, rfl, e, C, _, _, _, rfl, ex.same s3, xc, .own _, kt _ (by simp [Cls13.all]), ⟨_, rfl, e, C, _, _, _, rfl, ex.same s3, xc, .own _, kt _ (by simp [Cls13.all]), ⟨(by show 3 ≤ sizeLine; decide), fun p4 h4 => ?_⟩⟩⟩⟩
    have s4 := same_tr s3 (same_new (o := .lst [V.bl (decide (C = c.c8)), V.bl (decide (C = c.c9)), V.bl (decide (C = c.c10))]) h4)
    refine ⟨p3, p4, _, _, rfl, rfl, (by rw [upd_ne (ne_of_none e3 h4)]; exact e3), upd_same, (by show 11 ≤ sizeLine; decide), fun p5 h5 => ?_⟩
    have s5 : ∀ o, Same H (upd (upd H3 p4 (.lst [V.bl (decide (C = c.c8)), V.bl (decide (C = c.c9)), V.bl (decide (C = c.c10))])) p5 o) := fun o => same_put s4 (s4.free h5)
    refine ⟨_, rfl, _, rfl, e, C, _, _, _, rfl, ex.same (s5 _), xc, .own _, kt _ (by simp [Cls13.all]), ⟨_, rfl, e, C, _, _, _, rfl, ex.same (s5 _), xc, .own _, kt _ (by simp [Cls13.all]), ⟨(by show 2 ≤ sizeLine; decide), fun p6 h6 => ?_⟩⟩⟩
    refine ⟨p5, p6, _, _, rfl, rfl, (by rw [upd_ne (ne_of_none upd_same h6), upd_same]), upd_same, (by show 13 ≤ sizeLine; decide), fun p7 h7 => ?_⟩
    exact q p7 _ (same_tr (same_tr (s5 _) (same_new h6)) (same_new h7)) upd_same
end
end CC
set_option Elab.async false
set_option maxRecDepth 100000
namespace CC
open PySem PySem.Spec PyProof.Rows L2
set_option linter.unusedVariables false
/-! ### a pair: the attribute of an error made by position, an error made by name -/
structure Er (P : Program) (w : World) (K : PySem.W.Frag) (mg : Str → Option Value) (base : Heap) (nm f : Str) (C fI : Addr) (fd : FuncData) : Prop where
  T : OexC K C
  init : PySem.W.findIn K (.ref C) "__init__" = some (some (.ref fI))
  fn : PySem.W.typeIn K (.ref fI) = some (.type "function")
  ok : FnOk P w K mg base CX0 3 fI fd ["self", f] (spInit K C f)
  b : L2.Binds K fd ["self", f] []
  kb : KBn K fd ["self", f] 1 [f] (fun us ws => us ++ ws) (fun vs zs => vs ++ zs)
  gm : mg nm = some (.ref C)
  xf : XfC K C
  nf : PySem.W.findIn K (.ref C) f = some none
theorem made_same {H : Hp} {a C dx : Addr} {f : Str} {x : V} (ha : H a = none) (hd : (upd H a (exo a C none)) dx = none) (n : dx ≠ a) : Same H (upd (upd (upd H a (exo a C none)) dx (exd dx [(f, x)])) a (exo a C (some dx))) := fun b o e => by
  have na : b ≠ a := ne_of_none e ha
  have nd : b ≠ dx := fun z => by
    rw [z] at e
    rw [upd_ne n, e] at hd
    cases hd
  rw [upd_ne na, upd_ne nd, upd_ne na]
  exact e
theorem made_exf {H : Hp} {a C dx : Addr} {f : Str} {x : V} (n : dx ≠ a) : ExF (upd (upd (upd H a (exo a C none)) dx (exd dx [(f, x)])) a (exo a C (some dx))) a C f x :=
  ⟨dx, upd_same, by rw [upd_ne n, upd_same]⟩
def PairAt (H : Hp) (x : V) (t e C : Addr) (f : Str) : Prop := H t = some (.tup [x, .ref e]) ∧ ExF H e C f x
theorem PairAt.same {H H' : Hp} {x : V} {t e C : Addr} {f : Str} (h : PairAt H x t e C f) (s : Same H H') : PairAt H' x t e C f := ⟨s _ _ h.1, h.2.same s⟩
abbrev tPair (K : PySem.W.Frag) (C : Addr) (f : Str) (i : Nat) : TE := tTup (tCons (tXa K f (tMkV C (spInit K C f) [] (tCons (tVar i) tNil))) (tCons (tMkK C 1 (spInit K C f) (fun vs zs => vs ++ zs) (tCons (tVar i) tNil)) tNil))
theorem pair_ask {K : PySem.W.Frag} {σ : L2.St} {H : Hp} {Q : VK} {C : Addr} {f : Str} {x : V} {i : Nat} (T : OexC K C) (xf : XfC K C) (nf : PySem.W.findIn K (.ref C) f = some none) (tv : ∀ (H : Hp) (Q : VK), Q x H → tVar i σ H Q) (xv : XV H x)
    (k : ∀ (t e : Addr) (H' : Hp), Same H H' → PairAt H' x t e C f → Q (.ref t) H') : tPair K C f i σ H Q := by
  refine tv _ _ ⟨(by show 1 ≤ 1000; decide), fun a ha => ⟨a, x, rfl, T, upd_same, xv.same (same_new ha), fun dx hdx n => ⟨rfl, a, C, x, rfl, made_exf n, xf, nf, ?_⟩⟩⟩
  have s1 := made_same (f := f) (x := x) ha hdx n
  revert s1
  generalize upd (upd (upd H a (exo a C none)) dx (exd dx [(f, x)])) a (exo a C (some dx)) = H1
  intro s1
  refine tv _ _ ⟨rfl, fun e he => ⟨e, x, rfl, T, upd_same, (xv.same s1).same (same_new he), fun dy hdy n2 => ⟨rfl, ?_⟩⟩⟩
  have s2 := same_tr s1 (made_same (f := f) (x := x) he hdy n2)
  have ef := made_exf (H := H1) (C := C) (f := f) (x := x) n2
  revert s2 ef
  generalize upd (upd (upd H1 e (exo e C none)) dy (exd dy [(f, x)])) e (exo e C (some dy)) = H2
  intro s2 ef
  exact ⟨(by show 2 ≤ sizeLine; decide), fun t ht => k t e _ (same_tr s2 (same_new ht)) ⟨upd_same, ef.same (same_new ht)⟩⟩
theorem seq_go {t u : TS} {D : Ends} {σ : L2.St} {H : Hp} (h : t { D with nx := u D } σ H) : tSeq t u D σ H := h
theorem asg_go {te : TE} {i : Nat} {D : Ends} {σ : L2.St} {H : Hp} (h : te σ H fun x H1 => D.nx (List.set σ i (some x)) H1) : tAsg te (gName i) D σ H := h
theorem seq_asg {te : TE} {i : Nat} {u : TS} {D : Ends} {σ : L2.St} {H : Hp} (h : te σ H fun x H1 => u D (List.set σ i (some x)) H1) : tSeq (tAsg te (gName i)) u D σ H := h
theorem cat_go {ta tb : TE} {σ : L2.St} {H : Hp} {Q : VK} {l : Addr} (tv : ∀ Q : VK, Q (.ref l) H → ta σ H Q) (h : tb σ H fun y H2 => rCat (.ref l) y H2 Q) : tOp rCat ta tb σ H Q := tv _ h
theorem lst2_go {t1 t2 : TE} {σ : L2.St} {H : Hp} {Q : VK} (h : t1 σ H fun x H1 => t2 σ H1 fun y H2 => ([x, y] : List V).length ≤ sizeLine ∧ ∀ q, H2 q = none → Q (.ref q) (upd H2 q (.lst [x, y]))) : tLst (tCons t1 (tCons t2 tNil)) σ H Q := h
theorem pair_ask2 {K : PySem.W.Frag} {σ : L2.St} {H : Hp} {Q : VK} {C C2 : Addr} {f f2 : Str} {x : V} {i : Nat} (T : OexC K C) (xf : XfC K C) (nf : PySem.W.findIn K (.ref C) f = some none) (T2 : OexC K C2) (xf2 : XfC K C2) (nf2 : PySem.W.findIn K (.ref C2) f2 = some none)
    (tv : ∀ (H : Hp) (Q : VK), Q x H → tVar i σ H Q) (xv : XV H x)
    (k : ∀ (t e t2 e2 q : Addr) (H' : Hp), Same H H' → PairAt H' x t e C f → PairAt H' x t2 e2 C2 f2 → H' q = some (.lst [.ref t, .ref t2]) → Q (.ref q) H') :
    tLst (tCons (tPair K C f i) (tCons (tPair K C2 f2 i) tNil)) σ H Q := by
  refine lst2_go (pair_ask T xf nf tv xv (fun t e H1 s1 p1 => ?_))
  refine pair_ask T2 xf2 nf2 tv (xv.same s1) (fun t2 e2 H2 s2 p2 => ?_)
  exact ⟨(by show 2 ≤ sizeLine; decide), fun q hq => k t e t2 e2 q _ (same_tr s1 (same_tr s2 (same_new hq))) (p1.same (same_tr s2 (same_new hq))) (p2.same (same_new hq)) upd_same⟩
end CC
set_option Elab.async false
set_option maxRecDepth 100000
namespace CC
open PySem PySem.Spec PyProof.Rows L2
set_option linter.unusedVariables false
/-! ### the law -/
def spLaw (K : PySem.W.Frag) : Sp := fun vs H Q _ => ∃ (a : Addr) (ns : List Int), vs = [.ref a] ∧ SqL K H a (ns.map V.int) ∧ ∀ H' : Hp, Q (.bl true) H'
abbrev NL : List Str := ["_law_script", "_law_source_here", "_law_x", "_law_pairs", "_law_errors", "_law_fields", "_law_k", "_law_base", "_law_pair", "_law_j"]
theorem scLaw : FnScope NL ["_law_script"] (defScope sLaw) := ⟨rfl, rfl, rfl, by decide +kernel, rfl, by decide +kernel, by decide +kernel⟩
/-- what isinstance says of an error of the class C -/
structure Kd (K : PySem.W.Frag) (c : Cls13) (CE C : Addr) : Prop where
  xc : XcC K C
  k : ∀ d ∈ c.all, PySem.W.kitOne K (.ref C) (.ref d) = some (decide (C = d))
  ce : PySem.W.kitOne K (.ref C) (.ref CE) = some true
  ve : PySem.W.kitOne K (.ref C) (.type "ValueError") = some true
theorem big_ok : CPowB 10 60 ∧ CPowB ((10 : Int) ^ (60 : Int).toNat) 64 ∧ CPowB (((10 : Int) ^ (60 : Int).toNat) ^ (64 : Int).toNat) 2 := by
  refine ⟨⟨by decide, by decide +kernel⟩, ⟨by decide, by decide +kernel⟩, ⟨by decide, by decide +kernel⟩⟩
theorem kinds_eq {l : List Addr} (nd : l.Nodup) {i : Nat} {C : Addr} (h : l[i]? = some C) : l.map (fun d => V.bl (decide (C = d))) = (List.range l.length).map fun (j : Nat) => V.bl (decide (V.int (i : Nat) = V.int (0 + (j : Nat)))) := by
  obtain ⟨hi, hC⟩ := List.getElem?_eq_some_iff.mp h
  refine List.ext_getElem (by simp) fun j h1 h2 => ?_
  have hj : j < l.length := by simpa using h1
  simp only [List.getElem_map, List.getElem_range, Int.zero_add]
  congr 1
  have pw := List.pairwise_iff_getElem.mp nd
  have e : (C = l[j]) ↔ (V.int (i : Nat) = V.int (j : Nat)) := by
    rw [← hC]
    refine ⟨fun z => ?_, fun z => ?_⟩
    · rcases Nat.lt_trichotomy i j with q | q | q
      · exact absurd z (pw i j hi hj q)
      · rw [q]
      · exact absurd z.symm (pw j i hj hi q)
    · injection z with z
      have : i = j := by omega
      subst this
      rfl
  exact decide_eq_decide.mpr e
theorem any_no {l : List Addr} {C : Addr} (h : C ∉ l) : (l.map fun d => decide (C = d)).any id = false := by
  rw [List.any_eq_false]
  intro b hb
  obtain ⟨d, hd, rfl⟩ := List.mem_map.mp hb
  have : C ≠ d := fun z => h (by rw [z]; exact hd)
  simp [this]
theorem gN (i : Nat) : gName i = fun v σ H Q => Q (List.set σ i (some v)) H := rfl
section
variable {P : Program} {w : World} {K : PySem.W.Frag} {mg : Str → Option Value} {base : Heap} {c : Cls13} {f fS fP fK fEd CE : Addr} {fd fdS fdP fdK fdN fdE : FuncData}
set_option maxHeartbeats 4000000 in
theorem ok_law {g0 g1 g2 g3 g4 g5 g6 g7 g8 g9 g10 g11 : Addr} {fd0 fd1 fd2 fd3 fd4 fd5 fd6 fd7 fd8 fd9 fd10 fd11 : FuncData} {fNd : Addr} (F : Fun K "law" "law" sLaw f fd)
    (GS : FnOk P w K mg base CX0 1 fS fdS ["_law_script"] (spSource K)) (mS : mg "_law_source" = some (.ref fS)) (kS : PySem.W.keepIn K (.ref fS) = true) (bS : L2.Binds K fdS ["_law_script"] [])
    (GP : FnOk P w K mg base CX0 2 fP fdP ["_law_source_here", "_law_things"] (spPick K)) (mP : mg "_law_pick" = some (.ref fP)) (kP : PySem.W.keepIn K (.ref fP) = true) (bP : L2.Binds K fdP ["_law_source_here", "_law_things"] [])
    (GK : FnOk P w K mg base CX0 1 fK fdK ["_law_e"] (spKinds K c)) (mK : mg "_law_kinds" = some (.ref fK)) (kK : PySem.W.keepIn K (.ref fK) = true) (bK : L2.Binds K fdK ["_law_e"] [])
    (E0 : Er P w K mg base "BadProgram" "row" c.c0 g0 fd0)
    (E1 : Er P w K mg base "NotOnce" "row" c.c1 g1 fd1)
    (E2 : Er P w K mg base "BadField" "place" c.c2 g2 fd2)
    (E3 : Er P w K mg base "BadCell" "name" c.c3 g3 fd3)
    (E4 : Er P w K mg base "BadRun" "index" c.c4 g4 fd4)
    (E5 : Er P w K mg base "BadCount" "count" c.c5 g5 fd5)
    (E6 : Er P w K mg base "BadThread" "thread" c.c6 g6 fd6)
    (E7 : Er P w K mg base "BadText" "line" c.c7 g7 fd7)
    (E8 : Er P w K mg base "Enough" "number" c.c8 g8 fd8)
    (E9 : Er P w K mg base "BadSteps" "steps" c.c9 g9 fd9)
    (E10 : Er P w K mg base "BadSeen" "index" c.c10 g10 fd10)
    (E11 : Er P w K mg base "BadScript" "line" c.c11 g11 fd11)
    (TN : OexC K c.c12) (iN : PySem.W.findIn K (.ref c.c12) "__init__" = some (some (.ref fNd))) (fN : PySem.W.typeIn K (.ref fNd) = some (.type "function")) (GN : FnOk P w K mg base CX0 3 fNd fdN ["self"] (spInit0 K c.c12)) (bN : L2.Binds K fdN ["self"] []) (mN : mg "NoDeed" = some (.ref c.c12))
    (TE_ : OexC K CE) (iE : PySem.W.findIn K (.ref CE) "__init__" = some (some (.ref fEd))) (fE : PySem.W.typeIn K (.ref fEd) = some (.type "function")) (GE : FnOk P w K mg base CX0 2 fEd fdE ["self", "why"] (spCellInit K)) (bE : L2.Binds K fdE ["self", "why"] []) (mE : mg "CellError" = some (.ref CE))
    (kd : ∀ d ∈ c.all, Kd K c CE d) (kE : XcC K CE) (kE0 : ∀ d ∈ c.all, PySem.W.kitOne K (.ref CE) (.ref d) = some (decide (CE = d))) (kEv : PySem.W.kitOne K (.ref CE) (.type "ValueError") = some true) (nd : (CE :: c.all).Nodup)
    (ti : mg "isinstance" = none) (tv : mg "ValueError" = none) (tr : mg "range" = none) (tl : mg "len" = none) (ta : mg "any" = none) :
    FnOk P w K mg base CX0 5 f fd ["_law_script"] (spLaw K) := by
  refine F.ok scLaw (fun vs H Q E h => ?_) (fun cdv A outer s H vs Q E hr h => ?_)
  · obtain ⟨a, ns, rfl, _⟩ := h
    rfl
  · obtain ⟨a, ns, rfl, ha, k⟩ := h
    have hr1 : Room 1 _ := hr.mono (by decide)
    have hr2 : Room 2 _ := hr.mono (by decide)
    have hr3 : Room 3 _ := hr.mono (by decide)
    have hr4 : Room 4 _ := hr.mono (by decide)
    refine ⟨_, (pss_cons (ps_set (i := 1) scLaw.nd rfl (Or.inl rfl) (pe_call GS hr1 rfl mS kS bS .nil pass0 (pa_cons (pv 0) pa_nil)))
      (pss_cons (ps_set (i := 2) scLaw.nd rfl (Or.inl rfl) (pe_call GP hr2 rfl mP kP bP .nil pass0 (pa_cons (pv 1) (pa_cons (pe_lst (pa_cons pe_non (pa_cons pe_int (pa_cons pe_str (pa_cons (pe_tup (pa_cons pe_str (pa_cons pe_int pa_nil))) (pa_cons (pe_lst (pa_cons pe_str pa_nil)) (pa_cons pe_dnewK (pa_cons (pe_op op_powB (pe_op op_powB (pe_op op_powB pe_int pe_int) pe_int) pe_int) (pa_cons pe_bl pa_nil))))))))) pa_nil))))
      (pss_cons (ps_set (i := 3) scLaw.nd rfl (Or.inl rfl) (pe_lst (pa_cons (pe_tup (pa_cons (pe_xa (pe_oexV ⟨E0.T, E0.init, E0.fn⟩ E0.ok hr4 E0.b .nil pass0 (by rfl) E0.gm (pa_cons (pv 2) pa_nil))) (pa_cons (pe_oexK ⟨E0.T, E0.init, E0.fn⟩ E0.ok hr4 E0.kb pass0 (by rfl) E0.gm (pk_cons (pv 2) pk_nil)) pa_nil))) (pa_cons (pe_tup (pa_cons (pe_xa (pe_oexV ⟨E1.T, E1.init, E1.fn⟩ E1.ok hr4 E1.b .nil pass0 (by rfl) E1.gm (pa_cons (pv 2) pa_nil))) (pa_cons (pe_oexK ⟨E1.T, E1.init, E1.fn⟩ E1.ok hr4 E1.kb pass0 (by rfl) E1.gm (pk_cons (pv 2) pk_nil)) pa_nil))) pa_nil))))
      (pss_cons (ps_set (i := 3) scLaw.nd rfl (Or.inl rfl) (pe_op op_cat (pv 3) (pe_lst (pa_cons (pe_tup (pa_cons (pe_xa (pe_oexV ⟨E2.T, E2.init, E2.fn⟩ E2.ok hr4 E2.b .nil pass0 (by rfl) E2.gm (pa_cons (pv 2) pa_nil))) (pa_cons (pe_oexK ⟨E2.T, E2.init, E2.fn⟩ E2.ok hr4 E2.kb pass0 (by rfl) E2.gm (pk_cons (pv 2) pk_nil)) pa_nil))) (pa_cons (pe_tup (pa_cons (pe_xa (pe_oexV ⟨E3.T, E3.init, E3.fn⟩ E3.ok hr4 E3.b .nil pass0 (by rfl) E3.gm (pa_cons (pv 2) pa_nil))) (pa_cons (pe_oexK ⟨E3.T, E3.init, E3.fn⟩ E3.ok hr4 E3.kb pass0 (by rfl) E3.gm (pk_cons (pv 2) pk_nil)) pa_nil))) pa_nil)))))
      (pss_cons (ps_set (i := 3) scLaw.nd rfl (Or.inl rfl) (pe_op op_cat (pv 3) (pe_lst (pa_cons (pe_tup (pa_cons (pe_xa (pe_oexV ⟨E4.T, E4.init, E4.fn⟩ E4.ok hr4 E4.b .nil pass0 (by rfl) E4.gm (pa_cons (pv 2) pa_nil))) (pa_cons (pe_oexK ⟨E4.T, E4.init, E4.fn⟩ E4.ok hr4 E4.kb pass0 (by rfl) E4.gm (pk_cons (pv 2) pk_nil)) pa_nil))) (pa_cons (pe_tup (pa_cons (pe_xa (pe_oexV ⟨E5.T, E5.init, E5.fn⟩ E5.ok hr4 E5.b .nil pass0 (by rfl) E5.gm (pa_cons (pv 2) pa_nil))) (pa_cons (pe_oexK ⟨E5.T, E5.init, E5.fn⟩ E5.ok hr4 E5.kb pass0 (by rfl) E5.gm (pk_cons (pv 2) pk_nil)) pa_nil))) pa_nil)))))
      (pss_cons (ps_set (i := 3) scLaw.nd rfl (Or.inl rfl) (pe_op op_cat (pv 3) (pe_lst (pa_cons (pe_tup (pa_cons (pe_xa (pe_oexV ⟨E6.T, E6.init, E6.fn⟩ E6.ok hr4 E6.b .nil pass0 (by rfl) E6.gm (pa_cons (pv 2) pa_nil))) (pa_cons (pe_oexK ⟨E6.T, E6.init, E6.fn⟩ E6.ok hr4 E6.kb pass0 (by rfl) E6.gm (pk_cons (pv 2) pk_nil)) pa_nil))) (pa_cons (pe_tup (pa_cons (pe_xa (pe_oexV ⟨E7.T, E7.init, E7.fn⟩ E7.ok hr4 E7.b .nil pass0 (by rfl) E7.gm (pa_cons (pv 2) pa_nil))) (pa_cons (pe_oexK ⟨E7.T, E7.init, E7.fn⟩ E7.ok hr4 E7.kb pass0 (by rfl) E7.gm (pk_cons (pv 2) pk_nil)) pa_nil))) pa_nil)))))
      (pss_cons (ps_set (i := 3) scLaw.nd rfl (Or.inl rfl) (pe_op op_cat (pv 3) (pe_lst (pa_cons (pe_tup (pa_cons (pe_xa (pe_oexV ⟨E8.T, E8.init, E8.fn⟩ E8.ok hr4 E8.b .nil pass0 (by rfl) E8.gm (pa_cons (pv 2) pa_nil))) (pa_cons (pe_oexK ⟨E8.T, E8.init, E8.fn⟩ E8.ok hr4 E8.kb pass0 (by rfl) E8.gm (pk_cons (pv 2) pk_nil)) pa_nil))) (pa_cons (pe_tup (pa_cons (pe_xa (pe_oexV ⟨E9.T, E9.init, E9.fn⟩ E9.ok hr4 E9.b .nil pass0 (by rfl) E9.gm (pa_cons (pv 2) pa_nil))) (pa_cons (pe_oexK ⟨E9.T, E9.init, E9.fn⟩ E9.ok hr4 E9.kb pass0 (by rfl) E9.gm (pk_cons (pv 2) pk_nil)) pa_nil))) pa_nil)))))
      (pss_cons (ps_set (i := 3) scLaw.nd rfl (Or.inl rfl) (pe_op op_cat (pv 3) (pe_lst (pa_cons (pe_tup (pa_cons (pe_xa (pe_oexV ⟨E10.T, E10.init, E10.fn⟩ E10.ok hr4 E10.b .nil pass0 (by rfl) E10.gm (pa_cons (pv 2) pa_nil))) (pa_cons (pe_oexK ⟨E10.T, E10.init, E10.fn⟩ E10.ok hr4 E10.kb pass0 (by rfl) E10.gm (pk_cons (pv 2) pk_nil)) pa_nil))) (pa_cons (pe_tup (pa_cons (pe_xa (pe_oexV ⟨E11.T, E11.init, E11.fn⟩ E11.ok hr4 E11.b .nil pass0 (by rfl) E11.gm (pa_cons (pv 2) pa_nil))) (pa_cons (pe_oexK ⟨E11.T, E11.init, E11.fn⟩ E11.ok hr4 E11.kb pass0 (by rfl) E11.gm (pk_cons (pv 2) pk_nil)) pa_nil))) pa_nil)))))
      (pss_cons (ps_set (i := 4) scLaw.nd rfl (Or.inl rfl) (pe_op op_cat (pe_lc (own := [("_law_pair", 8)]) (g := gName 8) (by rfl) scLaw.nd (pi_list (pv 3)) (blkOk_by (own := [("_law_pair", 8)]) (N := NL) (sc := defScope sLaw) (by decide +kernel)) (fun _ _ _ _ _ => pg_name (i := 8) scLaw.nd rfl (Or.inl rfl)) (fun _ _ _ _ _ => pts_nil) (fun _ _ _ _ _ => pe_ix (ix_tupK (K := K) rfl) (pv 8) pe_int (fun _ _ => rfl))) (pe_lst (pa_cons (pe_oex0 ⟨TN, iN, fN⟩ GN hr4 bN pass0 (by rfl) mN rfl) pa_nil))))
      (pss_cons (ps_set (i := 5) scLaw.nd rfl (Or.inl rfl) (pe_lst (pa_cons (pe_xa (pe_ix ix_list (pv 4) pe_int (fun _ _ => rfl))) (pa_cons (pe_xa (pe_ix ix_list (pv 4) pe_int (fun _ _ => rfl))) (pa_cons (pe_xa (pe_ix ix_list (pv 4) pe_int (fun _ _ => rfl))) (pa_cons (pe_xa (pe_ix ix_list (pv 4) pe_int (fun _ _ => rfl))) (pa_cons (pe_xa (pe_ix ix_list (pv 4) pe_int (fun _ _ => rfl))) (pa_cons (pe_xa (pe_ix ix_list (pv 4) pe_int (fun _ _ => rfl))) pa_nil))))))))
      (pss_cons (ps_set (i := 5) scLaw.nd rfl (Or.inl rfl) (pe_op op_cat (pv 5) (pe_lst (pa_cons (pe_xa (pe_ix ix_list (pv 4) pe_int (fun _ _ => rfl))) (pa_cons (pe_xa (pe_ix ix_list (pv 4) pe_int (fun _ _ => rfl))) (pa_cons (pe_xa (pe_ix ix_list (pv 4) pe_int (fun _ _ => rfl))) pa_nil))))))
      (pss_cons (ps_set (i := 5) scLaw.nd rfl (Or.inl rfl) (pe_op op_cat (pv 5) (pe_lst (pa_cons (pe_xa (pe_ix ix_list (pv 4) pe_int (fun _ _ => rfl))) (pa_cons (pe_xa (pe_ix ix_list (pv 4) pe_int (fun _ _ => rfl))) (pa_cons (pe_xa (pe_ix ix_list (pv 4) pe_int (fun _ _ => rfl))) pa_nil))))))
      (pss_cons (ps_if (PW.pt (pw_or (pt_cmpR (op_neS (Nat.lt_of_le_of_lt (Nat.le_add_right _ 64) hr.units)) (pe_lc (own := [("_law_pair", 8)]) (g := gName 8) (by rfl) scLaw.nd (pi_list (pv 3)) (blkOk_by (own := [("_law_pair", 8)]) (N := NL) (sc := defScope sLaw) (by decide +kernel)) (fun _ _ _ _ _ => pg_name (i := 8) scLaw.nd rfl (Or.inl rfl)) (fun _ _ _ _ _ => pts_nil) (fun _ _ _ _ _ => pe_ix (ix_tupK (K := K) rfl) (pv 8) pe_int (fun _ _ => rfl))) (pe_op op_rep (pe_lst (pa_cons (pv 2) pa_nil)) pe_int) (nomark _)) (pw_or1 (pt_cmpR (op_neS (Nat.lt_of_le_of_lt (Nat.le_add_right _ 64) hr.units)) (pv 5) (pe_op op_rep (pe_lst (pa_cons (pv 2) pa_nil)) pe_int) (nomark _))))) (pss_one (ps_ret pe_bl)) pss_nil)
      (pss_cons (ps_for PassesOwn.never rfl (pi_range1 rfl tr (pa_cons (pe_callB call_len_seq (by rfl) tl (by decide +kernel) (pa_cons (pv 4) pa_nil)) pa_nil)) (pg_name (i := 6) scLaw.nd rfl (Or.inr rfl)) (pss_cons (ps_if (PW.pt (pw_or (pt_not (pt_val (pe_callB call_isX (by rfl) ti (by decide +kernel) (pa_cons (pe_ix ix_list (pv 4) (pv 6) (fun _ _ => rfl)) (pa_cons (pe_glob (v := .ref CE) (by rfl) mE rfl) pa_nil))))) (pw_or1 (pt_not (pt_val (pe_callB call_isX (by rfl) ti (by decide +kernel) (pa_cons (pe_ix ix_list (pv 4) (pv 6) (fun _ _ => rfl)) (pa_cons (pe_bltn (v := .ty "ValueError") (by rfl) tv (by decide +kernel) rfl) pa_nil)))))))) (pss_one (ps_ret pe_bl)) pss_nil) (pss_one (ps_if (pt_cmpR (op_neS (Nat.lt_of_le_of_lt (Nat.le_add_right _ 64) hr.units)) (pe_call GK hr1 rfl mK kK bK .nil pass0 (pa_cons (pe_ix ix_list (pv 4) (pv 6) (fun _ _ => rfl)) pa_nil)) (pe_lc (own := [("_law_j", 9)]) (g := gName 9) (by rfl) scLaw.nd (pi_range1 rfl tr (pa_cons (pe_callB call_len_seq (by rfl) tl (by decide +kernel) (pa_cons (pv 4) pa_nil)) pa_nil)) (blkOk_by (own := [("_law_j", 9)]) (N := NL) (sc := defScope sLaw) (by decide +kernel)) (fun _ _ _ _ _ => pg_name (i := 9) scLaw.nd rfl (Or.inl rfl)) (fun _ _ _ _ _ => pts_nil) (fun _ _ _ _ _ => pe_cmpR op_eq (pv 6) (pv 9) (nomark _))) (nomark _)) (pss_one (ps_ret pe_bl)) pss_nil))))
      (pss_cons (ps_set (i := 7) scLaw.nd rfl (Or.inl rfl) (pe_oexV ⟨TE_, iE, fE⟩ GE hr3 bE .nil pass0 (by rfl) mE (pa_cons pe_str pa_nil)))
      (pss_one (ps_ret (pe_and (pe_callB call_isX (by rfl) ti (by decide +kernel) (pa_cons (pv 7) (pa_cons (pe_bltn (v := .ty "ValueError") (by rfl) tv (by decide +kernel) rfl) pa_nil))) (pe_one (pe_not (pe_callB (cr_any rfl) (by rfl) ta (by decide +kernel) (pa_cons (pe_call GK hr1 rfl mK kK bK .nil pass0 (pa_cons (pv 7) pa_nil)) pa_nil)))))))))))))))))))))), ?_⟩
    refine ⟨_, rfl, a, ns, rfl, ha, fun p H1 s1 hp0 hp => ?_⟩
    rw [gN 1]
    dsimp only
    refine seq_via (fun σ' H' => ∃ (x : V), σ' = [some (.ref a), some (.ref p), some x, none, none, none, none, none, none, none] ∧ XV H' x) (fun σ' H' hz => ?_) (fun D' hD' => ?_)
    rotate_left
    · obtain ⟨b1, b2, b3⟩ := big_ok
      refine ⟨_, rfl, (by show 2 ≤ sizeLine; decide), fun t ht => ⟨(by show 1 ≤ sizeLine; decide), fun l1 hl1 => fun d hd => ?_⟩⟩
      refine ⟨_, _, rfl, rfl, b1, _, _, rfl, rfl, b2, _, _, rfl, rfl, b3, ?_⟩
      refine ⟨(by show 8 ≤ sizeLine; decide), fun l hl => ?_⟩
      have np1 := hp.ne ht
      have p2 := hp.new (o := .tup [V.str "a", V.int 1]) ht
      have np2 := p2.ne hl1
      have p3 := p2.new (o := .lst [V.str "b"]) hl1
      have np3 := p3.ne hd
      have p4 := p3.new (o := .dK []) hd
      have np := p4.ne hl
      have ft : ∀ o, (upd (upd (upd (upd H1 t (.tup [V.str "a", V.int 1])) l1 (.lst [V.str "b"])) d (.dK [])) l o) t = some (.tup [V.str "a", V.int 1]) := fun o => same_new hl _ _ (same_new hd _ _ (same_new hl1 _ _ upd_same))
      have fl : ∀ o, (upd (upd (upd (upd H1 t (.tup [V.str "a", V.int 1])) l1 (.lst [V.str "b"])) d (.dK [])) l o) l1 = some (.lst [V.str "b"]) := fun o => same_new hl _ _ (same_new hd _ _ upd_same)
      have fd_ : ∀ o, (upd (upd (upd (upd H1 t (.tup [V.str "a", V.int 1])) l1 (.lst [V.str "b"])) d (.dK [])) l o) d = some (.dK []) := fun o => same_new hl _ _ upd_same
      refine ⟨p, l, 0, _, rfl, p4.new hl, by decide, upd_same, (by show 0 < 8; decide), (by show 8 < 1000; decide), np, fun x H' hx gr sr => hD' _ _ ⟨x, rfl, ?_⟩⟩
      rcases List.mem_cons.mp hx with rfl | hx
      · exact .non
      rcases List.mem_cons.mp hx with rfl | hx
      · exact .int _
      rcases List.mem_cons.mp hx with rfl | hx
      · exact .str _ (by decide +kernel)
      rcases List.mem_cons.mp hx with rfl | hx
      · exact .tup (gr _ _ (ft _) np1.symm)
      rcases List.mem_cons.mp hx with rfl | hx
      · exact .lst (gr _ _ (fl _) np2.symm)
      rcases List.mem_cons.mp hx with rfl | hx
      · exact .dic (gr _ _ (fd_ _) np3.symm)
      rcases List.mem_cons.mp hx with rfl | hx
      · exact .int _
      rcases List.mem_cons.mp hx with rfl | hx
      · exact .bl _
      · cases hx
    obtain ⟨x, rfl, xv⟩ := hz
    have tv : ∀ (v3 v4 v5 v6 v7 v8 v9 : Option V) (H : Hp) (Q : VK), Q x H → tVar 2 [some (.ref a), some (.ref p), some x, v3, v4, v5, v6, v7, v8, v9] H Q := fun _ _ _ _ _ _ _ _ _ q => ⟨_, rfl, q⟩
    clear hp hp0 s1
    refine seq_asg ((pair_ask2 (K := K) E0.T E0.xf E0.nf E1.T E1.xf E1.nf (tv _ _ _ _ _ _ _) xv (fun t0 e0 t1 e1 Lq0 H0 s0 a0 a1 h0 => ?_)))
    have xv0 := xv.same s0
    refine seq_asg ((cat_go (l := Lq0) (fun _ q => ⟨_, rfl, q⟩) (pair_ask2 (K := K) E2.T E2.xf E2.nf E3.T E3.xf E3.nf (tv _ _ _ _ _ _ _) xv0 (fun t2 e2 t3 e3 M1 H1' s1' a2' a3' h1' => ?_))))
    refine ⟨Lq0, M1, _, _, rfl, rfl, s1' _ _ h0, h1', (by show 4 ≤ sizeLine; decide), fun Lq1 hLq1 => ?_⟩
    have s1 := same_tr s1' (same_new (o := .lst ([V.ref t0, V.ref t1] ++ [V.ref t2, V.ref t3])) hLq1)
    have a2 := a2'.same (same_new (o := .lst ([V.ref t0, V.ref t1] ++ [V.ref t2, V.ref t3])) hLq1)
    have a3 := a3'.same (same_new (o := .lst ([V.ref t0, V.ref t1] ++ [V.ref t2, V.ref t3])) hLq1)
    have h1 : (upd H1' Lq1 (.lst ([V.ref t0, V.ref t1] ++ [V.ref t2, V.ref t3]))) Lq1 = some (.lst [V.ref t0, V.ref t1, V.ref t2, V.ref t3]) := upd_same
    revert s1 a2 a3 h1
    generalize upd H1' Lq1 (.lst ([V.ref t0, V.ref t1] ++ [V.ref t2, V.ref t3])) = H1
    intro s1 a2 a3 h1
    clear a2' a3' s1' h1' hLq1
    replace h0 : True := trivial
    replace a0 := a0.same s1
    replace a1 := a1.same s1
    have xv1 := xv0.same s1
    refine seq_asg ((cat_go (l := Lq1) (fun _ q => ⟨_, rfl, q⟩) (pair_ask2 (K := K) E4.T E4.xf E4.nf E5.T E5.xf E5.nf (tv _ _ _ _ _ _ _) xv1 (fun t4 e4 t5 e5 M2 H2' s2' a4' a5' h2' => ?_))))
    refine ⟨Lq1, M2, _, _, rfl, rfl, s2' _ _ h1, h2', (by show 6 ≤ sizeLine; decide), fun Lq2 hLq2 => ?_⟩
    have s2 := same_tr s2' (same_new (o := .lst ([V.ref t0, V.ref t1, V.ref t2, V.ref t3] ++ [V.ref t4, V.ref t5])) hLq2)
    have a4 := a4'.same (same_new (o := .lst ([V.ref t0, V.ref t1, V.ref t2, V.ref t3] ++ [V.ref t4, V.ref t5])) hLq2)
    have a5 := a5'.same (same_new (o := .lst ([V.ref t0, V.ref t1, V.ref t2, V.ref t3] ++ [V.ref t4, V.ref t5])) hLq2)
    have h2 : (upd H2' Lq2 (.lst ([V.ref t0, V.ref t1, V.ref t2, V.ref t3] ++ [V.ref t4, V.ref t5]))) Lq2 = some (.lst [V.ref t0, V.ref t1, V.ref t2, V.ref t3, V.ref t4, V.ref t5]) := upd_same
    revert s2 a4 a5 h2
    generalize upd H2' Lq2 (.lst ([V.ref t0, V.ref t1, V.ref t2, V.ref t3] ++ [V.ref t4, V.ref t5])) = H2
    intro s2 a4 a5 h2
    clear a4' a5' s2' h2' hLq2
    replace h1 : True := trivial
    replace a0 := a0.same s2
    replace a1 := a1.same s2
    replace a2 := a2.same s2
    replace a3 := a3.same s2
    have xv2 := xv1.same s2
    refine seq_asg ((cat_go (l := Lq2) (fun _ q => ⟨_, rfl, q⟩) (pair_ask2 (K := K) E6.T E6.xf E6.nf E7.T E7.xf E7.nf (tv _ _ _ _ _ _ _) xv2 (fun t6 e6 t7 e7 M3 H3' s3' a6' a7' h3' => ?_))))
    refine ⟨Lq2, M3, _, _, rfl, rfl, s3' _ _ h2, h3', (by show 8 ≤ sizeLine; decide), fun Lq3 hLq3 => ?_⟩
    have s3 := same_tr s3' (same_new (o := .lst ([V.ref t0, V.ref t1, V.ref t2, V.ref t3, V.ref t4, V.ref t5] ++ [V.ref t6, V.ref t7])) hLq3)
    have a6 := a6'.same (same_new (o := .lst ([V.ref t0, V.ref t1, V.ref t2, V.ref t3, V.ref t4, V.ref t5] ++ [V.ref t6, V.ref t7])) hLq3)
    have a7 := a7'.same (same_new (o := .lst ([V.ref t0, V.ref t1, V.ref t2, V.ref t3, V.ref t4, V.ref t5] ++ [V.ref t6, V.ref t7])) hLq3)
    have h3 : (upd H3' Lq3 (.lst ([V.ref t0, V.ref t1, V.ref t2, V.ref t3, V.ref t4, V.ref t5] ++ [V.ref t6, V.ref t7]))) Lq3 = some (.lst [V.ref t0, V.ref t1, V.ref t2, V.ref t3, V.ref t4, V.ref t5, V.ref t6, V.ref t7]) := upd_same
    revert s3 a6 a7 h3
    generalize upd H3' Lq3 (.lst ([V.ref t0, V.ref t1, V.ref t2, V.ref t3, V.ref t4, V.ref t5] ++ [V.ref t6, V.ref t7])) = H3
    intro s3 a6 a7 h3
    clear a6' a7' s3' h3' hLq3
    replace h2 : True := trivial
    replace a0 := a0.same s3
    replace a1 := a1.same s3
    replace a2 := a2.same s3
    replace a3 := a3.same s3
    replace a4 := a4.same s3
    replace a5 := a5.same s3
    have xv3 := xv2.same s3
    refine seq_asg ((cat_go (l := Lq3) (fun _ q => ⟨_, rfl, q⟩) (pair_ask2 (K := K) E8.T E8.xf E8.nf E9.T E9.xf E9.nf (tv _ _ _ _ _ _ _) xv3 (fun t8 e8 t9 e9 M4 H4' s4' a8' a9' h4' => ?_))))
    refine ⟨Lq3, M4, _, _, rfl, rfl, s4' _ _ h3, h4', (by show 10 ≤ sizeLine; decide), fun Lq4 hLq4 => ?_⟩
    have s4 := same_tr s4' (same_new (o := .lst ([V.ref t0, V.ref t1, V.ref t2, V.ref t3, V.ref t4, V.ref t5, V.ref t6, V.ref t7] ++ [V.ref t8, V.ref t9])) hLq4)
    have a8 := a8'.same (same_new (o := .lst ([V.ref t0, V.ref t1, V.ref t2, V.ref t3, V.ref t4, V.ref t5, V.ref t6, V.ref t7] ++ [V.ref t8, V.ref t9])) hLq4)
    have a9 := a9'.same (same_new (o := .lst ([V.ref t0, V.ref t1, V.ref t2, V.ref t3, V.ref t4, V.ref t5, V.ref t6, V.ref t7] ++ [V.ref t8, V.ref t9])) hLq4)
    have h4 : (upd H4' Lq4 (.lst ([V.ref t0, V.ref t1, V.ref t2, V.ref t3, V.ref t4, V.ref t5, V.ref t6, V.ref t7] ++ [V.ref t8, V.ref t9]))) Lq4 = some (.lst [V.ref t0, V.ref t1, V.ref t2, V.ref t3, V.ref t4, V.ref t5, V.ref t6, V.ref t7, V.ref t8, V.ref t9]) := upd_same
    revert s4 a8 a9 h4
    generalize upd H4' Lq4 (.lst ([V.ref t0, V.ref t1, V.ref t2, V.ref t3, V.ref t4, V.ref t5, V.ref t6, V.ref t7] ++ [V.ref t8, V.ref t9])) = H4
    intro s4 a8 a9 h4
    clear a8' a9' s4' h4' hLq4
    replace h3 : True := trivial
    replace a0 := a0.same s4
    replace a1 := a1.same s4
    replace a2 := a2.same s4
    replace a3 := a3.same s4
    replace a4 := a4.same s4
    replace a5 := a5.same s4
    replace a6 := a6.same s4
    replace a7 := a7.same s4
    have xv4 := xv3.same s4
    refine seq_asg ((cat_go (l := Lq4) (fun _ q => ⟨_, rfl, q⟩) (pair_ask2 (K := K) E10.T E10.xf E10.nf E11.T E11.xf E11.nf (tv _ _ _ _ _ _ _) xv4 (fun t10 e10 t11 e11 M5 H5' s5' a10' a11' h5' => ?_))))
    refine ⟨Lq4, M5, _, _, rfl, rfl, s5' _ _ h4, h5', (by show 12 ≤ sizeLine; decide), fun Lq5 hLq5 => ?_⟩
    have s5 := same_tr s5' (same_new (o := .lst ([V.ref t0, V.ref t1, V.ref t2, V.ref t3, V.ref t4, V.ref t5, V.ref t6, V.ref t7, V.ref t8, V.ref t9] ++ [V.ref t10, V.ref t11])) hLq5)
    have a10 := a10'.same (same_new (o := .lst ([V.ref t0, V.ref t1, V.ref t2, V.ref t3, V.ref t4, V.ref t5, V.ref t6, V.ref t7, V.ref t8, V.ref t9] ++ [V.ref t10, V.ref t11])) hLq5)
    have a11 := a11'.same (same_new (o := .lst ([V.ref t0, V.ref t1, V.ref t2, V.ref t3, V.ref t4, V.ref t5, V.ref t6, V.ref t7, V.ref t8, V.ref t9] ++ [V.ref t10, V.ref t11])) hLq5)
    have h5 : (upd H5' Lq5 (.lst ([V.ref t0, V.ref t1, V.ref t2, V.ref t3, V.ref t4, V.ref t5, V.ref t6, V.ref t7, V.ref t8, V.ref t9] ++ [V.ref t10, V.ref t11]))) Lq5 = some (.lst [V.ref t0, V.ref t1, V.ref t2, V.ref t3, V.ref t4, V.ref t5, V.ref t6, V.ref t7, V.ref t8, V.ref t9, V.ref t10, V.ref t11]) := upd_same
    revert s5 a10 a11 h5
    generalize upd H5' Lq5 (.lst ([V.ref t0, V.ref t1, V.ref t2, V.ref t3, V.ref t4, V.ref t5, V.ref t6, V.ref t7, V.ref t8, V.ref t9] ++ [V.ref t10, V.ref t11])) = H5
    intro s5 a10 a11 h5
    clear a10' a11' s5' h5' hLq5
    replace h4 : True := trivial
    replace a0 := a0.same s5
    replace a1 := a1.same s5
    replace a2 := a2.same s5
    replace a3 := a3.same s5
    replace a4 := a4.same s5
    replace a5 := a5.same s5
    replace a6 := a6.same s5
    replace a7 := a7.same s5
    replace a8 := a8.same s5
    replace a9 := a9.same s5
    have xv5 := xv4.same s5
    have pr : Paired (fun t e => H5 t = some (HO.tup [x, .ref e])) [t0, t1, t2, t3, t4, t5, t6, t7, t8, t9, t10, t11] [e0, e1, e2, e3, e4, e5, e6, e7, e8, e9, e10, e11] := .cons a0.1 (.cons a1.1 (.cons a2.1 (.cons a3.1 (.cons a4.1 (.cons a5.1 (.cons a6.1 (.cons a7.1 (.cons a8.1 (.cons a9.1 (.cons a10.1 (.cons a11.1 (.nil))))))))))))
    refine seq_asg ?_
    refine ⟨_, rfl, Lq5, rfl, ⟨_, SqL.of h5⟩, fun D hD => ?_⟩
    refine lc_list (K := K) (a := Lq5) (xs := ([t0, t1, t2, t3, t4, t5, t6, t7, t8, t9, t10, t11] : List Addr).map V.ref) (fun i Ha => Ha D = some (.lst ((List.take i [e0, e1, e2, e3, e4, e5, e6, e7, e8, e9, e10, e11]).map V.ref)) ∧ Same H5 Ha) ⟨upd_same, same_new hD⟩ (fun i Ha _ ⟨_, s⟩ => SqL.of (s _ _ h5)) ?_ ?_
    · rintro i y Ha hi ⟨hDa, sa⟩
      rw [List.getElem?_map] at hi
      obtain ⟨t, ht, rfl⟩ := Option.map_eq_some_iff.mp hi
      obtain ⟨e, he, hte⟩ := paired_at pr ht
      have ib := (List.getElem?_eq_some_iff.mp he).1
      refine ⟨rfl, tyes_if ?_⟩
      refine ⟨_, rfl, t, _, _, _, rfl, rfl, SqT.of (sa _ _ hte), rfl, ?_⟩
      refine ⟨_, hDa, small (by rw [List.length_map, List.length_take]; exact Nat.lt_of_le_of_lt (Nat.min_le_right _ _) (by show 12 < 1000000; decide)), ?_, same_put sa hD⟩
      rw [upd_same, List.take_add_one, he, List.map_append]
      rfl
    rintro Ha ⟨hDa', sa⟩
    have hDa : Ha D = some (.lst [V.ref e0, V.ref e1, V.ref e2, V.ref e3, V.ref e4, V.ref e5, V.ref e6, V.ref e7, V.ref e8, V.ref e9, V.ref e10, V.ref e11]) := hDa'
    clear hDa'
    refine ⟨(by show 0 ≤ 1000; decide), fun n hn => ⟨n, rfl, TN, upd_same, rfl, (by show 1 ≤ sizeLine; decide), fun q hq => ?_⟩⟩
    have sN := same_tr sa (same_tr (same_new (o := exo n c.c12 none) hn) (same_new (o := .lst [V.ref n]) hq))
    have aN : ExN (upd (upd Ha n (exo n c.c12 none)) q (.lst [V.ref n])) n c.c12 := same_new hq _ _ upd_same
    refine ⟨D, q, [V.ref e0, V.ref e1, V.ref e2, V.ref e3, V.ref e4, V.ref e5, V.ref e6, V.ref e7, V.ref e8, V.ref e9, V.ref e10, V.ref e11], [V.ref n], rfl, rfl, same_new hq _ _ (same_new hn _ _ hDa), upd_same, (by show 13 ≤ sizeLine; decide), fun Lq6 hLq6 => ?_⟩
    have s6 := same_tr sN (same_new (o := .lst ([V.ref e0, V.ref e1, V.ref e2, V.ref e3, V.ref e4, V.ref e5, V.ref e6, V.ref e7, V.ref e8, V.ref e9, V.ref e10, V.ref e11] ++ [V.ref n])) hLq6)
    replace aN := aN.same (same_new (o := .lst ([V.ref e0, V.ref e1, V.ref e2, V.ref e3, V.ref e4, V.ref e5, V.ref e6, V.ref e7, V.ref e8, V.ref e9, V.ref e10, V.ref e11] ++ [V.ref n])) hLq6)
    have h6 : (upd (upd (upd Ha n (exo n c.c12 none)) q (.lst [V.ref n])) Lq6 (.lst ([V.ref e0, V.ref e1, V.ref e2, V.ref e3, V.ref e4, V.ref e5, V.ref e6, V.ref e7, V.ref e8, V.ref e9, V.ref e10, V.ref e11] ++ [V.ref n]))) Lq6 = some (.lst [V.ref e0, V.ref e1, V.ref e2, V.ref e3, V.ref e4, V.ref e5, V.ref e6, V.ref e7, V.ref e8, V.ref e9, V.ref e10, V.ref e11, V.ref n]) := upd_same
    revert s6 aN h6
    clear sN sa hDa
    generalize upd (upd (upd Ha n (exo n c.c12 none)) q (.lst [V.ref n])) Lq6 (.lst ([V.ref e0, V.ref e1, V.ref e2, V.ref e3, V.ref e4, V.ref e5, V.ref e6, V.ref e7, V.ref e8, V.ref e9, V.ref e10, V.ref e11] ++ [V.ref n])) = H6
    intro s6 aN h6
    have xv6 := xv5.same s6
    replace h5 := s6 _ _ h5
    replace pr := L2.Paired.mapP pr fun t e z => s6 _ _ z
    replace a0 := a0.2.same s6
    replace a1 := a1.2.same s6
    replace a2 := a2.2.same s6
    replace a3 := a3.2.same s6
    replace a4 := a4.2.same s6
    replace a5 := a5.2.same s6
    replace a6 := a6.2.same s6
    replace a7 := a7.2.same s6
    replace a8 := a8.2.same s6
    replace a9 := a9.2.same s6
    replace a10 := a10.2.same s6
    replace a11 := a11.2.same s6
    refine seq_asg ⟨_, rfl, Lq6, _, _, _, rfl, rfl, SqL.of h6, rfl, e0, c.c0, x, rfl, a0, E0.xf, E0.nf, _, rfl, Lq6, _, _, _, rfl, rfl, SqL.of h6, rfl, e1, c.c1, x, rfl, a1, E1.xf, E1.nf, _, rfl, Lq6, _, _, _, rfl, rfl, SqL.of h6, rfl, e2, c.c2, x, rfl, a2, E2.xf, E2.nf, _, rfl, Lq6, _, _, _, rfl, rfl, SqL.of h6, rfl, e3, c.c3, x, rfl, a3, E3.xf, E3.nf, _, rfl, Lq6, _, _, _, rfl, rfl, SqL.of h6, rfl, e4, c.c4, x, rfl, a4, E4.xf, E4.nf, _, rfl, Lq6, _, _, _, rfl, rfl, SqL.of h6, rfl, e5, c.c5, x, rfl, a5, E5.xf, E5.nf, (by show 6 ≤ sizeLine; decide), fun F0 hF0 => ?_⟩
    have s7 := same_new (o := .lst [x, x, x, x, x, x]) hF0
    have f7 : (upd H6 F0 (.lst [x, x, x, x, x, x])) F0 = some (.lst [x, x, x, x, x, x]) := upd_same
    revert s7 f7
    generalize upd H6 F0 (.lst [x, x, x, x, x, x]) = H7
    intro s7 f7
    have xv7 := xv6.same s7
    replace h6 := s7 _ _ h6
    replace h5 := s7 _ _ h5
    replace aN := aN.same s7
    replace pr := L2.Paired.mapP pr fun t e z => s7 _ _ z
    replace a0 := a0.same s7
    replace a1 := a1.same s7
    replace a2 := a2.same s7
    replace a3 := a3.same s7
    replace a4 := a4.same s7
    replace a5 := a5.same s7
    replace a6 := a6.same s7
    replace a7 := a7.same s7
    replace a8 := a8.same s7
    replace a9 := a9.same s7
    replace a10 := a10.same s7
    replace a11 := a11.same s7
    refine seq_asg (cat_go (l := F0) (fun _ q => ⟨_, rfl, q⟩) ⟨_, rfl, Lq6, _, _, _, rfl, rfl, SqL.of h6, rfl, e6, c.c6, x, rfl, a6, E6.xf, E6.nf, _, rfl, Lq6, _, _, _, rfl, rfl, SqL.of h6, rfl, e7, c.c7, x, rfl, a7, E7.xf, E7.nf, _, rfl, Lq6, _, _, _, rfl, rfl, SqL.of h6, rfl, e8, c.c8, x, rfl, a8, E8.xf, E8.nf, (by show 3 ≤ sizeLine; decide), fun G8 hG8 => ?_⟩)
    refine ⟨F0, G8, _, _, rfl, rfl, same_new hG8 _ _ f7, upd_same, (by show 9 ≤ sizeLine; decide), fun F1 hF1 => ?_⟩
    have s8 := same_tr (same_new (o := .lst [x, x, x]) hG8) (same_new (o := .lst ([x, x, x, x, x, x] ++ [x, x, x])) hF1)
    have f8 : (upd (upd H7 G8 (.lst [x, x, x])) F1 (.lst ([x, x, x, x, x, x] ++ [x, x, x]))) F1 = some (.lst [x, x, x, x, x, x, x, x, x]) := upd_same
    revert s8 f8
    generalize upd (upd H7 G8 (.lst [x, x, x])) F1 (.lst ([x, x, x, x, x, x] ++ [x, x, x])) = H8
    intro s8 f8
    have xv8 := xv7.same s8
    replace h6 := s8 _ _ h6
    replace h5 := s8 _ _ h5
    replace aN := aN.same s8
    replace pr := L2.Paired.mapP pr fun t e z => s8 _ _ z
    replace a0 := a0.same s8
    replace a1 := a1.same s8
    replace a2 := a2.same s8
    replace a3 := a3.same s8
    replace a4 := a4.same s8
    replace a5 := a5.same s8
    replace a6 := a6.same s8
    replace a7 := a7.same s8
    replace a8 := a8.same s8
    replace a9 := a9.same s8
    replace a10 := a10.same s8
    replace a11 := a11.same s8
    refine seq_asg (cat_go (l := F1) (fun _ q => ⟨_, rfl, q⟩) ⟨_, rfl, Lq6, _, _, _, rfl, rfl, SqL.of h6, rfl, e9, c.c9, x, rfl, a9, E9.xf, E9.nf, _, rfl, Lq6, _, _, _, rfl, rfl, SqL.of h6, rfl, e10, c.c10, x, rfl, a10, E10.xf, E10.nf, _, rfl, Lq6, _, _, _, rfl, rfl, SqL.of h6, rfl, e11, c.c11, x, rfl, a11, E11.xf, E11.nf, (by show 3 ≤ sizeLine; decide), fun G9 hG9 => ?_⟩)
    refine ⟨F1, G9, _, _, rfl, rfl, same_new hG9 _ _ f8, upd_same, (by show 12 ≤ sizeLine; decide), fun F2 hF2 => ?_⟩
    have s9 := same_tr (same_new (o := .lst [x, x, x]) hG9) (same_new (o := .lst ([x, x, x, x, x, x, x, x, x] ++ [x, x, x])) hF2)
    have f9 : (upd (upd H8 G9 (.lst [x, x, x])) F2 (.lst ([x, x, x, x, x, x, x, x, x] ++ [x, x, x]))) F2 = some (.lst [x, x, x, x, x, x, x, x, x, x, x, x]) := upd_same
    revert s9 f9
    generalize upd (upd H8 G9 (.lst [x, x, x])) F2 (.lst ([x, x, x, x, x, x, x, x, x] ++ [x, x, x])) = H9
    intro s9 f9
    have xv9 := xv8.same s9
    replace h6 := s9 _ _ h6
    replace h5 := s9 _ _ h5
    replace aN := aN.same s9
    replace pr := L2.Paired.mapP pr fun t e z => s9 _ _ z
    replace a0 := a0.same s9
    replace a1 := a1.same s9
    replace a2 := a2.same s9
    replace a3 := a3.same s9
    replace a4 := a4.same s9
    replace a5 := a5.same s9
    replace a6 := a6.same s9
    replace a7 := a7.same s9
    replace a8 := a8.same s9
    replace a9 := a9.same s9
    replace a10 := a10.same s9
    replace a11 := a11.same s9
    refine ⟨_, rfl, Lq5, rfl, ⟨_, SqL.of h5⟩, fun D2 hD2 => ?_⟩
    refine lc_list (K := K) (a := Lq5) (xs := ([t0, t1, t2, t3, t4, t5, t6, t7, t8, t9, t10, t11] : List Addr).map V.ref) (fun i Hb => Hb D2 = some (.lst (List.replicate i x)) ∧ Same H9 Hb) ⟨upd_same, same_new hD2⟩ (fun i Hb _ ⟨_, s⟩ => SqL.of (s _ _ h5)) ?_ ?_
    · rintro i y Hb hi ⟨hDb, sb⟩
      rw [List.getElem?_map] at hi
      obtain ⟨t, ht, rfl⟩ := Option.map_eq_some_iff.mp hi
      obtain ⟨e, he, hte⟩ := paired_at pr ht
      have ib : i < 12 := (List.getElem?_eq_some_iff.mp ht).1
      refine ⟨rfl, tyes_if ?_⟩
      refine ⟨_, rfl, t, _, _, _, rfl, rfl, SqT.of (sb _ _ hte), rfl, ?_⟩
      refine ⟨_, hDb, small (by rw [List.length_replicate]; omega), ?_, same_put sb hD2⟩
      rw [upd_same, List.replicate_succ']
    rintro Hb ⟨hDb', sb⟩
    have hDb : Hb D2 = some (.lst [x, x, x, x, x, x, x, x, x, x, x, x]) := hDb'
    clear hDb'
    have plain : ∀ v ∈ ([x, x, x, x, x, x, x, x, x, x, x, x] : List V), flatB v = true ∨ ∃ c, v = .ref c := fun v hv => by
      have e : v = x := List.eq_of_mem_replicate (show v ∈ List.replicate 12 x from hv)
      rw [e]
      exact xv.plain
    refine ⟨_, rfl, (by show 1 ≤ sizeLine; decide), fun q2 hq2 => ⟨q2, 12, [x], rfl, rfl, upd_same, by decide, by decide, (by show 12 ≤ sizeLine; decide), fun r2 hr2 => ?_⟩⟩
    have sc := same_tr (same_new (o := .lst [x]) hq2) (same_new (o := .lst (List.replicate (12 : Int).toNat [x]).flatten) hr2)
    refine ⟨D2, r2, [x, x, x, x, x, x, x, x, x, x, x, x], rfl, rfl, SqL.of (sc _ _ hDb), SqL.of upd_same, plain, false, rfl, iteF ?_⟩
    replace sb := same_tr sb sc
    revert sb
    clear sc hDb
    generalize upd (upd Hb q2 (.lst [x])) r2 (.lst (List.replicate (12 : Int).toNat [x]).flatten) = Hc
    intro sb
    refine ⟨_, rfl, _, rfl, (by show 1 ≤ sizeLine; decide), fun q3 hq3 => ⟨q3, 12, [x], rfl, rfl, upd_same, by decide, by decide, (by show 12 ≤ sizeLine; decide), fun r3 hr3 => ?_⟩⟩
    have sd := same_tr (same_new (o := .lst [x]) hq3) (same_new (o := .lst (List.replicate (12 : Int).toNat [x]).flatten) hr3)
    refine ⟨F2, r3, [x, x, x, x, x, x, x, x, x, x, x, x], rfl, rfl, SqL.of (sd _ _ (sb _ _ f9)), SqL.of upd_same, plain, false, rfl, iteF ?_⟩
    replace sb := same_tr sb sd
    revert sb
    clear sd
    generalize upd (upd Hc q3 (.lst [x])) r3 (.lst (List.replicate (12 : Int).toNat [x]).flatten) = Hd
    intro sb
    have pe : Paired (fun C e => ExA H9 e C) c.all [e0, e1, e2, e3, e4, e5, e6, e7, e8, e9, e10, e11, n] := .cons (.inr ⟨_, _, a0⟩) (.cons (.inr ⟨_, _, a1⟩) (.cons (.inr ⟨_, _, a2⟩) (.cons (.inr ⟨_, _, a3⟩) (.cons (.inr ⟨_, _, a4⟩) (.cons (.inr ⟨_, _, a5⟩) (.cons (.inr ⟨_, _, a6⟩) (.cons (.inr ⟨_, _, a7⟩) (.cons (.inr ⟨_, _, a8⟩) (.cons (.inr ⟨_, _, a9⟩) (.cons (.inr ⟨_, _, a10⟩) (.cons (.inr ⟨_, _, a11⟩) (.cons (.inl aN) .nil))))))))))))
    have h6m : H9 Lq6 = some (.lst (([e0, e1, e2, e3, e4, e5, e6, e7, e8, e9, e10, e11, n] : List Addr).map V.ref)) := h6
    refine ⟨_, rfl, Lq6, _, rfl, .inl (SqL.of (sb _ _ h6m)), 13, rfl, by decide, by decide, for_range (n := 13) (fun i σ He => ∃ (v6 : Option V), σ = [some (.ref a), some (.ref p), some x, some (.ref Lq5), some (.ref Lq6), some (.ref F2), v6, none, none, none] ∧ Same H9 He) ⟨none, rfl, sb⟩ ?_ ?_⟩
    · rintro i σ He hi ⟨v6, rfl, se⟩
      obtain ⟨C, hC⟩ : ∃ C, c.all[i]? = some C := ⟨_, List.getElem?_eq_getElem (show i < c.all.length from hi)⟩
      obtain ⟨e, he, hx⟩ := paired_at pe hC
      have kC := kd C (List.mem_of_getElem? hC)
      have he' : (([e0, e1, e2, e3, e4, e5, e6, e7, e8, e9, e10, e11, n] : List Addr).map V.ref)[i]? = some (V.ref e) := by rw [List.getElem?_map, he]; rfl
      have z0 : (0 : Int) + (i : Int) = (i : Nat) := Int.zero_add _
      rw [z0]
      refine ⟨_, rfl, _, rfl, Lq6, _, _, _, rfl, rfl, SqL.of (se _ _ h6m), atI_nat he', e, C, _, _, true, rfl, hx.same se, kC.xc, .own _, kC.ce, true, rfl, iteF ?_⟩
      refine ⟨_, rfl, _, rfl, Lq6, _, _, _, rfl, rfl, SqL.of (se _ _ h6m), atI_nat he', e, C, _, _, true, rfl, hx.same se, kC.xc, .ty _, kC.ve, true, rfl, iteF ?_⟩
      refine ⟨_, rfl, _, rfl, Lq6, _, _, _, rfl, rfl, SqL.of (se _ _ h6m), atI_nat he', e, C, rfl, hx.same se, kC.xc, kC.k, fun q Hf sf hq => ?_⟩
      have sf' := same_tr se sf
      refine ⟨_, rfl, Lq6, _, rfl, .inl (SqL.of (sf' _ _ h6m)), 13, rfl, by decide, by decide, fun D3 hD3 => ?_⟩
      refine lc_range (lo := 0) (n := 13) (fun j Hg => Hg D3 = some (.lst ((List.range j).map fun (z : Nat) => V.bl (decide (V.int (i : Nat) = V.int (0 + (z : Nat)))))) ∧ Same Hf Hg) ⟨upd_same, same_new hD3⟩ ?_ ?_
      · rintro j Hg hj ⟨hDg, sg⟩
        refine ⟨rfl, tyes_if ?_⟩
        refine ⟨_, rfl, _, rfl, rfl, ?_⟩
        refine ⟨_, hDg, small (by rw [List.length_map, List.length_range]; omega), ?_, same_put sg hD3⟩
        rw [upd_same, List.range_succ, List.map_append]
        rfl
      · rintro Hg ⟨hDg, sg⟩
        have el := kinds_eq (l := c.all) (List.nodup_cons.mp nd).2 hC
        refine ⟨q, D3, _, rfl, rfl, SqL.of (sg _ _ hq), SqL.of (by rw [hDg, el]; rfl), fun v hv => ?_, false, rfl, iteF ?_⟩
        · obtain ⟨d, _, rfl⟩ := List.mem_map.mp hv
          exact .inl rfl
        · exact ⟨_, rfl, same_tr sf' sg⟩
    · rintro σ He ⟨v6, rfl, se⟩
      refine ⟨(by show 1 ≤ 1000; decide), fun b hb => ⟨b, CE, "words", rfl, TE_, upd_same, rfl, ?_⟩⟩
      refine ⟨_, rfl, b, CE, _, _, true, rfl, .inl upd_same, kE, .ty _, kEv, true, rfl, iteT ?_⟩
      refine ⟨_, rfl, b, CE, rfl, .inl upd_same, kE, kE0, fun q Hf sf hq => ⟨q, c.all.map fun d => decide (CE = d), rfl, SqL.of (by rw [hq, List.map_map]; rfl), _, rfl, ?_⟩⟩
      rw [any_no (List.nodup_cons.mp nd).1]
      exact k _
end
end CC
set_option Elab.async false
set_option maxRecDepth 100000
namespace CC
open PySem PySem.Spec PyProof.Rows L2
set_option linter.unusedVariables false
/-! ### what the class objects say -/
section
variable {K : PySem.W.Frag} {C N : Addr} {nm q : Str} {bs bm sub : List Value} {sn : List Str} {ab : Bool} {col : Option Bool} {dd : Option Addr} {m0 m1 m2 m3 m5 : Option Value}
theorem ec_cls (x : K.lookup C = some (excClassObj nm q C N bs bm true sn sub ab col dd m0 m1 m2 m3 m5 "ValueError.__new__")) :
    PySem.W.clsIn K C = some { name := nm, bases := bs, mro := .ref C :: bm, ns := N, qualname := q, hasDict := true, slotNames := sn, subclasses := sub, abstract := ab, collection := col, hasDel := false } := by
  unfold PySem.W.clsIn
  rw [x] <;> rfl
theorem ec_some (x : K.lookup C = some (excClassObj nm q C N bs bm true sn sub ab col dd m0 m1 m2 m3 m5 "ValueError.__new__")) : (PySem.W.clsIn K C).isSome = true := by
  rw [ec_cls x] <;> rfl
theorem ec_mro (x : K.lookup C = some (excClassObj nm q C N bs bm true sn sub ab col dd m0 m1 m2 m3 m5 "ValueError.__new__")) (b : Value) : PySem.W.mroIn K C b = some ((Value.ref C :: bm).contains b) := by
  unfold PySem.W.mroIn
  rw [ec_cls x] <;> rfl
theorem ec_dict (x : K.lookup C = some (excClassObj nm q C N bs bm true sn sub ab col dd m0 m1 m2 m3 m5 "ValueError.__new__")) : PySem.W.hasDictIn K C = true := by
  unfold PySem.W.hasDictIn
  rw [ec_cls x] <;> rfl
theorem ec_type (x : K.lookup C = some (excClassObj nm q C N bs bm true sn sub ab col dd m0 m1 m2 m3 m5 "ValueError.__new__")) : PySem.W.typeIn K (.ref C) = some (.type "type") := by
  show Option.map (fun o => o.cls) (List.lookup C K) = _
  rw [x] <;> rfl
theorem ec_sub (x : K.lookup C = some (excClassObj nm q C N bs bm true sn sub ab col dd m0 m1 m2 m3 m5 "ValueError.__new__")) {b : Value} (h : bm.contains b = true) : PySem.W.subIn K (.ref C) b = some true := by
  show PySem.W.mroIn K C b = some true
  rw [ec_mro x, List.contains_cons, h, Bool.or_true]
end
def bmE : List Value := [.type "ValueError", .type "Exception", .type "BaseException", .type "object"]
def bmS (CE : Addr) : List Value := .ref CE :: bmE
theorem refs_E : PySem.HandSPX.refsVE bmE = true := by decide +kernel
theorem refs_S {CE : Addr} : PySem.HandSPX.refsVE (bmS CE) = true := refs_E
theorem has_base (CE : Addr) : (bmS CE).contains (.type "BaseException") = true := by
  unfold bmS
  rw [List.contains_cons, show bmE.contains (.type "BaseException") = true by decide +kernel, Bool.or_true]
theorem has_obj (CE : Addr) : (bmS CE).contains (.type "object") = true := by
  unfold bmS
  rw [List.contains_cons, show bmE.contains (.type "object") = true by decide +kernel, Bool.or_true]
section
variable {K : PySem.W.Frag} {C CE D N : Addr} {nm q : Str} {bs sub : List Value} {sn : List Str} {ab : Bool} {col : Option Bool} {dd : Option Addr} {m0 m1 m2 m3 m5 : Option Value}
theorem ref_beq (a b : Addr) : ((Value.ref a == Value.ref b) : Bool) = decide (a = b) := by
  by_cases h : a = b
  · subst h
    simp
  · have : ¬ (Value.ref a = Value.ref b) := fun z => h (Value.ref.inj z)
    simp [h]
theorem no_ref (d : Addr) : bmE.contains (.ref d) = false := by
  unfold bmE
  simp
theorem kit_ref {t : Addr} (kn : (PySem.W.clsIn K D).isSome = true ∧ PySem.W.typeIn K (.ref D) = some (.type "type")) {b : Bool} (h : PySem.W.mroIn K t (.ref D) = some b) (self_ : t = D → b = true) : PySem.W.kitOne K (.ref t) (.ref D) = some b := by
  unfold PySem.W.kitOne
  rw [ref_beq]
  by_cases e : t = D
  · rw [self_ e]
    simp [e]
  · have z : (decide (t = D)) = false := decide_eq_false e
    rw [z]
    show PySem.W.kitCls K (.ref t) (.ref D) = some b
    unfold PySem.W.kitCls
    show (if ((PySem.W.clsIn K D).isSome && PySem.W.typeIn K (.ref D) == some (.type "type")) = true then PySem.W.subIn K (.ref t) (.ref D) else none) = some b
    rw [kn.1, kn.2]
    exact h
theorem kit_S (x : K.lookup C = some (excClassObj nm q C N bs (bmS CE) true sn sub ab col dd m0 m1 m2 m3 m5 "ValueError.__new__")) (kn : (PySem.W.clsIn K D).isSome = true ∧ PySem.W.typeIn K (.ref D) = some (.type "type")) (ne : CE ≠ D) : PySem.W.kitOne K (.ref C) (.ref D) = some (decide (C = D)) := by
  refine kit_ref kn ?_ decide_eq_true
  rw [ec_mro x]
  unfold bmS
  rw [List.contains_cons, List.contains_cons, no_ref, ref_beq, ref_beq, decide_eq_false (Ne.symm ne), Bool.or_false, Bool.or_false]
  congr 1
  exact decide_eq_decide.mpr eq_comm
theorem kit_SE (x : K.lookup C = some (excClassObj nm q C N bs (bmS CE) true sn sub ab col dd m0 m1 m2 m3 m5 "ValueError.__new__")) (kn : (PySem.W.clsIn K CE).isSome = true ∧ PySem.W.typeIn K (.ref CE) = some (.type "type")) : PySem.W.kitOne K (.ref C) (.ref CE) = some true := by
  refine kit_ref kn ?_ fun _ => rfl
  rw [ec_mro x]
  unfold bmS
  simp
theorem kit_ve {t : Addr} (h : PySem.W.mroIn K t (.type "ValueError") = some true) : PySem.W.kitOne K (.ref t) (.type "ValueError") = some true := by
  unfold PySem.W.kitOne
  rw [show ((Value.ref t == Value.type "ValueError") : Bool) = false by rfl]
  show PySem.W.kitCls K (.ref t) (.type "ValueError") = some true
  unfold PySem.W.kitCls
  show (if PySem.W.kitMeta "ValueError" = true then PySem.W.subIn K (.ref t) (.type "ValueError") else none) = some true
  rw [show PySem.W.kitMeta "ValueError" = true by decide +kernel]
  exact h
theorem kit_SV (x : K.lookup C = some (excClassObj nm q C N bs (bmS CE) true sn sub ab col dd m0 m1 m2 m3 m5 "ValueError.__new__")) : PySem.W.kitOne K (.ref C) (.type "ValueError") = some true := by
  refine kit_ve ?_
  rw [ec_mro x]
  simp [bmS, bmE]
theorem kit_EV (x : K.lookup CE = some (excClassObj nm q CE N bs bmE true sn sub ab col dd m0 m1 m2 m3 m5 "ValueError.__new__")) : PySem.W.kitOne K (.ref CE) (.type "ValueError") = some true := by
  refine kit_ve ?_
  rw [ec_mro x]
  simp [bmE]
theorem kit_E (x : K.lookup CE = some (excClassObj nm q CE N bs bmE true sn sub ab col dd m0 m1 m2 m3 m5 "ValueError.__new__")) (kn : (PySem.W.clsIn K D).isSome = true ∧ PySem.W.typeIn K (.ref D) = some (.type "type")) (ne : CE ≠ D) : PySem.W.kitOne K (.ref CE) (.ref D) = some (decide (CE = D)) := by
  refine kit_ref kn ?_ decide_eq_true
  rw [ec_mro x, List.contains_cons, no_ref, ref_beq, Bool.or_false]
  congr 1
  exact decide_eq_decide.mpr eq_comm
end
set_option maxHeartbeats 4000000 in
theorem all_mk {P : Program} {w : World} {K : PySem.W.Frag} {h : Heap} {mg : Str → Option Value} {fa CE TD f0 f1 f2 f3 f4 f5 f6 f7 f8 f9 f10 f11 f12 f13 f14 f15 f16 f17 f18 f19 d0 d1 d2 d3 d4 d5 d6 d7 d8 d9 d10 d11 d12 NE N0 N1 N2 N3 N4 N5 N6 N7 N8 N9 N10 N11 N12 : Addr} (X : K.In h) (G : h.Ns mainGlobals mg) (hfa : mg "law" = some (.ref fa))
    {od0 an0 od1 an1 od2 an2 od3 an3 od4 an4 od5 an5 od6 an6 od7 an7 od8 an8 od9 an9 od10 an10 od11 an11 od12 an12 od13 an13 od14 an14 od15 an15 od16 an16 od17 an17 od18 an18 od19 an19 odT ddE dd0 dd1 dd2 dd3 dd4 dd5 dd6 dd7 dd8 dd9 dd10 dd11 dd12 : Option Addr} {sl0 sl1 sl2 sl3 sl4 sl5 sl6 sl7 sl8 sl9 sl10 sl11 sl12 sl13 sl14 sl15 sl16 sl17 sl18 sl19 slT : Array (Option Value)} {oc0 kV0 dc0 pm0 cd0 ct0 oc1 kV1 dc1 pm1 cd1 ct1 oc2 kV2 dc2 pm2 cd2 ct2 oc3 kV3 dc3 pm3 cd3 ct3 oc4 kV4 dc4 pm4 cd4 ct4 oc5 kV5 dc5 pm5 cd5 ct5 oc6 kV6 dc6 pm6 cd6 ct6 oc7 kV7 dc7 pm7 cd7 ct7 oc8 kV8 dc8 pm8 cd8 ct8 oc9 kV9 dc9 pm9 cd9 ct9 oc10 kV10 dc10 pm10 cd10 ct10 oc11 kV11 dc11 pm11 cd11 ct11 oc12 kV12 dc12 pm12 cd12 ct12 oc13 kV13 dc13 pm13 cd13 ct13 oc14 kV14 dc14 pm14 cd14 ct14 oc15 kV15 dc15 pm15 cd15 ct15 oc16 kV16 dc16 pm16 cd16 ct16 oc17 kV17 dc17 pm17 cd17 ct17 oc18 kV18 dc18 pm18 cd18 ct18 oc19 kV19 dc19 pm19 cd19 ct19 ocT : Value} {tkT t3 : Tok} {nT : Nat}
    {nmE qE nm0 q0 nm1 q1 nm2 q2 nm3 q3 nm4 q4 nm5 q5 nm6 q6 nm7 q7 nm8 q8 nm9 q9 nm10 q10 nm11 q11 nm12 q12 : Str} {bsE subE bs0 sub0 bs1 sub1 bs2 sub2 bs3 sub3 bs4 sub4 bs5 sub5 bs6 sub6 bs7 sub7 bs8 sub8 bs9 sub9 bs10 sub10 bs11 sub11 bs12 sub12 : List Value} {snE sn0 sn1 sn2 sn3 sn4 sn5 sn6 sn7 sn8 sn9 sn10 sn11 sn12 : List Str} {abE ab0 ab1 ab2 ab3 ab4 ab5 ab6 ab7 ab8 ab9 ab10 ab11 ab12 : Bool} {colE col0 col1 col2 col3 col4 col5 col6 col7 col8 col9 col10 col11 col12 : Option Bool} {m0E m1E m2E m3E m5E m00 m10 m20 m30 m50 m01 m11 m21 m31 m51 m02 m12 m22 m32 m52 m03 m13 m23 m33 m53 m04 m14 m24 m34 m54 m05 m15 m25 m35 m55 m06 m16 m26 m36 m56 m07 m17 m27 m37 m57 m08 m18 m28 m38 m58 m09 m19 m29 m39 m59 m010 m110 m210 m310 m510 m011 m111 m211 m311 m511 m012 m112 m212 m312 m512 : Option Value}
    (a0 : PySem.W.nsIn K mainGlobals "shown" = some (some (.ref f0)))
    (l0 : K.lookup f0 = some ⟨oc0, od0, .func (PySem.W.fnOf "shown" "shown" (defArgs sShown) (defBody sShown) (defScope sShown) .none kV0 dc0 pm0 an0 cd0 ct0), sl0⟩)
    (c0 : PySem.W.codeIn K cd0 "shown" = true)
    (k0 : PySem.W.keepIn K (.ref f0) = true)
    (a1 : PySem.W.nsIn K mainGlobals "_law_source" = some (some (.ref f1)))
    (l1 : K.lookup f1 = some ⟨oc1, od1, .func (PySem.W.fnOf "_law_source" "_law_source" (defArgs sSource) (defBody sSource) (defScope sSource) .none kV1 dc1 pm1 an1 cd1 ct1), sl1⟩)
    (c1 : PySem.W.codeIn K cd1 "_law_source" = true)
    (k1 : PySem.W.keepIn K (.ref f1) = true)
    (a2 : PySem.W.nsIn K mainGlobals "_law_draw" = some (some (.ref f2)))
    (l2 : K.lookup f2 = some ⟨oc2, od2, .func (PySem.W.fnOf "_law_draw" "_law_draw" (defArgs sDraw) (defBody sDraw) (defScope sDraw) .none kV2 dc2 pm2 an2 cd2 ct2), sl2⟩)
    (c2 : PySem.W.codeIn K cd2 "_law_draw" = true)
    (k2 : PySem.W.keepIn K (.ref f2) = true)
    (a3 : PySem.W.nsIn K mainGlobals "_law_pick" = some (some (.ref f3)))
    (l3 : K.lookup f3 = some ⟨oc3, od3, .func (PySem.W.fnOf "_law_pick" "_law_pick" (defArgs sPick) (defBody sPick) (defScope sPick) .none kV3 dc3 pm3 an3 cd3 ct3), sl3⟩)
    (c3 : PySem.W.codeIn K cd3 "_law_pick" = true)
    (k3 : PySem.W.keepIn K (.ref f3) = true)
    (a4 : PySem.W.nsIn K mainGlobals "_law_kinds" = some (some (.ref f4)))
    (l4 : K.lookup f4 = some ⟨oc4, od4, .func (PySem.W.fnOf "_law_kinds" "_law_kinds" (defArgs sKinds) (defBody sKinds) (defScope sKinds) .none kV4 dc4 pm4 an4 cd4 ct4), sl4⟩)
    (c4 : PySem.W.codeIn K cd4 "_law_kinds" = true)
    (k4 : PySem.W.keepIn K (.ref f4) = true)
    (a5 : PySem.W.nsIn K mainGlobals "law" = some (some (.ref f5)))
    (l5 : K.lookup f5 = some ⟨oc5, od5, .func (PySem.W.fnOf "law" "law" (defArgs sLaw) (defBody sLaw) (defScope sLaw) .none kV5 dc5 pm5 an5 cd5 ct5), sl5⟩)
    (c5 : PySem.W.codeIn K cd5 "law" = true)
    (k5 : PySem.W.keepIn K (.ref f5) = true)
    (a6 : PySem.W.findIn K (.ref d0) "__init__" = some (some (.ref f6)))
    (l6 : K.lookup f6 = some ⟨oc6, od6, .func (PySem.W.fnOf "__init__" "BadProgram.__init__" (defArgs sBadProgramI) (defBody sBadProgramI) (defScope sBadProgramI) .none kV6 dc6 pm6 an6 cd6 ct6), sl6⟩)
    (c6 : PySem.W.codeIn K cd6 "BadProgram.__init__" = true)
    (k6 : PySem.W.keepIn K (.ref f6) = true)
    (t6 : PySem.W.typeIn K (.ref f6) = some (.type "function"))
    (a7 : PySem.W.findIn K (.ref d1) "__init__" = some (some (.ref f7)))
    (l7 : K.lookup f7 = some ⟨oc7, od7, .func (PySem.W.fnOf "__init__" "NotOnce.__init__" (defArgs sNotOnceI) (defBody sNotOnceI) (defScope sNotOnceI) .none kV7 dc7 pm7 an7 cd7 ct7), sl7⟩)
    (c7 : PySem.W.codeIn K cd7 "NotOnce.__init__" = true)
    (k7 : PySem.W.keepIn K (.ref f7) = true)
    (t7 : PySem.W.typeIn K (.ref f7) = some (.type "function"))
    (a8 : PySem.W.findIn K (.ref d2) "__init__" = some (some (.ref f8)))
    (l8 : K.lookup f8 = some ⟨oc8, od8, .func (PySem.W.fnOf "__init__" "BadField.__init__" (defArgs sBadFieldI) (defBody sBadFieldI) (defScope sBadFieldI) .none kV8 dc8 pm8 an8 cd8 ct8), sl8⟩)
    (c8 : PySem.W.codeIn K cd8 "BadField.__init__" = true)
    (k8 : PySem.W.keepIn K (.ref f8) = true)
    (t8 : PySem.W.typeIn K (.ref f8) = some (.type "function"))
    (a9 : PySem.W.findIn K (.ref d3) "__init__" = some (some (.ref f9)))
    (l9 : K.lookup f9 = some ⟨oc9, od9, .func (PySem.W.fnOf "__init__" "BadCell.__init__" (defArgs sBadCellI) (defBody sBadCellI) (defScope sBadCellI) .none kV9 dc9 pm9 an9 cd9 ct9), sl9⟩)
    (c9 : PySem.W.codeIn K cd9 "BadCell.__init__" = true)
    (k9 : PySem.W.keepIn K (.ref f9) = true)
    (t9 : PySem.W.typeIn K (.ref f9) = some (.type "function"))
    (a10 : PySem.W.findIn K (.ref d4) "__init__" = some (some (.ref f10)))
    (l10 : K.lookup f10 = some ⟨oc10, od10, .func (PySem.W.fnOf "__init__" "BadRun.__init__" (defArgs sBadRunI) (defBody sBadRunI) (defScope sBadRunI) .none kV10 dc10 pm10 an10 cd10 ct10), sl10⟩)
    (c10 : PySem.W.codeIn K cd10 "BadRun.__init__" = true)
    (k10 : PySem.W.keepIn K (.ref f10) = true)
    (t10 : PySem.W.typeIn K (.ref f10) = some (.type "function"))
    (a11 : PySem.W.findIn K (.ref d5) "__init__" = some (some (.ref f11)))
    (l11 : K.lookup f11 = some ⟨oc11, od11, .func (PySem.W.fnOf "__init__" "BadCount.__init__" (defArgs sBadCountI) (defBody sBadCountI) (defScope sBadCountI) .none kV11 dc11 pm11 an11 cd11 ct11), sl11⟩)
    (c11 : PySem.W.codeIn K cd11 "BadCount.__init__" = true)
    (k11 : PySem.W.keepIn K (.ref f11) = true)
    (t11 : PySem.W.typeIn K (.ref f11) = some (.type "function"))
    (a12 : PySem.W.findIn K (.ref d6) "__init__" = some (some (.ref f12)))
    (l12 : K.lookup f12 = some ⟨oc12, od12, .func (PySem.W.fnOf "__init__" "BadThread.__init__" (defArgs sBadThreadI) (defBody sBadThreadI) (defScope sBadThreadI) .none kV12 dc12 pm12 an12 cd12 ct12), sl12⟩)
    (c12 : PySem.W.codeIn K cd12 "BadThread.__init__" = true)
    (k12 : PySem.W.keepIn K (.ref f12) = true)
    (t12 : PySem.W.typeIn K (.ref f12) = some (.type "function"))
    (a13 : PySem.W.findIn K (.ref d7) "__init__" = some (some (.ref f13)))
    (l13 : K.lookup f13 = some ⟨oc13, od13, .func (PySem.W.fnOf "__init__" "BadText.__init__" (defArgs sBadTextI) (defBody sBadTextI) (defScope sBadTextI) .none kV13 dc13 pm13 an13 cd13 ct13), sl13⟩)
    (c13 : PySem.W.codeIn K cd13 "BadText.__init__" = true)
    (k13 : PySem.W.keepIn K (.ref f13) = true)
    (t13 : PySem.W.typeIn K (.ref f13) = some (.type "function"))
    (a14 : PySem.W.findIn K (.ref d8) "__init__" = some (some (.ref f14)))
    (l14 : K.lookup f14 = some ⟨oc14, od14, .func (PySem.W.fnOf "__init__" "Enough.__init__" (defArgs sEnoughI) (defBody sEnoughI) (defScope sEnoughI) .none kV14 dc14 pm14 an14 cd14 ct14), sl14⟩)
    (c14 : PySem.W.codeIn K cd14 "Enough.__init__" = true)
    (k14 : PySem.W.keepIn K (.ref f14) = true)
    (t14 : PySem.W.typeIn K (.ref f14) = some (.type "function"))
    (a15 : PySem.W.findIn K (.ref d9) "__init__" = some (some (.ref f15)))
    (l15 : K.lookup f15 = some ⟨oc15, od15, .func (PySem.W.fnOf "__init__" "BadSteps.__init__" (defArgs sBadStepsI) (defBody sBadStepsI) (defScope sBadStepsI) .none kV15 dc15 pm15 an15 cd15 ct15), sl15⟩)
    (c15 : PySem.W.codeIn K cd15 "BadSteps.__init__" = true)
    (k15 : PySem.W.keepIn K (.ref f15) = true)
    (t15 : PySem.W.typeIn K (.ref f15) = some (.type "function"))
    (a16 : PySem.W.findIn K (.ref d10) "__init__" = some (some (.ref f16)))
    (l16 : K.lookup f16 = some ⟨oc16, od16, .func (PySem.W.fnOf "__init__" "BadSeen.__init__" (defArgs sBadSeenI) (defBody sBadSeenI) (defScope sBadSeenI) .none kV16 dc16 pm16 an16 cd16 ct16), sl16⟩)
    (c16 : PySem.W.codeIn K cd16 "BadSeen.__init__" = true)
    (k16 : PySem.W.keepIn K (.ref f16) = true)
    (t16 : PySem.W.typeIn K (.ref f16) = some (.type "function"))
    (a17 : PySem.W.findIn K (.ref d11) "__init__" = some (some (.ref f17)))
    (l17 : K.lookup f17 = some ⟨oc17, od17, .func (PySem.W.fnOf "__init__" "BadScript.__init__" (defArgs sBadScriptI) (defBody sBadScriptI) (defScope sBadScriptI) .none kV17 dc17 pm17 an17 cd17 ct17), sl17⟩)
    (c17 : PySem.W.codeIn K cd17 "BadScript.__init__" = true)
    (k17 : PySem.W.keepIn K (.ref f17) = true)
    (t17 : PySem.W.typeIn K (.ref f17) = some (.type "function"))
    (a18 : PySem.W.findIn K (.ref d12) "__init__" = some (some (.ref f18)))
    (l18 : K.lookup f18 = some ⟨oc18, od18, .func (PySem.W.fnOf "__init__" "NoDeed.__init__" (defArgs sNoDeedI) (defBody sNoDeedI) (defScope sNoDeedI) .none kV18 dc18 pm18 an18 cd18 ct18), sl18⟩)
    (c18 : PySem.W.codeIn K cd18 "NoDeed.__init__" = true)
    (k18 : PySem.W.keepIn K (.ref f18) = true)
    (t18 : PySem.W.typeIn K (.ref f18) = some (.type "function"))
    (a19 : PySem.W.findCls K (.ref CE) (.type "type") "__init__" = some (.val (.ref f19)))
    (b19 : PySem.W.findIn K (.ref CE) "__init__" = some (some (.ref f19)))
    (l19 : K.lookup f19 = some ⟨oc19, od19, .func (PySem.W.fnOf "__init__" "CellError.__init__" (defArgs sCellInit) (defBody sCellInit) (defScope sCellInit) (.ref TD) kV19 dc19 pm19 an19 cd19 ct19), sl19⟩)
    (c19 : PySem.W.codeIn K cd19 "CellError.__init__" = true)
    (k19 : PySem.W.keepIn K (.ref f19) = true)
    (t19 : PySem.W.typeIn K (.ref f19) = some (.type "function"))
    (lT : K.lookup TD = some ⟨ocT, odT, .seq #[.str (Str.ofString "") tkT] nT, slT⟩)
    (gcE : PySem.W.nsIn K mainGlobals "CellError" = some (some (.ref CE)))
    (gc0 : PySem.W.nsIn K mainGlobals "BadProgram" = some (some (.ref d0)))
    (gc1 : PySem.W.nsIn K mainGlobals "NotOnce" = some (some (.ref d1)))
    (gc2 : PySem.W.nsIn K mainGlobals "BadField" = some (some (.ref d2)))
    (gc3 : PySem.W.nsIn K mainGlobals "BadCell" = some (some (.ref d3)))
    (gc4 : PySem.W.nsIn K mainGlobals "BadRun" = some (some (.ref d4)))
    (gc5 : PySem.W.nsIn K mainGlobals "BadCount" = some (some (.ref d5)))
    (gc6 : PySem.W.nsIn K mainGlobals "BadThread" = some (some (.ref d6)))
    (gc7 : PySem.W.nsIn K mainGlobals "BadText" = some (some (.ref d7)))
    (gc8 : PySem.W.nsIn K mainGlobals "Enough" = some (some (.ref d8)))
    (gc9 : PySem.W.nsIn K mainGlobals "BadSteps" = some (some (.ref d9)))
    (gc10 : PySem.W.nsIn K mainGlobals "BadSeen" = some (some (.ref d10)))
    (gc11 : PySem.W.nsIn K mainGlobals "BadScript" = some (some (.ref d11)))
    (gc12 : PySem.W.nsIn K mainGlobals "NoDeed" = some (some (.ref d12)))
    (xE : K.lookup CE = some (excClassObj nmE qE CE NE bsE bmE true snE subE abE colE ddE m0E m1E m2E m3E m5E "ValueError.__new__"))
    (x0 : K.lookup d0 = some (excClassObj nm0 q0 d0 N0 bs0 (bmS CE) true sn0 sub0 ab0 col0 dd0 m00 m10 m20 m30 m50 "ValueError.__new__"))
    (x1 : K.lookup d1 = some (excClassObj nm1 q1 d1 N1 bs1 (bmS CE) true sn1 sub1 ab1 col1 dd1 m01 m11 m21 m31 m51 "ValueError.__new__"))
    (x2 : K.lookup d2 = some (excClassObj nm2 q2 d2 N2 bs2 (bmS CE) true sn2 sub2 ab2 col2 dd2 m02 m12 m22 m32 m52 "ValueError.__new__"))
    (x3 : K.lookup d3 = some (excClassObj nm3 q3 d3 N3 bs3 (bmS CE) true sn3 sub3 ab3 col3 dd3 m03 m13 m23 m33 m53 "ValueError.__new__"))
    (x4 : K.lookup d4 = some (excClassObj nm4 q4 d4 N4 bs4 (bmS CE) true sn4 sub4 ab4 col4 dd4 m04 m14 m24 m34 m54 "ValueError.__new__"))
    (x5 : K.lookup d5 = some (excClassObj nm5 q5 d5 N5 bs5 (bmS CE) true sn5 sub5 ab5 col5 dd5 m05 m15 m25 m35 m55 "ValueError.__new__"))
    (x6 : K.lookup d6 = some (excClassObj nm6 q6 d6 N6 bs6 (bmS CE) true sn6 sub6 ab6 col6 dd6 m06 m16 m26 m36 m56 "ValueError.__new__"))
    (x7 : K.lookup d7 = some (excClassObj nm7 q7 d7 N7 bs7 (bmS CE) true sn7 sub7 ab7 col7 dd7 m07 m17 m27 m37 m57 "ValueError.__new__"))
    (x8 : K.lookup d8 = some (excClassObj nm8 q8 d8 N8 bs8 (bmS CE) true sn8 sub8 ab8 col8 dd8 m08 m18 m28 m38 m58 "ValueError.__new__"))
    (x9 : K.lookup d9 = some (excClassObj nm9 q9 d9 N9 bs9 (bmS CE) true sn9 sub9 ab9 col9 dd9 m09 m19 m29 m39 m59 "ValueError.__new__"))
    (x10 : K.lookup d10 = some (excClassObj nm10 q10 d10 N10 bs10 (bmS CE) true sn10 sub10 ab10 col10 dd10 m010 m110 m210 m310 m510 "ValueError.__new__"))
    (x11 : K.lookup d11 = some (excClassObj nm11 q11 d11 N11 bs11 (bmS CE) true sn11 sub11 ab11 col11 dd11 m011 m111 m211 m311 m511 "ValueError.__new__"))
    (x12 : K.lookup d12 = some (excClassObj nm12 q12 d12 N12 bs12 (bmS CE) true sn12 sub12 ab12 col12 dd12 m012 m112 m212 m312 m512 "ValueError.__new__"))
    (saE : PySem.W.findIn K (.ref CE) "__setattr__" = some (some (.builtin "object.__setattr__")))
    (kcE : PySem.W.keepIn K (.ref CE) = true)
    (gaE : PySem.W.findIn K (.ref CE) "__getattribute__" = some (some (.builtin "BaseException.__getattribute__")))
    (ggE : PySem.W.findIn K (.ref CE) "__getattr__" = some none)
    (ccE : PySem.W.findIn K (.ref CE) "__class__" = some (some (.builtin "object.__class__")))
    (sa0 : PySem.W.findIn K (.ref d0) "__setattr__" = some (some (.builtin "object.__setattr__")))
    (kc0 : PySem.W.keepIn K (.ref d0) = true)
    (ga0 : PySem.W.findIn K (.ref d0) "__getattribute__" = some (some (.builtin "BaseException.__getattribute__")))
    (gg0 : PySem.W.findIn K (.ref d0) "__getattr__" = some none)
    (cc0 : PySem.W.findIn K (.ref d0) "__class__" = some (some (.builtin "object.__class__")))
    (sa1 : PySem.W.findIn K (.ref d1) "__setattr__" = some (some (.builtin "object.__setattr__")))
    (kc1 : PySem.W.keepIn K (.ref d1) = true)
    (ga1 : PySem.W.findIn K (.ref d1) "__getattribute__" = some (some (.builtin "BaseException.__getattribute__")))
    (gg1 : PySem.W.findIn K (.ref d1) "__getattr__" = some none)
    (cc1 : PySem.W.findIn K (.ref d1) "__class__" = some (some (.builtin "object.__class__")))
    (sa2 : PySem.W.findIn K (.ref d2) "__setattr__" = some (some (.builtin "object.__setattr__")))
    (kc2 : PySem.W.keepIn K (.ref d2) = true)
    (ga2 : PySem.W.findIn K (.ref d2) "__getattribute__" = some (some (.builtin "BaseException.__getattribute__")))
    (gg2 : PySem.W.findIn K (.ref d2) "__getattr__" = some none)
    (cc2 : PySem.W.findIn K (.ref d2) "__class__" = some (some (.builtin "object.__class__")))
    (sa3 : PySem.W.findIn K (.ref d3) "__setattr__" = some (some (.builtin "object.__setattr__")))
    (kc3 : PySem.W.keepIn K (.ref d3) = true)
    (ga3 : PySem.W.findIn K (.ref d3) "__getattribute__" = some (some (.builtin "BaseException.__getattribute__")))
    (gg3 : PySem.W.findIn K (.ref d3) "__getattr__" = some none)
    (cc3 : PySem.W.findIn K (.ref d3) "__class__" = some (some (.builtin "object.__class__")))
    (sa4 : PySem.W.findIn K (.ref d4) "__setattr__" = some (some (.builtin "object.__setattr__")))
    (kc4 : PySem.W.keepIn K (.ref d4) = true)
    (ga4 : PySem.W.findIn K (.ref d4) "__getattribute__" = some (some (.builtin "BaseException.__getattribute__")))
    (gg4 : PySem.W.findIn K (.ref d4) "__getattr__" = some none)
    (cc4 : PySem.W.findIn K (.ref d4) "__class__" = some (some (.builtin "object.__class__")))
    (sa5 : PySem.W.findIn K (.ref d5) "__setattr__" = some (some (.builtin "object.__setattr__")))
    (kc5 : PySem.W.keepIn K (.ref d5) = true)
    (ga5 : PySem.W.findIn K (.ref d5) "__getattribute__" = some (some (.builtin "BaseException.__getattribute__")))
    (gg5 : PySem.W.findIn K (.ref d5) "__getattr__" = some none)
    (cc5 : PySem.W.findIn K (.ref d5) "__class__" = some (some (.builtin "object.__class__")))
    (sa6 : PySem.W.findIn K (.ref d6) "__setattr__" = some (some (.builtin "object.__setattr__")))
    (kc6 : PySem.W.keepIn K (.ref d6) = true)
    (ga6 : PySem.W.findIn K (.ref d6) "__getattribute__" = some (some (.builtin "BaseException.__getattribute__")))
    (gg6 : PySem.W.findIn K (.ref d6) "__getattr__" = some none)
    (cc6 : PySem.W.findIn K (.ref d6) "__class__" = some (some (.builtin "object.__class__")))
    (sa7 : PySem.W.findIn K (.ref d7) "__setattr__" = some (some (.builtin "object.__setattr__")))
    (kc7 : PySem.W.keepIn K (.ref d7) = true)
    (ga7 : PySem.W.findIn K (.ref d7) "__getattribute__" = some (some (.builtin "BaseException.__getattribute__")))
    (gg7 : PySem.W.findIn K (.ref d7) "__getattr__" = some none)
    (cc7 : PySem.W.findIn K (.ref d7) "__class__" = some (some (.builtin "object.__class__")))
    (sa8 : PySem.W.findIn K (.ref d8) "__setattr__" = some (some (.builtin "object.__setattr__")))
    (kc8 : PySem.W.keepIn K (.ref d8) = true)
    (ga8 : PySem.W.findIn K (.ref d8) "__getattribute__" = some (some (.builtin "BaseException.__getattribute__")))
    (gg8 : PySem.W.findIn K (.ref d8) "__getattr__" = some none)
    (cc8 : PySem.W.findIn K (.ref d8) "__class__" = some (some (.builtin "object.__class__")))
    (sa9 : PySem.W.findIn K (.ref d9) "__setattr__" = some (some (.builtin "object.__setattr__")))
    (kc9 : PySem.W.keepIn K (.ref d9) = true)
    (ga9 : PySem.W.findIn K (.ref d9) "__getattribute__" = some (some (.builtin "BaseException.__getattribute__")))
    (gg9 : PySem.W.findIn K (.ref d9) "__getattr__" = some none)
    (cc9 : PySem.W.findIn K (.ref d9) "__class__" = some (some (.builtin "object.__class__")))
    (sa10 : PySem.W.findIn K (.ref d10) "__setattr__" = some (some (.builtin "object.__setattr__")))
    (kc10 : PySem.W.keepIn K (.ref d10) = true)
    (ga10 : PySem.W.findIn K (.ref d10) "__getattribute__" = some (some (.builtin "BaseException.__getattribute__")))
    (gg10 : PySem.W.findIn K (.ref d10) "__getattr__" = some none)
    (cc10 : PySem.W.findIn K (.ref d10) "__class__" = some (some (.builtin "object.__class__")))
    (sa11 : PySem.W.findIn K (.ref d11) "__setattr__" = some (some (.builtin "object.__setattr__")))
    (kc11 : PySem.W.keepIn K (.ref d11) = true)
    (ga11 : PySem.W.findIn K (.ref d11) "__getattribute__" = some (some (.builtin "BaseException.__getattribute__")))
    (gg11 : PySem.W.findIn K (.ref d11) "__getattr__" = some none)
    (cc11 : PySem.W.findIn K (.ref d11) "__class__" = some (some (.builtin "object.__class__")))
    (sa12 : PySem.W.findIn K (.ref d12) "__setattr__" = some (some (.builtin "object.__setattr__")))
    (kc12 : PySem.W.keepIn K (.ref d12) = true)
    (ga12 : PySem.W.findIn K (.ref d12) "__getattribute__" = some (some (.builtin "BaseException.__getattribute__")))
    (gg12 : PySem.W.findIn K (.ref d12) "__getattr__" = some none)
    (cc12 : PySem.W.findIn K (.ref d12) "__class__" = some (some (.builtin "object.__class__")))
    (nf0 : PySem.W.findIn K (.ref d0) "row" = some none)
    (nf1 : PySem.W.findIn K (.ref d1) "row" = some none)
    (nf2 : PySem.W.findIn K (.ref d2) "place" = some none)
    (nf3 : PySem.W.findIn K (.ref d3) "name" = some none)
    (nf4 : PySem.W.findIn K (.ref d4) "index" = some none)
    (nf5 : PySem.W.findIn K (.ref d5) "count" = some none)
    (nf6 : PySem.W.findIn K (.ref d6) "thread" = some none)
    (nf7 : PySem.W.findIn K (.ref d7) "line" = some none)
    (nf8 : PySem.W.findIn K (.ref d8) "number" = some none)
    (nf9 : PySem.W.findIn K (.ref d9) "steps" = some none)
    (nf10 : PySem.W.findIn K (.ref d10) "index" = some none)
    (nf11 : PySem.W.findIn K (.ref d11) "line" = some none)
    (hn : PySem.W.specialIn K (.builtin "object.__class__") "__get__" = some (some (.builtin "getset_descriptor.__get__")))
    (ht : PySem.W.takesIn K (.builtin "object.__class__") = some true)
    (gaM : PySem.W.specialIn K (.ref CE) "__getattribute__" = some (some (.builtin "type.__getattribute__")))
    (rdM : PySem.W.readsIn K CE (.type "type") = true)
    (vV : PySem.W.findCls K (.type "ValueError") (.type "type") "__init__" = some (.val (.builtin "ValueError.__init__")))
    (vS : PySem.W.nsIn K mainGlobals "SHOWN_BELOW" = some (some (.int 1000000000000 t3)))
    (z0 : PySem.W.nsIn K mainGlobals "int" = some none)
    (z1 : PySem.W.nsIn K mainGlobals "len" = some none)
    (z2 : PySem.W.nsIn K mainGlobals "range" = some none)
    (z3 : PySem.W.nsIn K mainGlobals "isinstance" = some none)
    (z4 : PySem.W.nsIn K mainGlobals "str" = some none)
    (z5 : PySem.W.nsIn K mainGlobals "any" = some none)
    (z6 : PySem.W.nsIn K mainGlobals "abs" = some none)
    (z7 : PySem.W.nsIn K mainGlobals "ValueError" = some none)
    (nd : ([CE, d0, d1, d2, d3, d4, d5, d6, d7, d8, d9, d10, d11, d12] : List Addr).Nodup)
    : ∃ fd : FuncData, (∀ (s : Shared) (v : Value), BindsTo s fd ⟨[v], []⟩ [("_law_script", v)]) ∧ ∀ base : Heap, K.In base → base.Ns mainGlobals mg → FnOk P w K mg base CX0 5 fa fd ["_law_script"] (spLaw K) := by
  have e := hfa.symm.trans (PySem.W.mg_of X G a5)
  cases e
  have F0 := fun_mk (st := sShown) l0 c0 k0
  have b0 := F0.binds (ps := ["value"]) fun _ _ _ _ _ _ us hl => match us, hl with | [_], _ => rfl
  have m0 := PySem.W.mg_of X G a0
  have F1 := fun_mk (st := sSource) l1 c1 k1
  have b1 := F1.binds (ps := ["_law_script"]) fun _ _ _ _ _ _ us hl => match us, hl with | [_], _ => rfl
  have m1 := PySem.W.mg_of X G a1
  have F2 := fun_mk (st := sDraw) l2 c2 k2
  have b2 := F2.binds (ps := ["_law_source_here", "_law_many"]) fun _ _ _ _ _ _ us hl => match us, hl with | [_, _], _ => rfl
  have m2 := PySem.W.mg_of X G a2
  have F3 := fun_mk (st := sPick) l3 c3 k3
  have b3 := F3.binds (ps := ["_law_source_here", "_law_things"]) fun _ _ _ _ _ _ us hl => match us, hl with | [_, _], _ => rfl
  have m3 := PySem.W.mg_of X G a3
  have F4 := fun_mk (st := sKinds) l4 c4 k4
  have b4 := F4.binds (ps := ["_law_e"]) fun _ _ _ _ _ _ us hl => match us, hl with | [_], _ => rfl
  have m4 := PySem.W.mg_of X G a4
  have F5 := fun_mk (st := sLaw) l5 c5 k5
  have b5 := F5.binds (ps := ["_law_script"]) fun _ _ _ _ _ _ us hl => match us, hl with | [_], _ => rfl
  have m5 := PySem.W.mg_of X G a5
  have F6 := fun_mk (st := sBadProgramI) l6 c6 k6
  have b6 := F6.binds (ps := ["self", "row"]) fun _ _ _ _ _ _ us hl => match us, hl with | [_, _], _ => rfl
  have F7 := fun_mk (st := sNotOnceI) l7 c7 k7
  have b7 := F7.binds (ps := ["self", "row"]) fun _ _ _ _ _ _ us hl => match us, hl with | [_, _], _ => rfl
  have F8 := fun_mk (st := sBadFieldI) l8 c8 k8
  have b8 := F8.binds (ps := ["self", "place"]) fun _ _ _ _ _ _ us hl => match us, hl with | [_, _], _ => rfl
  have F9 := fun_mk (st := sBadCellI) l9 c9 k9
  have b9 := F9.binds (ps := ["self", "name"]) fun _ _ _ _ _ _ us hl => match us, hl with | [_, _], _ => rfl
  have F10 := fun_mk (st := sBadRunI) l10 c10 k10
  have b10 := F10.binds (ps := ["self", "index"]) fun _ _ _ _ _ _ us hl => match us, hl with | [_, _], _ => rfl
  have F11 := fun_mk (st := sBadCountI) l11 c11 k11
  have b11 := F11.binds (ps := ["self", "count"]) fun _ _ _ _ _ _ us hl => match us, hl with | [_, _], _ => rfl
  have F12 := fun_mk (st := sBadThreadI) l12 c12 k12
  have b12 := F12.binds (ps := ["self", "thread"]) fun _ _ _ _ _ _ us hl => match us, hl with | [_, _], _ => rfl
  have F13 := fun_mk (st := sBadTextI) l13 c13 k13
  have b13 := F13.binds (ps := ["self", "line"]) fun _ _ _ _ _ _ us hl => match us, hl with | [_, _], _ => rfl
  have F14 := fun_mk (st := sEnoughI) l14 c14 k14
  have b14 := F14.binds (ps := ["self", "number"]) fun _ _ _ _ _ _ us hl => match us, hl with | [_, _], _ => rfl
  have F15 := fun_mk (st := sBadStepsI) l15 c15 k15
  have b15 := F15.binds (ps := ["self", "steps"]) fun _ _ _ _ _ _ us hl => match us, hl with | [_, _], _ => rfl
  have F16 := fun_mk (st := sBadSeenI) l16 c16 k16
  have b16 := F16.binds (ps := ["self", "index"]) fun _ _ _ _ _ _ us hl => match us, hl with | [_, _], _ => rfl
  have F17 := fun_mk (st := sBadScriptI) l17 c17 k17
  have b17 := F17.binds (ps := ["self", "line"]) fun _ _ _ _ _ _ us hl => match us, hl with | [_, _], _ => rfl
  have F18 := fun_mk (st := sNoDeedI) l18 c18 k18
  have b18 := F18.binds (ps := ["self"]) fun _ _ _ _ _ _ us hl => match us, hl with | [_], _ => rfl
  have FE : FunD K "__init__" "CellError.__init__" (defArgs sCellInit) (defBody sCellInit) (defScope sCellInit) [V.str ""] [] f19 _ := ⟨⟨_, _, _, _, _, _, _, _, _, _, rfl, l19, c19, .inr ⟨(by intro z; cases z), TD, _, [.str (Str.ofString "") tkT], nT, rfl, lT, rfl, .cons ⟨tkT, rfl⟩ .nil⟩, .inl rfl⟩, k19⟩
  obtain ⟨ds, hv, bE⟩ := FE.binds1 (ps := ["self", "why"]) 2 1 (by intro z; cases z) rfl (fun T kV doc pm an cdv ct us its hu hi => match us, hu, its, hi with | [_, _], _, [_], _ => ⟨_, rfl, rfl⟩)
  cases hv
  have n_int := PySem.W.mg_none_of X G z0
  have n_len := PySem.W.mg_none_of X G z1
  have n_range := PySem.W.mg_none_of X G z2
  have n_isinstance := PySem.W.mg_none_of X G z3
  have n_str := PySem.W.mg_none_of X G z4
  have n_any := PySem.W.mg_none_of X G z5
  have n_abs := PySem.W.mg_none_of X G z6
  have n_ValueError := PySem.W.mg_none_of X G z7
  refine ⟨PySem.W.fnOf "law" "law" (defArgs sLaw) (defBody sLaw) (defScope sLaw) .none kV5 dc5 pm5 an5 cd5 ct5, fun s v => .of_eq rfl, fun base _ _ => ?_⟩
  have G0 := ok_shown (P := P) (w := w) (base := base) F0 n_isinstance n_str n_int n_abs (PySem.W.mg_of X G vS)
  have gE' := PySem.W.mg_of X G gcE
  have GE := ok_cellinit (P := P) (w := w) (base := base) FE G0 m0 k0 b0 n_ValueError vV
  have cM : ClsFn K CE "__init__" f19 := ⟨gaM, rdM, a19⟩
  have I0 := ok_BadProgramI (P := P) (w := w) (base := base) (C := d0) F6 G0 m0 k0 b0 GE gE' cM k19 bE nf0
  have I1 := ok_NotOnceI (P := P) (w := w) (base := base) (C := d1) F7 G0 m0 k0 b0 GE gE' cM k19 bE nf1
  have I2 := ok_BadFieldI (P := P) (w := w) (base := base) (C := d2) F8 G0 m0 k0 b0 GE gE' cM k19 bE nf2
  have I3 := ok_BadCellI (P := P) (w := w) (base := base) (C := d3) F9 G0 m0 k0 b0 GE gE' cM k19 bE nf3
  have I4 := ok_BadRunI (P := P) (w := w) (base := base) (C := d4) F10 G0 m0 k0 b0 GE gE' cM k19 bE nf4
  have I5 := ok_BadCountI (P := P) (w := w) (base := base) (C := d5) F11 G0 m0 k0 b0 GE gE' cM k19 bE nf5
  have I6 := ok_BadThreadI (P := P) (w := w) (base := base) (C := d6) F12 G0 m0 k0 b0 GE gE' cM k19 bE nf6
  have I7 := ok_BadTextI (P := P) (w := w) (base := base) (C := d7) F13 G0 m0 k0 b0 GE gE' cM k19 bE nf7
  have I8 := ok_EnoughI (P := P) (w := w) (base := base) (C := d8) F14 G0 m0 k0 b0 GE gE' cM k19 bE nf8
  have I9 := ok_BadStepsI (P := P) (w := w) (base := base) (C := d9) F15 G0 m0 k0 b0 GE gE' cM k19 bE nf9
  have I10 := ok_BadSeenI (P := P) (w := w) (base := base) (C := d10) F16 G0 m0 k0 b0 GE gE' cM k19 bE nf10
  have I11 := ok_BadScriptI (P := P) (w := w) (base := base) (C := d11) F17 G0 m0 k0 b0 GE gE' cM k19 bE nf11
  have I12 := ok_NoDeedI (P := P) (w := w) (base := base) (C := d12) F18 GE gE' cM k19 bE
  have oE : OexC K CE := ⟨⟨_, _, _, _, _, _, _, _, _, _, _, _, _, _, _, xE, refs_E⟩, saE, ec_sub xE (by decide +kernel), ec_type xE, kcE⟩
  have xcE : XcC K CE := ⟨ec_some xE, gaE, ggE, ec_sub xE (by decide +kernel), ccE, hn, ht, ec_sub (b := .type "object") xE (by decide +kernel)⟩
  have o0 : OexC K d0 := ⟨⟨_, _, _, _, _, _, _, _, _, _, _, _, _, _, _, x0, refs_S⟩, sa0, ec_sub x0 (has_base _), ec_type x0, kc0⟩
  have xc0 : XcC K d0 := ⟨ec_some x0, ga0, gg0, ec_sub x0 (has_base _), cc0, hn, ht, ec_sub (b := .type "object") x0 (has_obj _)⟩
  have E0 : Er P w K mg base "BadProgram" "row" d0 f6 _ := ⟨o0, a6, t6, I0, b6, ⟨fun s us ws _ h1 h2 => match us, ws, h1, h2 with | [_], [_], _, _ => .of_eq rfl, fun r1 r2 => r1.append r2⟩, PySem.W.mg_of X G gc0, ⟨ga0, gg0, ec_sub x0 (has_base _), ec_dict x0⟩, nf0⟩
  have o1 : OexC K d1 := ⟨⟨_, _, _, _, _, _, _, _, _, _, _, _, _, _, _, x1, refs_S⟩, sa1, ec_sub x1 (has_base _), ec_type x1, kc1⟩
  have xc1 : XcC K d1 := ⟨ec_some x1, ga1, gg1, ec_sub x1 (has_base _), cc1, hn, ht, ec_sub (b := .type "object") x1 (has_obj _)⟩
  have E1 : Er P w K mg base "NotOnce" "row" d1 f7 _ := ⟨o1, a7, t7, I1, b7, ⟨fun s us ws _ h1 h2 => match us, ws, h1, h2 with | [_], [_], _, _ => .of_eq rfl, fun r1 r2 => r1.append r2⟩, PySem.W.mg_of X G gc1, ⟨ga1, gg1, ec_sub x1 (has_base _), ec_dict x1⟩, nf1⟩
  have o2 : OexC K d2 := ⟨⟨_, _, _, _, _, _, _, _, _, _, _, _, _, _, _, x2, refs_S⟩, sa2, ec_sub x2 (has_base _), ec_type x2, kc2⟩
  have xc2 : XcC K d2 := ⟨ec_some x2, ga2, gg2, ec_sub x2 (has_base _), cc2, hn, ht, ec_sub (b := .type "object") x2 (has_obj _)⟩
  have E2 : Er P w K mg base "BadField" "place" d2 f8 _ := ⟨o2, a8, t8, I2, b8, ⟨fun s us ws _ h1 h2 => match us, ws, h1, h2 with | [_], [_], _, _ => .of_eq rfl, fun r1 r2 => r1.append r2⟩, PySem.W.mg_of X G gc2, ⟨ga2, gg2, ec_sub x2 (has_base _), ec_dict x2⟩, nf2⟩
  have o3 : OexC K d3 := ⟨⟨_, _, _, _, _, _, _, _, _, _, _, _, _, _, _, x3, refs_S⟩, sa3, ec_sub x3 (has_base _), ec_type x3, kc3⟩
  have xc3 : XcC K d3 := ⟨ec_some x3, ga3, gg3, ec_sub x3 (has_base _), cc3, hn, ht, ec_sub (b := .type "object") x3 (has_obj _)⟩
  have E3 : Er P w K mg base "BadCell" "name" d3 f9 _ := ⟨o3, a9, t9, I3, b9, ⟨fun s us ws _ h1 h2 => match us, ws, h1, h2 with | [_], [_], _, _ => .of_eq rfl, fun r1 r2 => r1.append r2⟩, PySem.W.mg_of X G gc3, ⟨ga3, gg3, ec_sub x3 (has_base _), ec_dict x3⟩, nf3⟩
  have o4 : OexC K d4 := ⟨⟨_, _, _, _, _, _, _, _, _, _, _, _, _, _, _, x4, refs_S⟩, sa4, ec_sub x4 (has_base _), ec_type x4, kc4⟩
  have xc4 : XcC K d4 := ⟨ec_some x4, ga4, gg4, ec_sub x4 (has_base _), cc4, hn, ht, ec_sub (b := .type "object") x4 (has_obj _)⟩
  have E4 : Er P w K mg base "BadRun" "index" d4 f10 _ := ⟨o4, a10, t10, I4, b10, ⟨fun s us ws _ h1 h2 => match us, ws, h1, h2 with | [_], [_], _, _ => .of_eq rfl, fun r1 r2 => r1.append r2⟩, PySem.W.mg_of X G gc4, ⟨ga4, gg4, ec_sub x4 (has_base _), ec_dict x4⟩, nf4⟩
  have o5 : OexC K d5 := ⟨⟨_, _, _, _, _, _, _, _, _, _, _, _, _, _, _, x5, refs_S⟩, sa5, ec_sub x5 (has_base _), ec_type x5, kc5⟩
  have xc5 : XcC K d5 := ⟨ec_some x5, ga5, gg5, ec_sub x5 (has_base _), cc5, hn, ht, ec_sub (b := .type "object") x5 (has_obj _)⟩
  have E5 : Er P w K mg base "BadCount" "count" d5 f11 _ := ⟨o5, a11, t11, I5, b11, ⟨fun s us ws _ h1 h2 => match us, ws, h1, h2 with | [_], [_], _, _ => .of_eq rfl, fun r1 r2 => r1.append r2⟩, PySem.W.mg_of X G gc5, ⟨ga5, gg5, ec_sub x5 (has_base _), ec_dict x5⟩, nf5⟩
  have o6 : OexC K d6 := ⟨⟨_, _, _, _, _, _, _, _, _, _, _, _, _, _, _, x6, refs_S⟩, sa6, ec_sub x6 (has_base _), ec_type x6, kc6⟩
  have xc6 : XcC K d6 := ⟨ec_some x6, ga6, gg6, ec_sub x6 (has_base _), cc6, hn, ht, ec_sub (b := .type "object") x6 (has_obj _)⟩
  have E6 : Er P w K mg base "BadThread" "thread" d6 f12 _ := ⟨o6, a12, t12, I6, b12, ⟨fun s us ws _ h1 h2 => match us, ws, h1, h2 with | [_], [_], _, _ => .of_eq rfl, fun r1 r2 => r1.append r2⟩, PySem.W.mg_of X G gc6, ⟨ga6, gg6, ec_sub x6 (has_base _), ec_dict x6⟩, nf6⟩
  have o7 : OexC K d7 := ⟨⟨_, _, _, _, _, _, _, _, _, _, _, _, _, _, _, x7, refs_S⟩, sa7, ec_sub x7 (has_base _), ec_type x7, kc7⟩
  have xc7 : XcC K d7 := ⟨ec_some x7, ga7, gg7, ec_sub x7 (has_base _), cc7, hn, ht, ec_sub (b := .type "object") x7 (has_obj _)⟩
  have E7 : Er P w K mg base "BadText" "line" d7 f13 _ := ⟨o7, a13, t13, I7, b13, ⟨fun s us ws _ h1 h2 => match us, ws, h1, h2 with | [_], [_], _, _ => .of_eq rfl, fun r1 r2 => r1.append r2⟩, PySem.W.mg_of X G gc7, ⟨ga7, gg7, ec_sub x7 (has_base _), ec_dict x7⟩, nf7⟩
  have o8 : OexC K d8 := ⟨⟨_, _, _, _, _, _, _, _, _, _, _, _, _, _, _, x8, refs_S⟩, sa8, ec_sub x8 (has_base _), ec_type x8, kc8⟩
  have xc8 : XcC K d8 := ⟨ec_some x8, ga8, gg8, ec_sub x8 (has_base _), cc8, hn, ht, ec_sub (b := .type "object") x8 (has_obj _)⟩
  have E8 : Er P w K mg base "Enough" "number" d8 f14 _ := ⟨o8, a14, t14, I8, b14, ⟨fun s us ws _ h1 h2 => match us, ws, h1, h2 with | [_], [_], _, _ => .of_eq rfl, fun r1 r2 => r1.append r2⟩, PySem.W.mg_of X G gc8, ⟨ga8, gg8, ec_sub x8 (has_base _), ec_dict x8⟩, nf8⟩
  have o9 : OexC K d9 := ⟨⟨_, _, _, _, _, _, _, _, _, _, _, _, _, _, _, x9, refs_S⟩, sa9, ec_sub x9 (has_base _), ec_type x9, kc9⟩
  have xc9 : XcC K d9 := ⟨ec_some x9, ga9, gg9, ec_sub x9 (has_base _), cc9, hn, ht, ec_sub (b := .type "object") x9 (has_obj _)⟩
  have E9 : Er P w K mg base "BadSteps" "steps" d9 f15 _ := ⟨o9, a15, t15, I9, b15, ⟨fun s us ws _ h1 h2 => match us, ws, h1, h2 with | [_], [_], _, _ => .of_eq rfl, fun r1 r2 => r1.append r2⟩, PySem.W.mg_of X G gc9, ⟨ga9, gg9, ec_sub x9 (has_base _), ec_dict x9⟩, nf9⟩
  have o10 : OexC K d10 := ⟨⟨_, _, _, _, _, _, _, _, _, _, _, _, _, _, _, x10, refs_S⟩, sa10, ec_sub x10 (has_base _), ec_type x10, kc10⟩
  have xc10 : XcC K d10 := ⟨ec_some x10, ga10, gg10, ec_sub x10 (has_base _), cc10, hn, ht, ec_sub (b := .type "object") x10 (has_obj _)⟩
  have E10 : Er P w K mg base "BadSeen" "index" d10 f16 _ := ⟨o10, a16, t16, I10, b16, ⟨fun s us ws _ h1 h2 => match us, ws, h1, h2 with | [_], [_], _, _ => .of_eq rfl, fun r1 r2 => r1.append r2⟩, PySem.W.mg_of X G gc10, ⟨ga10, gg10, ec_sub x10 (has_base _), ec_dict x10⟩, nf10⟩
  have o11 : OexC K d11 := ⟨⟨_, _, _, _, _, _, _, _, _, _, _, _, _, _, _, x11, refs_S⟩, sa11, ec_sub x11 (has_base _), ec_type x11, kc11⟩
  have xc11 : XcC K d11 := ⟨ec_some x11, ga11, gg11, ec_sub x11 (has_base _), cc11, hn, ht, ec_sub (b := .type "object") x11 (has_obj _)⟩
  have E11 : Er P w K mg base "BadScript" "line" d11 f17 _ := ⟨o11, a17, t17, I11, b17, ⟨fun s us ws _ h1 h2 => match us, ws, h1, h2 with | [_], [_], _, _ => .of_eq rfl, fun r1 r2 => r1.append r2⟩, PySem.W.mg_of X G gc11, ⟨ga11, gg11, ec_sub x11 (has_base _), ec_dict x11⟩, nf11⟩
  have o12 : OexC K d12 := ⟨⟨_, _, _, _, _, _, _, _, _, _, _, _, _, _, _, x12, refs_S⟩, sa12, ec_sub x12 (has_base _), ec_type x12, kc12⟩
  have xc12 : XcC K d12 := ⟨ec_some x12, ga12, gg12, ec_sub x12 (has_base _), cc12, hn, ht, ec_sub (b := .type "object") x12 (has_obj _)⟩
  have known : ∀ d ∈ ([d0, d1, d2, d3, d4, d5, d6, d7, d8, d9, d10, d11, d12] : List Addr), (PySem.W.clsIn K d).isSome = true ∧ PySem.W.typeIn K (.ref d) = some (.type "type") := by
    intro d hd
    simp only [List.mem_cons, List.not_mem_nil, or_false] at hd
    rcases hd with rfl | rfl | rfl | rfl | rfl | rfl | rfl | rfl | rfl | rfl | rfl | rfl | rfl
    · exact ⟨ec_some x0, ec_type x0⟩
    · exact ⟨ec_some x1, ec_type x1⟩
    · exact ⟨ec_some x2, ec_type x2⟩
    · exact ⟨ec_some x3, ec_type x3⟩
    · exact ⟨ec_some x4, ec_type x4⟩
    · exact ⟨ec_some x5, ec_type x5⟩
    · exact ⟨ec_some x6, ec_type x6⟩
    · exact ⟨ec_some x7, ec_type x7⟩
    · exact ⟨ec_some x8, ec_type x8⟩
    · exact ⟨ec_some x9, ec_type x9⟩
    · exact ⟨ec_some x10, ec_type x10⟩
    · exact ⟨ec_some x11, ec_type x11⟩
    · exact ⟨ec_some x12, ec_type x12⟩
  have apart : CE ∉ ([d0, d1, d2, d3, d4, d5, d6, d7, d8, d9, d10, d11, d12] : List Addr) := (List.nodup_cons.mp nd).1
  have kd : ∀ d ∈ ([d0, d1, d2, d3, d4, d5, d6, d7, d8, d9, d10, d11, d12] : List Addr), Kd K ⟨d0, d1, d2, d3, d4, d5, d6, d7, d8, d9, d10, d11, d12⟩ CE d := by
    intro d hd
    simp only [List.mem_cons, List.not_mem_nil, or_false] at hd
    rcases hd with rfl | rfl | rfl | rfl | rfl | rfl | rfl | rfl | rfl | rfl | rfl | rfl | rfl
    · exact ⟨xc0, fun d hd => kit_S x0 (known d hd) (fun z => apart (z ▸ hd)), kit_SE x0 ⟨ec_some xE, ec_type xE⟩, kit_SV x0⟩
    · exact ⟨xc1, fun d hd => kit_S x1 (known d hd) (fun z => apart (z ▸ hd)), kit_SE x1 ⟨ec_some xE, ec_type xE⟩, kit_SV x1⟩
    · exact ⟨xc2, fun d hd => kit_S x2 (known d hd) (fun z => apart (z ▸ hd)), kit_SE x2 ⟨ec_some xE, ec_type xE⟩, kit_SV x2⟩
    · exact ⟨xc3, fun d hd => kit_S x3 (known d hd) (fun z => apart (z ▸ hd)), kit_SE x3 ⟨ec_some xE, ec_type xE⟩, kit_SV x3⟩
    · exact ⟨xc4, fun d hd => kit_S x4 (known d hd) (fun z => apart (z ▸ hd)), kit_SE x4 ⟨ec_some xE, ec_type xE⟩, kit_SV x4⟩
    · exact ⟨xc5, fun d hd => kit_S x5 (known d hd) (fun z => apart (z ▸ hd)), kit_SE x5 ⟨ec_some xE, ec_type xE⟩, kit_SV x5⟩
    · exact ⟨xc6, fun d hd => kit_S x6 (known d hd) (fun z => apart (z ▸ hd)), kit_SE x6 ⟨ec_some xE, ec_type xE⟩, kit_SV x6⟩
    · exact ⟨xc7, fun d hd => kit_S x7 (known d hd) (fun z => apart (z ▸ hd)), kit_SE x7 ⟨ec_some xE, ec_type xE⟩, kit_SV x7⟩
    · exact ⟨xc8, fun d hd => kit_S x8 (known d hd) (fun z => apart (z ▸ hd)), kit_SE x8 ⟨ec_some xE, ec_type xE⟩, kit_SV x8⟩
    · exact ⟨xc9, fun d hd => kit_S x9 (known d hd) (fun z => apart (z ▸ hd)), kit_SE x9 ⟨ec_some xE, ec_type xE⟩, kit_SV x9⟩
    · exact ⟨xc10, fun d hd => kit_S x10 (known d hd) (fun z => apart (z ▸ hd)), kit_SE x10 ⟨ec_some xE, ec_type xE⟩, kit_SV x10⟩
    · exact ⟨xc11, fun d hd => kit_S x11 (known d hd) (fun z => apart (z ▸ hd)), kit_SE x11 ⟨ec_some xE, ec_type xE⟩, kit_SV x11⟩
    · exact ⟨xc12, fun d hd => kit_S x12 (known d hd) (fun z => apart (z ▸ hd)), kit_SE x12 ⟨ec_some xE, ec_type xE⟩, kit_SV x12⟩
  have kE0 : ∀ d ∈ ([d0, d1, d2, d3, d4, d5, d6, d7, d8, d9, d10, d11, d12] : List Addr), PySem.W.kitOne K (.ref CE) (.ref d) = some (decide (CE = d)) := fun d hd => kit_E xE (known d hd) (fun z => apart (z ▸ hd))
  have N : Named mg ⟨d0, d1, d2, d3, d4, d5, d6, d7, d8, d9, d10, d11, d12⟩ := ⟨PySem.W.mg_of X G gc0, PySem.W.mg_of X G gc1, PySem.W.mg_of X G gc2, PySem.W.mg_of X G gc3, PySem.W.mg_of X G gc4, PySem.W.mg_of X G gc5, PySem.W.mg_of X G gc6, PySem.W.mg_of X G gc7, PySem.W.mg_of X G gc8, PySem.W.mg_of X G gc9, PySem.W.mg_of X G gc10, PySem.W.mg_of X G gc11, PySem.W.mg_of X G gc12⟩
  have G1 := ok_source (P := P) (w := w) (base := base) F1 n_int
  have G2 := ok_draw (P := P) (w := w) (base := base) F2 n_int
  have G3 := ok_pick (P := P) (w := w) (base := base) F3 G2 m2 k2 b2 n_len
  have G4 := ok_kinds (P := P) (w := w) (base := base) F4 N n_isinstance
  exact ok_law (P := P) (w := w) (base := base) F5 G1 m1 k1 b1 G3 m3 k3 b3 G4 m4 k4 b4 E0 E1 E2 E3 E4 E5 E6 E7 E8 E9 E10 E11 o12 a18 t18 I12 b18 (PySem.W.mg_of X G gc12) oE b19 t19 GE bE gE' kd xcE kE0 (kit_EV xE) nd n_isinstance n_ValueError n_range n_len n_any
end CC
set_option Elab.async false
set_option maxRecDepth 100000
namespace CC
open PySem L2
theorem walk {l : PySem.W.OpenLaw} {q : Program} {loose : List Str} {XP : (Str → Option Value) → Heap → Prop} {YP : World → Heap → Prop} {d : DefRec} {K : Params → PySem.W.Frag} (hn : l.most = some 63) (hdf : d.params.defaults = [])
    (hY : ∀ (w : World) (h : Heap), YP w h → (K w.params).In h)
    (F : ∀ (w : World) (mg : Str → Option Value) (fa : Addr) (h : Heap), (K w.params).In h → h.Ns mainGlobals mg → mg d.name = some (.ref fa) →
      ∃ fd : FuncData, (∀ (s : Shared) (u : Value), BindsTo s fd ⟨[u], []⟩ [("_law_script", u)]) ∧ ∀ base : Heap, (K w.params).In base → base.Ns mainGlobals mg → FnOk l.prog w (K w.params) mg base CX0 5 fa fd ["_law_script"] (spLaw (K w.params))) :
    PySem.W.WalkO q loose XP YP l.row.toRowW d [] (fun f vs => PySem.call f vs) :=
  L2.walk_of (n := 63) (k := 5) (x := "_law_script") (CX := fun _ => CX0) (sp := fun w => spLaw (K w.params)) hn (by decide) hdf ⟨rfl, by decide, by decide⟩ hY F (fun _ _ a ns hl _ hS => ⟨a, ns, rfl, hS, fun _ => rfl⟩) fun _ _ _ _ _ z => z
end CC
open PySem PySem.W PyProof.Rows
set_option maxRecDepth 100000 in
set_option maxHeartbeats 0 in
theorem PySem.Challenge.cw_coveredcells_k17_errors_made_holds : PySem.Challenge.rw_coveredcells_k17_errors_made.Holds := by
  w_on; o_law; k_head; (case hw => w_witness2)
  k_fill
  refine CC.walk (l := PySem.Challenge.rw_coveredcells_k17_errors_made) rfl rfl (fun w h Y => PySem.W.kIn_of Y) ?F
  case F =>
    intro w mg fa h KX G hmg
    refine' CC.all_mk KX G hmg ?a0 ?l0 ?c0 ?k0 ?a1 ?l1 ?c1 ?k1 ?a2 ?l2 ?c2 ?k2 ?a3 ?l3 ?c3 ?k3 ?a4 ?l4 ?c4 ?k4 ?a5 ?l5 ?c5 ?k5 ?a6 ?l6 ?c6 ?k6 ?t6 ?a7 ?l7 ?c7 ?k7 ?t7 ?a8 ?l8 ?c8 ?k8 ?t8 ?a9 ?l9 ?c9 ?k9 ?t9 ?a10 ?l10 ?c10 ?k10 ?t10 ?a11 ?l11 ?c11 ?k11 ?t11 ?a12 ?l12 ?c12 ?k12 ?t12 ?a13 ?l13 ?c13 ?k13 ?t13 ?a14 ?l14 ?c14 ?k14 ?t14 ?a15 ?l15 ?c15 ?k15 ?t15 ?a16 ?l16 ?c16 ?k16 ?t16 ?a17 ?l17 ?c17 ?k17 ?t17 ?a18 ?l18 ?c18 ?k18 ?t18 ?a19 ?b19 ?l19 ?c19 ?k19 ?t19 ?lT ?gcE ?gc0 ?gc1 ?gc2 ?gc3 ?gc4 ?gc5 ?gc6 ?gc7 ?gc8 ?gc9 ?gc10 ?gc11 ?gc12 ?xE ?x0 ?x1 ?x2 ?x3 ?x4 ?x5 ?x6 ?x7 ?x8 ?x9 ?x10 ?x11 ?x12 ?saE ?kcE ?gaE ?ggE ?ccE ?sa0 ?kc0 ?ga0 ?gg0 ?cc0 ?sa1 ?kc1 ?ga1 ?gg1 ?cc1 ?sa2 ?kc2 ?ga2 ?gg2 ?cc2 ?sa3 ?kc3 ?ga3 ?gg3 ?cc3 ?sa4 ?kc4 ?ga4 ?gg4 ?cc4 ?sa5 ?kc5 ?ga5 ?gg5 ?cc5 ?sa6 ?kc6 ?ga6 ?gg6 ?cc6 ?sa7 ?kc7 ?ga7 ?gg7 ?cc7 ?sa8 ?kc8 ?ga8 ?gg8 ?cc8 ?sa9 ?kc9 ?ga9 ?gg9 ?cc9 ?sa10 ?kc10 ?ga10 ?gg10 ?cc10 ?sa11 ?kc11 ?ga11 ?gg11 ?cc11 ?sa12 ?kc12 ?ga12 ?gg12 ?cc12 ?nf0 ?nf1 ?nf2 ?nf3 ?nf4 ?nf5 ?nf6 ?nf7 ?nf8 ?nf9 ?nf10 ?nf11 ?hn ?ht ?gaM ?rdM ?vV ?vS ?z0 ?z1 ?z2 ?z3 ?z4 ?z5 ?z6 ?z7 ?nd
    (case gcE => k_is)
    (case gc0 => k_is)
    (case gc1 => k_is)
    (case gc2 => k_is)
    (case gc3 => k_is)
    (case gc4 => k_is)
    (case gc5 => k_is)
    (case gc6 => k_is)
    (case gc7 => k_is)
    (case gc8 => k_is)
    (case gc9 => k_is)
    (case gc10 => k_is)
    (case gc11 => k_is)
    (case gc12 => k_is)
    (case a0 => k_is)
    (case l0 => k_is)
    (case c0 => k_is)
    (case k0 => k_is)
    (case a1 => k_is)
    (case l1 => k_is)
    (case c1 => k_is)
    (case k1 => k_is)
    (case a2 => k_is)
    (case l2 => k_is)
    (case c2 => k_is)
    (case k2 => k_is)
    (case a3 => k_is)
    (case l3 => k_is)
    (case c3 => k_is)
    (case k3 => k_is)
    (case a4 => k_is)
    (case l4 => k_is)
    (case c4 => k_is)
    (case k4 => k_is)
    (case a5 => k_is)
    (case l5 => k_is)
    (case c5 => k_is)
    (case k5 => k_is)
    (case a6 => k_is)
    (case l6 => k_is)
    (case c6 => k_is)
    (case k6 => k_is)
    (case t6 => k_is)
    (case a7 => k_is)
    (case l7 => k_is)
    (case c7 => k_is)
    (case k7 => k_is)
    (case t7 => k_is)
    (case a8 => k_is)
    (case l8 => k_is)
    (case c8 => k_is)
    (case k8 => k_is)
    (case t8 => k_is)
    (case a9 => k_is)
    (case l9 => k_is)
    (case c9 => k_is)
    (case k9 => k_is)
    (case t9 => k_is)
    (case a10 => k_is)
    (case l10 => k_is)
    (case c10 => k_is)
    (case k10 => k_is)
    (case t10 => k_is)
    (case a11 => k_is)
    (case l11 => k_is)
    (case c11 => k_is)
    (case k11 => k_is)
    (case t11 => k_is)
    (case a12 => k_is)
    (case l12 => k_is)
    (case c12 => k_is)
    (case k12 => k_is)
    (case t12 => k_is)
    (case a13 => k_is)
    (case l13 => k_is)
    (case c13 => k_is)
    (case k13 => k_is)
    (case t13 => k_is)
    (case a14 => k_is)
    (case l14 => k_is)
    (case c14 => k_is)
    (case k14 => k_is)
    (case t14 => k_is)
    (case a15 => k_is)
    (case l15 => k_is)
    (case c15 => k_is)
    (case k15 => k_is)
    (case t15 => k_is)
    (case a16 => k_is)
    (case l16 => k_is)
    (case c16 => k_is)
    (case k16 => k_is)
    (case t16 => k_is)
    (case a17 => k_is)
    (case l17 => k_is)
    (case c17 => k_is)
    (case k17 => k_is)
    (case t17 => k_is)
    (case a18 => k_is)
    (case l18 => k_is)
    (case c18 => k_is)
    (case k18 => k_is)
    (case t18 => k_is)
    (case a19 => k_is)
    (case b19 => k_is)
    (case l19 => k_is)
    (case c19 => k_is)
    (case k19 => k_is)
    (case t19 => k_is)
    (case lT => k_is)
    (case xE => k_is)
    (case x0 => k_is)
    (case x1 => k_is)
    (case x2 => k_is)
    (case x3 => k_is)
    (case x4 => k_is)
    (case x5 => k_is)
    (case x6 => k_is)
    (case x7 => k_is)
    (case x8 => k_is)
    (case x9 => k_is)
    (case x10 => k_is)
    (case x11 => k_is)
    (case x12 => k_is)
    (case saE => k_is)
    (case kcE => k_is)
    (case gaE => k_is)
    (case ggE => k_is)
    (case ccE => k_is)
    (case sa0 => k_is)
    (case kc0 => k_is)
    (case ga0 => k_is)
    (case gg0 => k_is)
    (case cc0 => k_is)
    (case sa1 => k_is)
    (case kc1 => k_is)
    (case ga1 => k_is)
    (case gg1 => k_is)
    (case cc1 => k_is)
    (case sa2 => k_is)
    (case kc2 => k_is)
    (case ga2 => k_is)
    (case gg2 => k_is)
    (case cc2 => k_is)
    (case sa3 => k_is)
    (case kc3 => k_is)
    (case ga3 => k_is)
    (case gg3 => k_is)
    (case cc3 => k_is)
    (case sa4 => k_is)
    (case kc4 => k_is)
    (case ga4 => k_is)
    (case gg4 => k_is)
    (case cc4 => k_is)
    (case sa5 => k_is)
    (case kc5 => k_is)
    (case ga5 => k_is)
    (case gg5 => k_is)
    (case cc5 => k_is)
    (case sa6 => k_is)
    (case kc6 => k_is)
    (case ga6 => k_is)
    (case gg6 => k_is)
    (case cc6 => k_is)
    (case sa7 => k_is)
    (case kc7 => k_is)
    (case ga7 => k_is)
    (case gg7 => k_is)
    (case cc7 => k_is)
    (case sa8 => k_is)
    (case kc8 => k_is)
    (case ga8 => k_is)
    (case gg8 => k_is)
    (case cc8 => k_is)
    (case sa9 => k_is)
    (case kc9 => k_is)
    (case ga9 => k_is)
    (case gg9 => k_is)
    (case cc9 => k_is)
    (case sa10 => k_is)
    (case kc10 => k_is)
    (case ga10 => k_is)
    (case gg10 => k_is)
    (case cc10 => k_is)
    (case sa11 => k_is)
    (case kc11 => k_is)
    (case ga11 => k_is)
    (case gg11 => k_is)
    (case cc11 => k_is)
    (case sa12 => k_is)
    (case kc12 => k_is)
    (case ga12 => k_is)
    (case gg12 => k_is)
    (case cc12 => k_is)
    (case nf0 => k_is)
    (case nf1 => k_is)
    (case nf2 => k_is)
    (case nf3 => k_is)
    (case nf4 => k_is)
    (case nf5 => k_is)
    (case nf6 => k_is)
    (case nf7 => k_is)
    (case nf8 => k_is)
    (case nf9 => k_is)
    (case nf10 => k_is)
    (case nf11 => k_is)
    (case hn => k_is)
    (case ht => k_is)
    (case gaM => k_is)
    (case rdM => k_is)
    (case vV => k_is)
    (case vS => k_is)
    (case z0 => k_is)
    (case z1 => k_is)
    (case z2 => k_is)
    (case z3 => k_is)
    (case z4 => k_is)
    (case z5 => k_is)
    (case z6 => k_is)
    (case z7 => k_is)
    (case nd => decide)
