import PyProof.Rows.All
import Wide.All
import OpenK.AllK
import Wide.FinOn
import HandS.ForMost
import PySem.Challenge.RW_coveredcells_k02_bad_programs
import HandS.Walk
import HandS.IsInst
import HandS.StrMore
import HandS.Flow
import HandS.More
import HandS.DictComp
import KE.GoesEnum
import HandS.TupSets
import HandS.ExcInit
import HandS.ClsMeth
import HandS.Defaults
import HandS.FStr
import HandS.ForExc
import HandS.Iter
import HandS.SetBool
import KE.KPairComp
import HandS.TryMany
import HandS.ExcField
import HandS.Text
set_option Elab.async false
set_option maxRecDepth 100000
/-! The drawing part of the laws: the source of draws, the draws, a picked item, a subset. -/
namespace CC
open PySem L2
set_option linter.unusedVariables false
def top (i : Nat) : Stmt := PySem.Challenge.pw_coveredcells_k02_bad_programs.main.body.getD i (.Pass ⟨0, 0, 0, 0⟩)
abbrev sSource : Stmt := top 23
abbrev sDraw : Stmt := top 24
abbrev sPick : Stmt := top 25
abbrev sSubset : Stmt := top 26
/-- all that stood stands, but perhaps what stands at p -/
def Grow (p : Addr) (H H' : Hp) : Prop := ∀ b o, H b = some o → b ≠ p → H' b = some o
theorem Grow.rfl' {p : Addr} {H : Hp} : Grow p H H := fun _ _ e _ => e
theorem Grow.trans {p : Addr} {H H1 H2 : Hp} (a : Grow p H H1) (b : Grow p H1 H2) : Grow p H H2 := fun q o e n => b q o (a q o e n) n
theorem Grow.new {p q : Addr} {o : HO} {H : Hp} (h : H q = none) : Grow p H (upd H q o) := fun b u e _ => by
  rw [upd_ne (ne_of_none e h)]
  exact e
theorem Grow.at_ {p : Addr} {o : HO} {H : Hp} : Grow p H (upd H p o) := fun b u e n => by
  rw [upd_ne n]
  exact e
theorem Grow.put {p q : Addr} {o : HO} {H H1 : Hp} (g : Grow p H H1) (h : H q = none) : Grow p H (upd H1 q o) := fun b u e n => by
  rw [upd_ne (ne_of_none e h)]
  exact g b u e n
theorem small {n : Nat} (h : n < 1000000) : n < sizeLine := by
  rw [PySem.sizeLine_eq]
  omega
/-- the source of draws at p: its three numbers; at most n draws have been done -/
def Src (p : Addr) (n : Nat) (H : Hp) : Prop := ∃ g s c : Int, H p = some (.lst [.int g, .int s, .int c]) ∧ 0 ≤ s ∧ s < 2147483647 ∧ 0 ≤ c ∧ c ≤ (n : Int)
theorem Src.le {p : Addr} {n m : Nat} {H : Hp} (h : Src p n H) (e : n ≤ m) : Src p m H := by
  obtain ⟨g, s, c, a, b, d, f, z⟩ := h
  exact ⟨g, s, c, a, b, d, f, by omega⟩
theorem Src.new {p q : Addr} {n : Nat} {o : HO} {H : Hp} (h : Src p n H) (hq : H q = none) : Src p n (upd H q o) := by
  obtain ⟨g, s, c, a, r⟩ := h
  exact ⟨g, s, c, by rw [upd_ne (ne_of_none a hq)]; exact a, r⟩
theorem Src.ne {p q : Addr} {n : Nat} {H : Hp} (h : Src p n H) (hq : H q = none) : p ≠ q := by
  obtain ⟨g, s, c, a, r⟩ := h
  exact ne_of_none a hq
theorem Src.put {p q : Addr} {n : Nat} {o : HO} {H : Hp} (h : Src p n H) (hq : p ≠ q) : Src p n (upd H q o) := by
  obtain ⟨g, s, c, a, r⟩ := h
  exact ⟨g, s, c, by rw [upd_ne hq]; exact a, r⟩
def spSource (K : PySem.W.Frag) : Sp := fun vs H Q _ => ∃ (a : Addr) (ns : List Int), vs = [.ref a] ∧ SqL K H a (ns.map V.int) ∧
  ∀ (p : Addr) (H' : Hp), Same H H' → H p = none → Src p 0 H' → Q (.ref p) H'
def spDraw : Sp := fun vs H Q _ => ∃ (p : Addr) (n : Nat) (m : Int), vs = [.ref p, .int m] ∧ Src p n H ∧ n < 1000000 ∧ 0 < m ∧ m < 1000000 ∧
  ∀ (r : Int) (H' : Hp), 0 ≤ r → r < m → Grow p H H' → Src p (n + 1) H' → Q (.int r) H'
section
variable {P : Program} {w : World} {K : PySem.W.Frag} {mg : Str → Option Value} {base : Heap}
theorem mod_lo (a : Int) : 0 ≤ a.fmod 2147483647 ∧ a.fmod 2147483647 < 2147483647 := ⟨Int.fmod_nonneg_of_pos a (by decide), Int.fmod_lt_of_pos a (by decide)⟩
theorem scSource : FnScope ["_law_script", "_law_great", "_law_seed", "_law_cell"] ["_law_script"] (defScope sSource) := ⟨rfl, rfl, rfl, by decide +kernel, rfl, by decide +kernel, by decide +kernel⟩
theorem ok_source {f : Addr} {fd : FuncData} (F : Fun K "_law_source" "_law_source" sSource f fd) (ti : mg "int" = none) : FnOk P w K mg base CX0 1 f fd ["_law_script"] (spSource K) := by
  refine F.ok scSource (fun vs H Q E h => ?_) (fun cdv A outer s H vs Q E hr h => ?_)
  · obtain ⟨a, ns, rfl, _⟩ := h
    rfl
  · obtain ⟨a, ns, rfl, hS, k⟩ := h
    refine ⟨_, pss_cons (ps_asg (pe_tup (pa_cons pe_int (pa_cons pe_int pa_nil))) (pg_tup (by rfl) (pgs_cons (pg_name (i := 1) scSource.nd rfl (Or.inl rfl)) (pgs_cons (pg_name (i := 2) scSource.nd rfl (Or.inl rfl)) pgs_nil))))
      (pss_cons (ps_for PassesOwn.never rfl (pi_list (pv 0)) (pg_name (i := 3) scSource.nd rfl (Or.inl rfl))
        (pss_cons (ps_if (PW.pt (pw_and (pt_cmpR op_eq (pv 1) pe_int (nomark _)) (pw_and1 (pt_cmpR op_ge (pv 3) (pe_op op_pow pe_int pe_int) (nomark _)))))
          (pss_one (ps_set (i := 1) scSource.nd rfl (Or.inl rfl) (pv 3))) pss_nil)
        (pss_one (ps_set (i := 2) scSource.nd rfl (Or.inl rfl) (pe_op op_modN (pe_callTy call_int1 (by rfl) ti (by decide +kernel) (pa_cons (pe_op op_add (pe_op op_add (pe_op op_mul (pv 2) pe_int) (pv 3)) pe_int) pa_nil)) pe_int)))))
      (pss_one (ps_ret (pe_lst (pa_cons (pv 1) (pa_cons (pv 2) (pa_cons pe_int pa_nil))))))), ?_⟩
    refine ⟨(by show 2 ≤ sizeLine; decide), fun t ht => ?_⟩
    have s1 : Same H (upd H t (.tup [V.int 0, V.int 17])) := fun b o e => by
      rw [upd_ne (ne_of_none e ht)]
      exact e
    refine ⟨t, _, rfl, SqT.of upd_same, rfl, _, _, rfl, _, _, rfl, rfl, ?_⟩
    refine ⟨_, rfl, a, rfl, ⟨_, s1.seq hS⟩, for_list (K := K) (a := a) (xs := ns.map V.int) (fun i σ H2 => ∃ (g z : Int) (v : Option V), σ = [some (.ref a), some (.int g), some (.int z), v] ∧ Same H H2 ∧ 0 ≤ z ∧ z < 2147483647)
      ⟨0, 17, none, rfl, s1, by decide, by decide⟩ (fun i σ H2 _ ⟨_, _, _, _, e, _⟩ => e.seq hS) ?_ ?_⟩
    · rintro i y σ H2 hi ⟨g, z, v, rfl, s2, z0, z1⟩
      obtain ⟨x, rfl⟩ : ∃ x, y = V.int x := by
        rw [List.getElem?_map] at hi
        cases e : ns[i]? with
        | none =>
          rw [e] at hi
          cases hi
        | some x =>
          rw [e] at hi
          exact ⟨x, (Option.some.inj hi).symm⟩
      have md := mod_lo (z * 31 + x + 7)
      -- great == 0 and cell >= 10 ** 18
      refine ⟨_, rfl, rfl, _, rfl, ?_⟩
      refine ite2 (fun _ => ?_) (fun _ => iteF ?_)
      · refine ⟨_, rfl, _, _, rfl, rfl, ⟨by decide, by decide, by decide⟩, _, _, rfl, rfl, _, rfl, ?_⟩
        refine ite2 (fun _ => ?_) (fun _ => ?_)
        · refine ⟨_, rfl, ?_⟩
          exact ⟨_, rfl, _, _, rfl, rfl, Or.inr ⟨by decide, by decide⟩, _, rfl, _, _, rfl, rfl, _, _, rfl, rfl, Or.inl ⟨_, rfl, _, _, rfl, rfl, (by show (2147483647 : Int) ≠ 0; decide), _, _, _, rfl, s2, md.1, md.2⟩⟩
        · exact ⟨_, rfl, _, _, rfl, rfl, Or.inr ⟨by decide, by decide⟩, _, rfl, _, _, rfl, rfl, _, _, rfl, rfl, Or.inl ⟨_, rfl, _, _, rfl, rfl, (by show (2147483647 : Int) ≠ 0; decide), _, _, _, rfl, s2, md.1, md.2⟩⟩
      · exact ⟨_, rfl, _, _, rfl, rfl, Or.inr ⟨by decide, by decide⟩, _, rfl, _, _, rfl, rfl, _, _, rfl, rfl, Or.inl ⟨_, rfl, _, _, rfl, rfl, (by show (2147483647 : Int) ≠ 0; decide), _, _, _, rfl, s2, md.1, md.2⟩⟩
    · rintro σ H2 ⟨g, z, v, rfl, s2, z0, z1⟩
      refine ⟨_, rfl, _, rfl, (by show 3 ≤ sizeLine; decide), fun p hp => ?_⟩
      refine k p _ (fun b o e => ?_) (s2.free hp) ⟨g, z, 0, upd_same, z0, z1, by omega, by omega⟩
      rw [upd_ne (ne_of_none (s2 b o e) hp)]
      exact s2 b o e
theorem at0 {x y z : V} : atI [x, y, z] 0 = some x := rfl
theorem at1 {x y z : V} : atI [x, y, z] 1 = some y := rfl
theorem at2 {x y z : V} : atI [x, y, z] 2 = some z := rfl
theorem md_lo (a : Int) {m : Int} (h : 0 < m) : 0 ≤ a.fmod m ∧ a.fmod m < m := ⟨Int.fmod_nonneg_of_pos a h, Int.fmod_lt_of_pos a h⟩
theorem abs_lt {a : Int} (h : 0 ≤ a) (k : a < 2 ^ 64) : a.natAbs < 2 ^ 64 := by omega
theorem sq_lt {c : Int} (h : 0 ≤ c) (k : c ≤ 1000000) : 0 ≤ 16807 * c * c ∧ 16807 * c * c ≤ 16807000000 * 1000000 := by
  have h1 : 16807 * c ≤ 16807000000 := by omega
  have h0 : 0 ≤ 16807 * c := by omega
  exact ⟨Int.mul_nonneg h0 h, Int.mul_le_mul h1 k h (by decide)⟩
theorem scDraw : FnScope ["_law_source_here", "_law_many", "_law_digit", "_law_mixed"] ["_law_source_here", "_law_many"] (defScope sDraw) := ⟨rfl, rfl, rfl, by decide +kernel, rfl, by decide +kernel, by decide +kernel⟩
theorem ok_draw {f : Addr} {fd : FuncData} (F : Fun K "_law_draw" "_law_draw" sDraw f fd) (ti : mg "int" = none) : FnOk P w K mg base CX0 1 f fd ["_law_source_here", "_law_many"] spDraw := by
  refine F.ok scDraw (fun vs H Q E h => ?_) (fun cdv A outer s H vs Q E hr h => ?_)
  · obtain ⟨p, n, m, rfl, _⟩ := h
    rfl
  · obtain ⟨p, n, m, rfl, ⟨g, z, c, hp, z0, z1, c0, c1⟩, hn, m0, m1, k⟩ := h
    refine ⟨_, pss_cons (ps_asg (pe_op op_add (pe_ix ix_list (pv 0) pe_int (fun _ _ => rfl)) pe_int) (pg_sub (pv 0) pe_int set_list))
      (pss_cons (ps_if (pt_cmpR op_gt (pe_ix ix_list (pv 0) pe_int (fun _ _ => rfl)) pe_int (nomark _))
        (pss_cons (ps_set (i := 2) scDraw.nd rfl (Or.inl rfl) (pe_op op_modN (pe_callTy call_int1 (by rfl) ti (by decide +kernel) (pa_cons (pe_ix ix_list (pv 0) pe_int (fun _ _ => rfl)) pa_nil)) (pv 1)))
        (pss_cons (ps_asg (pe_op op_fdivN (pe_ix ix_list (pv 0) pe_int (fun _ _ => rfl)) (pv 1)) (pg_sub (pv 0) pe_int set_list))
        (pss_one (ps_ret (pv 2))))) pss_nil)
      (pss_cons (ps_set (i := 3) scDraw.nd rfl (Or.inl rfl) (pe_op op_modN (pe_op op_pow (pe_op op_add (pe_ix ix_list (pv 0) pe_int (fun _ _ => rfl)) (pe_op op_mul pe_int (pe_ix ix_list (pv 0) pe_int (fun _ _ => rfl)))) pe_int) pe_int))
      (pss_one (ps_ret (pe_op op_modN (pe_op op_modN (pe_op op_pow (pe_op op_add (pe_op op_add (pe_op op_mul (pv 3) pe_int) (pe_op op_mul (pe_op op_mul pe_int (pe_ix ix_list (pv 0) pe_int (fun _ _ => rfl))) (pe_ix ix_list (pv 0) pe_int (fun _ _ => rfl)))) pe_int) pe_int) pe_int) (pv 1)))))), ?_⟩
    refine ⟨_, rfl, p, _, _, _, rfl, rfl, SqL.of hp, at2, _, _, rfl, rfl, _, rfl, p, _, _, 2, rfl, rfl, hp, rfl, ?_⟩
    have h1 : (upd H p (.lst [V.int g, V.int z, V.int (c + 1)])) p = some (.lst [V.int g, V.int z, V.int (c + 1)]) := upd_same
    refine ⟨_, rfl, p, _, _, _, rfl, rfl, SqL.of h1, at0, _, _, rfl, rfl, _, rfl, ?_⟩
    have mm := md_lo g m0
    refine ite2 (fun _ => ?_) (fun _ => ?_)
    · refine ⟨_, rfl, p, _, _, _, rfl, rfl, SqL.of h1, at0, Or.inl ⟨_, rfl, _, rfl, _, _, rfl, rfl, (by show m ≠ 0; omega), ?_⟩⟩
      refine ⟨_, rfl, p, _, _, _, rfl, rfl, SqL.of h1, at0, _, rfl, _, _, rfl, rfl, ⟨by omega, by omega⟩, _, rfl, p, _, _, 0, rfl, rfl, h1, rfl, ?_⟩
      refine ⟨_, rfl, k _ _ mm.1 mm.2 (Grow.at_.trans Grow.at_) ⟨_, _, _, upd_same, z0, z1, by omega, by omega⟩⟩
    · refine ⟨_, rfl, p, _, _, _, rfl, rfl, SqL.of h1, at1, _, rfl, p, _, _, _, rfl, rfl, SqL.of h1, at2, _, _, rfl, rfl, Or.inl ⟨by decide, by decide⟩, _, _, rfl, rfl, _, _, rfl, rfl, ⟨by decide, by decide, abs_lt (by omega) (by omega)⟩, _, _, rfl, rfl, (by show (2147483629 : Int) ≠ 0; decide), ?_⟩
      have e1 := md_lo ((z + 7919 * (c + 1)) ^ (5 : Int).toNat) (m := 2147483629) (by decide)
      have e2 := sq_lt (c := c + 1) (by omega) (by omega)
      refine ⟨_, rfl, _, _, rfl, rfl, Or.inr ⟨by decide, by decide⟩, _, rfl, p, _, _, _, rfl, rfl, SqL.of h1, at2, _, _, rfl, rfl, Or.inl ⟨by decide, by decide⟩, _, rfl, p, _, _, _, rfl, rfl, SqL.of h1, at2, _, _, rfl, rfl, Or.inl ⟨by omega, by omega⟩, _, _, rfl, rfl, _, _, rfl, rfl, _, _, rfl, rfl, ⟨by decide, by decide, abs_lt (by omega) (by omega)⟩, _, _, rfl, rfl, (by show (1000000007 : Int) ≠ 0; decide), _, rfl, _, _, rfl, rfl, (by show m ≠ 0; omega), ?_⟩
      exact k _ _ (md_lo _ m0).1 (md_lo _ m0).2 Grow.at_ ⟨_, _, _, upd_same, z0, z1, by omega, by omega⟩
/-! ### an item that is picked -/
def spPick (K : PySem.W.Frag) : Sp := fun vs H Q _ => ∃ (p l : Addr) (n : Nat) (xs : List V), vs = [.ref p, .ref l] ∧ Src p n H ∧ n < 1000000 ∧ H l = some (.lst xs) ∧ 0 < xs.length ∧ xs.length < 1000 ∧ p ≠ l ∧
  ∀ (x : V) (H' : Hp), x ∈ xs → Grow p H H' → Src p (n + 1) H' → Q x H'
theorem scPick : FnScope ["_law_source_here", "_law_things"] ["_law_source_here", "_law_things"] (defScope sPick) := ⟨rfl, rfl, rfl, by decide +kernel, rfl, by decide +kernel, by decide +kernel⟩
theorem ok_pick {f fD : Addr} {fd fdD : FuncData} (F : Fun K "_law_pick" "_law_pick" sPick f fd) (GD : FnOk P w K mg base CX0 1 fD fdD ["_law_source_here", "_law_many"] spDraw) (mD : mg "_law_draw" = some (.ref fD)) (kD : PySem.W.keepIn K (.ref fD) = true) (bD : Binds K fdD ["_law_source_here", "_law_many"] []) (tl : mg "len" = none) :
    FnOk P w K mg base CX0 2 f fd ["_law_source_here", "_law_things"] (spPick K) := by
  refine F.ok scPick (fun vs H Q E h => ?_) (fun cdv A outer s H vs Q E hr h => ?_)
  · obtain ⟨p, l, n, xs, rfl, _⟩ := h
    rfl
  · obtain ⟨p, l, n, xs, rfl, hp, hn, hl, l0, l1, npl, k⟩ := h
    refine ⟨_, pss_one (ps_ret (pe_ix ix_list (pv 1) (pe_call GD hr rfl mD kD bD .nil pass0 (pa_cons (pv 0) (pa_cons (pe_callB call_len_seq (by rfl) tl PySem.boot_len (pa_cons (pv 1) pa_nil)) pa_nil))) (fun _ _ => rfl))), ?_⟩
    refine ⟨_, rfl, _, rfl, _, rfl, l, _, rfl, .inl (SqL.of hl), p, n, _, rfl, hp, hn, by omega, by omega, fun r H' r0 r1 gr sr => ?_⟩
    have hl' : H' l = some (.lst xs) := gr l _ hl npl.symm
    obtain ⟨j, rfl⟩ : ∃ j : Nat, r = (j : Int) := ⟨r.toNat, by omega⟩
    have hj : j < xs.length := by omega
    refine ⟨l, _, _, xs[j], rfl, rfl, SqL.of hl', atI_nat (List.getElem?_eq_getElem hj), ?_⟩
    exact k _ _ (List.getElem_mem hj) gr sr
/-! ### a subset -/
def spSubset (K : PySem.W.Frag) : Sp := fun vs H Q _ => ∃ (p l : Addr) (n : Nat) (xs : List V), vs = [.ref p, .ref l] ∧ Src p n H ∧ n + xs.length < 1000000 ∧ H l = some (.lst xs) ∧ p ≠ l ∧
  ∀ (q : Addr) (ys : List V) (H' : Hp), ys.Sublist xs → Grow p H H' → H q = none → H' q = some (.lst ys) → Src p (n + xs.length) H' → Q (.ref q) H'
theorem scSubset : FnScope ["_law_source_here", "_law_row", "_law_one"] ["_law_source_here", "_law_row"] (defScope sSubset) := ⟨rfl, rfl, rfl, by decide +kernel, rfl, by decide +kernel, by decide +kernel⟩
end
end CC
set_option Elab.async false
set_option maxRecDepth 100000
namespace CC
open PySem L2
section
variable {P : Program} {w : World} {K : PySem.W.Frag} {mg : Str → Option Value} {base : Heap}
theorem ok_subset {f fD : Addr} {fd fdD : FuncData} (F : Fun K "_law_subset" "_law_subset" sSubset f fd) (GD : FnOk P w K mg base CX0 1 fD fdD ["_law_source_here", "_law_many"] spDraw) (mD : mg "_law_draw" = some (.ref fD)) (kD : PySem.W.keepIn K (.ref fD) = true) (bD : Binds K fdD ["_law_source_here", "_law_many"] []) :
    FnOk P w K mg base CX0 2 f fd ["_law_source_here", "_law_row"] (spSubset K) := by
  refine F.ok scSubset (fun vs H Q E h => ?_) (fun cdv A outer s H vs Q E hr h => ?_)
  · obtain ⟨p, l, n, xs, rfl, _⟩ := h
    rfl
  · obtain ⟨p, l, n, xs, rfl, hp, hn, hl, npl, k⟩ := h
    refine ⟨_, pss_one (ps_ret (pe_lc (own := [("_law_one", 2)]) (g := gName 2) (by rfl) scSubset.nd (pi_list (pv 1)) (blkOk_by (own := [("_law_one", 2)]) (N := ["_law_source_here", "_law_row", "_law_one"]) (sc := defScope sSubset) (by decide +kernel)) (fun _ _ _ _ _ => pg_name (i := 2) scSubset.nd rfl (Or.inl rfl))
      (fun _ _ _ _ _ => pts_one (pt_cmpR op_eq (pe_call GD hr rfl mD kD bD .nil pass0 (pa_cons (pv 0) (pa_cons pe_int pa_nil))) pe_int (nomark _))) (fun _ _ _ _ _ => pv 2))), ?_⟩
    refine ⟨_, rfl, l, rfl, ⟨_, SqL.of hl⟩, fun D hD => ?_⟩
    refine lc_list (K := K) (a := l) (xs := xs) (fun i H2 => ∃ ys, ys.Sublist (xs.take i) ∧ H2 D = some (.lst ys) ∧ Grow p H H2 ∧ Src p (n + i) H2) ⟨[], List.nil_sublist _, upd_same, Grow.new hD, hp.new hD⟩ (fun i H2 _ ⟨_, _, _, g, _⟩ => SqL.of (g l _ hl npl.symm)) ?_ ?_
    · rintro i y H2 hi ⟨ys, sub, hD2, g2, s2⟩
      have hil : i < xs.length := (List.getElem?_eq_some_iff.mp hi).1
      have pD : p ≠ D := hp.ne hD
      refine ⟨rfl, _, rfl, p, n + i, 2, rfl, s2, by omega, by decide, by decide, fun r H3 r0 r1 g3 s3 => ?_⟩
      have hD3 : H3 D = some (.lst ys) := g3 _ _ hD2 pD.symm
      have tk : xs.take (i + 1) = xs.take i ++ [y] := by rw [List.take_add_one, hi]; rfl
      refine ⟨rfl, _, rfl, ?_⟩
      refine ite2 (fun _ => ?_) (fun _ => ?_)
      · refine ⟨_, rfl, ys, hD3, small (by have := sub.length_le; rw [List.length_take] at this; omega), ys ++ [y], ?_, upd_same, (g2.trans g3).put hD, s3.put pD⟩
        rw [tk]
        exact sub.append (List.Sublist.refl _)
      · refine ⟨ys, ?_, hD3, g2.trans g3, s3⟩
        rw [tk]
        exact sub.trans (List.sublist_append_left _ _)
    · rintro H2 ⟨ys, sub, hD2, g2, s2⟩
      rw [List.take_length] at sub
      exact k _ _ _ sub g2 hD hD2 s2
end
end CC
set_option Elab.async false
set_option maxRecDepth 100000
namespace CC
open PySem L2
set_option linter.unusedVariables false
/-! ### rows -/
inductive Row where
  | rest (to : Nat)
  | ins (to : Nat)
  | wr (c : Str) (v : Int) (to : Nat)
  | rd (c : Str) (cs : List (Int × Nat)) (to : Nat)
def Row.to : Row → Nat
  | .rest n => n
  | .ins n => n
  | .wr _ _ n => n
  | .rd _ _ n => n
def kvOf (cs : List (Int × Nat)) : List (Key × V) := cs.map fun kv => ((Sum.inl kv.1 : Key), V.int (kv.2 : Nat))
def RowAt (H : Hp) (r : Row) (a : Addr) : Prop :=
  match r with
  | .rest n => H a = some (.tup [.str "rest", .int (n : Nat)])
  | .ins n => H a = some (.tup [.str "inside", .int (n : Nat)])
  | .wr c v n => H a = some (.tup [.str "write", .str c, .int v, .int (n : Nat)])
  | .rd c cs n => ∃ d, H a = some (.tup [.str "read", .str c, .ref d, .int (n : Nat)]) ∧ H d = some (.dK (kvOf cs))
theorem RowAt.mono {H H' : Hp} {r : Row} {a : Addr} (h : RowAt H r a) (k : ∀ b xs, H b = some (.tup xs) → H' b = some (.tup xs)) (k2 : ∀ b xs, H b = some (.dK xs) → H' b = some (.dK xs)) : RowAt H' r a := by
  cases r with
  | rest n => exact k _ _ h
  | ins n => exact k _ _ h
  | wr c v n => exact k _ _ h
  | rd c cs n =>
    obtain ⟨d, h1, h2⟩ := h
    exact ⟨d, k _ _ h1, k2 _ _ h2⟩
theorem Grow.tup {p : Addr} {n : Nat} {H H' : Hp} (g : Grow p H H') (s : Src p n H) {b : Addr} {xs : List V} (h : H b = some (.tup xs)) : H' b = some (.tup xs) := by
  obtain ⟨_, _, _, a, _⟩ := s
  exact g _ _ h (ne_of h a (by intro z; cases z))
theorem Grow.dk {p : Addr} {n : Nat} {H H' : Hp} (g : Grow p H H') (s : Src p n H) {b : Addr} {xs : List (Key × V)} (h : H b = some (.dK xs)) : H' b = some (.dK xs) := by
  obtain ⟨_, _, _, a, _⟩ := s
  exact g _ _ h (ne_of h a (by intro z; cases z))
theorem Grow.free {p a : Addr} {n : Nat} {H H' : Hp} (g : Grow p H H') (h : H' a = none) (s : Src p n H') : H a = none := by
  cases e : H a with
  | none => rfl
  | some o =>
    have z := g a o e (s.ne h).symm
    rw [h] at z
    cases z
theorem RowAt.grow {p : Addr} {n : Nat} {H H' : Hp} {r : Row} {a : Addr} (h : RowAt H r a) (g : Grow p H H') (s : Src p n H) : RowAt H' r a := h.mono (fun _ _ e => g.tup s e) fun _ _ e => g.dk s e
/-- a row of a program with n rows over these cells -/
def Row.ok (n : Nat) (cells : List Str) : Row → Prop
  | .rest m => m < n
  | .ins m => m < n
  | .wr c v m => c ∈ cells ∧ 0 ≤ v ∧ m < n
  | .rd c cs m => c ∈ cells ∧ (cs.map (·.1)).Nodup ∧ (∀ kv ∈ cs, 0 ≤ kv.1 ∧ kv.2 < n) ∧ m < n ∧ cs.length ≤ 10
/-- a row that writes or reads, and leads to rows from first to below last -/
def Row.mid (first last : Nat) (cells : List Str) : Row → Prop
  | .rest _ => False
  | .ins _ => False
  | .wr c v m => c ∈ cells ∧ 0 ≤ v ∧ first ≤ m ∧ m < last
  | .rd c cs m => c ∈ cells ∧ (cs.map (·.1)).Nodup ∧ (∀ kv ∈ cs, 0 ≤ kv.1 ∧ first ≤ kv.2 ∧ kv.2 < last) ∧ first ≤ m ∧ m < last ∧ cs.length ≤ 10
abbrev sAnyRow : Stmt := top 29
def spAnyRow : Sp := fun vs H Q _ => ∃ (p cl wl : Addr) (n first last : Nat) (cells : List Str) (ws : List Int), vs = [.ref p, .ref cl, .int (first : Nat), .int (last : Nat), .ref wl] ∧ Src p n H ∧ n + 100 < 1000000 ∧
  H cl = some (.lst (cells.map V.str)) ∧ H wl = some (.lst (ws.map V.int)) ∧ p ≠ cl ∧ p ≠ wl ∧ 0 < cells.length ∧ cells.length < 100 ∧ SeqAt.shaped (.list (cells.map PyData.str)) = true ∧
  ws.Nodup ∧ (∀ v ∈ ws, 0 ≤ v) ∧ 0 < ws.length ∧ ws.length ≤ 10 ∧ first < last ∧ last < 1000 ∧
  ∀ (a : Addr) (r : Row) (H' : Hp), Grow p H H' → H a = none → RowAt H' r a → r.mid first last cells → Src p (n + 50) H' → Q (.ref a) H'
theorem dp_strs {K : PySem.W.Frag} {H : Hp} {cl : Addr} {cells : List Str} (h : H cl = some (.lst (cells.map V.str))) : Dp K H (.ref cl) (.list (cells.map PyData.str)) := by
  refine .lst (SqL.of h) ?_
  have : ∀ l : List Str, DpAll K H (l.map V.str) (l.map PyData.str) := fun l => by
    induction l with
    | nil => exact .nil
    | cons x l ih => exact .cons (.str x) ih
  exact this cells
theorem eqv_nil {cells : List Str} (h : 0 < cells.length) : PyData.eqv (.list (cells.map PyData.str)) (.list []) = false := by
  cases cells with
  | nil => cases h
  | cons x l => rfl
theorem ite_no {b : Bool} {A B : Prop} (e : b = false) (h : B) : if b = true then A else B := by
  rw [e]
  exact iteF h
theorem ite_yes {b : Bool} {A B : Prop} (e : b = true) (h : A) : if b = true then A else B := by
  rw [e]
  exact iteT h
theorem tyes_if {σ : L2.St} {H : Hp} {A B : Hp → Prop} (h : A H) : tYes σ H (fun b H3 => if b = true then A H3 else B H3) := by
  show (if true = true then A H else B H)
  exact iteT h
theorem valV_kv {k : Int} : ∀ {cs : List (Int × Nat)}, k ∉ cs.map (·.1) → valV (kvOf cs) (Sum.inl k : Key) = none
  | [], _ => rfl
  | p :: r, h => by
    show valV ((((Sum.inl p.1 : Key), V.int (p.2 : Nat))) :: kvOf r) (Sum.inl k) = none
    rw [valV_neg (by intro e; cases e; exact h (List.mem_cons_self ..))]
    exact valV_kv fun m => h (List.mem_cons_of_mem _ m)
theorem merge_kv : ∀ (cs done : List (Int × Nat)), ((done ++ cs).map (·.1)).Nodup → mergeK (kvOf done) (kvOf cs) = kvOf (done ++ cs)
  | [], done, _ => by rw [List.append_nil]; rfl
  | p :: r, done, h => by
    have hn : p.1 ∉ done.map (·.1) := by
      rw [List.map_append, List.nodup_append] at h
      intro m
      exact h.2.2 _ m _ (List.mem_cons_self ..) rfl
    show mergeK (putK (kvOf done) (Sum.inl p.1) (V.int (p.2 : Nat))) (kvOf r) = _
    rw [putK_new _ (valV_kv hn)]
    have e : kvOf done ++ [((Sum.inl p.1 : Key), V.int (p.2 : Nat))] = kvOf (done ++ [p]) := by
      unfold kvOf
      rw [List.map_append]
      rfl
    rw [e, merge_kv r (done ++ [p]) (by rw [List.append_assoc]; exact h), List.append_assoc]
    rfl
theorem paired_map {α β γ : Type} {F : α → γ → Prop} {f : β → γ} : ∀ {l : List α} {m : List β}, Paired (fun a b => F a (f b)) l m → Paired F l (m.map f)
  | _, _, .nil => .nil
  | _, _, .cons h t => .cons h (paired_map t)
section
variable {P : Program} {w : World} {K : PySem.W.Frag} {mg : Str → Option Value} {base : Heap}
theorem scAnyRow : FnScope ["_law_source_here", "_law_cells", "_law_first", "_law_last", "_law_worths", "_law_span", "_law_where", "_law_cases", "_law_worth"] ["_law_source_here", "_law_cells", "_law_first", "_law_last", "_law_worths"] (defScope sAnyRow) := ⟨rfl, rfl, rfl, by decide +kernel, rfl, by decide +kernel, by decide +kernel⟩
theorem ok_anyrow {f fD fP fS : Addr} {fd fdD fdP fdS : FuncData} (F : Fun K "_law_any_row" "_law_any_row" sAnyRow f fd)
    (GD : FnOk P w K mg base CX0 1 fD fdD ["_law_source_here", "_law_many"] spDraw) (mD : mg "_law_draw" = some (.ref fD)) (kD : PySem.W.keepIn K (.ref fD) = true) (bD : Binds K fdD ["_law_source_here", "_law_many"] [])
    (GP : FnOk P w K mg base CX0 2 fP fdP ["_law_source_here", "_law_things"] (spPick K)) (mP : mg "_law_pick" = some (.ref fP)) (kP : PySem.W.keepIn K (.ref fP) = true) (bP : Binds K fdP ["_law_source_here", "_law_things"] [])
    (GS : FnOk P w K mg base CX0 2 fS fdS ["_law_source_here", "_law_row"] (spSubset K)) (mS : mg "_law_subset" = some (.ref fS)) (kS : PySem.W.keepIn K (.ref fS) = true) (bS : Binds K fdS ["_law_source_here", "_law_row"] []) (td : mg "dict" = none) :
    FnOk P w K mg base CX0 3 f fd ["_law_source_here", "_law_cells", "_law_first", "_law_last", "_law_worths"] spAnyRow := by
  refine F.ok scAnyRow (fun vs H Q E h => ?_) (fun cdv A outer s H vs Q E hr h => ?_)
  · obtain ⟨p, cl, wl, n, first, last, cells, ws, rfl, _⟩ := h
    rfl
  · obtain ⟨p, cl, wl, n, first, last, cells, ws, rfl, hp, hn, hcl, hwl, npc, npw, c0, c1, csh, wnd, wpos, w0, w1, fl, l1, k⟩ := h
    have hr1 : Room 1 _ := hr.mono (by decide)
    refine ⟨_, pss_cons (ps_set (i := 5) scAnyRow.nd rfl (Or.inr rfl) (pe_op op_sub (pv 3) (pv 2)))
      (pss_cons (ps_set (i := 6) scAnyRow.nd rfl (Or.inl rfl) (pe_lst (pa_cons (pe_op op_add (pv 2) (pe_call GD hr1 rfl mD kD bD .nil pass0 (pa_cons (pv 0) (pa_cons (pv 5) pa_nil)))) (pa_cons (pe_op op_add (pv 2) (pe_call GD hr1 rfl mD kD bD .nil pass0 (pa_cons (pv 0) (pa_cons (pv 5) pa_nil)))) pa_nil))))
      (pss_cons (ps_if (PW.pt (pw_or (pt_cmpR (op_eqD hr.units) (pv 1) (pe_lst pa_nil) (nomark _)) (pw_or1 (pt_cmpR op_eq (pe_call GD hr1 rfl mD kD bD .nil pass0 (pa_cons (pv 0) (pa_cons pe_int pa_nil))) pe_int (nomark _)))))
        (pss_cons (ps_if (pt_cmpR (op_eqD hr.units) (pv 1) (pe_lst pa_nil) (nomark _)) (pss_one (ps_ret pe_non)) pss_nil)
        (pss_one (ps_ret (pe_tup (pa_cons pe_str (pa_cons (pe_call GP hr rfl mP kP bP .nil pass0 (pa_cons (pv 0) (pa_cons (pv 1) pa_nil))) (pa_cons (pe_call GP hr rfl mP kP bP .nil pass0 (pa_cons (pv 0) (pa_cons (pv 4) pa_nil))) (pa_cons (pe_ix ix_list (pv 6) pe_int (fun _ _ => rfl)) pa_nil)))))))) pss_nil)
      (pss_cons (ps_set (i := 7) scAnyRow.nd rfl (Or.inl rfl) (pe_callTy (call_dictP rfl) (by rfl) td (by decide +kernel) (pa_cons
        (pe_lc (own := [("_law_worth", 8)]) (g := gName 8) (by rfl) scAnyRow.nd (pi_list (pe_call GS hr rfl mS kS bS .nil pass0 (pa_cons (pv 0) (pa_cons (pv 4) pa_nil)))) (blkOk_by (own := [("_law_worth", 8)]) (N := ["_law_source_here", "_law_cells", "_law_first", "_law_last", "_law_worths", "_law_span", "_law_where", "_law_cases", "_law_worth"]) (sc := defScope sAnyRow) (by decide +kernel)) (fun _ _ _ _ _ => pg_name (i := 8) scAnyRow.nd rfl (Or.inl rfl)) (fun _ _ _ _ _ => pts_nil)
          (fun _ _ _ _ _ => pe_tup (pa_cons (pv 8) (pa_cons (pe_op op_add (pv 2) (pe_call GD hr1 rfl mD kD bD .nil pass0 (pa_cons (pv 0) (pa_cons (pv 5) pa_nil)))) pa_nil)))) pa_nil)))
      (pss_one (ps_ret (pe_tup (pa_cons pe_str (pa_cons (pe_call GP hr rfl mP kP bP .nil pass0 (pa_cons (pv 0) (pa_cons (pv 1) pa_nil))) (pa_cons (pv 7) (pa_cons (pe_ix ix_list (pv 6) pe_int (fun _ _ => rfl)) pa_nil)))))))))), ?_⟩
    refine ⟨_, rfl, _, rfl, _, _, rfl, rfl, ?_⟩
    refine ⟨_, rfl, _, rfl, _, rfl, p, n, _, rfl, hp, by omega, by omega, by omega, fun r1 H1 a0 a1 g1 s1 => ⟨_, _, rfl, rfl, ?_⟩⟩
    refine ⟨_, rfl, _, rfl, _, rfl, p, n + 1, _, rfl, s1, by omega, by omega, by omega, fun r2 H2 b0 b1 g2 s2 => ⟨_, _, rfl, rfl, (by show 2 ≤ sizeLine; decide), fun L hL => ?_⟩⟩
    have pL := s2.ne hL
    have g3 : Grow p H (upd H2 L (.lst [V.int ((first : Int) + r1), V.int ((first : Int) + r2)])) := (g1.trans g2).trans (Grow.new hL)
    have s3 := s2.new (o := .lst [V.int ((first : Int) + r1), V.int ((first : Int) + r2)]) hL
    have l3 : (upd H2 L (.lst [V.int ((first : Int) + r1), V.int ((first : Int) + r2)])) L = some (.lst [V.int ((first : Int) + r1), V.int ((first : Int) + r2)]) := upd_same
    revert g3 s3 l3
    generalize (upd H2 L (.lst [V.int ((first : Int) + r1), V.int ((first : Int) + r2)])) = H3
    intro g3 s3 l3
    refine ⟨_, rfl, Nat.zero_le _, fun e he => ⟨_, _, dp_strs (by rw [upd_ne (ne_of_none (g3 _ _ hcl npc.symm) he)]; exact g3 _ _ hcl npc.symm), .lst (SqL.of upd_same) .nil, csh, rfl, _, rfl, ite_no (eqv_nil c0) ?_⟩⟩
    have g4 : Grow p H (upd H3 e (.lst [])) := g3.trans (Grow.new he)
    have s4 := s3.new (o := .lst []) he
    have l4 : (upd H3 e (.lst [])) L = some (.lst [V.int ((first : Int) + r1), V.int ((first : Int) + r2)]) := by
      rw [upd_ne (ne_of_none l3 he)]
      exact l3
    revert g4 s4 l4
    generalize (upd H3 e (.lst [])) = H4
    intro g4 s4 l4
    refine ⟨_, rfl, p, n + 2, 2, rfl, s4, by omega, by decide, by decide, fun r3 H5 d0 d1 g5 s5 => ⟨rfl, _, rfl, ?_⟩⟩
    have l5 := g5 _ _ l4 pL.symm
    have g05 := g4.trans g5
    refine ite2 (fun _ => ?_) (fun _ => ?_)
    · refine ⟨_, rfl, Nat.zero_le _, fun e2 he2 => ⟨_, _, dp_strs (by rw [upd_ne (ne_of_none (g05 _ _ hcl npc.symm) he2)]; exact g05 _ _ hcl npc.symm), .lst (SqL.of upd_same) .nil, csh, rfl, _, rfl, ite_no (eqv_nil c0) ?_⟩⟩
      have g6 : Grow p H (upd H5 e2 (.lst [])) := g05.trans (Grow.new he2)
      have s6 := s5.new (o := .lst []) he2
      have l6 : (upd H5 e2 (.lst [])) L = some (.lst [V.int ((first : Int) + r1), V.int ((first : Int) + r2)]) := by
        rw [upd_ne (ne_of_none l5 he2)]
        exact l5
      revert g6 s6 l6
      generalize (upd H5 e2 (.lst [])) = H6
      intro g6 s6 l6
      refine ⟨_, rfl, _, rfl, p, cl, n + 3, _, rfl, s6, by omega, g6 _ _ hcl npc.symm, by rw [List.length_map]; exact c0, by rw [List.length_map]; omega, npc, fun x H7 hx g7 s7 => ?_⟩
      obtain ⟨c, hc, rfl⟩ := List.mem_map.mp hx
      have g07 := g6.trans g7
      refine ⟨_, rfl, _, rfl, p, wl, n + 4, _, rfl, s7, by omega, g07 _ _ hwl npw.symm, by rw [List.length_map]; exact w0, by rw [List.length_map]; omega, npw, fun y H8 hy g8 s8 => ?_⟩
      obtain ⟨v, hv, rfl⟩ := List.mem_map.mp hy
      have g08 := g07.trans g8
      refine ⟨_, rfl, L, _, _, _, rfl, rfl, SqL.of (g8 _ _ (g7 _ _ l6 pL.symm) pL.symm), (show atI [V.int ((first : Int) + r1), V.int ((first : Int) + r2)] 0 = some (V.int ((first : Int) + r1)) from rfl), (by show 4 ≤ sizeLine; decide), fun a ha => ?_⟩
      have er : (first : Int) + r1 = ((first + r1.toNat : Nat) : Int) := by omega
      rw [er]
      exact k a (.wr c v (first + r1.toNat)) _ (g08.trans (Grow.new ha)) (g08.free ha s8) upd_same ⟨hc, wpos v hv, by omega, by omega⟩ ((s8.new ha).le (by omega))
    · refine ⟨_, rfl, _, rfl, p, wl, n + 3, _, rfl, s5, by rw [List.length_map]; omega, g05 _ _ hwl npw.symm, npw, fun q ys H6 sub g6 hq hq6 s6 => ?_⟩
      obtain ⟨zs, zsub, rfl⟩ := List.sublist_map_iff.mp sub
      have zl := zsub.length_le
      rw [List.length_map] at s6
      have pq : p ≠ q := s5.ne hq
      have l6 := g6 _ _ l5 pL.symm
      refine ⟨q, rfl, ⟨_, SqL.of hq6⟩, fun D hD => ?_⟩
      have pD := s6.ne hD
      refine lc_list (K := K) (a := q) (xs := zs.map V.int) (fun i H7 => ∃ (ts : List Addr) (cs : List (Int × Nat)), H7 D = some (.lst (ts.map V.ref)) ∧ Paired (fun t (kv : Int × Nat) => H7 t = some (.tup [V.int kv.1, V.int (kv.2 : Nat)])) ts cs ∧ cs.map (·.1) = zs.take i ∧ (∀ kv ∈ cs, first ≤ kv.2 ∧ kv.2 < last) ∧ Grow p H6 H7 ∧ Src p (n + 3 + ws.length + i) H7)
        ⟨[], [], upd_same, .nil, rfl, (fun _ h => nomatch h), Grow.new hD, s6.new hD⟩ (fun i H7 _ ⟨_, _, _, _, _, _, g, _⟩ => SqL.of (g q _ hq6 pq.symm)) ?_ ?_
      · rintro i y H7 hi ⟨ts, cs, hD7, hp7, hk7, hr7, g7, s7⟩
        rw [List.getElem?_map] at hi
        obtain ⟨z, hz, rfl⟩ : ∃ z, zs[i]? = some z ∧ y = V.int z := by
          cases e : zs[i]? with
          | none =>
            rw [e] at hi
            cases hi
          | some z =>
            rw [e] at hi
            exact ⟨z, rfl, (Option.some.inj hi).symm⟩
        have hil : i < zs.length := (List.getElem?_eq_some_iff.mp hz).1
        have len : ts.length = i := by
          have h1 := hp7.length
          have h2 := congrArg List.length hk7
          rw [List.length_map, List.length_take] at h2
          omega
        refine ⟨rfl, tyes_if ?_⟩
        refine ⟨_, rfl, _, rfl, _, rfl, _, rfl, p, n + 3 + ws.length + i, _, rfl, s7, by omega, by omega, by omega, fun r H8 c0 c1 g8 s8 => ⟨_, _, rfl, rfl, (by show 2 ≤ sizeLine; decide), fun t ht => ?_⟩⟩
        have hD8 := g8 _ _ hD7 pD.symm
        have ntD : D ≠ t := ne_of_none hD8 ht
        have er : (first : Int) + r = ((first + r.toNat : Nat) : Int) := by omega
        refine ⟨ts.map V.ref, by rw [upd_ne ntD]; exact hD8, small (by rw [List.length_map]; omega), ts ++ [t], cs ++ [(z, first + r.toNat)], ?_, ?_, ?_, ?_, ?_, (((s8.new ht).put pD).le (by omega))⟩
        · rw [upd_same, List.map_append]
          rfl
        · refine Paired.snoc (L2.Paired.mapP hp7 fun b kv hb => ?_) ?_
          · have nb : b ≠ D := ne_of hb hD7 (by intro z; cases z)
            have hb8 : H8 b = some (.tup [V.int kv.1, V.int (kv.2 : Nat)]) := g8.tup s7 hb
            rw [upd_ne nb, upd_ne (ne_of_none hb8 ht)]
            exact hb8
          · rw [upd_ne ntD.symm, upd_same]
            show some (HO.tup [V.int z, V.int ((first : Int) + r)]) = _
            rw [er]
        · rw [List.map_append, hk7, List.take_add_one, hz]
          rfl
        · intro kv hkv
          rcases List.mem_append.mp hkv with h | h
          · exact hr7 kv h
          · cases h with
            | head => exact ⟨by show first ≤ first + r.toNat; omega, by show first + r.toNat < last; omega⟩
            | tail _ h => cases h
        · exact ((g7.trans g8).trans (Grow.new ht)).put hD
      · rintro H7 ⟨ts, cs, hD7, hp7, hk7, hr7, g7, s7⟩
        rw [List.length_map] at hk7 s7
        rw [List.take_length] at hk7
        have nd : (cs.map (·.1)).Nodup := by
          rw [hk7]
          exact wnd.sublist zsub
        have cl1 : cs.length = zs.length := by rw [← hk7, List.length_map]
        refine ⟨D, ts, kvOf cs, rfl, SqL.of hD7, paired_map (L2.Paired.mapP hp7 fun b kv hb => SqT.of hb), fun dd hdd => ?_⟩
        have em : mergeK [] (kvOf cs) = kvOf cs := merge_kv cs [] nd
        rw [em]
        have g8 : Grow p H (upd H7 dd (.dK (kvOf cs))) := ((g05.trans g6).trans g7).trans (Grow.new hdd)
        have s8 := s7.new (o := .dK (kvOf cs)) hdd
        have l8 : (upd H7 dd (.dK (kvOf cs))) L = some (.lst [V.int ((first : Int) + r1), V.int ((first : Int) + r2)]) := by
          have l7 := g7 _ _ l6 pL.symm
          rw [upd_ne (ne_of_none l7 hdd)]
          exact l7
        have d8 : (upd H7 dd (.dK (kvOf cs))) dd = some (.dK (kvOf cs)) := upd_same
        revert g8 s8 l8 d8
        generalize (upd H7 dd (.dK (kvOf cs))) = H8
        intro g8 s8 l8 d8
        refine ⟨_, rfl, _, rfl, p, cl, n + 3 + ws.length + zs.length, _, rfl, s8, by omega, g8 _ _ hcl npc.symm, by rw [List.length_map]; exact c0, by rw [List.length_map]; omega, npc, fun x H9 hx g9 s9 => ?_⟩
        obtain ⟨c, hc, rfl⟩ := List.mem_map.mp hx
        refine ⟨_, rfl, _, rfl, L, _, _, _, rfl, rfl, SqL.of (g9 _ _ l8 pL.symm), (show atI [V.int ((first : Int) + r1), V.int ((first : Int) + r2)] 1 = some (V.int ((first : Int) + r2)) from rfl), (by show 4 ≤ sizeLine; decide), fun a ha => ?_⟩
        have er : (first : Int) + r2 = ((first + r2.toNat : Nat) : Int) := by omega
        rw [er]
        have d9 := g9.dk s8 d8
        refine k a (.rd c cs (first + r2.toNat)) _ ((g8.trans g9).trans (Grow.new ha)) ((g8.trans g9).free ha s9) ⟨dd, upd_same, by rw [upd_ne (ne_of_none d9 ha)]; exact d9⟩ ⟨hc, nd, fun kv hkv => ⟨?_, hr7 kv hkv⟩, by omega, by omega, by omega⟩ ((s9.new ha).le (by omega))
        refine wpos _ (zsub.mem ?_)
        rw [← hk7]
        exact List.mem_map.mpr ⟨kv, hkv, rfl⟩
end
end CC
set_option Elab.async false
set_option maxRecDepth 100000
namespace CC
open PySem L2
set_option linter.unusedVariables false
def RowsAt (H : Hp) (rs : List Row) (l : Addr) : Prop := ∃ as : List Addr, H l = some (.lst (as.map V.ref)) ∧ Paired (fun a r => RowAt H r a) as rs
/-- a row of the part behind the inside row -/
def Row.tl (lo hi : Nat) (cells : List Str) : Row → Prop
  | .rest _ => False
  | .ins _ => False
  | .wr c v m => c ∈ cells ∧ 0 ≤ v ∧ ((lo ≤ m ∧ m < hi) ∨ m = 0)
  | .rd c cs m => c ∈ cells ∧ (cs.map (·.1)).Nodup ∧ (∀ kv ∈ cs, 0 ≤ kv.1 ∧ lo ≤ kv.2 ∧ kv.2 < hi) ∧ ((lo ≤ m ∧ m < hi) ∨ m = 0) ∧ cs.length ≤ 10
def Shape (ahead behind : Nat) (cells : List Str) (rs : List Row) : Prop := ∃ (xs ys : List Row), rs = Row.rest 1 :: (xs ++ Row.ins (if 0 < behind then ahead + 2 else 0) :: ys) ∧ xs.length = ahead ∧ ys.length = behind ∧
  (∀ r ∈ xs, r.mid 1 (ahead + 2) cells) ∧ (∀ r ∈ ys, r.tl (ahead + 2) (ahead + 2 + behind) cells)
theorem RowsAt.grow {p q : Addr} {n : Nat} {H H' : Hp} {rs : List Row} (h : RowsAt H rs q) (g : Grow p H H') (s : Src p n H) (npq : p ≠ q) : RowsAt H' rs q := by
  obtain ⟨as, h1, h2⟩ := h
  exact ⟨as, g _ _ h1 npq.symm, L2.Paired.mapP h2 fun a r x => x.grow g s⟩
theorem RowAt.put {H : Hp} {r : Row} {a q : Addr} {xs ys : List V} (h : RowAt H r a) (hq : H q = some (.lst xs)) : RowAt (upd H q (.lst ys)) r a :=
  h.mono (fun b zs e => by rw [upd_ne (ne_of e hq (by intro z; cases z))]; exact e) fun b zs e => by rw [upd_ne (ne_of e hq (by intro z; cases z))]; exact e
theorem RowAt.new {H : Hp} {r : Row} {a q : Addr} {o : HO} (h : RowAt H r a) (hq : H q = none) : RowAt (upd H q o) r a :=
  h.mono (fun b zs e => by rw [upd_ne (ne_of_none e hq)]; exact e) fun b zs e => by rw [upd_ne (ne_of_none e hq)]; exact e
theorem RowsAt.add {H : Hp} {rs : List Row} {as : List Addr} {q a : Addr} {r : Row} (h1 : H q = some (.lst (as.map V.ref))) (h2 : Paired (fun a r => RowAt H r a) as rs) (h : RowAt H r a) :
    RowsAt (upd H q (.lst (as.map V.ref ++ [V.ref a]))) (rs ++ [r]) q := by
  refine ⟨as ++ [a], by rw [upd_same, List.map_append]; rfl, Paired.snoc (L2.Paired.mapP h2 fun b x e => e.put h1) (h.put h1)⟩
theorem vs5 {p cl wl : Addr} {a b a' b' : Int} (h1 : a = a') (h2 : b = b') : [V.ref p, V.ref cl, V.int a, V.int b, V.ref wl] = [V.ref p, V.ref cl, V.int a', V.int b', V.ref wl] := by
  subst h1
  subst h2
  rfl
theorem if_via {c : Prop} [Decidable c] {t u : TE} {σ : L2.St} {H : Hp} {Q : V → Hp → Prop} (z : V) (k : Q z H) (h1 : c → Q z H → t σ H Q) (h2 : ¬ c → Q z H → u σ H Q) : if decide c = true then t σ H Q else u σ H Q :=
  ite2 (fun e => h1 (of_decide_eq_true e) k) fun e => h2 (fun q => e (decide_eq_true q)) k
theorem Row.mid_tl {lo hi : Nat} {cells : List Str} {r : Row} (h : r.mid lo hi cells) : r.tl lo hi cells := by
  cases r with
  | rest n => exact h
  | ins n => exact h
  | wr c v m => exact ⟨h.1, h.2.1, .inl h.2.2⟩
  | rd c cs m => exact ⟨h.1, h.2.1, h.2.2.1, .inl ⟨h.2.2.2.1, h.2.2.2.2.1⟩, h.2.2.2.2.2⟩
abbrev sRows : Stmt := top 30
def spRows : Sp := fun vs H Q _ => ∃ (p cl wl : Addr) (n ahead behind : Nat) (cells : List Str) (ws : List Int), vs = [.ref p, .ref cl, .int (ahead : Nat), .int (behind : Nat), .ref wl] ∧ Src p n H ∧ n + 100 * (ahead + behind + 1) < 1000000 ∧
  H cl = some (.lst (cells.map V.str)) ∧ H wl = some (.lst (ws.map V.int)) ∧ p ≠ cl ∧ p ≠ wl ∧ 0 < cells.length ∧ cells.length < 100 ∧ SeqAt.shaped (.list (cells.map PyData.str)) = true ∧
  ws.Nodup ∧ (∀ v ∈ ws, 0 ≤ v) ∧ 0 < ws.length ∧ ws.length ≤ 10 ∧ ahead < 100 ∧ behind < 100 ∧
  ∀ (q : Addr) (rs : List Row) (H' : Hp), Grow p H H' → H q = none → RowsAt H' rs q → Shape ahead behind cells rs → Src p (n + 60 * (ahead + behind)) H' → Q (.ref q) H'
section
variable {P : Program} {w : World} {K : PySem.W.Frag} {mg : Str → Option Value} {base : Heap}
theorem scRows : FnScope ["_law_source_here", "_law_cells", "_law_ahead", "_law_behind", "_law_worths", "_law_inside", "_law_rows_here", "_law_k", "_law_here", "_law_row", "_law_to"] ["_law_source_here", "_law_cells", "_law_ahead", "_law_behind", "_law_worths"] (defScope sRows) := ⟨rfl, rfl, rfl, by decide +kernel, rfl, by decide +kernel, by decide +kernel⟩
theorem ok_rows {f fD fA : Addr} {fd fdD fdA : FuncData} (F : Fun K "_law_rows" "_law_rows" sRows f fd)
    (GD : FnOk P w K mg base CX0 1 fD fdD ["_law_source_here", "_law_many"] spDraw) (mD : mg "_law_draw" = some (.ref fD)) (kD : PySem.W.keepIn K (.ref fD) = true) (bD : Binds K fdD ["_law_source_here", "_law_many"] [])
    (GA : FnOk P w K mg base CX0 3 fA fdA ["_law_source_here", "_law_cells", "_law_first", "_law_last", "_law_worths"] spAnyRow) (mA : mg "_law_any_row" = some (.ref fA)) (kA : PySem.W.keepIn K (.ref fA) = true) (bA : Binds K fdA ["_law_source_here", "_law_cells", "_law_first", "_law_last", "_law_worths"] [])
    (tl : mg "len" = none) (tr : mg "range" = none) :
    FnOk P w K mg base CX0 4 f fd ["_law_source_here", "_law_cells", "_law_ahead", "_law_behind", "_law_worths"] spRows := by
  refine F.ok scRows (fun vs H Q E h => ?_) (fun cdv A outer s H vs Q E hr h => ?_)
  · obtain ⟨p, cl, wl, n, ahead, behind, cells, ws, rfl, _⟩ := h
    rfl
  · obtain ⟨p, cl, wl, n, ahead, behind, cells, ws, rfl, hp, hn, hcl, hwl, npc, npw, c0, c1, csh, wnd, wpos, w0, w1, al, bl, k⟩ := h
    have hr1 : Room 1 _ := hr.mono (by decide)
    refine ⟨_, pss_cons (ps_if (pt_cmpR (op_eqD hr.units) (pv 1) (pe_lst pa_nil) (nomark _)) (pss_one (ps_ret (pe_lst (pa_cons (pe_tup (pa_cons pe_str (pa_cons pe_int pa_nil))) (pa_cons (pe_tup (pa_cons pe_str (pa_cons pe_int pa_nil))) pa_nil))))) pss_nil)
      (pss_cons (ps_set (i := 5) scRows.nd rfl (Or.inl rfl) (pe_op op_add pe_int (pv 2)))
      (pss_cons (ps_set (i := 6) scRows.nd rfl (Or.inl rfl) (pe_lst (pa_cons (pe_tup (pa_cons pe_str (pa_cons pe_int pa_nil))) pa_nil)))
      (pss_cons (ps_for PassesOwn.never rfl (pi_range1 rfl tr (pa_cons (pv 2) pa_nil)) (pg_name (i := 7) scRows.nd rfl (Or.inl rfl))
        (pss_one (ps_expr (pe_bm PySem.F.plainAttrs_list PySem.F.slot_list_append PySem.F.type_list_append mt_append (pv 6) (pa_cons (pe_call GA hr rfl mA kA bA .nil pass0 (pa_cons (pv 0) (pa_cons (pv 1) (pa_cons pe_int (pa_cons (pe_op op_add (pv 5) pe_int) (pa_cons (pv 4) pa_nil)))))) pa_nil)))))
      (pss_cons (ps_expr (pe_bm PySem.F.plainAttrs_list PySem.F.slot_list_append PySem.F.type_list_append mt_append (pv 6) (pa_cons (pe_tup (pa_cons pe_str (pa_cons (pe_ifExp (pt_cmpR op_gt (pv 3) pe_int (nomark _)) (pe_op op_add (pv 5) pe_int) pe_int) pa_nil))) pa_nil)))
      (pss_cons (ps_for PassesOwn.never rfl (pi_range1 rfl tr (pa_cons (pv 3) pa_nil)) (pg_name (i := 7) scRows.nd rfl (Or.inl rfl))
        (pss_cons (ps_set (i := 8) scRows.nd rfl (Or.inl rfl) (pe_callB call_len_seq (by rfl) tl PySem.boot_len (pa_cons (pv 6) pa_nil)))
        (pss_cons (ps_set (i := 9) scRows.nd rfl (Or.inl rfl) (pe_call GA hr rfl mA kA bA .nil pass0 (pa_cons (pv 0) (pa_cons (pv 1) (pa_cons (pe_op op_add (pv 5) pe_int) (pa_cons (pe_op op_add (pe_op op_add (pv 5) pe_int) (pv 3)) (pa_cons (pv 4) pa_nil)))))))
        (pss_cons (ps_set (i := 10) scRows.nd rfl (Or.inl rfl) (pe_ifExp (pt_cmpR op_lt (pe_op op_add (pv 7) pe_int) (pv 3) (nomark _)) (pe_op op_add (pv 8) pe_int) pe_int))
        (pss_cons (ps_if (pt_cmpR op_gt (pe_call GD hr1 rfl mD kD bD .nil pass0 (pa_cons (pv 0) (pa_cons pe_int pa_nil))) pe_int (nomark _))
          (pss_one (ps_set (i := 9) scRows.nd rfl (Or.inl rfl) (pe_ifExp (pt_cmpR op_eq (pe_ix ix_tup (pv 9) pe_int (fun _ _ => rfl)) pe_str (nomark _))
            (pe_op op_catT (pe_slice sl_tup (pv 9) po_none (po_some pe_int)) (pe_tup (pa_cons (pv 10) pa_nil)))
            (pe_tup (pa_cons (pe_ix ix_tup (pv 9) pe_int (fun _ _ => rfl)) (pa_cons (pe_ix ix_tup (pv 9) pe_int (fun _ _ => rfl)) (pa_cons pe_dnewK (pa_cons (pv 10) pa_nil)))))))) pss_nil)
        (pss_one (ps_expr (pe_bm PySem.F.plainAttrs_list PySem.F.slot_list_append PySem.F.type_list_append mt_append (pv 6) (pa_cons (pv 9) pa_nil)))))))))
      (pss_one (ps_ret (pv 6)))))))), ?_⟩
    refine ⟨_, rfl, Nat.zero_le _, fun e he => ⟨_, _, dp_strs (by rw [upd_ne (ne_of_none hcl he)]; exact hcl), .lst (SqL.of upd_same) .nil, csh, rfl, _, rfl, ite_no (eqv_nil c0) ?_⟩⟩
    have g1 : Grow p H (upd H e (.lst [])) := Grow.new he
    have s1 := hp.new (o := .lst []) he
    revert g1 s1
    generalize (upd H e (.lst [])) = H1
    intro g1 s1
    refine ⟨_, rfl, _, _, rfl, rfl, (by show 2 ≤ sizeLine; decide), fun t ht => ⟨(by show 1 ≤ sizeLine; decide), fun q hq => ?_⟩⟩
    have pt := s1.ne ht
    have g2 : Grow p H (upd (upd H1 t (.tup [V.str "rest", V.int 1])) q (.lst [V.ref t])) := (g1.trans (Grow.new ht)).trans (Grow.new hq)
    have s2 := (s1.new (o := .tup [V.str "rest", V.int 1]) ht).new (o := .lst [V.ref t]) hq
    have npq : p ≠ q := (s1.new (o := .tup [V.str "rest", V.int 1]) ht).ne hq
    have hq0 : H q = none := (g1.trans (Grow.new ht)).free hq (s1.new (o := .tup [V.str "rest", V.int 1]) ht)
    have r2 : RowsAt (upd (upd H1 t (.tup [V.str "rest", V.int 1])) q (.lst [V.ref t])) [Row.rest 1] q := ⟨[t], upd_same, .cons (by
      show (upd (upd H1 t (.tup [V.str "rest", V.int 1])) q (.lst [V.ref t])) t = some (.tup [V.str "rest", V.int 1])
      rw [upd_ne (ne_of_none upd_same hq), upd_same]) .nil⟩
    revert g2 s2 r2
    generalize (upd (upd H1 t (.tup [V.str "rest", V.int 1])) q (.lst [V.ref t])) = H2
    intro g2 s2 r2
    refine ⟨_, rfl, (ahead : Int), rfl, by omega, by omega, for_range (n := ahead) (fun i σ H3 => ∃ (v : Option V) (xs : List Row), σ = [some (.ref p), some (.ref cl), some (.int (ahead : Nat)), some (.int (behind : Nat)), some (.ref wl), some (.int (1 + (ahead : Int))), some (.ref q), v, none, none, none] ∧ xs.length = i ∧ (∀ r ∈ xs, r.mid 1 (ahead + 2) cells) ∧ RowsAt H3 (Row.rest 1 :: xs) q ∧ Grow p H H3 ∧ Src p (n + 60 * i) H3)
      ⟨none, [], rfl, rfl, (fun _ h => nomatch h), r2, g2, s2⟩ ?_ ?_⟩
    · rintro i σ H3 hi ⟨v, xs, rfl, xl, xm, r3, g3, s3⟩
      obtain ⟨as, ha1, ha2⟩ := id r3
      refine ⟨_, rfl, .inl ⟨rfl, _, Or.inl (Or.inl ha1)⟩, _, rfl, _, rfl, _, rfl, _, _, rfl, rfl, _, rfl, p, cl, wl, n + 60 * i, 1, ahead + 2, cells, ws, vs5 rfl (by omega), s3, by omega, g3 _ _ hcl npc.symm, g3 _ _ hwl npw.symm, npc, npw, c0, c1, csh, wnd, wpos, w0, w1, by omega, by omega, fun a r H4 g4 ha rr rm s4 => ?_⟩
      have ha4 := g4 _ _ ha1 npq.symm
      have al4 : as.length = xs.length + 1 := by have := ha2.length; exact this
      refine ⟨q, _, _, rfl, rfl, ha4, small (by rw [List.length_map]; omega), ?_⟩
      refine ⟨_, xs ++ [r], rfl, by rw [List.length_append, xl]; rfl, ?_, RowsAt.add ha4 (L2.Paired.mapP ha2 fun a r x => x.grow g4 s3) rr, (g3.trans g4).put hq0, ((s4.put npq).le (by omega))⟩
      intro r' hr'
      rcases List.mem_append.mp hr' with h | h
      · exact xm r' h
      · cases h with
        | head => exact rm
        | tail _ h => cases h
    · rintro σ H3 ⟨v, xs, rfl, xl, xm, r3, g3, s3⟩
      obtain ⟨as, ha1, ha2⟩ := id r3
      refine ⟨_, rfl, .inl ⟨rfl, _, Or.inl (Or.inl ha1)⟩, _, rfl, _, _, rfl, rfl, _, rfl, ?_⟩
      obtain ⟨x, hx⟩ : ∃ x : Nat, x = if 0 < behind then ahead + 2 else 0 := ⟨_, rfl⟩
      have al3 : as.length = xs.length + 1 := by have := ha2.length; exact this
      refine if_via (V.int (x : Nat)) ?_ (fun hb kq => ⟨_, rfl, _, _, rfl, rfl, ?_⟩) (fun hb kq => ?_)
      rotate_left
      · have e0 : (fun i j : Int => V.int (i + j)) (1 + (ahead : Int)) 1 = V.int (x : Nat) := by
          show V.int _ = V.int _
          rw [if_pos (by omega)] at hx
          congr 1
          omega
        rw [e0]
        exact kq
      · have e0 : V.int (x : Nat) = V.int 0 := by
          rw [if_neg (by omega)] at hx
          rw [hx]
          rfl
        rw [e0] at kq
        exact kq
      refine ⟨(by show 2 ≤ sizeLine; decide), fun t2 ht2 => ⟨q, _, _, rfl, rfl, (by rw [upd_ne (ne_of_none ha1 ht2)]; exact ha1), small (by rw [List.length_map]; omega), ?_⟩⟩
      have h4 : (upd H3 t2 (.tup [V.str "inside", V.int (x : Nat)])) q = some (.lst (as.map V.ref)) := by
        rw [upd_ne (ne_of_none ha1 ht2)]
        exact ha1
      have r5 := RowsAt.add h4 (L2.Paired.mapP ha2 fun a r e => e.new (o := .tup [V.str "inside", V.int (x : Nat)]) ht2) (show RowAt (upd H3 t2 (.tup [V.str "inside", V.int (x : Nat)])) (Row.ins x) t2 from upd_same)
      have g5 : Grow p H (upd (upd H3 t2 (.tup [V.str "inside", V.int (x : Nat)])) q (.lst (as.map V.ref ++ [V.ref t2]))) := (g3.trans (Grow.new ht2)).put hq0
      have s5 := (s3.new (o := .tup [V.str "inside", V.int (x : Nat)]) ht2).put (o := .lst (as.map V.ref ++ [V.ref t2])) npq
      revert r5 g5 s5
      generalize (upd (upd H3 t2 (.tup [V.str "inside", V.int (x : Nat)])) q (.lst (as.map V.ref ++ [V.ref t2]))) = H5
      intro r5 g5 s5
      refine ⟨_, rfl, (behind : Int), rfl, by omega, by omega, for_range (n := behind) (fun i σ H6 => ∃ (v v8 v9 v10 : Option V) (ys : List Row), σ = [some (.ref p), some (.ref cl), some (.int (ahead : Nat)), some (.int (behind : Nat)), some (.ref wl), some (.int (1 + (ahead : Int))), some (.ref q), v, v8, v9, v10] ∧ ys.length = i ∧ (∀ r ∈ ys, r.tl (ahead + 2) (ahead + 2 + behind) cells) ∧ RowsAt H6 (Row.rest 1 :: (xs ++ Row.ins x :: ys)) q ∧ Grow p H H6 ∧ Src p (n + 60 * ahead + 60 * i) H6)
        ⟨v, none, none, none, [], rfl, rfl, (fun _ h => nomatch h), r5, g5, s5⟩ ?_ ?_⟩
      · rintro i σ H6 hi ⟨v, v8, v9, v10, ys, rfl, yl, ym, r6, g6, s6⟩
        obtain ⟨bs, hb1, hb2⟩ := id r6
        have bl6 : bs.length = ahead + 2 + i := by
          have := hb2.length
          simp only [List.length_cons, List.length_append] at this
          omega
        refine ⟨_, rfl, q, _, rfl, .inl (SqL.of hb1), ?_⟩
        refine ⟨_, rfl, _, rfl, _, rfl, _, _, rfl, rfl, _, rfl, _, _, rfl, rfl, _, rfl, _, _, rfl, rfl, _, rfl, p, cl, wl, n + 60 * ahead + 60 * i, ahead + 2, ahead + 2 + behind, cells, ws, vs5 (by omega) (by omega), s6, by omega, g6 _ _ hcl npc.symm, g6 _ _ hwl npw.symm, npc, npw, c0, c1, csh, wnd, wpos, w0, w1, by omega, by omega, fun a r H7 g7 ha rr rm s7 => ?_⟩
        obtain ⟨z, hz⟩ : ∃ z : Nat, z = if i + 1 < behind then ahead + i + 3 else 0 := ⟨_, rfl⟩
        refine ⟨_, rfl, _, _, rfl, rfl, _, rfl, _, _, rfl, rfl, _, rfl, ?_⟩
        refine if_via (V.int (z : Nat)) ?_ (fun hb kq => ⟨_, rfl, _, _, rfl, rfl, ?_⟩) (fun hb kq => ?_)
        rotate_left
        · have e0 : (fun i j : Int => V.int (i + j)) ((bs.map V.ref).length : Nat) 1 = V.int (z : Nat) := by
            show V.int _ = V.int _
            rw [if_pos (by omega)] at hz
            rw [List.length_map]
            congr 1
            omega
          rw [e0]
          exact kq
        · have e0 : V.int (z : Nat) = V.int 0 := by
            rw [if_neg (by omega)] at hz
            rw [hz]
            rfl
          rw [e0] at kq
          exact kq
        have zr : (ahead + 2 ≤ z ∧ z < ahead + 2 + behind) ∨ z = 0 := by
          by_cases hb : i + 1 < behind
          · rw [if_pos hb] at hz
            left
            omega
          · rw [if_neg hb] at hz
            exact .inr hz
        have fin : ∀ (b : Addr) (r' : Row) (H8 : Hp), RowAt H8 r' b → Grow p H7 H8 → Src p (n + 60 * ahead + 60 * i + 60) H8 → H8 q = some (.lst (bs.map V.ref)) ∧
            RowsAt (upd H8 q (.lst (bs.map V.ref ++ [V.ref b]))) (Row.rest 1 :: (xs ++ Row.ins x :: (ys ++ [r']))) q ∧ Grow p H (upd H8 q (.lst (bs.map V.ref ++ [V.ref b]))) ∧ Src p (n + 60 * ahead + 60 * (i + 1)) (upd H8 q (.lst (bs.map V.ref ++ [V.ref b]))) := by
          intro b r' H8 hr8 g8 s8
          have hb8 := g8 _ _ (g7 _ _ hb1 npq.symm) npq.symm
          have e := RowsAt.add hb8 (L2.Paired.mapP hb2 fun a r x => (x.grow g7 s6).grow g8 s7) hr8
          have e2 : (Row.rest 1 :: (xs ++ Row.ins x :: ys)) ++ [r'] = Row.rest 1 :: (xs ++ Row.ins x :: (ys ++ [r'])) := by simp
          rw [e2] at e
          exact ⟨hb8, e, ((g6.trans g7).trans g8).put hq0, (s8.put npq).le (by omega)⟩
        have tlok : ∀ r', r'.tl (ahead + 2) (ahead + 2 + behind) cells → ∀ r'' ∈ ys ++ [r'], r''.tl (ahead + 2) (ahead + 2 + behind) cells := by
          intro r' h r'' hr''
          rcases List.mem_append.mp hr'' with m | m
          · exact ym r'' m
          · cases m with
            | head => exact h
            | tail _ m => cases m
        have len8 : (bs.map V.ref).length < sizeLine := small (by rw [List.length_map]; omega)
        have yl1 : ∀ r', (ys ++ [r']).length = i + 1 := fun r' => by rw [List.length_append, yl]; rfl
        refine ⟨_, rfl, p, n + 60 * ahead + 60 * i + 50, 3, rfl, s7, by omega, by decide, by decide, fun r5 H8 e0 e1 g8 s8 => ⟨_, _, rfl, rfl, _, rfl, ?_⟩⟩
        have rr8 := rr.grow g8 s7
        refine ite2 (fun _ => ?_) (fun _ => ?_)
        · cases r with
          | rest m => exact rm.elim
          | ins m => exact rm.elim
          | wr c v m =>
            refine ⟨_, rfl, a, _, _, _, rfl, rfl, SqT.of rr8, rfl, rfl, _, rfl, ?_⟩
            refine ite_yes (decide_eq_true rfl) ?_
            refine ⟨_, rfl, _, rfl, a, _, rfl, SqT.of rr8, (by show ¬ (0 = 0 ∧ 3 = 4); decide), fun b hb => ?_⟩
            rw [show cutV [V.str "write", V.str c, V.int v, V.int (m : Nat)] none (some 3) = [V.str "write", V.str c, V.int v] from rfl]
            refine ⟨_, rfl, (by show 1 ≤ sizeLine; decide), fun d hd => ?_⟩
            have hb' : (upd (upd H8 b (.tup [V.str "write", V.str c, V.int v])) d (.tup [V.int (z : Nat)])) b = some (.tup [V.str "write", V.str c, V.int v]) := by
              rw [upd_ne (ne_of_none upd_same hd), upd_same]
            refine ⟨b, d, _, _, rfl, rfl, SqT.of hb', SqT.of upd_same, (by intro z; cases z), (by show 4 ≤ sizeLine; decide), (by intro z; cases z), fun _ y hy => ?_⟩
            obtain ⟨f1, f2, f3, f4⟩ := fin y (.wr c v z) _ (show RowAt (upd (upd (upd H8 b (.tup [V.str "write", V.str c, V.int v])) d (.tup [V.int (z : Nat)])) y (.tup [V.str "write", V.str c, V.int v, V.int (z : Nat)])) (.wr c v z) y from upd_same) (((g8.trans (Grow.new hb)).trans (Grow.new hd)).trans (Grow.new hy)) ((((s8.new hb).new hd).new hy).le (by omega))
            exact ⟨_, rfl, .inl ⟨rfl, _, Or.inl (Or.inl f1)⟩, _, rfl, q, _, _, rfl, rfl, f1, len8, _, _, _, _, ys ++ [Row.wr c v z], rfl, yl1 _, tlok (.wr c v z) ⟨rm.1, rm.2.1, zr⟩, f2, f3, f4⟩
          | rd c cs m =>
            obtain ⟨dd, rr1, rr2⟩ := rr8
            refine ⟨_, rfl, a, _, _, _, rfl, rfl, SqT.of rr1, rfl, rfl, _, rfl, ?_⟩
            refine ite_no (decide_eq_false (by intro z; cases z)) ?_
            refine ⟨_, rfl, a, _, _, _, rfl, rfl, SqT.of rr1, rfl, _, rfl, a, _, _, _, rfl, rfl, SqT.of rr1, rfl, fun d hd => ⟨_, rfl, (by show 4 ≤ sizeLine; decide), fun y hy => ?_⟩⟩
            obtain ⟨f1, f2, f3, f4⟩ := fin y (.rd c [] z) _ (show RowAt (upd (upd H8 d (.dK [])) y (.tup [V.str "read", V.str c, V.ref d, V.int (z : Nat)])) (.rd c [] z) y from ⟨d, upd_same, by rw [upd_ne (ne_of_none upd_same hy), upd_same]; rfl⟩) ((g8.trans (Grow.new hd)).trans (Grow.new hy)) (((s8.new hd).new hy).le (by omega))
            exact ⟨_, rfl, .inl ⟨rfl, _, Or.inl (Or.inl f1)⟩, _, rfl, q, _, _, rfl, rfl, f1, len8, _, _, _, _, ys ++ [Row.rd c [] z], rfl, yl1 _, tlok (.rd c [] z) ⟨rm.1, List.nodup_nil, (fun _ h => nomatch h), zr, Nat.zero_le _⟩, f2, f3, f4⟩
        · obtain ⟨f1, f2, f3, f4⟩ := fin a r H8 rr8 g8 (s8.le (by omega))
          exact ⟨_, rfl, .inl ⟨rfl, _, Or.inl (Or.inl f1)⟩, _, rfl, q, _, _, rfl, rfl, f1, len8, _, _, _, _, ys ++ [r], rfl, yl1 _, tlok r (Row.mid_tl rm), f2, f3, f4⟩
      · rintro σ H6 ⟨v, v8, v9, v10, ys, rfl, yl, ym, r6, g6, s6⟩
        exact ⟨_, rfl, k q _ H6 g6 hq0 r6 ⟨xs, ys, by rw [hx], xl, yl, xm, ym⟩ (s6.le (by omega))⟩
end
end CC
set_option Elab.async false
set_option maxRecDepth 100000
namespace CC
open PySem L2
set_option linter.unusedVariables false
/-! ### doubled rows -/
abbrev sDoubled : Stmt := top 31
def endOf (n s k : Nat) : Nat := if k = 0 then n - s else k + s
def endsTo (s m : Nat) : List (Int × Nat) := (List.range m).map fun i => (((i + 1 : Nat) : Int), i + 1 + s)
def endsL (n s : Nat) : List (Int × Nat) := endsTo s (n - 1) ++ [(0, n - s)]
def Row.re (e : Nat → Nat) : Row → Row
  | .rest n => .rest (e n)
  | .ins n => .ins (e n)
  | .wr c v n => .wr c v (e n)
  | .rd c cs n => .rd c (cs.map fun kv => (kv.1, e kv.2)) (e n)
def doubled (rs : List Row) : List Row := rs.map (Row.re (endOf rs.length 0)) ++ rs.map (Row.re (endOf rs.length rs.length))
theorem endsTo_keys (s m : Nat) : (endsTo s m).map (·.1) = (List.range m).map fun i => ((i + 1 : Nat) : Int) := by
  unfold endsTo
  rw [List.map_map]
  rfl
theorem endsTo_succ (s m : Nat) : endsTo s (m + 1) = endsTo s m ++ [(((m + 1 : Nat) : Int), m + 1 + s)] := by
  unfold endsTo
  rw [List.range_succ, List.map_append]
  rfl
theorem endsL_nodup (n s : Nat) : ((endsL n s).map (·.1)).Nodup := by
  unfold endsL
  rw [List.map_append, endsTo_keys, List.nodup_append]
  refine ⟨?_, by simp, ?_⟩
  · refine List.Pairwise.map _ (fun a b h e => h ?_) (List.nodup_range (n := n - 1))
    have : ((a + 1 : Nat) : Int) = ((b + 1 : Nat) : Int) := e
    omega
  · intro a ha b hb e
    obtain ⟨i, _, rfl⟩ := List.mem_map.mp ha
    cases hb with
    | head =>
      have : ((i + 1 : Nat) : Int) = 0 := e
      omega
    | tail _ h => cases h
theorem valV_mem {k : Int} {v : Nat} : ∀ {cs : List (Int × Nat)}, (cs.map (·.1)).Nodup → (k, v) ∈ cs → valV (kvOf cs) (Sum.inl k : Key) = some (V.int (v : Nat))
  | p :: r, nd, h => by
    have nd' : (p.1 :: r.map (·.1)).Nodup := nd
    show valV ((((Sum.inl p.1 : Key), V.int (p.2 : Nat))) :: kvOf r) (Sum.inl k) = _
    cases h with
    | head => exact valV_pos (p := ((Sum.inl k : Key), V.int (v : Nat))) rfl
    | tail _ h =>
      have ne : ¬ p.1 = k := fun e => (List.nodup_cons.mp nd').1 (by rw [e]; exact List.mem_map.mpr ⟨(k, v), h, rfl⟩)
      rw [valV_neg (by intro e; cases e; exact ne rfl)]
      exact valV_mem (List.nodup_cons.mp nd').2 h
theorem ends_val {n s k : Nat} (hk : k < n) : valV (kvOf (endsL n s)) (Sum.inl (k : Int) : Key) = some (V.int (endOf n s k : Nat)) := by
  refine valV_mem (endsL_nodup n s) ?_
  unfold endsL endOf
  by_cases h : k = 0
  · rw [if_pos h, h]
    exact List.mem_append_right _ (List.mem_cons_self ..)
  · rw [if_neg h]
    refine List.mem_append_left _ (List.mem_map.mpr ⟨k - 1, List.mem_range.mpr (by omega), ?_⟩)
    have e : k - 1 + 1 = k := by omega
    rw [e]
def part (rs : List Row) : Nat → List Row
  | 0 => []
  | j + 1 => part rs j ++ rs.map (Row.re (endOf rs.length (j * rs.length)))
theorem part2 (rs : List Row) : part rs 2 = doubled rs := by
  show ([] ++ rs.map (Row.re (endOf rs.length (0 * rs.length)))) ++ rs.map (Row.re (endOf rs.length (1 * rs.length))) = doubled rs
  rw [List.nil_append, Nat.zero_mul, Nat.one_mul]
  rfl
/-- each row has numbers below n, and no key twice -/
def Row.low (n : Nat) : Row → Prop
  | .rest m => m < n
  | .ins m => m < n
  | .wr _ _ m => m < n
  | .rd _ cs m => (cs.map (·.1)).Nodup ∧ (∀ kv ∈ cs, kv.2 < n) ∧ m < n ∧ cs.length ≤ 10
def spDoubled : Sp := fun vs H Q _ => ∃ (l : Addr) (rs : List Row), vs = [.ref l] ∧ RowsAt H rs l ∧ 2 ≤ rs.length ∧ rs.length ≤ 1000 ∧ (∀ r ∈ rs, r.low rs.length) ∧
  ∀ (q : Addr) (H' : Hp), Same H H' → H q = none → RowsAt H' (doubled rs) q → Q (.ref q) H'
theorem RowsAt.same {H H' : Hp} {rs : List Row} {l : Addr} (h : RowsAt H rs l) (s : Same H H') : RowsAt H' rs l := by
  obtain ⟨as, h1, h2⟩ := h
  exact ⟨as, s _ _ h1, L2.Paired.mapP h2 fun a r e => e.mono (fun b xs x => s _ _ x) fun b xs x => s _ _ x⟩
theorem same_new {H : Hp} {q : Addr} {o : HO} (h : H q = none) : Same H (upd H q o) := fun b u e => by
  rw [upd_ne (ne_of_none e h)]
  exact e
theorem same_put {H H1 : Hp} {q : Addr} {o : HO} (g : Same H H1) (h : H q = none) : Same H (upd H1 q o) := fun b u e => by
  rw [upd_ne (ne_of_none e h)]
  exact g b u e
theorem same_tr {H H1 H2 : Hp} (a : Same H H1) (b : Same H1 H2) : Same H H2 := fun q o e => b q o (a q o e)
theorem dget_end {H : Hp} {d : Addr} {N S m : Nat} (h : H d = some (.dK (kvOf (endsL N S)))) (hm : m < N) : DGet H d (V.int (m : Nat)) (some (V.int (endOf N S m : Nat))) := by
  rw [← ends_val (s := S) hm]
  exact DGet.k (k := Sum.inl (m : Int)) h
theorem paired_at {α β : Type} {F : α → β → Prop} : ∀ {l : List α} {m : List β} {i : Nat} {a : α}, Paired F l m → l[i]? = some a → ∃ b, m[i]? = some b ∧ F a b
  | _, _, _, _, .nil, h => by simp at h
  | _, _, 0, _, .cons h t, e => ⟨_, rfl, by cases Option.some.inj e; exact h⟩
  | _, _, i + 1, _, .cons h t, e => paired_at (i := i) t e
theorem ix_tupK {X : Cx} {K : PySem.W.Frag} (e : X.K = K) : IxR X (rIxT K) := e ▸ ix_tup
theorem ix_listK {X : Cx} {K : PySem.W.Frag} (e : X.K = K) : IxR X (rIxL K) := e ▸ ix_list
section
variable {P : Program} {w : World} {K : PySem.W.Frag} {mg : Str → Option Value} {base : Heap}
theorem scDoubled : FnScope ["_law_rows_here", "_law_many", "_law_found", "_law_shift", "_law_ends", "_law_row", "_law_k", "_law_worth"] ["_law_rows_here"] (defScope sDoubled) := ⟨rfl, rfl, rfl, by decide +kernel, rfl, by decide +kernel, by decide +kernel⟩
theorem ok_doubled {f : Addr} {fd : FuncData} (F : Fun K "_law_doubled" "_law_doubled" sDoubled f fd) (tl : mg "len" = none) (tr : mg "range" = none) (td : mg "dict" = none) :
    FnOk P w K mg base CX0 1 f fd ["_law_rows_here"] spDoubled := by
  refine F.ok scDoubled (fun vs H Q E h => ?_) (fun cdv A outer s H vs Q E hr h => ?_)
  · obtain ⟨l, rs, rfl, _⟩ := h
    rfl
  · obtain ⟨l, rs, rfl, hl, n2, n3, low, k⟩ := h
    have hu := hu_of hr
    refine ⟨_, pss_cons (ps_par (i := 1) (j := 2) (by rfl) scDoubled.nd rfl rfl (by decide) rfl rfl (pa_cons (pe_callB call_len_seq (by rfl) tl PySem.boot_len (pa_cons (pv 0) pa_nil)) (pa_cons (pe_lst pa_nil) pa_nil)) (by rfl))
      (pss_cons (ps_for PassesOwn.never rfl (pi_tup (pe_tup (pa_cons pe_int (pa_cons (pv 1) pa_nil)))) (pg_name (i := 3) scDoubled.nd rfl (Or.inr rfl))
        (pss_cons (ps_set (i := 4) scDoubled.nd rfl (Or.inr rfl) (pe_callTy (call_dictP rfl) (by rfl) td (by decide +kernel) (pa_cons (pe_op op_cat
          (pe_lc (own := [("_law_k", 6)]) (g := gName 6) (by rfl) scDoubled.nd (pi_range2 (by rfl) tr (pa_cons pe_int (pa_cons (pv 1) pa_nil))) (blkOk_by (own := [("_law_k", 6)]) (N := ["_law_rows_here", "_law_many", "_law_found", "_law_shift", "_law_ends", "_law_row", "_law_k", "_law_worth"]) (sc := defScope sDoubled) (by decide +kernel)) (fun _ _ _ _ _ => pg_name (i := 6) scDoubled.nd rfl (Or.inl rfl)) (fun _ _ _ _ _ => pts_nil)
            (fun _ _ _ _ _ => pe_tup (pa_cons (pv 6) (pa_cons (pe_op op_add (pv 6) (pv 3)) pa_nil))))
          (pe_lst (pa_cons (pe_tup (pa_cons pe_int (pa_cons (pe_op op_sub (pv 1) (pv 3)) pa_nil))) pa_nil))) pa_nil)))
        (pss_one (ps_for PassesOwn.never rfl (pi_list (pv 0)) (pg_name (i := 5) scDoubled.nd rfl (Or.inr rfl))
          (pss_cons (ps_set (i := 5) scDoubled.nd rfl (Or.inr rfl) (pe_op op_catT (pe_slice sl_tup (pv 5) po_none (po_some (pe_un un_neg pe_int))) (pe_tup (pa_cons (pe_dget hu (pv 4) (pe_ix ix_tup (pv 5) (pe_un un_neg pe_int) (fun _ _ => rfl)) (fun _ _ => rfl)) pa_nil))))
          (pss_cons (ps_if (pt_cmpR op_eq (pe_ix ix_tup (pv 5) pe_int (fun _ _ => rfl)) pe_str (nomark _))
            (pss_one (ps_set (i := 5) scDoubled.nd rfl (Or.inr rfl) (pe_tup (pa_cons (pe_ix ix_tup (pv 5) pe_int (fun _ _ => rfl)) (pa_cons (pe_ix ix_tup (pv 5) pe_int (fun _ _ => rfl)) (pa_cons (pe_callTy (call_dictP rfl) (by rfl) td (by decide +kernel) (pa_cons
              (pe_lock (pe_lc (own := [("_law_worth", 7)]) (g := gName 7) (by rfl) scDoubled.nd (pi_keys (pe_ix ix_tup (pv 5) pe_int (fun _ _ => rfl))) (blkOk_by (own := [("_law_worth", 7)]) (N := ["_law_rows_here", "_law_many", "_law_found", "_law_shift", "_law_ends", "_law_row", "_law_k", "_law_worth"]) (sc := defScope sDoubled) (by decide +kernel)) (fun _ _ _ _ _ => pg_name (i := 7) scDoubled.nd rfl (Or.inl rfl)) (fun _ _ _ _ _ => pts_nil)
                (fun _ _ _ _ _ => pe_tup (pa_cons (pv 7) (pa_cons (pe_dget hu (pv 4) (pe_dget hu (pe_ix (ix_tupK (K := K) rfl) (pv 5) pe_int (fun _ _ => rfl)) (pv 7) (fun _ _ => rfl)) (fun _ _ => rfl)) pa_nil))))) pa_nil)) (pa_cons (pe_ix ix_tup (pv 5) pe_int (fun _ _ => rfl)) pa_nil))))))) pss_nil)
          (pss_one (ps_expr (pe_bm PySem.F.plainAttrs_list PySem.F.slot_list_append PySem.F.type_list_append mt_append (pv 2) (pa_cons (pv 5) pa_nil))))))))))
      (pss_one (ps_ret (pv 2)))), ?_⟩
    obtain ⟨as, ha1, ha2⟩ := id hl
    have asl : as.length = rs.length := ha2.length
    obtain ⟨N, hN⟩ : ∃ N, N = rs.length := ⟨_, rfl⟩
    refine ⟨_, rfl, l, _, rfl, .inl (SqL.of ha1), Nat.zero_le _, fun q hq => ⟨_, _, rfl, ?_⟩⟩
    rw [List.length_map, asl, ← hN]
    refine ⟨_, rfl, (by show 2 ≤ sizeLine; decide), fun t ht => ⟨t, rfl, ⟨_, SqT.of upd_same⟩, ?_⟩⟩
    have sq : Same H (upd H q (.lst [])) := same_new hq
    have st : Same H (upd (upd H q (.lst [])) t (.tup [V.int 0, V.int (N : Nat)])) := same_tr sq (same_new ht)
    have tq : q ≠ t := ne_of_none upd_same ht
    refine for_tup (K := K) (a := t) (xs := [V.int 0, V.int (N : Nat)]) (fun j σ H2 => ∃ v3 v4 v5, σ = [some (.ref l), some (.int (N : Nat)), some (.ref q), v3, v4, v5, none, none] ∧ H2 t = some (.tup [V.int 0, V.int (N : Nat)]) ∧ RowsAt H2 (part rs j) q ∧ Same H H2)
      ⟨none, none, none, rfl, upd_same, ⟨[], (by rw [upd_ne tq, upd_same]; rfl), .nil⟩, st⟩ (fun i σ H2 _ ⟨_, _, _, _, e, _⟩ => SqT.of e) ?_ ?_
    · rintro j y σ H2 hj ⟨v3, v4, v5, rfl, ht2, hq2, s2⟩
      obtain ⟨hj2, rfl⟩ : j < 2 ∧ y = V.int (j * N : Nat) := by
        match j, hj with
        | 0, e => exact ⟨by decide, by rw [Nat.zero_mul]; exact (Option.some.inj e).symm⟩
        | 1, e => exact ⟨by decide, by rw [Nat.one_mul]; exact (Option.some.inj e).symm⟩
      obtain ⟨S, hS⟩ : ∃ S, S = j * N := ⟨_, rfl⟩
      rw [← hS]
      have S0 : S ≤ N := by
        match j, hj2 with
        | 0, _ => omega
        | 1, _ => omega
      refine ⟨_, rfl, 1, (N : Int), rfl, ⟨by decide, by decide, by omega, by omega⟩, fun D hD => ?_⟩
      have eN : ((N : Int) - 1).toNat = N - 1 := by omega
      rw [eN]
      refine lc_range (lo := 1) (n := N - 1) (fun i H3 => ∃ ts : List Addr, H3 D = some (.lst (ts.map V.ref)) ∧ Paired (fun t (kv : Int × Nat) => H3 t = some (.tup [V.int kv.1, V.int (kv.2 : Nat)])) ts (endsTo S i) ∧ Same H2 H3)
        ⟨[], upd_same, .nil, same_new hD⟩ ?_ ?_
      · rintro i H3 hi ⟨ts, hD3, hp3, s3⟩
        have len : ts.length = i := by
          have h1 := hp3.length
          unfold endsTo at h1
          rw [List.length_map, List.length_range] at h1
          exact h1
        refine ⟨rfl, tyes_if ?_⟩
        refine ⟨_, rfl, _, rfl, _, rfl, _, _, rfl, rfl, (by show 2 ≤ sizeLine; decide), fun t1 ht1 => ?_⟩
        have ntD : D ≠ t1 := ne_of_none hD3 ht1
        refine ⟨ts.map V.ref, by rw [upd_ne ntD]; exact hD3, small (by rw [List.length_map]; omega), ts ++ [t1], ?_, ?_, ?_⟩
        · rw [upd_same, List.map_append]
          rfl
        · rw [endsTo_succ]
          refine Paired.snoc (L2.Paired.mapP hp3 fun b kv hb => ?_) ?_
          · rw [upd_ne (ne_of hb hD3 (by intro z; cases z)), upd_ne (ne_of_none hb ht1)]
            exact hb
          · rw [upd_ne ntD.symm, upd_same]
            show some (HO.tup [V.int (1 + (i : Int)), V.int (1 + (i : Int) + (S : Nat))]) = some (HO.tup [V.int ((i + 1 : Nat) : Int), V.int ((i + 1 + S : Nat) : Int)])
            rw [show (1 + (i : Int)) = ((i + 1 : Nat) : Int) by omega, show (((i + 1 : Nat) : Int) + (S : Nat)) = ((i + 1 + S : Nat) : Int) by omega]
        · exact same_put (same_tr s3 (same_new ht1)) hD
      · rintro H3 ⟨ts, hD3, hp3, s3⟩
        refine ⟨_, rfl, _, rfl, _, _, rfl, rfl, (by show 2 ≤ sizeLine; decide), fun t0 ht0 => ⟨(by show 1 ≤ sizeLine; decide), fun B hB => ?_⟩⟩
        have hD4 : (upd (upd H3 t0 (.tup [V.int 0, V.int ((N : Int) - (S : Nat))])) B (.lst [V.ref t0])) D = some (.lst (ts.map V.ref)) := by
          have x : (upd H3 t0 (.tup [V.int 0, V.int ((N : Int) - (S : Nat))])) D = some (.lst (ts.map V.ref)) := by
            rw [upd_ne (ne_of_none hD3 ht0)]
            exact hD3
          rw [upd_ne (ne_of_none x hB)]
          exact x
        refine ⟨D, B, ts.map V.ref, [V.ref t0], rfl, rfl, hD4, upd_same, ?_, fun C hC => ?_⟩
        · have := hp3.length
          unfold endsTo at this
          rw [List.length_map, List.length_range] at this
          rw [List.length_map, this]
          exact Nat.le_of_lt (small (show N - 1 + 1 < 1000000 by omega))
        have e0 : ((N : Int) - (S : Nat)) = ((N - S : Nat) : Int) := by omega
        have hC4 : (upd (upd (upd H3 t0 (.tup [V.int 0, V.int ((N : Int) - (S : Nat))])) B (.lst [V.ref t0])) C (.lst (ts.map V.ref ++ [V.ref t0]))) C = some (.lst ((ts ++ [t0]).map V.ref)) := by
          rw [upd_same, List.map_append]
          rfl
        have hp4 : Paired (fun p (kv : Int × Nat) => SqT K (upd (upd (upd H3 t0 (.tup [V.int 0, V.int ((N : Int) - (S : Nat))])) B (.lst [V.ref t0])) C (.lst (ts.map V.ref ++ [V.ref t0]))) p [V.int kv.1, V.int (kv.2 : Nat)]) (ts ++ [t0]) (endsL N S) := by
          unfold endsL
          have nB : ∀ b xs, H3 b = some (.tup xs) → (upd (upd (upd H3 t0 (.tup [V.int 0, V.int ((N : Int) - (S : Nat))])) B (.lst [V.ref t0])) C (.lst (ts.map V.ref ++ [V.ref t0]))) b = some (.tup xs) := fun b xs hb => by
            have x1 : (upd H3 t0 (.tup [V.int 0, V.int ((N : Int) - (S : Nat))])) b = some (.tup xs) := by
              rw [upd_ne (ne_of_none hb ht0)]
              exact hb
            have x2 : (upd (upd H3 t0 (.tup [V.int 0, V.int ((N : Int) - (S : Nat))])) B (.lst [V.ref t0])) b = some (.tup xs) := by
              rw [upd_ne (ne_of_none x1 hB)]
              exact x1
            rw [upd_ne (ne_of_none x2 hC)]
            exact x2
          refine Paired.snoc (L2.Paired.mapP hp3 fun b kv hb => SqT.of (nB _ _ hb)) (SqT.of ?_)
          have x1 : (upd H3 t0 (.tup [V.int 0, V.int ((N : Int) - (S : Nat))])) t0 = some (.tup [V.int 0, V.int ((N : Int) - (S : Nat))]) := upd_same
          have x2 : (upd (upd H3 t0 (.tup [V.int 0, V.int ((N : Int) - (S : Nat))])) B (.lst [V.ref t0])) t0 = some (.tup [V.int 0, V.int ((N : Int) - (S : Nat))]) := by
            rw [upd_ne (ne_of_none x1 hB)]
            exact x1
          rw [upd_ne (ne_of_none x2 hC), x2, e0]
        refine ⟨C, ts ++ [t0], kvOf (endsL N S), rfl, SqL.of hC4, paired_map hp4, fun d hd => ?_⟩
        have em : mergeK [] (kvOf (endsL N S)) = kvOf (endsL N S) := merge_kv (endsL N S) [] (endsL_nodup N S)
        rw [em]
        have d0 : H d = none := (same_tr s2 (same_tr (same_tr (same_tr s3 (same_new ht0)) (same_new hB)) (same_new hC))).free hd
        have s6 : Same H2 (upd (upd (upd (upd H3 t0 (.tup [V.int 0, V.int ((N : Int) - (S : Nat))])) B (.lst [V.ref t0])) C (.lst (ts.map V.ref ++ [V.ref t0]))) d (.dK (kvOf (endsL N S)))) := same_tr (same_tr (same_tr (same_tr s3 (same_new ht0)) (same_new hB)) (same_new hC)) (same_new hd)
        have d6 : (upd (upd (upd (upd H3 t0 (.tup [V.int 0, V.int ((N : Int) - (S : Nat))])) B (.lst [V.ref t0])) C (.lst (ts.map V.ref ++ [V.ref t0]))) d (.dK (kvOf (endsL N S)))) d = some (.dK (kvOf (endsL N S))) := upd_same
        revert s6 d6
        generalize (upd (upd (upd (upd H3 t0 (.tup [V.int 0, V.int ((N : Int) - (S : Nat))])) B (.lst [V.ref t0])) C (.lst (ts.map V.ref ++ [V.ref t0]))) d (.dK (kvOf (endsL N S)))) = H6
        intro s6 d6
        refine ⟨_, rfl, l, rfl, ⟨_, SqL.of (s6 _ _ (s2 _ _ ha1))⟩, for_list (K := K) (a := l) (xs := as.map V.ref) (fun i σ H7 => ∃ v5, σ = [some (.ref l), some (.int (N : Nat)), some (.ref q), some (.int (S : Nat)), some (.ref d), v5, none, none] ∧ H7 d = some (.dK (kvOf (endsL N S))) ∧ H7 t = some (.tup [V.int 0, V.int (N : Nat)]) ∧ RowsAt H7 (part rs j ++ (rs.take i).map (Row.re (endOf N S))) q ∧ Same H H7)
          ⟨v5, rfl, d6, s6 _ _ ht2, (by rw [List.take_zero, List.map_nil, List.append_nil]; exact hq2.same s6), same_tr s2 s6⟩ (fun i σ H7 _ ⟨_, _, _, _, _, s7⟩ => SqL.of (s7 _ _ ha1)) ?_ ?_⟩
        · rintro i y σ H7 hi ⟨w5, rfl, d7, t7, q7, s7⟩
          rw [List.getElem?_map] at hi
          obtain ⟨a, hia, rfl⟩ : ∃ a, as[i]? = some a ∧ y = V.ref a := by
            cases e : as[i]? with
            | none =>
              rw [e] at hi
              cases hi
            | some z =>
              rw [e] at hi
              exact ⟨z, rfl, (Option.some.inj hi).symm⟩
          obtain ⟨r, hir, hraH⟩ := paired_at ha2 hia
          have hra : RowAt H7 r a := hraH.mono (fun b xs x => s7 _ _ x) fun b xs x => s7 _ _ x
          have rlow := low r (List.mem_of_getElem? hir)
          rw [← hN] at rlow
          obtain ⟨bs, hb1, hb2⟩ := id q7
          have bl : bs.length ≤ 3000 := by
            have h1 := hb2.length
            have h2 : (part rs j).length ≤ 2 * rs.length := by
              match j, hj2 with
              | 0, _ => exact Nat.zero_le _
              | 1, _ =>
                show ([] ++ rs.map _).length ≤ _
                rw [List.nil_append, List.length_map]
                omega
            rw [List.length_append, List.length_map, List.length_take] at h1
            omega
          have tk : rs.take (i + 1) = rs.take i ++ [r] := by rw [List.take_add_one, hir]; rfl
          have fin : ∀ (b : Addr) (H8 : Hp), RowAt H8 (r.re (endOf N S)) b → Same H7 H8 → H8 q = some (.lst (bs.map V.ref)) ∧ (bs.map V.ref).length < sizeLine ∧ (upd H8 q (.lst (bs.map V.ref ++ [V.ref b]))) d = some (.dK (kvOf (endsL N S))) ∧ (upd H8 q (.lst (bs.map V.ref ++ [V.ref b]))) t = some (.tup [V.int 0, V.int (N : Nat)]) ∧
              RowsAt (upd H8 q (.lst (bs.map V.ref ++ [V.ref b]))) (part rs j ++ (rs.take (i + 1)).map (Row.re (endOf N S))) q ∧ Same H (upd H8 q (.lst (bs.map V.ref ++ [V.ref b]))) := by
            intro b H8 hb8 s8
            have q8 := s8 _ _ hb1
            have e := RowsAt.add q8 (L2.Paired.mapP hb2 fun a r e => e.mono (fun b xs x => s8 _ _ x) fun b xs x => s8 _ _ x) hb8
            rw [List.append_assoc] at e
            refine ⟨q8, small (by rw [List.length_map]; omega), ?_, ?_, ?_, same_put (same_tr s7 s8) hq⟩
            · rw [upd_ne (ne_of (s8 _ _ d7) q8 (by intro z; cases z))]
              exact s8 _ _ d7
            · rw [upd_ne (ne_of (s8 _ _ t7) q8 (by intro z; cases z))]
              exact s8 _ _ t7
            · rw [tk, List.map_append]
              exact e
          cases r with
          | rest m =>
            refine ⟨_, rfl, _, rfl, _, rfl, a, _, rfl, SqT.of hra, (by show ¬ (0 = 0 ∧ 1 = 2); decide), fun b hb => ?_⟩
            rw [show cutV [V.str "rest", V.int (m : Nat)] none (some (-1)) = [V.str "rest"] from rfl]
            have s8 : Same H7 (upd H7 b (.tup [V.str "rest"])) := same_new hb
            have b8 : (upd H7 b (.tup [V.str "rest"])) b = some (.tup [V.str "rest"]) := upd_same
            revert s8 b8
            generalize (upd H7 b (.tup [V.str "rest"])) = H8
            intro s8 b8
            refine ⟨_, rfl, _, rfl, _, rfl, a, _, _, _, rfl, rfl, SqT.of (s8 _ _ hra), rfl, d, _, rfl, dget_end (s8 _ _ d7) rlow, (by show 1 ≤ sizeLine; decide), fun c hc => ?_⟩
            refine ⟨b, c, _, _, rfl, rfl, SqT.of (by rw [upd_ne (ne_of_none b8 hc)]; exact b8), SqT.of upd_same, (by intro z; cases z), (by show 2 ≤ sizeLine; decide), (by intro z; cases z), fun _ y hy => ?_⟩
            have s9 := same_tr (same_tr s8 (same_new (o := .tup [V.int (endOf N S m : Nat)]) hc)) (same_new (o := .tup ([V.str "rest"] ++ [V.int (endOf N S m : Nat)])) hy)
            have y9 : (upd (upd H8 c (.tup [V.int (endOf N S m : Nat)])) y (.tup ([V.str "rest"] ++ [V.int (endOf N S m : Nat)]))) y = some (.tup ([V.str "rest"] ++ [V.int (endOf N S m : Nat)])) := upd_same
            revert s9 y9
            generalize (upd (upd H8 c (.tup [V.int (endOf N S m : Nat)])) y (.tup ([V.str "rest"] ++ [V.int (endOf N S m : Nat)]))) = H9
            intro s9 y9
            refine ⟨_, rfl, y, _, _, _, rfl, rfl, SqT.of y9, rfl, rfl, _, rfl, ?_⟩
            refine ite_no (decide_eq_false (by intro z; cases z)) ?_
            obtain ⟨f1, f2, f3, f4, f5, f6⟩ := fin y H9 y9 s9
            exact ⟨_, rfl, .inl ⟨rfl, _, Or.inl (Or.inl f1)⟩, _, rfl, q, _, _, rfl, rfl, f1, f2, _, rfl, f3, f4, f5, f6⟩
          | ins m =>
            refine ⟨_, rfl, _, rfl, _, rfl, a, _, rfl, SqT.of hra, (by show ¬ (0 = 0 ∧ 1 = 2); decide), fun b hb => ?_⟩
            rw [show cutV [V.str "inside", V.int (m : Nat)] none (some (-1)) = [V.str "inside"] from rfl]
            have s8 : Same H7 (upd H7 b (.tup [V.str "inside"])) := same_new hb
            have b8 : (upd H7 b (.tup [V.str "inside"])) b = some (.tup [V.str "inside"]) := upd_same
            revert s8 b8
            generalize (upd H7 b (.tup [V.str "inside"])) = H8
            intro s8 b8
            refine ⟨_, rfl, _, rfl, _, rfl, a, _, _, _, rfl, rfl, SqT.of (s8 _ _ hra), rfl, d, _, rfl, dget_end (s8 _ _ d7) rlow, (by show 1 ≤ sizeLine; decide), fun c hc => ?_⟩
            refine ⟨b, c, _, _, rfl, rfl, SqT.of (by rw [upd_ne (ne_of_none b8 hc)]; exact b8), SqT.of upd_same, (by intro z; cases z), (by show 2 ≤ sizeLine; decide), (by intro z; cases z), fun _ y hy => ?_⟩
            have s9 := same_tr (same_tr s8 (same_new (o := .tup [V.int (endOf N S m : Nat)]) hc)) (same_new (o := .tup ([V.str "inside"] ++ [V.int (endOf N S m : Nat)])) hy)
            have y9 : (upd (upd H8 c (.tup [V.int (endOf N S m : Nat)])) y (.tup ([V.str "inside"] ++ [V.int (endOf N S m : Nat)]))) y = some (.tup ([V.str "inside"] ++ [V.int (endOf N S m : Nat)])) := upd_same
            revert s9 y9
            generalize (upd (upd H8 c (.tup [V.int (endOf N S m : Nat)])) y (.tup ([V.str "inside"] ++ [V.int (endOf N S m : Nat)]))) = H9
            intro s9 y9
            refine ⟨_, rfl, y, _, _, _, rfl, rfl, SqT.of y9, rfl, rfl, _, rfl, ?_⟩
            refine ite_no (decide_eq_false (by intro z; cases z)) ?_
            obtain ⟨f1, f2, f3, f4, f5, f6⟩ := fin y H9 y9 s9
            exact ⟨_, rfl, .inl ⟨rfl, _, Or.inl (Or.inl f1)⟩, _, rfl, q, _, _, rfl, rfl, f1, f2, _, rfl, f3, f4, f5, f6⟩
          | wr x v m =>
            refine ⟨_, rfl, _, rfl, _, rfl, a, _, rfl, SqT.of hra, (by show ¬ (0 = 0 ∧ 3 = 4); decide), fun b hb => ?_⟩
            rw [show cutV [V.str "write", V.str x, V.int v, V.int (m : Nat)] none (some (-1)) = [V.str "write", V.str x, V.int v] from rfl]
            have s8 : Same H7 (upd H7 b (.tup [V.str "write", V.str x, V.int v])) := same_new hb
            have b8 : (upd H7 b (.tup [V.str "write", V.str x, V.int v])) b = some (.tup [V.str "write", V.str x, V.int v]) := upd_same
            revert s8 b8
            generalize (upd H7 b (.tup [V.str "write", V.str x, V.int v])) = H8
            intro s8 b8
            refine ⟨_, rfl, _, rfl, _, rfl, a, _, _, _, rfl, rfl, SqT.of (s8 _ _ hra), rfl, d, _, rfl, dget_end (s8 _ _ d7) rlow, (by show 1 ≤ sizeLine; decide), fun c hc => ?_⟩
            refine ⟨b, c, _, _, rfl, rfl, SqT.of (by rw [upd_ne (ne_of_none b8 hc)]; exact b8), SqT.of upd_same, (by intro z; cases z), (by show 4 ≤ sizeLine; decide), (by intro z; cases z), fun _ y hy => ?_⟩
            have s9 := same_tr (same_tr s8 (same_new (o := .tup [V.int (endOf N S m : Nat)]) hc)) (same_new (o := .tup ([V.str "write", V.str x, V.int v] ++ [V.int (endOf N S m : Nat)])) hy)
            have y9 : (upd (upd H8 c (.tup [V.int (endOf N S m : Nat)])) y (.tup ([V.str "write", V.str x, V.int v] ++ [V.int (endOf N S m : Nat)]))) y = some (.tup ([V.str "write", V.str x, V.int v] ++ [V.int (endOf N S m : Nat)])) := upd_same
            revert s9 y9
            generalize (upd (upd H8 c (.tup [V.int (endOf N S m : Nat)])) y (.tup ([V.str "write", V.str x, V.int v] ++ [V.int (endOf N S m : Nat)]))) = H9
            intro s9 y9
            refine ⟨_, rfl, y, _, _, _, rfl, rfl, SqT.of y9, rfl, rfl, _, rfl, ?_⟩
            refine ite_no (decide_eq_false (by intro z; cases z)) ?_
            obtain ⟨f1, f2, f3, f4, f5, f6⟩ := fin y H9 y9 s9
            exact ⟨_, rfl, .inl ⟨rfl, _, Or.inl (Or.inl f1)⟩, _, rfl, q, _, _, rfl, rfl, f1, f2, _, rfl, f3, f4, f5, f6⟩
          | rd x cs m =>
            obtain ⟨dd, hH1, hH2⟩ := hraH
            have hr1 := s7 _ _ hH1
            have hr2 := s7 _ _ hH2
            refine ⟨_, rfl, _, rfl, _, rfl, a, _, rfl, SqT.of hr1, (by show ¬ (0 = 0 ∧ 3 = 4); decide), fun b hb => ?_⟩
            rw [show cutV [V.str "read", V.str x, V.ref dd, V.int (m : Nat)] none (some (-1)) = [V.str "read", V.str x, V.ref dd] from rfl]
            have s8 : Same H7 (upd H7 b (.tup [V.str "read", V.str x, V.ref dd])) := same_new hb
            have b8 : (upd H7 b (.tup [V.str "read", V.str x, V.ref dd])) b = some (.tup [V.str "read", V.str x, V.ref dd]) := upd_same
            revert s8 b8
            generalize (upd H7 b (.tup [V.str "read", V.str x, V.ref dd])) = H8
            intro s8 b8
            refine ⟨_, rfl, _, rfl, _, rfl, a, _, _, _, rfl, rfl, SqT.of (s8 _ _ hr1), rfl, d, _, rfl, dget_end (s8 _ _ d7) rlow.2.2.1, (by show 1 ≤ sizeLine; decide), fun c hc => ?_⟩
            refine ⟨b, c, _, _, rfl, rfl, SqT.of (by rw [upd_ne (ne_of_none b8 hc)]; exact b8), SqT.of upd_same, (by intro z; cases z), (by show 4 ≤ sizeLine; decide), (by intro z; cases z), fun _ y hy => ?_⟩
            have s9 := same_tr (same_tr s8 (same_new (o := .tup [V.int (endOf N S m : Nat)]) hc)) (same_new (o := .tup ([V.str "read", V.str x, V.ref dd] ++ [V.int (endOf N S m : Nat)])) hy)
            have y9 : (upd (upd H8 c (.tup [V.int (endOf N S m : Nat)])) y (.tup ([V.str "read", V.str x, V.ref dd] ++ [V.int (endOf N S m : Nat)]))) y = some (.tup ([V.str "read", V.str x, V.ref dd] ++ [V.int (endOf N S m : Nat)])) := upd_same
            revert s9 y9
            generalize (upd (upd H8 c (.tup [V.int (endOf N S m : Nat)])) y (.tup ([V.str "read", V.str x, V.ref dd] ++ [V.int (endOf N S m : Nat)]))) = H9
            intro s9 y9
            refine ⟨_, rfl, y, _, _, _, rfl, rfl, SqT.of y9, rfl, rfl, _, rfl, ?_⟩
            refine ite_yes (decide_eq_true rfl) ?_
            have dd9 := s9 _ _ hr2
            have d9 := s9 _ _ d7
            have nyd : y ≠ dd := ne_of y9 dd9 (by intro z; cases z)
            refine ⟨_, rfl, y, _, _, _, rfl, rfl, SqT.of y9, rfl, _, rfl, y, _, _, _, rfl, rfl, SqT.of y9, rfl, dd, _, dd9, trivial, fun od => ?_⟩
            obtain ⟨ndk, lowk, mN, cl10⟩ := rlow
            have yL : (upd H9 dd (.frz od (.dK (kvOf cs)))) y = some (.tup [V.str "read", V.str x, V.ref dd, V.int (endOf N S m : Nat)]) := by
              rw [upd_ne nyd]
              exact y9
            have dL : (upd H9 dd (.frz od (.dK (kvOf cs)))) dd = some (.frz od (.dK (kvOf cs))) := upd_same
            have eL : d ≠ dd → (upd H9 dd (.frz od (.dK (kvOf cs)))) d = some (.dK (kvOf (endsL N S))) := fun n => by
              rw [upd_ne n]
              exact d9
            have ndd : d ≠ dd := fun z => by
              rw [z, hH2] at d0
              cases d0
            have eL := eL ndd
            have oL : ∀ b o, H9 b = some o → b ≠ dd → (upd H9 dd (.frz od (.dK (kvOf cs)))) b = some o := fun b o e n => by
              rw [upd_ne n]
              exact e
            have nL : ∀ b, (upd H9 dd (.frz od (.dK (kvOf cs)))) b = none → H9 b = none := fun b e => by
              by_cases n : b = dd
              · rw [n, dL] at e
                cases e
              · rw [upd_ne n] at e
                exact e
            revert yL dL eL oL nL
            generalize (upd H9 dd (.frz od (.dK (kvOf cs)))) = HL
            intro yL dL eL oL nL
            refine ⟨_, rfl, y, _, _, _, rfl, rfl, SqT.of yL, rfl, dd, od, rfl, .inl ⟨_, dL, fun D2 hD2 => ?_⟩⟩
            refine lc_it (walk_keys (d := dd) (o := od) (kvs := kvOf cs)) (fun i H => ∃ ts : List Addr, H D2 = some (.lst (ts.map V.ref)) ∧ Paired (fun t (kv : Int × Nat) => H t = some (.tup [V.int kv.1, V.int (kv.2 : Nat)])) ts ((cs.take i).map fun (kv : Int × Nat) => (kv.1, endOf N S kv.2)) ∧ Same HL H)
              ⟨[], upd_same, .nil, same_new hD2⟩ (fun i H _ ⟨_, _, _, e⟩ => e _ _ dL) ?_ ?_
            · rintro i x0 Ha Hb hi ⟨us, hDa, hpa, sa⟩ ⟨rfl, k0, v0, hk0, rfl⟩
              obtain ⟨kv, hkv, hkk⟩ : ∃ kv, cs[i]? = some kv ∧ k0 = Sum.inl kv.1 := by
                unfold kvOf at hk0
                rw [List.getElem?_map] at hk0
                cases e : cs[i]? with
                | none =>
                  rw [e] at hk0
                  cases hk0
                | some z =>
                  rw [e] at hk0
                  cases hk0
                  exact ⟨z, rfl, rfl⟩
              subst hkk
              have hmem := List.mem_of_getElem? hkv
              have ul : us.length = i := by
                have h1 := hpa.length
                have h2 := (List.getElem?_eq_some_iff.mp hkv).1
                rw [List.length_map, List.length_take] at h1
                omega
              have il := (List.getElem?_eq_some_iff.mp hkv).1
              refine ⟨rfl, tyes_if ?_⟩
              refine ⟨_, rfl, _, rfl, _, rfl, y, _, _, _, rfl, rfl, SqT.of (sa _ _ yL), rfl, _, rfl, dd, _, rfl, .inl ⟨kvOf cs, Sum.inl kv.1, .inr ⟨od, sa _ _ dL⟩, rfl, (valV_mem (v := kv.2) ndk hmem).symm⟩, d, _, rfl, dget_end (sa _ _ eL) (lowk kv hmem), (by show 2 ≤ sizeLine; decide), fun t1 ht1 => ?_⟩
              have ntD : D2 ≠ t1 := ne_of_none hDa ht1
              refine ⟨us.map V.ref, by rw [upd_ne ntD]; exact hDa, small (by rw [List.length_map]; omega), us ++ [t1], ?_, ?_, same_put (same_tr sa (same_new ht1)) hD2⟩
              · rw [upd_same, List.map_append]
                rfl
              · have tk2 : cs.take (i + 1) = cs.take i ++ [kv] := by rw [List.take_add_one, hkv]; rfl
                rw [tk2, List.map_append]
                refine Paired.snoc (L2.Paired.mapP hpa fun b kv hb => ?_) ?_
                · rw [upd_ne (ne_of hb hDa (by intro z; cases z)), upd_ne (ne_of_none hb ht1)]
                  exact hb
                · rw [upd_ne ntD.symm, upd_same]
                  rfl
            · rintro Ha ⟨us, hDa, hpa, sa⟩
              have kl : (kvOf cs).length = cs.length := by
                unfold kvOf
                rw [List.length_map]
              rw [kl, List.take_length] at hpa
              refine ⟨sa _ _ dL, ?_⟩
              have nDd : D2 ≠ dd := ne_of hDa (sa _ _ dL) (by intro z; cases z)
              have sU : Same H9 (upd Ha dd (.dK (kvOf cs))) := fun b o e => by
                by_cases n : b = dd
                · subst n
                  rw [dd9] at e
                  rw [upd_same, e]
                · rw [upd_ne n]
                  exact sa _ _ (oL _ _ e n)
              have hDU : (upd Ha dd (.dK (kvOf cs))) D2 = some (.lst (us.map V.ref)) := by
                rw [upd_ne nDd]
                exact hDa
              have hpU := L2.Paired.mapP (G := fun t (kv : Int × Nat) => SqT K (upd Ha dd (.dK (kvOf cs))) t [V.int kv.1, V.int (kv.2 : Nat)]) hpa fun b kv hb => SqT.of (by
                rw [upd_ne (ne_of hb (sa _ _ dL) (by intro z; cases z))]
                exact hb)
              revert sU hDU hpU
              generalize (upd Ha dd (.dK (kvOf cs))) = HU
              intro sU hDU hpU
              refine ⟨D2, us, kvOf (cs.map fun (kv : Int × Nat) => (kv.1, endOf N S kv.2)), rfl, SqL.of hDU, paired_map hpU, fun p hp => ?_⟩
              have nd2 : ((cs.map fun (kv : Int × Nat) => (kv.1, endOf N S kv.2)).map (·.1)).Nodup := by
                rw [List.map_map]
                exact ndk
              have em2 : mergeK [] (kvOf (cs.map fun (kv : Int × Nat) => (kv.1, endOf N S kv.2))) = kvOf (cs.map fun (kv : Int × Nat) => (kv.1, endOf N S kv.2)) := merge_kv (cs.map fun (kv : Int × Nat) => (kv.1, endOf N S kv.2)) [] nd2
              rw [em2]
              have sV := same_tr sU (same_new (o := .dK (kvOf (cs.map fun (kv : Int × Nat) => (kv.1, endOf N S kv.2)))) hp)
              refine ⟨_, rfl, y, _, _, _, rfl, rfl, SqT.of (sV _ _ y9), rfl, (by show 4 ≤ sizeLine; decide), fun z hz => ?_⟩
              obtain ⟨f1, f2, f3, f4, f5, f6⟩ := fin z _ ⟨p, upd_same, by rw [upd_ne (ne_of_none upd_same hz), upd_same]⟩ (same_tr s9 (same_tr sV (same_new hz)))
              exact ⟨_, rfl, .inl ⟨rfl, _, Or.inl (Or.inl f1)⟩, _, rfl, q, _, _, rfl, rfl, f1, f2, _, rfl, f3, f4, f5, f6⟩
        · rintro σ H7 ⟨w5, rfl, d7, t7, q7, s7⟩
          rw [List.length_map, asl, List.take_length] at q7
          exact ⟨_, _, _, rfl, t7, by rw [hN] at q7; rw [hS, hN] at q7; exact q7, s7⟩
    · rintro σ H2 ⟨v3, v4, v5, rfl, ht2, hq2, s2⟩
      have hq3 : RowsAt H2 (part rs 2) q := hq2
      rw [part2] at hq3
      exact ⟨_, rfl, k q H2 s2 hq hq3⟩
end
end CC
set_option Elab.async false
set_option maxRecDepth 100000
namespace CC
open PySem L2
set_option linter.unusedVariables false
theorem RowsAt.put {H : Hp} {rs : List Row} {l q : Addr} {xs ys : List V} (h : RowsAt H rs l) (hq : H q = some (.lst xs)) (n : q ≠ l) : RowsAt (upd H q (.lst ys)) rs l := by
  obtain ⟨as, h1, h2⟩ := h
  exact ⟨as, by rw [upd_ne n.symm]; exact h1, L2.Paired.mapP h2 fun a r e => e.put hq⟩
abbrev sThreads : Stmt := top 32
/-- the rows of a drawn program -/
def Thr (most : Nat) (cells : List Str) (rs : List Row) : Prop := ∃ (ahead behind : Nat) (ts : List Row), ahead ≤ most ∧ behind ≤ 2 ∧ Shape ahead behind cells ts ∧ (rs = ts ∨ rs = doubled ts)
theorem Shape.len {ahead behind : Nat} {cells : List Str} {ts : List Row} (h : Shape ahead behind cells ts) : ts.length = ahead + behind + 2 := by
  obtain ⟨xs, ys, rfl, h1, h2, _⟩ := h
  simp only [List.length_cons, List.length_append]
  omega
theorem Row.mid_ok {lo hi n : Nat} {cells : List Str} {r : Row} (h : r.mid lo hi cells) (e : hi ≤ n) : r.ok n cells := by
  cases r with
  | rest m => exact h.elim
  | ins m => exact h.elim
  | wr c v m => exact ⟨h.1, h.2.1, by have := h.2.2.2; omega⟩
  | rd c cs m => exact ⟨h.1, h.2.1, fun kv hkv => ⟨(h.2.2.1 kv hkv).1, by have := (h.2.2.1 kv hkv).2.2; omega⟩, by have := h.2.2.2.2.1; omega, h.2.2.2.2.2⟩
theorem Row.tl_ok {lo hi n : Nat} {cells : List Str} {r : Row} (h : r.tl lo hi cells) (e : hi ≤ n) (n0 : 0 < n) : r.ok n cells := by
  cases r with
  | rest m => exact h.elim
  | ins m => exact h.elim
  | wr c v m => exact ⟨h.1, h.2.1, by have := h.2.2; omega⟩
  | rd c cs m => exact ⟨h.1, h.2.1, fun kv hkv => ⟨(h.2.2.1 kv hkv).1, by have := (h.2.2.1 kv hkv).2.2; omega⟩, by have := h.2.2.2.1; omega, h.2.2.2.2⟩
theorem Row.ok_low {n : Nat} {cells : List Str} {r : Row} (h : r.ok n cells) : r.low n := by
  cases r with
  | rest m => exact h
  | ins m => exact h
  | wr c v m => exact h.2.2
  | rd c cs m => exact ⟨h.2.1, fun kv hkv => (h.2.2.1 kv hkv).2, h.2.2.2.1, h.2.2.2.2⟩
theorem Shape.ok {ahead behind : Nat} {cells : List Str} {ts : List Row} (h : Shape ahead behind cells ts) : ∀ r ∈ ts, r.ok ts.length cells := by
  have hl := h.len
  rw [hl]
  obtain ⟨xs, ys, rfl, h1, h2, h3, h4⟩ := h
  intro r hr
  cases hr with
  | head => show 1 < ahead + behind + 2; omega
  | tail _ hr =>
    rcases List.mem_append.mp hr with m | m
    · exact Row.mid_ok (h3 r m) (by omega)
    · cases m with
      | head =>
        show (if 0 < behind then ahead + 2 else 0) < ahead + behind + 2
        by_cases hb : 0 < behind
        · rw [if_pos hb]
          omega
        · rw [if_neg hb]
          omega
      | tail _ m => exact Row.tl_ok (h4 r m) (by omega) (by omega)
theorem Row.re_ok {n : Nat} {cells : List Str} {r : Row} {e : Nat → Nat} {m : Nat} (h : r.ok n cells) (he : ∀ k, k < n → e k < m) : (r.re e).ok m cells := by
  cases r with
  | rest k => exact he _ h
  | ins k => exact he _ h
  | wr c v k => exact ⟨h.1, h.2.1, he _ h.2.2⟩
  | rd c cs k =>
    refine ⟨h.1, ?_, ?_, he _ h.2.2.2.1, by rw [List.length_map]; exact h.2.2.2.2⟩
    · rw [List.map_map]
      exact h.2.1
    · intro kv hkv
      obtain ⟨z, hz, rfl⟩ := List.mem_map.mp hkv
      exact ⟨(h.2.2.1 z hz).1, he _ (h.2.2.1 z hz).2⟩
theorem doubled_len (ts : List Row) : (doubled ts).length = 2 * ts.length := by
  unfold doubled
  rw [List.length_append, List.length_map, List.length_map]
  omega
theorem doubled_ok {cells : List Str} {ts : List Row} (h : ∀ r ∈ ts, r.ok ts.length cells) (n0 : 0 < ts.length) : ∀ r ∈ doubled ts, r.ok (doubled ts).length cells := by
  rw [doubled_len]
  intro r hr
  unfold doubled at hr
  rcases List.mem_append.mp hr with m | m
  · obtain ⟨z, hz, rfl⟩ := List.mem_map.mp m
    refine Row.re_ok (h z hz) fun k hk => ?_
    unfold endOf
    by_cases c : k = 0
    · rw [if_pos c]; omega
    · rw [if_neg c]; omega
  · obtain ⟨z, hz, rfl⟩ := List.mem_map.mp m
    refine Row.re_ok (h z hz) fun k hk => ?_
    unfold endOf
    by_cases c : k = 0
    · rw [if_pos c]; omega
    · rw [if_neg c]; omega
/-- rows as a program asks them: all in order, the first one a rest row -/
def Good (cells : List Str) (rs : List Row) : Prop := (∀ r ∈ rs, r.ok rs.length cells) ∧ (∃ m, rs[0]? = some (Row.rest m)) ∧ 2 ≤ rs.length ∧ rs.length ≤ 60
theorem Thr.good {most : Nat} {cells : List Str} {rs : List Row} (h : Thr most cells rs) (m : most ≤ 20) : Good cells rs := by
  obtain ⟨ahead, behind, ts, h1, h2, h3, h4⟩ := h
  have hl := h3.len
  have hk := h3.ok
  obtain ⟨xs, ys, e, _⟩ := h3
  rcases h4 with rfl | rfl
  · exact ⟨hk, ⟨1, by rw [e]; rfl⟩, by omega, by omega⟩
  · refine ⟨doubled_ok hk (by omega), ⟨endOf ts.length 0 1, ?_⟩, by rw [doubled_len]; omega, by rw [doubled_len]; omega⟩
    unfold doubled
    rw [e]
    rfl
def spThreads : Sp := fun vs H Q _ => ∃ (p cl : Addr) (n many most : Nat) (cells : List Str), vs = [.ref p, .int (many : Nat), .ref cl, .int (most : Nat)] ∧ Src p n H ∧ n + 2000 * (many + 1) < 1000000 ∧
  H cl = some (.lst (cells.map V.str)) ∧ p ≠ cl ∧ 0 < cells.length ∧ cells.length < 100 ∧ SeqAt.shaped (.list (cells.map PyData.str)) = true ∧ most ≤ 10 ∧
  ∀ (q : Addr) (ls : List Addr) (rss : List (List Row)) (H' : Hp), Grow p H H' → H q = none → H' q = some (.lst (ls.map V.ref)) → Paired (fun l rs => RowsAt H' rs l ∧ Thr most cells rs ∧ H l = none) ls rss → rss.length = many → Src p (n + 2000 * many) H' → Q (.ref q) H'
section
variable {P : Program} {w : World} {K : PySem.W.Frag} {mg : Str → Option Value} {base : Heap}
theorem scThreads : FnScope ["_law_source_here", "_law_threads_here", "_law_cells", "_law_most", "_law_found", "_law_k", "_law_rows_here"] ["_law_source_here", "_law_threads_here", "_law_cells", "_law_most"] (defScope sThreads) := ⟨rfl, rfl, rfl, by decide +kernel, rfl, by decide +kernel, by decide +kernel⟩
theorem ok_threads {f fD fR fW : Addr} {fd fdD fdR fdW : FuncData} (F : Fun K "_law_threads" "_law_threads" sThreads f fd)
    (GD : FnOk P w K mg base CX0 1 fD fdD ["_law_source_here", "_law_many"] spDraw) (mD : mg "_law_draw" = some (.ref fD)) (kD : PySem.W.keepIn K (.ref fD) = true) (bD : Binds K fdD ["_law_source_here", "_law_many"] [])
    (GR : FnOk P w K mg base CX0 4 fR fdR ["_law_source_here", "_law_cells", "_law_ahead", "_law_behind", "_law_worths"] spRows) (mR : mg "_law_rows" = some (.ref fR)) (kR : PySem.W.keepIn K (.ref fR) = true) (bR : Binds K fdR ["_law_source_here", "_law_cells", "_law_ahead", "_law_behind", "_law_worths"] [])
    (GW : FnOk P w K mg base CX0 1 fW fdW ["_law_rows_here"] spDoubled) (mW : mg "_law_doubled" = some (.ref fW)) (kW : PySem.W.keepIn K (.ref fW) = true) (bW : Binds K fdW ["_law_rows_here"] [])
    (tr : mg "range" = none) :
    FnOk P w K mg base CX0 5 f fd ["_law_source_here", "_law_threads_here", "_law_cells", "_law_most"] spThreads := by
  refine F.ok scThreads (fun vs H Q E h => ?_) (fun cdv A outer s H vs Q E hr h => ?_)
  · obtain ⟨p, cl, n, many, most, cells, rfl, _⟩ := h
    rfl
  · obtain ⟨p, cl, n, many, most, cells, rfl, hp, hn, hcl, npc, c0, c1, csh, ml, k⟩ := h
    have hr1 : Room 1 _ := hr.mono (by decide)
    refine ⟨_, pss_cons (ps_set (i := 4) scThreads.nd rfl (Or.inl rfl) (pe_lst pa_nil))
      (pss_cons (ps_for PassesOwn.never rfl (pi_range1 rfl tr (pa_cons (pv 1) pa_nil)) (pg_name (i := 5) scThreads.nd rfl (Or.inl rfl))
        (pss_cons (ps_set (i := 6) scThreads.nd rfl (Or.inl rfl) (pe_call GR hr rfl mR kR bR .nil pass0 (pa_cons (pv 0) (pa_cons (pv 2) (pa_cons (pe_call GD hr1 rfl mD kD bD .nil pass0 (pa_cons (pv 0) (pa_cons (pe_op op_add (pv 3) pe_int) pa_nil))) (pa_cons (pe_call GD hr1 rfl mD kD bD .nil pass0 (pa_cons (pv 0) (pa_cons pe_int pa_nil))) (pa_cons (pe_lst (pa_cons pe_int (pa_cons pe_int (pa_cons pe_int pa_nil)))) pa_nil)))))))
        (pss_one (ps_expr (pe_bm PySem.F.plainAttrs_list PySem.F.slot_list_append PySem.F.type_list_append mt_append (pv 4) (pa_cons
          (pe_ifExp (pt_cmpR op_eq (pe_call GD hr1 rfl mD kD bD .nil pass0 (pa_cons (pv 0) (pa_cons pe_int pa_nil))) pe_int (nomark _)) (pe_call GW hr1 rfl mW kW bW .nil pass0 (pa_cons (pv 6) pa_nil)) (pv 6)) pa_nil))))))
      (pss_one (ps_ret (pv 4)))), ?_⟩
    refine ⟨Nat.zero_le _, fun q hq => ?_⟩
    have npq := hp.ne hq
    refine ⟨_, rfl, (many : Int), rfl, by omega, by omega, for_range (n := many) (fun i σ H2 => ∃ (v5 v6 : Option V) (ls : List Addr) (rss : List (List Row)), σ = [some (.ref p), some (.int (many : Nat)), some (.ref cl), some (.int (most : Nat)), some (.ref q), v5, v6] ∧ H2 q = some (.lst (ls.map V.ref)) ∧ Paired (fun l rs => RowsAt H2 rs l ∧ Thr most cells rs ∧ H l = none ∧ q ≠ l) ls rss ∧ rss.length = i ∧ Grow p H H2 ∧ Src p (n + 2000 * i) H2)
      ⟨none, none, [], [], rfl, upd_same, .nil, rfl, Grow.new hq, hp.new hq⟩ ?_ ?_⟩
    · rintro i σ H2 hi ⟨v5, v6, ls, rss, rfl, hq2, hp2, rl, g2, s2⟩
      refine ⟨_, rfl, _, rfl, _, rfl, _, rfl, _, _, rfl, rfl, p, n + 2000 * i, _, rfl, s2, by omega, by omega, by omega, fun r1 H3 a0 a1 g3 s3 => ?_⟩
      refine ⟨_, rfl, p, n + 2000 * i + 1, 3, rfl, s3, by omega, by decide, by decide, fun r2 H4 b0 b1 g4 s4 => ⟨(by show 3 ≤ sizeLine; decide), fun wl hwl => ?_⟩⟩
      obtain ⟨x1, rfl⟩ : ∃ x : Nat, r1 = (x : Int) := ⟨r1.toNat, by omega⟩
      obtain ⟨x2, rfl⟩ : ∃ x : Nat, r2 = (x : Int) := ⟨r2.toNat, by omega⟩
      have g5 := (g3.trans g4).trans (Grow.new (o := .lst [V.int 0, V.int 1, V.int 2]) hwl)
      have s5 := s4.new (o := .lst [V.int 0, V.int 1, V.int 2]) hwl
      refine ⟨p, cl, wl, n + 2000 * i + 2, x1, x2, cells, [0, 1, 2], rfl, s5, by omega, (g2.trans g5) _ _ hcl npc.symm, upd_same, npc, s4.ne hwl, c0, c1, csh, by decide, by decide, by decide, by decide, by omega, by omega, fun l rs H6 g6 hl rr sh s6 => ?_⟩
      have hl0 : H l = none := by
        cases e : H l with
        | none => rfl
        | some o =>
          by_cases n : l = p
          · rw [n] at hl
            exact absurd rfl (s5.ne hl)
          · rw [(g2.trans g5) _ _ e n] at hl
            cases hl
      have hq6 := (g5.trans g6) _ _ hq2 npq.symm
      have add : ∀ (b : Addr) (rs' : List Row) (H8 : Hp), RowsAt H8 rs' b → Thr most cells rs' → H b = none → Grow p H2 H8 → Src p (n + 2000 * i + 2000) H8 → H8 q = some (.lst (ls.map V.ref)) → q ≠ b →
          (upd H8 q (.lst (ls.map V.ref ++ [V.ref b]))) q = some (.lst ((ls ++ [b]).map V.ref)) ∧ Paired (fun l rs => RowsAt (upd H8 q (.lst (ls.map V.ref ++ [V.ref b]))) rs l ∧ Thr most cells rs ∧ H l = none ∧ q ≠ l) (ls ++ [b]) (rss ++ [rs']) ∧ (rss ++ [rs']).length = i + 1 ∧ Grow p H (upd H8 q (.lst (ls.map V.ref ++ [V.ref b]))) ∧ Src p (n + 2000 * (i + 1)) (upd H8 q (.lst (ls.map V.ref ++ [V.ref b]))) := by
        intro b rs' H8 hb ht hb0 g8 s8 hq8 nqb
        refine ⟨?_, Paired.snoc (L2.Paired.mapP hp2 fun l rs e => ⟨(e.1.grow g8 s2 (fun z => ?_)).put hq8 e.2.2.2, e.2.1, e.2.2.1, e.2.2.2⟩) ⟨hb.put hq8 nqb, ht, hb0, nqb⟩, by rw [List.length_append, rl]; rfl, (g2.trans g8).put hq, (s8.put npq).le (by omega)⟩
        · rw [upd_same, List.map_append]
          rfl
        · obtain ⟨_, _, _, z1, _⟩ := hp
          rw [z] at z1
          rw [e.2.2.1] at z1
          cases z1
      have nql : q ≠ l := ne_of_none (g5 _ _ hq2 npq.symm) hl
      have len6 : (ls.map V.ref).length < sizeLine := by
        have := hp2.length
        exact small (by rw [List.length_map]; omega)
      refine ⟨_, rfl, .inl ⟨rfl, _, Or.inl (Or.inl hq6)⟩, ?_⟩
      refine ⟨_, rfl, p, n + 2000 * i + 2 + 60 * (x1 + x2), 6, rfl, s6, by omega, by decide, by decide, fun r3 H7 d0 d1 g7 s7 => ⟨rfl, _, rfl, ?_⟩⟩
      have npl : p ≠ l := fun z => by
        rw [← z] at hl
        exact absurd rfl (s5.ne hl)
      have rr7 := rr.grow g7 s6 npl
      have hq7 := g7 _ _ hq6 npq.symm
      have shl := sh.len
      refine ite2 (fun _ => ?_) (fun _ => ?_)
      · refine ⟨_, rfl, l, rs, rfl, rr7, by omega, by omega, fun r hr => Row.ok_low (sh.ok r hr), fun b H8 s8 hb rb => ?_⟩
        have s78 : Src p (n + 2000 * i + 2 + 60 * (x1 + x2) + 1) H8 := by
          obtain ⟨g, z, c, e1, e2⟩ := s7
          exact ⟨g, z, c, s8 _ _ e1, e2⟩
        have g78 : Grow p H7 H8 := fun b o e _ => s8 b o e
        have hb0 : H b = none := by
          cases e : H b with
          | none => rfl
          | some o =>
            by_cases n : b = p
            · rw [n] at hb
              exact absurd rfl (s7.ne hb)
            · rw [g7 _ _ (g6 _ _ ((g2.trans g5) _ _ e n) n) n] at hb
              cases hb
        obtain ⟨f1, f2, f3, f4, f5⟩ := add b (doubled rs) H8 rb ⟨x1, x2, rs, by omega, by omega, sh, .inr rfl⟩ hb0 (((g5.trans g6).trans g7).trans g78) (s78.le (by omega)) (s8 _ _ hq7) (ne_of_none hq7 hb)
        exact ⟨q, _, _, rfl, rfl, s8 _ _ hq7, len6, _, _, _, _, rfl, f1, f2, f3, f4, f5⟩
      · obtain ⟨f1, f2, f3, f4, f5⟩ := add l rs H7 rr7 ⟨x1, x2, rs, by omega, by omega, sh, .inl rfl⟩ hl0 ((g5.trans g6).trans g7) (s7.le (by omega)) hq7 nql
        exact ⟨_, rfl, q, _, _, rfl, rfl, hq7, len6, _, _, _, _, rfl, f1, f2, f3, f4, f5⟩
    · rintro σ H2 ⟨v5, v6, ls, rss, rfl, hq2, hp2, rl, g2, s2⟩
      exact ⟨_, rfl, k q ls rss H2 g2 hq hq2 (L2.Paired.mapP hp2 fun l rs e => ⟨e.1, e.2.1, e.2.2.1⟩) rl s2⟩
end
end CC
set_option Elab.async false
set_option maxRecDepth 100000
namespace CC
open PySem L2
set_option linter.unusedVariables false
abbrev sIsList : Stmt := top 8
abbrev sIsWhole : Stmt := top 9
abbrev sIsName : Stmt := top 10
abbrev sIsNumber : Stmt := top 11
abbrev sAreCases : Stmt := top 12
abbrev sIsRow : Stmt := top 13
abbrev sCopied : Stmt := top 14
abbrev sFollowers : Stmt := top 15
def spIsList : Sp := fun vs H Q _ => ∃ (a : Addr) (xs : List V), vs = [.ref a] ∧ (H a = some (.lst xs) ∨ H a = some (.tup xs)) ∧ ∀ H', Same H H' → Q (.bl true) H'
def spIsWhole : Sp := fun vs H Q _ => ∃ (i : Int), vs = [.int i] ∧ Q (.bl (decide (i ≥ 0))) H
def spIsNumber : Sp := fun vs H Q _ => ∃ (i n : Int), vs = [.int i, .int n] ∧ 0 ≤ i ∧ Q (.bl (decide (i < n))) H
section
variable {P : Program} {w : World} {K : PySem.W.Frag} {mg : Str → Option Value} {base : Heap}
theorem scIsList : FnScope ["value"] ["value"] (defScope sIsList) := ⟨rfl, rfl, rfl, by decide +kernel, rfl, by decide +kernel, by decide +kernel⟩
theorem ok_islist {f : Addr} {fd : FuncData} (F : Fun K "is_list" "is_list" sIsList f fd) (ti : mg "isinstance" = none) (tl : mg "list" = none) (tt : mg "tuple" = none) :
    FnOk P w K mg base CX0 1 f fd ["value"] spIsList := by
  refine F.ok scIsList (fun vs H Q E h => ?_) (fun cdv A outer s H vs Q E hr h => ?_)
  · obtain ⟨a, xs, rfl, _⟩ := h
    rfl
  · obtain ⟨a, xs, rfl, hx, k⟩ := h
    refine ⟨_, pss_one (ps_ret (pe_callB call_isiT (by rfl) ti (by decide +kernel) (pa_cons (pv 0) (pa_cons (pe_tup (pa_cons (pe_bltn (v := .ty "list") (by rfl) tl (by decide +kernel) rfl) (pa_cons (pe_bltn (v := .ty "tuple") (by rfl) tt (by decide +kernel) rfl) pa_nil))) pa_nil)))), ?_⟩
    refine ⟨_, rfl, (by show 2 ≤ sizeLine; decide), fun t ht => ?_⟩
    rcases hx with hx | hx
    · refine ⟨_, t, _, _, _, true, rfl, upd_same, .cons (.ty _) (.cons (.ty _) .nil), .base (.lst (by rw [upd_ne (ne_of_none hx ht)]; exact hx)), kitAny_cons (b := true) (kit_ty (by decide +kernel)) (fun z => nomatch z) (fun _ => rfl), k _ (same_new ht)⟩
    · refine ⟨_, t, _, _, _, true, rfl, upd_same, .cons (.ty _) (.cons (.ty _) .nil), .base (.tup (by rw [upd_ne (ne_of_none hx ht)]; exact hx)), kitAny_cons (b := false) (kit_ty (by decide +kernel)) (fun _ => kitAny_cons (b := true) (kit_ty (by decide +kernel)) (fun z => nomatch z) (fun _ => rfl)) (fun z => nomatch z), k _ (same_new ht)⟩
theorem scIsWhole : FnScope ["value"] ["value"] (defScope sIsWhole) := ⟨rfl, rfl, rfl, by decide +kernel, rfl, by decide +kernel, by decide +kernel⟩
theorem ok_iswhole {f : Addr} {fd : FuncData} (F : Fun K "is_whole" "is_whole" sIsWhole f fd) (ti : mg "isinstance" = none) (tn : mg "int" = none) (tb : mg "bool" = none) :
    FnOk P w K mg base CX0 1 f fd ["value"] spIsWhole := by
  refine F.ok scIsWhole (fun vs H Q E h => ?_) (fun cdv A outer s H vs Q E hr h => ?_)
  · obtain ⟨i, rfl, _⟩ := h
    rfl
  · obtain ⟨i, rfl, k⟩ := h
    refine ⟨_, pss_one (ps_ret (pe_and (pe_callB call_isi (by rfl) ti (by decide +kernel) (pa_cons (pv 0) (pa_cons (pe_bltn (v := .ty "int") (by rfl) tn (by decide +kernel) rfl) pa_nil)))
      (pe_and (pe_not (pe_callB call_isi (by rfl) ti (by decide +kernel) (pa_cons (pv 0) (pa_cons (pe_bltn (v := .ty "bool") (by rfl) tb (by decide +kernel) rfl) pa_nil)))) (pe_one (pe_cmp (pc_ge (pv 0) pe_int) rfl))))), ?_⟩
    refine ⟨_, rfl, _, _, _, _, true, rfl, .ty _, .base (.int i), kit_ty (by decide +kernel), true, rfl, iteT ?_⟩
    refine ⟨_, rfl, _, _, _, _, false, rfl, .ty _, .base (.int i), kit_ty (by decide +kernel), false, rfl, true, rfl, iteT ?_⟩
    exact ⟨_, rfl, _, _, rfl, rfl, k⟩
theorem scIsNumber : FnScope ["value", "many"] ["value", "many"] (defScope sIsNumber) := ⟨rfl, rfl, rfl, by decide +kernel, rfl, by decide +kernel, by decide +kernel⟩
theorem ok_isnumber {f fW : Addr} {fd fdW : FuncData} (F : Fun K "is_number" "is_number" sIsNumber f fd) (GW : FnOk P w K mg base CX0 1 fW fdW ["value"] spIsWhole) (mW : mg "is_whole" = some (.ref fW)) (kW : PySem.W.keepIn K (.ref fW) = true) (bW : Binds K fdW ["value"] []) :
    FnOk P w K mg base CX0 2 f fd ["value", "many"] spIsNumber := by
  refine F.ok scIsNumber (fun vs H Q E h => ?_) (fun cdv A outer s H vs Q E hr h => ?_)
  · obtain ⟨i, n, rfl, _⟩ := h
    rfl
  · obtain ⟨i, n, rfl, i0, k⟩ := h
    refine ⟨_, pss_one (ps_ret (pe_and (pe_call GW hr rfl mW kW bW .nil pass0 (pa_cons (pv 0) pa_nil)) (pe_one (pe_cmp (pc_lt (pv 0) (pv 1)) rfl)))), ?_⟩
    refine ⟨_, rfl, i, rfl, _, rfl, ite_yes (decide_eq_true i0) ?_⟩
    exact ⟨_, rfl, _, rfl, _, _, rfl, rfl, k⟩
end
end CC
set_option Elab.async false
set_option maxRecDepth 100000
namespace CC
open PySem PySem.Spec PyProof.Rows L2
set_option linter.unusedVariables false
/-! ### a list of the values of a dict -/
def tLVals (te : TE) : TE := fun σ H Q => te σ H fun x H1 => ∃ (d : Addr) (kvs : List (Key × V)), x = .ref d ∧ H1 d = some (.dK kvs) ∧ ∀ q, H1 q = none → Q (.ref q) (upd H1 q (.lst (kvs.map (·.2))))
theorem vals_by {n : Nat} : ∀ {xs : List V} {us : List Value}, xs.length = n → us.length = n → (∀ (j : Nat) (x : V) (u : Value), xs[j]? = some x → us[j]? = some u → RelV x u) → Vals xs us := by
  intro xs
  induction xs generalizing n with
  | nil =>
    intro us h1 h2 _
    cases us with
    | nil => exact .nil
    | cons u us =>
      simp at h1 h2
      omega
  | cons x xs ih =>
    intro us h1 h2 h
    cases us with
    | nil =>
      simp at h1 h2
      omega
    | cons u us =>
      simp at h1 h2
      exact .cons (h 0 x u rfl rfl) (ih (n := n - 1) (by omega) (by omega) fun j y v e1 e2 => h (j + 1) y v e1 e2)
theorem kv_at {κ : Type} : ∀ {kvs : List (κ × V)} {vs : List (κ × Value)}, KV kvs vs → ∀ {j : Nat} {x : κ × V} {k : κ} {u : Value}, kvs[j]? = some x → vs[j]? = some (k, u) → RelV x.2 u
  | _, _, .cons h t, 0, x, k, u, e1, e2 => by
    cases Option.some.inj e1
    cases Option.some.inj e2
    exact h.2
  | _, _, .cons h t, j + 1, x, k, u, e1, e2 => kv_at (j := j) t e1 e2
section
variable {X : Cx} {e : Expr} {te : TE} {p apos cpos pos : Pos}
theorem pe_lvals (hc : X.calm = true) (he : PE X e te) (hg : Gl X "list") (hm : X.mg "list" = none) (hv : bootBuiltins "list" = some (.type "list"))
    (hbase : attributeBase e "values" X.env (eval e X.env) = eval e X.env := by rfl)
    (hline : (apos.endLine == cpos.line) = true := by rfl)
    (hs : starEach [.Call (.Attribute e "values" apos) [] [] cpos] X.env = (false, eval (.Call (.Attribute e "values" apos) [] [] cpos) X.env) :: starEach [] X.env := by rfl) :
    PE X (.Call (.Name "list" p) [.Call (.Attribute e "values" apos) [] [] cpos] [] pos) (tLVals te) := by
  refine ⟨fun pins s σ H Q I want => ?_⟩
  refine wpAny_Call_Name_kw (ld_blt I hg hm hv (PyProof.Rows.callWith_type1 ?_ hs rfl))
  rw [hs]
  show wpAny _ _ (spliced ((false, eval (.Call (.Attribute e "values" apos) [] [] cpos) X.env) :: backTo pos (starEach [] X.env))) _ _ s
  refine Calls.spliced_cons (wpAny_Call_method (T := "dict") (id := "dict.values") hbase rfl hline F.plainAttrs_dict F.slot_dict_values F.type_dict_values ?_)
  refine thn (he.run pins s σ H _ I want) fun u s1 ⟨x, H1, I1, rx, d, kvs, ex, hd, q⟩ => ?_
  subst ex
  have eu : u = Value.ref d := rx
  subst eu
  obtain ⟨hz, hs0, vs, kv, hdo⟩ := I1.hok d _ hd
  obtain ⟨ep, hat⟩ := hdo.dictAt
  have lk := kv.length
  refine ⟨hdo.typeIs, hdo.mapOf.noDict, ?_⟩
  show wpAny _ _ (callWith cpos (.builtin "dict.values") [.ref d] [] []) _ X.xe s1
  have mv := meets_dict_values (mixKind X.prog X.w) d hs0
  refine method_meetsIn F.slot_dict_values F.entry_dict_values rfl (PySem.evalArgs_none ⟨rfl, hdo.typeIs, F.args_dict_values_1 _, _, mv, ⟨vs, hdo⟩, Calls.spliced_nil ?_⟩)
  have src := PySem.W.kdl_values (prog := X.prog) (w := X.w) (knd := mixKind X.prog X.w) (d := d) (r := s1.heap.objs.size) (kvs := vs) (ep := ep)
  refine PySem.W.kdl_call src (I1.ok.hd hc) ⟨⟨_, Heap.get?_push_size _ rfl, rfl, rfl⟩, hat.push _⟩ (by omega) fun h' tk acc c hk hS hacc => ?_
  have I2 : Inv X pins σ H1 { s1 with heap := s1.heap.push { cls := .type "dict_values", data := .fields #[.ref d] } } := I1.kept (t' := s1.toks) fun b ob z => Heap.get?_push_of_some _ z
  refine ⟨.ref _, _, I2.laid (t' := tk) (o := .lst (kvs.map (·.2))) hk (Nat.le_refl _) ?_, rfl, q _ (I2.hok.fresh (Nat.le_refl _))⟩
  have al : acc.toList.length = vs.length := by rw [Array.length_toList]; exact hacc.1
  refine ⟨by rw [List.length_map]; omega, acc.toList, c, vals_by (n := vs.length) (by rw [List.length_map]; omega) al fun j y u e1 e2 => ?_, ?_⟩
  · rw [List.getElem?_map] at e1
    obtain ⟨k, hk2⟩ := hacc.2 j u (by rw [← Array.getElem?_toList]; exact e2)
    cases e3 : kvs[j]? with
    | none =>
      rw [e3] at e1
      cases e1
    | some z =>
      rw [e3] at e1
      cases Option.some.inj e1
      exact kv_at kv e3 hk2
  · rw [Array.toArray_toList]
    exact hS
end
end CC
set_option Elab.async false
set_option maxRecDepth 100000
namespace CC
open PySem L2
set_option linter.unusedVariables false
theorem not_dec {p : Prop} [Decidable p] (h : p) : (!decide p) = false := by
  rw [decide_eq_true h]
  rfl
def NameOk (c : Str) : Prop := c.length ≤ 8 ∧ Txt.isascii c = true ∧ Txt.isalpha c = true ∧ Txt.islower c = true
def spIsName : Sp := fun vs H Q _ => ∃ (c : Str), vs = [.str c] ∧ NameOk c ∧ Q (.bl true) H
def spAreCases : Sp := fun vs H Q _ => ∃ (d : Addr) (cs : List (Int × Nat)) (n : Nat), vs = [.ref d, .int (n : Nat)] ∧ H d = some (.dK (kvOf cs)) ∧ (∀ kv ∈ cs, 0 ≤ kv.1 ∧ kv.2 < n) ∧ cs.length ≤ 10 ∧ ∀ H', Same H H' → Q (.bl true) H'
def spIsRow : Sp := fun vs H Q _ => ∃ (a : Addr) (r : Row) (n : Nat) (cells : List Str), vs = [.ref a, .int (n : Nat)] ∧ RowAt H r a ∧ r.ok n cells ∧ (∀ c ∈ cells, NameOk c) ∧ ∀ H', Same H H' → Q (.bl true) H'
section
variable {P : Program} {w : World} {K : PySem.W.Frag} {mg : Str → Option Value} {base : Heap}
theorem scIsName : FnScope ["value"] ["value"] (defScope sIsName) := ⟨rfl, rfl, rfl, by decide +kernel, rfl, by decide +kernel, by decide +kernel⟩
theorem ok_isname {f : Addr} {fd : FuncData} (F : Fun K "is_name" "is_name" sIsName f fd) (ti : mg "isinstance" = none) (ts : mg "str" = none) (tl : mg "len" = none) :
    FnOk P w K mg base CX0 1 f fd ["value"] spIsName := by
  refine F.ok scIsName (fun vs H Q E h => ?_) (fun cdv A outer s H vs Q E hr h => ?_)
  · obtain ⟨c, rfl, _⟩ := h
    rfl
  · obtain ⟨c, rfl, ⟨n1, n2, n3, n4⟩, k⟩ := h
    refine ⟨_, pss_cons (ps_if (PW.pt (pw_or (pt_not (pt_val (pe_callB call_isi (by rfl) ti (by decide +kernel) (pa_cons (pv 0) (pa_cons (pe_bltn (v := .ty "str") (by rfl) ts (by decide +kernel) rfl) pa_nil))))) (pw_or1 (pt_cmpR op_gt (pe_callB call_len_str (by rfl) tl PySem.boot_len (pa_cons (pv 0) pa_nil)) pe_int (nomark _))))) (pss_one (ps_ret pe_bl)) pss_nil)
      (pss_one (ps_ret (pe_and (pe_m0 PySem.F.slot_str_isascii PySem.F.type_str_isascii mt_isascii (pv 0)) (pe_and (pe_m0 PySem.F.slot_str_isalpha PySem.F.type_str_isalpha mt_isalpha (pv 0)) (pe_one (pe_m0 PySem.F.slot_str_islower PySem.F.type_str_islower mt_islower (pv 0))))))), ?_⟩
    refine ⟨_, rfl, _, _, _, _, true, rfl, .ty _, .base (.str c), kit_ty (by decide +kernel), true, rfl, iteF ?_⟩
    refine ⟨_, rfl, c, rfl, Nat.le_of_lt (small (by omega)), _, _, rfl, rfl, _, rfl, ite_no (decide_eq_false (by omega)) ?_⟩
    refine ⟨_, rfl, ⟨_, rfl⟩, c, rfl, rfl, trivial, _, rfl, ite_yes n2 ?_⟩
    refine ⟨_, rfl, ⟨_, rfl⟩, c, rfl, rfl, trivial, _, rfl, ite_yes n3 ?_⟩
    refine ⟨_, rfl, ⟨_, rfl⟩, c, rfl, rfl, trivial, ?_⟩
    rw [n4]
    exact k
theorem scAreCases : FnScope ["value", "many", "worth", "number"] ["value", "many"] (defScope sAreCases) := ⟨rfl, rfl, rfl, by decide +kernel, rfl, by decide +kernel, by decide +kernel⟩
theorem ok_arecases {f fW fN : Addr} {fd fdW fdN : FuncData} (F : Fun K "are_cases" "are_cases" sAreCases f fd) (GW : FnOk P w K mg base CX0 1 fW fdW ["value"] spIsWhole) (mW : mg "is_whole" = some (.ref fW)) (kW : PySem.W.keepIn K (.ref fW) = true) (bW : Binds K fdW ["value"] [])
    (GN : FnOk P w K mg base CX0 2 fN fdN ["value", "many"] spIsNumber) (mN : mg "is_number" = some (.ref fN)) (kN : PySem.W.keepIn K (.ref fN) = true) (bN : Binds K fdN ["value", "many"] []) (ti : mg "isinstance" = none) (td : mg "dict" = none) (ta : mg "all" = none) :
    FnOk P w K mg base CX0 3 f fd ["value", "many"] spAreCases := by
  refine F.ok scAreCases (fun vs H Q E h => ?_) (fun cdv A outer s H vs Q E hr h => ?_)
  · obtain ⟨d, cs, n, rfl, _⟩ := h
    rfl
  · obtain ⟨d, cs, n, rfl, hd, ok, c10, k⟩ := h
    have hr1 : Room 1 _ := hr.mono (by decide)
    refine ⟨_, pss_cons (ps_if (pt_not (pt_val (pe_callB call_isi (by rfl) ti (by decide +kernel) (pa_cons (pv 0) (pa_cons (pe_bltn (v := .ty "dict") (by rfl) td (by decide +kernel) rfl) pa_nil))))) (pss_one (ps_ret pe_bl)) pss_nil)
      (pss_one (ps_ret (pe_callB (cr_all rfl) (by rfl) ta (by decide +kernel) (pa_cons (pe_lock (pe_lc (own := [("worth", 2), ("number", 3)]) (g := gTup K 2 (gCons (gName 2) (gCons (gName 3) gNil))) (by rfl) scAreCases.nd (pi_items (pv 0)) (blkOk_by (own := [("worth", 2), ("number", 3)]) (N := ["value", "many", "worth", "number"]) (sc := defScope sAreCases) (by decide +kernel))
        (fun _ _ _ _ _ => pg_tup (by rfl) (pgs_cons (pg_name (i := 2) scAreCases.nd rfl (Or.inl rfl)) (pgs_cons (pg_name (i := 3) scAreCases.nd rfl (Or.inl rfl)) pgs_nil))) (fun _ _ _ _ _ => pts_nil)
        (fun _ _ _ _ _ => pe_and (pe_call GW hr1 rfl mW kW bW .nil pass0 (pa_cons (pv 2) pa_nil)) (pe_one (pe_call GN hr rfl mN kN bN .nil pass0 (pa_cons (pv 3) (pa_cons (pv 1) pa_nil))))))) pa_nil)))), ?_⟩
    refine ⟨_, rfl, _, _, _, _, true, rfl, .ty _, .base (.dK hd), kit_ty (by decide +kernel), true, rfl, iteF ?_⟩
    refine ⟨d, _, hd, trivial, fun od => ?_⟩
    have dL : (upd H d (.frz od (.dK (kvOf cs)))) d = some (.frz od (.dK (kvOf cs))) := upd_same
    have oL : ∀ b o, H b = some o → b ≠ d → (upd H d (.frz od (.dK (kvOf cs)))) b = some o := fun b o e n => by
      rw [upd_ne n]
      exact e
    revert dL oL
    generalize (upd H d (.frz od (.dK (kvOf cs)))) = HL
    intro dL oL
    refine ⟨_, rfl, d, od, _, rfl, dL, fun D hD => ?_⟩
    refine lc_it (walk_items (d := d) (o := od) (kvs := kvOf cs)) (fun i H => H D = some (.lst ((List.replicate i true).map V.bl)) ∧ Same HL H) ⟨upd_same, same_new hD⟩ (fun i H _ ⟨_, e⟩ => e _ _ dL) ?_ ?_
    · rintro i x0 Ha Hb hi ⟨hDa, sa⟩ ⟨T, kx, vx, rfl, hT, rfl, e1, e2⟩
      obtain ⟨kv, hkv, rfl, rfl⟩ : ∃ kv, cs[i]? = some kv ∧ kx = V.int kv.1 ∧ vx = V.int (kv.2 : Nat) := by
        dsimp only at e1 e2
        unfold kvOf at e1 e2
        rw [List.getElem?_map] at e1 e2
        cases e : cs[i]? with
        | none =>
          rw [e] at e1
          cases e1
        | some z =>
          rw [e] at e1 e2
          cases e1
          cases e2
          exact ⟨z, rfl, rfl, rfl⟩
      obtain ⟨q0, q1⟩ := ok kv (List.mem_of_getElem? hkv)
      have il := (List.getElem?_eq_some_iff.mp hkv).1
      have nDT : D ≠ T := ne_of_none hDa hT
      refine ⟨T, _, rfl, SqT.of upd_same, rfl, _, _, rfl, _, _, rfl, rfl, rfl, tyes_if ?_⟩
      refine ⟨_, rfl, _, rfl, _, rfl, ite_yes (decide_eq_true q0) ?_⟩
      refine ⟨_, rfl, _, rfl, _, _, rfl, by omega, _, by rw [upd_ne nDT]; exact hDa, small (by rw [List.length_map, List.length_replicate]; omega), ?_, same_put (same_tr sa (same_new hT)) hD⟩
      rw [upd_same, decide_eq_true (show ((kv.2 : Nat) : Int) < (n : Nat) by omega), List.replicate_succ', List.map_append]
      rfl
    · rintro Ha ⟨hDa, sa⟩
      refine ⟨sa _ _ dL, ?_⟩
      have sU : Same H (upd Ha d (.dK (kvOf cs))) := fun b o e => by
        by_cases n : b = d
        · subst n
          rw [hd] at e
          rw [upd_same, e]
        · rw [upd_ne n]
          exact sa _ _ (oL _ _ e n)
      have nD : D ≠ d := ne_of hDa (sa _ _ dL) (by intro z; cases z)
      refine ⟨D, _, rfl, SqL.of (by rw [upd_ne nD]; exact hDa), ?_⟩
      rw [show (List.replicate (kvOf cs).length true).all id = true by simp]
      exact k _ sU
theorem scIsRow : FnScope ["value", "many"] ["value", "many"] (defScope sIsRow) := ⟨rfl, rfl, rfl, by decide +kernel, rfl, by decide +kernel, by decide +kernel⟩
theorem ok_isrow {f fL fW fM fN fC : Addr} {fd fdL fdW fdM fdN fdC : FuncData} (F : Fun K "is_row" "is_row" sIsRow f fd) (GL : FnOk P w K mg base CX0 1 fL fdL ["value"] spIsList) (mL : mg "is_list" = some (.ref fL)) (kL : PySem.W.keepIn K (.ref fL) = true) (bL : Binds K fdL ["value"] []) (GW : FnOk P w K mg base CX0 1 fW fdW ["value"] spIsWhole) (mW : mg "is_whole" = some (.ref fW)) (kW : PySem.W.keepIn K (.ref fW) = true) (bW : Binds K fdW ["value"] []) (GM : FnOk P w K mg base CX0 1 fM fdM ["value"] spIsName) (mM : mg "is_name" = some (.ref fM)) (kM : PySem.W.keepIn K (.ref fM) = true) (bM : Binds K fdM ["value"] []) (GN : FnOk P w K mg base CX0 2 fN fdN ["value", "many"] spIsNumber) (mN : mg "is_number" = some (.ref fN)) (kN : PySem.W.keepIn K (.ref fN) = true) (bN : Binds K fdN ["value", "many"] []) (GC : FnOk P w K mg base CX0 3 fC fdC ["value", "many"] spAreCases) (mC : mg "are_cases" = some (.ref fC)) (kC : PySem.W.keepIn K (.ref fC) = true) (bC : Binds K fdC ["value", "many"] []) (ti : mg "isinstance" = none) (ts : mg "str" = none) (tl : mg "len" = none) :
    FnOk P w K mg base CX0 4 f fd ["value", "many"] spIsRow := by
  refine F.ok scIsRow (fun vs H Q E h => ?_) (fun cdv A outer s H vs Q E hr h => ?_)
  · obtain ⟨a, r, n, cells, rfl, _⟩ := h
    rfl
  · obtain ⟨a, r, n, cells, rfl, hra, rok, nok, k⟩ := h
    have hr1 : Room 1 _ := hr.mono (by decide)
    have hr2 : Room 2 _ := hr.mono (by decide)
    refine ⟨_, pss_cons (ps_if (PW.pt (pw_or (pt_not (pt_val (pe_call GL hr1 rfl mL kL bL .nil pass0 (pa_cons (pv 0) pa_nil)))) (pw_or (pt_cmpR op_lt (pe_callB call_len_seq (by rfl) tl PySem.boot_len (pa_cons (pv 0) pa_nil)) pe_int (nomark _)) (pw_or1 (pt_not (pt_val (pe_callB call_isi (by rfl) ti (by decide +kernel) (pa_cons (pe_ix ix_tup (pv 0) pe_int (fun _ _ => rfl)) (pa_cons (pe_bltn (v := .ty "str") (by rfl) ts (by decide +kernel) rfl) pa_nil))))))))) (pss_one (ps_ret pe_bl)) pss_nil)
      (pss_cons (ps_if (pt_cmpR op_in_seq (pe_ix ix_tup (pv 0) pe_int (fun _ _ => rfl)) (pe_tup (pa_cons pe_str (pa_cons pe_str pa_nil))) (by rfl)) (pss_one (ps_ret (pe_and (pe_cmpR op_eq (pe_callB call_len_seq (by rfl) tl PySem.boot_len (pa_cons (pv 0) pa_nil)) pe_int (nomark _)) (pe_one (pe_call GN hr2 rfl mN kN bN .nil pass0 (pa_cons (pe_ix ix_tup (pv 0) pe_int (fun _ _ => rfl)) (pa_cons (pv 1) pa_nil))))))) pss_nil)
      (pss_cons (ps_if (PW.pt (pw_or (pt_cmpR op_ne (pe_callB call_len_seq (by rfl) tl PySem.boot_len (pa_cons (pv 0) pa_nil)) pe_int (nomark _)) (pw_or (pt_not (pt_val (pe_call GM hr1 rfl mM kM bM .nil pass0 (pa_cons (pe_ix ix_tup (pv 0) pe_int (fun _ _ => rfl)) pa_nil)))) (pw_or1 (pt_not (pt_val (pe_call GN hr2 rfl mN kN bN .nil pass0 (pa_cons (pe_ix ix_tup (pv 0) pe_int (fun _ _ => rfl)) (pa_cons (pv 1) pa_nil))))))))) (pss_one (ps_ret pe_bl)) pss_nil)
      (pss_cons (ps_if (pt_cmpR op_eq (pe_ix ix_tup (pv 0) pe_int (fun _ _ => rfl)) pe_str (nomark _)) (pss_one (ps_ret (pe_call GW hr1 rfl mW kW bW .nil pass0 (pa_cons (pe_ix ix_tup (pv 0) pe_int (fun _ _ => rfl)) pa_nil)))) pss_nil)
      (pss_one (ps_ret (pe_and (pe_cmpR op_eq (pe_ix ix_tup (pv 0) pe_int (fun _ _ => rfl)) pe_str (nomark _)) (pe_one (pe_call GC hr rfl mC kC bC .nil pass0 (pa_cons (pe_ix ix_tup (pv 0) pe_int (fun _ _ => rfl)) (pa_cons (pv 1) pa_nil)))))))))), ?_⟩
    obtain ⟨xs, hx⟩ : ∃ xs, H a = some (.tup xs) := by
      cases r with
      | rest m => exact ⟨_, hra⟩
      | ins m => exact ⟨_, hra⟩
      | wr c v m => exact ⟨_, hra⟩
      | rd c cs m =>
        obtain ⟨d, h1, _⟩ := hra
        exact ⟨_, h1⟩
    refine ⟨_, rfl, a, xs, rfl, .inr hx, fun H1 s1 => ⟨true, rfl, iteF ?_⟩⟩
    have hra1 : RowAt H1 r a := hra.mono (fun b xs x => s1 _ _ x) fun b xs x => s1 _ _ x
    cases r with
    | rest m =>
      refine ⟨_, rfl, a, _, rfl, .inr (SqT.of hra1), _, _, rfl, rfl, _, rfl, ite_no (decide_eq_false (by show ¬ ((2 : Nat) : Int) < 2; decide)) ?_⟩
      refine ⟨_, rfl, a, _, _, _, rfl, rfl, SqT.of hra1, rfl, _, _, _, _, true, rfl, .ty _, .base (.str _), kit_ty (by decide +kernel), true, rfl, iteF ?_⟩
      refine ⟨_, rfl, a, _, _, _, rfl, rfl, SqT.of hra1, rfl, (by show 2 ≤ sizeLine; decide), fun t ht => ⟨t, _, rfl, .inr (SqT.of upd_same), rfl, rfl, _, rfl, ite_yes (by decide +kernel) ?_⟩⟩
      have s2 := same_tr s1 (same_new (o := .tup [V.str "rest", V.str "inside"]) ht)
      have hra2 := hra1.new (o := .tup [V.str "rest", V.str "inside"]) ht
      refine ⟨_, rfl, a, _, rfl, .inr (SqT.of hra2), rfl, _, rfl, ite_yes (decide_eq_true rfl) ?_⟩
      refine ⟨_, rfl, a, _, _, _, rfl, rfl, SqT.of hra2, rfl, _, rfl, _, _, rfl, by omega, ?_⟩
      rw [decide_eq_true (show ((m : Nat) : Int) < (n : Nat) by have : m < n := rok; omega)]
      exact k _ s2
    | ins m =>
      refine ⟨_, rfl, a, _, rfl, .inr (SqT.of hra1), _, _, rfl, rfl, _, rfl, ite_no (decide_eq_false (by show ¬ ((2 : Nat) : Int) < 2; decide)) ?_⟩
      refine ⟨_, rfl, a, _, _, _, rfl, rfl, SqT.of hra1, rfl, _, _, _, _, true, rfl, .ty _, .base (.str _), kit_ty (by decide +kernel), true, rfl, iteF ?_⟩
      refine ⟨_, rfl, a, _, _, _, rfl, rfl, SqT.of hra1, rfl, (by show 2 ≤ sizeLine; decide), fun t ht => ⟨t, _, rfl, .inr (SqT.of upd_same), rfl, rfl, _, rfl, ite_yes (by decide +kernel) ?_⟩⟩
      have s2 := same_tr s1 (same_new (o := .tup [V.str "rest", V.str "inside"]) ht)
      have hra2 := hra1.new (o := .tup [V.str "rest", V.str "inside"]) ht
      refine ⟨_, rfl, a, _, rfl, .inr (SqT.of hra2), rfl, _, rfl, ite_yes (decide_eq_true rfl) ?_⟩
      refine ⟨_, rfl, a, _, _, _, rfl, rfl, SqT.of hra2, rfl, _, rfl, _, _, rfl, by omega, ?_⟩
      rw [decide_eq_true (show ((m : Nat) : Int) < (n : Nat) by have : m < n := rok; omega)]
      exact k _ s2
    | wr c v m =>
      refine ⟨_, rfl, a, _, rfl, .inr (SqT.of hra1), _, _, rfl, rfl, _, rfl, ite_no (decide_eq_false (by show ¬ ((4 : Nat) : Int) < 2; decide)) ?_⟩
      refine ⟨_, rfl, a, _, _, _, rfl, rfl, SqT.of hra1, rfl, _, _, _, _, true, rfl, .ty _, .base (.str _), kit_ty (by decide +kernel), true, rfl, iteF ?_⟩
      refine ⟨_, rfl, a, _, _, _, rfl, rfl, SqT.of hra1, rfl, (by show 2 ≤ sizeLine; decide), fun t ht => ⟨t, _, rfl, .inr (SqT.of upd_same), rfl, rfl, _, rfl, ite_no (by decide +kernel) ?_⟩⟩
      have s2 := same_tr s1 (same_new (o := .tup [V.str "rest", V.str "inside"]) ht)
      have hra2 := hra1.new (o := .tup [V.str "rest", V.str "inside"]) ht
      refine ⟨_, rfl, a, _, rfl, .inr (SqT.of hra2), rfl, _, rfl, ite_no (not_dec rfl) ?_⟩
      refine ⟨_, rfl, a, _, _, _, rfl, rfl, SqT.of hra2, rfl, c, rfl, nok c rok.1, true, rfl, iteF ?_⟩
      refine ⟨_, rfl, a, _, _, _, rfl, rfl, SqT.of hra2, rfl, _, rfl, _, _, rfl, by omega, _, rfl, ite_no (by rw [decide_eq_true (show ((m : Nat) : Int) < (n : Nat) by have : m < n := rok.2.2; omega)]; rfl) ?_⟩
      refine ⟨_, rfl, a, _, _, _, rfl, rfl, SqT.of hra2, rfl, rfl, _, rfl, ite_yes (decide_eq_true rfl) ?_⟩
      refine ⟨_, rfl, a, _, _, _, rfl, rfl, SqT.of hra2, rfl, _, rfl, ?_⟩
      rw [decide_eq_true (show v ≥ 0 from rok.2.1)]
      exact k _ s2
    | rd c cs m =>
      obtain ⟨d, h1, h2⟩ := hra1
      refine ⟨_, rfl, a, _, rfl, .inr (SqT.of h1), _, _, rfl, rfl, _, rfl, ite_no (decide_eq_false (by show ¬ ((4 : Nat) : Int) < 2; decide)) ?_⟩
      refine ⟨_, rfl, a, _, _, _, rfl, rfl, SqT.of h1, rfl, _, _, _, _, true, rfl, .ty _, .base (.str _), kit_ty (by decide +kernel), true, rfl, iteF ?_⟩
      refine ⟨_, rfl, a, _, _, _, rfl, rfl, SqT.of h1, rfl, (by show 2 ≤ sizeLine; decide), fun t ht => ⟨t, _, rfl, .inr (SqT.of upd_same), rfl, rfl, _, rfl, ite_no (by decide +kernel) ?_⟩⟩
      have s2 := same_tr s1 (same_new (o := .tup [V.str "rest", V.str "inside"]) ht)
      have h3 : (upd H1 t (.tup [V.str "rest", V.str "inside"])) a = some (.tup [V.str "read", V.str c, V.ref d, V.int (m : Nat)]) := by
        rw [upd_ne (ne_of_none h1 ht)]
        exact h1
      have h4 : (upd H1 t (.tup [V.str "rest", V.str "inside"])) d = some (.dK (kvOf cs)) := by
        rw [upd_ne (ne_of_none h2 ht)]
        exact h2
      refine ⟨_, rfl, a, _, rfl, .inr (SqT.of h3), rfl, _, rfl, ite_no (not_dec rfl) ?_⟩
      refine ⟨_, rfl, a, _, _, _, rfl, rfl, SqT.of h3, rfl, c, rfl, nok c rok.1, true, rfl, iteF ?_⟩
      refine ⟨_, rfl, a, _, _, _, rfl, rfl, SqT.of h3, rfl, _, rfl, _, _, rfl, by omega, _, rfl, ite_no (by rw [decide_eq_true (show ((m : Nat) : Int) < (n : Nat) by have : m < n := rok.2.2.2.1; omega)]; rfl) ?_⟩
      refine ⟨_, rfl, a, _, _, _, rfl, rfl, SqT.of h3, rfl, rfl, _, rfl, ite_no (decide_eq_false (by intro z; cases z)) ?_⟩
      refine ⟨_, rfl, a, _, _, _, rfl, rfl, SqT.of h3, rfl, rfl, _, rfl, ite_yes (decide_eq_true rfl) ?_⟩
      exact ⟨_, rfl, a, _, _, _, rfl, rfl, SqT.of h3, rfl, _, rfl, d, cs, n, rfl, h4, rok.2.2.1, rok.2.2.2.2, fun H3 s3 => k _ (same_tr s2 s3)⟩
end
end CC
set_option Elab.async false
set_option maxRecDepth 100000
namespace CC
open PySem L2
set_option linter.unusedVariables false
theorem dcit {J : It} {n : Nat} {G : Hp → Prop} {Y : Nat → Hp → V → Hp → Prop} (wk : Walk J n G Y) {g : TG} {tt : TT} {tk tv : TE} {vs : List Nat} {σ : L2.St} {H1 : Hp} {D : Addr} {Qd : Hp → Prop}
    (Pv : Nat → Hp → Prop) (start : Pv 0 (upd H1 D (.dK []))) (stands : ∀ i H, i ≤ n → Pv i H → G H)
    (turn : ∀ i x H H', i < n → Pv i H → Y i H x H' → g x (wipe σ vs) H' fun σ2 H2 => wipe σ2 vs = wipe σ vs ∧ tt σ2 H2 fun b H3 =>
      if b = true then tk σ2 H3 fun y H4 => tv σ2 H4 fun z H5 => ∃ kvs k, y = kV k ∧ H5 D = some (.dK kvs) ∧ kvs.length < sizeLine ∧ Pv (i + 1) (upd H5 D (.dK (putK kvs k z))) else Pv (i + 1) H3) (fine : ∀ H, Pv n H → Qd H) :
    ∃ W : Nat → Nat → Hp → Prop, (∃ m, W 0 m (upd H1 D (.dK []))) ∧ ∀ i m H, W i m H →
      (J.stop i H ∧ Qd H) ∨ (J.go i H ∧ ∃ Nx : Hp → Prop, (∀ H', Nx H' → ∃ m', m' < m ∧ W (i + 1) m' H') ∧ ∀ x H', J.yld i H x H' → g x (wipe σ vs) H' fun σ2 H2 => wipe σ2 vs = wipe σ vs ∧ tt σ2 H2 fun b H3 =>
        if b = true then tk σ2 H3 fun y H4 => tv σ2 H4 fun z H5 => ∃ kvs k, y = kV k ∧ H5 D = some (.dK kvs) ∧ kvs.length < sizeLine ∧ Nx (upd H5 D (.dK (putK kvs k z))) else Nx H3) := by
  refine ⟨fun i m H => m = n - i ∧ i ≤ n ∧ Pv i H, ⟨n, rfl, Nat.zero_le _, start⟩, fun i m H ⟨em, hi, hP⟩ => ?_⟩
  have hG := stands i H hi hP
  by_cases lt : i < n
  · exact .inr ⟨wk.goes i H lt hG, Pv (i + 1), fun H' z => ⟨n - (i + 1), by omega, rfl, lt, z⟩, fun x H' y => turn i x H H' lt hP (wk.yields i H x H' lt hG y)⟩
  · obtain rfl : i = n := by omega
    exact .inl ⟨wk.stops H hG, fine H hP⟩
def Row.fol : Row → List Nat
  | .rest m => [m]
  | .ins m => [m]
  | .wr _ _ m => [m]
  | .rd _ cs m => cs.map (·.2) ++ [m]
/-- the same row but for the order of its cases -/
def RSim : Row → Row → Prop
  | .rest m, .rest m' => m = m'
  | .ins m, .ins m' => m = m'
  | .wr c v m, .wr c' v' m' => c = c' ∧ v = v' ∧ m = m'
  | .rd c cs m, .rd c' cs' m' => c = c' ∧ cs.Perm cs' ∧ m = m'
  | _, _ => False
def look (cs : List (Int × Nat)) (k : Int) : Nat := ((cs.find? fun kv => decide (kv.1 = k)).map (·.2)).getD 0
theorem look_mem {k : Int} : ∀ {cs : List (Int × Nat)}, k ∈ cs.map (·.1) → (k, look cs k) ∈ cs
  | p :: r, h => by
    by_cases e : p.1 = k
    · have : look (p :: r) k = p.2 := by
        unfold look
        rw [List.find?_cons, decide_eq_true e]
        rfl
      rw [this, ← e]
      exact List.mem_cons_self ..
    · have : look (p :: r) k = look r k := by
        unfold look
        rw [List.find?_cons, decide_eq_false e]
      rw [this]
      refine List.mem_cons_of_mem _ (look_mem ?_)
      cases h with
      | head => exact absurd rfl e
      | tail _ h => exact h
theorem nodup_val {k : Int} {a b : Nat} : ∀ {cs : List (Int × Nat)}, (cs.map (·.1)).Nodup → (k, a) ∈ cs → (k, b) ∈ cs → a = b := fun nd h1 h2 => by
  have e1 := valV_mem nd h1
  rw [valV_mem nd h2] at e1
  injection e1 with e1
  injection e1 with e1
  omega
theorem look_perm {cs : List (Int × Nat)} {ys : List Int} (nd : (cs.map (·.1)).Nodup) (h : ys.Perm (cs.map (·.1))) : cs.Perm (ys.map fun k => (k, look cs k)) := by
  have e : (cs.map (·.1)).map (fun k => (k, look cs k)) = cs := by
    rw [List.map_map]
    refine Eq.trans (List.map_congr_left fun kv hkv => ?_) (List.map_id cs)
    show (kv.1, look cs kv.1) = kv
    rw [nodup_val nd (look_mem (List.mem_map.mpr ⟨kv, hkv, rfl⟩)) (show (kv.1, kv.2) ∈ cs from hkv)]
  have p := h.map (fun k => (k, look cs k))
  rw [e] at p
  exact p.symm
def spCopied : Sp := fun vs H Q _ => ∃ (a : Addr) (r : Row) (n : Nat), vs = [.ref a] ∧ RowAt H r a ∧ r.low n ∧ ∀ (b : Addr) (r' : Row) (H' : Hp), Same H H' → RowAt H' r' b → RSim r r' → Q (.ref b) H'
def spFollowers : Sp := fun vs H Q _ => ∃ (a : Addr) (r : Row) (n : Nat), vs = [.ref a] ∧ RowAt H r a ∧ r.low n ∧ ∀ (b : Addr) (H' : Hp), Same H H' → H b = none → H' b = some (.lst (r.fol.map fun (m : Nat) => V.int (m : Nat))) → Q (.ref b) H'
section
variable {P : Program} {w : World} {K : PySem.W.Frag} {mg : Str → Option Value} {base : Heap}
theorem scCopied : FnScope ["row", "cases", "worth"] ["row"] (defScope sCopied) := ⟨rfl, rfl, rfl, by decide +kernel, rfl, by decide +kernel, by decide +kernel⟩
theorem ok_copied {f : Addr} {fd : FuncData} (F : Fun K "copied" "copied" sCopied f fd) (tt : mg "tuple" = none) (ts : mg "sorted" = none) :
    FnOk P w K mg base CX0 1 f fd ["row"] spCopied := by
  refine F.ok scCopied (fun vs H Q E h => ?_) (fun cdv A outer s H vs Q E hr h => ?_)
  · obtain ⟨a, r, n, rfl, _⟩ := h
    rfl
  · obtain ⟨a, r, n, rfl, hra, low, k⟩ := h
    have hu := hu_of hr
    refine ⟨_, pss_cons (ps_if (pt_cmpR op_eq (pe_ix ix_tup (pv 0) pe_int (fun _ _ => rfl)) pe_str (nomark _))
      (pss_cons (ps_set (i := 1) scCopied.nd rfl (Or.inr rfl) (pe_ix ix_tup (pv 0) pe_int (fun _ _ => rfl)))
      (pss_one (ps_ret (pe_tup (pa_cons pe_str (pa_cons (pe_ix ix_tup (pv 0) pe_int (fun _ _ => rfl)) (pa_cons
        (pe_dc (own := [("worth", 2)]) (g := gName 2) (by rfl) scCopied.nd (pi_list (pe_callB (call_sortedDI rfl) (by rfl) ts (by decide +kernel) (pa_cons (pv 1) pa_nil))) (blkOk_by (own := [("worth", 2)]) (N := ["row", "cases", "worth"]) (sc := defScope sCopied) (by decide +kernel)) (fun _ _ _ _ _ => pg_name (i := 2) scCopied.nd rfl (Or.inl rfl)) (fun _ _ _ _ _ => pts_nil) (fun _ _ _ _ _ => pv 2) (fun _ _ _ _ _ => pe_dget hu (pv 1) (pv 2) (fun _ _ => rfl)))
        (pa_cons (pe_ix ix_tup (pv 0) pe_int (fun _ _ => rfl)) pa_nil)))))))) pss_nil)
      (pss_one (ps_ret (pe_callTy call_tupleT (by rfl) tt (by decide +kernel) (pa_cons (pv 0) pa_nil)))), ?_⟩
    cases r with
    | rest m =>
      refine ⟨_, rfl, a, _, _, _, rfl, rfl, SqT.of hra, rfl, rfl, _, rfl, ite_no (decide_eq_false (by intro z; cases z)) ?_⟩
      exact ⟨_, rfl, a, _, rfl, SqT.of hra, k a (.rest m) H (fun _ _ e => e) hra rfl⟩
    | ins m =>
      refine ⟨_, rfl, a, _, _, _, rfl, rfl, SqT.of hra, rfl, rfl, _, rfl, ite_no (decide_eq_false (by intro z; cases z)) ?_⟩
      exact ⟨_, rfl, a, _, rfl, SqT.of hra, k a (.ins m) H (fun _ _ e => e) hra rfl⟩
    | wr c v m =>
      refine ⟨_, rfl, a, _, _, _, rfl, rfl, SqT.of hra, rfl, rfl, _, rfl, ite_no (decide_eq_false (by intro z; cases z)) ?_⟩
      exact ⟨_, rfl, a, _, rfl, SqT.of hra, k a (.wr c v m) H (fun _ _ e => e) hra ⟨rfl, rfl, rfl⟩⟩
    | rd c cs m =>
      obtain ⟨d, h1, h2⟩ := hra
      refine ⟨_, rfl, a, _, _, _, rfl, rfl, SqT.of h1, rfl, rfl, _, rfl, ite_yes (decide_eq_true rfl) ?_⟩
      refine ⟨_, rfl, a, _, _, _, rfl, rfl, SqT.of h1, rfl, ?_⟩
      obtain ⟨ndk, lowk, mn, c10⟩ := low
      refine ⟨_, rfl, a, _, _, _, rfl, rfl, SqT.of h1, rfl, ?_⟩
      refine ⟨_, rfl, d, kvOf cs, cs.map (·.1), rfl, .inl h2, by unfold kvOf; rw [List.map_map, List.map_map]; rfl, by rw [List.length_map]; omega, fun ys q perm srt hq => ?_⟩
      have yl : ys.length = cs.length := by rw [perm.length_eq, List.length_map]
      have ynd : ys.Nodup := perm.nodup_iff.mpr ndk
      have s1 : Same H (upd H q (.lst (ys.map V.int))) := same_new hq
      have q1 : (upd H q (.lst (ys.map V.int))) q = some (.lst (ys.map V.int)) := upd_same
      revert s1 q1
      generalize (upd H q (.lst (ys.map V.int))) = H1
      intro s1 q1
      refine ⟨q, rfl, ⟨_, SqL.of q1⟩, fun D hD => ?_⟩
      refine dcit (walk_list (K := K) (a := q) (xs := ys.map V.int)) (fun i H2 => H2 D = some (.dK (kvOf ((ys.take i).map fun k => (k, look cs k)))) ∧ Same H1 H2) ⟨upd_same, same_new hD⟩ (fun i H2 _ e => SqL.of (e.2 _ _ q1)) ?_ ?_
      · rintro i x Ha Hb hi ⟨hDa, sa⟩ ⟨rfl, hx⟩
        rw [List.getElem?_map] at hx
        obtain ⟨z, hz, rfl⟩ : ∃ z, ys[i]? = some z ∧ x = V.int z := by
          cases e : ys[i]? with
          | none =>
            rw [e] at hx
            cases hx
          | some z =>
            rw [e] at hx
            exact ⟨z, rfl, (Option.some.inj hx).symm⟩
        have zin : z ∈ cs.map (·.1) := perm.mem_iff.mp (List.mem_of_getElem? hz)
        have tk : ys.take (i + 1) = ys.take i ++ [z] := by rw [List.take_add_one, hz]; rfl
        have zn : z ∉ ys.take i := fun m => by
          have nd2 : (ys.take (i + 1)).Nodup := ynd.sublist (List.take_sublist _ _)
          rw [tk, List.nodup_append] at nd2
          exact nd2.2.2 z m z (List.mem_cons_self ..) rfl
        refine ⟨rfl, tyes_if ?_⟩
        refine ⟨_, rfl, _, rfl, _, rfl, d, V.int (look cs z : Nat), rfl, ?_, _, Sum.inl z, rfl, hDa, ?_, ?_, same_put sa hD⟩
        · rw [← valV_mem ndk (look_mem zin)]
          exact DGet.k (k := Sum.inl z) (sa _ _ (s1 _ _ h2))
        · refine small ?_
          unfold kvOf
          rw [List.length_map, List.length_map, List.length_take]
          omega
        · rw [upd_same, putK_new _ (valV_kv (by rw [List.map_map]; intro m; obtain ⟨j, hj, e⟩ := List.mem_map.mp m; exact zn (by have e' : j = z := e; rw [← e']; exact hj))), tk]
          unfold kvOf
          rw [List.map_append, List.map_append]
          rfl
      · rintro Ha ⟨hDa, sa⟩
        rw [List.length_map, List.take_length] at hDa
        have a1 := sa _ _ (s1 _ _ h1)
        refine ⟨_, rfl, a, _, _, _, rfl, rfl, SqT.of a1, rfl, (by show 4 ≤ sizeLine; decide), fun b hb => ?_⟩
        exact k b (.rd c (ys.map fun k => (k, look cs k)) m) _ (same_tr (same_tr s1 sa) (same_new hb)) ⟨D, upd_same, by rw [upd_ne (ne_of_none hDa hb)]; exact hDa⟩ ⟨rfl, look_perm ndk perm, rfl⟩
theorem scFollowers : FnScope ["row"] ["row"] (defScope sFollowers) := ⟨rfl, rfl, rfl, by decide +kernel, rfl, by decide +kernel, by decide +kernel⟩
theorem ok_followers {f : Addr} {fd : FuncData} (F : Fun K "followers" "followers" sFollowers f fd) (tl : mg "list" = none) :
    FnOk P w K mg base CX0 1 f fd ["row"] spFollowers := by
  refine F.ok scFollowers (fun vs H Q E h => ?_) (fun cdv A outer s H vs Q E hr h => ?_)
  · obtain ⟨a, r, n, rfl, _⟩ := h
    rfl
  · obtain ⟨a, r, n, rfl, hra, low, k⟩ := h
    refine ⟨_, pss_cons (ps_if (pt_cmpR op_eq (pe_ix ix_tup (pv 0) pe_int (fun _ _ => rfl)) pe_str (nomark _))
      (pss_one (ps_ret (pe_op op_cat (pe_lvals rfl (pe_ix ix_tup (pv 0) pe_int (fun _ _ => rfl)) (by rfl) tl (by decide +kernel)) (pe_lst (pa_cons (pe_ix ix_tup (pv 0) pe_int (fun _ _ => rfl)) pa_nil))))) pss_nil)
      (pss_one (ps_ret (pe_lst (pa_cons (pe_ix ix_tup (pv 0) (pe_un un_neg pe_int) (fun _ _ => rfl)) pa_nil)))), ?_⟩
    cases r with
    | rest m =>
      refine ⟨_, rfl, a, _, _, _, rfl, rfl, SqT.of hra, rfl, rfl, _, rfl, ite_no (decide_eq_false (by intro z; cases z)) ?_⟩
      exact ⟨_, rfl, _, rfl, a, _, _, _, rfl, rfl, SqT.of hra, rfl, (by show 1 ≤ sizeLine; decide), fun b hb => k b _ (same_new hb) hb upd_same⟩
    | ins m =>
      refine ⟨_, rfl, a, _, _, _, rfl, rfl, SqT.of hra, rfl, rfl, _, rfl, ite_no (decide_eq_false (by intro z; cases z)) ?_⟩
      exact ⟨_, rfl, _, rfl, a, _, _, _, rfl, rfl, SqT.of hra, rfl, (by show 1 ≤ sizeLine; decide), fun b hb => k b _ (same_new hb) hb upd_same⟩
    | wr c v m =>
      refine ⟨_, rfl, a, _, _, _, rfl, rfl, SqT.of hra, rfl, rfl, _, rfl, ite_no (decide_eq_false (by intro z; cases z)) ?_⟩
      exact ⟨_, rfl, _, rfl, a, _, _, _, rfl, rfl, SqT.of hra, rfl, (by show 1 ≤ sizeLine; decide), fun b hb => k b _ (same_new hb) hb upd_same⟩
    | rd c cs m =>
      obtain ⟨d, h1, h2⟩ := hra
      refine ⟨_, rfl, a, _, _, _, rfl, rfl, SqT.of h1, rfl, rfl, _, rfl, ite_yes (decide_eq_true rfl) ?_⟩
      refine ⟨_, rfl, a, _, _, _, rfl, rfl, SqT.of h1, rfl, d, _, rfl, h2, fun q hq => ?_⟩
      have a1 := same_new (o := .lst ((kvOf cs).map (·.2))) hq _ _ h1
      refine ⟨_, rfl, a, _, _, _, rfl, rfl, SqT.of a1, rfl, (by show 1 ≤ sizeLine; decide), fun b hb => ?_⟩
      refine ⟨q, b, _, _, rfl, rfl, by rw [upd_ne (ne_of_none upd_same hb)]; exact upd_same, upd_same, ?_, fun c hc => ?_⟩
      · unfold kvOf
        rw [List.length_map, List.length_map]
        exact Nat.le_of_lt (small (by show cs.length + 1 < 1000000; have := low.2.2.2; omega))
      · refine k c _ (same_tr (same_tr (same_new hq) (same_new hb)) (same_new hc)) ((same_tr (same_new hq) (same_new hb)).free hc) ?_
        rw [upd_same]
        unfold kvOf Row.fol
        rw [List.map_map, List.map_append, List.map_map]
        rfl
end
end CC
set_option Elab.async false
set_option maxRecDepth 100000
/-! ### enumerate over a tuple -/
namespace CC
open PySem PySem.Spec PyProof.Rows L2
open AutoSeq1 (wpAny_loadPart')
set_option linter.unusedVariables false
abbrev tupIt (t : Addr) : Obj := { cls := .type "tuple_iterator", data := .fields #[.ref t, .int 0 0] }
abbrev enuOb (i : Addr) : Obj := { cls := .type "enumerate", data := .fields #[.none, .bool false, .ref i, rawInt 0, .none, .none] }
theorem enu_new (t : Addr) (items : Array Value) (n : Nat) (dct : Option Addr) (sl : Array (Option Value)) :
    Meets (Builtin.«enumerate.__new__» ⟨[.type "enumerate", .ref t], []⟩) (fun _ R s => s.heap.get? t = some { cls := .type "tuple", dict := dct, data := .seq items n, slots := sl } ∧
      R (.ok (.ret (.ref (s.heap.push (tupIt t)).objs.size))) { s with heap := (s.heap.push (tupIt t)).push (enuOb s.heap.objs.size) }) := by
  refine .of_wp fun prog w A R s h => ?_
  obtain ⟨hp, g, d, tk, os⟩ := s
  obtain ⟨hl, h⟩ := h
  have hsub := sub_enumerate
  have isT : Heap.IsTuple (Shared.heap ⟨hp, g, d, tk, os⟩) t items := ⟨_, hl, rfl, n, rfl⟩
  wp_walk using wpAny_loadPart' hl
  refine wpAny_stack_any fun st => wpAny_pure ?_
  split
  · rename_i c _ _ _ _ _
    cases (c == Value.type "enumerate") <;> (wp_walk using wpAny_loadPart' hl, wpAny_pyIter_tuple isT) <;> exact ⟨_, rfl, h⟩
  · wp_walk using wpAny_loadPart' hl, wpAny_pyIter_tuple isT
    exact ⟨_, rfl, h⟩
end CC
namespace CC
open PySem PySem.Spec PyProof.Rows L2
section
variable {prog : Program} {w : World} {A : Around} {E : Value → Shared → Prop} {s : Shared}
theorem enu_call {t : Addr} {items : Array Value} {Q : Value → Shared → Prop} (ht : s.heap.IsTuple t items)
    (h : ∀ h', IsEnum h' (s.heap.objs.size + 1) s.heap.objs.size 0 .none → h'.IsTupleIter s.heap.objs.size t 0 → (∀ b o, s.heap.get? b = some o → h'.get? b = some o) → Q (.ref (s.heap.objs.size + 1)) { s with heap := h' }) :
    wpAny (model prog w) A (call (.type "enumerate") [.ref t]) Q E s := by
  obtain ⟨⟨c, dct, dt, sl⟩, hl, hc, n, hd⟩ := ht
  have hc' : c = .type "tuple" := hc
  have hd' : dt = .seq items n := hd
  subst hc' hd'
  have M := enu_new t items n dct sl
  refine callType_new F.called_enumerate (by decide) (F.typeCall_enumerate_1 _) (F.newCall_enumerate_1 _) (fun obj => F.args_object_init_2 obj _) F.entry_enumerate_new M ⟨hl, ?_⟩
  have hz : (s.heap.push (tupIt t)).objs.size = s.heap.objs.size + 1 := Heap.size_push ..
  have he : IsEnum ((s.heap.push (tupIt t)).push (enuOb s.heap.objs.size)) (s.heap.objs.size + 1) s.heap.objs.size 0 .none := by
    have z := Heap.get?_push_size (s.heap.push (tupIt t)) (o := enuOb s.heap.objs.size) rfl
    rw [hz] at z
    exact z
  show _ ∧ _
  rw [hz]
  refine ⟨⟨_, he, rfl⟩, h _ he ⟨_, Heap.get?_push_of_some _ (Heap.get?_push_size _ rfl), rfl, rfl⟩ fun b o x => ?_⟩
  exact Heap.get?_push_of_some _ (Heap.get?_push_of_some _ x)
end
/-- the tuple at a, each item in a new pair with its number -/
def IteT (K : PySem.W.Frag) (a : Addr) : It :=
  ⟨fun i H => ∃ (xs : List V) (x : V), SqT K H a xs ∧ xs[i]? = some x,
   fun i H v H' => ∃ T x, v = .ref T ∧ H T = none ∧ H' = upd H T (.tup [.int (i : Nat), x]) ∧ ∀ xs, SqT K H a xs → xs[i]? = some x,
   fun i H => ∃ xs : List V, SqT K H a xs ∧ xs.length ≤ i⟩
theorem walk_enumT {K : PySem.W.Frag} {a : Addr} {xs : List V} : Walk (IteT K a) xs.length (fun H => SqT K H a xs) (YPair (fun i => some (.int (i : Nat))) (fun i => xs[i]?)) :=
  ⟨fun i _ hi q => ⟨xs, xs[i], q, by simp [hi]⟩, fun _ q => ⟨xs, q, Nat.le_refl _⟩, fun i H v H' _ q y => by
    obtain ⟨T, x, h1, h2, h3, h4⟩ := y
    exact ⟨T, .int (i : Nat), x, h1, h2, h3, rfl, h4 xs q⟩⟩
end CC
set_option Elab.async false
set_option maxRecDepth 100000
namespace CC
open PySem PySem.Spec PyProof.Rows L2
set_option linter.unusedVariables false
theorem enu_ne {h : Heap} {e it a : Addr} {i : Int} {old : Value} {items : Array Value} (he : IsEnum h e it i old) (ht : IsTup h a items) : e ≠ a := fun z => by
  obtain ⟨o, ho, hc, _⟩ := ht
  have he' : h.get? e = some _ := he
  rw [z, ho] at he'
  have q := Option.some.inj he'
  rw [q] at hc
  have hc' : (Value.type "enumerate") = Value.type "tuple" := hc
  injection hc' with hc'
  exact absurd hc' (by decide)
theorem enu_end {prog : Program} {w : World} {A : Around} {E : Value → Shared → Prop} {s : Shared} {e it t : Addr} {i : Nat} {c : Int} {items : Array Value} {old : Value} {Q : Option Value → Shared → Prop} (hh : A.handled = none)
    (he : IsEnum s.heap e it c old) (hit : s.heap.IsTupleIter it t i) (ht : s.heap.IsTuple t items) (hx : items[i]? = none) (hQ : ∀ h', Heap.ExtBut it s.heap h' → Q none { s with heap := h' }) : wpAny (model prog w) A (pyNext (.ref e)) Q E s := by
  have ty : s.TypeIs (.ref e) "enumerate" := ⟨_, he, rfl⟩
  have slot := F.slot_enumerate_next
  unfold pyNext
  refine wpAny_bind (wpAny_attempt (wpAny_callSpecial?_slot (name := Str.ofString "__next__") ty slot (wpAny_call_entry slot ty F.entry_enumerate_next ?_ (F.args_enumerate_next_1 _))))
  show wpAny _ _ (field (.ref e) 2 >>= _) _ _ _
  refine wpAny_bind (wpAny_field he rfl (x := .ref it) rfl (wpAny_bind (wpAny_nextOf_tuple_end hh hit ht hx fun h' x he' hx' => ?_)))
  obtain ⟨o, ho, hc⟩ := hx'
  exact wpAny_bind (wpAny_isInstance (T := "StopIteration") (b := true) ⟨o, ho, hc⟩ isSubtype_stop (wpAny_pure (hQ _ he')))
theorem turn_enumT {P : Program} {w : World} {K : PySem.W.Frag} {elts : List Expr} {kk : Nat} {tpos : Pos} (a e it : Addr) :
    Turn P w K (.Tuple elts kk tpos) (IteT K a) [e, it] e (fun i h => (∃ old, IsEnum h e it ((i : Nat) : Int) old) ∧ h.IsTupleIter it a i ∧ e ≠ it ∧ a ≠ it) where
  mem := by simp
  obj := fun i h st b hb => by
    obtain ⟨⟨old, he⟩, ⟨o, ho, hc, hd⟩, _⟩ := st
    rcases (show b = e ∨ b = it by simpa using hb) with z | z
    · subst z
      exact ⟨_, he, fun v q => nomatch q⟩
    · subst z
      exact ⟨o, ho, fun v q => by rw [hd] at q; cases q⟩
  keep := fun i h h' st k => by
    obtain ⟨⟨old, he⟩, hi, hne⟩ := st
    exact ⟨⟨old, k e (by simp) _ he⟩, hi.at fun o q => k it (by simp) o q, hne⟩
  item := by
    intro X hP hw hK hc i pins s σ H E I hf st hg
    subst hP hw hK
    obtain ⟨⟨old, he⟩, hit, hne, hat⟩ := st
    obtain ⟨xs, x, hq, hx⟩ := hg
    obtain ⟨its, rv, p, hz⟩ := I.tuple hq
    obtain ⟨u, hu, ru⟩ := rv.get hx
    have hel : e < s.heap.objs.size := Heap.lt_size he
    have hil : it < s.heap.objs.size := by
      obtain ⟨_, q, _⟩ := hit
      exact Heap.lt_size q
    have hi : i < its.toArray.size := by
      have := (List.getElem?_eq_some_iff.mp hu).1
      rw [List.size_toArray]
      exact this
    have hea := enu_ne he p
    have D := Draws.tuple (prog := X.prog) (w := X.w) (A := X.A.in1) (I.ok.hd hc) it a hat its.toArray
    refine wpAny_pyNext_enum_itemC D he ⟨hit, p⟩ hi hne (by simp [hne, hea]) fun u' h' tk hu' ho hit' hT hsz hk => ?_
    have eu : u' = u := by
      have z : its[i]? = some u' := by simpa using hu'
      rw [hu] at z
      exact (Option.some.inj z).symm
    subst eu
    refine ⟨_, rfl, wpAny_letOwnedTupleGo_enum (s := { s with heap := h', toks := tk + 1 }) ho fun h'' he' sb => ?_⟩
    have hT2 := (sb.2 _ (Nat.ne_of_gt hel)).trans hT
    have new : ObjOk X.prog X.w (upd H s.heap.objs.size (.tup [.int (i : Nat), x])) h'' s.heap.objs.size (.tup [.int (i : Nat), x]) :=
      ⟨by show 2 ≤ sizeLine; decide, [.int i tk, u'], .cons ⟨_, rfl⟩ (.cons ru .nil), ⟨_, hT2, rfl, _, rfl⟩⟩
    have I1 : Inv X pins σ (upd H s.heap.objs.size (.tup [.int (i : Nat), x])) { s with heap := h'', toks := tk + 1 } := by
      refine I.turnedNew (ch := [e, it]) (fun b ob hb q => ?_) hf (Nat.le_refl _) new
      have n1 : b ≠ e := fun z => hb (by simp [z])
      exact (sb.2 b n1).trans (hk b ob n1 (fun z => hb (by simp [z])) q)
    refine ⟨.ref s.heap.objs.size, _, I1, rfl, ⟨_, x, rfl, I.hok.fresh (Nat.le_refl _), rfl, fun ys hy => ?_⟩, ⟨⟨u', ?_⟩, hit'.1.at fun o q => (sb.2 it (Ne.symm hne)).trans q, hne, hat⟩, fun b hb => ?_⟩
    · have z := I.tuple_inj hy hq
      rw [z]
      exact hx
    · rw [show ((i + 1 : Nat) : Int) = (i : Int) + 1 by omega]
      exact he'
    · have hb' : b < s.heap.objs.size := by
        rcases (show b = e ∨ b = it by simpa using hb) with z | z
        · rw [z]; exact hel
        · rw [z]; exact hil
      rw [upd_ne (Nat.ne_of_lt hb')]
      exact (hf b hb).1
  done := by
    intro X hP hw hK hc i pins s σ H E I hf st hg
    subst hP hw hK
    obtain ⟨⟨old, he⟩, hit, hne, hat⟩ := st
    obtain ⟨xs, hq, hx⟩ := hg
    obtain ⟨its, rv, p, hz⟩ := I.tuple hq
    obtain ⟨f0, f1, f2, f3, f4, f5⟩ := hf it (by simp)
    have hl := rv.length
    refine enu_end (I.ok.hd hc) he hit p (by simp; omega) fun h' eb => ⟨rfl, ?_⟩
    exact I.turned (t' := s.toks) (fun b o hb q => eb b o hb q) f0 f1 f3 f4 f5
  self := fun A i s Q E st h => by
    obtain ⟨⟨_, he⟩, _⟩ := st
    exact wpAny_pyIter_enum he h
def iEnumT (K : PySem.W.Frag) (ta : TA) : TI := fun σ H R => ta σ H fun vs H1 => ∃ a xs, vs = [.ref a] ∧ SqT K H1 a xs ∧ R (IteT K a) H1
theorem pi_enumT {X : Cx} {e : Expr} {ta : TA} {p pos tpos : Pos} {elts : List Expr} {kk : Nat} (hg : Gl X "enumerate") (hm : X.mg "enumerate" = none) (ha : PA X [e] ta)
    (hs : starEach [e] X.env = [(false, eval e X.env)] := by rfl) : PI X (.Tuple elts kk tpos) (.Call (.Name "enumerate" p) [e] [] pos) (iEnumT X.K ta) := by
  refine ⟨fun pins s σ H R I h => ?_⟩
  have run := ha.run pos pins s σ H _ I h
  refine Call_ (ld_blt I hg hm boot_enumerate (PyProof.Rows.callWith_type1 (thn run fun us s1 ⟨vs, H1, I1, r1, q1⟩ => ?_) hs rfl))
  obtain ⟨a, xs, ex, hq, q⟩ := q1
  subst ex
  cases r1 with
  | cons r rr =>
    cases rr
    cases r
    obtain ⟨its, rv, p', hz⟩ := I1.tuple hq
    refine enu_call p' fun h' he hit hk => wpAny_pyIter_enum he ?_
    have al : a < s1.heap.objs.size := by
      obtain ⟨_, z, _⟩ := p'
      exact Heap.lt_size z
    have I2 : Inv X pins σ H1 { s1 with heap := h' } := I1.kept (t' := s1.toks) hk
    refine ⟨s1.heap.objs.size + 1, [s1.heap.objs.size + 1, s1.heap.objs.size], _, _, H1, rfl, I2, turn_enumT a (s1.heap.objs.size + 1) s1.heap.objs.size, ⟨⟨.none, he⟩, hit, Nat.succ_ne_self _, Nat.ne_of_lt al⟩, fun b hb => ?_, q⟩
    have hle : s1.heap.objs.size ≤ b := by
      rcases (show b = s1.heap.objs.size + 1 ∨ b = s1.heap.objs.size by simpa using hb) with z | z
      · rw [z]
        exact Nat.le_add_right _ _
      · rw [z]
        exact Nat.le_refl _
    exact I1.fpOk hle (I1.hok.fresh hle)
end CC
set_option Elab.async false
set_option maxRecDepth 100000
namespace CC
open PySem L2
set_option linter.unusedVariables false
abbrev sWrongRow : Stmt := top 19
abbrev sIsOnce : Stmt := top 20
def spWrongRow : Sp := fun vs H Q _ => ∃ (l : Addr) (rs : List Row) (cells : List Str), vs = [.ref l] ∧ RowsAt H rs l ∧ Good cells rs ∧ (∀ c ∈ cells, NameOk c) ∧ ∀ H', Same H H' → Q .non H'
section
variable {P : Program} {w : World} {K : PySem.W.Frag} {mg : Str → Option Value} {base : Heap}
theorem scWrongRow : FnScope ["rows", "number", "row"] ["rows"] (defScope sWrongRow) := ⟨rfl, rfl, rfl, by decide +kernel, rfl, by decide +kernel, by decide +kernel⟩
theorem ok_wrongrow {f fL fR : Addr} {fd fdL fdR : FuncData} {t1 t2 : Tok} (F : Fun K "wrong_row" "wrong_row" sWrongRow f fd)
    (GL : FnOk P w K mg base CX0 1 fL fdL ["value"] spIsList) (mL : mg "is_list" = some (.ref fL)) (kL : PySem.W.keepIn K (.ref fL) = true) (bL : Binds K fdL ["value"] [])
    (GR : FnOk P w K mg base CX0 4 fR fdR ["value", "many"] spIsRow) (mR : mg "is_row" = some (.ref fR)) (kR : PySem.W.keepIn K (.ref fR) = true) (bR : Binds K fdR ["value", "many"] [])
    (tl : mg "len" = none) (te : mg "enumerate" = none) (mF : mg "FEWEST_ROWS" = some (.int 2 t1)) (mM : mg "MOST_ROWS" = some (.int 60 t2)) :
    FnOk P w K mg base CX0 5 f fd ["rows"] spWrongRow := by
  refine F.ok scWrongRow (fun vs H Q E h => ?_) (fun cdv A outer s H vs Q E hr h => ?_)
  · obtain ⟨l, rs, cells, rfl, _⟩ := h
    rfl
  · obtain ⟨l, rs, cells, rfl, hl, ⟨rok, ⟨m0, h0⟩, n2, n60⟩, nok, k⟩ := h
    have hr1 : Room 1 _ := hr.mono (by decide)
    refine ⟨_, pss_cons (ps_if (pt_not (pt_val (pe_call GL hr1 rfl mL kL bL .nil pass0 (pa_cons (pv 0) pa_nil)))) (pss_one (ps_ret pe_int)) pss_nil)
      (pss_cons (ps_for PassesOwn.never rfl (pi_enum (by rfl) te (pa_cons (pv 0) pa_nil)) (pg_tup (by rfl) (pgs_cons (pg_name (i := 1) scWrongRow.nd rfl (Or.inl rfl)) (pgs_cons (pg_name (i := 2) scWrongRow.nd rfl (Or.inl rfl)) pgs_nil)))
        (pss_one (ps_if (PW.pt (pw_or (pt_not (pt_val (pe_call GR hr rfl mR kR bR .nil pass0 (pa_cons (pv 2) (pa_cons (pe_callB call_len_seq (by rfl) tl PySem.boot_len (pa_cons (pv 0) pa_nil)) pa_nil)))))
          (pw_or1 (PW.pt (pw_and (pt_cmpR op_eq (pv 1) pe_int (nomark _)) (pw_and1 (pt_cmpR op_ne (pe_ix ix_tup (pv 2) pe_int (fun _ _ => rfl)) pe_str (nomark _)))))))) (pss_one (ps_ret (pv 1))) pss_nil)))
      (pss_one (ps_ret (pe_ifExp (pt_chain op_le op_le (pe_glob (v := .int 2) rfl mF ⟨_, rfl⟩) (pe_callB call_len_seq (by rfl) tl PySem.boot_len (pa_cons (pv 0) pa_nil)) (pe_glob (v := .int 60) rfl mM ⟨_, rfl⟩)) pe_non (pe_callB call_len_seq (by rfl) tl PySem.boot_len (pa_cons (pv 0) pa_nil)))))), ?_⟩
    obtain ⟨as, ha1, ha2⟩ := id hl
    have asl : as.length = rs.length := ha2.length
    refine ⟨_, rfl, l, _, rfl, .inl ha1, fun H1 s1 => ⟨true, rfl, iteF ?_⟩⟩
    refine ⟨_, rfl, l, _, rfl, SqL.of (s1 _ _ ha1), for_it (walk_enum (K := K) (a := l) (xs := as.map V.ref)) (fun i σ H2 => ∃ v1 v2, σ = [some (.ref l), v1, v2] ∧ Same H H2) ⟨none, none, rfl, s1⟩ (fun i σ H2 _ ⟨_, _, _, e⟩ => SqL.of (e _ _ ha1)) ?_ ?_⟩
    · rintro i x σ Ha Hb hi ⟨v1, v2, rfl, sa⟩ ⟨T, ix, y, rfl, hT, rfl, e1, e2⟩
      cases Option.some.inj e1
      dsimp only at e2
      rw [List.getElem?_map] at e2
      obtain ⟨a, hia, rfl⟩ : ∃ a, as[i]? = some a ∧ y = V.ref a := by
        cases e : as[i]? with
        | none =>
          rw [e] at e2
          cases e2
        | some z =>
          rw [e] at e2
          exact ⟨z, rfl, (Option.some.inj e2).symm⟩
      obtain ⟨r, hir, hraH⟩ := paired_at ha2 hia
      have sb : Same H (upd Ha T (.tup [V.int (i : Nat), V.ref a])) := same_tr sa (same_new hT)
      refine ⟨T, _, rfl, SqT.of upd_same, rfl, _, _, rfl, _, _, rfl, rfl, ?_⟩
      have lenE : (V.int ((as.map V.ref).length : Nat)) = V.int (rs.length : Nat) := by rw [List.length_map, asl]
      refine ⟨_, rfl, _, rfl, l, _, rfl, .inl (SqL.of (sb _ _ ha1)), a, r, rs.length, cells, congrArg (fun z => [V.ref a, z]) lenE, hraH.mono (fun b xs x => sb _ _ x) (fun b xs x => sb _ _ x), rok r (List.mem_of_getElem? hir), nok, fun H3 s3 => ⟨true, rfl, iteF ?_⟩⟩
      have sc := same_tr sb s3
      refine ⟨_, rfl, rfl, _, rfl, ?_⟩
      by_cases i0 : i = 0
      · subst i0
        rw [h0] at hir
        cases hir
        refine ite_yes (decide_eq_true rfl) ?_
        refine ⟨_, rfl, a, _, _, _, rfl, rfl, SqT.of (sc _ _ hraH), rfl, rfl, _, rfl, ite_no (not_dec rfl) ?_⟩
        exact ⟨_, _, rfl, sc⟩
      · refine ite_no (decide_eq_false fun z => i0 ?_) (iteF ?_)
        · injection z with z
          omega
        · exact ⟨_, _, rfl, sc⟩
    · rintro σ Ha ⟨v1, v2, rfl, sa⟩
      refine ⟨_, rfl, l, _, rfl, .inl (SqL.of (sa _ _ ha1)), _, _, rfl, rfl, _, rfl, ite_yes (decide_eq_true (by rw [List.length_map, asl]; omega)) ?_⟩
      refine ⟨_, _, rfl, rfl, _, rfl, ite_yes (decide_eq_true (by rw [List.length_map, asl]; omega)) ?_⟩
      exact k _ sa
end
end CC
set_option Elab.async false
set_option maxRecDepth 100000
/-! ### a set of tuples: empty, add, in -/
namespace CC
open PySem PySem.Spec PyProof.Rows L2
set_option linter.unusedVariables false
section
variable {P : Program} {w : World} {A : Around} {E : Value → Shared → Prop} {s : Shared}
variable {a : Addr} {L : List (Addr × List Int)} {es : Array (Int × Value)} {ep : Nat} {t : SetTable}
theorem nth_dummy (m : Nat) : ∀ (n : Nat) (p : SetTable.Probe), p.dummy = none → (nth m p n).dummy = none
  | 0, _, h => h
  | n + 1, p, h => by
    have h2 : (adv m p).dummy = none := by
      unfold adv
      split <;> exact h
    exact nth_dummy m n (adv m p) h2
theorem find_from (R : SetTR P w s.heap a L es ep t) {x : Addr} {k : List Int} (hx : IsT P w s.heap k x) (hu : A.units < cLine) {B : SetTable.Probe} (hB : B = runAt t.mask (SetTable.bits (thash P w k) % (t.mask + 1)) (SetTable.bits (thash P w k)))
    {K : Nat} (hKf : K < 10 * SetTable.turns t.mask) (hK : (nth t.mask B K).j ∉ t.place.toList) (hKb : ∀ c, c < K → (nth t.mask B c).j ∈ t.place.toList) {Q : SetFound → Shared → Prop}
    (hin : ∀ i, k ∈ L.map (·.2) → Q (.there (some i)) s) (hout : ∀ j, k ∉ L.map (·.2) → Q (.free j false) s) :
    ∀ (f c : Nat) (stand : Option SetTable.Probe), stand.getD (t.probeStart (thash P w k)) = nth t.mask B c → c ≤ K → K - c < f →
      (∀ (i : Nat) p, L[i]? = some p → p.2 = k → ∃ c', c ≤ c' ∧ c' < K ∧ t.place.toList[i]? = some (nth t.mask B c').j) →
      wpAny (model P w) A (setSearchFrom a (.ref x) (thash P w k) false f stand) Q E s
  | 0, c, stand, _, _, hf, _ => absurd hf (Nat.not_lt_zero _)
  | f + 1, c, stand, hst, hc, hf, hre => by
    obtain ⟨o, ho, hex, hd⟩ := R.ob
    have stt := fun {α : Type} => R.fits
    rw [setSearchFrom_succ]
    refine wpAny_bind (wpAny_setState_of ho hd R.fits ?_)
    dsimp only
    refine wp_if_neg R.gw ?_
    try refine wpAny_bind (wpAny_pure ?_)
    have nd : (nth t.mask B c).dummy = none := nth_dummy _ c B (by rw [hB]; rfl)
    have sh : ∀ q, nth t.mask (nth t.mask B c) q = nth t.mask B (c + q) := fun q => (nth_add t.mask c _ q).symm
    have hashAt : ∀ (i : Nat) p, L[i]? = some p → (es[i]?.map (·.1)).getD 0 = thash P w p.2 := fun i p hp => by rw [R.entry hp] <;> rfl
    have spec := go_spec t R.tab.ris R.tab.dm (fun i => (es[i]?.map (·.1)).getD 0) (thash P w k) (10 * SetTable.turns t.mask) (K - c) (nth t.mask B c) nd (by omega)
      (fun q hq => by rw [sh]; exact hKb (c + q) (by omega)) (by rw [sh, Nat.add_sub_cancel' hc]; exact hK)
    have never : ∀ q, (∀ (c' i' : Nat), c' < q → t.place.toList[i']? = some (nth t.mask (nth t.mask B c) c').j → (fun i => (es[i]?.map (·.1)).getD 0) i' ≠ thash P w k) →
        ∀ (i0 : Nat) p0, L[i0]? = some p0 → p0.2 = k → ∀ c', c ≤ c' → c' < c + q → t.place.toList[i0]? ≠ some (nth t.mask B c').j := fun q hno i0 p0 h0 hk0 c' h1 h2 e => by
      refine hno (c' - c) i0 (by omega) (by rw [sh, Nat.add_sub_cancel' h1]; exact e) ?_
      exact (hashAt i0 p0 h0).trans (congrArg (thash P w) hk0)
    rcases spec with ⟨q, i, hq, hi, hh, hno, hpr⟩ | ⟨hno, hpr⟩
    · rw [hst]
      have hpr2 := hpr
      rw [show t.probe (fun i => (es[i]?.map (·.1)).getD 0) (thash P w k) (nth t.mask B c) = _ from hpr2]
      dsimp only
      have hi2 : t.place.toList[i]? = some (nth t.mask B (c + q)).j := by rw [← sh]; exact hi
      have hil : i < L.length := by
        have h1 : i < t.place.toList.length := (List.getElem?_eq_some_iff.mp hi).1
        have h2 := R.tab.sz
        rw [List.length_map] at h2
        rw [Array.length_toList] at h1
        omega
      obtain ⟨p, hp⟩ : ∃ p, L[i]? = some p := ⟨_, List.getElem?_eq_getElem hil⟩
      have hmem := List.mem_of_getElem? hp
      have hpt := R.tup p hmem
      have hsl : t.slot (nth t.mask (nth t.mask B c) q).j = .live i := slot_live R.tab.ris hi
      have rest : wpAny (model P w) A (searchRest a (.ref x) (thash P w k) false f es t (nth t.mask (nth t.mask B c) q).j i (nth t.mask (nth t.mask B c) (q + 1))) Q E s := by
        unfold searchRest
        rw [R.entry hp]
        dsimp only
        refine wpAny_bind (wpAny_holding (wpAny_eqBool_tuple hu hpt hx (wpAny_bind (wpAny_setState_of ho hd R.fits ?_))))
        dsimp only
        refine wp_if_neg (by simp) ?_
        try refine wpAny_bind (wpAny_pure ?_)
        rw [sameMem]
        dsimp only
        simp only [if_true, hsl, R.entry hp]
        refine wpAny_bind (wpAny_isSame_ref_self (wpAny_bind (wpAny_pure ?_)))
        simp only [if_true]
        by_cases hkk : p.2 = k
        · exact wp_if_pos (by simp [hkk]) (wpAny_pure (hin i (List.mem_map.mpr ⟨p, hmem, hkk⟩)))
        · refine wp_if_neg (by simp [hkk]) ?_
          refine find_from R hx hu hB hKf hK hKb hin hout f (c + (q + 1)) _ (by rw [← sh]; rfl) (by omega) (by omega) fun i0 p0 h0 hk0 => ?_
          obtain ⟨c', a1, a2, a3⟩ := hre i0 p0 h0 hk0
          refine ⟨c', ?_, a2, a3⟩
          by_cases z : c' < c + q
          · exact absurd a3 (never q hno i0 p0 h0 hk0 c' a1 z)
          · by_cases y : c' = c + q
            · exfalso
              rw [y] at a3
              have s0 := slot_live R.tab.ris a3
              rw [← sh, hsl] at s0
              injection s0 with s0
              rw [← s0, hp] at h0
              cases Option.some.inj h0
              exact hkk hk0
            · omega
      by_cases hl : t.led = true
      · refine wp_if_neg (by simp [hl]) ?_
        try refine wpAny_bind (wpAny_pure ?_)
        exact rest
      · refine wp_if_pos (by simp [hl]) (wpAny_bind (seen_tup hx (fun y hy => ?_) (wp_if_neg (by decide) ?_)))
        · obtain ⟨e, he, ee⟩ := List.mem_map.mp hy
          have he2 : e ∈ es.toList := by
            have z : e ∈ es ∧ e.1 = thash P w k := by simpa using he
            simpa using z.1
          rw [R.rows] at he2
          obtain ⟨p2, hp2, e2⟩ := List.mem_map.mp he2
          exact ⟨p2.2, p2.1, by rw [← ee, ← e2], R.tup p2 hp2⟩
        · try refine wpAny_bind (wpAny_pure ?_)
          exact rest
    · rw [hst]
      rw [show t.probe (fun i => (es[i]?.map (·.1)).getD 0) (thash P w k) (nth t.mask B c) = _ from hpr]
      dsimp only
      refine wpAny_pure (hout _ fun hm => ?_)
      obtain ⟨p0, h0, hk0⟩ := List.mem_map.mp hm
      obtain ⟨i0, hi0, e0⟩ := List.getElem_of_mem h0
      have h00 : L[i0]? = some p0 := by rw [List.getElem?_eq_getElem hi0, e0]
      obtain ⟨c', a1, a2, a3⟩ := hre i0 p0 h00 hk0
      exact never (K - c) (fun c' i' h => hno c' i' h) i0 p0 h00 hk0 c' a1 (by omega) a3
end
end CC
namespace CC
open PySem PySem.Spec PyProof.Rows L2
set_option linter.unusedVariables false
section
variable {P : Program} {w : World} {A : Around} {E : Value → Shared → Prop} {s : Shared}
variable {a : Addr} {L : List (Addr × List Int)} {es : Array (Int × Value)} {ep : Nat} {t : SetTable}
theorem setO_typeIs (R : SetTR P w s.heap a L es ep t) : s.TypeIs (.ref a) "set" := by
  obtain ⟨o, ho, hex, hd⟩ := R.ob
  exact ⟨o, ho, hex.1⟩
theorem found_tup (R : SetTR P w s.heap a L es ep t) {x : Addr} {k : List Int} (hx : IsT P w s.heap k x) (hu : A.units < cLine) {Q : Option Nat → Shared → Prop}
    (h : ∀ r : Option Nat, r.isSome = decide (k ∈ L.map (·.2)) → Q r s) : wpAny (model P w) A (setFind a (.ref x) (thash P w k)) Q E s := by
  obtain ⟨o, ho, hex, hd⟩ := R.ob
  have hroom := R.room
  obtain ⟨K, hKf, hK, hKb⟩ := R.tab.first (by rw [List.length_map]; omega) (thash P w k)
  have hbig : K < 100000 := by
    have : 10 * SetTable.turns t.mask ≤ 1420 := by
      unfold SetTable.turns
      rcases R.tab.mok with e | e | e <;> omega
    omega
  unfold setFind
  rw [show (100000 : Nat) = 99999 + 1 from rfl]
  unfold setFindIn
  refine wpAny_bind (wpAny_setState_of ho hd R.fits ?_)
  dsimp only
  refine wp_if_neg (by simp [byScan, Value.scannable]) ?_
  try refine wpAny_bind (wpAny_pure ?_)
  unfold setSearch
  refine wpAny_bind (find_from R hx hu rfl hKf hK hKb (fun i hm => wpAny_pure (h _ ?_)) (fun j hm => wpAny_pure (h _ ?_)) 100000 0 none rfl (Nat.zero_le _) (by omega) fun i p hp hk => ?_)
  · rw [decide_eq_true hm]
    rfl
  · rw [decide_eq_false hm]
    rfl
  · have hi : (L.map fun p => thash P w p.2)[i]? = some (thash P w k) := by rw [List.getElem?_map, hp, ← hk] <;> rfl
    have hil : i < t.place.toList.length := by
      have h1 : i < L.length := (List.getElem?_eq_some_iff.mp hp).1
      have h2 := R.tab.sz
      rw [List.length_map] at h2
      rw [Array.length_toList]
      omega
    have hj := List.getElem?_eq_getElem hil
    obtain ⟨c, hc, e⟩ := R.tab.before hK hi hj
    exact ⟨c, Nat.zero_le _, hc, by rw [hj]; exact congrArg some e.symm⟩
theorem in_tups (R : SetTR P w s.heap a L es ep t) {x : Addr} {k : List Int} (hx : IsT P w s.heap k x) (hu : A.units + 8 < cLine) {Q : Value → Shared → Prop}
    (h : ∀ tk, Q (.bool (decide (k ∈ L.map (·.2)))) { s with toks := tk }) : wpAny (model P w) A (compareOp .In (.ref x) (.ref a)) Q E s := by
  have ty := setO_typeIs R
  show wpAny _ _ (do return .bool (← contains (.ref a) (.ref x))) Q E s
  refine wpAny_bind ?_
  unfold contains
  try with_reducible refine wpAny_holding ?_
  refine wpAny_bind (wpAny_specialOf ty F.slot_set_contains.lookup ?_)
  show wpAny _ _ (if (some (Value.builtin "set.__contains__") == some Value.none) = true then _ else _) _ E s
  rw [if_neg (by rw [beq_builtin_none]; exact Bool.false_ne_true)]
  refine wpAny_bind (wpAny_callSpecialUnlessNone?_slot (name := Str.ofString "__contains__") ty F.slot_set_contains (wpAny_call_entry F.slot_set_contains ty entry_set_contains ?_ (F.args_set_contains_2 _ _)))
  unfold Builtin.«frozenset.__contains__» Builtin.Frozenset.oneOther
  simp only [List.isEmpty_nil, bind_assoc]
  unfold Builtin.Frozenset.addrOf Builtin.Frozenset.withSetAsKey setContains
  refine wpAny_bind (wpAny_pure ?_)
  try dsimp only
  refine wpAny_bind (wpAny_pure ?_)
  try dsimp only
  refine wpAny_bind (wpAny_tryCatch (wpAny_holding (wpAny_bind (wpAny_pyHash_tuple (knd := intKind P w) (ks := k) ?_ hx ?_))))
  · show A.units + 1 < cLine
    omega
  · refine wpAny_bind (found_tup (s := { s with toks := s.toks + (k.length + 1) }) R hx ?_ fun r hr => ?_)
    · show A.units + 1 < cLine
      omega
    · refine wpAny_pure ?_
      show wpAny _ _ (ret (Value.bool r.isSome)) _ _ _
      rw [hr]
      exact wpAny_pure ⟨_, rfl, wpAny_truthy_bool (wpAny_pure (h _))⟩
theorem add_tup (R : SetTR P w s.heap a L es ep t) {x : Addr} {k : List Int} (hx : IsT P w s.heap k x) (hu : A.units + 8 < cLine) (few : L.length + 1 < 64) {Q : Value → Shared → Prop}
    (h : ∀ h' L' es' ep' t' tk, Heap.SameBut a s.heap h' → SetTR P w h' a L' es' ep' t' → (k ∈ L.map (·.2) → L' = L) → (k ∉ L.map (·.2) → L'.Perm ((x, k) :: L)) → Q .none { s with heap := h', toks := tk }) :
    wpAny (model P w) A (call (.builtin "set.add") [.ref a, .ref x]) Q E s := by
  have ty := setO_typeIs R
  refine wpAny_call_entry F.slot_set_add ty F.entry_set_add ?_ (F.args_set_add_2 _ _)
  unfold Builtin.«set.add» Builtin.Frozenset.oneOther
  simp only [List.isEmpty_nil, bind_assoc]
  unfold Builtin.Frozenset.addrOf setAdd
  refine wpAny_bind (wpAny_pure ?_)
  try dsimp only
  refine wpAny_bind (wpAny_pure ?_)
  try dsimp only
  refine wpAny_bind (wpAny_holding (wpAny_bind (wpAny_pyHash_tuple (knd := intKind P w) (ks := k) (by show A.units + 1 < cLine; omega) hx ?_)))
  refine add_at (s := { s with toks := s.toks + (k.length + 1) }) R hx (by show A.units + 1 < cLine; omega) few fun b h' L' es' ep' t' hsb R' c1 c2 => ?_
  show wpAny _ _ (ret Value.none) _ _ _
  exact wpAny_pure ⟨_, rfl, h h' L' es' ep' t' _ hsb R' c1 c2⟩
end
section
variable {X : Cx}
/-- set() that will hold tuples of ints -/
def rSet0T (P : Program) (w : World) : List V → Hp → VK → Prop := fun xs H Q => xs = [] ∧ ∀ p, H p = none → Q (.ref p) (upd H p (SetTO P w p []))
theorem cr_set0T : CallR X (.type "set") (rSet0T X.prog X.w) := by
  intro pins s σ H xs us Q I r h
  obtain ⟨rfl, q⟩ := h
  cases r
  refine setR_new fun _ => ?_
  have R := setTR_fresh (P := X.prog) (w := X.w) (h := s.heap.push { cls := .type "set", dict := none, data := .set #[] 0 (.fresh 0 0 (!X.w.params.followText "set-order")) }) (a := s.heap.objs.size) (Heap.get?_push_size _ rfl)
  exact ⟨.ref _, upd H s.heap.objs.size (SetTO X.prog X.w s.heap.objs.size []), I.laid (t' := s.toks) (fun b u e => Heap.get?_push_of_some _ e) (Nat.le_refl _) (setTO_new R.t0), rfl, q _ (I.hok.fresh (Nat.le_refl _))⟩
/-- t in s -/
def rInT (K : PySem.W.Frag) (P : Program) (w : World) : R2 := fun x y H Q => ∃ (t a : Addr) (k : List Int) (L : List (Addr × List Int)), x = .ref t ∧ y = .ref a ∧ H a = some (SetTO P w a L) ∧ (∀ p ∈ L, SqT K H p.1 (p.2.map V.int)) ∧ SqT K H t (k.map V.int) ∧ Q (.bl (decide (k ∈ L.map (·.2)))) H
theorem op_inT (hu : X.A.units + 8 < cLine) : OpR X (compareOp .In) (rInT X.K X.prog X.w) := by
  intro pins s σ H x y v u Q I rx ry h
  obtain ⟨t, a, k, L, rfl, rfl, ha, hL, ht, q⟩ := h
  cases rx
  cases ry
  have R0 : SetT0 X.prog X.w s.heap a L := (I.hok a _ ha).1
  obtain ⟨es, ep, tb, R⟩ := R0.full fun p hp => I.isT (hL p hp)
  exact in_tups R (I.isT ht) hu fun tk => ⟨.bl _, H, I.tok _, rfl, q⟩
/-- s.add(t) -/
def rAddT (K : PySem.W.Frag) (P : Program) (w : World) : V → List V → Hp → VK → Prop := fun x xs H Q => ∃ (t a : Addr) (k : List Int) (L : List (Addr × List Int)), x = .ref a ∧ xs = [.ref t] ∧ H a = some (SetTO P w a L) ∧ (∀ p ∈ L, SqT K H p.1 (p.2.map V.int)) ∧ SqT K H t (k.map V.int) ∧ L.length + 1 < 64 ∧
  ∀ L', (k ∈ L.map (·.2) → L' = L) → (k ∉ L.map (·.2) → L'.Perm ((t, k) :: L)) → Q .non (upd H a (SetTO P w a L'))
theorem mt_addT (hu : X.A.units + 8 < cLine) : MtR X "set.add" (rAddT X.K X.prog X.w) := by
  intro pins s σ H x xs v us Q I rx rxs h
  obtain ⟨t, a, k, L, rfl, rfl, ha, hL, ht, few, q⟩ := h
  cases rx
  cases rxs with
  | cons ry rt =>
    cases rt
    cases ry
    have R0 : SetT0 X.prog X.w s.heap a L := (I.hok a _ ha).1
    obtain ⟨es, ep, tb, R⟩ := R0.full fun p hp => I.isT (hL p hp)
    refine add_tup R (I.isT ht) hu few fun h' L' es' ep' t' tk sb R' c1 c2 => ?_
    have he : ∃ u, h'.get? a = some u := by
      obtain ⟨o, ho, _⟩ := R'.ob
      exact ⟨o, ho⟩
    exact ⟨.non, upd H a (SetTO X.prog X.w a L'), I.write (e := a) (t' := tk) (by rw [ha]; trivial) (.inl rfl) (fun b u hb hu => (sb.2 b hb).trans hu) he (setTO_new R'.t0), rfl, q L' c1 c2⟩
def tAddT (K : PySem.W.Frag) (P : Program) (w : World) (to : TE) (t : TA) : TE := fun σ H Q => to σ H fun x H1 => (∃ a L, x = V.ref a ∧ H1 a = some (SetTO P w a L) ∧ (∀ p ∈ L, SqT K H1 p.1 (p.2.map V.int))) ∧ t σ H1 fun xs H2 => rAddT K P w x xs H2 Q
end
end CC
set_option Elab.async false
set_option maxRecDepth 100000
namespace CC
open PySem PySem.Spec PyProof.Rows L2
set_option linter.unusedVariables false
section
variable {X : Cx} {o e : Expr} {es : List Expr} {to : TE} {t : TA} {apos cpos : Pos}
theorem pe_addT (hu : X.A.units + 8 < cLine) (ho : PE X o to) (ha : PA X (e :: es) t) (hbase : attributeBase o "add" X.env (eval o X.env) = eval o X.env := by rfl)
    (hfew : ((backTo cpos (starEach (e :: es) X.env)).all (fun x => !x.1) && (backToKw cpos (keywordEach [] X.env)).all (fun x => x.1.isSome) && decide ((e :: es).length + ([] : List Keyword).length + (if ([] : List Keyword).isEmpty then 0 else 1) < 30)) = true := by rfl)
    (hline : (apos.endLine == cpos.line) = true := by rfl)
    (hs : starEach (e :: es) X.env = (false, eval e X.env) :: starEach es X.env := by rfl)
    (hplain : (backTo cpos (starEach es X.env)).any (·.1) = false := by rfl) : PE X (.Call (.Attribute o "add" apos) (e :: es) [] cpos) (tAddT X.K X.prog X.w to t) := by
  refine ⟨fun pins s σ H Q I h => ?_⟩
  have go := ho.run pins s σ H _ I h
  refine wpAny_Call_method_late hbase hfew hline rfl (thn go fun v s1 ⟨x, H1, I1, r1, ⟨a, L, ex, hka, hL⟩, q1⟩ => ?_)
  subst ex
  have R0 : SetT0 X.prog X.w s1.heap a L := (I1.hok a _ hka).1
  obtain ⟨es0, ep0, tb0, R⟩ := R0.full fun p hp => I1.isT (hL p hp)
  cases r1
  have nodict : ∃ ob, s1.heap.get? a = some ob ∧ ob.dict = none := by
    obtain ⟨ob, hob, hex, _⟩ := R.ob
    exact ⟨ob, hob, hex.2.1⟩
  refine ⟨"set", "set.add", F.plainAttrs_set, F.slot_set_add, F.type_set_add, setO_typeIs R, ?_, ?_⟩
  · intro b e
    injection e with e
    rw [← e]
    exact nodict
  · have hA := ha.run cpos pins s1 σ H1 _ I1 q1
    rw [hs] at hA ⊢
    refine Calls.callWith_builtin (by show (false || (backTo cpos (starEach es X.env)).any (·.1)) = false; rw [hplain] <;> rfl) (Calls.evalArgs_plain (thn hA fun us s2 ⟨vs, H2, I2, r2, q2⟩ => ?_))
    exact mt_addT hu pins s2 σ H2 (.ref a) vs (.ref a) us Q I2 rfl r2 q2
end
section
variable {X : Cx} {K : PySem.W.Frag} {P : Program} {w : World} {o e : Expr} {es : List Expr} {to : TE} {t : TA} {apos cpos : Pos}
theorem cr_set0TK (e1 : X.prog = P) (e2 : X.w = w) : CallR X (.type "set") (rSet0T P w) := by
  subst e1 e2
  exact cr_set0T
theorem op_inTK (e0 : X.K = K) (e1 : X.prog = P) (e2 : X.w = w) (hu : X.A.units + 8 < cLine) : OpR X (compareOp .In) (rInT K P w) := by
  subst e0 e1 e2
  exact op_inT hu
theorem pe_addTK (e0 : X.K = K) (e1 : X.prog = P) (e2 : X.w = w) (hu : X.A.units + 8 < cLine) (ho : PE X o to) (ha : PA X (e :: es) t) (hbase : attributeBase o "add" X.env (eval o X.env) = eval o X.env := by rfl)
    (hfew : ((backTo cpos (starEach (e :: es) X.env)).all (fun x => !x.1) && (backToKw cpos (keywordEach [] X.env)).all (fun x => x.1.isSome) && decide ((e :: es).length + ([] : List Keyword).length + (if ([] : List Keyword).isEmpty then 0 else 1) < 30)) = true := by rfl)
    (hline : (apos.endLine == cpos.line) = true := by rfl)
    (hs : starEach (e :: es) X.env = (false, eval e X.env) :: starEach es X.env := by rfl)
    (hplain : (backTo cpos (starEach es X.env)).any (·.1) = false := by rfl) : PE X (.Call (.Attribute o "add" apos) (e :: es) [] cpos) (tAddT K P w to t) := by
  subst e0 e1 e2
  exact pe_addT hu ho ha hbase hfew hline hs hplain
end
end CC
set_option Elab.async false
set_option maxRecDepth 100000
namespace CC
open PySem L2
set_option linter.unusedVariables false
/-! ### ways: the mathematics -/
def nxt (rs : List Row) (p : Nat × Nat) : Option (List (Nat × Nat)) :=
  match rs[p.1]? with
  | none => none
  | some (.rest m) => if p.2 = 0 then none else some []
  | some (.ins m) => if p.2 + 1 > 1 then none else some [(m, p.2 + 1)]
  | some (.wr _ _ m) => some [(m, p.2)]
  | some (.rd _ cs m) => some ((cs.map (·.2) ++ [m]).map fun q => (q, p.2))
def ini (rs : List Row) (first : Nat) : List (Nat × Nat) :=
  match rs[first]? with
  | none => []
  | some r => r.fol.map fun q => (q, 0)
inductive Rch (rs : List Row) (S : List (Nat × Nat)) : Nat × Nat → Prop
  | base {p : Nat × Nat} : p ∈ S → Rch rs S p
  | step {p q : Nat × Nat} {qs : List (Nat × Nat)} : Rch rs S p → nxt rs p = some qs → q ∈ qs → Rch rs S q
/-- who begins at this row is inside once at most, and just once if it rests again -/
def Once (rs : List Row) (first : Nat) : Prop := ∀ p, Rch rs (ini rs first) p → nxt rs p ≠ none
theorem once_of {rs : List Row} {first : Nat} {M : List (Nat × Nat)} (h0 : ∀ p ∈ ini rs first, p ∈ M) (h1 : ∀ p ∈ M, ∃ qs, nxt rs p = some qs ∧ ∀ q ∈ qs, q ∈ M) : Once rs first := by
  intro p hp
  have key : p ∈ M := by
    induction hp with
    | base h => exact h0 _ h
    | step _ e hq ih =>
      obtain ⟨qs, e2, e3⟩ := h1 _ ih
      rw [e] at e2
      cases e2
      exact e3 _ hq
  obtain ⟨qs, e, _⟩ := h1 p key
  rw [e]
  intro z
  cases z
theorem Row.fol_low {n : Nat} {r : Row} (h : r.low n) : ∀ q ∈ r.fol, q < n := by
  intro q hq
  cases r with
  | rest m =>
    cases hq with
    | head => exact h
    | tail _ hq => cases hq
  | ins m =>
    cases hq with
    | head => exact h
    | tail _ hq => cases hq
  | wr c v m =>
    cases hq with
    | head => exact h
    | tail _ hq => cases hq
  | rd c cs m =>
    rcases List.mem_append.mp hq with m1 | m1
    · obtain ⟨kv, hkv, rfl⟩ := List.mem_map.mp m1
      exact h.2.1 kv hkv
    · cases m1 with
      | head => exact h.2.2.1
      | tail _ m1 => cases m1
theorem Row.fol_len {n : Nat} {r : Row} (h : r.low n) : r.fol.length ≤ 11 := by
  cases r with
  | rest m => exact Nat.le_of_ble_eq_true rfl
  | ins m => exact Nat.le_of_ble_eq_true rfl
  | wr c v m => exact Nat.le_of_ble_eq_true rfl
  | rd c cs m =>
    show (cs.map (·.2) ++ [m]).length ≤ 11
    rw [List.length_append, List.length_map]
    have := h.2.2.2
    show cs.length + 1 ≤ 11
    omega
def enc (p : Nat × Nat) : List Int := [(p.1 : Int), (p.2 : Int)]
theorem enc_inj {p q : Nat × Nat} (h : enc p = enc q) : p = q := by
  unfold enc at h
  injection h with h1 h2
  injection h2 with h2 _
  obtain ⟨a, b⟩ := p
  obtain ⟨c, d⟩ := q
  simp only at h1 h2
  have : a = c := by omega
  have : b = d := by omega
  simp_all
theorem few_places {M : List (Nat × Nat)} (nd : M.Nodup) (h : ∀ p ∈ M, p.1 < 30 ∧ p.2 ≤ 1) : M.length ≤ 60 := by
  have nd2 : (M.map fun p => 2 * p.1 + p.2).Nodup := by
    refine List.pairwise_map.mpr ?_
    refine List.Pairwise.imp_of_mem (fun {p q} hp hq ne e => ne ?_) nd
    have h1 := h p hp
    have h2 := h q hq
    obtain ⟨a, b⟩ := p
    obtain ⟨c, d⟩ := q
    simp only at h1 h2 e
    have : a = c := by omega
    have : b = d := by omega
    simp_all
  have := L2.nat_nodup_len (M.map fun p => 2 * p.1 + p.2) (List.range 60) nd2 (fun x hx => by
    obtain ⟨p, hp, rfl⟩ := List.mem_map.mp hx
    have := h p hp
    exact List.mem_range.mpr (by omega))
  rw [List.length_map, List.length_range] at this
  exact this
theorem paired_app {α β : Type} {F : α → β → Prop} : ∀ {l : List α} {m : List β} {l2 : List α} {m2 : List β}, Paired F l m → Paired F l2 m2 → Paired F (l ++ l2) (m ++ m2)
  | _, _, _, _, .nil, h => h
  | _, _, _, _, .cons h t, r => .cons h (paired_app t r)
theorem snoc_cases {α : Type} (l : List α) : l = [] ∨ ∃ (r : List α) (t : α), l = r ++ [t] := by
  rcases List.eq_nil_or_concat l with h | ⟨r, t, h⟩
  · exact .inl h
  · exact .inr ⟨r, t, by rw [h, List.concat_eq_append]⟩
theorem paired_last {α β : Type} {F : α → β → Prop} {t : α} : ∀ {l : List α} {m : List β}, Paired F (l ++ [t]) m → ∃ (m' : List β) (p : β), m = m' ++ [p] ∧ Paired F l m' ∧ F t p
  | [], _, .cons h .nil => ⟨[], _, rfl, .nil, h⟩
  | a :: l, _, .cons h r => by
    obtain ⟨m', p, e, r1, r2⟩ := paired_last r
    exact ⟨_ :: m', p, by rw [e]; rfl, .cons h r1, r2⟩
/-- few places can be met -/
def Few (rs : List Row) (first : Nat) : Prop := ∀ M : List (Nat × Nat), M.Nodup → (∀ p ∈ M, p.1 < rs.length ∧ p.2 ≤ 1 ∧ Rch rs (ini rs first) p) → M.length ≤ 60
theorem few_30 {rs : List Row} {first : Nat} (h : rs.length ≤ 30) : Few rs first := fun M nd k => few_places nd fun p hp => ⟨by have := (k p hp).1; omega, (k p hp).2.1⟩
def spIsOnce : Sp := fun vs H Q _ => ∃ (T : Addr) (as : List Addr) (rs : List Row) (first : Nat), vs = [.ref T, .int (first : Nat)] ∧ H T = some (.tup (as.map V.ref)) ∧ Paired (fun a r => RowAt H r a) as rs ∧ (∀ r ∈ rs, r.low rs.length) ∧ Few rs first ∧ first < rs.length ∧
  ∀ (b : Bool) (H' : Hp), Same H H' → (b = true ↔ Once rs first) → Q (.bl b) H'
section
variable {P : Program} {w : World} {K : PySem.W.Frag} {mg : Str → Option Value} {base : Heap}
theorem scIsOnce : FnScope ["rows", "first", "met", "ahead", "place", "number", "times", "row", "follower"] ["rows", "first"] (defScope sIsOnce) := ⟨rfl, rfl, rfl, by decide +kernel, rfl, by decide +kernel, by decide +kernel⟩
theorem ok_isonce {f fF : Addr} {fd fdF : FuncData} (F : Fun K "is_once" "is_once" sIsOnce f fd)
    (GF : FnOk P w K mg base CX0 1 fF fdF ["row"] spFollowers) (mF : mg "followers" = some (.ref fF)) (kF : PySem.W.keepIn K (.ref fF) = true) (bF : Binds K fdF ["row"] []) (ts : mg "set" = none) :
    FnOk P w K mg base CX0 2 f fd ["rows", "first"] spIsOnce := by
  refine F.ok scIsOnce (fun vs H Q E h => ?_) (fun cdv A outer s H vs Q E hr h => ?_)
  · obtain ⟨T, as, rs, first, rfl, _⟩ := h
    rfl
  · obtain ⟨T, as, rs, first, rfl, hT, hrows, low, n30, fl, k⟩ := h
    have hu := hu_of hr
    have h8 := Nat.lt_of_le_of_lt (Nat.add_le_add_left (by decide : 8 ≤ 64) _) hr.units
    refine ⟨_, pss_cons (ps_set (i := 2) scIsOnce.nd rfl (Or.inl rfl) (pe_callTy0 (cr_set0TK (P := P) (w := w) rfl rfl) (by rfl) ts (by decide +kernel)))
      (pss_cons (ps_setLc (i := 3) (own := [("number", 5)]) (g := gName 5) (by rfl) scIsOnce.nd rfl rfl (sw_true rfl rfl rfl (by decide +kernel)) (pi_list (pe_call GF hr rfl mF kF bF .nil pass0 (pa_cons (pe_ix ix_tup (pv 0) (pv 1) (fun _ _ => rfl)) pa_nil))) (blkOk_by (own := [("number", 5)]) (N := ["rows", "first", "met", "ahead", "place", "number", "times", "row", "follower"]) (sc := defScope sIsOnce) (by decide +kernel)) (fun _ _ _ _ _ => pg_name (i := 5) scIsOnce.nd rfl (Or.inl rfl)) (fun _ _ _ _ _ => pts_nil) (fun _ _ _ _ _ => pe_tup (pa_cons (pv 5) (pa_cons pe_int pa_nil))))
      (pss_cons (ps_while PassesOwn.never (pt_truth (pv 3) (by intro _; rfl))
        (pss_cons (ps_set (i := 4) scIsOnce.nd rfl (Or.inl rfl) (pe_bm0 PySem.F.plainAttrs_list PySem.F.slot_list_pop PySem.F.type_list_pop mt_pop (pv 3)))
        (pss_cons (ps_if (pt_cmpR (op_inTK (K := K) (P := P) (w := w) rfl rfl rfl h8) (pv 4) (pv 2) (by rfl)) (pss_one ps_continue) pss_nil)
        (pss_cons (ps_expr (pe_addTK (K := K) (P := P) (w := w) rfl rfl rfl h8 (pv 2) (pa_cons (pv 4) pa_nil)))
        (pss_cons (ps_asg (pv 4) (pg_tup (by rfl) (pgs_cons (pg_name (i := 5) scIsOnce.nd rfl (Or.inl rfl)) (pgs_cons (pg_name (i := 6) scIsOnce.nd rfl (Or.inr rfl)) pgs_nil))))
        (pss_cons (ps_set (i := 7) scIsOnce.nd rfl (Or.inl rfl) (pe_ix ix_tup (pv 0) (pv 5) (fun _ _ => rfl)))
        (pss_cons (ps_if (pt_cmpR op_eq (pe_ix ix_tup (pv 7) pe_int (fun _ _ => rfl)) pe_str (nomark _)) (pss_cons (ps_if (pt_cmpR op_eq (pv 6) pe_int (nomark _)) (pss_one (ps_ret pe_bl)) pss_nil) (pss_one ps_continue)) pss_nil)
        (pss_cons (ps_if (pt_cmpR op_eq (pe_ix ix_tup (pv 7) pe_int (fun _ _ => rfl)) pe_str (nomark _)) (pss_cons (ps_aug (i := 6) scIsOnce.nd rfl (Or.inr rfl) pe_int ip_add) (pss_one (ps_if (pt_cmpR op_gt (pv 6) pe_int (nomark _)) (pss_one (ps_ret pe_bl)) pss_nil))) pss_nil)
        (pss_one (ps_expr (pe_bm PySem.F.plainAttrs_list PySem.F.slot_list_extend PySem.F.type_list_extend mt_extend (pv 3) (pa_cons
          (pe_lc (own := [("follower", 8)]) (g := gName 8) (by rfl) scIsOnce.nd (pi_list (pe_call GF hr rfl mF kF bF .nil pass0 (pa_cons (pv 7) pa_nil))) (blkOk_by (own := [("follower", 8)]) (N := ["rows", "first", "met", "ahead", "place", "number", "times", "row", "follower"]) (sc := defScope sIsOnce) (by decide +kernel)) (fun _ _ _ _ _ => pg_name (i := 8) scIsOnce.nd rfl (Or.inl rfl)) (fun _ _ _ _ _ => pts_nil) (fun _ _ _ _ _ => pe_tup (pa_cons (pv 8) (pa_cons (pv 6) pa_nil)))) pa_nil))))))))))))
      (pss_one (ps_ret pe_bl)))), ?_⟩
    refine ⟨rfl, fun met hmet => ?_⟩
    have s1 : Same H (upd H met (SetTO P w met [])) := same_new hmet
    have m1 : (upd H met (SetTO P w met [])) met = some (SetTO P w met []) := upd_same
    revert s1 m1
    generalize (upd H met (SetTO P w met [])) = H1
    intro s1 m1
    obtain ⟨r0, hr0⟩ : ∃ r, rs[first]? = some r := ⟨_, List.getElem?_eq_getElem fl⟩
    have asl : as.length = rs.length := hrows.length
    have row_at : ∀ i r, rs[i]? = some r → ∃ a, as[i]? = some a ∧ RowAt H r a := fun i r hi => by
      have il : i < as.length := by rw [asl]; exact (List.getElem?_eq_some_iff.mp hi).1
      obtain ⟨b, hb, x⟩ := paired_at hrows (List.getElem?_eq_getElem il)
      rw [hi] at hb
      cases hb
      exact ⟨_, List.getElem?_eq_getElem il, x⟩
    obtain ⟨a0, ha0, hra0⟩ := row_at first r0 hr0
    have low0 := low r0 (List.mem_of_getElem? hr0)
    refine ⟨_, rfl, _, rfl, T, _, _, _, rfl, rfl, SqT.of (s1 _ _ hT), atI_nat (by rw [List.getElem?_map, ha0]; rfl), a0, r0, rs.length, rfl, hra0.mono (fun b xs x => s1 _ _ x) (fun b xs x => s1 _ _ x), low0, fun l0 H2 s2 hl0 hl2 => ?_⟩
    have in_low : ∀ q ∈ ini rs first, q.1 < rs.length ∧ q.2 ≤ 1 := fun q hq => by
      unfold ini at hq
      rw [hr0] at hq
      obtain ⟨z, hz, rfl⟩ := List.mem_map.mp hq
      exact ⟨Row.fol_low low0 z hz, Nat.zero_le _⟩
    refine ⟨l0, rfl, ⟨_, SqL.of hl2⟩, fun D hD => ?_⟩
    refine lc_list (K := K) (a := l0) (xs := r0.fol.map fun (m : Nat) => V.int (m : Nat)) (fun i H3 => ∃ ts : List Addr, H3 D = some (.lst (ts.map V.ref)) ∧ Paired (fun t (p : Nat × Nat) => H3 t = some (.tup [V.int (p.1 : Nat), V.int (p.2 : Nat)])) ts ((r0.fol.take i).map fun q => (q, 0)) ∧ Same H2 H3)
      ⟨[], upd_same, .nil, same_new hD⟩ (fun i H3 _ ⟨_, _, _, e⟩ => SqL.of (e _ _ hl2)) ?_ ?_
    · rintro i y H3 hi ⟨us, hD3, hp3, s3⟩
      rw [List.getElem?_map] at hi
      obtain ⟨z, hz, rfl⟩ : ∃ z : Nat, r0.fol[i]? = some z ∧ y = V.int (z : Nat) := by
        cases e : r0.fol[i]? with
        | none =>
          rw [e] at hi
          cases hi
        | some z =>
          rw [e] at hi
          exact ⟨z, rfl, (Option.some.inj hi).symm⟩
      have ul : us.length ≤ 11 := by
        have h1 := hp3.length
        have h2 := Row.fol_len low0
        rw [List.length_map, List.length_take] at h1
        omega
      refine ⟨rfl, tyes_if ?_⟩
      refine ⟨_, rfl, (by show 2 ≤ sizeLine; decide), fun t1 ht1 => ?_⟩
      have ntD : D ≠ t1 := ne_of_none hD3 ht1
      refine ⟨us.map V.ref, by rw [upd_ne ntD]; exact hD3, small (by rw [List.length_map]; omega), us ++ [t1], ?_, ?_, same_put (same_tr s3 (same_new ht1)) hD⟩
      · rw [upd_same, List.map_append]
        rfl
      · have tk : r0.fol.take (i + 1) = r0.fol.take i ++ [z] := by rw [List.take_add_one, hz]; rfl
        rw [tk, List.map_append]
        refine Paired.snoc (L2.Paired.mapP hp3 fun b p hb => ?_) ?_
        · rw [upd_ne (ne_of hb hD3 (by intro z; cases z)), upd_ne (ne_of_none hb ht1)]
          exact hb
        · rw [upd_ne ntD.symm, upd_same]
          rfl
    · rintro H3 ⟨ts0, hD3, hp3, s3⟩
      rw [List.length_map, List.take_length] at hp3
      have e0 : (r0.fol.map fun q => (q, 0)) = ini rs first := by
        unfold ini
        rw [hr0]
      rw [e0] at hp3
      have hD0 : H D = none := (same_tr s1 s2).free hD
      have nmD : met ≠ D := fun z => by
        rw [z] at m1
        have := s2 _ _ m1
        rw [hD] at this
        cases this
      have il : (ini rs first).length ≤ 11 := by
        rw [← e0, List.length_map]
        exact Row.fol_len low0
      refine ⟨fun m σ H' => ∃ (M : List (Addr × List Int)) (PM A : List (Nat × Nat)) (ts : List Addr) (v4 v5 v6 v7 : Option V), σ = [some (.ref T), some (.int (first : Nat)), some (.ref met), some (.ref D), v4, v5, v6, v7, none] ∧ H' met = some (SetTO P w met M) ∧ (∀ p ∈ M, H' p.1 = some (.tup (p.2.map V.int))) ∧ H' D = some (.lst (ts.map V.ref)) ∧
          Paired (fun t (p : Nat × Nat) => H' t = some (.tup [V.int (p.1 : Nat), V.int (p.2 : Nat)])) ts A ∧ (M.length = PM.length ∧ (∀ p, enc p ∈ M.map (·.2) ↔ p ∈ PM) ∧ PM.Nodup) ∧ (∀ p ∈ PM, p.1 < rs.length ∧ (p.2 ≤ 1 ∧ Rch rs (ini rs first) p) ∧ ∃ qs, nxt rs p = some qs ∧ ∀ q ∈ qs, q ∈ PM ∨ q ∈ A) ∧
          (∀ p ∈ A, p.1 < rs.length ∧ p.2 ≤ 1 ∧ Rch rs (ini rs first) p) ∧ (∀ p ∈ ini rs first, p ∈ PM ∨ p ∈ A) ∧ Same H H' ∧ A.length ≤ 12 * (PM.length + 1) ∧ m = 12 * (100 - PM.length) + A.length,
        ⟨_, [], [], ini rs first, ts0, none, none, none, none, rfl, s3 _ _ (s2 _ _ m1), (fun p h => nomatch h), hD3, hp3, ⟨rfl, fun p => ⟨(fun h => nomatch h), (fun h => nomatch h)⟩, List.nodup_nil⟩, (fun p h => nomatch h), fun p hp => ⟨(in_low p hp).1, (in_low p hp).2, .base hp⟩, fun p hp => .inr hp, same_tr s1 (same_tr s2 s3), by omega, rfl⟩, ?_⟩
      rintro m σ H' ⟨M, PM, A, ts, v4, v5, v6, v7, rfl, hM, tM, hA, pA, ⟨ml, mm, mnd⟩, cl, rA, iA, sH, Al, rfl⟩
      refine ⟨_, rfl, _, .inl ⟨_, SqL.of hA, rfl⟩, ?_⟩
      have PMl : PM.length ≤ 60 := n30 PM mnd fun p hp => ⟨(cl p hp).1, (cl p hp).2.1.1, (cl p hp).2.1.2⟩
      rcases snoc_cases ts with rfl | ⟨ts', t, rfl⟩
      · have A0 : A = [] := by
          cases pA
          rfl
        subst A0
        refine ite_no rfl ?_
        refine k true H' sH ⟨fun _ => ?_, fun _ => rfl⟩
        refine once_of (M := PM) (fun p hp => ?_) fun p hp => ?_
        · rcases iA p hp with h | h
          · exact h
          · cases h
        · obtain ⟨_, _, qs, e1, e2⟩ := cl p hp
          refine ⟨qs, e1, fun q hq => ?_⟩
          rcases e2 q hq with h | h
          · exact h
          · cases h
      · obtain ⟨A', p, rfl, pA', hp⟩ : ∃ (A' : List (Nat × Nat)) (p : Nat × Nat), A = A' ++ [p] ∧ Paired (fun t (p : Nat × Nat) => H' t = some (.tup [V.int (p.1 : Nat), V.int (p.2 : Nat)])) ts' A' ∧ H' t = some (.tup [V.int (p.1 : Nat), V.int (p.2 : Nat)]) := paired_last pA
        obtain ⟨pl, pt, pr⟩ := rA p (List.mem_append_right _ (List.mem_cons_self ..))
        have rA' : ∀ q ∈ A', q.1 < rs.length ∧ q.2 ≤ 1 ∧ Rch rs (ini rs first) q := fun q hq => rA q (List.mem_append_left _ hq)
        have al' : (A' ++ [p]).length = A'.length + 1 := by rw [List.length_append]; rfl
        refine ite_yes (by rw [List.map_append]; cases ts' <;> rfl) ?_
        refine ⟨fun σ' H' => ∃ m', m' < 12 * (100 - PM.length) + (A' ++ [p]).length ∧ (∃ (M : List (Addr × List Int)) (PM A : List (Nat × Nat)) (ts : List Addr) (v4 v5 v6 v7 : Option V), σ' = [some (.ref T), some (.int (first : Nat)), some (.ref met), some (.ref D), v4, v5, v6, v7, none] ∧ H' met = some (SetTO P w met M) ∧ (∀ p ∈ M, H' p.1 = some (.tup (p.2.map V.int))) ∧ H' D = some (.lst (ts.map V.ref)) ∧
          Paired (fun t (p : Nat × Nat) => H' t = some (.tup [V.int (p.1 : Nat), V.int (p.2 : Nat)])) ts A ∧ (M.length = PM.length ∧ (∀ p, enc p ∈ M.map (·.2) ↔ p ∈ PM) ∧ PM.Nodup) ∧ (∀ p ∈ PM, p.1 < rs.length ∧ (p.2 ≤ 1 ∧ Rch rs (ini rs first) p) ∧ ∃ qs, nxt rs p = some qs ∧ ∀ q ∈ qs, q ∈ PM ∨ q ∈ A) ∧
          (∀ p ∈ A, p.1 < rs.length ∧ p.2 ≤ 1 ∧ Rch rs (ini rs first) p) ∧ (∀ p ∈ ini rs first, p ∈ PM ∨ p ∈ A) ∧ Same H H' ∧ A.length ≤ 12 * (PM.length + 1) ∧ m' = 12 * (100 - PM.length) + A.length), fun σ' H' z => z, ?_⟩
        have lastE : ((ts' ++ [t]).map V.ref)[((ts' ++ [t]).map V.ref).length - 1]? = some (V.ref t) := by
          rw [List.map_append]
          show (ts'.map V.ref ++ [V.ref t])[(ts'.map V.ref ++ [V.ref t]).length - 1]? = _
          rw [List.length_append]
          simp
        have dropE : ((ts' ++ [t]).map V.ref).dropLast = ts'.map V.ref := by
          rw [List.map_append]
          exact List.dropLast_concat
        refine ⟨_, rfl, .inl ⟨rfl, _, Or.inl (Or.inl hA)⟩, D, _, V.ref t, rfl, rfl, hA, lastE, ?_⟩
        rw [dropE]
        have s4 : Same H (upd H' D (.lst (ts'.map V.ref))) := same_put sH hD0
        have nmet : met ≠ D := nmD
        have M4 : (upd H' D (.lst (ts'.map V.ref))) met = some (SetTO P w met M) := by
          rw [upd_ne nmet]
          exact hM
        have T4 : ∀ b xs, H' b = some (.tup xs) → (upd H' D (.lst (ts'.map V.ref))) b = some (.tup xs) := fun b xs e => by
          rw [upd_ne (ne_of e hA (by intro z; cases z))]
          exact e
        have D4 : (upd H' D (.lst (ts'.map V.ref))) D = some (.lst (ts'.map V.ref)) := upd_same
        revert s4 M4 T4 D4
        generalize (upd H' D (.lst (ts'.map V.ref))) = H4
        intro s4 M4 T4 D4
        have tM4 := fun q hq => T4 _ _ (tM q hq)
        have hp4 : H4 t = some (.tup ((enc p).map V.int)) := T4 _ _ hp
        have pA4 := L2.Paired.mapP pA' fun b q hb => T4 _ _ hb
        refine ⟨_, rfl, _, rfl, t, met, enc p, M, rfl, rfl, M4, (fun q hq => SqT.of (tM4 q hq)), SqT.of hp4, _, rfl, ?_⟩
        by_cases pin : enc p ∈ M.map (·.2)
        · have pin' := (mm p).mp pin
          have repl : ∀ q, q ∈ PM ∨ q ∈ A' ++ [p] → q ∈ PM ∨ q ∈ A' := fun q h => by
            rcases h with h | h
            · exact .inl h
            · rcases List.mem_append.mp h with h | h
              · exact .inr h
              · cases h with
                | head => exact .inl pin'
                | tail _ h => cases h
          refine ite_yes (decide_eq_true pin) ?_
          refine ⟨12 * (100 - PM.length) + A'.length, by omega, M, PM, A', ts', _, v5, v6, v7, rfl, M4, tM4, D4, pA4, ⟨ml, mm, mnd⟩, fun q hq => ?_, rA', fun q hq => repl q (iA q hq), s4, by omega, rfl⟩
          obtain ⟨c1, c2, qs, c3, c4⟩ := cl q hq
          exact ⟨c1, c2, qs, c3, fun z hz => repl z (c4 z hz)⟩
        · have pout : p ∉ PM := fun z => pin ((mm p).mpr z)
          refine ite_no (decide_eq_false pin) ?_
          refine ⟨_, rfl, ⟨met, M, rfl, M4, fun q hq => SqT.of (tM4 q hq)⟩, _, rfl, t, met, enc p, M, rfl, rfl, M4, (fun q hq => SqT.of (tM4 q hq)), SqT.of hp4, by omega, fun L' _ c2 => ?_⟩
          have perm := c2 pin
          have nmet2 : ∀ b xs, H4 b = some (.tup xs) → b ≠ met := fun b xs e z => by
            rw [z, M4] at e
            cases e
          have s5 : Same H (upd H4 met (SetTO P w met L')) := same_put s4 hmet
          have M5 : (upd H4 met (SetTO P w met L')) met = some (SetTO P w met L') := upd_same
          have T5 : ∀ b xs, H4 b = some (.tup xs) → (upd H4 met (SetTO P w met L')) b = some (.tup xs) := fun b xs e => by
            rw [upd_ne (nmet2 b xs e)]
            exact e
          have D5 : (upd H4 met (SetTO P w met L')) D = some (.lst (ts'.map V.ref)) := by
            rw [upd_ne nmet.symm]
            exact D4
          revert s5 M5 T5 D5
          generalize (upd H4 met (SetTO P w met L')) = H5
          intro s5 M5 T5 D5
          have tM5 : ∀ q ∈ L', H5 q.1 = some (.tup (q.2.map V.int)) := fun q hq => by
            rcases List.mem_cons.mp (perm.mem_iff.mp hq) with h | h
            · rw [h]
              exact T5 _ _ hp4
            · exact T5 _ _ (tM4 q h)
          have pA5 := L2.Paired.mapP pA4 fun b q hb => T5 _ _ hb
          have ml5 : L'.length = (p :: PM).length := by rw [perm.length_eq, List.length_cons, List.length_cons, ml]
          have mm5 : ∀ q, enc q ∈ L'.map (·.2) ↔ q ∈ p :: PM := fun q => by
            rw [(perm.map (·.2)).mem_iff, List.map_cons, List.mem_cons, List.mem_cons, mm q]
            exact ⟨fun h => h.imp enc_inj id, fun h => h.imp (fun e => by rw [e]) id⟩
          have mnd5 : (p :: PM).Nodup := List.nodup_cons.mpr ⟨pout, mnd⟩
          have PMl5 : (p :: PM).length = PM.length + 1 := rfl
          have clo : ∀ (qs A2 : List (Nat × Nat)), nxt rs p = some qs → (∀ q ∈ qs, q ∈ A2) → (∀ q ∈ A', q ∈ A2) → (∀ q ∈ p :: PM, q.1 < rs.length ∧ (q.2 ≤ 1 ∧ Rch rs (ini rs first) q) ∧ ∃ qs, nxt rs q = some qs ∧ ∀ z ∈ qs, z ∈ p :: PM ∨ z ∈ A2) ∧ (∀ q ∈ ini rs first, q ∈ p :: PM ∨ q ∈ A2) := by
            intro qs A2 e1 e2 e3
            have mv : ∀ z, z ∈ PM ∨ z ∈ A' ++ [p] → z ∈ p :: PM ∨ z ∈ A2 := fun z h => by
              rcases h with h | h
              · exact .inl (List.mem_cons_of_mem _ h)
              · rcases List.mem_append.mp h with h | h
                · exact .inr (e3 z h)
                · cases h with
                  | head => exact .inl (List.mem_cons_self ..)
                  | tail _ h => cases h
            refine ⟨fun q hq => ?_, fun q hq => mv q (iA q hq)⟩
            rcases List.mem_cons.mp hq with h | h
            · rw [h]
              exact ⟨pl, ⟨pt, pr⟩, qs, e1, fun z hz => .inr (e2 z hz)⟩
            · obtain ⟨c1, c2, qs2, c3, c4⟩ := cl q h
              exact ⟨c1, c2, qs2, c3, fun z hz => mv z (c4 z hz)⟩
          obtain ⟨r, hr⟩ : ∃ r, rs[p.1]? = some r := ⟨_, List.getElem?_eq_getElem pl⟩
          obtain ⟨a, hia, hra⟩ := row_at p.1 r hr
          have rlow := low r (List.mem_of_getElem? hr)
          have ra5 : RowAt H5 r a := hra.mono (fun b xs x => s5 _ _ x) fun b xs x => s5 _ _ x
          refine ⟨_, rfl, t, _, rfl, SqT.of (T5 _ _ hp4), rfl, _, _, rfl, _, _, rfl, rfl, ?_⟩
          refine ⟨_, rfl, _, rfl, T, _, _, _, rfl, rfl, SqT.of (s5 _ _ hT), atI_nat (by rw [List.getElem?_map, hia]; rfl), ?_⟩
          cases r with
          | rest mm0 =>
            refine ⟨_, rfl, a, _, _, _, rfl, rfl, SqT.of ra5, rfl, rfl, _, rfl, ite_yes (decide_eq_true rfl) ?_⟩
            by_cases z0 : p.2 = 0
            · refine ⟨_, rfl, rfl, _, rfl, ite_yes (decide_eq_true (by rw [z0]; rfl)) ?_⟩
              refine k false H5 s5 ⟨(fun z => nomatch z), fun o => absurd ?_ (o p pr)⟩
              unfold nxt
              rw [hr]
              exact if_pos z0
            · refine ⟨_, rfl, rfl, _, rfl, ite_no (decide_eq_false (fun z => z0 (by injection z with z; omega))) ?_⟩
              have nx0 : nxt rs p = some [] := by
                unfold nxt
                rw [hr]
                exact if_neg z0
              refine ⟨12 * (100 - (PM.length + 1)) + A'.length, by omega, L', p :: PM, A', ts', _, _, _, _, rfl, M5, tM5, D5, pA5, ⟨ml5, mm5, mnd5⟩, (clo [] A' nx0 (fun _ h => nomatch h) (fun _ h => h)).1, rA', (clo [] A' nx0 (fun _ h => nomatch h) (fun _ h => h)).2, s5, by rw [PMl5]; omega, by rw [PMl5]⟩
          | ins mm0 =>
            refine ⟨_, rfl, a, _, _, _, rfl, rfl, SqT.of ra5, rfl, rfl, _, rfl, ite_no (decide_eq_false (by intro z; cases z)) ?_⟩
            refine ⟨_, rfl, a, _, _, _, rfl, rfl, SqT.of ra5, rfl, rfl, _, rfl, ite_yes (decide_eq_true rfl) ?_⟩
            refine ⟨_, rfl, _, _, rfl, rfl, ?_⟩
            by_cases z0 : p.2 = 0
            · refine ⟨_, rfl, _, _, rfl, rfl, _, rfl, ite_no (decide_eq_false (by rw [z0]; decide)) ?_⟩
              have nx0 : nxt rs p = some [(mm0, p.2 + 1)] := by
                unfold nxt
                rw [hr]
                exact if_neg (by omega)
              have nx1 : nxt rs p = some ((Row.ins mm0).fol.map fun q => (q, p.2 + 1)) := nx0
              have fl11 := Row.fol_len rlow
              refine ⟨_, rfl, .inl ⟨rfl, _, Or.inl (Or.inl D5)⟩, _, rfl, a, Row.ins mm0, rs.length, rfl, ra5, rlow, fun l H6 s6 hl hl6 => ⟨l, rfl, ⟨_, SqL.of hl6⟩, fun D2 hD2 => ?_⟩⟩
              refine lc_list (K := K) (a := l) (xs := (Row.ins mm0).fol.map fun (m : Nat) => V.int (m : Nat)) (fun i H7 => ∃ us : List Addr, H7 D2 = some (.lst (us.map V.ref)) ∧ Paired (fun t (q : Nat × Nat) => H7 t = some (.tup [V.int (q.1 : Nat), V.int (q.2 : Nat)])) us (((Row.ins mm0).fol.take i).map fun q => (q, p.2 + 1)) ∧ Same H6 H7)
                ⟨[], upd_same, .nil, same_new hD2⟩ (fun i H7 _ ⟨_, _, _, e⟩ => SqL.of (e _ _ hl6)) ?_ ?_
              · rintro i y H7 hi ⟨us, hD7, hp7, s7⟩
                rw [List.getElem?_map] at hi
                obtain ⟨z, hz, rfl⟩ : ∃ z : Nat, (Row.ins mm0).fol[i]? = some z ∧ y = V.int (z : Nat) := by
                  cases e : (Row.ins mm0).fol[i]? with
                  | none =>
                    rw [e] at hi
                    cases hi
                  | some z =>
                    rw [e] at hi
                    exact ⟨z, rfl, (Option.some.inj hi).symm⟩
                have ul : us.length ≤ 11 := by
                  have h1 := hp7.length
                  rw [List.length_map, List.length_take] at h1
                  omega
                refine ⟨rfl, tyes_if ?_⟩
                refine ⟨_, rfl, _, rfl, (by show 2 ≤ sizeLine; decide), fun t1 ht1 => ?_⟩
                have ntD : D2 ≠ t1 := ne_of_none hD7 ht1
                refine ⟨us.map V.ref, by rw [upd_ne ntD]; exact hD7, small (by rw [List.length_map]; omega), us ++ [t1], ?_, ?_, same_put (same_tr s7 (same_new ht1)) hD2⟩
                · rw [upd_same, List.map_append]
                  rfl
                · have tk : (Row.ins mm0).fol.take (i + 1) = (Row.ins mm0).fol.take i ++ [z] := by rw [List.take_add_one, hz]; rfl
                  rw [tk, List.map_append]
                  refine Paired.snoc (L2.Paired.mapP hp7 fun b q hb => ?_) ?_
                  · rw [upd_ne (ne_of hb hD7 (by intro z; cases z)), upd_ne (ne_of_none hb ht1)]
                    exact hb
                  · rw [upd_ne ntD.symm, upd_same]
                    rfl
              · rintro H7 ⟨us, hD7, hp7, s7⟩
                rw [List.length_map, List.take_length] at hp7
                have s57 := same_tr s6 s7
                have ul := hp7.length
                have tl := pA'.length
                have fl := congrArg List.length (rfl : ((Row.ins mm0).fol.map fun q => (q, p.2 + 1)) = _)
                have qlen : ((Row.ins mm0).fol.map fun q => (q, p.2 + 1)).length ≤ 11 := by rw [List.length_map]; exact fl11
                have D20 : H5 D2 = none := s6.free hD2
                have D0' : ∀ b xs, H7 b = some (.tup xs) → (upd H7 D (.lst (ts'.map V.ref ++ us.map V.ref))) b = some (.tup xs) := fun b xs e => by
                  rw [upd_ne (ne_of e (s57 _ _ D5) (by intro z; cases z))]
                  exact e
                refine ⟨D, D2, _, _, rfl, rfl, s57 _ _ D5, hD7, Nat.le_of_lt (small (by rw [List.length_map, List.length_map]; omega)), ?_⟩
                have cl2 := clo _ (A' ++ ((Row.ins mm0).fol.map fun q => (q, p.2 + 1))) nx1 (fun q hq => List.mem_append_right _ hq) (fun q hq => List.mem_append_left _ hq)
                refine ⟨12 * (100 - (PM.length + 1)) + (A' ++ ((Row.ins mm0).fol.map fun q => (q, p.2 + 1))).length, by rw [List.length_append]; omega, L', p :: PM, A' ++ ((Row.ins mm0).fol.map fun q => (q, p.2 + 1)), ts' ++ us, _, _, _, _, rfl, ?_, fun q hq => D0' _ _ (s57 _ _ (tM5 q hq)), ?_, ?_, ⟨ml5, mm5, mnd5⟩, cl2.1, fun q hq => ?_, cl2.2, same_put (same_tr s5 s57) hD0, by rw [PMl5, List.length_append]; omega, by rw [PMl5]⟩
                · rw [upd_ne nmet]
                  exact s57 _ _ M5
                · rw [upd_same, List.map_append]
                · exact paired_app (L2.Paired.mapP pA5 fun b q hb => D0' _ _ (s57 _ _ hb)) (L2.Paired.mapP hp7 fun b q hb => D0' _ _ hb)
                · rcases List.mem_append.mp hq with h | h
                  · exact rA' q h
                  · obtain ⟨z, hz, rfl⟩ := List.mem_map.mp h
                    exact ⟨Row.fol_low rlow z hz, (by omega), .step pr nx1 h⟩
            · refine ⟨_, rfl, _, _, rfl, rfl, _, rfl, ite_yes (decide_eq_true (show (1 : Int) < ((p.2 : Nat) : Int) + 1 by omega)) ?_⟩
              refine k false H5 s5 ⟨(fun z => nomatch z), fun o => absurd ?_ (o p pr)⟩
              unfold nxt
              rw [hr]
              exact if_pos (by omega)
          | wr x v mm0 =>
            refine ⟨_, rfl, a, _, _, _, rfl, rfl, SqT.of ra5, rfl, rfl, _, rfl, ite_no (decide_eq_false (by intro z; cases z)) ?_⟩
            refine ⟨_, rfl, a, _, _, _, rfl, rfl, SqT.of ra5, rfl, rfl, _, rfl, ite_no (decide_eq_false (by intro z; cases z)) ?_⟩
            have nx0 : nxt rs p = some [(mm0, p.2)] := by
              unfold nxt
              rw [hr]
            have nx1 : nxt rs p = some ((Row.wr x v mm0).fol.map fun q => (q, p.2)) := nx0
            have fl11 := Row.fol_len rlow
            refine ⟨_, rfl, .inl ⟨rfl, _, Or.inl (Or.inl D5)⟩, _, rfl, a, Row.wr x v mm0, rs.length, rfl, ra5, rlow, fun l H6 s6 hl hl6 => ⟨l, rfl, ⟨_, SqL.of hl6⟩, fun D2 hD2 => ?_⟩⟩
            refine lc_list (K := K) (a := l) (xs := (Row.wr x v mm0).fol.map fun (m : Nat) => V.int (m : Nat)) (fun i H7 => ∃ us : List Addr, H7 D2 = some (.lst (us.map V.ref)) ∧ Paired (fun t (q : Nat × Nat) => H7 t = some (.tup [V.int (q.1 : Nat), V.int (q.2 : Nat)])) us (((Row.wr x v mm0).fol.take i).map fun q => (q, p.2)) ∧ Same H6 H7)
              ⟨[], upd_same, .nil, same_new hD2⟩ (fun i H7 _ ⟨_, _, _, e⟩ => SqL.of (e _ _ hl6)) ?_ ?_
            · rintro i y H7 hi ⟨us, hD7, hp7, s7⟩
              rw [List.getElem?_map] at hi
              obtain ⟨z, hz, rfl⟩ : ∃ z : Nat, (Row.wr x v mm0).fol[i]? = some z ∧ y = V.int (z : Nat) := by
                cases e : (Row.wr x v mm0).fol[i]? with
                | none =>
                  rw [e] at hi
                  cases hi
                | some z =>
                  rw [e] at hi
                  exact ⟨z, rfl, (Option.some.inj hi).symm⟩
              have ul : us.length ≤ 11 := by
                have h1 := hp7.length
                rw [List.length_map, List.length_take] at h1
                omega
              refine ⟨rfl, tyes_if ?_⟩
              refine ⟨_, rfl, _, rfl, (by show 2 ≤ sizeLine; decide), fun t1 ht1 => ?_⟩
              have ntD : D2 ≠ t1 := ne_of_none hD7 ht1
              refine ⟨us.map V.ref, by rw [upd_ne ntD]; exact hD7, small (by rw [List.length_map]; omega), us ++ [t1], ?_, ?_, same_put (same_tr s7 (same_new ht1)) hD2⟩
              · rw [upd_same, List.map_append]
                rfl
              · have tk : (Row.wr x v mm0).fol.take (i + 1) = (Row.wr x v mm0).fol.take i ++ [z] := by rw [List.take_add_one, hz]; rfl
                rw [tk, List.map_append]
                refine Paired.snoc (L2.Paired.mapP hp7 fun b q hb => ?_) ?_
                · rw [upd_ne (ne_of hb hD7 (by intro z; cases z)), upd_ne (ne_of_none hb ht1)]
                  exact hb
                · rw [upd_ne ntD.symm, upd_same]
                  try rfl
            · rintro H7 ⟨us, hD7, hp7, s7⟩
              rw [List.length_map, List.take_length] at hp7
              have s57 := same_tr s6 s7
              have ul := hp7.length
              have tl := pA'.length
              have fl := congrArg List.length (rfl : ((Row.wr x v mm0).fol.map fun q => (q, p.2)) = _)
              have qlen : ((Row.wr x v mm0).fol.map fun q => (q, p.2)).length ≤ 11 := by rw [List.length_map]; exact fl11
              have D20 : H5 D2 = none := s6.free hD2
              have D0' : ∀ b xs, H7 b = some (.tup xs) → (upd H7 D (.lst (ts'.map V.ref ++ us.map V.ref))) b = some (.tup xs) := fun b xs e => by
                rw [upd_ne (ne_of e (s57 _ _ D5) (by intro z; cases z))]
                exact e
              refine ⟨D, D2, _, _, rfl, rfl, s57 _ _ D5, hD7, Nat.le_of_lt (small (by rw [List.length_map, List.length_map]; omega)), ?_⟩
              have cl2 := clo _ (A' ++ ((Row.wr x v mm0).fol.map fun q => (q, p.2))) nx1 (fun q hq => List.mem_append_right _ hq) (fun q hq => List.mem_append_left _ hq)
              refine ⟨12 * (100 - (PM.length + 1)) + (A' ++ ((Row.wr x v mm0).fol.map fun q => (q, p.2))).length, by rw [List.length_append]; omega, L', p :: PM, A' ++ ((Row.wr x v mm0).fol.map fun q => (q, p.2)), ts' ++ us, _, _, _, _, rfl, ?_, fun q hq => D0' _ _ (s57 _ _ (tM5 q hq)), ?_, ?_, ⟨ml5, mm5, mnd5⟩, cl2.1, fun q hq => ?_, cl2.2, same_put (same_tr s5 s57) hD0, by rw [PMl5, List.length_append]; omega, by rw [PMl5]⟩
              · rw [upd_ne nmet]
                exact s57 _ _ M5
              · rw [upd_same, List.map_append]
              · exact paired_app (L2.Paired.mapP pA5 fun b q hb => D0' _ _ (s57 _ _ hb)) (L2.Paired.mapP hp7 fun b q hb => D0' _ _ hb)
              · rcases List.mem_append.mp hq with h | h
                · exact rA' q h
                · obtain ⟨z, hz, rfl⟩ := List.mem_map.mp h
                  exact ⟨Row.fol_low rlow z hz, pt, .step pr nx1 h⟩
          | rd x cs mm0 =>
            obtain ⟨dd, q1, q2⟩ := id ra5
            refine ⟨_, rfl, a, _, _, _, rfl, rfl, SqT.of q1, rfl, rfl, _, rfl, ite_no (decide_eq_false (by intro z; cases z)) ?_⟩
            refine ⟨_, rfl, a, _, _, _, rfl, rfl, SqT.of q1, rfl, rfl, _, rfl, ite_no (decide_eq_false (by intro z; cases z)) ?_⟩
            have nx0 : nxt rs p = some ((cs.map (·.2) ++ [mm0]).map fun q => (q, p.2)) := by
              unfold nxt
              rw [hr]
            have nx1 : nxt rs p = some ((Row.rd x cs mm0).fol.map fun q => (q, p.2)) := nx0
            have fl11 := Row.fol_len rlow
            refine ⟨_, rfl, .inl ⟨rfl, _, Or.inl (Or.inl D5)⟩, _, rfl, a, Row.rd x cs mm0, rs.length, rfl, ra5, rlow, fun l H6 s6 hl hl6 => ⟨l, rfl, ⟨_, SqL.of hl6⟩, fun D2 hD2 => ?_⟩⟩
            refine lc_list (K := K) (a := l) (xs := (Row.rd x cs mm0).fol.map fun (m : Nat) => V.int (m : Nat)) (fun i H7 => ∃ us : List Addr, H7 D2 = some (.lst (us.map V.ref)) ∧ Paired (fun t (q : Nat × Nat) => H7 t = some (.tup [V.int (q.1 : Nat), V.int (q.2 : Nat)])) us (((Row.rd x cs mm0).fol.take i).map fun q => (q, p.2)) ∧ Same H6 H7)
              ⟨[], upd_same, .nil, same_new hD2⟩ (fun i H7 _ ⟨_, _, _, e⟩ => SqL.of (e _ _ hl6)) ?_ ?_
            · rintro i y H7 hi ⟨us, hD7, hp7, s7⟩
              rw [List.getElem?_map] at hi
              obtain ⟨z, hz, rfl⟩ : ∃ z : Nat, (Row.rd x cs mm0).fol[i]? = some z ∧ y = V.int (z : Nat) := by
                cases e : (Row.rd x cs mm0).fol[i]? with
                | none =>
                  rw [e] at hi
                  cases hi
                | some z =>
                  rw [e] at hi
                  exact ⟨z, rfl, (Option.some.inj hi).symm⟩
              have ul : us.length ≤ 11 := by
                have h1 := hp7.length
                rw [List.length_map, List.length_take] at h1
                omega
              refine ⟨rfl, tyes_if ?_⟩
              refine ⟨_, rfl, _, rfl, (by show 2 ≤ sizeLine; decide), fun t1 ht1 => ?_⟩
              have ntD : D2 ≠ t1 := ne_of_none hD7 ht1
              refine ⟨us.map V.ref, by rw [upd_ne ntD]; exact hD7, small (by rw [List.length_map]; omega), us ++ [t1], ?_, ?_, same_put (same_tr s7 (same_new ht1)) hD2⟩
              · rw [upd_same, List.map_append]
                rfl
              · have tk : (Row.rd x cs mm0).fol.take (i + 1) = (Row.rd x cs mm0).fol.take i ++ [z] := by rw [List.take_add_one, hz]; rfl
                rw [tk, List.map_append]
                refine Paired.snoc (L2.Paired.mapP hp7 fun b q hb => ?_) ?_
                · rw [upd_ne (ne_of hb hD7 (by intro z; cases z)), upd_ne (ne_of_none hb ht1)]
                  exact hb
                · rw [upd_ne ntD.symm, upd_same]
                  try rfl
            · rintro H7 ⟨us, hD7, hp7, s7⟩
              rw [List.length_map, List.take_length] at hp7
              have s57 := same_tr s6 s7
              have ul := hp7.length
              have tl := pA'.length
              have fl := congrArg List.length (rfl : ((Row.rd x cs mm0).fol.map fun q => (q, p.2)) = _)
              have qlen : ((Row.rd x cs mm0).fol.map fun q => (q, p.2)).length ≤ 11 := by rw [List.length_map]; exact fl11
              have D20 : H5 D2 = none := s6.free hD2
              have D0' : ∀ b xs, H7 b = some (.tup xs) → (upd H7 D (.lst (ts'.map V.ref ++ us.map V.ref))) b = some (.tup xs) := fun b xs e => by
                rw [upd_ne (ne_of e (s57 _ _ D5) (by intro z; cases z))]
                exact e
              refine ⟨D, D2, _, _, rfl, rfl, s57 _ _ D5, hD7, Nat.le_of_lt (small (by rw [List.length_map, List.length_map]; omega)), ?_⟩
              have cl2 := clo _ (A' ++ ((Row.rd x cs mm0).fol.map fun q => (q, p.2))) nx1 (fun q hq => List.mem_append_right _ hq) (fun q hq => List.mem_append_left _ hq)
              refine ⟨12 * (100 - (PM.length + 1)) + (A' ++ ((Row.rd x cs mm0).fol.map fun q => (q, p.2))).length, by rw [List.length_append]; omega, L', p :: PM, A' ++ ((Row.rd x cs mm0).fol.map fun q => (q, p.2)), ts' ++ us, _, _, _, _, rfl, ?_, fun q hq => D0' _ _ (s57 _ _ (tM5 q hq)), ?_, ?_, ⟨ml5, mm5, mnd5⟩, cl2.1, fun q hq => ?_, cl2.2, same_put (same_tr s5 s57) hD0, by rw [PMl5, List.length_append]; omega, by rw [PMl5]⟩
              · rw [upd_ne nmet]
                exact s57 _ _ M5
              · rw [upd_same, List.map_append]
              · exact paired_app (L2.Paired.mapP pA5 fun b q hb => D0' _ _ (s57 _ _ hb)) (L2.Paired.mapP hp7 fun b q hb => D0' _ _ hb)
              · rcases List.mem_append.mp hq with h | h
                · exact rA' q h
                · obtain ⟨z, hz, rfl⟩ := List.mem_map.mp h
                  exact ⟨Row.fol_low rlow z hz, pt, .step pr nx1 h⟩
end
end CC
set_option Elab.async false
set_option maxRecDepth 100000
namespace CC
open PySem PySem.Spec PyProof.Rows L2
set_option linter.unusedVariables false
/-! ### a def read off an own class, called: C.m(e, ..) -/
structure ClsFn (K : PySem.W.Frag) (C : Addr) (m : Str) (f : Addr) : Prop where
  ga : PySem.W.specialIn K (.ref C) "__getattribute__" = some (some (.builtin "type.__getattribute__"))
  rd : PySem.W.readsIn K C (.type "type") = true
  at_ : PySem.W.findCls K (.ref C) (.type "type") m = some (.val (.ref f))
section
variable {X : Cx} {e : Expr} {es : List Expr} {t : TA} {apos np pos : Pos} {CX : CXT} {x m : Str} {C f : Addr} {k : Nat} {fd : FuncData} {ps : List Str} {sp : Sp} {ds : List Value} {dvs : List V} {E : XK}
theorem pe_clsfn {pl : Sem Bool} (c : ClsFn X.K C m f) (F : FnOk X.prog X.w X.K X.mg X.base CX k f fd ps sp) (hr : Room k X.A) (hg : Gl X x) (hm : X.mg x = some (.ref C)) (hk : PySem.W.keepIn X.K (.ref f) = true) (hb : L2.Binds X.K fd ps ds) (hd : Vals dvs ds) (hx : Passes CX X E)
    (ha : PA X (e :: es) t) (hdb : (x == ("__debug__" : Str)) = false := by decide)
    (ht : eval (.Call (.Attribute (.Name x np) m apos) (e :: es) [] pos) X.env = (do let ov ← eval (.Name x np) X.env; standAt apos.atName; let (f, first) ← holding [ov] (getMethod ov m pl); callWith pos f first (backTo pos (starEach (e :: es) X.env)) (backToKw pos (keywordEach [] X.env))) := by rfl)
    (he : starEach (e :: es) X.env = (false, eval e X.env) :: starEach es X.env := by rfl) (hpl : (backTo pos (starEach es X.env)).any (·.1) = false := by rfl) :
    PE X (.Call (.Attribute (.Name x np) m apos) (e :: es) [] pos) (tCall sp dvs E t) := by
  refine ⟨fun pins s σ H Q I h => ?_⟩
  refine PySem.W.methodCall_KW (pl := pl) (ld_glob I hg hm ?_ hdb) ht
  refine PySem.W.method_cls I.kIn c.ga (PySem.W.cls_value I.kIn c.rd c.at_ rfl ?_)
  have I2 : Inv X pins σ H { s with toks := s.toks + 1 } := I.tok _
  show wpAny _ _ (callWith pos (Value.ref f) [] (backTo pos (starEach (e :: es) X.env)) []) _ _ _
  refine PySem.W.callWith_K (h₀ := X.base) I.ok.mod.kin hk (thn (ha.run pos pins _ σ H _ I2 h) fun us s1 ⟨vs, H1, I1, r, q⟩ => ⟨I1.kIn, ?_⟩) he hpl
  exact run_fn F hr hb hd hx I1 r q
end
/-! ### the errors -/
abbrev sShown : Stmt := top 3
abbrev sCellInit : Stmt := inClass (top 4) 0
abbrev sNotInit : Stmt := inClass (top 6) 0
def spShown : Sp := fun vs H Q _ => (∃ z : Str, vs = [.str z] ∧ Q (.str z) H) ∨ ∃ i : Int, vs = [.int i] ∧ 0 ≤ i ∧ i < 100000 ∧ Q (.str (toString i)) H
/-- CellError's own: the exception at a stays as it is -/
def spCellInit (K : PySem.W.Frag) : Sp := fun vs H Q _ => ∃ (a C : Addr) (z : Str), vs = [.ref a, .str z] ∧ OexC K C ∧ H a = some (exo a C none) ∧ Q .non H
def spNotInit (K : PySem.W.Frag) (C : Addr) : Sp := fun vs H Q _ => ∃ (a : Addr) (i : Int), vs = [.ref a, .int i] ∧ OexC K C ∧ H a = some (exo a C none) ∧ 0 ≤ i ∧ i < 100000 ∧
  ∀ dx, H dx = none → dx ≠ a → Q .non (upd (upd H dx (exd dx [("row", .int i)])) a (exo a C (some dx)))
section
variable {P : Program} {w : World} {K : PySem.W.Frag} {mg : Str → Option Value} {base : Heap} {t1 : Tok}
theorem log_small {i : Int} (h0 : 0 ≤ i) (h1 : i < 100000) : i.natAbs.log2 < 1920 := by
  by_cases z : i.natAbs = 0
  · rw [z]
    decide
  · have : i.natAbs.log2 < 17 := (Nat.log2_lt z).mpr (by omega)
    omega
theorem scShown : FnScope ["value"] ["value"] (defScope sShown) := ⟨rfl, rfl, rfl, by decide +kernel, rfl, by decide +kernel, by decide +kernel⟩
theorem ok_shown {f : Addr} {fd : FuncData} (F : Fun K "shown" "shown" sShown f fd) (ti : mg "isinstance" = none) (ts : mg "str" = none) (tn : mg "int" = none) (ta : mg "abs" = none) (mS : mg "SHOWN_BELOW" = some (.int 1000000000000 t1)) :
    FnOk P w K mg base CX0 1 f fd ["value"] spShown := by
  refine F.ok scShown (fun vs H Q E h => ?_) (fun cdv A outer s H vs Q E hr h => ?_)
  · rcases h with ⟨z, rfl, _⟩ | ⟨i, rfl, _⟩
    · rfl
    · rfl
  · refine ⟨_, pss_cons (ps_if (pt_val (pe_callB call_isi (by rfl) ti (by decide +kernel) (pa_cons (pv 0) (pa_cons (pe_bltn (v := .ty "str") (by rfl) ts (by decide +kernel) rfl) pa_nil)))) (pss_one (ps_ret (pv 0))) pss_nil)
      (pss_cons (ps_if (PW.pt (pw_and (pt_val (pe_callB call_isi (by rfl) ti (by decide +kernel) (pa_cons (pv 0) (pa_cons (pe_bltn (v := .ty "int") (by rfl) tn (by decide +kernel) rfl) pa_nil)))) (pw_and1 (pt_cmpR op_lt (pe_callB call_abs (by rfl) ta (by decide +kernel) (pa_cons (pv 0) pa_nil)) (pe_glob (v := .int 1000000000000) rfl mS ⟨_, rfl⟩) (nomark _)))))
        (pss_one (ps_ret (pe_callTy call_str_int (by rfl) ts (by decide +kernel) (pa_cons (pv 0) pa_nil)))) pss_nil)
      (pss_one (ps_ret pe_str))), ?_⟩
    rcases h with ⟨z, rfl, q⟩ | ⟨i, rfl, i0, i1, q⟩
    · exact ⟨_, rfl, _, _, _, _, true, rfl, .ty _, .base (.str z), kit_ty (by decide +kernel), true, rfl, iteT ⟨_, rfl, q⟩⟩
    · refine ⟨_, rfl, _, _, _, _, false, rfl, .ty _, .base (.int i), kit_ty (by decide +kernel), false, rfl, iteF ?_⟩
      refine ⟨_, rfl, _, _, _, _, true, rfl, .ty _, .base (.int i), kit_ty (by decide +kernel), true, rfl, iteT ?_⟩
      refine ⟨_, rfl, i, rfl, ?_⟩
      rw [if_neg (show ¬ i < 0 by omega)]
      refine ⟨_, _, rfl, rfl, _, rfl, ite_yes (decide_eq_true (show i < 1000000000000 by omega)) ?_⟩
      exact ⟨_, rfl, i, rfl, log_small i0 i1, q⟩
theorem scCellInit : FnScope ["self", "why"] ["self", "why"] (defScope sCellInit) := ⟨rfl, rfl, rfl, by decide +kernel, rfl, by decide +kernel, by decide +kernel⟩
theorem ok_cellinit {f fS : Addr} {fd fdS : FuncData} (F : FunD K "__init__" "CellError.__init__" (defArgs sCellInit) (defBody sCellInit) (defScope sCellInit) [V.str ""] [] f fd)
    (GS : FnOk P w K mg base CX0 1 fS fdS ["value"] spShown) (mS : mg "shown" = some (.ref fS)) (kS : PySem.W.keepIn K (.ref fS) = true) (bS : L2.Binds K fdS ["value"] []) (tv : mg "ValueError" = none)
    (vV : PySem.W.findCls K (.type "ValueError") (.type "type") "__init__" = some (.val (.builtin "ValueError.__init__"))) :
    FnOk P w K mg base CX0 2 f fd ["self", "why"] (spCellInit K) := by
  refine F.ok scCellInit (fun vs H Q E h => ?_) (fun cdv A outer s H vs Q E hr h => ?_)
  · obtain ⟨a, C, z, rfl, _⟩ := h
    rfl
  · obtain ⟨a, C, z, rfl, T, ha, q⟩ := h
    refine ⟨_, pss_one (ps_expr (pe_veinit (by rfl) tv vV (pa_cons (pv 0) (pa_cons (pe_call GS hr rfl mS kS bS .nil pass0 (pa_cons (pv 1) pa_nil)) pa_nil)))), ?_⟩
    exact ⟨_, rfl, _, rfl, .inl ⟨z, rfl, a, C, [V.str z], rfl, (by show 1 ≤ 1000; decide), T, ha, q⟩⟩
theorem scNotInit : FnScope ["self", "row"] ["self", "row"] (defScope sNotInit) := ⟨rfl, rfl, rfl, by decide +kernel, rfl, by decide +kernel, by decide +kernel⟩
theorem ok_notinit {f fS fC CE C : Addr} {fd fdS fdC : FuncData} (F : Fun K "__init__" "NotOnce.__init__" sNotInit f fd)
    (GS : FnOk P w K mg base CX0 1 fS fdS ["value"] spShown) (mS : mg "shown" = some (.ref fS)) (kS : PySem.W.keepIn K (.ref fS) = true) (bS : L2.Binds K fdS ["value"] [])
    (GC : FnOk P w K mg base CX0 2 fC fdC ["self", "why"] (spCellInit K)) (mC : mg "CellError" = some (.ref CE)) (c : ClsFn K CE "__init__" fC) (kC : PySem.W.keepIn K (.ref fC) = true) (bC : L2.Binds K fdC ["self", "why"] [])
    (nR : PySem.W.findIn K (.ref C) "row" = some none) :
    FnOk P w K mg base CX0 3 f fd ["self", "row"] (spNotInit K C) := by
  refine F.ok scNotInit (fun vs H Q E h => ?_) (fun cdv A outer s H vs Q E hr h => ?_)
  · obtain ⟨a, i, rfl, _⟩ := h
    rfl
  · obtain ⟨a, i, rfl, T, ha, i0, i1, q⟩ := h
    have hr1 : Room 1 _ := hr.mono (by decide)
    refine ⟨_, pss_cons (ps_expr (pe_clsfn c GC hr rfl mC kC bC .nil pass0 (pa_cons (pv 0) (pa_cons (pe_joined (PJ.cons pe_str (PJ.cons (pe_fmt (pe_call GS hr1 rfl mS kS bS .nil pass0 (pa_cons (pv 1) pa_nil))) (PJ.cons pe_str PJ.nil)))) pa_nil))))
      (pss_one (ps_ost (pv 0) (pv 1))), ?_⟩
    have ln := PyProof.Rows.int_text_len_1921 (log_small i0 i1)
    have c1 : (Str.empty ++ Str.ofString "who begins at row ").length = 18 := by decide +kernel
    have c2 : (Str.ofString " is perhaps not inside just once").length = 32 := by decide +kernel
    refine ⟨_, rfl, _, rfl, (by decide +kernel), _, rfl, .inr ⟨i, rfl, i0, i1, .inl ⟨_, rfl, ?_, _, rfl, ?_, _, rfl, ?_, ?_⟩⟩⟩
    · exact Nat.le_trans ln (by decide)
    · rw [PySem.Str.length_append, c1, PySem.sizeLine_eq]
      omega
    · rw [PySem.Str.length_append, PySem.Str.length_append, c1, c2, PySem.sizeLine_eq]
      omega
    · exact ⟨a, C, _, rfl, T, ha, _, rfl, _, rfl, a, C, rfl, T, nR, .inl ⟨ha, fun dx hdx n => q dx hdx n⟩⟩
end
end CC
set_option Elab.async false
set_option maxRecDepth 100000
namespace CC
open PySem L2
set_option linter.unusedVariables false
/-! ### the same rows in another order of the cases -/
theorem RSim.fol {r r' : Row} (h : RSim r r') : ∀ q, q ∈ r.fol ↔ q ∈ r'.fol := by
  intro q
  cases r <;> cases r' <;> try exact h.elim
  · have e : _ = _ := h
    rw [e]
  · have e : _ = _ := h
    rw [e]
  · rw [show Row.fol (.wr _ _ _) = _ from rfl, h.2.2]
    rfl
  · obtain ⟨_, h2, h3⟩ := h
    show q ∈ _ ++ _ ↔ q ∈ _ ++ _
    rw [List.mem_append, List.mem_append, (h2.map (·.2)).mem_iff, h3]
theorem nxt_sim {rs rs' : List Row} (h : Paired RSim rs rs') (p : Nat × Nat) : (nxt rs p = none ↔ nxt rs' p = none) ∧ ∀ qs qs', nxt rs p = some qs → nxt rs' p = some qs' → ∀ q, q ∈ qs ↔ q ∈ qs' := by
  cases e : rs[p.1]? with
  | none =>
    have e' : rs'[p.1]? = none := by
      rw [List.getElem?_eq_none_iff] at e ⊢
      have := h.length
      omega
    unfold nxt
    rw [e, e']
    exact ⟨⟨fun _ => rfl, fun _ => rfl⟩, fun qs qs' a => by cases a⟩
  | some r =>
    obtain ⟨r', e', hs⟩ := paired_at h e
    unfold nxt
    rw [e, e']
    have hf := hs.fol
    cases r <;> cases r' <;> try exact hs.elim
    · dsimp only
      split
      · exact ⟨⟨fun _ => rfl, fun _ => rfl⟩, fun qs qs' a => by cases a⟩
      · exact ⟨⟨(fun z => nomatch z), (fun z => nomatch z)⟩, fun qs qs' a b q => by cases a; cases b; exact Iff.rfl⟩
    · dsimp only
      have e2 : _ = _ := hs
      split
      · exact ⟨⟨fun _ => rfl, fun _ => rfl⟩, fun qs qs' a => by cases a⟩
      · exact ⟨⟨(fun z => nomatch z), (fun z => nomatch z)⟩, fun qs qs' a b q => by cases a; cases b; rw [e2]⟩
    · dsimp only
      exact ⟨⟨(fun z => nomatch z), (fun z => nomatch z)⟩, fun qs qs' a b q => by cases a; cases b; rw [hs.2.2]⟩
    · dsimp only
      refine ⟨⟨(fun z => nomatch z), (fun z => nomatch z)⟩, fun qs qs' a b q => ?_⟩
      cases a
      cases b
      rw [List.mem_map, List.mem_map]
      exact ⟨fun ⟨z, hz, e⟩ => ⟨z, (hf z).mp hz, e⟩, fun ⟨z, hz, e⟩ => ⟨z, (hf z).mpr hz, e⟩⟩
theorem RSim.symm {r r' : Row} (h : RSim r r') : RSim r' r := by
  cases r <;> cases r' <;> try exact h.elim
  · exact Eq.symm h
  · exact Eq.symm h
  · exact ⟨h.1.symm, h.2.1.symm, h.2.2.symm⟩
  · exact ⟨h.1.symm, h.2.1.symm, h.2.2.symm⟩
theorem paired_flip {α β : Type} {F : α → β → Prop} : ∀ {l : List α} {m : List β}, Paired F l m → Paired (fun b a => F a b) m l
  | _, _, .nil => .nil
  | _, _, .cons h t => .cons h (paired_flip t)
theorem rch_sim {rs rs' : List Row} (h : Paired RSim rs rs') {first : Nat} {p : Nat × Nat} (hp : Rch rs (ini rs first) p) (o : ∀ q, Rch rs (ini rs first) q → nxt rs q ≠ none) : Rch rs' (ini rs' first) p := by
  induction hp with
  | @base p hp =>
    refine .base ?_
    unfold ini at hp ⊢
    cases e : rs[first]? with
    | none =>
      rw [e] at hp
      cases hp
    | some r =>
      rw [e] at hp
      obtain ⟨r', e', hs⟩ := paired_at h e
      rw [e']
      obtain ⟨z, hz, rfl⟩ := List.mem_map.mp hp
      exact List.mem_map.mpr ⟨z, (hs.fol z).mp hz, rfl⟩
  | @step p q qs r e hq ih =>
    cases e' : nxt rs' p with
    | none =>
      rw [((nxt_sim h p).1).mpr e'] at e
      cases e
    | some qs' => exact .step ih e' (((nxt_sim h p).2 qs qs' e e' q).mp hq)
theorem sim_sym {rs rs' : List Row} (h : Paired RSim rs rs') : Paired RSim rs' rs := L2.Paired.mapP (paired_flip h) fun a b e => e.symm
theorem once_sim {rs rs' : List Row} (h : Paired RSim rs rs') (first : Nat) (o : Once rs first) : Once rs' first := by
  intro p hp z
  have key : ∀ {p}, Rch rs' (ini rs' first) p → Rch rs (ini rs first) p := by
    intro p hp
    induction hp with
    | @base p hp =>
      have h2 := sim_sym h
      refine .base ?_
      unfold ini at hp ⊢
      cases e : rs'[first]? with
      | none =>
        rw [e] at hp
        cases hp
      | some r =>
        rw [e] at hp
        obtain ⟨r', e', hs⟩ := paired_at h2 e
        rw [e']
        obtain ⟨z, hz, rfl⟩ := List.mem_map.mp hp
        exact List.mem_map.mpr ⟨z, (hs.fol z).mp hz, rfl⟩
    | @step p q qs r e hq ih =>
      cases e' : nxt rs p with
      | none => exact absurd e' (o p ih)
      | some qs' => exact .step ih e' (((nxt_sim h p).2 qs' qs e' e q).mpr hq)
  exact o p (key hp) (((nxt_sim h p).1).mpr z)
theorem once_iff {rs rs' : List Row} (h : Paired RSim rs rs') (first : Nat) : Once rs first ↔ Once rs' first := ⟨once_sim h first, once_sim (sim_sym h) first⟩
end CC
set_option Elab.async false
set_option maxRecDepth 100000
namespace CC
open PySem PySem.Spec PyProof.Rows L2
set_option linter.unusedVariables false
/-! ### a dict whose one key is a truth value -/
def DB (P : Program) (w : World) (d : Addr) (ep : Nat) : HO := .ext fun h => (d == sysModules) = false ∧ ∃ t, h.DictAt (PpSet.boolK P w) d [(true, Value.int 0 t)] ep
theorem DB.ok {P : Program} {w : World} {H : Hp} {h : Heap} {d : Addr} {ep : Nat} {t : Tok} (n : (d == sysModules) = false) (x : h.DictAt (PpSet.boolK P w) d [(true, Value.int 0 t)] ep) : ObjOk P w H h d (DB P w d ep) := by
  refine ⟨⟨n, t, x⟩, ?_, fun a b ⟨n', t', x'⟩ k => ⟨n', t', Heap.DictAt.at' x' k⟩⟩
  obtain ⟨o, _, ho, _⟩ := x
  exact ⟨o, ho⟩
section
variable {X : Cx} {pins : List (Addr × Obj)} {σ : L2.St} {H : Hp} {s : Shared} {d : Addr} {ep : Nat}
theorem DB.at_ (I : Inv X pins σ H s) (e : H d = some (DB X.prog X.w d ep)) : (d == sysModules) = false ∧ ∃ t, s.heap.DictAt (PpSet.boolK X.prog X.w) d [(true, Value.int 0 t)] ep := (I.hok d _ e).1
def tDB (P : Program) (w : World) : TE := fun σ H Q => ∀ d ep, H d = none → Q (.ref d) (upd H d (DB P w d ep))
theorem pe_db {pos p1 p2 : Pos} {i j : Nat} : PE X (.Dict [some (.Constant (.bool true) i p1)] [.Constant (.int 0) j p2] pos) (tDB X.prog X.w) := by
  refine ⟨fun pins s σ H Q I q => ?_⟩
  have free := I.hok.fresh (Nat.le_refl s.heap.objs.size)
  have J := I.laid (a := s.heap.objs.size) (o := .dK []) (h' := s.heap.push { cls := .type "dict", data := .dict #[] }) (t' := s.toks) (fun _ _ z => Heap.get?_push_of_some _ z) (Nat.le_refl _) (dk_empty s.heap I.big)
  have pp : PPs X pos [some (.Constant (.bool true) i p1)] [.Constant (.int 0) j p2] [(tC (.bl true), tC (.int 0))] := pps_cons pe_bl pe_int pps_nil
  refine wpAny_Dict_walk (knd := PpSet.boolK X.prog X.w) rfl rfl (by intro z; cases z) (by show 1 ≤ 15; decide) (thn (pp.run pins _ σ _ (fun ps H2 => ps = [(V.bl true, V.int 0)] ∧ H2 = upd H s.heap.objs.size (.dK [])) J ⟨rfl, rfl⟩) fun ws s2 ⟨ps, H2, I2, rel, e1, e2⟩ => ?_)
  subst e1 e2
  cases rel with
  | @cons _ pr _ _ hd tl =>
    cases tl
    obtain ⟨u, v⟩ := pr
    obtain ⟨r1, t, r2⟩ := hd
    cases (show u = Value.bool true from r1)
    cases (show v = Value.int 0 t from r2)
    have at0 : (upd H s.heap.objs.size (.dK [])) s.heap.objs.size = some (.dK []) := upd_same
    obtain ⟨z, nm, vs0, r0, dd⟩ := dk_of I2.hok at0
    cases r0
    obtain ⟨o, es, ep0, ho, hx, hdt, _, pr, _⟩ := dd
    have e0 : es.toList = [] := by
      generalize es.toList = l at pr
      cases pr
      rfl
    have dd2 : s2.heap.DictOf (PpSet.boolK X.prog X.w) s.heap.objs.size [] := ⟨o, es, ep0, ho, hx, hdt, fun e he => absurd he (by
      rw [← Array.mem_toList_iff, e0]
      exact List.not_mem_nil), by rw [e0]; exact .nil, List.nodup_nil⟩
    refine ⟨[(true, Value.int 0 t)], ⟨PpSet.boolK_is _ _ true, rfl, True.intro⟩, dd2, fun h' fin sb => ?_⟩
    obtain ⟨o2, es2, ep2, ho2, rest⟩ := fin
    refine ⟨.ref s.heap.objs.size, _, d_write I2 (by rw [at0]; exact True.intro) sb ⟨o2, ho2⟩ (DB.ok nm ⟨o2, es2, ho2, rest⟩), rfl, ?_⟩
    have eu : upd (upd H s.heap.objs.size (.dK [])) s.heap.objs.size (DB X.prog X.w s.heap.objs.size ep2) = upd H s.heap.objs.size (DB X.prog X.w s.heap.objs.size ep2) := by
      funext b
      by_cases hb : b = s.heap.objs.size
      · rw [hb, upd_same, upd_same]
      · rw [upd_ne hb, upd_ne hb, upd_ne hb]
    rw [eu]
    exact q _ _ free
end
end CC
set_option Elab.async false
set_option maxRecDepth 100000
namespace CC
open PySem PySem.Spec PyProof.Rows L2
set_option linter.unusedVariables false
/-! ### walks over such a dict -/
def ItkB (P : Program) (w : World) (d : Addr) (ep : Nat) : It :=
  ⟨fun i H => H d = some (DB P w d ep) ∧ i < 1, fun i H x H' => H' = H ∧ x = .bl true, fun i H => H d = some (DB P w d ep) ∧ 1 ≤ i⟩
def ItiB (P : Program) (w : World) (d : Addr) (ep : Nat) : It :=
  ⟨fun i H => H d = some (DB P w d ep) ∧ i < 1, fun i H x H' => ∃ T, x = .ref T ∧ H T = none ∧ H' = upd H T (.tup [.bl true, .int 0]), fun i H => H d = some (DB P w d ep) ∧ 1 ≤ i⟩
section
variable {P : Program} {w : World} {K : PySem.W.Frag} {tg : Expr} {d : Addr} {ep : Nat}
theorem turn_keysB (it : Addr) : Turn P w K tg (ItkB P w d ep) [it] it (fun i h => h.IsKeyIter it d i 1 ep) := by
  refine ⟨by simp, fun i h st b hb => ?_, fun i h h' st k => st.at fun oi e => k it (by simp) oi e, ?_, ?_, fun A i s Q E st h => wpAny_pyIter_keyiter st h⟩
  · obtain rfl : b = it := by simpa using hb
    obtain ⟨oi, e, _, dat⟩ := st
    exact ⟨oi, e, fun v z => by rw [dat] at z; cases z⟩
  · rintro X rfl rfl rfl calm i pins s σ H E I own st ⟨hd, hi⟩
    obtain rfl : i = 0 := by omega
    obtain ⟨p0, p1, p2, p3, p4, p5⟩ := own it (by simp)
    obtain ⟨_, t, dat⟩ := DB.at_ I hd
    refine wpAny_pyNext_dict_item (kvs := [(true, Value.int 0 t)]) st dat rfl fun key h' isk st2 sb => ?_
    have J : Inv X pins σ H { s with heap := h' } := I.turned (t' := s.toks) (fun b o hb e => (sb.2 b hb).trans e) p0 p1 p3 p4 p5
    obtain ⟨oi, e, cl, fl⟩ := id st2
    exact ⟨key, rfl, go_of (s := { s with heap := h' }) e cl fl (by decide) ⟨.bl true, H, J, PpSet.isB_shape isk, ⟨rfl, rfl⟩, st2, fun b hb => (own b hb).1⟩⟩
  · rintro X rfl rfl rfl calm i pins s σ H E I own st ⟨hd, hi⟩
    obtain ⟨p0, p1, p2, p3, p4, p5⟩ := own it (by simp)
    obtain ⟨_, t, dat⟩ := DB.at_ I hd
    refine wpAny_pyNext_dict_end (kvs := [(true, Value.int 0 t)]) (I.ok.hd calm) st dat (List.getElem?_eq_none hi) fun h' eb => ⟨rfl, I.turned (t' := s.toks) (fun b o hb e => eb b o hb e) p0 p1 p3 p4 p5⟩
theorem turn_itemsB {elts : List Expr} {kk : Nat} {tpos : Pos} (it : Addr) : Turn P w K (.Tuple elts kk tpos) (ItiB P w d ep) [it] it (fun i h => ∃ ok ov, IsItemIter h it d i 1 ep ok ov) := by
  refine ⟨by simp, fun i h st b hb => ?_, fun i h h' st k => let ⟨ok, ov, e⟩ := st; ⟨ok, ov, k it (by simp) _ e⟩, ?_, ?_, fun A i s Q E st h => let ⟨_, _, e⟩ := st; PySem.W.kcp_self e h⟩
  · obtain rfl : b = it := by simpa using hb
    obtain ⟨_, _, e⟩ := st
    exact ⟨_, e, fun v z => nomatch z⟩
  · rintro X rfl rfl rfl calm i pins s σ H E I own ⟨ok, ov, st⟩ ⟨hd, hi⟩
    obtain rfl : i = 0 := by omega
    obtain ⟨_, t, dat⟩ := DB.at_ I hd
    have young : it < s.heap.objs.size := Heap.lt_size st
    refine wpAny_pyNext_items_item (kvs := [(true, Value.int 0 t)]) st dat rfl fun key h' isk out tup sz kp => ?_
    refine ⟨_, rfl, wpAny_letOwnedTupleGo_items (s := { s with heap := h' }) out fun h2 st2 sb => ?_⟩
    have tup2 : h2.get? s.heap.objs.size = some { cls := .type "tuple", data := .seq #[key, Value.int 0 t] } := (sb.2 _ (Nat.ne_of_gt young)).trans tup
    have laid : ObjOk X.prog X.w (upd H s.heap.objs.size (.tup [.bl true, .int 0])) h2 s.heap.objs.size (.tup [.bl true, .int 0]) :=
      ⟨by show 2 ≤ sizeLine; decide, [key, Value.int 0 t], .cons (PpSet.isB_shape isk) (.cons ⟨t, rfl⟩ .nil), ⟨_, tup2, rfl, _, rfl⟩⟩
    have J : Inv X pins σ (upd H s.heap.objs.size (.tup [.bl true, .int 0])) { s with heap := h2 } :=
      I.turnedNew (t' := s.toks) (ch := [it]) (fun b o hb e => (sb.2 b (by simpa using hb)).trans (kp b o (by simpa using hb) e)) own (Nat.le_refl _) laid
    refine ⟨.ref s.heap.objs.size, _, J, rfl, ⟨_, rfl, I.hok.fresh (Nat.le_refl _), rfl⟩, ⟨key, _, st2⟩, fun b hb => ?_⟩
    obtain rfl : b = it := by simpa using hb
    rw [upd_ne (Nat.ne_of_lt young)]
    exact (own b (by simp)).1
  · rintro X rfl rfl rfl calm i pins s σ H E I own ⟨ok, ov, st⟩ ⟨hd, hi⟩
    obtain ⟨p0, p1, p2, p3, p4, p5⟩ := own it (by simp)
    obtain ⟨_, t, dat⟩ := DB.at_ I hd
    exact wpAny_pyNext_items_end (kvs := [(true, Value.int 0 t)]) (I.ok.hd calm) st dat (List.getElem?_eq_none hi) fun h' eb => ⟨rfl, I.turned (t' := s.toks) (fun b o hb e => eb b o hb e) p0 p1 p3 p4 p5⟩
theorem walk_keysB : Walk (ItkB P w d ep) 1 (fun H => H d = some (DB P w d ep)) (fun i H x H' => H' = H ∧ x = .bl true) :=
  ⟨fun _ _ hi q => ⟨q, hi⟩, fun _ q => ⟨q, Nat.le_refl _⟩, fun _ _ _ _ _ _ y => y⟩
theorem walk_itemsB : Walk (ItiB P w d ep) 1 (fun H => H d = some (DB P w d ep)) (fun i H x H' => ∃ T, x = .ref T ∧ H T = none ∧ H' = upd H T (.tup [.bl true, .int 0])) :=
  ⟨fun _ _ hi q => ⟨q, hi⟩, fun _ q => ⟨q, Nat.le_refl _⟩, fun _ _ _ _ _ _ y => y⟩
end
def iKeysB (P : Program) (w : World) (td : TE) : TI := fun σ H R => td σ H fun x H1 => ∃ d ep, x = .ref d ∧ H1 d = some (DB P w d ep) ∧ R (ItkB P w d ep) H1
def iItemsB (P : Program) (w : World) (td : TE) : TI := fun σ H R => td σ H fun x H1 => ∃ d ep, x = .ref d ∧ H1 d = some (DB P w d ep) ∧ R (ItiB P w d ep) H1
section
variable {X : Cx} {tg e : Expr} {td : TE} {apos cpos : Pos}
theorem pi_keysB (he : PE X e td) : PI X tg e (iKeysB X.prog X.w td) := by
  refine ⟨fun pins s σ H R I h => thn (he.run pins s σ H _ I h) fun u s1 ⟨x, H1, I1, rx, d, ep, ex, hd, q⟩ => ?_⟩
  subst ex
  obtain rfl : u = Value.ref d := rx
  obtain ⟨nm, t, dat⟩ := DB.at_ I1 hd
  exact wpAny_pyIter_dict nm dat (pi_one (tk := s1.toks) I1 _ (turn_keysB _) ⟨_, Heap.get?_push_size _ rfl, rfl, rfl⟩ q)
theorem pi_itemsB {elts : List Expr} {kk : Nat} {tpos : Pos} (he : PE X e td) (hbase : attributeBase e "items" X.env (eval e X.env) = eval e X.env := by rfl) (hline : (apos.endLine == cpos.line) = true := by rfl) :
    PI X (.Tuple elts kk tpos) (.Call (.Attribute e "items" apos) [] [] cpos) (iItemsB X.prog X.w td) := by
  refine ⟨fun pins s σ H R I h => wpAny_Call_method (T := "dict") (id := "dict.items") hbase rfl hline PySem.F.plainAttrs_dict PySem.F.slot_dict_items PySem.F.type_dict_items (thn (he.run pins s σ H _ I h) fun u s1 ⟨x, H1, I1, rx, d, ep, ex, hd, q⟩ => ?_)⟩
  subst ex
  obtain rfl : u = Value.ref d := rx
  obtain ⟨nm, t, dat⟩ := DB.at_ I1 hd
  refine ⟨dat.dictOf.typeIs, dat.dictOf.mapOf.noDict, ?_⟩
  have J : Inv X pins σ H1 { s1 with heap := s1.heap.push { cls := .type "dict_items", data := .fields #[.ref d] } } := I1.kept (t' := s1.toks) fun b o z => Heap.get?_push_of_some _ z
  have last : wpAny (model X.prog X.w) X.A (pyIter (.ref s1.heap.objs.size)) (PIE X pins σ (.Tuple elts kk tpos) R) X.xe { s1 with heap := s1.heap.push { cls := .type "dict_items", data := .fields #[.ref d] } } :=
    wpAny_pyIter_items (d := d) (knd := PpSet.boolK X.prog X.w) ⟨_, Heap.get?_push_size _ rfl, rfl, rfl⟩ (dat.push _) (pi_one (tk := s1.toks) J _ (turn_itemsB _) ⟨.none, .none, Heap.get?_push_size _ rfl⟩ q)
  show wpAny _ _ (callWith cpos (.builtin "dict.items") [.ref d] [] []) _ X.xe s1
  exact method_meetsIn PySem.F.slot_dict_items PySem.F.entry_dict_items rfl (PySem.evalArgs_none ⟨rfl, dat.dictOf.typeIs, PySem.F.args_dict_items_1 _, _, meets_dict_items (PpSet.boolK X.prog X.w) d nm, ⟨_, dat.dictOf⟩, last⟩)
theorem pe_alt {t1 t2 : TE} (h1 : PE X e t1) (h2 : PE X e t2) : PE X e (fun σ H Q => t1 σ H Q ∨ t2 σ H Q) := ⟨fun pins s σ H Q I h => h.elim (h1.run pins s σ H Q I) (h2.run pins s σ H Q I)⟩
/-! ### isinstance, also of such a dict -/
inductive TyB (P : Program) (w : World) (K : PySem.W.Frag) (H : Hp) : V → Value → Prop where
  | x {v : V} {t : Value} (h : TyX K H v t) : TyB P w K H v t
  | db {d : Addr} {ep : Nat} (h : H d = some (DB P w d ep)) : TyB P w K H (.ref d) (.type "dict")
def rIsiB (P : Program) (w : World) (K : PySem.W.Frag) : List V → Hp → VK → Prop := fun xs H Q => ∃ (x c : V) (t u : Value) (b : Bool), xs = [x, c] ∧ ClsV c u ∧ TyB P w K H x t ∧ PySem.W.kitOne K t u = some b ∧ Q (.bl b) H
def rIsiBT (P : Program) (w : World) (K : PySem.W.Frag) : List V → Hp → VK → Prop := fun xs H Q => ∃ (x : V) (tp : Addr) (cs : List V) (t : Value) (us : List Value) (b : Bool), xs = [x, .ref tp] ∧ H tp = some (.tup cs) ∧ Paired ClsV cs us ∧ TyB P w K H x t ∧ PySem.W.kitAny K t us = some b ∧ Q (.bl b) H
theorem kit_db {pins : List (Addr × Obj)} {σ : L2.St} {H : Hp} {s : Shared} {x : V} {u t : Value} (I : Inv X pins σ H s) (rx : RelV x u) (ty : TyB X.prog X.w X.K H x t) : ∃ Z : Heap → Prop, PySem.W.KitX X.K u t Z ∧ Z s.heap ∧ u ≠ .builtin "__main__.__loader__#opaque" := by
  cases ty with
  | x h => exact kit_of I rx h
  | @db d ep h =>
    cases (show u = Value.ref d from rx)
    obtain ⟨_, t, o, es, ho, hx, _⟩ := DB.at_ I h
    exact ⟨_, PySem.W.kitx_dict, ⟨o, ho, hx.1⟩, fun z => nomatch z⟩
theorem call_isiB : CallR X (.builtin "isinstance") (rIsiB X.prog X.w X.K) := by
  intro pins s σ H xs us Q I r h
  obtain ⟨x, c, t, u, b, rfl, kc, ty, e, q⟩ := h
  obtain ⟨v1, v2, rfl, r1, r2⟩ := vals2 r
  obtain rfl := kc.eq r2
  obtain ⟨Z, kx, z, nb⟩ := kit_db I r1 ty
  exact PySem.W.kia_one kx I.kIn z e nb fun tk => ⟨.bl b, H, I.tok tk, rfl, q⟩
theorem call_isiBT : CallR X (.builtin "isinstance") (rIsiBT X.prog X.w X.K) := by
  intro pins s σ H xs us Q I r h
  obtain ⟨x, tp, cs, t, ws, b, rfl, hT, kc, ty, e, q⟩ := h
  obtain ⟨v1, v2, rfl, r1, r2⟩ := vals2 r
  obtain rfl : v2 = Value.ref tp := r2
  obtain ⟨Z, kx, z, nb⟩ := kit_db I r1 ty
  obtain ⟨_, its, rv, o, h1, h2, n, h3⟩ := (show ObjOk X.prog X.w H s.heap tp (.tup cs) from I.hok tp _ hT)
  obtain rfl := ClsV.all kc rv
  obtain ⟨oc, od, dt, sl⟩ := o
  obtain rfl : oc = _ := h2
  obtain rfl : dt = _ := h3
  exact PySem.W.kia_tup kx I.kIn z h1 e nb fun tk => ⟨.bl b, H, I.tok tk, rfl, q⟩
end
end CC
set_option Elab.async false
set_option maxRecDepth 100000
namespace CC
open PySem PySem.Spec PyProof.Rows L2
set_option linter.unusedVariables false
/-! ### things that may stand in a row, and what the program says of them -/
inductive Th where
  | non
  | int (i : Int)
  | str (z : Str)
  | bl (b : Bool)
  | seq (n : Nat)
  | dic (kvs : List (Key × Option Int))
  | db
  | dany
def vV : Option Int → V
  | none => .non
  | some i => .int i
def valT : Option Int → Th
  | none => .non
  | some i => .int i
def ThAt (P : Program) (w : World) (H : Hp) (t : Th) (v : V) : Prop :=
  match t with
  | .non => v = .non
  | .int i => v = .int i
  | .str z => v = .str z
  | .bl b => v = .bl b
  | .seq n => ∃ a xs, v = .ref a ∧ xs.length = n ∧ (H a = some (.lst xs) ∨ H a = some (.tup xs))
  | .dic kvs => ∃ a, v = .ref a ∧ H a = some (.dK (kvs.map fun kv => (kv.1, vV kv.2)))
  | .db => ∃ a ep, v = .ref a ∧ H a = some (DB P w a ep)
  | .dany => ∃ a kvs, v = .ref a ∧ H a = some (.dK kvs)
def Th.isStr : Th → Bool | .str _ => true | _ => false
def Th.isInt : Th → Bool | .int _ => true | .bl _ => true | _ => false
def Th.isBool : Th → Bool | .bl _ => true | _ => false
def Th.isDict : Th → Bool | .dic _ => true | .db => true | .dany => true | _ => false
def Th.isSeq : Th → Bool | .seq _ => true | _ => false
def Th.whole : Th → Bool | .int i => decide (i ≥ 0) | _ => false
def Th.num (n : Nat) : Th → Bool | .int i => decide (i ≥ 0) && decide (i < (n : Int)) | _ => false
def nameS (z : Str) : Bool := decide (z.length ≤ 8) && (Txt.isascii z && (Txt.isalpha z && Txt.islower z))
def Th.name : Th → Bool | .str z => nameS z | _ => false
def keyT : Key → Th | .inl i => .int i | .inr z => .str z
def okKV (n : Nat) (kv : Key × Option Int) : Bool := (keyT kv.1).whole && (valT kv.2).num n
def Th.cases_ (n : Nat) : Th → Bool | .dic kvs => kvs.all (okKV n) | _ => false
theorem ThAt.mono {P : Program} {w : World} {H H' : Hp} {t : Th} {v : V} (h : ThAt P w H t v) (s : Same H H') : ThAt P w H' t v := by
  cases t with
  | seq n =>
    obtain ⟨a, xs, e, l, x⟩ := h
    exact ⟨a, xs, e, l, x.elim (fun z => .inl (s _ _ z)) fun z => .inr (s _ _ z)⟩
  | dany =>
    obtain ⟨a, kvs, e, x⟩ := h
    exact ⟨a, kvs, e, s _ _ x⟩
  | dic kvs =>
    obtain ⟨a, e, x⟩ := h
    exact ⟨a, e, s _ _ x⟩
  | db =>
    obtain ⟨a, ep, e, x⟩ := h
    exact ⟨a, ep, e, s _ _ x⟩
  | _ => exact h
structure Typed (P : Program) (w : World) (K : PySem.W.Frag) (H : Hp) (t : Th) (v : V) (T : String) : Prop where
  ty : TyB P w K H v (.type T)
  str : PySem.W.kitOne K (.type T) (.type "str") = some t.isStr
  int : PySem.W.kitOne K (.type T) (.type "int") = some t.isInt
  bool : PySem.W.kitOne K (.type T) (.type "bool") = some t.isBool
  dict : PySem.W.kitOne K (.type T) (.type "dict") = some t.isDict
  seq : PySem.W.kitAny K (.type T) [.type "list", .type "tuple"] = some t.isSeq
theorem kitAny2 {K : PySem.W.Frag} {T : String} {a b : Bool} (h1 : kitB T "list" = some a) (h2 : kitB T "tuple" = some b) : PySem.W.kitAny K (.type T) [.type "list", .type "tuple"] = some (a || b) := by
  refine kitAny_cons (b := a) (kit_ty h1) (fun z => ?_) (fun z => by rw [z]; rfl)
  rw [z]
  refine kitAny_cons (b := b) (kit_ty h2) (fun z2 => by rw [z2]; rfl) (fun z2 => by rw [z2]; rfl)
theorem typed_of {P : Program} {w : World} {K : PySem.W.Frag} {H : Hp} {t : Th} {v : V} {T : String} {a b : Bool} (ty : TyB P w K H v (.type T)) (h1 : kitB T "str" = some t.isStr) (h2 : kitB T "int" = some t.isInt) (h3 : kitB T "bool" = some t.isBool) (h4 : kitB T "dict" = some t.isDict)
    (h5 : kitB T "list" = some a) (h6 : kitB T "tuple" = some b) (h7 : (a || b) = t.isSeq) : Typed P w K H t v T := ⟨ty, kit_ty h1, kit_ty h2, kit_ty h3, kit_ty h4, by rw [← h7]; exact kitAny2 h5 h6⟩
theorem ThAt.typed {P : Program} {w : World} {K : PySem.W.Frag} {H : Hp} {t : Th} {v : V} (h : ThAt P w H t v) : ∃ T, Typed P w K H t v T := by
  cases t with
  | non => cases (show v = .non from h); exact ⟨_, typed_of (a := false) (b := false) (.x (.base .non)) (by decide +kernel) (by decide +kernel) (by decide +kernel) (by decide +kernel) (by decide +kernel) (by decide +kernel) rfl⟩
  | int i => cases (show v = .int i from h); exact ⟨"int", typed_of (a := false) (b := false) (.x (.base (.int i))) (show kitB "int" "str" = some false by decide +kernel) (show kitB "int" "int" = some true by decide +kernel) (show kitB "int" "bool" = some false by decide +kernel) (show kitB "int" "dict" = some false by decide +kernel) (by decide +kernel) (by decide +kernel) rfl⟩
  | str z => cases (show v = .str z from h); exact ⟨"str", typed_of (a := false) (b := false) (.x (.base (.str z))) (show kitB "str" "str" = some true by decide +kernel) (show kitB "str" "int" = some false by decide +kernel) (show kitB "str" "bool" = some false by decide +kernel) (show kitB "str" "dict" = some false by decide +kernel) (by decide +kernel) (by decide +kernel) rfl⟩
  | bl b => cases (show v = .bl b from h); exact ⟨"bool", typed_of (a := false) (b := false) (.x (.base (.bl b))) (show kitB "bool" "str" = some false by decide +kernel) (show kitB "bool" "int" = some true by decide +kernel) (show kitB "bool" "bool" = some true by decide +kernel) (show kitB "bool" "dict" = some false by decide +kernel) (by decide +kernel) (by decide +kernel) rfl⟩
  | dany =>
    obtain ⟨a, kvs, rfl, x⟩ := h
    exact ⟨"dict", typed_of (a := false) (b := false) (.x (.base (.dK x))) (by decide +kernel) (by decide +kernel) (by decide +kernel) (by decide +kernel) (by decide +kernel) (by decide +kernel) rfl⟩
  | seq n =>
    obtain ⟨a, xs, rfl, _, x | x⟩ := h
    · exact ⟨"list", typed_of (a := true) (b := false) (.x (.base (.lst x))) (show kitB "list" "str" = some false by decide +kernel) (show kitB "list" "int" = some false by decide +kernel) (show kitB "list" "bool" = some false by decide +kernel) (show kitB "list" "dict" = some false by decide +kernel) (by decide +kernel) (by decide +kernel) rfl⟩
    · exact ⟨"tuple", typed_of (a := false) (b := true) (.x (.base (.tup x))) (show kitB "tuple" "str" = some false by decide +kernel) (show kitB "tuple" "int" = some false by decide +kernel) (show kitB "tuple" "bool" = some false by decide +kernel) (show kitB "tuple" "dict" = some false by decide +kernel) (by decide +kernel) (by decide +kernel) rfl⟩
  | dic kvs =>
    obtain ⟨a, rfl, x⟩ := h
    exact ⟨"dict", typed_of (a := false) (b := false) (.x (.base (.dK x))) (show kitB "dict" "str" = some false by decide +kernel) (show kitB "dict" "int" = some false by decide +kernel) (show kitB "dict" "bool" = some false by decide +kernel) (show kitB "dict" "dict" = some true by decide +kernel) (by decide +kernel) (by decide +kernel) rfl⟩
  | db =>
    obtain ⟨a, ep, rfl, x⟩ := h
    exact ⟨"dict", typed_of (a := false) (b := false) (.db x) (by decide +kernel) (by decide +kernel) (by decide +kernel) (by decide +kernel) (by decide +kernel) (by decide +kernel) rfl⟩
theorem ThAt.val {P : Program} {w : World} {H : Hp} (o : Option Int) : ThAt P w H (valT o) (vV o) := by
  cases o <;> rfl
theorem ThAt.key {P : Program} {w : World} {H : Hp} (k : Key) : ThAt P w H (keyT k) (kV k) := by
  cases k <;> rfl
def spListG (P : Program) (w : World) : Sp := fun vs H Q _ => ∃ (t : Th) (v : V), vs = [v] ∧ ThAt P w H t v ∧ ∀ H', Same H H' → Q (.bl t.isSeq) H'
def spWholeG (P : Program) (w : World) : Sp := fun vs H Q _ => ∃ (t : Th) (v : V), vs = [v] ∧ ThAt P w H t v ∧ Q (.bl t.whole) H
def spNumG (P : Program) (w : World) : Sp := fun vs H Q _ => ∃ (t : Th) (v : V) (n : Nat), vs = [v, .int (n : Nat)] ∧ ThAt P w H t v ∧ Q (.bl (t.num n)) H
def spNameG (P : Program) (w : World) : Sp := fun vs H Q _ => ∃ (t : Th) (v : V), vs = [v] ∧ ThAt P w H t v ∧ (∀ z, t = .str z → z.length ≤ 1000) ∧ Q (.bl t.name) H
section
variable {P : Program} {w : World} {K : PySem.W.Frag} {mg : Str → Option Value} {base : Heap}
theorem ok_listG {f : Addr} {fd : FuncData} (F : Fun K "is_list" "is_list" sIsList f fd) (ti : mg "isinstance" = none) (tl : mg "list" = none) (tt : mg "tuple" = none) :
    FnOk P w K mg base CX0 1 f fd ["value"] (spListG P w) := by
  refine F.ok scIsList (fun vs H Q E h => ?_) (fun cdv A outer s H vs Q E hr h => ?_)
  · obtain ⟨t, v, rfl, _⟩ := h
    rfl
  · refine ⟨_, pss_one (ps_ret (pe_callB call_isiBT (by rfl) ti (by decide +kernel) (pa_cons (pv 0) (pa_cons (pe_tup (pa_cons (pe_bltn (v := .ty "list") (by rfl) tl (by decide +kernel) rfl) (pa_cons (pe_bltn (v := .ty "tuple") (by rfl) tt (by decide +kernel) rfl) pa_nil))) pa_nil)))), ?_⟩
    obtain ⟨t, v, rfl, ht, k⟩ := h
    refine ⟨_, rfl, (by show 2 ≤ sizeLine; decide), fun u hu => ?_⟩
    have s1 := same_new (o := .tup [V.ty "list", V.ty "tuple"]) hu
    obtain ⟨T, ty⟩ := (ht.mono s1).typed (K := K)
    exact ⟨_, u, _, _, _, _, rfl, upd_same, .cons (.ty _) (.cons (.ty _) .nil), ty.ty, ty.seq, k _ s1⟩
theorem ok_wholeG {f : Addr} {fd : FuncData} (F : Fun K "is_whole" "is_whole" sIsWhole f fd) (ti : mg "isinstance" = none) (tn : mg "int" = none) (tb : mg "bool" = none) :
    FnOk P w K mg base CX0 1 f fd ["value"] (spWholeG P w) := by
  refine F.ok scIsWhole (fun vs H Q E h => ?_) (fun cdv A outer s H vs Q E hr h => ?_)
  · obtain ⟨t, v, rfl, _⟩ := h
    rfl
  · refine ⟨_, pss_one (ps_ret (pe_and (pe_callB call_isiB (by rfl) ti (by decide +kernel) (pa_cons (pv 0) (pa_cons (pe_bltn (v := .ty "int") (by rfl) tn (by decide +kernel) rfl) pa_nil)))
      (pe_and (pe_not (pe_callB call_isiB (by rfl) ti (by decide +kernel) (pa_cons (pv 0) (pa_cons (pe_bltn (v := .ty "bool") (by rfl) tb (by decide +kernel) rfl) pa_nil)))) (pe_one (pe_cmp (pc_ge (pv 0) pe_int) rfl))))), ?_⟩
    obtain ⟨t, v, rfl, ht, k⟩ := h
    obtain ⟨T, ty⟩ := ht.typed (K := K)
    refine ⟨_, rfl, _, _, _, _, _, rfl, .ty _, ty.ty, ty.int, _, rfl, ?_⟩
    cases t with
    | int i =>
      cases (show v = .int i from ht)
      refine iteT ⟨_, rfl, _, _, _, _, _, rfl, .ty _, ty.ty, ty.bool, _, rfl, _, rfl, iteT ?_⟩
      exact ⟨_, rfl, _, _, rfl, rfl, k⟩
    | bl b => exact iteT ⟨_, rfl, _, _, _, _, _, rfl, .ty _, ty.ty, ty.bool, _, rfl, _, rfl, iteF k⟩
    | _ => exact iteF k
theorem ok_numG {f fW : Addr} {fd fdW : FuncData} (F : Fun K "is_number" "is_number" sIsNumber f fd) (GW : FnOk P w K mg base CX0 1 fW fdW ["value"] (spWholeG P w)) (mW : mg "is_whole" = some (.ref fW)) (kW : PySem.W.keepIn K (.ref fW) = true) (bW : L2.Binds K fdW ["value"] []) :
    FnOk P w K mg base CX0 2 f fd ["value", "many"] (spNumG P w) := by
  refine F.ok scIsNumber (fun vs H Q E h => ?_) (fun cdv A outer s H vs Q E hr h => ?_)
  · obtain ⟨t, v, n, rfl, _⟩ := h
    rfl
  · refine ⟨_, pss_one (ps_ret (pe_and (pe_call GW hr rfl mW kW bW .nil pass0 (pa_cons (pv 0) pa_nil)) (pe_one (pe_cmp (pc_lt (pv 0) (pv 1)) rfl)))), ?_⟩
    obtain ⟨t, v, n, rfl, ht, k⟩ := h
    refine ⟨_, rfl, t, v, rfl, ht, _, rfl, ?_⟩
    cases t with
    | int i =>
      cases (show v = .int i from ht)
      by_cases h0 : i ≥ 0
      · refine ite_yes (decide_eq_true h0) ⟨_, rfl, _, rfl, _, _, rfl, rfl, ?_⟩
        have e : Th.num n (.int i) = decide (i < (n : Int)) := by
          show (decide (i ≥ 0) && decide (i < (n : Int))) = _
          rw [decide_eq_true h0, Bool.true_and]
        rw [e] at k
        exact k
      · refine ite_no (decide_eq_false h0) ?_
        have e : Th.num n (.int i) = false := by
          show (decide (i ≥ 0) && decide (i < (n : Int))) = _
          rw [decide_eq_false h0, Bool.false_and]
        rw [e] at k
        exact k
    | _ => exact iteF k
theorem ok_nameG {f : Addr} {fd : FuncData} (F : Fun K "is_name" "is_name" sIsName f fd) (ti : mg "isinstance" = none) (ts : mg "str" = none) (tl : mg "len" = none) :
    FnOk P w K mg base CX0 1 f fd ["value"] (spNameG P w) := by
  refine F.ok scIsName (fun vs H Q E h => ?_) (fun cdv A outer s H vs Q E hr h => ?_)
  · obtain ⟨t, v, rfl, _⟩ := h
    rfl
  · refine ⟨_, pss_cons (ps_if (PW.pt (pw_or (pt_not (pt_val (pe_callB call_isiB (by rfl) ti (by decide +kernel) (pa_cons (pv 0) (pa_cons (pe_bltn (v := .ty "str") (by rfl) ts (by decide +kernel) rfl) pa_nil))))) (pw_or1 (pt_cmpR op_gt (pe_callB call_len_str (by rfl) tl PySem.boot_len (pa_cons (pv 0) pa_nil)) pe_int (nomark _))))) (pss_one (ps_ret pe_bl)) pss_nil)
      (pss_one (ps_ret (pe_and (pe_m0 PySem.F.slot_str_isascii PySem.F.type_str_isascii mt_isascii (pv 0)) (pe_and (pe_m0 PySem.F.slot_str_isalpha PySem.F.type_str_isalpha mt_isalpha (pv 0)) (pe_one (pe_m0 PySem.F.slot_str_islower PySem.F.type_str_islower mt_islower (pv 0))))))), ?_⟩
    obtain ⟨t, v, rfl, ht, hz, k⟩ := h
    obtain ⟨T, ty⟩ := ht.typed (K := K)
    refine ⟨_, rfl, _, _, _, _, _, rfl, .ty _, ty.ty, ty.str, _, rfl, ?_⟩
    cases t with
    | str z =>
      cases (show v = .str z from ht)
      refine iteF ⟨_, rfl, z, rfl, Nat.le_of_lt (small (Nat.lt_of_le_of_lt (hz z rfl) (by decide))), _, _, rfl, rfl, _, rfl, ?_⟩
      have e0 : Th.name (.str z) = (decide (z.length ≤ 8) && (Txt.isascii z && (Txt.isalpha z && Txt.islower z))) := rfl
      rw [e0] at k
      by_cases l : z.length ≤ 8
      · rw [decide_eq_true l, Bool.true_and] at k
        refine ite_no (decide_eq_false (by show ¬ ((z.length : Int) > 8); omega)) ?_
        refine ⟨_, rfl, ⟨_, rfl⟩, z, rfl, rfl, trivial, _, rfl, ?_⟩
        cases e1 : Txt.isascii z with
        | false =>
          rw [e1, Bool.false_and] at k
          exact iteF k
        | true =>
          rw [e1, Bool.true_and] at k
          refine iteT ⟨_, rfl, ⟨_, rfl⟩, z, rfl, rfl, trivial, _, rfl, ?_⟩
          cases e2 : Txt.isalpha z with
          | false =>
            rw [e2, Bool.false_and] at k
            exact iteF k
          | true =>
            rw [e2, Bool.true_and] at k
            exact iteT ⟨_, rfl, ⟨_, rfl⟩, z, rfl, rfl, trivial, k⟩
      · rw [decide_eq_false l, Bool.false_and] at k
        exact ite_yes (decide_eq_true (by show (z.length : Int) > 8; omega)) k
    | _ => exact iteT k
end
end CC
set_option Elab.async false
set_option maxRecDepth 100000
namespace CC
open PySem PySem.Spec PyProof.Rows L2
set_option linter.unusedVariables false
def spCasesG (P : Program) (w : World) : Sp := fun vs H Q _ => ∃ (t : Th) (v : V) (n : Nat), vs = [v, .int (n : Nat)] ∧ ThAt P w H t v ∧ (∀ kvs, t = .dic kvs → kvs.length ≤ 100) ∧ t ≠ .dany ∧ ∀ H', Same H H' → Q (.bl (t.cases_ n)) H'
abbrev dOf (kvs : List (Key × Option Int)) : List (Key × V) := kvs.map fun kv => (kv.1, vV kv.2)
section
variable {P : Program} {w : World} {K : PySem.W.Frag} {mg : Str → Option Value} {base : Heap}
theorem ok_casesG {f fW fN : Addr} {fd fdW fdN : FuncData} (F : Fun K "are_cases" "are_cases" sAreCases f fd) (GW : FnOk P w K mg base CX0 1 fW fdW ["value"] (spWholeG P w)) (mW : mg "is_whole" = some (.ref fW)) (kW : PySem.W.keepIn K (.ref fW) = true) (bW : L2.Binds K fdW ["value"] [])
    (GN : FnOk P w K mg base CX0 2 fN fdN ["value", "many"] (spNumG P w)) (mN : mg "is_number" = some (.ref fN)) (kN : PySem.W.keepIn K (.ref fN) = true) (bN : L2.Binds K fdN ["value", "many"] []) (ti : mg "isinstance" = none) (td : mg "dict" = none) (ta : mg "all" = none) :
    FnOk P w K mg base CX0 3 f fd ["value", "many"] (spCasesG P w) := by
  refine F.ok scAreCases (fun vs H Q E h => ?_) (fun cdv A outer s H vs Q E hr h => ?_)
  · obtain ⟨t, v, n, rfl, _⟩ := h
    rfl
  · have hr1 : Room 1 _ := hr.mono (by decide)
    refine ⟨_, pss_cons (ps_if (pt_not (pt_val (pe_callB call_isiB (by rfl) ti (by decide +kernel) (pa_cons (pv 0) (pa_cons (pe_bltn (v := .ty "dict") (by rfl) td (by decide +kernel) rfl) pa_nil))))) (pss_one (ps_ret pe_bl)) pss_nil)
      (pss_one (ps_ret (pe_callB (cr_all rfl) (by rfl) ta (by decide +kernel) (pa_cons (pe_alt (pe_lock (pe_lc (own := [("worth", 2), ("number", 3)]) (g := gTup K 2 (gCons (gName 2) (gCons (gName 3) gNil))) (by rfl) scAreCases.nd (pi_items (pv 0)) (blkOk_by (own := [("worth", 2), ("number", 3)]) (N := ["value", "many", "worth", "number"]) (sc := defScope sAreCases) (by decide +kernel))
        (fun _ _ _ _ _ => pg_tup (by rfl) (pgs_cons (pg_name (i := 2) scAreCases.nd rfl (Or.inl rfl)) (pgs_cons (pg_name (i := 3) scAreCases.nd rfl (Or.inl rfl)) pgs_nil))) (fun _ _ _ _ _ => pts_nil)
        (fun _ _ _ _ _ => pe_and (pe_call GW hr1 rfl mW kW bW .nil pass0 (pa_cons (pv 2) pa_nil)) (pe_one (pe_call GN hr rfl mN kN bN .nil pass0 (pa_cons (pv 3) (pa_cons (pv 1) pa_nil)))))))
        (pe_lc (own := [("worth", 2), ("number", 3)]) (g := gTup K 2 (gCons (gName 2) (gCons (gName 3) gNil))) (by rfl) scAreCases.nd (pi_itemsB (pv 0)) (blkOk_by (own := [("worth", 2), ("number", 3)]) (N := ["value", "many", "worth", "number"]) (sc := defScope sAreCases) (by decide +kernel))
        (fun _ _ _ _ _ => pg_tup (by rfl) (pgs_cons (pg_name (i := 2) scAreCases.nd rfl (Or.inl rfl)) (pgs_cons (pg_name (i := 3) scAreCases.nd rfl (Or.inl rfl)) pgs_nil))) (fun _ _ _ _ _ => pts_nil)
        (fun _ _ _ _ _ => pe_and (pe_call GW hr1 rfl mW kW bW .nil pass0 (pa_cons (pv 2) pa_nil)) (pe_one (pe_call GN hr rfl mN kN bN .nil pass0 (pa_cons (pv 3) (pa_cons (pv 1) pa_nil))))))) pa_nil)))), ?_⟩
    obtain ⟨t, v, n, rfl, ht, hz, nda, k⟩ := h
    obtain ⟨T, ty⟩ := ht.typed (K := K)
    refine ⟨_, rfl, _, _, _, _, _, rfl, .ty _, ty.ty, ty.dict, _, rfl, ?_⟩
    cases t with
    | dic kvs =>
      obtain ⟨d, rfl, hd⟩ := ht
      have small_ := hz kvs rfl
      refine iteF (.inl ?_)
      refine ⟨d, _, hd, trivial, fun od => ?_⟩
      have dL : (upd H d (.frz od (.dK (dOf kvs)))) d = some (.frz od (.dK (dOf kvs))) := upd_same
      have oL : ∀ b o, H b = some o → b ≠ d → (upd H d (.frz od (.dK (dOf kvs)))) b = some o := fun b o e n => by
        rw [upd_ne n]
        exact e
      revert dL oL
      generalize (upd H d (.frz od (.dK (dOf kvs)))) = HL
      intro dL oL
      refine ⟨_, rfl, d, od, _, rfl, dL, fun D hD => ?_⟩
      refine lc_it (walk_items (d := d) (o := od) (kvs := dOf kvs)) (fun i H => H D = some (.lst (((kvs.take i).map (okKV n)).map V.bl)) ∧ Same HL H) ⟨upd_same, same_new hD⟩ (fun i H _ ⟨_, e⟩ => e _ _ dL) ?_ ?_
      · rintro i x0 Ha Hb hi ⟨hDa, sa⟩ ⟨T1, kx, vx, rfl, hT, rfl, e1, e2⟩
        dsimp only at e1 e2
        rw [List.getElem?_map] at e1 e2
        obtain ⟨kv, hkv, rfl, rfl⟩ : ∃ kv, kvs[i]? = some kv ∧ kx = kV kv.1 ∧ vx = vV kv.2 := by
          cases e : kvs[i]? with
          | none =>
            rw [e] at e1
            cases e1
          | some z =>
            rw [e] at e1 e2
            cases e1
            cases e2
            exact ⟨z, rfl, rfl, rfl⟩
        have il := (List.getElem?_eq_some_iff.mp hkv).1
        have nDT : D ≠ T1 := ne_of_none hDa hT
        have hDb : (upd Ha T1 (.tup [kV kv.1, vV kv.2])) D = some (.lst (((kvs.take i).map (okKV n)).map V.bl)) := by
          rw [upd_ne nDT]
          exact hDa
        have step : ∀ b, b = okKV n kv → ∃ acc, (upd Ha T1 (.tup [kV kv.1, vV kv.2])) D = some (.lst acc) ∧ acc.length < sizeLine ∧ (upd (upd Ha T1 (.tup [kV kv.1, vV kv.2])) D (.lst (acc ++ [V.bl b]))) D = some (.lst (((kvs.take (i + 1)).map (okKV n)).map V.bl)) ∧ Same HL (upd (upd Ha T1 (.tup [kV kv.1, vV kv.2])) D (.lst (acc ++ [V.bl b]))) := fun b eb => by
          refine ⟨_, hDb, small (by rw [List.length_map, List.length_map, List.length_take]; omega), ?_, same_put (same_tr sa (same_new hT)) hD⟩
          rw [upd_same, List.take_add_one, hkv, eb, List.map_append, List.map_append]
          rfl
        refine ⟨T1, _, rfl, SqT.of upd_same, rfl, _, _, rfl, _, _, rfl, rfl, rfl, tyes_if ?_⟩
        refine ⟨_, rfl, keyT kv.1, _, rfl, ThAt.key _, _, rfl, ?_⟩
        cases ew : (keyT kv.1).whole with
        | false => exact iteF (step false (by unfold okKV; rw [ew]; rfl))
        | true => exact iteT ⟨_, rfl, _, rfl, valT kv.2, _, n, rfl, ThAt.val _, step _ (by unfold okKV; rw [ew]; rfl)⟩
      · rintro Ha ⟨hDa, sa⟩
        refine ⟨sa _ _ dL, ?_⟩
        have sU : Same H (upd Ha d (.dK (dOf kvs))) := fun b o e => by
          by_cases n : b = d
          · subst n
            rw [hd] at e
            rw [upd_same, e]
          · rw [upd_ne n]
            exact sa _ _ (oL _ _ e n)
        have nD : D ≠ d := ne_of hDa (sa _ _ dL) (by intro z; cases z)
        refine ⟨D, _, rfl, SqL.of (by rw [upd_ne nD]; exact hDa), ?_⟩
        have e0 : ((kvs.take (dOf kvs).length).map (okKV n)).all id = Th.cases_ n (.dic kvs) := by
          rw [List.length_map, List.take_length, List.all_map]
          rfl
        rw [e0]
        exact k _ sU
    | db =>
      obtain ⟨d, ep, rfl, hd⟩ := ht
      refine iteF (.inr ?_)
      refine ⟨_, rfl, d, ep, rfl, hd, fun D hD => ?_⟩
      refine lc_it (walk_itemsB (P := P) (w := w) (d := d) (ep := ep)) (fun i H2 => H2 D = some (.lst ((List.replicate i false).map V.bl)) ∧ Same H H2) ⟨upd_same, same_new hD⟩ (fun i H2 _ ⟨_, e⟩ => e _ _ hd) ?_ ?_
      · rintro i x0 Ha Hb hi ⟨hDa, sa⟩ ⟨T1, rfl, hT, rfl⟩
        have nDT : D ≠ T1 := ne_of_none hDa hT
        refine ⟨T1, _, rfl, SqT.of upd_same, rfl, _, _, rfl, _, _, rfl, rfl, rfl, tyes_if ?_⟩
        refine ⟨_, rfl, .bl true, _, rfl, rfl, _, rfl, iteF ?_⟩
        refine ⟨_, by rw [upd_ne nDT]; exact hDa, small (by rw [List.length_map, List.length_replicate]; omega), ?_, same_put (same_tr sa (same_new hT)) hD⟩
        rw [upd_same, List.replicate_succ', List.map_append]
        rfl
      · rintro Ha ⟨hDa, sa⟩
        exact ⟨D, _, rfl, SqL.of hDa, k _ sa⟩
    | dany => exact absurd rfl nda
    | _ => exact iteT (k _ fun _ _ x => x)
end
end CC
set_option Elab.async false
set_option maxRecDepth 100000
namespace CC
open PySem PySem.Spec PyProof.Rows L2
set_option linter.unusedVariables false
/-! ### any thing in the place of a row -/
def isRI (h : Str) : Bool := decide (h = "rest") || decide (h = "inside")
theorem beq_str (a b : Str) : (eqV (V.str a) (V.str b)) = decide (b = a) := by
  show (a == b) = decide (b = a)
  rw [Bool.eq_iff_iff]
  simp only [beq_iff_eq, decide_eq_true_eq]
  exact eq_comm
theorem in_ri (h : Str) : (if false = true then !inV (V.str h) [V.str "rest", V.str "inside"] else inV (V.str h) [V.str "rest", V.str "inside"]) = isRI h := by
  show ((eqV (V.str "rest") (V.str h)) || ((eqV (V.str "inside") (V.str h)) || false)) = _
  rw [Bool.or_false, beq_str, beq_str]
  rfl
theorem atZ {x : V} {xs : List V} : atI (x :: xs) 0 = some x := (show atI (x :: xs) ((0 : Nat) : Int) = some x from atI_nat (j := 0) rfl)
def Th.small : Th → Prop
  | .str z => z.length ≤ 1000
  | .dic kvs => kvs.length ≤ 10 ∧ (kvs.map (·.1)).Nodup
  | .seq n => n ≤ 1
  | .dany => False
  | _ => True
def rowB (n : Nat) : List Th → Bool
  | [.str h, y] => isRI h && y.num n
  | [.str h, y, z, u] => !isRI h && (y.name && (u.num n && (if h = "write" then z.whole else decide (h = "read") && z.cases_ n)))
  | _ => false
inductive RowD where
  | flat (t : Th)
  | nil
  | tup (ts : List Th)
def RowD.ok (n : Nat) : RowD → Bool
  | .tup ts => rowB n ts
  | _ => false
def RowDAt (P : Program) (w : World) (H : Hp) (d : RowD) (v : V) : Prop :=
  match d with
  | .flat t => t.isSeq = false ∧ ThAt P w H t v
  | .nil => ∃ a, v = .ref a ∧ H a = some (.lst [])
  | .tup ts => ∃ a xs, v = .ref a ∧ H a = some (.tup xs) ∧ Paired (fun x t => ThAt P w H t x) xs ts ∧ (∀ t ∈ ts, t.small) ∧ ts.length ≤ 100
theorem RowDAt.mono {P : Program} {w : World} {H H' : Hp} {d : RowD} {v : V} (h : RowDAt P w H d v) (s : Same H H') : RowDAt P w H' d v := by
  cases d with
  | flat t => exact ⟨h.1, h.2.mono s⟩
  | nil =>
    obtain ⟨a, e, x⟩ := h
    exact ⟨a, e, s _ _ x⟩
  | tup ts =>
    obtain ⟨a, xs, e, x, p, m⟩ := h
    exact ⟨a, xs, e, s _ _ x, L2.Paired.mapP p fun x t q => q.mono s, m⟩
def spRowG (P : Program) (w : World) : Sp := fun vs H Q _ => ∃ (d : RowD) (v : V) (n : Nat), vs = [v, .int (n : Nat)] ∧ RowDAt P w H d v ∧ ∀ H', Same H H' → Q (.bl (d.ok n)) H'
section
variable {P : Program} {w : World} {K : PySem.W.Frag} {mg : Str → Option Value} {base : Heap}
theorem ok_rowG {f fL fW fM fN fC : Addr} {fd fdL fdW fdM fdN fdC : FuncData} (F : Fun K "is_row" "is_row" sIsRow f fd) (GL : FnOk P w K mg base CX0 1 fL fdL ["value"] (spListG P w)) (mL : mg "is_list" = some (.ref fL)) (kL : PySem.W.keepIn K (.ref fL) = true) (bL : L2.Binds K fdL ["value"] []) (GW : FnOk P w K mg base CX0 1 fW fdW ["value"] (spWholeG P w)) (mW : mg "is_whole" = some (.ref fW)) (kW : PySem.W.keepIn K (.ref fW) = true) (bW : L2.Binds K fdW ["value"] []) (GM : FnOk P w K mg base CX0 1 fM fdM ["value"] (spNameG P w)) (mM : mg "is_name" = some (.ref fM)) (kM : PySem.W.keepIn K (.ref fM) = true) (bM : L2.Binds K fdM ["value"] []) (GN : FnOk P w K mg base CX0 2 fN fdN ["value", "many"] (spNumG P w)) (mN : mg "is_number" = some (.ref fN)) (kN : PySem.W.keepIn K (.ref fN) = true) (bN : L2.Binds K fdN ["value", "many"] []) (GC : FnOk P w K mg base CX0 3 fC fdC ["value", "many"] (spCasesG P w)) (mC : mg "are_cases" = some (.ref fC)) (kC : PySem.W.keepIn K (.ref fC) = true) (bC : L2.Binds K fdC ["value", "many"] []) (ti : mg "isinstance" = none) (ts : mg "str" = none) (tl : mg "len" = none) :
    FnOk P w K mg base CX0 4 f fd ["value", "many"] (spRowG P w) := by
  refine F.ok scIsRow (fun vs H Q E h => ?_) (fun cdv A outer s H vs Q E hr h => ?_)
  · obtain ⟨d, v, n, rfl, _⟩ := h
    rfl
  · have hr1 : Room 1 _ := hr.mono (by decide)
    have hr2 : Room 2 _ := hr.mono (by decide)
    refine ⟨_, pss_cons (ps_if (PW.pt (pw_or (pt_not (pt_val (pe_call GL hr1 rfl mL kL bL .nil pass0 (pa_cons (pv 0) pa_nil)))) (pw_or (pt_cmpR op_lt (pe_callB call_len_seq (by rfl) tl PySem.boot_len (pa_cons (pv 0) pa_nil)) pe_int (nomark _)) (pw_or1 (pt_not (pt_val (pe_callB call_isiB (by rfl) ti (by decide +kernel) (pa_cons (pe_ix ix_tup (pv 0) pe_int (fun _ _ => rfl)) (pa_cons (pe_bltn (v := .ty "str") (by rfl) ts (by decide +kernel) rfl) pa_nil))))))))) (pss_one (ps_ret pe_bl)) pss_nil)
      (pss_cons (ps_if (pt_cmpR op_in_seq (pe_ix ix_tup (pv 0) pe_int (fun _ _ => rfl)) (pe_tup (pa_cons pe_str (pa_cons pe_str pa_nil))) (by rfl)) (pss_one (ps_ret (pe_and (pe_cmpR op_eq (pe_callB call_len_seq (by rfl) tl PySem.boot_len (pa_cons (pv 0) pa_nil)) pe_int (nomark _)) (pe_one (pe_call GN hr2 rfl mN kN bN .nil pass0 (pa_cons (pe_ix ix_tup (pv 0) pe_int (fun _ _ => rfl)) (pa_cons (pv 1) pa_nil))))))) pss_nil)
      (pss_cons (ps_if (PW.pt (pw_or (pt_cmpR op_ne (pe_callB call_len_seq (by rfl) tl PySem.boot_len (pa_cons (pv 0) pa_nil)) pe_int (nomark _)) (pw_or (pt_not (pt_val (pe_call GM hr1 rfl mM kM bM .nil pass0 (pa_cons (pe_ix ix_tup (pv 0) pe_int (fun _ _ => rfl)) pa_nil)))) (pw_or1 (pt_not (pt_val (pe_call GN hr2 rfl mN kN bN .nil pass0 (pa_cons (pe_ix ix_tup (pv 0) pe_int (fun _ _ => rfl)) (pa_cons (pv 1) pa_nil))))))))) (pss_one (ps_ret pe_bl)) pss_nil)
      (pss_cons (ps_if (pt_cmpR op_eq (pe_ix ix_tup (pv 0) pe_int (fun _ _ => rfl)) pe_str (nomark _)) (pss_one (ps_ret (pe_call GW hr1 rfl mW kW bW .nil pass0 (pa_cons (pe_ix ix_tup (pv 0) pe_int (fun _ _ => rfl)) pa_nil)))) pss_nil)
      (pss_one (ps_ret (pe_and (pe_cmpR op_eq (pe_ix ix_tup (pv 0) pe_int (fun _ _ => rfl)) pe_str (nomark _)) (pe_one (pe_call GC hr rfl mC kC bC .nil pass0 (pa_cons (pe_ix ix_tup (pv 0) pe_int (fun _ _ => rfl)) (pa_cons (pv 1) pa_nil)))))))))), ?_⟩
    obtain ⟨d, v, n, rfl, hd, k⟩ := h
    cases d with
    | flat t =>
      obtain ⟨h1, h2⟩ := hd
      refine ⟨_, rfl, t, v, rfl, h2, fun H1 s1 => ⟨_, rfl, ?_⟩⟩
      rw [h1]
      exact iteT (k _ s1)
    | nil =>
      obtain ⟨a, rfl, ha⟩ := hd
      refine ⟨_, rfl, .seq _, _, rfl, ⟨a, _, rfl, rfl, .inl ha⟩, fun H1 s1 => ⟨_, rfl, iteF ?_⟩⟩
      refine ⟨_, rfl, a, _, rfl, .inl (SqL.of (s1 _ _ ha)), _, _, rfl, rfl, _, rfl, ite_yes (decide_eq_true (by show ((0 : Nat) : Int) < 2; decide)) (k _ s1)⟩
    | tup ts =>
      obtain ⟨a, xs, rfl, ha, pr, sm, few⟩ := hd
      have len : xs.length = ts.length := pr.length
      refine ⟨_, rfl, .seq _, _, rfl, ⟨a, _, rfl, rfl, .inr ha⟩, fun H1 s1 => ⟨_, rfl, iteF ?_⟩⟩
      have ha1 := s1 _ _ ha
      replace pr := L2.Paired.mapP pr fun x t q => ThAt.mono q s1
      refine ⟨_, rfl, a, _, rfl, .inr (SqT.of ha1), _, _, rfl, rfl, _, rfl, ?_⟩
      cases pr with
      | nil => exact ite_yes (decide_eq_true (by show ((0 : Nat) : Int) < 2; decide)) (k _ s1)
      | @cons x0 t0 xs1 ts1 h0 pr =>
      cases pr with
      | nil =>
        refine ite_yes (decide_eq_true (by show ((1 : Nat) : Int) < 2; decide)) ?_
        have e : RowD.ok n (.tup [t0]) = false := by cases t0 <;> rfl
        rw [← e]
        exact k _ s1
      | @cons x1 t1 xs2 ts2 h1 pr =>
      refine ite_no (decide_eq_false (by show ¬ (((x0 :: x1 :: xs2).length : Nat) : Int) < 2; simp only [List.length_cons]; omega)) ?_
      obtain ⟨T, ty⟩ := h0.typed (K := K)
      refine ⟨_, rfl, a, _, _, _, rfl, rfl, SqT.of ha1, atZ, _, _, _, _, _, rfl, .ty _, ty.ty, ty.str, _, rfl, ?_⟩
      cases t0 with
      | str h =>
        cases (show x0 = .str h from h0)
        refine iteF ?_
        refine ⟨_, rfl, a, _, _, _, rfl, rfl, SqT.of ha1, atZ, (by show 2 ≤ sizeLine; decide), fun u hu => ⟨u, _, rfl, .inr (SqT.of upd_same), rfl, rfl, _, rfl, ?_⟩⟩
        have s2 := same_tr s1 (same_new (o := .tup [V.str "rest", V.str "inside"]) hu)
        have ha2 := same_new (o := .tup [V.str "rest", V.str "inside"]) hu _ _ ha1
        replace h1 := ThAt.mono h1 (same_new (o := .tup [V.str "rest", V.str "inside"]) hu)
        replace pr := L2.Paired.mapP pr fun x t q => ThAt.mono q (same_new (o := .tup [V.str "rest", V.str "inside"]) hu)
        revert s2 ha2 h1 pr
        generalize upd H1 u (.tup [V.str "rest", V.str "inside"]) = H2
        intro s2 ha2 h1 pr
        rw [in_ri]
        cases ri : isRI h with
        | true =>
          refine iteT ?_
          refine ⟨_, rfl, a, _, rfl, .inr (SqT.of ha2), rfl, _, rfl, ?_⟩
          cases pr with
          | nil =>
            refine ite_yes (decide_eq_true rfl) ?_
            refine ⟨_, rfl, a, _, _, _, rfl, rfl, SqT.of ha2, rfl, _, rfl, t1, x1, n, rfl, h1, ?_⟩
            have e : RowD.ok n (.tup [.str h, t1]) = t1.num n := by
              show (isRI h && t1.num n) = _
              rw [ri, Bool.true_and]
            rw [← e]
            exact k _ s2
          | @cons x2 t2 xs3 ts3 h2 pr =>
            refine ite_no (decide_eq_false (by simp only [List.length_cons]; intro z; injection z with z; omega)) ?_
            have e : RowD.ok n (.tup (.str h :: t1 :: t2 :: ts3)) = false := by
              match ts3 with
              | [] => rfl
              | [u] =>
                show (!isRI h && _) = false
                rw [ri]
                rfl
              | _ :: _ :: _ => rfl
            rw [← e]
            exact k _ s2
        | false =>
          refine iteF ?_
          refine ⟨_, rfl, a, _, rfl, .inr (SqT.of ha2), rfl, _, rfl, ?_⟩
          have other : (xs2.length ≠ 2) → ∀ {A B : Prop}, A → (if (!decide (V.int (((V.str h :: x1 :: xs2).length : Nat) : Int) = V.int 4)) = true then A else B) := fun ne A B z => by
            refine ite_yes ?_ z
            rw [decide_eq_false (by simp only [List.length_cons]; intro q; injection q with q; omega)]
            rfl
          cases pr with
          | nil =>
            refine other (by decide) ?_
            have e : RowD.ok n (.tup [.str h, t1]) = false := by
              show (isRI h && t1.num n) = _
              rw [ri, Bool.false_and]
            rw [← e]
            exact k _ s2
          | @cons x2 t2 xs3 ts3 h2 pr =>
          cases pr with
          | nil => exact other (by simp) (k _ s2)
          | @cons x3 t3 xs4 ts4 h3 pr =>
          cases pr with
          | cons _ _ => exact other (by simp) (k _ s2)
          | nil =>
            have e : RowD.ok n (.tup [.str h, t1, t2, t3]) = (t1.name && (t3.num n && (if h = "write" then t2.whole else decide (h = "read") && t2.cases_ n))) := by
              show (!isRI h && _) = _
              rw [ri]
              rfl
            rw [e] at k
            refine ite_no (not_dec rfl) ?_
            refine ⟨_, rfl, a, _, _, _, rfl, rfl, SqT.of ha2, rfl, t1, x1, rfl, h1, fun z ez => by have := sm t1 (by simp); rw [ez] at this; exact this, _, rfl, ?_⟩
            cases e1 : t1.name with
            | false =>
              rw [e1, Bool.false_and] at k
              exact iteT (k _ s2)
            | true =>
              rw [e1, Bool.true_and] at k
              refine iteF ?_
              refine ⟨_, rfl, a, _, _, _, rfl, rfl, SqT.of ha2, rfl, _, rfl, t3, x3, n, rfl, h3, _, rfl, ?_⟩
              cases e3 : t3.num n with
              | false =>
                rw [e3, Bool.false_and] at k
                exact iteT (k _ s2)
              | true =>
                rw [e3, Bool.true_and] at k
                refine iteF ?_
                refine ⟨_, rfl, a, _, _, _, rfl, rfl, SqT.of ha2, rfl, rfl, _, rfl, ?_⟩
                by_cases ew : h = "write"
                · rw [if_pos ew] at k
                  refine ite_yes (decide_eq_true (congrArg V.str ew)) ?_
                  exact ⟨_, rfl, a, _, _, _, rfl, rfl, SqT.of ha2, rfl, t2, x2, rfl, h2, k _ s2⟩
                · rw [if_neg ew] at k
                  refine ite_no (decide_eq_false fun z => ew (V.str.inj z)) ?_
                  refine ⟨_, rfl, a, _, _, _, rfl, rfl, SqT.of ha2, rfl, rfl, _, rfl, ?_⟩
                  by_cases er : h = "read"
                  · rw [decide_eq_true er, Bool.true_and] at k
                    refine ite_yes (decide_eq_true (congrArg V.str er)) ?_
                    exact ⟨_, rfl, a, _, _, _, rfl, rfl, SqT.of ha2, rfl, _, rfl, t2, x2, n, rfl, h2, fun kvs ez => by have := sm t2 (by simp); rw [ez] at this; exact Nat.le_trans this.1 (by decide), fun ez => by have := sm t2 (by simp); rw [ez] at this; exact this, fun H3 s3 => k _ (same_tr s2 s3)⟩
                  · rw [decide_eq_false er, Bool.false_and] at k
                    exact ite_no (decide_eq_false fun z => er (V.str.inj z)) (k _ s2)
      | _ =>
        refine iteT ?_
        exact k _ s1
end
end CC
set_option Elab.async false
set_option maxRecDepth 100000
namespace CC
open PySem PySem.Spec PyProof.Rows L2
set_option linter.unusedVariables false
/-! ### the first wrong row -/
def RowD.headRest : RowD → Bool
  | .tup (.str h :: _) => decide (h = "rest")
  | _ => false
def goodR (n i : Nat) (d : RowD) : Bool := d.ok n && (decide (i ≠ 0) || d.headRest)
def FirstWrong (ds : List RowD) (i : Nat) : Prop := (∃ d, ds[i]? = some d ∧ goodR ds.length i d = false) ∧ ∀ j d, j < i → ds[j]? = some d → goodR ds.length j d = true
def NoWrong (ds : List RowD) : Prop := ∀ j d, ds[j]? = some d → goodR ds.length j d = true
/-- what is handed over for rows: another thing, or a list or tuple of things -/
inductive Arg where
  | flat (t : Th)
  | rows (ds : List RowD)
def ArgAt (P : Program) (w : World) (H : Hp) (x : Arg) (v : V) : Prop :=
  match x with
  | .flat t => t.isSeq = false ∧ ThAt P w H t v
  | .rows ds => (∃ l vs, v = .ref l ∧ H l = some (.lst vs) ∧ Paired (fun v d => RowDAt P w H d v) vs ds ∧ ds.length ≤ 1000) ∨ ∃ l, v = .ref l ∧ H l = some (.tup []) ∧ ds = []
def spWrongG (P : Program) (w : World) : Sp := fun vs H Q _ => ∃ (x : Arg) (v : V), vs = [v] ∧ ArgAt P w H x v ∧
  (∀ t, x = .flat t → ∀ H', Same H H' → Q (.int 0) H') ∧ (∀ ds, x = .rows ds → (∀ i, FirstWrong ds i → ∀ H', Same H H' → Q (.int (i : Nat)) H') ∧ (NoWrong ds → 2 ≤ ds.length ∧ ds.length ≤ 60 → ∀ H', Same H H' → Q .non H') ∧
    (NoWrong ds → ¬ (2 ≤ ds.length ∧ ds.length ≤ 60) → ∀ H', Same H H' → Q (.int (ds.length : Nat)) H'))
theorem pi_or {X : Cx} {tg e : Expr} {t1 t2 : TI} (h1 : PI X tg e t1) (h2 : PI X tg e t2) : PI X tg e (fun σ H R => t1 σ H R ∨ t2 σ H R) := ⟨fun pins s σ H R I h => h.elim (h1.run pins s σ H R I) (h2.run pins s σ H R I)⟩
theorem tup_of_ok {n : Nat} {d : RowD} (h : d.ok n = true) : ∃ h0 t1 more, d = .tup (.str h0 :: t1 :: more) := by
  cases d with
  | flat t => cases h
  | nil => cases h
  | tup ts =>
    match ts, h with
    | [.str h0, y], _ => exact ⟨_, _, _, rfl⟩
    | [.str h0, y, z, u], _ => exact ⟨_, _, _, rfl⟩
section
variable {P : Program} {w : World} {K : PySem.W.Frag} {mg : Str → Option Value} {base : Heap}
theorem ok_wrongG {f fL fR : Addr} {fd fdL fdR : FuncData} {t1 t2 : Tok} (F : Fun K "wrong_row" "wrong_row" sWrongRow f fd)
    (GL : FnOk P w K mg base CX0 1 fL fdL ["value"] (spListG P w)) (mL : mg "is_list" = some (.ref fL)) (kL : PySem.W.keepIn K (.ref fL) = true) (bL : L2.Binds K fdL ["value"] [])
    (GR : FnOk P w K mg base CX0 4 fR fdR ["value", "many"] (spRowG P w)) (mR : mg "is_row" = some (.ref fR)) (kR : PySem.W.keepIn K (.ref fR) = true) (bR : L2.Binds K fdR ["value", "many"] [])
    (tl : mg "len" = none) (te : mg "enumerate" = none) (mF : mg "FEWEST_ROWS" = some (.int 2 t1)) (mM : mg "MOST_ROWS" = some (.int 60 t2)) :
    FnOk P w K mg base CX0 5 f fd ["rows"] (spWrongG P w) := by
  refine F.ok scWrongRow (fun vs H Q E h => ?_) (fun cdv A outer s H vs Q E hr h => ?_)
  · obtain ⟨x, v, rfl, _⟩ := h
    rfl
  · have hr1 : Room 1 _ := hr.mono (by decide)
    refine ⟨_, pss_cons (ps_if (pt_not (pt_val (pe_call GL hr1 rfl mL kL bL .nil pass0 (pa_cons (pv 0) pa_nil)))) (pss_one (ps_ret pe_int)) pss_nil)
      (pss_cons (ps_for PassesOwn.never rfl (pi_or (pi_enum (by rfl) te (pa_cons (pv 0) pa_nil)) (pi_enumT (by rfl) te (pa_cons (pv 0) pa_nil))) (pg_tup (by rfl) (pgs_cons (pg_name (i := 1) scWrongRow.nd rfl (Or.inl rfl)) (pgs_cons (pg_name (i := 2) scWrongRow.nd rfl (Or.inl rfl)) pgs_nil)))
        (pss_one (ps_if (PW.pt (pw_or (pt_not (pt_val (pe_call GR hr rfl mR kR bR .nil pass0 (pa_cons (pv 2) (pa_cons (pe_callB call_len_seq (by rfl) tl PySem.boot_len (pa_cons (pv 0) pa_nil)) pa_nil)))))
          (pw_or1 (PW.pt (pw_and (pt_cmpR op_eq (pv 1) pe_int (nomark _)) (pw_and1 (pt_cmpR op_ne (pe_ix ix_tup (pv 2) pe_int (fun _ _ => rfl)) pe_str (nomark _)))))))) (pss_one (ps_ret (pv 1))) pss_nil)))
      (pss_one (ps_ret (pe_ifExp (pt_chain op_le op_le (pe_glob (v := .int 2) rfl mF ⟨_, rfl⟩) (pe_callB call_len_seq (by rfl) tl PySem.boot_len (pa_cons (pv 0) pa_nil)) (pe_glob (v := .int 60) rfl mM ⟨_, rfl⟩)) pe_non (pe_callB call_len_seq (by rfl) tl PySem.boot_len (pa_cons (pv 0) pa_nil)))))), ?_⟩
    obtain ⟨x, v, rfl, hx, kf, kr⟩ := h
    cases x with
    | flat t =>
      obtain ⟨h1, h2⟩ := hx
      refine ⟨_, rfl, t, v, rfl, h2, fun H1 s1 => ⟨_, rfl, ?_⟩⟩
      rw [h1]
      exact iteT (kf t rfl _ s1)
    | rows ds =>
      obtain ⟨kw, kn, ks⟩ := kr ds rfl
      rcases hx with ⟨l, vs, rfl, ha1, pr, few⟩ | ⟨l, rfl, ha1, rfl⟩
      · refine ⟨_, rfl, .seq _, _, rfl, ⟨l, _, rfl, rfl, .inl ha1⟩, fun H1 s1 => ⟨_, rfl, iteF ?_⟩⟩
        have vl : vs.length = ds.length := pr.length
        refine .inl ⟨_, rfl, l, _, rfl, SqL.of (s1 _ _ ha1), for_it (walk_enum (K := K) (a := l) (xs := vs)) (fun i σ H2 => ∃ v1 v2, σ = [some (.ref l), v1, v2] ∧ Same H H2 ∧ ∀ j d, j < i → ds[j]? = some d → goodR ds.length j d = true) ⟨none, none, rfl, s1, fun j d h => absurd h (Nat.not_lt_zero _)⟩ (fun i σ H2 _ ⟨_, _, _, e, _⟩ => SqL.of (e _ _ ha1)) ?_ ?_⟩
        · rintro i x σ Ha Hb hi ⟨v1, v2, rfl, sa, sofar⟩ ⟨T, ix, y, rfl, hT, rfl, e1, e2⟩
          cases Option.some.inj e1
          dsimp only at e2
          obtain ⟨d, hd, hrd⟩ := paired_at pr e2
          have sb : Same H (upd Ha T (.tup [V.int (i : Nat), y])) := same_tr sa (same_new hT)
          refine ⟨T, _, rfl, SqT.of upd_same, rfl, _, _, rfl, _, _, rfl, rfl, ?_⟩
          refine ⟨_, rfl, _, rfl, l, _, rfl, .inl (SqL.of (sb _ _ ha1)), d, y, ds.length, congrArg (fun z => [y, V.int ((z : Nat) : Int)]) vl, hrd.mono sb, fun H3 s3 => ⟨_, rfl, ?_⟩⟩
          have sc := same_tr sb s3
          have bad : goodR ds.length i d = false → Q (V.int (i : Nat)) H3 := fun e => kw i ⟨⟨d, hd, e⟩, sofar⟩ _ sc
          have good : goodR ds.length i d = true → ∀ j d', j < i + 1 → ds[j]? = some d' → goodR ds.length j d' = true := fun e j d' hj hd' => by
            by_cases z : j = i
            · rw [z, hd] at hd'
              cases hd'
              rw [z]
              exact e
            · exact sofar j d' (by omega) hd'
          cases eo : d.ok ds.length with
          | false => exact iteT ⟨_, rfl, bad (by unfold goodR; rw [eo]; rfl)⟩
          | true =>
            refine iteF ⟨_, rfl, rfl, _, rfl, ?_⟩
            by_cases i0 : i = 0
            · refine ite_yes (decide_eq_true (by rw [i0]; rfl)) ?_
              obtain ⟨h0, t1, more, rfl⟩ := tup_of_ok eo
              obtain ⟨a, xs, rfl, hxs, prs, _⟩ := hrd.mono sc
              cases prs with
              | @cons x0 _ xs1 _ q0 _ =>
              cases (show x0 = .str h0 from q0)
              refine ⟨_, rfl, a, _, _, _, rfl, rfl, SqT.of hxs, atZ, rfl, _, rfl, ?_⟩
              by_cases eh : h0 = "rest"
              · refine ite_no (not_dec (congrArg V.str eh)) ⟨_, _, rfl, sc, good ?_⟩
                show (RowD.ok ds.length (.tup (.str h0 :: t1 :: more)) && (decide (i ≠ 0) || decide (h0 = "rest"))) = true
                rw [eo, decide_eq_true eh, Bool.or_true]
                rfl
              · refine ite_yes (by rw [decide_eq_false fun z => eh (V.str.inj z)]; rfl) ⟨_, rfl, bad ?_⟩
                show (RowD.ok ds.length (.tup (.str h0 :: t1 :: more)) && (decide (i ≠ 0) || decide (h0 = "rest"))) = false
                rw [decide_eq_false eh, Bool.or_false, decide_eq_false (fun z => z i0), Bool.and_false]
            · refine ite_no (decide_eq_false fun z => i0 (by injection z with z; omega)) (iteF ⟨_, _, rfl, sc, good ?_⟩)
              unfold goodR
              rw [eo, decide_eq_true i0]
              rfl
        · rintro σ Ha ⟨v1, v2, rfl, sa, sofar⟩
          have nw : NoWrong ds := fun j d hd => sofar j d (by rw [vl]; exact (List.getElem?_eq_some_iff.mp hd).1) hd
          refine ⟨_, rfl, l, _, rfl, .inl (SqL.of (sa _ _ ha1)), _, _, rfl, rfl, _, rfl, ?_⟩
          have tail : ¬ (2 ≤ ds.length ∧ ds.length ≤ 60) → Q (V.int ((vs.length : Nat) : Int)) Ha := fun e => by
            rw [vl]
            exact ks nw e _ sa
          by_cases h2 : 2 ≤ vs.length
          · refine ite_yes (decide_eq_true (by omega)) ⟨_, _, rfl, rfl, _, rfl, ?_⟩
            by_cases h60 : vs.length ≤ 60
            · exact ite_yes (decide_eq_true (by omega)) (kn nw (by omega) _ sa)
            · exact ite_no (decide_eq_false (by omega)) ⟨_, rfl, l, _, rfl, .inl (SqL.of (sa _ _ ha1)), tail (by omega)⟩
          · exact ite_no (decide_eq_false (by omega)) ⟨false, rfl, iteF ⟨_, rfl, l, _, rfl, .inl (SqL.of (sa _ _ ha1)), tail (by omega)⟩⟩
      · refine ⟨_, rfl, .seq _, _, rfl, ⟨l, _, rfl, rfl, .inr ha1⟩, fun H1 s1 => ⟨_, rfl, iteF ?_⟩⟩
        refine .inr ⟨_, rfl, l, _, rfl, SqT.of (s1 _ _ ha1), for_it (walk_enumT (K := K) (a := l) (xs := [])) (fun i σ H2 => ∃ v1 v2, σ = [some (.ref l), v1, v2] ∧ Same H H2) ⟨none, none, rfl, s1⟩ (fun i σ H2 _ ⟨_, _, _, e⟩ => SqT.of (e _ _ ha1)) (fun i x σ Ha Hb hi => absurd hi (Nat.not_lt_zero _)) ?_⟩
        rintro σ Ha ⟨v1, v2, rfl, sa⟩
        refine ⟨_, rfl, l, _, rfl, .inr (SqT.of (sa _ _ ha1)), _, _, rfl, rfl, _, rfl, ?_⟩
        exact ite_no (by decide) ⟨false, rfl, iteF ⟨_, rfl, l, _, rfl, .inr (SqT.of (sa _ _ ha1)), ks (fun j d h => by simp at h) (by decide) _ sa⟩⟩
end
end CC
set_option Elab.async false
set_option maxRecDepth 100000
namespace CC
open PySem PySem.Spec PyProof.Rows L2
set_option linter.unusedVariables false
abbrev sBadInit : Stmt := inClass (top 5) 0
section
variable {P : Program} {w : World} {K : PySem.W.Frag} {mg : Str → Option Value} {base : Heap} {t1 : Tok}
theorem scBadInit : FnScope ["self", "row"] ["self", "row"] (defScope sBadInit) := ⟨rfl, rfl, rfl, by decide +kernel, rfl, by decide +kernel, by decide +kernel⟩
theorem ok_badinit {f fS fC CE C : Addr} {fd fdS fdC : FuncData} (F : Fun K "__init__" "BadProgram.__init__" sBadInit f fd)
    (GS : FnOk P w K mg base CX0 1 fS fdS ["value"] spShown) (mS : mg "shown" = some (.ref fS)) (kS : PySem.W.keepIn K (.ref fS) = true) (bS : L2.Binds K fdS ["value"] [])
    (GC : FnOk P w K mg base CX0 2 fC fdC ["self", "why"] (spCellInit K)) (mC : mg "CellError" = some (.ref CE)) (c : ClsFn K CE "__init__" fC) (kC : PySem.W.keepIn K (.ref fC) = true) (bC : L2.Binds K fdC ["self", "why"] [])
    (nR : PySem.W.findIn K (.ref C) "row" = some none) :
    FnOk P w K mg base CX0 3 f fd ["self", "row"] (spNotInit K C) := by
  refine F.ok scBadInit (fun vs H Q E h => ?_) (fun cdv A outer s H vs Q E hr h => ?_)
  · obtain ⟨a, i, rfl, _⟩ := h
    rfl
  · obtain ⟨a, i, rfl, T, ha, i0, i1, q⟩ := h
    have hr1 : Room 1 _ := hr.mono (by decide)
    refine ⟨_, pss_cons (ps_expr (pe_clsfn c GC hr rfl mC kC bC .nil pass0 (pa_cons (pv 0) (pa_cons (pe_joined (PJ.cons pe_str (PJ.cons (pe_fmt (pe_call GS hr1 rfl mS kS bS .nil pass0 (pa_cons (pv 1) pa_nil))) (PJ.cons pe_str PJ.nil)))) pa_nil))))
      (pss_one (ps_ost (pv 0) (pv 1))), ?_⟩
    have ln := PyProof.Rows.int_text_len_1921 (log_small i0 i1)
    have c1 : (Str.empty ++ Str.ofString "row ").length = 4 := by decide +kernel
    have c2 : (Str.ofString " cannot stand in a program").length = 26 := by decide +kernel
    refine ⟨_, rfl, _, rfl, (by decide +kernel), _, rfl, .inr ⟨i, rfl, i0, i1, .inl ⟨_, rfl, ?_, _, rfl, ?_, _, rfl, ?_, ?_⟩⟩⟩
    · exact Nat.le_trans ln (by decide)
    · rw [PySem.Str.length_append, c1, PySem.sizeLine_eq]
      omega
    · rw [PySem.Str.length_append, PySem.Str.length_append, c1, c2, PySem.sizeLine_eq]
      omega
    · exact ⟨a, C, _, rfl, T, ha, _, rfl, _, rfl, a, C, rfl, T, nR, .inl ⟨ha, fun dx hdx n => q dx hdx n⟩⟩
end
/-! ### rows that are right, as rows -/
def toD : Row → RowD
  | .rest m => .tup [.str "rest", .int (m : Nat)]
  | .ins m => .tup [.str "inside", .int (m : Nat)]
  | .wr c v m => .tup [.str "write", .str c, .int v, .int (m : Nat)]
  | .rd c cs m => .tup [.str "read", .str c, .dic (cs.map fun kv => ((Sum.inl kv.1 : Key), some (kv.2 : Int))), .int (m : Nat)]
theorem num_of {n : Nat} {t : Th} (h : t.num n = true) : ∃ m : Nat, t = .int (m : Nat) ∧ m < n := by
  cases t with
  | int i =>
    have h' : (decide (i ≥ 0) && decide (i < (n : Int))) = true := h
    rw [Bool.and_eq_true] at h'
    have a := of_decide_eq_true h'.1
    have b := of_decide_eq_true h'.2
    exact ⟨i.toNat, by congr 1; omega, by omega⟩
  | _ => cases h
theorem cases_of {n : Nat} : ∀ {kvs : List (Key × Option Int)}, kvs.all (okKV n) = true → ∃ cs : List (Int × Nat), kvs = cs.map (fun kv => ((Sum.inl kv.1 : Key), some (kv.2 : Int))) ∧ ∀ kv ∈ cs, kv.2 < n
  | [], _ => ⟨[], rfl, fun _ h => nomatch h⟩
  | (k, i) :: r, h => by
    rw [List.all_cons, Bool.and_eq_true] at h
    obtain ⟨cs, e, lt⟩ := cases_of h.2
    have h1 : ((keyT k).whole && (valT i).num n) = true := h.1
    rw [Bool.and_eq_true] at h1
    obtain ⟨m, em, ml⟩ := num_of h1.2
    cases k with
    | inr z => exact absurd h1.1 Bool.false_ne_true
    | inl a =>
      cases i with
      | none => cases em
      | some i0 =>
      cases em
      refine ⟨(a, m) :: cs, by rw [e]; rfl, fun kv hkv => ?_⟩
      rcases List.mem_cons.mp hkv with q | q
      · rw [q]
        exact ml
      · exact lt kv q
theorem row_of {P : Program} {w : World} {H : Hp} {d : RowD} {v : V} {n : Nat} (h : RowDAt P w H d v) (ok : d.ok n = true) : ∃ a r, v = .ref a ∧ RowAt H r a ∧ r.low n ∧ toD r = d := by
  cases d with
  | flat t => cases ok
  | nil => cases ok
  | tup ts =>
    obtain ⟨a, xs, rfl, ha, pr, sm, _⟩ := h
    match ts, ok with
    | [.str h0, y], ok =>
      have ok' : (isRI h0 && y.num n) = true := ok
      rw [Bool.and_eq_true] at ok'
      obtain ⟨m, rfl, ml⟩ := num_of ok'.2
      cases pr with
      | @cons x0 _ _ _ q0 pr =>
      cases pr with
      | @cons x1 _ _ _ q1 pr =>
      cases pr
      cases (show x0 = .str h0 from q0)
      cases (show x1 = .int m from q1)
      have ri : (decide (h0 = "rest") || decide (h0 = "inside")) = true := ok'.1
      rw [Bool.or_eq_true] at ri
      rcases ri with e | e
      · have e := of_decide_eq_true e
        subst e
        exact ⟨a, .rest m, rfl, ha, ml, rfl⟩
      · have e := of_decide_eq_true e
        subst e
        exact ⟨a, .ins m, rfl, ha, ml, rfl⟩
    | [.str h0, y, z, u], ok =>
      have ok' : (!isRI h0 && (y.name && (u.num n && (if h0 = "write" then z.whole else decide (h0 = "read") && z.cases_ n)))) = true := ok
      rw [Bool.and_eq_true, Bool.and_eq_true, Bool.and_eq_true] at ok'
      obtain ⟨_, nm, un, last⟩ := ok'
      obtain ⟨m, rfl, ml⟩ := num_of un
      obtain ⟨c, rfl⟩ : ∃ c, y = .str c := by
        cases y with
        | str c => exact ⟨c, rfl⟩
        | _ => cases nm
      cases pr with
      | @cons x0 _ _ _ q0 pr =>
      cases pr with
      | @cons x1 _ _ _ q1 pr =>
      cases pr with
      | @cons x2 _ _ _ q2 pr =>
      cases pr with
      | @cons x3 _ _ _ q3 pr =>
      cases pr
      cases (show x0 = .str h0 from q0)
      cases (show x1 = .str c from q1)
      cases (show x3 = .int m from q3)
      by_cases ew : h0 = "write"
      · rw [if_pos ew] at last
        subst ew
        cases z with
        | int i =>
          cases (show x2 = .int i from q2)
          exact ⟨a, .wr c i m, rfl, ha, ml, rfl⟩
        | _ => cases last
      · rw [if_neg ew, Bool.and_eq_true] at last
        have er := of_decide_eq_true last.1
        subst er
        cases z with
        | dic kvs =>
          obtain ⟨cs, rfl, lt⟩ := cases_of (show kvs.all (okKV n) = true from last.2)
          obtain ⟨d, rfl, hd⟩ := q2
          have s1 := sm (.dic (cs.map fun kv => ((Sum.inl kv.1 : Key), some (kv.2 : Int)))) (by simp)
          obtain ⟨l10, nd⟩ := s1
          rw [List.length_map] at l10
          rw [List.map_map] at nd hd
          refine ⟨a, .rd c cs m, rfl, ⟨d, ha, hd⟩, ⟨?_, lt, ml, l10⟩, rfl⟩
          refine List.Pairwise.imp_of_mem (fun {p q} _ _ ne => ne) ?_
          have e0 : (cs.map (Prod.fst ∘ fun kv => ((Sum.inl kv.1 : Key), some (kv.2 : Int)))) = (cs.map (·.1)).map (fun i => (Sum.inl i : Key)) := by
            rw [List.map_map]
            rfl
          rw [e0] at nd
          exact (List.pairwise_map.mp nd).imp fun {p q} ne e => ne (by rw [e])
        | _ => cases last.2
theorem rows_of {P : Program} {w : World} {H : Hp} {n : Nat} : ∀ {vs : List V} {ds : List RowD}, Paired (fun v d => RowDAt P w H d v) vs ds → (∀ d ∈ ds, d.ok n = true) → ∃ (as : List Addr) (rs : List Row), vs = as.map V.ref ∧ Paired (fun a r => RowAt H r a) as rs ∧ (∀ r ∈ rs, r.low n) ∧ rs.map toD = ds
  | _, _, .nil, _ => ⟨[], [], rfl, .nil, (fun _ h => nomatch h), rfl⟩
  | _, _, .cons h t, ok => by
    obtain ⟨a, r, e1, q1, l1, d1⟩ := row_of h (ok _ (List.mem_cons_self ..))
    obtain ⟨as, rs, e2, q2, l2, d2⟩ := rows_of t fun d hd => ok d (List.mem_cons_of_mem _ hd)
    refine ⟨a :: as, r :: rs, by rw [e1, e2]; rfl, .cons q1 q2, fun z hz => ?_, by rw [List.map_cons, d1, d2]⟩
    rcases List.mem_cons.mp hz with q | q
    · rw [q]
      exact l1
    · exact l2 z q
end CC
set_option Elab.async false
set_option maxRecDepth 100000
namespace CC
open PySem L2
set_option linter.unusedVariables false
abbrev sProgInit : Stmt := inClass (top 21) 0
abbrev sProgLen : Stmt := inClass (top 21) 2
/-- a program at p: its rows are rs but for the order of the cases -/
def ProgAt (C : Addr) (H : Hp) (p : Addr) (rs : List Row) : Prop := ∃ (dx T : Addr) (as : List Addr) (rs' : List Row), H p = some (.ins C dx [("_rows", .ref T)]) ∧ H T = some (.tup (as.map V.ref)) ∧ Paired (fun a r => RowAt H r a) as rs' ∧ Paired RSim rs rs'
theorem RSim.low {n : Nat} {r r' : Row} (h : RSim r r') (l : r.low n) : r'.low n := by
  cases r <;> cases r' <;> try exact h.elim
  · have e : _ = _ := h
    rw [← e]
    exact l
  · have e : _ = _ := h
    rw [← e]
    exact l
  · have l' : _ < n := l
    rw [h.2.2] at l'
    exact l'
  · obtain ⟨_, p, e⟩ := h
    refine ⟨(p.map (·.1)).nodup_iff.mp l.1, fun kv hkv => l.2.1 kv (p.mem_iff.mpr hkv), by rw [← e]; exact l.2.2.1, by rw [← p.length_eq]; exact l.2.2.2⟩
def AllOnce (rs : List Row) : Prop := ∀ f m, rs[f]? = some (Row.rest m) → Once rs f
def FirstBad (rs : List Row) (f : Nat) : Prop := (∃ m, rs[f]? = some (Row.rest m)) ∧ ¬ Once rs f ∧ ∀ f' m, f' < f → rs[f']? = some (Row.rest m) → Once rs f'
def WrongNum : Arg → Nat → Prop
  | .flat _, i => i = 0
  | .rows ds, i => FirstWrong ds i ∨ (NoWrong ds ∧ ¬ (2 ≤ ds.length ∧ ds.length ≤ 60) ∧ i = ds.length)
def spProgInit (P : Program) (w : World) (C CB CN : Addr) : Sp := fun vs H Q E => ∃ (p dx : Addr) (x : Arg) (v : V), vs = [.ref p, v] ∧ H p = some (.ins C dx []) ∧ ArgAt P w H x v ∧ (∀ ds, x = .rows ds → ds.length ≤ 1000) ∧
  (∀ i, WrongNum x i → ∀ d H', (∀ b o, H b = some o → b ≠ p → H' b = some o) → H' d = some (.xd [("row", .int (i : Nat))]) → E (.ref CB) (some d) H') ∧
  (∀ ds, x = .rows ds → NoWrong ds → 2 ≤ ds.length ∧ ds.length ≤ 60 → (∀ rs rs' i, rs.map toD = ds → Paired RSim rs rs' → i < rs'.length → Few rs' i) ∧
    (∀ rs, rs.map toD = ds → ∀ H', (∀ b o, H b = some o → b ≠ p → H' b = some o) → ProgAt C H' p rs → Q .non H') ∧
    (∀ f : Nat, ∀ d H', (∀ b o, H b = some o → b ≠ p → H' b = some o) → H' d = some (.xd [("row", .int (f : Nat))]) → E (.ref CN) (some d) H'))
structure TxtB (K : PySem.W.Frag) (mg : Str → Option Value) (C fN : Addr) : Prop where
  gN : mg "BadProgram" = some (.ref C)
  oN : OexC K C
  iN : PySem.W.findIn K (.ref C) "__init__" = some (some (.ref fN))
  tN : PySem.W.typeIn K (.ref fN) = some (.type "function")
structure TxtP (K : PySem.W.Frag) (mg : Str → Option Value) (C CN fN : Addr) : Prop where
  cl : Cls K C
  nR : NoAttr K C "_rows"
  gN : mg "NotOnce" = some (.ref CN)
  oN : OexC K CN
  iN : PySem.W.findIn K (.ref CN) "__init__" = some (some (.ref fN))
  tN : PySem.W.typeIn K (.ref fN) = some (.type "function")
  rN : PySem.W.findIn K (.ref CN) "row" = some none
section
variable {P : Program} {w : World} {K : PySem.W.Frag} {mg : Str → Option Value} {base : Heap}
theorem scProgInit : FnScope ["self", "rows", "wrong", "number", "row"] ["self", "rows"] (defScope sProgInit) := ⟨rfl, rfl, rfl, by decide +kernel, rfl, by decide +kernel, by decide +kernel⟩
theorem ok_proginit {f C CB CN fB fN fW fC fO : Addr} {fd fdB fdN fdW fdC fdO : FuncData} (F : Fun K "__init__" "Program.__init__" sProgInit f fd) (TT : TxtP K mg C CN fN) (TB : TxtB K mg CB fB)
    (GB : FnOk P w K mg base CX0 3 fB fdB ["self", "row"] (spNotInit K CB)) (bB : Binds K fdB ["self", "row"] [])
    (GN : FnOk P w K mg base CX0 3 fN fdN ["self", "row"] (spNotInit K CN)) (bN : Binds K fdN ["self", "row"] [])
    (GW : FnOk P w K mg base CX0 5 fW fdW ["rows"] (spWrongG P w)) (mW : mg "wrong_row" = some (.ref fW)) (kW : PySem.W.keepIn K (.ref fW) = true) (bW : Binds K fdW ["rows"] [])
    (GC : FnOk P w K mg base CX0 1 fC fdC ["row"] spCopied) (mC : mg "copied" = some (.ref fC)) (kC : PySem.W.keepIn K (.ref fC) = true) (bC : Binds K fdC ["row"] [])
    (GO : FnOk P w K mg base CX0 2 fO fdO ["rows", "first"] spIsOnce) (mO : mg "is_once" = some (.ref fO)) (kO : PySem.W.keepIn K (.ref fO) = true) (bO : Binds K fdO ["rows", "first"] [])
    (tt : mg "tuple" = none) (te : mg "enumerate" = none) :
    FnOk P w K mg base (L2.CX P w) 6 f fd ["self", "rows"] (spProgInit P w C CB CN) := by
  refine F.okX scProgInit (fun vs H Q E h => ?_) (fun cdv A outer s H vs Q E hr h => ?_)
  · obtain ⟨p, dx, x, v, rfl, _⟩ := h
    rfl
  · obtain ⟨p, dx, x, v, rfl, hp, hx, few, kB, kG⟩ := h
    have hr1 : Room 1 _ := hr.mono (by decide)
    have hr2 : Room 2 _ := hr.mono (by decide)
    have hr4 : Room 4 _ := hr.mono (by decide)
    refine ⟨_, pss_cons (ps_set (i := 2) scProgInit.nd rfl (Or.inl rfl) (pe_call GW hr rfl mW kW bW .nil pass0 (pa_cons (pv 1) pa_nil)))
      (pss_cons (ps_if (pt_cmpR op_notN (pv 2) pe_non (nomark _)) (pss_one (ps_raise rfl (takes_of rfl rfl rfl rfl) (pmk_oex TB.oN TB.iN TB.tN GB hr4 bB .nil pass0 rfl TB.gN (pa_cons (pv 2) pa_nil)))) pss_nil)
      (pss_cons (ps_fld (pv 0) (pe_callTy call_tuple_of (by rfl) tt (by decide +kernel) (pa_cons (pe_lc (own := [("row", 4)]) (g := gName 4) (by rfl) scProgInit.nd (pi_list (pv 1)) (blkOk_by (own := [("row", 4)]) (N := ["self", "rows", "wrong", "number", "row"]) (sc := defScope sProgInit) (by decide +kernel)) (fun _ _ _ _ _ => pg_name (i := 4) scProgInit.nd rfl (Or.inl rfl)) (fun _ _ _ _ _ => pts_nil)
          (fun _ _ _ _ _ => pe_call GC hr1 rfl mC kC bC .nil pass0 (pa_cons (pv 4) pa_nil))) pa_nil)) rfl)
      (pss_one (ps_for (passes_of rfl) rfl (pi_enumT (by rfl) te (pa_cons (pe_fld (pv 0) rfl) pa_nil)) (pg_tup (by rfl) (pgs_cons (pg_name (i := 3) scProgInit.nd rfl (Or.inl rfl)) (pgs_cons (pg_name (i := 4) scProgInit.nd rfl (Or.inl rfl)) pgs_nil)))
        (pss_one (ps_if (PW.pt (pw_and (pt_cmpR op_eq (pe_ix ix_tup (pv 4) pe_int (fun _ _ => rfl)) pe_str (nomark _)) (pw_and1 (pt_not (pt_val (pe_call GO hr2 rfl mO kO bO .nil pass0 (pa_cons (pe_fld (pv 0) rfl) (pa_cons (pv 3) pa_nil))))))))
          (pss_one (ps_raise rfl (takes_of rfl rfl rfl rfl) (pmk_oex TT.oN TT.iN TT.tN GN hr4 bN .nil pass0 rfl TT.gN (pa_cons (pv 3) pa_nil)))) pss_nil)))))), ?_⟩
    have flies : ∀ (i : Nat) (H1 : Hp), Same H H1 → WrongNum x i → i < 100000 → ∀ a, H1 a = none → ∀ (d : Addr), (upd H1 a (exo a CB none)) d = none → d ≠ a → E (.ref CB) (some d) (upd (L2.del (upd (upd (upd H1 a (exo a CB none)) d (exd d [("row", .int (i : Nat))])) a (exo a CB (some d))) a) d (.xd [("row", .int (i : Nat))])) := fun i H1 s1 wn _ a ha d hd nda => by
      have hd5 : H1 d = none := by
        rw [upd_ne nda] at hd
        exact hd
      refine kB i wn d _ (fun b' o e n => ?_) upd_same
      have h5 := s1 _ _ e
      have n1 : b' ≠ d := ne_of_none h5 hd5
      have n2 : b' ≠ a := ne_of_none h5 ha
      rw [upd_ne n1, del_ne n2, upd_ne n2, upd_ne n1, upd_ne n2]
      exact h5
    refine ⟨_, rfl, x, v, rfl, hx, fun t et H1 s1 => ?_, fun ds ed => ⟨fun i fw H1 s1 => ?_, fun nw n260 H1 s1 => ?_, fun nw no H1 s1 => ?_⟩⟩
    · refine ⟨_, rfl, rfl, _, rfl, ite_yes rfl ?_⟩
      refine ⟨_, rfl, (by show 1 ≤ 1000; decide), fun a ha => ⟨a, 0, rfl, TB.oN, upd_same, by omega, by omega, fun d hd nda => ⟨rfl, d, _, upd_same, by rw [upd_ne nda, upd_same]; rfl, ?_, flies 0 H1 s1 (by rw [et]; exact rfl) (by omega) a ha d hd nda⟩⟩⟩
      rw [upd_ne nda] at hd
      exact hd
    · have il : i < 1000 := by
        obtain ⟨⟨d, hd, _⟩, _⟩ := fw
        have := (List.getElem?_eq_some_iff.mp hd).1
        have := few ds ed
        omega
      refine ⟨_, rfl, rfl, _, rfl, ite_yes rfl ?_⟩
      refine ⟨_, rfl, (by show 1 ≤ 1000; decide), fun a ha => ⟨a, (i : Nat), rfl, TB.oN, upd_same, by omega, by omega, fun d hd nda => ⟨rfl, d, _, upd_same, by rw [upd_ne nda, upd_same], ?_, flies i H1 s1 (by rw [ed]; exact .inl fw) (by omega) a ha d hd nda⟩⟩⟩
      rw [upd_ne nda] at hd
      exact hd
    rotate_left
    · have il := few ds ed
      refine ⟨_, rfl, rfl, _, rfl, ite_yes rfl ?_⟩
      refine ⟨_, rfl, (by show 1 ≤ 1000; decide), fun a ha => ⟨a, (ds.length : Nat), rfl, TB.oN, upd_same, by omega, by omega, fun d hd nda => ⟨rfl, d, _, upd_same, by rw [upd_ne nda, upd_same], ?_, flies ds.length H1 s1 (by rw [ed]; exact .inr ⟨nw, no, rfl⟩) (by omega) a ha d hd nda⟩⟩⟩
      rw [upd_ne nda] at hd
      exact hd
    obtain ⟨few2, kQ0, kE0⟩ := kG ds ed nw n260
    subst ed
    obtain ⟨l, vs, rfl, ha1, pr0, _⟩ | ⟨l, rfl, _, e0⟩ := hx
    rotate_left
    · rw [e0] at n260
      exact absurd n260.1 (by decide)
    obtain ⟨as, rs, rfl, ha2, low, emap⟩ := rows_of (n := ds.length) pr0 fun d hd => by
      obtain ⟨j, hj⟩ := List.getElem?_of_mem hd
      have := nw j d hj
      unfold goodR at this
      rw [Bool.and_eq_true] at this
      exact this.1
    have dl : ds.length = rs.length := by rw [← emap, List.length_map]
    rw [dl] at low n260
    have asl : as.length = rs.length := ha2.length
    have npl : l ≠ p := ne_of ha1 hp (by intro z; cases z)
    have kQ := kQ0 rs emap
    refine ⟨_, rfl, rfl, _, rfl, ite_no rfl ?_⟩
    refine ⟨_, rfl, l, rfl, ⟨_, SqL.of (s1 _ _ ha1)⟩, fun D hD => ?_⟩
    refine lc_list (K := K) (a := l) (xs := as.map V.ref) (fun i H2 => ∃ (us : List Addr) (rs' : List Row), H2 D = some (.lst (us.map V.ref)) ∧ Paired (fun a r => RowAt H2 r a) us rs' ∧ Paired RSim (rs.take i) rs' ∧ Same H H2)
      ⟨[], [], upd_same, .nil, .nil, same_tr s1 (same_new hD)⟩ (fun i H2 _ ⟨_, _, _, _, _, e⟩ => SqL.of (e _ _ ha1)) ?_ ?_
    · rintro i y H2 hi ⟨us, rs', hD2, pu, ps, s2⟩
      rw [List.getElem?_map] at hi
      obtain ⟨a, hia, rfl⟩ : ∃ a, as[i]? = some a ∧ y = V.ref a := by
        cases e : as[i]? with
        | none =>
          rw [e] at hi
          cases hi
        | some z =>
          rw [e] at hi
          exact ⟨z, rfl, (Option.some.inj hi).symm⟩
      obtain ⟨r, hir, hra⟩ := paired_at ha2 hia
      have rl : r.low rs.length := low r (List.mem_of_getElem? hir)
      refine ⟨rfl, tyes_if ?_⟩
      refine ⟨_, rfl, a, r, rs.length, rfl, hra.mono (fun b xs x => s2 _ _ x) (fun b xs x => s2 _ _ x), rl, fun b r' H3 s3 rb sim => ?_⟩
      have hD3 := s3 _ _ hD2
      have tk : rs.take (i + 1) = rs.take i ++ [r] := by rw [List.take_add_one, hir]; rfl
      have ul : us.length ≤ 60 := by
        have h1 := pu.length
        have h2 := ps.length
        rw [List.length_take] at h2
        omega
      refine ⟨us.map V.ref, hD3, small (by rw [List.length_map]; omega), us ++ [b], rs' ++ [r'], by rw [upd_same, List.map_append]; rfl, Paired.snoc (L2.Paired.mapP pu fun a r e => (e.mono (fun b xs x => s3 _ _ x) fun b xs x => s3 _ _ x).put hD3) (rb.put hD3), by rw [tk]; exact ps.snoc sim, same_put (same_tr s2 s3) (s1.free hD)⟩
    · rintro H2 ⟨us, rs', hD2, pu, ps, s2⟩
      rw [List.length_map, asl, List.take_length] at ps
      refine ⟨D, _, rfl, .inl ⟨SqL.of hD2, fun T hT => ?_⟩⟩
      refine ⟨_, rfl, p, C, dx, _, rfl, by rw [upd_ne (ne_of_none (s2 _ _ hp) hT)]; exact s2 _ _ hp, TT.cl, TT.nR, (by show 0 < 1000; decide), ?_⟩
      have npT : T ≠ p := (ne_of_none (s2 _ _ hp) hT).symm
      have hp3 : (upd (upd H2 T (.tup (us.map V.ref))) p (.ins C dx (putF "_rows" (.ref T) []))) p = some (.ins C dx [("_rows", .ref T)]) := upd_same
      have hT3 : (upd (upd H2 T (.tup (us.map V.ref))) p (.ins C dx (putF "_rows" (.ref T) []))) T = some (.tup (us.map V.ref)) := by rw [upd_ne npT, upd_same]
      have keep3 : ∀ b o, H2 b = some o → b ≠ p → (upd (upd H2 T (.tup (us.map V.ref))) p (.ins C dx (putF "_rows" (.ref T) []))) b = some o := fun b o e n => by
        rw [upd_ne n, upd_ne (ne_of_none e hT)]
        exact e
      revert hp3 hT3 keep3
      generalize (upd (upd H2 T (.tup (us.map V.ref))) p (.ins C dx (putF "_rows" (.ref T) []))) = H3
      intro hp3 hT3 keep3
      have pu3 : Paired (fun a r => RowAt H3 r a) us rs' := L2.Paired.mapP pu fun a r e => e.mono (fun b xs x => keep3 b _ x (ne_of x (s2 _ _ hp) (by intro z; cases z))) fun b xs x => keep3 b _ x (ne_of x (s2 _ _ hp) (by intro z; cases z))
      have low' : ∀ r ∈ rs', r.low rs'.length := fun r hr => by
        obtain ⟨j, hj⟩ := List.getElem?_of_mem hr
        obtain ⟨r0, e0, sm⟩ := paired_at (paired_flip ps) hj
        rw [← ps.length]
        exact RSim.low sm (low r0 (List.mem_of_getElem? e0))
      refine ⟨_, rfl, p, C, dx, _, _, rfl, hp3, TT.cl, TT.nR, rfl, T, _, rfl, SqT.of hT3, for_it (walk_enumT (K := K) (a := T) (xs := us.map V.ref)) (fun i σ H4 => ∃ v3 v4, σ = [some (.ref p), some (.ref l), some .non, v3, v4] ∧ H4 p = some (.ins C dx [("_rows", .ref T)]) ∧ H4 T = some (.tup (us.map V.ref)) ∧ Paired (fun a r => RowAt H4 r a) us rs' ∧ (∀ f m, f < i → rs[f]? = some (Row.rest m) → Once rs f) ∧ ∀ b o, H b = some o → b ≠ p → H4 b = some o)
        ⟨none, none, rfl, hp3, hT3, pu3, fun f m h => absurd h (Nat.not_lt_zero _), fun b o e n => keep3 b o (s2 b o e) n⟩ (fun i σ H4 _ ⟨_, _, _, _, e, _⟩ => SqT.of e) ?_ ?_⟩
      · rintro i x σ Ha Hb hi ⟨v3, v4, rfl, hpa, hTa, pua, ona, keepa⟩ ⟨T2, ix, y, rfl, hT2, rfl, e1, e2⟩
        cases Option.some.inj e1
        dsimp only at e2
        rw [List.getElem?_map] at e2
        obtain ⟨b, hib, rfl⟩ : ∃ b, us[i]? = some b ∧ y = V.ref b := by
          cases e : us[i]? with
          | none =>
            rw [e] at e2
            cases e2
          | some z =>
            rw [e] at e2
            exact ⟨z, rfl, (Option.some.inj e2).symm⟩
        obtain ⟨r', hir', hrb⟩ := paired_at pua hib
        obtain ⟨r, hir, sm⟩ := paired_at (paired_flip ps) hir'
        have il : i < rs'.length := (List.getElem?_eq_some_iff.mp hir').1
        have sb := same_new (o := .tup [V.int (i : Nat), V.ref b]) hT2
        have hpb := sb _ _ hpa
        have hTb := sb _ _ hTa
        have pub := L2.Paired.mapP pua fun a r e => RowAt.mono (H' := upd Ha T2 (.tup [V.int (i : Nat), V.ref b])) e (fun b xs x => sb _ _ x) fun b xs x => sb _ _ x
        have hrb2 : RowAt (upd Ha T2 (.tup [V.int (i : Nat), V.ref b])) r' b := hrb.mono (fun b xs x => sb _ _ x) fun b xs x => sb _ _ x
        have keepb : ∀ b' o, H b' = some o → b' ≠ p → (upd Ha T2 (.tup [V.int (i : Nat), V.ref b])) b' = some o := fun b' o e n => sb _ _ (keepa b' o e n)
        refine ⟨T2, _, rfl, SqT.of upd_same, rfl, _, _, rfl, _, _, rfl, rfl, ?_⟩
        have other : (∀ m, r' ≠ .rest m) → ∀ f m, f < i + 1 → rs[f]? = some (Row.rest m) → Once rs f := fun nr f m hf e => by
          by_cases z : f = i
          · rw [z, hir] at e
            cases e
            cases r' with
            | rest m' => exact absurd rfl (nr m')
            | ins m' => exact sm.elim
            | wr c v m' => exact sm.elim
            | rd c cs m' => exact sm.elim
          · exact ona f m (by omega) e
        cases r' with
        | ins m' =>
          refine ⟨_, rfl, b, _, _, _, rfl, rfl, SqT.of hrb2, rfl, rfl, _, rfl, ite_no (decide_eq_false (by intro z; cases z)) (iteF ?_)⟩
          exact ⟨_, _, rfl, hpb, hTb, pub, other (fun m z => by cases z), keepb⟩
        | wr c v m' =>
          refine ⟨_, rfl, b, _, _, _, rfl, rfl, SqT.of hrb2, rfl, rfl, _, rfl, ite_no (decide_eq_false (by intro z; cases z)) (iteF ?_)⟩
          exact ⟨_, _, rfl, hpb, hTb, pub, other (fun m z => by cases z), keepb⟩
        | rd c cs m' =>
          obtain ⟨dd, q1, q2⟩ := hrb2
          refine ⟨_, rfl, b, _, _, _, rfl, rfl, SqT.of q1, rfl, rfl, _, rfl, ite_no (decide_eq_false (by intro z; cases z)) (iteF ?_)⟩
          exact ⟨_, _, rfl, hpb, hTb, pub, other (fun m z => by cases z), keepb⟩
        | rest m' =>
          have hrest : ∃ m, rs[i]? = some (Row.rest m) := by
            cases r with
            | rest m => exact ⟨m, hir⟩
            | ins m => exact sm.elim
            | wr c v m => exact sm.elim
            | rd c cs m => exact sm.elim
          refine ⟨_, rfl, b, _, _, _, rfl, rfl, SqT.of hrb2, rfl, rfl, _, rfl, ite_yes (decide_eq_true rfl) ?_⟩
          refine ⟨_, rfl, p, C, dx, _, _, rfl, hpb, TT.cl, TT.nR, rfl, _, rfl, T, us, rs', i, rfl, hTb, pub, low', few2 rs rs' i emap ps il, il, fun bo H5 s5 iff => ⟨bo, rfl, ?_⟩⟩
          have iff2 := iff.trans (once_iff ps i).symm
          cases bo with
          | true =>
            refine iteF ?_
            refine ⟨_, _, rfl, s5 _ _ hpb, s5 _ _ hTb, L2.Paired.mapP pub fun a r e => e.mono (fun b xs x => s5 _ _ x) (fun b xs x => s5 _ _ x), fun f m hf e => ?_, fun b' o e n => s5 _ _ (keepb b' o e n)⟩
            by_cases z : f = i
            · rw [z]
              exact iff2.mp rfl
            · exact ona f m (by omega) e
          | false =>
            refine iteT ?_
            refine ⟨_, rfl, (by show 1 ≤ 1000; decide), fun a ha => ⟨a, (i : Int), rfl, TT.oN, upd_same, by omega, by have := ps.length; omega, fun d hd nda => ?_⟩⟩
            have hd5 : H5 d = none := by
              rw [upd_ne nda] at hd
              exact hd
            refine ⟨rfl, d, _, upd_same, by rw [upd_ne nda, upd_same], hd5, ?_⟩
            refine kE0 i d _ (fun b' o e n => ?_) upd_same
            have h5 := s5 _ _ (keepb b' o e n)
            have n1 : b' ≠ d := ne_of_none h5 hd5
            have n2 : b' ≠ a := ne_of_none h5 ha
            rw [upd_ne n1, del_ne n2, upd_ne n2, upd_ne n1, upd_ne n2]
            exact h5
      · rintro σ Ha ⟨v3, v4, rfl, hpa, hTa, pua, ona, keepa⟩
        rw [List.length_map] at ona
        exact kQ Ha keepa ⟨dx, T, us, rs', hpa, hTa, pua, ps⟩
end
end CC
set_option Elab.async false
set_option maxRecDepth 100000
namespace CC
open PySem PySem.Spec PyProof.Rows L2
set_option linter.unusedVariables false
/-! ### try: .. except A as n: .. except B: .. -/
def wTwo (K : PySem.W.Frag) (A1 A2 : Value) (i : Nat) (t1 t2 : Addr → Value → Option Addr → TS) (D : Ends) : WX := fun cls d σ H =>
  ∃ b, PySem.W.exmOne K cls A1 = some b ∧ (b = true → ∀ e, H e = none → t1 e cls d { nx := fun σ' H' => D.nx (σ'.set i none) H', rt := D.rt, bk := fun σ' H' => D.bk (σ'.set i none) H', ct := fun σ' H' => D.ct (σ'.set i none) H' } (σ.set i (some (.ref e))) H) ∧
    (b = false → PySem.W.exmOne K cls A2 = some true ∧ ∀ e, H e = none → t2 e cls d D σ H)
section
variable {X : Cx} {x1 x2 n : Str} {A1 A2 : Value} {i : Nat} {body st1 st2 : List Stmt} {f1 f2 : Stmt} {q1 q2 q3 q4 pos : Pos} {tb : WX → TS} {t1 t2 : Addr → Value → Option Addr → TS}
theorem ps_try_two (stk : X.stack = X.env :: X.outer) (frm : X.env.frame = some X.env.locals) (nd : X.N.Nodup) (at_ : X.N[i]? = some n) (own : X.env.kindOf n = some .local) (n1 : Names X x1 A1) (n2 : Names X x2 A2)
    (run : ∀ (W : WX) (pn : List (Addr × Obj)) (xe : Value → Shared → Prop), Takes (X.tr pn xe) W → PassesOwn (model X.prog X.w) X.A X.env xe → PSs (X.tr pn xe) body (tb W))
    (su1 : ∀ (e : Addr) (oe : Obj) (cls : Value) (d : Option Addr) (pn : List (Addr × Obj)), Zc cls d oe → (∃ vs, oe.data = .fields vs) → PSs (X.suite e ((e, oe) :: pn)) (f1 :: st1) (t1 e cls d))
    (su2 : ∀ (e : Addr) (oe : Obj) (cls : Value) (d : Option Addr) (pn : List (Addr × Obj)), Zc cls d oe → (∃ vs, oe.data = .fields vs) → PSs (X.suite e ((e, oe) :: pn)) (f2 :: st2) (t2 e cls d)) :
    PS X (.Try body [.ExceptHandler (some (.Name x1 q1)) (some n) (f1 :: st1) q2, .ExceptHandler (some (.Name x2 q3)) none (f2 :: st2) q4] [] [] pos) (fun D σ H => tb (wTwo X.K A1 A2 i t1 t2 D) D σ H) := by
  refine ⟨fun pins s σ H D I h => wpAny_Try_except ?_⟩
  have I0 := I.ok
  have fra : X.A.frames = some (X.env :: X.outer) := I0.frames.trans (congrArg some stk)
  refine wpAny_mono ((run (wTwo X.K A1 A2 i t1 t2 D) (X.pn ++ pins) (fun e z1 => wpAny (model X.prog X.w) X.A (noteFrame e X.env) (fun _ z2 => wpAny (model X.prog X.w) X.A (setFlight e none) (fun _ z3 =>
    wpAny (model X.prog X.w) X.A (handleBy e X.env [.ExceptHandler (some (.Name x1 q1)) (some n) (f1 :: st1) q2, .ExceptHandler (some (.Name x2 q3)) none (f2 :: st2) q4]) (SP X pins D) X.xe z3) X.xe z2) X.xe z1) (fun u z caught => ?_) PassesOwn.looking).run [] s σ H D (I.toTry _) h) (fun fl z out => ?_) (fun _ _ z => z)
  · obtain ⟨e, B, zI, pins', σ1, H1, cls, d, rfl, J', bare, up, sky, none_, os, ag, b, m1, yes, no⟩ := caught
    have J : Inv X pins σ1 H1 zI := J'.ofTry I0
    show wpAny (model X.prog X.w) X.A (noteFrame (.ref e) X.env) _ _ _
    refine Sky.land Zc.steady fra frm (by rw [← stk]; exact sky) fun h3 air3 up3 => ?_
    have J3 : Inv X pins σ1 H1 { z with heap := h3 } := J.landed bare air3.1 (up.trans up3) os ag
    obtain ⟨oe3, vs3, get3, zc3, dat3⟩ := air3.there
    have off : e ∉ frs (X.env :: X.outer) := fun hm => by
      obtain ⟨_, o', get', nofr⟩ := air3.2.2.1.mem hm
      rw [get3] at get'
      cases get'
      exact nofr _ dat3
    have offL : e ≠ X.env.locals := fun q => off (List.mem_filterMap.mpr ⟨X.env, List.mem_cons_self, frm.trans (congrArg some q.symm)⟩)
    have offF : e ∉ X.fs := fun hm => by
      obtain ⟨v, hv, q⟩ := List.mem_filterMap.mp hm
      exact off (List.mem_filterMap.mpr ⟨v, List.mem_cons_of_mem _ hv, q⟩)
    have S3 := J3.suite get3 dat3 none_ offL offF
    have look : PySem.W.Looks (model X.prog X.w) h3 (typeOf (.ref e)) cls := fun A Q E s k q => wpAny_typeOf_ref (k _ _ get3) (by rw [zc3.1]; exact q)
    have named : ∀ {x : Str} {c : Value} {np : Pos}, Names X x c → ∀ {Q : Value → Shared → Prop} {E : Value → Shared → Prop}, Q c { z with heap := h3 } → wpAny (model X.prog X.w) (X.A.mark (some (.ref e))) (eval (.Name x np) X.env) Q E { z with heap := h3 } := by
      intro x c np nm Q E q
      obtain ⟨hg, dbg, hm | ⟨hm, hv, hn⟩⟩ := nm
      · exact ld_glob (X := X.suite e ((e, oe3) :: (X.pn ++ pins))) S3 hg hm q dbg
      · exact ld_blt (X := X.suite e ((e, oe3) :: (X.pn ++ pins))) S3 hg hm hv q hn dbg
    refine wpAny_handleBy_cons (codeAny_handlers_test ?_) (by intro q; cases q)
    refine named n1 ((PySem.W.exm_one (M := model X.prog X.w) J3.kIn look m1).here ?_)
    cases b with
    | true =>
      refine codeAny_handlers_suite_as (HandSPX.lands_againZ air3 fun h4 air4 up4 => ?_)
      have J4 : Inv X pins σ1 H1 { z with heap := h4 } := J.landed bare air4.1 ((up.trans up3).trans up4) os ag
      obtain ⟨oe4, vs4, get4, zc4, dat4⟩ := air4.there
      have S4 := J4.suite get4 dat4 none_ offL offF
      refine store_ok (X := X.suite e ((e, oe4) :: (X.pn ++ pins))) (v := .ref e) S4 nd at_ (.inl own) rfl (fun s5 S5 => ?_) (.inr own)
      refine wpAny_mono ((su1 e oe4 cls d (X.pn ++ pins) zc4 ⟨_, dat4⟩).run [] s5 _ H1 _ S5 (yes rfl e none_)) (fun fl s6 sp => ?_) (fun _ _ z => False.elim z)
      have gone : ∀ {σ6 : L2.St} {H6 : Hp} {Q : Shared → Prop}, Inv (X.suite e ((e, oe4) :: (X.pn ++ pins))) [] σ6 H6 s6 → (∀ s7, Inv X pins (σ6.set i none) H6 s7 → Q s7) →
          wpAny (model X.prog X.w) X.A (do bindName X.env n .none; unbindBehindTheSuite X.env n q2) (fun _ s7 => Q s7) X.xe s6 := fun {σ6 H6 Q} S6 k => gone_ok (S6.unsuite I0) nd at_ own k
      cases fl with
      | next => exact let ⟨_, _, S6, q6⟩ := sp; gone S6 fun s7 J7 => ⟨_, _, J7, q6⟩
      | brk => exact let ⟨_, _, S6, q6⟩ := sp; gone S6 fun s7 J7 => ⟨_, _, J7, q6⟩
      | cont => exact let ⟨_, _, S6, q6⟩ := sp; gone S6 fun s7 J7 => ⟨_, _, J7, q6⟩
      | ret u => exact let ⟨_, _, _, S6, r6, q6⟩ := sp; gone S6 fun s7 J7 => ⟨_, _, _, J7, r6, q6⟩
    | false =>
      obtain ⟨m2, yes2⟩ := no rfl
      show wpAny _ X.A (handleBy (.ref e) X.env [.ExceptHandler (some (.Name x2 q3)) none (f2 :: st2) q4]) _ _ _
      refine wpAny_handleBy_cons (codeAny_handlers_test ?_) (by intro q; cases q)
      refine named n2 ((PySem.W.exm_one (M := model X.prog X.w) J3.kIn look m2).here ?_)
      refine codeAny_handlers_suite (HandSPX.lands_againZ air3 fun h4 air4 up4 => ?_)
      have J4 : Inv X pins σ1 H1 { z with heap := h4 } := J.landed bare air4.1 ((up.trans up3).trans up4) os ag
      obtain ⟨oe4, vs4, get4, zc4, dat4⟩ := air4.there
      have S4 := J4.suite get4 dat4 none_ offL offF
      refine wpAny_mono ((su2 e oe4 cls d (X.pn ++ pins) zc4 ⟨_, dat4⟩).run [] _ _ H1 _ S4 (yes2 e none_)) (fun fl s6 sp => ?_) (fun _ _ z => False.elim z)
      cases fl with
      | next => exact let ⟨_, _, S6, q6⟩ := sp; ⟨_, _, S6.unsuite I0, q6⟩
      | brk => exact let ⟨_, _, S6, q6⟩ := sp; ⟨_, _, S6.unsuite I0, q6⟩
      | cont => exact let ⟨_, _, S6, q6⟩ := sp; ⟨_, _, S6.unsuite I0, q6⟩
      | ret u => exact let ⟨_, _, _, S6, r6, q6⟩ := sp; ⟨_, _, _, S6.unsuite I0, r6, q6⟩
  · cases fl with
    | next => exact let ⟨σ', H', J', q⟩ := out; wpAny_execs_nil ⟨σ', H', J'.ofTry I0, q⟩
    | brk => exact let ⟨σ', H', J', q⟩ := out; ⟨σ', H', J'.ofTry I0, q⟩
    | cont => exact let ⟨σ', H', J', q⟩ := out; ⟨σ', H', J'.ofTry I0, q⟩
    | ret u => exact let ⟨v, σ', H', J', r, q⟩ := out; ⟨v, σ', H', J'.ofTry I0, r, q⟩
end
end CC
set_option Elab.async false
set_option maxRecDepth 100000
namespace CC
open PySem PySem.Spec PyProof.Rows L2
set_option linter.unusedVariables false
/-! ### len of an own object that has the method -/
section
variable {X : Cx} {CX : CXT} {C g : Addr} {k : Nat} {fd : FuncData} {ps : List Str} {sp : Sp}
theorem call_lenOwn {E : XK} (hs : PySem.W.findIn X.K (.ref C) "__len__" = some (some (.ref g))) (hf : PySem.W.isFn X.K (.ref g) = true)
    (F : FnOk X.prog X.w X.K X.mg X.base CX k g fd ps sp) (hr : Room (k + 1) X.A) (hb : Binds X.K fd ps []) (hx : Passes CX X E) :
    CallR X (.builtin "len") (fun xs H Q => ∃ a dx fs, xs = [.ref a] ∧ H a = some (.ins C dx fs) ∧ sp [.ref a] H (fun v H' => ∃ n : Nat, v = .int n ∧ n < 9223372036854775808 ∧ Q (.int n) H') E) := by
  intro pins s σ H xs us Q I r h
  obtain ⟨a, dx, fs, rfl, ea, q⟩ := h
  obtain ⟨u, rfl, rx⟩ := vals1 r
  obtain rfl : u = Value.ref a := rx
  obtain ⟨m, fr⟩ := I.fr
  obtain ⟨mA, O, _, _, _, _⟩ := ins_get I.hok ea
  obtain ⟨od, J, _⟩ := O.look
  have hl : ([Value.ref a] ++ ([] : List Value)).length = ps.length := by
    rw [← F.len _ _ _ _ q]
    rfl
  refine PySem.W.len_K fr I.ok.mod.kin J hs hf (wpAny_call (codeAny_mono (F.run X.A.in1 X.stack s H ⟨[.ref a], []⟩ [.ref a] [.ref a] _ E hr.in1 I.env0.in1 (hb _ [.ref a] I.kIn hl) (.cons rfl .nil) q) fun r s' hq => ?_))
  cases r with
  | error er => exact hx pins σ H s er s' I hq
  | ok fl =>
    cases fl with
    | ret u =>
      obtain ⟨v, H', I3, rv, n, rfl, hn, q3⟩ := I.after hq
      obtain ⟨t, rfl⟩ := rv
      refine ⟨⟨by omega, by omega⟩, .int n, H', I3.tok _, ⟨_, rfl⟩, q3⟩
    | next => exact False.elim hq
    | brk => exact False.elim hq
    | cont => exact False.elim hq
end
/-- the length of a program -/
def spProgLen (C : Addr) : Sp := fun vs H Q _ => ∃ (p : Addr) (rs : List Row), vs = [.ref p] ∧ ProgAt C H p rs ∧ Q (.int (rs.length : Nat)) H
section
variable {P : Program} {w : World} {K : PySem.W.Frag} {mg : Str → Option Value} {base : Heap}
theorem scProgLen : FnScope ["self"] ["self"] (defScope sProgLen) := ⟨rfl, rfl, rfl, by decide +kernel, rfl, by decide +kernel, by decide +kernel⟩
theorem ok_proglen {f C : Addr} {fd : FuncData} (F : Fun K "__len__" "Program.__len__" sProgLen f fd) (cl : Cls K C) (nR : NoAttr K C "_rows") (tl : mg "len" = none) :
    FnOk P w K mg base CX0 1 f fd ["self"] (spProgLen C) := by
  refine F.ok scProgLen (fun vs H Q E h => ?_) (fun cdv A outer s H vs Q E hr h => ?_)
  · obtain ⟨p, rs, rfl, _⟩ := h
    rfl
  · refine ⟨_, pss_one (ps_ret (pe_callB call_len (by rfl) tl (by decide +kernel) (pa_cons (pe_fld (pv 0) rfl) pa_nil))), ?_⟩
    obtain ⟨p, rs, rfl, ⟨dx, T, as, rs', hp, hT, pa, ps⟩, q⟩ := h
    have l1 := pa.length
    have l2 := ps.length
    refine ⟨_, rfl, p, C, dx, _, _, rfl, hp, cl, nR, rfl, _, rs.length, rfl, .inr ⟨_, SqT.of hT, ?_⟩, q⟩
    rw [List.length_map]
    omega
end
/-! ### an object is made inside a try -/
def tMakeAt (C : Addr) (sp : Sp) (E : L2.St → XK) (t : TA) : TE := fun σ H Q => t σ H fun vs H1 => ∀ x dx, H1 x = none → H1 dx = none → dx ≠ x →
  sp (.ref x :: vs) (upd (upd H1 dx (.own x)) x (.ins C dx [])) (fun v H2 => v = .non ∧ Q (.ref x) H2) (E σ)
section
variable {X : Cx} {CX : CXT} {k : Nat} {f C : Addr} {fd : FuncData} {ps : List Str} {sp : Sp} {E : L2.St → XK} {x : Str} {p pos : Pos} {e : Expr} {es : List Expr} {t : TA}
theorem run_makeAt {pins : List (Addr × Obj)} {σ : L2.St} {H : Hp} {s : Shared} {Q : VK} {us : List Value} {vs : List V} (M : Mk X.K C f) (F : FnOk X.prog X.w X.K X.mg X.base CX k f fd ps sp) (hr : Room (k + 1) X.A) (hb : Binds X.K fd ps [])
    (hx : PassesAt CX X σ (E σ)) (I : Inv X pins σ H s) (r : Vals vs us)
    (h : ∀ x dx, H x = none → H dx = none → dx ≠ x → sp (.ref x :: vs) (upd (upd H dx (.own x)) x (.ins C dx [])) (fun v H2 => v = .non ∧ Q (.ref x) H2) (E σ)) :
    wpAny (model X.prog X.w) X.A (call (.ref C) us) (EP X pins σ Q) X.xe s := by
  have big := h (s.heap.objs.size + 1) s.heap.objs.size (I.hok.fresh (Nat.le_succ _)) (I.hok.fresh (Nat.le_refl _)) (Nat.ne_of_lt (Nat.lt_succ_self _))
  have J := Inv.made (C := C) I
  have rr : Vals (V.ref (s.heap.objs.size + 1) :: vs) (Value.ref (s.heap.objs.size + 1) :: us) := .cons rfl r
  have hl : (Value.ref (s.heap.objs.size + 1) :: us ++ ([] : List Value)).length = ps.length := by
    rw [List.append_nil, ← rr.length]
    exact F.len _ _ _ _ big
  have bd := hb _ (Value.ref (s.heap.objs.size + 1) :: us) J.kIn hl
  rw [List.append_nil] at bd
  refine wpAny_call (make_map (f := f) I.kIn M.makes M.init (beq_iff_eq.mp M.fn) (codeAny_mono (F.run _ X.stack _ _ ⟨Value.ref (s.heap.objs.size + 1) :: us, []⟩ _ _ _ (E σ) (hr.make C us []) (J.env0.make C us []) bd rr big) fun r s' hq => ?_))
  cases r with
  | error er => exact hx pins _ _ er s' J hq
  | ok fl =>
    cases fl with
    | ret u =>
      obtain ⟨v, H', J3, rv, ev, q3⟩ := J.after hq
      subst ev
      exact ⟨rv, ⟨V.ref (s.heap.objs.size + 1), H', J3, rfl, q3⟩⟩
    | next => exact False.elim hq
    | brk => exact False.elim hq
    | cont => exact False.elim hq
theorem pe_makeAt (M : Mk X.K C f) (F : FnOk X.prog X.w X.K X.mg X.base CX k f fd ps sp) (hr : Room (k + 1) X.A) (hg : Gl X x) (hm : X.mg x = some (.ref C)) (hb : Binds X.K fd ps []) (hx : ∀ σ, PassesAt CX X σ (E σ))
    (ha : PA X (e :: es) t) (hdb : (x == ("__debug__" : Str)) = false := by decide) (he : starEach (e :: es) X.env = (false, eval e X.env) :: starEach es X.env := by rfl) (hpl : (backTo pos (starEach es X.env)).any (·.1) = false := by rfl) :
    PE X (.Call (.Name x p) (e :: es) [] pos) (tMakeAt C sp E t) := by
  refine ⟨fun pins s σ H Q I h => ?_⟩
  refine wpAny_Call_Name_kw (ld_glob I hg hm ?_ hdb)
  exact PySem.W.callWith_K (h₀ := X.base) I.ok.mod.kin M.kp (thn (ha.run pos pins s σ H _ I h) fun us s1 ⟨vs, H1, I1, r, q⟩ => ⟨I1.kIn, run_makeAt M F hr hb (hx σ) I1 r q⟩) he hpl
end
def rLenO (C : Addr) : List V → Hp → VK → Prop := fun xs H Q => ∃ a dx fs, xs = [.ref a] ∧ H a = some (.ins C dx fs) ∧ spProgLen C [.ref a] H (fun v H' => ∃ n : Nat, v = .int n ∧ n < 9223372036854775808 ∧ Q (.int n) H') (fun _ _ _ => False)
theorem ArgAt.mono {P : Program} {w : World} {H H' : Hp} {x : Arg} {v : V} (h : ArgAt P w H x v) (s : Same H H') : ArgAt P w H' x v := by
  cases x with
  | flat t => exact ⟨h.1, h.2.mono s⟩
  | rows ds =>
    rcases h with ⟨l, vs, e, hl, pr, few⟩ | ⟨l, e, hl, e0⟩
    · exact .inl ⟨l, vs, e, s _ _ hl, L2.Paired.mapP pr fun v d q => RowDAt.mono q s, few⟩
    · exact .inr ⟨l, e, s _ _ hl, e0⟩
def rLenQ (K : PySem.W.Frag) : List V → Hp → VK → Prop := fun xs H Q => ∃ p ys, xs = [.ref p] ∧ (SqL K H p ys ∨ SqT K H p ys) ∧ Q (.int ys.length) H
abbrev sTried : Stmt := top 33
/-- what the class Program gives for anything that is handed over -/
def spTried (P : Program) (w : World) : Sp := fun vs H Q _ => ∃ (x : Arg) (v : V), vs = [v] ∧ ArgAt P w H x v ∧ (∀ ds, x = .rows ds → ds.length ≤ 1000) ∧
  (∀ ds, x = .rows ds → NoWrong ds → 2 ≤ ds.length ∧ ds.length ≤ 60 → ∀ rs rs' i, rs.map toD = ds → Paired RSim rs rs' → i < rs'.length → Few rs' i) ∧
  (∀ i : Nat, WrongNum x i → ∀ H' t, Same H H' → H' t = some (.tup [.str "bad", .int (i : Nat)]) → Q (.ref t) H') ∧
  (∀ ds, x = .rows ds → NoWrong ds → 2 ≤ ds.length ∧ ds.length ≤ 60 → ∀ H' t, Same H H' → H' t = some (.tup [.str "told", .int (ds.length : Nat)]) → Q (.ref t) H')
section
variable {P : Program} {w : World} {K : PySem.W.Frag} {mg : Str → Option Value} {base : Heap}
theorem scTried : FnScope ["_law_rows_here", "_law_found", "e"] ["_law_rows_here"] (defScope sTried) := ⟨rfl, rfl, rfl, by decide +kernel, rfl, by decide +kernel, by decide +kernel⟩
theorem ok_tried {f C CB CN fI fL : Addr} {fd fdI fdL : FuncData} (F : Fun K "_law_tried" "_law_tried" sTried f fd)
    (M : Mk K C fI) (gC : mg "Program" = some (.ref C)) (GI : FnOk P w K mg base (L2.CX P w) 6 fI fdI ["self", "rows"] (spProgInit P w C CB CN)) (bI : Binds K fdI ["self", "rows"] [])
    (GL : FnOk P w K mg base CX0 1 fL fdL ["self"] (spProgLen C)) (bL : Binds K fdL ["self"] []) (aL : PySem.W.findIn K (.ref C) "__len__" = some (some (.ref fL))) (iL : PySem.W.isFn K (.ref fL) = true)
    (gB : mg "BadProgram" = some (.ref CB)) (xB : XfC K CB) (rB : PySem.W.findIn K (.ref CB) "row" = some none) (teB : PySem.W.exmOne K (.ref CB) (.ref CB) = some true)
    (gN : mg "NotOnce" = some (.ref CN)) (teN : PySem.W.exmOne K (.ref CN) (.ref CN) = some true) (teX : PySem.W.exmOne K (.ref CN) (.ref CB) = some false) (tl : mg "len" = none) :
    FnOk P w K mg base CX0 8 f fd ["_law_rows_here"] (spTried P w) := by
  refine F.ok scTried (fun vs H Q E h => ?_) (fun cdv A outer s H vs Q E hr h => ?_)
  · obtain ⟨x, v, rfl, _⟩ := h
    rfl
  · have hr2 : Room 2 _ := hr.mono (by decide)
    refine ⟨_, pss_cons (ps_set (i := 1) scTried.nd rfl (Or.inl rfl) (pe_tup (pa_cons pe_str (pa_cons pe_int pa_nil))))
      (pss_cons (ps_try_two (i := 2) (tb := fun W => tAsg (tTup (tCons (tC (.str "told")) (tCons (tCB (rLenO C) (tCons (tMakeAt C (spProgInit P w C CB CN) (WE W) (tCons (tVar 0) tNil)) tNil)) tNil))) (gName 1))
          (t1 := fun a cls d => tAsg (tTup (tCons (tC (.str "bad")) (tCons (tXf a cls d CB "row" (tVar 2)) tNil))) (gName 1))
          (t2 := fun a cls d => tAsg (tTup (tCons (tC (.str "told")) (tCons (tCB (rLenQ K) (tCons (tVar 0) tNil)) tNil))) (gName 1)) rfl rfl scTried.nd rfl rfl ⟨rfl, by decide, Or.inl gB⟩ ⟨rfl, by decide, Or.inl gN⟩
          (fun W pn xe tk _ => pss_one (ps_set (i := 1) scTried.nd rfl (Or.inl rfl) (by exact (pe_tup (pa_cons pe_str (pa_cons (pe_callB (r := rLenO C) (call_lenOwn (E := fun _ _ _ => False) aL iL GL hr2 bL pass0) (by rfl) tl (by decide +kernel) (pa_cons (pe_makeAt M GI hr (by rfl) gC bI (fun σ => passAt tk σ) (pa_cons (pv 0) pa_nil)) pa_nil)) pa_nil))))))
          (fun a oe cls d pn hz hf => pss_one (ps_set (i := 1) scTried.nd rfl (Or.inl rfl) (by exact (pe_tup (pa_cons pe_str (pa_cons (pe_xf xB rB hz hf (pv 2)) pa_nil))))))
          (fun a oe cls d pn hz hf => pss_one (ps_set (i := 1) scTried.nd rfl (Or.inl rfl) (by exact (pe_tup (pa_cons pe_str (pa_cons (pe_callB call_len_seq (by rfl) tl PySem.boot_len (pa_cons (pv 0) pa_nil)) pa_nil)))))))
      (pss_one (ps_ret (pv 1)))), ?_⟩
    obtain ⟨x, v, rfl, hx, few, few2, kB, kT⟩ := h
    refine ⟨(by show 2 ≤ sizeLine; decide), fun t0 ht0 => ?_⟩
    refine ⟨_, rfl, fun p dx hp hdx hne => ?_⟩
    have keep : ∀ b o, H b = some o → (upd H t0 (.tup [.str "none", .int 0])) b = some o := same_new ht0
    revert keep hp hdx
    generalize upd H t0 (.tup [.str "none", .int 0]) = H0
    intro hp hdx keep
    have keep2 : ∀ b o, H0 b = some o → (upd (upd H0 dx (.own p)) p (.ins C dx [])) b = some o := fun b o e => by
      rw [upd_ne (ne_of_none e hp), upd_ne (ne_of_none e hdx)]
      exact e
    have sI : Same H (upd (upd H0 dx (.own p)) p (.ins C dx [])) := fun b o e => keep2 _ _ (keep _ _ e)
    have hpH : ∀ b o, H b = some o → b ≠ p := fun b o e => ne_of_none (keep b o e) hp
    have back : ∀ H', (∀ b o, (upd (upd H0 dx (.own p)) p (.ins C dx [])) b = some o → b ≠ p → H' b = some o) → Same H H' := fun H' e b o q => e b o (sI b o q) (hpH b o q)
    have hxI : ArgAt P w (upd (upd H0 dx (.own p)) p (.ins C dx [])) x v := hx.mono sI
    refine ⟨p, dx, x, v, rfl, upd_same, hxI, few, fun i wn d H' s1 hd => ⟨true, teB, fun _ a ha => ?_, fun q => Bool.noConfusion q⟩, fun ds ed nw n260 => ⟨few2 ds ed nw n260, fun rs emap H' s1 pa => ⟨rfl, ?_⟩, fun fz d H' s1 hd => ⟨false, teX, fun q => Bool.noConfusion q, fun _ => ⟨teN, fun a ha => ?_⟩⟩⟩⟩
    · exact ⟨_, rfl, rfl, rfl, d, _, _, rfl, hd, rfl, (by show 2 ≤ sizeLine; decide), fun t ht => ⟨_, rfl, kB i wn _ t (same_tr (back H' s1) (same_new ht)) upd_same⟩⟩
    · obtain ⟨dx', T, as, rs', hp', hT, q1, q2⟩ := id pa
      have el : rs.length = ds.length := by rw [← emap, List.length_map]
      exact ⟨p, dx', _, rfl, hp', p, rs, rfl, pa, rs.length, rfl, by omega, (by show 2 ≤ sizeLine; decide), fun t ht => ⟨_, rfl, kT ds ed nw n260 _ t (same_tr (back H' s1) (same_new ht)) (by rw [upd_same, el])⟩⟩
    · subst ed
      obtain ⟨l, vs, rfl, hl, pr, _⟩ | ⟨l, rfl, _, e0⟩ := hx
      rotate_left
      · rw [e0] at n260
        exact absurd n260.1 (by decide)
      have el : vs.length = ds.length := pr.length
      exact ⟨_, rfl, l, _, rfl, .inl (SqL.of (back H' s1 _ _ hl)), (by show 2 ≤ sizeLine; decide), fun t ht => ⟨_, rfl, kT ds rfl nw n260 _ t (same_tr (back H' s1) (same_new ht)) (by rw [upd_same, el])⟩⟩
end
end CC
set_option Elab.async false
set_option maxRecDepth 100000
namespace CC
open PySem PySem.Spec PyProof.Rows L2
set_option linter.unusedVariables false
/-! ### the law's own look at names and worths -/
abbrev sLName : Stmt := top 34
abbrev sLWorth : Stmt := top 35
def abc : Str := "abcdefghijklmnopqrstuvwxyz"
def inAbc (c : Nat) : Bool := !(Builtin.Str.occurrences abc ⟨#[c]⟩ 0 abc.length 1).isEmpty
def lawNameS (z : Str) : Bool := decide (1 ≤ z.length) && (decide (z.length ≤ 8) && z.cps.toList.all inAbc)
def Th.agrees : Th → Prop
  | .str z => lawNameS z = nameS z
  | _ => True
def letters (z : Str) : Prop := ∀ c ∈ z.cps.toList, 97 ≤ c ∧ c ≤ 122
theorem abc_ok : ∀ c : Nat, 97 ≤ c → c ≤ 122 → inAbc c = true ∧ Unicode.isAlpha c = true ∧ Unicode.isLower c = true ∧ Unicode.isUpper c = false ∧ Unicode.isTitle c = false := by
  have h : ∀ i : Fin 26, inAbc (97 + i.1) = true ∧ Unicode.isAlpha (97 + i.1) = true ∧ Unicode.isLower (97 + i.1) = true ∧ Unicode.isUpper (97 + i.1) = false ∧ Unicode.isTitle (97 + i.1) = false := by decide +kernel
  intro c h1 h2
  have e := h ⟨c - 97, by omega⟩
  have e2 : 97 + (c - 97) = c := by omega
  simp only [e2] at e
  exact e
theorem names_ok {z : Str} (l : letters z) (h1 : 1 ≤ z.length) (h8 : z.length ≤ 8) : nameS z = true ∧ lawNameS z = true := by
  have a1 : z.cps.toList.all inAbc = true := List.all_eq_true.mpr fun c hc => (abc_ok c (l c hc).1 (l c hc).2).1
  have a2 : Txt.isascii z = true := by
    unfold Txt.isascii
    rw [Array.all_eq_true_iff_forall_mem]
    intro c hc
    have := l c (Array.mem_toList_iff.mpr hc)
    exact decide_eq_true (by omega)
  have a3 : Txt.isalpha z = true := by
    unfold Txt.isalpha
    rw [Bool.and_eq_true]
    refine ⟨decide_eq_true h1, ?_⟩
    rw [Array.all_eq_true_iff_forall_mem]
    intro c hc
    have q := l c (Array.mem_toList_iff.mpr hc)
    exact (abc_ok c q.1 q.2).2.1
  have a4 : Txt.islower z = true := by
    unfold Txt.islower
    rw [Bool.and_eq_true]
    constructor
    · rw [← Array.any_toList, List.any_eq_true]
      have sz : 0 < z.cps.size := h1
      refine ⟨z.cps[0], Array.mem_toList_iff.mpr (Array.getElem_mem sz), ?_⟩
      have q := l _ (Array.mem_toList_iff.mpr (Array.getElem_mem sz))
      exact (abc_ok _ q.1 q.2).2.2.1
    · rw [Bool.not_eq_true', ← Array.any_toList, List.any_eq_false]
      intro c hc
      have q := abc_ok c (l c hc).1 (l c hc).2
      simp [q.2.2.2.1, q.2.2.2.2]
  unfold nameS lawNameS
  rw [a1, a2, a3, a4, decide_eq_true h1, decide_eq_true h8]
  exact ⟨rfl, rfl⟩
def spLName (P : Program) (w : World) : Sp := fun vs H Q _ => ∃ (t : Th) (v : V), vs = [v] ∧ ThAt P w H t v ∧ (∀ z, t = .str z → z.length ≤ 1000) ∧ t.agrees ∧ ∀ H', Same H H' → Q (.bl t.name) H'
section
variable {P : Program} {w : World} {K : PySem.W.Frag} {mg : Str → Option Value} {base : Heap}
theorem scLName : FnScope ["_law_value", "_law_sign"] ["_law_value"] (defScope sLName) := ⟨rfl, rfl, rfl, by decide +kernel, rfl, by decide +kernel, by decide +kernel⟩
theorem ok_lname {f : Addr} {fd : FuncData} (F : Fun K "_law_is_name" "_law_is_name" sLName f fd) (ti : mg "isinstance" = none) (ts : mg "str" = none) (tl : mg "len" = none) (ta : mg "all" = none) :
    FnOk P w K mg base CX0 1 f fd ["_law_value"] (spLName P w) := by
  refine F.ok scLName (fun vs H Q E h => ?_) (fun cdv A outer s H vs Q E hr h => ?_)
  · obtain ⟨t, v, rfl, _⟩ := h
    rfl
  · refine ⟨_, pss_cons (ps_if (PW.pt (pw_or (pt_not (pt_val (pe_callB call_isiB (by rfl) ti (by decide +kernel) (pa_cons (pv 0) (pa_cons (pe_bltn (v := .ty "str") (by rfl) ts (by decide +kernel) rfl) pa_nil))))) (pw_or1 (pt_not (pt_chain op_le op_le pe_int (pe_callB call_len_str (by rfl) tl PySem.boot_len (pa_cons (pv 0) pa_nil)) pe_int))))) (pss_one (ps_ret pe_bl)) pss_nil)
      (pss_one (ps_ret (pe_callB (cr_all rfl) (by rfl) ta (by decide +kernel) (pa_cons (pe_lc (own := [("_law_sign", 1)]) (g := gName 1) (by rfl) scLName.nd (pi_str (pv 0)) (blkOk_by (own := [("_law_sign", 1)]) (N := ["_law_value", "_law_sign"]) (sc := defScope sLName) (by decide +kernel))
        (fun _ _ _ _ _ => pg_name (i := 1) scLName.nd rfl (Or.inl rfl)) (fun _ _ _ _ _ => pts_nil) (fun _ _ _ _ _ => pe_cmpR op_in_str (pv 1) pe_str (by rfl))) pa_nil)))), ?_⟩
    obtain ⟨t, v, rfl, ht, hz, ag, k⟩ := h
    obtain ⟨T, ty⟩ := ht.typed (K := K)
    refine ⟨_, rfl, _, _, _, _, _, rfl, .ty _, ty.ty, ty.str, _, rfl, ?_⟩
    cases t with
    | str z =>
      cases (show v = .str z from ht)
      have k2 : ∀ H', Same H H' → Q (.bl (lawNameS z)) H' := fun H' s => by
        rw [show lawNameS z = Th.name (.str z) from ag]
        exact k H' s
      have lz := hz z rfl
      refine iteF ⟨_, rfl, z, rfl, Nat.le_of_lt (small (Nat.lt_of_le_of_lt lz (by decide))), _, _, rfl, rfl, _, rfl, ?_⟩
      by_cases h1 : 1 ≤ z.length
      · refine ite_yes (decide_eq_true (by omega)) ⟨_, _, rfl, rfl, _, rfl, ?_⟩
        by_cases h8 : z.length ≤ 8
        · refine ite_no (not_dec (by omega)) ?_
          refine ⟨_, rfl, z, rfl, fun D hD => ?_⟩
          refine lc_it (walk_str (z := z)) (fun i H2 => H2 D = some (.lst (((z.cps.toList.take i).map inAbc).map V.bl)) ∧ Same H H2) ⟨upd_same, same_new hD⟩ (fun _ _ _ _ => True.intro) ?_ ?_
          · rintro i x0 Ha Hb hi ⟨hDa, sa⟩ ⟨rfl, c, hc, rfl⟩
            refine ⟨rfl, tyes_if ?_⟩
            refine ⟨_, rfl, _, abc, rfl, rfl, ?_⟩
            refine ⟨_, hDa, small (by rw [List.length_map, List.length_map, List.length_take]; exact Nat.lt_of_le_of_lt (Nat.min_le_left _ _) (Nat.lt_of_lt_of_le hi (Nat.le_trans h8 (by decide)))), ?_, same_put sa hD⟩
            have hc' : z.cps.toList[i]? = some c := by rw [Array.getElem?_toList]; exact hc
            rw [upd_same, List.take_add_one, hc', List.map_append, List.map_append]
            rfl
          · rintro Ha ⟨hDa, sa⟩
            refine ⟨D, _, rfl, SqL.of hDa, ?_⟩
            have e : ((z.cps.toList.take z.cps.size).map inAbc).all id = lawNameS z := by
              unfold lawNameS
              rw [decide_eq_true h1, decide_eq_true h8, Bool.true_and, Bool.true_and, List.take_of_length_le (by rw [Array.length_toList]; exact Nat.le_refl _), List.all_map]
              rfl
            rw [e]
            exact k2 _ sa
        · refine ite_yes (by rw [decide_eq_false (by omega)]; rfl) ?_
          have e : lawNameS z = false := by
            unfold lawNameS
            rw [decide_eq_false h8, Bool.false_and, Bool.and_false]
          rw [← e]
          exact k2 _ fun _ _ x => x
      · refine ite_no (decide_eq_false (by omega)) ⟨false, rfl, iteT ?_⟩
        have e : lawNameS z = false := by
          unfold lawNameS
          rw [decide_eq_false h1, Bool.false_and]
        rw [← e]
        exact k2 _ fun _ _ x => x
    | _ => exact iteT (k _ fun _ _ x => x)
theorem scLWorth : FnScope ["_law_value"] ["_law_value"] (defScope sLWorth) := ⟨rfl, rfl, rfl, by decide +kernel, rfl, by decide +kernel, by decide +kernel⟩
theorem ok_lworth {f : Addr} {fd : FuncData} (F : Fun K "_law_is_worth" "_law_is_worth" sLWorth f fd) (ti : mg "isinstance" = none) (tn : mg "int" = none) (tb : mg "bool" = none) :
    FnOk P w K mg base CX0 1 f fd ["_law_value"] (spWholeG P w) := by
  refine F.ok scLWorth (fun vs H Q E h => ?_) (fun cdv A outer s H vs Q E hr h => ?_)
  · obtain ⟨t, v, rfl, _⟩ := h
    rfl
  · refine ⟨_, pss_one (ps_ret (pe_and (pe_callB call_isiB (by rfl) ti (by decide +kernel) (pa_cons (pv 0) (pa_cons (pe_bltn (v := .ty "int") (by rfl) tn (by decide +kernel) rfl) pa_nil)))
      (pe_and (pe_not (pe_callB call_isiB (by rfl) ti (by decide +kernel) (pa_cons (pv 0) (pa_cons (pe_bltn (v := .ty "bool") (by rfl) tb (by decide +kernel) rfl) pa_nil)))) (pe_one (pe_cmp (pc_ge (pv 0) pe_int) rfl))))), ?_⟩
    obtain ⟨t, v, rfl, ht, k⟩ := h
    obtain ⟨T, ty⟩ := ht.typed (K := K)
    refine ⟨_, rfl, _, _, _, _, _, rfl, .ty _, ty.ty, ty.int, _, rfl, ?_⟩
    cases t with
    | int i =>
      cases (show v = .int i from ht)
      refine iteT ⟨_, rfl, _, _, _, _, _, rfl, .ty _, ty.ty, ty.bool, _, rfl, _, rfl, iteT ?_⟩
      exact ⟨_, rfl, _, _, rfl, rfl, k⟩
    | bl b => exact iteT ⟨_, rfl, _, _, _, _, _, rfl, .ty _, ty.ty, ty.bool, _, rfl, _, rfl, iteF k⟩
    | _ => exact iteF k
end
end CC
set_option Elab.async false
set_option maxRecDepth 100000
namespace CC
open PySem PySem.Spec PyProof.Rows L2
set_option linter.unusedVariables false
/-! ### the law's own look at a row -/
abbrev sLRow : Stmt := top 36
def spLRow (P : Program) (w : World) : Sp := fun vs H Q _ => ∃ (d : RowD) (v : V) (n i : Nat), vs = [v, .int (n : Nat), .int (i : Nat)] ∧ RowDAt P w H d v ∧ (∀ ts, d = .tup ts → ∀ t ∈ ts, t.agrees) ∧ ∀ H', Same H H' → Q (.bl (goodR n i d)) H'
theorem in_24 (k : Nat) : (if true = true then !inV (V.int (k : Nat)) [V.int 2, V.int 4] else inV (V.int (k : Nat)) [V.int 2, V.int 4]) = !(decide (k = 2) || decide (k = 4)) := by
  show (!(((2 : Int) == (k : Int)) || (((4 : Int) == (k : Int)) || false))) = _
  rw [Bool.or_false]
  congr 1
  have e : ∀ m : Nat, ((m : Int) == (k : Int)) = decide (k = m) := fun m => by
    rw [Bool.eq_iff_iff]
    simp only [beq_iff_eq, decide_eq_true_eq]
    omega
  have e2 : ((2 : Int) == (k : Int)) = decide (k = 2) := e 2
  have e4 : ((4 : Int) == (k : Int)) = decide (k = 4) := e 4
  rw [e2, e4]
theorem in_wr (h : Str) : (if true = true then !inV (V.str h) [V.str "write", V.str "read"] else inV (V.str h) [V.str "write", V.str "read"]) = !(decide (h = "write") || decide (h = "read")) := by
  show (!((eqV (V.str "write") (V.str h)) || ((eqV (V.str "read") (V.str h)) || false))) = _
  rw [Bool.or_false, beq_str, beq_str]
theorem num_split (t : Th) (n : Nat) : t.num n = (t.whole && match t with | .int i => decide (i < (n : Int)) | _ => false) := by
  cases t <;> rfl
section
variable {P : Program} {w : World} {K : PySem.W.Frag} {mg : Str → Option Value} {base : Heap}
theorem scLRow : FnScope ["_law_row", "_law_many", "_law_at", "_law_x"] ["_law_row", "_law_many", "_law_at"] (defScope sLRow) := ⟨rfl, rfl, rfl, by decide +kernel, rfl, by decide +kernel, by decide +kernel⟩
set_option maxHeartbeats 2000000 in
theorem ok_lrow {f fW fM : Addr} {fd fdW fdM : FuncData} (F : Fun K "_law_is_row" "_law_is_row" sLRow f fd) (GW : FnOk P w K mg base CX0 1 fW fdW ["_law_value"] (spWholeG P w)) (mW : mg "_law_is_worth" = some (.ref fW)) (kW : PySem.W.keepIn K (.ref fW) = true) (bW : L2.Binds K fdW ["_law_value"] [])
    (GM : FnOk P w K mg base CX0 1 fM fdM ["_law_value"] (spLName P w)) (mM : mg "_law_is_name" = some (.ref fM)) (kM : PySem.W.keepIn K (.ref fM) = true) (bM : L2.Binds K fdM ["_law_value"] [])
    (ti : mg "isinstance" = none) (ts : mg "str" = none) (tl : mg "len" = none) (tL : mg "list" = none) (tt : mg "tuple" = none) (td : mg "dict" = none) (ta : mg "all" = none) :
    FnOk P w K mg base CX0 2 f fd ["_law_row", "_law_many", "_law_at"] (spLRow P w) := by
  refine F.ok scLRow (fun vs H Q E h => ?_) (fun cdv A outer s H vs Q E hr h => ?_)
  · obtain ⟨d, v, n, i, rfl, _⟩ := h
    rfl
  · have hr1 : Room 1 _ := hr.mono (by decide)
    have hu := hu_of hr
    refine ⟨_, pss_cons (ps_if (PW.pt (pw_or (pt_not (pt_val (pe_callB call_isiBT (by rfl) ti (by decide +kernel) (pa_cons (pv 0) (pa_cons (pe_tup (pa_cons (pe_bltn (v := .ty "list") (by rfl) tL (by decide +kernel) rfl) (pa_cons (pe_bltn (v := .ty "tuple") (by rfl) tt (by decide +kernel) rfl) pa_nil))) pa_nil)))))
        (pw_or (pt_cmpR op_notIn_seq (pe_callB call_len_seq (by rfl) tl PySem.boot_len (pa_cons (pv 0) pa_nil)) (pe_tup (pa_cons pe_int (pa_cons pe_int pa_nil))) (by rfl)) (pw_or1 (pt_not (pt_val (pe_callB call_isiB (by rfl) ti (by decide +kernel) (pa_cons (pe_ix ix_tup (pv 0) pe_int (fun _ _ => rfl)) (pa_cons (pe_bltn (v := .ty "str") (by rfl) ts (by decide +kernel) rfl) pa_nil))))))))) (pss_one (ps_ret pe_bl)) pss_nil)
      (pss_cons (ps_if (PW.pt (pw_or (pt_not (pt_val (pe_call GW hr1 rfl mW kW bW .nil pass0 (pa_cons (pe_ix ix_tup (pv 0) (pe_un un_neg pe_int) (fun _ _ => rfl)) pa_nil)))) (pw_or1 (pt_cmpR op_ge (pe_ix ix_tup (pv 0) (pe_un un_neg pe_int) (fun _ _ => rfl)) (pv 1) (nomark _))))) (pss_one (ps_ret pe_bl)) pss_nil)
      (pss_cons (ps_if (pt_cmpR op_eq (pe_callB call_len_seq (by rfl) tl PySem.boot_len (pa_cons (pv 0) pa_nil)) pe_int (nomark _)) (pss_one (ps_ret (L2.pe_or (pe_cmpR op_eq (pe_ix ix_tup (pv 0) pe_int (fun _ _ => rfl)) pe_str (nomark _)) (pe_one (pe_and (pe_cmpR op_eq (pe_ix ix_tup (pv 0) pe_int (fun _ _ => rfl)) pe_str (nomark _)) (pe_one (pe_cmpR op_gt (pv 2) pe_int (nomark _)))))))) pss_nil)
      (pss_cons (ps_if (PW.pt (pw_or (pt_cmpR op_eq (pv 2) pe_int (nomark _)) (pw_or (pt_cmpR op_notIn_seq (pe_ix ix_tup (pv 0) pe_int (fun _ _ => rfl)) (pe_tup (pa_cons pe_str (pa_cons pe_str pa_nil))) (by rfl)) (pw_or1 (pt_not (pt_val (pe_call GM hr1 rfl mM kM bM .nil pass0 (pa_cons (pe_ix ix_tup (pv 0) pe_int (fun _ _ => rfl)) pa_nil)))))))) (pss_one (ps_ret pe_bl)) pss_nil)
      (pss_cons (ps_if (pt_cmpR op_eq (pe_ix ix_tup (pv 0) pe_int (fun _ _ => rfl)) pe_str (nomark _)) (pss_one (ps_ret (pe_call GW hr1 rfl mW kW bW .nil pass0 (pa_cons (pe_ix ix_tup (pv 0) pe_int (fun _ _ => rfl)) pa_nil)))) pss_nil)
      (pss_cons (ps_if (pt_not (pt_val (pe_callB call_isiB (by rfl) ti (by decide +kernel) (pa_cons (pe_ix ix_tup (pv 0) pe_int (fun _ _ => rfl)) (pa_cons (pe_bltn (v := .ty "dict") (by rfl) td (by decide +kernel) rfl) pa_nil))))) (pss_one (ps_ret pe_bl)) pss_nil)
      (pss_one (ps_ret (pe_callB (cr_all rfl) (by rfl) ta (by decide +kernel) (pa_cons (pe_alt
        (pe_lock (pe_lc (own := [("_law_x", 3)]) (g := gName 3) (by rfl) scLRow.nd (pi_keys (pe_ix ix_tup (pv 0) pe_int (fun _ _ => rfl))) (blkOk_by (own := [("_law_x", 3)]) (N := ["_law_row", "_law_many", "_law_at", "_law_x"]) (sc := defScope sLRow) (by decide +kernel)) (fun _ _ _ _ _ => pg_name (i := 3) scLRow.nd rfl (Or.inl rfl)) (fun _ _ _ _ _ => pts_nil)
          (fun _ _ _ _ _ => pe_and (pe_call GW hr1 rfl mW kW bW .nil pass0 (pa_cons (pv 3) pa_nil)) (pe_and (pe_call GW hr1 rfl mW kW bW .nil pass0 (pa_cons (pe_dget hu (pe_ix (ix_tupK (K := K) rfl) (pv 0) pe_int (fun _ _ => rfl)) (pv 3) (fun _ _ => rfl)) pa_nil)) (pe_one (pe_cmpR op_lt (pe_dget hu (pe_ix (ix_tupK (K := K) rfl) (pv 0) pe_int (fun _ _ => rfl)) (pv 3) (fun _ _ => rfl)) (pv 1) (nomark _)))))))
        (pe_lc (own := [("_law_x", 3)]) (g := gName 3) (by rfl) scLRow.nd (pi_keysB (pe_ix ix_tup (pv 0) pe_int (fun _ _ => rfl))) (blkOk_by (own := [("_law_x", 3)]) (N := ["_law_row", "_law_many", "_law_at", "_law_x"]) (sc := defScope sLRow) (by decide +kernel)) (fun _ _ _ _ _ => pg_name (i := 3) scLRow.nd rfl (Or.inl rfl)) (fun _ _ _ _ _ => pts_nil)
          (fun _ _ _ _ _ => pe_and (pe_call GW hr1 rfl mW kW bW .nil pass0 (pa_cons (pv 3) pa_nil)) (pe_and (pe_call GW hr1 rfl mW kW bW .nil pass0 (pa_cons (pe_dget hu (pe_ix (ix_tupK (K := K) rfl) (pv 0) pe_int (fun _ _ => rfl)) (pv 3) (fun _ _ => rfl)) pa_nil)) (pe_one (pe_cmpR op_lt (pe_dget hu (pe_ix (ix_tupK (K := K) rfl) (pv 0) pe_int (fun _ _ => rfl)) (pv 3) (fun _ _ => rfl)) (pv 1) (nomark _))))))) pa_nil))))))))), ?_⟩
    obtain ⟨d, v, n, i, rfl, hd, ag, k⟩ := h
    have k0 : goodR n i d = false → ∀ H', Same H H' → Q (.bl false) H' := fun e H' s => by
      rw [← e]
      exact k H' s
    cases d with
    | flat t =>
      obtain ⟨h1, h2⟩ := hd
      refine ⟨_, rfl, (by show 2 ≤ sizeLine; decide), fun u hu0 => ?_⟩
      have s1 := same_new (o := .tup [V.ty "list", V.ty "tuple"]) hu0
      obtain ⟨T, ty⟩ := (h2.mono s1).typed (K := K)
      refine ⟨_, u, _, _, _, _, rfl, upd_same, .cons (.ty _) (.cons (.ty _) .nil), ty.ty, ty.seq, _, rfl, ?_⟩
      rw [h1]
      exact iteT (k0 rfl _ s1)
    | nil =>
      obtain ⟨a, rfl, ha⟩ := hd
      refine ⟨_, rfl, (by show 2 ≤ sizeLine; decide), fun u hu0 => ?_⟩
      have s1 := same_new (o := .tup [V.ty "list", V.ty "tuple"]) hu0
      obtain ⟨T, ty⟩ := (show ThAt P w _ (.seq _) (.ref a) from ⟨a, _, rfl, rfl, .inl (s1 _ _ ha)⟩).typed (K := K)
      refine ⟨_, u, _, _, _, _, rfl, upd_same, .cons (.ty _) (.cons (.ty _) .nil), ty.ty, ty.seq, _, rfl, iteF ?_⟩
      refine ⟨_, rfl, a, _, rfl, .inl (SqL.of (s1 _ _ ha)), (by show 2 ≤ sizeLine; decide), fun u2 hu2 => ⟨u2, _, rfl, .inr (SqT.of upd_same), rfl, rfl, _, rfl, ?_⟩⟩
      rw [in_24]
      exact iteT (k0 rfl _ (same_tr s1 (same_new hu2)))
    | tup ts =>
      obtain ⟨a, xs, rfl, ha, pr, sm, few⟩ := hd
      have ags := ag ts rfl
      clear ag
      refine ⟨_, rfl, (by show 2 ≤ sizeLine; decide), fun u hu0 => ?_⟩
      have s1 := same_new (o := .tup [V.ty "list", V.ty "tuple"]) hu0
      obtain ⟨T, ty⟩ := (show ThAt P w _ (.seq _) (.ref a) from ⟨a, _, rfl, rfl, .inr (s1 _ _ ha)⟩).typed (K := K)
      refine ⟨_, u, _, _, _, _, rfl, upd_same, .cons (.ty _) (.cons (.ty _) .nil), ty.ty, ty.seq, _, rfl, iteF ?_⟩
      refine ⟨_, rfl, a, _, rfl, .inr (SqT.of (s1 _ _ ha)), (by show 2 ≤ sizeLine; decide), fun u2 hu2 => ⟨u2, _, rfl, .inr (SqT.of upd_same), rfl, rfl, _, rfl, ?_⟩⟩
      have s2 := same_tr s1 (same_new (o := .tup [V.int 2, V.int 4]) hu2)
      revert s2
      generalize upd (upd H u (.tup [V.ty "list", V.ty "tuple"])) u2 (.tup [V.int 2, V.int 4]) = H2
      intro s2
      have ha2 := s2 _ _ ha
      replace pr := L2.Paired.mapP pr fun x t q => ThAt.mono q s2
      clear s1 ty hu2 hu0
      rw [in_24]
      have len : xs.length = ts.length := pr.length
      have other : ts.length ≠ 2 → ts.length ≠ 4 → ∀ {A B : Prop}, A → (if (!(decide (xs.length = 2) || decide (xs.length = 4))) = true then A else B) := fun n2 n4 A B z => by
        refine ite_yes ?_ z
        rw [decide_eq_false (by omega), decide_eq_false (by omega)]
        rfl
      cases pr with
      | nil => exact other (by decide) (by decide) (k0 rfl _ s2)
      | @cons x0 t0 xs1 ts1 h0 pr =>
      cases pr with
      | nil => exact other (by simp) (by simp) (k0 (by cases t0 <;> rfl) _ s2)
      | @cons x1 t1 xs2 ts2 h1 pr =>
      have first : ∀ {A B : Prop}, (t0.isStr = false → A) → (∀ h, t0 = .str h → x0 = .str h → B) → (if (!t0.isStr) = true then A else B) := fun {A B} f g => by
        cases t0 with
        | str h => exact iteF (g h rfl h0)
        | _ => exact iteT (f rfl)
      cases pr with
      | nil =>
        refine iteF ?_
        obtain ⟨T, ty⟩ := h0.typed (K := K)
        refine ⟨_, rfl, a, _, _, _, rfl, rfl, SqT.of ha2, rfl, _, _, _, _, _, rfl, .ty _, ty.ty, ty.str, _, rfl, first (fun e => k0 ?_ _ s2) fun h e1 e2 => ?_⟩
        · cases t0 with
          | str h => cases e
          | _ => rfl
        subst e1 e2
        have gk : goodR n i (.tup [.str h, t1]) = ((isRI h && t1.num n) && (decide (i ≠ 0) || decide (h = "rest"))) := rfl
        refine ⟨_, rfl, _, rfl, a, _, _, _, rfl, rfl, SqT.of ha2, rfl, t1, x1, rfl, h1, _, rfl, ?_⟩
        cases ew : t1.whole with
        | false => exact iteT (k0 (by rw [gk, num_split, ew, Bool.false_and, Bool.and_false, Bool.false_and]) _ s2)
        | true =>
          refine iteF ?_
          obtain ⟨z, rfl⟩ : ∃ z, t1 = .int z := by
            cases t1 with
            | int z => exact ⟨z, rfl⟩
            | _ => cases ew
          cases (show x1 = .int z from h1)
          refine ⟨_, rfl, _, rfl, a, _, _, _, rfl, rfl, SqT.of ha2, rfl, _, rfl, _, _, rfl, rfl, _, rfl, ?_⟩
          by_cases zl : z < (n : Int)
          · refine ite_no (decide_eq_false (by omega)) ?_
            have en : Th.num n (.int z) = true := by
              rw [num_split, ew, Bool.true_and]
              exact decide_eq_true zl
            refine ⟨_, rfl, a, _, rfl, .inr (SqT.of ha2), rfl, _, rfl, ite_yes (decide_eq_true rfl) ?_⟩
            refine ⟨_, rfl, a, _, _, _, rfl, rfl, SqT.of ha2, rfl, rfl, _, rfl, ?_⟩
            rw [en, Bool.and_true] at gk
            by_cases er : h = "rest"
            · refine ite_yes (decide_eq_true (congrArg V.str er)) ?_
              have e : goodR n i (.tup [.str h, .int z]) = true := by
                rw [gk]
                unfold isRI
                rw [decide_eq_true er, Bool.true_or, Bool.or_true]
                rfl
              rw [← e]
              exact k _ s2
            · refine ite_no (decide_eq_false fun q => er (V.str.inj q)) ?_
              refine ⟨_, rfl, a, _, _, _, rfl, rfl, SqT.of ha2, rfl, rfl, _, rfl, ?_⟩
              by_cases ei : h = "inside"
              · refine ite_yes (decide_eq_true (congrArg V.str ei)) ⟨_, rfl, _, _, rfl, rfl, ?_⟩
                have e : goodR n i (.tup [.str h, .int z]) = decide ((i : Int) > 0) := by
                  rw [gk]
                  unfold isRI
                  rw [decide_eq_true ei, decide_eq_false er, Bool.or_true, Bool.true_and, Bool.or_false]
                  exact decide_eq_decide.mpr (by omega)
                rw [e] at k
                exact k _ s2
              · refine ite_no (decide_eq_false fun q => ei (V.str.inj q)) (k0 ?_ _ s2)
                rw [gk]
                unfold isRI
                rw [decide_eq_false ei, decide_eq_false er]
                rfl
          · refine ite_yes (decide_eq_true (by omega)) (k0 ?_ _ s2)
            rw [gk, num_split]
            rw [show (match Th.int z with | .int i => decide (i < (n : Int)) | _ => false) = decide (z < (n : Int)) from rfl, decide_eq_false zl, Bool.and_false, Bool.and_false, Bool.false_and]
      | @cons x2 t2 xs3 ts3 h2 pr =>
      cases pr with
      | nil => exact other (by simp) (by simp) (k0 (by cases t0 <;> rfl) _ s2)
      | @cons x3 t3 xs4 ts4 h3 pr =>
      cases pr with
      | cons _ _ => exact other (by simp) (by simp) (k0 (by cases t0 <;> rfl) _ s2)
      | nil =>
        refine iteF ?_
        obtain ⟨T, ty⟩ := h0.typed (K := K)
        refine ⟨_, rfl, a, _, _, _, rfl, rfl, SqT.of ha2, rfl, _, _, _, _, _, rfl, .ty _, ty.ty, ty.str, _, rfl, first (fun e => k0 ?_ _ s2) fun h e1 e2 => ?_⟩
        · cases t0 with
          | str h => cases e
          | _ => rfl
        subst e1 e2
        have gk : goodR n i (.tup [.str h, t1, t2, t3]) = ((!isRI h && (t1.name && (t3.num n && (if h = "write" then t2.whole else decide (h = "read") && t2.cases_ n)))) && (decide (i ≠ 0) || decide (h = "rest"))) := rfl
        refine ⟨_, rfl, _, rfl, a, _, _, _, rfl, rfl, SqT.of ha2, rfl, t3, x3, rfl, h3, _, rfl, ?_⟩
        have nonum : t3.num n = false → goodR n i (.tup [.str h, t1, t2, t3]) = false := fun e => by
          rw [gk, e, Bool.false_and, Bool.and_false, Bool.and_false, Bool.false_and]
        cases ew : t3.whole with
        | false => exact iteT (k0 (nonum (by rw [num_split, ew, Bool.false_and])) _ s2)
        | true =>
          refine iteF ?_
          obtain ⟨z, rfl⟩ : ∃ z, t3 = .int z := by
            cases t3 with
            | int z => exact ⟨z, rfl⟩
            | _ => cases ew
          cases (show x3 = .int z from h3)
          refine ⟨_, rfl, _, rfl, a, _, _, _, rfl, rfl, SqT.of ha2, rfl, _, rfl, _, _, rfl, rfl, _, rfl, ?_⟩
          by_cases zl : z < (n : Int)
          · refine ite_no (decide_eq_false (by omega)) ?_
            have en : Th.num n (.int z) = true := by
              rw [num_split, ew, Bool.true_and]
              exact decide_eq_true zl
            rw [en, Bool.true_and] at gk
            refine ⟨_, rfl, a, _, rfl, .inr (SqT.of ha2), rfl, _, rfl, ite_no (decide_eq_false (by simp only [List.length_cons, List.length_nil]; intro q; injection q with q; omega)) ?_⟩
            refine ⟨_, rfl, rfl, _, rfl, ?_⟩
            by_cases i0 : i = 0
            · refine ite_yes (decide_eq_true (by rw [i0]; rfl)) (k0 ?_ _ s2)
              rw [gk]
              by_cases er : h = "rest"
              · unfold isRI
                rw [decide_eq_true er]
                rfl
              · rw [decide_eq_false er, decide_eq_false (show ¬ (i ≠ 0) from fun q => q i0), Bool.or_false, Bool.and_false]
            · refine ite_no (decide_eq_false fun q => i0 (by injection q with q; omega)) ?_
              refine ⟨_, rfl, a, _, _, _, rfl, rfl, SqT.of ha2, rfl, (by show 2 ≤ sizeLine; decide), fun u3 hu3 => ⟨u3, _, rfl, .inr (SqT.of upd_same), rfl, rfl, _, rfl, ?_⟩⟩
              have s3 := same_tr s2 (same_new (o := .tup [V.str "write", V.str "read"]) hu3)
              have ss := same_new (o := .tup [V.str "write", V.str "read"]) hu3
              revert s3 ss
              generalize upd H2 u3 (.tup [V.str "write", V.str "read"]) = H3
              intro s3 ss
              have ha3 := ss _ _ ha2
              replace h1 := ThAt.mono h1 ss
              replace h2 := ThAt.mono h2 ss
              rw [in_wr]
              rw [decide_eq_true i0, Bool.true_or, Bool.and_true] at gk
              by_cases wr : h = "write" ∨ h = "read"
              · have nri : isRI h = false := by
                  unfold isRI
                  rcases wr with e | e
                  · rw [e]
                    decide +kernel
                  · rw [e]
                    decide +kernel
                rw [nri] at gk
                rw [show (!(decide (h = "write") || decide (h = "read"))) = false by rcases wr with e | e <;> simp [e]]
                refine iteF ?_
                refine ⟨_, rfl, a, _, _, _, rfl, rfl, SqT.of ha3, rfl, t1, x1, rfl, h1, fun z ez => by have := sm t1 (by simp); rw [ez] at this; exact this, ags t1 (by simp), fun H4 s4 => ⟨_, rfl, ?_⟩⟩
                have s5 := same_tr s3 s4
                have ha4 := s4 _ _ ha3
                replace h2 := ThAt.mono h2 s4
                cases e1 : t1.name with
                | false => exact iteT (k0 (by rw [gk, e1]; rfl) _ s5)
                | true =>
                  rw [e1] at gk
                  refine iteF ?_
                  refine ⟨_, rfl, a, _, _, _, rfl, rfl, SqT.of ha4, rfl, rfl, _, rfl, ?_⟩
                  by_cases hw : h = "write"
                  · refine ite_yes (decide_eq_true (congrArg V.str hw)) ?_
                    have e : goodR n i (.tup [.str h, t1, t2, .int z]) = t2.whole := by
                      rw [gk, if_pos hw]
                      rfl
                    rw [e] at k
                    exact ⟨_, rfl, a, _, _, _, rfl, rfl, SqT.of ha4, rfl, t2, x2, rfl, h2, k _ s5⟩
                  · have hr_ : h = "read" := wr.resolve_left hw
                    have e : goodR n i (.tup [.str h, t1, t2, .int z]) = t2.cases_ n := by
                      rw [gk, if_neg hw, decide_eq_true hr_]
                      rfl
                    rw [e] at k
                    refine ite_no (decide_eq_false fun q => hw (V.str.inj q)) ?_
                    obtain ⟨T2, ty2⟩ := h2.typed (K := K)
                    refine ⟨_, rfl, a, _, _, _, rfl, rfl, SqT.of ha4, rfl, _, _, _, _, _, rfl, .ty _, ty2.ty, ty2.dict, _, rfl, ?_⟩
                    clear gk e k0 nonum first ty2
                    cases t2 with
                    | dic kvs =>
                      obtain ⟨d, rfl, hd⟩ := h2
                      have sm2 := sm (.dic kvs) (by simp)
                      obtain ⟨l10, ndk⟩ := sm2
                      refine iteF (.inl ?_)
                      refine ⟨d, _, hd, trivial, fun od => ?_⟩
                      have dL : (upd H4 d (.frz od (.dK (dOf kvs)))) d = some (.frz od (.dK (dOf kvs))) := upd_same
                      have oL : ∀ b o, H4 b = some o → b ≠ d → (upd H4 d (.frz od (.dK (dOf kvs)))) b = some o := fun b o e n => by
                        rw [upd_ne n]
                        exact e
                      revert dL oL
                      generalize (upd H4 d (.frz od (.dK (dOf kvs)))) = HL
                      intro dL oL
                      have haL := oL _ _ ha4 (ne_of ha4 hd (by intro q; cases q))
                      refine ⟨_, rfl, a, _, _, _, rfl, rfl, SqT.of haL, rfl, d, od, rfl, .inl ⟨_, dL, fun D hD => ?_⟩⟩
                      refine lc_it (walk_keys (d := d) (o := od) (kvs := dOf kvs)) (fun i H => H D = some (.lst (((kvs.take i).map (okKV n)).map V.bl)) ∧ Same HL H) ⟨upd_same, same_new hD⟩ (fun i H _ ⟨_, e⟩ => e _ _ dL) ?_ ?_
                      · rintro j x0 Ha Hb hi ⟨hDa, sa⟩ ⟨eH, k1, v1, hkv1, rfl⟩
                        obtain rfl : Ha = Hb := eH.symm
                        obtain ⟨kv, hkv, rfl, rfl⟩ : ∃ kv, kvs[j]? = some kv ∧ k1 = kv.1 ∧ v1 = vV kv.2 := by
                          unfold dOf at hkv1
                          rw [List.getElem?_map] at hkv1
                          cases e : kvs[j]? with
                          | none =>
                            rw [e] at hkv1
                            cases hkv1
                          | some q =>
                            rw [e] at hkv1
                            cases hkv1
                            exact ⟨q, rfl, rfl, rfl⟩
                        have get : DGet Ha d (kV kv.1) (some (vV kv.2)) := by
                          have e0 : valV (dOf kvs) kv.1 = some (vV kv.2) := val_nodup (kvs := dOf kvs) (by unfold dOf; rw [List.map_map]; exact ndk) (kv.1, vV kv.2) (List.mem_map.mpr ⟨kv, List.mem_of_getElem? hkv, rfl⟩)
                          rw [← e0]
                          exact .inl ⟨_, _, .inr ⟨od, sa _ _ dL⟩, rfl, rfl⟩
                        have step : ∀ b, b = okKV n kv → ∃ acc, Ha D = some (.lst acc) ∧ acc.length < sizeLine ∧ (upd Ha D (.lst (acc ++ [V.bl b]))) D = some (.lst (((kvs.take (j + 1)).map (okKV n)).map V.bl)) ∧ Same HL (upd Ha D (.lst (acc ++ [V.bl b]))) := fun b eb => by
                          refine ⟨_, hDa, small (by rw [List.length_map, List.length_map, List.length_take]; omega), ?_, same_put sa hD⟩
                          rw [upd_same, List.take_add_one, hkv, eb, List.map_append, List.map_append]
                          rfl
                        have haa := sa _ _ haL
                        refine ⟨rfl, tyes_if ?_⟩
                        refine ⟨_, rfl, keyT kv.1, _, rfl, ThAt.key _, _, rfl, ?_⟩
                        cases ek : (keyT kv.1).whole with
                        | false => exact iteF (step false (by unfold okKV; rw [ek]; rfl))
                        | true =>
                          refine iteT ⟨_, rfl, a, _, _, _, rfl, rfl, SqT.of haa, rfl, _, rfl, d, _, rfl, get, valT kv.2, _, rfl, ThAt.val _, _, rfl, ?_⟩
                          have ok_ : okKV n kv = (valT kv.2).num n := by
                            unfold okKV
                            rw [ek, Bool.true_and]
                          rw [ok_] at step
                          cases hv : kv.2 with
                          | none =>
                            rw [hv] at step
                            exact iteF (step false rfl)
                          | some i0 =>
                            rw [hv] at step get
                            by_cases v0 : i0 ≥ 0
                            · refine ite_yes (decide_eq_true v0) ⟨_, rfl, a, _, _, _, rfl, rfl, SqT.of haa, rfl, _, rfl, d, _, rfl, get, _, rfl, _, _, rfl, rfl, step _ ?_⟩
                              show decide (i0 < (n : Int)) = (decide (i0 ≥ 0) && decide (i0 < (n : Int)))
                              rw [decide_eq_true v0, Bool.true_and]
                            · refine ite_no (decide_eq_false v0) (step false ?_)
                              show false = (decide (i0 ≥ 0) && decide (i0 < (n : Int)))
                              rw [decide_eq_false v0, Bool.false_and]
                      · rintro Ha ⟨hDa, sa⟩
                        refine ⟨sa _ _ dL, ?_⟩
                        have sU : Same H4 (upd Ha d (.dK (dOf kvs))) := fun b o e => by
                          by_cases q : b = d
                          · subst q
                            rw [hd] at e
                            rw [upd_same, e]
                          · rw [upd_ne q]
                            exact sa _ _ (oL _ _ e q)
                        have nD : D ≠ d := ne_of hDa (sa _ _ dL) (by intro q; cases q)
                        refine ⟨D, _, rfl, SqL.of (by rw [upd_ne nD]; exact hDa), ?_⟩
                        have e0 : ((kvs.take (dOf kvs).length).map (okKV n)).all id = Th.cases_ n (.dic kvs) := by
                          rw [List.length_map, List.take_length, List.all_map]
                          rfl
                        rw [e0]
                        exact k _ (same_tr s5 sU)
                    | db =>
                      obtain ⟨d, ep, rfl, hd⟩ := h2
                      refine iteF (.inr ?_)
                      refine ⟨_, rfl, a, _, _, _, rfl, rfl, SqT.of ha4, rfl, d, ep, rfl, hd, fun D hD => ?_⟩
                      refine lc_it (walk_keysB (P := P) (w := w) (d := d) (ep := ep)) (fun i H2 => H2 D = some (.lst ((List.replicate i false).map V.bl)) ∧ Same H4 H2) ⟨upd_same, same_new hD⟩ (fun i H2 _ ⟨_, e⟩ => e _ _ hd) ?_ ?_
                      · rintro j x0 Ha Hb hi ⟨hDa, sa⟩ ⟨eH, rfl⟩
                        obtain rfl : Ha = Hb := eH.symm
                        refine ⟨rfl, tyes_if ?_⟩
                        refine ⟨_, rfl, .bl true, _, rfl, rfl, _, rfl, iteF ?_⟩
                        refine ⟨_, hDa, small (by rw [List.length_map, List.length_replicate]; omega), ?_, same_put sa hD⟩
                        rw [upd_same, List.replicate_succ', List.map_append]
                        rfl
                      · rintro Ha ⟨hDa, sa⟩
                        exact ⟨D, _, rfl, SqL.of hDa, k _ (same_tr s5 sa)⟩
                    | dany => exact absurd (sm .dany (by simp)) id
                    | _ => exact iteT (k _ s5)
              · rw [show (!(decide (h = "write") || decide (h = "read"))) = true by rw [decide_eq_false fun e => wr (.inl e), decide_eq_false fun e => wr (.inr e)]; rfl]
                refine iteT (k0 ?_ _ s3)
                rw [gk, if_neg fun e => wr (.inl e), decide_eq_false fun e => wr (.inr e), Bool.false_and, Bool.and_false, Bool.and_false]
          · refine ite_yes (decide_eq_true (by omega)) (k0 (nonum ?_) _ s2)
            rw [num_split]
            rw [show (match Th.int z with | .int i => decide (i < (n : Int)) | _ => false) = decide (z < (n : Int)) from rfl, decide_eq_false zl, Bool.and_false]
end
end CC
set_option Elab.async false
set_option maxRecDepth 100000
namespace CC
open PySem PySem.Spec PyProof.Rows L2
set_option linter.unusedVariables false
/-! ### what the law asks of anything that is handed over -/
abbrev sDue : Stmt := top 37
def Arg.agrees : Arg → Prop
  | .flat _ => True
  | .rows ds => ∀ d ∈ ds, ∀ ts, d = .tup ts → ∀ t ∈ ts, t.agrees
def spDue (P : Program) (w : World) : Sp := fun vs H Q _ => ∃ (x : Arg) (v : V), vs = [v] ∧ ArgAt P w H x v ∧ x.agrees ∧
  (∀ i : Nat, WrongNum x i → ∀ H' t, Same H H' → H' t = some (.tup [.str "bad", .int (i : Nat)]) → Q (.ref t) H') ∧
  (∀ ds, x = .rows ds → NoWrong ds → 2 ≤ ds.length ∧ ds.length ≤ 60 → ∀ H' t, Same H H' → H' t = some (.tup [.str "told", .int (ds.length : Nat)]) → Q (.ref t) H')
section
variable {P : Program} {w : World} {K : PySem.W.Frag} {mg : Str → Option Value} {base : Heap}
theorem scDue : FnScope ["_law_rows_here", "_law_at", "_law_row"] ["_law_rows_here"] (defScope sDue) := ⟨rfl, rfl, rfl, by decide +kernel, rfl, by decide +kernel, by decide +kernel⟩
theorem ok_due {f fR : Addr} {fd fdR : FuncData} (F : Fun K "_law_due" "_law_due" sDue f fd)
    (GR : FnOk P w K mg base CX0 2 fR fdR ["_law_row", "_law_many", "_law_at"] (spLRow P w)) (mR : mg "_law_is_row" = some (.ref fR)) (kR : PySem.W.keepIn K (.ref fR) = true) (bR : L2.Binds K fdR ["_law_row", "_law_many", "_law_at"] [])
    (tl : mg "len" = none) (te : mg "enumerate" = none) (ti : mg "isinstance" = none) (tL : mg "list" = none) (tt : mg "tuple" = none) :
    FnOk P w K mg base CX0 3 f fd ["_law_rows_here"] (spDue P w) := by
  refine F.ok scDue (fun vs H Q E h => ?_) (fun cdv A outer s H vs Q E hr h => ?_)
  · obtain ⟨x, v, rfl, _⟩ := h
    rfl
  · refine ⟨_, pss_cons (ps_if (pt_not (pt_val (pe_callB call_isiBT (by rfl) ti (by decide +kernel) (pa_cons (pv 0) (pa_cons (pe_tup (pa_cons (pe_bltn (v := .ty "list") (by rfl) tL (by decide +kernel) rfl) (pa_cons (pe_bltn (v := .ty "tuple") (by rfl) tt (by decide +kernel) rfl) pa_nil))) pa_nil))))) (pss_one (ps_ret (pe_tup (pa_cons pe_str (pa_cons pe_int pa_nil))))) pss_nil)
      (pss_cons (ps_for PassesOwn.never rfl (pi_or (pi_enum (by rfl) te (pa_cons (pv 0) pa_nil)) (pi_enumT (by rfl) te (pa_cons (pv 0) pa_nil))) (pg_tup (by rfl) (pgs_cons (pg_name (i := 1) scDue.nd rfl (Or.inl rfl)) (pgs_cons (pg_name (i := 2) scDue.nd rfl (Or.inl rfl)) pgs_nil)))
        (pss_one (ps_if (pt_not (pt_val (pe_call GR hr rfl mR kR bR .nil pass0 (pa_cons (pv 2) (pa_cons (pe_callB call_len_seq (by rfl) tl PySem.boot_len (pa_cons (pv 0) pa_nil)) (pa_cons (pv 1) pa_nil)))))) (pss_one (ps_ret (pe_tup (pa_cons pe_str (pa_cons (pv 1) pa_nil))))) pss_nil)))
      (pss_one (ps_ret (pe_ifExp (pt_chain op_le op_le pe_int (pe_callB call_len_seq (by rfl) tl PySem.boot_len (pa_cons (pv 0) pa_nil)) pe_int) (pe_tup (pa_cons pe_str (pa_cons (pe_callB call_len_seq (by rfl) tl PySem.boot_len (pa_cons (pv 0) pa_nil)) pa_nil))) (pe_tup (pa_cons pe_str (pa_cons (pe_callB call_len_seq (by rfl) tl PySem.boot_len (pa_cons (pv 0) pa_nil)) pa_nil))))))), ?_⟩
    obtain ⟨x, v, rfl, hx, ag, kB, kT⟩ := h
    refine ⟨_, rfl, (by show 2 ≤ sizeLine; decide), fun u hu0 => ?_⟩
    have s1 := same_new (o := .tup [V.ty "list", V.ty "tuple"]) hu0
    cases x with
    | flat t =>
      obtain ⟨h1, h2⟩ := hx
      obtain ⟨T, ty⟩ := (h2.mono s1).typed (K := K)
      refine ⟨_, u, _, _, _, _, rfl, upd_same, .cons (.ty _) (.cons (.ty _) .nil), ty.ty, ty.seq, _, rfl, ?_⟩
      rw [h1]
      exact iteT ⟨(by show 2 ≤ sizeLine; decide), fun q hq => kB 0 rfl _ q (same_tr s1 (same_new hq)) (by rw [upd_same]; rfl)⟩
    | rows ds =>
      rcases hx with ⟨l, vs, rfl, ha1, pr, few⟩ | ⟨l, rfl, ha1, rfl⟩
      · obtain ⟨T, ty⟩ := (show ThAt P w _ (.seq _) (.ref l) from ⟨l, _, rfl, rfl, .inl (s1 _ _ ha1)⟩).typed (K := K)
        refine ⟨_, u, _, _, _, _, rfl, upd_same, .cons (.ty _) (.cons (.ty _) .nil), ty.ty, ty.seq, _, rfl, iteF ?_⟩
        have vl : vs.length = ds.length := pr.length
        refine .inl ⟨_, rfl, l, _, rfl, SqL.of (s1 _ _ ha1), for_it (walk_enum (K := K) (a := l) (xs := vs)) (fun i σ H2 => ∃ v1 v2, σ = [some (.ref l), v1, v2] ∧ Same H H2 ∧ ∀ j d, j < i → ds[j]? = some d → goodR ds.length j d = true) ⟨none, none, rfl, s1, fun j d h => absurd h (Nat.not_lt_zero _)⟩ (fun i σ H2 _ ⟨_, _, _, e, _⟩ => SqL.of (e _ _ ha1)) ?_ ?_⟩
        · rintro i x σ Ha Hb hi ⟨v1, v2, rfl, sa, sofar⟩ ⟨T1, ix, y, rfl, hT, rfl, e1, e2⟩
          cases Option.some.inj e1
          dsimp only at e2
          obtain ⟨d, hd, hrd⟩ := paired_at pr e2
          have sb : Same H (upd Ha T1 (.tup [V.int (i : Nat), y])) := same_tr sa (same_new hT)
          refine ⟨T1, _, rfl, SqT.of upd_same, rfl, _, _, rfl, _, _, rfl, rfl, ?_⟩
          refine ⟨_, rfl, _, rfl, l, _, rfl, .inl (SqL.of (sb _ _ ha1)), _, rfl, d, y, ds.length, i, congrArg (fun z => [y, V.int ((z : Nat) : Int), V.int (i : Nat)]) vl, hrd.mono sb, ag d (List.mem_of_getElem? hd), fun H3 s3 => ⟨_, rfl, ?_⟩⟩
          have sc := same_tr sb s3
          cases eg : goodR ds.length i d with
          | false => exact iteT ⟨_, rfl, (by show 2 ≤ sizeLine; decide), fun q hq => kB i (.inl ⟨⟨d, hd, eg⟩, sofar⟩) _ q (same_tr sc (same_new hq)) upd_same⟩
          | true =>
            refine iteF ⟨_, _, rfl, sc, fun j d' hj hd' => ?_⟩
            by_cases z : j = i
            · rw [z, hd] at hd'
              cases hd'
              rw [z]
              exact eg
            · exact sofar j d' (by omega) hd'
        · rintro σ Ha ⟨v1, v2, rfl, sa, sofar⟩
          have nw : NoWrong ds := fun j d hd => sofar j d (by rw [vl]; exact (List.getElem?_eq_some_iff.mp hd).1) hd
          have bad : ¬ (2 ≤ ds.length ∧ ds.length ≤ 60) → ∀ q, Ha q = none → Q (.ref q) (upd Ha q (.tup [.str "bad", .int ((vs.length : Nat) : Int)])) := fun e q hq => by
            rw [vl]
            exact kB ds.length (.inr ⟨nw, e, rfl⟩) _ q (same_tr sa (same_new hq)) upd_same
          refine ⟨_, rfl, l, _, rfl, .inl (SqL.of (sa _ _ ha1)), _, _, rfl, rfl, _, rfl, ?_⟩
          by_cases h2 : 2 ≤ vs.length
          · refine ite_yes (decide_eq_true (by omega)) ⟨_, _, rfl, rfl, _, rfl, ?_⟩
            by_cases h60 : vs.length ≤ 60
            · refine ite_yes (decide_eq_true (by omega)) ⟨_, rfl, l, _, rfl, .inl (SqL.of (sa _ _ ha1)), (by show 2 ≤ sizeLine; decide), fun q hq => ?_⟩
              rw [vl]
              exact kT ds rfl nw (by omega) _ q (same_tr sa (same_new hq)) upd_same
            · exact ite_no (decide_eq_false (by omega)) ⟨_, rfl, l, _, rfl, .inl (SqL.of (sa _ _ ha1)), (by show 2 ≤ sizeLine; decide), bad (by omega)⟩
          · exact ite_no (decide_eq_false (by omega)) ⟨false, rfl, iteF ⟨_, rfl, l, _, rfl, .inl (SqL.of (sa _ _ ha1)), (by show 2 ≤ sizeLine; decide), bad (by omega)⟩⟩
      · obtain ⟨T, ty⟩ := (show ThAt P w _ (.seq _) (.ref l) from ⟨l, _, rfl, rfl, .inr (s1 _ _ ha1)⟩).typed (K := K)
        refine ⟨_, u, _, _, _, _, rfl, upd_same, .cons (.ty _) (.cons (.ty _) .nil), ty.ty, ty.seq, _, rfl, iteF ?_⟩
        refine .inr ⟨_, rfl, l, _, rfl, SqT.of (s1 _ _ ha1), for_it (walk_enumT (K := K) (a := l) (xs := [])) (fun i σ H2 => ∃ v1 v2, σ = [some (.ref l), v1, v2] ∧ Same H H2) ⟨none, none, rfl, s1⟩ (fun i σ H2 _ ⟨_, _, _, e⟩ => SqT.of (e _ _ ha1)) (fun i x σ Ha Hb hi => absurd hi (Nat.not_lt_zero _)) ?_⟩
        rintro σ Ha ⟨v1, v2, rfl, sa⟩
        refine ⟨_, rfl, l, _, rfl, .inr (SqT.of (sa _ _ ha1)), _, _, rfl, rfl, _, rfl, ?_⟩
        exact ite_no (by decide) ⟨false, rfl, iteF ⟨_, rfl, l, _, rfl, .inr (SqT.of (sa _ _ ha1)), (by show 2 ≤ sizeLine; decide), fun q hq => kB 0 (.inr ⟨fun j d h => by simp at h, by decide, rfl⟩) _ q (same_tr sa (same_new hq)) upd_same⟩⟩
end
end CC
set_option Elab.async false
set_option maxRecDepth 100000
namespace CC
open PySem PySem.Spec PyProof.Rows L2
set_option linter.unusedVariables false
/-! ### drawn names -/
abbrev sName : Stmt := top 27
def OkName (z : Str) : Prop := letters z ∧ 1 ≤ z.length ∧ z.length ≤ 8
theorem fold_list : ∀ (ps : List Str) (a : Array Nat), (ps.foldl (fun acc p => acc ++ (Str.ofString "").cps ++ p.cps) a).toList = a.toList ++ (ps.map (fun p => p.cps.toList)).flatten
  | [], a => by simp
  | p :: r, a => by
    rw [List.foldl_cons, fold_list r]
    have e : (Str.ofString "").cps = #[] := by decide +kernel
    rw [e]
    simp
theorem join_chars (cs : List Nat) : (Txt.join (Str.ofString "") (cs.map fun c => (⟨#[c]⟩ : Str))).cps.toList = cs := by
  cases cs with
  | nil =>
    show (Str.empty.cps).toList = []
    decide +kernel
  | cons c r =>
    show (((r.map fun c => (⟨#[c]⟩ : Str)).foldl (fun acc p => acc ++ (Str.ofString "").cps ++ p.cps) (#[c] : Array Nat))).toList = _
    rw [fold_list]
    have e : ∀ l : List Nat, ((l.map fun c => (⟨#[c]⟩ : Str)).map (fun p => p.cps.toList)).flatten = l := fun l => by
      induction l with
      | nil => rfl
      | cons a t ih =>
        simp only [List.map_cons, List.flatten_cons, ih]
        rfl
    rw [e]
    rfl
theorem abc_at {j : Nat} (h : j < 26) : ∃ c, abc.cps.toList[j]? = some c ∧ 97 ≤ c ∧ c ≤ 122 := by
  have k : ∀ i : Fin 26, abc.cps.toList[i.1]? = some (97 + i.1) := by decide +kernel
  exact ⟨97 + j, k ⟨j, h⟩, by omega, by omega⟩
theorem ok_word {z : Str} (h : z ∈ ([Str.ofString "rest", Str.ofString "inside", Str.ofString "write", Str.ofString "read", Str.ofString "thread", Str.ofString "cells"] : List Str)) : OkName z := by
  have k : ∀ z ∈ ([Str.ofString "rest", Str.ofString "inside", Str.ofString "write", Str.ofString "read", Str.ofString "thread", Str.ofString "cells"] : List Str), (z.cps.toList.all fun c => decide (97 ≤ c) && decide (c ≤ 122)) = true ∧ 1 ≤ z.length ∧ z.length ≤ 8 := by decide +kernel
  obtain ⟨a, b, c⟩ := k z h
  refine ⟨fun x hx => ?_, b, c⟩
  have := List.all_eq_true.mp a x hx
  rw [Bool.and_eq_true] at this
  exact ⟨of_decide_eq_true this.1, of_decide_eq_true this.2⟩
theorem ok_q {z : Str} (l : letters z) (h8 : z.length ≤ 7) : OkName (Str.ofString "q" ++ z) := by
  have e : (Str.ofString "q" ++ z).cps.toList = 113 :: z.cps.toList := by
    rw [PySem.Str.cps_append, Array.toList_append]
    rfl
  have len : (Str.ofString "q" ++ z).length = 1 + z.length := by
    show (Str.ofString "q" ++ z).cps.size = 1 + z.cps.size
    rw [← Array.length_toList, e, List.length_cons, Array.length_toList]
    omega
  refine ⟨fun c hc => ?_, by omega, by omega⟩
  rw [e] at hc
  rcases List.mem_cons.mp hc with q | q
  · rw [q]
    decide
  · exact l c q
theorem ok_z {c : Nat} (h : 97 ≤ c ∧ c ≤ 122) : OkName (Str.ofString "z" ++ ⟨#[c]⟩) := by
  have e : (Str.ofString "z" ++ (⟨#[c]⟩ : Str)).cps.toList = [122, c] := by
    rw [PySem.Str.cps_append, Array.toList_append]
    rfl
  have len : (Str.ofString "z" ++ (⟨#[c]⟩ : Str)).length = 2 := by
    show (Str.ofString "z" ++ (⟨#[c]⟩ : Str)).cps.size = 2
    rw [← Array.length_toList, e]
    rfl
  refine ⟨fun x hx => ?_, by omega, by omega⟩
  rw [e] at hx
  simp only [List.mem_cons, List.not_mem_nil, or_false] at hx
  rcases hx with q | q
  · rw [q]
    decide
  · rw [q]
    exact h
theorem cut_letters {z : Str} (l : letters z) : letters (cutS z (some 1) none) := fun c hc => by
  unfold cutS at hc
  exact l c (List.mem_of_mem_drop (List.mem_of_mem_take (by simpa using hc)))
theorem cut_len {z : Str} (h : 1 ≤ z.length) : (cutS z (some 1) none).length ≤ z.length - 1 := by
  have e : HT.sIx z.length 0 (some 1) = 1 := by
    unfold HT.sIx
    simp
    omega
  show (((z.cps.toList.drop (HT.sIx z.length 0 (some 1))).take _).toArray).size ≤ _
  rw [e, List.size_toArray, List.length_take, List.length_drop, Array.length_toList]
  have : z.cps.size = z.length := rfl
  omega
theorem flat_strs (zs : List Str) : (zs.map V.str).all flatV = true := by
  rw [List.all_map]
  exact List.all_eq_true.mpr fun z _ => rfl
theorem in_strs (z : Str) (zs : List Str) : inV (V.str z) (zs.map V.str) = decide (z ∈ zs) := by
  unfold inV
  rw [List.any_map, Bool.eq_iff_iff, List.any_eq_true, decide_eq_true_eq]
  constructor
  · rintro ⟨y, hy, e⟩
    have e' : eqV (V.str y) (V.str z) = true := e
    rw [beq_str] at e'
    rw [of_decide_eq_true e']
    exact hy
  · intro h
    refine ⟨z, h, ?_⟩
    show eqV (V.str z) (V.str z) = true
    rw [beq_str]
    exact decide_eq_true rfl
theorem op_notIn_seqK {X : Cx} {K : PySem.W.Frag} (e : X.K = K) : OpR X (compareOp .NotIn) (rIn K true) := e ▸ op_notIn_seq
theorem seq_via {t u : TS} {D : Ends} {σ : L2.St} {H : Hp} (Z : L2.St → Hp → Prop) (h2 : ∀ σ' H', Z σ' H' → u D σ' H') (h1 : ∀ D' : Ends, (∀ σ' H', Z σ' H' → D'.nx σ' H') → t D' σ H) : tSeq t u D σ H := h1 _ h2
theorem gN (i : Nat) : gName i = fun v σ H Q => Q (List.set σ i (some v)) H := rfl
theorem singles_sum (cs : List Nat) : ((cs.map fun c => (⟨#[c]⟩ : Str)).map (·.length)).sum = cs.length := by
  induction cs with
  | nil => rfl
  | cons c r ih =>
    simp only [List.map_cons, List.sum_cons, List.length_cons, ih]
    have : (⟨#[c]⟩ : Str).length = 1 := rfl
    omega
theorem sizes_at {j : Nat} (h : j < 13) : ∃ s : Nat, ([V.int 8, V.int 4, V.int 5, V.int 6, V.int 7, V.int 1, V.int 2, V.int 3, V.int 1, V.int 2, V.int 3, V.int 1, V.int 2] : List V)[j]? = some (V.int (s : Nat)) ∧ 1 ≤ s ∧ s ≤ 8 := by
  match j, h with
  | 0, _ => exact ⟨8, rfl, by decide, by decide⟩
  | 1, _ => exact ⟨4, rfl, by decide, by decide⟩
  | 2, _ => exact ⟨5, rfl, by decide, by decide⟩
  | 3, _ => exact ⟨6, rfl, by decide, by decide⟩
  | 4, _ => exact ⟨7, rfl, by decide, by decide⟩
  | 5, _ => exact ⟨1, rfl, by decide, by decide⟩
  | 6, _ => exact ⟨2, rfl, by decide, by decide⟩
  | 7, _ => exact ⟨3, rfl, by decide, by decide⟩
  | 8, _ => exact ⟨1, rfl, by decide, by decide⟩
  | 9, _ => exact ⟨2, rfl, by decide, by decide⟩
  | 10, _ => exact ⟨3, rfl, by decide, by decide⟩
  | 11, _ => exact ⟨1, rfl, by decide, by decide⟩
  | 12, _ => exact ⟨2, rfl, by decide, by decide⟩
def spName : Sp := fun vs H Q _ => ∃ (p l : Addr) (n : Nat) (taken : List Str), vs = [.ref p, .ref l] ∧ Src p n H ∧ n + 100 < 1000000 ∧ H l = some (.lst (taken.map V.str)) ∧ p ≠ l ∧ taken.length ≤ 1 ∧
  ∀ (z : Str) (H' : Hp), OkName z → Grow p H H' → Src p (n + 20) H' → Q (.str z) H'
section
variable {P : Program} {w : World} {K : PySem.W.Frag} {mg : Str → Option Value} {base : Heap}
abbrev NN : List Str := ["_law_source_here", "_law_taken", "_law_size", "_law_name_here", "_law_k", "_law_one", "_law_sign"]
theorem scName : FnScope NN ["_law_source_here", "_law_taken"] (defScope sName) := ⟨rfl, rfl, rfl, by decide +kernel, rfl, by decide +kernel, by decide +kernel⟩
theorem ok_name {f fD : Addr} {fd fdD : FuncData} (F : Fun K "_law_name" "_law_name" sName f fd) (GD : FnOk P w K mg base CX0 1 fD fdD ["_law_source_here", "_law_many"] spDraw) (mD : mg "_law_draw" = some (.ref fD)) (kD : PySem.W.keepIn K (.ref fD) = true) (bD : L2.Binds K fdD ["_law_source_here", "_law_many"] []) (tr : mg "range" = none) :
    FnOk P w K mg base CX0 2 f fd ["_law_source_here", "_law_taken"] spName := by
  refine F.ok scName (fun vs H Q E h => ?_) (fun cdv A outer s H vs Q E hr h => ?_)
  · obtain ⟨p, l, n, taken, rfl, _⟩ := h
    rfl
  · refine ⟨_, pss_cons (ps_set (i := 2) scName.nd rfl (Or.inl rfl) (pe_ix ix_list (pe_lst (pa_cons pe_int (pa_cons pe_int (pa_cons pe_int (pa_cons pe_int (pa_cons pe_int (pa_cons pe_int (pa_cons pe_int (pa_cons pe_int (pa_cons pe_int (pa_cons pe_int (pa_cons pe_int (pa_cons pe_int (pa_cons pe_int pa_nil)))))))))))))) (pe_call GD hr rfl mD kD bD .nil pass0 (pa_cons (pv 0) (pa_cons pe_int pa_nil))) (fun _ _ => rfl)))
      (pss_cons (ps_set (i := 3) scName.nd rfl (Or.inl rfl) (pe_join pe_str (pe_lc (own := [("_law_k", 4)]) (g := gName 4) (by rfl) scName.nd (pi_range1 rfl tr (pa_cons (pv 2) pa_nil)) (blkOk_by (own := [("_law_k", 4)]) (N := NN) (sc := defScope sName) (by decide +kernel)) (fun _ _ _ _ _ => pg_name (i := 4) scName.nd rfl (Or.inl rfl)) (fun _ _ _ _ _ => pts_nil)
        (fun _ _ _ _ _ => pe_ix ix_str pe_str (pe_call GD hr rfl mD kD bD .nil pass0 (pa_cons (pv 0) (pa_cons pe_int pa_nil))) (fun _ _ => rfl)))))
      (pss_cons (ps_if (pt_chain op_lt op_lt pe_int (pv 2) pe_int) (pss_one (ps_set (i := 3) scName.nd rfl (Or.inl rfl) (pe_ix ix_list (pe_lst (pa_cons pe_str (pa_cons pe_str (pa_cons pe_str (pa_cons pe_str (pa_cons pe_str (pa_cons pe_str (pa_cons (pe_op op_add_str pe_str (pe_slice sl_str (pv 3) (po_some pe_int) po_none)) pa_nil)))))))) (pe_call GD hr rfl mD kD bD .nil pass0 (pa_cons (pv 0) (pa_cons pe_int pa_nil))) (fun _ _ => rfl)))) pss_nil)
      (pss_cons (ps_if (pt_cmpR op_notIn_seq (pv 3) (pv 1) (by rfl)) (pss_one (ps_ret (pv 3))) pss_nil)
      (pss_one (ps_ret (pe_ix ix_list (pe_lc (own := [("_law_one", 5)]) (g := gName 5) (by rfl) scName.nd (pi_list (pe_lc (own := [("_law_sign", 6)]) (g := gName 6) (by rfl) scName.nd (pi_str pe_str) (blkOk_by (own := [("_law_sign", 6)]) (N := NN) (sc := defScope sName) (by decide +kernel)) (fun _ _ _ _ _ => pg_name (i := 6) scName.nd rfl (Or.inl rfl)) (fun _ _ _ _ _ => pts_nil) (fun _ _ _ _ _ => pe_op op_add_str pe_str (pv 6))))
        (blkOk_by (own := [("_law_one", 5)]) (N := NN) (sc := defScope sName) (by decide +kernel)) (fun _ _ _ _ _ => pg_name (i := 5) scName.nd rfl (Or.inl rfl)) (fun _ _ _ _ _ => pts_one (pt_cmpR (op_notIn_seqK (K := K) rfl) (pv 5) (pv 1) (by rfl))) (fun _ _ _ _ _ => pv 5)) pe_int (fun _ _ => rfl))))))), ?_⟩
    obtain ⟨p, l, n, taken, rfl, hp, hn, hl, npl, few, k⟩ := h
    refine ⟨(by show 13 ≤ sizeLine; decide), fun L hL => ?_⟩
    have hpL := hp.new (o := .lst [V.int 8, V.int 4, V.int 5, V.int 6, V.int 7, V.int 1, V.int 2, V.int 3, V.int 1, V.int 2, V.int 3, V.int 1, V.int 2]) hL
    have npL := hp.ne hL
    refine ⟨_, rfl, p, n, 13, rfl, hpL, by omega, by decide, by decide, fun r H1 r0 r1 g1 s1 => ?_⟩
    obtain ⟨j, rfl⟩ : ∃ j : Nat, r = (j : Int) := ⟨r.toNat, by omega⟩
    obtain ⟨sz, hsz, sz1, sz8⟩ := sizes_at (j := j) (by omega)
    refine ⟨L, _, _, V.int (sz : Nat), rfl, rfl, SqL.of (g1 _ _ upd_same npL.symm), atI_nat hsz, ?_⟩
    have gr1 : Grow p H H1 := (Grow.new hL).trans g1
    clear hpL npL g1 hL
    refine ⟨⟨_, rfl⟩, ?_⟩
    refine ⟨_, rfl, (sz : Int), rfl, by omega, by omega, fun D hD => ?_⟩
    refine lc_range (lo := 0) (n := sz) (fun i Ha => ∃ cs : List Nat, cs.length = i ∧ (∀ c ∈ cs, 97 ≤ c ∧ c ≤ 122) ∧ Ha D = some (.lst ((cs.map fun c => (⟨#[c]⟩ : Str)).map V.str)) ∧ Grow p H1 Ha ∧ Src p (n + 1 + i) Ha)
      ⟨[], rfl, (fun _ h => nomatch h), upd_same, Grow.new hD, s1.new hD⟩ ?_ ?_
    · rintro i Ha hi ⟨cs, cl, cr, hDa, ga, sa⟩
      have npD : p ≠ D := fun z => by
        rw [← z] at hD
        exact absurd rfl (s1.ne hD)
      refine ⟨rfl, tyes_if ?_⟩
      refine ⟨_, rfl, p, n + 1 + i, 26, rfl, sa, by omega, by decide, by decide, fun r Hb q0 q1 gb sb => ?_⟩
      obtain ⟨m, rfl⟩ : ∃ m : Nat, r = (m : Int) := ⟨r.toNat, by omega⟩
      obtain ⟨c, hc, c1, c2⟩ := abc_at (j := m) (by omega)
      have hDb := gb _ _ hDa npD.symm
      refine ⟨abc, _, c, rfl, rfl, (by decide +kernel), atI_nat hc, _, hDb, small (by rw [List.length_map, List.length_map]; omega), cs ++ [c], by rw [List.length_append, cl]; rfl, fun x hx => ?_, ?_, (ga.trans gb).put hD, (sb.put npD).le (by omega)⟩
      · rcases List.mem_append.mp hx with q | q
        · exact cr x q
        · cases q with
          | head => exact ⟨c1, c2⟩
          | tail _ q => cases q
      · rw [upd_same, List.map_append, List.map_append]
        rfl
    rintro Ha ⟨cs, cl, cr, hDa, ga, sa⟩
    obtain ⟨z0, hz0⟩ : ∃ z0, z0 = Txt.join (Str.ofString "") (cs.map fun c => (⟨#[c]⟩ : Str)) := ⟨_, rfl⟩
    have chars : z0.cps.toList = cs := by rw [hz0]; exact join_chars cs
    have len0 : z0.length = sz := by
      show z0.cps.size = sz
      rw [← Array.length_toList, chars, cl]
    have let0 : letters z0 := fun c hc => cr c (by rw [← chars]; exact hc)
    refine ⟨Str.ofString "", D, cs.map fun c => (⟨#[c]⟩ : Str), rfl, rfl, .inl (SqL.of hDa), ?_, ?_⟩
    · rw [singles_sum, show (Str.ofString "").length = 0 by decide +kernel, Nat.mul_zero]
      omega
    rw [← hz0]
    have gra := gr1.trans ga
    rw [gN 3]
    dsimp only
    refine seq_via (fun σ' H' => ∃ z, σ' = [some (.ref p), some (.ref l), some (.int (sz : Nat)), some (.str z), none, none, none] ∧ OkName z ∧ Grow p H H' ∧ Src p (n + 10) H') (fun σ' H' hz => ?_) (fun D' hD' => ?_)
    · obtain ⟨z, rfl, oz, gz, sz'⟩ := hz
      have hlz := gz _ _ hl npl.symm
      refine ⟨_, rfl, _, rfl, l, _, rfl, .inl (SqL.of hlz), rfl, flat_strs _, _, rfl, ?_⟩
      rw [show (if true = true then !inV (V.str z) (taken.map V.str) else inV (V.str z) (taken.map V.str)) = !decide (z ∈ taken) by rw [in_strs]; rfl]
      by_cases it : z ∈ taken
      · refine ite_no (by rw [decide_eq_true it]; rfl) ?_
        refine ⟨abc, rfl, fun D1 hD1 => ?_⟩
        refine lc_it (walk_str (z := abc)) (fun i Hb => Hb D1 = some (.lst (((abc.cps.toList.take i).map fun c => Str.ofString "z" ++ (⟨#[c]⟩ : Str)).map V.str)) ∧ Same H' Hb) ⟨upd_same, same_new hD1⟩ (fun _ _ _ _ => True.intro) ?_ ?_
        · rintro i x0 Hb Hc hi ⟨hDb, sb⟩ ⟨eH, c, hc, rfl⟩
          obtain rfl : Hb = Hc := eH.symm
          refine ⟨rfl, tyes_if ?_⟩
          refine ⟨_, rfl, _, _, rfl, rfl, (by show _ + 1 ≤ sizeLine; decide +kernel), ?_⟩
          refine ⟨_, hDb, small (by rw [List.length_map, List.length_map, List.length_take]; exact Nat.lt_of_le_of_lt (Nat.min_le_right _ _) (by decide +kernel)), ?_, same_put sb hD1⟩
          have hc' : abc.cps.toList[i]? = some c := by rw [Array.getElem?_toList]; exact hc
          rw [upd_same, List.take_add_one, hc', List.map_append, List.map_append]
          rfl
        · rintro Hb ⟨hDb', sb⟩
          have szA : abc.cps.size = 26 := by decide +kernel
          rw [szA] at hDb'
          have hDb : Hb D1 = some (.lst ((abc.cps.toList.map fun c => Str.ofString "z" ++ (⟨#[c]⟩ : Str)).map V.str)) := by
            rw [hDb', List.take_of_length_le (by rw [Array.length_toList, szA]; exact Nat.le_refl _)]
          clear hDb'
          refine ⟨D1, rfl, ⟨_, SqL.of hDb⟩, fun D2 hD2 => ?_⟩
          have zs_ok : ∀ y ∈ (abc.cps.toList.map fun c => Str.ofString "z" ++ (⟨#[c]⟩ : Str)), OkName y := fun y hy => by
            obtain ⟨c, hc, rfl⟩ := List.mem_map.mp hy
            have : (abc.cps.toList.all fun c => decide (97 ≤ c) && decide (c ≤ 122)) = true := by decide +kernel
            have q := List.all_eq_true.mp this c hc
            rw [Bool.and_eq_true] at q
            exact ok_z ⟨of_decide_eq_true q.1, of_decide_eq_true q.2⟩
          have z_0 : (abc.cps.toList.map fun c => Str.ofString "z" ++ (⟨#[c]⟩ : Str))[0]? = some (Str.ofString "za") := by decide +kernel
          have z_1 : (abc.cps.toList.map fun c => Str.ofString "z" ++ (⟨#[c]⟩ : Str))[1]? = some (Str.ofString "zb") := by decide +kernel
          have z_len : (abc.cps.toList.map fun c => Str.ofString "z" ++ (⟨#[c]⟩ : Str)).length = 26 := by rw [List.length_map, Array.length_toList, szA]
          revert hDb zs_ok z_0 z_1 z_len
          generalize (abc.cps.toList.map fun c => Str.ofString "z" ++ (⟨#[c]⟩ : Str)) = zs
          intro hDb zs_ok z_0 z_1 z_len
          refine lc_list (K := K) (a := D1) (xs := zs.map V.str) (fun i Hc => ∃ out : List Str, (∀ y ∈ out, OkName y) ∧ (i = 1 → out = [] → taken = [Str.ofString "za"]) ∧ (2 ≤ i → out ≠ []) ∧ Hc D2 = some (.lst (out.map V.str)) ∧ out.length ≤ i ∧ Same Hb Hc)
            ⟨[], (fun _ h => nomatch h), (fun e => by cases e), (fun e => absurd e (by decide)), upd_same, Nat.le_refl _, same_new hD2⟩ (fun i Hc _ ⟨_, _, _, _, _, _, e⟩ => SqL.of (e _ _ hDb)) ?_ ?_
          · rintro i y Hc hi ⟨out, ook, one_, two_, hDc, ol, sc⟩
            rw [List.getElem?_map] at hi
            obtain ⟨yz, hyz, rfl⟩ := Option.map_eq_some_iff.mp hi
            have ib : i < 26 := by rw [← z_len]; exact (List.getElem?_eq_some_iff.mp hyz).1
            have oky := zs_ok yz (List.mem_of_getElem? hyz)
            have hlc := sc _ _ (sb _ _ hlz)
            refine ⟨rfl, _, rfl, _, rfl, l, _, rfl, .inl (SqL.of hlc), rfl, flat_strs _, _, rfl, ?_⟩
            rw [show (if true = true then !inV (V.str yz) (taken.map V.str) else inV (V.str yz) (taken.map V.str)) = !decide (yz ∈ taken) by rw [in_strs]; rfl]
            by_cases iy : yz ∈ taken
            · refine ite_no (by rw [decide_eq_true iy]; rfl) ⟨out, ook, fun e eo => ?_, fun e eo => ?_, hDc, by omega, sc⟩
              · obtain rfl : i = 0 := by omega
                rw [z_0] at hyz
                cases hyz
                match taken, few, iy with
                | [a], _, iy =>
                  cases iy with
                  | head => rfl
                  | tail _ q => cases q
              · by_cases i2 : 2 ≤ i
                · exact two_ i2 eo
                · obtain rfl : i = 1 := by omega
                  have et := one_ rfl eo
                  rw [z_1] at hyz
                  cases hyz
                  rw [et] at iy
                  cases iy with
                  | tail _ q => cases q
            · refine ite_yes (by rw [decide_eq_false iy]; rfl) (⟨_, rfl, _, hDc, small (by rw [List.length_map]; omega), out ++ [yz], fun x hx => ?_, fun _ e => absurd e (by simp), fun _ e => absurd e (by simp), by rw [upd_same, List.map_append]; rfl, by rw [List.length_append]; show out.length + 1 ≤ i + 1; omega, same_put sc hD2⟩)
              rcases List.mem_append.mp hx with q | q
              · exact ook x q
              · cases q with
                | head => exact oky
                | tail _ q => cases q
          · rintro Hc ⟨out, ook, _, two_, hDc, _, sc⟩
            rw [List.length_map, z_len] at two_
            match out, two_ (by decide), ook, hDc with
            | y :: more, _, ook, hDc =>
              have sHc := same_tr sb sc
              refine ⟨D2, _, _, V.str y, rfl, rfl, SqL.of hDc, atZ, k y Hc (ook y (List.mem_cons_self ..)) (fun b o e nb => sHc _ _ (gz b o e nb)) ?_⟩
              obtain ⟨g_, s_, c_, e1, e2, e3, e4, e5⟩ := sz'
              exact ⟨g_, s_, c_, sHc _ _ e1, e2, e3, e4, by omega⟩
      · refine ite_yes (by rw [decide_eq_false it]; rfl) ?_
        exact ⟨_, rfl, k z H' oz gz (sz'.le (by omega))⟩
    · refine ⟨_, rfl, _, _, rfl, rfl, _, rfl, ?_⟩
      have okz : OkName z0 := ⟨let0, by omega, by omega⟩
      have srca : Src p (n + 10) Ha := sa.le (by omega)
      by_cases b3 : 3 < sz
      · refine ite_yes (decide_eq_true (by omega)) ⟨_, _, rfl, rfl, _, rfl, ?_⟩
        by_cases b8 : sz < 8
        · refine ite_yes (decide_eq_true (by omega)) ?_
          have cl7 := cut_len (z := z0) (by omega)
          refine ⟨_, rfl, _, rfl, z0, rfl, Nat.le_of_lt (small (by omega)), _, _, rfl, rfl, ?_, (by show 7 ≤ sizeLine; decide), fun L2 hL2 => ?_⟩
          · rw [show (Str.ofString "q").length = 1 by decide +kernel, PySem.sizeLine_eq]
            omega
          have npL2 := sa.ne hL2
          refine ⟨_, rfl, p, n + 1 + sz, 7, rfl, sa.new hL2, by omega, by decide, by decide, fun r Hb q0 q1 gb sb => ?_⟩
          obtain ⟨m, rfl⟩ : ∃ m : Nat, r = (m : Int) := ⟨r.toNat, by omega⟩
          have okq := ok_q (cut_letters let0) (Nat.le_trans cl7 (by omega))
          obtain ⟨y, hy, oy⟩ : ∃ y : Str, ([V.str "rest", V.str "inside", V.str "write", V.str "read", V.str "thread", V.str "cells", V.str (Str.ofString "q" ++ cutS z0 (some 1) none)] : List V)[m]? = some (V.str y) ∧ OkName y := by
            match m, q1 with
            | 0, _ => exact ⟨_, rfl, ok_word (by simp)⟩
            | 1, _ => exact ⟨_, rfl, ok_word (by simp)⟩
            | 2, _ => exact ⟨_, rfl, ok_word (by simp)⟩
            | 3, _ => exact ⟨_, rfl, ok_word (by simp)⟩
            | 4, _ => exact ⟨_, rfl, ok_word (by simp)⟩
            | 5, _ => exact ⟨_, rfl, ok_word (by simp)⟩
            | 6, _ => exact ⟨_, rfl, okq⟩
            | m + 7, q1 => exact absurd q1 (by omega)
          refine ⟨L2, _, _, V.str y, rfl, rfl, SqL.of (gb _ _ upd_same npL2.symm), atI_nat hy, ?_⟩
          exact hD' _ _ ⟨y, rfl, oy, (gra.trans (Grow.new hL2)).trans gb, sb.le (by omega)⟩
        · exact ite_no (decide_eq_false (by omega)) (hD' _ _ ⟨z0, rfl, okz, gra, srca⟩)
      · exact ite_no (decide_eq_false (by omega)) ⟨false, rfl, iteF (hD' _ _ ⟨z0, rfl, okz, gra, srca⟩)⟩
end
end CC
set_option Elab.async false
set_option maxRecDepth 100000
namespace CC
open PySem PySem.Spec PyProof.Rows L2
set_option linter.unusedVariables false
abbrev sNames : Stmt := top 28
def spNames : Sp := fun vs H Q _ => ∃ (p : Addr) (n many : Nat), vs = [.ref p, .int (many : Nat)] ∧ Src p n H ∧ n + 300 < 1000000 ∧ many ≤ 2 ∧
  ∀ (l : Addr) (zs : List Str) (H' : Hp), zs.length = many → (∀ z ∈ zs, OkName z) → H l = none → H' l = some (.lst (zs.map V.str)) → p ≠ l → Grow p H H' → Src p (n + 100) H' → Q (.ref l) H'
section
variable {P : Program} {w : World} {K : PySem.W.Frag} {mg : Str → Option Value} {base : Heap}
theorem scNames : FnScope ["_law_source_here", "_law_many", "_law_names_here", "_law_k"] ["_law_source_here", "_law_many"] (defScope sNames) := ⟨rfl, rfl, rfl, by decide +kernel, rfl, by decide +kernel, by decide +kernel⟩
theorem ok_names {f fN : Addr} {fd fdN : FuncData} (F : Fun K "_law_names" "_law_names" sNames f fd) (GN : FnOk P w K mg base CX0 2 fN fdN ["_law_source_here", "_law_taken"] spName) (mN : mg "_law_name" = some (.ref fN)) (kN : PySem.W.keepIn K (.ref fN) = true) (bN : L2.Binds K fdN ["_law_source_here", "_law_taken"] []) (tr : mg "range" = none) :
    FnOk P w K mg base CX0 3 f fd ["_law_source_here", "_law_many"] spNames := by
  refine F.ok scNames (fun vs H Q E h => ?_) (fun cdv A outer s H vs Q E hr h => ?_)
  · obtain ⟨p, n, many, rfl, _⟩ := h
    rfl
  · refine ⟨_, pss_cons (ps_set (i := 2) scNames.nd rfl (Or.inl rfl) (pe_lst pa_nil))
      (pss_cons (ps_for PassesOwn.never rfl (pi_range1 rfl tr (pa_cons (pv 1) pa_nil)) (pg_name (i := 3) scNames.nd rfl (Or.inl rfl))
        (pss_one (ps_expr (pe_bm PySem.F.plainAttrs_list PySem.F.slot_list_append PySem.F.type_list_append mt_append (pv 2) (pa_cons (pe_call GN hr rfl mN kN bN .nil pass0 (pa_cons (pv 0) (pa_cons (pv 2) pa_nil))) pa_nil)))))
      (pss_one (ps_ret (pv 2)))), ?_⟩
    obtain ⟨p, n, many, rfl, hp, hn, m2, k⟩ := h
    refine ⟨Nat.zero_le _, fun l hl => ?_⟩
    have npl := hp.ne hl
    refine ⟨_, rfl, (many : Int), rfl, by omega, by omega, for_range (n := many) (fun i σ H2 => ∃ (v : Option V) (zs : List Str), σ = [some (.ref p), some (.int (many : Nat)), some (.ref l), v] ∧ zs.length = i ∧ (∀ z ∈ zs, OkName z) ∧ H2 l = some (.lst (zs.map V.str)) ∧ Grow p H H2 ∧ Src p (n + 20 * i) H2)
      ⟨none, [], rfl, rfl, (fun _ h => nomatch h), upd_same, Grow.new hl, hp.new hl⟩ ?_ ?_⟩
    · rintro i σ H2 hi ⟨v, zs, rfl, zl, zo, hl2, g2, s2⟩
      refine ⟨_, rfl, .inl ⟨rfl, _, Or.inl (Or.inl hl2)⟩, _, rfl, _, rfl, p, l, n + 20 * i, zs, rfl, s2, by omega, hl2, npl, by omega, fun z H3 oz g3 s3 => ?_⟩
      have hl3 := g3 _ _ hl2 npl.symm
      refine ⟨l, _, _, rfl, rfl, hl3, small (by rw [List.length_map]; omega), ?_⟩
      refine ⟨_, zs ++ [z], rfl, by rw [List.length_append, zl]; rfl, fun y hy => ?_, by rw [upd_same, List.map_append]; rfl, (g2.trans g3).put hl, (s3.put npl).le (by omega)⟩
      rcases List.mem_append.mp hy with q | q
      · exact zo y q
      · cases q with
        | head => exact oz
        | tail _ q => cases q
    · rintro σ H2 ⟨v, zs, rfl, zl, zo, hl2, g2, s2⟩
      exact ⟨_, rfl, k l zs H2 zl zo hl hl2 npl g2 (s2.le (by omega))⟩
end
end CC
set_option Elab.async false
set_option maxRecDepth 100000
namespace CC
open PySem PySem.Spec PyProof.Rows L2
set_option linter.unusedVariables false
/-! ### things that are no rows, or nearly -/
abbrev sOdd : Stmt := top 38
theorem RowDAt.grow {P : Program} {w : World} {H H' : Hp} {l : Addr} {ys : List V} {d : RowD} {v : V} (h : RowDAt P w H d v) (g : Grow l H H') (hl : H l = some (.lst ys)) (h2 : 2 ≤ ys.length) : RowDAt P w H' d v := by
  have th : ∀ (t : Th) (x : V), (∀ n, t = .seq n → n ≤ 1) → ThAt P w H t x → ThAt P w H' t x := fun t x hs e => by
    cases t with
    | seq n =>
      obtain ⟨a, xs, e1, e2, e3⟩ := e
      have n1 := hs n rfl
      rcases e3 with e3 | e3
      · exact ⟨a, xs, e1, e2, .inl (g _ _ e3 fun z => by
          rw [z, hl] at e3
          cases e3
          omega)⟩
      · exact ⟨a, xs, e1, e2, .inr (g _ _ e3 fun z => by
          rw [z, hl] at e3
          cases e3)⟩
    | dic kvs =>
      obtain ⟨a, e1, e3⟩ := e
      exact ⟨a, e1, g _ _ e3 fun z => by
        rw [z, hl] at e3
        cases e3⟩
    | db =>
      obtain ⟨a, ep, e1, e3⟩ := e
      exact ⟨a, ep, e1, g _ _ e3 fun z => by
        rw [z, hl] at e3
        unfold DB at e3
        cases e3⟩
    | dany =>
      obtain ⟨a, kvs, e1, e3⟩ := e
      exact ⟨a, kvs, e1, g _ _ e3 fun z => by
        rw [z, hl] at e3
        cases e3⟩
    | _ => exact e
  cases d with
  | flat t => exact ⟨h.1, th t v (fun n e => by rw [e] at h; exact Bool.noConfusion h.1) h.2⟩
  | nil =>
    obtain ⟨a, e1, e3⟩ := h
    exact ⟨a, e1, g _ _ e3 fun z => by
      rw [z, hl] at e3
      cases e3
      exact absurd h2 (by decide)⟩
  | tup ts =>
    obtain ⟨a, xs, e1, e3, pr, sm, few⟩ := h
    refine ⟨a, xs, e1, g _ _ e3 fun z => ?_, ?_, sm, few⟩
    · rw [z, hl] at e3
      cases e3
    · clear e3 few
      induction pr with
      | nil => exact .nil
      | @cons x t xs ts q _ ih => exact .cons (th t x (fun n e => by have := sm t (List.mem_cons_self ..); rw [e] at this; exact this) q) (ih fun t ht => sm t (List.mem_cons_of_mem _ ht))
def RowD.fine (d : RowD) : Prop := ∀ ts, d = .tup ts → ∀ t ∈ ts, t.agrees
def ThOk (P : Program) (w : World) (H : Hp) (v : V) : Prop := ∃ t, ThAt P w H t v ∧ t.small ∧ t.agrees
def RowOk (P : Program) (w : World) (H : Hp) (v : V) : Prop := ∃ d, RowDAt P w H d v ∧ d.fine
def LOk (P : Program) (w : World) (H : Hp) (l : Addr) (k : Nat) : Prop := ∃ xs, H l = some (.lst xs) ∧ xs.length = k ∧ ∀ x ∈ xs, RowOk P w H x
theorem ThOk.mono {P : Program} {w : World} {H H' : Hp} {v : V} (h : ThOk P w H v) (s : Same H H') : ThOk P w H' v := let ⟨t, a, b, c⟩ := h; ⟨t, a.mono s, b, c⟩
theorem RowOk.mono {P : Program} {w : World} {H H' : Hp} {v : V} (h : RowOk P w H v) (s : Same H H') : RowOk P w H' v := let ⟨t, a, b⟩ := h; ⟨t, a.mono s, b⟩
theorem RowOk.grow {P : Program} {w : World} {H H' : Hp} {l : Addr} {ys : List V} {v : V} (g : Grow l H H') (hl : H l = some (.lst ys)) (h2 : 2 ≤ ys.length) (h : RowOk P w H v) : RowOk P w H' v := let ⟨t, a, b⟩ := h; ⟨t, a.grow g hl h2, b⟩
theorem LOk.mono {P : Program} {w : World} {H H' : Hp} {l : Addr} {k : Nat} (h : LOk P w H l k) (s : Same H H') : LOk P w H' l k := let ⟨xs, a, b, c⟩ := h; ⟨xs, s _ _ a, b, fun x hx => (c x hx).mono s⟩
theorem th_pick {P : Program} {w : World} {H : Hp} : ∀ {xs : List V}, (∀ x ∈ xs, ThOk P w H x) → ∃ ts, Paired (fun x t => ThAt P w H t x) xs ts ∧ (∀ t ∈ ts, t.small) ∧ ∀ t ∈ ts, t.agrees
  | [], _ => ⟨[], .nil, (fun _ h => nomatch h), (fun _ h => nomatch h)⟩
  | x :: xs, h => by
    obtain ⟨t, a, b, c⟩ := h x (List.mem_cons_self ..)
    obtain ⟨ts, p, q, r⟩ := th_pick fun y hy => h y (List.mem_cons_of_mem _ hy)
    refine ⟨t :: ts, .cons a p, fun y hy => ?_, fun y hy => ?_⟩
    · rcases List.mem_cons.mp hy with z | z
      · rw [z]; exact b
      · exact q y z
    · rcases List.mem_cons.mp hy with z | z
      · rw [z]; exact c
      · exact r y z
abbrev Has (m : Int) (σ : L2.St) : Prop := σ[1]? = some (some (.int m))
def Pu (m : Int) (te : TE) (v : V) : Prop := ∀ (σ : L2.St) (H : Hp) (Q : VK), Has m σ → Q v H → te σ H Q
def EvI (P : Program) (w : World) (m : Int) (te : TE) : Prop := ∀ (σ : L2.St) (H : Hp) (Q : VK), Has m σ → (∀ v H', Same H H' → ThOk P w H' v → Q v H') → te σ H Q
def EvIs (P : Program) (w : World) (m : Int) (k : Nat) (te : TA) : Prop := ∀ (σ : L2.St) (H : Hp) (Q : List V → Hp → Prop), Has m σ → (∀ xs H', Same H H' → (∀ x ∈ xs, ThOk P w H' x) → xs.length = k → Q xs H') → te σ H Q
def EvR (P : Program) (w : World) (m : Int) (te : TE) : Prop := ∀ (σ : L2.St) (H : Hp) (Q : VK), Has m σ → (∀ v H', Same H H' → RowOk P w H' v → Q v H') → te σ H Q
def EvRs (P : Program) (w : World) (m : Int) (k : Nat) (te : TA) : Prop := ∀ (σ : L2.St) (H : Hp) (Q : List V → Hp → Prop), Has m σ → (∀ xs H', Same H H' → (∀ x ∈ xs, RowOk P w H' x) → xs.length = k → Q xs H') → te σ H Q
theorem Same.rfl' {H : Hp} : Same H H := fun _ _ e => e
section
variable {P : Program} {w : World} {m : Int}
theorem pu_c {v : V} : Pu m (tC v) v := fun _ _ _ _ q => q
theorem pu_many : Pu m (tVar 1) (.int m) := fun _ _ _ h q => ⟨_, h, q⟩
theorem pu_neg {te : TE} {i : Int} (h : Pu m te (.int i)) : Pu m (tUn (rU fun i => .int (-i)) te) (.int (-i)) := fun σ H Q a q => h σ H _ a ⟨i, rfl, q⟩
theorem pu_sub {ta tb : TE} {i j : Int} (h1 : Pu m ta (.int i)) (h2 : Pu m tb (.int j)) : Pu m (tOp (rI0 fun i j => V.int (i - j)) ta tb) (.int (i - j)) := fun σ H Q a q => h1 σ H _ a (h2 σ H _ a ⟨i, j, rfl, rfl, q⟩)
theorem tho_non (H : Hp) : ThOk P w H .non := ⟨.non, rfl, trivial, trivial⟩
theorem tho_int (i : Int) (H : Hp) : ThOk P w H (.int i) := ⟨.int i, rfl, trivial, trivial⟩
theorem tho_bl (b : Bool) (H : Hp) : ThOk P w H (.bl b) := ⟨.bl b, rfl, trivial, trivial⟩
theorem rok_non (H : Hp) : RowOk P w H .non := ⟨.flat .non, ⟨rfl, rfl⟩, fun _ e => by cases e⟩
theorem rok_int (i : Int) (H : Hp) : RowOk P w H (.int i) := ⟨.flat (.int i), ⟨rfl, rfl⟩, fun _ e => by cases e⟩
theorem rok_str (z : Str) (H : Hp) : RowOk P w H (.str z) := ⟨.flat (.str z), ⟨rfl, rfl⟩, fun _ e => by cases e⟩
theorem evi_p {te : TE} {v : V} (h : Pu m te v) (k : ∀ H, ThOk P w H v) : EvI P w m te := fun σ H Q a q => h σ H _ a (q v H Same.rfl' (k H))
theorem evr_p {te : TE} {v : V} (h : Pu m te v) (k : ∀ H, RowOk P w H v) : EvR P w m te := fun σ H Q a q => h σ H _ a (q v H Same.rfl' (k H))
theorem evi_l0 : EvI P w m (tLst tNil) := fun σ H Q a q => ⟨Nat.zero_le _, fun p hp => q _ _ (same_new hp) ⟨.seq 0, ⟨p, [], rfl, rfl, .inl upd_same⟩, Nat.zero_le _, trivial⟩⟩
theorem evi_l1 {te : TE} {v : V} (h : Pu m te v) : EvI P w m (tLst (tCons te tNil)) := fun σ H Q a q => h σ H _ a ⟨(by show 1 ≤ sizeLine; decide), fun p hp => q _ _ (same_new hp) ⟨.seq 1, ⟨p, [v], rfl, rfl, .inl upd_same⟩, Nat.le_refl _, trivial⟩⟩
theorem evi_d0 : EvI P w m tDNewK := fun σ H Q a q d hd => q _ _ (same_new hd) ⟨.dic [], ⟨d, rfl, upd_same⟩, ⟨Nat.zero_le _, List.nodup_nil⟩, trivial⟩
theorem evi_db : EvI P w m (tDB P w) := fun σ H Q a q d ep hd => q _ _ (same_new hd) ⟨.db, ⟨d, ep, rfl, upd_same⟩, trivial, trivial⟩
theorem evi_d1 {tk tv : TE} {k : Key} {o : Option Int} (hk : Pu m tk (kV k)) (hv : Pu m tv (vV o)) : EvI P w m (tDisp [(tk, tv)]) := fun σ H Q a q d hd =>
  hk σ _ _ a (hv σ _ _ a ⟨upd_same, [(k, vV o)], rfl, (by show 1 ≤ 15; decide), by
    have e : upd (upd H d (.dK [])) d (.dK (mergeK [] [(k, vV o)])) = upd H d (.dK [(k, vV o)]) := by
      funext b
      by_cases hb : b = d
      · rw [hb, upd_same, upd_same]
        rfl
      · rw [upd_ne hb, upd_ne hb, upd_ne hb]
    rw [e]
    exact q _ _ (same_new hd) ⟨.dic [(k, o)], ⟨d, rfl, upd_same⟩, ⟨(by show 1 ≤ 10; decide), by simp⟩, trivial⟩⟩)
theorem evs_nil : EvIs P w m 0 tNil := fun σ H Q a q => q [] H Same.rfl' (fun _ h => nomatch h) rfl
theorem evs_cons {te : TE} {tr : TA} {k : Nat} (h : EvI P w m te) (r : EvIs P w m k tr) : EvIs P w m (k + 1) (tCons te tr) := fun σ H Q a q => h σ H _ a fun v H1 s1 o1 => r σ H1 _ a fun xs H2 s2 o2 e2 => q (v :: xs) H2 (same_tr s1 s2) (fun x hx => by
  rcases List.mem_cons.mp hx with z | z
  · rw [z]
    exact o1.mono s2
  · exact o2 x z) (by rw [List.length_cons, e2])
theorem evr_tup {tr : TA} {k : Nat} (h : EvIs P w m k tr) (hk : k ≤ 100) : EvR P w m (tTup tr) := fun σ H Q a q => h σ H _ a fun xs H1 s1 o1 e1 => ⟨Nat.le_of_lt (small (by rw [e1]; exact Nat.lt_of_le_of_lt hk (by decide))), fun p hp => by
  have s2 := same_new (o := .tup xs) hp
  obtain ⟨ts, pr, sm, ag⟩ := th_pick o1
  refine q _ _ (same_tr s1 s2) ⟨.tup ts, ⟨p, xs, rfl, upd_same, L2.Paired.mapP pr fun x t e => e.mono s2, sm, ?_⟩, fun ts' e => ?_⟩
  · rw [← pr.length, e1]
    exact hk
  · cases e
    exact ag⟩
theorem evr_nil : EvR P w m (tLst tNil) := fun σ H Q a q => ⟨Nat.zero_le _, fun p hp => q _ _ (same_new hp) ⟨.nil, ⟨p, rfl, upd_same⟩, fun _ e => by cases e⟩⟩
theorem evr_d0 : EvR P w m tDNewK := fun σ H Q a q d hd => q _ _ (same_new hd) ⟨.flat (.dic []), ⟨rfl, d, rfl, upd_same⟩, fun _ e => by cases e⟩
theorem ers_nil : EvRs P w m 0 tNil := fun σ H Q a q => q [] H Same.rfl' (fun _ h => nomatch h) rfl
theorem ers_cons {te : TE} {tr : TA} {k : Nat} (h : EvR P w m te) (r : EvRs P w m k tr) : EvRs P w m (k + 1) (tCons te tr) := fun σ H Q a q => h σ H _ a fun v H1 s1 o1 => r σ H1 _ a fun xs H2 s2 o2 e2 => q (v :: xs) H2 (same_tr s1 s2) (fun x hx => by
  rcases List.mem_cons.mp hx with z | z
  · rw [z]
    exact o1.mono s2
  · exact o2 x z) (by rw [List.length_cons, e2])
end
theorem seq_go {t u : TS} {D : Ends} {σ : L2.St} {H : Hp} (h : t { D with nx := u D } σ H) : tSeq t u D σ H := h
theorem seq_asg {te : TE} {i : Nat} {u : TS} {D : Ends} {σ : L2.St} {H : Hp} (h : te σ H fun x H1 => u D (List.set σ i (some x)) H1) : tSeq (tAsg te (gName i)) u D σ H := h
theorem cat_go {ta tb : TE} {σ : L2.St} {H : Hp} {Q : VK} {l : Addr} (tv : ∀ Q : VK, Q (.ref l) H → ta σ H Q) (h : tb σ H fun y H2 => rCat (.ref l) y H2 Q) : tOp rCat ta tb σ H Q := tv _ h
theorem lst_new {P : Program} {w : World} {m : Int} {k : Nat} {tes : TA} {σ : L2.St} {H : Hp} {Q : VK} (e : EvRs P w m k tes) (hm : Has m σ) (hk : k ≤ sizeLine) (q : ∀ l H', Same H H' → H l = none → LOk P w H' l k → Q (.ref l) H') : tLst tes σ H Q :=
  e σ H _ hm fun xs H1 s1 hx hl => ⟨by rw [hl]; exact hk, fun p hp => q p _ (same_tr s1 (same_new hp)) (s1.free hp) ⟨xs, upd_same, hl, fun x h => (hx x h).mono (same_new hp)⟩⟩
theorem cat_ok {P : Program} {w : World} {k j : Nat} {l y : Addr} {H G : Hp} {Q : VK} (h : LOk P w H l k) (e : LOk P w G y j) (t : Same H G) (hk : k + j ≤ sizeLine) (q : ∀ l' H', Same G H' → G l' = none → LOk P w H' l' (k + j) → Q (.ref l') H') : rCat (.ref l) (.ref y) G Q := by
  obtain ⟨xs, h1, h2, h3⟩ := h
  obtain ⟨ys, e1, e2, e3⟩ := e
  refine ⟨l, y, xs, ys, rfl, rfl, t _ _ h1, e1, by rw [h2, e2]; exact hk, fun r hr => q r _ (same_new hr) hr ⟨_, upd_same, by rw [List.length_append, h2, e2], fun x hx => ?_⟩⟩
  rcases List.mem_append.mp hx with z | z
  · exact ((h3 x z).mono t).mono (same_new hr)
  · exact (e3 x z).mono (same_new hr)
theorem gs_A {P : Program} {w : World} (H : Hp) : ThOk P w H (.str "A") := ⟨.str "A", rfl, (by show Str.length "A" ≤ 1000; decide +kernel), (by show lawNameS "A" = nameS "A"; decide +kernel)⟩
theorem gs_a {P : Program} {w : World} (H : Hp) : ThOk P w H (.str "a") := ⟨.str "a", rfl, (by show Str.length "a" ≤ 1000; decide +kernel), (by show lawNameS "a" = nameS "a"; decide +kernel)⟩
theorem gs_inside {P : Program} {w : World} (H : Hp) : ThOk P w H (.str "inside") := ⟨.str "inside", rfl, (by show Str.length "inside" ≤ 1000; decide +kernel), (by show lawNameS "inside" = nameS "inside"; decide +kernel)⟩
theorem gs_ninechars {P : Program} {w : World} (H : Hp) : ThOk P w H (.str "ninechars") := ⟨.str "ninechars", rfl, (by show Str.length "ninechars" ≤ 1000; decide +kernel), (by show lawNameS "ninechars" = nameS "ninechars"; decide +kernel)⟩
theorem gs_nothing {P : Program} {w : World} (H : Hp) : ThOk P w H (.str "") := ⟨.str "", rfl, (by show Str.length "" ≤ 1000; decide +kernel), (by show lawNameS "" = nameS ""; decide +kernel)⟩
theorem gs_read {P : Program} {w : World} (H : Hp) : ThOk P w H (.str "read") := ⟨.str "read", rfl, (by show Str.length "read" ≤ 1000; decide +kernel), (by show lawNameS "read" = nameS "read"; decide +kernel)⟩
theorem gs_rest {P : Program} {w : World} (H : Hp) : ThOk P w H (.str "rest") := ⟨.str "rest", rfl, (by show Str.length "rest" ≤ 1000; decide +kernel), (by show lawNameS "rest" = nameS "rest"; decide +kernel)⟩
theorem gs_wait {P : Program} {w : World} (H : Hp) : ThOk P w H (.str "wait") := ⟨.str "wait", rfl, (by show Str.length "wait" ≤ 1000; decide +kernel), (by show lawNameS "wait" = nameS "wait"; decide +kernel)⟩
theorem gs_write {P : Program} {w : World} (H : Hp) : ThOk P w H (.str "write") := ⟨.str "write", rfl, (by show Str.length "write" ≤ 1000; decide +kernel), (by show lawNameS "write" = nameS "write"; decide +kernel)⟩
def spOdd (P : Program) (w : World) : Sp := fun vs H Q _ => ∃ (p : Addr) (n : Nat) (many : Nat), vs = [.ref p, .int (many : Nat)] ∧ Src p n H ∧ n + 10 < 1000000 ∧
  ∀ (x : V) (H' : Hp), RowOk P w H' x → Grow p H H' → Src p (n + 1) H' → Q x H'
theorem Src.same {p : Addr} {n : Nat} {H H' : Hp} (h : Src p n H) (s : Same H H') : Src p n H' := by
  obtain ⟨g, z, c, e1, e2⟩ := h
  exact ⟨g, z, c, s _ _ e1, e2⟩
theorem Grow.of_same {p : Addr} {H H' : Hp} (s : Same H H') : Grow p H H' := fun b o e _ => s b o e
section
variable {P : Program} {w : World} {K : PySem.W.Frag} {mg : Str → Option Value} {base : Heap}
theorem scOdd : FnScope ["_law_source_here", "_law_many", "_law_odd_here"] ["_law_source_here", "_law_many"] (defScope sOdd) := ⟨rfl, rfl, rfl, by decide +kernel, rfl, by decide +kernel, by decide +kernel⟩
set_option maxHeartbeats 2000000 in
theorem ok_odd {f fP : Addr} {fd fdP : FuncData} (F : Fun K "_law_odd" "_law_odd" sOdd f fd) (GP : FnOk P w K mg base CX0 2 fP fdP ["_law_source_here", "_law_things"] (spPick K)) (mP : mg "_law_pick" = some (.ref fP)) (kP : PySem.W.keepIn K (.ref fP) = true) (bP : L2.Binds K fdP ["_law_source_here", "_law_things"] []) :
    FnOk P w K mg base CX0 3 f fd ["_law_source_here", "_law_many"] (spOdd P w) := by
  refine F.ok scOdd (fun vs H Q E h => ?_) (fun cdv A outer s H vs Q E hr h => ?_)
  · obtain ⟨p, n, many, rfl, _⟩ := h
    rfl
  · refine ⟨_, pss_cons (ps_set (i := 2) scOdd.nd rfl (Or.inl rfl) (pe_lst (pa_cons pe_non (pa_cons pe_int (pa_cons pe_str (pa_cons (pe_lst pa_nil) (pa_cons (pe_tup (pa_cons pe_str pa_nil)) (pa_cons (pe_tup (pa_cons pe_str (pa_cons (pv 1) pa_nil))) (pa_cons (pe_tup (pa_cons pe_str (pa_cons (pe_un un_neg pe_int) pa_nil))) (pa_cons (pe_tup (pa_cons pe_str (pa_cons pe_bl pa_nil))) (pa_cons (pe_tup (pa_cons pe_str (pa_cons pe_non pa_nil))) pa_nil)))))))))))
      (pss_cons (ps_set (i := 2) scOdd.nd rfl (Or.inl rfl) (pe_op op_cat (pv 2) (pe_lst (pa_cons (pe_tup (pa_cons pe_str (pa_cons pe_str (pa_cons pe_int pa_nil)))) (pa_cons (pe_tup (pa_cons pe_str (pa_cons pe_str (pa_cons pe_int (pa_cons pe_int pa_nil))))) (pa_cons (pe_tup (pa_cons pe_str (pa_cons pe_str (pa_cons (pe_un un_neg pe_int) (pa_cons pe_int pa_nil))))) (pa_cons (pe_tup (pa_cons pe_str (pa_cons pe_str (pa_cons pe_int (pa_cons (pv 1) pa_nil))))) (pa_cons pe_dnewK (pa_cons pe_str pa_nil)))))))))
      (pss_cons (ps_set (i := 2) scOdd.nd rfl (Or.inl rfl) (pe_op op_cat (pv 2) (pe_lst (pa_cons (pe_tup (pa_cons pe_str (pa_cons pe_str (pa_cons pe_bl (pa_cons pe_int pa_nil))))) (pa_cons (pe_tup (pa_cons pe_str (pa_cons pe_non (pa_cons pe_int (pa_cons pe_int pa_nil))))) (pa_cons (pe_tup (pa_cons pe_str (pa_cons pe_str (pa_cons (pe_lst pa_nil) (pa_cons pe_int pa_nil))))) (pa_cons (pe_tup (pa_cons pe_str (pa_cons pe_str (pa_cons (pe_disp (pps_cons pe_int (pv 1) pps_nil) (by rfl) (by rfl) (fun z => by cases z) (by decide)) (pa_cons pe_int pa_nil))))) pa_nil)))))))
      (pss_cons (ps_set (i := 2) scOdd.nd rfl (Or.inl rfl) (pe_op op_cat (pv 2) (pe_lst (pa_cons (pe_tup (pa_cons pe_str (pa_cons pe_str (pa_cons (pe_disp (pps_cons (pe_un un_neg pe_int) pe_int pps_nil) (by rfl) (by rfl) (fun z => by cases z) (by decide)) (pa_cons pe_int pa_nil))))) (pa_cons (pe_tup (pa_cons pe_str (pa_cons pe_str (pa_cons pe_db (pa_cons pe_int pa_nil))))) (pa_cons (pe_tup (pa_cons pe_str (pa_cons pe_str (pa_cons (pe_disp (pps_cons pe_str pe_int pps_nil) (by rfl) (by rfl) (fun z => by cases z) (by decide)) (pa_cons pe_int pa_nil))))) (pa_cons (pe_tup (pa_cons pe_str (pa_cons pe_int pa_nil))) pa_nil)))))))
      (pss_cons (ps_set (i := 2) scOdd.nd rfl (Or.inl rfl) (pe_op op_cat (pv 2) (pe_lst (pa_cons (pe_tup (pa_cons pe_str (pa_cons pe_str (pa_cons pe_dnewK (pa_cons (pv 1) pa_nil))))) (pa_cons (pe_tup (pa_cons pe_str (pa_cons pe_str (pa_cons (pe_disp (pps_cons pe_int pe_non pps_nil) (by rfl) (by rfl) (fun z => by cases z) (by decide)) (pa_cons pe_int pa_nil))))) (pa_cons (pe_tup (pa_cons pe_str (pa_cons pe_str (pa_cons pe_dnewK (pa_cons pe_int pa_nil))))) (pa_cons (pe_tup (pa_cons pe_str (pa_cons pe_int (pa_cons pe_int pa_nil)))) (pa_cons (pe_tup (pa_cons pe_int (pa_cons pe_int pa_nil))) pa_nil))))))))
      (pss_cons (ps_set (i := 2) scOdd.nd rfl (Or.inl rfl) (pe_op op_cat (pv 2) (pe_lst (pa_cons (pe_tup (pa_cons pe_str (pa_cons pe_str (pa_cons pe_dnewK (pa_cons pe_int pa_nil))))) pa_nil))))
      (pss_cons (ps_set (i := 2) scOdd.nd rfl (Or.inl rfl) (pe_op op_cat (pv 2) (pe_lst (pa_cons (pe_tup (pa_cons pe_str (pa_cons pe_int (pa_cons pe_int pa_nil)))) (pa_cons (pe_tup (pa_cons pe_str (pa_cons pe_str (pa_cons pe_dnewK (pa_cons pe_int (pa_cons pe_int pa_nil)))))) (pa_cons (pe_tup (pa_cons (pe_lst (pa_cons pe_str pa_nil)) (pa_cons pe_int pa_nil))) (pa_cons (pe_tup (pa_cons pe_str (pa_cons (pe_lst (pa_cons pe_str pa_nil)) (pa_cons pe_int (pa_cons pe_int pa_nil))))) pa_nil)))))))
      (pss_cons (ps_expr (pe_bm PySem.F.plainAttrs_list PySem.F.slot_list_append PySem.F.type_list_append mt_append (pv 2) (pa_cons (pe_tup (pa_cons pe_str (pa_cons pe_str (pa_cons pe_non (pa_cons pe_int pa_nil))))) pa_nil)))
      (pss_cons (ps_set (i := 2) scOdd.nd rfl (Or.inl rfl) (pe_op op_cat (pv 2) (pe_lst (pa_cons (pe_tup (pa_cons pe_str (pa_cons (pe_op op_sub (pv 1) pe_int) pa_nil))) (pa_cons (pe_tup (pa_cons pe_str (pa_cons pe_int pa_nil))) (pa_cons (pe_tup (pa_cons pe_str (pa_cons pe_str (pa_cons pe_int (pa_cons pe_int pa_nil))))) (pa_cons (pe_tup (pa_cons pe_str (pa_cons pe_str (pa_cons (pe_disp (pps_cons pe_int pe_int pps_nil) (by rfl) (by rfl) (fun z => by cases z) (by decide)) (pa_cons pe_int pa_nil))))) pa_nil)))))))
      (pss_one (ps_ret (pe_call GP hr rfl mP kP bP .nil pass0 (pa_cons (pv 0) (pa_cons (pv 2) pa_nil))))))))))))), ?_⟩
    obtain ⟨p, n, many, rfl, hp, hn, k⟩ := h
    have hs : Has (many : Int) [some (V.ref p), some (V.int (many : Nat)), none] := rfl
    refine seq_asg (lst_new (P := P) (w := w) (ers_cons (evr_p pu_c rok_non) (ers_cons (evr_p pu_c (rok_int _)) (ers_cons (evr_p pu_c (rok_str _)) (ers_cons evr_nil (ers_cons (evr_tup (evs_cons (evi_p pu_c gs_rest) evs_nil) (by decide)) (ers_cons (evr_tup (evs_cons (evi_p pu_c gs_rest) (evs_cons (evi_p pu_many (tho_int _)) evs_nil)) (by decide)) (ers_cons (evr_tup (evs_cons (evi_p pu_c gs_rest) (evs_cons (evi_p (pu_neg pu_c) (tho_int _)) evs_nil)) (by decide)) (ers_cons (evr_tup (evs_cons (evi_p pu_c gs_rest) (evs_cons (evi_p pu_c (tho_bl _)) evs_nil)) (by decide)) (ers_cons (evr_tup (evs_cons (evi_p pu_c gs_inside) (evs_cons (evi_p pu_c tho_non) evs_nil)) (by decide)) ers_nil))))))))) hs (by decide) fun l0 H0 s0 f0 h0 => ?_)
    have z0 := hp.same s0
    have S0 := s0
    refine seq_asg (cat_go (l := l0) (fun _ q => ⟨_, rfl, q⟩) (lst_new (P := P) (w := w) (ers_cons (evr_tup (evs_cons (evi_p pu_c gs_write) (evs_cons (evi_p pu_c gs_a) (evs_cons (evi_p pu_c (tho_int _)) evs_nil))) (by decide)) (ers_cons (evr_tup (evs_cons (evi_p pu_c gs_write) (evs_cons (evi_p pu_c gs_A) (evs_cons (evi_p pu_c (tho_int _)) (evs_cons (evi_p pu_c (tho_int _)) evs_nil)))) (by decide)) (ers_cons (evr_tup (evs_cons (evi_p pu_c gs_write) (evs_cons (evi_p pu_c gs_a) (evs_cons (evi_p (pu_neg pu_c) (tho_int _)) (evs_cons (evi_p pu_c (tho_int _)) evs_nil)))) (by decide)) (ers_cons (evr_tup (evs_cons (evi_p pu_c gs_write) (evs_cons (evi_p pu_c gs_a) (evs_cons (evi_p pu_c (tho_int _)) (evs_cons (evi_p pu_many (tho_int _)) evs_nil)))) (by decide)) (ers_cons evr_d0 (ers_cons (evr_p pu_c (rok_str _)) ers_nil)))))) rfl (by decide) fun m1 G1 t1 g1 y1 => ?_))
    refine cat_ok h0 y1 t1 (by decide) fun l1 H1 s1 f1 h1 => ?_
    have z1 := z0.same (same_tr t1 s1)
    have S1 := same_tr S0 (same_tr t1 s1)
    refine seq_asg (cat_go (l := l1) (fun _ q => ⟨_, rfl, q⟩) (lst_new (P := P) (w := w) (ers_cons (evr_tup (evs_cons (evi_p pu_c gs_write) (evs_cons (evi_p pu_c gs_a) (evs_cons (evi_p pu_c (tho_bl _)) (evs_cons (evi_p pu_c (tho_int _)) evs_nil)))) (by decide)) (ers_cons (evr_tup (evs_cons (evi_p pu_c gs_write) (evs_cons (evi_p pu_c tho_non) (evs_cons (evi_p pu_c (tho_int _)) (evs_cons (evi_p pu_c (tho_int _)) evs_nil)))) (by decide)) (ers_cons (evr_tup (evs_cons (evi_p pu_c gs_read) (evs_cons (evi_p pu_c gs_a) (evs_cons evi_l0 (evs_cons (evi_p pu_c (tho_int _)) evs_nil)))) (by decide)) (ers_cons (evr_tup (evs_cons (evi_p pu_c gs_read) (evs_cons (evi_p pu_c gs_a) (evs_cons (evi_d1 (k := (.inl _)) (o := (some _)) pu_c pu_many) (evs_cons (evi_p pu_c (tho_int _)) evs_nil)))) (by decide)) ers_nil)))) rfl (by decide) fun m2 G2 t2 g2 y2 => ?_))
    refine cat_ok h1 y2 t2 (by decide) fun l2 H2 s2 f2 h2 => ?_
    have z2 := z1.same (same_tr t2 s2)
    have S2 := same_tr S1 (same_tr t2 s2)
    refine seq_asg (cat_go (l := l2) (fun _ q => ⟨_, rfl, q⟩) (lst_new (P := P) (w := w) (ers_cons (evr_tup (evs_cons (evi_p pu_c gs_read) (evs_cons (evi_p pu_c gs_a) (evs_cons (evi_d1 (k := (.inl _)) (o := (some _)) (pu_neg pu_c) pu_c) (evs_cons (evi_p pu_c (tho_int _)) evs_nil)))) (by decide)) (ers_cons (evr_tup (evs_cons (evi_p pu_c gs_read) (evs_cons (evi_p pu_c gs_a) (evs_cons evi_db (evs_cons (evi_p pu_c (tho_int _)) evs_nil)))) (by decide)) (ers_cons (evr_tup (evs_cons (evi_p pu_c gs_read) (evs_cons (evi_p pu_c gs_a) (evs_cons (evi_d1 (k := (.inr _)) (o := (some _)) pu_c pu_c) (evs_cons (evi_p pu_c (tho_int _)) evs_nil)))) (by decide)) (ers_cons (evr_tup (evs_cons (evi_p pu_c gs_wait) (evs_cons (evi_p pu_c (tho_int _)) evs_nil)) (by decide)) ers_nil)))) rfl (by decide) fun m3 G3 t3 g3 y3 => ?_))
    refine cat_ok h2 y3 t3 (by decide) fun l3 H3 s3 f3 h3 => ?_
    have z3 := z2.same (same_tr t3 s3)
    have S3 := same_tr S2 (same_tr t3 s3)
    refine seq_asg (cat_go (l := l3) (fun _ q => ⟨_, rfl, q⟩) (lst_new (P := P) (w := w) (ers_cons (evr_tup (evs_cons (evi_p pu_c gs_read) (evs_cons (evi_p pu_c gs_a) (evs_cons evi_d0 (evs_cons (evi_p pu_many (tho_int _)) evs_nil)))) (by decide)) (ers_cons (evr_tup (evs_cons (evi_p pu_c gs_read) (evs_cons (evi_p pu_c gs_a) (evs_cons (evi_d1 (k := (.inl _)) (o := none) pu_c pu_c) (evs_cons (evi_p pu_c (tho_int _)) evs_nil)))) (by decide)) (ers_cons (evr_tup (evs_cons (evi_p pu_c gs_read) (evs_cons (evi_p pu_c gs_nothing) (evs_cons evi_d0 (evs_cons (evi_p pu_c (tho_int _)) evs_nil)))) (by decide)) (ers_cons (evr_tup (evs_cons (evi_p pu_c gs_rest) (evs_cons (evi_p pu_c (tho_int _)) (evs_cons (evi_p pu_c (tho_int _)) evs_nil))) (by decide)) (ers_cons (evr_tup (evs_cons (evi_p pu_c (tho_int _)) (evs_cons (evi_p pu_c (tho_int _)) evs_nil)) (by decide)) ers_nil))))) rfl (by decide) fun m4 G4 t4 g4 y4 => ?_))
    refine cat_ok h3 y4 t4 (by decide) fun l4 H4 s4 f4 h4 => ?_
    have z4 := z3.same (same_tr t4 s4)
    have S4 := same_tr S3 (same_tr t4 s4)
    refine seq_asg (cat_go (l := l4) (fun _ q => ⟨_, rfl, q⟩) (lst_new (P := P) (w := w) (ers_cons (evr_tup (evs_cons (evi_p pu_c gs_read) (evs_cons (evi_p pu_c gs_ninechars) (evs_cons evi_d0 (evs_cons (evi_p pu_c (tho_int _)) evs_nil)))) (by decide)) ers_nil) rfl (by decide) fun m5 G5 t5 g5 y5 => ?_))
    refine cat_ok h4 y5 t5 (by decide) fun l5 H5 s5 f5 h5 => ?_
    have z5 := z4.same (same_tr t5 s5)
    have S5 := same_tr S4 (same_tr t5 s5)
    refine seq_asg (cat_go (l := l5) (fun _ q => ⟨_, rfl, q⟩) (lst_new (P := P) (w := w) (ers_cons (evr_tup (evs_cons (evi_p pu_c gs_inside) (evs_cons (evi_p pu_c (tho_int _)) (evs_cons (evi_p pu_c (tho_int _)) evs_nil))) (by decide)) (ers_cons (evr_tup (evs_cons (evi_p pu_c gs_read) (evs_cons (evi_p pu_c gs_a) (evs_cons evi_d0 (evs_cons (evi_p pu_c (tho_int _)) (evs_cons (evi_p pu_c (tho_int _)) evs_nil))))) (by decide)) (ers_cons (evr_tup (evs_cons (evi_l1 pu_c) (evs_cons (evi_p pu_c (tho_int _)) evs_nil)) (by decide)) (ers_cons (evr_tup (evs_cons (evi_p pu_c gs_write) (evs_cons (evi_l1 pu_c) (evs_cons (evi_p pu_c (tho_int _)) (evs_cons (evi_p pu_c (tho_int _)) evs_nil)))) (by decide)) ers_nil)))) rfl (by decide) fun m6 G6 t6 g6 y6 => ?_))
    refine cat_ok h5 y6 t6 (by decide) fun l6 H6 s6 f6 h6 => ?_
    have z6 := z5.same (same_tr t6 s6)
    have S6 := same_tr S5 (same_tr t6 s6)
    obtain ⟨xs6, e6, n6, r6⟩ := h6
    refine seq_go ⟨_, rfl, .inl ⟨rfl, _, Or.inl (Or.inl e6)⟩, ((evr_tup (P := P) (w := w) (evs_cons (evi_p pu_c gs_read) (evs_cons (evi_p pu_c gs_a) (evs_cons (evi_p pu_c tho_non) (evs_cons (evi_p pu_c (tho_int _)) evs_nil)))) (by decide))) _ _ _ rfl fun y7 G7 t7 ry7 => ?_⟩
    have e67 := t7 _ _ e6
    refine ⟨l6, _, _, rfl, rfl, e67, small (by rw [n6]; decide), ?_⟩
    have hl6 : H l6 = none := (same_tr S5 t6).free f6
    have np6 : p ≠ l6 := hp.ne hl6
    have h7 : LOk P w (upd G7 l6 (.lst (xs6 ++ [y7]))) l6 (33 + 1) := ⟨_, upd_same, by rw [List.length_append, n6]; rfl, fun x hx => RowOk.grow (l := l6) (H := G7) Grow.at_ e67 (by rw [n6]; decide) (by
      rcases List.mem_append.mp hx with q | q
      · exact (r6 x q).mono t7
      · cases q with
        | head => exact ry7
        | tail _ q => cases q)⟩
    have z7 := (z6.same t7).put (o := .lst (xs6 ++ [y7])) np6
    have gr7 : Grow p H (upd G7 l6 (.lst (xs6 ++ [y7]))) := (Grow.of_same (same_tr S6 t7)).put hl6
    revert h7 z7 gr7
    generalize upd G7 l6 (.lst (xs6 ++ [y7])) = H7
    intro h7 z7 gr7
    dsimp only
    refine seq_asg (cat_go (l := l6) (fun _ q => ⟨_, rfl, q⟩) (lst_new (P := P) (w := w) (ers_cons (evr_tup (evs_cons (evi_p pu_c gs_rest) (evs_cons (evi_p (pu_sub pu_many pu_c) (tho_int _)) evs_nil)) (by decide)) (ers_cons (evr_tup (evs_cons (evi_p pu_c gs_inside) (evs_cons (evi_p pu_c (tho_int _)) evs_nil)) (by decide)) (ers_cons (evr_tup (evs_cons (evi_p pu_c gs_write) (evs_cons (evi_p pu_c gs_a) (evs_cons (evi_p pu_c (tho_int _)) (evs_cons (evi_p pu_c (tho_int _)) evs_nil)))) (by decide)) (ers_cons (evr_tup (evs_cons (evi_p pu_c gs_read) (evs_cons (evi_p pu_c gs_a) (evs_cons (evi_d1 (k := (.inl _)) (o := (some _)) pu_c pu_c) (evs_cons (evi_p pu_c (tho_int _)) evs_nil)))) (by decide)) ers_nil)))) rfl (by decide) fun m8 G8 t8 g8 y8 => ?_))
    refine cat_ok h7 y8 t8 (by decide) fun l8 H8 s8 f8 h8 => ?_
    have z8 := z7.same (same_tr t8 s8)
    obtain ⟨xs8, e8, n8, r8⟩ := h8
    have np8 : p ≠ l8 := (z7.same t8).ne f8
    have gr8 := gr7.trans (Grow.of_same (same_tr t8 s8))
    refine ⟨_, rfl, _, rfl, p, l8, n, xs8, rfl, z8, by omega, e8, by rw [n8]; decide, by rw [n8]; decide, np8, fun x H' hx g s => k x H' ?_ (gr8.trans g) s⟩
    obtain ⟨g_, s_, c_, e1, _⟩ := z8
    exact RowOk.grow g e1 (by show 2 ≤ 3; decide) (r8 x hx)
end
end CC
set_option Elab.async false
set_option maxRecDepth 100000
namespace CC
open PySem PySem.Spec PyProof.Rows L2
set_option linter.unusedVariables false
/-! ### the answers of both sides -/
def Ans (x : Arg) (z : Str) (i : Nat) : Prop := (z = "bad" ∧ WrongNum x i) ∨ (z = "told" ∧ ∃ ds, x = .rows ds ∧ NoWrong ds ∧ (2 ≤ ds.length ∧ ds.length ≤ 60) ∧ i = ds.length)
theorem first_one {ds : List RowD} {i j : Nat} (a : FirstWrong ds i) (b : FirstWrong ds j) : i = j := by
  obtain ⟨⟨d, h1, h2⟩, h3⟩ := a
  obtain ⟨⟨e, k1, k2⟩, k3⟩ := b
  rcases Nat.lt_trichotomy i j with q | q | q
  · rw [k3 i d q h1] at h2
    cases h2
  · exact q
  · rw [h3 j e q k1] at k2
    cases k2
theorem first_no {ds : List RowD} {i : Nat} (a : FirstWrong ds i) (n : NoWrong ds) : False := by
  obtain ⟨⟨d, h1, h2⟩, _⟩ := a
  rw [n i d h1] at h2
  cases h2
theorem wrong_one {x : Arg} {i j : Nat} (a : WrongNum x i) (b : WrongNum x j) : i = j := by
  cases x with
  | flat t => exact (show i = 0 from a).trans (show j = 0 from b).symm
  | rows ds =>
    rcases a with a | ⟨a1, a2, a3⟩ <;> rcases b with b | ⟨b1, b2, b3⟩
    · exact first_one a b
    · exact (first_no a b1).elim
    · exact (first_no b a1).elim
    · rw [a3, b3]
theorem wrong_no {ds : List RowD} {i : Nat} (a : WrongNum (.rows ds) i) (n : NoWrong ds) (l : 2 ≤ ds.length ∧ ds.length ≤ 60) : False := by
  rcases a with a | ⟨_, a2, _⟩
  · exact first_no a n
  · exact a2 l
theorem ans_one {x : Arg} {z z' : Str} {i j : Nat} (a : Ans x z i) (b : Ans x z' j) : z = z' ∧ i = j := by
  rcases a with ⟨rfl, a⟩ | ⟨rfl, ds, rfl, a1, a2, rfl⟩ <;> rcases b with ⟨rfl, b⟩ | ⟨rfl, es, e, b1, b2, rfl⟩
  · exact ⟨rfl, wrong_one a b⟩
  · subst e
    exact (wrong_no a b1 b2).elim
  · exact (wrong_no b a1 a2).elim
  · cases e
    exact ⟨rfl, rfl⟩
theorem ans_str {x : Arg} {z : Str} {i : Nat} (a : Ans x z i) : PyData.strOk z = true := by
  rcases a with ⟨rfl, _⟩ | ⟨rfl, _⟩ <;> decide +kernel
/-- what both may be asked about -/
structure Fit (P : Program) (w : World) (H : Hp) (x : Arg) (v : V) : Prop where
  at_ : ArgAt P w H x v
  ag : x.agrees
  len : ∀ ds, x = .rows ds → ds.length ≤ 1000
  few : ∀ ds, x = .rows ds → NoWrong ds → 2 ≤ ds.length ∧ ds.length ≤ 60 → ∀ rs rs' i, rs.map toD = ds → Paired RSim rs rs' → i < rs'.length → Few rs' i
theorem Fit.mono {P : Program} {w : World} {H H' : Hp} {x : Arg} {v : V} (h : Fit P w H x v) (s : Same H H') : Fit P w H' x v := ⟨h.at_.mono s, h.ag, h.len, h.few⟩
theorem tried_ans {P : Program} {w : World} {H : Hp} {x : Arg} {v : V} {Q : VK} {E : Value → Option Addr → Hp → Prop} (f : Fit P w H x v) (k : ∀ (t : Addr) (z : Str) (i : Nat) (H' : Hp), Same H H' → H' t = some (.tup [.str z, .int (i : Nat)]) → Ans x z i → Q (.ref t) H') : spTried P w [v] H Q E :=
  ⟨x, v, rfl, f.at_, f.len, f.few, fun i wn H' t s e => k t _ i H' s e (.inl ⟨rfl, wn⟩), fun ds ed nw n H' t s e => k t _ _ H' s e (.inr ⟨rfl, ds, ed, nw, n, rfl⟩)⟩
theorem due_ans {P : Program} {w : World} {H : Hp} {x : Arg} {v : V} {Q : VK} {E : Value → Option Addr → Hp → Prop} (f : Fit P w H x v) (k : ∀ (t : Addr) (z : Str) (i : Nat) (H' : Hp), Same H H' → H' t = some (.tup [.str z, .int (i : Nat)]) → Ans x z i → Q (.ref t) H') : spDue P w [v] H Q E :=
  ⟨x, v, rfl, f.at_, f.ag, fun i wn H' t s e => k t _ i H' s e (.inl ⟨rfl, wn⟩), fun ds ed nw n H' t s e => k t _ _ H' s e (.inr ⟨rfl, ds, ed, nw, n, rfl⟩)⟩
def tp2 (x : Str) (i : Int) : PyData := .tuple [.str x, .int i]
theorem tp2_shaped (x : Str) (i : Int) (hx : PyData.strOk x = true) : SeqAt.shaped (tp2 x i) = true := by
  have h2 : (tp2 x i).canLay0 = true := by simp [tp2, PyData.canLay0, PyData.canLayAll0, hx]
  have h3 : (tp2 x i).depth = 1 := by simp [tp2, PyData.depth, PyData.depthAll]
  show ((tp2 x i).canLay0 && decide ((tp2 x i).depth ≤ 64)) = true
  rw [h2, h3]
  decide
theorem tp2_eqv (x : Str) (i : Int) : PyData.eqv (tp2 x i) (tp2 x i) = true := by simp [tp2, PyData.eqv, PyData.eqvAll]
theorem dp_tp2 {K : PySem.W.Frag} {H : Hp} {t : Addr} {x : Str} {i : Int} (h : H t = some (.tup [.str x, .int i])) : Dp K H (.ref t) (tp2 x i) := .tup (SqT.of h) (.cons (.str _) (.cons (.int _) .nil))
/-! ### lists of things in the place of rows -/
theorem rows_pick {P : Program} {w : World} {H : Hp} : ∀ {xs : List V}, (∀ x ∈ xs, RowOk P w H x) → ∃ ds, Paired (fun x d => RowDAt P w H d x) xs ds ∧ ∀ d ∈ ds, d.fine
  | [], _ => ⟨[], .nil, (fun _ h => nomatch h)⟩
  | x :: xs, h => by
    obtain ⟨t, a, c⟩ := h x (List.mem_cons_self ..)
    obtain ⟨ts, p, r⟩ := rows_pick fun y hy => h y (List.mem_cons_of_mem _ hy)
    refine ⟨t :: ts, .cons a p, fun y hy => ?_⟩
    rcases List.mem_cons.mp hy with z | z
    · rw [z]; exact c
    · exact r y z
theorem fit_small {P : Program} {w : World} {H : Hp} {l : Addr} {k : Nat} (h : LOk P w H l k) (n : k ≤ 30) : ∃ x, Fit P w H x (.ref l) := by
  obtain ⟨xs, e1, e2, e3⟩ := h
  obtain ⟨ds, pr, fine⟩ := rows_pick e3
  have len := pr.length
  refine ⟨.rows ds, .inl ⟨l, xs, rfl, e1, pr, by omega⟩, fine, fun ds' e => by cases e; omega, fun ds' e nw n2 rs rs' i em ps hi => few_30 ?_⟩
  cases e
  have l1 := ps.length
  have l2 := congrArg List.length em
  rw [List.length_map] at l2
  omega
theorem row_tup {P : Program} {w : World} {H : Hp} {a : Addr} {xs : List V} (h : H a = some (.tup xs)) (o : ∀ x ∈ xs, ThOk P w H x) (n : xs.length ≤ 100) : RowOk P w H (.ref a) := by
  obtain ⟨ts, pr, sm, ag⟩ := th_pick o
  refine ⟨.tup ts, ⟨a, xs, rfl, h, pr, sm, by rw [← pr.length]; exact n⟩, fun ts' e => ?_⟩
  cases e
  exact ag
theorem all2 {α : Type} {p : α → Prop} {a b : α} (h1 : p a) (h2 : p b) : ∀ x ∈ [a, b], p x := fun x hx => by
  rcases List.mem_cons.mp hx with rfl | hx
  · exact h1
  · rcases List.mem_cons.mp hx with rfl | hx
    · exact h2
    · cases hx
theorem all4 {α : Type} {p : α → Prop} {a b c d : α} (h1 : p a) (h2 : p b) (h3 : p c) (h4 : p d) : ∀ x ∈ [a, b, c, d], p x := fun x hx => by
  rcases List.mem_cons.mp hx with rfl | hx
  · exact h1
  · rcases List.mem_cons.mp hx with rfl | hx
    · exact h2
    · exact all2 h3 h4 x hx
theorem tho_name {P : Program} {w : World} {z : Str} (h : OkName z) (H : Hp) : ThOk P w H (.str z) := by
  obtain ⟨a, b⟩ := names_ok h.1 h.2.1 h.2.2
  exact ⟨.str z, rfl, Nat.le_trans h.2.2 (by decide), by show lawNameS z = nameS z; rw [a, b]⟩
theorem row_ok {P : Program} {w : World} {H : Hp} {r : Row} {a : Addr} {n : Nat} {cells : List Str} (h : RowAt H r a) (o : r.ok n cells) (nm : ∀ c ∈ cells, OkName c) : RowOk P w H (.ref a) := by
  cases r with
  | rest m => exact row_tup h (all2 (gs_rest H) (tho_int _ H)) (by show 2 ≤ 100; decide)
  | ins m => exact row_tup h (all2 (gs_inside H) (tho_int _ H)) (by show 2 ≤ 100; decide)
  | wr c v m => exact row_tup h (all4 (gs_write H) (tho_name (nm c o.1) H) (tho_int _ H) (tho_int _ H)) (by show 4 ≤ 100; decide)
  | rd c cs m =>
    obtain ⟨d, h1, h2⟩ := h
    refine row_tup h1 (all4 (gs_read H) (tho_name (nm c o.1) H) ⟨.dic (cs.map fun kv => ((Sum.inl kv.1 : Key), some (kv.2 : Int))), ⟨d, rfl, ?_⟩, ⟨by rw [List.length_map]; exact o.2.2.2.2, ?_⟩, trivial⟩ (tho_int _ H)) (by show 4 ≤ 100; decide)
    · rw [List.map_map]
      exact h2
    · rw [List.map_map]
      have e0 : (cs.map (Prod.fst ∘ fun kv => ((Sum.inl kv.1 : Key), some (kv.2 : Int)))) = (cs.map (·.1)).map (fun i => (Sum.inl i : Key)) := by
        rw [List.map_map]
        rfl
      rw [e0]
      exact List.pairwise_map.mpr (o.2.1.imp fun {p q} ne e => ne (by cases e; rfl))
theorem lok_of {P : Program} {w : World} {H : Hp} {l : Addr} {rs : List Row} {cells : List Str} (h : RowsAt H rs l) (o : ∀ r ∈ rs, r.ok rs.length cells) (nm : ∀ c ∈ cells, OkName c) : LOk P w H l rs.length := by
  obtain ⟨as, h1, h2⟩ := h
  refine ⟨as.map V.ref, h1, by rw [List.length_map]; exact h2.length, fun x hx => ?_⟩
  obtain ⟨a, ha, rfl⟩ := List.mem_map.mp hx
  obtain ⟨j, hj⟩ := List.getElem?_of_mem ha
  obtain ⟨r, hr, hra⟩ := paired_at h2 hj
  exact row_ok hra (o r (List.mem_of_getElem? hr)) nm
/-! ### rest and inside rows alone -/
def flatR : Row → Prop
  | .rest _ => True
  | .ins _ => True
  | _ => False
theorem rest_ne_inside : ("rest" : Str) ≠ "inside" := by decide +kernel
theorem toD_flat {r r' : Row} (h : toD r' = toD r) (f : flatR r) : r' = r := by
  cases r with
  | wr c v m => exact f.elim
  | rd c cs m => exact f.elim
  | rest m =>
    cases r' with
    | rest m' =>
      have e : m' = m := by
        unfold toD at h
        simp only [RowD.tup.injEq, List.cons.injEq, Th.int.injEq, and_true, true_and] at h
        omega
      rw [e]
    | ins m' =>
      unfold toD at h
      simp only [RowD.tup.injEq, List.cons.injEq, Th.str.injEq] at h
      exact absurd h.1.symm rest_ne_inside
    | wr c v m' =>
      unfold toD at h
      simp at h
    | rd c cs m' =>
      unfold toD at h
      simp at h
  | ins m =>
    cases r' with
    | ins m' =>
      have e : m' = m := by
        unfold toD at h
        simp only [RowD.tup.injEq, List.cons.injEq, Th.int.injEq, and_true, true_and] at h
        omega
      rw [e]
    | rest m' =>
      unfold toD at h
      simp only [RowD.tup.injEq, List.cons.injEq, Th.str.injEq] at h
      exact absurd h.1 rest_ne_inside
    | wr c v m' =>
      unfold toD at h
      simp at h
    | rd c cs m' =>
      unfold toD at h
      simp at h
theorem map_flat : ∀ {rs rs' : List Row}, rs'.map toD = rs.map toD → (∀ r ∈ rs, flatR r) → rs' = rs
  | [], [], _, _ => rfl
  | [], _ :: _, h, _ => by simp at h
  | _ :: _, [], h, _ => by simp at h
  | r :: rs, r' :: rs', h, f => by
    rw [List.map_cons, List.map_cons] at h
    injection h with h1 h2
    rw [toD_flat h1 (f r (List.mem_cons_self ..)), map_flat h2 fun x hx => f x (List.mem_cons_of_mem _ hx)]
theorem rsim_flat : ∀ {rs rs' : List Row}, Paired RSim rs rs' → (∀ r ∈ rs, flatR r) → rs' = rs
  | _, _, .nil, _ => rfl
  | r :: rs, r' :: rs', .cons h t, f => by
    rw [rsim_flat t fun x hx => f x (List.mem_cons_of_mem _ hx)]
    have fr := f r (List.mem_cons_self ..)
    cases r with
    | wr c v m => exact fr.elim
    | rd c cs m => exact fr.elim
    | rest m =>
      cases r' <;> try exact h.elim
      have e : _ = _ := h
      rw [e]
    | ins m =>
      cases r' <;> try exact h.elim
      have e : _ = _ := h
      rw [e]
theorem few_low {rs : List Row} {i : Nat} (h : ∀ r ∈ rs, ∀ q ∈ r.fol, q ≤ 1) : Few rs i := fun M nd k => few_places nd fun p hp => by
  refine ⟨?_, (k p hp).2.1⟩
  have key : ∀ p, Rch rs (ini rs i) p → p.1 ≤ 1 := fun p r => by
    induction r with
    | @base p hp =>
      unfold ini at hp
      cases e : rs[i]? with
      | none =>
        rw [e] at hp
        cases hp
      | some r =>
        rw [e] at hp
        obtain ⟨q, hq, rfl⟩ := List.mem_map.mp hp
        exact h r (List.mem_of_getElem? e) q hq
    | @step p q qs _ e hq _ =>
      unfold nxt at e
      cases er : rs[p.1]? with
      | none =>
        rw [er] at e
        cases e
      | some r =>
        rw [er] at e
        have hr := h r (List.mem_of_getElem? er)
        cases r with
        | rest m =>
          dsimp only at e
          split at e
          · cases e
          · cases e
            cases hq
        | ins m =>
          dsimp only at e
          split at e
          · cases e
          · cases e
            cases hq with
            | head => exact hr m (List.mem_cons_self ..)
            | tail _ z => cases z
        | wr c v m =>
          dsimp only at e
          cases e
          cases hq with
          | head => exact hr m (List.mem_cons_self ..)
          | tail _ z => cases z
        | rd c cs m =>
          dsimp only at e
          cases e
          obtain ⟨z, hz, rfl⟩ := List.mem_map.mp hq
          exact hr z hz
  have := key p (k p hp).2.2
  omega
theorem flat_d {P : Program} {w : World} {H : Hp} {r : Row} {a : Addr} (h : RowAt H r a) (f : flatR r) : RowDAt P w H (toD r) (.ref a) ∧ (toD r).fine := by
  have s1 : ∀ z, OkName z → ∀ m : Int, (∀ t ∈ [Th.str z, Th.int m], t.small) ∧ ∀ t ∈ [Th.str z, Th.int m], t.agrees := fun z o m => by
    obtain ⟨a, b⟩ := names_ok o.1 o.2.1 o.2.2
    exact ⟨all2 (Nat.le_trans o.2.2 (by decide)) trivial, all2 (by show lawNameS z = nameS z; rw [a, b]) trivial⟩
  cases r with
  | wr c v m => exact f.elim
  | rd c cs m => exact f.elim
  | rest m =>
    obtain ⟨x, y⟩ := s1 "rest" (ok_word (by simp)) m
    exact ⟨⟨a, _, rfl, h, .cons rfl (.cons rfl .nil), x, by show 2 ≤ 100; decide⟩, fun ts e => by cases e; exact y⟩
  | ins m =>
    obtain ⟨x, y⟩ := s1 "inside" (ok_word (by simp)) m
    exact ⟨⟨a, _, rfl, h, .cons rfl (.cons rfl .nil), x, by show 2 ≤ 100; decide⟩, fun ts e => by cases e; exact y⟩
theorem flats_d {P : Program} {w : World} {H : Hp} : ∀ {as : List Addr} {rs : List Row}, Paired (fun a r => RowAt H r a) as rs → (∀ r ∈ rs, flatR r) → Paired (fun v d => RowDAt P w H d v) (as.map V.ref) (rs.map toD) ∧ ∀ d ∈ rs.map toD, d.fine
  | _, _, .nil, _ => ⟨.nil, (fun _ h => nomatch h)⟩
  | _, r :: rs, .cons h t, f => by
    obtain ⟨a, b⟩ := flat_d (P := P) (w := w) h (f r (List.mem_cons_self ..))
    obtain ⟨c, d⟩ := flats_d (P := P) (w := w) t fun x hx => f x (List.mem_cons_of_mem _ hx)
    refine ⟨.cons a c, fun y hy => ?_⟩
    rw [List.map_cons] at hy
    rcases List.mem_cons.mp hy with z | z
    · rw [z]; exact b
    · exact d y z
theorem fit_flat {P : Program} {w : World} {H : Hp} {l : Addr} {rs : List Row} (h : RowsAt H rs l) (f : ∀ r ∈ rs, flatR r) (n : rs.length ≤ 100) (few : NoWrong (rs.map toD) → ∀ i, Few rs i) : Fit P w H (.rows (rs.map toD)) (.ref l) := by
  obtain ⟨as, h1, h2⟩ := h
  obtain ⟨a, b⟩ := flats_d (P := P) (w := w) h2 f
  have len : (rs.map toD).length = rs.length := List.length_map ..
  refine ⟨.inl ⟨l, _, rfl, h1, a, by omega⟩, b, fun ds e => by cases e; omega, fun ds e nw n2 rs0 rs' i em ps hi => ?_⟩
  cases e
  have e1 := map_flat em f
  subst e1
  have e2 := rsim_flat ps f
  subst e2
  exact few nw i
/-- an inside row that leads nowhere is wrong -/
theorem out_wrong {rs : List Row} {i : Nat} (e : rs[i]? = some (Row.ins rs.length)) (nw : NoWrong (rs.map toD)) : False := by
  have h := nw i (toD (.ins rs.length)) (by rw [List.getElem?_map, e]; rfl)
  rw [List.length_map] at h
  have h2 : ((isRI "inside" && (decide (((rs.length : Nat) : Int) ≥ 0) && decide (((rs.length : Nat) : Int) < ((rs.length : Nat) : Int)))) && (decide (i ≠ 0) || false)) = true := h
  rw [decide_eq_false (Int.lt_irrefl _)] at h2
  simp at h2
theorem paired_rep {α β : Type} {F : α → β → Prop} {a : α} {b : β} (h : F a b) : ∀ k : Nat, Paired F (List.replicate k a) (List.replicate k b)
  | 0 => .nil
  | k + 1 => .cons h (paired_rep h k)
theorem rep_flat {a : Addr} : ∀ k : Nat, (List.replicate k [V.ref a]).flatten = (List.replicate k a).map V.ref
  | 0 => rfl
  | k + 1 => by
    rw [List.replicate_succ, List.flatten_cons, rep_flat k]
    rfl
theorem paired_set {α β : Type} {F : α → β → Prop} {a : α} {b : β} : ∀ {l : List α} {m : List β} (i : Nat), Paired F l m → F a b → Paired F (l.set i a) (m.set i b)
  | _, _, _, .nil, _ => .nil
  | _, _, 0, .cons _ r, e => .cons e r
  | _, _, i + 1, .cons h r, e => .cons h (paired_set i r e)
/-! ### the last question -/
def AOk (P : Program) (w : World) (H : Hp) (v : V) : Prop := (∃ t : Th, t.isSeq = false ∧ ThAt P w H t v) ∨ ∃ a, v = .ref a ∧ (H a = some (.lst []) ∨ H a = some (.tup []))
theorem AOk.mono {P : Program} {w : World} {H H' : Hp} {v : V} (h : AOk P w H v) (s : Same H H') : AOk P w H' v := by
  rcases h with ⟨t, a, b⟩ | ⟨a, e, x⟩
  · exact .inl ⟨t, a, b.mono s⟩
  · exact .inr ⟨a, e, x.elim (fun z => .inl (s _ _ z)) fun z => .inr (s _ _ z)⟩
theorem AOk.grow {P : Program} {w : World} {H H' : Hp} {l : Addr} {ys : List V} {v : V} (g : Grow l H H') (hl : H l = some (.lst ys)) (h2 : 2 ≤ ys.length) (h : AOk P w H v) : AOk P w H' v := by
  rcases h with ⟨t, a, b⟩ | ⟨a, e, x⟩
  · obtain ⟨_, c⟩ := RowDAt.grow (d := .flat t) ⟨a, b⟩ g hl h2
    exact .inl ⟨t, a, c⟩
  · refine .inr ⟨a, e, x.elim (fun z => .inl (g _ _ z fun q => ?_)) fun z => .inr (g _ _ z fun q => ?_)⟩
    · rw [q, hl] at z
      cases z
      exact absurd h2 (by decide)
    · rw [q, hl] at z
      cases z
theorem AOk.fit {P : Program} {w : World} {H : Hp} {v : V} (h : AOk P w H v) : ∃ x, Fit P w H x v := by
  rcases h with ⟨t, a, b⟩ | ⟨a, e, x⟩
  · exact ⟨.flat t, ⟨a, b⟩, trivial, (fun _ e => by cases e), fun _ e => by cases e⟩
  · refine ⟨.rows [], x.elim (fun z => .inl ⟨a, [], e, z, .nil, Nat.zero_le _⟩) fun z => .inr ⟨a, e, z, rfl⟩, (fun _ h => nomatch h), fun ds e => by cases e; exact Nat.zero_le _, fun ds e nw n2 => ?_⟩
    cases e
    exact absurd n2.1 (by decide)
def EvAs (P : Program) (w : World) (k : Nat) (te : TA) : Prop := ∀ (σ : L2.St) (H : Hp) (Q : List V → Hp → Prop), (∀ xs H', Same H H' → (∀ x ∈ xs, AOk P w H' x) → xs.length = k → Q xs H') → te σ H Q
def EvA (P : Program) (w : World) (te : TE) : Prop := ∀ (σ : L2.St) (H : Hp) (Q : VK), (∀ v H', Same H H' → AOk P w H' v → Q v H') → te σ H Q
section
variable {P : Program} {w : World}
theorem eva_c {v : V} (k : ∀ H, AOk P w H v) : EvA P w (tC v) := fun σ H Q q => q v H Same.rfl' (k H)
theorem eva_d0 : EvA P w tDNewK := fun σ H Q q d hd => q _ _ (same_new hd) (.inl ⟨.dany, rfl, d, [], rfl, upd_same⟩)
theorem eva_l0 : EvA P w (tLst tNil) := fun σ H Q q => ⟨Nat.zero_le _, fun p hp => q _ _ (same_new hp) (.inr ⟨p, rfl, .inl upd_same⟩)⟩
theorem eva_t0 : EvA P w (tTup tNil) := fun σ H Q q => ⟨Nat.zero_le _, fun p hp => q _ _ (same_new hp) (.inr ⟨p, rfl, .inr upd_same⟩)⟩
theorem eva_d1 {i : Int} {x y : V} : EvA P w (tDisp [(tC (.int i), tTup (tCons (tC x) (tCons (tC y) tNil)))]) := fun σ H Q q d hd => by
  refine ⟨(by show 2 ≤ sizeLine; decide), fun t ht => ?_⟩
  have ntd : d ≠ t := fun z => by
    rw [← z, upd_same] at ht
    cases ht
  refine ⟨by rw [upd_ne ntd, upd_same], [(.inl i, .ref t)], rfl, (by show 1 ≤ 15; decide), ?_⟩
  have hH : H t = none := by
    rw [upd_ne ntd.symm] at ht
    exact ht
  refine q _ _ (fun b o e => ?_) (.inl ⟨.dany, rfl, d, _, rfl, upd_same⟩)
  have n1 : b ≠ d := ne_of_none e hd
  have n2 : b ≠ t := ne_of_none e hH
  rw [upd_ne n1, upd_ne n2, upd_ne n1]
  exact e
theorem eas_nil : EvAs P w 0 tNil := fun σ H Q q => q [] H Same.rfl' (fun _ h => nomatch h) rfl
theorem eas_cons {te : TE} {tr : TA} {k : Nat} (h : EvA P w te) (r : EvAs P w k tr) : EvAs P w (k + 1) (tCons te tr) := fun σ H Q q => h σ H _ fun v H1 s1 o1 => r σ H1 _ fun xs H2 s2 o2 e2 => q (v :: xs) H2 (same_tr s1 s2) (fun x hx => by
  rcases List.mem_cons.mp hx with z | z
  · rw [z]
    exact o1.mono s2
  · exact o2 x z) (by rw [List.length_cons, e2])
theorem aok_non (H : Hp) : AOk P w H .non := .inl ⟨.non, rfl, rfl⟩
theorem aok_int (i : Int) (H : Hp) : AOk P w H (.int i) := .inl ⟨.int i, rfl, rfl⟩
theorem aok_str (z : Str) (H : Hp) : AOk P w H (.str z) := .inl ⟨.str z, rfl, rfl⟩
theorem aok_bl (b : Bool) (H : Hp) : AOk P w H (.bl b) := .inl ⟨.bl b, rfl, rfl⟩
end
/-! ### slices -/
theorem cut_lo (xs : List V) (m : Nat) : cutV xs none (some (m : Int)) = xs.take m := by
  unfold cutV HT.sIx
  have : ¬ ((m : Int) < 0) := by omega
  simp only [this, if_false, List.drop_zero, Nat.sub_zero, Int.toNat_natCast]
  by_cases h : m ≤ xs.length
  · rw [Nat.min_eq_left h]
  · rw [Nat.min_eq_right (by omega), List.take_of_length_le (Nat.le_refl _), List.take_of_length_le (by omega)]
theorem cut_hi (xs : List V) (m : Nat) : cutV xs (some ((m : Int) + 1)) none = xs.drop (m + 1) := by
  unfold cutV HT.sIx
  have : ¬ ((m : Int) + 1 < 0) := by omega
  have e : ((m : Int) + 1).toNat = m + 1 := by omega
  simp only [this, if_false, e]
  by_cases h : m + 1 ≤ xs.length
  · rw [Nat.min_eq_left h, List.take_of_length_le (by rw [List.length_drop]; exact Nat.le_refl _)]
  · rw [Nat.min_eq_right (by omega), List.drop_of_length_le (Nat.le_refl _), List.drop_of_length_le (show xs.length ≤ m + 1 by omega)]
    simp
/-! ### texts of names -/
theorem strok_name {z : Str} (h : OkName z) : PyData.strOk z = true := by
  unfold PyData.strOk
  rw [Array.all_eq_true_iff_forall_mem]
  intro c hc
  have := h.1 c (Array.mem_toList_iff.mpr hc)
  exact decide_eq_true (by omega)
theorem strs_lay : ∀ {zs : List Str}, (∀ z ∈ zs, OkName z) → PyData.canLayAll0 (zs.map PyData.str) = true ∧ PyData.depthAll (zs.map PyData.str) ≤ 0
  | [], _ => ⟨by simp [PyData.canLayAll0], by simp [PyData.depthAll]⟩
  | z :: zs, h => by
    obtain ⟨h1, h2⟩ := strs_lay fun x hx => h x (List.mem_cons_of_mem _ hx)
    refine ⟨by simp only [List.map_cons, PyData.canLayAll0, PyData.canLay0, h1, strok_name (h z (List.mem_cons_self ..)), Bool.and_self], ?_⟩
    simp only [List.map_cons, PyData.depthAll, PyData.depth]
    omega
theorem strs_shaped {zs : List Str} (h : ∀ z ∈ zs, OkName z) : SeqAt.shaped (.list (zs.map PyData.str)) = true := by
  obtain ⟨h1, h2⟩ := strs_lay h
  have h3 : PyData.depth (.list (zs.map PyData.str)) ≤ 64 := by
    simp only [PyData.depth]
    omega
  show (PyData.canLay0 (.list (zs.map PyData.str)) && decide (PyData.depth (.list (zs.map PyData.str)) ≤ 64)) = true
  rw [Bool.and_eq_true]
  exact ⟨by simp only [PyData.canLay0]; exact h1, decide_eq_true h3⟩
end CC
set_option Elab.async false
set_option maxRecDepth 100000
namespace CC
open PySem PySem.Spec PyProof.Rows L2
set_option linter.unusedVariables false
/-! ### the law -/
abbrev sLaw : Stmt := top 39
def spLaw (K : PySem.W.Frag) : Sp := fun vs H Q _ => ∃ (a : Addr) (ns : List Int), vs = [.ref a] ∧ SqL K H a (ns.map V.int) ∧ ∀ H' : Hp, Q (.bl true) H'
abbrev NL : List Str := ["_law_script", "_law_source_here", "_law_cells", "_law_turn", "_law_rows_here", "_law_k", "_law_at", "_law_odd_here"]
theorem scLaw : FnScope NL ["_law_script"] (defScope sLaw) := ⟨rfl, rfl, rfl, by decide +kernel, rfl, by decide +kernel, by decide +kernel⟩
theorem lstA_new {P : Program} {w : World} {k : Nat} {tes : TA} {σ : L2.St} {H : Hp} {Q : VK} (e : EvAs P w k tes) (hk : k ≤ sizeLine) (q : ∀ l xs H', Same H H' → H l = none → H' l = some (.lst xs) → xs.length = k → (∀ x ∈ xs, AOk P w H' x) → Q (.ref l) H') : tLst tes σ H Q :=
  e σ H _ fun xs H1 s1 hx hl => ⟨by rw [hl]; exact hk, fun p hp => q p xs _ (same_tr s1 (same_new hp)) (s1.free hp) upd_same hl fun x h => (hx x h).mono (same_new hp)⟩
theorem Grow.same_tr {p : Addr} {H H1 H2 : Hp} (g : Grow p H H1) (s : Same H1 H2) : Grow p H H2 := g.trans (Grow.of_same s)
section
variable {P : Program} {w : World} {K : PySem.W.Frag} {mg : Str → Option Value} {base : Heap}
set_option maxHeartbeats 2000000 in
theorem ok_law {f fS fD fP fN fT fY fU fO : Addr} {fd fdS fdD fdP fdN fdT fdY fdU fdO : FuncData} (F : Fun K "law" "law" sLaw f fd)
    (GS : FnOk P w K mg base CX0 1 fS fdS ["_law_script"] (spSource K)) (mS : mg "_law_source" = some (.ref fS)) (kS : PySem.W.keepIn K (.ref fS) = true) (bS : L2.Binds K fdS ["_law_script"] [])
    (GD : FnOk P w K mg base CX0 1 fD fdD ["_law_source_here", "_law_many"] spDraw) (mD : mg "_law_draw" = some (.ref fD)) (kD : PySem.W.keepIn K (.ref fD) = true) (bD : L2.Binds K fdD ["_law_source_here", "_law_many"] [])
    (GP : FnOk P w K mg base CX0 2 fP fdP ["_law_source_here", "_law_things"] (spPick K)) (mP : mg "_law_pick" = some (.ref fP)) (kP : PySem.W.keepIn K (.ref fP) = true) (bP : L2.Binds K fdP ["_law_source_here", "_law_things"] [])
    (GN : FnOk P w K mg base CX0 3 fN fdN ["_law_source_here", "_law_many"] spNames) (mN : mg "_law_names" = some (.ref fN)) (kN : PySem.W.keepIn K (.ref fN) = true) (bN : L2.Binds K fdN ["_law_source_here", "_law_many"] [])
    (GT : FnOk P w K mg base CX0 5 fT fdT ["_law_source_here", "_law_threads_here", "_law_cells", "_law_most"] spThreads) (mT : mg "_law_threads" = some (.ref fT)) (kT : PySem.W.keepIn K (.ref fT) = true) (bT : L2.Binds K fdT ["_law_source_here", "_law_threads_here", "_law_cells", "_law_most"] [])
    (GY : FnOk P w K mg base CX0 8 fY fdY ["_law_rows_here"] (spTried P w)) (mY : mg "_law_tried" = some (.ref fY)) (kY : PySem.W.keepIn K (.ref fY) = true) (bY : L2.Binds K fdY ["_law_rows_here"] [])
    (GU : FnOk P w K mg base CX0 3 fU fdU ["_law_rows_here"] (spDue P w)) (mU : mg "_law_due" = some (.ref fU)) (kU : PySem.W.keepIn K (.ref fU) = true) (bU : L2.Binds K fdU ["_law_rows_here"] [])
    (GO : FnOk P w K mg base CX0 3 fO fdO ["_law_source_here", "_law_many"] (spOdd P w)) (mO : mg "_law_odd" = some (.ref fO)) (kO : PySem.W.keepIn K (.ref fO) = true) (bO : L2.Binds K fdO ["_law_source_here", "_law_many"] [])
    (tr : mg "range" = none) (tl : mg "len" = none) :
    FnOk P w K mg base CX0 9 f fd ["_law_script"] (spLaw K) := by
  refine F.ok scLaw (fun vs H Q E h => ?_) (fun cdv A outer s H vs Q E hr h => ?_)
  · obtain ⟨a, ns, rfl, _⟩ := h
    rfl
  · obtain ⟨a, ns, rfl, ha, k⟩ := h
    have hr1 : Room 1 _ := hr.mono (by decide)
    have hr2 : Room 2 _ := hr.mono (by decide)
    have hr3 : Room 3 _ := hr.mono (by decide)
    have hr5 : Room 5 _ := hr.mono (by decide)
    refine ⟨_, (pss_cons (ps_set (i := 1) scLaw.nd rfl (Or.inl rfl) (pe_call GS hr1 rfl mS kS bS .nil pass0 (pa_cons (pv 0) pa_nil)))
      (pss_cons (ps_set (i := 2) scLaw.nd rfl (Or.inl rfl) (pe_call GN hr3 rfl mN kN bN .nil pass0 (pa_cons (pv 1) (pa_cons (pe_op op_add pe_int (pe_call GD hr1 rfl mD kD bD .nil pass0 (pa_cons (pv 1) (pa_cons pe_int pa_nil)))) pa_nil))))
      (pss_cons (ps_for PassesOwn.never rfl (pi_range1 rfl tr (pa_cons pe_int pa_nil)) (pg_name (i := 3) scLaw.nd rfl (Or.inl rfl)) (pss_cons (ps_set (i := 4) scLaw.nd rfl (Or.inl rfl) (pe_ix ix_list (pe_call GT hr5 rfl mT kT bT .nil pass0 (pa_cons (pv 1) (pa_cons pe_int (pa_cons (pv 2) (pa_cons pe_int pa_nil))))) pe_int (fun _ _ => rfl)))
      (pss_cons (ps_for PassesOwn.never rfl (pi_range1 rfl tr (pa_cons (pe_call GD hr1 rfl mD kD bD .nil pass0 (pa_cons (pv 1) (pa_cons pe_int pa_nil))) pa_nil)) (pg_name (i := 5) scLaw.nd rfl (Or.inl rfl)) (pss_cons (ps_set (i := 6) scLaw.nd rfl (Or.inl rfl) (pe_call GD hr1 rfl mD kD bD .nil pass0 (pa_cons (pv 1) (pa_cons (pe_callB call_len_seq (by rfl) tl (by decide +kernel) (pa_cons (pv 4) pa_nil)) pa_nil))))
      (pss_one (ps_set (i := 4) scLaw.nd rfl (Or.inl rfl) (pe_op op_cat (pe_op op_cat (pe_slice sl_list (pv 4) po_none (po_some (pv 6))) (pe_lst (pa_cons (pe_call GO hr3 rfl mO kO bO .nil pass0 (pa_cons (pv 1) (pa_cons (pe_callB call_len_seq (by rfl) tl (by decide +kernel) (pa_cons (pv 4) pa_nil)) pa_nil))) pa_nil))) (pe_slice sl_list (pv 4) (po_some (pe_op op_add (pv 6) pe_int)) po_none))))))
      (pss_one (ps_if (pt_cmpR (op_neD hr.units) (pe_call GY hr rfl mY kY bY .nil pass0 (pa_cons (pv 4) pa_nil)) (pe_call GU hr3 rfl mU kU bU .nil pass0 (pa_cons (pv 4) pa_nil)) (nomark _)) (pss_one (ps_ret pe_bl)) pss_nil)))))
      (pss_cons (ps_set (i := 4) scLaw.nd rfl (Or.inl rfl) (pe_op op_cat (pe_lst (pa_cons (pe_tup (pa_cons pe_str (pa_cons pe_int pa_nil))) pa_nil)) (pe_op op_rep (pe_lst (pa_cons (pe_tup (pa_cons pe_str (pa_cons pe_int pa_nil))) pa_nil)) (pe_call GP hr2 rfl mP kP bP .nil pass0 (pa_cons (pv 1) (pa_cons (pe_lst (pa_cons pe_int (pa_cons pe_int (pa_cons pe_int (pa_cons pe_int (pa_cons pe_int (pa_cons pe_int pa_nil))))))) pa_nil))))))
      (pss_cons (ps_if (pt_cmpR op_eq (pe_callB call_len_seq (by rfl) tl (by decide +kernel) (pa_cons (pv 4) pa_nil)) pe_int (nomark _)) (pss_one (ps_set (i := 4) scLaw.nd rfl (Or.inl rfl) (pe_lst (pa_cons (pe_call GP hr2 rfl mP kP bP .nil pass0 (pa_cons (pv 1) (pa_cons (pe_lst (pa_cons (pe_tup (pa_cons pe_str (pa_cons pe_int pa_nil))) (pa_cons (pe_tup (pa_cons pe_str (pa_cons pe_int pa_nil))) (pa_cons (pe_tup (pa_cons pe_str (pa_cons pe_int pa_nil))) pa_nil)))) pa_nil))) pa_nil)))) pss_nil)
      (pss_cons (ps_set (i := 6) scLaw.nd rfl (Or.inl rfl) (pe_call GD hr1 rfl mD kD bD .nil pass0 (pa_cons (pv 1) (pa_cons (pe_op op_mul pe_int (pe_callB call_len_seq (by rfl) tl (by decide +kernel) (pa_cons (pv 4) pa_nil))) pa_nil))))
      (pss_cons (ps_if (pt_chain op_lt op_lt pe_int (pv 6) (pe_callB call_len_seq (by rfl) tl (by decide +kernel) (pa_cons (pv 4) pa_nil))) (pss_one (ps_asg (pe_tup (pa_cons pe_str (pa_cons (pe_callB call_len_seq (by rfl) tl (by decide +kernel) (pa_cons (pv 4) pa_nil)) pa_nil))) (pg_sub (pv 4) (pv 6) set_list))) pss_nil)
      (pss_cons (ps_if (pt_cmpR (op_neD hr.units) (pe_call GY hr rfl mY kY bY .nil pass0 (pa_cons (pv 4) pa_nil)) (pe_call GU hr3 rfl mU kU bU .nil pass0 (pa_cons (pv 4) pa_nil)) (nomark _)) (pss_one (ps_ret pe_bl)) pss_nil)
      (pss_cons (ps_set (i := 7) scLaw.nd rfl (Or.inl rfl) (pe_call GP hr2 rfl mP kP bP .nil pass0 (pa_cons (pv 1) (pa_cons (pe_lst (pa_cons pe_non (pa_cons pe_int (pa_cons pe_str (pa_cons pe_dnewK (pa_cons (pe_lst pa_nil) (pa_cons (pe_tup pa_nil) (pa_cons pe_bl (pa_cons (pe_disp (pps_cons pe_int (pe_tup (pa_cons pe_str (pa_cons pe_int pa_nil))) pps_nil) (by rfl) (by rfl) (fun z => by cases z) (by decide)) pa_nil))))))))) pa_nil))))
      (pss_one (ps_ret (pe_cmpR (op_eqD hr.units) (pe_call GY hr rfl mY kY bY .nil pass0 (pa_cons (pv 7) pa_nil)) (pe_call GU hr3 rfl mU kU bU .nil pass0 (pa_cons (pv 7) pa_nil)) (nomark _))))))))))))), ?_⟩
    refine ⟨_, rfl, a, ns, rfl, ha, fun p H1 s1 hp0 hp => ?_⟩
    refine ⟨_, rfl, _, rfl, p, 0, 2, rfl, hp, by decide, by decide, by decide, fun r H2 r0 r1 g2 s2 => ?_⟩
    obtain ⟨x0, rfl⟩ : ∃ x : Nat, r = (x : Int) := ⟨r.toNat, by omega⟩
    refine ⟨_, _, rfl, rfl, p, 1, 1 + x0, congrArg (fun z => [V.ref p, V.int z]) (by omega), s2, by decide, by omega, fun cl zs H3 zl zo hcl0 hcl npc g3 s3 => ?_⟩
    refine ⟨4, rfl, by decide, by decide, for_range (n := 4) (fun i σ H2 => ∃ (v3 v4 v5 v6 : Option V), σ = [some (.ref a), some (.ref p), some (.ref cl), v3, v4, v5, v6, none] ∧ Src p (1000 + 3000 * i) H2 ∧ H2 cl = some (.lst (zs.map V.str))) ⟨none, none, none, none, rfl, s3.le (by decide), hcl⟩ ?_ ?_⟩
    · rintro i σ H4 hi ⟨v3, v4, v5, v6, rfl, s4, hcl4⟩
      refine ⟨_, rfl, _, rfl, p, cl, 1000 + 3000 * i, 1, 5, zs, rfl, s4, by omega, hcl4, npc, by omega, by omega, strs_shaped zo, by decide, fun q ls rss H5 g5 hq hl5 pr5 len5 s5 => ?_⟩
      have hcl5 := g5 _ _ hcl4 npc.symm
      cases pr5 with
      | nil => cases len5
      | cons h5 t5 =>
        cases t5 with
        | cons _ _ => cases len5
        | nil =>
          rename_i l rs
          obtain ⟨hr5a, thr, hl0⟩ := h5
          have good5 := thr.good (by decide)
          have n30 : rs.length ≤ 30 := by
            obtain ⟨ahead, behind, ts, h1, h2, h3, h4⟩ := thr
            have := h3.len
            rcases h4 with rfl | rfl
            · omega
            · rw [doubled_len]
              omega
          have npl : p ≠ l := s4.ne hl0
          have lk5 : LOk P w H5 l rs.length := lok_of hr5a good5.1 zo
          have n2 := good5.2.2.1
          refine ⟨q, _, _, V.ref l, rfl, rfl, SqL.of hl5, (show atI [V.ref l] 0 = some (V.ref l) from rfl), ?_⟩
          refine ⟨_, rfl, p, 1000 + 3000 * i + 2000 * 1, 4, rfl, s5, by omega, by decide, by decide, fun r6 H6 c0 c1 g6 s6 => ?_⟩
          obtain ⟨x6, rfl⟩ : ∃ x : Nat, r6 = (x : Int) := ⟨r6.toNat, by omega⟩
          have src5 := s5
          obtain ⟨g_, z_, c_, e5, _⟩ := src5
          have lk6 : LOk P w H6 l rs.length := by
            obtain ⟨xs, e1, e2, e3⟩ := lk5
            exact ⟨xs, g6 _ _ e1 npl.symm, e2, fun x hx => RowOk.grow g6 e5 (by show 2 ≤ 3; decide) (e3 x hx)⟩
          refine ⟨(x6 : Int), rfl, by omega, by omega, for_range (n := x6) (fun j σ H2 => ∃ (l : Addr) (v3 v5 v6 : Option V), σ = [some (.ref a), some (.ref p), some (.ref cl), v3, some (.ref l), v5, v6, none] ∧ LOk P w H2 l rs.length ∧ p ≠ l ∧ Src p (1000 + 3000 * i + 2000 * 1 + 1 + 2 * j) H2 ∧ H2 cl = some (.lst (zs.map V.str))) ⟨l, _, _, _, rfl, lk6, npl, s6, g6 _ _ hcl5 npc.symm⟩ ?_ ?_⟩
          · rintro j σ H7 hj ⟨l7, w3, w5, w6, rfl, lk7, npl7, s7, hcl7⟩
            obtain ⟨xs, e1, e2, e3⟩ := id lk7
            have src7 := s7
            obtain ⟨g7_, z7_, c7_, e7, _⟩ := src7
            refine ⟨_, rfl, _, rfl, l7, xs, rfl, .inl (SqL.of e1), p, 1000 + 3000 * i + 2000 * 1 + 1 + 2 * j, _, rfl, s7, by omega, by omega, by omega, fun r8 H8 d0 d1 g8 s8 => ?_⟩
            obtain ⟨x8, rfl⟩ : ∃ x : Nat, r8 = (x : Int) := ⟨r8.toNat, by omega⟩
            have x8l : x8 < xs.length := by omega
            have e18 := g8 _ _ e1 npl7.symm
            refine ⟨_, rfl, _, rfl, _, rfl, l7, xs, rfl, SqL.of e18, fun q9 hq9 => ?_⟩
            rw [cut_lo]
            have np9 : p ≠ q9 := s8.ne hq9
            have s9 := s8.new (o := .lst (xs.take x8)) hq9
            have g9 := g8.trans (Grow.new (p := p) (o := .lst (xs.take x8)) hq9)
            have h9 : (upd H8 q9 (.lst (xs.take x8))) q9 = some (.lst (xs.take x8)) := upd_same
            revert s9 g9 h9
            generalize upd H8 q9 (.lst (xs.take x8)) = H9
            intro s9 g9 h9
            refine ⟨_, rfl, _, rfl, l7, xs, rfl, .inl (SqL.of (g9 _ _ e1 npl7.symm)), p, _, xs.length, rfl, s9, by omega, fun x HA rx gA sA => ?_⟩
            have gA' := g9.trans gA
            have hA9 := gA _ _ h9 np9.symm
            refine ⟨(by show 1 ≤ sizeLine; decide), fun qB hqB => ?_⟩
            refine ⟨q9, qB, _, _, rfl, rfl, by rw [upd_ne (ne_of_none hA9 hqB)]; exact hA9, upd_same, (by show _ + 1 ≤ sizeLine; rw [List.length_take]; exact Nat.le_of_lt (small (by omega))), fun qC hqC => ?_⟩
            have sC : Same HA (upd (upd HA qB (.lst [x])) qC (.lst (xs.take x8 ++ [x]))) := same_tr (same_new hqB) (same_new hqC)
            have hC : (upd (upd HA qB (.lst [x])) qC (.lst (xs.take x8 ++ [x]))) qC = some (.lst (xs.take x8 ++ [x])) := upd_same
            revert sC hC
            generalize upd (upd HA qB (.lst [x])) qC (.lst (xs.take x8 ++ [x])) = HC
            intro sC hC
            have gC := gA'.same_tr sC
            refine ⟨_, rfl, _, rfl, _, _, rfl, rfl, _, rfl, l7, xs, rfl, SqL.of (gC _ _ e1 npl7.symm), fun qD hqD => ?_⟩
            rw [cut_hi]
            refine ⟨qC, qD, _, _, rfl, rfl, by rw [upd_ne (ne_of_none hC hqD)]; exact hC, upd_same, (by rw [List.length_append, List.length_take, List.length_drop]; exact Nat.le_of_lt (small (by show _ + 1 + _ < _; omega))), fun qE hqE => ?_⟩
            have sE : Same HC (upd (upd HC qD (.lst (xs.drop (x8 + 1)))) qE (.lst (xs.take x8 ++ [x] ++ xs.drop (x8 + 1)))) := same_tr (same_new hqD) (same_new hqE)
            have hE : (upd (upd HC qD (.lst (xs.drop (x8 + 1)))) qE (.lst (xs.take x8 ++ [x] ++ xs.drop (x8 + 1)))) qE = some (.lst (xs.take x8 ++ [x] ++ xs.drop (x8 + 1))) := upd_same
            have fE : HC qE = none := (same_new (o := .lst (xs.drop (x8 + 1))) hqD).free hqE
            revert sE hE
            generalize upd (upd HC qD (.lst (xs.drop (x8 + 1)))) qE (.lst (xs.take x8 ++ [x] ++ xs.drop (x8 + 1))) = HE
            intro sE hE
            have gE := gC.same_tr sE
            refine ⟨qE, _, _, _, rfl, ⟨_, hE, ?_, fun y hy => ?_⟩, (sA.same sC).ne fE, ((sA.same sC).same sE).le (by omega), gE _ _ hcl7 npc.symm⟩
            · rw [List.length_append, List.length_append, List.length_take, List.length_drop]
              show _ + 1 + _ = _
              omega
            · have old : ∀ z ∈ xs, RowOk P w HE z := fun z hz => RowOk.grow gE e7 (by show 2 ≤ 3; decide) (e3 z hz)
              rcases List.mem_append.mp hy with hy | hy
              · rcases List.mem_append.mp hy with hy | hy
                · exact old y (List.mem_of_mem_take hy)
                · cases hy with
                  | head => exact rx.mono (same_tr sC sE)
                  | tail _ z => cases z
              · exact old y (List.mem_of_mem_drop hy)
          · rintro σ H7 ⟨l7, w3, w5, w6, rfl, lk7, npl7, s7, hcl7⟩
            obtain ⟨x, ft⟩ := fit_small lk7 n30
            refine ⟨_, rfl, ?_⟩
            dsimp only [tNil]
            refine tried_ans ft fun t1 z1 i1 Ha sa ta aa => ⟨_, rfl, ?_⟩
            dsimp only [tNil]
            refine due_ans (ft.mono sa) fun t2 z2 i2 Hb sb tb ab => ?_
            obtain ⟨rfl, rfl⟩ := ans_one aa ab
            refine ⟨tp2 z1 i1, tp2 z1 i1, dp_tp2 (sb _ _ ta), dp_tp2 tb, tp2_shaped _ _ (ans_str aa), tp2_shaped _ _ (ans_str aa), _, rfl, ite_no (by rw [tp2_eqv]; rfl) ?_⟩
            exact ⟨_, _, _, _, rfl, (s7.same (same_tr sa sb)).le (by omega), same_tr sa sb _ _ hcl7⟩
    · rintro σ H5 ⟨v3, v4, v5, v6, rfl, s5, hcl5⟩
      refine ⟨(by show 2 ≤ sizeLine; decide), fun t1 ht1 => ?_⟩
      refine ⟨(by show 1 ≤ sizeLine; decide), fun l1 hl1 => ?_⟩
      refine ⟨(by show 2 ≤ sizeLine; decide), fun t2 ht2 => ?_⟩
      refine ⟨(by show 1 ≤ sizeLine; decide), fun l2 hl2 => ?_⟩
      have r1 : RowAt (upd (upd (upd (upd H5 t1 (.tup [V.str "rest", V.int 1])) l1 (.lst [V.ref t1])) t2 (.tup [V.str "inside", V.int 0])) l2 (.lst [V.ref t2])) (.rest 1) t1 := same_new hl2 _ _ (same_new ht2 _ _ (same_new hl1 _ _ upd_same))
      have r2 : RowAt (upd (upd (upd (upd H5 t1 (.tup [V.str "rest", V.int 1])) l1 (.lst [V.ref t1])) t2 (.tup [V.str "inside", V.int 0])) l2 (.lst [V.ref t2])) (.ins 0) t2 := same_new hl2 _ _ upd_same
      have rl1 : (upd (upd (upd (upd H5 t1 (.tup [V.str "rest", V.int 1])) l1 (.lst [V.ref t1])) t2 (.tup [V.str "inside", V.int 0])) l2 (.lst [V.ref t2])) l1 = some (.lst [V.ref t1]) := same_new hl2 _ _ (same_new ht2 _ _ upd_same)
      have rl2 : (upd (upd (upd (upd H5 t1 (.tup [V.str "rest", V.int 1])) l1 (.lst [V.ref t1])) t2 (.tup [V.str "inside", V.int 0])) l2 (.lst [V.ref t2])) l2 = some (.lst [V.ref t2]) := upd_same
      have z1 := s5.new (o := .tup [V.str "rest", V.int 1]) ht1
      have np1 : p ≠ l1 := z1.ne hl1
      have z2 := (z1.new (o := .lst [V.ref t1]) hl1).new (o := .tup [V.str "inside", V.int 0]) ht2
      have np2 : p ≠ l2 := z2.ne hl2
      have z3 := z2.new (o := .lst [V.ref t2]) hl2
      revert r1 r2 rl1 rl2 z3
      generalize upd (upd (upd (upd H5 t1 (.tup [V.str "rest", V.int 1])) l1 (.lst [V.ref t1])) t2 (.tup [V.str "inside", V.int 0])) l2 (.lst [V.ref t2]) = HA
      intro r1 r2 rl1 rl2 z3
      refine ⟨_, rfl, (by show 6 ≤ sizeLine; decide), fun l3 hl3 => ?_⟩
      have k3 := same_new (o := .lst [V.int 0, V.int 1, V.int 58, V.int 59, V.int 60, V.int 61]) hl3
      refine ⟨p, l3, 1000 + 3000 * 4, _, rfl, z3.new hl3, by decide, upd_same, (by show 0 < 6; decide), (by show 6 < 1000; decide), z3.ne hl3, fun x HB hx gB sB => ?_⟩
      obtain ⟨kk, rfl, kl⟩ : ∃ kk : Nat, x = .int (kk : Int) ∧ kk ≤ 61 := by
        rcases List.mem_cons.mp hx with rfl | hx
        · exact ⟨0, rfl, by decide⟩
        rcases List.mem_cons.mp hx with rfl | hx
        · exact ⟨1, rfl, by decide⟩
        rcases List.mem_cons.mp hx with rfl | hx
        · exact ⟨58, rfl, by decide⟩
        rcases List.mem_cons.mp hx with rfl | hx
        · exact ⟨59, rfl, by decide⟩
        rcases List.mem_cons.mp hx with rfl | hx
        · exact ⟨60, rfl, by decide⟩
        rcases List.mem_cons.mp hx with rfl | hx
        · exact ⟨61, rfl, by decide⟩
        · cases hx
      have r1B := (r1.mono (fun b xs x => k3 _ _ x) fun b xs x => k3 _ _ x).grow gB (z3.new hl3)
      have r2B := (r2.mono (fun b xs x => k3 _ _ x) fun b xs x => k3 _ _ x).grow gB (z3.new hl3)
      have rl1B := gB _ _ (k3 _ _ rl1) np1.symm
      have rl2B := gB _ _ (k3 _ _ rl2) np2.symm
      refine ⟨l2, kk, _, rfl, rfl, rl2B, by omega, by omega, (by show 1 * (kk : Int).toNat ≤ sizeLine; exact Nat.le_of_lt (small (by omega))), fun l4 hl4 => ?_⟩
      rw [show ((kk : Int).toNat) = kk from rfl, rep_flat]
      refine ⟨l1, l4, _, _, rfl, rfl, by rw [upd_ne (ne_of_none rl1B hl4)]; exact rl1B, upd_same, (by rw [List.length_map, List.length_replicate]; exact Nat.le_of_lt (small (by show 1 + kk < _; omega))), fun l5 hl5 => ?_⟩
      have sC : Same HB (upd (upd HB l4 (.lst ((List.replicate kk t2).map V.ref))) l5 (.lst ([V.ref t1] ++ (List.replicate kk t2).map V.ref))) := same_tr (same_new hl4) (same_new hl5)
      have hC : (upd (upd HB l4 (.lst ((List.replicate kk t2).map V.ref))) l5 (.lst ([V.ref t1] ++ (List.replicate kk t2).map V.ref))) l5 = some (.lst ((t1 :: List.replicate kk t2).map V.ref)) := upd_same
      have np5 : p ≠ l5 := (sB.new hl4).ne hl5
      revert sC hC
      generalize upd (upd HB l4 (.lst ((List.replicate kk t2).map V.ref))) l5 (.lst ([V.ref t1] ++ (List.replicate kk t2).map V.ref)) = HC
      intro sC hC
      have rowsC : RowsAt HC (.rest 1 :: List.replicate kk (.ins 0)) l5 := ⟨_, hC, .cons (r1B.mono (fun b xs x => sC _ _ x) fun b xs x => sC _ _ x) (paired_rep (F := fun a r => RowAt HC r a) (r2B.mono (fun b xs x => sC _ _ x) fun b xs x => sC _ _ x) kk)⟩
      have srcC := sB.same sC
      have hC' := hC
      clear r1B r2B rl1B rl2B sC hC gB sB r1 r2 rl1 rl2 z3 k3
      rw [gN 4]
      dsimp only
      refine seq_via (fun σ' H' => ∃ (l : Addr) (rs : List Row) (v3 v5 v6 : Option V), σ' = [some (.ref a), some (.ref p), some (.ref cl), v3, some (.ref l), v5, v6, none] ∧ RowsAt H' rs l ∧ (∀ r ∈ rs, flatR r) ∧ (∀ r ∈ rs, ∀ q ∈ r.fol, q ≤ 1) ∧ 1 ≤ rs.length ∧ rs.length ≤ 62 ∧ p ≠ l ∧ Src p 20000 H') (fun σ' H' hz => ?_) (fun D' hD' => ?_)
      rotate_left
      · refine ⟨_, rfl, l5, _, rfl, .inl (SqL.of hC'), rfl, _, rfl, ite2 (fun _ => ?_) (fun _ => ?_)⟩
        · refine ⟨_, rfl, (by show 2 ≤ sizeLine; decide), fun ta hta => ?_⟩
          refine ⟨(by show 2 ≤ sizeLine; decide), fun tb htb => ?_⟩
          refine ⟨(by show 2 ≤ sizeLine; decide), fun tc htc => ?_⟩
          refine ⟨(by show 3 ≤ sizeLine; decide), fun ld hld => ?_⟩
          have ra : (upd (upd (upd (upd HC ta (.tup [V.str "rest", V.int 0])) tb (.tup [V.str "inside", V.int 0])) tc (.tup [V.str "rest", V.int 1])) ld (.lst [V.ref ta, V.ref tb, V.ref tc])) ta = some (.tup [V.str "rest", V.int 0]) := same_new hld _ _ (same_new htc _ _ (same_new htb _ _ upd_same))
          have rb : (upd (upd (upd (upd HC ta (.tup [V.str "rest", V.int 0])) tb (.tup [V.str "inside", V.int 0])) tc (.tup [V.str "rest", V.int 1])) ld (.lst [V.ref ta, V.ref tb, V.ref tc])) tb = some (.tup [V.str "inside", V.int 0]) := same_new hld _ _ (same_new htc _ _ upd_same)
          have rc : (upd (upd (upd (upd HC ta (.tup [V.str "rest", V.int 0])) tb (.tup [V.str "inside", V.int 0])) tc (.tup [V.str "rest", V.int 1])) ld (.lst [V.ref ta, V.ref tb, V.ref tc])) tc = some (.tup [V.str "rest", V.int 1]) := same_new hld _ _ upd_same
          have rd : (upd (upd (upd (upd HC ta (.tup [V.str "rest", V.int 0])) tb (.tup [V.str "inside", V.int 0])) tc (.tup [V.str "rest", V.int 1])) ld (.lst [V.ref ta, V.ref tb, V.ref tc])) ld = some (.lst [V.ref ta, V.ref tb, V.ref tc]) := upd_same
          have y3 := ((srcC.new (o := .tup [V.str "rest", V.int 0]) hta).new (o := .tup [V.str "inside", V.int 0]) htb).new (o := .tup [V.str "rest", V.int 1]) htc
          have npd : p ≠ ld := y3.ne hld
          have y4 := y3.new (o := .lst [V.ref ta, V.ref tb, V.ref tc]) hld
          revert ra rb rc rd y4
          generalize upd (upd (upd (upd HC ta (.tup [V.str "rest", V.int 0])) tb (.tup [V.str "inside", V.int 0])) tc (.tup [V.str "rest", V.int 1])) ld (.lst [V.ref ta, V.ref tb, V.ref tc]) = HD
          intro ra rb rc rd y4
          refine ⟨p, ld, _, _, rfl, y4, by decide, rd, (by show 0 < 3; decide), (by show 3 < 1000; decide), npd, fun x HE hx gE sE => ⟨(by show 1 ≤ sizeLine; decide), fun le hle => ?_⟩⟩
          have npe : p ≠ le := sE.ne hle
          have fin : ∀ (t : Addr) (r : Row), RowAt HE r t → x = .ref t → flatR r → (∀ q ∈ r.fol, q ≤ 1) → D'.nx [some (.ref a), some (.ref p), some (.ref cl), v3, some (.ref le), v5, v6, none] (upd HE le (.lst [x])) := fun t r h e f q => hD' _ _ ⟨le, [r], _, _, _, rfl, ⟨[t], by rw [upd_same, e]; rfl, .cons (h.mono (fun b xs z => same_new hle _ _ z) fun b xs z => same_new hle _ _ z) .nil⟩, (fun r' hr' => by
            cases hr' with
            | head => exact f
            | tail _ z => cases z), (fun r' hr' => by
            cases hr' with
            | head => exact q
            | tail _ z => cases z), Nat.le_refl _, (by show 1 ≤ 62; decide), npe, (sE.new hle).le (by decide)⟩
          rcases List.mem_cons.mp hx with rfl | hx
          · exact fin ta (.rest 0) (gE.tup y4 ra) rfl trivial (fun q hq => by cases hq with | head => decide | tail _ z => cases z)
          rcases List.mem_cons.mp hx with rfl | hx
          · exact fin tb (.ins 0) (gE.tup y4 rb) rfl trivial (fun q hq => by cases hq with | head => decide | tail _ z => cases z)
          rcases List.mem_cons.mp hx with rfl | hx
          · exact fin tc (.rest 1) (gE.tup y4 rc) rfl trivial (fun q hq => by cases hq with | head => decide | tail _ z => cases z)
          · cases hx
        · refine hD' _ _ ⟨l5, _, _, _, _, rfl, rowsC, fun r hr => ?_, fun r hr => ?_, by simp, by rw [List.length_cons, List.length_replicate]; omega, np5, srcC.le (by decide)⟩
          · rcases List.mem_cons.mp hr with rfl | hr
            · trivial
            · rw [List.eq_of_mem_replicate hr]
              trivial
          · rcases List.mem_cons.mp hr with rfl | hr
            · intro q hq
              cases hq with
              | head => decide
              | tail _ z => cases z
            · rw [List.eq_of_mem_replicate hr]
              intro q hq
              cases hq with
              | head => decide
              | tail _ z => cases z
      obtain ⟨l, rs, w3, w5, w6, rfl, hl, fl, lo, n1, n62, npl, sz⟩ := hz
      clear rowsC srcC hC' np5
      obtain ⟨as, ha1, hrows⟩ := id hl
      have asl := hrows.length
      have asm : (as.map V.ref).length = as.length := List.length_map ..
      refine ⟨_, rfl, _, rfl, l, as.map V.ref, rfl, .inl (SqL.of ha1), _, _, rfl, rfl, .inl ⟨by decide, by decide⟩, p, 20000, _, rfl, sz, by decide, by omega, by omega, fun r H6 c0 c1 g6 s6 => ?_⟩
      obtain ⟨x, rfl⟩ : ∃ x : Nat, r = (x : Int) := ⟨r.toNat, by omega⟩
      have ha6 := g6 _ _ ha1 npl.symm
      have hrows6 : Paired (fun a r => RowAt H6 r a) as rs := L2.Paired.mapP hrows fun a r e => e.grow g6 sz
      rw [gN 6]
      dsimp only
      refine seq_via (fun σ' H' => ∃ (l : Addr) (rs : List Row) (v3 v5 v6 : Option V), σ' = [some (.ref a), some (.ref p), some (.ref cl), v3, some (.ref l), v5, v6, none] ∧ RowsAt H' rs l ∧ (∀ r ∈ rs, flatR r) ∧ (NoWrong (rs.map toD) → ∀ i, Few rs i) ∧ rs.length ≤ 62 ∧ p ≠ l ∧ Src p 20001 H') (fun σ' H' hz => ?_) (fun D' hD' => ?_)
      rotate_left
      · have keep := hD' [some (.ref a), some (.ref p), some (.ref cl), w3, some (.ref l), w5, some (.int (x : Int)), none] H6 ⟨l, rs, _, _, _, rfl, ⟨as, ha6, hrows6⟩, fl, fun _ _ => few_low lo, n62, npl, s6⟩
        refine ⟨_, rfl, _, _, rfl, rfl, _, rfl, ?_⟩
        by_cases x0_ : (0 : Int) < x
        · refine ite_yes (decide_eq_true x0_) ⟨_, rfl, l, _, rfl, .inl (SqL.of ha6), _, _, rfl, rfl, _, rfl, ?_⟩
          by_cases xl : (x : Int) < ((as.map V.ref).length : Nat)
          · refine ite_yes (decide_eq_true xl) ?_
            have xl' : x < as.length := by omega
            refine ⟨_, rfl, l, _, rfl, .inl (SqL.of ha6), (by show 2 ≤ sizeLine; decide), fun t ht => ?_⟩
            have ha7 : (upd H6 t (.tup [V.str "inside", V.int ((as.map V.ref).length : Nat)])) l = some (.lst (as.map V.ref)) := same_new ht _ _ ha6
            have hrows7 : Paired (fun a r => RowAt (upd H6 t (.tup [V.str "inside", V.int ((as.map V.ref).length : Nat)])) r a) as rs := L2.Paired.mapP hrows6 fun a r e => e.mono (fun b xs x => same_new ht _ _ x) fun b xs x => same_new ht _ _ x
            have htt : (upd H6 t (.tup [V.str "inside", V.int ((as.map V.ref).length : Nat)])) t = some (.tup [V.str "inside", V.int (rs.length : Nat)]) := by rw [upd_same, asm, asl]
            have s7 := s6.new (o := .tup [V.str "inside", V.int ((as.map V.ref).length : Nat)]) ht
            revert ha7 hrows7 htt s7
            generalize upd H6 t (.tup [V.str "inside", V.int ((as.map V.ref).length : Nat)]) = H7
            intro ha7 hrows7 htt s7
            refine ⟨_, rfl, _, rfl, l, _, _, x, rfl, rfl, ha7, ?_, ?_⟩
            · unfold ixN
              rw [if_pos (by omega), if_pos xl]
              rfl
            have ntl : t ≠ l := ne_of htt ha7 (by intro z; cases z)
            refine hD' _ _ ⟨l, rs.set x (.ins rs.length), _, _, _, rfl, ⟨as.set x t, by rw [upd_same, List.map_set], paired_set x (L2.Paired.mapP hrows7 fun a r e => e.put ha7) (by show RowAt _ _ _; exact (by rw [upd_ne ntl]; exact htt : (upd H7 l (.lst ((as.map V.ref).set x (V.ref t)))) t = some (.tup [V.str "inside", V.int (rs.length : Nat)])))⟩, fun r hr => ?_, fun nw => ?_, by rw [List.length_set]; exact n62, npl, s7.put npl⟩
            · rcases List.mem_or_eq_of_mem_set hr with z | z
              · exact fl r z
              · rw [z]
                trivial
            · refine (out_wrong (rs := rs.set x (.ins rs.length)) (i := x) ?_ nw).elim
              rw [List.getElem?_set_self (by omega), List.length_set]
          · exact ite_no (decide_eq_false xl) keep
        · exact ite_no (decide_eq_false x0_) ⟨false, rfl, iteF keep⟩
      clear hl ha1 hrows asl asm fl lo n1 n62 npl sz c0 c1 g6 s6 ha6 hrows6
      obtain ⟨l, rs, w3, w5, w6, rfl, hl, fl, few, n62, npl, sz⟩ := hz
      have ft : Fit P w H' (.rows (rs.map toD)) (.ref l) := fit_flat hl fl (by omega) few
      refine ⟨_, rfl, ?_⟩
      dsimp only [tNil]
      refine tried_ans ft fun t1 z1 i1 Ha sa ta aa => ⟨_, rfl, ?_⟩
      dsimp only [tNil]
      refine due_ans (ft.mono sa) fun t2 z2 i2 Hb sb tb ab => ?_
      obtain ⟨rfl, rfl⟩ := ans_one aa ab
      refine ⟨tp2 z1 i1, tp2 z1 i1, dp_tp2 (sb _ _ ta), dp_tp2 tb, tp2_shaped _ _ (ans_str aa), tp2_shaped _ _ (ans_str aa), _, rfl, ite_no (by rw [tp2_eqv]; rfl) ?_⟩
      have sB := sz.same (same_tr sa sb)
      refine ⟨_, rfl, ?_⟩
      refine lstA_new (eas_cons (eva_c (P := P) (w := w) aok_non) (eas_cons (eva_c (aok_int _)) (eas_cons (eva_c (aok_str _)) (eas_cons eva_d0 (eas_cons eva_l0 (eas_cons eva_t0 (eas_cons (eva_c (aok_bl _)) (eas_cons eva_d1 eas_nil)))))))) (by decide) fun L xs Hc sc fL hL nL oL => ?_
      have sC := sB.same sc
      obtain ⟨g_, z_, c_, e1, _⟩ := id sC
      refine ⟨p, L, 20001, xs, rfl, sC, by decide, hL, by omega, by omega, sB.ne fL, fun x Hd hx gd sd => ?_⟩
      have ox := AOk.grow gd e1 (by show 2 ≤ 3; decide) (oL x hx)
      obtain ⟨y, fy⟩ := ox.fit
      refine ⟨_, rfl, ?_⟩
      dsimp only [tNil]
      refine tried_ans fy fun t3 z3 i3 He se te ae => ⟨_, rfl, ?_⟩
      dsimp only [tNil]
      refine due_ans (fy.mono se) fun t4 z4 i4 Hf sf tf af => ?_
      obtain ⟨rfl, rfl⟩ := ans_one ae af
      refine ⟨tp2 z3 i3, tp2 z3 i3, dp_tp2 (sf _ _ te), dp_tp2 tf, tp2_shaped _ _ (ans_str ae), tp2_shaped _ _ (ans_str ae), ?_⟩
      rw [tp2_eqv]
      exact k Hf
end
end CC
set_option Elab.async false
set_option maxRecDepth 100000
namespace CC
open PySem PySem.Spec PyProof.Rows L2
set_option linter.unusedVariables false
/-! ### what the class objects say -/
section
variable {K : PySem.W.Frag} {C N : Addr} {nm q : Str} {bs bm sub : List Value} {sn : List Str} {ab : Bool} {col : Option Bool} {dd : Option Addr} {m0 m1 m2 m3 m5 : Option Value}
theorem ec_cls (x : K.lookup C = some (excClassObj nm q C N bs bm true sn sub ab col dd m0 m1 m2 m3 m5 "ValueError.__new__")) :
    PySem.W.clsIn K C = some { name := nm, bases := bs, mro := .ref C :: bm, ns := N, qualname := q, hasDict := true, slotNames := sn, subclasses := sub, abstract := ab, collection := col, hasDel := false } := by
  unfold PySem.W.clsIn
  rw [x] <;> rfl
theorem ec_some (x : K.lookup C = some (excClassObj nm q C N bs bm true sn sub ab col dd m0 m1 m2 m3 m5 "ValueError.__new__")) : (PySem.W.clsIn K C).isSome = true := by
  rw [ec_cls x] <;> rfl
theorem ec_mro (x : K.lookup C = some (excClassObj nm q C N bs bm true sn sub ab col dd m0 m1 m2 m3 m5 "ValueError.__new__")) (b : Value) : PySem.W.mroIn K C b = some ((Value.ref C :: bm).contains b) := by
  unfold PySem.W.mroIn
  rw [ec_cls x] <;> rfl
theorem ec_dict (x : K.lookup C = some (excClassObj nm q C N bs bm true sn sub ab col dd m0 m1 m2 m3 m5 "ValueError.__new__")) : PySem.W.hasDictIn K C = true := by
  unfold PySem.W.hasDictIn
  rw [ec_cls x] <;> rfl
theorem ec_type (x : K.lookup C = some (excClassObj nm q C N bs bm true sn sub ab col dd m0 m1 m2 m3 m5 "ValueError.__new__")) : PySem.W.typeIn K (.ref C) = some (.type "type") := by
  show Option.map (fun o => o.cls) (List.lookup C K) = _
  rw [x] <;> rfl
theorem ec_sub (x : K.lookup C = some (excClassObj nm q C N bs bm true sn sub ab col dd m0 m1 m2 m3 m5 "ValueError.__new__")) {b : Value} (h : bm.contains b = true) : PySem.W.subIn K (.ref C) b = some true := by
  show PySem.W.mroIn K C b = some true
  rw [ec_mro x, List.contains_cons, h, Bool.or_true]
end
def bmE : List Value := [.type "ValueError", .type "Exception", .type "BaseException", .type "object"]
def bmS (CE : Addr) : List Value := .ref CE :: bmE
theorem refs_E : PySem.HandSPX.refsVE bmE = true := by decide +kernel
theorem refs_S {CE : Addr} : PySem.HandSPX.refsVE (bmS CE) = true := refs_E
theorem has_base (CE : Addr) : (bmS CE).contains (.type "BaseException") = true := by
  unfold bmS
  rw [List.contains_cons, show bmE.contains (.type "BaseException") = true by decide +kernel, Bool.or_true]
theorem has_obj (CE : Addr) : (bmS CE).contains (.type "object") = true := by
  unfold bmS
  rw [List.contains_cons, show bmE.contains (.type "object") = true by decide +kernel, Bool.or_true]
section
variable {K : PySem.W.Frag} {C CE D N : Addr} {nm q : Str} {bs sub : List Value} {sn : List Str} {ab : Bool} {col : Option Bool} {dd : Option Addr} {m0 m1 m2 m3 m5 : Option Value}
theorem ref_beq (a b : Addr) : ((Value.ref a == Value.ref b) : Bool) = decide (a = b) := by
  by_cases h : a = b
  · subst h
    simp
  · have : ¬ (Value.ref a = Value.ref b) := fun z => h (Value.ref.inj z)
    simp [h]
theorem no_ref (d : Addr) : bmE.contains (.ref d) = false := by
  unfold bmE
  simp
theorem ec_not (x : K.lookup C = some (excClassObj nm q C N bs (bmS CE) true sn sub ab col dd m0 m1 m2 m3 m5 "ValueError.__new__")) (n1 : C ≠ D) (n2 : CE ≠ D) : PySem.W.subIn K (.ref C) (.ref D) = some false := by
  show PySem.W.mroIn K C (.ref D) = some false
  rw [ec_mro x]
  unfold bmS
  rw [List.contains_cons, List.contains_cons, no_ref, ref_beq, ref_beq, decide_eq_false (Ne.symm n1), decide_eq_false (Ne.symm n2)]
  rfl
theorem ec_self (x : K.lookup C = some (excClassObj nm q C N bs (bmS CE) true sn sub ab col dd m0 m1 m2 m3 m5 "ValueError.__new__")) : PySem.W.subIn K (.ref C) (.ref C) = some true := by
  show PySem.W.mroIn K C (.ref C) = some true
  rw [ec_mro x, List.contains_cons]
  simp
end
theorem exm_of {K : PySem.W.Frag} {S D : Addr} {b : Bool} (base_ : PySem.W.subIn K (.ref D) (.type "BaseException") = some true) (is_ : (PySem.W.clsIn K D).isSome = true) (ty_ : PySem.W.typeIn K (.ref D) = some (.type "type")) (sub_ : PySem.W.subIn K (.ref S) (.ref D) = some b) :
    PySem.W.exmOne K (.ref S) (.ref D) = some b := by
  unfold PySem.W.exmOne PySem.W.kitCls
  simp [base_, ty_, sub_, is_]
set_option maxHeartbeats 4000000 in
theorem all_mk {P : Program} {w : World} {K : PySem.W.Frag} {h : Heap} {mg : Str → Option Value} {fa CE TD f0 f1 f2 f3 f4 f5 f6 f7 f8 f9 f10 f11 f12 f13 f14 f15 f16 f17 f18 f19 f20 f21 f22 f23 f24 f25 f26 f27 f28 f29 f30 f31 f32 C CN NCN CB NCB : Addr} (X : K.In h) (G : h.Ns mainGlobals mg) (hfa : mg "law" = some (.ref fa))
    {od0 an0 od1 an1 od2 an2 od3 an3 od4 an4 od5 an5 od6 an6 od7 an7 od8 an8 od9 an9 od10 an10 od11 an11 od12 an12 od13 an13 od14 an14 od15 an15 od16 an16 od17 an17 od18 an18 od19 an19 od20 an20 od21 an21 od22 an22 od23 an23 od24 an24 od25 an25 od26 an26 od27 an27 od28 an28 od29 an29 od30 an30 od31 an31 od32 an32 odT ddCN ddCB : Option Addr} {sl0 sl1 sl2 sl3 sl4 sl5 sl6 sl7 sl8 sl9 sl10 sl11 sl12 sl13 sl14 sl15 sl16 sl17 sl18 sl19 sl20 sl21 sl22 sl23 sl24 sl25 sl26 sl27 sl28 sl29 sl30 sl31 sl32 slT : Array (Option Value)} {oc0 kV0 dc0 pm0 cd0 ct0 oc1 kV1 dc1 pm1 cd1 ct1 oc2 kV2 dc2 pm2 cd2 ct2 oc3 kV3 dc3 pm3 cd3 ct3 oc4 kV4 dc4 pm4 cd4 ct4 oc5 kV5 dc5 pm5 cd5 ct5 oc6 kV6 dc6 pm6 cd6 ct6 oc7 kV7 dc7 pm7 cd7 ct7 oc8 kV8 dc8 pm8 cd8 ct8 oc9 kV9 dc9 pm9 cd9 ct9 oc10 kV10 dc10 pm10 cd10 ct10 oc11 kV11 dc11 pm11 cd11 ct11 oc12 kV12 dc12 pm12 cd12 ct12 oc13 kV13 dc13 pm13 cd13 ct13 oc14 kV14 dc14 pm14 cd14 ct14 oc15 kV15 dc15 pm15 cd15 ct15 oc16 kV16 dc16 pm16 cd16 ct16 oc17 kV17 dc17 pm17 cd17 ct17 oc18 kV18 dc18 pm18 cd18 ct18 oc19 kV19 dc19 pm19 cd19 ct19 oc20 kV20 dc20 pm20 cd20 ct20 oc21 kV21 dc21 pm21 cd21 ct21 oc22 kV22 dc22 pm22 cd22 ct22 oc23 kV23 dc23 pm23 cd23 ct23 oc24 kV24 dc24 pm24 cd24 ct24 oc25 kV25 dc25 pm25 cd25 ct25 oc26 kV26 dc26 pm26 cd26 ct26 oc27 kV27 dc27 pm27 cd27 ct27 oc28 kV28 dc28 pm28 cd28 ct28 oc29 kV29 dc29 pm29 cd29 ct29 oc30 kV30 dc30 pm30 cd30 ct30 oc31 kV31 dc31 pm31 cd31 ct31 oc32 kV32 dc32 pm32 cd32 ct32 ocT : Value} {tkT tk1 tk2 tk3 : Tok} {nT : Nat} {nmCN qCN nmCB qCB : Str} {bsCN subCN bsCB subCB : List Value} {snCN snCB : List Str} {abCN abCB : Bool} {colCN colCB : Option Bool} {m0CN m1CN m2CN m3CN m5CN m0CB m1CB m2CB m3CB m5CB : Option Value}
    (a0 : PySem.W.nsIn K mainGlobals "shown" = some (some (.ref f0)))
    (l0 : K.lookup f0 = some ⟨oc0, od0, .func (PySem.W.fnOf "shown" "shown" (defArgs sShown) (defBody sShown) (defScope sShown) .none kV0 dc0 pm0 an0 cd0 ct0), sl0⟩)
    (c0 : PySem.W.codeIn K cd0 "shown" = true)
    (k0 : PySem.W.keepIn K (.ref f0) = true)
    (a1 : PySem.W.nsIn K mainGlobals "is_list" = some (some (.ref f1)))
    (l1 : K.lookup f1 = some ⟨oc1, od1, .func (PySem.W.fnOf "is_list" "is_list" (defArgs sIsList) (defBody sIsList) (defScope sIsList) .none kV1 dc1 pm1 an1 cd1 ct1), sl1⟩)
    (c1 : PySem.W.codeIn K cd1 "is_list" = true)
    (k1 : PySem.W.keepIn K (.ref f1) = true)
    (a2 : PySem.W.nsIn K mainGlobals "is_whole" = some (some (.ref f2)))
    (l2 : K.lookup f2 = some ⟨oc2, od2, .func (PySem.W.fnOf "is_whole" "is_whole" (defArgs sIsWhole) (defBody sIsWhole) (defScope sIsWhole) .none kV2 dc2 pm2 an2 cd2 ct2), sl2⟩)
    (c2 : PySem.W.codeIn K cd2 "is_whole" = true)
    (k2 : PySem.W.keepIn K (.ref f2) = true)
    (a3 : PySem.W.nsIn K mainGlobals "is_name" = some (some (.ref f3)))
    (l3 : K.lookup f3 = some ⟨oc3, od3, .func (PySem.W.fnOf "is_name" "is_name" (defArgs sIsName) (defBody sIsName) (defScope sIsName) .none kV3 dc3 pm3 an3 cd3 ct3), sl3⟩)
    (c3 : PySem.W.codeIn K cd3 "is_name" = true)
    (k3 : PySem.W.keepIn K (.ref f3) = true)
    (a4 : PySem.W.nsIn K mainGlobals "is_number" = some (some (.ref f4)))
    (l4 : K.lookup f4 = some ⟨oc4, od4, .func (PySem.W.fnOf "is_number" "is_number" (defArgs sIsNumber) (defBody sIsNumber) (defScope sIsNumber) .none kV4 dc4 pm4 an4 cd4 ct4), sl4⟩)
    (c4 : PySem.W.codeIn K cd4 "is_number" = true)
    (k4 : PySem.W.keepIn K (.ref f4) = true)
    (a5 : PySem.W.nsIn K mainGlobals "are_cases" = some (some (.ref f5)))
    (l5 : K.lookup f5 = some ⟨oc5, od5, .func (PySem.W.fnOf "are_cases" "are_cases" (defArgs sAreCases) (defBody sAreCases) (defScope sAreCases) .none kV5 dc5 pm5 an5 cd5 ct5), sl5⟩)
    (c5 : PySem.W.codeIn K cd5 "are_cases" = true)
    (k5 : PySem.W.keepIn K (.ref f5) = true)
    (a6 : PySem.W.nsIn K mainGlobals "is_row" = some (some (.ref f6)))
    (l6 : K.lookup f6 = some ⟨oc6, od6, .func (PySem.W.fnOf "is_row" "is_row" (defArgs sIsRow) (defBody sIsRow) (defScope sIsRow) .none kV6 dc6 pm6 an6 cd6 ct6), sl6⟩)
    (c6 : PySem.W.codeIn K cd6 "is_row" = true)
    (k6 : PySem.W.keepIn K (.ref f6) = true)
    (a7 : PySem.W.nsIn K mainGlobals "copied" = some (some (.ref f7)))
    (l7 : K.lookup f7 = some ⟨oc7, od7, .func (PySem.W.fnOf "copied" "copied" (defArgs sCopied) (defBody sCopied) (defScope sCopied) .none kV7 dc7 pm7 an7 cd7 ct7), sl7⟩)
    (c7 : PySem.W.codeIn K cd7 "copied" = true)
    (k7 : PySem.W.keepIn K (.ref f7) = true)
    (a8 : PySem.W.nsIn K mainGlobals "followers" = some (some (.ref f8)))
    (l8 : K.lookup f8 = some ⟨oc8, od8, .func (PySem.W.fnOf "followers" "followers" (defArgs sFollowers) (defBody sFollowers) (defScope sFollowers) .none kV8 dc8 pm8 an8 cd8 ct8), sl8⟩)
    (c8 : PySem.W.codeIn K cd8 "followers" = true)
    (k8 : PySem.W.keepIn K (.ref f8) = true)
    (a9 : PySem.W.nsIn K mainGlobals "wrong_row" = some (some (.ref f9)))
    (l9 : K.lookup f9 = some ⟨oc9, od9, .func (PySem.W.fnOf "wrong_row" "wrong_row" (defArgs sWrongRow) (defBody sWrongRow) (defScope sWrongRow) .none kV9 dc9 pm9 an9 cd9 ct9), sl9⟩)
    (c9 : PySem.W.codeIn K cd9 "wrong_row" = true)
    (k9 : PySem.W.keepIn K (.ref f9) = true)
    (a10 : PySem.W.nsIn K mainGlobals "is_once" = some (some (.ref f10)))
    (l10 : K.lookup f10 = some ⟨oc10, od10, .func (PySem.W.fnOf "is_once" "is_once" (defArgs sIsOnce) (defBody sIsOnce) (defScope sIsOnce) .none kV10 dc10 pm10 an10 cd10 ct10), sl10⟩)
    (c10 : PySem.W.codeIn K cd10 "is_once" = true)
    (k10 : PySem.W.keepIn K (.ref f10) = true)
    (a11 : PySem.W.nsIn K mainGlobals "_law_source" = some (some (.ref f11)))
    (l11 : K.lookup f11 = some ⟨oc11, od11, .func (PySem.W.fnOf "_law_source" "_law_source" (defArgs sSource) (defBody sSource) (defScope sSource) .none kV11 dc11 pm11 an11 cd11 ct11), sl11⟩)
    (c11 : PySem.W.codeIn K cd11 "_law_source" = true)
    (k11 : PySem.W.keepIn K (.ref f11) = true)
    (a12 : PySem.W.nsIn K mainGlobals "_law_draw" = some (some (.ref f12)))
    (l12 : K.lookup f12 = some ⟨oc12, od12, .func (PySem.W.fnOf "_law_draw" "_law_draw" (defArgs sDraw) (defBody sDraw) (defScope sDraw) .none kV12 dc12 pm12 an12 cd12 ct12), sl12⟩)
    (c12 : PySem.W.codeIn K cd12 "_law_draw" = true)
    (k12 : PySem.W.keepIn K (.ref f12) = true)
    (a13 : PySem.W.nsIn K mainGlobals "_law_pick" = some (some (.ref f13)))
    (l13 : K.lookup f13 = some ⟨oc13, od13, .func (PySem.W.fnOf "_law_pick" "_law_pick" (defArgs sPick) (defBody sPick) (defScope sPick) .none kV13 dc13 pm13 an13 cd13 ct13), sl13⟩)
    (c13 : PySem.W.codeIn K cd13 "_law_pick" = true)
    (k13 : PySem.W.keepIn K (.ref f13) = true)
    (a14 : PySem.W.nsIn K mainGlobals "_law_subset" = some (some (.ref f14)))
    (l14 : K.lookup f14 = some ⟨oc14, od14, .func (PySem.W.fnOf "_law_subset" "_law_subset" (defArgs sSubset) (defBody sSubset) (defScope sSubset) .none kV14 dc14 pm14 an14 cd14 ct14), sl14⟩)
    (c14 : PySem.W.codeIn K cd14 "_law_subset" = true)
    (k14 : PySem.W.keepIn K (.ref f14) = true)
    (a15 : PySem.W.nsIn K mainGlobals "_law_name" = some (some (.ref f15)))
    (l15 : K.lookup f15 = some ⟨oc15, od15, .func (PySem.W.fnOf "_law_name" "_law_name" (defArgs sName) (defBody sName) (defScope sName) .none kV15 dc15 pm15 an15 cd15 ct15), sl15⟩)
    (c15 : PySem.W.codeIn K cd15 "_law_name" = true)
    (k15 : PySem.W.keepIn K (.ref f15) = true)
    (a16 : PySem.W.nsIn K mainGlobals "_law_names" = some (some (.ref f16)))
    (l16 : K.lookup f16 = some ⟨oc16, od16, .func (PySem.W.fnOf "_law_names" "_law_names" (defArgs sNames) (defBody sNames) (defScope sNames) .none kV16 dc16 pm16 an16 cd16 ct16), sl16⟩)
    (c16 : PySem.W.codeIn K cd16 "_law_names" = true)
    (k16 : PySem.W.keepIn K (.ref f16) = true)
    (a17 : PySem.W.nsIn K mainGlobals "_law_any_row" = some (some (.ref f17)))
    (l17 : K.lookup f17 = some ⟨oc17, od17, .func (PySem.W.fnOf "_law_any_row" "_law_any_row" (defArgs sAnyRow) (defBody sAnyRow) (defScope sAnyRow) .none kV17 dc17 pm17 an17 cd17 ct17), sl17⟩)
    (c17 : PySem.W.codeIn K cd17 "_law_any_row" = true)
    (k17 : PySem.W.keepIn K (.ref f17) = true)
    (a18 : PySem.W.nsIn K mainGlobals "_law_rows" = some (some (.ref f18)))
    (l18 : K.lookup f18 = some ⟨oc18, od18, .func (PySem.W.fnOf "_law_rows" "_law_rows" (defArgs sRows) (defBody sRows) (defScope sRows) .none kV18 dc18 pm18 an18 cd18 ct18), sl18⟩)
    (c18 : PySem.W.codeIn K cd18 "_law_rows" = true)
    (k18 : PySem.W.keepIn K (.ref f18) = true)
    (a19 : PySem.W.nsIn K mainGlobals "_law_doubled" = some (some (.ref f19)))
    (l19 : K.lookup f19 = some ⟨oc19, od19, .func (PySem.W.fnOf "_law_doubled" "_law_doubled" (defArgs sDoubled) (defBody sDoubled) (defScope sDoubled) .none kV19 dc19 pm19 an19 cd19 ct19), sl19⟩)
    (c19 : PySem.W.codeIn K cd19 "_law_doubled" = true)
    (k19 : PySem.W.keepIn K (.ref f19) = true)
    (a20 : PySem.W.nsIn K mainGlobals "_law_threads" = some (some (.ref f20)))
    (l20 : K.lookup f20 = some ⟨oc20, od20, .func (PySem.W.fnOf "_law_threads" "_law_threads" (defArgs sThreads) (defBody sThreads) (defScope sThreads) .none kV20 dc20 pm20 an20 cd20 ct20), sl20⟩)
    (c20 : PySem.W.codeIn K cd20 "_law_threads" = true)
    (k20 : PySem.W.keepIn K (.ref f20) = true)
    (a21 : PySem.W.nsIn K mainGlobals "_law_tried" = some (some (.ref f21)))
    (l21 : K.lookup f21 = some ⟨oc21, od21, .func (PySem.W.fnOf "_law_tried" "_law_tried" (defArgs sTried) (defBody sTried) (defScope sTried) .none kV21 dc21 pm21 an21 cd21 ct21), sl21⟩)
    (c21 : PySem.W.codeIn K cd21 "_law_tried" = true)
    (k21 : PySem.W.keepIn K (.ref f21) = true)
    (a22 : PySem.W.nsIn K mainGlobals "_law_is_name" = some (some (.ref f22)))
    (l22 : K.lookup f22 = some ⟨oc22, od22, .func (PySem.W.fnOf "_law_is_name" "_law_is_name" (defArgs sLName) (defBody sLName) (defScope sLName) .none kV22 dc22 pm22 an22 cd22 ct22), sl22⟩)
    (c22 : PySem.W.codeIn K cd22 "_law_is_name" = true)
    (k22 : PySem.W.keepIn K (.ref f22) = true)
    (a23 : PySem.W.nsIn K mainGlobals "_law_is_worth" = some (some (.ref f23)))
    (l23 : K.lookup f23 = some ⟨oc23, od23, .func (PySem.W.fnOf "_law_is_worth" "_law_is_worth" (defArgs sLWorth) (defBody sLWorth) (defScope sLWorth) .none kV23 dc23 pm23 an23 cd23 ct23), sl23⟩)
    (c23 : PySem.W.codeIn K cd23 "_law_is_worth" = true)
    (k23 : PySem.W.keepIn K (.ref f23) = true)
    (a24 : PySem.W.nsIn K mainGlobals "_law_is_row" = some (some (.ref f24)))
    (l24 : K.lookup f24 = some ⟨oc24, od24, .func (PySem.W.fnOf "_law_is_row" "_law_is_row" (defArgs sLRow) (defBody sLRow) (defScope sLRow) .none kV24 dc24 pm24 an24 cd24 ct24), sl24⟩)
    (c24 : PySem.W.codeIn K cd24 "_law_is_row" = true)
    (k24 : PySem.W.keepIn K (.ref f24) = true)
    (a25 : PySem.W.nsIn K mainGlobals "_law_due" = some (some (.ref f25)))
    (l25 : K.lookup f25 = some ⟨oc25, od25, .func (PySem.W.fnOf "_law_due" "_law_due" (defArgs sDue) (defBody sDue) (defScope sDue) .none kV25 dc25 pm25 an25 cd25 ct25), sl25⟩)
    (c25 : PySem.W.codeIn K cd25 "_law_due" = true)
    (k25 : PySem.W.keepIn K (.ref f25) = true)
    (a26 : PySem.W.nsIn K mainGlobals "_law_odd" = some (some (.ref f26)))
    (l26 : K.lookup f26 = some ⟨oc26, od26, .func (PySem.W.fnOf "_law_odd" "_law_odd" (defArgs sOdd) (defBody sOdd) (defScope sOdd) .none kV26 dc26 pm26 an26 cd26 ct26), sl26⟩)
    (c26 : PySem.W.codeIn K cd26 "_law_odd" = true)
    (k26 : PySem.W.keepIn K (.ref f26) = true)
    (a27 : PySem.W.nsIn K mainGlobals "law" = some (some (.ref f27)))
    (l27 : K.lookup f27 = some ⟨oc27, od27, .func (PySem.W.fnOf "law" "law" (defArgs sLaw) (defBody sLaw) (defScope sLaw) .none kV27 dc27 pm27 an27 cd27 ct27), sl27⟩)
    (c27 : PySem.W.codeIn K cd27 "law" = true)
    (k27 : PySem.W.keepIn K (.ref f27) = true)
    (a28 : PySem.W.findIn K (.ref C) "__init__" = some (some (.ref f28)))
    (l28 : K.lookup f28 = some ⟨oc28, od28, .func (PySem.W.fnOf "__init__" "Program.__init__" (defArgs sProgInit) (defBody sProgInit) (defScope sProgInit) .none kV28 dc28 pm28 an28 cd28 ct28), sl28⟩)
    (c28 : PySem.W.codeIn K cd28 "Program.__init__" = true)
    (k28 : PySem.W.keepIn K (.ref f28) = true)
    (a29 : PySem.W.findIn K (.ref C) "__len__" = some (some (.ref f29)))
    (l29 : K.lookup f29 = some ⟨oc29, od29, .func (PySem.W.fnOf "__len__" "Program.__len__" (defArgs sProgLen) (defBody sProgLen) (defScope sProgLen) .none kV29 dc29 pm29 an29 cd29 ct29), sl29⟩)
    (c29 : PySem.W.codeIn K cd29 "Program.__len__" = true)
    (k29 : PySem.W.keepIn K (.ref f29) = true)
    (a30 : PySem.W.findIn K (.ref CB) "__init__" = some (some (.ref f30)))
    (l30 : K.lookup f30 = some ⟨oc30, od30, .func (PySem.W.fnOf "__init__" "BadProgram.__init__" (defArgs sBadInit) (defBody sBadInit) (defScope sBadInit) .none kV30 dc30 pm30 an30 cd30 ct30), sl30⟩)
    (c30 : PySem.W.codeIn K cd30 "BadProgram.__init__" = true)
    (k30 : PySem.W.keepIn K (.ref f30) = true)
    (a31 : PySem.W.findIn K (.ref CN) "__init__" = some (some (.ref f31)))
    (l31 : K.lookup f31 = some ⟨oc31, od31, .func (PySem.W.fnOf "__init__" "NotOnce.__init__" (defArgs sNotInit) (defBody sNotInit) (defScope sNotInit) .none kV31 dc31 pm31 an31 cd31 ct31), sl31⟩)
    (c31 : PySem.W.codeIn K cd31 "NotOnce.__init__" = true)
    (k31 : PySem.W.keepIn K (.ref f31) = true)
    (a32 : PySem.W.findCls K (.ref CE) (.type "type") "__init__" = some (.val (.ref f32)))
    (l32 : K.lookup f32 = some ⟨oc32, od32, .func (PySem.W.fnOf "__init__" "CellError.__init__" (defArgs sCellInit) (defBody sCellInit) (defScope sCellInit) (.ref TD) kV32 dc32 pm32 an32 cd32 ct32), sl32⟩)
    (c32 : PySem.W.codeIn K cd32 "CellError.__init__" = true)
    (k32 : PySem.W.keepIn K (.ref f32) = true)
    (lT : K.lookup TD = some ⟨ocT, odT, .seq #[.str (Str.ofString "") tkT] nT, slT⟩)
    (aE : PySem.W.nsIn K mainGlobals "CellError" = some (some (.ref CE)))
    (gaE : PySem.W.specialIn K (.ref CE) "__getattribute__" = some (some (.builtin "type.__getattribute__")))
    (rdE : PySem.W.readsIn K CE (.type "type") = true)
    (vV : PySem.W.findCls K (.type "ValueError") (.type "type") "__init__" = some (.val (.builtin "ValueError.__init__")))
    (gCN : PySem.W.nsIn K mainGlobals "NotOnce" = some (some (.ref CN)))
    (xCN : K.lookup CN = some (excClassObj nmCN qCN CN NCN bsCN (bmS CE) true snCN subCN abCN colCN ddCN m0CN m1CN m2CN m3CN m5CN "ValueError.__new__"))
    (saCN : PySem.W.findIn K (.ref CN) "__setattr__" = some (some (.builtin "object.__setattr__")))
    (kpCN : PySem.W.keepIn K (.ref CN) = true)
    (gaCN : PySem.W.findIn K (.ref CN) "__getattribute__" = some (some (.builtin "BaseException.__getattribute__")))
    (ggCN : PySem.W.findIn K (.ref CN) "__getattr__" = some none)
    (nfCN : PySem.W.findIn K (.ref CN) "row" = some none)
    (gCB : PySem.W.nsIn K mainGlobals "BadProgram" = some (some (.ref CB)))
    (xCB : K.lookup CB = some (excClassObj nmCB qCB CB NCB bsCB (bmS CE) true snCB subCB abCB colCB ddCB m0CB m1CB m2CB m3CB m5CB "ValueError.__new__"))
    (saCB : PySem.W.findIn K (.ref CB) "__setattr__" = some (some (.builtin "object.__setattr__")))
    (kpCB : PySem.W.keepIn K (.ref CB) = true)
    (gaCB : PySem.W.findIn K (.ref CB) "__getattribute__" = some (some (.builtin "BaseException.__getattribute__")))
    (ggCB : PySem.W.findIn K (.ref CB) "__getattr__" = some none)
    (nfCB : PySem.W.findIn K (.ref CB) "row" = some none)
    (gC : PySem.W.nsIn K mainGlobals "Program" = some (some (.ref C)))
    (pgC : PySem.W.plainGet K C Str.empty = true)
    (hdC : PySem.W.hasDictIn K C = true)
    (poC : PySem.W.plainOver K C = true)
    (saC : PySem.W.findIn K (.ref C) "__setattr__" = some (some (.builtin "object.__setattr__")))
    (mkC : PySem.W.makesIn K C = true)
    (kcC : PySem.W.keepIn K (.ref C) = true)
    (nRC_rows : PySem.W.findIn K (.ref C) "_rows" = some none)
    (is28 : PySem.W.isFn K (.ref f28) = true)
    (is29 : PySem.W.isFn K (.ref f29) = true)
    (vFEWEST_ROWS : PySem.W.nsIn K mainGlobals "FEWEST_ROWS" = some (some (.int 2 tk1)))
    (vMOST_ROWS : PySem.W.nsIn K mainGlobals "MOST_ROWS" = some (some (.int 60 tk2)))
    (vSHOWN_BELOW : PySem.W.nsIn K mainGlobals "SHOWN_BELOW" = some (some (.int 1000000000000 tk3)))
    (z0 : PySem.W.nsIn K mainGlobals "int" = some none)
    (z1 : PySem.W.nsIn K mainGlobals "len" = some none)
    (z2 : PySem.W.nsIn K mainGlobals "dict" = some none)
    (z3 : PySem.W.nsIn K mainGlobals "range" = some none)
    (z4 : PySem.W.nsIn K mainGlobals "isinstance" = some none)
    (z5 : PySem.W.nsIn K mainGlobals "list" = some none)
    (z6 : PySem.W.nsIn K mainGlobals "tuple" = some none)
    (z7 : PySem.W.nsIn K mainGlobals "bool" = some none)
    (z8 : PySem.W.nsIn K mainGlobals "str" = some none)
    (z9 : PySem.W.nsIn K mainGlobals "all" = some none)
    (z10 : PySem.W.nsIn K mainGlobals "sorted" = some none)
    (z11 : PySem.W.nsIn K mainGlobals "enumerate" = some none)
    (z12 : PySem.W.nsIn K mainGlobals "set" = some none)
    (z13 : PySem.W.nsIn K mainGlobals "abs" = some none)
    (z14 : PySem.W.nsIn K mainGlobals "ValueError" = some none)
    (nd : ([CE, CN, CB] : List Addr).Nodup)
    (ty28 : PySem.W.typeIn K (.ref f28) = some (.type "function"))
    (ty29 : PySem.W.typeIn K (.ref f29) = some (.type "function"))
    (ty30 : PySem.W.typeIn K (.ref f30) = some (.type "function"))
    (ty31 : PySem.W.typeIn K (.ref f31) = some (.type "function")) :
    ∃ fd : FuncData, (∀ (s : Shared) (v : Value), BindsTo s fd ⟨[v], []⟩ [("_law_script", v)]) ∧ ∀ base : Heap, K.In base → base.Ns mainGlobals mg → FnOk P w K mg base CX0 9 fa fd ["_law_script"] (spLaw K) := by
  have e := hfa.symm.trans (PySem.W.mg_of X G a27)
  cases e
  have F0 := fun_mk (st := sShown) l0 c0 k0
  have b0 := F0.binds (ps := ["value"]) fun _ _ _ _ _ _ us hl => match us, hl with | [_], _ => rfl
  have g0 := PySem.W.mg_of X G a0
  have F1 := fun_mk (st := sIsList) l1 c1 k1
  have b1 := F1.binds (ps := ["value"]) fun _ _ _ _ _ _ us hl => match us, hl with | [_], _ => rfl
  have g1 := PySem.W.mg_of X G a1
  have F2 := fun_mk (st := sIsWhole) l2 c2 k2
  have b2 := F2.binds (ps := ["value"]) fun _ _ _ _ _ _ us hl => match us, hl with | [_], _ => rfl
  have g2 := PySem.W.mg_of X G a2
  have F3 := fun_mk (st := sIsName) l3 c3 k3
  have b3 := F3.binds (ps := ["value"]) fun _ _ _ _ _ _ us hl => match us, hl with | [_], _ => rfl
  have g3 := PySem.W.mg_of X G a3
  have F4 := fun_mk (st := sIsNumber) l4 c4 k4
  have b4 := F4.binds (ps := ["value", "many"]) fun _ _ _ _ _ _ us hl => match us, hl with | [_, _], _ => rfl
  have g4 := PySem.W.mg_of X G a4
  have F5 := fun_mk (st := sAreCases) l5 c5 k5
  have b5 := F5.binds (ps := ["value", "many"]) fun _ _ _ _ _ _ us hl => match us, hl with | [_, _], _ => rfl
  have g5 := PySem.W.mg_of X G a5
  have F6 := fun_mk (st := sIsRow) l6 c6 k6
  have b6 := F6.binds (ps := ["value", "many"]) fun _ _ _ _ _ _ us hl => match us, hl with | [_, _], _ => rfl
  have g6 := PySem.W.mg_of X G a6
  have F7 := fun_mk (st := sCopied) l7 c7 k7
  have b7 := F7.binds (ps := ["row"]) fun _ _ _ _ _ _ us hl => match us, hl with | [_], _ => rfl
  have g7 := PySem.W.mg_of X G a7
  have F8 := fun_mk (st := sFollowers) l8 c8 k8
  have b8 := F8.binds (ps := ["row"]) fun _ _ _ _ _ _ us hl => match us, hl with | [_], _ => rfl
  have g8 := PySem.W.mg_of X G a8
  have F9 := fun_mk (st := sWrongRow) l9 c9 k9
  have b9 := F9.binds (ps := ["rows"]) fun _ _ _ _ _ _ us hl => match us, hl with | [_], _ => rfl
  have g9 := PySem.W.mg_of X G a9
  have F10 := fun_mk (st := sIsOnce) l10 c10 k10
  have b10 := F10.binds (ps := ["rows", "first"]) fun _ _ _ _ _ _ us hl => match us, hl with | [_, _], _ => rfl
  have g10 := PySem.W.mg_of X G a10
  have F11 := fun_mk (st := sSource) l11 c11 k11
  have b11 := F11.binds (ps := ["_law_script"]) fun _ _ _ _ _ _ us hl => match us, hl with | [_], _ => rfl
  have g11 := PySem.W.mg_of X G a11
  have F12 := fun_mk (st := sDraw) l12 c12 k12
  have b12 := F12.binds (ps := ["_law_source_here", "_law_many"]) fun _ _ _ _ _ _ us hl => match us, hl with | [_, _], _ => rfl
  have g12 := PySem.W.mg_of X G a12
  have F13 := fun_mk (st := sPick) l13 c13 k13
  have b13 := F13.binds (ps := ["_law_source_here", "_law_things"]) fun _ _ _ _ _ _ us hl => match us, hl with | [_, _], _ => rfl
  have g13 := PySem.W.mg_of X G a13
  have F14 := fun_mk (st := sSubset) l14 c14 k14
  have b14 := F14.binds (ps := ["_law_source_here", "_law_row"]) fun _ _ _ _ _ _ us hl => match us, hl with | [_, _], _ => rfl
  have g14 := PySem.W.mg_of X G a14
  have F15 := fun_mk (st := sName) l15 c15 k15
  have b15 := F15.binds (ps := ["_law_source_here", "_law_taken"]) fun _ _ _ _ _ _ us hl => match us, hl with | [_, _], _ => rfl
  have g15 := PySem.W.mg_of X G a15
  have F16 := fun_mk (st := sNames) l16 c16 k16
  have b16 := F16.binds (ps := ["_law_source_here", "_law_many"]) fun _ _ _ _ _ _ us hl => match us, hl with | [_, _], _ => rfl
  have g16 := PySem.W.mg_of X G a16
  have F17 := fun_mk (st := sAnyRow) l17 c17 k17
  have b17 := F17.binds (ps := ["_law_source_here", "_law_cells", "_law_first", "_law_last", "_law_worths"]) fun _ _ _ _ _ _ us hl => match us, hl with | [_, _, _, _, _], _ => rfl
  have g17 := PySem.W.mg_of X G a17
  have F18 := fun_mk (st := sRows) l18 c18 k18
  have b18 := F18.binds (ps := ["_law_source_here", "_law_cells", "_law_ahead", "_law_behind", "_law_worths"]) fun _ _ _ _ _ _ us hl => match us, hl with | [_, _, _, _, _], _ => rfl
  have g18 := PySem.W.mg_of X G a18
  have F19 := fun_mk (st := sDoubled) l19 c19 k19
  have b19 := F19.binds (ps := ["_law_rows_here"]) fun _ _ _ _ _ _ us hl => match us, hl with | [_], _ => rfl
  have g19 := PySem.W.mg_of X G a19
  have F20 := fun_mk (st := sThreads) l20 c20 k20
  have b20 := F20.binds (ps := ["_law_source_here", "_law_threads_here", "_law_cells", "_law_most"]) fun _ _ _ _ _ _ us hl => match us, hl with | [_, _, _, _], _ => rfl
  have g20 := PySem.W.mg_of X G a20
  have F21 := fun_mk (st := sTried) l21 c21 k21
  have b21 := F21.binds (ps := ["_law_rows_here"]) fun _ _ _ _ _ _ us hl => match us, hl with | [_], _ => rfl
  have g21 := PySem.W.mg_of X G a21
  have F22 := fun_mk (st := sLName) l22 c22 k22
  have b22 := F22.binds (ps := ["_law_value"]) fun _ _ _ _ _ _ us hl => match us, hl with | [_], _ => rfl
  have g22 := PySem.W.mg_of X G a22
  have F23 := fun_mk (st := sLWorth) l23 c23 k23
  have b23 := F23.binds (ps := ["_law_value"]) fun _ _ _ _ _ _ us hl => match us, hl with | [_], _ => rfl
  have g23 := PySem.W.mg_of X G a23
  have F24 := fun_mk (st := sLRow) l24 c24 k24
  have b24 := F24.binds (ps := ["_law_row", "_law_many", "_law_at"]) fun _ _ _ _ _ _ us hl => match us, hl with | [_, _, _], _ => rfl
  have g24 := PySem.W.mg_of X G a24
  have F25 := fun_mk (st := sDue) l25 c25 k25
  have b25 := F25.binds (ps := ["_law_rows_here"]) fun _ _ _ _ _ _ us hl => match us, hl with | [_], _ => rfl
  have g25 := PySem.W.mg_of X G a25
  have F26 := fun_mk (st := sOdd) l26 c26 k26
  have b26 := F26.binds (ps := ["_law_source_here", "_law_many"]) fun _ _ _ _ _ _ us hl => match us, hl with | [_, _], _ => rfl
  have g26 := PySem.W.mg_of X G a26
  have F27 := fun_mk (st := sLaw) l27 c27 k27
  have b27 := F27.binds (ps := ["_law_script"]) fun _ _ _ _ _ _ us hl => match us, hl with | [_], _ => rfl
  have g27 := PySem.W.mg_of X G a27
  have F28 := fun_mk (st := sProgInit) l28 c28 k28
  have b28 := F28.binds (ps := ["self", "rows"]) fun _ _ _ _ _ _ us hl => match us, hl with | [_, _], _ => rfl
  have F29 := fun_mk (st := sProgLen) l29 c29 k29
  have b29 := F29.binds (ps := ["self"]) fun _ _ _ _ _ _ us hl => match us, hl with | [_], _ => rfl
  have F30 := fun_mk (st := sBadInit) l30 c30 k30
  have b30 := F30.binds (ps := ["self", "row"]) fun _ _ _ _ _ _ us hl => match us, hl with | [_, _], _ => rfl
  have F31 := fun_mk (st := sNotInit) l31 c31 k31
  have b31 := F31.binds (ps := ["self", "row"]) fun _ _ _ _ _ _ us hl => match us, hl with | [_, _], _ => rfl
  have FE : FunD K "__init__" "CellError.__init__" (defArgs sCellInit) (defBody sCellInit) (defScope sCellInit) [V.str ""] [] f32 _ := ⟨⟨_, _, _, _, _, _, _, _, _, _, rfl, l32, c32, .inr ⟨(by intro z; cases z), TD, _, [.str (Str.ofString "") tkT], nT, rfl, lT, rfl, .cons ⟨tkT, rfl⟩ .nil⟩, .inl rfl⟩, k32⟩
  obtain ⟨ds, hv, bE⟩ := FE.binds1 (ps := ["self", "why"]) 2 1 (by intro z; cases z) rfl (fun T kV doc pm an cdv ct us its hu hi => match us, hu, its, hi with | [_, _], _, [_], _ => ⟨_, rfl, rfl⟩)
  cases hv
  have n_int := PySem.W.mg_none_of X G z0
  have n_len := PySem.W.mg_none_of X G z1
  have n_dict := PySem.W.mg_none_of X G z2
  have n_range := PySem.W.mg_none_of X G z3
  have n_isinstance := PySem.W.mg_none_of X G z4
  have n_list := PySem.W.mg_none_of X G z5
  have n_tuple := PySem.W.mg_none_of X G z6
  have n_bool := PySem.W.mg_none_of X G z7
  have n_str := PySem.W.mg_none_of X G z8
  have n_all := PySem.W.mg_none_of X G z9
  have n_sorted := PySem.W.mg_none_of X G z10
  have n_enumerate := PySem.W.mg_none_of X G z11
  have n_set := PySem.W.mg_none_of X G z12
  have n_abs := PySem.W.mg_none_of X G z13
  have n_ValueError := PySem.W.mg_none_of X G z14
  have c_FEWEST_ROWS := PySem.W.mg_of X G vFEWEST_ROWS
  have c_MOST_ROWS := PySem.W.mg_of X G vMOST_ROWS
  have c_SHOWN_BELOW := PySem.W.mg_of X G vSHOWN_BELOW
  have m_CE := PySem.W.mg_of X G aE
  have cM : ClsFn K CE "__init__" f32 := ⟨gaE, rdE, a32⟩
  have m_CN := PySem.W.mg_of X G gCN
  have oCN : OexC K CN := ⟨⟨_, _, _, _, _, _, _, _, _, _, _, _, _, _, _, xCN, refs_S⟩, saCN, ec_sub xCN (has_base _), ec_type xCN, kpCN⟩
  have xfCN : XfC K CN := ⟨gaCN, ggCN, ec_sub xCN (has_base _), ec_dict xCN⟩
  have esCN := exm_of (ec_sub xCN (has_base _)) (ec_some xCN) (ec_type xCN) (ec_self xCN)
  have m_CB := PySem.W.mg_of X G gCB
  have oCB : OexC K CB := ⟨⟨_, _, _, _, _, _, _, _, _, _, _, _, _, _, _, xCB, refs_S⟩, saCB, ec_sub xCB (has_base _), ec_type xCB, kpCB⟩
  have xfCB : XfC K CB := ⟨gaCB, ggCB, ec_sub xCB (has_base _), ec_dict xCB⟩
  have esCB := exm_of (ec_sub xCB (has_base _)) (ec_some xCB) (ec_type xCB) (ec_self xCB)
  have m_C := PySem.W.mg_of X G gC
  have cC : Cls K C := ⟨pgC, hdC, poC, saC⟩
  have mk_C : Mk K C f28 := ⟨mkC, a28, is28, kcC⟩
  refine ⟨PySem.W.fnOf "law" "law" (defArgs sLaw) (defBody sLaw) (defScope sLaw) .none kV27 dc27 pm27 an27 cd27 ct27, fun s v => .of_eq rfl, fun base _ _ => ?_⟩
  have G_shown := ok_shown (P := P) (w := w) (base := base) F0 n_isinstance n_str n_int n_abs c_SHOWN_BELOW
  have GE := ok_cellinit (P := P) (w := w) (base := base) FE G_shown g0 k0 b0 n_ValueError vV
  have GN := ok_notinit (P := P) (w := w) (base := base) (C := CN) F31 G_shown g0 k0 b0 GE m_CE cM k32 bE nfCN
  have GB := ok_badinit (P := P) (w := w) (base := base) (C := CB) F30 G_shown g0 k0 b0 GE m_CE cM k32 bE nfCB
  have G_is_list := ok_listG (P := P) (w := w) (base := base) F1 n_isinstance n_list n_tuple
  have G_is_whole := ok_wholeG (P := P) (w := w) (base := base) F2 n_isinstance n_int n_bool
  have G_is_number := ok_numG (P := P) (w := w) (base := base) F4 G_is_whole g2 k2 b2
  have G_is_name := ok_nameG (P := P) (w := w) (base := base) F3 n_isinstance n_str n_len
  have G_are_cases := ok_casesG (P := P) (w := w) (base := base) F5 G_is_whole g2 k2 b2 G_is_number g4 k4 b4 n_isinstance n_dict n_all
  have G_is_row := ok_rowG (P := P) (w := w) (base := base) F6 G_is_list g1 k1 b1 G_is_whole g2 k2 b2 G_is_name g3 k3 b3 G_is_number g4 k4 b4 G_are_cases g5 k5 b5 n_isinstance n_str n_len
  have G_copied := ok_copied (P := P) (w := w) (base := base) F7 n_tuple n_sorted
  have G_followers := ok_followers (P := P) (w := w) (base := base) F8 n_list
  have G_wrong_row := ok_wrongG (P := P) (w := w) (base := base) F9 G_is_list g1 k1 b1 G_is_row g6 k6 b6 n_len n_enumerate c_FEWEST_ROWS c_MOST_ROWS
  have G_is_once := ok_isonce (P := P) (w := w) (base := base) F10 G_followers g8 k8 b8 n_set
  have TT : TxtP K mg C CN f31 := ⟨cC, nRC_rows, m_CN, oCN, a31, ty31, nfCN⟩
  have TB : TxtB K mg CB f30 := ⟨m_CB, oCB, a30, ty30⟩
  have GI := ok_proginit (P := P) (w := w) (base := base) F28 TT TB GB b30 GN b31 G_wrong_row g9 k9 b9 G_copied g7 k7 b7 G_is_once g10 k10 b10 n_tuple n_enumerate
  have GL := ok_proglen (P := P) (w := w) (base := base) F29 cC nRC_rows n_len
  have G__law_source := ok_source (P := P) (w := w) (base := base) F11 n_int
  have G__law_draw := ok_draw (P := P) (w := w) (base := base) F12 n_int
  have G__law_pick := ok_pick (P := P) (w := w) (base := base) F13 G__law_draw g12 k12 b12 n_len
  have G__law_subset := ok_subset (P := P) (w := w) (base := base) F14 G__law_draw g12 k12 b12
  have G__law_name := ok_name (P := P) (w := w) (base := base) F15 G__law_draw g12 k12 b12 n_range
  have G__law_names := ok_names (P := P) (w := w) (base := base) F16 G__law_name g15 k15 b15 n_range
  have G__law_any_row := ok_anyrow (P := P) (w := w) (base := base) F17 G__law_draw g12 k12 b12 G__law_pick g13 k13 b13 G__law_subset g14 k14 b14 n_dict
  have G__law_rows := ok_rows (P := P) (w := w) (base := base) F18 G__law_draw g12 k12 b12 G__law_any_row g17 k17 b17 n_len n_range
  have G__law_doubled := ok_doubled (P := P) (w := w) (base := base) F19 n_len n_range n_dict
  have G__law_threads := ok_threads (P := P) (w := w) (base := base) F20 G__law_draw g12 k12 b12 G__law_rows g18 k18 b18 G__law_doubled g19 k19 b19 n_range
  have apart := List.nodup_cons.mp nd
  have nCN : CN ≠ CB := fun z => (List.nodup_cons.mp apart.2).1 (by rw [z]; simp)
  have nCE : CE ≠ CB := fun z => apart.1 (by rw [z]; simp)
  have G__law_tried := ok_tried (P := P) (w := w) (base := base) F21 mk_C m_C GI b28 GL b29 a29 is29 m_CB xfCB nfCB esCB m_CN esCN (exm_of (ec_sub xCB (has_base _)) (ec_some xCB) (ec_type xCB) (ec_not xCN nCN nCE)) n_len
  have G__law_is_name := ok_lname (P := P) (w := w) (base := base) F22 n_isinstance n_str n_len n_all
  have G__law_is_worth := ok_lworth (P := P) (w := w) (base := base) F23 n_isinstance n_int n_bool
  have G__law_is_row := ok_lrow (P := P) (w := w) (base := base) F24 G__law_is_worth g23 k23 b23 G__law_is_name g22 k22 b22 n_isinstance n_str n_len n_list n_tuple n_dict n_all
  have G__law_due := ok_due (P := P) (w := w) (base := base) F25 G__law_is_row g24 k24 b24 n_len n_enumerate n_isinstance n_list n_tuple
  have G__law_odd := ok_odd (P := P) (w := w) (base := base) F26 G__law_pick g13 k13 b13
  exact ok_law (P := P) (w := w) (base := base) F27 G__law_source g11 k11 b11 G__law_draw g12 k12 b12 G__law_pick g13 k13 b13 G__law_names g16 k16 b16 G__law_threads g20 k20 b20 G__law_tried g21 k21 b21 G__law_due g25 k25 b25 G__law_odd g26 k26 b26 n_range n_len
end CC
set_option Elab.async false
set_option maxRecDepth 100000
namespace CC
open PySem L2
theorem walk {l : PySem.W.OpenLaw} {q : Program} {loose : List Str} {XP : (Str → Option Value) → Heap → Prop} {YP : World → Heap → Prop} {d : DefRec} {K : Params → PySem.W.Frag} (hn : l.most = some 63) (hdf : d.params.defaults = [])
    (hY : ∀ (w : World) (h : Heap), YP w h → (K w.params).In h)
    (F : ∀ (w : World) (mg : Str → Option Value) (fa : Addr) (h : Heap), (K w.params).In h → h.Ns mainGlobals mg → mg d.name = some (.ref fa) →
      ∃ fd : FuncData, (∀ (s : Shared) (u : Value), BindsTo s fd ⟨[u], []⟩ [("_law_script", u)]) ∧ ∀ base : Heap, (K w.params).In base → base.Ns mainGlobals mg → FnOk l.prog w (K w.params) mg base CX0 9 fa fd ["_law_script"] (spLaw (K w.params))) :
    PySem.W.WalkO q loose XP YP l.row.toRowW d [] (fun f vs => PySem.call f vs) :=
  L2.walk_of (n := 63) (k := 9) (x := "_law_script") (CX := fun _ => CX0) (sp := fun w => spLaw (K w.params)) hn (by decide) hdf ⟨rfl, by decide, by decide⟩ hY F (fun _ _ a ns hl _ hS => ⟨a, ns, rfl, hS, fun _ => rfl⟩) fun _ _ _ _ _ z => z
end CC
open PySem PySem.W PyProof.Rows
set_option maxRecDepth 100000 in
set_option maxHeartbeats 0 in
theorem PySem.Challenge.cw_coveredcells_k02_bad_programs_holds : PySem.Challenge.rw_coveredcells_k02_bad_programs.Holds := by
  w_on; o_law; k_head; (case hw => w_witness2)
  k_fill
  refine CC.walk (l := PySem.Challenge.rw_coveredcells_k02_bad_programs) rfl rfl (fun w h Y => PySem.W.kIn_of Y) ?F
  case F =>
    intro w mg fa h KX G hmg
    refine' CC.all_mk KX G hmg ?ha0 ?hl0 ?hc0 ?hk0 ?ha1 ?hl1 ?hc1 ?hk1 ?ha2 ?hl2 ?hc2 ?hk2 ?ha3 ?hl3 ?hc3 ?hk3 ?ha4 ?hl4 ?hc4 ?hk4 ?ha5 ?hl5 ?hc5 ?hk5 ?ha6 ?hl6 ?hc6 ?hk6 ?ha7 ?hl7 ?hc7 ?hk7 ?ha8 ?hl8 ?hc8 ?hk8 ?ha9 ?hl9 ?hc9 ?hk9 ?ha10 ?hl10 ?hc10 ?hk10 ?ha11 ?hl11 ?hc11 ?hk11 ?ha12 ?hl12 ?hc12 ?hk12 ?ha13 ?hl13 ?hc13 ?hk13 ?ha14 ?hl14 ?hc14 ?hk14 ?ha15 ?hl15 ?hc15 ?hk15 ?ha16 ?hl16 ?hc16 ?hk16 ?ha17 ?hl17 ?hc17 ?hk17 ?ha18 ?hl18 ?hc18 ?hk18 ?ha19 ?hl19 ?hc19 ?hk19 ?ha20 ?hl20 ?hc20 ?hk20 ?ha21 ?hl21 ?hc21 ?hk21 ?ha22 ?hl22 ?hc22 ?hk22 ?ha23 ?hl23 ?hc23 ?hk23 ?ha24 ?hl24 ?hc24 ?hk24 ?ha25 ?hl25 ?hc25 ?hk25 ?ha26 ?hl26 ?hc26 ?hk26 ?ha27 ?hl27 ?hc27 ?hk27 ?ha28 ?hl28 ?hc28 ?hk28 ?ha29 ?hl29 ?hc29 ?hk29 ?ha30 ?hl30 ?hc30 ?hk30 ?ha31 ?hl31 ?hc31 ?hk31 ?ha32 ?hl32 ?hc32 ?hk32 ?hlT ?haE ?hgaE ?hrdE ?hvV ?hgCN ?hxCN ?hsaCN ?hkpCN ?hgaCN ?hggCN ?hnfCN ?hgCB ?hxCB ?hsaCB ?hkpCB ?hgaCB ?hggCB ?hnfCB ?hgC ?hpgC ?hhdC ?hpoC ?hsaC ?hmkC ?hkcC ?hnRC_rows ?his28 ?his29 ?hvFEWEST_ROWS ?hvMOST_ROWS ?hvSHOWN_BELOW ?hz0 ?hz1 ?hz2 ?hz3 ?hz4 ?hz5 ?hz6 ?hz7 ?hz8 ?hz9 ?hz10 ?hz11 ?hz12 ?hz13 ?hz14 ?hnd ?hty28 ?hty29 ?hty30 ?hty31
    (case ha0 => k_is)
    (case ha1 => k_is)
    (case ha2 => k_is)
    (case ha3 => k_is)
    (case ha4 => k_is)
    (case ha5 => k_is)
    (case ha6 => k_is)
    (case ha7 => k_is)
    (case ha8 => k_is)
    (case ha9 => k_is)
    (case ha10 => k_is)
    (case ha11 => k_is)
    (case ha12 => k_is)
    (case ha13 => k_is)
    (case ha14 => k_is)
    (case ha15 => k_is)
    (case ha16 => k_is)
    (case ha17 => k_is)
    (case ha18 => k_is)
    (case ha19 => k_is)
    (case ha20 => k_is)
    (case ha21 => k_is)
    (case ha22 => k_is)
    (case ha23 => k_is)
    (case ha24 => k_is)
    (case ha25 => k_is)
    (case ha26 => k_is)
    (case ha27 => k_is)
    (case haE => k_is)
    (case hgCN => k_is)
    (case hgCB => k_is)
    (case hgC => k_is)
    (case hvFEWEST_ROWS => k_is)
    (case hvMOST_ROWS => k_is)
    (case hvSHOWN_BELOW => k_is)
    (case hz0 => k_is)
    (case hz1 => k_is)
    (case hz2 => k_is)
    (case hz3 => k_is)
    (case hz4 => k_is)
    (case hz5 => k_is)
    (case hz6 => k_is)
    (case hz7 => k_is)
    (case hz8 => k_is)
    (case hz9 => k_is)
    (case hz10 => k_is)
    (case hz11 => k_is)
    (case hz12 => k_is)
    (case hz13 => k_is)
    (case hz14 => k_is)
    (case hl0 => k_is)
    (case hc0 => k_is)
    (case hk0 => k_is)
    (case hl1 => k_is)
    (case hc1 => k_is)
    (case hk1 => k_is)
    (case hl2 => k_is)
    (case hc2 => k_is)
    (case hk2 => k_is)
    (case hl3 => k_is)
    (case hc3 => k_is)
    (case hk3 => k_is)
    (case hl4 => k_is)
    (case hc4 => k_is)
    (case hk4 => k_is)
    (case hl5 => k_is)
    (case hc5 => k_is)
    (case hk5 => k_is)
    (case hl6 => k_is)
    (case hc6 => k_is)
    (case hk6 => k_is)
    (case hl7 => k_is)
    (case hc7 => k_is)
    (case hk7 => k_is)
    (case hl8 => k_is)
    (case hc8 => k_is)
    (case hk8 => k_is)
    (case hl9 => k_is)
    (case hc9 => k_is)
    (case hk9 => k_is)
    (case hl10 => k_is)
    (case hc10 => k_is)
    (case hk10 => k_is)
    (case hl11 => k_is)
    (case hc11 => k_is)
    (case hk11 => k_is)
    (case hl12 => k_is)
    (case hc12 => k_is)
    (case hk12 => k_is)
    (case hl13 => k_is)
    (case hc13 => k_is)
    (case hk13 => k_is)
    (case hl14 => k_is)
    (case hc14 => k_is)
    (case hk14 => k_is)
    (case hl15 => k_is)
    (case hc15 => k_is)
    (case hk15 => k_is)
    (case hl16 => k_is)
    (case hc16 => k_is)
    (case hk16 => k_is)
    (case hl17 => k_is)
    (case hc17 => k_is)
    (case hk17 => k_is)
    (case hl18 => k_is)
    (case hc18 => k_is)
    (case hk18 => k_is)
    (case hl19 => k_is)
    (case hc19 => k_is)
    (case hk19 => k_is)
    (case hl20 => k_is)
    (case hc20 => k_is)
    (case hk20 => k_is)
    (case hl21 => k_is)
    (case hc21 => k_is)
    (case hk21 => k_is)
    (case hl22 => k_is)
    (case hc22 => k_is)
    (case hk22 => k_is)
    (case hl23 => k_is)
    (case hc23 => k_is)
    (case hk23 => k_is)
    (case hl24 => k_is)
    (case hc24 => k_is)
    (case hk24 => k_is)
    (case hl25 => k_is)
    (case hc25 => k_is)
    (case hk25 => k_is)
    (case hl26 => k_is)
    (case hc26 => k_is)
    (case hk26 => k_is)
    (case hl27 => k_is)
    (case hc27 => k_is)
    (case hk27 => k_is)
    (case ha28 => k_is)
    (case hl28 => k_is)
    (case hc28 => k_is)
    (case hk28 => k_is)
    (case ha29 => k_is)
    (case hl29 => k_is)
    (case hc29 => k_is)
    (case hk29 => k_is)
    (case ha30 => k_is)
    (case hl30 => k_is)
    (case hc30 => k_is)
    (case hk30 => k_is)
    (case ha31 => k_is)
    (case hl31 => k_is)
    (case hc31 => k_is)
    (case hk31 => k_is)
    (case ha32 => k_is)
    (case hl32 => k_is)
    (case hc32 => k_is)
    (case hk32 => k_is)
    (case hlT => k_is)
    (case hgaE => k_is)
    (case hrdE => k_is)
    (case hvV => k_is)
    (case hxCN => k_is)
    (case hsaCN => k_is)
    (case hkpCN => k_is)
    (case hgaCN => k_is)
    (case hggCN => k_is)
    (case hnfCN => k_is)
    (case hxCB => k_is)
    (case hsaCB => k_is)
    (case hkpCB => k_is)
    (case hgaCB => k_is)
    (case hggCB => k_is)
    (case hnfCB => k_is)
    (case hpgC => k_is)
    (case hhdC => k_is)
    (case hpoC => k_is)
    (case hsaC => k_is)
    (case hmkC => k_is)
    (case hkcC => k_is)
    (case hnRC_rows => k_is)
    (case his28 => k_is)
    (case his29 => k_is)
    (case hty28 => k_is)
    (case hty29 => k_is)
    (case hty30 => k_is)
    (case hty31 => k_is)
    (case hnd => decide)
