import PyProof.Rows.All
import Wide.All
import OpenK.AllK
import Wide.FinOn
import HandS.ForMost
import PySem.Challenge.RW_coveredcells_k03_inside_just_once
import HandS.Walk
import HandS.IsInst
import HandS.StrMore
import HandS.Flow
import HandS.More
import HandS.DictComp
import KE.GoesEnum
import HandS.TupSets
import HandS.ExcInit
import HandS.ClsMeth
import HandS.Defaults
import HandS.FStr
import HandS.ForExc
import HandS.ExcField
import HandS.Deep
set_option Elab.async false
set_option maxRecDepth 100000
/-! The drawing part of the laws: the source of draws, the draws, a picked item, a subset. -/
namespace CC
open PySem L2
set_option linter.unusedVariables false
def top (i : Nat) : Stmt := PySem.Challenge.pw_coveredcells_k03_inside_just_once.main.body.getD i (.Pass ⟨0, 0, 0, 0⟩)
abbrev sSource : Stmt := top 23
abbrev sDraw : Stmt := top 24
abbrev sPick : Stmt := top 25
abbrev sSubset : Stmt := top 26
/-- all that stood stands, but perhaps what stands at p -/
def Grow (p : Addr) (H H' : Hp) : Prop := ∀ b o, H b = some o → b ≠ p → H' b = some o
theorem Grow.rfl' {p : Addr} {H : Hp} : Grow p H H := fun _ _ e _ => e
theorem Grow.trans {p : Addr} {H H1 H2 : Hp} (a : Grow p H H1) (b : Grow p H1 H2) : Grow p H H2 := fun q o e n => b q o (a q o e n) n
theorem Grow.new {p q : Addr} {o : HO} {H : Hp} (h : H q = none) : Grow p H (upd H q o) := fun b u e _ => by
  rw [upd_ne (ne_of_none e h)]
  exact e
theorem Grow.at_ {p : Addr} {o : HO} {H : Hp} : Grow p H (upd H p o) := fun b u e n => by
  rw [upd_ne n]
  exact e
theorem Grow.put {p q : Addr} {o : HO} {H H1 : Hp} (g : Grow p H H1) (h : H q = none) : Grow p H (upd H1 q o) := fun b u e n => by
  rw [upd_ne (ne_of_none e h)]
  exact g b u e n
theorem small {n : Nat} (h : n < 1000000) : n < sizeLine := by
  rw [PySem.sizeLine_eq]
  omega
/-- the source of draws at p: its three numbers; at most n draws have been done -/
def Src (p : Addr) (n : Nat) (H : Hp) : Prop := ∃ g s c : Int, H p = some (.lst [.int g, .int s, .int c]) ∧ 0 ≤ s ∧ s < 2147483647 ∧ 0 ≤ c ∧ c ≤ (n : Int)
theorem Src.le {p : Addr} {n m : Nat} {H : Hp} (h : Src p n H) (e : n ≤ m) : Src p m H := by
  obtain ⟨g, s, c, a, b, d, f, z⟩ := h
  exact ⟨g, s, c, a, b, d, f, by omega⟩
theorem Src.new {p q : Addr} {n : Nat} {o : HO} {H : Hp} (h : Src p n H) (hq : H q = none) : Src p n (upd H q o) := by
  obtain ⟨g, s, c, a, r⟩ := h
  exact ⟨g, s, c, by rw [upd_ne (ne_of_none a hq)]; exact a, r⟩
theorem Src.ne {p q : Addr} {n : Nat} {H : Hp} (h : Src p n H) (hq : H q = none) : p ≠ q := by
  obtain ⟨g, s, c, a, r⟩ := h
  exact ne_of_none a hq
theorem Src.put {p q : Addr} {n : Nat} {o : HO} {H : Hp} (h : Src p n H) (hq : p ≠ q) : Src p n (upd H q o) := by
  obtain ⟨g, s, c, a, r⟩ := h
  exact ⟨g, s, c, by rw [upd_ne hq]; exact a, r⟩
def spSource (K : PySem.W.Frag) : Sp := fun vs H Q _ => ∃ (a : Addr) (ns : List Int), vs = [.ref a] ∧ SqL K H a (ns.map V.int) ∧
  ∀ (p : Addr) (H' : Hp), Same H H' → H p = none → Src p 0 H' → Q (.ref p) H'
def spDraw : Sp := fun vs H Q _ => ∃ (p : Addr) (n : Nat) (m : Int), vs = [.ref p, .int m] ∧ Src p n H ∧ n < 1000000 ∧ 0 < m ∧ m < 1000000 ∧
  ∀ (r : Int) (H' : Hp), 0 ≤ r → r < m → Grow p H H' → Src p (n + 1) H' → Q (.int r) H'
section
variable {P : Program} {w : World} {K : PySem.W.Frag} {mg : Str → Option Value} {base : Heap}
theorem mod_lo (a : Int) : 0 ≤ a.fmod 2147483647 ∧ a.fmod 2147483647 < 2147483647 := ⟨Int.fmod_nonneg_of_pos a (by decide), Int.fmod_lt_of_pos a (by decide)⟩
theorem scSource : FnScope ["_law_script", "_law_great", "_law_seed", "_law_cell"] ["_law_script"] (defScope sSource) := ⟨rfl, rfl, rfl, by decide +kernel, rfl, by decide +kernel, by decide +kernel⟩
theorem ok_source {f : Addr} {fd : FuncData} (F : Fun K "_law_source" "_law_source" sSource f fd) (ti : mg "int" = none) : FnOk P w K mg base CX0 1 f fd ["_law_script"] (spSource K) := by
  refine F.ok scSource (fun vs H Q E h => ?_) (fun cdv A outer s H vs Q E hr h => ?_)
  · obtain ⟨a, ns, rfl, _⟩ := h
    rfl
  · obtain ⟨a, ns, rfl, hS, k⟩ := h
    refine ⟨_, pss_cons (ps_asg (pe_tup (pa_cons pe_int (pa_cons pe_int pa_nil))) (pg_tup (by rfl) (pgs_cons (pg_name (i := 1) scSource.nd rfl (Or.inl rfl)) (pgs_cons (pg_name (i := 2) scSource.nd rfl (Or.inl rfl)) pgs_nil))))
      (pss_cons (ps_for PassesOwn.never rfl (pi_list (pv 0)) (pg_name (i := 3) scSource.nd rfl (Or.inl rfl))
        (pss_cons (ps_if (PW.pt (pw_and (pt_cmpR op_eq (pv 1) pe_int (nomark _)) (pw_and1 (pt_cmpR op_ge (pv 3) (pe_op op_pow pe_int pe_int) (nomark _)))))
          (pss_one (ps_set (i := 1) scSource.nd rfl (Or.inl rfl) (pv 3))) pss_nil)
        (pss_one (ps_set (i := 2) scSource.nd rfl (Or.inl rfl) (pe_op op_modN (pe_callTy call_int1 (by rfl) ti (by decide +kernel) (pa_cons (pe_op op_add (pe_op op_add (pe_op op_mul (pv 2) pe_int) (pv 3)) pe_int) pa_nil)) pe_int)))))
      (pss_one (ps_ret (pe_lst (pa_cons (pv 1) (pa_cons (pv 2) (pa_cons pe_int pa_nil))))))), ?_⟩
    refine ⟨(by show 2 ≤ sizeLine; decide), fun t ht => ?_⟩
    have s1 : Same H (upd H t (.tup [V.int 0, V.int 17])) := fun b o e => by
      rw [upd_ne (ne_of_none e ht)]
      exact e
    refine ⟨t, _, rfl, SqT.of upd_same, rfl, _, _, rfl, _, _, rfl, rfl, ?_⟩
    refine ⟨_, rfl, a, rfl, ⟨_, s1.seq hS⟩, for_list (K := K) (a := a) (xs := ns.map V.int) (fun i σ H2 => ∃ (g z : Int) (v : Option V), σ = [some (.ref a), some (.int g), some (.int z), v] ∧ Same H H2 ∧ 0 ≤ z ∧ z < 2147483647)
      ⟨0, 17, none, rfl, s1, by decide, by decide⟩ (fun i σ H2 _ ⟨_, _, _, _, e, _⟩ => e.seq hS) ?_ ?_⟩
    · rintro i y σ H2 hi ⟨g, z, v, rfl, s2, z0, z1⟩
      obtain ⟨x, rfl⟩ : ∃ x, y = V.int x := by
        rw [List.getElem?_map] at hi
        cases e : ns[i]? with
        | none =>
          rw [e] at hi
          cases hi
        | some x =>
          rw [e] at hi
          exact ⟨x, (Option.some.inj hi).symm⟩
      have md := mod_lo (z * 31 + x + 7)
      -- great == 0 and cell >= 10 ** 18
      refine ⟨_, rfl, rfl, _, rfl, ?_⟩
      refine ite2 (fun _ => ?_) (fun _ => iteF ?_)
      · refine ⟨_, rfl, _, _, rfl, rfl, ⟨by decide, by decide, by decide⟩, _, _, rfl, rfl, _, rfl, ?_⟩
        refine ite2 (fun _ => ?_) (fun _ => ?_)
        · refine ⟨_, rfl, ?_⟩
          exact ⟨_, rfl, _, _, rfl, rfl, Or.inr ⟨by decide, by decide⟩, _, rfl, _, _, rfl, rfl, _, _, rfl, rfl, Or.inl ⟨_, rfl, _, _, rfl, rfl, (by show (2147483647 : Int) ≠ 0; decide), _, _, _, rfl, s2, md.1, md.2⟩⟩
        · exact ⟨_, rfl, _, _, rfl, rfl, Or.inr ⟨by decide, by decide⟩, _, rfl, _, _, rfl, rfl, _, _, rfl, rfl, Or.inl ⟨_, rfl, _, _, rfl, rfl, (by show (2147483647 : Int) ≠ 0; decide), _, _, _, rfl, s2, md.1, md.2⟩⟩
      · exact ⟨_, rfl, _, _, rfl, rfl, Or.inr ⟨by decide, by decide⟩, _, rfl, _, _, rfl, rfl, _, _, rfl, rfl, Or.inl ⟨_, rfl, _, _, rfl, rfl, (by show (2147483647 : Int) ≠ 0; decide), _, _, _, rfl, s2, md.1, md.2⟩⟩
    · rintro σ H2 ⟨g, z, v, rfl, s2, z0, z1⟩
      refine ⟨_, rfl, _, rfl, (by show 3 ≤ sizeLine; decide), fun p hp => ?_⟩
      refine k p _ (fun b o e => ?_) (s2.free hp) ⟨g, z, 0, upd_same, z0, z1, by omega, by omega⟩
      rw [upd_ne (ne_of_none (s2 b o e) hp)]
      exact s2 b o e
theorem at0 {x y z : V} : atI [x, y, z] 0 = some x := rfl
theorem at1 {x y z : V} : atI [x, y, z] 1 = some y := rfl
theorem at2 {x y z : V} : atI [x, y, z] 2 = some z := rfl
theorem md_lo (a : Int) {m : Int} (h : 0 < m) : 0 ≤ a.fmod m ∧ a.fmod m < m := ⟨Int.fmod_nonneg_of_pos a h, Int.fmod_lt_of_pos a h⟩
theorem abs_lt {a : Int} (h : 0 ≤ a) (k : a < 2 ^ 64) : a.natAbs < 2 ^ 64 := by omega
theorem sq_lt {c : Int} (h : 0 ≤ c) (k : c ≤ 1000000) : 0 ≤ 16807 * c * c ∧ 16807 * c * c ≤ 16807000000 * 1000000 := by
  have h1 : 16807 * c ≤ 16807000000 := by omega
  have h0 : 0 ≤ 16807 * c := by omega
  exact ⟨Int.mul_nonneg h0 h, Int.mul_le_mul h1 k h (by decide)⟩
theorem scDraw : FnScope ["_law_source_here", "_law_many", "_law_digit", "_law_mixed"] ["_law_source_here", "_law_many"] (defScope sDraw) := ⟨rfl, rfl, rfl, by decide +kernel, rfl, by decide +kernel, by decide +kernel⟩
theorem ok_draw {f : Addr} {fd : FuncData} (F : Fun K "_law_draw" "_law_draw" sDraw f fd) (ti : mg "int" = none) : FnOk P w K mg base CX0 1 f fd ["_law_source_here", "_law_many"] spDraw := by
  refine F.ok scDraw (fun vs H Q E h => ?_) (fun cdv A outer s H vs Q E hr h => ?_)
  · obtain ⟨p, n, m, rfl, _⟩ := h
    rfl
  · obtain ⟨p, n, m, rfl, ⟨g, z, c, hp, z0, z1, c0, c1⟩, hn, m0, m1, k⟩ := h
    refine ⟨_, pss_cons (ps_asg (pe_op op_add (pe_ix ix_list (pv 0) pe_int (fun _ _ => rfl)) pe_int) (pg_sub (pv 0) pe_int set_list))
      (pss_cons (ps_if (pt_cmpR op_gt (pe_ix ix_list (pv 0) pe_int (fun _ _ => rfl)) pe_int (nomark _))
        (pss_cons (ps_set (i := 2) scDraw.nd rfl (Or.inl rfl) (pe_op op_modN (pe_callTy call_int1 (by rfl) ti (by decide +kernel) (pa_cons (pe_ix ix_list (pv 0) pe_int (fun _ _ => rfl)) pa_nil)) (pv 1)))
        (pss_cons (ps_asg (pe_op op_fdivN (pe_ix ix_list (pv 0) pe_int (fun _ _ => rfl)) (pv 1)) (pg_sub (pv 0) pe_int set_list))
        (pss_one (ps_ret (pv 2))))) pss_nil)
      (pss_cons (ps_set (i := 3) scDraw.nd rfl (Or.inl rfl) (pe_op op_modN (pe_op op_pow (pe_op op_add (pe_ix ix_list (pv 0) pe_int (fun _ _ => rfl)) (pe_op op_mul pe_int (pe_ix ix_list (pv 0) pe_int (fun _ _ => rfl)))) pe_int) pe_int))
      (pss_one (ps_ret (pe_op op_modN (pe_op op_modN (pe_op op_pow (pe_op op_add (pe_op op_add (pe_op op_mul (pv 3) pe_int) (pe_op op_mul (pe_op op_mul pe_int (pe_ix ix_list (pv 0) pe_int (fun _ _ => rfl))) (pe_ix ix_list (pv 0) pe_int (fun _ _ => rfl)))) pe_int) pe_int) pe_int) (pv 1)))))), ?_⟩
    refine ⟨_, rfl, p, _, _, _, rfl, rfl, SqL.of hp, at2, _, _, rfl, rfl, _, rfl, p, _, _, 2, rfl, rfl, hp, rfl, ?_⟩
    have h1 : (upd H p (.lst [V.int g, V.int z, V.int (c + 1)])) p = some (.lst [V.int g, V.int z, V.int (c + 1)]) := upd_same
    refine ⟨_, rfl, p, _, _, _, rfl, rfl, SqL.of h1, at0, _, _, rfl, rfl, _, rfl, ?_⟩
    have mm := md_lo g m0
    refine ite2 (fun _ => ?_) (fun _ => ?_)
    · refine ⟨_, rfl, p, _, _, _, rfl, rfl, SqL.of h1, at0, Or.inl ⟨_, rfl, _, rfl, _, _, rfl, rfl, (by show m ≠ 0; omega), ?_⟩⟩
      refine ⟨_, rfl, p, _, _, _, rfl, rfl, SqL.of h1, at0, _, rfl, _, _, rfl, rfl, ⟨by omega, by omega⟩, _, rfl, p, _, _, 0, rfl, rfl, h1, rfl, ?_⟩
      refine ⟨_, rfl, k _ _ mm.1 mm.2 (Grow.at_.trans Grow.at_) ⟨_, _, _, upd_same, z0, z1, by omega, by omega⟩⟩
    · refine ⟨_, rfl, p, _, _, _, rfl, rfl, SqL.of h1, at1, _, rfl, p, _, _, _, rfl, rfl, SqL.of h1, at2, _, _, rfl, rfl, Or.inl ⟨by decide, by decide⟩, _, _, rfl, rfl, _, _, rfl, rfl, ⟨by decide, by decide, abs_lt (by omega) (by omega)⟩, _, _, rfl, rfl, (by show (2147483629 : Int) ≠ 0; decide), ?_⟩
      have e1 := md_lo ((z + 7919 * (c + 1)) ^ (5 : Int).toNat) (m := 2147483629) (by decide)
      have e2 := sq_lt (c := c + 1) (by omega) (by omega)
      refine ⟨_, rfl, _, _, rfl, rfl, Or.inr ⟨by decide, by decide⟩, _, rfl, p, _, _, _, rfl, rfl, SqL.of h1, at2, _, _, rfl, rfl, Or.inl ⟨by decide, by decide⟩, _, rfl, p, _, _, _, rfl, rfl, SqL.of h1, at2, _, _, rfl, rfl, Or.inl ⟨by omega, by omega⟩, _, _, rfl, rfl, _, _, rfl, rfl, _, _, rfl, rfl, ⟨by decide, by decide, abs_lt (by omega) (by omega)⟩, _, _, rfl, rfl, (by show (1000000007 : Int) ≠ 0; decide), _, rfl, _, _, rfl, rfl, (by show m ≠ 0; omega), ?_⟩
      exact k _ _ (md_lo _ m0).1 (md_lo _ m0).2 Grow.at_ ⟨_, _, _, upd_same, z0, z1, by omega, by omega⟩
/-! ### an item that is picked -/
def spPick (K : PySem.W.Frag) : Sp := fun vs H Q _ => ∃ (p l : Addr) (n : Nat) (xs : List V), vs = [.ref p, .ref l] ∧ Src p n H ∧ n < 1000000 ∧ H l = some (.lst xs) ∧ 0 < xs.length ∧ xs.length < 1000 ∧ p ≠ l ∧
  ∀ (x : V) (H' : Hp), x ∈ xs → Grow p H H' → Src p (n + 1) H' → Q x H'
theorem scPick : FnScope ["_law_source_here", "_law_things"] ["_law_source_here", "_law_things"] (defScope sPick) := ⟨rfl, rfl, rfl, by decide +kernel, rfl, by decide +kernel, by decide +kernel⟩
theorem ok_pick {f fD : Addr} {fd fdD : FuncData} (F : Fun K "_law_pick" "_law_pick" sPick f fd) (GD : FnOk P w K mg base CX0 1 fD fdD ["_law_source_here", "_law_many"] spDraw) (mD : mg "_law_draw" = some (.ref fD)) (kD : PySem.W.keepIn K (.ref fD) = true) (bD : Binds K fdD ["_law_source_here", "_law_many"] []) (tl : mg "len" = none) :
    FnOk P w K mg base CX0 2 f fd ["_law_source_here", "_law_things"] (spPick K) := by
  refine F.ok scPick (fun vs H Q E h => ?_) (fun cdv A outer s H vs Q E hr h => ?_)
  · obtain ⟨p, l, n, xs, rfl, _⟩ := h
    rfl
  · obtain ⟨p, l, n, xs, rfl, hp, hn, hl, l0, l1, npl, k⟩ := h
    refine ⟨_, pss_one (ps_ret (pe_ix ix_list (pv 1) (pe_call GD hr rfl mD kD bD .nil pass0 (pa_cons (pv 0) (pa_cons (pe_callB call_len_seq (by rfl) tl PySem.boot_len (pa_cons (pv 1) pa_nil)) pa_nil))) (fun _ _ => rfl))), ?_⟩
    refine ⟨_, rfl, _, rfl, _, rfl, l, _, rfl, .inl (SqL.of hl), p, n, _, rfl, hp, hn, by omega, by omega, fun r H' r0 r1 gr sr => ?_⟩
    have hl' : H' l = some (.lst xs) := gr l _ hl npl.symm
    obtain ⟨j, rfl⟩ : ∃ j : Nat, r = (j : Int) := ⟨r.toNat, by omega⟩
    have hj : j < xs.length := by omega
    refine ⟨l, _, _, xs[j], rfl, rfl, SqL.of hl', atI_nat (List.getElem?_eq_getElem hj), ?_⟩
    exact k _ _ (List.getElem_mem hj) gr sr
/-! ### a subset -/
def spSubset (K : PySem.W.Frag) : Sp := fun vs H Q _ => ∃ (p l : Addr) (n : Nat) (xs : List V), vs = [.ref p, .ref l] ∧ Src p n H ∧ n + xs.length < 1000000 ∧ H l = some (.lst xs) ∧ p ≠ l ∧
  ∀ (q : Addr) (ys : List V) (H' : Hp), ys.Sublist xs → Grow p H H' → H q = none → H' q = some (.lst ys) → Src p (n + xs.length) H' → Q (.ref q) H'
theorem scSubset : FnScope ["_law_source_here", "_law_row", "_law_one"] ["_law_source_here", "_law_row"] (defScope sSubset) := ⟨rfl, rfl, rfl, by decide +kernel, rfl, by decide +kernel, by decide +kernel⟩
end
end CC

set_option Elab.async false
set_option maxRecDepth 100000
namespace CC
open PySem L2
section
variable {P : Program} {w : World} {K : PySem.W.Frag} {mg : Str → Option Value} {base : Heap}
theorem ok_subset {f fD : Addr} {fd fdD : FuncData} (F : Fun K "_law_subset" "_law_subset" sSubset f fd) (GD : FnOk P w K mg base CX0 1 fD fdD ["_law_source_here", "_law_many"] spDraw) (mD : mg "_law_draw" = some (.ref fD)) (kD : PySem.W.keepIn K (.ref fD) = true) (bD : Binds K fdD ["_law_source_here", "_law_many"] []) :
    FnOk P w K mg base CX0 2 f fd ["_law_source_here", "_law_row"] (spSubset K) := by
  refine F.ok scSubset (fun vs H Q E h => ?_) (fun cdv A outer s H vs Q E hr h => ?_)
  · obtain ⟨p, l, n, xs, rfl, _⟩ := h
    rfl
  · obtain ⟨p, l, n, xs, rfl, hp, hn, hl, npl, k⟩ := h
    refine ⟨_, pss_one (ps_ret (pe_lc (own := [("_law_one", 2)]) (g := gName 2) (by rfl) scSubset.nd (pi_list (pv 1)) (blkOk_by (own := [("_law_one", 2)]) (N := ["_law_source_here", "_law_row", "_law_one"]) (sc := defScope sSubset) (by decide +kernel)) (fun _ _ _ _ _ => pg_name (i := 2) scSubset.nd rfl (Or.inl rfl))
      (fun _ _ _ _ _ => pts_one (pt_cmpR op_eq (pe_call GD hr rfl mD kD bD .nil pass0 (pa_cons (pv 0) (pa_cons pe_int pa_nil))) pe_int (nomark _))) (fun _ _ _ _ _ => pv 2))), ?_⟩
    refine ⟨_, rfl, l, rfl, ⟨_, SqL.of hl⟩, fun D hD => ?_⟩
    refine lc_list (K := K) (a := l) (xs := xs) (fun i H2 => ∃ ys, ys.Sublist (xs.take i) ∧ H2 D = some (.lst ys) ∧ Grow p H H2 ∧ Src p (n + i) H2) ⟨[], List.nil_sublist _, upd_same, Grow.new hD, hp.new hD⟩ (fun i H2 _ ⟨_, _, _, g, _⟩ => SqL.of (g l _ hl npl.symm)) ?_ ?_
    · rintro i y H2 hi ⟨ys, sub, hD2, g2, s2⟩
      have hil : i < xs.length := (List.getElem?_eq_some_iff.mp hi).1
      have pD : p ≠ D := hp.ne hD
      refine ⟨rfl, _, rfl, p, n + i, 2, rfl, s2, by omega, by decide, by decide, fun r H3 r0 r1 g3 s3 => ?_⟩
      have hD3 : H3 D = some (.lst ys) := g3 _ _ hD2 pD.symm
      have tk : xs.take (i + 1) = xs.take i ++ [y] := by rw [List.take_add_one, hi]; rfl
      refine ⟨rfl, _, rfl, ?_⟩
      refine ite2 (fun _ => ?_) (fun _ => ?_)
      · refine ⟨_, rfl, ys, hD3, small (by have := sub.length_le; rw [List.length_take] at this; omega), ys ++ [y], ?_, upd_same, (g2.trans g3).put hD, s3.put pD⟩
        rw [tk]
        exact sub.append (List.Sublist.refl _)
      · refine ⟨ys, ?_, hD3, g2.trans g3, s3⟩
        rw [tk]
        exact sub.trans (List.sublist_append_left _ _)
    · rintro H2 ⟨ys, sub, hD2, g2, s2⟩
      rw [List.take_length] at sub
      exact k _ _ _ sub g2 hD hD2 s2
end
end CC

set_option Elab.async false
set_option maxRecDepth 100000
namespace CC
open PySem L2
set_option linter.unusedVariables false
/-! ### rows -/
inductive Row where
  | rest (to : Nat)
  | ins (to : Nat)
  | wr (c : Str) (v : Int) (to : Nat)
  | rd (c : Str) (cs : List (Int × Nat)) (to : Nat)
def Row.to : Row → Nat
  | .rest n => n
  | .ins n => n
  | .wr _ _ n => n
  | .rd _ _ n => n
def kvOf (cs : List (Int × Nat)) : List (Key × V) := cs.map fun kv => ((Sum.inl kv.1 : Key), V.int (kv.2 : Nat))
def RowAt (H : Hp) (r : Row) (a : Addr) : Prop :=
  match r with
  | .rest n => H a = some (.tup [.str "rest", .int (n : Nat)])
  | .ins n => H a = some (.tup [.str "inside", .int (n : Nat)])
  | .wr c v n => H a = some (.tup [.str "write", .str c, .int v, .int (n : Nat)])
  | .rd c cs n => ∃ d, H a = some (.tup [.str "read", .str c, .ref d, .int (n : Nat)]) ∧ H d = some (.dK (kvOf cs))
theorem RowAt.mono {H H' : Hp} {r : Row} {a : Addr} (h : RowAt H r a) (k : ∀ b xs, H b = some (.tup xs) → H' b = some (.tup xs)) (k2 : ∀ b xs, H b = some (.dK xs) → H' b = some (.dK xs)) : RowAt H' r a := by
  cases r with
  | rest n => exact k _ _ h
  | ins n => exact k _ _ h
  | wr c v n => exact k _ _ h
  | rd c cs n =>
    obtain ⟨d, h1, h2⟩ := h
    exact ⟨d, k _ _ h1, k2 _ _ h2⟩
theorem Grow.tup {p : Addr} {n : Nat} {H H' : Hp} (g : Grow p H H') (s : Src p n H) {b : Addr} {xs : List V} (h : H b = some (.tup xs)) : H' b = some (.tup xs) := by
  obtain ⟨_, _, _, a, _⟩ := s
  exact g _ _ h (ne_of h a (by intro z; cases z))
theorem Grow.dk {p : Addr} {n : Nat} {H H' : Hp} (g : Grow p H H') (s : Src p n H) {b : Addr} {xs : List (Key × V)} (h : H b = some (.dK xs)) : H' b = some (.dK xs) := by
  obtain ⟨_, _, _, a, _⟩ := s
  exact g _ _ h (ne_of h a (by intro z; cases z))
theorem Grow.free {p a : Addr} {n : Nat} {H H' : Hp} (g : Grow p H H') (h : H' a = none) (s : Src p n H') : H a = none := by
  cases e : H a with
  | none => rfl
  | some o =>
    have z := g a o e (s.ne h).symm
    rw [h] at z
    cases z
theorem RowAt.grow {p : Addr} {n : Nat} {H H' : Hp} {r : Row} {a : Addr} (h : RowAt H r a) (g : Grow p H H') (s : Src p n H) : RowAt H' r a := h.mono (fun _ _ e => g.tup s e) fun _ _ e => g.dk s e
/-- a row of a program with n rows over these cells -/
def Row.ok (n : Nat) (cells : List Str) : Row → Prop
  | .rest m => m < n
  | .ins m => m < n
  | .wr c v m => c ∈ cells ∧ 0 ≤ v ∧ m < n
  | .rd c cs m => c ∈ cells ∧ (cs.map (·.1)).Nodup ∧ (∀ kv ∈ cs, 0 ≤ kv.1 ∧ kv.2 < n) ∧ m < n ∧ cs.length ≤ 10
/-- a row that writes or reads, and leads to rows from first to below last -/
def Row.mid (first last : Nat) (cells : List Str) : Row → Prop
  | .rest _ => False
  | .ins _ => False
  | .wr c v m => c ∈ cells ∧ 0 ≤ v ∧ first ≤ m ∧ m < last
  | .rd c cs m => c ∈ cells ∧ (cs.map (·.1)).Nodup ∧ (∀ kv ∈ cs, 0 ≤ kv.1 ∧ first ≤ kv.2 ∧ kv.2 < last) ∧ first ≤ m ∧ m < last ∧ cs.length ≤ 10
abbrev sAnyRow : Stmt := top 27
def spAnyRow : Sp := fun vs H Q _ => ∃ (p cl wl : Addr) (n first last : Nat) (cells : List Str) (ws : List Int), vs = [.ref p, .ref cl, .int (first : Nat), .int (last : Nat), .ref wl] ∧ Src p n H ∧ n + 100 < 1000000 ∧
  H cl = some (.lst (cells.map V.str)) ∧ H wl = some (.lst (ws.map V.int)) ∧ p ≠ cl ∧ p ≠ wl ∧ 0 < cells.length ∧ cells.length < 100 ∧ SeqAt.shaped (.list (cells.map PyData.str)) = true ∧
  ws.Nodup ∧ (∀ v ∈ ws, 0 ≤ v) ∧ 0 < ws.length ∧ ws.length ≤ 10 ∧ first < last ∧ last < 1000 ∧
  ∀ (a : Addr) (r : Row) (H' : Hp), Grow p H H' → H a = none → RowAt H' r a → r.mid first last cells → Src p (n + 50) H' → Q (.ref a) H'
theorem dp_strs {K : PySem.W.Frag} {H : Hp} {cl : Addr} {cells : List Str} (h : H cl = some (.lst (cells.map V.str))) : Dp K H (.ref cl) (.list (cells.map PyData.str)) := by
  refine .lst (SqL.of h) ?_
  have : ∀ l : List Str, DpAll K H (l.map V.str) (l.map PyData.str) := fun l => by
    induction l with
    | nil => exact .nil
    | cons x l ih => exact .cons (.str x) ih
  exact this cells
theorem eqv_nil {cells : List Str} (h : 0 < cells.length) : PyData.eqv (.list (cells.map PyData.str)) (.list []) = false := by
  cases cells with
  | nil => cases h
  | cons x l => rfl
theorem ite_no {b : Bool} {A B : Prop} (e : b = false) (h : B) : if b = true then A else B := by
  rw [e]
  exact iteF h
theorem ite_yes {b : Bool} {A B : Prop} (e : b = true) (h : A) : if b = true then A else B := by
  rw [e]
  exact iteT h
theorem tyes_if {σ : L2.St} {H : Hp} {A B : Hp → Prop} (h : A H) : tYes σ H (fun b H3 => if b = true then A H3 else B H3) := by
  show (if true = true then A H else B H)
  exact iteT h
theorem valV_kv {k : Int} : ∀ {cs : List (Int × Nat)}, k ∉ cs.map (·.1) → valV (kvOf cs) (Sum.inl k : Key) = none
  | [], _ => rfl
  | p :: r, h => by
    show valV ((((Sum.inl p.1 : Key), V.int (p.2 : Nat))) :: kvOf r) (Sum.inl k) = none
    rw [valV_neg (by intro e; cases e; exact h (List.mem_cons_self ..))]
    exact valV_kv fun m => h (List.mem_cons_of_mem _ m)
theorem merge_kv : ∀ (cs done : List (Int × Nat)), ((done ++ cs).map (·.1)).Nodup → mergeK (kvOf done) (kvOf cs) = kvOf (done ++ cs)
  | [], done, _ => by rw [List.append_nil]; rfl
  | p :: r, done, h => by
    have hn : p.1 ∉ done.map (·.1) := by
      rw [List.map_append, List.nodup_append] at h
      intro m
      exact h.2.2 _ m _ (List.mem_cons_self ..) rfl
    show mergeK (putK (kvOf done) (Sum.inl p.1) (V.int (p.2 : Nat))) (kvOf r) = _
    rw [putK_new _ (valV_kv hn)]
    have e : kvOf done ++ [((Sum.inl p.1 : Key), V.int (p.2 : Nat))] = kvOf (done ++ [p]) := by
      unfold kvOf
      rw [List.map_append]
      rfl
    rw [e, merge_kv r (done ++ [p]) (by rw [List.append_assoc]; exact h), List.append_assoc]
    rfl
theorem paired_map {α β γ : Type} {F : α → γ → Prop} {f : β → γ} : ∀ {l : List α} {m : List β}, Paired (fun a b => F a (f b)) l m → Paired F l (m.map f)
  | _, _, .nil => .nil
  | _, _, .cons h t => .cons h (paired_map t)
section
variable {P : Program} {w : World} {K : PySem.W.Frag} {mg : Str → Option Value} {base : Heap}
theorem scAnyRow : FnScope ["_law_source_here", "_law_cells", "_law_first", "_law_last", "_law_worths", "_law_span", "_law_where", "_law_cases", "_law_worth"] ["_law_source_here", "_law_cells", "_law_first", "_law_last", "_law_worths"] (defScope sAnyRow) := ⟨rfl, rfl, rfl, by decide +kernel, rfl, by decide +kernel, by decide +kernel⟩
theorem ok_anyrow {f fD fP fS : Addr} {fd fdD fdP fdS : FuncData} (F : Fun K "_law_any_row" "_law_any_row" sAnyRow f fd)
    (GD : FnOk P w K mg base CX0 1 fD fdD ["_law_source_here", "_law_many"] spDraw) (mD : mg "_law_draw" = some (.ref fD)) (kD : PySem.W.keepIn K (.ref fD) = true) (bD : Binds K fdD ["_law_source_here", "_law_many"] [])
    (GP : FnOk P w K mg base CX0 2 fP fdP ["_law_source_here", "_law_things"] (spPick K)) (mP : mg "_law_pick" = some (.ref fP)) (kP : PySem.W.keepIn K (.ref fP) = true) (bP : Binds K fdP ["_law_source_here", "_law_things"] [])
    (GS : FnOk P w K mg base CX0 2 fS fdS ["_law_source_here", "_law_row"] (spSubset K)) (mS : mg "_law_subset" = some (.ref fS)) (kS : PySem.W.keepIn K (.ref fS) = true) (bS : Binds K fdS ["_law_source_here", "_law_row"] []) (td : mg "dict" = none) :
    FnOk P w K mg base CX0 3 f fd ["_law_source_here", "_law_cells", "_law_first", "_law_last", "_law_worths"] spAnyRow := by
  refine F.ok scAnyRow (fun vs H Q E h => ?_) (fun cdv A outer s H vs Q E hr h => ?_)
  · obtain ⟨p, cl, wl, n, first, last, cells, ws, rfl, _⟩ := h
    rfl
  · obtain ⟨p, cl, wl, n, first, last, cells, ws, rfl, hp, hn, hcl, hwl, npc, npw, c0, c1, csh, wnd, wpos, w0, w1, fl, l1, k⟩ := h
    have hr1 : Room 1 _ := hr.mono (by decide)
    refine ⟨_, pss_cons (ps_set (i := 5) scAnyRow.nd rfl (Or.inr rfl) (pe_op op_sub (pv 3) (pv 2)))
      (pss_cons (ps_set (i := 6) scAnyRow.nd rfl (Or.inl rfl) (pe_lst (pa_cons (pe_op op_add (pv 2) (pe_call GD hr1 rfl mD kD bD .nil pass0 (pa_cons (pv 0) (pa_cons (pv 5) pa_nil)))) (pa_cons (pe_op op_add (pv 2) (pe_call GD hr1 rfl mD kD bD .nil pass0 (pa_cons (pv 0) (pa_cons (pv 5) pa_nil)))) pa_nil))))
      (pss_cons (ps_if (PW.pt (pw_or (pt_cmpR (op_eqD hr.units) (pv 1) (pe_lst pa_nil) (nomark _)) (pw_or1 (pt_cmpR op_eq (pe_call GD hr1 rfl mD kD bD .nil pass0 (pa_cons (pv 0) (pa_cons pe_int pa_nil))) pe_int (nomark _)))))
        (pss_cons (ps_if (pt_cmpR (op_eqD hr.units) (pv 1) (pe_lst pa_nil) (nomark _)) (pss_one (ps_ret pe_non)) pss_nil)
        (pss_one (ps_ret (pe_tup (pa_cons pe_str (pa_cons (pe_call GP hr rfl mP kP bP .nil pass0 (pa_cons (pv 0) (pa_cons (pv 1) pa_nil))) (pa_cons (pe_call GP hr rfl mP kP bP .nil pass0 (pa_cons (pv 0) (pa_cons (pv 4) pa_nil))) (pa_cons (pe_ix ix_list (pv 6) pe_int (fun _ _ => rfl)) pa_nil)))))))) pss_nil)
      (pss_cons (ps_set (i := 7) scAnyRow.nd rfl (Or.inl rfl) (pe_callTy (call_dictP rfl) (by rfl) td (by decide +kernel) (pa_cons
        (pe_lc (own := [("_law_worth", 8)]) (g := gName 8) (by rfl) scAnyRow.nd (pi_list (pe_call GS hr rfl mS kS bS .nil pass0 (pa_cons (pv 0) (pa_cons (pv 4) pa_nil)))) (blkOk_by (own := [("_law_worth", 8)]) (N := ["_law_source_here", "_law_cells", "_law_first", "_law_last", "_law_worths", "_law_span", "_law_where", "_law_cases", "_law_worth"]) (sc := defScope sAnyRow) (by decide +kernel)) (fun _ _ _ _ _ => pg_name (i := 8) scAnyRow.nd rfl (Or.inl rfl)) (fun _ _ _ _ _ => pts_nil)
          (fun _ _ _ _ _ => pe_tup (pa_cons (pv 8) (pa_cons (pe_op op_add (pv 2) (pe_call GD hr1 rfl mD kD bD .nil pass0 (pa_cons (pv 0) (pa_cons (pv 5) pa_nil)))) pa_nil)))) pa_nil)))
      (pss_one (ps_ret (pe_tup (pa_cons pe_str (pa_cons (pe_call GP hr rfl mP kP bP .nil pass0 (pa_cons (pv 0) (pa_cons (pv 1) pa_nil))) (pa_cons (pv 7) (pa_cons (pe_ix ix_list (pv 6) pe_int (fun _ _ => rfl)) pa_nil)))))))))), ?_⟩
    refine ⟨_, rfl, _, rfl, _, _, rfl, rfl, ?_⟩
    refine ⟨_, rfl, _, rfl, _, rfl, p, n, _, rfl, hp, by omega, by omega, by omega, fun r1 H1 a0 a1 g1 s1 => ⟨_, _, rfl, rfl, ?_⟩⟩
    refine ⟨_, rfl, _, rfl, _, rfl, p, n + 1, _, rfl, s1, by omega, by omega, by omega, fun r2 H2 b0 b1 g2 s2 => ⟨_, _, rfl, rfl, (by show 2 ≤ sizeLine; decide), fun L hL => ?_⟩⟩
    have pL := s2.ne hL
    have g3 : Grow p H (upd H2 L (.lst [V.int ((first : Int) + r1), V.int ((first : Int) + r2)])) := (g1.trans g2).trans (Grow.new hL)
    have s3 := s2.new (o := .lst [V.int ((first : Int) + r1), V.int ((first : Int) + r2)]) hL
    have l3 : (upd H2 L (.lst [V.int ((first : Int) + r1), V.int ((first : Int) + r2)])) L = some (.lst [V.int ((first : Int) + r1), V.int ((first : Int) + r2)]) := upd_same
    revert g3 s3 l3
    generalize (upd H2 L (.lst [V.int ((first : Int) + r1), V.int ((first : Int) + r2)])) = H3
    intro g3 s3 l3
    refine ⟨_, rfl, Nat.zero_le _, fun e he => ⟨_, _, dp_strs (by rw [upd_ne (ne_of_none (g3 _ _ hcl npc.symm) he)]; exact g3 _ _ hcl npc.symm), .lst (SqL.of upd_same) .nil, csh, rfl, _, rfl, ite_no (eqv_nil c0) ?_⟩⟩
    have g4 : Grow p H (upd H3 e (.lst [])) := g3.trans (Grow.new he)
    have s4 := s3.new (o := .lst []) he
    have l4 : (upd H3 e (.lst [])) L = some (.lst [V.int ((first : Int) + r1), V.int ((first : Int) + r2)]) := by
      rw [upd_ne (ne_of_none l3 he)]
      exact l3
    revert g4 s4 l4
    generalize (upd H3 e (.lst [])) = H4
    intro g4 s4 l4
    refine ⟨_, rfl, p, n + 2, 2, rfl, s4, by omega, by decide, by decide, fun r3 H5 d0 d1 g5 s5 => ⟨rfl, _, rfl, ?_⟩⟩
    have l5 := g5 _ _ l4 pL.symm
    have g05 := g4.trans g5
    refine ite2 (fun _ => ?_) (fun _ => ?_)
    · refine ⟨_, rfl, Nat.zero_le _, fun e2 he2 => ⟨_, _, dp_strs (by rw [upd_ne (ne_of_none (g05 _ _ hcl npc.symm) he2)]; exact g05 _ _ hcl npc.symm), .lst (SqL.of upd_same) .nil, csh, rfl, _, rfl, ite_no (eqv_nil c0) ?_⟩⟩
      have g6 : Grow p H (upd H5 e2 (.lst [])) := g05.trans (Grow.new he2)
      have s6 := s5.new (o := .lst []) he2
      have l6 : (upd H5 e2 (.lst [])) L = some (.lst [V.int ((first : Int) + r1), V.int ((first : Int) + r2)]) := by
        rw [upd_ne (ne_of_none l5 he2)]
        exact l5
      revert g6 s6 l6
      generalize (upd H5 e2 (.lst [])) = H6
      intro g6 s6 l6
      refine ⟨_, rfl, _, rfl, p, cl, n + 3, _, rfl, s6, by omega, g6 _ _ hcl npc.symm, by rw [List.length_map]; exact c0, by rw [List.length_map]; omega, npc, fun x H7 hx g7 s7 => ?_⟩
      obtain ⟨c, hc, rfl⟩ := List.mem_map.mp hx
      have g07 := g6.trans g7
      refine ⟨_, rfl, _, rfl, p, wl, n + 4, _, rfl, s7, by omega, g07 _ _ hwl npw.symm, by rw [List.length_map]; exact w0, by rw [List.length_map]; omega, npw, fun y H8 hy g8 s8 => ?_⟩
      obtain ⟨v, hv, rfl⟩ := List.mem_map.mp hy
      have g08 := g07.trans g8
      refine ⟨_, rfl, L, _, _, _, rfl, rfl, SqL.of (g8 _ _ (g7 _ _ l6 pL.symm) pL.symm), (show atI [V.int ((first : Int) + r1), V.int ((first : Int) + r2)] 0 = some (V.int ((first : Int) + r1)) from rfl), (by show 4 ≤ sizeLine; decide), fun a ha => ?_⟩
      have er : (first : Int) + r1 = ((first + r1.toNat : Nat) : Int) := by omega
      rw [er]
      exact k a (.wr c v (first + r1.toNat)) _ (g08.trans (Grow.new ha)) (g08.free ha s8) upd_same ⟨hc, wpos v hv, by omega, by omega⟩ ((s8.new ha).le (by omega))
    · refine ⟨_, rfl, _, rfl, p, wl, n + 3, _, rfl, s5, by rw [List.length_map]; omega, g05 _ _ hwl npw.symm, npw, fun q ys H6 sub g6 hq hq6 s6 => ?_⟩
      obtain ⟨zs, zsub, rfl⟩ := List.sublist_map_iff.mp sub
      have zl := zsub.length_le
      rw [List.length_map] at s6
      have pq : p ≠ q := s5.ne hq
      have l6 := g6 _ _ l5 pL.symm
      refine ⟨q, rfl, ⟨_, SqL.of hq6⟩, fun D hD => ?_⟩
      have pD := s6.ne hD
      refine lc_list (K := K) (a := q) (xs := zs.map V.int) (fun i H7 => ∃ (ts : List Addr) (cs : List (Int × Nat)), H7 D = some (.lst (ts.map V.ref)) ∧ Paired (fun t (kv : Int × Nat) => H7 t = some (.tup [V.int kv.1, V.int (kv.2 : Nat)])) ts cs ∧ cs.map (·.1) = zs.take i ∧ (∀ kv ∈ cs, first ≤ kv.2 ∧ kv.2 < last) ∧ Grow p H6 H7 ∧ Src p (n + 3 + ws.length + i) H7)
        ⟨[], [], upd_same, .nil, rfl, (fun _ h => nomatch h), Grow.new hD, s6.new hD⟩ (fun i H7 _ ⟨_, _, _, _, _, _, g, _⟩ => SqL.of (g q _ hq6 pq.symm)) ?_ ?_
      · rintro i y H7 hi ⟨ts, cs, hD7, hp7, hk7, hr7, g7, s7⟩
        rw [List.getElem?_map] at hi
        obtain ⟨z, hz, rfl⟩ : ∃ z, zs[i]? = some z ∧ y = V.int z := by
          cases e : zs[i]? with
          | none =>
            rw [e] at hi
            cases hi
          | some z =>
            rw [e] at hi
            exact ⟨z, rfl, (Option.some.inj hi).symm⟩
        have hil : i < zs.length := (List.getElem?_eq_some_iff.mp hz).1
        have len : ts.length = i := by
          have h1 := hp7.length
          have h2 := congrArg List.length hk7
          rw [List.length_map, List.length_take] at h2
          omega
        refine ⟨rfl, tyes_if ?_⟩
        refine ⟨_, rfl, _, rfl, _, rfl, _, rfl, p, n + 3 + ws.length + i, _, rfl, s7, by omega, by omega, by omega, fun r H8 c0 c1 g8 s8 => ⟨_, _, rfl, rfl, (by show 2 ≤ sizeLine; decide), fun t ht => ?_⟩⟩
        have hD8 := g8 _ _ hD7 pD.symm
        have ntD : D ≠ t := ne_of_none hD8 ht
        have er : (first : Int) + r = ((first + r.toNat : Nat) : Int) := by omega
        refine ⟨ts.map V.ref, by rw [upd_ne ntD]; exact hD8, small (by rw [List.length_map]; omega), ts ++ [t], cs ++ [(z, first + r.toNat)], ?_, ?_, ?_, ?_, ?_, (((s8.new ht).put pD).le (by omega))⟩
        · rw [upd_same, List.map_append]
          rfl
        · refine Paired.snoc (L2.Paired.mapP hp7 fun b kv hb => ?_) ?_
          · have nb : b ≠ D := ne_of hb hD7 (by intro z; cases z)
            have hb8 : H8 b = some (.tup [V.int kv.1, V.int (kv.2 : Nat)]) := g8.tup s7 hb
            rw [upd_ne nb, upd_ne (ne_of_none hb8 ht)]
            exact hb8
          · rw [upd_ne ntD.symm, upd_same]
            show some (HO.tup [V.int z, V.int ((first : Int) + r)]) = _
            rw [er]
        · rw [List.map_append, hk7, List.take_add_one, hz]
          rfl
        · intro kv hkv
          rcases List.mem_append.mp hkv with h | h
          · exact hr7 kv h
          · cases h with
            | head => exact ⟨by show first ≤ first + r.toNat; omega, by show first + r.toNat < last; omega⟩
            | tail _ h => cases h
        · exact ((g7.trans g8).trans (Grow.new ht)).put hD
      · rintro H7 ⟨ts, cs, hD7, hp7, hk7, hr7, g7, s7⟩
        rw [List.length_map] at hk7 s7
        rw [List.take_length] at hk7
        have nd : (cs.map (·.1)).Nodup := by
          rw [hk7]
          exact wnd.sublist zsub
        have cl1 : cs.length = zs.length := by rw [← hk7, List.length_map]
        refine ⟨D, ts, kvOf cs, rfl, SqL.of hD7, paired_map (L2.Paired.mapP hp7 fun b kv hb => SqT.of hb), fun dd hdd => ?_⟩
        have em : mergeK [] (kvOf cs) = kvOf cs := merge_kv cs [] nd
        rw [em]
        have g8 : Grow p H (upd H7 dd (.dK (kvOf cs))) := ((g05.trans g6).trans g7).trans (Grow.new hdd)
        have s8 := s7.new (o := .dK (kvOf cs)) hdd
        have l8 : (upd H7 dd (.dK (kvOf cs))) L = some (.lst [V.int ((first : Int) + r1), V.int ((first : Int) + r2)]) := by
          have l7 := g7 _ _ l6 pL.symm
          rw [upd_ne (ne_of_none l7 hdd)]
          exact l7
        have d8 : (upd H7 dd (.dK (kvOf cs))) dd = some (.dK (kvOf cs)) := upd_same
        revert g8 s8 l8 d8
        generalize (upd H7 dd (.dK (kvOf cs))) = H8
        intro g8 s8 l8 d8
        refine ⟨_, rfl, _, rfl, p, cl, n + 3 + ws.length + zs.length, _, rfl, s8, by omega, g8 _ _ hcl npc.symm, by rw [List.length_map]; exact c0, by rw [List.length_map]; omega, npc, fun x H9 hx g9 s9 => ?_⟩
        obtain ⟨c, hc, rfl⟩ := List.mem_map.mp hx
        refine ⟨_, rfl, _, rfl, L, _, _, _, rfl, rfl, SqL.of (g9 _ _ l8 pL.symm), (show atI [V.int ((first : Int) + r1), V.int ((first : Int) + r2)] 1 = some (V.int ((first : Int) + r2)) from rfl), (by show 4 ≤ sizeLine; decide), fun a ha => ?_⟩
        have er : (first : Int) + r2 = ((first + r2.toNat : Nat) : Int) := by omega
        rw [er]
        have d9 := g9.dk s8 d8
        refine k a (.rd c cs (first + r2.toNat)) _ ((g8.trans g9).trans (Grow.new ha)) ((g8.trans g9).free ha s9) ⟨dd, upd_same, by rw [upd_ne (ne_of_none d9 ha)]; exact d9⟩ ⟨hc, nd, fun kv hkv => ⟨?_, hr7 kv hkv⟩, by omega, by omega, by omega⟩ ((s9.new ha).le (by omega))
        refine wpos _ (zsub.mem ?_)
        rw [← hk7]
        exact List.mem_map.mpr ⟨kv, hkv, rfl⟩
end
end CC

set_option Elab.async false
set_option maxRecDepth 100000
namespace CC
open PySem L2
set_option linter.unusedVariables false
def RowsAt (H : Hp) (rs : List Row) (l : Addr) : Prop := ∃ as : List Addr, H l = some (.lst (as.map V.ref)) ∧ Paired (fun a r => RowAt H r a) as rs
/-- a row of the part behind the inside row -/
def Row.tl (lo hi : Nat) (cells : List Str) : Row → Prop
  | .rest _ => False
  | .ins _ => False
  | .wr c v m => c ∈ cells ∧ 0 ≤ v ∧ ((lo ≤ m ∧ m < hi) ∨ m = 0)
  | .rd c cs m => c ∈ cells ∧ (cs.map (·.1)).Nodup ∧ (∀ kv ∈ cs, 0 ≤ kv.1 ∧ lo ≤ kv.2 ∧ kv.2 < hi) ∧ ((lo ≤ m ∧ m < hi) ∨ m = 0) ∧ cs.length ≤ 10
def Shape (ahead behind : Nat) (cells : List Str) (rs : List Row) : Prop := ∃ (xs ys : List Row), rs = Row.rest 1 :: (xs ++ Row.ins (if 0 < behind then ahead + 2 else 0) :: ys) ∧ xs.length = ahead ∧ ys.length = behind ∧
  (∀ r ∈ xs, r.mid 1 (ahead + 2) cells) ∧ (∀ r ∈ ys, r.tl (ahead + 2) (ahead + 2 + behind) cells)
theorem RowsAt.grow {p q : Addr} {n : Nat} {H H' : Hp} {rs : List Row} (h : RowsAt H rs q) (g : Grow p H H') (s : Src p n H) (npq : p ≠ q) : RowsAt H' rs q := by
  obtain ⟨as, h1, h2⟩ := h
  exact ⟨as, g _ _ h1 npq.symm, L2.Paired.mapP h2 fun a r x => x.grow g s⟩
theorem RowAt.put {H : Hp} {r : Row} {a q : Addr} {xs ys : List V} (h : RowAt H r a) (hq : H q = some (.lst xs)) : RowAt (upd H q (.lst ys)) r a :=
  h.mono (fun b zs e => by rw [upd_ne (ne_of e hq (by intro z; cases z))]; exact e) fun b zs e => by rw [upd_ne (ne_of e hq (by intro z; cases z))]; exact e
theorem RowAt.new {H : Hp} {r : Row} {a q : Addr} {o : HO} (h : RowAt H r a) (hq : H q = none) : RowAt (upd H q o) r a :=
  h.mono (fun b zs e => by rw [upd_ne (ne_of_none e hq)]; exact e) fun b zs e => by rw [upd_ne (ne_of_none e hq)]; exact e
theorem RowsAt.add {H : Hp} {rs : List Row} {as : List Addr} {q a : Addr} {r : Row} (h1 : H q = some (.lst (as.map V.ref))) (h2 : Paired (fun a r => RowAt H r a) as rs) (h : RowAt H r a) :
    RowsAt (upd H q (.lst (as.map V.ref ++ [V.ref a]))) (rs ++ [r]) q := by
  refine ⟨as ++ [a], by rw [upd_same, List.map_append]; rfl, Paired.snoc (L2.Paired.mapP h2 fun b x e => e.put h1) (h.put h1)⟩
theorem vs5 {p cl wl : Addr} {a b a' b' : Int} (h1 : a = a') (h2 : b = b') : [V.ref p, V.ref cl, V.int a, V.int b, V.ref wl] = [V.ref p, V.ref cl, V.int a', V.int b', V.ref wl] := by
  subst h1
  subst h2
  rfl
theorem if_via {c : Prop} [Decidable c] {t u : TE} {σ : L2.St} {H : Hp} {Q : V → Hp → Prop} (z : V) (k : Q z H) (h1 : c → Q z H → t σ H Q) (h2 : ¬ c → Q z H → u σ H Q) : if decide c = true then t σ H Q else u σ H Q :=
  ite2 (fun e => h1 (of_decide_eq_true e) k) fun e => h2 (fun q => e (decide_eq_true q)) k
theorem Row.mid_tl {lo hi : Nat} {cells : List Str} {r : Row} (h : r.mid lo hi cells) : r.tl lo hi cells := by
  cases r with
  | rest n => exact h
  | ins n => exact h
  | wr c v m => exact ⟨h.1, h.2.1, .inl h.2.2⟩
  | rd c cs m => exact ⟨h.1, h.2.1, h.2.2.1, .inl ⟨h.2.2.2.1, h.2.2.2.2.1⟩, h.2.2.2.2.2⟩
abbrev sRows : Stmt := top 28
def spRows : Sp := fun vs H Q _ => ∃ (p cl wl : Addr) (n ahead behind : Nat) (cells : List Str) (ws : List Int), vs = [.ref p, .ref cl, .int (ahead : Nat), .int (behind : Nat), .ref wl] ∧ Src p n H ∧ n + 100 * (ahead + behind + 1) < 1000000 ∧
  H cl = some (.lst (cells.map V.str)) ∧ H wl = some (.lst (ws.map V.int)) ∧ p ≠ cl ∧ p ≠ wl ∧ 0 < cells.length ∧ cells.length < 100 ∧ SeqAt.shaped (.list (cells.map PyData.str)) = true ∧
  ws.Nodup ∧ (∀ v ∈ ws, 0 ≤ v) ∧ 0 < ws.length ∧ ws.length ≤ 10 ∧ ahead < 100 ∧ behind < 100 ∧
  ∀ (q : Addr) (rs : List Row) (H' : Hp), Grow p H H' → H q = none → RowsAt H' rs q → Shape ahead behind cells rs → Src p (n + 60 * (ahead + behind)) H' → Q (.ref q) H'
section
variable {P : Program} {w : World} {K : PySem.W.Frag} {mg : Str → Option Value} {base : Heap}
theorem scRows : FnScope ["_law_source_here", "_law_cells", "_law_ahead", "_law_behind", "_law_worths", "_law_inside", "_law_rows_here", "_law_k", "_law_here", "_law_row", "_law_to"] ["_law_source_here", "_law_cells", "_law_ahead", "_law_behind", "_law_worths"] (defScope sRows) := ⟨rfl, rfl, rfl, by decide +kernel, rfl, by decide +kernel, by decide +kernel⟩
theorem ok_rows {f fD fA : Addr} {fd fdD fdA : FuncData} (F : Fun K "_law_rows" "_law_rows" sRows f fd)
    (GD : FnOk P w K mg base CX0 1 fD fdD ["_law_source_here", "_law_many"] spDraw) (mD : mg "_law_draw" = some (.ref fD)) (kD : PySem.W.keepIn K (.ref fD) = true) (bD : Binds K fdD ["_law_source_here", "_law_many"] [])
    (GA : FnOk P w K mg base CX0 3 fA fdA ["_law_source_here", "_law_cells", "_law_first", "_law_last", "_law_worths"] spAnyRow) (mA : mg "_law_any_row" = some (.ref fA)) (kA : PySem.W.keepIn K (.ref fA) = true) (bA : Binds K fdA ["_law_source_here", "_law_cells", "_law_first", "_law_last", "_law_worths"] [])
    (tl : mg "len" = none) (tr : mg "range" = none) :
    FnOk P w K mg base CX0 4 f fd ["_law_source_here", "_law_cells", "_law_ahead", "_law_behind", "_law_worths"] spRows := by
  refine F.ok scRows (fun vs H Q E h => ?_) (fun cdv A outer s H vs Q E hr h => ?_)
  · obtain ⟨p, cl, wl, n, ahead, behind, cells, ws, rfl, _⟩ := h
    rfl
  · obtain ⟨p, cl, wl, n, ahead, behind, cells, ws, rfl, hp, hn, hcl, hwl, npc, npw, c0, c1, csh, wnd, wpos, w0, w1, al, bl, k⟩ := h
    have hr1 : Room 1 _ := hr.mono (by decide)
    refine ⟨_, pss_cons (ps_if (pt_cmpR (op_eqD hr.units) (pv 1) (pe_lst pa_nil) (nomark _)) (pss_one (ps_ret (pe_lst (pa_cons (pe_tup (pa_cons pe_str (pa_cons pe_int pa_nil))) (pa_cons (pe_tup (pa_cons pe_str (pa_cons pe_int pa_nil))) pa_nil))))) pss_nil)
      (pss_cons (ps_set (i := 5) scRows.nd rfl (Or.inl rfl) (pe_op op_add pe_int (pv 2)))
      (pss_cons (ps_set (i := 6) scRows.nd rfl (Or.inl rfl) (pe_lst (pa_cons (pe_tup (pa_cons pe_str (pa_cons pe_int pa_nil))) pa_nil)))
      (pss_cons (ps_for PassesOwn.never rfl (pi_range1 rfl tr (pa_cons (pv 2) pa_nil)) (pg_name (i := 7) scRows.nd rfl (Or.inl rfl))
        (pss_one (ps_expr (pe_bm PySem.F.plainAttrs_list PySem.F.slot_list_append PySem.F.type_list_append mt_append (pv 6) (pa_cons (pe_call GA hr rfl mA kA bA .nil pass0 (pa_cons (pv 0) (pa_cons (pv 1) (pa_cons pe_int (pa_cons (pe_op op_add (pv 5) pe_int) (pa_cons (pv 4) pa_nil)))))) pa_nil)))))
      (pss_cons (ps_expr (pe_bm PySem.F.plainAttrs_list PySem.F.slot_list_append PySem.F.type_list_append mt_append (pv 6) (pa_cons (pe_tup (pa_cons pe_str (pa_cons (pe_ifExp (pt_cmpR op_gt (pv 3) pe_int (nomark _)) (pe_op op_add (pv 5) pe_int) pe_int) pa_nil))) pa_nil)))
      (pss_cons (ps_for PassesOwn.never rfl (pi_range1 rfl tr (pa_cons (pv 3) pa_nil)) (pg_name (i := 7) scRows.nd rfl (Or.inl rfl))
        (pss_cons (ps_set (i := 8) scRows.nd rfl (Or.inl rfl) (pe_callB call_len_seq (by rfl) tl PySem.boot_len (pa_cons (pv 6) pa_nil)))
        (pss_cons (ps_set (i := 9) scRows.nd rfl (Or.inl rfl) (pe_call GA hr rfl mA kA bA .nil pass0 (pa_cons (pv 0) (pa_cons (pv 1) (pa_cons (pe_op op_add (pv 5) pe_int) (pa_cons (pe_op op_add (pe_op op_add (pv 5) pe_int) (pv 3)) (pa_cons (pv 4) pa_nil)))))))
        (pss_cons (ps_set (i := 10) scRows.nd rfl (Or.inl rfl) (pe_ifExp (pt_cmpR op_lt (pe_op op_add (pv 7) pe_int) (pv 3) (nomark _)) (pe_op op_add (pv 8) pe_int) pe_int))
        (pss_cons (ps_if (pt_cmpR op_gt (pe_call GD hr1 rfl mD kD bD .nil pass0 (pa_cons (pv 0) (pa_cons pe_int pa_nil))) pe_int (nomark _))
          (pss_one (ps_set (i := 9) scRows.nd rfl (Or.inl rfl) (pe_ifExp (pt_cmpR op_eq (pe_ix ix_tup (pv 9) pe_int (fun _ _ => rfl)) pe_str (nomark _))
            (pe_op op_catT (pe_slice sl_tup (pv 9) po_none (po_some pe_int)) (pe_tup (pa_cons (pv 10) pa_nil)))
            (pe_tup (pa_cons (pe_ix ix_tup (pv 9) pe_int (fun _ _ => rfl)) (pa_cons (pe_ix ix_tup (pv 9) pe_int (fun _ _ => rfl)) (pa_cons pe_dnewK (pa_cons (pv 10) pa_nil)))))))) pss_nil)
        (pss_one (ps_expr (pe_bm PySem.F.plainAttrs_list PySem.F.slot_list_append PySem.F.type_list_append mt_append (pv 6) (pa_cons (pv 9) pa_nil)))))))))
      (pss_one (ps_ret (pv 6)))))))), ?_⟩
    refine ⟨_, rfl, Nat.zero_le _, fun e he => ⟨_, _, dp_strs (by rw [upd_ne (ne_of_none hcl he)]; exact hcl), .lst (SqL.of upd_same) .nil, csh, rfl, _, rfl, ite_no (eqv_nil c0) ?_⟩⟩
    have g1 : Grow p H (upd H e (.lst [])) := Grow.new he
    have s1 := hp.new (o := .lst []) he
    revert g1 s1
    generalize (upd H e (.lst [])) = H1
    intro g1 s1
    refine ⟨_, rfl, _, _, rfl, rfl, (by show 2 ≤ sizeLine; decide), fun t ht => ⟨(by show 1 ≤ sizeLine; decide), fun q hq => ?_⟩⟩
    have pt := s1.ne ht
    have g2 : Grow p H (upd (upd H1 t (.tup [V.str "rest", V.int 1])) q (.lst [V.ref t])) := (g1.trans (Grow.new ht)).trans (Grow.new hq)
    have s2 := (s1.new (o := .tup [V.str "rest", V.int 1]) ht).new (o := .lst [V.ref t]) hq
    have npq : p ≠ q := (s1.new (o := .tup [V.str "rest", V.int 1]) ht).ne hq
    have hq0 : H q = none := (g1.trans (Grow.new ht)).free hq (s1.new (o := .tup [V.str "rest", V.int 1]) ht)
    have r2 : RowsAt (upd (upd H1 t (.tup [V.str "rest", V.int 1])) q (.lst [V.ref t])) [Row.rest 1] q := ⟨[t], upd_same, .cons (by
      show (upd (upd H1 t (.tup [V.str "rest", V.int 1])) q (.lst [V.ref t])) t = some (.tup [V.str "rest", V.int 1])
      rw [upd_ne (ne_of_none upd_same hq), upd_same]) .nil⟩
    revert g2 s2 r2
    generalize (upd (upd H1 t (.tup [V.str "rest", V.int 1])) q (.lst [V.ref t])) = H2
    intro g2 s2 r2
    refine ⟨_, rfl, (ahead : Int), rfl, by omega, by omega, for_range (n := ahead) (fun i σ H3 => ∃ (v : Option V) (xs : List Row), σ = [some (.ref p), some (.ref cl), some (.int (ahead : Nat)), some (.int (behind : Nat)), some (.ref wl), some (.int (1 + (ahead : Int))), some (.ref q), v, none, none, none] ∧ xs.length = i ∧ (∀ r ∈ xs, r.mid 1 (ahead + 2) cells) ∧ RowsAt H3 (Row.rest 1 :: xs) q ∧ Grow p H H3 ∧ Src p (n + 60 * i) H3)
      ⟨none, [], rfl, rfl, (fun _ h => nomatch h), r2, g2, s2⟩ ?_ ?_⟩
    · rintro i σ H3 hi ⟨v, xs, rfl, xl, xm, r3, g3, s3⟩
      obtain ⟨as, ha1, ha2⟩ := id r3
      refine ⟨_, rfl, .inl ⟨rfl, _, Or.inl (Or.inl ha1)⟩, _, rfl, _, rfl, _, rfl, _, _, rfl, rfl, _, rfl, p, cl, wl, n + 60 * i, 1, ahead + 2, cells, ws, vs5 rfl (by omega), s3, by omega, g3 _ _ hcl npc.symm, g3 _ _ hwl npw.symm, npc, npw, c0, c1, csh, wnd, wpos, w0, w1, by omega, by omega, fun a r H4 g4 ha rr rm s4 => ?_⟩
      have ha4 := g4 _ _ ha1 npq.symm
      have al4 : as.length = xs.length + 1 := by have := ha2.length; exact this
      refine ⟨q, _, _, rfl, rfl, ha4, small (by rw [List.length_map]; omega), ?_⟩
      refine ⟨_, xs ++ [r], rfl, by rw [List.length_append, xl]; rfl, ?_, RowsAt.add ha4 (L2.Paired.mapP ha2 fun a r x => x.grow g4 s3) rr, (g3.trans g4).put hq0, ((s4.put npq).le (by omega))⟩
      intro r' hr'
      rcases List.mem_append.mp hr' with h | h
      · exact xm r' h
      · cases h with
        | head => exact rm
        | tail _ h => cases h
    · rintro σ H3 ⟨v, xs, rfl, xl, xm, r3, g3, s3⟩
      obtain ⟨as, ha1, ha2⟩ := id r3
      refine ⟨_, rfl, .inl ⟨rfl, _, Or.inl (Or.inl ha1)⟩, _, rfl, _, _, rfl, rfl, _, rfl, ?_⟩
      obtain ⟨x, hx⟩ : ∃ x : Nat, x = if 0 < behind then ahead + 2 else 0 := ⟨_, rfl⟩
      have al3 : as.length = xs.length + 1 := by have := ha2.length; exact this
      refine if_via (V.int (x : Nat)) ?_ (fun hb kq => ⟨_, rfl, _, _, rfl, rfl, ?_⟩) (fun hb kq => ?_)
      rotate_left
      · have e0 : (fun i j : Int => V.int (i + j)) (1 + (ahead : Int)) 1 = V.int (x : Nat) := by
          show V.int _ = V.int _
          rw [if_pos (by omega)] at hx
          congr 1
          omega
        rw [e0]
        exact kq
      · have e0 : V.int (x : Nat) = V.int 0 := by
          rw [if_neg (by omega)] at hx
          rw [hx]
          rfl
        rw [e0] at kq
        exact kq
      refine ⟨(by show 2 ≤ sizeLine; decide), fun t2 ht2 => ⟨q, _, _, rfl, rfl, (by rw [upd_ne (ne_of_none ha1 ht2)]; exact ha1), small (by rw [List.length_map]; omega), ?_⟩⟩
      have h4 : (upd H3 t2 (.tup [V.str "inside", V.int (x : Nat)])) q = some (.lst (as.map V.ref)) := by
        rw [upd_ne (ne_of_none ha1 ht2)]
        exact ha1
      have r5 := RowsAt.add h4 (L2.Paired.mapP ha2 fun a r e => e.new (o := .tup [V.str "inside", V.int (x : Nat)]) ht2) (show RowAt (upd H3 t2 (.tup [V.str "inside", V.int (x : Nat)])) (Row.ins x) t2 from upd_same)
      have g5 : Grow p H (upd (upd H3 t2 (.tup [V.str "inside", V.int (x : Nat)])) q (.lst (as.map V.ref ++ [V.ref t2]))) := (g3.trans (Grow.new ht2)).put hq0
      have s5 := (s3.new (o := .tup [V.str "inside", V.int (x : Nat)]) ht2).put (o := .lst (as.map V.ref ++ [V.ref t2])) npq
      revert r5 g5 s5
      generalize (upd (upd H3 t2 (.tup [V.str "inside", V.int (x : Nat)])) q (.lst (as.map V.ref ++ [V.ref t2]))) = H5
      intro r5 g5 s5
      refine ⟨_, rfl, (behind : Int), rfl, by omega, by omega, for_range (n := behind) (fun i σ H6 => ∃ (v v8 v9 v10 : Option V) (ys : List Row), σ = [some (.ref p), some (.ref cl), some (.int (ahead : Nat)), some (.int (behind : Nat)), some (.ref wl), some (.int (1 + (ahead : Int))), some (.ref q), v, v8, v9, v10] ∧ ys.length = i ∧ (∀ r ∈ ys, r.tl (ahead + 2) (ahead + 2 + behind) cells) ∧ RowsAt H6 (Row.rest 1 :: (xs ++ Row.ins x :: ys)) q ∧ Grow p H H6 ∧ Src p (n + 60 * ahead + 60 * i) H6)
        ⟨v, none, none, none, [], rfl, rfl, (fun _ h => nomatch h), r5, g5, s5⟩ ?_ ?_⟩
      · rintro i σ H6 hi ⟨v, v8, v9, v10, ys, rfl, yl, ym, r6, g6, s6⟩
        obtain ⟨bs, hb1, hb2⟩ := id r6
        have bl6 : bs.length = ahead + 2 + i := by
          have := hb2.length
          simp only [List.length_cons, List.length_append] at this
          omega
        refine ⟨_, rfl, q, _, rfl, .inl (SqL.of hb1), ?_⟩
        refine ⟨_, rfl, _, rfl, _, rfl, _, _, rfl, rfl, _, rfl, _, _, rfl, rfl, _, rfl, _, _, rfl, rfl, _, rfl, p, cl, wl, n + 60 * ahead + 60 * i, ahead + 2, ahead + 2 + behind, cells, ws, vs5 (by omega) (by omega), s6, by omega, g6 _ _ hcl npc.symm, g6 _ _ hwl npw.symm, npc, npw, c0, c1, csh, wnd, wpos, w0, w1, by omega, by omega, fun a r H7 g7 ha rr rm s7 => ?_⟩
        obtain ⟨z, hz⟩ : ∃ z : Nat, z = if i + 1 < behind then ahead + i + 3 else 0 := ⟨_, rfl⟩
        refine ⟨_, rfl, _, _, rfl, rfl, _, rfl, _, _, rfl, rfl, _, rfl, ?_⟩
        refine if_via (V.int (z : Nat)) ?_ (fun hb kq => ⟨_, rfl, _, _, rfl, rfl, ?_⟩) (fun hb kq => ?_)
        rotate_left
        · have e0 : (fun i j : Int => V.int (i + j)) ((bs.map V.ref).length : Nat) 1 = V.int (z : Nat) := by
            show V.int _ = V.int _
            rw [if_pos (by omega)] at hz
            rw [List.length_map]
            congr 1
            omega
          rw [e0]
          exact kq
        · have e0 : V.int (z : Nat) = V.int 0 := by
            rw [if_neg (by omega)] at hz
            rw [hz]
            rfl
          rw [e0] at kq
          exact kq
        have zr : (ahead + 2 ≤ z ∧ z < ahead + 2 + behind) ∨ z = 0 := by
          by_cases hb : i + 1 < behind
          · rw [if_pos hb] at hz
            left
            omega
          · rw [if_neg hb] at hz
            exact .inr hz
        have fin : ∀ (b : Addr) (r' : Row) (H8 : Hp), RowAt H8 r' b → Grow p H7 H8 → Src p (n + 60 * ahead + 60 * i + 60) H8 → H8 q = some (.lst (bs.map V.ref)) ∧
            RowsAt (upd H8 q (.lst (bs.map V.ref ++ [V.ref b]))) (Row.rest 1 :: (xs ++ Row.ins x :: (ys ++ [r']))) q ∧ Grow p H (upd H8 q (.lst (bs.map V.ref ++ [V.ref b]))) ∧ Src p (n + 60 * ahead + 60 * (i + 1)) (upd H8 q (.lst (bs.map V.ref ++ [V.ref b]))) := by
          intro b r' H8 hr8 g8 s8
          have hb8 := g8 _ _ (g7 _ _ hb1 npq.symm) npq.symm
          have e := RowsAt.add hb8 (L2.Paired.mapP hb2 fun a r x => (x.grow g7 s6).grow g8 s7) hr8
          have e2 : (Row.rest 1 :: (xs ++ Row.ins x :: ys)) ++ [r'] = Row.rest 1 :: (xs ++ Row.ins x :: (ys ++ [r'])) := by simp
          rw [e2] at e
          exact ⟨hb8, e, ((g6.trans g7).trans g8).put hq0, (s8.put npq).le (by omega)⟩
        have tlok : ∀ r', r'.tl (ahead + 2) (ahead + 2 + behind) cells → ∀ r'' ∈ ys ++ [r'], r''.tl (ahead + 2) (ahead + 2 + behind) cells := by
          intro r' h r'' hr''
          rcases List.mem_append.mp hr'' with m | m
          · exact ym r'' m
          · cases m with
            | head => exact h
            | tail _ m => cases m
        have len8 : (bs.map V.ref).length < sizeLine := small (by rw [List.length_map]; omega)
        have yl1 : ∀ r', (ys ++ [r']).length = i + 1 := fun r' => by rw [List.length_append, yl]; rfl
        refine ⟨_, rfl, p, n + 60 * ahead + 60 * i + 50, 3, rfl, s7, by omega, by decide, by decide, fun r5 H8 e0 e1 g8 s8 => ⟨_, _, rfl, rfl, _, rfl, ?_⟩⟩
        have rr8 := rr.grow g8 s7
        refine ite2 (fun _ => ?_) (fun _ => ?_)
        · cases r with
          | rest m => exact rm.elim
          | ins m => exact rm.elim
          | wr c v m =>
            refine ⟨_, rfl, a, _, _, _, rfl, rfl, SqT.of rr8, rfl, rfl, _, rfl, ?_⟩
            refine ite_yes (decide_eq_true rfl) ?_
            refine ⟨_, rfl, _, rfl, a, _, rfl, SqT.of rr8, (by show ¬ (0 = 0 ∧ 3 = 4); decide), fun b hb => ?_⟩
            rw [show cutV [V.str "write", V.str c, V.int v, V.int (m : Nat)] none (some 3) = [V.str "write", V.str c, V.int v] from rfl]
            refine ⟨_, rfl, (by show 1 ≤ sizeLine; decide), fun d hd => ?_⟩
            have hb' : (upd (upd H8 b (.tup [V.str "write", V.str c, V.int v])) d (.tup [V.int (z : Nat)])) b = some (.tup [V.str "write", V.str c, V.int v]) := by
              rw [upd_ne (ne_of_none upd_same hd), upd_same]
            refine ⟨b, d, _, _, rfl, rfl, SqT.of hb', SqT.of upd_same, (by intro z; cases z), (by show 4 ≤ sizeLine; decide), (by intro z; cases z), fun _ y hy => ?_⟩
            obtain ⟨f1, f2, f3, f4⟩ := fin y (.wr c v z) _ (show RowAt (upd (upd (upd H8 b (.tup [V.str "write", V.str c, V.int v])) d (.tup [V.int (z : Nat)])) y (.tup [V.str "write", V.str c, V.int v, V.int (z : Nat)])) (.wr c v z) y from upd_same) (((g8.trans (Grow.new hb)).trans (Grow.new hd)).trans (Grow.new hy)) ((((s8.new hb).new hd).new hy).le (by omega))
            exact ⟨_, rfl, .inl ⟨rfl, _, Or.inl (Or.inl f1)⟩, _, rfl, q, _, _, rfl, rfl, f1, len8, _, _, _, _, ys ++ [Row.wr c v z], rfl, yl1 _, tlok (.wr c v z) ⟨rm.1, rm.2.1, zr⟩, f2, f3, f4⟩
          | rd c cs m =>
            obtain ⟨dd, rr1, rr2⟩ := rr8
            refine ⟨_, rfl, a, _, _, _, rfl, rfl, SqT.of rr1, rfl, rfl, _, rfl, ?_⟩
            refine ite_no (decide_eq_false (by intro z; cases z)) ?_
            refine ⟨_, rfl, a, _, _, _, rfl, rfl, SqT.of rr1, rfl, _, rfl, a, _, _, _, rfl, rfl, SqT.of rr1, rfl, fun d hd => ⟨_, rfl, (by show 4 ≤ sizeLine; decide), fun y hy => ?_⟩⟩
            obtain ⟨f1, f2, f3, f4⟩ := fin y (.rd c [] z) _ (show RowAt (upd (upd H8 d (.dK [])) y (.tup [V.str "read", V.str c, V.ref d, V.int (z : Nat)])) (.rd c [] z) y from ⟨d, upd_same, by rw [upd_ne (ne_of_none upd_same hy), upd_same]; rfl⟩) ((g8.trans (Grow.new hd)).trans (Grow.new hy)) (((s8.new hd).new hy).le (by omega))
            exact ⟨_, rfl, .inl ⟨rfl, _, Or.inl (Or.inl f1)⟩, _, rfl, q, _, _, rfl, rfl, f1, len8, _, _, _, _, ys ++ [Row.rd c [] z], rfl, yl1 _, tlok (.rd c [] z) ⟨rm.1, List.nodup_nil, (fun _ h => nomatch h), zr, Nat.zero_le _⟩, f2, f3, f4⟩
        · obtain ⟨f1, f2, f3, f4⟩ := fin a r H8 rr8 g8 (s8.le (by omega))
          exact ⟨_, rfl, .inl ⟨rfl, _, Or.inl (Or.inl f1)⟩, _, rfl, q, _, _, rfl, rfl, f1, len8, _, _, _, _, ys ++ [r], rfl, yl1 _, tlok r (Row.mid_tl rm), f2, f3, f4⟩
      · rintro σ H6 ⟨v, v8, v9, v10, ys, rfl, yl, ym, r6, g6, s6⟩
        exact ⟨_, rfl, k q _ H6 g6 hq0 r6 ⟨xs, ys, by rw [hx], xl, yl, xm, ym⟩ (s6.le (by omega))⟩
end
end CC

set_option Elab.async false
set_option maxRecDepth 100000
namespace CC
open PySem L2
set_option linter.unusedVariables false
/-! ### doubled rows -/
abbrev sDoubled : Stmt := top 29
def endOf (n s k : Nat) : Nat := if k = 0 then n - s else k + s
def endsTo (s m : Nat) : List (Int × Nat) := (List.range m).map fun i => (((i + 1 : Nat) : Int), i + 1 + s)
def endsL (n s : Nat) : List (Int × Nat) := endsTo s (n - 1) ++ [(0, n - s)]
def Row.re (e : Nat → Nat) : Row → Row
  | .rest n => .rest (e n)
  | .ins n => .ins (e n)
  | .wr c v n => .wr c v (e n)
  | .rd c cs n => .rd c (cs.map fun kv => (kv.1, e kv.2)) (e n)
def doubled (rs : List Row) : List Row := rs.map (Row.re (endOf rs.length 0)) ++ rs.map (Row.re (endOf rs.length rs.length))
theorem endsTo_keys (s m : Nat) : (endsTo s m).map (·.1) = (List.range m).map fun i => ((i + 1 : Nat) : Int) := by
  unfold endsTo
  rw [List.map_map]
  rfl
theorem endsTo_succ (s m : Nat) : endsTo s (m + 1) = endsTo s m ++ [(((m + 1 : Nat) : Int), m + 1 + s)] := by
  unfold endsTo
  rw [List.range_succ, List.map_append]
  rfl
theorem endsL_nodup (n s : Nat) : ((endsL n s).map (·.1)).Nodup := by
  unfold endsL
  rw [List.map_append, endsTo_keys, List.nodup_append]
  refine ⟨?_, by simp, ?_⟩
  · refine List.Pairwise.map _ (fun a b h e => h ?_) (List.nodup_range (n := n - 1))
    have : ((a + 1 : Nat) : Int) = ((b + 1 : Nat) : Int) := e
    omega
  · intro a ha b hb e
    obtain ⟨i, _, rfl⟩ := List.mem_map.mp ha
    cases hb with
    | head =>
      have : ((i + 1 : Nat) : Int) = 0 := e
      omega
    | tail _ h => cases h
theorem valV_mem {k : Int} {v : Nat} : ∀ {cs : List (Int × Nat)}, (cs.map (·.1)).Nodup → (k, v) ∈ cs → valV (kvOf cs) (Sum.inl k : Key) = some (V.int (v : Nat))
  | p :: r, nd, h => by
    have nd' : (p.1 :: r.map (·.1)).Nodup := nd
    show valV ((((Sum.inl p.1 : Key), V.int (p.2 : Nat))) :: kvOf r) (Sum.inl k) = _
    cases h with
    | head => exact valV_pos (p := ((Sum.inl k : Key), V.int (v : Nat))) rfl
    | tail _ h =>
      have ne : ¬ p.1 = k := fun e => (List.nodup_cons.mp nd').1 (by rw [e]; exact List.mem_map.mpr ⟨(k, v), h, rfl⟩)
      rw [valV_neg (by intro e; cases e; exact ne rfl)]
      exact valV_mem (List.nodup_cons.mp nd').2 h
theorem ends_val {n s k : Nat} (hk : k < n) : valV (kvOf (endsL n s)) (Sum.inl (k : Int) : Key) = some (V.int (endOf n s k : Nat)) := by
  refine valV_mem (endsL_nodup n s) ?_
  unfold endsL endOf
  by_cases h : k = 0
  · rw [if_pos h, h]
    exact List.mem_append_right _ (List.mem_cons_self ..)
  · rw [if_neg h]
    refine List.mem_append_left _ (List.mem_map.mpr ⟨k - 1, List.mem_range.mpr (by omega), ?_⟩)
    have e : k - 1 + 1 = k := by omega
    rw [e]
def part (rs : List Row) : Nat → List Row
  | 0 => []
  | j + 1 => part rs j ++ rs.map (Row.re (endOf rs.length (j * rs.length)))
theorem part2 (rs : List Row) : part rs 2 = doubled rs := by
  show ([] ++ rs.map (Row.re (endOf rs.length (0 * rs.length)))) ++ rs.map (Row.re (endOf rs.length (1 * rs.length))) = doubled rs
  rw [List.nil_append, Nat.zero_mul, Nat.one_mul]
  rfl
/-- each row has numbers below n, and no key twice -/
def Row.low (n : Nat) : Row → Prop
  | .rest m => m < n
  | .ins m => m < n
  | .wr _ _ m => m < n
  | .rd _ cs m => (cs.map (·.1)).Nodup ∧ (∀ kv ∈ cs, kv.2 < n) ∧ m < n ∧ cs.length ≤ 10
def spDoubled : Sp := fun vs H Q _ => ∃ (l : Addr) (rs : List Row), vs = [.ref l] ∧ RowsAt H rs l ∧ 2 ≤ rs.length ∧ rs.length ≤ 1000 ∧ (∀ r ∈ rs, r.low rs.length) ∧
  ∀ (q : Addr) (H' : Hp), Same H H' → H q = none → RowsAt H' (doubled rs) q → Q (.ref q) H'
theorem RowsAt.same {H H' : Hp} {rs : List Row} {l : Addr} (h : RowsAt H rs l) (s : Same H H') : RowsAt H' rs l := by
  obtain ⟨as, h1, h2⟩ := h
  exact ⟨as, s _ _ h1, L2.Paired.mapP h2 fun a r e => e.mono (fun b xs x => s _ _ x) fun b xs x => s _ _ x⟩
theorem same_new {H : Hp} {q : Addr} {o : HO} (h : H q = none) : Same H (upd H q o) := fun b u e => by
  rw [upd_ne (ne_of_none e h)]
  exact e
theorem same_put {H H1 : Hp} {q : Addr} {o : HO} (g : Same H H1) (h : H q = none) : Same H (upd H1 q o) := fun b u e => by
  rw [upd_ne (ne_of_none e h)]
  exact g b u e
theorem same_tr {H H1 H2 : Hp} (a : Same H H1) (b : Same H1 H2) : Same H H2 := fun q o e => b q o (a q o e)
theorem dget_end {H : Hp} {d : Addr} {N S m : Nat} (h : H d = some (.dK (kvOf (endsL N S)))) (hm : m < N) : DGet H d (V.int (m : Nat)) (some (V.int (endOf N S m : Nat))) := by
  rw [← ends_val (s := S) hm]
  exact DGet.k (k := Sum.inl (m : Int)) h
theorem paired_at {α β : Type} {F : α → β → Prop} : ∀ {l : List α} {m : List β} {i : Nat} {a : α}, Paired F l m → l[i]? = some a → ∃ b, m[i]? = some b ∧ F a b
  | _, _, _, _, .nil, h => by simp at h
  | _, _, 0, _, .cons h t, e => ⟨_, rfl, by cases Option.some.inj e; exact h⟩
  | _, _, i + 1, _, .cons h t, e => paired_at (i := i) t e
theorem ix_tupK {X : Cx} {K : PySem.W.Frag} (e : X.K = K) : IxR X (rIxT K) := e ▸ ix_tup
theorem ix_listK {X : Cx} {K : PySem.W.Frag} (e : X.K = K) : IxR X (rIxL K) := e ▸ ix_list
section
variable {P : Program} {w : World} {K : PySem.W.Frag} {mg : Str → Option Value} {base : Heap}
theorem scDoubled : FnScope ["_law_rows_here", "_law_many", "_law_found", "_law_shift", "_law_ends", "_law_row", "_law_k", "_law_worth"] ["_law_rows_here"] (defScope sDoubled) := ⟨rfl, rfl, rfl, by decide +kernel, rfl, by decide +kernel, by decide +kernel⟩
theorem ok_doubled {f : Addr} {fd : FuncData} (F : Fun K "_law_doubled" "_law_doubled" sDoubled f fd) (tl : mg "len" = none) (tr : mg "range" = none) (td : mg "dict" = none) :
    FnOk P w K mg base CX0 1 f fd ["_law_rows_here"] spDoubled := by
  refine F.ok scDoubled (fun vs H Q E h => ?_) (fun cdv A outer s H vs Q E hr h => ?_)
  · obtain ⟨l, rs, rfl, _⟩ := h
    rfl
  · obtain ⟨l, rs, rfl, hl, n2, n3, low, k⟩ := h
    have hu := hu_of hr
    refine ⟨_, pss_cons (ps_par (i := 1) (j := 2) (by rfl) scDoubled.nd rfl rfl (by decide) rfl rfl (pa_cons (pe_callB call_len_seq (by rfl) tl PySem.boot_len (pa_cons (pv 0) pa_nil)) (pa_cons (pe_lst pa_nil) pa_nil)) (by rfl))
      (pss_cons (ps_for PassesOwn.never rfl (pi_tup (pe_tup (pa_cons pe_int (pa_cons (pv 1) pa_nil)))) (pg_name (i := 3) scDoubled.nd rfl (Or.inr rfl))
        (pss_cons (ps_set (i := 4) scDoubled.nd rfl (Or.inr rfl) (pe_callTy (call_dictP rfl) (by rfl) td (by decide +kernel) (pa_cons (pe_op op_cat
          (pe_lc (own := [("_law_k", 6)]) (g := gName 6) (by rfl) scDoubled.nd (pi_range2 (by rfl) tr (pa_cons pe_int (pa_cons (pv 1) pa_nil))) (blkOk_by (own := [("_law_k", 6)]) (N := ["_law_rows_here", "_law_many", "_law_found", "_law_shift", "_law_ends", "_law_row", "_law_k", "_law_worth"]) (sc := defScope sDoubled) (by decide +kernel)) (fun _ _ _ _ _ => pg_name (i := 6) scDoubled.nd rfl (Or.inl rfl)) (fun _ _ _ _ _ => pts_nil)
            (fun _ _ _ _ _ => pe_tup (pa_cons (pv 6) (pa_cons (pe_op op_add (pv 6) (pv 3)) pa_nil))))
          (pe_lst (pa_cons (pe_tup (pa_cons pe_int (pa_cons (pe_op op_sub (pv 1) (pv 3)) pa_nil))) pa_nil))) pa_nil)))
        (pss_one (ps_for PassesOwn.never rfl (pi_list (pv 0)) (pg_name (i := 5) scDoubled.nd rfl (Or.inr rfl))
          (pss_cons (ps_set (i := 5) scDoubled.nd rfl (Or.inr rfl) (pe_op op_catT (pe_slice sl_tup (pv 5) po_none (po_some (pe_un un_neg pe_int))) (pe_tup (pa_cons (pe_dget hu (pv 4) (pe_ix ix_tup (pv 5) (pe_un un_neg pe_int) (fun _ _ => rfl)) (fun _ _ => rfl)) pa_nil))))
          (pss_cons (ps_if (pt_cmpR op_eq (pe_ix ix_tup (pv 5) pe_int (fun _ _ => rfl)) pe_str (nomark _))
            (pss_one (ps_set (i := 5) scDoubled.nd rfl (Or.inr rfl) (pe_tup (pa_cons (pe_ix ix_tup (pv 5) pe_int (fun _ _ => rfl)) (pa_cons (pe_ix ix_tup (pv 5) pe_int (fun _ _ => rfl)) (pa_cons (pe_callTy (call_dictP rfl) (by rfl) td (by decide +kernel) (pa_cons
              (pe_lock (pe_lc (own := [("_law_worth", 7)]) (g := gName 7) (by rfl) scDoubled.nd (pi_keys (pe_ix ix_tup (pv 5) pe_int (fun _ _ => rfl))) (blkOk_by (own := [("_law_worth", 7)]) (N := ["_law_rows_here", "_law_many", "_law_found", "_law_shift", "_law_ends", "_law_row", "_law_k", "_law_worth"]) (sc := defScope sDoubled) (by decide +kernel)) (fun _ _ _ _ _ => pg_name (i := 7) scDoubled.nd rfl (Or.inl rfl)) (fun _ _ _ _ _ => pts_nil)
                (fun _ _ _ _ _ => pe_tup (pa_cons (pv 7) (pa_cons (pe_dget hu (pv 4) (pe_dget hu (pe_ix (ix_tupK (K := K) rfl) (pv 5) pe_int (fun _ _ => rfl)) (pv 7) (fun _ _ => rfl)) (fun _ _ => rfl)) pa_nil))))) pa_nil)) (pa_cons (pe_ix ix_tup (pv 5) pe_int (fun _ _ => rfl)) pa_nil))))))) pss_nil)
          (pss_one (ps_expr (pe_bm PySem.F.plainAttrs_list PySem.F.slot_list_append PySem.F.type_list_append mt_append (pv 2) (pa_cons (pv 5) pa_nil))))))))))
      (pss_one (ps_ret (pv 2)))), ?_⟩
    obtain ⟨as, ha1, ha2⟩ := id hl
    have asl : as.length = rs.length := ha2.length
    obtain ⟨N, hN⟩ : ∃ N, N = rs.length := ⟨_, rfl⟩
    refine ⟨_, rfl, l, _, rfl, .inl (SqL.of ha1), Nat.zero_le _, fun q hq => ⟨_, _, rfl, ?_⟩⟩
    rw [List.length_map, asl, ← hN]
    refine ⟨_, rfl, (by show 2 ≤ sizeLine; decide), fun t ht => ⟨t, rfl, ⟨_, SqT.of upd_same⟩, ?_⟩⟩
    have sq : Same H (upd H q (.lst [])) := same_new hq
    have st : Same H (upd (upd H q (.lst [])) t (.tup [V.int 0, V.int (N : Nat)])) := same_tr sq (same_new ht)
    have tq : q ≠ t := ne_of_none upd_same ht
    refine for_tup (K := K) (a := t) (xs := [V.int 0, V.int (N : Nat)]) (fun j σ H2 => ∃ v3 v4 v5, σ = [some (.ref l), some (.int (N : Nat)), some (.ref q), v3, v4, v5, none, none] ∧ H2 t = some (.tup [V.int 0, V.int (N : Nat)]) ∧ RowsAt H2 (part rs j) q ∧ Same H H2)
      ⟨none, none, none, rfl, upd_same, ⟨[], (by rw [upd_ne tq, upd_same]; rfl), .nil⟩, st⟩ (fun i σ H2 _ ⟨_, _, _, _, e, _⟩ => SqT.of e) ?_ ?_
    · rintro j y σ H2 hj ⟨v3, v4, v5, rfl, ht2, hq2, s2⟩
      obtain ⟨hj2, rfl⟩ : j < 2 ∧ y = V.int (j * N : Nat) := by
        match j, hj with
        | 0, e => exact ⟨by decide, by rw [Nat.zero_mul]; exact (Option.some.inj e).symm⟩
        | 1, e => exact ⟨by decide, by rw [Nat.one_mul]; exact (Option.some.inj e).symm⟩
      obtain ⟨S, hS⟩ : ∃ S, S = j * N := ⟨_, rfl⟩
      rw [← hS]
      have S0 : S ≤ N := by
        match j, hj2 with
        | 0, _ => omega
        | 1, _ => omega
      refine ⟨_, rfl, 1, (N : Int), rfl, ⟨by decide, by decide, by omega, by omega⟩, fun D hD => ?_⟩
      have eN : ((N : Int) - 1).toNat = N - 1 := by omega
      rw [eN]
      refine lc_range (lo := 1) (n := N - 1) (fun i H3 => ∃ ts : List Addr, H3 D = some (.lst (ts.map V.ref)) ∧ Paired (fun t (kv : Int × Nat) => H3 t = some (.tup [V.int kv.1, V.int (kv.2 : Nat)])) ts (endsTo S i) ∧ Same H2 H3)
        ⟨[], upd_same, .nil, same_new hD⟩ ?_ ?_
      · rintro i H3 hi ⟨ts, hD3, hp3, s3⟩
        have len : ts.length = i := by
          have h1 := hp3.length
          unfold endsTo at h1
          rw [List.length_map, List.length_range] at h1
          exact h1
        refine ⟨rfl, tyes_if ?_⟩
        refine ⟨_, rfl, _, rfl, _, rfl, _, _, rfl, rfl, (by show 2 ≤ sizeLine; decide), fun t1 ht1 => ?_⟩
        have ntD : D ≠ t1 := ne_of_none hD3 ht1
        refine ⟨ts.map V.ref, by rw [upd_ne ntD]; exact hD3, small (by rw [List.length_map]; omega), ts ++ [t1], ?_, ?_, ?_⟩
        · rw [upd_same, List.map_append]
          rfl
        · rw [endsTo_succ]
          refine Paired.snoc (L2.Paired.mapP hp3 fun b kv hb => ?_) ?_
          · rw [upd_ne (ne_of hb hD3 (by intro z; cases z)), upd_ne (ne_of_none hb ht1)]
            exact hb
          · rw [upd_ne ntD.symm, upd_same]
            show some (HO.tup [V.int (1 + (i : Int)), V.int (1 + (i : Int) + (S : Nat))]) = some (HO.tup [V.int ((i + 1 : Nat) : Int), V.int ((i + 1 + S : Nat) : Int)])
            rw [show (1 + (i : Int)) = ((i + 1 : Nat) : Int) by omega, show (((i + 1 : Nat) : Int) + (S : Nat)) = ((i + 1 + S : Nat) : Int) by omega]
        · exact same_put (same_tr s3 (same_new ht1)) hD
      · rintro H3 ⟨ts, hD3, hp3, s3⟩
        refine ⟨_, rfl, _, rfl, _, _, rfl, rfl, (by show 2 ≤ sizeLine; decide), fun t0 ht0 => ⟨(by show 1 ≤ sizeLine; decide), fun B hB => ?_⟩⟩
        have hD4 : (upd (upd H3 t0 (.tup [V.int 0, V.int ((N : Int) - (S : Nat))])) B (.lst [V.ref t0])) D = some (.lst (ts.map V.ref)) := by
          have x : (upd H3 t0 (.tup [V.int 0, V.int ((N : Int) - (S : Nat))])) D = some (.lst (ts.map V.ref)) := by
            rw [upd_ne (ne_of_none hD3 ht0)]
            exact hD3
          rw [upd_ne (ne_of_none x hB)]
          exact x
        refine ⟨D, B, ts.map V.ref, [V.ref t0], rfl, rfl, hD4, upd_same, ?_, fun C hC => ?_⟩
        · have := hp3.length
          unfold endsTo at this
          rw [List.length_map, List.length_range] at this
          rw [List.length_map, this]
          exact Nat.le_of_lt (small (show N - 1 + 1 < 1000000 by omega))
        have e0 : ((N : Int) - (S : Nat)) = ((N - S : Nat) : Int) := by omega
        have hC4 : (upd (upd (upd H3 t0 (.tup [V.int 0, V.int ((N : Int) - (S : Nat))])) B (.lst [V.ref t0])) C (.lst (ts.map V.ref ++ [V.ref t0]))) C = some (.lst ((ts ++ [t0]).map V.ref)) := by
          rw [upd_same, List.map_append]
          rfl
        have hp4 : Paired (fun p (kv : Int × Nat) => SqT K (upd (upd (upd H3 t0 (.tup [V.int 0, V.int ((N : Int) - (S : Nat))])) B (.lst [V.ref t0])) C (.lst (ts.map V.ref ++ [V.ref t0]))) p [V.int kv.1, V.int (kv.2 : Nat)]) (ts ++ [t0]) (endsL N S) := by
          unfold endsL
          have nB : ∀ b xs, H3 b = some (.tup xs) → (upd (upd (upd H3 t0 (.tup [V.int 0, V.int ((N : Int) - (S : Nat))])) B (.lst [V.ref t0])) C (.lst (ts.map V.ref ++ [V.ref t0]))) b = some (.tup xs) := fun b xs hb => by
            have x1 : (upd H3 t0 (.tup [V.int 0, V.int ((N : Int) - (S : Nat))])) b = some (.tup xs) := by
              rw [upd_ne (ne_of_none hb ht0)]
              exact hb
            have x2 : (upd (upd H3 t0 (.tup [V.int 0, V.int ((N : Int) - (S : Nat))])) B (.lst [V.ref t0])) b = some (.tup xs) := by
              rw [upd_ne (ne_of_none x1 hB)]
              exact x1
            rw [upd_ne (ne_of_none x2 hC)]
            exact x2
          refine Paired.snoc (L2.Paired.mapP hp3 fun b kv hb => SqT.of (nB _ _ hb)) (SqT.of ?_)
          have x1 : (upd H3 t0 (.tup [V.int 0, V.int ((N : Int) - (S : Nat))])) t0 = some (.tup [V.int 0, V.int ((N : Int) - (S : Nat))]) := upd_same
          have x2 : (upd (upd H3 t0 (.tup [V.int 0, V.int ((N : Int) - (S : Nat))])) B (.lst [V.ref t0])) t0 = some (.tup [V.int 0, V.int ((N : Int) - (S : Nat))]) := by
            rw [upd_ne (ne_of_none x1 hB)]
            exact x1
          rw [upd_ne (ne_of_none x2 hC), x2, e0]
        refine ⟨C, ts ++ [t0], kvOf (endsL N S), rfl, SqL.of hC4, paired_map hp4, fun d hd => ?_⟩
        have em : mergeK [] (kvOf (endsL N S)) = kvOf (endsL N S) := merge_kv (endsL N S) [] (endsL_nodup N S)
        rw [em]
        have d0 : H d = none := (same_tr s2 (same_tr (same_tr (same_tr s3 (same_new ht0)) (same_new hB)) (same_new hC))).free hd
        have s6 : Same H2 (upd (upd (upd (upd H3 t0 (.tup [V.int 0, V.int ((N : Int) - (S : Nat))])) B (.lst [V.ref t0])) C (.lst (ts.map V.ref ++ [V.ref t0]))) d (.dK (kvOf (endsL N S)))) := same_tr (same_tr (same_tr (same_tr s3 (same_new ht0)) (same_new hB)) (same_new hC)) (same_new hd)
        have d6 : (upd (upd (upd (upd H3 t0 (.tup [V.int 0, V.int ((N : Int) - (S : Nat))])) B (.lst [V.ref t0])) C (.lst (ts.map V.ref ++ [V.ref t0]))) d (.dK (kvOf (endsL N S)))) d = some (.dK (kvOf (endsL N S))) := upd_same
        revert s6 d6
        generalize (upd (upd (upd (upd H3 t0 (.tup [V.int 0, V.int ((N : Int) - (S : Nat))])) B (.lst [V.ref t0])) C (.lst (ts.map V.ref ++ [V.ref t0]))) d (.dK (kvOf (endsL N S)))) = H6
        intro s6 d6
        refine ⟨_, rfl, l, rfl, ⟨_, SqL.of (s6 _ _ (s2 _ _ ha1))⟩, for_list (K := K) (a := l) (xs := as.map V.ref) (fun i σ H7 => ∃ v5, σ = [some (.ref l), some (.int (N : Nat)), some (.ref q), some (.int (S : Nat)), some (.ref d), v5, none, none] ∧ H7 d = some (.dK (kvOf (endsL N S))) ∧ H7 t = some (.tup [V.int 0, V.int (N : Nat)]) ∧ RowsAt H7 (part rs j ++ (rs.take i).map (Row.re (endOf N S))) q ∧ Same H H7)
          ⟨v5, rfl, d6, s6 _ _ ht2, (by rw [List.take_zero, List.map_nil, List.append_nil]; exact hq2.same s6), same_tr s2 s6⟩ (fun i σ H7 _ ⟨_, _, _, _, _, s7⟩ => SqL.of (s7 _ _ ha1)) ?_ ?_⟩
        · rintro i y σ H7 hi ⟨w5, rfl, d7, t7, q7, s7⟩
          rw [List.getElem?_map] at hi
          obtain ⟨a, hia, rfl⟩ : ∃ a, as[i]? = some a ∧ y = V.ref a := by
            cases e : as[i]? with
            | none =>
              rw [e] at hi
              cases hi
            | some z =>
              rw [e] at hi
              exact ⟨z, rfl, (Option.some.inj hi).symm⟩
          obtain ⟨r, hir, hraH⟩ := paired_at ha2 hia
          have hra : RowAt H7 r a := hraH.mono (fun b xs x => s7 _ _ x) fun b xs x => s7 _ _ x
          have rlow := low r (List.mem_of_getElem? hir)
          rw [← hN] at rlow
          obtain ⟨bs, hb1, hb2⟩ := id q7
          have bl : bs.length ≤ 3000 := by
            have h1 := hb2.length
            have h2 : (part rs j).length ≤ 2 * rs.length := by
              match j, hj2 with
              | 0, _ => exact Nat.zero_le _
              | 1, _ =>
                show ([] ++ rs.map _).length ≤ _
                rw [List.nil_append, List.length_map]
                omega
            rw [List.length_append, List.length_map, List.length_take] at h1
            omega
          have tk : rs.take (i + 1) = rs.take i ++ [r] := by rw [List.take_add_one, hir]; rfl
          have fin : ∀ (b : Addr) (H8 : Hp), RowAt H8 (r.re (endOf N S)) b → Same H7 H8 → H8 q = some (.lst (bs.map V.ref)) ∧ (bs.map V.ref).length < sizeLine ∧ (upd H8 q (.lst (bs.map V.ref ++ [V.ref b]))) d = some (.dK (kvOf (endsL N S))) ∧ (upd H8 q (.lst (bs.map V.ref ++ [V.ref b]))) t = some (.tup [V.int 0, V.int (N : Nat)]) ∧
              RowsAt (upd H8 q (.lst (bs.map V.ref ++ [V.ref b]))) (part rs j ++ (rs.take (i + 1)).map (Row.re (endOf N S))) q ∧ Same H (upd H8 q (.lst (bs.map V.ref ++ [V.ref b]))) := by
            intro b H8 hb8 s8
            have q8 := s8 _ _ hb1
            have e := RowsAt.add q8 (L2.Paired.mapP hb2 fun a r e => e.mono (fun b xs x => s8 _ _ x) fun b xs x => s8 _ _ x) hb8
            rw [List.append_assoc] at e
            refine ⟨q8, small (by rw [List.length_map]; omega), ?_, ?_, ?_, same_put (same_tr s7 s8) hq⟩
            · rw [upd_ne (ne_of (s8 _ _ d7) q8 (by intro z; cases z))]
              exact s8 _ _ d7
            · rw [upd_ne (ne_of (s8 _ _ t7) q8 (by intro z; cases z))]
              exact s8 _ _ t7
            · rw [tk, List.map_append]
              exact e
          cases r with
          | rest m =>
            refine ⟨_, rfl, _, rfl, _, rfl, a, _, rfl, SqT.of hra, (by show ¬ (0 = 0 ∧ 1 = 2); decide), fun b hb => ?_⟩
            rw [show cutV [V.str "rest", V.int (m : Nat)] none (some (-1)) = [V.str "rest"] from rfl]
            have s8 : Same H7 (upd H7 b (.tup [V.str "rest"])) := same_new hb
            have b8 : (upd H7 b (.tup [V.str "rest"])) b = some (.tup [V.str "rest"]) := upd_same
            revert s8 b8
            generalize (upd H7 b (.tup [V.str "rest"])) = H8
            intro s8 b8
            refine ⟨_, rfl, _, rfl, _, rfl, a, _, _, _, rfl, rfl, SqT.of (s8 _ _ hra), rfl, d, _, rfl, dget_end (s8 _ _ d7) rlow, (by show 1 ≤ sizeLine; decide), fun c hc => ?_⟩
            refine ⟨b, c, _, _, rfl, rfl, SqT.of (by rw [upd_ne (ne_of_none b8 hc)]; exact b8), SqT.of upd_same, (by intro z; cases z), (by show 2 ≤ sizeLine; decide), (by intro z; cases z), fun _ y hy => ?_⟩
            have s9 := same_tr (same_tr s8 (same_new (o := .tup [V.int (endOf N S m : Nat)]) hc)) (same_new (o := .tup ([V.str "rest"] ++ [V.int (endOf N S m : Nat)])) hy)
            have y9 : (upd (upd H8 c (.tup [V.int (endOf N S m : Nat)])) y (.tup ([V.str "rest"] ++ [V.int (endOf N S m : Nat)]))) y = some (.tup ([V.str "rest"] ++ [V.int (endOf N S m : Nat)])) := upd_same
            revert s9 y9
            generalize (upd (upd H8 c (.tup [V.int (endOf N S m : Nat)])) y (.tup ([V.str "rest"] ++ [V.int (endOf N S m : Nat)]))) = H9
            intro s9 y9
            refine ⟨_, rfl, y, _, _, _, rfl, rfl, SqT.of y9, rfl, rfl, _, rfl, ?_⟩
            refine ite_no (decide_eq_false (by intro z; cases z)) ?_
            obtain ⟨f1, f2, f3, f4, f5, f6⟩ := fin y H9 y9 s9
            exact ⟨_, rfl, .inl ⟨rfl, _, Or.inl (Or.inl f1)⟩, _, rfl, q, _, _, rfl, rfl, f1, f2, _, rfl, f3, f4, f5, f6⟩
          | ins m =>
            refine ⟨_, rfl, _, rfl, _, rfl, a, _, rfl, SqT.of hra, (by show ¬ (0 = 0 ∧ 1 = 2); decide), fun b hb => ?_⟩
            rw [show cutV [V.str "inside", V.int (m : Nat)] none (some (-1)) = [V.str "inside"] from rfl]
            have s8 : Same H7 (upd H7 b (.tup [V.str "inside"])) := same_new hb
            have b8 : (upd H7 b (.tup [V.str "inside"])) b = some (.tup [V.str "inside"]) := upd_same
            revert s8 b8
            generalize (upd H7 b (.tup [V.str "inside"])) = H8
            intro s8 b8
            refine ⟨_, rfl, _, rfl, _, rfl, a, _, _, _, rfl, rfl, SqT.of (s8 _ _ hra), rfl, d, _, rfl, dget_end (s8 _ _ d7) rlow, (by show 1 ≤ sizeLine; decide), fun c hc => ?_⟩
            refine ⟨b, c, _, _, rfl, rfl, SqT.of (by rw [upd_ne (ne_of_none b8 hc)]; exact b8), SqT.of upd_same, (by intro z; cases z), (by show 2 ≤ sizeLine; decide), (by intro z; cases z), fun _ y hy => ?_⟩
            have s9 := same_tr (same_tr s8 (same_new (o := .tup [V.int (endOf N S m : Nat)]) hc)) (same_new (o := .tup ([V.str "inside"] ++ [V.int (endOf N S m : Nat)])) hy)
            have y9 : (upd (upd H8 c (.tup [V.int (endOf N S m : Nat)])) y (.tup ([V.str "inside"] ++ [V.int (endOf N S m : Nat)]))) y = some (.tup ([V.str "inside"] ++ [V.int (endOf N S m : Nat)])) := upd_same
            revert s9 y9
            generalize (upd (upd H8 c (.tup [V.int (endOf N S m : Nat)])) y (.tup ([V.str "inside"] ++ [V.int (endOf N S m : Nat)]))) = H9
            intro s9 y9
            refine ⟨_, rfl, y, _, _, _, rfl, rfl, SqT.of y9, rfl, rfl, _, rfl, ?_⟩
            refine ite_no (decide_eq_false (by intro z; cases z)) ?_
            obtain ⟨f1, f2, f3, f4, f5, f6⟩ := fin y H9 y9 s9
            exact ⟨_, rfl, .inl ⟨rfl, _, Or.inl (Or.inl f1)⟩, _, rfl, q, _, _, rfl, rfl, f1, f2, _, rfl, f3, f4, f5, f6⟩
          | wr x v m =>
            refine ⟨_, rfl, _, rfl, _, rfl, a, _, rfl, SqT.of hra, (by show ¬ (0 = 0 ∧ 3 = 4); decide), fun b hb => ?_⟩
            rw [show cutV [V.str "write", V.str x, V.int v, V.int (m : Nat)] none (some (-1)) = [V.str "write", V.str x, V.int v] from rfl]
            have s8 : Same H7 (upd H7 b (.tup [V.str "write", V.str x, V.int v])) := same_new hb
            have b8 : (upd H7 b (.tup [V.str "write", V.str x, V.int v])) b = some (.tup [V.str "write", V.str x, V.int v]) := upd_same
            revert s8 b8
            generalize (upd H7 b (.tup [V.str "write", V.str x, V.int v])) = H8
            intro s8 b8
            refine ⟨_, rfl, _, rfl, _, rfl, a, _, _, _, rfl, rfl, SqT.of (s8 _ _ hra), rfl, d, _, rfl, dget_end (s8 _ _ d7) rlow, (by show 1 ≤ sizeLine; decide), fun c hc => ?_⟩
            refine ⟨b, c, _, _, rfl, rfl, SqT.of (by rw [upd_ne (ne_of_none b8 hc)]; exact b8), SqT.of upd_same, (by intro z; cases z), (by show 4 ≤ sizeLine; decide), (by intro z; cases z), fun _ y hy => ?_⟩
            have s9 := same_tr (same_tr s8 (same_new (o := .tup [V.int (endOf N S m : Nat)]) hc)) (same_new (o := .tup ([V.str "write", V.str x, V.int v] ++ [V.int (endOf N S m : Nat)])) hy)
            have y9 : (upd (upd H8 c (.tup [V.int (endOf N S m : Nat)])) y (.tup ([V.str "write", V.str x, V.int v] ++ [V.int (endOf N S m : Nat)]))) y = some (.tup ([V.str "write", V.str x, V.int v] ++ [V.int (endOf N S m : Nat)])) := upd_same
            revert s9 y9
            generalize (upd (upd H8 c (.tup [V.int (endOf N S m : Nat)])) y (.tup ([V.str "write", V.str x, V.int v] ++ [V.int (endOf N S m : Nat)]))) = H9
            intro s9 y9
            refine ⟨_, rfl, y, _, _, _, rfl, rfl, SqT.of y9, rfl, rfl, _, rfl, ?_⟩
            refine ite_no (decide_eq_false (by intro z; cases z)) ?_
            obtain ⟨f1, f2, f3, f4, f5, f6⟩ := fin y H9 y9 s9
            exact ⟨_, rfl, .inl ⟨rfl, _, Or.inl (Or.inl f1)⟩, _, rfl, q, _, _, rfl, rfl, f1, f2, _, rfl, f3, f4, f5, f6⟩
          | rd x cs m =>
            obtain ⟨dd, hH1, hH2⟩ := hraH
            have hr1 := s7 _ _ hH1
            have hr2 := s7 _ _ hH2
            refine ⟨_, rfl, _, rfl, _, rfl, a, _, rfl, SqT.of hr1, (by show ¬ (0 = 0 ∧ 3 = 4); decide), fun b hb => ?_⟩
            rw [show cutV [V.str "read", V.str x, V.ref dd, V.int (m : Nat)] none (some (-1)) = [V.str "read", V.str x, V.ref dd] from rfl]
            have s8 : Same H7 (upd H7 b (.tup [V.str "read", V.str x, V.ref dd])) := same_new hb
            have b8 : (upd H7 b (.tup [V.str "read", V.str x, V.ref dd])) b = some (.tup [V.str "read", V.str x, V.ref dd]) := upd_same
            revert s8 b8
            generalize (upd H7 b (.tup [V.str "read", V.str x, V.ref dd])) = H8
            intro s8 b8
            refine ⟨_, rfl, _, rfl, _, rfl, a, _, _, _, rfl, rfl, SqT.of (s8 _ _ hr1), rfl, d, _, rfl, dget_end (s8 _ _ d7) rlow.2.2.1, (by show 1 ≤ sizeLine; decide), fun c hc => ?_⟩
            refine ⟨b, c, _, _, rfl, rfl, SqT.of (by rw [upd_ne (ne_of_none b8 hc)]; exact b8), SqT.of upd_same, (by intro z; cases z), (by show 4 ≤ sizeLine; decide), (by intro z; cases z), fun _ y hy => ?_⟩
            have s9 := same_tr (same_tr s8 (same_new (o := .tup [V.int (endOf N S m : Nat)]) hc)) (same_new (o := .tup ([V.str "read", V.str x, V.ref dd] ++ [V.int (endOf N S m : Nat)])) hy)
            have y9 : (upd (upd H8 c (.tup [V.int (endOf N S m : Nat)])) y (.tup ([V.str "read", V.str x, V.ref dd] ++ [V.int (endOf N S m : Nat)]))) y = some (.tup ([V.str "read", V.str x, V.ref dd] ++ [V.int (endOf N S m : Nat)])) := upd_same
            revert s9 y9
            generalize (upd (upd H8 c (.tup [V.int (endOf N S m : Nat)])) y (.tup ([V.str "read", V.str x, V.ref dd] ++ [V.int (endOf N S m : Nat)]))) = H9
            intro s9 y9
            refine ⟨_, rfl, y, _, _, _, rfl, rfl, SqT.of y9, rfl, rfl, _, rfl, ?_⟩
            refine ite_yes (decide_eq_true rfl) ?_
            have dd9 := s9 _ _ hr2
            have d9 := s9 _ _ d7
            have nyd : y ≠ dd := ne_of y9 dd9 (by intro z; cases z)
            refine ⟨_, rfl, y, _, _, _, rfl, rfl, SqT.of y9, rfl, _, rfl, y, _, _, _, rfl, rfl, SqT.of y9, rfl, dd, _, dd9, trivial, fun od => ?_⟩
            obtain ⟨ndk, lowk, mN, cl10⟩ := rlow
            have yL : (upd H9 dd (.frz od (.dK (kvOf cs)))) y = some (.tup [V.str "read", V.str x, V.ref dd, V.int (endOf N S m : Nat)]) := by
              rw [upd_ne nyd]
              exact y9
            have dL : (upd H9 dd (.frz od (.dK (kvOf cs)))) dd = some (.frz od (.dK (kvOf cs))) := upd_same
            have eL : d ≠ dd → (upd H9 dd (.frz od (.dK (kvOf cs)))) d = some (.dK (kvOf (endsL N S))) := fun n => by
              rw [upd_ne n]
              exact d9
            have ndd : d ≠ dd := fun z => by
              rw [z, hH2] at d0
              cases d0
            have eL := eL ndd
            have oL : ∀ b o, H9 b = some o → b ≠ dd → (upd H9 dd (.frz od (.dK (kvOf cs)))) b = some o := fun b o e n => by
              rw [upd_ne n]
              exact e
            have nL : ∀ b, (upd H9 dd (.frz od (.dK (kvOf cs)))) b = none → H9 b = none := fun b e => by
              by_cases n : b = dd
              · rw [n, dL] at e
                cases e
              · rw [upd_ne n] at e
                exact e
            revert yL dL eL oL nL
            generalize (upd H9 dd (.frz od (.dK (kvOf cs)))) = HL
            intro yL dL eL oL nL
            refine ⟨_, rfl, y, _, _, _, rfl, rfl, SqT.of yL, rfl, dd, od, rfl, .inl ⟨_, dL, fun D2 hD2 => ?_⟩⟩
            refine lc_it (walk_keys (d := dd) (o := od) (kvs := kvOf cs)) (fun i H => ∃ ts : List Addr, H D2 = some (.lst (ts.map V.ref)) ∧ Paired (fun t (kv : Int × Nat) => H t = some (.tup [V.int kv.1, V.int (kv.2 : Nat)])) ts ((cs.take i).map fun (kv : Int × Nat) => (kv.1, endOf N S kv.2)) ∧ Same HL H)
              ⟨[], upd_same, .nil, same_new hD2⟩ (fun i H _ ⟨_, _, _, e⟩ => e _ _ dL) ?_ ?_
            · rintro i x0 Ha Hb hi ⟨us, hDa, hpa, sa⟩ ⟨rfl, k0, v0, hk0, rfl⟩
              obtain ⟨kv, hkv, hkk⟩ : ∃ kv, cs[i]? = some kv ∧ k0 = Sum.inl kv.1 := by
                unfold kvOf at hk0
                rw [List.getElem?_map] at hk0
                cases e : cs[i]? with
                | none =>
                  rw [e] at hk0
                  cases hk0
                | some z =>
                  rw [e] at hk0
                  cases hk0
                  exact ⟨z, rfl, rfl⟩
              subst hkk
              have hmem := List.mem_of_getElem? hkv
              have ul : us.length = i := by
                have h1 := hpa.length
                have h2 := (List.getElem?_eq_some_iff.mp hkv).1
                rw [List.length_map, List.length_take] at h1
                omega
              have il := (List.getElem?_eq_some_iff.mp hkv).1
              refine ⟨rfl, tyes_if ?_⟩
              refine ⟨_, rfl, _, rfl, _, rfl, y, _, _, _, rfl, rfl, SqT.of (sa _ _ yL), rfl, _, rfl, dd, _, rfl, .inl ⟨kvOf cs, Sum.inl kv.1, .inr ⟨od, sa _ _ dL⟩, rfl, (valV_mem (v := kv.2) ndk hmem).symm⟩, d, _, rfl, dget_end (sa _ _ eL) (lowk kv hmem), (by show 2 ≤ sizeLine; decide), fun t1 ht1 => ?_⟩
              have ntD : D2 ≠ t1 := ne_of_none hDa ht1
              refine ⟨us.map V.ref, by rw [upd_ne ntD]; exact hDa, small (by rw [List.length_map]; omega), us ++ [t1], ?_, ?_, same_put (same_tr sa (same_new ht1)) hD2⟩
              · rw [upd_same, List.map_append]
                rfl
              · have tk2 : cs.take (i + 1) = cs.take i ++ [kv] := by rw [List.take_add_one, hkv]; rfl
                rw [tk2, List.map_append]
                refine Paired.snoc (L2.Paired.mapP hpa fun b kv hb => ?_) ?_
                · rw [upd_ne (ne_of hb hDa (by intro z; cases z)), upd_ne (ne_of_none hb ht1)]
                  exact hb
                · rw [upd_ne ntD.symm, upd_same]
                  rfl
            · rintro Ha ⟨us, hDa, hpa, sa⟩
              have kl : (kvOf cs).length = cs.length := by
                unfold kvOf
                rw [List.length_map]
              rw [kl, List.take_length] at hpa
              refine ⟨sa _ _ dL, ?_⟩
              have nDd : D2 ≠ dd := ne_of hDa (sa _ _ dL) (by intro z; cases z)
              have sU : Same H9 (upd Ha dd (.dK (kvOf cs))) := fun b o e => by
                by_cases n : b = dd
                · subst n
                  rw [dd9] at e
                  rw [upd_same, e]
                · rw [upd_ne n]
                  exact sa _ _ (oL _ _ e n)
              have hDU : (upd Ha dd (.dK (kvOf cs))) D2 = some (.lst (us.map V.ref)) := by
                rw [upd_ne nDd]
                exact hDa
              have hpU := L2.Paired.mapP (G := fun t (kv : Int × Nat) => SqT K (upd Ha dd (.dK (kvOf cs))) t [V.int kv.1, V.int (kv.2 : Nat)]) hpa fun b kv hb => SqT.of (by
                rw [upd_ne (ne_of hb (sa _ _ dL) (by intro z; cases z))]
                exact hb)
              revert sU hDU hpU
              generalize (upd Ha dd (.dK (kvOf cs))) = HU
              intro sU hDU hpU
              refine ⟨D2, us, kvOf (cs.map fun (kv : Int × Nat) => (kv.1, endOf N S kv.2)), rfl, SqL.of hDU, paired_map hpU, fun p hp => ?_⟩
              have nd2 : ((cs.map fun (kv : Int × Nat) => (kv.1, endOf N S kv.2)).map (·.1)).Nodup := by
                rw [List.map_map]
                exact ndk
              have em2 : mergeK [] (kvOf (cs.map fun (kv : Int × Nat) => (kv.1, endOf N S kv.2))) = kvOf (cs.map fun (kv : Int × Nat) => (kv.1, endOf N S kv.2)) := merge_kv (cs.map fun (kv : Int × Nat) => (kv.1, endOf N S kv.2)) [] nd2
              rw [em2]
              have sV := same_tr sU (same_new (o := .dK (kvOf (cs.map fun (kv : Int × Nat) => (kv.1, endOf N S kv.2)))) hp)
              refine ⟨_, rfl, y, _, _, _, rfl, rfl, SqT.of (sV _ _ y9), rfl, (by show 4 ≤ sizeLine; decide), fun z hz => ?_⟩
              obtain ⟨f1, f2, f3, f4, f5, f6⟩ := fin z _ ⟨p, upd_same, by rw [upd_ne (ne_of_none upd_same hz), upd_same]⟩ (same_tr s9 (same_tr sV (same_new hz)))
              exact ⟨_, rfl, .inl ⟨rfl, _, Or.inl (Or.inl f1)⟩, _, rfl, q, _, _, rfl, rfl, f1, f2, _, rfl, f3, f4, f5, f6⟩
        · rintro σ H7 ⟨w5, rfl, d7, t7, q7, s7⟩
          rw [List.length_map, asl, List.take_length] at q7
          exact ⟨_, _, _, rfl, t7, by rw [hN] at q7; rw [hS, hN] at q7; exact q7, s7⟩
    · rintro σ H2 ⟨v3, v4, v5, rfl, ht2, hq2, s2⟩
      have hq3 : RowsAt H2 (part rs 2) q := hq2
      rw [part2] at hq3
      exact ⟨_, rfl, k q H2 s2 hq hq3⟩
end
end CC

set_option Elab.async false
set_option maxRecDepth 100000
namespace CC
open PySem L2
set_option linter.unusedVariables false
theorem RowsAt.put {H : Hp} {rs : List Row} {l q : Addr} {xs ys : List V} (h : RowsAt H rs l) (hq : H q = some (.lst xs)) (n : q ≠ l) : RowsAt (upd H q (.lst ys)) rs l := by
  obtain ⟨as, h1, h2⟩ := h
  exact ⟨as, by rw [upd_ne n.symm]; exact h1, L2.Paired.mapP h2 fun a r e => e.put hq⟩
abbrev sThreads : Stmt := top 30
/-- the rows of a drawn program -/
def Thr (most : Nat) (cells : List Str) (rs : List Row) : Prop := ∃ (ahead behind : Nat) (ts : List Row), ahead ≤ most ∧ behind ≤ 2 ∧ Shape ahead behind cells ts ∧ (rs = ts ∨ rs = doubled ts)
theorem Shape.len {ahead behind : Nat} {cells : List Str} {ts : List Row} (h : Shape ahead behind cells ts) : ts.length = ahead + behind + 2 := by
  obtain ⟨xs, ys, rfl, h1, h2, _⟩ := h
  simp only [List.length_cons, List.length_append]
  omega
theorem Row.mid_ok {lo hi n : Nat} {cells : List Str} {r : Row} (h : r.mid lo hi cells) (e : hi ≤ n) : r.ok n cells := by
  cases r with
  | rest m => exact h.elim
  | ins m => exact h.elim
  | wr c v m => exact ⟨h.1, h.2.1, by have := h.2.2.2; omega⟩
  | rd c cs m => exact ⟨h.1, h.2.1, fun kv hkv => ⟨(h.2.2.1 kv hkv).1, by have := (h.2.2.1 kv hkv).2.2; omega⟩, by have := h.2.2.2.2.1; omega, h.2.2.2.2.2⟩
theorem Row.tl_ok {lo hi n : Nat} {cells : List Str} {r : Row} (h : r.tl lo hi cells) (e : hi ≤ n) (n0 : 0 < n) : r.ok n cells := by
  cases r with
  | rest m => exact h.elim
  | ins m => exact h.elim
  | wr c v m => exact ⟨h.1, h.2.1, by have := h.2.2; omega⟩
  | rd c cs m => exact ⟨h.1, h.2.1, fun kv hkv => ⟨(h.2.2.1 kv hkv).1, by have := (h.2.2.1 kv hkv).2.2; omega⟩, by have := h.2.2.2.1; omega, h.2.2.2.2⟩
theorem Row.ok_low {n : Nat} {cells : List Str} {r : Row} (h : r.ok n cells) : r.low n := by
  cases r with
  | rest m => exact h
  | ins m => exact h
  | wr c v m => exact h.2.2
  | rd c cs m => exact ⟨h.2.1, fun kv hkv => (h.2.2.1 kv hkv).2, h.2.2.2.1, h.2.2.2.2⟩
theorem Shape.ok {ahead behind : Nat} {cells : List Str} {ts : List Row} (h : Shape ahead behind cells ts) : ∀ r ∈ ts, r.ok ts.length cells := by
  have hl := h.len
  rw [hl]
  obtain ⟨xs, ys, rfl, h1, h2, h3, h4⟩ := h
  intro r hr
  cases hr with
  | head => show 1 < ahead + behind + 2; omega
  | tail _ hr =>
    rcases List.mem_append.mp hr with m | m
    · exact Row.mid_ok (h3 r m) (by omega)
    · cases m with
      | head =>
        show (if 0 < behind then ahead + 2 else 0) < ahead + behind + 2
        by_cases hb : 0 < behind
        · rw [if_pos hb]
          omega
        · rw [if_neg hb]
          omega
      | tail _ m => exact Row.tl_ok (h4 r m) (by omega) (by omega)
theorem Row.re_ok {n : Nat} {cells : List Str} {r : Row} {e : Nat → Nat} {m : Nat} (h : r.ok n cells) (he : ∀ k, k < n → e k < m) : (r.re e).ok m cells := by
  cases r with
  | rest k => exact he _ h
  | ins k => exact he _ h
  | wr c v k => exact ⟨h.1, h.2.1, he _ h.2.2⟩
  | rd c cs k =>
    refine ⟨h.1, ?_, ?_, he _ h.2.2.2.1, by rw [List.length_map]; exact h.2.2.2.2⟩
    · rw [List.map_map]
      exact h.2.1
    · intro kv hkv
      obtain ⟨z, hz, rfl⟩ := List.mem_map.mp hkv
      exact ⟨(h.2.2.1 z hz).1, he _ (h.2.2.1 z hz).2⟩
theorem doubled_len (ts : List Row) : (doubled ts).length = 2 * ts.length := by
  unfold doubled
  rw [List.length_append, List.length_map, List.length_map]
  omega
theorem doubled_ok {cells : List Str} {ts : List Row} (h : ∀ r ∈ ts, r.ok ts.length cells) (n0 : 0 < ts.length) : ∀ r ∈ doubled ts, r.ok (doubled ts).length cells := by
  rw [doubled_len]
  intro r hr
  unfold doubled at hr
  rcases List.mem_append.mp hr with m | m
  · obtain ⟨z, hz, rfl⟩ := List.mem_map.mp m
    refine Row.re_ok (h z hz) fun k hk => ?_
    unfold endOf
    by_cases c : k = 0
    · rw [if_pos c]; omega
    · rw [if_neg c]; omega
  · obtain ⟨z, hz, rfl⟩ := List.mem_map.mp m
    refine Row.re_ok (h z hz) fun k hk => ?_
    unfold endOf
    by_cases c : k = 0
    · rw [if_pos c]; omega
    · rw [if_neg c]; omega
/-- rows as a program asks them: all in order, the first one a rest row -/
def Good (cells : List Str) (rs : List Row) : Prop := (∀ r ∈ rs, r.ok rs.length cells) ∧ (∃ m, rs[0]? = some (Row.rest m)) ∧ 2 ≤ rs.length ∧ rs.length ≤ 60
theorem Thr.good {most : Nat} {cells : List Str} {rs : List Row} (h : Thr most cells rs) (m : most ≤ 20) : Good cells rs := by
  obtain ⟨ahead, behind, ts, h1, h2, h3, h4⟩ := h
  have hl := h3.len
  have hk := h3.ok
  obtain ⟨xs, ys, e, _⟩ := h3
  rcases h4 with rfl | rfl
  · exact ⟨hk, ⟨1, by rw [e]; rfl⟩, by omega, by omega⟩
  · refine ⟨doubled_ok hk (by omega), ⟨endOf ts.length 0 1, ?_⟩, by rw [doubled_len]; omega, by rw [doubled_len]; omega⟩
    unfold doubled
    rw [e]
    rfl
def spThreads : Sp := fun vs H Q _ => ∃ (p cl : Addr) (n many most : Nat) (cells : List Str), vs = [.ref p, .int (many : Nat), .ref cl, .int (most : Nat)] ∧ Src p n H ∧ n + 2000 * (many + 1) < 1000000 ∧
  H cl = some (.lst (cells.map V.str)) ∧ p ≠ cl ∧ 0 < cells.length ∧ cells.length < 100 ∧ SeqAt.shaped (.list (cells.map PyData.str)) = true ∧ most ≤ 10 ∧
  ∀ (q : Addr) (ls : List Addr) (rss : List (List Row)) (H' : Hp), Grow p H H' → H q = none → H' q = some (.lst (ls.map V.ref)) → Paired (fun l rs => RowsAt H' rs l ∧ Thr most cells rs ∧ H l = none) ls rss → rss.length = many → Src p (n + 2000 * many) H' → Q (.ref q) H'
section
variable {P : Program} {w : World} {K : PySem.W.Frag} {mg : Str → Option Value} {base : Heap}
theorem scThreads : FnScope ["_law_source_here", "_law_threads_here", "_law_cells", "_law_most", "_law_found", "_law_k", "_law_rows_here"] ["_law_source_here", "_law_threads_here", "_law_cells", "_law_most"] (defScope sThreads) := ⟨rfl, rfl, rfl, by decide +kernel, rfl, by decide +kernel, by decide +kernel⟩
theorem ok_threads {f fD fR fW : Addr} {fd fdD fdR fdW : FuncData} (F : Fun K "_law_threads" "_law_threads" sThreads f fd)
    (GD : FnOk P w K mg base CX0 1 fD fdD ["_law_source_here", "_law_many"] spDraw) (mD : mg "_law_draw" = some (.ref fD)) (kD : PySem.W.keepIn K (.ref fD) = true) (bD : Binds K fdD ["_law_source_here", "_law_many"] [])
    (GR : FnOk P w K mg base CX0 4 fR fdR ["_law_source_here", "_law_cells", "_law_ahead", "_law_behind", "_law_worths"] spRows) (mR : mg "_law_rows" = some (.ref fR)) (kR : PySem.W.keepIn K (.ref fR) = true) (bR : Binds K fdR ["_law_source_here", "_law_cells", "_law_ahead", "_law_behind", "_law_worths"] [])
    (GW : FnOk P w K mg base CX0 1 fW fdW ["_law_rows_here"] spDoubled) (mW : mg "_law_doubled" = some (.ref fW)) (kW : PySem.W.keepIn K (.ref fW) = true) (bW : Binds K fdW ["_law_rows_here"] [])
    (tr : mg "range" = none) :
    FnOk P w K mg base CX0 5 f fd ["_law_source_here", "_law_threads_here", "_law_cells", "_law_most"] spThreads := by
  refine F.ok scThreads (fun vs H Q E h => ?_) (fun cdv A outer s H vs Q E hr h => ?_)
  · obtain ⟨p, cl, n, many, most, cells, rfl, _⟩ := h
    rfl
  · obtain ⟨p, cl, n, many, most, cells, rfl, hp, hn, hcl, npc, c0, c1, csh, ml, k⟩ := h
    have hr1 : Room 1 _ := hr.mono (by decide)
    refine ⟨_, pss_cons (ps_set (i := 4) scThreads.nd rfl (Or.inl rfl) (pe_lst pa_nil))
      (pss_cons (ps_for PassesOwn.never rfl (pi_range1 rfl tr (pa_cons (pv 1) pa_nil)) (pg_name (i := 5) scThreads.nd rfl (Or.inl rfl))
        (pss_cons (ps_set (i := 6) scThreads.nd rfl (Or.inl rfl) (pe_call GR hr rfl mR kR bR .nil pass0 (pa_cons (pv 0) (pa_cons (pv 2) (pa_cons (pe_call GD hr1 rfl mD kD bD .nil pass0 (pa_cons (pv 0) (pa_cons (pe_op op_add (pv 3) pe_int) pa_nil))) (pa_cons (pe_call GD hr1 rfl mD kD bD .nil pass0 (pa_cons (pv 0) (pa_cons pe_int pa_nil))) (pa_cons (pe_lst (pa_cons pe_int (pa_cons pe_int (pa_cons pe_int pa_nil)))) pa_nil)))))))
        (pss_one (ps_expr (pe_bm PySem.F.plainAttrs_list PySem.F.slot_list_append PySem.F.type_list_append mt_append (pv 4) (pa_cons
          (pe_ifExp (pt_cmpR op_eq (pe_call GD hr1 rfl mD kD bD .nil pass0 (pa_cons (pv 0) (pa_cons pe_int pa_nil))) pe_int (nomark _)) (pe_call GW hr1 rfl mW kW bW .nil pass0 (pa_cons (pv 6) pa_nil)) (pv 6)) pa_nil))))))
      (pss_one (ps_ret (pv 4)))), ?_⟩
    refine ⟨Nat.zero_le _, fun q hq => ?_⟩
    have npq := hp.ne hq
    refine ⟨_, rfl, (many : Int), rfl, by omega, by omega, for_range (n := many) (fun i σ H2 => ∃ (v5 v6 : Option V) (ls : List Addr) (rss : List (List Row)), σ = [some (.ref p), some (.int (many : Nat)), some (.ref cl), some (.int (most : Nat)), some (.ref q), v5, v6] ∧ H2 q = some (.lst (ls.map V.ref)) ∧ Paired (fun l rs => RowsAt H2 rs l ∧ Thr most cells rs ∧ H l = none ∧ q ≠ l) ls rss ∧ rss.length = i ∧ Grow p H H2 ∧ Src p (n + 2000 * i) H2)
      ⟨none, none, [], [], rfl, upd_same, .nil, rfl, Grow.new hq, hp.new hq⟩ ?_ ?_⟩
    · rintro i σ H2 hi ⟨v5, v6, ls, rss, rfl, hq2, hp2, rl, g2, s2⟩
      refine ⟨_, rfl, _, rfl, _, rfl, _, rfl, _, _, rfl, rfl, p, n + 2000 * i, _, rfl, s2, by omega, by omega, by omega, fun r1 H3 a0 a1 g3 s3 => ?_⟩
      refine ⟨_, rfl, p, n + 2000 * i + 1, 3, rfl, s3, by omega, by decide, by decide, fun r2 H4 b0 b1 g4 s4 => ⟨(by show 3 ≤ sizeLine; decide), fun wl hwl => ?_⟩⟩
      obtain ⟨x1, rfl⟩ : ∃ x : Nat, r1 = (x : Int) := ⟨r1.toNat, by omega⟩
      obtain ⟨x2, rfl⟩ : ∃ x : Nat, r2 = (x : Int) := ⟨r2.toNat, by omega⟩
      have g5 := (g3.trans g4).trans (Grow.new (o := .lst [V.int 0, V.int 1, V.int 2]) hwl)
      have s5 := s4.new (o := .lst [V.int 0, V.int 1, V.int 2]) hwl
      refine ⟨p, cl, wl, n + 2000 * i + 2, x1, x2, cells, [0, 1, 2], rfl, s5, by omega, (g2.trans g5) _ _ hcl npc.symm, upd_same, npc, s4.ne hwl, c0, c1, csh, by decide, by decide, by decide, by decide, by omega, by omega, fun l rs H6 g6 hl rr sh s6 => ?_⟩
      have hl0 : H l = none := by
        cases e : H l with
        | none => rfl
        | some o =>
          by_cases n : l = p
          · rw [n] at hl
            exact absurd rfl (s5.ne hl)
          · rw [(g2.trans g5) _ _ e n] at hl
            cases hl
      have hq6 := (g5.trans g6) _ _ hq2 npq.symm
      have add : ∀ (b : Addr) (rs' : List Row) (H8 : Hp), RowsAt H8 rs' b → Thr most cells rs' → H b = none → Grow p H2 H8 → Src p (n + 2000 * i + 2000) H8 → H8 q = some (.lst (ls.map V.ref)) → q ≠ b →
          (upd H8 q (.lst (ls.map V.ref ++ [V.ref b]))) q = some (.lst ((ls ++ [b]).map V.ref)) ∧ Paired (fun l rs => RowsAt (upd H8 q (.lst (ls.map V.ref ++ [V.ref b]))) rs l ∧ Thr most cells rs ∧ H l = none ∧ q ≠ l) (ls ++ [b]) (rss ++ [rs']) ∧ (rss ++ [rs']).length = i + 1 ∧ Grow p H (upd H8 q (.lst (ls.map V.ref ++ [V.ref b]))) ∧ Src p (n + 2000 * (i + 1)) (upd H8 q (.lst (ls.map V.ref ++ [V.ref b]))) := by
        intro b rs' H8 hb ht hb0 g8 s8 hq8 nqb
        refine ⟨?_, Paired.snoc (L2.Paired.mapP hp2 fun l rs e => ⟨(e.1.grow g8 s2 (fun z => ?_)).put hq8 e.2.2.2, e.2.1, e.2.2.1, e.2.2.2⟩) ⟨hb.put hq8 nqb, ht, hb0, nqb⟩, by rw [List.length_append, rl]; rfl, (g2.trans g8).put hq, (s8.put npq).le (by omega)⟩
        · rw [upd_same, List.map_append]
          rfl
        · obtain ⟨_, _, _, z1, _⟩ := hp
          rw [z] at z1
          rw [e.2.2.1] at z1
          cases z1
      have nql : q ≠ l := ne_of_none (g5 _ _ hq2 npq.symm) hl
      have len6 : (ls.map V.ref).length < sizeLine := by
        have := hp2.length
        exact small (by rw [List.length_map]; omega)
      refine ⟨_, rfl, .inl ⟨rfl, _, Or.inl (Or.inl hq6)⟩, ?_⟩
      refine ⟨_, rfl, p, n + 2000 * i + 2 + 60 * (x1 + x2), 6, rfl, s6, by omega, by decide, by decide, fun r3 H7 d0 d1 g7 s7 => ⟨rfl, _, rfl, ?_⟩⟩
      have npl : p ≠ l := fun z => by
        rw [← z] at hl
        exact absurd rfl (s5.ne hl)
      have rr7 := rr.grow g7 s6 npl
      have hq7 := g7 _ _ hq6 npq.symm
      have shl := sh.len
      refine ite2 (fun _ => ?_) (fun _ => ?_)
      · refine ⟨_, rfl, l, rs, rfl, rr7, by omega, by omega, fun r hr => Row.ok_low (sh.ok r hr), fun b H8 s8 hb rb => ?_⟩
        have s78 : Src p (n + 2000 * i + 2 + 60 * (x1 + x2) + 1) H8 := by
          obtain ⟨g, z, c, e1, e2⟩ := s7
          exact ⟨g, z, c, s8 _ _ e1, e2⟩
        have g78 : Grow p H7 H8 := fun b o e _ => s8 b o e
        have hb0 : H b = none := by
          cases e : H b with
          | none => rfl
          | some o =>
            by_cases n : b = p
            · rw [n] at hb
              exact absurd rfl (s7.ne hb)
            · rw [g7 _ _ (g6 _ _ ((g2.trans g5) _ _ e n) n) n] at hb
              cases hb
        obtain ⟨f1, f2, f3, f4, f5⟩ := add b (doubled rs) H8 rb ⟨x1, x2, rs, by omega, by omega, sh, .inr rfl⟩ hb0 (((g5.trans g6).trans g7).trans g78) (s78.le (by omega)) (s8 _ _ hq7) (ne_of_none hq7 hb)
        exact ⟨q, _, _, rfl, rfl, s8 _ _ hq7, len6, _, _, _, _, rfl, f1, f2, f3, f4, f5⟩
      · obtain ⟨f1, f2, f3, f4, f5⟩ := add l rs H7 rr7 ⟨x1, x2, rs, by omega, by omega, sh, .inl rfl⟩ hl0 ((g5.trans g6).trans g7) (s7.le (by omega)) hq7 nql
        exact ⟨_, rfl, q, _, _, rfl, rfl, hq7, len6, _, _, _, _, rfl, f1, f2, f3, f4, f5⟩
    · rintro σ H2 ⟨v5, v6, ls, rss, rfl, hq2, hp2, rl, g2, s2⟩
      exact ⟨_, rfl, k q ls rss H2 g2 hq hq2 (L2.Paired.mapP hp2 fun l rs e => ⟨e.1, e.2.1, e.2.2.1⟩) rl s2⟩
end
end CC

set_option Elab.async false
set_option maxRecDepth 100000
namespace CC
open PySem L2
set_option linter.unusedVariables false
abbrev sIsList : Stmt := top 8
abbrev sIsWhole : Stmt := top 9
abbrev sIsName : Stmt := top 10
abbrev sIsNumber : Stmt := top 11
abbrev sAreCases : Stmt := top 12
abbrev sIsRow : Stmt := top 13
abbrev sCopied : Stmt := top 14
abbrev sFollowers : Stmt := top 15
def spIsList : Sp := fun vs H Q _ => ∃ (a : Addr) (xs : List V), vs = [.ref a] ∧ (H a = some (.lst xs) ∨ H a = some (.tup xs)) ∧ ∀ H', Same H H' → Q (.bl true) H'
def spIsWhole : Sp := fun vs H Q _ => ∃ (i : Int), vs = [.int i] ∧ Q (.bl (decide (i ≥ 0))) H
def spIsNumber : Sp := fun vs H Q _ => ∃ (i n : Int), vs = [.int i, .int n] ∧ 0 ≤ i ∧ Q (.bl (decide (i < n))) H
section
variable {P : Program} {w : World} {K : PySem.W.Frag} {mg : Str → Option Value} {base : Heap}
theorem scIsList : FnScope ["value"] ["value"] (defScope sIsList) := ⟨rfl, rfl, rfl, by decide +kernel, rfl, by decide +kernel, by decide +kernel⟩
theorem ok_islist {f : Addr} {fd : FuncData} (F : Fun K "is_list" "is_list" sIsList f fd) (ti : mg "isinstance" = none) (tl : mg "list" = none) (tt : mg "tuple" = none) :
    FnOk P w K mg base CX0 1 f fd ["value"] spIsList := by
  refine F.ok scIsList (fun vs H Q E h => ?_) (fun cdv A outer s H vs Q E hr h => ?_)
  · obtain ⟨a, xs, rfl, _⟩ := h
    rfl
  · obtain ⟨a, xs, rfl, hx, k⟩ := h
    refine ⟨_, pss_one (ps_ret (pe_callB call_isiT (by rfl) ti (by decide +kernel) (pa_cons (pv 0) (pa_cons (pe_tup (pa_cons (pe_bltn (v := .ty "list") (by rfl) tl (by decide +kernel) rfl) (pa_cons (pe_bltn (v := .ty "tuple") (by rfl) tt (by decide +kernel) rfl) pa_nil))) pa_nil)))), ?_⟩
    refine ⟨_, rfl, (by show 2 ≤ sizeLine; decide), fun t ht => ?_⟩
    rcases hx with hx | hx
    · refine ⟨_, t, _, _, _, true, rfl, upd_same, .cons (.ty _) (.cons (.ty _) .nil), .base (.lst (by rw [upd_ne (ne_of_none hx ht)]; exact hx)), kitAny_cons (b := true) (kit_ty (by decide +kernel)) (fun z => nomatch z) (fun _ => rfl), k _ (same_new ht)⟩
    · refine ⟨_, t, _, _, _, true, rfl, upd_same, .cons (.ty _) (.cons (.ty _) .nil), .base (.tup (by rw [upd_ne (ne_of_none hx ht)]; exact hx)), kitAny_cons (b := false) (kit_ty (by decide +kernel)) (fun _ => kitAny_cons (b := true) (kit_ty (by decide +kernel)) (fun z => nomatch z) (fun _ => rfl)) (fun z => nomatch z), k _ (same_new ht)⟩
theorem scIsWhole : FnScope ["value"] ["value"] (defScope sIsWhole) := ⟨rfl, rfl, rfl, by decide +kernel, rfl, by decide +kernel, by decide +kernel⟩
theorem ok_iswhole {f : Addr} {fd : FuncData} (F : Fun K "is_whole" "is_whole" sIsWhole f fd) (ti : mg "isinstance" = none) (tn : mg "int" = none) (tb : mg "bool" = none) :
    FnOk P w K mg base CX0 1 f fd ["value"] spIsWhole := by
  refine F.ok scIsWhole (fun vs H Q E h => ?_) (fun cdv A outer s H vs Q E hr h => ?_)
  · obtain ⟨i, rfl, _⟩ := h
    rfl
  · obtain ⟨i, rfl, k⟩ := h
    refine ⟨_, pss_one (ps_ret (pe_and (pe_callB call_isi (by rfl) ti (by decide +kernel) (pa_cons (pv 0) (pa_cons (pe_bltn (v := .ty "int") (by rfl) tn (by decide +kernel) rfl) pa_nil)))
      (pe_and (pe_not (pe_callB call_isi (by rfl) ti (by decide +kernel) (pa_cons (pv 0) (pa_cons (pe_bltn (v := .ty "bool") (by rfl) tb (by decide +kernel) rfl) pa_nil)))) (pe_one (pe_cmp (pc_ge (pv 0) pe_int) rfl))))), ?_⟩
    refine ⟨_, rfl, _, _, _, _, true, rfl, .ty _, .base (.int i), kit_ty (by decide +kernel), true, rfl, iteT ?_⟩
    refine ⟨_, rfl, _, _, _, _, false, rfl, .ty _, .base (.int i), kit_ty (by decide +kernel), false, rfl, true, rfl, iteT ?_⟩
    exact ⟨_, rfl, _, _, rfl, rfl, k⟩
theorem scIsNumber : FnScope ["value", "many"] ["value", "many"] (defScope sIsNumber) := ⟨rfl, rfl, rfl, by decide +kernel, rfl, by decide +kernel, by decide +kernel⟩
theorem ok_isnumber {f fW : Addr} {fd fdW : FuncData} (F : Fun K "is_number" "is_number" sIsNumber f fd) (GW : FnOk P w K mg base CX0 1 fW fdW ["value"] spIsWhole) (mW : mg "is_whole" = some (.ref fW)) (kW : PySem.W.keepIn K (.ref fW) = true) (bW : Binds K fdW ["value"] []) :
    FnOk P w K mg base CX0 2 f fd ["value", "many"] spIsNumber := by
  refine F.ok scIsNumber (fun vs H Q E h => ?_) (fun cdv A outer s H vs Q E hr h => ?_)
  · obtain ⟨i, n, rfl, _⟩ := h
    rfl
  · obtain ⟨i, n, rfl, i0, k⟩ := h
    refine ⟨_, pss_one (ps_ret (pe_and (pe_call GW hr rfl mW kW bW .nil pass0 (pa_cons (pv 0) pa_nil)) (pe_one (pe_cmp (pc_lt (pv 0) (pv 1)) rfl)))), ?_⟩
    refine ⟨_, rfl, i, rfl, _, rfl, ite_yes (decide_eq_true i0) ?_⟩
    exact ⟨_, rfl, _, rfl, _, _, rfl, rfl, k⟩
end
end CC

set_option Elab.async false
set_option maxRecDepth 100000
namespace CC
open PySem PySem.Spec PyProof.Rows L2
set_option linter.unusedVariables false
/-! ### a list of the values of a dict -/
def tLVals (te : TE) : TE := fun σ H Q => te σ H fun x H1 => ∃ (d : Addr) (kvs : List (Key × V)), x = .ref d ∧ H1 d = some (.dK kvs) ∧ ∀ q, H1 q = none → Q (.ref q) (upd H1 q (.lst (kvs.map (·.2))))
theorem vals_by {n : Nat} : ∀ {xs : List V} {us : List Value}, xs.length = n → us.length = n → (∀ (j : Nat) (x : V) (u : Value), xs[j]? = some x → us[j]? = some u → RelV x u) → Vals xs us := by
  intro xs
  induction xs generalizing n with
  | nil =>
    intro us h1 h2 _
    cases us with
    | nil => exact .nil
    | cons u us =>
      simp at h1 h2
      omega
  | cons x xs ih =>
    intro us h1 h2 h
    cases us with
    | nil =>
      simp at h1 h2
      omega
    | cons u us =>
      simp at h1 h2
      exact .cons (h 0 x u rfl rfl) (ih (n := n - 1) (by omega) (by omega) fun j y v e1 e2 => h (j + 1) y v e1 e2)
theorem kv_at {κ : Type} : ∀ {kvs : List (κ × V)} {vs : List (κ × Value)}, KV kvs vs → ∀ {j : Nat} {x : κ × V} {k : κ} {u : Value}, kvs[j]? = some x → vs[j]? = some (k, u) → RelV x.2 u
  | _, _, .cons h t, 0, x, k, u, e1, e2 => by
    cases Option.some.inj e1
    cases Option.some.inj e2
    exact h.2
  | _, _, .cons h t, j + 1, x, k, u, e1, e2 => kv_at (j := j) t e1 e2
section
variable {X : Cx} {e : Expr} {te : TE} {p apos cpos pos : Pos}
theorem pe_lvals (hc : X.calm = true) (he : PE X e te) (hg : Gl X "list") (hm : X.mg "list" = none) (hv : bootBuiltins "list" = some (.type "list"))
    (hbase : attributeBase e "values" X.env (eval e X.env) = eval e X.env := by rfl)
    (hline : (apos.endLine == cpos.line) = true := by rfl)
    (hs : starEach [.Call (.Attribute e "values" apos) [] [] cpos] X.env = (false, eval (.Call (.Attribute e "values" apos) [] [] cpos) X.env) :: starEach [] X.env := by rfl) :
    PE X (.Call (.Name "list" p) [.Call (.Attribute e "values" apos) [] [] cpos] [] pos) (tLVals te) := by
  refine ⟨fun pins s σ H Q I want => ?_⟩
  refine wpAny_Call_Name_kw (ld_blt I hg hm hv (PyProof.Rows.callWith_type1 ?_ hs rfl))
  rw [hs]
  show wpAny _ _ (spliced ((false, eval (.Call (.Attribute e "values" apos) [] [] cpos) X.env) :: backTo pos (starEach [] X.env))) _ _ s
  refine Calls.spliced_cons (wpAny_Call_method (T := "dict") (id := "dict.values") hbase rfl hline F.plainAttrs_dict F.slot_dict_values F.type_dict_values ?_)
  refine thn (he.run pins s σ H _ I want) fun u s1 ⟨x, H1, I1, rx, d, kvs, ex, hd, q⟩ => ?_
  subst ex
  have eu : u = Value.ref d := rx
  subst eu
  obtain ⟨hz, hs0, vs, kv, hdo⟩ := I1.hok d _ hd
  obtain ⟨ep, hat⟩ := hdo.dictAt
  have lk := kv.length
  refine ⟨hdo.typeIs, hdo.mapOf.noDict, ?_⟩
  show wpAny _ _ (callWith cpos (.builtin "dict.values") [.ref d] [] []) _ X.xe s1
  have mv := meets_dict_values (mixKind X.prog X.w) d hs0
  refine method_meetsIn F.slot_dict_values F.entry_dict_values rfl (PySem.evalArgs_none ⟨rfl, hdo.typeIs, F.args_dict_values_1 _, _, mv, ⟨vs, hdo⟩, Calls.spliced_nil ?_⟩)
  have src := PySem.W.kdl_values (prog := X.prog) (w := X.w) (knd := mixKind X.prog X.w) (d := d) (r := s1.heap.objs.size) (kvs := vs) (ep := ep)
  refine PySem.W.kdl_call src (I1.ok.hd hc) ⟨⟨_, Heap.get?_push_size _ rfl, rfl, rfl⟩, hat.push _⟩ (by omega) fun h' tk acc c hk hS hacc => ?_
  have I2 : Inv X pins σ H1 { s1 with heap := s1.heap.push { cls := .type "dict_values", data := .fields #[.ref d] } } := I1.kept (t' := s1.toks) fun b ob z => Heap.get?_push_of_some _ z
  refine ⟨.ref _, _, I2.laid (t' := tk) (o := .lst (kvs.map (·.2))) hk (Nat.le_refl _) ?_, rfl, q _ (I2.hok.fresh (Nat.le_refl _))⟩
  have al : acc.toList.length = vs.length := by rw [Array.length_toList]; exact hacc.1
  refine ⟨by rw [List.length_map]; omega, acc.toList, c, vals_by (n := vs.length) (by rw [List.length_map]; omega) al fun j y u e1 e2 => ?_, ?_⟩
  · rw [List.getElem?_map] at e1
    obtain ⟨k, hk2⟩ := hacc.2 j u (by rw [← Array.getElem?_toList]; exact e2)
    cases e3 : kvs[j]? with
    | none =>
      rw [e3] at e1
      cases e1
    | some z =>
      rw [e3] at e1
      cases Option.some.inj e1
      exact kv_at kv e3 hk2
  · rw [Array.toArray_toList]
    exact hS
end
end CC

set_option Elab.async false
set_option maxRecDepth 100000
namespace CC
open PySem L2
set_option linter.unusedVariables false
theorem not_dec {p : Prop} [Decidable p] (h : p) : (!decide p) = false := by
  rw [decide_eq_true h]
  rfl
def NameOk (c : Str) : Prop := c.length ≤ 8 ∧ Txt.isascii c = true ∧ Txt.isalpha c = true ∧ Txt.islower c = true
def spIsName : Sp := fun vs H Q _ => ∃ (c : Str), vs = [.str c] ∧ NameOk c ∧ Q (.bl true) H
def spAreCases : Sp := fun vs H Q _ => ∃ (d : Addr) (cs : List (Int × Nat)) (n : Nat), vs = [.ref d, .int (n : Nat)] ∧ H d = some (.dK (kvOf cs)) ∧ (∀ kv ∈ cs, 0 ≤ kv.1 ∧ kv.2 < n) ∧ cs.length ≤ 10 ∧ ∀ H', Same H H' → Q (.bl true) H'
def spIsRow : Sp := fun vs H Q _ => ∃ (a : Addr) (r : Row) (n : Nat) (cells : List Str), vs = [.ref a, .int (n : Nat)] ∧ RowAt H r a ∧ r.ok n cells ∧ (∀ c ∈ cells, NameOk c) ∧ ∀ H', Same H H' → Q (.bl true) H'
section
variable {P : Program} {w : World} {K : PySem.W.Frag} {mg : Str → Option Value} {base : Heap}
theorem scIsName : FnScope ["value"] ["value"] (defScope sIsName) := ⟨rfl, rfl, rfl, by decide +kernel, rfl, by decide +kernel, by decide +kernel⟩
theorem ok_isname {f : Addr} {fd : FuncData} (F : Fun K "is_name" "is_name" sIsName f fd) (ti : mg "isinstance" = none) (ts : mg "str" = none) (tl : mg "len" = none) :
    FnOk P w K mg base CX0 1 f fd ["value"] spIsName := by
  refine F.ok scIsName (fun vs H Q E h => ?_) (fun cdv A outer s H vs Q E hr h => ?_)
  · obtain ⟨c, rfl, _⟩ := h
    rfl
  · obtain ⟨c, rfl, ⟨n1, n2, n3, n4⟩, k⟩ := h
    refine ⟨_, pss_cons (ps_if (PW.pt (pw_or (pt_not (pt_val (pe_callB call_isi (by rfl) ti (by decide +kernel) (pa_cons (pv 0) (pa_cons (pe_bltn (v := .ty "str") (by rfl) ts (by decide +kernel) rfl) pa_nil))))) (pw_or1 (pt_cmpR op_gt (pe_callB call_len_str (by rfl) tl PySem.boot_len (pa_cons (pv 0) pa_nil)) pe_int (nomark _))))) (pss_one (ps_ret pe_bl)) pss_nil)
      (pss_one (ps_ret (pe_and (pe_m0 PySem.F.slot_str_isascii PySem.F.type_str_isascii mt_isascii (pv 0)) (pe_and (pe_m0 PySem.F.slot_str_isalpha PySem.F.type_str_isalpha mt_isalpha (pv 0)) (pe_one (pe_m0 PySem.F.slot_str_islower PySem.F.type_str_islower mt_islower (pv 0))))))), ?_⟩
    refine ⟨_, rfl, _, _, _, _, true, rfl, .ty _, .base (.str c), kit_ty (by decide +kernel), true, rfl, iteF ?_⟩
    refine ⟨_, rfl, c, rfl, Nat.le_of_lt (small (by omega)), _, _, rfl, rfl, _, rfl, ite_no (decide_eq_false (by omega)) ?_⟩
    refine ⟨_, rfl, ⟨_, rfl⟩, c, rfl, rfl, trivial, _, rfl, ite_yes n2 ?_⟩
    refine ⟨_, rfl, ⟨_, rfl⟩, c, rfl, rfl, trivial, _, rfl, ite_yes n3 ?_⟩
    refine ⟨_, rfl, ⟨_, rfl⟩, c, rfl, rfl, trivial, ?_⟩
    rw [n4]
    exact k
theorem scAreCases : FnScope ["value", "many", "worth", "number"] ["value", "many"] (defScope sAreCases) := ⟨rfl, rfl, rfl, by decide +kernel, rfl, by decide +kernel, by decide +kernel⟩
theorem ok_arecases {f fW fN : Addr} {fd fdW fdN : FuncData} (F : Fun K "are_cases" "are_cases" sAreCases f fd) (GW : FnOk P w K mg base CX0 1 fW fdW ["value"] spIsWhole) (mW : mg "is_whole" = some (.ref fW)) (kW : PySem.W.keepIn K (.ref fW) = true) (bW : Binds K fdW ["value"] [])
    (GN : FnOk P w K mg base CX0 2 fN fdN ["value", "many"] spIsNumber) (mN : mg "is_number" = some (.ref fN)) (kN : PySem.W.keepIn K (.ref fN) = true) (bN : Binds K fdN ["value", "many"] []) (ti : mg "isinstance" = none) (td : mg "dict" = none) (ta : mg "all" = none) :
    FnOk P w K mg base CX0 3 f fd ["value", "many"] spAreCases := by
  refine F.ok scAreCases (fun vs H Q E h => ?_) (fun cdv A outer s H vs Q E hr h => ?_)
  · obtain ⟨d, cs, n, rfl, _⟩ := h
    rfl
  · obtain ⟨d, cs, n, rfl, hd, ok, c10, k⟩ := h
    have hr1 : Room 1 _ := hr.mono (by decide)
    refine ⟨_, pss_cons (ps_if (pt_not (pt_val (pe_callB call_isi (by rfl) ti (by decide +kernel) (pa_cons (pv 0) (pa_cons (pe_bltn (v := .ty "dict") (by rfl) td (by decide +kernel) rfl) pa_nil))))) (pss_one (ps_ret pe_bl)) pss_nil)
      (pss_one (ps_ret (pe_callB (cr_all rfl) (by rfl) ta (by decide +kernel) (pa_cons (pe_lock (pe_lc (own := [("worth", 2), ("number", 3)]) (g := gTup K 2 (gCons (gName 2) (gCons (gName 3) gNil))) (by rfl) scAreCases.nd (pi_items (pv 0)) (blkOk_by (own := [("worth", 2), ("number", 3)]) (N := ["value", "many", "worth", "number"]) (sc := defScope sAreCases) (by decide +kernel))
        (fun _ _ _ _ _ => pg_tup (by rfl) (pgs_cons (pg_name (i := 2) scAreCases.nd rfl (Or.inl rfl)) (pgs_cons (pg_name (i := 3) scAreCases.nd rfl (Or.inl rfl)) pgs_nil))) (fun _ _ _ _ _ => pts_nil)
        (fun _ _ _ _ _ => pe_and (pe_call GW hr1 rfl mW kW bW .nil pass0 (pa_cons (pv 2) pa_nil)) (pe_one (pe_call GN hr rfl mN kN bN .nil pass0 (pa_cons (pv 3) (pa_cons (pv 1) pa_nil))))))) pa_nil)))), ?_⟩
    refine ⟨_, rfl, _, _, _, _, true, rfl, .ty _, .base (.dK hd), kit_ty (by decide +kernel), true, rfl, iteF ?_⟩
    refine ⟨d, _, hd, trivial, fun od => ?_⟩
    have dL : (upd H d (.frz od (.dK (kvOf cs)))) d = some (.frz od (.dK (kvOf cs))) := upd_same
    have oL : ∀ b o, H b = some o → b ≠ d → (upd H d (.frz od (.dK (kvOf cs)))) b = some o := fun b o e n => by
      rw [upd_ne n]
      exact e
    revert dL oL
    generalize (upd H d (.frz od (.dK (kvOf cs)))) = HL
    intro dL oL
    refine ⟨_, rfl, d, od, _, rfl, dL, fun D hD => ?_⟩
    refine lc_it (walk_items (d := d) (o := od) (kvs := kvOf cs)) (fun i H => H D = some (.lst ((List.replicate i true).map V.bl)) ∧ Same HL H) ⟨upd_same, same_new hD⟩ (fun i H _ ⟨_, e⟩ => e _ _ dL) ?_ ?_
    · rintro i x0 Ha Hb hi ⟨hDa, sa⟩ ⟨T, kx, vx, rfl, hT, rfl, e1, e2⟩
      obtain ⟨kv, hkv, rfl, rfl⟩ : ∃ kv, cs[i]? = some kv ∧ kx = V.int kv.1 ∧ vx = V.int (kv.2 : Nat) := by
        dsimp only at e1 e2
        unfold kvOf at e1 e2
        rw [List.getElem?_map] at e1 e2
        cases e : cs[i]? with
        | none =>
          rw [e] at e1
          cases e1
        | some z =>
          rw [e] at e1 e2
          cases e1
          cases e2
          exact ⟨z, rfl, rfl, rfl⟩
      obtain ⟨q0, q1⟩ := ok kv (List.mem_of_getElem? hkv)
      have il := (List.getElem?_eq_some_iff.mp hkv).1
      have nDT : D ≠ T := ne_of_none hDa hT
      refine ⟨T, _, rfl, SqT.of upd_same, rfl, _, _, rfl, _, _, rfl, rfl, rfl, tyes_if ?_⟩
      refine ⟨_, rfl, _, rfl, _, rfl, ite_yes (decide_eq_true q0) ?_⟩
      refine ⟨_, rfl, _, rfl, _, _, rfl, by omega, _, by rw [upd_ne nDT]; exact hDa, small (by rw [List.length_map, List.length_replicate]; omega), ?_, same_put (same_tr sa (same_new hT)) hD⟩
      rw [upd_same, decide_eq_true (show ((kv.2 : Nat) : Int) < (n : Nat) by omega), List.replicate_succ', List.map_append]
      rfl
    · rintro Ha ⟨hDa, sa⟩
      refine ⟨sa _ _ dL, ?_⟩
      have sU : Same H (upd Ha d (.dK (kvOf cs))) := fun b o e => by
        by_cases n : b = d
        · subst n
          rw [hd] at e
          rw [upd_same, e]
        · rw [upd_ne n]
          exact sa _ _ (oL _ _ e n)
      have nD : D ≠ d := ne_of hDa (sa _ _ dL) (by intro z; cases z)
      refine ⟨D, _, rfl, SqL.of (by rw [upd_ne nD]; exact hDa), ?_⟩
      rw [show (List.replicate (kvOf cs).length true).all id = true by simp]
      exact k _ sU
theorem scIsRow : FnScope ["value", "many"] ["value", "many"] (defScope sIsRow) := ⟨rfl, rfl, rfl, by decide +kernel, rfl, by decide +kernel, by decide +kernel⟩
theorem ok_isrow {f fL fW fM fN fC : Addr} {fd fdL fdW fdM fdN fdC : FuncData} (F : Fun K "is_row" "is_row" sIsRow f fd) (GL : FnOk P w K mg base CX0 1 fL fdL ["value"] spIsList) (mL : mg "is_list" = some (.ref fL)) (kL : PySem.W.keepIn K (.ref fL) = true) (bL : Binds K fdL ["value"] []) (GW : FnOk P w K mg base CX0 1 fW fdW ["value"] spIsWhole) (mW : mg "is_whole" = some (.ref fW)) (kW : PySem.W.keepIn K (.ref fW) = true) (bW : Binds K fdW ["value"] []) (GM : FnOk P w K mg base CX0 1 fM fdM ["value"] spIsName) (mM : mg "is_name" = some (.ref fM)) (kM : PySem.W.keepIn K (.ref fM) = true) (bM : Binds K fdM ["value"] []) (GN : FnOk P w K mg base CX0 2 fN fdN ["value", "many"] spIsNumber) (mN : mg "is_number" = some (.ref fN)) (kN : PySem.W.keepIn K (.ref fN) = true) (bN : Binds K fdN ["value", "many"] []) (GC : FnOk P w K mg base CX0 3 fC fdC ["value", "many"] spAreCases) (mC : mg "are_cases" = some (.ref fC)) (kC : PySem.W.keepIn K (.ref fC) = true) (bC : Binds K fdC ["value", "many"] []) (ti : mg "isinstance" = none) (ts : mg "str" = none) (tl : mg "len" = none) :
    FnOk P w K mg base CX0 4 f fd ["value", "many"] spIsRow := by
  refine F.ok scIsRow (fun vs H Q E h => ?_) (fun cdv A outer s H vs Q E hr h => ?_)
  · obtain ⟨a, r, n, cells, rfl, _⟩ := h
    rfl
  · obtain ⟨a, r, n, cells, rfl, hra, rok, nok, k⟩ := h
    have hr1 : Room 1 _ := hr.mono (by decide)
    have hr2 : Room 2 _ := hr.mono (by decide)
    refine ⟨_, pss_cons (ps_if (PW.pt (pw_or (pt_not (pt_val (pe_call GL hr1 rfl mL kL bL .nil pass0 (pa_cons (pv 0) pa_nil)))) (pw_or (pt_cmpR op_lt (pe_callB call_len_seq (by rfl) tl PySem.boot_len (pa_cons (pv 0) pa_nil)) pe_int (nomark _)) (pw_or1 (pt_not (pt_val (pe_callB call_isi (by rfl) ti (by decide +kernel) (pa_cons (pe_ix ix_tup (pv 0) pe_int (fun _ _ => rfl)) (pa_cons (pe_bltn (v := .ty "str") (by rfl) ts (by decide +kernel) rfl) pa_nil))))))))) (pss_one (ps_ret pe_bl)) pss_nil)
      (pss_cons (ps_if (pt_cmpR op_in_seq (pe_ix ix_tup (pv 0) pe_int (fun _ _ => rfl)) (pe_tup (pa_cons pe_str (pa_cons pe_str pa_nil))) (by rfl)) (pss_one (ps_ret (pe_and (pe_cmpR op_eq (pe_callB call_len_seq (by rfl) tl PySem.boot_len (pa_cons (pv 0) pa_nil)) pe_int (nomark _)) (pe_one (pe_call GN hr2 rfl mN kN bN .nil pass0 (pa_cons (pe_ix ix_tup (pv 0) pe_int (fun _ _ => rfl)) (pa_cons (pv 1) pa_nil))))))) pss_nil)
      (pss_cons (ps_if (PW.pt (pw_or (pt_cmpR op_ne (pe_callB call_len_seq (by rfl) tl PySem.boot_len (pa_cons (pv 0) pa_nil)) pe_int (nomark _)) (pw_or (pt_not (pt_val (pe_call GM hr1 rfl mM kM bM .nil pass0 (pa_cons (pe_ix ix_tup (pv 0) pe_int (fun _ _ => rfl)) pa_nil)))) (pw_or1 (pt_not (pt_val (pe_call GN hr2 rfl mN kN bN .nil pass0 (pa_cons (pe_ix ix_tup (pv 0) pe_int (fun _ _ => rfl)) (pa_cons (pv 1) pa_nil))))))))) (pss_one (ps_ret pe_bl)) pss_nil)
      (pss_cons (ps_if (pt_cmpR op_eq (pe_ix ix_tup (pv 0) pe_int (fun _ _ => rfl)) pe_str (nomark _)) (pss_one (ps_ret (pe_call GW hr1 rfl mW kW bW .nil pass0 (pa_cons (pe_ix ix_tup (pv 0) pe_int (fun _ _ => rfl)) pa_nil)))) pss_nil)
      (pss_one (ps_ret (pe_and (pe_cmpR op_eq (pe_ix ix_tup (pv 0) pe_int (fun _ _ => rfl)) pe_str (nomark _)) (pe_one (pe_call GC hr rfl mC kC bC .nil pass0 (pa_cons (pe_ix ix_tup (pv 0) pe_int (fun _ _ => rfl)) (pa_cons (pv 1) pa_nil)))))))))), ?_⟩
    obtain ⟨xs, hx⟩ : ∃ xs, H a = some (.tup xs) := by
      cases r with
      | rest m => exact ⟨_, hra⟩
      | ins m => exact ⟨_, hra⟩
      | wr c v m => exact ⟨_, hra⟩
      | rd c cs m =>
        obtain ⟨d, h1, _⟩ := hra
        exact ⟨_, h1⟩
    refine ⟨_, rfl, a, xs, rfl, .inr hx, fun H1 s1 => ⟨true, rfl, iteF ?_⟩⟩
    have hra1 : RowAt H1 r a := hra.mono (fun b xs x => s1 _ _ x) fun b xs x => s1 _ _ x
    cases r with
    | rest m =>
      refine ⟨_, rfl, a, _, rfl, .inr (SqT.of hra1), _, _, rfl, rfl, _, rfl, ite_no (decide_eq_false (by show ¬ ((2 : Nat) : Int) < 2; decide)) ?_⟩
      refine ⟨_, rfl, a, _, _, _, rfl, rfl, SqT.of hra1, rfl, _, _, _, _, true, rfl, .ty _, .base (.str _), kit_ty (by decide +kernel), true, rfl, iteF ?_⟩
      refine ⟨_, rfl, a, _, _, _, rfl, rfl, SqT.of hra1, rfl, (by show 2 ≤ sizeLine; decide), fun t ht => ⟨t, _, rfl, .inr (SqT.of upd_same), rfl, rfl, _, rfl, ite_yes (by decide +kernel) ?_⟩⟩
      have s2 := same_tr s1 (same_new (o := .tup [V.str "rest", V.str "inside"]) ht)
      have hra2 := hra1.new (o := .tup [V.str "rest", V.str "inside"]) ht
      refine ⟨_, rfl, a, _, rfl, .inr (SqT.of hra2), rfl, _, rfl, ite_yes (decide_eq_true rfl) ?_⟩
      refine ⟨_, rfl, a, _, _, _, rfl, rfl, SqT.of hra2, rfl, _, rfl, _, _, rfl, by omega, ?_⟩
      rw [decide_eq_true (show ((m : Nat) : Int) < (n : Nat) by have : m < n := rok; omega)]
      exact k _ s2
    | ins m =>
      refine ⟨_, rfl, a, _, rfl, .inr (SqT.of hra1), _, _, rfl, rfl, _, rfl, ite_no (decide_eq_false (by show ¬ ((2 : Nat) : Int) < 2; decide)) ?_⟩
      refine ⟨_, rfl, a, _, _, _, rfl, rfl, SqT.of hra1, rfl, _, _, _, _, true, rfl, .ty _, .base (.str _), kit_ty (by decide +kernel), true, rfl, iteF ?_⟩
      refine ⟨_, rfl, a, _, _, _, rfl, rfl, SqT.of hra1, rfl, (by show 2 ≤ sizeLine; decide), fun t ht => ⟨t, _, rfl, .inr (SqT.of upd_same), rfl, rfl, _, rfl, ite_yes (by decide +kernel) ?_⟩⟩
      have s2 := same_tr s1 (same_new (o := .tup [V.str "rest", V.str "inside"]) ht)
      have hra2 := hra1.new (o := .tup [V.str "rest", V.str "inside"]) ht
      refine ⟨_, rfl, a, _, rfl, .inr (SqT.of hra2), rfl, _, rfl, ite_yes (decide_eq_true rfl) ?_⟩
      refine ⟨_, rfl, a, _, _, _, rfl, rfl, SqT.of hra2, rfl, _, rfl, _, _, rfl, by omega, ?_⟩
      rw [decide_eq_true (show ((m : Nat) : Int) < (n : Nat) by have : m < n := rok; omega)]
      exact k _ s2
    | wr c v m =>
      refine ⟨_, rfl, a, _, rfl, .inr (SqT.of hra1), _, _, rfl, rfl, _, rfl, ite_no (decide_eq_false (by show ¬ ((4 : Nat) : Int) < 2; decide)) ?_⟩
      refine ⟨_, rfl, a, _, _, _, rfl, rfl, SqT.of hra1, rfl, _, _, _, _, true, rfl, .ty _, .base (.str _), kit_ty (by decide +kernel), true, rfl, iteF ?_⟩
      refine ⟨_, rfl, a, _, _, _, rfl, rfl, SqT.of hra1, rfl, (by show 2 ≤ sizeLine; decide), fun t ht => ⟨t, _, rfl, .inr (SqT.of upd_same), rfl, rfl, _, rfl, ite_no (by decide +kernel) ?_⟩⟩
      have s2 := same_tr s1 (same_new (o := .tup [V.str "rest", V.str "inside"]) ht)
      have hra2 := hra1.new (o := .tup [V.str "rest", V.str "inside"]) ht
      refine ⟨_, rfl, a, _, rfl, .inr (SqT.of hra2), rfl, _, rfl, ite_no (not_dec rfl) ?_⟩
      refine ⟨_, rfl, a, _, _, _, rfl, rfl, SqT.of hra2, rfl, c, rfl, nok c rok.1, true, rfl, iteF ?_⟩
      refine ⟨_, rfl, a, _, _, _, rfl, rfl, SqT.of hra2, rfl, _, rfl, _, _, rfl, by omega, _, rfl, ite_no (by rw [decide_eq_true (show ((m : Nat) : Int) < (n : Nat) by have : m < n := rok.2.2; omega)]; rfl) ?_⟩
      refine ⟨_, rfl, a, _, _, _, rfl, rfl, SqT.of hra2, rfl, rfl, _, rfl, ite_yes (decide_eq_true rfl) ?_⟩
      refine ⟨_, rfl, a, _, _, _, rfl, rfl, SqT.of hra2, rfl, _, rfl, ?_⟩
      rw [decide_eq_true (show v ≥ 0 from rok.2.1)]
      exact k _ s2
    | rd c cs m =>
      obtain ⟨d, h1, h2⟩ := hra1
      refine ⟨_, rfl, a, _, rfl, .inr (SqT.of h1), _, _, rfl, rfl, _, rfl, ite_no (decide_eq_false (by show ¬ ((4 : Nat) : Int) < 2; decide)) ?_⟩
      refine ⟨_, rfl, a, _, _, _, rfl, rfl, SqT.of h1, rfl, _, _, _, _, true, rfl, .ty _, .base (.str _), kit_ty (by decide +kernel), true, rfl, iteF ?_⟩
      refine ⟨_, rfl, a, _, _, _, rfl, rfl, SqT.of h1, rfl, (by show 2 ≤ sizeLine; decide), fun t ht => ⟨t, _, rfl, .inr (SqT.of upd_same), rfl, rfl, _, rfl, ite_no (by decide +kernel) ?_⟩⟩
      have s2 := same_tr s1 (same_new (o := .tup [V.str "rest", V.str "inside"]) ht)
      have h3 : (upd H1 t (.tup [V.str "rest", V.str "inside"])) a = some (.tup [V.str "read", V.str c, V.ref d, V.int (m : Nat)]) := by
        rw [upd_ne (ne_of_none h1 ht)]
        exact h1
      have h4 : (upd H1 t (.tup [V.str "rest", V.str "inside"])) d = some (.dK (kvOf cs)) := by
        rw [upd_ne (ne_of_none h2 ht)]
        exact h2
      refine ⟨_, rfl, a, _, rfl, .inr (SqT.of h3), rfl, _, rfl, ite_no (not_dec rfl) ?_⟩
      refine ⟨_, rfl, a, _, _, _, rfl, rfl, SqT.of h3, rfl, c, rfl, nok c rok.1, true, rfl, iteF ?_⟩
      refine ⟨_, rfl, a, _, _, _, rfl, rfl, SqT.of h3, rfl, _, rfl, _, _, rfl, by omega, _, rfl, ite_no (by rw [decide_eq_true (show ((m : Nat) : Int) < (n : Nat) by have : m < n := rok.2.2.2.1; omega)]; rfl) ?_⟩
      refine ⟨_, rfl, a, _, _, _, rfl, rfl, SqT.of h3, rfl, rfl, _, rfl, ite_no (decide_eq_false (by intro z; cases z)) ?_⟩
      refine ⟨_, rfl, a, _, _, _, rfl, rfl, SqT.of h3, rfl, rfl, _, rfl, ite_yes (decide_eq_true rfl) ?_⟩
      exact ⟨_, rfl, a, _, _, _, rfl, rfl, SqT.of h3, rfl, _, rfl, d, cs, n, rfl, h4, rok.2.2.1, rok.2.2.2.2, fun H3 s3 => k _ (same_tr s2 s3)⟩
end
end CC

set_option Elab.async false
set_option maxRecDepth 100000
namespace CC
open PySem L2
set_option linter.unusedVariables false
theorem dcit {J : It} {n : Nat} {G : Hp → Prop} {Y : Nat → Hp → V → Hp → Prop} (wk : Walk J n G Y) {g : TG} {tt : TT} {tk tv : TE} {vs : List Nat} {σ : L2.St} {H1 : Hp} {D : Addr} {Qd : Hp → Prop}
    (Pv : Nat → Hp → Prop) (start : Pv 0 (upd H1 D (.dK []))) (stands : ∀ i H, i ≤ n → Pv i H → G H)
    (turn : ∀ i x H H', i < n → Pv i H → Y i H x H' → g x (wipe σ vs) H' fun σ2 H2 => wipe σ2 vs = wipe σ vs ∧ tt σ2 H2 fun b H3 =>
      if b = true then tk σ2 H3 fun y H4 => tv σ2 H4 fun z H5 => ∃ kvs k, y = kV k ∧ H5 D = some (.dK kvs) ∧ kvs.length < sizeLine ∧ Pv (i + 1) (upd H5 D (.dK (putK kvs k z))) else Pv (i + 1) H3) (fine : ∀ H, Pv n H → Qd H) :
    ∃ W : Nat → Nat → Hp → Prop, (∃ m, W 0 m (upd H1 D (.dK []))) ∧ ∀ i m H, W i m H →
      (J.stop i H ∧ Qd H) ∨ (J.go i H ∧ ∃ Nx : Hp → Prop, (∀ H', Nx H' → ∃ m', m' < m ∧ W (i + 1) m' H') ∧ ∀ x H', J.yld i H x H' → g x (wipe σ vs) H' fun σ2 H2 => wipe σ2 vs = wipe σ vs ∧ tt σ2 H2 fun b H3 =>
        if b = true then tk σ2 H3 fun y H4 => tv σ2 H4 fun z H5 => ∃ kvs k, y = kV k ∧ H5 D = some (.dK kvs) ∧ kvs.length < sizeLine ∧ Nx (upd H5 D (.dK (putK kvs k z))) else Nx H3) := by
  refine ⟨fun i m H => m = n - i ∧ i ≤ n ∧ Pv i H, ⟨n, rfl, Nat.zero_le _, start⟩, fun i m H ⟨em, hi, hP⟩ => ?_⟩
  have hG := stands i H hi hP
  by_cases lt : i < n
  · exact .inr ⟨wk.goes i H lt hG, Pv (i + 1), fun H' z => ⟨n - (i + 1), by omega, rfl, lt, z⟩, fun x H' y => turn i x H H' lt hP (wk.yields i H x H' lt hG y)⟩
  · obtain rfl : i = n := by omega
    exact .inl ⟨wk.stops H hG, fine H hP⟩
def Row.fol : Row → List Nat
  | .rest m => [m]
  | .ins m => [m]
  | .wr _ _ m => [m]
  | .rd _ cs m => cs.map (·.2) ++ [m]
/-- the same row but for the order of its cases -/
def RSim : Row → Row → Prop
  | .rest m, .rest m' => m = m'
  | .ins m, .ins m' => m = m'
  | .wr c v m, .wr c' v' m' => c = c' ∧ v = v' ∧ m = m'
  | .rd c cs m, .rd c' cs' m' => c = c' ∧ cs.Perm cs' ∧ m = m'
  | _, _ => False
def look (cs : List (Int × Nat)) (k : Int) : Nat := ((cs.find? fun kv => decide (kv.1 = k)).map (·.2)).getD 0
theorem look_mem {k : Int} : ∀ {cs : List (Int × Nat)}, k ∈ cs.map (·.1) → (k, look cs k) ∈ cs
  | p :: r, h => by
    by_cases e : p.1 = k
    · have : look (p :: r) k = p.2 := by
        unfold look
        rw [List.find?_cons, decide_eq_true e]
        rfl
      rw [this, ← e]
      exact List.mem_cons_self ..
    · have : look (p :: r) k = look r k := by
        unfold look
        rw [List.find?_cons, decide_eq_false e]
      rw [this]
      refine List.mem_cons_of_mem _ (look_mem ?_)
      cases h with
      | head => exact absurd rfl e
      | tail _ h => exact h
theorem nodup_val {k : Int} {a b : Nat} : ∀ {cs : List (Int × Nat)}, (cs.map (·.1)).Nodup → (k, a) ∈ cs → (k, b) ∈ cs → a = b := fun nd h1 h2 => by
  have e1 := valV_mem nd h1
  rw [valV_mem nd h2] at e1
  injection e1 with e1
  injection e1 with e1
  omega
theorem look_perm {cs : List (Int × Nat)} {ys : List Int} (nd : (cs.map (·.1)).Nodup) (h : ys.Perm (cs.map (·.1))) : cs.Perm (ys.map fun k => (k, look cs k)) := by
  have e : (cs.map (·.1)).map (fun k => (k, look cs k)) = cs := by
    rw [List.map_map]
    refine Eq.trans (List.map_congr_left fun kv hkv => ?_) (List.map_id cs)
    show (kv.1, look cs kv.1) = kv
    rw [nodup_val nd (look_mem (List.mem_map.mpr ⟨kv, hkv, rfl⟩)) (show (kv.1, kv.2) ∈ cs from hkv)]
  have p := h.map (fun k => (k, look cs k))
  rw [e] at p
  exact p.symm
def spCopied : Sp := fun vs H Q _ => ∃ (a : Addr) (r : Row) (n : Nat), vs = [.ref a] ∧ RowAt H r a ∧ r.low n ∧ ∀ (b : Addr) (r' : Row) (H' : Hp), Same H H' → RowAt H' r' b → RSim r r' → Q (.ref b) H'
def spFollowers : Sp := fun vs H Q _ => ∃ (a : Addr) (r : Row) (n : Nat), vs = [.ref a] ∧ RowAt H r a ∧ r.low n ∧ ∀ (b : Addr) (H' : Hp), Same H H' → H b = none → H' b = some (.lst (r.fol.map fun (m : Nat) => V.int (m : Nat))) → Q (.ref b) H'
section
variable {P : Program} {w : World} {K : PySem.W.Frag} {mg : Str → Option Value} {base : Heap}
theorem scCopied : FnScope ["row", "cases", "worth"] ["row"] (defScope sCopied) := ⟨rfl, rfl, rfl, by decide +kernel, rfl, by decide +kernel, by decide +kernel⟩
theorem ok_copied {f : Addr} {fd : FuncData} (F : Fun K "copied" "copied" sCopied f fd) (tt : mg "tuple" = none) (ts : mg "sorted" = none) :
    FnOk P w K mg base CX0 1 f fd ["row"] spCopied := by
  refine F.ok scCopied (fun vs H Q E h => ?_) (fun cdv A outer s H vs Q E hr h => ?_)
  · obtain ⟨a, r, n, rfl, _⟩ := h
    rfl
  · obtain ⟨a, r, n, rfl, hra, low, k⟩ := h
    have hu := hu_of hr
    refine ⟨_, pss_cons (ps_if (pt_cmpR op_eq (pe_ix ix_tup (pv 0) pe_int (fun _ _ => rfl)) pe_str (nomark _))
      (pss_cons (ps_set (i := 1) scCopied.nd rfl (Or.inr rfl) (pe_ix ix_tup (pv 0) pe_int (fun _ _ => rfl)))
      (pss_one (ps_ret (pe_tup (pa_cons pe_str (pa_cons (pe_ix ix_tup (pv 0) pe_int (fun _ _ => rfl)) (pa_cons
        (pe_dc (own := [("worth", 2)]) (g := gName 2) (by rfl) scCopied.nd (pi_list (pe_callB (call_sortedDI rfl) (by rfl) ts (by decide +kernel) (pa_cons (pv 1) pa_nil))) (blkOk_by (own := [("worth", 2)]) (N := ["row", "cases", "worth"]) (sc := defScope sCopied) (by decide +kernel)) (fun _ _ _ _ _ => pg_name (i := 2) scCopied.nd rfl (Or.inl rfl)) (fun _ _ _ _ _ => pts_nil) (fun _ _ _ _ _ => pv 2) (fun _ _ _ _ _ => pe_dget hu (pv 1) (pv 2) (fun _ _ => rfl)))
        (pa_cons (pe_ix ix_tup (pv 0) pe_int (fun _ _ => rfl)) pa_nil)))))))) pss_nil)
      (pss_one (ps_ret (pe_callTy call_tupleT (by rfl) tt (by decide +kernel) (pa_cons (pv 0) pa_nil)))), ?_⟩
    cases r with
    | rest m =>
      refine ⟨_, rfl, a, _, _, _, rfl, rfl, SqT.of hra, rfl, rfl, _, rfl, ite_no (decide_eq_false (by intro z; cases z)) ?_⟩
      exact ⟨_, rfl, a, _, rfl, SqT.of hra, k a (.rest m) H (fun _ _ e => e) hra rfl⟩
    | ins m =>
      refine ⟨_, rfl, a, _, _, _, rfl, rfl, SqT.of hra, rfl, rfl, _, rfl, ite_no (decide_eq_false (by intro z; cases z)) ?_⟩
      exact ⟨_, rfl, a, _, rfl, SqT.of hra, k a (.ins m) H (fun _ _ e => e) hra rfl⟩
    | wr c v m =>
      refine ⟨_, rfl, a, _, _, _, rfl, rfl, SqT.of hra, rfl, rfl, _, rfl, ite_no (decide_eq_false (by intro z; cases z)) ?_⟩
      exact ⟨_, rfl, a, _, rfl, SqT.of hra, k a (.wr c v m) H (fun _ _ e => e) hra ⟨rfl, rfl, rfl⟩⟩
    | rd c cs m =>
      obtain ⟨d, h1, h2⟩ := hra
      refine ⟨_, rfl, a, _, _, _, rfl, rfl, SqT.of h1, rfl, rfl, _, rfl, ite_yes (decide_eq_true rfl) ?_⟩
      refine ⟨_, rfl, a, _, _, _, rfl, rfl, SqT.of h1, rfl, ?_⟩
      obtain ⟨ndk, lowk, mn, c10⟩ := low
      refine ⟨_, rfl, a, _, _, _, rfl, rfl, SqT.of h1, rfl, ?_⟩
      refine ⟨_, rfl, d, kvOf cs, cs.map (·.1), rfl, .inl h2, by unfold kvOf; rw [List.map_map, List.map_map]; rfl, by rw [List.length_map]; omega, fun ys q perm srt hq => ?_⟩
      have yl : ys.length = cs.length := by rw [perm.length_eq, List.length_map]
      have ynd : ys.Nodup := perm.nodup_iff.mpr ndk
      have s1 : Same H (upd H q (.lst (ys.map V.int))) := same_new hq
      have q1 : (upd H q (.lst (ys.map V.int))) q = some (.lst (ys.map V.int)) := upd_same
      revert s1 q1
      generalize (upd H q (.lst (ys.map V.int))) = H1
      intro s1 q1
      refine ⟨q, rfl, ⟨_, SqL.of q1⟩, fun D hD => ?_⟩
      refine dcit (walk_list (K := K) (a := q) (xs := ys.map V.int)) (fun i H2 => H2 D = some (.dK (kvOf ((ys.take i).map fun k => (k, look cs k)))) ∧ Same H1 H2) ⟨upd_same, same_new hD⟩ (fun i H2 _ e => SqL.of (e.2 _ _ q1)) ?_ ?_
      · rintro i x Ha Hb hi ⟨hDa, sa⟩ ⟨rfl, hx⟩
        rw [List.getElem?_map] at hx
        obtain ⟨z, hz, rfl⟩ : ∃ z, ys[i]? = some z ∧ x = V.int z := by
          cases e : ys[i]? with
          | none =>
            rw [e] at hx
            cases hx
          | some z =>
            rw [e] at hx
            exact ⟨z, rfl, (Option.some.inj hx).symm⟩
        have zin : z ∈ cs.map (·.1) := perm.mem_iff.mp (List.mem_of_getElem? hz)
        have tk : ys.take (i + 1) = ys.take i ++ [z] := by rw [List.take_add_one, hz]; rfl
        have zn : z ∉ ys.take i := fun m => by
          have nd2 : (ys.take (i + 1)).Nodup := ynd.sublist (List.take_sublist _ _)
          rw [tk, List.nodup_append] at nd2
          exact nd2.2.2 z m z (List.mem_cons_self ..) rfl
        refine ⟨rfl, tyes_if ?_⟩
        refine ⟨_, rfl, _, rfl, _, rfl, d, V.int (look cs z : Nat), rfl, ?_, _, Sum.inl z, rfl, hDa, ?_, ?_, same_put sa hD⟩
        · rw [← valV_mem ndk (look_mem zin)]
          exact DGet.k (k := Sum.inl z) (sa _ _ (s1 _ _ h2))
        · refine small ?_
          unfold kvOf
          rw [List.length_map, List.length_map, List.length_take]
          omega
        · rw [upd_same, putK_new _ (valV_kv (by rw [List.map_map]; intro m; obtain ⟨j, hj, e⟩ := List.mem_map.mp m; exact zn (by have e' : j = z := e; rw [← e']; exact hj))), tk]
          unfold kvOf
          rw [List.map_append, List.map_append]
          rfl
      · rintro Ha ⟨hDa, sa⟩
        rw [List.length_map, List.take_length] at hDa
        have a1 := sa _ _ (s1 _ _ h1)
        refine ⟨_, rfl, a, _, _, _, rfl, rfl, SqT.of a1, rfl, (by show 4 ≤ sizeLine; decide), fun b hb => ?_⟩
        exact k b (.rd c (ys.map fun k => (k, look cs k)) m) _ (same_tr (same_tr s1 sa) (same_new hb)) ⟨D, upd_same, by rw [upd_ne (ne_of_none hDa hb)]; exact hDa⟩ ⟨rfl, look_perm ndk perm, rfl⟩
theorem scFollowers : FnScope ["row"] ["row"] (defScope sFollowers) := ⟨rfl, rfl, rfl, by decide +kernel, rfl, by decide +kernel, by decide +kernel⟩
theorem ok_followers {f : Addr} {fd : FuncData} (F : Fun K "followers" "followers" sFollowers f fd) (tl : mg "list" = none) :
    FnOk P w K mg base CX0 1 f fd ["row"] spFollowers := by
  refine F.ok scFollowers (fun vs H Q E h => ?_) (fun cdv A outer s H vs Q E hr h => ?_)
  · obtain ⟨a, r, n, rfl, _⟩ := h
    rfl
  · obtain ⟨a, r, n, rfl, hra, low, k⟩ := h
    refine ⟨_, pss_cons (ps_if (pt_cmpR op_eq (pe_ix ix_tup (pv 0) pe_int (fun _ _ => rfl)) pe_str (nomark _))
      (pss_one (ps_ret (pe_op op_cat (pe_lvals rfl (pe_ix ix_tup (pv 0) pe_int (fun _ _ => rfl)) (by rfl) tl (by decide +kernel)) (pe_lst (pa_cons (pe_ix ix_tup (pv 0) pe_int (fun _ _ => rfl)) pa_nil))))) pss_nil)
      (pss_one (ps_ret (pe_lst (pa_cons (pe_ix ix_tup (pv 0) (pe_un un_neg pe_int) (fun _ _ => rfl)) pa_nil)))), ?_⟩
    cases r with
    | rest m =>
      refine ⟨_, rfl, a, _, _, _, rfl, rfl, SqT.of hra, rfl, rfl, _, rfl, ite_no (decide_eq_false (by intro z; cases z)) ?_⟩
      exact ⟨_, rfl, _, rfl, a, _, _, _, rfl, rfl, SqT.of hra, rfl, (by show 1 ≤ sizeLine; decide), fun b hb => k b _ (same_new hb) hb upd_same⟩
    | ins m =>
      refine ⟨_, rfl, a, _, _, _, rfl, rfl, SqT.of hra, rfl, rfl, _, rfl, ite_no (decide_eq_false (by intro z; cases z)) ?_⟩
      exact ⟨_, rfl, _, rfl, a, _, _, _, rfl, rfl, SqT.of hra, rfl, (by show 1 ≤ sizeLine; decide), fun b hb => k b _ (same_new hb) hb upd_same⟩
    | wr c v m =>
      refine ⟨_, rfl, a, _, _, _, rfl, rfl, SqT.of hra, rfl, rfl, _, rfl, ite_no (decide_eq_false (by intro z; cases z)) ?_⟩
      exact ⟨_, rfl, _, rfl, a, _, _, _, rfl, rfl, SqT.of hra, rfl, (by show 1 ≤ sizeLine; decide), fun b hb => k b _ (same_new hb) hb upd_same⟩
    | rd c cs m =>
      obtain ⟨d, h1, h2⟩ := hra
      refine ⟨_, rfl, a, _, _, _, rfl, rfl, SqT.of h1, rfl, rfl, _, rfl, ite_yes (decide_eq_true rfl) ?_⟩
      refine ⟨_, rfl, a, _, _, _, rfl, rfl, SqT.of h1, rfl, d, _, rfl, h2, fun q hq => ?_⟩
      have a1 := same_new (o := .lst ((kvOf cs).map (·.2))) hq _ _ h1
      refine ⟨_, rfl, a, _, _, _, rfl, rfl, SqT.of a1, rfl, (by show 1 ≤ sizeLine; decide), fun b hb => ?_⟩
      refine ⟨q, b, _, _, rfl, rfl, by rw [upd_ne (ne_of_none upd_same hb)]; exact upd_same, upd_same, ?_, fun c hc => ?_⟩
      · unfold kvOf
        rw [List.length_map, List.length_map]
        exact Nat.le_of_lt (small (by show cs.length + 1 < 1000000; have := low.2.2.2; omega))
      · refine k c _ (same_tr (same_tr (same_new hq) (same_new hb)) (same_new hc)) ((same_tr (same_new hq) (same_new hb)).free hc) ?_
        rw [upd_same]
        unfold kvOf Row.fol
        rw [List.map_map, List.map_append, List.map_map]
        rfl
end
end CC

set_option Elab.async false
set_option maxRecDepth 100000
/-! ### enumerate over a tuple -/
namespace CC
open PySem PySem.Spec PyProof.Rows L2
open AutoSeq1 (wpAny_loadPart')
set_option linter.unusedVariables false
abbrev tupIt (t : Addr) : Obj := { cls := .type "tuple_iterator", data := .fields #[.ref t, .int 0 0] }
abbrev enuOb (i : Addr) : Obj := { cls := .type "enumerate", data := .fields #[.none, .bool false, .ref i, rawInt 0, .none, .none] }
theorem enu_new (t : Addr) (items : Array Value) (n : Nat) (dct : Option Addr) (sl : Array (Option Value)) :
    Meets (Builtin.«enumerate.__new__» ⟨[.type "enumerate", .ref t], []⟩) (fun _ R s => s.heap.get? t = some { cls := .type "tuple", dict := dct, data := .seq items n, slots := sl } ∧
      R (.ok (.ret (.ref (s.heap.push (tupIt t)).objs.size))) { s with heap := (s.heap.push (tupIt t)).push (enuOb s.heap.objs.size) }) := by
  refine .of_wp fun prog w A R s h => ?_
  obtain ⟨hp, g, d, tk, os⟩ := s
  obtain ⟨hl, h⟩ := h
  have hsub := sub_enumerate
  have isT : Heap.IsTuple (Shared.heap ⟨hp, g, d, tk, os⟩) t items := ⟨_, hl, rfl, n, rfl⟩
  wp_walk using wpAny_loadPart' hl
  refine wpAny_stack_any fun st => wpAny_pure ?_
  split
  · rename_i c _ _ _ _ _
    cases (c == Value.type "enumerate") <;> (wp_walk using wpAny_loadPart' hl, wpAny_pyIter_tuple isT) <;> exact ⟨_, rfl, h⟩
  · wp_walk using wpAny_loadPart' hl, wpAny_pyIter_tuple isT
    exact ⟨_, rfl, h⟩
end CC
namespace CC
open PySem PySem.Spec PyProof.Rows L2
section
variable {prog : Program} {w : World} {A : Around} {E : Value → Shared → Prop} {s : Shared}
theorem enu_call {t : Addr} {items : Array Value} {Q : Value → Shared → Prop} (ht : s.heap.IsTuple t items)
    (h : ∀ h', IsEnum h' (s.heap.objs.size + 1) s.heap.objs.size 0 .none → h'.IsTupleIter s.heap.objs.size t 0 → (∀ b o, s.heap.get? b = some o → h'.get? b = some o) → Q (.ref (s.heap.objs.size + 1)) { s with heap := h' }) :
    wpAny (model prog w) A (call (.type "enumerate") [.ref t]) Q E s := by
  obtain ⟨⟨c, dct, dt, sl⟩, hl, hc, n, hd⟩ := ht
  have hc' : c = .type "tuple" := hc
  have hd' : dt = .seq items n := hd
  subst hc' hd'
  have M := enu_new t items n dct sl
  refine callType_new F.called_enumerate (by decide) (F.typeCall_enumerate_1 _) (F.newCall_enumerate_1 _) (fun obj => F.args_object_init_2 obj _) F.entry_enumerate_new M ⟨hl, ?_⟩
  have hz : (s.heap.push (tupIt t)).objs.size = s.heap.objs.size + 1 := Heap.size_push ..
  have he : IsEnum ((s.heap.push (tupIt t)).push (enuOb s.heap.objs.size)) (s.heap.objs.size + 1) s.heap.objs.size 0 .none := by
    have z := Heap.get?_push_size (s.heap.push (tupIt t)) (o := enuOb s.heap.objs.size) rfl
    rw [hz] at z
    exact z
  show _ ∧ _
  rw [hz]
  refine ⟨⟨_, he, rfl⟩, h _ he ⟨_, Heap.get?_push_of_some _ (Heap.get?_push_size _ rfl), rfl, rfl⟩ fun b o x => ?_⟩
  exact Heap.get?_push_of_some _ (Heap.get?_push_of_some _ x)
end
/-- the tuple at a, each item in a new pair with its number -/
def IteT (K : PySem.W.Frag) (a : Addr) : It :=
  ⟨fun i H => ∃ (xs : List V) (x : V), SqT K H a xs ∧ xs[i]? = some x,
   fun i H v H' => ∃ T x, v = .ref T ∧ H T = none ∧ H' = upd H T (.tup [.int (i : Nat), x]) ∧ ∀ xs, SqT K H a xs → xs[i]? = some x,
   fun i H => ∃ xs : List V, SqT K H a xs ∧ xs.length ≤ i⟩
theorem walk_enumT {K : PySem.W.Frag} {a : Addr} {xs : List V} : Walk (IteT K a) xs.length (fun H => SqT K H a xs) (YPair (fun i => some (.int (i : Nat))) (fun i => xs[i]?)) :=
  ⟨fun i _ hi q => ⟨xs, xs[i], q, by simp [hi]⟩, fun _ q => ⟨xs, q, Nat.le_refl _⟩, fun i H v H' _ q y => by
    obtain ⟨T, x, h1, h2, h3, h4⟩ := y
    exact ⟨T, .int (i : Nat), x, h1, h2, h3, rfl, h4 xs q⟩⟩
end CC

set_option Elab.async false
set_option maxRecDepth 100000
namespace CC
open PySem PySem.Spec PyProof.Rows L2
set_option linter.unusedVariables false
theorem enu_ne {h : Heap} {e it a : Addr} {i : Int} {old : Value} {items : Array Value} (he : IsEnum h e it i old) (ht : IsTup h a items) : e ≠ a := fun z => by
  obtain ⟨o, ho, hc, _⟩ := ht
  have he' : h.get? e = some _ := he
  rw [z, ho] at he'
  have q := Option.some.inj he'
  rw [q] at hc
  have hc' : (Value.type "enumerate") = Value.type "tuple" := hc
  injection hc' with hc'
  exact absurd hc' (by decide)
theorem enu_end {prog : Program} {w : World} {A : Around} {E : Value → Shared → Prop} {s : Shared} {e it t : Addr} {i : Nat} {c : Int} {items : Array Value} {old : Value} {Q : Option Value → Shared → Prop} (hh : A.handled = none)
    (he : IsEnum s.heap e it c old) (hit : s.heap.IsTupleIter it t i) (ht : s.heap.IsTuple t items) (hx : items[i]? = none) (hQ : ∀ h', Heap.ExtBut it s.heap h' → Q none { s with heap := h' }) : wpAny (model prog w) A (pyNext (.ref e)) Q E s := by
  have ty : s.TypeIs (.ref e) "enumerate" := ⟨_, he, rfl⟩
  have slot := F.slot_enumerate_next
  unfold pyNext
  refine wpAny_bind (wpAny_attempt (wpAny_callSpecial?_slot (name := Str.ofString "__next__") ty slot (wpAny_call_entry slot ty F.entry_enumerate_next ?_ (F.args_enumerate_next_1 _))))
  show wpAny _ _ (field (.ref e) 2 >>= _) _ _ _
  refine wpAny_bind (wpAny_field he rfl (x := .ref it) rfl (wpAny_bind (wpAny_nextOf_tuple_end hh hit ht hx fun h' x he' hx' => ?_)))
  obtain ⟨o, ho, hc⟩ := hx'
  exact wpAny_bind (wpAny_isInstance (T := "StopIteration") (b := true) ⟨o, ho, hc⟩ isSubtype_stop (wpAny_pure (hQ _ he')))
theorem turn_enumT {P : Program} {w : World} {K : PySem.W.Frag} {elts : List Expr} {kk : Nat} {tpos : Pos} (a e it : Addr) :
    Turn P w K (.Tuple elts kk tpos) (IteT K a) [e, it] e (fun i h => (∃ old, IsEnum h e it ((i : Nat) : Int) old) ∧ h.IsTupleIter it a i ∧ e ≠ it ∧ a ≠ it) where
  mem := by simp
  obj := fun i h st b hb => by
    obtain ⟨⟨old, he⟩, ⟨o, ho, hc, hd⟩, _⟩ := st
    rcases (show b = e ∨ b = it by simpa using hb) with z | z
    · subst z
      exact ⟨_, he, fun v q => nomatch q⟩
    · subst z
      exact ⟨o, ho, fun v q => by rw [hd] at q; cases q⟩
  keep := fun i h h' st k => by
    obtain ⟨⟨old, he⟩, hi, hne⟩ := st
    exact ⟨⟨old, k e (by simp) _ he⟩, hi.at fun o q => k it (by simp) o q, hne⟩
  item := by
    intro X hP hw hK hc i pins s σ H E I hf st hg
    subst hP hw hK
    obtain ⟨⟨old, he⟩, hit, hne, hat⟩ := st
    obtain ⟨xs, x, hq, hx⟩ := hg
    obtain ⟨its, rv, p, hz⟩ := I.tuple hq
    obtain ⟨u, hu, ru⟩ := rv.get hx
    have hel : e < s.heap.objs.size := Heap.lt_size he
    have hil : it < s.heap.objs.size := by
      obtain ⟨_, q, _⟩ := hit
      exact Heap.lt_size q
    have hi : i < its.toArray.size := by
      have := (List.getElem?_eq_some_iff.mp hu).1
      rw [List.size_toArray]
      exact this
    have hea := enu_ne he p
    have D := Draws.tuple (prog := X.prog) (w := X.w) (A := X.A.in1) (I.ok.hd hc) it a hat its.toArray
    refine wpAny_pyNext_enum_itemC D he ⟨hit, p⟩ hi hne (by simp [hne, hea]) fun u' h' tk hu' ho hit' hT hsz hk => ?_
    have eu : u' = u := by
      have z : its[i]? = some u' := by simpa using hu'
      rw [hu] at z
      exact (Option.some.inj z).symm
    subst eu
    refine ⟨_, rfl, wpAny_letOwnedTupleGo_enum (s := { s with heap := h', toks := tk + 1 }) ho fun h'' he' sb => ?_⟩
    have hT2 := (sb.2 _ (Nat.ne_of_gt hel)).trans hT
    have new : ObjOk X.prog X.w (upd H s.heap.objs.size (.tup [.int (i : Nat), x])) h'' s.heap.objs.size (.tup [.int (i : Nat), x]) :=
      ⟨by show 2 ≤ sizeLine; decide, [.int i tk, u'], .cons ⟨_, rfl⟩ (.cons ru .nil), ⟨_, hT2, rfl, _, rfl⟩⟩
    have I1 : Inv X pins σ (upd H s.heap.objs.size (.tup [.int (i : Nat), x])) { s with heap := h'', toks := tk + 1 } := by
      refine I.turnedNew (ch := [e, it]) (fun b ob hb q => ?_) hf (Nat.le_refl _) new
      have n1 : b ≠ e := fun z => hb (by simp [z])
      exact (sb.2 b n1).trans (hk b ob n1 (fun z => hb (by simp [z])) q)
    refine ⟨.ref s.heap.objs.size, _, I1, rfl, ⟨_, x, rfl, I.hok.fresh (Nat.le_refl _), rfl, fun ys hy => ?_⟩, ⟨⟨u', ?_⟩, hit'.1.at fun o q => (sb.2 it (Ne.symm hne)).trans q, hne, hat⟩, fun b hb => ?_⟩
    · have z := I.tuple_inj hy hq
      rw [z]
      exact hx
    · rw [show ((i + 1 : Nat) : Int) = (i : Int) + 1 by omega]
      exact he'
    · have hb' : b < s.heap.objs.size := by
        rcases (show b = e ∨ b = it by simpa using hb) with z | z
        · rw [z]; exact hel
        · rw [z]; exact hil
      rw [upd_ne (Nat.ne_of_lt hb')]
      exact (hf b hb).1
  done := by
    intro X hP hw hK hc i pins s σ H E I hf st hg
    subst hP hw hK
    obtain ⟨⟨old, he⟩, hit, hne, hat⟩ := st
    obtain ⟨xs, hq, hx⟩ := hg
    obtain ⟨its, rv, p, hz⟩ := I.tuple hq
    obtain ⟨f0, f1, f2, f3, f4, f5⟩ := hf it (by simp)
    have hl := rv.length
    refine enu_end (I.ok.hd hc) he hit p (by simp; omega) fun h' eb => ⟨rfl, ?_⟩
    exact I.turned (t' := s.toks) (fun b o hb q => eb b o hb q) f0 f1 f3 f4 f5
  self := fun A i s Q E st h => by
    obtain ⟨⟨_, he⟩, _⟩ := st
    exact wpAny_pyIter_enum he h
def iEnumT (K : PySem.W.Frag) (ta : TA) : TI := fun σ H R => ta σ H fun vs H1 => ∃ a xs, vs = [.ref a] ∧ SqT K H1 a xs ∧ R (IteT K a) H1
theorem pi_enumT {X : Cx} {e : Expr} {ta : TA} {p pos tpos : Pos} {elts : List Expr} {kk : Nat} (hg : Gl X "enumerate") (hm : X.mg "enumerate" = none) (ha : PA X [e] ta)
    (hs : starEach [e] X.env = [(false, eval e X.env)] := by rfl) : PI X (.Tuple elts kk tpos) (.Call (.Name "enumerate" p) [e] [] pos) (iEnumT X.K ta) := by
  refine ⟨fun pins s σ H R I h => ?_⟩
  have run := ha.run pos pins s σ H _ I h
  refine Call_ (ld_blt I hg hm boot_enumerate (PyProof.Rows.callWith_type1 (thn run fun us s1 ⟨vs, H1, I1, r1, q1⟩ => ?_) hs rfl))
  obtain ⟨a, xs, ex, hq, q⟩ := q1
  subst ex
  cases r1 with
  | cons r rr =>
    cases rr
    cases r
    obtain ⟨its, rv, p', hz⟩ := I1.tuple hq
    refine enu_call p' fun h' he hit hk => wpAny_pyIter_enum he ?_
    have al : a < s1.heap.objs.size := by
      obtain ⟨_, z, _⟩ := p'
      exact Heap.lt_size z
    have I2 : Inv X pins σ H1 { s1 with heap := h' } := I1.kept (t' := s1.toks) hk
    refine ⟨s1.heap.objs.size + 1, [s1.heap.objs.size + 1, s1.heap.objs.size], _, _, H1, rfl, I2, turn_enumT a (s1.heap.objs.size + 1) s1.heap.objs.size, ⟨⟨.none, he⟩, hit, Nat.succ_ne_self _, Nat.ne_of_lt al⟩, fun b hb => ?_, q⟩
    have hle : s1.heap.objs.size ≤ b := by
      rcases (show b = s1.heap.objs.size + 1 ∨ b = s1.heap.objs.size by simpa using hb) with z | z
      · rw [z]
        exact Nat.le_add_right _ _
      · rw [z]
        exact Nat.le_refl _
    exact I1.fpOk hle (I1.hok.fresh hle)
end CC

set_option Elab.async false
set_option maxRecDepth 100000
namespace CC
open PySem L2
set_option linter.unusedVariables false
abbrev sWrongRow : Stmt := top 19
abbrev sIsOnce : Stmt := top 20
def spWrongRow : Sp := fun vs H Q _ => ∃ (l : Addr) (rs : List Row) (cells : List Str), vs = [.ref l] ∧ RowsAt H rs l ∧ Good cells rs ∧ (∀ c ∈ cells, NameOk c) ∧ ∀ H', Same H H' → Q .non H'
section
variable {P : Program} {w : World} {K : PySem.W.Frag} {mg : Str → Option Value} {base : Heap}
theorem scWrongRow : FnScope ["rows", "number", "row"] ["rows"] (defScope sWrongRow) := ⟨rfl, rfl, rfl, by decide +kernel, rfl, by decide +kernel, by decide +kernel⟩
theorem ok_wrongrow {f fL fR : Addr} {fd fdL fdR : FuncData} {t1 t2 : Tok} (F : Fun K "wrong_row" "wrong_row" sWrongRow f fd)
    (GL : FnOk P w K mg base CX0 1 fL fdL ["value"] spIsList) (mL : mg "is_list" = some (.ref fL)) (kL : PySem.W.keepIn K (.ref fL) = true) (bL : Binds K fdL ["value"] [])
    (GR : FnOk P w K mg base CX0 4 fR fdR ["value", "many"] spIsRow) (mR : mg "is_row" = some (.ref fR)) (kR : PySem.W.keepIn K (.ref fR) = true) (bR : Binds K fdR ["value", "many"] [])
    (tl : mg "len" = none) (te : mg "enumerate" = none) (mF : mg "FEWEST_ROWS" = some (.int 2 t1)) (mM : mg "MOST_ROWS" = some (.int 60 t2)) :
    FnOk P w K mg base CX0 5 f fd ["rows"] spWrongRow := by
  refine F.ok scWrongRow (fun vs H Q E h => ?_) (fun cdv A outer s H vs Q E hr h => ?_)
  · obtain ⟨l, rs, cells, rfl, _⟩ := h
    rfl
  · obtain ⟨l, rs, cells, rfl, hl, ⟨rok, ⟨m0, h0⟩, n2, n60⟩, nok, k⟩ := h
    have hr1 : Room 1 _ := hr.mono (by decide)
    refine ⟨_, pss_cons (ps_if (pt_not (pt_val (pe_call GL hr1 rfl mL kL bL .nil pass0 (pa_cons (pv 0) pa_nil)))) (pss_one (ps_ret pe_int)) pss_nil)
      (pss_cons (ps_for PassesOwn.never rfl (pi_enum (by rfl) te (pa_cons (pv 0) pa_nil)) (pg_tup (by rfl) (pgs_cons (pg_name (i := 1) scWrongRow.nd rfl (Or.inl rfl)) (pgs_cons (pg_name (i := 2) scWrongRow.nd rfl (Or.inl rfl)) pgs_nil)))
        (pss_one (ps_if (PW.pt (pw_or (pt_not (pt_val (pe_call GR hr rfl mR kR bR .nil pass0 (pa_cons (pv 2) (pa_cons (pe_callB call_len_seq (by rfl) tl PySem.boot_len (pa_cons (pv 0) pa_nil)) pa_nil)))))
          (pw_or1 (PW.pt (pw_and (pt_cmpR op_eq (pv 1) pe_int (nomark _)) (pw_and1 (pt_cmpR op_ne (pe_ix ix_tup (pv 2) pe_int (fun _ _ => rfl)) pe_str (nomark _)))))))) (pss_one (ps_ret (pv 1))) pss_nil)))
      (pss_one (ps_ret (pe_ifExp (pt_chain op_le op_le (pe_glob (v := .int 2) rfl mF ⟨_, rfl⟩) (pe_callB call_len_seq (by rfl) tl PySem.boot_len (pa_cons (pv 0) pa_nil)) (pe_glob (v := .int 60) rfl mM ⟨_, rfl⟩)) pe_non (pe_callB call_len_seq (by rfl) tl PySem.boot_len (pa_cons (pv 0) pa_nil)))))), ?_⟩
    obtain ⟨as, ha1, ha2⟩ := id hl
    have asl : as.length = rs.length := ha2.length
    refine ⟨_, rfl, l, _, rfl, .inl ha1, fun H1 s1 => ⟨true, rfl, iteF ?_⟩⟩
    refine ⟨_, rfl, l, _, rfl, SqL.of (s1 _ _ ha1), for_it (walk_enum (K := K) (a := l) (xs := as.map V.ref)) (fun i σ H2 => ∃ v1 v2, σ = [some (.ref l), v1, v2] ∧ Same H H2) ⟨none, none, rfl, s1⟩ (fun i σ H2 _ ⟨_, _, _, e⟩ => SqL.of (e _ _ ha1)) ?_ ?_⟩
    · rintro i x σ Ha Hb hi ⟨v1, v2, rfl, sa⟩ ⟨T, ix, y, rfl, hT, rfl, e1, e2⟩
      cases Option.some.inj e1
      dsimp only at e2
      rw [List.getElem?_map] at e2
      obtain ⟨a, hia, rfl⟩ : ∃ a, as[i]? = some a ∧ y = V.ref a := by
        cases e : as[i]? with
        | none =>
          rw [e] at e2
          cases e2
        | some z =>
          rw [e] at e2
          exact ⟨z, rfl, (Option.some.inj e2).symm⟩
      obtain ⟨r, hir, hraH⟩ := paired_at ha2 hia
      have sb : Same H (upd Ha T (.tup [V.int (i : Nat), V.ref a])) := same_tr sa (same_new hT)
      refine ⟨T, _, rfl, SqT.of upd_same, rfl, _, _, rfl, _, _, rfl, rfl, ?_⟩
      have lenE : (V.int ((as.map V.ref).length : Nat)) = V.int (rs.length : Nat) := by rw [List.length_map, asl]
      refine ⟨_, rfl, _, rfl, l, _, rfl, .inl (SqL.of (sb _ _ ha1)), a, r, rs.length, cells, congrArg (fun z => [V.ref a, z]) lenE, hraH.mono (fun b xs x => sb _ _ x) (fun b xs x => sb _ _ x), rok r (List.mem_of_getElem? hir), nok, fun H3 s3 => ⟨true, rfl, iteF ?_⟩⟩
      have sc := same_tr sb s3
      refine ⟨_, rfl, rfl, _, rfl, ?_⟩
      by_cases i0 : i = 0
      · subst i0
        rw [h0] at hir
        cases hir
        refine ite_yes (decide_eq_true rfl) ?_
        refine ⟨_, rfl, a, _, _, _, rfl, rfl, SqT.of (sc _ _ hraH), rfl, rfl, _, rfl, ite_no (not_dec rfl) ?_⟩
        exact ⟨_, _, rfl, sc⟩
      · refine ite_no (decide_eq_false fun z => i0 ?_) (iteF ?_)
        · injection z with z
          omega
        · exact ⟨_, _, rfl, sc⟩
    · rintro σ Ha ⟨v1, v2, rfl, sa⟩
      refine ⟨_, rfl, l, _, rfl, .inl (SqL.of (sa _ _ ha1)), _, _, rfl, rfl, _, rfl, ite_yes (decide_eq_true (by rw [List.length_map, asl]; omega)) ?_⟩
      refine ⟨_, _, rfl, rfl, _, rfl, ite_yes (decide_eq_true (by rw [List.length_map, asl]; omega)) ?_⟩
      exact k _ sa
end
end CC

set_option Elab.async false
set_option maxRecDepth 100000
/-! ### a set of tuples: empty, add, in -/
namespace CC
open PySem PySem.Spec PyProof.Rows L2
set_option linter.unusedVariables false
section
variable {P : Program} {w : World} {A : Around} {E : Value → Shared → Prop} {s : Shared}
variable {a : Addr} {L : List (Addr × List Int)} {es : Array (Int × Value)} {ep : Nat} {t : SetTable}
theorem nth_dummy (m : Nat) : ∀ (n : Nat) (p : SetTable.Probe), p.dummy = none → (nth m p n).dummy = none
  | 0, _, h => h
  | n + 1, p, h => by
    have h2 : (adv m p).dummy = none := by
      unfold adv
      split <;> exact h
    exact nth_dummy m n (adv m p) h2
theorem find_from (R : SetTR P w s.heap a L es ep t) {x : Addr} {k : List Int} (hx : IsT P w s.heap k x) (hu : A.units < cLine) {B : SetTable.Probe} (hB : B = runAt t.mask (SetTable.bits (thash P w k) % (t.mask + 1)) (SetTable.bits (thash P w k)))
    {K : Nat} (hKf : K < 10 * SetTable.turns t.mask) (hK : (nth t.mask B K).j ∉ t.place.toList) (hKb : ∀ c, c < K → (nth t.mask B c).j ∈ t.place.toList) {Q : SetFound → Shared → Prop}
    (hin : ∀ i, k ∈ L.map (·.2) → Q (.there (some i)) s) (hout : ∀ j, k ∉ L.map (·.2) → Q (.free j false) s) :
    ∀ (f c : Nat) (stand : Option SetTable.Probe), stand.getD (t.probeStart (thash P w k)) = nth t.mask B c → c ≤ K → K - c < f →
      (∀ (i : Nat) p, L[i]? = some p → p.2 = k → ∃ c', c ≤ c' ∧ c' < K ∧ t.place.toList[i]? = some (nth t.mask B c').j) →
      wpAny (model P w) A (setSearchFrom a (.ref x) (thash P w k) false f stand) Q E s
  | 0, c, stand, _, _, hf, _ => absurd hf (Nat.not_lt_zero _)
  | f + 1, c, stand, hst, hc, hf, hre => by
    obtain ⟨o, ho, hex, hd⟩ := R.ob
    have stt := fun {α : Type} => R.fits
    rw [setSearchFrom_succ]
    refine wpAny_bind (wpAny_setState_of ho hd R.fits ?_)
    dsimp only
    refine wp_if_neg R.gw ?_
    try refine wpAny_bind (wpAny_pure ?_)
    have nd : (nth t.mask B c).dummy = none := nth_dummy _ c B (by rw [hB]; rfl)
    have sh : ∀ q, nth t.mask (nth t.mask B c) q = nth t.mask B (c + q) := fun q => (nth_add t.mask c _ q).symm
    have hashAt : ∀ (i : Nat) p, L[i]? = some p → (es[i]?.map (·.1)).getD 0 = thash P w p.2 := fun i p hp => by rw [R.entry hp] <;> rfl
    have spec := go_spec t R.tab.ris R.tab.dm (fun i => (es[i]?.map (·.1)).getD 0) (thash P w k) (10 * SetTable.turns t.mask) (K - c) (nth t.mask B c) nd (by omega)
      (fun q hq => by rw [sh]; exact hKb (c + q) (by omega)) (by rw [sh, Nat.add_sub_cancel' hc]; exact hK)
    have never : ∀ q, (∀ (c' i' : Nat), c' < q → t.place.toList[i']? = some (nth t.mask (nth t.mask B c) c').j → (fun i => (es[i]?.map (·.1)).getD 0) i' ≠ thash P w k) →
        ∀ (i0 : Nat) p0, L[i0]? = some p0 → p0.2 = k → ∀ c', c ≤ c' → c' < c + q → t.place.toList[i0]? ≠ some (nth t.mask B c').j := fun q hno i0 p0 h0 hk0 c' h1 h2 e => by
      refine hno (c' - c) i0 (by omega) (by rw [sh, Nat.add_sub_cancel' h1]; exact e) ?_
      exact (hashAt i0 p0 h0).trans (congrArg (thash P w) hk0)
    rcases spec with ⟨q, i, hq, hi, hh, hno, hpr⟩ | ⟨hno, hpr⟩
    · rw [hst]
      have hpr2 := hpr
      rw [show t.probe (fun i => (es[i]?.map (·.1)).getD 0) (thash P w k) (nth t.mask B c) = _ from hpr2]
      dsimp only
      have hi2 : t.place.toList[i]? = some (nth t.mask B (c + q)).j := by rw [← sh]; exact hi
      have hil : i < L.length := by
        have h1 : i < t.place.toList.length := (List.getElem?_eq_some_iff.mp hi).1
        have h2 := R.tab.sz
        rw [List.length_map] at h2
        rw [Array.length_toList] at h1
        omega
      obtain ⟨p, hp⟩ : ∃ p, L[i]? = some p := ⟨_, List.getElem?_eq_getElem hil⟩
      have hmem := List.mem_of_getElem? hp
      have hpt := R.tup p hmem
      have hsl : t.slot (nth t.mask (nth t.mask B c) q).j = .live i := slot_live R.tab.ris hi
      have rest : wpAny (model P w) A (searchRest a (.ref x) (thash P w k) false f es t (nth t.mask (nth t.mask B c) q).j i (nth t.mask (nth t.mask B c) (q + 1))) Q E s := by
        unfold searchRest
        rw [R.entry hp]
        dsimp only
        refine wpAny_bind (wpAny_holding (wpAny_eqBool_tuple hu hpt hx (wpAny_bind (wpAny_setState_of ho hd R.fits ?_))))
        dsimp only
        refine wp_if_neg (by simp) ?_
        try refine wpAny_bind (wpAny_pure ?_)
        rw [sameMem]
        dsimp only
        simp only [if_true, hsl, R.entry hp]
        refine wpAny_bind (wpAny_isSame_ref_self (wpAny_bind (wpAny_pure ?_)))
        simp only [if_true]
        by_cases hkk : p.2 = k
        · exact wp_if_pos (by simp [hkk]) (wpAny_pure (hin i (List.mem_map.mpr ⟨p, hmem, hkk⟩)))
        · refine wp_if_neg (by simp [hkk]) ?_
          refine find_from R hx hu hB hKf hK hKb hin hout f (c + (q + 1)) _ (by rw [← sh]; rfl) (by omega) (by omega) fun i0 p0 h0 hk0 => ?_
          obtain ⟨c', a1, a2, a3⟩ := hre i0 p0 h0 hk0
          refine ⟨c', ?_, a2, a3⟩
          by_cases z : c' < c + q
          · exact absurd a3 (never q hno i0 p0 h0 hk0 c' a1 z)
          · by_cases y : c' = c + q
            · exfalso
              rw [y] at a3
              have s0 := slot_live R.tab.ris a3
              rw [← sh, hsl] at s0
              injection s0 with s0
              rw [← s0, hp] at h0
              cases Option.some.inj h0
              exact hkk hk0
            · omega
      by_cases hl : t.led = true
      · refine wp_if_neg (by simp [hl]) ?_
        try refine wpAny_bind (wpAny_pure ?_)
        exact rest
      · refine wp_if_pos (by simp [hl]) (wpAny_bind (seen_tup hx (fun y hy => ?_) (wp_if_neg (by decide) ?_)))
        · obtain ⟨e, he, ee⟩ := List.mem_map.mp hy
          have he2 : e ∈ es.toList := by
            have z : e ∈ es ∧ e.1 = thash P w k := by simpa using he
            simpa using z.1
          rw [R.rows] at he2
          obtain ⟨p2, hp2, e2⟩ := List.mem_map.mp he2
          exact ⟨p2.2, p2.1, by rw [← ee, ← e2], R.tup p2 hp2⟩
        · try refine wpAny_bind (wpAny_pure ?_)
          exact rest
    · rw [hst]
      rw [show t.probe (fun i => (es[i]?.map (·.1)).getD 0) (thash P w k) (nth t.mask B c) = _ from hpr]
      dsimp only
      refine wpAny_pure (hout _ fun hm => ?_)
      obtain ⟨p0, h0, hk0⟩ := List.mem_map.mp hm
      obtain ⟨i0, hi0, e0⟩ := List.getElem_of_mem h0
      have h00 : L[i0]? = some p0 := by rw [List.getElem?_eq_getElem hi0, e0]
      obtain ⟨c', a1, a2, a3⟩ := hre i0 p0 h00 hk0
      exact never (K - c) (fun c' i' h => hno c' i' h) i0 p0 h00 hk0 c' a1 (by omega) a3
end
end CC
namespace CC
open PySem PySem.Spec PyProof.Rows L2
set_option linter.unusedVariables false
section
variable {P : Program} {w : World} {A : Around} {E : Value → Shared → Prop} {s : Shared}
variable {a : Addr} {L : List (Addr × List Int)} {es : Array (Int × Value)} {ep : Nat} {t : SetTable}
theorem setO_typeIs (R : SetTR P w s.heap a L es ep t) : s.TypeIs (.ref a) "set" := by
  obtain ⟨o, ho, hex, hd⟩ := R.ob
  exact ⟨o, ho, hex.1⟩
theorem found_tup (R : SetTR P w s.heap a L es ep t) {x : Addr} {k : List Int} (hx : IsT P w s.heap k x) (hu : A.units < cLine) {Q : Option Nat → Shared → Prop}
    (h : ∀ r : Option Nat, r.isSome = decide (k ∈ L.map (·.2)) → Q r s) : wpAny (model P w) A (setFind a (.ref x) (thash P w k)) Q E s := by
  obtain ⟨o, ho, hex, hd⟩ := R.ob
  have hroom := R.room
  obtain ⟨K, hKf, hK, hKb⟩ := R.tab.first (by rw [List.length_map]; omega) (thash P w k)
  have hbig : K < 100000 := by
    have : 10 * SetTable.turns t.mask ≤ 1420 := by
      unfold SetTable.turns
      rcases R.tab.mok with e | e | e <;> omega
    omega
  unfold setFind
  rw [show (100000 : Nat) = 99999 + 1 from rfl]
  unfold setFindIn
  refine wpAny_bind (wpAny_setState_of ho hd R.fits ?_)
  dsimp only
  refine wp_if_neg (by simp [byScan, Value.scannable]) ?_
  try refine wpAny_bind (wpAny_pure ?_)
  unfold setSearch
  refine wpAny_bind (find_from R hx hu rfl hKf hK hKb (fun i hm => wpAny_pure (h _ ?_)) (fun j hm => wpAny_pure (h _ ?_)) 100000 0 none rfl (Nat.zero_le _) (by omega) fun i p hp hk => ?_)
  · rw [decide_eq_true hm]
    rfl
  · rw [decide_eq_false hm]
    rfl
  · have hi : (L.map fun p => thash P w p.2)[i]? = some (thash P w k) := by rw [List.getElem?_map, hp, ← hk] <;> rfl
    have hil : i < t.place.toList.length := by
      have h1 : i < L.length := (List.getElem?_eq_some_iff.mp hp).1
      have h2 := R.tab.sz
      rw [List.length_map] at h2
      rw [Array.length_toList]
      omega
    have hj := List.getElem?_eq_getElem hil
    obtain ⟨c, hc, e⟩ := R.tab.before hK hi hj
    exact ⟨c, Nat.zero_le _, hc, by rw [hj]; exact congrArg some e.symm⟩
theorem in_tups (R : SetTR P w s.heap a L es ep t) {x : Addr} {k : List Int} (hx : IsT P w s.heap k x) (hu : A.units + 8 < cLine) {Q : Value → Shared → Prop}
    (h : ∀ tk, Q (.bool (decide (k ∈ L.map (·.2)))) { s with toks := tk }) : wpAny (model P w) A (compareOp .In (.ref x) (.ref a)) Q E s := by
  have ty := setO_typeIs R
  show wpAny _ _ (do return .bool (← contains (.ref a) (.ref x))) Q E s
  refine wpAny_bind ?_
  unfold contains
  try with_reducible refine wpAny_holding ?_
  refine wpAny_bind (wpAny_specialOf ty F.slot_set_contains.lookup ?_)
  show wpAny _ _ (if (some (Value.builtin "set.__contains__") == some Value.none) = true then _ else _) _ E s
  rw [if_neg (by rw [beq_builtin_none]; exact Bool.false_ne_true)]
  refine wpAny_bind (wpAny_callSpecialUnlessNone?_slot (name := Str.ofString "__contains__") ty F.slot_set_contains (wpAny_call_entry F.slot_set_contains ty entry_set_contains ?_ (F.args_set_contains_2 _ _)))
  unfold Builtin.«frozenset.__contains__» Builtin.Frozenset.oneOther
  simp only [List.isEmpty_nil, bind_assoc]
  unfold Builtin.Frozenset.addrOf Builtin.Frozenset.withSetAsKey setContains
  refine wpAny_bind (wpAny_pure ?_)
  try dsimp only
  refine wpAny_bind (wpAny_pure ?_)
  try dsimp only
  refine wpAny_bind (wpAny_tryCatch (wpAny_holding (wpAny_bind (wpAny_pyHash_tuple (knd := intKind P w) (ks := k) ?_ hx ?_))))
  · show A.units + 1 < cLine
    omega
  · refine wpAny_bind (found_tup (s := { s with toks := s.toks + (k.length + 1) }) R hx ?_ fun r hr => ?_)
    · show A.units + 1 < cLine
      omega
    · refine wpAny_pure ?_
      show wpAny _ _ (ret (Value.bool r.isSome)) _ _ _
      rw [hr]
      exact wpAny_pure ⟨_, rfl, wpAny_truthy_bool (wpAny_pure (h _))⟩
theorem add_tup (R : SetTR P w s.heap a L es ep t) {x : Addr} {k : List Int} (hx : IsT P w s.heap k x) (hu : A.units + 8 < cLine) (few : L.length + 1 < 64) {Q : Value → Shared → Prop}
    (h : ∀ h' L' es' ep' t' tk, Heap.SameBut a s.heap h' → SetTR P w h' a L' es' ep' t' → (k ∈ L.map (·.2) → L' = L) → (k ∉ L.map (·.2) → L'.Perm ((x, k) :: L)) → Q .none { s with heap := h', toks := tk }) :
    wpAny (model P w) A (call (.builtin "set.add") [.ref a, .ref x]) Q E s := by
  have ty := setO_typeIs R
  refine wpAny_call_entry F.slot_set_add ty F.entry_set_add ?_ (F.args_set_add_2 _ _)
  unfold Builtin.«set.add» Builtin.Frozenset.oneOther
  simp only [List.isEmpty_nil, bind_assoc]
  unfold Builtin.Frozenset.addrOf setAdd
  refine wpAny_bind (wpAny_pure ?_)
  try dsimp only
  refine wpAny_bind (wpAny_pure ?_)
  try dsimp only
  refine wpAny_bind (wpAny_holding (wpAny_bind (wpAny_pyHash_tuple (knd := intKind P w) (ks := k) (by show A.units + 1 < cLine; omega) hx ?_)))
  refine add_at (s := { s with toks := s.toks + (k.length + 1) }) R hx (by show A.units + 1 < cLine; omega) few fun b h' L' es' ep' t' hsb R' c1 c2 => ?_
  show wpAny _ _ (ret Value.none) _ _ _
  exact wpAny_pure ⟨_, rfl, h h' L' es' ep' t' _ hsb R' c1 c2⟩
end
section
variable {X : Cx}
/-- set() that will hold tuples of ints -/
def rSet0T (P : Program) (w : World) : List V → Hp → VK → Prop := fun xs H Q => xs = [] ∧ ∀ p, H p = none → Q (.ref p) (upd H p (SetTO P w p []))
theorem cr_set0T : CallR X (.type "set") (rSet0T X.prog X.w) := by
  intro pins s σ H xs us Q I r h
  obtain ⟨rfl, q⟩ := h
  cases r
  refine setR_new fun _ => ?_
  have R := setTR_fresh (P := X.prog) (w := X.w) (h := s.heap.push { cls := .type "set", dict := none, data := .set #[] 0 (.fresh 0 0 (!X.w.params.followText "set-order")) }) (a := s.heap.objs.size) (Heap.get?_push_size _ rfl)
  exact ⟨.ref _, upd H s.heap.objs.size (SetTO X.prog X.w s.heap.objs.size []), I.laid (t' := s.toks) (fun b u e => Heap.get?_push_of_some _ e) (Nat.le_refl _) (setTO_new R.t0), rfl, q _ (I.hok.fresh (Nat.le_refl _))⟩
/-- t in s -/
def rInT (K : PySem.W.Frag) (P : Program) (w : World) : R2 := fun x y H Q => ∃ (t a : Addr) (k : List Int) (L : List (Addr × List Int)), x = .ref t ∧ y = .ref a ∧ H a = some (SetTO P w a L) ∧ (∀ p ∈ L, SqT K H p.1 (p.2.map V.int)) ∧ SqT K H t (k.map V.int) ∧ Q (.bl (decide (k ∈ L.map (·.2)))) H
theorem op_inT (hu : X.A.units + 8 < cLine) : OpR X (compareOp .In) (rInT X.K X.prog X.w) := by
  intro pins s σ H x y v u Q I rx ry h
  obtain ⟨t, a, k, L, rfl, rfl, ha, hL, ht, q⟩ := h
  cases rx
  cases ry
  have R0 : SetT0 X.prog X.w s.heap a L := (I.hok a _ ha).1
  obtain ⟨es, ep, tb, R⟩ := R0.full fun p hp => I.isT (hL p hp)
  exact in_tups R (I.isT ht) hu fun tk => ⟨.bl _, H, I.tok _, rfl, q⟩
/-- s.add(t) -/
def rAddT (K : PySem.W.Frag) (P : Program) (w : World) : V → List V → Hp → VK → Prop := fun x xs H Q => ∃ (t a : Addr) (k : List Int) (L : List (Addr × List Int)), x = .ref a ∧ xs = [.ref t] ∧ H a = some (SetTO P w a L) ∧ (∀ p ∈ L, SqT K H p.1 (p.2.map V.int)) ∧ SqT K H t (k.map V.int) ∧ L.length + 1 < 64 ∧
  ∀ L', (k ∈ L.map (·.2) → L' = L) → (k ∉ L.map (·.2) → L'.Perm ((t, k) :: L)) → Q .non (upd H a (SetTO P w a L'))
theorem mt_addT (hu : X.A.units + 8 < cLine) : MtR X "set.add" (rAddT X.K X.prog X.w) := by
  intro pins s σ H x xs v us Q I rx rxs h
  obtain ⟨t, a, k, L, rfl, rfl, ha, hL, ht, few, q⟩ := h
  cases rx
  cases rxs with
  | cons ry rt =>
    cases rt
    cases ry
    have R0 : SetT0 X.prog X.w s.heap a L := (I.hok a _ ha).1
    obtain ⟨es, ep, tb, R⟩ := R0.full fun p hp => I.isT (hL p hp)
    refine add_tup R (I.isT ht) hu few fun h' L' es' ep' t' tk sb R' c1 c2 => ?_
    have he : ∃ u, h'.get? a = some u := by
      obtain ⟨o, ho, _⟩ := R'.ob
      exact ⟨o, ho⟩
    exact ⟨.non, upd H a (SetTO X.prog X.w a L'), I.write (e := a) (t' := tk) (by rw [ha]; trivial) (.inl rfl) (fun b u hb hu => (sb.2 b hb).trans hu) he (setTO_new R'.t0), rfl, q L' c1 c2⟩
def tAddT (K : PySem.W.Frag) (P : Program) (w : World) (to : TE) (t : TA) : TE := fun σ H Q => to σ H fun x H1 => (∃ a L, x = V.ref a ∧ H1 a = some (SetTO P w a L) ∧ (∀ p ∈ L, SqT K H1 p.1 (p.2.map V.int))) ∧ t σ H1 fun xs H2 => rAddT K P w x xs H2 Q
end
end CC

set_option Elab.async false
set_option maxRecDepth 100000
namespace CC
open PySem PySem.Spec PyProof.Rows L2
set_option linter.unusedVariables false
section
variable {X : Cx} {o e : Expr} {es : List Expr} {to : TE} {t : TA} {apos cpos : Pos}
theorem pe_addT (hu : X.A.units + 8 < cLine) (ho : PE X o to) (ha : PA X (e :: es) t) (hbase : attributeBase o "add" X.env (eval o X.env) = eval o X.env := by rfl)
    (hfew : ((backTo cpos (starEach (e :: es) X.env)).all (fun x => !x.1) && (backToKw cpos (keywordEach [] X.env)).all (fun x => x.1.isSome) && decide ((e :: es).length + ([] : List Keyword).length + (if ([] : List Keyword).isEmpty then 0 else 1) < 30)) = true := by rfl)
    (hline : (apos.endLine == cpos.line) = true := by rfl)
    (hs : starEach (e :: es) X.env = (false, eval e X.env) :: starEach es X.env := by rfl)
    (hplain : (backTo cpos (starEach es X.env)).any (·.1) = false := by rfl) : PE X (.Call (.Attribute o "add" apos) (e :: es) [] cpos) (tAddT X.K X.prog X.w to t) := by
  refine ⟨fun pins s σ H Q I h => ?_⟩
  have go := ho.run pins s σ H _ I h
  refine wpAny_Call_method_late hbase hfew hline rfl (thn go fun v s1 ⟨x, H1, I1, r1, ⟨a, L, ex, hka, hL⟩, q1⟩ => ?_)
  subst ex
  have R0 : SetT0 X.prog X.w s1.heap a L := (I1.hok a _ hka).1
  obtain ⟨es0, ep0, tb0, R⟩ := R0.full fun p hp => I1.isT (hL p hp)
  cases r1
  have nodict : ∃ ob, s1.heap.get? a = some ob ∧ ob.dict = none := by
    obtain ⟨ob, hob, hex, _⟩ := R.ob
    exact ⟨ob, hob, hex.2.1⟩
  refine ⟨"set", "set.add", F.plainAttrs_set, F.slot_set_add, F.type_set_add, setO_typeIs R, ?_, ?_⟩
  · intro b e
    injection e with e
    rw [← e]
    exact nodict
  · have hA := ha.run cpos pins s1 σ H1 _ I1 q1
    rw [hs] at hA ⊢
    refine Calls.callWith_builtin (by show (false || (backTo cpos (starEach es X.env)).any (·.1)) = false; rw [hplain] <;> rfl) (Calls.evalArgs_plain (thn hA fun us s2 ⟨vs, H2, I2, r2, q2⟩ => ?_))
    exact mt_addT hu pins s2 σ H2 (.ref a) vs (.ref a) us Q I2 rfl r2 q2
end
section
variable {X : Cx} {K : PySem.W.Frag} {P : Program} {w : World} {o e : Expr} {es : List Expr} {to : TE} {t : TA} {apos cpos : Pos}
theorem cr_set0TK (e1 : X.prog = P) (e2 : X.w = w) : CallR X (.type "set") (rSet0T P w) := by
  subst e1 e2
  exact cr_set0T
theorem op_inTK (e0 : X.K = K) (e1 : X.prog = P) (e2 : X.w = w) (hu : X.A.units + 8 < cLine) : OpR X (compareOp .In) (rInT K P w) := by
  subst e0 e1 e2
  exact op_inT hu
theorem pe_addTK (e0 : X.K = K) (e1 : X.prog = P) (e2 : X.w = w) (hu : X.A.units + 8 < cLine) (ho : PE X o to) (ha : PA X (e :: es) t) (hbase : attributeBase o "add" X.env (eval o X.env) = eval o X.env := by rfl)
    (hfew : ((backTo cpos (starEach (e :: es) X.env)).all (fun x => !x.1) && (backToKw cpos (keywordEach [] X.env)).all (fun x => x.1.isSome) && decide ((e :: es).length + ([] : List Keyword).length + (if ([] : List Keyword).isEmpty then 0 else 1) < 30)) = true := by rfl)
    (hline : (apos.endLine == cpos.line) = true := by rfl)
    (hs : starEach (e :: es) X.env = (false, eval e X.env) :: starEach es X.env := by rfl)
    (hplain : (backTo cpos (starEach es X.env)).any (·.1) = false := by rfl) : PE X (.Call (.Attribute o "add" apos) (e :: es) [] cpos) (tAddT K P w to t) := by
  subst e0 e1 e2
  exact pe_addT hu ho ha hbase hfew hline hs hplain
end
end CC

set_option Elab.async false
set_option maxRecDepth 100000
namespace CC
open PySem L2
set_option linter.unusedVariables false
/-! ### ways: the mathematics -/
def nxt (rs : List Row) (p : Nat × Nat) : Option (List (Nat × Nat)) :=
  match rs[p.1]? with
  | none => none
  | some (.rest m) => if p.2 = 0 then none else some []
  | some (.ins m) => if p.2 + 1 > 1 then none else some [(m, p.2 + 1)]
  | some (.wr _ _ m) => some [(m, p.2)]
  | some (.rd _ cs m) => some ((cs.map (·.2) ++ [m]).map fun q => (q, p.2))
def ini (rs : List Row) (first : Nat) : List (Nat × Nat) :=
  match rs[first]? with
  | none => []
  | some r => r.fol.map fun q => (q, 0)
inductive Rch (rs : List Row) (S : List (Nat × Nat)) : Nat × Nat → Prop
  | base {p : Nat × Nat} : p ∈ S → Rch rs S p
  | step {p q : Nat × Nat} {qs : List (Nat × Nat)} : Rch rs S p → nxt rs p = some qs → q ∈ qs → Rch rs S q
/-- who begins at this row is inside once at most, and just once if it rests again -/
def Once (rs : List Row) (first : Nat) : Prop := ∀ p, Rch rs (ini rs first) p → nxt rs p ≠ none
theorem once_of {rs : List Row} {first : Nat} {M : List (Nat × Nat)} (h0 : ∀ p ∈ ini rs first, p ∈ M) (h1 : ∀ p ∈ M, ∃ qs, nxt rs p = some qs ∧ ∀ q ∈ qs, q ∈ M) : Once rs first := by
  intro p hp
  have key : p ∈ M := by
    induction hp with
    | base h => exact h0 _ h
    | step _ e hq ih =>
      obtain ⟨qs, e2, e3⟩ := h1 _ ih
      rw [e] at e2
      cases e2
      exact e3 _ hq
  obtain ⟨qs, e, _⟩ := h1 p key
  rw [e]
  intro z
  cases z
theorem Row.fol_low {n : Nat} {r : Row} (h : r.low n) : ∀ q ∈ r.fol, q < n := by
  intro q hq
  cases r with
  | rest m =>
    cases hq with
    | head => exact h
    | tail _ hq => cases hq
  | ins m =>
    cases hq with
    | head => exact h
    | tail _ hq => cases hq
  | wr c v m =>
    cases hq with
    | head => exact h
    | tail _ hq => cases hq
  | rd c cs m =>
    rcases List.mem_append.mp hq with m1 | m1
    · obtain ⟨kv, hkv, rfl⟩ := List.mem_map.mp m1
      exact h.2.1 kv hkv
    · cases m1 with
      | head => exact h.2.2.1
      | tail _ m1 => cases m1
theorem Row.fol_len {n : Nat} {r : Row} (h : r.low n) : r.fol.length ≤ 11 := by
  cases r with
  | rest m => exact Nat.le_of_ble_eq_true rfl
  | ins m => exact Nat.le_of_ble_eq_true rfl
  | wr c v m => exact Nat.le_of_ble_eq_true rfl
  | rd c cs m =>
    show (cs.map (·.2) ++ [m]).length ≤ 11
    rw [List.length_append, List.length_map]
    have := h.2.2.2
    show cs.length + 1 ≤ 11
    omega
def enc (p : Nat × Nat) : List Int := [(p.1 : Int), (p.2 : Int)]
theorem enc_inj {p q : Nat × Nat} (h : enc p = enc q) : p = q := by
  unfold enc at h
  injection h with h1 h2
  injection h2 with h2 _
  obtain ⟨a, b⟩ := p
  obtain ⟨c, d⟩ := q
  simp only at h1 h2
  have : a = c := by omega
  have : b = d := by omega
  simp_all
theorem few_places {M : List (Nat × Nat)} (nd : M.Nodup) (h : ∀ p ∈ M, p.1 < 30 ∧ p.2 ≤ 1) : M.length ≤ 60 := by
  have nd2 : (M.map fun p => 2 * p.1 + p.2).Nodup := by
    refine List.pairwise_map.mpr ?_
    refine List.Pairwise.imp_of_mem (fun {p q} hp hq ne e => ne ?_) nd
    have h1 := h p hp
    have h2 := h q hq
    obtain ⟨a, b⟩ := p
    obtain ⟨c, d⟩ := q
    simp only at h1 h2 e
    have : a = c := by omega
    have : b = d := by omega
    simp_all
  have := L2.nat_nodup_len (M.map fun p => 2 * p.1 + p.2) (List.range 60) nd2 (fun x hx => by
    obtain ⟨p, hp, rfl⟩ := List.mem_map.mp hx
    have := h p hp
    exact List.mem_range.mpr (by omega))
  rw [List.length_map, List.length_range] at this
  exact this
theorem paired_app {α β : Type} {F : α → β → Prop} : ∀ {l : List α} {m : List β} {l2 : List α} {m2 : List β}, Paired F l m → Paired F l2 m2 → Paired F (l ++ l2) (m ++ m2)
  | _, _, _, _, .nil, h => h
  | _, _, _, _, .cons h t, r => .cons h (paired_app t r)
theorem snoc_cases {α : Type} (l : List α) : l = [] ∨ ∃ (r : List α) (t : α), l = r ++ [t] := by
  rcases List.eq_nil_or_concat l with h | ⟨r, t, h⟩
  · exact .inl h
  · exact .inr ⟨r, t, by rw [h, List.concat_eq_append]⟩
theorem paired_last {α β : Type} {F : α → β → Prop} {t : α} : ∀ {l : List α} {m : List β}, Paired F (l ++ [t]) m → ∃ (m' : List β) (p : β), m = m' ++ [p] ∧ Paired F l m' ∧ F t p
  | [], _, .cons h .nil => ⟨[], _, rfl, .nil, h⟩
  | a :: l, _, .cons h r => by
    obtain ⟨m', p, e, r1, r2⟩ := paired_last r
    exact ⟨_ :: m', p, by rw [e]; rfl, .cons h r1, r2⟩
def spIsOnce : Sp := fun vs H Q _ => ∃ (T : Addr) (as : List Addr) (rs : List Row) (first : Nat), vs = [.ref T, .int (first : Nat)] ∧ H T = some (.tup (as.map V.ref)) ∧ Paired (fun a r => RowAt H r a) as rs ∧ (∀ r ∈ rs, r.low rs.length) ∧ rs.length ≤ 30 ∧ first < rs.length ∧
  ∀ (b : Bool) (H' : Hp), Same H H' → (b = true ↔ Once rs first) → Q (.bl b) H'
section
variable {P : Program} {w : World} {K : PySem.W.Frag} {mg : Str → Option Value} {base : Heap}
theorem scIsOnce : FnScope ["rows", "first", "met", "ahead", "place", "number", "times", "row", "follower"] ["rows", "first"] (defScope sIsOnce) := ⟨rfl, rfl, rfl, by decide +kernel, rfl, by decide +kernel, by decide +kernel⟩
theorem ok_isonce {f fF : Addr} {fd fdF : FuncData} (F : Fun K "is_once" "is_once" sIsOnce f fd)
    (GF : FnOk P w K mg base CX0 1 fF fdF ["row"] spFollowers) (mF : mg "followers" = some (.ref fF)) (kF : PySem.W.keepIn K (.ref fF) = true) (bF : Binds K fdF ["row"] []) (ts : mg "set" = none) :
    FnOk P w K mg base CX0 2 f fd ["rows", "first"] spIsOnce := by
  refine F.ok scIsOnce (fun vs H Q E h => ?_) (fun cdv A outer s H vs Q E hr h => ?_)
  · obtain ⟨T, as, rs, first, rfl, _⟩ := h
    rfl
  · obtain ⟨T, as, rs, first, rfl, hT, hrows, low, n30, fl, k⟩ := h
    have hu := hu_of hr
    have h8 := Nat.lt_of_le_of_lt (Nat.add_le_add_left (by decide : 8 ≤ 64) _) hr.units
    refine ⟨_, pss_cons (ps_set (i := 2) scIsOnce.nd rfl (Or.inl rfl) (pe_callTy0 (cr_set0TK (P := P) (w := w) rfl rfl) (by rfl) ts (by decide +kernel)))
      (pss_cons (ps_setLc (i := 3) (own := [("number", 5)]) (g := gName 5) (by rfl) scIsOnce.nd rfl rfl (sw_true rfl rfl rfl (by decide +kernel)) (pi_list (pe_call GF hr rfl mF kF bF .nil pass0 (pa_cons (pe_ix ix_tup (pv 0) (pv 1) (fun _ _ => rfl)) pa_nil))) (blkOk_by (own := [("number", 5)]) (N := ["rows", "first", "met", "ahead", "place", "number", "times", "row", "follower"]) (sc := defScope sIsOnce) (by decide +kernel)) (fun _ _ _ _ _ => pg_name (i := 5) scIsOnce.nd rfl (Or.inl rfl)) (fun _ _ _ _ _ => pts_nil) (fun _ _ _ _ _ => pe_tup (pa_cons (pv 5) (pa_cons pe_int pa_nil))))
      (pss_cons (ps_while PassesOwn.never (pt_truth (pv 3) (by intro _; rfl))
        (pss_cons (ps_set (i := 4) scIsOnce.nd rfl (Or.inl rfl) (pe_bm0 PySem.F.plainAttrs_list PySem.F.slot_list_pop PySem.F.type_list_pop mt_pop (pv 3)))
        (pss_cons (ps_if (pt_cmpR (op_inTK (K := K) (P := P) (w := w) rfl rfl rfl h8) (pv 4) (pv 2) (by rfl)) (pss_one ps_continue) pss_nil)
        (pss_cons (ps_expr (pe_addTK (K := K) (P := P) (w := w) rfl rfl rfl h8 (pv 2) (pa_cons (pv 4) pa_nil)))
        (pss_cons (ps_asg (pv 4) (pg_tup (by rfl) (pgs_cons (pg_name (i := 5) scIsOnce.nd rfl (Or.inl rfl)) (pgs_cons (pg_name (i := 6) scIsOnce.nd rfl (Or.inr rfl)) pgs_nil))))
        (pss_cons (ps_set (i := 7) scIsOnce.nd rfl (Or.inl rfl) (pe_ix ix_tup (pv 0) (pv 5) (fun _ _ => rfl)))
        (pss_cons (ps_if (pt_cmpR op_eq (pe_ix ix_tup (pv 7) pe_int (fun _ _ => rfl)) pe_str (nomark _)) (pss_cons (ps_if (pt_cmpR op_eq (pv 6) pe_int (nomark _)) (pss_one (ps_ret pe_bl)) pss_nil) (pss_one ps_continue)) pss_nil)
        (pss_cons (ps_if (pt_cmpR op_eq (pe_ix ix_tup (pv 7) pe_int (fun _ _ => rfl)) pe_str (nomark _)) (pss_cons (ps_aug (i := 6) scIsOnce.nd rfl (Or.inr rfl) pe_int ip_add) (pss_one (ps_if (pt_cmpR op_gt (pv 6) pe_int (nomark _)) (pss_one (ps_ret pe_bl)) pss_nil))) pss_nil)
        (pss_one (ps_expr (pe_bm PySem.F.plainAttrs_list PySem.F.slot_list_extend PySem.F.type_list_extend mt_extend (pv 3) (pa_cons
          (pe_lc (own := [("follower", 8)]) (g := gName 8) (by rfl) scIsOnce.nd (pi_list (pe_call GF hr rfl mF kF bF .nil pass0 (pa_cons (pv 7) pa_nil))) (blkOk_by (own := [("follower", 8)]) (N := ["rows", "first", "met", "ahead", "place", "number", "times", "row", "follower"]) (sc := defScope sIsOnce) (by decide +kernel)) (fun _ _ _ _ _ => pg_name (i := 8) scIsOnce.nd rfl (Or.inl rfl)) (fun _ _ _ _ _ => pts_nil) (fun _ _ _ _ _ => pe_tup (pa_cons (pv 8) (pa_cons (pv 6) pa_nil)))) pa_nil))))))))))))
      (pss_one (ps_ret pe_bl)))), ?_⟩
    refine ⟨rfl, fun met hmet => ?_⟩
    have s1 : Same H (upd H met (SetTO P w met [])) := same_new hmet
    have m1 : (upd H met (SetTO P w met [])) met = some (SetTO P w met []) := upd_same
    revert s1 m1
    generalize (upd H met (SetTO P w met [])) = H1
    intro s1 m1
    obtain ⟨r0, hr0⟩ : ∃ r, rs[first]? = some r := ⟨_, List.getElem?_eq_getElem fl⟩
    have asl : as.length = rs.length := hrows.length
    have row_at : ∀ i r, rs[i]? = some r → ∃ a, as[i]? = some a ∧ RowAt H r a := fun i r hi => by
      have il : i < as.length := by rw [asl]; exact (List.getElem?_eq_some_iff.mp hi).1
      obtain ⟨b, hb, x⟩ := paired_at hrows (List.getElem?_eq_getElem il)
      rw [hi] at hb
      cases hb
      exact ⟨_, List.getElem?_eq_getElem il, x⟩
    obtain ⟨a0, ha0, hra0⟩ := row_at first r0 hr0
    have low0 := low r0 (List.mem_of_getElem? hr0)
    refine ⟨_, rfl, _, rfl, T, _, _, _, rfl, rfl, SqT.of (s1 _ _ hT), atI_nat (by rw [List.getElem?_map, ha0]; rfl), a0, r0, rs.length, rfl, hra0.mono (fun b xs x => s1 _ _ x) (fun b xs x => s1 _ _ x), low0, fun l0 H2 s2 hl0 hl2 => ?_⟩
    have in_low : ∀ q ∈ ini rs first, q.1 < rs.length ∧ q.2 ≤ 1 := fun q hq => by
      unfold ini at hq
      rw [hr0] at hq
      obtain ⟨z, hz, rfl⟩ := List.mem_map.mp hq
      exact ⟨Row.fol_low low0 z hz, Nat.zero_le _⟩
    refine ⟨l0, rfl, ⟨_, SqL.of hl2⟩, fun D hD => ?_⟩
    refine lc_list (K := K) (a := l0) (xs := r0.fol.map fun (m : Nat) => V.int (m : Nat)) (fun i H3 => ∃ ts : List Addr, H3 D = some (.lst (ts.map V.ref)) ∧ Paired (fun t (p : Nat × Nat) => H3 t = some (.tup [V.int (p.1 : Nat), V.int (p.2 : Nat)])) ts ((r0.fol.take i).map fun q => (q, 0)) ∧ Same H2 H3)
      ⟨[], upd_same, .nil, same_new hD⟩ (fun i H3 _ ⟨_, _, _, e⟩ => SqL.of (e _ _ hl2)) ?_ ?_
    · rintro i y H3 hi ⟨us, hD3, hp3, s3⟩
      rw [List.getElem?_map] at hi
      obtain ⟨z, hz, rfl⟩ : ∃ z : Nat, r0.fol[i]? = some z ∧ y = V.int (z : Nat) := by
        cases e : r0.fol[i]? with
        | none =>
          rw [e] at hi
          cases hi
        | some z =>
          rw [e] at hi
          exact ⟨z, rfl, (Option.some.inj hi).symm⟩
      have ul : us.length ≤ 11 := by
        have h1 := hp3.length
        have h2 := Row.fol_len low0
        rw [List.length_map, List.length_take] at h1
        omega
      refine ⟨rfl, tyes_if ?_⟩
      refine ⟨_, rfl, (by show 2 ≤ sizeLine; decide), fun t1 ht1 => ?_⟩
      have ntD : D ≠ t1 := ne_of_none hD3 ht1
      refine ⟨us.map V.ref, by rw [upd_ne ntD]; exact hD3, small (by rw [List.length_map]; omega), us ++ [t1], ?_, ?_, same_put (same_tr s3 (same_new ht1)) hD⟩
      · rw [upd_same, List.map_append]
        rfl
      · have tk : r0.fol.take (i + 1) = r0.fol.take i ++ [z] := by rw [List.take_add_one, hz]; rfl
        rw [tk, List.map_append]
        refine Paired.snoc (L2.Paired.mapP hp3 fun b p hb => ?_) ?_
        · rw [upd_ne (ne_of hb hD3 (by intro z; cases z)), upd_ne (ne_of_none hb ht1)]
          exact hb
        · rw [upd_ne ntD.symm, upd_same]
          rfl
    · rintro H3 ⟨ts0, hD3, hp3, s3⟩
      rw [List.length_map, List.take_length] at hp3
      have e0 : (r0.fol.map fun q => (q, 0)) = ini rs first := by
        unfold ini
        rw [hr0]
      rw [e0] at hp3
      have hD0 : H D = none := (same_tr s1 s2).free hD
      have nmD : met ≠ D := fun z => by
        rw [z] at m1
        have := s2 _ _ m1
        rw [hD] at this
        cases this
      have il : (ini rs first).length ≤ 11 := by
        rw [← e0, List.length_map]
        exact Row.fol_len low0
      refine ⟨fun m σ H' => ∃ (M : List (Addr × List Int)) (PM A : List (Nat × Nat)) (ts : List Addr) (v4 v5 v6 v7 : Option V), σ = [some (.ref T), some (.int (first : Nat)), some (.ref met), some (.ref D), v4, v5, v6, v7, none] ∧ H' met = some (SetTO P w met M) ∧ (∀ p ∈ M, H' p.1 = some (.tup (p.2.map V.int))) ∧ H' D = some (.lst (ts.map V.ref)) ∧
          Paired (fun t (p : Nat × Nat) => H' t = some (.tup [V.int (p.1 : Nat), V.int (p.2 : Nat)])) ts A ∧ (M.length = PM.length ∧ (∀ p, enc p ∈ M.map (·.2) ↔ p ∈ PM) ∧ PM.Nodup) ∧ (∀ p ∈ PM, p.1 < rs.length ∧ p.2 ≤ 1 ∧ ∃ qs, nxt rs p = some qs ∧ ∀ q ∈ qs, q ∈ PM ∨ q ∈ A) ∧
          (∀ p ∈ A, p.1 < rs.length ∧ p.2 ≤ 1 ∧ Rch rs (ini rs first) p) ∧ (∀ p ∈ ini rs first, p ∈ PM ∨ p ∈ A) ∧ Same H H' ∧ A.length ≤ 12 * (PM.length + 1) ∧ m = 12 * (100 - PM.length) + A.length,
        ⟨_, [], [], ini rs first, ts0, none, none, none, none, rfl, s3 _ _ (s2 _ _ m1), (fun p h => nomatch h), hD3, hp3, ⟨rfl, fun p => ⟨(fun h => nomatch h), (fun h => nomatch h)⟩, List.nodup_nil⟩, (fun p h => nomatch h), fun p hp => ⟨(in_low p hp).1, (in_low p hp).2, .base hp⟩, fun p hp => .inr hp, same_tr s1 (same_tr s2 s3), by omega, rfl⟩, ?_⟩
      rintro m σ H' ⟨M, PM, A, ts, v4, v5, v6, v7, rfl, hM, tM, hA, pA, ⟨ml, mm, mnd⟩, cl, rA, iA, sH, Al, rfl⟩
      refine ⟨_, rfl, _, .inl ⟨_, SqL.of hA, rfl⟩, ?_⟩
      have PMl : PM.length ≤ 60 := few_places mnd fun p hp => ⟨by have := (cl p hp).1; omega, (cl p hp).2.1⟩
      rcases snoc_cases ts with rfl | ⟨ts', t, rfl⟩
      · have A0 : A = [] := by
          cases pA
          rfl
        subst A0
        refine ite_no rfl ?_
        refine k true H' sH ⟨fun _ => ?_, fun _ => rfl⟩
        refine once_of (M := PM) (fun p hp => ?_) fun p hp => ?_
        · rcases iA p hp with h | h
          · exact h
          · cases h
        · obtain ⟨_, _, qs, e1, e2⟩ := cl p hp
          refine ⟨qs, e1, fun q hq => ?_⟩
          rcases e2 q hq with h | h
          · exact h
          · cases h
      · obtain ⟨A', p, rfl, pA', hp⟩ : ∃ (A' : List (Nat × Nat)) (p : Nat × Nat), A = A' ++ [p] ∧ Paired (fun t (p : Nat × Nat) => H' t = some (.tup [V.int (p.1 : Nat), V.int (p.2 : Nat)])) ts' A' ∧ H' t = some (.tup [V.int (p.1 : Nat), V.int (p.2 : Nat)]) := paired_last pA
        obtain ⟨pl, pt, pr⟩ := rA p (List.mem_append_right _ (List.mem_cons_self ..))
        have rA' : ∀ q ∈ A', q.1 < rs.length ∧ q.2 ≤ 1 ∧ Rch rs (ini rs first) q := fun q hq => rA q (List.mem_append_left _ hq)
        have al' : (A' ++ [p]).length = A'.length + 1 := by rw [List.length_append]; rfl
        refine ite_yes (by rw [List.map_append]; cases ts' <;> rfl) ?_
        refine ⟨fun σ' H' => ∃ m', m' < 12 * (100 - PM.length) + (A' ++ [p]).length ∧ (∃ (M : List (Addr × List Int)) (PM A : List (Nat × Nat)) (ts : List Addr) (v4 v5 v6 v7 : Option V), σ' = [some (.ref T), some (.int (first : Nat)), some (.ref met), some (.ref D), v4, v5, v6, v7, none] ∧ H' met = some (SetTO P w met M) ∧ (∀ p ∈ M, H' p.1 = some (.tup (p.2.map V.int))) ∧ H' D = some (.lst (ts.map V.ref)) ∧
          Paired (fun t (p : Nat × Nat) => H' t = some (.tup [V.int (p.1 : Nat), V.int (p.2 : Nat)])) ts A ∧ (M.length = PM.length ∧ (∀ p, enc p ∈ M.map (·.2) ↔ p ∈ PM) ∧ PM.Nodup) ∧ (∀ p ∈ PM, p.1 < rs.length ∧ p.2 ≤ 1 ∧ ∃ qs, nxt rs p = some qs ∧ ∀ q ∈ qs, q ∈ PM ∨ q ∈ A) ∧
          (∀ p ∈ A, p.1 < rs.length ∧ p.2 ≤ 1 ∧ Rch rs (ini rs first) p) ∧ (∀ p ∈ ini rs first, p ∈ PM ∨ p ∈ A) ∧ Same H H' ∧ A.length ≤ 12 * (PM.length + 1) ∧ m' = 12 * (100 - PM.length) + A.length), fun σ' H' z => z, ?_⟩
        have lastE : ((ts' ++ [t]).map V.ref)[((ts' ++ [t]).map V.ref).length - 1]? = some (V.ref t) := by
          rw [List.map_append]
          show (ts'.map V.ref ++ [V.ref t])[(ts'.map V.ref ++ [V.ref t]).length - 1]? = _
          rw [List.length_append]
          simp
        have dropE : ((ts' ++ [t]).map V.ref).dropLast = ts'.map V.ref := by
          rw [List.map_append]
          exact List.dropLast_concat
        refine ⟨_, rfl, .inl ⟨rfl, _, Or.inl (Or.inl hA)⟩, D, _, V.ref t, rfl, rfl, hA, lastE, ?_⟩
        rw [dropE]
        have s4 : Same H (upd H' D (.lst (ts'.map V.ref))) := same_put sH hD0
        have nmet : met ≠ D := nmD
        have M4 : (upd H' D (.lst (ts'.map V.ref))) met = some (SetTO P w met M) := by
          rw [upd_ne nmet]
          exact hM
        have T4 : ∀ b xs, H' b = some (.tup xs) → (upd H' D (.lst (ts'.map V.ref))) b = some (.tup xs) := fun b xs e => by
          rw [upd_ne (ne_of e hA (by intro z; cases z))]
          exact e
        have D4 : (upd H' D (.lst (ts'.map V.ref))) D = some (.lst (ts'.map V.ref)) := upd_same
        revert s4 M4 T4 D4
        generalize (upd H' D (.lst (ts'.map V.ref))) = H4
        intro s4 M4 T4 D4
        have tM4 := fun q hq => T4 _ _ (tM q hq)
        have hp4 : H4 t = some (.tup ((enc p).map V.int)) := T4 _ _ hp
        have pA4 := L2.Paired.mapP pA' fun b q hb => T4 _ _ hb
        refine ⟨_, rfl, _, rfl, t, met, enc p, M, rfl, rfl, M4, (fun q hq => SqT.of (tM4 q hq)), SqT.of hp4, _, rfl, ?_⟩
        by_cases pin : enc p ∈ M.map (·.2)
        · have pin' := (mm p).mp pin
          have repl : ∀ q, q ∈ PM ∨ q ∈ A' ++ [p] → q ∈ PM ∨ q ∈ A' := fun q h => by
            rcases h with h | h
            · exact .inl h
            · rcases List.mem_append.mp h with h | h
              · exact .inr h
              · cases h with
                | head => exact .inl pin'
                | tail _ h => cases h
          refine ite_yes (decide_eq_true pin) ?_
          refine ⟨12 * (100 - PM.length) + A'.length, by omega, M, PM, A', ts', _, v5, v6, v7, rfl, M4, tM4, D4, pA4, ⟨ml, mm, mnd⟩, fun q hq => ?_, rA', fun q hq => repl q (iA q hq), s4, by omega, rfl⟩
          obtain ⟨c1, c2, qs, c3, c4⟩ := cl q hq
          exact ⟨c1, c2, qs, c3, fun z hz => repl z (c4 z hz)⟩
        · have pout : p ∉ PM := fun z => pin ((mm p).mpr z)
          refine ite_no (decide_eq_false pin) ?_
          refine ⟨_, rfl, ⟨met, M, rfl, M4, fun q hq => SqT.of (tM4 q hq)⟩, _, rfl, t, met, enc p, M, rfl, rfl, M4, (fun q hq => SqT.of (tM4 q hq)), SqT.of hp4, by omega, fun L' _ c2 => ?_⟩
          have perm := c2 pin
          have nmet2 : ∀ b xs, H4 b = some (.tup xs) → b ≠ met := fun b xs e z => by
            rw [z, M4] at e
            cases e
          have s5 : Same H (upd H4 met (SetTO P w met L')) := same_put s4 hmet
          have M5 : (upd H4 met (SetTO P w met L')) met = some (SetTO P w met L') := upd_same
          have T5 : ∀ b xs, H4 b = some (.tup xs) → (upd H4 met (SetTO P w met L')) b = some (.tup xs) := fun b xs e => by
            rw [upd_ne (nmet2 b xs e)]
            exact e
          have D5 : (upd H4 met (SetTO P w met L')) D = some (.lst (ts'.map V.ref)) := by
            rw [upd_ne nmet.symm]
            exact D4
          revert s5 M5 T5 D5
          generalize (upd H4 met (SetTO P w met L')) = H5
          intro s5 M5 T5 D5
          have tM5 : ∀ q ∈ L', H5 q.1 = some (.tup (q.2.map V.int)) := fun q hq => by
            rcases List.mem_cons.mp (perm.mem_iff.mp hq) with h | h
            · rw [h]
              exact T5 _ _ hp4
            · exact T5 _ _ (tM4 q h)
          have pA5 := L2.Paired.mapP pA4 fun b q hb => T5 _ _ hb
          have ml5 : L'.length = (p :: PM).length := by rw [perm.length_eq, List.length_cons, List.length_cons, ml]
          have mm5 : ∀ q, enc q ∈ L'.map (·.2) ↔ q ∈ p :: PM := fun q => by
            rw [(perm.map (·.2)).mem_iff, List.map_cons, List.mem_cons, List.mem_cons, mm q]
            exact ⟨fun h => h.imp enc_inj id, fun h => h.imp (fun e => by rw [e]) id⟩
          have mnd5 : (p :: PM).Nodup := List.nodup_cons.mpr ⟨pout, mnd⟩
          have PMl5 : (p :: PM).length = PM.length + 1 := rfl
          have clo : ∀ (qs A2 : List (Nat × Nat)), nxt rs p = some qs → (∀ q ∈ qs, q ∈ A2) → (∀ q ∈ A', q ∈ A2) → (∀ q ∈ p :: PM, q.1 < rs.length ∧ q.2 ≤ 1 ∧ ∃ qs, nxt rs q = some qs ∧ ∀ z ∈ qs, z ∈ p :: PM ∨ z ∈ A2) ∧ (∀ q ∈ ini rs first, q ∈ p :: PM ∨ q ∈ A2) := by
            intro qs A2 e1 e2 e3
            have mv : ∀ z, z ∈ PM ∨ z ∈ A' ++ [p] → z ∈ p :: PM ∨ z ∈ A2 := fun z h => by
              rcases h with h | h
              · exact .inl (List.mem_cons_of_mem _ h)
              · rcases List.mem_append.mp h with h | h
                · exact .inr (e3 z h)
                · cases h with
                  | head => exact .inl (List.mem_cons_self ..)
                  | tail _ h => cases h
            refine ⟨fun q hq => ?_, fun q hq => mv q (iA q hq)⟩
            rcases List.mem_cons.mp hq with h | h
            · rw [h]
              exact ⟨pl, pt, qs, e1, fun z hz => .inr (e2 z hz)⟩
            · obtain ⟨c1, c2, qs2, c3, c4⟩ := cl q h
              exact ⟨c1, c2, qs2, c3, fun z hz => mv z (c4 z hz)⟩
          obtain ⟨r, hr⟩ : ∃ r, rs[p.1]? = some r := ⟨_, List.getElem?_eq_getElem pl⟩
          obtain ⟨a, hia, hra⟩ := row_at p.1 r hr
          have rlow := low r (List.mem_of_getElem? hr)
          have ra5 : RowAt H5 r a := hra.mono (fun b xs x => s5 _ _ x) fun b xs x => s5 _ _ x
          refine ⟨_, rfl, t, _, rfl, SqT.of (T5 _ _ hp4), rfl, _, _, rfl, _, _, rfl, rfl, ?_⟩
          refine ⟨_, rfl, _, rfl, T, _, _, _, rfl, rfl, SqT.of (s5 _ _ hT), atI_nat (by rw [List.getElem?_map, hia]; rfl), ?_⟩
          cases r with
          | rest mm0 =>
            refine ⟨_, rfl, a, _, _, _, rfl, rfl, SqT.of ra5, rfl, rfl, _, rfl, ite_yes (decide_eq_true rfl) ?_⟩
            by_cases z0 : p.2 = 0
            · refine ⟨_, rfl, rfl, _, rfl, ite_yes (decide_eq_true (by rw [z0]; rfl)) ?_⟩
              refine k false H5 s5 ⟨(fun z => nomatch z), fun o => absurd ?_ (o p pr)⟩
              unfold nxt
              rw [hr]
              exact if_pos z0
            · refine ⟨_, rfl, rfl, _, rfl, ite_no (decide_eq_false (fun z => z0 (by injection z with z; omega))) ?_⟩
              have nx0 : nxt rs p = some [] := by
                unfold nxt
                rw [hr]
                exact if_neg z0
              refine ⟨12 * (100 - (PM.length + 1)) + A'.length, by omega, L', p :: PM, A', ts', _, _, _, _, rfl, M5, tM5, D5, pA5, ⟨ml5, mm5, mnd5⟩, (clo [] A' nx0 (fun _ h => nomatch h) (fun _ h => h)).1, rA', (clo [] A' nx0 (fun _ h => nomatch h) (fun _ h => h)).2, s5, by rw [PMl5]; omega, by rw [PMl5]⟩
          | ins mm0 =>
            refine ⟨_, rfl, a, _, _, _, rfl, rfl, SqT.of ra5, rfl, rfl, _, rfl, ite_no (decide_eq_false (by intro z; cases z)) ?_⟩
            refine ⟨_, rfl, a, _, _, _, rfl, rfl, SqT.of ra5, rfl, rfl, _, rfl, ite_yes (decide_eq_true rfl) ?_⟩
            refine ⟨_, rfl, _, _, rfl, rfl, ?_⟩
            by_cases z0 : p.2 = 0
            · refine ⟨_, rfl, _, _, rfl, rfl, _, rfl, ite_no (decide_eq_false (by rw [z0]; decide)) ?_⟩
              have nx0 : nxt rs p = some [(mm0, p.2 + 1)] := by
                unfold nxt
                rw [hr]
                exact if_neg (by omega)
              have nx1 : nxt rs p = some ((Row.ins mm0).fol.map fun q => (q, p.2 + 1)) := nx0
              have fl11 := Row.fol_len rlow
              refine ⟨_, rfl, .inl ⟨rfl, _, Or.inl (Or.inl D5)⟩, _, rfl, a, Row.ins mm0, rs.length, rfl, ra5, rlow, fun l H6 s6 hl hl6 => ⟨l, rfl, ⟨_, SqL.of hl6⟩, fun D2 hD2 => ?_⟩⟩
              refine lc_list (K := K) (a := l) (xs := (Row.ins mm0).fol.map fun (m : Nat) => V.int (m : Nat)) (fun i H7 => ∃ us : List Addr, H7 D2 = some (.lst (us.map V.ref)) ∧ Paired (fun t (q : Nat × Nat) => H7 t = some (.tup [V.int (q.1 : Nat), V.int (q.2 : Nat)])) us (((Row.ins mm0).fol.take i).map fun q => (q, p.2 + 1)) ∧ Same H6 H7)
                ⟨[], upd_same, .nil, same_new hD2⟩ (fun i H7 _ ⟨_, _, _, e⟩ => SqL.of (e _ _ hl6)) ?_ ?_
              · rintro i y H7 hi ⟨us, hD7, hp7, s7⟩
                rw [List.getElem?_map] at hi
                obtain ⟨z, hz, rfl⟩ : ∃ z : Nat, (Row.ins mm0).fol[i]? = some z ∧ y = V.int (z : Nat) := by
                  cases e : (Row.ins mm0).fol[i]? with
                  | none =>
                    rw [e] at hi
                    cases hi
                  | some z =>
                    rw [e] at hi
                    exact ⟨z, rfl, (Option.some.inj hi).symm⟩
                have ul : us.length ≤ 11 := by
                  have h1 := hp7.length
                  rw [List.length_map, List.length_take] at h1
                  omega
                refine ⟨rfl, tyes_if ?_⟩
                refine ⟨_, rfl, _, rfl, (by show 2 ≤ sizeLine; decide), fun t1 ht1 => ?_⟩
                have ntD : D2 ≠ t1 := ne_of_none hD7 ht1
                refine ⟨us.map V.ref, by rw [upd_ne ntD]; exact hD7, small (by rw [List.length_map]; omega), us ++ [t1], ?_, ?_, same_put (same_tr s7 (same_new ht1)) hD2⟩
                · rw [upd_same, List.map_append]
                  rfl
                · have tk : (Row.ins mm0).fol.take (i + 1) = (Row.ins mm0).fol.take i ++ [z] := by rw [List.take_add_one, hz]; rfl
                  rw [tk, List.map_append]
                  refine Paired.snoc (L2.Paired.mapP hp7 fun b q hb => ?_) ?_
                  · rw [upd_ne (ne_of hb hD7 (by intro z; cases z)), upd_ne (ne_of_none hb ht1)]
                    exact hb
                  · rw [upd_ne ntD.symm, upd_same]
                    rfl
              · rintro H7 ⟨us, hD7, hp7, s7⟩
                rw [List.length_map, List.take_length] at hp7
                have s57 := same_tr s6 s7
                have ul := hp7.length
                have tl := pA'.length
                have fl := congrArg List.length (rfl : ((Row.ins mm0).fol.map fun q => (q, p.2 + 1)) = _)
                have qlen : ((Row.ins mm0).fol.map fun q => (q, p.2 + 1)).length ≤ 11 := by rw [List.length_map]; exact fl11
                have D20 : H5 D2 = none := s6.free hD2
                have D0' : ∀ b xs, H7 b = some (.tup xs) → (upd H7 D (.lst (ts'.map V.ref ++ us.map V.ref))) b = some (.tup xs) := fun b xs e => by
                  rw [upd_ne (ne_of e (s57 _ _ D5) (by intro z; cases z))]
                  exact e
                refine ⟨D, D2, _, _, rfl, rfl, s57 _ _ D5, hD7, Nat.le_of_lt (small (by rw [List.length_map, List.length_map]; omega)), ?_⟩
                have cl2 := clo _ (A' ++ ((Row.ins mm0).fol.map fun q => (q, p.2 + 1))) nx1 (fun q hq => List.mem_append_right _ hq) (fun q hq => List.mem_append_left _ hq)
                refine ⟨12 * (100 - (PM.length + 1)) + (A' ++ ((Row.ins mm0).fol.map fun q => (q, p.2 + 1))).length, by rw [List.length_append]; omega, L', p :: PM, A' ++ ((Row.ins mm0).fol.map fun q => (q, p.2 + 1)), ts' ++ us, _, _, _, _, rfl, ?_, fun q hq => D0' _ _ (s57 _ _ (tM5 q hq)), ?_, ?_, ⟨ml5, mm5, mnd5⟩, cl2.1, fun q hq => ?_, cl2.2, same_put (same_tr s5 s57) hD0, by rw [PMl5, List.length_append]; omega, by rw [PMl5]⟩
                · rw [upd_ne nmet]
                  exact s57 _ _ M5
                · rw [upd_same, List.map_append]
                · exact paired_app (L2.Paired.mapP pA5 fun b q hb => D0' _ _ (s57 _ _ hb)) (L2.Paired.mapP hp7 fun b q hb => D0' _ _ hb)
                · rcases List.mem_append.mp hq with h | h
                  · exact rA' q h
                  · obtain ⟨z, hz, rfl⟩ := List.mem_map.mp h
                    exact ⟨Row.fol_low rlow z hz, (by omega), .step pr nx1 h⟩
            · refine ⟨_, rfl, _, _, rfl, rfl, _, rfl, ite_yes (decide_eq_true (show (1 : Int) < ((p.2 : Nat) : Int) + 1 by omega)) ?_⟩
              refine k false H5 s5 ⟨(fun z => nomatch z), fun o => absurd ?_ (o p pr)⟩
              unfold nxt
              rw [hr]
              exact if_pos (by omega)
          | wr x v mm0 =>
            refine ⟨_, rfl, a, _, _, _, rfl, rfl, SqT.of ra5, rfl, rfl, _, rfl, ite_no (decide_eq_false (by intro z; cases z)) ?_⟩
            refine ⟨_, rfl, a, _, _, _, rfl, rfl, SqT.of ra5, rfl, rfl, _, rfl, ite_no (decide_eq_false (by intro z; cases z)) ?_⟩
            have nx0 : nxt rs p = some [(mm0, p.2)] := by
              unfold nxt
              rw [hr]
            have nx1 : nxt rs p = some ((Row.wr x v mm0).fol.map fun q => (q, p.2)) := nx0
            have fl11 := Row.fol_len rlow
            refine ⟨_, rfl, .inl ⟨rfl, _, Or.inl (Or.inl D5)⟩, _, rfl, a, Row.wr x v mm0, rs.length, rfl, ra5, rlow, fun l H6 s6 hl hl6 => ⟨l, rfl, ⟨_, SqL.of hl6⟩, fun D2 hD2 => ?_⟩⟩
            refine lc_list (K := K) (a := l) (xs := (Row.wr x v mm0).fol.map fun (m : Nat) => V.int (m : Nat)) (fun i H7 => ∃ us : List Addr, H7 D2 = some (.lst (us.map V.ref)) ∧ Paired (fun t (q : Nat × Nat) => H7 t = some (.tup [V.int (q.1 : Nat), V.int (q.2 : Nat)])) us (((Row.wr x v mm0).fol.take i).map fun q => (q, p.2)) ∧ Same H6 H7)
              ⟨[], upd_same, .nil, same_new hD2⟩ (fun i H7 _ ⟨_, _, _, e⟩ => SqL.of (e _ _ hl6)) ?_ ?_
            · rintro i y H7 hi ⟨us, hD7, hp7, s7⟩
              rw [List.getElem?_map] at hi
              obtain ⟨z, hz, rfl⟩ : ∃ z : Nat, (Row.wr x v mm0).fol[i]? = some z ∧ y = V.int (z : Nat) := by
                cases e : (Row.wr x v mm0).fol[i]? with
                | none =>
                  rw [e] at hi
                  cases hi
                | some z =>
                  rw [e] at hi
                  exact ⟨z, rfl, (Option.some.inj hi).symm⟩
              have ul : us.length ≤ 11 := by
                have h1 := hp7.length
                rw [List.length_map, List.length_take] at h1
                omega
              refine ⟨rfl, tyes_if ?_⟩
              refine ⟨_, rfl, _, rfl, (by show 2 ≤ sizeLine; decide), fun t1 ht1 => ?_⟩
              have ntD : D2 ≠ t1 := ne_of_none hD7 ht1
              refine ⟨us.map V.ref, by rw [upd_ne ntD]; exact hD7, small (by rw [List.length_map]; omega), us ++ [t1], ?_, ?_, same_put (same_tr s7 (same_new ht1)) hD2⟩
              · rw [upd_same, List.map_append]
                rfl
              · have tk : (Row.wr x v mm0).fol.take (i + 1) = (Row.wr x v mm0).fol.take i ++ [z] := by rw [List.take_add_one, hz]; rfl
                rw [tk, List.map_append]
                refine Paired.snoc (L2.Paired.mapP hp7 fun b q hb => ?_) ?_
                · rw [upd_ne (ne_of hb hD7 (by intro z; cases z)), upd_ne (ne_of_none hb ht1)]
                  exact hb
                · rw [upd_ne ntD.symm, upd_same]
                  try rfl
            · rintro H7 ⟨us, hD7, hp7, s7⟩
              rw [List.length_map, List.take_length] at hp7
              have s57 := same_tr s6 s7
              have ul := hp7.length
              have tl := pA'.length
              have fl := congrArg List.length (rfl : ((Row.wr x v mm0).fol.map fun q => (q, p.2)) = _)
              have qlen : ((Row.wr x v mm0).fol.map fun q => (q, p.2)).length ≤ 11 := by rw [List.length_map]; exact fl11
              have D20 : H5 D2 = none := s6.free hD2
              have D0' : ∀ b xs, H7 b = some (.tup xs) → (upd H7 D (.lst (ts'.map V.ref ++ us.map V.ref))) b = some (.tup xs) := fun b xs e => by
                rw [upd_ne (ne_of e (s57 _ _ D5) (by intro z; cases z))]
                exact e
              refine ⟨D, D2, _, _, rfl, rfl, s57 _ _ D5, hD7, Nat.le_of_lt (small (by rw [List.length_map, List.length_map]; omega)), ?_⟩
              have cl2 := clo _ (A' ++ ((Row.wr x v mm0).fol.map fun q => (q, p.2))) nx1 (fun q hq => List.mem_append_right _ hq) (fun q hq => List.mem_append_left _ hq)
              refine ⟨12 * (100 - (PM.length + 1)) + (A' ++ ((Row.wr x v mm0).fol.map fun q => (q, p.2))).length, by rw [List.length_append]; omega, L', p :: PM, A' ++ ((Row.wr x v mm0).fol.map fun q => (q, p.2)), ts' ++ us, _, _, _, _, rfl, ?_, fun q hq => D0' _ _ (s57 _ _ (tM5 q hq)), ?_, ?_, ⟨ml5, mm5, mnd5⟩, cl2.1, fun q hq => ?_, cl2.2, same_put (same_tr s5 s57) hD0, by rw [PMl5, List.length_append]; omega, by rw [PMl5]⟩
              · rw [upd_ne nmet]
                exact s57 _ _ M5
              · rw [upd_same, List.map_append]
              · exact paired_app (L2.Paired.mapP pA5 fun b q hb => D0' _ _ (s57 _ _ hb)) (L2.Paired.mapP hp7 fun b q hb => D0' _ _ hb)
              · rcases List.mem_append.mp hq with h | h
                · exact rA' q h
                · obtain ⟨z, hz, rfl⟩ := List.mem_map.mp h
                  exact ⟨Row.fol_low rlow z hz, pt, .step pr nx1 h⟩
          | rd x cs mm0 =>
            obtain ⟨dd, q1, q2⟩ := id ra5
            refine ⟨_, rfl, a, _, _, _, rfl, rfl, SqT.of q1, rfl, rfl, _, rfl, ite_no (decide_eq_false (by intro z; cases z)) ?_⟩
            refine ⟨_, rfl, a, _, _, _, rfl, rfl, SqT.of q1, rfl, rfl, _, rfl, ite_no (decide_eq_false (by intro z; cases z)) ?_⟩
            have nx0 : nxt rs p = some ((cs.map (·.2) ++ [mm0]).map fun q => (q, p.2)) := by
              unfold nxt
              rw [hr]
            have nx1 : nxt rs p = some ((Row.rd x cs mm0).fol.map fun q => (q, p.2)) := nx0
            have fl11 := Row.fol_len rlow
            refine ⟨_, rfl, .inl ⟨rfl, _, Or.inl (Or.inl D5)⟩, _, rfl, a, Row.rd x cs mm0, rs.length, rfl, ra5, rlow, fun l H6 s6 hl hl6 => ⟨l, rfl, ⟨_, SqL.of hl6⟩, fun D2 hD2 => ?_⟩⟩
            refine lc_list (K := K) (a := l) (xs := (Row.rd x cs mm0).fol.map fun (m : Nat) => V.int (m : Nat)) (fun i H7 => ∃ us : List Addr, H7 D2 = some (.lst (us.map V.ref)) ∧ Paired (fun t (q : Nat × Nat) => H7 t = some (.tup [V.int (q.1 : Nat), V.int (q.2 : Nat)])) us (((Row.rd x cs mm0).fol.take i).map fun q => (q, p.2)) ∧ Same H6 H7)
              ⟨[], upd_same, .nil, same_new hD2⟩ (fun i H7 _ ⟨_, _, _, e⟩ => SqL.of (e _ _ hl6)) ?_ ?_
            · rintro i y H7 hi ⟨us, hD7, hp7, s7⟩
              rw [List.getElem?_map] at hi
              obtain ⟨z, hz, rfl⟩ : ∃ z : Nat, (Row.rd x cs mm0).fol[i]? = some z ∧ y = V.int (z : Nat) := by
                cases e : (Row.rd x cs mm0).fol[i]? with
                | none =>
                  rw [e] at hi
                  cases hi
                | some z =>
                  rw [e] at hi
                  exact ⟨z, rfl, (Option.some.inj hi).symm⟩
              have ul : us.length ≤ 11 := by
                have h1 := hp7.length
                rw [List.length_map, List.length_take] at h1
                omega
              refine ⟨rfl, tyes_if ?_⟩
              refine ⟨_, rfl, _, rfl, (by show 2 ≤ sizeLine; decide), fun t1 ht1 => ?_⟩
              have ntD : D2 ≠ t1 := ne_of_none hD7 ht1
              refine ⟨us.map V.ref, by rw [upd_ne ntD]; exact hD7, small (by rw [List.length_map]; omega), us ++ [t1], ?_, ?_, same_put (same_tr s7 (same_new ht1)) hD2⟩
              · rw [upd_same, List.map_append]
                rfl
              · have tk : (Row.rd x cs mm0).fol.take (i + 1) = (Row.rd x cs mm0).fol.take i ++ [z] := by rw [List.take_add_one, hz]; rfl
                rw [tk, List.map_append]
                refine Paired.snoc (L2.Paired.mapP hp7 fun b q hb => ?_) ?_
                · rw [upd_ne (ne_of hb hD7 (by intro z; cases z)), upd_ne (ne_of_none hb ht1)]
                  exact hb
                · rw [upd_ne ntD.symm, upd_same]
                  try rfl
            · rintro H7 ⟨us, hD7, hp7, s7⟩
              rw [List.length_map, List.take_length] at hp7
              have s57 := same_tr s6 s7
              have ul := hp7.length
              have tl := pA'.length
              have fl := congrArg List.length (rfl : ((Row.rd x cs mm0).fol.map fun q => (q, p.2)) = _)
              have qlen : ((Row.rd x cs mm0).fol.map fun q => (q, p.2)).length ≤ 11 := by rw [List.length_map]; exact fl11
              have D20 : H5 D2 = none := s6.free hD2
              have D0' : ∀ b xs, H7 b = some (.tup xs) → (upd H7 D (.lst (ts'.map V.ref ++ us.map V.ref))) b = some (.tup xs) := fun b xs e => by
                rw [upd_ne (ne_of e (s57 _ _ D5) (by intro z; cases z))]
                exact e
              refine ⟨D, D2, _, _, rfl, rfl, s57 _ _ D5, hD7, Nat.le_of_lt (small (by rw [List.length_map, List.length_map]; omega)), ?_⟩
              have cl2 := clo _ (A' ++ ((Row.rd x cs mm0).fol.map fun q => (q, p.2))) nx1 (fun q hq => List.mem_append_right _ hq) (fun q hq => List.mem_append_left _ hq)
              refine ⟨12 * (100 - (PM.length + 1)) + (A' ++ ((Row.rd x cs mm0).fol.map fun q => (q, p.2))).length, by rw [List.length_append]; omega, L', p :: PM, A' ++ ((Row.rd x cs mm0).fol.map fun q => (q, p.2)), ts' ++ us, _, _, _, _, rfl, ?_, fun q hq => D0' _ _ (s57 _ _ (tM5 q hq)), ?_, ?_, ⟨ml5, mm5, mnd5⟩, cl2.1, fun q hq => ?_, cl2.2, same_put (same_tr s5 s57) hD0, by rw [PMl5, List.length_append]; omega, by rw [PMl5]⟩
              · rw [upd_ne nmet]
                exact s57 _ _ M5
              · rw [upd_same, List.map_append]
              · exact paired_app (L2.Paired.mapP pA5 fun b q hb => D0' _ _ (s57 _ _ hb)) (L2.Paired.mapP hp7 fun b q hb => D0' _ _ hb)
              · rcases List.mem_append.mp hq with h | h
                · exact rA' q h
                · obtain ⟨z, hz, rfl⟩ := List.mem_map.mp h
                  exact ⟨Row.fol_low rlow z hz, pt, .step pr nx1 h⟩
end
end CC

set_option Elab.async false
set_option maxRecDepth 100000
namespace CC
open PySem PySem.Spec PyProof.Rows L2
set_option linter.unusedVariables false
/-! ### a def read off an own class, called: C.m(e, ..) -/
structure ClsFn (K : PySem.W.Frag) (C : Addr) (m : Str) (f : Addr) : Prop where
  ga : PySem.W.specialIn K (.ref C) "__getattribute__" = some (some (.builtin "type.__getattribute__"))
  rd : PySem.W.readsIn K C (.type "type") = true
  at_ : PySem.W.findCls K (.ref C) (.type "type") m = some (.val (.ref f))
section
variable {X : Cx} {e : Expr} {es : List Expr} {t : TA} {apos np pos : Pos} {CX : CXT} {x m : Str} {C f : Addr} {k : Nat} {fd : FuncData} {ps : List Str} {sp : Sp} {ds : List Value} {dvs : List V} {E : XK}
theorem pe_clsfn {pl : Sem Bool} (c : ClsFn X.K C m f) (F : FnOk X.prog X.w X.K X.mg X.base CX k f fd ps sp) (hr : Room k X.A) (hg : Gl X x) (hm : X.mg x = some (.ref C)) (hk : PySem.W.keepIn X.K (.ref f) = true) (hb : L2.Binds X.K fd ps ds) (hd : Vals dvs ds) (hx : Passes CX X E)
    (ha : PA X (e :: es) t) (hdb : (x == ("__debug__" : Str)) = false := by decide)
    (ht : eval (.Call (.Attribute (.Name x np) m apos) (e :: es) [] pos) X.env = (do let ov ← eval (.Name x np) X.env; standAt apos.atName; let (f, first) ← holding [ov] (getMethod ov m pl); callWith pos f first (backTo pos (starEach (e :: es) X.env)) (backToKw pos (keywordEach [] X.env))) := by rfl)
    (he : starEach (e :: es) X.env = (false, eval e X.env) :: starEach es X.env := by rfl) (hpl : (backTo pos (starEach es X.env)).any (·.1) = false := by rfl) :
    PE X (.Call (.Attribute (.Name x np) m apos) (e :: es) [] pos) (tCall sp dvs E t) := by
  refine ⟨fun pins s σ H Q I h => ?_⟩
  refine PySem.W.methodCall_KW (pl := pl) (ld_glob I hg hm ?_ hdb) ht
  refine PySem.W.method_cls I.kIn c.ga (PySem.W.cls_value I.kIn c.rd c.at_ rfl ?_)
  have I2 : Inv X pins σ H { s with toks := s.toks + 1 } := I.tok _
  show wpAny _ _ (callWith pos (Value.ref f) [] (backTo pos (starEach (e :: es) X.env)) []) _ _ _
  refine PySem.W.callWith_K (h₀ := X.base) I.ok.mod.kin hk (thn (ha.run pos pins _ σ H _ I2 h) fun us s1 ⟨vs, H1, I1, r, q⟩ => ⟨I1.kIn, ?_⟩) he hpl
  exact run_fn F hr hb hd hx I1 r q
end
/-! ### the errors -/
abbrev sShown : Stmt := top 3
abbrev sCellInit : Stmt := inClass (top 4) 0
abbrev sNotInit : Stmt := inClass (top 6) 0
def spShown : Sp := fun vs H Q _ => (∃ z : Str, vs = [.str z] ∧ Q (.str z) H) ∨ ∃ i : Int, vs = [.int i] ∧ 0 ≤ i ∧ i < 100000 ∧ Q (.str (toString i)) H
/-- CellError's own: the exception at a stays as it is -/
def spCellInit (K : PySem.W.Frag) : Sp := fun vs H Q _ => ∃ (a C : Addr) (z : Str), vs = [.ref a, .str z] ∧ OexC K C ∧ H a = some (exo a C none) ∧ Q .non H
def spNotInit (K : PySem.W.Frag) (C : Addr) : Sp := fun vs H Q _ => ∃ (a : Addr) (i : Int), vs = [.ref a, .int i] ∧ OexC K C ∧ H a = some (exo a C none) ∧ 0 ≤ i ∧ i < 100000 ∧
  ∀ dx, H dx = none → dx ≠ a → Q .non (upd (upd H dx (exd dx [("row", .int i)])) a (exo a C (some dx)))
section
variable {P : Program} {w : World} {K : PySem.W.Frag} {mg : Str → Option Value} {base : Heap} {t1 : Tok}
theorem log_small {i : Int} (h0 : 0 ≤ i) (h1 : i < 100000) : i.natAbs.log2 < 1920 := by
  by_cases z : i.natAbs = 0
  · rw [z]
    decide
  · have : i.natAbs.log2 < 17 := (Nat.log2_lt z).mpr (by omega)
    omega
theorem scShown : FnScope ["value"] ["value"] (defScope sShown) := ⟨rfl, rfl, rfl, by decide +kernel, rfl, by decide +kernel, by decide +kernel⟩
theorem ok_shown {f : Addr} {fd : FuncData} (F : Fun K "shown" "shown" sShown f fd) (ti : mg "isinstance" = none) (ts : mg "str" = none) (tn : mg "int" = none) (ta : mg "abs" = none) (mS : mg "SHOWN_BELOW" = some (.int 1000000000000 t1)) :
    FnOk P w K mg base CX0 1 f fd ["value"] spShown := by
  refine F.ok scShown (fun vs H Q E h => ?_) (fun cdv A outer s H vs Q E hr h => ?_)
  · rcases h with ⟨z, rfl, _⟩ | ⟨i, rfl, _⟩
    · rfl
    · rfl
  · refine ⟨_, pss_cons (ps_if (pt_val (pe_callB call_isi (by rfl) ti (by decide +kernel) (pa_cons (pv 0) (pa_cons (pe_bltn (v := .ty "str") (by rfl) ts (by decide +kernel) rfl) pa_nil)))) (pss_one (ps_ret (pv 0))) pss_nil)
      (pss_cons (ps_if (PW.pt (pw_and (pt_val (pe_callB call_isi (by rfl) ti (by decide +kernel) (pa_cons (pv 0) (pa_cons (pe_bltn (v := .ty "int") (by rfl) tn (by decide +kernel) rfl) pa_nil)))) (pw_and1 (pt_cmpR op_lt (pe_callB call_abs (by rfl) ta (by decide +kernel) (pa_cons (pv 0) pa_nil)) (pe_glob (v := .int 1000000000000) rfl mS ⟨_, rfl⟩) (nomark _)))))
        (pss_one (ps_ret (pe_callTy call_str_int (by rfl) ts (by decide +kernel) (pa_cons (pv 0) pa_nil)))) pss_nil)
      (pss_one (ps_ret pe_str))), ?_⟩
    rcases h with ⟨z, rfl, q⟩ | ⟨i, rfl, i0, i1, q⟩
    · exact ⟨_, rfl, _, _, _, _, true, rfl, .ty _, .base (.str z), kit_ty (by decide +kernel), true, rfl, iteT ⟨_, rfl, q⟩⟩
    · refine ⟨_, rfl, _, _, _, _, false, rfl, .ty _, .base (.int i), kit_ty (by decide +kernel), false, rfl, iteF ?_⟩
      refine ⟨_, rfl, _, _, _, _, true, rfl, .ty _, .base (.int i), kit_ty (by decide +kernel), true, rfl, iteT ?_⟩
      refine ⟨_, rfl, i, rfl, ?_⟩
      rw [if_neg (show ¬ i < 0 by omega)]
      refine ⟨_, _, rfl, rfl, _, rfl, ite_yes (decide_eq_true (show i < 1000000000000 by omega)) ?_⟩
      exact ⟨_, rfl, i, rfl, log_small i0 i1, q⟩
theorem scCellInit : FnScope ["self", "why"] ["self", "why"] (defScope sCellInit) := ⟨rfl, rfl, rfl, by decide +kernel, rfl, by decide +kernel, by decide +kernel⟩
theorem ok_cellinit {f fS : Addr} {fd fdS : FuncData} (F : FunD K "__init__" "CellError.__init__" (defArgs sCellInit) (defBody sCellInit) (defScope sCellInit) [V.str ""] [] f fd)
    (GS : FnOk P w K mg base CX0 1 fS fdS ["value"] spShown) (mS : mg "shown" = some (.ref fS)) (kS : PySem.W.keepIn K (.ref fS) = true) (bS : L2.Binds K fdS ["value"] []) (tv : mg "ValueError" = none)
    (vV : PySem.W.findCls K (.type "ValueError") (.type "type") "__init__" = some (.val (.builtin "ValueError.__init__"))) :
    FnOk P w K mg base CX0 2 f fd ["self", "why"] (spCellInit K) := by
  refine F.ok scCellInit (fun vs H Q E h => ?_) (fun cdv A outer s H vs Q E hr h => ?_)
  · obtain ⟨a, C, z, rfl, _⟩ := h
    rfl
  · obtain ⟨a, C, z, rfl, T, ha, q⟩ := h
    refine ⟨_, pss_one (ps_expr (pe_veinit (by rfl) tv vV (pa_cons (pv 0) (pa_cons (pe_call GS hr rfl mS kS bS .nil pass0 (pa_cons (pv 1) pa_nil)) pa_nil)))), ?_⟩
    exact ⟨_, rfl, _, rfl, .inl ⟨z, rfl, a, C, [V.str z], rfl, (by show 1 ≤ 1000; decide), T, ha, q⟩⟩
theorem scNotInit : FnScope ["self", "row"] ["self", "row"] (defScope sNotInit) := ⟨rfl, rfl, rfl, by decide +kernel, rfl, by decide +kernel, by decide +kernel⟩
theorem ok_notinit {f fS fC CE C : Addr} {fd fdS fdC : FuncData} (F : Fun K "__init__" "NotOnce.__init__" sNotInit f fd)
    (GS : FnOk P w K mg base CX0 1 fS fdS ["value"] spShown) (mS : mg "shown" = some (.ref fS)) (kS : PySem.W.keepIn K (.ref fS) = true) (bS : L2.Binds K fdS ["value"] [])
    (GC : FnOk P w K mg base CX0 2 fC fdC ["self", "why"] (spCellInit K)) (mC : mg "CellError" = some (.ref CE)) (c : ClsFn K CE "__init__" fC) (kC : PySem.W.keepIn K (.ref fC) = true) (bC : L2.Binds K fdC ["self", "why"] [])
    (nR : PySem.W.findIn K (.ref C) "row" = some none) :
    FnOk P w K mg base CX0 3 f fd ["self", "row"] (spNotInit K C) := by
  refine F.ok scNotInit (fun vs H Q E h => ?_) (fun cdv A outer s H vs Q E hr h => ?_)
  · obtain ⟨a, i, rfl, _⟩ := h
    rfl
  · obtain ⟨a, i, rfl, T, ha, i0, i1, q⟩ := h
    have hr1 : Room 1 _ := hr.mono (by decide)
    refine ⟨_, pss_cons (ps_expr (pe_clsfn c GC hr rfl mC kC bC .nil pass0 (pa_cons (pv 0) (pa_cons (pe_joined (PJ.cons pe_str (PJ.cons (pe_fmt (pe_call GS hr1 rfl mS kS bS .nil pass0 (pa_cons (pv 1) pa_nil))) (PJ.cons pe_str PJ.nil)))) pa_nil))))
      (pss_one (ps_ost (pv 0) (pv 1))), ?_⟩
    have ln := PyProof.Rows.int_text_len_1921 (log_small i0 i1)
    have c1 : (Str.empty ++ Str.ofString "who begins at row ").length = 18 := by decide +kernel
    have c2 : (Str.ofString " is perhaps not inside just once").length = 32 := by decide +kernel
    refine ⟨_, rfl, _, rfl, (by decide +kernel), _, rfl, .inr ⟨i, rfl, i0, i1, .inl ⟨_, rfl, ?_, _, rfl, ?_, _, rfl, ?_, ?_⟩⟩⟩
    · exact Nat.le_trans ln (by decide)
    · rw [PySem.Str.length_append, c1, PySem.sizeLine_eq]
      omega
    · rw [PySem.Str.length_append, PySem.Str.length_append, c1, c2, PySem.sizeLine_eq]
      omega
    · exact ⟨a, C, _, rfl, T, ha, _, rfl, _, rfl, a, C, rfl, T, nR, .inl ⟨ha, fun dx hdx n => q dx hdx n⟩⟩
end
end CC

set_option Elab.async false
set_option maxRecDepth 100000
namespace CC
open PySem L2
set_option linter.unusedVariables false
/-! ### the same rows in another order of the cases -/
theorem RSim.fol {r r' : Row} (h : RSim r r') : ∀ q, q ∈ r.fol ↔ q ∈ r'.fol := by
  intro q
  cases r <;> cases r' <;> try exact h.elim
  · have e : _ = _ := h
    rw [e]
  · have e : _ = _ := h
    rw [e]
  · rw [show Row.fol (.wr _ _ _) = _ from rfl, h.2.2]
    rfl
  · obtain ⟨_, h2, h3⟩ := h
    show q ∈ _ ++ _ ↔ q ∈ _ ++ _
    rw [List.mem_append, List.mem_append, (h2.map (·.2)).mem_iff, h3]
theorem nxt_sim {rs rs' : List Row} (h : Paired RSim rs rs') (p : Nat × Nat) : (nxt rs p = none ↔ nxt rs' p = none) ∧ ∀ qs qs', nxt rs p = some qs → nxt rs' p = some qs' → ∀ q, q ∈ qs ↔ q ∈ qs' := by
  cases e : rs[p.1]? with
  | none =>
    have e' : rs'[p.1]? = none := by
      rw [List.getElem?_eq_none_iff] at e ⊢
      have := h.length
      omega
    unfold nxt
    rw [e, e']
    exact ⟨⟨fun _ => rfl, fun _ => rfl⟩, fun qs qs' a => by cases a⟩
  | some r =>
    obtain ⟨r', e', hs⟩ := paired_at h e
    unfold nxt
    rw [e, e']
    have hf := hs.fol
    cases r <;> cases r' <;> try exact hs.elim
    · dsimp only
      split
      · exact ⟨⟨fun _ => rfl, fun _ => rfl⟩, fun qs qs' a => by cases a⟩
      · exact ⟨⟨(fun z => nomatch z), (fun z => nomatch z)⟩, fun qs qs' a b q => by cases a; cases b; exact Iff.rfl⟩
    · dsimp only
      have e2 : _ = _ := hs
      split
      · exact ⟨⟨fun _ => rfl, fun _ => rfl⟩, fun qs qs' a => by cases a⟩
      · exact ⟨⟨(fun z => nomatch z), (fun z => nomatch z)⟩, fun qs qs' a b q => by cases a; cases b; rw [e2]⟩
    · dsimp only
      exact ⟨⟨(fun z => nomatch z), (fun z => nomatch z)⟩, fun qs qs' a b q => by cases a; cases b; rw [hs.2.2]⟩
    · dsimp only
      refine ⟨⟨(fun z => nomatch z), (fun z => nomatch z)⟩, fun qs qs' a b q => ?_⟩
      cases a
      cases b
      rw [List.mem_map, List.mem_map]
      exact ⟨fun ⟨z, hz, e⟩ => ⟨z, (hf z).mp hz, e⟩, fun ⟨z, hz, e⟩ => ⟨z, (hf z).mpr hz, e⟩⟩
theorem RSim.symm {r r' : Row} (h : RSim r r') : RSim r' r := by
  cases r <;> cases r' <;> try exact h.elim
  · exact Eq.symm h
  · exact Eq.symm h
  · exact ⟨h.1.symm, h.2.1.symm, h.2.2.symm⟩
  · exact ⟨h.1.symm, h.2.1.symm, h.2.2.symm⟩
theorem paired_flip {α β : Type} {F : α → β → Prop} : ∀ {l : List α} {m : List β}, Paired F l m → Paired (fun b a => F a b) m l
  | _, _, .nil => .nil
  | _, _, .cons h t => .cons h (paired_flip t)
theorem rch_sim {rs rs' : List Row} (h : Paired RSim rs rs') {first : Nat} {p : Nat × Nat} (hp : Rch rs (ini rs first) p) (o : ∀ q, Rch rs (ini rs first) q → nxt rs q ≠ none) : Rch rs' (ini rs' first) p := by
  induction hp with
  | @base p hp =>
    refine .base ?_
    unfold ini at hp ⊢
    cases e : rs[first]? with
    | none =>
      rw [e] at hp
      cases hp
    | some r =>
      rw [e] at hp
      obtain ⟨r', e', hs⟩ := paired_at h e
      rw [e']
      obtain ⟨z, hz, rfl⟩ := List.mem_map.mp hp
      exact List.mem_map.mpr ⟨z, (hs.fol z).mp hz, rfl⟩
  | @step p q qs r e hq ih =>
    cases e' : nxt rs' p with
    | none =>
      rw [((nxt_sim h p).1).mpr e'] at e
      cases e
    | some qs' => exact .step ih e' (((nxt_sim h p).2 qs qs' e e' q).mp hq)
theorem sim_sym {rs rs' : List Row} (h : Paired RSim rs rs') : Paired RSim rs' rs := L2.Paired.mapP (paired_flip h) fun a b e => e.symm
theorem once_sim {rs rs' : List Row} (h : Paired RSim rs rs') (first : Nat) (o : Once rs first) : Once rs' first := by
  intro p hp z
  have key : ∀ {p}, Rch rs' (ini rs' first) p → Rch rs (ini rs first) p := by
    intro p hp
    induction hp with
    | @base p hp =>
      have h2 := sim_sym h
      refine .base ?_
      unfold ini at hp ⊢
      cases e : rs'[first]? with
      | none =>
        rw [e] at hp
        cases hp
      | some r =>
        rw [e] at hp
        obtain ⟨r', e', hs⟩ := paired_at h2 e
        rw [e']
        obtain ⟨z, hz, rfl⟩ := List.mem_map.mp hp
        exact List.mem_map.mpr ⟨z, (hs.fol z).mp hz, rfl⟩
    | @step p q qs r e hq ih =>
      cases e' : nxt rs p with
      | none => exact absurd e' (o p ih)
      | some qs' => exact .step ih e' (((nxt_sim h p).2 qs' qs e' e q).mpr hq)
  exact o p (key hp) (((nxt_sim h p).1).mpr z)
theorem once_iff {rs rs' : List Row} (h : Paired RSim rs rs') (first : Nat) : Once rs first ↔ Once rs' first := ⟨once_sim h first, once_sim (sim_sym h) first⟩
end CC

set_option Elab.async false
set_option maxRecDepth 100000
namespace CC
open PySem L2
set_option linter.unusedVariables false
abbrev sProgInit : Stmt := inClass (top 21) 0
abbrev sProgLen : Stmt := inClass (top 21) 2
/-- a program at p: its rows are rs but for the order of the cases -/
def ProgAt (C : Addr) (H : Hp) (p : Addr) (rs : List Row) : Prop := ∃ (dx T : Addr) (as : List Addr) (rs' : List Row), H p = some (.ins C dx [("_rows", .ref T)]) ∧ H T = some (.tup (as.map V.ref)) ∧ Paired (fun a r => RowAt H r a) as rs' ∧ Paired RSim rs rs'
theorem RSim.low {n : Nat} {r r' : Row} (h : RSim r r') (l : r.low n) : r'.low n := by
  cases r <;> cases r' <;> try exact h.elim
  · have e : _ = _ := h
    rw [← e]
    exact l
  · have e : _ = _ := h
    rw [← e]
    exact l
  · have l' : _ < n := l
    rw [h.2.2] at l'
    exact l'
  · obtain ⟨_, p, e⟩ := h
    refine ⟨(p.map (·.1)).nodup_iff.mp l.1, fun kv hkv => l.2.1 kv (p.mem_iff.mpr hkv), by rw [← e]; exact l.2.2.1, by rw [← p.length_eq]; exact l.2.2.2⟩
def AllOnce (rs : List Row) : Prop := ∀ f m, rs[f]? = some (Row.rest m) → Once rs f
def FirstBad (rs : List Row) (f : Nat) : Prop := (∃ m, rs[f]? = some (Row.rest m)) ∧ ¬ Once rs f ∧ ∀ f' m, f' < f → rs[f']? = some (Row.rest m) → Once rs f'
def spProgInit (C CN : Addr) : Sp := fun vs H Q E => ∃ (p l dx : Addr) (rs : List Row) (cells : List Str), vs = [.ref p, .ref l] ∧ H p = some (.ins C dx []) ∧ RowsAt H rs l ∧ Good cells rs ∧ rs.length ≤ 30 ∧ (∀ c ∈ cells, NameOk c) ∧
  (AllOnce rs → ∀ H', (∀ b o, H b = some o → b ≠ p → H' b = some o) → ProgAt C H' p rs → Q .non H') ∧
  (∀ f, FirstBad rs f → ∀ d H', (∀ b o, H b = some o → b ≠ p → H' b = some o) → H' d = some (.xd [("row", .int (f : Nat))]) → E (.ref CN) (some d) H')
structure TxtP (K : PySem.W.Frag) (mg : Str → Option Value) (C CN fN : Addr) : Prop where
  cl : Cls K C
  nR : NoAttr K C "_rows"
  gN : mg "NotOnce" = some (.ref CN)
  oN : OexC K CN
  iN : PySem.W.findIn K (.ref CN) "__init__" = some (some (.ref fN))
  tN : PySem.W.typeIn K (.ref fN) = some (.type "function")
  rN : PySem.W.findIn K (.ref CN) "row" = some none
section
variable {P : Program} {w : World} {K : PySem.W.Frag} {mg : Str → Option Value} {base : Heap}
theorem scProgInit : FnScope ["self", "rows", "wrong", "number", "row"] ["self", "rows"] (defScope sProgInit) := ⟨rfl, rfl, rfl, by decide +kernel, rfl, by decide +kernel, by decide +kernel⟩
theorem ok_proginit {f C CN fN fW fC fO : Addr} {fd fdN fdW fdC fdO : FuncData} (F : Fun K "__init__" "Program.__init__" sProgInit f fd) (TT : TxtP K mg C CN fN)
    (GN : FnOk P w K mg base CX0 3 fN fdN ["self", "row"] (spNotInit K CN)) (bN : Binds K fdN ["self", "row"] [])
    (GW : FnOk P w K mg base CX0 5 fW fdW ["rows"] spWrongRow) (mW : mg "wrong_row" = some (.ref fW)) (kW : PySem.W.keepIn K (.ref fW) = true) (bW : Binds K fdW ["rows"] [])
    (GC : FnOk P w K mg base CX0 1 fC fdC ["row"] spCopied) (mC : mg "copied" = some (.ref fC)) (kC : PySem.W.keepIn K (.ref fC) = true) (bC : Binds K fdC ["row"] [])
    (GO : FnOk P w K mg base CX0 2 fO fdO ["rows", "first"] spIsOnce) (mO : mg "is_once" = some (.ref fO)) (kO : PySem.W.keepIn K (.ref fO) = true) (bO : Binds K fdO ["rows", "first"] [])
    (tt : mg "tuple" = none) (te : mg "enumerate" = none) :
    FnOk P w K mg base (L2.CX P w) 6 f fd ["self", "rows"] (spProgInit C CN) := by
  refine F.okX scProgInit (fun vs H Q E h => ?_) (fun cdv A outer s H vs Q E hr h => ?_)
  · obtain ⟨p, l, dx, rs, cells, rfl, _⟩ := h
    rfl
  · obtain ⟨p, l, dx, rs, cells, rfl, hp, hl, good, n30, nok, kQ, kE⟩ := h
    have hr1 : Room 1 _ := hr.mono (by decide)
    have hr2 : Room 2 _ := hr.mono (by decide)
    have hr4 : Room 4 _ := hr.mono (by decide)
    refine ⟨_, pss_cons (ps_set (i := 2) scProgInit.nd rfl (Or.inl rfl) (pe_call GW hr rfl mW kW bW .nil pass0 (pa_cons (pv 1) pa_nil)))
      (pss_cons (ps_if (pt_cmpR op_notN (pv 2) pe_non (nomark _)) (pss_one ps_never) pss_nil)
      (pss_cons (ps_fld (pv 0) (pe_callTy call_tuple_of (by rfl) tt (by decide +kernel) (pa_cons (pe_lc (own := [("row", 4)]) (g := gName 4) (by rfl) scProgInit.nd (pi_list (pv 1)) (blkOk_by (own := [("row", 4)]) (N := ["self", "rows", "wrong", "number", "row"]) (sc := defScope sProgInit) (by decide +kernel)) (fun _ _ _ _ _ => pg_name (i := 4) scProgInit.nd rfl (Or.inl rfl)) (fun _ _ _ _ _ => pts_nil)
          (fun _ _ _ _ _ => pe_call GC hr1 rfl mC kC bC .nil pass0 (pa_cons (pv 4) pa_nil))) pa_nil)) rfl)
      (pss_one (ps_for (passes_of rfl) rfl (pi_enumT (by rfl) te (pa_cons (pe_fld (pv 0) rfl) pa_nil)) (pg_tup (by rfl) (pgs_cons (pg_name (i := 3) scProgInit.nd rfl (Or.inl rfl)) (pgs_cons (pg_name (i := 4) scProgInit.nd rfl (Or.inl rfl)) pgs_nil)))
        (pss_one (ps_if (PW.pt (pw_and (pt_cmpR op_eq (pe_ix ix_tup (pv 4) pe_int (fun _ _ => rfl)) pe_str (nomark _)) (pw_and1 (pt_not (pt_val (pe_call GO hr2 rfl mO kO bO .nil pass0 (pa_cons (pe_fld (pv 0) rfl) (pa_cons (pv 3) pa_nil))))))))
          (pss_one (ps_raise rfl (takes_of rfl rfl rfl rfl) (pmk_oex TT.oN TT.iN TT.tN GN hr4 bN .nil pass0 rfl TT.gN (pa_cons (pv 3) pa_nil)))) pss_nil)))))), ?_⟩
    obtain ⟨as, ha1, ha2⟩ := id hl
    have asl : as.length = rs.length := ha2.length
    have npl : l ≠ p := ne_of ha1 hp (by intro z; cases z)
    refine ⟨_, rfl, l, rs, cells, rfl, hl, good, nok, fun H1 s1 => ?_⟩
    refine ⟨_, rfl, rfl, _, rfl, ite_no rfl ?_⟩
    refine ⟨_, rfl, l, rfl, ⟨_, SqL.of (s1 _ _ ha1)⟩, fun D hD => ?_⟩
    refine lc_list (K := K) (a := l) (xs := as.map V.ref) (fun i H2 => ∃ (us : List Addr) (rs' : List Row), H2 D = some (.lst (us.map V.ref)) ∧ Paired (fun a r => RowAt H2 r a) us rs' ∧ Paired RSim (rs.take i) rs' ∧ Same H H2)
      ⟨[], [], upd_same, .nil, .nil, same_tr s1 (same_new hD)⟩ (fun i H2 _ ⟨_, _, _, _, _, e⟩ => SqL.of (e _ _ ha1)) ?_ ?_
    · rintro i y H2 hi ⟨us, rs', hD2, pu, ps, s2⟩
      rw [List.getElem?_map] at hi
      obtain ⟨a, hia, rfl⟩ : ∃ a, as[i]? = some a ∧ y = V.ref a := by
        cases e : as[i]? with
        | none =>
          rw [e] at hi
          cases hi
        | some z =>
          rw [e] at hi
          exact ⟨z, rfl, (Option.some.inj hi).symm⟩
      obtain ⟨r, hir, hra⟩ := paired_at ha2 hia
      have rl : r.low rs.length := Row.ok_low (good.1 r (List.mem_of_getElem? hir))
      refine ⟨rfl, tyes_if ?_⟩
      refine ⟨_, rfl, a, r, rs.length, rfl, hra.mono (fun b xs x => s2 _ _ x) (fun b xs x => s2 _ _ x), rl, fun b r' H3 s3 rb sim => ?_⟩
      have hD3 := s3 _ _ hD2
      have tk : rs.take (i + 1) = rs.take i ++ [r] := by rw [List.take_add_one, hir]; rfl
      have ul : us.length ≤ 30 := by
        have h1 := pu.length
        have h2 := ps.length
        rw [List.length_take] at h2
        omega
      refine ⟨us.map V.ref, hD3, small (by rw [List.length_map]; omega), us ++ [b], rs' ++ [r'], by rw [upd_same, List.map_append]; rfl, Paired.snoc (L2.Paired.mapP pu fun a r e => (e.mono (fun b xs x => s3 _ _ x) fun b xs x => s3 _ _ x).put hD3) (rb.put hD3), by rw [tk]; exact ps.snoc sim, same_put (same_tr s2 s3) (s1.free hD)⟩
    · rintro H2 ⟨us, rs', hD2, pu, ps, s2⟩
      rw [List.length_map, asl, List.take_length] at ps
      refine ⟨D, _, rfl, .inl ⟨SqL.of hD2, fun T hT => ?_⟩⟩
      refine ⟨_, rfl, p, C, dx, _, rfl, by rw [upd_ne (ne_of_none (s2 _ _ hp) hT)]; exact s2 _ _ hp, TT.cl, TT.nR, (by show 0 < 1000; decide), ?_⟩
      have npT : T ≠ p := (ne_of_none (s2 _ _ hp) hT).symm
      have hp3 : (upd (upd H2 T (.tup (us.map V.ref))) p (.ins C dx (putF "_rows" (.ref T) []))) p = some (.ins C dx [("_rows", .ref T)]) := upd_same
      have hT3 : (upd (upd H2 T (.tup (us.map V.ref))) p (.ins C dx (putF "_rows" (.ref T) []))) T = some (.tup (us.map V.ref)) := by rw [upd_ne npT, upd_same]
      have keep3 : ∀ b o, H2 b = some o → b ≠ p → (upd (upd H2 T (.tup (us.map V.ref))) p (.ins C dx (putF "_rows" (.ref T) []))) b = some o := fun b o e n => by
        rw [upd_ne n, upd_ne (ne_of_none e hT)]
        exact e
      revert hp3 hT3 keep3
      generalize (upd (upd H2 T (.tup (us.map V.ref))) p (.ins C dx (putF "_rows" (.ref T) []))) = H3
      intro hp3 hT3 keep3
      have pu3 : Paired (fun a r => RowAt H3 r a) us rs' := L2.Paired.mapP pu fun a r e => e.mono (fun b xs x => keep3 b _ x (ne_of x (s2 _ _ hp) (by intro z; cases z))) fun b xs x => keep3 b _ x (ne_of x (s2 _ _ hp) (by intro z; cases z))
      have low' : ∀ r ∈ rs', r.low rs'.length := fun r hr => by
        obtain ⟨j, hj⟩ := List.getElem?_of_mem hr
        obtain ⟨r0, e0, sm⟩ := paired_at (paired_flip ps) hj
        rw [← ps.length]
        exact RSim.low sm (Row.ok_low (good.1 r0 (List.mem_of_getElem? e0)))
      refine ⟨_, rfl, p, C, dx, _, _, rfl, hp3, TT.cl, TT.nR, rfl, T, _, rfl, SqT.of hT3, for_it (walk_enumT (K := K) (a := T) (xs := us.map V.ref)) (fun i σ H4 => ∃ v3 v4, σ = [some (.ref p), some (.ref l), some .non, v3, v4] ∧ H4 p = some (.ins C dx [("_rows", .ref T)]) ∧ H4 T = some (.tup (us.map V.ref)) ∧ Paired (fun a r => RowAt H4 r a) us rs' ∧ (∀ f m, f < i → rs[f]? = some (Row.rest m) → Once rs f) ∧ ∀ b o, H b = some o → b ≠ p → H4 b = some o)
        ⟨none, none, rfl, hp3, hT3, pu3, fun f m h => absurd h (Nat.not_lt_zero _), fun b o e n => keep3 b o (s2 b o e) n⟩ (fun i σ H4 _ ⟨_, _, _, _, e, _⟩ => SqT.of e) ?_ ?_⟩
      · rintro i x σ Ha Hb hi ⟨v3, v4, rfl, hpa, hTa, pua, ona, keepa⟩ ⟨T2, ix, y, rfl, hT2, rfl, e1, e2⟩
        cases Option.some.inj e1
        dsimp only at e2
        rw [List.getElem?_map] at e2
        obtain ⟨b, hib, rfl⟩ : ∃ b, us[i]? = some b ∧ y = V.ref b := by
          cases e : us[i]? with
          | none =>
            rw [e] at e2
            cases e2
          | some z =>
            rw [e] at e2
            exact ⟨z, rfl, (Option.some.inj e2).symm⟩
        obtain ⟨r', hir', hrb⟩ := paired_at pua hib
        obtain ⟨r, hir, sm⟩ := paired_at (paired_flip ps) hir'
        have il : i < rs'.length := (List.getElem?_eq_some_iff.mp hir').1
        have sb := same_new (o := .tup [V.int (i : Nat), V.ref b]) hT2
        have hpb := sb _ _ hpa
        have hTb := sb _ _ hTa
        have pub := L2.Paired.mapP pua fun a r e => RowAt.mono (H' := upd Ha T2 (.tup [V.int (i : Nat), V.ref b])) e (fun b xs x => sb _ _ x) fun b xs x => sb _ _ x
        have hrb2 : RowAt (upd Ha T2 (.tup [V.int (i : Nat), V.ref b])) r' b := hrb.mono (fun b xs x => sb _ _ x) fun b xs x => sb _ _ x
        have keepb : ∀ b' o, H b' = some o → b' ≠ p → (upd Ha T2 (.tup [V.int (i : Nat), V.ref b])) b' = some o := fun b' o e n => sb _ _ (keepa b' o e n)
        refine ⟨T2, _, rfl, SqT.of upd_same, rfl, _, _, rfl, _, _, rfl, rfl, ?_⟩
        have other : (∀ m, r' ≠ .rest m) → ∀ f m, f < i + 1 → rs[f]? = some (Row.rest m) → Once rs f := fun nr f m hf e => by
          by_cases z : f = i
          · rw [z, hir] at e
            cases e
            cases r' with
            | rest m' => exact absurd rfl (nr m')
            | ins m' => exact sm.elim
            | wr c v m' => exact sm.elim
            | rd c cs m' => exact sm.elim
          · exact ona f m (by omega) e
        cases r' with
        | ins m' =>
          refine ⟨_, rfl, b, _, _, _, rfl, rfl, SqT.of hrb2, rfl, rfl, _, rfl, ite_no (decide_eq_false (by intro z; cases z)) (iteF ?_)⟩
          exact ⟨_, _, rfl, hpb, hTb, pub, other (fun m z => by cases z), keepb⟩
        | wr c v m' =>
          refine ⟨_, rfl, b, _, _, _, rfl, rfl, SqT.of hrb2, rfl, rfl, _, rfl, ite_no (decide_eq_false (by intro z; cases z)) (iteF ?_)⟩
          exact ⟨_, _, rfl, hpb, hTb, pub, other (fun m z => by cases z), keepb⟩
        | rd c cs m' =>
          obtain ⟨dd, q1, q2⟩ := hrb2
          refine ⟨_, rfl, b, _, _, _, rfl, rfl, SqT.of q1, rfl, rfl, _, rfl, ite_no (decide_eq_false (by intro z; cases z)) (iteF ?_)⟩
          exact ⟨_, _, rfl, hpb, hTb, pub, other (fun m z => by cases z), keepb⟩
        | rest m' =>
          have hrest : ∃ m, rs[i]? = some (Row.rest m) := by
            cases r with
            | rest m => exact ⟨m, hir⟩
            | ins m => exact sm.elim
            | wr c v m => exact sm.elim
            | rd c cs m => exact sm.elim
          refine ⟨_, rfl, b, _, _, _, rfl, rfl, SqT.of hrb2, rfl, rfl, _, rfl, ite_yes (decide_eq_true rfl) ?_⟩
          refine ⟨_, rfl, p, C, dx, _, _, rfl, hpb, TT.cl, TT.nR, rfl, _, rfl, T, us, rs', i, rfl, hTb, pub, low', by rw [← ps.length]; exact n30, il, fun bo H5 s5 iff => ⟨bo, rfl, ?_⟩⟩
          have iff2 := iff.trans (once_iff ps i).symm
          cases bo with
          | true =>
            refine iteF ?_
            refine ⟨_, _, rfl, s5 _ _ hpb, s5 _ _ hTb, L2.Paired.mapP pub fun a r e => e.mono (fun b xs x => s5 _ _ x) (fun b xs x => s5 _ _ x), fun f m hf e => ?_, fun b' o e n => s5 _ _ (keepb b' o e n)⟩
            by_cases z : f = i
            · rw [z]
              exact iff2.mp rfl
            · exact ona f m (by omega) e
          | false =>
            refine iteT ?_
            refine ⟨_, rfl, (by show 1 ≤ 1000; decide), fun a ha => ⟨a, (i : Int), rfl, TT.oN, upd_same, by omega, by have := ps.length; omega, fun d hd nda => ?_⟩⟩
            have hd5 : H5 d = none := by
              rw [upd_ne nda] at hd
              exact hd
            refine ⟨rfl, d, _, upd_same, by rw [upd_ne nda, upd_same], hd5, ?_⟩
            refine kE i ⟨hrest, fun o => absurd (iff2.mpr o) (by decide), fun f' m hf e => ona f' m hf e⟩ d _ (fun b' o e n => ?_) upd_same
            have h5 := s5 _ _ (keepb b' o e n)
            have n1 : b' ≠ d := ne_of_none h5 hd5
            have n2 : b' ≠ a := ne_of_none h5 ha
            rw [upd_ne n1, del_ne n2, upd_ne n2, upd_ne n1, upd_ne n2]
            exact h5
      · rintro σ Ha ⟨v3, v4, rfl, hpa, hTa, pua, ona, keepa⟩
        rw [List.length_map] at ona
        refine kQ (fun f m e => ona f m ?_ e) Ha keepa ⟨dx, T, us, rs', hpa, hTa, pua, ps⟩
        have h1 := (List.getElem?_eq_some_iff.mp e).1
        have h2 := pu.length
        have h3 := ps.length
        omega
end
end CC

set_option Elab.async false
set_option maxRecDepth 100000
namespace CC
open PySem PySem.Spec PyProof.Rows L2
set_option linter.unusedVariables false
/-! ### len of an own object that has the method -/
section
variable {X : Cx} {CX : CXT} {C g : Addr} {k : Nat} {fd : FuncData} {ps : List Str} {sp : Sp}
theorem call_lenOwn {E : XK} (hs : PySem.W.findIn X.K (.ref C) "__len__" = some (some (.ref g))) (hf : PySem.W.isFn X.K (.ref g) = true)
    (F : FnOk X.prog X.w X.K X.mg X.base CX k g fd ps sp) (hr : Room (k + 1) X.A) (hb : Binds X.K fd ps []) (hx : Passes CX X E) :
    CallR X (.builtin "len") (fun xs H Q => ∃ a dx fs, xs = [.ref a] ∧ H a = some (.ins C dx fs) ∧ sp [.ref a] H (fun v H' => ∃ n : Nat, v = .int n ∧ n < 9223372036854775808 ∧ Q (.int n) H') E) := by
  intro pins s σ H xs us Q I r h
  obtain ⟨a, dx, fs, rfl, ea, q⟩ := h
  obtain ⟨u, rfl, rx⟩ := vals1 r
  obtain rfl : u = Value.ref a := rx
  obtain ⟨m, fr⟩ := I.fr
  obtain ⟨mA, O, _, _, _, _⟩ := ins_get I.hok ea
  obtain ⟨od, J, _⟩ := O.look
  have hl : ([Value.ref a] ++ ([] : List Value)).length = ps.length := by
    rw [← F.len _ _ _ _ q]
    rfl
  refine PySem.W.len_K fr I.ok.mod.kin J hs hf (wpAny_call (codeAny_mono (F.run X.A.in1 X.stack s H ⟨[.ref a], []⟩ [.ref a] [.ref a] _ E hr.in1 I.env0.in1 (hb _ [.ref a] I.kIn hl) (.cons rfl .nil) q) fun r s' hq => ?_))
  cases r with
  | error er => exact hx pins σ H s er s' I hq
  | ok fl =>
    cases fl with
    | ret u =>
      obtain ⟨v, H', I3, rv, n, rfl, hn, q3⟩ := I.after hq
      obtain ⟨t, rfl⟩ := rv
      refine ⟨⟨by omega, by omega⟩, .int n, H', I3.tok _, ⟨_, rfl⟩, q3⟩
    | next => exact False.elim hq
    | brk => exact False.elim hq
    | cont => exact False.elim hq
end
/-- the length of a program -/
def spProgLen (C : Addr) : Sp := fun vs H Q _ => ∃ (p : Addr) (rs : List Row), vs = [.ref p] ∧ ProgAt C H p rs ∧ Q (.int (rs.length : Nat)) H
section
variable {P : Program} {w : World} {K : PySem.W.Frag} {mg : Str → Option Value} {base : Heap}
theorem scProgLen : FnScope ["self"] ["self"] (defScope sProgLen) := ⟨rfl, rfl, rfl, by decide +kernel, rfl, by decide +kernel, by decide +kernel⟩
theorem ok_proglen {f C : Addr} {fd : FuncData} (F : Fun K "__len__" "Program.__len__" sProgLen f fd) (cl : Cls K C) (nR : NoAttr K C "_rows") (tl : mg "len" = none) :
    FnOk P w K mg base CX0 1 f fd ["self"] (spProgLen C) := by
  refine F.ok scProgLen (fun vs H Q E h => ?_) (fun cdv A outer s H vs Q E hr h => ?_)
  · obtain ⟨p, rs, rfl, _⟩ := h
    rfl
  · refine ⟨_, pss_one (ps_ret (pe_callB call_len (by rfl) tl (by decide +kernel) (pa_cons (pe_fld (pv 0) rfl) pa_nil))), ?_⟩
    obtain ⟨p, rs, rfl, ⟨dx, T, as, rs', hp, hT, pa, ps⟩, q⟩ := h
    have l1 := pa.length
    have l2 := ps.length
    refine ⟨_, rfl, p, C, dx, _, _, rfl, hp, cl, nR, rfl, _, rs.length, rfl, .inr ⟨_, SqT.of hT, ?_⟩, q⟩
    rw [List.length_map]
    omega
end
end CC

set_option Elab.async false
set_option maxRecDepth 100000
namespace CC
open PySem PySem.Spec PyProof.Rows L2
set_option linter.unusedVariables false
/-! ### an object is made inside a try -/
def tMakeAt (C : Addr) (sp : Sp) (E : L2.St → XK) (t : TA) : TE := fun σ H Q => t σ H fun vs H1 => ∀ x dx, H1 x = none → H1 dx = none → dx ≠ x →
  sp (.ref x :: vs) (upd (upd H1 dx (.own x)) x (.ins C dx [])) (fun v H2 => v = .non ∧ Q (.ref x) H2) (E σ)
section
variable {X : Cx} {CX : CXT} {k : Nat} {f C : Addr} {fd : FuncData} {ps : List Str} {sp : Sp} {E : L2.St → XK} {x : Str} {p pos : Pos} {e : Expr} {es : List Expr} {t : TA}
theorem run_makeAt {pins : List (Addr × Obj)} {σ : L2.St} {H : Hp} {s : Shared} {Q : VK} {us : List Value} {vs : List V} (M : Mk X.K C f) (F : FnOk X.prog X.w X.K X.mg X.base CX k f fd ps sp) (hr : Room (k + 1) X.A) (hb : Binds X.K fd ps [])
    (hx : PassesAt CX X σ (E σ)) (I : Inv X pins σ H s) (r : Vals vs us)
    (h : ∀ x dx, H x = none → H dx = none → dx ≠ x → sp (.ref x :: vs) (upd (upd H dx (.own x)) x (.ins C dx [])) (fun v H2 => v = .non ∧ Q (.ref x) H2) (E σ)) :
    wpAny (model X.prog X.w) X.A (call (.ref C) us) (EP X pins σ Q) X.xe s := by
  have big := h (s.heap.objs.size + 1) s.heap.objs.size (I.hok.fresh (Nat.le_succ _)) (I.hok.fresh (Nat.le_refl _)) (Nat.ne_of_lt (Nat.lt_succ_self _))
  have J := Inv.made (C := C) I
  have rr : Vals (V.ref (s.heap.objs.size + 1) :: vs) (Value.ref (s.heap.objs.size + 1) :: us) := .cons rfl r
  have hl : (Value.ref (s.heap.objs.size + 1) :: us ++ ([] : List Value)).length = ps.length := by
    rw [List.append_nil, ← rr.length]
    exact F.len _ _ _ _ big
  have bd := hb _ (Value.ref (s.heap.objs.size + 1) :: us) J.kIn hl
  rw [List.append_nil] at bd
  refine wpAny_call (make_map (f := f) I.kIn M.makes M.init (beq_iff_eq.mp M.fn) (codeAny_mono (F.run _ X.stack _ _ ⟨Value.ref (s.heap.objs.size + 1) :: us, []⟩ _ _ _ (E σ) (hr.make C us []) (J.env0.make C us []) bd rr big) fun r s' hq => ?_))
  cases r with
  | error er => exact hx pins _ _ er s' J hq
  | ok fl =>
    cases fl with
    | ret u =>
      obtain ⟨v, H', J3, rv, ev, q3⟩ := J.after hq
      subst ev
      exact ⟨rv, ⟨V.ref (s.heap.objs.size + 1), H', J3, rfl, q3⟩⟩
    | next => exact False.elim hq
    | brk => exact False.elim hq
    | cont => exact False.elim hq
theorem pe_makeAt (M : Mk X.K C f) (F : FnOk X.prog X.w X.K X.mg X.base CX k f fd ps sp) (hr : Room (k + 1) X.A) (hg : Gl X x) (hm : X.mg x = some (.ref C)) (hb : Binds X.K fd ps []) (hx : ∀ σ, PassesAt CX X σ (E σ))
    (ha : PA X (e :: es) t) (hdb : (x == ("__debug__" : Str)) = false := by decide) (he : starEach (e :: es) X.env = (false, eval e X.env) :: starEach es X.env := by rfl) (hpl : (backTo pos (starEach es X.env)).any (·.1) = false := by rfl) :
    PE X (.Call (.Name x p) (e :: es) [] pos) (tMakeAt C sp E t) := by
  refine ⟨fun pins s σ H Q I h => ?_⟩
  refine wpAny_Call_Name_kw (ld_glob I hg hm ?_ hdb)
  exact PySem.W.callWith_K (h₀ := X.base) I.ok.mod.kin M.kp (thn (ha.run pos pins s σ H _ I h) fun us s1 ⟨vs, H1, I1, r, q⟩ => ⟨I1.kIn, run_makeAt M F hr hb (hx σ) I1 r q⟩) he hpl
end
def rLenO (C : Addr) : List V → Hp → VK → Prop := fun xs H Q => ∃ a dx fs, xs = [.ref a] ∧ H a = some (.ins C dx fs) ∧ spProgLen C [.ref a] H (fun v H' => ∃ n : Nat, v = .int n ∧ n < 9223372036854775808 ∧ Q (.int n) H') (fun _ _ _ => False)
abbrev sTried : Stmt := top 31
/-- what the class Program gives at these rows -/
def spTried : Sp := fun vs H Q _ => ∃ (l : Addr) (rs : List Row) (cells : List Str), vs = [.ref l] ∧ RowsAt H rs l ∧ Good cells rs ∧ rs.length ≤ 30 ∧ (∀ c ∈ cells, NameOk c) ∧
  (AllOnce rs → ∀ H' t, Same H H' → H' t = some (.tup [.str "told", .int (rs.length : Nat)]) → Q (.ref t) H') ∧
  (∀ f, FirstBad rs f → ∀ H' t, Same H H' → H' t = some (.tup [.str "not", .int (f : Nat)]) → Q (.ref t) H')
section
variable {P : Program} {w : World} {K : PySem.W.Frag} {mg : Str → Option Value} {base : Heap}
theorem scTried : FnScope ["_law_rows_here", "_law_found", "e"] ["_law_rows_here"] (defScope sTried) := ⟨rfl, rfl, rfl, by decide +kernel, rfl, by decide +kernel, by decide +kernel⟩
theorem ok_tried {f C CN fI fL : Addr} {fd fdI fdL : FuncData} (F : Fun K "_law_tried" "_law_tried" sTried f fd)
    (M : Mk K C fI) (gC : mg "Program" = some (.ref C)) (GI : FnOk P w K mg base (L2.CX P w) 6 fI fdI ["self", "rows"] (spProgInit C CN)) (bI : Binds K fdI ["self", "rows"] [])
    (GL : FnOk P w K mg base CX0 1 fL fdL ["self"] (spProgLen C)) (bL : Binds K fdL ["self"] []) (aL : PySem.W.findIn K (.ref C) "__len__" = some (some (.ref fL))) (iL : PySem.W.isFn K (.ref fL) = true)
    (gN : mg "NotOnce" = some (.ref CN)) (xN : XfC K CN) (rN : PySem.W.findIn K (.ref CN) "row" = some none) (te : PySem.W.exmOne K (.ref CN) (.ref CN) = some true) (tl : mg "len" = none) :
    FnOk P w K mg base CX0 8 f fd ["_law_rows_here"] spTried := by
  refine F.ok scTried (fun vs H Q E h => ?_) (fun cdv A outer s H vs Q E hr h => ?_)
  · obtain ⟨l, rs, cells, rfl, _⟩ := h
    rfl
  · have hr2 : Room 2 _ := hr.mono (by decide)
    refine ⟨_, pss_cons (ps_set (i := 1) scTried.nd rfl (Or.inl rfl) (pe_tup (pa_cons pe_str (pa_cons pe_int pa_nil))))
      (pss_cons (ps_try_as (i := 2) (tb := fun W => tAsg (tTup (tCons (tC (.str "told")) (tCons (tCB (rLenO C) (tCons (tMakeAt C (spProgInit C CN) (WE W) (tCons (tVar 0) tNil)) tNil)) tNil))) (gName 1))
          (ts := fun a cls d => tAsg (tTup (tCons (tC (.str "not")) (tCons (tXf a cls d CN "row" (tVar 2)) tNil))) (gName 1)) (Wout := fun _ _ _ _ => False) rfl rfl scTried.nd rfl rfl ⟨rfl, by decide, Or.inl gN⟩ takes0
          (fun W pn xe tk _ => pss_one (ps_set (i := 1) scTried.nd rfl (Or.inl rfl) (by exact (pe_tup (pa_cons pe_str (pa_cons (pe_callB (r := rLenO C) (call_lenOwn (E := fun _ _ _ => False) aL iL GL hr2 bL pass0) (by rfl) tl (by decide +kernel) (pa_cons (pe_makeAt M GI hr (by rfl) gC bI (fun σ => passAt tk σ) (pa_cons (pv 0) pa_nil)) pa_nil)) pa_nil))))))
          (fun a oe cls d pn hz hf => pss_one (ps_set (i := 1) scTried.nd rfl (Or.inl rfl) (by exact (pe_tup (pa_cons pe_str (pa_cons (pe_xf xN rN hz hf (pv 2)) pa_nil)))))))
      (pss_one (ps_ret (pv 1)))), ?_⟩
    obtain ⟨l, rs, cells, rfl, hl, good, n30, nok, kQ, kE⟩ := h
    refine ⟨(by show 2 ≤ sizeLine; decide), fun t0 ht0 => ?_⟩
    refine ⟨_, rfl, fun x dx hx hdx hne => ?_⟩
    have keep : ∀ b o, H b = some o → (upd H t0 (.tup [.str "none", .int 0])) b = some o := same_new ht0
    revert keep hx hdx
    generalize upd H t0 (.tup [.str "none", .int 0]) = H0
    intro hx hdx keep
    have keep2 : ∀ b o, H0 b = some o → (upd (upd H0 dx (.own x)) x (.ins C dx [])) b = some o := fun b o e => by
      rw [upd_ne (ne_of_none e hx), upd_ne (ne_of_none e hdx)]
      exact e
    have back : ∀ H', (∀ b o, (upd (upd H0 dx (.own x)) x (.ins C dx [])) b = some o → b ≠ x → H' b = some o) → Same H H' := fun H' e b o q => e b o (keep2 b o (keep b o q)) (ne_of_none (keep b o q) hx)
    refine ⟨x, l, dx, rs, cells, rfl, upd_same, hl.same fun b o e => keep2 _ _ (keep _ _ e), good, n30, nok, fun on H' s1 pa => ⟨rfl, ?_⟩, fun f fb d H' s1 hd => ⟨true, te, fun _ a ha => ?_, fun q => Bool.noConfusion q⟩⟩
    · obtain ⟨dx', T, as, rs', hp, hT, q1, q2⟩ := id pa
      exact ⟨x, dx', _, rfl, hp, x, rs, rfl, pa, rs.length, rfl, by omega, (by show 2 ≤ sizeLine; decide), fun t ht => ⟨_, rfl, kQ on _ t (same_tr (back H' s1) (same_new ht)) upd_same⟩⟩
    · exact ⟨_, rfl, rfl, rfl, d, _, _, rfl, hd, rfl, (by show 2 ≤ sizeLine; decide), fun t ht => ⟨_, rfl, kE f fb _ t (same_tr (back H' s1) (same_new ht)) upd_same⟩⟩
end
end CC

set_option Elab.async false
set_option maxRecDepth 100000
namespace CC
open PySem L2
set_option linter.unusedVariables false
abbrev sNext : Stmt := top 32
/-- the numbers that a row leads to, the own follower ahead of those of the cases -/
def Row.nx : Row → List Nat
  | .rest m => [m]
  | .ins m => [m]
  | .wr _ _ m => [m]
  | .rd _ cs m => m :: cs.map (·.2)
theorem Row.nx_fol {r : Row} {q : Nat} : q ∈ r.nx ↔ q ∈ r.fol := by
  cases r with
  | rest m => exact Iff.rfl
  | ins m => exact Iff.rfl
  | wr c v m => exact Iff.rfl
  | rd c cs m =>
    show q ∈ m :: cs.map (·.2) ↔ q ∈ cs.map (·.2) ++ [m]
    rw [List.mem_cons, List.mem_append, List.mem_singleton]
    exact Or.comm
theorem Row.nx_len {n : Nat} {r : Row} (h : r.low n) : r.nx.length ≤ 11 := by
  cases r with
  | rest m => exact Nat.le_of_ble_eq_true rfl
  | ins m => exact Nat.le_of_ble_eq_true rfl
  | wr c v m => exact Nat.le_of_ble_eq_true rfl
  | rd c cs m =>
    show (m :: cs.map (·.2)).length ≤ 11
    rw [List.length_cons, List.length_map]
    have := h.2.2.2
    omega
def spNext : Sp := fun vs H Q _ => ∃ (a : Addr) (r : Row) (n : Nat), vs = [.ref a] ∧ RowAt H r a ∧ r.low n ∧ ∀ (b : Addr) (H' : Hp), Same H H' → H b = none → H' b = some (.lst (r.nx.map fun (m : Nat) => V.int (m : Nat))) → Q (.ref b) H'
section
variable {P : Program} {w : World} {K : PySem.W.Frag} {mg : Str → Option Value} {base : Heap}
theorem scNext : FnScope ["_law_row"] ["_law_row"] (defScope sNext) := ⟨rfl, rfl, rfl, by decide +kernel, rfl, by decide +kernel, by decide +kernel⟩
theorem ok_next {f : Addr} {fd : FuncData} (F : Fun K "_law_next" "_law_next" sNext f fd) (tl : mg "list" = none) :
    FnOk P w K mg base CX0 1 f fd ["_law_row"] spNext := by
  refine F.ok scNext (fun vs H Q E h => ?_) (fun cdv A outer s H vs Q E hr h => ?_)
  · obtain ⟨a, r, n, rfl, _⟩ := h
    rfl
  · obtain ⟨a, r, n, rfl, hra, low, k⟩ := h
    refine ⟨_, pss_one (ps_ret (pe_op op_cat (pe_lst (pa_cons (pe_ix ix_tup (pv 0) (pe_un un_neg pe_int) (fun _ _ => rfl)) pa_nil))
      (pe_ifExp (pt_cmpR op_eq (pe_ix ix_tup (pv 0) pe_int (fun _ _ => rfl)) pe_str (nomark _)) (pe_lvals rfl (pe_ix ix_tup (pv 0) pe_int (fun _ _ => rfl)) (by rfl) tl (by decide +kernel)) (pe_lst pa_nil)))), ?_⟩
    cases r with
    | rest m =>
      refine ⟨_, rfl, _, rfl, a, _, _, _, rfl, rfl, SqT.of hra, rfl, (by show 1 ≤ sizeLine; decide), fun q hq => ?_⟩
      have a1 := same_new (o := .lst [V.int (m : Nat)]) hq _ _ hra
      refine ⟨_, rfl, a, _, _, _, rfl, rfl, SqT.of a1, rfl, rfl, _, rfl, ite_no (decide_eq_false (by intro z; cases z)) ?_⟩
      refine ⟨(by show 0 ≤ sizeLine; decide), fun b hb => ?_⟩
      refine ⟨q, b, _, _, rfl, rfl, by rw [upd_ne (ne_of_none upd_same hb)]; exact upd_same, upd_same, (by show 1 ≤ sizeLine; decide), fun c hc => ?_⟩
      exact k c _ (same_tr (same_tr (same_new hq) (same_new hb)) (same_new hc)) ((same_tr (same_new hq) (same_new hb)).free hc) upd_same
    | ins m =>
      refine ⟨_, rfl, _, rfl, a, _, _, _, rfl, rfl, SqT.of hra, rfl, (by show 1 ≤ sizeLine; decide), fun q hq => ?_⟩
      have a1 := same_new (o := .lst [V.int (m : Nat)]) hq _ _ hra
      refine ⟨_, rfl, a, _, _, _, rfl, rfl, SqT.of a1, rfl, rfl, _, rfl, ite_no (decide_eq_false (by intro z; cases z)) ?_⟩
      refine ⟨(by show 0 ≤ sizeLine; decide), fun b hb => ?_⟩
      refine ⟨q, b, _, _, rfl, rfl, by rw [upd_ne (ne_of_none upd_same hb)]; exact upd_same, upd_same, (by show 1 ≤ sizeLine; decide), fun c hc => ?_⟩
      exact k c _ (same_tr (same_tr (same_new hq) (same_new hb)) (same_new hc)) ((same_tr (same_new hq) (same_new hb)).free hc) upd_same
    | wr c v m =>
      refine ⟨_, rfl, _, rfl, a, _, _, _, rfl, rfl, SqT.of hra, rfl, (by show 1 ≤ sizeLine; decide), fun q hq => ?_⟩
      have a1 := same_new (o := .lst [V.int (m : Nat)]) hq _ _ hra
      refine ⟨_, rfl, a, _, _, _, rfl, rfl, SqT.of a1, rfl, rfl, _, rfl, ite_no (decide_eq_false (by intro z; cases z)) ?_⟩
      refine ⟨(by show 0 ≤ sizeLine; decide), fun b hb => ?_⟩
      refine ⟨q, b, _, _, rfl, rfl, by rw [upd_ne (ne_of_none upd_same hb)]; exact upd_same, upd_same, (by show 1 ≤ sizeLine; decide), fun c hc => ?_⟩
      exact k c _ (same_tr (same_tr (same_new hq) (same_new hb)) (same_new hc)) ((same_tr (same_new hq) (same_new hb)).free hc) upd_same
    | rd cc cs m =>
      obtain ⟨d, h1, h2⟩ := hra
      refine ⟨_, rfl, _, rfl, a, _, _, _, rfl, rfl, SqT.of h1, rfl, (by show 1 ≤ sizeLine; decide), fun q hq => ?_⟩
      have sq := same_new (o := .lst [V.int (m : Nat)]) hq
      refine ⟨_, rfl, a, _, _, _, rfl, rfl, SqT.of (sq _ _ h1), rfl, rfl, _, rfl, ite_yes (decide_eq_true rfl) ?_⟩
      refine ⟨_, rfl, a, _, _, _, rfl, rfl, SqT.of (sq _ _ h1), rfl, d, _, rfl, sq _ _ h2, fun b hb => ?_⟩
      refine ⟨q, b, _, _, rfl, rfl, by rw [upd_ne (ne_of_none upd_same hb)]; exact upd_same, upd_same, ?_, fun c hc => ?_⟩
      · refine Nat.le_of_lt (small ?_)
        unfold kvOf
        show 1 + ((cs.map _).map _).length < 1000000
        rw [List.length_map, List.length_map]
        have := low.2.2.2
        omega
      · refine k c _ (same_tr (same_tr (same_new hq) (same_new hb)) (same_new hc)) ((same_tr (same_new hq) (same_new hb)).free hc) ?_
        rw [upd_same]
        unfold kvOf Row.nx
        rw [List.map_map, List.map_cons, List.map_map]
        rfl
end
end CC

set_option Elab.async false
set_option maxRecDepth 100000
namespace CC
open PySem L2
set_option linter.unusedVariables false
/-! ### pairs of small numbers, as data -/
def pr2 (p : Nat × Nat) : PyData := .tuple [.int (p.1 : Nat), .int (p.2 : Nat)]
def PrAt (H : Hp) (t : Addr) (p : Nat × Nat) : Prop := H t = some (.tup [V.int (p.1 : Nat), V.int (p.2 : Nat)])
theorem pr2_eqv (p q : Nat × Nat) : PyData.eqv (pr2 p) (pr2 q) = decide (p = q) := by
  obtain ⟨a, b⟩ := p
  obtain ⟨c, d⟩ := q
  have e : PyData.eqv (pr2 (a, b)) (pr2 (c, d)) = (((a : Int) == (c : Int)) && (((b : Int) == (d : Int)) && true)) := by simp only [pr2, PyData.eqv, PyData.eqvAll]
  rw [e]
  by_cases h1 : a = c
  · by_cases h2 : b = d
    · subst h1 h2
      simp
    · have z : ((b : Int) == (d : Int)) = false := beq_eq_false_iff_ne.mpr (by omega)
      rw [z, decide_eq_false (by intro y; injection y with y1 y2; exact h2 y2)]
      simp
  · have z : ((a : Int) == (c : Int)) = false := beq_eq_false_iff_ne.mpr (by omega)
    rw [z, decide_eq_false (by intro y; injection y with y1 y2; exact h1 y1)]
    simp
theorem pr2_depth (p : Nat × Nat) : (pr2 p).depth = 1 := by simp [pr2, PyData.depth, PyData.depthAll]
theorem pr2_shaped (p : Nat × Nat) : SeqAt.shaped (pr2 p) = true := by
  have h := pr2_depth p
  have h2 : (pr2 p).canLay0 = true := by simp [pr2, PyData.canLay0, PyData.canLayAll0]
  show ((pr2 p).canLay0 && decide ((pr2 p).depth ≤ 64)) = true
  rw [h2, h]
  decide
theorem prs_lay : ∀ F : List (Nat × Nat), PyData.canLayAll0 (F.map pr2) = true ∧ PyData.depthAll (F.map pr2) ≤ 1
  | [] => ⟨by simp [PyData.canLayAll0], by simp [PyData.depthAll]⟩
  | p :: F => by
    obtain ⟨h1, h2⟩ := prs_lay F
    have h3 := pr2_depth p
    have h4 : (pr2 p).canLay0 = true := by simp [pr2, PyData.canLay0, PyData.canLayAll0]
    refine ⟨by simp only [List.map_cons, PyData.canLayAll0, h1, h4, Bool.and_self], ?_⟩
    simp only [List.map_cons, PyData.depthAll]
    omega
theorem prs_shaped (F : List (Nat × Nat)) : SeqAt.shaped (.list (F.map pr2)) = true := by
  obtain ⟨h1, h2⟩ := prs_lay F
  have h3 : PyData.depth (.list (F.map pr2)) ≤ 64 := by
    simp only [PyData.depth]
    omega
  show (PyData.canLay0 (.list (F.map pr2)) && decide (PyData.depth (.list (F.map pr2)) ≤ 64)) = true
  rw [Bool.and_eq_true]
  exact ⟨by simp only [PyData.canLay0]; exact h1, decide_eq_true h3⟩
theorem any_pr (F : List (Nat × Nat)) (q : Nat × Nat) : ((F.map pr2).any fun z => PyData.eqv z (pr2 q)) = decide (q ∈ F) := by
  induction F with
  | nil => rfl
  | cons p F ih =>
    rw [List.map_cons, List.any_cons, ih, pr2_eqv]
    by_cases h : p = q
    · subst h
      simp
    · by_cases m : q ∈ F
      · simp [m]
      · have n : q ∉ p :: F := fun z => by
          rcases List.mem_cons.mp z with z | z
          · exact h z.symm
          · exact m z
        rw [decide_eq_false h, decide_eq_false m, decide_eq_false n]
        rfl
theorem dp_pr {K : PySem.W.Frag} {H : Hp} {t : Addr} {p : Nat × Nat} (h : PrAt H t p) : Dp K H (.ref t) (pr2 p) := .tup (SqT.of h) (.cons (.int _) (.cons (.int _) .nil))
theorem dp_prs {K : PySem.W.Frag} {H : Hp} : ∀ {ts : List Addr} {F : List (Nat × Nat)}, Paired (PrAt H) ts F → DpAll K H (ts.map V.ref) (F.map pr2)
  | _, _, .nil => .nil
  | _, _, .cons h r => .cons (dp_pr h) (dp_prs r)
/-! ### a list of pairs out of a list of numbers -/
theorem lc_pairs {K : PySem.W.Frag} {l : Addr} {ns : List Nat} {c i : Nat} {t2 : TE} {ow : List Nat} {σ : L2.St} {H1 : Hp} {D : Addr} {Qd : Hp → Prop} (hl : H1 l = some (.lst (ns.map fun (m : Nat) => V.int (m : Nat)))) (hn : ns.length ≤ 11) (hD : H1 D = none)
    (hw : ∀ x : V, wipe ((wipe σ ow).set i (some x)) ow = wipe σ ow) (hx : ((wipe σ ow).set i (some (V.int 0))).length = (wipe σ ow).length → i < (wipe σ ow).length) (h2 : ∀ (x : V) (H : Hp) (Q : VK), Q (V.int (c : Nat)) H → t2 ((wipe σ ow).set i (some x)) H Q)
    (k : ∀ (H2 : Hp) (us : List Addr), Same H1 H2 → H2 D = some (.lst (us.map V.ref)) → Paired (PrAt H2) us (ns.map fun q => (q, c)) → Qd H2) :
    ∃ R : Nat → Nat → Hp → Prop, (∃ m, R 0 m (upd H1 D (.lst []))) ∧ ∀ j m H, R j m H →
      ((Itl K l).stop j H ∧ Qd H) ∨ ((Itl K l).go j H ∧ ∃ Ny : Hp → Prop, (∀ H', Ny H' → ∃ m', m' < m ∧ R (j + 1) m' H') ∧ ∀ x H', (Itl K l).yld j H x H' → gName i x (wipe σ ow) H' fun σ2 H2 => wipe σ2 ow = wipe σ ow ∧ tYes σ2 H2 fun b H3 =>
        if b = true then tTup (tCons (tVar i) (tCons t2 tNil)) σ2 H3 fun y H4 => ∃ got, H4 D = some (.lst got) ∧ got.length < sizeLine ∧ Ny (upd H4 D (.lst (got ++ [y]))) else Ny H3) := by
  refine lc_list (K := K) (a := l) (xs := ns.map fun (m : Nat) => V.int (m : Nat)) (fun j H3 => ∃ us : List Addr, H3 D = some (.lst (us.map V.ref)) ∧ Paired (PrAt H3) us ((ns.take j).map fun q => (q, c)) ∧ Same H1 H3)
    ⟨[], upd_same, .nil, same_new hD⟩ (fun j H3 _ ⟨_, _, _, e⟩ => SqL.of (e _ _ hl)) ?_ ?_
  · rintro j y H3 hi ⟨us, hD3, hp3, s3⟩
    rw [List.getElem?_map] at hi
    obtain ⟨z, hz, rfl⟩ : ∃ z : Nat, ns[j]? = some z ∧ y = V.int (z : Nat) := by
      cases e : ns[j]? with
      | none =>
        rw [e] at hi
        cases hi
      | some z =>
        rw [e] at hi
        exact ⟨z, rfl, (Option.some.inj hi).symm⟩
    have ul : us.length ≤ 11 := by
      have h1 := hp3.length
      rw [List.length_map, List.length_take] at h1
      omega
    have il := hx (List.length_set ..)
    refine ⟨hw _, tyes_if ?_⟩
    refine ⟨V.int (z : Nat), by rw [List.getElem?_set_self il], h2 _ _ _ ⟨(by show 2 ≤ sizeLine; decide), fun t1 ht1 => ?_⟩⟩
    have ntD : D ≠ t1 := ne_of_none hD3 ht1
    refine ⟨us.map V.ref, by rw [upd_ne ntD]; exact hD3, small (by rw [List.length_map]; omega), us ++ [t1], ?_, ?_, same_put (same_tr s3 (same_new ht1)) hD⟩
    · rw [upd_same, List.map_append]
      rfl
    · have tk : ns.take (j + 1) = ns.take j ++ [z] := by rw [List.take_add_one, hz]; rfl
      rw [tk, List.map_append]
      refine Paired.snoc (L2.Paired.mapP hp3 fun b p hb => ?_) ?_
      · show _ = _
        rw [upd_ne (ne_of hb hD3 (by intro z; cases z)), upd_ne (ne_of_none hb ht1)]
        exact hb
      · show _ = _
        rw [upd_ne ntD.symm, upd_same]
  · rintro H3 ⟨us, hD3, hp3, s3⟩
    rw [List.length_map, List.take_length] at hp3
    exact k H3 us s3 hD3 hp3
/-! ### the heads of rows, the numbers of the ways -/
def Row.hd : Row → Str
  | .rest _ => "rest"
  | .ins _ => "inside"
  | .wr _ _ _ => "write"
  | .rd _ _ _ => "read"
theorem RowAt.hd {H : Hp} {r : Row} {a : Addr} (h : RowAt H r a) : ∃ xs, H a = some (.tup (.str r.hd :: xs)) := by
  cases r with
  | rest n => exact ⟨_, h⟩
  | ins n => exact ⟨_, h⟩
  | wr c v n => exact ⟨_, h⟩
  | rd c cs n =>
    obtain ⟨d, h1, _⟩ := h
    exact ⟨_, h1⟩
end CC

set_option Elab.async false
set_option maxRecDepth 100000
namespace CC
open PySem L2
set_option linter.unusedVariables false
abbrev sRight : Stmt := top 33
def spRight : Sp := fun vs H Q _ => ∃ (l : Addr) (rs : List Row) (first : Nat), vs = [.ref l, .int (first : Nat)] ∧ RowsAt H rs l ∧ (∀ r ∈ rs, r.low rs.length) ∧ rs.length ≤ 30 ∧ first < rs.length ∧
  ∀ (b : Bool) (H' : Hp), Same H H' → (b = true ↔ Once rs first) → Q (.bl b) H'
theorem notInK {X : Cx} {K : PySem.W.Frag} (e : X.K = K) (hu : X.A.units + 65 < cLine) : OpR X (compareOp .NotIn) (rNotInD K) := by
  rw [← e]
  exact op_notInD hu
theorem atZ {x : V} {xs : List V} : atI (x :: xs) 0 = some x := (show atI (x :: xs) ((0 : Nat) : Int) = some x from atI_nat (j := 0) rfl)
theorem tor_ans {t u v : TT} {σ : L2.St} {H : Hp} {Q : Bool → Hp → Prop} (b1 b2 b3 : Bool) (h1 : ∀ Q : Bool → Hp → Prop, Q b1 H → t σ H Q) (h2 : ∀ Q : Bool → Hp → Prop, Q b2 H → u σ H Q) (h3 : ∀ Q : Bool → Hp → Prop, Q b3 H → v σ H Q) (q : Q (b1 || (b2 && b3)) H) : tOr t (tAnd u v) σ H Q := by
  refine h1 _ ?_
  cases b1 with
  | true => exact iteT q
  | false =>
    refine iteF (h2 _ ?_)
    cases b2 with
    | true => exact iteT (h3 _ q)
    | false => exact iteF q
theorem step_of {rs : List Row} {p : Nat × Nat} {r : Row} (hr : rs[p.1]? = some r) (hp : p.2 ≤ 1) : ∃ c : Nat, ((p.2 : Nat) : Int) + (if decide (V.str r.hd = V.str "inside") = true then 1 else 0) = (c : Nat) ∧
    ((nxt rs p = none ∧ (1 < c ∨ (r.hd = "rest" ∧ c = 0))) ∨ (c ≤ 1 ∧ ((r.hd = "rest" ∧ c ≠ 0 ∧ nxt rs p = some []) ∨ (r.hd ≠ "rest" ∧ nxt rs p = some (r.fol.map fun q => (q, c)))))) := by
  unfold nxt
  rw [hr]
  cases r with
  | rest m =>
    refine ⟨p.2, by rw [if_neg (by intro z; exact absurd (of_decide_eq_true z) (by intro y; cases y))]; omega, ?_⟩
    by_cases z : p.2 = 0
    · exact .inl ⟨if_pos z, .inr ⟨rfl, z⟩⟩
    · exact .inr ⟨hp, .inl ⟨rfl, z, if_neg z⟩⟩
  | ins m =>
    refine ⟨p.2 + 1, by rw [if_pos (show decide (V.str (Row.ins m).hd = V.str "inside") = true from decide_eq_true rfl)]; omega, ?_⟩
    by_cases z : p.2 = 0
    · exact .inr ⟨by omega, .inr ⟨(by intro y; cases y), if_neg (by omega)⟩⟩
    · exact .inl ⟨if_pos (by omega), .inl (by omega)⟩
  | wr x v m =>
    exact ⟨p.2, by rw [if_neg (by intro z; exact absurd (of_decide_eq_true z) (by intro y; cases y))]; omega, .inr ⟨hp, .inr ⟨(by intro y; cases y), rfl⟩⟩⟩
  | rd x cs m =>
    exact ⟨p.2, by rw [if_neg (by intro z; exact absurd (of_decide_eq_true z) (by intro y; cases y))]; omega, .inr ⟨hp, .inr ⟨(by intro y; cases y), rfl⟩⟩⟩
/-- the loop's own: who stands in the list, how far it is looked at -/
def RInv (rs : List Row) (first : Nat) (H : Hp) (l D : Addr) (m : Nat) (σ : L2.St) (H' : Hp) : Prop := ∃ (at_ : Nat) (F E : List (Nat × Nat)) (ts : List Addr) (v2 v5 v6 : Option V), σ = [some (.ref l), some (.int (first : Nat)), v2, some (.ref D), some (.int (at_ : Nat)), v5, v6, none, none] ∧ H' D = some (.lst (ts.map V.ref)) ∧
  Paired (PrAt H') ts F ∧ at_ ≤ F.length ∧ (∀ i p, i < at_ → F[i]? = some p → ∃ qs, nxt rs p = some qs ∧ ∀ q ∈ qs, q ∈ F) ∧ (∀ p ∈ F, p.1 < rs.length ∧ p.2 ≤ 1 ∧ Rch rs (ini rs first) p) ∧ (∀ p ∈ ini rs first, p ∈ F) ∧ Same H H' ∧ (E.Nodup ∧ ∀ p ∈ E, p ∈ F) ∧ F.length ≤ 11 * (E.length + 1) ∧ m = 1000 - at_
section
variable {P : Program} {w : World} {K : PySem.W.Frag} {mg : Str → Option Value} {base : Heap}
abbrev NR : List Str := ["_law_rows_here", "_law_first", "_law_k", "_law_found", "_law_at", "_law_often", "_law_later", "_law_other", "_law_pair"]
theorem scRight : FnScope NR ["_law_rows_here", "_law_first"] (defScope sRight) := ⟨rfl, rfl, rfl, by decide +kernel, rfl, by decide +kernel, by decide +kernel⟩
theorem ok_right {f fX : Addr} {fd fdX : FuncData} (F : Fun K "_law_is_right" "_law_is_right" sRight f fd)
    (GX : FnOk P w K mg base CX0 1 fX fdX ["_law_row"] spNext) (mX : mg "_law_next" = some (.ref fX)) (kX : PySem.W.keepIn K (.ref fX) = true) (bX : Binds K fdX ["_law_row"] []) (tl : mg "len" = none) (ti : mg "int" = none) :
    FnOk P w K mg base CX0 2 f fd ["_law_rows_here", "_law_first"] spRight := by
  refine F.ok scRight (fun vs H Q E h => ?_) (fun cdv A outer s H vs Q E hr h => ?_)
  · obtain ⟨l, rs, first, rfl, _⟩ := h
    rfl
  · obtain ⟨l, rs, first, rfl, hl, low, n30, fl, k⟩ := h
    have hu : (A.deeper (PyProof.Rows.envOfC "_law_is_right" (defScope sRight) s.heap.objs.size f cdv)).units + 65 < cLine := by
      have := hr.un
      omega
    refine ⟨_, pss_cons (ps_asg (pe_tup (pa_cons (pe_lc (own := [("_law_k", 2)]) (g := gName 2) (by rfl) scRight.nd (pi_list (pe_call GX hr rfl mX kX bX .nil pass0 (pa_cons (pe_ix ix_list (pv 0) (pv 1) (fun _ _ => rfl)) pa_nil))) (blkOk_by (own := [("_law_k", 2)]) (N := NR) (sc := defScope sRight) (by decide +kernel)) (fun _ _ _ _ _ => pg_name (i := 2) scRight.nd rfl (Or.inl rfl)) (fun _ _ _ _ _ => pts_nil) (fun _ _ _ _ _ => pe_tup (pa_cons (pv 2) (pa_cons pe_int pa_nil)))) (pa_cons pe_int pa_nil)))
        (pg_tup (by rfl) (pgs_cons (pg_name (i := 3) scRight.nd rfl (Or.inr rfl)) (pgs_cons (pg_name (i := 4) scRight.nd rfl (Or.inl rfl)) pgs_nil))))
      (pss_cons (ps_while PassesOwn.never (pt_cmpR op_lt (pv 4) (pe_callB call_len_seq (by rfl) tl (by decide +kernel) (pa_cons (pv 3) pa_nil)) (nomark _))
        (pss_cons (ps_asg (pe_ix ix_list (pv 3) (pv 4) (fun _ _ => rfl)) (pg_tup (by rfl) (pgs_cons (pg_name (i := 2) scRight.nd rfl (Or.inl rfl)) (pgs_cons (pg_name (i := 5) scRight.nd rfl (Or.inr rfl)) pgs_nil))))
        (pss_cons (ps_set (i := 4) scRight.nd rfl (Or.inl rfl) (pe_op op_add (pv 4) pe_int))
        (pss_cons (ps_set (i := 5) scRight.nd rfl (Or.inr rfl) (pe_op op_add (pv 5) (pe_callTy call_int1 (by rfl) ti (by decide +kernel) (pa_cons (pe_cmpR op_eq (pe_ix ix_tup (pe_ix ix_list (pv 0) (pv 2) (fun _ _ => rfl)) pe_int (fun _ _ => rfl)) pe_str (nomark _)) pa_nil))))
        (pss_cons (ps_if (PW.pt (pw_or (pt_cmpR op_gt (pv 5) pe_int (nomark _)) (pw_or1 (PW.pt (pw_and (pt_cmpR op_eq (pe_ix ix_tup (pe_ix ix_list (pv 0) (pv 2) (fun _ _ => rfl)) pe_int (fun _ _ => rfl)) pe_str (nomark _)) (pw_and1 (pt_cmpR op_eq (pv 5) pe_int (nomark _)))))))) (pss_one (ps_ret pe_bl)) pss_nil)
        (pss_cons (ps_setLc (i := 6) (own := [("_law_other", 7)]) (g := gName 7) (by rfl) scRight.nd rfl rfl (sw_true rfl rfl rfl (by decide +kernel)) (pi_list (pe_call GX hr rfl mX kX bX .nil pass0 (pa_cons (pe_ix ix_list (pv 0) (pv 2) (fun _ _ => rfl)) pa_nil))) (blkOk_by (own := [("_law_other", 7)]) (N := NR) (sc := defScope sRight) (by decide +kernel)) (fun _ _ _ _ _ => pg_name (i := 7) scRight.nd rfl (Or.inl rfl)) (fun _ _ _ _ _ => pts_nil) (fun _ _ _ _ _ => pe_tup (pa_cons (pv 7) (pa_cons (pv 5) pa_nil))))
        (pss_one (ps_if (pt_cmpR op_ne (pe_ix ix_tup (pe_ix ix_list (pv 0) (pv 2) (fun _ _ => rfl)) pe_int (fun _ _ => rfl)) pe_str (nomark _))
          (pss_one (ps_expr (pe_bm PySem.F.plainAttrs_list PySem.F.slot_list_extend PySem.F.type_list_extend mt_extend (pv 3) (pa_cons
            (pe_lc (own := [("_law_pair", 8)]) (g := gName 8) (by rfl) scRight.nd (pi_list (pv 6)) (blkOk_by (own := [("_law_pair", 8)]) (N := NR) (sc := defScope sRight) (by decide +kernel)) (fun _ _ _ _ _ => pg_name (i := 8) scRight.nd rfl (Or.inl rfl)) (fun _ _ _ _ _ => pts_one (pt_cmpR (notInK (K := K) rfl hu) (pv 8) (pv 3) (by rfl))) (fun _ _ _ _ _ => pv 8)) pa_nil)))) pss_nil))))))))
      (pss_one (ps_ret pe_bl))), ?_⟩
    obtain ⟨as, hl1, hrows⟩ := id hl
    have asl : as.length = rs.length := hrows.length
    have row_at : ∀ i r, rs[i]? = some r → ∃ a, as[i]? = some a ∧ RowAt H r a := fun i r hi => by
      have il : i < as.length := by rw [asl]; exact (List.getElem?_eq_some_iff.mp hi).1
      obtain ⟨b, hb, x⟩ := paired_at hrows (List.getElem?_eq_getElem il)
      rw [hi] at hb
      cases hb
      exact ⟨_, List.getElem?_eq_getElem il, x⟩
    obtain ⟨r0, hr0⟩ : ∃ r, rs[first]? = some r := ⟨_, List.getElem?_eq_getElem fl⟩
    obtain ⟨a0, ha0, hra0⟩ := row_at first r0 hr0
    have low0 := low r0 (List.mem_of_getElem? hr0)
    refine ⟨_, rfl, _, rfl, l, _, _, _, rfl, rfl, SqL.of hl1, atI_nat (by rw [List.getElem?_map, ha0]; rfl), a0, r0, rs.length, rfl, hra0, low0, fun l0 H2 s2 hl0 hl2 => ?_⟩
    refine ⟨l0, rfl, ⟨_, SqL.of hl2⟩, fun D hD => ?_⟩
    refine lc_pairs (c := 0) hl2 (Row.nx_len low0) hD (fun _ => rfl) (fun _ => by show 2 < 9; decide) (fun x H Q q => q) fun H3 us s3 hD3 pu => ?_
    have s13 := same_tr s2 s3
    have hD0 : H D = none := s2.free hD
    refine ⟨(by show 2 ≤ sizeLine; decide), fun t0 ht0 => ⟨t0, _, rfl, SqT.of upd_same, rfl, _, _, rfl, _, _, rfl, rfl, ?_⟩⟩
    have e0 : ∀ p : Nat × Nat, p ∈ (r0.nx.map fun q => (q, 0)) ↔ p ∈ ini rs first := fun p => by
      unfold ini
      rw [hr0]
      show _ ↔ p ∈ r0.fol.map fun q => (q, 0)
      rw [List.mem_map, List.mem_map]
      exact ⟨fun ⟨q, h1, h2⟩ => ⟨q, Row.nx_fol.mp h1, h2⟩, fun ⟨q, h1, h2⟩ => ⟨q, Row.nx_fol.mpr h1, h2⟩⟩
    have s4 := same_new (o := .tup [V.ref D, V.int 0]) ht0
    have in_low : ∀ q ∈ ini rs first, q.1 < rs.length ∧ q.2 ≤ 1 := fun q hq => by
      unfold ini at hq
      rw [hr0] at hq
      obtain ⟨z, hz, rfl⟩ := List.mem_map.mp hq
      exact ⟨Row.fol_low low0 z hz, Nat.zero_le _⟩
    refine ⟨fun m σ H' => RInv rs first H l D m σ H', ⟨_, 0, (r0.nx.map fun q => (q, 0)), [], us, _, _, _, rfl, s4 _ _ hD3, L2.Paired.mapP pu fun a p e => s4 _ _ e, Nat.zero_le _, fun i p h => absurd h (Nat.not_lt_zero _), fun p hp => ?_, fun p hp => (e0 p).mpr hp, same_tr s13 s4, ⟨List.nodup_nil, fun p h => nomatch h⟩, ?_, rfl⟩, ?_⟩
    · have h1 := (e0 p).mp hp
      exact ⟨(in_low p h1).1, (in_low p h1).2, .base h1⟩
    · rw [List.length_map]
      exact Row.nx_len low0
    clear pu hD3 s4 ht0 s13 s3 hl2 hl0 s2 hD
    rintro m σ H1 ⟨at_, F, E2, ts, v2, v5, v6, rfl, hDa, pa, aF, clo, rA, iA, sH, ⟨nE, mE⟩, lenF, rfl⟩
    have pl := pa.length
    have El : E2.length ≤ 60 := few_places nE fun p hp => ⟨by have := (rA p (mE p hp)).1; omega, (rA p (mE p hp)).2.1⟩
    refine ⟨_, rfl, _, rfl, D, _, rfl, .inl (SqL.of hDa), _, _, rfl, rfl, _, rfl, ?_⟩
    by_cases atF : at_ = F.length
    · refine ite_no (decide_eq_false (by rw [List.length_map]; omega)) ?_
      refine k true H1 sH ⟨fun _ => once_of (M := F) iA fun p hp => ?_, fun _ => rfl⟩
      obtain ⟨i, hi⟩ := List.getElem?_of_mem hp
      exact clo i p (by rw [atF]; exact (List.getElem?_eq_some_iff.mp hi).1) hi
    · refine ite_yes (decide_eq_true (by rw [List.length_map]; omega)) ?_
      refine ⟨fun σ' H' => ∃ m', m' < 1000 - at_ ∧ RInv rs first H l D m' σ' H', fun σ' H' z => z, ?_⟩
      have atl : at_ < F.length := by omega
      obtain ⟨p, hp⟩ : ∃ p, F[at_]? = some p := ⟨_, List.getElem?_eq_getElem atl⟩
      obtain ⟨t, ht, htp⟩ : ∃ t, ts[at_]? = some t ∧ PrAt H1 t p := by
        obtain ⟨t, ht, x⟩ := paired_at (paired_flip pa) hp
        exact ⟨t, ht, x⟩
      obtain ⟨pl1, pt, pr⟩ := rA p (List.mem_of_getElem? hp)
      obtain ⟨r, hr'⟩ : ∃ r, rs[p.1]? = some r := ⟨_, List.getElem?_eq_getElem pl1⟩
      obtain ⟨a, hia, hra⟩ := row_at p.1 r hr'
      have rlow := low r (List.mem_of_getElem? hr')
      have ra1 : RowAt H1 r a := hra.mono (fun b xs x => sH _ _ x) fun b xs x => sH _ _ x
      obtain ⟨rx, hrx⟩ := ra1.hd
      have hl1' := sH _ _ hl1
      refine ⟨_, rfl, _, rfl, D, _, _, _, rfl, rfl, SqL.of hDa, atI_nat (by rw [List.getElem?_map, ht]; rfl), t, _, rfl, SqT.of htp, rfl, _, _, rfl, _, _, rfl, rfl, ?_⟩
      refine ⟨_, rfl, _, _, rfl, rfl, ?_⟩
      refine ⟨_, rfl, _, rfl, _, rfl, l, _, _, _, rfl, rfl, SqL.of hl1', atI_nat (by rw [List.getElem?_map, hia]; rfl), a, _, _, V.str r.hd, rfl, rfl, SqT.of hrx, atZ, rfl, .inr ⟨_, rfl, _, _, rfl, rfl, ?_⟩⟩
      obtain ⟨c, ec, cases_⟩ := step_of hr' pt
      unfold gName
      dsimp only
      unfold tSeq
      dsimp only
      unfold tIfS
      refine tor_ans (decide (1 < c)) (decide (r.hd = "rest")) (decide (c = 0)) (fun Q q => ⟨_, rfl, _, _, rfl, rfl, _, rfl, ?_⟩) (fun Q q => ⟨_, rfl, _, rfl, l, _, _, _, rfl, rfl, SqL.of hl1', atI_nat (by rw [List.getElem?_map, hia]; rfl), a, _, _, V.str r.hd, rfl, rfl, SqT.of hrx, atZ, rfl, _, rfl, ?_⟩) (fun Q q => ⟨_, rfl, rfl, _, rfl, ?_⟩) ?_
      · have e1 : decide ((1 : Int) < ((p.2 : Nat) : Int) + (if decide (V.str r.hd = V.str "inside") = true then 1 else 0)) = decide (1 < c) := by
          rw [ec]
          exact decide_eq_decide.mpr (by omega)
        show Q (decide ((1 : Int) < ((p.2 : Nat) : Int) + (if decide (V.str r.hd = V.str "inside") = true then 1 else 0))) H1
        rw [e1]
        exact q
      · have e1 : decide (V.str r.hd = V.str "rest") = decide (r.hd = "rest") := decide_eq_decide.mpr ⟨fun z => V.str.inj z, fun z => congrArg V.str z⟩
        rw [e1]
        exact q
      · have e1 : decide (V.int (((p.2 : Nat) : Int) + (if decide (V.str r.hd = V.str "inside") = true then 1 else 0)) = V.int 0) = decide (c = 0) := by
          rw [ec]
          exact decide_eq_decide.mpr ⟨fun z => by injection z with z; omega, fun z => by rw [z]; rfl⟩
        show Q (decide (V.int (((p.2 : Nat) : Int) + (if decide (V.str r.hd = V.str "inside") = true then 1 else 0)) = V.int 0)) H1
        rw [e1]
        exact q
      · rcases cases_ with ⟨bad, cond⟩ | ⟨c1, good⟩
        · refine ite_yes ?_ (k false H1 sH ⟨(fun z => nomatch z), fun o => absurd bad (o p pr)⟩)
          rcases cond with z | ⟨z1, z2⟩
          · rw [decide_eq_true z, Bool.true_or]
          · rw [decide_eq_true z1, decide_eq_true z2, Bool.and_true, Bool.or_true]
        · refine ite_no ?_ ?_
          · rw [decide_eq_false (by omega), Bool.false_or]
            rcases good with ⟨_, z, _⟩ | ⟨z, _⟩
            · rw [decide_eq_false z, Bool.and_false]
            · rw [decide_eq_false z, Bool.false_and]
          · refine ⟨_, rfl, _, rfl, l, _, _, _, rfl, rfl, SqL.of hl1', atI_nat (by rw [List.getElem?_map, hia]; rfl), a, r, rs.length, rfl, ra1, rlow, fun l2 H2 s2 hl2n hl2 => ⟨l2, rfl, ⟨_, SqL.of hl2⟩, fun D2 hD2 => lc_pairs (c := c) hl2 (Row.nx_len rlow) hD2 (fun _ => rfl) (fun _ => by show 7 < 9; decide) (fun x H Q q => ⟨V.int (c : Nat), congrArg (fun z => some (some (V.int z))) ec, q⟩) fun H3 us s3 hD3 pu => ?_⟩⟩
            have s13 := same_tr s2 s3
            refine ⟨_, rfl, _, rfl, l, _, _, _, rfl, rfl, SqL.of (s13 _ _ hl1'), atI_nat (by rw [List.getElem?_map, hia]; rfl), a, _, _, V.str r.hd, rfl, rfl, SqT.of (s13 _ _ hrx), atZ, rfl, _, rfl, ?_⟩
            have F3 := s13 _ _ hDa
            have pa3 := L2.Paired.mapP pa fun a p e => s13 _ _ e
            rcases good with ⟨z1, z2, z3⟩ | ⟨z1, z3⟩
            · refine ite_no (by rw [decide_eq_true (congrArg V.str z1)]; rfl) ?_
              refine ⟨1000 - (at_ + 1), by omega, at_ + 1, F, E2, ts, _, _, _, rfl, F3, pa3, by omega, fun i q hi hq => ?_, rA, iA, same_tr sH s13, ⟨nE, mE⟩, lenF, rfl⟩
              by_cases y : i = at_
              · rw [y, hp] at hq
                cases hq
                exact ⟨_, z3, fun _ h => nomatch h⟩
              · exact clo i q (by omega) hq
            · refine ite_yes (by rw [decide_eq_false (fun y => z1 (V.str.inj y))]; rfl) ?_
              have usl := pu.length
              rw [List.length_map] at usl
              have nx11 := Row.nx_len rlow
              refine ⟨_, rfl, .inl ⟨rfl, _, Or.inl (Or.inl F3)⟩, _, rfl, D2, rfl, ⟨_, SqL.of hD3⟩, fun D3 hN3 => ?_⟩
              refine lc_list (K := K) (g := gName 8) (tt := tTest (tOp (rNotInD K) (tVar 8) (tVar 3))) (te := tVar 8) (vs := [8]) (a := D2) (xs := us.map V.ref) (fun i H4 => ∃ vs : List Addr, H4 D3 = some (.lst (vs.map V.ref)) ∧ Paired (PrAt H4) vs (((r.nx.map fun q => (q, c)).take i).filter fun q => decide (q ∉ F)) ∧ Same H3 H4)
                ⟨[], upd_same, .nil, same_new hN3⟩ (fun i H4 _ ⟨_, _, _, e⟩ => SqL.of (e _ _ hD3)) ?_ ?_
              · rintro i y H4 hi ⟨vs, h1, h2, s4⟩
                rw [List.getElem?_map] at hi
                obtain ⟨u, hiu, rfl⟩ : ∃ u, us[i]? = some u ∧ y = V.ref u := by
                  cases e : us[i]? with
                  | none =>
                    rw [e] at hi
                    cases hi
                  | some z =>
                    rw [e] at hi
                    exact ⟨z, rfl, (Option.some.inj hi).symm⟩
                obtain ⟨q, hq, hqu⟩ := paired_at pu hiu
                have tk : (r.nx.map fun q => (q, c)).take (i + 1) = (r.nx.map fun q => (q, c)).take i ++ [q] := by rw [List.take_add_one, hq]; rfl
                have vl : vs.length ≤ 11 := by
                  have h3 := h2.length
                  have h4 := List.length_filter_le (fun q => decide (q ∉ F)) ((r.nx.map fun q => (q, c)).take i)
                  rw [List.length_take, List.length_map] at h4
                  omega
                refine ⟨rfl, _, rfl, _, rfl, pr2 q, F.map pr2, dp_pr (s4 _ _ hqu), .lst (SqL.of (s4 _ _ F3)) (dp_prs (L2.Paired.mapP pa3 fun a p e => s4 _ _ e)), pr2_shaped q, prs_shaped F, _, rfl, ?_⟩
                by_cases m : q ∈ F
                · refine ite_no (by rw [any_pr, decide_eq_true m]; rfl) ⟨vs, h1, ?_, s4⟩
                  have e : ([q] : List (Nat × Nat)).filter (fun q => decide (q ∉ F)) = [] := by simp [m]
                  rw [tk, List.filter_append, e, List.append_nil]
                  exact h2
                · refine ite_yes (by rw [any_pr, decide_eq_false m]; rfl) ⟨_, rfl, vs.map V.ref, h1, small (by rw [List.length_map]; omega), vs ++ [u], ?_, ?_, same_put s4 hN3⟩
                  · rw [upd_same, List.map_append]
                    rfl
                  · have e : ([q] : List (Nat × Nat)).filter (fun q => decide (q ∉ F)) = [q] := by simp [m]
                    rw [tk, List.filter_append, e]
                    refine Paired.snoc (L2.Paired.mapP h2 fun b p hb => ?_) ?_
                    · show _ = _
                      rw [upd_ne (ne_of hb h1 (by intro z; cases z))]
                      exact hb
                    · show _ = _
                      have hb := s4 _ _ hqu
                      rw [upd_ne (ne_of hb h1 (by intro z; cases z))]
                      exact hb
              · rintro H4 ⟨vs, h1, h2, s4⟩
                have full : (r.nx.map fun q => (q, c)).take (us.map V.ref).length = r.nx.map fun q => (q, c) := List.take_of_length_le (by rw [List.length_map, List.length_map]; omega)
                rw [full] at h2
                have Bm : ∀ z, z ∈ (r.nx.map fun q => (q, c)).filter (fun q => decide (q ∉ F)) ↔ (z ∈ r.fol.map fun q => (q, c)) ∧ z ∉ F := fun z => by
                  rw [List.mem_filter, List.mem_map, List.mem_map]
                  constructor
                  · rintro ⟨⟨q, h3, h4⟩, h5⟩
                    exact ⟨⟨q, Row.nx_fol.mp h3, h4⟩, of_decide_eq_true h5⟩
                  · rintro ⟨⟨q, h3, h4⟩, h5⟩
                    exact ⟨⟨q, Row.nx_fol.mpr h3, h4⟩, decide_eq_true h5⟩
                have Bl : ((r.nx.map fun q => (q, c)).filter (fun q => decide (q ∉ F))).length ≤ 11 := by
                  have h4 := List.length_filter_le (fun q => decide (q ∉ F)) (r.nx.map fun q => (q, c))
                  rw [List.length_map] at h4
                  omega
                revert h2 Bm Bl
                generalize (r.nx.map fun q => (q, c)).filter (fun q => decide (q ∉ F)) = B
                intro h2 Bm Bl
                have F4 := s4 _ _ F3
                have nD3 : D ≠ D3 := fun z => by
                  rw [z, hN3] at F3
                  cases F3
                have vl := h2.length
                refine ⟨D, D3, _, _, rfl, rfl, F4, h1, Nat.le_of_lt (small (by rw [List.length_map, List.length_map]; omega)), ?_⟩
                obtain ⟨E3, n3, m3, l3⟩ : ∃ E3 : List (Nat × Nat), E3.Nodup ∧ (∀ p ∈ E3, p ∈ F ++ B) ∧ (F ++ B).length ≤ 11 * (E3.length + 1) := by
                  cases B with
                  | nil => exact ⟨E2, nE, fun p hp => List.mem_append_left _ (mE p hp), by rw [List.append_nil]; exact lenF⟩
                  | cons b B' =>
                    refine ⟨b :: E2, List.nodup_cons.mpr ⟨fun z => ((Bm b).mp (List.mem_cons_self ..)).2 (mE b z), nE⟩, fun p hp => ?_, ?_⟩
                    · rcases List.mem_cons.mp hp with z | z
                      · rw [z]
                        exact List.mem_append_right _ (List.mem_cons_self ..)
                      · exact List.mem_append_left _ (mE p z)
                    · rw [List.length_append, List.length_cons]
                      rw [List.length_cons] at Bl
                      rw [List.length_cons]
                      omega
                have keepT : ∀ b xs, H4 b = some (.tup xs) → (upd H4 D (.lst (ts.map V.ref ++ vs.map V.ref))) b = some (.tup xs) := fun b xs e => by
                  rw [upd_ne (ne_of e F4 (by intro z; cases z))]
                  exact e
                refine ⟨1000 - (at_ + 1), by omega, at_ + 1, F ++ B, E3, ts ++ vs, _, _, _, rfl, by rw [upd_same, List.map_append], paired_app (L2.Paired.mapP pa3 fun a p e => keepT _ _ (s4 _ _ e)) (L2.Paired.mapP h2 fun a p e => keepT _ _ e), by rw [List.length_append]; omega, fun i q hi hq => ?_, fun q hq => ?_, fun q hq => List.mem_append_left _ (iA q hq), same_put (same_tr sH (same_tr s13 s4)) hD0, ⟨n3, m3⟩, l3, rfl⟩
                · rw [List.getElem?_append_left (by omega)] at hq
                  by_cases y : i = at_
                  · rw [y, hp] at hq
                    cases hq
                    refine ⟨_, z3, fun z hz => ?_⟩
                    by_cases zF : z ∈ F
                    · exact List.mem_append_left _ zF
                    · exact List.mem_append_right _ ((Bm z).mpr ⟨hz, zF⟩)
                  · obtain ⟨qs, e1, e2⟩ := clo i q (by omega) hq
                    exact ⟨qs, e1, fun z hz => List.mem_append_left _ (e2 z hz)⟩
                · rcases List.mem_append.mp hq with h | h
                  · exact rA q h
                  · have hm := ((Bm q).mp h).1
                    obtain ⟨x, hx, e⟩ := List.mem_map.mp hm
                    refine ⟨?_, ?_, .step pr z3 hm⟩
                    · rw [← e]
                      exact Row.fol_low rlow x hx
                    · rw [← e]
                      exact c1
end
end CC

set_option Elab.async false
set_option maxRecDepth 100000
namespace CC
open PySem L2
set_option linter.unusedVariables false
abbrev sAny : Stmt := top 34
/-- any rows that a program may be of but for the point of the inside -/
def spAny : Sp := fun vs H Q _ => ∃ (p : Addr) (n : Nat), vs = [.ref p] ∧ Src p n H ∧ n + 200 < 1000000 ∧
  ∀ (q : Addr) (rs : List Row) (H' : Hp), Grow p H H' → H q = none → RowsAt H' rs q → Good [("a" : Str)] rs → rs.length ≤ 30 → Src p (n + 200) H' → Q (.ref q) H'
section
variable {P : Program} {w : World} {K : PySem.W.Frag} {mg : Str → Option Value} {base : Heap}
abbrev NA : List Str := ["_law_source_here", "_law_many", "_law_found", "_law_k", "_law_sort", "_law_to", "_law_cases", "_law_worth"]
theorem scAny : FnScope NA ["_law_source_here"] (defScope sAny) := ⟨rfl, rfl, rfl, by decide +kernel, rfl, by decide +kernel, by decide +kernel⟩
theorem ok_any {f fD : Addr} {fd fdD : FuncData} (F : Fun K "_law_any" "_law_any" sAny f fd)
    (GD : FnOk P w K mg base CX0 1 fD fdD ["_law_source_here", "_law_many"] spDraw) (mD : mg "_law_draw" = some (.ref fD)) (kD : PySem.W.keepIn K (.ref fD) = true) (bD : Binds K fdD ["_law_source_here", "_law_many"] []) (tr : mg "range" = none) (td : mg "dict" = none) :
    FnOk P w K mg base CX0 2 f fd ["_law_source_here"] spAny := by
  refine F.ok scAny (fun vs H Q E h => ?_) (fun cdv A outer s H vs Q E hr h => ?_)
  · obtain ⟨p, n, rfl, _⟩ := h
    rfl
  · obtain ⟨p, n, rfl, hp, hn, k⟩ := h
    refine ⟨_, pss_cons (ps_asg (pe_tup (pa_cons (pe_op op_add pe_int (pe_call GD hr rfl mD kD bD .nil pass0 (pa_cons (pv 0) (pa_cons pe_int pa_nil)))) (pa_cons (pe_lst (pa_cons (pe_tup (pa_cons pe_str (pa_cons pe_int pa_nil))) pa_nil)) pa_nil)))
        (pg_tup (by rfl) (pgs_cons (pg_name (i := 1) scAny.nd rfl (Or.inr rfl)) (pgs_cons (pg_name (i := 2) scAny.nd rfl (Or.inl rfl)) pgs_nil))))
      (pss_cons (ps_for PassesOwn.never rfl (pi_range1 rfl tr (pa_cons (pe_op op_sub (pv 1) pe_int) pa_nil)) (pg_name (i := 3) scAny.nd rfl (Or.inl rfl))
        (pss_cons (ps_par (i := 4) (j := 5) (by rfl) scAny.nd rfl rfl (by decide) rfl rfl (pa_cons (pe_call GD hr rfl mD kD bD .nil pass0 (pa_cons (pv 0) (pa_cons pe_int pa_nil))) (pa_cons (pe_call GD hr rfl mD kD bD .nil pass0 (pa_cons (pv 0) (pa_cons (pv 1) pa_nil))) pa_nil)) (by rfl))
        (pss_one (ps_if (pt_cmpR op_lt (pv 4) pe_int (nomark _))
          (pss_one (ps_expr (pe_bm PySem.F.plainAttrs_list PySem.F.slot_list_append PySem.F.type_list_append mt_append (pv 2) (pa_cons (pe_tup (pa_cons pe_str (pa_cons (pv 5) pa_nil))) pa_nil))))
          (pss_one (ps_if (pt_cmpR op_eq (pv 4) pe_int (nomark _))
            (pss_one (ps_expr (pe_bm PySem.F.plainAttrs_list PySem.F.slot_list_append PySem.F.type_list_append mt_append (pv 2) (pa_cons (pe_tup (pa_cons pe_str (pa_cons (pv 5) pa_nil))) pa_nil))))
            (pss_one (ps_if (pt_cmpR op_lt (pv 4) pe_int (nomark _))
              (pss_one (ps_expr (pe_bm PySem.F.plainAttrs_list PySem.F.slot_list_append PySem.F.type_list_append mt_append (pv 2) (pa_cons (pe_tup (pa_cons pe_str (pa_cons pe_str (pa_cons (pv 3) (pa_cons (pv 5) pa_nil))))) pa_nil))))
              (pss_cons (ps_set (i := 6) scAny.nd rfl (Or.inl rfl) (pe_callTy (call_dictP rfl) (by rfl) td (by decide +kernel) (pa_cons
                (pe_lc (own := [("_law_worth", 7)]) (g := gName 7) (by rfl) scAny.nd (pi_range1 rfl tr (pa_cons (pe_call GD hr rfl mD kD bD .nil pass0 (pa_cons (pv 0) (pa_cons pe_int pa_nil))) pa_nil)) (blkOk_by (own := [("_law_worth", 7)]) (N := NA) (sc := defScope sAny) (by decide +kernel)) (fun _ _ _ _ _ => pg_name (i := 7) scAny.nd rfl (Or.inl rfl)) (fun _ _ _ _ _ => pts_nil)
                  (fun _ _ _ _ _ => pe_tup (pa_cons (pv 7) (pa_cons (pe_call GD hr rfl mD kD bD .nil pass0 (pa_cons (pv 0) (pa_cons (pv 1) pa_nil))) pa_nil)))) pa_nil)))
              (pss_one (ps_expr (pe_bm PySem.F.plainAttrs_list PySem.F.slot_list_append PySem.F.type_list_append mt_append (pv 2) (pa_cons (pe_tup (pa_cons pe_str (pa_cons pe_str (pa_cons (pv 6) (pa_cons (pv 5) pa_nil))))) pa_nil)))))))))))))
      (pss_cons (ps_asg (pe_tup (pa_cons pe_str (pa_cons (pe_op op_add pe_int (pe_call GD hr rfl mD kD bD .nil pass0 (pa_cons (pv 0) (pa_cons (pe_op op_sub (pv 1) pe_int) pa_nil)))) pa_nil))) (pg_sub (pv 2) pe_int set_list))
      (pss_one (ps_ret (pv 2))))), ?_⟩
    refine ⟨_, rfl, p, n, 7, rfl, hp, by omega, by decide, by decide, fun r0 H1 a0 a1 g1 s1 => ⟨_, _, rfl, rfl, ?_⟩⟩
    obtain ⟨x0, rfl⟩ : ∃ x : Nat, r0 = (x : Int) := ⟨r0.toNat, by omega⟩
    refine ⟨(by show 2 ≤ sizeLine; decide), fun t0 ht0 => ⟨(by show 1 ≤ sizeLine; decide), fun q hq => ⟨(by show 2 ≤ sizeLine; decide), fun t1 ht1 => ⟨t1, _, rfl, SqT.of upd_same, rfl, _, _, rfl, _, _, rfl, rfl, ?_⟩⟩⟩⟩
    have g02 := g1.trans (Grow.new (o := .tup [V.str "rest", V.int 0]) ht0)
    have s02 := s1.new (o := .tup [V.str "rest", V.int 0]) ht0
    have hq0 : H q = none := by
      cases e : H q with
      | none => rfl
      | some o =>
        have z := g02 _ _ e (fun z => absurd z.symm (s02.ne hq))
        rw [hq] at z
        cases z
    have npq := s02.ne hq
    have g03 := g02.trans (Grow.new (o := .lst [V.ref t0]) hq)
    have s03 := s02.new (o := .lst [V.ref t0]) hq
    have nqt : q ≠ t1 := ne_of_none upd_same ht1
    have g04 := g03.trans (Grow.new (o := .tup [V.int (2 + (x0 : Int)), V.ref q]) ht1)
    have s04 := s03.new (o := .tup [V.int (2 + (x0 : Int)), V.ref q]) ht1
    refine ⟨_, rfl, _, _, rfl, rfl, ((x0 + 1 : Nat) : Int), ?_, by omega, by omega, for_range (n := x0 + 1) (fun i σ H2 => ∃ (v3 v4 v5 v6 : Option V) (as : List Addr) (rs : List Row), σ = [some (.ref p), some (.int (2 + (x0 : Int))), some (.ref q), v3, v4, v5, v6, none] ∧ H2 q = some (.lst (as.map V.ref)) ∧ Paired (fun a r => RowAt H2 r a) as rs ∧ rs.length = i + 1 ∧ (∀ r ∈ rs, r.ok (2 + x0) [("a" : Str)]) ∧ rs[0]? = some (Row.rest 0) ∧ Grow p H H2 ∧ Src p (n + 1 + 6 * i) H2)
      ⟨none, none, none, none, [t0], [Row.rest 0], rfl, ?_, ?_, rfl, ?_, rfl, g04, s04.le (by omega)⟩ ?_ ?_⟩
    · exact congrArg (fun z => [V.int z]) (show (2 + (x0 : Int)) - 1 = ((x0 + 1 : Nat) : Int) by omega)
    · rw [upd_ne nqt, upd_same]
      rfl
    · have e1 : (upd (upd H1 t0 (.tup [V.str "rest", V.int 0])) q (.lst [V.ref t0])) t0 = some (.tup [V.str "rest", V.int 0]) := by
        rw [upd_ne (ne_of_none upd_same hq), upd_same]
      refine .cons ?_ .nil
      show _ = _
      rw [upd_ne (ne_of_none e1 ht1)]
      exact e1
    · intro r hr
      cases hr with
      | head => show 0 < 2 + x0; omega
      | tail _ h => cases h
    · rintro i σ H2 hi ⟨v3, v4, v5, v6, as, rs, rfl, hq2, hp2, rl, ok2, rz, g2, s2⟩
      refine ⟨_, rfl, p, n + 1 + 6 * i, 7, rfl, s2, by omega, by decide, by decide, fun ra H3 a0 a1 g3 s3 => ⟨_, rfl, _, rfl, p, n + 1 + 6 * i + 1, _, rfl, s3, by omega, by omega, by omega, fun rb H4 b0 b1 g4 s4 => ⟨_, _, rfl, ?_⟩⟩⟩
      obtain ⟨x1, rfl⟩ : ∃ x : Nat, rb = (x : Int) := ⟨rb.toNat, by omega⟩
      have g24 := g3.trans g4
      have hq4 := g24 _ _ hq2 npq.symm
      have al := hp2.length
      have len4 : (as.map V.ref).length < sizeLine := small (by rw [List.length_map]; omega)
      have add : ∀ (b : Addr) (r : Row) (H8 : Hp), RowAt H8 r b → r.ok (2 + x0) [("a" : Str)] → Grow p H2 H8 → Src p (n + 1 + 6 * i + 6) H8 → H8 q = some (.lst (as.map V.ref)) →
          (upd H8 q (.lst (as.map V.ref ++ [V.ref b]))) q = some (.lst ((as ++ [b]).map V.ref)) ∧ Paired (fun a r => RowAt (upd H8 q (.lst (as.map V.ref ++ [V.ref b]))) r a) (as ++ [b]) (rs ++ [r]) ∧ (rs ++ [r]).length = i + 1 + 1 ∧ (∀ r' ∈ rs ++ [r], r'.ok (2 + x0) [("a" : Str)]) ∧ (rs ++ [r])[0]? = some (Row.rest 0) ∧ Grow p H (upd H8 q (.lst (as.map V.ref ++ [V.ref b]))) ∧ Src p (n + 1 + 6 * (i + 1)) (upd H8 q (.lst (as.map V.ref ++ [V.ref b]))) := by
        intro b r H8 hb ho g8 s8 hq8
        refine ⟨?_, Paired.snoc (L2.Paired.mapP hp2 fun a r e => (e.grow g8 s2).put hq8) (hb.put hq8), by rw [List.length_append, rl]; rfl, fun r' hr' => ?_, by rw [List.getElem?_append_left (by omega)]; exact rz, (g2.trans g8).put hq0, (s8.put npq).le (by omega)⟩
        · rw [upd_same, List.map_append]
          rfl
        · rcases List.mem_append.mp hr' with h | h
          · exact ok2 r' h
          · cases h with
            | head => exact ho
            | tail _ h => cases h
      refine ⟨_, rfl, _, _, rfl, rfl, _, rfl, ite2 (fun _ => ?_) (fun _ => ?_)⟩
      · refine ⟨_, rfl, .inl ⟨rfl, _, Or.inl (Or.inl hq4)⟩, _, rfl, (by show 2 ≤ sizeLine; decide), fun b hb => ?_⟩
        have g8 := g24.trans (Grow.new (o := .tup [V.str "inside", V.int (x1 : Int)]) hb)
        obtain ⟨f1, f2, f3, f4, f5, f6, f7⟩ := add b (.ins x1) _ upd_same (by show x1 < 2 + x0; omega) g8 ((s4.new hb).le (by omega)) (g8 _ _ hq2 npq.symm)
        exact ⟨q, _, _, rfl, rfl, g8 _ _ hq2 npq.symm, len4, _, _, _, _, _, _, rfl, f1, f2, f3, f4, f5, f6, f7⟩
      · refine ⟨_, rfl, rfl, _, rfl, ite2 (fun _ => ?_) (fun _ => ?_)⟩
        · refine ⟨_, rfl, .inl ⟨rfl, _, Or.inl (Or.inl hq4)⟩, _, rfl, (by show 2 ≤ sizeLine; decide), fun b hb => ?_⟩
          have g8 := g24.trans (Grow.new (o := .tup [V.str "rest", V.int (x1 : Int)]) hb)
          obtain ⟨f1, f2, f3, f4, f5, f6, f7⟩ := add b (.rest x1) _ upd_same (by show x1 < 2 + x0; omega) g8 ((s4.new hb).le (by omega)) (g8 _ _ hq2 npq.symm)
          exact ⟨q, _, _, rfl, rfl, g8 _ _ hq2 npq.symm, len4, _, _, _, _, _, _, rfl, f1, f2, f3, f4, f5, f6, f7⟩
        · refine ⟨_, rfl, _, _, rfl, rfl, _, rfl, ite2 (fun _ => ?_) (fun _ => ?_)⟩
          · refine ⟨_, rfl, .inl ⟨rfl, _, Or.inl (Or.inl hq4)⟩, _, rfl, _, rfl, (by show 4 ≤ sizeLine; decide), fun b hb => ?_⟩
            have g8 := g24.trans (Grow.new (o := .tup [V.str "write", V.str "a", V.int (0 + (i : Int)), V.int (x1 : Int)]) hb)
            obtain ⟨f1, f2, f3, f4, f5, f6, f7⟩ := add b (.wr "a" (0 + (i : Int)) x1) _ upd_same ⟨List.mem_cons_self .., by omega, by omega⟩ g8 ((s4.new hb).le (by omega)) (g8 _ _ hq2 npq.symm)
            exact ⟨q, _, _, rfl, rfl, g8 _ _ hq2 npq.symm, len4, _, _, _, _, _, _, rfl, f1, f2, f3, f4, f5, f6, f7⟩
          · refine ⟨_, rfl, p, n + 1 + 6 * i + 2, 3, rfl, s4, by omega, by decide, by decide, fun rc H5 c0 c1 g5 s5 => ?_⟩
            obtain ⟨x2, rfl⟩ : ∃ x : Nat, rc = (x : Int) := ⟨rc.toNat, by omega⟩
            have g25 := g24.trans g5
            refine ⟨(x2 : Int), rfl, by omega, by omega, fun D hD => ?_⟩
            have pD := s5.ne hD
            refine lc_range (lo := 0) (n := x2) (fun j H7 => ∃ (ts : List Addr) (cs : List (Int × Nat)), H7 D = some (.lst (ts.map V.ref)) ∧ Paired (fun t (kv : Int × Nat) => H7 t = some (.tup [V.int kv.1, V.int (kv.2 : Nat)])) ts cs ∧ cs.map (·.1) = (List.range j).map (fun (z : Nat) => 0 + (z : Int)) ∧ (∀ kv ∈ cs, kv.2 < 2 + x0) ∧ Grow p H5 H7 ∧ Src p (n + 1 + 6 * i + 3 + j) H7)
              ⟨[], [], upd_same, .nil, rfl, (fun _ h => nomatch h), Grow.new hD, s5.new hD⟩ ?_ ?_
            · rintro j H7 hj ⟨ts, cs, hD7, hp7, hk7, hr7, g7, s7⟩
              have len : ts.length = j := by
                have h1 := hp7.length
                have h2 := congrArg List.length hk7
                rw [List.length_map, List.length_map, List.length_range] at h2
                omega
              refine ⟨rfl, tyes_if ?_⟩
              refine ⟨_, rfl, _, rfl, _, rfl, p, n + 1 + 6 * i + 3 + j, _, rfl, s7, by omega, by omega, by omega, fun r H8 d0 d1 g8 s8 => ⟨(by show 2 ≤ sizeLine; decide), fun t ht => ?_⟩⟩
              have hD8 := g8 _ _ hD7 pD.symm
              have ntD : D ≠ t := ne_of_none hD8 ht
              obtain ⟨x3, rfl⟩ : ∃ x : Nat, r = (x : Int) := ⟨r.toNat, by omega⟩
              refine ⟨ts.map V.ref, by rw [upd_ne ntD]; exact hD8, small (by rw [List.length_map]; omega), ts ++ [t], cs ++ [(0 + (j : Int), x3)], ?_, ?_, ?_, ?_, ?_, (((s8.new ht).put pD).le (by omega))⟩
              · rw [upd_same, List.map_append]
                rfl
              · refine Paired.snoc (L2.Paired.mapP hp7 fun b kv hb => ?_) ?_
                · have nb : b ≠ D := ne_of hb hD7 (by intro z; cases z)
                  have hb8 : H8 b = some (.tup [V.int kv.1, V.int (kv.2 : Nat)]) := g8.tup s7 hb
                  rw [upd_ne nb, upd_ne (ne_of_none hb8 ht)]
                  exact hb8
                · rw [upd_ne ntD.symm, upd_same]
              · rw [List.map_append, hk7, List.range_succ, List.map_append]
                rfl
              · intro kv hkv
                rcases List.mem_append.mp hkv with h | h
                · exact hr7 kv h
                · cases h with
                  | head => show x3 < 2 + x0; omega
                  | tail _ h => cases h
              · exact ((g7.trans g8).trans (Grow.new ht)).put hD
            · rintro H7 ⟨ts, cs, hD7, hp7, hk7, hr7, g7, s7⟩
              have nd : (cs.map (·.1)).Nodup := by
                rw [hk7]
                exact List.pairwise_map.mpr (List.nodup_range.imp fun {a b} h z => h (by omega))
              have cl1 : cs.length = x2 := by
                have h2 := congrArg List.length hk7
                rw [List.length_map, List.length_map, List.length_range] at h2
                exact h2
              refine ⟨D, ts, kvOf cs, rfl, SqL.of hD7, paired_map (L2.Paired.mapP hp7 fun b kv hb => SqT.of hb), fun dd hdd => ?_⟩
              have em : mergeK [] (kvOf cs) = kvOf cs := merge_kv cs [] nd
              rw [em]
              have pos : ∀ kv ∈ cs, 0 ≤ kv.1 := fun kv hkv => by
                have m : kv.1 ∈ cs.map (·.1) := List.mem_map.mpr ⟨kv, hkv, rfl⟩
                rw [hk7] at m
                obtain ⟨z, _, e⟩ := List.mem_map.mp m
                omega
              have g8 := (g25.trans g7).trans (Grow.new (o := .dK (kvOf cs)) hdd)
              have s8 := s7.new (o := .dK (kvOf cs)) hdd
              refine ⟨_, rfl, .inl ⟨rfl, _, Or.inl (Or.inl (g8 _ _ hq2 npq.symm))⟩, _, rfl, _, rfl, (by show 4 ≤ sizeLine; decide), fun b hb => ?_⟩
              have g9 := g8.trans (Grow.new (o := .tup [V.str "read", V.str "a", V.ref dd, V.int (x1 : Int)]) hb)
              obtain ⟨f1, f2, f3, f4, f5, f6, f7⟩ := add b (.rd "a" cs x1) _ ⟨dd, upd_same, by rw [upd_ne (ne_of_none upd_same hb), upd_same]⟩ ⟨List.mem_cons_self .., nd, fun kv hkv => ⟨pos kv hkv, hr7 kv hkv⟩, by omega, by omega⟩ g9 ((s8.new hb).le (by omega)) (g9 _ _ hq2 npq.symm)
              exact ⟨q, _, _, rfl, rfl, g9 _ _ hq2 npq.symm, len4, _, _, _, _, _, _, rfl, f1, f2, f3, f4, f5, f6, f7⟩
    · rintro σ H2 ⟨v3, v4, v5, v6, as, rs, rfl, hq2, hp2, rl, ok2, rz, g2, s2⟩
      cases hp2 with
      | nil => cases rz
      | cons h0 hp3 =>
        rename_i a0' r0' as' rs'
        refine ⟨_, rfl, _, rfl, _, _, rfl, rfl, p, n + 1 + 6 * (x0 + 1), _, rfl, s2, by omega, by omega, by omega, fun r H3 d0 d1 g3 s3 => ⟨_, _, rfl, rfl, (by show 2 ≤ sizeLine; decide), fun t ht => ?_⟩⟩
        obtain ⟨x1, rfl⟩ : ∃ x : Nat, r = (x : Int) := ⟨r.toNat, by omega⟩
        have g4 := g3.trans (Grow.new (o := .tup [V.str "rest", V.int (1 + (x1 : Int))]) ht)
        refine ⟨_, rfl, q, _, _, 0, rfl, rfl, g4 _ _ hq2 npq.symm, (by simp [ixN]), ?_⟩
        have hq5 := g4 _ _ hq2 npq.symm
        have e1 : (1 : Int) + (x1 : Int) = ((1 + x1 : Nat) : Int) := by omega
        have keepT : ∀ (xs : List V) (b : Addr) (ys : List V), (upd H3 t (.tup [V.str "rest", V.int (1 + (x1 : Int))])) b = some (.tup ys) → (upd (upd H3 t (.tup [V.str "rest", V.int (1 + (x1 : Int))])) q (.lst xs)) b = some (.tup ys) := fun xs b ys e => by
          rw [upd_ne (ne_of e hq5 (by intro z; cases z))]
          exact e
        have ok3 : ∀ r ∈ Row.rest (1 + x1) :: rs', r.ok (2 + x0) [("a" : Str)] := fun r hr => by
          cases hr with
          | head => show 1 + x1 < 2 + x0; omega
          | tail _ h => exact ok2 r (List.mem_cons_of_mem _ h)
        have rl' : (Row.rest (1 + x1) :: rs').length = 2 + x0 := by
          rw [List.length_cons] at rl ⊢
          omega
        refine ⟨_, rfl, k q (Row.rest (1 + x1) :: rs') _ ((g2.trans g4).put hq0) hq0 ⟨t :: as', by rw [upd_same]; rfl, .cons ?_ (L2.Paired.mapP hp3 fun a r e => ((e.grow g3 s2).new ht).put hq5)⟩ ⟨fun r hr => by rw [rl']; exact ok3 r hr, ⟨_, rfl⟩, by omega, by omega⟩ (by omega) (((s3.new ht).put npq).le (by omega))⟩
        refine keepT _ _ _ ?_
        rw [upd_same, e1]
end
end CC

set_option Elab.async false
set_option maxRecDepth 100000
namespace CC
open PySem L2
set_option linter.unusedVariables false
abbrev sLaw : Stmt := top 35
def spLaw (K : PySem.W.Frag) : Sp := fun vs H Q _ => ∃ (a : Addr) (ns : List Int), vs = [.ref a] ∧ SqL K H a (ns.map V.int) ∧ ∀ H' : Hp, Q (.bl true) H'
theorem first_of {B : Nat → Bool} {N f : Nat} (hf : f < N) (h1 : B f = true) (h2 : ∀ z, z < f → B z = false) : ∃ more, (List.range N).filter B = f :: more := by
  obtain ⟨k, rfl⟩ : ∃ k, N = f + 1 + k := ⟨N - (f + 1), by omega⟩
  have e : (List.range f).filter B = [] := List.filter_eq_nil_iff.mpr fun z hz => by
    rw [h2 z (List.mem_range.mp hz)]
    simp
  rw [List.range_add, List.filter_append, List.range_succ, List.filter_append, e]
  have e2 : ([f] : List Nat).filter B = [f] := by simp [h1]
  rw [e2]
  exact ⟨_, rfl⟩
theorem Src.same {p : Addr} {n : Nat} {H H' : Hp} (h : Src p n H) (s : Same H H') : Src p n H' := by
  obtain ⟨g, z, c, e1, e2⟩ := h
  exact ⟨g, z, c, s _ _ e1, e2⟩
theorem gN3 : gName 3 = fun v σ H Q => Q (List.set σ 3 (some v)) H := rfl
theorem seq_via {t u : TS} {D : Ends} {σ : L2.St} {H : Hp} (Z : L2.St → Hp → Prop) (h2 : ∀ σ' H', Z σ' H' → u D σ' H') (h1 : ∀ D' : Ends, (∀ σ' H', Z σ' H' → D'.nx σ' H') → t D' σ H) : tSeq t u D σ H := h1 _ h2
/-- the row with another number at its end -/
def Row.last (m : Nat) : Row → Row
  | .rest _ => .rest m
  | .ins _ => .ins m
  | .wr c v _ => .wr c v m
  | .rd c cs _ => .rd c cs m
theorem Row.last_ok {n m : Nat} {cells : List Str} {r : Row} (h : r.ok n cells) (e : m < n) : (r.last m).ok n cells := by
  cases r with
  | rest _ => exact e
  | ins _ => exact e
  | wr c v _ => exact ⟨h.1, h.2.1, e⟩
  | rd c cs _ => exact ⟨h.1, h.2.1, h.2.2.1, e, h.2.2.2.2⟩
theorem cut_row {H : Hp} {r : Row} {a : Addr} (h : RowAt H r a) : ∃ (xs : List V) (m : Nat), H a = some (.tup (xs ++ [V.int (m : Nat)])) ∧ xs ≠ [] ∧ xs.length ≤ 3 ∧ cutV (xs ++ [V.int (m : Nat)]) none (some (-1)) = xs ∧ (¬ (HT.sIx (xs ++ [V.int (m : Nat)]).length 0 none = 0 ∧ HT.sIx (xs ++ [V.int (m : Nat)]).length (xs ++ [V.int (m : Nat)]).length (some (-1)) = (xs ++ [V.int (m : Nat)]).length)) ∧
    ∀ (H' : Hp) (b : Addr) (m' : Nat), (∀ d kvs, H d = some (.dK kvs) → H' d = some (.dK kvs)) → H' b = some (.tup (xs ++ [V.int (m' : Nat)])) → RowAt H' (r.last m') b := by
  cases r with
  | rest m => exact ⟨[V.str "rest"], m, h, (by intro z; cases z), (by decide), rfl, (by show ¬ (0 = 0 ∧ 1 = 2); decide), fun H' b m' _ e => e⟩
  | ins m => exact ⟨[V.str "inside"], m, h, (by intro z; cases z), (by decide), rfl, (by show ¬ (0 = 0 ∧ 1 = 2); decide), fun H' b m' _ e => e⟩
  | wr c v m => exact ⟨[V.str "write", V.str c, V.int v], m, h, (by intro z; cases z), Nat.le_refl _, rfl, (by show ¬ (0 = 0 ∧ 3 = 4); decide), fun H' b m' _ e => e⟩
  | rd c cs m =>
    obtain ⟨d, h1, h2⟩ := h
    exact ⟨[V.str "read", V.str c, V.ref d], m, h1, (by intro z; cases z), Nat.le_refl _, rfl, (by show ¬ (0 = 0 ∧ 3 = 4); decide), fun H' b m' k e => ⟨d, e, k _ _ h2⟩⟩
theorem paired_set {α β : Type} {F : α → β → Prop} {a : α} {b : β} : ∀ {l : List α} {m : List β} (i : Nat), Paired F l m → F a b → Paired F (l.set i a) (m.set i b)
  | _, _, _, .nil, _ => .nil
  | _, _, 0, .cons _ r, e => .cons e r
  | _, _, i + 1, .cons h r, e => .cons h (paired_set i r e)
theorem ints_lay : ∀ F : List Int, PyData.canLayAll0 (F.map PyData.int) = true ∧ PyData.depthAll (F.map PyData.int) ≤ 0
  | [] => ⟨by simp [PyData.canLayAll0], by simp [PyData.depthAll]⟩
  | p :: F => by
    obtain ⟨h1, h2⟩ := ints_lay F
    refine ⟨by simp only [List.map_cons, PyData.canLayAll0, PyData.canLay0, h1, Bool.and_self], ?_⟩
    simp only [List.map_cons, PyData.depthAll, PyData.depth]
    omega
theorem ints_shaped (F : List Int) : SeqAt.shaped (.list (F.map PyData.int)) = true := by
  obtain ⟨h1, h2⟩ := ints_lay F
  have h3 : PyData.depth (.list (F.map PyData.int)) ≤ 64 := by
    simp only [PyData.depth]
    omega
  show (PyData.canLay0 (.list (F.map PyData.int)) && decide (PyData.depth (.list (F.map PyData.int)) ≤ 64)) = true
  rw [Bool.and_eq_true]
  exact ⟨by simp only [PyData.canLay0]; exact h1, decide_eq_true h3⟩
theorem dp_ints {K : PySem.W.Frag} {H : Hp} : ∀ F : List Int, DpAll K H (F.map V.int) (F.map PyData.int)
  | [] => .nil
  | _ :: F => .cons (.int _) (dp_ints F)
def tp2 (x : Str) (i : Int) : PyData := .tuple [.str x, .int i]
theorem tp2_shaped (x : Str) (i : Int) (hx : PyData.strOk x = true) : SeqAt.shaped (tp2 x i) = true := by
  have h2 : (tp2 x i).canLay0 = true := by simp [tp2, PyData.canLay0, PyData.canLayAll0, hx]
  have h3 : (tp2 x i).depth = 1 := by simp [tp2, PyData.depth, PyData.depthAll]
  show ((tp2 x i).canLay0 && decide ((tp2 x i).depth ≤ 64)) = true
  rw [h2, h3]
  decide
theorem tp2_eqv (x : Str) (i : Int) : PyData.eqv (tp2 x i) (tp2 x i) = true := by simp [tp2, PyData.eqv, PyData.eqvAll]
theorem dp_tp2 {K : PySem.W.Frag} {H : Hp} {t : Addr} {x : Str} {i : Int} (h : H t = some (.tup [.str x, .int i])) : Dp K H (.ref t) (tp2 x i) := .tup (SqT.of h) (.cons (.str _) (.cons (.int _) .nil))
theorem nameA : ∀ c ∈ [("a" : Str)], NameOk c := fun c hc => by
  cases hc with
  | head => exact ⟨by decide +kernel, by decide +kernel, by decide +kernel, by decide +kernel⟩
  | tail _ h => cases h
theorem nameAB : ∀ c ∈ [("a" : Str), "b"], NameOk c := fun c hc => by
  cases hc with
  | head => exact ⟨by decide +kernel, by decide +kernel, by decide +kernel, by decide +kernel⟩
  | tail _ h =>
    cases h with
    | head => exact ⟨by decide +kernel, by decide +kernel, by decide +kernel, by decide +kernel⟩
    | tail _ h => cases h
section
variable {P : Program} {w : World} {K : PySem.W.Frag} {mg : Str → Option Value} {base : Heap}
abbrev NL : List Str := ["_law_script", "_law_source_here", "_law_turn", "_law_rows_here", "_law_at", "_law_bad", "_law_k"]
theorem scLaw : FnScope NL ["_law_script"] (defScope sLaw) := ⟨rfl, rfl, rfl, by decide +kernel, rfl, by decide +kernel, by decide +kernel⟩
theorem ok_law {f fS fD fA fT fR fY : Addr} {fd fdS fdD fdA fdT fdR fdY : FuncData} (F : Fun K "law" "law" sLaw f fd)
    (GS : FnOk P w K mg base CX0 1 fS fdS ["_law_script"] (spSource K)) (mS : mg "_law_source" = some (.ref fS)) (kS : PySem.W.keepIn K (.ref fS) = true) (bS : Binds K fdS ["_law_script"] [])
    (GD : FnOk P w K mg base CX0 1 fD fdD ["_law_source_here", "_law_many"] spDraw) (mD : mg "_law_draw" = some (.ref fD)) (kD : PySem.W.keepIn K (.ref fD) = true) (bD : Binds K fdD ["_law_source_here", "_law_many"] [])
    (GA : FnOk P w K mg base CX0 2 fA fdA ["_law_source_here"] spAny) (mA : mg "_law_any" = some (.ref fA)) (kA : PySem.W.keepIn K (.ref fA) = true) (bA : Binds K fdA ["_law_source_here"] [])
    (GT : FnOk P w K mg base CX0 5 fT fdT ["_law_source_here", "_law_threads_here", "_law_cells", "_law_most"] spThreads) (mT : mg "_law_threads" = some (.ref fT)) (kT : PySem.W.keepIn K (.ref fT) = true) (bT : Binds K fdT ["_law_source_here", "_law_threads_here", "_law_cells", "_law_most"] [])
    (GR : FnOk P w K mg base CX0 2 fR fdR ["_law_rows_here", "_law_first"] spRight) (mR : mg "_law_is_right" = some (.ref fR)) (kR : PySem.W.keepIn K (.ref fR) = true) (bR : Binds K fdR ["_law_rows_here", "_law_first"] [])
    (GY : FnOk P w K mg base CX0 8 fY fdY ["_law_rows_here"] spTried) (mY : mg "_law_tried" = some (.ref fY)) (kY : PySem.W.keepIn K (.ref fY) = true) (bY : Binds K fdY ["_law_rows_here"] [])
    (tr : mg "range" = none) (tl : mg "len" = none) :
    FnOk P w K mg base CX0 9 f fd ["_law_script"] (spLaw K) := by
  refine F.ok scLaw (fun vs H Q E h => ?_) (fun cdv A outer s H vs Q E hr h => ?_)
  · obtain ⟨a, ns, rfl, _⟩ := h
    rfl
  · obtain ⟨a, ns, rfl, ha, k⟩ := h
    have hr1 : Room 1 _ := hr.mono (by decide)
    have hr2 : Room 2 _ := hr.mono (by decide)
    have hr5 : Room 5 _ := hr.mono (by decide)
    refine ⟨_, pss_cons (ps_set (i := 1) scLaw.nd rfl (Or.inl rfl) (pe_call GS hr1 rfl mS kS bS .nil pass0 (pa_cons (pv 0) pa_nil)))
      (pss_cons (ps_for PassesOwn.never rfl (pi_range1 rfl tr (pa_cons pe_int pa_nil)) (pg_name (i := 2) scLaw.nd rfl (Or.inl rfl))
        (pss_cons (ps_set (i := 3) scLaw.nd rfl (Or.inr rfl) (pe_call GA hr2 rfl mA kA bA .nil pass0 (pa_cons (pv 1) pa_nil)))
        (pss_cons (ps_if (pt_cmpR op_eq (pe_call GD hr1 rfl mD kD bD .nil pass0 (pa_cons (pv 1) (pa_cons pe_int pa_nil))) pe_int (nomark _))
          (pss_cons (ps_set (i := 3) scLaw.nd rfl (Or.inr rfl) (pe_ix ix_list (pe_call GT hr5 rfl mT kT bT .nil pass0 (pa_cons (pv 1) (pa_cons pe_int (pa_cons (pe_lst (pa_cons pe_str (pa_cons pe_str pa_nil))) (pa_cons pe_int pa_nil))))) pe_int (fun _ _ => rfl)))
          (pss_cons (ps_set (i := 4) scLaw.nd rfl (Or.inl rfl) (pe_call GD hr1 rfl mD kD bD .nil pass0 (pa_cons (pv 1) (pa_cons (pe_callB call_len_seq (by rfl) tl (by decide +kernel) (pa_cons (pv 3) pa_nil)) pa_nil))))
          (pss_one (ps_if (PW.pt (pw_and (pt_cmpR op_eq (pe_call GD hr1 rfl mD kD bD .nil pass0 (pa_cons (pv 1) (pa_cons pe_int pa_nil))) pe_int (nomark _)) (pw_and1 (pt_cmpR op_gt (pv 4) pe_int (nomark _)))))
            (pss_one (ps_asg (pe_op op_catT (pe_slice sl_tup (pe_ix ix_list (pv 3) (pv 4) (fun _ _ => rfl)) po_none (po_some (pe_un un_neg pe_int))) (pe_tup (pa_cons (pe_call GD hr1 rfl mD kD bD .nil pass0 (pa_cons (pv 1) (pa_cons (pe_callB call_len_seq (by rfl) tl (by decide +kernel) (pa_cons (pv 3) pa_nil)) pa_nil))) pa_nil))) (pg_sub (pv 3) (pv 4) set_list))) pss_nil)))) pss_nil)
        (pss_cons (ps_setLc (i := 5) (own := [("_law_k", 6)]) (g := gName 6) (by rfl) scLaw.nd rfl rfl (sw_true rfl rfl rfl (by decide +kernel)) (pi_range1 rfl tr (pa_cons (pe_callB call_len_seq (by rfl) tl (by decide +kernel) (pa_cons (pv 3) pa_nil)) pa_nil)) (blkOk_by (own := [("_law_k", 6)]) (N := NL) (sc := defScope sLaw) (by decide +kernel)) (fun _ _ _ _ _ => pg_name (i := 6) scLaw.nd rfl (Or.inl rfl))
            (fun _ _ _ _ _ => pts_one (PW.pt (pw_and (pt_cmpR op_eq (pe_ix (ix_tupK (K := K) rfl) (pe_ix (ix_listK (K := K) rfl) (pv 3) (pv 6) (fun _ _ => rfl)) pe_int (fun _ _ => rfl)) pe_str (nomark _)) (pw_and1 (pt_not (pt_val (pe_call GR hr2 rfl mR kR bR .nil pass0 (pa_cons (pv 3) (pa_cons (pv 6) pa_nil)))))))))
            (fun _ _ _ _ _ => pv 6))
        (pss_one (ps_if (pt_cmpR (op_neD hr.units) (pe_call GY hr rfl mY kY bY .nil pass0 (pa_cons (pv 3) pa_nil))
            (pe_ifExp (pt_cmpR (op_neD hr.units) (pv 5) (pe_lst pa_nil) (nomark _)) (pe_tup (pa_cons pe_str (pa_cons (pe_ix ix_list (pv 5) pe_int (fun _ _ => rfl)) pa_nil))) (pe_tup (pa_cons pe_str (pa_cons (pe_callB call_len_seq (by rfl) tl (by decide +kernel) (pa_cons (pv 3) pa_nil)) pa_nil)))) (nomark _))
          (pss_one (ps_ret pe_bl)) pss_nil))))))
      (pss_one (ps_ret pe_bl))), ?_⟩
    refine ⟨_, rfl, a, ns, rfl, ha, fun p H1 s1 hp0 hp => ?_⟩
    refine ⟨5, rfl, by decide, by decide, for_range (n := 5) (fun i σ H2 => ∃ (v2 v3 v4 v5 : Option V), σ = [some (.ref a), some (.ref p), v2, v3, v4, v5, none] ∧ Src p (5000 * i) H2) ⟨none, none, none, none, rfl, hp⟩ ?_ ?_⟩
    · rintro i σ H2 hi ⟨v2, v3, v4, v5, rfl, s2⟩
      refine ⟨_, rfl, p, 5000 * i, rfl, s2, by omega, fun q rs H3 g3 hq3 hr3 good3 n3 s3 => ?_⟩
      rw [gN3]
      dsimp only
      refine seq_via (fun σ' H' => ∃ (l : Addr) (rs : List Row) (cells : List Str) (v2 v4 v5 : Option V), σ' = [some (.ref a), some (.ref p), v2, some (.ref l), v4, v5, none] ∧ RowsAt H' rs l ∧ Good cells rs ∧ rs.length ≤ 30 ∧ (∀ c ∈ cells, NameOk c) ∧ Src p (5000 * i + 4500) H') (fun σ' H' hz => ?_) (fun D' hD' => ?_)
      · obtain ⟨l, rs1, cells, w2, w4, w5, rfl, hl, good, n30, nok, sz⟩ := hz
        clear s3 g3 hr3 good3 n3 hq3 s2 hp
        obtain ⟨B, hB⟩ : ∃ B : Nat → Bool, ∀ z, B z = true ↔ (∃ m, rs1[z]? = some (Row.rest m)) ∧ ¬ Once rs1 z := ⟨fun z => @decide _ (Classical.propDecidable _), fun z => @decide_eq_true_iff _ (Classical.propDecidable _)⟩
        obtain ⟨as, ha1, hrows⟩ := id hl
        have asl := hrows.length
        have asm : (as.map V.ref).length = as.length := List.length_map ..
        have low : ∀ r ∈ rs1, r.low rs1.length := fun r hr => Row.ok_low (good.1 r hr)
        refine ⟨_, rfl, l, as.map V.ref, rfl, .inl (SqL.of ha1), (((as.map V.ref).length : Nat) : Int), rfl, by omega, by omega, fun D hD => ?_⟩
        refine lc_range (lo := 0) (n := (as.map V.ref).length) (fun j H7 => H7 D = some (.lst ((((List.range j).filter B).map fun (z : Nat) => (z : Int)).map V.int)) ∧ Same H' H7) ⟨upd_same, same_new hD⟩ ?_ ?_
        · rintro j H7 hj ⟨hD7, s7⟩
          have jl : j < rs1.length := by omega
          obtain ⟨r, hr'⟩ : ∃ r, rs1[j]? = some r := ⟨_, List.getElem?_eq_getElem jl⟩
          obtain ⟨b, hb, hra⟩ := paired_at (paired_flip hrows) hr'
          have ra7 : RowAt H7 r b := hra.mono (fun b xs x => s7 _ _ x) fun b xs x => s7 _ _ x
          obtain ⟨rx, hrx⟩ := ra7.hd
          have z0 : (0 : Int) + (j : Int) = (j : Nat) := Int.zero_add _
          rw [z0]
          have step : (List.range (j + 1)).filter B = (List.range j).filter B ++ [j].filter B := by rw [List.range_succ, List.filter_append]
          have no : B j = false → (List.range (j + 1)).filter B = (List.range j).filter B := fun e => by
            rw [step]
            simp [e]
          have yes : B j = true → (List.range (j + 1)).filter B = (List.range j).filter B ++ [j] := fun e => by
            rw [step]
            simp [e]
          have fl := List.length_filter_le B (List.range j)
          rw [List.length_range] at fl
          refine ⟨rfl, _, rfl, _, rfl, l, _, _, _, rfl, rfl, SqL.of (s7 _ _ ha1), atI_nat (by rw [List.getElem?_map, hb]; rfl), b, _, _, V.str r.hd, rfl, rfl, SqT.of hrx, atZ, rfl, _, rfl, ?_⟩
          by_cases rh : r.hd = "rest"
          · refine ite_yes (decide_eq_true (congrArg V.str rh)) ?_
            have isr : ∃ m, rs1[j]? = some (Row.rest m) := by
              cases r with
              | rest m => exact ⟨m, hr'⟩
              | ins m => cases rh
              | wr c v m => cases rh
              | rd c cs m => cases rh
            refine ⟨_, rfl, _, rfl, l, rs1, j, rfl, hl.same s7, low, n30, jl, fun bo H8 s8 iff => ⟨bo, rfl, ?_⟩⟩
            cases bo with
            | true =>
              refine iteF ⟨?_, same_tr s7 s8⟩
              have e : B j = false := by
                cases e : B j with
                | false => rfl
                | true => exact absurd (iff.mp rfl) ((hB j).mp e).2
              rw [no e]
              exact s8 _ _ hD7
            | false =>
              refine iteT ⟨_, rfl, _, s8 _ _ hD7, small (by rw [List.length_map, List.length_map]; omega), ?_, same_put (same_tr s7 s8) hD⟩
              have e : B j = true := (hB j).mpr ⟨isr, fun o => absurd (iff.mpr o) (by decide)⟩
              rw [upd_same, yes e, List.map_append, List.map_append]
              rfl
          · refine ite_no (decide_eq_false fun z => rh (V.str.inj z)) (iteF ⟨?_, s7⟩)
            have e : B j = false := by
              cases e : B j with
              | false => rfl
              | true =>
                obtain ⟨⟨m, hm⟩, _⟩ := (hB j).mp e
                rw [hr'] at hm
                cases hm
                exact absurd rfl rh
            rw [no e]
            exact hD7
        · rintro H7 ⟨hD7, s7⟩
          have eL : (((as.map V.ref).length : Nat) : Int) = (rs1.length : Nat) := by omega
          have keys : ∀ z, B z = true → z < rs1.length := fun z e => by
            obtain ⟨⟨m, hm⟩, _⟩ := (hB z).mp e
            exact (List.getElem?_eq_some_iff.mp hm).1
          refine ⟨_, rfl, l, rs1, cells, rfl, hl.same s7, good, n30, nok, fun all H9 t s9 ht => ?_, fun f fb H9 t s9 ht => ?_⟩
          · have e0 : (List.range (as.map V.ref).length).filter B = [] := List.filter_eq_nil_iff.mpr fun z _ e => by
              obtain ⟨⟨m, hm⟩, no⟩ := (hB z).mp e
              exact no (all z m hm)
            rw [e0] at hD7
            have hD9 := s9 _ _ hD7
            refine ⟨_, rfl, Nat.zero_le _, fun e he => ⟨.list [], .list [], .lst (SqL.of (by rw [upd_ne (ne_of_none hD9 he)]; exact hD9)) .nil, .lst (SqL.of upd_same) .nil, rfl, rfl, _, rfl, ite_no rfl ?_⟩⟩
            have sE := same_new (o := .lst []) he
            refine ⟨_, rfl, l, as.map V.ref, rfl, .inl (SqL.of (sE _ _ (s9 _ _ (s7 _ _ ha1)))), (by show 2 ≤ sizeLine; decide), fun u hu => ?_⟩
            have sU := same_new (o := .tup [V.str "told", V.int ((as.map V.ref).length : Nat)]) hu
            refine ⟨tp2 "told" (rs1.length : Nat), tp2 "told" (rs1.length : Nat), dp_tp2 (sU _ _ (sE _ _ ht)), dp_tp2 (by rw [upd_same, eL]), tp2_shaped _ _ (by decide +kernel), tp2_shaped _ _ (by decide +kernel), _, rfl, ite_no (by rw [tp2_eqv]; rfl) ?_⟩
            exact ⟨_, _, _, _, rfl, (sz.same (same_tr (same_tr (same_tr s7 s9) sE) sU)).le (by omega)⟩
          · obtain ⟨⟨m, hm⟩, no, before⟩ := fb
            have fl := (List.getElem?_eq_some_iff.mp hm).1
            obtain ⟨more, e0⟩ := first_of (B := B) (N := (as.map V.ref).length) (f := f) (by omega) ((hB f).mpr ⟨⟨m, hm⟩, no⟩) fun z hz => by
              cases e : B z with
              | false => rfl
              | true =>
                obtain ⟨⟨m', hm'⟩, no'⟩ := (hB z).mp e
                exact absurd (before z m' hz hm') no'
            rw [e0] at hD7
            have hD9 := s9 _ _ hD7
            refine ⟨_, rfl, Nat.zero_le _, fun e he => ⟨.list (((f :: more).map fun (z : Nat) => (z : Int)).map PyData.int), .list [], .lst (SqL.of (by rw [upd_ne (ne_of_none hD9 he)]; exact hD9)) (dp_ints _), .lst (SqL.of upd_same) .nil, ints_shaped _, rfl, _, rfl, ite_yes ?_ ?_⟩⟩
            · simp [PyData.eqv, PyData.eqvAll]
            have sE := same_new (o := .lst []) he
            refine ⟨_, rfl, D, _, _, V.int (f : Nat), rfl, rfl, SqL.of (sE _ _ hD9), atZ, (by show 2 ≤ sizeLine; decide), fun u hu => ?_⟩
            have sU := same_new (o := .tup [V.str "not", V.int (f : Nat)]) hu
            refine ⟨tp2 "not" (f : Nat), tp2 "not" (f : Nat), dp_tp2 (sU _ _ (sE _ _ ht)), dp_tp2 upd_same, tp2_shaped _ _ (by decide +kernel), tp2_shaped _ _ (by decide +kernel), _, rfl, ite_no (by rw [tp2_eqv]; rfl) ?_⟩
            exact ⟨_, _, _, _, rfl, (sz.same (same_tr (same_tr (same_tr s7 s9) sE) sU)).le (by omega)⟩
      · refine ⟨_, rfl, p, 5000 * i + 200, 3, rfl, s3, by omega, by decide, by decide, fun r H4 c0 c1 g4 s4 => ⟨rfl, _, rfl, ite2 (fun _ => ?_) (fun _ => ?_)⟩⟩
        · refine ⟨_, rfl, (by show 2 ≤ sizeLine; decide), fun cl hcl => ?_⟩
          refine ⟨p, cl, 5000 * i + 201, 1, 4, ["a", "b"], rfl, (s4.new hcl).le (by omega), by omega, upd_same, s4.ne hcl, by decide, by decide, by decide +kernel, by decide, fun q2 ls rss H5 g5 hq5 hl5 pr5 len5 s5 => ?_⟩
          cases pr5 with
          | nil => cases len5
          | cons h5 t5 =>
            cases t5 with
            | cons _ _ => cases len5
            | nil =>
              rename_i l rs1
              obtain ⟨hr5a, thr, hl0⟩ := h5
              have good5 := thr.good (by decide)
              obtain ⟨as5, ha5, hp5⟩ := id hr5a
              have al5 := hp5.length
              have npl : p ≠ l := fun z => by
                rw [← z] at hl0
                exact absurd rfl ((s4.new (o := .lst [V.str "a", V.str "b"]) hcl).ne hl0)
              have n30 : rs1.length ≤ 30 := by
                obtain ⟨ahead, behind, ts, h1, h2, h3, h4⟩ := thr
                have := h3.len
                rcases h4 with rfl | rfl
                · omega
                · rw [doubled_len]
                  omega
              refine ⟨q2, _, _, V.ref l, rfl, rfl, SqL.of hl5, (show atI [V.ref l] 0 = some (V.ref l) from rfl), ?_⟩
              refine ⟨_, rfl, _, rfl, l, as5.map V.ref, rfl, .inl (SqL.of ha5), p, 5000 * i + 201 + 2000 * 1, _, rfl, s5, by omega, (by have := good5.2.2.1; rw [List.length_map]; omega), (by rw [List.length_map]; omega), fun r6 H6 d0 d1 g6 s6 => ?_⟩
              have hr6 := hr5a.grow g6 s5 npl
              refine ⟨_, rfl, p, 5000 * i + 201 + 2000 * 1 + 1, 2, rfl, s6, by omega, by decide, by decide, fun r7 H7 e0 e1 g7 s7 => ⟨rfl, _, rfl, ?_⟩⟩
              have hr7 := hr6.grow g7 s6 npl
              refine ite2 (fun _ => ?_) (fun _ => iteF ?_)
              · refine ⟨_, rfl, _, _, rfl, rfl, _, rfl, ite2 (fun pos => ?_) (fun _ => ?_)⟩
                · have pos' : 0 < r6 := of_decide_eq_true pos
                  obtain ⟨x6, rfl⟩ : ∃ x : Nat, r6 = (x : Int) := ⟨r6.toNat, by omega⟩
                  have x6l : x6 < as5.length := by
                    rw [List.length_map] at d1
                    omega
                  obtain ⟨as7, ha7, hp7⟩ := id hr7
                  have e57 : as7.map V.ref = as5.map V.ref := by
                    have z := g7 _ _ (g6 _ _ ha5 npl.symm) npl.symm
                    rw [ha7] at z
                    injection z with z
                    injection z
                  have l57 : as7.length = as5.length := by
                    have z := congrArg List.length e57
                    rwa [List.length_map, List.length_map] at z
                  have x7l : x6 < as7.length := by omega
                  obtain ⟨a7, ea7⟩ : ∃ a, as7[x6]? = some a := ⟨_, List.getElem?_eq_getElem x7l⟩
                  obtain ⟨r, hir, hra⟩ := paired_at hp7 ea7
                  obtain ⟨xs, m, h1, h2, h3, h4, h6, h5⟩ := cut_row hra
                  refine ⟨_, rfl, _, rfl, l, _, _, _, rfl, rfl, SqL.of ha7, atI_nat (by rw [List.getElem?_map, ea7]; rfl), _, rfl, _, rfl, a7, _, rfl, SqT.of h1, h6, fun b hb => ?_⟩
                  rw [h4]
                  have g8 := Grow.new (p := p) (o := .tup xs) hb
                  have s8 := s7.new (o := .tup xs) hb
                  have b8 : (upd H7 b (.tup xs)) b = some (.tup xs) := upd_same
                  have k8 : Same H7 (upd H7 b (.tup xs)) := same_new hb
                  revert s8 b8 k8 g8
                  generalize (upd H7 b (.tup xs)) = H8
                  intro g8 s8 b8 k8
                  refine ⟨_, rfl, _, rfl, l, as7.map V.ref, rfl, .inl (SqL.of (k8 _ _ ha7)), p, 5000 * i + 201 + 2000 * 1 + 2, _, rfl, s8, by omega, (by rw [List.length_map]; omega), (by rw [List.length_map]; omega), fun r9 H9 f0 f1 g9 s9 => ⟨(by show 1 ≤ sizeLine; decide), fun c hc => ?_⟩⟩
                  have b9 := g9.tup s8 b8
                  refine ⟨b, c, _, _, rfl, rfl, SqT.of (by rw [upd_ne (ne_of_none b9 hc)]; exact b9), SqT.of upd_same, h2, Nat.le_of_lt (small (by show xs.length + 1 < 1000000; omega)), (by intro z; cases z), fun _ y hy => ?_⟩
                  obtain ⟨x9, rfl⟩ : ∃ x : Nat, r9 = (x : Int) := ⟨r9.toNat, by omega⟩
                  rw [List.length_map] at f1
                  have gA := ((g8.trans g9).trans (Grow.new (o := .tup [V.int (x9 : Int)]) hc)).trans (Grow.new (o := .tup (xs ++ [V.int (x9 : Int)])) hy)
                  have sA := (s9.new (o := .tup [V.int (x9 : Int)]) hc).new (o := .tup (xs ++ [V.int (x9 : Int)])) hy
                  have yA : (upd (upd H9 c (.tup [V.int (x9 : Int)])) y (.tup (xs ++ [V.int (x9 : Int)]))) y = some (.tup (xs ++ [V.int (x9 : Int)])) := upd_same
                  revert gA sA yA
                  generalize (upd (upd H9 c (.tup [V.int (x9 : Int)])) y (.tup (xs ++ [V.int (x9 : Int)]))) = HA
                  intro gA sA yA
                  have lA := gA _ _ ha7 npl.symm
                  have keepD : ∀ d kvs, H7 d = some (.dK kvs) → (upd HA l (.lst ((as7.map V.ref).set x6 (V.ref y)))) d = some (.dK kvs) := fun d kvs e => by
                    have e2 := gA.dk s7 e
                    rw [upd_ne (ne_of e2 lA (by intro z; cases z))]
                    exact e2
                  refine ⟨_, rfl, _, rfl, l, _, _, x6, rfl, rfl, lA, ?_, ?_⟩
                  · rw [List.length_map]
                    unfold ixN
                    rw [if_pos (by omega), if_pos (by omega)]
                    rfl
                  have yl : y ≠ l := ne_of yA lA (by intro z; cases z)
                  have rl1 := hp7.length
                  refine hD' _ _ ⟨l, rs1.set x6 (r.last x9), _, _, _, _, rfl, ⟨as7.set x6 y, by rw [upd_same, List.map_set], paired_set x6 (L2.Paired.mapP hp7 fun a r e => (e.grow gA s7).put lA) (h5 _ y x9 keepD (by rw [upd_ne yl]; exact yA))⟩, ⟨fun r' hr' => ?_, ?_, ?_, ?_⟩, ?_, nameAB, ((sA.put npl).le (by omega))⟩
                  · rw [List.length_set]
                    rcases List.mem_or_eq_of_mem_set hr' with z | z
                    · exact good5.1 r' z
                    · rw [z]
                      exact Row.last_ok (good5.1 r (List.mem_of_getElem? hir)) (by omega)
                  · rw [List.getElem?_set_ne (by omega)]
                    exact good5.2.1
                  · rw [List.length_set]
                    exact good5.2.2.1
                  · rw [List.length_set]
                    exact good5.2.2.2
                  · rw [List.length_set]
                    exact n30
                · exact hD' _ _ ⟨l, rs1, _, _, _, _, rfl, hr7, good5, n30, nameAB, s7.le (by omega)⟩
              · exact hD' _ _ ⟨l, rs1, _, _, _, _, rfl, hr7, good5, n30, nameAB, s7.le (by omega)⟩
        · exact hD' _ _ ⟨q, rs, _, _, _, _, rfl, hr3.grow g4 s3 (s2.ne hq3), good3, n3, nameA, s4.le (by omega)⟩
    · rintro σ H2 ⟨v2, v3, v4, v5, rfl, s2⟩
      exact k H2
end
end CC

set_option Elab.async false
set_option maxRecDepth 100000
namespace CC
open PySem L2
set_option linter.unusedVariables false

theorem exm_own {K : PySem.W.Frag} {S : Addr} (base_ : PySem.W.subIn K (.ref S) (.type "BaseException") = some true) (is_ : PySem.W.isClsIn K S = true) (ty_ : PySem.W.typeIn K (.ref S) = some (.type "type")) (self_ : PySem.W.subIn K (.ref S) (.ref S) = some true) :
    PySem.W.exmOne K (.ref S) (.ref S) = some true := by
  have c : (PySem.W.clsIn K S).isSome = true := is_
  unfold PySem.W.exmOne PySem.W.kitCls
  simp [base_, ty_, self_, c]
theorem all_mk {P : Program} {w : World} {K : PySem.W.Frag} {h : Heap} {mg : Str → Option Value} {fa C CN CE TD N f0 f1 f2 f3 f4 f5 f6 f7 f8 f9 f10 f11 f12 f13 f14 f15 f16 f17 f18 f19 f20 f21 f22 f23 f24 f25 f26 f27 : Addr} (X : K.In h) (G : h.Ns mainGlobals mg) (hfa : mg "law" = some (.ref fa))
    {od0 an0 od1 an1 od2 an2 od3 an3 od4 an4 od5 an5 od6 an6 od7 an7 od8 an8 od9 an9 od10 an10 od11 an11 od12 an12 od13 an13 od14 an14 od15 an15 od16 an16 od17 an17 od18 an18 od19 an19 od20 an20 od21 an21 od22 an22 od23 an23 od24 an24 od25 an25 od26 an26 od27 an27 odT dd : Option Addr} {sl0 sl1 sl2 sl3 sl4 sl5 sl6 sl7 sl8 sl9 sl10 sl11 sl12 sl13 sl14 sl15 sl16 sl17 sl18 sl19 sl20 sl21 sl22 sl23 sl24 sl25 sl26 sl27 slT : Array (Option Value)} {oc0 kV0 dc0 pm0 cd0 ct0 oc1 kV1 dc1 pm1 cd1 ct1 oc2 kV2 dc2 pm2 cd2 ct2 oc3 kV3 dc3 pm3 cd3 ct3 oc4 kV4 dc4 pm4 cd4 ct4 oc5 kV5 dc5 pm5 cd5 ct5 oc6 kV6 dc6 pm6 cd6 ct6 oc7 kV7 dc7 pm7 cd7 ct7 oc8 kV8 dc8 pm8 cd8 ct8 oc9 kV9 dc9 pm9 cd9 ct9 oc10 kV10 dc10 pm10 cd10 ct10 oc11 kV11 dc11 pm11 cd11 ct11 oc12 kV12 dc12 pm12 cd12 ct12 oc13 kV13 dc13 pm13 cd13 ct13 oc14 kV14 dc14 pm14 cd14 ct14 oc15 kV15 dc15 pm15 cd15 ct15 oc16 kV16 dc16 pm16 cd16 ct16 oc17 kV17 dc17 pm17 cd17 ct17 oc18 kV18 dc18 pm18 cd18 ct18 oc19 kV19 dc19 pm19 cd19 ct19 oc20 kV20 dc20 pm20 cd20 ct20 oc21 kV21 dc21 pm21 cd21 ct21 oc22 kV22 dc22 pm22 cd22 ct22 oc23 kV23 dc23 pm23 cd23 ct23 oc24 kV24 dc24 pm24 cd24 ct24 oc25 kV25 dc25 pm25 cd25 ct25 oc26 kV26 dc26 pm26 cd26 ct26 oc27 kV27 dc27 pm27 cd27 ct27 ocT : Value} {tkT t1 t2 t3 : Tok} {nT : Nat} {nm q : Str} {bs bm sub : List Value} {sn : List Str} {ab : Bool} {col : Option Bool} {m0 m1 m2 m3 m5 : Option Value}
    (a0 : PySem.W.nsIn K mainGlobals "is_list" = some (some (.ref f0))) (l0 : K.lookup f0 = some ⟨oc0, od0, .func (PySem.W.fnOf "is_list" "is_list" (defArgs sIsList) (defBody sIsList) (defScope sIsList) .none kV0 dc0 pm0 an0 cd0 ct0), sl0⟩) (c0 : PySem.W.codeIn K cd0 "is_list" = true) (k0 : PySem.W.keepIn K (.ref f0) = true)
    (a1 : PySem.W.nsIn K mainGlobals "is_whole" = some (some (.ref f1))) (l1 : K.lookup f1 = some ⟨oc1, od1, .func (PySem.W.fnOf "is_whole" "is_whole" (defArgs sIsWhole) (defBody sIsWhole) (defScope sIsWhole) .none kV1 dc1 pm1 an1 cd1 ct1), sl1⟩) (c1 : PySem.W.codeIn K cd1 "is_whole" = true) (k1 : PySem.W.keepIn K (.ref f1) = true)
    (a2 : PySem.W.nsIn K mainGlobals "is_number" = some (some (.ref f2))) (l2 : K.lookup f2 = some ⟨oc2, od2, .func (PySem.W.fnOf "is_number" "is_number" (defArgs sIsNumber) (defBody sIsNumber) (defScope sIsNumber) .none kV2 dc2 pm2 an2 cd2 ct2), sl2⟩) (c2 : PySem.W.codeIn K cd2 "is_number" = true) (k2 : PySem.W.keepIn K (.ref f2) = true)
    (a3 : PySem.W.nsIn K mainGlobals "is_name" = some (some (.ref f3))) (l3 : K.lookup f3 = some ⟨oc3, od3, .func (PySem.W.fnOf "is_name" "is_name" (defArgs sIsName) (defBody sIsName) (defScope sIsName) .none kV3 dc3 pm3 an3 cd3 ct3), sl3⟩) (c3 : PySem.W.codeIn K cd3 "is_name" = true) (k3 : PySem.W.keepIn K (.ref f3) = true)
    (a4 : PySem.W.nsIn K mainGlobals "are_cases" = some (some (.ref f4))) (l4 : K.lookup f4 = some ⟨oc4, od4, .func (PySem.W.fnOf "are_cases" "are_cases" (defArgs sAreCases) (defBody sAreCases) (defScope sAreCases) .none kV4 dc4 pm4 an4 cd4 ct4), sl4⟩) (c4 : PySem.W.codeIn K cd4 "are_cases" = true) (k4 : PySem.W.keepIn K (.ref f4) = true)
    (a5 : PySem.W.nsIn K mainGlobals "is_row" = some (some (.ref f5))) (l5 : K.lookup f5 = some ⟨oc5, od5, .func (PySem.W.fnOf "is_row" "is_row" (defArgs sIsRow) (defBody sIsRow) (defScope sIsRow) .none kV5 dc5 pm5 an5 cd5 ct5), sl5⟩) (c5 : PySem.W.codeIn K cd5 "is_row" = true) (k5 : PySem.W.keepIn K (.ref f5) = true)
    (a6 : PySem.W.nsIn K mainGlobals "copied" = some (some (.ref f6))) (l6 : K.lookup f6 = some ⟨oc6, od6, .func (PySem.W.fnOf "copied" "copied" (defArgs sCopied) (defBody sCopied) (defScope sCopied) .none kV6 dc6 pm6 an6 cd6 ct6), sl6⟩) (c6 : PySem.W.codeIn K cd6 "copied" = true) (k6 : PySem.W.keepIn K (.ref f6) = true)
    (a7 : PySem.W.nsIn K mainGlobals "followers" = some (some (.ref f7))) (l7 : K.lookup f7 = some ⟨oc7, od7, .func (PySem.W.fnOf "followers" "followers" (defArgs sFollowers) (defBody sFollowers) (defScope sFollowers) .none kV7 dc7 pm7 an7 cd7 ct7), sl7⟩) (c7 : PySem.W.codeIn K cd7 "followers" = true) (k7 : PySem.W.keepIn K (.ref f7) = true)
    (a8 : PySem.W.nsIn K mainGlobals "wrong_row" = some (some (.ref f8))) (l8 : K.lookup f8 = some ⟨oc8, od8, .func (PySem.W.fnOf "wrong_row" "wrong_row" (defArgs sWrongRow) (defBody sWrongRow) (defScope sWrongRow) .none kV8 dc8 pm8 an8 cd8 ct8), sl8⟩) (c8 : PySem.W.codeIn K cd8 "wrong_row" = true) (k8 : PySem.W.keepIn K (.ref f8) = true)
    (a9 : PySem.W.nsIn K mainGlobals "is_once" = some (some (.ref f9))) (l9 : K.lookup f9 = some ⟨oc9, od9, .func (PySem.W.fnOf "is_once" "is_once" (defArgs sIsOnce) (defBody sIsOnce) (defScope sIsOnce) .none kV9 dc9 pm9 an9 cd9 ct9), sl9⟩) (c9 : PySem.W.codeIn K cd9 "is_once" = true) (k9 : PySem.W.keepIn K (.ref f9) = true)
    (a10 : PySem.W.nsIn K mainGlobals "shown" = some (some (.ref f10))) (l10 : K.lookup f10 = some ⟨oc10, od10, .func (PySem.W.fnOf "shown" "shown" (defArgs sShown) (defBody sShown) (defScope sShown) .none kV10 dc10 pm10 an10 cd10 ct10), sl10⟩) (c10 : PySem.W.codeIn K cd10 "shown" = true) (k10 : PySem.W.keepIn K (.ref f10) = true)
    (a11 : PySem.W.nsIn K mainGlobals "_law_source" = some (some (.ref f11))) (l11 : K.lookup f11 = some ⟨oc11, od11, .func (PySem.W.fnOf "_law_source" "_law_source" (defArgs sSource) (defBody sSource) (defScope sSource) .none kV11 dc11 pm11 an11 cd11 ct11), sl11⟩) (c11 : PySem.W.codeIn K cd11 "_law_source" = true) (k11 : PySem.W.keepIn K (.ref f11) = true)
    (a12 : PySem.W.nsIn K mainGlobals "_law_draw" = some (some (.ref f12))) (l12 : K.lookup f12 = some ⟨oc12, od12, .func (PySem.W.fnOf "_law_draw" "_law_draw" (defArgs sDraw) (defBody sDraw) (defScope sDraw) .none kV12 dc12 pm12 an12 cd12 ct12), sl12⟩) (c12 : PySem.W.codeIn K cd12 "_law_draw" = true) (k12 : PySem.W.keepIn K (.ref f12) = true)
    (a13 : PySem.W.nsIn K mainGlobals "_law_pick" = some (some (.ref f13))) (l13 : K.lookup f13 = some ⟨oc13, od13, .func (PySem.W.fnOf "_law_pick" "_law_pick" (defArgs sPick) (defBody sPick) (defScope sPick) .none kV13 dc13 pm13 an13 cd13 ct13), sl13⟩) (c13 : PySem.W.codeIn K cd13 "_law_pick" = true) (k13 : PySem.W.keepIn K (.ref f13) = true)
    (a14 : PySem.W.nsIn K mainGlobals "_law_subset" = some (some (.ref f14))) (l14 : K.lookup f14 = some ⟨oc14, od14, .func (PySem.W.fnOf "_law_subset" "_law_subset" (defArgs sSubset) (defBody sSubset) (defScope sSubset) .none kV14 dc14 pm14 an14 cd14 ct14), sl14⟩) (c14 : PySem.W.codeIn K cd14 "_law_subset" = true) (k14 : PySem.W.keepIn K (.ref f14) = true)
    (a15 : PySem.W.nsIn K mainGlobals "_law_any_row" = some (some (.ref f15))) (l15 : K.lookup f15 = some ⟨oc15, od15, .func (PySem.W.fnOf "_law_any_row" "_law_any_row" (defArgs sAnyRow) (defBody sAnyRow) (defScope sAnyRow) .none kV15 dc15 pm15 an15 cd15 ct15), sl15⟩) (c15 : PySem.W.codeIn K cd15 "_law_any_row" = true) (k15 : PySem.W.keepIn K (.ref f15) = true)
    (a16 : PySem.W.nsIn K mainGlobals "_law_rows" = some (some (.ref f16))) (l16 : K.lookup f16 = some ⟨oc16, od16, .func (PySem.W.fnOf "_law_rows" "_law_rows" (defArgs sRows) (defBody sRows) (defScope sRows) .none kV16 dc16 pm16 an16 cd16 ct16), sl16⟩) (c16 : PySem.W.codeIn K cd16 "_law_rows" = true) (k16 : PySem.W.keepIn K (.ref f16) = true)
    (a17 : PySem.W.nsIn K mainGlobals "_law_doubled" = some (some (.ref f17))) (l17 : K.lookup f17 = some ⟨oc17, od17, .func (PySem.W.fnOf "_law_doubled" "_law_doubled" (defArgs sDoubled) (defBody sDoubled) (defScope sDoubled) .none kV17 dc17 pm17 an17 cd17 ct17), sl17⟩) (c17 : PySem.W.codeIn K cd17 "_law_doubled" = true) (k17 : PySem.W.keepIn K (.ref f17) = true)
    (a18 : PySem.W.nsIn K mainGlobals "_law_threads" = some (some (.ref f18))) (l18 : K.lookup f18 = some ⟨oc18, od18, .func (PySem.W.fnOf "_law_threads" "_law_threads" (defArgs sThreads) (defBody sThreads) (defScope sThreads) .none kV18 dc18 pm18 an18 cd18 ct18), sl18⟩) (c18 : PySem.W.codeIn K cd18 "_law_threads" = true) (k18 : PySem.W.keepIn K (.ref f18) = true)
    (a19 : PySem.W.nsIn K mainGlobals "_law_tried" = some (some (.ref f19))) (l19 : K.lookup f19 = some ⟨oc19, od19, .func (PySem.W.fnOf "_law_tried" "_law_tried" (defArgs sTried) (defBody sTried) (defScope sTried) .none kV19 dc19 pm19 an19 cd19 ct19), sl19⟩) (c19 : PySem.W.codeIn K cd19 "_law_tried" = true) (k19 : PySem.W.keepIn K (.ref f19) = true)
    (a20 : PySem.W.nsIn K mainGlobals "_law_next" = some (some (.ref f20))) (l20 : K.lookup f20 = some ⟨oc20, od20, .func (PySem.W.fnOf "_law_next" "_law_next" (defArgs sNext) (defBody sNext) (defScope sNext) .none kV20 dc20 pm20 an20 cd20 ct20), sl20⟩) (c20 : PySem.W.codeIn K cd20 "_law_next" = true) (k20 : PySem.W.keepIn K (.ref f20) = true)
    (a21 : PySem.W.nsIn K mainGlobals "_law_is_right" = some (some (.ref f21))) (l21 : K.lookup f21 = some ⟨oc21, od21, .func (PySem.W.fnOf "_law_is_right" "_law_is_right" (defArgs sRight) (defBody sRight) (defScope sRight) .none kV21 dc21 pm21 an21 cd21 ct21), sl21⟩) (c21 : PySem.W.codeIn K cd21 "_law_is_right" = true) (k21 : PySem.W.keepIn K (.ref f21) = true)
    (a22 : PySem.W.nsIn K mainGlobals "_law_any" = some (some (.ref f22))) (l22 : K.lookup f22 = some ⟨oc22, od22, .func (PySem.W.fnOf "_law_any" "_law_any" (defArgs sAny) (defBody sAny) (defScope sAny) .none kV22 dc22 pm22 an22 cd22 ct22), sl22⟩) (c22 : PySem.W.codeIn K cd22 "_law_any" = true) (k22 : PySem.W.keepIn K (.ref f22) = true)
    (a23 : PySem.W.nsIn K mainGlobals "law" = some (some (.ref f23))) (l23 : K.lookup f23 = some ⟨oc23, od23, .func (PySem.W.fnOf "law" "law" (defArgs sLaw) (defBody sLaw) (defScope sLaw) .none kV23 dc23 pm23 an23 cd23 ct23), sl23⟩) (c23 : PySem.W.codeIn K cd23 "law" = true) (k23 : PySem.W.keepIn K (.ref f23) = true)
    (aC : PySem.W.nsIn K mainGlobals "Program" = some (some (.ref C))) (aN : PySem.W.nsIn K mainGlobals "NotOnce" = some (some (.ref CN))) (aE : PySem.W.nsIn K mainGlobals "CellError" = some (some (.ref CE)))
    (a24 : PySem.W.findIn K (.ref C) "__init__" = some (some (.ref f24))) (l24 : K.lookup f24 = some ⟨oc24, od24, .func (PySem.W.fnOf "__init__" "Program.__init__" (defArgs sProgInit) (defBody sProgInit) (defScope sProgInit) .none kV24 dc24 pm24 an24 cd24 ct24), sl24⟩) (c24 : PySem.W.codeIn K cd24 "Program.__init__" = true) (k24 : PySem.W.keepIn K (.ref f24) = true)
    (a25 : PySem.W.findIn K (.ref C) "__len__" = some (some (.ref f25))) (l25 : K.lookup f25 = some ⟨oc25, od25, .func (PySem.W.fnOf "__len__" "Program.__len__" (defArgs sProgLen) (defBody sProgLen) (defScope sProgLen) .none kV25 dc25 pm25 an25 cd25 ct25), sl25⟩) (c25 : PySem.W.codeIn K cd25 "Program.__len__" = true) (k25 : PySem.W.keepIn K (.ref f25) = true)
    (a26 : PySem.W.findIn K (.ref CN) "__init__" = some (some (.ref f26))) (l26 : K.lookup f26 = some ⟨oc26, od26, .func (PySem.W.fnOf "__init__" "NotOnce.__init__" (defArgs sNotInit) (defBody sNotInit) (defScope sNotInit) .none kV26 dc26 pm26 an26 cd26 ct26), sl26⟩) (c26 : PySem.W.codeIn K cd26 "NotOnce.__init__" = true) (k26 : PySem.W.keepIn K (.ref f26) = true)
    (a27 : PySem.W.findCls K (.ref CE) (.type "type") "__init__" = some (.val (.ref f27))) (l27 : K.lookup f27 = some ⟨oc27, od27, .func (PySem.W.fnOf "__init__" "CellError.__init__" (defArgs sCellInit) (defBody sCellInit) (defScope sCellInit) (.ref TD) kV27 dc27 pm27 an27 cd27 ct27), sl27⟩) (c27 : PySem.W.codeIn K cd27 "CellError.__init__" = true) (k27 : PySem.W.keepIn K (.ref f27) = true)
    (lT : K.lookup TD = some ⟨ocT, odT, .seq #[.str (Str.ofString "") tkT] nT, slT⟩) (pg : PySem.W.plainGet K C Str.empty = true) (hd : PySem.W.hasDictIn K C = true) (po : PySem.W.plainOver K C = true) (sa : PySem.W.findIn K (.ref C) "__setattr__" = some (some (.builtin "object.__setattr__"))) (mk : PySem.W.makesIn K C = true) (kc : PySem.W.keepIn K (.ref C) = true) (iI : PySem.W.isFn K (.ref f24) = true) (iL : PySem.W.isFn K (.ref f25) = true) (nR : PySem.W.findIn K (.ref C) "_rows" = some none) (xN : K.lookup CN = some (excClassObj nm q CN N bs bm true sn sub ab col dd m0 m1 m2 m3 m5 "ValueError.__new__")) (hbm : PySem.HandSPX.refsVE bm = true) (saN : PySem.W.findIn K (.ref CN) "__setattr__" = some (some (.builtin "object.__setattr__"))) (exN : PySem.W.subIn K (.ref CN) (.type "BaseException") = some true) (tyN : PySem.W.typeIn K (.ref CN) = some (.type "type")) (kN : PySem.W.keepIn K (.ref CN) = true) (tI : PySem.W.typeIn K (.ref f26) = some (.type "function")) (rN : PySem.W.findIn K (.ref CN) "row" = some none) (gaN : PySem.W.findIn K (.ref CN) "__getattribute__" = some (some (.builtin "BaseException.__getattribute__"))) (ggN : PySem.W.findIn K (.ref CN) "__getattr__" = some none) (hdN : PySem.W.hasDictIn K CN = true) (icN : PySem.W.isClsIn K CN = true) (ssN : PySem.W.subIn K (.ref CN) (.ref CN) = some true) (gaE : PySem.W.specialIn K (.ref CE) "__getattribute__" = some (some (.builtin "type.__getattribute__"))) (rdE : PySem.W.readsIn K CE (.type "type") = true) (vV : PySem.W.findCls K (.type "ValueError") (.type "type") "__init__" = some (.val (.builtin "ValueError.__init__"))) (vF : PySem.W.nsIn K mainGlobals "FEWEST_ROWS" = some (some (.int 2 t1))) (vM : PySem.W.nsIn K mainGlobals "MOST_ROWS" = some (some (.int 60 t2))) (vS : PySem.W.nsIn K mainGlobals "SHOWN_BELOW" = some (some (.int 1000000000000 t3)))
    (z0 : PySem.W.nsIn K mainGlobals "int" = some none) (z1 : PySem.W.nsIn K mainGlobals "len" = some none) (z2 : PySem.W.nsIn K mainGlobals "dict" = some none) (z3 : PySem.W.nsIn K mainGlobals "range" = some none) (z4 : PySem.W.nsIn K mainGlobals "isinstance" = some none) (z5 : PySem.W.nsIn K mainGlobals "list" = some none) (z6 : PySem.W.nsIn K mainGlobals "tuple" = some none) (z7 : PySem.W.nsIn K mainGlobals "bool" = some none) (z8 : PySem.W.nsIn K mainGlobals "str" = some none) (z9 : PySem.W.nsIn K mainGlobals "all" = some none) (z10 : PySem.W.nsIn K mainGlobals "sorted" = some none) (z11 : PySem.W.nsIn K mainGlobals "enumerate" = some none) (z12 : PySem.W.nsIn K mainGlobals "set" = some none) (z13 : PySem.W.nsIn K mainGlobals "abs" = some none) (z14 : PySem.W.nsIn K mainGlobals "ValueError" = some none) :
    ∃ fd : FuncData, (∀ (s : Shared) (v : Value), BindsTo s fd ⟨[v], []⟩ [("_law_script", v)]) ∧ ∀ base : Heap, K.In base → base.Ns mainGlobals mg → FnOk P w K mg base CX0 9 fa fd ["_law_script"] (spLaw K) := by
  have e := hfa.symm.trans (PySem.W.mg_of X G a23)
  cases e
  have F0 := fun_mk (st := sIsList) l0 c0 k0
  have b0 := F0.binds (ps := ["value"]) fun _ _ _ _ _ _ us hl => match us, hl with | [_], _ => rfl
  have g0 := PySem.W.mg_of X G a0
  have F1 := fun_mk (st := sIsWhole) l1 c1 k1
  have b1 := F1.binds (ps := ["value"]) fun _ _ _ _ _ _ us hl => match us, hl with | [_], _ => rfl
  have g1 := PySem.W.mg_of X G a1
  have F2 := fun_mk (st := sIsNumber) l2 c2 k2
  have b2 := F2.binds (ps := ["value", "many"]) fun _ _ _ _ _ _ us hl => match us, hl with | [_, _], _ => rfl
  have g2 := PySem.W.mg_of X G a2
  have F3 := fun_mk (st := sIsName) l3 c3 k3
  have b3 := F3.binds (ps := ["value"]) fun _ _ _ _ _ _ us hl => match us, hl with | [_], _ => rfl
  have g3 := PySem.W.mg_of X G a3
  have F4 := fun_mk (st := sAreCases) l4 c4 k4
  have b4 := F4.binds (ps := ["value", "many"]) fun _ _ _ _ _ _ us hl => match us, hl with | [_, _], _ => rfl
  have g4 := PySem.W.mg_of X G a4
  have F5 := fun_mk (st := sIsRow) l5 c5 k5
  have b5 := F5.binds (ps := ["value", "many"]) fun _ _ _ _ _ _ us hl => match us, hl with | [_, _], _ => rfl
  have g5 := PySem.W.mg_of X G a5
  have F6 := fun_mk (st := sCopied) l6 c6 k6
  have b6 := F6.binds (ps := ["row"]) fun _ _ _ _ _ _ us hl => match us, hl with | [_], _ => rfl
  have g6 := PySem.W.mg_of X G a6
  have F7 := fun_mk (st := sFollowers) l7 c7 k7
  have b7 := F7.binds (ps := ["row"]) fun _ _ _ _ _ _ us hl => match us, hl with | [_], _ => rfl
  have g7 := PySem.W.mg_of X G a7
  have F8 := fun_mk (st := sWrongRow) l8 c8 k8
  have b8 := F8.binds (ps := ["rows"]) fun _ _ _ _ _ _ us hl => match us, hl with | [_], _ => rfl
  have g8 := PySem.W.mg_of X G a8
  have F9 := fun_mk (st := sIsOnce) l9 c9 k9
  have b9 := F9.binds (ps := ["rows", "first"]) fun _ _ _ _ _ _ us hl => match us, hl with | [_, _], _ => rfl
  have g9 := PySem.W.mg_of X G a9
  have F10 := fun_mk (st := sShown) l10 c10 k10
  have b10 := F10.binds (ps := ["value"]) fun _ _ _ _ _ _ us hl => match us, hl with | [_], _ => rfl
  have g10 := PySem.W.mg_of X G a10
  have F11 := fun_mk (st := sSource) l11 c11 k11
  have b11 := F11.binds (ps := ["_law_script"]) fun _ _ _ _ _ _ us hl => match us, hl with | [_], _ => rfl
  have g11 := PySem.W.mg_of X G a11
  have F12 := fun_mk (st := sDraw) l12 c12 k12
  have b12 := F12.binds (ps := ["_law_source_here", "_law_many"]) fun _ _ _ _ _ _ us hl => match us, hl with | [_, _], _ => rfl
  have g12 := PySem.W.mg_of X G a12
  have F13 := fun_mk (st := sPick) l13 c13 k13
  have b13 := F13.binds (ps := ["_law_source_here", "_law_things"]) fun _ _ _ _ _ _ us hl => match us, hl with | [_, _], _ => rfl
  have g13 := PySem.W.mg_of X G a13
  have F14 := fun_mk (st := sSubset) l14 c14 k14
  have b14 := F14.binds (ps := ["_law_source_here", "_law_row"]) fun _ _ _ _ _ _ us hl => match us, hl with | [_, _], _ => rfl
  have g14 := PySem.W.mg_of X G a14
  have F15 := fun_mk (st := sAnyRow) l15 c15 k15
  have b15 := F15.binds (ps := ["_law_source_here", "_law_cells", "_law_first", "_law_last", "_law_worths"]) fun _ _ _ _ _ _ us hl => match us, hl with | [_, _, _, _, _], _ => rfl
  have g15 := PySem.W.mg_of X G a15
  have F16 := fun_mk (st := sRows) l16 c16 k16
  have b16 := F16.binds (ps := ["_law_source_here", "_law_cells", "_law_ahead", "_law_behind", "_law_worths"]) fun _ _ _ _ _ _ us hl => match us, hl with | [_, _, _, _, _], _ => rfl
  have g16 := PySem.W.mg_of X G a16
  have F17 := fun_mk (st := sDoubled) l17 c17 k17
  have b17 := F17.binds (ps := ["_law_rows_here"]) fun _ _ _ _ _ _ us hl => match us, hl with | [_], _ => rfl
  have g17 := PySem.W.mg_of X G a17
  have F18 := fun_mk (st := sThreads) l18 c18 k18
  have b18 := F18.binds (ps := ["_law_source_here", "_law_threads_here", "_law_cells", "_law_most"]) fun _ _ _ _ _ _ us hl => match us, hl with | [_, _, _, _], _ => rfl
  have g18 := PySem.W.mg_of X G a18
  have F19 := fun_mk (st := sTried) l19 c19 k19
  have b19 := F19.binds (ps := ["_law_rows_here"]) fun _ _ _ _ _ _ us hl => match us, hl with | [_], _ => rfl
  have g19 := PySem.W.mg_of X G a19
  have F20 := fun_mk (st := sNext) l20 c20 k20
  have b20 := F20.binds (ps := ["_law_row"]) fun _ _ _ _ _ _ us hl => match us, hl with | [_], _ => rfl
  have g20 := PySem.W.mg_of X G a20
  have F21 := fun_mk (st := sRight) l21 c21 k21
  have b21 := F21.binds (ps := ["_law_rows_here", "_law_first"]) fun _ _ _ _ _ _ us hl => match us, hl with | [_, _], _ => rfl
  have g21 := PySem.W.mg_of X G a21
  have F22 := fun_mk (st := sAny) l22 c22 k22
  have b22 := F22.binds (ps := ["_law_source_here"]) fun _ _ _ _ _ _ us hl => match us, hl with | [_], _ => rfl
  have g22 := PySem.W.mg_of X G a22
  have F23 := fun_mk (st := sLaw) l23 c23 k23
  have b23 := F23.binds (ps := ["_law_script"]) fun _ _ _ _ _ _ us hl => match us, hl with | [_], _ => rfl
  have g23 := PySem.W.mg_of X G a23
  have F24 := fun_mk (st := sProgInit) l24 c24 k24
  have b24 := F24.binds (ps := ["self", "rows"]) fun _ _ _ _ _ _ us hl => match us, hl with | [_, _], _ => rfl
  have F25 := fun_mk (st := sProgLen) l25 c25 k25
  have b25 := F25.binds (ps := ["self"]) fun _ _ _ _ _ _ us hl => match us, hl with | [_], _ => rfl
  have F26 := fun_mk (st := sNotInit) l26 c26 k26
  have b26 := F26.binds (ps := ["self", "row"]) fun _ _ _ _ _ _ us hl => match us, hl with | [_, _], _ => rfl
  have FE : FunD K "__init__" "CellError.__init__" (defArgs sCellInit) (defBody sCellInit) (defScope sCellInit) [V.str ""] [] f27 _ := ⟨⟨_, _, _, _, _, _, _, _, _, _, rfl, l27, c27, .inr ⟨(by intro z; cases z), TD, _, [.str (Str.ofString "") tkT], nT, rfl, lT, rfl, .cons ⟨tkT, rfl⟩ .nil⟩, .inl rfl⟩, k27⟩
  obtain ⟨ds, hv, bE⟩ := FE.binds1 (ps := ["self", "why"]) 2 1 (by intro z; cases z) rfl (fun T kV doc pm an cdv ct us its hu hi => match us, hu, its, hi with | [_, _], _, [_], _ => ⟨_, rfl, rfl⟩)
  cases hv
  have n_int := PySem.W.mg_none_of X G z0
  have n_len := PySem.W.mg_none_of X G z1
  have n_dict := PySem.W.mg_none_of X G z2
  have n_range := PySem.W.mg_none_of X G z3
  have n_isinstance := PySem.W.mg_none_of X G z4
  have n_list := PySem.W.mg_none_of X G z5
  have n_tuple := PySem.W.mg_none_of X G z6
  have n_bool := PySem.W.mg_none_of X G z7
  have n_str := PySem.W.mg_none_of X G z8
  have n_all := PySem.W.mg_none_of X G z9
  have n_sorted := PySem.W.mg_none_of X G z10
  have n_enumerate := PySem.W.mg_none_of X G z11
  have n_set := PySem.W.mg_none_of X G z12
  have n_abs := PySem.W.mg_none_of X G z13
  have n_ValueError := PySem.W.mg_none_of X G z14
  refine ⟨PySem.W.fnOf "law" "law" (defArgs sLaw) (defBody sLaw) (defScope sLaw) .none kV23 dc23 pm23 an23 cd23 ct23, fun s v => .of_eq rfl, fun base _ _ => ?_⟩
  have G0 := ok_islist (P := P) (w := w) (base := base) F0 n_isinstance n_list n_tuple
  have G1 := ok_iswhole (P := P) (w := w) (base := base) F1 n_isinstance n_int n_bool
  have G2 := ok_isnumber (P := P) (w := w) (base := base) F2 G1 g1 k1 b1
  have G3 := ok_isname (P := P) (w := w) (base := base) F3 n_isinstance n_str n_len
  have G4 := ok_arecases (P := P) (w := w) (base := base) F4 G1 g1 k1 b1 G2 g2 k2 b2 n_isinstance n_dict n_all
  have G5 := ok_isrow (P := P) (w := w) (base := base) F5 G0 g0 k0 b0 G1 g1 k1 b1 G3 g3 k3 b3 G2 g2 k2 b2 G4 g4 k4 b4 n_isinstance n_str n_len
  have G6 := ok_copied (P := P) (w := w) (base := base) F6 n_tuple n_sorted
  have G7 := ok_followers (P := P) (w := w) (base := base) F7 n_list
  have G8 := ok_wrongrow (P := P) (w := w) (base := base) F8 G0 g0 k0 b0 G5 g5 k5 b5 n_len n_enumerate (PySem.W.mg_of X G vF) (PySem.W.mg_of X G vM)
  have G9 := ok_isonce (P := P) (w := w) (base := base) F9 G7 g7 k7 b7 n_set
  have G10 := ok_shown (P := P) (w := w) (base := base) F10 n_isinstance n_str n_int n_abs (PySem.W.mg_of X G vS)
  have GE := ok_cellinit (P := P) (w := w) (base := base) FE G10 g10 k10 b10 n_ValueError vV
  have GN := ok_notinit (P := P) (w := w) (base := base) (C := CN) F26 G10 g10 k10 b10 GE (PySem.W.mg_of X G aE) ⟨gaE, rdE, a27⟩ k27 bE rN
  have oN : OexC K CN := ⟨⟨_, _, _, _, _, _, _, _, _, _, _, _, _, _, _, xN, hbm⟩, saN, exN, tyN, kN⟩
  have cC : Cls K C := ⟨pg, hd, po, sa⟩
  have TT : TxtP K mg C CN f26 := ⟨cC, nR, PySem.W.mg_of X G aN, oN, a26, tI, rN⟩
  have GI := ok_proginit (P := P) (w := w) (base := base) F24 TT GN b26 G8 g8 k8 b8 G6 g6 k6 b6 G9 g9 k9 b9 n_tuple n_enumerate
  have GL := ok_proglen (P := P) (w := w) (base := base) F25 cC nR n_len
  have G11 := ok_source (P := P) (w := w) (base := base) F11 n_int
  have G12 := ok_draw (P := P) (w := w) (base := base) F12 n_int
  have G13 := ok_pick (P := P) (w := w) (base := base) F13 G12 g12 k12 b12 n_len
  have G14 := ok_subset (P := P) (w := w) (base := base) F14 G12 g12 k12 b12
  have G15 := ok_anyrow (P := P) (w := w) (base := base) F15 G12 g12 k12 b12 G13 g13 k13 b13 G14 g14 k14 b14 n_dict
  have G16 := ok_rows (P := P) (w := w) (base := base) F16 G12 g12 k12 b12 G15 g15 k15 b15 n_len n_range
  have G17 := ok_doubled (P := P) (w := w) (base := base) F17 n_len n_range n_dict
  have G18 := ok_threads (P := P) (w := w) (base := base) F18 G12 g12 k12 b12 G16 g16 k16 b16 G17 g17 k17 b17 n_range
  have G19 := ok_tried (P := P) (w := w) (base := base) F19 ⟨mk, a24, iI, kc⟩ (PySem.W.mg_of X G aC) GI b24 GL b25 a25 iL (PySem.W.mg_of X G aN) ⟨gaN, ggN, exN, hdN⟩ rN (exm_own exN icN tyN ssN) n_len
  have G20 := ok_next (P := P) (w := w) (base := base) F20 n_list
  have G21 := ok_right (P := P) (w := w) (base := base) F21 G20 g20 k20 b20 n_len n_int
  have G22 := ok_any (P := P) (w := w) (base := base) F22 G12 g12 k12 b12 n_range n_dict
  exact ok_law (P := P) (w := w) (base := base) F23 G11 g11 k11 b11 G12 g12 k12 b12 G22 g22 k22 b22 G18 g18 k18 b18 G21 g21 k21 b21 G19 g19 k19 b19 n_range n_len
end CC

set_option Elab.async false
set_option maxRecDepth 100000
namespace CC
open PySem L2
theorem walk {l : PySem.W.OpenLaw} {q : Program} {loose : List Str} {XP : (Str → Option Value) → Heap → Prop} {YP : World → Heap → Prop} {d : DefRec} {K : Params → PySem.W.Frag} (hn : l.most = some 63) (hdf : d.params.defaults = [])
    (hY : ∀ (w : World) (h : Heap), YP w h → (K w.params).In h)
    (F : ∀ (w : World) (mg : Str → Option Value) (fa : Addr) (h : Heap), (K w.params).In h → h.Ns mainGlobals mg → mg d.name = some (.ref fa) →
      ∃ fd : FuncData, (∀ (s : Shared) (u : Value), BindsTo s fd ⟨[u], []⟩ [("_law_script", u)]) ∧ ∀ base : Heap, (K w.params).In base → base.Ns mainGlobals mg → FnOk l.prog w (K w.params) mg base CX0 9 fa fd ["_law_script"] (spLaw (K w.params))) :
    PySem.W.WalkO q loose XP YP l.row.toRowW d [] (fun f vs => PySem.call f vs) :=
  L2.walk_of (n := 63) (k := 9) (x := "_law_script") (CX := fun _ => CX0) (sp := fun w => spLaw (K w.params)) hn (by decide) hdf ⟨rfl, by decide, by decide⟩ hY F (fun _ _ a ns hl _ hS => ⟨a, ns, rfl, hS, fun _ => rfl⟩) fun _ _ _ _ _ z => z
end CC
open PySem PySem.W PyProof.Rows
set_option maxRecDepth 100000 in
set_option maxHeartbeats 0 in
theorem PySem.Challenge.cw_coveredcells_k03_inside_just_once_holds : PySem.Challenge.rw_coveredcells_k03_inside_just_once.Holds := by
  w_on; o_law; k_head; (case hw => w_witness2)
  k_fill
  refine CC.walk (l := PySem.Challenge.rw_coveredcells_k03_inside_just_once) rfl rfl (fun w h Y => PySem.W.kIn_of Y) ?F
  case F =>
    intro w mg fa h KX G hmg
    refine' CC.all_mk KX G hmg ?a0 ?l0 ?c0 ?k0 ?a1 ?l1 ?c1 ?k1 ?a2 ?l2 ?c2 ?k2 ?a3 ?l3 ?c3 ?k3 ?a4 ?l4 ?c4 ?k4 ?a5 ?l5 ?c5 ?k5 ?a6 ?l6 ?c6 ?k6 ?a7 ?l7 ?c7 ?k7 ?a8 ?l8 ?c8 ?k8 ?a9 ?l9 ?c9 ?k9 ?a10 ?l10 ?c10 ?k10 ?a11 ?l11 ?c11 ?k11 ?a12 ?l12 ?c12 ?k12 ?a13 ?l13 ?c13 ?k13 ?a14 ?l14 ?c14 ?k14 ?a15 ?l15 ?c15 ?k15 ?a16 ?l16 ?c16 ?k16 ?a17 ?l17 ?c17 ?k17 ?a18 ?l18 ?c18 ?k18 ?a19 ?l19 ?c19 ?k19 ?a20 ?l20 ?c20 ?k20 ?a21 ?l21 ?c21 ?k21 ?a22 ?l22 ?c22 ?k22 ?a23 ?l23 ?c23 ?k23 ?aC ?aN ?aE ?a24 ?l24 ?c24 ?k24 ?a25 ?l25 ?c25 ?k25 ?a26 ?l26 ?c26 ?k26 ?a27 ?l27 ?c27 ?k27 ?lT ?pg ?hd ?po ?sa ?mk ?kc ?iI ?iL ?nR ?xN ?hbm ?saN ?exN ?tyN ?kN ?tI ?rN ?gaN ?ggN ?hdN ?icN ?ssN ?gaE ?rdE ?vV ?vF ?vM ?vS ?z0 ?z1 ?z2 ?z3 ?z4 ?z5 ?z6 ?z7 ?z8 ?z9 ?z10 ?z11 ?z12 ?z13 ?z14
    (case a0 => k_is)
    (case l0 => k_is)
    (case c0 => k_is)
    (case k0 => k_is)
    (case a1 => k_is)
    (case l1 => k_is)
    (case c1 => k_is)
    (case k1 => k_is)
    (case a2 => k_is)
    (case l2 => k_is)
    (case c2 => k_is)
    (case k2 => k_is)
    (case a3 => k_is)
    (case l3 => k_is)
    (case c3 => k_is)
    (case k3 => k_is)
    (case a4 => k_is)
    (case l4 => k_is)
    (case c4 => k_is)
    (case k4 => k_is)
    (case a5 => k_is)
    (case l5 => k_is)
    (case c5 => k_is)
    (case k5 => k_is)
    (case a6 => k_is)
    (case l6 => k_is)
    (case c6 => k_is)
    (case k6 => k_is)
    (case a7 => k_is)
    (case l7 => k_is)
    (case c7 => k_is)
    (case k7 => k_is)
    (case a8 => k_is)
    (case l8 => k_is)
    (case c8 => k_is)
    (case k8 => k_is)
    (case a9 => k_is)
    (case l9 => k_is)
    (case c9 => k_is)
    (case k9 => k_is)
    (case a10 => k_is)
    (case l10 => k_is)
    (case c10 => k_is)
    (case k10 => k_is)
    (case a11 => k_is)
    (case l11 => k_is)
    (case c11 => k_is)
    (case k11 => k_is)
    (case a12 => k_is)
    (case l12 => k_is)
    (case c12 => k_is)
    (case k12 => k_is)
    (case a13 => k_is)
    (case l13 => k_is)
    (case c13 => k_is)
    (case k13 => k_is)
    (case a14 => k_is)
    (case l14 => k_is)
    (case c14 => k_is)
    (case k14 => k_is)
    (case a15 => k_is)
    (case l15 => k_is)
    (case c15 => k_is)
    (case k15 => k_is)
    (case a16 => k_is)
    (case l16 => k_is)
    (case c16 => k_is)
    (case k16 => k_is)
    (case a17 => k_is)
    (case l17 => k_is)
    (case c17 => k_is)
    (case k17 => k_is)
    (case a18 => k_is)
    (case l18 => k_is)
    (case c18 => k_is)
    (case k18 => k_is)
    (case a19 => k_is)
    (case l19 => k_is)
    (case c19 => k_is)
    (case k19 => k_is)
    (case a20 => k_is)
    (case l20 => k_is)
    (case c20 => k_is)
    (case k20 => k_is)
    (case a21 => k_is)
    (case l21 => k_is)
    (case c21 => k_is)
    (case k21 => k_is)
    (case a22 => k_is)
    (case l22 => k_is)
    (case c22 => k_is)
    (case k22 => k_is)
    (case a23 => k_is)
    (case l23 => k_is)
    (case c23 => k_is)
    (case k23 => k_is)
    (case aC => k_is)
    (case aN => k_is)
    (case aE => k_is)
    (case a24 => k_is)
    (case l24 => k_is)
    (case c24 => k_is)
    (case k24 => k_is)
    (case a25 => k_is)
    (case l25 => k_is)
    (case c25 => k_is)
    (case k25 => k_is)
    (case a26 => k_is)
    (case l26 => k_is)
    (case c26 => k_is)
    (case k26 => k_is)
    (case a27 => k_is)
    (case l27 => k_is)
    (case c27 => k_is)
    (case k27 => k_is)
    (case lT => k_is)
    (case pg => k_is)
    (case hd => k_is)
    (case po => k_is)
    (case sa => k_is)
    (case mk => k_is)
    (case kc => k_is)
    (case iI => k_is)
    (case iL => k_is)
    (case nR => k_is)
    (case xN => k_is)
    (case hbm => decide +kernel)
    (case saN => k_is)
    (case exN => k_is)
    (case tyN => k_is)
    (case kN => k_is)
    (case tI => k_is)
    (case rN => k_is)
    (case gaN => k_is)
    (case ggN => k_is)
    (case hdN => k_is)
    (case icN => k_is)
    (case ssN => first | rfl | k_is)
    (case gaE => k_is)
    (case rdE => k_is)
    (case vV => k_is)
    (case vF => k_is)
    (case vM => k_is)
    (case vS => k_is)
    (case z0 => k_is)
    (case z1 => k_is)
    (case z2 => k_is)
    (case z3 => k_is)
    (case z4 => k_is)
    (case z5 => k_is)
    (case z6 => k_is)
    (case z7 => k_is)
    (case z8 => k_is)
    (case z9 => k_is)
    (case z10 => k_is)
    (case z11 => k_is)
    (case z12 => k_is)
    (case z13 => k_is)
    (case z14 => k_is)

