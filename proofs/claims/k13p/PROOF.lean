import PyProof.Rows.All
import Wide.All
import OpenK.AllK
import Wide.FinOn
import HandS.ForMost
import HandS.Walk
import HandS.IsInst
import HandS.StrMore
import HandS.Flow
import HandS.More
import HandS.DictComp
import KE.GoesEnum
import HandS.TupSets
import HandS.ExcInit
import HandS.ClsMeth
import HandS.Defaults
import HandS.FStr
import HandS.ForExc
import HandS.Iter
import HandS.SetBool
import KE.KPairComp
import HandS.Text
import HandS.Strs
import HandS.Set
import HandS.Sort
import HandS.SetFor
import HandS.Zip
import HandS.Style
import HandS.Finally
import HandS.ExcField
import HandS.Star
import HandS.Conv
import PySem.Challenge.RW_coveredcells_k13_covers_judged
set_option Elab.async false
set_option maxRecDepth 100000
/-! The drawing part of the laws: the source of draws, the draws, a picked item, a subset. -/
namespace CC
open PySem L2
set_option linter.unusedVariables false
def top (i : Nat) : Stmt := PySem.Challenge.pw_coveredcells_k13_covers_judged.main.body.getD i (.Pass ⟨0, 0, 0, 0⟩)
abbrev sSource : Stmt := top 38
abbrev sDraw : Stmt := top 39
abbrev sPick : Stmt := top 40
abbrev sSubset : Stmt := top 41
/-- all that stood stands, but perhaps what stands at p -/
def Grow (p : Addr) (H H' : Hp) : Prop := ∀ b o, H b = some o → b ≠ p → H' b = some o
theorem Grow.rfl' {p : Addr} {H : Hp} : Grow p H H := fun _ _ e _ => e
theorem Grow.trans {p : Addr} {H H1 H2 : Hp} (a : Grow p H H1) (b : Grow p H1 H2) : Grow p H H2 := fun q o e n => b q o (a q o e n) n
theorem Grow.new {p q : Addr} {o : HO} {H : Hp} (h : H q = none) : Grow p H (upd H q o) := fun b u e _ => by
  rw [upd_ne (ne_of_none e h)]
  exact e
theorem Grow.at_ {p : Addr} {o : HO} {H : Hp} : Grow p H (upd H p o) := fun b u e n => by
  rw [upd_ne n]
  exact e
theorem Grow.put {p q : Addr} {o : HO} {H H1 : Hp} (g : Grow p H H1) (h : H q = none) : Grow p H (upd H1 q o) := fun b u e n => by
  rw [upd_ne (ne_of_none e h)]
  exact g b u e n
theorem small {n : Nat} (h : n < 1000000) : n < sizeLine := by
  rw [PySem.sizeLine_eq]
  omega
/-- the source of draws at p: its three numbers; at most n draws have been done -/
def Src (p : Addr) (n : Nat) (H : Hp) : Prop := ∃ g s c : Int, H p = some (.lst [.int g, .int s, .int c]) ∧ 0 ≤ s ∧ s < 2147483647 ∧ 0 ≤ c ∧ c ≤ (n : Int)
theorem Src.le {p : Addr} {n m : Nat} {H : Hp} (h : Src p n H) (e : n ≤ m) : Src p m H := by
  obtain ⟨g, s, c, a, b, d, f, z⟩ := h
  exact ⟨g, s, c, a, b, d, f, by omega⟩
theorem Src.new {p q : Addr} {n : Nat} {o : HO} {H : Hp} (h : Src p n H) (hq : H q = none) : Src p n (upd H q o) := by
  obtain ⟨g, s, c, a, r⟩ := h
  exact ⟨g, s, c, by rw [upd_ne (ne_of_none a hq)]; exact a, r⟩
theorem Src.ne {p q : Addr} {n : Nat} {H : Hp} (h : Src p n H) (hq : H q = none) : p ≠ q := by
  obtain ⟨g, s, c, a, r⟩ := h
  exact ne_of_none a hq
theorem Src.put {p q : Addr} {n : Nat} {o : HO} {H : Hp} (h : Src p n H) (hq : p ≠ q) : Src p n (upd H q o) := by
  obtain ⟨g, s, c, a, r⟩ := h
  exact ⟨g, s, c, by rw [upd_ne hq]; exact a, r⟩
def spSource (K : PySem.W.Frag) : Sp := fun vs H Q _ => ∃ (a : Addr) (ns : List Int), vs = [.ref a] ∧ SqL K H a (ns.map V.int) ∧
  ∀ (p : Addr) (H' : Hp), Same H H' → H p = none → Src p 0 H' → Q (.ref p) H'
def spDraw : Sp := fun vs H Q _ => ∃ (p : Addr) (n : Nat) (m : Int), vs = [.ref p, .int m] ∧ Src p n H ∧ n < 1000000 ∧ 0 < m ∧ m < 1000000 ∧
  ∀ (r : Int) (H' : Hp), 0 ≤ r → r < m → Grow p H H' → Src p (n + 1) H' → Q (.int r) H'
section
variable {P : Program} {w : World} {K : PySem.W.Frag} {mg : Str → Option Value} {base : Heap}
theorem mod_lo (a : Int) : 0 ≤ a.fmod 2147483647 ∧ a.fmod 2147483647 < 2147483647 := ⟨Int.fmod_nonneg_of_pos a (by decide), Int.fmod_lt_of_pos a (by decide)⟩
theorem scSource : FnScope ["_law_script", "_law_great", "_law_seed", "_law_cell"] ["_law_script"] (defScope sSource) := ⟨rfl, rfl, rfl, by decide +kernel, rfl, by decide +kernel, by decide +kernel⟩
theorem ok_source {f : Addr} {fd : FuncData} (F : Fun K "_law_source" "_law_source" sSource f fd) (ti : mg "int" = none) : FnOk P w K mg base CX0 1 f fd ["_law_script"] (spSource K) := by
  refine F.ok scSource (fun vs H Q E h => ?_) (fun cdv A outer s H vs Q E hr h => ?_)
  · obtain ⟨a, ns, rfl, _⟩ := h
    rfl
  · obtain ⟨a, ns, rfl, hS, k⟩ := h
    refine ⟨_, pss_cons (ps_asg (pe_tup (pa_cons pe_int (pa_cons pe_int pa_nil))) (pg_tup (by rfl) (pgs_cons (pg_name (i := 1) scSource.nd rfl (Or.inl rfl)) (pgs_cons (pg_name (i := 2) scSource.nd rfl (Or.inl rfl)) pgs_nil))))
      (pss_cons (ps_for PassesOwn.never rfl (pi_list (pv 0)) (pg_name (i := 3) scSource.nd rfl (Or.inl rfl))
        (pss_cons (ps_if (PW.pt (pw_and (pt_cmpR op_eq (pv 1) pe_int (nomark _)) (pw_and1 (pt_cmpR op_ge (pv 3) (pe_op op_pow pe_int pe_int) (nomark _)))))
          (pss_one (ps_set (i := 1) scSource.nd rfl (Or.inl rfl) (pv 3))) pss_nil)
        (pss_one (ps_set (i := 2) scSource.nd rfl (Or.inl rfl) (pe_op op_modN (pe_callTy call_int1 (by rfl) ti (by decide +kernel) (pa_cons (pe_op op_add (pe_op op_add (pe_op op_mul (pv 2) pe_int) (pv 3)) pe_int) pa_nil)) pe_int)))))
      (pss_one (ps_ret (pe_lst (pa_cons (pv 1) (pa_cons (pv 2) (pa_cons pe_int pa_nil))))))), ?_⟩
    refine ⟨(by show 2 ≤ sizeLine; decide), fun t ht => ?_⟩
    have s1 : Same H (upd H t (.tup [V.int 0, V.int 17])) := fun b o e => by
      rw [upd_ne (ne_of_none e ht)]
      exact e
    refine ⟨t, _, rfl, SqT.of upd_same, rfl, _, _, rfl, _, _, rfl, rfl, ?_⟩
    refine ⟨_, rfl, a, rfl, ⟨_, s1.seq hS⟩, for_list (K := K) (a := a) (xs := ns.map V.int) (fun i σ H2 => ∃ (g z : Int) (v : Option V), σ = [some (.ref a), some (.int g), some (.int z), v] ∧ Same H H2 ∧ 0 ≤ z ∧ z < 2147483647)
      ⟨0, 17, none, rfl, s1, by decide, by decide⟩ (fun i σ H2 _ ⟨_, _, _, _, e, _⟩ => e.seq hS) ?_ ?_⟩
    · rintro i y σ H2 hi ⟨g, z, v, rfl, s2, z0, z1⟩
      obtain ⟨x, rfl⟩ : ∃ x, y = V.int x := by
        rw [List.getElem?_map] at hi
        cases e : ns[i]? with
        | none =>
          rw [e] at hi
          cases hi
        | some x =>
          rw [e] at hi
          exact ⟨x, (Option.some.inj hi).symm⟩
      have md := mod_lo (z * 31 + x + 7)
      -- great == 0 and cell >= 10 ** 18
      refine ⟨_, rfl, rfl, _, rfl, ?_⟩
      refine ite2 (fun _ => ?_) (fun _ => iteF ?_)
      · refine ⟨_, rfl, _, _, rfl, rfl, ⟨by decide, by decide, by decide⟩, _, _, rfl, rfl, _, rfl, ?_⟩
        refine ite2 (fun _ => ?_) (fun _ => ?_)
        · refine ⟨_, rfl, ?_⟩
          exact ⟨_, rfl, _, _, rfl, rfl, Or.inr ⟨by decide, by decide⟩, _, rfl, _, _, rfl, rfl, _, _, rfl, rfl, Or.inl ⟨_, rfl, _, _, rfl, rfl, (by show (2147483647 : Int) ≠ 0; decide), _, _, _, rfl, s2, md.1, md.2⟩⟩
        · exact ⟨_, rfl, _, _, rfl, rfl, Or.inr ⟨by decide, by decide⟩, _, rfl, _, _, rfl, rfl, _, _, rfl, rfl, Or.inl ⟨_, rfl, _, _, rfl, rfl, (by show (2147483647 : Int) ≠ 0; decide), _, _, _, rfl, s2, md.1, md.2⟩⟩
      · exact ⟨_, rfl, _, _, rfl, rfl, Or.inr ⟨by decide, by decide⟩, _, rfl, _, _, rfl, rfl, _, _, rfl, rfl, Or.inl ⟨_, rfl, _, _, rfl, rfl, (by show (2147483647 : Int) ≠ 0; decide), _, _, _, rfl, s2, md.1, md.2⟩⟩
    · rintro σ H2 ⟨g, z, v, rfl, s2, z0, z1⟩
      refine ⟨_, rfl, _, rfl, (by show 3 ≤ sizeLine; decide), fun p hp => ?_⟩
      refine k p _ (fun b o e => ?_) (s2.free hp) ⟨g, z, 0, upd_same, z0, z1, by omega, by omega⟩
      rw [upd_ne (ne_of_none (s2 b o e) hp)]
      exact s2 b o e
theorem at0 {x y z : V} : atI [x, y, z] 0 = some x := rfl
theorem at1 {x y z : V} : atI [x, y, z] 1 = some y := rfl
theorem at2 {x y z : V} : atI [x, y, z] 2 = some z := rfl
theorem md_lo (a : Int) {m : Int} (h : 0 < m) : 0 ≤ a.fmod m ∧ a.fmod m < m := ⟨Int.fmod_nonneg_of_pos a h, Int.fmod_lt_of_pos a h⟩
theorem abs_lt {a : Int} (h : 0 ≤ a) (k : a < 2 ^ 64) : a.natAbs < 2 ^ 64 := by omega
theorem sq_lt {c : Int} (h : 0 ≤ c) (k : c ≤ 1000000) : 0 ≤ 16807 * c * c ∧ 16807 * c * c ≤ 16807000000 * 1000000 := by
  have h1 : 16807 * c ≤ 16807000000 := by omega
  have h0 : 0 ≤ 16807 * c := by omega
  exact ⟨Int.mul_nonneg h0 h, Int.mul_le_mul h1 k h (by decide)⟩
theorem scDraw : FnScope ["_law_source_here", "_law_many", "_law_digit", "_law_mixed"] ["_law_source_here", "_law_many"] (defScope sDraw) := ⟨rfl, rfl, rfl, by decide +kernel, rfl, by decide +kernel, by decide +kernel⟩
theorem ok_draw {f : Addr} {fd : FuncData} (F : Fun K "_law_draw" "_law_draw" sDraw f fd) (ti : mg "int" = none) : FnOk P w K mg base CX0 1 f fd ["_law_source_here", "_law_many"] spDraw := by
  refine F.ok scDraw (fun vs H Q E h => ?_) (fun cdv A outer s H vs Q E hr h => ?_)
  · obtain ⟨p, n, m, rfl, _⟩ := h
    rfl
  · obtain ⟨p, n, m, rfl, ⟨g, z, c, hp, z0, z1, c0, c1⟩, hn, m0, m1, k⟩ := h
    refine ⟨_, pss_cons (ps_asg (pe_op op_add (pe_ix ix_list (pv 0) pe_int (fun _ _ => rfl)) pe_int) (pg_sub (pv 0) pe_int set_list))
      (pss_cons (ps_if (pt_cmpR op_gt (pe_ix ix_list (pv 0) pe_int (fun _ _ => rfl)) pe_int (nomark _))
        (pss_cons (ps_set (i := 2) scDraw.nd rfl (Or.inl rfl) (pe_op op_modN (pe_callTy call_int1 (by rfl) ti (by decide +kernel) (pa_cons (pe_ix ix_list (pv 0) pe_int (fun _ _ => rfl)) pa_nil)) (pv 1)))
        (pss_cons (ps_asg (pe_op op_fdivN (pe_ix ix_list (pv 0) pe_int (fun _ _ => rfl)) (pv 1)) (pg_sub (pv 0) pe_int set_list))
        (pss_one (ps_ret (pv 2))))) pss_nil)
      (pss_cons (ps_set (i := 3) scDraw.nd rfl (Or.inl rfl) (pe_op op_modN (pe_op op_pow (pe_op op_add (pe_ix ix_list (pv 0) pe_int (fun _ _ => rfl)) (pe_op op_mul pe_int (pe_ix ix_list (pv 0) pe_int (fun _ _ => rfl)))) pe_int) pe_int))
      (pss_one (ps_ret (pe_op op_modN (pe_op op_modN (pe_op op_pow (pe_op op_add (pe_op op_add (pe_op op_mul (pv 3) pe_int) (pe_op op_mul (pe_op op_mul pe_int (pe_ix ix_list (pv 0) pe_int (fun _ _ => rfl))) (pe_ix ix_list (pv 0) pe_int (fun _ _ => rfl)))) pe_int) pe_int) pe_int) (pv 1)))))), ?_⟩
    refine ⟨_, rfl, p, _, _, _, rfl, rfl, SqL.of hp, at2, _, _, rfl, rfl, _, rfl, p, _, _, 2, rfl, rfl, hp, rfl, ?_⟩
    have h1 : (upd H p (.lst [V.int g, V.int z, V.int (c + 1)])) p = some (.lst [V.int g, V.int z, V.int (c + 1)]) := upd_same
    refine ⟨_, rfl, p, _, _, _, rfl, rfl, SqL.of h1, at0, _, _, rfl, rfl, _, rfl, ?_⟩
    have mm := md_lo g m0
    refine ite2 (fun _ => ?_) (fun _ => ?_)
    · refine ⟨_, rfl, p, _, _, _, rfl, rfl, SqL.of h1, at0, Or.inl ⟨_, rfl, _, rfl, _, _, rfl, rfl, (by show m ≠ 0; omega), ?_⟩⟩
      refine ⟨_, rfl, p, _, _, _, rfl, rfl, SqL.of h1, at0, _, rfl, _, _, rfl, rfl, ⟨by omega, by omega⟩, _, rfl, p, _, _, 0, rfl, rfl, h1, rfl, ?_⟩
      refine ⟨_, rfl, k _ _ mm.1 mm.2 (Grow.at_.trans Grow.at_) ⟨_, _, _, upd_same, z0, z1, by omega, by omega⟩⟩
    · refine ⟨_, rfl, p, _, _, _, rfl, rfl, SqL.of h1, at1, _, rfl, p, _, _, _, rfl, rfl, SqL.of h1, at2, _, _, rfl, rfl, Or.inl ⟨by decide, by decide⟩, _, _, rfl, rfl, _, _, rfl, rfl, ⟨by decide, by decide, abs_lt (by omega) (by omega)⟩, _, _, rfl, rfl, (by show (2147483629 : Int) ≠ 0; decide), ?_⟩
      have e1 := md_lo ((z + 7919 * (c + 1)) ^ (5 : Int).toNat) (m := 2147483629) (by decide)
      have e2 := sq_lt (c := c + 1) (by omega) (by omega)
      refine ⟨_, rfl, _, _, rfl, rfl, Or.inr ⟨by decide, by decide⟩, _, rfl, p, _, _, _, rfl, rfl, SqL.of h1, at2, _, _, rfl, rfl, Or.inl ⟨by decide, by decide⟩, _, rfl, p, _, _, _, rfl, rfl, SqL.of h1, at2, _, _, rfl, rfl, Or.inl ⟨by omega, by omega⟩, _, _, rfl, rfl, _, _, rfl, rfl, _, _, rfl, rfl, ⟨by decide, by decide, abs_lt (by omega) (by omega)⟩, _, _, rfl, rfl, (by show (1000000007 : Int) ≠ 0; decide), _, rfl, _, _, rfl, rfl, (by show m ≠ 0; omega), ?_⟩
      exact k _ _ (md_lo _ m0).1 (md_lo _ m0).2 Grow.at_ ⟨_, _, _, upd_same, z0, z1, by omega, by omega⟩
/-! ### an item that is picked -/
def spPick (K : PySem.W.Frag) : Sp := fun vs H Q _ => ∃ (p l : Addr) (n : Nat) (xs : List V), vs = [.ref p, .ref l] ∧ Src p n H ∧ n < 1000000 ∧ H l = some (.lst xs) ∧ 0 < xs.length ∧ xs.length < 1000 ∧ p ≠ l ∧
  ∀ (x : V) (H' : Hp), x ∈ xs → Grow p H H' → Src p (n + 1) H' → Q x H'
theorem scPick : FnScope ["_law_source_here", "_law_things"] ["_law_source_here", "_law_things"] (defScope sPick) := ⟨rfl, rfl, rfl, by decide +kernel, rfl, by decide +kernel, by decide +kernel⟩
theorem ok_pick {f fD : Addr} {fd fdD : FuncData} (F : Fun K "_law_pick" "_law_pick" sPick f fd) (GD : FnOk P w K mg base CX0 1 fD fdD ["_law_source_here", "_law_many"] spDraw) (mD : mg "_law_draw" = some (.ref fD)) (kD : PySem.W.keepIn K (.ref fD) = true) (bD : Binds K fdD ["_law_source_here", "_law_many"] []) (tl : mg "len" = none) :
    FnOk P w K mg base CX0 2 f fd ["_law_source_here", "_law_things"] (spPick K) := by
  refine F.ok scPick (fun vs H Q E h => ?_) (fun cdv A outer s H vs Q E hr h => ?_)
  · obtain ⟨p, l, n, xs, rfl, _⟩ := h
    rfl
  · obtain ⟨p, l, n, xs, rfl, hp, hn, hl, l0, l1, npl, k⟩ := h
    refine ⟨_, pss_one (ps_ret (pe_ix ix_list (pv 1) (pe_call GD hr rfl mD kD bD .nil pass0 (pa_cons (pv 0) (pa_cons (pe_callB call_len_seq (by rfl) tl PySem.boot_len (pa_cons (pv 1) pa_nil)) pa_nil))) (fun _ _ => rfl))), ?_⟩
    refine ⟨_, rfl, _, rfl, _, rfl, l, _, rfl, .inl (SqL.of hl), p, n, _, rfl, hp, hn, by omega, by omega, fun r H' r0 r1 gr sr => ?_⟩
    have hl' : H' l = some (.lst xs) := gr l _ hl npl.symm
    obtain ⟨j, rfl⟩ : ∃ j : Nat, r = (j : Int) := ⟨r.toNat, by omega⟩
    have hj : j < xs.length := by omega
    refine ⟨l, _, _, xs[j], rfl, rfl, SqL.of hl', atI_nat (List.getElem?_eq_getElem hj), ?_⟩
    exact k _ _ (List.getElem_mem hj) gr sr
/-! ### a subset -/
def spSubset (K : PySem.W.Frag) : Sp := fun vs H Q _ => ∃ (p l : Addr) (n : Nat) (xs : List V), vs = [.ref p, .ref l] ∧ Src p n H ∧ n + xs.length < 1000000 ∧ H l = some (.lst xs) ∧ p ≠ l ∧
  ∀ (q : Addr) (ys : List V) (H' : Hp), ys.Sublist xs → Grow p H H' → H q = none → H' q = some (.lst ys) → Src p (n + xs.length) H' → Q (.ref q) H'
theorem scSubset : FnScope ["_law_source_here", "_law_row", "_law_one"] ["_law_source_here", "_law_row"] (defScope sSubset) := ⟨rfl, rfl, rfl, by decide +kernel, rfl, by decide +kernel, by decide +kernel⟩
end
end CC

set_option Elab.async false
set_option maxRecDepth 100000
namespace CC
open PySem L2
section
variable {P : Program} {w : World} {K : PySem.W.Frag} {mg : Str → Option Value} {base : Heap}
theorem ok_subset {f fD : Addr} {fd fdD : FuncData} (F : Fun K "_law_subset" "_law_subset" sSubset f fd) (GD : FnOk P w K mg base CX0 1 fD fdD ["_law_source_here", "_law_many"] spDraw) (mD : mg "_law_draw" = some (.ref fD)) (kD : PySem.W.keepIn K (.ref fD) = true) (bD : Binds K fdD ["_law_source_here", "_law_many"] []) :
    FnOk P w K mg base CX0 2 f fd ["_law_source_here", "_law_row"] (spSubset K) := by
  refine F.ok scSubset (fun vs H Q E h => ?_) (fun cdv A outer s H vs Q E hr h => ?_)
  · obtain ⟨p, l, n, xs, rfl, _⟩ := h
    rfl
  · obtain ⟨p, l, n, xs, rfl, hp, hn, hl, npl, k⟩ := h
    refine ⟨_, pss_one (ps_ret (pe_lc (own := [("_law_one", 2)]) (g := gName 2) (by rfl) scSubset.nd (pi_list (pv 1)) (blkOk_by (own := [("_law_one", 2)]) (N := ["_law_source_here", "_law_row", "_law_one"]) (sc := defScope sSubset) (by decide +kernel)) (fun _ _ _ _ _ => pg_name (i := 2) scSubset.nd rfl (Or.inl rfl))
      (fun _ _ _ _ _ => pts_one (pt_cmpR op_eq (pe_call GD hr rfl mD kD bD .nil pass0 (pa_cons (pv 0) (pa_cons pe_int pa_nil))) pe_int (nomark _))) (fun _ _ _ _ _ => pv 2))), ?_⟩
    refine ⟨_, rfl, l, rfl, ⟨_, SqL.of hl⟩, fun D hD => ?_⟩
    refine lc_list (K := K) (a := l) (xs := xs) (fun i H2 => ∃ ys, ys.Sublist (xs.take i) ∧ H2 D = some (.lst ys) ∧ Grow p H H2 ∧ Src p (n + i) H2) ⟨[], List.nil_sublist _, upd_same, Grow.new hD, hp.new hD⟩ (fun i H2 _ ⟨_, _, _, g, _⟩ => SqL.of (g l _ hl npl.symm)) ?_ ?_
    · rintro i y H2 hi ⟨ys, sub, hD2, g2, s2⟩
      have hil : i < xs.length := (List.getElem?_eq_some_iff.mp hi).1
      have pD : p ≠ D := hp.ne hD
      refine ⟨rfl, _, rfl, p, n + i, 2, rfl, s2, by omega, by decide, by decide, fun r H3 r0 r1 g3 s3 => ?_⟩
      have hD3 : H3 D = some (.lst ys) := g3 _ _ hD2 pD.symm
      have tk : xs.take (i + 1) = xs.take i ++ [y] := by rw [List.take_add_one, hi]; rfl
      refine ⟨rfl, _, rfl, ?_⟩
      refine ite2 (fun _ => ?_) (fun _ => ?_)
      · refine ⟨_, rfl, ys, hD3, small (by have := sub.length_le; rw [List.length_take] at this; omega), ys ++ [y], ?_, upd_same, (g2.trans g3).put hD, s3.put pD⟩
        rw [tk]
        exact sub.append (List.Sublist.refl _)
      · refine ⟨ys, ?_, hD3, g2.trans g3, s3⟩
        rw [tk]
        exact sub.trans (List.sublist_append_left _ _)
    · rintro H2 ⟨ys, sub, hD2, g2, s2⟩
      rw [List.take_length] at sub
      exact k _ _ _ sub g2 hD hD2 s2
end
end CC

set_option Elab.async false
set_option maxRecDepth 100000
namespace CC
open PySem L2
set_option linter.unusedVariables false
/-! ### rows -/
inductive Row where
  | rest (to : Nat)
  | ins (to : Nat)
  | wr (c : Str) (v : Int) (to : Nat)
  | rd (c : Str) (cs : List (Int × Nat)) (to : Nat)
def Row.to : Row → Nat
  | .rest n => n
  | .ins n => n
  | .wr _ _ n => n
  | .rd _ _ n => n
def kvOf (cs : List (Int × Nat)) : List (Key × V) := cs.map fun kv => ((Sum.inl kv.1 : Key), V.int (kv.2 : Nat))
def RowAt (H : Hp) (r : Row) (a : Addr) : Prop :=
  match r with
  | .rest n => H a = some (.tup [.str "rest", .int (n : Nat)])
  | .ins n => H a = some (.tup [.str "inside", .int (n : Nat)])
  | .wr c v n => H a = some (.tup [.str "write", .str c, .int v, .int (n : Nat)])
  | .rd c cs n => ∃ d, H a = some (.tup [.str "read", .str c, .ref d, .int (n : Nat)]) ∧ H d = some (.dK (kvOf cs))
theorem RowAt.mono {H H' : Hp} {r : Row} {a : Addr} (h : RowAt H r a) (k : ∀ b xs, H b = some (.tup xs) → H' b = some (.tup xs)) (k2 : ∀ b xs, H b = some (.dK xs) → H' b = some (.dK xs)) : RowAt H' r a := by
  cases r with
  | rest n => exact k _ _ h
  | ins n => exact k _ _ h
  | wr c v n => exact k _ _ h
  | rd c cs n =>
    obtain ⟨d, h1, h2⟩ := h
    exact ⟨d, k _ _ h1, k2 _ _ h2⟩
theorem Grow.tup {p : Addr} {n : Nat} {H H' : Hp} (g : Grow p H H') (s : Src p n H) {b : Addr} {xs : List V} (h : H b = some (.tup xs)) : H' b = some (.tup xs) := by
  obtain ⟨_, _, _, a, _⟩ := s
  exact g _ _ h (ne_of h a (by intro z; cases z))
theorem Grow.dk {p : Addr} {n : Nat} {H H' : Hp} (g : Grow p H H') (s : Src p n H) {b : Addr} {xs : List (Key × V)} (h : H b = some (.dK xs)) : H' b = some (.dK xs) := by
  obtain ⟨_, _, _, a, _⟩ := s
  exact g _ _ h (ne_of h a (by intro z; cases z))
theorem Grow.free {p a : Addr} {n : Nat} {H H' : Hp} (g : Grow p H H') (h : H' a = none) (s : Src p n H') : H a = none := by
  cases e : H a with
  | none => rfl
  | some o =>
    have z := g a o e (s.ne h).symm
    rw [h] at z
    cases z
theorem RowAt.grow {p : Addr} {n : Nat} {H H' : Hp} {r : Row} {a : Addr} (h : RowAt H r a) (g : Grow p H H') (s : Src p n H) : RowAt H' r a := h.mono (fun _ _ e => g.tup s e) fun _ _ e => g.dk s e
/-- a row of a program with n rows over these cells -/
def Row.ok (n : Nat) (cells : List Str) : Row → Prop
  | .rest m => m < n
  | .ins m => m < n
  | .wr c v m => c ∈ cells ∧ 0 ≤ v ∧ m < n
  | .rd c cs m => c ∈ cells ∧ (cs.map (·.1)).Nodup ∧ (∀ kv ∈ cs, 0 ≤ kv.1 ∧ kv.2 < n) ∧ m < n ∧ cs.length ≤ 10
/-- a row that writes or reads, and leads to rows from first to below last -/
def Row.mid (first last : Nat) (cells : List Str) : Row → Prop
  | .rest _ => False
  | .ins _ => False
  | .wr c v m => c ∈ cells ∧ 0 ≤ v ∧ first ≤ m ∧ m < last
  | .rd c cs m => c ∈ cells ∧ (cs.map (·.1)).Nodup ∧ (∀ kv ∈ cs, 0 ≤ kv.1 ∧ first ≤ kv.2 ∧ kv.2 < last) ∧ first ≤ m ∧ m < last ∧ cs.length ≤ 10
abbrev sAnyRow : Stmt := top 44
def spAnyRow : Sp := fun vs H Q _ => ∃ (p cl wl : Addr) (n first last : Nat) (cells : List Str) (ws : List Int), vs = [.ref p, .ref cl, .int (first : Nat), .int (last : Nat), .ref wl] ∧ Src p n H ∧ n + 100 < 1000000 ∧
  H cl = some (.lst (cells.map V.str)) ∧ H wl = some (.lst (ws.map V.int)) ∧ p ≠ cl ∧ p ≠ wl ∧ 0 < cells.length ∧ cells.length < 100 ∧ SeqAt.shaped (.list (cells.map PyData.str)) = true ∧
  ws.Nodup ∧ (∀ v ∈ ws, 0 ≤ v) ∧ 0 < ws.length ∧ ws.length ≤ 10 ∧ first < last ∧ last < 1000 ∧
  ∀ (a : Addr) (r : Row) (H' : Hp), Grow p H H' → H a = none → RowAt H' r a → r.mid first last cells → Src p (n + 50) H' → Q (.ref a) H'
theorem dp_strs {K : PySem.W.Frag} {H : Hp} {cl : Addr} {cells : List Str} (h : H cl = some (.lst (cells.map V.str))) : Dp K H (.ref cl) (.list (cells.map PyData.str)) := by
  refine .lst (SqL.of h) ?_
  have : ∀ l : List Str, DpAll K H (l.map V.str) (l.map PyData.str) := fun l => by
    induction l with
    | nil => exact .nil
    | cons x l ih => exact .cons (.str x) ih
  exact this cells
theorem eqv_nil {cells : List Str} (h : 0 < cells.length) : PyData.eqv (.list (cells.map PyData.str)) (.list []) = false := by
  cases cells with
  | nil => cases h
  | cons x l => rfl
theorem ite_no {b : Bool} {A B : Prop} (e : b = false) (h : B) : if b = true then A else B := by
  rw [e]
  exact iteF h
theorem ite_yes {b : Bool} {A B : Prop} (e : b = true) (h : A) : if b = true then A else B := by
  rw [e]
  exact iteT h
theorem tyes_if {σ : L2.St} {H : Hp} {A B : Hp → Prop} (h : A H) : tYes σ H (fun b H3 => if b = true then A H3 else B H3) := by
  show (if true = true then A H else B H)
  exact iteT h
theorem valV_kv {k : Int} : ∀ {cs : List (Int × Nat)}, k ∉ cs.map (·.1) → valV (kvOf cs) (Sum.inl k : Key) = none
  | [], _ => rfl
  | p :: r, h => by
    show valV ((((Sum.inl p.1 : Key), V.int (p.2 : Nat))) :: kvOf r) (Sum.inl k) = none
    rw [valV_neg (by intro e; cases e; exact h (List.mem_cons_self ..))]
    exact valV_kv fun m => h (List.mem_cons_of_mem _ m)
theorem merge_kv : ∀ (cs done : List (Int × Nat)), ((done ++ cs).map (·.1)).Nodup → mergeK (kvOf done) (kvOf cs) = kvOf (done ++ cs)
  | [], done, _ => by rw [List.append_nil]; rfl
  | p :: r, done, h => by
    have hn : p.1 ∉ done.map (·.1) := by
      rw [List.map_append, List.nodup_append] at h
      intro m
      exact h.2.2 _ m _ (List.mem_cons_self ..) rfl
    show mergeK (putK (kvOf done) (Sum.inl p.1) (V.int (p.2 : Nat))) (kvOf r) = _
    rw [putK_new _ (valV_kv hn)]
    have e : kvOf done ++ [((Sum.inl p.1 : Key), V.int (p.2 : Nat))] = kvOf (done ++ [p]) := by
      unfold kvOf
      rw [List.map_append]
      rfl
    rw [e, merge_kv r (done ++ [p]) (by rw [List.append_assoc]; exact h), List.append_assoc]
    rfl
theorem paired_map {α β γ : Type} {F : α → γ → Prop} {f : β → γ} : ∀ {l : List α} {m : List β}, Paired (fun a b => F a (f b)) l m → Paired F l (m.map f)
  | _, _, .nil => .nil
  | _, _, .cons h t => .cons h (paired_map t)
section
variable {P : Program} {w : World} {K : PySem.W.Frag} {mg : Str → Option Value} {base : Heap}
theorem scAnyRow : FnScope ["_law_source_here", "_law_cells", "_law_first", "_law_last", "_law_worths", "_law_span", "_law_where", "_law_cases", "_law_worth"] ["_law_source_here", "_law_cells", "_law_first", "_law_last", "_law_worths"] (defScope sAnyRow) := ⟨rfl, rfl, rfl, by decide +kernel, rfl, by decide +kernel, by decide +kernel⟩
theorem ok_anyrow {f fD fP fS : Addr} {fd fdD fdP fdS : FuncData} (F : Fun K "_law_any_row" "_law_any_row" sAnyRow f fd)
    (GD : FnOk P w K mg base CX0 1 fD fdD ["_law_source_here", "_law_many"] spDraw) (mD : mg "_law_draw" = some (.ref fD)) (kD : PySem.W.keepIn K (.ref fD) = true) (bD : Binds K fdD ["_law_source_here", "_law_many"] [])
    (GP : FnOk P w K mg base CX0 2 fP fdP ["_law_source_here", "_law_things"] (spPick K)) (mP : mg "_law_pick" = some (.ref fP)) (kP : PySem.W.keepIn K (.ref fP) = true) (bP : Binds K fdP ["_law_source_here", "_law_things"] [])
    (GS : FnOk P w K mg base CX0 2 fS fdS ["_law_source_here", "_law_row"] (spSubset K)) (mS : mg "_law_subset" = some (.ref fS)) (kS : PySem.W.keepIn K (.ref fS) = true) (bS : Binds K fdS ["_law_source_here", "_law_row"] []) (td : mg "dict" = none) :
    FnOk P w K mg base CX0 3 f fd ["_law_source_here", "_law_cells", "_law_first", "_law_last", "_law_worths"] spAnyRow := by
  refine F.ok scAnyRow (fun vs H Q E h => ?_) (fun cdv A outer s H vs Q E hr h => ?_)
  · obtain ⟨p, cl, wl, n, first, last, cells, ws, rfl, _⟩ := h
    rfl
  · obtain ⟨p, cl, wl, n, first, last, cells, ws, rfl, hp, hn, hcl, hwl, npc, npw, c0, c1, csh, wnd, wpos, w0, w1, fl, l1, k⟩ := h
    have hr1 : Room 1 _ := hr.mono (by decide)
    refine ⟨_, pss_cons (ps_set (i := 5) scAnyRow.nd rfl (Or.inr rfl) (pe_op op_sub (pv 3) (pv 2)))
      (pss_cons (ps_set (i := 6) scAnyRow.nd rfl (Or.inl rfl) (pe_lst (pa_cons (pe_op op_add (pv 2) (pe_call GD hr1 rfl mD kD bD .nil pass0 (pa_cons (pv 0) (pa_cons (pv 5) pa_nil)))) (pa_cons (pe_op op_add (pv 2) (pe_call GD hr1 rfl mD kD bD .nil pass0 (pa_cons (pv 0) (pa_cons (pv 5) pa_nil)))) pa_nil))))
      (pss_cons (ps_if (PW.pt (pw_or (pt_cmpR (op_eqD hr.units) (pv 1) (pe_lst pa_nil) (nomark _)) (pw_or1 (pt_cmpR op_eq (pe_call GD hr1 rfl mD kD bD .nil pass0 (pa_cons (pv 0) (pa_cons pe_int pa_nil))) pe_int (nomark _)))))
        (pss_cons (ps_if (pt_cmpR (op_eqD hr.units) (pv 1) (pe_lst pa_nil) (nomark _)) (pss_one (ps_ret pe_non)) pss_nil)
        (pss_one (ps_ret (pe_tup (pa_cons pe_str (pa_cons (pe_call GP hr rfl mP kP bP .nil pass0 (pa_cons (pv 0) (pa_cons (pv 1) pa_nil))) (pa_cons (pe_call GP hr rfl mP kP bP .nil pass0 (pa_cons (pv 0) (pa_cons (pv 4) pa_nil))) (pa_cons (pe_ix ix_list (pv 6) pe_int (fun _ _ => rfl)) pa_nil)))))))) pss_nil)
      (pss_cons (ps_set (i := 7) scAnyRow.nd rfl (Or.inl rfl) (pe_callTy (call_dictP rfl) (by rfl) td (by decide +kernel) (pa_cons
        (pe_lc (own := [("_law_worth", 8)]) (g := gName 8) (by rfl) scAnyRow.nd (pi_list (pe_call GS hr rfl mS kS bS .nil pass0 (pa_cons (pv 0) (pa_cons (pv 4) pa_nil)))) (blkOk_by (own := [("_law_worth", 8)]) (N := ["_law_source_here", "_law_cells", "_law_first", "_law_last", "_law_worths", "_law_span", "_law_where", "_law_cases", "_law_worth"]) (sc := defScope sAnyRow) (by decide +kernel)) (fun _ _ _ _ _ => pg_name (i := 8) scAnyRow.nd rfl (Or.inl rfl)) (fun _ _ _ _ _ => pts_nil)
          (fun _ _ _ _ _ => pe_tup (pa_cons (pv 8) (pa_cons (pe_op op_add (pv 2) (pe_call GD hr1 rfl mD kD bD .nil pass0 (pa_cons (pv 0) (pa_cons (pv 5) pa_nil)))) pa_nil)))) pa_nil)))
      (pss_one (ps_ret (pe_tup (pa_cons pe_str (pa_cons (pe_call GP hr rfl mP kP bP .nil pass0 (pa_cons (pv 0) (pa_cons (pv 1) pa_nil))) (pa_cons (pv 7) (pa_cons (pe_ix ix_list (pv 6) pe_int (fun _ _ => rfl)) pa_nil)))))))))), ?_⟩
    refine ⟨_, rfl, _, rfl, _, _, rfl, rfl, ?_⟩
    refine ⟨_, rfl, _, rfl, _, rfl, p, n, _, rfl, hp, by omega, by omega, by omega, fun r1 H1 a0 a1 g1 s1 => ⟨_, _, rfl, rfl, ?_⟩⟩
    refine ⟨_, rfl, _, rfl, _, rfl, p, n + 1, _, rfl, s1, by omega, by omega, by omega, fun r2 H2 b0 b1 g2 s2 => ⟨_, _, rfl, rfl, (by show 2 ≤ sizeLine; decide), fun L hL => ?_⟩⟩
    have pL := s2.ne hL
    have g3 : Grow p H (upd H2 L (.lst [V.int ((first : Int) + r1), V.int ((first : Int) + r2)])) := (g1.trans g2).trans (Grow.new hL)
    have s3 := s2.new (o := .lst [V.int ((first : Int) + r1), V.int ((first : Int) + r2)]) hL
    have l3 : (upd H2 L (.lst [V.int ((first : Int) + r1), V.int ((first : Int) + r2)])) L = some (.lst [V.int ((first : Int) + r1), V.int ((first : Int) + r2)]) := upd_same
    revert g3 s3 l3
    generalize (upd H2 L (.lst [V.int ((first : Int) + r1), V.int ((first : Int) + r2)])) = H3
    intro g3 s3 l3
    refine ⟨_, rfl, Nat.zero_le _, fun e he => ⟨_, _, dp_strs (by rw [upd_ne (ne_of_none (g3 _ _ hcl npc.symm) he)]; exact g3 _ _ hcl npc.symm), .lst (SqL.of upd_same) .nil, csh, rfl, _, rfl, ite_no (eqv_nil c0) ?_⟩⟩
    have g4 : Grow p H (upd H3 e (.lst [])) := g3.trans (Grow.new he)
    have s4 := s3.new (o := .lst []) he
    have l4 : (upd H3 e (.lst [])) L = some (.lst [V.int ((first : Int) + r1), V.int ((first : Int) + r2)]) := by
      rw [upd_ne (ne_of_none l3 he)]
      exact l3
    revert g4 s4 l4
    generalize (upd H3 e (.lst [])) = H4
    intro g4 s4 l4
    refine ⟨_, rfl, p, n + 2, 2, rfl, s4, by omega, by decide, by decide, fun r3 H5 d0 d1 g5 s5 => ⟨rfl, _, rfl, ?_⟩⟩
    have l5 := g5 _ _ l4 pL.symm
    have g05 := g4.trans g5
    refine ite2 (fun _ => ?_) (fun _ => ?_)
    · refine ⟨_, rfl, Nat.zero_le _, fun e2 he2 => ⟨_, _, dp_strs (by rw [upd_ne (ne_of_none (g05 _ _ hcl npc.symm) he2)]; exact g05 _ _ hcl npc.symm), .lst (SqL.of upd_same) .nil, csh, rfl, _, rfl, ite_no (eqv_nil c0) ?_⟩⟩
      have g6 : Grow p H (upd H5 e2 (.lst [])) := g05.trans (Grow.new he2)
      have s6 := s5.new (o := .lst []) he2
      have l6 : (upd H5 e2 (.lst [])) L = some (.lst [V.int ((first : Int) + r1), V.int ((first : Int) + r2)]) := by
        rw [upd_ne (ne_of_none l5 he2)]
        exact l5
      revert g6 s6 l6
      generalize (upd H5 e2 (.lst [])) = H6
      intro g6 s6 l6
      refine ⟨_, rfl, _, rfl, p, cl, n + 3, _, rfl, s6, by omega, g6 _ _ hcl npc.symm, by rw [List.length_map]; exact c0, by rw [List.length_map]; omega, npc, fun x H7 hx g7 s7 => ?_⟩
      obtain ⟨c, hc, rfl⟩ := List.mem_map.mp hx
      have g07 := g6.trans g7
      refine ⟨_, rfl, _, rfl, p, wl, n + 4, _, rfl, s7, by omega, g07 _ _ hwl npw.symm, by rw [List.length_map]; exact w0, by rw [List.length_map]; omega, npw, fun y H8 hy g8 s8 => ?_⟩
      obtain ⟨v, hv, rfl⟩ := List.mem_map.mp hy
      have g08 := g07.trans g8
      refine ⟨_, rfl, L, _, _, _, rfl, rfl, SqL.of (g8 _ _ (g7 _ _ l6 pL.symm) pL.symm), (show atI [V.int ((first : Int) + r1), V.int ((first : Int) + r2)] 0 = some (V.int ((first : Int) + r1)) from rfl), (by show 4 ≤ sizeLine; decide), fun a ha => ?_⟩
      have er : (first : Int) + r1 = ((first + r1.toNat : Nat) : Int) := by omega
      rw [er]
      exact k a (.wr c v (first + r1.toNat)) _ (g08.trans (Grow.new ha)) (g08.free ha s8) upd_same ⟨hc, wpos v hv, by omega, by omega⟩ ((s8.new ha).le (by omega))
    · refine ⟨_, rfl, _, rfl, p, wl, n + 3, _, rfl, s5, by rw [List.length_map]; omega, g05 _ _ hwl npw.symm, npw, fun q ys H6 sub g6 hq hq6 s6 => ?_⟩
      obtain ⟨zs, zsub, rfl⟩ := List.sublist_map_iff.mp sub
      have zl := zsub.length_le
      rw [List.length_map] at s6
      have pq : p ≠ q := s5.ne hq
      have l6 := g6 _ _ l5 pL.symm
      refine ⟨q, rfl, ⟨_, SqL.of hq6⟩, fun D hD => ?_⟩
      have pD := s6.ne hD
      refine lc_list (K := K) (a := q) (xs := zs.map V.int) (fun i H7 => ∃ (ts : List Addr) (cs : List (Int × Nat)), H7 D = some (.lst (ts.map V.ref)) ∧ Paired (fun t (kv : Int × Nat) => H7 t = some (.tup [V.int kv.1, V.int (kv.2 : Nat)])) ts cs ∧ cs.map (·.1) = zs.take i ∧ (∀ kv ∈ cs, first ≤ kv.2 ∧ kv.2 < last) ∧ Grow p H6 H7 ∧ Src p (n + 3 + ws.length + i) H7)
        ⟨[], [], upd_same, .nil, rfl, (fun _ h => nomatch h), Grow.new hD, s6.new hD⟩ (fun i H7 _ ⟨_, _, _, _, _, _, g, _⟩ => SqL.of (g q _ hq6 pq.symm)) ?_ ?_
      · rintro i y H7 hi ⟨ts, cs, hD7, hp7, hk7, hr7, g7, s7⟩
        rw [List.getElem?_map] at hi
        obtain ⟨z, hz, rfl⟩ : ∃ z, zs[i]? = some z ∧ y = V.int z := by
          cases e : zs[i]? with
          | none =>
            rw [e] at hi
            cases hi
          | some z =>
            rw [e] at hi
            exact ⟨z, rfl, (Option.some.inj hi).symm⟩
        have hil : i < zs.length := (List.getElem?_eq_some_iff.mp hz).1
        have len : ts.length = i := by
          have h1 := hp7.length
          have h2 := congrArg List.length hk7
          rw [List.length_map, List.length_take] at h2
          omega
        refine ⟨rfl, tyes_if ?_⟩
        refine ⟨_, rfl, _, rfl, _, rfl, _, rfl, p, n + 3 + ws.length + i, _, rfl, s7, by omega, by omega, by omega, fun r H8 c0 c1 g8 s8 => ⟨_, _, rfl, rfl, (by show 2 ≤ sizeLine; decide), fun t ht => ?_⟩⟩
        have hD8 := g8 _ _ hD7 pD.symm
        have ntD : D ≠ t := ne_of_none hD8 ht
        have er : (first : Int) + r = ((first + r.toNat : Nat) : Int) := by omega
        refine ⟨ts.map V.ref, by rw [upd_ne ntD]; exact hD8, small (by rw [List.length_map]; omega), ts ++ [t], cs ++ [(z, first + r.toNat)], ?_, ?_, ?_, ?_, ?_, (((s8.new ht).put pD).le (by omega))⟩
        · rw [upd_same, List.map_append]
          rfl
        · refine Paired.snoc (L2.Paired.mapP hp7 fun b kv hb => ?_) ?_
          · have nb : b ≠ D := ne_of hb hD7 (by intro z; cases z)
            have hb8 : H8 b = some (.tup [V.int kv.1, V.int (kv.2 : Nat)]) := g8.tup s7 hb
            rw [upd_ne nb, upd_ne (ne_of_none hb8 ht)]
            exact hb8
          · rw [upd_ne ntD.symm, upd_same]
            show some (HO.tup [V.int z, V.int ((first : Int) + r)]) = _
            rw [er]
        · rw [List.map_append, hk7, List.take_add_one, hz]
          rfl
        · intro kv hkv
          rcases List.mem_append.mp hkv with h | h
          · exact hr7 kv h
          · cases h with
            | head => exact ⟨by show first ≤ first + r.toNat; omega, by show first + r.toNat < last; omega⟩
            | tail _ h => cases h
        · exact ((g7.trans g8).trans (Grow.new ht)).put hD
      · rintro H7 ⟨ts, cs, hD7, hp7, hk7, hr7, g7, s7⟩
        rw [List.length_map] at hk7 s7
        rw [List.take_length] at hk7
        have nd : (cs.map (·.1)).Nodup := by
          rw [hk7]
          exact wnd.sublist zsub
        have cl1 : cs.length = zs.length := by rw [← hk7, List.length_map]
        refine ⟨D, ts, kvOf cs, rfl, SqL.of hD7, paired_map (L2.Paired.mapP hp7 fun b kv hb => SqT.of hb), fun dd hdd => ?_⟩
        have em : mergeK [] (kvOf cs) = kvOf cs := merge_kv cs [] nd
        rw [em]
        have g8 : Grow p H (upd H7 dd (.dK (kvOf cs))) := ((g05.trans g6).trans g7).trans (Grow.new hdd)
        have s8 := s7.new (o := .dK (kvOf cs)) hdd
        have l8 : (upd H7 dd (.dK (kvOf cs))) L = some (.lst [V.int ((first : Int) + r1), V.int ((first : Int) + r2)]) := by
          have l7 := g7 _ _ l6 pL.symm
          rw [upd_ne (ne_of_none l7 hdd)]
          exact l7
        have d8 : (upd H7 dd (.dK (kvOf cs))) dd = some (.dK (kvOf cs)) := upd_same
        revert g8 s8 l8 d8
        generalize (upd H7 dd (.dK (kvOf cs))) = H8
        intro g8 s8 l8 d8
        refine ⟨_, rfl, _, rfl, p, cl, n + 3 + ws.length + zs.length, _, rfl, s8, by omega, g8 _ _ hcl npc.symm, by rw [List.length_map]; exact c0, by rw [List.length_map]; omega, npc, fun x H9 hx g9 s9 => ?_⟩
        obtain ⟨c, hc, rfl⟩ := List.mem_map.mp hx
        refine ⟨_, rfl, _, rfl, L, _, _, _, rfl, rfl, SqL.of (g9 _ _ l8 pL.symm), (show atI [V.int ((first : Int) + r1), V.int ((first : Int) + r2)] 1 = some (V.int ((first : Int) + r2)) from rfl), (by show 4 ≤ sizeLine; decide), fun a ha => ?_⟩
        have er : (first : Int) + r2 = ((first + r2.toNat : Nat) : Int) := by omega
        rw [er]
        have d9 := g9.dk s8 d8
        refine k a (.rd c cs (first + r2.toNat)) _ ((g8.trans g9).trans (Grow.new ha)) ((g8.trans g9).free ha s9) ⟨dd, upd_same, by rw [upd_ne (ne_of_none d9 ha)]; exact d9⟩ ⟨hc, nd, fun kv hkv => ⟨?_, hr7 kv hkv⟩, by omega, by omega, by omega⟩ ((s9.new ha).le (by omega))
        refine wpos _ (zsub.mem ?_)
        rw [← hk7]
        exact List.mem_map.mpr ⟨kv, hkv, rfl⟩
end
end CC

set_option Elab.async false
set_option maxRecDepth 100000
namespace CC
open PySem L2
set_option linter.unusedVariables false
def RowsAt (H : Hp) (rs : List Row) (l : Addr) : Prop := ∃ as : List Addr, H l = some (.lst (as.map V.ref)) ∧ Paired (fun a r => RowAt H r a) as rs
/-- a row of the part behind the inside row -/
def Row.tl (lo hi : Nat) (cells : List Str) : Row → Prop
  | .rest _ => False
  | .ins _ => False
  | .wr c v m => c ∈ cells ∧ 0 ≤ v ∧ ((lo ≤ m ∧ m < hi) ∨ m = 0)
  | .rd c cs m => c ∈ cells ∧ (cs.map (·.1)).Nodup ∧ (∀ kv ∈ cs, 0 ≤ kv.1 ∧ lo ≤ kv.2 ∧ kv.2 < hi) ∧ ((lo ≤ m ∧ m < hi) ∨ m = 0) ∧ cs.length ≤ 10
def Shape (ahead behind : Nat) (cells : List Str) (rs : List Row) : Prop := ∃ (xs ys : List Row), rs = Row.rest 1 :: (xs ++ Row.ins (if 0 < behind then ahead + 2 else 0) :: ys) ∧ xs.length = ahead ∧ ys.length = behind ∧
  (∀ r ∈ xs, r.mid 1 (ahead + 2) cells) ∧ (∀ r ∈ ys, r.tl (ahead + 2) (ahead + 2 + behind) cells)
theorem RowsAt.grow {p q : Addr} {n : Nat} {H H' : Hp} {rs : List Row} (h : RowsAt H rs q) (g : Grow p H H') (s : Src p n H) (npq : p ≠ q) : RowsAt H' rs q := by
  obtain ⟨as, h1, h2⟩ := h
  exact ⟨as, g _ _ h1 npq.symm, L2.Paired.mapP h2 fun a r x => x.grow g s⟩
theorem RowAt.put {H : Hp} {r : Row} {a q : Addr} {xs ys : List V} (h : RowAt H r a) (hq : H q = some (.lst xs)) : RowAt (upd H q (.lst ys)) r a :=
  h.mono (fun b zs e => by rw [upd_ne (ne_of e hq (by intro z; cases z))]; exact e) fun b zs e => by rw [upd_ne (ne_of e hq (by intro z; cases z))]; exact e
theorem RowAt.new {H : Hp} {r : Row} {a q : Addr} {o : HO} (h : RowAt H r a) (hq : H q = none) : RowAt (upd H q o) r a :=
  h.mono (fun b zs e => by rw [upd_ne (ne_of_none e hq)]; exact e) fun b zs e => by rw [upd_ne (ne_of_none e hq)]; exact e
theorem RowsAt.add {H : Hp} {rs : List Row} {as : List Addr} {q a : Addr} {r : Row} (h1 : H q = some (.lst (as.map V.ref))) (h2 : Paired (fun a r => RowAt H r a) as rs) (h : RowAt H r a) :
    RowsAt (upd H q (.lst (as.map V.ref ++ [V.ref a]))) (rs ++ [r]) q := by
  refine ⟨as ++ [a], by rw [upd_same, List.map_append]; rfl, Paired.snoc (L2.Paired.mapP h2 fun b x e => e.put h1) (h.put h1)⟩
theorem vs5 {p cl wl : Addr} {a b a' b' : Int} (h1 : a = a') (h2 : b = b') : [V.ref p, V.ref cl, V.int a, V.int b, V.ref wl] = [V.ref p, V.ref cl, V.int a', V.int b', V.ref wl] := by
  subst h1
  subst h2
  rfl
theorem if_via {c : Prop} [Decidable c] {t u : TE} {σ : L2.St} {H : Hp} {Q : V → Hp → Prop} (z : V) (k : Q z H) (h1 : c → Q z H → t σ H Q) (h2 : ¬ c → Q z H → u σ H Q) : if decide c = true then t σ H Q else u σ H Q :=
  ite2 (fun e => h1 (of_decide_eq_true e) k) fun e => h2 (fun q => e (decide_eq_true q)) k
theorem Row.mid_tl {lo hi : Nat} {cells : List Str} {r : Row} (h : r.mid lo hi cells) : r.tl lo hi cells := by
  cases r with
  | rest n => exact h
  | ins n => exact h
  | wr c v m => exact ⟨h.1, h.2.1, .inl h.2.2⟩
  | rd c cs m => exact ⟨h.1, h.2.1, h.2.2.1, .inl ⟨h.2.2.2.1, h.2.2.2.2.1⟩, h.2.2.2.2.2⟩
abbrev sRows : Stmt := top 45
def spRows : Sp := fun vs H Q _ => ∃ (p cl wl : Addr) (n ahead behind : Nat) (cells : List Str) (ws : List Int), vs = [.ref p, .ref cl, .int (ahead : Nat), .int (behind : Nat), .ref wl] ∧ Src p n H ∧ n + 100 * (ahead + behind + 1) < 1000000 ∧
  H cl = some (.lst (cells.map V.str)) ∧ H wl = some (.lst (ws.map V.int)) ∧ p ≠ cl ∧ p ≠ wl ∧ cells.length < 100 ∧ SeqAt.shaped (.list (cells.map PyData.str)) = true ∧
  ws.Nodup ∧ (∀ v ∈ ws, 0 ≤ v) ∧ 0 < ws.length ∧ ws.length ≤ 10 ∧ ahead < 100 ∧ behind < 100 ∧
  ∀ (q : Addr) (rs : List Row) (H' : Hp), Grow p H H' → H q = none → RowsAt H' rs q → (∃ a b, a ≤ ahead ∧ b ≤ behind ∧ Shape a b cells rs) → Src p (n + 60 * (ahead + behind)) H' → Q (.ref q) H'
section
variable {P : Program} {w : World} {K : PySem.W.Frag} {mg : Str → Option Value} {base : Heap}
theorem scRows : FnScope ["_law_source_here", "_law_cells", "_law_ahead", "_law_behind", "_law_worths", "_law_inside", "_law_rows_here", "_law_k", "_law_here", "_law_row", "_law_to"] ["_law_source_here", "_law_cells", "_law_ahead", "_law_behind", "_law_worths"] (defScope sRows) := ⟨rfl, rfl, rfl, by decide +kernel, rfl, by decide +kernel, by decide +kernel⟩
theorem ok_rows {f fD fA : Addr} {fd fdD fdA : FuncData} (F : Fun K "_law_rows" "_law_rows" sRows f fd)
    (GD : FnOk P w K mg base CX0 1 fD fdD ["_law_source_here", "_law_many"] spDraw) (mD : mg "_law_draw" = some (.ref fD)) (kD : PySem.W.keepIn K (.ref fD) = true) (bD : Binds K fdD ["_law_source_here", "_law_many"] [])
    (GA : FnOk P w K mg base CX0 3 fA fdA ["_law_source_here", "_law_cells", "_law_first", "_law_last", "_law_worths"] spAnyRow) (mA : mg "_law_any_row" = some (.ref fA)) (kA : PySem.W.keepIn K (.ref fA) = true) (bA : Binds K fdA ["_law_source_here", "_law_cells", "_law_first", "_law_last", "_law_worths"] [])
    (tl : mg "len" = none) (tr : mg "range" = none) :
    FnOk P w K mg base CX0 4 f fd ["_law_source_here", "_law_cells", "_law_ahead", "_law_behind", "_law_worths"] spRows := by
  refine F.ok scRows (fun vs H Q E h => ?_) (fun cdv A outer s H vs Q E hr h => ?_)
  · obtain ⟨p, cl, wl, n, ahead, behind, cells, ws, rfl, _⟩ := h
    rfl
  · obtain ⟨p, cl, wl, n, ahead, behind, cells, ws, rfl, hp, hn, hcl, hwl, npc, npw, c1, csh, wnd, wpos, w0, w1, al, bl, k⟩ := h
    have hr1 : Room 1 _ := hr.mono (by decide)
    refine ⟨_, pss_cons (ps_if (pt_cmpR (op_eqD hr.units) (pv 1) (pe_lst pa_nil) (nomark _)) (pss_one (ps_ret (pe_lst (pa_cons (pe_tup (pa_cons pe_str (pa_cons pe_int pa_nil))) (pa_cons (pe_tup (pa_cons pe_str (pa_cons pe_int pa_nil))) pa_nil))))) pss_nil)
      (pss_cons (ps_set (i := 5) scRows.nd rfl (Or.inl rfl) (pe_op op_add pe_int (pv 2)))
      (pss_cons (ps_set (i := 6) scRows.nd rfl (Or.inl rfl) (pe_lst (pa_cons (pe_tup (pa_cons pe_str (pa_cons pe_int pa_nil))) pa_nil)))
      (pss_cons (ps_for PassesOwn.never rfl (pi_range1 rfl tr (pa_cons (pv 2) pa_nil)) (pg_name (i := 7) scRows.nd rfl (Or.inl rfl))
        (pss_one (ps_expr (pe_bm PySem.F.plainAttrs_list PySem.F.slot_list_append PySem.F.type_list_append mt_append (pv 6) (pa_cons (pe_call GA hr rfl mA kA bA .nil pass0 (pa_cons (pv 0) (pa_cons (pv 1) (pa_cons pe_int (pa_cons (pe_op op_add (pv 5) pe_int) (pa_cons (pv 4) pa_nil)))))) pa_nil)))))
      (pss_cons (ps_expr (pe_bm PySem.F.plainAttrs_list PySem.F.slot_list_append PySem.F.type_list_append mt_append (pv 6) (pa_cons (pe_tup (pa_cons pe_str (pa_cons (pe_ifExp (pt_cmpR op_gt (pv 3) pe_int (nomark _)) (pe_op op_add (pv 5) pe_int) pe_int) pa_nil))) pa_nil)))
      (pss_cons (ps_for PassesOwn.never rfl (pi_range1 rfl tr (pa_cons (pv 3) pa_nil)) (pg_name (i := 7) scRows.nd rfl (Or.inl rfl))
        (pss_cons (ps_set (i := 8) scRows.nd rfl (Or.inl rfl) (pe_callB call_len_seq (by rfl) tl PySem.boot_len (pa_cons (pv 6) pa_nil)))
        (pss_cons (ps_set (i := 9) scRows.nd rfl (Or.inl rfl) (pe_call GA hr rfl mA kA bA .nil pass0 (pa_cons (pv 0) (pa_cons (pv 1) (pa_cons (pe_op op_add (pv 5) pe_int) (pa_cons (pe_op op_add (pe_op op_add (pv 5) pe_int) (pv 3)) (pa_cons (pv 4) pa_nil)))))))
        (pss_cons (ps_set (i := 10) scRows.nd rfl (Or.inl rfl) (pe_ifExp (pt_cmpR op_lt (pe_op op_add (pv 7) pe_int) (pv 3) (nomark _)) (pe_op op_add (pv 8) pe_int) pe_int))
        (pss_cons (ps_if (pt_cmpR op_gt (pe_call GD hr1 rfl mD kD bD .nil pass0 (pa_cons (pv 0) (pa_cons pe_int pa_nil))) pe_int (nomark _))
          (pss_one (ps_set (i := 9) scRows.nd rfl (Or.inl rfl) (pe_ifExp (pt_cmpR op_eq (pe_ix ix_tup (pv 9) pe_int (fun _ _ => rfl)) pe_str (nomark _))
            (pe_op op_catT (pe_slice sl_tup (pv 9) po_none (po_some pe_int)) (pe_tup (pa_cons (pv 10) pa_nil)))
            (pe_tup (pa_cons (pe_ix ix_tup (pv 9) pe_int (fun _ _ => rfl)) (pa_cons (pe_ix ix_tup (pv 9) pe_int (fun _ _ => rfl)) (pa_cons pe_dnewK (pa_cons (pv 10) pa_nil)))))))) pss_nil)
        (pss_one (ps_expr (pe_bm PySem.F.plainAttrs_list PySem.F.slot_list_append PySem.F.type_list_append mt_append (pv 6) (pa_cons (pv 9) pa_nil)))))))))
      (pss_one (ps_ret (pv 6)))))))), ?_⟩
    refine ⟨_, rfl, Nat.zero_le _, fun e he => ⟨_, _, dp_strs (by rw [upd_ne (ne_of_none hcl he)]; exact hcl), .lst (SqL.of upd_same) .nil, csh, rfl, _, rfl, ?_⟩⟩
    by_cases c0 : 0 < cells.length
    rotate_left
    · have ce : cells = [] := List.eq_nil_of_length_eq_zero (by omega)
      subst ce
      refine ite_yes rfl ?_
      have g0 : Grow p H (upd H e (.lst [])) := Grow.new he
      have s0 := hp.new (o := .lst []) he
      revert g0 s0
      generalize (upd H e (.lst [])) = H0
      intro g0 s0
      refine ⟨(by show 2 ≤ sizeLine; decide), fun t1 ht1 => ⟨(by show 2 ≤ sizeLine; decide), fun t2 ht2 => ⟨(by show 2 ≤ sizeLine; decide), fun q hq => ?_⟩⟩⟩
      have r1 : RowAt (upd (upd (upd H0 t1 (.tup [V.str "rest", V.int 1])) t2 (.tup [V.str "inside", V.int 0])) q (.lst [V.ref t1, V.ref t2])) (.rest 1) t1 := by
        show _ = _
        rw [upd_ne (ne_of_none (by rw [upd_ne (ne_of_none upd_same ht2), upd_same]) hq), upd_ne (ne_of_none upd_same ht2), upd_same]
        rfl
      have r2 : RowAt (upd (upd (upd H0 t1 (.tup [V.str "rest", V.int 1])) t2 (.tup [V.str "inside", V.int 0])) q (.lst [V.ref t1, V.ref t2])) (.ins 0) t2 := by
        show _ = _
        rw [upd_ne (ne_of_none upd_same hq), upd_same]
        rfl
      have gQ := ((g0.trans (Grow.new (o := .tup [V.str "rest", V.int 1]) ht1)).trans (Grow.new (o := .tup [V.str "inside", V.int 0]) ht2)).trans (Grow.new (o := .lst [V.ref t1, V.ref t2]) hq)
      have sQ := ((s0.new (o := .tup [V.str "rest", V.int 1]) ht1).new (o := .tup [V.str "inside", V.int 0]) ht2).new (o := .lst [V.ref t1, V.ref t2]) hq
      have s2 := (s0.new (o := .tup [V.str "rest", V.int 1]) ht1).new (o := .tup [V.str "inside", V.int 0]) ht2
      have g2 := (g0.trans (Grow.new (o := .tup [V.str "rest", V.int 1]) ht1)).trans (Grow.new (o := .tup [V.str "inside", V.int 0]) ht2)
      have hq0 : H q = none := by
        cases z : H q with
        | none => rfl
        | some o =>
          by_cases n : q = p
          · rw [n] at hq
            exact absurd rfl (s2.ne hq)
          · rw [g2 _ _ z n] at hq
            cases hq
      exact k q [.rest 1, .ins 0] _ gQ hq0 ⟨[t1, t2], upd_same, .cons r1 (.cons r2 .nil)⟩ ⟨0, 0, Nat.zero_le _, Nat.zero_le _, [], [], rfl, rfl, rfl, (fun _ h => nomatch h), (fun _ h => nomatch h)⟩ (sQ.le (by omega))
    refine ite_no (eqv_nil c0) ?_
    have g1 : Grow p H (upd H e (.lst [])) := Grow.new he
    have s1 := hp.new (o := .lst []) he
    revert g1 s1
    generalize (upd H e (.lst [])) = H1
    intro g1 s1
    refine ⟨_, rfl, _, _, rfl, rfl, (by show 2 ≤ sizeLine; decide), fun t ht => ⟨(by show 1 ≤ sizeLine; decide), fun q hq => ?_⟩⟩
    have pt := s1.ne ht
    have g2 : Grow p H (upd (upd H1 t (.tup [V.str "rest", V.int 1])) q (.lst [V.ref t])) := (g1.trans (Grow.new ht)).trans (Grow.new hq)
    have s2 := (s1.new (o := .tup [V.str "rest", V.int 1]) ht).new (o := .lst [V.ref t]) hq
    have npq : p ≠ q := (s1.new (o := .tup [V.str "rest", V.int 1]) ht).ne hq
    have hq0 : H q = none := (g1.trans (Grow.new ht)).free hq (s1.new (o := .tup [V.str "rest", V.int 1]) ht)
    have r2 : RowsAt (upd (upd H1 t (.tup [V.str "rest", V.int 1])) q (.lst [V.ref t])) [Row.rest 1] q := ⟨[t], upd_same, .cons (by
      show (upd (upd H1 t (.tup [V.str "rest", V.int 1])) q (.lst [V.ref t])) t = some (.tup [V.str "rest", V.int 1])
      rw [upd_ne (ne_of_none upd_same hq), upd_same]) .nil⟩
    revert g2 s2 r2
    generalize (upd (upd H1 t (.tup [V.str "rest", V.int 1])) q (.lst [V.ref t])) = H2
    intro g2 s2 r2
    refine ⟨_, rfl, (ahead : Int), rfl, by omega, by omega, for_range (n := ahead) (fun i σ H3 => ∃ (v : Option V) (xs : List Row), σ = [some (.ref p), some (.ref cl), some (.int (ahead : Nat)), some (.int (behind : Nat)), some (.ref wl), some (.int (1 + (ahead : Int))), some (.ref q), v, none, none, none] ∧ xs.length = i ∧ (∀ r ∈ xs, r.mid 1 (ahead + 2) cells) ∧ RowsAt H3 (Row.rest 1 :: xs) q ∧ Grow p H H3 ∧ Src p (n + 60 * i) H3)
      ⟨none, [], rfl, rfl, (fun _ h => nomatch h), r2, g2, s2⟩ ?_ ?_⟩
    · rintro i σ H3 hi ⟨v, xs, rfl, xl, xm, r3, g3, s3⟩
      obtain ⟨as, ha1, ha2⟩ := id r3
      refine ⟨_, rfl, .inl ⟨rfl, _, Or.inl (Or.inl ha1)⟩, _, rfl, _, rfl, _, rfl, _, _, rfl, rfl, _, rfl, p, cl, wl, n + 60 * i, 1, ahead + 2, cells, ws, vs5 rfl (by omega), s3, by omega, g3 _ _ hcl npc.symm, g3 _ _ hwl npw.symm, npc, npw, c0, c1, csh, wnd, wpos, w0, w1, by omega, by omega, fun a r H4 g4 ha rr rm s4 => ?_⟩
      have ha4 := g4 _ _ ha1 npq.symm
      have al4 : as.length = xs.length + 1 := by have := ha2.length; exact this
      refine ⟨q, _, _, rfl, rfl, ha4, small (by rw [List.length_map]; omega), ?_⟩
      refine ⟨_, xs ++ [r], rfl, by rw [List.length_append, xl]; rfl, ?_, RowsAt.add ha4 (L2.Paired.mapP ha2 fun a r x => x.grow g4 s3) rr, (g3.trans g4).put hq0, ((s4.put npq).le (by omega))⟩
      intro r' hr'
      rcases List.mem_append.mp hr' with h | h
      · exact xm r' h
      · cases h with
        | head => exact rm
        | tail _ h => cases h
    · rintro σ H3 ⟨v, xs, rfl, xl, xm, r3, g3, s3⟩
      obtain ⟨as, ha1, ha2⟩ := id r3
      refine ⟨_, rfl, .inl ⟨rfl, _, Or.inl (Or.inl ha1)⟩, _, rfl, _, _, rfl, rfl, _, rfl, ?_⟩
      obtain ⟨x, hx⟩ : ∃ x : Nat, x = if 0 < behind then ahead + 2 else 0 := ⟨_, rfl⟩
      have al3 : as.length = xs.length + 1 := by have := ha2.length; exact this
      refine if_via (V.int (x : Nat)) ?_ (fun hb kq => ⟨_, rfl, _, _, rfl, rfl, ?_⟩) (fun hb kq => ?_)
      rotate_left
      · have e0 : (fun i j : Int => V.int (i + j)) (1 + (ahead : Int)) 1 = V.int (x : Nat) := by
          show V.int _ = V.int _
          rw [if_pos (by omega)] at hx
          congr 1
          omega
        rw [e0]
        exact kq
      · have e0 : V.int (x : Nat) = V.int 0 := by
          rw [if_neg (by omega)] at hx
          rw [hx]
          rfl
        rw [e0] at kq
        exact kq
      refine ⟨(by show 2 ≤ sizeLine; decide), fun t2 ht2 => ⟨q, _, _, rfl, rfl, (by rw [upd_ne (ne_of_none ha1 ht2)]; exact ha1), small (by rw [List.length_map]; omega), ?_⟩⟩
      have h4 : (upd H3 t2 (.tup [V.str "inside", V.int (x : Nat)])) q = some (.lst (as.map V.ref)) := by
        rw [upd_ne (ne_of_none ha1 ht2)]
        exact ha1
      have r5 := RowsAt.add h4 (L2.Paired.mapP ha2 fun a r e => e.new (o := .tup [V.str "inside", V.int (x : Nat)]) ht2) (show RowAt (upd H3 t2 (.tup [V.str "inside", V.int (x : Nat)])) (Row.ins x) t2 from upd_same)
      have g5 : Grow p H (upd (upd H3 t2 (.tup [V.str "inside", V.int (x : Nat)])) q (.lst (as.map V.ref ++ [V.ref t2]))) := (g3.trans (Grow.new ht2)).put hq0
      have s5 := (s3.new (o := .tup [V.str "inside", V.int (x : Nat)]) ht2).put (o := .lst (as.map V.ref ++ [V.ref t2])) npq
      revert r5 g5 s5
      generalize (upd (upd H3 t2 (.tup [V.str "inside", V.int (x : Nat)])) q (.lst (as.map V.ref ++ [V.ref t2]))) = H5
      intro r5 g5 s5
      refine ⟨_, rfl, (behind : Int), rfl, by omega, by omega, for_range (n := behind) (fun i σ H6 => ∃ (v v8 v9 v10 : Option V) (ys : List Row), σ = [some (.ref p), some (.ref cl), some (.int (ahead : Nat)), some (.int (behind : Nat)), some (.ref wl), some (.int (1 + (ahead : Int))), some (.ref q), v, v8, v9, v10] ∧ ys.length = i ∧ (∀ r ∈ ys, r.tl (ahead + 2) (ahead + 2 + behind) cells) ∧ RowsAt H6 (Row.rest 1 :: (xs ++ Row.ins x :: ys)) q ∧ Grow p H H6 ∧ Src p (n + 60 * ahead + 60 * i) H6)
        ⟨v, none, none, none, [], rfl, rfl, (fun _ h => nomatch h), r5, g5, s5⟩ ?_ ?_⟩
      · rintro i σ H6 hi ⟨v, v8, v9, v10, ys, rfl, yl, ym, r6, g6, s6⟩
        obtain ⟨bs, hb1, hb2⟩ := id r6
        have bl6 : bs.length = ahead + 2 + i := by
          have := hb2.length
          simp only [List.length_cons, List.length_append] at this
          omega
        refine ⟨_, rfl, q, _, rfl, .inl (SqL.of hb1), ?_⟩
        refine ⟨_, rfl, _, rfl, _, rfl, _, _, rfl, rfl, _, rfl, _, _, rfl, rfl, _, rfl, _, _, rfl, rfl, _, rfl, p, cl, wl, n + 60 * ahead + 60 * i, ahead + 2, ahead + 2 + behind, cells, ws, vs5 (by omega) (by omega), s6, by omega, g6 _ _ hcl npc.symm, g6 _ _ hwl npw.symm, npc, npw, c0, c1, csh, wnd, wpos, w0, w1, by omega, by omega, fun a r H7 g7 ha rr rm s7 => ?_⟩
        obtain ⟨z, hz⟩ : ∃ z : Nat, z = if i + 1 < behind then ahead + i + 3 else 0 := ⟨_, rfl⟩
        refine ⟨_, rfl, _, _, rfl, rfl, _, rfl, _, _, rfl, rfl, _, rfl, ?_⟩
        refine if_via (V.int (z : Nat)) ?_ (fun hb kq => ⟨_, rfl, _, _, rfl, rfl, ?_⟩) (fun hb kq => ?_)
        rotate_left
        · have e0 : (fun i j : Int => V.int (i + j)) ((bs.map V.ref).length : Nat) 1 = V.int (z : Nat) := by
            show V.int _ = V.int _
            rw [if_pos (by omega)] at hz
            rw [List.length_map]
            congr 1
            omega
          rw [e0]
          exact kq
        · have e0 : V.int (z : Nat) = V.int 0 := by
            rw [if_neg (by omega)] at hz
            rw [hz]
            rfl
          rw [e0] at kq
          exact kq
        have zr : (ahead + 2 ≤ z ∧ z < ahead + 2 + behind) ∨ z = 0 := by
          by_cases hb : i + 1 < behind
          · rw [if_pos hb] at hz
            left
            omega
          · rw [if_neg hb] at hz
            exact .inr hz
        have fin : ∀ (b : Addr) (r' : Row) (H8 : Hp), RowAt H8 r' b → Grow p H7 H8 → Src p (n + 60 * ahead + 60 * i + 60) H8 → H8 q = some (.lst (bs.map V.ref)) ∧
            RowsAt (upd H8 q (.lst (bs.map V.ref ++ [V.ref b]))) (Row.rest 1 :: (xs ++ Row.ins x :: (ys ++ [r']))) q ∧ Grow p H (upd H8 q (.lst (bs.map V.ref ++ [V.ref b]))) ∧ Src p (n + 60 * ahead + 60 * (i + 1)) (upd H8 q (.lst (bs.map V.ref ++ [V.ref b]))) := by
          intro b r' H8 hr8 g8 s8
          have hb8 := g8 _ _ (g7 _ _ hb1 npq.symm) npq.symm
          have e := RowsAt.add hb8 (L2.Paired.mapP hb2 fun a r x => (x.grow g7 s6).grow g8 s7) hr8
          have e2 : (Row.rest 1 :: (xs ++ Row.ins x :: ys)) ++ [r'] = Row.rest 1 :: (xs ++ Row.ins x :: (ys ++ [r'])) := by simp
          rw [e2] at e
          exact ⟨hb8, e, ((g6.trans g7).trans g8).put hq0, (s8.put npq).le (by omega)⟩
        have tlok : ∀ r', r'.tl (ahead + 2) (ahead + 2 + behind) cells → ∀ r'' ∈ ys ++ [r'], r''.tl (ahead + 2) (ahead + 2 + behind) cells := by
          intro r' h r'' hr''
          rcases List.mem_append.mp hr'' with m | m
          · exact ym r'' m
          · cases m with
            | head => exact h
            | tail _ m => cases m
        have len8 : (bs.map V.ref).length < sizeLine := small (by rw [List.length_map]; omega)
        have yl1 : ∀ r', (ys ++ [r']).length = i + 1 := fun r' => by rw [List.length_append, yl]; rfl
        refine ⟨_, rfl, p, n + 60 * ahead + 60 * i + 50, 3, rfl, s7, by omega, by decide, by decide, fun r5 H8 e0 e1 g8 s8 => ⟨_, _, rfl, rfl, _, rfl, ?_⟩⟩
        have rr8 := rr.grow g8 s7
        refine ite2 (fun _ => ?_) (fun _ => ?_)
        · cases r with
          | rest m => exact rm.elim
          | ins m => exact rm.elim
          | wr c v m =>
            refine ⟨_, rfl, a, _, _, _, rfl, rfl, SqT.of rr8, rfl, rfl, _, rfl, ?_⟩
            refine ite_yes (decide_eq_true rfl) ?_
            refine ⟨_, rfl, _, rfl, a, _, rfl, SqT.of rr8, (by show ¬ (0 = 0 ∧ 3 = 4); decide), fun b hb => ?_⟩
            rw [show cutV [V.str "write", V.str c, V.int v, V.int (m : Nat)] none (some 3) = [V.str "write", V.str c, V.int v] from rfl]
            refine ⟨_, rfl, (by show 1 ≤ sizeLine; decide), fun d hd => ?_⟩
            have hb' : (upd (upd H8 b (.tup [V.str "write", V.str c, V.int v])) d (.tup [V.int (z : Nat)])) b = some (.tup [V.str "write", V.str c, V.int v]) := by
              rw [upd_ne (ne_of_none upd_same hd), upd_same]
            refine ⟨b, d, _, _, rfl, rfl, SqT.of hb', SqT.of upd_same, (by intro z; cases z), (by show 4 ≤ sizeLine; decide), (by intro z; cases z), fun _ y hy => ?_⟩
            obtain ⟨f1, f2, f3, f4⟩ := fin y (.wr c v z) _ (show RowAt (upd (upd (upd H8 b (.tup [V.str "write", V.str c, V.int v])) d (.tup [V.int (z : Nat)])) y (.tup [V.str "write", V.str c, V.int v, V.int (z : Nat)])) (.wr c v z) y from upd_same) (((g8.trans (Grow.new hb)).trans (Grow.new hd)).trans (Grow.new hy)) ((((s8.new hb).new hd).new hy).le (by omega))
            exact ⟨_, rfl, .inl ⟨rfl, _, Or.inl (Or.inl f1)⟩, _, rfl, q, _, _, rfl, rfl, f1, len8, _, _, _, _, ys ++ [Row.wr c v z], rfl, yl1 _, tlok (.wr c v z) ⟨rm.1, rm.2.1, zr⟩, f2, f3, f4⟩
          | rd c cs m =>
            obtain ⟨dd, rr1, rr2⟩ := rr8
            refine ⟨_, rfl, a, _, _, _, rfl, rfl, SqT.of rr1, rfl, rfl, _, rfl, ?_⟩
            refine ite_no (decide_eq_false (by intro z; cases z)) ?_
            refine ⟨_, rfl, a, _, _, _, rfl, rfl, SqT.of rr1, rfl, _, rfl, a, _, _, _, rfl, rfl, SqT.of rr1, rfl, fun d hd => ⟨_, rfl, (by show 4 ≤ sizeLine; decide), fun y hy => ?_⟩⟩
            obtain ⟨f1, f2, f3, f4⟩ := fin y (.rd c [] z) _ (show RowAt (upd (upd H8 d (.dK [])) y (.tup [V.str "read", V.str c, V.ref d, V.int (z : Nat)])) (.rd c [] z) y from ⟨d, upd_same, by rw [upd_ne (ne_of_none upd_same hy), upd_same]; rfl⟩) ((g8.trans (Grow.new hd)).trans (Grow.new hy)) (((s8.new hd).new hy).le (by omega))
            exact ⟨_, rfl, .inl ⟨rfl, _, Or.inl (Or.inl f1)⟩, _, rfl, q, _, _, rfl, rfl, f1, len8, _, _, _, _, ys ++ [Row.rd c [] z], rfl, yl1 _, tlok (.rd c [] z) ⟨rm.1, List.nodup_nil, (fun _ h => nomatch h), zr, Nat.zero_le _⟩, f2, f3, f4⟩
        · obtain ⟨f1, f2, f3, f4⟩ := fin a r H8 rr8 g8 (s8.le (by omega))
          exact ⟨_, rfl, .inl ⟨rfl, _, Or.inl (Or.inl f1)⟩, _, rfl, q, _, _, rfl, rfl, f1, len8, _, _, _, _, ys ++ [r], rfl, yl1 _, tlok r (Row.mid_tl rm), f2, f3, f4⟩
      · rintro σ H6 ⟨v, v8, v9, v10, ys, rfl, yl, ym, r6, g6, s6⟩
        exact ⟨_, rfl, k q _ H6 g6 hq0 r6 ⟨_, _, Nat.le_refl _, Nat.le_refl _, xs, ys, by rw [hx], xl, yl, xm, ym⟩ (s6.le (by omega))⟩
end
end CC

set_option Elab.async false
set_option maxRecDepth 100000
namespace CC
open PySem L2
set_option linter.unusedVariables false
/-! ### doubled rows -/
abbrev sDoubled : Stmt := top 51
def endOf (n s k : Nat) : Nat := if k = 0 then n - s else k + s
def endsTo (s m : Nat) : List (Int × Nat) := (List.range m).map fun i => (((i + 1 : Nat) : Int), i + 1 + s)
def endsL (n s : Nat) : List (Int × Nat) := endsTo s (n - 1) ++ [(0, n - s)]
def Row.re (e : Nat → Nat) : Row → Row
  | .rest n => .rest (e n)
  | .ins n => .ins (e n)
  | .wr c v n => .wr c v (e n)
  | .rd c cs n => .rd c (cs.map fun kv => (kv.1, e kv.2)) (e n)
def doubled (rs : List Row) : List Row := rs.map (Row.re (endOf rs.length 0)) ++ rs.map (Row.re (endOf rs.length rs.length))
theorem endsTo_keys (s m : Nat) : (endsTo s m).map (·.1) = (List.range m).map fun i => ((i + 1 : Nat) : Int) := by
  unfold endsTo
  rw [List.map_map]
  rfl
theorem endsTo_succ (s m : Nat) : endsTo s (m + 1) = endsTo s m ++ [(((m + 1 : Nat) : Int), m + 1 + s)] := by
  unfold endsTo
  rw [List.range_succ, List.map_append]
  rfl
theorem endsL_nodup (n s : Nat) : ((endsL n s).map (·.1)).Nodup := by
  unfold endsL
  rw [List.map_append, endsTo_keys, List.nodup_append]
  refine ⟨?_, by simp, ?_⟩
  · refine List.Pairwise.map _ (fun a b h e => h ?_) (List.nodup_range (n := n - 1))
    have : ((a + 1 : Nat) : Int) = ((b + 1 : Nat) : Int) := e
    omega
  · intro a ha b hb e
    obtain ⟨i, _, rfl⟩ := List.mem_map.mp ha
    cases hb with
    | head =>
      have : ((i + 1 : Nat) : Int) = 0 := e
      omega
    | tail _ h => cases h
theorem valV_mem {k : Int} {v : Nat} : ∀ {cs : List (Int × Nat)}, (cs.map (·.1)).Nodup → (k, v) ∈ cs → valV (kvOf cs) (Sum.inl k : Key) = some (V.int (v : Nat))
  | p :: r, nd, h => by
    have nd' : (p.1 :: r.map (·.1)).Nodup := nd
    show valV ((((Sum.inl p.1 : Key), V.int (p.2 : Nat))) :: kvOf r) (Sum.inl k) = _
    cases h with
    | head => exact valV_pos (p := ((Sum.inl k : Key), V.int (v : Nat))) rfl
    | tail _ h =>
      have ne : ¬ p.1 = k := fun e => (List.nodup_cons.mp nd').1 (by rw [e]; exact List.mem_map.mpr ⟨(k, v), h, rfl⟩)
      rw [valV_neg (by intro e; cases e; exact ne rfl)]
      exact valV_mem (List.nodup_cons.mp nd').2 h
theorem ends_val {n s k : Nat} (hk : k < n) : valV (kvOf (endsL n s)) (Sum.inl (k : Int) : Key) = some (V.int (endOf n s k : Nat)) := by
  refine valV_mem (endsL_nodup n s) ?_
  unfold endsL endOf
  by_cases h : k = 0
  · rw [if_pos h, h]
    exact List.mem_append_right _ (List.mem_cons_self ..)
  · rw [if_neg h]
    refine List.mem_append_left _ (List.mem_map.mpr ⟨k - 1, List.mem_range.mpr (by omega), ?_⟩)
    have e : k - 1 + 1 = k := by omega
    rw [e]
def part (rs : List Row) : Nat → List Row
  | 0 => []
  | j + 1 => part rs j ++ rs.map (Row.re (endOf rs.length (j * rs.length)))
theorem part2 (rs : List Row) : part rs 2 = doubled rs := by
  show ([] ++ rs.map (Row.re (endOf rs.length (0 * rs.length)))) ++ rs.map (Row.re (endOf rs.length (1 * rs.length))) = doubled rs
  rw [List.nil_append, Nat.zero_mul, Nat.one_mul]
  rfl
/-- each row has numbers below n, and no key twice -/
def Row.low (n : Nat) : Row → Prop
  | .rest m => m < n
  | .ins m => m < n
  | .wr _ _ m => m < n
  | .rd _ cs m => (cs.map (·.1)).Nodup ∧ (∀ kv ∈ cs, kv.2 < n) ∧ m < n ∧ cs.length ≤ 10
def spDoubled : Sp := fun vs H Q _ => ∃ (l : Addr) (rs : List Row), vs = [.ref l] ∧ RowsAt H rs l ∧ 2 ≤ rs.length ∧ rs.length ≤ 1000 ∧ (∀ r ∈ rs, r.low rs.length) ∧
  ∀ (q : Addr) (H' : Hp), Same H H' → H q = none → RowsAt H' (doubled rs) q → Q (.ref q) H'
theorem RowsAt.same {H H' : Hp} {rs : List Row} {l : Addr} (h : RowsAt H rs l) (s : Same H H') : RowsAt H' rs l := by
  obtain ⟨as, h1, h2⟩ := h
  exact ⟨as, s _ _ h1, L2.Paired.mapP h2 fun a r e => e.mono (fun b xs x => s _ _ x) fun b xs x => s _ _ x⟩
theorem same_new {H : Hp} {q : Addr} {o : HO} (h : H q = none) : Same H (upd H q o) := fun b u e => by
  rw [upd_ne (ne_of_none e h)]
  exact e
theorem same_put {H H1 : Hp} {q : Addr} {o : HO} (g : Same H H1) (h : H q = none) : Same H (upd H1 q o) := fun b u e => by
  rw [upd_ne (ne_of_none e h)]
  exact g b u e
theorem same_tr {H H1 H2 : Hp} (a : Same H H1) (b : Same H1 H2) : Same H H2 := fun q o e => b q o (a q o e)
theorem dget_end {H : Hp} {d : Addr} {N S m : Nat} (h : H d = some (.dK (kvOf (endsL N S)))) (hm : m < N) : DGet H d (V.int (m : Nat)) (some (V.int (endOf N S m : Nat))) := by
  rw [← ends_val (s := S) hm]
  exact DGet.k (k := Sum.inl (m : Int)) h
theorem paired_at {α β : Type} {F : α → β → Prop} : ∀ {l : List α} {m : List β} {i : Nat} {a : α}, Paired F l m → l[i]? = some a → ∃ b, m[i]? = some b ∧ F a b
  | _, _, _, _, .nil, h => by simp at h
  | _, _, 0, _, .cons h t, e => ⟨_, rfl, by cases Option.some.inj e; exact h⟩
  | _, _, i + 1, _, .cons h t, e => paired_at (i := i) t e
theorem ix_tupK {X : Cx} {K : PySem.W.Frag} (e : X.K = K) : IxR X (rIxT K) := e ▸ ix_tup
theorem ix_listK {X : Cx} {K : PySem.W.Frag} (e : X.K = K) : IxR X (rIxL K) := e ▸ ix_list
section
variable {P : Program} {w : World} {K : PySem.W.Frag} {mg : Str → Option Value} {base : Heap}
theorem scDoubled : FnScope ["_law_rows_here", "_law_many", "_law_found", "_law_shift", "_law_ends", "_law_row", "_law_k", "_law_worth"] ["_law_rows_here"] (defScope sDoubled) := ⟨rfl, rfl, rfl, by decide +kernel, rfl, by decide +kernel, by decide +kernel⟩
theorem ok_doubled {f : Addr} {fd : FuncData} (F : Fun K "_law_doubled" "_law_doubled" sDoubled f fd) (tl : mg "len" = none) (tr : mg "range" = none) (td : mg "dict" = none) :
    FnOk P w K mg base CX0 1 f fd ["_law_rows_here"] spDoubled := by
  refine F.ok scDoubled (fun vs H Q E h => ?_) (fun cdv A outer s H vs Q E hr h => ?_)
  · obtain ⟨l, rs, rfl, _⟩ := h
    rfl
  · obtain ⟨l, rs, rfl, hl, n2, n3, low, k⟩ := h
    have hu := hu_of hr
    refine ⟨_, pss_cons (ps_par (i := 1) (j := 2) (by rfl) scDoubled.nd rfl rfl (by decide) rfl rfl (pa_cons (pe_callB call_len_seq (by rfl) tl PySem.boot_len (pa_cons (pv 0) pa_nil)) (pa_cons (pe_lst pa_nil) pa_nil)) (by rfl))
      (pss_cons (ps_for PassesOwn.never rfl (pi_tup (pe_tup (pa_cons pe_int (pa_cons (pv 1) pa_nil)))) (pg_name (i := 3) scDoubled.nd rfl (Or.inr rfl))
        (pss_cons (ps_set (i := 4) scDoubled.nd rfl (Or.inr rfl) (pe_callTy (call_dictP rfl) (by rfl) td (by decide +kernel) (pa_cons (pe_op op_cat
          (pe_lc (own := [("_law_k", 6)]) (g := gName 6) (by rfl) scDoubled.nd (pi_range2 (by rfl) tr (pa_cons pe_int (pa_cons (pv 1) pa_nil))) (blkOk_by (own := [("_law_k", 6)]) (N := ["_law_rows_here", "_law_many", "_law_found", "_law_shift", "_law_ends", "_law_row", "_law_k", "_law_worth"]) (sc := defScope sDoubled) (by decide +kernel)) (fun _ _ _ _ _ => pg_name (i := 6) scDoubled.nd rfl (Or.inl rfl)) (fun _ _ _ _ _ => pts_nil)
            (fun _ _ _ _ _ => pe_tup (pa_cons (pv 6) (pa_cons (pe_op op_add (pv 6) (pv 3)) pa_nil))))
          (pe_lst (pa_cons (pe_tup (pa_cons pe_int (pa_cons (pe_op op_sub (pv 1) (pv 3)) pa_nil))) pa_nil))) pa_nil)))
        (pss_one (ps_for PassesOwn.never rfl (pi_list (pv 0)) (pg_name (i := 5) scDoubled.nd rfl (Or.inr rfl))
          (pss_cons (ps_set (i := 5) scDoubled.nd rfl (Or.inr rfl) (pe_op op_catT (pe_slice sl_tup (pv 5) po_none (po_some (pe_un un_neg pe_int))) (pe_tup (pa_cons (pe_dget hu (pv 4) (pe_ix ix_tup (pv 5) (pe_un un_neg pe_int) (fun _ _ => rfl)) (fun _ _ => rfl)) pa_nil))))
          (pss_cons (ps_if (pt_cmpR op_eq (pe_ix ix_tup (pv 5) pe_int (fun _ _ => rfl)) pe_str (nomark _))
            (pss_one (ps_set (i := 5) scDoubled.nd rfl (Or.inr rfl) (pe_tup (pa_cons (pe_ix ix_tup (pv 5) pe_int (fun _ _ => rfl)) (pa_cons (pe_ix ix_tup (pv 5) pe_int (fun _ _ => rfl)) (pa_cons (pe_callTy (call_dictP rfl) (by rfl) td (by decide +kernel) (pa_cons
              (pe_lock (pe_lc (own := [("_law_worth", 7)]) (g := gName 7) (by rfl) scDoubled.nd (pi_keys (pe_ix ix_tup (pv 5) pe_int (fun _ _ => rfl))) (blkOk_by (own := [("_law_worth", 7)]) (N := ["_law_rows_here", "_law_many", "_law_found", "_law_shift", "_law_ends", "_law_row", "_law_k", "_law_worth"]) (sc := defScope sDoubled) (by decide +kernel)) (fun _ _ _ _ _ => pg_name (i := 7) scDoubled.nd rfl (Or.inl rfl)) (fun _ _ _ _ _ => pts_nil)
                (fun _ _ _ _ _ => pe_tup (pa_cons (pv 7) (pa_cons (pe_dget hu (pv 4) (pe_dget hu (pe_ix (ix_tupK (K := K) rfl) (pv 5) pe_int (fun _ _ => rfl)) (pv 7) (fun _ _ => rfl)) (fun _ _ => rfl)) pa_nil))))) pa_nil)) (pa_cons (pe_ix ix_tup (pv 5) pe_int (fun _ _ => rfl)) pa_nil))))))) pss_nil)
          (pss_one (ps_expr (pe_bm PySem.F.plainAttrs_list PySem.F.slot_list_append PySem.F.type_list_append mt_append (pv 2) (pa_cons (pv 5) pa_nil))))))))))
      (pss_one (ps_ret (pv 2)))), ?_⟩
    obtain ⟨as, ha1, ha2⟩ := id hl
    have asl : as.length = rs.length := ha2.length
    obtain ⟨N, hN⟩ : ∃ N, N = rs.length := ⟨_, rfl⟩
    refine ⟨_, rfl, l, _, rfl, .inl (SqL.of ha1), Nat.zero_le _, fun q hq => ⟨_, _, rfl, ?_⟩⟩
    rw [List.length_map, asl, ← hN]
    refine ⟨_, rfl, (by show 2 ≤ sizeLine; decide), fun t ht => ⟨t, rfl, ⟨_, SqT.of upd_same⟩, ?_⟩⟩
    have sq : Same H (upd H q (.lst [])) := same_new hq
    have st : Same H (upd (upd H q (.lst [])) t (.tup [V.int 0, V.int (N : Nat)])) := same_tr sq (same_new ht)
    have tq : q ≠ t := ne_of_none upd_same ht
    refine for_tup (K := K) (a := t) (xs := [V.int 0, V.int (N : Nat)]) (fun j σ H2 => ∃ v3 v4 v5, σ = [some (.ref l), some (.int (N : Nat)), some (.ref q), v3, v4, v5, none, none] ∧ H2 t = some (.tup [V.int 0, V.int (N : Nat)]) ∧ RowsAt H2 (part rs j) q ∧ Same H H2)
      ⟨none, none, none, rfl, upd_same, ⟨[], (by rw [upd_ne tq, upd_same]; rfl), .nil⟩, st⟩ (fun i σ H2 _ ⟨_, _, _, _, e, _⟩ => SqT.of e) ?_ ?_
    · rintro j y σ H2 hj ⟨v3, v4, v5, rfl, ht2, hq2, s2⟩
      obtain ⟨hj2, rfl⟩ : j < 2 ∧ y = V.int (j * N : Nat) := by
        match j, hj with
        | 0, e => exact ⟨by decide, by rw [Nat.zero_mul]; exact (Option.some.inj e).symm⟩
        | 1, e => exact ⟨by decide, by rw [Nat.one_mul]; exact (Option.some.inj e).symm⟩
      obtain ⟨S, hS⟩ : ∃ S, S = j * N := ⟨_, rfl⟩
      rw [← hS]
      have S0 : S ≤ N := by
        match j, hj2 with
        | 0, _ => omega
        | 1, _ => omega
      refine ⟨_, rfl, 1, (N : Int), rfl, ⟨by decide, by decide, by omega, by omega⟩, fun D hD => ?_⟩
      have eN : ((N : Int) - 1).toNat = N - 1 := by omega
      rw [eN]
      refine lc_range (lo := 1) (n := N - 1) (fun i H3 => ∃ ts : List Addr, H3 D = some (.lst (ts.map V.ref)) ∧ Paired (fun t (kv : Int × Nat) => H3 t = some (.tup [V.int kv.1, V.int (kv.2 : Nat)])) ts (endsTo S i) ∧ Same H2 H3)
        ⟨[], upd_same, .nil, same_new hD⟩ ?_ ?_
      · rintro i H3 hi ⟨ts, hD3, hp3, s3⟩
        have len : ts.length = i := by
          have h1 := hp3.length
          unfold endsTo at h1
          rw [List.length_map, List.length_range] at h1
          exact h1
        refine ⟨rfl, tyes_if ?_⟩
        refine ⟨_, rfl, _, rfl, _, rfl, _, _, rfl, rfl, (by show 2 ≤ sizeLine; decide), fun t1 ht1 => ?_⟩
        have ntD : D ≠ t1 := ne_of_none hD3 ht1
        refine ⟨ts.map V.ref, by rw [upd_ne ntD]; exact hD3, small (by rw [List.length_map]; omega), ts ++ [t1], ?_, ?_, ?_⟩
        · rw [upd_same, List.map_append]
          rfl
        · rw [endsTo_succ]
          refine Paired.snoc (L2.Paired.mapP hp3 fun b kv hb => ?_) ?_
          · rw [upd_ne (ne_of hb hD3 (by intro z; cases z)), upd_ne (ne_of_none hb ht1)]
            exact hb
          · rw [upd_ne ntD.symm, upd_same]
            show some (HO.tup [V.int (1 + (i : Int)), V.int (1 + (i : Int) + (S : Nat))]) = some (HO.tup [V.int ((i + 1 : Nat) : Int), V.int ((i + 1 + S : Nat) : Int)])
            rw [show (1 + (i : Int)) = ((i + 1 : Nat) : Int) by omega, show (((i + 1 : Nat) : Int) + (S : Nat)) = ((i + 1 + S : Nat) : Int) by omega]
        · exact same_put (same_tr s3 (same_new ht1)) hD
      · rintro H3 ⟨ts, hD3, hp3, s3⟩
        refine ⟨_, rfl, _, rfl, _, _, rfl, rfl, (by show 2 ≤ sizeLine; decide), fun t0 ht0 => ⟨(by show 1 ≤ sizeLine; decide), fun B hB => ?_⟩⟩
        have hD4 : (upd (upd H3 t0 (.tup [V.int 0, V.int ((N : Int) - (S : Nat))])) B (.lst [V.ref t0])) D = some (.lst (ts.map V.ref)) := by
          have x : (upd H3 t0 (.tup [V.int 0, V.int ((N : Int) - (S : Nat))])) D = some (.lst (ts.map V.ref)) := by
            rw [upd_ne (ne_of_none hD3 ht0)]
            exact hD3
          rw [upd_ne (ne_of_none x hB)]
          exact x
        refine ⟨D, B, ts.map V.ref, [V.ref t0], rfl, rfl, hD4, upd_same, ?_, fun C hC => ?_⟩
        · have := hp3.length
          unfold endsTo at this
          rw [List.length_map, List.length_range] at this
          rw [List.length_map, this]
          exact Nat.le_of_lt (small (show N - 1 + 1 < 1000000 by omega))
        have e0 : ((N : Int) - (S : Nat)) = ((N - S : Nat) : Int) := by omega
        have hC4 : (upd (upd (upd H3 t0 (.tup [V.int 0, V.int ((N : Int) - (S : Nat))])) B (.lst [V.ref t0])) C (.lst (ts.map V.ref ++ [V.ref t0]))) C = some (.lst ((ts ++ [t0]).map V.ref)) := by
          rw [upd_same, List.map_append]
          rfl
        have hp4 : Paired (fun p (kv : Int × Nat) => SqT K (upd (upd (upd H3 t0 (.tup [V.int 0, V.int ((N : Int) - (S : Nat))])) B (.lst [V.ref t0])) C (.lst (ts.map V.ref ++ [V.ref t0]))) p [V.int kv.1, V.int (kv.2 : Nat)]) (ts ++ [t0]) (endsL N S) := by
          unfold endsL
          have nB : ∀ b xs, H3 b = some (.tup xs) → (upd (upd (upd H3 t0 (.tup [V.int 0, V.int ((N : Int) - (S : Nat))])) B (.lst [V.ref t0])) C (.lst (ts.map V.ref ++ [V.ref t0]))) b = some (.tup xs) := fun b xs hb => by
            have x1 : (upd H3 t0 (.tup [V.int 0, V.int ((N : Int) - (S : Nat))])) b = some (.tup xs) := by
              rw [upd_ne (ne_of_none hb ht0)]
              exact hb
            have x2 : (upd (upd H3 t0 (.tup [V.int 0, V.int ((N : Int) - (S : Nat))])) B (.lst [V.ref t0])) b = some (.tup xs) := by
              rw [upd_ne (ne_of_none x1 hB)]
              exact x1
            rw [upd_ne (ne_of_none x2 hC)]
            exact x2
          refine Paired.snoc (L2.Paired.mapP hp3 fun b kv hb => SqT.of (nB _ _ hb)) (SqT.of ?_)
          have x1 : (upd H3 t0 (.tup [V.int 0, V.int ((N : Int) - (S : Nat))])) t0 = some (.tup [V.int 0, V.int ((N : Int) - (S : Nat))]) := upd_same
          have x2 : (upd (upd H3 t0 (.tup [V.int 0, V.int ((N : Int) - (S : Nat))])) B (.lst [V.ref t0])) t0 = some (.tup [V.int 0, V.int ((N : Int) - (S : Nat))]) := by
            rw [upd_ne (ne_of_none x1 hB)]
            exact x1
          rw [upd_ne (ne_of_none x2 hC), x2, e0]
        refine ⟨C, ts ++ [t0], kvOf (endsL N S), rfl, SqL.of hC4, paired_map hp4, fun d hd => ?_⟩
        have em : mergeK [] (kvOf (endsL N S)) = kvOf (endsL N S) := merge_kv (endsL N S) [] (endsL_nodup N S)
        rw [em]
        have d0 : H d = none := (same_tr s2 (same_tr (same_tr (same_tr s3 (same_new ht0)) (same_new hB)) (same_new hC))).free hd
        have s6 : Same H2 (upd (upd (upd (upd H3 t0 (.tup [V.int 0, V.int ((N : Int) - (S : Nat))])) B (.lst [V.ref t0])) C (.lst (ts.map V.ref ++ [V.ref t0]))) d (.dK (kvOf (endsL N S)))) := same_tr (same_tr (same_tr (same_tr s3 (same_new ht0)) (same_new hB)) (same_new hC)) (same_new hd)
        have d6 : (upd (upd (upd (upd H3 t0 (.tup [V.int 0, V.int ((N : Int) - (S : Nat))])) B (.lst [V.ref t0])) C (.lst (ts.map V.ref ++ [V.ref t0]))) d (.dK (kvOf (endsL N S)))) d = some (.dK (kvOf (endsL N S))) := upd_same
        revert s6 d6
        generalize (upd (upd (upd (upd H3 t0 (.tup [V.int 0, V.int ((N : Int) - (S : Nat))])) B (.lst [V.ref t0])) C (.lst (ts.map V.ref ++ [V.ref t0]))) d (.dK (kvOf (endsL N S)))) = H6
        intro s6 d6
        refine ⟨_, rfl, l, rfl, ⟨_, SqL.of (s6 _ _ (s2 _ _ ha1))⟩, for_list (K := K) (a := l) (xs := as.map V.ref) (fun i σ H7 => ∃ v5, σ = [some (.ref l), some (.int (N : Nat)), some (.ref q), some (.int (S : Nat)), some (.ref d), v5, none, none] ∧ H7 d = some (.dK (kvOf (endsL N S))) ∧ H7 t = some (.tup [V.int 0, V.int (N : Nat)]) ∧ RowsAt H7 (part rs j ++ (rs.take i).map (Row.re (endOf N S))) q ∧ Same H H7)
          ⟨v5, rfl, d6, s6 _ _ ht2, (by rw [List.take_zero, List.map_nil, List.append_nil]; exact hq2.same s6), same_tr s2 s6⟩ (fun i σ H7 _ ⟨_, _, _, _, _, s7⟩ => SqL.of (s7 _ _ ha1)) ?_ ?_⟩
        · rintro i y σ H7 hi ⟨w5, rfl, d7, t7, q7, s7⟩
          rw [List.getElem?_map] at hi
          obtain ⟨a, hia, rfl⟩ : ∃ a, as[i]? = some a ∧ y = V.ref a := by
            cases e : as[i]? with
            | none =>
              rw [e] at hi
              cases hi
            | some z =>
              rw [e] at hi
              exact ⟨z, rfl, (Option.some.inj hi).symm⟩
          obtain ⟨r, hir, hraH⟩ := paired_at ha2 hia
          have hra : RowAt H7 r a := hraH.mono (fun b xs x => s7 _ _ x) fun b xs x => s7 _ _ x
          have rlow := low r (List.mem_of_getElem? hir)
          rw [← hN] at rlow
          obtain ⟨bs, hb1, hb2⟩ := id q7
          have bl : bs.length ≤ 3000 := by
            have h1 := hb2.length
            have h2 : (part rs j).length ≤ 2 * rs.length := by
              match j, hj2 with
              | 0, _ => exact Nat.zero_le _
              | 1, _ =>
                show ([] ++ rs.map _).length ≤ _
                rw [List.nil_append, List.length_map]
                omega
            rw [List.length_append, List.length_map, List.length_take] at h1
            omega
          have tk : rs.take (i + 1) = rs.take i ++ [r] := by rw [List.take_add_one, hir]; rfl
          have fin : ∀ (b : Addr) (H8 : Hp), RowAt H8 (r.re (endOf N S)) b → Same H7 H8 → H8 q = some (.lst (bs.map V.ref)) ∧ (bs.map V.ref).length < sizeLine ∧ (upd H8 q (.lst (bs.map V.ref ++ [V.ref b]))) d = some (.dK (kvOf (endsL N S))) ∧ (upd H8 q (.lst (bs.map V.ref ++ [V.ref b]))) t = some (.tup [V.int 0, V.int (N : Nat)]) ∧
              RowsAt (upd H8 q (.lst (bs.map V.ref ++ [V.ref b]))) (part rs j ++ (rs.take (i + 1)).map (Row.re (endOf N S))) q ∧ Same H (upd H8 q (.lst (bs.map V.ref ++ [V.ref b]))) := by
            intro b H8 hb8 s8
            have q8 := s8 _ _ hb1
            have e := RowsAt.add q8 (L2.Paired.mapP hb2 fun a r e => e.mono (fun b xs x => s8 _ _ x) fun b xs x => s8 _ _ x) hb8
            rw [List.append_assoc] at e
            refine ⟨q8, small (by rw [List.length_map]; omega), ?_, ?_, ?_, same_put (same_tr s7 s8) hq⟩
            · rw [upd_ne (ne_of (s8 _ _ d7) q8 (by intro z; cases z))]
              exact s8 _ _ d7
            · rw [upd_ne (ne_of (s8 _ _ t7) q8 (by intro z; cases z))]
              exact s8 _ _ t7
            · rw [tk, List.map_append]
              exact e
          cases r with
          | rest m =>
            refine ⟨_, rfl, _, rfl, _, rfl, a, _, rfl, SqT.of hra, (by show ¬ (0 = 0 ∧ 1 = 2); decide), fun b hb => ?_⟩
            rw [show cutV [V.str "rest", V.int (m : Nat)] none (some (-1)) = [V.str "rest"] from rfl]
            have s8 : Same H7 (upd H7 b (.tup [V.str "rest"])) := same_new hb
            have b8 : (upd H7 b (.tup [V.str "rest"])) b = some (.tup [V.str "rest"]) := upd_same
            revert s8 b8
            generalize (upd H7 b (.tup [V.str "rest"])) = H8
            intro s8 b8
            refine ⟨_, rfl, _, rfl, _, rfl, a, _, _, _, rfl, rfl, SqT.of (s8 _ _ hra), rfl, d, _, rfl, dget_end (s8 _ _ d7) rlow, (by show 1 ≤ sizeLine; decide), fun c hc => ?_⟩
            refine ⟨b, c, _, _, rfl, rfl, SqT.of (by rw [upd_ne (ne_of_none b8 hc)]; exact b8), SqT.of upd_same, (by intro z; cases z), (by show 2 ≤ sizeLine; decide), (by intro z; cases z), fun _ y hy => ?_⟩
            have s9 := same_tr (same_tr s8 (same_new (o := .tup [V.int (endOf N S m : Nat)]) hc)) (same_new (o := .tup ([V.str "rest"] ++ [V.int (endOf N S m : Nat)])) hy)
            have y9 : (upd (upd H8 c (.tup [V.int (endOf N S m : Nat)])) y (.tup ([V.str "rest"] ++ [V.int (endOf N S m : Nat)]))) y = some (.tup ([V.str "rest"] ++ [V.int (endOf N S m : Nat)])) := upd_same
            revert s9 y9
            generalize (upd (upd H8 c (.tup [V.int (endOf N S m : Nat)])) y (.tup ([V.str "rest"] ++ [V.int (endOf N S m : Nat)]))) = H9
            intro s9 y9
            refine ⟨_, rfl, y, _, _, _, rfl, rfl, SqT.of y9, rfl, rfl, _, rfl, ?_⟩
            refine ite_no (decide_eq_false (by intro z; cases z)) ?_
            obtain ⟨f1, f2, f3, f4, f5, f6⟩ := fin y H9 y9 s9
            exact ⟨_, rfl, .inl ⟨rfl, _, Or.inl (Or.inl f1)⟩, _, rfl, q, _, _, rfl, rfl, f1, f2, _, rfl, f3, f4, f5, f6⟩
          | ins m =>
            refine ⟨_, rfl, _, rfl, _, rfl, a, _, rfl, SqT.of hra, (by show ¬ (0 = 0 ∧ 1 = 2); decide), fun b hb => ?_⟩
            rw [show cutV [V.str "inside", V.int (m : Nat)] none (some (-1)) = [V.str "inside"] from rfl]
            have s8 : Same H7 (upd H7 b (.tup [V.str "inside"])) := same_new hb
            have b8 : (upd H7 b (.tup [V.str "inside"])) b = some (.tup [V.str "inside"]) := upd_same
            revert s8 b8
            generalize (upd H7 b (.tup [V.str "inside"])) = H8
            intro s8 b8
            refine ⟨_, rfl, _, rfl, _, rfl, a, _, _, _, rfl, rfl, SqT.of (s8 _ _ hra), rfl, d, _, rfl, dget_end (s8 _ _ d7) rlow, (by show 1 ≤ sizeLine; decide), fun c hc => ?_⟩
            refine ⟨b, c, _, _, rfl, rfl, SqT.of (by rw [upd_ne (ne_of_none b8 hc)]; exact b8), SqT.of upd_same, (by intro z; cases z), (by show 2 ≤ sizeLine; decide), (by intro z; cases z), fun _ y hy => ?_⟩
            have s9 := same_tr (same_tr s8 (same_new (o := .tup [V.int (endOf N S m : Nat)]) hc)) (same_new (o := .tup ([V.str "inside"] ++ [V.int (endOf N S m : Nat)])) hy)
            have y9 : (upd (upd H8 c (.tup [V.int (endOf N S m : Nat)])) y (.tup ([V.str "inside"] ++ [V.int (endOf N S m : Nat)]))) y = some (.tup ([V.str "inside"] ++ [V.int (endOf N S m : Nat)])) := upd_same
            revert s9 y9
            generalize (upd (upd H8 c (.tup [V.int (endOf N S m : Nat)])) y (.tup ([V.str "inside"] ++ [V.int (endOf N S m : Nat)]))) = H9
            intro s9 y9
            refine ⟨_, rfl, y, _, _, _, rfl, rfl, SqT.of y9, rfl, rfl, _, rfl, ?_⟩
            refine ite_no (decide_eq_false (by intro z; cases z)) ?_
            obtain ⟨f1, f2, f3, f4, f5, f6⟩ := fin y H9 y9 s9
            exact ⟨_, rfl, .inl ⟨rfl, _, Or.inl (Or.inl f1)⟩, _, rfl, q, _, _, rfl, rfl, f1, f2, _, rfl, f3, f4, f5, f6⟩
          | wr x v m =>
            refine ⟨_, rfl, _, rfl, _, rfl, a, _, rfl, SqT.of hra, (by show ¬ (0 = 0 ∧ 3 = 4); decide), fun b hb => ?_⟩
            rw [show cutV [V.str "write", V.str x, V.int v, V.int (m : Nat)] none (some (-1)) = [V.str "write", V.str x, V.int v] from rfl]
            have s8 : Same H7 (upd H7 b (.tup [V.str "write", V.str x, V.int v])) := same_new hb
            have b8 : (upd H7 b (.tup [V.str "write", V.str x, V.int v])) b = some (.tup [V.str "write", V.str x, V.int v]) := upd_same
            revert s8 b8
            generalize (upd H7 b (.tup [V.str "write", V.str x, V.int v])) = H8
            intro s8 b8
            refine ⟨_, rfl, _, rfl, _, rfl, a, _, _, _, rfl, rfl, SqT.of (s8 _ _ hra), rfl, d, _, rfl, dget_end (s8 _ _ d7) rlow, (by show 1 ≤ sizeLine; decide), fun c hc => ?_⟩
            refine ⟨b, c, _, _, rfl, rfl, SqT.of (by rw [upd_ne (ne_of_none b8 hc)]; exact b8), SqT.of upd_same, (by intro z; cases z), (by show 4 ≤ sizeLine; decide), (by intro z; cases z), fun _ y hy => ?_⟩
            have s9 := same_tr (same_tr s8 (same_new (o := .tup [V.int (endOf N S m : Nat)]) hc)) (same_new (o := .tup ([V.str "write", V.str x, V.int v] ++ [V.int (endOf N S m : Nat)])) hy)
            have y9 : (upd (upd H8 c (.tup [V.int (endOf N S m : Nat)])) y (.tup ([V.str "write", V.str x, V.int v] ++ [V.int (endOf N S m : Nat)]))) y = some (.tup ([V.str "write", V.str x, V.int v] ++ [V.int (endOf N S m : Nat)])) := upd_same
            revert s9 y9
            generalize (upd (upd H8 c (.tup [V.int (endOf N S m : Nat)])) y (.tup ([V.str "write", V.str x, V.int v] ++ [V.int (endOf N S m : Nat)]))) = H9
            intro s9 y9
            refine ⟨_, rfl, y, _, _, _, rfl, rfl, SqT.of y9, rfl, rfl, _, rfl, ?_⟩
            refine ite_no (decide_eq_false (by intro z; cases z)) ?_
            obtain ⟨f1, f2, f3, f4, f5, f6⟩ := fin y H9 y9 s9
            exact ⟨_, rfl, .inl ⟨rfl, _, Or.inl (Or.inl f1)⟩, _, rfl, q, _, _, rfl, rfl, f1, f2, _, rfl, f3, f4, f5, f6⟩
          | rd x cs m =>
            obtain ⟨dd, hH1, hH2⟩ := hraH
            have hr1 := s7 _ _ hH1
            have hr2 := s7 _ _ hH2
            refine ⟨_, rfl, _, rfl, _, rfl, a, _, rfl, SqT.of hr1, (by show ¬ (0 = 0 ∧ 3 = 4); decide), fun b hb => ?_⟩
            rw [show cutV [V.str "read", V.str x, V.ref dd, V.int (m : Nat)] none (some (-1)) = [V.str "read", V.str x, V.ref dd] from rfl]
            have s8 : Same H7 (upd H7 b (.tup [V.str "read", V.str x, V.ref dd])) := same_new hb
            have b8 : (upd H7 b (.tup [V.str "read", V.str x, V.ref dd])) b = some (.tup [V.str "read", V.str x, V.ref dd]) := upd_same
            revert s8 b8
            generalize (upd H7 b (.tup [V.str "read", V.str x, V.ref dd])) = H8
            intro s8 b8
            refine ⟨_, rfl, _, rfl, _, rfl, a, _, _, _, rfl, rfl, SqT.of (s8 _ _ hr1), rfl, d, _, rfl, dget_end (s8 _ _ d7) rlow.2.2.1, (by show 1 ≤ sizeLine; decide), fun c hc => ?_⟩
            refine ⟨b, c, _, _, rfl, rfl, SqT.of (by rw [upd_ne (ne_of_none b8 hc)]; exact b8), SqT.of upd_same, (by intro z; cases z), (by show 4 ≤ sizeLine; decide), (by intro z; cases z), fun _ y hy => ?_⟩
            have s9 := same_tr (same_tr s8 (same_new (o := .tup [V.int (endOf N S m : Nat)]) hc)) (same_new (o := .tup ([V.str "read", V.str x, V.ref dd] ++ [V.int (endOf N S m : Nat)])) hy)
            have y9 : (upd (upd H8 c (.tup [V.int (endOf N S m : Nat)])) y (.tup ([V.str "read", V.str x, V.ref dd] ++ [V.int (endOf N S m : Nat)]))) y = some (.tup ([V.str "read", V.str x, V.ref dd] ++ [V.int (endOf N S m : Nat)])) := upd_same
            revert s9 y9
            generalize (upd (upd H8 c (.tup [V.int (endOf N S m : Nat)])) y (.tup ([V.str "read", V.str x, V.ref dd] ++ [V.int (endOf N S m : Nat)]))) = H9
            intro s9 y9
            refine ⟨_, rfl, y, _, _, _, rfl, rfl, SqT.of y9, rfl, rfl, _, rfl, ?_⟩
            refine ite_yes (decide_eq_true rfl) ?_
            have dd9 := s9 _ _ hr2
            have d9 := s9 _ _ d7
            have nyd : y ≠ dd := ne_of y9 dd9 (by intro z; cases z)
            refine ⟨_, rfl, y, _, _, _, rfl, rfl, SqT.of y9, rfl, _, rfl, y, _, _, _, rfl, rfl, SqT.of y9, rfl, dd, _, dd9, trivial, fun od => ?_⟩
            obtain ⟨ndk, lowk, mN, cl10⟩ := rlow
            have yL : (upd H9 dd (.frz od (.dK (kvOf cs)))) y = some (.tup [V.str "read", V.str x, V.ref dd, V.int (endOf N S m : Nat)]) := by
              rw [upd_ne nyd]
              exact y9
            have dL : (upd H9 dd (.frz od (.dK (kvOf cs)))) dd = some (.frz od (.dK (kvOf cs))) := upd_same
            have eL : d ≠ dd → (upd H9 dd (.frz od (.dK (kvOf cs)))) d = some (.dK (kvOf (endsL N S))) := fun n => by
              rw [upd_ne n]
              exact d9
            have ndd : d ≠ dd := fun z => by
              rw [z, hH2] at d0
              cases d0
            have eL := eL ndd
            have oL : ∀ b o, H9 b = some o → b ≠ dd → (upd H9 dd (.frz od (.dK (kvOf cs)))) b = some o := fun b o e n => by
              rw [upd_ne n]
              exact e
            have nL : ∀ b, (upd H9 dd (.frz od (.dK (kvOf cs)))) b = none → H9 b = none := fun b e => by
              by_cases n : b = dd
              · rw [n, dL] at e
                cases e
              · rw [upd_ne n] at e
                exact e
            revert yL dL eL oL nL
            generalize (upd H9 dd (.frz od (.dK (kvOf cs)))) = HL
            intro yL dL eL oL nL
            refine ⟨_, rfl, y, _, _, _, rfl, rfl, SqT.of yL, rfl, dd, od, rfl, .inl ⟨_, dL, fun D2 hD2 => ?_⟩⟩
            refine lc_it (walk_keys (d := dd) (o := od) (kvs := kvOf cs)) (fun i H => ∃ ts : List Addr, H D2 = some (.lst (ts.map V.ref)) ∧ Paired (fun t (kv : Int × Nat) => H t = some (.tup [V.int kv.1, V.int (kv.2 : Nat)])) ts ((cs.take i).map fun (kv : Int × Nat) => (kv.1, endOf N S kv.2)) ∧ Same HL H)
              ⟨[], upd_same, .nil, same_new hD2⟩ (fun i H _ ⟨_, _, _, e⟩ => e _ _ dL) ?_ ?_
            · rintro i x0 Ha Hb hi ⟨us, hDa, hpa, sa⟩ ⟨rfl, k0, v0, hk0, rfl⟩
              obtain ⟨kv, hkv, hkk⟩ : ∃ kv, cs[i]? = some kv ∧ k0 = Sum.inl kv.1 := by
                unfold kvOf at hk0
                rw [List.getElem?_map] at hk0
                cases e : cs[i]? with
                | none =>
                  rw [e] at hk0
                  cases hk0
                | some z =>
                  rw [e] at hk0
                  cases hk0
                  exact ⟨z, rfl, rfl⟩
              subst hkk
              have hmem := List.mem_of_getElem? hkv
              have ul : us.length = i := by
                have h1 := hpa.length
                have h2 := (List.getElem?_eq_some_iff.mp hkv).1
                rw [List.length_map, List.length_take] at h1
                omega
              have il := (List.getElem?_eq_some_iff.mp hkv).1
              refine ⟨rfl, tyes_if ?_⟩
              refine ⟨_, rfl, _, rfl, _, rfl, y, _, _, _, rfl, rfl, SqT.of (sa _ _ yL), rfl, _, rfl, dd, _, rfl, .inl ⟨kvOf cs, Sum.inl kv.1, .inr ⟨od, sa _ _ dL⟩, rfl, (valV_mem (v := kv.2) ndk hmem).symm⟩, d, _, rfl, dget_end (sa _ _ eL) (lowk kv hmem), (by show 2 ≤ sizeLine; decide), fun t1 ht1 => ?_⟩
              have ntD : D2 ≠ t1 := ne_of_none hDa ht1
              refine ⟨us.map V.ref, by rw [upd_ne ntD]; exact hDa, small (by rw [List.length_map]; omega), us ++ [t1], ?_, ?_, same_put (same_tr sa (same_new ht1)) hD2⟩
              · rw [upd_same, List.map_append]
                rfl
              · have tk2 : cs.take (i + 1) = cs.take i ++ [kv] := by rw [List.take_add_one, hkv]; rfl
                rw [tk2, List.map_append]
                refine Paired.snoc (L2.Paired.mapP hpa fun b kv hb => ?_) ?_
                · rw [upd_ne (ne_of hb hDa (by intro z; cases z)), upd_ne (ne_of_none hb ht1)]
                  exact hb
                · rw [upd_ne ntD.symm, upd_same]
                  rfl
            · rintro Ha ⟨us, hDa, hpa, sa⟩
              have kl : (kvOf cs).length = cs.length := by
                unfold kvOf
                rw [List.length_map]
              rw [kl, List.take_length] at hpa
              refine ⟨sa _ _ dL, ?_⟩
              have nDd : D2 ≠ dd := ne_of hDa (sa _ _ dL) (by intro z; cases z)
              have sU : Same H9 (upd Ha dd (.dK (kvOf cs))) := fun b o e => by
                by_cases n : b = dd
                · subst n
                  rw [dd9] at e
                  rw [upd_same, e]
                · rw [upd_ne n]
                  exact sa _ _ (oL _ _ e n)
              have hDU : (upd Ha dd (.dK (kvOf cs))) D2 = some (.lst (us.map V.ref)) := by
                rw [upd_ne nDd]
                exact hDa
              have hpU := L2.Paired.mapP (G := fun t (kv : Int × Nat) => SqT K (upd Ha dd (.dK (kvOf cs))) t [V.int kv.1, V.int (kv.2 : Nat)]) hpa fun b kv hb => SqT.of (by
                rw [upd_ne (ne_of hb (sa _ _ dL) (by intro z; cases z))]
                exact hb)
              revert sU hDU hpU
              generalize (upd Ha dd (.dK (kvOf cs))) = HU
              intro sU hDU hpU
              refine ⟨D2, us, kvOf (cs.map fun (kv : Int × Nat) => (kv.1, endOf N S kv.2)), rfl, SqL.of hDU, paired_map hpU, fun p hp => ?_⟩
              have nd2 : ((cs.map fun (kv : Int × Nat) => (kv.1, endOf N S kv.2)).map (·.1)).Nodup := by
                rw [List.map_map]
                exact ndk
              have em2 : mergeK [] (kvOf (cs.map fun (kv : Int × Nat) => (kv.1, endOf N S kv.2))) = kvOf (cs.map fun (kv : Int × Nat) => (kv.1, endOf N S kv.2)) := merge_kv (cs.map fun (kv : Int × Nat) => (kv.1, endOf N S kv.2)) [] nd2
              rw [em2]
              have sV := same_tr sU (same_new (o := .dK (kvOf (cs.map fun (kv : Int × Nat) => (kv.1, endOf N S kv.2)))) hp)
              refine ⟨_, rfl, y, _, _, _, rfl, rfl, SqT.of (sV _ _ y9), rfl, (by show 4 ≤ sizeLine; decide), fun z hz => ?_⟩
              obtain ⟨f1, f2, f3, f4, f5, f6⟩ := fin z _ ⟨p, upd_same, by rw [upd_ne (ne_of_none upd_same hz), upd_same]⟩ (same_tr s9 (same_tr sV (same_new hz)))
              exact ⟨_, rfl, .inl ⟨rfl, _, Or.inl (Or.inl f1)⟩, _, rfl, q, _, _, rfl, rfl, f1, f2, _, rfl, f3, f4, f5, f6⟩
        · rintro σ H7 ⟨w5, rfl, d7, t7, q7, s7⟩
          rw [List.length_map, asl, List.take_length] at q7
          exact ⟨_, _, _, rfl, t7, by rw [hN] at q7; rw [hS, hN] at q7; exact q7, s7⟩
    · rintro σ H2 ⟨v3, v4, v5, rfl, ht2, hq2, s2⟩
      have hq3 : RowsAt H2 (part rs 2) q := hq2
      rw [part2] at hq3
      exact ⟨_, rfl, k q H2 s2 hq hq3⟩
end
end CC

set_option Elab.async false
set_option maxRecDepth 100000
namespace CC
open PySem L2
set_option linter.unusedVariables false
theorem RowsAt.put {H : Hp} {rs : List Row} {l q : Addr} {xs ys : List V} (h : RowsAt H rs l) (hq : H q = some (.lst xs)) (n : q ≠ l) : RowsAt (upd H q (.lst ys)) rs l := by
  obtain ⟨as, h1, h2⟩ := h
  exact ⟨as, by rw [upd_ne n.symm]; exact h1, L2.Paired.mapP h2 fun a r e => e.put hq⟩
abbrev sThreads : Stmt := top 52
/-- the rows of a drawn program -/
def Thr (most : Nat) (cells : List Str) (rs : List Row) : Prop := ∃ (ahead behind : Nat) (ts : List Row), ahead ≤ most ∧ behind ≤ 2 ∧ Shape ahead behind cells ts ∧ (rs = ts ∨ rs = doubled ts)
theorem Shape.len {ahead behind : Nat} {cells : List Str} {ts : List Row} (h : Shape ahead behind cells ts) : ts.length = ahead + behind + 2 := by
  obtain ⟨xs, ys, rfl, h1, h2, _⟩ := h
  simp only [List.length_cons, List.length_append]
  omega
theorem Row.mid_ok {lo hi n : Nat} {cells : List Str} {r : Row} (h : r.mid lo hi cells) (e : hi ≤ n) : r.ok n cells := by
  cases r with
  | rest m => exact h.elim
  | ins m => exact h.elim
  | wr c v m => exact ⟨h.1, h.2.1, by have := h.2.2.2; omega⟩
  | rd c cs m => exact ⟨h.1, h.2.1, fun kv hkv => ⟨(h.2.2.1 kv hkv).1, by have := (h.2.2.1 kv hkv).2.2; omega⟩, by have := h.2.2.2.2.1; omega, h.2.2.2.2.2⟩
theorem Row.tl_ok {lo hi n : Nat} {cells : List Str} {r : Row} (h : r.tl lo hi cells) (e : hi ≤ n) (n0 : 0 < n) : r.ok n cells := by
  cases r with
  | rest m => exact h.elim
  | ins m => exact h.elim
  | wr c v m => exact ⟨h.1, h.2.1, by have := h.2.2; omega⟩
  | rd c cs m => exact ⟨h.1, h.2.1, fun kv hkv => ⟨(h.2.2.1 kv hkv).1, by have := (h.2.2.1 kv hkv).2.2; omega⟩, by have := h.2.2.2.1; omega, h.2.2.2.2⟩
theorem Row.ok_low {n : Nat} {cells : List Str} {r : Row} (h : r.ok n cells) : r.low n := by
  cases r with
  | rest m => exact h
  | ins m => exact h
  | wr c v m => exact h.2.2
  | rd c cs m => exact ⟨h.2.1, fun kv hkv => (h.2.2.1 kv hkv).2, h.2.2.2.1, h.2.2.2.2⟩
theorem Shape.ok {ahead behind : Nat} {cells : List Str} {ts : List Row} (h : Shape ahead behind cells ts) : ∀ r ∈ ts, r.ok ts.length cells := by
  have hl := h.len
  rw [hl]
  obtain ⟨xs, ys, rfl, h1, h2, h3, h4⟩ := h
  intro r hr
  cases hr with
  | head => show 1 < ahead + behind + 2; omega
  | tail _ hr =>
    rcases List.mem_append.mp hr with m | m
    · exact Row.mid_ok (h3 r m) (by omega)
    · cases m with
      | head =>
        show (if 0 < behind then ahead + 2 else 0) < ahead + behind + 2
        by_cases hb : 0 < behind
        · rw [if_pos hb]
          omega
        · rw [if_neg hb]
          omega
      | tail _ m => exact Row.tl_ok (h4 r m) (by omega) (by omega)
theorem Row.re_ok {n : Nat} {cells : List Str} {r : Row} {e : Nat → Nat} {m : Nat} (h : r.ok n cells) (he : ∀ k, k < n → e k < m) : (r.re e).ok m cells := by
  cases r with
  | rest k => exact he _ h
  | ins k => exact he _ h
  | wr c v k => exact ⟨h.1, h.2.1, he _ h.2.2⟩
  | rd c cs k =>
    refine ⟨h.1, ?_, ?_, he _ h.2.2.2.1, by rw [List.length_map]; exact h.2.2.2.2⟩
    · rw [List.map_map]
      exact h.2.1
    · intro kv hkv
      obtain ⟨z, hz, rfl⟩ := List.mem_map.mp hkv
      exact ⟨(h.2.2.1 z hz).1, he _ (h.2.2.1 z hz).2⟩
theorem doubled_len (ts : List Row) : (doubled ts).length = 2 * ts.length := by
  unfold doubled
  rw [List.length_append, List.length_map, List.length_map]
  omega
theorem doubled_ok {cells : List Str} {ts : List Row} (h : ∀ r ∈ ts, r.ok ts.length cells) (n0 : 0 < ts.length) : ∀ r ∈ doubled ts, r.ok (doubled ts).length cells := by
  rw [doubled_len]
  intro r hr
  unfold doubled at hr
  rcases List.mem_append.mp hr with m | m
  · obtain ⟨z, hz, rfl⟩ := List.mem_map.mp m
    refine Row.re_ok (h z hz) fun k hk => ?_
    unfold endOf
    by_cases c : k = 0
    · rw [if_pos c]; omega
    · rw [if_neg c]; omega
  · obtain ⟨z, hz, rfl⟩ := List.mem_map.mp m
    refine Row.re_ok (h z hz) fun k hk => ?_
    unfold endOf
    by_cases c : k = 0
    · rw [if_pos c]; omega
    · rw [if_neg c]; omega
/-- rows as a program asks them: all in order, the first one a rest row -/
def Good (cells : List Str) (rs : List Row) : Prop := (∀ r ∈ rs, r.ok rs.length cells) ∧ (∃ m, rs[0]? = some (Row.rest m)) ∧ 2 ≤ rs.length ∧ rs.length ≤ 60
theorem Thr.good {most : Nat} {cells : List Str} {rs : List Row} (h : Thr most cells rs) (m : most ≤ 20) : Good cells rs := by
  obtain ⟨ahead, behind, ts, h1, h2, h3, h4⟩ := h
  have hl := h3.len
  have hk := h3.ok
  obtain ⟨xs, ys, e, _⟩ := h3
  rcases h4 with rfl | rfl
  · exact ⟨hk, ⟨1, by rw [e]; rfl⟩, by omega, by omega⟩
  · refine ⟨doubled_ok hk (by omega), ⟨endOf ts.length 0 1, ?_⟩, by rw [doubled_len]; omega, by rw [doubled_len]; omega⟩
    unfold doubled
    rw [e]
    rfl
def spThreads : Sp := fun vs H Q _ => ∃ (p cl : Addr) (n many most : Nat) (cells : List Str), vs = [.ref p, .int (many : Nat), .ref cl, .int (most : Nat)] ∧ Src p n H ∧ n + 2000 * (many + 1) < 1000000 ∧
  H cl = some (.lst (cells.map V.str)) ∧ p ≠ cl ∧ cells.length < 100 ∧ SeqAt.shaped (.list (cells.map PyData.str)) = true ∧ most ≤ 10 ∧
  ∀ (q : Addr) (ls : List Addr) (rss : List (List Row)) (H' : Hp), Grow p H H' → H q = none → H' q = some (.lst (ls.map V.ref)) → Paired (fun l rs => RowsAt H' rs l ∧ Thr most cells rs ∧ H l = none) ls rss → rss.length = many → Src p (n + 2000 * many) H' → Q (.ref q) H'
section
variable {P : Program} {w : World} {K : PySem.W.Frag} {mg : Str → Option Value} {base : Heap}
theorem scThreads : FnScope ["_law_source_here", "_law_threads_here", "_law_cells", "_law_most", "_law_found", "_law_k", "_law_rows_here"] ["_law_source_here", "_law_threads_here", "_law_cells", "_law_most"] (defScope sThreads) := ⟨rfl, rfl, rfl, by decide +kernel, rfl, by decide +kernel, by decide +kernel⟩
theorem ok_threads {f fD fR fW : Addr} {fd fdD fdR fdW : FuncData} (F : Fun K "_law_threads" "_law_threads" sThreads f fd)
    (GD : FnOk P w K mg base CX0 1 fD fdD ["_law_source_here", "_law_many"] spDraw) (mD : mg "_law_draw" = some (.ref fD)) (kD : PySem.W.keepIn K (.ref fD) = true) (bD : Binds K fdD ["_law_source_here", "_law_many"] [])
    (GR : FnOk P w K mg base CX0 4 fR fdR ["_law_source_here", "_law_cells", "_law_ahead", "_law_behind", "_law_worths"] spRows) (mR : mg "_law_rows" = some (.ref fR)) (kR : PySem.W.keepIn K (.ref fR) = true) (bR : Binds K fdR ["_law_source_here", "_law_cells", "_law_ahead", "_law_behind", "_law_worths"] [])
    (GW : FnOk P w K mg base CX0 1 fW fdW ["_law_rows_here"] spDoubled) (mW : mg "_law_doubled" = some (.ref fW)) (kW : PySem.W.keepIn K (.ref fW) = true) (bW : Binds K fdW ["_law_rows_here"] [])
    (tr : mg "range" = none) :
    FnOk P w K mg base CX0 5 f fd ["_law_source_here", "_law_threads_here", "_law_cells", "_law_most"] spThreads := by
  refine F.ok scThreads (fun vs H Q E h => ?_) (fun cdv A outer s H vs Q E hr h => ?_)
  · obtain ⟨p, cl, n, many, most, cells, rfl, _⟩ := h
    rfl
  · obtain ⟨p, cl, n, many, most, cells, rfl, hp, hn, hcl, npc, c1, csh, ml, k⟩ := h
    have hr1 : Room 1 _ := hr.mono (by decide)
    refine ⟨_, pss_cons (ps_set (i := 4) scThreads.nd rfl (Or.inl rfl) (pe_lst pa_nil))
      (pss_cons (ps_for PassesOwn.never rfl (pi_range1 rfl tr (pa_cons (pv 1) pa_nil)) (pg_name (i := 5) scThreads.nd rfl (Or.inl rfl))
        (pss_cons (ps_set (i := 6) scThreads.nd rfl (Or.inl rfl) (pe_call GR hr rfl mR kR bR .nil pass0 (pa_cons (pv 0) (pa_cons (pv 2) (pa_cons (pe_call GD hr1 rfl mD kD bD .nil pass0 (pa_cons (pv 0) (pa_cons (pe_op op_add (pv 3) pe_int) pa_nil))) (pa_cons (pe_call GD hr1 rfl mD kD bD .nil pass0 (pa_cons (pv 0) (pa_cons pe_int pa_nil))) (pa_cons (pe_lst (pa_cons pe_int (pa_cons pe_int (pa_cons pe_int pa_nil)))) pa_nil)))))))
        (pss_one (ps_expr (pe_bm PySem.F.plainAttrs_list PySem.F.slot_list_append PySem.F.type_list_append mt_append (pv 4) (pa_cons
          (pe_ifExp (pt_cmpR op_eq (pe_call GD hr1 rfl mD kD bD .nil pass0 (pa_cons (pv 0) (pa_cons pe_int pa_nil))) pe_int (nomark _)) (pe_call GW hr1 rfl mW kW bW .nil pass0 (pa_cons (pv 6) pa_nil)) (pv 6)) pa_nil))))))
      (pss_one (ps_ret (pv 4)))), ?_⟩
    refine ⟨Nat.zero_le _, fun q hq => ?_⟩
    have npq := hp.ne hq
    refine ⟨_, rfl, (many : Int), rfl, by omega, by omega, for_range (n := many) (fun i σ H2 => ∃ (v5 v6 : Option V) (ls : List Addr) (rss : List (List Row)), σ = [some (.ref p), some (.int (many : Nat)), some (.ref cl), some (.int (most : Nat)), some (.ref q), v5, v6] ∧ H2 q = some (.lst (ls.map V.ref)) ∧ Paired (fun l rs => RowsAt H2 rs l ∧ Thr most cells rs ∧ H l = none ∧ q ≠ l) ls rss ∧ rss.length = i ∧ Grow p H H2 ∧ Src p (n + 2000 * i) H2)
      ⟨none, none, [], [], rfl, upd_same, .nil, rfl, Grow.new hq, hp.new hq⟩ ?_ ?_⟩
    · rintro i σ H2 hi ⟨v5, v6, ls, rss, rfl, hq2, hp2, rl, g2, s2⟩
      refine ⟨_, rfl, _, rfl, _, rfl, _, rfl, _, _, rfl, rfl, p, n + 2000 * i, _, rfl, s2, by omega, by omega, by omega, fun r1 H3 a0 a1 g3 s3 => ?_⟩
      refine ⟨_, rfl, p, n + 2000 * i + 1, 3, rfl, s3, by omega, by decide, by decide, fun r2 H4 b0 b1 g4 s4 => ⟨(by show 3 ≤ sizeLine; decide), fun wl hwl => ?_⟩⟩
      obtain ⟨x1, rfl⟩ : ∃ x : Nat, r1 = (x : Int) := ⟨r1.toNat, by omega⟩
      obtain ⟨x2, rfl⟩ : ∃ x : Nat, r2 = (x : Int) := ⟨r2.toNat, by omega⟩
      have g5 := (g3.trans g4).trans (Grow.new (o := .lst [V.int 0, V.int 1, V.int 2]) hwl)
      have s5 := s4.new (o := .lst [V.int 0, V.int 1, V.int 2]) hwl
      refine ⟨p, cl, wl, n + 2000 * i + 2, x1, x2, cells, [0, 1, 2], rfl, s5, by omega, (g2.trans g5) _ _ hcl npc.symm, upd_same, npc, s4.ne hwl, c1, csh, by decide, by decide, by decide, by decide, by omega, by omega, fun l rs H6 g6 hl rr shx s6 => ?_⟩
      obtain ⟨y1, y2, yl1, yl2, sh⟩ := shx
      have hl0 : H l = none := by
        cases e : H l with
        | none => rfl
        | some o =>
          by_cases n : l = p
          · rw [n] at hl
            exact absurd rfl (s5.ne hl)
          · rw [(g2.trans g5) _ _ e n] at hl
            cases hl
      have hq6 := (g5.trans g6) _ _ hq2 npq.symm
      have add : ∀ (b : Addr) (rs' : List Row) (H8 : Hp), RowsAt H8 rs' b → Thr most cells rs' → H b = none → Grow p H2 H8 → Src p (n + 2000 * i + 2000) H8 → H8 q = some (.lst (ls.map V.ref)) → q ≠ b →
          (upd H8 q (.lst (ls.map V.ref ++ [V.ref b]))) q = some (.lst ((ls ++ [b]).map V.ref)) ∧ Paired (fun l rs => RowsAt (upd H8 q (.lst (ls.map V.ref ++ [V.ref b]))) rs l ∧ Thr most cells rs ∧ H l = none ∧ q ≠ l) (ls ++ [b]) (rss ++ [rs']) ∧ (rss ++ [rs']).length = i + 1 ∧ Grow p H (upd H8 q (.lst (ls.map V.ref ++ [V.ref b]))) ∧ Src p (n + 2000 * (i + 1)) (upd H8 q (.lst (ls.map V.ref ++ [V.ref b]))) := by
        intro b rs' H8 hb ht hb0 g8 s8 hq8 nqb
        refine ⟨?_, Paired.snoc (L2.Paired.mapP hp2 fun l rs e => ⟨(e.1.grow g8 s2 (fun z => ?_)).put hq8 e.2.2.2, e.2.1, e.2.2.1, e.2.2.2⟩) ⟨hb.put hq8 nqb, ht, hb0, nqb⟩, by rw [List.length_append, rl]; rfl, (g2.trans g8).put hq, (s8.put npq).le (by omega)⟩
        · rw [upd_same, List.map_append]
          rfl
        · obtain ⟨_, _, _, z1, _⟩ := hp
          rw [z] at z1
          rw [e.2.2.1] at z1
          cases z1
      have nql : q ≠ l := ne_of_none (g5 _ _ hq2 npq.symm) hl
      have len6 : (ls.map V.ref).length < sizeLine := by
        have := hp2.length
        exact small (by rw [List.length_map]; omega)
      refine ⟨_, rfl, .inl ⟨rfl, _, Or.inl (Or.inl hq6)⟩, ?_⟩
      refine ⟨_, rfl, p, n + 2000 * i + 2 + 60 * (x1 + x2), 6, rfl, s6, by omega, by decide, by decide, fun r3 H7 d0 d1 g7 s7 => ⟨rfl, _, rfl, ?_⟩⟩
      have npl : p ≠ l := fun z => by
        rw [← z] at hl
        exact absurd rfl (s5.ne hl)
      have rr7 := rr.grow g7 s6 npl
      have hq7 := g7 _ _ hq6 npq.symm
      have shl := sh.len
      refine ite2 (fun _ => ?_) (fun _ => ?_)
      · refine ⟨_, rfl, l, rs, rfl, rr7, by omega, by omega, fun r hr => Row.ok_low (sh.ok r hr), fun b H8 s8 hb rb => ?_⟩
        have s78 : Src p (n + 2000 * i + 2 + 60 * (x1 + x2) + 1) H8 := by
          obtain ⟨g, z, c, e1, e2⟩ := s7
          exact ⟨g, z, c, s8 _ _ e1, e2⟩
        have g78 : Grow p H7 H8 := fun b o e _ => s8 b o e
        have hb0 : H b = none := by
          cases e : H b with
          | none => rfl
          | some o =>
            by_cases n : b = p
            · rw [n] at hb
              exact absurd rfl (s7.ne hb)
            · rw [g7 _ _ (g6 _ _ ((g2.trans g5) _ _ e n) n) n] at hb
              cases hb
        obtain ⟨f1, f2, f3, f4, f5⟩ := add b (doubled rs) H8 rb ⟨y1, y2, rs, by omega, by omega, sh, .inr rfl⟩ hb0 (((g5.trans g6).trans g7).trans g78) (s78.le (by omega)) (s8 _ _ hq7) (ne_of_none hq7 hb)
        exact ⟨q, _, _, rfl, rfl, s8 _ _ hq7, len6, _, _, _, _, rfl, f1, f2, f3, f4, f5⟩
      · obtain ⟨f1, f2, f3, f4, f5⟩ := add l rs H7 rr7 ⟨y1, y2, rs, by omega, by omega, sh, .inl rfl⟩ hl0 ((g5.trans g6).trans g7) (s7.le (by omega)) hq7 nql
        exact ⟨_, rfl, q, _, _, rfl, rfl, hq7, len6, _, _, _, _, rfl, f1, f2, f3, f4, f5⟩
    · rintro σ H2 ⟨v5, v6, ls, rss, rfl, hq2, hp2, rl, g2, s2⟩
      exact ⟨_, rfl, k q ls rss H2 g2 hq hq2 (L2.Paired.mapP hp2 fun l rs e => ⟨e.1, e.2.1, e.2.2.1⟩) rl s2⟩
end
end CC

set_option Elab.async false
set_option maxRecDepth 100000
namespace CC
open PySem L2
set_option linter.unusedVariables false
abbrev sIsList : Stmt := top 11
abbrev sIsWhole : Stmt := top 12
abbrev sIsName : Stmt := top 13
abbrev sIsNumber : Stmt := top 14
abbrev sAreCases : Stmt := top 15
abbrev sIsRow : Stmt := top 16
abbrev sCopied : Stmt := top 17
abbrev sFollowers : Stmt := top 18
def spIsList : Sp := fun vs H Q _ => ∃ (a : Addr) (xs : List V), vs = [.ref a] ∧ (H a = some (.lst xs) ∨ H a = some (.tup xs)) ∧ ∀ H', Same H H' → Q (.bl true) H'
def spIsWhole : Sp := fun vs H Q _ => ∃ (i : Int), vs = [.int i] ∧ Q (.bl (decide (i ≥ 0))) H
def spIsNumber : Sp := fun vs H Q _ => ∃ (i n : Int), vs = [.int i, .int n] ∧ 0 ≤ i ∧ Q (.bl (decide (i < n))) H
section
variable {P : Program} {w : World} {K : PySem.W.Frag} {mg : Str → Option Value} {base : Heap}
theorem scIsList : FnScope ["value"] ["value"] (defScope sIsList) := ⟨rfl, rfl, rfl, by decide +kernel, rfl, by decide +kernel, by decide +kernel⟩
theorem ok_islist {f : Addr} {fd : FuncData} (F : Fun K "is_list" "is_list" sIsList f fd) (ti : mg "isinstance" = none) (tl : mg "list" = none) (tt : mg "tuple" = none) :
    FnOk P w K mg base CX0 1 f fd ["value"] spIsList := by
  refine F.ok scIsList (fun vs H Q E h => ?_) (fun cdv A outer s H vs Q E hr h => ?_)
  · obtain ⟨a, xs, rfl, _⟩ := h
    rfl
  · obtain ⟨a, xs, rfl, hx, k⟩ := h
    refine ⟨_, pss_one (ps_ret (pe_callB call_isiT (by rfl) ti (by decide +kernel) (pa_cons (pv 0) (pa_cons (pe_tup (pa_cons (pe_bltn (v := .ty "list") (by rfl) tl (by decide +kernel) rfl) (pa_cons (pe_bltn (v := .ty "tuple") (by rfl) tt (by decide +kernel) rfl) pa_nil))) pa_nil)))), ?_⟩
    refine ⟨_, rfl, (by show 2 ≤ sizeLine; decide), fun t ht => ?_⟩
    rcases hx with hx | hx
    · refine ⟨_, t, _, _, _, true, rfl, upd_same, .cons (.ty _) (.cons (.ty _) .nil), .base (.lst (by rw [upd_ne (ne_of_none hx ht)]; exact hx)), kitAny_cons (b := true) (kit_ty (by decide +kernel)) (fun z => nomatch z) (fun _ => rfl), k _ (same_new ht)⟩
    · refine ⟨_, t, _, _, _, true, rfl, upd_same, .cons (.ty _) (.cons (.ty _) .nil), .base (.tup (by rw [upd_ne (ne_of_none hx ht)]; exact hx)), kitAny_cons (b := false) (kit_ty (by decide +kernel)) (fun _ => kitAny_cons (b := true) (kit_ty (by decide +kernel)) (fun z => nomatch z) (fun _ => rfl)) (fun z => nomatch z), k _ (same_new ht)⟩
theorem scIsWhole : FnScope ["value"] ["value"] (defScope sIsWhole) := ⟨rfl, rfl, rfl, by decide +kernel, rfl, by decide +kernel, by decide +kernel⟩
theorem ok_iswhole {f : Addr} {fd : FuncData} (F : Fun K "is_whole" "is_whole" sIsWhole f fd) (ti : mg "isinstance" = none) (tn : mg "int" = none) (tb : mg "bool" = none) :
    FnOk P w K mg base CX0 1 f fd ["value"] spIsWhole := by
  refine F.ok scIsWhole (fun vs H Q E h => ?_) (fun cdv A outer s H vs Q E hr h => ?_)
  · obtain ⟨i, rfl, _⟩ := h
    rfl
  · obtain ⟨i, rfl, k⟩ := h
    refine ⟨_, pss_one (ps_ret (pe_and (pe_callB call_isi (by rfl) ti (by decide +kernel) (pa_cons (pv 0) (pa_cons (pe_bltn (v := .ty "int") (by rfl) tn (by decide +kernel) rfl) pa_nil)))
      (pe_and (pe_not (pe_callB call_isi (by rfl) ti (by decide +kernel) (pa_cons (pv 0) (pa_cons (pe_bltn (v := .ty "bool") (by rfl) tb (by decide +kernel) rfl) pa_nil)))) (pe_one (pe_cmp (pc_ge (pv 0) pe_int) rfl))))), ?_⟩
    refine ⟨_, rfl, _, _, _, _, true, rfl, .ty _, .base (.int i), kit_ty (by decide +kernel), true, rfl, iteT ?_⟩
    refine ⟨_, rfl, _, _, _, _, false, rfl, .ty _, .base (.int i), kit_ty (by decide +kernel), false, rfl, true, rfl, iteT ?_⟩
    exact ⟨_, rfl, _, _, rfl, rfl, k⟩
theorem scIsNumber : FnScope ["value", "many"] ["value", "many"] (defScope sIsNumber) := ⟨rfl, rfl, rfl, by decide +kernel, rfl, by decide +kernel, by decide +kernel⟩
theorem ok_isnumber {f fW : Addr} {fd fdW : FuncData} (F : Fun K "is_number" "is_number" sIsNumber f fd) (GW : FnOk P w K mg base CX0 1 fW fdW ["value"] spIsWhole) (mW : mg "is_whole" = some (.ref fW)) (kW : PySem.W.keepIn K (.ref fW) = true) (bW : Binds K fdW ["value"] []) :
    FnOk P w K mg base CX0 2 f fd ["value", "many"] spIsNumber := by
  refine F.ok scIsNumber (fun vs H Q E h => ?_) (fun cdv A outer s H vs Q E hr h => ?_)
  · obtain ⟨i, n, rfl, _⟩ := h
    rfl
  · obtain ⟨i, n, rfl, i0, k⟩ := h
    refine ⟨_, pss_one (ps_ret (pe_and (pe_call GW hr rfl mW kW bW .nil pass0 (pa_cons (pv 0) pa_nil)) (pe_one (pe_cmp (pc_lt (pv 0) (pv 1)) rfl)))), ?_⟩
    refine ⟨_, rfl, i, rfl, _, rfl, ite_yes (decide_eq_true i0) ?_⟩
    exact ⟨_, rfl, _, rfl, _, _, rfl, rfl, k⟩
end
end CC

set_option Elab.async false
set_option maxRecDepth 100000
namespace CC
open PySem PySem.Spec PyProof.Rows L2
set_option linter.unusedVariables false
/-! ### a list of the values of a dict -/
def tLVals (te : TE) : TE := fun σ H Q => te σ H fun x H1 => ∃ (d : Addr) (kvs : List (Key × V)), x = .ref d ∧ H1 d = some (.dK kvs) ∧ ∀ q, H1 q = none → Q (.ref q) (upd H1 q (.lst (kvs.map (·.2))))
theorem vals_by {n : Nat} : ∀ {xs : List V} {us : List Value}, xs.length = n → us.length = n → (∀ (j : Nat) (x : V) (u : Value), xs[j]? = some x → us[j]? = some u → RelV x u) → Vals xs us := by
  intro xs
  induction xs generalizing n with
  | nil =>
    intro us h1 h2 _
    cases us with
    | nil => exact .nil
    | cons u us =>
      simp at h1 h2
      omega
  | cons x xs ih =>
    intro us h1 h2 h
    cases us with
    | nil =>
      simp at h1 h2
      omega
    | cons u us =>
      simp at h1 h2
      exact .cons (h 0 x u rfl rfl) (ih (n := n - 1) (by omega) (by omega) fun j y v e1 e2 => h (j + 1) y v e1 e2)
theorem kv_at {κ : Type} : ∀ {kvs : List (κ × V)} {vs : List (κ × Value)}, KV kvs vs → ∀ {j : Nat} {x : κ × V} {k : κ} {u : Value}, kvs[j]? = some x → vs[j]? = some (k, u) → RelV x.2 u
  | _, _, .cons h t, 0, x, k, u, e1, e2 => by
    cases Option.some.inj e1
    cases Option.some.inj e2
    exact h.2
  | _, _, .cons h t, j + 1, x, k, u, e1, e2 => kv_at (j := j) t e1 e2
section
variable {X : Cx} {e : Expr} {te : TE} {p apos cpos pos : Pos}
theorem pe_lvals (hc : X.calm = true) (he : PE X e te) (hg : Gl X "list") (hm : X.mg "list" = none) (hv : bootBuiltins "list" = some (.type "list"))
    (hbase : attributeBase e "values" X.env (eval e X.env) = eval e X.env := by rfl)
    (hline : (apos.endLine == cpos.line) = true := by rfl)
    (hs : starEach [.Call (.Attribute e "values" apos) [] [] cpos] X.env = (false, eval (.Call (.Attribute e "values" apos) [] [] cpos) X.env) :: starEach [] X.env := by rfl) :
    PE X (.Call (.Name "list" p) [.Call (.Attribute e "values" apos) [] [] cpos] [] pos) (tLVals te) := by
  refine ⟨fun pins s σ H Q I want => ?_⟩
  refine wpAny_Call_Name_kw (ld_blt I hg hm hv (PyProof.Rows.callWith_type1 ?_ hs rfl))
  rw [hs]
  show wpAny _ _ (spliced ((false, eval (.Call (.Attribute e "values" apos) [] [] cpos) X.env) :: backTo pos (starEach [] X.env))) _ _ s
  refine Calls.spliced_cons (wpAny_Call_method (T := "dict") (id := "dict.values") hbase rfl hline F.plainAttrs_dict F.slot_dict_values F.type_dict_values ?_)
  refine thn (he.run pins s σ H _ I want) fun u s1 ⟨x, H1, I1, rx, d, kvs, ex, hd, q⟩ => ?_
  subst ex
  have eu : u = Value.ref d := rx
  subst eu
  obtain ⟨hz, hs0, vs, kv, hdo⟩ := I1.hok d _ hd
  obtain ⟨ep, hat⟩ := hdo.dictAt
  have lk := kv.length
  refine ⟨hdo.typeIs, hdo.mapOf.noDict, ?_⟩
  show wpAny _ _ (callWith cpos (.builtin "dict.values") [.ref d] [] []) _ X.xe s1
  have mv := meets_dict_values (mixKind X.prog X.w) d hs0
  refine method_meetsIn F.slot_dict_values F.entry_dict_values rfl (PySem.evalArgs_none ⟨rfl, hdo.typeIs, F.args_dict_values_1 _, _, mv, ⟨vs, hdo⟩, Calls.spliced_nil ?_⟩)
  have src := PySem.W.kdl_values (prog := X.prog) (w := X.w) (knd := mixKind X.prog X.w) (d := d) (r := s1.heap.objs.size) (kvs := vs) (ep := ep)
  refine PySem.W.kdl_call src (I1.ok.hd hc) ⟨⟨_, Heap.get?_push_size _ rfl, rfl, rfl⟩, hat.push _⟩ (by omega) fun h' tk acc c hk hS hacc => ?_
  have I2 : Inv X pins σ H1 { s1 with heap := s1.heap.push { cls := .type "dict_values", data := .fields #[.ref d] } } := I1.kept (t' := s1.toks) fun b ob z => Heap.get?_push_of_some _ z
  refine ⟨.ref _, _, I2.laid (t' := tk) (o := .lst (kvs.map (·.2))) hk (Nat.le_refl _) ?_, rfl, q _ (I2.hok.fresh (Nat.le_refl _))⟩
  have al : acc.toList.length = vs.length := by rw [Array.length_toList]; exact hacc.1
  refine ⟨by rw [List.length_map]; omega, acc.toList, c, vals_by (n := vs.length) (by rw [List.length_map]; omega) al fun j y u e1 e2 => ?_, ?_⟩
  · rw [List.getElem?_map] at e1
    obtain ⟨k, hk2⟩ := hacc.2 j u (by rw [← Array.getElem?_toList]; exact e2)
    cases e3 : kvs[j]? with
    | none =>
      rw [e3] at e1
      cases e1
    | some z =>
      rw [e3] at e1
      cases Option.some.inj e1
      exact kv_at kv e3 hk2
  · rw [Array.toArray_toList]
    exact hS
end
end CC

set_option Elab.async false
set_option maxRecDepth 100000
namespace CC
open PySem L2
set_option linter.unusedVariables false
theorem not_dec {p : Prop} [Decidable p] (h : p) : (!decide p) = false := by
  rw [decide_eq_true h]
  rfl
def NameOk (c : Str) : Prop := c.length ≤ 8 ∧ Txt.isascii c = true ∧ Txt.isalpha c = true ∧ Txt.islower c = true
def spIsName : Sp := fun vs H Q _ => ∃ (c : Str), vs = [.str c] ∧ NameOk c ∧ Q (.bl true) H
def spAreCases : Sp := fun vs H Q _ => ∃ (d : Addr) (cs : List (Int × Nat)) (n : Nat), vs = [.ref d, .int (n : Nat)] ∧ H d = some (.dK (kvOf cs)) ∧ (∀ kv ∈ cs, 0 ≤ kv.1 ∧ kv.2 < n) ∧ cs.length ≤ 10 ∧ ∀ H', Same H H' → Q (.bl true) H'
def spIsRow : Sp := fun vs H Q _ => ∃ (a : Addr) (r : Row) (n : Nat) (cells : List Str), vs = [.ref a, .int (n : Nat)] ∧ RowAt H r a ∧ r.ok n cells ∧ (∀ c ∈ cells, NameOk c) ∧ ∀ H', Same H H' → Q (.bl true) H'
section
variable {P : Program} {w : World} {K : PySem.W.Frag} {mg : Str → Option Value} {base : Heap}
theorem scIsName : FnScope ["value"] ["value"] (defScope sIsName) := ⟨rfl, rfl, rfl, by decide +kernel, rfl, by decide +kernel, by decide +kernel⟩
theorem ok_isname {f : Addr} {fd : FuncData} (F : Fun K "is_name" "is_name" sIsName f fd) (ti : mg "isinstance" = none) (ts : mg "str" = none) (tl : mg "len" = none) :
    FnOk P w K mg base CX0 1 f fd ["value"] spIsName := by
  refine F.ok scIsName (fun vs H Q E h => ?_) (fun cdv A outer s H vs Q E hr h => ?_)
  · obtain ⟨c, rfl, _⟩ := h
    rfl
  · obtain ⟨c, rfl, ⟨n1, n2, n3, n4⟩, k⟩ := h
    refine ⟨_, pss_cons (ps_if (PW.pt (pw_or (pt_not (pt_val (pe_callB call_isi (by rfl) ti (by decide +kernel) (pa_cons (pv 0) (pa_cons (pe_bltn (v := .ty "str") (by rfl) ts (by decide +kernel) rfl) pa_nil))))) (pw_or1 (pt_cmpR op_gt (pe_callB call_len_str (by rfl) tl PySem.boot_len (pa_cons (pv 0) pa_nil)) pe_int (nomark _))))) (pss_one (ps_ret pe_bl)) pss_nil)
      (pss_one (ps_ret (pe_and (pe_m0 PySem.F.slot_str_isascii PySem.F.type_str_isascii mt_isascii (pv 0)) (pe_and (pe_m0 PySem.F.slot_str_isalpha PySem.F.type_str_isalpha mt_isalpha (pv 0)) (pe_one (pe_m0 PySem.F.slot_str_islower PySem.F.type_str_islower mt_islower (pv 0))))))), ?_⟩
    refine ⟨_, rfl, _, _, _, _, true, rfl, .ty _, .base (.str c), kit_ty (by decide +kernel), true, rfl, iteF ?_⟩
    refine ⟨_, rfl, c, rfl, Nat.le_of_lt (small (by omega)), _, _, rfl, rfl, _, rfl, ite_no (decide_eq_false (by omega)) ?_⟩
    refine ⟨_, rfl, ⟨_, rfl⟩, c, rfl, rfl, trivial, _, rfl, ite_yes n2 ?_⟩
    refine ⟨_, rfl, ⟨_, rfl⟩, c, rfl, rfl, trivial, _, rfl, ite_yes n3 ?_⟩
    refine ⟨_, rfl, ⟨_, rfl⟩, c, rfl, rfl, trivial, ?_⟩
    rw [n4]
    exact k
theorem scAreCases : FnScope ["value", "many", "worth", "number"] ["value", "many"] (defScope sAreCases) := ⟨rfl, rfl, rfl, by decide +kernel, rfl, by decide +kernel, by decide +kernel⟩
theorem ok_arecases {f fW fN : Addr} {fd fdW fdN : FuncData} (F : Fun K "are_cases" "are_cases" sAreCases f fd) (GW : FnOk P w K mg base CX0 1 fW fdW ["value"] spIsWhole) (mW : mg "is_whole" = some (.ref fW)) (kW : PySem.W.keepIn K (.ref fW) = true) (bW : Binds K fdW ["value"] [])
    (GN : FnOk P w K mg base CX0 2 fN fdN ["value", "many"] spIsNumber) (mN : mg "is_number" = some (.ref fN)) (kN : PySem.W.keepIn K (.ref fN) = true) (bN : Binds K fdN ["value", "many"] []) (ti : mg "isinstance" = none) (td : mg "dict" = none) (ta : mg "all" = none) :
    FnOk P w K mg base CX0 3 f fd ["value", "many"] spAreCases := by
  refine F.ok scAreCases (fun vs H Q E h => ?_) (fun cdv A outer s H vs Q E hr h => ?_)
  · obtain ⟨d, cs, n, rfl, _⟩ := h
    rfl
  · obtain ⟨d, cs, n, rfl, hd, ok, c10, k⟩ := h
    have hr1 : Room 1 _ := hr.mono (by decide)
    refine ⟨_, pss_cons (ps_if (pt_not (pt_val (pe_callB call_isi (by rfl) ti (by decide +kernel) (pa_cons (pv 0) (pa_cons (pe_bltn (v := .ty "dict") (by rfl) td (by decide +kernel) rfl) pa_nil))))) (pss_one (ps_ret pe_bl)) pss_nil)
      (pss_one (ps_ret (pe_callB (cr_all rfl) (by rfl) ta (by decide +kernel) (pa_cons (pe_lock (pe_lc (own := [("worth", 2), ("number", 3)]) (g := gTup K 2 (gCons (gName 2) (gCons (gName 3) gNil))) (by rfl) scAreCases.nd (pi_items (pv 0)) (blkOk_by (own := [("worth", 2), ("number", 3)]) (N := ["value", "many", "worth", "number"]) (sc := defScope sAreCases) (by decide +kernel))
        (fun _ _ _ _ _ => pg_tup (by rfl) (pgs_cons (pg_name (i := 2) scAreCases.nd rfl (Or.inl rfl)) (pgs_cons (pg_name (i := 3) scAreCases.nd rfl (Or.inl rfl)) pgs_nil))) (fun _ _ _ _ _ => pts_nil)
        (fun _ _ _ _ _ => pe_and (pe_call GW hr1 rfl mW kW bW .nil pass0 (pa_cons (pv 2) pa_nil)) (pe_one (pe_call GN hr rfl mN kN bN .nil pass0 (pa_cons (pv 3) (pa_cons (pv 1) pa_nil))))))) pa_nil)))), ?_⟩
    refine ⟨_, rfl, _, _, _, _, true, rfl, .ty _, .base (.dK hd), kit_ty (by decide +kernel), true, rfl, iteF ?_⟩
    refine ⟨d, _, hd, trivial, fun od => ?_⟩
    have dL : (upd H d (.frz od (.dK (kvOf cs)))) d = some (.frz od (.dK (kvOf cs))) := upd_same
    have oL : ∀ b o, H b = some o → b ≠ d → (upd H d (.frz od (.dK (kvOf cs)))) b = some o := fun b o e n => by
      rw [upd_ne n]
      exact e
    revert dL oL
    generalize (upd H d (.frz od (.dK (kvOf cs)))) = HL
    intro dL oL
    refine ⟨_, rfl, d, od, _, rfl, dL, fun D hD => ?_⟩
    refine lc_it (walk_items (d := d) (o := od) (kvs := kvOf cs)) (fun i H => H D = some (.lst ((List.replicate i true).map V.bl)) ∧ Same HL H) ⟨upd_same, same_new hD⟩ (fun i H _ ⟨_, e⟩ => e _ _ dL) ?_ ?_
    · rintro i x0 Ha Hb hi ⟨hDa, sa⟩ ⟨T, kx, vx, rfl, hT, rfl, e1, e2⟩
      obtain ⟨kv, hkv, rfl, rfl⟩ : ∃ kv, cs[i]? = some kv ∧ kx = V.int kv.1 ∧ vx = V.int (kv.2 : Nat) := by
        dsimp only at e1 e2
        unfold kvOf at e1 e2
        rw [List.getElem?_map] at e1 e2
        cases e : cs[i]? with
        | none =>
          rw [e] at e1
          cases e1
        | some z =>
          rw [e] at e1 e2
          cases e1
          cases e2
          exact ⟨z, rfl, rfl, rfl⟩
      obtain ⟨q0, q1⟩ := ok kv (List.mem_of_getElem? hkv)
      have il := (List.getElem?_eq_some_iff.mp hkv).1
      have nDT : D ≠ T := ne_of_none hDa hT
      refine ⟨T, _, rfl, SqT.of upd_same, rfl, _, _, rfl, _, _, rfl, rfl, rfl, tyes_if ?_⟩
      refine ⟨_, rfl, _, rfl, _, rfl, ite_yes (decide_eq_true q0) ?_⟩
      refine ⟨_, rfl, _, rfl, _, _, rfl, by omega, _, by rw [upd_ne nDT]; exact hDa, small (by rw [List.length_map, List.length_replicate]; omega), ?_, same_put (same_tr sa (same_new hT)) hD⟩
      rw [upd_same, decide_eq_true (show ((kv.2 : Nat) : Int) < (n : Nat) by omega), List.replicate_succ', List.map_append]
      rfl
    · rintro Ha ⟨hDa, sa⟩
      refine ⟨sa _ _ dL, ?_⟩
      have sU : Same H (upd Ha d (.dK (kvOf cs))) := fun b o e => by
        by_cases n : b = d
        · subst n
          rw [hd] at e
          rw [upd_same, e]
        · rw [upd_ne n]
          exact sa _ _ (oL _ _ e n)
      have nD : D ≠ d := ne_of hDa (sa _ _ dL) (by intro z; cases z)
      refine ⟨D, _, rfl, SqL.of (by rw [upd_ne nD]; exact hDa), ?_⟩
      rw [show (List.replicate (kvOf cs).length true).all id = true by simp]
      exact k _ sU
theorem scIsRow : FnScope ["value", "many"] ["value", "many"] (defScope sIsRow) := ⟨rfl, rfl, rfl, by decide +kernel, rfl, by decide +kernel, by decide +kernel⟩
theorem ok_isrow {f fL fW fM fN fC : Addr} {fd fdL fdW fdM fdN fdC : FuncData} (F : Fun K "is_row" "is_row" sIsRow f fd) (GL : FnOk P w K mg base CX0 1 fL fdL ["value"] spIsList) (mL : mg "is_list" = some (.ref fL)) (kL : PySem.W.keepIn K (.ref fL) = true) (bL : Binds K fdL ["value"] []) (GW : FnOk P w K mg base CX0 1 fW fdW ["value"] spIsWhole) (mW : mg "is_whole" = some (.ref fW)) (kW : PySem.W.keepIn K (.ref fW) = true) (bW : Binds K fdW ["value"] []) (GM : FnOk P w K mg base CX0 1 fM fdM ["value"] spIsName) (mM : mg "is_name" = some (.ref fM)) (kM : PySem.W.keepIn K (.ref fM) = true) (bM : Binds K fdM ["value"] []) (GN : FnOk P w K mg base CX0 2 fN fdN ["value", "many"] spIsNumber) (mN : mg "is_number" = some (.ref fN)) (kN : PySem.W.keepIn K (.ref fN) = true) (bN : Binds K fdN ["value", "many"] []) (GC : FnOk P w K mg base CX0 3 fC fdC ["value", "many"] spAreCases) (mC : mg "are_cases" = some (.ref fC)) (kC : PySem.W.keepIn K (.ref fC) = true) (bC : Binds K fdC ["value", "many"] []) (ti : mg "isinstance" = none) (ts : mg "str" = none) (tl : mg "len" = none) :
    FnOk P w K mg base CX0 4 f fd ["value", "many"] spIsRow := by
  refine F.ok scIsRow (fun vs H Q E h => ?_) (fun cdv A outer s H vs Q E hr h => ?_)
  · obtain ⟨a, r, n, cells, rfl, _⟩ := h
    rfl
  · obtain ⟨a, r, n, cells, rfl, hra, rok, nok, k⟩ := h
    have hr1 : Room 1 _ := hr.mono (by decide)
    have hr2 : Room 2 _ := hr.mono (by decide)
    refine ⟨_, pss_cons (ps_if (PW.pt (pw_or (pt_not (pt_val (pe_call GL hr1 rfl mL kL bL .nil pass0 (pa_cons (pv 0) pa_nil)))) (pw_or (pt_cmpR op_lt (pe_callB call_len_seq (by rfl) tl PySem.boot_len (pa_cons (pv 0) pa_nil)) pe_int (nomark _)) (pw_or1 (pt_not (pt_val (pe_callB call_isi (by rfl) ti (by decide +kernel) (pa_cons (pe_ix ix_tup (pv 0) pe_int (fun _ _ => rfl)) (pa_cons (pe_bltn (v := .ty "str") (by rfl) ts (by decide +kernel) rfl) pa_nil))))))))) (pss_one (ps_ret pe_bl)) pss_nil)
      (pss_cons (ps_if (pt_cmpR op_in_seq (pe_ix ix_tup (pv 0) pe_int (fun _ _ => rfl)) (pe_tup (pa_cons pe_str (pa_cons pe_str pa_nil))) (by rfl)) (pss_one (ps_ret (pe_and (pe_cmpR op_eq (pe_callB call_len_seq (by rfl) tl PySem.boot_len (pa_cons (pv 0) pa_nil)) pe_int (nomark _)) (pe_one (pe_call GN hr2 rfl mN kN bN .nil pass0 (pa_cons (pe_ix ix_tup (pv 0) pe_int (fun _ _ => rfl)) (pa_cons (pv 1) pa_nil))))))) pss_nil)
      (pss_cons (ps_if (PW.pt (pw_or (pt_cmpR op_ne (pe_callB call_len_seq (by rfl) tl PySem.boot_len (pa_cons (pv 0) pa_nil)) pe_int (nomark _)) (pw_or (pt_not (pt_val (pe_call GM hr1 rfl mM kM bM .nil pass0 (pa_cons (pe_ix ix_tup (pv 0) pe_int (fun _ _ => rfl)) pa_nil)))) (pw_or1 (pt_not (pt_val (pe_call GN hr2 rfl mN kN bN .nil pass0 (pa_cons (pe_ix ix_tup (pv 0) pe_int (fun _ _ => rfl)) (pa_cons (pv 1) pa_nil))))))))) (pss_one (ps_ret pe_bl)) pss_nil)
      (pss_cons (ps_if (pt_cmpR op_eq (pe_ix ix_tup (pv 0) pe_int (fun _ _ => rfl)) pe_str (nomark _)) (pss_one (ps_ret (pe_call GW hr1 rfl mW kW bW .nil pass0 (pa_cons (pe_ix ix_tup (pv 0) pe_int (fun _ _ => rfl)) pa_nil)))) pss_nil)
      (pss_one (ps_ret (pe_and (pe_cmpR op_eq (pe_ix ix_tup (pv 0) pe_int (fun _ _ => rfl)) pe_str (nomark _)) (pe_one (pe_call GC hr rfl mC kC bC .nil pass0 (pa_cons (pe_ix ix_tup (pv 0) pe_int (fun _ _ => rfl)) (pa_cons (pv 1) pa_nil)))))))))), ?_⟩
    obtain ⟨xs, hx⟩ : ∃ xs, H a = some (.tup xs) := by
      cases r with
      | rest m => exact ⟨_, hra⟩
      | ins m => exact ⟨_, hra⟩
      | wr c v m => exact ⟨_, hra⟩
      | rd c cs m =>
        obtain ⟨d, h1, _⟩ := hra
        exact ⟨_, h1⟩
    refine ⟨_, rfl, a, xs, rfl, .inr hx, fun H1 s1 => ⟨true, rfl, iteF ?_⟩⟩
    have hra1 : RowAt H1 r a := hra.mono (fun b xs x => s1 _ _ x) fun b xs x => s1 _ _ x
    cases r with
    | rest m =>
      refine ⟨_, rfl, a, _, rfl, .inr (SqT.of hra1), _, _, rfl, rfl, _, rfl, ite_no (decide_eq_false (by show ¬ ((2 : Nat) : Int) < 2; decide)) ?_⟩
      refine ⟨_, rfl, a, _, _, _, rfl, rfl, SqT.of hra1, rfl, _, _, _, _, true, rfl, .ty _, .base (.str _), kit_ty (by decide +kernel), true, rfl, iteF ?_⟩
      refine ⟨_, rfl, a, _, _, _, rfl, rfl, SqT.of hra1, rfl, (by show 2 ≤ sizeLine; decide), fun t ht => ⟨t, _, rfl, .inr (SqT.of upd_same), rfl, rfl, _, rfl, ite_yes (by decide +kernel) ?_⟩⟩
      have s2 := same_tr s1 (same_new (o := .tup [V.str "rest", V.str "inside"]) ht)
      have hra2 := hra1.new (o := .tup [V.str "rest", V.str "inside"]) ht
      refine ⟨_, rfl, a, _, rfl, .inr (SqT.of hra2), rfl, _, rfl, ite_yes (decide_eq_true rfl) ?_⟩
      refine ⟨_, rfl, a, _, _, _, rfl, rfl, SqT.of hra2, rfl, _, rfl, _, _, rfl, by omega, ?_⟩
      rw [decide_eq_true (show ((m : Nat) : Int) < (n : Nat) by have : m < n := rok; omega)]
      exact k _ s2
    | ins m =>
      refine ⟨_, rfl, a, _, rfl, .inr (SqT.of hra1), _, _, rfl, rfl, _, rfl, ite_no (decide_eq_false (by show ¬ ((2 : Nat) : Int) < 2; decide)) ?_⟩
      refine ⟨_, rfl, a, _, _, _, rfl, rfl, SqT.of hra1, rfl, _, _, _, _, true, rfl, .ty _, .base (.str _), kit_ty (by decide +kernel), true, rfl, iteF ?_⟩
      refine ⟨_, rfl, a, _, _, _, rfl, rfl, SqT.of hra1, rfl, (by show 2 ≤ sizeLine; decide), fun t ht => ⟨t, _, rfl, .inr (SqT.of upd_same), rfl, rfl, _, rfl, ite_yes (by decide +kernel) ?_⟩⟩
      have s2 := same_tr s1 (same_new (o := .tup [V.str "rest", V.str "inside"]) ht)
      have hra2 := hra1.new (o := .tup [V.str "rest", V.str "inside"]) ht
      refine ⟨_, rfl, a, _, rfl, .inr (SqT.of hra2), rfl, _, rfl, ite_yes (decide_eq_true rfl) ?_⟩
      refine ⟨_, rfl, a, _, _, _, rfl, rfl, SqT.of hra2, rfl, _, rfl, _, _, rfl, by omega, ?_⟩
      rw [decide_eq_true (show ((m : Nat) : Int) < (n : Nat) by have : m < n := rok; omega)]
      exact k _ s2
    | wr c v m =>
      refine ⟨_, rfl, a, _, rfl, .inr (SqT.of hra1), _, _, rfl, rfl, _, rfl, ite_no (decide_eq_false (by show ¬ ((4 : Nat) : Int) < 2; decide)) ?_⟩
      refine ⟨_, rfl, a, _, _, _, rfl, rfl, SqT.of hra1, rfl, _, _, _, _, true, rfl, .ty _, .base (.str _), kit_ty (by decide +kernel), true, rfl, iteF ?_⟩
      refine ⟨_, rfl, a, _, _, _, rfl, rfl, SqT.of hra1, rfl, (by show 2 ≤ sizeLine; decide), fun t ht => ⟨t, _, rfl, .inr (SqT.of upd_same), rfl, rfl, _, rfl, ite_no (by decide +kernel) ?_⟩⟩
      have s2 := same_tr s1 (same_new (o := .tup [V.str "rest", V.str "inside"]) ht)
      have hra2 := hra1.new (o := .tup [V.str "rest", V.str "inside"]) ht
      refine ⟨_, rfl, a, _, rfl, .inr (SqT.of hra2), rfl, _, rfl, ite_no (not_dec rfl) ?_⟩
      refine ⟨_, rfl, a, _, _, _, rfl, rfl, SqT.of hra2, rfl, c, rfl, nok c rok.1, true, rfl, iteF ?_⟩
      refine ⟨_, rfl, a, _, _, _, rfl, rfl, SqT.of hra2, rfl, _, rfl, _, _, rfl, by omega, _, rfl, ite_no (by rw [decide_eq_true (show ((m : Nat) : Int) < (n : Nat) by have : m < n := rok.2.2; omega)]; rfl) ?_⟩
      refine ⟨_, rfl, a, _, _, _, rfl, rfl, SqT.of hra2, rfl, rfl, _, rfl, ite_yes (decide_eq_true rfl) ?_⟩
      refine ⟨_, rfl, a, _, _, _, rfl, rfl, SqT.of hra2, rfl, _, rfl, ?_⟩
      rw [decide_eq_true (show v ≥ 0 from rok.2.1)]
      exact k _ s2
    | rd c cs m =>
      obtain ⟨d, h1, h2⟩ := hra1
      refine ⟨_, rfl, a, _, rfl, .inr (SqT.of h1), _, _, rfl, rfl, _, rfl, ite_no (decide_eq_false (by show ¬ ((4 : Nat) : Int) < 2; decide)) ?_⟩
      refine ⟨_, rfl, a, _, _, _, rfl, rfl, SqT.of h1, rfl, _, _, _, _, true, rfl, .ty _, .base (.str _), kit_ty (by decide +kernel), true, rfl, iteF ?_⟩
      refine ⟨_, rfl, a, _, _, _, rfl, rfl, SqT.of h1, rfl, (by show 2 ≤ sizeLine; decide), fun t ht => ⟨t, _, rfl, .inr (SqT.of upd_same), rfl, rfl, _, rfl, ite_no (by decide +kernel) ?_⟩⟩
      have s2 := same_tr s1 (same_new (o := .tup [V.str "rest", V.str "inside"]) ht)
      have h3 : (upd H1 t (.tup [V.str "rest", V.str "inside"])) a = some (.tup [V.str "read", V.str c, V.ref d, V.int (m : Nat)]) := by
        rw [upd_ne (ne_of_none h1 ht)]
        exact h1
      have h4 : (upd H1 t (.tup [V.str "rest", V.str "inside"])) d = some (.dK (kvOf cs)) := by
        rw [upd_ne (ne_of_none h2 ht)]
        exact h2
      refine ⟨_, rfl, a, _, rfl, .inr (SqT.of h3), rfl, _, rfl, ite_no (not_dec rfl) ?_⟩
      refine ⟨_, rfl, a, _, _, _, rfl, rfl, SqT.of h3, rfl, c, rfl, nok c rok.1, true, rfl, iteF ?_⟩
      refine ⟨_, rfl, a, _, _, _, rfl, rfl, SqT.of h3, rfl, _, rfl, _, _, rfl, by omega, _, rfl, ite_no (by rw [decide_eq_true (show ((m : Nat) : Int) < (n : Nat) by have : m < n := rok.2.2.2.1; omega)]; rfl) ?_⟩
      refine ⟨_, rfl, a, _, _, _, rfl, rfl, SqT.of h3, rfl, rfl, _, rfl, ite_no (decide_eq_false (by intro z; cases z)) ?_⟩
      refine ⟨_, rfl, a, _, _, _, rfl, rfl, SqT.of h3, rfl, rfl, _, rfl, ite_yes (decide_eq_true rfl) ?_⟩
      exact ⟨_, rfl, a, _, _, _, rfl, rfl, SqT.of h3, rfl, _, rfl, d, cs, n, rfl, h4, rok.2.2.1, rok.2.2.2.2, fun H3 s3 => k _ (same_tr s2 s3)⟩
end
end CC

set_option Elab.async false
set_option maxRecDepth 100000
namespace CC
open PySem L2
set_option linter.unusedVariables false
theorem dcit {J : It} {n : Nat} {G : Hp → Prop} {Y : Nat → Hp → V → Hp → Prop} (wk : Walk J n G Y) {g : TG} {tt : TT} {tk tv : TE} {vs : List Nat} {σ : L2.St} {H1 : Hp} {D : Addr} {Qd : Hp → Prop}
    (Pv : Nat → Hp → Prop) (start : Pv 0 (upd H1 D (.dK []))) (stands : ∀ i H, i ≤ n → Pv i H → G H)
    (turn : ∀ i x H H', i < n → Pv i H → Y i H x H' → g x (wipe σ vs) H' fun σ2 H2 => wipe σ2 vs = wipe σ vs ∧ tt σ2 H2 fun b H3 =>
      if b = true then tk σ2 H3 fun y H4 => tv σ2 H4 fun z H5 => ∃ kvs k, y = kV k ∧ H5 D = some (.dK kvs) ∧ kvs.length < sizeLine ∧ Pv (i + 1) (upd H5 D (.dK (putK kvs k z))) else Pv (i + 1) H3) (fine : ∀ H, Pv n H → Qd H) :
    ∃ W : Nat → Nat → Hp → Prop, (∃ m, W 0 m (upd H1 D (.dK []))) ∧ ∀ i m H, W i m H →
      (J.stop i H ∧ Qd H) ∨ (J.go i H ∧ ∃ Nx : Hp → Prop, (∀ H', Nx H' → ∃ m', m' < m ∧ W (i + 1) m' H') ∧ ∀ x H', J.yld i H x H' → g x (wipe σ vs) H' fun σ2 H2 => wipe σ2 vs = wipe σ vs ∧ tt σ2 H2 fun b H3 =>
        if b = true then tk σ2 H3 fun y H4 => tv σ2 H4 fun z H5 => ∃ kvs k, y = kV k ∧ H5 D = some (.dK kvs) ∧ kvs.length < sizeLine ∧ Nx (upd H5 D (.dK (putK kvs k z))) else Nx H3) := by
  refine ⟨fun i m H => m = n - i ∧ i ≤ n ∧ Pv i H, ⟨n, rfl, Nat.zero_le _, start⟩, fun i m H ⟨em, hi, hP⟩ => ?_⟩
  have hG := stands i H hi hP
  by_cases lt : i < n
  · exact .inr ⟨wk.goes i H lt hG, Pv (i + 1), fun H' z => ⟨n - (i + 1), by omega, rfl, lt, z⟩, fun x H' y => turn i x H H' lt hP (wk.yields i H x H' lt hG y)⟩
  · obtain rfl : i = n := by omega
    exact .inl ⟨wk.stops H hG, fine H hP⟩
def Row.fol : Row → List Nat
  | .rest m => [m]
  | .ins m => [m]
  | .wr _ _ m => [m]
  | .rd _ cs m => cs.map (·.2) ++ [m]
/-- the same row but for the order of its cases -/
def RSim : Row → Row → Prop
  | .rest m, .rest m' => m = m'
  | .ins m, .ins m' => m = m'
  | .wr c v m, .wr c' v' m' => c = c' ∧ v = v' ∧ m = m'
  | .rd c cs m, .rd c' cs' m' => c = c' ∧ cs.Perm cs' ∧ m = m'
  | _, _ => False
def look (cs : List (Int × Nat)) (k : Int) : Nat := ((cs.find? fun kv => decide (kv.1 = k)).map (·.2)).getD 0
theorem look_mem {k : Int} : ∀ {cs : List (Int × Nat)}, k ∈ cs.map (·.1) → (k, look cs k) ∈ cs
  | p :: r, h => by
    by_cases e : p.1 = k
    · have : look (p :: r) k = p.2 := by
        unfold look
        rw [List.find?_cons, decide_eq_true e]
        rfl
      rw [this, ← e]
      exact List.mem_cons_self ..
    · have : look (p :: r) k = look r k := by
        unfold look
        rw [List.find?_cons, decide_eq_false e]
      rw [this]
      refine List.mem_cons_of_mem _ (look_mem ?_)
      cases h with
      | head => exact absurd rfl e
      | tail _ h => exact h
theorem nodup_val {k : Int} {a b : Nat} : ∀ {cs : List (Int × Nat)}, (cs.map (·.1)).Nodup → (k, a) ∈ cs → (k, b) ∈ cs → a = b := fun nd h1 h2 => by
  have e1 := valV_mem nd h1
  rw [valV_mem nd h2] at e1
  injection e1 with e1
  injection e1 with e1
  omega
theorem look_perm {cs : List (Int × Nat)} {ys : List Int} (nd : (cs.map (·.1)).Nodup) (h : ys.Perm (cs.map (·.1))) : cs.Perm (ys.map fun k => (k, look cs k)) := by
  have e : (cs.map (·.1)).map (fun k => (k, look cs k)) = cs := by
    rw [List.map_map]
    refine Eq.trans (List.map_congr_left fun kv hkv => ?_) (List.map_id cs)
    show (kv.1, look cs kv.1) = kv
    rw [nodup_val nd (look_mem (List.mem_map.mpr ⟨kv, hkv, rfl⟩)) (show (kv.1, kv.2) ∈ cs from hkv)]
  have p := h.map (fun k => (k, look cs k))
  rw [e] at p
  exact p.symm
def spCopied : Sp := fun vs H Q _ => ∃ (a : Addr) (r : Row) (n : Nat), vs = [.ref a] ∧ RowAt H r a ∧ r.low n ∧ ∀ (b : Addr) (r' : Row) (H' : Hp), Same H H' → RowAt H' r' b → RSim r r' → Q (.ref b) H'
def spFollowers : Sp := fun vs H Q _ => ∃ (a : Addr) (r : Row) (n : Nat), vs = [.ref a] ∧ RowAt H r a ∧ r.low n ∧ ∀ (b : Addr) (H' : Hp), Same H H' → H b = none → H' b = some (.lst (r.fol.map fun (m : Nat) => V.int (m : Nat))) → Q (.ref b) H'
section
variable {P : Program} {w : World} {K : PySem.W.Frag} {mg : Str → Option Value} {base : Heap}
theorem scCopied : FnScope ["row", "cases", "worth"] ["row"] (defScope sCopied) := ⟨rfl, rfl, rfl, by decide +kernel, rfl, by decide +kernel, by decide +kernel⟩
theorem ok_copied {f : Addr} {fd : FuncData} (F : Fun K "copied" "copied" sCopied f fd) (tt : mg "tuple" = none) (ts : mg "sorted" = none) :
    FnOk P w K mg base CX0 1 f fd ["row"] spCopied := by
  refine F.ok scCopied (fun vs H Q E h => ?_) (fun cdv A outer s H vs Q E hr h => ?_)
  · obtain ⟨a, r, n, rfl, _⟩ := h
    rfl
  · obtain ⟨a, r, n, rfl, hra, low, k⟩ := h
    have hu := hu_of hr
    refine ⟨_, pss_cons (ps_if (pt_cmpR op_eq (pe_ix ix_tup (pv 0) pe_int (fun _ _ => rfl)) pe_str (nomark _))
      (pss_cons (ps_set (i := 1) scCopied.nd rfl (Or.inr rfl) (pe_ix ix_tup (pv 0) pe_int (fun _ _ => rfl)))
      (pss_one (ps_ret (pe_tup (pa_cons pe_str (pa_cons (pe_ix ix_tup (pv 0) pe_int (fun _ _ => rfl)) (pa_cons
        (pe_dc (own := [("worth", 2)]) (g := gName 2) (by rfl) scCopied.nd (pi_list (pe_callB (call_sortedDI rfl) (by rfl) ts (by decide +kernel) (pa_cons (pv 1) pa_nil))) (blkOk_by (own := [("worth", 2)]) (N := ["row", "cases", "worth"]) (sc := defScope sCopied) (by decide +kernel)) (fun _ _ _ _ _ => pg_name (i := 2) scCopied.nd rfl (Or.inl rfl)) (fun _ _ _ _ _ => pts_nil) (fun _ _ _ _ _ => pv 2) (fun _ _ _ _ _ => pe_dget hu (pv 1) (pv 2) (fun _ _ => rfl)))
        (pa_cons (pe_ix ix_tup (pv 0) pe_int (fun _ _ => rfl)) pa_nil)))))))) pss_nil)
      (pss_one (ps_ret (pe_callTy call_tupleT (by rfl) tt (by decide +kernel) (pa_cons (pv 0) pa_nil)))), ?_⟩
    cases r with
    | rest m =>
      refine ⟨_, rfl, a, _, _, _, rfl, rfl, SqT.of hra, rfl, rfl, _, rfl, ite_no (decide_eq_false (by intro z; cases z)) ?_⟩
      exact ⟨_, rfl, a, _, rfl, SqT.of hra, k a (.rest m) H (fun _ _ e => e) hra rfl⟩
    | ins m =>
      refine ⟨_, rfl, a, _, _, _, rfl, rfl, SqT.of hra, rfl, rfl, _, rfl, ite_no (decide_eq_false (by intro z; cases z)) ?_⟩
      exact ⟨_, rfl, a, _, rfl, SqT.of hra, k a (.ins m) H (fun _ _ e => e) hra rfl⟩
    | wr c v m =>
      refine ⟨_, rfl, a, _, _, _, rfl, rfl, SqT.of hra, rfl, rfl, _, rfl, ite_no (decide_eq_false (by intro z; cases z)) ?_⟩
      exact ⟨_, rfl, a, _, rfl, SqT.of hra, k a (.wr c v m) H (fun _ _ e => e) hra ⟨rfl, rfl, rfl⟩⟩
    | rd c cs m =>
      obtain ⟨d, h1, h2⟩ := hra
      refine ⟨_, rfl, a, _, _, _, rfl, rfl, SqT.of h1, rfl, rfl, _, rfl, ite_yes (decide_eq_true rfl) ?_⟩
      refine ⟨_, rfl, a, _, _, _, rfl, rfl, SqT.of h1, rfl, ?_⟩
      obtain ⟨ndk, lowk, mn, c10⟩ := low
      refine ⟨_, rfl, a, _, _, _, rfl, rfl, SqT.of h1, rfl, ?_⟩
      refine ⟨_, rfl, d, kvOf cs, cs.map (·.1), rfl, .inl h2, by unfold kvOf; rw [List.map_map, List.map_map]; rfl, by rw [List.length_map]; omega, fun ys q perm srt hq => ?_⟩
      have yl : ys.length = cs.length := by rw [perm.length_eq, List.length_map]
      have ynd : ys.Nodup := perm.nodup_iff.mpr ndk
      have s1 : Same H (upd H q (.lst (ys.map V.int))) := same_new hq
      have q1 : (upd H q (.lst (ys.map V.int))) q = some (.lst (ys.map V.int)) := upd_same
      revert s1 q1
      generalize (upd H q (.lst (ys.map V.int))) = H1
      intro s1 q1
      refine ⟨q, rfl, ⟨_, SqL.of q1⟩, fun D hD => ?_⟩
      refine dcit (walk_list (K := K) (a := q) (xs := ys.map V.int)) (fun i H2 => H2 D = some (.dK (kvOf ((ys.take i).map fun k => (k, look cs k)))) ∧ Same H1 H2) ⟨upd_same, same_new hD⟩ (fun i H2 _ e => SqL.of (e.2 _ _ q1)) ?_ ?_
      · rintro i x Ha Hb hi ⟨hDa, sa⟩ ⟨rfl, hx⟩
        rw [List.getElem?_map] at hx
        obtain ⟨z, hz, rfl⟩ : ∃ z, ys[i]? = some z ∧ x = V.int z := by
          cases e : ys[i]? with
          | none =>
            rw [e] at hx
            cases hx
          | some z =>
            rw [e] at hx
            exact ⟨z, rfl, (Option.some.inj hx).symm⟩
        have zin : z ∈ cs.map (·.1) := perm.mem_iff.mp (List.mem_of_getElem? hz)
        have tk : ys.take (i + 1) = ys.take i ++ [z] := by rw [List.take_add_one, hz]; rfl
        have zn : z ∉ ys.take i := fun m => by
          have nd2 : (ys.take (i + 1)).Nodup := ynd.sublist (List.take_sublist _ _)
          rw [tk, List.nodup_append] at nd2
          exact nd2.2.2 z m z (List.mem_cons_self ..) rfl
        refine ⟨rfl, tyes_if ?_⟩
        refine ⟨_, rfl, _, rfl, _, rfl, d, V.int (look cs z : Nat), rfl, ?_, _, Sum.inl z, rfl, hDa, ?_, ?_, same_put sa hD⟩
        · rw [← valV_mem ndk (look_mem zin)]
          exact DGet.k (k := Sum.inl z) (sa _ _ (s1 _ _ h2))
        · refine small ?_
          unfold kvOf
          rw [List.length_map, List.length_map, List.length_take]
          omega
        · rw [upd_same, putK_new _ (valV_kv (by rw [List.map_map]; intro m; obtain ⟨j, hj, e⟩ := List.mem_map.mp m; exact zn (by have e' : j = z := e; rw [← e']; exact hj))), tk]
          unfold kvOf
          rw [List.map_append, List.map_append]
          rfl
      · rintro Ha ⟨hDa, sa⟩
        rw [List.length_map, List.take_length] at hDa
        have a1 := sa _ _ (s1 _ _ h1)
        refine ⟨_, rfl, a, _, _, _, rfl, rfl, SqT.of a1, rfl, (by show 4 ≤ sizeLine; decide), fun b hb => ?_⟩
        exact k b (.rd c (ys.map fun k => (k, look cs k)) m) _ (same_tr (same_tr s1 sa) (same_new hb)) ⟨D, upd_same, by rw [upd_ne (ne_of_none hDa hb)]; exact hDa⟩ ⟨rfl, look_perm ndk perm, rfl⟩
theorem scFollowers : FnScope ["row"] ["row"] (defScope sFollowers) := ⟨rfl, rfl, rfl, by decide +kernel, rfl, by decide +kernel, by decide +kernel⟩
theorem ok_followers {f : Addr} {fd : FuncData} (F : Fun K "followers" "followers" sFollowers f fd) (tl : mg "list" = none) :
    FnOk P w K mg base CX0 1 f fd ["row"] spFollowers := by
  refine F.ok scFollowers (fun vs H Q E h => ?_) (fun cdv A outer s H vs Q E hr h => ?_)
  · obtain ⟨a, r, n, rfl, _⟩ := h
    rfl
  · obtain ⟨a, r, n, rfl, hra, low, k⟩ := h
    refine ⟨_, pss_cons (ps_if (pt_cmpR op_eq (pe_ix ix_tup (pv 0) pe_int (fun _ _ => rfl)) pe_str (nomark _))
      (pss_one (ps_ret (pe_op op_cat (pe_lvals rfl (pe_ix ix_tup (pv 0) pe_int (fun _ _ => rfl)) (by rfl) tl (by decide +kernel)) (pe_lst (pa_cons (pe_ix ix_tup (pv 0) pe_int (fun _ _ => rfl)) pa_nil))))) pss_nil)
      (pss_one (ps_ret (pe_lst (pa_cons (pe_ix ix_tup (pv 0) (pe_un un_neg pe_int) (fun _ _ => rfl)) pa_nil)))), ?_⟩
    cases r with
    | rest m =>
      refine ⟨_, rfl, a, _, _, _, rfl, rfl, SqT.of hra, rfl, rfl, _, rfl, ite_no (decide_eq_false (by intro z; cases z)) ?_⟩
      exact ⟨_, rfl, _, rfl, a, _, _, _, rfl, rfl, SqT.of hra, rfl, (by show 1 ≤ sizeLine; decide), fun b hb => k b _ (same_new hb) hb upd_same⟩
    | ins m =>
      refine ⟨_, rfl, a, _, _, _, rfl, rfl, SqT.of hra, rfl, rfl, _, rfl, ite_no (decide_eq_false (by intro z; cases z)) ?_⟩
      exact ⟨_, rfl, _, rfl, a, _, _, _, rfl, rfl, SqT.of hra, rfl, (by show 1 ≤ sizeLine; decide), fun b hb => k b _ (same_new hb) hb upd_same⟩
    | wr c v m =>
      refine ⟨_, rfl, a, _, _, _, rfl, rfl, SqT.of hra, rfl, rfl, _, rfl, ite_no (decide_eq_false (by intro z; cases z)) ?_⟩
      exact ⟨_, rfl, _, rfl, a, _, _, _, rfl, rfl, SqT.of hra, rfl, (by show 1 ≤ sizeLine; decide), fun b hb => k b _ (same_new hb) hb upd_same⟩
    | rd c cs m =>
      obtain ⟨d, h1, h2⟩ := hra
      refine ⟨_, rfl, a, _, _, _, rfl, rfl, SqT.of h1, rfl, rfl, _, rfl, ite_yes (decide_eq_true rfl) ?_⟩
      refine ⟨_, rfl, a, _, _, _, rfl, rfl, SqT.of h1, rfl, d, _, rfl, h2, fun q hq => ?_⟩
      have a1 := same_new (o := .lst ((kvOf cs).map (·.2))) hq _ _ h1
      refine ⟨_, rfl, a, _, _, _, rfl, rfl, SqT.of a1, rfl, (by show 1 ≤ sizeLine; decide), fun b hb => ?_⟩
      refine ⟨q, b, _, _, rfl, rfl, by rw [upd_ne (ne_of_none upd_same hb)]; exact upd_same, upd_same, ?_, fun c hc => ?_⟩
      · unfold kvOf
        rw [List.length_map, List.length_map]
        exact Nat.le_of_lt (small (by show cs.length + 1 < 1000000; have := low.2.2.2; omega))
      · refine k c _ (same_tr (same_tr (same_new hq) (same_new hb)) (same_new hc)) ((same_tr (same_new hq) (same_new hb)).free hc) ?_
        rw [upd_same]
        unfold kvOf Row.fol
        rw [List.map_map, List.map_append, List.map_map]
        rfl
end
end CC

set_option Elab.async false
set_option maxRecDepth 100000
/-! ### enumerate over a tuple -/
namespace CC
open PySem PySem.Spec PyProof.Rows L2
open AutoSeq1 (wpAny_loadPart')
set_option linter.unusedVariables false
abbrev tupIt (t : Addr) : Obj := { cls := .type "tuple_iterator", data := .fields #[.ref t, .int 0 0] }
abbrev enuOb (i : Addr) : Obj := { cls := .type "enumerate", data := .fields #[.none, .bool false, .ref i, rawInt 0, .none, .none] }
theorem enu_new (t : Addr) (items : Array Value) (n : Nat) (dct : Option Addr) (sl : Array (Option Value)) :
    Meets (Builtin.«enumerate.__new__» ⟨[.type "enumerate", .ref t], []⟩) (fun _ R s => s.heap.get? t = some { cls := .type "tuple", dict := dct, data := .seq items n, slots := sl } ∧
      R (.ok (.ret (.ref (s.heap.push (tupIt t)).objs.size))) { s with heap := (s.heap.push (tupIt t)).push (enuOb s.heap.objs.size) }) := by
  refine .of_wp fun prog w A R s h => ?_
  obtain ⟨hp, g, d, tk, os⟩ := s
  obtain ⟨hl, h⟩ := h
  have hsub := sub_enumerate
  have isT : Heap.IsTuple (Shared.heap ⟨hp, g, d, tk, os⟩) t items := ⟨_, hl, rfl, n, rfl⟩
  wp_walk using wpAny_loadPart' hl
  refine wpAny_stack_any fun st => wpAny_pure ?_
  split
  · rename_i c _ _ _ _ _
    cases (c == Value.type "enumerate") <;> (wp_walk using wpAny_loadPart' hl, wpAny_pyIter_tuple isT) <;> exact ⟨_, rfl, h⟩
  · wp_walk using wpAny_loadPart' hl, wpAny_pyIter_tuple isT
    exact ⟨_, rfl, h⟩
end CC
namespace CC
open PySem PySem.Spec PyProof.Rows L2
section
variable {prog : Program} {w : World} {A : Around} {E : Value → Shared → Prop} {s : Shared}
theorem enu_call {t : Addr} {items : Array Value} {Q : Value → Shared → Prop} (ht : s.heap.IsTuple t items)
    (h : ∀ h', IsEnum h' (s.heap.objs.size + 1) s.heap.objs.size 0 .none → h'.IsTupleIter s.heap.objs.size t 0 → (∀ b o, s.heap.get? b = some o → h'.get? b = some o) → Q (.ref (s.heap.objs.size + 1)) { s with heap := h' }) :
    wpAny (model prog w) A (call (.type "enumerate") [.ref t]) Q E s := by
  obtain ⟨⟨c, dct, dt, sl⟩, hl, hc, n, hd⟩ := ht
  have hc' : c = .type "tuple" := hc
  have hd' : dt = .seq items n := hd
  subst hc' hd'
  have M := enu_new t items n dct sl
  refine callType_new F.called_enumerate (by decide) (F.typeCall_enumerate_1 _) (F.newCall_enumerate_1 _) (fun obj => F.args_object_init_2 obj _) F.entry_enumerate_new M ⟨hl, ?_⟩
  have hz : (s.heap.push (tupIt t)).objs.size = s.heap.objs.size + 1 := Heap.size_push ..
  have he : IsEnum ((s.heap.push (tupIt t)).push (enuOb s.heap.objs.size)) (s.heap.objs.size + 1) s.heap.objs.size 0 .none := by
    have z := Heap.get?_push_size (s.heap.push (tupIt t)) (o := enuOb s.heap.objs.size) rfl
    rw [hz] at z
    exact z
  show _ ∧ _
  rw [hz]
  refine ⟨⟨_, he, rfl⟩, h _ he ⟨_, Heap.get?_push_of_some _ (Heap.get?_push_size _ rfl), rfl, rfl⟩ fun b o x => ?_⟩
  exact Heap.get?_push_of_some _ (Heap.get?_push_of_some _ x)
end
/-- the tuple at a, each item in a new pair with its number -/
def IteT (K : PySem.W.Frag) (a : Addr) : It :=
  ⟨fun i H => ∃ (xs : List V) (x : V), SqT K H a xs ∧ xs[i]? = some x,
   fun i H v H' => ∃ T x, v = .ref T ∧ H T = none ∧ H' = upd H T (.tup [.int (i : Nat), x]) ∧ ∀ xs, SqT K H a xs → xs[i]? = some x,
   fun i H => ∃ xs : List V, SqT K H a xs ∧ xs.length ≤ i⟩
theorem walk_enumT {K : PySem.W.Frag} {a : Addr} {xs : List V} : Walk (IteT K a) xs.length (fun H => SqT K H a xs) (YPair (fun i => some (.int (i : Nat))) (fun i => xs[i]?)) :=
  ⟨fun i _ hi q => ⟨xs, xs[i], q, by simp [hi]⟩, fun _ q => ⟨xs, q, Nat.le_refl _⟩, fun i H v H' _ q y => by
    obtain ⟨T, x, h1, h2, h3, h4⟩ := y
    exact ⟨T, .int (i : Nat), x, h1, h2, h3, rfl, h4 xs q⟩⟩
end CC

set_option Elab.async false
set_option maxRecDepth 100000
namespace CC
open PySem PySem.Spec PyProof.Rows L2
set_option linter.unusedVariables false
theorem enu_ne {h : Heap} {e it a : Addr} {i : Int} {old : Value} {items : Array Value} (he : IsEnum h e it i old) (ht : IsTup h a items) : e ≠ a := fun z => by
  obtain ⟨o, ho, hc, _⟩ := ht
  have he' : h.get? e = some _ := he
  rw [z, ho] at he'
  have q := Option.some.inj he'
  rw [q] at hc
  have hc' : (Value.type "enumerate") = Value.type "tuple" := hc
  injection hc' with hc'
  exact absurd hc' (by decide)
theorem enu_end {prog : Program} {w : World} {A : Around} {E : Value → Shared → Prop} {s : Shared} {e it t : Addr} {i : Nat} {c : Int} {items : Array Value} {old : Value} {Q : Option Value → Shared → Prop} (hh : A.handled = none)
    (he : IsEnum s.heap e it c old) (hit : s.heap.IsTupleIter it t i) (ht : s.heap.IsTuple t items) (hx : items[i]? = none) (hQ : ∀ h', Heap.ExtBut it s.heap h' → Q none { s with heap := h' }) : wpAny (model prog w) A (pyNext (.ref e)) Q E s := by
  have ty : s.TypeIs (.ref e) "enumerate" := ⟨_, he, rfl⟩
  have slot := F.slot_enumerate_next
  unfold pyNext
  refine wpAny_bind (wpAny_attempt (wpAny_callSpecial?_slot (name := Str.ofString "__next__") ty slot (wpAny_call_entry slot ty F.entry_enumerate_next ?_ (F.args_enumerate_next_1 _))))
  show wpAny _ _ (field (.ref e) 2 >>= _) _ _ _
  refine wpAny_bind (wpAny_field he rfl (x := .ref it) rfl (wpAny_bind (wpAny_nextOf_tuple_end hh hit ht hx fun h' x he' hx' => ?_)))
  obtain ⟨o, ho, hc⟩ := hx'
  exact wpAny_bind (wpAny_isInstance (T := "StopIteration") (b := true) ⟨o, ho, hc⟩ isSubtype_stop (wpAny_pure (hQ _ he')))
theorem turn_enumT {P : Program} {w : World} {K : PySem.W.Frag} {elts : List Expr} {kk : Nat} {tpos : Pos} (a e it : Addr) :
    Turn P w K (.Tuple elts kk tpos) (IteT K a) [e, it] e (fun i h => (∃ old, IsEnum h e it ((i : Nat) : Int) old) ∧ h.IsTupleIter it a i ∧ e ≠ it ∧ a ≠ it) where
  mem := by simp
  obj := fun i h st b hb => by
    obtain ⟨⟨old, he⟩, ⟨o, ho, hc, hd⟩, _⟩ := st
    rcases (show b = e ∨ b = it by simpa using hb) with z | z
    · subst z
      exact ⟨_, he, fun v q => nomatch q⟩
    · subst z
      exact ⟨o, ho, fun v q => by rw [hd] at q; cases q⟩
  keep := fun i h h' st k => by
    obtain ⟨⟨old, he⟩, hi, hne⟩ := st
    exact ⟨⟨old, k e (by simp) _ he⟩, hi.at fun o q => k it (by simp) o q, hne⟩
  item := by
    intro X hP hw hK hc i pins s σ H E I hf st hg
    subst hP hw hK
    obtain ⟨⟨old, he⟩, hit, hne, hat⟩ := st
    obtain ⟨xs, x, hq, hx⟩ := hg
    obtain ⟨its, rv, p, hz⟩ := I.tuple hq
    obtain ⟨u, hu, ru⟩ := rv.get hx
    have hel : e < s.heap.objs.size := Heap.lt_size he
    have hil : it < s.heap.objs.size := by
      obtain ⟨_, q, _⟩ := hit
      exact Heap.lt_size q
    have hi : i < its.toArray.size := by
      have := (List.getElem?_eq_some_iff.mp hu).1
      rw [List.size_toArray]
      exact this
    have hea := enu_ne he p
    have D := Draws.tuple (prog := X.prog) (w := X.w) (A := X.A.in1) (I.ok.hd hc) it a hat its.toArray
    refine wpAny_pyNext_enum_itemC D he ⟨hit, p⟩ hi hne (by simp [hne, hea]) fun u' h' tk hu' ho hit' hT hsz hk => ?_
    have eu : u' = u := by
      have z : its[i]? = some u' := by simpa using hu'
      rw [hu] at z
      exact (Option.some.inj z).symm
    subst eu
    refine ⟨_, rfl, wpAny_letOwnedTupleGo_enum (s := { s with heap := h', toks := tk + 1 }) ho fun h'' he' sb => ?_⟩
    have hT2 := (sb.2 _ (Nat.ne_of_gt hel)).trans hT
    have new : ObjOk X.prog X.w (upd H s.heap.objs.size (.tup [.int (i : Nat), x])) h'' s.heap.objs.size (.tup [.int (i : Nat), x]) :=
      ⟨by show 2 ≤ sizeLine; decide, [.int i tk, u'], .cons ⟨_, rfl⟩ (.cons ru .nil), ⟨_, hT2, rfl, _, rfl⟩⟩
    have I1 : Inv X pins σ (upd H s.heap.objs.size (.tup [.int (i : Nat), x])) { s with heap := h'', toks := tk + 1 } := by
      refine I.turnedNew (ch := [e, it]) (fun b ob hb q => ?_) hf (Nat.le_refl _) new
      have n1 : b ≠ e := fun z => hb (by simp [z])
      exact (sb.2 b n1).trans (hk b ob n1 (fun z => hb (by simp [z])) q)
    refine ⟨.ref s.heap.objs.size, _, I1, rfl, ⟨_, x, rfl, I.hok.fresh (Nat.le_refl _), rfl, fun ys hy => ?_⟩, ⟨⟨u', ?_⟩, hit'.1.at fun o q => (sb.2 it (Ne.symm hne)).trans q, hne, hat⟩, fun b hb => ?_⟩
    · have z := I.tuple_inj hy hq
      rw [z]
      exact hx
    · rw [show ((i + 1 : Nat) : Int) = (i : Int) + 1 by omega]
      exact he'
    · have hb' : b < s.heap.objs.size := by
        rcases (show b = e ∨ b = it by simpa using hb) with z | z
        · rw [z]; exact hel
        · rw [z]; exact hil
      rw [upd_ne (Nat.ne_of_lt hb')]
      exact (hf b hb).1
  done := by
    intro X hP hw hK hc i pins s σ H E I hf st hg
    subst hP hw hK
    obtain ⟨⟨old, he⟩, hit, hne, hat⟩ := st
    obtain ⟨xs, hq, hx⟩ := hg
    obtain ⟨its, rv, p, hz⟩ := I.tuple hq
    obtain ⟨f0, f1, f2, f3, f4, f5⟩ := hf it (by simp)
    have hl := rv.length
    refine enu_end (I.ok.hd hc) he hit p (by simp; omega) fun h' eb => ⟨rfl, ?_⟩
    exact I.turned (t' := s.toks) (fun b o hb q => eb b o hb q) f0 f1 f3 f4 f5
  self := fun A i s Q E st h => by
    obtain ⟨⟨_, he⟩, _⟩ := st
    exact wpAny_pyIter_enum he h
def iEnumT (K : PySem.W.Frag) (ta : TA) : TI := fun σ H R => ta σ H fun vs H1 => ∃ a xs, vs = [.ref a] ∧ SqT K H1 a xs ∧ R (IteT K a) H1
theorem pi_enumT {X : Cx} {e : Expr} {ta : TA} {p pos tpos : Pos} {elts : List Expr} {kk : Nat} (hg : Gl X "enumerate") (hm : X.mg "enumerate" = none) (ha : PA X [e] ta)
    (hs : starEach [e] X.env = [(false, eval e X.env)] := by rfl) : PI X (.Tuple elts kk tpos) (.Call (.Name "enumerate" p) [e] [] pos) (iEnumT X.K ta) := by
  refine ⟨fun pins s σ H R I h => ?_⟩
  have run := ha.run pos pins s σ H _ I h
  refine Call_ (ld_blt I hg hm boot_enumerate (PyProof.Rows.callWith_type1 (thn run fun us s1 ⟨vs, H1, I1, r1, q1⟩ => ?_) hs rfl))
  obtain ⟨a, xs, ex, hq, q⟩ := q1
  subst ex
  cases r1 with
  | cons r rr =>
    cases rr
    cases r
    obtain ⟨its, rv, p', hz⟩ := I1.tuple hq
    refine enu_call p' fun h' he hit hk => wpAny_pyIter_enum he ?_
    have al : a < s1.heap.objs.size := by
      obtain ⟨_, z, _⟩ := p'
      exact Heap.lt_size z
    have I2 : Inv X pins σ H1 { s1 with heap := h' } := I1.kept (t' := s1.toks) hk
    refine ⟨s1.heap.objs.size + 1, [s1.heap.objs.size + 1, s1.heap.objs.size], _, _, H1, rfl, I2, turn_enumT a (s1.heap.objs.size + 1) s1.heap.objs.size, ⟨⟨.none, he⟩, hit, Nat.succ_ne_self _, Nat.ne_of_lt al⟩, fun b hb => ?_, q⟩
    have hle : s1.heap.objs.size ≤ b := by
      rcases (show b = s1.heap.objs.size + 1 ∨ b = s1.heap.objs.size by simpa using hb) with z | z
      · rw [z]
        exact Nat.le_add_right _ _
      · rw [z]
        exact Nat.le_refl _
    exact I1.fpOk hle (I1.hok.fresh hle)
end CC

set_option Elab.async false
set_option maxRecDepth 100000
namespace CC
open PySem L2
set_option linter.unusedVariables false
abbrev sWrongRow : Stmt := top 27
abbrev sIsOnce : Stmt := top 28
def spWrongRow : Sp := fun vs H Q _ => ∃ (l : Addr) (rs : List Row) (cells : List Str), vs = [.ref l] ∧ RowsAt H rs l ∧ Good cells rs ∧ (∀ c ∈ cells, NameOk c) ∧ ∀ H', Same H H' → Q .non H'
section
variable {P : Program} {w : World} {K : PySem.W.Frag} {mg : Str → Option Value} {base : Heap}
theorem scWrongRow : FnScope ["rows", "number", "row"] ["rows"] (defScope sWrongRow) := ⟨rfl, rfl, rfl, by decide +kernel, rfl, by decide +kernel, by decide +kernel⟩
theorem ok_wrongrow {f fL fR : Addr} {fd fdL fdR : FuncData} {t1 t2 : Tok} (F : Fun K "wrong_row" "wrong_row" sWrongRow f fd)
    (GL : FnOk P w K mg base CX0 1 fL fdL ["value"] spIsList) (mL : mg "is_list" = some (.ref fL)) (kL : PySem.W.keepIn K (.ref fL) = true) (bL : Binds K fdL ["value"] [])
    (GR : FnOk P w K mg base CX0 4 fR fdR ["value", "many"] spIsRow) (mR : mg "is_row" = some (.ref fR)) (kR : PySem.W.keepIn K (.ref fR) = true) (bR : Binds K fdR ["value", "many"] [])
    (tl : mg "len" = none) (te : mg "enumerate" = none) (mF : mg "FEWEST_ROWS" = some (.int 2 t1)) (mM : mg "MOST_ROWS" = some (.int 60 t2)) :
    FnOk P w K mg base CX0 5 f fd ["rows"] spWrongRow := by
  refine F.ok scWrongRow (fun vs H Q E h => ?_) (fun cdv A outer s H vs Q E hr h => ?_)
  · obtain ⟨l, rs, cells, rfl, _⟩ := h
    rfl
  · obtain ⟨l, rs, cells, rfl, hl, ⟨rok, ⟨m0, h0⟩, n2, n60⟩, nok, k⟩ := h
    have hr1 : Room 1 _ := hr.mono (by decide)
    refine ⟨_, pss_cons (ps_if (pt_not (pt_val (pe_call GL hr1 rfl mL kL bL .nil pass0 (pa_cons (pv 0) pa_nil)))) (pss_one (ps_ret pe_int)) pss_nil)
      (pss_cons (ps_for PassesOwn.never rfl (pi_enum (by rfl) te (pa_cons (pv 0) pa_nil)) (pg_tup (by rfl) (pgs_cons (pg_name (i := 1) scWrongRow.nd rfl (Or.inl rfl)) (pgs_cons (pg_name (i := 2) scWrongRow.nd rfl (Or.inl rfl)) pgs_nil)))
        (pss_one (ps_if (PW.pt (pw_or (pt_not (pt_val (pe_call GR hr rfl mR kR bR .nil pass0 (pa_cons (pv 2) (pa_cons (pe_callB call_len_seq (by rfl) tl PySem.boot_len (pa_cons (pv 0) pa_nil)) pa_nil)))))
          (pw_or1 (PW.pt (pw_and (pt_cmpR op_eq (pv 1) pe_int (nomark _)) (pw_and1 (pt_cmpR op_ne (pe_ix ix_tup (pv 2) pe_int (fun _ _ => rfl)) pe_str (nomark _)))))))) (pss_one (ps_ret (pv 1))) pss_nil)))
      (pss_one (ps_ret (pe_ifExp (pt_chain op_le op_le (pe_glob (v := .int 2) rfl mF ⟨_, rfl⟩) (pe_callB call_len_seq (by rfl) tl PySem.boot_len (pa_cons (pv 0) pa_nil)) (pe_glob (v := .int 60) rfl mM ⟨_, rfl⟩)) pe_non (pe_callB call_len_seq (by rfl) tl PySem.boot_len (pa_cons (pv 0) pa_nil)))))), ?_⟩
    obtain ⟨as, ha1, ha2⟩ := id hl
    have asl : as.length = rs.length := ha2.length
    refine ⟨_, rfl, l, _, rfl, .inl ha1, fun H1 s1 => ⟨true, rfl, iteF ?_⟩⟩
    refine ⟨_, rfl, l, _, rfl, SqL.of (s1 _ _ ha1), for_it (walk_enum (K := K) (a := l) (xs := as.map V.ref)) (fun i σ H2 => ∃ v1 v2, σ = [some (.ref l), v1, v2] ∧ Same H H2) ⟨none, none, rfl, s1⟩ (fun i σ H2 _ ⟨_, _, _, e⟩ => SqL.of (e _ _ ha1)) ?_ ?_⟩
    · rintro i x σ Ha Hb hi ⟨v1, v2, rfl, sa⟩ ⟨T, ix, y, rfl, hT, rfl, e1, e2⟩
      cases Option.some.inj e1
      dsimp only at e2
      rw [List.getElem?_map] at e2
      obtain ⟨a, hia, rfl⟩ : ∃ a, as[i]? = some a ∧ y = V.ref a := by
        cases e : as[i]? with
        | none =>
          rw [e] at e2
          cases e2
        | some z =>
          rw [e] at e2
          exact ⟨z, rfl, (Option.some.inj e2).symm⟩
      obtain ⟨r, hir, hraH⟩ := paired_at ha2 hia
      have sb : Same H (upd Ha T (.tup [V.int (i : Nat), V.ref a])) := same_tr sa (same_new hT)
      refine ⟨T, _, rfl, SqT.of upd_same, rfl, _, _, rfl, _, _, rfl, rfl, ?_⟩
      have lenE : (V.int ((as.map V.ref).length : Nat)) = V.int (rs.length : Nat) := by rw [List.length_map, asl]
      refine ⟨_, rfl, _, rfl, l, _, rfl, .inl (SqL.of (sb _ _ ha1)), a, r, rs.length, cells, congrArg (fun z => [V.ref a, z]) lenE, hraH.mono (fun b xs x => sb _ _ x) (fun b xs x => sb _ _ x), rok r (List.mem_of_getElem? hir), nok, fun H3 s3 => ⟨true, rfl, iteF ?_⟩⟩
      have sc := same_tr sb s3
      refine ⟨_, rfl, rfl, _, rfl, ?_⟩
      by_cases i0 : i = 0
      · subst i0
        rw [h0] at hir
        cases hir
        refine ite_yes (decide_eq_true rfl) ?_
        refine ⟨_, rfl, a, _, _, _, rfl, rfl, SqT.of (sc _ _ hraH), rfl, rfl, _, rfl, ite_no (not_dec rfl) ?_⟩
        exact ⟨_, _, rfl, sc⟩
      · refine ite_no (decide_eq_false fun z => i0 ?_) (iteF ?_)
        · injection z with z
          omega
        · exact ⟨_, _, rfl, sc⟩
    · rintro σ Ha ⟨v1, v2, rfl, sa⟩
      refine ⟨_, rfl, l, _, rfl, .inl (SqL.of (sa _ _ ha1)), _, _, rfl, rfl, _, rfl, ite_yes (decide_eq_true (by rw [List.length_map, asl]; omega)) ?_⟩
      refine ⟨_, _, rfl, rfl, _, rfl, ite_yes (decide_eq_true (by rw [List.length_map, asl]; omega)) ?_⟩
      exact k _ sa
end
end CC

set_option Elab.async false
set_option maxRecDepth 100000
/-! ### a set of tuples: empty, add, in -/
namespace CC
open PySem PySem.Spec PyProof.Rows L2
set_option linter.unusedVariables false
section
variable {P : Program} {w : World} {A : Around} {E : Value → Shared → Prop} {s : Shared}
variable {a : Addr} {L : List (Addr × List Int)} {es : Array (Int × Value)} {ep : Nat} {t : SetTable}
theorem nth_dummy (m : Nat) : ∀ (n : Nat) (p : SetTable.Probe), p.dummy = none → (nth m p n).dummy = none
  | 0, _, h => h
  | n + 1, p, h => by
    have h2 : (adv m p).dummy = none := by
      unfold adv
      split <;> exact h
    exact nth_dummy m n (adv m p) h2
theorem find_from (R : SetTR P w s.heap a L es ep t) {x : Addr} {k : List Int} (hx : IsT P w s.heap k x) (hu : A.units < cLine) {B : SetTable.Probe} (hB : B = runAt t.mask (SetTable.bits (thash P w k) % (t.mask + 1)) (SetTable.bits (thash P w k)))
    {K : Nat} (hKf : K < 10 * SetTable.turns t.mask) (hK : (nth t.mask B K).j ∉ t.place.toList) (hKb : ∀ c, c < K → (nth t.mask B c).j ∈ t.place.toList) {Q : SetFound → Shared → Prop}
    (hin : ∀ i, k ∈ L.map (·.2) → Q (.there (some i)) s) (hout : ∀ j, k ∉ L.map (·.2) → Q (.free j false) s) :
    ∀ (f c : Nat) (stand : Option SetTable.Probe), stand.getD (t.probeStart (thash P w k)) = nth t.mask B c → c ≤ K → K - c < f →
      (∀ (i : Nat) p, L[i]? = some p → p.2 = k → ∃ c', c ≤ c' ∧ c' < K ∧ t.place.toList[i]? = some (nth t.mask B c').j) →
      wpAny (model P w) A (setSearchFrom a (.ref x) (thash P w k) false f stand) Q E s
  | 0, c, stand, _, _, hf, _ => absurd hf (Nat.not_lt_zero _)
  | f + 1, c, stand, hst, hc, hf, hre => by
    obtain ⟨o, ho, hex, hd⟩ := R.ob
    have stt := fun {α : Type} => R.fits
    rw [setSearchFrom_succ]
    refine wpAny_bind (wpAny_setState_of ho hd R.fits ?_)
    dsimp only
    refine wp_if_neg R.gw ?_
    try refine wpAny_bind (wpAny_pure ?_)
    have nd : (nth t.mask B c).dummy = none := nth_dummy _ c B (by rw [hB]; rfl)
    have sh : ∀ q, nth t.mask (nth t.mask B c) q = nth t.mask B (c + q) := fun q => (nth_add t.mask c _ q).symm
    have hashAt : ∀ (i : Nat) p, L[i]? = some p → (es[i]?.map (·.1)).getD 0 = thash P w p.2 := fun i p hp => by rw [R.entry hp] <;> rfl
    have spec := go_spec t R.tab.ris R.tab.dm (fun i => (es[i]?.map (·.1)).getD 0) (thash P w k) (10 * SetTable.turns t.mask) (K - c) (nth t.mask B c) nd (by omega)
      (fun q hq => by rw [sh]; exact hKb (c + q) (by omega)) (by rw [sh, Nat.add_sub_cancel' hc]; exact hK)
    have never : ∀ q, (∀ (c' i' : Nat), c' < q → t.place.toList[i']? = some (nth t.mask (nth t.mask B c) c').j → (fun i => (es[i]?.map (·.1)).getD 0) i' ≠ thash P w k) →
        ∀ (i0 : Nat) p0, L[i0]? = some p0 → p0.2 = k → ∀ c', c ≤ c' → c' < c + q → t.place.toList[i0]? ≠ some (nth t.mask B c').j := fun q hno i0 p0 h0 hk0 c' h1 h2 e => by
      refine hno (c' - c) i0 (by omega) (by rw [sh, Nat.add_sub_cancel' h1]; exact e) ?_
      exact (hashAt i0 p0 h0).trans (congrArg (thash P w) hk0)
    rcases spec with ⟨q, i, hq, hi, hh, hno, hpr⟩ | ⟨hno, hpr⟩
    · rw [hst]
      have hpr2 := hpr
      rw [show t.probe (fun i => (es[i]?.map (·.1)).getD 0) (thash P w k) (nth t.mask B c) = _ from hpr2]
      dsimp only
      have hi2 : t.place.toList[i]? = some (nth t.mask B (c + q)).j := by rw [← sh]; exact hi
      have hil : i < L.length := by
        have h1 : i < t.place.toList.length := (List.getElem?_eq_some_iff.mp hi).1
        have h2 := R.tab.sz
        rw [List.length_map] at h2
        rw [Array.length_toList] at h1
        omega
      obtain ⟨p, hp⟩ : ∃ p, L[i]? = some p := ⟨_, List.getElem?_eq_getElem hil⟩
      have hmem := List.mem_of_getElem? hp
      have hpt := R.tup p hmem
      have hsl : t.slot (nth t.mask (nth t.mask B c) q).j = .live i := slot_live R.tab.ris hi
      have rest : wpAny (model P w) A (searchRest a (.ref x) (thash P w k) false f es t (nth t.mask (nth t.mask B c) q).j i (nth t.mask (nth t.mask B c) (q + 1))) Q E s := by
        unfold searchRest
        rw [R.entry hp]
        dsimp only
        refine wpAny_bind (wpAny_holding (wpAny_eqBool_tuple hu hpt hx (wpAny_bind (wpAny_setState_of ho hd R.fits ?_))))
        dsimp only
        refine wp_if_neg (by simp) ?_
        try refine wpAny_bind (wpAny_pure ?_)
        rw [sameMem]
        dsimp only
        simp only [if_true, hsl, R.entry hp]
        refine wpAny_bind (wpAny_isSame_ref_self (wpAny_bind (wpAny_pure ?_)))
        simp only [if_true]
        by_cases hkk : p.2 = k
        · exact wp_if_pos (by simp [hkk]) (wpAny_pure (hin i (List.mem_map.mpr ⟨p, hmem, hkk⟩)))
        · refine wp_if_neg (by simp [hkk]) ?_
          refine find_from R hx hu hB hKf hK hKb hin hout f (c + (q + 1)) _ (by rw [← sh]; rfl) (by omega) (by omega) fun i0 p0 h0 hk0 => ?_
          obtain ⟨c', a1, a2, a3⟩ := hre i0 p0 h0 hk0
          refine ⟨c', ?_, a2, a3⟩
          by_cases z : c' < c + q
          · exact absurd a3 (never q hno i0 p0 h0 hk0 c' a1 z)
          · by_cases y : c' = c + q
            · exfalso
              rw [y] at a3
              have s0 := slot_live R.tab.ris a3
              rw [← sh, hsl] at s0
              injection s0 with s0
              rw [← s0, hp] at h0
              cases Option.some.inj h0
              exact hkk hk0
            · omega
      by_cases hl : t.led = true
      · refine wp_if_neg (by simp [hl]) ?_
        try refine wpAny_bind (wpAny_pure ?_)
        exact rest
      · refine wp_if_pos (by simp [hl]) (wpAny_bind (seen_tup hx (fun y hy => ?_) (wp_if_neg (by decide) ?_)))
        · obtain ⟨e, he, ee⟩ := List.mem_map.mp hy
          have he2 : e ∈ es.toList := by
            have z : e ∈ es ∧ e.1 = thash P w k := by simpa using he
            simpa using z.1
          rw [R.rows] at he2
          obtain ⟨p2, hp2, e2⟩ := List.mem_map.mp he2
          exact ⟨p2.2, p2.1, by rw [← ee, ← e2], R.tup p2 hp2⟩
        · try refine wpAny_bind (wpAny_pure ?_)
          exact rest
    · rw [hst]
      rw [show t.probe (fun i => (es[i]?.map (·.1)).getD 0) (thash P w k) (nth t.mask B c) = _ from hpr]
      dsimp only
      refine wpAny_pure (hout _ fun hm => ?_)
      obtain ⟨p0, h0, hk0⟩ := List.mem_map.mp hm
      obtain ⟨i0, hi0, e0⟩ := List.getElem_of_mem h0
      have h00 : L[i0]? = some p0 := by rw [List.getElem?_eq_getElem hi0, e0]
      obtain ⟨c', a1, a2, a3⟩ := hre i0 p0 h00 hk0
      exact never (K - c) (fun c' i' h => hno c' i' h) i0 p0 h00 hk0 c' a1 (by omega) a3
end
end CC
namespace CC
open PySem PySem.Spec PyProof.Rows L2
set_option linter.unusedVariables false
section
variable {P : Program} {w : World} {A : Around} {E : Value → Shared → Prop} {s : Shared}
variable {a : Addr} {L : List (Addr × List Int)} {es : Array (Int × Value)} {ep : Nat} {t : SetTable}
theorem setO_typeIs (R : SetTR P w s.heap a L es ep t) : s.TypeIs (.ref a) "set" := by
  obtain ⟨o, ho, hex, hd⟩ := R.ob
  exact ⟨o, ho, hex.1⟩
theorem found_tup (R : SetTR P w s.heap a L es ep t) {x : Addr} {k : List Int} (hx : IsT P w s.heap k x) (hu : A.units < cLine) {Q : Option Nat → Shared → Prop}
    (h : ∀ r : Option Nat, r.isSome = decide (k ∈ L.map (·.2)) → Q r s) : wpAny (model P w) A (setFind a (.ref x) (thash P w k)) Q E s := by
  obtain ⟨o, ho, hex, hd⟩ := R.ob
  have hroom := R.room
  obtain ⟨K, hKf, hK, hKb⟩ := R.tab.first (by rw [List.length_map]; omega) (thash P w k)
  have hbig : K < 100000 := by
    have : 10 * SetTable.turns t.mask ≤ 1420 := by
      unfold SetTable.turns
      rcases R.tab.mok with e | e | e <;> omega
    omega
  unfold setFind
  rw [show (100000 : Nat) = 99999 + 1 from rfl]
  unfold setFindIn
  refine wpAny_bind (wpAny_setState_of ho hd R.fits ?_)
  dsimp only
  refine wp_if_neg (by simp [byScan, Value.scannable]) ?_
  try refine wpAny_bind (wpAny_pure ?_)
  unfold setSearch
  refine wpAny_bind (find_from R hx hu rfl hKf hK hKb (fun i hm => wpAny_pure (h _ ?_)) (fun j hm => wpAny_pure (h _ ?_)) 100000 0 none rfl (Nat.zero_le _) (by omega) fun i p hp hk => ?_)
  · rw [decide_eq_true hm]
    rfl
  · rw [decide_eq_false hm]
    rfl
  · have hi : (L.map fun p => thash P w p.2)[i]? = some (thash P w k) := by rw [List.getElem?_map, hp, ← hk] <;> rfl
    have hil : i < t.place.toList.length := by
      have h1 : i < L.length := (List.getElem?_eq_some_iff.mp hp).1
      have h2 := R.tab.sz
      rw [List.length_map] at h2
      rw [Array.length_toList]
      omega
    have hj := List.getElem?_eq_getElem hil
    obtain ⟨c, hc, e⟩ := R.tab.before hK hi hj
    exact ⟨c, Nat.zero_le _, hc, by rw [hj]; exact congrArg some e.symm⟩
theorem in_tups (R : SetTR P w s.heap a L es ep t) {x : Addr} {k : List Int} (hx : IsT P w s.heap k x) (hu : A.units + 8 < cLine) {Q : Value → Shared → Prop}
    (h : ∀ tk, Q (.bool (decide (k ∈ L.map (·.2)))) { s with toks := tk }) : wpAny (model P w) A (compareOp .In (.ref x) (.ref a)) Q E s := by
  have ty := setO_typeIs R
  show wpAny _ _ (do return .bool (← contains (.ref a) (.ref x))) Q E s
  refine wpAny_bind ?_
  unfold contains
  try with_reducible refine wpAny_holding ?_
  refine wpAny_bind (wpAny_specialOf ty F.slot_set_contains.lookup ?_)
  show wpAny _ _ (if (some (Value.builtin "set.__contains__") == some Value.none) = true then _ else _) _ E s
  rw [if_neg (by rw [beq_builtin_none]; exact Bool.false_ne_true)]
  refine wpAny_bind (wpAny_callSpecialUnlessNone?_slot (name := Str.ofString "__contains__") ty F.slot_set_contains (wpAny_call_entry F.slot_set_contains ty entry_set_contains ?_ (F.args_set_contains_2 _ _)))
  unfold Builtin.«frozenset.__contains__» Builtin.Frozenset.oneOther
  simp only [List.isEmpty_nil, bind_assoc]
  unfold Builtin.Frozenset.addrOf Builtin.Frozenset.withSetAsKey setContains
  refine wpAny_bind (wpAny_pure ?_)
  try dsimp only
  refine wpAny_bind (wpAny_pure ?_)
  try dsimp only
  refine wpAny_bind (wpAny_tryCatch (wpAny_holding (wpAny_bind (wpAny_pyHash_tuple (knd := intKind P w) (ks := k) ?_ hx ?_))))
  · show A.units + 1 < cLine
    omega
  · refine wpAny_bind (found_tup (s := { s with toks := s.toks + (k.length + 1) }) R hx ?_ fun r hr => ?_)
    · show A.units + 1 < cLine
      omega
    · refine wpAny_pure ?_
      show wpAny _ _ (ret (Value.bool r.isSome)) _ _ _
      rw [hr]
      exact wpAny_pure ⟨_, rfl, wpAny_truthy_bool (wpAny_pure (h _))⟩
theorem add_tup (R : SetTR P w s.heap a L es ep t) {x : Addr} {k : List Int} (hx : IsT P w s.heap k x) (hu : A.units + 8 < cLine) (few : L.length + 1 < 64) {Q : Value → Shared → Prop}
    (h : ∀ h' L' es' ep' t' tk, Heap.SameBut a s.heap h' → SetTR P w h' a L' es' ep' t' → (k ∈ L.map (·.2) → L' = L) → (k ∉ L.map (·.2) → L'.Perm ((x, k) :: L)) → Q .none { s with heap := h', toks := tk }) :
    wpAny (model P w) A (call (.builtin "set.add") [.ref a, .ref x]) Q E s := by
  have ty := setO_typeIs R
  refine wpAny_call_entry F.slot_set_add ty F.entry_set_add ?_ (F.args_set_add_2 _ _)
  unfold Builtin.«set.add» Builtin.Frozenset.oneOther
  simp only [List.isEmpty_nil, bind_assoc]
  unfold Builtin.Frozenset.addrOf setAdd
  refine wpAny_bind (wpAny_pure ?_)
  try dsimp only
  refine wpAny_bind (wpAny_pure ?_)
  try dsimp only
  refine wpAny_bind (wpAny_holding (wpAny_bind (wpAny_pyHash_tuple (knd := intKind P w) (ks := k) (by show A.units + 1 < cLine; omega) hx ?_)))
  refine add_at (s := { s with toks := s.toks + (k.length + 1) }) R hx (by show A.units + 1 < cLine; omega) few fun b h' L' es' ep' t' hsb R' c1 c2 => ?_
  show wpAny _ _ (ret Value.none) _ _ _
  exact wpAny_pure ⟨_, rfl, h h' L' es' ep' t' _ hsb R' c1 c2⟩
end
section
variable {X : Cx}
/-- set() that will hold tuples of ints -/
def rSet0T (P : Program) (w : World) : List V → Hp → VK → Prop := fun xs H Q => xs = [] ∧ ∀ p, H p = none → Q (.ref p) (upd H p (SetTO P w p []))
theorem cr_set0T : CallR X (.type "set") (rSet0T X.prog X.w) := by
  intro pins s σ H xs us Q I r h
  obtain ⟨rfl, q⟩ := h
  cases r
  refine setR_new fun _ => ?_
  have R := setTR_fresh (P := X.prog) (w := X.w) (h := s.heap.push { cls := .type "set", dict := none, data := .set #[] 0 (.fresh 0 0 (!X.w.params.followText "set-order")) }) (a := s.heap.objs.size) (Heap.get?_push_size _ rfl)
  exact ⟨.ref _, upd H s.heap.objs.size (SetTO X.prog X.w s.heap.objs.size []), I.laid (t' := s.toks) (fun b u e => Heap.get?_push_of_some _ e) (Nat.le_refl _) (setTO_new R.t0), rfl, q _ (I.hok.fresh (Nat.le_refl _))⟩
/-- t in s -/
def rInT (K : PySem.W.Frag) (P : Program) (w : World) : R2 := fun x y H Q => ∃ (t a : Addr) (k : List Int) (L : List (Addr × List Int)), x = .ref t ∧ y = .ref a ∧ H a = some (SetTO P w a L) ∧ (∀ p ∈ L, SqT K H p.1 (p.2.map V.int)) ∧ SqT K H t (k.map V.int) ∧ Q (.bl (decide (k ∈ L.map (·.2)))) H
theorem op_inT (hu : X.A.units + 8 < cLine) : OpR X (compareOp .In) (rInT X.K X.prog X.w) := by
  intro pins s σ H x y v u Q I rx ry h
  obtain ⟨t, a, k, L, rfl, rfl, ha, hL, ht, q⟩ := h
  cases rx
  cases ry
  have R0 : SetT0 X.prog X.w s.heap a L := (I.hok a _ ha).1
  obtain ⟨es, ep, tb, R⟩ := R0.full fun p hp => I.isT (hL p hp)
  exact in_tups R (I.isT ht) hu fun tk => ⟨.bl _, H, I.tok _, rfl, q⟩
/-- s.add(t) -/
def rAddT (K : PySem.W.Frag) (P : Program) (w : World) : V → List V → Hp → VK → Prop := fun x xs H Q => ∃ (t a : Addr) (k : List Int) (L : List (Addr × List Int)), x = .ref a ∧ xs = [.ref t] ∧ H a = some (SetTO P w a L) ∧ (∀ p ∈ L, SqT K H p.1 (p.2.map V.int)) ∧ SqT K H t (k.map V.int) ∧ L.length + 1 < 64 ∧
  ∀ L', (k ∈ L.map (·.2) → L' = L) → (k ∉ L.map (·.2) → L'.Perm ((t, k) :: L)) → Q .non (upd H a (SetTO P w a L'))
theorem mt_addT (hu : X.A.units + 8 < cLine) : MtR X "set.add" (rAddT X.K X.prog X.w) := by
  intro pins s σ H x xs v us Q I rx rxs h
  obtain ⟨t, a, k, L, rfl, rfl, ha, hL, ht, few, q⟩ := h
  cases rx
  cases rxs with
  | cons ry rt =>
    cases rt
    cases ry
    have R0 : SetT0 X.prog X.w s.heap a L := (I.hok a _ ha).1
    obtain ⟨es, ep, tb, R⟩ := R0.full fun p hp => I.isT (hL p hp)
    refine add_tup R (I.isT ht) hu few fun h' L' es' ep' t' tk sb R' c1 c2 => ?_
    have he : ∃ u, h'.get? a = some u := by
      obtain ⟨o, ho, _⟩ := R'.ob
      exact ⟨o, ho⟩
    exact ⟨.non, upd H a (SetTO X.prog X.w a L'), I.write (e := a) (t' := tk) (by rw [ha]; trivial) (.inl rfl) (fun b u hb hu => (sb.2 b hb).trans hu) he (setTO_new R'.t0), rfl, q L' c1 c2⟩
def tAddT (K : PySem.W.Frag) (P : Program) (w : World) (to : TE) (t : TA) : TE := fun σ H Q => to σ H fun x H1 => (∃ a L, x = V.ref a ∧ H1 a = some (SetTO P w a L) ∧ (∀ p ∈ L, SqT K H1 p.1 (p.2.map V.int))) ∧ t σ H1 fun xs H2 => rAddT K P w x xs H2 Q
end
end CC

set_option Elab.async false
set_option maxRecDepth 100000
namespace CC
open PySem PySem.Spec PyProof.Rows L2
set_option linter.unusedVariables false
section
variable {X : Cx} {o e : Expr} {es : List Expr} {to : TE} {t : TA} {apos cpos : Pos}
theorem pe_addT (hu : X.A.units + 8 < cLine) (ho : PE X o to) (ha : PA X (e :: es) t) (hbase : attributeBase o "add" X.env (eval o X.env) = eval o X.env := by rfl)
    (hfew : ((backTo cpos (starEach (e :: es) X.env)).all (fun x => !x.1) && (backToKw cpos (keywordEach [] X.env)).all (fun x => x.1.isSome) && decide ((e :: es).length + ([] : List Keyword).length + (if ([] : List Keyword).isEmpty then 0 else 1) < 30)) = true := by rfl)
    (hline : (apos.endLine == cpos.line) = true := by rfl)
    (hs : starEach (e :: es) X.env = (false, eval e X.env) :: starEach es X.env := by rfl)
    (hplain : (backTo cpos (starEach es X.env)).any (·.1) = false := by rfl) : PE X (.Call (.Attribute o "add" apos) (e :: es) [] cpos) (tAddT X.K X.prog X.w to t) := by
  refine ⟨fun pins s σ H Q I h => ?_⟩
  have go := ho.run pins s σ H _ I h
  refine wpAny_Call_method_late hbase hfew hline rfl (thn go fun v s1 ⟨x, H1, I1, r1, ⟨a, L, ex, hka, hL⟩, q1⟩ => ?_)
  subst ex
  have R0 : SetT0 X.prog X.w s1.heap a L := (I1.hok a _ hka).1
  obtain ⟨es0, ep0, tb0, R⟩ := R0.full fun p hp => I1.isT (hL p hp)
  cases r1
  have nodict : ∃ ob, s1.heap.get? a = some ob ∧ ob.dict = none := by
    obtain ⟨ob, hob, hex, _⟩ := R.ob
    exact ⟨ob, hob, hex.2.1⟩
  refine ⟨"set", "set.add", F.plainAttrs_set, F.slot_set_add, F.type_set_add, setO_typeIs R, ?_, ?_⟩
  · intro b e
    injection e with e
    rw [← e]
    exact nodict
  · have hA := ha.run cpos pins s1 σ H1 _ I1 q1
    rw [hs] at hA ⊢
    refine Calls.callWith_builtin (by show (false || (backTo cpos (starEach es X.env)).any (·.1)) = false; rw [hplain] <;> rfl) (Calls.evalArgs_plain (thn hA fun us s2 ⟨vs, H2, I2, r2, q2⟩ => ?_))
    exact mt_addT hu pins s2 σ H2 (.ref a) vs (.ref a) us Q I2 rfl r2 q2
end
section
variable {X : Cx} {K : PySem.W.Frag} {P : Program} {w : World} {o e : Expr} {es : List Expr} {to : TE} {t : TA} {apos cpos : Pos}
theorem cr_set0TK (e1 : X.prog = P) (e2 : X.w = w) : CallR X (.type "set") (rSet0T P w) := by
  subst e1 e2
  exact cr_set0T
theorem op_inTK (e0 : X.K = K) (e1 : X.prog = P) (e2 : X.w = w) (hu : X.A.units + 8 < cLine) : OpR X (compareOp .In) (rInT K P w) := by
  subst e0 e1 e2
  exact op_inT hu
theorem pe_addTK (e0 : X.K = K) (e1 : X.prog = P) (e2 : X.w = w) (hu : X.A.units + 8 < cLine) (ho : PE X o to) (ha : PA X (e :: es) t) (hbase : attributeBase o "add" X.env (eval o X.env) = eval o X.env := by rfl)
    (hfew : ((backTo cpos (starEach (e :: es) X.env)).all (fun x => !x.1) && (backToKw cpos (keywordEach [] X.env)).all (fun x => x.1.isSome) && decide ((e :: es).length + ([] : List Keyword).length + (if ([] : List Keyword).isEmpty then 0 else 1) < 30)) = true := by rfl)
    (hline : (apos.endLine == cpos.line) = true := by rfl)
    (hs : starEach (e :: es) X.env = (false, eval e X.env) :: starEach es X.env := by rfl)
    (hplain : (backTo cpos (starEach es X.env)).any (·.1) = false := by rfl) : PE X (.Call (.Attribute o "add" apos) (e :: es) [] cpos) (tAddT K P w to t) := by
  subst e0 e1 e2
  exact pe_addT hu ho ha hbase hfew hline hs hplain
end
end CC

set_option Elab.async false
set_option maxRecDepth 100000
namespace CC
open PySem L2
set_option linter.unusedVariables false
/-! ### ways: the mathematics -/
def nxt (rs : List Row) (p : Nat × Nat) : Option (List (Nat × Nat)) :=
  match rs[p.1]? with
  | none => none
  | some (.rest m) => if p.2 = 0 then none else some []
  | some (.ins m) => if p.2 + 1 > 1 then none else some [(m, p.2 + 1)]
  | some (.wr _ _ m) => some [(m, p.2)]
  | some (.rd _ cs m) => some ((cs.map (·.2) ++ [m]).map fun q => (q, p.2))
def ini (rs : List Row) (first : Nat) : List (Nat × Nat) :=
  match rs[first]? with
  | none => []
  | some r => r.fol.map fun q => (q, 0)
inductive Rch (rs : List Row) (S : List (Nat × Nat)) : Nat × Nat → Prop
  | base {p : Nat × Nat} : p ∈ S → Rch rs S p
  | step {p q : Nat × Nat} {qs : List (Nat × Nat)} : Rch rs S p → nxt rs p = some qs → q ∈ qs → Rch rs S q
/-- who begins at this row is inside once at most, and just once if it rests again -/
def Once (rs : List Row) (first : Nat) : Prop := ∀ p, Rch rs (ini rs first) p → nxt rs p ≠ none
theorem once_of {rs : List Row} {first : Nat} {M : List (Nat × Nat)} (h0 : ∀ p ∈ ini rs first, p ∈ M) (h1 : ∀ p ∈ M, ∃ qs, nxt rs p = some qs ∧ ∀ q ∈ qs, q ∈ M) : Once rs first := by
  intro p hp
  have key : p ∈ M := by
    induction hp with
    | base h => exact h0 _ h
    | step _ e hq ih =>
      obtain ⟨qs, e2, e3⟩ := h1 _ ih
      rw [e] at e2
      cases e2
      exact e3 _ hq
  obtain ⟨qs, e, _⟩ := h1 p key
  rw [e]
  intro z
  cases z
theorem Row.fol_low {n : Nat} {r : Row} (h : r.low n) : ∀ q ∈ r.fol, q < n := by
  intro q hq
  cases r with
  | rest m =>
    cases hq with
    | head => exact h
    | tail _ hq => cases hq
  | ins m =>
    cases hq with
    | head => exact h
    | tail _ hq => cases hq
  | wr c v m =>
    cases hq with
    | head => exact h
    | tail _ hq => cases hq
  | rd c cs m =>
    rcases List.mem_append.mp hq with m1 | m1
    · obtain ⟨kv, hkv, rfl⟩ := List.mem_map.mp m1
      exact h.2.1 kv hkv
    · cases m1 with
      | head => exact h.2.2.1
      | tail _ m1 => cases m1
theorem Row.fol_len {n : Nat} {r : Row} (h : r.low n) : r.fol.length ≤ 11 := by
  cases r with
  | rest m => exact Nat.le_of_ble_eq_true rfl
  | ins m => exact Nat.le_of_ble_eq_true rfl
  | wr c v m => exact Nat.le_of_ble_eq_true rfl
  | rd c cs m =>
    show (cs.map (·.2) ++ [m]).length ≤ 11
    rw [List.length_append, List.length_map]
    have := h.2.2.2
    show cs.length + 1 ≤ 11
    omega
def enc (p : Nat × Nat) : List Int := [(p.1 : Int), (p.2 : Int)]
theorem enc_inj {p q : Nat × Nat} (h : enc p = enc q) : p = q := by
  unfold enc at h
  injection h with h1 h2
  injection h2 with h2 _
  obtain ⟨a, b⟩ := p
  obtain ⟨c, d⟩ := q
  simp only at h1 h2
  have : a = c := by omega
  have : b = d := by omega
  simp_all
theorem few_places {M : List (Nat × Nat)} (nd : M.Nodup) (h : ∀ p ∈ M, p.1 < 30 ∧ p.2 ≤ 1) : M.length ≤ 60 := by
  have nd2 : (M.map fun p => 2 * p.1 + p.2).Nodup := by
    refine List.pairwise_map.mpr ?_
    refine List.Pairwise.imp_of_mem (fun {p q} hp hq ne e => ne ?_) nd
    have h1 := h p hp
    have h2 := h q hq
    obtain ⟨a, b⟩ := p
    obtain ⟨c, d⟩ := q
    simp only at h1 h2 e
    have : a = c := by omega
    have : b = d := by omega
    simp_all
  have := L2.nat_nodup_len (M.map fun p => 2 * p.1 + p.2) (List.range 60) nd2 (fun x hx => by
    obtain ⟨p, hp, rfl⟩ := List.mem_map.mp hx
    have := h p hp
    exact List.mem_range.mpr (by omega))
  rw [List.length_map, List.length_range] at this
  exact this
theorem paired_app {α β : Type} {F : α → β → Prop} : ∀ {l : List α} {m : List β} {l2 : List α} {m2 : List β}, Paired F l m → Paired F l2 m2 → Paired F (l ++ l2) (m ++ m2)
  | _, _, _, _, .nil, h => h
  | _, _, _, _, .cons h t, r => .cons h (paired_app t r)
theorem snoc_cases {α : Type} (l : List α) : l = [] ∨ ∃ (r : List α) (t : α), l = r ++ [t] := by
  rcases List.eq_nil_or_concat l with h | ⟨r, t, h⟩
  · exact .inl h
  · exact .inr ⟨r, t, by rw [h, List.concat_eq_append]⟩
theorem paired_last {α β : Type} {F : α → β → Prop} {t : α} : ∀ {l : List α} {m : List β}, Paired F (l ++ [t]) m → ∃ (m' : List β) (p : β), m = m' ++ [p] ∧ Paired F l m' ∧ F t p
  | [], _, .cons h .nil => ⟨[], _, rfl, .nil, h⟩
  | a :: l, _, .cons h r => by
    obtain ⟨m', p, e, r1, r2⟩ := paired_last r
    exact ⟨_ :: m', p, by rw [e]; rfl, .cons h r1, r2⟩
/-- few places can be met -/
def Few (rs : List Row) (first : Nat) : Prop := ∀ M : List (Nat × Nat), M.Nodup → (∀ p ∈ M, p.1 < rs.length ∧ p.2 ≤ 1 ∧ Rch rs (ini rs first) p) → M.length ≤ 60
theorem few_30 {rs : List Row} {first : Nat} (h : rs.length ≤ 30) : Few rs first := fun M nd k => few_places nd fun p hp => ⟨by have := (k p hp).1; omega, (k p hp).2.1⟩
def spIsOnce : Sp := fun vs H Q _ => ∃ (T : Addr) (as : List Addr) (rs : List Row) (first : Nat), vs = [.ref T, .int (first : Nat)] ∧ H T = some (.tup (as.map V.ref)) ∧ Paired (fun a r => RowAt H r a) as rs ∧ (∀ r ∈ rs, r.low rs.length) ∧ Few rs first ∧ first < rs.length ∧
  ∀ (b : Bool) (H' : Hp), Same H H' → (b = true ↔ Once rs first) → Q (.bl b) H'
section
variable {P : Program} {w : World} {K : PySem.W.Frag} {mg : Str → Option Value} {base : Heap}
theorem scIsOnce : FnScope ["rows", "first", "met", "ahead", "place", "number", "times", "row", "follower"] ["rows", "first"] (defScope sIsOnce) := ⟨rfl, rfl, rfl, by decide +kernel, rfl, by decide +kernel, by decide +kernel⟩
theorem ok_isonce {f fF : Addr} {fd fdF : FuncData} (F : Fun K "is_once" "is_once" sIsOnce f fd)
    (GF : FnOk P w K mg base CX0 1 fF fdF ["row"] spFollowers) (mF : mg "followers" = some (.ref fF)) (kF : PySem.W.keepIn K (.ref fF) = true) (bF : Binds K fdF ["row"] []) (ts : mg "set" = none) :
    FnOk P w K mg base CX0 2 f fd ["rows", "first"] spIsOnce := by
  refine F.ok scIsOnce (fun vs H Q E h => ?_) (fun cdv A outer s H vs Q E hr h => ?_)
  · obtain ⟨T, as, rs, first, rfl, _⟩ := h
    rfl
  · obtain ⟨T, as, rs, first, rfl, hT, hrows, low, n30, fl, k⟩ := h
    have hu := hu_of hr
    have h8 := Nat.lt_of_le_of_lt (Nat.add_le_add_left (by decide : 8 ≤ 64) _) hr.units
    refine ⟨_, pss_cons (ps_set (i := 2) scIsOnce.nd rfl (Or.inl rfl) (pe_callTy0 (cr_set0TK (P := P) (w := w) rfl rfl) (by rfl) ts (by decide +kernel)))
      (pss_cons (ps_setLc (i := 3) (own := [("number", 5)]) (g := gName 5) (by rfl) scIsOnce.nd rfl rfl (sw_true rfl rfl rfl (by decide +kernel)) (pi_list (pe_call GF hr rfl mF kF bF .nil pass0 (pa_cons (pe_ix ix_tup (pv 0) (pv 1) (fun _ _ => rfl)) pa_nil))) (blkOk_by (own := [("number", 5)]) (N := ["rows", "first", "met", "ahead", "place", "number", "times", "row", "follower"]) (sc := defScope sIsOnce) (by decide +kernel)) (fun _ _ _ _ _ => pg_name (i := 5) scIsOnce.nd rfl (Or.inl rfl)) (fun _ _ _ _ _ => pts_nil) (fun _ _ _ _ _ => pe_tup (pa_cons (pv 5) (pa_cons pe_int pa_nil))))
      (pss_cons (ps_while PassesOwn.never (pt_truth (pv 3) (by intro _; rfl))
        (pss_cons (ps_set (i := 4) scIsOnce.nd rfl (Or.inl rfl) (pe_bm0 PySem.F.plainAttrs_list PySem.F.slot_list_pop PySem.F.type_list_pop mt_pop (pv 3)))
        (pss_cons (ps_if (pt_cmpR (op_inTK (K := K) (P := P) (w := w) rfl rfl rfl h8) (pv 4) (pv 2) (by rfl)) (pss_one ps_continue) pss_nil)
        (pss_cons (ps_expr (pe_addTK (K := K) (P := P) (w := w) rfl rfl rfl h8 (pv 2) (pa_cons (pv 4) pa_nil)))
        (pss_cons (ps_asg (pv 4) (pg_tup (by rfl) (pgs_cons (pg_name (i := 5) scIsOnce.nd rfl (Or.inl rfl)) (pgs_cons (pg_name (i := 6) scIsOnce.nd rfl (Or.inr rfl)) pgs_nil))))
        (pss_cons (ps_set (i := 7) scIsOnce.nd rfl (Or.inl rfl) (pe_ix ix_tup (pv 0) (pv 5) (fun _ _ => rfl)))
        (pss_cons (ps_if (pt_cmpR op_eq (pe_ix ix_tup (pv 7) pe_int (fun _ _ => rfl)) pe_str (nomark _)) (pss_cons (ps_if (pt_cmpR op_eq (pv 6) pe_int (nomark _)) (pss_one (ps_ret pe_bl)) pss_nil) (pss_one ps_continue)) pss_nil)
        (pss_cons (ps_if (pt_cmpR op_eq (pe_ix ix_tup (pv 7) pe_int (fun _ _ => rfl)) pe_str (nomark _)) (pss_cons (ps_aug (i := 6) scIsOnce.nd rfl (Or.inr rfl) pe_int ip_add) (pss_one (ps_if (pt_cmpR op_gt (pv 6) pe_int (nomark _)) (pss_one (ps_ret pe_bl)) pss_nil))) pss_nil)
        (pss_one (ps_expr (pe_bm PySem.F.plainAttrs_list PySem.F.slot_list_extend PySem.F.type_list_extend mt_extend (pv 3) (pa_cons
          (pe_lc (own := [("follower", 8)]) (g := gName 8) (by rfl) scIsOnce.nd (pi_list (pe_call GF hr rfl mF kF bF .nil pass0 (pa_cons (pv 7) pa_nil))) (blkOk_by (own := [("follower", 8)]) (N := ["rows", "first", "met", "ahead", "place", "number", "times", "row", "follower"]) (sc := defScope sIsOnce) (by decide +kernel)) (fun _ _ _ _ _ => pg_name (i := 8) scIsOnce.nd rfl (Or.inl rfl)) (fun _ _ _ _ _ => pts_nil) (fun _ _ _ _ _ => pe_tup (pa_cons (pv 8) (pa_cons (pv 6) pa_nil)))) pa_nil))))))))))))
      (pss_one (ps_ret pe_bl)))), ?_⟩
    refine ⟨rfl, fun met hmet => ?_⟩
    have s1 : Same H (upd H met (SetTO P w met [])) := same_new hmet
    have m1 : (upd H met (SetTO P w met [])) met = some (SetTO P w met []) := upd_same
    revert s1 m1
    generalize (upd H met (SetTO P w met [])) = H1
    intro s1 m1
    obtain ⟨r0, hr0⟩ : ∃ r, rs[first]? = some r := ⟨_, List.getElem?_eq_getElem fl⟩
    have asl : as.length = rs.length := hrows.length
    have row_at : ∀ i r, rs[i]? = some r → ∃ a, as[i]? = some a ∧ RowAt H r a := fun i r hi => by
      have il : i < as.length := by rw [asl]; exact (List.getElem?_eq_some_iff.mp hi).1
      obtain ⟨b, hb, x⟩ := paired_at hrows (List.getElem?_eq_getElem il)
      rw [hi] at hb
      cases hb
      exact ⟨_, List.getElem?_eq_getElem il, x⟩
    obtain ⟨a0, ha0, hra0⟩ := row_at first r0 hr0
    have low0 := low r0 (List.mem_of_getElem? hr0)
    refine ⟨_, rfl, _, rfl, T, _, _, _, rfl, rfl, SqT.of (s1 _ _ hT), atI_nat (by rw [List.getElem?_map, ha0]; rfl), a0, r0, rs.length, rfl, hra0.mono (fun b xs x => s1 _ _ x) (fun b xs x => s1 _ _ x), low0, fun l0 H2 s2 hl0 hl2 => ?_⟩
    have in_low : ∀ q ∈ ini rs first, q.1 < rs.length ∧ q.2 ≤ 1 := fun q hq => by
      unfold ini at hq
      rw [hr0] at hq
      obtain ⟨z, hz, rfl⟩ := List.mem_map.mp hq
      exact ⟨Row.fol_low low0 z hz, Nat.zero_le _⟩
    refine ⟨l0, rfl, ⟨_, SqL.of hl2⟩, fun D hD => ?_⟩
    refine lc_list (K := K) (a := l0) (xs := r0.fol.map fun (m : Nat) => V.int (m : Nat)) (fun i H3 => ∃ ts : List Addr, H3 D = some (.lst (ts.map V.ref)) ∧ Paired (fun t (p : Nat × Nat) => H3 t = some (.tup [V.int (p.1 : Nat), V.int (p.2 : Nat)])) ts ((r0.fol.take i).map fun q => (q, 0)) ∧ Same H2 H3)
      ⟨[], upd_same, .nil, same_new hD⟩ (fun i H3 _ ⟨_, _, _, e⟩ => SqL.of (e _ _ hl2)) ?_ ?_
    · rintro i y H3 hi ⟨us, hD3, hp3, s3⟩
      rw [List.getElem?_map] at hi
      obtain ⟨z, hz, rfl⟩ : ∃ z : Nat, r0.fol[i]? = some z ∧ y = V.int (z : Nat) := by
        cases e : r0.fol[i]? with
        | none =>
          rw [e] at hi
          cases hi
        | some z =>
          rw [e] at hi
          exact ⟨z, rfl, (Option.some.inj hi).symm⟩
      have ul : us.length ≤ 11 := by
        have h1 := hp3.length
        have h2 := Row.fol_len low0
        rw [List.length_map, List.length_take] at h1
        omega
      refine ⟨rfl, tyes_if ?_⟩
      refine ⟨_, rfl, (by show 2 ≤ sizeLine; decide), fun t1 ht1 => ?_⟩
      have ntD : D ≠ t1 := ne_of_none hD3 ht1
      refine ⟨us.map V.ref, by rw [upd_ne ntD]; exact hD3, small (by rw [List.length_map]; omega), us ++ [t1], ?_, ?_, same_put (same_tr s3 (same_new ht1)) hD⟩
      · rw [upd_same, List.map_append]
        rfl
      · have tk : r0.fol.take (i + 1) = r0.fol.take i ++ [z] := by rw [List.take_add_one, hz]; rfl
        rw [tk, List.map_append]
        refine Paired.snoc (L2.Paired.mapP hp3 fun b p hb => ?_) ?_
        · rw [upd_ne (ne_of hb hD3 (by intro z; cases z)), upd_ne (ne_of_none hb ht1)]
          exact hb
        · rw [upd_ne ntD.symm, upd_same]
          rfl
    · rintro H3 ⟨ts0, hD3, hp3, s3⟩
      rw [List.length_map, List.take_length] at hp3
      have e0 : (r0.fol.map fun q => (q, 0)) = ini rs first := by
        unfold ini
        rw [hr0]
      rw [e0] at hp3
      have hD0 : H D = none := (same_tr s1 s2).free hD
      have nmD : met ≠ D := fun z => by
        rw [z] at m1
        have := s2 _ _ m1
        rw [hD] at this
        cases this
      have il : (ini rs first).length ≤ 11 := by
        rw [← e0, List.length_map]
        exact Row.fol_len low0
      refine ⟨fun m σ H' => ∃ (M : List (Addr × List Int)) (PM A : List (Nat × Nat)) (ts : List Addr) (v4 v5 v6 v7 : Option V), σ = [some (.ref T), some (.int (first : Nat)), some (.ref met), some (.ref D), v4, v5, v6, v7, none] ∧ H' met = some (SetTO P w met M) ∧ (∀ p ∈ M, H' p.1 = some (.tup (p.2.map V.int))) ∧ H' D = some (.lst (ts.map V.ref)) ∧
          Paired (fun t (p : Nat × Nat) => H' t = some (.tup [V.int (p.1 : Nat), V.int (p.2 : Nat)])) ts A ∧ (M.length = PM.length ∧ (∀ p, enc p ∈ M.map (·.2) ↔ p ∈ PM) ∧ PM.Nodup) ∧ (∀ p ∈ PM, p.1 < rs.length ∧ (p.2 ≤ 1 ∧ Rch rs (ini rs first) p) ∧ ∃ qs, nxt rs p = some qs ∧ ∀ q ∈ qs, q ∈ PM ∨ q ∈ A) ∧
          (∀ p ∈ A, p.1 < rs.length ∧ p.2 ≤ 1 ∧ Rch rs (ini rs first) p) ∧ (∀ p ∈ ini rs first, p ∈ PM ∨ p ∈ A) ∧ Same H H' ∧ A.length ≤ 12 * (PM.length + 1) ∧ m = 12 * (100 - PM.length) + A.length,
        ⟨_, [], [], ini rs first, ts0, none, none, none, none, rfl, s3 _ _ (s2 _ _ m1), (fun p h => nomatch h), hD3, hp3, ⟨rfl, fun p => ⟨(fun h => nomatch h), (fun h => nomatch h)⟩, List.nodup_nil⟩, (fun p h => nomatch h), fun p hp => ⟨(in_low p hp).1, (in_low p hp).2, .base hp⟩, fun p hp => .inr hp, same_tr s1 (same_tr s2 s3), by omega, rfl⟩, ?_⟩
      rintro m σ H' ⟨M, PM, A, ts, v4, v5, v6, v7, rfl, hM, tM, hA, pA, ⟨ml, mm, mnd⟩, cl, rA, iA, sH, Al, rfl⟩
      refine ⟨_, rfl, _, .inl ⟨_, SqL.of hA, rfl⟩, ?_⟩
      have PMl : PM.length ≤ 60 := n30 PM mnd fun p hp => ⟨(cl p hp).1, (cl p hp).2.1.1, (cl p hp).2.1.2⟩
      rcases snoc_cases ts with rfl | ⟨ts', t, rfl⟩
      · have A0 : A = [] := by
          cases pA
          rfl
        subst A0
        refine ite_no rfl ?_
        refine k true H' sH ⟨fun _ => ?_, fun _ => rfl⟩
        refine once_of (M := PM) (fun p hp => ?_) fun p hp => ?_
        · rcases iA p hp with h | h
          · exact h
          · cases h
        · obtain ⟨_, _, qs, e1, e2⟩ := cl p hp
          refine ⟨qs, e1, fun q hq => ?_⟩
          rcases e2 q hq with h | h
          · exact h
          · cases h
      · obtain ⟨A', p, rfl, pA', hp⟩ : ∃ (A' : List (Nat × Nat)) (p : Nat × Nat), A = A' ++ [p] ∧ Paired (fun t (p : Nat × Nat) => H' t = some (.tup [V.int (p.1 : Nat), V.int (p.2 : Nat)])) ts' A' ∧ H' t = some (.tup [V.int (p.1 : Nat), V.int (p.2 : Nat)]) := paired_last pA
        obtain ⟨pl, pt, pr⟩ := rA p (List.mem_append_right _ (List.mem_cons_self ..))
        have rA' : ∀ q ∈ A', q.1 < rs.length ∧ q.2 ≤ 1 ∧ Rch rs (ini rs first) q := fun q hq => rA q (List.mem_append_left _ hq)
        have al' : (A' ++ [p]).length = A'.length + 1 := by rw [List.length_append]; rfl
        refine ite_yes (by rw [List.map_append]; cases ts' <;> rfl) ?_
        refine ⟨fun σ' H' => ∃ m', m' < 12 * (100 - PM.length) + (A' ++ [p]).length ∧ (∃ (M : List (Addr × List Int)) (PM A : List (Nat × Nat)) (ts : List Addr) (v4 v5 v6 v7 : Option V), σ' = [some (.ref T), some (.int (first : Nat)), some (.ref met), some (.ref D), v4, v5, v6, v7, none] ∧ H' met = some (SetTO P w met M) ∧ (∀ p ∈ M, H' p.1 = some (.tup (p.2.map V.int))) ∧ H' D = some (.lst (ts.map V.ref)) ∧
          Paired (fun t (p : Nat × Nat) => H' t = some (.tup [V.int (p.1 : Nat), V.int (p.2 : Nat)])) ts A ∧ (M.length = PM.length ∧ (∀ p, enc p ∈ M.map (·.2) ↔ p ∈ PM) ∧ PM.Nodup) ∧ (∀ p ∈ PM, p.1 < rs.length ∧ (p.2 ≤ 1 ∧ Rch rs (ini rs first) p) ∧ ∃ qs, nxt rs p = some qs ∧ ∀ q ∈ qs, q ∈ PM ∨ q ∈ A) ∧
          (∀ p ∈ A, p.1 < rs.length ∧ p.2 ≤ 1 ∧ Rch rs (ini rs first) p) ∧ (∀ p ∈ ini rs first, p ∈ PM ∨ p ∈ A) ∧ Same H H' ∧ A.length ≤ 12 * (PM.length + 1) ∧ m' = 12 * (100 - PM.length) + A.length), fun σ' H' z => z, ?_⟩
        have lastE : ((ts' ++ [t]).map V.ref)[((ts' ++ [t]).map V.ref).length - 1]? = some (V.ref t) := by
          rw [List.map_append]
          show (ts'.map V.ref ++ [V.ref t])[(ts'.map V.ref ++ [V.ref t]).length - 1]? = _
          rw [List.length_append]
          simp
        have dropE : ((ts' ++ [t]).map V.ref).dropLast = ts'.map V.ref := by
          rw [List.map_append]
          exact List.dropLast_concat
        refine ⟨_, rfl, .inl ⟨rfl, _, Or.inl (Or.inl hA)⟩, D, _, V.ref t, rfl, rfl, hA, lastE, ?_⟩
        rw [dropE]
        have s4 : Same H (upd H' D (.lst (ts'.map V.ref))) := same_put sH hD0
        have nmet : met ≠ D := nmD
        have M4 : (upd H' D (.lst (ts'.map V.ref))) met = some (SetTO P w met M) := by
          rw [upd_ne nmet]
          exact hM
        have T4 : ∀ b xs, H' b = some (.tup xs) → (upd H' D (.lst (ts'.map V.ref))) b = some (.tup xs) := fun b xs e => by
          rw [upd_ne (ne_of e hA (by intro z; cases z))]
          exact e
        have D4 : (upd H' D (.lst (ts'.map V.ref))) D = some (.lst (ts'.map V.ref)) := upd_same
        revert s4 M4 T4 D4
        generalize (upd H' D (.lst (ts'.map V.ref))) = H4
        intro s4 M4 T4 D4
        have tM4 := fun q hq => T4 _ _ (tM q hq)
        have hp4 : H4 t = some (.tup ((enc p).map V.int)) := T4 _ _ hp
        have pA4 := L2.Paired.mapP pA' fun b q hb => T4 _ _ hb
        refine ⟨_, rfl, _, rfl, t, met, enc p, M, rfl, rfl, M4, (fun q hq => SqT.of (tM4 q hq)), SqT.of hp4, _, rfl, ?_⟩
        by_cases pin : enc p ∈ M.map (·.2)
        · have pin' := (mm p).mp pin
          have repl : ∀ q, q ∈ PM ∨ q ∈ A' ++ [p] → q ∈ PM ∨ q ∈ A' := fun q h => by
            rcases h with h | h
            · exact .inl h
            · rcases List.mem_append.mp h with h | h
              · exact .inr h
              · cases h with
                | head => exact .inl pin'
                | tail _ h => cases h
          refine ite_yes (decide_eq_true pin) ?_
          refine ⟨12 * (100 - PM.length) + A'.length, by omega, M, PM, A', ts', _, v5, v6, v7, rfl, M4, tM4, D4, pA4, ⟨ml, mm, mnd⟩, fun q hq => ?_, rA', fun q hq => repl q (iA q hq), s4, by omega, rfl⟩
          obtain ⟨c1, c2, qs, c3, c4⟩ := cl q hq
          exact ⟨c1, c2, qs, c3, fun z hz => repl z (c4 z hz)⟩
        · have pout : p ∉ PM := fun z => pin ((mm p).mpr z)
          refine ite_no (decide_eq_false pin) ?_
          refine ⟨_, rfl, ⟨met, M, rfl, M4, fun q hq => SqT.of (tM4 q hq)⟩, _, rfl, t, met, enc p, M, rfl, rfl, M4, (fun q hq => SqT.of (tM4 q hq)), SqT.of hp4, by omega, fun L' _ c2 => ?_⟩
          have perm := c2 pin
          have nmet2 : ∀ b xs, H4 b = some (.tup xs) → b ≠ met := fun b xs e z => by
            rw [z, M4] at e
            cases e
          have s5 : Same H (upd H4 met (SetTO P w met L')) := same_put s4 hmet
          have M5 : (upd H4 met (SetTO P w met L')) met = some (SetTO P w met L') := upd_same
          have T5 : ∀ b xs, H4 b = some (.tup xs) → (upd H4 met (SetTO P w met L')) b = some (.tup xs) := fun b xs e => by
            rw [upd_ne (nmet2 b xs e)]
            exact e
          have D5 : (upd H4 met (SetTO P w met L')) D = some (.lst (ts'.map V.ref)) := by
            rw [upd_ne nmet.symm]
            exact D4
          revert s5 M5 T5 D5
          generalize (upd H4 met (SetTO P w met L')) = H5
          intro s5 M5 T5 D5
          have tM5 : ∀ q ∈ L', H5 q.1 = some (.tup (q.2.map V.int)) := fun q hq => by
            rcases List.mem_cons.mp (perm.mem_iff.mp hq) with h | h
            · rw [h]
              exact T5 _ _ hp4
            · exact T5 _ _ (tM4 q h)
          have pA5 := L2.Paired.mapP pA4 fun b q hb => T5 _ _ hb
          have ml5 : L'.length = (p :: PM).length := by rw [perm.length_eq, List.length_cons, List.length_cons, ml]
          have mm5 : ∀ q, enc q ∈ L'.map (·.2) ↔ q ∈ p :: PM := fun q => by
            rw [(perm.map (·.2)).mem_iff, List.map_cons, List.mem_cons, List.mem_cons, mm q]
            exact ⟨fun h => h.imp enc_inj id, fun h => h.imp (fun e => by rw [e]) id⟩
          have mnd5 : (p :: PM).Nodup := List.nodup_cons.mpr ⟨pout, mnd⟩
          have PMl5 : (p :: PM).length = PM.length + 1 := rfl
          have clo : ∀ (qs A2 : List (Nat × Nat)), nxt rs p = some qs → (∀ q ∈ qs, q ∈ A2) → (∀ q ∈ A', q ∈ A2) → (∀ q ∈ p :: PM, q.1 < rs.length ∧ (q.2 ≤ 1 ∧ Rch rs (ini rs first) q) ∧ ∃ qs, nxt rs q = some qs ∧ ∀ z ∈ qs, z ∈ p :: PM ∨ z ∈ A2) ∧ (∀ q ∈ ini rs first, q ∈ p :: PM ∨ q ∈ A2) := by
            intro qs A2 e1 e2 e3
            have mv : ∀ z, z ∈ PM ∨ z ∈ A' ++ [p] → z ∈ p :: PM ∨ z ∈ A2 := fun z h => by
              rcases h with h | h
              · exact .inl (List.mem_cons_of_mem _ h)
              · rcases List.mem_append.mp h with h | h
                · exact .inr (e3 z h)
                · cases h with
                  | head => exact .inl (List.mem_cons_self ..)
                  | tail _ h => cases h
            refine ⟨fun q hq => ?_, fun q hq => mv q (iA q hq)⟩
            rcases List.mem_cons.mp hq with h | h
            · rw [h]
              exact ⟨pl, ⟨pt, pr⟩, qs, e1, fun z hz => .inr (e2 z hz)⟩
            · obtain ⟨c1, c2, qs2, c3, c4⟩ := cl q h
              exact ⟨c1, c2, qs2, c3, fun z hz => mv z (c4 z hz)⟩
          obtain ⟨r, hr⟩ : ∃ r, rs[p.1]? = some r := ⟨_, List.getElem?_eq_getElem pl⟩
          obtain ⟨a, hia, hra⟩ := row_at p.1 r hr
          have rlow := low r (List.mem_of_getElem? hr)
          have ra5 : RowAt H5 r a := hra.mono (fun b xs x => s5 _ _ x) fun b xs x => s5 _ _ x
          refine ⟨_, rfl, t, _, rfl, SqT.of (T5 _ _ hp4), rfl, _, _, rfl, _, _, rfl, rfl, ?_⟩
          refine ⟨_, rfl, _, rfl, T, _, _, _, rfl, rfl, SqT.of (s5 _ _ hT), atI_nat (by rw [List.getElem?_map, hia]; rfl), ?_⟩
          cases r with
          | rest mm0 =>
            refine ⟨_, rfl, a, _, _, _, rfl, rfl, SqT.of ra5, rfl, rfl, _, rfl, ite_yes (decide_eq_true rfl) ?_⟩
            by_cases z0 : p.2 = 0
            · refine ⟨_, rfl, rfl, _, rfl, ite_yes (decide_eq_true (by rw [z0]; rfl)) ?_⟩
              refine k false H5 s5 ⟨(fun z => nomatch z), fun o => absurd ?_ (o p pr)⟩
              unfold nxt
              rw [hr]
              exact if_pos z0
            · refine ⟨_, rfl, rfl, _, rfl, ite_no (decide_eq_false (fun z => z0 (by injection z with z; omega))) ?_⟩
              have nx0 : nxt rs p = some [] := by
                unfold nxt
                rw [hr]
                exact if_neg z0
              refine ⟨12 * (100 - (PM.length + 1)) + A'.length, by omega, L', p :: PM, A', ts', _, _, _, _, rfl, M5, tM5, D5, pA5, ⟨ml5, mm5, mnd5⟩, (clo [] A' nx0 (fun _ h => nomatch h) (fun _ h => h)).1, rA', (clo [] A' nx0 (fun _ h => nomatch h) (fun _ h => h)).2, s5, by rw [PMl5]; omega, by rw [PMl5]⟩
          | ins mm0 =>
            refine ⟨_, rfl, a, _, _, _, rfl, rfl, SqT.of ra5, rfl, rfl, _, rfl, ite_no (decide_eq_false (by intro z; cases z)) ?_⟩
            refine ⟨_, rfl, a, _, _, _, rfl, rfl, SqT.of ra5, rfl, rfl, _, rfl, ite_yes (decide_eq_true rfl) ?_⟩
            refine ⟨_, rfl, _, _, rfl, rfl, ?_⟩
            by_cases z0 : p.2 = 0
            · refine ⟨_, rfl, _, _, rfl, rfl, _, rfl, ite_no (decide_eq_false (by rw [z0]; decide)) ?_⟩
              have nx0 : nxt rs p = some [(mm0, p.2 + 1)] := by
                unfold nxt
                rw [hr]
                exact if_neg (by omega)
              have nx1 : nxt rs p = some ((Row.ins mm0).fol.map fun q => (q, p.2 + 1)) := nx0
              have fl11 := Row.fol_len rlow
              refine ⟨_, rfl, .inl ⟨rfl, _, Or.inl (Or.inl D5)⟩, _, rfl, a, Row.ins mm0, rs.length, rfl, ra5, rlow, fun l H6 s6 hl hl6 => ⟨l, rfl, ⟨_, SqL.of hl6⟩, fun D2 hD2 => ?_⟩⟩
              refine lc_list (K := K) (a := l) (xs := (Row.ins mm0).fol.map fun (m : Nat) => V.int (m : Nat)) (fun i H7 => ∃ us : List Addr, H7 D2 = some (.lst (us.map V.ref)) ∧ Paired (fun t (q : Nat × Nat) => H7 t = some (.tup [V.int (q.1 : Nat), V.int (q.2 : Nat)])) us (((Row.ins mm0).fol.take i).map fun q => (q, p.2 + 1)) ∧ Same H6 H7)
                ⟨[], upd_same, .nil, same_new hD2⟩ (fun i H7 _ ⟨_, _, _, e⟩ => SqL.of (e _ _ hl6)) ?_ ?_
              · rintro i y H7 hi ⟨us, hD7, hp7, s7⟩
                rw [List.getElem?_map] at hi
                obtain ⟨z, hz, rfl⟩ : ∃ z : Nat, (Row.ins mm0).fol[i]? = some z ∧ y = V.int (z : Nat) := by
                  cases e : (Row.ins mm0).fol[i]? with
                  | none =>
                    rw [e] at hi
                    cases hi
                  | some z =>
                    rw [e] at hi
                    exact ⟨z, rfl, (Option.some.inj hi).symm⟩
                have ul : us.length ≤ 11 := by
                  have h1 := hp7.length
                  rw [List.length_map, List.length_take] at h1
                  omega
                refine ⟨rfl, tyes_if ?_⟩
                refine ⟨_, rfl, _, rfl, (by show 2 ≤ sizeLine; decide), fun t1 ht1 => ?_⟩
                have ntD : D2 ≠ t1 := ne_of_none hD7 ht1
                refine ⟨us.map V.ref, by rw [upd_ne ntD]; exact hD7, small (by rw [List.length_map]; omega), us ++ [t1], ?_, ?_, same_put (same_tr s7 (same_new ht1)) hD2⟩
                · rw [upd_same, List.map_append]
                  rfl
                · have tk : (Row.ins mm0).fol.take (i + 1) = (Row.ins mm0).fol.take i ++ [z] := by rw [List.take_add_one, hz]; rfl
                  rw [tk, List.map_append]
                  refine Paired.snoc (L2.Paired.mapP hp7 fun b q hb => ?_) ?_
                  · rw [upd_ne (ne_of hb hD7 (by intro z; cases z)), upd_ne (ne_of_none hb ht1)]
                    exact hb
                  · rw [upd_ne ntD.symm, upd_same]
                    rfl
              · rintro H7 ⟨us, hD7, hp7, s7⟩
                rw [List.length_map, List.take_length] at hp7
                have s57 := same_tr s6 s7
                have ul := hp7.length
                have tl := pA'.length
                have fl := congrArg List.length (rfl : ((Row.ins mm0).fol.map fun q => (q, p.2 + 1)) = _)
                have qlen : ((Row.ins mm0).fol.map fun q => (q, p.2 + 1)).length ≤ 11 := by rw [List.length_map]; exact fl11
                have D20 : H5 D2 = none := s6.free hD2
                have D0' : ∀ b xs, H7 b = some (.tup xs) → (upd H7 D (.lst (ts'.map V.ref ++ us.map V.ref))) b = some (.tup xs) := fun b xs e => by
                  rw [upd_ne (ne_of e (s57 _ _ D5) (by intro z; cases z))]
                  exact e
                refine ⟨D, D2, _, _, rfl, rfl, s57 _ _ D5, hD7, Nat.le_of_lt (small (by rw [List.length_map, List.length_map]; omega)), ?_⟩
                have cl2 := clo _ (A' ++ ((Row.ins mm0).fol.map fun q => (q, p.2 + 1))) nx1 (fun q hq => List.mem_append_right _ hq) (fun q hq => List.mem_append_left _ hq)
                refine ⟨12 * (100 - (PM.length + 1)) + (A' ++ ((Row.ins mm0).fol.map fun q => (q, p.2 + 1))).length, by rw [List.length_append]; omega, L', p :: PM, A' ++ ((Row.ins mm0).fol.map fun q => (q, p.2 + 1)), ts' ++ us, _, _, _, _, rfl, ?_, fun q hq => D0' _ _ (s57 _ _ (tM5 q hq)), ?_, ?_, ⟨ml5, mm5, mnd5⟩, cl2.1, fun q hq => ?_, cl2.2, same_put (same_tr s5 s57) hD0, by rw [PMl5, List.length_append]; omega, by rw [PMl5]⟩
                · rw [upd_ne nmet]
                  exact s57 _ _ M5
                · rw [upd_same, List.map_append]
                · exact paired_app (L2.Paired.mapP pA5 fun b q hb => D0' _ _ (s57 _ _ hb)) (L2.Paired.mapP hp7 fun b q hb => D0' _ _ hb)
                · rcases List.mem_append.mp hq with h | h
                  · exact rA' q h
                  · obtain ⟨z, hz, rfl⟩ := List.mem_map.mp h
                    exact ⟨Row.fol_low rlow z hz, (by omega), .step pr nx1 h⟩
            · refine ⟨_, rfl, _, _, rfl, rfl, _, rfl, ite_yes (decide_eq_true (show (1 : Int) < ((p.2 : Nat) : Int) + 1 by omega)) ?_⟩
              refine k false H5 s5 ⟨(fun z => nomatch z), fun o => absurd ?_ (o p pr)⟩
              unfold nxt
              rw [hr]
              exact if_pos (by omega)
          | wr x v mm0 =>
            refine ⟨_, rfl, a, _, _, _, rfl, rfl, SqT.of ra5, rfl, rfl, _, rfl, ite_no (decide_eq_false (by intro z; cases z)) ?_⟩
            refine ⟨_, rfl, a, _, _, _, rfl, rfl, SqT.of ra5, rfl, rfl, _, rfl, ite_no (decide_eq_false (by intro z; cases z)) ?_⟩
            have nx0 : nxt rs p = some [(mm0, p.2)] := by
              unfold nxt
              rw [hr]
            have nx1 : nxt rs p = some ((Row.wr x v mm0).fol.map fun q => (q, p.2)) := nx0
            have fl11 := Row.fol_len rlow
            refine ⟨_, rfl, .inl ⟨rfl, _, Or.inl (Or.inl D5)⟩, _, rfl, a, Row.wr x v mm0, rs.length, rfl, ra5, rlow, fun l H6 s6 hl hl6 => ⟨l, rfl, ⟨_, SqL.of hl6⟩, fun D2 hD2 => ?_⟩⟩
            refine lc_list (K := K) (a := l) (xs := (Row.wr x v mm0).fol.map fun (m : Nat) => V.int (m : Nat)) (fun i H7 => ∃ us : List Addr, H7 D2 = some (.lst (us.map V.ref)) ∧ Paired (fun t (q : Nat × Nat) => H7 t = some (.tup [V.int (q.1 : Nat), V.int (q.2 : Nat)])) us (((Row.wr x v mm0).fol.take i).map fun q => (q, p.2)) ∧ Same H6 H7)
              ⟨[], upd_same, .nil, same_new hD2⟩ (fun i H7 _ ⟨_, _, _, e⟩ => SqL.of (e _ _ hl6)) ?_ ?_
            · rintro i y H7 hi ⟨us, hD7, hp7, s7⟩
              rw [List.getElem?_map] at hi
              obtain ⟨z, hz, rfl⟩ : ∃ z : Nat, (Row.wr x v mm0).fol[i]? = some z ∧ y = V.int (z : Nat) := by
                cases e : (Row.wr x v mm0).fol[i]? with
                | none =>
                  rw [e] at hi
                  cases hi
                | some z =>
                  rw [e] at hi
                  exact ⟨z, rfl, (Option.some.inj hi).symm⟩
              have ul : us.length ≤ 11 := by
                have h1 := hp7.length
                rw [List.length_map, List.length_take] at h1
                omega
              refine ⟨rfl, tyes_if ?_⟩
              refine ⟨_, rfl, _, rfl, (by show 2 ≤ sizeLine; decide), fun t1 ht1 => ?_⟩
              have ntD : D2 ≠ t1 := ne_of_none hD7 ht1
              refine ⟨us.map V.ref, by rw [upd_ne ntD]; exact hD7, small (by rw [List.length_map]; omega), us ++ [t1], ?_, ?_, same_put (same_tr s7 (same_new ht1)) hD2⟩
              · rw [upd_same, List.map_append]
                rfl
              · have tk : (Row.wr x v mm0).fol.take (i + 1) = (Row.wr x v mm0).fol.take i ++ [z] := by rw [List.take_add_one, hz]; rfl
                rw [tk, List.map_append]
                refine Paired.snoc (L2.Paired.mapP hp7 fun b q hb => ?_) ?_
                · rw [upd_ne (ne_of hb hD7 (by intro z; cases z)), upd_ne (ne_of_none hb ht1)]
                  exact hb
                · rw [upd_ne ntD.symm, upd_same]
                  try rfl
            · rintro H7 ⟨us, hD7, hp7, s7⟩
              rw [List.length_map, List.take_length] at hp7
              have s57 := same_tr s6 s7
              have ul := hp7.length
              have tl := pA'.length
              have fl := congrArg List.length (rfl : ((Row.wr x v mm0).fol.map fun q => (q, p.2)) = _)
              have qlen : ((Row.wr x v mm0).fol.map fun q => (q, p.2)).length ≤ 11 := by rw [List.length_map]; exact fl11
              have D20 : H5 D2 = none := s6.free hD2
              have D0' : ∀ b xs, H7 b = some (.tup xs) → (upd H7 D (.lst (ts'.map V.ref ++ us.map V.ref))) b = some (.tup xs) := fun b xs e => by
                rw [upd_ne (ne_of e (s57 _ _ D5) (by intro z; cases z))]
                exact e
              refine ⟨D, D2, _, _, rfl, rfl, s57 _ _ D5, hD7, Nat.le_of_lt (small (by rw [List.length_map, List.length_map]; omega)), ?_⟩
              have cl2 := clo _ (A' ++ ((Row.wr x v mm0).fol.map fun q => (q, p.2))) nx1 (fun q hq => List.mem_append_right _ hq) (fun q hq => List.mem_append_left _ hq)
              refine ⟨12 * (100 - (PM.length + 1)) + (A' ++ ((Row.wr x v mm0).fol.map fun q => (q, p.2))).length, by rw [List.length_append]; omega, L', p :: PM, A' ++ ((Row.wr x v mm0).fol.map fun q => (q, p.2)), ts' ++ us, _, _, _, _, rfl, ?_, fun q hq => D0' _ _ (s57 _ _ (tM5 q hq)), ?_, ?_, ⟨ml5, mm5, mnd5⟩, cl2.1, fun q hq => ?_, cl2.2, same_put (same_tr s5 s57) hD0, by rw [PMl5, List.length_append]; omega, by rw [PMl5]⟩
              · rw [upd_ne nmet]
                exact s57 _ _ M5
              · rw [upd_same, List.map_append]
              · exact paired_app (L2.Paired.mapP pA5 fun b q hb => D0' _ _ (s57 _ _ hb)) (L2.Paired.mapP hp7 fun b q hb => D0' _ _ hb)
              · rcases List.mem_append.mp hq with h | h
                · exact rA' q h
                · obtain ⟨z, hz, rfl⟩ := List.mem_map.mp h
                  exact ⟨Row.fol_low rlow z hz, pt, .step pr nx1 h⟩
          | rd x cs mm0 =>
            obtain ⟨dd, q1, q2⟩ := id ra5
            refine ⟨_, rfl, a, _, _, _, rfl, rfl, SqT.of q1, rfl, rfl, _, rfl, ite_no (decide_eq_false (by intro z; cases z)) ?_⟩
            refine ⟨_, rfl, a, _, _, _, rfl, rfl, SqT.of q1, rfl, rfl, _, rfl, ite_no (decide_eq_false (by intro z; cases z)) ?_⟩
            have nx0 : nxt rs p = some ((cs.map (·.2) ++ [mm0]).map fun q => (q, p.2)) := by
              unfold nxt
              rw [hr]
            have nx1 : nxt rs p = some ((Row.rd x cs mm0).fol.map fun q => (q, p.2)) := nx0
            have fl11 := Row.fol_len rlow
            refine ⟨_, rfl, .inl ⟨rfl, _, Or.inl (Or.inl D5)⟩, _, rfl, a, Row.rd x cs mm0, rs.length, rfl, ra5, rlow, fun l H6 s6 hl hl6 => ⟨l, rfl, ⟨_, SqL.of hl6⟩, fun D2 hD2 => ?_⟩⟩
            refine lc_list (K := K) (a := l) (xs := (Row.rd x cs mm0).fol.map fun (m : Nat) => V.int (m : Nat)) (fun i H7 => ∃ us : List Addr, H7 D2 = some (.lst (us.map V.ref)) ∧ Paired (fun t (q : Nat × Nat) => H7 t = some (.tup [V.int (q.1 : Nat), V.int (q.2 : Nat)])) us (((Row.rd x cs mm0).fol.take i).map fun q => (q, p.2)) ∧ Same H6 H7)
              ⟨[], upd_same, .nil, same_new hD2⟩ (fun i H7 _ ⟨_, _, _, e⟩ => SqL.of (e _ _ hl6)) ?_ ?_
            · rintro i y H7 hi ⟨us, hD7, hp7, s7⟩
              rw [List.getElem?_map] at hi
              obtain ⟨z, hz, rfl⟩ : ∃ z : Nat, (Row.rd x cs mm0).fol[i]? = some z ∧ y = V.int (z : Nat) := by
                cases e : (Row.rd x cs mm0).fol[i]? with
                | none =>
                  rw [e] at hi
                  cases hi
                | some z =>
                  rw [e] at hi
                  exact ⟨z, rfl, (Option.some.inj hi).symm⟩
              have ul : us.length ≤ 11 := by
                have h1 := hp7.length
                rw [List.length_map, List.length_take] at h1
                omega
              refine ⟨rfl, tyes_if ?_⟩
              refine ⟨_, rfl, _, rfl, (by show 2 ≤ sizeLine; decide), fun t1 ht1 => ?_⟩
              have ntD : D2 ≠ t1 := ne_of_none hD7 ht1
              refine ⟨us.map V.ref, by rw [upd_ne ntD]; exact hD7, small (by rw [List.length_map]; omega), us ++ [t1], ?_, ?_, same_put (same_tr s7 (same_new ht1)) hD2⟩
              · rw [upd_same, List.map_append]
                rfl
              · have tk : (Row.rd x cs mm0).fol.take (i + 1) = (Row.rd x cs mm0).fol.take i ++ [z] := by rw [List.take_add_one, hz]; rfl
                rw [tk, List.map_append]
                refine Paired.snoc (L2.Paired.mapP hp7 fun b q hb => ?_) ?_
                · rw [upd_ne (ne_of hb hD7 (by intro z; cases z)), upd_ne (ne_of_none hb ht1)]
                  exact hb
                · rw [upd_ne ntD.symm, upd_same]
                  try rfl
            · rintro H7 ⟨us, hD7, hp7, s7⟩
              rw [List.length_map, List.take_length] at hp7
              have s57 := same_tr s6 s7
              have ul := hp7.length
              have tl := pA'.length
              have fl := congrArg List.length (rfl : ((Row.rd x cs mm0).fol.map fun q => (q, p.2)) = _)
              have qlen : ((Row.rd x cs mm0).fol.map fun q => (q, p.2)).length ≤ 11 := by rw [List.length_map]; exact fl11
              have D20 : H5 D2 = none := s6.free hD2
              have D0' : ∀ b xs, H7 b = some (.tup xs) → (upd H7 D (.lst (ts'.map V.ref ++ us.map V.ref))) b = some (.tup xs) := fun b xs e => by
                rw [upd_ne (ne_of e (s57 _ _ D5) (by intro z; cases z))]
                exact e
              refine ⟨D, D2, _, _, rfl, rfl, s57 _ _ D5, hD7, Nat.le_of_lt (small (by rw [List.length_map, List.length_map]; omega)), ?_⟩
              have cl2 := clo _ (A' ++ ((Row.rd x cs mm0).fol.map fun q => (q, p.2))) nx1 (fun q hq => List.mem_append_right _ hq) (fun q hq => List.mem_append_left _ hq)
              refine ⟨12 * (100 - (PM.length + 1)) + (A' ++ ((Row.rd x cs mm0).fol.map fun q => (q, p.2))).length, by rw [List.length_append]; omega, L', p :: PM, A' ++ ((Row.rd x cs mm0).fol.map fun q => (q, p.2)), ts' ++ us, _, _, _, _, rfl, ?_, fun q hq => D0' _ _ (s57 _ _ (tM5 q hq)), ?_, ?_, ⟨ml5, mm5, mnd5⟩, cl2.1, fun q hq => ?_, cl2.2, same_put (same_tr s5 s57) hD0, by rw [PMl5, List.length_append]; omega, by rw [PMl5]⟩
              · rw [upd_ne nmet]
                exact s57 _ _ M5
              · rw [upd_same, List.map_append]
              · exact paired_app (L2.Paired.mapP pA5 fun b q hb => D0' _ _ (s57 _ _ hb)) (L2.Paired.mapP hp7 fun b q hb => D0' _ _ hb)
              · rcases List.mem_append.mp hq with h | h
                · exact rA' q h
                · obtain ⟨z, hz, rfl⟩ := List.mem_map.mp h
                  exact ⟨Row.fol_low rlow z hz, pt, .step pr nx1 h⟩
end
end CC

set_option Elab.async false
set_option maxRecDepth 100000
namespace CC
open PySem PySem.Spec PyProof.Rows L2
set_option linter.unusedVariables false
/-! ### a def read off an own class, called: C.m(e, ..) -/
structure ClsFn (K : PySem.W.Frag) (C : Addr) (m : Str) (f : Addr) : Prop where
  ga : PySem.W.specialIn K (.ref C) "__getattribute__" = some (some (.builtin "type.__getattribute__"))
  rd : PySem.W.readsIn K C (.type "type") = true
  at_ : PySem.W.findCls K (.ref C) (.type "type") m = some (.val (.ref f))
section
variable {X : Cx} {e : Expr} {es : List Expr} {t : TA} {apos np pos : Pos} {CX : CXT} {x m : Str} {C f : Addr} {k : Nat} {fd : FuncData} {ps : List Str} {sp : Sp} {ds : List Value} {dvs : List V} {E : XK}
theorem pe_clsfn {pl : Sem Bool} (c : ClsFn X.K C m f) (F : FnOk X.prog X.w X.K X.mg X.base CX k f fd ps sp) (hr : Room k X.A) (hg : Gl X x) (hm : X.mg x = some (.ref C)) (hk : PySem.W.keepIn X.K (.ref f) = true) (hb : L2.Binds X.K fd ps ds) (hd : Vals dvs ds) (hx : Passes CX X E)
    (ha : PA X (e :: es) t) (hdb : (x == ("__debug__" : Str)) = false := by decide)
    (ht : eval (.Call (.Attribute (.Name x np) m apos) (e :: es) [] pos) X.env = (do let ov ← eval (.Name x np) X.env; standAt apos.atName; let (f, first) ← holding [ov] (getMethod ov m pl); callWith pos f first (backTo pos (starEach (e :: es) X.env)) (backToKw pos (keywordEach [] X.env))) := by rfl)
    (he : starEach (e :: es) X.env = (false, eval e X.env) :: starEach es X.env := by rfl) (hpl : (backTo pos (starEach es X.env)).any (·.1) = false := by rfl) :
    PE X (.Call (.Attribute (.Name x np) m apos) (e :: es) [] pos) (tCall sp dvs E t) := by
  refine ⟨fun pins s σ H Q I h => ?_⟩
  refine PySem.W.methodCall_KW (pl := pl) (ld_glob I hg hm ?_ hdb) ht
  refine PySem.W.method_cls I.kIn c.ga (PySem.W.cls_value I.kIn c.rd c.at_ rfl ?_)
  have I2 : Inv X pins σ H { s with toks := s.toks + 1 } := I.tok _
  show wpAny _ _ (callWith pos (Value.ref f) [] (backTo pos (starEach (e :: es) X.env)) []) _ _ _
  refine PySem.W.callWith_K (h₀ := X.base) I.ok.mod.kin hk (thn (ha.run pos pins _ σ H _ I2 h) fun us s1 ⟨vs, H1, I1, r, q⟩ => ⟨I1.kIn, ?_⟩) he hpl
  exact run_fn F hr hb hd hx I1 r q
end
/-! ### the errors -/
abbrev sShown : Stmt := top 3
abbrev sCellInit : Stmt := inClass (top 4) 0
abbrev sNotInit : Stmt := inClass (top 6) 0
def spShown : Sp := fun vs H Q _ => (∃ z : Str, vs = [.str z] ∧ Q (.str z) H) ∨ ∃ i : Int, vs = [.int i] ∧ 0 ≤ i ∧ i < 100000 ∧ Q (.str (toString i)) H
/-- CellError's own: the exception at a stays as it is -/
def spCellInit (K : PySem.W.Frag) : Sp := fun vs H Q _ => ∃ (a C : Addr) (z : Str), vs = [.ref a, .str z] ∧ OexC K C ∧ H a = some (exo a C none) ∧ Q .non H
def spNotInit (K : PySem.W.Frag) (C : Addr) : Sp := fun vs H Q _ => ∃ (a : Addr) (i : Int), vs = [.ref a, .int i] ∧ OexC K C ∧ H a = some (exo a C none) ∧ 0 ≤ i ∧ i < 100000 ∧
  ∀ dx, H dx = none → dx ≠ a → Q .non (upd (upd H dx (exd dx [("row", .int i)])) a (exo a C (some dx)))
section
variable {P : Program} {w : World} {K : PySem.W.Frag} {mg : Str → Option Value} {base : Heap} {t1 : Tok}
theorem log_small {i : Int} (h0 : 0 ≤ i) (h1 : i < 100000) : i.natAbs.log2 < 1920 := by
  by_cases z : i.natAbs = 0
  · rw [z]
    decide
  · have : i.natAbs.log2 < 17 := (Nat.log2_lt z).mpr (by omega)
    omega
theorem scShown : FnScope ["value"] ["value"] (defScope sShown) := ⟨rfl, rfl, rfl, by decide +kernel, rfl, by decide +kernel, by decide +kernel⟩
theorem ok_shown {f : Addr} {fd : FuncData} (F : Fun K "shown" "shown" sShown f fd) (ti : mg "isinstance" = none) (ts : mg "str" = none) (tn : mg "int" = none) (ta : mg "abs" = none) (mS : mg "SHOWN_BELOW" = some (.int 1000000000000 t1)) :
    FnOk P w K mg base CX0 1 f fd ["value"] spShown := by
  refine F.ok scShown (fun vs H Q E h => ?_) (fun cdv A outer s H vs Q E hr h => ?_)
  · rcases h with ⟨z, rfl, _⟩ | ⟨i, rfl, _⟩
    · rfl
    · rfl
  · refine ⟨_, pss_cons (ps_if (pt_val (pe_callB call_isi (by rfl) ti (by decide +kernel) (pa_cons (pv 0) (pa_cons (pe_bltn (v := .ty "str") (by rfl) ts (by decide +kernel) rfl) pa_nil)))) (pss_one (ps_ret (pv 0))) pss_nil)
      (pss_cons (ps_if (PW.pt (pw_and (pt_val (pe_callB call_isi (by rfl) ti (by decide +kernel) (pa_cons (pv 0) (pa_cons (pe_bltn (v := .ty "int") (by rfl) tn (by decide +kernel) rfl) pa_nil)))) (pw_and1 (pt_cmpR op_lt (pe_callB call_abs (by rfl) ta (by decide +kernel) (pa_cons (pv 0) pa_nil)) (pe_glob (v := .int 1000000000000) rfl mS ⟨_, rfl⟩) (nomark _)))))
        (pss_one (ps_ret (pe_callTy call_str_int (by rfl) ts (by decide +kernel) (pa_cons (pv 0) pa_nil)))) pss_nil)
      (pss_one (ps_ret pe_str))), ?_⟩
    rcases h with ⟨z, rfl, q⟩ | ⟨i, rfl, i0, i1, q⟩
    · exact ⟨_, rfl, _, _, _, _, true, rfl, .ty _, .base (.str z), kit_ty (by decide +kernel), true, rfl, iteT ⟨_, rfl, q⟩⟩
    · refine ⟨_, rfl, _, _, _, _, false, rfl, .ty _, .base (.int i), kit_ty (by decide +kernel), false, rfl, iteF ?_⟩
      refine ⟨_, rfl, _, _, _, _, true, rfl, .ty _, .base (.int i), kit_ty (by decide +kernel), true, rfl, iteT ?_⟩
      refine ⟨_, rfl, i, rfl, ?_⟩
      rw [if_neg (show ¬ i < 0 by omega)]
      refine ⟨_, _, rfl, rfl, _, rfl, ite_yes (decide_eq_true (show i < 1000000000000 by omega)) ?_⟩
      exact ⟨_, rfl, i, rfl, log_small i0 i1, q⟩
theorem scCellInit : FnScope ["self", "why"] ["self", "why"] (defScope sCellInit) := ⟨rfl, rfl, rfl, by decide +kernel, rfl, by decide +kernel, by decide +kernel⟩
theorem ok_cellinit {f fS : Addr} {fd fdS : FuncData} (F : FunD K "__init__" "CellError.__init__" (defArgs sCellInit) (defBody sCellInit) (defScope sCellInit) [V.str ""] [] f fd)
    (GS : FnOk P w K mg base CX0 1 fS fdS ["value"] spShown) (mS : mg "shown" = some (.ref fS)) (kS : PySem.W.keepIn K (.ref fS) = true) (bS : L2.Binds K fdS ["value"] []) (tv : mg "ValueError" = none)
    (vV : PySem.W.findCls K (.type "ValueError") (.type "type") "__init__" = some (.val (.builtin "ValueError.__init__"))) :
    FnOk P w K mg base CX0 2 f fd ["self", "why"] (spCellInit K) := by
  refine F.ok scCellInit (fun vs H Q E h => ?_) (fun cdv A outer s H vs Q E hr h => ?_)
  · obtain ⟨a, C, z, rfl, _⟩ := h
    rfl
  · obtain ⟨a, C, z, rfl, T, ha, q⟩ := h
    refine ⟨_, pss_one (ps_expr (pe_veinit (by rfl) tv vV (pa_cons (pv 0) (pa_cons (pe_call GS hr rfl mS kS bS .nil pass0 (pa_cons (pv 1) pa_nil)) pa_nil)))), ?_⟩
    exact ⟨_, rfl, _, rfl, .inl ⟨z, rfl, a, C, [V.str z], rfl, (by show 1 ≤ 1000; decide), T, ha, q⟩⟩
theorem scNotInit : FnScope ["self", "row"] ["self", "row"] (defScope sNotInit) := ⟨rfl, rfl, rfl, by decide +kernel, rfl, by decide +kernel, by decide +kernel⟩
theorem ok_notinit {f fS fC CE C : Addr} {fd fdS fdC : FuncData} (F : Fun K "__init__" "NotOnce.__init__" sNotInit f fd)
    (GS : FnOk P w K mg base CX0 1 fS fdS ["value"] spShown) (mS : mg "shown" = some (.ref fS)) (kS : PySem.W.keepIn K (.ref fS) = true) (bS : L2.Binds K fdS ["value"] [])
    (GC : FnOk P w K mg base CX0 2 fC fdC ["self", "why"] (spCellInit K)) (mC : mg "CellError" = some (.ref CE)) (c : ClsFn K CE "__init__" fC) (kC : PySem.W.keepIn K (.ref fC) = true) (bC : L2.Binds K fdC ["self", "why"] [])
    (nR : PySem.W.findIn K (.ref C) "row" = some none) :
    FnOk P w K mg base CX0 3 f fd ["self", "row"] (spNotInit K C) := by
  refine F.ok scNotInit (fun vs H Q E h => ?_) (fun cdv A outer s H vs Q E hr h => ?_)
  · obtain ⟨a, i, rfl, _⟩ := h
    rfl
  · obtain ⟨a, i, rfl, T, ha, i0, i1, q⟩ := h
    have hr1 : Room 1 _ := hr.mono (by decide)
    refine ⟨_, pss_cons (ps_expr (pe_clsfn c GC hr rfl mC kC bC .nil pass0 (pa_cons (pv 0) (pa_cons (pe_joined (PJ.cons pe_str (PJ.cons (pe_fmt (pe_call GS hr1 rfl mS kS bS .nil pass0 (pa_cons (pv 1) pa_nil))) (PJ.cons pe_str PJ.nil)))) pa_nil))))
      (pss_one (ps_ost (pv 0) (pv 1))), ?_⟩
    have ln := PyProof.Rows.int_text_len_1921 (log_small i0 i1)
    have c1 : (Str.empty ++ Str.ofString "who begins at row ").length = 18 := by decide +kernel
    have c2 : (Str.ofString " is perhaps not inside just once").length = 32 := by decide +kernel
    refine ⟨_, rfl, _, rfl, (by decide +kernel), _, rfl, .inr ⟨i, rfl, i0, i1, .inl ⟨_, rfl, ?_, _, rfl, ?_, _, rfl, ?_, ?_⟩⟩⟩
    · exact Nat.le_trans ln (by decide)
    · rw [PySem.Str.length_append, c1, PySem.sizeLine_eq]
      omega
    · rw [PySem.Str.length_append, PySem.Str.length_append, c1, c2, PySem.sizeLine_eq]
      omega
    · exact ⟨a, C, _, rfl, T, ha, _, rfl, _, rfl, a, C, rfl, T, nR, .inl ⟨ha, fun dx hdx n => q dx hdx n⟩⟩
end
end CC

set_option Elab.async false
set_option maxRecDepth 100000
namespace CC
open PySem L2
set_option linter.unusedVariables false
/-! ### the same rows in another order of the cases -/
theorem RSim.fol {r r' : Row} (h : RSim r r') : ∀ q, q ∈ r.fol ↔ q ∈ r'.fol := by
  intro q
  cases r <;> cases r' <;> try exact h.elim
  · have e : _ = _ := h
    rw [e]
  · have e : _ = _ := h
    rw [e]
  · rw [show Row.fol (.wr _ _ _) = _ from rfl, h.2.2]
    rfl
  · obtain ⟨_, h2, h3⟩ := h
    show q ∈ _ ++ _ ↔ q ∈ _ ++ _
    rw [List.mem_append, List.mem_append, (h2.map (·.2)).mem_iff, h3]
theorem nxt_sim {rs rs' : List Row} (h : Paired RSim rs rs') (p : Nat × Nat) : (nxt rs p = none ↔ nxt rs' p = none) ∧ ∀ qs qs', nxt rs p = some qs → nxt rs' p = some qs' → ∀ q, q ∈ qs ↔ q ∈ qs' := by
  cases e : rs[p.1]? with
  | none =>
    have e' : rs'[p.1]? = none := by
      rw [List.getElem?_eq_none_iff] at e ⊢
      have := h.length
      omega
    unfold nxt
    rw [e, e']
    exact ⟨⟨fun _ => rfl, fun _ => rfl⟩, fun qs qs' a => by cases a⟩
  | some r =>
    obtain ⟨r', e', hs⟩ := paired_at h e
    unfold nxt
    rw [e, e']
    have hf := hs.fol
    cases r <;> cases r' <;> try exact hs.elim
    · dsimp only
      split
      · exact ⟨⟨fun _ => rfl, fun _ => rfl⟩, fun qs qs' a => by cases a⟩
      · exact ⟨⟨(fun z => nomatch z), (fun z => nomatch z)⟩, fun qs qs' a b q => by cases a; cases b; exact Iff.rfl⟩
    · dsimp only
      have e2 : _ = _ := hs
      split
      · exact ⟨⟨fun _ => rfl, fun _ => rfl⟩, fun qs qs' a => by cases a⟩
      · exact ⟨⟨(fun z => nomatch z), (fun z => nomatch z)⟩, fun qs qs' a b q => by cases a; cases b; rw [e2]⟩
    · dsimp only
      exact ⟨⟨(fun z => nomatch z), (fun z => nomatch z)⟩, fun qs qs' a b q => by cases a; cases b; rw [hs.2.2]⟩
    · dsimp only
      refine ⟨⟨(fun z => nomatch z), (fun z => nomatch z)⟩, fun qs qs' a b q => ?_⟩
      cases a
      cases b
      rw [List.mem_map, List.mem_map]
      exact ⟨fun ⟨z, hz, e⟩ => ⟨z, (hf z).mp hz, e⟩, fun ⟨z, hz, e⟩ => ⟨z, (hf z).mpr hz, e⟩⟩
theorem RSim.symm {r r' : Row} (h : RSim r r') : RSim r' r := by
  cases r <;> cases r' <;> try exact h.elim
  · exact Eq.symm h
  · exact Eq.symm h
  · exact ⟨h.1.symm, h.2.1.symm, h.2.2.symm⟩
  · exact ⟨h.1.symm, h.2.1.symm, h.2.2.symm⟩
theorem paired_flip {α β : Type} {F : α → β → Prop} : ∀ {l : List α} {m : List β}, Paired F l m → Paired (fun b a => F a b) m l
  | _, _, .nil => .nil
  | _, _, .cons h t => .cons h (paired_flip t)
theorem rch_sim {rs rs' : List Row} (h : Paired RSim rs rs') {first : Nat} {p : Nat × Nat} (hp : Rch rs (ini rs first) p) (o : ∀ q, Rch rs (ini rs first) q → nxt rs q ≠ none) : Rch rs' (ini rs' first) p := by
  induction hp with
  | @base p hp =>
    refine .base ?_
    unfold ini at hp ⊢
    cases e : rs[first]? with
    | none =>
      rw [e] at hp
      cases hp
    | some r =>
      rw [e] at hp
      obtain ⟨r', e', hs⟩ := paired_at h e
      rw [e']
      obtain ⟨z, hz, rfl⟩ := List.mem_map.mp hp
      exact List.mem_map.mpr ⟨z, (hs.fol z).mp hz, rfl⟩
  | @step p q qs r e hq ih =>
    cases e' : nxt rs' p with
    | none =>
      rw [((nxt_sim h p).1).mpr e'] at e
      cases e
    | some qs' => exact .step ih e' (((nxt_sim h p).2 qs qs' e e' q).mp hq)
theorem sim_sym {rs rs' : List Row} (h : Paired RSim rs rs') : Paired RSim rs' rs := L2.Paired.mapP (paired_flip h) fun a b e => e.symm
theorem once_sim {rs rs' : List Row} (h : Paired RSim rs rs') (first : Nat) (o : Once rs first) : Once rs' first := by
  intro p hp z
  have key : ∀ {p}, Rch rs' (ini rs' first) p → Rch rs (ini rs first) p := by
    intro p hp
    induction hp with
    | @base p hp =>
      have h2 := sim_sym h
      refine .base ?_
      unfold ini at hp ⊢
      cases e : rs'[first]? with
      | none =>
        rw [e] at hp
        cases hp
      | some r =>
        rw [e] at hp
        obtain ⟨r', e', hs⟩ := paired_at h2 e
        rw [e']
        obtain ⟨z, hz, rfl⟩ := List.mem_map.mp hp
        exact List.mem_map.mpr ⟨z, (hs.fol z).mp hz, rfl⟩
    | @step p q qs r e hq ih =>
      cases e' : nxt rs p with
      | none => exact absurd e' (o p ih)
      | some qs' => exact .step ih e' (((nxt_sim h p).2 qs' qs e' e q).mpr hq)
  exact o p (key hp) (((nxt_sim h p).1).mpr z)
theorem once_iff {rs rs' : List Row} (h : Paired RSim rs rs') (first : Nat) : Once rs first ↔ Once rs' first := ⟨once_sim h first, once_sim (sim_sym h) first⟩
end CC

set_option Elab.async false
set_option maxRecDepth 100000
namespace CC
open PySem PySem.Spec PyProof.Rows L2
set_option linter.unusedVariables false
/-! ### a dict whose one key is a truth value -/
def DB (P : Program) (w : World) (d : Addr) (ep : Nat) : HO := .ext fun h => (d == sysModules) = false ∧ ∃ t, h.DictAt (PpSet.boolK P w) d [(true, Value.int 0 t)] ep
theorem DB.ok {P : Program} {w : World} {H : Hp} {h : Heap} {d : Addr} {ep : Nat} {t : Tok} (n : (d == sysModules) = false) (x : h.DictAt (PpSet.boolK P w) d [(true, Value.int 0 t)] ep) : ObjOk P w H h d (DB P w d ep) := by
  refine ⟨⟨n, t, x⟩, ?_, fun a b ⟨n', t', x'⟩ k => ⟨n', t', Heap.DictAt.at' x' k⟩⟩
  obtain ⟨o, _, ho, _⟩ := x
  exact ⟨o, ho⟩
section
variable {X : Cx} {pins : List (Addr × Obj)} {σ : L2.St} {H : Hp} {s : Shared} {d : Addr} {ep : Nat}
theorem DB.at_ (I : Inv X pins σ H s) (e : H d = some (DB X.prog X.w d ep)) : (d == sysModules) = false ∧ ∃ t, s.heap.DictAt (PpSet.boolK X.prog X.w) d [(true, Value.int 0 t)] ep := (I.hok d _ e).1
def tDB (P : Program) (w : World) : TE := fun σ H Q => ∀ d ep, H d = none → Q (.ref d) (upd H d (DB P w d ep))
theorem pe_db {pos p1 p2 : Pos} {i j : Nat} : PE X (.Dict [some (.Constant (.bool true) i p1)] [.Constant (.int 0) j p2] pos) (tDB X.prog X.w) := by
  refine ⟨fun pins s σ H Q I q => ?_⟩
  have free := I.hok.fresh (Nat.le_refl s.heap.objs.size)
  have J := I.laid (a := s.heap.objs.size) (o := .dK []) (h' := s.heap.push { cls := .type "dict", data := .dict #[] }) (t' := s.toks) (fun _ _ z => Heap.get?_push_of_some _ z) (Nat.le_refl _) (dk_empty s.heap I.big)
  have pp : PPs X pos [some (.Constant (.bool true) i p1)] [.Constant (.int 0) j p2] [(tC (.bl true), tC (.int 0))] := pps_cons pe_bl pe_int pps_nil
  refine wpAny_Dict_walk (knd := PpSet.boolK X.prog X.w) rfl rfl (by intro z; cases z) (by show 1 ≤ 15; decide) (thn (pp.run pins _ σ _ (fun ps H2 => ps = [(V.bl true, V.int 0)] ∧ H2 = upd H s.heap.objs.size (.dK [])) J ⟨rfl, rfl⟩) fun ws s2 ⟨ps, H2, I2, rel, e1, e2⟩ => ?_)
  subst e1 e2
  cases rel with
  | @cons _ pr _ _ hd tl =>
    cases tl
    obtain ⟨u, v⟩ := pr
    obtain ⟨r1, t, r2⟩ := hd
    cases (show u = Value.bool true from r1)
    cases (show v = Value.int 0 t from r2)
    have at0 : (upd H s.heap.objs.size (.dK [])) s.heap.objs.size = some (.dK []) := upd_same
    obtain ⟨z, nm, vs0, r0, dd⟩ := dk_of I2.hok at0
    cases r0
    obtain ⟨o, es, ep0, ho, hx, hdt, _, pr, _⟩ := dd
    have e0 : es.toList = [] := by
      generalize es.toList = l at pr
      cases pr
      rfl
    have dd2 : s2.heap.DictOf (PpSet.boolK X.prog X.w) s.heap.objs.size [] := ⟨o, es, ep0, ho, hx, hdt, fun e he => absurd he (by
      rw [← Array.mem_toList_iff, e0]
      exact List.not_mem_nil), by rw [e0]; exact .nil, List.nodup_nil⟩
    refine ⟨[(true, Value.int 0 t)], ⟨PpSet.boolK_is _ _ true, rfl, True.intro⟩, dd2, fun h' fin sb => ?_⟩
    obtain ⟨o2, es2, ep2, ho2, rest⟩ := fin
    refine ⟨.ref s.heap.objs.size, _, d_write I2 (by rw [at0]; exact True.intro) sb ⟨o2, ho2⟩ (DB.ok nm ⟨o2, es2, ho2, rest⟩), rfl, ?_⟩
    have eu : upd (upd H s.heap.objs.size (.dK [])) s.heap.objs.size (DB X.prog X.w s.heap.objs.size ep2) = upd H s.heap.objs.size (DB X.prog X.w s.heap.objs.size ep2) := by
      funext b
      by_cases hb : b = s.heap.objs.size
      · rw [hb, upd_same, upd_same]
      · rw [upd_ne hb, upd_ne hb, upd_ne hb]
    rw [eu]
    exact q _ _ free
end
end CC

set_option Elab.async false
set_option maxRecDepth 100000
namespace CC
open PySem PySem.Spec PyProof.Rows L2
set_option linter.unusedVariables false
/-! ### walks over such a dict -/
def ItkB (P : Program) (w : World) (d : Addr) (ep : Nat) : It :=
  ⟨fun i H => H d = some (DB P w d ep) ∧ i < 1, fun i H x H' => H' = H ∧ x = .bl true, fun i H => H d = some (DB P w d ep) ∧ 1 ≤ i⟩
def ItiB (P : Program) (w : World) (d : Addr) (ep : Nat) : It :=
  ⟨fun i H => H d = some (DB P w d ep) ∧ i < 1, fun i H x H' => ∃ T, x = .ref T ∧ H T = none ∧ H' = upd H T (.tup [.bl true, .int 0]), fun i H => H d = some (DB P w d ep) ∧ 1 ≤ i⟩
section
variable {P : Program} {w : World} {K : PySem.W.Frag} {tg : Expr} {d : Addr} {ep : Nat}
theorem turn_keysB (it : Addr) : Turn P w K tg (ItkB P w d ep) [it] it (fun i h => h.IsKeyIter it d i 1 ep) := by
  refine ⟨by simp, fun i h st b hb => ?_, fun i h h' st k => st.at fun oi e => k it (by simp) oi e, ?_, ?_, fun A i s Q E st h => wpAny_pyIter_keyiter st h⟩
  · obtain rfl : b = it := by simpa using hb
    obtain ⟨oi, e, _, dat⟩ := st
    exact ⟨oi, e, fun v z => by rw [dat] at z; cases z⟩
  · rintro X rfl rfl rfl calm i pins s σ H E I own st ⟨hd, hi⟩
    obtain rfl : i = 0 := by omega
    obtain ⟨p0, p1, p2, p3, p4, p5⟩ := own it (by simp)
    obtain ⟨_, t, dat⟩ := DB.at_ I hd
    refine wpAny_pyNext_dict_item (kvs := [(true, Value.int 0 t)]) st dat rfl fun key h' isk st2 sb => ?_
    have J : Inv X pins σ H { s with heap := h' } := I.turned (t' := s.toks) (fun b o hb e => (sb.2 b hb).trans e) p0 p1 p3 p4 p5
    obtain ⟨oi, e, cl, fl⟩ := id st2
    exact ⟨key, rfl, go_of (s := { s with heap := h' }) e cl fl (by decide) ⟨.bl true, H, J, PpSet.isB_shape isk, ⟨rfl, rfl⟩, st2, fun b hb => (own b hb).1⟩⟩
  · rintro X rfl rfl rfl calm i pins s σ H E I own st ⟨hd, hi⟩
    obtain ⟨p0, p1, p2, p3, p4, p5⟩ := own it (by simp)
    obtain ⟨_, t, dat⟩ := DB.at_ I hd
    refine wpAny_pyNext_dict_end (kvs := [(true, Value.int 0 t)]) (I.ok.hd calm) st dat (List.getElem?_eq_none hi) fun h' eb => ⟨rfl, I.turned (t' := s.toks) (fun b o hb e => eb b o hb e) p0 p1 p3 p4 p5⟩
theorem turn_itemsB {elts : List Expr} {kk : Nat} {tpos : Pos} (it : Addr) : Turn P w K (.Tuple elts kk tpos) (ItiB P w d ep) [it] it (fun i h => ∃ ok ov, IsItemIter h it d i 1 ep ok ov) := by
  refine ⟨by simp, fun i h st b hb => ?_, fun i h h' st k => let ⟨ok, ov, e⟩ := st; ⟨ok, ov, k it (by simp) _ e⟩, ?_, ?_, fun A i s Q E st h => let ⟨_, _, e⟩ := st; PySem.W.kcp_self e h⟩
  · obtain rfl : b = it := by simpa using hb
    obtain ⟨_, _, e⟩ := st
    exact ⟨_, e, fun v z => nomatch z⟩
  · rintro X rfl rfl rfl calm i pins s σ H E I own ⟨ok, ov, st⟩ ⟨hd, hi⟩
    obtain rfl : i = 0 := by omega
    obtain ⟨_, t, dat⟩ := DB.at_ I hd
    have young : it < s.heap.objs.size := Heap.lt_size st
    refine wpAny_pyNext_items_item (kvs := [(true, Value.int 0 t)]) st dat rfl fun key h' isk out tup sz kp => ?_
    refine ⟨_, rfl, wpAny_letOwnedTupleGo_items (s := { s with heap := h' }) out fun h2 st2 sb => ?_⟩
    have tup2 : h2.get? s.heap.objs.size = some { cls := .type "tuple", data := .seq #[key, Value.int 0 t] } := (sb.2 _ (Nat.ne_of_gt young)).trans tup
    have laid : ObjOk X.prog X.w (upd H s.heap.objs.size (.tup [.bl true, .int 0])) h2 s.heap.objs.size (.tup [.bl true, .int 0]) :=
      ⟨by show 2 ≤ sizeLine; decide, [key, Value.int 0 t], .cons (PpSet.isB_shape isk) (.cons ⟨t, rfl⟩ .nil), ⟨_, tup2, rfl, _, rfl⟩⟩
    have J : Inv X pins σ (upd H s.heap.objs.size (.tup [.bl true, .int 0])) { s with heap := h2 } :=
      I.turnedNew (t' := s.toks) (ch := [it]) (fun b o hb e => (sb.2 b (by simpa using hb)).trans (kp b o (by simpa using hb) e)) own (Nat.le_refl _) laid
    refine ⟨.ref s.heap.objs.size, _, J, rfl, ⟨_, rfl, I.hok.fresh (Nat.le_refl _), rfl⟩, ⟨key, _, st2⟩, fun b hb => ?_⟩
    obtain rfl : b = it := by simpa using hb
    rw [upd_ne (Nat.ne_of_lt young)]
    exact (own b (by simp)).1
  · rintro X rfl rfl rfl calm i pins s σ H E I own ⟨ok, ov, st⟩ ⟨hd, hi⟩
    obtain ⟨p0, p1, p2, p3, p4, p5⟩ := own it (by simp)
    obtain ⟨_, t, dat⟩ := DB.at_ I hd
    exact wpAny_pyNext_items_end (kvs := [(true, Value.int 0 t)]) (I.ok.hd calm) st dat (List.getElem?_eq_none hi) fun h' eb => ⟨rfl, I.turned (t' := s.toks) (fun b o hb e => eb b o hb e) p0 p1 p3 p4 p5⟩
theorem walk_keysB : Walk (ItkB P w d ep) 1 (fun H => H d = some (DB P w d ep)) (fun i H x H' => H' = H ∧ x = .bl true) :=
  ⟨fun _ _ hi q => ⟨q, hi⟩, fun _ q => ⟨q, Nat.le_refl _⟩, fun _ _ _ _ _ _ y => y⟩
theorem walk_itemsB : Walk (ItiB P w d ep) 1 (fun H => H d = some (DB P w d ep)) (fun i H x H' => ∃ T, x = .ref T ∧ H T = none ∧ H' = upd H T (.tup [.bl true, .int 0])) :=
  ⟨fun _ _ hi q => ⟨q, hi⟩, fun _ q => ⟨q, Nat.le_refl _⟩, fun _ _ _ _ _ _ y => y⟩
end
def iKeysB (P : Program) (w : World) (td : TE) : TI := fun σ H R => td σ H fun x H1 => ∃ d ep, x = .ref d ∧ H1 d = some (DB P w d ep) ∧ R (ItkB P w d ep) H1
def iItemsB (P : Program) (w : World) (td : TE) : TI := fun σ H R => td σ H fun x H1 => ∃ d ep, x = .ref d ∧ H1 d = some (DB P w d ep) ∧ R (ItiB P w d ep) H1
section
variable {X : Cx} {tg e : Expr} {td : TE} {apos cpos : Pos}
theorem pi_keysB (he : PE X e td) : PI X tg e (iKeysB X.prog X.w td) := by
  refine ⟨fun pins s σ H R I h => thn (he.run pins s σ H _ I h) fun u s1 ⟨x, H1, I1, rx, d, ep, ex, hd, q⟩ => ?_⟩
  subst ex
  obtain rfl : u = Value.ref d := rx
  obtain ⟨nm, t, dat⟩ := DB.at_ I1 hd
  exact wpAny_pyIter_dict nm dat (pi_one (tk := s1.toks) I1 _ (turn_keysB _) ⟨_, Heap.get?_push_size _ rfl, rfl, rfl⟩ q)
theorem pi_itemsB {elts : List Expr} {kk : Nat} {tpos : Pos} (he : PE X e td) (hbase : attributeBase e "items" X.env (eval e X.env) = eval e X.env := by rfl) (hline : (apos.endLine == cpos.line) = true := by rfl) :
    PI X (.Tuple elts kk tpos) (.Call (.Attribute e "items" apos) [] [] cpos) (iItemsB X.prog X.w td) := by
  refine ⟨fun pins s σ H R I h => wpAny_Call_method (T := "dict") (id := "dict.items") hbase rfl hline PySem.F.plainAttrs_dict PySem.F.slot_dict_items PySem.F.type_dict_items (thn (he.run pins s σ H _ I h) fun u s1 ⟨x, H1, I1, rx, d, ep, ex, hd, q⟩ => ?_)⟩
  subst ex
  obtain rfl : u = Value.ref d := rx
  obtain ⟨nm, t, dat⟩ := DB.at_ I1 hd
  refine ⟨dat.dictOf.typeIs, dat.dictOf.mapOf.noDict, ?_⟩
  have J : Inv X pins σ H1 { s1 with heap := s1.heap.push { cls := .type "dict_items", data := .fields #[.ref d] } } := I1.kept (t' := s1.toks) fun b o z => Heap.get?_push_of_some _ z
  have last : wpAny (model X.prog X.w) X.A (pyIter (.ref s1.heap.objs.size)) (PIE X pins σ (.Tuple elts kk tpos) R) X.xe { s1 with heap := s1.heap.push { cls := .type "dict_items", data := .fields #[.ref d] } } :=
    wpAny_pyIter_items (d := d) (knd := PpSet.boolK X.prog X.w) ⟨_, Heap.get?_push_size _ rfl, rfl, rfl⟩ (dat.push _) (pi_one (tk := s1.toks) J _ (turn_itemsB _) ⟨.none, .none, Heap.get?_push_size _ rfl⟩ q)
  show wpAny _ _ (callWith cpos (.builtin "dict.items") [.ref d] [] []) _ X.xe s1
  exact method_meetsIn PySem.F.slot_dict_items PySem.F.entry_dict_items rfl (PySem.evalArgs_none ⟨rfl, dat.dictOf.typeIs, PySem.F.args_dict_items_1 _, _, meets_dict_items (PpSet.boolK X.prog X.w) d nm, ⟨_, dat.dictOf⟩, last⟩)
theorem pe_alt {t1 t2 : TE} (h1 : PE X e t1) (h2 : PE X e t2) : PE X e (fun σ H Q => t1 σ H Q ∨ t2 σ H Q) := ⟨fun pins s σ H Q I h => h.elim (h1.run pins s σ H Q I) (h2.run pins s σ H Q I)⟩
/-! ### isinstance, also of such a dict -/
inductive TyB (P : Program) (w : World) (K : PySem.W.Frag) (H : Hp) : V → Value → Prop where
  | x {v : V} {t : Value} (h : TyX K H v t) : TyB P w K H v t
  | db {d : Addr} {ep : Nat} (h : H d = some (DB P w d ep)) : TyB P w K H (.ref d) (.type "dict")
def rIsiB (P : Program) (w : World) (K : PySem.W.Frag) : List V → Hp → VK → Prop := fun xs H Q => ∃ (x c : V) (t u : Value) (b : Bool), xs = [x, c] ∧ ClsV c u ∧ TyB P w K H x t ∧ PySem.W.kitOne K t u = some b ∧ Q (.bl b) H
def rIsiBT (P : Program) (w : World) (K : PySem.W.Frag) : List V → Hp → VK → Prop := fun xs H Q => ∃ (x : V) (tp : Addr) (cs : List V) (t : Value) (us : List Value) (b : Bool), xs = [x, .ref tp] ∧ H tp = some (.tup cs) ∧ Paired ClsV cs us ∧ TyB P w K H x t ∧ PySem.W.kitAny K t us = some b ∧ Q (.bl b) H
theorem kit_db {pins : List (Addr × Obj)} {σ : L2.St} {H : Hp} {s : Shared} {x : V} {u t : Value} (I : Inv X pins σ H s) (rx : RelV x u) (ty : TyB X.prog X.w X.K H x t) : ∃ Z : Heap → Prop, PySem.W.KitX X.K u t Z ∧ Z s.heap ∧ u ≠ .builtin "__main__.__loader__#opaque" := by
  cases ty with
  | x h => exact kit_of I rx h
  | @db d ep h =>
    cases (show u = Value.ref d from rx)
    obtain ⟨_, t, o, es, ho, hx, _⟩ := DB.at_ I h
    exact ⟨_, PySem.W.kitx_dict, ⟨o, ho, hx.1⟩, fun z => nomatch z⟩
theorem call_isiB : CallR X (.builtin "isinstance") (rIsiB X.prog X.w X.K) := by
  intro pins s σ H xs us Q I r h
  obtain ⟨x, c, t, u, b, rfl, kc, ty, e, q⟩ := h
  obtain ⟨v1, v2, rfl, r1, r2⟩ := vals2 r
  obtain rfl := kc.eq r2
  obtain ⟨Z, kx, z, nb⟩ := kit_db I r1 ty
  exact PySem.W.kia_one kx I.kIn z e nb fun tk => ⟨.bl b, H, I.tok tk, rfl, q⟩
theorem call_isiBT : CallR X (.builtin "isinstance") (rIsiBT X.prog X.w X.K) := by
  intro pins s σ H xs us Q I r h
  obtain ⟨x, tp, cs, t, ws, b, rfl, hT, kc, ty, e, q⟩ := h
  obtain ⟨v1, v2, rfl, r1, r2⟩ := vals2 r
  obtain rfl : v2 = Value.ref tp := r2
  obtain ⟨Z, kx, z, nb⟩ := kit_db I r1 ty
  obtain ⟨_, its, rv, o, h1, h2, n, h3⟩ := (show ObjOk X.prog X.w H s.heap tp (.tup cs) from I.hok tp _ hT)
  obtain rfl := ClsV.all kc rv
  obtain ⟨oc, od, dt, sl⟩ := o
  obtain rfl : oc = _ := h2
  obtain rfl : dt = _ := h3
  exact PySem.W.kia_tup kx I.kIn z h1 e nb fun tk => ⟨.bl b, H, I.tok tk, rfl, q⟩
end
end CC

set_option Elab.async false
set_option maxRecDepth 100000
namespace CC
open PySem PySem.Spec PyProof.Rows L2
set_option linter.unusedVariables false
/-! ### things that may stand in a row, and what the program says of them -/
inductive Th where
  | non
  | int (i : Int)
  | str (z : Str)
  | bl (b : Bool)
  | seq (n : Nat)
  | dic (kvs : List (Key × Option Int))
  | db
  | dany
def vV : Option Int → V
  | none => .non
  | some i => .int i
def valT : Option Int → Th
  | none => .non
  | some i => .int i
def ThAt (P : Program) (w : World) (H : Hp) (t : Th) (v : V) : Prop :=
  match t with
  | .non => v = .non
  | .int i => v = .int i
  | .str z => v = .str z
  | .bl b => v = .bl b
  | .seq n => ∃ a xs, v = .ref a ∧ xs.length = n ∧ (H a = some (.lst xs) ∨ H a = some (.tup xs))
  | .dic kvs => ∃ a, v = .ref a ∧ H a = some (.dK (kvs.map fun kv => (kv.1, vV kv.2)))
  | .db => ∃ a ep, v = .ref a ∧ H a = some (DB P w a ep)
  | .dany => ∃ a kvs, v = .ref a ∧ H a = some (.dK kvs)
def Th.isStr : Th → Bool | .str _ => true | _ => false
def Th.isInt : Th → Bool | .int _ => true | .bl _ => true | _ => false
def Th.isBool : Th → Bool | .bl _ => true | _ => false
def Th.isDict : Th → Bool | .dic _ => true | .db => true | .dany => true | _ => false
def Th.isSeq : Th → Bool | .seq _ => true | _ => false
def Th.whole : Th → Bool | .int i => decide (i ≥ 0) | _ => false
def Th.num (n : Nat) : Th → Bool | .int i => decide (i ≥ 0) && decide (i < (n : Int)) | _ => false
def nameS (z : Str) : Bool := decide (z.length ≤ 8) && (Txt.isascii z && (Txt.isalpha z && Txt.islower z))
def Th.name : Th → Bool | .str z => nameS z | _ => false
def keyT : Key → Th | .inl i => .int i | .inr z => .str z
def okKV (n : Nat) (kv : Key × Option Int) : Bool := (keyT kv.1).whole && (valT kv.2).num n
def Th.cases_ (n : Nat) : Th → Bool | .dic kvs => kvs.all (okKV n) | _ => false
theorem ThAt.mono {P : Program} {w : World} {H H' : Hp} {t : Th} {v : V} (h : ThAt P w H t v) (s : Same H H') : ThAt P w H' t v := by
  cases t with
  | seq n =>
    obtain ⟨a, xs, e, l, x⟩ := h
    exact ⟨a, xs, e, l, x.elim (fun z => .inl (s _ _ z)) fun z => .inr (s _ _ z)⟩
  | dany =>
    obtain ⟨a, kvs, e, x⟩ := h
    exact ⟨a, kvs, e, s _ _ x⟩
  | dic kvs =>
    obtain ⟨a, e, x⟩ := h
    exact ⟨a, e, s _ _ x⟩
  | db =>
    obtain ⟨a, ep, e, x⟩ := h
    exact ⟨a, ep, e, s _ _ x⟩
  | _ => exact h
structure Typed (P : Program) (w : World) (K : PySem.W.Frag) (H : Hp) (t : Th) (v : V) (T : String) : Prop where
  ty : TyB P w K H v (.type T)
  str : PySem.W.kitOne K (.type T) (.type "str") = some t.isStr
  int : PySem.W.kitOne K (.type T) (.type "int") = some t.isInt
  bool : PySem.W.kitOne K (.type T) (.type "bool") = some t.isBool
  dict : PySem.W.kitOne K (.type T) (.type "dict") = some t.isDict
  seq : PySem.W.kitAny K (.type T) [.type "list", .type "tuple"] = some t.isSeq
theorem kitAny2 {K : PySem.W.Frag} {T : String} {a b : Bool} (h1 : kitB T "list" = some a) (h2 : kitB T "tuple" = some b) : PySem.W.kitAny K (.type T) [.type "list", .type "tuple"] = some (a || b) := by
  refine kitAny_cons (b := a) (kit_ty h1) (fun z => ?_) (fun z => by rw [z]; rfl)
  rw [z]
  refine kitAny_cons (b := b) (kit_ty h2) (fun z2 => by rw [z2]; rfl) (fun z2 => by rw [z2]; rfl)
theorem typed_of {P : Program} {w : World} {K : PySem.W.Frag} {H : Hp} {t : Th} {v : V} {T : String} {a b : Bool} (ty : TyB P w K H v (.type T)) (h1 : kitB T "str" = some t.isStr) (h2 : kitB T "int" = some t.isInt) (h3 : kitB T "bool" = some t.isBool) (h4 : kitB T "dict" = some t.isDict)
    (h5 : kitB T "list" = some a) (h6 : kitB T "tuple" = some b) (h7 : (a || b) = t.isSeq) : Typed P w K H t v T := ⟨ty, kit_ty h1, kit_ty h2, kit_ty h3, kit_ty h4, by rw [← h7]; exact kitAny2 h5 h6⟩
theorem ThAt.typed {P : Program} {w : World} {K : PySem.W.Frag} {H : Hp} {t : Th} {v : V} (h : ThAt P w H t v) : ∃ T, Typed P w K H t v T := by
  cases t with
  | non => cases (show v = .non from h); exact ⟨_, typed_of (a := false) (b := false) (.x (.base .non)) (by decide +kernel) (by decide +kernel) (by decide +kernel) (by decide +kernel) (by decide +kernel) (by decide +kernel) rfl⟩
  | int i => cases (show v = .int i from h); exact ⟨"int", typed_of (a := false) (b := false) (.x (.base (.int i))) (show kitB "int" "str" = some false by decide +kernel) (show kitB "int" "int" = some true by decide +kernel) (show kitB "int" "bool" = some false by decide +kernel) (show kitB "int" "dict" = some false by decide +kernel) (by decide +kernel) (by decide +kernel) rfl⟩
  | str z => cases (show v = .str z from h); exact ⟨"str", typed_of (a := false) (b := false) (.x (.base (.str z))) (show kitB "str" "str" = some true by decide +kernel) (show kitB "str" "int" = some false by decide +kernel) (show kitB "str" "bool" = some false by decide +kernel) (show kitB "str" "dict" = some false by decide +kernel) (by decide +kernel) (by decide +kernel) rfl⟩
  | bl b => cases (show v = .bl b from h); exact ⟨"bool", typed_of (a := false) (b := false) (.x (.base (.bl b))) (show kitB "bool" "str" = some false by decide +kernel) (show kitB "bool" "int" = some true by decide +kernel) (show kitB "bool" "bool" = some true by decide +kernel) (show kitB "bool" "dict" = some false by decide +kernel) (by decide +kernel) (by decide +kernel) rfl⟩
  | dany =>
    obtain ⟨a, kvs, rfl, x⟩ := h
    exact ⟨"dict", typed_of (a := false) (b := false) (.x (.base (.dK x))) (by decide +kernel) (by decide +kernel) (by decide +kernel) (by decide +kernel) (by decide +kernel) (by decide +kernel) rfl⟩
  | seq n =>
    obtain ⟨a, xs, rfl, _, x | x⟩ := h
    · exact ⟨"list", typed_of (a := true) (b := false) (.x (.base (.lst x))) (show kitB "list" "str" = some false by decide +kernel) (show kitB "list" "int" = some false by decide +kernel) (show kitB "list" "bool" = some false by decide +kernel) (show kitB "list" "dict" = some false by decide +kernel) (by decide +kernel) (by decide +kernel) rfl⟩
    · exact ⟨"tuple", typed_of (a := false) (b := true) (.x (.base (.tup x))) (show kitB "tuple" "str" = some false by decide +kernel) (show kitB "tuple" "int" = some false by decide +kernel) (show kitB "tuple" "bool" = some false by decide +kernel) (show kitB "tuple" "dict" = some false by decide +kernel) (by decide +kernel) (by decide +kernel) rfl⟩
  | dic kvs =>
    obtain ⟨a, rfl, x⟩ := h
    exact ⟨"dict", typed_of (a := false) (b := false) (.x (.base (.dK x))) (show kitB "dict" "str" = some false by decide +kernel) (show kitB "dict" "int" = some false by decide +kernel) (show kitB "dict" "bool" = some false by decide +kernel) (show kitB "dict" "dict" = some true by decide +kernel) (by decide +kernel) (by decide +kernel) rfl⟩
  | db =>
    obtain ⟨a, ep, rfl, x⟩ := h
    exact ⟨"dict", typed_of (a := false) (b := false) (.db x) (by decide +kernel) (by decide +kernel) (by decide +kernel) (by decide +kernel) (by decide +kernel) (by decide +kernel) rfl⟩
theorem ThAt.val {P : Program} {w : World} {H : Hp} (o : Option Int) : ThAt P w H (valT o) (vV o) := by
  cases o <;> rfl
theorem ThAt.key {P : Program} {w : World} {H : Hp} (k : Key) : ThAt P w H (keyT k) (kV k) := by
  cases k <;> rfl
def spListG (P : Program) (w : World) : Sp := fun vs H Q _ => ∃ (t : Th) (v : V), vs = [v] ∧ ThAt P w H t v ∧ ∀ H', Same H H' → Q (.bl t.isSeq) H'
def spWholeG (P : Program) (w : World) : Sp := fun vs H Q _ => ∃ (t : Th) (v : V), vs = [v] ∧ ThAt P w H t v ∧ Q (.bl t.whole) H
def spNumG (P : Program) (w : World) : Sp := fun vs H Q _ => ∃ (t : Th) (v : V) (n : Nat), vs = [v, .int (n : Nat)] ∧ ThAt P w H t v ∧ Q (.bl (t.num n)) H
def spNameG (P : Program) (w : World) : Sp := fun vs H Q _ => ∃ (t : Th) (v : V), vs = [v] ∧ ThAt P w H t v ∧ (∀ z, t = .str z → z.length ≤ 1000) ∧ Q (.bl t.name) H
section
variable {P : Program} {w : World} {K : PySem.W.Frag} {mg : Str → Option Value} {base : Heap}
theorem ok_listG {f : Addr} {fd : FuncData} (F : Fun K "is_list" "is_list" sIsList f fd) (ti : mg "isinstance" = none) (tl : mg "list" = none) (tt : mg "tuple" = none) :
    FnOk P w K mg base CX0 1 f fd ["value"] (spListG P w) := by
  refine F.ok scIsList (fun vs H Q E h => ?_) (fun cdv A outer s H vs Q E hr h => ?_)
  · obtain ⟨t, v, rfl, _⟩ := h
    rfl
  · refine ⟨_, pss_one (ps_ret (pe_callB call_isiBT (by rfl) ti (by decide +kernel) (pa_cons (pv 0) (pa_cons (pe_tup (pa_cons (pe_bltn (v := .ty "list") (by rfl) tl (by decide +kernel) rfl) (pa_cons (pe_bltn (v := .ty "tuple") (by rfl) tt (by decide +kernel) rfl) pa_nil))) pa_nil)))), ?_⟩
    obtain ⟨t, v, rfl, ht, k⟩ := h
    refine ⟨_, rfl, (by show 2 ≤ sizeLine; decide), fun u hu => ?_⟩
    have s1 := same_new (o := .tup [V.ty "list", V.ty "tuple"]) hu
    obtain ⟨T, ty⟩ := (ht.mono s1).typed (K := K)
    exact ⟨_, u, _, _, _, _, rfl, upd_same, .cons (.ty _) (.cons (.ty _) .nil), ty.ty, ty.seq, k _ s1⟩
theorem ok_wholeG {f : Addr} {fd : FuncData} (F : Fun K "is_whole" "is_whole" sIsWhole f fd) (ti : mg "isinstance" = none) (tn : mg "int" = none) (tb : mg "bool" = none) :
    FnOk P w K mg base CX0 1 f fd ["value"] (spWholeG P w) := by
  refine F.ok scIsWhole (fun vs H Q E h => ?_) (fun cdv A outer s H vs Q E hr h => ?_)
  · obtain ⟨t, v, rfl, _⟩ := h
    rfl
  · refine ⟨_, pss_one (ps_ret (pe_and (pe_callB call_isiB (by rfl) ti (by decide +kernel) (pa_cons (pv 0) (pa_cons (pe_bltn (v := .ty "int") (by rfl) tn (by decide +kernel) rfl) pa_nil)))
      (pe_and (pe_not (pe_callB call_isiB (by rfl) ti (by decide +kernel) (pa_cons (pv 0) (pa_cons (pe_bltn (v := .ty "bool") (by rfl) tb (by decide +kernel) rfl) pa_nil)))) (pe_one (pe_cmp (pc_ge (pv 0) pe_int) rfl))))), ?_⟩
    obtain ⟨t, v, rfl, ht, k⟩ := h
    obtain ⟨T, ty⟩ := ht.typed (K := K)
    refine ⟨_, rfl, _, _, _, _, _, rfl, .ty _, ty.ty, ty.int, _, rfl, ?_⟩
    cases t with
    | int i =>
      cases (show v = .int i from ht)
      refine iteT ⟨_, rfl, _, _, _, _, _, rfl, .ty _, ty.ty, ty.bool, _, rfl, _, rfl, iteT ?_⟩
      exact ⟨_, rfl, _, _, rfl, rfl, k⟩
    | bl b => exact iteT ⟨_, rfl, _, _, _, _, _, rfl, .ty _, ty.ty, ty.bool, _, rfl, _, rfl, iteF k⟩
    | _ => exact iteF k
theorem ok_numG {f fW : Addr} {fd fdW : FuncData} (F : Fun K "is_number" "is_number" sIsNumber f fd) (GW : FnOk P w K mg base CX0 1 fW fdW ["value"] (spWholeG P w)) (mW : mg "is_whole" = some (.ref fW)) (kW : PySem.W.keepIn K (.ref fW) = true) (bW : L2.Binds K fdW ["value"] []) :
    FnOk P w K mg base CX0 2 f fd ["value", "many"] (spNumG P w) := by
  refine F.ok scIsNumber (fun vs H Q E h => ?_) (fun cdv A outer s H vs Q E hr h => ?_)
  · obtain ⟨t, v, n, rfl, _⟩ := h
    rfl
  · refine ⟨_, pss_one (ps_ret (pe_and (pe_call GW hr rfl mW kW bW .nil pass0 (pa_cons (pv 0) pa_nil)) (pe_one (pe_cmp (pc_lt (pv 0) (pv 1)) rfl)))), ?_⟩
    obtain ⟨t, v, n, rfl, ht, k⟩ := h
    refine ⟨_, rfl, t, v, rfl, ht, _, rfl, ?_⟩
    cases t with
    | int i =>
      cases (show v = .int i from ht)
      by_cases h0 : i ≥ 0
      · refine ite_yes (decide_eq_true h0) ⟨_, rfl, _, rfl, _, _, rfl, rfl, ?_⟩
        have e : Th.num n (.int i) = decide (i < (n : Int)) := by
          show (decide (i ≥ 0) && decide (i < (n : Int))) = _
          rw [decide_eq_true h0, Bool.true_and]
        rw [e] at k
        exact k
      · refine ite_no (decide_eq_false h0) ?_
        have e : Th.num n (.int i) = false := by
          show (decide (i ≥ 0) && decide (i < (n : Int))) = _
          rw [decide_eq_false h0, Bool.false_and]
        rw [e] at k
        exact k
    | _ => exact iteF k
theorem ok_nameG {f : Addr} {fd : FuncData} (F : Fun K "is_name" "is_name" sIsName f fd) (ti : mg "isinstance" = none) (ts : mg "str" = none) (tl : mg "len" = none) :
    FnOk P w K mg base CX0 1 f fd ["value"] (spNameG P w) := by
  refine F.ok scIsName (fun vs H Q E h => ?_) (fun cdv A outer s H vs Q E hr h => ?_)
  · obtain ⟨t, v, rfl, _⟩ := h
    rfl
  · refine ⟨_, pss_cons (ps_if (PW.pt (pw_or (pt_not (pt_val (pe_callB call_isiB (by rfl) ti (by decide +kernel) (pa_cons (pv 0) (pa_cons (pe_bltn (v := .ty "str") (by rfl) ts (by decide +kernel) rfl) pa_nil))))) (pw_or1 (pt_cmpR op_gt (pe_callB call_len_str (by rfl) tl PySem.boot_len (pa_cons (pv 0) pa_nil)) pe_int (nomark _))))) (pss_one (ps_ret pe_bl)) pss_nil)
      (pss_one (ps_ret (pe_and (pe_m0 PySem.F.slot_str_isascii PySem.F.type_str_isascii mt_isascii (pv 0)) (pe_and (pe_m0 PySem.F.slot_str_isalpha PySem.F.type_str_isalpha mt_isalpha (pv 0)) (pe_one (pe_m0 PySem.F.slot_str_islower PySem.F.type_str_islower mt_islower (pv 0))))))), ?_⟩
    obtain ⟨t, v, rfl, ht, hz, k⟩ := h
    obtain ⟨T, ty⟩ := ht.typed (K := K)
    refine ⟨_, rfl, _, _, _, _, _, rfl, .ty _, ty.ty, ty.str, _, rfl, ?_⟩
    cases t with
    | str z =>
      cases (show v = .str z from ht)
      refine iteF ⟨_, rfl, z, rfl, Nat.le_of_lt (small (Nat.lt_of_le_of_lt (hz z rfl) (by decide))), _, _, rfl, rfl, _, rfl, ?_⟩
      have e0 : Th.name (.str z) = (decide (z.length ≤ 8) && (Txt.isascii z && (Txt.isalpha z && Txt.islower z))) := rfl
      rw [e0] at k
      by_cases l : z.length ≤ 8
      · rw [decide_eq_true l, Bool.true_and] at k
        refine ite_no (decide_eq_false (by show ¬ ((z.length : Int) > 8); omega)) ?_
        refine ⟨_, rfl, ⟨_, rfl⟩, z, rfl, rfl, trivial, _, rfl, ?_⟩
        cases e1 : Txt.isascii z with
        | false =>
          rw [e1, Bool.false_and] at k
          exact iteF k
        | true =>
          rw [e1, Bool.true_and] at k
          refine iteT ⟨_, rfl, ⟨_, rfl⟩, z, rfl, rfl, trivial, _, rfl, ?_⟩
          cases e2 : Txt.isalpha z with
          | false =>
            rw [e2, Bool.false_and] at k
            exact iteF k
          | true =>
            rw [e2, Bool.true_and] at k
            exact iteT ⟨_, rfl, ⟨_, rfl⟩, z, rfl, rfl, trivial, k⟩
      · rw [decide_eq_false l, Bool.false_and] at k
        exact ite_yes (decide_eq_true (by show (z.length : Int) > 8; omega)) k
    | _ => exact iteT k
end
end CC

set_option Elab.async false
set_option maxRecDepth 100000
namespace CC
open PySem PySem.Spec PyProof.Rows L2
set_option linter.unusedVariables false
def spCasesG (P : Program) (w : World) : Sp := fun vs H Q _ => ∃ (t : Th) (v : V) (n : Nat), vs = [v, .int (n : Nat)] ∧ ThAt P w H t v ∧ (∀ kvs, t = .dic kvs → kvs.length ≤ 100) ∧ t ≠ .dany ∧ ∀ H', Same H H' → Q (.bl (t.cases_ n)) H'
abbrev dOf (kvs : List (Key × Option Int)) : List (Key × V) := kvs.map fun kv => (kv.1, vV kv.2)
section
variable {P : Program} {w : World} {K : PySem.W.Frag} {mg : Str → Option Value} {base : Heap}
theorem ok_casesG {f fW fN : Addr} {fd fdW fdN : FuncData} (F : Fun K "are_cases" "are_cases" sAreCases f fd) (GW : FnOk P w K mg base CX0 1 fW fdW ["value"] (spWholeG P w)) (mW : mg "is_whole" = some (.ref fW)) (kW : PySem.W.keepIn K (.ref fW) = true) (bW : L2.Binds K fdW ["value"] [])
    (GN : FnOk P w K mg base CX0 2 fN fdN ["value", "many"] (spNumG P w)) (mN : mg "is_number" = some (.ref fN)) (kN : PySem.W.keepIn K (.ref fN) = true) (bN : L2.Binds K fdN ["value", "many"] []) (ti : mg "isinstance" = none) (td : mg "dict" = none) (ta : mg "all" = none) :
    FnOk P w K mg base CX0 3 f fd ["value", "many"] (spCasesG P w) := by
  refine F.ok scAreCases (fun vs H Q E h => ?_) (fun cdv A outer s H vs Q E hr h => ?_)
  · obtain ⟨t, v, n, rfl, _⟩ := h
    rfl
  · have hr1 : Room 1 _ := hr.mono (by decide)
    refine ⟨_, pss_cons (ps_if (pt_not (pt_val (pe_callB call_isiB (by rfl) ti (by decide +kernel) (pa_cons (pv 0) (pa_cons (pe_bltn (v := .ty "dict") (by rfl) td (by decide +kernel) rfl) pa_nil))))) (pss_one (ps_ret pe_bl)) pss_nil)
      (pss_one (ps_ret (pe_callB (cr_all rfl) (by rfl) ta (by decide +kernel) (pa_cons (pe_alt (pe_lock (pe_lc (own := [("worth", 2), ("number", 3)]) (g := gTup K 2 (gCons (gName 2) (gCons (gName 3) gNil))) (by rfl) scAreCases.nd (pi_items (pv 0)) (blkOk_by (own := [("worth", 2), ("number", 3)]) (N := ["value", "many", "worth", "number"]) (sc := defScope sAreCases) (by decide +kernel))
        (fun _ _ _ _ _ => pg_tup (by rfl) (pgs_cons (pg_name (i := 2) scAreCases.nd rfl (Or.inl rfl)) (pgs_cons (pg_name (i := 3) scAreCases.nd rfl (Or.inl rfl)) pgs_nil))) (fun _ _ _ _ _ => pts_nil)
        (fun _ _ _ _ _ => pe_and (pe_call GW hr1 rfl mW kW bW .nil pass0 (pa_cons (pv 2) pa_nil)) (pe_one (pe_call GN hr rfl mN kN bN .nil pass0 (pa_cons (pv 3) (pa_cons (pv 1) pa_nil)))))))
        (pe_lc (own := [("worth", 2), ("number", 3)]) (g := gTup K 2 (gCons (gName 2) (gCons (gName 3) gNil))) (by rfl) scAreCases.nd (pi_itemsB (pv 0)) (blkOk_by (own := [("worth", 2), ("number", 3)]) (N := ["value", "many", "worth", "number"]) (sc := defScope sAreCases) (by decide +kernel))
        (fun _ _ _ _ _ => pg_tup (by rfl) (pgs_cons (pg_name (i := 2) scAreCases.nd rfl (Or.inl rfl)) (pgs_cons (pg_name (i := 3) scAreCases.nd rfl (Or.inl rfl)) pgs_nil))) (fun _ _ _ _ _ => pts_nil)
        (fun _ _ _ _ _ => pe_and (pe_call GW hr1 rfl mW kW bW .nil pass0 (pa_cons (pv 2) pa_nil)) (pe_one (pe_call GN hr rfl mN kN bN .nil pass0 (pa_cons (pv 3) (pa_cons (pv 1) pa_nil))))))) pa_nil)))), ?_⟩
    obtain ⟨t, v, n, rfl, ht, hz, nda, k⟩ := h
    obtain ⟨T, ty⟩ := ht.typed (K := K)
    refine ⟨_, rfl, _, _, _, _, _, rfl, .ty _, ty.ty, ty.dict, _, rfl, ?_⟩
    cases t with
    | dic kvs =>
      obtain ⟨d, rfl, hd⟩ := ht
      have small_ := hz kvs rfl
      refine iteF (.inl ?_)
      refine ⟨d, _, hd, trivial, fun od => ?_⟩
      have dL : (upd H d (.frz od (.dK (dOf kvs)))) d = some (.frz od (.dK (dOf kvs))) := upd_same
      have oL : ∀ b o, H b = some o → b ≠ d → (upd H d (.frz od (.dK (dOf kvs)))) b = some o := fun b o e n => by
        rw [upd_ne n]
        exact e
      revert dL oL
      generalize (upd H d (.frz od (.dK (dOf kvs)))) = HL
      intro dL oL
      refine ⟨_, rfl, d, od, _, rfl, dL, fun D hD => ?_⟩
      refine lc_it (walk_items (d := d) (o := od) (kvs := dOf kvs)) (fun i H => H D = some (.lst (((kvs.take i).map (okKV n)).map V.bl)) ∧ Same HL H) ⟨upd_same, same_new hD⟩ (fun i H _ ⟨_, e⟩ => e _ _ dL) ?_ ?_
      · rintro i x0 Ha Hb hi ⟨hDa, sa⟩ ⟨T1, kx, vx, rfl, hT, rfl, e1, e2⟩
        dsimp only at e1 e2
        rw [List.getElem?_map] at e1 e2
        obtain ⟨kv, hkv, rfl, rfl⟩ : ∃ kv, kvs[i]? = some kv ∧ kx = kV kv.1 ∧ vx = vV kv.2 := by
          cases e : kvs[i]? with
          | none =>
            rw [e] at e1
            cases e1
          | some z =>
            rw [e] at e1 e2
            cases e1
            cases e2
            exact ⟨z, rfl, rfl, rfl⟩
        have il := (List.getElem?_eq_some_iff.mp hkv).1
        have nDT : D ≠ T1 := ne_of_none hDa hT
        have hDb : (upd Ha T1 (.tup [kV kv.1, vV kv.2])) D = some (.lst (((kvs.take i).map (okKV n)).map V.bl)) := by
          rw [upd_ne nDT]
          exact hDa
        have step : ∀ b, b = okKV n kv → ∃ acc, (upd Ha T1 (.tup [kV kv.1, vV kv.2])) D = some (.lst acc) ∧ acc.length < sizeLine ∧ (upd (upd Ha T1 (.tup [kV kv.1, vV kv.2])) D (.lst (acc ++ [V.bl b]))) D = some (.lst (((kvs.take (i + 1)).map (okKV n)).map V.bl)) ∧ Same HL (upd (upd Ha T1 (.tup [kV kv.1, vV kv.2])) D (.lst (acc ++ [V.bl b]))) := fun b eb => by
          refine ⟨_, hDb, small (by rw [List.length_map, List.length_map, List.length_take]; omega), ?_, same_put (same_tr sa (same_new hT)) hD⟩
          rw [upd_same, List.take_add_one, hkv, eb, List.map_append, List.map_append]
          rfl
        refine ⟨T1, _, rfl, SqT.of upd_same, rfl, _, _, rfl, _, _, rfl, rfl, rfl, tyes_if ?_⟩
        refine ⟨_, rfl, keyT kv.1, _, rfl, ThAt.key _, _, rfl, ?_⟩
        cases ew : (keyT kv.1).whole with
        | false => exact iteF (step false (by unfold okKV; rw [ew]; rfl))
        | true => exact iteT ⟨_, rfl, _, rfl, valT kv.2, _, n, rfl, ThAt.val _, step _ (by unfold okKV; rw [ew]; rfl)⟩
      · rintro Ha ⟨hDa, sa⟩
        refine ⟨sa _ _ dL, ?_⟩
        have sU : Same H (upd Ha d (.dK (dOf kvs))) := fun b o e => by
          by_cases n : b = d
          · subst n
            rw [hd] at e
            rw [upd_same, e]
          · rw [upd_ne n]
            exact sa _ _ (oL _ _ e n)
        have nD : D ≠ d := ne_of hDa (sa _ _ dL) (by intro z; cases z)
        refine ⟨D, _, rfl, SqL.of (by rw [upd_ne nD]; exact hDa), ?_⟩
        have e0 : ((kvs.take (dOf kvs).length).map (okKV n)).all id = Th.cases_ n (.dic kvs) := by
          rw [List.length_map, List.take_length, List.all_map]
          rfl
        rw [e0]
        exact k _ sU
    | db =>
      obtain ⟨d, ep, rfl, hd⟩ := ht
      refine iteF (.inr ?_)
      refine ⟨_, rfl, d, ep, rfl, hd, fun D hD => ?_⟩
      refine lc_it (walk_itemsB (P := P) (w := w) (d := d) (ep := ep)) (fun i H2 => H2 D = some (.lst ((List.replicate i false).map V.bl)) ∧ Same H H2) ⟨upd_same, same_new hD⟩ (fun i H2 _ ⟨_, e⟩ => e _ _ hd) ?_ ?_
      · rintro i x0 Ha Hb hi ⟨hDa, sa⟩ ⟨T1, rfl, hT, rfl⟩
        have nDT : D ≠ T1 := ne_of_none hDa hT
        refine ⟨T1, _, rfl, SqT.of upd_same, rfl, _, _, rfl, _, _, rfl, rfl, rfl, tyes_if ?_⟩
        refine ⟨_, rfl, .bl true, _, rfl, rfl, _, rfl, iteF ?_⟩
        refine ⟨_, by rw [upd_ne nDT]; exact hDa, small (by rw [List.length_map, List.length_replicate]; omega), ?_, same_put (same_tr sa (same_new hT)) hD⟩
        rw [upd_same, List.replicate_succ', List.map_append]
        rfl
      · rintro Ha ⟨hDa, sa⟩
        exact ⟨D, _, rfl, SqL.of hDa, k _ sa⟩
    | dany => exact absurd rfl nda
    | _ => exact iteT (k _ fun _ _ x => x)
end
end CC

set_option Elab.async false
set_option maxRecDepth 100000
namespace CC
open PySem PySem.Spec PyProof.Rows L2
set_option linter.unusedVariables false
/-! ### any thing in the place of a row -/
def isRI (h : Str) : Bool := decide (h = "rest") || decide (h = "inside")
theorem beq_str (a b : Str) : (eqV (V.str a) (V.str b)) = decide (b = a) := by
  show (a == b) = decide (b = a)
  rw [Bool.eq_iff_iff]
  simp only [beq_iff_eq, decide_eq_true_eq]
  exact eq_comm
theorem in_ri (h : Str) : (if false = true then !inV (V.str h) [V.str "rest", V.str "inside"] else inV (V.str h) [V.str "rest", V.str "inside"]) = isRI h := by
  show ((eqV (V.str "rest") (V.str h)) || ((eqV (V.str "inside") (V.str h)) || false)) = _
  rw [Bool.or_false, beq_str, beq_str]
  rfl
theorem atZ {x : V} {xs : List V} : atI (x :: xs) 0 = some x := (show atI (x :: xs) ((0 : Nat) : Int) = some x from atI_nat (j := 0) rfl)
def Th.small : Th → Prop
  | .str z => z.length ≤ 1000
  | .dic kvs => kvs.length ≤ 10 ∧ (kvs.map (·.1)).Nodup
  | .seq n => n ≤ 1
  | .dany => False
  | _ => True
def rowB (n : Nat) : List Th → Bool
  | [.str h, y] => isRI h && y.num n
  | [.str h, y, z, u] => !isRI h && (y.name && (u.num n && (if h = "write" then z.whole else decide (h = "read") && z.cases_ n)))
  | _ => false
inductive RowD where
  | flat (t : Th)
  | nil
  | tup (ts : List Th)
def RowD.ok (n : Nat) : RowD → Bool
  | .tup ts => rowB n ts
  | _ => false
def RowDAt (P : Program) (w : World) (H : Hp) (d : RowD) (v : V) : Prop :=
  match d with
  | .flat t => t.isSeq = false ∧ ThAt P w H t v
  | .nil => ∃ a, v = .ref a ∧ H a = some (.lst [])
  | .tup ts => ∃ a xs, v = .ref a ∧ H a = some (.tup xs) ∧ Paired (fun x t => ThAt P w H t x) xs ts ∧ (∀ t ∈ ts, t.small) ∧ ts.length ≤ 100
theorem RowDAt.mono {P : Program} {w : World} {H H' : Hp} {d : RowD} {v : V} (h : RowDAt P w H d v) (s : Same H H') : RowDAt P w H' d v := by
  cases d with
  | flat t => exact ⟨h.1, h.2.mono s⟩
  | nil =>
    obtain ⟨a, e, x⟩ := h
    exact ⟨a, e, s _ _ x⟩
  | tup ts =>
    obtain ⟨a, xs, e, x, p, m⟩ := h
    exact ⟨a, xs, e, s _ _ x, L2.Paired.mapP p fun x t q => q.mono s, m⟩
def spRowG (P : Program) (w : World) : Sp := fun vs H Q _ => ∃ (d : RowD) (v : V) (n : Nat), vs = [v, .int (n : Nat)] ∧ RowDAt P w H d v ∧ ∀ H', Same H H' → Q (.bl (d.ok n)) H'
section
variable {P : Program} {w : World} {K : PySem.W.Frag} {mg : Str → Option Value} {base : Heap}
theorem ok_rowG {f fL fW fM fN fC : Addr} {fd fdL fdW fdM fdN fdC : FuncData} (F : Fun K "is_row" "is_row" sIsRow f fd) (GL : FnOk P w K mg base CX0 1 fL fdL ["value"] (spListG P w)) (mL : mg "is_list" = some (.ref fL)) (kL : PySem.W.keepIn K (.ref fL) = true) (bL : L2.Binds K fdL ["value"] []) (GW : FnOk P w K mg base CX0 1 fW fdW ["value"] (spWholeG P w)) (mW : mg "is_whole" = some (.ref fW)) (kW : PySem.W.keepIn K (.ref fW) = true) (bW : L2.Binds K fdW ["value"] []) (GM : FnOk P w K mg base CX0 1 fM fdM ["value"] (spNameG P w)) (mM : mg "is_name" = some (.ref fM)) (kM : PySem.W.keepIn K (.ref fM) = true) (bM : L2.Binds K fdM ["value"] []) (GN : FnOk P w K mg base CX0 2 fN fdN ["value", "many"] (spNumG P w)) (mN : mg "is_number" = some (.ref fN)) (kN : PySem.W.keepIn K (.ref fN) = true) (bN : L2.Binds K fdN ["value", "many"] []) (GC : FnOk P w K mg base CX0 3 fC fdC ["value", "many"] (spCasesG P w)) (mC : mg "are_cases" = some (.ref fC)) (kC : PySem.W.keepIn K (.ref fC) = true) (bC : L2.Binds K fdC ["value", "many"] []) (ti : mg "isinstance" = none) (ts : mg "str" = none) (tl : mg "len" = none) :
    FnOk P w K mg base CX0 4 f fd ["value", "many"] (spRowG P w) := by
  refine F.ok scIsRow (fun vs H Q E h => ?_) (fun cdv A outer s H vs Q E hr h => ?_)
  · obtain ⟨d, v, n, rfl, _⟩ := h
    rfl
  · have hr1 : Room 1 _ := hr.mono (by decide)
    have hr2 : Room 2 _ := hr.mono (by decide)
    refine ⟨_, pss_cons (ps_if (PW.pt (pw_or (pt_not (pt_val (pe_call GL hr1 rfl mL kL bL .nil pass0 (pa_cons (pv 0) pa_nil)))) (pw_or (pt_cmpR op_lt (pe_callB call_len_seq (by rfl) tl PySem.boot_len (pa_cons (pv 0) pa_nil)) pe_int (nomark _)) (pw_or1 (pt_not (pt_val (pe_callB call_isiB (by rfl) ti (by decide +kernel) (pa_cons (pe_ix ix_tup (pv 0) pe_int (fun _ _ => rfl)) (pa_cons (pe_bltn (v := .ty "str") (by rfl) ts (by decide +kernel) rfl) pa_nil))))))))) (pss_one (ps_ret pe_bl)) pss_nil)
      (pss_cons (ps_if (pt_cmpR op_in_seq (pe_ix ix_tup (pv 0) pe_int (fun _ _ => rfl)) (pe_tup (pa_cons pe_str (pa_cons pe_str pa_nil))) (by rfl)) (pss_one (ps_ret (pe_and (pe_cmpR op_eq (pe_callB call_len_seq (by rfl) tl PySem.boot_len (pa_cons (pv 0) pa_nil)) pe_int (nomark _)) (pe_one (pe_call GN hr2 rfl mN kN bN .nil pass0 (pa_cons (pe_ix ix_tup (pv 0) pe_int (fun _ _ => rfl)) (pa_cons (pv 1) pa_nil))))))) pss_nil)
      (pss_cons (ps_if (PW.pt (pw_or (pt_cmpR op_ne (pe_callB call_len_seq (by rfl) tl PySem.boot_len (pa_cons (pv 0) pa_nil)) pe_int (nomark _)) (pw_or (pt_not (pt_val (pe_call GM hr1 rfl mM kM bM .nil pass0 (pa_cons (pe_ix ix_tup (pv 0) pe_int (fun _ _ => rfl)) pa_nil)))) (pw_or1 (pt_not (pt_val (pe_call GN hr2 rfl mN kN bN .nil pass0 (pa_cons (pe_ix ix_tup (pv 0) pe_int (fun _ _ => rfl)) (pa_cons (pv 1) pa_nil))))))))) (pss_one (ps_ret pe_bl)) pss_nil)
      (pss_cons (ps_if (pt_cmpR op_eq (pe_ix ix_tup (pv 0) pe_int (fun _ _ => rfl)) pe_str (nomark _)) (pss_one (ps_ret (pe_call GW hr1 rfl mW kW bW .nil pass0 (pa_cons (pe_ix ix_tup (pv 0) pe_int (fun _ _ => rfl)) pa_nil)))) pss_nil)
      (pss_one (ps_ret (pe_and (pe_cmpR op_eq (pe_ix ix_tup (pv 0) pe_int (fun _ _ => rfl)) pe_str (nomark _)) (pe_one (pe_call GC hr rfl mC kC bC .nil pass0 (pa_cons (pe_ix ix_tup (pv 0) pe_int (fun _ _ => rfl)) (pa_cons (pv 1) pa_nil)))))))))), ?_⟩
    obtain ⟨d, v, n, rfl, hd, k⟩ := h
    cases d with
    | flat t =>
      obtain ⟨h1, h2⟩ := hd
      refine ⟨_, rfl, t, v, rfl, h2, fun H1 s1 => ⟨_, rfl, ?_⟩⟩
      rw [h1]
      exact iteT (k _ s1)
    | nil =>
      obtain ⟨a, rfl, ha⟩ := hd
      refine ⟨_, rfl, .seq _, _, rfl, ⟨a, _, rfl, rfl, .inl ha⟩, fun H1 s1 => ⟨_, rfl, iteF ?_⟩⟩
      refine ⟨_, rfl, a, _, rfl, .inl (SqL.of (s1 _ _ ha)), _, _, rfl, rfl, _, rfl, ite_yes (decide_eq_true (by show ((0 : Nat) : Int) < 2; decide)) (k _ s1)⟩
    | tup ts =>
      obtain ⟨a, xs, rfl, ha, pr, sm, few⟩ := hd
      have len : xs.length = ts.length := pr.length
      refine ⟨_, rfl, .seq _, _, rfl, ⟨a, _, rfl, rfl, .inr ha⟩, fun H1 s1 => ⟨_, rfl, iteF ?_⟩⟩
      have ha1 := s1 _ _ ha
      replace pr := L2.Paired.mapP pr fun x t q => ThAt.mono q s1
      refine ⟨_, rfl, a, _, rfl, .inr (SqT.of ha1), _, _, rfl, rfl, _, rfl, ?_⟩
      cases pr with
      | nil => exact ite_yes (decide_eq_true (by show ((0 : Nat) : Int) < 2; decide)) (k _ s1)
      | @cons x0 t0 xs1 ts1 h0 pr =>
      cases pr with
      | nil =>
        refine ite_yes (decide_eq_true (by show ((1 : Nat) : Int) < 2; decide)) ?_
        have e : RowD.ok n (.tup [t0]) = false := by cases t0 <;> rfl
        rw [← e]
        exact k _ s1
      | @cons x1 t1 xs2 ts2 h1 pr =>
      refine ite_no (decide_eq_false (by show ¬ (((x0 :: x1 :: xs2).length : Nat) : Int) < 2; simp only [List.length_cons]; omega)) ?_
      obtain ⟨T, ty⟩ := h0.typed (K := K)
      refine ⟨_, rfl, a, _, _, _, rfl, rfl, SqT.of ha1, atZ, _, _, _, _, _, rfl, .ty _, ty.ty, ty.str, _, rfl, ?_⟩
      cases t0 with
      | str h =>
        cases (show x0 = .str h from h0)
        refine iteF ?_
        refine ⟨_, rfl, a, _, _, _, rfl, rfl, SqT.of ha1, atZ, (by show 2 ≤ sizeLine; decide), fun u hu => ⟨u, _, rfl, .inr (SqT.of upd_same), rfl, rfl, _, rfl, ?_⟩⟩
        have s2 := same_tr s1 (same_new (o := .tup [V.str "rest", V.str "inside"]) hu)
        have ha2 := same_new (o := .tup [V.str "rest", V.str "inside"]) hu _ _ ha1
        replace h1 := ThAt.mono h1 (same_new (o := .tup [V.str "rest", V.str "inside"]) hu)
        replace pr := L2.Paired.mapP pr fun x t q => ThAt.mono q (same_new (o := .tup [V.str "rest", V.str "inside"]) hu)
        revert s2 ha2 h1 pr
        generalize upd H1 u (.tup [V.str "rest", V.str "inside"]) = H2
        intro s2 ha2 h1 pr
        rw [in_ri]
        cases ri : isRI h with
        | true =>
          refine iteT ?_
          refine ⟨_, rfl, a, _, rfl, .inr (SqT.of ha2), rfl, _, rfl, ?_⟩
          cases pr with
          | nil =>
            refine ite_yes (decide_eq_true rfl) ?_
            refine ⟨_, rfl, a, _, _, _, rfl, rfl, SqT.of ha2, rfl, _, rfl, t1, x1, n, rfl, h1, ?_⟩
            have e : RowD.ok n (.tup [.str h, t1]) = t1.num n := by
              show (isRI h && t1.num n) = _
              rw [ri, Bool.true_and]
            rw [← e]
            exact k _ s2
          | @cons x2 t2 xs3 ts3 h2 pr =>
            refine ite_no (decide_eq_false (by simp only [List.length_cons]; intro z; injection z with z; omega)) ?_
            have e : RowD.ok n (.tup (.str h :: t1 :: t2 :: ts3)) = false := by
              match ts3 with
              | [] => rfl
              | [u] =>
                show (!isRI h && _) = false
                rw [ri]
                rfl
              | _ :: _ :: _ => rfl
            rw [← e]
            exact k _ s2
        | false =>
          refine iteF ?_
          refine ⟨_, rfl, a, _, rfl, .inr (SqT.of ha2), rfl, _, rfl, ?_⟩
          have other : (xs2.length ≠ 2) → ∀ {A B : Prop}, A → (if (!decide (V.int (((V.str h :: x1 :: xs2).length : Nat) : Int) = V.int 4)) = true then A else B) := fun ne A B z => by
            refine ite_yes ?_ z
            rw [decide_eq_false (by simp only [List.length_cons]; intro q; injection q with q; omega)]
            rfl
          cases pr with
          | nil =>
            refine other (by decide) ?_
            have e : RowD.ok n (.tup [.str h, t1]) = false := by
              show (isRI h && t1.num n) = _
              rw [ri, Bool.false_and]
            rw [← e]
            exact k _ s2
          | @cons x2 t2 xs3 ts3 h2 pr =>
          cases pr with
          | nil => exact other (by simp) (k _ s2)
          | @cons x3 t3 xs4 ts4 h3 pr =>
          cases pr with
          | cons _ _ => exact other (by simp) (k _ s2)
          | nil =>
            have e : RowD.ok n (.tup [.str h, t1, t2, t3]) = (t1.name && (t3.num n && (if h = "write" then t2.whole else decide (h = "read") && t2.cases_ n))) := by
              show (!isRI h && _) = _
              rw [ri]
              rfl
            rw [e] at k
            refine ite_no (not_dec rfl) ?_
            refine ⟨_, rfl, a, _, _, _, rfl, rfl, SqT.of ha2, rfl, t1, x1, rfl, h1, fun z ez => by have := sm t1 (by simp); rw [ez] at this; exact this, _, rfl, ?_⟩
            cases e1 : t1.name with
            | false =>
              rw [e1, Bool.false_and] at k
              exact iteT (k _ s2)
            | true =>
              rw [e1, Bool.true_and] at k
              refine iteF ?_
              refine ⟨_, rfl, a, _, _, _, rfl, rfl, SqT.of ha2, rfl, _, rfl, t3, x3, n, rfl, h3, _, rfl, ?_⟩
              cases e3 : t3.num n with
              | false =>
                rw [e3, Bool.false_and] at k
                exact iteT (k _ s2)
              | true =>
                rw [e3, Bool.true_and] at k
                refine iteF ?_
                refine ⟨_, rfl, a, _, _, _, rfl, rfl, SqT.of ha2, rfl, rfl, _, rfl, ?_⟩
                by_cases ew : h = "write"
                · rw [if_pos ew] at k
                  refine ite_yes (decide_eq_true (congrArg V.str ew)) ?_
                  exact ⟨_, rfl, a, _, _, _, rfl, rfl, SqT.of ha2, rfl, t2, x2, rfl, h2, k _ s2⟩
                · rw [if_neg ew] at k
                  refine ite_no (decide_eq_false fun z => ew (V.str.inj z)) ?_
                  refine ⟨_, rfl, a, _, _, _, rfl, rfl, SqT.of ha2, rfl, rfl, _, rfl, ?_⟩
                  by_cases er : h = "read"
                  · rw [decide_eq_true er, Bool.true_and] at k
                    refine ite_yes (decide_eq_true (congrArg V.str er)) ?_
                    exact ⟨_, rfl, a, _, _, _, rfl, rfl, SqT.of ha2, rfl, _, rfl, t2, x2, n, rfl, h2, fun kvs ez => by have := sm t2 (by simp); rw [ez] at this; exact Nat.le_trans this.1 (by decide), fun ez => by have := sm t2 (by simp); rw [ez] at this; exact this, fun H3 s3 => k _ (same_tr s2 s3)⟩
                  · rw [decide_eq_false er, Bool.false_and] at k
                    exact ite_no (decide_eq_false fun z => er (V.str.inj z)) (k _ s2)
      | _ =>
        refine iteT ?_
        exact k _ s1
end
end CC

set_option Elab.async false
set_option maxRecDepth 100000
namespace CC
open PySem PySem.Spec PyProof.Rows L2
set_option linter.unusedVariables false
/-! ### the first wrong row -/
def RowD.headRest : RowD → Bool
  | .tup (.str h :: _) => decide (h = "rest")
  | _ => false
def goodR (n i : Nat) (d : RowD) : Bool := d.ok n && (decide (i ≠ 0) || d.headRest)
def FirstWrong (ds : List RowD) (i : Nat) : Prop := (∃ d, ds[i]? = some d ∧ goodR ds.length i d = false) ∧ ∀ j d, j < i → ds[j]? = some d → goodR ds.length j d = true
def NoWrong (ds : List RowD) : Prop := ∀ j d, ds[j]? = some d → goodR ds.length j d = true
/-- what is handed over for rows: another thing, or a list or tuple of things -/
inductive Arg where
  | flat (t : Th)
  | rows (ds : List RowD)
def ArgAt (P : Program) (w : World) (H : Hp) (x : Arg) (v : V) : Prop :=
  match x with
  | .flat t => t.isSeq = false ∧ ThAt P w H t v
  | .rows ds => (∃ l vs, v = .ref l ∧ H l = some (.lst vs) ∧ Paired (fun v d => RowDAt P w H d v) vs ds ∧ ds.length ≤ 1000) ∨ ∃ l, v = .ref l ∧ H l = some (.tup []) ∧ ds = []
def spWrongG (P : Program) (w : World) : Sp := fun vs H Q _ => ∃ (x : Arg) (v : V), vs = [v] ∧ ArgAt P w H x v ∧
  (∀ t, x = .flat t → ∀ H', Same H H' → Q (.int 0) H') ∧ (∀ ds, x = .rows ds → (∀ i, FirstWrong ds i → ∀ H', Same H H' → Q (.int (i : Nat)) H') ∧ (NoWrong ds → 2 ≤ ds.length ∧ ds.length ≤ 60 → ∀ H', Same H H' → Q .non H') ∧
    (NoWrong ds → ¬ (2 ≤ ds.length ∧ ds.length ≤ 60) → ∀ H', Same H H' → Q (.int (ds.length : Nat)) H'))
theorem pi_or {X : Cx} {tg e : Expr} {t1 t2 : TI} (h1 : PI X tg e t1) (h2 : PI X tg e t2) : PI X tg e (fun σ H R => t1 σ H R ∨ t2 σ H R) := ⟨fun pins s σ H R I h => h.elim (h1.run pins s σ H R I) (h2.run pins s σ H R I)⟩
theorem tup_of_ok {n : Nat} {d : RowD} (h : d.ok n = true) : ∃ h0 t1 more, d = .tup (.str h0 :: t1 :: more) := by
  cases d with
  | flat t => cases h
  | nil => cases h
  | tup ts =>
    match ts, h with
    | [.str h0, y], _ => exact ⟨_, _, _, rfl⟩
    | [.str h0, y, z, u], _ => exact ⟨_, _, _, rfl⟩
section
variable {P : Program} {w : World} {K : PySem.W.Frag} {mg : Str → Option Value} {base : Heap}
theorem ok_wrongG {f fL fR : Addr} {fd fdL fdR : FuncData} {t1 t2 : Tok} (F : Fun K "wrong_row" "wrong_row" sWrongRow f fd)
    (GL : FnOk P w K mg base CX0 1 fL fdL ["value"] (spListG P w)) (mL : mg "is_list" = some (.ref fL)) (kL : PySem.W.keepIn K (.ref fL) = true) (bL : L2.Binds K fdL ["value"] [])
    (GR : FnOk P w K mg base CX0 4 fR fdR ["value", "many"] (spRowG P w)) (mR : mg "is_row" = some (.ref fR)) (kR : PySem.W.keepIn K (.ref fR) = true) (bR : L2.Binds K fdR ["value", "many"] [])
    (tl : mg "len" = none) (te : mg "enumerate" = none) (mF : mg "FEWEST_ROWS" = some (.int 2 t1)) (mM : mg "MOST_ROWS" = some (.int 60 t2)) :
    FnOk P w K mg base CX0 5 f fd ["rows"] (spWrongG P w) := by
  refine F.ok scWrongRow (fun vs H Q E h => ?_) (fun cdv A outer s H vs Q E hr h => ?_)
  · obtain ⟨x, v, rfl, _⟩ := h
    rfl
  · have hr1 : Room 1 _ := hr.mono (by decide)
    refine ⟨_, pss_cons (ps_if (pt_not (pt_val (pe_call GL hr1 rfl mL kL bL .nil pass0 (pa_cons (pv 0) pa_nil)))) (pss_one (ps_ret pe_int)) pss_nil)
      (pss_cons (ps_for PassesOwn.never rfl (pi_or (pi_enum (by rfl) te (pa_cons (pv 0) pa_nil)) (pi_enumT (by rfl) te (pa_cons (pv 0) pa_nil))) (pg_tup (by rfl) (pgs_cons (pg_name (i := 1) scWrongRow.nd rfl (Or.inl rfl)) (pgs_cons (pg_name (i := 2) scWrongRow.nd rfl (Or.inl rfl)) pgs_nil)))
        (pss_one (ps_if (PW.pt (pw_or (pt_not (pt_val (pe_call GR hr rfl mR kR bR .nil pass0 (pa_cons (pv 2) (pa_cons (pe_callB call_len_seq (by rfl) tl PySem.boot_len (pa_cons (pv 0) pa_nil)) pa_nil)))))
          (pw_or1 (PW.pt (pw_and (pt_cmpR op_eq (pv 1) pe_int (nomark _)) (pw_and1 (pt_cmpR op_ne (pe_ix ix_tup (pv 2) pe_int (fun _ _ => rfl)) pe_str (nomark _)))))))) (pss_one (ps_ret (pv 1))) pss_nil)))
      (pss_one (ps_ret (pe_ifExp (pt_chain op_le op_le (pe_glob (v := .int 2) rfl mF ⟨_, rfl⟩) (pe_callB call_len_seq (by rfl) tl PySem.boot_len (pa_cons (pv 0) pa_nil)) (pe_glob (v := .int 60) rfl mM ⟨_, rfl⟩)) pe_non (pe_callB call_len_seq (by rfl) tl PySem.boot_len (pa_cons (pv 0) pa_nil)))))), ?_⟩
    obtain ⟨x, v, rfl, hx, kf, kr⟩ := h
    cases x with
    | flat t =>
      obtain ⟨h1, h2⟩ := hx
      refine ⟨_, rfl, t, v, rfl, h2, fun H1 s1 => ⟨_, rfl, ?_⟩⟩
      rw [h1]
      exact iteT (kf t rfl _ s1)
    | rows ds =>
      obtain ⟨kw, kn, ks⟩ := kr ds rfl
      rcases hx with ⟨l, vs, rfl, ha1, pr, few⟩ | ⟨l, rfl, ha1, rfl⟩
      · refine ⟨_, rfl, .seq _, _, rfl, ⟨l, _, rfl, rfl, .inl ha1⟩, fun H1 s1 => ⟨_, rfl, iteF ?_⟩⟩
        have vl : vs.length = ds.length := pr.length
        refine .inl ⟨_, rfl, l, _, rfl, SqL.of (s1 _ _ ha1), for_it (walk_enum (K := K) (a := l) (xs := vs)) (fun i σ H2 => ∃ v1 v2, σ = [some (.ref l), v1, v2] ∧ Same H H2 ∧ ∀ j d, j < i → ds[j]? = some d → goodR ds.length j d = true) ⟨none, none, rfl, s1, fun j d h => absurd h (Nat.not_lt_zero _)⟩ (fun i σ H2 _ ⟨_, _, _, e, _⟩ => SqL.of (e _ _ ha1)) ?_ ?_⟩
        · rintro i x σ Ha Hb hi ⟨v1, v2, rfl, sa, sofar⟩ ⟨T, ix, y, rfl, hT, rfl, e1, e2⟩
          cases Option.some.inj e1
          dsimp only at e2
          obtain ⟨d, hd, hrd⟩ := paired_at pr e2
          have sb : Same H (upd Ha T (.tup [V.int (i : Nat), y])) := same_tr sa (same_new hT)
          refine ⟨T, _, rfl, SqT.of upd_same, rfl, _, _, rfl, _, _, rfl, rfl, ?_⟩
          refine ⟨_, rfl, _, rfl, l, _, rfl, .inl (SqL.of (sb _ _ ha1)), d, y, ds.length, congrArg (fun z => [y, V.int ((z : Nat) : Int)]) vl, hrd.mono sb, fun H3 s3 => ⟨_, rfl, ?_⟩⟩
          have sc := same_tr sb s3
          have bad : goodR ds.length i d = false → Q (V.int (i : Nat)) H3 := fun e => kw i ⟨⟨d, hd, e⟩, sofar⟩ _ sc
          have good : goodR ds.length i d = true → ∀ j d', j < i + 1 → ds[j]? = some d' → goodR ds.length j d' = true := fun e j d' hj hd' => by
            by_cases z : j = i
            · rw [z, hd] at hd'
              cases hd'
              rw [z]
              exact e
            · exact sofar j d' (by omega) hd'
          cases eo : d.ok ds.length with
          | false => exact iteT ⟨_, rfl, bad (by unfold goodR; rw [eo]; rfl)⟩
          | true =>
            refine iteF ⟨_, rfl, rfl, _, rfl, ?_⟩
            by_cases i0 : i = 0
            · refine ite_yes (decide_eq_true (by rw [i0]; rfl)) ?_
              obtain ⟨h0, t1, more, rfl⟩ := tup_of_ok eo
              obtain ⟨a, xs, rfl, hxs, prs, _⟩ := hrd.mono sc
              cases prs with
              | @cons x0 _ xs1 _ q0 _ =>
              cases (show x0 = .str h0 from q0)
              refine ⟨_, rfl, a, _, _, _, rfl, rfl, SqT.of hxs, atZ, rfl, _, rfl, ?_⟩
              by_cases eh : h0 = "rest"
              · refine ite_no (not_dec (congrArg V.str eh)) ⟨_, _, rfl, sc, good ?_⟩
                show (RowD.ok ds.length (.tup (.str h0 :: t1 :: more)) && (decide (i ≠ 0) || decide (h0 = "rest"))) = true
                rw [eo, decide_eq_true eh, Bool.or_true]
                rfl
              · refine ite_yes (by rw [decide_eq_false fun z => eh (V.str.inj z)]; rfl) ⟨_, rfl, bad ?_⟩
                show (RowD.ok ds.length (.tup (.str h0 :: t1 :: more)) && (decide (i ≠ 0) || decide (h0 = "rest"))) = false
                rw [decide_eq_false eh, Bool.or_false, decide_eq_false (fun z => z i0), Bool.and_false]
            · refine ite_no (decide_eq_false fun z => i0 (by injection z with z; omega)) (iteF ⟨_, _, rfl, sc, good ?_⟩)
              unfold goodR
              rw [eo, decide_eq_true i0]
              rfl
        · rintro σ Ha ⟨v1, v2, rfl, sa, sofar⟩
          have nw : NoWrong ds := fun j d hd => sofar j d (by rw [vl]; exact (List.getElem?_eq_some_iff.mp hd).1) hd
          refine ⟨_, rfl, l, _, rfl, .inl (SqL.of (sa _ _ ha1)), _, _, rfl, rfl, _, rfl, ?_⟩
          have tail : ¬ (2 ≤ ds.length ∧ ds.length ≤ 60) → Q (V.int ((vs.length : Nat) : Int)) Ha := fun e => by
            rw [vl]
            exact ks nw e _ sa
          by_cases h2 : 2 ≤ vs.length
          · refine ite_yes (decide_eq_true (by omega)) ⟨_, _, rfl, rfl, _, rfl, ?_⟩
            by_cases h60 : vs.length ≤ 60
            · exact ite_yes (decide_eq_true (by omega)) (kn nw (by omega) _ sa)
            · exact ite_no (decide_eq_false (by omega)) ⟨_, rfl, l, _, rfl, .inl (SqL.of (sa _ _ ha1)), tail (by omega)⟩
          · exact ite_no (decide_eq_false (by omega)) ⟨false, rfl, iteF ⟨_, rfl, l, _, rfl, .inl (SqL.of (sa _ _ ha1)), tail (by omega)⟩⟩
      · refine ⟨_, rfl, .seq _, _, rfl, ⟨l, _, rfl, rfl, .inr ha1⟩, fun H1 s1 => ⟨_, rfl, iteF ?_⟩⟩
        refine .inr ⟨_, rfl, l, _, rfl, SqT.of (s1 _ _ ha1), for_it (walk_enumT (K := K) (a := l) (xs := [])) (fun i σ H2 => ∃ v1 v2, σ = [some (.ref l), v1, v2] ∧ Same H H2) ⟨none, none, rfl, s1⟩ (fun i σ H2 _ ⟨_, _, _, e⟩ => SqT.of (e _ _ ha1)) (fun i x σ Ha Hb hi => absurd hi (Nat.not_lt_zero _)) ?_⟩
        rintro σ Ha ⟨v1, v2, rfl, sa⟩
        refine ⟨_, rfl, l, _, rfl, .inr (SqT.of (sa _ _ ha1)), _, _, rfl, rfl, _, rfl, ?_⟩
        exact ite_no (by decide) ⟨false, rfl, iteF ⟨_, rfl, l, _, rfl, .inr (SqT.of (sa _ _ ha1)), ks (fun j d h => by simp at h) (by decide) _ sa⟩⟩
end
end CC

set_option Elab.async false
set_option maxRecDepth 100000
namespace CC
open PySem PySem.Spec PyProof.Rows L2
set_option linter.unusedVariables false
abbrev sBadInit : Stmt := inClass (top 5) 0
section
variable {P : Program} {w : World} {K : PySem.W.Frag} {mg : Str → Option Value} {base : Heap} {t1 : Tok}
theorem scBadInit : FnScope ["self", "row"] ["self", "row"] (defScope sBadInit) := ⟨rfl, rfl, rfl, by decide +kernel, rfl, by decide +kernel, by decide +kernel⟩
theorem ok_badinit {f fS fC CE C : Addr} {fd fdS fdC : FuncData} (F : Fun K "__init__" "BadProgram.__init__" sBadInit f fd)
    (GS : FnOk P w K mg base CX0 1 fS fdS ["value"] spShown) (mS : mg "shown" = some (.ref fS)) (kS : PySem.W.keepIn K (.ref fS) = true) (bS : L2.Binds K fdS ["value"] [])
    (GC : FnOk P w K mg base CX0 2 fC fdC ["self", "why"] (spCellInit K)) (mC : mg "CellError" = some (.ref CE)) (c : ClsFn K CE "__init__" fC) (kC : PySem.W.keepIn K (.ref fC) = true) (bC : L2.Binds K fdC ["self", "why"] [])
    (nR : PySem.W.findIn K (.ref C) "row" = some none) :
    FnOk P w K mg base CX0 3 f fd ["self", "row"] (spNotInit K C) := by
  refine F.ok scBadInit (fun vs H Q E h => ?_) (fun cdv A outer s H vs Q E hr h => ?_)
  · obtain ⟨a, i, rfl, _⟩ := h
    rfl
  · obtain ⟨a, i, rfl, T, ha, i0, i1, q⟩ := h
    have hr1 : Room 1 _ := hr.mono (by decide)
    refine ⟨_, pss_cons (ps_expr (pe_clsfn c GC hr rfl mC kC bC .nil pass0 (pa_cons (pv 0) (pa_cons (pe_joined (PJ.cons pe_str (PJ.cons (pe_fmt (pe_call GS hr1 rfl mS kS bS .nil pass0 (pa_cons (pv 1) pa_nil))) (PJ.cons pe_str PJ.nil)))) pa_nil))))
      (pss_one (ps_ost (pv 0) (pv 1))), ?_⟩
    have ln := PyProof.Rows.int_text_len_1921 (log_small i0 i1)
    have c1 : (Str.empty ++ Str.ofString "row ").length = 4 := by decide +kernel
    have c2 : (Str.ofString " cannot stand in a program").length = 26 := by decide +kernel
    refine ⟨_, rfl, _, rfl, (by decide +kernel), _, rfl, .inr ⟨i, rfl, i0, i1, .inl ⟨_, rfl, ?_, _, rfl, ?_, _, rfl, ?_, ?_⟩⟩⟩
    · exact Nat.le_trans ln (by decide)
    · rw [PySem.Str.length_append, c1, PySem.sizeLine_eq]
      omega
    · rw [PySem.Str.length_append, PySem.Str.length_append, c1, c2, PySem.sizeLine_eq]
      omega
    · exact ⟨a, C, _, rfl, T, ha, _, rfl, _, rfl, a, C, rfl, T, nR, .inl ⟨ha, fun dx hdx n => q dx hdx n⟩⟩
end
/-! ### rows that are right, as rows -/
def toD : Row → RowD
  | .rest m => .tup [.str "rest", .int (m : Nat)]
  | .ins m => .tup [.str "inside", .int (m : Nat)]
  | .wr c v m => .tup [.str "write", .str c, .int v, .int (m : Nat)]
  | .rd c cs m => .tup [.str "read", .str c, .dic (cs.map fun kv => ((Sum.inl kv.1 : Key), some (kv.2 : Int))), .int (m : Nat)]
theorem num_of {n : Nat} {t : Th} (h : t.num n = true) : ∃ m : Nat, t = .int (m : Nat) ∧ m < n := by
  cases t with
  | int i =>
    have h' : (decide (i ≥ 0) && decide (i < (n : Int))) = true := h
    rw [Bool.and_eq_true] at h'
    have a := of_decide_eq_true h'.1
    have b := of_decide_eq_true h'.2
    exact ⟨i.toNat, by congr 1; omega, by omega⟩
  | _ => cases h
theorem cases_of {n : Nat} : ∀ {kvs : List (Key × Option Int)}, kvs.all (okKV n) = true → ∃ cs : List (Int × Nat), kvs = cs.map (fun kv => ((Sum.inl kv.1 : Key), some (kv.2 : Int))) ∧ ∀ kv ∈ cs, kv.2 < n
  | [], _ => ⟨[], rfl, fun _ h => nomatch h⟩
  | (k, i) :: r, h => by
    rw [List.all_cons, Bool.and_eq_true] at h
    obtain ⟨cs, e, lt⟩ := cases_of h.2
    have h1 : ((keyT k).whole && (valT i).num n) = true := h.1
    rw [Bool.and_eq_true] at h1
    obtain ⟨m, em, ml⟩ := num_of h1.2
    cases k with
    | inr z => exact absurd h1.1 Bool.false_ne_true
    | inl a =>
      cases i with
      | none => cases em
      | some i0 =>
      cases em
      refine ⟨(a, m) :: cs, by rw [e]; rfl, fun kv hkv => ?_⟩
      rcases List.mem_cons.mp hkv with q | q
      · rw [q]
        exact ml
      · exact lt kv q
theorem row_of {P : Program} {w : World} {H : Hp} {d : RowD} {v : V} {n : Nat} (h : RowDAt P w H d v) (ok : d.ok n = true) : ∃ a r, v = .ref a ∧ RowAt H r a ∧ r.low n ∧ toD r = d := by
  cases d with
  | flat t => cases ok
  | nil => cases ok
  | tup ts =>
    obtain ⟨a, xs, rfl, ha, pr, sm, _⟩ := h
    match ts, ok with
    | [.str h0, y], ok =>
      have ok' : (isRI h0 && y.num n) = true := ok
      rw [Bool.and_eq_true] at ok'
      obtain ⟨m, rfl, ml⟩ := num_of ok'.2
      cases pr with
      | @cons x0 _ _ _ q0 pr =>
      cases pr with
      | @cons x1 _ _ _ q1 pr =>
      cases pr
      cases (show x0 = .str h0 from q0)
      cases (show x1 = .int m from q1)
      have ri : (decide (h0 = "rest") || decide (h0 = "inside")) = true := ok'.1
      rw [Bool.or_eq_true] at ri
      rcases ri with e | e
      · have e := of_decide_eq_true e
        subst e
        exact ⟨a, .rest m, rfl, ha, ml, rfl⟩
      · have e := of_decide_eq_true e
        subst e
        exact ⟨a, .ins m, rfl, ha, ml, rfl⟩
    | [.str h0, y, z, u], ok =>
      have ok' : (!isRI h0 && (y.name && (u.num n && (if h0 = "write" then z.whole else decide (h0 = "read") && z.cases_ n)))) = true := ok
      rw [Bool.and_eq_true, Bool.and_eq_true, Bool.and_eq_true] at ok'
      obtain ⟨_, nm, un, last⟩ := ok'
      obtain ⟨m, rfl, ml⟩ := num_of un
      obtain ⟨c, rfl⟩ : ∃ c, y = .str c := by
        cases y with
        | str c => exact ⟨c, rfl⟩
        | _ => cases nm
      cases pr with
      | @cons x0 _ _ _ q0 pr =>
      cases pr with
      | @cons x1 _ _ _ q1 pr =>
      cases pr with
      | @cons x2 _ _ _ q2 pr =>
      cases pr with
      | @cons x3 _ _ _ q3 pr =>
      cases pr
      cases (show x0 = .str h0 from q0)
      cases (show x1 = .str c from q1)
      cases (show x3 = .int m from q3)
      by_cases ew : h0 = "write"
      · rw [if_pos ew] at last
        subst ew
        cases z with
        | int i =>
          cases (show x2 = .int i from q2)
          exact ⟨a, .wr c i m, rfl, ha, ml, rfl⟩
        | _ => cases last
      · rw [if_neg ew, Bool.and_eq_true] at last
        have er := of_decide_eq_true last.1
        subst er
        cases z with
        | dic kvs =>
          obtain ⟨cs, rfl, lt⟩ := cases_of (show kvs.all (okKV n) = true from last.2)
          obtain ⟨d, rfl, hd⟩ := q2
          have s1 := sm (.dic (cs.map fun kv => ((Sum.inl kv.1 : Key), some (kv.2 : Int)))) (by simp)
          obtain ⟨l10, nd⟩ := s1
          rw [List.length_map] at l10
          rw [List.map_map] at nd hd
          refine ⟨a, .rd c cs m, rfl, ⟨d, ha, hd⟩, ⟨?_, lt, ml, l10⟩, rfl⟩
          refine List.Pairwise.imp_of_mem (fun {p q} _ _ ne => ne) ?_
          have e0 : (cs.map (Prod.fst ∘ fun kv => ((Sum.inl kv.1 : Key), some (kv.2 : Int)))) = (cs.map (·.1)).map (fun i => (Sum.inl i : Key)) := by
            rw [List.map_map]
            rfl
          rw [e0] at nd
          exact (List.pairwise_map.mp nd).imp fun {p q} ne e => ne (by rw [e])
        | _ => cases last.2
theorem rows_of {P : Program} {w : World} {H : Hp} {n : Nat} : ∀ {vs : List V} {ds : List RowD}, Paired (fun v d => RowDAt P w H d v) vs ds → (∀ d ∈ ds, d.ok n = true) → ∃ (as : List Addr) (rs : List Row), vs = as.map V.ref ∧ Paired (fun a r => RowAt H r a) as rs ∧ (∀ r ∈ rs, r.low n) ∧ rs.map toD = ds
  | _, _, .nil, _ => ⟨[], [], rfl, .nil, (fun _ h => nomatch h), rfl⟩
  | _, _, .cons h t, ok => by
    obtain ⟨a, r, e1, q1, l1, d1⟩ := row_of h (ok _ (List.mem_cons_self ..))
    obtain ⟨as, rs, e2, q2, l2, d2⟩ := rows_of t fun d hd => ok d (List.mem_cons_of_mem _ hd)
    refine ⟨a :: as, r :: rs, by rw [e1, e2]; rfl, .cons q1 q2, fun z hz => ?_, by rw [List.map_cons, d1, d2]⟩
    rcases List.mem_cons.mp hz with q | q
    · rw [q]
      exact l1
    · exact l2 z q
end CC

set_option Elab.async false
set_option maxRecDepth 100000
namespace CC
open PySem L2
set_option linter.unusedVariables false
abbrev sProgInit : Stmt := inClass (top 29) 0
abbrev sProgLen : Stmt := inClass (top 29) 2
/-- a program at p: its rows are rs but for the order of the cases -/
def ProgAt (C : Addr) (H : Hp) (p : Addr) (rs : List Row) : Prop := ∃ (dx T : Addr) (as : List Addr) (rs' : List Row), H p = some (.ins C dx [("_rows", .ref T)]) ∧ H T = some (.tup (as.map V.ref)) ∧ Paired (fun a r => RowAt H r a) as rs' ∧ Paired RSim rs rs'
theorem RSim.low {n : Nat} {r r' : Row} (h : RSim r r') (l : r.low n) : r'.low n := by
  cases r <;> cases r' <;> try exact h.elim
  · have e : _ = _ := h
    rw [← e]
    exact l
  · have e : _ = _ := h
    rw [← e]
    exact l
  · have l' : _ < n := l
    rw [h.2.2] at l'
    exact l'
  · obtain ⟨_, p, e⟩ := h
    refine ⟨(p.map (·.1)).nodup_iff.mp l.1, fun kv hkv => l.2.1 kv (p.mem_iff.mpr hkv), by rw [← e]; exact l.2.2.1, by rw [← p.length_eq]; exact l.2.2.2⟩
def AllOnce (rs : List Row) : Prop := ∀ f m, rs[f]? = some (Row.rest m) → Once rs f
def FirstBad (rs : List Row) (f : Nat) : Prop := (∃ m, rs[f]? = some (Row.rest m)) ∧ ¬ Once rs f ∧ ∀ f' m, f' < f → rs[f']? = some (Row.rest m) → Once rs f'
def WrongNum : Arg → Nat → Prop
  | .flat _, i => i = 0
  | .rows ds, i => FirstWrong ds i ∨ (NoWrong ds ∧ ¬ (2 ≤ ds.length ∧ ds.length ≤ 60) ∧ i = ds.length)
def spProgInit (P : Program) (w : World) (C CB CN : Addr) : Sp := fun vs H Q E => ∃ (p dx : Addr) (x : Arg) (v : V), vs = [.ref p, v] ∧ H p = some (.ins C dx []) ∧ ArgAt P w H x v ∧ (∀ ds, x = .rows ds → ds.length ≤ 1000) ∧
  (∀ i, WrongNum x i → ∀ d H', (∀ b o, H b = some o → b ≠ p → H' b = some o) → H' d = some (.xd [("row", .int (i : Nat))]) → E (.ref CB) (some d) H') ∧
  (∀ ds, x = .rows ds → NoWrong ds → 2 ≤ ds.length ∧ ds.length ≤ 60 → (∀ rs rs' i m, rs.map toD = ds → Paired RSim rs rs' → rs'[i]? = some (Row.rest m) → Few rs' i) ∧
    (∀ rs, rs.map toD = ds → ∀ H', (∀ b o, H b = some o → b ≠ p → H' b = some o) → ProgAt C H' p rs → Q .non H') ∧
    (∀ (f : Nat) (rs : List Row), rs.map toD = ds → (∃ m, rs[f]? = some (Row.rest m)) → ¬ Once rs f → ∀ d H', (∀ b o, H b = some o → b ≠ p → H' b = some o) → H' d = some (.xd [("row", .int (f : Nat))]) → E (.ref CN) (some d) H'))
structure TxtB (K : PySem.W.Frag) (mg : Str → Option Value) (C fN : Addr) : Prop where
  gN : mg "BadProgram" = some (.ref C)
  oN : OexC K C
  iN : PySem.W.findIn K (.ref C) "__init__" = some (some (.ref fN))
  tN : PySem.W.typeIn K (.ref fN) = some (.type "function")
structure TxtP (K : PySem.W.Frag) (mg : Str → Option Value) (C CN fN : Addr) : Prop where
  cl : Cls K C
  nR : NoAttr K C "_rows"
  gN : mg "NotOnce" = some (.ref CN)
  oN : OexC K CN
  iN : PySem.W.findIn K (.ref CN) "__init__" = some (some (.ref fN))
  tN : PySem.W.typeIn K (.ref fN) = some (.type "function")
  rN : PySem.W.findIn K (.ref CN) "row" = some none
section
variable {P : Program} {w : World} {K : PySem.W.Frag} {mg : Str → Option Value} {base : Heap}
theorem scProgInit : FnScope ["self", "rows", "wrong", "number", "row"] ["self", "rows"] (defScope sProgInit) := ⟨rfl, rfl, rfl, by decide +kernel, rfl, by decide +kernel, by decide +kernel⟩
theorem ok_proginit {f C CB CN fB fN fW fC fO : Addr} {fd fdB fdN fdW fdC fdO : FuncData} (F : Fun K "__init__" "Program.__init__" sProgInit f fd) (TT : TxtP K mg C CN fN) (TB : TxtB K mg CB fB)
    (GB : FnOk P w K mg base CX0 3 fB fdB ["self", "row"] (spNotInit K CB)) (bB : Binds K fdB ["self", "row"] [])
    (GN : FnOk P w K mg base CX0 3 fN fdN ["self", "row"] (spNotInit K CN)) (bN : Binds K fdN ["self", "row"] [])
    (GW : FnOk P w K mg base CX0 5 fW fdW ["rows"] (spWrongG P w)) (mW : mg "wrong_row" = some (.ref fW)) (kW : PySem.W.keepIn K (.ref fW) = true) (bW : Binds K fdW ["rows"] [])
    (GC : FnOk P w K mg base CX0 1 fC fdC ["row"] spCopied) (mC : mg "copied" = some (.ref fC)) (kC : PySem.W.keepIn K (.ref fC) = true) (bC : Binds K fdC ["row"] [])
    (GO : FnOk P w K mg base CX0 2 fO fdO ["rows", "first"] spIsOnce) (mO : mg "is_once" = some (.ref fO)) (kO : PySem.W.keepIn K (.ref fO) = true) (bO : Binds K fdO ["rows", "first"] [])
    (tt : mg "tuple" = none) (te : mg "enumerate" = none) :
    FnOk P w K mg base (L2.CX P w) 6 f fd ["self", "rows"] (spProgInit P w C CB CN) := by
  refine F.okX scProgInit (fun vs H Q E h => ?_) (fun cdv A outer s H vs Q E hr h => ?_)
  · obtain ⟨p, dx, x, v, rfl, _⟩ := h
    rfl
  · obtain ⟨p, dx, x, v, rfl, hp, hx, few, kB, kG⟩ := h
    have hr1 : Room 1 _ := hr.mono (by decide)
    have hr2 : Room 2 _ := hr.mono (by decide)
    have hr4 : Room 4 _ := hr.mono (by decide)
    refine ⟨_, pss_cons (ps_set (i := 2) scProgInit.nd rfl (Or.inl rfl) (pe_call GW hr rfl mW kW bW .nil pass0 (pa_cons (pv 1) pa_nil)))
      (pss_cons (ps_if (pt_cmpR op_notN (pv 2) pe_non (nomark _)) (pss_one (ps_raise rfl (takes_of rfl rfl rfl rfl) (pmk_oex TB.oN TB.iN TB.tN GB hr4 bB .nil pass0 rfl TB.gN (pa_cons (pv 2) pa_nil)))) pss_nil)
      (pss_cons (ps_fld (pv 0) (pe_callTy call_tuple_of (by rfl) tt (by decide +kernel) (pa_cons (pe_lc (own := [("row", 4)]) (g := gName 4) (by rfl) scProgInit.nd (pi_list (pv 1)) (blkOk_by (own := [("row", 4)]) (N := ["self", "rows", "wrong", "number", "row"]) (sc := defScope sProgInit) (by decide +kernel)) (fun _ _ _ _ _ => pg_name (i := 4) scProgInit.nd rfl (Or.inl rfl)) (fun _ _ _ _ _ => pts_nil)
          (fun _ _ _ _ _ => pe_call GC hr1 rfl mC kC bC .nil pass0 (pa_cons (pv 4) pa_nil))) pa_nil)) rfl)
      (pss_one (ps_for (passes_of rfl) rfl (pi_enumT (by rfl) te (pa_cons (pe_fld (pv 0) rfl) pa_nil)) (pg_tup (by rfl) (pgs_cons (pg_name (i := 3) scProgInit.nd rfl (Or.inl rfl)) (pgs_cons (pg_name (i := 4) scProgInit.nd rfl (Or.inl rfl)) pgs_nil)))
        (pss_one (ps_if (PW.pt (pw_and (pt_cmpR op_eq (pe_ix ix_tup (pv 4) pe_int (fun _ _ => rfl)) pe_str (nomark _)) (pw_and1 (pt_not (pt_val (pe_call GO hr2 rfl mO kO bO .nil pass0 (pa_cons (pe_fld (pv 0) rfl) (pa_cons (pv 3) pa_nil))))))))
          (pss_one (ps_raise rfl (takes_of rfl rfl rfl rfl) (pmk_oex TT.oN TT.iN TT.tN GN hr4 bN .nil pass0 rfl TT.gN (pa_cons (pv 3) pa_nil)))) pss_nil)))))), ?_⟩
    have flies : ∀ (i : Nat) (H1 : Hp), Same H H1 → WrongNum x i → i < 100000 → ∀ a, H1 a = none → ∀ (d : Addr), (upd H1 a (exo a CB none)) d = none → d ≠ a → E (.ref CB) (some d) (upd (L2.del (upd (upd (upd H1 a (exo a CB none)) d (exd d [("row", .int (i : Nat))])) a (exo a CB (some d))) a) d (.xd [("row", .int (i : Nat))])) := fun i H1 s1 wn _ a ha d hd nda => by
      have hd5 : H1 d = none := by
        rw [upd_ne nda] at hd
        exact hd
      refine kB i wn d _ (fun b' o e n => ?_) upd_same
      have h5 := s1 _ _ e
      have n1 : b' ≠ d := ne_of_none h5 hd5
      have n2 : b' ≠ a := ne_of_none h5 ha
      rw [upd_ne n1, del_ne n2, upd_ne n2, upd_ne n1, upd_ne n2]
      exact h5
    refine ⟨_, rfl, x, v, rfl, hx, fun t et H1 s1 => ?_, fun ds ed => ⟨fun i fw H1 s1 => ?_, fun nw n260 H1 s1 => ?_, fun nw no H1 s1 => ?_⟩⟩
    · refine ⟨_, rfl, rfl, _, rfl, ite_yes rfl ?_⟩
      refine ⟨_, rfl, (by show 1 ≤ 1000; decide), fun a ha => ⟨a, 0, rfl, TB.oN, upd_same, by omega, by omega, fun d hd nda => ⟨rfl, d, _, upd_same, by rw [upd_ne nda, upd_same]; rfl, ?_, flies 0 H1 s1 (by rw [et]; exact rfl) (by omega) a ha d hd nda⟩⟩⟩
      rw [upd_ne nda] at hd
      exact hd
    · have il : i < 1000 := by
        obtain ⟨⟨d, hd, _⟩, _⟩ := fw
        have := (List.getElem?_eq_some_iff.mp hd).1
        have := few ds ed
        omega
      refine ⟨_, rfl, rfl, _, rfl, ite_yes rfl ?_⟩
      refine ⟨_, rfl, (by show 1 ≤ 1000; decide), fun a ha => ⟨a, (i : Nat), rfl, TB.oN, upd_same, by omega, by omega, fun d hd nda => ⟨rfl, d, _, upd_same, by rw [upd_ne nda, upd_same], ?_, flies i H1 s1 (by rw [ed]; exact .inl fw) (by omega) a ha d hd nda⟩⟩⟩
      rw [upd_ne nda] at hd
      exact hd
    rotate_left
    · have il := few ds ed
      refine ⟨_, rfl, rfl, _, rfl, ite_yes rfl ?_⟩
      refine ⟨_, rfl, (by show 1 ≤ 1000; decide), fun a ha => ⟨a, (ds.length : Nat), rfl, TB.oN, upd_same, by omega, by omega, fun d hd nda => ⟨rfl, d, _, upd_same, by rw [upd_ne nda, upd_same], ?_, flies ds.length H1 s1 (by rw [ed]; exact .inr ⟨nw, no, rfl⟩) (by omega) a ha d hd nda⟩⟩⟩
      rw [upd_ne nda] at hd
      exact hd
    obtain ⟨few2, kQ0, kE0⟩ := kG ds ed nw n260
    subst ed
    obtain ⟨l, vs, rfl, ha1, pr0, _⟩ | ⟨l, rfl, _, e0⟩ := hx
    rotate_left
    · rw [e0] at n260
      exact absurd n260.1 (by decide)
    obtain ⟨as, rs, rfl, ha2, low, emap⟩ := rows_of (n := ds.length) pr0 fun d hd => by
      obtain ⟨j, hj⟩ := List.getElem?_of_mem hd
      have := nw j d hj
      unfold goodR at this
      rw [Bool.and_eq_true] at this
      exact this.1
    have dl : ds.length = rs.length := by rw [← emap, List.length_map]
    rw [dl] at low n260
    have asl : as.length = rs.length := ha2.length
    have npl : l ≠ p := ne_of ha1 hp (by intro z; cases z)
    have kQ := kQ0 rs emap
    refine ⟨_, rfl, rfl, _, rfl, ite_no rfl ?_⟩
    refine ⟨_, rfl, l, rfl, ⟨_, SqL.of (s1 _ _ ha1)⟩, fun D hD => ?_⟩
    refine lc_list (K := K) (a := l) (xs := as.map V.ref) (fun i H2 => ∃ (us : List Addr) (rs' : List Row), H2 D = some (.lst (us.map V.ref)) ∧ Paired (fun a r => RowAt H2 r a) us rs' ∧ Paired RSim (rs.take i) rs' ∧ Same H H2)
      ⟨[], [], upd_same, .nil, .nil, same_tr s1 (same_new hD)⟩ (fun i H2 _ ⟨_, _, _, _, _, e⟩ => SqL.of (e _ _ ha1)) ?_ ?_
    · rintro i y H2 hi ⟨us, rs', hD2, pu, ps, s2⟩
      rw [List.getElem?_map] at hi
      obtain ⟨a, hia, rfl⟩ : ∃ a, as[i]? = some a ∧ y = V.ref a := by
        cases e : as[i]? with
        | none =>
          rw [e] at hi
          cases hi
        | some z =>
          rw [e] at hi
          exact ⟨z, rfl, (Option.some.inj hi).symm⟩
      obtain ⟨r, hir, hra⟩ := paired_at ha2 hia
      have rl : r.low rs.length := low r (List.mem_of_getElem? hir)
      refine ⟨rfl, tyes_if ?_⟩
      refine ⟨_, rfl, a, r, rs.length, rfl, hra.mono (fun b xs x => s2 _ _ x) (fun b xs x => s2 _ _ x), rl, fun b r' H3 s3 rb sim => ?_⟩
      have hD3 := s3 _ _ hD2
      have tk : rs.take (i + 1) = rs.take i ++ [r] := by rw [List.take_add_one, hir]; rfl
      have ul : us.length ≤ 60 := by
        have h1 := pu.length
        have h2 := ps.length
        rw [List.length_take] at h2
        omega
      refine ⟨us.map V.ref, hD3, small (by rw [List.length_map]; omega), us ++ [b], rs' ++ [r'], by rw [upd_same, List.map_append]; rfl, Paired.snoc (L2.Paired.mapP pu fun a r e => (e.mono (fun b xs x => s3 _ _ x) fun b xs x => s3 _ _ x).put hD3) (rb.put hD3), by rw [tk]; exact ps.snoc sim, same_put (same_tr s2 s3) (s1.free hD)⟩
    · rintro H2 ⟨us, rs', hD2, pu, ps, s2⟩
      rw [List.length_map, asl, List.take_length] at ps
      refine ⟨D, _, rfl, .inl ⟨SqL.of hD2, fun T hT => ?_⟩⟩
      refine ⟨_, rfl, p, C, dx, _, rfl, by rw [upd_ne (ne_of_none (s2 _ _ hp) hT)]; exact s2 _ _ hp, TT.cl, TT.nR, (by show 0 < 1000; decide), ?_⟩
      have npT : T ≠ p := (ne_of_none (s2 _ _ hp) hT).symm
      have hp3 : (upd (upd H2 T (.tup (us.map V.ref))) p (.ins C dx (putF "_rows" (.ref T) []))) p = some (.ins C dx [("_rows", .ref T)]) := upd_same
      have hT3 : (upd (upd H2 T (.tup (us.map V.ref))) p (.ins C dx (putF "_rows" (.ref T) []))) T = some (.tup (us.map V.ref)) := by rw [upd_ne npT, upd_same]
      have keep3 : ∀ b o, H2 b = some o → b ≠ p → (upd (upd H2 T (.tup (us.map V.ref))) p (.ins C dx (putF "_rows" (.ref T) []))) b = some o := fun b o e n => by
        rw [upd_ne n, upd_ne (ne_of_none e hT)]
        exact e
      revert hp3 hT3 keep3
      generalize (upd (upd H2 T (.tup (us.map V.ref))) p (.ins C dx (putF "_rows" (.ref T) []))) = H3
      intro hp3 hT3 keep3
      have pu3 : Paired (fun a r => RowAt H3 r a) us rs' := L2.Paired.mapP pu fun a r e => e.mono (fun b xs x => keep3 b _ x (ne_of x (s2 _ _ hp) (by intro z; cases z))) fun b xs x => keep3 b _ x (ne_of x (s2 _ _ hp) (by intro z; cases z))
      have low' : ∀ r ∈ rs', r.low rs'.length := fun r hr => by
        obtain ⟨j, hj⟩ := List.getElem?_of_mem hr
        obtain ⟨r0, e0, sm⟩ := paired_at (paired_flip ps) hj
        rw [← ps.length]
        exact RSim.low sm (low r0 (List.mem_of_getElem? e0))
      refine ⟨_, rfl, p, C, dx, _, _, rfl, hp3, TT.cl, TT.nR, rfl, T, _, rfl, SqT.of hT3, for_it (walk_enumT (K := K) (a := T) (xs := us.map V.ref)) (fun i σ H4 => ∃ v3 v4, σ = [some (.ref p), some (.ref l), some .non, v3, v4] ∧ H4 p = some (.ins C dx [("_rows", .ref T)]) ∧ H4 T = some (.tup (us.map V.ref)) ∧ Paired (fun a r => RowAt H4 r a) us rs' ∧ (∀ f m, f < i → rs[f]? = some (Row.rest m) → Once rs f) ∧ ∀ b o, H b = some o → b ≠ p → H4 b = some o)
        ⟨none, none, rfl, hp3, hT3, pu3, fun f m h => absurd h (Nat.not_lt_zero _), fun b o e n => keep3 b o (s2 b o e) n⟩ (fun i σ H4 _ ⟨_, _, _, _, e, _⟩ => SqT.of e) ?_ ?_⟩
      · rintro i x σ Ha Hb hi ⟨v3, v4, rfl, hpa, hTa, pua, ona, keepa⟩ ⟨T2, ix, y, rfl, hT2, rfl, e1, e2⟩
        cases Option.some.inj e1
        dsimp only at e2
        rw [List.getElem?_map] at e2
        obtain ⟨b, hib, rfl⟩ : ∃ b, us[i]? = some b ∧ y = V.ref b := by
          cases e : us[i]? with
          | none =>
            rw [e] at e2
            cases e2
          | some z =>
            rw [e] at e2
            exact ⟨z, rfl, (Option.some.inj e2).symm⟩
        obtain ⟨r', hir', hrb⟩ := paired_at pua hib
        obtain ⟨r, hir, sm⟩ := paired_at (paired_flip ps) hir'
        have il : i < rs'.length := (List.getElem?_eq_some_iff.mp hir').1
        have sb := same_new (o := .tup [V.int (i : Nat), V.ref b]) hT2
        have hpb := sb _ _ hpa
        have hTb := sb _ _ hTa
        have pub := L2.Paired.mapP pua fun a r e => RowAt.mono (H' := upd Ha T2 (.tup [V.int (i : Nat), V.ref b])) e (fun b xs x => sb _ _ x) fun b xs x => sb _ _ x
        have hrb2 : RowAt (upd Ha T2 (.tup [V.int (i : Nat), V.ref b])) r' b := hrb.mono (fun b xs x => sb _ _ x) fun b xs x => sb _ _ x
        have keepb : ∀ b' o, H b' = some o → b' ≠ p → (upd Ha T2 (.tup [V.int (i : Nat), V.ref b])) b' = some o := fun b' o e n => sb _ _ (keepa b' o e n)
        refine ⟨T2, _, rfl, SqT.of upd_same, rfl, _, _, rfl, _, _, rfl, rfl, ?_⟩
        have other : (∀ m, r' ≠ .rest m) → ∀ f m, f < i + 1 → rs[f]? = some (Row.rest m) → Once rs f := fun nr f m hf e => by
          by_cases z : f = i
          · rw [z, hir] at e
            cases e
            cases r' with
            | rest m' => exact absurd rfl (nr m')
            | ins m' => exact sm.elim
            | wr c v m' => exact sm.elim
            | rd c cs m' => exact sm.elim
          · exact ona f m (by omega) e
        cases r' with
        | ins m' =>
          refine ⟨_, rfl, b, _, _, _, rfl, rfl, SqT.of hrb2, rfl, rfl, _, rfl, ite_no (decide_eq_false (by intro z; cases z)) (iteF ?_)⟩
          exact ⟨_, _, rfl, hpb, hTb, pub, other (fun m z => by cases z), keepb⟩
        | wr c v m' =>
          refine ⟨_, rfl, b, _, _, _, rfl, rfl, SqT.of hrb2, rfl, rfl, _, rfl, ite_no (decide_eq_false (by intro z; cases z)) (iteF ?_)⟩
          exact ⟨_, _, rfl, hpb, hTb, pub, other (fun m z => by cases z), keepb⟩
        | rd c cs m' =>
          obtain ⟨dd, q1, q2⟩ := hrb2
          refine ⟨_, rfl, b, _, _, _, rfl, rfl, SqT.of q1, rfl, rfl, _, rfl, ite_no (decide_eq_false (by intro z; cases z)) (iteF ?_)⟩
          exact ⟨_, _, rfl, hpb, hTb, pub, other (fun m z => by cases z), keepb⟩
        | rest m' =>
          have hrest : ∃ m, rs[i]? = some (Row.rest m) := by
            cases r with
            | rest m => exact ⟨m, hir⟩
            | ins m => exact sm.elim
            | wr c v m => exact sm.elim
            | rd c cs m => exact sm.elim
          refine ⟨_, rfl, b, _, _, _, rfl, rfl, SqT.of hrb2, rfl, rfl, _, rfl, ite_yes (decide_eq_true rfl) ?_⟩
          refine ⟨_, rfl, p, C, dx, _, _, rfl, hpb, TT.cl, TT.nR, rfl, _, rfl, T, us, rs', i, rfl, hTb, pub, low', few2 rs rs' i m' emap ps hir', il, fun bo H5 s5 iff => ⟨bo, rfl, ?_⟩⟩
          have iff2 := iff.trans (once_iff ps i).symm
          cases bo with
          | true =>
            refine iteF ?_
            refine ⟨_, _, rfl, s5 _ _ hpb, s5 _ _ hTb, L2.Paired.mapP pub fun a r e => e.mono (fun b xs x => s5 _ _ x) (fun b xs x => s5 _ _ x), fun f m hf e => ?_, fun b' o e n => s5 _ _ (keepb b' o e n)⟩
            by_cases z : f = i
            · rw [z]
              exact iff2.mp rfl
            · exact ona f m (by omega) e
          | false =>
            refine iteT ?_
            refine ⟨_, rfl, (by show 1 ≤ 1000; decide), fun a ha => ⟨a, (i : Int), rfl, TT.oN, upd_same, by omega, by have := ps.length; omega, fun d hd nda => ?_⟩⟩
            have hd5 : H5 d = none := by
              rw [upd_ne nda] at hd
              exact hd
            refine ⟨rfl, d, _, upd_same, by rw [upd_ne nda, upd_same], hd5, ?_⟩
            refine kE0 i rs emap hrest (fun o => Bool.noConfusion (iff2.mpr o)) d _ (fun b' o e n => ?_) upd_same
            have h5 := s5 _ _ (keepb b' o e n)
            have n1 : b' ≠ d := ne_of_none h5 hd5
            have n2 : b' ≠ a := ne_of_none h5 ha
            rw [upd_ne n1, del_ne n2, upd_ne n2, upd_ne n1, upd_ne n2]
            exact h5
      · rintro σ Ha ⟨v3, v4, rfl, hpa, hTa, pua, ona, keepa⟩
        rw [List.length_map] at ona
        exact kQ Ha keepa ⟨dx, T, us, rs', hpa, hTa, pua, ps⟩
end
end CC

set_option Elab.async false
set_option maxRecDepth 100000
namespace CC
open PySem PySem.Spec PyProof.Rows L2
set_option linter.unusedVariables false
/-! ### drawn names -/
def abc : Str := "abcdefghijklmnopqrstuvwxyz"
def inAbc (c : Nat) : Bool := !(Builtin.Str.occurrences abc ⟨#[c]⟩ 0 abc.length 1).isEmpty
def lawNameS (z : Str) : Bool := decide (1 ≤ z.length) && (decide (z.length ≤ 8) && z.cps.toList.all inAbc)
def letters (z : Str) : Prop := ∀ c ∈ z.cps.toList, 97 ≤ c ∧ c ≤ 122
theorem abc_ok : ∀ c : Nat, 97 ≤ c → c ≤ 122 → inAbc c = true ∧ Unicode.isAlpha c = true ∧ Unicode.isLower c = true ∧ Unicode.isUpper c = false ∧ Unicode.isTitle c = false := by
  have h : ∀ i : Fin 26, inAbc (97 + i.1) = true ∧ Unicode.isAlpha (97 + i.1) = true ∧ Unicode.isLower (97 + i.1) = true ∧ Unicode.isUpper (97 + i.1) = false ∧ Unicode.isTitle (97 + i.1) = false := by decide +kernel
  intro c h1 h2
  have e := h ⟨c - 97, by omega⟩
  have e2 : 97 + (c - 97) = c := by omega
  simp only [e2] at e
  exact e
theorem names_ok {z : Str} (l : letters z) (h1 : 1 ≤ z.length) (h8 : z.length ≤ 8) : nameS z = true ∧ lawNameS z = true := by
  have a1 : z.cps.toList.all inAbc = true := List.all_eq_true.mpr fun c hc => (abc_ok c (l c hc).1 (l c hc).2).1
  have a2 : Txt.isascii z = true := by
    unfold Txt.isascii
    rw [Array.all_eq_true_iff_forall_mem]
    intro c hc
    have := l c (Array.mem_toList_iff.mpr hc)
    exact decide_eq_true (by omega)
  have a3 : Txt.isalpha z = true := by
    unfold Txt.isalpha
    rw [Bool.and_eq_true]
    refine ⟨decide_eq_true h1, ?_⟩
    rw [Array.all_eq_true_iff_forall_mem]
    intro c hc
    have q := l c (Array.mem_toList_iff.mpr hc)
    exact (abc_ok c q.1 q.2).2.1
  have a4 : Txt.islower z = true := by
    unfold Txt.islower
    rw [Bool.and_eq_true]
    constructor
    · rw [← Array.any_toList, List.any_eq_true]
      have sz : 0 < z.cps.size := h1
      refine ⟨z.cps[0], Array.mem_toList_iff.mpr (Array.getElem_mem sz), ?_⟩
      have q := l _ (Array.mem_toList_iff.mpr (Array.getElem_mem sz))
      exact (abc_ok _ q.1 q.2).2.2.1
    · rw [Bool.not_eq_true', ← Array.any_toList, List.any_eq_false]
      intro c hc
      have q := abc_ok c (l c hc).1 (l c hc).2
      simp [q.2.2.2.1, q.2.2.2.2]
  unfold nameS lawNameS
  rw [a1, a2, a3, a4, decide_eq_true h1, decide_eq_true h8]
  exact ⟨rfl, rfl⟩

abbrev sName : Stmt := top 42
def OkName (z : Str) : Prop := letters z ∧ 1 ≤ z.length ∧ z.length ≤ 8
theorem fold_list : ∀ (ps : List Str) (a : Array Nat), (ps.foldl (fun acc p => acc ++ (Str.ofString "").cps ++ p.cps) a).toList = a.toList ++ (ps.map (fun p => p.cps.toList)).flatten
  | [], a => by simp
  | p :: r, a => by
    rw [List.foldl_cons, fold_list r]
    have e : (Str.ofString "").cps = #[] := by decide +kernel
    rw [e]
    simp
theorem join_chars (cs : List Nat) : (Txt.join (Str.ofString "") (cs.map fun c => (⟨#[c]⟩ : Str))).cps.toList = cs := by
  cases cs with
  | nil =>
    show (Str.empty.cps).toList = []
    decide +kernel
  | cons c r =>
    show (((r.map fun c => (⟨#[c]⟩ : Str)).foldl (fun acc p => acc ++ (Str.ofString "").cps ++ p.cps) (#[c] : Array Nat))).toList = _
    rw [fold_list]
    have e : ∀ l : List Nat, ((l.map fun c => (⟨#[c]⟩ : Str)).map (fun p => p.cps.toList)).flatten = l := fun l => by
      induction l with
      | nil => rfl
      | cons a t ih =>
        simp only [List.map_cons, List.flatten_cons, ih]
        rfl
    rw [e]
    rfl
theorem abc_at {j : Nat} (h : j < 26) : ∃ c, abc.cps.toList[j]? = some c ∧ 97 ≤ c ∧ c ≤ 122 := by
  have k : ∀ i : Fin 26, abc.cps.toList[i.1]? = some (97 + i.1) := by decide +kernel
  exact ⟨97 + j, k ⟨j, h⟩, by omega, by omega⟩
theorem ok_word {z : Str} (h : z ∈ ([Str.ofString "rest", Str.ofString "inside", Str.ofString "write", Str.ofString "read", Str.ofString "thread", Str.ofString "cells"] : List Str)) : OkName z := by
  have k : ∀ z ∈ ([Str.ofString "rest", Str.ofString "inside", Str.ofString "write", Str.ofString "read", Str.ofString "thread", Str.ofString "cells"] : List Str), (z.cps.toList.all fun c => decide (97 ≤ c) && decide (c ≤ 122)) = true ∧ 1 ≤ z.length ∧ z.length ≤ 8 := by decide +kernel
  obtain ⟨a, b, c⟩ := k z h
  refine ⟨fun x hx => ?_, b, c⟩
  have := List.all_eq_true.mp a x hx
  rw [Bool.and_eq_true] at this
  exact ⟨of_decide_eq_true this.1, of_decide_eq_true this.2⟩
theorem ok_q {z : Str} (l : letters z) (h8 : z.length ≤ 7) : OkName (Str.ofString "q" ++ z) := by
  have e : (Str.ofString "q" ++ z).cps.toList = 113 :: z.cps.toList := by
    rw [PySem.Str.cps_append, Array.toList_append]
    rfl
  have len : (Str.ofString "q" ++ z).length = 1 + z.length := by
    show (Str.ofString "q" ++ z).cps.size = 1 + z.cps.size
    rw [← Array.length_toList, e, List.length_cons, Array.length_toList]
    omega
  refine ⟨fun c hc => ?_, by omega, by omega⟩
  rw [e] at hc
  rcases List.mem_cons.mp hc with q | q
  · rw [q]
    decide
  · exact l c q
theorem ok_z {c : Nat} (h : 97 ≤ c ∧ c ≤ 122) : OkName (Str.ofString "z" ++ ⟨#[c]⟩) := by
  have e : (Str.ofString "z" ++ (⟨#[c]⟩ : Str)).cps.toList = [122, c] := by
    rw [PySem.Str.cps_append, Array.toList_append]
    rfl
  have len : (Str.ofString "z" ++ (⟨#[c]⟩ : Str)).length = 2 := by
    show (Str.ofString "z" ++ (⟨#[c]⟩ : Str)).cps.size = 2
    rw [← Array.length_toList, e]
    rfl
  refine ⟨fun x hx => ?_, by omega, by omega⟩
  rw [e] at hx
  simp only [List.mem_cons, List.not_mem_nil, or_false] at hx
  rcases hx with q | q
  · rw [q]
    decide
  · rw [q]
    exact h
theorem cut_letters {z : Str} (l : letters z) : letters (cutS z (some 1) none) := fun c hc => by
  unfold cutS at hc
  exact l c (List.mem_of_mem_drop (List.mem_of_mem_take (by simpa using hc)))
theorem cut_len {z : Str} (h : 1 ≤ z.length) : (cutS z (some 1) none).length ≤ z.length - 1 := by
  have e : HT.sIx z.length 0 (some 1) = 1 := by
    unfold HT.sIx
    simp
    omega
  show (((z.cps.toList.drop (HT.sIx z.length 0 (some 1))).take _).toArray).size ≤ _
  rw [e, List.size_toArray, List.length_take, List.length_drop, Array.length_toList]
  have : z.cps.size = z.length := rfl
  omega
theorem flat_strs (zs : List Str) : (zs.map V.str).all flatV = true := by
  rw [List.all_map]
  exact List.all_eq_true.mpr fun z _ => rfl
theorem in_strs (z : Str) (zs : List Str) : inV (V.str z) (zs.map V.str) = decide (z ∈ zs) := by
  unfold inV
  rw [List.any_map, Bool.eq_iff_iff, List.any_eq_true, decide_eq_true_eq]
  constructor
  · rintro ⟨y, hy, e⟩
    have e' : eqV (V.str y) (V.str z) = true := e
    rw [beq_str] at e'
    rw [of_decide_eq_true e']
    exact hy
  · intro h
    refine ⟨z, h, ?_⟩
    show eqV (V.str z) (V.str z) = true
    rw [beq_str]
    exact decide_eq_true rfl
theorem op_notIn_seqK {X : Cx} {K : PySem.W.Frag} (e : X.K = K) : OpR X (compareOp .NotIn) (rIn K true) := e ▸ op_notIn_seq
theorem seq_via {t u : TS} {D : Ends} {σ : L2.St} {H : Hp} (Z : L2.St → Hp → Prop) (h2 : ∀ σ' H', Z σ' H' → u D σ' H') (h1 : ∀ D' : Ends, (∀ σ' H', Z σ' H' → D'.nx σ' H') → t D' σ H) : tSeq t u D σ H := h1 _ h2
theorem gN (i : Nat) : gName i = fun v σ H Q => Q (List.set σ i (some v)) H := rfl
theorem singles_sum (cs : List Nat) : ((cs.map fun c => (⟨#[c]⟩ : Str)).map (·.length)).sum = cs.length := by
  induction cs with
  | nil => rfl
  | cons c r ih =>
    simp only [List.map_cons, List.sum_cons, List.length_cons, ih]
    have : (⟨#[c]⟩ : Str).length = 1 := rfl
    omega
theorem sizes_at {j : Nat} (h : j < 13) : ∃ s : Nat, ([V.int 8, V.int 4, V.int 5, V.int 6, V.int 7, V.int 1, V.int 2, V.int 3, V.int 1, V.int 2, V.int 3, V.int 1, V.int 2] : List V)[j]? = some (V.int (s : Nat)) ∧ 1 ≤ s ∧ s ≤ 8 := by
  match j, h with
  | 0, _ => exact ⟨8, rfl, by decide, by decide⟩
  | 1, _ => exact ⟨4, rfl, by decide, by decide⟩
  | 2, _ => exact ⟨5, rfl, by decide, by decide⟩
  | 3, _ => exact ⟨6, rfl, by decide, by decide⟩
  | 4, _ => exact ⟨7, rfl, by decide, by decide⟩
  | 5, _ => exact ⟨1, rfl, by decide, by decide⟩
  | 6, _ => exact ⟨2, rfl, by decide, by decide⟩
  | 7, _ => exact ⟨3, rfl, by decide, by decide⟩
  | 8, _ => exact ⟨1, rfl, by decide, by decide⟩
  | 9, _ => exact ⟨2, rfl, by decide, by decide⟩
  | 10, _ => exact ⟨3, rfl, by decide, by decide⟩
  | 11, _ => exact ⟨1, rfl, by decide, by decide⟩
  | 12, _ => exact ⟨2, rfl, by decide, by decide⟩
def spName : Sp := fun vs H Q _ => ∃ (p l : Addr) (n : Nat) (taken : List Str), vs = [.ref p, .ref l] ∧ Src p n H ∧ n + 100 < 1000000 ∧ H l = some (.lst (taken.map V.str)) ∧ p ≠ l ∧ taken.length ≤ 5 ∧
  ∀ (z : Str) (H' : Hp), OkName z → z ∉ taken → Grow p H H' → Src p (n + 20) H' → Q (.str z) H'
/-- more items than there are of others cannot all be among them -/
theorem nodup_le {l : List Str} : ∀ {m : List Str}, l.Nodup → (∀ x ∈ l, x ∈ m) → l.length ≤ m.length := by
  induction l with
  | nil => intro m _ _; exact Nat.zero_le _
  | cons a l ih =>
    intro m nd h
    obtain ⟨n1, n2⟩ := List.nodup_cons.mp nd
    have ha := h a (List.mem_cons_self ..)
    have := ih (m := m.erase a) n2 fun x hx => (List.mem_erase_of_ne (fun z : x = a => n1 (z ▸ hx))).mpr (h x (List.mem_cons_of_mem _ hx))
    rw [List.length_erase_of_mem ha] at this
    have pos : 0 < m.length := List.length_pos_of_mem ha
    rw [List.length_cons]
    omega
section
variable {P : Program} {w : World} {K : PySem.W.Frag} {mg : Str → Option Value} {base : Heap}
abbrev NN : List Str := ["_law_source_here", "_law_taken", "_law_size", "_law_name_here", "_law_k", "_law_one", "_law_sign"]
theorem scName : FnScope NN ["_law_source_here", "_law_taken"] (defScope sName) := ⟨rfl, rfl, rfl, by decide +kernel, rfl, by decide +kernel, by decide +kernel⟩
theorem ok_name {f fD : Addr} {fd fdD : FuncData} (F : Fun K "_law_name" "_law_name" sName f fd) (GD : FnOk P w K mg base CX0 1 fD fdD ["_law_source_here", "_law_many"] spDraw) (mD : mg "_law_draw" = some (.ref fD)) (kD : PySem.W.keepIn K (.ref fD) = true) (bD : L2.Binds K fdD ["_law_source_here", "_law_many"] []) (tr : mg "range" = none) :
    FnOk P w K mg base CX0 2 f fd ["_law_source_here", "_law_taken"] spName := by
  refine F.ok scName (fun vs H Q E h => ?_) (fun cdv A outer s H vs Q E hr h => ?_)
  · obtain ⟨p, l, n, taken, rfl, _⟩ := h
    rfl
  · refine ⟨_, pss_cons (ps_set (i := 2) scName.nd rfl (Or.inl rfl) (pe_ix ix_list (pe_lst (pa_cons pe_int (pa_cons pe_int (pa_cons pe_int (pa_cons pe_int (pa_cons pe_int (pa_cons pe_int (pa_cons pe_int (pa_cons pe_int (pa_cons pe_int (pa_cons pe_int (pa_cons pe_int (pa_cons pe_int (pa_cons pe_int pa_nil)))))))))))))) (pe_call GD hr rfl mD kD bD .nil pass0 (pa_cons (pv 0) (pa_cons pe_int pa_nil))) (fun _ _ => rfl)))
      (pss_cons (ps_set (i := 3) scName.nd rfl (Or.inl rfl) (pe_join pe_str (pe_lc (own := [("_law_k", 4)]) (g := gName 4) (by rfl) scName.nd (pi_range1 rfl tr (pa_cons (pv 2) pa_nil)) (blkOk_by (own := [("_law_k", 4)]) (N := NN) (sc := defScope sName) (by decide +kernel)) (fun _ _ _ _ _ => pg_name (i := 4) scName.nd rfl (Or.inl rfl)) (fun _ _ _ _ _ => pts_nil)
        (fun _ _ _ _ _ => pe_ix ix_str pe_str (pe_call GD hr rfl mD kD bD .nil pass0 (pa_cons (pv 0) (pa_cons pe_int pa_nil))) (fun _ _ => rfl)))))
      (pss_cons (ps_if (pt_chain op_lt op_lt pe_int (pv 2) pe_int) (pss_one (ps_set (i := 3) scName.nd rfl (Or.inl rfl) (pe_ix ix_list (pe_lst (pa_cons pe_str (pa_cons pe_str (pa_cons pe_str (pa_cons pe_str (pa_cons pe_str (pa_cons pe_str (pa_cons (pe_op op_add_str pe_str (pe_slice sl_str (pv 3) (po_some pe_int) po_none)) pa_nil)))))))) (pe_call GD hr rfl mD kD bD .nil pass0 (pa_cons (pv 0) (pa_cons pe_int pa_nil))) (fun _ _ => rfl)))) pss_nil)
      (pss_cons (ps_if (pt_cmpR op_notIn_seq (pv 3) (pv 1) (by rfl)) (pss_one (ps_ret (pv 3))) pss_nil)
      (pss_one (ps_ret (pe_ix ix_list (pe_lc (own := [("_law_one", 5)]) (g := gName 5) (by rfl) scName.nd (pi_list (pe_lc (own := [("_law_sign", 6)]) (g := gName 6) (by rfl) scName.nd (pi_str pe_str) (blkOk_by (own := [("_law_sign", 6)]) (N := NN) (sc := defScope sName) (by decide +kernel)) (fun _ _ _ _ _ => pg_name (i := 6) scName.nd rfl (Or.inl rfl)) (fun _ _ _ _ _ => pts_nil) (fun _ _ _ _ _ => pe_op op_add_str pe_str (pv 6))))
        (blkOk_by (own := [("_law_one", 5)]) (N := NN) (sc := defScope sName) (by decide +kernel)) (fun _ _ _ _ _ => pg_name (i := 5) scName.nd rfl (Or.inl rfl)) (fun _ _ _ _ _ => pts_one (pt_cmpR (op_notIn_seqK (K := K) rfl) (pv 5) (pv 1) (by rfl))) (fun _ _ _ _ _ => pv 5)) pe_int (fun _ _ => rfl))))))), ?_⟩
    obtain ⟨p, l, n, taken, rfl, hp, hn, hl, npl, few, k⟩ := h
    refine ⟨(by show 13 ≤ sizeLine; decide), fun L hL => ?_⟩
    have hpL := hp.new (o := .lst [V.int 8, V.int 4, V.int 5, V.int 6, V.int 7, V.int 1, V.int 2, V.int 3, V.int 1, V.int 2, V.int 3, V.int 1, V.int 2]) hL
    have npL := hp.ne hL
    refine ⟨_, rfl, p, n, 13, rfl, hpL, by omega, by decide, by decide, fun r H1 r0 r1 g1 s1 => ?_⟩
    obtain ⟨j, rfl⟩ : ∃ j : Nat, r = (j : Int) := ⟨r.toNat, by omega⟩
    obtain ⟨sz, hsz, sz1, sz8⟩ := sizes_at (j := j) (by omega)
    refine ⟨L, _, _, V.int (sz : Nat), rfl, rfl, SqL.of (g1 _ _ upd_same npL.symm), atI_nat hsz, ?_⟩
    have gr1 : Grow p H H1 := (Grow.new hL).trans g1
    clear hpL npL g1 hL
    refine ⟨⟨_, rfl⟩, ?_⟩
    refine ⟨_, rfl, (sz : Int), rfl, by omega, by omega, fun D hD => ?_⟩
    refine lc_range (lo := 0) (n := sz) (fun i Ha => ∃ cs : List Nat, cs.length = i ∧ (∀ c ∈ cs, 97 ≤ c ∧ c ≤ 122) ∧ Ha D = some (.lst ((cs.map fun c => (⟨#[c]⟩ : Str)).map V.str)) ∧ Grow p H1 Ha ∧ Src p (n + 1 + i) Ha)
      ⟨[], rfl, (fun _ h => nomatch h), upd_same, Grow.new hD, s1.new hD⟩ ?_ ?_
    · rintro i Ha hi ⟨cs, cl, cr, hDa, ga, sa⟩
      have npD : p ≠ D := fun z => by
        rw [← z] at hD
        exact absurd rfl (s1.ne hD)
      refine ⟨rfl, tyes_if ?_⟩
      refine ⟨_, rfl, p, n + 1 + i, 26, rfl, sa, by omega, by decide, by decide, fun r Hb q0 q1 gb sb => ?_⟩
      obtain ⟨m, rfl⟩ : ∃ m : Nat, r = (m : Int) := ⟨r.toNat, by omega⟩
      obtain ⟨c, hc, c1, c2⟩ := abc_at (j := m) (by omega)
      have hDb := gb _ _ hDa npD.symm
      refine ⟨abc, _, c, rfl, rfl, (by decide +kernel), atI_nat hc, _, hDb, small (by rw [List.length_map, List.length_map]; omega), cs ++ [c], by rw [List.length_append, cl]; rfl, fun x hx => ?_, ?_, (ga.trans gb).put hD, (sb.put npD).le (by omega)⟩
      · rcases List.mem_append.mp hx with q | q
        · exact cr x q
        · cases q with
          | head => exact ⟨c1, c2⟩
          | tail _ q => cases q
      · rw [upd_same, List.map_append, List.map_append]
        rfl
    rintro Ha ⟨cs, cl, cr, hDa, ga, sa⟩
    obtain ⟨z0, hz0⟩ : ∃ z0, z0 = Txt.join (Str.ofString "") (cs.map fun c => (⟨#[c]⟩ : Str)) := ⟨_, rfl⟩
    have chars : z0.cps.toList = cs := by rw [hz0]; exact join_chars cs
    have len0 : z0.length = sz := by
      show z0.cps.size = sz
      rw [← Array.length_toList, chars, cl]
    have let0 : letters z0 := fun c hc => cr c (by rw [← chars]; exact hc)
    refine ⟨Str.ofString "", D, cs.map fun c => (⟨#[c]⟩ : Str), rfl, rfl, .inl (SqL.of hDa), ?_, ?_⟩
    · rw [singles_sum, show (Str.ofString "").length = 0 by decide +kernel, Nat.mul_zero]
      omega
    rw [← hz0]
    have gra := gr1.trans ga
    rw [gN 3]
    dsimp only
    refine seq_via (fun σ' H' => ∃ z, σ' = [some (.ref p), some (.ref l), some (.int (sz : Nat)), some (.str z), none, none, none] ∧ OkName z ∧ Grow p H H' ∧ Src p (n + 10) H') (fun σ' H' hz => ?_) (fun D' hD' => ?_)
    · obtain ⟨z, rfl, oz, gz, sz'⟩ := hz
      have hlz := gz _ _ hl npl.symm
      refine ⟨_, rfl, _, rfl, l, _, rfl, .inl (SqL.of hlz), rfl, flat_strs _, _, rfl, ?_⟩
      rw [show (if true = true then !inV (V.str z) (taken.map V.str) else inV (V.str z) (taken.map V.str)) = !decide (z ∈ taken) by rw [in_strs]; rfl]
      by_cases it : z ∈ taken
      · refine ite_no (by rw [decide_eq_true it]; rfl) ?_
        refine ⟨abc, rfl, fun D1 hD1 => ?_⟩
        refine lc_it (walk_str (z := abc)) (fun i Hb => Hb D1 = some (.lst (((abc.cps.toList.take i).map fun c => Str.ofString "z" ++ (⟨#[c]⟩ : Str)).map V.str)) ∧ Same H' Hb) ⟨upd_same, same_new hD1⟩ (fun _ _ _ _ => True.intro) ?_ ?_
        · rintro i x0 Hb Hc hi ⟨hDb, sb⟩ ⟨eH, c, hc, rfl⟩
          obtain rfl : Hb = Hc := eH.symm
          refine ⟨rfl, tyes_if ?_⟩
          refine ⟨_, rfl, _, _, rfl, rfl, (by show _ + 1 ≤ sizeLine; decide +kernel), ?_⟩
          refine ⟨_, hDb, small (by rw [List.length_map, List.length_map, List.length_take]; exact Nat.lt_of_le_of_lt (Nat.min_le_right _ _) (by decide +kernel)), ?_, same_put sb hD1⟩
          have hc' : abc.cps.toList[i]? = some c := by rw [Array.getElem?_toList]; exact hc
          rw [upd_same, List.take_add_one, hc', List.map_append, List.map_append]
          rfl
        · rintro Hb ⟨hDb', sb⟩
          have szA : abc.cps.size = 26 := by decide +kernel
          rw [szA] at hDb'
          have hDb : Hb D1 = some (.lst ((abc.cps.toList.map fun c => Str.ofString "z" ++ (⟨#[c]⟩ : Str)).map V.str)) := by
            rw [hDb', List.take_of_length_le (by rw [Array.length_toList, szA]; exact Nat.le_refl _)]
          clear hDb'
          refine ⟨D1, rfl, ⟨_, SqL.of hDb⟩, fun D2 hD2 => ?_⟩
          have zs_ok : ∀ y ∈ (abc.cps.toList.map fun c => Str.ofString "z" ++ (⟨#[c]⟩ : Str)), OkName y := fun y hy => by
            obtain ⟨c, hc, rfl⟩ := List.mem_map.mp hy
            have : (abc.cps.toList.all fun c => decide (97 ≤ c) && decide (c ≤ 122)) = true := by decide +kernel
            have q := List.all_eq_true.mp this c hc
            rw [Bool.and_eq_true] at q
            exact ok_z ⟨of_decide_eq_true q.1, of_decide_eq_true q.2⟩
          have z_nd : (abc.cps.toList.map fun c => Str.ofString "z" ++ (⟨#[c]⟩ : Str)).Nodup := by decide +kernel
          have z_len : (abc.cps.toList.map fun c => Str.ofString "z" ++ (⟨#[c]⟩ : Str)).length = 26 := by rw [List.length_map, Array.length_toList, szA]
          revert hDb zs_ok z_nd z_len
          generalize (abc.cps.toList.map fun c => Str.ofString "z" ++ (⟨#[c]⟩ : Str)) = zs
          intro hDb zs_ok z_nd z_len
          refine lc_list (K := K) (a := D1) (xs := zs.map V.str) (fun i Hc => Hc D2 = some (.lst (((zs.take i).filter fun y => decide (y ∉ taken)).map V.str)) ∧ Same Hb Hc)
            ⟨upd_same, same_new hD2⟩ (fun i Hc _ ⟨_, e⟩ => SqL.of (e _ _ hDb)) ?_ ?_
          · rintro i y Hc hi ⟨hDc, sc⟩
            rw [List.getElem?_map] at hi
            obtain ⟨yz, hyz, rfl⟩ := Option.map_eq_some_iff.mp hi
            have ib : i < 26 := by rw [← z_len]; exact (List.getElem?_eq_some_iff.mp hyz).1
            have hlc := sc _ _ (sb _ _ hlz)
            refine ⟨rfl, _, rfl, _, rfl, l, _, rfl, .inl (SqL.of hlc), rfl, flat_strs _, _, rfl, ?_⟩
            rw [show (if true = true then !inV (V.str yz) (taken.map V.str) else inV (V.str yz) (taken.map V.str)) = !decide (yz ∈ taken) by rw [in_strs]; rfl]
            by_cases iy : yz ∈ taken
            · refine ite_no (by rw [decide_eq_true iy]; rfl) ⟨?_, sc⟩
              have e : ([yz] : List Str).filter (fun y => decide (y ∉ taken)) = [] := by simp [iy]
              rw [List.take_add_one, hyz, List.filter_append, show Option.toList (some yz) = [yz] from rfl, e, List.append_nil]
              exact hDc
            · refine ite_yes (by rw [decide_eq_false iy]; rfl) (⟨_, rfl, _, hDc, small (by rw [List.length_map]; exact Nat.lt_of_le_of_lt (Nat.le_trans (List.length_filter_le _ _) (by rw [List.length_take]; exact Nat.min_le_right _ _)) (by rw [z_len]; decide)), ?_, same_put sc hD2⟩)
              have e : ([yz] : List Str).filter (fun y => decide (y ∉ taken)) = [yz] := by simp [iy]
              rw [upd_same, List.take_add_one, hyz, List.filter_append, show Option.toList (some yz) = [yz] from rfl, e, List.map_append]
              rfl
          · rintro Hc ⟨hDc, sc⟩
            rw [List.length_map, z_len, List.take_of_length_le (by omega)] at hDc
            have all : ∀ y ∈ zs.filter fun y => decide (y ∉ taken), y ∈ zs ∧ y ∉ taken := fun y hy => by
              obtain ⟨a, b⟩ := List.mem_filter.mp hy
              exact ⟨a, of_decide_eq_true b⟩
            have ne : (zs.filter fun y => decide (y ∉ taken)) ≠ [] := fun e => by
              have := nodup_le z_nd (m := taken) fun x hx => by
                have z := List.filter_eq_nil_iff.mp e x hx
                simpa using z
              omega
            revert hDc all ne
            generalize (zs.filter fun y => decide (y ∉ taken)) = out
            intro hDc all ne
            match out, ne, all, hDc with
            | y :: more, _, all, hDc =>
              have sHc := same_tr sb sc
              obtain ⟨a1, a2⟩ := all y (List.mem_cons_self ..)
              refine ⟨D2, _, _, V.str y, rfl, rfl, SqL.of hDc, atZ, k y Hc (zs_ok y a1) a2 (fun b o e nb => sHc _ _ (gz b o e nb)) ?_⟩
              obtain ⟨g_, s_, c_, e1, e2, e3, e4, e5⟩ := sz'
              exact ⟨g_, s_, c_, sHc _ _ e1, e2, e3, e4, by omega⟩
      · refine ite_yes (by rw [decide_eq_false it]; rfl) ?_
        exact ⟨_, rfl, k z H' oz it gz (sz'.le (by omega))⟩
    · refine ⟨_, rfl, _, _, rfl, rfl, _, rfl, ?_⟩
      have okz : OkName z0 := ⟨let0, by omega, by omega⟩
      have srca : Src p (n + 10) Ha := sa.le (by omega)
      by_cases b3 : 3 < sz
      · refine ite_yes (decide_eq_true (by omega)) ⟨_, _, rfl, rfl, _, rfl, ?_⟩
        by_cases b8 : sz < 8
        · refine ite_yes (decide_eq_true (by omega)) ?_
          have cl7 := cut_len (z := z0) (by omega)
          refine ⟨_, rfl, _, rfl, z0, rfl, Nat.le_of_lt (small (by omega)), _, _, rfl, rfl, ?_, (by show 7 ≤ sizeLine; decide), fun L2 hL2 => ?_⟩
          · rw [show (Str.ofString "q").length = 1 by decide +kernel, PySem.sizeLine_eq]
            omega
          have npL2 := sa.ne hL2
          refine ⟨_, rfl, p, n + 1 + sz, 7, rfl, sa.new hL2, by omega, by decide, by decide, fun r Hb q0 q1 gb sb => ?_⟩
          obtain ⟨m, rfl⟩ : ∃ m : Nat, r = (m : Int) := ⟨r.toNat, by omega⟩
          have okq := ok_q (cut_letters let0) (Nat.le_trans cl7 (by omega))
          obtain ⟨y, hy, oy⟩ : ∃ y : Str, ([V.str "rest", V.str "inside", V.str "write", V.str "read", V.str "thread", V.str "cells", V.str (Str.ofString "q" ++ cutS z0 (some 1) none)] : List V)[m]? = some (V.str y) ∧ OkName y := by
            match m, q1 with
            | 0, _ => exact ⟨_, rfl, ok_word (by simp)⟩
            | 1, _ => exact ⟨_, rfl, ok_word (by simp)⟩
            | 2, _ => exact ⟨_, rfl, ok_word (by simp)⟩
            | 3, _ => exact ⟨_, rfl, ok_word (by simp)⟩
            | 4, _ => exact ⟨_, rfl, ok_word (by simp)⟩
            | 5, _ => exact ⟨_, rfl, ok_word (by simp)⟩
            | 6, _ => exact ⟨_, rfl, okq⟩
            | m + 7, q1 => exact absurd q1 (by omega)
          refine ⟨L2, _, _, V.str y, rfl, rfl, SqL.of (gb _ _ upd_same npL2.symm), atI_nat hy, ?_⟩
          exact hD' _ _ ⟨y, rfl, oy, (gra.trans (Grow.new hL2)).trans gb, sb.le (by omega)⟩
        · exact ite_no (decide_eq_false (by omega)) (hD' _ _ ⟨z0, rfl, okz, gra, srca⟩)
      · exact ite_no (decide_eq_false (by omega)) ⟨false, rfl, iteF (hD' _ _ ⟨z0, rfl, okz, gra, srca⟩)⟩
end
end CC

set_option Elab.async false
set_option maxRecDepth 100000
namespace CC
open PySem PySem.Spec PyProof.Rows L2
set_option linter.unusedVariables false
abbrev sNames : Stmt := top 43
def spNames : Sp := fun vs H Q _ => ∃ (p : Addr) (n many : Nat), vs = [.ref p, .int (many : Nat)] ∧ Src p n H ∧ n + 300 < 1000000 ∧ many ≤ 5 ∧
  ∀ (l : Addr) (zs : List Str) (H' : Hp), zs.length = many → (∀ z ∈ zs, OkName z) → zs.Nodup → H l = none → H' l = some (.lst (zs.map V.str)) → p ≠ l → Grow p H H' → Src p (n + 100) H' → Q (.ref l) H'
section
variable {P : Program} {w : World} {K : PySem.W.Frag} {mg : Str → Option Value} {base : Heap}
theorem scNames : FnScope ["_law_source_here", "_law_many", "_law_names_here", "_law_k"] ["_law_source_here", "_law_many"] (defScope sNames) := ⟨rfl, rfl, rfl, by decide +kernel, rfl, by decide +kernel, by decide +kernel⟩
theorem ok_names {f fN : Addr} {fd fdN : FuncData} (F : Fun K "_law_names" "_law_names" sNames f fd) (GN : FnOk P w K mg base CX0 2 fN fdN ["_law_source_here", "_law_taken"] spName) (mN : mg "_law_name" = some (.ref fN)) (kN : PySem.W.keepIn K (.ref fN) = true) (bN : L2.Binds K fdN ["_law_source_here", "_law_taken"] []) (tr : mg "range" = none) :
    FnOk P w K mg base CX0 3 f fd ["_law_source_here", "_law_many"] spNames := by
  refine F.ok scNames (fun vs H Q E h => ?_) (fun cdv A outer s H vs Q E hr h => ?_)
  · obtain ⟨p, n, many, rfl, _⟩ := h
    rfl
  · refine ⟨_, pss_cons (ps_set (i := 2) scNames.nd rfl (Or.inl rfl) (pe_lst pa_nil))
      (pss_cons (ps_for PassesOwn.never rfl (pi_range1 rfl tr (pa_cons (pv 1) pa_nil)) (pg_name (i := 3) scNames.nd rfl (Or.inl rfl))
        (pss_one (ps_expr (pe_bm PySem.F.plainAttrs_list PySem.F.slot_list_append PySem.F.type_list_append mt_append (pv 2) (pa_cons (pe_call GN hr rfl mN kN bN .nil pass0 (pa_cons (pv 0) (pa_cons (pv 2) pa_nil))) pa_nil)))))
      (pss_one (ps_ret (pv 2)))), ?_⟩
    obtain ⟨p, n, many, rfl, hp, hn, m2, k⟩ := h
    refine ⟨Nat.zero_le _, fun l hl => ?_⟩
    have npl := hp.ne hl
    refine ⟨_, rfl, (many : Int), rfl, by omega, by omega, for_range (n := many) (fun i σ H2 => ∃ (v : Option V) (zs : List Str), σ = [some (.ref p), some (.int (many : Nat)), some (.ref l), v] ∧ zs.length = i ∧ (∀ z ∈ zs, OkName z) ∧ zs.Nodup ∧ H2 l = some (.lst (zs.map V.str)) ∧ Grow p H H2 ∧ Src p (n + 20 * i) H2)
      ⟨none, [], rfl, rfl, (fun _ h => nomatch h), List.nodup_nil, upd_same, Grow.new hl, hp.new hl⟩ ?_ ?_⟩
    · rintro i σ H2 hi ⟨v, zs, rfl, zl, zo, nd, hl2, g2, s2⟩
      refine ⟨_, rfl, .inl ⟨rfl, _, Or.inl (Or.inl hl2)⟩, _, rfl, _, rfl, p, l, n + 20 * i, zs, rfl, s2, by omega, hl2, npl, by omega, fun z H3 oz nz g3 s3 => ?_⟩
      have hl3 := g3 _ _ hl2 npl.symm
      refine ⟨l, _, _, rfl, rfl, hl3, small (by rw [List.length_map]; omega), ?_⟩
      refine ⟨_, zs ++ [z], rfl, by rw [List.length_append, zl]; rfl, fun y hy => ?_, ?_, by rw [upd_same, List.map_append]; rfl, (g2.trans g3).put hl, (s3.put npl).le (by omega)⟩
      · rcases List.mem_append.mp hy with q | q
        · exact zo y q
        · cases q with
          | head => exact oz
          | tail _ q => cases q
      · refine List.nodup_append.mpr ⟨nd, by simp, fun a ha b hb e => ?_⟩
        cases hb with
        | head => exact nz (e ▸ ha)
        | tail _ q => cases q
    · rintro σ H2 ⟨v, zs, rfl, zl, zo, nd, hl2, g2, s2⟩
      exact ⟨_, rfl, k l zs H2 zl zo nd hl hl2 npl g2 (s2.le (by omega))⟩
end
end CC

set_option Elab.async false
set_option maxRecDepth 100000
namespace CC
open PySem L2
set_option linter.unusedVariables false
/-! ### drawn programs are inside just once -/
/-- the sort of row that a place has: 0 at rest, 1 ahead of the inside row, 2 inside, 3 behind it -/
def RowLab (n : Nat) (lab : Nat → Nat) (j : Nat) (r : Row) : Prop := (∀ q ∈ r.fol, q < n) ∧
  match r with
  | .rest m => lab j = 0 ∧ (lab m = 1 ∨ lab m = 2)
  | .ins m => lab j = 2 ∧ (lab m = 0 ∨ lab m = 3)
  | .wr _ _ m => (lab j = 1 ∧ (lab m = 1 ∨ lab m = 2)) ∨ (lab j = 3 ∧ (lab m = 0 ∨ lab m = 3))
  | .rd _ cs m => (lab j = 1 ∧ ∀ q ∈ (cs.map (·.2) ++ [m]), lab q = 1 ∨ lab q = 2) ∨ (lab j = 3 ∧ ∀ q ∈ (cs.map (·.2) ++ [m]), lab q = 0 ∨ lab q = 3)
def Lab (lab : Nat → Nat) (rs : List Row) : Prop := ∀ j r, rs[j]? = some r → RowLab rs.length lab j r
theorem Lab.key {lab : Nat → Nat} {rs : List Row} (h : Lab lab rs) {f m : Nat} (hf : rs[f]? = some (Row.rest m)) : ∀ p, Rch rs (ini rs f) p → p.1 < rs.length ∧ ((p.2 = 0 ∧ (lab p.1 = 1 ∨ lab p.1 = 2)) ∨ (p.2 = 1 ∧ (lab p.1 = 0 ∨ lab p.1 = 3))) := by
    intro p hp
    induction hp with
    | @base p hp =>
      unfold ini at hp
      rw [hf] at hp
      obtain ⟨q, hq, rfl⟩ := List.mem_map.mp hp
      obtain ⟨lt, _, lm⟩ := h f _ hf
      cases hq with
      | head => exact ⟨lt m (List.mem_cons_self ..), .inl ⟨rfl, lm⟩⟩
      | tail _ z => cases z
    | @step p q qs _ e hq ih =>
      obtain ⟨pl, ps⟩ := ih
      obtain ⟨r, hr⟩ : ∃ r, rs[p.1]? = some r := ⟨_, List.getElem?_eq_getElem pl⟩
      obtain ⟨lt, lr⟩ := h p.1 r hr
      unfold nxt at e
      rw [hr] at e
      cases r with
      | rest m' =>
        dsimp only at e
        split at e
        · cases e
        · cases e
          cases hq
      | ins m' =>
        dsimp only at e
        split at e
        · cases e
        · rename_i ne
          cases e
          cases hq with
          | head =>
            refine ⟨lt m' (List.mem_cons_self ..), .inr ⟨?_, lr.2⟩⟩
            show p.2 + 1 = 1
            omega
          | tail _ z => cases z
      | wr c v m' =>
        dsimp only at e
        cases e
        cases hq with
        | head =>
          refine ⟨lt m' (List.mem_cons_self ..), ?_⟩
          dsimp only at lr ⊢
          rcases lr with ⟨a, b⟩ | ⟨a, b⟩
          · exact .inl ⟨by omega, b⟩
          · exact .inr ⟨by omega, b⟩
        | tail _ z => cases z
      | rd c cs m' =>
        dsimp only at e
        cases e
        obtain ⟨z, hz, rfl⟩ := List.mem_map.mp hq
        refine ⟨lt z hz, ?_⟩
        dsimp only at lr ⊢
        rcases lr with ⟨a, b⟩ | ⟨a, b⟩
        · exact .inl ⟨by omega, b z hz⟩
        · exact .inr ⟨by omega, b z hz⟩
theorem Lab.once {lab : Nat → Nat} {rs : List Row} (h : Lab lab rs) {f m : Nat} (hf : rs[f]? = some (Row.rest m)) : Once rs f := by
  have key := h.key hf
  intro p hp
  obtain ⟨pl, ps⟩ := key p hp
  obtain ⟨r, hr⟩ : ∃ r, rs[p.1]? = some r := ⟨_, List.getElem?_eq_getElem pl⟩
  obtain ⟨_, lr⟩ := h p.1 r hr
  unfold nxt
  rw [hr]
  cases r with
  | rest m' =>
    have a := lr.1
    dsimp only
    rw [if_neg (by omega)]
    intro z
    cases z
  | ins m' =>
    have a := lr.1
    dsimp only
    rw [if_neg (by omega)]
    intro z
    cases z
  | wr c v m' =>
    intro z
    cases z
  | rd c cs m' =>
    intro z
    cases z
theorem Lab.all {lab : Nat → Nat} {rs : List Row} (h : Lab lab rs) : ∀ f m, rs[f]? = some (Row.rest m) → Once rs f := fun f m e => h.once e
/-- one row gives way to another one that leads nowhere else -/
theorem Lab.set {lab : Nat → Nat} {rs : List Row} (h : Lab lab rs) {i : Nat} {r : Row} (k : RowLab rs.length lab i r) : Lab lab (rs.set i r) := by
  intro j r' e
  rw [List.length_set]
  by_cases z : i = j
  · subst z
    have il : i < rs.length := by
      have := (List.getElem?_eq_some_iff.mp e).1
      rwa [List.length_set] at this
    rw [List.getElem?_set_self il] at e
    cases e
    exact k
  · rw [List.getElem?_set_ne z] at e
    exact h j r' e
def labS (ahead : Nat) (j : Nat) : Nat := if j = 0 then 0 else if j ≤ ahead then 1 else if j = ahead + 1 then 2 else 3
theorem lab_mid {ahead n j : Nat} {cells : List Str} {r : Row} (h : r.mid 1 (ahead + 2) cells) (n2 : ahead + 2 ≤ n) (lj : labS ahead j = 1) : RowLab n (labS ahead) j r := by
  have key : ∀ q, 1 ≤ q → q < ahead + 2 → labS ahead q = 1 ∨ labS ahead q = 2 := fun q a b => by
    unfold labS
    rw [if_neg (by omega)]
    by_cases z : q ≤ ahead
    · rw [if_pos z]; exact .inl rfl
    · rw [if_neg z, if_pos (by omega)]; exact .inr rfl
  cases r with
  | rest m => exact h.elim
  | ins m => exact h.elim
  | wr c v m =>
    refine ⟨fun q hq => ?_, .inl ⟨lj, key m h.2.2.1 h.2.2.2⟩⟩
    cases hq with
    | head => have := h.2.2.2; omega
    | tail _ z => cases z
  | rd c cs m =>
    have all : ∀ q ∈ (cs.map (·.2) ++ [m]), 1 ≤ q ∧ q < ahead + 2 := fun q hq => by
      rcases List.mem_append.mp hq with z | z
      · obtain ⟨kv, hkv, rfl⟩ := List.mem_map.mp z
        exact (h.2.2.1 kv hkv).2
      · cases z with
        | head => exact ⟨h.2.2.2.1, h.2.2.2.2.1⟩
        | tail _ z => cases z
    exact ⟨fun q hq => by have := all q hq; omega, .inl ⟨lj, fun q hq => key q (all q hq).1 (all q hq).2⟩⟩
theorem lab_tl {ahead behind n j : Nat} {cells : List Str} {r : Row} (h : r.tl (ahead + 2) (ahead + 2 + behind) cells) (n2 : ahead + 2 + behind ≤ n) (lj : labS ahead j = 3) : RowLab n (labS ahead) j r := by
  have key : ∀ q, ahead + 2 ≤ q → labS ahead q = 0 ∨ labS ahead q = 3 := fun q a => by
    unfold labS
    rw [if_neg (by omega), if_neg (by omega), if_neg (by omega)]
    exact .inr rfl
  have z0 : labS ahead 0 = 0 ∨ labS ahead 0 = 3 := .inl rfl
  cases r with
  | rest m => exact h.elim
  | ins m => exact h.elim
  | wr c v m =>
    refine ⟨fun q hq => ?_, .inr ⟨lj, ?_⟩⟩
    · cases hq with
      | head => rcases h.2.2 with z | z <;> omega
      | tail _ z => cases z
    · rcases h.2.2 with z | z
      · exact key m z.1
      · rw [z]; exact z0
  | rd c cs m =>
    have all : ∀ q ∈ (cs.map (·.2) ++ [m]), (ahead + 2 ≤ q ∧ q < ahead + 2 + behind) ∨ q = 0 := fun q hq => by
      rcases List.mem_append.mp hq with z | z
      · obtain ⟨kv, hkv, rfl⟩ := List.mem_map.mp z
        exact .inl (h.2.2.1 kv hkv).2
      · cases z with
        | head => exact h.2.2.2.1
        | tail _ z => cases z
    refine ⟨fun q hq => by rcases all q hq with z | z <;> omega, .inr ⟨lj, fun q hq => ?_⟩⟩
    rcases all q hq with z | z
    · exact key q z.1
    · rw [z]; exact z0
theorem Shape.lab {ahead behind : Nat} {cells : List Str} {rs : List Row} (h : Shape ahead behind cells rs) : Lab (labS ahead) rs := by
  have hl := h.len
  obtain ⟨xs, ys, e, h1, h2, h3, h4⟩ := h
  intro j r hr
  rw [hl]
  rw [e] at hr
  cases j with
  | zero =>
    cases hr
    refine ⟨fun q hq => ?_, rfl, ?_⟩
    · cases hq with
      | head => omega
      | tail _ z => cases z
    · unfold labS
      by_cases z : 1 ≤ ahead
      · rw [if_neg (by decide), if_pos z]; exact .inl rfl
      · rw [if_neg (by decide), if_neg z, if_pos (by omega)]; exact .inr rfl
  | succ j =>
    rw [List.getElem?_cons_succ] at hr
    by_cases a : j < xs.length
    · rw [List.getElem?_append_left a] at hr
      refine lab_mid (h3 r (List.mem_of_getElem? hr)) (by omega) ?_
      unfold labS
      rw [if_neg (by omega), if_pos (by omega)]
    · rw [List.getElem?_append_right (by omega)] at hr
      by_cases b : j = xs.length
      · rw [b, Nat.sub_self] at hr
        cases hr
        refine ⟨fun q hq => ?_, ?_, ?_⟩
        · cases hq with
          | head => split <;> omega
          | tail _ z => cases z
        · unfold labS
          rw [if_neg (by omega), if_neg (by omega), if_pos (by omega)]
        · by_cases c : 0 < behind
          · rw [if_pos c]
            refine .inr ?_
            unfold labS
            rw [if_neg (by omega), if_neg (by omega), if_neg (by omega)]
          · rw [if_neg c]
            exact .inl rfl
      · obtain ⟨k, hk⟩ : ∃ k, j - xs.length = k + 1 := ⟨j - xs.length - 1, by omega⟩
        rw [hk, List.getElem?_cons_succ] at hr
        refine lab_tl (h4 r (List.mem_of_getElem? hr)) (by omega) ?_
        unfold labS
        rw [if_neg (by omega), if_neg (by omega), if_neg (by omega)]
theorem Row.fol_re (e : Nat → Nat) (r : Row) : (r.re e).fol = r.fol.map e := by
  cases r with
  | rd c cs m =>
    show (cs.map fun kv => (kv.1, e kv.2)).map (·.2) ++ [e m] = (cs.map (·.2) ++ [m]).map e
    rw [List.map_append, List.map_map, List.map_map]
    rfl
  | _ => rfl
theorem end_lab {n s : Nat} {lab : Nat → Nat} {k : Nat} (hk : k < n) (hs : s = 0 ∨ s = n) : endOf n s k < 2 * n ∧ lab (endOf n s k % n) = lab k := by
  unfold endOf
  have n0 : 0 < n := by omega
  by_cases z : k = 0
  · rw [if_pos z]
    refine ⟨by omega, ?_⟩
    rcases hs with rfl | rfl
    · rw [Nat.sub_zero, Nat.mod_self, z]
    · rw [Nat.sub_self, Nat.zero_mod, z]
  · rw [if_neg z]
    refine ⟨by omega, ?_⟩
    rcases hs with rfl | rfl
    · rw [Nat.add_zero, Nat.mod_eq_of_lt hk]
    · rw [Nat.add_mod_right, Nat.mod_eq_of_lt hk]
theorem re_lab {n s j : Nat} {lab : Nat → Nat} {r : Row} (h : RowLab n lab (j % n) r) (hs : s = 0 ∨ s = n) : RowLab (2 * n) (fun i => lab (i % n)) j (r.re (endOf n s)) := by
  obtain ⟨lt, lr⟩ := h
  refine ⟨fun q hq => ?_, ?_⟩
  · rw [Row.fol_re] at hq
    obtain ⟨k, hk, rfl⟩ := List.mem_map.mp hq
    exact (end_lab (lab := lab) (lt k hk) hs).1
  · cases r with
    | rest m =>
      have e := (end_lab (lab := lab) (lt m (List.mem_cons_self ..)) hs).2
      show lab (j % n) = 0 ∧ (lab (endOf n s m % n) = 1 ∨ lab (endOf n s m % n) = 2)
      rw [e]
      exact lr
    | ins m =>
      have e := (end_lab (lab := lab) (lt m (List.mem_cons_self ..)) hs).2
      show lab (j % n) = 2 ∧ (lab (endOf n s m % n) = 0 ∨ lab (endOf n s m % n) = 3)
      rw [e]
      exact lr
    | wr c v m =>
      have e := (end_lab (lab := lab) (lt m (List.mem_cons_self ..)) hs).2
      show (lab (j % n) = 1 ∧ (lab (endOf n s m % n) = 1 ∨ lab (endOf n s m % n) = 2)) ∨ (lab (j % n) = 3 ∧ (lab (endOf n s m % n) = 0 ∨ lab (endOf n s m % n) = 3))
      rw [e]
      exact lr
    | rd c cs m =>
      have f := Row.fol_re (endOf n s) (.rd c cs m)
      have f2 : (cs.map fun kv => (kv.1, endOf n s kv.2)).map (·.2) ++ [endOf n s m] = (cs.map (·.2) ++ [m]).map (endOf n s) := f
      show (lab (j % n) = 1 ∧ ∀ q ∈ ((cs.map fun kv => (kv.1, endOf n s kv.2)).map (·.2) ++ [endOf n s m]), lab (q % n) = 1 ∨ lab (q % n) = 2) ∨ (lab (j % n) = 3 ∧ ∀ q ∈ ((cs.map fun kv => (kv.1, endOf n s kv.2)).map (·.2) ++ [endOf n s m]), lab (q % n) = 0 ∨ lab (q % n) = 3)
      rw [f2]
      have e : ∀ q ∈ (cs.map (·.2) ++ [m]), lab (endOf n s q % n) = lab q := fun q hq => (end_lab (lab := lab) (lt q hq) hs).2
      dsimp only at lr
      rcases lr with ⟨a, b⟩ | ⟨a, b⟩
      · refine .inl ⟨a, fun q hq => ?_⟩
        obtain ⟨k, hk, rfl⟩ := List.mem_map.mp hq
        rw [e k hk]
        exact b k hk
      · refine .inr ⟨a, fun q hq => ?_⟩
        obtain ⟨k, hk, rfl⟩ := List.mem_map.mp hq
        rw [e k hk]
        exact b k hk
theorem Lab.doubled {lab : Nat → Nat} {rs : List Row} (h : Lab lab rs) : Lab (fun i => lab (i % rs.length)) (doubled rs) := by
  intro j r hr
  rw [doubled_len]
  unfold CC.doubled at hr
  by_cases a : j < rs.length
  · rw [List.getElem?_append_left (by rw [List.length_map]; exact a), List.getElem?_map] at hr
    obtain ⟨r0, h0, rfl⟩ := Option.map_eq_some_iff.mp hr
    exact re_lab (by rw [Nat.mod_eq_of_lt a]; exact h j r0 h0) (.inl rfl)
  · rw [List.getElem?_append_right (by rw [List.length_map]; omega), List.length_map, List.getElem?_map] at hr
    obtain ⟨r0, h0, rfl⟩ := Option.map_eq_some_iff.mp hr
    have b := (List.getElem?_eq_some_iff.mp h0).1
    refine re_lab ?_ (.inr rfl)
    have e : j % rs.length = j - rs.length := by
      rw [Nat.mod_eq_sub_mod (by omega), Nat.mod_eq_of_lt b]
    rw [e]
    exact h _ r0 h0
/-- a drawn program has a sort for each of its rows, so it is inside just once -/
theorem Thr.lab {most : Nat} {cells : List Str} {rs : List Row} (h : Thr most cells rs) : ∃ lab, Lab lab rs := by
  obtain ⟨ahead, behind, ts, _, _, h3, h4⟩ := h
  rcases h4 with rfl | rfl
  · exact ⟨_, h3.lab⟩
  · exact ⟨_, h3.lab.doubled⟩
end CC

set_option Elab.async false
set_option maxRecDepth 100000
/-! ### sets of texts -/
namespace CC
open PySem PySem.Spec PyProof.Rows L2
set_option linter.unusedVariables false
def keyS (e : Int × Value) : Str := match e.2 with | .str x _ => x | _ => Str.empty
def GoodS (w : World) (e : Int × Value) : Prop := ∃ x t, e.2 = .str x t ∧ e.1 = hashStr w x
/-- the texts of a set, in some order, each once -/
def SetS (w : World) (h : Heap) (a : Addr) (L : List Str) : Prop := ∃ o es ep t, h.get? a = some o ∧ o.ExactSet ∧ o.data = Data.set es ep t ∧ (∀ e ∈ es.toList, GoodS w e) ∧ (es.toList.map keyS).Perm L ∧ L.Nodup ∧ es.size < scanBound ∧ t.fits es.size = true ∧ Ris t.place.toList ∧ (w.params.followText "set-order" = true ∨ t.led = true)
section
variable {P : Program} {w : World} {A : Around} {E : Value → Shared → Prop} {s : Shared} {a : Addr} {L : List Str}
theorem goodS_elems {l : List (Int × Value)} (h : ∀ e ∈ l, GoodS w e) : ElemsOf (strKind P w) l := fun e he => by
  obtain ⟨x, t, e1, e2⟩ := h e he
  refine ⟨⟨x, ?_, e2⟩, ?_⟩
  · show Value.isStrOf x e.2 = true
    rw [e1]
    show (x == x) = true
    simp
  · rw [e1]
    rfl
theorem goodS_scan {es : Array (Int × Value)} (h : ∀ e ∈ es.toList, GoodS w e) : (es.all fun x => x.snd.scannable) = true := by
  rw [Array.all_eq_true_iff_forall_mem]
  intro e he
  obtain ⟨x, t, e1, _⟩ := h e (Array.mem_toList_iff.mpr he)
  rw [e1]
  rfl
theorem goodS_is {x : Str} {e : Int × Value} (h : GoodS w e) : (strKind P w).is x e.2 = decide (keyS e = x) := by
  obtain ⟨y, t, e1, _⟩ := h
  show Value.isStrOf x e.2 = decide (keyS e = x)
  unfold keyS
  rw [e1]
  show (y == x) = decide (y = x)
  rw [Bool.eq_iff_iff]
  simp
theorem setS_fresh {h : Heap} (w : World) : SetS w (h.push { cls := Value.type "set", data := Data.set #[] 0 (SetTable.fresh 0 0 !w.params.followText "set-order") }) h.objs.size [] := by
  obtain ⟨o, es, ep, t, h1, h2, h3, h4, h5, h6, h7, h8, h9, h10, h11⟩ := PpSet.setB_fresh (h := h) w
  have e0 : es = #[] := Array.eq_empty_of_size_eq_zero h9
  subst e0
  exact ⟨o, #[], ep, t, h1, h2, h3, (fun _ he => nomatch he), .refl _, List.nodup_nil, h7, h8, h10, h11⟩
theorem put_get {h : Heap} {o : Obj} {es es' : Array (Int × Value)} {ep : Nat} {t t' : SetTable} (ho : h.get? a = some o) (hx : o.ExactSet) (hd : o.data = .set es ep t) :
    ∃ o', (h.update a (Obj.putSet es' t')).get? a = some o' ∧ o'.ExactSet ∧ o'.data = .set es' (ep + 1) t' := by
  refine ⟨_, store_at ho hd, ⟨hx.1, hx.2.1, hx.2.2⟩, rfl⟩
/-- what is stored at last, and laid anew where the table is too full -/
theorem setS_store {h : Heap} {o : Obj} {es : Array (Int × Value)} {ep : Nat} {t : SetTable} (ho : h.get? a = some o) (hx : o.ExactSet) (hd : o.data = .set es ep t)
    {es1 : Array (Int × Value)} {t1 : SetTable} (good : ∀ e ∈ es1.toList, GoodS w e) (pm : (es1.toList.map keyS).Perm L) (nd : L.Nodup) (b1 : es1.size < scanBound) (f1 : t1.fits es1.size = true) (r1 : Ris t1.place.toList) (l1 : w.params.followText "set-order" = true ∨ t1.led = true) :
    SetS w (h.update a (Obj.putSet es1 t1)) a L := by
  obtain ⟨o', g1, g2, g3⟩ := put_get (es' := es1) (t' := t1) ho hx hd
  exact ⟨o', es1, ep + 1, t1, g1, g2, g3, good, pm, nd, b1, f1, r1, l1⟩
theorem setS_tail {g : Bool → Sem Unit} (hg : ∀ (b : Bool) (s₁ : Shared) (Q' : Unit → Shared → Prop), Q' () s₁ → wpAny (model P w) A (g b) Q' E s₁) {o : Obj} {es : Array (Int × Value)} {ep : Nat} {t : SetTable} (ho : s.heap.get? a = some o) (hx : o.ExactSet) (hd : o.data = .set es ep t)
    {es1 : Array (Int × Value)} {t2 : SetTable} (good : ∀ e ∈ es1.toList, GoodS w e) (pm : (es1.toList.map keyS).Perm L) (nd : L.Nodup) (b1 : es1.size < scanBound) (f1 : t2.fits es1.size = true) (r1 : Ris t2.place.toList) (l1 : w.params.followText "set-order" = true ∨ t2.led = true)
    {wd : Bool} {R : Option Bool → Shared → Prop} (k : ∀ h', Heap.SameBut a s.heap h' → SetS w h' a L → R (some true) { s with heap := h' }) :
    wpAny (model P w) A (do
      storeSet a es1 t2
      if (!wd && t2.tooFull) = true then do
          g (relayAll t2 es1 (SetTable.grown es1.size)).2.2
          storeSet a (relayAll t2 es1 (SetTable.grown es1.size)).1 (relayAll t2 es1 (SetTable.grown es1.size)).2.1
          pure (some true)
        else pure (some true)) R E s := by
  have le1 : es1.size ≤ sizeLine := Nat.le_trans (Nat.le_of_lt b1) (by decide)
  refine wpAny_bind (wpAny_storeSet_of ho hd ?_ le1)
  by_cases c : (!wd && t2.tooFull) = true
  · refine wp_if_pos c ?_
    refine wpAny_bind (hg _ _ _ ?_)
    obtain ⟨o', g1, g2, g3⟩ := put_get (es' := es1) (t' := t2) ho hx hd
    have p2 := relayAll_perm t2 es1 (SetTable.grown es1.size)
    have z2 : (relayAll t2 es1 (SetTable.grown es1.size)).1.size = es1.size := by
      have := p2.length_eq
      rwa [Array.length_toList, Array.length_toList] at this
    refine wpAny_bind (wpAny_storeSet_of (s := { s with heap := s.heap.update a (Obj.putSet es1 t2) }) g1 g3 ?_ (by rw [z2]; exact le1))
    refine wpAny_pure (k _ ((Heap.SameBut.update _ _ _).trans (Heap.SameBut.update _ _ _)) ?_)
    refine setS_store g1 g2 g3 (fun e he => good e (p2.mem_iff.mp he)) ((p2.map keyS).trans pm) nd (by rw [z2]; exact b1) (relayAll_fits _ _ _) (relayAll_ris _ _ _) ?_
    rw [relayAll_led]
    exact l1
  · exact wp_if_neg c (wpAny_pure (k _ (Heap.SameBut.update _ _ _) (setS_store ho hx hd good pm nd b1 f1 r1 l1)))
theorem setS_add_hashed (R : SetS w s.heap a L) {k : Str} {tk : Tok} (few : L.length + 1 < scanBound) {Q : Bool → Shared → Prop}
    (h : ∀ h' L', Heap.SameBut a s.heap h' → SetS w h' a L' → L' = (if k ∈ L then L else k :: L) → Q (!decide (k ∈ L)) { s with heap := h' }) : wpAny (model P w) A (setAddHashed a (.str k tk) ((strKind P w).hash k)) Q E s := by
  obtain ⟨o, es, ep, t, ho, hx, hd, good, pm, nd, sb, ft, rs, ld⟩ := R
  have el : es.size = L.length := by
    have := pm.length_eq
    rw [List.length_map, Array.length_toList] at this
    exact this
  unfold setAddHashed
  refine wpAny_holding ?_
  rw [show (100000 : Nat) = 99999 + 1 from rfl, setAddHashedIn_succ]
  refine wpAny_bind (wpAny_setState_of ho hd ft ?_)
  dsimp only
  refine wp_if_pos (by
    unfold byScan
    rw [goodS_scan good, decide_eq_true sb]
    rfl) ?_
  refine wpAny_bind ?_
  unfold setAddByScan
  refine wpAny_bind (wpAny_rule ?_)
  refine wpAny_bind (wpAny_setScan_of (knd := strKind P w) (k := k) (by show (k == k) = true; simp) ho hd ft (goodS_elems good) ?_)
  by_cases hk : k ∈ L
  · have hm : k ∈ es.toList.map keyS := pm.mem_iff.mpr hk
    obtain ⟨e, he, ek⟩ := List.mem_map.mp hm
    obtain ⟨j, hj⟩ : ∃ j, List.findIdx? (fun e => (strKind P w).is k e.snd) es.toList = some j := by
      cases z : List.findIdx? (fun e => (strKind P w).is k e.snd) es.toList with
      | some j => exact ⟨j, rfl⟩
      | none =>
        rw [List.findIdx?_eq_none_iff] at z
        have := z e he
        rw [goodS_is (good e he), decide_eq_true ek] at this
        cases this
    rw [hj]
    dsimp only
    refine wpAny_pure ?_
    dsimp only
    refine wpAny_pure ?_
    have := h s.heap L (.refl _ _) ⟨o, es, ep, t, ho, hx, hd, good, pm, nd, sb, ft, rs, ld⟩ (by rw [if_pos hk])
    rw [decide_eq_true hk] at this
    exact this
  · have hn : List.findIdx? (fun e => (strKind P w).is k e.snd) es.toList = none := by
      rw [List.findIdx?_eq_none_iff]
      intro e he
      rw [goodS_is (good e he)]
      exact decide_eq_false fun z => hk (pm.mem_iff.mp (List.mem_map.mpr ⟨e, he, z⟩))
    rw [hn]
    dsimp only
    have fin : ∀ h' : Heap, Heap.SameBut a s.heap h' → SetS w h' a (k :: L) → Q true { s with heap := h' } := fun h' sb' R' => by
      have := h h' (k :: L) sb' R' (by rw [if_neg hk])
      rw [decide_eq_false hk] at this
      exact this
    have p1 := layNew_perm t es (hashStr w k) (.str k tk)
    have f1 := layNew_fits t es (hashStr w k) (.str k tk)
    have r1 := layNew_ris t es (hashStr w k) (.str k tk) rs
    have d1 := layNew_led t es (hashStr w k) (.str k tk)
    have z1 : (layNew t es (hashStr w k) (.str k tk)).1.size = es.size + 1 := by
      have := p1.length_eq
      rw [Array.length_toList, Array.length_toList, Array.size_push] at this
      exact this
    have g1 : ∀ e ∈ (layNew t es (hashStr w k) (.str k tk)).1.toList, GoodS w e := fun e he => by
      have := p1.mem_iff.mp he
      rw [Array.toList_push] at this
      rcases List.mem_append.mp this with q | q
      · exact good e q
      · cases q with
        | head => exact ⟨k, tk, rfl, rfl⟩
        | tail _ q => cases q
    have m1 : ((layNew t es (hashStr w k) (.str k tk)).1.toList.map keyS).Perm (k :: L) := by
      refine (p1.map keyS).trans ?_
      rw [Array.toList_push, List.map_append]
      exact List.perm_append_comm.trans (.cons k pm)
    have nd1 : (k :: L).Nodup := List.nodup_cons.mpr ⟨hk, nd⟩
    rw [show (strKind P w).hash k = hashStr w k from rfl]
    revert p1 f1 r1 d1 z1 g1 m1
    generalize layNew t es (hashStr w k) (.str k tk) = N
    obtain ⟨es1, t1, wd, gv⟩ := N
    intro p1 f1 r1 d1 z1 g1 m1
    dsimp only at p1 f1 r1 d1 z1 g1 m1 ⊢
    refine wpAny_bind ?_
    have gave : ∀ (b : Bool) (s₁ : Shared) (Q' : Unit → Shared → Prop), Q' () s₁ → wpAny (model P w) A (match b with | true => rule "set.scan.the-table-gave-way" | false => pure ()) Q' E s₁ := fun b s₁ Q' q => by
      cases b with
      | true => exact wpAny_rule q
      | false => exact wpAny_pure q
    refine gave gv _ _ ?_
    have b1 : es1.size < scanBound := by omega
    have ld1 : ∀ t2 : SetTable, t2.led = t1.led → (w.params.followText "set-order" = true ∨ t2.led = true) := fun t2 e => by rw [e, d1]; exact ld
    have last : ∀ h', Heap.SameBut a s.heap h' → SetS w h' a (k :: L) → wpAny (model P w) A (pure true : Sem Bool) Q E { s with heap := h' } := fun h' sb' R' => wpAny_pure (fin h' sb' R')
    by_cases pl : t1.plain = true
    · refine wp_if_pos pl ?_
      rw [hashByValue_scannable 8 rfl]
      refine wpAny_bind (wpAny_pure ?_)
      have pk : plainKind (Value.str k tk) = false := rfl
      simp only [pk, Bool.false_eq_true, if_false]
      refine setS_tail (t2 := ⟨t1.mask, t1.place, t1.dummies, t1.finger, t1.led, t1.moves, false⟩) gave ho hx hd g1 m1 nd1 b1 f1 r1 (ld1 ⟨t1.mask, t1.place, t1.dummies, t1.finger, t1.led, t1.moves, false⟩ rfl) fun h' sb' R' => ?_
      exact last h' sb' R'
    · refine wp_if_neg pl ?_
      refine wpAny_bind (wpAny_pure ?_)
      refine setS_tail gave ho hx hd g1 m1 nd1 b1 f1 r1 (ld1 _ rfl) fun h' sb' R' => ?_
      exact last h' sb' R'
end
end CC

set_option Elab.async false
set_option maxRecDepth 100000
/-! ### a set comprehension of texts -/
namespace CC
open PySem PySem.Spec PyProof.Rows L2
set_option linter.unusedVariables false
section
variable {P : Program} {w : World} {A : Around} {E : Value → Shared → Prop} {s : Shared} {a : Addr} {L : List Str}
theorem SetS.at' {h h' : Heap} (R : SetS w h a L) (k : ∀ o, h.get? a = some o → h'.get? a = some o) : SetS w h' a L := by
  obtain ⟨o, es, ep, t, h1, r⟩ := R
  exact ⟨o, es, ep, t, k _ h1, r⟩
theorem setS_type (R : SetS w s.heap a L) : s.TypeIs (.ref a) "set" := by
  obtain ⟨o, es, ep, t, h1, h2, _⟩ := R
  exact ⟨o, h1, h2.1⟩
theorem call_set_addS (R : SetS w s.heap a L) {k : Str} {tk : Tok} (few : L.length + 1 < scanBound) {Q : Value → Shared → Prop}
    (h : ∀ h' t', Heap.SameBut a s.heap h' → SetS w h' a (if k ∈ L then L else k :: L) → Q .none { s with heap := h', toks := t' }) : wpAny (model P w) A (call (.builtin "set.add") [.ref a, .str k tk]) Q E s := by
  have ty := setS_type R
  refine wpAny_call_entry F.slot_set_add ty F.entry_set_add ?_ (F.args_set_add_2 _ _)
  unfold Builtin.«set.add» Builtin.Frozenset.oneOther
  simp only [List.isEmpty_nil, bind_assoc]
  unfold Builtin.Frozenset.addrOf setAdd
  refine wpAny_bind (wpAny_pure ?_)
  try dsimp only
  refine wpAny_bind (wpAny_pure ?_)
  try dsimp only
  refine wpAny_bind (wpAny_holding (wpAny_bind ((strKind P w).pyHash (k := k) (v := .str k tk) (by show (k == k) = true; simp) ?_)))
  refine setS_add_hashed (s := { s with toks := s.toks + 1 }) R few fun h' L' sb R' e => ?_
  subst e
  show wpAny _ _ (ret Value.none) _ _ _
  exact wpAny_pure ⟨_, rfl, h h' _ sb R'⟩
end
def SetSO (w : World) (a : Addr) (L : List Str) : HO := .ext fun h => SetS w h a L
theorem setSO_ok {P : Program} {w : World} {H : Hp} {h : Heap} {a : Addr} {L : List Str} (R : SetS w h a L) : ObjOk P w H h a (SetSO w a L) := by
  refine ⟨R, ?_, fun x b r k => SetS.at' r k⟩
  obtain ⟨o, es, ep, t, h1, _⟩ := R
  exact ⟨o, h1⟩
section
variable {X : Cx} {pins : List (Addr × Obj)} {σ : L2.St} {H : Hp} {s : Shared}
theorem setSO_get {a : Addr} {L : List Str} (I : Inv X pins σ H s) (e : H a = some (SetSO X.w a L)) : SetS X.w s.heap a L := (I.hok a _ e).1
theorem addS_ok {E : Value → Shared → Prop} {D : Addr} {L : List Str} {k : Str} {u : Value} {Q : Value → Shared → Prop} (I : Inv X pins σ H s) (hD : H D = some (SetSO X.w D L)) (few : L.length + 1 < scanBound) (r : RelV (.str k) u)
    (h : ∀ s', Inv X pins σ (upd H D (SetSO X.w D (if k ∈ L then L else k :: L))) s' → Q .none s') : wpAny (model X.prog X.w) X.A (call (.builtin "set.add") [.ref D, u]) Q E s := by
  obtain ⟨tk, rfl⟩ : ∃ tk, u = .str k tk := r
  refine call_set_addS (setSO_get I hD) few fun h' t' sb R' => h _ ?_
  have he : ∃ u, h'.get? D = some u := by
    obtain ⟨o, _, _, _, ho, _⟩ := R'
    exact ⟨o, ho⟩
  exact I.write (e := D) (t' := t') (by rw [hD]; trivial) (.inl rfl) (fun b u hb hu => (sb.2 b hb).trans hu) he (setSO_ok R')
def tScS (w : World) (wi : TI) (g : TG) (tt : TT) (te : TE) (vs : List Nat) : TE := fun σ H Q => wi σ H fun J H1 => ∀ D, H1 D = none → ∃ W : Nat → Nat → Hp → Prop, (∃ m, W 0 m (upd H1 D (SetSO w D []))) ∧ ∀ i m H, W i m H → (J.stop i H ∧ Q (.ref D) H) ∨ (J.go i H ∧ ∃ Nx : Hp → Prop, (∀ H', Nx H' → ∃ m', m' < m ∧ W (i + 1) m' H') ∧
  ∀ x H', J.yld i H x H' → g x (wipe σ vs) H' fun σ2 H2 => wipe σ2 vs = wipe σ vs ∧ tt σ2 H2 fun b H3 => if b = true then te σ2 H3 fun y H4 => ∃ (k : Str) (L : List Str), y = .str k ∧ H4 D = some (SetSO w D L) ∧ L.length + 1 < scanBound ∧ Nx (upd H4 D (SetSO w D (if k ∈ L then L else k :: L))) else Nx H3)
theorem inv_wiped {pins : List (Addr × Obj)} {σ σ2 : L2.St} {H : Hp} {s : Shared} {vs : List Nat} (I : Inv X pins σ2 H s) (e : wipe σ2 vs = wipe σ vs) : Inv X pins (wipe σ vs) H s := by
  obtain ⟨m, hm, hl⟩ := I.loc
  refine ⟨I.ok, I.os, I.bare, I.base, ⟨m, hm, fun i x v h1 h2 h3 => hl i x v h1 ?_ h3⟩, I.cell, I.free, I.freeC, I.pin, I.hok, ?_⟩
  · rw [← e] at h2
    exact (wipe_some h2).1
  · rw [← e, wipe_length]
    exact I.len
theorem inv_unpin {σ : L2.St} {H : Hp} {s : Shared} {ps : List (Addr × Obj)} (I : Inv X ([] ++ ps) σ H s) : Inv X [] σ H s :=
  ⟨I.ok, I.os, I.bare, I.base, I.loc, I.cell, I.free, I.freeC, fun p hp => I.pin p (by
    rcases List.mem_append.mp hp with z | z
    · exact List.mem_append_left _ z
    · cases z), I.hok, I.len⟩
theorem inv_pinned_at {σ : L2.St} {H : Hp} {s s' : Shared} {fp : List Addr} (I : Inv X ([] ++ pinsAt fp s.heap) σ H s') {b : Addr} (hb : b ∈ fp) {o : Obj} (e : s.heap.get? b = some o) : s'.heap.get? b = some o ∧ H b = none := by
  have hm : (b, o) ∈ pinsAt fp s.heap := by
    unfold pinsAt
    exact List.mem_filterMap.mpr ⟨b, hb, by rw [e]; rfl⟩
  obtain ⟨h1, h2, _⟩ := I.pin (b, o) (List.mem_append_right _ (List.mem_append_right _ hm))
  exact ⟨h1, h2⟩
theorem scS_core {Q : VK} {elt tg iter : Expr} {ifs : List Expr} {scope : Scope} {own : List (Str × Nat)} {pos pos' : Pos} {wi : TI} {g : TG} {tt : TT} {te : TE} {Qf : Value → Shared → Prop} (hcalm : X.calm = true) (hN : X.N.Nodup) (I : Inv X pins σ H s) (hi : PI X tg iter wi) (ok : BlkOk X.N X.env.scope scope own)
    (hg : ∀ (s : Shared) (H : Hp) (C : Addr) (cl : List (Str × Addr)) (fp : List Addr), PG (X.blk s H scope (compEnvC scope cl C X.env) fp) tg g)
    (ht : ∀ (s : Shared) (H : Hp) (C : Addr) (cl : List (Str × Addr)) (fp : List Addr), PTs (X.blk s H scope (compEnvC scope cl C X.env) fp) ifs tt)
    (he : ∀ (s : Shared) (H : Hp) (C : Addr) (cl : List (Str × Addr)) (fp : List Addr), PE (X.blk s H scope (compEnvC scope cl C X.env) fp) elt te)
    (hf : ∀ x : Value, foldedSetIterable iter X.env x = pure x) (h : tScS X.w wi g tt te (own.map (·.2)) σ H Q)
    (k : ∀ (D C : Addr) (s' : Shared) (m : Str → Option Value) (H' : Hp), Inv X pins σ H' s' → Q (.ref D) H' → s'.heap.Ns C m → FpOk X pins H' C → compPost (model X.prog X.w) X.A X.xe none Qf (Value.ref D) C (.ok Flow.next) s') :
    wpAny (model X.prog X.w) X.A (comprehension (elt.SetComp [{ target := tg, iter := iter, ifs := ifs, is_async := 0 }] scope pos) scope X.env pos' (newSet (Value.type "set")) false (eval iter X.env) none) Qf X.xe s := by
  refine wpAny_comprehension_free rfl hf (closure_ok fun y hy hk => ?_) ok.kind (fun y hy hk => by rw [ok.uniq y hy, hk]) ?_
  · rcases ok.free y hy hk with z | z
    · exact I.ok.has y.1 (.inl z)
    · exact I.ok.has y.1 (.inr z)
  refine thn (hi.run pins s σ H _ I h) fun v s1 q1 => thn q1 fun itv s2 q2 => ?_
  obtain ⟨it, fp, tn, J, H1, rfl, I2, T, t0, own_, hW⟩ := q2
  refine PpSet.newSet_ok ?_
  obtain ⟨D, eD⟩ : ∃ D, D = s2.heap.objs.size := ⟨_, rfl⟩
  have hD : H1 D = none := by rw [eD]; exact I2.hok.fresh (Nat.le_refl _)
  have I3 : Inv X pins σ (upd H1 D (SetSO X.w D [])) { s2 with heap := s2.heap.push { cls := Value.type "set", data := Data.set #[] 0 (SetTable.fresh 0 0 !X.w.params.followText "set-order") } } := by
    rw [eD]
    exact I2.laid (t' := s2.toks) (fun _ _ z => Heap.get?_push_of_some _ z) (Nat.le_refl _) (setSO_ok (setS_fresh X.w))
  have kp3 : ∀ b o, s2.heap.get? b = some o → (s2.heap.push { cls := Value.type "set", data := Data.set #[] 0 (SetTable.fresh 0 0 !X.w.params.followText "set-order") }).get? b = some o := fun _ _ z => Heap.get?_push_of_some _ z
  rw [← eD]
  obtain ⟨W, ⟨m0, w0⟩, hs⟩ := hW D hD
  have gv3 : s2.gens = ({ s2 with heap := s2.heap.push { cls := Value.type "set", data := Data.set #[] 0 (SetTable.fresh 0 0 !X.w.params.followText "set-order") } } : Shared).gens := rfl
  have t3 : tn 0 ({ s2 with heap := s2.heap.push { cls := Value.type "set", data := Data.set #[] 0 (SetTable.fresh 0 0 !X.w.params.followText "set-order") } } : Shared).heap := T.keep 0 _ _ t0 fun b hb o e => kp3 b o e
  have own3 : ∀ b ∈ fp, FpOk X pins (upd H1 D (SetSO X.w D [])) b ∧ b < ({ s2 with heap := s2.heap.push { cls := Value.type "set", data := Data.set #[] 0 (SetTable.fresh 0 0 !X.w.params.followText "set-order") } } : Shared).heap.objs.size := fun b hb => by
    obtain ⟨o, ho, _⟩ := T.obj 0 _ t0 b hb
    have lt := Heap.lt_size ho
    refine ⟨⟨?_, (own_ b hb).2⟩, Heap.lt_size (kp3 b o ho)⟩
    rw [upd_ne (by rw [eD]; exact Nat.ne_of_lt lt)]
    exact (own_ b hb).1
  revert I3 t3 own3
  generalize ({ s2 with heap := s2.heap.push { cls := Value.type "set", data := Data.set #[] 0 (SetTable.fresh 0 0 !X.w.params.followText "set-order") } } : Shared) = s3
  intro I3 t3 own3
  refine newEnv_comp ?_
  have IB := block_start (fp := fp) I3 ok hN own3
  have t4 : tn 0 (pushCells (s3.heap.push { cls := Value.type "dict", data := Data.dict #[] }) scope.names) := T.keep 0 _ _ t3 fun b hb o e => pushCells_keeps _ _ _ _ (Heap.get?_push_of_some _ e)
  have inner : codeAny (model X.prog X.w) X.A (Code.compLoop (elt.SetComp [{ target := tg, iter := iter, ifs := ifs, is_async := 0 }] scope pos) 0 (.ref it) (.ref D)
      (compEnvC scope (cellsFrom (s3.heap.objs.size + 1) scope.names (cloFrom X.env.cells scope.names [])) s3.heap.objs.size X.env))
      (compPost (model X.prog X.w) X.A X.xe none Qf (Value.ref D) s3.heap.objs.size)
      { heap := pushCells (s3.heap.push { cls := Value.type "dict", data := Data.dict #[] }) scope.names, gens := s3.gens, drawn := s3.drawn, toks := s3.toks, os := s3.os } := by
    have hgB := hg s3 (upd H1 D (SetSO X.w D [])) s3.heap.objs.size (cellsFrom (s3.heap.objs.size + 1) scope.names (cloFrom X.env.cells scope.names [])) fp
    have htB := ht s3 (upd H1 D (SetSO X.w D [])) s3.heap.objs.size (cellsFrom (s3.heap.objs.size + 1) scope.names (cloFrom X.env.cells scope.names [])) fp
    have heB := he s3 (upd H1 D (SetSO X.w D [])) s3.heap.objs.size (cellsFrom (s3.heap.objs.size + 1) scope.names (cloFrom X.env.cells scope.names [])) fp
    have envB : (X.blk s3 (upd H1 D (SetSO X.w D [])) scope (compEnvC scope (cellsFrom (s3.heap.objs.size + 1) scope.names (cloFrom X.env.cells scope.names [])) s3.heap.objs.size X.env) fp).env = compEnvC scope (cellsFrom (s3.heap.objs.size + 1) scope.names (cloFrom X.env.cells scope.names [])) s3.heap.objs.size X.env := rfl
    have mkfp : ∀ H', (∀ b ∈ fp, H' b = none) → ∀ b ∈ fp, FpOk (X.blk s3 (upd H1 D (SetSO X.w D [])) scope (compEnvC scope (cellsFrom (s3.heap.objs.size + 1) scope.names (cloFrom X.env.cells scope.names [])) s3.heap.objs.size X.env) fp) [] H' b := fun H' hn b hb =>
      ⟨hn b hb, (IB.ok.exf b hb).1, IB.ok.exfs b hb, .inl hb, (IB.ok.exf b hb).2, fun p hp => by
        rcases List.mem_append.mp hp with z | z <;> cases z⟩
    refine PpSet.compLoopS_any (fun n s' => ∃ i H', Inv (X.blk s3 (upd H1 D (SetSO X.w D [])) scope (compEnvC scope (cellsFrom (s3.heap.objs.size + 1) scope.names (cloFrom X.env.cells scope.names [])) s3.heap.objs.size X.env) fp) [] (wipe σ (own.map (·.2))) H' s' ∧ tn i s'.heap ∧ W i n H' ∧ ∀ b ∈ fp, H' b = none) (fun n s' q => ?_) m0 ⟨0, _, IB, t4, w0, fun b hb => (own3 b hb).1.1⟩
    obtain ⟨i, H', I, tni, wi_, fr⟩ := q
    rcases hs i n H' wi_ with ⟨stop, q⟩ | ⟨go, Nx, hNx, hyld⟩
    · refine thn (T.done (X.blk s3 (upd H1 D (SetSO X.w D [])) scope (compEnvC scope (cellsFrom (s3.heap.objs.size + 1) scope.names (cloFrom X.env.cells scope.names [])) s3.heap.objs.size X.env) fp) rfl rfl rfl hcalm i [] s' _ H' _ I (mkfp H' fr) tni stop) fun r s1 e => ?_
      obtain ⟨rfl, I1⟩ := e
      dsimp only
      obtain ⟨m, hm, _⟩ := I1.loc
      refine k D s3.heap.objs.size s1 m H' (I3.call' I1.os I1.base I1.hok I1.bare fun b hb => ?_) q hm (I3.fpOk (Nat.le_refl _) I1.free)
      obtain ⟨_, f2, _, f4, f5, f6⟩ := (own3 b hb).1
      exact ⟨f4, f2, f5, f6⟩
    · refine thn (T.item (X.blk s3 (upd H1 D (SetSO X.w D [])) scope (compEnvC scope (cellsFrom (s3.heap.objs.size + 1) scope.names (cloFrom X.env.cells scope.names [])) s3.heap.objs.size X.env) fp) rfl rfl rfl hcalm i [] s' _ H' _ I (mkfp H' fr) tni go) fun r s1 e => ?_
      obtain ⟨u, rfl, h1⟩ := e
      dsimp only
      refine thn h1 fun _ s2' e2 => ?_
      obtain ⟨x, H2, I2', rx, yl, t2, fr2⟩ := e2
      have hy := hyld x H2 yl
      have obj2 : ∀ b ∈ fp, ∃ o, s2'.heap.get? b = some o ∧ ∀ v : Option Value, o.data ≠ Data.cell v := T.obj _ _ t2
      have Ip := I2'.pinned (mkfp H2 fr2) obj2
      have back : ∀ (s5 : Shared) (σ5 : L2.St) (H5 : Hp), Inv (X.blk s3 (upd H1 D (SetSO X.w D [])) scope (compEnvC scope (cellsFrom (s3.heap.objs.size + 1) scope.names (cloFrom X.env.cells scope.names [])) s3.heap.objs.size X.env) fp) ([] ++ pinsAt fp s2'.heap) σ5 H5 s5 → wipe σ5 (own.map (·.2)) = wipe σ (own.map (·.2)) → Nx H5 → ∃ m, m < n ∧ ∃ i H', Inv (X.blk s3 (upd H1 D (SetSO X.w D [])) scope (compEnvC scope (cellsFrom (s3.heap.objs.size + 1) scope.names (cloFrom X.env.cells scope.names [])) s3.heap.objs.size X.env) fp) [] (wipe σ (own.map (·.2))) H' s5 ∧ tn i s5.heap ∧ W i m H' ∧ ∀ b ∈ fp, H' b = none := fun s5 σ5 H5 I5 e5 n5 => by
        obtain ⟨m, ml, hw⟩ := hNx H5 n5
        refine ⟨m, ml, i + 1, H5, inv_wiped (inv_unpin I5) e5, T.keep _ _ _ t2 fun b hb o e => (inv_pinned_at I5 hb e).1, hw, fun b hb => ?_⟩
        obtain ⟨o, ho, _⟩ := obj2 b hb
        exact (inv_pinned_at I5 hb ho).2
      refine thnF (hgB.run _ s2' _ H2 x u _ Ip rx hy) fun _ s3' e3 => ?_
      obtain ⟨σ3, H3, I3', ew, h3⟩ := e3
      refine thnF (htB.run _ s3' σ3 H3 _ I3' h3) fun b s4' e4 => ?_
      obtain ⟨H4, I4', h4⟩ := e4
      cases b with
      | false =>
        exact iteF (back s4' σ3 H4 I4' ew h4)
      | true =>
        refine iteT ?_
        rw [if_pos rfl] at h4
        refine thnF (heB.run _ s4' σ3 H4 _ I4' h4) fun y0 s5' e5 => ?_
        obtain ⟨y, H5, I5', ry, k5, L5, rfl, hD5, few, nx⟩ := e5
        exact addS_ok (X := (X.blk s3 (upd H1 D (SetSO X.w D [])) scope (compEnvC scope (cellsFrom (s3.heap.objs.size + 1) scope.names (cloFrom X.env.cells scope.names [])) s3.heap.objs.size X.env) fp)) I5' hD5 few ry fun s6 I6 => back s6 σ3 _ I6 ew nx
  exact PpSet.codeAny_compStart_set inner (T.self _ 0 _ _ _ t4 inner)
theorem pe_scS {elt tg iter : Expr} {ifs : List Expr} {scope : Scope} {own : List (Str × Nat)} {pos : Pos} {wi : TI} {g : TG} {tt : TT} {te : TE} (hcalm : X.calm = true) (hN : X.N.Nodup) (hi : PI X tg iter wi) (ok : BlkOk X.N X.env.scope scope own)
    (hg : ∀ (s : Shared) (H : Hp) (C : Addr) (cl : List (Str × Addr)) (fp : List Addr), PG (X.blk s H scope (compEnvC scope cl C X.env) fp) tg g)
    (ht : ∀ (s : Shared) (H : Hp) (C : Addr) (cl : List (Str × Addr)) (fp : List Addr), PTs (X.blk s H scope (compEnvC scope cl C X.env) fp) ifs tt)
    (he : ∀ (s : Shared) (H : Hp) (C : Addr) (cl : List (Str × Addr)) (fp : List Addr), PE (X.blk s H scope (compEnvC scope cl C X.env) fp) elt te)
    (hf : ∀ x : Value, foldedSetIterable iter X.env x = pure x := by intro _; rfl) : PE X (elt.SetComp [{ target := tg, iter := iter, ifs := ifs, is_async := 0 }] scope pos) (tScS X.w wi g tt te (own.map (·.2))) := by
  refine ⟨fun pins s σ H Q I h => ?_⟩
  rw [PpSet.eval_SetComp]
  refine scS_core hcalm hN I hi ok hg ht he hf h fun D C s' m H' I' q ns fp => ?_
  refine ⟨m, ns, fun h' sb => ⟨.ref D, H', ?_, rfl, q⟩⟩
  obtain ⟨f1, f2, f3, f4, f5, f6⟩ := fp
  exact I'.turned (it := C) (t' := s'.toks) (fun b o hb e => (sb.2 b hb).trans e) f1 (Ne.symm (Ne.symm f2)) f4 f5 f6
end
end CC

set_option Elab.async false
set_option maxRecDepth 100000
/-! ### sorted of a set of texts -/
namespace CC
open PySem PySem.Spec PyProof.Rows L2
set_option linter.unusedVariables false
section
variable {P : Program} {w : World} {A : Around} {E : Value → Shared → Prop} {s : Shared} {a : Addr} {L : List Str}
theorem goodS_strs : ∀ {l : List (Int × Value)}, (∀ e ∈ l, GoodS w e) → StrsAre (l.map (·.2)) (l.map keyS)
  | [], _ => .nil
  | e :: l, h => by
    obtain ⟨x, t, e1, _⟩ := h e (List.mem_cons_self ..)
    have r := goodS_strs fun y hy => h y (List.mem_cons_of_mem _ hy)
    rw [List.map_cons, List.map_cons]
    have k1 : keyS e = x := by unfold keyS; rw [e1]
    rw [e1, k1]
    exact .cons _ _ r
theorem strs_perm {us vs : List Value} (p : us.Perm vs) : ∀ {xs : List Str}, StrsAre vs xs → ∃ ys, StrsAre us ys ∧ ys.Perm xs := by
  induction p with
  | nil => exact fun h => ⟨_, h, .refl _⟩
  | cons v _ ih =>
    intro xs h
    cases h with
    | cons y t r =>
      obtain ⟨ys, h1, h2⟩ := ih r
      exact ⟨_, .cons _ _ h1, .cons _ h2⟩
  | swap u v l =>
    intro xs h
    cases h with
    | cons y t r =>
      cases r with
      | cons y2 t2 r => exact ⟨_, .cons _ _ (.cons _ _ r), .swap _ _ _⟩
  | trans _ _ ih1 ih2 =>
    intro xs h
    obtain ⟨ys, h1, h2⟩ := ih2 h
    obtain ⟨zs, h3, h4⟩ := ih1 h1
    exact ⟨zs, h3, h4.trans h2⟩
theorem strs_len : ∀ {us : List Value} {xs : List Str}, StrsAre us xs → us.length = xs.length
  | _, _, .nil => rfl
  | _, _, .cons _ _ r => by rw [List.length_cons, List.length_cons, strs_len r]
theorem sorted_setS (R : SetS w s.heap a L) (h0 : A.handled = none) (few : L.length < 64) {Q : Value → Shared → Prop}
    (h : ∀ (s' : Shared) (p : Addr) (out : Array Value) (c : Nat) (ys : List Str), (∀ b o, s.heap.get? b = some o → s'.heap.get? b = some o) → s'.gens = s.gens → s'.os = s.os → s.heap.objs.size ≤ p → s'.heap.get? p = some (seqObj "list" out c) → StrsAre out.toList ys → ys.Perm L → sortedS ys = true → Q (.ref p) s') :
    wpAny (model P w) A (call (.builtin "sorted") [.ref a]) Q E s := by
  obtain ⟨o, es, ep, t, ho, hx, hd, good, pm, nd, sb, ft, rs, ld⟩ := R
  refine Calls.call_function_entry (id := "sorted") (b := Builtin.sorted) kind_sorted plain_sorted entry_sorted (args_sorted1 (.ref a)) ?_
  unfold Builtin.sorted
  refine wpAny_bind ?_
  have cc : checkCount "sorted" 1 1 ({ pos := [Value.ref a] } : Args).pos.length = pure () := by
    unfold checkCount
    simp
  rw [cc]
  refine wpAny_pure ?_
  refine wpAny_bind (collect_set h0 ⟨o, ho, hx.1, hd⟩ ft sb rs ld fun s1 out kp size gens os pmo => ?_)
  obtain ⟨xs, hxs, pxs⟩ := strs_perm pmo (goodS_strs good)
  have len : out.length = L.length := by rw [strs_len hxs, pxs.length_eq, pm.length_eq]
  refine wpAny_bind (wpAny_newList ?_ (by rw [len]; exact Nat.le_of_lt (small (Nat.lt_of_lt_of_le few (by decide)))))
  have at1 : (s1.heap.push { cls := Value.type "list", data := Data.seq out.toArray }).get? s1.heap.objs.size = some (seqObj "list" out.toArray 0) := Heap.get?_push_size _ rfl
  refine wpAny_bind (wpAny_holding (wpAny_call_entry slot_list_sort ⟨_, at1, rfl⟩ entry_list_sort ?_ (args_list_sort _)))
  refine list_sort_treeK strKind_oneLt at1 (StrsAre.keysOf hxs) (fun v1 v2 rest e => ?_) (by rw [len]; exact few) fun st' p1 p2 => ?_
  · subst e
    exact keyKind_strs hxs
  obtain ⟨ys, y1, y2, y3⟩ := sorted_out_str hxs p1 p2
  refine ⟨_, rfl, ?_⟩
  obtain ⟨e, he⟩ := sortedHeap_at (vs := out) (out := Array.map (fun x => x.snd) (arrOf st')) at1
  have keep : ∀ b o, s.heap.get? b = some o → (sortedHeap (s1.heap.push { cls := Value.type "list", data := Data.seq out.toArray }) s1.heap.objs.size out (Array.map (fun x => x.snd) (arrOf st'))).get? b = some o := fun b o hb => by
    have hb1 := kp b o hb
    have lt := Heap.lt_size hb1
    have lt2 : b < (s1.heap.push { cls := Value.type "list", data := Data.seq out.toArray }).objs.size := by
      rw [size_push']
      exact Nat.lt_succ_of_lt lt
    exact (sortedHeap_old (Nat.ne_of_lt lt) lt2).trans (Heap.get?_push_of_some _ hb1)
  have fin := h { heap := sortedHeap (s1.heap.push { cls := Value.type "list", data := Data.seq out.toArray }) s1.heap.objs.size out (Array.map (fun x => x.snd) (arrOf st')), gens := s1.gens, drawn := s1.drawn, toks := s1.toks, os := s1.os } s1.heap.objs.size _ e ys keep gens os size he y1 (y2.trans (pxs.trans pm)) y3
  exact wpAny_pure ⟨_, rfl, fin⟩
end
end CC

set_option Elab.async false
set_option maxRecDepth 100000
namespace CC
open PySem PySem.Spec PyProof.Rows L2
set_option linter.unusedVariables false
theorem strs_vals : ∀ {us : List Value} {xs : List Str}, StrsAre us xs → Vals (xs.map V.str) us
  | _, _, .nil => .nil
  | _, _, .cons y t r => .cons ⟨t, rfl⟩ (strs_vals r)
section
variable {X : Cx}
/-- sorted(s) of a set of texts -/
def rSortedSS (w : World) : List V → Hp → VK → Prop := fun xs H Q => ∃ (a : Addr) (L : List Str), xs = [.ref a] ∧ H a = some (SetSO w a L) ∧ L.length < 64 ∧ ∀ (ys : List Str) (p : Addr), ys.Perm L → sortedS ys = true → H p = none → Q (.ref p) (upd H p (.lst (ys.map V.str)))
theorem cr_sortedSS (hc : X.calm = true) : CallR X (.builtin "sorted") (rSortedSS X.w) := by
  intro pins s σ H xs us Q I r h
  obtain ⟨a, L, rfl, ha, few, q⟩ := h
  cases r with
  | cons rx rt =>
    cases rt
    cases rx
    refine sorted_setS (setSO_get I ha) (I.ok.hd hc) few fun s' p out c ys kp gens os size hp hys pm so => ?_
    have fr : H p = none := I.hok.fresh size
    have lay : ObjOk X.prog X.w (upd H p (.lst (ys.map V.str))) s'.heap p (.lst (ys.map V.str)) := by
      refine ⟨?_, out.toList, c, strs_vals hys, ?_⟩
      · rw [List.length_map, pm.length_eq]
        exact Nat.le_of_lt (small (Nat.lt_of_lt_of_le few (by decide)))
      · rw [hp]
    refine ⟨.ref p, upd H p (.lst (ys.map V.str)), I.call' (ch := []) os (Un.laid kp size fr) (I.hok.laid kp size lay) (by rw [gens]; exact I.bare) (fun b hb => nomatch hb), rfl, q ys p pm so fr⟩
end
end CC

set_option Elab.async false
set_option maxRecDepth 100000
/-! ### set(xs) of a list or tuple of texts -/
namespace CC
open PySem PySem.Spec PyProof.Rows L2
set_option linter.unusedVariables false
def addL (L : List Str) (k : Str) : List Str := if k ∈ L then L else k :: L
def foldL (xs : List Str) : List Str := xs.foldl addL []
theorem addL_len (L : List Str) (k : Str) : (addL L k).length ≤ L.length + 1 := by
  unfold addL
  split
  · omega
  · rw [List.length_cons]
    exact Nat.le_refl _
theorem foldL_snoc (xs : List Str) (k : Str) : foldL (xs ++ [k]) = addL (foldL xs) k := by
  unfold foldL
  rw [List.foldl_append]
  rfl
theorem foldL_len (xs : List Str) : (foldL xs).length ≤ xs.length := by
  have : ∀ (xs : List Str) (L : List Str), (xs.foldl addL L).length ≤ L.length + xs.length := fun xs => by
    induction xs with
    | nil => intro L; exact Nat.le_refl _
    | cons x xs ih =>
      intro L
      rw [List.foldl_cons]
      have := ih (addL L x)
      have := addL_len L x
      rw [List.length_cons]
      omega
  have := this xs []
  simpa [foldL] using this
theorem foldL_nodup {xs : List Str} (h : xs.Nodup) : (foldL xs).length = xs.length := by
  have : ∀ (xs : List Str) (L : List Str), (xs ++ L).Nodup → (xs.foldl addL L).length = L.length + xs.length := fun xs => by
    induction xs with
    | nil => intro L _; rfl
    | cons x xs ih =>
      intro L nd
      rw [List.cons_append] at nd
      obtain ⟨n1, n2⟩ := List.nodup_cons.mp nd
      have e : addL L x = x :: L := by
        unfold addL
        rw [if_neg fun z => n1 (List.mem_append_right _ z)]
      rw [List.foldl_cons, e, ih (x :: L) ?_]
      · rw [List.length_cons, List.length_cons]
        omega
      · refine (List.perm_middle (a := x) (l₁ := xs) (l₂ := L)).nodup_iff.mpr nd
  have := this xs [] (by simpa using h)
  simpa [foldL] using this
section
variable {P : Program} {w : World} {A : Around} {E : Value → Shared → Prop} {s : Shared}
theorem strs_at {us : List Value} {xs : List Str} (h : StrsAre us xs) : ∀ {i : Nat} {v : Value}, us[i]? = some v → ∃ x t, xs[i]? = some x ∧ v = .str x t := by
  induction h with
  | nil => intro i v e; cases e
  | cons y t r ih =>
    intro i v e
    cases i with
    | zero =>
      cases e
      exact ⟨y, t, rfl, rfl⟩
    | succ i => exact ih e
theorem set_update_strs {I : Addr} {fp wr : List Addr} {G : Array GenState → Array GenState → Prop} {n : Nat} {Pv : Nat → Value → Prop} {St : Nat → Shared → Prop} {R : Result → Shared → Prop} (W : WalksS P w A.in1 I fp wr G n Pv St) (S : Addr) (nS : S ∉ fp) (xs : List Str) (en : n = xs.length) (few : xs.length + 1 < scanBound)
    (hp : ∀ i v, Pv i v → ∃ x t, xs[i]? = some x ∧ v = .str x t) : ∀ (k i : Nat) (s : Shared), n - i = k → i ≤ n → St i s → SetS w s.heap S (foldL (xs.take i)) →
      (∀ s', Moved (S :: wr) G s s' → SetS w s'.heap S (foldL xs) → R (.ok (.ret .none)) s') → codeAny (model P w) A (Code.builtin "set.update.loop" { pos := [.ref S, .ref I] }) R s
  | 0, i, s, e, hi, st, R0, q => by
    have ei : i = n := by omega
    subst ei
    refine codeAny_builtin F.entry_set_update_loop ?_
    rw [Around.under_plainId F.plain_set_update_loop]
    unfold Builtin.«set.update.loop»
    dsimp only
    refine wpAny_bind (W.done s _ _ st fun s' mv => ?_)
    dsimp only
    rw [List.take_of_length_le (by omega)] at R0
    exact wpAny_pure (q s' (mv.mono fun b hb => List.mem_cons_of_mem _ hb) (R0.at' fun o ho => mv.heap S o (fun z => nS (W.sub _ z)) ho))
  | k + 1, i, s, e, hi, st, R0, q => by
    refine codeAny_builtin F.entry_set_update_loop ?_
    rw [Around.under_plainId F.plain_set_update_loop]
    unfold Builtin.«set.update.loop»
    dsimp only
    refine wpAny_bind (W.item i s _ _ (by omega) st fun v s1 pv st1 mv => ?_)
    dsimp only
    obtain ⟨x, tk, hx, rfl⟩ := hp i v pv
    have R1 : SetS w s1.heap S (foldL (xs.take i)) := R0.at' fun o ho => mv.heap S o (fun z => nS (W.sub _ z)) ho
    refine wpAny_bind (wpAny_holding ?_)
    unfold setAdd
    refine wpAny_bind ((strKind P w).pyHash (k := x) (v := .str x tk) (by show (x == x) = true; simp) ?_)
    have fl := foldL_len (xs.take i)
    rw [List.length_take] at fl
    refine setS_add_hashed (s := { s1 with toks := s1.toks + 1 }) R1 (by omega) fun h' L' sb R' e' => ?_
    refine wpAny_pure ⟨plainId_quiet F.plain_set_update_loop _, ?_⟩
    have tk1 : foldL (xs.take (i + 1)) = L' := by
      rw [List.take_add_one, hx, e']
      exact foldL_snoc _ _
    have st2 : St (i + 1) { s1 with heap := h', toks := s1.toks + 1 } := W.frame (i + 1) s1 h' (s1.toks + 1) st1 (Nat.le_succ _) fun b hb o ho => (sb.2 b fun z => nS (z ▸ hb)).trans ho
    refine set_update_strs W S nS xs en few hp k (i + 1) { s1 with heap := h', toks := s1.toks + 1 } (by omega) (by omega) st2 (by rw [tk1]; exact R') fun s' mv' R2 => ?_
    refine q s' (Moved.trans W.gtrans ((mv.mono fun b hb => List.mem_cons_of_mem _ hb).then_heap (Nat.le_succ _) fun b o hb ho => ?_) mv') R2
    exact (sb.2 b fun z => hb (by rw [z]; exact List.mem_cons_self ..)).trans ho
/-- the call of a type by one argument, where its __init__ is looked at in the state -/
theorem call_type_one {a : Value} {Q : Value → Shared → Prop} (nw : ∀ (A : Around) (E : Value → Shared → Prop) (Q₁ : Value → Shared → Prop), Q₁ (.ref s.heap.objs.size) { s with heap := s.heap.push { cls := Value.type "set", data := Data.set #[] 0 (SetTable.fresh 0 0 !w.params.followText "set-order") } } → codeAny (model P w) A (Code.call (.builtin "set.__new__") { pos := [.type "set", a] }) (wants Q₁ E) s)
    (ini : ∀ (E : Value → Shared → Prop), wpAny (model P w) A.in1 (call (.builtin "set.__init__") [.ref s.heap.objs.size, a]) (fun v s' => v = .none ∧ Q (.ref s.heap.objs.size) s') E { s with heap := s.heap.push { cls := Value.type "set", data := Data.set #[] 0 (SetTable.fresh 0 0 !w.params.followText "set-order") } }) :
    wpAny (model P w) A (call (.type "set") [a]) Q E s := by
  have tc := F.called_set
  refine wpAny_call ?_
  refine codeAny_of_tree ?_
  refine wpAny_pure ⟨Code.quiet_builtin _ (by decide +kernel), ?_⟩
  refine codeAny_builtin F.entry_type_call ?_
  rw [Around.under_plain (weight_type_call_type _ _ _) rfl]
  unfold Builtin.«type.__call__»
  dsimp only
  rw [if_neg (by rw [tc.notType]; exact Bool.false_ne_true), tc.canCreate]
  refine wp_if_neg Bool.false_ne_true ?_
  rw [F.typeCall_set_1]
  refine wpAny_bind (wpAny_pure ?_)
  obtain ⟨c, tl, hm⟩ := tc.mro
  refine wpAny_bind (wpAny_of_eq hm ?_)
  refine wp_if_neg (by simp) ?_
  refine wpAny_bind (wpAny_of_eq tc.made ?_)
  dsimp only
  refine wpAny_bind (wpAny_pure ?_)
  refine wpAny_bind (wpAny_holding (wpAny_call (nw _ _ _ ?_)))
  have ty : ({ s with heap := s.heap.push { cls := Value.type "set", data := Data.set #[] 0 (SetTable.fresh 0 0 !w.params.followText "set-order") } } : Shared).TypeIs (.ref s.heap.objs.size) "set" := setS_type (s := { s with heap := s.heap.push { cls := Value.type "set", data := Data.set #[] 0 (SetTable.fresh 0 0 !w.params.followText "set-order") } }) (setS_fresh (h := s.heap) w)
  refine wpAny_bind (wpAny_isInstance ty tc.sub ?_)
  refine wp_if_neg (by simp) ?_
  refine wpAny_bind (wpAny_holding (wpAny_callSpecial?_slot ty tc.init (thn (ini _) fun v s' e => ?_)))
  obtain ⟨rfl, q⟩ := e
  dsimp only
  refine wp_if_neg (by simp) ?_
  exact wpAny_pure q
theorem init_strs {S l : Addr} {items : Array Value} {xs : List Str} (h0 : A.handled = none) (ns : l ≠ S) (hS : ∃ o ep led, s.heap.get? S = some o ∧ o.data = Data.set #[] ep (SetTable.fresh 0 0 led)) (R0 : SetS w s.heap S []) (hl : s.heap.IsList l items) (hx : StrsAre items.toList xs) (few : xs.length + 1 < scanBound) {Q : Value → Shared → Prop}
    (h : ∀ s', Moved [S, s.heap.objs.size] (fun a b => b = a) s s' → SetS w s'.heap S (foldL xs) → Q .none s') : wpAny (model P w) A (call (.builtin "set.__init__") [.ref S, .ref l]) Q E s := by
  have ty := setS_type R0
  obtain ⟨o, ep, led, ho, hd⟩ := hS
  refine wpAny_call (codeAny_call_builtin (b := Builtin.«set.__init__») F.slot_set_init.plain F.entry_set_init (check_set_init_1 ty ?_))
  unfold Builtin.«set.__init__»
  refine wpAny_bind ?_
  show wpAny _ _ (pure () : Sem Unit) _ _ _
  refine wpAny_pure ?_
  dsimp only
  refine wpAny_bind ?_
  unfold typeNameOfCut
  refine wpAny_bind ?_
  unfold shownTypeOf
  refine wpAny_bind (wpAny_typeOf ty ?_)
  dsimp only
  refine wp_if_neg (by decide +kernel) ?_
  refine wpAny_pure ?_
  unfold typeNameCut
  dsimp only
  refine wpAny_pure ?_
  refine wpAny_bind ?_
  have cc : ∀ z : String, checkCount z 0 1 ([Value.ref l] : List Value).length = pure () := fun z => by
    unfold checkCount
    simp
  rw [cc]
  refine wpAny_pure ?_
  refine wpAny_bind ?_
  unfold Builtin.Frozenset.addrOf
  dsimp only
  refine wpAny_pure ?_
  refine wpAny_bind ?_
  unfold setUsed
  refine wpAny_bind (wpAny_setState_of ho hd ?_ ?_)
  · rfl
  refine wpAny_pure ?_
  dsimp only
  refine wp_if_neg (by simp [SetTable.fresh, SetTable.fill]) ?_
  have tyl : s.TypeIs (.ref l) "list" := by
    obtain ⟨o2, ho2, hc2, _⟩ := hl
    exact ⟨o2, ho2, hc2⟩
  refine wpAny_bind ?_
  unfold Builtin.Frozenset.updateFrom
  refine wpAny_bind ?_
  unfold Builtin.Frozenset.isAnySet
  refine wpAny_bind (wpAny_isInstance tyl F.sub_list_set ?_)
  show wpAny _ _ (isInstance (.ref l) (.type "frozenset")) _ _ _
  refine wpAny_isInstance tyl F.sub_list_frozenset ?_
  refine wp_if_neg Bool.false_ne_true ?_
  refine wpAny_bind (wpAny_typeOf tyl ?_)
  refine wp_if_neg (by decide +kernel) ?_
  refine wpAny_bind (wpAny_pyIter_list hl ?_)
  obtain ⟨oS, hoS⟩ : ∃ o, s.heap.get? S = some o := ⟨_, ho⟩
  have ltS := Heap.lt_size hoS
  have ltl : l < s.heap.objs.size := by
    obtain ⟨o2, ho2, _⟩ := hl
    exact Heap.lt_size ho2
  have len : items.size = xs.length := by
    have := strs_len hx
    rwa [Array.length_toList] at this
  have W := (Walks.list (prog := P) (w := w) (A := A.in1.in1) h0 s.heap.objs.size l (Nat.ne_of_lt ltl) items).toS
  refine wpAny_bind (wpAny_runValue (set_update_strs (A := A.in1) W S (by
      simp only [List.mem_cons, List.not_mem_nil, or_false, not_or]
      exact ⟨Nat.ne_of_lt ltS, Ne.symm ns⟩) xs len few (fun i v e => strs_at hx (by rw [Array.getElem?_toList]; exact e)) items.size 0 _ rfl (Nat.zero_le _) ⟨⟨_, Heap.get?_push_size _ rfl, rfl, rfl⟩, hl.push _⟩ (R0.at' fun o ho => Heap.get?_push_of_some _ ho) fun s' mv R' => ?_))
  dsimp only
  refine wpAny_pure ?_
  refine wpAny_pure ?_
  exact h s' ⟨fun b o nb hb => mv.heap b o nb (Heap.get?_push_of_some _ hb), mv.gens, mv.drawn, mv.os, mv.toks⟩ R'
theorem call_set_strs {l : Addr} {items : Array Value} {xs : List Str} (h0 : A.handled = none) (hl : s.heap.IsList l items) (hx : StrsAre items.toList xs) (few : xs.length + 1 < scanBound) {Q : Value → Shared → Prop}
    (h : ∀ s', s'.gens = s.gens → s'.os = s.os → SetS w s'.heap s.heap.objs.size (foldL xs) → (∀ b o, s.heap.get? b = some o → s'.heap.get? b = some o) → Q (.ref s.heap.objs.size) s') :
    wpAny (model P w) A (call (.type "set") [.ref l]) Q E s := by
  have ltl : l < s.heap.objs.size := by
    obtain ⟨o2, ho2, _⟩ := hl
    exact Heap.lt_size ho2
  refine call_type_one (fun A E Q₁ q => code_set_led1 _ q) fun E => ?_
  refine init_strs (P := P) (A := A.in1) (s := { s with heap := s.heap.push { cls := Value.type "set", data := Data.set #[] 0 (SetTable.fresh 0 0 !w.params.followText "set-order") } }) h0 (Nat.ne_of_lt ltl) ⟨_, 0, _, Heap.get?_push_size _ rfl, rfl⟩ (setS_fresh w) (hl.push _) hx few fun s' mv R' => ?_
  refine ⟨rfl, h s' mv.gens mv.os R' fun b o hb => ?_⟩
  have lt := Heap.lt_size hb
  refine mv.heap b o (fun z => ?_) (Heap.get?_push_of_some _ hb)
  simp only [List.mem_cons, List.not_mem_nil, or_false] at z
  rcases z with z | z
  · exact absurd z (Nat.ne_of_lt lt)
  · have : (s.heap.push { cls := Value.type "set", data := Data.set #[] 0 (SetTable.fresh 0 0 !w.params.followText "set-order") }).objs.size = s.heap.objs.size + 1 := size_push' _ _
    rw [this] at z
    exact absurd z (Nat.ne_of_lt (Nat.lt_succ_of_lt lt))
end
end CC

set_option Elab.async false
set_option maxRecDepth 100000
namespace CC
open PySem PySem.Spec PyProof.Rows L2
set_option linter.unusedVariables false
section
variable {X : Cx}
def rSetOfS (K : PySem.W.Frag) (w : World) : List V → Hp → VK → Prop := fun xs H Q => ∃ (l : Addr) (zs : List Str), xs = [.ref l] ∧ SqL K H l (zs.map V.str) ∧ zs.length < 64 ∧ ∀ a, H a = none → Q (.ref a) (upd H a (SetSO w a (foldL zs)))
theorem cr_setOfS (hc : X.calm = true) : CallR X (.type "set") (rSetOfS X.K X.w) := by
  intro pins s σ H xs us Q I r h
  obtain ⟨l, zs, rfl, hl, few, q⟩ := h
  cases r with
  | cons rx rt =>
    cases rt
    cases rx
    obtain ⟨its, hv, ⟨o, n, p1, p2, p3, p4⟩, _⟩ := I.list hl
    refine call_set_strs (xs := zs) (items := its.toArray) (I.ok.hd hc) ⟨o, p1, p2, n, p4⟩ (by simpa using strsAre_of hv) (Nat.lt_trans (Nat.succ_lt_succ few) (by decide)) fun s' gens os R' kp => ?_
    have fr : H s.heap.objs.size = none := I.hok.fresh (Nat.le_refl _)
    refine ⟨.ref _, upd H s.heap.objs.size (SetSO X.w s.heap.objs.size (foldL zs)), I.call' (ch := []) os (Un.laid kp (Nat.le_refl _) fr) (I.hok.laid kp (Nat.le_refl _) (setSO_ok R')) (by rw [gens]; exact I.bare) (fun b hb => nomatch hb), rfl, q _ fr⟩
/-- len(s) of a set of texts -/
def rLenSS (w : World) : List V → Hp → VK → Prop := fun xs H Q => ∃ (a : Addr) (L : List Str), xs = [.ref a] ∧ H a = some (SetSO w a L) ∧ Q (.int (L.length : Nat)) H
theorem cr_lenSS : CallR X (.builtin "len") (rLenSS X.w) := by
  intro pins s σ H xs us Q I r h
  obtain ⟨a, L, rfl, ha, q⟩ := h
  cases r with
  | cons rx rt =>
    cases rt
    cases rx
    obtain ⟨o, es, ep, t, ho, hx, hd, good, pm, nd, sb, ft, rs, ld⟩ := setSO_get I ha
    have el : es.size = L.length := by
      have := pm.length_eq
      rw [List.length_map, Array.length_toList] at this
      exact this
    refine call_len_set ho hx hd ft ?_ ?_
    · have : es.size < 4096 := sb
      omega
    · exact ⟨.int (L.length : Nat), H, I.tok _, ⟨_, by rw [el]⟩, q⟩
end
end CC

set_option Elab.async false
set_option maxRecDepth 100000
namespace CC
open PySem PySem.Spec PyProof.Rows L2
set_option linter.unusedVariables false
/-! ### drawn rows are a program -/
theorem kv_inj : ∀ {cs cs' : List (Int × Nat)}, (cs.map fun kv => ((Sum.inl kv.1 : Key), some (kv.2 : Int))) = (cs'.map fun kv => ((Sum.inl kv.1 : Key), some (kv.2 : Int))) → cs = cs'
  | [], [], _ => rfl
  | [], _ :: _, h => by simp at h
  | _ :: _, [], h => by simp at h
  | (a, b) :: cs, (c, d) :: cs', h => by
    rw [List.map_cons, List.map_cons] at h
    injection h with h1 h2
    have e1 : a = c := by
      have := congrArg Prod.fst h1
      exact Sum.inl.inj this
    have e2 : (b : Int) = (d : Int) := by
      have := congrArg Prod.snd h1
      exact Option.some.inj this
    rw [e1, show b = d by omega, kv_inj h2]
theorem words_ne : ("rest" : Str) ≠ "inside" ∧ ("write" : Str) ≠ "read" := by decide +kernel
theorem toD_inj {r r' : Row} (h : toD r = toD r') : r = r' := by
  obtain ⟨n1, n2⟩ := words_ne
  cases r <;> cases r' <;> unfold toD at h <;> simp only [RowD.tup.injEq, List.cons.injEq, Th.str.injEq, Th.int.injEq, and_true, true_and, reduceCtorEq, false_and, and_false] at h
  · rename_i a b
    rw [show a = b by omega]
  · exact absurd h.1 n1
  · exact absurd h.1.symm n1
  · rename_i a b
    rw [show a = b by omega]
  · obtain ⟨h1, h2, h3⟩ := h
    rename_i a b c a' b' c'
    rw [h1, h2, show c = c' by omega]
  · obtain ⟨h1, h2, h3⟩ := h
    simp only [Th.dic.injEq] at h2
    rename_i c cs m c' cs' m'
    rw [h1, kv_inj h2, show m = m' by omega]
theorem map_toD_inj : ∀ {rs rs' : List Row}, rs.map toD = rs'.map toD → rs = rs'
  | [], [], _ => rfl
  | [], _ :: _, h => by simp at h
  | _ :: _, [], h => by simp at h
  | r :: rs, r' :: rs', h => by
    rw [List.map_cons, List.map_cons] at h
    injection h with h1 h2
    rw [toD_inj h1, map_toD_inj h2]
theorem isRI_of : isRI "rest" = true ∧ isRI "inside" = true ∧ isRI "write" = false ∧ isRI "read" = false := by decide +kernel
theorem num_nat {n m : Nat} (h : m < n) : Th.num n (.int (m : Nat)) = true := by
  show (decide (((m : Nat) : Int) ≥ 0) && decide (((m : Nat) : Int) < (n : Int))) = true
  rw [decide_eq_true (by omega), decide_eq_true (by omega)]
  rfl
theorem toD_ok {n : Nat} {cells : List Str} {r : Row} (h : r.ok n cells) (nm : ∀ c ∈ cells, OkName c) : (toD r).ok n = true := by
  obtain ⟨i1, i2, i3, i4⟩ := isRI_of
  cases r with
  | rest m =>
    show (isRI "rest" && Th.num n (.int (m : Nat))) = true
    rw [i1, num_nat h]
    rfl
  | ins m =>
    show (isRI "inside" && Th.num n (.int (m : Nat))) = true
    rw [i2, num_nat h]
    rfl
  | wr c v m =>
    obtain ⟨h1, h2, h3⟩ := h
    have o := nm c h1
    show (!isRI "write" && (nameS c && (Th.num n (.int (m : Nat)) && (if ("write" : Str) = "write" then decide (v ≥ 0) else _)))) = true
    rw [i3, (names_ok o.1 o.2.1 o.2.2).1, num_nat h3, if_pos rfl, decide_eq_true h2]
    rfl
  | rd c cs m =>
    obtain ⟨h1, h2, h3, h4, h5⟩ := h
    have o := nm c h1
    have all : (cs.map fun kv => ((Sum.inl kv.1 : Key), some (kv.2 : Int))).all (okKV n) = true := by
      rw [List.all_map]
      refine List.all_eq_true.mpr fun kv hkv => ?_
      obtain ⟨a, b⟩ := h3 kv hkv
      show (decide (kv.1 ≥ 0) && Th.num n (.int (kv.2 : Nat))) = true
      rw [decide_eq_true a, num_nat b]
      rfl
    show (!isRI "read" && (nameS c && (Th.num n (.int (m : Nat)) && (if ("read" : Str) = "write" then _ else decide (("read" : Str) = "read") && (cs.map fun kv => ((Sum.inl kv.1 : Key), some (kv.2 : Int))).all (okKV n))))) = true
    rw [i4, (names_ok o.1 o.2.1 o.2.2).1, num_nat h4, if_neg (fun z => words_ne.2 z.symm), all]
    rfl
theorem no_wrong {cells : List Str} {rs : List Row} (h : ∀ r ∈ rs, r.ok rs.length cells) (nm : ∀ c ∈ cells, OkName c) (first : ∃ m, rs[0]? = some (Row.rest m)) : NoWrong (rs.map toD) := by
  intro j d hd
  rw [List.getElem?_map] at hd
  obtain ⟨r, hr, rfl⟩ := Option.map_eq_some_iff.mp hd
  unfold goodR
  rw [List.length_map, toD_ok (h r (List.mem_of_getElem? hr)) nm, Bool.true_and]
  by_cases j0 : j = 0
  · obtain ⟨m, hm⟩ := first
    rw [j0, hm] at hr
    cases hr
    rw [Bool.or_eq_true]
    exact .inr (by show decide (("rest" : Str) = "rest") = true; exact decide_eq_true rfl)
  · rw [decide_eq_true j0, Bool.true_or]
theorem rsim_lab {n j : Nat} {lab : Nat → Nat} {r r' : Row} (h : RSim r r') (l : RowLab n lab j r) : RowLab n lab j r' := by
  obtain ⟨lt, lr⟩ := l
  cases r <;> cases r' <;> try exact h.elim
  · have e : _ = _ := h
    subst e
    exact ⟨lt, lr⟩
  · have e : _ = _ := h
    subst e
    exact ⟨lt, lr⟩
  · obtain ⟨rfl, rfl, rfl⟩ := h
    exact ⟨lt, lr⟩
  · obtain ⟨rfl, p, rfl⟩ := h
    rename_i c cs m cs'
    have pm : (cs.map (·.2) ++ [m]).Perm (cs'.map (·.2) ++ [m]) := (p.map _).append_right _
    refine ⟨fun q hq => lt q (pm.mem_iff.mpr hq), ?_⟩
    dsimp only at lr ⊢
    rcases lr with ⟨a, b⟩ | ⟨a, b⟩
    · exact .inl ⟨a, fun q hq => b q (pm.mem_iff.mpr hq)⟩
    · exact .inr ⟨a, fun q hq => b q (pm.mem_iff.mpr hq)⟩
theorem Lab.sim {lab : Nat → Nat} {rs rs' : List Row} (h : Lab lab rs) (p : Paired RSim rs rs') : Lab lab rs' := by
  intro j r' e
  obtain ⟨r, hr, sm⟩ := paired_at (paired_flip p) e
  rw [← p.length]
  exact rsim_lab sm (h j r hr)
theorem Lab.place {lab : Nat → Nat} {rs : List Row} (h : Lab lab rs) {f m : Nat} (hf : rs[f]? = some (Row.rest m)) : ∀ p, Rch rs (ini rs f) p → p.2 = if lab p.1 = 1 ∨ lab p.1 = 2 then 0 else 1 := by
  have key : ∀ p, Rch rs (ini rs f) p → p.1 < rs.length ∧ ((p.2 = 0 ∧ (lab p.1 = 1 ∨ lab p.1 = 2)) ∨ (p.2 = 1 ∧ (lab p.1 = 0 ∨ lab p.1 = 3))) := h.key hf
  intro p hp
  rcases (key p hp).2 with ⟨a, b⟩ | ⟨a, b⟩
  · rw [if_pos b, a]
  · rw [if_neg (by omega), a]
theorem Lab.few {lab : Nat → Nat} {rs : List Row} (h : Lab lab rs) (n : rs.length ≤ 60) {f m : Nat} (hf : rs[f]? = some (Row.rest m)) : Few rs f := fun M nd k => by
  have nd2 : (M.map (·.1)).Nodup := by
    refine List.pairwise_map.mpr (List.Pairwise.imp_of_mem (fun {p q} hp hq ne e => ne ?_) nd)
    have a := h.place hf p (k p hp).2.2
    have b := h.place hf q (k q hq).2.2
    obtain ⟨p1, p2⟩ := p
    obtain ⟨q1, q2⟩ := q
    simp only at a b e
    subst e
    rw [a, b]
  have := L2.nat_nodup_len (M.map (·.1)) (List.range 60) nd2 fun x hx => by
    obtain ⟨p, hp, rfl⟩ := List.mem_map.mp hx
    have := (k p hp).1
    exact List.mem_range.mpr (by omega)
  rw [List.length_map, List.length_range] at this
  exact this
end CC

set_option Elab.async false
set_option maxRecDepth 100000
namespace CC
open PySem PySem.Spec PyProof.Rows L2
set_option linter.unusedVariables false
/-! ### the rows and the cells of a program -/
theorem scS_it {w : World} {J : It} {n : Nat} {G : Hp → Prop} {Y : Nat → Hp → V → Hp → Prop} (hw : Walk J n G Y) {g : TG} {tt : TT} {te : TE} {vs : List Nat} {σ : L2.St} {H1 : Hp} {D : Addr} {Qd : Hp → Prop} (Pv : Nat → Hp → Prop) (h0 : Pv 0 (upd H1 D (SetSO w D []))) (hG : ∀ i H, i ≤ n → Pv i H → G H)
    (hs : ∀ i x H H', i < n → Pv i H → Y i H x H' → g x (wipe σ vs) H' fun σ2 H2 => wipe σ2 vs = wipe σ vs ∧ tt σ2 H2 fun b H3 => if b = true then te σ2 H3 fun y H4 => ∃ (k : Str) (L : List Str), y = .str k ∧ H4 D = some (SetSO w D L) ∧ L.length + 1 < scanBound ∧ Pv (i + 1) (upd H4 D (SetSO w D (if k ∈ L then L else k :: L))) else Pv (i + 1) H3)
    (hd : ∀ H, Pv n H → Qd H) : ∃ W : Nat → Nat → Hp → Prop, (∃ m, W 0 m (upd H1 D (SetSO w D []))) ∧ ∀ i m H, W i m H → (J.stop i H ∧ Qd H) ∨ (J.go i H ∧ ∃ Nx : Hp → Prop, (∀ H', Nx H' → ∃ m', m' < m ∧ W (i + 1) m' H') ∧
      ∀ x H', J.yld i H x H' → g x (wipe σ vs) H' fun σ2 H2 => wipe σ2 vs = wipe σ vs ∧ tt σ2 H2 fun b H3 => if b = true then te σ2 H3 fun y H4 => ∃ (k : Str) (L : List Str), y = .str k ∧ H4 D = some (SetSO w D L) ∧ L.length + 1 < scanBound ∧ Nx (upd H4 D (SetSO w D (if k ∈ L then L else k :: L))) else Nx H3) := by
  refine ⟨fun i m H => i + m = n ∧ Pv i H, ⟨n, Nat.zero_add n, h0⟩, fun i m H q => ?_⟩
  obtain ⟨e, p⟩ := q
  cases m with
  | zero =>
    obtain rfl : i = n := e
    exact .inl ⟨hw.stops H (hG i H (Nat.le_refl _) p), hd H p⟩
  | succ m =>
    have lt : i < n := by omega
    have gH := hG i H (by omega) p
    exact .inr ⟨hw.goes i H lt gH, Pv (i + 1), fun H' q => ⟨m, Nat.lt_succ_self m, by omega, q⟩, fun x H' y => hs i x H H' lt p (hw.yields i H x H' lt gH y)⟩
theorem RSim.trans {r s t : Row} (a : RSim r s) (b : RSim s t) : RSim r t := by
  cases r <;> cases s <;> try exact a.elim
  all_goals cases t <;> try exact b.elim
  · exact Eq.trans a b
  · exact Eq.trans a b
  · exact ⟨a.1.trans b.1, a.2.1.trans b.2.1, a.2.2.trans b.2.2⟩
  · exact ⟨a.1.trans b.1, a.2.1.trans b.2.1, a.2.2.trans b.2.2⟩
theorem paired_trans {α β γ : Type} {F : α → β → Prop} {G : β → γ → Prop} {K : α → γ → Prop} (k : ∀ a b c, F a b → G b c → K a c) : ∀ {l : List α} {m : List β} {n : List γ}, Paired F l m → Paired G m n → Paired K l n
  | _, _, _, .nil, .nil => .nil
  | _, _, _, .cons h t, .cons h2 t2 => .cons (k _ _ _ h h2) (paired_trans k t t2)
abbrev sProgRows : Stmt := inClass (top 29) 3
abbrev sProgUsed : Stmt := inClass (top 29) 4
def spProgRows (C : Addr) : Sp := fun vs H Q _ => ∃ (p : Addr) (rs : List Row), vs = [.ref p] ∧ ProgAt C H p rs ∧ (∀ r ∈ rs, r.low rs.length) ∧ rs.length ≤ 60 ∧ ∀ (q : Addr) (rs2 : List Row) (H' : Hp), Same H H' → H q = none → RowsAt H' rs2 q → Paired RSim rs rs2 → Q (.ref q) H'
def cellOf : Row → Option Str
  | .wr c _ _ => some c
  | .rd c _ _ => some c
  | _ => none
theorem cell_sim {r r' : Row} (h : RSim r r') : cellOf r = cellOf r' := by
  cases r <;> cases r' <;> try exact h.elim
  · rfl
  · rfl
  · exact congrArg some h.1
  · exact congrArg some h.1
def spProgUsed (C : Addr) : Sp := fun vs H Q _ => ∃ (p : Addr) (rs : List Row), vs = [.ref p] ∧ ProgAt C H p rs ∧ rs.length ≤ 60 ∧ ∀ (q : Addr) (ys : List Str) (H' : Hp), Same H H' → H' q = some (.lst (ys.map V.str)) → (∀ y, y ∈ ys ↔ ∃ r ∈ rs, cellOf r = some y) → ys.length ≤ 60 → Q (.ref q) H'
section
variable {P : Program} {w : World} {K : PySem.W.Frag} {mg : Str → Option Value} {base : Heap}
theorem scProgRows : FnScope ["self", "row"] ["self"] (defScope sProgRows) := ⟨rfl, rfl, rfl, by decide +kernel, rfl, by decide +kernel, by decide +kernel⟩
theorem ok_progrows {f fC C : Addr} {fd fdC : FuncData} (F : Fun K "rows" "Program.rows" sProgRows f fd) (cl : Cls K C) (nR : NoAttr K C "_rows")
    (GC : FnOk P w K mg base CX0 1 fC fdC ["row"] spCopied) (mC : mg "copied" = some (.ref fC)) (kC : PySem.W.keepIn K (.ref fC) = true) (bC : L2.Binds K fdC ["row"] []) :
    FnOk P w K mg base CX0 2 f fd ["self"] (spProgRows C) := by
  refine F.ok scProgRows (fun vs H Q E h => ?_) (fun cdv A outer s H vs Q E hr h => ?_)
  · obtain ⟨p, rs, rfl, _⟩ := h
    rfl
  · refine ⟨_, pss_one (ps_ret (pe_lc (own := [("row", 1)]) (g := gName 1) (by rfl) scProgRows.nd (pi_tup (pe_fld (pv 0) rfl)) (blkOk_by (own := [("row", 1)]) (N := ["self", "row"]) (sc := defScope sProgRows) (by decide +kernel)) (fun _ _ _ _ _ => pg_name (i := 1) scProgRows.nd rfl (Or.inl rfl)) (fun _ _ _ _ _ => pts_nil) (fun _ _ _ _ _ => pe_call GC hr rfl mC kC bC .nil pass0 (pa_cons (pv 1) pa_nil)))), ?_⟩
    obtain ⟨p, rs, rfl, hp, low, n60, k⟩ := h
    obtain ⟨dx, T, as, rs', h1, h2, h3, h4⟩ := hp
    have low' : ∀ r ∈ rs', r.low rs.length := fun r hr => by
      obtain ⟨j, hj⟩ := List.getElem?_of_mem hr
      obtain ⟨r0, e0, sm⟩ := paired_at (paired_flip h4) hj
      exact RSim.low sm (low r0 (List.mem_of_getElem? e0))
    have len : as.length = rs.length := h3.length.trans h4.length.symm
    refine ⟨_, rfl, p, C, dx, _, _, rfl, h1, cl, nR, rfl, T, rfl, ⟨_, SqT.of h2⟩, fun D hD => ?_⟩
    refine lc_tup (K := K) (a := T) (xs := as.map V.ref) (fun i H2 => ∃ (us : List Addr) (rs2 : List Row), H2 D = some (.lst (us.map V.ref)) ∧ Paired (fun a r => RowAt H2 r a) us rs2 ∧ Paired RSim (rs'.take i) rs2 ∧ Same H H2)
      ⟨[], [], upd_same, .nil, .nil, same_new hD⟩ (fun i H2 _ ⟨_, _, _, _, _, e⟩ => SqT.of (e _ _ h2)) ?_ ?_
    · rintro i y H2 hi ⟨us, rs2, hD2, pu, ps, s2⟩
      rw [List.getElem?_map] at hi
      obtain ⟨a, hia, rfl⟩ := Option.map_eq_some_iff.mp hi
      obtain ⟨r, hir, hra⟩ := paired_at h3 hia
      refine ⟨rfl, tyes_if ?_⟩
      refine ⟨_, rfl, a, r, rs.length, rfl, hra.mono (fun b xs x => s2 _ _ x) (fun b xs x => s2 _ _ x), low' r (List.mem_of_getElem? hir), fun b r2 H3 s3 rb sim => ?_⟩
      have hD3 := s3 _ _ hD2
      have tk : rs'.take (i + 1) = rs'.take i ++ [r] := by rw [List.take_add_one, hir]; rfl
      have ul : us.length ≤ 60 := by
        have h1 := pu.length
        have h2 := ps.length
        rw [List.length_take] at h2
        have := h3.length
        omega
      refine ⟨us.map V.ref, hD3, small (by rw [List.length_map]; omega), us ++ [b], rs2 ++ [r2], by rw [upd_same, List.map_append]; rfl, Paired.snoc (L2.Paired.mapP pu fun a r e => (e.mono (fun b xs x => s3 _ _ x) fun b xs x => s3 _ _ x).put hD3) (rb.put hD3), by rw [tk]; exact ps.snoc sim, same_put (same_tr s2 s3) hD⟩
    · rintro H2 ⟨us, rs2, hD2, pu, ps, s2⟩
      rw [List.length_map, h3.length, List.take_length] at ps
      exact k D rs2 H2 s2 hD ⟨us, hD2, pu⟩ (paired_trans (F := RSim) (G := RSim) (K := RSim) (fun _ _ _ a b => a.trans b) h4 ps)
theorem in_rw (h : Str) : (if false = true then !inV (V.str h) [V.str "read", V.str "write"] else inV (V.str h) [V.str "read", V.str "write"]) = (decide (h = "read") || decide (h = "write")) := by
  show ((eqV (V.str "read") (V.str h)) || ((eqV (V.str "write") (V.str h)) || false)) = _
  rw [Bool.or_false, beq_str, beq_str]
theorem op_in_seqK {X : Cx} {K : PySem.W.Frag} (e : X.K = K) : OpR X (compareOp .In) (rIn K false) := e ▸ op_in_seq
theorem scProgUsed : FnScope ["self", "row"] ["self"] (defScope sProgUsed) := ⟨rfl, rfl, rfl, by decide +kernel, rfl, by decide +kernel, by decide +kernel⟩
theorem ok_progused {f C : Addr} {fd : FuncData} (F : Fun K "used" "Program.used" sProgUsed f fd) (cl : Cls K C) (nR : NoAttr K C "_rows") (ts : mg "sorted" = none) :
    FnOk P w K mg base CX0 1 f fd ["self"] (spProgUsed C) := by
  refine F.ok scProgUsed (fun vs H Q E h => ?_) (fun cdv A outer s H vs Q E hr h => ?_)
  · obtain ⟨p, rs, rfl, _⟩ := h
    rfl
  · refine ⟨_, pss_one (ps_ret (pe_callB (cr_sortedSS rfl) (by rfl) ts (by decide +kernel) (pa_cons (pe_scS (own := [("row", 1)]) (g := gName 1) (by rfl) scProgUsed.nd (pi_tup (pe_fld (pv 0) rfl)) (blkOk_by (own := [("row", 1)]) (N := ["self", "row"]) (sc := defScope sProgUsed) (by decide +kernel)) (fun _ _ _ _ _ => pg_name (i := 1) scProgUsed.nd rfl (Or.inl rfl))
        (fun _ _ _ _ _ => pts_one (pt_cmpR (op_in_seqK (K := K) rfl) (pe_ix (ix_tupK (K := K) rfl) (pv 1) pe_int (fun _ _ => rfl)) (pe_tup (pa_cons pe_str (pa_cons pe_str pa_nil))) (by rfl))) (fun _ _ _ _ _ => pe_ix (ix_tupK (K := K) rfl) (pv 1) pe_int (fun _ _ => rfl))) pa_nil))), ?_⟩
    obtain ⟨p, rs, rfl, hp, n60, k⟩ := h
    obtain ⟨dx, T, as, rs', h1, h2, h3, h4⟩ := hp
    have len : as.length = rs'.length := h3.length
    have len2 : rs'.length = rs.length := h4.length.symm
    refine ⟨_, rfl, p, C, dx, _, _, rfl, h1, cl, nR, rfl, T, rfl, ⟨_, SqT.of h2⟩, fun D hD => ?_⟩
    refine scS_it (walk_tup (K := K) (a := T) (xs := as.map V.ref)) (fun i H2 => ∃ L : List Str, H2 D = some (SetSO w D L) ∧ (∀ y, y ∈ L ↔ ∃ r ∈ rs'.take i, cellOf r = some y) ∧ L.length ≤ i ∧ Same H H2)
      ⟨[], upd_same, (fun y => ⟨(fun h => nomatch h), fun ⟨r, h, _⟩ => nomatch h⟩), Nat.le_refl _, same_new hD⟩ (fun i H2 _ ⟨_, _, _, _, e⟩ => SqT.of (e _ _ h2)) ?_ ?_
    · rintro i x H2 H2' hi ⟨L, hD2, hm, ll, s2⟩ hy
      obtain ⟨rfl, hx⟩ := hy
      rw [List.getElem?_map] at hx
      obtain ⟨a, hia, rfl⟩ := Option.map_eq_some_iff.mp hx
      obtain ⟨r, hir, hra⟩ := paired_at h3 hia
      have ra2 : RowAt H2' r a := hra.mono (fun b xs x => s2 _ _ x) fun b xs x => s2 _ _ x
      have tk : rs'.take (i + 1) = rs'.take i ++ [r] := by rw [List.take_add_one, hir]; rfl
      have i60 : i < 60 := by rw [List.length_map] at hi; omega
      have skip : cellOf r = none → ∀ H3, Same H2' H3 → ∃ L : List Str, H3 D = some (SetSO w D L) ∧ (∀ y, y ∈ L ↔ ∃ r ∈ rs'.take (i + 1), cellOf r = some y) ∧ L.length ≤ i + 1 ∧ Same H H3 := fun e H3 s3 => by
        refine ⟨L, s3 _ _ hD2, fun y => ?_, by omega, same_tr s2 s3⟩
        rw [tk, hm]
        constructor
        · rintro ⟨r', h, q⟩
          exact ⟨r', List.mem_append_left _ h, q⟩
        · rintro ⟨r', h, q⟩
          rcases List.mem_append.mp h with z | z
          · exact ⟨r', z, q⟩
          · cases z with
            | head =>
              rw [e] at q
              cases q
            | tail _ z => cases z
      have take : ∀ c, cellOf r = some c → ∀ H3, Same H2' H3 → H3 D = some (SetSO w D L) ∧ L.length + 1 < scanBound ∧ ∃ L' : List Str, (upd H3 D (SetSO w D (if c ∈ L then L else c :: L))) D = some (SetSO w D L') ∧ (∀ y, y ∈ L' ↔ ∃ r ∈ rs'.take (i + 1), cellOf r = some y) ∧ L'.length ≤ i + 1 ∧ Same H (upd H3 D (SetSO w D (if c ∈ L then L else c :: L))) := fun c e H3 s3 => by
        have hmem : ∀ y, (y ∈ (if c ∈ L then L else c :: L)) ↔ (y ∈ L ∨ y = c) := fun y => by
          by_cases z : c ∈ L
          · rw [if_pos z]
            exact ⟨.inl, fun q => q.elim id fun q => q ▸ z⟩
          · rw [if_neg z, List.mem_cons]
            exact or_comm
        refine ⟨s3 _ _ hD2, by show _ < 4096; omega, _, upd_same, fun y => ?_, ?_, same_put (same_tr s2 s3) hD⟩
        · rw [hmem, tk, hm]
          constructor
          · rintro (⟨r', h, q⟩ | rfl)
            · exact ⟨r', List.mem_append_left _ h, q⟩
            · exact ⟨r, List.mem_append_right _ (List.mem_cons_self ..), e⟩
          · rintro ⟨r', h, q⟩
            rcases List.mem_append.mp h with z | z
            · exact .inl ⟨r', z, q⟩
            · cases z with
              | head =>
                rw [e] at q
                exact .inr (Option.some.inj q).symm
              | tail _ z => cases z
        · by_cases z : c ∈ L
          · rw [if_pos z]; omega
          · rw [if_neg z, List.length_cons]; omega
      refine ⟨rfl, ?_⟩
      cases r with
      | rest m =>
        refine ⟨_, rfl, a, _, _, _, rfl, rfl, SqT.of ra2, atZ, (by show 2 ≤ sizeLine; decide), fun u hu => ⟨u, _, rfl, .inr (SqT.of upd_same), rfl, rfl, _, rfl, ?_⟩⟩
        rw [in_rw]
        refine ite_no (by decide +kernel) ?_
        exact skip rfl _ (same_new hu)
      | ins m =>
        refine ⟨_, rfl, a, _, _, _, rfl, rfl, SqT.of ra2, atZ, (by show 2 ≤ sizeLine; decide), fun u hu => ⟨u, _, rfl, .inr (SqT.of upd_same), rfl, rfl, _, rfl, ?_⟩⟩
        rw [in_rw]
        refine ite_no (by decide +kernel) ?_
        exact skip rfl _ (same_new hu)
      | wr c v m =>
        refine ⟨_, rfl, a, _, _, _, rfl, rfl, SqT.of ra2, atZ, (by show 2 ≤ sizeLine; decide), fun u hu => ⟨u, _, rfl, .inr (SqT.of upd_same), rfl, rfl, _, rfl, ?_⟩⟩
        rw [in_rw]
        refine ite_yes (by decide +kernel) ?_
        have sU := same_new (o := .tup [V.str "read", V.str "write"]) hu
        obtain ⟨t1, t2, t3⟩ := take c rfl _ sU
        exact ⟨_, rfl, a, _, _, _, rfl, rfl, SqT.of (sU _ _ ra2), rfl, c, L, rfl, t1, t2, t3⟩
      | rd c cs m =>
        obtain ⟨d, q1, q2⟩ := ra2
        refine ⟨_, rfl, a, _, _, _, rfl, rfl, SqT.of q1, atZ, (by show 2 ≤ sizeLine; decide), fun u hu => ⟨u, _, rfl, .inr (SqT.of upd_same), rfl, rfl, _, rfl, ?_⟩⟩
        rw [in_rw]
        refine ite_yes (by decide +kernel) ?_
        have sU := same_new (o := .tup [V.str "read", V.str "write"]) hu
        obtain ⟨t1, t2, t3⟩ := take c rfl _ sU
        exact ⟨_, rfl, a, _, _, _, rfl, rfl, SqT.of (sU _ _ q1), rfl, c, L, rfl, t1, t2, t3⟩
    · rintro H2 ⟨L, hD2, hm, ll, s2⟩
      rw [List.length_map, len, List.take_length] at hm
      rw [List.length_map] at ll
      refine ⟨D, L, rfl, hD2, by omega, fun ys q pm so hq => ?_⟩
      refine k q ys _ (same_tr s2 (same_new hq)) upd_same (fun y => ?_) (by rw [pm.length_eq]; omega)
      rw [pm.mem_iff, hm]
      constructor
      · rintro ⟨r', h, q⟩
        obtain ⟨j, hj⟩ := List.getElem?_of_mem h
        obtain ⟨r, hr, sm⟩ := paired_at (paired_flip h4) hj
        exact ⟨r, List.mem_of_getElem? hr, (cell_sim sm).trans q⟩
      · rintro ⟨r, h, q⟩
        obtain ⟨j, hj⟩ := List.getElem?_of_mem h
        obtain ⟨r', hr, sm⟩ := paired_at h4 hj
        exact ⟨r', List.mem_of_getElem? hr, (cell_sim sm).symm.trans q⟩
end
end CC

set_option Elab.async false
set_option maxRecDepth 100000
namespace CC
open PySem PySem.Spec PyProof.Rows L2
set_option linter.unusedVariables false
/-! ### a tuple in the heap whose very object is known: its methods can be called -/
/-- at a there is a plain tuple of xs -/
def TupZ (H : Hp) (a : Addr) (xs : List V) : Prop := ∃ o : Obj, o.dict = none ∧ H a = some (.frz o (.tup xs))
theorem TupZ.sq {K : PySem.W.Frag} {H : Hp} {a : Addr} {xs : List V} (h : TupZ H a xs) : SqT K H a xs := .inl (.inr ⟨h.choose, h.choose_spec.2⟩)
theorem TupZ.mono {H H' : Hp} {a : Addr} {xs : List V} (h : TupZ H a xs) (s : Same H H') : TupZ H' a xs := by
  obtain ⟨o, d, e⟩ := h
  exact ⟨o, d, s _ _ e⟩
theorem TupZ.free {H : Hp} {a b : Addr} {xs : List V} (h : TupZ H a xs) (hb : H b = none) : a ≠ b := by
  obtain ⟨o, d, e⟩ := h
  exact ne_of_none e hb
section
variable {X : Cx}
theorem call_tupleZ : CallR X (.type "tuple") (fun xs H Q => ∃ p ys, xs = [.ref p] ∧ SqL X.K H p ys ∧ ∀ (l : Addr) (o : Obj), o.dict = none → H l = none → Q (.ref l) (upd H l (.frz o (.tup ys)))) := by
  intro pins s σ H xs us Q I r h
  obtain ⟨p, ys, rfl, hq, q⟩ := h
  obtain ⟨u, rfl, rx⟩ := vals1 r
  cases rx
  obtain ⟨its, r', pl, hz⟩ := I.list hq
  have hlen := r'.length
  refine call_tuple_list pl.isList (fun h' kp => ?_) (by simp only [List.size_toArray] <;> omega)
  have I1 : Inv X pins σ H { s with heap := h' } := I.kept (t' := s.toks) kp
  have e : (h'.push { cls := .type "tuple", data := .seq its.toArray }).get? h'.objs.size = some { cls := .type "tuple", data := .seq its.toArray } := by
    obtain ⟨o, ho, hc, n, hd⟩ := IsTup.new h' its.toArray
    simp [Heap.get?, Heap.push]
  have I2 : Inv X pins σ (upd H h'.objs.size (.frz { cls := .type "tuple", data := .seq its.toArray } (.tup ys))) { s with heap := h'.push { cls := .type "tuple", data := .seq its.toArray } } :=
    I1.laid (t' := s.toks) (fun b o e => Heap.get?_push_of_some _ e) (Nat.le_refl _) (show ObjOk X.prog X.w _ _ _ (.frz _ (.tup ys)) from ⟨e, hz, its, r', IsTup.new _ _⟩)
  exact ⟨.ref h'.objs.size, _, I2, rfl, q _ _ rfl (I1.hok.fresh (Nat.le_refl _))⟩
def tTM (r : V → List V → Hp → VK → Prop) (to : TE) (t : TA) : TE := fun σ H Q => to σ H fun x H1 => (∃ p xs, x = .ref p ∧ TupZ H1 p xs) ∧ t σ H1 fun xs H2 => r x xs H2 Q
theorem pe_tm {o e : Expr} {es : List Expr} {to : TE} {t : TA} {name : Str} {apos cpos : Pos} {id : String} {r : V → List V → Hp → VK → Prop} (pa : PlainAttrs "tuple") (slot : Slot "tuple" name id) (hty : typeOf (.builtin id) = pure (.type "method_descriptor")) (hm : MtR X id r) (ho : PE X o to) (ha : PA X (e :: es) t)
    (hbase : attributeBase o name X.env (eval o X.env) = eval o X.env := by rfl)
    (hfew : ((backTo cpos (starEach (e :: es) X.env)).all (fun x => !x.1) && (backToKw cpos (keywordEach [] X.env)).all (fun x => x.1.isSome)
      && decide ((e :: es).length + ([] : List Keyword).length + (if ([] : List Keyword).isEmpty then 0 else 1) < 30)) = true := by rfl)
    (hline : (apos.endLine == cpos.line) = true := by rfl) (hs : starEach (e :: es) X.env = (false, eval e X.env) :: starEach es X.env := by rfl) (hplain : (backTo cpos (starEach es X.env)).any (·.1) = false := by rfl) :
    PE X (.Call (.Attribute o name apos) (e :: es) [] cpos) (tTM r to t) := by
  refine ⟨fun pins s σ H Q I h => ?_⟩
  refine wpAny_Call_method_late hbase hfew hline rfl (thn (ho.run pins s σ H _ I h) fun v s1 ⟨x, H1, I1, r1, ty, q1⟩ => ?_)
  obtain ⟨p, xs, rfl, ob, hd, hp⟩ := ty
  cases r1
  have hok := I1.hok p _ hp
  obtain ⟨e1, hz, its, rr, o2, ho2, hc, n, hdat⟩ := (show ObjOk X.prog X.w H1 s1.heap p (.frz ob (.tup xs)) from hok)
  rw [e1] at ho2
  cases ho2
  have h1 : s1.TypeIs (.ref p) "tuple" := ⟨ob, e1, hc⟩
  refine ⟨"tuple", id, pa, slot, hty, h1, fun a z => ⟨ob, by cases z; exact e1, hd⟩, ?_⟩
  have hA := ha.run cpos pins s1 σ H1 _ I1 q1
  rw [hs] at hA ⊢
  refine Calls.callWith_builtin (by show (false || (backTo cpos (starEach es X.env)).any (·.1)) = false; rw [hplain] <;> rfl) (Calls.evalArgs_plain ?_)
  exact thn hA fun us s2 ⟨vs, H2, I2, r2, q2⟩ => hm pins s2 σ H2 (.ref p) vs _ us Q I2 (show RelV (V.ref p) (Value.ref p) from rfl) r2 q2
end
end CC

set_option Elab.async false
set_option maxRecDepth 100000
namespace CC
open PySem PySem.Spec PyProof.Rows L2
set_option linter.unusedVariables false
/-! ### what a field asks of its cells and programs -/
theorem ps_never {X : Cx} {st : Stmt} : PS X st (fun _ _ _ => False) := ⟨fun _ _ _ _ _ _ h => h.elim⟩
abbrev sAreCells : Stmt := top 33
abbrev sFits : Stmt := top 34
abbrev sArePrograms : Stmt := top 35
def spAreCells : Sp := fun vs H Q _ => ∃ (l : Addr) (zs : List Str), vs = [.ref l] ∧ H l = some (.lst (zs.map V.str)) ∧ (∀ z ∈ zs, OkName z) ∧ zs.Nodup ∧ zs.length ≤ 5 ∧ ∀ H', Same H H' → Q (.bl true) H'
def spFits (C : Addr) : Sp := fun vs H Q _ => ∃ (p l : Addr) (zs : List Str) (rs : List Row), vs = [.ref p, .ref l] ∧ H l = some (.lst (zs.map V.str)) ∧ ProgAt C H p rs ∧ rs.length ≤ 60 ∧ (∀ r ∈ rs, ∀ c, cellOf r = some c → c ∈ zs) ∧ ∀ H', Same H H' → Q (.bl true) H'
def spArePrograms (C : Addr) : Sp := fun vs H Q _ => ∃ (q l : Addr) (zs : List Str) (ps : List Addr) (rss : List (List Row)), vs = [.ref q, .ref l] ∧ H l = some (.lst (zs.map V.str)) ∧ H q = some (.lst (ps.map V.ref)) ∧ Paired (fun p rs => ProgAt C H p rs ∧ rs.length ≤ 60 ∧ ∀ r ∈ rs, ∀ c, cellOf r = some c → c ∈ zs) ps rss ∧ 1 ≤ ps.length ∧ ps.length ≤ 5 ∧ ∀ H', Same H H' → Q (.bl true) H'
theorem ProgAt.mono {C : Addr} {H H' : Hp} {p : Addr} {rs : List Row} (h : ProgAt C H p rs) (s : Same H H') : ProgAt C H' p rs := by
  obtain ⟨dx, T, as, rs', h1, h2, h3, h4⟩ := h
  exact ⟨dx, T, as, rs', s _ _ h1, s _ _ h2, L2.Paired.mapP h3 fun a r e => e.mono (fun b xs x => s _ _ x) fun b xs x => s _ _ x, h4⟩
section
variable {P : Program} {w : World} {K : PySem.W.Frag} {mg : Str → Option Value} {base : Heap}
theorem scAreCells : FnScope ["value", "cell"] ["value"] (defScope sAreCells) := ⟨rfl, rfl, rfl, by decide +kernel, rfl, by decide +kernel, by decide +kernel⟩
theorem ok_arecells {f fL fM : Addr} {fd fdL fdM : FuncData} {t1 : Tok} (F : Fun K "are_cells" "are_cells" sAreCells f fd)
    (GL : FnOk P w K mg base CX0 1 fL fdL ["value"] (spListG P w)) (mL : mg "is_list" = some (.ref fL)) (kL : PySem.W.keepIn K (.ref fL) = true) (bL : L2.Binds K fdL ["value"] [])
    (GM : FnOk P w K mg base CX0 1 fM fdM ["value"] (spNameG P w)) (mM : mg "is_name" = some (.ref fM)) (kM : PySem.W.keepIn K (.ref fM) = true) (bM : L2.Binds K fdM ["value"] [])
    (mC : mg "MOST_CELLS" = some (.int 5 t1)) (tl : mg "len" = none) (ts : mg "set" = none) (ta : mg "all" = none) :
    FnOk P w K mg base CX0 2 f fd ["value"] spAreCells := by
  refine F.ok scAreCells (fun vs H Q E h => ?_) (fun cdv A outer s H vs Q E hr h => ?_)
  · obtain ⟨l, zs, rfl, _⟩ := h
    rfl
  · have hr1 : Room 1 _ := hr.mono (by decide)
    refine ⟨_, pss_cons (ps_if (PW.pt (pw_or (pt_not (pt_val (pe_call GL hr rfl mL kL bL .nil pass0 (pa_cons (pv 0) pa_nil)))) (pw_or1 (pt_cmpR op_gt (pe_callB call_len_seq (by rfl) tl PySem.boot_len (pa_cons (pv 0) pa_nil)) (pe_glob (v := .int 5) rfl mC ⟨_, rfl⟩) (nomark _))))) (pss_one (ps_ret pe_bl)) pss_nil)
      (pss_one (ps_ret (pe_and (pe_callB (cr_all rfl) (by rfl) ta (by decide +kernel) (pa_cons (pe_lc (own := [("cell", 1)]) (g := gName 1) (by rfl) scAreCells.nd (pi_list (pv 0)) (blkOk_by (own := [("cell", 1)]) (N := ["value", "cell"]) (sc := defScope sAreCells) (by decide +kernel)) (fun _ _ _ _ _ => pg_name (i := 1) scAreCells.nd rfl (Or.inl rfl)) (fun _ _ _ _ _ => pts_nil) (fun _ _ _ _ _ => pe_call GM hr rfl mM kM bM .nil pass0 (pa_cons (pv 1) pa_nil))) pa_nil))
        (pe_one (pe_cmpR op_eq (pe_callB cr_lenSS (by rfl) tl PySem.boot_len (pa_cons (pe_callTy (cr_setOfS rfl) (by rfl) ts (by decide +kernel) (pa_cons (pv 0) pa_nil)) pa_nil)) (pe_callB call_len_seq (by rfl) tl PySem.boot_len (pa_cons (pv 0) pa_nil)) (nomark _)))))), ?_⟩
    obtain ⟨l, zs, rfl, hl, zo, nd, z5, k⟩ := h
    refine ⟨_, rfl, .seq _, _, rfl, ⟨l, _, rfl, rfl, .inl hl⟩, fun H1 s1 => ⟨_, rfl, iteF ?_⟩⟩
    refine ⟨_, rfl, l, _, rfl, .inl (SqL.of (s1 _ _ hl)), _, _, rfl, rfl, _, rfl, ite_no (decide_eq_false (by rw [List.length_map]; omega)) ?_⟩
    refine ⟨_, rfl, l, rfl, ⟨_, SqL.of (s1 _ _ hl)⟩, fun D hD => ?_⟩
    refine lc_list (K := K) (a := l) (xs := zs.map V.str) (fun i H2 => H2 D = some (.lst ((List.replicate i true).map V.bl)) ∧ Same H H2) ⟨upd_same, same_tr s1 (same_new hD)⟩ (fun i H2 _ ⟨_, e⟩ => SqL.of (e _ _ hl)) ?_ ?_
    · rintro i x H2 hi ⟨hD2, s2⟩
      rw [List.getElem?_map] at hi
      obtain ⟨z, hz, rfl⟩ := Option.map_eq_some_iff.mp hi
      have oz := zo z (List.mem_of_getElem? hz)
      have il : i < 5 := Nat.lt_of_lt_of_le (List.getElem?_eq_some_iff.mp hz).1 z5
      refine ⟨rfl, tyes_if ?_⟩
      refine ⟨_, rfl, .str z, _, rfl, rfl, fun z' e => by cases e; exact Nat.le_trans oz.2.2 (by decide), _, hD2, small (by rw [List.length_map, List.length_replicate]; omega), ?_, same_put s2 (s1.free hD)⟩
      rw [upd_same, List.replicate_succ', List.map_append]
      show some (HO.lst (_ ++ [V.bl (nameS z)])) = _
      rw [(names_ok oz.1 oz.2.1 oz.2.2).1]
      rfl
    · rintro H2 ⟨hD2, s2⟩
      rw [List.length_map] at hD2
      refine ⟨D, _, rfl, SqL.of hD2, _, rfl, ite_yes (by simp) ?_⟩
      refine ⟨_, rfl, l, zs, rfl, SqL.of (s2 _ _ hl), by omega, fun a ha => ⟨a, _, rfl, upd_same, ?_⟩⟩
      refine ⟨_, rfl, l, _, rfl, .inl (SqL.of (same_new ha _ _ (s2 _ _ hl))), ?_⟩
      have e : decide (V.int ((foldL zs).length : Nat) = V.int ((zs.map V.str).length : Nat)) = true := decide_eq_true (by rw [foldL_nodup nd, List.length_map])
      refine ⟨rfl, ?_⟩
      dsimp only
      rw [e]
      exact k _ (same_tr s2 (same_new ha))
/-- what isinstance asks of the class of an own object -/
structure IsC (K : PySem.W.Frag) (C : Addr) : Prop where
  cl : Cls K C
  cc : PySem.W.findIn K (.ref C) "__class__" = some (some (.builtin "object.__class__"))
  hn : PySem.W.specialIn K (.builtin "object.__class__") "__get__" = some (some (.builtin "getset_descriptor.__get__"))
  ht : PySem.W.takesIn K (.builtin "object.__class__") = some true
  ob : PySem.W.mroIn K C (.type "object") = some true
  me : PySem.W.kitOne K (.ref C) (.ref C) = some true
theorem scFits : FnScope ["value", "cells", "cell"] ["value", "cells"] (defScope sFits) := ⟨rfl, rfl, rfl, by decide +kernel, rfl, by decide +kernel, by decide +kernel⟩
theorem ok_fits {f fU C : Addr} {fd fdU : FuncData} (F : Fun K "fits" "fits" sFits f fd) (ic : IsC K C) (gC : mg "Program" = some (.ref C)) (um : Meth K C "used" fU) (GU : FnOk P w K mg base CX0 1 fU fdU ["self"] (spProgUsed C)) (bU : L2.Binds K fdU ["self"] [])
    (ti : mg "isinstance" = none) (ta : mg "all" = none) : FnOk P w K mg base CX0 2 f fd ["value", "cells"] (spFits C) := by
  refine F.ok scFits (fun vs H Q E h => ?_) (fun cdv A outer s H vs Q E hr h => ?_)
  · obtain ⟨p, l, zs, rs, rfl, _⟩ := h
    rfl
  · refine ⟨_, pss_one (ps_ret (pe_and (pe_callB call_isiB (by rfl) ti (by decide +kernel) (pa_cons (pv 0) (pa_cons (pe_glob (v := .ref C) (by rfl) gC rfl) pa_nil)))
      (pe_one (pe_callB (cr_all rfl) (by rfl) ta (by decide +kernel) (pa_cons (pe_lc (own := [("cell", 2)]) (g := gName 2) (by rfl) scFits.nd (pi_list (pe_meth0 (pv 0) ic.cl um GU hr bU .nil pass0)) (blkOk_by (own := [("cell", 2)]) (N := ["value", "cells", "cell"]) (sc := defScope sFits) (by decide +kernel)) (fun _ _ _ _ _ => pg_name (i := 2) scFits.nd rfl (Or.inl rfl)) (fun _ _ _ _ _ => pts_nil) (fun _ _ _ _ _ => pe_cmpR (op_in_seqK (K := K) rfl) (pv 2) (pv 1) (by rfl))) pa_nil))))), ?_⟩
    obtain ⟨p, l, zs, rs, rfl, hl, hp, n60, cs, k⟩ := h
    have hp0 := hp
    obtain ⟨dx, T, as, rs', h1, h2, h3, h4⟩ := hp0
    refine ⟨_, rfl, _, _, _, _, _, rfl, .own C, .x (.base (.ins h1 ic.cl ic.cc ic.hn ic.ht ic.ob)), ic.me, _, rfl, iteT ?_⟩
    refine ⟨_, rfl, p, dx, _, rfl, h1, rfl, p, rs, rfl, hp, n60, fun q ys H1 s1 hq mem yl => ⟨q, rfl, ⟨_, SqL.of hq⟩, fun D hD => ?_⟩⟩
    refine lc_list (K := K) (a := q) (xs := ys.map V.str) (fun i H2 => H2 D = some (.lst ((List.replicate i true).map V.bl)) ∧ Same H1 H2) ⟨upd_same, same_new hD⟩ (fun i H2 _ ⟨_, e⟩ => SqL.of (e _ _ hq)) ?_ ?_
    · rintro i x H2 hi ⟨hD2, s2⟩
      rw [List.getElem?_map] at hi
      obtain ⟨y, hy, rfl⟩ := Option.map_eq_some_iff.mp hi
      have il : i < 60 := Nat.lt_of_lt_of_le (List.getElem?_eq_some_iff.mp hy).1 yl
      obtain ⟨r, hr, hc⟩ := (mem y).mp (List.mem_of_getElem? hy)
      have iny : y ∈ zs := cs r hr y hc
      refine ⟨rfl, tyes_if ?_⟩
      refine ⟨_, rfl, _, rfl, l, _, rfl, .inl (SqL.of (s2 _ _ (s1 _ _ hl))), rfl, flat_strs _, _, hD2, small (by rw [List.length_map, List.length_replicate]; omega), ?_, same_put s2 hD⟩
      rw [show (if false = true then !inV (V.str y) (zs.map V.str) else inV (V.str y) (zs.map V.str)) = decide (y ∈ zs) by rw [in_strs]; rfl, decide_eq_true iny, upd_same, List.replicate_succ', List.map_append]
      rfl
    · rintro H2 ⟨hD2, s2⟩
      refine ⟨D, _, rfl, SqL.of hD2, ?_⟩
      have e : (List.replicate (ys.map V.str).length true).all id = true := by simp
      rw [e]
      exact k _ (same_tr s1 s2)
end
end CC

set_option Elab.async false
set_option maxRecDepth 100000
namespace CC
open PySem PySem.Spec PyProof.Rows L2
set_option linter.unusedVariables false
abbrev sFieldInit : Stmt := inClass (top 36) 0
/-- a field at f: its cells in ascending order, its programs, and tables of their rows -/
def FieldAt (CF : Addr) (H : Hp) (f : Addr) (cs : List Str) (rss : List (List Row)) : Prop := ∃ (dx T1 T2 T3 : Addr) (ps ls : List Addr), H f = some (.ins CF dx [("_cells", .ref T1), ("_programs", .ref T2), ("_tables", .ref T3)]) ∧ TupZ H T1 (cs.map V.str) ∧ H T2 = some (.tup (ps.map V.ref)) ∧ H T3 = some (.tup (ls.map V.ref)) ∧ ps.length = rss.length ∧ Paired (fun l rs => ∃ rs2, RowsAt H rs2 l ∧ Paired RSim rs rs2) ls rss
def spFieldInit (C CF : Addr) : Sp := fun vs H Q _ => ∃ (f dx l q : Addr) (zs : List Str) (ps : List Addr) (rss : List (List Row)), vs = [.ref f, .ref l, .ref q] ∧ H f = some (.ins CF dx []) ∧ H l = some (.lst (zs.map V.str)) ∧ (∀ z ∈ zs, OkName z) ∧ zs.Nodup ∧ zs.length ≤ 5 ∧ H q = some (.lst (ps.map V.ref)) ∧ Paired (fun p rs => ProgAt C H p rs ∧ rs.length ≤ 60 ∧ (∀ r ∈ rs, r.low rs.length) ∧ ∀ r ∈ rs, ∀ c, cellOf r = some c → c ∈ zs) ps rss ∧ 1 ≤ ps.length ∧ ps.length ≤ 5 ∧
  ∀ (cs : List Str) (H' : Hp), cs.Perm zs → sortedS cs = true → (∀ b o, H b = some o → b ≠ f → H' b = some o) → FieldAt CF H' f cs rss → Q .non H'
theorem ProgAt.keep {C CF : Addr} {H H' : Hp} {p f dx : Addr} {rs : List Row} (h : ProgAt C H p rs) (hf : H f = some (.ins CF dx [])) (g : ∀ b o, H b = some o → b ≠ f → H' b = some o) : ProgAt C H' p rs := by
  obtain ⟨dx', T, as, rs', h1, h2, h3, h4⟩ := h
  refine ⟨dx', T, as, rs', g _ _ h1 (ne_of h1 hf (by intro z; cases z)), g _ _ h2 (ne_of h2 hf (by intro z; cases z)), L2.Paired.mapP h3 fun a r e => e.mono (fun b xs x => g _ _ x (ne_of x hf (by intro z; cases z))) fun b xs x => g _ _ x (ne_of x hf (by intro z; cases z)), h4⟩
structure TxtF (K : PySem.W.Frag) (CF : Addr) : Prop where
  cl : Cls K CF
  n1 : NoAttr K CF "_cells"
  n2 : NoAttr K CF "_programs"
  n3 : NoAttr K CF "_tables"
section
variable {P : Program} {w : World} {K : PySem.W.Frag} {mg : Str → Option Value} {base : Heap}
theorem scArePrograms : FnScope ["value", "cells", "program"] ["value", "cells"] (defScope sArePrograms) := ⟨rfl, rfl, rfl, by decide +kernel, rfl, by decide +kernel, by decide +kernel⟩
theorem ok_areprograms {f fL fF C : Addr} {fd fdL fdF : FuncData} {t1 : Tok} (F : Fun K "are_programs" "are_programs" sArePrograms f fd)
    (GL : FnOk P w K mg base CX0 1 fL fdL ["value"] (spListG P w)) (mL : mg "is_list" = some (.ref fL)) (kL : PySem.W.keepIn K (.ref fL) = true) (bL : L2.Binds K fdL ["value"] [])
    (GF : FnOk P w K mg base CX0 2 fF fdF ["value", "cells"] (spFits C)) (mF : mg "fits" = some (.ref fF)) (kF : PySem.W.keepIn K (.ref fF) = true) (bF : L2.Binds K fdF ["value", "cells"] [])
    (mT : mg "MOST_THREADS" = some (.int 5 t1)) (tl : mg "len" = none) (ta : mg "all" = none) :
    FnOk P w K mg base CX0 3 f fd ["value", "cells"] (spArePrograms C) := by
  refine F.ok scArePrograms (fun vs H Q E h => ?_) (fun cdv A outer s H vs Q E hr h => ?_)
  · obtain ⟨q, l, zs, ps, rss, rfl, _⟩ := h
    rfl
  · have hr1 : Room 1 _ := hr.mono (by decide)
    refine ⟨_, pss_cons (ps_if (PW.pt (pw_or (pt_not (pt_val (pe_call GL hr1 rfl mL kL bL .nil pass0 (pa_cons (pv 0) pa_nil)))) (pw_or1 (pt_not (pt_chain op_le op_le pe_int (pe_callB call_len_seq (by rfl) tl PySem.boot_len (pa_cons (pv 0) pa_nil)) (pe_glob (v := .int 5) rfl mT ⟨_, rfl⟩)))))) (pss_one (ps_ret pe_bl)) pss_nil)
      (pss_one (ps_ret (pe_callB (cr_all rfl) (by rfl) ta (by decide +kernel) (pa_cons (pe_lc (own := [("program", 2)]) (g := gName 2) (by rfl) scArePrograms.nd (pi_list (pv 0)) (blkOk_by (own := [("program", 2)]) (N := ["value", "cells", "program"]) (sc := defScope sArePrograms) (by decide +kernel)) (fun _ _ _ _ _ => pg_name (i := 2) scArePrograms.nd rfl (Or.inl rfl)) (fun _ _ _ _ _ => pts_nil) (fun _ _ _ _ _ => pe_call GF hr rfl mF kF bF .nil pass0 (pa_cons (pv 2) (pa_cons (pv 1) pa_nil)))) pa_nil)))), ?_⟩
    obtain ⟨q, l, zs, ps, rss, rfl, hl, hq, pr, p1, p5, k⟩ := h
    refine ⟨_, rfl, .seq _, _, rfl, ⟨q, _, rfl, rfl, .inl hq⟩, fun H1 s1 => ⟨_, rfl, iteF ?_⟩⟩
    refine ⟨_, rfl, q, _, rfl, .inl (SqL.of (s1 _ _ hq)), _, _, rfl, rfl, _, rfl, ite_yes (decide_eq_true (by rw [List.length_map]; omega)) ⟨_, _, rfl, rfl, _, rfl, ite_no (not_dec (by rw [List.length_map]; omega)) ?_⟩⟩
    refine ⟨_, rfl, q, rfl, ⟨_, SqL.of (s1 _ _ hq)⟩, fun D hD => ?_⟩
    refine lc_list (K := K) (a := q) (xs := ps.map V.ref) (fun i H2 => H2 D = some (.lst ((List.replicate i true).map V.bl)) ∧ Same H H2) ⟨upd_same, same_tr s1 (same_new hD)⟩ (fun i H2 _ ⟨_, e⟩ => SqL.of (e _ _ hq)) ?_ ?_
    · rintro i x H2 hi ⟨hD2, s2⟩
      rw [List.getElem?_map] at hi
      obtain ⟨p, hp, rfl⟩ := Option.map_eq_some_iff.mp hi
      have il : i < 5 := Nat.lt_of_lt_of_le (List.getElem?_eq_some_iff.mp hp).1 p5
      obtain ⟨rs, hrs, pa, n60, cs⟩ := paired_at pr hp
      refine ⟨rfl, tyes_if ?_⟩
      refine ⟨_, rfl, _, rfl, p, l, zs, rs, rfl, s2 _ _ hl, pa.mono s2, n60, cs, fun H3 s3 => ⟨_, s3 _ _ hD2, small (by rw [List.length_map, List.length_replicate]; omega), ?_, same_put (same_tr s2 s3) (s1.free hD)⟩⟩
      rw [upd_same, List.replicate_succ', List.map_append]
      rfl
    · rintro H2 ⟨hD2, s2⟩
      refine ⟨D, _, rfl, SqL.of hD2, ?_⟩
      have e : (List.replicate (ps.map V.ref).length true).all id = true := by simp
      rw [e]
      exact k _ s2
theorem scFieldInit : FnScope ["self", "cells", "programs", "program"] ["self", "cells", "programs"] (defScope sFieldInit) := ⟨rfl, rfl, rfl, by decide +kernel, rfl, by decide +kernel, by decide +kernel⟩
theorem ok_fieldinit {f fA fP fR C CF : Addr} {fd fdA fdP fdR : FuncData} (F : Fun K "__init__" "Field.__init__" sFieldInit f fd) (TF : TxtF K CF) (clC : Cls K C)
    (GA : FnOk P w K mg base CX0 2 fA fdA ["value"] spAreCells) (mA : mg "are_cells" = some (.ref fA)) (kA : PySem.W.keepIn K (.ref fA) = true) (bA : L2.Binds K fdA ["value"] [])
    (GP : FnOk P w K mg base CX0 3 fP fdP ["value", "cells"] (spArePrograms C)) (mP : mg "are_programs" = some (.ref fP)) (kP : PySem.W.keepIn K (.ref fP) = true) (bP : L2.Binds K fdP ["value", "cells"] [])
    (rm : Meth K C "rows" fR) (GR : FnOk P w K mg base CX0 2 fR fdR ["self"] (spProgRows C)) (bR : L2.Binds K fdR ["self"] [])
    (tt : mg "tuple" = none) (ts : mg "sorted" = none) :
    FnOk P w K mg base CX0 4 f fd ["self", "cells", "programs"] (spFieldInit C CF) := by
  refine F.ok scFieldInit (fun vs H Q E h => ?_) (fun cdv A outer s H vs Q E hr h => ?_)
  · obtain ⟨f, dx, l, q, zs, ps, rss, rfl, _⟩ := h
    rfl
  · have hr2 : Room 2 _ := hr.mono (by decide)
    refine ⟨_, pss_cons (ps_if (pt_not (pt_val (pe_call GA hr2 rfl mA kA bA .nil pass0 (pa_cons (pv 1) pa_nil)))) (pss_one ps_never) pss_nil)
      (pss_cons (ps_if (pt_not (pt_val (pe_call GP hr rfl mP kP bP .nil pass0 (pa_cons (pv 2) (pa_cons (pv 1) pa_nil))))) (pss_one ps_never) pss_nil)
      (pss_cons (ps_fld (pv 0) (pe_callTy call_tupleZ (by rfl) tt (by decide +kernel) (pa_cons (pe_callB cr_sortedS (by rfl) ts (by decide +kernel) (pa_cons (pv 1) pa_nil)) pa_nil)) rfl)
      (pss_cons (ps_fld (pv 0) (pe_callTy call_tuple_of (by rfl) tt (by decide +kernel) (pa_cons (pv 2) pa_nil)) rfl)
      (pss_one (ps_fld (pv 0) (pe_callTy call_tuple_of (by rfl) tt (by decide +kernel) (pa_cons (pe_lc (own := [("program", 3)]) (g := gName 3) (by rfl) scFieldInit.nd (pi_tup (pe_fld (pv 0) rfl)) (blkOk_by (own := [("program", 3)]) (N := ["self", "cells", "programs", "program"]) (sc := defScope sFieldInit) (by decide +kernel)) (fun _ _ _ _ _ => pg_name (i := 3) scFieldInit.nd rfl (Or.inl rfl)) (fun _ _ _ _ _ => pts_nil) (fun _ _ _ _ _ => pe_meth0 (pv 3) clC rm GR hr2 bR .nil pass0)) pa_nil)) rfl))))), ?_⟩
    obtain ⟨f, dx, l, q, zs, ps, rss, rfl, hf, hl, zo, nd, z5, hq, pr, p1, p5, k⟩ := h
    have nlf : l ≠ f := ne_of hl hf (by intro z; cases z)
    have nqf : q ≠ f := ne_of hq hf (by intro z; cases z)
    refine ⟨_, rfl, l, zs, rfl, hl, zo, nd, z5, fun H1 s1 => ⟨_, rfl, iteF ?_⟩⟩
    refine ⟨_, rfl, _, rfl, q, l, zs, ps, rss, rfl, s1 _ _ hl, s1 _ _ hq, L2.Paired.mapP pr fun p rs e => ⟨e.1.mono s1, e.2.1, e.2.2.2⟩, p1, p5, fun H2 s2 => ⟨_, rfl, iteF ?_⟩⟩
    have s12 := same_tr s1 s2
    refine ⟨_, rfl, l, zs, rfl, SqL.of (s12 _ _ hl), by omega, fun cs q1 pm so hq1 => ⟨q1, _, rfl, SqL.of upd_same, fun T1 o1 ho1 hT1 => ?_⟩⟩
    have s3 := same_tr (same_tr s12 (same_new (o := .lst (cs.map V.str)) hq1)) (same_new (o := .frz o1 (.tup (cs.map V.str))) hT1)
    have t1 : (upd (upd H2 q1 (.lst (cs.map V.str))) T1 (.frz o1 (.tup (cs.map V.str)))) T1 = some (.frz o1 (.tup (cs.map V.str))) := upd_same
    revert s3 t1
    generalize upd (upd H2 q1 (.lst (cs.map V.str))) T1 (.frz o1 (.tup (cs.map V.str))) = H3
    intro s3 t1
    refine ⟨_, rfl, f, CF, dx, _, rfl, s3 _ _ hf, TF.cl, TF.n1, (by show 0 < 1000; decide), ?_⟩
    have f4 : (upd H3 f (.ins CF dx (putF "_cells" (.ref T1) []))) f = some (.ins CF dx [("_cells", .ref T1)]) := upd_same
    have k4 : ∀ b o, H3 b = some o → b ≠ f → (upd H3 f (.ins CF dx (putF "_cells" (.ref T1) []))) b = some o := fun b o e n => by rw [upd_ne n]; exact e
    revert f4 k4
    generalize upd H3 f (.ins CF dx (putF "_cells" (.ref T1) [])) = H4
    intro f4 k4
    have nT1f : T1 ≠ f := ne_of t1 (s3 _ _ hf) (by intro z; cases z)
    refine ⟨_, rfl, q, _, rfl, .inl ⟨SqL.of (k4 _ _ (s3 _ _ hq) nqf), fun T2 hT2 => ?_⟩⟩
    have nT2f : f ≠ T2 := ne_of_none f4 hT2
    refine ⟨_, rfl, f, CF, dx, _, rfl, by rw [upd_ne nT2f]; exact f4, TF.cl, TF.n2, (by show 1 < 1000; decide), ?_⟩
    have f5 : (upd (upd H4 T2 (.tup (ps.map V.ref))) f (.ins CF dx (putF "_programs" (.ref T2) [("_cells", .ref T1)]))) f = some (.ins CF dx [("_cells", .ref T1), ("_programs", .ref T2)]) := upd_same
    have t2 : (upd (upd H4 T2 (.tup (ps.map V.ref))) f (.ins CF dx (putF "_programs" (.ref T2) [("_cells", .ref T1)]))) T2 = some (.tup (ps.map V.ref)) := by rw [upd_ne nT2f.symm, upd_same]
    have k5 : ∀ b o, H4 b = some o → b ≠ f → (upd (upd H4 T2 (.tup (ps.map V.ref))) f (.ins CF dx (putF "_programs" (.ref T2) [("_cells", .ref T1)]))) b = some o := fun b o e n => by rw [upd_ne n, upd_ne (ne_of_none e hT2)]; exact e
    revert f5 t2 k5
    generalize upd (upd H4 T2 (.tup (ps.map V.ref))) f (.ins CF dx (putF "_programs" (.ref T2) [("_cells", .ref T1)])) = H5
    intro f5 t2 k5
    have k05 : ∀ b o, H b = some o → b ≠ f → H5 b = some o := fun b o e n => k5 _ _ (k4 _ _ (s3 _ _ e) n) n
    have t15 := k5 _ _ (k4 _ _ t1 nT1f) nT1f
    refine ⟨_, rfl, f, CF, dx, _, _, rfl, f5, TF.cl, TF.n2, rfl, T2, rfl, ⟨_, SqT.of t2⟩, fun D hD => ?_⟩
    refine lc_tup (K := K) (a := T2) (xs := ps.map V.ref) (fun i H6 => ∃ ls : List Addr, H6 D = some (.lst (ls.map V.ref)) ∧ Paired (fun l rs => (∃ rs2, RowsAt H6 rs2 l ∧ Paired RSim rs rs2) ∧ D ≠ l) ls (rss.take i) ∧ Same H5 H6)
      ⟨[], upd_same, .nil, same_new hD⟩ (fun i H6 _ ⟨_, _, _, e⟩ => SqT.of (e _ _ t2)) ?_ ?_
    · rintro i x H6 hi ⟨ls, hD6, pl, s6⟩
      rw [List.getElem?_map] at hi
      obtain ⟨p, hp, rfl⟩ := Option.map_eq_some_iff.mp hi
      obtain ⟨rs, hrs, pa, n60, low, cs'⟩ := paired_at pr hp
      have il : i < 5 := Nat.lt_of_lt_of_le (List.getElem?_eq_some_iff.mp hp).1 p5
      have pa6 : ProgAt C H6 p rs := (pa.keep hf k05).mono s6
      have pa6' := pa6
      obtain ⟨dxp, Tp, as, rs', h1, _⟩ := pa6'
      have lsl : ls.length ≤ 5 := by
        have := pl.length
        rw [List.length_take] at this
        omega
      have tk : rss.take (i + 1) = rss.take i ++ [rs] := by rw [List.take_add_one, hrs]; rfl
      refine ⟨rfl, tyes_if ?_⟩
      refine ⟨_, rfl, p, dxp, _, rfl, h1, rfl, p, rs, rfl, pa6, low, n60, fun q2 rs2 H7 s7 hq2 ra sm => ?_⟩
      have hD7 := s7 _ _ hD6
      have nDq : D ≠ q2 := ne_of_none hD6 hq2
      refine ⟨ls.map V.ref, hD7, small (by rw [List.length_map]; omega), ls ++ [q2], by rw [upd_same, List.map_append]; rfl, ?_, same_put (same_tr s6 s7) hD⟩
      rw [tk]
      refine Paired.snoc (L2.Paired.mapP pl fun l rs e => ?_) ⟨⟨rs2, ra.put hD7 nDq, sm⟩, nDq⟩
      obtain ⟨⟨r2, x1, x2⟩, x3⟩ := e
      exact ⟨⟨r2, (x1.same s7).put hD7 x3, x2⟩, x3⟩
    · rintro H6 ⟨ls, hD6, pl, s6⟩
      have len : ps.length = rss.length := pr.length
      rw [List.length_map, len, List.take_length] at pl
      refine ⟨D, _, rfl, .inl ⟨SqL.of hD6, fun T3 hT3 => ?_⟩⟩
      have f6 := s6 _ _ f5
      have nT3f : f ≠ T3 := ne_of_none f6 hT3
      refine ⟨_, rfl, f, CF, dx, _, rfl, by rw [upd_ne nT3f]; exact f6, TF.cl, TF.n3, (by show 2 < 1000; decide), ?_⟩
      have k7 : ∀ b o, H6 b = some o → b ≠ f → (upd (upd H6 T3 (.tup (ls.map V.ref))) f (.ins CF dx (putF "_tables" (.ref T3) [("_cells", .ref T1), ("_programs", .ref T2)]))) b = some o := fun b o e n => by rw [upd_ne n, upd_ne (ne_of_none e hT3)]; exact e
      have nf6 : ∀ {b : Addr} {o : HO}, H6 b = some o → (∀ C dx fs, o ≠ .ins C dx fs) → b ≠ f := fun e n => ne_of e f6 (n _ _ _)
      refine k cs _ pm so (fun b o e n => k7 _ _ (s6 _ _ (k05 _ _ e n)) n) ⟨dx, T1, T2, T3, ps, ls, upd_same, ⟨o1, ho1, k7 _ _ (s6 _ _ t15) nT1f⟩, k7 _ _ (s6 _ _ t2) nT2f.symm, by rw [upd_ne nT3f.symm, upd_same], len, L2.Paired.mapP pl fun l rs e => ?_⟩
      obtain ⟨⟨r2, ⟨as, a1, a2⟩, x2⟩, _⟩ := e
      exact ⟨r2, ⟨as, k7 _ _ a1 (nf6 a1 fun _ _ _ z => by cases z), L2.Paired.mapP a2 fun a r q => q.mono (fun b xs x => k7 _ _ x (nf6 x fun _ _ _ z => by cases z)) fun b xs x => k7 _ _ x (nf6 x fun _ _ _ z => by cases z)⟩, x2⟩
end
end CC

set_option Elab.async false
set_option maxRecDepth 100000
namespace CC
open PySem PySem.Spec PyProof.Rows L2
set_option linter.unusedVariables false
abbrev sFieldStart : Stmt := inClass (top 36) 5
abbrev sFieldStep : Stmt := inClass (top 36) 6
/-- a state: two tuples -/
def StateAt (H : Hp) (t : Addr) (ns : List Nat) (ws : List Int) : Prop := ∃ a b, H t = some (.tup [.ref a, .ref b]) ∧ H a = some (.tup (ns.map fun n => V.int (n : Nat))) ∧ H b = some (.tup (ws.map V.int))
theorem StateAt.mono {H H' : Hp} {t : Addr} {ns : List Nat} {ws : List Int} (h : StateAt H t ns ws) (s : Same H H') : StateAt H' t ns ws := by
  obtain ⟨a, b, h1, h2, h3⟩ := h
  exact ⟨a, b, s _ _ h1, s _ _ h2, s _ _ h3⟩
theorem FieldAt.mono {CF : Addr} {H H' : Hp} {f : Addr} {cs : List Str} {rss : List (List Row)} (h : FieldAt CF H f cs rss) (s : Same H H') : FieldAt CF H' f cs rss := by
  obtain ⟨dx, T1, T2, T3, ps, ls, h1, h2, h3, h4, h5, h6⟩ := h
  exact ⟨dx, T1, T2, T3, ps, ls, s _ _ h1, h2.mono s, s _ _ h3, s _ _ h4, h5, L2.Paired.mapP h6 fun l rs ⟨r2, a, b⟩ => ⟨r2, a.same s, b⟩⟩
/-- where a cell stands -/
def cellIx (cs : List Str) (c : Str) : Nat := cs.findIdx fun x => decide (x = c)
def caseOf (cases : List (Int × Nat)) (v : Int) (m : Nat) : Nat := ((cases.find? fun kv => decide (kv.1 = v)).map (·.2)).getD m
def Row.to_ (cs : List Str) (ws : List Int) : Row → Nat
  | .rest m => m
  | .ins m => m
  | .wr _ _ m => m
  | .rd c cases m => caseOf cases (ws.getD (cellIx cs c) 0) m
def Row.put_ (cs : List Str) (ws : List Int) : Row → List Int
  | .wr c v _ => ws.set (cellIx cs c) v
  | _ => ws
def rowAt (rss : List (List Row)) (ns : List Nat) (i : Nat) : Row := ((rss.getD i []).getD (ns.getD i 0) (.rest 0))
def stepN (cs : List Str) (rss : List (List Row)) (ns : List Nat) (ws : List Int) (i : Nat) : List Nat := ns.set i ((rowAt rss ns i).to_ cs ws)
def stepW (cs : List Str) (rss : List (List Row)) (ns : List Nat) (ws : List Int) (i : Nat) : List Int := (rowAt rss ns i).put_ cs ws
/-- a state of a field: as many numbers as threads, each below the number of its rows; as many worths as cells -/
structure Fits (cs : List Str) (rss : List (List Row)) (ns : List Nat) (ws : List Int) : Prop where
  len : ns.length = rss.length
  low : ∀ (i : Nat) (rs : List Row) (n : Nat), rss[i]? = some rs → ns[i]? = some n → n < rs.length
  wlen : ws.length = cs.length
/-- the rows of a field: numbers low, cells known -/
def RowsIn (cs : List Str) (rss : List (List Row)) : Prop := ∀ rs ∈ rss, ∀ r ∈ rs, r.low rs.length ∧ ∀ c, cellOf r = some c → c ∈ cs
theorem cellIx_at {cs : List Str} {c : Str} (h : c ∈ cs) : cs[cellIx cs c]? = some c ∧ ∀ m, m < cellIx cs c → cs[m]? ≠ some c := by
  unfold cellIx
  have lt : cs.findIdx (fun x => decide (x = c)) < cs.length := List.findIdx_lt_length_of_exists ⟨c, h, decide_eq_true rfl⟩
  have e := List.findIdx_getElem (w := lt)
  refine ⟨?_, fun m hm z => ?_⟩
  · rw [List.getElem?_eq_getElem lt]
    exact congrArg some (of_decide_eq_true e)
  · have := List.not_of_lt_findIdx hm
    obtain ⟨hl, hz⟩ := List.getElem?_eq_some_iff.mp z
    rw [hz] at this
    simp at this
theorem cellIx_lt {cs : List Str} {c : Str} (h : c ∈ cs) : cellIx cs c < cs.length := (List.getElem?_eq_some_iff.mp (cellIx_at h).1).1
def spFieldStart (CF : Addr) : Sp := fun vs H Q _ => ∃ (f : Addr) (cs : List Str) (rss : List (List Row)), vs = [.ref f] ∧ FieldAt CF H f cs rss ∧ cs.length ≤ 5 ∧ rss.length ≤ 5 ∧ ∀ (t : Addr) (H' : Hp), Same H H' → StateAt H' t (List.replicate rss.length 0) (List.replicate cs.length 0) → Q (.ref t) H'
def spFieldStep (CF : Addr) : Sp := fun vs H Q _ => ∃ (f t : Addr) (cs : List Str) (rss : List (List Row)) (ns : List Nat) (ws : List Int) (i : Nat), vs = [.ref f, .ref t, .int (i : Nat)] ∧ FieldAt CF H f cs rss ∧ StateAt H t ns ws ∧ Fits cs rss ns ws ∧ RowsIn cs rss ∧ i < rss.length ∧
  ∀ (t' : Addr) (H' : Hp), Same H H' → StateAt H' t' (stepN cs rss ns ws i) (stepW cs rss ns ws i) → Q (.ref t') H'
section
variable {P : Program} {w : World} {K : PySem.W.Frag} {mg : Str → Option Value} {base : Heap}
theorem scFieldStart : FnScope ["self", "_"] ["self"] (defScope sFieldStart) := ⟨rfl, rfl, rfl, by decide +kernel, rfl, by decide +kernel, by decide +kernel⟩
theorem ok_fieldstart {f CF : Addr} {fd : FuncData} (F : Fun K "start" "Field.start" sFieldStart f fd) (TF : TxtF K CF) (tt : mg "tuple" = none) :
    FnOk P w K mg base CX0 1 f fd ["self"] (spFieldStart CF) := by
  refine F.ok scFieldStart (fun vs H Q E h => ?_) (fun cdv A outer s H vs Q E hr h => ?_)
  · obtain ⟨f, cs, rss, rfl, _⟩ := h
    rfl
  · refine ⟨_, pss_one (ps_ret (pe_tup (pa_cons (pe_callTy call_tuple_of (by rfl) tt (by decide +kernel) (pa_cons (pe_lc (own := [("_", 1)]) (g := gName 1) (by rfl) scFieldStart.nd (pi_tup (pe_fld (pv 0) rfl)) (blkOk_by (own := [("_", 1)]) (N := ["self", "_"]) (sc := defScope sFieldStart) (by decide +kernel)) (fun _ _ _ _ _ => pg_name (i := 1) scFieldStart.nd rfl (Or.inl rfl)) (fun _ _ _ _ _ => pts_nil) (fun _ _ _ _ _ => pe_int)) pa_nil))
      (pa_cons (pe_callTy call_tuple_of (by rfl) tt (by decide +kernel) (pa_cons (pe_lc (own := [("_", 1)]) (g := gName 1) (by rfl) scFieldStart.nd (pi_tup (pe_fld (pv 0) rfl)) (blkOk_by (own := [("_", 1)]) (N := ["self", "_"]) (sc := defScope sFieldStart) (by decide +kernel)) (fun _ _ _ _ _ => pg_name (i := 1) scFieldStart.nd rfl (Or.inl rfl)) (fun _ _ _ _ _ => pts_nil) (fun _ _ _ _ _ => pe_int)) pa_nil)) pa_nil)))), ?_⟩
    obtain ⟨f, cs, rss, rfl, hf, c5, r5, k⟩ := h
    obtain ⟨dx, T1, T2, T3, ps, ls, h1, h2, h3, h4, h5, h6⟩ := hf
    refine ⟨_, rfl, f, CF, dx, _, _, rfl, h1, TF.cl, TF.n2, rfl, T2, rfl, ⟨_, SqT.of h3⟩, fun D hD => ?_⟩
    refine lc_tup (K := K) (a := T2) (xs := ps.map V.ref) (fun i H2 => H2 D = some (.lst ((List.replicate i 0).map fun (n : Nat) => V.int (n : Nat))) ∧ Same H H2) ⟨upd_same, same_new hD⟩ (fun i H2 _ ⟨_, e⟩ => SqT.of (e _ _ h3)) ?_ ?_
    · rintro i x H2 hi ⟨hD2, s2⟩
      have il := (List.getElem?_eq_some_iff.mp hi).1
      rw [List.length_map] at il
      refine ⟨rfl, tyes_if ⟨_, hD2, small (by rw [List.length_map, List.length_replicate]; omega), ?_, same_put s2 hD⟩⟩
      rw [upd_same, List.replicate_succ', List.map_append]
      rfl
    · rintro H2 ⟨hD2, s2⟩
      rw [List.length_map, h5] at hD2
      refine ⟨D, _, rfl, .inl ⟨SqL.of hD2, fun A1 hA1 => ?_⟩⟩
      have s3 := same_tr s2 (same_new (o := .tup ((List.replicate rss.length 0).map fun (n : Nat) => V.int (n : Nat))) hA1)
      have a1 : (upd H2 A1 (.tup ((List.replicate rss.length 0).map fun (n : Nat) => V.int (n : Nat)))) A1 = some (.tup ((List.replicate rss.length 0).map fun (n : Nat) => V.int (n : Nat))) := upd_same
      revert s3 a1
      generalize upd H2 A1 (.tup ((List.replicate rss.length 0).map fun (n : Nat) => V.int (n : Nat))) = H3
      intro s3 a1
      refine ⟨_, rfl, f, CF, dx, _, _, rfl, s3 _ _ h1, TF.cl, TF.n1, rfl, T1, rfl, ⟨_, (h2.mono s3).sq⟩, fun D2 hD2' => ?_⟩
      refine lc_tup (K := K) (a := T1) (xs := cs.map V.str) (fun i H4 => H4 D2 = some (.lst ((List.replicate i (0 : Int)).map V.int)) ∧ Same H3 H4) ⟨upd_same, same_new hD2'⟩ (fun i H4 _ ⟨_, e⟩ => ((h2.mono s3).mono e).sq) ?_ ?_
      · rintro i x H4 hi ⟨hD4, s4⟩
        have il := (List.getElem?_eq_some_iff.mp hi).1
        rw [List.length_map] at il
        refine ⟨rfl, tyes_if ⟨_, hD4, small (by rw [List.length_map, List.length_replicate]; omega), ?_, same_put s4 hD2'⟩⟩
        rw [upd_same, List.replicate_succ', List.map_append]
        rfl
      · rintro H4 ⟨hD4, s4⟩
        rw [List.length_map] at hD4
        refine ⟨D2, _, rfl, .inl ⟨SqL.of hD4, fun A2 hA2 => ⟨(by show 2 ≤ sizeLine; decide), fun t ht => ?_⟩⟩⟩
        have s5 := same_tr (same_tr s4 (same_new (o := .tup ((List.replicate cs.length (0 : Int)).map V.int)) hA2)) (same_new (o := .tup [V.ref A1, V.ref A2]) ht)
        exact k t _ (same_tr s3 s5) ⟨A1, A2, upd_same, s5 _ _ a1, same_new ht _ _ upd_same⟩
end
end CC

set_option Elab.async false
set_option maxRecDepth 100000
namespace CC
open PySem PySem.Spec PyProof.Rows L2
set_option linter.unusedVariables false
theorem caseOf_in {cs : List (Int × Nat)} {v : Int} {m : Nat} (h : v ∈ cs.map (·.1)) : caseOf cs v m = look cs v := by
  unfold caseOf look
  cases e : cs.find? (fun kv => decide (kv.1 = v)) with
  | none =>
    rw [List.find?_eq_none] at e
    obtain ⟨kv, hk, rfl⟩ := List.mem_map.mp h
    exact absurd (decide_eq_true rfl) (e kv hk)
  | some x => rfl
theorem caseOf_out {cs : List (Int × Nat)} {v : Int} {m : Nat} (h : v ∉ cs.map (·.1)) : caseOf cs v m = m := by
  unfold caseOf
  rw [List.find?_eq_none.mpr fun kv hk z => h (List.mem_map.mpr ⟨kv, hk, of_decide_eq_true z⟩)]
  rfl
theorem caseOf_perm {cs cs' : List (Int × Nat)} {v : Int} {m : Nat} (nd : (cs.map (·.1)).Nodup) (p : cs.Perm cs') : caseOf cs v m = caseOf cs' v m := by
  by_cases h : v ∈ cs.map (·.1)
  · have h' := (p.map (·.1)).mem_iff.mp h
    rw [caseOf_in h, caseOf_in h']
    exact nodup_val nd (look_mem h) (p.mem_iff.mpr (look_mem h'))
  · rw [caseOf_out h, caseOf_out fun z => h ((p.map (·.1)).mem_iff.mpr z)]
theorem valV_case {cs : List (Int × Nat)} {v : Int} {m : Nat} (nd : (cs.map (·.1)).Nodup) : (valV (kvOf cs) (Sum.inl v : Key)).getD (V.int (m : Nat)) = V.int (caseOf cs v m : Nat) := by
  by_cases h : v ∈ cs.map (·.1)
  · rw [valV_mem nd (look_mem h), caseOf_in h]
    rfl
  · rw [valV_kv h, caseOf_out h]
    rfl
theorem rowAt_of {rss : List (List Row)} {ns : List Nat} {i n : Nat} {rs : List Row} {r : Row} (h1 : rss[i]? = some rs) (h2 : ns[i]? = some n) (h3 : rs[n]? = some r) : rowAt rss ns i = r := by
  unfold rowAt
  rw [List.getD_eq_getElem?_getD, List.getD_eq_getElem?_getD, List.getD_eq_getElem?_getD, h1, h2]
  show (rs[n]?).getD _ = r
  rw [h3]
  rfl
theorem ixN_nat {n j : Nat} (hj : j < n) : ixN n (j : Int) = some j := by
  unfold ixN
  rw [if_pos (by omega), if_pos (by omega)]
  simp
theorem map_set {α β : Type} (f : α → β) (l : List α) (i : Nat) (a : α) : (l.map f).set i (f a) = (l.set i a).map f := by
  rw [List.map_set]
section
variable {P : Program} {w : World} {K : PySem.W.Frag} {mg : Str → Option Value} {base : Heap}
theorem scFieldStep : FnScope ["self", "state", "thread", "numbers", "worths", "row"] ["self", "state", "thread"] (defScope sFieldStep) := ⟨rfl, rfl, rfl, by decide +kernel, rfl, by decide +kernel, by decide +kernel⟩
theorem ok_fieldstep {f CF : Addr} {fd : FuncData} (F : Fun K "step" "Field.step" sFieldStep f fd) (TF : TxtF K CF) (tt : mg "tuple" = none) (tl : mg "list" = none) :
    FnOk P w K mg base CX0 1 f fd ["self", "state", "thread"] (spFieldStep CF) := by
  refine F.ok scFieldStep (fun vs H Q E h => ?_) (fun cdv A outer s H vs Q E hr h => ?_)
  · obtain ⟨f, t, cs, rss, ns, ws, i, rfl, _⟩ := h
    rfl
  · have hu := hu_of hr
    refine ⟨_, pss_cons (ps_set (i := 3) scFieldStep.nd rfl (.inl rfl) (pe_callTy call_list_of (by rfl) tl (by decide +kernel) (pa_cons (pe_ix ix_tup (pv 1) pe_int (fun _ _ => rfl)) pa_nil)))
      (pss_cons (ps_set (i := 4) scFieldStep.nd rfl (.inl rfl) (pe_callTy call_list_of (by rfl) tl (by decide +kernel) (pa_cons (pe_ix ix_tup (pv 1) pe_int (fun _ _ => rfl)) pa_nil)))
      (pss_cons (ps_set (i := 5) scFieldStep.nd rfl (.inl rfl) (pe_ix ix_list (pe_ix ix_tup (pe_fld (pv 0) rfl) (pv 2) (fun _ _ => rfl)) (pe_ix ix_list (pv 3) (pv 2) (fun _ _ => rfl)) (fun _ _ => rfl)))
      (pss_cons (ps_asg (pe_ix ix_tup (pv 5) (pe_un un_neg pe_int) (fun _ _ => rfl)) (pg_sub (pv 3) (pv 2) set_list))
      (pss_cons (ps_if (pt_cmpR op_eq (pe_ix ix_tup (pv 5) pe_int (fun _ _ => rfl)) pe_str (nomark _))
        (pss_one (ps_asg (pe_ix ix_tup (pv 5) pe_int (fun _ _ => rfl)) (pg_sub (pv 4) (pe_tm PySem.F.plainAttrs_tuple PySem.F.slot_tuple_index PySem.F.type_tuple_index mt_tup_index (pe_fld (pv 0) rfl) (pa_cons (pe_ix ix_tup (pv 5) pe_int (fun _ _ => rfl)) pa_nil)) set_list))) pss_nil)
      (pss_cons (ps_if (pt_cmpR op_eq (pe_ix ix_tup (pv 5) pe_int (fun _ _ => rfl)) pe_str (nomark _))
        (pss_one (ps_asg (pe_dget2 hu (pe_ix ix_tup (pv 5) pe_int (fun _ _ => rfl)) (pe_ix ix_list (pv 4) (pe_tm PySem.F.plainAttrs_tuple PySem.F.slot_tuple_index PySem.F.type_tuple_index mt_tup_index (pe_fld (pv 0) rfl) (pa_cons (pe_ix ix_tup (pv 5) pe_int (fun _ _ => rfl)) pa_nil)) (fun _ _ => rfl)) (pe_ix ix_tup (pv 5) pe_int (fun _ _ => rfl)) ⟨rfl, rfl, rfl, rfl⟩) (pg_sub (pv 3) (pv 2) set_list))) pss_nil)
      (pss_one (ps_ret (pe_tup (pa_cons (pe_callTy call_tuple_of (by rfl) tt (by decide +kernel) (pa_cons (pv 3) pa_nil)) (pa_cons (pe_callTy call_tuple_of (by rfl) tt (by decide +kernel) (pa_cons (pv 4) pa_nil)) pa_nil)))))))))), ?_⟩
    obtain ⟨f, t, cs, rss, ns, ws, i, rfl, hf, ht, fit, low, il, k⟩ := h
    obtain ⟨dx, T1, T2, T3, ps, ls, h1, h2, h3, h4, h5, h6⟩ := hf
    obtain ⟨a, b, t1, ta, tb⟩ := ht
    have iln : i < ns.length := by rw [fit.len]; exact il
    obtain ⟨n, hn⟩ : ∃ n, ns[i]? = some n := ⟨_, List.getElem?_eq_getElem iln⟩
    obtain ⟨rs, hrs⟩ : ∃ rs, rss[i]? = some rs := ⟨_, List.getElem?_eq_getElem il⟩
    obtain ⟨l, hl, ⟨r2s, ⟨as, hla, pas⟩, sim⟩⟩ := paired_at (paired_flip h6) hrs
    have nl := fit.low i rs n hrs hn
    obtain ⟨r, hrn⟩ : ∃ r, rs[n]? = some r := ⟨_, List.getElem?_eq_getElem nl⟩
    obtain ⟨r2, hr2, sm⟩ := paired_at sim hrn
    obtain ⟨ra, hra, rat⟩ := paired_at (paired_flip pas) hr2
    have re := rowAt_of hrs hn hrn
    obtain ⟨rlow, rcell⟩ := low rs (List.mem_of_getElem? hrs) r (List.mem_of_getElem? hrn)
    refine ⟨_, rfl, t, _, _, _, rfl, rfl, SqT.of t1, rfl, a, _, rfl, .inr (SqT.of ta), fun l1 hl1 => ?_⟩
    have s1 := same_new (o := .lst (ns.map fun n => V.int (n : Nat))) hl1
    have l11 : (upd H l1 (.lst (ns.map fun n => V.int (n : Nat)))) l1 = some (.lst (ns.map fun n => V.int (n : Nat))) := upd_same
    revert s1 l11
    generalize upd H l1 (.lst (ns.map fun n => V.int (n : Nat))) = H1
    intro s1 l11
    refine ⟨_, rfl, t, _, _, _, rfl, rfl, SqT.of (s1 _ _ t1), rfl, b, _, rfl, .inr (SqT.of (s1 _ _ tb)), fun l2 hl2 => ?_⟩
    have s2 := same_tr s1 (same_new (o := .lst (ws.map V.int)) hl2)
    have l12 := same_new (o := .lst (ws.map V.int)) hl2 _ _ l11
    have l22 : (upd H1 l2 (.lst (ws.map V.int))) l2 = some (.lst (ws.map V.int)) := upd_same
    have n12 : l1 ≠ l2 := ne_of_none l11 hl2
    have hl2' := s1.free hl2
    revert s2 l12 l22
    generalize upd H1 l2 (.lst (ws.map V.int)) = H2
    intro s2 l12 l22
    have inj : (ns.map fun n => V.int (n : Nat))[i]? = some (V.int (n : Nat)) := by rw [List.getElem?_map, hn]; rfl
    refine ⟨_, rfl, f, CF, dx, _, _, rfl, s2 _ _ h1, TF.cl, TF.n3, rfl, _, rfl, T3, _, _, _, rfl, rfl, SqT.of (s2 _ _ h4), atI_nat (by rw [List.getElem?_map, hl]; rfl), _, rfl, _, rfl, l1, _, _, _, rfl, rfl, SqL.of l12, atI_nat inj, l, _, _, _, rfl, rfl, SqL.of (s2 _ _ hla), atI_nat (by rw [List.getElem?_map, hra]; rfl), ?_⟩
    have fin : ∀ (ns' : List Nat) (ws' : List Int) (H3 : Hp), Same H H3 → ns' = stepN cs rss ns ws i → ws' = stepW cs rss ns ws i →
        ∀ A1 A2 t' : Addr, H3 A1 = none → (upd H3 A1 (.tup (ns'.map fun n => V.int (n : Nat)))) A2 = none → (upd (upd H3 A1 (.tup (ns'.map fun n => V.int (n : Nat)))) A2 (.tup (ws'.map V.int))) t' = none → Q (.ref t') (upd (upd (upd H3 A1 (.tup (ns'.map fun n => V.int (n : Nat)))) A2 (.tup (ws'.map V.int))) t' (.tup [.ref A1, .ref A2])) := fun ns' ws' H3 s3 en ew A1 A2 t' hA1 hA2 ht' => by
      have s4 := same_new (o := .tup (ns'.map fun n => V.int (n : Nat))) hA1
      have s5 := same_new (o := .tup (ws'.map V.int)) hA2
      have s6 := same_new (o := .tup [V.ref A1, V.ref A2]) ht'
      exact k t' _ (same_tr (same_tr (same_tr s3 s4) s5) s6) ⟨A1, A2, upd_same, by rw [← en]; exact s6 _ _ (s5 _ _ upd_same), by rw [← ew]; exact s6 _ _ upd_same⟩
    have put3 : ∀ m : Nat, (upd H2 l1 (.lst ((ns.map fun n => V.int (n : Nat)).set i (V.int (m : Nat))))) l1 = some (.lst ((ns.set i m).map fun n => V.int (n : Nat))) ∧ (upd H2 l1 (.lst ((ns.map fun n => V.int (n : Nat)).set i (V.int (m : Nat))))) l2 = some (.lst (ws.map V.int)) ∧ Same H (upd H2 l1 (.lst ((ns.map fun n => V.int (n : Nat)).set i (V.int (m : Nat))))) := fun m =>
      ⟨by rw [upd_same, List.map_set], by rw [upd_ne n12.symm]; exact l22, same_put s2 hl1⟩
    have ixl : ixN (ns.map fun n => V.int (n : Nat)).length (i : Int) = some i := ixN_nat (by rw [List.length_map]; exact iln)
    cases r2 with
    | rest m =>
      cases r <;> try exact sm.elim
      have rat' : H ra = some (.tup [.str "rest", .int (m : Nat)]) := rat
      obtain ⟨e1, e2, s3⟩ := put3 m
      refine ⟨_, rfl, _, rfl, ra, _, _, _, rfl, rfl, SqT.of (s2 _ _ rat'), rfl, _, rfl, _, rfl, l1, _, _, i, rfl, rfl, l12, ixl, ?_⟩
      refine ⟨_, rfl, ra, _, _, _, rfl, rfl, SqT.of (s3 _ _ rat'), rfl, rfl, _, rfl, ite_no (decide_eq_false (by intro z; cases z)) ?_⟩
      refine ⟨_, rfl, ra, _, _, _, rfl, rfl, SqT.of (s3 _ _ rat'), rfl, rfl, _, rfl, ite_no (decide_eq_false (by intro z; cases z)) ?_⟩
      have em : _ = m := sm
      exact ⟨_, rfl, l1, _, rfl, .inl ⟨SqL.of e1, fun A1 hA1 => ⟨_, rfl, l2, _, rfl, .inl ⟨SqL.of (same_new hA1 _ _ e2), fun A2 hA2 => ⟨(by show 2 ≤ sizeLine; decide), fun t' ht' => fin (ns.set i m) ws _ s3 (by unfold stepN; rw [re, ← em]; rfl) (by unfold stepW; rw [re]; rfl) A1 A2 t' hA1 hA2 ht'⟩⟩⟩⟩⟩
    | ins m =>
      cases r <;> try exact sm.elim
      have rat' : H ra = some (.tup [.str "inside", .int (m : Nat)]) := rat
      obtain ⟨e1, e2, s3⟩ := put3 m
      refine ⟨_, rfl, _, rfl, ra, _, _, _, rfl, rfl, SqT.of (s2 _ _ rat'), rfl, _, rfl, _, rfl, l1, _, _, i, rfl, rfl, l12, ixl, ?_⟩
      refine ⟨_, rfl, ra, _, _, _, rfl, rfl, SqT.of (s3 _ _ rat'), rfl, rfl, _, rfl, ite_no (decide_eq_false (by intro z; cases z)) ?_⟩
      refine ⟨_, rfl, ra, _, _, _, rfl, rfl, SqT.of (s3 _ _ rat'), rfl, rfl, _, rfl, ite_no (decide_eq_false (by intro z; cases z)) ?_⟩
      have em : _ = m := sm
      exact ⟨_, rfl, l1, _, rfl, .inl ⟨SqL.of e1, fun A1 hA1 => ⟨_, rfl, l2, _, rfl, .inl ⟨SqL.of (same_new hA1 _ _ e2), fun A2 hA2 => ⟨(by show 2 ≤ sizeLine; decide), fun t' ht' => fin (ns.set i m) ws _ s3 (by unfold stepN; rw [re, ← em]; rfl) (by unfold stepW; rw [re]; rfl) A1 A2 t' hA1 hA2 ht'⟩⟩⟩⟩⟩
    | wr c v m =>
      cases r <;> try exact sm.elim
      obtain ⟨rfl, rfl, rfl⟩ := sm
      rename_i c v m
      have rat' : H ra = some (.tup [.str "write", .str c, .int v, .int (m : Nat)]) := rat
      obtain ⟨e1, e2, s3⟩ := put3 m
      have cin := rcell c rfl
      obtain ⟨jx1, jx2⟩ := cellIx_at cin
      refine ⟨_, rfl, _, rfl, ra, _, _, _, rfl, rfl, SqT.of (s2 _ _ rat'), rfl, _, rfl, _, rfl, l1, _, _, i, rfl, rfl, l12, ixl, ?_⟩
      refine ⟨_, rfl, ra, _, _, _, rfl, rfl, SqT.of (s3 _ _ rat'), rfl, rfl, _, rfl, ite_yes (decide_eq_true rfl) ?_⟩
      refine ⟨_, rfl, ra, _, _, _, rfl, rfl, SqT.of (s3 _ _ rat'), rfl, _, rfl, _, rfl, f, CF, dx, _, _, rfl, s3 _ _ h1, TF.cl, TF.n1, rfl, ⟨T1, _, rfl, h2.mono s3⟩, _, rfl, ra, _, _, _, rfl, rfl, SqT.of (s3 _ _ rat'), rfl, T1, cs, c, cellIx cs c, rfl, rfl, (h2.mono s3).sq, jx1, jx2, l2, _, _, cellIx cs c, rfl, rfl, e2, ixN_nat (by rw [List.length_map, fit.wlen]; exact cellIx_lt cin), ?_⟩
      have s4 := same_put (o := .lst ((ws.map V.int).set (cellIx cs c) (V.int v))) s3 hl2'
      refine ⟨_, rfl, ra, _, _, _, rfl, rfl, SqT.of (s4 _ _ rat'), rfl, rfl, _, rfl, ite_no (decide_eq_false (by intro z; cases z)) ?_⟩
      have e3 : (upd (upd H2 l1 (.lst ((ns.map fun n => V.int (n : Nat)).set i (V.int (m : Nat))))) l2 (.lst ((ws.map V.int).set (cellIx cs c) (V.int v)))) l1 = some (.lst ((ns.set i m).map fun n => V.int (n : Nat))) := by rw [upd_ne n12]; exact e1
      have e4 : (upd (upd H2 l1 (.lst ((ns.map fun n => V.int (n : Nat)).set i (V.int (m : Nat))))) l2 (.lst ((ws.map V.int).set (cellIx cs c) (V.int v)))) l2 = some (.lst ((ws.set (cellIx cs c) v).map V.int)) := by rw [upd_same, List.map_set]
      exact ⟨_, rfl, l1, _, rfl, .inl ⟨SqL.of e3, fun A1 hA1 => ⟨_, rfl, l2, _, rfl, .inl ⟨SqL.of (same_new hA1 _ _ e4), fun A2 hA2 => ⟨(by show 2 ≤ sizeLine; decide), fun t' ht' => fin (ns.set i m) (ws.set (cellIx cs c) v) _ s4 (by unfold stepN; rw [re]; rfl) (by unfold stepW; rw [re]; rfl) A1 A2 t' hA1 hA2 ht'⟩⟩⟩⟩⟩
    | rd c cs2 m =>
      cases r <;> try exact sm.elim
      obtain ⟨rfl, pm, rfl⟩ := sm
      rename_i c cs1 m
      obtain ⟨d, rat', rdd⟩ := rat
      obtain ⟨e1, e2, s3⟩ := put3 m
      have cin := rcell c rfl
      obtain ⟨jx1, jx2⟩ := cellIx_at cin
      have nd1 : (cs1.map (·.1)).Nodup := rlow.1
      have nd2 : (cs2.map (·.1)).Nodup := (pm.map (·.1)).nodup_iff.mp nd1
      obtain ⟨wv, hwv⟩ : ∃ wv, ws[cellIx cs c]? = some wv := ⟨_, List.getElem?_eq_getElem (by rw [fit.wlen]; exact cellIx_lt cin)⟩
      refine ⟨_, rfl, _, rfl, ra, _, _, _, rfl, rfl, SqT.of (s2 _ _ rat'), rfl, _, rfl, _, rfl, l1, _, _, i, rfl, rfl, l12, ixl, ?_⟩
      refine ⟨_, rfl, ra, _, _, _, rfl, rfl, SqT.of (s3 _ _ rat'), rfl, rfl, _, rfl, ite_no (decide_eq_false (by intro z; cases z)) ?_⟩
      refine ⟨_, rfl, ra, _, _, _, rfl, rfl, SqT.of (s3 _ _ rat'), rfl, rfl, _, rfl, ite_yes (decide_eq_true rfl) ?_⟩
      refine ⟨_, rfl, ra, _, _, _, rfl, rfl, SqT.of (s3 _ _ rat'), rfl, d, rfl, .inl ⟨_, .inl (s3 _ _ rdd)⟩, _, rfl, _, rfl, f, CF, dx, _, _, rfl, s3 _ _ h1, TF.cl, TF.n1, rfl, ⟨T1, _, rfl, h2.mono s3⟩, _, rfl, ra, _, _, _, rfl, rfl, SqT.of (s3 _ _ rat'), rfl, T1, cs, c, cellIx cs c, rfl, rfl, (h2.mono s3).sq, jx1, jx2, l2, _, _, _, rfl, rfl, SqL.of e2, atI_nat (by rw [List.getElem?_map, hwv]; rfl), _, rfl, ra, _, _, _, rfl, rfl, SqT.of (s3 _ _ rat'), rfl, _, DGet.k (k := Sum.inl wv) (s3 _ _ rdd), _, rfl, _, rfl, l1, _, _, i, rfl, rfl, e1, ixN_nat (by rw [List.length_map, List.length_set]; exact iln), ?_⟩
      rw [valV_case nd2]
      have s4 := same_put (o := .lst (((ns.set i m).map fun n => V.int (n : Nat)).set i (V.int (caseOf cs2 wv m : Nat)))) s3 hl1
      have e3 : (upd (upd H2 l1 (.lst ((ns.map fun n => V.int (n : Nat)).set i (V.int (m : Nat))))) l1 (.lst (((ns.set i m).map fun n => V.int (n : Nat)).set i (V.int (caseOf cs2 wv m : Nat))))) l1 = some (.lst (((ns.set i m).set i (caseOf cs2 wv m)).map fun n => V.int (n : Nat))) := by rw [upd_same, List.map_set (a := caseOf cs2 wv m)]
      have e4 : (upd (upd H2 l1 (.lst ((ns.map fun n => V.int (n : Nat)).set i (V.int (m : Nat))))) l1 (.lst (((ns.set i m).map fun n => V.int (n : Nat)).set i (V.int (caseOf cs2 wv m : Nat))))) l2 = some (.lst (ws.map V.int)) := by rw [upd_ne n12.symm]; exact e2
      exact ⟨_, rfl, l1, _, rfl, .inl ⟨SqL.of e3, fun A1 hA1 => ⟨_, rfl, l2, _, rfl, .inl ⟨SqL.of (same_new hA1 _ _ e4), fun A2 hA2 => ⟨(by show 2 ≤ sizeLine; decide), fun t' ht' => fin ((ns.set i m).set i (caseOf cs2 wv m)) ws _ s4 (by unfold stepN; rw [re, List.set_set]; show ns.set i _ = ns.set i (caseOf cs1 (ws.getD (cellIx cs c) 0) m); rw [caseOf_perm nd1 pm, List.getD_eq_getElem?_getD, hwv]; rfl) (by unfold stepW; rw [re]; rfl) A1 A2 t' hA1 hA2 ht'⟩⟩⟩⟩⟩
end
end CC

set_option Elab.async false
set_option maxRecDepth 100000
namespace CC
open PySem PySem.Spec PyProof.Rows L2 RZ
set_option linter.unusedVariables false
abbrev sFieldStanding : Stmt := inClass (top 36) 7
abbrev sFieldInside : Stmt := inClass (top 36) 8
abbrev sFieldResting : Stmt := inClass (top 36) 9
abbrev sFieldWriting : Stmt := inClass (top 36) 10
def Row.word : Row → Str
  | .rest _ => "rest"
  | .ins _ => "inside"
  | .wr _ _ _ => "write"
  | .rd _ _ _ => "read"
theorem word_sim {r r2 : Row} (h : RSim r r2) : r2.word = r.word := by
  cases r <;> cases r2 <;> first | rfl | exact h.elim
theorem RowAt.head {H : Hp} {r : Row} {a : Addr} (h : RowAt H r a) : ∃ xs, H a = some (.tup (V.str r.word :: xs)) := by
  cases r with
  | rest m => exact ⟨_, h⟩
  | ins m => exact ⟨_, h⟩
  | wr c v m => exact ⟨_, h⟩
  | rd c cs m =>
    obtain ⟨d, h, _⟩ := h
    exact ⟨_, h⟩
def rowsTo (rss : List (List Row)) (ns : List Nat) (i : Nat) : List Row := (List.range i).map (rowAt rss ns)
def atS (wd : Str) (rss : List (List Row)) (ns : List Nat) (i : Nat) : List Nat := (List.range i).filter fun j => decide ((rowAt rss ns j).word = wd)
def wrAt (rss : List (List Row)) (ns : List Nat) (j : Nat) : Option (Nat × Str) := match rowAt rss ns j with
  | .wr c _ _ => some (j, c)
  | _ => none
def wrS (rss : List (List Row)) (ns : List Nat) (i : Nat) : List (Nat × Str) := (List.range i).filterMap (wrAt rss ns)
def kvW (l : List (Nat × Str)) : List (Key × V) := l.map fun p => ((Sum.inl (p.1 : Int) : Key), V.str p.2)
theorem rowsTo_succ {rss : List (List Row)} {ns : List Nat} {i : Nat} : rowsTo rss ns (i + 1) = rowsTo rss ns i ++ [rowAt rss ns i] := by
  unfold rowsTo
  rw [List.range_succ, List.map_append]
  rfl
theorem atS_yes {wd : Str} {rss : List (List Row)} {ns : List Nat} {i : Nat} (h : (rowAt rss ns i).word = wd) : atS wd rss ns (i + 1) = atS wd rss ns i ++ [i] := by
  unfold atS
  rw [List.range_succ, List.filter_append]
  congr 1
  simp [h]
theorem atS_no {wd : Str} {rss : List (List Row)} {ns : List Nat} {i : Nat} (h : (rowAt rss ns i).word ≠ wd) : atS wd rss ns (i + 1) = atS wd rss ns i := by
  unfold atS
  rw [List.range_succ, List.filter_append]
  simp [h]
theorem atS_len {wd : Str} {rss : List (List Row)} {ns : List Nat} {i : Nat} : (atS wd rss ns i).length ≤ i := by
  unfold atS
  exact Nat.le_trans (List.length_filter_le _ _) (by rw [List.length_range]; exact Nat.le_refl _)
theorem wrS_some {rss : List (List Row)} {ns : List Nat} {i : Nat} {p : Nat × Str} (h : wrAt rss ns i = some p) : wrS rss ns (i + 1) = wrS rss ns i ++ [p] := by
  unfold wrS
  rw [List.range_succ, List.filterMap_append, List.filterMap_cons, h]
  rfl
theorem wrS_none {rss : List (List Row)} {ns : List Nat} {i : Nat} (h : wrAt rss ns i = none) : wrS rss ns (i + 1) = wrS rss ns i := by
  unfold wrS
  rw [List.range_succ, List.filterMap_append, List.filterMap_cons, h]
  exact List.append_nil _
theorem wrAt_fst {rss : List (List Row)} {ns : List Nat} {j : Nat} {p : Nat × Str} (h : wrAt rss ns j = some p) : p.1 = j := by
  unfold wrAt at h
  cases e : rowAt rss ns j <;> rw [e] at h <;> first | cases h | skip
  rfl
theorem wrS_lt {rss : List (List Row)} {ns : List Nat} {i : Nat} {p : Nat × Str} (h : p ∈ wrS rss ns i) : p.1 < i := by
  unfold wrS at h
  obtain ⟨j, hj, e⟩ := List.mem_filterMap.mp h
  rw [wrAt_fst e]
  exact List.mem_range.mp hj
theorem wrS_len {rss : List (List Row)} {ns : List Nat} {i : Nat} : (wrS rss ns i).length ≤ i := by
  unfold wrS
  exact Nat.le_trans (List.length_filterMap_le _ _) (by rw [List.length_range]; exact Nat.le_refl _)
theorem valV_out {k : Key} : ∀ {kvs : List (Key × V)}, k ∉ kvs.map (·.1) → valV kvs k = none
  | [], _ => rfl
  | (k', v) :: r, h => by
    rw [valV_neg (by intro e; cases e; exact h (List.mem_cons_self ..))]
    exact valV_out fun m => h (List.mem_cons_of_mem _ m)
theorem walk_zipT {K : PySem.W.Frag} {a b : Addr} {xs ys : List V} {n : Nat} (hn : n = min xs.length ys.length) : Walk (ItzT K a b) n (fun H => SqT K H a xs ∧ SqT K H b ys) (YPair (fun i => xs[i]?) (fun i => ys[i]?)) := by
  subst hn
  refine ⟨fun i _ hi q => ?_, fun _ q => ⟨xs, ys, q.1, q.2, by omega⟩, fun i H v H' _ q y => ?_⟩
  · have h1 : i < xs.length := by omega
    have h2 : i < ys.length := by omega
    exact ⟨xs, ys, xs[i], ys[i], q.1, q.2, by simp [h1], by simp [h2]⟩
  · obtain ⟨T, x, z, h1, h2, h3, h4, h5⟩ := y
    exact ⟨T, x, z, h1, h2, h3, h4 xs q.1, h5 ys q.2⟩
/-- what a question about a state is asked of -/
def AskAt (CF : Addr) (vs : List V) (H : Hp) (cs : List Str) (rss : List (List Row)) (ns : List Nat) : Prop := ∃ (f t : Addr) (ws : List Int), vs = [.ref f, .ref t] ∧ FieldAt CF H f cs rss ∧ StateAt H t ns ws ∧ Fits cs rss ns ws ∧ rss.length ≤ 5
def spFieldStanding (CF : Addr) : Sp := fun vs H Q _ => ∃ (cs : List Str) (rss : List (List Row)) (ns : List Nat), AskAt CF vs H cs rss ns ∧
  ∀ (q : Addr) (as : List Addr) (r2s : List Row) (H' : Hp), Same H H' → H' q = some (.lst (as.map V.ref)) → Paired (fun a r => RowAt H' r a) as r2s → Paired RSim (rowsTo rss ns rss.length) r2s → Q (.ref q) H'
def spFieldAt (CF : Addr) (wd : Str) : Sp := fun vs H Q _ => ∃ (cs : List Str) (rss : List (List Row)) (ns : List Nat), AskAt CF vs H cs rss ns ∧
  ∀ (q : Addr) (H' : Hp), Same H H' → H q = none → H' q = some (.lst ((atS wd rss ns rss.length).map fun (n : Nat) => V.int (n : Nat))) → Q (.ref q) H'
def spFieldWriting (CF : Addr) : Sp := fun vs H Q _ => ∃ (cs : List Str) (rss : List (List Row)) (ns : List Nat), AskAt CF vs H cs rss ns ∧
  ∀ (q : Addr) (H' : Hp), Same H H' → H q = none → H' q = some (.dK (kvW (wrS rss ns rss.length))) → Q (.ref q) H'
section
variable {P : Program} {w : World} {K : PySem.W.Frag} {mg : Str → Option Value} {base : Heap}
theorem scFieldStanding : FnScope ["self", "state", "table", "number"] ["self", "state"] (defScope sFieldStanding) := ⟨rfl, rfl, rfl, by decide +kernel, rfl, by decide +kernel, by decide +kernel⟩
theorem ok_fieldstanding {f CF : Addr} {fd : FuncData} (F : Fun K "_standing" "Field._standing" sFieldStanding f fd) (TF : TxtF K CF) (tz : mg "zip" = none) :
    FnOk P w K mg base CX0 1 f fd ["self", "state"] (spFieldStanding CF) := by
  refine F.ok scFieldStanding (fun vs H Q E h => ?_) (fun cdv A outer s H vs Q E hr h => ?_)
  · obtain ⟨cs, rss, ns, ⟨f, t, ws, rfl, _⟩, _⟩ := h
    rfl
  · refine ⟨_, pss_one (ps_ret (pe_lc (own := [("table", 2), ("number", 3)]) (g := gTup K 2 (gCons (gName 2) (gCons (gName 3) gNil))) (by rfl) scFieldStanding.nd (pi_zipA (by rfl) tz (pa_cons (pe_fld (pv 0) rfl) (pa_cons (pe_ix ix_tup (pv 1) pe_int (fun _ _ => rfl)) pa_nil))) (blkOk_by (own := [("table", 2), ("number", 3)]) (N := ["self", "state", "table", "number"]) (sc := defScope sFieldStanding) (by decide +kernel))
        (fun _ _ _ _ _ => pg_tup (by rfl) (pgs_cons (pg_name (i := 2) scFieldStanding.nd rfl (Or.inl rfl)) (pgs_cons (pg_name (i := 3) scFieldStanding.nd rfl (Or.inl rfl)) pgs_nil))) (fun _ _ _ _ _ => pts_nil)
        (fun _ _ _ _ _ => pe_ix (ix_listK (K := K) rfl) (pv 2) (pv 3) (fun _ _ => rfl)))), ?_⟩
    obtain ⟨cs, rss, ns, ⟨f, t, ws, rfl, hf, ht, fit, r5⟩, k⟩ := h
    obtain ⟨dx, T1, T2, T3, ps, ls, h1, h2, h3, h4, h5, h6⟩ := hf
    obtain ⟨a, b, t1, ta, tb⟩ := ht
    refine ⟨_, rfl, f, CF, dx, _, _, rfl, h1, TF.cl, TF.n3, rfl, _, rfl, t, _, _, _, rfl, rfl, SqT.of t1, rfl, T3, a, _, _, rfl, .inr ⟨SqT.of h4, SqT.of ta, fun D hD => ?_⟩⟩
    have ll : ls.length = rss.length := h6.length
    refine lc_it (walk_zipT (K := K) (a := T3) (b := a) (xs := ls.map V.ref) (ys := ns.map fun n => V.int (n : Nat)) (n := rss.length) (by rw [List.length_map, List.length_map, fit.len, ll, Nat.min_self]))
      (fun i H2 => ∃ (as : List Addr) (r2s : List Row), H2 D = some (.lst (as.map V.ref)) ∧ Paired (fun a r => RowAt H2 r a) as r2s ∧ Paired RSim (rowsTo rss ns i) r2s ∧ Same H H2) ⟨[], [], upd_same, .nil, .nil, same_new hD⟩ (fun i H2 _ ⟨_, _, _, _, _, e⟩ => ⟨SqT.of (e _ _ h4), SqT.of (e _ _ ta)⟩) ?_ ?_
    · rintro i x0 Ha Hb hi ⟨as, r2s, hDa, pa, sim, sa⟩ ⟨T, lx, nx, rfl, hT, rfl, e1, e2⟩
      dsimp only at e1 e2
      rw [List.getElem?_map] at e1 e2
      obtain ⟨l, hl, rfl⟩ := Option.map_eq_some_iff.mp e1
      obtain ⟨n, hn, rfl⟩ := Option.map_eq_some_iff.mp e2
      obtain ⟨rs, hrs, ⟨t2s, ⟨bs, hla, pbs⟩, sm⟩⟩ := paired_at h6 hl
      obtain ⟨r, hrn⟩ : ∃ r, rs[n]? = some r := ⟨_, List.getElem?_eq_getElem (fit.low i rs n hrs hn)⟩
      obtain ⟨r2, hr2, sm2⟩ := paired_at sm hrn
      obtain ⟨ra, hra, rat⟩ := paired_at (paired_flip pbs) hr2
      have re := rowAt_of hrs hn hrn
      have sb := same_new (o := .tup [V.ref l, V.int (n : Nat)]) hT
      have s2 := same_tr sa sb
      have al : as.length = i := by
        have e := sim.length
        unfold rowsTo at e
        rw [List.length_map, List.length_range] at e
        rw [pa.length, ← e]
      refine ⟨T, _, rfl, SqT.of upd_same, rfl, _, _, rfl, _, _, rfl, rfl, rfl, tyes_if ?_⟩
      refine ⟨_, rfl, _, rfl, l, _, _, _, rfl, rfl, SqL.of (s2 _ _ hla), atI_nat (by rw [List.getElem?_map, hra]; rfl), ?_⟩
      have hD2 := sb _ _ hDa
      refine ⟨_, hD2, small (by rw [List.length_map]; omega), as ++ [ra], r2s ++ [r2], by rw [upd_same, List.map_append]; rfl, Paired.snoc (L2.Paired.mapP pa fun a r e => (e.mono (fun b xs x => sb _ _ x) fun b xs x => sb _ _ x).put hD2) ((rat.mono (fun b xs x => s2 _ _ x) fun b xs x => s2 _ _ x).put hD2), by rw [rowsTo_succ, re]; exact sim.snoc sm2, same_put s2 hD⟩
    · rintro H2 ⟨as, r2s, hD2, pa, sim, s2⟩
      exact k D as r2s H2 s2 hD2 pa sim
end
end CC

set_option Elab.async false
set_option maxRecDepth 100000
namespace CC
open PySem PySem.Spec PyProof.Rows L2 RZ
set_option linter.unusedVariables false
theorem word_at {rss : List (List Row)} {ns : List Nat} {n i : Nat} {r2s : List Row} {r2 : Row} (h : Paired RSim (rowsTo rss ns n) r2s) (e : r2s[i]? = some r2) : RSim (rowAt rss ns i) r2 := by
  obtain ⟨r, hr, sm⟩ := paired_at (paired_flip h) e
  unfold rowsTo at hr
  rw [List.getElem?_map] at hr
  obtain ⟨j, hj, rfl⟩ := Option.map_eq_some_iff.mp hr
  have := List.getElem?_eq_some_iff.mp hj
  obtain ⟨hl, he⟩ := this
  rw [List.getElem_range] at he
  rw [he]
  exact sm
section
variable {P : Program} {w : World} {K : PySem.W.Frag} {mg : Str → Option Value} {base : Heap}
theorem scFieldInside : FnScope ["self", "state", "thread", "row"] ["self", "state"] (defScope sFieldInside) := ⟨rfl, rfl, rfl, by decide +kernel, rfl, by decide +kernel, by decide +kernel⟩
theorem scFieldResting : FnScope ["self", "state", "thread", "row"] ["self", "state"] (defScope sFieldResting) := ⟨rfl, rfl, rfl, by decide +kernel, rfl, by decide +kernel, by decide +kernel⟩
theorem scFieldWriting : FnScope ["self", "state", "thread", "row"] ["self", "state"] (defScope sFieldWriting) := ⟨rfl, rfl, rfl, by decide +kernel, rfl, by decide +kernel, by decide +kernel⟩
theorem ok_fieldinside {f fS CF : Addr} {fd fdS : FuncData} (F : Fun K "inside" "Field.inside" sFieldInside f fd) (TF : TxtF K CF) (sm : Meth K CF "_standing" fS) (GS : FnOk P w K mg base CX0 1 fS fdS ["self", "state"] (spFieldStanding CF)) (bS : L2.Binds K fdS ["self", "state"] []) (te : mg "enumerate" = none) :
    FnOk P w K mg base CX0 2 f fd ["self", "state"] (spFieldAt CF "inside") := by
  refine F.ok scFieldInside (fun vs H Q E h => ?_) (fun cdv A outer s H vs Q E hr h => ?_)
  · obtain ⟨cs, rss, ns, ⟨f, t, ws, rfl, _⟩, _⟩ := h
    rfl
  · refine ⟨_, pss_one (ps_ret (pe_lc (own := [("thread", 2), ("row", 3)]) (g := gTup K 2 (gCons (gName 2) (gCons (gName 3) gNil))) (by rfl) scFieldInside.nd (pi_enum (by rfl) te (pa_cons (pe_meth (pv 0) TF.cl sm GS hr bS .nil pass0 (pa_cons (pv 1) pa_nil)) pa_nil)) (blkOk_by (own := [("thread", 2), ("row", 3)]) (N := ["self", "state", "thread", "row"]) (sc := defScope sFieldInside) (by decide +kernel))
        (fun _ _ _ _ _ => pg_tup (by rfl) (pgs_cons (pg_name (i := 2) scFieldInside.nd rfl (Or.inl rfl)) (pgs_cons (pg_name (i := 3) scFieldInside.nd rfl (Or.inl rfl)) pgs_nil))) (fun _ _ _ _ _ => pts_one (pt_cmpR op_eq (pe_ix (ix_tupK (K := K) rfl) (pv 3) pe_int (fun _ _ => rfl)) pe_str (nomark _)))
        (fun _ _ _ _ _ => pv 2))), ?_⟩
    obtain ⟨cs, rss, ns, ⟨f, t, ws, rfl, hf, ht, fit, r5⟩, k⟩ := h
    have hf0 := hf
    obtain ⟨dx, T1, T2, T3, ps, ls, h1, _⟩ := hf0
    refine ⟨_, rfl, f, dx, _, rfl, h1, rfl, _, rfl, cs, rss, ns, ⟨f, t, ws, rfl, hf, ht, fit, r5⟩, fun q as r2s H1 s1 hq pa sim => ⟨q, _, rfl, SqL.of hq, fun D hD => ?_⟩⟩
    have al : as.length = rss.length := by
      rw [pa.length, ← sim.length]
      unfold rowsTo
      rw [List.length_map, List.length_range]
    refine lc_it (walk_enum (K := K) (a := q) (xs := as.map V.ref)) (fun i H2 => H2 D = some (.lst ((atS "inside" rss ns i).map fun (n : Nat) => V.int (n : Nat))) ∧ Same H1 H2) ⟨upd_same, same_new hD⟩ (fun i H2 _ ⟨_, e⟩ => SqL.of (e _ _ hq)) ?_ ?_
    · rintro i x0 Ha Hb hi ⟨hDa, sa⟩ ⟨T, ix, rx, rfl, hT, rfl, e1, e2⟩
      dsimp only at e1 e2
      cases e1
      rw [List.getElem?_map] at e2
      obtain ⟨ra, hra, rfl⟩ := Option.map_eq_some_iff.mp e2
      obtain ⟨r2, hr2, rat⟩ := paired_at pa hra
      have wd := word_sim (word_at sim hr2)
      obtain ⟨xs, hx⟩ := rat.head
      have sb := same_new (o := .tup [V.int (i : Nat), V.ref ra]) hT
      have s2 := same_tr sa sb
      have lt : i < 5 := by
        rw [List.length_map, al] at hi
        omega
      refine ⟨T, _, rfl, SqT.of upd_same, rfl, _, _, rfl, _, _, rfl, rfl, rfl, ?_⟩
      refine ⟨_, rfl, ra, _, _, _, rfl, rfl, SqT.of (s2 _ _ hx), atZ, rfl, _, rfl, ?_⟩
      by_cases e : r2.word = "inside"
      · refine ite_yes (decide_eq_true (by rw [e])) ?_
        have hD2 := sb _ _ hDa
        refine ⟨_, rfl, _, hD2, small (by rw [List.length_map]; have := atS_len (wd := "inside") (rss := rss) (ns := ns) (i := i); omega), by rw [upd_same, atS_yes (by rw [← wd]; exact e), List.map_append]; rfl, same_put s2 hD⟩
      · refine ite_no (decide_eq_false (fun z => e (V.str.inj z))) ?_
        exact ⟨by rw [atS_no (by rw [← wd]; exact e)]; exact sb _ _ hDa, s2⟩
    · rintro H2 ⟨hD2, s2⟩
      rw [List.length_map, al] at hD2
      exact k D H2 (same_tr s1 s2) (s1.free hD) hD2
theorem ok_fieldresting {f fS CF : Addr} {fd fdS : FuncData} (F : Fun K "resting" "Field.resting" sFieldResting f fd) (TF : TxtF K CF) (sm : Meth K CF "_standing" fS) (GS : FnOk P w K mg base CX0 1 fS fdS ["self", "state"] (spFieldStanding CF)) (bS : L2.Binds K fdS ["self", "state"] []) (te : mg "enumerate" = none) :
    FnOk P w K mg base CX0 2 f fd ["self", "state"] (spFieldAt CF "rest") := by
  refine F.ok scFieldResting (fun vs H Q E h => ?_) (fun cdv A outer s H vs Q E hr h => ?_)
  · obtain ⟨cs, rss, ns, ⟨f, t, ws, rfl, _⟩, _⟩ := h
    rfl
  · refine ⟨_, pss_one (ps_ret (pe_lc (own := [("thread", 2), ("row", 3)]) (g := gTup K 2 (gCons (gName 2) (gCons (gName 3) gNil))) (by rfl) scFieldResting.nd (pi_enum (by rfl) te (pa_cons (pe_meth (pv 0) TF.cl sm GS hr bS .nil pass0 (pa_cons (pv 1) pa_nil)) pa_nil)) (blkOk_by (own := [("thread", 2), ("row", 3)]) (N := ["self", "state", "thread", "row"]) (sc := defScope sFieldInside) (by decide +kernel))
        (fun _ _ _ _ _ => pg_tup (by rfl) (pgs_cons (pg_name (i := 2) scFieldResting.nd rfl (Or.inl rfl)) (pgs_cons (pg_name (i := 3) scFieldResting.nd rfl (Or.inl rfl)) pgs_nil))) (fun _ _ _ _ _ => pts_one (pt_cmpR op_eq (pe_ix (ix_tupK (K := K) rfl) (pv 3) pe_int (fun _ _ => rfl)) pe_str (nomark _)))
        (fun _ _ _ _ _ => pv 2))), ?_⟩
    obtain ⟨cs, rss, ns, ⟨f, t, ws, rfl, hf, ht, fit, r5⟩, k⟩ := h
    have hf0 := hf
    obtain ⟨dx, T1, T2, T3, ps, ls, h1, _⟩ := hf0
    refine ⟨_, rfl, f, dx, _, rfl, h1, rfl, _, rfl, cs, rss, ns, ⟨f, t, ws, rfl, hf, ht, fit, r5⟩, fun q as r2s H1 s1 hq pa sim => ⟨q, _, rfl, SqL.of hq, fun D hD => ?_⟩⟩
    have al : as.length = rss.length := by
      rw [pa.length, ← sim.length]
      unfold rowsTo
      rw [List.length_map, List.length_range]
    refine lc_it (walk_enum (K := K) (a := q) (xs := as.map V.ref)) (fun i H2 => H2 D = some (.lst ((atS "rest" rss ns i).map fun (n : Nat) => V.int (n : Nat))) ∧ Same H1 H2) ⟨upd_same, same_new hD⟩ (fun i H2 _ ⟨_, e⟩ => SqL.of (e _ _ hq)) ?_ ?_
    · rintro i x0 Ha Hb hi ⟨hDa, sa⟩ ⟨T, ix, rx, rfl, hT, rfl, e1, e2⟩
      dsimp only at e1 e2
      cases e1
      rw [List.getElem?_map] at e2
      obtain ⟨ra, hra, rfl⟩ := Option.map_eq_some_iff.mp e2
      obtain ⟨r2, hr2, rat⟩ := paired_at pa hra
      have wd := word_sim (word_at sim hr2)
      obtain ⟨xs, hx⟩ := rat.head
      have sb := same_new (o := .tup [V.int (i : Nat), V.ref ra]) hT
      have s2 := same_tr sa sb
      have lt : i < 5 := by
        rw [List.length_map, al] at hi
        omega
      refine ⟨T, _, rfl, SqT.of upd_same, rfl, _, _, rfl, _, _, rfl, rfl, rfl, ?_⟩
      refine ⟨_, rfl, ra, _, _, _, rfl, rfl, SqT.of (s2 _ _ hx), atZ, rfl, _, rfl, ?_⟩
      by_cases e : r2.word = "rest"
      · refine ite_yes (decide_eq_true (by rw [e])) ?_
        have hD2 := sb _ _ hDa
        refine ⟨_, rfl, _, hD2, small (by rw [List.length_map]; have := atS_len (wd := "rest") (rss := rss) (ns := ns) (i := i); omega), by rw [upd_same, atS_yes (by rw [← wd]; exact e), List.map_append]; rfl, same_put s2 hD⟩
      · refine ite_no (decide_eq_false (fun z => e (V.str.inj z))) ?_
        exact ⟨by rw [atS_no (by rw [← wd]; exact e)]; exact sb _ _ hDa, s2⟩
    · rintro H2 ⟨hD2, s2⟩
      rw [List.length_map, al] at hD2
      exact k D H2 (same_tr s1 s2) (s1.free hD) hD2
theorem ok_fieldwriting {f fS CF : Addr} {fd fdS : FuncData} (F : Fun K "writing" "Field.writing" sFieldWriting f fd) (TF : TxtF K CF) (sm : Meth K CF "_standing" fS) (GS : FnOk P w K mg base CX0 1 fS fdS ["self", "state"] (spFieldStanding CF)) (bS : L2.Binds K fdS ["self", "state"] []) (te : mg "enumerate" = none) :
    FnOk P w K mg base CX0 2 f fd ["self", "state"] (spFieldWriting CF) := by
  refine F.ok scFieldWriting (fun vs H Q E h => ?_) (fun cdv A outer s H vs Q E hr h => ?_)
  · obtain ⟨cs, rss, ns, ⟨f, t, ws, rfl, _⟩, _⟩ := h
    rfl
  · refine ⟨_, pss_one (ps_ret (pe_dc (own := [("thread", 2), ("row", 3)]) (g := gTup K 2 (gCons (gName 2) (gCons (gName 3) gNil))) (by rfl) scFieldWriting.nd (pi_enum (by rfl) te (pa_cons (pe_meth (pv 0) TF.cl sm GS hr bS .nil pass0 (pa_cons (pv 1) pa_nil)) pa_nil)) (blkOk_by (own := [("thread", 2), ("row", 3)]) (N := ["self", "state", "thread", "row"]) (sc := defScope sFieldWriting) (by decide +kernel))
        (fun _ _ _ _ _ => pg_tup (by rfl) (pgs_cons (pg_name (i := 2) scFieldWriting.nd rfl (Or.inl rfl)) (pgs_cons (pg_name (i := 3) scFieldWriting.nd rfl (Or.inl rfl)) pgs_nil))) (fun _ _ _ _ _ => pts_one (pt_cmpR op_eq (pe_ix (ix_tupK (K := K) rfl) (pv 3) pe_int (fun _ _ => rfl)) pe_str (nomark _)))
        (fun _ _ _ _ _ => pv 2) (fun _ _ _ _ _ => pe_ix (ix_tupK (K := K) rfl) (pv 3) pe_int (fun _ _ => rfl)))), ?_⟩
    obtain ⟨cs, rss, ns, ⟨f, t, ws, rfl, hf, ht, fit, r5⟩, k⟩ := h
    have hf0 := hf
    obtain ⟨dx, T1, T2, T3, ps, ls, h1, _⟩ := hf0
    refine ⟨_, rfl, f, dx, _, rfl, h1, rfl, _, rfl, cs, rss, ns, ⟨f, t, ws, rfl, hf, ht, fit, r5⟩, fun q as r2s H1 s1 hq pa sim => ⟨q, _, rfl, SqL.of hq, fun D hD => ?_⟩⟩
    have al : as.length = rss.length := by
      rw [pa.length, ← sim.length]
      unfold rowsTo
      rw [List.length_map, List.length_range]
    refine dcit (walk_enum (K := K) (a := q) (xs := as.map V.ref)) (fun i H2 => H2 D = some (.dK (kvW (wrS rss ns i))) ∧ Same H1 H2) ⟨upd_same, same_new hD⟩ (fun i H2 _ ⟨_, e⟩ => SqL.of (e _ _ hq)) ?_ ?_
    · rintro i x0 Ha Hb hi ⟨hDa, sa⟩ ⟨T, ix, rx, rfl, hT, rfl, e1, e2⟩
      dsimp only at e1 e2
      cases e1
      rw [List.getElem?_map] at e2
      obtain ⟨ra, hra, rfl⟩ := Option.map_eq_some_iff.mp e2
      obtain ⟨r2, hr2, rat⟩ := paired_at pa hra
      have wat := word_at sim hr2
      obtain ⟨xs, hx⟩ := rat.head
      have sb := same_new (o := .tup [V.int (i : Nat), V.ref ra]) hT
      have s2 := same_tr sa sb
      have lt : i < 5 := by
        rw [List.length_map, al] at hi
        omega
      refine ⟨T, _, rfl, SqT.of upd_same, rfl, _, _, rfl, _, _, rfl, rfl, rfl, ?_⟩
      refine ⟨_, rfl, ra, _, _, _, rfl, rfl, SqT.of (s2 _ _ hx), atZ, rfl, _, rfl, ?_⟩
      by_cases e : r2.word = "write"
      · refine ite_yes (decide_eq_true (by rw [e])) ?_
        have hD2 := sb _ _ hDa
        obtain ⟨c, v, m, rfl⟩ : ∃ c v m, r2 = .wr c v m := by
          cases r2 with
          | wr c v m => exact ⟨c, v, m, rfl⟩
          | rest m => exact absurd (show (Str.ofString "rest") = Str.ofString "write" from e) (by decide +kernel)
          | ins m => exact absurd (show (Str.ofString "inside") = Str.ofString "write" from e) (by decide +kernel)
          | rd c cs m => exact absurd (show (Str.ofString "read") = Str.ofString "write" from e) (by decide +kernel)
        have wn : wrAt rss ns i = some (i, c) := by
          unfold wrAt
          cases eq : rowAt rss ns i <;> rw [eq] at wat <;> try exact wat.elim
          rw [wat.1]
        have rat' : H1 ra = some (.tup [V.str "write", V.str c, V.int v, V.int (m : Nat)]) := rat
        refine ⟨_, rfl, _, rfl, ra, _, _, _, rfl, rfl, SqT.of (s2 _ _ rat'), rfl, _, Sum.inl (i : Int), rfl, hD2, small (by unfold kvW; rw [List.length_map]; have := wrS_len (rss := rss) (ns := ns) (i := i); omega), ?_, same_put s2 hD⟩
        rw [upd_same, putK_new _ (valV_out (fun m => ?_)), wrS_some wn]
        · unfold kvW
          rw [List.map_append]
          rfl
        · unfold kvW at m
          rw [List.map_map] at m
          obtain ⟨p, hp, ep⟩ := List.mem_map.mp m
          have lp := wrS_lt hp
          have ep' : ((p.1 : Nat) : Int) = (i : Nat) := Sum.inl.inj ep
          omega
      · refine ite_no (decide_eq_false (fun z => e (V.str.inj z))) ?_
        have wn : wrAt rss ns i = none := by
          unfold wrAt
          cases eq : rowAt rss ns i <;> first | rfl | skip
          rw [eq] at wat
          cases r2 <;> try exact wat.elim
          exact absurd rfl e
        exact ⟨by rw [wrS_none wn]; exact sb _ _ hDa, s2⟩
    · rintro H2 ⟨hD2, s2⟩
      rw [List.length_map, al] at hD2
      exact k D H2 (same_tr s1 s2) (s1.free hD) hD2
end
end CC

set_option Elab.async false
set_option maxRecDepth 100000
namespace CC
open PySem PySem.Spec PyProof.Rows L2 RZ
set_option linter.unusedVariables false
abbrev sPlain : Stmt := top 46
abbrev sStart : Stmt := top 47
abbrev sAt : Stmt := top 49
/-- the law's own rows of all threads -/
def RowsQ (H : Hp) (q : Addr) (rss : List (List Row)) : Prop := ∃ ls : List Addr, H q = some (.lst (ls.map V.ref)) ∧ Paired (fun l rs => RowsAt H rs l) ls rss
theorem RowsQ.mono {H H' : Hp} {q : Addr} {rss : List (List Row)} (h : RowsQ H q rss) (s : Same H H') : RowsQ H' q rss := by
  obtain ⟨ls, h1, h2⟩ := h
  exact ⟨ls, s _ _ h1, L2.Paired.mapP h2 fun l rs e => e.same s⟩
/-- the law's own state: a pair of lists -/
def DueAt (H : Hp) (t : Addr) (ns : List Nat) (ws : List Int) : Prop := ∃ a b, H t = some (.tup [.ref a, .ref b]) ∧ H a = some (.lst (ns.map fun n => V.int (n : Nat))) ∧ H b = some (.lst (ws.map V.int))
theorem DueAt.mono {H H' : Hp} {t : Addr} {ns : List Nat} {ws : List Int} (h : DueAt H t ns ws) (s : Same H H') : DueAt H' t ns ws := by
  obtain ⟨a, b, h1, h2, h3⟩ := h
  exact ⟨a, b, s _ _ h1, s _ _ h2, s _ _ h3⟩
/-- the same, of new lists -/
def DueNew (H H' : Hp) (t : Addr) (ns : List Nat) (ws : List Int) : Prop := ∃ a b, H a = none ∧ H b = none ∧ H' t = some (.tup [.ref a, .ref b]) ∧ H' a = some (.lst (ns.map fun n => V.int (n : Nat))) ∧ H' b = some (.lst (ws.map V.int))
def spPlain : Sp := fun vs H Q _ => ∃ (q cl t : Addr) (cs : List Str) (rss : List (List Row)) (ns : List Nat) (ws : List Int) (i : Nat), vs = [.ref q, .ref cl, .ref t, .int (i : Nat)] ∧ RowsQ H q rss ∧ H cl = some (.lst (cs.map V.str)) ∧ DueAt H t ns ws ∧ Fits cs rss ns ws ∧ RowsIn cs rss ∧ i < rss.length ∧
  ∀ (t' : Addr) (H' : Hp), Same H H' → DueNew H H' t' (stepN cs rss ns ws i) (stepW cs rss ns ws i) → Q (.ref t') H'
theorem str_first {cs : List Str} {c : Str} {j : Nat} (h : ∀ m, m < j → cs[m]? ≠ some c) : ∀ (m : Nat) (z' : V), m < j → (cs.map V.str)[m]? = some z' → eqV z' (V.str c) = false := fun m z' hm e => by
  rw [List.getElem?_map] at e
  obtain ⟨z, hz, rfl⟩ := Option.map_eq_some_iff.mp e
  rw [beq_str]
  exact decide_eq_false fun q => h m hm (by rw [hz, q])
theorem str_same (c : Str) : eqV (V.str c) (V.str c) = true := by
  rw [beq_str]
  exact decide_eq_true rfl
theorem dict_some {cs : List (Int × Nat)} {v : Int} (nd : (cs.map (·.1)).Nodup) : (valV (kvOf cs) (Sum.inl v : Key)).isSome = decide (v ∈ cs.map (·.1)) := by
  by_cases h : v ∈ cs.map (·.1)
  · rw [valV_mem nd (look_mem h), decide_eq_true h]
    rfl
  · rw [valV_kv h, decide_eq_false h]
    rfl
section
variable {P : Program} {w : World} {K : PySem.W.Frag} {mg : Str → Option Value} {base : Heap}
theorem scPlain : FnScope ["_law_rows_here", "_law_cells", "_law_state", "_law_thread", "_law_row", "_law_places", "_law_worths", "_law_to"] ["_law_rows_here", "_law_cells", "_law_state", "_law_thread"] (defScope sPlain) := ⟨rfl, rfl, rfl, by decide +kernel, rfl, by decide +kernel, by decide +kernel⟩
theorem ok_plain {f : Addr} {fd : FuncData} (F : Fun K "_law_plain_step" "_law_plain_step" sPlain f fd) (tl : mg "list" = none) :
    FnOk P w K mg base CX0 1 f fd ["_law_rows_here", "_law_cells", "_law_state", "_law_thread"] spPlain := by
  refine F.ok scPlain (fun vs H Q E h => ?_) (fun cdv A outer s H vs Q E hr h => ?_)
  · obtain ⟨q, cl, t, cs, rss, ns, ws, i, rfl, _⟩ := h
    rfl
  · have hu := hu_of hr
    refine ⟨_, pss_cons (ps_set (i := 4) scPlain.nd rfl (.inl rfl) (pe_ix ix_list (pe_ix ix_list (pv 0) (pv 3) (fun _ _ => rfl)) (pe_ix ix_list (pe_ix ix_tup (pv 2) pe_int (fun _ _ => rfl)) (pv 3) (fun _ _ => rfl)) (fun _ _ => rfl)))
      (pss_cons (ps_par3 (i := 5) (j := 6) (l := 7) (by rfl) scPlain.nd rfl rfl rfl (by decide) (by decide) (by decide) rfl rfl rfl (pa_cons (pe_callTy call_list_of (by rfl) tl (by decide +kernel) (pa_cons (pe_ix ix_tup (pv 2) pe_int (fun _ _ => rfl)) pa_nil)) (pa_cons (pe_callTy call_list_of (by rfl) tl (by decide +kernel) (pa_cons (pe_ix ix_tup (pv 2) pe_int (fun _ _ => rfl)) pa_nil)) (pa_cons (pe_ix ix_tup (pv 4) (pe_un un_neg pe_int) (fun _ _ => rfl)) pa_nil))) (by rfl))
      (pss_cons (ps_if (pt_cmpR op_eq (pe_ix ix_tup (pv 4) pe_int (fun _ _ => rfl)) pe_str (nomark _))
        (pss_one (ps_asg (pe_ix ix_tup (pv 4) pe_int (fun _ _ => rfl)) (pg_sub (pv 6) (pe_bm PySem.F.plainAttrs_list PySem.F.slot_list_index PySem.F.type_list_index mt_index (pv 1) (pa_cons (pe_ix ix_tup (pv 4) pe_int (fun _ _ => rfl)) pa_nil)) set_list))) pss_nil)
      (pss_cons (ps_if (PW.pt (pw_and (pt_cmpR op_eq (pe_ix ix_tup (pv 4) pe_int (fun _ _ => rfl)) pe_str (nomark _)) (pw_and1 (pt_cmp (pc_din hu (pe_ix ix_list (pv 6) (pe_bm PySem.F.plainAttrs_list PySem.F.slot_list_index PySem.F.type_list_index mt_index (pv 1) (pa_cons (pe_ix ix_tup (pv 4) pe_int (fun _ _ => rfl)) pa_nil)) (fun _ _ => rfl)) (pe_ix ix_tup (pv 4) pe_int (fun _ _ => rfl)))))))
        (pss_one (ps_set (i := 7) scPlain.nd rfl (.inl rfl) (pe_dget hu (pe_ix ix_tup (pv 4) pe_int (fun _ _ => rfl)) (pe_ix ix_list (pv 6) (pe_bm PySem.F.plainAttrs_list PySem.F.slot_list_index PySem.F.type_list_index mt_index (pv 1) (pa_cons (pe_ix ix_tup (pv 4) pe_int (fun _ _ => rfl)) pa_nil)) (fun _ _ => rfl)) (fun _ _ => rfl)))) pss_nil)
      (pss_cons (ps_asg (pv 7) (pg_sub (pv 5) (pv 3) set_list))
      (pss_one (ps_ret (pe_tup (pa_cons (pv 5) (pa_cons (pv 6) pa_nil))))))))), ?_⟩
    obtain ⟨q, cl, t, cs, rss, ns, ws, i, rfl, hq, hcl, ht, fit, low, il, k⟩ := h
    obtain ⟨ls, hql, pls⟩ := hq
    obtain ⟨a, b, t1, ta, tb⟩ := ht
    have iln : i < ns.length := by rw [fit.len]; exact il
    obtain ⟨n, hn⟩ : ∃ n, ns[i]? = some n := ⟨_, List.getElem?_eq_getElem iln⟩
    obtain ⟨rs, hrs⟩ : ∃ rs, rss[i]? = some rs := ⟨_, List.getElem?_eq_getElem il⟩
    obtain ⟨l, hl, ⟨as, hla, pas⟩⟩ := paired_at (paired_flip pls) hrs
    have nl := fit.low i rs n hrs hn
    obtain ⟨r, hrn⟩ : ∃ r, rs[n]? = some r := ⟨_, List.getElem?_eq_getElem nl⟩
    obtain ⟨ra, hra, rat⟩ := paired_at (paired_flip pas) hrn
    have re := rowAt_of hrs hn hrn
    obtain ⟨rlow, rcell⟩ := low rs (List.mem_of_getElem? hrs) r (List.mem_of_getElem? hrn)
    have inj : (ns.map fun n => V.int (n : Nat))[i]? = some (V.int (n : Nat)) := by rw [List.getElem?_map, hn]; rfl
    refine ⟨_, rfl, _, rfl, q, _, _, _, rfl, rfl, SqL.of hql, atI_nat (by rw [List.getElem?_map, hl]; rfl), _, rfl, t, _, _, _, rfl, rfl, SqT.of t1, rfl, _, rfl, a, _, _, _, rfl, rfl, SqL.of ta, atI_nat inj, l, _, _, _, rfl, rfl, SqL.of hla, atI_nat (by rw [List.getElem?_map, hra]; rfl), ?_⟩
    refine ⟨_, rfl, t, _, _, _, rfl, rfl, SqT.of t1, rfl, a, _, rfl, .inl (SqL.of ta), fun l1 hl1 => ?_⟩
    have s1 := same_new (o := .lst (ns.map fun n => V.int (n : Nat))) hl1
    have l11 : (upd H l1 (.lst (ns.map fun n => V.int (n : Nat)))) l1 = some (.lst (ns.map fun n => V.int (n : Nat))) := upd_same
    revert s1 l11
    generalize upd H l1 (.lst (ns.map fun n => V.int (n : Nat))) = H1
    intro s1 l11
    refine ⟨_, rfl, t, _, _, _, rfl, rfl, SqT.of (s1 _ _ t1), rfl, b, _, rfl, .inl (SqL.of (s1 _ _ tb)), fun l2 hl2 => ?_⟩
    have s2 := same_tr s1 (same_new (o := .lst (ws.map V.int)) hl2)
    have l12 := same_new (o := .lst (ws.map V.int)) hl2 _ _ l11
    have l22 : (upd H1 l2 (.lst (ws.map V.int))) l2 = some (.lst (ws.map V.int)) := upd_same
    have n12 : l1 ≠ l2 := ne_of_none l11 hl2
    have hl2' := s1.free hl2
    revert s2 l12 l22
    generalize upd H1 l2 (.lst (ws.map V.int)) = H2
    intro s2 l12 l22
    have fin : ∀ (m : Nat) (ws' : List Int) (H3 : Hp), Same H H3 → H3 l1 = some (.lst (ns.map fun n => V.int (n : Nat))) → H3 l2 = some (.lst (ws'.map V.int)) → ns.set i m = stepN cs rss ns ws i → ws' = stepW cs rss ns ws i →
        ∀ t' : Addr, (upd H3 l1 (.lst ((ns.map fun n => V.int (n : Nat)).set i (V.int (m : Nat))))) t' = none → Q (.ref t') (upd (upd H3 l1 (.lst ((ns.map fun n => V.int (n : Nat)).set i (V.int (m : Nat))))) t' (.tup [.ref l1, .ref l2])) := fun m ws' H3 s3 e1 e2 en ew t' ht' => by
      have s4 := same_put (o := .lst ((ns.map fun n => V.int (n : Nat)).set i (V.int (m : Nat)))) s3 hl1
      have s5 := same_new (o := .tup [V.ref l1, V.ref l2]) ht'
      exact k t' _ (same_tr s4 s5) ⟨l1, l2, hl1, hl2', upd_same, s5 _ _ (by rw [upd_same, ← en, List.map_set]), s5 _ _ (by rw [upd_ne n12.symm, ← ew]; exact e2)⟩
    have ixl : ixN (ns.map fun n => V.int (n : Nat)).length (i : Int) = some i := ixN_nat (by rw [List.length_map]; exact iln)
    cases r with
    | rest m =>
      have rat' : H ra = some (.tup [.str "rest", .int (m : Nat)]) := rat
      refine ⟨_, rfl, _, rfl, ra, _, _, _, rfl, rfl, SqT.of (s2 _ _ rat'), rfl, _, _, _, rfl, ?_⟩
      refine ⟨_, rfl, ra, _, _, _, rfl, rfl, SqT.of (s2 _ _ rat'), rfl, rfl, _, rfl, ite_no (decide_eq_false (by intro z; cases z)) ?_⟩
      refine ⟨_, rfl, ra, _, _, _, rfl, rfl, SqT.of (s2 _ _ rat'), rfl, rfl, _, rfl, ite_no (decide_eq_false (by intro z; cases z)) ?_⟩
      exact ⟨_, rfl, _, rfl, _, rfl, l1, _, _, i, rfl, rfl, l12, ixl, _, rfl, _, rfl, (by show 2 ≤ sizeLine; decide), fun t' ht' => fin m ws H2 s2 l12 l22 (by unfold stepN; rw [re]; rfl) (by unfold stepW; rw [re]; rfl) t' ht'⟩
    | ins m =>
      have rat' : H ra = some (.tup [.str "inside", .int (m : Nat)]) := rat
      refine ⟨_, rfl, _, rfl, ra, _, _, _, rfl, rfl, SqT.of (s2 _ _ rat'), rfl, _, _, _, rfl, ?_⟩
      refine ⟨_, rfl, ra, _, _, _, rfl, rfl, SqT.of (s2 _ _ rat'), rfl, rfl, _, rfl, ite_no (decide_eq_false (by intro z; cases z)) ?_⟩
      refine ⟨_, rfl, ra, _, _, _, rfl, rfl, SqT.of (s2 _ _ rat'), rfl, rfl, _, rfl, ite_no (decide_eq_false (by intro z; cases z)) ?_⟩
      exact ⟨_, rfl, _, rfl, _, rfl, l1, _, _, i, rfl, rfl, l12, ixl, _, rfl, _, rfl, (by show 2 ≤ sizeLine; decide), fun t' ht' => fin m ws H2 s2 l12 l22 (by unfold stepN; rw [re]; rfl) (by unfold stepW; rw [re]; rfl) t' ht'⟩
    | wr c v m =>
      have rat' : H ra = some (.tup [.str "write", .str c, .int v, .int (m : Nat)]) := rat
      have cin := rcell c rfl
      obtain ⟨jx1, jx2⟩ := cellIx_at cin
      refine ⟨_, rfl, _, rfl, ra, _, _, _, rfl, rfl, SqT.of (s2 _ _ rat'), rfl, _, _, _, rfl, ?_⟩
      refine ⟨_, rfl, ra, _, _, _, rfl, rfl, SqT.of (s2 _ _ rat'), rfl, rfl, _, rfl, ite_yes (decide_eq_true rfl) ?_⟩
      refine ⟨_, rfl, ra, _, _, _, rfl, rfl, SqT.of (s2 _ _ rat'), rfl, _, rfl, _, rfl, .inl ⟨rfl, _, SqL.of (s2 _ _ hcl)⟩, _, rfl, ra, _, _, _, rfl, rfl, SqT.of (s2 _ _ rat'), rfl, cl, _, _, cellIx cs c, _, rfl, rfl, SqL.of (s2 _ _ hcl), rfl, flat_strs _, by rw [List.getElem?_map, jx1]; rfl, str_same c, str_first jx2, l2, _, _, cellIx cs c, rfl, rfl, l22, ixN_nat (by rw [List.length_map, fit.wlen]; exact cellIx_lt cin), ?_⟩
      have s4 := same_put (o := .lst ((ws.map V.int).set (cellIx cs c) (V.int v))) s2 hl2'
      have e3 : (upd H2 l2 (.lst ((ws.map V.int).set (cellIx cs c) (V.int v)))) l1 = some (.lst (ns.map fun n => V.int (n : Nat))) := by rw [upd_ne n12]; exact l12
      have e4 : (upd H2 l2 (.lst ((ws.map V.int).set (cellIx cs c) (V.int v)))) l2 = some (.lst ((ws.set (cellIx cs c) v).map V.int)) := by rw [upd_same, List.map_set]
      refine ⟨_, rfl, ra, _, _, _, rfl, rfl, SqT.of (s4 _ _ rat'), rfl, rfl, _, rfl, ite_no (decide_eq_false (by intro z; cases z)) ?_⟩
      exact ⟨_, rfl, _, rfl, _, rfl, l1, _, _, i, rfl, rfl, e3, ixl, _, rfl, _, rfl, (by show 2 ≤ sizeLine; decide), fun t' ht' => fin m _ _ s4 e3 e4 (by unfold stepN; rw [re]; rfl) (by unfold stepW; rw [re]; rfl) t' ht'⟩
    | rd c cs1 m =>
      obtain ⟨d, rat', rdd⟩ := rat
      have cin := rcell c rfl
      obtain ⟨jx1, jx2⟩ := cellIx_at cin
      have nd1 : (cs1.map (·.1)).Nodup := rlow.1
      obtain ⟨wv, hwv⟩ : ∃ wv, ws[cellIx cs c]? = some wv := ⟨_, List.getElem?_eq_getElem (by rw [fit.wlen]; exact cellIx_lt cin)⟩
      have gw : ws.getD (cellIx cs c) 0 = wv := by rw [List.getD_eq_getElem?_getD, hwv]; rfl
      refine ⟨_, rfl, _, rfl, ra, _, _, _, rfl, rfl, SqT.of (s2 _ _ rat'), rfl, _, _, _, rfl, ?_⟩
      refine ⟨_, rfl, ra, _, _, _, rfl, rfl, SqT.of (s2 _ _ rat'), rfl, rfl, _, rfl, ite_no (decide_eq_false (by intro z; cases z)) ?_⟩
      refine ⟨_, rfl, ra, _, _, _, rfl, rfl, SqT.of (s2 _ _ rat'), rfl, rfl, _, rfl, ite_yes (decide_eq_true rfl) ?_⟩
      refine ⟨_, rfl, _, rfl, .inl ⟨rfl, _, SqL.of (s2 _ _ hcl)⟩, _, rfl, ra, _, _, _, rfl, rfl, SqT.of (s2 _ _ rat'), rfl, cl, _, _, cellIx cs c, _, rfl, rfl, SqL.of (s2 _ _ hcl), rfl, flat_strs _, by rw [List.getElem?_map, jx1]; rfl, str_same c, str_first jx2, l2, _, _, _, rfl, rfl, SqL.of l22, atI_nat (by rw [List.getElem?_map, hwv]; rfl), _, rfl, ra, _, _, _, rfl, rfl, SqT.of (s2 _ _ rat'), rfl, d, _, rfl, DGet.k (k := Sum.inl wv) (s2 _ _ rdd), _, rfl, ?_⟩
      by_cases hin : wv ∈ cs1.map (·.1)
      · refine ite_yes (by rw [dict_some nd1, decide_eq_true hin]) ?_
        refine ⟨_, rfl, ra, _, _, _, rfl, rfl, SqT.of (s2 _ _ rat'), rfl, _, rfl, _, rfl, .inl ⟨rfl, _, SqL.of (s2 _ _ hcl)⟩, _, rfl, ra, _, _, _, rfl, rfl, SqT.of (s2 _ _ rat'), rfl, cl, _, _, cellIx cs c, _, rfl, rfl, SqL.of (s2 _ _ hcl), rfl, flat_strs _, by rw [List.getElem?_map, jx1]; rfl, str_same c, str_first jx2, l2, _, _, _, rfl, rfl, SqL.of l22, atI_nat (by rw [List.getElem?_map, hwv]; rfl), d, V.int (look cs1 wv : Nat), rfl, by rw [← valV_mem nd1 (look_mem hin)]; exact DGet.k (k := Sum.inl wv) (s2 _ _ rdd), ?_⟩
        exact ⟨_, rfl, _, rfl, _, rfl, l1, _, _, i, rfl, rfl, l12, ixl, _, rfl, _, rfl, (by show 2 ≤ sizeLine; decide), fun t' ht' => fin (look cs1 wv) ws H2 s2 l12 l22 (by unfold stepN; rw [re]; show ns.set i _ = ns.set i (caseOf cs1 (ws.getD (cellIx cs c) 0) m); rw [gw, caseOf_in hin]) (by unfold stepW; rw [re]; rfl) t' ht'⟩
      · refine ite_no (by rw [dict_some nd1, decide_eq_false hin]) ?_
        exact ⟨_, rfl, _, rfl, _, rfl, l1, _, _, i, rfl, rfl, l12, ixl, _, rfl, _, rfl, (by show 2 ≤ sizeLine; decide), fun t' ht' => fin m ws H2 s2 l12 l22 (by unfold stepN; rw [re]; show ns.set i m = ns.set i (caseOf cs1 (ws.getD (cellIx cs c) 0) m); rw [gw, caseOf_out hin]) (by unfold stepW; rw [re]; rfl) t' ht'⟩
end
end CC

set_option Elab.async false
set_option maxRecDepth 100000
namespace CC
open PySem PySem.Spec PyProof.Rows L2 RZ
set_option linter.unusedVariables false
def spStart : Sp := fun vs H Q _ => ∃ (q cl : Addr) (cs : List Str) (rss : List (List Row)), vs = [.ref q, .ref cl] ∧ RowsQ H q rss ∧ H cl = some (.lst (cs.map V.str)) ∧ cs.length ≤ 5 ∧ rss.length ≤ 5 ∧
  ∀ (t' : Addr) (H' : Hp), Same H H' → DueNew H H' t' (List.replicate rss.length 0) (List.replicate cs.length 0) → Q (.ref t') H'
def spAt : Sp := fun vs H Q _ => ∃ (q t : Addr) (wd : Str) (cs : List Str) (rss : List (List Row)) (ns : List Nat) (ws : List Int), vs = [.ref q, .ref t, .str wd] ∧ RowsQ H q rss ∧ DueAt H t ns ws ∧ Fits cs rss ns ws ∧ rss.length ≤ 5 ∧
  ∀ (q' : Addr) (H' : Hp), Same H H' → H q' = none → H' q' = some (.lst ((atS wd rss ns rss.length).map fun (n : Nat) => V.int (n : Nat))) → Q (.ref q') H'
section
variable {P : Program} {w : World} {K : PySem.W.Frag} {mg : Str → Option Value} {base : Heap}
theorem scStart : FnScope ["_law_rows_here", "_law_cells", "_law_one", "_law_cell"] ["_law_rows_here", "_law_cells"] (defScope sStart) := ⟨rfl, rfl, rfl, by decide +kernel, rfl, by decide +kernel, by decide +kernel⟩
theorem ok_start {f : Addr} {fd : FuncData} (F : Fun K "_law_start" "_law_start" sStart f fd) :
    FnOk P w K mg base CX0 1 f fd ["_law_rows_here", "_law_cells"] spStart := by
  refine F.ok scStart (fun vs H Q E h => ?_) (fun cdv A outer s H vs Q E hr h => ?_)
  · obtain ⟨q, cl, cs, rss, rfl, _⟩ := h
    rfl
  · refine ⟨_, pss_one (ps_ret (pe_tup (pa_cons (pe_lc (own := [("_law_one", 2)]) (g := gName 2) (by rfl) scStart.nd (pi_list (pv 0)) (blkOk_by (own := [("_law_one", 2)]) (N := ["_law_rows_here", "_law_cells", "_law_one", "_law_cell"]) (sc := defScope sStart) (by decide +kernel)) (fun _ _ _ _ _ => pg_name (i := 2) scStart.nd rfl (Or.inl rfl)) (fun _ _ _ _ _ => pts_nil) (fun _ _ _ _ _ => pe_int))
      (pa_cons (pe_lc (own := [("_law_cell", 3)]) (g := gName 3) (by rfl) scStart.nd (pi_list (pv 1)) (blkOk_by (own := [("_law_cell", 3)]) (N := ["_law_rows_here", "_law_cells", "_law_one", "_law_cell"]) (sc := defScope sStart) (by decide +kernel)) (fun _ _ _ _ _ => pg_name (i := 3) scStart.nd rfl (Or.inl rfl)) (fun _ _ _ _ _ => pts_nil) (fun _ _ _ _ _ => pe_int)) pa_nil)))), ?_⟩
    obtain ⟨q, cl, cs, rss, rfl, ⟨ls, hq, pls⟩, hcl, c5, r5, k⟩ := h
    have ll : ls.length = rss.length := pls.length
    refine ⟨_, rfl, q, rfl, ⟨_, SqL.of hq⟩, fun D hD => ?_⟩
    refine lc_list (K := K) (a := q) (xs := ls.map V.ref) (fun i H2 => H2 D = some (.lst ((List.replicate i 0).map fun (n : Nat) => V.int (n : Nat))) ∧ Same H H2) ⟨upd_same, same_new hD⟩ (fun i H2 _ ⟨_, e⟩ => SqL.of (e _ _ hq)) ?_ ?_
    · rintro i x H2 hi ⟨hD2, s2⟩
      have il := (List.getElem?_eq_some_iff.mp hi).1
      rw [List.length_map] at il
      refine ⟨rfl, tyes_if ⟨_, hD2, small (by rw [List.length_map, List.length_replicate]; omega), ?_, same_put s2 hD⟩⟩
      rw [upd_same, List.replicate_succ', List.map_append]
      rfl
    · rintro H2 ⟨hD2, s2⟩
      rw [List.length_map, ll] at hD2
      refine ⟨_, rfl, cl, rfl, ⟨_, SqL.of (s2 _ _ hcl)⟩, fun D2 hD2' => ?_⟩
      refine lc_list (K := K) (a := cl) (xs := cs.map V.str) (fun i H4 => H4 D2 = some (.lst ((List.replicate i (0 : Int)).map V.int)) ∧ Same H2 H4) ⟨upd_same, same_new hD2'⟩ (fun i H4 _ ⟨_, e⟩ => SqL.of (e _ _ (s2 _ _ hcl))) ?_ ?_
      · rintro i x H4 hi ⟨hD4, s4⟩
        have il := (List.getElem?_eq_some_iff.mp hi).1
        rw [List.length_map] at il
        refine ⟨rfl, tyes_if ⟨_, hD4, small (by rw [List.length_map, List.length_replicate]; omega), ?_, same_put s4 hD2'⟩⟩
        rw [upd_same, List.replicate_succ', List.map_append]
        rfl
      · rintro H4 ⟨hD4, s4⟩
        rw [List.length_map] at hD4
        refine ⟨(by show 2 ≤ sizeLine; decide), fun t ht => ?_⟩
        have s5 := same_new (o := .tup [V.ref D, V.ref D2]) ht
        exact k t _ (same_tr (same_tr s2 s4) s5) ⟨D, D2, hD, s2.free hD2', upd_same, s5 _ _ (s4 _ _ hD2), s5 _ _ hD4⟩
theorem scAt : FnScope ["_law_rows_here", "_law_state", "_law_sort", "_law_k"] ["_law_rows_here", "_law_state", "_law_sort"] (defScope sAt) := ⟨rfl, rfl, rfl, by decide +kernel, rfl, by decide +kernel, by decide +kernel⟩
theorem ok_at {f : Addr} {fd : FuncData} (F : Fun K "_law_at" "_law_at" sAt f fd) (tl : mg "len" = none) (tr : mg "range" = none) :
    FnOk P w K mg base CX0 1 f fd ["_law_rows_here", "_law_state", "_law_sort"] spAt := by
  refine F.ok scAt (fun vs H Q E h => ?_) (fun cdv A outer s H vs Q E hr h => ?_)
  · obtain ⟨q, t, wd, cs, rss, ns, ws, rfl, _⟩ := h
    rfl
  · refine ⟨_, pss_one (ps_ret (pe_lc (own := [("_law_k", 3)]) (g := gName 3) (by rfl) scAt.nd (pi_range1 rfl tr (pa_cons (pe_callB call_len_seq (by rfl) tl PySem.boot_len (pa_cons (pv 0) pa_nil)) pa_nil)) (blkOk_by (own := [("_law_k", 3)]) (N := ["_law_rows_here", "_law_state", "_law_sort", "_law_k"]) (sc := defScope sAt) (by decide +kernel)) (fun _ _ _ _ _ => pg_name (i := 3) scAt.nd rfl (Or.inl rfl))
        (fun _ _ _ _ _ => pts_one (pt_cmpR op_eq (pe_ix (ix_tupK (K := K) rfl) (pe_ix (ix_listK (K := K) rfl) (pe_ix (ix_listK (K := K) rfl) (pv 0) (pv 3) (fun _ _ => rfl)) (pe_ix (ix_listK (K := K) rfl) (pe_ix (ix_tupK (K := K) rfl) (pv 1) pe_int (fun _ _ => rfl)) (pv 3) (fun _ _ => rfl)) (fun _ _ => rfl)) pe_int (fun _ _ => rfl)) (pv 2) (nomark _)))
        (fun _ _ _ _ _ => pv 3))), ?_⟩
    obtain ⟨q, t, wd, cs, rss, ns, ws, rfl, ⟨ls, hq, pls⟩, ⟨a, b, t1, ta, tb⟩, fit, r5, k⟩ := h
    have ll : ls.length = rss.length := pls.length
    refine ⟨_, rfl, q, _, rfl, .inl (SqL.of hq), _, rfl, (by rw [List.length_map]; omega), (by rw [List.length_map]; omega), fun D hD => ?_⟩
    refine lc_range (lo := 0) (n := (ls.map V.ref).length) (fun i H2 => H2 D = some (.lst ((atS wd rss ns i).map fun (n : Nat) => V.int (n : Nat))) ∧ Same H H2) ⟨upd_same, same_new hD⟩ ?_ ?_
    · rintro i H2 hi ⟨hD2, s2⟩
      rw [List.length_map, ll] at hi
      obtain ⟨rs, hrs⟩ : ∃ rs, rss[i]? = some rs := ⟨_, List.getElem?_eq_getElem hi⟩
      obtain ⟨n, hn⟩ : ∃ n, ns[i]? = some n := ⟨_, List.getElem?_eq_getElem (by rw [fit.len]; exact hi)⟩
      obtain ⟨l, hl, ⟨as, hla, pas⟩⟩ := paired_at (paired_flip pls) hrs
      obtain ⟨r, hrn⟩ : ∃ r, rs[n]? = some r := ⟨_, List.getElem?_eq_getElem (fit.low i rs n hrs hn)⟩
      obtain ⟨ra, hra, rat⟩ := paired_at (paired_flip pas) hrn
      have re := rowAt_of hrs hn hrn
      obtain ⟨xs, hx⟩ := rat.head
      have z0 : (0 : Int) + (i : Nat) = (i : Nat) := Int.zero_add _
      refine ⟨rfl, ?_⟩
      refine ⟨_, rfl, _, rfl, q, _, _, _, rfl, rfl, SqL.of (s2 _ _ hq), by rw [z0]; exact atI_nat (by rw [List.getElem?_map, hl]; rfl), _, rfl, t, _, _, _, rfl, rfl, SqT.of (s2 _ _ t1), rfl, _, rfl, a, _, _, _, rfl, rfl, SqL.of (s2 _ _ ta), by rw [z0]; exact atI_nat (by rw [List.getElem?_map, hn]; rfl), l, _, _, _, rfl, rfl, SqL.of (s2 _ _ hla), atI_nat (by rw [List.getElem?_map, hra]; rfl), ra, _, _, _, rfl, rfl, SqT.of (s2 _ _ hx), atZ, _, rfl, rfl, _, rfl, ?_⟩
      by_cases e : r.word = wd
      · refine ite_yes (decide_eq_true (by rw [e])) ?_
        refine ⟨_, rfl, _, hD2, small (by rw [List.length_map]; have := atS_len (wd := wd) (rss := rss) (ns := ns) (i := i); omega), by rw [upd_same, atS_yes (by rw [re]; exact e), List.map_append, z0]; rfl, same_put s2 hD⟩
      · refine ite_no (decide_eq_false (fun z => e (V.str.inj z))) ?_
        exact ⟨by rw [atS_no (by rw [re]; exact e)]; exact hD2, s2⟩
    · rintro H2 ⟨hD2, s2⟩
      rw [List.length_map, ll] at hD2
      exact k D H2 s2 hD hD2
end
end CC

set_option Elab.async false
set_option maxRecDepth 100000
namespace CC
open PySem PySem.Spec PyProof.Rows L2 RZ
set_option linter.unusedVariables false
theorem canAll_ints : ∀ is : List Int, PyData.canLayAll0 (is.map PyData.int) = true
  | [] => by simp [PyData.canLayAll0]
  | x :: r => by simp [PyData.canLayAll0, PyData.canLay0, canAll_ints r]
theorem depth_ints : ∀ is : List Int, PyData.depthAll (is.map PyData.int) ≤ 1
  | [] => by simp [PyData.depthAll]
  | x :: r => by
    have := depth_ints r
    simp [PyData.depthAll, PyData.depth]
    exact this
theorem can_list (is : List Int) : PyData.canLay0 (.list (is.map PyData.int)) = true := by
  simp [PyData.canLay0, canAll_ints]
theorem can_tup (is : List Int) : PyData.canLay0 (.tuple (is.map PyData.int)) = true := by
  simp [PyData.canLay0, canAll_ints]
theorem shaped_ints (is : List Int) : SeqAt.shaped (.list (is.map PyData.int)) = true := by
  have h := depth_ints is
  unfold SeqAt.shaped
  rw [can_list]
  have e : PyData.depth (.list (is.map PyData.int)) ≤ 64 := by
    simp only [PyData.depth]
    omega
  rw [decide_eq_true e]
  rfl
theorem shaped_two (is js : List Int) : SeqAt.shaped (.tuple [.tuple (is.map PyData.int), .tuple (js.map PyData.int)]) = true := by
  have h1 := depth_ints is
  have h2 := depth_ints js
  unfold SeqAt.shaped
  have e : PyData.depth (.tuple [.tuple (is.map PyData.int), .tuple (js.map PyData.int)]) ≤ 64 := by
    simp only [PyData.depth, PyData.depthAll]
    omega
  rw [decide_eq_true e]
  simp [PyData.canLay0, PyData.canLayAll0, canAll_ints]
theorem dpall_ints {K : PySem.W.Frag} {H : Hp} : ∀ is : List Int, DpAll K H (is.map V.int) (is.map PyData.int)
  | [] => .nil
  | x :: r => .cons (.int x) (dpall_ints r)
theorem nat_ints (ns : List Nat) : (ns.map fun n => V.int (n : Nat)) = (ns.map fun n => ((n : Nat) : Int)).map V.int := by
  rw [List.map_map]
  rfl
theorem dp_nats {K : PySem.W.Frag} {H : Hp} {q : Addr} {ns : List Nat} (h : H q = some (.lst (ns.map fun n => V.int (n : Nat)))) : Dp K H (.ref q) (.list ((ns.map fun n => ((n : Nat) : Int)).map PyData.int)) := by
  rw [nat_ints] at h
  exact .lst (SqL.of h) (dpall_ints _)
theorem dp_state {K : PySem.W.Frag} {H : Hp} {t a b : Addr} {ns : List Nat} {ws : List Int} (h1 : H t = some (.tup [.ref a, .ref b])) (h2 : H a = some (.tup (ns.map fun n => V.int (n : Nat)))) (h3 : H b = some (.tup (ws.map V.int))) :
    Dp K H (.ref t) (.tuple [.tuple ((ns.map fun n => ((n : Nat) : Int)).map PyData.int), .tuple (ws.map PyData.int)]) := by
  rw [nat_ints] at h2
  exact .tup (SqT.of h1) (.cons (.tup (SqT.of h2) (dpall_ints _)) (.cons (.tup (SqT.of h3) (dpall_ints _)) .nil))
theorem eqv_same {d : PyData} (h : SeqAt.shaped d = true) : PyData.eqv d d = true := SeqAt.eqv_refl d (SeqAt.canLay_of_shaped h)
def cellW (rss : List (List Row)) (ns : List Nat) (j : Nat) : Str := match rowAt rss ns j with
  | .wr c _ _ => c
  | _ => ""
theorem kvW_at {rss : List (List Row)} {ns : List Nat} : ∀ i : Nat, kvW (wrS rss ns i) = (atS "write" rss ns i).map fun (j : Nat) => ((Sum.inl (j : Int) : Key), V.str (cellW rss ns j))
  | 0 => rfl
  | i + 1 => by
    have ih := kvW_at (rss := rss) (ns := ns) i
    cases e : rowAt rss ns i with
    | wr c v m =>
      have h1 : wrAt rss ns i = some (i, c) := by unfold wrAt; rw [e]
      have h2 : cellW rss ns i = c := by unfold cellW; rw [e]
      rw [wrS_some h1, atS_yes (by rw [e]; rfl), List.map_append, ← ih, ← h2]
      unfold kvW
      rw [List.map_append]
      rfl
    | rest m =>
      rw [wrS_none (by unfold wrAt; rw [e]), atS_no (by rw [e]; exact show (Str.ofString "rest") ≠ Str.ofString "write" by decide +kernel)]
      exact ih
    | ins m =>
      rw [wrS_none (by unfold wrAt; rw [e]), atS_no (by rw [e]; exact show (Str.ofString "inside") ≠ Str.ofString "write" by decide +kernel)]
      exact ih
    | rd c cs m =>
      rw [wrS_none (by unfold wrAt; rw [e]), atS_no (by rw [e]; exact show (Str.ofString "read") ≠ Str.ofString "write" by decide +kernel)]
      exact ih
theorem atS_pw {wd : Str} {rss : List (List Row)} {ns : List Nat} {i : Nat} : (atS wd rss ns i).Pairwise (· < ·) := by
  unfold atS
  exact List.Pairwise.filter _ List.pairwise_lt_range
theorem atS_nd {wd : Str} {rss : List (List Row)} {ns : List Nat} {i : Nat} : (atS wd rss ns i).Nodup := atS_pw.imp fun h => Nat.ne_of_lt h
theorem merge_out : ∀ (kvs done : List (Key × V)), ((done ++ kvs).map (·.1)).Nodup → mergeK done kvs = done ++ kvs
  | [], done, _ => by rw [List.append_nil]; rfl
  | p :: r, done, h => by
    have hn : p.1 ∉ done.map (·.1) := by
      rw [List.map_append, List.nodup_append] at h
      intro m
      exact h.2.2 _ m _ (List.mem_cons_self ..) rfl
    show mergeK (putK done p.1 p.2) r = _
    rw [putK_new _ (valV_out hn)]
    have e : done ++ p :: r = (done ++ [p]) ++ r := by simp
    rw [e] at h ⊢
    exact merge_out r (done ++ [p]) h
theorem keysW {rss : List (List Row)} {ns : List Nat} {i : Nat} : (kvW (wrS rss ns i)).map (·.1) = ((atS "write" rss ns i).map fun (j : Nat) => (j : Int)).map Sum.inl := by
  rw [kvW_at, List.map_map, List.map_map]
  rfl
theorem keysW_nd {rss : List (List Row)} {ns : List Nat} {i : Nat} : ((kvW (wrS rss ns i)).map (·.1)).Nodup := by
  rw [keysW, List.map_map]
  unfold List.Nodup
  rw [List.pairwise_map]
  refine atS_nd.imp ?_
  intro a b h z
  have z' : ((a : Nat) : Int) = (b : Nat) := Sum.inl.inj z
  omega
theorem valV_self {kvs : List (Key × V)} (nd : (kvs.map (·.1)).Nodup) : ∀ p ∈ kvs, valV kvs p.1 = some p.2 := by
  induction kvs with
  | nil => intro p h; cases h
  | cons q r ih =>
    intro p h
    have nd' : (q.1 :: r.map (·.1)).Nodup := nd
    cases h with
    | head =>
      show valV ((q.1, q.2) :: r) q.1 = some q.2
      unfold valV
      rw [List.find?_cons]
      simp
    | tail _ h =>
      show valV ((q.1, q.2) :: r) p.1 = some p.2
      rw [valV_neg (by intro e; rw [e] at nd'; exact (List.nodup_cons.mp nd').1 (List.mem_map.mpr ⟨p, h, rfl⟩))]
      exact ih (List.nodup_cons.mp nd').2 p h
theorem flatW {rss : List (List Row)} {ns : List Nat} {i : Nat} : ∀ p ∈ kvW (wrS rss ns i), flatB p.2 = true := fun p h => by
  rw [kvW_at] at h
  obtain ⟨j, _, rfl⟩ := List.mem_map.mp h
  rfl
end CC

set_option Elab.async false
set_option maxRecDepth 100000
namespace CC
open PySem PySem.Spec PyProof.Rows L2 RZ
set_option linter.unusedVariables false
abbrev sMade : Stmt := top 53
theorem passE0 {P : Program} {w : World} {X : Cx} : Passes (L2.CX P w) X E0 := fun _ _ _ _ _ _ _ h => by
  obtain ⟨_, _, _, _, _, _, _, _, _, _, _, _, h⟩ := h
  exact h.elim
theorem dic_kv (cs : List (Int × Nat)) : ((cs.map fun kv => ((Sum.inl kv.1 : Key), some (kv.2 : Int))).map fun kv => (kv.1, vV kv.2)) = kvOf cs := by
  unfold kvOf
  rw [List.map_map]
  rfl
theorem toD_at {P : Program} {w : World} {H : Hp} {r : Row} {a : Addr} {n : Nat} {cells : List Str} (h : RowAt H r a) (ok : r.ok n cells) (nm : ∀ c ∈ cells, OkName c) : RowDAt P w H (toD r) (.ref a) := by
  have s1 : (Th.str "rest").small := by show (Str.ofString "rest").length ≤ 1000; decide +kernel
  have s2 : (Th.str "inside").small := by show (Str.ofString "inside").length ≤ 1000; decide +kernel
  have s3 : (Th.str "write").small := by show (Str.ofString "write").length ≤ 1000; decide +kernel
  have s4 : (Th.str "read").small := by show (Str.ofString "read").length ≤ 1000; decide +kernel
  cases r with
  | rest m =>
    refine ⟨a, _, rfl, h, .cons rfl (.cons rfl .nil), fun t ht => ?_, (by show 2 ≤ 100; decide)⟩
    rcases List.mem_cons.mp ht with rfl | ht
    · exact s1
    · rcases List.mem_cons.mp ht with rfl | ht
      · trivial
      · cases ht
  | ins m =>
    refine ⟨a, _, rfl, h, .cons rfl (.cons rfl .nil), fun t ht => ?_, (by show 2 ≤ 100; decide)⟩
    rcases List.mem_cons.mp ht with rfl | ht
    · exact s2
    · rcases List.mem_cons.mp ht with rfl | ht
      · trivial
      · cases ht
  | wr c v m =>
    have o := nm c ok.1
    refine ⟨a, _, rfl, h, .cons rfl (.cons rfl (.cons rfl (.cons rfl .nil))), fun t ht => ?_, (by show 4 ≤ 100; decide)⟩
    rcases List.mem_cons.mp ht with rfl | ht
    · exact s3
    · rcases List.mem_cons.mp ht with rfl | ht
      · exact Nat.le_trans o.2.2 (by decide)
      · rcases List.mem_cons.mp ht with rfl | ht
        · trivial
        · rcases List.mem_cons.mp ht with rfl | ht
          · trivial
          · cases ht
  | rd c cs m =>
    have o := nm c ok.1
    obtain ⟨d, h1, h2⟩ := h
    refine ⟨a, _, rfl, h1, .cons rfl (.cons rfl (.cons ⟨d, rfl, by rw [dic_kv]; exact h2⟩ (.cons rfl .nil))), fun t ht => ?_, (by show 4 ≤ 100; decide)⟩
    rcases List.mem_cons.mp ht with rfl | ht
    · exact s4
    · rcases List.mem_cons.mp ht with rfl | ht
      · exact Nat.le_trans o.2.2 (by decide)
      · rcases List.mem_cons.mp ht with rfl | ht
        · refine ⟨by rw [List.length_map]; exact ok.2.2.2.2, ?_⟩
          rw [List.map_map]
          have e : (cs.map ((fun x : Key × Option Int => x.1) ∘ fun kv : Int × Nat => ((Sum.inl kv.1 : Key), some (kv.2 : Int)))) = (cs.map (·.1)).map (Sum.inl : Int → Key) := by rw [List.map_map]; rfl
          rw [e]
          unfold List.Nodup
          rw [List.pairwise_map]
          exact List.Pairwise.imp (fun h z => h (Sum.inl.inj z)) ok.2.1
        · rcases List.mem_cons.mp ht with rfl | ht
          · trivial
          · cases ht
theorem rows_arg {P : Program} {w : World} {H : Hp} {rs : List Row} {l : Addr} {cells : List Str} (h : RowsAt H rs l) (g : Good cells rs) (nm : ∀ c ∈ cells, OkName c) : ArgAt P w H (.rows (rs.map toD)) (.ref l) := by
  obtain ⟨as, h1, h2⟩ := h
  refine .inl ⟨l, _, rfl, h1, ?_, by rw [List.length_map]; have := g.2.2.2; omega⟩
  have key : ∀ (as : List Addr) (rs' : List Row), Paired (fun a r => RowAt H r a) as rs' → (∀ r ∈ rs', r ∈ rs) → Paired (fun v d => RowDAt P w H d v) (as.map V.ref) (rs'.map toD) := by
    intro as rs' p
    induction p with
    | nil => intro _; exact .nil
    | cons x t ih =>
      intro hm
      exact .cons (toD_at x (g.1 _ (hm _ (List.mem_cons_self ..))) nm) (ih fun r hr => hm r (List.mem_cons_of_mem _ hr))
  exact key as rs h2 fun r hr => hr
theorem ProgAt.put {C : Addr} {H : Hp} {p D : Addr} {rs : List Row} {xs ys : List V} (h : ProgAt C H p rs) (hD : H D = some (.lst xs)) : ProgAt C (upd H D (.lst ys)) p rs := by
  obtain ⟨dx, T, as, rs', h1, h2, h3, h4⟩ := h
  exact ⟨dx, T, as, rs', by rw [upd_ne (ne_of h1 hD (by intro z; cases z))]; exact h1, by rw [upd_ne (ne_of h2 hD (by intro z; cases z))]; exact h2, L2.Paired.mapP h3 fun a r e => e.put hD, h4⟩
/-- a program of a field: right rows, inside just once -/
def Fine (zs : List Str) (rs : List Row) : Prop := Good zs rs ∧ ∃ lab, Lab lab rs
def spMade (CF : Addr) : Sp := fun vs H Q _ => ∃ (cl q : Addr) (zs : List Str) (rss : List (List Row)), vs = [.ref cl, .ref q] ∧ H cl = some (.lst (zs.map V.str)) ∧ (∀ z ∈ zs, OkName z) ∧ zs.Nodup ∧ zs.length ≤ 5 ∧ RowsQ H q rss ∧ (∀ rs ∈ rss, Fine zs rs) ∧ 1 ≤ rss.length ∧ rss.length ≤ 5 ∧
  ∀ (f : Addr) (cs : List Str) (H' : Hp), Same H H' → cs.Perm zs → sortedS cs = true → FieldAt CF H' f cs rss → Q (.ref f) H'
/-- what Program's own words ask of rows that are fine -/
theorem prog_asks {P : Program} {w : World} {C CB CN : Addr} {H : Hp} {x dx l : Addr} {zs : List Str} {rs : List Row} {Q : VK} (hx : H x = some (.ins C dx [])) (hl : RowsAt H rs l) (fi : Fine zs rs) (nm : ∀ c ∈ zs, OkName c)
    (k : ∀ H', (∀ b o, H b = some o → b ≠ x → H' b = some o) → ProgAt C H' x rs → Q .non H') : spProgInit P w C CB CN [.ref x, .ref l] H Q E0 := by
  obtain ⟨g, lab, hlab⟩ := fi
  have nw : NoWrong (rs.map toD) := no_wrong g.1 nm g.2.1
  refine ⟨x, dx, .rows (rs.map toD), .ref l, rfl, hx, rows_arg hl g nm, fun ds e => ?_, fun i wn => ?_, fun ds e _ _ => ⟨fun rs0 rs' i m e0 sim hi => ?_, fun rs0 e0 H' gg pa => ?_, fun f rs0 e0 hf no => ?_⟩⟩
  · cases e
    rw [List.length_map]
    have := g.2.2.2
    omega
  · rcases wn with ⟨⟨d, hd, bad⟩, _⟩ | ⟨_, n, _⟩
    · rw [nw i d hd] at bad
      cases bad
    · rw [List.length_map] at n
      exact absurd ⟨g.2.2.1, g.2.2.2⟩ n
  · cases e
    have := map_toD_inj e0
    subst this
    exact (hlab.sim sim).few (by rw [← sim.length]; exact g.2.2.2) hi
  · cases e
    have := map_toD_inj e0
    subst this
    exact k H' gg pa
  · cases e
    have := map_toD_inj e0
    subst this
    obtain ⟨m, hm⟩ := hf
    exact absurd (hlab.once hm) no
end CC

set_option Elab.async false
set_option maxRecDepth 100000
namespace CC
open PySem PySem.Spec PyProof.Rows L2 RZ
set_option linter.unusedVariables false
theorem Row.ok_cell {n : Nat} {zs : List Str} {r : Row} (h : r.ok n zs) {c : Str} (e : cellOf r = some c) : c ∈ zs := by
  cases r with
  | rest m => cases e
  | ins m => cases e
  | wr c' v m =>
    cases e
    exact h.1
  | rd c' cs m =>
    cases e
    exact h.1
section
variable {P : Program} {w : World} {K : PySem.W.Frag} {mg : Str → Option Value} {base : Heap}
theorem scMade : FnScope ["_law_cells", "_law_programs", "_law_rows_here"] ["_law_cells", "_law_programs"] (defScope sMade) := ⟨rfl, rfl, rfl, by decide +kernel, rfl, by decide +kernel, by decide +kernel⟩
theorem ok_made {f fP fF C CF CB CN : Addr} {fd fdP fdF : FuncData} (F : Fun K "_law_made" "_law_made" sMade f fd)
    (MP : Mk K C fP) (gP : mg "Program" = some (.ref C)) (GP : FnOk P w K mg base (L2.CX P w) 6 fP fdP ["self", "rows"] (spProgInit P w C CB CN)) (bP : L2.Binds K fdP ["self", "rows"] [])
    (MF : Mk K CF fF) (gF : mg "Field" = some (.ref CF)) (GF : FnOk P w K mg base CX0 4 fF fdF ["self", "cells", "programs"] (spFieldInit C CF)) (bF : L2.Binds K fdF ["self", "cells", "programs"] []) :
    FnOk P w K mg base CX0 8 f fd ["_law_cells", "_law_programs"] (spMade CF) := by
  refine F.ok scMade (fun vs H Q E h => ?_) (fun cdv A outer s H vs Q E hr h => ?_)
  · obtain ⟨cl, q, zs, rss, rfl, _⟩ := h
    rfl
  · have hr5 : Room 5 _ := hr.mono (by decide)
    refine ⟨_, pss_one (ps_ret (pe_make MF GF hr5 (by rfl) gF bF .nil pass0 (pa_cons (pv 0) (pa_cons (pe_lc (own := [("_law_rows_here", 2)]) (g := gName 2) (by rfl) scMade.nd (pi_list (pv 1)) (blkOk_by (own := [("_law_rows_here", 2)]) (N := ["_law_cells", "_law_programs", "_law_rows_here"]) (sc := defScope sMade) (by decide +kernel)) (fun _ _ _ _ _ => pg_name (i := 2) scMade.nd rfl (Or.inl rfl)) (fun _ _ _ _ _ => pts_nil)
        (fun _ _ _ _ _ => pe_make MP GP hr (by rfl) gP bP .nil passE0 (pa_cons (pv 2) pa_nil))) pa_nil)))), ?_⟩
    obtain ⟨cl, q, zs, rss, rfl, hcl, nm, nd, z5, ⟨ls, hq, pls⟩, fine, r1, r5, k⟩ := h
    have ll : ls.length = rss.length := pls.length
    refine ⟨_, rfl, _, rfl, q, rfl, ⟨_, SqL.of hq⟩, fun D hD => ?_⟩
    refine lc_list (K := K) (a := q) (xs := ls.map V.ref) (fun i Ha => ∃ ps : List Addr, Ha D = some (.lst (ps.map V.ref)) ∧ Paired (fun p rs => ProgAt C Ha p rs) ps (rss.take i) ∧ Same H Ha) ⟨[], upd_same, .nil, same_new hD⟩ (fun i Ha _ ⟨_, _, _, e⟩ => SqL.of (e _ _ hq)) ?_ ?_
    · rintro i x Ha hi ⟨ps, hDa, pps, sa⟩
      rw [List.getElem?_map] at hi
      obtain ⟨l, hl, rfl⟩ := Option.map_eq_some_iff.mp hi
      obtain ⟨rs, hrs, rat⟩ := paired_at pls hl
      have il := (List.getElem?_eq_some_iff.mp hl).1
      have fi := fine rs (List.mem_of_getElem? hrs)
      have pl5 : ps.length ≤ 5 := by
        rw [pps.length, List.length_take]
        omega
      refine ⟨rfl, tyes_if ⟨_, rfl, fun p dx hp hdx ne => ?_⟩⟩
      have sdx := same_new (o := .own p) hdx
      have hp' : (upd Ha dx (.own p)) p = none := by rw [upd_ne ne.symm]; exact hp
      have sp := same_tr sdx (same_new (o := .ins C dx []) hp')
      refine prog_asks upd_same ((rat.same sa).same sp) fi nm fun H' g pa => ⟨rfl, ?_⟩
      have sb : Same Ha H' := fun b o e => g _ _ (sp _ _ e) (ne_of_none e hp)
      have hD' := sb _ _ hDa
      have tk : rss.take (i + 1) = rss.take i ++ [rs] := by rw [List.take_add_one, hrs]; rfl
      refine ⟨_, hD', small (by rw [List.length_map]; omega), ps ++ [p], by rw [upd_same, List.map_append]; rfl, ?_, same_put (same_tr sa sb) hD⟩
      rw [tk]
      exact Paired.snoc (L2.Paired.mapP pps fun p rs e => (e.mono sb).put hD') (pa.put hD')
    · rintro Ha ⟨ps, hDa, pps, sa⟩
      rw [List.length_map, ll, List.take_length] at pps
      refine fun f dx hf hdx ne => ?_
      have sdx := same_new (o := .own f) hdx
      have hf' : (upd Ha dx (.own f)) f = none := by rw [upd_ne ne.symm]; exact hf
      have sp := same_tr sdx (same_new (o := .ins CF dx []) hf')
      refine ⟨f, dx, cl, D, zs, ps, rss, rfl, upd_same, sp _ _ (sa _ _ hcl), nm, nd, z5, sp _ _ hDa, ?_, by rw [pps.length]; exact r1, by rw [pps.length]; exact r5, fun cs H' pm so g fa => ⟨rfl, k f cs H' (fun b o e => g _ _ (sp _ _ (sa _ _ e)) (ne_of_none (sa _ _ e) hf)) pm so fa⟩⟩
      have key : ∀ (ps : List Addr) (rs' : List (List Row)), Paired (fun p rs => ProgAt C Ha p rs) ps rs' → (∀ r ∈ rs', r ∈ rss) → Paired (fun p rs => ProgAt C (upd (upd Ha dx (.own f)) f (.ins CF dx [])) p rs ∧ rs.length ≤ 60 ∧ (∀ r ∈ rs, r.low rs.length) ∧ ∀ r ∈ rs, ∀ c, cellOf r = some c → c ∈ zs) ps rs' := by
        intro ps rs' p
        induction p with
        | nil => intro _; exact .nil
        | cons x t ih =>
          intro hm
          have g := (fine _ (hm _ (List.mem_cons_self ..))).1
          exact .cons ⟨x.mono sp, g.2.2.2, fun r hr => Row.ok_low (g.1 r hr), fun r hr c e => Row.ok_cell (g.1 r hr) e⟩ (ih fun r hr => hm r (List.mem_cons_of_mem _ hr))
      exact key ps rss pps fun r hr => hr
end
end CC

set_option Elab.async false
set_option maxRecDepth 100000
namespace CC
open PySem PySem.Spec PyProof.Rows L2 RZ
set_option linter.unusedVariables false
/-! ### what the law needs: sorted names, things that stand while the source grows -/
theorem rising_le {p x : Str} (h : (!ltCps x.cps.toList p.cps.toList) = true) : p.cps.toList ≤ x.cps.toList := by
  rw [ltCps_eq] at h
  have h' : ¬ (x.cps.toList < p.cps.toList) := by
    intro z
    rw [decide_eq_true z] at h
    cases h
  exact List.not_lt.mp h'
theorem rising_pw : ∀ (l : List Str) (p : Str), risingS p l = true → (p :: l).Pairwise (fun a b => a.cps.toList ≤ b.cps.toList)
  | [], p, _ => by simp
  | x :: r, p, h => by
    have h' : (!ltCps x.cps.toList p.cps.toList && risingS x r) = true := h
    rw [Bool.and_eq_true] at h'
    have ih := rising_pw r x h'.2
    have px := rising_le h'.1
    refine List.Pairwise.cons (fun y hy => ?_) ih
    rcases List.mem_cons.mp hy with rfl | hy
    · exact px
    · exact List.le_trans px (List.rel_of_pairwise_cons ih hy)
theorem sorted_pw {l : List Str} (h : sortedS l = true) : l.Pairwise (fun a b => a.cps.toList ≤ b.cps.toList) := by
  cases l with
  | nil => simp
  | cons x r => exact rising_pw r x h
theorem sorted_one {l m : List Str} (p : l.Perm m) (h1 : sortedS l = true) (h2 : sortedS m = true) : l = m := by
  refine List.Perm.eq_of_pairwise (le := fun a b : Str => a.cps.toList ≤ b.cps.toList) (fun a b _ _ h1 h2 => ?_) (sorted_pw h1) (sorted_pw h2) p
  have e := List.le_antisymm h1 h2
  cases a with
  | mk a => cases b with
    | mk b => exact congrArg Str.mk (Array.toList_inj.mp e)
def DueP (p : Addr) (H : Hp) (t : Addr) (ns : List Nat) (ws : List Int) : Prop := ∃ a b, p ≠ a ∧ p ≠ b ∧ H t = some (.tup [.ref a, .ref b]) ∧ H a = some (.lst (ns.map fun n => V.int (n : Nat))) ∧ H b = some (.lst (ws.map V.int))
theorem DueP.at {p : Addr} {H : Hp} {t : Addr} {ns : List Nat} {ws : List Int} (h : DueP p H t ns ws) : DueAt H t ns ws := by
  obtain ⟨a, b, _, _, h⟩ := h
  exact ⟨a, b, h⟩
theorem DueP.mono {p : Addr} {H H' : Hp} {t : Addr} {ns : List Nat} {ws : List Int} (h : DueP p H t ns ws) (s : Same H H') : DueP p H' t ns ws := by
  obtain ⟨a, b, n1, n2, h1, h2, h3⟩ := h
  exact ⟨a, b, n1, n2, s _ _ h1, s _ _ h2, s _ _ h3⟩
theorem DueNew.p {p : Addr} {n : Nat} {H H' : Hp} {t : Addr} {ns : List Nat} {ws : List Int} (h : DueNew H H' t ns ws) (s : Src p n H) : DueP p H' t ns ws := by
  obtain ⟨a, b, n1, n2, h⟩ := h
  exact ⟨a, b, s.ne n1, s.ne n2, h⟩
section
variable {p : Addr} {n : Nat} {H H' : Hp}
theorem Src.tup {t : Addr} {xs : List V} (s : Src p n H) (h : H t = some (.tup xs)) : t ≠ p := by
  obtain ⟨g, z, c, hp, _⟩ := s
  exact ne_of h hp (by intro z; cases z)
theorem Src.refs {t : Addr} {as : List Addr} (s : Src p n H) (h : H t = some (.lst (as.map V.ref))) : t ≠ p := by
  obtain ⟨g, z, c, hp, _⟩ := s
  refine ne_of h hp (fun e => ?_)
  cases as with
  | nil => cases e
  | cons a as => cases e
theorem DueP.grow {t : Addr} {ns : List Nat} {ws : List Int} (h : DueP p H t ns ws) (g : Grow p H H') (s : Src p n H) : DueP p H' t ns ws := by
  obtain ⟨a, b, n1, n2, h1, h2, h3⟩ := h
  exact ⟨a, b, n1, n2, g _ _ h1 (s.tup h1), g _ _ h2 n1.symm, g _ _ h3 n2.symm⟩
theorem StateAt.grow {t : Addr} {ns : List Nat} {ws : List Int} (h : StateAt H t ns ws) (g : Grow p H H') (s : Src p n H) : StateAt H' t ns ws := by
  obtain ⟨a, b, h1, h2, h3⟩ := h
  exact ⟨a, b, g _ _ h1 (s.tup h1), g _ _ h2 (s.tup h2), g _ _ h3 (s.tup h3)⟩
theorem RowsQ.grow {q : Addr} {rss : List (List Row)} (h : RowsQ H q rss) (g : Grow p H H') (s : Src p n H) : RowsQ H' q rss := by
  obtain ⟨ls, h1, h2⟩ := h
  refine ⟨ls, g _ _ h1 (s.refs h1), L2.Paired.mapP h2 fun l rs e => ?_⟩
  have e0 := e
  obtain ⟨as, e1, e2⟩ := e0
  exact e.grow g s (s.refs e1).symm
theorem FieldAt.grow {CF f : Addr} {cs : List Str} {rss : List (List Row)} (h : FieldAt CF H f cs rss) (g : Grow p H H') (s : Src p n H) : FieldAt CF H' f cs rss := by
  have s0 := s
  obtain ⟨gg, z, c, hp, _⟩ := s0
  obtain ⟨dx, T1, T2, T3, ps, ls, h1, ⟨o, od, h2⟩, h3, h4, h5, h6⟩ := h
  refine ⟨dx, T1, T2, T3, ps, ls, g _ _ h1 (ne_of h1 hp (by intro z; cases z)), ⟨o, od, g _ _ h2 (ne_of h2 hp (by intro z; cases z))⟩, g _ _ h3 (s.tup h3), g _ _ h4 (s.tup h4), h5, L2.Paired.mapP h6 fun l rs e => ?_⟩
  obtain ⟨r2, e, sm⟩ := e
  have e0 := e
  obtain ⟨as, e1, e2⟩ := e0
  exact ⟨r2, e.grow g s (s.refs e1).symm, sm⟩
theorem Src.same {H' : Hp} (s : Src p n H) (e : Same H H') : Src p n H' := by
  obtain ⟨g, z, c, hp, r⟩ := s
  exact ⟨g, z, c, e _ _ hp, r⟩
end
theorem fits_start {cs : List Str} {rss : List (List Row)} (h : ∀ rs ∈ rss, 0 < rs.length) : Fits cs rss (List.replicate rss.length 0) (List.replicate cs.length 0) := by
  refine ⟨List.length_replicate .., fun i rs n h1 h2 => ?_, List.length_replicate ..⟩
  obtain ⟨_, e⟩ := List.getElem?_eq_some_iff.mp h2
  rw [List.getElem_replicate] at e
  rw [← e]
  exact h rs (List.mem_of_getElem? h1)
theorem caseOf_low {cs : List (Int × Nat)} {v : Int} {m n : Nat} (h : ∀ kv ∈ cs, kv.2 < n) (hm : m < n) : caseOf cs v m < n := by
  by_cases e : v ∈ cs.map (·.1)
  · rw [caseOf_in e]
    exact h _ (look_mem e)
  · rw [caseOf_out e]
    exact hm
theorem to_low {cs : List Str} {ws : List Int} {n : Nat} {r : Row} (h : r.low n) : r.to_ cs ws < n := by
  cases r with
  | rest m => exact h
  | ins m => exact h
  | wr c v m => exact h
  | rd c cases m => exact caseOf_low h.2.1 h.2.2.1
theorem put_len {cs : List Str} {ws : List Int} {r : Row} : (r.put_ cs ws).length = ws.length := by
  cases r <;> first | rfl | exact List.length_set ..
theorem fits_step {cs : List Str} {rss : List (List Row)} {ns : List Nat} {ws : List Int} {i : Nat} (f : Fits cs rss ns ws) (low : RowsIn cs rss) (hi : i < rss.length) : Fits cs rss (stepN cs rss ns ws i) (stepW cs rss ns ws i) := by
  refine ⟨by unfold stepN; rw [List.length_set]; exact f.len, fun j rs n h1 h2 => ?_, by unfold stepW; rw [put_len]; exact f.wlen⟩
  unfold stepN at h2
  rw [List.getElem?_set] at h2
  by_cases e : i = j
  · subst e
    have il : i < ns.length := by rw [f.len]; exact hi
    rw [if_pos rfl, if_pos il] at h2
    cases h2
    obtain ⟨m, hm⟩ : ∃ m, ns[i]? = some m := ⟨_, List.getElem?_eq_getElem il⟩
    have ml := f.low i rs m h1 hm
    obtain ⟨r, hr⟩ : ∃ r, rs[m]? = some r := ⟨_, List.getElem?_eq_getElem ml⟩
    rw [rowAt_of h1 hm hr]
    exact to_low (low rs (List.mem_of_getElem? h1) r (List.mem_of_getElem? hr)).1
  · rw [if_neg e] at h2
    exact f.low j rs n h1 h2
/-! ### texts of names -/
theorem strok_name {z : Str} (h : OkName z) : PyData.strOk z = true := by
  unfold PyData.strOk
  rw [Array.all_eq_true_iff_forall_mem]
  intro c hc
  have := h.1 c (Array.mem_toList_iff.mpr hc)
  exact decide_eq_true (by omega)
theorem strs_lay : ∀ {zs : List Str}, (∀ z ∈ zs, OkName z) → PyData.canLayAll0 (zs.map PyData.str) = true ∧ PyData.depthAll (zs.map PyData.str) ≤ 0
  | [], _ => ⟨by simp [PyData.canLayAll0], by simp [PyData.depthAll]⟩
  | z :: zs, h => by
    obtain ⟨h1, h2⟩ := strs_lay fun x hx => h x (List.mem_cons_of_mem _ hx)
    refine ⟨by simp only [List.map_cons, PyData.canLayAll0, PyData.canLay0, h1, strok_name (h z (List.mem_cons_self ..)), Bool.and_self], ?_⟩
    simp only [List.map_cons, PyData.depthAll, PyData.depth]
    omega
theorem strs_shaped {zs : List Str} (h : ∀ z ∈ zs, OkName z) : SeqAt.shaped (.list (zs.map PyData.str)) = true := by
  obtain ⟨h1, h2⟩ := strs_lay h
  have h3 : PyData.depth (.list (zs.map PyData.str)) ≤ 64 := by
    simp only [PyData.depth]
    omega
  show (PyData.canLay0 (.list (zs.map PyData.str)) && decide (PyData.depth (.list (zs.map PyData.str)) ≤ 64)) = true
  rw [Bool.and_eq_true]
  exact ⟨by simp only [PyData.canLay0]; exact h1, decide_eq_true h3⟩
end CC

set_option Elab.async false
set_option maxRecDepth 100000
namespace CC
open PySem PySem.Spec PyProof.Rows L2 RZ
set_option linter.unusedVariables false
/-! ### len of an own object that has the method -/
section
variable {X : Cx} {CX : CXT} {C g : Addr} {k : Nat} {fd : FuncData} {ps : List Str} {sp : Sp}
theorem call_lenOwn {E : XK} (hs : PySem.W.findIn X.K (.ref C) "__len__" = some (some (.ref g))) (hf : PySem.W.isFn X.K (.ref g) = true)
    (F : FnOk X.prog X.w X.K X.mg X.base CX k g fd ps sp) (hr : Room (k + 1) X.A) (hb : L2.Binds X.K fd ps []) (hx : Passes CX X E) :
    CallR X (.builtin "len") (fun xs H Q => ∃ a dx fs, xs = [.ref a] ∧ H a = some (.ins C dx fs) ∧ sp [.ref a] H (fun v H' => ∃ n : Nat, v = .int n ∧ n < 9223372036854775808 ∧ Q (.int n) H') E) := by
  intro pins s σ H xs us Q I r h
  obtain ⟨a, dx, fs, rfl, ea, q⟩ := h
  obtain ⟨u, rfl, rx⟩ := vals1 r
  obtain rfl : u = Value.ref a := rx
  obtain ⟨m, fr⟩ := I.fr
  obtain ⟨mA, O, _, _, _, _⟩ := ins_get I.hok ea
  obtain ⟨od, J, _⟩ := O.look
  have hl : ([Value.ref a] ++ ([] : List Value)).length = ps.length := by
    rw [← F.len _ _ _ _ q]
    rfl
  refine PySem.W.len_K fr I.ok.mod.kin J hs hf (wpAny_call (codeAny_mono (F.run X.A.in1 X.stack s H ⟨[.ref a], []⟩ [.ref a] [.ref a] _ E hr.in1 I.env0.in1 (hb _ [.ref a] I.kIn hl) (.cons rfl .nil) q) fun r s' hq => ?_))
  cases r with
  | error er => exact hx pins σ H s er s' I hq
  | ok fl =>
    cases fl with
    | ret u =>
      obtain ⟨v, H', I3, rv, n, rfl, hn, q3⟩ := I.after hq
      obtain ⟨t, rfl⟩ := rv
      refine ⟨⟨by omega, by omega⟩, .int n, H', I3.tok _, ⟨_, rfl⟩, q3⟩
    | next => exact False.elim hq
    | brk => exact False.elim hq
    | cont => exact False.elim hq
end
abbrev sFieldLen : Stmt := inClass (top 36) 4
abbrev sWrongIx : Stmt := top 20
abbrev sCheckRuns : Stmt := top 21
def spFieldLen (CF : Addr) : Sp := fun vs H Q _ => ∃ (f : Addr) (cs : List Str) (rss : List (List Row)), vs = [.ref f] ∧ FieldAt CF H f cs rss ∧ Q (.int (rss.length : Nat)) H
def rLenF (CF : Addr) : List V → Hp → VK → Prop := fun xs H Q => ∃ a dx fs, xs = [.ref a] ∧ H a = some (.ins CF dx fs) ∧ spFieldLen CF [.ref a] H (fun v H' => ∃ n : Nat, v = .int n ∧ n < 9223372036854775808 ∧ Q (.int n) H') E0
/-- a run: a list or a tuple of numbers of threads -/
def RunAt (H : Hp) (r : Addr) (ts : List Nat) : Prop := H r = some (.lst (ts.map fun n => V.int (n : Nat))) ∨ H r = some (.tup (ts.map fun n => V.int (n : Nat)))
theorem RunAt.mono {H H' : Hp} {r : Addr} {ts : List Nat} (h : RunAt H r ts) (s : Same H H') : RunAt H' r ts := h.elim (fun e => .inl (s _ _ e)) fun e => .inr (s _ _ e)
def RunsAt (H : Hp) (as : List Addr) (n : Nat) : Prop := ∀ a ∈ as, ∃ ts, RunAt H a ts ∧ ∀ t ∈ ts, t < n
def spWrongIx (CF : Addr) : Sp := fun vs H Q _ => ∃ (f r : Addr) (cs : List Str) (rss : List (List Row)) (ts : List Nat), vs = [.ref f, .ref r] ∧ FieldAt CF H f cs rss ∧ rss.length ≤ 5 ∧ RunAt H r ts ∧ (∀ t ∈ ts, t < rss.length) ∧ ∀ H', Same H H' → Q .non H'
def spCheckRuns (CF : Addr) : Sp := fun vs H Q _ => ∃ (f rl : Addr) (cs : List Str) (rss : List (List Row)) (as : List Addr), vs = [.ref f, .ref rl] ∧ FieldAt CF H f cs rss ∧ rss.length ≤ 5 ∧ H rl = some (.lst (as.map V.ref)) ∧ RunsAt H as rss.length ∧ ∀ H', Same H H' → Q .non H'
section
variable {P : Program} {w : World} {K : PySem.W.Frag} {mg : Str → Option Value} {base : Heap}
theorem scFieldLen : FnScope ["self"] ["self"] (defScope sFieldLen) := ⟨rfl, rfl, rfl, by decide +kernel, rfl, by decide +kernel, by decide +kernel⟩
theorem ok_fieldlen {f CF : Addr} {fd : FuncData} (F : Fun K "__len__" "Field.__len__" sFieldLen f fd) (TF : TxtF K CF) (tl : mg "len" = none) :
    FnOk P w K mg base CX0 1 f fd ["self"] (spFieldLen CF) := by
  refine F.ok scFieldLen (fun vs H Q E h => ?_) (fun cdv A outer s H vs Q E hr h => ?_)
  · obtain ⟨f, cs, rss, rfl, _⟩ := h
    rfl
  · refine ⟨_, pss_one (ps_ret (pe_callB call_len (by rfl) tl (by decide +kernel) (pa_cons (pe_fld (pv 0) rfl) pa_nil))), ?_⟩
    obtain ⟨f, cs, rss, rfl, hf, q⟩ := h
    obtain ⟨dx, T1, T2, T3, ps, ls, h1, h2, h3, h4, h5, h6⟩ := hf
    exact ⟨_, rfl, f, CF, dx, _, _, rfl, h1, TF.cl, TF.n2, rfl, _, rss.length, rfl, .inr ⟨_, SqT.of h3, by rw [List.length_map, h5]⟩, q⟩
theorem scWrongIx : FnScope ["field", "run", "index", "thread"] ["field", "run"] (defScope sWrongIx) := ⟨rfl, rfl, rfl, by decide +kernel, rfl, by decide +kernel, by decide +kernel⟩
theorem ok_wrongix {f fL fM fN CF : Addr} {fd fdL fdM fdN : FuncData} (F : Fun K "wrong_index" "wrong_index" sWrongIx f fd)
    (GL : FnOk P w K mg base CX0 1 fL fdL ["value"] (spListG P w)) (mL : mg "is_list" = some (.ref fL)) (kL : PySem.W.keepIn K (.ref fL) = true) (bL : L2.Binds K fdL ["value"] [])
    (GM : FnOk P w K mg base CX0 2 fM fdM ["value", "many"] (spNumG P w)) (mM : mg "is_number" = some (.ref fM)) (kM : PySem.W.keepIn K (.ref fM) = true) (bM : L2.Binds K fdM ["value", "many"] [])
    (GN : FnOk P w K mg base CX0 1 fN fdN ["self"] (spFieldLen CF)) (bN : L2.Binds K fdN ["self"] []) (aN : PySem.W.findIn K (.ref CF) "__len__" = some (some (.ref fN))) (iN : PySem.W.isFn K (.ref fN) = true)
    (tl : mg "len" = none) (te : mg "enumerate" = none) :
    FnOk P w K mg base CX0 3 f fd ["field", "run"] (spWrongIx CF) := by
  refine F.ok scWrongIx (fun vs H Q E h => ?_) (fun cdv A outer s H vs Q E hr h => ?_)
  · obtain ⟨f, r, cs, rss, ts, rfl, _⟩ := h
    rfl
  · have hr1 : Room 1 _ := hr.mono (by decide)
    refine ⟨_, pss_cons (ps_if (pt_not (pt_val (pe_call GL hr1 rfl mL kL bL .nil pass0 (pa_cons (pv 1) pa_nil)))) (pss_one (ps_ret pe_int)) pss_nil)
      (pss_cons (ps_for PassesOwn.never rfl (pi_or (pi_enum (by rfl) te (pa_cons (pv 1) pa_nil)) (pi_enumT (by rfl) te (pa_cons (pv 1) pa_nil))) (pg_tup (by rfl) (pgs_cons (pg_name (i := 2) scWrongIx.nd rfl (Or.inl rfl)) (pgs_cons (pg_name (i := 3) scWrongIx.nd rfl (Or.inl rfl)) pgs_nil)))
        (pss_one (ps_if (pt_not (pt_val (pe_call GM hr rfl mM kM bM .nil pass0 (pa_cons (pv 3) (pa_cons (pe_callB (r := rLenF CF) (call_lenOwn (E := E0) aN iN GN hr bN pass0) (by rfl) tl (by decide +kernel) (pa_cons (pv 0) pa_nil)) pa_nil))))) (pss_one (ps_ret (pv 2))) pss_nil)))
      (pss_one (ps_ret pe_non))), ?_⟩
    obtain ⟨f, r, cs, rss, ts, rfl, hf, r5, hr, low, k⟩ := h
    have hf0 := hf
    obtain ⟨dx, T1, T2, T3, ps, ls, h1, _⟩ := hf0
    have numok : ∀ (i : Nat) (y : V), (ts.map fun n => V.int (n : Nat))[i]? = some y → ∃ t : Nat, y = V.int (t : Nat) ∧ (Th.int (t : Nat)).num rss.length = true := fun i y e => by
      rw [List.getElem?_map] at e
      obtain ⟨t, ht, rfl⟩ := Option.map_eq_some_iff.mp e
      exact ⟨t, rfl, num_nat (low t (List.mem_of_getElem? ht))⟩
    rcases hr with hr | hr
    · refine ⟨_, rfl, .seq _, _, rfl, ⟨r, _, rfl, rfl, .inl hr⟩, fun H1 s1 => ⟨_, rfl, iteF ?_⟩⟩
      refine .inl ⟨_, rfl, r, _, rfl, SqL.of (s1 _ _ hr), for_it (walk_enum (K := K) (a := r) (xs := ts.map fun n => V.int (n : Nat))) (fun i σ H2 => ∃ v1 v2, σ = [some (.ref f), some (.ref r), v1, v2] ∧ Same H H2) ⟨none, none, rfl, s1⟩ (fun i σ H2 _ ⟨_, _, _, e⟩ => SqL.of (e _ _ hr)) ?_ ?_⟩
      · rintro i x σ Ha Hb hi ⟨v1, v2, rfl, sa⟩ ⟨T, ix, y, rfl, hT, rfl, e1, e2⟩
        cases Option.some.inj e1
        dsimp only at e2
        obtain ⟨t, rfl, tok⟩ := numok i y e2
        have sb : Same H (upd Ha T (.tup [V.int (i : Nat), V.int (t : Nat)])) := same_tr sa (same_new hT)
        refine ⟨T, _, rfl, SqT.of upd_same, rfl, _, _, rfl, _, _, rfl, rfl, ?_⟩
        refine ⟨_, rfl, _, rfl, f, dx, _, rfl, sb _ _ h1, f, cs, rss, rfl, hf.mono sb, rss.length, rfl, by omega, .int (t : Nat), _, rss.length, rfl, rfl, _, rfl, ?_⟩
        rw [tok]
        exact iteF ⟨_, _, rfl, sb⟩
      · rintro σ H2 ⟨v1, v2, rfl, s2⟩
        exact k _ s2
    · refine ⟨_, rfl, .seq _, _, rfl, ⟨r, _, rfl, rfl, .inr hr⟩, fun H1 s1 => ⟨_, rfl, iteF ?_⟩⟩
      refine .inr ⟨_, rfl, r, _, rfl, SqT.of (s1 _ _ hr), for_it (walk_enumT (K := K) (a := r) (xs := ts.map fun n => V.int (n : Nat))) (fun i σ H2 => ∃ v1 v2, σ = [some (.ref f), some (.ref r), v1, v2] ∧ Same H H2) ⟨none, none, rfl, s1⟩ (fun i σ H2 _ ⟨_, _, _, e⟩ => SqT.of (e _ _ hr)) ?_ ?_⟩
      · rintro i x σ Ha Hb hi ⟨v1, v2, rfl, sa⟩ ⟨T, ix, y, rfl, hT, rfl, e1, e2⟩
        cases Option.some.inj e1
        dsimp only at e2
        obtain ⟨t, rfl, tok⟩ := numok i y e2
        have sb : Same H (upd Ha T (.tup [V.int (i : Nat), V.int (t : Nat)])) := same_tr sa (same_new hT)
        refine ⟨T, _, rfl, SqT.of upd_same, rfl, _, _, rfl, _, _, rfl, rfl, ?_⟩
        refine ⟨_, rfl, _, rfl, f, dx, _, rfl, sb _ _ h1, f, cs, rss, rfl, hf.mono sb, rss.length, rfl, by omega, .int (t : Nat), _, rss.length, rfl, rfl, _, rfl, ?_⟩
        rw [tok]
        exact iteF ⟨_, _, rfl, sb⟩
      · rintro σ H2 ⟨v1, v2, rfl, s2⟩
        exact k _ s2
theorem scCheckRuns : FnScope ["field", "runs", "run", "index"] ["field", "runs"] (defScope sCheckRuns) := ⟨rfl, rfl, rfl, by decide +kernel, rfl, by decide +kernel, by decide +kernel⟩
theorem ok_checkruns {f fW CF : Addr} {fd fdW : FuncData} (F : Fun K "check_runs" "check_runs" sCheckRuns f fd)
    (GW : FnOk P w K mg base CX0 3 fW fdW ["field", "run"] (spWrongIx CF)) (mW : mg "wrong_index" = some (.ref fW)) (kW : PySem.W.keepIn K (.ref fW) = true) (bW : L2.Binds K fdW ["field", "run"] []) :
    FnOk P w K mg base CX0 4 f fd ["field", "runs"] (spCheckRuns CF) := by
  refine F.ok scCheckRuns (fun vs H Q E h => ?_) (fun cdv A outer s H vs Q E hr h => ?_)
  · obtain ⟨f, rl, cs, rss, as, rfl, _⟩ := h
    rfl
  · refine ⟨_, pss_one (ps_for PassesOwn.never rfl (pi_list (pv 1)) (pg_name (i := 2) scCheckRuns.nd rfl (Or.inl rfl))
        (pss_cons (ps_set (i := 3) scCheckRuns.nd rfl (.inl rfl) (pe_call GW hr rfl mW kW bW .nil pass0 (pa_cons (pv 0) (pa_cons (pv 2) pa_nil))))
        (pss_one (ps_if (pt_cmpR op_notN (pv 3) pe_non (nomark _)) (pss_one ps_never) pss_nil)))), ?_⟩
    obtain ⟨f, rl, cs, rss, as, rfl, hf, r5, hrl, hra, k⟩ := h
    refine ⟨_, rfl, rl, rfl, ⟨_, SqL.of hrl⟩, for_list (K := K) (a := rl) (xs := as.map V.ref) (fun i σ H2 => ∃ v2 v3, σ = [some (.ref f), some (.ref rl), v2, v3] ∧ Same H H2) ⟨none, none, rfl, fun _ _ e => e⟩ (fun i σ H2 _ ⟨_, _, _, e⟩ => SqL.of (e _ _ hrl)) ?_ ?_⟩
    · rintro i x σ Ha hi ⟨v2, v3, rfl, sa⟩
      rw [List.getElem?_map] at hi
      obtain ⟨a, ha, rfl⟩ := Option.map_eq_some_iff.mp hi
      obtain ⟨ts, hts, low⟩ := hra a (List.mem_of_getElem? ha)
      refine ⟨_, rfl, _, rfl, f, a, cs, rss, ts, rfl, hf.mono sa, r5, hts.mono sa, low, fun H3 s3 => ?_⟩
      refine ⟨_, rfl, rfl, _, rfl, iteF ?_⟩
      exact ⟨_, _, rfl, same_tr sa s3⟩
    · rintro σ H2 ⟨v2, v3, rfl, s2⟩
      exact k _ s2
end
end CC

set_option Elab.async false
set_option maxRecDepth 100000
namespace CC
open PySem PySem.Spec PyProof.Rows L2 RZ
set_option linter.unusedVariables false
abbrev sAfter : Stmt := top 22
abbrev St2 := List Nat × List Int
def step2 (cs : List Str) (rss : List (List Row)) (s : St2) (t : Nat) : St2 := (stepN cs rss s.1 s.2 t, stepW cs rss s.1 s.2 t)
def runS (cs : List Str) (rss : List (List Row)) (ts : List Nat) (s : St2) : St2 := ts.foldl (step2 cs rss) s
def start2 (cs : List Str) (rss : List (List Row)) : St2 := (List.replicate rss.length 0, List.replicate cs.length 0)
theorem runS_snoc {cs : List Str} {rss : List (List Row)} {ts : List Nat} {t : Nat} {s : St2} : runS cs rss (ts ++ [t]) s = step2 cs rss (runS cs rss ts s) t := by
  unfold runS
  rw [List.foldl_append]
  rfl
theorem runS_take {cs : List Str} {rss : List (List Row)} {ts : List Nat} {t i : Nat} {s : St2} (h : ts[i]? = some t) : runS cs rss (ts.take (i + 1)) s = step2 cs rss (runS cs rss (ts.take i) s) t := by
  rw [List.take_add_one, h]
  exact runS_snoc
theorem fits_run {cs : List Str} {rss : List (List Row)} (low : RowsIn cs rss) : ∀ {ts : List Nat} {s : St2}, Fits cs rss s.1 s.2 → (∀ t ∈ ts, t < rss.length) → Fits cs rss (runS cs rss ts s).1 (runS cs rss ts s).2
  | [], _, f, _ => f
  | t :: ts, s, f, h => fits_run (ts := ts) (s := step2 cs rss s t) low (fits_step f low (h t (List.mem_cons_self ..))) fun u hu => h u (List.mem_cons_of_mem _ hu)
/-- the limits of a field -/
structure Lim (cs : List Str) (rss : List (List Row)) : Prop where
  c5 : cs.length ≤ 5
  r5 : rss.length ≤ 5
  low : RowsIn cs rss
  pos : ∀ rs ∈ rss, 0 < rs.length
theorem Lim.start {cs : List Str} {rss : List (List Row)} (h : Lim cs rss) : Fits cs rss (start2 cs rss).1 (start2 cs rss).2 := fits_start h.pos
theorem take_lt {ts : List Nat} {n i : Nat} (h : ∀ t ∈ ts, t < n) : ∀ t ∈ ts.take i, t < n := fun t ht => h t (List.mem_of_mem_take ht)
def spAfter (CF : Addr) : Sp := fun vs H Q _ => ∃ (f r : Addr) (cs : List Str) (rss : List (List Row)) (ts : List Nat), vs = [.ref f, .ref r, .non] ∧ FieldAt CF H f cs rss ∧ Lim cs rss ∧ RunAt H r ts ∧ (∀ t ∈ ts, t < rss.length) ∧
  ∀ (t' : Addr) (H' : Hp), Same H H' → StateAt H' t' (runS cs rss ts (start2 cs rss)).1 (runS cs rss ts (start2 cs rss)).2 → Q (.ref t') H'
section
variable {P : Program} {w : World} {K : PySem.W.Frag} {mg : Str → Option Value} {base : Heap}
theorem scAfter : FnScope ["field", "run", "state", "thread"] ["field", "run", "state"] (defScope sAfter) := ⟨rfl, rfl, rfl, by decide +kernel, rfl, by decide +kernel, by decide +kernel⟩
theorem ok_after {f fC fT fS CF : Addr} {fd fdC fdT fdS : FuncData} (F : FunD K "after" "after" (defArgs sAfter) (defBody sAfter) (defScope sAfter) [V.non] [] f fd) (TF : TxtF K CF)
    (GC : FnOk P w K mg base CX0 4 fC fdC ["field", "runs"] (spCheckRuns CF)) (mC : mg "check_runs" = some (.ref fC)) (kC : PySem.W.keepIn K (.ref fC) = true) (bC : L2.Binds K fdC ["field", "runs"] [])
    (mT : Meth K CF "start" fT) (GT : FnOk P w K mg base CX0 1 fT fdT ["self"] (spFieldStart CF)) (bT : L2.Binds K fdT ["self"] [])
    (mS : Meth K CF "step" fS) (GS : FnOk P w K mg base CX0 1 fS fdS ["self", "state", "thread"] (spFieldStep CF)) (bS : L2.Binds K fdS ["self", "state", "thread"] [])
    (tt : mg "tuple" = none) :
    FnOk P w K mg base CX0 5 f fd ["field", "run", "state"] (spAfter CF) := by
  refine F.ok scAfter (fun vs H Q E h => ?_) (fun cdv A outer s H vs Q E hr h => ?_)
  · obtain ⟨f, r, cs, rss, ts, rfl, _⟩ := h
    rfl
  · have hr1 : Room 1 _ := hr.mono (by decide)
    refine ⟨_, pss_cons (ps_expr (pe_call GC hr rfl mC kC bC .nil pass0 (pa_cons (pv 0) (pa_cons (pe_lst (pa_cons (pv 1) pa_nil)) pa_nil))))
      (pss_cons (ps_if (pt_cmpR op_isN (pv 2) pe_non (nomark _)) (pss_one (ps_set (i := 2) scAfter.nd rfl (.inl rfl) (pe_meth0 (pv 0) TF.cl mT GT hr1 bT .nil pass0))) pss_nil)
      (pss_cons (ps_set (i := 2) scAfter.nd rfl (.inl rfl) (pe_tup (pa_cons (pe_callTy call_tuple_of (by rfl) tt (by decide +kernel) (pa_cons (pe_ix ix_tup (pv 2) pe_int (fun _ _ => rfl)) pa_nil)) (pa_cons (pe_callTy call_tuple_of (by rfl) tt (by decide +kernel) (pa_cons (pe_ix ix_tup (pv 2) pe_int (fun _ _ => rfl)) pa_nil)) pa_nil))))
      (pss_cons (ps_for (passes_of rfl) rfl (pi_or (pi_list (pv 1)) (pi_tup (pv 1))) (pg_name (i := 3) scAfter.nd rfl (Or.inl rfl)) (pss_one (ps_set (i := 2) scAfter.nd rfl (.inl rfl) (pe_meth (pv 0) TF.cl mS GS hr1 bS .nil pass0 (pa_cons (pv 2) (pa_cons (pv 3) pa_nil))))))
      (pss_one (ps_ret (pv 2)))))), ?_⟩
    obtain ⟨f, r, cs, rss, ts, rfl, hf, lim, hru, lt, k⟩ := h
    refine ⟨_, rfl, _, rfl, (by show 1 ≤ sizeLine; decide), fun l0 hl0 => ?_⟩
    have s0 := same_new (o := .lst [V.ref r]) hl0
    refine ⟨f, l0, cs, rss, [r], rfl, hf.mono s0, lim.r5, upd_same, fun a ha => ?_, fun H1 s1 => ?_⟩
    · rw [List.mem_singleton] at ha
      subst ha
      exact ⟨ts, hru.mono s0, lt⟩
    have sA := same_tr s0 s1
    have fA := hf.mono sA
    have fA0 := fA
    obtain ⟨dx, _, _, _, _, _, h1, _⟩ := fA0
    refine ⟨_, rfl, rfl, _, rfl, ite_yes (decide_eq_true rfl) ?_⟩
    refine ⟨_, rfl, f, dx, _, rfl, h1, rfl, f, cs, rss, rfl, fA, lim.c5, lim.r5, fun t H2 s2 st => ?_⟩
    obtain ⟨a, b, q1, q2, q3⟩ := st
    refine ⟨_, rfl, t, _, _, _, rfl, rfl, SqT.of q1, rfl, a, _, rfl, .inr ⟨SqT.of q2, _, rfl, t, _, _, _, rfl, rfl, SqT.of q1, rfl, b, _, rfl, .inr ⟨SqT.of q3, (by show 2 ≤ sizeLine; decide), fun T hT => ?_⟩⟩⟩
    have sT := same_new (o := .tup [V.ref a, V.ref b]) hT
    have stT : StateAt (upd H2 T (.tup [V.ref a, V.ref b])) T (start2 cs rss).1 (start2 cs rss).2 := ⟨a, b, upd_same, sT _ _ q2, sT _ _ q3⟩
    have sB := same_tr sA (same_tr s2 sT)
    revert stT sB
    generalize (upd H2 T (.tup [V.ref a, V.ref b])) = H3
    intro stT sB
    rcases hru with hru | hru
    · refine .inl ⟨_, rfl, r, rfl, ⟨_, SqL.of (sB _ _ hru)⟩, for_list (K := K) (a := r) (xs := ts.map fun n => V.int (n : Nat)) (fun i σ Ha => ∃ (t' : Addr) (v3 : Option V), σ = [some (.ref f), some (.ref r), some (.ref t'), v3] ∧ StateAt Ha t' (runS cs rss (ts.take i) (start2 cs rss)).1 (runS cs rss (ts.take i) (start2 cs rss)).2 ∧ Same H Ha) ⟨T, none, rfl, stT, sB⟩ (fun i σ Ha _ ⟨_, _, _, _, e⟩ => SqL.of (e _ _ hru)) ?_ ?_⟩
      · rintro i x σ Ha hi ⟨t', v3, rfl, st, sa⟩
        rw [List.getElem?_map] at hi
        obtain ⟨j, hj, rfl⟩ := Option.map_eq_some_iff.mp hi
        have jl := lt j (List.mem_of_getElem? hj)
        have fa := hf.mono sa
        have fa0 := fa
        obtain ⟨dx2, _, _, _, _, _, h2, _⟩ := fa0
        refine ⟨_, rfl, f, dx2, _, rfl, h2, rfl, _, rfl, _, rfl, f, t', cs, rss, _, _, j, rfl, fa, st, fits_run lim.low lim.start (take_lt lt), lim.low, jl, fun t2 Hb sb st2 => ?_⟩
        refine ⟨t2, _, rfl, ?_, same_tr sa sb⟩
        rw [runS_take hj]
        exact st2
      · rintro σ Ha ⟨t', v3, rfl, st, sa⟩
        rw [List.length_map, List.take_length] at st
        exact ⟨_, rfl, k t' Ha sa st⟩
    · refine .inr ⟨_, rfl, r, rfl, ⟨_, SqT.of (sB _ _ hru)⟩, for_tup (K := K) (a := r) (xs := ts.map fun n => V.int (n : Nat)) (fun i σ Ha => ∃ (t' : Addr) (v3 : Option V), σ = [some (.ref f), some (.ref r), some (.ref t'), v3] ∧ StateAt Ha t' (runS cs rss (ts.take i) (start2 cs rss)).1 (runS cs rss (ts.take i) (start2 cs rss)).2 ∧ Same H Ha) ⟨T, none, rfl, stT, sB⟩ (fun i σ Ha _ ⟨_, _, _, _, e⟩ => SqT.of (e _ _ hru)) ?_ ?_⟩
      · rintro i x σ Ha hi ⟨t', v3, rfl, st, sa⟩
        rw [List.getElem?_map] at hi
        obtain ⟨j, hj, rfl⟩ := Option.map_eq_some_iff.mp hi
        have jl := lt j (List.mem_of_getElem? hj)
        have fa := hf.mono sa
        have fa0 := fa
        obtain ⟨dx2, _, _, _, _, _, h2, _⟩ := fa0
        refine ⟨_, rfl, f, dx2, _, rfl, h2, rfl, _, rfl, _, rfl, f, t', cs, rss, _, _, j, rfl, fa, st, fits_run lim.low lim.start (take_lt lt), lim.low, jl, fun t2 Hb sb st2 => ?_⟩
        refine ⟨t2, _, rfl, ?_, same_tr sa sb⟩
        rw [runS_take hj]
        exact st2
      · rintro σ Ha ⟨t', v3, rfl, st, sa⟩
        rw [List.length_map, List.take_length] at st
        exact ⟨_, rfl, k t' Ha sa st⟩
end
end CC

set_option Elab.async false
set_option maxRecDepth 100000
namespace CC
open PySem PySem.Spec PyProof.Rows L2 RZ
set_option linter.unusedVariables false
theorem eqvAll_ints : ∀ is js : List Int, PyData.eqvAll (is.map PyData.int) (js.map PyData.int) = decide (is = js)
  | [], [] => by simp [PyData.eqvAll]
  | [], _ :: _ => by simp [PyData.eqvAll]
  | _ :: _, [] => by simp [PyData.eqvAll]
  | i :: is, j :: js => by
    simp only [List.map_cons, PyData.eqvAll, PyData.eqv, eqvAll_ints is js]
    by_cases h : i = j
    · subst h
      by_cases h2 : is = js
      · subst h2
        simp
      · simp [h2]
    · simp [h]
abbrev natsI (ns : List Nat) : List Int := ns.map fun n => ((n : Nat) : Int)
theorem natsI_inj : ∀ {ns ms : List Nat}, natsI ns = natsI ms → ns = ms
  | [], [], _ => rfl
  | [], _ :: _, h => by simp [natsI] at h
  | _ :: _, [], h => by simp [natsI] at h
  | n :: ns, m :: ms, h => by
    have h' : ((n : Nat) : Int) :: natsI ns = ((m : Nat) : Int) :: natsI ms := h
    injection h' with h1 h2
    rw [show n = m by omega, natsI_inj h2]
theorem eqv_nats (ns ms : List Nat) : PyData.eqv (.list ((natsI ns).map PyData.int)) (.list ((natsI ms).map PyData.int)) = decide (ns = ms) := by
  simp only [PyData.eqv, eqvAll_ints]
  by_cases h : ns = ms
  · subst h
    simp
  · rw [decide_eq_false h, decide_eq_false fun z => h (natsI_inj z)]
theorem eqv_two (s t : St2) : PyData.eqv (.tuple [.tuple ((natsI s.1).map PyData.int), .tuple (s.2.map PyData.int)]) (.tuple [.tuple ((natsI t.1).map PyData.int), .tuple (t.2.map PyData.int)]) = decide (s = t) := by
  obtain ⟨ns, ws⟩ := s
  obtain ⟨ms, vs⟩ := t
  simp only [PyData.eqv, PyData.eqvAll, eqvAll_ints]
  by_cases h1 : ns = ms
  · subst h1
    by_cases h2 : ws = vs
    · subst h2
      simp
    · simp [h2]
  · rw [decide_eq_false fun z => h1 (natsI_inj z), decide_eq_false fun z => h1 (congrArg Prod.fst z)]
    rfl
theorem eqv_twoL (s t : St2) : PyData.eqv (.tuple [.list ((natsI s.1).map PyData.int), .list (s.2.map PyData.int)]) (.tuple [.list ((natsI t.1).map PyData.int), .list (t.2.map PyData.int)]) = decide (s = t) := by
  obtain ⟨ns, ws⟩ := s
  obtain ⟨ms, vs⟩ := t
  simp only [PyData.eqv, PyData.eqvAll, eqvAll_ints]
  by_cases h1 : ns = ms
  · subst h1
    by_cases h2 : ws = vs
    · subst h2
      simp
    · simp [h2]
  · rw [decide_eq_false fun z => h1 (natsI_inj z), decide_eq_false fun z => h1 (congrArg Prod.fst z)]
    rfl
theorem flat_nats (ns : List Nat) : (ns.map fun n => V.int (n : Nat)).all flatV = true := by
  rw [List.all_map]
  exact List.all_eq_true.mpr fun z _ => rfl
theorem in_nats (t : Nat) (ns : List Nat) : inV (V.int (t : Nat)) (ns.map fun n => V.int (n : Nat)) = decide (t ∈ ns) := by
  unfold inV
  rw [List.any_map, Bool.eq_iff_iff, List.any_eq_true, decide_eq_true_eq]
  constructor
  · rintro ⟨n, hn, e⟩
    have e' : (((n : Nat) : Int) == ((t : Nat) : Int)) = true := e
    have e2 : ((n : Nat) : Int) = (t : Nat) := by simpa using e'
    have e3 : n = t := by omega
    rw [← e3]
    exact hn
  · intro h
    refine ⟨t, h, ?_⟩
    show (((t : Nat) : Int) == ((t : Nat) : Int)) = true
    simp
def restOf (rss : List (List Row)) (s : St2) : List Nat := atS "rest" rss s.1 rss.length
end CC

set_option Elab.async false
set_option maxRecDepth 100000
namespace CC
open PySem PySem.Spec PyProof.Rows L2 RZ
set_option linter.unusedVariables false
abbrev sWalk : Stmt := top 48
theorem DueNew.at {H H' : Hp} {t : Addr} {ns : List Nat} {ws : List Int} (h : DueNew H H' t ns ws) : DueAt H' t ns ws := by
  obtain ⟨a, b, _, _, h⟩ := h
  exact ⟨a, b, h⟩
theorem dp_due {K : PySem.W.Frag} {H : Hp} {t : Addr} {ns : List Nat} {ws : List Int} (h : DueAt H t ns ws) : Dp K H (.ref t) (.tuple [.list ((natsI ns).map PyData.int), .list (ws.map PyData.int)]) := by
  obtain ⟨a, b, h1, h2, h3⟩ := h
  rw [nat_ints] at h2
  exact .tup (SqT.of h1) (.cons (.lst (SqL.of h2) (dpall_ints _)) (.cons (.lst (SqL.of h3) (dpall_ints _)) .nil))
theorem shaped_twoL (is js : List Int) : SeqAt.shaped (.tuple [.list (is.map PyData.int), .list (js.map PyData.int)]) = true := by
  have h1 := depth_ints is
  have h2 := depth_ints js
  unfold SeqAt.shaped
  have e : PyData.depth (.tuple [.list (is.map PyData.int), .list (js.map PyData.int)]) ≤ 64 := by
    simp only [PyData.depth, PyData.depthAll]
    omega
  rw [decide_eq_true e]
  simp [PyData.canLay0, PyData.canLayAll0, canAll_ints]
def spWalk : Sp := fun vs H Q _ => ∃ (q cl r t : Addr) (cs : List Str) (rss : List (List Row)) (ts : List Nat) (s : St2), vs = [.ref q, .ref cl, .ref r, .ref t] ∧ RowsQ H q rss ∧ H cl = some (.lst (cs.map V.str)) ∧ RowsIn cs rss ∧ H r = some (.lst (ts.map fun n => V.int (n : Nat))) ∧ (∀ t ∈ ts, t < rss.length) ∧ DueAt H t s.1 s.2 ∧ Fits cs rss s.1 s.2 ∧
  ∀ (t' : Addr) (H' : Hp), Same H H' → DueAt H' t' (runS cs rss ts s).1 (runS cs rss ts s).2 → Q (.ref t') H'
/-- what the law's own looks are asked of -/
def LawAt (H : Hp) (q cl : Addr) (cs : List Str) (rss : List (List Row)) : Prop := RowsQ H q rss ∧ H cl = some (.lst (cs.map V.str)) ∧ Lim cs rss
theorem LawAt.mono {H H' : Hp} {q cl : Addr} {cs : List Str} {rss : List (List Row)} (h : LawAt H q cl cs rss) (s : Same H H') : LawAt H' q cl cs rss := ⟨h.1.mono s, s _ _ h.2.1, h.2.2⟩
section
variable {P : Program} {w : World} {K : PySem.W.Frag} {mg : Str → Option Value} {base : Heap}
theorem scWalk : FnScope ["_law_rows_here", "_law_cells", "_law_run", "_law_state", "_law_thread"] ["_law_rows_here", "_law_cells", "_law_run", "_law_state"] (defScope sWalk) := ⟨rfl, rfl, rfl, by decide +kernel, rfl, by decide +kernel, by decide +kernel⟩
theorem ok_walk {f fP : Addr} {fd fdP : FuncData} (F : Fun K "_law_walk" "_law_walk" sWalk f fd)
    (GP : FnOk P w K mg base CX0 1 fP fdP ["_law_rows_here", "_law_cells", "_law_state", "_law_thread"] spPlain) (mP : mg "_law_plain_step" = some (.ref fP)) (kP : PySem.W.keepIn K (.ref fP) = true) (bP : L2.Binds K fdP ["_law_rows_here", "_law_cells", "_law_state", "_law_thread"] []) :
    FnOk P w K mg base CX0 2 f fd ["_law_rows_here", "_law_cells", "_law_run", "_law_state"] spWalk := by
  refine F.ok scWalk (fun vs H Q E h => ?_) (fun cdv A outer s H vs Q E hr h => ?_)
  · obtain ⟨q, cl, r, t, cs, rss, ts, s2, rfl, _⟩ := h
    rfl
  · refine ⟨_, pss_cons (ps_for PassesOwn.never rfl (pi_list (pv 2)) (pg_name (i := 4) scWalk.nd rfl (Or.inl rfl)) (pss_one (ps_set (i := 3) scWalk.nd rfl (.inl rfl) (pe_call GP hr rfl mP kP bP .nil pass0 (pa_cons (pv 0) (pa_cons (pv 1) (pa_cons (pv 3) (pa_cons (pv 4) pa_nil))))))))
      (pss_one (ps_ret (pv 3))), ?_⟩
    obtain ⟨q, cl, r, t, cs, rss, ts, S, rfl, hq, hcl, low, hr0, lt, hd, fit, k⟩ := h
    refine ⟨_, rfl, r, rfl, ⟨_, SqL.of hr0⟩, for_list (K := K) (a := r) (xs := ts.map fun n => V.int (n : Nat)) (fun i σ Ha => ∃ (t' : Addr) (v4 : Option V), σ = [some (.ref q), some (.ref cl), some (.ref r), some (.ref t'), v4] ∧ DueAt Ha t' (runS cs rss (ts.take i) S).1 (runS cs rss (ts.take i) S).2 ∧ Same H Ha) ⟨t, none, rfl, hd, fun _ _ e => e⟩ (fun i σ Ha _ ⟨_, _, _, _, e⟩ => SqL.of (e _ _ hr0)) ?_ ?_⟩
    · rintro i x σ Ha hi ⟨t', v4, rfl, st, sa⟩
      rw [List.getElem?_map] at hi
      obtain ⟨j, hj, rfl⟩ := Option.map_eq_some_iff.mp hi
      refine ⟨_, rfl, _, rfl, _, rfl, _, rfl, q, cl, t', cs, rss, _, _, j, rfl, hq.mono sa, sa _ _ hcl, st, fits_run low fit (take_lt lt), low, lt j (List.mem_of_getElem? hj), fun t2 Hb sb st2 => ?_⟩
      refine ⟨t2, _, rfl, ?_, same_tr sa sb⟩
      rw [runS_take hj]
      exact st2.at
    · rintro σ Ha ⟨t', v4, rfl, st, sa⟩
      rw [List.length_map, List.take_length] at st
      exact ⟨_, rfl, k t' Ha sa st⟩
end
end CC

set_option Elab.async false
set_option maxRecDepth 100000
namespace CC
open PySem PySem.Spec PyProof.Rows L2 RZ StX
set_option linter.unusedVariables false
abbrev sIsCover : Stmt := top 23
section
variable {X : Cx}
theorem OpR_or {f : Value → Value → Sem Value} {r1 r2 : V → V → Hp → VK → Prop} (h1 : OpR X f r1) (h2 : OpR X f r2) : OpR X f (fun x y H Q => r1 x y H Q ∨ r2 x y H Q) := by
  intro pins s σ H x y v u Q I rx ry h
  exact h.elim (h1 pins s σ H x y v u Q I rx ry) (h2 pins s σ H x y v u Q I rx ry)
/-- lists of unlike lengths -/
theorem op_neLen (hu : X.A.units < cLine) : OpR X (compareOp .NotEq) (fun x y H Q => ∃ a b xs ys, x = V.ref a ∧ y = V.ref b ∧ SqL X.K H a xs ∧ SqL X.K H b ys ∧ xs.length ≠ ys.length ∧ Q (.bl true) H) := by
  intro pins s σ H x y v u Q I rx ry h
  obtain ⟨a, b, xs, ys, rfl, rfl, h1, h2, ne, q⟩ := h
  cases rx
  cases ry
  obtain ⟨i1, r1, p1, _⟩ := I.list h1
  obtain ⟨i2, r2, p2, _⟩ := I.list h2
  have e1 := r1.length
  have e2 := r2.length
  exact PySem.SeqAt.RcNeAt.lists_lengths p1.isList p2.isList (by simp only [List.size_toArray, bne_iff_ne, ne_eq]; omega) hu X.prog X.w _ _ ⟨.bl true, H, I, rfl, q⟩
end
/-- the cells that are written by the first threads -/
def cellsTo (rss : List (List Row)) (ns : List Nat) (i : Nat) : List Str := (atS "write" rss ns i).map (cellW rss ns)
theorem valV_wr {rss : List (List Row)} {ns : List Nat} {n k : Nat} (hk : k < n) : valV (kvW (wrS rss ns n)) (Sum.inl (k : Int) : Key) = if (rowAt rss ns k).word = "write" then some (V.str (cellW rss ns k)) else none := by
  by_cases h : (rowAt rss ns k).word = "write"
  · rw [if_pos h]
    have m : ((Sum.inl (k : Int) : Key), V.str (cellW rss ns k)) ∈ kvW (wrS rss ns n) := by
      rw [kvW_at]
      refine List.mem_map.mpr ⟨k, ?_, rfl⟩
      unfold atS
      exact List.mem_filter.mpr ⟨List.mem_range.mpr hk, decide_eq_true h⟩
    exact valV_self keysW_nd _ m
  · rw [if_neg h]
    refine valV_out fun m => h ?_
    rw [keysW, List.map_map] at m
    obtain ⟨j, hj, e⟩ := List.mem_map.mp m
    have e' : ((j : Nat) : Int) = (k : Nat) := Sum.inl.inj e
    have e2 : j = k := by omega
    unfold atS at hj
    rw [← e2]
    exact of_decide_eq_true (List.mem_filter.mp hj).2
theorem cellsTo_yes {rss : List (List Row)} {ns : List Nat} {i : Nat} (h : (rowAt rss ns i).word = "write") : cellsTo rss ns (i + 1) = cellsTo rss ns i ++ [cellW rss ns i] := by
  unfold cellsTo
  rw [atS_yes h, List.map_append]
  rfl
theorem cellsTo_no {rss : List (List Row)} {ns : List Nat} {i : Nat} (h : (rowAt rss ns i).word ≠ "write") : cellsTo rss ns (i + 1) = cellsTo rss ns i := by
  unfold cellsTo
  rw [atS_no h]
theorem fold_nodup : ∀ (xs L : List Str), L.Nodup → (xs.foldl addL L).length = L.length + xs.length → (xs ++ L).Nodup
  | [], L, nd, _ => nd
  | x :: xs, L, nd, h => by
    have bound : ∀ (xs : List Str) (L : List Str), (xs.foldl addL L).length ≤ L.length + xs.length := fun xs => by
      induction xs with
      | nil => intro L; exact Nat.le_refl _
      | cons x xs ih =>
        intro L
        rw [List.foldl_cons]
        have := ih (addL L x)
        have := addL_len L x
        rw [List.length_cons]
        omega
    rw [List.foldl_cons] at h
    by_cases m : x ∈ L
    · have e : addL L x = L := by unfold addL; rw [if_pos m]
      rw [e, List.length_cons] at h
      have := bound xs L
      omega
    · have e : addL L x = x :: L := by unfold addL; rw [if_neg m]
      rw [e, List.length_cons] at h
      have := fold_nodup xs (x :: L) (List.nodup_cons.mpr ⟨m, nd⟩) (by rw [h, List.length_cons]; omega)
      exact (List.perm_middle (a := x) (l₁ := xs) (l₂ := L)).nodup_iff.mp this
theorem foldL_iff {xs : List Str} : (foldL xs).length = xs.length ↔ xs.Nodup := by
  constructor
  · intro h
    have := fold_nodup xs [] (by simp) (by rw [List.length_nil, Nat.zero_add]; exact h)
    rwa [List.append_nil] at this
  · exact foldL_nodup
theorem atS_all {wd : Str} {rss : List (List Row)} {ns : List Nat} {n : Nat} : (atS wd rss ns n).length = n ↔ ∀ k, k < n → (rowAt rss ns k).word = wd := by
  unfold atS
  constructor
  · intro h k hk
    have e : ((List.range n).filter fun j => decide ((rowAt rss ns j).word = wd)).length = (List.range n).length := by rw [h, List.length_range]
    have := List.length_filter_eq_length_iff.mp e k (List.mem_range.mpr hk)
    exact of_decide_eq_true this
  · intro h
    rw [List.filter_eq_self.mpr fun k hk => decide_eq_true (h k (List.mem_range.mp hk)), List.length_range]
theorem atS_full {wd : Str} {rss : List (List Row)} {ns : List Nat} {n : Nat} (h : ∀ k, k < n → (rowAt rss ns k).word = wd) : atS wd rss ns n = List.range n := by
  unfold atS
  exact List.filter_eq_self.mpr fun k hk => decide_eq_true (h k (List.mem_range.mp hk))
/-- as many cells as threads, no two the same -/
def CovW (rss : List (List Row)) (ns : List Nat) (cnt : Nat) : Prop := (∀ k, k < cnt → (rowAt rss ns k).word = "write") ∧ ((List.range cnt).map (cellW rss ns)).Nodup
theorem covW_iff {rss : List (List Row)} {ns : List Nat} {cnt : Nat} : (foldL (cellsTo rss ns cnt)).length = cnt ↔ CovW rss ns cnt := by
  constructor
  · intro h
    have h1 := foldL_len (cellsTo rss ns cnt)
    have h2 : (cellsTo rss ns cnt).length ≤ cnt := by unfold cellsTo; rw [List.length_map]; exact atS_len
    have e : (cellsTo rss ns cnt).length = cnt := by omega
    have e' : (atS "write" rss ns cnt).length = cnt := by unfold cellsTo at e; rwa [List.length_map] at e
    have all := atS_all.mp e'
    refine ⟨all, ?_⟩
    have nd := foldL_iff.mp (h.trans e.symm)
    unfold cellsTo at nd
    rwa [atS_full all] at nd
  · rintro ⟨all, nd⟩
    have e : cellsTo rss ns cnt = (List.range cnt).map (cellW rss ns) := by unfold cellsTo; rw [atS_full all]
    rw [e, foldL_nodup nd, List.length_map, List.length_range]
/-- a cover, in Lean -/
def Cov (cs : List Str) (rss : List (List Row)) (cnt : Nat) (ts us : List Nat) : Prop :=
  (∀ t ∈ ts ++ us, t < cnt) ∧ CovW rss (runS cs rss ts (start2 cs rss)).1 cnt ∧ (∀ k, k < rss.length → (rowAt rss (runS cs rss us (start2 cs rss)).1 k).word = "rest") ∧ (runS cs rss ts (start2 cs rss)).2 = (runS cs rss us (start2 cs rss)).2
theorem eqv_tupI (is js : List Int) : PyData.eqv (.tuple (is.map PyData.int)) (.tuple (js.map PyData.int)) = decide (is = js) := by
  simp only [PyData.eqv, eqvAll_ints]
theorem eqv_lstI (is js : List Int) : PyData.eqv (.list (is.map PyData.int)) (.list (js.map PyData.int)) = decide (is = js) := by
  simp only [PyData.eqv, eqvAll_ints]
theorem shaped_tup (is : List Int) : SeqAt.shaped (.tuple (is.map PyData.int)) = true := by
  have h := depth_ints is
  unfold SeqAt.shaped
  rw [can_tup]
  have e : PyData.depth (.tuple (is.map PyData.int)) ≤ 64 := by
    simp only [PyData.depth]
    omega
  rw [decide_eq_true e]
  rfl
end CC

set_option Elab.async false
set_option maxRecDepth 100000
namespace CC
open PySem PySem.Spec PyProof.Rows L2 RZ StX
set_option linter.unusedVariables false
def spIsCover (CF : Addr) : Sp := fun vs H Q _ => ∃ (f r u : Addr) (cs : List Str) (rss : List (List Row)) (cnt : Nat) (ts us : List Nat), vs = [.ref f, .int (cnt : Nat), .ref r, .ref u] ∧ FieldAt CF H f cs rss ∧ Lim cs rss ∧ RunAt H r ts ∧ (∀ t ∈ ts, t < rss.length) ∧ RunAt H u us ∧ (∀ t ∈ us, t < rss.length) ∧ cnt ≤ rss.length ∧ ts.length + us.length ≤ 4000 ∧
  ∀ (b : Bool) (H' : Hp), Same H H' → (b = true ↔ Cov cs rss cnt ts us) → Q (.bl b) H'
theorem cellsTo_len {rss : List (List Row)} {ns : List Nat} {i : Nat} : (cellsTo rss ns i).length ≤ i := by
  unfold cellsTo
  rw [List.length_map]
  exact atS_len
theorem dpAll_ints {K : PySem.W.Frag} {H : Hp} : ∀ is : List Int, DpAll K H (is.map V.int) (is.map PyData.int)
  | [] => .nil
  | i :: is => .cons (.int i) (dpAll_ints is)
theorem dp_intsT {K : PySem.W.Frag} {H : Hp} {b : Addr} {is : List Int} (h : H b = some (.tup (is.map V.int))) : Dp K H (.ref b) (.tuple (is.map PyData.int)) := .tup (SqT.of h) (dpAll_ints is)
theorem dp_intsL {K : PySem.W.Frag} {H : Hp} {b : Addr} {is : List Int} (h : H b = some (.lst (is.map V.int))) : Dp K H (.ref b) (.list (is.map PyData.int)) := .lst (SqL.of h) (dpAll_ints is)
section
variable {P : Program} {w : World} {K : PySem.W.Frag} {mg : Str → Option Value} {base : Heap}
abbrev NV : List Str := ["field", "count", "run", "twin", "covering", "still", "writing", "cells", "thread"]
theorem scIsCover : FnScope NV ["field", "count", "run", "twin"] (defScope sIsCover) := ⟨rfl, rfl, rfl, by decide +kernel, rfl, by decide +kernel, by decide +kernel⟩
theorem ok_iscover {f fM fC fA fV fR fN CF : Addr} {fd fdM fdC fdA fdV fdR fdN : FuncData} (F : Fun K "is_cover" "is_cover" sIsCover f fd) (TF : TxtF K CF)
    (GM : FnOk P w K mg base CX0 2 fM fdM ["value", "many"] (spNumG P w)) (mM : mg "is_number" = some (.ref fM)) (kM : PySem.W.keepIn K (.ref fM) = true) (bM : L2.Binds K fdM ["value", "many"] [])
    (GC : FnOk P w K mg base CX0 4 fC fdC ["field", "runs"] (spCheckRuns CF)) (mC : mg "check_runs" = some (.ref fC)) (kC : PySem.W.keepIn K (.ref fC) = true) (bC : L2.Binds K fdC ["field", "runs"] [])
    (GA : FnOk P w K mg base CX0 5 fA fdA ["field", "run", "state"] (spAfter CF)) (mA : mg "after" = some (.ref fA)) (kA : PySem.W.keepIn K (.ref fA) = true) (bA : L2.Binds K fdA ["field", "run", "state"] [Value.none])
    (mV : Meth K CF "writing" fV) (GV : FnOk P w K mg base CX0 2 fV fdV ["self", "state"] (spFieldWriting CF)) (bV : L2.Binds K fdV ["self", "state"] [])
    (mR : Meth K CF "resting" fR) (GR : FnOk P w K mg base CX0 2 fR fdR ["self", "state"] (spFieldAt CF "rest")) (bR : L2.Binds K fdR ["self", "state"] [])
    (GN : FnOk P w K mg base CX0 1 fN fdN ["self"] (spFieldLen CF)) (bN : L2.Binds K fdN ["self"] []) (aN : PySem.W.findIn K (.ref CF) "__len__" = some (some (.ref fN))) (iN : PySem.W.isFn K (.ref fN) = true)
    (tl : mg "len" = none) (tr : mg "range" = none) (tany : mg "any" = none) (tset : mg "set" = none) :
    FnOk P w K mg base CX0 6 f fd ["field", "count", "run", "twin"] (spIsCover CF) := by
  refine F.ok scIsCover (fun vs H Q E h => ?_) (fun cdv A outer s H vs Q E hr h => ?_)
  · obtain ⟨f, r, u, cs, rss, cnt, ts, us, rfl, _⟩ := h
    rfl
  · have hr2 : Room 2 _ := hr.mono (by decide)
    have hr4 : Room 4 _ := hr.mono (by decide)
    have hu := hu_of hr
    refine ⟨_, pss_cons (ps_if (pt_not (pt_val (pe_call GM hr2 rfl mM kM bM .nil pass0 (pa_cons (pv 1) (pa_cons (pe_op op_add (pe_callB (r := rLenF CF) (call_lenOwn (E := E0) aN iN GN hr2 bN pass0) (by rfl) tl (by decide +kernel) (pa_cons (pv 0) pa_nil)) pe_int) pa_nil))))) (pss_one ps_never) pss_nil)
      (pss_cons (ps_expr (pe_call GC hr4 rfl mC kC bC .nil pass0 (pa_cons (pv 0) (pa_cons (pe_lst (pa_cons (pv 2) (pa_cons (pv 3) pa_nil))) pa_nil))))
      (pss_cons (ps_if (pt_val (pe_callB (cr_any rfl) (by rfl) tany (by decide +kernel) (pa_cons (pe_lc (own := [("thread", 8)]) (g := gName 8) (by rfl) scIsCover.nd (pi_list (pe_lst (pa_star (pv 2) (pa_star (pv 3) pa_nil)))) (blkOk_by (own := [("thread", 8)]) (N := NV) (sc := defScope sIsCover) (by decide +kernel)) (fun _ _ _ _ _ => pg_name (i := 8) scIsCover.nd rfl (Or.inl rfl)) (fun _ _ _ _ _ => pts_nil) (fun _ _ _ _ _ => pe_cmpR op_ge (pv 8) (pv 1) (nomark _))) pa_nil))) (pss_one (ps_ret pe_bl)) pss_nil)
      (pss_cons (ps_set (i := 4) scIsCover.nd rfl (.inl rfl) (pe_call GA hr rfl mA kA bA (.cons (show L2.RelV V.non Value.none from rfl) .nil) pass0 (pa_cons (pv 0) (pa_cons (pv 2) pa_nil))))
      (pss_cons (ps_set (i := 5) scIsCover.nd rfl (.inl rfl) (pe_call GA hr rfl mA kA bA (.cons (show L2.RelV V.non Value.none from rfl) .nil) pass0 (pa_cons (pv 0) (pa_cons (pv 3) pa_nil))))
      (pss_cons (ps_set (i := 6) scIsCover.nd rfl (.inr rfl) (pe_meth (pv 0) TF.cl mV GV hr2 bV .nil pass0 (pa_cons (pv 4) pa_nil)))
      (pss_cons (ps_setLc (i := 7) (own := [("thread", 8)]) (g := gName 8) (by rfl) scIsCover.nd rfl rfl (sw_true rfl rfl rfl (by decide +kernel)) (pi_range1 rfl tr (pa_cons (pv 1) pa_nil)) (blkOk_by (own := [("thread", 8)]) (N := NV) (sc := defScope sIsCover) (by decide +kernel)) (fun _ _ _ _ _ => pg_name (i := 8) scIsCover.nd rfl (Or.inl rfl)) (fun _ _ _ _ _ => pts_one (pt_cmp (pc_din hu (pv 8) (pv 6)))) (fun _ _ _ _ _ => pe_dget hu (pv 6) (pv 8) (fun _ _ => rfl)))
      (pss_cons (ps_if (PW.pt (pw_or (pt_cmpR op_ne (pe_callB cr_lenSS (by rfl) tl PySem.boot_len (pa_cons (pe_callTy (cr_setOfS rfl) (by rfl) tset (by decide +kernel) (pa_cons (pv 7) pa_nil)) pa_nil)) (pv 1) (nomark _))
          (pw_or1 (pt_cmpR op_ne (pe_callB call_len_seq (by rfl) tl PySem.boot_len (pa_cons (pe_meth (pv 0) TF.cl mR GR hr2 bR .nil pass0 (pa_cons (pv 5) pa_nil)) pa_nil)) (pe_callB (r := rLenF CF) (call_lenOwn (E := E0) aN iN GN hr2 bN pass0) (by rfl) tl (by decide +kernel) (pa_cons (pv 0) pa_nil)) (nomark _))))) (pss_one (ps_ret pe_bl)) pss_nil)
      (pss_one (ps_ret (pe_cmpR (op_eqD hr.units) (pe_ix ix_tup (pv 4) pe_int (fun _ _ => rfl)) (pe_ix ix_tup (pv 5) pe_int (fun _ _ => rfl)) (nomark _))))))))))), ?_⟩
    obtain ⟨f, r, u, cs, rss, cnt, ts, us, rfl, hf, lim, hru, ltr, huu, ltu, cn, few, k⟩ := h
    have hf0 := hf
    obtain ⟨dx, _, _, _, _, _, h1, _⟩ := hf0
    have r5 := lim.r5
    refine ⟨_, rfl, _, rfl, f, dx, _, rfl, h1, f, cs, rss, rfl, hf, rss.length, rfl, by omega, _, _, rfl, rfl, .int (cnt : Nat), _, rss.length + 1, rfl, rfl, _, rfl, ?_⟩
    rw [num_nat (by omega)]
    refine iteF ?_
    refine ⟨_, rfl, _, rfl, _, rfl, (by show 2 ≤ sizeLine; decide), fun l0 hl0 => ?_⟩
    have s0 := same_new (o := .lst [V.ref r, V.ref u]) hl0
    refine ⟨f, l0, cs, rss, [r, u], rfl, hf.mono s0, lim.r5, upd_same, fun a ha => ?_, fun H1 s1 => ?_⟩
    · rcases List.mem_cons.mp ha with rfl | ha
      · exact ⟨ts, hru.mono s0, ltr⟩
      · rw [List.mem_singleton] at ha
        subst ha
        exact ⟨us, huu.mono s0, ltu⟩
    have sA := same_tr s0 s1
    have sq : ∀ {a : Addr} {xs : List Nat}, RunAt H1 a xs → (SqT K H1 a (xs.map fun n => V.int (n : Nat)) ∨ SqL K H1 a (xs.map fun n => V.int (n : Nat))) := fun h => h.elim (fun e => .inr (SqL.of e)) fun e => .inl (SqT.of e)
    refine ⟨_, rfl, r, _, rfl, sq (hru.mono sA), _, rfl, u, _, rfl, sq (huu.mono sA), Nat.le_of_lt (small (by rw [List.append_nil, List.length_append, List.length_map, List.length_map]; omega)), fun l1 hl1 => ?_⟩
    rw [List.append_nil, ← List.map_append]
    have sl1 := same_new (o := .lst ((ts ++ us).map fun n => V.int (n : Nat))) hl1
    have hl11 : (upd H1 l1 (.lst ((ts ++ us).map fun n => V.int (n : Nat)))) l1 = some (.lst ((ts ++ us).map fun n => V.int (n : Nat))) := upd_same
    have sB := same_tr sA sl1
    revert hl11 sB
    generalize (upd H1 l1 (.lst ((ts ++ us).map fun n => V.int (n : Nat)))) = H2
    intro hl11 sB
    refine ⟨l1, rfl, ⟨_, SqL.of hl11⟩, fun D hD => ?_⟩
    refine lc_list (K := K) (a := l1) (xs := (ts ++ us).map fun n => V.int (n : Nat)) (fun i Ha => Ha D = some (.lst ((((ts ++ us).take i).map fun t => decide (t ≥ cnt)).map V.bl)) ∧ Same H2 Ha) ⟨upd_same, same_new hD⟩ (fun i Ha _ ⟨_, e⟩ => SqL.of (e _ _ hl11)) ?_ ?_
    · rintro i x Ha hi ⟨hDa, sa⟩
      have il := (List.getElem?_eq_some_iff.mp hi).1
      rw [List.length_map, List.length_append] at il
      rw [List.getElem?_map] at hi
      obtain ⟨t, ht, rfl⟩ := Option.map_eq_some_iff.mp hi
      refine ⟨rfl, tyes_if ?_⟩
      refine ⟨_, rfl, _, rfl, _, _, rfl, rfl, _, hDa, small (by rw [List.length_map, List.length_map, List.length_take]; omega), ?_, same_put sa hD⟩
      have ed : decide (((t : Nat) : Int) ≥ ((cnt : Nat) : Int)) = decide (t ≥ cnt) := by
        by_cases z : t ≥ cnt
        · rw [decide_eq_true z, decide_eq_true (by omega)]
        · rw [decide_eq_false z, decide_eq_false (by omega)]
      have e' : (fun i j : Int => V.bl (decide (i ≥ j))) ((t : Nat) : Int) ((cnt : Nat) : Int) = V.bl (decide (t ≥ cnt)) := congrArg V.bl ed
      rw [upd_same, List.take_add_one, ht, List.map_append, List.map_append]
      exact congrArg (fun z => some (HO.lst (_ ++ [z]))) e'
    · rintro Ha ⟨hDa, sa⟩
      rw [List.length_map, List.take_length] at hDa
      have sC := same_tr sB sa
      refine ⟨D, _, rfl, SqL.of hDa, _, rfl, ?_⟩
      by_cases eb : ∀ t ∈ ts ++ us, t < cnt
      · have e1 : (((ts ++ us).map fun t => decide (t ≥ cnt)).any id) = false := by
          rw [Bool.eq_false_iff, ne_eq, List.any_map, List.any_eq_true]
          rintro ⟨t, ht, e⟩
          have := eb t ht
          have e' : t ≥ cnt := of_decide_eq_true e
          omega
        rw [e1]
        refine iteF ?_
        refine ⟨_, rfl, _, rfl, f, r, cs, rss, ts, rfl, hf.mono sC, lim, hru.mono sC, ltr, fun t1 H3 s3 st1 => ?_⟩
        have sD := same_tr sC s3
        refine ⟨_, rfl, _, rfl, f, u, cs, rss, us, rfl, hf.mono sD, lim, huu.mono sD, ltu, fun t2 H4 s4 st2 => ?_⟩
        have sE := same_tr sD s4
        obtain ⟨S, hS⟩ : ∃ S, S = runS cs rss ts (start2 cs rss) := ⟨_, rfl⟩
        obtain ⟨U, hU⟩ : ∃ S, S = runS cs rss us (start2 cs rss) := ⟨_, rfl⟩
        rw [← hS] at st1
        rw [← hU] at st2
        have fitS : Fits cs rss S.1 S.2 := by rw [hS]; exact fits_run lim.low lim.start ltr
        have fitU : Fits cs rss U.1 U.2 := by rw [hU]; exact fits_run lim.low lim.start ltu
        have f4 := hf.mono sE
        have f40 := f4
        obtain ⟨dx4, _, _, _, _, _, h14, _⟩ := f40
        refine ⟨_, rfl, f, dx4, _, rfl, h14, rfl, _, rfl, cs, rss, _, ⟨f, t1, _, rfl, f4, st1.mono s4, fitS, r5⟩, fun q H5 s5 n5 hq => ?_⟩
        have sF := same_tr sE s5
        refine ⟨_, rfl, (cnt : Int), rfl, by omega, by omega, fun D2 hD2 => ?_⟩
        refine lc_range (lo := 0) (n := cnt) (fun i Hx => Hx D2 = some (.lst ((cellsTo rss S.1 i).map V.str)) ∧ Same H5 Hx) ⟨upd_same, same_new hD2⟩ ?_ ?_
        · rintro i Hx hi ⟨hDx, sx⟩
          have z0 : (0 : Int) + (i : Nat) = (i : Nat) := Int.zero_add _
          have vw := valV_wr (rss := rss) (ns := S.1) (n := rss.length) (k := i) (by omega)
          have g : DGet Hx q (V.int (0 + (i : Nat))) (valV (kvW (wrS rss S.1 rss.length)) (Sum.inl ((i : Nat) : Int) : Key)) := by
            rw [z0]
            exact DGet.k (k := (Sum.inl ((i : Nat) : Int) : Key)) (sx _ _ hq)
          refine ⟨rfl, ?_⟩
          refine ⟨_, rfl, _, rfl, q, _, rfl, g, _, rfl, ?_⟩
          by_cases e : (rowAt rss S.1 i).word = "write"
          · rw [if_pos e] at vw
            refine ite_yes (by rw [vw]; rfl) ?_
            refine ⟨_, rfl, _, rfl, q, V.str (cellW rss S.1 i), rfl, (vw ▸ g), _, hDx, small (by have := cellsTo_len (rss := rss) (ns := S.1) (i := i); rw [List.length_map]; omega), ?_, same_put sx hD2⟩
            rw [upd_same, cellsTo_yes e, List.map_append]
            rfl
          · rw [if_neg e] at vw
            refine ite_no (by rw [vw]; rfl) ?_
            rw [cellsTo_no e]
            exact ⟨hDx, sx⟩
        · rintro Hx ⟨hDx, sx⟩
          have sG := same_tr sF sx
          refine ⟨_, rfl, D2, _, rfl, SqL.of hDx, by have := cellsTo_len (rss := rss) (ns := S.1) (i := cnt); omega, fun a ha => ?_⟩
          have sa' := same_new (o := SetSO w a (foldL (cellsTo rss S.1 cnt))) ha
          refine ⟨a, _, rfl, upd_same, _, rfl, rfl, _, rfl, ?_⟩
          by_cases ec : (foldL (cellsTo rss S.1 cnt)).length = cnt
          · refine ite_no (by rw [dec_int]; simp [ec]) ?_
            have sH := same_tr sG sa'
            have f6 := hf.mono sH
            have f60 := f6
            obtain ⟨dx6, _, _, _, _, _, h16, _⟩ := f60
            have st26 := st2.mono (same_tr s5 (same_tr sx sa'))
            have st16 := st1.mono (same_tr s4 (same_tr s5 (same_tr sx sa')))
            refine ⟨_, rfl, f, dx6, _, rfl, h16, rfl, _, rfl, cs, rss, _, ⟨f, t2, _, rfl, f6, st26, fitU, r5⟩, fun q2 H7 s7 n7 hq2 => ?_⟩
            refine ⟨q2, _, rfl, .inl (SqL.of hq2), ?_⟩
            refine ⟨_, rfl, f, dx6, _, rfl, s7 _ _ h16, f, cs, rss, rfl, f6.mono s7, rss.length, rfl, by omega, rfl, _, rfl, ?_⟩
            have sI := same_tr sH s7
            by_cases er : (atS "rest" rss U.1 rss.length).length = rss.length
            · refine ite_no (by rw [dec_int, List.length_map]; simp [er]) ?_
              obtain ⟨a1, b1, x1, _, y1⟩ := st16.mono s7
              obtain ⟨a2, b2, x2, _, y2⟩ := st26.mono s7
              refine ⟨_, rfl, t1, _, _, _, rfl, rfl, SqT.of x1, rfl, ?_⟩
              refine ⟨_, rfl, t2, _, _, _, rfl, rfl, SqT.of x2, rfl, ?_⟩
              refine ⟨_, _, dp_intsT y1, dp_intsT y2, shaped_tup _, shaped_tup _, ?_⟩
              refine k _ _ sI ?_
              rw [eqv_tupI, decide_eq_true_iff]
              refine ⟨fun e => ⟨eb, hS ▸ covW_iff.mp ec, hU ▸ atS_all.mp er, by rw [← hS, ← hU]; exact e⟩, fun h => by have := h.2.2.2; rw [← hS, ← hU] at this; exact this⟩
            · refine ite_yes (by rw [dec_int, List.length_map]; simp; omega) ?_
              refine k false _ sI ⟨(fun z => nomatch z), fun z => absurd (atS_all.mpr (hU ▸ z.2.2.1)) er⟩
          · refine ite_yes (by rw [dec_int]; simp; omega) ?_
            exact k false _ (same_tr sG sa') ⟨(fun z => nomatch z), fun z => absurd (covW_iff.mpr (hS ▸ z.2.1)) ec⟩
      · have e1 : (((ts ++ us).map fun t => decide (t ≥ cnt)).any id) = true := by
          rw [List.any_map, List.any_eq_true]
          obtain ⟨t, ht⟩ := Classical.not_forall.mp eb
          obtain ⟨h1, h2⟩ := Classical.not_imp.mp ht
          exact ⟨t, h1, decide_eq_true (by omega)⟩
        rw [e1]
        refine iteT ?_
        exact k false _ sC ⟨(fun z => nomatch z), fun z => absurd z.1 eb⟩
end
end CC

set_option Elab.async false
set_option maxRecDepth 100000
namespace CC
open PySem PySem.Spec PyProof.Rows L2 RZ StX
set_option linter.unusedVariables false
abbrev sCovers : Stmt := top 50
theorem op_neListD {X : Cx} (hu : X.A.units + 64 < cLine) : OpR X (compareOp .NotEq) (fun x y H Q => (∃ a b xs ys, x = V.ref a ∧ y = V.ref b ∧ SqL X.K H a xs ∧ SqL X.K H b ys ∧ xs.length ≠ ys.length ∧ Q (.bl true) H) ∨ rNeD X.K x y H Q) := OpR_or (op_neLen (by omega)) (op_neD hu)
theorem RowAt.wr {H : Hp} {r : Row} {a : Addr} (h : RowAt H r a) (e : r.word = "write") : ∃ c v n, r = .wr c v n ∧ H a = some (.tup [.str "write", .str c, .int v, .int (n : Nat)]) := by
  cases r with
  | rest n => exact absurd e (show ¬("rest" : Str) = "write" by decide)
  | ins n => exact absurd e (show ¬("inside" : Str) = "write" by decide)
  | wr c v n => exact ⟨c, v, n, rfl, h⟩
  | rd c cs n => exact absurd e (show ¬("read" : Str) = "write" by decide)
theorem rgV_nats (n : Nat) : rgV 0 (n : Int) = (List.range n).map fun n => V.int (n : Nat) := by
  unfold rgV
  rw [show ((n : Int) - 0).toNat = n from by omega]
  exact List.map_congr_left fun i _ => by rw [Int.zero_add]
def spCovers : Sp := fun vs H Q _ => ∃ (q cl r u : Addr) (cs : List Str) (rss : List (List Row)) (cnt : Nat) (ts us : List Nat), vs = [.ref q, .ref cl, .int (cnt : Nat), .ref r, .ref u] ∧ LawAt H q cl cs rss ∧ H r = some (.lst (ts.map fun n => V.int (n : Nat))) ∧ (∀ t ∈ ts, t < rss.length) ∧ H u = some (.lst (us.map fun n => V.int (n : Nat))) ∧ (∀ t ∈ us, t < rss.length) ∧ cnt ≤ rss.length ∧ ts.length + us.length ≤ 4000 ∧
  ∀ (b : Bool) (H' : Hp), Same H H' → (b = true ↔ Cov cs rss cnt ts us) → Q (.bl b) H'
section
variable {P : Program} {w : World} {K : PySem.W.Frag} {mg : Str → Option Value} {base : Heap}
abbrev NC : List Str := ["_law_rows_here", "_law_cells", "_law_count", "_law_run", "_law_twin", "_law_state", "_law_still", "_law_held", "_law_thread", "_law_k", "_law_row"]
theorem scCovers : FnScope NC ["_law_rows_here", "_law_cells", "_law_count", "_law_run", "_law_twin"] (defScope sCovers) := ⟨rfl, rfl, rfl, by decide +kernel, rfl, by decide +kernel, by decide +kernel⟩
theorem ok_covers {f fW fS fA : Addr} {fd fdW fdS fdA : FuncData} (F : Fun K "_law_covers" "_law_covers" sCovers f fd)
    (GW : FnOk P w K mg base CX0 2 fW fdW ["_law_rows_here", "_law_cells", "_law_run", "_law_state"] spWalk) (mW : mg "_law_walk" = some (.ref fW)) (kW : PySem.W.keepIn K (.ref fW) = true) (bW : L2.Binds K fdW ["_law_rows_here", "_law_cells", "_law_run", "_law_state"] [])
    (GS : FnOk P w K mg base CX0 1 fS fdS ["_law_rows_here", "_law_cells"] spStart) (mS : mg "_law_start" = some (.ref fS)) (kS : PySem.W.keepIn K (.ref fS) = true) (bS : L2.Binds K fdS ["_law_rows_here", "_law_cells"] [])
    (GA : FnOk P w K mg base CX0 1 fA fdA ["_law_rows_here", "_law_state", "_law_sort"] spAt) (mA : mg "_law_at" = some (.ref fA)) (kA : PySem.W.keepIn K (.ref fA) = true) (bA : L2.Binds K fdA ["_law_rows_here", "_law_state", "_law_sort"] [])
    (tl : mg "len" = none) (tr : mg "range" = none) (tlist : mg "list" = none) (tset : mg "set" = none) :
    FnOk P w K mg base CX0 3 f fd ["_law_rows_here", "_law_cells", "_law_count", "_law_run", "_law_twin"] spCovers := by
  refine F.ok scCovers (fun vs H Q E h => ?_) (fun cdv A outer s H vs Q E hr h => ?_)
  · obtain ⟨q, cl, r, u, cs, rss, cnt, ts, us, rfl, _⟩ := h
    rfl
  · have hr1 : Room 1 _ := hr.mono (by decide)
    refine ⟨_, pss_cons (ps_if (pt_cmpR (op_neD hr.units) (pe_lc (own := [("_law_thread", 8)]) (g := gName 8) (by rfl) scCovers.nd (pi_list (pe_op op_cat (pe_callTy call_list_of (by rfl) tlist (by decide +kernel) (pa_cons (pv 3) pa_nil)) (pe_callTy call_list_of (by rfl) tlist (by decide +kernel) (pa_cons (pv 4) pa_nil)))) (blkOk_by (own := [("_law_thread", 8)]) (N := NC) (sc := defScope sCovers) (by decide +kernel)) (fun _ _ _ _ _ => pg_name (i := 8) scCovers.nd rfl (Or.inl rfl)) (fun _ _ _ _ _ => pts_one (pt_not (pt_chain op_le op_lt pe_int (pv 8) (pv 2)))) (fun _ _ _ _ _ => pv 8)) (pe_lst pa_nil) (nomark _)) (pss_one (ps_ret pe_bl)) pss_nil)
      (pss_cons (ps_set (i := 5) scCovers.nd rfl (.inr rfl) (pe_call GW hr rfl mW kW bW .nil pass0 (pa_cons (pv 0) (pa_cons (pv 1) (pa_cons (pv 3) (pa_cons (pe_call GS hr1 rfl mS kS bS .nil pass0 (pa_cons (pv 0) (pa_cons (pv 1) pa_nil))) pa_nil))))))
      (pss_cons (ps_set (i := 6) scCovers.nd rfl (.inl rfl) (pe_call GW hr rfl mW kW bW .nil pass0 (pa_cons (pv 0) (pa_cons (pv 1) (pa_cons (pv 4) (pa_cons (pe_call GS hr1 rfl mS kS bS .nil pass0 (pa_cons (pv 0) (pa_cons (pv 1) pa_nil))) pa_nil))))))
      (pss_cons (ps_setLc (i := 7) (own := [("_law_k", 9)]) (g := gName 9) (by rfl) scCovers.nd rfl rfl (sw_true rfl rfl rfl (by decide +kernel)) (pi_range1 rfl tr (pa_cons (pv 2) pa_nil)) (blkOk_by (own := [("_law_k", 9)]) (N := NC) (sc := defScope sCovers) (by decide +kernel)) (fun _ _ _ _ _ => pg_name (i := 9) scCovers.nd rfl (Or.inl rfl)) (fun _ _ _ _ _ => pts_nil)
        (fun _ _ _ _ _ => pe_ix (ix_listK (K := K) rfl) (pe_ix (ix_listK (K := K) rfl) (pv 0) (pv 9) (fun _ _ => rfl)) (pe_ix (ix_listK (K := K) rfl) (pe_ix (ix_tupK (K := K) rfl) (pv 5) pe_int (fun _ _ => rfl)) (pv 9) (fun _ _ => rfl)) (fun _ _ => rfl)))
      (pss_cons (ps_if (PW.pt (pw_or (pt_cmpR (op_neListD hr.units) (pe_lc (own := [("_law_row", 10)]) (g := gName 10) (by rfl) scCovers.nd (pi_list (pv 7)) (blkOk_by (own := [("_law_row", 10)]) (N := NC) (sc := defScope sCovers) (by decide +kernel)) (fun _ _ _ _ _ => pg_name (i := 10) scCovers.nd rfl (Or.inl rfl)) (fun _ _ _ _ _ => pts_one (pt_cmpR op_ne (pe_ix (ix_tupK (K := K) rfl) (pv 10) pe_int (fun _ _ => rfl)) pe_str (nomark _))) (fun _ _ _ _ _ => pv 10)) (pe_lst pa_nil) (nomark _))
          (pw_or1 (pt_cmpR op_ne (pe_callB cr_lenSS (by rfl) tl PySem.boot_len (pa_cons (pe_callTy (cr_setOfS rfl) (by rfl) tset (by decide +kernel) (pa_cons (pe_lc (own := [("_law_row", 10)]) (g := gName 10) (by rfl) scCovers.nd (pi_list (pv 7)) (blkOk_by (own := [("_law_row", 10)]) (N := NC) (sc := defScope sCovers) (by decide +kernel)) (fun _ _ _ _ _ => pg_name (i := 10) scCovers.nd rfl (Or.inl rfl)) (fun _ _ _ _ _ => pts_nil) (fun _ _ _ _ _ => pe_ix (ix_tupK (K := K) rfl) (pv 10) pe_int (fun _ _ => rfl))) pa_nil)) pa_nil)) (pv 2) (nomark _))))) (pss_one (ps_ret pe_bl)) pss_nil)
      (pss_one (ps_ret (pe_and (pe_cmpR (op_eqD hr.units) (pe_call GA hr1 rfl mA kA bA .nil pass0 (pa_cons (pv 0) (pa_cons (pv 6) (pa_cons pe_str pa_nil)))) (pe_listRg rfl (by rfl) tlist (prg_1 (by rfl) tr (pe_callB call_len_seq (by rfl) tl PySem.boot_len (pa_cons (pv 0) pa_nil)))) (nomark _)) (pe_one (pe_cmpR (op_eqD hr.units) (pe_ix ix_tup (pv 5) pe_int (fun _ _ => rfl)) (pe_ix ix_tup (pv 6) pe_int (fun _ _ => rfl)) (nomark _)))))))))), ?_⟩
    obtain ⟨q, cl, r, u, cs, rss, cnt, ts, us, rfl, ⟨hq, hcl, lim⟩, hru, ltr, huu, ltu, cn, few, k⟩ := h
    obtain ⟨ls, hls, pls⟩ := id hq
    have ll : ls.length = rss.length := pls.length
    have r5 := lim.r5
    refine ⟨_, rfl, r, _, rfl, .inl (SqL.of hru), fun l1 hl1 => ?_⟩
    have s1 := same_new (o := .lst (ts.map fun n => V.int (n : Nat))) hl1
    refine ⟨_, rfl, u, _, rfl, .inl (SqL.of (s1 _ _ huu)), fun l2 hl2 => ?_⟩
    have s2 := same_new (o := .lst (us.map fun n => V.int (n : Nat))) hl2
    refine ⟨l1, l2, _, _, rfl, rfl, s2 _ _ upd_same, upd_same, Nat.le_of_lt (small (by rw [List.length_map, List.length_map]; omega)), fun l3 hl3 => ?_⟩
    rw [← List.map_append]
    have s3 := same_new (o := .lst ((ts ++ us).map fun n => V.int (n : Nat))) hl3
    have sA := same_tr s1 (same_tr s2 s3)
    have h33 : (upd (upd (upd H l1 (.lst (ts.map fun n => V.int (n : Nat)))) l2 (.lst (us.map fun n => V.int (n : Nat)))) l3 (.lst ((ts ++ us).map fun n => V.int (n : Nat)))) l3 = some (.lst ((ts ++ us).map fun n => V.int (n : Nat))) := upd_same
    revert sA h33
    generalize (upd (upd (upd H l1 (.lst (ts.map fun n => V.int (n : Nat)))) l2 (.lst (us.map fun n => V.int (n : Nat)))) l3 (.lst ((ts ++ us).map fun n => V.int (n : Nat)))) = H1
    intro sA h33
    refine ⟨l3, rfl, ⟨_, SqL.of h33⟩, fun D hD => ?_⟩
    refine lc_list (K := K) (a := l3) (xs := (ts ++ us).map fun n => V.int (n : Nat)) (fun i Ha => Ha D = some (.lst ((((ts ++ us).take i).filter fun t => !decide (t < cnt)).map fun n => V.int (n : Nat))) ∧ Same H1 Ha) ⟨upd_same, same_new hD⟩ (fun i Ha _ ⟨_, e⟩ => SqL.of (e _ _ h33)) ?_ ?_
    · rintro i x Ha hi ⟨hDa, sa⟩
      have il := (List.getElem?_eq_some_iff.mp hi).1
      rw [List.length_map, List.length_append] at il
      rw [List.getElem?_map] at hi
      obtain ⟨t, ht, rfl⟩ := Option.map_eq_some_iff.mp hi
      refine ⟨rfl, ?_⟩
      refine ⟨_, rfl, _, _, rfl, rfl, true, congrArg V.bl (decide_eq_true (by omega)), ?_⟩
      refine ⟨_, rfl, _, _, rfl, rfl, _, rfl, ?_⟩
      by_cases e : t < cnt
      · refine ite_no (by rw [decide_eq_true (by omega)]; rfl) ?_
        refine ⟨?_, sa⟩
        rw [List.take_add_one, ht, List.filter_append, hDa]
        simp [e]
      · refine ite_yes (by rw [decide_eq_false (by omega)]; rfl) ?_
        refine ⟨_, rfl, _, hDa, small (by rw [List.length_map]; have := List.length_filter_le (fun t => !decide (t < cnt)) ((ts ++ us).take i); rw [List.length_take] at this; omega), ?_, same_put sa hD⟩
        rw [upd_same, List.take_add_one, ht, List.filter_append, List.map_append]
        simp [e]
    rintro Ha ⟨hDa, sa⟩
    rw [List.length_map, List.take_length] at hDa
    have sB := same_tr sA sa
    refine ⟨Nat.zero_le _, fun l4 hl4 => ?_⟩
    have s4 := same_new (o := .lst []) hl4
    have h44 : (upd Ha l4 (.lst [])) l4 = some (.lst []) := upd_same
    refine ⟨_, _, dp_nats (s4 _ _ hDa), dp_nats (ns := []) h44, shaped_ints _, shaped_ints _, _, rfl, ?_⟩
    rw [show PyData.eqv _ _ = decide (((ts ++ us).filter fun t => !decide (t < cnt)) = []) from eqv_nats _ []]
    have sC := same_tr sB s4
    have l3' := s4 _ _ (sa _ _ h33)
    revert sC
    generalize (upd Ha l4 (.lst [])) = H2
    intro sC
    by_cases eb : ∀ t ∈ ts ++ us, t < cnt
    · have e0 : ((ts ++ us).filter fun t => !decide (t < cnt)) = [] := List.filter_eq_nil_iff.mpr fun t ht => by rw [decide_eq_true (eb t ht)]; decide
      rw [e0]
      refine iteF ?_
      refine ⟨_, rfl, _, rfl, _, rfl, _, rfl, _, rfl, q, cl, cs, rss, rfl, hq.mono sC, sC _ _ hcl, lim.c5, lim.r5, fun t0 H3 s3 d3 => ?_⟩
      have sD := same_tr sC s3
      refine ⟨q, cl, r, t0, cs, rss, ts, start2 cs rss, rfl, hq.mono sD, sD _ _ hcl, lim.low, sD _ _ hru, ltr, d3.at, lim.start, fun t1 H4 s4' st1 => ?_⟩
      have sE := same_tr sD s4'
      refine ⟨_, rfl, _, rfl, _, rfl, _, rfl, _, rfl, q, cl, cs, rss, rfl, hq.mono sE, sE _ _ hcl, lim.c5, lim.r5, fun t0' H5 s5 d5 => ?_⟩
      have sF := same_tr sE s5
      refine ⟨q, cl, u, t0', cs, rss, us, start2 cs rss, rfl, hq.mono sF, sF _ _ hcl, lim.low, sF _ _ huu, ltu, d5.at, lim.start, fun t2 H6 s6 st2 => ?_⟩
      have sG := same_tr sF s6
      obtain ⟨S, hS⟩ : ∃ S, S = runS cs rss ts (start2 cs rss) := ⟨_, rfl⟩
      obtain ⟨U, hU⟩ : ∃ S, S = runS cs rss us (start2 cs rss) := ⟨_, rfl⟩
      rw [← hS] at st1
      rw [← hU] at st2
      have fitS : Fits cs rss S.1 S.2 := by rw [hS]; exact fits_run lim.low lim.start ltr
      have fitU : Fits cs rss U.1 U.2 := by rw [hU]; exact fits_run lim.low lim.start ltu
      have st1' := st1.mono (same_tr s5 s6)
      have hq6 := hq.mono sG
      have hls6 := sG _ _ hls
      have pls6 : Paired (fun l rs => RowsAt H6 rs l) ls rss := L2.Paired.mapP pls fun l rs e => e.same sG
      obtain ⟨a, b, x1, xa, xb⟩ := st1'
      refine ⟨_, rfl, (cnt : Int), rfl, by omega, by omega, fun D2 hD2 => ?_⟩
      refine lc_range (lo := 0) (n := cnt) (fun i Hx => ∃ as : List Addr, Hx D2 = some (.lst (as.map V.ref)) ∧ Paired (fun a r => RowAt H6 r a) as (rowsTo rss S.1 i) ∧ Same H6 Hx) ⟨[], upd_same, .nil, same_new hD2⟩ ?_ ?_
      · rintro i Hx hi ⟨as, hDx, pas, sx⟩
        obtain ⟨rs, hrs⟩ : ∃ rs, rss[i]? = some rs := ⟨_, List.getElem?_eq_getElem (by omega)⟩
        obtain ⟨n, hn⟩ : ∃ n, S.1[i]? = some n := ⟨_, List.getElem?_eq_getElem (by rw [fitS.len]; omega)⟩
        obtain ⟨l, hl, ⟨bs, hla, pbs⟩⟩ := paired_at (paired_flip pls6) hrs
        obtain ⟨rw', hrn⟩ : ∃ r, rs[n]? = some r := ⟨_, List.getElem?_eq_getElem (fitS.low i rs n hrs hn)⟩
        obtain ⟨ra, hra, rat⟩ := paired_at (paired_flip pbs) hrn
        have re := rowAt_of hrs hn hrn
        have z0 : (0 : Int) + (i : Nat) = (i : Nat) := Int.zero_add _
        have la : as.length = i := by rw [pas.length]; unfold rowsTo; rw [List.length_map, List.length_range]
        refine ⟨rfl, tyes_if ?_⟩
        refine ⟨_, rfl, _, rfl, q, _, _, _, rfl, rfl, SqL.of (sx _ _ hls6), by rw [z0]; exact atI_nat (by rw [List.getElem?_map, hl]; rfl), _, rfl, t1, _, _, _, rfl, rfl, SqT.of (sx _ _ x1), rfl, _, rfl, a, _, _, _, rfl, rfl, SqL.of (sx _ _ xa), by rw [z0]; exact atI_nat (by rw [List.getElem?_map, hn]; rfl), l, _, _, _, rfl, rfl, SqL.of (sx _ _ hla), atI_nat (by rw [List.getElem?_map, hra]; rfl), ?_⟩
        refine ⟨_, hDx, small (by rw [List.length_map]; omega), as ++ [ra], by rw [upd_same, List.map_append]; rfl, ?_, same_put sx hD2⟩
        rw [rowsTo_succ, re]
        exact Paired.snoc pas rat
      rintro Hx ⟨as, hDx, pas, sx⟩
      have la : as.length = cnt := by rw [pas.length]; unfold rowsTo; rw [List.length_map, List.length_range]
      have sH := same_tr sG sx
      have rat : ∀ {i : Nat} {x : V}, (as.map V.ref)[i]? = some x → i < cnt ∧ ∃ ra, x = .ref ra ∧ RowAt H6 (rowAt rss S.1 i) ra := fun {i x} h => by
        have il := (List.getElem?_eq_some_iff.mp h).1
        rw [List.length_map, la] at il
        rw [List.getElem?_map] at h
        obtain ⟨ra, h1, h2⟩ := Option.map_eq_some_iff.mp h
        obtain ⟨r', h3, h4⟩ := paired_at pas h1
        unfold rowsTo at h3
        rw [List.getElem?_map, List.getElem?_range il] at h3
        cases h3
        exact ⟨il, ra, h2.symm, h4⟩
      refine ⟨_, rfl, D2, rfl, ⟨_, SqL.of hDx⟩, fun D3 hD3 => ?_⟩
      refine lc_list (K := K) (a := D2) (xs := as.map V.ref) (fun i Hy => ∃ bs : List Addr, Hy D3 = some (.lst (bs.map V.ref)) ∧ bs.length ≤ i ∧ (bs = [] ↔ ∀ k, k < i → (rowAt rss S.1 k).word = "write") ∧ Same Hx Hy) ⟨[], upd_same, Nat.le_refl _, ⟨fun _ k h => absurd h (Nat.not_lt_zero _), fun _ => rfl⟩, same_new hD3⟩ (fun i Hy _ ⟨_, _, _, _, e⟩ => SqL.of (e _ _ hDx)) ?_ ?_
      · rintro i x Hy hi ⟨bs, hDy, lb, iff, sy⟩
        obtain ⟨il, ra, rfl, rt⟩ := rat hi
        obtain ⟨xs, hx⟩ := rt.head
        refine ⟨rfl, ?_⟩
        refine ⟨_, rfl, ra, _, _, _, rfl, rfl, SqT.of (sy _ _ (sx _ _ hx)), atZ, rfl, _, rfl, ?_⟩
        by_cases e : (rowAt rss S.1 i).word = "write"
        · refine ite_no (by rw [decide_eq_true (congrArg V.str e)]; rfl) ?_
          refine ⟨bs, hDy, by omega, iff.trans ⟨fun h k hk => ?_, fun h k hk => h k (by omega)⟩, sy⟩
          by_cases ek : k = i
          · rw [ek]; exact e
          · exact h k (by omega)
        · refine ite_yes (by rw [decide_eq_false (fun z => e (V.str.inj z))]; rfl) ?_
          refine ⟨_, rfl, _, hDy, small (by rw [List.length_map]; omega), bs ++ [ra], by rw [upd_same, List.map_append]; rfl, by rw [List.length_append]; exact Nat.add_le_add_right lb 1, ⟨fun z => ?_, fun h => absurd (h i (by omega)) e⟩, same_put sy hD3⟩
          simp at z
      rintro Hy ⟨bs, hDy, lb, iff, sy⟩
      rw [List.length_map, la] at iff lb
      refine ⟨Nat.zero_le _, fun l5 hl5 => ?_⟩
      have s5' := same_new (o := .lst []) hl5
      have h55 : (upd Hy l5 (.lst [])) l5 = some (.lst []) := upd_same
      have hDz := s5' _ _ hDy
      have sI := same_tr sH (same_tr sy s5')
      have hDx2 := (same_tr sy s5') _ _ hDx
      have sxz := same_tr sx (same_tr sy s5')
      revert h55 hDz sI hDx2 sxz
      generalize (upd Hy l5 (.lst [])) = Hz
      intro h55 hDz sI hDx2 sxz
      by_cases eb2 : bs = []
      · subst eb2
        have allw := iff.mp rfl
        refine .inr ⟨_, _, dp_nats (ns := []) hDz, dp_nats (ns := []) h55, shaped_ints _, shaped_ints _, _, rfl, ?_⟩
        rw [show PyData.eqv _ _ = decide (([] : List Nat) = []) from eqv_nats [] []]
        refine iteF ?_
        refine ⟨_, rfl, D2, rfl, ⟨_, SqL.of hDx2⟩, fun D4 hD4 => ?_⟩
        refine lc_list (K := K) (a := D2) (xs := as.map V.ref) (fun i Hy => Hy D4 = some (.lst ((((List.range cnt).map (cellW rss S.1)).take i).map V.str)) ∧ Same Hz Hy) ⟨upd_same, same_new hD4⟩ (fun i Hy _ ⟨_, e⟩ => SqL.of (e _ _ hDx2)) ?_ ?_
        · rintro i x Hy hi ⟨hDy, sy'⟩
          obtain ⟨il, ra, rfl, rt⟩ := rat hi
          obtain ⟨c, v, n, re, hw⟩ := rt.wr (allw i il)
          have ce : cellW rss S.1 i = c := by unfold cellW; rw [re]
          refine ⟨rfl, tyes_if ?_⟩
          refine ⟨_, rfl, ra, _, _, _, rfl, rfl, SqT.of (sy' _ _ (sxz _ _ hw)), rfl, _, hDy, small (by rw [List.length_map, List.length_take]; omega), ?_, same_put sy' hD4⟩
          rw [upd_same, List.take_add_one, List.getElem?_map, List.getElem?_range il, List.map_append]
          show _ = some (HO.lst (_ ++ [V.str (cellW rss S.1 i)]))
          rw [ce]
        rintro Hy ⟨hDy, sy'⟩
        rw [List.length_map, la] at hDy
        have tk : ((List.range cnt).map (cellW rss S.1)).take cnt = (List.range cnt).map (cellW rss S.1) := List.take_of_length_le (by rw [List.length_map, List.length_range]; exact Nat.le_refl _)
        rw [tk] at hDy
        refine ⟨D4, _, rfl, SqL.of hDy, by rw [List.length_map, List.length_range]; omega, fun a6 ha6 => ?_⟩
        have s7 := same_new (o := SetSO w a6 (foldL ((List.range cnt).map (cellW rss S.1)))) ha6
        refine ⟨a6, _, rfl, upd_same, _, rfl, rfl, _, rfl, ?_⟩
        have sJ := same_tr sI (same_tr sy' s7)
        have sxy := same_tr sxz (same_tr sy' s7)
        have len : ((List.range cnt).map (cellW rss S.1)).length = cnt := by rw [List.length_map, List.length_range]
        by_cases ec : (foldL ((List.range cnt).map (cellW rss S.1))).length = cnt
        · refine ite_no (by rw [dec_int]; simp [ec]) ?_
          have cov : CovW rss S.1 cnt := ⟨allw, foldL_iff.mp (ec.trans len.symm)⟩
          have hqw := hq.mono sJ
          have st2w := st2.mono sxy
          refine ⟨_, rfl, _, rfl, q, t2, _, cs, rss, _, _, rfl, hqw, st2w, fitU, r5, fun g H8 s8 n8 hg => ?_⟩
          have sK := same_tr sJ s8
          refine ⟨_, rfl, q, _, rfl, .inl (SqL.of (sK _ _ hls)), _, rfl, RgOk.of_le (by decide) (by rw [List.length_map]; omega) (by decide) (by omega), fun a9 ha9 => ?_⟩
          rw [List.length_map, ll, rgV_nats]
          have s9 := same_new (o := .lst ((List.range rss.length).map fun n => V.int (n : Nat))) ha9
          refine ⟨_, _, dp_nats (s9 _ _ hg), dp_nats (ns := List.range rss.length) upd_same, shaped_ints _, shaped_ints _, _, rfl, ?_⟩
          rw [show PyData.eqv _ _ = decide (atS "rest" rss U.1 rss.length = List.range rss.length) from eqv_nats _ _]
          have sL := same_tr sK s9
          have sxw := same_tr sxy (same_tr s8 s9)
          revert sL sxw
          generalize (upd H8 a9 (.lst ((List.range rss.length).map fun n => V.int (n : Nat)))) = Hv
          intro sL sxw
          by_cases er : atS "rest" rss U.1 rss.length = List.range rss.length
          · refine ite_yes (decide_eq_true er) ?_
            have rall : ∀ k, k < rss.length → (rowAt rss U.1 k).word = "rest" := atS_all.mp (by rw [er, List.length_range])
            obtain ⟨a1, b1, y1, _, y3⟩ := st2.mono sxw
            refine ⟨_, rfl, t1, _, _, _, rfl, rfl, SqT.of (sxw _ _ x1), rfl, ?_⟩
            refine ⟨_, rfl, t2, _, _, _, rfl, rfl, SqT.of y1, rfl, ?_⟩
            refine ⟨_, _, dp_intsL (sxw _ _ xb), dp_intsL y3, shaped_ints _, shaped_ints _, ?_⟩
            refine k _ _ sL ?_
            rw [eqv_lstI, decide_eq_true_iff]
            refine ⟨fun e => ⟨eb, hS ▸ cov, hU ▸ rall, by rw [← hS, ← hU]; exact e⟩, fun h => by have := h.2.2.2; rw [← hS, ← hU] at this; exact this⟩
          · refine ite_no (decide_eq_false er) ?_
            refine k false _ sL ⟨(fun z => nomatch z), fun z => absurd (atS_full (hU ▸ z.2.2.1)) er⟩
        · refine ite_yes (by rw [dec_int]; simp; omega) ?_
          refine k false _ sJ ⟨(fun z => nomatch z), fun z => absurd ?_ ec⟩
          have nd : ((List.range cnt).map (cellW rss S.1)).Nodup := hS ▸ z.2.1.2
          rw [foldL_nodup nd, len]
      · refine .inl ⟨D3, l5, _, _, rfl, rfl, SqL.of hDz, SqL.of h55, (by rw [List.length_map]; exact fun z => eb2 (List.length_eq_zero_iff.mp z)), _, rfl, ?_⟩
        refine iteT ?_
        exact k false _ sI ⟨(fun z => nomatch z), fun z => absurd (iff.mpr (hS ▸ z.2.1.1)) eb2⟩
    · have e0 : ((ts ++ us).filter fun t => !decide (t < cnt)) ≠ [] := fun z => eb fun t ht => by
        have := List.filter_eq_nil_iff.mp z t ht
        simpa using this
      rw [decide_eq_false e0]
      refine iteT ?_
      exact k false _ sC ⟨(fun z => nomatch z), fun z => absurd z.1 eb⟩
end
end CC

set_option Elab.async false
set_option maxRecDepth 100000
namespace CC
open PySem PySem.Spec PyProof.Rows L2 RZ StX
set_option linter.unusedVariables false
abbrev sUntil : Stmt := top 55
theorem Grow.of_same {p : Addr} {H H' : Hp} (s : Same H H') : Grow p H H' := fun b o e _ => s b o e
theorem Grow.same_tr {p : Addr} {H H1 H2 : Hp} (g : Grow p H H1) (s : Same H1 H2) : Grow p H H2 := g.trans (Grow.of_same s)
theorem units65 {k : Nat} {A : Around} (r : Room k A) : A.units + 65 < cLine := by have := r.un; omega
/-- what is kept but for the things of X -/
def Kp (X : List Addr) (H H' : Hp) : Prop := ∀ b o, H b = some o → b ∉ X → H' b = some o
def DueX (X : List Addr) (H : Hp) (t : Addr) (S : St2) : Prop := ∃ a b, t ∉ X ∧ a ∉ X ∧ b ∉ X ∧ H t = some (.tup [.ref a, .ref b]) ∧ H a = some (.lst (S.1.map fun n => V.int (n : Nat))) ∧ H b = some (.lst (S.2.map V.int))
theorem DueX.at {X : List Addr} {H : Hp} {t : Addr} {S : St2} (h : DueX X H t S) : DueAt H t S.1 S.2 := by
  obtain ⟨a, b, _, _, _, h⟩ := h
  exact ⟨a, b, h⟩
theorem DueX.keep {X : List Addr} {H H' : Hp} {t : Addr} {S : St2} (h : DueX X H t S) (g : Kp X H H') : DueX X H' t S := by
  obtain ⟨a, b, n1, n2, n3, h1, h2, h3⟩ := h
  exact ⟨a, b, n1, n2, n3, g _ _ h1 n1, g _ _ h2 n2, g _ _ h3 n3⟩
theorem Kp.of {X : List Addr} {H H' : Hp} (s : Same H H') : Kp X H H' := fun b o e _ => s b o e
theorem Kp.put {X : List Addr} {H : Hp} {p : Addr} {o : HO} (h : p ∈ X) : Kp X H (upd H p o) := fun b u e n => by
  rw [upd_ne fun z => n (by rw [z]; exact h)]
  exact e
theorem DueNew.x {X : List Addr} {H H' : Hp} {t : Addr} {S : St2} (h : DueNew H H' t S.1 S.2) (s : Same H H') (hx : ∀ x ∈ X, ∃ xs, H x = some (.lst xs)) : DueX X H' t S := by
  obtain ⟨a, b, n1, n2, h1, h2, h3⟩ := h
  refine ⟨a, b, fun m => ?_, fun m => ?_, fun m => ?_, h1, h2, h3⟩
  · obtain ⟨xs, e⟩ := hx t m
    rw [s _ _ e] at h1
    cases h1
  · obtain ⟨xs, e⟩ := hx a m
    rw [n1] at e
    cases e
  · obtain ⟨xs, e⟩ := hx b m
    rw [n2] at e
    cases e
theorem DueAt.x {X : List Addr} {H : Hp} {t : Addr} {S : St2} (h : DueAt H t S.1 S.2) (hx : ∀ x ∈ X, H x = none) : DueX X H t S := by
  obtain ⟨a, b, h1, h2, h3⟩ := h
  refine ⟨a, b, fun m => ?_, fun m => ?_, fun m => ?_, h1, h2, h3⟩
  · rw [hx t m] at h1
    cases h1
  · rw [hx a m] at h2
    cases h2
  · rw [hx b m] at h3
    cases h3

def spWalkX : Sp := fun vs H Q _ => ∃ (q cl r t : Addr) (cs : List Str) (rss : List (List Row)) (ts : List Nat) (s : St2) (X : List Addr), vs = [.ref q, .ref cl, .ref r, .ref t] ∧ RowsQ H q rss ∧ H cl = some (.lst (cs.map V.str)) ∧ RowsIn cs rss ∧ H r = some (.lst (ts.map fun n => V.int (n : Nat))) ∧ (∀ t ∈ ts, t < rss.length) ∧ DueX X H t s ∧ Fits cs rss s.1 s.2 ∧ (∀ x ∈ X, ∃ xs, H x = some (.lst xs)) ∧
  ∀ (t' : Addr) (H' : Hp), Same H H' → DueX X H' t' (runS cs rss ts s) → Q (.ref t') H'
def spUntil : Sp := fun vs H Q _ => ∃ (q cl r so : Addr) (cs : List Str) (rss : List (List Row)) (ts : List Nat) (th : Nat) (wd : Str), vs = [.ref q, .ref cl, .ref r, .int (th : Nat), .ref so] ∧ LawAt H q cl cs rss ∧ H r = some (.lst (ts.map fun n => V.int (n : Nat))) ∧ (∀ t ∈ ts, t < rss.length) ∧ ts.length ≤ 2000 ∧ th < rss.length ∧ H so = some (.lst [V.str wd]) ∧
  ∀ (r' : Addr) (ts' : List Nat) (H' : Hp), Same H H' → H r' = none → H' r' = some (.lst (ts'.map fun n => V.int (n : Nat))) → (∀ t ∈ ts', t < rss.length) → ts'.length ≤ ts.length + 30 → Q (.ref r') H'
section
variable {P : Program} {w : World} {K : PySem.W.Frag} {mg : Str → Option Value} {base : Heap}
theorem ok_walkX {f fP : Addr} {fd fdP : FuncData} (F : Fun K "_law_walk" "_law_walk" sWalk f fd)
    (GP : FnOk P w K mg base CX0 1 fP fdP ["_law_rows_here", "_law_cells", "_law_state", "_law_thread"] spPlain) (mP : mg "_law_plain_step" = some (.ref fP)) (kP : PySem.W.keepIn K (.ref fP) = true) (bP : L2.Binds K fdP ["_law_rows_here", "_law_cells", "_law_state", "_law_thread"] []) :
    FnOk P w K mg base CX0 2 f fd ["_law_rows_here", "_law_cells", "_law_run", "_law_state"] spWalkX := by
  refine F.ok scWalk (fun vs H Q E h => ?_) (fun cdv A outer s H vs Q E hr h => ?_)
  · obtain ⟨q, cl, r, t, cs, rss, ts, s2, X, rfl, _⟩ := h
    rfl
  · refine ⟨_, pss_cons (ps_for PassesOwn.never rfl (pi_list (pv 2)) (pg_name (i := 4) scWalk.nd rfl (Or.inl rfl)) (pss_one (ps_set (i := 3) scWalk.nd rfl (.inl rfl) (pe_call GP hr rfl mP kP bP .nil pass0 (pa_cons (pv 0) (pa_cons (pv 1) (pa_cons (pv 3) (pa_cons (pv 4) pa_nil))))))))
      (pss_one (ps_ret (pv 3))), ?_⟩
    obtain ⟨q, cl, r, t, cs, rss, ts, S, X, rfl, hq, hcl, low, hr0, lt, hd, fit, hx, k⟩ := h
    refine ⟨_, rfl, r, rfl, ⟨_, SqL.of hr0⟩, for_list (K := K) (a := r) (xs := ts.map fun n => V.int (n : Nat)) (fun i σ Ha => ∃ (t' : Addr) (v4 : Option V), σ = [some (.ref q), some (.ref cl), some (.ref r), some (.ref t'), v4] ∧ DueX X Ha t' (runS cs rss (ts.take i) S) ∧ Same H Ha) ⟨t, none, rfl, hd, fun _ _ e => e⟩ (fun i σ Ha _ ⟨_, _, _, _, e⟩ => SqL.of (e _ _ hr0)) ?_ ?_⟩
    · rintro i x σ Ha hi ⟨t', v4, rfl, st, sa⟩
      rw [List.getElem?_map] at hi
      obtain ⟨j, hj, rfl⟩ := Option.map_eq_some_iff.mp hi
      refine ⟨_, rfl, _, rfl, _, rfl, _, rfl, q, cl, t', cs, rss, _, _, j, rfl, hq.mono sa, sa _ _ hcl, st.at, fits_run low fit (take_lt lt), low, lt j (List.mem_of_getElem? hj), fun t2 Hb sb st2 => ?_⟩
      refine ⟨t2, _, rfl, ?_, same_tr sa sb⟩
      rw [runS_take hj]
      exact DueNew.x (S := step2 cs rss (runS cs rss (ts.take i) S) j) st2 sb fun x hm => by
        obtain ⟨xs, e⟩ := hx x hm
        exact ⟨xs, sa _ _ e⟩
    · rintro σ Ha ⟨t', v4, rfl, st, sa⟩
      rw [List.length_map, List.take_length] at st
      exact ⟨_, rfl, k t' Ha sa st⟩
abbrev NU : List Str := ["_law_rows_here", "_law_cells", "_law_run", "_law_thread", "_law_sorts", "_law_state", "_law_turn"]
theorem scUntil : FnScope NU ["_law_rows_here", "_law_cells", "_law_run", "_law_thread", "_law_sorts"] (defScope sUntil) := ⟨rfl, rfl, rfl, by decide +kernel, rfl, by decide +kernel, by decide +kernel⟩
theorem ok_until {f fW fS fP : Addr} {fd fdW fdS fdP : FuncData} (F : Fun K "_law_until" "_law_until" sUntil f fd)
    (GW : FnOk P w K mg base CX0 2 fW fdW ["_law_rows_here", "_law_cells", "_law_run", "_law_state"] spWalkX) (mW : mg "_law_walk" = some (.ref fW)) (kW : PySem.W.keepIn K (.ref fW) = true) (bW : L2.Binds K fdW ["_law_rows_here", "_law_cells", "_law_run", "_law_state"] [])
    (GS : FnOk P w K mg base CX0 1 fS fdS ["_law_rows_here", "_law_cells"] spStart) (mS : mg "_law_start" = some (.ref fS)) (kS : PySem.W.keepIn K (.ref fS) = true) (bS : L2.Binds K fdS ["_law_rows_here", "_law_cells"] [])
    (GP : FnOk P w K mg base CX0 1 fP fdP ["_law_rows_here", "_law_cells", "_law_state", "_law_thread"] spPlain) (mP : mg "_law_plain_step" = some (.ref fP)) (kP : PySem.W.keepIn K (.ref fP) = true) (bP : L2.Binds K fdP ["_law_rows_here", "_law_cells", "_law_state", "_law_thread"] [])
    (tr : mg "range" = none) (tlist : mg "list" = none) :
    FnOk P w K mg base CX0 3 f fd ["_law_rows_here", "_law_cells", "_law_run", "_law_thread", "_law_sorts"] spUntil := by
  refine F.ok scUntil (fun vs H Q E h => ?_) (fun cdv A outer s H vs Q E hr h => ?_)
  · obtain ⟨q, cl, r, so, cs, rss, ts, th, wd, rfl, _⟩ := h
    rfl
  · have hr1 : Room 1 _ := hr.mono (by decide)
    refine ⟨_, pss_cons (ps_set (i := 2) scUntil.nd rfl (.inl rfl) (pe_callTy call_list_of (by rfl) tlist (by decide +kernel) (pa_cons (pv 2) pa_nil)))
      (pss_cons (ps_set (i := 5) scUntil.nd rfl (.inl rfl) (pe_call GW hr rfl mW kW bW .nil pass0 (pa_cons (pv 0) (pa_cons (pv 1) (pa_cons (pv 2) (pa_cons (pe_call GS hr1 rfl mS kS bS .nil pass0 (pa_cons (pv 0) (pa_cons (pv 1) pa_nil))) pa_nil))))))
      (pss_cons (ps_for PassesOwn.never rfl (pi_range1 rfl tr (pa_cons pe_int pa_nil)) (pg_name (i := 6) scUntil.nd rfl (Or.inl rfl))
        (pss_cons (ps_if (pt_cmpR (op_in_seqK (K := K) rfl) (pe_ix (ix_tupK (K := K) rfl) (pe_ix (ix_listK (K := K) rfl) (pe_ix (ix_listK (K := K) rfl) (pv 0) (pv 3) (fun _ _ => rfl)) (pe_ix (ix_listK (K := K) rfl) (pe_ix (ix_tupK (K := K) rfl) (pv 5) pe_int (fun _ _ => rfl)) (pv 3) (fun _ _ => rfl)) (fun _ _ => rfl)) pe_int (fun _ _ => rfl)) (pv 4) (by rfl)) (pss_one (ps_ret (pv 2))) pss_nil)
        (pss_cons (ps_set (i := 5) scUntil.nd rfl (.inl rfl) (pe_call GP hr1 rfl mP kP bP .nil pass0 (pa_cons (pv 0) (pa_cons (pv 1) (pa_cons (pv 5) (pa_cons (pv 3) pa_nil))))))
        (pss_one (ps_expr (pe_bm PySem.F.plainAttrs_list PySem.F.slot_list_append PySem.F.type_list_append mt_append (pv 2) (pa_cons (pv 3) pa_nil)))))))
      (pss_one (ps_ret (pv 2))))), ?_⟩
    obtain ⟨q, cl, r, so, cs, rss, ts, th, wd, rfl, ⟨hq, hcl, lim⟩, hr0, lt, few, hth, hso, k⟩ := h
    obtain ⟨ls, hls, pls⟩ := id hq
    have ll : ls.length = rss.length := pls.length
    have r5 := lim.r5
    refine ⟨_, rfl, r, _, rfl, .inl (SqL.of hr0), fun r1 hr1n => ?_⟩
    have s1 := same_new (o := .lst (ts.map fun n => V.int (n : Nat))) hr1n
    have e1 : (upd H r1 (.lst (ts.map fun n => V.int (n : Nat)))) r1 = some (.lst (ts.map fun n => V.int (n : Nat))) := upd_same
    revert s1 e1
    generalize (upd H r1 (.lst (ts.map fun n => V.int (n : Nat)))) = H1
    intro s1 e1
    refine ⟨_, rfl, _, rfl, _, rfl, _, rfl, _, rfl, q, cl, cs, rss, rfl, hq.mono s1, s1 _ _ hcl, lim.c5, lim.r5, fun t0 H2 s2 d2 => ?_⟩
    have sA := same_tr s1 s2
    have x1 : ∀ x ∈ [r1], ∃ xs, H1 x = some (.lst xs) := fun x hx => by rw [List.mem_singleton] at hx; rw [hx]; exact ⟨_, e1⟩
    have x2 : ∀ x ∈ [r1], ∃ xs, H2 x = some (.lst xs) := fun x hx => by rw [List.mem_singleton] at hx; rw [hx]; exact ⟨_, s2 _ _ e1⟩
    refine ⟨q, cl, r1, t0, cs, rss, ts, start2 cs rss, [r1], rfl, hq.mono sA, sA _ _ hcl, lim.low, s2 _ _ e1, lt, DueNew.x (S := start2 cs rss) d2 s2 x1, lim.start, x2, fun t1 H3 s3 d3 => ?_⟩
    have sB := same_tr sA s3
    have e3 := s3 _ _ (s2 _ _ e1)
    refine ⟨30, rfl, by decide, by decide, for_range (n := 30) (fun i σ Ha => ∃ (t : Addr) (S : St2) (v6 : Option V) (us : List Nat), σ = [some (.ref q), some (.ref cl), some (.ref r1), some (.int (th : Nat)), some (.ref so), some (.ref t), v6] ∧ DueX [r1] Ha t S ∧ Fits cs rss S.1 S.2 ∧ Ha r1 = some (.lst (us.map fun n => V.int (n : Nat))) ∧ (∀ t ∈ us, t < rss.length) ∧ us.length = ts.length + i ∧ Same H Ha)
      ⟨t1, runS cs rss ts (start2 cs rss), none, ts, rfl, d3, fits_run lim.low lim.start lt, e3, lt, rfl, sB⟩ ?_ ?_⟩
    · rintro i σ Ha hi ⟨t, S, v6, us, rfl, dt, fitS, hra, ltu, ul, sa⟩
      have dta := dt.at
      obtain ⟨a, b, y1, ya, yb⟩ := dta
      have hqa := hq.mono sa
      have plsa : Paired (fun l rs => RowsAt Ha rs l) ls rss := L2.Paired.mapP pls fun l rs e => e.same sa
      obtain ⟨rs, hrs⟩ : ∃ rs, rss[th]? = some rs := ⟨_, List.getElem?_eq_getElem hth⟩
      obtain ⟨n, hn⟩ : ∃ n, S.1[th]? = some n := ⟨_, List.getElem?_eq_getElem (by rw [fitS.len]; exact hth)⟩
      obtain ⟨l, hl, ⟨as, hla, pas⟩⟩ := paired_at (paired_flip plsa) hrs
      obtain ⟨rw', hrn⟩ : ∃ r, rs[n]? = some r := ⟨_, List.getElem?_eq_getElem (fitS.low th rs n hrs hn)⟩
      obtain ⟨ra, hra', rat⟩ := paired_at (paired_flip pas) hrn
      obtain ⟨xs, hx⟩ := rat.head
      refine ⟨_, rfl, _, rfl, q, _, _, _, rfl, rfl, SqL.of (sa _ _ hls), atI_nat (by rw [List.getElem?_map, hl]; rfl), _, rfl, t, _, _, _, rfl, rfl, SqT.of y1, rfl, _, rfl, a, _, _, _, rfl, rfl, SqL.of ya, atI_nat (by rw [List.getElem?_map, hn]; rfl), l, _, _, _, rfl, rfl, SqL.of hla, atI_nat (by rw [List.getElem?_map, hra']; rfl), ra, _, _, _, rfl, rfl, SqT.of hx, atZ, _, rfl, ?_⟩
      refine ⟨so, _, rfl, .inl (SqL.of (sa _ _ hso)), rfl, rfl, _, rfl, ?_⟩
      by_cases e : (if false = true then !inV (V.str rw'.word) [V.str wd] else inV (V.str rw'.word) [V.str wd]) = true
      · refine ite_yes e ?_
        exact ⟨_, rfl, k r1 us Ha sa hr1n hra ltu (by omega)⟩
      · refine ite_no (by simpa using e) ?_
        refine ⟨_, rfl, _, rfl, _, rfl, _, rfl, q, cl, t, cs, rss, _, _, th, rfl, hqa, sa _ _ hcl, dt.at, fitS, lim.low, hth, fun t2 Hb sb d4 => ?_⟩
        have d5 : DueX [r1] Hb t2 (step2 cs rss S th) := DueNew.x (S := step2 cs rss S th) d4 sb fun x hx => by rw [List.mem_singleton] at hx; rw [hx]; exact ⟨_, hra⟩
        have hrb := sb _ _ hra
        refine ⟨_, rfl, .inl ⟨rfl, _, SqL.of hrb⟩, _, rfl, r1, _, _, rfl, rfl, hrb, small (by rw [List.length_map]; omega), ?_⟩
        refine ⟨t2, step2 cs rss S th, _, us ++ [th], rfl, d5.keep (Kp.put (List.mem_singleton.mpr rfl)), ?_, by rw [upd_same, List.map_append]; rfl, fun u hu => ?_, by rw [List.length_append, ul]; rfl, same_put (same_tr sa sb) hr1n⟩
        · have := fits_run (ts := [th]) lim.low fitS (fun t ht => by rw [List.mem_singleton] at ht; rw [ht]; exact hth)
          exact this
        · rcases List.mem_append.mp hu with h | h
          · exact ltu u h
          · rw [List.mem_singleton] at h
            rw [h]
            exact hth
    · rintro σ Ha ⟨t, S, v6, us, rfl, dt, fitS, hra, ltu, ul, sa⟩
      exact ⟨_, rfl, k r1 us Ha sa hr1n hra ltu (by omega)⟩
end
end CC

set_option Elab.async false
set_option maxRecDepth 100000
namespace CC
open PySem PySem.Spec PyProof.Rows L2 RZ StX
set_option linter.unusedVariables false
abbrev sPair : Stmt := top 56
/-- two runs that are being made -/
def PairZ (p q cl : Addr) (cnt R A B m : Nat) (H : Hp) (σ : L2.St) (Hx : Hp) : Prop := ∃ (x y : Addr) (xs ys : List Nat) (v6 v7 : Option V), σ = [some (.ref p), some (.ref q), some (.ref cl), some (.int (cnt : Nat)), some (.ref x), some (.ref y), v6, v7] ∧ Hx x = some (.lst (xs.map fun n => V.int (n : Nat))) ∧ Hx y = some (.lst (ys.map fun n => V.int (n : Nat))) ∧ p ≠ x ∧ p ≠ y ∧ (∀ t ∈ xs, t < R) ∧ (∀ t ∈ ys, t < R) ∧ xs.length ≤ A ∧ ys.length ≤ B ∧ Grow p H Hx ∧ Src p m Hx
def spPair : Sp := fun vs H Q _ => ∃ (p q cl : Addr) (cs : List Str) (rss : List (List Row)) (cnt n : Nat), vs = [.ref p, .ref q, .ref cl, .int (cnt : Nat)] ∧ Src p n H ∧ n + 10 < 1000000 ∧ p ≠ cl ∧ LawAt H q cl cs rss ∧ cnt ≤ rss.length ∧ 1 ≤ rss.length ∧
  ∀ (T x y : Addr) (xs ys : List Nat) (H' : Hp), Grow p H H' → Src p (n + 10) H' → H' T = some (.tup [.ref x, .ref y]) → H' x = some (.lst (xs.map fun n => V.int (n : Nat))) → H' y = some (.lst (ys.map fun n => V.int (n : Nat))) → p ≠ x → p ≠ y → (∀ t ∈ xs, t < rss.length) → (∀ t ∈ ys, t < rss.length) → xs.length ≤ 1000 → ys.length ≤ 1000 → Q (.ref T) H'
section
variable {P : Program} {w : World} {K : PySem.W.Frag} {mg : Str → Option Value} {base : Heap}
theorem LawAt.grow {p q cl : Addr} {n : Nat} {cs : List Str} {rss : List (List Row)} {H H' : Hp} (h : LawAt H q cl cs rss) (g : Grow p H H') (s : Src p n H) (ne : p ≠ cl) : LawAt H' q cl cs rss := ⟨h.1.grow g s, g _ _ h.2.1 ne.symm, h.2.2⟩
abbrev NP : List Str := ["_law_source_here", "_law_rows_here", "_law_cells", "_law_count", "_law_run", "_law_twin", "_law_k", "_law_thread"]
theorem scPair : FnScope NP ["_law_source_here", "_law_rows_here", "_law_cells", "_law_count"] (defScope sPair) := ⟨rfl, rfl, rfl, by decide +kernel, rfl, by decide +kernel, by decide +kernel⟩
theorem ok_pair {f fU fD : Addr} {fd fdU fdD : FuncData} (F : Fun K "_law_pair" "_law_pair" sPair f fd)
    (GU : FnOk P w K mg base CX0 3 fU fdU ["_law_rows_here", "_law_cells", "_law_run", "_law_thread", "_law_sorts"] spUntil) (mU : mg "_law_until" = some (.ref fU)) (kU : PySem.W.keepIn K (.ref fU) = true) (bU : L2.Binds K fdU ["_law_rows_here", "_law_cells", "_law_run", "_law_thread", "_law_sorts"] [])
    (GD : FnOk P w K mg base CX0 1 fD fdD ["_law_source_here", "_law_many"] spDraw) (gD : mg "_law_draw" = some (.ref fD)) (kD : PySem.W.keepIn K (.ref fD) = true) (bD : L2.Binds K fdD ["_law_source_here", "_law_many"] [])
    (tl : mg "len" = none) (tr : mg "range" = none) :
    FnOk P w K mg base CX0 4 f fd ["_law_source_here", "_law_rows_here", "_law_cells", "_law_count"] spPair := by
  refine F.ok scPair (fun vs H Q E h => ?_) (fun cdv A outer s H vs Q E hr h => ?_)
  · obtain ⟨p, q, cl, cs, rss, cnt, n, rfl, _⟩ := h
    rfl
  · have hr1 : Room 1 _ := hr.mono (by decide)
    refine ⟨_, pss_cons (ps_par (i := 4) (j := 5) (by rfl) scPair.nd rfl rfl (by decide) rfl rfl (pa_cons (pe_lst pa_nil) (pa_cons (pe_lst pa_nil) pa_nil)) (by rfl))
      (pss_cons (ps_for PassesOwn.never rfl (pi_range1 rfl tr (pa_cons (pv 3) pa_nil)) (pg_name (i := 6) scPair.nd rfl (Or.inl rfl))
        (pss_one (ps_set (i := 4) scPair.nd rfl (.inl rfl) (pe_call GU hr rfl mU kU bU .nil pass0 (pa_cons (pv 1) (pa_cons (pv 2) (pa_cons (pv 4) (pa_cons (pv 6) (pa_cons (pe_lst (pa_cons pe_str pa_nil)) pa_nil)))))))))
      (pss_cons (ps_if (PW.pt (pw_and (pt_cmpR op_gt (pv 3) pe_int (nomark _)) (pw_and1 (pt_cmpR op_eq (pe_call GD hr1 rfl gD kD bD .nil pass0 (pa_cons (pv 0) (pa_cons pe_int pa_nil))) pe_int (nomark _)))))
        (pss_cons (ps_set (i := 7) scPair.nd rfl (.inl rfl) (pe_call GD hr1 rfl gD kD bD .nil pass0 (pa_cons (pv 0) (pa_cons (pv 3) pa_nil))))
        (pss_cons (ps_set (i := 5) scPair.nd rfl (.inl rfl) (pe_call GU hr rfl mU kU bU .nil pass0 (pa_cons (pv 1) (pa_cons (pv 2) (pa_cons (pe_lst (pa_cons (pv 7) pa_nil)) (pa_cons (pv 7) (pa_cons (pe_lst (pa_cons pe_str pa_nil)) pa_nil)))))))
        (pss_one (ps_set (i := 4) scPair.nd rfl (.inl rfl) (pe_op op_cat (pv 5) (pv 4)))))) pss_nil)
      (pss_cons (ps_if (pt_cmpR op_eq (pe_call GD hr1 rfl gD kD bD .nil pass0 (pa_cons (pv 0) (pa_cons pe_int pa_nil))) pe_int (nomark _)) (pss_one (ps_set (i := 4) scPair.nd rfl (.inl rfl) (pe_op op_cat (pv 4) (pe_lst (pa_cons (pe_call GD hr1 rfl gD kD bD .nil pass0 (pa_cons (pv 0) (pa_cons (pe_callB call_len_seq (by rfl) tl PySem.boot_len (pa_cons (pv 1) pa_nil)) pa_nil))) pa_nil))))) pss_nil)
      (pss_cons (ps_if (pt_cmpR op_eq (pe_call GD hr1 rfl gD kD bD .nil pass0 (pa_cons (pv 0) (pa_cons pe_int pa_nil))) pe_int (nomark _)) (pss_one (ps_set (i := 5) scPair.nd rfl (.inl rfl) (pe_op op_cat (pv 5) (pe_lst (pa_cons (pe_call GD hr1 rfl gD kD bD .nil pass0 (pa_cons (pv 0) (pa_cons (pe_callB call_len_seq (by rfl) tl PySem.boot_len (pa_cons (pv 1) pa_nil)) pa_nil))) pa_nil))))) pss_nil)
      (pss_one (ps_ret (pe_tup (pa_cons (pv 4) (pa_cons (pv 5) pa_nil))))))))), ?_⟩
    obtain ⟨p, q, cl, cs, rss, cnt, n, rfl, hp, hn, npc, law, cn, one, k⟩ := h
    have r5 := law.2.2.r5
    refine ⟨Nat.zero_le _, fun x0 hx0 => ⟨Nat.zero_le _, fun y0 hy0 => ⟨_, _, rfl, ?_⟩⟩⟩
    have s1 := same_new (o := .lst []) hx0
    have s2 := same_new (o := .lst []) hy0
    have sA := same_tr s1 s2
    have nx := hp.ne hx0
    have ny := (hp.same s1).ne hy0
    have hx1 := s2 x0 (.lst []) upd_same
    have hy1 : (upd (upd H x0 (.lst [])) y0 (.lst [])) y0 = some (.lst []) := upd_same
    revert sA hx1 hy1
    generalize (upd (upd H x0 (.lst [])) y0 (.lst [])) = H1
    intro sA hx1 hy1
    dsimp only
    refine seq_via (fun σ Ha => PairZ p q cl cnt rss.length 150 0 n H σ Ha) (fun σ Ha z => ?_) fun D' hD' => ?_
    · refine seq_via (fun σ Ha => PairZ p q cl cnt rss.length 200 40 (n + 2) H σ Ha) (fun σ Ha z => ?_) fun D' hD' => ?_
      · refine seq_via (fun σ Ha => PairZ p q cl cnt rss.length 201 40 (n + 4) H σ Ha) (fun σ Ha z => ?_) fun D' hD' => ?_
        · refine seq_via (fun σ Ha => PairZ p q cl cnt rss.length 201 41 (n + 6) H σ Ha) (fun σ Ha z => ?_) fun D' hD' => ?_
          · obtain ⟨x, y, xs, ys, v6, v7, rfl, hx, hy, npx, npy, lx, ly, ax, ay, g, s'⟩ := z
            refine ⟨_, rfl, _, rfl, (by show 2 ≤ sizeLine; decide), fun T hT => ?_⟩
            have sT := same_new (o := .tup [V.ref x, V.ref y]) hT
            exact k T x y xs ys _ (g.same_tr sT) ((s'.same sT).le (by omega)) upd_same (sT _ _ hx) (sT _ _ hy) npx npy lx ly (by omega) (by omega)
          · obtain ⟨x, y, xs, ys, v6, v7, rfl, hx, hy, npx, npy, lx, ly, ax, ay, g, s'⟩ := z
            refine ⟨_, rfl, p, n + 4, 5, rfl, s', by omega, by decide, by decide, fun r Hb r0 r1 gb sb => ⟨rfl, _, rfl, ?_⟩⟩
            have hxb := gb _ _ hx npx.symm
            have hyb := gb _ _ hy npy.symm
            by_cases e : V.int r = V.int 0
            · refine ite_yes (decide_eq_true e) ?_
              have lawb := law.grow (g.trans gb) hp npc
              obtain ⟨ls, hls, pls⟩ := lawb.1
              have ll : ls.length = rss.length := pls.length
              refine ⟨_, rfl, _, rfl, _, rfl, q, _, rfl, .inl (SqL.of hls), p, n + 4 + 1, _, rfl, sb, by omega, by rw [List.length_map]; omega, by rw [List.length_map]; omega, fun r Hc r0 r1 gc sc => ?_⟩
              obtain ⟨u, rfl⟩ : ∃ x : Nat, r = (x : Int) := ⟨r.toNat, by omega⟩
              rw [List.length_map, ll] at r1
              refine ⟨(by show 1 ≤ sizeLine; decide), fun l hl => ?_⟩
              have sl := same_new (o := .lst [V.int (u : Nat)]) hl
              have npl := sc.ne hl
              refine ⟨y, l, _, _, rfl, rfl, sl _ _ (gc _ _ hyb npy.symm), upd_same, Nat.le_of_lt (small (by rw [List.length_map]; show ys.length + 1 < _; omega)), fun c hc => ?_⟩
              have sc' := same_new (o := .lst ((ys.map fun n => V.int (n : Nat)) ++ [V.int (u : Nat)])) hc
              have src2 := sc.same sl
              refine hD' _ _ ⟨x, c, xs, ys ++ [u], _, _, rfl, sc' _ _ (sl _ _ (gc _ _ hxb npx.symm)), by rw [upd_same, List.map_append]; rfl, npx, src2.ne hc, lx, fun t ht => ?_, ax, by rw [List.length_append]; show ys.length + 1 ≤ _; omega, ((g.trans gb).trans gc).same_tr (same_tr sl sc'), (src2.same sc').le (by omega)⟩
              rcases List.mem_append.mp ht with h | h
              · exact ly t h
              · rw [List.mem_singleton] at h
                omega
            · refine ite_no (decide_eq_false e) ?_
              exact hD' _ _ ⟨x, y, xs, ys, _, _, rfl, hxb, hyb, npx, npy, lx, ly, ax, by omega, g.trans gb, sb.le (by omega)⟩
        · obtain ⟨x, y, xs, ys, v6, v7, rfl, hx, hy, npx, npy, lx, ly, ax, ay, g, s'⟩ := z
          refine ⟨_, rfl, p, n + 2, 4, rfl, s', by omega, by decide, by decide, fun r Hb r0 r1 gb sb => ⟨rfl, _, rfl, ?_⟩⟩
          have hxb := gb _ _ hx npx.symm
          have hyb := gb _ _ hy npy.symm
          by_cases e : V.int r = V.int 0
          · refine ite_yes (decide_eq_true e) ?_
            have lawb := law.grow (g.trans gb) hp npc
            obtain ⟨ls, hls, pls⟩ := lawb.1
            have ll : ls.length = rss.length := pls.length
            refine ⟨_, rfl, _, rfl, _, rfl, q, _, rfl, .inl (SqL.of hls), p, n + 2 + 1, _, rfl, sb, by omega, by rw [List.length_map]; omega, by rw [List.length_map]; omega, fun r Hc r0 r1 gc sc => ?_⟩
            obtain ⟨u, rfl⟩ : ∃ x : Nat, r = (x : Int) := ⟨r.toNat, by omega⟩
            rw [List.length_map, ll] at r1
            refine ⟨(by show 1 ≤ sizeLine; decide), fun l hl => ?_⟩
            have sl := same_new (o := .lst [V.int (u : Nat)]) hl
            have npl := sc.ne hl
            refine ⟨x, l, _, _, rfl, rfl, sl _ _ (gc _ _ hxb npx.symm), upd_same, Nat.le_of_lt (small (by rw [List.length_map]; show xs.length + 1 < _; omega)), fun c hc => ?_⟩
            have sc' := same_new (o := .lst ((xs.map fun n => V.int (n : Nat)) ++ [V.int (u : Nat)])) hc
            have src2 := sc.same sl
            refine hD' _ _ ⟨c, y, xs ++ [u], ys, _, _, rfl, by rw [upd_same, List.map_append]; rfl, sc' _ _ (sl _ _ (gc _ _ hyb npy.symm)), src2.ne hc, npy, fun t ht => ?_, ly, by rw [List.length_append]; show xs.length + 1 ≤ _; omega, ay, ((g.trans gb).trans gc).same_tr (same_tr sl sc'), (src2.same sc').le (by omega)⟩
            rcases List.mem_append.mp ht with h | h
            · exact lx t h
            · rw [List.mem_singleton] at h
              omega
          · refine ite_no (decide_eq_false e) ?_
            exact hD' _ _ ⟨x, y, xs, ys, _, _, rfl, hxb, hyb, npx, npy, lx, ly, by omega, by omega, g.trans gb, sb.le (by omega)⟩
      · obtain ⟨x, y, xs, ys, v6, v7, rfl, hx, hy, npx, npy, lx, ly, ax, ay, g, s'⟩ := z
        refine ⟨_, rfl, _, _, rfl, rfl, _, rfl, ?_⟩
        by_cases c0 : 0 < cnt
        · refine ite_yes (decide_eq_true (by omega)) ?_
          refine ⟨_, rfl, p, n, 3, rfl, s', by omega, by decide, by decide, fun r Hb r0 r1 gb sb => ⟨rfl, _, rfl, ?_⟩⟩
          have hxb := gb _ _ hx npx.symm
          have hyb := gb _ _ hy npy.symm
          by_cases e : V.int r = V.int 0
          · refine ite_yes (decide_eq_true e) ?_
            refine ⟨_, rfl, _, rfl, p, n + 1, (cnt : Int), rfl, sb, by omega, by omega, by omega, fun r Hc r0 r1 gc sc => ?_⟩
            obtain ⟨u, rfl⟩ : ∃ x : Nat, r = (x : Int) := ⟨r.toNat, by omega⟩
            have lawc := law.grow ((g.trans gb).trans gc) hp npc
            have hxc := gc _ _ hxb npx.symm
            refine ⟨_, rfl, _, rfl, _, rfl, (by show 1 ≤ sizeLine; decide), fun l1 hl1 => ⟨_, rfl, (by show 1 ≤ sizeLine; decide), fun l2 hl2 => ?_⟩⟩
            have sl1 := same_new (o := .lst [V.int (u : Nat)]) hl1
            have sl2 := same_new (o := .lst [V.str "rest"]) hl2
            have sl := same_tr sl1 sl2
            have src2 := sc.same sl
            refine ⟨q, cl, l1, l2, cs, rss, [u], u, "rest", rfl, lawc.mono sl, sl2 _ _ upd_same, fun t ht => ?_, by show 1 ≤ 2000; decide, by omega, upd_same, fun r' ts' Hd sd fr er ltr lenr => ?_⟩
            · rw [List.mem_singleton] at ht
              omega
            have npr := src2.ne fr
            have hxd := sd _ _ (sl _ _ hxc)
            refine ⟨_, rfl, _, rfl, r', x, _, _, rfl, rfl, er, hxd, Nat.le_of_lt (small (by rw [List.length_map, List.length_map]; have : ts'.length ≤ 1 + 30 := lenr; omega)), fun c hc => ?_⟩
            have sc' := same_new (o := .lst ((ts'.map fun n => V.int (n : Nat)) ++ (xs.map fun n => V.int (n : Nat)))) hc
            have src3 := src2.same sd
            refine hD' _ _ ⟨c, r', ts' ++ xs, ts', _, _, rfl, by rw [upd_same, List.map_append], sc' _ _ er, src3.ne hc, npr, fun t ht => ?_, ltr, by rw [List.length_append]; have : ts'.length ≤ 1 + 30 := lenr; omega, by have : ts'.length ≤ 1 + 30 := lenr; omega, ((g.trans gb).trans gc).same_tr (same_tr sl (same_tr sd sc')), (src3.same sc').le (by omega)⟩
            rcases List.mem_append.mp ht with h | h
            · exact ltr t h
            · exact lx t h
          · refine ite_no (decide_eq_false e) ?_
            exact hD' _ _ ⟨x, y, xs, ys, _, _, rfl, hxb, hyb, npx, npy, lx, ly, by omega, by omega, g.trans gb, sb.le (by omega)⟩
        · refine ite_no (decide_eq_false (by omega)) ?_
          exact hD' _ _ ⟨x, y, xs, ys, _, _, rfl, hx, hy, npx, npy, lx, ly, by omega, by omega, g, s'.le (by omega)⟩
    · refine ⟨_, rfl, (cnt : Int), rfl, by omega, by omega, for_range (n := cnt) (fun i σ Ha => ∃ (x : Addr) (xs : List Nat) (v6 : Option V), σ = [some (.ref p), some (.ref q), some (.ref cl), some (.int (cnt : Nat)), some (.ref x), some (.ref y0), v6, none] ∧ Ha x = some (.lst (xs.map fun n => V.int (n : Nat))) ∧ p ≠ x ∧ (∀ t ∈ xs, t < rss.length) ∧ xs.length ≤ 30 * i ∧ Same H1 Ha) ⟨x0, [], none, rfl, hx1, nx, (fun t h => nomatch h), Nat.zero_le _, fun _ _ e => e⟩ ?_ ?_⟩
      · rintro i σ Ha hi ⟨x, xs, v6, rfl, hx, npx, lx, ax, sa⟩
        have z0 : (0 : Int) + (i : Nat) = (i : Nat) := Int.zero_add _
        refine ⟨_, rfl, _, rfl, _, rfl, _, rfl, (by show 1 ≤ sizeLine; decide), fun l2 hl2 => ?_⟩
        have sl2 := same_new (o := .lst [V.str "write"]) hl2
        refine ⟨q, cl, x, l2, cs, rss, xs, i, "write", by rw [z0]; rfl, law.mono (same_tr (same_tr sA sa) sl2), sl2 _ _ hx, lx, by omega, by omega, upd_same, fun r' ts' Hd sd fr er ltr lenr => ?_⟩
        exact ⟨r', ts', _, rfl, er, ((hp.same (same_tr sA sa)).same sl2).ne fr, ltr, by omega, same_tr (same_tr sa sl2) sd⟩
      · rintro σ Ha ⟨x, xs, v6, rfl, hx, npx, lx, ax, sa⟩
        have sH := same_tr sA sa
        exact hD' _ _ ⟨x, y0, xs, [], _, _, rfl, hx, sa _ _ hy1, npx, ny, lx, (fun t h => nomatch h), by omega, Nat.le_refl _, Grow.of_same sH, hp.same sH⟩
end
end CC

set_option Elab.async false
set_option maxRecDepth 100000
namespace CC
open PySem PySem.Spec PyProof.Rows L2 RZ StX
set_option linter.unusedVariables false
abbrev sOneBit : Stmt := top 54
theorem cut_lo (xs : List V) (m : Nat) : cutV xs none (some (m : Int)) = xs.take m := by
  unfold cutV HT.sIx
  have : ¬ ((m : Int) < 0) := by omega
  simp only [this, if_false, List.drop_zero, Nat.sub_zero, Int.toNat_natCast]
  by_cases h : m ≤ xs.length
  · rw [Nat.min_eq_left h]
  · rw [Nat.min_eq_right (by omega), List.take_of_length_le (Nat.le_refl _), List.take_of_length_le (by omega)]
theorem cut_hi0 (xs : List V) (m : Nat) : cutV xs (some (m : Int)) none = xs.drop m := by
  unfold cutV HT.sIx
  have : ¬ ((m : Int) < 0) := by omega
  simp only [this, if_false, Int.toNat_natCast]
  by_cases h : m ≤ xs.length
  · rw [Nat.min_eq_left h, List.take_of_length_le (by rw [List.length_drop]; exact Nat.le_refl _)]
  · rw [Nat.min_eq_right (by omega), List.drop_of_length_le (Nat.le_refl _), List.drop_of_length_le (show xs.length ≤ m by omega)]
    simp
theorem cut_hi (xs : List V) (m : Nat) : cutV xs (some ((m : Int) + 1)) none = xs.drop (m + 1) := cut_hi0 xs (m + 1)
theorem RowsAt.addL {H : Hp} {rs : List Row} {as : List Addr} {q : Addr} {bs : List Addr} {r2 : List Row} (h1 : H q = some (.lst (as.map V.ref))) (h2 : Paired (fun a r => RowAt H r a) as rs) (h : Paired (fun a r => RowAt H r a) bs r2) :
    RowsAt (upd H q (.lst (as.map V.ref ++ bs.map V.ref))) (rs ++ r2) q :=
  ⟨as ++ bs, by rw [upd_same, List.map_append], paired_app (L2.Paired.mapP h2 fun b x e => e.put h1) (L2.Paired.mapP h fun b x e => e.put h1)⟩
theorem rdRow {H : Hp} {a d : Addr} {c : Str} {m t : Nat} {mi ti : Int} (h : H a = some (.tup [.str "read", .str c, .ref d, .int ti])) (hd : H d = some (.dK [((Sum.inl 0 : Key), V.int mi)])) (e1 : ti = (t : Nat)) (e2 : mi = (m : Nat)) : RowAt H (.rd c [(0, m)] t) a := by
  subst e1
  subst e2
  exact ⟨d, h, hd⟩
theorem wrRow {H : Hp} {a : Addr} {c : Str} {v ti : Int} {t : Nat} (h : H a = some (.tup [.str "write", .str c, .int v, .int ti])) (e1 : ti = (t : Nat)) : RowAt H (.wr c v t) a := by
  subst e1
  exact h
theorem insRow {H : Hp} {a : Addr} {ti : Int} {t : Nat} (h : H a = some (.tup [.str "inside", .int ti])) (e1 : ti = (t : Nat)) : RowAt H (.ins t) a := by
  subst e1
  exact h
theorem Row.mid_up {lo hi hi' : Nat} {cells : List Str} {r : Row} (h : r.mid lo hi cells) (e : hi ≤ hi') : r.mid lo hi' cells := by
  cases r with
  | rest m => exact h.elim
  | ins m => exact h.elim
  | wr c v m => exact ⟨h.1, h.2.1, h.2.2.1, Nat.lt_of_lt_of_le h.2.2.2 e⟩
  | rd c cs m => exact ⟨h.1, h.2.1, fun kv hkv => ⟨(h.2.2.1 kv hkv).1, (h.2.2.1 kv hkv).2.1, Nat.lt_of_lt_of_le (h.2.2.1 kv hkv).2.2 e⟩, h.2.2.2.1, Nat.lt_of_lt_of_le h.2.2.2.2.1 e, h.2.2.2.2.2⟩
theorem rd_mid {c : Str} {m t lo hi : Nat} {cells : List Str} (hc : c ∈ cells) (h1 : lo ≤ m) (h2 : m < hi) (h3 : lo ≤ t) (h4 : t < hi) : (Row.rd c [(0, m)] t).mid lo hi cells :=
  ⟨hc, by simp, fun kv hkv => by rw [List.mem_singleton] at hkv; rw [hkv]; exact ⟨Int.le_refl _, h1, h2⟩, h3, h4, by show 1 ≤ 10; decide⟩
theorem one_fine {cells : List Str} {c : Str} {xs : List Row} (hc : c ∈ cells) (hx : ∀ x ∈ xs, x.mid 1 (xs.length + 2) cells) (b : xs.length ≤ 40) : Fine cells (Row.rest 1 :: (xs ++ [Row.ins (xs.length + 2), Row.wr c 0 0])) := by
  have s : Shape xs.length 1 cells (Row.rest 1 :: (xs ++ [Row.ins (xs.length + 2), Row.wr c 0 0])) := ⟨xs, [Row.wr c 0 0], rfl, rfl, rfl, hx, fun r hr => by rw [List.mem_singleton] at hr; rw [hr]; exact ⟨hc, Int.le_refl _, .inr rfl⟩⟩
  have l := s.len
  exact ⟨⟨s.ok, ⟨1, rfl⟩, by omega, by omega⟩, _, s.lab⟩
def spOneBit : Sp := fun vs H Q _ => ∃ (cl : Addr) (cs : List Str), vs = [.ref cl] ∧ H cl = some (.lst (cs.map V.str)) ∧ cs.length ≤ 5 ∧
  ∀ (D : Addr) (rss : List (List Row)) (H' : Hp), Same H H' → RowsQ H' D rss → rss.length = cs.length → (∀ rs ∈ rss, Fine cs rs) → Q (.ref D) H'
/-- rows that are being made -/
def OneZ (cl D r : Addr) (i : Nat) (cs : List Str) (Ha : Hp) (bnd : Nat) (σ : L2.St) (Hx : Hp) : Prop := ∃ (xs : List Row) (v4 v5 : Option V), σ = [some (.ref cl), some (.ref D), some (.int (i : Nat)), some (.ref r), v4, v5] ∧ RowsAt Hx (Row.rest 1 :: xs) r ∧ xs.length ≤ bnd ∧ (∀ x ∈ xs, x.mid 1 (xs.length + 2) cs) ∧ Same Ha Hx
section
variable {P : Program} {w : World} {K : PySem.W.Frag} {mg : Str → Option Value} {base : Heap}
abbrev NO : List Str := ["_law_cells", "_law_programs", "_law_k", "_law_rows_here", "_law_other", "_law_at_here"]
theorem scOneBit : FnScope NO ["_law_cells"] (defScope sOneBit) := ⟨rfl, rfl, rfl, by decide +kernel, rfl, by decide +kernel, by decide +kernel⟩
theorem ok_onebit {f : Addr} {fd : FuncData} (F : Fun K "_law_onebit" "_law_onebit" sOneBit f fd) (tl : mg "len" = none) (tr : mg "range" = none) :
    FnOk P w K mg base CX0 1 f fd ["_law_cells"] spOneBit := by
  refine F.ok scOneBit (fun vs H Q E h => ?_) (fun cdv A outer s H vs Q E hr h => ?_)
  · obtain ⟨cl, cs, rfl, _⟩ := h
    rfl
  · refine ⟨_, pss_cons (ps_set (i := 1) scOneBit.nd rfl (.inl rfl) (pe_lst pa_nil))
      (pss_cons (ps_for PassesOwn.never rfl (pi_range1 rfl tr (pa_cons (pe_callB call_len_seq (by rfl) tl PySem.boot_len (pa_cons (pv 0) pa_nil)) pa_nil)) (pg_name (i := 2) scOneBit.nd rfl (Or.inl rfl))
        (pss_cons (ps_set (i := 3) scOneBit.nd rfl (.inl rfl) (pe_lst (pa_cons (pe_tup (pa_cons pe_str (pa_cons pe_int pa_nil))) (pa_cons (pe_tup (pa_cons pe_str (pa_cons (pe_ix ix_list (pv 0) (pv 2) (fun _ _ => rfl)) (pa_cons pe_int (pa_cons pe_int pa_nil))))) pa_nil))))
        (pss_cons (ps_for PassesOwn.never rfl (pi_list (pe_slice sl_list (pv 0) po_none (po_some (pv 2)))) (pg_name (i := 4) scOneBit.nd rfl (Or.inl rfl))
          (pss_cons (ps_set (i := 5) scOneBit.nd rfl (.inl rfl) (pe_callB call_len_seq (by rfl) tl PySem.boot_len (pa_cons (pv 3) pa_nil)))
          (pss_cons (ps_expr (pe_bm PySem.F.plainAttrs_list PySem.F.slot_list_extend PySem.F.type_list_extend mt_extend (pv 3) (pa_cons (pe_lst (pa_cons (pe_tup (pa_cons pe_str (pa_cons (pv 4) (pa_cons (pe_disp (pps_cons pe_int (pe_op op_add (pv 5) pe_int) pps_nil) (by rfl) (by rfl) (fun z => by cases z) (by decide)) (pa_cons (pe_op op_add (pv 5) pe_int) pa_nil))))) (pa_cons (pe_tup (pa_cons pe_str (pa_cons (pe_ix ix_list (pv 0) (pv 2) (fun _ _ => rfl)) (pa_cons pe_int (pa_cons (pe_op op_add (pv 5) pe_int) pa_nil))))) pa_nil))) pa_nil)))
          (pss_one (ps_expr (pe_bm PySem.F.plainAttrs_list PySem.F.slot_list_append PySem.F.type_list_append mt_append (pv 3) (pa_cons (pe_tup (pa_cons pe_str (pa_cons (pv 4) (pa_cons (pe_disp (pps_cons pe_int pe_int pps_nil) (by rfl) (by rfl) (fun z => by cases z) (by decide)) (pa_cons (pe_op op_add (pv 5) pe_int) pa_nil))))) pa_nil)))))))
        (pss_cons (ps_for PassesOwn.never rfl (pi_list (pe_slice sl_list (pv 0) (po_some (pe_op op_add (pv 2) pe_int)) po_none)) (pg_name (i := 4) scOneBit.nd rfl (Or.inl rfl))
          (pss_one (ps_expr (pe_bm PySem.F.plainAttrs_list PySem.F.slot_list_append PySem.F.type_list_append mt_append (pv 3) (pa_cons (pe_tup (pa_cons pe_str (pa_cons (pv 4) (pa_cons (pe_disp (pps_cons pe_int (pe_op op_add (pe_callB call_len_seq (by rfl) tl PySem.boot_len (pa_cons (pv 3) pa_nil)) pe_int) pps_nil) (by rfl) (by rfl) (fun z => by cases z) (by decide)) (pa_cons (pe_callB call_len_seq (by rfl) tl PySem.boot_len (pa_cons (pv 3) pa_nil)) pa_nil))))) pa_nil)))))
        (pss_one (ps_expr (pe_bm PySem.F.plainAttrs_list PySem.F.slot_list_append PySem.F.type_list_append mt_append (pv 1) (pa_cons (pe_op op_cat (pv 3) (pe_lst (pa_cons (pe_tup (pa_cons pe_str (pa_cons (pe_op op_add (pe_callB call_len_seq (by rfl) tl PySem.boot_len (pa_cons (pv 3) pa_nil)) pe_int) pa_nil))) (pa_cons (pe_tup (pa_cons pe_str (pa_cons (pe_ix ix_list (pv 0) (pv 2) (fun _ _ => rfl)) (pa_cons pe_int (pa_cons pe_int pa_nil))))) pa_nil)))) pa_nil))))))))
      (pss_one (ps_ret (pv 1)))), ?_⟩
    obtain ⟨cl, cs, rfl, hcl, c5, k⟩ := h
    refine ⟨Nat.zero_le _, fun D hD => ?_⟩
    have s1 := same_new (o := .lst []) hD
    have hD1 : (upd H D (.lst [])) D = some (.lst []) := upd_same
    revert s1 hD1
    generalize (upd H D (.lst [])) = H1
    intro s1 hD1
    refine ⟨_, rfl, cl, _, rfl, .inl (SqL.of (s1 _ _ hcl)), _, rfl, (by rw [List.length_map]; omega), (by rw [List.length_map]; omega), for_range (n := (cs.map V.str).length) (fun i σ Ha => ∃ (v2 v3 v4 v5 : Option V) (ls : List Addr) (rss : List (List Row)), σ = [some (.ref cl), some (.ref D), v2, v3, v4, v5] ∧ Ha D = some (.lst (ls.map V.ref)) ∧ Paired (fun l rs => RowsAt Ha rs l ∧ D ≠ l) ls rss ∧ rss.length = i ∧ (∀ rs ∈ rss, Fine cs rs) ∧ Same H Ha) ⟨none, none, none, none, [], [], rfl, hD1, .nil, rfl, (fun t h => nomatch h), s1⟩ ?_ ?_⟩
    · rintro i σ Ha hi ⟨v2, v3, v4, v5, ls, rss, rfl, hDa, pls, len, fine, sa⟩
      rw [List.length_map] at hi
      have z0 : (0 : Int) + (i : Nat) = (i : Nat) := Int.zero_add _
      rw [z0]
      obtain ⟨c, hc⟩ : ∃ c, cs[i]? = some c := ⟨_, List.getElem?_eq_getElem hi⟩
      have cm := List.mem_of_getElem? hc
      have hcx : (cs.map V.str)[i]? = some (V.str c) := by rw [List.getElem?_map, hc]; rfl
      have hcla := sa _ _ hcl
      refine ⟨(by show 2 ≤ sizeLine; decide), fun t1 ht1 => ⟨_, rfl, _, rfl, cl, _, _, _, rfl, rfl, SqL.of (same_new ht1 _ _ hcla), atI_nat hcx, (by show 4 ≤ sizeLine; decide), fun t2 ht2 => ⟨(by show 2 ≤ sizeLine; decide), fun r hr => ?_⟩⟩⟩
      have st1 := same_new (o := .tup [V.str "rest", V.int 1]) ht1
      have st2 := same_new (o := .tup [V.str "write", V.str c, V.int 1, V.int 2]) ht2
      have sr := same_new (o := .lst [V.ref t1, V.ref t2]) hr
      have q1 := (same_tr st2 sr) t1 (.tup [V.str "rest", V.int 1]) upd_same
      have q2 := sr t2 (.tup [V.str "write", V.str c, V.int 1, V.int 2]) upd_same
      have hra : ∀ G : Hp, (upd G r (.lst [V.ref t1, V.ref t2])) r = some (.lst ([t1, t2].map V.ref)) := fun G => upd_same
      have rows0 : RowsAt (upd _ r (.lst [V.ref t1, V.ref t2])) (Row.rest 1 :: [Row.wr c 1 2]) r := ⟨[t1, t2], hra _, .cons q1 (.cons q2 .nil)⟩
      have s0 := same_tr st1 (same_tr st2 sr)
      have hr0 : Ha r = none := (same_tr st1 st2).free hr
      revert rows0 s0
      generalize (upd (upd (upd Ha t1 (.tup [V.str "rest", V.int 1])) t2 (.tup [V.str "write", V.str c, V.int 1, V.int 2])) r (.lst [V.ref t1, V.ref t2])) = H2
      intro rows0 s0
      dsimp only
      have z : OneZ cl D r i cs Ha 1 [some (.ref cl), some (.ref D), some (.int (i : Nat)), some (.ref r), v4, v5] H2 := ⟨[Row.wr c 1 2], v4, v5, rfl, rows0, Nat.le_refl _, fun x hx => by
        rw [List.mem_singleton] at hx
        rw [hx]
        exact ⟨cm, by decide, by decide, (by show 2 < 3; decide)⟩, s0⟩
      refine seq_via (fun σ Hx => OneZ cl D r i cs Ha 16 σ Hx) (fun σ Hx z => ?_) fun D' hD' => ?_
      · refine seq_via (fun σ Hx => OneZ cl D r i cs Ha 21 σ Hx) (fun σ Hx z => ?_) fun D' hD' => ?_
        · obtain ⟨xs, w4, w5, rfl, ⟨as, hrx, pas⟩, bx, mid, sx⟩ := z
          have la : as.length = xs.length + 1 := by rw [pas.length]; rfl
          have hDx := sx _ _ hDa
          have hclx := sx _ _ hcla
          have nDr : D ≠ r := ne_of_none hDa hr0
          refine ⟨_, rfl, .inl ⟨rfl, _, SqL.of hDx⟩, _, rfl, _, rfl, r, _, rfl, .inl (SqL.of hrx), _, _, rfl, rfl, (by show 2 ≤ sizeLine; decide), fun t3 ht3 => ?_⟩
          have s3 := same_new (o := .tup [V.str "inside", V.int (((as.map V.ref).length : Int) + 1)]) ht3
          refine ⟨_, rfl, _, rfl, cl, _, _, _, rfl, rfl, SqL.of (s3 _ _ hclx), atI_nat hcx, (by show 4 ≤ sizeLine; decide), fun t4 ht4 => ⟨(by show 2 ≤ sizeLine; decide), fun l hl => ?_⟩⟩
          have s4 := same_new (o := .tup [V.str "write", V.str c, V.int 0, V.int 0]) ht4
          have sl := same_new (o := .lst [V.ref t3, V.ref t4]) hl
          refine ⟨r, l, _, _, rfl, rfl, (same_tr s3 (same_tr s4 sl)) _ _ hrx, upd_same, Nat.le_of_lt (small (by rw [List.length_map]; show as.length + 2 < _; omega)), fun q hq => ?_⟩
          have sq := same_new (o := .lst (as.map V.ref ++ [V.ref t3, V.ref t4])) hq
          have sX := same_tr s3 (same_tr s4 (same_tr sl sq))
          have r3 := (same_tr s4 (same_tr sl sq)) t3 (.tup [V.str "inside", V.int (((as.map V.ref).length : Int) + 1)]) upd_same
          have r4 := (same_tr sl sq) t4 (.tup [V.str "write", V.str c, V.int 0, V.int 0]) upd_same
          have hqq : ∀ G : Hp, (upd G q (.lst (as.map V.ref ++ [V.ref t3, V.ref t4]))) q = some (.lst ((as ++ [t3, t4]).map V.ref)) := fun G => by rw [upd_same, List.map_append]; rfl
          have nDq : D ≠ q := ne_of_none ((same_tr s3 (same_tr s4 sl)) _ _ hDx) hq
          have rq : RowsAt (upd _ q (.lst (as.map V.ref ++ [V.ref t3, V.ref t4]))) (Row.rest 1 :: (xs ++ [Row.ins (xs.length + 2), Row.wr c 0 0])) q :=
            ⟨as ++ [t3, t4], hqq _, paired_app (L2.Paired.mapP pas fun b x e => e.mono (fun b ys e => sX _ _ e) (fun b ys e => sX _ _ e)) (.cons (insRow r3 (by rw [List.length_map, la]; omega)) (.cons (wrRow r4 rfl) .nil))⟩
          have hDq := sX _ _ hDx
          have sAll := same_tr sx sX
          refine ⟨D, _, _, rfl, rfl, hDq, small (by rw [List.length_map]; have := pls.length; omega), ?_⟩
          refine ⟨_, _, _, _, ls ++ [q], rss ++ [Row.rest 1 :: (xs ++ [Row.ins (xs.length + 2), Row.wr c 0 0])], rfl, by rw [upd_same, List.map_append]; rfl, Paired.snoc (L2.Paired.mapP pls fun l rs e => ⟨(e.1.same sAll).put hDq e.2, e.2⟩) ⟨rq.put hDq nDq, nDq⟩, by rw [List.length_append, len]; rfl, fun rs hrs => ?_, same_put (same_tr sa sAll) hD⟩
          rcases List.mem_append.mp hrs with h | h
          · exact fine rs h
          · rw [List.mem_singleton] at h
            rw [h]
            exact one_fine cm mid (by omega)
        · obtain ⟨xs0, w4, w5, rfl, rows1, bx0, mid0, sx0⟩ := z
          refine ⟨_, rfl, _, rfl, _, _, rfl, rfl, _, rfl, cl, _, rfl, SqL.of (sx0 _ _ hcla), fun s hs => ?_⟩
          rw [cut_hi, ← List.map_drop]
          obtain ⟨as0, hr00, _⟩ := id rows1
          have nrs : r ≠ s := ne_of_none hr00 hs
          have ss := same_new (o := .lst ((cs.drop (i + 1)).map V.str)) hs
          have hss : (upd Hx s (.lst ((cs.drop (i + 1)).map V.str))) s = some (.lst ((cs.drop (i + 1)).map V.str)) := upd_same
          refine ⟨s, rfl, ⟨_, SqL.of hss⟩, for_list (K := K) (a := s) (xs := (cs.drop (i + 1)).map V.str) (fun j σ Hy => OneZ cl D r i cs Ha (16 + j) σ Hy ∧ Hy s = some (.lst ((cs.drop (i + 1)).map V.str))) ⟨⟨xs0, w4, w5, rfl, rows1.same ss, bx0, mid0, same_tr sx0 ss⟩, hss⟩ (fun j σ Hy _ e => SqL.of e.2) ?_ ?_⟩
          · rintro j x σ Hy hj ⟨⟨xs, u4, u5, rfl, ⟨as, hry, pas⟩, bx, mid, sy⟩, hsy⟩
            rw [List.getElem?_map] at hj
            obtain ⟨o, ho, rfl⟩ := Option.map_eq_some_iff.mp hj
            have om : o ∈ cs := List.mem_of_mem_drop (List.mem_of_getElem? ho)
            have jl : j < 5 := by
              have := (List.getElem?_eq_some_iff.mp ho).1
              rw [List.length_drop] at this
              omega
            have la : as.length = xs.length + 1 := by rw [pas.length]; rfl
            refine ⟨_, rfl, .inl ⟨rfl, _, SqL.of hry⟩, _, rfl, fun d hd => ?_⟩
            have sd0 := same_new (o := .dK []) hd
            refine ⟨_, rfl, r, _, rfl, .inl (SqL.of (sd0 _ _ hry)), _, _, rfl, rfl, upd_same, [((Sum.inl 0 : Key), V.int (((as.map V.ref).length : Int) + 1))], rfl, (by show 1 ≤ 15; decide), ?_⟩
            have sd := same_put (o := .dK (mergeK [] [((Sum.inl 0 : Key), V.int (((as.map V.ref).length : Int) + 1))])) sd0 hd
            refine ⟨_, rfl, r, _, rfl, .inl (SqL.of (sd _ _ hry)), (by show 4 ≤ sizeLine; decide), fun t3 ht3 => ?_⟩
            have s3 := same_new (o := .tup [V.str "read", V.str o, V.ref d, V.int ((as.map V.ref).length : Int)]) ht3
            have sX := same_tr sd s3
            have dd := s3 d (.dK [((Sum.inl 0 : Key), V.int (((as.map V.ref).length : Int) + 1))]) upd_same
            have row : RowAt _ (Row.rd o [(0, xs.length + 2)] (xs.length + 1)) t3 := rdRow (H := upd _ t3 (.tup [V.str "read", V.str o, V.ref d, V.int ((as.map V.ref).length : Int)])) upd_same dd (by rw [List.length_map, la]) (by rw [List.length_map, la]; omega)
            have hrz := sX _ _ hry
            refine ⟨r, _, _, rfl, rfl, hrz, small (by rw [List.length_map]; omega), ?_⟩
            refine ⟨⟨xs ++ [Row.rd o [(0, xs.length + 2)] (xs.length + 1)], _, _, rfl, RowsAt.add hrz (L2.Paired.mapP pas fun b x e => e.mono (fun b ys e => sX _ _ e) (fun b ys e => sX _ _ e)) row, by rw [List.length_append]; exact Nat.add_le_add_right bx 1, fun x hx => ?_, same_put (same_tr sy sX) hr0⟩, by rw [upd_ne nrs.symm]; exact sX _ _ hsy⟩
            have lx : (xs ++ [Row.rd o [(0, xs.length + 2)] (xs.length + 1)]).length = xs.length + 1 := by rw [List.length_append]; rfl
            rw [lx]
            rcases List.mem_append.mp hx with h | h
            · exact Row.mid_up (mid x h) (by omega)
            · rw [List.mem_singleton] at h
              rw [h]
              exact rd_mid om (by omega) (by omega) (by omega) (by omega)
          · rintro σ Hy ⟨⟨xs, u4, u5, rfl, rows2, bx, mid, sy⟩, hsy⟩
            rw [List.length_map, List.length_drop] at bx
            exact hD' _ _ ⟨xs, u4, u5, rfl, rows2, by omega, mid, sy⟩
      · obtain ⟨xs0, w4, w5, ew, rows1, bx0, mid0, sx0⟩ := z
        refine ⟨_, rfl, _, rfl, _, rfl, cl, _, rfl, SqL.of (sx0 _ _ hcla), fun s hs => ?_⟩
        rw [cut_lo, ← List.map_take]
        obtain ⟨as0, hr00, _⟩ := id rows1
        have nrs : r ≠ s := ne_of_none hr00 hs
        have ss := same_new (o := .lst ((cs.take i).map V.str)) hs
        have hss : (upd H2 s (.lst ((cs.take i).map V.str))) s = some (.lst ((cs.take i).map V.str)) := upd_same
        refine ⟨s, rfl, ⟨_, SqL.of hss⟩, for_list (K := K) (a := s) (xs := (cs.take i).map V.str) (fun j σ Hy => OneZ cl D r i cs Ha (1 + 3 * j) σ Hy ∧ Hy s = some (.lst ((cs.take i).map V.str))) ⟨⟨xs0, w4, w5, ew, rows1.same ss, bx0, mid0, same_tr sx0 ss⟩, hss⟩ (fun j σ Hy _ e => SqL.of e.2) ?_ ?_⟩
        · rintro j x σ Hy hj ⟨⟨xs, u4, u5, rfl, ⟨as, hry, pas⟩, bx, mid, sy⟩, hsy⟩
          rw [List.getElem?_map] at hj
          obtain ⟨o, ho, rfl⟩ := Option.map_eq_some_iff.mp hj
          have om : o ∈ cs := List.mem_of_mem_take (List.mem_of_getElem? ho)
          have jl : j < 5 := by
            have := (List.getElem?_eq_some_iff.mp ho).1
            rw [List.length_take] at this
            omega
          have la : as.length = xs.length + 1 := by rw [pas.length]; rfl
          refine ⟨_, rfl, r, _, rfl, .inl (SqL.of hry), ?_⟩
          refine ⟨_, rfl, .inl ⟨rfl, _, SqL.of hry⟩, _, rfl, fun d hd => ?_⟩
          have sd0 := same_new (o := .dK []) hd
          refine ⟨_, rfl, _, _, rfl, rfl, upd_same, [((Sum.inl 0 : Key), V.int (((as.map V.ref).length : Int) + 3))], rfl, (by show 1 ≤ 15; decide), ?_⟩
          have sd := same_put (o := .dK (mergeK [] [((Sum.inl 0 : Key), V.int (((as.map V.ref).length : Int) + 3))])) sd0 hd
          refine ⟨_, rfl, _, _, rfl, rfl, (by show 4 ≤ sizeLine; decide), fun t3 ht3 => ?_⟩
          have s3 := same_new (o := .tup [V.str "read", V.str o, V.ref d, V.int (((as.map V.ref).length : Int) + 1)]) ht3
          refine ⟨_, rfl, _, rfl, cl, _, _, _, rfl, rfl, SqL.of ((same_tr sy (same_tr sd s3)) _ _ hcla), atI_nat hcx, _, rfl, _, _, rfl, rfl, (by show 4 ≤ sizeLine; decide), fun t4 ht4 => ⟨(by show 2 ≤ sizeLine; decide), fun l hl => ?_⟩⟩
          have s4 := same_new (o := .tup [V.str "write", V.str c, V.int 0, V.int (((as.map V.ref).length : Int) + 2)]) ht4
          have sl := same_new (o := .lst [V.ref t3, V.ref t4]) hl
          have sX := same_tr sd (same_tr s3 (same_tr s4 sl))
          have hrz := sX _ _ hry
          have dd := (same_tr s3 (same_tr s4 sl)) d (.dK [((Sum.inl 0 : Key), V.int (((as.map V.ref).length : Int) + 3))]) upd_same
          have r3 := (same_tr s4 sl) t3 (.tup [V.str "read", V.str o, V.ref d, V.int (((as.map V.ref).length : Int) + 1)]) upd_same
          have r4 := sl t4 (.tup [V.str "write", V.str c, V.int 0, V.int (((as.map V.ref).length : Int) + 2)]) upd_same
          have rowA := rdRow (m := xs.length + 4) (t := xs.length + 2) r3 dd (by rw [List.length_map, la]; omega) (by rw [List.length_map, la]; omega)
          have rowB := wrRow (t := xs.length + 3) r4 (by rw [List.length_map, la]; omega)
          have rows3 := RowsAt.addL (bs := [t3, t4]) hrz (L2.Paired.mapP pas fun b x e => e.mono (fun b ys e => sX _ _ e) (fun b ys e => sX _ _ e)) (.cons rowA (.cons rowB .nil))
          refine ⟨r, l, _, _, rfl, rfl, hrz, upd_same, Nat.le_of_lt (small (by rw [List.length_map]; show as.length + 2 < _; omega)), ?_⟩
          have sY := same_put (o := .lst (as.map V.ref ++ [V.ref t3, V.ref t4])) (same_tr sy sX) hr0
          have hsz : (upd _ r (.lst (as.map V.ref ++ [V.ref t3, V.ref t4]))) s = some (.lst ((cs.take i).map V.str)) := (upd_ne nrs.symm).trans (sX _ _ hsy)
          obtain ⟨as2, hrw, pas2⟩ := rows3
          have l2 : as2.length = xs.length + 3 := by rw [pas2.length, List.length_append]; rfl
          refine ⟨_, rfl, .inl ⟨rfl, _, SqL.of hrw⟩, _, rfl, fun e he => ?_⟩
          have se0 := same_new (o := .dK []) he
          refine ⟨upd_same, [((Sum.inl 0 : Key), V.int 1)], rfl, (by show 1 ≤ 15; decide), _, rfl, _, _, rfl, rfl, (by show 4 ≤ sizeLine; decide), fun t5 ht5 => ?_⟩
          have se := same_put (o := .dK (mergeK [] [((Sum.inl 0 : Key), V.int 1)])) se0 he
          have s5 := same_new (o := .tup [V.str "read", V.str o, V.ref e, V.int (((as.map V.ref).length : Int) + 2)]) ht5
          have sW := same_tr se s5
          have de := s5 e (.dK [((Sum.inl 0 : Key), V.int 1)]) upd_same
          have rowC := rdRow (H := upd _ t5 (.tup [V.str "read", V.str o, V.ref e, V.int (((as.map V.ref).length : Int) + 2)])) (m := 1) (t := xs.length + 3) upd_same de (by rw [List.length_map, la]; omega) rfl
          have hrv := sW _ _ hrw
          refine ⟨r, _, _, rfl, rfl, hrv, small (by rw [List.length_map]; omega), ?_⟩
          have lx : ∀ a b c : Row, ((xs ++ [a, b]) ++ [c]).length = xs.length + 3 := fun a b c => by rw [List.length_append, List.length_append]; rfl
          refine ⟨⟨(xs ++ [Row.rd o [(0, xs.length + 4)] (xs.length + 2), Row.wr c 0 (xs.length + 3)]) ++ [Row.rd o [(0, 1)] (xs.length + 3)], _, _, rfl, RowsAt.add hrv (L2.Paired.mapP pas2 fun b x e => e.mono (fun b ys e => sW _ _ e) (fun b ys e => sW _ _ e)) rowC, by rw [lx]; omega, fun x hx => ?_, same_put (same_tr sY sW) hr0⟩, by rw [upd_ne nrs.symm]; exact sW _ _ hsz⟩
          rw [lx]
          rcases List.mem_append.mp hx with h | h
          · rcases List.mem_append.mp h with h | h
            · exact Row.mid_up (mid x h) (by omega)
            · rcases List.mem_cons.mp h with h | h
              · rw [h]
                exact rd_mid om (by omega) (by omega) (by omega) (by omega)
              · rw [List.mem_singleton] at h
                rw [h]
                exact ⟨cm, by decide, by omega, by omega⟩
          · rw [List.mem_singleton] at h
            rw [h]
            exact rd_mid om (by omega) (by omega) (by omega) (by omega)
        · rintro σ Hy ⟨⟨xs, u4, u5, rfl, rows2, bx, mid, sy⟩, hsy⟩
          rw [List.length_map, List.length_take] at bx
          exact hD' _ _ ⟨xs, u4, u5, rfl, rows2, by omega, mid, sy⟩
    · rintro σ Ha ⟨v2, v3, v4, v5, ls, rss, rfl, hDa, pls, len, fine, sa⟩
      rw [List.length_map] at len
      exact ⟨_, rfl, k D rss Ha sa ⟨ls, hDa, L2.Paired.mapP pls fun l rs e => e.1⟩ len fine⟩
end
end CC

set_option Elab.async false
set_option maxRecDepth 100000
namespace CC
open PySem PySem.Spec PyProof.Rows L2 RZ StX
set_option linter.unusedVariables false
abbrev sLaw : Stmt := top 57
def spLaw (K : PySem.W.Frag) : Sp := fun vs H Q _ => ∃ (a : Addr) (ns : List Int), vs = [.ref a] ∧ SqL K H a (ns.map V.int) ∧ ∀ H' : Hp, Q (.bl true) H'
theorem Fine.rows {zs : List Str} {rs : List Row} (h : Fine zs rs) {cs : List Str} (hm : ∀ z ∈ zs, z ∈ cs) : ∀ r ∈ rs, r.low rs.length ∧ ∀ c, cellOf r = some c → c ∈ cs := fun r hr => ⟨Row.ok_low (h.1.1 r hr), fun c e => hm c (Row.ok_cell (h.1.1 r hr) e)⟩
/-- the rows that were drawn -/
def RowsZ (a p cl : Addr) (cs : List Str) (m : Nat) (σ : L2.St) (Hx : Hp) : Prop := ∃ (v2 v5 v6 v7 v8 : Option V) (q : Addr) (rss : List (List Row)), σ = [some (.ref a), some (.ref p), v2, some (.ref cl), some (.ref q), v5, v6, v7, v8] ∧ RowsQ Hx q rss ∧ (∀ rs ∈ rss, Fine cs rs) ∧ 1 ≤ rss.length ∧ rss.length ≤ 5 ∧ Hx cl = some (.lst (cs.map V.str)) ∧ Src p m Hx
section
variable {P : Program} {w : World} {K : PySem.W.Frag} {mg : Str → Option Value} {base : Heap}
abbrev NW : List Str := ["_law_script", "_law_source_here", "_law_turn", "_law_cells", "_law_rows_here", "_law_field", "_law_count", "_law_run", "_law_twin"]
theorem scLaw : FnScope NW ["_law_script"] (defScope sLaw) := ⟨rfl, rfl, rfl, by decide +kernel, rfl, by decide +kernel, by decide +kernel⟩
theorem ok_law {f fO fD fN fB fT fM fP fC fQ CF : Addr} {fd fdO fdD fdN fdB fdT fdM fdP fdC fdQ : FuncData} (F : Fun K "law" "law" sLaw f fd)
    (GO : FnOk P w K mg base CX0 1 fO fdO ["_law_script"] (spSource K)) (gO : mg "_law_source" = some (.ref fO)) (kO : PySem.W.keepIn K (.ref fO) = true) (bO : L2.Binds K fdO ["_law_script"] [])
    (GD : FnOk P w K mg base CX0 1 fD fdD ["_law_source_here", "_law_many"] spDraw) (gD : mg "_law_draw" = some (.ref fD)) (kD : PySem.W.keepIn K (.ref fD) = true) (bD : L2.Binds K fdD ["_law_source_here", "_law_many"] [])
    (GN : FnOk P w K mg base CX0 3 fN fdN ["_law_source_here", "_law_many"] spNames) (gN : mg "_law_names" = some (.ref fN)) (kN : PySem.W.keepIn K (.ref fN) = true) (bN : L2.Binds K fdN ["_law_source_here", "_law_many"] [])
    (GB : FnOk P w K mg base CX0 1 fB fdB ["_law_cells"] spOneBit) (gB : mg "_law_onebit" = some (.ref fB)) (kB : PySem.W.keepIn K (.ref fB) = true) (bB : L2.Binds K fdB ["_law_cells"] [])
    (GT : FnOk P w K mg base CX0 5 fT fdT ["_law_source_here", "_law_threads_here", "_law_cells", "_law_most"] spThreads) (gT : mg "_law_threads" = some (.ref fT)) (kT : PySem.W.keepIn K (.ref fT) = true) (bT : L2.Binds K fdT ["_law_source_here", "_law_threads_here", "_law_cells", "_law_most"] [])
    (GM : FnOk P w K mg base CX0 8 fM fdM ["_law_cells", "_law_programs"] (spMade CF)) (gM : mg "_law_made" = some (.ref fM)) (kM : PySem.W.keepIn K (.ref fM) = true) (bM : L2.Binds K fdM ["_law_cells", "_law_programs"] [])
    (GP : FnOk P w K mg base CX0 4 fP fdP ["_law_source_here", "_law_rows_here", "_law_cells", "_law_count"] spPair) (gP : mg "_law_pair" = some (.ref fP)) (kP : PySem.W.keepIn K (.ref fP) = true) (bP : L2.Binds K fdP ["_law_source_here", "_law_rows_here", "_law_cells", "_law_count"] [])
    (GC : FnOk P w K mg base CX0 6 fC fdC ["field", "count", "run", "twin"] (spIsCover CF)) (gC : mg "is_cover" = some (.ref fC)) (kC : PySem.W.keepIn K (.ref fC) = true) (bC : L2.Binds K fdC ["field", "count", "run", "twin"] [])
    (GQ : FnOk P w K mg base CX0 3 fQ fdQ ["_law_rows_here", "_law_cells", "_law_count", "_law_run", "_law_twin"] spCovers) (gQ : mg "_law_covers" = some (.ref fQ)) (kQ : PySem.W.keepIn K (.ref fQ) = true) (bQ : L2.Binds K fdQ ["_law_rows_here", "_law_cells", "_law_count", "_law_run", "_law_twin"] [])
    (tr : mg "range" = none) (tl : mg "len" = none) (tt : mg "tuple" = none) (ts : mg "sorted" = none) :
    FnOk P w K mg base CX0 9 f fd ["_law_script"] (spLaw K) := by
  refine F.ok scLaw (fun vs H Q E h => ?_) (fun cdv A outer s H vs Q E hr h => ?_)
  · obtain ⟨a, ns, rfl, _⟩ := h
    rfl
  · have hr1 : Room 1 _ := hr.mono (by decide)
    have hr3 : Room 3 _ := hr.mono (by decide)
    have hr4 : Room 4 _ := hr.mono (by decide)
    have hr5 : Room 5 _ := hr.mono (by decide)
    have hr6 : Room 6 _ := hr.mono (by decide)
    refine ⟨_, pss_cons (ps_set (i := 1) scLaw.nd rfl (.inl rfl) (pe_call GO hr1 rfl gO kO bO .nil pass0 (pa_cons (pv 0) pa_nil)))
      (pss_cons (ps_for PassesOwn.never rfl (pi_range1 rfl tr (pa_cons pe_int pa_nil)) (pg_name (i := 2) scLaw.nd rfl (Or.inl rfl))
        (pss_cons (ps_set (i := 3) scLaw.nd rfl (.inl rfl) (pe_callB cr_sortedS (by rfl) ts (by decide +kernel) (pa_cons (pe_call GN hr3 rfl gN kN bN .nil pass0 (pa_cons (pv 1) (pa_cons (pe_op op_add pe_int (pe_call GD hr1 rfl gD kD bD .nil pass0 (pa_cons (pv 1) (pa_cons pe_int pa_nil)))) pa_nil))) pa_nil)))
        (pss_cons (ps_set (i := 4) scLaw.nd rfl (.inl rfl) (pe_call GB hr1 rfl gB kB bB .nil pass0 (pa_cons (pv 3) pa_nil)))
        (pss_cons (ps_if (pt_cmpR op_eq (pe_call GD hr1 rfl gD kD bD .nil pass0 (pa_cons (pv 1) (pa_cons pe_int pa_nil))) pe_int (nomark _)) (pss_one (ps_set (i := 4) scLaw.nd rfl (.inl rfl) (pe_call GT hr5 rfl gT kT bT .nil pass0 (pa_cons (pv 1) (pa_cons (pe_op op_add pe_int (pe_call GD hr1 rfl gD kD bD .nil pass0 (pa_cons (pv 1) (pa_cons pe_int pa_nil)))) (pa_cons (pv 3) (pa_cons pe_int pa_nil))))))) pss_nil)
        (pss_cons (ps_set (i := 5) scLaw.nd rfl (.inl rfl) (pe_call GM hr rfl gM kM bM .nil pass0 (pa_cons (pv 3) (pa_cons (pv 4) pa_nil))))
        (pss_one (ps_for PassesOwn.never rfl (pi_range1 rfl tr (pa_cons (pe_op op_add (pe_callB call_len_seq (by rfl) tl PySem.boot_len (pa_cons (pv 4) pa_nil)) pe_int) pa_nil)) (pg_name (i := 6) scLaw.nd rfl (Or.inl rfl))
          (pss_cons (ps_asg (pe_call GP hr4 rfl gP kP bP .nil pass0 (pa_cons (pv 1) (pa_cons (pv 4) (pa_cons (pv 3) (pa_cons (pv 6) pa_nil))))) (pg_tup (by rfl) (pgs_cons (pg_name (i := 7) scLaw.nd rfl (Or.inl rfl)) (pgs_cons (pg_name (i := 8) scLaw.nd rfl (Or.inl rfl)) pgs_nil))))
          (pss_cons (ps_if (pt_cmpR op_ne (pe_call GC hr6 rfl gC kC bC .nil pass0 (pa_cons (pv 5) (pa_cons (pv 6) (pa_cons (pv 7) (pa_cons (pe_callTy call_tuple_of (by rfl) tt (by decide +kernel) (pa_cons (pv 8) pa_nil)) pa_nil))))) (pe_call GQ hr3 rfl gQ kQ bQ .nil pass0 (pa_cons (pv 4) (pa_cons (pv 3) (pa_cons (pv 6) (pa_cons (pv 7) (pa_cons (pv 8) pa_nil)))))) (nomark _)) (pss_one (ps_ret pe_bl)) pss_nil)
          (pss_one (ps_if (pt_cmpR op_ne (pe_call GC hr6 rfl gC kC bC .nil pass0 (pa_cons (pv 5) (pa_cons (pv 6) (pa_cons (pv 8) (pa_cons (pv 7) pa_nil))))) (pe_call GQ hr3 rfl gQ kQ bQ .nil pass0 (pa_cons (pv 4) (pa_cons (pv 3) (pa_cons (pv 6) (pa_cons (pv 8) (pa_cons (pv 7) pa_nil)))))) (nomark _)) (pss_one (ps_ret pe_bl)) pss_nil)))))))))))
      (pss_one (ps_ret pe_bl))), ?_⟩
    obtain ⟨a, is, rfl, ha, k⟩ := h
    refine ⟨_, rfl, a, is, rfl, ha, fun p H1 s1 hp0 hp => ?_⟩
    refine ⟨3, rfl, by decide, by decide, for_range (n := 3) (fun i σ Ha => ∃ (v2 v3 v4 v5 v6 v7 v8 : Option V), σ = [some (.ref a), some (.ref p), v2, v3, v4, v5, v6, v7, v8] ∧ Src p (20000 * i) Ha) ⟨none, none, none, none, none, none, none, rfl, hp⟩ ?_ ?_⟩
    · rintro i σ Ha hi ⟨v2, v3, v4, v5, v6, v7, v8, rfl, src⟩
      refine ⟨_, rfl, _, rfl, p, 20000 * i, 4, rfl, src, by omega, by decide, by decide, fun r Hb r0 r1 gb sb => ?_⟩
      obtain ⟨u, rfl⟩ : ∃ x : Nat, r = (x : Int) := ⟨r.toNat, by omega⟩
      have em : ((1 : Int) + (u : Nat)) = ((1 + u : Nat) : Int) := by omega
      refine ⟨_, _, rfl, rfl, p, 20000 * i + 1, 1 + u, congrArg (fun z => [V.ref p, V.int z]) em, sb, by omega, by omega, fun l zs H2 zl zo nd hl0 hl npl g2 s2 => ?_⟩
      refine ⟨l, zs, rfl, SqL.of hl, by omega, fun cs c2 pm so hc2 => ?_⟩
      have sc := same_new (o := .lst (cs.map V.str)) hc2
      have nm : ∀ z ∈ cs, OkName z := fun z hz => zo z (pm.mem_iff.mp hz)
      have npc : p ≠ c2 := s2.ne hc2
      have cl5 : cs.length = 1 + u := by rw [pm.length_eq]; exact zl
      have e2 : (upd H2 c2 (.lst (cs.map V.str))) c2 = some (.lst (cs.map V.str)) := upd_same
      have src2 := s2.same sc
      revert e2 src2
      generalize (upd H2 c2 (.lst (cs.map V.str))) = H3
      intro e2 src2
      refine ⟨_, rfl, c2, cs, rfl, e2, by omega, fun D rss0 H4 s4 rq0 len0 fine0 => ?_⟩
      have src4 := src2.same s4
      dsimp only
      refine seq_via (fun σ Hx => RowsZ a p c2 cs (20000 * i + 12000) σ Hx) (fun σ Hx z => ?_) fun D' hD' => ?_
      · obtain ⟨w2, w5, w6, w7, w8, q, rss, rfl, rq, fine, r1', r5', hcl, sx⟩ := z
        refine ⟨_, rfl, _, rfl, c2, q, cs, rss, rfl, hcl, nm, pm.nodup_iff.mpr nd, by omega, rq, fine, r1', r5', fun f cs' H5 s5 pm' soc fa => ?_⟩
        obtain rfl : cs' = cs := sorted_one pm' soc so
        have lim : Lim cs' rss := ⟨by omega, r5', fun rs hrs => (fine rs hrs).rows fun z hz => hz, fun rs hrs => by have := (fine rs hrs).1.2.2.1; omega⟩
        have law : LawAt H5 q c2 cs' rss := ⟨rq.mono s5, s5 _ _ hcl, lim⟩
        have src5 := sx.same s5
        obtain ⟨ls, hls, pls⟩ := id law.1
        have ll : ls.length = rss.length := pls.length
        have eN : ((((ls.map V.ref).length : Nat) : Int) + 1).toNat = rss.length + 1 := by rw [List.length_map, ll]; omega
        refine ⟨_, rfl, q, _, rfl, .inl (SqL.of hls), _, _, rfl, rfl, _, rfl, (by rw [List.length_map]; omega), (by rw [List.length_map]; omega), for_range (n := ((((ls.map V.ref).length : Nat) : Int) + 1).toNat) (fun j σ Hw => ∃ (v2 v6 v7 v8 : Option V), σ = [some (.ref a), some (.ref p), v2, some (.ref c2), some (.ref q), some (.ref f), v6, v7, v8] ∧ Grow p H5 Hw ∧ Src p (20000 * i + 12000 + 10 * j) Hw) ⟨_, _, _, _, rfl, Grow.rfl', src5⟩ ?_ ?_⟩
        · rintro j σ Hw hj ⟨v2, v6, v7, v8, rfl, gw, sw⟩
          rw [eN] at hj
          have z0 : (0 : Int) + (j : Nat) = (j : Nat) := Int.zero_add _
          rw [z0]
          have laww := law.grow gw src5 npc
          have faw := fa.grow gw src5
          refine ⟨_, rfl, _, rfl, _, rfl, _, rfl, p, q, c2, cs', rss, j, 20000 * i + 12000 + 10 * j, rfl, sw, by omega, npc, laww, by omega, r1', fun T x y xs ys Hp' gp sp hT hx hy npx npy lx ly ax ay => ?_⟩
          have lawp := laww.grow gp sw npc
          have fap := faw.grow gp sw
          refine ⟨T, _, rfl, SqT.of hT, rfl, _, _, rfl, _, _, rfl, rfl, ?_⟩
          refine ⟨_, rfl, _, rfl, _, rfl, _, rfl, y, _, rfl, .inl ⟨SqL.of hy, fun tu htu => ?_⟩⟩
          have stu := same_new (o := .tup (ys.map fun n => V.int (n : Nat))) htu
          refine ⟨f, x, tu, cs', rss, j, xs, ys, rfl, fap.mono stu, lim, .inl (stu _ _ hx), lx, .inr upd_same, ly, by omega, by omega, fun b1 Hv sv iff1 => ?_⟩
          have s1' := same_tr stu sv
          refine ⟨_, rfl, _, rfl, _, rfl, _, rfl, _, rfl, q, c2, x, y, cs', rss, j, xs, ys, rfl, lawp.mono s1', s1' _ _ hx, lx, s1' _ _ hy, ly, by omega, by omega, fun b2 Hu su iff2 => ?_⟩
          have eb : b1 = b2 := Bool.eq_iff_iff.mpr (iff1.trans iff2.symm)
          subst eb
          refine ⟨rfl, _, rfl, ite_no (by rw [decide_eq_true rfl]; rfl) ?_⟩
          have s2' := same_tr s1' su
          refine ⟨_, rfl, _, rfl, _, rfl, _, rfl, f, y, x, cs', rss, j, ys, xs, rfl, fap.mono s2', lim, .inl (s2' _ _ hy), ly, .inl (s2' _ _ hx), lx, by omega, by omega, fun b3 Hv2 sv2 iff3 => ?_⟩
          have s3' := same_tr s2' sv2
          refine ⟨_, rfl, _, rfl, _, rfl, _, rfl, _, rfl, q, c2, y, x, cs', rss, j, ys, xs, rfl, lawp.mono s3', s3' _ _ hy, ly, s3' _ _ hx, lx, by omega, by omega, fun b4 Hu2 su2 iff4 => ?_⟩
          have eb2 : b3 = b4 := Bool.eq_iff_iff.mpr (iff3.trans iff4.symm)
          subst eb2
          refine ⟨rfl, _, rfl, ite_no (by rw [decide_eq_true rfl]; rfl) ?_⟩
          have s4' := same_tr s3' su2
          exact ⟨_, _, _, _, rfl, (gw.trans gp).same_tr s4', (sp.same s4').le (by omega)⟩
        · rintro σ Hw ⟨w2, w6, w7, w8, rfl, gw, sw⟩
          rw [eN] at sw
          exact ⟨_, _, _, _, _, _, _, rfl, sw.le (by omega)⟩
      · refine ⟨_, rfl, p, 20000 * i + 1 + 100, 2, rfl, src4, by omega, by decide, by decide, fun r Hc r0 r1 gc srcc => ⟨rfl, _, rfl, ?_⟩⟩
        have hcc := gc _ _ (s4 _ _ e2) npc.symm
        by_cases e : V.int r = V.int 0
        · refine ite_yes (decide_eq_true e) ?_
          refine ⟨_, rfl, _, rfl, p, 20000 * i + 1 + 100 + 1, 4, rfl, srcc, by omega, by decide, by decide, fun r Hd r0 r1 gd srcd => ?_⟩
          obtain ⟨y, rfl⟩ : ∃ x : Nat, r = (x : Int) := ⟨r.toNat, by omega⟩
          have em2 : ((1 : Int) + (y : Nat)) = ((1 + y : Nat) : Int) := by omega
          refine ⟨_, _, rfl, rfl, _, rfl, p, c2, 20000 * i + 1 + 100 + 1 + 1, 1 + y, 4, cs, congrArg (fun z => [V.ref p, V.int z, V.ref c2, V.int 4]) em2, srcd, by omega, gd _ _ hcc npc.symm, npc, by omega, strs_shaped nm, by decide, fun q ls rss H5 g5 hq0 hql pr5 len5 s5 => ?_⟩
          refine hD' _ _ ⟨_, _, _, _, _, q, rss, rfl, ⟨ls, hql, L2.Paired.mapP pr5 fun l rs e => e.1⟩, fun rs hrs => ?_, by omega, by omega, g5 _ _ (gd _ _ hcc npc.symm) npc.symm, s5.le (by omega)⟩
          obtain ⟨j, hj⟩ := List.getElem?_of_mem hrs
          obtain ⟨l, _, _, thr, _⟩ := paired_at (paired_flip pr5) hj
          exact ⟨thr.good (by decide), thr.lab⟩
        · refine ite_no (decide_eq_false e) ?_
          exact hD' _ _ ⟨_, _, _, _, _, D, rss0, rfl, rq0.grow gc src4, fine0, by omega, by omega, hcc, srcc.le (by omega)⟩
    · rintro σ Ha ⟨v2, v3, v4, v5, v6, v7, v8, rfl, src⟩
      exact k _
end
end CC

set_option Elab.async false
set_option maxRecDepth 100000
namespace CC
open PySem PySem.Spec PyProof.Rows L2
set_option linter.unusedVariables false
/-! ### what the class objects say -/
section
variable {K : PySem.W.Frag} {C N : Addr} {nm q : Str} {bs bm sub : List Value} {sn : List Str} {ab : Bool} {col : Option Bool} {dd : Option Addr} {m0 m1 m2 m3 m5 : Option Value}
theorem ec_cls (x : K.lookup C = some (excClassObj nm q C N bs bm true sn sub ab col dd m0 m1 m2 m3 m5 "ValueError.__new__")) :
    PySem.W.clsIn K C = some { name := nm, bases := bs, mro := .ref C :: bm, ns := N, qualname := q, hasDict := true, slotNames := sn, subclasses := sub, abstract := ab, collection := col, hasDel := false } := by
  unfold PySem.W.clsIn
  rw [x] <;> rfl
theorem ec_some (x : K.lookup C = some (excClassObj nm q C N bs bm true sn sub ab col dd m0 m1 m2 m3 m5 "ValueError.__new__")) : (PySem.W.clsIn K C).isSome = true := by
  rw [ec_cls x] <;> rfl
theorem ec_mro (x : K.lookup C = some (excClassObj nm q C N bs bm true sn sub ab col dd m0 m1 m2 m3 m5 "ValueError.__new__")) (b : Value) : PySem.W.mroIn K C b = some ((Value.ref C :: bm).contains b) := by
  unfold PySem.W.mroIn
  rw [ec_cls x] <;> rfl
theorem ec_dict (x : K.lookup C = some (excClassObj nm q C N bs bm true sn sub ab col dd m0 m1 m2 m3 m5 "ValueError.__new__")) : PySem.W.hasDictIn K C = true := by
  unfold PySem.W.hasDictIn
  rw [ec_cls x] <;> rfl
theorem ec_type (x : K.lookup C = some (excClassObj nm q C N bs bm true sn sub ab col dd m0 m1 m2 m3 m5 "ValueError.__new__")) : PySem.W.typeIn K (.ref C) = some (.type "type") := by
  show Option.map (fun o => o.cls) (List.lookup C K) = _
  rw [x] <;> rfl
theorem ec_sub (x : K.lookup C = some (excClassObj nm q C N bs bm true sn sub ab col dd m0 m1 m2 m3 m5 "ValueError.__new__")) {b : Value} (h : bm.contains b = true) : PySem.W.subIn K (.ref C) b = some true := by
  show PySem.W.mroIn K C b = some true
  rw [ec_mro x, List.contains_cons, h, Bool.or_true]
end
def bmE : List Value := [.type "ValueError", .type "Exception", .type "BaseException", .type "object"]
def bmS (CE : Addr) : List Value := .ref CE :: bmE
theorem refs_E : PySem.HandSPX.refsVE bmE = true := by decide +kernel
theorem refs_S {CE : Addr} : PySem.HandSPX.refsVE (bmS CE) = true := refs_E
theorem has_base (CE : Addr) : (bmS CE).contains (.type "BaseException") = true := by
  unfold bmS
  rw [List.contains_cons, show bmE.contains (.type "BaseException") = true by decide +kernel, Bool.or_true]
theorem has_obj (CE : Addr) : (bmS CE).contains (.type "object") = true := by
  unfold bmS
  rw [List.contains_cons, show bmE.contains (.type "object") = true by decide +kernel, Bool.or_true]
section
variable {K : PySem.W.Frag} {C CE D N : Addr} {nm q : Str} {bs sub : List Value} {sn : List Str} {ab : Bool} {col : Option Bool} {dd : Option Addr} {m0 m1 m2 m3 m5 : Option Value}
theorem ref_beq (a b : Addr) : ((Value.ref a == Value.ref b) : Bool) = decide (a = b) := by
  by_cases h : a = b
  · subst h
    simp
  · have : ¬ (Value.ref a = Value.ref b) := fun z => h (Value.ref.inj z)
    simp [h]
theorem no_ref (d : Addr) : bmE.contains (.ref d) = false := by
  unfold bmE
  simp
theorem ec_not (x : K.lookup C = some (excClassObj nm q C N bs (bmS CE) true sn sub ab col dd m0 m1 m2 m3 m5 "ValueError.__new__")) (n1 : C ≠ D) (n2 : CE ≠ D) : PySem.W.subIn K (.ref C) (.ref D) = some false := by
  show PySem.W.mroIn K C (.ref D) = some false
  rw [ec_mro x]
  unfold bmS
  rw [List.contains_cons, List.contains_cons, no_ref, ref_beq, ref_beq, decide_eq_false (Ne.symm n1), decide_eq_false (Ne.symm n2)]
  rfl
theorem ec_self (x : K.lookup C = some (excClassObj nm q C N bs (bmS CE) true sn sub ab col dd m0 m1 m2 m3 m5 "ValueError.__new__")) : PySem.W.subIn K (.ref C) (.ref C) = some true := by
  show PySem.W.mroIn K C (.ref C) = some true
  rw [ec_mro x, List.contains_cons]
  simp
end
theorem exm_of {K : PySem.W.Frag} {S D : Addr} {b : Bool} (base_ : PySem.W.subIn K (.ref D) (.type "BaseException") = some true) (is_ : (PySem.W.clsIn K D).isSome = true) (ty_ : PySem.W.typeIn K (.ref D) = some (.type "type")) (sub_ : PySem.W.subIn K (.ref S) (.ref D) = some b) :
    PySem.W.exmOne K (.ref S) (.ref D) = some b := by
  unfold PySem.W.exmOne PySem.W.kitCls
  simp [base_, ty_, sub_, is_]
theorem kit_own {K : PySem.W.Frag} {D : Addr} : PySem.W.kitOne K (.ref D) (.ref D) = some true := by
  unfold PySem.W.kitOne
  rw [ref_beq]
  simp
set_option maxHeartbeats 4000000 in
theorem all_mk {P : Program} {w : World} {K : PySem.W.Frag} {h : Heap} {mg : Str → Option Value} {fa CE TD f0 f1 f2 f3 f4 f5 f6 f7 f8 f9 f10 f11 f12 f13 f14 f15 f16 f17 f18 f19 f20 f21 f22 f23 f24 f25 f26 f27 f28 f29 f30 f31 f32 f33 f34 f35 f36 f37 f38 f39 f40 f41 f42 f43 f44 f45 f46 f47 f48 f49 f50 C CF CN NCN CB NCB : Addr} (X : K.In h) (G : h.Ns mainGlobals mg) (hfa : mg "law" = some (.ref fa))
    {od0 an0 od1 an1 od2 an2 od3 an3 od4 an4 od5 an5 od6 an6 od7 an7 od8 an8 od9 an9 od10 an10 od11 an11 od12 an12 od13 an13 od14 an14 od15 an15 od16 an16 od17 an17 od18 an18 od19 an19 od20 an20 od21 an21 od22 an22 od23 an23 od24 an24 od25 an25 od26 an26 od27 an27 od28 an28 od29 an29 od30 an30 od31 an31 od32 an32 od33 an33 od34 an34 od35 an35 od36 an36 od37 an37 od38 an38 od39 an39 od40 an40 od41 an41 od42 an42 od43 an43 od44 an44 od45 an45 od46 an46 od47 an47 od48 an48 od49 an49 od50 an50 odT ddCN ddCB : Option Addr} {sl0 sl1 sl2 sl3 sl4 sl5 sl6 sl7 sl8 sl9 sl10 sl11 sl12 sl13 sl14 sl15 sl16 sl17 sl18 sl19 sl20 sl21 sl22 sl23 sl24 sl25 sl26 sl27 sl28 sl29 sl30 sl31 sl32 sl33 sl34 sl35 sl36 sl37 sl38 sl39 sl40 sl41 sl42 sl43 sl44 sl45 sl46 sl47 sl48 sl49 sl50 slT : Array (Option Value)} {oc0 kV0 dc0 pm0 cd0 ct0 oc1 kV1 dc1 pm1 cd1 ct1 oc2 kV2 dc2 pm2 cd2 ct2 oc3 kV3 dc3 pm3 cd3 ct3 oc4 kV4 dc4 pm4 cd4 ct4 oc5 kV5 dc5 pm5 cd5 ct5 oc6 kV6 dc6 pm6 cd6 ct6 oc7 kV7 dc7 pm7 cd7 ct7 oc8 kV8 dc8 pm8 cd8 ct8 oc9 kV9 dc9 pm9 cd9 ct9 oc10 kV10 dc10 pm10 cd10 ct10 oc11 kV11 dc11 pm11 cd11 ct11 oc12 kV12 dc12 pm12 cd12 ct12 oc13 kV13 dc13 pm13 cd13 ct13 oc14 kV14 dc14 pm14 cd14 ct14 oc15 kV15 dc15 pm15 cd15 ct15 oc16 kV16 dc16 pm16 cd16 ct16 oc17 kV17 dc17 pm17 cd17 ct17 oc18 kV18 dc18 pm18 cd18 ct18 oc19 kV19 dc19 pm19 cd19 ct19 oc20 kV20 dc20 pm20 cd20 ct20 oc21 kV21 dc21 pm21 cd21 ct21 oc22 kV22 dc22 pm22 cd22 ct22 oc23 kV23 dc23 pm23 cd23 ct23 oc24 kV24 dc24 pm24 cd24 ct24 oc25 kV25 dc25 pm25 cd25 ct25 oc26 kV26 dc26 pm26 cd26 ct26 oc27 kV27 dc27 pm27 cd27 ct27 oc28 kV28 dc28 pm28 cd28 ct28 oc29 kV29 dc29 pm29 cd29 ct29 oc30 kV30 dc30 pm30 cd30 ct30 oc31 kV31 dc31 pm31 cd31 ct31 oc32 kV32 dc32 pm32 cd32 ct32 oc33 kV33 dc33 pm33 cd33 ct33 oc34 kV34 dc34 pm34 cd34 ct34 oc35 kV35 dc35 pm35 cd35 ct35 oc36 kV36 dc36 pm36 cd36 ct36 oc37 kV37 dc37 pm37 cd37 ct37 oc38 kV38 dc38 pm38 cd38 ct38 oc39 kV39 dc39 pm39 cd39 ct39 oc40 kV40 dc40 pm40 cd40 ct40 oc41 kV41 dc41 pm41 cd41 ct41 oc42 kV42 dc42 pm42 cd42 ct42 oc43 kV43 dc43 pm43 cd43 ct43 oc44 kV44 dc44 pm44 cd44 ct44 oc45 kV45 dc45 pm45 cd45 ct45 oc46 kV46 dc46 pm46 cd46 ct46 oc47 kV47 dc47 pm47 cd47 ct47 oc48 kV48 dc48 pm48 cd48 ct48 oc49 kV49 dc49 pm49 cd49 ct49 oc50 kV50 dc50 pm50 cd50 ct50 ocT : Value} {nA : Nat} {ocA : Value} {odA : Option Addr} {slA : Array (Option Value)} {TA : Addr} {tkT tk1 tk2 tk3 tk4 tk5 : Tok} {nT : Nat} {nmCN qCN nmCB qCB : Str} {bsCN subCN bsCB subCB : List Value} {snCN snCB : List Str} {abCN abCB : Bool} {colCN colCB : Option Bool} {m0CN m1CN m2CN m3CN m5CN m0CB m1CB m2CB m3CB m5CB : Option Value}
    (a0 : PySem.W.nsIn K mainGlobals "shown" = some (some (.ref f0)))
    (l0 : K.lookup f0 = some ⟨oc0, od0, .func (PySem.W.fnOf "shown" "shown" (defArgs sShown) (defBody sShown) (defScope sShown) .none kV0 dc0 pm0 an0 cd0 ct0), sl0⟩)
    (c0 : PySem.W.codeIn K cd0 "shown" = true)
    (k0 : PySem.W.keepIn K (.ref f0) = true)
    (a1 : PySem.W.nsIn K mainGlobals "is_list" = some (some (.ref f1)))
    (l1 : K.lookup f1 = some ⟨oc1, od1, .func (PySem.W.fnOf "is_list" "is_list" (defArgs sIsList) (defBody sIsList) (defScope sIsList) .none kV1 dc1 pm1 an1 cd1 ct1), sl1⟩)
    (c1 : PySem.W.codeIn K cd1 "is_list" = true)
    (k1 : PySem.W.keepIn K (.ref f1) = true)
    (a2 : PySem.W.nsIn K mainGlobals "is_whole" = some (some (.ref f2)))
    (l2 : K.lookup f2 = some ⟨oc2, od2, .func (PySem.W.fnOf "is_whole" "is_whole" (defArgs sIsWhole) (defBody sIsWhole) (defScope sIsWhole) .none kV2 dc2 pm2 an2 cd2 ct2), sl2⟩)
    (c2 : PySem.W.codeIn K cd2 "is_whole" = true)
    (k2 : PySem.W.keepIn K (.ref f2) = true)
    (a3 : PySem.W.nsIn K mainGlobals "is_name" = some (some (.ref f3)))
    (l3 : K.lookup f3 = some ⟨oc3, od3, .func (PySem.W.fnOf "is_name" "is_name" (defArgs sIsName) (defBody sIsName) (defScope sIsName) .none kV3 dc3 pm3 an3 cd3 ct3), sl3⟩)
    (c3 : PySem.W.codeIn K cd3 "is_name" = true)
    (k3 : PySem.W.keepIn K (.ref f3) = true)
    (a4 : PySem.W.nsIn K mainGlobals "is_number" = some (some (.ref f4)))
    (l4 : K.lookup f4 = some ⟨oc4, od4, .func (PySem.W.fnOf "is_number" "is_number" (defArgs sIsNumber) (defBody sIsNumber) (defScope sIsNumber) .none kV4 dc4 pm4 an4 cd4 ct4), sl4⟩)
    (c4 : PySem.W.codeIn K cd4 "is_number" = true)
    (k4 : PySem.W.keepIn K (.ref f4) = true)
    (a5 : PySem.W.nsIn K mainGlobals "are_cases" = some (some (.ref f5)))
    (l5 : K.lookup f5 = some ⟨oc5, od5, .func (PySem.W.fnOf "are_cases" "are_cases" (defArgs sAreCases) (defBody sAreCases) (defScope sAreCases) .none kV5 dc5 pm5 an5 cd5 ct5), sl5⟩)
    (c5 : PySem.W.codeIn K cd5 "are_cases" = true)
    (k5 : PySem.W.keepIn K (.ref f5) = true)
    (a6 : PySem.W.nsIn K mainGlobals "is_row" = some (some (.ref f6)))
    (l6 : K.lookup f6 = some ⟨oc6, od6, .func (PySem.W.fnOf "is_row" "is_row" (defArgs sIsRow) (defBody sIsRow) (defScope sIsRow) .none kV6 dc6 pm6 an6 cd6 ct6), sl6⟩)
    (c6 : PySem.W.codeIn K cd6 "is_row" = true)
    (k6 : PySem.W.keepIn K (.ref f6) = true)
    (a7 : PySem.W.nsIn K mainGlobals "copied" = some (some (.ref f7)))
    (l7 : K.lookup f7 = some ⟨oc7, od7, .func (PySem.W.fnOf "copied" "copied" (defArgs sCopied) (defBody sCopied) (defScope sCopied) .none kV7 dc7 pm7 an7 cd7 ct7), sl7⟩)
    (c7 : PySem.W.codeIn K cd7 "copied" = true)
    (k7 : PySem.W.keepIn K (.ref f7) = true)
    (a8 : PySem.W.nsIn K mainGlobals "followers" = some (some (.ref f8)))
    (l8 : K.lookup f8 = some ⟨oc8, od8, .func (PySem.W.fnOf "followers" "followers" (defArgs sFollowers) (defBody sFollowers) (defScope sFollowers) .none kV8 dc8 pm8 an8 cd8 ct8), sl8⟩)
    (c8 : PySem.W.codeIn K cd8 "followers" = true)
    (k8 : PySem.W.keepIn K (.ref f8) = true)
    (a9 : PySem.W.nsIn K mainGlobals "wrong_index" = some (some (.ref f9)))
    (l9 : K.lookup f9 = some ⟨oc9, od9, .func (PySem.W.fnOf "wrong_index" "wrong_index" (defArgs sWrongIx) (defBody sWrongIx) (defScope sWrongIx) .none kV9 dc9 pm9 an9 cd9 ct9), sl9⟩)
    (c9 : PySem.W.codeIn K cd9 "wrong_index" = true)
    (k9 : PySem.W.keepIn K (.ref f9) = true)
    (a10 : PySem.W.nsIn K mainGlobals "check_runs" = some (some (.ref f10)))
    (l10 : K.lookup f10 = some ⟨oc10, od10, .func (PySem.W.fnOf "check_runs" "check_runs" (defArgs sCheckRuns) (defBody sCheckRuns) (defScope sCheckRuns) .none kV10 dc10 pm10 an10 cd10 ct10), sl10⟩)
    (c10 : PySem.W.codeIn K cd10 "check_runs" = true)
    (k10 : PySem.W.keepIn K (.ref f10) = true)
    (a11 : PySem.W.nsIn K mainGlobals "after" = some (some (.ref f11)))
    (l11 : K.lookup f11 = some ⟨oc11, od11, .func (PySem.W.fnOf "after" "after" (defArgs sAfter) (defBody sAfter) (defScope sAfter) (.ref TA) kV11 dc11 pm11 an11 cd11 ct11), sl11⟩)
    (c11 : PySem.W.codeIn K cd11 "after" = true)
    (k11 : PySem.W.keepIn K (.ref f11) = true)
    (a12 : PySem.W.nsIn K mainGlobals "is_cover" = some (some (.ref f12)))
    (l12 : K.lookup f12 = some ⟨oc12, od12, .func (PySem.W.fnOf "is_cover" "is_cover" (defArgs sIsCover) (defBody sIsCover) (defScope sIsCover) .none kV12 dc12 pm12 an12 cd12 ct12), sl12⟩)
    (c12 : PySem.W.codeIn K cd12 "is_cover" = true)
    (k12 : PySem.W.keepIn K (.ref f12) = true)
    (a13 : PySem.W.nsIn K mainGlobals "wrong_row" = some (some (.ref f13)))
    (l13 : K.lookup f13 = some ⟨oc13, od13, .func (PySem.W.fnOf "wrong_row" "wrong_row" (defArgs sWrongRow) (defBody sWrongRow) (defScope sWrongRow) .none kV13 dc13 pm13 an13 cd13 ct13), sl13⟩)
    (c13 : PySem.W.codeIn K cd13 "wrong_row" = true)
    (k13 : PySem.W.keepIn K (.ref f13) = true)
    (a14 : PySem.W.nsIn K mainGlobals "is_once" = some (some (.ref f14)))
    (l14 : K.lookup f14 = some ⟨oc14, od14, .func (PySem.W.fnOf "is_once" "is_once" (defArgs sIsOnce) (defBody sIsOnce) (defScope sIsOnce) .none kV14 dc14 pm14 an14 cd14 ct14), sl14⟩)
    (c14 : PySem.W.codeIn K cd14 "is_once" = true)
    (k14 : PySem.W.keepIn K (.ref f14) = true)
    (a15 : PySem.W.nsIn K mainGlobals "are_cells" = some (some (.ref f15)))
    (l15 : K.lookup f15 = some ⟨oc15, od15, .func (PySem.W.fnOf "are_cells" "are_cells" (defArgs sAreCells) (defBody sAreCells) (defScope sAreCells) .none kV15 dc15 pm15 an15 cd15 ct15), sl15⟩)
    (c15 : PySem.W.codeIn K cd15 "are_cells" = true)
    (k15 : PySem.W.keepIn K (.ref f15) = true)
    (a16 : PySem.W.nsIn K mainGlobals "fits" = some (some (.ref f16)))
    (l16 : K.lookup f16 = some ⟨oc16, od16, .func (PySem.W.fnOf "fits" "fits" (defArgs sFits) (defBody sFits) (defScope sFits) .none kV16 dc16 pm16 an16 cd16 ct16), sl16⟩)
    (c16 : PySem.W.codeIn K cd16 "fits" = true)
    (k16 : PySem.W.keepIn K (.ref f16) = true)
    (a17 : PySem.W.nsIn K mainGlobals "are_programs" = some (some (.ref f17)))
    (l17 : K.lookup f17 = some ⟨oc17, od17, .func (PySem.W.fnOf "are_programs" "are_programs" (defArgs sArePrograms) (defBody sArePrograms) (defScope sArePrograms) .none kV17 dc17 pm17 an17 cd17 ct17), sl17⟩)
    (c17 : PySem.W.codeIn K cd17 "are_programs" = true)
    (k17 : PySem.W.keepIn K (.ref f17) = true)
    (a18 : PySem.W.nsIn K mainGlobals "_law_source" = some (some (.ref f18)))
    (l18 : K.lookup f18 = some ⟨oc18, od18, .func (PySem.W.fnOf "_law_source" "_law_source" (defArgs sSource) (defBody sSource) (defScope sSource) .none kV18 dc18 pm18 an18 cd18 ct18), sl18⟩)
    (c18 : PySem.W.codeIn K cd18 "_law_source" = true)
    (k18 : PySem.W.keepIn K (.ref f18) = true)
    (a19 : PySem.W.nsIn K mainGlobals "_law_draw" = some (some (.ref f19)))
    (l19 : K.lookup f19 = some ⟨oc19, od19, .func (PySem.W.fnOf "_law_draw" "_law_draw" (defArgs sDraw) (defBody sDraw) (defScope sDraw) .none kV19 dc19 pm19 an19 cd19 ct19), sl19⟩)
    (c19 : PySem.W.codeIn K cd19 "_law_draw" = true)
    (k19 : PySem.W.keepIn K (.ref f19) = true)
    (a20 : PySem.W.nsIn K mainGlobals "_law_pick" = some (some (.ref f20)))
    (l20 : K.lookup f20 = some ⟨oc20, od20, .func (PySem.W.fnOf "_law_pick" "_law_pick" (defArgs sPick) (defBody sPick) (defScope sPick) .none kV20 dc20 pm20 an20 cd20 ct20), sl20⟩)
    (c20 : PySem.W.codeIn K cd20 "_law_pick" = true)
    (k20 : PySem.W.keepIn K (.ref f20) = true)
    (a21 : PySem.W.nsIn K mainGlobals "_law_subset" = some (some (.ref f21)))
    (l21 : K.lookup f21 = some ⟨oc21, od21, .func (PySem.W.fnOf "_law_subset" "_law_subset" (defArgs sSubset) (defBody sSubset) (defScope sSubset) .none kV21 dc21 pm21 an21 cd21 ct21), sl21⟩)
    (c21 : PySem.W.codeIn K cd21 "_law_subset" = true)
    (k21 : PySem.W.keepIn K (.ref f21) = true)
    (a22 : PySem.W.nsIn K mainGlobals "_law_name" = some (some (.ref f22)))
    (l22 : K.lookup f22 = some ⟨oc22, od22, .func (PySem.W.fnOf "_law_name" "_law_name" (defArgs sName) (defBody sName) (defScope sName) .none kV22 dc22 pm22 an22 cd22 ct22), sl22⟩)
    (c22 : PySem.W.codeIn K cd22 "_law_name" = true)
    (k22 : PySem.W.keepIn K (.ref f22) = true)
    (a23 : PySem.W.nsIn K mainGlobals "_law_names" = some (some (.ref f23)))
    (l23 : K.lookup f23 = some ⟨oc23, od23, .func (PySem.W.fnOf "_law_names" "_law_names" (defArgs sNames) (defBody sNames) (defScope sNames) .none kV23 dc23 pm23 an23 cd23 ct23), sl23⟩)
    (c23 : PySem.W.codeIn K cd23 "_law_names" = true)
    (k23 : PySem.W.keepIn K (.ref f23) = true)
    (a24 : PySem.W.nsIn K mainGlobals "_law_any_row" = some (some (.ref f24)))
    (l24 : K.lookup f24 = some ⟨oc24, od24, .func (PySem.W.fnOf "_law_any_row" "_law_any_row" (defArgs sAnyRow) (defBody sAnyRow) (defScope sAnyRow) .none kV24 dc24 pm24 an24 cd24 ct24), sl24⟩)
    (c24 : PySem.W.codeIn K cd24 "_law_any_row" = true)
    (k24 : PySem.W.keepIn K (.ref f24) = true)
    (a25 : PySem.W.nsIn K mainGlobals "_law_rows" = some (some (.ref f25)))
    (l25 : K.lookup f25 = some ⟨oc25, od25, .func (PySem.W.fnOf "_law_rows" "_law_rows" (defArgs sRows) (defBody sRows) (defScope sRows) .none kV25 dc25 pm25 an25 cd25 ct25), sl25⟩)
    (c25 : PySem.W.codeIn K cd25 "_law_rows" = true)
    (k25 : PySem.W.keepIn K (.ref f25) = true)
    (a26 : PySem.W.nsIn K mainGlobals "_law_plain_step" = some (some (.ref f26)))
    (l26 : K.lookup f26 = some ⟨oc26, od26, .func (PySem.W.fnOf "_law_plain_step" "_law_plain_step" (defArgs sPlain) (defBody sPlain) (defScope sPlain) .none kV26 dc26 pm26 an26 cd26 ct26), sl26⟩)
    (c26 : PySem.W.codeIn K cd26 "_law_plain_step" = true)
    (k26 : PySem.W.keepIn K (.ref f26) = true)
    (a27 : PySem.W.nsIn K mainGlobals "_law_start" = some (some (.ref f27)))
    (l27 : K.lookup f27 = some ⟨oc27, od27, .func (PySem.W.fnOf "_law_start" "_law_start" (defArgs sStart) (defBody sStart) (defScope sStart) .none kV27 dc27 pm27 an27 cd27 ct27), sl27⟩)
    (c27 : PySem.W.codeIn K cd27 "_law_start" = true)
    (k27 : PySem.W.keepIn K (.ref f27) = true)
    (a28 : PySem.W.nsIn K mainGlobals "_law_walk" = some (some (.ref f28)))
    (l28 : K.lookup f28 = some ⟨oc28, od28, .func (PySem.W.fnOf "_law_walk" "_law_walk" (defArgs sWalk) (defBody sWalk) (defScope sWalk) .none kV28 dc28 pm28 an28 cd28 ct28), sl28⟩)
    (c28 : PySem.W.codeIn K cd28 "_law_walk" = true)
    (k28 : PySem.W.keepIn K (.ref f28) = true)
    (a29 : PySem.W.nsIn K mainGlobals "_law_at" = some (some (.ref f29)))
    (l29 : K.lookup f29 = some ⟨oc29, od29, .func (PySem.W.fnOf "_law_at" "_law_at" (defArgs sAt) (defBody sAt) (defScope sAt) .none kV29 dc29 pm29 an29 cd29 ct29), sl29⟩)
    (c29 : PySem.W.codeIn K cd29 "_law_at" = true)
    (k29 : PySem.W.keepIn K (.ref f29) = true)
    (a30 : PySem.W.nsIn K mainGlobals "_law_covers" = some (some (.ref f30)))
    (l30 : K.lookup f30 = some ⟨oc30, od30, .func (PySem.W.fnOf "_law_covers" "_law_covers" (defArgs sCovers) (defBody sCovers) (defScope sCovers) .none kV30 dc30 pm30 an30 cd30 ct30), sl30⟩)
    (c30 : PySem.W.codeIn K cd30 "_law_covers" = true)
    (k30 : PySem.W.keepIn K (.ref f30) = true)
    (a31 : PySem.W.nsIn K mainGlobals "_law_doubled" = some (some (.ref f31)))
    (l31 : K.lookup f31 = some ⟨oc31, od31, .func (PySem.W.fnOf "_law_doubled" "_law_doubled" (defArgs sDoubled) (defBody sDoubled) (defScope sDoubled) .none kV31 dc31 pm31 an31 cd31 ct31), sl31⟩)
    (c31 : PySem.W.codeIn K cd31 "_law_doubled" = true)
    (k31 : PySem.W.keepIn K (.ref f31) = true)
    (a32 : PySem.W.nsIn K mainGlobals "_law_threads" = some (some (.ref f32)))
    (l32 : K.lookup f32 = some ⟨oc32, od32, .func (PySem.W.fnOf "_law_threads" "_law_threads" (defArgs sThreads) (defBody sThreads) (defScope sThreads) .none kV32 dc32 pm32 an32 cd32 ct32), sl32⟩)
    (c32 : PySem.W.codeIn K cd32 "_law_threads" = true)
    (k32 : PySem.W.keepIn K (.ref f32) = true)
    (a33 : PySem.W.nsIn K mainGlobals "_law_made" = some (some (.ref f33)))
    (l33 : K.lookup f33 = some ⟨oc33, od33, .func (PySem.W.fnOf "_law_made" "_law_made" (defArgs sMade) (defBody sMade) (defScope sMade) .none kV33 dc33 pm33 an33 cd33 ct33), sl33⟩)
    (c33 : PySem.W.codeIn K cd33 "_law_made" = true)
    (k33 : PySem.W.keepIn K (.ref f33) = true)
    (a34 : PySem.W.nsIn K mainGlobals "_law_onebit" = some (some (.ref f34)))
    (l34 : K.lookup f34 = some ⟨oc34, od34, .func (PySem.W.fnOf "_law_onebit" "_law_onebit" (defArgs sOneBit) (defBody sOneBit) (defScope sOneBit) .none kV34 dc34 pm34 an34 cd34 ct34), sl34⟩)
    (c34 : PySem.W.codeIn K cd34 "_law_onebit" = true)
    (k34 : PySem.W.keepIn K (.ref f34) = true)
    (a35 : PySem.W.nsIn K mainGlobals "_law_until" = some (some (.ref f35)))
    (l35 : K.lookup f35 = some ⟨oc35, od35, .func (PySem.W.fnOf "_law_until" "_law_until" (defArgs sUntil) (defBody sUntil) (defScope sUntil) .none kV35 dc35 pm35 an35 cd35 ct35), sl35⟩)
    (c35 : PySem.W.codeIn K cd35 "_law_until" = true)
    (k35 : PySem.W.keepIn K (.ref f35) = true)
    (a36 : PySem.W.nsIn K mainGlobals "_law_pair" = some (some (.ref f36)))
    (l36 : K.lookup f36 = some ⟨oc36, od36, .func (PySem.W.fnOf "_law_pair" "_law_pair" (defArgs sPair) (defBody sPair) (defScope sPair) .none kV36 dc36 pm36 an36 cd36 ct36), sl36⟩)
    (c36 : PySem.W.codeIn K cd36 "_law_pair" = true)
    (k36 : PySem.W.keepIn K (.ref f36) = true)
    (a37 : PySem.W.nsIn K mainGlobals "law" = some (some (.ref f37)))
    (l37 : K.lookup f37 = some ⟨oc37, od37, .func (PySem.W.fnOf "law" "law" (defArgs sLaw) (defBody sLaw) (defScope sLaw) .none kV37 dc37 pm37 an37 cd37 ct37), sl37⟩)
    (c37 : PySem.W.codeIn K cd37 "law" = true)
    (k37 : PySem.W.keepIn K (.ref f37) = true)
    (a38 : PySem.W.findIn K (.ref C) "__init__" = some (some (.ref f38)))
    (l38 : K.lookup f38 = some ⟨oc38, od38, .func (PySem.W.fnOf "__init__" "Program.__init__" (defArgs sProgInit) (defBody sProgInit) (defScope sProgInit) .none kV38 dc38 pm38 an38 cd38 ct38), sl38⟩)
    (c38 : PySem.W.codeIn K cd38 "Program.__init__" = true)
    (k38 : PySem.W.keepIn K (.ref f38) = true)
    (a39 : PySem.W.findIn K (.ref C) "rows" = some (some (.ref f39)))
    (l39 : K.lookup f39 = some ⟨oc39, od39, .func (PySem.W.fnOf "rows" "Program.rows" (defArgs sProgRows) (defBody sProgRows) (defScope sProgRows) .none kV39 dc39 pm39 an39 cd39 ct39), sl39⟩)
    (c39 : PySem.W.codeIn K cd39 "Program.rows" = true)
    (k39 : PySem.W.keepIn K (.ref f39) = true)
    (a40 : PySem.W.findIn K (.ref C) "used" = some (some (.ref f40)))
    (l40 : K.lookup f40 = some ⟨oc40, od40, .func (PySem.W.fnOf "used" "Program.used" (defArgs sProgUsed) (defBody sProgUsed) (defScope sProgUsed) .none kV40 dc40 pm40 an40 cd40 ct40), sl40⟩)
    (c40 : PySem.W.codeIn K cd40 "Program.used" = true)
    (k40 : PySem.W.keepIn K (.ref f40) = true)
    (a41 : PySem.W.findIn K (.ref CF) "__init__" = some (some (.ref f41)))
    (l41 : K.lookup f41 = some ⟨oc41, od41, .func (PySem.W.fnOf "__init__" "Field.__init__" (defArgs sFieldInit) (defBody sFieldInit) (defScope sFieldInit) .none kV41 dc41 pm41 an41 cd41 ct41), sl41⟩)
    (c41 : PySem.W.codeIn K cd41 "Field.__init__" = true)
    (k41 : PySem.W.keepIn K (.ref f41) = true)
    (a42 : PySem.W.findIn K (.ref CF) "__len__" = some (some (.ref f42)))
    (l42 : K.lookup f42 = some ⟨oc42, od42, .func (PySem.W.fnOf "__len__" "Field.__len__" (defArgs sFieldLen) (defBody sFieldLen) (defScope sFieldLen) .none kV42 dc42 pm42 an42 cd42 ct42), sl42⟩)
    (c42 : PySem.W.codeIn K cd42 "Field.__len__" = true)
    (k42 : PySem.W.keepIn K (.ref f42) = true)
    (a43 : PySem.W.findIn K (.ref CF) "start" = some (some (.ref f43)))
    (l43 : K.lookup f43 = some ⟨oc43, od43, .func (PySem.W.fnOf "start" "Field.start" (defArgs sFieldStart) (defBody sFieldStart) (defScope sFieldStart) .none kV43 dc43 pm43 an43 cd43 ct43), sl43⟩)
    (c43 : PySem.W.codeIn K cd43 "Field.start" = true)
    (k43 : PySem.W.keepIn K (.ref f43) = true)
    (a44 : PySem.W.findIn K (.ref CF) "step" = some (some (.ref f44)))
    (l44 : K.lookup f44 = some ⟨oc44, od44, .func (PySem.W.fnOf "step" "Field.step" (defArgs sFieldStep) (defBody sFieldStep) (defScope sFieldStep) .none kV44 dc44 pm44 an44 cd44 ct44), sl44⟩)
    (c44 : PySem.W.codeIn K cd44 "Field.step" = true)
    (k44 : PySem.W.keepIn K (.ref f44) = true)
    (a45 : PySem.W.findIn K (.ref CF) "_standing" = some (some (.ref f45)))
    (l45 : K.lookup f45 = some ⟨oc45, od45, .func (PySem.W.fnOf "_standing" "Field._standing" (defArgs sFieldStanding) (defBody sFieldStanding) (defScope sFieldStanding) .none kV45 dc45 pm45 an45 cd45 ct45), sl45⟩)
    (c45 : PySem.W.codeIn K cd45 "Field._standing" = true)
    (k45 : PySem.W.keepIn K (.ref f45) = true)
    (a46 : PySem.W.findIn K (.ref CF) "writing" = some (some (.ref f46)))
    (l46 : K.lookup f46 = some ⟨oc46, od46, .func (PySem.W.fnOf "writing" "Field.writing" (defArgs sFieldWriting) (defBody sFieldWriting) (defScope sFieldWriting) .none kV46 dc46 pm46 an46 cd46 ct46), sl46⟩)
    (c46 : PySem.W.codeIn K cd46 "Field.writing" = true)
    (k46 : PySem.W.keepIn K (.ref f46) = true)
    (a47 : PySem.W.findIn K (.ref CF) "resting" = some (some (.ref f47)))
    (l47 : K.lookup f47 = some ⟨oc47, od47, .func (PySem.W.fnOf "resting" "Field.resting" (defArgs sFieldResting) (defBody sFieldResting) (defScope sFieldResting) .none kV47 dc47 pm47 an47 cd47 ct47), sl47⟩)
    (c47 : PySem.W.codeIn K cd47 "Field.resting" = true)
    (k47 : PySem.W.keepIn K (.ref f47) = true)
    (a48 : PySem.W.findIn K (.ref CB) "__init__" = some (some (.ref f48)))
    (l48 : K.lookup f48 = some ⟨oc48, od48, .func (PySem.W.fnOf "__init__" "BadProgram.__init__" (defArgs sBadInit) (defBody sBadInit) (defScope sBadInit) .none kV48 dc48 pm48 an48 cd48 ct48), sl48⟩)
    (c48 : PySem.W.codeIn K cd48 "BadProgram.__init__" = true)
    (k48 : PySem.W.keepIn K (.ref f48) = true)
    (a49 : PySem.W.findIn K (.ref CN) "__init__" = some (some (.ref f49)))
    (l49 : K.lookup f49 = some ⟨oc49, od49, .func (PySem.W.fnOf "__init__" "NotOnce.__init__" (defArgs sNotInit) (defBody sNotInit) (defScope sNotInit) .none kV49 dc49 pm49 an49 cd49 ct49), sl49⟩)
    (c49 : PySem.W.codeIn K cd49 "NotOnce.__init__" = true)
    (k49 : PySem.W.keepIn K (.ref f49) = true)
    (a50 : PySem.W.findCls K (.ref CE) (.type "type") "__init__" = some (.val (.ref f50)))
    (l50 : K.lookup f50 = some ⟨oc50, od50, .func (PySem.W.fnOf "__init__" "CellError.__init__" (defArgs sCellInit) (defBody sCellInit) (defScope sCellInit) (.ref TD) kV50 dc50 pm50 an50 cd50 ct50), sl50⟩)
    (c50 : PySem.W.codeIn K cd50 "CellError.__init__" = true)
    (k50 : PySem.W.keepIn K (.ref f50) = true)
    (lT : K.lookup TD = some ⟨ocT, odT, .seq #[.str (Str.ofString "") tkT] nT, slT⟩)
    (aE : PySem.W.nsIn K mainGlobals "CellError" = some (some (.ref CE)))
    (gaE : PySem.W.specialIn K (.ref CE) "__getattribute__" = some (some (.builtin "type.__getattribute__")))
    (rdE : PySem.W.readsIn K CE (.type "type") = true)
    (vV : PySem.W.findCls K (.type "ValueError") (.type "type") "__init__" = some (.val (.builtin "ValueError.__init__")))
    (gCN : PySem.W.nsIn K mainGlobals "NotOnce" = some (some (.ref CN)))
    (xCN : K.lookup CN = some (excClassObj nmCN qCN CN NCN bsCN (bmS CE) true snCN subCN abCN colCN ddCN m0CN m1CN m2CN m3CN m5CN "ValueError.__new__"))
    (saCN : PySem.W.findIn K (.ref CN) "__setattr__" = some (some (.builtin "object.__setattr__")))
    (kpCN : PySem.W.keepIn K (.ref CN) = true)
    (gaCN : PySem.W.findIn K (.ref CN) "__getattribute__" = some (some (.builtin "BaseException.__getattribute__")))
    (ggCN : PySem.W.findIn K (.ref CN) "__getattr__" = some none)
    (nfCN : PySem.W.findIn K (.ref CN) "row" = some none)
    (gCB : PySem.W.nsIn K mainGlobals "BadProgram" = some (some (.ref CB)))
    (xCB : K.lookup CB = some (excClassObj nmCB qCB CB NCB bsCB (bmS CE) true snCB subCB abCB colCB ddCB m0CB m1CB m2CB m3CB m5CB "ValueError.__new__"))
    (saCB : PySem.W.findIn K (.ref CB) "__setattr__" = some (some (.builtin "object.__setattr__")))
    (kpCB : PySem.W.keepIn K (.ref CB) = true)
    (gaCB : PySem.W.findIn K (.ref CB) "__getattribute__" = some (some (.builtin "BaseException.__getattribute__")))
    (ggCB : PySem.W.findIn K (.ref CB) "__getattr__" = some none)
    (nfCB : PySem.W.findIn K (.ref CB) "row" = some none)
    (gC : PySem.W.nsIn K mainGlobals "Program" = some (some (.ref C)))
    (pgC : PySem.W.plainGet K C Str.empty = true)
    (hdC : PySem.W.hasDictIn K C = true)
    (poC : PySem.W.plainOver K C = true)
    (saC : PySem.W.findIn K (.ref C) "__setattr__" = some (some (.builtin "object.__setattr__")))
    (mkC : PySem.W.makesIn K C = true)
    (kcC : PySem.W.keepIn K (.ref C) = true)
    (nRC_rows : PySem.W.findIn K (.ref C) "_rows" = some none)
    (is38 : PySem.W.isFn K (.ref f38) = true)
    (is39 : PySem.W.isFn K (.ref f39) = true)
    (is40 : PySem.W.isFn K (.ref f40) = true)
    (gCF : PySem.W.nsIn K mainGlobals "Field" = some (some (.ref CF)))
    (pgCF : PySem.W.plainGet K CF Str.empty = true)
    (hdCF : PySem.W.hasDictIn K CF = true)
    (poCF : PySem.W.plainOver K CF = true)
    (saCF : PySem.W.findIn K (.ref CF) "__setattr__" = some (some (.builtin "object.__setattr__")))
    (mkCF : PySem.W.makesIn K CF = true)
    (kcCF : PySem.W.keepIn K (.ref CF) = true)
    (nRCF_cells : PySem.W.findIn K (.ref CF) "_cells" = some none)
    (nRCF_programs : PySem.W.findIn K (.ref CF) "_programs" = some none)
    (nRCF_tables : PySem.W.findIn K (.ref CF) "_tables" = some none)
    (is41 : PySem.W.isFn K (.ref f41) = true)
    (is42 : PySem.W.isFn K (.ref f42) = true)
    (is43 : PySem.W.isFn K (.ref f43) = true)
    (is44 : PySem.W.isFn K (.ref f44) = true)
    (is45 : PySem.W.isFn K (.ref f45) = true)
    (is46 : PySem.W.isFn K (.ref f46) = true)
    (is47 : PySem.W.isFn K (.ref f47) = true)
    (vFEWEST_ROWS : PySem.W.nsIn K mainGlobals "FEWEST_ROWS" = some (some (.int 2 tk1)))
    (vMOST_ROWS : PySem.W.nsIn K mainGlobals "MOST_ROWS" = some (some (.int 60 tk2)))
    (vSHOWN_BELOW : PySem.W.nsIn K mainGlobals "SHOWN_BELOW" = some (some (.int 1000000000000 tk3)))
    (vMOST_CELLS : PySem.W.nsIn K mainGlobals "MOST_CELLS" = some (some (.int 5 tk4)))
    (vMOST_THREADS : PySem.W.nsIn K mainGlobals "MOST_THREADS" = some (some (.int 5 tk5)))
    (z0 : PySem.W.nsIn K mainGlobals "int" = some none)
    (z1 : PySem.W.nsIn K mainGlobals "len" = some none)
    (z2 : PySem.W.nsIn K mainGlobals "dict" = some none)
    (z3 : PySem.W.nsIn K mainGlobals "range" = some none)
    (z4 : PySem.W.nsIn K mainGlobals "isinstance" = some none)
    (z5 : PySem.W.nsIn K mainGlobals "list" = some none)
    (z6 : PySem.W.nsIn K mainGlobals "tuple" = some none)
    (z7 : PySem.W.nsIn K mainGlobals "bool" = some none)
    (z8 : PySem.W.nsIn K mainGlobals "str" = some none)
    (z9 : PySem.W.nsIn K mainGlobals "all" = some none)
    (z10 : PySem.W.nsIn K mainGlobals "any" = some none)
    (z11 : PySem.W.nsIn K mainGlobals "sorted" = some none)
    (z12 : PySem.W.nsIn K mainGlobals "enumerate" = some none)
    (z13 : PySem.W.nsIn K mainGlobals "set" = some none)
    (z14 : PySem.W.nsIn K mainGlobals "abs" = some none)
    (z15 : PySem.W.nsIn K mainGlobals "zip" = some none)
    (z16 : PySem.W.nsIn K mainGlobals "ValueError" = some none)
    (nd : ([CE, CN, CB] : List Addr).Nodup)
    (ty38 : PySem.W.typeIn K (.ref f38) = some (.type "function"))
    (ty39 : PySem.W.typeIn K (.ref f39) = some (.type "function"))
    (ty40 : PySem.W.typeIn K (.ref f40) = some (.type "function"))
    (ty41 : PySem.W.typeIn K (.ref f41) = some (.type "function"))
    (ty42 : PySem.W.typeIn K (.ref f42) = some (.type "function"))
    (ty43 : PySem.W.typeIn K (.ref f43) = some (.type "function"))
    (ty44 : PySem.W.typeIn K (.ref f44) = some (.type "function"))
    (ty45 : PySem.W.typeIn K (.ref f45) = some (.type "function"))
    (ty46 : PySem.W.typeIn K (.ref f46) = some (.type "function"))
    (ty47 : PySem.W.typeIn K (.ref f47) = some (.type "function"))
    (ty48 : PySem.W.typeIn K (.ref f48) = some (.type "function"))
    (ty49 : PySem.W.typeIn K (.ref f49) = some (.type "function"))
    (icA : PySem.W.findIn K (.ref C) "__class__" = some (some (.builtin "object.__class__")))
    (icG : PySem.W.specialIn K (.builtin "object.__class__") "__get__" = some (some (.builtin "getset_descriptor.__get__")))
    (icT : PySem.W.takesIn K (.builtin "object.__class__") = some true)
    (icO : PySem.W.mroIn K C (.type "object") = some true)
    (lTA : K.lookup TA = some ⟨ocA, odA, .seq #[.none] nA, slA⟩) :
    ∃ fd : FuncData, (∀ (s : Shared) (v : Value), BindsTo s fd ⟨[v], []⟩ [("_law_script", v)]) ∧ ∀ base : Heap, K.In base → base.Ns mainGlobals mg → FnOk P w K mg base CX0 9 fa fd ["_law_script"] (spLaw K) := by
  have e := hfa.symm.trans (PySem.W.mg_of X G a37)
  cases e
  have F0 := fun_mk (st := sShown) l0 c0 k0
  have b0 := F0.binds (ps := ["value"]) fun _ _ _ _ _ _ us hl => match us, hl with | [_], _ => rfl
  have g0 := PySem.W.mg_of X G a0
  have F1 := fun_mk (st := sIsList) l1 c1 k1
  have b1 := F1.binds (ps := ["value"]) fun _ _ _ _ _ _ us hl => match us, hl with | [_], _ => rfl
  have g1 := PySem.W.mg_of X G a1
  have F2 := fun_mk (st := sIsWhole) l2 c2 k2
  have b2 := F2.binds (ps := ["value"]) fun _ _ _ _ _ _ us hl => match us, hl with | [_], _ => rfl
  have g2 := PySem.W.mg_of X G a2
  have F3 := fun_mk (st := sIsName) l3 c3 k3
  have b3 := F3.binds (ps := ["value"]) fun _ _ _ _ _ _ us hl => match us, hl with | [_], _ => rfl
  have g3 := PySem.W.mg_of X G a3
  have F4 := fun_mk (st := sIsNumber) l4 c4 k4
  have b4 := F4.binds (ps := ["value", "many"]) fun _ _ _ _ _ _ us hl => match us, hl with | [_, _], _ => rfl
  have g4 := PySem.W.mg_of X G a4
  have F5 := fun_mk (st := sAreCases) l5 c5 k5
  have b5 := F5.binds (ps := ["value", "many"]) fun _ _ _ _ _ _ us hl => match us, hl with | [_, _], _ => rfl
  have g5 := PySem.W.mg_of X G a5
  have F6 := fun_mk (st := sIsRow) l6 c6 k6
  have b6 := F6.binds (ps := ["value", "many"]) fun _ _ _ _ _ _ us hl => match us, hl with | [_, _], _ => rfl
  have g6 := PySem.W.mg_of X G a6
  have F7 := fun_mk (st := sCopied) l7 c7 k7
  have b7 := F7.binds (ps := ["row"]) fun _ _ _ _ _ _ us hl => match us, hl with | [_], _ => rfl
  have g7 := PySem.W.mg_of X G a7
  have F8 := fun_mk (st := sFollowers) l8 c8 k8
  have b8 := F8.binds (ps := ["row"]) fun _ _ _ _ _ _ us hl => match us, hl with | [_], _ => rfl
  have g8 := PySem.W.mg_of X G a8
  have F9 := fun_mk (st := sWrongIx) l9 c9 k9
  have b9 := F9.binds (ps := ["field", "run"]) fun _ _ _ _ _ _ us hl => match us, hl with | [_, _], _ => rfl
  have g9 := PySem.W.mg_of X G a9
  have F10 := fun_mk (st := sCheckRuns) l10 c10 k10
  have b10 := F10.binds (ps := ["field", "runs"]) fun _ _ _ _ _ _ us hl => match us, hl with | [_, _], _ => rfl
  have g10 := PySem.W.mg_of X G a10
  have F11 : FunD K "after" "after" (defArgs sAfter) (defBody sAfter) (defScope sAfter) [V.non] [] f11 _ := ⟨⟨_, _, _, _, _, _, _, _, _, _, rfl, l11, c11, .inr ⟨(by intro z; cases z), TA, _, [.none], nA, rfl, lTA, rfl, .cons rfl .nil⟩, .inl rfl⟩, k11⟩
  obtain ⟨dsA, hvA, b11⟩ := F11.binds1 (ps := ["field", "run", "state"]) 2 0 (by intro z; cases z) rfl (fun T kV doc pm an cdv ct us its hu hi => match us, hu, its, hi with | [_, _], _, [_], _ => ⟨_, rfl, rfl⟩)
  obtain ⟨uA, rfl, eA⟩ := L2.Vals.one hvA
  cases (show uA = Value.none from eA)
  have g11 := PySem.W.mg_of X G a11
  have F12 := fun_mk (st := sIsCover) l12 c12 k12
  have b12 := F12.binds (ps := ["field", "count", "run", "twin"]) fun _ _ _ _ _ _ us hl => match us, hl with | [_, _, _, _], _ => rfl
  have g12 := PySem.W.mg_of X G a12
  have F13 := fun_mk (st := sWrongRow) l13 c13 k13
  have b13 := F13.binds (ps := ["rows"]) fun _ _ _ _ _ _ us hl => match us, hl with | [_], _ => rfl
  have g13 := PySem.W.mg_of X G a13
  have F14 := fun_mk (st := sIsOnce) l14 c14 k14
  have b14 := F14.binds (ps := ["rows", "first"]) fun _ _ _ _ _ _ us hl => match us, hl with | [_, _], _ => rfl
  have g14 := PySem.W.mg_of X G a14
  have F15 := fun_mk (st := sAreCells) l15 c15 k15
  have b15 := F15.binds (ps := ["value"]) fun _ _ _ _ _ _ us hl => match us, hl with | [_], _ => rfl
  have g15 := PySem.W.mg_of X G a15
  have F16 := fun_mk (st := sFits) l16 c16 k16
  have b16 := F16.binds (ps := ["value", "cells"]) fun _ _ _ _ _ _ us hl => match us, hl with | [_, _], _ => rfl
  have g16 := PySem.W.mg_of X G a16
  have F17 := fun_mk (st := sArePrograms) l17 c17 k17
  have b17 := F17.binds (ps := ["value", "cells"]) fun _ _ _ _ _ _ us hl => match us, hl with | [_, _], _ => rfl
  have g17 := PySem.W.mg_of X G a17
  have F18 := fun_mk (st := sSource) l18 c18 k18
  have b18 := F18.binds (ps := ["_law_script"]) fun _ _ _ _ _ _ us hl => match us, hl with | [_], _ => rfl
  have g18 := PySem.W.mg_of X G a18
  have F19 := fun_mk (st := sDraw) l19 c19 k19
  have b19 := F19.binds (ps := ["_law_source_here", "_law_many"]) fun _ _ _ _ _ _ us hl => match us, hl with | [_, _], _ => rfl
  have g19 := PySem.W.mg_of X G a19
  have F20 := fun_mk (st := sPick) l20 c20 k20
  have b20 := F20.binds (ps := ["_law_source_here", "_law_things"]) fun _ _ _ _ _ _ us hl => match us, hl with | [_, _], _ => rfl
  have g20 := PySem.W.mg_of X G a20
  have F21 := fun_mk (st := sSubset) l21 c21 k21
  have b21 := F21.binds (ps := ["_law_source_here", "_law_row"]) fun _ _ _ _ _ _ us hl => match us, hl with | [_, _], _ => rfl
  have g21 := PySem.W.mg_of X G a21
  have F22 := fun_mk (st := sName) l22 c22 k22
  have b22 := F22.binds (ps := ["_law_source_here", "_law_taken"]) fun _ _ _ _ _ _ us hl => match us, hl with | [_, _], _ => rfl
  have g22 := PySem.W.mg_of X G a22
  have F23 := fun_mk (st := sNames) l23 c23 k23
  have b23 := F23.binds (ps := ["_law_source_here", "_law_many"]) fun _ _ _ _ _ _ us hl => match us, hl with | [_, _], _ => rfl
  have g23 := PySem.W.mg_of X G a23
  have F24 := fun_mk (st := sAnyRow) l24 c24 k24
  have b24 := F24.binds (ps := ["_law_source_here", "_law_cells", "_law_first", "_law_last", "_law_worths"]) fun _ _ _ _ _ _ us hl => match us, hl with | [_, _, _, _, _], _ => rfl
  have g24 := PySem.W.mg_of X G a24
  have F25 := fun_mk (st := sRows) l25 c25 k25
  have b25 := F25.binds (ps := ["_law_source_here", "_law_cells", "_law_ahead", "_law_behind", "_law_worths"]) fun _ _ _ _ _ _ us hl => match us, hl with | [_, _, _, _, _], _ => rfl
  have g25 := PySem.W.mg_of X G a25
  have F26 := fun_mk (st := sPlain) l26 c26 k26
  have b26 := F26.binds (ps := ["_law_rows_here", "_law_cells", "_law_state", "_law_thread"]) fun _ _ _ _ _ _ us hl => match us, hl with | [_, _, _, _], _ => rfl
  have g26 := PySem.W.mg_of X G a26
  have F27 := fun_mk (st := sStart) l27 c27 k27
  have b27 := F27.binds (ps := ["_law_rows_here", "_law_cells"]) fun _ _ _ _ _ _ us hl => match us, hl with | [_, _], _ => rfl
  have g27 := PySem.W.mg_of X G a27
  have F28 := fun_mk (st := sWalk) l28 c28 k28
  have b28 := F28.binds (ps := ["_law_rows_here", "_law_cells", "_law_run", "_law_state"]) fun _ _ _ _ _ _ us hl => match us, hl with | [_, _, _, _], _ => rfl
  have g28 := PySem.W.mg_of X G a28
  have F29 := fun_mk (st := sAt) l29 c29 k29
  have b29 := F29.binds (ps := ["_law_rows_here", "_law_state", "_law_sort"]) fun _ _ _ _ _ _ us hl => match us, hl with | [_, _, _], _ => rfl
  have g29 := PySem.W.mg_of X G a29
  have F30 := fun_mk (st := sCovers) l30 c30 k30
  have b30 := F30.binds (ps := ["_law_rows_here", "_law_cells", "_law_count", "_law_run", "_law_twin"]) fun _ _ _ _ _ _ us hl => match us, hl with | [_, _, _, _, _], _ => rfl
  have g30 := PySem.W.mg_of X G a30
  have F31 := fun_mk (st := sDoubled) l31 c31 k31
  have b31 := F31.binds (ps := ["_law_rows_here"]) fun _ _ _ _ _ _ us hl => match us, hl with | [_], _ => rfl
  have g31 := PySem.W.mg_of X G a31
  have F32 := fun_mk (st := sThreads) l32 c32 k32
  have b32 := F32.binds (ps := ["_law_source_here", "_law_threads_here", "_law_cells", "_law_most"]) fun _ _ _ _ _ _ us hl => match us, hl with | [_, _, _, _], _ => rfl
  have g32 := PySem.W.mg_of X G a32
  have F33 := fun_mk (st := sMade) l33 c33 k33
  have b33 := F33.binds (ps := ["_law_cells", "_law_programs"]) fun _ _ _ _ _ _ us hl => match us, hl with | [_, _], _ => rfl
  have g33 := PySem.W.mg_of X G a33
  have F34 := fun_mk (st := sOneBit) l34 c34 k34
  have b34 := F34.binds (ps := ["_law_cells"]) fun _ _ _ _ _ _ us hl => match us, hl with | [_], _ => rfl
  have g34 := PySem.W.mg_of X G a34
  have F35 := fun_mk (st := sUntil) l35 c35 k35
  have b35 := F35.binds (ps := ["_law_rows_here", "_law_cells", "_law_run", "_law_thread", "_law_sorts"]) fun _ _ _ _ _ _ us hl => match us, hl with | [_, _, _, _, _], _ => rfl
  have g35 := PySem.W.mg_of X G a35
  have F36 := fun_mk (st := sPair) l36 c36 k36
  have b36 := F36.binds (ps := ["_law_source_here", "_law_rows_here", "_law_cells", "_law_count"]) fun _ _ _ _ _ _ us hl => match us, hl with | [_, _, _, _], _ => rfl
  have g36 := PySem.W.mg_of X G a36
  have F37 := fun_mk (st := sLaw) l37 c37 k37
  have b37 := F37.binds (ps := ["_law_script"]) fun _ _ _ _ _ _ us hl => match us, hl with | [_], _ => rfl
  have g37 := PySem.W.mg_of X G a37
  have F38 := fun_mk (st := sProgInit) l38 c38 k38
  have b38 := F38.binds (ps := ["self", "rows"]) fun _ _ _ _ _ _ us hl => match us, hl with | [_, _], _ => rfl
  have F39 := fun_mk (st := sProgRows) l39 c39 k39
  have b39 := F39.binds (ps := ["self"]) fun _ _ _ _ _ _ us hl => match us, hl with | [_], _ => rfl
  have F40 := fun_mk (st := sProgUsed) l40 c40 k40
  have b40 := F40.binds (ps := ["self"]) fun _ _ _ _ _ _ us hl => match us, hl with | [_], _ => rfl
  have F41 := fun_mk (st := sFieldInit) l41 c41 k41
  have b41 := F41.binds (ps := ["self", "cells", "programs"]) fun _ _ _ _ _ _ us hl => match us, hl with | [_, _, _], _ => rfl
  have F42 := fun_mk (st := sFieldLen) l42 c42 k42
  have b42 := F42.binds (ps := ["self"]) fun _ _ _ _ _ _ us hl => match us, hl with | [_], _ => rfl
  have F43 := fun_mk (st := sFieldStart) l43 c43 k43
  have b43 := F43.binds (ps := ["self"]) fun _ _ _ _ _ _ us hl => match us, hl with | [_], _ => rfl
  have F44 := fun_mk (st := sFieldStep) l44 c44 k44
  have b44 := F44.binds (ps := ["self", "state", "thread"]) fun _ _ _ _ _ _ us hl => match us, hl with | [_, _, _], _ => rfl
  have F45 := fun_mk (st := sFieldStanding) l45 c45 k45
  have b45 := F45.binds (ps := ["self", "state"]) fun _ _ _ _ _ _ us hl => match us, hl with | [_, _], _ => rfl
  have F46 := fun_mk (st := sFieldWriting) l46 c46 k46
  have b46 := F46.binds (ps := ["self", "state"]) fun _ _ _ _ _ _ us hl => match us, hl with | [_, _], _ => rfl
  have F47 := fun_mk (st := sFieldResting) l47 c47 k47
  have b47 := F47.binds (ps := ["self", "state"]) fun _ _ _ _ _ _ us hl => match us, hl with | [_, _], _ => rfl
  have F48 := fun_mk (st := sBadInit) l48 c48 k48
  have b48 := F48.binds (ps := ["self", "row"]) fun _ _ _ _ _ _ us hl => match us, hl with | [_, _], _ => rfl
  have F49 := fun_mk (st := sNotInit) l49 c49 k49
  have b49 := F49.binds (ps := ["self", "row"]) fun _ _ _ _ _ _ us hl => match us, hl with | [_, _], _ => rfl
  have FE : FunD K "__init__" "CellError.__init__" (defArgs sCellInit) (defBody sCellInit) (defScope sCellInit) [V.str ""] [] f50 _ := ⟨⟨_, _, _, _, _, _, _, _, _, _, rfl, l50, c50, .inr ⟨(by intro z; cases z), TD, _, [.str (Str.ofString "") tkT], nT, rfl, lT, rfl, .cons ⟨tkT, rfl⟩ .nil⟩, .inl rfl⟩, k50⟩
  obtain ⟨ds, hv, bE⟩ := FE.binds1 (ps := ["self", "why"]) 2 1 (by intro z; cases z) rfl (fun T kV doc pm an cdv ct us its hu hi => match us, hu, its, hi with | [_, _], _, [_], _ => ⟨_, rfl, rfl⟩)
  cases hv
  have n_int := PySem.W.mg_none_of X G z0
  have n_len := PySem.W.mg_none_of X G z1
  have n_dict := PySem.W.mg_none_of X G z2
  have n_range := PySem.W.mg_none_of X G z3
  have n_isinstance := PySem.W.mg_none_of X G z4
  have n_list := PySem.W.mg_none_of X G z5
  have n_tuple := PySem.W.mg_none_of X G z6
  have n_bool := PySem.W.mg_none_of X G z7
  have n_str := PySem.W.mg_none_of X G z8
  have n_all := PySem.W.mg_none_of X G z9
  have n_any := PySem.W.mg_none_of X G z10
  have n_sorted := PySem.W.mg_none_of X G z11
  have n_enumerate := PySem.W.mg_none_of X G z12
  have n_set := PySem.W.mg_none_of X G z13
  have n_abs := PySem.W.mg_none_of X G z14
  have n_zip := PySem.W.mg_none_of X G z15
  have n_ValueError := PySem.W.mg_none_of X G z16
  have c_FEWEST_ROWS := PySem.W.mg_of X G vFEWEST_ROWS
  have c_MOST_ROWS := PySem.W.mg_of X G vMOST_ROWS
  have c_SHOWN_BELOW := PySem.W.mg_of X G vSHOWN_BELOW
  have c_MOST_CELLS := PySem.W.mg_of X G vMOST_CELLS
  have c_MOST_THREADS := PySem.W.mg_of X G vMOST_THREADS
  have m_CE := PySem.W.mg_of X G aE
  have cM : ClsFn K CE "__init__" f50 := ⟨gaE, rdE, a50⟩
  have m_CN := PySem.W.mg_of X G gCN
  have oCN : OexC K CN := ⟨⟨_, _, _, _, _, _, _, _, _, _, _, _, _, _, _, xCN, refs_S⟩, saCN, ec_sub xCN (has_base _), ec_type xCN, kpCN⟩
  have m_CB := PySem.W.mg_of X G gCB
  have oCB : OexC K CB := ⟨⟨_, _, _, _, _, _, _, _, _, _, _, _, _, _, _, xCB, refs_S⟩, saCB, ec_sub xCB (has_base _), ec_type xCB, kpCB⟩
  have m_C := PySem.W.mg_of X G gC
  have cC : Cls K C := ⟨pgC, hdC, poC, saC⟩
  have mk_C : Mk K C f38 := ⟨mkC, a38, is38, kcC⟩
  have m_CF := PySem.W.mg_of X G gCF
  have cCF : Cls K CF := ⟨pgCF, hdCF, poCF, saCF⟩
  have mk_CF : Mk K CF f41 := ⟨mkCF, a41, is41, kcCF⟩
  refine ⟨PySem.W.fnOf "law" "law" (defArgs sLaw) (defBody sLaw) (defScope sLaw) .none kV37 dc37 pm37 an37 cd37 ct37, fun s v => .of_eq rfl, fun base _ _ => ?_⟩
  have G_shown := ok_shown (P := P) (w := w) (base := base) F0 n_isinstance n_str n_int n_abs c_SHOWN_BELOW
  have GE := ok_cellinit (P := P) (w := w) (base := base) FE G_shown g0 k0 b0 n_ValueError vV
  have GN := ok_notinit (P := P) (w := w) (base := base) (C := CN) F49 G_shown g0 k0 b0 GE m_CE cM k50 bE nfCN
  have GB := ok_badinit (P := P) (w := w) (base := base) (C := CB) F48 G_shown g0 k0 b0 GE m_CE cM k50 bE nfCB
  have G_is_list := ok_listG (P := P) (w := w) (base := base) F1 n_isinstance n_list n_tuple
  have G_is_whole := ok_wholeG (P := P) (w := w) (base := base) F2 n_isinstance n_int n_bool
  have G_is_number := ok_numG (P := P) (w := w) (base := base) F4 G_is_whole g2 k2 b2
  have G_is_name := ok_nameG (P := P) (w := w) (base := base) F3 n_isinstance n_str n_len
  have G_are_cases := ok_casesG (P := P) (w := w) (base := base) F5 G_is_whole g2 k2 b2 G_is_number g4 k4 b4 n_isinstance n_dict n_all
  have G_is_row := ok_rowG (P := P) (w := w) (base := base) F6 G_is_list g1 k1 b1 G_is_whole g2 k2 b2 G_is_name g3 k3 b3 G_is_number g4 k4 b4 G_are_cases g5 k5 b5 n_isinstance n_str n_len
  have G_copied := ok_copied (P := P) (w := w) (base := base) F7 n_tuple n_sorted
  have G_followers := ok_followers (P := P) (w := w) (base := base) F8 n_list
  have G_wrong_row := ok_wrongG (P := P) (w := w) (base := base) F13 G_is_list g1 k1 b1 G_is_row g6 k6 b6 n_len n_enumerate c_FEWEST_ROWS c_MOST_ROWS
  have G_is_once := ok_isonce (P := P) (w := w) (base := base) F14 G_followers g8 k8 b8 n_set
  have TT : TxtP K mg C CN f49 := ⟨cC, nRC_rows, m_CN, oCN, a49, ty49, nfCN⟩
  have TB : TxtB K mg CB f48 := ⟨m_CB, oCB, a48, ty48⟩
  have GI := ok_proginit (P := P) (w := w) (base := base) F38 TT TB GB b48 GN b49 G_wrong_row g13 k13 b13 G_copied g7 k7 b7 G_is_once g14 k14 b14 n_tuple n_enumerate
  have GPR := ok_progrows (P := P) (w := w) (base := base) F39 cC nRC_rows G_copied g7 k7 b7
  have GPU := ok_progused (P := P) (w := w) (base := base) F40 cC nRC_rows n_sorted
  have G_are_cells := ok_arecells (P := P) (w := w) (base := base) F15 G_is_list g1 k1 b1 G_is_name g3 k3 b3 c_MOST_CELLS n_len n_set n_all
  have iC : IsC K C := ⟨cC, icA, icG, icT, icO, kit_own⟩
  have G_fits := ok_fits (P := P) (w := w) (base := base) F16 iC m_C ⟨a40, is40, k40⟩ GPU b40 n_isinstance n_all
  have G_are_programs := ok_areprograms (P := P) (w := w) (base := base) F17 G_is_list g1 k1 b1 G_fits g16 k16 b16 c_MOST_THREADS n_len n_all
  have TF : TxtF K CF := ⟨cCF, nRCF_cells, nRCF_programs, nRCF_tables⟩
  have GFI := ok_fieldinit (P := P) (w := w) (base := base) F41 TF cC G_are_cells g15 k15 b15 G_are_programs g17 k17 b17 ⟨a39, is39, k39⟩ GPR b39 n_tuple n_sorted
  have GFL := ok_fieldlen (P := P) (w := w) (base := base) F42 TF n_len
  have GFS := ok_fieldstart (P := P) (w := w) (base := base) F43 TF n_tuple
  have GFP := ok_fieldstep (P := P) (w := w) (base := base) F44 TF n_tuple n_list
  have GFD := ok_fieldstanding (P := P) (w := w) (base := base) F45 TF n_zip
  have GFW := ok_fieldwriting (P := P) (w := w) (base := base) F46 TF ⟨a45, is45, k45⟩ GFD b45 n_enumerate
  have GFR := ok_fieldresting (P := P) (w := w) (base := base) F47 TF ⟨a45, is45, k45⟩ GFD b45 n_enumerate
  have G_wrong_index := ok_wrongix (P := P) (w := w) (base := base) F9 G_is_list g1 k1 b1 G_is_number g4 k4 b4 GFL b42 a42 is42 n_len n_enumerate
  have G_check_runs := ok_checkruns (P := P) (w := w) (base := base) F10 G_wrong_index g9 k9 b9
  have G_after := ok_after (P := P) (w := w) (base := base) F11 TF G_check_runs g10 k10 b10 ⟨a43, is43, k43⟩ GFS b43 ⟨a44, is44, k44⟩ GFP b44 n_tuple
  have G_is_cover := ok_iscover (P := P) (w := w) (base := base) F12 TF G_is_number g4 k4 b4 G_check_runs g10 k10 b10 G_after g11 k11 b11 ⟨a46, is46, k46⟩ GFW b46 ⟨a47, is47, k47⟩ GFR b47 GFL b42 a42 is42 n_len n_range n_any n_set
  have G__law_source := ok_source (P := P) (w := w) (base := base) F18 n_int
  have G__law_draw := ok_draw (P := P) (w := w) (base := base) F19 n_int
  have G__law_pick := ok_pick (P := P) (w := w) (base := base) F20 G__law_draw g19 k19 b19 n_len
  have G__law_subset := ok_subset (P := P) (w := w) (base := base) F21 G__law_draw g19 k19 b19
  have G__law_name := ok_name (P := P) (w := w) (base := base) F22 G__law_draw g19 k19 b19 n_range
  have G__law_names := ok_names (P := P) (w := w) (base := base) F23 G__law_name g22 k22 b22 n_range
  have G__law_any_row := ok_anyrow (P := P) (w := w) (base := base) F24 G__law_draw g19 k19 b19 G__law_pick g20 k20 b20 G__law_subset g21 k21 b21 n_dict
  have G__law_rows := ok_rows (P := P) (w := w) (base := base) F25 G__law_draw g19 k19 b19 G__law_any_row g24 k24 b24 n_len n_range
  have G__law_doubled := ok_doubled (P := P) (w := w) (base := base) F31 n_len n_range n_dict
  have G__law_threads := ok_threads (P := P) (w := w) (base := base) F32 G__law_draw g19 k19 b19 G__law_rows g25 k25 b25 G__law_doubled g31 k31 b31 n_range
  have G__law_plain_step := ok_plain (P := P) (w := w) (base := base) F26 n_list
  have G__law_start := ok_start (P := P) (w := w) (base := base) (mg := mg) F27
  have G__law_at := ok_at (P := P) (w := w) (base := base) F29 n_len n_range
  have G__law_walk := ok_walk (P := P) (w := w) (base := base) F28 G__law_plain_step g26 k26 b26
  have GX := ok_walkX (P := P) (w := w) (base := base) F28 G__law_plain_step g26 k26 b26
  have G__law_covers := ok_covers (P := P) (w := w) (base := base) F30 G__law_walk g28 k28 b28 G__law_start g27 k27 b27 G__law_at g29 k29 b29 n_len n_range n_list n_set
  have G__law_made := ok_made (P := P) (w := w) (base := base) F33 mk_C m_C GI b38 mk_CF m_CF GFI b41
  have G__law_onebit := ok_onebit (P := P) (w := w) (base := base) F34 n_len n_range
  have G__law_until := ok_until (P := P) (w := w) (base := base) F35 GX g28 k28 b28 G__law_start g27 k27 b27 G__law_plain_step g26 k26 b26 n_range n_list
  have G__law_pair := ok_pair (P := P) (w := w) (base := base) F36 G__law_until g35 k35 b35 G__law_draw g19 k19 b19 n_len n_range
  exact ok_law (P := P) (w := w) (base := base) F37 G__law_source g18 k18 b18 G__law_draw g19 k19 b19 G__law_names g23 k23 b23 G__law_onebit g34 k34 b34 G__law_threads g32 k32 b32 G__law_made g33 k33 b33 G__law_pair g36 k36 b36 G_is_cover g12 k12 b12 G__law_covers g30 k30 b30 n_range n_len n_tuple n_sorted
end CC

set_option Elab.async false
set_option maxRecDepth 100000
namespace CC
open PySem L2
theorem walk {l : PySem.W.OpenLaw} {q : Program} {loose : List Str} {XP : (Str → Option Value) → Heap → Prop} {YP : World → Heap → Prop} {d : DefRec} {K : Params → PySem.W.Frag} (hn : l.most = some 63) (hdf : d.params.defaults = [])
    (hY : ∀ (w : World) (h : Heap), YP w h → (K w.params).In h)
    (F : ∀ (w : World) (mg : Str → Option Value) (fa : Addr) (h : Heap), (K w.params).In h → h.Ns mainGlobals mg → mg d.name = some (.ref fa) →
      ∃ fd : FuncData, (∀ (s : Shared) (u : Value), BindsTo s fd ⟨[u], []⟩ [("_law_script", u)]) ∧ ∀ base : Heap, (K w.params).In base → base.Ns mainGlobals mg → FnOk l.prog w (K w.params) mg base CX0 9 fa fd ["_law_script"] (spLaw (K w.params))) :
    PySem.W.WalkO q loose XP YP l.row.toRowW d [] (fun f vs => PySem.call f vs) :=
  L2.walk_of (n := 63) (k := 9) (x := "_law_script") (CX := fun _ => CX0) (sp := fun w => spLaw (K w.params)) hn (by decide) hdf ⟨rfl, by decide, by decide⟩ hY F (fun _ _ a ns hl _ hS => ⟨a, ns, rfl, hS, fun _ => rfl⟩) fun _ _ _ _ _ z => z
end CC
open PySem PySem.W PyProof.Rows
set_option maxRecDepth 100000 in
set_option maxHeartbeats 0 in
theorem PySem.Challenge.cw_coveredcells_k13_covers_judged_holds : PySem.Challenge.rw_coveredcells_k13_covers_judged.Holds := by
  w_on; o_law; k_head; (case hw => w_witness2)
  k_fill
  refine CC.walk (l := PySem.Challenge.rw_coveredcells_k13_covers_judged) rfl rfl (fun w h Y => PySem.W.kIn_of Y) ?F
  case F =>
    intro w mg fa h KX G hmg
    refine' CC.all_mk KX G hmg ?ha0 ?hl0 ?hc0 ?hk0 ?ha1 ?hl1 ?hc1 ?hk1 ?ha2 ?hl2 ?hc2 ?hk2 ?ha3 ?hl3 ?hc3 ?hk3 ?ha4 ?hl4 ?hc4 ?hk4 ?ha5 ?hl5 ?hc5 ?hk5 ?ha6 ?hl6 ?hc6 ?hk6 ?ha7 ?hl7 ?hc7 ?hk7 ?ha8 ?hl8 ?hc8 ?hk8 ?ha9 ?hl9 ?hc9 ?hk9 ?ha10 ?hl10 ?hc10 ?hk10 ?ha11 ?hl11 ?hc11 ?hk11 ?ha12 ?hl12 ?hc12 ?hk12 ?ha13 ?hl13 ?hc13 ?hk13 ?ha14 ?hl14 ?hc14 ?hk14 ?ha15 ?hl15 ?hc15 ?hk15 ?ha16 ?hl16 ?hc16 ?hk16 ?ha17 ?hl17 ?hc17 ?hk17 ?ha18 ?hl18 ?hc18 ?hk18 ?ha19 ?hl19 ?hc19 ?hk19 ?ha20 ?hl20 ?hc20 ?hk20 ?ha21 ?hl21 ?hc21 ?hk21 ?ha22 ?hl22 ?hc22 ?hk22 ?ha23 ?hl23 ?hc23 ?hk23 ?ha24 ?hl24 ?hc24 ?hk24 ?ha25 ?hl25 ?hc25 ?hk25 ?ha26 ?hl26 ?hc26 ?hk26 ?ha27 ?hl27 ?hc27 ?hk27 ?ha28 ?hl28 ?hc28 ?hk28 ?ha29 ?hl29 ?hc29 ?hk29 ?ha30 ?hl30 ?hc30 ?hk30 ?ha31 ?hl31 ?hc31 ?hk31 ?ha32 ?hl32 ?hc32 ?hk32 ?ha33 ?hl33 ?hc33 ?hk33 ?ha34 ?hl34 ?hc34 ?hk34 ?ha35 ?hl35 ?hc35 ?hk35 ?ha36 ?hl36 ?hc36 ?hk36 ?ha37 ?hl37 ?hc37 ?hk37 ?ha38 ?hl38 ?hc38 ?hk38 ?ha39 ?hl39 ?hc39 ?hk39 ?ha40 ?hl40 ?hc40 ?hk40 ?ha41 ?hl41 ?hc41 ?hk41 ?ha42 ?hl42 ?hc42 ?hk42 ?ha43 ?hl43 ?hc43 ?hk43 ?ha44 ?hl44 ?hc44 ?hk44 ?ha45 ?hl45 ?hc45 ?hk45 ?ha46 ?hl46 ?hc46 ?hk46 ?ha47 ?hl47 ?hc47 ?hk47 ?ha48 ?hl48 ?hc48 ?hk48 ?ha49 ?hl49 ?hc49 ?hk49 ?ha50 ?hl50 ?hc50 ?hk50 ?hlT ?haE ?hgaE ?hrdE ?hvV ?hgCN ?hxCN ?hsaCN ?hkpCN ?hgaCN ?hggCN ?hnfCN ?hgCB ?hxCB ?hsaCB ?hkpCB ?hgaCB ?hggCB ?hnfCB ?hgC ?hpgC ?hhdC ?hpoC ?hsaC ?hmkC ?hkcC ?hnRC_rows ?his38 ?his39 ?his40 ?hgCF ?hpgCF ?hhdCF ?hpoCF ?hsaCF ?hmkCF ?hkcCF ?hnRCF_cells ?hnRCF_programs ?hnRCF_tables ?his41 ?his42 ?his43 ?his44 ?his45 ?his46 ?his47 ?hvFEWEST_ROWS ?hvMOST_ROWS ?hvSHOWN_BELOW ?hvMOST_CELLS ?hvMOST_THREADS ?hz0 ?hz1 ?hz2 ?hz3 ?hz4 ?hz5 ?hz6 ?hz7 ?hz8 ?hz9 ?hz10 ?hz11 ?hz12 ?hz13 ?hz14 ?hz15 ?hz16 ?hnd ?hty38 ?hty39 ?hty40 ?hty41 ?hty42 ?hty43 ?hty44 ?hty45 ?hty46 ?hty47 ?hty48 ?hty49 ?hicA ?hicG ?hicT ?hicO ?hlTA
    (case ha0 => k_is)
    (case ha1 => k_is)
    (case ha2 => k_is)
    (case ha3 => k_is)
    (case ha4 => k_is)
    (case ha5 => k_is)
    (case ha6 => k_is)
    (case ha7 => k_is)
    (case ha8 => k_is)
    (case ha9 => k_is)
    (case ha10 => k_is)
    (case ha11 => k_is)
    (case ha12 => k_is)
    (case ha13 => k_is)
    (case ha14 => k_is)
    (case ha15 => k_is)
    (case ha16 => k_is)
    (case ha17 => k_is)
    (case ha18 => k_is)
    (case ha19 => k_is)
    (case ha20 => k_is)
    (case ha21 => k_is)
    (case ha22 => k_is)
    (case ha23 => k_is)
    (case ha24 => k_is)
    (case ha25 => k_is)
    (case ha26 => k_is)
    (case ha27 => k_is)
    (case ha28 => k_is)
    (case ha29 => k_is)
    (case ha30 => k_is)
    (case ha31 => k_is)
    (case ha32 => k_is)
    (case ha33 => k_is)
    (case ha34 => k_is)
    (case ha35 => k_is)
    (case ha36 => k_is)
    (case ha37 => k_is)
    (case haE => k_is)
    (case hgCN => k_is)
    (case hgCB => k_is)
    (case hgC => k_is)
    (case hgCF => k_is)
    (case hvFEWEST_ROWS => k_is)
    (case hvMOST_ROWS => k_is)
    (case hvSHOWN_BELOW => k_is)
    (case hvMOST_CELLS => k_is)
    (case hvMOST_THREADS => k_is)
    (case hz0 => k_is)
    (case hz1 => k_is)
    (case hz2 => k_is)
    (case hz3 => k_is)
    (case hz4 => k_is)
    (case hz5 => k_is)
    (case hz6 => k_is)
    (case hz7 => k_is)
    (case hz8 => k_is)
    (case hz9 => k_is)
    (case hz10 => k_is)
    (case hz11 => k_is)
    (case hz12 => k_is)
    (case hz13 => k_is)
    (case hz14 => k_is)
    (case hz15 => k_is)
    (case hz16 => k_is)
    (case hl0 => k_is)
    (case hc0 => k_is)
    (case hk0 => k_is)
    (case hl1 => k_is)
    (case hc1 => k_is)
    (case hk1 => k_is)
    (case hl2 => k_is)
    (case hc2 => k_is)
    (case hk2 => k_is)
    (case hl3 => k_is)
    (case hc3 => k_is)
    (case hk3 => k_is)
    (case hl4 => k_is)
    (case hc4 => k_is)
    (case hk4 => k_is)
    (case hl5 => k_is)
    (case hc5 => k_is)
    (case hk5 => k_is)
    (case hl6 => k_is)
    (case hc6 => k_is)
    (case hk6 => k_is)
    (case hl7 => k_is)
    (case hc7 => k_is)
    (case hk7 => k_is)
    (case hl8 => k_is)
    (case hc8 => k_is)
    (case hk8 => k_is)
    (case hl9 => k_is)
    (case hc9 => k_is)
    (case hk9 => k_is)
    (case hl10 => k_is)
    (case hc10 => k_is)
    (case hk10 => k_is)
    (case hl11 => k_is)
    (case hc11 => k_is)
    (case hk11 => k_is)
    (case hl12 => k_is)
    (case hc12 => k_is)
    (case hk12 => k_is)
    (case hl13 => k_is)
    (case hc13 => k_is)
    (case hk13 => k_is)
    (case hl14 => k_is)
    (case hc14 => k_is)
    (case hk14 => k_is)
    (case hl15 => k_is)
    (case hc15 => k_is)
    (case hk15 => k_is)
    (case hl16 => k_is)
    (case hc16 => k_is)
    (case hk16 => k_is)
    (case hl17 => k_is)
    (case hc17 => k_is)
    (case hk17 => k_is)
    (case hl18 => k_is)
    (case hc18 => k_is)
    (case hk18 => k_is)
    (case hl19 => k_is)
    (case hc19 => k_is)
    (case hk19 => k_is)
    (case hl20 => k_is)
    (case hc20 => k_is)
    (case hk20 => k_is)
    (case hl21 => k_is)
    (case hc21 => k_is)
    (case hk21 => k_is)
    (case hl22 => k_is)
    (case hc22 => k_is)
    (case hk22 => k_is)
    (case hl23 => k_is)
    (case hc23 => k_is)
    (case hk23 => k_is)
    (case hl24 => k_is)
    (case hc24 => k_is)
    (case hk24 => k_is)
    (case hl25 => k_is)
    (case hc25 => k_is)
    (case hk25 => k_is)
    (case hl26 => k_is)
    (case hc26 => k_is)
    (case hk26 => k_is)
    (case hl27 => k_is)
    (case hc27 => k_is)
    (case hk27 => k_is)
    (case hl28 => k_is)
    (case hc28 => k_is)
    (case hk28 => k_is)
    (case hl29 => k_is)
    (case hc29 => k_is)
    (case hk29 => k_is)
    (case hl30 => k_is)
    (case hc30 => k_is)
    (case hk30 => k_is)
    (case hl31 => k_is)
    (case hc31 => k_is)
    (case hk31 => k_is)
    (case hl32 => k_is)
    (case hc32 => k_is)
    (case hk32 => k_is)
    (case hl33 => k_is)
    (case hc33 => k_is)
    (case hk33 => k_is)
    (case hl34 => k_is)
    (case hc34 => k_is)
    (case hk34 => k_is)
    (case hl35 => k_is)
    (case hc35 => k_is)
    (case hk35 => k_is)
    (case hl36 => k_is)
    (case hc36 => k_is)
    (case hk36 => k_is)
    (case hl37 => k_is)
    (case hc37 => k_is)
    (case hk37 => k_is)
    (case ha38 => k_is)
    (case hl38 => k_is)
    (case hc38 => k_is)
    (case hk38 => k_is)
    (case ha39 => k_is)
    (case hl39 => k_is)
    (case hc39 => k_is)
    (case hk39 => k_is)
    (case ha40 => k_is)
    (case hl40 => k_is)
    (case hc40 => k_is)
    (case hk40 => k_is)
    (case ha41 => k_is)
    (case hl41 => k_is)
    (case hc41 => k_is)
    (case hk41 => k_is)
    (case ha42 => k_is)
    (case hl42 => k_is)
    (case hc42 => k_is)
    (case hk42 => k_is)
    (case ha43 => k_is)
    (case hl43 => k_is)
    (case hc43 => k_is)
    (case hk43 => k_is)
    (case ha44 => k_is)
    (case hl44 => k_is)
    (case hc44 => k_is)
    (case hk44 => k_is)
    (case ha45 => k_is)
    (case hl45 => k_is)
    (case hc45 => k_is)
    (case hk45 => k_is)
    (case ha46 => k_is)
    (case hl46 => k_is)
    (case hc46 => k_is)
    (case hk46 => k_is)
    (case ha47 => k_is)
    (case hl47 => k_is)
    (case hc47 => k_is)
    (case hk47 => k_is)
    (case ha48 => k_is)
    (case hl48 => k_is)
    (case hc48 => k_is)
    (case hk48 => k_is)
    (case ha49 => k_is)
    (case hl49 => k_is)
    (case hc49 => k_is)
    (case hk49 => k_is)
    (case ha50 => k_is)
    (case hl50 => k_is)
    (case hc50 => k_is)
    (case hk50 => k_is)
    (case hlT => k_is)
    (case hgaE => k_is)
    (case hrdE => k_is)
    (case hvV => k_is)
    (case hxCN => k_is)
    (case hsaCN => k_is)
    (case hkpCN => k_is)
    (case hgaCN => k_is)
    (case hggCN => k_is)
    (case hnfCN => k_is)
    (case hxCB => k_is)
    (case hsaCB => k_is)
    (case hkpCB => k_is)
    (case hgaCB => k_is)
    (case hggCB => k_is)
    (case hnfCB => k_is)
    (case hpgC => k_is)
    (case hhdC => k_is)
    (case hpoC => k_is)
    (case hsaC => k_is)
    (case hmkC => k_is)
    (case hkcC => k_is)
    (case hnRC_rows => k_is)
    (case his38 => k_is)
    (case his39 => k_is)
    (case his40 => k_is)
    (case hpgCF => k_is)
    (case hhdCF => k_is)
    (case hpoCF => k_is)
    (case hsaCF => k_is)
    (case hmkCF => k_is)
    (case hkcCF => k_is)
    (case hnRCF_cells => k_is)
    (case hnRCF_programs => k_is)
    (case hnRCF_tables => k_is)
    (case his41 => k_is)
    (case his42 => k_is)
    (case his43 => k_is)
    (case his44 => k_is)
    (case his45 => k_is)
    (case his46 => k_is)
    (case his47 => k_is)
    (case hty38 => k_is)
    (case hty39 => k_is)
    (case hty40 => k_is)
    (case hty41 => k_is)
    (case hty42 => k_is)
    (case hty43 => k_is)
    (case hty44 => k_is)
    (case hty45 => k_is)
    (case hty46 => k_is)
    (case hty47 => k_is)
    (case hty48 => k_is)
    (case hty49 => k_is)
    (case hicA => k_is)
    (case hicG => k_is)
    (case hicT => k_is)
    (case hicO => k_is)
    (case hlTA => k_is)
    (case hnd => decide)
