import PyProof.Rows.All
import Wide.All
import OpenK.AllK
import Wide.FinOn
import HandS.ForMost
import HandS.TupAny
import HandS.TupMul
import HandS.IsInst
import HandS.Codes
import PySem.Challenge.RW_jointhands_k01_talks_that_are_held
set_option Elab.async false
set_option maxRecDepth 100000
namespace V1
open PySem L2
def top (i : Nat) : Stmt := PySem.Challenge.pw_jointhands_k01_talks_that_are_held.main.body.getD i (.Pass ⟨0, 0, 0, 0⟩)
abbrev sHold : Stmt := top 1
abbrev sDraws : Stmt := top 3
abbrev sTake : Stmt := top 4
abbrev sBits : Stmt := top 5
abbrev sTree : Stmt := top 6
abbrev sTalk : Stmt := top 7
abbrev sHeld : Stmt := top 8
abbrev sSame : Stmt := top 9
abbrev sGreat : Stmt := top 10
abbrev sDeep : Stmt := top 11
abbrev sAll : Stmt := top 12
abbrev sLaw : Stmt := top 13
/-! ### heaps -/
def Ext (h : Addr) (H H' : Hp) : Prop := ∀ b o, b ≠ h → H b = some o → H' b = some o
theorem Ext.refl (h : Addr) (H : Hp) : Ext h H H := fun _ _ _ e => e
theorem Ext.trans {h : Addr} {H H1 H2 : Hp} (a : Ext h H H1) (b : Ext h H1 H2) : Ext h H H2 := fun c o n e => b c o n (a c o n e)
theorem ext_of_same {h : Addr} {H H' : Hp} (s : Same H H') : Ext h H H' := fun b o _ e => s b o e
theorem same_new {H : Hp} {p : Addr} (h : H p = none) (o : HO) : Same H (upd H p o) := fun b u q => by rw [upd_ne (ne_of_none q h)]; exact q
theorem ext_new {h : Addr} {H : Hp} {p : Addr} (hp : H p = none) (o : HO) : Ext h H (upd H p o) := ext_of_same (same_new hp o)
theorem ext_at (h : Addr) (H : Hp) (o : HO) : Ext h H (upd H h o) := fun b u n e => by rw [upd_ne n]; exact e
theorem Ext.free {h : Addr} {H H' : Hp} (e : Ext h H H') {l : Addr} (n : l ≠ h) (q : H' l = none) : H l = none := by
  cases z : H l with
  | none => rfl
  | some o =>
    rw [e l o n z] at q
    cases q
theorem Ext.seq {K : PySem.W.Frag} {h : Addr} {H H' : Hp} {a : Addr} {xs : List V} (e : Ext h H H') (n : a ≠ h) (q : SqL K H a xs) : SqL K H' a xs := by
  rcases q with (q | ⟨o, q⟩) | q
  · exact .inl (.inl (e _ _ n q))
  · exact .inl (.inr ⟨o, e _ _ n q⟩)
  · exact .inr q
theorem seqT {K : PySem.W.Frag} {H H' : Hp} {a : Addr} {xs : List V} (e : Same H H') (h : SqT K H a xs) : SqT K H' a xs := by
  rcases h with (h | ⟨o, h⟩) | h
  · exact .inl (.inl (e _ _ h))
  · exact .inl (.inr ⟨o, e _ _ h⟩)
  · exact .inr h
/-- the hand: a list of the draws' list and of how many have been taken -/
def HandOk (h d : Addr) (H : Hp) : Prop := d ≠ h ∧ (∃ n : Int, 0 ≤ n ∧ H h = some (.lst [.ref d, .int n])) ∧ ∃ ds : List Int, H d = some (.lst (ds.map V.int))
theorem HandOk.ne {h d p : Addr} {H : Hp} (k : HandOk h d H) (q : H p = none) : p ≠ h := by
  obtain ⟨_, ⟨n, _, e⟩, _⟩ := k
  intro z
  rw [z, e] at q
  cases q
theorem HandOk.ne2 {h d p : Addr} {H : Hp} (k : HandOk h d H) (q : H p = none) : p ≠ d := by
  obtain ⟨_, _, ds, e⟩ := k
  intro z
  rw [z, e] at q
  cases q
theorem HandOk.put {h d p : Addr} {H : Hp} (k : HandOk h d H) (n1 : p ≠ h) (n2 : p ≠ d) (o : HO) : HandOk h d (upd H p o) := by
  obtain ⟨nd, ⟨n, n0, e⟩, ds, q⟩ := k
  exact ⟨nd, ⟨n, n0, (upd_ne n1.symm).trans e⟩, ds, (upd_ne n2.symm).trans q⟩
theorem HandOk.same {h d : Addr} {H H' : Hp} (k : HandOk h d H) (s : Same H H') : HandOk h d H' := by
  obtain ⟨nd, ⟨n, n0, e⟩, ds, q⟩ := k
  exact ⟨nd, ⟨n, n0, s _ _ e⟩, ds, s _ _ q⟩
theorem HandOk.new {h d p : Addr} {H : Hp} (k : HandOk h d H) (q : H p = none) (o : HO) : HandOk h d (upd H p o) := k.put (k.ne q) (k.ne2 q) o
theorem HandOk.tup {K : PySem.W.Frag} {h d : Addr} {H H' : Hp} {a : Addr} {xs : List V} (k : HandOk h d H) (e : Ext h H H') (q : SqT K H a xs) : SqT K H' a xs := by
  obtain ⟨_, ⟨n, _, z⟩, _⟩ := k
  rcases q with (q | ⟨o, q⟩) | q
  · exact .inl (.inl (e _ _ (fun u => by rw [u, z] at q; cases q) q))
  · exact .inl (.inr ⟨o, e _ _ (fun u => by rw [u, z] at q; cases q) q⟩)
  · exact .inr q
theorem atI_ints {ds : List Int} {n : Int} (h0 : 0 ≤ n) (h1 : n < (ds.length : Int)) : ∃ v, atI (ds.map V.int) n = some (.int v) := by
  obtain ⟨j, rfl⟩ := Int.eq_ofNat_of_zero_le h0
  have hn : j < ds.length := by omega
  exact ⟨ds[j], atI_nat (by rw [List.getElem?_map, List.getElem?_eq_getElem hn] <;> rfl)⟩
section
variable {P : Program} {w : World} {K : PySem.W.Frag} {mg : Str → Option Value} {base : Heap}
/-! ### taking a draw -/
def spTake (K : PySem.W.Frag) : Sp := fun vs H Q _ => ∃ (h d : Addr) (m : Int), vs = [.ref h, .int m] ∧ HandOk h d H ∧ 0 < m ∧
  ∀ (r : Int) (H' : Hp), 0 ≤ r → r < m → Ext h H H' → HandOk h d H' → Q (.int r) H'
theorem scTake : FnScope ["hand", "many", "at", "draws"] ["hand", "many"] (defScope sTake) := ⟨rfl, rfl, rfl, by decide +kernel, rfl, by decide +kernel, by decide +kernel⟩
theorem ok_take {f : Addr} {fd : FuncData} (F : Fun K "_law_take" "_law_take" sTake f fd) (ml : mg "len" = none) (mi : mg "int" = none) : FnOk P w K mg base CX0 1 f fd ["hand", "many"] (spTake K) := by
  refine F.ok scTake (fun vs H Q E h => ?_) (fun cdv A outer s H vs Q E hr h => ?_)
  · obtain ⟨h, d, m, rfl, _⟩ := h
    rfl
  obtain ⟨h, d, m, rfl, ⟨nd, ⟨n, n0, e⟩, ds, q⟩, m0, k⟩ := h
  refine ⟨_, pss_cons (ps_set (i := 2) scTake.nd rfl (Or.inl rfl) (pe_ix ix_list (pv 0) pe_int (fun _ _ => rfl)))
    (pss_cons (ps_asg (pe_op op_add (pv 2) pe_int) (pg_sub (pv 0) pe_int set_list))
    (pss_cons (ps_set (i := 3) scTake.nd rfl (Or.inl rfl) (pe_ix ix_list (pv 0) pe_int (fun _ _ => rfl)))
    (pss_cons (ps_if (pt_cmpR op_ge (pv 2) (pe_callB call_len_seq (by rfl) ml PySem.boot_len (pa_cons (pv 3) pa_nil)) (nomark _)) (pss_one (ps_ret pe_int)) pss_nil)
    (pss_one (ps_ret (pe_op op_mod (pe_op op_fdiv (pe_callTy call_int1 (by rfl) mi (by decide +kernel) (pa_cons (pe_ix ix_list (pv 3) (pv 2) (fun _ _ => rfl)) pa_nil)) pe_int) (pv 1))))))), ?_⟩
  refine ⟨_, rfl, h, _, _, _, rfl, rfl, SqL.of e, rfl, ?_⟩
  refine ⟨_, rfl, _, _, rfl, rfl, _, rfl, h, _, _, 1, rfl, rfl, e, rfl, ?_⟩
  have x1 : Ext h H (upd H h (.lst [.ref d, .int (n + 1)])) := ext_at _ _ _
  have e1 : (upd H h (.lst [.ref d, .int (n + 1)])) h = some (.lst [.ref d, .int (n + 1)]) := upd_same
  have q1 : SqL K (upd H h (.lst [.ref d, .int (n + 1)])) d (ds.map V.int) := SqL.of (x1 _ _ nd q)
  have k1 : HandOk h d (upd H h (.lst [.ref d, .int (n + 1)])) := ⟨nd, ⟨n + 1, by omega, e1⟩, ds, x1 _ _ nd q⟩
  refine ⟨_, rfl, h, _, _, _, rfl, rfl, SqL.of e1, rfl, ?_⟩
  refine ⟨_, rfl, _, rfl, d, _, rfl, .inl q1, _, _, rfl, rfl, _, rfl, ?_⟩
  refine ite2 (fun c => ?_) (fun c => ?_)
  · exact k 0 _ (Int.le_refl 0) m0 x1 k1
  · have c' : ¬ n ≥ (((ds.map V.int).length : Nat) : Int) := of_decide_eq_false (Bool.eq_false_iff.mpr c)
    rw [List.length_map] at c'
    obtain ⟨v, a1⟩ := atI_ints (ds := ds) n0 (by omega)
    refine ⟨_, rfl, _, rfl, d, _, _, _, rfl, rfl, q1, a1, .inl ⟨_, rfl, ?_⟩⟩
    refine ⟨_, _, rfl, rfl, ⟨by decide, by decide⟩, _, rfl, _, _, rfl, rfl, m0, ?_⟩
    exact k _ _ (Int.emod_nonneg _ (by omega)) (Int.emod_lt_of_pos _ m0) x1 k1
/-! ### the draws -/
theorem same_put {H H' : Hp} {p : Addr} {o : HO} (s : Same H H') (h : H p = none) : Same H (upd H' p o) := fun b u q => by rw [upd_ne (ne_of_none q h)]; exact s b u q
theorem put_int {H : Hp} {D : Addr} {ds : List Int} {x : Int} : (upd H D (.lst (ds.map V.int ++ [.int x]))) D = some (.lst ((ds ++ [x]).map V.int)) := by
  rw [upd_same, List.map_append]
  rfl
def spDraws (K : PySem.W.Frag) : Sp := fun vs H Q _ => ∃ (a : Addr) (ns : List Int) (m : Int), vs = [.ref a, .int m] ∧ SqL K H a (ns.map V.int) ∧ ns.length ≤ 63 ∧ 0 ≤ m ∧ m ≤ 1000 ∧
  ∀ (p : Addr) (ds : List Int) (H' : Hp), Same H H' → H p = none → H' p = some (.lst (ds.map V.int)) → Q (.ref p) H'
theorem scDraws : FnScope ["script", "many", "cell", "rests", "draws", "k", "at", "mixed"] ["script", "many"] (defScope sDraws) := ⟨rfl, rfl, rfl, by decide +kernel, rfl, by decide +kernel, by decide +kernel⟩
theorem ok_draws {f : Addr} {fd : FuncData} (F : Fun K "_law_draws" "_law_draws" sDraws f fd) (ml : mg "len" = none) (mi : mg "int" = none) (ma : mg "abs" = none) (mr : mg "range" = none) : FnOk P w K mg base CX0 1 f fd ["script", "many"] (spDraws K) := by
  refine F.ok scDraws (fun vs H Q E h => ?_) (fun cdv A outer s H vs Q E hr h => ?_)
  · obtain ⟨a, ns, m, rfl, _⟩ := h
    rfl
  obtain ⟨a, ns, m, rfl, hS, h63, m0, m1, k⟩ := h
  have nd := scDraws.nd
  refine ⟨_, pss_cons (ps_setLc (i := 3) (own := [("cell", 2)]) (g := gName 2) (tt := tYes) rfl nd rfl rfl (sw_true rfl rfl rfl (by decide +kernel)) (pi_list (pv 0)) (blkOk_by (by kernel_rfl))
      (fun _ _ _ _ _ => pg_name (i := 2) nd rfl (Or.inl rfl)) (fun _ _ _ _ _ => pts_nil)
      (fun _ _ _ _ _ => pe_callB call_abs (by rfl) ma (by decide +kernel) (pa_cons (pe_callTy call_int1 (by rfl) mi (by decide +kernel) (pa_cons (pv 2) pa_nil)) pa_nil)))
    (pss_cons (ps_set (i := 4) nd rfl (Or.inl rfl) (pe_lst pa_nil))
    (pss_cons (ps_for PassesOwn.never rfl (pi_range1 (by rfl) mr (pa_cons (pv 1) pa_nil)) (pg_name (i := 5) nd rfl (Or.inl rfl))
      (pss_cons (ps_set (i := 2) nd rfl (Or.inl rfl) (pv 5))
      (C8.pss_cut (ps_if (pt_cmpR op_gt (pe_callB call_len_seq (by rfl) ml PySem.boot_len (pa_cons (pv 0) pa_nil)) pe_int (nomark _))
          (pss_cons (ps_set (i := 6) nd rfl (Or.inl rfl) (pe_op op_mod (pv 5) (pe_callB call_len_seq (by rfl) ml PySem.boot_len (pa_cons (pv 0) pa_nil))))
          (pss_cons (ps_set (i := 2) nd rfl (Or.inl rfl) (pe_callTy call_int1 (by rfl) mi (by decide +kernel) (pa_cons (pe_ix ix_list (pv 0) (pv 6) (fun _ _ => rfl)) pa_nil)))
          (pss_one (ps_if (PW.pt (pw_and (pt_cmpR op_ge (pv 2) (pe_op op_pow pe_int pe_int) (nomark _)) (pw_and1 (pt_cmpR op_gt (pe_ix ix_list (pv 3) (pv 6) (fun _ _ => rfl)) pe_int (nomark _)))))
            (pss_cons (ps_expr (pe_bm PySem.F.plainAttrs_list PySem.F.slot_list_append PySem.F.type_list_append mt_append (pv 4) (pa_cons (pe_op op_mod (pe_callTy call_int1 (by rfl) mi (by decide +kernel) (pa_cons (pe_ix ix_list (pv 3) (pv 6) (fun _ _ => rfl)) pa_nil)) pe_int) pa_nil)))
            (pss_cons (ps_asg (pe_op op_fdiv (pe_callTy call_int1 (by rfl) mi (by decide +kernel) (pa_cons (pe_ix ix_list (pv 3) (pv 6) (fun _ _ => rfl)) pa_nil)) pe_int) (pg_sub (pv 3) (pv 6) set_list))
            (pss_one ps_continue))) pss_nil)))) pss_nil)
        (pss_cons (ps_set (i := 7) nd rfl (Or.inl rfl) (pe_op op_mod (pe_callTy call_int1 (by rfl) mi (by decide +kernel) (pa_cons (pe_op op_add (pe_op op_add (pe_op op_mul (pv 2) pe_int) (pe_op op_mul (pv 5) pe_int)) pe_int) pa_nil)) pe_int))
        (pss_cons (ps_set (i := 7) nd rfl (Or.inl rfl) (pe_op op_mod (pe_callTy call_int1 (by rfl) mi (by decide +kernel) (pa_cons (pe_op op_add (pe_op op_fdiv (pe_op op_mul (pv 7) (pv 7)) pe_int) (pv 7)) pa_nil)) pe_int))
        (pss_one (ps_expr (pe_bm PySem.F.plainAttrs_list PySem.F.slot_list_append PySem.F.type_list_append mt_append (pv 4) (pa_cons (pe_op op_mod (pe_callTy call_int1 (by rfl) mi (by decide +kernel) (pa_cons (pe_op op_add (pe_op op_fdiv (pe_op op_mul (pv 7) (pv 7)) pe_int) (pe_op op_mul (pv 5) pe_int)) pa_nil)) pe_int) pa_nil)))))))))
    (pss_one (ps_ret (pv 4))))), ?_⟩
  refine ⟨_, rfl, a, rfl, ⟨_, hS⟩, fun R nR => ?_⟩
  refine lc_list (K := K) (a := a) (xs := ns.map V.int) (fun i H' => ∃ rs : List Int, rs.length = i ∧ Same H H' ∧ H' R = some (.lst (rs.map V.int))) ⟨[], rfl, same_new nR _, upd_same⟩ (fun i H' _ ⟨_, _, g, _⟩ => g.seq hS) ?_ ?_
  · rintro i x H' hi ⟨rs, hl, g, hR⟩
    obtain ⟨hi1, hi2⟩ := List.getElem?_eq_some_iff.mp hi
    rw [List.length_map] at hi1
    rw [List.getElem_map] at hi2
    subst hi2
    refine ⟨rfl, _, rfl, .inl ⟨_, rfl, _, rfl, _, hR, ?_, rs ++ [if ns[i] < 0 then -ns[i] else ns[i]], ?_, same_put g nR, ?_⟩⟩
    · rw [List.length_map, hl]
      exact small1000 (by omega)
    · rw [List.length_append, hl]
      rfl
    · rw [upd_same, List.map_append]
      rfl
  · rintro H1 ⟨rs, hl, g1, hR⟩
    rw [List.length_map] at hl
    refine ⟨Nat.zero_le _, fun D nD => ?_⟩
    have nRD : R ≠ D := ne_of_none hR nD
    have D0 : H D = none := g1.free nD
    refine ⟨_, rfl, _, rfl, by omega, by omega, for_range (lo := 0) (n := m.toNat) (fun i σ H' => ∃ (c2 c5 c6 c7 : Option V) (rs ds : List Int), σ = [some (.ref a), some (.int m), c2, some (.ref R), some (.ref D), c5, c6, c7] ∧ Same H H' ∧
      H' R = some (.lst (rs.map V.int)) ∧ rs.length = ns.length ∧ H' D = some (.lst (ds.map V.int)) ∧ ds.length ≤ i) ?_ ?_ ?_⟩
    · exact ⟨_, _, _, _, rs, [], rfl, same_put g1 D0, (by rw [upd_ne nRD]; exact hR), hl, upd_same, Nat.le_refl _⟩
    · rintro i σ H' hi ⟨c2, c5, c6, c7, rs, ds, rfl, g, hR, hl, hD, hd⟩
      refine ⟨_, rfl, ?_⟩
      refine ⟨fun σ' H'' => ∃ (c : Int) (c6 c7 : Option V), σ' = [some (.ref a), some (.int m), some (.int c), some (.ref R), some (.ref D), some (.int (0 + i)), c6, c7] ∧ H'' = H', ?_, ?_⟩
      · refine ⟨_, rfl, a, _, rfl, .inl (g.seq hS), _, _, rfl, rfl, _, rfl, ?_⟩
        refine ite2 (fun c => ?_) (fun c => ?_)
        · have c' : (0 : Int) < (((ns.map V.int).length : Nat) : Int) := of_decide_eq_true c
          have c0 : (0 : Int) < (ns.length : Int) := by rw [List.length_map] at c'; exact c'
          refine ⟨_, rfl, _, rfl, a, _, rfl, .inl (g.seq hS), _, _, rfl, rfl, c', ?_⟩
          have p0 : 0 ≤ (0 + (i : Int)) % (((ns.map V.int).length : Nat) : Int) := Int.emod_nonneg _ (by omega)
          have p1 : (0 + (i : Int)) % (((ns.map V.int).length : Nat) : Int) < (ns.length : Int) := by
            have z := Int.emod_lt_of_pos (0 + (i : Int)) c'
            rw [List.length_map] at z
            rw [List.length_map]
            exact z
          obtain ⟨v, a1⟩ := atI_ints (ds := ns) p0 p1
          obtain ⟨u, a2⟩ := atI_ints (ds := rs) p0 (by omega)
          refine ⟨_, rfl, _, rfl, a, _, _, _, rfl, rfl, g.seq hS, a1, .inl ⟨_, rfl, ?_⟩⟩
          refine ⟨_, rfl, _, _, rfl, rfl, ⟨by decide, by decide, by decide⟩, _, _, rfl, rfl, _, rfl, ?_⟩
          refine ite2 (fun e => ?_) (fun e => ?_)
          · refine ⟨_, rfl, _, rfl, R, _, _, _, rfl, rfl, SqL.of hR, a2, _, _, rfl, rfl, _, rfl, ?_⟩
            refine ite2 (fun e => ?_) (fun e => ?_)
            · refine ⟨_, rfl, .inl ⟨rfl, _, SqL.of hD⟩, _, rfl, _, rfl, R, _, _, _, rfl, rfl, SqL.of hR, a2, .inl ⟨_, rfl, _, _, rfl, rfl, (by show (0 : Int) < 1000003; decide), ?_⟩⟩
              refine ⟨D, _, _, rfl, rfl, hD, ?_, ?_⟩
              · rw [List.length_map]
                exact small1000 (by omega)
              · have hR2 : (upd H' D (.lst (ds.map V.int ++ [.int (u % 1000003)]))) R = some (.lst (rs.map V.int)) := by rw [upd_ne nRD]; exact hR
                refine ⟨_, rfl, _, rfl, R, _, _, _, rfl, rfl, SqL.of hR2, a2, .inl ⟨_, rfl, _, _, rfl, rfl, ⟨by decide, by decide⟩, ?_⟩⟩
                obtain ⟨jj, ej⟩ := Int.eq_ofNat_of_zero_le p0
                refine ⟨_, rfl, _, rfl, R, _, _, jj, rfl, rfl, hR2, ?_, ?_⟩
                · unfold ixN
                  rw [if_pos p0, if_pos (by rw [show (rs.map V.int).length = ns.length by rw [List.length_map]; exact hl]; exact p1), ej]
                  rfl
                · refine ⟨_, _, _, _, rs.set jj (u / 1000003), ds ++ [u % 1000003], rfl, same_put (same_put g D0) nR, ?_, ?_, ?_, ?_⟩
                  · rw [upd_same, List.map_set]
                  · rw [List.length_set]
                    exact hl
                  · rw [upd_ne nRD.symm, upd_same, List.map_append]
                    rfl
                  · rw [List.length_append, List.length_singleton]
                    omega
            · exact ⟨_, _, _, rfl, rfl⟩
          · exact ⟨_, _, _, rfl, rfl⟩
        · exact ⟨_, _, _, rfl, rfl⟩
      · rintro σ' H'' ⟨c, c6, c7, rfl, rfl⟩
        refine ⟨_, rfl, _, _, rfl, rfl, .inr ⟨by decide, by decide⟩, _, rfl, _, _, rfl, rfl, .inr ⟨by decide, by decide⟩, _, _, rfl, rfl, _, _, rfl, rfl, .inl ⟨_, rfl, _, _, rfl, rfl, (by show (0 : Int) < 2147483647; decide), ?_⟩⟩
        have b1 := Int.emod_nonneg (c * 48271 + (0 + (i : Int)) * 69621 + 11) (show (2147483647 : Int) ≠ 0 by decide)
        have b2 := Int.emod_lt_of_pos (c * 48271 + (0 + (i : Int)) * 69621 + 11) (show (0 : Int) < 2147483647 by decide)
        refine ⟨_, rfl, _, rfl, _, _, rfl, rfl, .inl ⟨by omega, by omega⟩, _, _, rfl, rfl, ⟨by show (0 : Int) < 4096; decide, by show (4096 : Int) < 1073741824; decide⟩, _, rfl, _, _, rfl, rfl, .inl ⟨_, rfl, _, _, rfl, rfl, (by show (0 : Int) < 2147483629; decide), ?_⟩⟩
        have d1 := Int.emod_nonneg ((c * 48271 + (0 + (i : Int)) * 69621 + 11) % 2147483647 * ((c * 48271 + (0 + (i : Int)) * 69621 + 11) % 2147483647) / 4096 + (c * 48271 + (0 + (i : Int)) * 69621 + 11) % 2147483647) (show (2147483629 : Int) ≠ 0 by decide)
        have d2 := Int.emod_lt_of_pos ((c * 48271 + (0 + (i : Int)) * 69621 + 11) % 2147483647 * ((c * 48271 + (0 + (i : Int)) * 69621 + 11) % 2147483647) / 4096 + (c * 48271 + (0 + (i : Int)) * 69621 + 11) % 2147483647) (show (0 : Int) < 2147483629 by decide)
        generalize ((c * 48271 + (0 + (i : Int)) * 69621 + 11) % 2147483647 * ((c * 48271 + (0 + (i : Int)) * 69621 + 11) % 2147483647) / 4096 + (c * 48271 + (0 + (i : Int)) * 69621 + 11) % 2147483647) % 2147483629 = M at d1 d2
        refine ⟨_, rfl, .inl ⟨rfl, _, SqL.of hD⟩, _, rfl, _, rfl, _, _, rfl, rfl, .inl ⟨by omega, by omega⟩, _, _, rfl, rfl, ⟨by show (0 : Int) < 4096; decide, by show (4096 : Int) < 1073741824; decide⟩, _, rfl, _, _, rfl, rfl, .inr ⟨by decide, by decide⟩, _, _, rfl, rfl, .inl ⟨_, rfl, _, _, rfl, rfl, (by show (0 : Int) < 2147483629; decide), ?_⟩⟩
        refine ⟨D, _, _, rfl, rfl, hD, ?_, ?_⟩
        · rw [List.length_map]
          exact small1000 (by omega)
        · refine ⟨_, _, _, _, rs, _, rfl, same_put g D0, (by rw [upd_ne nRD]; exact hR), hl, put_int, ?_⟩
          rw [List.length_append, List.length_singleton]
          omega
    · rintro σ H' ⟨c2, c5, c6, c7, rs, ds, rfl, g, hR, hl, hD, hd⟩
      exact ⟨_, rfl, k D ds H' g D0 hD⟩
end
end V1
set_option Elab.async false
set_option maxRecDepth 100000
namespace V1
open PySem L2
/-! ### rules with the written part told (within a comprehension's block) -/
def rTupOf (K : PySem.W.Frag) : List V → Hp → VK → Prop := fun xs H Q => ∃ p ys, xs = [.ref p] ∧ ((SqL K H p ys ∧ ∀ l, H l = none → Q (.ref l) (upd H l (.tup ys))) ∨ (SqT K H p ys ∧ Q (.ref p) H))
theorem call_tup {X : Cx} {K : PySem.W.Frag} (e : X.K = K) : CallR X (.type "tuple") (rTupOf K) := by
  subst e
  exact call_tuple_of
theorem ix_tupK {X : Cx} {K : PySem.W.Frag} (e : X.K = K) : IxR X (rIxT K) := by
  subst e
  exact ix_tup
theorem ix_listK {X : Cx} {K : PySem.W.Frag} (e : X.K = K) : IxR X (rIxL K) := by
  subst e
  exact ix_list
/-! ### data on the heap -/
def RowAt (K : PySem.W.Frag) (H : Hp) (v : V) (ns : List Int) : Prop := ∃ a, v = .ref a ∧ SqT K H a (ns.map V.int)
def GridAt (K : PySem.W.Frag) (H : Hp) (v : V) (g : List (List Int)) : Prop := ∃ a vs, v = .ref a ∧ SqT K H a vs ∧ PySem.Paired (RowAt K H) vs g
/-- what was a tuple stays one -/
def TupKeep (K : PySem.W.Frag) (H H' : Hp) : Prop := ∀ a xs, SqT K H a xs → SqT K H' a xs
theorem tk_same {K : PySem.W.Frag} {H H' : Hp} (s : Same H H') : TupKeep K H H' := fun _ _ q => seqT s q
theorem tk_ext {K : PySem.W.Frag} {h d : Addr} {H H' : Hp} (k : HandOk h d H) (e : Ext h H H') : TupKeep K H H' := fun _ _ q => k.tup e q
theorem TupKeep.trans {K : PySem.W.Frag} {H H1 H2 : Hp} (a : TupKeep K H H1) (b : TupKeep K H1 H2) : TupKeep K H H2 := fun _ _ q => b _ _ (a _ _ q)
theorem RowAt.keep {K : PySem.W.Frag} {H H' : Hp} {v : V} {ns : List Int} (t : TupKeep K H H') (q : RowAt K H v ns) : RowAt K H' v ns := by
  obtain ⟨a, e, q⟩ := q
  exact ⟨a, e, t _ _ q⟩
theorem GridAt.keep {K : PySem.W.Frag} {H H' : Hp} {v : V} {g : List (List Int)} (t : TupKeep K H H') (q : GridAt K H v g) : GridAt K H' v g := by
  obtain ⟨a, vs, e, q, p⟩ := q
  exact ⟨a, vs, e, t _ _ q, L2.Paired.mapP p fun _ _ r => r.keep t⟩
/-- n rows of c numbers, of each of which P holds -/
def Gr (n c : Nat) (P : Int → Prop) (g : List (List Int)) : Prop := g.length = n ∧ ∀ r ∈ g, r.length = c ∧ ∀ x ∈ r, P x
section
variable {P : Program} {w : World} {K : PySem.W.Frag} {mg : Str → Option Value} {base : Heap}
def spBits (K : PySem.W.Frag) : Sp := fun vs H Q _ => ∃ (h d : Addr) (n c : Nat) (m : Int), vs = [.ref h, .int n, .int c, .int m] ∧ HandOk h d H ∧ n ≤ 1000 ∧ c ≤ 1000 ∧ 0 < m ∧
  ∀ (v : V) (g : List (List Int)) (H' : Hp), Ext h H H' → HandOk h d H' → GridAt K H' v g → Gr n c (fun x => 0 ≤ x ∧ x < m) g → Q v H'
theorem scBits : FnScope ["hand", "inputs", "coins", "most", "x", "r"] ["hand", "inputs", "coins", "most"] (defScope sBits) := ⟨rfl, rfl, rfl, by decide +kernel, rfl, by decide +kernel, by decide +kernel⟩
theorem ok_bits {f fT : Addr} {fd fdT : FuncData} (F : Fun K "_law_bits" "_law_bits" sBits f fd) (GT : FnOk P w K mg base CX0 1 fT fdT ["hand", "many"] (spTake K)) (bT : Binds K fdT ["hand", "many"] []) (kT : PySem.W.keepIn K (.ref fT) = true) (mT : mg "_law_take" = some (.ref fT)) (mt : mg "tuple" = none) (mr : mg "range" = none) :
    FnOk P w K mg base CX0 2 f fd ["hand", "inputs", "coins", "most"] (spBits K) := by
  refine F.ok scBits (fun vs H Q E h => ?_) (fun cdv A outer s H vs Q E hr h => ?_)
  · obtain ⟨h, d, n, c, m, rfl, _⟩ := h
    rfl
  obtain ⟨h, d, n, c, m, rfl, hk, n0, c0, m0, k⟩ := h
  have nd := scBits.nd
  refine ⟨_, pss_one (ps_ret (pe_callTy (call_tup (K := K) rfl) (by rfl) mt PyProof.Rows.boot_tuple (pa_cons (pe_lc (own := [("x", 4)]) (g := gName 4) (tt := tYes) rfl nd (pi_range1 (by rfl) mr (pa_cons (pv 1) pa_nil)) (blkOk_by (by kernel_rfl))
      (fun _ _ _ _ _ => pg_name (i := 4) nd rfl (Or.inl rfl)) (fun _ _ _ _ _ => pts_nil)
      (fun _ _ _ _ _ => pe_callTy (call_tup (K := K) rfl) (by rfl) mt PyProof.Rows.boot_tuple (pa_cons (pe_lc (own := [("r", 5)]) (g := gName 5) (tt := tYes) rfl nd (pi_range1 (by rfl) mr (pa_cons (pv 2) pa_nil)) (blkOk_by (by kernel_rfl))
        (fun _ _ _ _ _ => pg_name (i := 5) nd rfl (Or.inl rfl)) (fun _ _ _ _ _ => pts_nil)
        (fun _ _ _ _ _ => pe_call GT hr rfl mT kT bT .nil pass0 (pa_cons (pv 0) (pa_cons (pv 3) pa_nil)))) pa_nil))) pa_nil))), ?_⟩
  refine ⟨_, rfl, _, rfl, by omega, by omega, fun D nD => ?_⟩
  have nDh := hk.ne nD
  have nDd := hk.ne2 nD
  refine lc_range (lo := 0) (n := n) (fun i H' => ∃ (acc : List V) (g : List (List Int)), Ext h H H' ∧ HandOk h d H' ∧ H' D = some (.lst acc) ∧ Paired (RowAt K H') acc g ∧ Gr i c (fun x => 0 ≤ x ∧ x < m) g)
    ⟨[], [], ext_new nD _, hk.new nD _, upd_same, .nil, rfl, fun _ h => by cases h⟩ ?_ ?_
  · rintro i H1 hi ⟨acc, g, e1, k1, hD, pp, gl, gr⟩
    refine ⟨rfl, _, rfl, _, rfl, by omega, by omega, fun D2 nD2 => ?_⟩
    have n2h := k1.ne nD2
    have n2d := k1.ne2 nD2
    have n2D : D ≠ D2 := ne_of_none hD nD2
    refine lc_range (lo := 0) (n := c) (fun j H' => ∃ r : List Int, Ext h H1 H' ∧ HandOk h d H' ∧ H' D2 = some (.lst (r.map V.int)) ∧ r.length = j ∧ ∀ x ∈ r, 0 ≤ x ∧ x < m)
      ⟨[], ext_new nD2 _, k1.new nD2 _, upd_same, rfl, fun _ h => by cases h⟩ ?_ ?_
    · rintro j H2 hj ⟨r, e2, k2, hD2, rl, rr⟩
      refine ⟨rfl, _, rfl, _, rfl, h, d, m, rfl, k2, m0, fun x H3 x0 x1 e3 k3 => ?_⟩
      have hD3 := e3 _ _ n2h hD2
      refine ⟨_, hD3, ?_, r ++ [x], ?_, k3.put n2h n2d _, put_int, ?_, ?_⟩
      · rw [List.length_map, rl]
        exact small1000 (by omega)
      · exact fun b o nb eb => by
          rw [upd_ne (ne_of_none eb nD2)]
          exact e3 _ _ nb (e2 _ _ nb eb)
      · rw [List.length_append, rl]
        rfl
      · intro y hy
        rcases List.mem_append.mp hy with hy | hy
        · exact rr y hy
        · cases List.mem_singleton.mp hy
          exact ⟨x0, x1⟩
    · rintro H2 ⟨r, e2, k2, hD2, rl, rr⟩
      refine ⟨_, _, rfl, .inl ⟨SqL.of hD2, fun T nT => ?_⟩⟩
      have nTh := k2.ne nT
      have hDa := e2 _ _ nDh hD
      have nTD : D ≠ T := ne_of_none hDa nT
      have e13 : Ext h H1 (upd H2 T (.tup (r.map V.int))) := e2.trans (ext_new nT _)
      have kp : TupKeep K H1 (upd (upd H2 T (.tup (r.map V.int))) D (.lst (acc ++ [.ref T]))) := fun a xs q => by
        have q2 := k1.tup e13 q
        rcases q2 with (q2 | ⟨o, q2⟩) | q2
        · exact .inl (.inl (by rw [upd_ne (fun u => by rw [u, upd_ne nTD, hDa] at q2; cases q2)]; exact q2))
        · exact .inl (.inr ⟨o, by rw [upd_ne (fun u => by rw [u, upd_ne nTD, hDa] at q2; cases q2)]; exact q2⟩)
        · exact .inr q2
      refine ⟨acc, (upd_ne nTD).trans hDa, ?_, acc ++ [.ref T], g ++ [r], ?_, ?_, upd_same, ?_, ?_, ?_⟩
      · have z := Paired.length pp
        rw [z, gl]
        exact small1000 (by omega)
      · exact fun b o nb eb => by
          rw [upd_ne (ne_of_none eb nD)]
          exact e13 _ _ nb (e1 _ _ nb eb)
      · exact (k2.new nT _).put nDh nDd _
      · refine Paired.snoc (L2.Paired.mapP pp fun _ _ q => q.keep kp) ⟨T, rfl, SqT.of ?_⟩
        rw [upd_ne nTD.symm, upd_same]
      · rw [List.length_append, gl]
        rfl
      · intro y hy
        rcases List.mem_append.mp hy with hy | hy
        · exact gr y hy
        · cases List.mem_singleton.mp hy
          exact ⟨rl, rr⟩
  · rintro H1 ⟨acc, g, e1, k1, hD, pp, gg⟩
    refine ⟨_, _, rfl, .inl ⟨SqL.of hD, fun T nT => ?_⟩⟩
    exact k _ g _ (e1.trans (ext_new nT _)) (k1.new nT _) ⟨T, _, rfl, SqT.of upd_same, L2.Paired.mapP pp fun _ _ q => q.keep (tk_same (same_new nT _))⟩ gg
end
end V1
set_option Elab.async false
set_option maxRecDepth 100000
namespace V1
open PySem L2
/-! ### a test with a word behind it: what follows is shown once -/
def tCutT (t : TT) : TT := fun σ H Q => ∃ Mid : Bool → Hp → Prop, t σ H Mid ∧ ∀ b H', Mid b H' → Q b H'
theorem pt_cut {X : Cx} {e : Expr} {t : TT} (h : PT X e t) : PT X e (tCutT t) := by
  refine ⟨fun pins s σ H Q I ⟨Mid, h1, h2⟩ => ?_⟩
  refine thn (h.run pins s σ H Mid I h1) fun b s' ⟨H', I', q⟩ => ⟨H', I', h2 b H' q⟩
theorem tk_put {K : PySem.W.Frag} {H : Hp} {D : Addr} {xs : List V} (h : H D = some (.lst xs)) (o : HO) : TupKeep K H (upd H D o) := fun a ys q => by
  rcases q with (q | ⟨u, q⟩) | q
  · exact .inl (.inl (by rw [upd_ne (fun e => by rw [e, h] at q; cases q)]; exact q))
  · exact .inl (.inr ⟨u, by rw [upd_ne (fun e => by rw [e, h] at q; cases q)]; exact q⟩)
  · exact .inr q
theorem ext_put {h D : Addr} {H0 H H' : Hp} (n : H0 D = none) (e : Ext h H0 H) (e2 : Ext h H H') (o : HO) : Ext h H0 (upd H' D o) := fun b u nb eb => by
  rw [upd_ne (ne_of_none eb n)]
  exact e2 _ _ nb (e _ _ nb eb)
/-! ### talks' trees -/
inductive Tr where
  | fin (a0 a1 : List (List Int))
  | say (sd : Int) (g : List (List Int)) (f s : Tr)
def Tr.depth : Tr → Nat
  | .fin _ _ => 1
  | .say _ _ f s => 1 + max f.depth s.depth
def TreeAt (K : PySem.W.Frag) (H : Hp) : V → Tr → Prop
  | v, .fin a0 a1 => ∃ a v0 v1, v = .ref a ∧ SqT K H a [.str "end", v0, v1] ∧ GridAt K H v0 a0 ∧ GridAt K H v1 a1
  | v, .say sd g f s => ∃ a vg vf vs, v = .ref a ∧ SqT K H a [.str "say", .int sd, vg, vf, vs] ∧ GridAt K H vg g ∧ TreeAt K H vf f ∧ TreeAt K H vs s
theorem TreeAt.keep {K : PySem.W.Frag} {H H' : Hp} (t : TupKeep K H H') : ∀ {x : Tr} {v : V}, TreeAt K H v x → TreeAt K H' v x
  | .fin a0 a1, v, q => by
    obtain ⟨a, v0, v1, e, q, g0, g1⟩ := q
    exact ⟨a, v0, v1, e, t _ _ q, g0.keep t, g1.keep t⟩
  | .say sd g f s, v, q => by
    obtain ⟨a, vg, vf, vs, e, q, g0, qf, qs⟩ := q
    exact ⟨a, vg, vf, vs, e, t _ _ q, g0.keep t, TreeAt.keep t qf, TreeAt.keep t qs⟩
/-- sizes and coins of both sides -/
structure Sz where
  X0 : Nat
  X1 : Nat
  C0 : Nat
  C1 : Nat
def Bit (x : Int) : Prop := x = 0 ∨ x = 1
def WT (z : Sz) : Tr → Prop
  | .fin a0 a1 => Gr z.X0 z.C0 (fun _ => True) a0 ∧ Gr z.X1 z.C1 (fun _ => True) a1
  | .say sd g f s => ((sd = 0 ∧ Gr z.X0 z.C0 Bit g) ∨ (sd = 1 ∧ Gr z.X1 z.C1 Bit g)) ∧ WT z f ∧ WT z s
theorem Gr.mono {n c : Nat} {P P' : Int → Prop} {g : List (List Int)} (h : ∀ x, P x → P' x) (q : Gr n c P g) : Gr n c P' g := ⟨q.1, fun r hr => ⟨(q.2 r hr).1, fun x hx => h x ((q.2 r hr).2 x hx)⟩⟩
def Sz.Ok (z : Sz) : Prop := z.X0 ≤ 1000 ∧ z.X1 ≤ 1000 ∧ z.C0 ≤ 1000 ∧ z.C1 ≤ 1000
section
variable {P : Program} {w : World} {K : PySem.W.Frag} {mg : Str → Option Value} {base : Heap}
/-- a tree is promised, with the levels n left -/
def spTree (K : PySem.W.Frag) (n : Nat) : Sp := fun vs H Q _ => ∃ (h d a b : Addr) (z : Sz) (k : Nat) (m : Int), vs = [.ref h, .ref a, .ref b, .int k, .int m] ∧ HandOk h d H ∧ SqT K H a [.int z.X0, .int z.X1] ∧ SqT K H b [.int z.C0, .int z.C1] ∧ z.Ok ∧ 0 < m ∧ k + 1 ≤ n ∧
  ∀ (v : V) (t : Tr) (H' : Hp), Ext h H H' → HandOk h d H' → TreeAt K H' v t → WT z t → t.depth ≤ k + 1 → Q v H'
theorem scTree : FnScope ["hand", "sizes", "coins", "depth", "answers", "side", "ends", "bits", "first"] ["hand", "sizes", "coins", "depth", "answers"] (defScope sTree) := ⟨rfl, rfl, rfl, by decide +kernel, rfl, by decide +kernel, by decide +kernel⟩
theorem ok_tree {n : Nat} {f fT fB : Addr} {fd fdT fdB : FuncData} (F : Fun K "_law_tree" "_law_tree" sTree f fd) (bF : Binds K fd ["hand", "sizes", "coins", "depth", "answers"] []) (mF : mg "_law_tree" = some (.ref f))
    (GT : FnOk P w K mg base CX0 1 fT fdT ["hand", "many"] (spTake K)) (bT : Binds K fdT ["hand", "many"] []) (kT : PySem.W.keepIn K (.ref fT) = true) (mT : mg "_law_take" = some (.ref fT))
    (GB : FnOk P w K mg base CX0 2 fB fdB ["hand", "inputs", "coins", "most"] (spBits K)) (bB : Binds K fdB ["hand", "inputs", "coins", "most"] []) (kB : PySem.W.keepIn K (.ref fB) = true) (mB : mg "_law_bits" = some (.ref fB)) (mr : mg "range" = none)
    (G : FnOk P w K mg base CX0 (n + 2) f fd ["hand", "sizes", "coins", "depth", "answers"] (spTree K n)) :
    FnOk P w K mg base CX0 (n + 3) f fd ["hand", "sizes", "coins", "depth", "answers"] (spTree K (n + 1)) := by
  refine F.ok scTree (fun vs H Q E h => ?_) (fun cdv A outer s H vs Q E hr h => ?_)
  · obtain ⟨h, d, a, b, z, k, m, rfl, _⟩ := h
    rfl
  obtain ⟨h, d, a, b, z, k, m, rfl, hk, ha, hb, zo, m0, kn, q⟩ := h
  have nd := scTree.nd
  have hr1 : Room 1 _ := hr.mono (by omega)
  have hr2 : Room 2 _ := hr.mono (by omega)
  refine ⟨_, pss_cons (ps_if (pt_cut (PW.pt (pw_or (pt_cmpR op_eq (pv 3) pe_int (nomark _)) (pw_or1 (pt_cmpR op_eq (pe_call GT hr1 rfl mT kT bT .nil pass0 (pa_cons (pv 0) (pa_cons pe_int pa_nil))) pe_int (nomark _))))))
      (pss_cons (ps_setLc (i := 6) (own := [("side", 5)]) (g := gName 5) (tt := tYes) rfl nd rfl rfl (sw_true rfl rfl rfl (by decide +kernel)) (pi_range1 (by rfl) mr (pa_cons pe_int pa_nil)) (blkOk_by (by kernel_rfl))
        (fun _ _ _ _ _ => pg_name (i := 5) nd rfl (Or.inl rfl)) (fun _ _ _ _ _ => pts_nil)
        (fun _ _ _ _ _ => pe_call GB hr2 rfl mB kB bB .nil pass0 (pa_cons (pv 0) (pa_cons (pe_ix (ix_tupK (K := K) rfl) (pv 1) (pv 5) (fun _ _ => rfl)) (pa_cons (pe_ix (ix_tupK (K := K) rfl) (pv 2) (pv 5) (fun _ _ => rfl)) (pa_cons (pv 4) pa_nil))))))
      (pss_one (ps_ret (pe_tup (pa_cons pe_str (pa_cons (pe_ix ix_list (pv 6) pe_int (fun _ _ => rfl)) (pa_cons (pe_ix ix_list (pv 6) pe_int (fun _ _ => rfl)) pa_nil)))))))
      pss_nil)
    (pss_cons (ps_set (i := 5) nd rfl (Or.inl rfl) (pe_call GT hr1 rfl mT kT bT .nil pass0 (pa_cons (pv 0) (pa_cons pe_int pa_nil))))
    (pss_cons (ps_set (i := 7) nd rfl (Or.inl rfl) (pe_call GB hr2 rfl mB kB bB .nil pass0 (pa_cons (pv 0) (pa_cons (pe_ix ix_tup (pv 1) (pv 5) (fun _ _ => rfl)) (pa_cons (pe_ix ix_tup (pv 2) (pv 5) (fun _ _ => rfl)) (pa_cons pe_int pa_nil))))))
    (pss_cons (ps_set (i := 8) nd rfl (Or.inl rfl) (pe_call G hr rfl mF F.kp bF .nil pass0 (pa_cons (pv 0) (pa_cons (pv 1) (pa_cons (pv 2) (pa_cons (pe_op op_sub (pv 3) pe_int) (pa_cons (pv 4) pa_nil)))))))
    (pss_one (ps_ret (pe_tup (pa_cons pe_str (pa_cons (pv 5) (pa_cons (pv 7) (pa_cons (pv 8) (pa_cons (pe_call G hr rfl mF F.kp bF .nil pass0 (pa_cons (pv 0) (pa_cons (pv 1) (pa_cons (pv 2) (pa_cons (pe_op op_sub (pv 3) pe_int) (pa_cons (pv 4) pa_nil)))))) pa_nil))))))))))), ?_⟩
  refine ⟨fun c H' => Ext h H H' ∧ HandOk h d H' ∧ (c = false → 0 < k), ?_, ?_⟩
  · refine ⟨_, rfl, rfl, _, rfl, ite2 (fun e => ⟨Ext.refl _ _, hk, fun c => nomatch c⟩) (fun e => ?_)⟩
    refine ⟨_, rfl, h, d, 5, rfl, hk, by decide, fun r H1 r0 r1 e1 k1 => ⟨rfl, _, rfl, e1, k1, fun _ => ?_⟩⟩
    refine Nat.pos_of_ne_zero fun z0 => e ?_
    rw [z0]
    rfl
  · rintro c H1 ⟨e1, k1, hc⟩
    have t1 : TupKeep K H H1 := tk_ext hk e1
    refine ite2 (fun e => ?_) (fun e => ?_)
    · refine ⟨_, rfl, by decide, by decide, fun D nD => ?_⟩
      have nDh := k1.ne nD
      have nDd := k1.ne2 nD
      refine lc_range (lo := 0) (n := 2) (fun i H' => ∃ (acc : List V) (gs : List (List (List Int))), Ext h H1 H' ∧ HandOk h d H' ∧ H' D = some (.lst acc) ∧ Paired (GridAt K H') acc gs ∧ gs.length = i ∧
          (∀ g, gs[0]? = some g → Gr z.X0 z.C0 (fun _ => True) g) ∧ (∀ g, gs[1]? = some g → Gr z.X1 z.C1 (fun _ => True) g))
        ⟨[], [], ext_new nD _, k1.new nD _, upd_same, .nil, rfl, fun _ h => by simp at h, fun _ h => by simp at h⟩ ?_ ?_
      · rintro i H2 hi ⟨acc, gs, e2, k2, hD, pp, gl, g0, g1⟩
        have t2 : TupKeep K H H2 := t1.trans (tk_ext k1 e2)
        obtain ⟨Xi, Ci, ax, ac, bx, bc, c0, c1⟩ : ∃ Xi Ci : Nat, atI [V.int z.X0, V.int z.X1] (0 + (i : Int)) = some (.int Xi) ∧ atI [V.int z.C0, V.int z.C1] (0 + (i : Int)) = some (.int Ci) ∧ Xi ≤ 1000 ∧ Ci ≤ 1000 ∧ (i = 0 → Xi = z.X0 ∧ Ci = z.C0) ∧ (i = 1 → Xi = z.X1 ∧ Ci = z.C1) := by
          rcases (show i = 0 ∨ i = 1 by omega) with rfl | rfl
          · exact ⟨z.X0, z.C0, rfl, rfl, zo.1, zo.2.2.1, fun _ => ⟨rfl, rfl⟩, fun q => nomatch q⟩
          · exact ⟨z.X1, z.C1, rfl, rfl, zo.2.1, zo.2.2.2, fun q => (nomatch q), fun _ => ⟨rfl, rfl⟩⟩
        refine ⟨rfl, _, rfl, _, rfl, _, rfl, a, _, _, _, rfl, rfl, t2 _ _ ha, ax, _, rfl, _, rfl, b, _, _, _, rfl, rfl, t2 _ _ hb, ac, _, rfl, h, d, Xi, Ci, m, rfl, k2, bx, bc, m0, fun v g H3 e3 k3 gA gG => ?_⟩
        have hD3 := e3 _ _ nDh hD
        refine ⟨acc, hD3, ?_, acc ++ [v], gs ++ [g], ext_put nD e2 e3 _, k3.put nDh nDd _, upd_same, ?_, ?_, ?_, ?_⟩
        · rw [Paired.length pp, gl]
          exact small1000 (by omega)
        · exact Paired.snoc (L2.Paired.mapP pp fun _ _ q => q.keep ((tk_ext k2 e3).trans (tk_put hD3 _))) (gA.keep (tk_put hD3 _))
        · rw [List.length_append, gl]
          rfl
        · intro g' hg
          rcases (show i = 0 ∨ i = 1 by omega) with rfl | rfl
          · rw [List.getElem?_append_right (by omega), gl] at hg
            cases (Option.some.inj hg)
            obtain ⟨rfl, rfl⟩ := c0 rfl
            exact gG.mono fun _ _ => trivial
          · rw [List.getElem?_append_left (by omega)] at hg
            exact g0 _ hg
        · intro g' hg
          rcases (show i = 0 ∨ i = 1 by omega) with rfl | rfl
          · rw [List.getElem?_append_right (by omega), gl] at hg
            cases hg
          · rw [List.getElem?_append_right (by omega), gl] at hg
            cases (Option.some.inj hg)
            obtain ⟨rfl, rfl⟩ := c1 rfl
            exact gG.mono fun _ _ => trivial
      · rintro H2 ⟨acc, gs, e2, k2, hD, pp, gl, g0, g1⟩
        obtain ⟨ga, gb, rfl⟩ : ∃ ga gb, gs = [ga, gb] := by
          match gs, gl with
          | [ga, gb], _ => exact ⟨ga, gb, rfl⟩
        cases pp with
        | @cons va _ _ _ pa pp =>
          cases pp with
          | @cons vb _ _ _ pb pp =>
            cases pp
            refine ⟨_, rfl, D, _, _, _, rfl, rfl, SqL.of hD, rfl, _, rfl, D, _, _, _, rfl, rfl, SqL.of hD, rfl, (by show 3 ≤ sizeLine; decide), fun p np => ?_⟩
            have tp : TupKeep K H2 (upd H2 p (.tup [.str "end", va, vb])) := tk_same (same_new np _)
            refine q _ (.fin ga gb) _ (e1.trans (e2.trans (ext_new np _))) (k2.new np _) ⟨p, va, vb, rfl, SqT.of upd_same, pa.keep tp, pb.keep tp⟩ ⟨g0 _ rfl, g1 _ rfl⟩ ?_
            show 1 ≤ k + 1
            omega
    · have k0 : 0 < k := hc (Bool.eq_false_iff.mpr e)
      refine ⟨_, rfl, h, d, 2, rfl, k1, by decide, fun r H2 r0 r1 e2 k2 => ?_⟩
      have t2 : TupKeep K H H2 := t1.trans (tk_ext k1 e2)
      obtain ⟨Xi, Ci, ax, ac, bx, bc, hg⟩ : ∃ Xi Ci : Nat, atI [V.int z.X0, V.int z.X1] r = some (.int Xi) ∧ atI [V.int z.C0, V.int z.C1] r = some (.int Ci) ∧ Xi ≤ 1000 ∧ Ci ≤ 1000 ∧ ((r = 0 ∧ Xi = z.X0 ∧ Ci = z.C0) ∨ (r = 1 ∧ Xi = z.X1 ∧ Ci = z.C1)) := by
        rcases (show r = 0 ∨ r = 1 by omega) with rfl | rfl
        · exact ⟨z.X0, z.C0, rfl, rfl, zo.1, zo.2.2.1, .inl ⟨rfl, rfl, rfl⟩⟩
        · exact ⟨z.X1, z.C1, rfl, rfl, zo.2.1, zo.2.2.2, .inr ⟨rfl, rfl, rfl⟩⟩
      refine ⟨_, rfl, _, rfl, _, rfl, a, _, _, _, rfl, rfl, t2 _ _ ha, ax, _, rfl, _, rfl, b, _, _, _, rfl, rfl, t2 _ _ hb, ac, h, d, Xi, Ci, 2, rfl, k2, bx, bc, by decide, fun vg g H3 e3 k3 gA gG => ?_⟩
      have t3 : TupKeep K H H3 := t2.trans (tk_ext k2 e3)
      have gB : Gr Xi Ci Bit g := gG.mono fun x hx => by
        show x = 0 ∨ x = 1
        omega
      have ek : ((k : Nat) : Int) - 1 = ((k - 1 : Nat) : Int) := by omega
      refine ⟨_, rfl, _, rfl, _, rfl, _, rfl, _, _, rfl, rfl, _, rfl, h, d, a, b, z, k - 1, m, by rw [← ek]; rfl, k3, t3 _ _ ha, t3 _ _ hb, zo, m0, by omega, fun vf tf H4 e4 k4 tA4 w4 d4 => ?_⟩
      have t34 : TupKeep K H3 H4 := tk_ext k3 e4
      have t4 : TupKeep K H H4 := t3.trans t34
      refine ⟨_, rfl, _, rfl, _, rfl, _, rfl, _, rfl, _, rfl, _, rfl, _, _, rfl, rfl, _, rfl, h, d, a, b, z, k - 1, m, by rw [← ek]; rfl, k4, t4 _ _ ha, t4 _ _ hb, zo, m0, by omega, fun vs ts H5 e5 k5 tA5 w5 d5 => ?_⟩
      refine ⟨(by show 5 ≤ sizeLine; decide), fun p np => ?_⟩
      have t45 : TupKeep K H4 H5 := tk_ext k4 e5
      have t5n : TupKeep K H5 (upd H5 p (.tup [.str "say", .int r, vg, vf, vs])) := tk_same (same_new np _)
      refine q _ (.say r g tf ts) _ (e1.trans (e2.trans (e3.trans (e4.trans (e5.trans (ext_new np _)))))) (k5.new np _) ⟨p, vg, vf, vs, rfl, SqT.of upd_same, ((gA.keep t34).keep t45).keep t5n, (tA4.keep t45).keep t5n, tA5.keep t5n⟩ ⟨?_, w4, w5⟩ ?_
      · rcases hg with ⟨rr, rfl, rfl⟩ | ⟨rr, rfl, rfl⟩
        · exact .inl ⟨rr, gB⟩
        · exact .inr ⟨rr, gB⟩
      · show 1 + max tf.depth ts.depth ≤ k + 1
        omega
theorem tree_none {f : Addr} {fd : FuncData} : FnOk P w K mg base CX0 2 f fd ["hand", "sizes", "coins", "depth", "answers"] (spTree K 0) := by
  have no : ∀ vs H Q E, ¬ spTree K 0 vs H Q E := fun vs H Q E h => by
    obtain ⟨h, d, a, b, z, k, m, _, _, _, _, _, _, kn, _⟩ := h
    omega
  exact ⟨fun vs H Q E h => absurd h (no vs H Q E), fun A outer s H args us vs Q E _ _ _ _ h => absurd h (no vs H Q E)⟩
theorem tree_all {f fT fB : Addr} {fd fdT fdB : FuncData} (F : Fun K "_law_tree" "_law_tree" sTree f fd) (bF : Binds K fd ["hand", "sizes", "coins", "depth", "answers"] []) (mF : mg "_law_tree" = some (.ref f))
    (GT : FnOk P w K mg base CX0 1 fT fdT ["hand", "many"] (spTake K)) (bT : Binds K fdT ["hand", "many"] []) (kT : PySem.W.keepIn K (.ref fT) = true) (mT : mg "_law_take" = some (.ref fT))
    (GB : FnOk P w K mg base CX0 2 fB fdB ["hand", "inputs", "coins", "most"] (spBits K)) (bB : Binds K fdB ["hand", "inputs", "coins", "most"] []) (kB : PySem.W.keepIn K (.ref fB) = true) (mB : mg "_law_bits" = some (.ref fB)) (mr : mg "range" = none) :
    ∀ n : Nat, FnOk P w K mg base CX0 (n + 2) f fd ["hand", "sizes", "coins", "depth", "answers"] (spTree K n)
  | 0 => tree_none
  | n + 1 => ok_tree F bF mF GT bT kT mT GB bB kB mB mr (tree_all F bF mF GT bT kT mT GB bB kB mB mr n)
end
end V1
set_option Elab.async false
set_option maxRecDepth 100000
namespace V1
open PySem L2
/-! ### what a talk does, as a function -/
def gget (g : List (List Int)) (i j : Nat) : Int := ((g[i]?.getD [])[j]?).getD 0
def hold : Tr → Nat → Nat → Nat → Nat → List Int × (Int × Int)
  | .fin a0 a1, x, y, r, s => ([], gget a0 x r, gget a1 y s)
  | .say sd g f s', x, y, r, s =>
    let b := if sd = 0 then gget g x r else gget g y s
    let q := if b = 0 then hold f x y r s else hold s' x y r s
    (b :: q.1, q.2)
theorem paired_get {α β : Type} {F : α → β → Prop} : ∀ {xs : List α} {ys : List β} {i : Nat} {y : β}, Paired F xs ys → ys[i]? = some y → ∃ x, xs[i]? = some x ∧ F x y
  | _, _, 0, _, .cons h _, e => ⟨_, rfl, by cases (Option.some.inj e); exact h⟩
  | _, _, i + 1, _, .cons _ t, e => paired_get (i := i) t e
theorem grid_at {K : PySem.W.Frag} {H : Hp} {v : V} {g : List (List Int)} {n c : Nat} {P : Int → Prop} {i j : Nat} (q : GridAt K H v g) (w : Gr n c P g) (hi : i < n) (hj : j < c) :
    ∃ (a : Addr) (vs : List V) (b : Addr) (ns : List Int), v = .ref a ∧ SqT K H a vs ∧ atI vs (i : Int) = some (.ref b) ∧ SqT K H b (ns.map V.int) ∧ atI (ns.map V.int) (j : Int) = some (.int (gget g i j)) ∧ P (gget g i j) := by
  obtain ⟨a, vs, rfl, q, p⟩ := q
  obtain ⟨gl, gr⟩ := w
  have hi' : i < g.length := by omega
  have e1 : g[i]? = some g[i] := List.getElem?_eq_getElem hi'
  obtain ⟨u, e2, b, rfl, qb⟩ := paired_get p e1
  obtain ⟨rl, rp⟩ := gr g[i] (List.getElem_mem hi')
  have hj' : j < (g[i]).length := by omega
  have e3 : gget g i j = (g[i])[j] := by
    unfold gget
    rw [e1]
    show ((g[i])[j]?).getD 0 = _
    rw [List.getElem?_eq_getElem hj']
    rfl
  refine ⟨a, vs, b, g[i], rfl, q, atI_nat e2, qb, ?_, ?_⟩
  · rw [e3]
    exact atI_nat (by rw [List.getElem?_map, List.getElem?_eq_getElem hj'] <;> rfl)
  · rw [e3]
    exact rp _ (List.getElem_mem hj')
theorem say_step {K : PySem.W.Frag} {H : Hp} {v : V} {sd : Int} {g : List (List Int)} {f s' : Tr} {z : Sz} {x y r s : Nat} (hx : x < z.X0) (hy : y < z.X1) (hr : r < z.C0) (hs : s < z.C1) (q : TreeAt K H v (.say sd g f s')) (w : WT z (.say sd g f s')) :
    ∃ (p : Addr) (xs : List V) (a : Addr) (ws : List V) (i j : Nat) (b : Addr) (ns : List Int) (bit : Int) (vn : V) (tn : Tr), v = .ref p ∧ SqT K H p xs ∧ atI xs 0 = some (.str "say") ∧ atI xs 1 = some (.int sd) ∧ atI xs 2 = some (.ref a) ∧ SqT K H a ws ∧
      atI [V.int x, V.int y] sd = some (.int i) ∧ atI [V.int r, V.int s] sd = some (.int j) ∧ atI ws i = some (.ref b) ∧ SqT K H b (ns.map V.int) ∧ atI (ns.map V.int) j = some (.int bit) ∧
      atI xs (3 + bit) = some vn ∧ TreeAt K H vn tn ∧ WT z tn ∧ tn.depth < (Tr.say sd g f s').depth ∧ hold (.say sd g f s') x y r s = (bit :: (hold tn x y r s).1, (hold tn x y r s).2) := by
  obtain ⟨p, vg, vf, vs, rfl, q, qg, qf, qs⟩ := q
  obtain ⟨wg, wf, ws⟩ := w
  have df : f.depth < (Tr.say sd g f s').depth := by
    show f.depth < 1 + max f.depth s'.depth
    omega
  have ds : s'.depth < (Tr.say sd g f s').depth := by
    show s'.depth < 1 + max f.depth s'.depth
    omega
  rcases wg with ⟨rfl, wg⟩ | ⟨rfl, wg⟩
  · obtain ⟨a, us, b, ns, rfl, qa, e1, qb, e2, eb⟩ := grid_at qg wg hx hr
    rcases eb with eb | eb
    · exact ⟨p, _, a, us, x, r, b, ns, 0, vf, f, rfl, q, rfl, rfl, rfl, qa, rfl, rfl, e1, qb, by rw [e2, eb], rfl, qf, wf, df, by rw [hold]; simp [eb]⟩
    · exact ⟨p, _, a, us, x, r, b, ns, 1, vs, s', rfl, q, rfl, rfl, rfl, qa, rfl, rfl, e1, qb, by rw [e2, eb], rfl, qs, ws, ds, by rw [hold]; simp [eb]⟩
  · obtain ⟨a, us, b, ns, rfl, qa, e1, qb, e2, eb⟩ := grid_at qg wg hy hs
    rcases eb with eb | eb
    · exact ⟨p, _, a, us, y, s, b, ns, 0, vf, f, rfl, q, rfl, rfl, rfl, qa, rfl, rfl, e1, qb, by rw [e2, eb], rfl, qf, wf, df, by rw [hold]; simp [eb]⟩
    · exact ⟨p, _, a, us, y, s, b, ns, 1, vs, s', rfl, q, rfl, rfl, rfl, qa, rfl, rfl, e1, qb, by rw [e2, eb], rfl, qs, ws, ds, by rw [hold]; simp [eb]⟩
theorem fin_step {K : PySem.W.Frag} {H : Hp} {v : V} {a0 a1 : List (List Int)} {z : Sz} {x y r s : Nat} (hx : x < z.X0) (hy : y < z.X1) (hr : r < z.C0) (hs : s < z.C1) (q : TreeAt K H v (.fin a0 a1)) (w : WT z (.fin a0 a1)) :
    ∃ (p : Addr) (xs : List V) (a : Addr) (us : List V) (b : Addr) (ns : List Int) (c : Addr) (ws : List V) (d : Addr) (ms : List Int), v = .ref p ∧ SqT K H p xs ∧ atI xs 0 = some (.str "end") ∧
      atI xs 1 = some (.ref a) ∧ SqT K H a us ∧ atI us (x : Int) = some (.ref b) ∧ SqT K H b (ns.map V.int) ∧ atI (ns.map V.int) (r : Int) = some (.int (hold (.fin a0 a1) x y r s).2.1) ∧
      atI xs 2 = some (.ref c) ∧ SqT K H c ws ∧ atI ws (y : Int) = some (.ref d) ∧ SqT K H d (ms.map V.int) ∧ atI (ms.map V.int) (s : Int) = some (.int (hold (.fin a0 a1) x y r s).2.2) := by
  obtain ⟨p, v0, v1, rfl, q, q0, q1⟩ := q
  obtain ⟨w0, w1⟩ := w
  obtain ⟨a, us, b, ns, rfl, qa, e1, qb, e2, _⟩ := grid_at q0 w0 hx hr
  obtain ⟨c, ws, d, ms, rfl, qc, e3, qd, e4, _⟩ := grid_at q1 w1 hy hs
  exact ⟨p, _, a, us, b, ns, c, ws, d, ms, rfl, q, rfl, rfl, qa, e1, qb, e2, rfl, qc, e3, qd, e4⟩
/-- a talk on the heap -/
def TalkAt (K : PySem.W.Frag) (H : Hp) (v : V) (z : Sz) (t : Tr) : Prop := ∃ p vt, v = .ref p ∧ SqT K H p [.str "talk", .int z.C0, .int z.C1, vt] ∧ TreeAt K H vt t
def ResAt (K : PySem.W.Frag) (H : Hp) (v : V) (q : List Int × (Int × Int)) : Prop := ∃ p vb vc, v = .ref p ∧ SqT K H p [vb, vc] ∧ RowAt K H vb q.1 ∧ RowAt K H vc [q.2.1, q.2.2]
section
variable {P : Program} {w : World} {K : PySem.W.Frag} {mg : Str → Option Value} {base : Heap}
/-- both hold_talk and the law's own holding -/
def spHold (K : PySem.W.Frag) : Sp := fun vs H Q _ => ∃ (v : V) (a b : Addr) (z : Sz) (t : Tr) (x y r s : Nat), vs = [v, .ref a, .ref b] ∧ TalkAt K H v z t ∧ WT z t ∧ t.depth ≤ 300 ∧ SqT K H a [.int x, .int y] ∧ SqT K H b [.int r, .int s] ∧
  x < z.X0 ∧ y < z.X1 ∧ r < z.C0 ∧ s < z.C1 ∧ ∀ (u : V) (H' : Hp), Same H H' → ResAt K H' u (hold t x y r s) → Q u H'
theorem scHold : FnScope ["talk", "inputs", "coins", "bits", "tree", "side", "bit"] ["talk", "inputs", "coins"] (defScope sHold) := ⟨rfl, rfl, rfl, by decide +kernel, rfl, by decide +kernel, by decide +kernel⟩
theorem ok_hold {f : Addr} {fd : FuncData} (F : Fun K "hold_talk" "hold_talk" sHold f fd) (mt : mg "tuple" = none) : FnOk P w K mg base CX0 1 f fd ["talk", "inputs", "coins"] (spHold K) := by
  refine F.ok scHold (fun vs H Q E h => ?_) (fun cdv A outer s H vs Q E hr h => ?_)
  · obtain ⟨v, a, b, z, t, x, y, r, s, rfl, _⟩ := h
    rfl
  obtain ⟨v, a, b, z, t, x, y, r, s, rfl, ⟨tp, vt, rfl, htp, hvt⟩, hw, hd, ha, hb, hx, hy, hr', hs, k⟩ := h
  have nd := scHold.nd
  refine ⟨_, pss_cons (ps_set (i := 3) nd rfl (Or.inl rfl) (pe_lst pa_nil))
    (pss_cons (ps_set (i := 4) nd rfl (Or.inl rfl) (pe_ix ix_tup (pv 0) pe_int (fun _ _ => rfl)))
    (pss_cons (ps_while PassesOwn.never (pt_cmpR op_eq (pe_ix ix_tup (pv 4) pe_int (fun _ _ => rfl)) pe_str (nomark _))
      (pss_cons (ps_set (i := 5) nd rfl (Or.inl rfl) (pe_ix ix_tup (pv 4) pe_int (fun _ _ => rfl)))
      (pss_cons (ps_set (i := 6) nd rfl (Or.inl rfl) (pe_ix ix_tup (pe_ix ix_tup (pe_ix ix_tup (pv 4) pe_int (fun _ _ => rfl)) (pe_ix ix_tup (pv 1) (pv 5) (fun _ _ => rfl)) (fun _ _ => rfl)) (pe_ix ix_tup (pv 2) (pv 5) (fun _ _ => rfl)) (fun _ _ => rfl)))
      (pss_cons (ps_expr (pe_bm PySem.F.plainAttrs_list PySem.F.slot_list_append PySem.F.type_list_append mt_append (pv 3) (pa_cons (pv 6) pa_nil)))
      (pss_one (ps_set (i := 4) nd rfl (Or.inl rfl) (pe_ix ix_tup (pv 4) (pe_op op_add pe_int (pv 6)) (fun _ _ => rfl))))))))
    (pss_one (ps_ret (pe_tup (pa_cons (pe_callTy call_tuple_of (by rfl) mt PyProof.Rows.boot_tuple (pa_cons (pv 3) pa_nil))
      (pa_cons (pe_tup (pa_cons (pe_ix ix_tup (pe_ix ix_tup (pe_ix ix_tup (pv 4) pe_int (fun _ _ => rfl)) (pe_ix ix_tup (pv 1) pe_int (fun _ _ => rfl)) (fun _ _ => rfl)) (pe_ix ix_tup (pv 2) pe_int (fun _ _ => rfl)) (fun _ _ => rfl))
        (pa_cons (pe_ix ix_tup (pe_ix ix_tup (pe_ix ix_tup (pv 4) pe_int (fun _ _ => rfl)) (pe_ix ix_tup (pv 1) pe_int (fun _ _ => rfl)) (fun _ _ => rfl)) (pe_ix ix_tup (pv 2) pe_int (fun _ _ => rfl)) (fun _ _ => rfl)) pa_nil))) pa_nil))))))), ?_⟩
  refine ⟨Nat.zero_le _, fun B nB => ?_⟩
  have s1 : Same H (upd H B (.lst [])) := same_new nB _
  refine ⟨_, rfl, tp, _, _, _, rfl, rfl, seqT s1 htp, rfl, ?_⟩
  refine ⟨fun m σ H' => ∃ (vt' : V) (t' : Tr) (c5 c6 : Option V) (pre : List Int), σ = [some (.ref tp), some (.ref a), some (.ref b), some (.ref B), some vt', c5, c6] ∧ Same H H' ∧ H' B = some (.lst (pre.map V.int)) ∧ TreeAt K H' vt' t' ∧ WT z t' ∧
    t'.depth = m ∧ pre.length + t'.depth ≤ 300 ∧ hold t x y r s = (pre ++ (hold t' x y r s).1, (hold t' x y r s).2), ⟨t.depth, vt, t, _, _, [], rfl, s1, upd_same, hvt.keep (tk_same s1), hw, rfl, by simpa using hd, rfl⟩, ?_⟩
  rintro m σ H' ⟨vt', t', c5, c6, pre, rfl, s2, hB, hT, hW, hm, hlen, hh⟩
  cases t' with
  | fin a0 a1 =>
    obtain ⟨p, xs, u1, us, u2, ns, w1, ws, w2, ms, rfl, q, e0, e1, qa, e2, qb, e3, e4, qc, e5, qd, e6⟩ := fin_step hx hy hr' hs hT hW
    refine ⟨_, rfl, p, _, _, _, rfl, rfl, q, e0, rfl, _, rfl, ?_⟩
    rw [show decide (V.str "end" = V.str "say") = false by decide +kernel]
    refine iteF ?_
    refine ⟨_, rfl, B, _, rfl, .inl ⟨SqL.of hB, fun T nT => ?_⟩⟩
    have s3 : Same H' (upd H' T (.tup (pre.map V.int))) := same_new nT _
    have s13 : Same H (upd H' T (.tup (pre.map V.int))) := s2.trans s3
    refine ⟨_, rfl, p, _, _, _, rfl, rfl, seqT s3 q, e1, _, rfl, a, _, _, _, rfl, rfl, seqT s13 ha, rfl, u1, _, _, _, rfl, rfl, seqT s3 qa, e2, _, rfl, b, _, _, _, rfl, rfl, seqT s13 hb, rfl, u2, _, _, _, rfl, rfl, seqT s3 qb, e3, ?_⟩
    refine ⟨_, rfl, p, _, _, _, rfl, rfl, seqT s3 q, e4, _, rfl, a, _, _, _, rfl, rfl, seqT s13 ha, rfl, w1, _, _, _, rfl, rfl, seqT s3 qc, e5, _, rfl, b, _, _, _, rfl, rfl, seqT s13 hb, rfl, w2, _, _, _, rfl, rfl, seqT s3 qd, e6, ?_⟩
    refine ⟨(by show 2 ≤ sizeLine; decide), fun U nU => ⟨(by show 2 ≤ sizeLine; decide), fun R nR => ?_⟩⟩
    have s4 := same_new nU (.tup [V.int (hold (.fin a0 a1) x y r s).2.1, V.int (hold (.fin a0 a1) x y r s).2.2])
    have s5 := same_new nR (.tup [V.ref T, V.ref U])
    refine k _ _ (s13.trans (s4.trans s5)) ⟨R, .ref T, .ref U, rfl, SqT.of upd_same, ⟨T, rfl, ?_⟩, ⟨U, rfl, ?_⟩⟩
    · rw [hh]
      show SqT K _ T ((pre ++ []).map V.int)
      rw [List.append_nil]
      exact SqT.of (s5 _ _ (s4 _ _ upd_same))
    · rw [hh]
      exact SqT.of (s5 _ _ upd_same)
  | say sd g f s' =>
    obtain ⟨p, xs, u1, ws, i, j, u2, ns, bit, vn, tn, rfl, q, e0, e1, e2, qa, e3, e4, e5, qb, e6, e7, hTn, hWn, hdn, hhn⟩ := say_step hx hy hr' hs hT hW
    refine ⟨_, rfl, p, _, _, _, rfl, rfl, q, e0, rfl, _, rfl, ?_⟩
    rw [show decide (V.str "say" = V.str "say") = true by decide +kernel]
    refine iteT ⟨fun σ' H'' => ∃ (c5 c6 : Option V), σ' = [some (.ref tp), some (.ref a), some (.ref b), some (.ref B), some vn, c5, c6] ∧ H'' = upd H' B (.lst (pre.map V.int ++ [.int bit])), ?_, ?_⟩
    · rintro σ' H'' ⟨c5', c6', rfl, rfl⟩
      refine ⟨tn.depth, by omega, vn, tn, c5', c6', pre ++ [bit], rfl, same_put s2 nB, put_int, hTn.keep (tk_put hB _), hWn, rfl, ?_, ?_⟩
      · rw [List.length_append, List.length_singleton]
        omega
      · rw [hh, hhn]
        simp
    · refine ⟨_, rfl, p, _, _, _, rfl, rfl, q, e1, ?_⟩
      refine ⟨_, rfl, p, _, _, _, rfl, rfl, q, e2, _, rfl, _, rfl, a, _, _, _, rfl, rfl, seqT s2 ha, e3, u1, _, _, _, rfl, rfl, qa, e5, _, rfl, _, rfl, b, _, _, _, rfl, rfl, seqT s2 hb, e4, u2, _, _, _, rfl, rfl, qb, e6, ?_⟩
      refine ⟨_, rfl, .inl ⟨rfl, _, SqL.of hB⟩, _, rfl, B, _, _, rfl, rfl, hB, ?_, ?_⟩
      · rw [List.length_map]
        exact small1000 (by omega)
      · exact ⟨_, rfl, _, rfl, _, _, rfl, rfl, p, _, _, _, rfl, rfl, (tk_put hB _) _ _ q, e7, _, _, rfl, rfl⟩
end
end V1
set_option Elab.async false
set_option maxRecDepth 100000
namespace V1
open PySem L2
theorem depth_pos : ∀ t : Tr, 1 ≤ t.depth
  | .fin _ _ => Nat.le_refl 1
  | .say _ _ _ _ => Nat.le_add_right 1 _
section
variable {P : Program} {w : World} {K : PySem.W.Frag} {mg : Str → Option Value} {base : Heap}
theorem scHeld : FnScope ["talk", "inputs", "coins", "tree", "bits", "turn", "bit"] ["talk", "inputs", "coins"] (defScope sHeld) := ⟨rfl, rfl, rfl, by decide +kernel, rfl, by decide +kernel, by decide +kernel⟩
theorem ok_held {f : Addr} {fd : FuncData} (F : Fun K "_law_held" "_law_held" sHeld f fd) (mr : mg "range" = none) : FnOk P w K mg base CX0 1 f fd ["talk", "inputs", "coins"] (spHold K) := by
  refine F.ok scHeld (fun vs H Q E h => ?_) (fun cdv A outer s H vs Q E hr h => ?_)
  · obtain ⟨v, a, b, z, t, x, y, r, s, rfl, _⟩ := h
    rfl
  obtain ⟨v, a, b, z, t, x, y, r, s, rfl, ⟨tp, vt, rfl, htp, hvt⟩, hw, hd, ha, hb, hx, hy, hr', hs, k⟩ := h
  have nd := scHeld.nd
  refine ⟨_, pss_cons (ps_set (i := 3) nd rfl (Or.inl rfl) (pe_ix ix_tup (pv 0) pe_int (fun _ _ => rfl)))
    (pss_cons (ps_set (i := 4) nd rfl (Or.inl rfl) (pe_tup pa_nil))
    (pss_cons (ps_for PassesOwn.never rfl (pi_range1 (by rfl) mr (pa_cons pe_int pa_nil)) (pg_name (i := 5) nd rfl (Or.inl rfl))
      (pss_cons (ps_if (pt_cmpR op_eq (pe_ix ix_tup (pv 3) pe_int (fun _ _ => rfl)) pe_str (nomark _))
          (pss_one (ps_ret (pe_tup (pa_cons (pv 4)
            (pa_cons (pe_tup (pa_cons (pe_ix ix_tup (pe_ix ix_tup (pe_ix ix_tup (pv 3) pe_int (fun _ _ => rfl)) (pe_ix ix_tup (pv 1) pe_int (fun _ _ => rfl)) (fun _ _ => rfl)) (pe_ix ix_tup (pv 2) pe_int (fun _ _ => rfl)) (fun _ _ => rfl))
              (pa_cons (pe_ix ix_tup (pe_ix ix_tup (pe_ix ix_tup (pv 3) pe_int (fun _ _ => rfl)) (pe_ix ix_tup (pv 1) pe_int (fun _ _ => rfl)) (fun _ _ => rfl)) (pe_ix ix_tup (pv 2) pe_int (fun _ _ => rfl)) (fun _ _ => rfl)) pa_nil))) pa_nil))))) pss_nil)
      (pss_cons (ps_set (i := 6) nd rfl (Or.inl rfl) (pe_ix ix_tup (pe_ix ix_tup (pe_ix ix_tup (pv 3) pe_int (fun _ _ => rfl)) (pe_ix ix_tup (pv 1) (pe_ix ix_tup (pv 3) pe_int (fun _ _ => rfl)) (fun _ _ => rfl)) (fun _ _ => rfl)) (pe_ix ix_tup (pv 2) (pe_ix ix_tup (pv 3) pe_int (fun _ _ => rfl)) (fun _ _ => rfl)) (fun _ _ => rfl)))
      (pss_cons (ps_set (i := 4) nd rfl (Or.inl rfl) (pe_op op_catA (pv 4) (pe_tup (pa_cons (pv 6) pa_nil))))
      (pss_one (ps_set (i := 3) nd rfl (Or.inl rfl) (pe_ix ix_tup (pv 3) (pe_op op_add pe_int (pv 6)) (fun _ _ => rfl))))))))
    (pss_one (ps_ret pe_non)))), ?_⟩
  refine ⟨_, rfl, tp, _, _, _, rfl, rfl, htp, rfl, ?_⟩
  refine ⟨Nat.zero_le _, fun B nB => ?_⟩
  have s1 : Same H (upd H B (.tup [])) := same_new nB _
  refine ⟨_, rfl, by decide, by decide, ?_⟩
  refine for_range (lo := 0) (n := 300) (fun i σ H' => ∃ (vt' : V) (t' : Tr) (bb : Addr) (c5 c6 : Option V) (pre : List Int), σ = [some (.ref tp), some (.ref a), some (.ref b), some vt', some (.ref bb), c5, c6] ∧ Same H H' ∧ SqT K H' bb (pre.map V.int) ∧ TreeAt K H' vt' t' ∧ WT z t' ∧
    pre.length = i ∧ i + t'.depth ≤ 300 ∧ hold t x y r s = (pre ++ (hold t' x y r s).1, (hold t' x y r s).2)) ?_ ?_ ?_
  · exact ⟨vt, t, B, _, _, [], rfl, s1, SqT.of upd_same, hvt.keep (tk_same s1), hw, rfl, by omega, rfl⟩
  · rintro i σ H' hi ⟨vt', t', bb, c5, c6, pre, rfl, s2, hB, hT, hW, hl, hlen, hh⟩
    cases t' with
    | fin a0 a1 =>
      obtain ⟨p, xs, u1, us, u2, ns, w1, ws, w2, ms, rfl, q, e0, e1, qa, e2, qb, e3, e4, qc, e5, qd, e6⟩ := fin_step hx hy hr' hs hT hW
      refine ⟨_, rfl, p, _, _, _, rfl, rfl, q, e0, rfl, _, rfl, ?_⟩
      rw [show decide (V.str "end" = V.str "end") = true by decide +kernel]
      refine iteT ⟨_, rfl, ?_⟩
      refine ⟨_, rfl, p, _, _, _, rfl, rfl, q, e1, _, rfl, a, _, _, _, rfl, rfl, seqT s2 ha, rfl, u1, _, _, _, rfl, rfl, qa, e2, _, rfl, b, _, _, _, rfl, rfl, seqT s2 hb, rfl, u2, _, _, _, rfl, rfl, qb, e3, ?_⟩
      refine ⟨_, rfl, p, _, _, _, rfl, rfl, q, e4, _, rfl, a, _, _, _, rfl, rfl, seqT s2 ha, rfl, w1, _, _, _, rfl, rfl, qc, e5, _, rfl, b, _, _, _, rfl, rfl, seqT s2 hb, rfl, w2, _, _, _, rfl, rfl, qd, e6, ?_⟩
      refine ⟨(by show 2 ≤ sizeLine; decide), fun U nU => ⟨(by show 2 ≤ sizeLine; decide), fun R nR => ?_⟩⟩
      have s4 := same_new nU (.tup [V.int (hold (.fin a0 a1) x y r s).2.1, V.int (hold (.fin a0 a1) x y r s).2.2])
      have s5 := same_new nR (.tup [V.ref bb, V.ref U])
      refine k _ _ (s2.trans (s4.trans s5)) ⟨R, .ref bb, .ref U, rfl, SqT.of upd_same, ⟨bb, rfl, ?_⟩, ⟨U, rfl, ?_⟩⟩
      · rw [hh]
        show SqT K _ bb ((pre ++ []).map V.int)
        rw [List.append_nil]
        exact seqT (s4.trans s5) hB
      · rw [hh]
        exact SqT.of (s5 _ _ upd_same)
    | say sd g f s' =>
      obtain ⟨p, xs, u1, ws, ii, j, u2, ns, bit, vn, tn, rfl, q, e0, e1, e2, qa, e3, e4, e5, qb, e6, e7, hTn, hWn, hdn, hhn⟩ := say_step hx hy hr' hs hT hW
      refine ⟨_, rfl, p, _, _, _, rfl, rfl, q, e0, rfl, _, rfl, ?_⟩
      rw [show decide (V.str "say" = V.str "end") = false by decide +kernel]
      refine iteF ?_
      refine ⟨_, rfl, p, _, _, _, rfl, rfl, q, e2, _, rfl, _, rfl, p, _, _, _, rfl, rfl, q, e1, a, _, _, _, rfl, rfl, seqT s2 ha, e3, u1, _, _, _, rfl, rfl, qa, e5, _, rfl, _, rfl, p, _, _, _, rfl, rfl, q, e1, b, _, _, _, rfl, rfl, seqT s2 hb, e4, u2, _, _, _, rfl, rfl, qb, e6, ?_⟩
      refine ⟨_, rfl, _, rfl, (by show 1 ≤ sizeLine; decide), fun C nC => ?_⟩
      have s3 := same_new nC (.tup [V.int bit])
      have hl2 : (pre ++ [bit]).length = i + 1 := by
        rw [List.length_append, hl]
        rfl
      have d2 : i + 1 + tn.depth ≤ 300 := by omega
      have hh2 : hold t x y r s = ((pre ++ [bit]) ++ (hold tn x y r s).1, (hold tn x y r s).2) := by
        rw [hh, hhn]
        simp
      refine ⟨bb, C, _, _, rfl, rfl, seqT s3 hB, SqT.of upd_same, ?_, fun e => ?_, fun _ e => (nomatch e), fun _ _ D nD => ?_⟩
      · rw [List.length_map, hl]
        show i + 1 ≤ sizeLine
        exact Nat.le_of_lt (small1000 (by omega))
      · have e' : pre = [] := by
          cases pre with
          | nil => rfl
          | cons _ _ => cases e
        refine ⟨_, rfl, _, rfl, _, _, rfl, rfl, p, _, _, _, rfl, rfl, seqT s3 q, e7, vn, tn, C, _, _, pre ++ [bit], rfl, s2.trans s3, ?_, hTn.keep (tk_same s3), hWn, hl2, d2, hh2⟩
        rw [e']
        exact SqT.of upd_same
      · have s4 := same_new nD (.tup (pre.map V.int ++ [V.int bit]))
        refine ⟨_, rfl, _, rfl, _, _, rfl, rfl, p, _, _, _, rfl, rfl, seqT (s3.trans s4) q, e7, vn, tn, D, _, _, pre ++ [bit], rfl, s2.trans (s3.trans s4), ?_, hTn.keep (tk_same (s3.trans s4)), hWn, hl2, d2, hh2⟩
        rw [List.map_append]
        exact SqT.of upd_same
  · rintro σ H' ⟨vt', t', bb, c5, c6, pre, _, _, _, _, _, _, hlen, _⟩
    have := depth_pos t'
    omega
/-! ### the law's own comparison, of two values that are the same -/
def SameAt (K : PySem.W.Frag) (H : Hp) : Nat → V → V → Prop
  | 0, _, _ => False
  | n + 1, u, v => (∃ i : Int, u = .int i ∧ v = .int i) ∨ (∃ (a b : Addr) (xs ys : List V), u = .ref a ∧ v = .ref b ∧ SqT K H a xs ∧ SqT K H b ys ∧ xs.length = ys.length ∧ ys.length ≤ 1000 ∧ ∀ (i : Nat) (x y : V), xs[i]? = some x → ys[i]? = some y → SameAt K H n x y)
def spSame (K : PySem.W.Frag) (n : Nat) : Sp := fun vs H Q _ => ∃ u v, vs = [u, v] ∧ SameAt K H n u v ∧ Q (.bl true) H
theorem ty_tup {K : PySem.W.Frag} {H : Hp} {a : Addr} {xs : List V} (q : SqT K H a xs) : TyX K H (.ref a) (.type "tuple") := by
  rcases q with (q | ⟨o, q⟩) | ⟨o, its, n, e, c, _⟩
  · exact .base (.tup q)
  · exact .fTuple q
  · exact .kTuple e c
theorem scSame : FnScope ["found", "due", "at"] ["found", "due"] (defScope sSame) := ⟨rfl, rfl, rfl, by decide +kernel, rfl, by decide +kernel, by decide +kernel⟩
theorem ok_same {n : Nat} {f : Addr} {fd : FuncData} (F : Fun K "_law_same" "_law_same" sSame f fd) (bF : Binds K fd ["found", "due"] []) (mF : mg "_law_same" = some (.ref f)) (mis : mg "isinstance" = none) (mt : mg "tuple" = none) (ms : mg "str" = none) (mi : mg "int" = none) (mb : mg "bool" = none) (ml : mg "len" = none) (mr : mg "range" = none)
    (G : FnOk P w K mg base CX0 n f fd ["found", "due"] (spSame K n)) : FnOk P w K mg base CX0 (n + 1) f fd ["found", "due"] (spSame K (n + 1)) := by
  refine F.ok scSame (fun vs H Q E h => ?_) (fun cdv A outer s H vs Q E hr h => ?_)
  · obtain ⟨u, v, rfl, _⟩ := h
    rfl
  obtain ⟨u, v, rfl, hs, k⟩ := h
  have nd := scSame.nd
  refine ⟨_, pss_cons (ps_if (pt_val (pe_callB call_isi (by rfl) mis PyProof.Rows.boot_isinstance (pa_cons (pv 1) (pa_cons (pe_bltn (v := .ty "tuple") (by rfl) mt PyProof.Rows.boot_tuple rfl) pa_nil))))
      (pss_cons (ps_if (PW.pt (pw_or (pt_not (pt_val (pe_callB call_isi (by rfl) mis PyProof.Rows.boot_isinstance (pa_cons (pv 0) (pa_cons (pe_bltn (v := .ty "tuple") (by rfl) mt PyProof.Rows.boot_tuple rfl) pa_nil)))))
          (pw_or1 (pt_cmpR op_ne (pe_callB call_len_seq (by rfl) ml PySem.boot_len (pa_cons (pv 0) pa_nil)) (pe_callB call_len_seq (by rfl) ml PySem.boot_len (pa_cons (pv 1) pa_nil)) (nomark _))))) (pss_one (ps_ret pe_bl)) pss_nil)
      (pss_cons (ps_for PassesOwn.never rfl (pi_range1 (by rfl) mr (pa_cons (pe_callB call_len_seq (by rfl) ml PySem.boot_len (pa_cons (pv 1) pa_nil)) pa_nil)) (pg_name (i := 2) nd rfl (Or.inl rfl))
        (pss_one (ps_if (pt_not (pt_val (pe_call G hr rfl mF F.kp bF .nil pass0 (pa_cons (pe_ix ix_tup (pv 0) (pv 2) (fun _ _ => rfl)) (pa_cons (pe_ix ix_tup (pv 1) (pv 2) (fun _ _ => rfl)) pa_nil))))) (pss_one (ps_ret pe_bl)) pss_nil)))
      (pss_one (ps_ret pe_bl)))) pss_nil)
    (pss_cons (ps_if (pt_val (pe_callB call_isi (by rfl) mis PyProof.Rows.boot_isinstance (pa_cons (pv 1) (pa_cons (pe_bltn (v := .ty "str") (by rfl) ms PyProof.Rows.boot_str rfl) pa_nil))))
      (pss_one (ps_ret (pe_and (pe_callB call_isi (by rfl) mis PyProof.Rows.boot_isinstance (pa_cons (pv 0) (pa_cons (pe_bltn (v := .ty "str") (by rfl) ms PyProof.Rows.boot_str rfl) pa_nil))) (pe_one (pe_cmpR op_eq (pv 0) (pv 1) (nomark _)))))) pss_nil)
    (pss_one (ps_ret (pe_and (pe_callB call_isi (by rfl) mis PyProof.Rows.boot_isinstance (pa_cons (pv 0) (pa_cons (pe_bltn (v := .ty "int") (by rfl) mi PyProof.Rows.boot_int rfl) pa_nil)))
      (pe_and (pe_not (pe_callB call_isi (by rfl) mis PyProof.Rows.boot_isinstance (pa_cons (pv 0) (pa_cons (pe_bltn (v := .ty "bool") (by rfl) mb PyProof.Rows.boot_bool rfl) pa_nil)))) (pe_one (pe_cmpR op_eq (pv 0) (pv 1) (nomark _)))))))), ?_⟩
  rcases hs with ⟨i, rfl, rfl⟩ | ⟨a, b, xs, ys, rfl, rfl, qa, qb, hl, h1000, hi⟩
  · refine ⟨_, rfl, _, _, _, _, _, rfl, .ty "tuple", .base (.int i), kit_ty (by decide +kernel), _, rfl, iteF ?_⟩
    refine ⟨_, rfl, _, _, _, _, _, rfl, .ty "str", .base (.int i), kit_ty (by decide +kernel), _, rfl, iteF ?_⟩
    refine ⟨_, rfl, _, _, _, _, _, rfl, .ty "int", .base (.int i), kit_ty (by decide +kernel), _, rfl, iteT ?_⟩
    refine ⟨_, rfl, _, _, _, _, _, rfl, .ty "bool", .base (.int i), kit_ty (r := false) (by decide +kernel), _, rfl, _, rfl, iteT ?_⟩
    refine ⟨_, rfl, _, rfl, rfl, ?_⟩
    rw [show decide (V.int i = V.int i) = true from decide_eq_true rfl]
    exact k
  · refine ⟨_, rfl, _, _, _, _, _, rfl, .ty "tuple", ty_tup qb, kit_ty (by decide +kernel), _, rfl, iteT ?_⟩
    refine ⟨_, rfl, _, _, _, _, _, rfl, .ty "tuple", ty_tup qa, kit_ty (r := true) (by decide +kernel), _, rfl, iteF ?_⟩
    refine ⟨_, rfl, a, _, rfl, .inr qa, _, rfl, b, _, rfl, .inr qb, rfl, _, rfl, ?_⟩
    refine iteNS (show V.int (xs.length : Nat) = V.int (ys.length : Nat) by rw [hl]) ?_
    refine ⟨_, rfl, b, _, rfl, .inr qb, _, rfl, by omega, by omega, ?_⟩
    refine for_range (lo := 0) (n := ys.length) (fun _ σ H' => (∃ c2, σ = [some (.ref a), some (.ref b), c2]) ∧ H' = H) ⟨⟨_, rfl⟩, rfl⟩ ?_ ?_
    · rintro i σ H' hi' ⟨⟨c2, rfl⟩, rfl⟩
      have ex : xs[i]? = some xs[i] := List.getElem?_eq_getElem (by omega)
      have ey : ys[i]? = some ys[i] := List.getElem?_eq_getElem hi'
      have e0 : (0 : Int) + (i : Int) = (i : Int) := Int.zero_add _
      refine ⟨_, rfl, _, rfl, a, _, _, _, rfl, rfl, qa, (by rw [e0]; exact atI_nat ex), _, rfl, _, rfl, b, _, _, _, rfl, rfl, qb, (by rw [e0]; exact atI_nat ey), _, _, rfl, hi i _ _ ex ey, _, rfl, iteF ⟨⟨_, rfl⟩, rfl⟩⟩
    · rintro σ H' ⟨⟨c2, rfl⟩, rfl⟩
      exact k
theorem same_none {f : Addr} {fd : FuncData} : FnOk P w K mg base CX0 0 f fd ["found", "due"] (spSame K 0) := by
  have no : ∀ vs H Q E, ¬ spSame K 0 vs H Q E := fun vs H Q E h => by
    obtain ⟨u, v, _, h, _⟩ := h
    exact h
  exact ⟨fun vs H Q E h => absurd h (no vs H Q E), fun A outer s H args us vs Q E _ _ _ _ h => absurd h (no vs H Q E)⟩
theorem same_all {f : Addr} {fd : FuncData} (F : Fun K "_law_same" "_law_same" sSame f fd) (bF : Binds K fd ["found", "due"] []) (mF : mg "_law_same" = some (.ref f)) (mis : mg "isinstance" = none) (mt : mg "tuple" = none) (ms : mg "str" = none) (mi : mg "int" = none) (mb : mg "bool" = none) (ml : mg "len" = none) (mr : mg "range" = none) :
    ∀ n : Nat, FnOk P w K mg base CX0 n f fd ["found", "due"] (spSame K n)
  | 0 => same_none
  | n + 1 => ok_same F bF mF mis mt ms mi mb ml mr (same_all F bF mF mis mt ms mi mb ml mr n)
theorem rows_same {H : Hp} {u v : V} {ns : List Int} {n : Nat} (hn : ns.length ≤ 1000) (p : RowAt K H u ns) (q : RowAt K H v ns) : SameAt K H (n + 2) u v := by
  obtain ⟨a, rfl, p⟩ := p
  obtain ⟨b, rfl, q⟩ := q
  refine .inr ⟨a, b, _, _, rfl, rfl, p, q, rfl, by rw [List.length_map]; exact hn, fun i x y ex ey => ?_⟩
  rw [ex] at ey
  cases (Option.some.inj ey)
  rw [List.getElem?_map] at ex
  cases e : ns[i]? with
  | none =>
    rw [e] at ex
    cases ex
  | some m =>
    rw [e] at ex
    cases (Option.some.inj ex)
    exact .inl ⟨m, rfl, rfl⟩
theorem res_same {H : Hp} {u v : V} {r : List Int × (Int × Int)} (hn : r.1.length ≤ 1000) (p : ResAt K H u r) (q : ResAt K H v r) : SameAt K H 3 u v := by
  obtain ⟨a, a1, a2, rfl, p, p1, p2⟩ := p
  obtain ⟨b, b1, b2, rfl, q, q1, q2⟩ := q
  refine .inr ⟨a, b, _, _, rfl, rfl, p, q, rfl, by show 2 ≤ 1000; decide, fun i x y ex ey => ?_⟩
  match i, ex, ey with
  | 0, ex, ey =>
    cases (Option.some.inj ex)
    cases (Option.some.inj ey)
    exact rows_same hn p1 q1
  | 1, ex, ey =>
    cases (Option.some.inj ex)
    cases (Option.some.inj ey)
    exact rows_same (by show 2 ≤ 1000; decide) p2 q2
theorem ResAt.keep {H H' : Hp} {v : V} {q : List Int × (Int × Int)} (t : TupKeep K H H') (h : ResAt K H v q) : ResAt K H' v q := by
  obtain ⟨a, a1, a2, e, p, p1, p2⟩ := h
  exact ⟨a, a1, a2, e, t _ _ p, p1.keep t, p2.keep t⟩
theorem ite_len {c : Prop} [Decidable c] {A B : List Int × (Int × Int)} {n : Nat} (h1 : A.1.length ≤ n) (h2 : B.1.length ≤ n) : (if c then A else B).1.length ≤ n := by
  split <;> assumption
theorem hold_len : ∀ (t : Tr) (x y r s : Nat), (hold t x y r s).1.length ≤ t.depth
  | .fin _ _, _, _, _, _ => Nat.zero_le _
  | .say sd g f s', x, y, r, s => by
    have h1 := hold_len f x y r s
    have h2 := hold_len s' x y r s
    rw [hold]
    show (_ :: (if _ = 0 then hold f x y r s else hold s' x y r s).1).length ≤ 1 + max f.depth s'.depth
    rw [List.length_cons, Nat.add_comm]
    exact Nat.add_le_add_left (ite_len (by omega) (by omega)) 1
end
end V1
set_option Elab.async false
set_option maxRecDepth 100000
set_option maxHeartbeats 4000000
namespace V1
open PySem PySem.Spec PyProof.Rows L2
section
variable {prog : Program} {w : World} {A : Around} {E Q : Value → Shared → Prop} {s : Shared} {l : Addr} {k : Int} {t : Tok} {us : Array Value} {m : Nat} {dd : Option Addr} {sl : Array (Option Value)}
abbrev tupO (us : Array Value) (m : Nat) (dd : Option Addr) (sl : Array (Option Value)) : Obj := { cls := .type "tuple", dict := dd, data := .seq us m, slots := sl }
/-- whatever tuple.__mul__ is known to do -/
theorem times_by {S} (at_ : s.heap.get? l = some (tupO us m dd sl)) (M : Meets (Builtin.«tuple.__mul__» ⟨[.ref l, .int k t], []⟩) S) (want : S A (wants Q E) s) : wpAny (model prog w) A (binaryOp .Mult (.ref l) (.int k t)) Q E s := by
  have cls : s.TypeIs (.ref l) "tuple" := ⟨_, at_, rfl⟩
  have mul := call_meets (prog := prog) (w := w) F.slot_tuple_mul cls F.entry_tuple_mul (F.args_tuple_mul_2 _ _) M want
  refine wpAny_binaryOp_repeat_ref (by decide) cls (fun z => typeIs_int z k t) noFill_tuple_mul F.fills_int_mul F.slot_int_rmul repeat_tuple F.slot_int_index.lookup ?_
  exact call_meets F.slot_int_rmul (typeIs_int s k t) F.entry_int_rmul (F.args_int_rmul_2 _ _) (int_rmul_tuple k t l us m dd sl) ⟨at_, rfl, cls, mul⟩
/-- once (or nothing, as often as it may be): the tuple itself -/
theorem mul_same (fits : (decide (k < -(2 ^ 63)) || decide (k ≥ 2 ^ 63)) = false) (once : (us.isEmpty || k == 1) = true) :
    Meets (Builtin.«tuple.__mul__» ⟨[.ref l, .int k t], []⟩) fun _ R s => s.heap.get? l = some (tupO us m dd sl) ∧ R (.ok (.ret (.ref l))) s :=
  Meets.of_wp fun P wo Ar R sh got => by
    cases sh with
    | mk hp gl di tk os =>
    have number := AutoSeq1.idx_int
    have here : hp.get? l = some { cls := .type "tuple", dict := dd, data := .seq us m, slots := sl } := got.1
    have known : IsTup hp l us := ⟨_, got.1, rfl, m, rfl⟩
    wp_walk using wpAny_loadPart' here
    refine wpAny_ite_false (decide_eq_false (fun z => by rw [fits] at z; cases z)) ?_
    wp_walk using wpAny_loadPart' here
    exact ⟨_, rfl, got.2⟩
end
/-- t * k, t a tuple that is not empty, 1 ≤ k -/
def rRepP (K : PySem.W.Frag) : R2 := fun x y H Q => ∃ l k xs, x = .ref l ∧ y = .int k ∧ SqT K H l xs ∧ xs ≠ [] ∧ 1 ≤ k ∧ k ≤ 1000 ∧ xs.length ≤ 1000 ∧ (k = 1 → Q (.ref l) H) ∧ (2 ≤ k → ∀ p, H p = none → Q (.ref p) (upd H p (.tup (List.replicate k.toNat xs).flatten)))
section
variable {X : Cx}
theorem op_repP : OpR X (binaryOp .Mult) (rRepP X.K) := fun pn s σ H x y v u Q I rx ry want => by
  obtain ⟨l, k, xs, rfl, rfl, tp, ne, lo, hi, few, once, more⟩ := want
  by_cases one : k = 1
  · subst one
    cases rx
    obtain ⟨t, rfl⟩ := ry
    obtain ⟨us, _, ⟨⟨cl, dd, dat, sl⟩, at_, c, m, e⟩, _⟩ := I.tuple tp
    cases c
    cases e
    exact times_by at_ (mul_same (by decide) (Bool.or_eq_true_iff.mpr (.inr rfl))) ⟨at_, .ref l, H, I, rfl, once rfl⟩
  · exact op_repT pn s σ H _ _ v u Q I rx ry ⟨l, k, xs, rfl, rfl, tp, ne, by omega, hi, few, more (by omega)⟩
end
end V1
set_option Elab.async false
set_option maxRecDepth 100000
namespace V1
open PySem L2
theorem pi_tupK {X : Cx} {K : PySem.W.Frag} {tg l : Expr} {tl : TE} (e : X.K = K) (hl : PE X l tl) : PI X tg l (iTup K tl) := by
  subst e
  exact pi_tup hl
def pick4 (r : Int) (a b c e : Int) : Int := if r = 0 then a else if r = 1 then b else if r = 2 then c else e
theorem at4 {r : Int} (h0 : 0 ≤ r) (h1 : r < 4) {a b c e : Int} : atI [V.int a, V.int b, V.int c, V.int e] r = some (.int (pick4 r a b c e)) := by
  rcases (show r = 0 ∨ r = 1 ∨ r = 2 ∨ r = 3 by omega) with rfl | rfl | rfl | rfl <;> rfl
theorem paired_get' {α β : Type} {F : α → β → Prop} : ∀ {xs : List α} {ys : List β} {i : Nat} {x : α}, Paired F xs ys → xs[i]? = some x → ∃ y, ys[i]? = some y ∧ F x y
  | _, _, 0, _, .cons h _, e => ⟨_, rfl, by cases (Option.some.inj e); exact h⟩
  | _, _, i + 1, _, .cons _ t, e => paired_get' (i := i) t e
section
variable {P : Program} {w : World} {K : PySem.W.Frag} {mg : Str → Option Value} {base : Heap}
def spGreat (K : PySem.W.Frag) (n : Nat) : Sp := fun vs H Q _ => ∃ (h d : Addr) (v : V) (z : Sz) (t : Tr), vs = [.ref h, v] ∧ HandOk h d H ∧ TreeAt K H v t ∧ WT z t ∧ z.Ok ∧ t.depth ≤ n ∧
  ∀ (u : V) (t' : Tr) (H' : Hp), Ext h H H' → HandOk h d H' → TreeAt K H' u t' → WT z t' → t'.depth = t.depth → Q u H'
theorem scGreat : FnScope ["hand", "tree", "more", "told", "side", "row", "one"] ["hand", "tree"] (defScope sGreat) := ⟨rfl, rfl, rfl, by decide +kernel, rfl, by decide +kernel, by decide +kernel⟩
theorem ok_great {n : Nat} {f fT : Addr} {fd fdT : FuncData} (F : Fun K "_law_great" "_law_great" sGreat f fd) (bF : Binds K fd ["hand", "tree"] []) (mF : mg "_law_great" = some (.ref f))
    (GT : FnOk P w K mg base CX0 1 fT fdT ["hand", "many"] (spTake K)) (bT : Binds K fdT ["hand", "many"] []) (kT : PySem.W.keepIn K (.ref fT) = true) (mT : mg "_law_take" = some (.ref fT)) (mt : mg "tuple" = none)
    (G : FnOk P w K mg base CX0 (n + 1) f fd ["hand", "tree"] (spGreat K n)) :
    FnOk P w K mg base CX0 (n + 2) f fd ["hand", "tree"] (spGreat K (n + 1)) := by
  refine F.ok scGreat (fun vs H Q E h => ?_) (fun cdv A outer s H vs Q E hr h => ?_)
  · obtain ⟨h, d, v, z, t, rfl, _⟩ := h
    rfl
  obtain ⟨h, d, v, z, t, rfl, hk, hv, hw, zo, hd, q⟩ := h
  have nd := scGreat.nd
  have hr1 : Room 1 _ := hr.mono (by omega)
  refine ⟨_, pss_cons (ps_if (pt_cmpR op_eq (pe_ix ix_tup (pv 1) pe_int (fun _ _ => rfl)) pe_str (nomark _))
      (pss_cons (ps_set (i := 2) nd rfl (Or.inr rfl) (pe_ix ix_list (pe_lst (pa_cons pe_int (pa_cons (pe_un un_neg pe_int) (pa_cons (pe_op op_pow pe_int pe_int) (pa_cons (pe_un un_neg (pe_op op_pow pe_int pe_int)) pa_nil)))))
          (pe_call GT hr1 rfl mT kT bT .nil pass0 (pa_cons (pv 0) (pa_cons pe_int pa_nil))) (fun _ _ => rfl)))
      (pss_cons (ps_setLc (i := 3) (own := [("side", 4)]) (g := gName 4) (tt := tYes) rfl nd rfl rfl (sw_true rfl rfl rfl (by decide +kernel)) (pi_list (pe_lst (pa_cons pe_int (pa_cons pe_int pa_nil)))) (blkOk_by (by kernel_rfl))
          (fun _ _ _ _ _ => pg_name (i := 4) nd rfl (Or.inl rfl)) (fun _ _ _ _ _ => pts_nil)
          (fun _ _ _ _ _ => pe_callTy (call_tup (K := K) rfl) (by rfl) mt PyProof.Rows.boot_tuple (pa_cons (pe_lc (own := [("row", 5)]) (g := gName 5) (tt := tYes) rfl nd (pi_tupK (K := K) rfl (pe_ix (ix_tupK (K := K) rfl) (pv 1) (pv 4) (fun _ _ => rfl))) (blkOk_by (by kernel_rfl))
            (fun _ _ _ _ _ => pg_name (i := 5) nd rfl (Or.inl rfl)) (fun _ _ _ _ _ => pts_nil)
            (fun _ _ _ _ _ => pe_callTy (call_tup (K := K) rfl) (by rfl) mt PyProof.Rows.boot_tuple (pa_cons (pe_lc (own := [("one", 6)]) (g := gName 6) (tt := tYes) rfl nd (pi_tupK (K := K) rfl (pv 5)) (blkOk_by (by kernel_rfl))
              (fun _ _ _ _ _ => pg_name (i := 6) nd rfl (Or.inl rfl)) (fun _ _ _ _ _ => pts_nil)
              (fun _ _ _ _ _ => pe_op op_add (pe_op op_mul (pv 6) pe_int) (pv 2))) pa_nil))) pa_nil)))
      (pss_one (ps_ret (pe_tup (pa_cons pe_str (pa_cons (pe_ix ix_list (pv 3) pe_int (fun _ _ => rfl)) (pa_cons (pe_ix ix_list (pv 3) pe_int (fun _ _ => rfl)) pa_nil)))))))) pss_nil)
    (pss_one (ps_ret (pe_op op_catT (pe_slice sl_tup (pv 1) po_none (po_some pe_int))
      (pe_tup (pa_cons (pe_call G hr rfl mF F.kp bF .nil pass0 (pa_cons (pv 0) (pa_cons (pe_ix ix_tup (pv 1) pe_int (fun _ _ => rfl)) pa_nil)))
        (pa_cons (pe_call G hr rfl mF F.kp bF .nil pass0 (pa_cons (pv 0) (pa_cons (pe_ix ix_tup (pv 1) pe_int (fun _ _ => rfl)) pa_nil))) pa_nil)))))), ?_⟩
  cases t with
  | say sd g tf ts =>
    obtain ⟨a, vg, vf, vs, rfl, qa, qg, qf, qs⟩ := hv
    obtain ⟨wg, wf, ws⟩ := hw
    refine ⟨_, rfl, a, _, _, _, rfl, rfl, qa, rfl, rfl, _, rfl, ?_⟩
    rw [show decide (V.str "say" = V.str "end") = false by decide +kernel]
    refine iteF ?_
    have dd : 1 + max tf.depth ts.depth ≤ n + 1 := hd
    refine ⟨_, rfl, _, rfl, a, _, rfl, qa, ?_, fun p np => ?_⟩
    · intro z
      exact absurd (show HT.sIx 5 5 (some 3) = 5 from z.2) (by decide)
    have s1 := same_new np (.tup (cutV [V.str "say", V.int sd, vg, vf, vs] none (some 3)))
    have k1 := hk.new np (.tup (cutV [V.str "say", V.int sd, vg, vf, vs] none (some 3)))
    refine ⟨_, rfl, _, rfl, a, _, _, _, rfl, rfl, seqT s1 qa, rfl, h, d, vf, z, tf, rfl, k1, qf.keep (tk_same s1), wf, zo, by omega, fun u1 t1 H1 e1 k2 h1 w1 d1 => ?_⟩
    have t01 : TupKeep K H H1 := (tk_same s1).trans (tk_ext k1 e1)
    refine ⟨_, rfl, _, rfl, a, _, _, _, rfl, rfl, t01 _ _ qa, rfl, h, d, vs, z, ts, rfl, k2, qs.keep t01, ws, zo, by omega, fun u2 t2 H2 e2 k3 h2 w2 d2 => ?_⟩
    have t12 : TupKeep K H1 H2 := tk_ext k2 e2
    refine ⟨(by show 2 ≤ sizeLine; decide), fun r nr => ?_⟩
    have s3 := same_new nr (.tup [u1, u2])
    have tp : SqT K H2 p [V.str "say", V.int sd, vg] := (t12) _ _ ((tk_ext k1 e1) _ _ (SqT.of upd_same))
    refine ⟨p, r, _, _, rfl, rfl, seqT s3 tp, SqT.of upd_same, (fun e => nomatch e), (by show 5 ≤ sizeLine; decide), fun e => (nomatch e), fun _ R nR => ?_⟩
    have s4 := same_new nR (.tup ([V.str "say", V.int sd, vg] ++ [u1, u2]))
    have t34 : TupKeep K H2 _ := tk_same (s3.trans s4)
    refine q _ (.say sd g t1 t2) _ ((ext_of_same s1).trans (e1.trans (e2.trans (ext_of_same (s3.trans s4))))) (k3.same (s3.trans s4)) ⟨R, vg, u1, u2, rfl, SqT.of upd_same, qg.keep ((t01.trans t12).trans t34), (h1.keep t12).keep t34, h2.keep t34⟩ ⟨wg, w1, w2⟩ ?_
    show 1 + max t1.depth t2.depth = 1 + max tf.depth ts.depth
    rw [d1, d2]
  | fin a0 a1 =>
    obtain ⟨a, v0, v1, rfl, qa, q0, q1⟩ := hv
    obtain ⟨w0, w1⟩ := hw
    refine ⟨_, rfl, a, _, _, _, rfl, rfl, qa, rfl, rfl, _, rfl, ?_⟩
    rw [show decide (V.str "end" = V.str "end") = true by decide +kernel]
    refine iteT ?_
    refine ⟨_, rfl, _, _, rfl, rfl, ⟨by decide, by decide, by decide⟩, _, _, rfl, rfl, ⟨by decide, by decide, by decide⟩, _, rfl, (by show 4 ≤ sizeLine; decide), fun L0 nL0 => ?_⟩
    refine ⟨_, rfl, h, d, 4, rfl, hk.new nL0 _, by decide, fun r H1 r0 r1 e1 k1 => ?_⟩
    refine ⟨L0, _, _, _, rfl, rfl, SqL.of (e1 _ _ (hk.ne nL0) upd_same), at4 r0 r1, ?_⟩
    have e01 : Ext h H H1 := (ext_new nL0 _).trans e1
    have t01 : TupKeep K H H1 := tk_ext hk e01
    refine ⟨(by show 2 ≤ sizeLine; decide), fun L nL => ?_⟩
    have sL := same_new nL (.lst [V.int 1, V.int 2])
    refine ⟨L, rfl, ⟨_, SqL.of upd_same⟩, fun D nD => ?_⟩
    refine lc_list (K := K) (a := L) (xs := [.int 1, .int 2]) (fun i H' => ∃ (acc : List V) (gs : List (List (List Int))), Same (upd H1 L (.lst [V.int 1, V.int 2])) H' ∧ H' D = some (.lst acc) ∧ Paired (GridAt K H') acc gs ∧ gs.length = i ∧
          (∀ g, gs[0]? = some g → Gr z.X0 z.C0 (fun _ => True) g) ∧ (∀ g, gs[1]? = some g → Gr z.X1 z.C1 (fun _ => True) g))
        ⟨[], [], same_new nD _, upd_same, .nil, rfl, fun _ h => by simp at h, fun _ h => by simp at h⟩ (fun i H' _ ⟨_, _, g, _⟩ => SqL.of (g _ _ upd_same)) ?_ ?_
    · rintro i x H2 hi ⟨acc, gs, s2, hD, pp, gl, g0, g1⟩
      have s12 : Same H1 H2 := sL.trans s2
      have t02 : TupKeep K H H2 := t01.trans (tk_same s12)
      obtain ⟨hi2, n, c, vg, g, hg, hat, qg, wg, hx, hnc⟩ : i < 2 ∧ ∃ (n c : Nat) (vg : V) (g : List (List Int)), x = .int ((i : Int) + 1) ∧ atI [V.str "end", v0, v1] ((i : Int) + 1) = some vg ∧ GridAt K H2 vg g ∧ Gr n c (fun _ => True) g ∧ (n ≤ 1000 ∧ c ≤ 1000) ∧ ((i = 0 ∧ n = z.X0 ∧ c = z.C0) ∨ (i = 1 ∧ n = z.X1 ∧ c = z.C1)) := by
        match i, hi with
        | 0, hi => exact ⟨by decide, z.X0, z.C0, v0, a0, (Option.some.inj hi).symm, rfl, q0.keep t02, w0, ⟨zo.1, zo.2.2.1⟩, .inl ⟨rfl, rfl, rfl⟩⟩
        | 1, hi => exact ⟨by decide, z.X1, z.C1, v1, a1, (Option.some.inj hi).symm, rfl, q1.keep t02, w1, ⟨zo.2.1, zo.2.2.2⟩, .inr ⟨rfl, rfl, rfl⟩⟩
      subst hg
      obtain ⟨ag, vs, rfl, qag, pg⟩ := qg
      refine ⟨rfl, _, rfl, _, rfl, a, _, _, _, rfl, rfl, t02 _ _ qa, hat, ag, rfl, ⟨_, qag⟩, fun D2 nD2 => ?_⟩
      refine lc_tup (K := K) (a := ag) (xs := vs) (fun j H' => ∃ (ac2 : List V) (g2 : List (List Int)), Same H2 H' ∧ H' D2 = some (.lst ac2) ∧ Paired (RowAt K H') ac2 g2 ∧ g2.length = j ∧ ∀ r ∈ g2, r.length = c)
        ⟨[], [], same_new nD2 _, upd_same, .nil, rfl, fun _ h => by cases h⟩ (fun j H' _ ⟨_, _, g, _⟩ => seqT g qag) ?_ ?_
      · rintro j y H3 hj ⟨ac2, g2, s3, hD2, pp2, gl2, gr2⟩
        obtain ⟨row, er, br, rfl, qr⟩ := paired_get' pg hj
        have hrow : row ∈ g := List.mem_of_getElem? er
        have rlen : row.length = c := (wg.2 row hrow).1
        have jl : j < n := by
          have z1 := (List.getElem?_eq_some_iff.mp er).1
          rw [wg.1] at z1
          exact z1
        refine ⟨rfl, _, rfl, br, rfl, ⟨_, seqT s3 qr⟩, fun D3 nD3 => ?_⟩
        refine lc_tup (K := K) (a := br) (xs := row.map V.int) (fun l H' => ∃ r2 : List Int, Same H3 H' ∧ H' D3 = some (.lst (r2.map V.int)) ∧ r2.length = l)
          ⟨[], same_new nD3 _, upd_same, rfl⟩ (fun l H' _ ⟨_, g, _⟩ => seqT g (seqT s3 qr)) ?_ ?_
        · rintro l y H4 hl ⟨r2, s4, hD3, l2⟩
          obtain ⟨hl1, hl2⟩ := List.getElem?_eq_some_iff.mp hl
          rw [List.length_map] at hl1
          rw [List.getElem_map] at hl2
          subst hl2
          refine ⟨rfl, _, rfl, _, _, rfl, rfl, .inr ⟨by decide, by decide⟩, _, rfl, _, _, rfl, rfl, _, hD3, ?_, _, same_put s4 nD3, put_int, ?_⟩
          · rw [List.length_map]
            exact small1000 (by omega)
          · rw [List.length_append, l2]
            rfl
        · rintro H4 ⟨r2, s4, hD3, l2⟩
          rw [List.length_map] at l2
          refine ⟨_, _, rfl, .inl ⟨SqL.of hD3, fun T nT => ?_⟩⟩
          have s5 := same_new nT (.tup (r2.map V.int))
          have s35 := s4.trans s5
          have hD5 := s35 _ _ hD2
          refine ⟨ac2, hD5, ?_, ac2 ++ [.ref T], g2 ++ [r2], same_put (s3.trans s35) nD2, upd_same, ?_, ?_, ?_⟩
          · rw [Paired.length pp2, gl2]
            exact small1000 (by omega)
          · exact Paired.snoc (L2.Paired.mapP pp2 fun _ _ q => (q.keep (tk_same s35)).keep (tk_put hD5 _)) ⟨T, rfl, (tk_put hD5 _) _ _ (SqT.of upd_same)⟩
          · rw [List.length_append, gl2]
            rfl
          · intro r' hr'
            rcases List.mem_append.mp hr' with hr' | hr'
            · exact gr2 r' hr'
            · cases List.mem_singleton.mp hr'
              rw [l2, rlen]
      · rintro H3 ⟨ac2, g2, s3, hD2, pp2, gl2, gr2⟩
        refine ⟨_, _, rfl, .inl ⟨SqL.of hD2, fun T nT => ?_⟩⟩
        have s5 := same_new nT (.tup ac2)
        have s35 := s3.trans s5
        have hD5 := s35 _ _ hD
        have vl : vs.length = n := by rw [Paired.length pg, wg.1]
        have gG : Gr n c (fun _ => True) g2 := ⟨by rw [gl2, vl], fun r hr => ⟨gr2 r hr, fun _ _ => trivial⟩⟩
        have gN : GridAt K (upd H3 T (.tup ac2)) (.ref T) g2 := ⟨T, ac2, rfl, SqT.of upd_same, L2.Paired.mapP pp2 fun _ _ q => q.keep (tk_same s5)⟩
        refine ⟨acc, hD5, ?_, acc ++ [.ref T], gs ++ [g2], same_put (s2.trans s35) nD, upd_same, ?_, ?_, ?_, ?_⟩
        · rw [Paired.length pp, gl]
          exact small1000 (by omega)
        · exact Paired.snoc (L2.Paired.mapP pp fun _ _ q => (q.keep (tk_same s35)).keep (tk_put hD5 _)) (gN.keep (tk_put hD5 _))
        · rw [List.length_append, gl]
          rfl
        · intro g' hg
          rcases hnc with ⟨rfl, rfl, rfl⟩ | ⟨rfl, _, _⟩
          · rw [List.getElem?_append_right (by omega), gl] at hg
            cases (Option.some.inj hg)
            exact gG
          · rw [List.getElem?_append_left (by omega)] at hg
            exact g0 _ hg
        · intro g' hg
          rcases hnc with ⟨rfl, _, _⟩ | ⟨rfl, rfl, rfl⟩
          · rw [List.getElem?_append_right (by omega), gl] at hg
            cases hg
          · rw [List.getElem?_append_right (by omega), gl] at hg
            cases (Option.some.inj hg)
            exact gG
    · rintro H2 ⟨acc, gs, s2, hD, pp, gl, g0, g1⟩
      obtain ⟨ga, gb, rfl⟩ : ∃ ga gb, gs = [ga, gb] := by
        match gs, gl with
        | [ga, gb], _ => exact ⟨ga, gb, rfl⟩
      cases pp with
      | @cons va _ _ _ pa pp =>
        cases pp with
        | @cons vb _ _ _ pb pp =>
          cases pp
          refine ⟨_, rfl, D, _, _, _, rfl, rfl, SqL.of hD, rfl, _, rfl, D, _, _, _, rfl, rfl, SqL.of hD, rfl, (by show 3 ≤ sizeLine; decide), fun p np => ?_⟩
          have tp : TupKeep K H2 (upd H2 p (.tup [.str "end", va, vb])) := tk_same (same_new np _)
          exact q _ (.fin ga gb) _ (e01.trans (ext_of_same ((sL.trans s2).trans (same_new np _)))) ((k1.same (sL.trans s2)).new np _) ⟨p, va, vb, rfl, SqT.of upd_same, pa.keep tp, pb.keep tp⟩ ⟨g0 _ rfl, g1 _ rfl⟩ rfl
end
end V1
set_option Elab.async false
set_option maxRecDepth 100000
namespace V1
open PySem L2
section
variable {P : Program} {w : World} {K : PySem.W.Frag} {mg : Str → Option Value} {base : Heap}
theorem great_none {f : Addr} {fd : FuncData} : FnOk P w K mg base CX0 1 f fd ["hand", "tree"] (spGreat K 0) := by
  have no : ∀ vs H Q E, ¬ spGreat K 0 vs H Q E := fun vs H Q E h => by
    obtain ⟨h, d, v, z, t, _, _, _, _, _, hd, _⟩ := h
    have := depth_pos t
    omega
  exact ⟨fun vs H Q E h => absurd h (no vs H Q E), fun A outer s H args us vs Q E _ _ _ _ h => absurd h (no vs H Q E)⟩
theorem great_all {f fT : Addr} {fd fdT : FuncData} (F : Fun K "_law_great" "_law_great" sGreat f fd) (bF : Binds K fd ["hand", "tree"] []) (mF : mg "_law_great" = some (.ref f))
    (GT : FnOk P w K mg base CX0 1 fT fdT ["hand", "many"] (spTake K)) (bT : Binds K fdT ["hand", "many"] []) (kT : PySem.W.keepIn K (.ref fT) = true) (mT : mg "_law_take" = some (.ref fT)) (mt : mg "tuple" = none) :
    ∀ n : Nat, FnOk P w K mg base CX0 (n + 1) f fd ["hand", "tree"] (spGreat K n)
  | 0 => great_none
  | n + 1 => ok_great F bF mF GT bT kT mT mt (great_all F bF mF GT bT kT mT mt n)
/-! ### a drawn talk -/
def spTalk (K : PySem.W.Frag) : Sp := fun vs H Q _ => ∃ (h d a : Addr) (X0 X1 : Nat) (m : Int), vs = [.ref h, .ref a, .int m] ∧ HandOk h d H ∧ SqT K H a [.int X0, .int X1] ∧ X0 ≤ 1000 ∧ X1 ≤ 1000 ∧ 0 < m ∧
  ∀ (v : V) (z : Sz) (t : Tr) (H' : Hp), Ext h H H' → HandOk h d H' → TalkAt K H' v z t → WT z t → z.X0 = X0 → z.X1 = X1 → z.C0 ≤ 3 → z.C1 ≤ 3 → t.depth ≤ 4 → Q v H'
theorem scTalk : FnScope ["hand", "sizes", "answers", "coins"] ["hand", "sizes", "answers"] (defScope sTalk) := ⟨rfl, rfl, rfl, by decide +kernel, rfl, by decide +kernel, by decide +kernel⟩
theorem ok_talk {f fT fR : Addr} {fd fdT fdR : FuncData} (F : Fun K "_law_talk" "_law_talk" sTalk f fd)
    (GT : FnOk P w K mg base CX0 1 fT fdT ["hand", "many"] (spTake K)) (bT : Binds K fdT ["hand", "many"] []) (kT : PySem.W.keepIn K (.ref fT) = true) (mT : mg "_law_take" = some (.ref fT))
    (GR : FnOk P w K mg base CX0 6 fR fdR ["hand", "sizes", "coins", "depth", "answers"] (spTree K 4)) (bR : Binds K fdR ["hand", "sizes", "coins", "depth", "answers"] []) (kR : PySem.W.keepIn K (.ref fR) = true) (mR : mg "_law_tree" = some (.ref fR)) :
    FnOk P w K mg base CX0 7 f fd ["hand", "sizes", "answers"] (spTalk K) := by
  refine F.ok scTalk (fun vs H Q E h => ?_) (fun cdv A outer s H vs Q E hr h => ?_)
  · obtain ⟨h, d, a, X0, X1, m, rfl, _⟩ := h
    rfl
  obtain ⟨h, d, a, X0, X1, m, rfl, hk, ha, b0, b1, m0, q⟩ := h
  have nd := scTalk.nd
  have hr1 : Room 1 _ := hr.mono (by omega)
  refine ⟨_, pss_cons (ps_set (i := 3) nd rfl (Or.inl rfl) (pe_tup (pa_cons (pe_op op_add pe_int (pe_call GT hr1 rfl mT kT bT .nil pass0 (pa_cons (pv 0) (pa_cons pe_int pa_nil)))) (pa_cons (pe_op op_add pe_int (pe_call GT hr1 rfl mT kT bT .nil pass0 (pa_cons (pv 0) (pa_cons pe_int pa_nil)))) pa_nil))))
    (pss_one (ps_ret (pe_tup (pa_cons pe_str (pa_cons (pe_ix ix_tup (pv 3) pe_int (fun _ _ => rfl)) (pa_cons (pe_ix ix_tup (pv 3) pe_int (fun _ _ => rfl)) (pa_cons
      (pe_call GR hr rfl mR kR bR .nil pass0 (pa_cons (pv 0) (pa_cons (pv 1) (pa_cons (pv 3) (pa_cons (pe_op op_add pe_int (pe_call GT hr1 rfl mT kT bT .nil pass0 (pa_cons (pv 0) (pa_cons pe_int pa_nil)))) (pa_cons (pv 2) pa_nil)))))) pa_nil))))))), ?_⟩
  refine ⟨_, rfl, h, d, 3, rfl, hk, by decide, fun r H1 r0 r1 e1 k1 => ⟨_, _, rfl, rfl, ?_⟩⟩
  refine ⟨_, rfl, h, d, 3, rfl, k1, by decide, fun r' H2 r0' r1' e2 k2 => ⟨_, _, rfl, rfl, ?_⟩⟩
  obtain ⟨c0, ec0⟩ := Int.eq_ofNat_of_zero_le (show 0 ≤ 1 + r by omega)
  obtain ⟨c1, ec1⟩ := Int.eq_ofNat_of_zero_le (show 0 ≤ 1 + r' by omega)
  refine ⟨(by show 2 ≤ sizeLine; decide), fun p np => ?_⟩
  have hp : SqT K (upd H2 p (.tup [.int (1 + r), .int (1 + r')])) p [.int c0, .int c1] := by
    rw [ec0, ec1]
    exact SqT.of upd_same
  have e3 := ext_new (h := h) np (.tup [.int (1 + r), .int (1 + r')])
  have k3 := k2.new np (.tup [.int (1 + r), .int (1 + r')])
  have t3 : TupKeep K H _ := tk_ext hk (e1.trans (e2.trans e3))
  refine ⟨_, rfl, p, _, _, _, rfl, rfl, hp, rfl, _, rfl, p, _, _, _, rfl, rfl, hp, rfl, ?_⟩
  refine ⟨_, rfl, _, rfl, _, rfl, _, rfl, h, d, 3, rfl, k3, by decide, fun r2 H4 r20 r21 e4 k4 => ⟨_, _, rfl, rfl, _, rfl, ?_⟩⟩
  obtain ⟨dp, edp⟩ := Int.eq_ofNat_of_zero_le (show 0 ≤ 1 + r2 by omega)
  have t4 : TupKeep K _ H4 := tk_ext k3 e4
  refine ⟨h, d, a, p, ⟨X0, X1, c0, c1⟩, dp, m, (by rw [← edp]; rfl), k4, t4 _ _ (t3 _ _ ha), t4 _ _ hp, ⟨b0, b1, (by show c0 ≤ 1000; omega), (by show c1 ≤ 1000; omega)⟩, m0, by omega, fun v t H5 e5 k5 hT hW hD => ?_⟩
  refine ⟨(by show 4 ≤ sizeLine; decide), fun R nR => ?_⟩
  have s6 := same_new nR (.tup [.str "talk", .int c0, .int c1, v])
  exact q (.ref R) ⟨X0, X1, c0, c1⟩ t _ (e1.trans (e2.trans (e3.trans (e4.trans (e5.trans (ext_of_same s6)))))) (k5.same s6) ⟨R, v, rfl, SqT.of upd_same, hT.keep (tk_same s6)⟩ hW rfl rfl (by show c0 ≤ 3; omega) (by show c1 ≤ 3; omega) (by omega)
/-! ### all pairs of inputs and coins -/
def spAll (K : PySem.W.Frag) : Sp := fun vs H Q _ => ∃ (v : V) (a : Addr) (z : Sz) (t : Tr), vs = [v, .ref a] ∧ TalkAt K H v z t ∧ WT z t ∧ t.depth ≤ 300 ∧ SqT K H a [.int z.X0, .int z.X1] ∧ z.Ok ∧ ∀ H', Same H H' → Q (.bl true) H'
theorem scAll : FnScope ["talk", "sizes", "x", "y", "r", "s"] ["talk", "sizes"] (defScope sAll) := ⟨rfl, rfl, rfl, by decide +kernel, rfl, by decide +kernel, by decide +kernel⟩
theorem ok_all {f fS fH fG : Addr} {fd fdS fdH fdG : FuncData} (F : Fun K "_law_all_right" "_law_all_right" sAll f fd)
    (GS : FnOk P w K mg base CX0 3 fS fdS ["found", "due"] (spSame K 3)) (bS : Binds K fdS ["found", "due"] []) (kS : PySem.W.keepIn K (.ref fS) = true) (mS : mg "_law_same" = some (.ref fS))
    (GH : FnOk P w K mg base CX0 1 fH fdH ["talk", "inputs", "coins"] (spHold K)) (bH : Binds K fdH ["talk", "inputs", "coins"] []) (kH : PySem.W.keepIn K (.ref fH) = true) (mH : mg "hold_talk" = some (.ref fH))
    (GG : FnOk P w K mg base CX0 1 fG fdG ["talk", "inputs", "coins"] (spHold K)) (bG : Binds K fdG ["talk", "inputs", "coins"] []) (kG : PySem.W.keepIn K (.ref fG) = true) (mG : mg "_law_held" = some (.ref fG)) (mr : mg "range" = none) :
    FnOk P w K mg base CX0 4 f fd ["talk", "sizes"] (spAll K) := by
  refine F.ok scAll (fun vs H Q E h => ?_) (fun cdv A outer s H vs Q E hr h => ?_)
  · obtain ⟨v, a, z, t, rfl, _⟩ := h
    rfl
  obtain ⟨v, a, z, t, rfl, hv, hw, hd, ha, zo, q⟩ := h
  have nd := scAll.nd
  have hr1 : Room 1 _ := hr.mono (by omega)
  obtain ⟨p, vt, rfl, hp, ht⟩ := id hv
  refine ⟨_, pss_cons (ps_for PassesOwn.never rfl (pi_range1 (by rfl) mr (pa_cons (pe_ix ix_tup (pv 1) pe_int (fun _ _ => rfl)) pa_nil)) (pg_name (i := 2) nd rfl (Or.inl rfl))
      (pss_one (ps_for PassesOwn.never rfl (pi_range1 (by rfl) mr (pa_cons (pe_ix ix_tup (pv 1) pe_int (fun _ _ => rfl)) pa_nil)) (pg_name (i := 3) nd rfl (Or.inl rfl))
        (pss_one (ps_for PassesOwn.never rfl (pi_range1 (by rfl) mr (pa_cons (pe_ix ix_tup (pv 0) pe_int (fun _ _ => rfl)) pa_nil)) (pg_name (i := 4) nd rfl (Or.inl rfl))
          (pss_one (ps_for PassesOwn.never rfl (pi_range1 (by rfl) mr (pa_cons (pe_ix ix_tup (pv 0) pe_int (fun _ _ => rfl)) pa_nil)) (pg_name (i := 5) nd rfl (Or.inl rfl))
            (pss_one (ps_if (pt_not (pt_val (pe_call GS hr rfl mS kS bS .nil pass0 (pa_cons (pe_call GH hr1 rfl mH kH bH .nil pass0 (pa_cons (pv 0) (pa_cons (pe_tup (pa_cons (pv 2) (pa_cons (pv 3) pa_nil))) (pa_cons (pe_tup (pa_cons (pv 4) (pa_cons (pv 5) pa_nil))) pa_nil))))
              (pa_cons (pe_call GG hr1 rfl mG kG bG .nil pass0 (pa_cons (pv 0) (pa_cons (pe_tup (pa_cons (pv 2) (pa_cons (pv 3) pa_nil))) (pa_cons (pe_tup (pa_cons (pv 4) (pa_cons (pv 5) pa_nil))) pa_nil)))) pa_nil))))) (pss_one (ps_ret pe_bl)) pss_nil)))))))))
    (pss_one (ps_ret pe_bl)), ?_⟩
  obtain ⟨z0, z1, z2, z3⟩ := zo
  refine ⟨_, rfl, a, _, _, _, rfl, rfl, ha, rfl, _, rfl, by omega, by omega, ?_⟩
  refine for_range (lo := 0) (n := z.X0) (fun _ σ H' => (∃ c2 c3 c4 c5, σ = [some (.ref p), some (.ref a), c2, c3, c4, c5]) ∧ Same H H') ⟨⟨_, _, _, _, rfl⟩, Same.refl H⟩ ?_ ?_
  · rintro x σ H1 hx ⟨⟨c2, c3, c4, c5, rfl⟩, s1⟩
    refine ⟨_, rfl, a, _, _, _, rfl, rfl, seqT s1 ha, rfl, _, rfl, by omega, by omega, ?_⟩
    refine for_range (lo := 0) (n := z.X1) (fun _ σ H' => (∃ c3 c4 c5, σ = [some (.ref p), some (.ref a), some (.int (0 + x)), c3, c4, c5]) ∧ Same H H') ⟨⟨_, _, _, rfl⟩, s1⟩ ?_ ?_
    · rintro y σ H2 hy ⟨⟨c3, c4, c5, rfl⟩, s2⟩
      refine ⟨_, rfl, p, _, _, _, rfl, rfl, seqT s2 hp, rfl, _, rfl, by omega, by omega, ?_⟩
      refine for_range (lo := 0) (n := z.C0) (fun _ σ H' => (∃ c4 c5, σ = [some (.ref p), some (.ref a), some (.int (0 + x)), some (.int (0 + y)), c4, c5]) ∧ Same H H') ⟨⟨_, _, rfl⟩, s2⟩ ?_ ?_
      · rintro r σ H3 hr3 ⟨⟨c4, c5, rfl⟩, s3⟩
        refine ⟨_, rfl, p, _, _, _, rfl, rfl, seqT s3 hp, rfl, _, rfl, by omega, by omega, ?_⟩
        refine for_range (lo := 0) (n := z.C1) (fun _ σ H' => (∃ c5, σ = [some (.ref p), some (.ref a), some (.int (0 + x)), some (.int (0 + y)), some (.int (0 + r)), c5]) ∧ Same H H') ⟨⟨_, rfl⟩, s3⟩ ?_ ?_
        · rintro s' σ H4 hs4 ⟨⟨c5, rfl⟩, s4⟩
          have zx : V.int (0 + (x : Int)) = V.int x := by rw [Int.zero_add]
          have zy : V.int (0 + (y : Int)) = V.int y := by rw [Int.zero_add]
          have zr : V.int (0 + (r : Int)) = V.int r := by rw [Int.zero_add]
          have zs : V.int (0 + (s' : Int)) = V.int s' := by rw [Int.zero_add]
          refine ⟨_, rfl, _, rfl, _, rfl, (by show 2 ≤ sizeLine; decide), fun p1 n1 => ⟨_, rfl, _, rfl, (by show 2 ≤ sizeLine; decide), fun p2 n2 => ?_⟩⟩
          have g1 := same_new n1 (.tup [V.int (0 + (x : Int)), V.int (0 + (y : Int))])
          have g2 := same_new n2 (.tup [V.int (0 + (r : Int)), V.int (0 + (s' : Int))])
          have g12 := s4.trans (g1.trans g2)
          refine ⟨_, p1, p2, z, t, x, y, r, s', rfl, ⟨p, vt, rfl, seqT g12 hp, ht.keep (tk_same g12)⟩, hw, hd, ?_, ?_, hx, hy, hr3, hs4, fun u H5 s5 hu => ?_⟩
          · rw [← zx, ← zy]
            exact seqT g2 (SqT.of upd_same)
          · rw [← zr, ← zs]
            exact SqT.of upd_same
          have s45 := g12.trans s5
          refine ⟨_, rfl, _, rfl, _, rfl, (by show 2 ≤ sizeLine; decide), fun p3 n3 => ⟨_, rfl, _, rfl, (by show 2 ≤ sizeLine; decide), fun p4 n4 => ?_⟩⟩
          have g3 := same_new n3 (.tup [V.int (0 + (x : Int)), V.int (0 + (y : Int))])
          have g4 := same_new n4 (.tup [V.int (0 + (r : Int)), V.int (0 + (s' : Int))])
          have g34 := s45.trans (g3.trans g4)
          refine ⟨_, p3, p4, z, t, x, y, r, s', rfl, ⟨p, vt, rfl, seqT g34 hp, ht.keep (tk_same g34)⟩, hw, hd, ?_, ?_, hx, hy, hr3, hs4, fun u' H6 s6 hu' => ?_⟩
          · rw [← zx, ← zy]
            exact seqT g4 (SqT.of upd_same)
          · rw [← zr, ← zs]
            exact SqT.of upd_same
          have hl := hold_len t x y r s'
          exact ⟨u, u', rfl, res_same (by omega) (hu.keep (tk_same ((g3.trans g4).trans s6))) hu', _, rfl, iteF ⟨⟨_, rfl⟩, g34.trans s6⟩⟩
        · rintro σ H4 ⟨⟨c5, rfl⟩, s4⟩
          exact ⟨⟨_, _, rfl⟩, s4⟩
      · rintro σ H3 ⟨⟨c4, c5, rfl⟩, s3⟩
        exact ⟨⟨_, _, _, rfl⟩, s3⟩
    · rintro σ H2 ⟨⟨c3, c4, c5, rfl⟩, s2⟩
      exact ⟨⟨_, _, _, _, rfl⟩, s2⟩
  · rintro σ H1 ⟨_, s1⟩
    exact q _ s1
end
end V1
set_option Elab.async false
set_option maxRecDepth 100000
namespace V1
open PySem L2
def zD : Sz := ⟨2, 1, 1, 2⟩
def Es (K : PySem.W.Frag) (H : Hp) (es : List V) : Prop := es.length = 3 ∧ ∀ e ∈ es, ∃ t, TreeAt K H e t ∧ WT zD t ∧ t.depth = 1
theorem Es.keep {K : PySem.W.Frag} {H H' : Hp} {es : List V} (t : TupKeep K H H') (q : Es K H es) : Es K H' es := ⟨q.1, fun e he => by
  obtain ⟨x, h, w⟩ := q.2 e he
  exact ⟨x, h.keep t, w⟩⟩
theorem atI_mem {α : Type} {xs : List α} {j : Int} (h0 : 0 ≤ j) (h1 : j < (xs.length : Int)) : ∃ e, atI xs j = some e ∧ e ∈ xs := by
  obtain ⟨n, rfl⟩ := Int.eq_ofNat_of_zero_le h0
  have hn : n < xs.length := by omega
  exact ⟨xs[n], atI_nat (List.getElem?_eq_getElem hn), List.getElem_mem hn⟩
section
variable {P : Program} {w : World} {K : PySem.W.Frag} {mg : Str → Option Value} {base : Heap}
def spDeep (K : PySem.W.Frag) : Sp := fun vs H Q _ => ∃ (h d a b : Addr), vs = [.ref h, .ref a, .ref b] ∧ HandOk h d H ∧ SqT K H a [.int 2, .int 1] ∧ SqT K H b [.int 1, .int 2] ∧
  ∀ (v : V) (t : Tr) (H' : Hp), Ext h H H' → HandOk h d H' → TalkAt K H' v zD t → WT zD t → t.depth ≤ 300 → Q v H'
theorem scDeep : FnScope ["hand", "sizes", "coins", "tree", "k", "ends", "side", "way", "bits", "other"] ["hand", "sizes", "coins"] (defScope sDeep) := ⟨rfl, rfl, rfl, by decide +kernel, rfl, by decide +kernel, by decide +kernel⟩
theorem ok_deep {f fT fB : Addr} {fd fdT fdB : FuncData} (F : Fun K "_law_deep" "_law_deep" sDeep f fd)
    (GT : FnOk P w K mg base CX0 1 fT fdT ["hand", "many"] (spTake K)) (bT : Binds K fdT ["hand", "many"] []) (kT : PySem.W.keepIn K (.ref fT) = true) (mT : mg "_law_take" = some (.ref fT))
    (GB : FnOk P w K mg base CX0 2 fB fdB ["hand", "inputs", "coins", "most"] (spBits K)) (bB : Binds K fdB ["hand", "inputs", "coins", "most"] []) (kB : PySem.W.keepIn K (.ref fB) = true) (mB : mg "_law_bits" = some (.ref fB))
    (mr : mg "range" = none) (mi : mg "int" = none) :
    FnOk P w K mg base CX0 3 f fd ["hand", "sizes", "coins"] (spDeep K) := by
  refine F.ok scDeep (fun vs H Q E h => ?_) (fun cdv A outer s H vs Q E hr h => ?_)
  · obtain ⟨h, d, a, b, rfl, _⟩ := h
    rfl
  obtain ⟨h, d, a, b, rfl, hk, ha, hb, q⟩ := h
  have nd := scDeep.nd
  have hr1 : Room 1 _ := hr.mono (by omega)
  refine ⟨_, pss_cons (ps_set (i := 3) nd rfl (Or.inl rfl) (pe_tup (pa_cons pe_str
        (pa_cons (pe_call GB hr rfl mB kB bB .nil pass0 (pa_cons (pv 0) (pa_cons (pe_ix ix_tup (pv 1) pe_int (fun _ _ => rfl)) (pa_cons (pe_ix ix_tup (pv 2) pe_int (fun _ _ => rfl)) (pa_cons pe_int pa_nil)))))
        (pa_cons (pe_call GB hr rfl mB kB bB .nil pass0 (pa_cons (pv 0) (pa_cons (pe_ix ix_tup (pv 1) pe_int (fun _ _ => rfl)) (pa_cons (pe_ix ix_tup (pv 2) pe_int (fun _ _ => rfl)) (pa_cons pe_int pa_nil))))) pa_nil)))))
    (pss_cons (ps_setLc (i := 5) (own := [("k", 4)]) (g := gName 4) (tt := tYes) rfl nd rfl rfl (sw_true rfl rfl rfl (by decide +kernel)) (pi_range1 (by rfl) mr (pa_cons pe_int pa_nil)) (blkOk_by (by kernel_rfl))
        (fun _ _ _ _ _ => pg_name (i := 4) nd rfl (Or.inl rfl)) (fun _ _ _ _ _ => pts_nil)
        (fun _ _ _ _ _ => pe_tup (pa_cons pe_str
          (pa_cons (pe_call GB hr rfl mB kB bB .nil pass0 (pa_cons (pv 0) (pa_cons (pe_ix (ix_tupK (K := K) rfl) (pv 1) pe_int (fun _ _ => rfl)) (pa_cons (pe_ix (ix_tupK (K := K) rfl) (pv 2) pe_int (fun _ _ => rfl)) (pa_cons pe_int pa_nil)))))
          (pa_cons (pe_call GB hr rfl mB kB bB .nil pass0 (pa_cons (pv 0) (pa_cons (pe_ix (ix_tupK (K := K) rfl) (pv 1) pe_int (fun _ _ => rfl)) (pa_cons (pe_ix (ix_tupK (K := K) rfl) (pv 2) pe_int (fun _ _ => rfl)) (pa_cons pe_int pa_nil))))) pa_nil)))))
    (pss_cons (ps_for PassesOwn.never rfl (pi_range1 (by rfl) mr (pa_cons (pe_op op_add pe_int (pe_call GT hr1 rfl mT kT bT .nil pass0 (pa_cons (pv 0) (pa_cons pe_int pa_nil)))) pa_nil)) (pg_name (i := 4) nd rfl (Or.inl rfl))
      (pss_cons (ps_set (i := 6) nd rfl (Or.inl rfl) (pe_op op_mod (pe_callTy call_int1 (by rfl) mi PyProof.Rows.boot_int (pa_cons (pv 4) pa_nil)) pe_int))
      (pss_cons (ps_set (i := 7) nd rfl (Or.inl rfl) (pe_op op_mod (pe_callTy call_int1 (by rfl) mi PyProof.Rows.boot_int (pa_cons (pe_op op_add (pe_op op_fdiv (pv 4) pe_int) (pe_op op_fdiv (pv 4) pe_int)) pa_nil)) pe_int))
      (C8.pss_cut (ps_set (i := 8) nd rfl (Or.inl rfl) (pe_op op_repP (pe_tup (pa_cons (pe_op op_repP (pe_tup (pa_cons (pv 7) pa_nil)) (pe_ix ix_tup (pv 2) (pv 6) (fun _ _ => rfl))) pa_nil)) (pe_ix ix_tup (pv 1) (pv 6) (fun _ _ => rfl))))
      (C8.pss_cut (ps_if (pt_cmpR op_eq (pe_op op_mod (pe_callTy call_int1 (by rfl) mi PyProof.Rows.boot_int (pa_cons (pv 4) pa_nil)) pe_int) pe_int (nomark _))
          (pss_one (ps_set (i := 8) nd rfl (Or.inl rfl) (pe_call GB hr rfl mB kB bB .nil pass0 (pa_cons (pv 0) (pa_cons (pe_ix ix_tup (pv 1) (pv 6) (fun _ _ => rfl)) (pa_cons (pe_ix ix_tup (pv 2) (pv 6) (fun _ _ => rfl)) (pa_cons pe_int pa_nil))))))) pss_nil)
      (pss_cons (ps_set (i := 9) nd rfl (Or.inl rfl) (pe_ix ix_list (pv 5) (pe_op op_mod (pe_callTy call_int1 (by rfl) mi PyProof.Rows.boot_int (pa_cons (pv 4) pa_nil)) pe_int) (fun _ _ => rfl)))
      (pss_one (ps_set (i := 3) nd rfl (Or.inl rfl) (pe_op op_catT (pe_tup (pa_cons pe_str (pa_cons (pv 6) (pa_cons (pv 8) pa_nil))))
        (pe_ix ix_list (pe_lst (pa_cons (pe_tup (pa_cons (pv 3) (pa_cons (pv 9) pa_nil))) (pa_cons (pe_tup (pa_cons (pv 9) (pa_cons (pv 3) pa_nil))) pa_nil))) (pv 7) (fun _ _ => rfl)))))))))))
    (pss_one (ps_ret (pe_tup (pa_cons pe_str (pa_cons (pe_ix ix_tup (pv 2) pe_int (fun _ _ => rfl)) (pa_cons (pe_ix ix_tup (pv 2) pe_int (fun _ _ => rfl)) (pa_cons (pv 3) pa_nil))))))))), ?_⟩
  -- tree = ("end", ..)
  refine ⟨_, rfl, _, rfl, a, _, _, _, rfl, rfl, ha, rfl, _, rfl, b, _, _, _, rfl, rfl, hb, rfl, h, d, 2, 1, 9, rfl, hk, by decide, by decide, by decide, fun v0 g0 H1 e1 k1 q0 w0 => ?_⟩
  have t1 : TupKeep K H H1 := tk_ext hk e1
  refine ⟨_, rfl, _, rfl, a, _, _, _, rfl, rfl, t1 _ _ ha, rfl, _, rfl, b, _, _, _, rfl, rfl, t1 _ _ hb, rfl, h, d, 1, 2, 9, rfl, k1, by decide, by decide, by decide, fun v1 g1 H2 e2 k2 q1 w1 => ?_⟩
  have t12 : TupKeep K H1 H2 := tk_ext k1 e2
  refine ⟨(by show 3 ≤ sizeLine; decide), fun p np => ?_⟩
  have s3 := same_new np (.tup [.str "end", v0, v1])
  have k3 := k2.same s3
  have e03 : Ext h H _ := e1.trans (e2.trans (ext_of_same s3))
  have hT0 : TreeAt K _ (.ref p) (.fin g0 g1) := ⟨p, v0, v1, rfl, SqT.of upd_same, (q0.keep t12).keep (tk_same s3), q1.keep (tk_same s3)⟩
  have wT0 : WT zD (.fin g0 g1) := ⟨w0.mono fun _ _ => trivial, w1.mono fun _ _ => trivial⟩
  -- ends
  refine ⟨_, rfl, by decide, by decide, fun D nD => ?_⟩
  have nDh := k3.ne nD
  have nDd := k3.ne2 nD
  refine lc_range (lo := 0) (n := 3) (fun i H' => ∃ es : List V, Ext h (upd H2 p (.tup [.str "end", v0, v1])) H' ∧ HandOk h d H' ∧ H' D = some (.lst es) ∧ es.length = i ∧ ∀ e ∈ es, ∃ t, TreeAt K H' e t ∧ WT zD t ∧ t.depth = 1)
    ⟨[], ext_new nD _, k3.new nD _, upd_same, rfl, fun _ h => by cases h⟩ ?_ ?_
  · rintro i H4 hi ⟨es, e4, k4, hD, el, et⟩
    have t4 : TupKeep K H H4 := tk_ext hk (e03.trans e4)
    refine ⟨rfl, ?_⟩
    refine ⟨_, rfl, _, rfl, a, _, _, _, rfl, rfl, t4 _ _ ha, rfl, _, rfl, b, _, _, _, rfl, rfl, t4 _ _ hb, rfl, h, d, 2, 1, 9, rfl, k4, by decide, by decide, by decide, fun u0 g0 H5 e5 k5 q0 w0 => ?_⟩
    have t45 : TupKeep K H4 H5 := tk_ext k4 e5
    refine ⟨_, rfl, _, rfl, a, _, _, _, rfl, rfl, t45 _ _ (t4 _ _ ha), rfl, _, rfl, b, _, _, _, rfl, rfl, t45 _ _ (t4 _ _ hb), rfl, h, d, 1, 2, 9, rfl, k5, by decide, by decide, by decide, fun u1 g1 H6 e6 k6 q1 w1 => ?_⟩
    have t56 : TupKeep K H5 H6 := tk_ext k5 e6
    refine ⟨(by show 3 ≤ sizeLine; decide), fun r nr => ?_⟩
    have s7 := same_new nr (.tup [.str "end", u0, u1])
    have e47 : Ext h H4 _ := e5.trans (e6.trans (ext_of_same s7))
    have hD7 := e47 _ _ nDh hD
    have t47 : TupKeep K H4 _ := (t45.trans t56).trans (tk_same s7)
    refine ⟨es, hD7, ?_, es ++ [.ref r], ext_put nD e4 e47 _, (k6.same s7).put nDh nDd _, upd_same, ?_, ?_⟩
    · rw [el]
      exact small1000 (by omega)
    · rw [List.length_append, el]
      rfl
    · intro e he
      have tp : TupKeep K _ _ := tk_put (K := K) hD7 (.lst (es ++ [.ref r]))
      rcases List.mem_append.mp he with he | he
      · obtain ⟨t, ht, wt⟩ := et e he
        exact ⟨t, (ht.keep t47).keep tp, wt⟩
      · cases List.mem_singleton.mp he
        exact ⟨.fin g0 g1, TreeAt.keep tp ⟨r, u0, u1, rfl, SqT.of upd_same, (q0.keep t56).keep (tk_same s7), q1.keep (tk_same s7)⟩, ⟨w0.mono fun _ _ => trivial, w1.mono fun _ _ => trivial⟩, rfl⟩
  · rintro H4 ⟨es, e4, k4, hD, el, et⟩
    have e04 : Ext h H H4 := e03.trans e4
    -- the loop
    refine ⟨_, rfl, h, d, 51, rfl, k4, by decide, fun r H5 r0 r1 e5 k5 => ⟨_, _, rfl, rfl, _, rfl, by omega, by omega, ?_⟩⟩
    have t34 : TupKeep K _ H4 := tk_ext k3 e4
    have t45 : TupKeep K H4 H5 := tk_ext k4 e5
    refine for_range (lo := 0) (n := (199 + r).toNat) (fun i σ H' => ∃ (vt : V) (t : Tr) (c4 c6 c7 c8 c9 : Option V), σ = [some (.ref h), some (.ref a), some (.ref b), some vt, c4, some (.ref D), c6, c7, c8, c9] ∧ Ext h H4 H' ∧ HandOk h d H' ∧
      TreeAt K H' vt t ∧ WT zD t ∧ t.depth ≤ i + 1) ⟨.ref p, _, _, _, _, _, _, rfl, e5, k5, (hT0.keep t34).keep t45, wT0, Nat.le_refl _⟩ ?_ ?_
    · rintro i σ H6 hi ⟨vt, t, c4, c6, c7, c8, c9, rfl, e6, k6, hT, wT, dT⟩
      have t46 : TupKeep K H4 H6 := tk_ext k4 e6
      have t06 : TupKeep K H H6 := tk_ext hk (e04.trans e6)
      have hD6 := e6 _ _ nDh hD
      have es6 : Es K H6 es := Es.keep t46 ⟨el, et⟩
      refine ⟨_, rfl, .inl ⟨_, rfl, _, _, rfl, rfl, (by show (0 : Int) < 2; decide), ?_⟩⟩
      refine ⟨_, rfl, _, _, rfl, rfl, ⟨by show (0 : Int) < 2; decide, by show (2 : Int) < 1073741824; decide⟩, _, rfl, _, _, rfl, rfl, ⟨by show (0 : Int) < 7; decide, by show (7 : Int) < 1073741824; decide⟩, _, _, rfl, rfl, .inl ⟨_, rfl, _, _, rfl, rfl, (by show (0 : Int) < 2; decide), ?_⟩⟩
      have sd0 : (0 + (i : Int)) % 2 = 0 ∨ (0 + (i : Int)) % 2 = 1 := by omega
      have wy0 : ((0 + (i : Int)) / 2 + (0 + (i : Int)) / 7) % 2 = 0 ∨ ((0 + (i : Int)) / 2 + (0 + (i : Int)) / 7) % 2 = 1 := by omega
      have m30 : (0 + (i : Int)) % 3 = 0 ∨ (0 + (i : Int)) % 3 = 1 ∨ (0 + (i : Int)) % 3 = 2 := by omega
      obtain ⟨n, c, ax, ac, bn, bc, hg⟩ : ∃ n c : Nat, atI [V.int 2, V.int 1] ((0 + (i : Int)) % 2) = some (.int n) ∧ atI [V.int 1, V.int 2] ((0 + (i : Int)) % 2) = some (.int c) ∧ n ≤ 1000 ∧ c ≤ 1000 ∧ (((0 + (i : Int)) % 2 = 0 ∧ n = 2 ∧ c = 1) ∨ ((0 + (i : Int)) % 2 = 1 ∧ n = 1 ∧ c = 2)) := by
        rcases sd0 with e | e
        · exact ⟨2, 1, by rw [e]; rfl, by rw [e]; rfl, by decide, by decide, .inl ⟨e, rfl, rfl⟩⟩
        · exact ⟨1, 2, by rw [e]; rfl, by rw [e]; rfl, by decide, by decide, .inr ⟨e, rfl, rfl⟩⟩
      let Mid : St → Hp → Prop := fun σ' H'' => ∃ (vb : V) (g : List (List Int)), σ' = [some (.ref h), some (.ref a), some (.ref b), some vt, some (.int (0 + (i : Int))), some (.ref D), some (.int ((0 + (i : Int)) % 2)), some (.int (((0 + (i : Int)) / 2 + (0 + (i : Int)) / 7) % 2)), some vb, c9] ∧
        Ext h H6 H'' ∧ HandOk h d H'' ∧ GridAt K H'' vb g ∧ Gr n c Bit g
      refine ⟨Mid, ?_, ?_⟩
      · rcases hg with ⟨e, rfl, rfl⟩ | ⟨e, rfl, rfl⟩
        · refine ⟨_, rfl, (by show 1 ≤ sizeLine; decide), fun p0 n0 => ?_⟩
          have g0 := same_new n0 (.tup [V.int (((0 + (i : Int)) / 2 + (0 + (i : Int)) / 7) % 2)])
          refine ⟨_, rfl, _, rfl, b, _, _, _, rfl, rfl, seqT g0 (t06 _ _ hb), ac, p0, 1, _, rfl, rfl, SqT.of upd_same, (fun e => nomatch e), by decide, by decide, (by show 1 ≤ 1000; decide), fun _ => ?_, fun c => absurd c (by decide)⟩
          refine ⟨(by show 1 ≤ sizeLine; decide), fun p1 n1 => ?_⟩
          have g1 := same_new n1 (.tup [V.ref p0])
          refine ⟨_, rfl, _, rfl, a, _, _, _, rfl, rfl, seqT (g0.trans g1) (t06 _ _ ha), ax, p1, 2, _, rfl, rfl, SqT.of upd_same, (fun e => nomatch e), by decide, by decide, (by show 1 ≤ 1000; decide), fun c => absurd c (by decide), fun _ p2 n2 => ?_⟩
          have g2 := same_new n2 (.tup (List.replicate (2 : Int).toNat [V.ref p0]).flatten)
          have hr0 : RowAt K (upd (upd (upd H6 p0 (.tup [V.int (((0 + (i : Int)) / 2 + (0 + (i : Int)) / 7) % 2)])) p1 (.tup [V.ref p0])) p2 (.tup (List.replicate (2 : Int).toNat [V.ref p0]).flatten)) (.ref p0) [((0 + (i : Int)) / 2 + (0 + (i : Int)) / 7) % 2] := ⟨p0, rfl, seqT (g1.trans g2) (SqT.of upd_same)⟩
          exact ⟨.ref p2, [[((0 + (i : Int)) / 2 + (0 + (i : Int)) / 7) % 2], [((0 + (i : Int)) / 2 + (0 + (i : Int)) / 7) % 2]], rfl, ext_of_same (g0.trans (g1.trans g2)), k6.same (g0.trans (g1.trans g2)), ⟨p2, _, rfl, SqT.of upd_same, .cons hr0 (.cons hr0 .nil)⟩, rfl, fun r hr => by
            have er : r = [((0 + (i : Int)) / 2 + (0 + (i : Int)) / 7) % 2] := by
              rcases List.mem_cons.mp hr with hr | hr
              · exact hr
              · exact List.mem_singleton.mp hr
            subst er
            exact ⟨rfl, fun x hx => by rw [List.mem_singleton.mp hx]; exact wy0⟩⟩
        · refine ⟨_, rfl, (by show 1 ≤ sizeLine; decide), fun p0 n0 => ?_⟩
          have g0 := same_new n0 (.tup [V.int (((0 + (i : Int)) / 2 + (0 + (i : Int)) / 7) % 2)])
          refine ⟨_, rfl, _, rfl, b, _, _, _, rfl, rfl, seqT g0 (t06 _ _ hb), ac, p0, 2, _, rfl, rfl, SqT.of upd_same, (fun e => nomatch e), by decide, by decide, (by show 1 ≤ 1000; decide), fun c => absurd c (by decide), fun _ p1 n1 => ?_⟩
          have g1 := same_new n1 (.tup (List.replicate (2 : Int).toNat [V.int (((0 + (i : Int)) / 2 + (0 + (i : Int)) / 7) % 2)]).flatten)
          refine ⟨(by show 1 ≤ sizeLine; decide), fun p2 n2 => ?_⟩
          have g2 := same_new n2 (.tup [V.ref p1])
          refine ⟨_, rfl, _, rfl, a, _, _, _, rfl, rfl, seqT (g0.trans (g1.trans g2)) (t06 _ _ ha), ax, p2, 1, _, rfl, rfl, SqT.of upd_same, (fun e => nomatch e), by decide, by decide, (by show 1 ≤ 1000; decide), fun _ => ?_, fun c => absurd c (by decide)⟩
          exact ⟨.ref p2, [[((0 + (i : Int)) / 2 + (0 + (i : Int)) / 7) % 2, ((0 + (i : Int)) / 2 + (0 + (i : Int)) / 7) % 2]], rfl, ext_of_same (g0.trans (g1.trans g2)), k6.same (g0.trans (g1.trans g2)), ⟨p2, _, rfl, SqT.of upd_same, .cons ⟨p1, rfl, seqT g2 (SqT.of upd_same)⟩ .nil⟩, rfl, fun r hr => by
            have er := List.mem_singleton.mp hr
            subst er
            exact ⟨rfl, fun x hx => by
              rcases List.mem_cons.mp hx with hx | hx
              · rw [hx]; exact wy0
              · rw [List.mem_singleton.mp hx]; exact wy0⟩⟩
      · rintro σ' H7 ⟨vb, g, rfl, e7, k7, gA, gB⟩
        have t67 : TupKeep K H6 H7 := tk_ext k6 e7
        refine ⟨Mid, ?_, ?_⟩
        · refine ⟨_, rfl, .inl ⟨_, rfl, _, _, rfl, rfl, (by show (0 : Int) < 61; decide), rfl, _, rfl, ?_⟩⟩
          refine ite2 (fun _ => ?_) (fun _ => ?_)
          · refine ⟨_, rfl, _, rfl, _, rfl, a, _, _, _, rfl, rfl, t67 _ _ (t06 _ _ ha), ax, _, rfl, _, rfl, b, _, _, _, rfl, rfl, t67 _ _ (t06 _ _ hb), ac, h, d, n, c, 2, rfl, k7, bn, bc, by decide, fun v8 g8 H8 e8 k8 gA8 gB8 => ?_⟩
            exact ⟨v8, g8, rfl, e7.trans e8, k8, gA8, gB8.mono fun x hx => (by show x = 0 ∨ x = 1; omega)⟩
          · exact ⟨vb, g, rfl, e7, k7, gA, gB⟩
        · rintro σ' H8 ⟨vb, g, rfl, e8, k8, gA, gB⟩
          have t68 : TupKeep K H6 H8 := tk_ext k6 e8
          have hD8 := e8 _ _ nDh hD6
          have es8 := Es.keep t68 es6
          obtain ⟨oe, ho, hoe⟩ := atI_mem (xs := es) (j := (0 + (i : Int)) % 3) (by omega) (by rw [es6.1]; omega)
          obtain ⟨te, hte, wte, dte⟩ := es8.2 oe hoe
          have hT8 := hT.keep t68
          refine ⟨_, rfl, _, rfl, .inl ⟨_, rfl, _, _, rfl, rfl, (by show (0 : Int) < 3; decide), D, _, _, _, rfl, rfl, SqL.of hD8, ho, ?_⟩⟩
          refine ⟨_, rfl, _, rfl, (by show 3 ≤ sizeLine; decide), fun p0 n0 => ⟨_, rfl, _, rfl, (by show 2 ≤ sizeLine; decide), fun q1 m1 => ⟨_, rfl, _, rfl, (by show 2 ≤ sizeLine; decide), fun q2 m2 => ⟨(by show 2 ≤ sizeLine; decide), fun L nL => ?_⟩⟩⟩⟩
          have g0 := same_new n0 (.tup [V.str "say", V.int ((0 + (i : Int)) % 2), vb])
          have g1 := same_new m1 (.tup [vt, oe])
          have g2 := same_new m2 (.tup [oe, vt])
          have g3 := same_new nL (.lst [V.ref q1, V.ref q2])
          have g03 := g0.trans (g1.trans (g2.trans g3))
          have hsay : (((0 + (i : Int)) % 2 = 0 ∧ Gr zD.X0 zD.C0 Bit g) ∨ ((0 + (i : Int)) % 2 = 1 ∧ Gr zD.X1 zD.C1 Bit g)) := by
            rcases hg with ⟨e, rfl, rfl⟩ | ⟨e, rfl, rfl⟩
            · exact .inl ⟨e, gB⟩
            · exact .inr ⟨e, gB⟩
          rcases wy0 with ew | ew
          · refine ⟨_, rfl, L, _, _, .ref q1, rfl, rfl, SqL.of upd_same, (by rw [ew]; rfl), p0, q1, _, _, rfl, rfl, seqT (g1.trans (g2.trans g3)) (SqT.of upd_same), seqT (g2.trans g3) (SqT.of upd_same), (fun e => nomatch e), (by show 5 ≤ sizeLine; decide), fun e => (nomatch e), fun _ R nR => ?_⟩
            have g4 := same_new nR (.tup ([V.str "say", V.int ((0 + (i : Int)) % 2), vb] ++ [vt, oe]))
            have g04 := g03.trans g4
            refine ⟨.ref R, .say ((0 + (i : Int)) % 2) g t te, _, _, _, _, _, rfl, e6.trans (e8.trans (ext_of_same g04)), k8.same g04, ⟨R, vb, vt, oe, rfl, SqT.of upd_same, gA.keep (tk_same g04), hT8.keep (tk_same g04), hte.keep (tk_same g04)⟩, ⟨hsay, wT, wte⟩, ?_⟩
            show 1 + max t.depth te.depth ≤ i + 1 + 1
            omega
          · refine ⟨_, rfl, L, _, _, .ref q2, rfl, rfl, SqL.of upd_same, (by rw [ew]; rfl), p0, q2, _, _, rfl, rfl, seqT (g1.trans (g2.trans g3)) (SqT.of upd_same), seqT g3 (SqT.of upd_same), (fun e => nomatch e), (by show 5 ≤ sizeLine; decide), fun e => (nomatch e), fun _ R nR => ?_⟩
            have g4 := same_new nR (.tup ([V.str "say", V.int ((0 + (i : Int)) % 2), vb] ++ [oe, vt]))
            have g04 := g03.trans g4
            refine ⟨.ref R, .say ((0 + (i : Int)) % 2) g te t, _, _, _, _, _, rfl, e6.trans (e8.trans (ext_of_same g04)), k8.same g04, ⟨R, vb, oe, vt, rfl, SqT.of upd_same, gA.keep (tk_same g04), hte.keep (tk_same g04), hT8.keep (tk_same g04)⟩, ⟨hsay, wte, wT⟩, ?_⟩
            show 1 + max te.depth t.depth ≤ i + 1 + 1
            omega
    · rintro σ H6 ⟨vt, t, c4, c6, c7, c8, c9, rfl, e6, k6, hT, wT, dT⟩
      have t06 : TupKeep K H H6 := tk_ext hk (e04.trans e6)
      refine ⟨_, rfl, b, _, _, _, rfl, rfl, t06 _ _ hb, rfl, _, rfl, b, _, _, _, rfl, rfl, t06 _ _ hb, rfl, _, rfl, (by show 4 ≤ sizeLine; decide), fun R nR => ?_⟩
      have s7 := same_new nR (.tup [.str "talk", .int 1, .int 2, vt])
      exact q (.ref R) t _ (e04.trans (e6.trans (ext_of_same s7))) (k6.same s7) ⟨R, vt, rfl, SqT.of upd_same, hT.keep (tk_same s7)⟩ wT (by omega)
end
end V1
set_option Elab.async false
set_option maxRecDepth 100000
namespace V1
open PySem L2
section
variable {P : Program} {w : World} {K : PySem.W.Frag} {mg : Str → Option Value} {base : Heap}
def spLaw (K : PySem.W.Frag) : Sp := fun vs H Q _ => ∃ (a : Addr) (ns : List Int), vs = [.ref a] ∧ SqL K H a (ns.map V.int) ∧ ns.length ≤ 63 ∧ ∀ H', Q (.bl true) H'
theorem scLaw : FnScope ["script", "hand", "sizes", "talk", "great", "deep"] ["script"] (defScope sLaw) := ⟨rfl, rfl, rfl, by decide +kernel, rfl, by decide +kernel, by decide +kernel⟩
theorem ok_law {f fD fT fK fA fG fE : Addr} {fd fdD fdT fdK fdA fdG fdE : FuncData} (F : Fun K "law" "law" sLaw f fd)
    (GD : FnOk P w K mg base CX0 1 fD fdD ["script", "many"] (spDraws K)) (bD : Binds K fdD ["script", "many"] []) (kD : PySem.W.keepIn K (.ref fD) = true) (mD : mg "_law_draws" = some (.ref fD))
    (GT : FnOk P w K mg base CX0 1 fT fdT ["hand", "many"] (spTake K)) (bT : Binds K fdT ["hand", "many"] []) (kT : PySem.W.keepIn K (.ref fT) = true) (mT : mg "_law_take" = some (.ref fT))
    (GK : FnOk P w K mg base CX0 7 fK fdK ["hand", "sizes", "answers"] (spTalk K)) (bK : Binds K fdK ["hand", "sizes", "answers"] []) (kK : PySem.W.keepIn K (.ref fK) = true) (mK : mg "_law_talk" = some (.ref fK))
    (GA : FnOk P w K mg base CX0 4 fA fdA ["talk", "sizes"] (spAll K)) (bA : Binds K fdA ["talk", "sizes"] []) (kA : PySem.W.keepIn K (.ref fA) = true) (mA : mg "_law_all_right" = some (.ref fA))
    (GG : FnOk P w K mg base CX0 5 fG fdG ["hand", "tree"] (spGreat K 4)) (bG : Binds K fdG ["hand", "tree"] []) (kG : PySem.W.keepIn K (.ref fG) = true) (mG : mg "_law_great" = some (.ref fG))
    (GE : FnOk P w K mg base CX0 3 fE fdE ["hand", "sizes", "coins"] (spDeep K)) (bE : Binds K fdE ["hand", "sizes", "coins"] []) (kE : PySem.W.keepIn K (.ref fE) = true) (mE : mg "_law_deep" = some (.ref fE)) :
    FnOk P w K mg base CX0 8 f fd ["script"] (spLaw K) := by
  refine F.ok scLaw (fun vs H Q E h => ?_) (fun cdv A outer s H vs Q E hr h => ?_)
  · obtain ⟨a, ns, rfl, _⟩ := h
    rfl
  obtain ⟨a, ns, rfl, hS, h63, q⟩ := h
  have nd := scLaw.nd
  have hr1 : Room 1 _ := hr.mono (by omega)
  have hr4 : Room 4 _ := hr.mono (by omega)
  have hr5 : Room 5 _ := hr.mono (by omega)
  have hr3 : Room 3 _ := hr.mono (by omega)
  refine ⟨_, pss_cons (ps_set (i := 1) nd rfl (Or.inl rfl) (pe_lst (pa_cons (pe_call GD hr1 rfl mD kD bD .nil pass0 (pa_cons (pv 0) (pa_cons pe_int pa_nil))) (pa_cons pe_int pa_nil))))
    (pss_cons (ps_set (i := 2) nd rfl (Or.inl rfl) (pe_tup (pa_cons (pe_op op_add pe_int (pe_call GT hr1 rfl mT kT bT .nil pass0 (pa_cons (pv 1) (pa_cons pe_int pa_nil)))) (pa_cons (pe_op op_add pe_int (pe_call GT hr1 rfl mT kT bT .nil pass0 (pa_cons (pv 1) (pa_cons pe_int pa_nil)))) pa_nil))))
    (pss_cons (ps_set (i := 3) nd rfl (Or.inl rfl) (pe_call GK hr rfl mK kK bK .nil pass0 (pa_cons (pv 1) (pa_cons (pv 2) (pa_cons pe_int pa_nil)))))
    (pss_cons (ps_if (pt_not (pt_val (pe_call GA hr4 rfl mA kA bA .nil pass0 (pa_cons (pv 3) (pa_cons (pv 2) pa_nil))))) (pss_one (ps_ret pe_bl)) pss_nil)
    (pss_cons (ps_set (i := 4) nd rfl (Or.inl rfl) (pe_op op_catT (pe_slice sl_tup (pv 3) po_none (po_some pe_int)) (pe_tup (pa_cons (pe_call GG hr5 rfl mG kG bG .nil pass0 (pa_cons (pv 1) (pa_cons (pe_ix ix_tup (pv 3) pe_int (fun _ _ => rfl)) pa_nil))) pa_nil))))
    (pss_cons (ps_if (PW.pt (pw_or (pt_not (pt_val (pe_call GA hr4 rfl mA kA bA .nil pass0 (pa_cons (pv 4) (pa_cons (pv 2) pa_nil))))) (pw_or1 (pt_not (pt_val (pe_call GA hr4 rfl mA kA bA .nil pass0 (pa_cons (pv 3) (pa_cons (pv 2) pa_nil)))))))) (pss_one (ps_ret pe_bl)) pss_nil)
    (pss_cons (ps_if (pt_cmpR op_gt (pe_call GT hr1 rfl mT kT bT .nil pass0 (pa_cons (pv 1) (pa_cons pe_int pa_nil))) pe_int (nomark _)) (pss_one (ps_ret pe_bl)) pss_nil)
    (pss_cons (ps_set (i := 5) nd rfl (Or.inl rfl) (pe_call GE hr3 rfl mE kE bE .nil pass0 (pa_cons (pv 1) (pa_cons (pe_tup (pa_cons pe_int (pa_cons pe_int pa_nil))) (pa_cons (pe_tup (pa_cons pe_int (pa_cons pe_int pa_nil))) pa_nil)))))
    (pss_one (ps_ret (pe_call GA hr4 rfl mA kA bA .nil pass0 (pa_cons (pv 5) (pa_cons (pe_tup (pa_cons pe_int (pa_cons pe_int pa_nil))) pa_nil)))))))))))), ?_⟩
  refine ⟨_, rfl, a, ns, 700, rfl, hS, h63, by decide, by decide, fun d ds H1 s1 d0 hd => ?_⟩
  refine ⟨(by show 2 ≤ sizeLine; decide), fun h nh => ?_⟩
  have hdh : d ≠ h := ne_of_none hd nh
  have k2 : HandOk h d (upd H1 h (.lst [.ref d, .int 0])) := ⟨hdh, ⟨0, Int.le_refl 0, upd_same⟩, ds, (upd_ne hdh).trans hd⟩
  refine ⟨_, rfl, h, d, 4, rfl, k2, by decide, fun r H3 r0 r1 e3 k3 => ⟨_, _, rfl, rfl, ?_⟩⟩
  refine ⟨_, rfl, h, d, 4, rfl, k3, by decide, fun r' H4 r0' r1' e4 k4 => ⟨_, _, rfl, rfl, ?_⟩⟩
  obtain ⟨X0, ex0⟩ := Int.eq_ofNat_of_zero_le (show 0 ≤ 1 + r by omega)
  obtain ⟨X1, ex1⟩ := Int.eq_ofNat_of_zero_le (show 0 ≤ 1 + r' by omega)
  refine ⟨(by show 2 ≤ sizeLine; decide), fun p np => ?_⟩
  have hp : SqT K (upd H4 p (.tup [.int (1 + r), .int (1 + r')])) p [.int X0, .int X1] := by
    rw [ex0, ex1]
    exact SqT.of upd_same
  have k5 := k4.new np (.tup [.int (1 + r), .int (1 + r')])
  refine ⟨_, rfl, _, rfl, h, d, p, X0, X1, 5, rfl, k5, hp, by omega, by omega, by decide, fun v z t H6 e6 k6 hT hW zx0 zx1 zc0 zc1 hD => ?_⟩
  subst zx0 zx1
  have zo : z.Ok := ⟨by omega, by omega, by omega, by omega⟩
  have p6 : SqT K H6 p [.int z.X0, .int z.X1] := (tk_ext k5 e6) _ _ hp
  obtain ⟨tp, vt, rfl, htp, hvt⟩ := id hT
  refine ⟨_, rfl, _, rfl, _, p, z, t, rfl, hT, hW, by omega, p6, zo, fun H7 s7 => ⟨_, rfl, iteF ?_⟩⟩
  have t7 := tk_same (K := K) s7
  refine ⟨_, rfl, _, rfl, tp, _, rfl, t7 _ _ htp, ?_, fun c nc => ?_⟩
  · intro x
    exact absurd (show HT.sIx 4 4 (some 3) = 4 from x.2) (by decide)
  have s8 := same_new nc (.tup (cutV [V.str "talk", V.int z.C0, V.int z.C1, vt] none (some 3)))
  have t78 := tk_same (K := K) (s7.trans s8)
  refine ⟨_, rfl, _, rfl, tp, _, _, _, rfl, rfl, t78 _ _ htp, rfl, h, d, vt, z, t, rfl, k6.same (s7.trans s8), hvt.keep t78, hW, zo, hD, fun u t' H9 e9 k9 hU wU dU => ?_⟩
  have t9 : TupKeep K _ H9 := tk_ext (k6.same (s7.trans s8)) e9
  have t69 : TupKeep K H6 H9 := t78.trans t9
  refine ⟨(by show 1 ≤ sizeLine; decide), fun w1 nw1 => ?_⟩
  have s10 := same_new nw1 (.tup [u])
  have hc : SqT K H9 c [V.str "talk", V.int z.C0, V.int z.C1] := t9 _ _ (SqT.of upd_same)
  refine ⟨c, w1, _, _, rfl, rfl, seqT s10 hc, SqT.of upd_same, (fun e => nomatch e), (by show 4 ≤ sizeLine; decide), fun e => (nomatch e), fun _ R nR => ?_⟩
  have s11 := same_new nR (.tup ([V.str "talk", V.int z.C0, V.int z.C1] ++ [u]))
  have t11 := tk_same (K := K) (s10.trans s11)
  have k11 := k9.same (s10.trans s11)
  refine ⟨_, rfl, _, rfl, _, p, z, t', rfl, ⟨R, u, rfl, SqT.of upd_same, hU.keep t11⟩, wU, by omega, t11 _ _ (t69 _ _ p6), zo, fun H12 s12 => ⟨_, rfl, iteF ?_⟩⟩
  have t12 := tk_same (K := K) s12
  have t612 : TupKeep K H6 H12 := (t69.trans t11).trans t12
  refine ⟨_, rfl, _, rfl, _, p, z, t, rfl, ⟨tp, vt, rfl, t612 _ _ htp, hvt.keep t612⟩, hW, by omega, t612 _ _ p6, zo, fun H13 s13 => ⟨_, rfl, iteF ?_⟩⟩
  refine ⟨_, rfl, h, d, 4, rfl, k11.same (s12.trans s13), by decide, fun r2 H14 _ _ e14 k14 => ⟨_, _, rfl, rfl, _, rfl, ite2 (fun _ => q _) (fun _ => ?_)⟩⟩
  refine ⟨_, rfl, (by show 2 ≤ sizeLine; decide), fun a1 n1 => ⟨(by show 2 ≤ sizeLine; decide), fun a2 n2 => ?_⟩⟩
  have g1 := same_new n1 (.tup [V.int 2, V.int 1])
  have g2 := same_new n2 (.tup [V.int 1, V.int 2])
  refine ⟨h, d, a1, a2, rfl, k14.same (g1.trans g2), seqT g2 (SqT.of upd_same), SqT.of upd_same, fun v t2 H15 e15 k15 hV wV dV => ?_⟩
  refine ⟨_, rfl, (by show 2 ≤ sizeLine; decide), fun a3 n3 => ?_⟩
  have g3 := same_new n3 (.tup [V.int 2, V.int 1])
  obtain ⟨p2, vt2, rfl, hp2, hvt2⟩ := hV
  exact ⟨_, a3, zD, t2, rfl, ⟨p2, vt2, rfl, seqT g3 hp2, hvt2.keep (tk_same g3)⟩, wV, dV, SqT.of upd_same, ⟨by decide, by decide, by decide, by decide⟩, fun H' _ => q H'⟩
end
theorem all_mk {l : PySem.W.OpenLaw} {w : World} {K : PySem.W.Frag} {h : Heap} {mg : Str → Option Value} {fa f1 f2 f3 f4 f5 f6 f7 f8 f9 f10 f11 f12 : Addr} (X : K.In h) (G : h.Ns mainGlobals mg) (hfa : mg "law" = some (.ref fa))
    {od1 an1 od2 an2 od3 an3 od4 an4 od5 an5 od6 an6 od7 an7 od8 an8 od9 an9 od10 an10 od11 an11 od12 an12 : Option Addr} {sl1 sl2 sl3 sl4 sl5 sl6 sl7 sl8 sl9 sl10 sl11 sl12 : Array (Option Value)} {oc1 kV1 dc1 pm1 cd1 ct1 oc2 kV2 dc2 pm2 cd2 ct2 oc3 kV3 dc3 pm3 cd3 ct3 oc4 kV4 dc4 pm4 cd4 ct4 oc5 kV5 dc5 pm5 cd5 ct5 oc6 kV6 dc6 pm6 cd6 ct6 oc7 kV7 dc7 pm7 cd7 ct7 oc8 kV8 dc8 pm8 cd8 ct8 oc9 kV9 dc9 pm9 cd9 ct9 oc10 kV10 dc10 pm10 cd10 ct10 oc11 kV11 dc11 pm11 cd11 ct11 oc12 kV12 dc12 pm12 cd12 ct12 : Value}
    (a1 : PySem.W.nsIn K mainGlobals "hold_talk" = some (some (.ref f1))) (l1 : K.lookup f1 = some ⟨oc1, od1, .func (PySem.W.fnOf "hold_talk" "hold_talk" (defArgs sHold) (defBody sHold) (defScope sHold) .none kV1 dc1 pm1 an1 cd1 ct1), sl1⟩) (c1 : PySem.W.codeIn K cd1 "hold_talk" = true) (k1 : PySem.W.keepIn K (.ref f1) = true)
    (a2 : PySem.W.nsIn K mainGlobals "_law_draws" = some (some (.ref f2))) (l2 : K.lookup f2 = some ⟨oc2, od2, .func (PySem.W.fnOf "_law_draws" "_law_draws" (defArgs sDraws) (defBody sDraws) (defScope sDraws) .none kV2 dc2 pm2 an2 cd2 ct2), sl2⟩) (c2 : PySem.W.codeIn K cd2 "_law_draws" = true) (k2 : PySem.W.keepIn K (.ref f2) = true)
    (a3 : PySem.W.nsIn K mainGlobals "_law_take" = some (some (.ref f3))) (l3 : K.lookup f3 = some ⟨oc3, od3, .func (PySem.W.fnOf "_law_take" "_law_take" (defArgs sTake) (defBody sTake) (defScope sTake) .none kV3 dc3 pm3 an3 cd3 ct3), sl3⟩) (c3 : PySem.W.codeIn K cd3 "_law_take" = true) (k3 : PySem.W.keepIn K (.ref f3) = true)
    (a4 : PySem.W.nsIn K mainGlobals "_law_bits" = some (some (.ref f4))) (l4 : K.lookup f4 = some ⟨oc4, od4, .func (PySem.W.fnOf "_law_bits" "_law_bits" (defArgs sBits) (defBody sBits) (defScope sBits) .none kV4 dc4 pm4 an4 cd4 ct4), sl4⟩) (c4 : PySem.W.codeIn K cd4 "_law_bits" = true) (k4 : PySem.W.keepIn K (.ref f4) = true)
    (a5 : PySem.W.nsIn K mainGlobals "_law_tree" = some (some (.ref f5))) (l5 : K.lookup f5 = some ⟨oc5, od5, .func (PySem.W.fnOf "_law_tree" "_law_tree" (defArgs sTree) (defBody sTree) (defScope sTree) .none kV5 dc5 pm5 an5 cd5 ct5), sl5⟩) (c5 : PySem.W.codeIn K cd5 "_law_tree" = true) (k5 : PySem.W.keepIn K (.ref f5) = true)
    (a6 : PySem.W.nsIn K mainGlobals "_law_talk" = some (some (.ref f6))) (l6 : K.lookup f6 = some ⟨oc6, od6, .func (PySem.W.fnOf "_law_talk" "_law_talk" (defArgs sTalk) (defBody sTalk) (defScope sTalk) .none kV6 dc6 pm6 an6 cd6 ct6), sl6⟩) (c6 : PySem.W.codeIn K cd6 "_law_talk" = true) (k6 : PySem.W.keepIn K (.ref f6) = true)
    (a7 : PySem.W.nsIn K mainGlobals "_law_held" = some (some (.ref f7))) (l7 : K.lookup f7 = some ⟨oc7, od7, .func (PySem.W.fnOf "_law_held" "_law_held" (defArgs sHeld) (defBody sHeld) (defScope sHeld) .none kV7 dc7 pm7 an7 cd7 ct7), sl7⟩) (c7 : PySem.W.codeIn K cd7 "_law_held" = true) (k7 : PySem.W.keepIn K (.ref f7) = true)
    (a8 : PySem.W.nsIn K mainGlobals "_law_same" = some (some (.ref f8))) (l8 : K.lookup f8 = some ⟨oc8, od8, .func (PySem.W.fnOf "_law_same" "_law_same" (defArgs sSame) (defBody sSame) (defScope sSame) .none kV8 dc8 pm8 an8 cd8 ct8), sl8⟩) (c8 : PySem.W.codeIn K cd8 "_law_same" = true) (k8 : PySem.W.keepIn K (.ref f8) = true)
    (a9 : PySem.W.nsIn K mainGlobals "_law_great" = some (some (.ref f9))) (l9 : K.lookup f9 = some ⟨oc9, od9, .func (PySem.W.fnOf "_law_great" "_law_great" (defArgs sGreat) (defBody sGreat) (defScope sGreat) .none kV9 dc9 pm9 an9 cd9 ct9), sl9⟩) (c9 : PySem.W.codeIn K cd9 "_law_great" = true) (k9 : PySem.W.keepIn K (.ref f9) = true)
    (a10 : PySem.W.nsIn K mainGlobals "_law_deep" = some (some (.ref f10))) (l10 : K.lookup f10 = some ⟨oc10, od10, .func (PySem.W.fnOf "_law_deep" "_law_deep" (defArgs sDeep) (defBody sDeep) (defScope sDeep) .none kV10 dc10 pm10 an10 cd10 ct10), sl10⟩) (c10 : PySem.W.codeIn K cd10 "_law_deep" = true) (k10 : PySem.W.keepIn K (.ref f10) = true)
    (a11 : PySem.W.nsIn K mainGlobals "_law_all_right" = some (some (.ref f11))) (l11 : K.lookup f11 = some ⟨oc11, od11, .func (PySem.W.fnOf "_law_all_right" "_law_all_right" (defArgs sAll) (defBody sAll) (defScope sAll) .none kV11 dc11 pm11 an11 cd11 ct11), sl11⟩) (c11 : PySem.W.codeIn K cd11 "_law_all_right" = true) (k11 : PySem.W.keepIn K (.ref f11) = true)
    (a12 : PySem.W.nsIn K mainGlobals "law" = some (some (.ref f12))) (l12 : K.lookup f12 = some ⟨oc12, od12, .func (PySem.W.fnOf "law" "law" (defArgs sLaw) (defBody sLaw) (defScope sLaw) .none kV12 dc12 pm12 an12 cd12 ct12), sl12⟩) (c12 : PySem.W.codeIn K cd12 "law" = true) (k12 : PySem.W.keepIn K (.ref f12) = true)
    (z_len : PySem.W.nsIn K mainGlobals "len" = some none)
    (z_int : PySem.W.nsIn K mainGlobals "int" = some none)
    (z_abs : PySem.W.nsIn K mainGlobals "abs" = some none)
    (z_range : PySem.W.nsIn K mainGlobals "range" = some none)
    (z_tuple : PySem.W.nsIn K mainGlobals "tuple" = some none)
    (z_isinstance : PySem.W.nsIn K mainGlobals "isinstance" = some none)
    (z_str : PySem.W.nsIn K mainGlobals "str" = some none)
    (z_bool : PySem.W.nsIn K mainGlobals "bool" = some none)
    : ∃ fd : FuncData, (∀ (s : Shared) (v : Value), BindsTo s fd ⟨[v], []⟩ [("script", v)]) ∧ ∀ base : Heap, K.In base → base.Ns mainGlobals mg → FnOk l.prog w K mg base CX0 8 fa fd ["script"] (spLaw K) := by
  have e := hfa.symm.trans (PySem.W.mg_of X G a12)
  cases e
  have F1 := fun_mk (st := sHold) l1 c1 k1
  have b1 := F1.binds (ps := ["talk", "inputs", "coins"]) fun _ _ _ _ _ _ us hl => match us, hl with | [_, _, _], _ => rfl
  have m1 := PySem.W.mg_of X G a1
  have F2 := fun_mk (st := sDraws) l2 c2 k2
  have b2 := F2.binds (ps := ["script", "many"]) fun _ _ _ _ _ _ us hl => match us, hl with | [_, _], _ => rfl
  have m2 := PySem.W.mg_of X G a2
  have F3 := fun_mk (st := sTake) l3 c3 k3
  have b3 := F3.binds (ps := ["hand", "many"]) fun _ _ _ _ _ _ us hl => match us, hl with | [_, _], _ => rfl
  have m3 := PySem.W.mg_of X G a3
  have F4 := fun_mk (st := sBits) l4 c4 k4
  have b4 := F4.binds (ps := ["hand", "inputs", "coins", "most"]) fun _ _ _ _ _ _ us hl => match us, hl with | [_, _, _, _], _ => rfl
  have m4 := PySem.W.mg_of X G a4
  have F5 := fun_mk (st := sTree) l5 c5 k5
  have b5 := F5.binds (ps := ["hand", "sizes", "coins", "depth", "answers"]) fun _ _ _ _ _ _ us hl => match us, hl with | [_, _, _, _, _], _ => rfl
  have m5 := PySem.W.mg_of X G a5
  have F6 := fun_mk (st := sTalk) l6 c6 k6
  have b6 := F6.binds (ps := ["hand", "sizes", "answers"]) fun _ _ _ _ _ _ us hl => match us, hl with | [_, _, _], _ => rfl
  have m6 := PySem.W.mg_of X G a6
  have F7 := fun_mk (st := sHeld) l7 c7 k7
  have b7 := F7.binds (ps := ["talk", "inputs", "coins"]) fun _ _ _ _ _ _ us hl => match us, hl with | [_, _, _], _ => rfl
  have m7 := PySem.W.mg_of X G a7
  have F8 := fun_mk (st := sSame) l8 c8 k8
  have b8 := F8.binds (ps := ["found", "due"]) fun _ _ _ _ _ _ us hl => match us, hl with | [_, _], _ => rfl
  have m8 := PySem.W.mg_of X G a8
  have F9 := fun_mk (st := sGreat) l9 c9 k9
  have b9 := F9.binds (ps := ["hand", "tree"]) fun _ _ _ _ _ _ us hl => match us, hl with | [_, _], _ => rfl
  have m9 := PySem.W.mg_of X G a9
  have F10 := fun_mk (st := sDeep) l10 c10 k10
  have b10 := F10.binds (ps := ["hand", "sizes", "coins"]) fun _ _ _ _ _ _ us hl => match us, hl with | [_, _, _], _ => rfl
  have m10 := PySem.W.mg_of X G a10
  have F11 := fun_mk (st := sAll) l11 c11 k11
  have b11 := F11.binds (ps := ["talk", "sizes"]) fun _ _ _ _ _ _ us hl => match us, hl with | [_, _], _ => rfl
  have m11 := PySem.W.mg_of X G a11
  have F12 := fun_mk (st := sLaw) l12 c12 k12
  have m_len := PySem.W.mg_none_of X G z_len
  have m_int := PySem.W.mg_none_of X G z_int
  have m_abs := PySem.W.mg_none_of X G z_abs
  have m_range := PySem.W.mg_none_of X G z_range
  have m_tuple := PySem.W.mg_none_of X G z_tuple
  have m_isinstance := PySem.W.mg_none_of X G z_isinstance
  have m_str := PySem.W.mg_none_of X G z_str
  have m_bool := PySem.W.mg_none_of X G z_bool
  refine ⟨PySem.W.fnOf "law" "law" (defArgs sLaw) (defBody sLaw) (defScope sLaw) .none kV12 dc12 pm12 an12 cd12 ct12, fun s v => .of_eq rfl, fun base _ _ => ?_⟩
  have GH := ok_hold (P := l.prog) (w := w) (base := base) F1 m_tuple
  have GD := ok_draws (P := l.prog) (w := w) (base := base) F2 m_len m_int m_abs m_range
  have GT := ok_take (P := l.prog) (w := w) (base := base) F3 m_len m_int
  have GB := ok_bits (P := l.prog) (w := w) (base := base) F4 GT b3 k3 m3 m_tuple m_range
  have GR := tree_all (P := l.prog) (w := w) (base := base) F5 b5 m5 GT b3 k3 m3 GB b4 k4 m4 m_range 4
  have GK := ok_talk (P := l.prog) (w := w) (base := base) F6 GT b3 k3 m3 GR b5 k5 m5
  have GL := ok_held (P := l.prog) (w := w) (base := base) F7 m_range
  have GS := same_all (P := l.prog) (w := w) (base := base) F8 b8 m8 m_isinstance m_tuple m_str m_int m_bool m_len m_range 3
  have GG := great_all (P := l.prog) (w := w) (base := base) F9 b9 m9 GT b3 k3 m3 m_tuple 4
  have GE := ok_deep (P := l.prog) (w := w) (base := base) F10 GT b3 k3 m3 GB b4 k4 m4 m_range m_int
  have GA := ok_all (P := l.prog) (w := w) (base := base) F11 GS b8 k8 m8 GH b1 k1 m1 GL b7 k7 m7 m_range
  exact ok_law F12 GD b2 k2 m2 GT b3 k3 m3 GK b6 k6 m6 GA b11 k11 m11 GG b9 k9 m9 GE b10 k10 m10
theorem walk {l : PySem.W.OpenLaw} {q : Program} {loose : List Str} {XP : (Str → Option Value) → Heap → Prop} {YP : World → Heap → Prop} {d : DefRec} {K : Params → PySem.W.Frag} (hn : l.most = some 63) (hdf : d.params.defaults = [])
    (hY : ∀ (w : World) (h : Heap), YP w h → (K w.params).In h)
    (F : ∀ (w : World) (mg : Str → Option Value) (fa : Addr) (h : Heap), (K w.params).In h → h.Ns mainGlobals mg → mg d.name = some (.ref fa) →
      ∃ fd : FuncData, (∀ (s : Shared) (u : Value), BindsTo s fd ⟨[u], []⟩ [("script", u)]) ∧ ∀ base : Heap, (K w.params).In base → base.Ns mainGlobals mg → FnOk l.prog w (K w.params) mg base CX0 8 fa fd ["script"] (spLaw (K w.params))) :
    PySem.W.WalkO q loose XP YP l.row.toRowW d [] (fun f vs => PySem.call f vs) :=
  L2.walk_of (n := 63) (k := 8) (x := "script") (CX := fun _ => CX0) (sp := fun w => spLaw (K w.params)) hn (by decide) hdf ⟨rfl, by decide, by decide⟩ hY F (fun _ _ a ns hl _ hS => ⟨a, ns, rfl, hS, hl, fun _ => rfl⟩) fun _ _ _ _ _ z => z
end V1
open PySem PySem.W PyProof.Rows
set_option maxRecDepth 100000 in
set_option maxHeartbeats 0 in
theorem PySem.Challenge.cw_jointhands_k01_talks_that_are_held_holds : PySem.Challenge.rw_jointhands_k01_talks_that_are_held.Holds := by
  w_on; o_law; k_head; (case hw => w_witness2)
  k_fill
  refine V1.walk (l := PySem.Challenge.rw_jointhands_k01_talks_that_are_held) rfl rfl (fun w h Y => PySem.W.kIn_of Y) ?F
  case F =>
    intro w mg fa h KX G hmg
    refine' V1.all_mk KX G hmg ?a1 ?l1 ?c1 ?k1 ?a2 ?l2 ?c2 ?k2 ?a3 ?l3 ?c3 ?k3 ?a4 ?l4 ?c4 ?k4 ?a5 ?l5 ?c5 ?k5 ?a6 ?l6 ?c6 ?k6 ?a7 ?l7 ?c7 ?k7 ?a8 ?l8 ?c8 ?k8 ?a9 ?l9 ?c9 ?k9 ?a10 ?l10 ?c10 ?k10 ?a11 ?l11 ?c11 ?k11 ?a12 ?l12 ?c12 ?k12 ?z_len ?z_int ?z_abs ?z_range ?z_tuple ?z_isinstance ?z_str ?z_bool
    (case a1 => k_is)
    (case l1 => k_is)
    (case c1 => k_is)
    (case k1 => k_is)
    (case a2 => k_is)
    (case l2 => k_is)
    (case c2 => k_is)
    (case k2 => k_is)
    (case a3 => k_is)
    (case l3 => k_is)
    (case c3 => k_is)
    (case k3 => k_is)
    (case a4 => k_is)
    (case l4 => k_is)
    (case c4 => k_is)
    (case k4 => k_is)
    (case a5 => k_is)
    (case l5 => k_is)
    (case c5 => k_is)
    (case k5 => k_is)
    (case a6 => k_is)
    (case l6 => k_is)
    (case c6 => k_is)
    (case k6 => k_is)
    (case a7 => k_is)
    (case l7 => k_is)
    (case c7 => k_is)
    (case k7 => k_is)
    (case a8 => k_is)
    (case l8 => k_is)
    (case c8 => k_is)
    (case k8 => k_is)
    (case a9 => k_is)
    (case l9 => k_is)
    (case c9 => k_is)
    (case k9 => k_is)
    (case a10 => k_is)
    (case l10 => k_is)
    (case c10 => k_is)
    (case k10 => k_is)
    (case a11 => k_is)
    (case l11 => k_is)
    (case c11 => k_is)
    (case k11 => k_is)
    (case a12 => k_is)
    (case l12 => k_is)
    (case c12 => k_is)
    (case k12 => k_is)
    (case z_len => k_is)
    (case z_int => k_is)
    (case z_abs => k_is)
    (case z_range => k_is)
    (case z_tuple => k_is)
    (case z_isinstance => k_is)
    (case z_str => k_is)
    (case z_bool => k_is)
