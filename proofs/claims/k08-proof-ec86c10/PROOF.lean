import PyProof.Rows.All
import Wide.All
import OpenK.AllK
import Wide.FinOn
import HandS.ForMost
import HandS.Wide
import HandS.Flow
import HandS.Defaults
import HandS.WordsExc
import HandS.Codes
import PySem.Challenge.RW_imagetalk_k08_names_selectors_and_blocks
import HandS.ForExc
import HandS.ExcField
import HandS.IsInst
import HandS.StrMore
import HandS.AnyAll
import HandS.More
import HandS.Zip
import HandS.Dict
import HandS.ReplaceDef
import HandS.ReplaceLit
import HandS.ReplaceList
import HandS.BoundDict
import HandS.TupAny
import HandS.DictComp
import HandS.Walk
import HandS.Star
import PyProof.Rows.SortShellAny
import HandS.Set
import HandS.Strs
import HandS.SetKeys
import HandS.SetFor
import HandS.TupSets
import PyProof.ReprRoads
import PyProof.StrLawsRepr
import HandS.RaiseMore
import HandS.Ends
import HandS.HeadEnd
import HandS.Style
import Wide.Once
import KE.KStateDown
import Lean
import HandS.Base
import HandS.Call
import HandS.Words
import HandS.Head0
import HandS.Head1
import HandS.Head2
import HandS.HeadHook1
import HandS.HeadHook2
import HandS.HeadHook3
section
set_option Elab.async false
set_option linter.all false
set_option maxRecDepth 100000
set_option maxHeartbeats 2000000
namespace My
open PySem PySem.Spec PyProof.Rows L2
def top (i : Nat) : Stmt := PySem.Challenge.pw_imagetalk_k08_names_selectors_and_blocks.main.body.getD i (.Pass ⟨0, 0, 0, 0⟩)
abbrev s_law_bag : Stmt := top 54
abbrev s_law_take : Stmt := top 55
abbrev s_law_pick : Stmt := top 56
abbrev FnP (K : PySem.W.Frag) (x : Str) (st : Stmt) (f : Addr) (fd : FuncData) : Prop := FunD K x x (defArgs st) (defBody st) (defScope st) [] [] f fd
/-- what a bag's three numbers may be, n takes behind its making -/
structure BagN (n : Nat) (x y z : Int) : Prop where
  x0 : 0 ≤ x
  y0 : 0 ≤ y
  y1 : y.natAbs < 2 ^ 134
  z0 : 0 ≤ z
  z1 : z ≤ (n : Int)
/-- take(bag, many): a number below many, the bag changed -/
def spTake : Sp := fun vs H Q _ => ∃ (b : Addr) (n : Nat) (x y z m : Int), vs = [.ref b, .int m] ∧ H b = some (.lst [.int x, .int y, .int z]) ∧ BagN n x y z ∧ n < 1000000 ∧ 0 < m ∧ m < 2 ^ 30 ∧
  ∀ (r x' y' z' : Int), 0 ≤ r → r < m → BagN (n + 1) x' y' z' → Q (.int r) (upd H b (.lst [.int x', .int y', .int z']))
theorem upd_upd {H : Hp} {b : Addr} {o o' : HO} : upd (upd H b o) b o' = upd H b o' := by
  funext a
  by_cases h : a = b
  · subst h
    rw [upd_same, upd_same]
  · rw [upd_ne h, upd_ne h, upd_ne h]
section
variable {P : Program} {w : World} {K : PySem.W.Frag} {mg : Str → Option Value} {base : Heap}
theorem sc_law_take : FnScope ["_law_bag_here", "_law_many", "_law_found", "_law_mark"] ["_law_bag_here", "_law_many"] (defScope s_law_take) := ⟨rfl, rfl, rfl, by decide +kernel, rfl, by decide +kernel, by decide +kernel⟩
theorem ok_take {f : Addr} {fd : FuncData} (F : FnP K "_law_take" s_law_take f fd) (g_int : mg "int" = none) : FnOk P w K mg base CX0 2 f fd ["_law_bag_here", "_law_many"] spTake := by
  refine F.ok sc_law_take (fun vs H Q E h => ?_) (fun cdv A outer s H vs Q E hr h => ⟨_, PSs.nox
    (pss_cons (ps_if (pt_cmpR op_gt (pe_ix ix_list (pv 0) pe_int (fun _ _ => rfl)) pe_int (nomark _)) (pss_cons (ps_set (i := 2) sc_law_take.nd rfl (Or.inl rfl) (pe_op op_modN (pe_callTy call_int1 (by rfl) g_int (by decide +kernel) (pa_cons (pe_ix ix_list (pv 0) pe_int (fun _ _ => rfl)) pa_nil)) (pv 1)))
      (pss_cons (ps_asg (pe_op op_fdivW (pe_ix ix_list (pv 0) pe_int (fun _ _ => rfl)) (pv 1)) (pg_sub (pv 0) pe_int set_list))
      (pss_one (ps_ret (pv 2))))) pss_nil)
      (pss_cons (ps_asg (pe_op op_add (pe_ix ix_list (pv 0) pe_int (fun _ _ => rfl)) pe_int) (pg_sub (pv 0) pe_int set_list))
      (pss_cons (ps_set (i := 3) sc_law_take.nd rfl (Or.inl rfl) (pe_op op_add (pe_op op_mulW (pe_op op_add (pe_ix ix_list (pv 0) pe_int (fun _ _ => rfl)) pe_int) (pe_op op_add (pe_op op_mulW pe_int (pe_ix ix_list (pv 0) pe_int (fun _ _ => rfl))) pe_int)) (pe_op op_mulW (pe_op op_mulW pe_int (pe_ix ix_list (pv 0) pe_int (fun _ _ => rfl))) (pe_ix ix_list (pv 0) pe_int (fun _ _ => rfl)))))
      (pss_cons (ps_set (i := 3) sc_law_take.nd rfl (Or.inl rfl) (pe_op op_modN (pe_callTy call_int1 (by rfl) g_int (by decide +kernel) (pa_cons (pe_op op_mulW (pv 3) (pv 3)) pa_nil)) (pe_op op_add (pe_op op_pow pe_int pe_int) pe_int)))
      (pss_cons (ps_set (i := 3) sc_law_take.nd rfl (Or.inl rfl) (pe_op op_modN (pe_callTy call_int1 (by rfl) g_int (by decide +kernel) (pa_cons (pe_op op_mulW (pv 3) (pe_op op_add (pv 3) pe_int)) pa_nil)) (pe_op op_add (pe_op op_pow pe_int pe_int) pe_int)))
      (pss_one (ps_ret (pe_op op_modN (pe_callTy call_int1 (by rfl) g_int (by decide +kernel) (pa_cons (pe_op op_fdivW (pv 3) pe_int) pa_nil)) (pv 1))))))))), ?_⟩)
  · obtain ⟨b, n, x, y, z, m, rfl, _⟩ := h
    rfl
  · obtain ⟨b, n, x, y, z, m, rfl, hb, hB, hn, m0, m1, k⟩ := h
    have hm : m.natAbs < 2 ^ 30 := by omega
    have hx0 := hB.x0
    have hy0 := hB.y0
    have hz0 := hB.z0
    have hz1 := hB.z1
    refine ⟨_, rfl, _, _, _, _, rfl, rfl, SqL.of hb, rfl, _, _, rfl, rfl, _, rfl, ?_⟩
    refine ite2 (fun hx => ?_) (fun hx => ?_)
    · refine ⟨_, rfl, _, _, _, _, rfl, rfl, SqL.of hb, rfl, .inl ⟨_, rfl, _, rfl, _, _, rfl, rfl, (by omega), ?_⟩⟩
      refine ⟨_, rfl, _, _, _, _, rfl, rfl, SqL.of hb, rfl, _, rfl, _, _, rfl, rfl, wide_div m0 hm (by decide) (by decide), ?_⟩
      refine ⟨_, rfl, _, _, _, _, rfl, rfl, hb, rfl, ?_⟩
      refine ⟨_, rfl, ?_⟩
      have e1 : x / m ≤ x := Int.ediv_le_self _ hx0
      have e2 : 0 ≤ x / m := Int.ediv_nonneg hx0 (Int.le_of_lt m0)
      exact k (x.fmod m) (x / m) y z (Int.fmod_nonneg_of_pos _ m0) (Int.fmod_lt_of_pos _ m0) ⟨e2, hy0, hB.y1, hz0, by omega⟩
    · refine ⟨_, rfl, _, _, _, _, rfl, rfl, SqL.of hb, rfl, _, _, rfl, rfl, ?_⟩
      refine ⟨_, rfl, _, _, _, _, rfl, rfl, hb, rfl, ?_⟩
      have hb2 : (upd H b (.lst [.int x, .int y, .int (z + 1)])) b = some (.lst [.int x, .int y, .int (z + 1)]) := upd_same
      have bz : (z + 1).natAbs < 2 ^ 20 := by omega
      have by1 : (y + 1).natAbs < 2 ^ 135 := by
        have := hB.y1
        have e : (2 : Nat) ^ 135 = 2 ^ 134 * 2 := by decide
        omega
      have c1 : (30011 * (z + 1) : Int).natAbs < 2 ^ 40 := by omega
      have c2 : (30011 * (z + 1) + 7 : Int).natAbs < 2 ^ 41 := by omega
      have d1 : ((y + 1) * (30011 * (z + 1) + 7)).natAbs < 2 ^ (135 + 41) := wide_lt by1 c2
      have d2 : (104729 * (z + 1) : Int).natAbs < 2 ^ 40 := by omega
      have d3 : (104729 * (z + 1) * (z + 1)).natAbs < 2 ^ (40 + 20) := wide_lt d2 bz
      have d4 : ((y + 1) * (30011 * (z + 1) + 7) + 104729 * (z + 1) * (z + 1)).natAbs < 2 ^ 200 := by
        have e1 : (2 : Nat) ^ 200 = 2 ^ (135 + 41) * 2 ^ 24 := by decide
        have e2 : (2 : Nat) ^ (135 + 41) = 2 ^ (40 + 20) * 2 ^ 116 := by decide
        have e3 := Int.natAbs_add_le ((y + 1) * (30011 * (z + 1) + 7)) (104729 * (z + 1) * (z + 1))
        omega
      refine ⟨_, rfl, _, _, _, _, rfl, rfl, SqL.of hb2, rfl, _, _, rfl, rfl, ?_⟩
      refine ⟨_, rfl, _, _, _, _, rfl, rfl, SqL.of hb2, rfl, _, _, rfl, rfl, wide_mul (a := 64) (b := 20) (by decide) bz (by decide) (by decide) (by decide), _, _, rfl, rfl, ?_⟩
      refine ⟨_, _, rfl, rfl, wide_mul by1 c2 (by decide) (by decide) (by decide), ?_⟩
      refine ⟨_, rfl, _, _, _, _, rfl, rfl, SqL.of hb2, rfl, _, _, rfl, rfl, wide_mul (a := 64) (b := 20) (by decide) bz (by decide) (by decide) (by decide), ?_⟩
      refine ⟨_, rfl, _, _, _, _, rfl, rfl, SqL.of hb2, rfl, _, _, rfl, rfl, wide_mul d2 bz (by decide) (by decide) (by decide), ?_⟩
      refine ⟨_, _, rfl, rfl, ?_⟩
      refine ⟨_, rfl, _, rfl, _, _, rfl, rfl, wide_mul d4 d4 (by decide) (by decide) (by decide), .inl ⟨_, rfl, ?_⟩⟩
      refine ⟨_, _, rfl, rfl, ⟨by decide, by decide, by decide⟩, _, _, rfl, rfl, _, _, rfl, rfl, (show (10 ^ Int.toNat 41 + 37 : Int) ≠ 0 by decide), ?_⟩
      generalize hM : ((y + 1) * (30011 * (z + 1) + 7) + 104729 * (z + 1) * (z + 1)) * ((y + 1) * (30011 * (z + 1) + 7) + 104729 * (z + 1) * (z + 1)) = M
      have m2a : (M.fmod (10 ^ 41 + 37)).natAbs < 2 ^ 140 := by
        have a1 := Int.fmod_nonneg_of_pos M (b := 10 ^ 41 + 37) (by decide)
        have a2 := Int.fmod_lt_of_pos M (b := 10 ^ 41 + 37) (by decide)
        omega
      have m2b : (M.fmod (10 ^ 41 + 37) + 97).natAbs < 2 ^ 140 := by
        have a1 := Int.fmod_nonneg_of_pos M (b := 10 ^ 41 + 37) (by decide)
        have a2 := Int.fmod_lt_of_pos M (b := 10 ^ 41 + 37) (by decide)
        omega
      refine ⟨_, rfl, _, rfl, _, _, rfl, rfl, _, _, rfl, rfl, wide_mul m2a m2b (by decide) (by decide) (by decide), .inl ⟨_, rfl, ?_⟩⟩
      refine ⟨_, _, rfl, rfl, ⟨by decide, by decide, by decide⟩, _, _, rfl, rfl, _, _, rfl, rfl, (show (10 ^ Int.toNat 40 + 4323 : Int) ≠ 0 by decide), ?_⟩
      refine ⟨_, rfl, _, _, rfl, rfl, wide_div (b := 20) (by decide) (by decide) (by decide) (by decide), .inl ⟨_, rfl, _, rfl, _, _, rfl, rfl, (by omega), ?_⟩⟩
      exact k _ x y (z + 1) (Int.fmod_nonneg_of_pos _ m0) (Int.fmod_lt_of_pos _ m0) ⟨hx0, hy0, hB.y1, by omega, by omega⟩
/-- bag(script, k) -/
def spBag (K : PySem.W.Frag) : Sp := fun vs H Q _ => ∃ (a : Addr) (ns : List Int) (j : Nat), vs = [.ref a, .int (j : Int)] ∧ SqL K H a (ns.map V.int) ∧ j ≤ 100 ∧ ns.length ≤ 100 ∧
  ∀ (H' : Hp) (p : Addr) (x y z : Int), Same H H' → H p = none → H' p = some (.lst [.int x, .int y, .int z]) → BagN 10000 x y z → Q (.ref p) H'
theorem sc_law_bag : FnScope ["_law_script", "_law_k", "_law_cell"] ["_law_script", "_law_k"] (defScope s_law_bag) := ⟨rfl, rfl, rfl, by decide +kernel, rfl, by decide +kernel, by decide +kernel⟩
theorem ok_bag {f : Addr} {fd : FuncData} (F : FnP K "_law_bag" s_law_bag f fd) (g_int : mg "int" = none) (g_sum : mg "sum" = none) (g_len : mg "len" = none) (g_max : mg "max" = none) : FnOk P w K mg base CX0 2 f fd ["_law_script", "_law_k"] (spBag K) := by
  refine F.ok sc_law_bag (fun vs H Q E h => ?_) (fun cdv A outer s H vs Q E hr h => ⟨_, PSs.nox
    (pss_cons (ps_set (i := 2) sc_law_bag.nd rfl (Or.inl rfl) (pe_op op_modN (pe_callTy call_int1 (by rfl) g_int (by decide +kernel) (pa_cons (pe_callB (cr_sum rfl) (by rfl) g_sum (by decide +kernel) (pa_cons (pe_slice sl_list (pv 0) po_none (po_some pe_int)) pa_nil)) pa_nil)) pe_int))
      (C8.pss_cut (ps_if (pt_cmpR op_lt (pv 1) (pe_callB call_len_seq (by rfl) g_len PySem.boot_len (pa_cons (pv 0) pa_nil)) (nomark _)) (pss_one (ps_set (i := 2) sc_law_bag.nd rfl (Or.inl rfl) (pe_ix ix_list (pv 0) (pv 1) (fun _ _ => rfl)))) pss_nil)
      (pss_one (ps_ret (pe_lst (pa_cons (pe_callB (call_max2 rfl) (by rfl) g_max (by decide +kernel) (pa_cons pe_int (pa_cons (pe_op op_sub (pv 2) (pe_op op_pow pe_int pe_int)) pa_nil))) (pa_cons (pe_op op_modN (pe_callTy call_int1 (by rfl) g_int (by decide +kernel) (pa_cons (pv 2) pa_nil)) (pe_op op_add (pe_op op_pow pe_int pe_int) pe_int)) (pa_cons (pe_op op_mulW pe_int (pv 1)) pa_nil)))))))), ?_⟩)
  · obtain ⟨a, ns, j, rfl, _⟩ := h
    rfl
  · obtain ⟨a, ns, j, rfl, hS, hj, hl, k⟩ := h
    refine ⟨_, rfl, _, rfl, _, _, rfl, hS, fun p np => ?_⟩
    have e1 : cutV (ns.map V.int) none (some 1) = (ns.take 1).map V.int := by
      cases ns with
      | nil => rfl
      | cons a r =>
        show ((List.map V.int (a :: r)).drop 0).take (min (Int.toNat 1) (List.map V.int (a :: r)).length - 0) = _
        simp
    have hp1 : (upd H p (.lst (cutV (ns.map V.int) none (some 1)))) p = some (.lst ((ns.take 1).map V.int)) := by rw [upd_same, e1]
    refine ⟨_, ns.take 1, rfl, SqL.of hp1, .inl ⟨_, rfl, _, _, rfl, rfl, (show (1000003 : Int) ≠ 0 by decide), ?_⟩⟩
    have hS1 : SqL K (upd H p (.lst (cutV (ns.map V.int) none (some 1)))) a (ns.map V.int) := Same.seq (fun b o e => by rw [upd_ne (ne_of_none e np)]; exact e) hS
    have s1 : Same H (upd H p (.lst (cutV (ns.map V.int) none (some 1)))) := fun b o e => by rw [upd_ne (ne_of_none e np)]; exact e
    generalize upd H p (.lst (cutV (ns.map V.int) none (some 1))) = H1 at hS1 s1
    refine ⟨fun σ' H' => ∃ c : Int, σ' = [some (.ref a), some (.int (j : Int)), some (.int c)] ∧ H' = H1, ?_, ?_⟩
    · refine ⟨_, rfl, _, rfl, _, _, rfl, .inl hS1, _, _, rfl, rfl, _, rfl, ?_⟩
      refine ite2 (fun hx => ?_) (fun hx => ?_)
      · have hx := of_decide_eq_true hx
        rw [List.length_map] at hx
        have hjl : j < ns.length := by omega
        have hg : (ns.map V.int)[j]? = some (V.int ns[j]) := by rw [List.getElem?_map, List.getElem?_eq_getElem hjl]; rfl
        refine ⟨_, rfl, _, rfl, _, _, _, _, rfl, rfl, hS1, atI_nat hg, ?_⟩
        exact ⟨_, rfl, rfl⟩
      · exact ⟨_, rfl, rfl⟩
    · rintro _ _ ⟨c, rfl, rfl⟩
      refine ⟨_, rfl, _, _, rfl, rfl, ⟨by decide, by decide, by decide⟩, _, _, rfl, rfl, ?_⟩
      refine ⟨_, _, rfl, _, rfl, .inl ⟨_, rfl, _, _, rfl, rfl, ⟨by decide, by decide, by decide⟩, _, _, rfl, rfl, _, _, rfl, rfl, (show (10 ^ Int.toNat 40 + 121 : Int) ≠ 0 by decide), ?_⟩⟩
      refine ⟨_, rfl, _, _, rfl, rfl, wide_mul (a := 64) (b := 20) (by decide) (by omega) (by decide) (by decide) (by decide), (by show 3 ≤ sizeLine; decide), fun p2 np2 => ?_⟩
      have a1 := Int.fmod_nonneg_of_pos c (b := 10 ^ Int.toNat 40 + 121) (by decide)
      have a2 := Int.fmod_lt_of_pos c (b := 10 ^ Int.toNat 40 + 121) (by decide)
      refine k _ p2 _ _ _ (s1.trans fun b o e => by rw [upd_ne (ne_of_none e np2)]; exact e) (s1.free np2) upd_same ⟨?_, a1, ?_, by omega, by omega⟩
      · split <;> omega
      · have e : (10 ^ Int.toNat 40 + 121 : Int) = 10 ^ 40 + 121 := rfl
        rw [e] at a1 a2
        have e2 : (10 ^ 40 + 121 : Int) ≤ 2 ^ 134 := by decide
        show (c.fmod (10 ^ 40 + 121)).natAbs < 2 ^ 134
        omega
/-- pick(bag, things): one of them, out of a list, a tuple or a text -/
def spPick (K : PySem.W.Frag) : Sp := fun vs H Q _ => ∃ (b : Addr) (n : Nat) (x y z : Int), H b = some (.lst [.int x, .int y, .int z]) ∧ BagN n x y z ∧ n < 1000000 ∧
  ((∃ (p : Addr) (xs : List V), vs = [.ref b, .ref p] ∧ ((∀ x' y' z' : Int, SqL K (upd H b (.lst [.int x', .int y', .int z'])) p xs) ∨ ∀ x' y' z' : Int, SqT K (upd H b (.lst [.int x', .int y', .int z'])) p xs) ∧
      0 < xs.length ∧ xs.length < 1000000 ∧
      ∀ (i : Nat) (v : V) (x' y' z' : Int), xs[i]? = some v → BagN (n + 1) x' y' z' → Q v (upd H b (.lst [.int x', .int y', .int z']))) ∨
   (∃ (t : Str), vs = [.ref b, .str t] ∧ 0 < t.cps.toList.length ∧ t.cps.toList.length < 1000000 ∧
      ∀ (i : Nat) (c : Nat) (x' y' z' : Int), t.cps.toList[i]? = some c → BagN (n + 1) x' y' z' → Q (.str ⟨#[c]⟩) (upd H b (.lst [.int x', .int y', .int z']))))
theorem upd_id {H : Hp} {b : Addr} {o : HO} (h : H b = some o) : upd H b o = H := by
  funext a
  by_cases e : a = b
  · subst e
    rw [upd_same, h]
  · rw [upd_ne e]
theorem sc_law_pick : FnScope ["_law_bag_here", "_law_things"] ["_law_bag_here", "_law_things"] (defScope s_law_pick) := ⟨rfl, rfl, rfl, by decide +kernel, rfl, by decide +kernel, by decide +kernel⟩
theorem ok_pick {f fT : Addr} {fd fdT : FuncData} (F : FnP K "_law_pick" s_law_pick f fd) (FT : FnP K "_law_take" s_law_take fT fdT) (g_law_take : mg "_law_take" = some (.ref fT)) (g_int : mg "int" = none) (g_len : mg "len" = none) :
    FnOk P w K mg base CX0 3 f fd ["_law_bag_here", "_law_things"] (spPick K) := by
  have G_law_take : FnOk P w K mg base CX0 2 fT fdT _ spTake := ok_take FT g_int
  have b_law_take : Binds K fdT ["_law_bag_here", "_law_many"] [] := FT.bindsN fun _ _ _ _ _ _ us hl => match us, hl with | [_, _], _ => rfl
  have k_law_take := FT.kp
  refine F.ok sc_law_pick (fun vs H Q E h => ?_) (fun cdv A outer s H vs Q E hr h => ⟨_, PSs.nox
    (pss_one (ps_ret (pe_ix ix_seq (pv 1) (pe_call G_law_take (hr.mono (by decide)) rfl g_law_take k_law_take b_law_take .nil pass0 (pa_cons (pv 0) (pa_cons (pe_callB call_len (by rfl) g_len PySem.boot_len (pa_cons (pv 1) pa_nil)) pa_nil))) (fun _ _ => rfl)))), ?_⟩)
  · rcases h with ⟨b, n, x, y, z, hb, hB, hn, ⟨p, xs, rfl, _⟩ | ⟨t, rfl, _⟩⟩ <;> rfl
  · rcases h with ⟨b, n, x, y, z, hb, hB, hn, ⟨p, xs, rfl, hS, h0, h1, k⟩ | ⟨t, rfl, h0, h1, k⟩⟩
    · have hS0 : SqL K H p xs ∨ SqT K H p xs := by
        rcases hS with h | h
        · have := h x y z
          rw [upd_id hb] at this
          exact .inl this
        · have := h x y z
          rw [upd_id hb] at this
          exact .inr this
      refine ⟨_, rfl, _, rfl, _, rfl, _, xs.length, rfl, ?_, ?_⟩
      · rcases hS0 with h | h
        · exact .inl ⟨_, h, rfl⟩
        · exact .inr ⟨_, h, rfl⟩
      · refine ⟨b, n, x, y, z, _, rfl, hb, hB, hn, by omega, by omega, fun r x' y' z' r0 r1 hB' => ?_⟩
        obtain ⟨j, rfl⟩ : ∃ j : Nat, r = (j : Int) := ⟨r.toNat, by omega⟩
        have hl : j < xs.length := by omega
        have hg : xs[j]? = some xs[j] := List.getElem?_eq_getElem hl
        have ha : atI xs (j : Int) = some xs[j] := atI_nat hg
        rcases hS with h | h
        · exact .inl ⟨_, _, _, _, rfl, rfl, h x' y' z', ha, k _ _ _ _ _ hg hB'⟩
        · exact .inr (.inl ⟨_, _, _, _, rfl, rfl, h x' y' z', ha, k _ _ _ _ _ hg hB'⟩)
    · have hz : t.length = t.cps.toList.length := rfl
      have hs : t.length ≤ sizeLine := Nat.le_trans (by omega : t.length ≤ 1000000) (by decide)
      refine ⟨_, rfl, _, rfl, _, rfl, _, t.length, rfl, ⟨hs, rfl⟩, ?_⟩
      refine ⟨b, n, x, y, z, _, rfl, hb, hB, hn, by omega, by omega, fun r x' y' z' r0 r1 hB' => ?_⟩
      obtain ⟨j, rfl⟩ : ∃ j : Nat, r = (j : Int) := ⟨r.toNat, by omega⟩
      have hl : j < t.cps.toList.length := by omega
      have hg : t.cps.toList[j]? = some t.cps.toList[j] := List.getElem?_eq_getElem hl
      have ha : atI t.cps.toList (j : Int) = some t.cps.toList[j] := atI_nat hg
      exact .inr (.inr ⟨_, _, _, rfl, rfl, hs, ha, k _ _ _ _ _ hg hB'⟩)
end
end My

end
section
set_option Elab.async false
set_option linter.all false
set_option maxRecDepth 100000
set_option maxHeartbeats 2000000
namespace My
open PySem PySem.Spec PyProof.Rows L2
/-! ### data that is written out, and data that stays -/
theorem SqL.mono {K : PySem.W.Frag} {D H : Hp} {a : Addr} {xs : List V} (e : Same D H) (h : SqL K D a xs) : SqL K H a xs := e.seq h
theorem SqT.mono {K : PySem.W.Frag} {D H : Hp} {a : Addr} {xs : List V} (e : Same D H) (h : SqT K D a xs) : SqT K H a xs := by
  rcases h with (h | ⟨o, h⟩) | h
  · exact .inl (.inl (e _ _ h))
  · exact .inl (.inr ⟨o, e _ _ h⟩)
  · exact .inr h
mutual
theorem dp_mono {K : PySem.W.Frag} {D H : Hp} (e : Same D H) : ∀ (d : PyData) (v : V), Dp K D v d → Dp K H v d
  | .none, _, h => by cases h; exact .non
  | .bool b, _, h => by cases h; exact .bl b
  | .int i, _, h => by cases h; exact .int i
  | .str x, _, h => by cases h; exact .str x
  | .list ds, _, h => by
    cases h with
    | lst hs ha => exact .lst (SqL.mono e hs) (dp_monoAll e ds _ ha)
  | .tuple ds, _, h => by
    cases h with
    | tup hs ha => exact .tup (SqT.mono e hs) (dp_monoAll e ds _ ha)
  | .dict _, _, h => by cases h
theorem dp_monoAll {K : PySem.W.Frag} {D H : Hp} (e : Same D H) : ∀ (ds : List PyData) (vs : List V), DpAll K D vs ds → DpAll K H vs ds
  | [], _, h => by cases h; exact .nil
  | d :: ds, _, h => by
    cases h with
    | cons h1 h2 => exact .cons (dp_mono e d _ h1) (dp_monoAll e ds _ h2)
end
theorem dpAll_append {K : PySem.W.Frag} {H : Hp} {vs vs' : List V} {ds ds' : List PyData} (h : DpAll K H vs ds) (h' : DpAll K H vs' ds') : DpAll K H (vs ++ vs') (ds ++ ds') := by
  induction ds generalizing vs with
  | nil => cases h; exact h'
  | cons d ds ih =>
    cases h with
    | cons h1 h2 => exact .cons h1 (ih h2)
theorem dpAll_length {K : PySem.W.Frag} {H : Hp} {vs : List V} {ds : List PyData} (h : DpAll K H vs ds) : vs.length = ds.length := by
  induction ds generalizing vs with
  | nil => cases h; rfl
  | cons d ds ih =>
    cases h with
    | cons h1 h2 => simp [ih h2]
theorem dpAll_get {K : PySem.W.Frag} {H : Hp} {vs : List V} {ds : List PyData} (h : DpAll K H vs ds) {i : Nat} {v : V} (hv : vs[i]? = some v) : ∃ d, ds[i]? = some d ∧ Dp K H v d := by
  induction ds generalizing vs i with
  | nil => cases h; simp at hv
  | cons d ds ih =>
    cases h with
    | cons h1 h2 =>
      cases i with
      | zero => simp at hv; subst hv; exact ⟨d, rfl, h1⟩
      | succ i => exact ih h2 (by simpa using hv)
/-- the part D of the heap: it stands in H', and nothing of it in H -/
structure Part (D H H' : Hp) : Prop where
  inn : Same D H'
  new : ∀ a o, D a = some o → H a = none
theorem part_nil {H H' : Hp} : Part (fun _ => none) H H' := ⟨fun _ _ h => (by cases h), fun _ _ h => (by cases h)⟩
def uni (D E : Hp) : Hp := fun a => match D a with
  | some o => some o
  | none => E a
theorem uni_l {D E : Hp} : Same D (uni D E) := fun a o h => by unfold uni; rw [h]
theorem uni_cases {D E : Hp} {a : Addr} {o : HO} (h : uni D E a = some o) : D a = some o ∨ E a = some o := by
  unfold uni at h
  cases e : D a with
  | none => rw [e] at h; exact .inr h
  | some u => rw [e] at h; exact .inl h
theorem uni_r {D E H : Hp} (h : ∀ a o, D a = some o → H a = none) (hE : Same E H) : Same E (uni D E) := fun a o e => by
  unfold uni
  cases q : D a with
  | none => exact e
  | some u =>
    have z := hE a o e
    rw [h a u q] at z
    cases z
/-! the reading of a written display -/
mutual
def tLit : PyData → TE
  | .none => tC .non
  | .bool b => tC (.bl b)
  | .int i => if i < 0 then tUn (rU fun i => .int (-i)) (tC (.int (-i))) else tC (.int i)
  | .str x => tC (.str x)
  | .list ds => tLst (tLits ds)
  | .tuple ds => tTup (tLits ds)
  | .dict _ => fun _ _ _ => False
def tLits : List PyData → TA
  | [] => tNil
  | d :: ds => tCons (tLit d) (tLits ds)
end
mutual
def litOk : PyData → Bool
  | .dict _ => false
  | .list ds => decide (ds.length ≤ 1000) && litsOk ds
  | .tuple ds => decide (ds.length ≤ 1000) && litsOk ds
  | _ => true
def litsOk : List PyData → Bool
  | [] => true
  | d :: ds => litOk d && litsOk ds
end
mutual
theorem lit_ok {K : PySem.W.Frag} : ∀ (d : PyData), litOk d = true → ∀ (σ : L2.St) (H : Hp) (Q : VK), (∀ v D H', Same H H' → Part D H H' → Dp K D v d → Q v H') → tLit d σ H Q
  | .none, _, σ, H, Q, q => q _ (fun _ => none) H (Same.refl H) part_nil .non
  | .bool b, _, σ, H, Q, q => q _ (fun _ => none) H (Same.refl H) part_nil (.bl b)
  | .int i, _, σ, H, Q, q => by
    unfold tLit
    split
    · refine ⟨_, rfl, ?_⟩
      have := q (.int (- -i)) (fun _ => none) H (Same.refl H) part_nil (by rw [Int.neg_neg]; exact .int i)
      exact this
    · exact q _ (fun _ => none) H (Same.refl H) part_nil (.int i)
  | .str x, _, σ, H, Q, q => q _ (fun _ => none) H (Same.refl H) part_nil (.str x)
  | .list ds, ok, σ, H, Q, q => by
    unfold litOk at ok
    rw [Bool.and_eq_true] at ok
    refine lits_ok (K := K) ds ok.2 σ H _ fun vs D H' e p h => ?_
    have hl : vs.length ≤ 1000 := by rw [dpAll_length h]; exact of_decide_eq_true ok.1
    refine ⟨Nat.le_trans hl (by decide), fun a ha => ?_⟩
    have na : H a = none := e.free ha
    have nD : D a = none := by
      cases z : D a with
      | none => rfl
      | some o => rw [p.inn a o z] at ha; cases ha
    refine q _ (upd D a (.lst vs)) _ (e.trans fun b o z => by rw [upd_ne (ne_of_none z ha)]; exact z) ⟨fun b o z => ?_, fun b o z => ?_⟩ (.lst (SqL.of upd_same) (dp_monoAll (fun b o z => by rw [upd_ne (ne_of_none z nD)]; exact z) ds vs h))
    · by_cases c : b = a
      · subst c
        rw [upd_same] at z ⊢
        exact z
      · rw [upd_ne c] at z ⊢
        exact p.inn b o z
    · by_cases c : b = a
      · rw [c]; exact na
      · rw [upd_ne c] at z
        exact p.new b o z
  | .tuple ds, ok, σ, H, Q, q => by
    unfold litOk at ok
    rw [Bool.and_eq_true] at ok
    refine lits_ok (K := K) ds ok.2 σ H _ fun vs D H' e p h => ?_
    have hl : vs.length ≤ 1000 := by rw [dpAll_length h]; exact of_decide_eq_true ok.1
    refine ⟨Nat.le_trans hl (by decide), fun a ha => ?_⟩
    have na : H a = none := e.free ha
    have nD : D a = none := by
      cases z : D a with
      | none => rfl
      | some o => rw [p.inn a o z] at ha; cases ha
    refine q _ (upd D a (.tup vs)) _ (e.trans fun b o z => by rw [upd_ne (ne_of_none z ha)]; exact z) ⟨fun b o z => ?_, fun b o z => ?_⟩ (.tup (SqT.of upd_same) (dp_monoAll (fun b o z => by rw [upd_ne (ne_of_none z nD)]; exact z) ds vs h))
    · by_cases c : b = a
      · subst c
        rw [upd_same] at z ⊢
        exact z
      · rw [upd_ne c] at z ⊢
        exact p.inn b o z
    · by_cases c : b = a
      · rw [c]; exact na
      · rw [upd_ne c] at z
        exact p.new b o z
  | .dict _, ok, _, _, _, _ => by cases ok
theorem lits_ok {K : PySem.W.Frag} : ∀ (ds : List PyData), litsOk ds = true → ∀ (σ : L2.St) (H : Hp) (Q : List V → Hp → Prop), (∀ vs D H', Same H H' → Part D H H' → DpAll K D vs ds → Q vs H') → tLits ds σ H Q
  | [], _, σ, H, Q, q => q [] (fun _ => none) H (Same.refl H) part_nil .nil
  | d :: ds, ok, σ, H, Q, q => by
    unfold litsOk at ok
    rw [Bool.and_eq_true] at ok
    refine lit_ok (K := K) d ok.1 σ H _ fun v D H1 e p h => ?_
    refine lits_ok (K := K) ds ok.2 σ H1 _ fun vs D2 H2 e2 p2 h2 => ?_
    have hD : Same D H1 := p.inn
    have s2 : Same D (uni D2 D) := uni_r p2.new p.inn
    refine q (v :: vs) (uni D2 D) H2 (e.trans e2) ⟨fun b o z => ?_, fun b o z => ?_⟩ (.cons (dp_mono s2 d v h) (dp_monoAll uni_l ds vs h2))
    · rcases uni_cases z with z | z
      · exact p2.inn b o z
      · exact e2 b o (p.inn b o z)
    · rcases uni_cases z with z | z
      · exact e.free (p2.new b o z)
      · exact p.new b o z
end
/-! ### a text many times -/
section
variable {X : Cx}
theorem mulOk {x : Str} {n : Int} (h0 : 0 ≤ n) (h1 : n ≤ 100000) (h2 : x.length * n.toNat ≤ 100000) : MulOk x n := by
  refine ⟨by simp; omega, fun h3 _ => ?_, fun _ _ => ?_⟩
  · intro h
    have hn : 0 < n := by omega
    have h5 : x.length * 1 ≤ x.length * n.toNat := Nat.mul_le_mul_left _ (by omega)
    have h6 : (100001 : Int) ≤ (2 ^ 63 - 1) / n := by
      rw [Int.le_ediv_iff_mul_le hn]
      have : (100001 : Int) * n ≤ 100001 * 100000 := Int.mul_le_mul_of_nonneg_left h1 (by decide)
      omega
    omega
  · show decide (x.length * n.toNat > sizeLine) = false
    have : (100000 : Nat) ≤ sizeLine := by decide
    simp
    omega
def rRepS : R2 := fun x y H Q => ∃ (s : Str) (n : Int), x = .str s ∧ y = .int n ∧ 0 ≤ n ∧ n ≤ 100000 ∧ s.length * n.toNat ≤ 100000 ∧ Q (.str (Txt.mul s n)) H
theorem op_rep_str : OpR X (binaryOp .Mult) rRepS := by
  intro pins s σ H x y v u Q I rx ry h
  obtain ⟨z, n, rfl, rfl, h0, h1, h2, q⟩ := h
  obtain ⟨t, rfl⟩ := rx
  obtain ⟨t', rfl⟩ := ry
  exact SB.mul (mulOk h0 h1 h2) (fun t' tk => ⟨.str (Txt.mul z n), H, I.tok _, ⟨_, rfl⟩, q⟩)
end
end My

end
section
set_option maxRecDepth 100000
set_option linter.all false
/-! The words of a source, as a plain function over its codes. -/
namespace Tok
inductive Val where
  | s (t : List Nat)
  | i (n : Int)
  deriving DecidableEq
inductive Kd where
  | name | keyword | int | str | sym | op | sign
  deriving DecidableEq
def isAl (c : Nat) : Bool := (65 ≤ c && c ≤ 90) || (97 ≤ c && c ≤ 122)
def isDg (c : Nat) : Bool := 48 ≤ c && c ≤ 57
def isAn (c : Nat) : Bool := isAl c || isDg c
/-- how many of the first satisfy p -/
def run (p : Nat → Bool) : List Nat → Nat
  | [] => 0
  | c :: l => if p c then run p l + 1 else 0
/-- the place of the first c -/
def find (c : Nat) : List Nat → Option Nat
  | [] => none
  | d :: l => if d = c then some 0 else (find c l).map (· + 1)
/-- what blanks, line feeds and comments take at the beginning; an unended comment's place -/
def gap : Nat → List Nat → Except Nat Nat
  | 0, _ => .ok 0
  | _ + 1, [] => .ok 0
  | f + 1, c :: l =>
    if c = 32 ∨ c = 10 then (match gap f l with
      | .ok n => .ok (n + 1)
      | .error n => .error (n + 1))
    else if c = 34 then (match find 34 l with
      | none => .error 0
      | some k => (match gap f (l.drop (k + 1)) with
        | .ok n => .ok (n + k + 2)
        | .error n => .error (n + k + 2)))
    else .ok 0
/-- the length of a name, 0 if there is none -/
def nameLen (l : List Nat) : Nat := match l with
  | [] => 0
  | c :: _ => if isAl c then (if run isAn l ≤ 40 then run isAn l else 0) else 0
/-- the length of a keyword, 0 if there is none -/
def keyLen (l : List Nat) : Nat :=
  if 0 < nameLen l ∧ (l.drop (nameLen l)).head? = some 58 ∧ (l.drop (nameLen l + 1)).head? ≠ some 61 then nameLen l + 1 else 0
def num (l : List Nat) : Nat := l.foldl (fun n c => 10 * n + (c - 48)) 0
/-- a string's length with both quotes, and what it stands for; the list begins behind the first quote -/
def strBody : Nat → List Nat → Option (List Nat × Nat)
  | 0, _ => none
  | _ + 1, [] => none
  | f + 1, c :: l =>
    if c = 39 then (match l with
      | 39 :: r => (match strBody f r with
        | some (t, n) => some (39 :: t, n + 2)
        | none => none)
      | _ => some ([], 1))
    else (match strBody f l with
      | some (t, n) => some (c :: t, n + 1)
      | none => none)
def ops : List (List Nat) := [[43], [45], [42], [47, 47], [92, 92], [60], [62], [60, 61], [62, 61], [61], [61, 61], [126, 61], [126, 126], [44]]
def signs : List (List Nat) := [[58, 61], [35, 40], [40], [41], [91], [93], [58], [124], [94], [46], [59]]
/-- the length of one of these, the longer first, 0 if there is none -/
def listed (ws : List (List Nat)) (l : List Nat) : Nat :=
  if l.take 2 ∈ ws then (l.take 2).length else if l.take 1 ∈ ws then (l.take 1).length else 0
/-- keywords directly behind one another -/
def keysLen : Nat → List Nat → Nat
  | 0, _ => 0
  | f + 1, l => if 0 < keyLen l then keyLen l + keysLen f (l.drop (keyLen l)) else 0
/-- a symbol, behind its # -/
def symbol (l : List Nat) : Option (Val × Nat) :=
  if l.head? = some 39 then (match strBody (l.length) (l.drop 1) with
    | some (t, n) => some (.s t, n + 1)
    | none => none)
  else if 0 < keysLen l.length l then some (.s (l.take (keysLen l.length l)), keysLen l.length l)
  else if 0 < nameLen l then some (.s (l.take (nameLen l)), nameLen l)
  else if 0 < listed ops l then some (.s (l.take (listed ops l)), listed ops l)
  else none
def other (l : List Nat) : Option (Kd × Val × Nat) :=
  if 0 < listed ops l then some (.op, .s (l.take (listed ops l)), listed ops l)
  else if 0 < listed signs l then some (.sign, .s (l.take (listed signs l)), listed signs l)
  else none
/-- the word at the beginning, with its length -/
def word (binds : Bool) (l : List Nat) : Option (Kd × Val × Nat) := match l with
  | [] => none
  | c :: r =>
    if isAl c then
      (if 0 < keyLen l then some (.keyword, .s (l.take (keyLen l)), keyLen l)
       else if 0 < nameLen l then some (.name, .s (l.take (nameLen l)), nameLen l) else other l)
    else if isDg c then (if run isDg l ≤ 60 then some (.int, .i (num (l.take (run isDg l))), run isDg l) else other l)
    else if c = 39 then (match strBody l.length r with
      | some (t, n) => some (.str, .s t, n + 1)
      | none => other l)
    else if c = 35 then (match symbol r with
      | some (v, n) => some (.sym, v, n + 1)
      | none => other l)
    else if c = 45 ∧ binds = true then (if 0 < run isDg r ∧ run isDg r ≤ 60 then some (.int, .i (-(num (r.take (run isDg r)) : Int)), run isDg r + 1) else other l)
    else other l
abbrev W : Type := Kd × Val × Nat
/-- whether a minus belongs to the digits behind it -/
def binds (par : List Bool) (last : Option (Kd × Val)) : Bool :=
  par.any id || (match last with
    | none => true
    | some (k, v) => !(k = .name || k = .int || k = .str || k = .sym) && !(v = .s [41] || v = .s [93]))
def note (par : List Bool) (k : Kd) (v : Val) : List Bool :=
  if k = .sign ∧ v = .s [40] then par ++ [false] else if k = .sign ∧ v = .s [35, 40] then par ++ [true] else if k = .sign ∧ v = .s [41] then par.dropLast else par
/-- the words of what is left, from place p on -/
def toks : Nat → List Nat → Nat → List Bool → Option (Kd × Val) → Except Nat (List W)
  | 0, _, _, _, _ => .ok []
  | f + 1, l, p, par, last =>
    match gap l.length l with
    | .error n => .error (p + n)
    | .ok n =>
      if l.drop n = [] then .ok [] else
      match word (binds par last) (l.drop n) with
      | none => .error (p + n)
      | some (k, v, m) =>
        match toks f (l.drop (n + m)) (p + n + m) (note par k v) (some (k, v)) with
        | .ok ws => .ok ((k, v, p + n) :: ws)
        | .error q => .error q
def isSource (l : List Nat) : Bool := l.all (fun c => c == 10 || (32 ≤ c && c ≤ 126)) && l.length ≤ 2000
def words (l : List Nat) : Except Nat (List W) := toks (l.length + 1) l 0 [] none
instance decExc {ε α : Type} [DecidableEq ε] [DecidableEq α] : DecidableEq (Except ε α) := fun a b => match a, b with
  | .ok x, .ok y => if h : x = y then .isTrue (h ▸ rfl) else .isFalse fun e => h (Except.ok.inj e)
  | .error x, .error y => if h : x = y then .isTrue (h ▸ rfl) else .isFalse fun e => h (Except.error.inj e)
  | .ok _, .error _ => .isFalse fun e => nomatch e
  | .error _, .ok _ => .isFalse fun e => nomatch e
def codes (s : String) : List Nat := s.toList.map Char.toNat

/-! ### the mathematics -/
def shiftE (k : Nat) : Except Nat Nat → Except Nat Nat
  | .ok n => .ok (n + k)
  | .error n => .error (n + k)
theorem find_lt : ∀ {l : List Nat} {c k : Nat}, find c l = some k → k < l.length
  | [], _, _, h => by cases h
  | d :: l, c, k, h => by
    unfold find at h
    split at h
    · cases h
      simp
    · cases e : find c l with
      | none => rw [e] at h; cases h
      | some j =>
        rw [e] at h
        have := find_lt e
        cases h
        simp only [List.length_cons]
        omega
theorem find_app : ∀ {l : List Nat} {c k : Nat} (s : List Nat), find c l = some k → find c (l ++ s) = some k
  | [], _, _, _, h => by cases h
  | d :: l, c, k, s, h => by
    unfold find at h
    rw [List.cons_append]
    unfold find
    split at h
    · rename_i e
      rw [if_pos e]
      exact h
    · rename_i e
      rw [if_neg e]
      cases e2 : find c l with
      | none => rw [e2] at h; cases h
      | some j => rw [e2] at h; rw [find_app s e2]; exact h
theorem gap_fuel : ∀ (f g : Nat) (l : List Nat), l.length ≤ f → l.length ≤ g → gap f l = gap g l
  | 0, g, l, h, _ => by
    cases l with
    | nil => cases g <;> rfl
    | cons c l => simp at h
  | f + 1, g, [], _, _ => by cases g <;> rfl
  | f + 1, g, c :: l, h, h2 => by
    cases g with
    | zero => simp at h2
    | succ g =>
      simp only [List.length_cons] at h h2
      unfold gap
      have e1 := gap_fuel f g l (by omega) (by omega)
      rw [e1]
      split
      · rfl
      · split
        · cases e : find 34 l with
          | none => rfl
          | some k =>
            have hk := find_lt e
            have e2 := gap_fuel f g (l.drop (k + 1)) (by simp; omega) (by simp; omega)
            simp only [e2]
        · rfl
/-- g is a whole gap: what follows it is looked at anew -/
def IsGap (g : List Nat) : Prop := ∀ s : List Nat, gap (g ++ s).length (g ++ s) = shiftE g.length (gap s.length s)
theorem shiftE_zero (x : Except Nat Nat) : shiftE 0 x = x := by cases x <;> rfl
theorem shiftE_add (a b : Nat) (x : Except Nat Nat) : shiftE a (shiftE b x) = shiftE (b + a) x := by cases x <;> simp [shiftE, Nat.add_assoc]
theorem isGap_nil : IsGap [] := fun s => (shiftE_zero _).symm
theorem isGap_app {a b : List Nat} (ha : IsGap a) (hb : IsGap b) : IsGap (a ++ b) := fun s => by
  rw [List.append_assoc, ha, hb, shiftE_add, List.length_append, Nat.add_comm]
theorem isGap_blank {c : Nat} (h : c = 32 ∨ c = 10) : IsGap [c] := fun s => by
  show gap (s.length + 1) (c :: s) = _
  conv => lhs; unfold gap
  rw [if_pos h]
  cases gap s.length s <;> rfl
theorem isGap_comment {t : List Nat} (h : 34 ∉ t) : IsGap (34 :: t ++ [34]) := fun s => by
  have e : find 34 ((t ++ [34]) ++ s) = some t.length := by
    apply find_app
    clear s
    induction t with
    | nil => rfl
    | cons d t ih =>
      rw [List.cons_append]
      unfold find
      rw [if_neg (by intro z; subst z; exact h (List.mem_cons_self ..)), ih (fun z => h (List.mem_cons_of_mem _ z))]
      rfl
  show gap (((t ++ [34]) ++ s).length + 1) (34 :: ((t ++ [34]) ++ s)) = _
  conv => lhs; unfold gap
  rw [if_neg (by decide), if_pos rfl, e]
  have d : ((t ++ [34]) ++ s).drop (t.length + 1) = s := by
    rw [show t.length + 1 = (t ++ [34]).length by simp, List.drop_left]
  simp only [d]
  rw [gap_fuel _ s.length s (by simp; omega) (Nat.le_refl _)]
  cases gap s.length s <;> simp [shiftE] <;> omega
def rep (n : Nat) (g : List Nat) : List Nat := (List.replicate n g).flatten
theorem isGap_rep {g : List Nat} (h : IsGap g) : ∀ n, IsGap (rep n g)
  | 0 => isGap_nil
  | n + 1 => by
    have e : rep (n + 1) g = g ++ rep n g := by simp [rep, List.replicate_succ]
    rw [e]
    exact isGap_app h (isGap_rep h n)
theorem run_le (p : Nat → Bool) : ∀ l : List Nat, run p l ≤ l.length
  | [] => Nat.le_refl _
  | c :: l => by
    unfold run
    have := run_le p l
    split <;> simp <;> omega
theorem gap_le : ∀ (f : Nat) (l : List Nat) (n : Nat), gap f l = .ok n → n ≤ l.length
  | 0, l, n, h => by cases h; simp
  | f + 1, [], n, h => by cases h; simp
  | f + 1, c :: l, n, h => by
    unfold gap at h
    split at h
    · cases e : gap f l with
      | error m => rw [e] at h; cases h
      | ok m =>
        rw [e] at h
        cases h
        have := gap_le f l m e
        simp
        omega
    · split at h
      · cases e : find 34 l with
        | none => rw [e] at h; cases h
        | some k =>
          have hk := find_lt e
          cases e2 : gap f (l.drop (k + 1)) with
          | error m => simp only [e, e2] at h; cases h
          | ok m =>
            simp only [e, e2] at h
            cases h
            have := gap_le f _ m e2
            simp at this ⊢
            omega
      · cases h
        simp
theorem other_pos {l : List Nat} {k : Kd} {v : Val} {m : Nat} (h : other l = some (k, v, m)) : 0 < m := by
  unfold other at h
  split at h
  · cases h; assumption
  · split at h
    · cases h; assumption
    · cases h
theorem word_pos {b : Bool} {l : List Nat} {k : Kd} {v : Val} {m : Nat} (h : word b l = some (k, v, m)) : 0 < m := by
  unfold word at h
  split at h
  · cases h
  · rename_i c r
    split at h
    · split at h
      · cases h; assumption
      · split at h
        · cases h; assumption
        · exact other_pos h
    · split at h
      · rename_i hd
        split at h
        · cases h
          unfold run
          rw [if_pos hd]
          omega
        · exact other_pos h
      · split at h
        · split at h
          · cases h; omega
          · exact other_pos h
        · split at h
          · split at h
            · cases h; omega
            · exact other_pos h
          · split at h
            · split at h
              · cases h; omega
              · exact other_pos h
            · exact other_pos h
theorem toks_fuel : ∀ (f g : Nat) (l : List Nat) (p : Nat) (par : List Bool) (last : Option (Kd × Val)), l.length < f → l.length < g → toks f l p par last = toks g l p par last
  | 0, _, _, _, _, _, h, _ => by omega
  | f + 1, 0, _, _, _, _, _, h => by omega
  | f + 1, g + 1, l, p, par, last, h, h2 => by
    unfold toks
    cases e : gap l.length l with
    | error n => rfl
    | ok n =>
      have hn := gap_le _ _ _ e
      simp only []
      split
      · rfl
      · rename_i hne
        cases e2 : word (binds par last) (l.drop n) with
        | none => rfl
        | some w =>
          obtain ⟨k, v, m⟩ := w
          have hm := word_pos e2
          have hl : n < l.length := by
            rcases Nat.lt_or_ge n l.length with z | z
            · exact z
            · exact absurd (List.drop_eq_nil_of_le z) hne
          have := toks_fuel f g (l.drop (n + m)) (p + n + m) (note par k v) (some (k, v)) (by rw [List.length_drop]; omega) (by rw [List.length_drop]; omega)
          simp only [this]
def shiftW (k : Nat) : Except Nat (List W) → Except Nat (List W)
  | .ok ws => .ok (ws.map fun w => (w.1, w.2.1, w.2.2 + k))
  | .error n => .error (n + k)
theorem toks_shift (k : Nat) : ∀ (f : Nat) (l : List Nat) (p : Nat) (par : List Bool) (last : Option (Kd × Val)), toks f l (p + k) par last = shiftW k (toks f l p par last)
  | 0, _, _, _, _ => rfl
  | f + 1, l, p, par, last => by
    unfold toks
    cases gap l.length l with
    | error n => simp [shiftW]; omega
    | ok n =>
      simp only []
      split
      · rfl
      · cases word (binds par last) (l.drop n) with
        | none => simp [shiftW]; omega
        | some w =>
          obtain ⟨a, v, m⟩ := w
          simp only []
          have e := toks_shift k f (l.drop (n + m)) (p + n + m) (note par a v) (some (a, v))
          rw [show p + k + n + m = p + n + m + k by omega, e]
          cases toks f (l.drop (n + m)) (p + n + m) (note par a v) (some (a, v)) with
          | ok ws => simp [shiftW]; omega
          | error q => rfl
theorem toks_gap {g : List Nat} (hg : IsGap g) (f : Nat) (s : List Nat) (p : Nat) (par : List Bool) (last : Option (Kd × Val)) : toks (f + 1) (g ++ s) p par last = toks (f + 1) s (p + g.length) par last := by
  unfold toks
  rw [hg s]
  cases e : gap s.length s with
  | error n => simp [shiftE]; omega
  | ok n =>
    have d : ∀ j, (g ++ s).drop (j + g.length) = s.drop j := fun j => by
      rw [Nat.add_comm, ← List.drop_drop, List.drop_left]
    simp only [shiftE, d, show ∀ m, n + g.length + m = n + m + g.length from fun m => by omega, show ∀ m, p + (n + g.length) + m = p + g.length + n + m from fun m => by omega, show p + (n + g.length) = p + g.length + n by omega]
/-- a gap ahead moves the words, or the place of what is wrong -/
theorem words_gap {g : List Nat} (hg : IsGap g) (s : List Nat) : words (g ++ s) = shiftW g.length (words s) := by
  unfold words
  rw [toks_gap hg, toks_shift g.length, toks_fuel ((g ++ s).length + 1) (s.length + 1) s 0 [] none (by simp; omega) (by omega)]

end Tok

end
section
set_option maxRecDepth 100000
set_option linter.all false
set_option maxHeartbeats 1000000
/-! A source put together word by word is parted into just these words. -/
namespace Tok
def NotP (p : Nat → Bool) (s : List Nat) : Prop := ∀ c, s.head? = some c → p c = false
def NoCol (s : List Nat) : Prop := s.head? = some 58 → (s.drop 1).head? = some 61
structure IsName (t : List Nat) : Prop where
  al : ∃ c r, t = c :: r ∧ isAl c = true
  an : t.all isAn = true
  le : t.length ≤ 40
def dbl : List Nat → List Nat
  | [] => []
  | c :: u => if c = 39 then 39 :: 39 :: dbl u else c :: dbl u
def quote (u : List Nat) : List Nat := 39 :: (dbl u ++ [39])
def kkeys : List (List Nat) → List Nat
  | [] => []
  | n :: ns => n ++ 58 :: kkeys ns
theorem run_all {p : Nat → Bool} : ∀ {t s : List Nat}, t.all p = true → NotP p s → run p (t ++ s) = t.length
  | [], s, _, hs => by
    rw [List.nil_append]
    cases s with
    | nil => rfl
    | cons c s => unfold run; rw [hs c rfl]; rfl
  | c :: t, s, h, hs => by
    rw [List.all_cons, Bool.and_eq_true] at h
    rw [List.cons_append]
    unfold run
    rw [h.1, if_pos rfl, run_all h.2 hs]
    rfl
theorem IsName.pos {t : List Nat} (h : IsName t) : 0 < t.length := by
  obtain ⟨c, r, rfl, _⟩ := h.al
  simp
theorem nLen_app {t s : List Nat} (h : IsName t) (hs : NotP isAn s) : nameLen (t ++ s) = t.length := by
  have hr := run_all h.an hs
  obtain ⟨c, r, rfl, hc⟩ := h.al
  have hl := h.le
  show nameLen (c :: (r ++ s)) = _
  unfold nameLen
  simp only []
  rw [hc, if_pos rfl]
  have e : c :: (r ++ s) = (c :: r) ++ s := rfl
  rw [e, hr, if_pos hl]
theorem notP_cons {p : Nat → Bool} {c : Nat} {s : List Nat} (h : p c = false) : NotP p (c :: s) := fun d e => by cases e; exact h
theorem notP_nil {p : Nat → Bool} : NotP p [] := fun d e => by cases e
theorem kLen_key {n s : List Nat} (h : IsName n) (hs : s.head? ≠ some 61) : keyLen (n ++ 58 :: s) = n.length + 1 := by
  have e := nLen_app (s := 58 :: s) h (notP_cons (by decide))
  unfold keyLen
  rw [e, List.drop_left, show n ++ 58 :: s = (n ++ [58]) ++ s by simp, show n.length + 1 = (n ++ [58]).length by simp, List.drop_left]
  rw [if_pos ⟨h.pos, rfl, hs⟩]
theorem keyLen_name {t s : List Nat} (h : IsName t) (hs : NotP isAn s) (hc : NoCol s) : keyLen (t ++ s) = 0 := by
  have e := nLen_app h hs
  unfold keyLen
  rw [e, List.drop_left]
  have e2 : (t ++ s).drop (t.length + 1) = s.drop 1 := by rw [← List.drop_drop, List.drop_left]
  rw [e2, if_neg]
  rintro ⟨_, h1, h2⟩
  exact h2 (hc h1)
theorem dbl_app (u s : List Nat) : dbl (u ++ s) = dbl u ++ dbl s := by
  induction u with
  | nil => rfl
  | cons c u ih =>
    rw [List.cons_append, dbl, dbl, ih]
    split <;> rfl
theorem strBody_quote : ∀ (u s : List Nat) (f : Nat), s.head? ≠ some 39 → (dbl u).length < f → strBody f (dbl u ++ 39 :: s) = some (u, (dbl u).length + 1)
  | [], s, f, hs, hf => by
    cases f with
    | zero => simp [dbl] at hf
    | succ f =>
      show strBody (f + 1) (39 :: s) = some ([], 1)
      unfold strBody
      rw [if_pos rfl]
      split
      · exact absurd rfl hs
      · rfl
  | c :: u, s, f, hs, hf => by
    cases f with
    | zero => simp at hf
    | succ f =>
      by_cases hc : c = 39
      · subst hc
        have e : dbl (39 :: u) = 39 :: 39 :: dbl u := by rw [dbl, if_pos rfl]
        rw [e] at hf ⊢
        simp only [List.length_cons] at hf
        show strBody (f + 1) (39 :: 39 :: (dbl u ++ 39 :: s)) = _
        unfold strBody
        rw [if_pos rfl]
        simp only []
        rw [strBody_quote u s f hs (by omega)]
        simp only [List.length_cons]
      · have e : dbl (c :: u) = c :: dbl u := by rw [dbl, if_neg hc]
        rw [e] at hf ⊢
        simp only [List.length_cons] at hf
        show strBody (f + 1) (c :: (dbl u ++ 39 :: s)) = _
        unfold strBody
        rw [if_neg hc, strBody_quote u s f hs (by omega)]
        simp only [List.length_cons]
/-- a string that does not end -/
theorem strBody_open : ∀ (u : List Nat) (f : Nat), strBody f (dbl u) = none
  | [], f => by cases f <;> rfl
  | c :: u, 0 => rfl
  | c :: u, f + 1 => by
    by_cases hc : c = 39
    · subst hc
      have e : dbl (39 :: u) = 39 :: 39 :: dbl u := by rw [dbl, if_pos rfl]
      rw [e]
      unfold strBody
      rw [if_pos rfl]
      simp only []
      rw [strBody_open u f]
    · have e : dbl (c :: u) = c :: dbl u := by rw [dbl, if_neg hc]
      rw [e]
      unfold strBody
      rw [if_neg hc, strBody_open u f]
theorem keysLen_stop {s : List Nat} (h : NotP isAl s) (f : Nat) : keysLen f s = 0 := by
  cases f with
  | zero => rfl
  | succ f =>
    have e : nameLen s = 0 := by
      cases s with
      | nil => rfl
      | cons c s =>
        unfold nameLen
        simp only []
        rw [h c rfl]
        rfl
    have e2 : keyLen s = 0 := by
      unfold keyLen
      rw [e, if_neg]
      rintro ⟨h, _⟩
      omega
    unfold keysLen
    rw [e2]
    rfl
theorem kkeys_head {ns : List (List Nat)} (hn : ∀ n ∈ ns, IsName n) {s : List Nat} (hs : s.head? ≠ some 61) : (kkeys ns ++ s).head? ≠ some 61 := by
  cases ns with
  | nil => exact hs
  | cons n ns =>
    obtain ⟨c, r, rfl, hc⟩ := (hn n List.mem_cons_self).al
    intro e
    have : c = 61 := by simpa [kkeys] using e
    subst this
    cases hc
theorem kkeysLen : ∀ (ns : List (List Nat)) (s : List Nat) (f : Nat), (∀ n ∈ ns, IsName n) → NotP isAl s → s.head? ≠ some 61 → ns.length ≤ f → keysLen f (kkeys ns ++ s) = (kkeys ns).length
  | [], s, f, _, h, _, _ => keysLen_stop h f
  | n :: ns, s, 0, _, _, _, hf => by simp at hf
  | n :: ns, s, f + 1, hn, h, hs, hf => by
    have hn2 : ∀ m ∈ ns, IsName m := fun m hm => hn m (List.mem_cons_of_mem _ hm)
    have ih := kkeysLen ns s f hn2 h hs (by simpa using hf)
    have e0 : kkeys (n :: ns) ++ s = n ++ 58 :: (kkeys ns ++ s) := by simp [kkeys]
    have e1 := kLen_key (hn n List.mem_cons_self) (kkeys_head hn2 hs)
    rw [e0]
    unfold keysLen
    rw [e1, if_pos (by omega)]
    have e2 : (n ++ 58 :: (kkeys ns ++ s)).drop (n.length + 1) = kkeys ns ++ s := by rw [← List.drop_drop, List.drop_left]; rfl
    rw [e2, ih]
    simp [kkeys]
    omega
/-! ### the words, by their making -/
inductive Cl where
  | name (t : List Nat)
  | keyword (n : List Nat)
  | int (d : List Nat)
  | neg (d : List Nat)
  | str (u : List Nat)
  | symS (u : List Nat)
  | symN (n : List Nat)
  | symK (ns : List (List Nat))
  | symO (o : List Nat)
  | op (o : List Nat)
  | sign (o : List Nat)
def Cl.k : Cl → Kd
  | .name _ => .name
  | .keyword _ => .keyword
  | .int _ => .int
  | .neg _ => .int
  | .str _ => .str
  | .symS _ => .sym
  | .symN _ => .sym
  | .symK _ => .sym
  | .symO _ => .sym
  | .op _ => .op
  | .sign _ => .sign
def Cl.v : Cl → Val
  | .name t => .s t
  | .keyword n => .s (n ++ [58])
  | .int d => .i (num d)
  | .neg d => .i (-(num d : Int))
  | .str u => .s u
  | .symS u => .s u
  | .symN n => .s n
  | .symK ns => .s (kkeys ns)
  | .symO o => .s o
  | .op o => .s o
  | .sign o => .s o
def Cl.t : Cl → List Nat
  | .name t => t
  | .keyword n => n ++ [58]
  | .int d => d
  | .neg d => 45 :: d
  | .str u => quote u
  | .symS u => 35 :: quote u
  | .symN n => 35 :: n
  | .symK ns => 35 :: kkeys ns
  | .symO o => 35 :: o
  | .op o => o
  | .sign o => o
structure Digits (d : List Nat) : Prop where
  pos : 0 < d.length
  all : d.all isDg = true
  le : d.length ≤ 60
def Cl.ok (b : Bool) : Cl → Prop
  | .name t => IsName t
  | .keyword n => IsName n
  | .int d => Digits d
  | .neg d => Digits d ∧ b = true
  | .str _ => True
  | .symS _ => True
  | .symN n => IsName n
  | .symK ns => ns ≠ [] ∧ ∀ n ∈ ns, IsName n
  | .symO o => o ∈ ops
  | .op o => o ∈ ops
  | .sign o => o ∈ signs
/-- what may stand behind -/
def Cl.fol (b : Bool) (s : List Nat) : Cl → Prop
  | .name _ => NotP isAn s ∧ NoCol s
  | .keyword _ => s.head? ≠ some 61
  | .int _ => NotP isDg s
  | .neg _ => NotP isDg s
  | .str _ => s.head? ≠ some 39
  | .symS _ => s.head? ≠ some 39
  | .symN _ => NotP isAn s ∧ NoCol s
  | .symK _ => NotP isAl s ∧ s.head? ≠ some 61
  | .symO _ => s.head? ≠ some 61
  | .op o => s.head? ≠ some 61 ∧ (b = true → o = [45] → NotP isDg s)
  | .sign o => o = [58] → s.head? ≠ some 61
theorem listed_ops {o s : List Nat} (h : o ∈ ops) (hs : s.head? ≠ some 61) : listed ops (o ++ s) = o.length := by
  simp only [ops, List.mem_cons, List.not_mem_nil, or_false] at h
  rcases h with h | h | h | h | h | h | h | h | h | h | h | h | h | h <;> subst h <;> (cases s with
    | nil => rfl
    | cons c s =>
      have hc : c ≠ 61 := fun e => hs (by rw [e]; rfl)
      simp [listed, ops, hc])
theorem listed_signs {o s : List Nat} (h : o ∈ signs) (hs : o = [58] → s.head? ≠ some 61) : listed ops (o ++ s) = 0 ∧ listed signs (o ++ s) = o.length := by
  simp only [signs, List.mem_cons, List.not_mem_nil, or_false] at h
  rcases h with h | h | h | h | h | h | h | h | h | h | h <;> subst h <;> (cases s with
    | nil => exact ⟨rfl, rfl⟩
    | cons c s =>
      first
      | (have hc : c ≠ 61 := fun e => hs rfl (by rw [e]; rfl)
         simp [listed, ops, signs, hc])
      | simp [listed, ops, signs])
theorem other_op {o s : List Nat} (h : o ∈ ops) (hs : s.head? ≠ some 61) : other (o ++ s) = some (.op, .s o, o.length) := by
  have e := listed_ops h hs
  have hp : 0 < o.length := by
    simp only [ops, List.mem_cons, List.not_mem_nil, or_false] at h
    rcases h with h | h | h | h | h | h | h | h | h | h | h | h | h | h <;> subst h <;> decide
  unfold other
  rw [e, if_pos hp, List.take_left]
theorem other_sign {o s : List Nat} (h : o ∈ signs) (hs : o = [58] → s.head? ≠ some 61) : other (o ++ s) = some (.sign, .s o, o.length) := by
  obtain ⟨e1, e2⟩ := listed_signs h hs
  have hp : 0 < o.length := by
    simp only [signs, List.mem_cons, List.not_mem_nil, or_false] at h
    rcases h with h | h | h | h | h | h | h | h | h | h | h <;> subst h <;> decide
  unfold other
  rw [e1, if_neg (Nat.lt_irrefl 0), e2, if_pos hp, List.take_left]
theorem al_not_dg {c : Nat} (h : isAl c = true) : isDg c = false := by
  unfold isAl at h
  unfold isDg
  simp at h ⊢
  omega
theorem dg_not_al {c : Nat} (h : isDg c = true) : isAl c = false := by
  cases e : isAl c with
  | false => rfl
  | true => rw [al_not_dg e] at h; cases h
theorem digits_cons {d : List Nat} (h : Digits d) : ∃ c r, d = c :: r ∧ isDg c = true := by
  cases d with
  | nil => exact absurd h.pos (by simp)
  | cons c r =>
    have := h.all
    rw [List.all_cons, Bool.and_eq_true] at this
    exact ⟨c, r, rfl, this.1⟩
theorem wrd_str (b : Bool) (r : List Nat) : word b (39 :: r) = match strBody (39 :: r).length r with
    | some (t, n) => some (.str, .s t, n + 1)
    | none => other (39 :: r) := rfl
theorem word_sym (b : Bool) (r : List Nat) : word b (35 :: r) = match symbol r with
    | some (v, n) => some (.sym, v, n + 1)
    | none => other (35 :: r) := rfl
theorem word_al {b : Bool} {l : List Nat} {c : Nat} {r : List Nat} (e : l = c :: r) (h : isAl c = true) : word b l = if 0 < keyLen l then some (.keyword, .s (l.take (keyLen l)), keyLen l) else if 0 < nameLen l then some (.name, .s (l.take (nameLen l)), nameLen l) else other l := by
  subst e
  unfold word
  simp only []
  rw [h, if_pos rfl]
theorem word_neg (r : List Nat) : word true (45 :: r) = if 0 < run isDg r ∧ run isDg r ≤ 60 then some (.int, .i (-(num (r.take (run isDg r)) : Int)), run isDg r + 1) else other (45 :: r) := rfl
theorem word_of {b : Bool} {c : Cl} {s : List Nat} (hok : c.ok b) (hf : c.fol b s) : word b (c.t ++ s) = some (c.k, c.v, c.t.length) := by
  cases c with
  | name t =>
    have h : IsName t := hok
    have e1 := nLen_app h hf.1
    have e2 := keyLen_name h hf.1 hf.2
    have hp := h.pos
    have et : (t ++ s).take t.length = t := List.take_left
    obtain ⟨c, r, e, hc⟩ := h.al
    show word b (t ++ s) = some (.name, .s t, t.length)
    have e3 : t ++ s = c :: (r ++ s) := by rw [e]; rfl
    rw [word_al e3 hc, e2, if_neg (Nat.lt_irrefl 0), e1, if_pos hp, et]
  | keyword n =>
    have h : IsName n := hok
    have e1 := kLen_key h hf
    obtain ⟨c, r, e, hc⟩ := h.al
    show word b ((n ++ [58]) ++ s) = some (.keyword, .s (n ++ [58]), (n ++ [58]).length)
    have e0 : (n ++ [58]) ++ s = n ++ 58 :: s := by simp
    have et : (n ++ 58 :: s).take (n.length + 1) = n ++ [58] := by
      rw [← e0, show n.length + 1 = (n ++ [58]).length by simp, List.take_left]
    have e3 : n ++ 58 :: s = c :: (r ++ 58 :: s) := by rw [e]; rfl
    rw [e0]
    unfold word
    rw [e3]
    simp only []
    rw [hc, if_pos rfl, ← e3, e1, if_pos (Nat.succ_pos _), et]
    simp
  | int d =>
    have h : Digits d := hok
    have e1 := run_all h.all hf
    obtain ⟨c, r, e, hc⟩ := digits_cons h
    show word b (d ++ s) = some (.int, .i (num d), d.length)
    have e3 : d ++ s = c :: (r ++ s) := by rw [e]; rfl
    unfold word
    rw [e3]
    simp only []
    rw [dg_not_al hc, if_neg (by decide), hc, if_pos rfl, ← e3, e1, if_pos h.le, List.take_left]
  | neg d =>
    have h : Digits d := hok.1
    have e1 := run_all h.all hf
    show word b (45 :: (d ++ s)) = some (.int, .i (-(num d : Int)), d.length + 1)
    rw [hok.2, word_neg, e1, if_pos ⟨h.pos, h.le⟩, List.take_left]
  | str u =>
    have e1 := strBody_quote u s ((39 :: (dbl u ++ 39 :: s)).length) hf (by simp; omega)
    show word b ((39 :: (dbl u ++ [39])) ++ s) = some (.str, .s u, (39 :: (dbl u ++ [39])).length)
    rw [show (39 :: (dbl u ++ [39])) ++ s = 39 :: (dbl u ++ 39 :: s) by simp]
    rw [wrd_str, e1]
    simp
  | symS u =>
    have e1 := strBody_quote u s ((39 :: (dbl u ++ 39 :: s)).length) hf (by simp; omega)
    show word b (35 :: (39 :: (dbl u ++ [39])) ++ s) = some (.sym, .s u, (35 :: 39 :: (dbl u ++ [39])).length)
    rw [show 35 :: (39 :: (dbl u ++ [39])) ++ s = 35 :: 39 :: (dbl u ++ 39 :: s) by simp]
    rw [word_sym]
    have es : symbol (39 :: (dbl u ++ 39 :: s)) = some (.s u, (dbl u).length + 1 + 1) := by
      unfold symbol
      rw [if_pos (by rfl), show (39 :: (dbl u ++ 39 :: s)).drop 1 = dbl u ++ 39 :: s from rfl, e1]
    rw [es]
    simp
  | symN n =>
    have h : IsName n := hok
    have e1 := nLen_app h hf.1
    have e2 := keyLen_name h hf.1 hf.2
    obtain ⟨c, r, e, hc⟩ := h.al
    have e3 : n ++ s = c :: (r ++ s) := by rw [e]; rfl
    have hq : c ≠ 39 := fun z => by subst z; cases hc
    have e4 : keysLen (n ++ s).length (n ++ s) = 0 := by
      rw [e3]
      show keysLen ((r ++ s).length + 1) _ = 0
      unfold keysLen
      rw [← e3, e2, if_neg (Nat.lt_irrefl 0)]
    show word b (35 :: (n ++ s)) = some (.sym, .s n, n.length + 1)
    rw [word_sym]
    unfold symbol
    rw [if_neg (by rw [e3]; simpa using hq), e4, if_neg (Nat.lt_irrefl 0), e1, if_pos h.pos, List.take_left]
  | symK ns =>
    obtain ⟨h0, h⟩ := hok
    have hl : ns.length ≤ (kkeys ns ++ s).length := by
      rw [List.length_append]
      refine Nat.le_trans ?_ (Nat.le_add_right _ _)
      clear h h0 hf
      induction ns with
      | nil => exact Nat.zero_le _
      | cons n ns ih => simp [kkeys]; omega
    have e1 := kkeysLen ns s _ h hf.1 hf.2 hl
    have hp : 0 < (kkeys ns).length := by
      cases ns with
      | nil => exact absurd rfl h0
      | cons n ns => simp [kkeys]; omega
    have hq : (kkeys ns ++ s).head? ≠ some 39 := by
      cases ns with
      | nil => exact absurd rfl h0
      | cons n ns =>
        obtain ⟨c, r, rfl, hc⟩ := (h n List.mem_cons_self).al
        intro e
        have : c = 39 := by simpa [kkeys] using e
        subst this
        cases hc
    show word b (35 :: (kkeys ns ++ s)) = some (.sym, .s (kkeys ns), (kkeys ns).length + 1)
    rw [word_sym]
    unfold symbol
    rw [if_neg hq, e1, if_pos hp, List.take_left]
  | symO o =>
    have h : o ∈ ops := hok
    have e1 := listed_ops h hf
    have hh : ∃ c r, o = c :: r ∧ isAl c = false ∧ c ≠ 39 := by
      clear e1 hf hok
      simp only [ops, List.mem_cons, List.not_mem_nil, or_false] at h
      rcases h with h | h | h | h | h | h | h | h | h | h | h | h | h | h <;> subst h <;> exact ⟨_, _, rfl, by decide, by decide⟩
    have hp : 0 < o.length := by obtain ⟨c, r, rfl, _⟩ := hh; simp
    obtain ⟨c, r, e, hc, hq⟩ := hh
    have e3 : o ++ s = c :: (r ++ s) := by rw [e]; rfl
    have hk := keysLen_stop (s := o ++ s) (by rw [e3]; exact notP_cons hc) (o ++ s).length
    have hn : nameLen (o ++ s) = 0 := by
      rw [e3]
      unfold nameLen
      simp only []
      rw [hc]
      rfl
    show word b (35 :: (o ++ s)) = some (.sym, .s o, o.length + 1)
    rw [word_sym]
    unfold symbol
    rw [if_neg (by rw [e3]; simpa using hq), hk, if_neg (Nat.lt_irrefl 0), hn, if_neg (Nat.lt_irrefl 0), e1, if_pos hp, List.take_left]
  | op o =>
    have h : o ∈ ops := hok
    have e1 := other_op h hf.1
    have hh : ∃ c r, o = c :: r ∧ isAl c = false ∧ isDg c = false ∧ c ≠ 39 ∧ c ≠ 35 ∧ (c = 45 → r = []) := by
      clear e1 hf hok
      simp only [ops, List.mem_cons, List.not_mem_nil, or_false] at h
      rcases h with h | h | h | h | h | h | h | h | h | h | h | h | h | h <;> subst h <;> exact ⟨_, _, rfl, by decide, by decide, by decide, by decide, by decide⟩
    obtain ⟨c, r, e, h1, h2, h3, h4, h5⟩ := hh
    show word b (o ++ s) = some (.op, .s o, o.length)
    have e3 : o ++ s = c :: (r ++ s) := by rw [e]; rfl
    rw [← e1]
    unfold word
    rw [e3]
    simp only []
    rw [h1, if_neg (by decide), h2, if_neg (by decide), if_neg h3, if_neg h4]
    by_cases hm : c = 45 ∧ b = true
    · rw [if_pos hm]
      have er : r = [] := h5 hm.1
      have ho : o = [45] := by rw [e, er, hm.1]
      have hd := hf.2 hm.2 ho
      have e6 : run isDg (r ++ s) = 0 := by rw [er]; exact run_all (t := []) rfl hd
      rw [if_neg (by rw [e6]; rintro ⟨h, _⟩; omega)]
    · rw [if_neg hm]
  | sign o =>
    have h : o ∈ signs := hok
    have e1 := other_sign h hf
    show word b (o ++ s) = some (.sign, .s o, o.length)
    by_cases ho : o = [35, 40]
    · subst ho
      rw [← e1]
      show word b (35 :: 40 :: s) = _
      rw [word_sym]
      have hk := keysLen_stop (s := 40 :: s) (notP_cons (by decide)) (40 :: s).length
      have hl : listed ops (40 :: s) = 0 := by cases s <;> simp [listed, ops]
      have : symbol (40 :: s) = none := by
        unfold symbol
        rw [if_neg (by simp), hk, if_neg (Nat.lt_irrefl 0), show nameLen (40 :: s) = 0 from rfl, if_neg (Nat.lt_irrefl 0), hl, if_neg (Nat.lt_irrefl 0)]
      rw [this]
      rfl
    · have hh : ∃ c r, o = c :: r ∧ isAl c = false ∧ isDg c = false ∧ c ≠ 39 ∧ c ≠ 35 ∧ c ≠ 45 := by
        clear e1 hf hok
        simp only [signs, List.mem_cons, List.not_mem_nil, or_false] at h
        rcases h with h | h | h | h | h | h | h | h | h | h | h <;> first | exact absurd h ho | (subst h; exact ⟨_, _, rfl, by decide, by decide, by decide, by decide, by decide⟩)
      obtain ⟨c, r, e, h1, h2, h3, h4, h5⟩ := hh
      have e3 : o ++ s = c :: (r ++ s) := by rw [e]; rfl
      rw [← e1]
      unfold word
      rw [e3]
      simp only []
      rw [h1, if_neg (by decide), h2, if_neg (by decide), if_neg h3, if_neg h4, if_neg (fun z => h5 z.1)]
end Tok

end
section
set_option maxRecDepth 100000
set_option linter.all false
set_option maxHeartbeats 1000000
namespace Tok
def parts (k1 : Kd) (t1 : List Nat) (k2 : Kd) (t2 : List Nat) (neg : Bool) : Bool :=
  if (k1 = .name ∨ k1 = .int ∨ k1 = .sym) ∧ isDg (t2.headD 0) = true ∧ t1.getLastD 0 ≠ 39 then decide (k1 ≠ .sym) || isAl (t1.getD 1 0)
  else if k1 = .name then (decide (k2 = .name) || decide (k2 = .keyword)) || decide (t2 = [58])
  else if k1 = .sym ∧ t1.getLastD 0 = 58 then (decide (k2 = .name) || decide (k2 = .keyword)) || decide (t2.headD 0 = 61)
  else if k1 = .sym ∧ isAl (t1.getD 1 0) = true then (decide (k2 = .name) || decide (k2 = .keyword)) || decide (t2 = [58])
  else if (k1 = .str ∨ k1 = .sym) ∧ t1.getLastD 0 = 39 then decide (t2.headD 0 = 39)
  else if k1 = .keyword ∨ t1 = [58] then decide (t2.headD 0 = 61)
  else if k1 = .op ∧ t1 = [45] ∧ isDg (t2.headD 0) = true then neg
  else (decide (k1 = .op) || decide (k1 = .sym)) && decide (k2 = .op)
theorem getLastD_app (a : List Nat) (c : Nat) : (a ++ [c]).getLastD 0 = c := by
  cases a with
  | nil => rfl
  | cons x a => rw [List.cons_append, List.getLastD_cons]; simp [List.getLastD_eq_getLast?]
theorem last_mem {a : List Nat} (h : a ≠ []) : a.getLastD 0 ∈ a := by
  rw [List.getLastD_eq_getLast?, List.getLast?_eq_some_getLast h]
  exact List.getLast_mem h
theorem an_ne {c : Nat} (h : isAn c = true) : c ≠ 39 ∧ c ≠ 58 := by
  constructor <;> (intro e; subst e; cases h)
/-- what words begin with -/
structure HeadF (k : Kd) (t : List Nat) (h : Nat) (r : List Nat) : Prop where
  eq : t = h :: r
  al : isAl h = true → k = .name ∨ k = .keyword
  e61 : h = 61 → k = .op
  e58 : h = 58 → t = [58] ∨ t = [58, 61]
theorem head_of {c : Cl} {b : Bool} (hok : c.ok b) : ∃ h r, HeadF c.k c.t h r := by
  cases c with
  | name t =>
    obtain ⟨c, r, e, hc⟩ := (show IsName t from hok).al
    exact ⟨c, r, e, fun _ => .inl rfl, fun z => (by subst z; cases hc), fun z => (by subst z; cases hc)⟩
  | keyword n =>
    obtain ⟨c, r, e, hc⟩ := (show IsName n from hok).al
    exact ⟨c, r ++ [58], (by show n ++ [58] = _; rw [e]; rfl), fun _ => .inr rfl, fun z => (by subst z; cases hc), fun z => (by subst z; cases hc)⟩
  | int d =>
    obtain ⟨c, r, e, hc⟩ := digits_cons (show Digits d from hok)
    exact ⟨c, r, e, fun z => (by rw [dg_not_al hc] at z; cases z), fun z => (by subst z; cases hc), fun z => (by subst z; cases hc)⟩
  | neg d => exact ⟨45, d, rfl, fun z => (by cases z), fun z => (by cases z), fun z => (by cases z)⟩
  | str u => exact ⟨39, _, rfl, fun z => (by cases z), fun z => (by cases z), fun z => (by cases z)⟩
  | symS u => exact ⟨35, _, rfl, fun z => (by cases z), fun z => (by cases z), fun z => (by cases z)⟩
  | symN n => exact ⟨35, _, rfl, fun z => (by cases z), fun z => (by cases z), fun z => (by cases z)⟩
  | symK ns => exact ⟨35, _, rfl, fun z => (by cases z), fun z => (by cases z), fun z => (by cases z)⟩
  | symO o => exact ⟨35, _, rfl, fun z => (by cases z), fun z => (by cases z), fun z => (by cases z)⟩
  | op o =>
    have h : o ∈ ops := hok
    simp only [ops, List.mem_cons, List.not_mem_nil, or_false] at h
    rcases h with h | h | h | h | h | h | h | h | h | h | h | h | h | h <;> subst h <;> exact ⟨_, _, rfl, fun z => (by cases z), fun z => rfl, fun z => (by cases z)⟩
  | sign o =>
    have h : o ∈ signs := hok
    simp only [signs, List.mem_cons, List.not_mem_nil, or_false] at h
    rcases h with h | h | h | h | h | h | h | h | h | h | h <;> subst h <;> exact ⟨_, _, rfl, fun z => (by cases z), fun z => (by cases z), fun z => (by first | exact .inl rfl | exact .inr rfl | cases z)⟩
theorem name_last {t : List Nat} (h : IsName t) : isAn (t.getLastD 0) = true := by
  have hp := h.pos
  exact List.all_eq_true.mp h.an _ (last_mem (by intro e; rw [e] at hp; cases hp))
theorem cons_last {c : Nat} {t : List Nat} (h : t ≠ []) : (c :: t).getLastD 0 = t.getLastD 0 := by
  cases t with
  | nil => exact absurd rfl h
  | cons d t => rfl
theorem keys_last {ns : List (List Nat)} (h : ns ≠ []) : (kkeys ns).getLastD 0 = 58 := by
  have e : ∀ ns : List (List Nat), ns ≠ [] → ∃ a, kkeys ns = a ++ [58] := by
    intro ns
    induction ns with
    | nil => intro h; exact absurd rfl h
    | cons n ns ih =>
      intro _
      by_cases hn : ns = []
      · subst hn
        exact ⟨n, by simp [kkeys]⟩
      · obtain ⟨a, ha⟩ := ih hn
        exact ⟨n ++ 58 :: a, by simp [kkeys, ha]⟩
  obtain ⟨a, ha⟩ := e ns h
  rw [ha, getLastD_app]
theorem keys_ne {ns : List (List Nat)} (h : ns ≠ []) : kkeys ns ≠ [] := by
  cases ns with
  | nil => exact absurd rfl h
  | cons n ns => simp [kkeys]
theorem an_of_dg {c : Nat} (h : isDg c = true) : isAn c = true := by unfold isAn; rw [h, Bool.or_true]
theorem digits_last {d : List Nat} (h : Digits d) : isDg (d.getLastD 0) = true := by
  have hp := h.pos
  exact List.all_eq_true.mp h.all _ (last_mem (by intro e; rw [e] at hp; cases hp))
theorem digits_ne {d : List Nat} (h : Digits d) : d ≠ [] := fun e => by have := h.pos; rw [e] at this; cases this
theorem name_ne {d : List Nat} (h : IsName d) : d ≠ [] := fun e => by have := h.pos; rw [e] at this; cases this
theorem quote_last (u : List Nat) : (quote u).getLastD 0 = 39 := by
  unfold quote
  rw [cons_last (by simp), getLastD_app]
theorem op_last {o : List Nat} (h : o ∈ ops) : o ≠ [] ∧ o.getLastD 0 ≠ 39 ∧ o.getLastD 0 ≠ 58 ∧ isDg (o.getLastD 0) = false ∧ isAl (o.headD 0) = false ∧ o ≠ [58] := by
  simp only [ops, List.mem_cons, List.not_mem_nil, or_false] at h
  rcases h with h | h | h | h | h | h | h | h | h | h | h | h | h | h <;> subst h <;> decide
theorem sign_last {o : List Nat} (h : o ∈ signs) : o ≠ [] ∧ isDg (o.getLastD 0) = false := by
  simp only [signs, List.mem_cons, List.not_mem_nil, or_false] at h
  rcases h with h | h | h | h | h | h | h | h | h | h | h <;> subst h <;> decide
theorem parts_name {t1 : List Nat} {k2 : Kd} {t2 : List Nat} {n : Bool} (h : IsName t1) (hp : parts .name t1 k2 t2 n = false) : isDg (t2.headD 0) = false ∧ k2 ≠ .name ∧ k2 ≠ .keyword ∧ t2 ≠ [58] := by
  have hl := an_ne (name_last h)
  unfold parts at hp
  by_cases hd : isDg (t2.headD 0) = true
  · rw [if_pos ⟨.inl rfl, hd, hl.1⟩] at hp
    cases hp
  · rw [if_neg (fun z => hd z.2.1), if_pos rfl] at hp
    simp only [Bool.or_eq_false_iff, decide_eq_false_iff_not] at hp
    exact ⟨Bool.eq_false_iff.mpr hd, hp.1.1, hp.1.2, hp.2⟩
theorem parts_int {t1 : List Nat} {k2 : Kd} {t2 : List Nat} {n : Bool} (h : isDg (t1.getLastD 0) = true) (hp : parts .int t1 k2 t2 n = false) : isDg (t2.headD 0) = false := by
  have hl := an_ne (an_of_dg h)
  unfold parts at hp
  by_cases hd : isDg (t2.headD 0) = true
  · rw [if_pos ⟨.inr (.inl rfl), hd, hl.1⟩] at hp
    cases hp
  · exact Bool.eq_false_iff.mpr hd
theorem parts_symN {t1 : List Nat} {k2 : Kd} {t2 : List Nat} {n : Bool} (hl : t1.getLastD 0 ≠ 39 ∧ t1.getLastD 0 ≠ 58) (ha : isAl (t1.getD 1 0) = true) (hp : parts .sym t1 k2 t2 n = false) : isDg (t2.headD 0) = false ∧ k2 ≠ .name ∧ k2 ≠ .keyword ∧ t2 ≠ [58] := by
  unfold parts at hp
  by_cases hd : isDg (t2.headD 0) = true
  · rw [if_pos ⟨.inr (.inr rfl), hd, hl.1⟩, ha, Bool.or_true] at hp
    cases hp
  · rw [if_neg (fun z => hd z.2.1), if_neg (by decide), if_neg (fun z => hl.2 z.2), if_pos ⟨rfl, ha⟩] at hp
    simp only [Bool.or_eq_false_iff, decide_eq_false_iff_not] at hp
    exact ⟨Bool.eq_false_iff.mpr hd, hp.1.1, hp.1.2, hp.2⟩
theorem parts_symK {t1 : List Nat} {k2 : Kd} {t2 : List Nat} {n : Bool} (hl : t1.getLastD 0 = 58) (ha : isAl (t1.getD 1 0) = true) (hp : parts .sym t1 k2 t2 n = false) : k2 ≠ .name ∧ k2 ≠ .keyword ∧ t2.headD 0 ≠ 61 ∧ isDg (t2.headD 0) = false := by
  unfold parts at hp
  by_cases hd : isDg (t2.headD 0) = true
  · rw [if_pos ⟨.inr (.inr rfl), hd, by rw [hl]; decide⟩, ha, Bool.or_true] at hp
    cases hp
  · rw [if_neg (fun z => hd z.2.1), if_neg (by decide), if_pos ⟨rfl, hl⟩] at hp
    simp only [Bool.or_eq_false_iff, decide_eq_false_iff_not] at hp
    exact ⟨hp.1.1, hp.1.2, hp.2, Bool.eq_false_iff.mpr hd⟩
theorem parts_q {k1 : Kd} {t1 : List Nat} {k2 : Kd} {t2 : List Nat} {n : Bool} (hk : k1 = .str ∨ (k1 = .sym ∧ isAl (t1.getD 1 0) = false)) (hl : t1.getLastD 0 = 39) (hp : parts k1 t1 k2 t2 n = false) : t2.headD 0 ≠ 39 := by
  unfold parts at hp
  have h58 : t1.getLastD 0 ≠ 58 := by rw [hl]; decide
  rcases hk with rfl | ⟨rfl, ha⟩
  · rw [if_neg (fun z => z.2.2 hl), if_neg (by decide), if_neg (fun z => h58 z.2), if_neg (fun z => by cases z.1), if_pos ⟨.inl rfl, hl⟩] at hp
    exact of_decide_eq_false hp
  · rw [if_neg (fun z => z.2.2 hl), if_neg (by decide), if_neg (fun z => h58 z.2), if_neg (fun z => by rw [ha] at z; cases z.2), if_pos ⟨.inr rfl, hl⟩] at hp
    exact of_decide_eq_false hp
theorem parts_col {k1 : Kd} {t1 : List Nat} {k2 : Kd} {t2 : List Nat} {n : Bool} (hk : k1 = .keyword ∨ (k1 = .sign ∧ t1 = [58])) (hp : parts k1 t1 k2 t2 n = false) : t2.headD 0 ≠ 61 := by
  unfold parts at hp
  rcases hk with rfl | ⟨rfl, rfl⟩
  · rw [if_neg (fun z => by rcases z.1 with h | h | h <;> cases h), if_neg (by decide), if_neg (fun z => by cases z.1), if_neg (fun z => by cases z.1), if_neg (fun z => by rcases z.1 with h | h <;> cases h), if_pos (.inl rfl)] at hp
    exact of_decide_eq_false hp
  · rw [if_neg (fun z => by rcases z.1 with h | h | h <;> cases h), if_neg (by decide), if_neg (fun z => by cases z.1), if_neg (fun z => by cases z.1), if_neg (fun z => by rcases z.1 with h | h <;> cases h), if_pos (.inr rfl)] at hp
    exact of_decide_eq_false hp
theorem parts_symO {t1 : List Nat} {k2 : Kd} {t2 : List Nat} {n : Bool} (hl : t1.getLastD 0 ≠ 39 ∧ t1.getLastD 0 ≠ 58) (ha : isAl (t1.getD 1 0) = false) (h58 : t1 ≠ [58]) (hp : parts .sym t1 k2 t2 n = false) : k2 ≠ .op ∨ isDg (t2.headD 0) = true := by
  unfold parts at hp
  by_cases hd : isDg (t2.headD 0) = true
  · exact .inr hd
  · rw [if_neg (fun z => hd z.2.1), if_neg (by decide), if_neg (fun z => hl.2 z.2), if_neg (fun z => by rw [ha] at z; cases z.2), if_neg (fun z => hl.1 z.2), if_neg (fun z => by rcases z with h | h; cases h; exact h58 h), if_neg (fun z => by cases z.1)] at hp
    exact .inl (fun z => by rw [z] at hp; cases hp)
theorem parts_op {t1 : List Nat} {k2 : Kd} {t2 : List Nat} {n : Bool} (h58 : t1 ≠ [58]) (hp : parts .op t1 k2 t2 n = false) : (k2 ≠ .op ∨ isDg (t2.headD 0) = true) ∧ (n = true → t1 = [45] → isDg (t2.headD 0) = false) := by
  unfold parts at hp
  rw [if_neg (fun z => by rcases z.1 with h | h | h <;> cases h), if_neg (by decide), if_neg (fun z => by cases z.1), if_neg (fun z => by cases z.1), if_neg (fun z => by rcases z.1 with h | h <;> cases h), if_neg (fun z => by rcases z with h | h; cases h; exact h58 h)] at hp
  by_cases hd : t1 = [45] ∧ isDg (t2.headD 0) = true
  · rw [if_pos ⟨rfl, hd.1, hd.2⟩] at hp
    exact ⟨.inr hd.2, fun z => by rw [hp] at z; cases z⟩
  · rw [if_neg (fun z => hd z.2)] at hp
    exact ⟨.inl (fun z => by rw [z] at hp; cases hp), fun _ h => Bool.eq_false_iff.mpr fun z => hd ⟨h, z⟩⟩
theorem getD_name {n : List Nat} (h : IsName n) (s : List Nat) : isAl ((35 :: (n ++ s)).getD 1 0) = true := by
  obtain ⟨c, r, rfl, hc⟩ := h.al
  exact hc
/-- two words that need not be parted -/
theorem fol_parts {c1 c2 : Cl} {b1 b2 : Bool} (h1 : c1.ok b1) (h2 : c2.ok b2) (hp : parts c1.k c1.t c2.k c2.t b1 = false) (s : List Nat) : c1.fol b1 (c2.t ++ s) := by
  obtain ⟨h, r, H⟩ := head_of h2
  have hh : c2.t.headD 0 = h := by rw [H.eq]; rfl
  have he : c2.t ++ s = h :: (r ++ s) := by rw [H.eq]; rfl
  have notal : c2.k ≠ .name → c2.k ≠ .keyword → isAl h = false := fun a b => by
    cases e : isAl h with
    | false => rfl
    | true => rcases H.al e with z | z; exact absurd z a; exact absurd z b
  have notan : isDg h = false → c2.k ≠ .name → c2.k ≠ .keyword → NotP isAn (c2.t ++ s) := fun a b c => by
    rw [he]
    refine notP_cons ?_
    unfold isAn
    rw [notal b c, a]
    rfl
  have nocol : c2.t ≠ [58] → NoCol (c2.t ++ s) := fun a e => by
    have e : h = 58 := by rw [he] at e; exact Option.some.inj e
    rcases H.e58 e with z | z
    · exact absurd z a
    · rw [z]; rfl
  have not61 : c2.k ≠ .op ∨ isDg h = true → (c2.t ++ s).head? ≠ some 61 := fun a e => by
    have e : h = 61 := by rw [he] at e; exact Option.some.inj e
    rcases a with a | a
    · exact a (H.e61 e)
    · subst e; cases a
  have not61' : h ≠ 61 → (c2.t ++ s).head? ≠ some 61 := fun a e => by
    rw [he] at e
    exact a (Option.some.inj e)
  have not39 : h ≠ 39 → (c2.t ++ s).head? ≠ some 39 := fun a e => by
    rw [he] at e
    exact a (Option.some.inj e)
  cases c1 with
  | name t =>
    obtain ⟨p1, p2, p3, p4⟩ := parts_name (show IsName t from h1) hp
    rw [hh] at p1
    exact ⟨notan p1 p2 p3, nocol p4⟩
  | keyword n =>
    have p := parts_col (.inl rfl) hp
    rw [hh] at p
    exact not61' p
  | int d =>
    have p := parts_int (digits_last (show Digits d from h1)) hp
    rw [hh] at p
    show NotP isDg _
    rw [he]
    exact notP_cons p
  | neg d =>
    have p := parts_int (t1 := 45 :: d) (by rw [cons_last (digits_ne h1.1)]; exact digits_last h1.1) hp
    rw [hh] at p
    show NotP isDg _
    rw [he]
    exact notP_cons p
  | str u =>
    have p := parts_q (.inl rfl) (quote_last u) hp
    rw [hh] at p
    exact not39 p
  | symS u =>
    have p := parts_q (t1 := 35 :: quote u) (.inr ⟨rfl, rfl⟩) (by rw [cons_last (by simp [quote]), quote_last]) hp
    rw [hh] at p
    exact not39 p
  | symN n =>
    have hn : IsName n := h1
    have hl : (35 :: n).getLastD 0 = n.getLastD 0 := cons_last (name_ne hn)
    obtain ⟨p1, p2, p3, p4⟩ := parts_symN (t1 := 35 :: n) (by rw [hl]; exact an_ne (name_last hn)) (by have := getD_name hn []; rw [List.append_nil] at this; exact this) hp
    rw [hh] at p1
    exact ⟨notan p1 p2 p3, nocol p4⟩
  | symK ns =>
    obtain ⟨n0, hn⟩ := h1
    obtain ⟨p1, p2, p3, p4⟩ := parts_symK (t1 := 35 :: kkeys ns) (by rw [cons_last (keys_ne n0), keys_last n0]) (by
      cases ns with
      | nil => exact absurd rfl n0
      | cons n ns => exact getD_name (hn n List.mem_cons_self) _) hp
    rw [hh] at p3
    exact ⟨by rw [he]; exact notP_cons (notal p1 p2), not61' p3⟩
  | symO o =>
    obtain ⟨q1, q2, q3, q4, q5, q6⟩ := op_last h1
    have hl : (35 :: o).getLastD 0 = o.getLastD 0 := cons_last q1
    have p := parts_symO (t1 := 35 :: o) (by rw [hl]; exact ⟨q2, q3⟩) (by
      cases o with
      | nil => exact absurd rfl q1
      | cons c o => exact q5) (by simp) hp
    rw [hh] at p
    exact not61 p
  | op o =>
    obtain ⟨q1, q2, q3, q4, q5, q6⟩ := op_last h1
    obtain ⟨p1, p2⟩ := parts_op q6 hp
    rw [hh] at p1 p2
    exact ⟨not61 p1, fun a b => by rw [he]; exact notP_cons (p2 a b)⟩
  | sign o =>
    intro e
    have p := parts_col (k1 := .sign) (.inr ⟨rfl, e⟩) hp
    rw [hh] at p
    exact not61' p
theorem junct {c1 c2 : Cl} {b1 b2 : Bool} (h1 : c1.ok b1) (h2 : c2.ok b2) (hp : parts c1.k c1.t c2.k c2.t b1 = false) : isDg (c1.t.getLastD 0) = false ∨ isDg (c2.t.headD 0) = false := by
  cases c1 with
  | name t => exact .inr (parts_name (show IsName t from h1) hp).1
  | keyword n => exact .inl (by show isDg ((n ++ [58]).getLastD 0) = false; rw [getLastD_app]; rfl)
  | int d => exact .inr (parts_int (digits_last (show Digits d from h1)) hp)
  | neg d => exact .inr (parts_int (t1 := 45 :: d) (by rw [cons_last (digits_ne h1.1)]; exact digits_last h1.1) hp)
  | str u => exact .inl (by show isDg ((quote u).getLastD 0) = false; rw [quote_last]; rfl)
  | symS u => exact .inl (by show isDg ((35 :: quote u).getLastD 0) = false; rw [cons_last (by simp [quote]), quote_last]; rfl)
  | symN n =>
    have hn : IsName n := h1
    have hl : (35 :: n).getLastD 0 = n.getLastD 0 := cons_last (name_ne hn)
    exact .inr (parts_symN (t1 := 35 :: n) (by rw [hl]; exact an_ne (name_last hn)) (by have := getD_name hn []; rw [List.append_nil] at this; exact this) hp).1
  | symK ns => exact .inl (by show isDg ((35 :: kkeys ns).getLastD 0) = false; rw [cons_last (keys_ne h1.1), keys_last h1.1]; rfl)
  | symO o =>
    obtain ⟨q1, q2, q3, q4, q5, q6⟩ := op_last h1
    exact .inl (by show isDg ((35 :: o).getLastD 0) = false; rw [cons_last q1]; exact q4)
  | op o => exact .inl (op_last h1).2.2.2.1
  | sign o => exact .inl (sign_last h1).2
def blankish (c : Nat) : Prop := c = 32 ∨ c = 10 ∨ c = 34
theorem fol_gap {c : Cl} {b : Bool} {s : List Nat} (h : s = [] ∨ ∃ d r, s = d :: r ∧ blankish d) : c.fol b s := by
  have a1 : NotP isAn s := by
    rcases h with rfl | ⟨d, r, rfl, hd⟩
    · exact notP_nil
    · exact notP_cons (by rcases hd with rfl | rfl | rfl <;> rfl)
  have a2 : NotP isDg s := fun d e => by
    have := a1 d e
    unfold isAn at this
    exact (Bool.or_eq_false_iff.mp this).2
  have a3 : NotP isAl s := fun d e => by
    have := a1 d e
    unfold isAn at this
    exact (Bool.or_eq_false_iff.mp this).1
  have a4 : ∀ x, ¬ blankish x → s.head? ≠ some x := fun x hx e => by
    rcases h with rfl | ⟨d, r, rfl, hd⟩
    · cases e
    · have : d = x := Option.some.inj e
      exact hx (this ▸ hd)
  have n58 : s.head? ≠ some 58 := a4 58 (by unfold blankish; omega)
  have n61 : s.head? ≠ some 61 := a4 61 (by unfold blankish; omega)
  have n39 : s.head? ≠ some 39 := a4 39 (by unfold blankish; omega)
  cases c with
  | name t => exact ⟨a1, fun e => absurd e n58⟩
  | keyword n => exact n61
  | int d => exact a2
  | neg d => exact a2
  | str u => exact n39
  | symS u => exact n39
  | symN n => exact ⟨a1, fun e => absurd e n58⟩
  | symK ns => exact ⟨a3, n61⟩
  | symO o => exact n61
  | op o => exact ⟨n61, fun _ _ => a2⟩
  | sign o => exact fun _ => n61
end Tok

end
section
set_option maxRecDepth 100000
set_option linter.all false
set_option maxHeartbeats 1000000
namespace Tok
def okc (c : Nat) : Bool := c == 10 || (32 ≤ c && c ≤ 126)
/-- no more than 640 digits in a row -/
def NdL (L : List Nat) : Prop := ∀ q n : Nat, ((L.drop q).take n).all isDg = true → ((L.drop q).take n).length ≤ 640
theorem ndL_short {L : List Nat} (h : L.length ≤ 640) : NdL L := fun q n _ => by
  rw [List.length_take, List.length_drop]
  omega
theorem getLastD_get {A : List Nat} (h : A ≠ []) : ∃ hl : A.length - 1 < A.length, A[A.length - 1] = A.getLastD 0 := by
  have hp : 0 < A.length := List.length_pos_iff.mpr h
  refine ⟨by omega, ?_⟩
  rw [List.getLastD_eq_getLast?, List.getLast?_eq_some_getLast h, List.getLast_eq_getElem]
  rfl
theorem ndL_app {A B : List Nat} (hA : NdL A) (hB : NdL B) (h : A = [] ∨ B = [] ∨ isDg (A.getLastD 0) = false ∨ isDg (B.headD 0) = false) : NdL (A ++ B) := by
  by_cases hA0 : A = []
  · rw [hA0]; exact hB
  by_cases hB0 : B = []
  · rw [hB0, List.append_nil]; exact hA
  have h : isDg (A.getLastD 0) = false ∨ isDg (B.headD 0) = false := by
    rcases h with h | h | h
    · exact absurd h hA0
    · exact absurd h hB0
    · exact h
  intro q n hall
  rcases Nat.lt_or_ge q A.length with hq | hq
  · rcases Nat.lt_or_ge A.length (q + n) with hn | hn
    · exfalso
      have all : ∀ i, q ≤ i → i < q + n → ∀ c, (A ++ B)[i]? = some c → isDg c = true := fun i h1 h2 c hc => by
        refine List.all_eq_true.mp hall c (List.mem_iff_getElem?.mpr ⟨i - q, ?_⟩)
        rw [List.getElem?_take_of_lt (by omega), List.getElem?_drop, show q + (i - q) = i by omega]
        exact hc
      obtain ⟨hl, e⟩ := getLastD_get hA0
      have e1 : (A ++ B)[A.length - 1]? = some (A.getLastD 0) := by
        rw [List.getElem?_append_left hl, List.getElem?_eq_getElem hl, e]
      have e2 : (A ++ B)[A.length]? = some (B.headD 0) := by
        rw [List.getElem?_append_right (Nat.le_refl _), Nat.sub_self]
        cases B with
        | nil => exact absurd rfl hB0
        | cons c B => rfl
      have a1 := all _ (by omega) (by omega) _ e1
      have a2 := all _ (by omega) (by omega) _ e2
      rcases h with h | h
      · rw [a1] at h; cases h
      · rw [a2] at h; cases h
    · have e : ((A ++ B).drop q).take n = (A.drop q).take n := by
        rw [List.drop_append_of_le_length (Nat.le_of_lt hq), List.take_append_of_le_length (by rw [List.length_drop]; omega)]
      rw [e] at hall ⊢
      exact hA q n hall
  · have e : (A ++ B).drop q = B.drop (q - A.length) := by
      rw [List.drop_append, List.drop_eq_nil_of_le hq, List.nil_append]
    rw [e] at hall ⊢
    exact hB _ n hall
theorem lastD_app {a b : List Nat} (h : b ≠ []) : (a ++ b).getLastD 0 = b.getLastD 0 := by
  rcases List.eq_nil_or_concat b with e | ⟨l, x, e⟩
  · exact absurd e h
  · rw [e, List.concat_eq_append, ← List.append_assoc, getLastD_app, getLastD_app]
def folO : Option (Cl × Bool) → List Nat → Prop
  | none, _ => True
  | some (c, b), s => c.fol b s
def kv : Option (Cl × Bool) → Option (Kd × Val)
  | none => none
  | some (c, _) => some (c.k, c.v)
def pre (due : List W) : Except Nat (List W) → Except Nat (List W)
  | .ok ws => .ok (due ++ ws)
  | .error n => .error n
theorem pre_nil (x : Except Nat (List W)) : pre [] x = x := by cases x <;> rfl
theorem pre_pre (a b : List W) (x : Except Nat (List W)) : pre a (pre b x) = pre (a ++ b) x := by cases x <;> simp [pre]
/-- what may part words -/
structure Gp (g : List Nat) : Prop where
  gap : IsGap g
  sg : g.all okc = true
  le : g.length ≤ 200
  ends : g = [] ∨ (blankish (g.headD 0) ∧ blankish (g.getLastD 0))
theorem blankish_nd {c : Nat} (h : blankish c) : isDg c = false := by rcases h with rfl | rfl | rfl <;> rfl
def tlO : Option (Cl × Bool) → List Nat → Prop
  | none, src => src = []
  | some (c, b), src => c.ok b ∧ ∃ p, src = p ++ c.t
structure Stt (src : List Nat) (due : List W) (par : List Bool) (last : Option (Cl × Bool)) : Prop where
  go : ∀ s, folO last s → words (src ++ s) = pre due (toks (s.length + 1) s src.length par (kv last))
  nd : NdL src
  sg : src.all okc = true
  tl : tlO last src
theorem stt_nil : Stt [] [] [] none := by
  refine ⟨fun s _ => ?_, ndL_short (by simp), rfl, rfl⟩
  rw [pre_nil]
  rfl
theorem nameLike_ok {c : Cl} {b : Bool} (h : c.ok b) : c.t ≠ [] := by
  obtain ⟨x, r, H⟩ := head_of h
  rw [H.eq]
  simp
theorem head_nb {c : Cl} {b : Bool} (h : c.ok b) : ∃ x r, c.t = x :: r ∧ x ≠ 32 ∧ x ≠ 10 ∧ x ≠ 34 := by
  have nm : ∀ {n : List Nat}, IsName n → ∃ x r, n = x :: r ∧ x ≠ 32 ∧ x ≠ 10 ∧ x ≠ 34 := fun hn => by
    obtain ⟨x, r, e, hx⟩ := hn.al
    exact ⟨x, r, e, (fun z => by subst z; cases hx), (fun z => by subst z; cases hx), (fun z => by subst z; cases hx)⟩
  have dg : ∀ {n : List Nat}, Digits n → ∃ x r, n = x :: r ∧ x ≠ 32 ∧ x ≠ 10 ∧ x ≠ 34 := fun hn => by
    obtain ⟨x, r, e, hx⟩ := digits_cons hn
    exact ⟨x, r, e, (fun z => by subst z; cases hx), (fun z => by subst z; cases hx), (fun z => by subst z; cases hx)⟩
  cases c with
  | name t => exact nm h
  | keyword n =>
    obtain ⟨x, r, e, q⟩ := nm h
    exact ⟨x, r ++ [58], (by show n ++ [58] = _; rw [e]; rfl), q⟩
  | int d => exact dg h
  | neg d => exact ⟨45, d, rfl, by decide⟩
  | str u => exact ⟨39, _, rfl, by decide⟩
  | symS u => exact ⟨35, _, rfl, by decide⟩
  | symN u => exact ⟨35, _, rfl, by decide⟩
  | symK u => exact ⟨35, _, rfl, by decide⟩
  | symO u => exact ⟨35, _, rfl, by decide⟩
  | op o =>
    have h : o ∈ ops := h
    simp only [ops, List.mem_cons, List.not_mem_nil, or_false] at h
    rcases h with h | h | h | h | h | h | h | h | h | h | h | h | h | h <;> subst h <;> exact ⟨_, _, rfl, by decide⟩
  | sign o =>
    have h : o ∈ signs := h
    simp only [signs, List.mem_cons, List.not_mem_nil, or_false] at h
    rcases h with h | h | h | h | h | h | h | h | h | h | h <;> subst h <;> exact ⟨_, _, rfl, by decide⟩
theorem toks_succ (f : Nat) (l : List Nat) (p : Nat) (par : List Bool) (last : Option (Kd × Val)) : toks (f + 1) l p par last = match gap l.length l with
    | .error n => .error (p + n)
    | .ok n =>
      if l.drop n = [] then .ok [] else
      match word (binds par last) (l.drop n) with
      | none => .error (p + n)
      | some (k, v, m) =>
        match toks f (l.drop (n + m)) (p + n + m) (note par k v) (some (k, v)) with
        | .ok ws => .ok ((k, v, p + n) :: ws)
        | .error q => .error q := rfl
theorem toks_word {c : Cl} {b : Bool} {s : List Nat} (h : c.ok b) (hf : c.fol b s) (p : Nat) (par : List Bool) (last : Option (Kd × Val)) (hb : binds par last = b) (f : Nat) (hl : s.length < f) :
    toks (f + 1) (c.t ++ s) p par last = pre [(c.k, c.v, p)] (toks f s (p + c.t.length) (note par c.k c.v) (some (c.k, c.v))) := by
  obtain ⟨x, r, e, h1, h2, h3⟩ := head_nb h
  have hg : gap (c.t ++ s).length (c.t ++ s) = .ok 0 := by
    rw [e]
    show gap ((r ++ s).length + 1) (x :: (r ++ s)) = .ok 0
    unfold gap
    rw [if_neg (by rintro (z | z); exact h1 z; exact h2 z), if_neg h3]
  have hw := word_of h hf
  rw [toks_succ, hg]
  simp only [List.drop_zero, hb]
  rw [if_neg (by rw [e]; simp), hw]
  simp only [Nat.zero_add, Nat.add_zero, List.drop_left]
  cases toks f s (p + c.t.length) (note par c.k c.v) (some (c.k, c.v)) <;> rfl
theorem Stt.step {src : List Nat} {due : List W} {par : List Bool} {last : Option (Cl × Bool)} (S : Stt src due par last) {g : List Nat} {c : Cl} {b : Bool} (hg : Gp g) (hc : c.ok b) (hb : binds par (kv last) = b)
    (hp : g = [] → ∀ l b', last = some (l, b') → parts l.k l.t c.k c.t b' = false) (hs : c.t.all okc = true) (hl : c.t.length ≤ 640) :
    Stt (src ++ g ++ c.t) (due ++ [(c.k, c.v, (src ++ g).length)]) (note par c.k c.v) (some (c, b)) := by
  have hne := nameLike_ok hc
  refine ⟨fun s hf => ?_, ?_, by rw [List.all_append, List.all_append, S.sg, hg.sg, hs]; rfl, hc, _, rfl⟩
  · have hfo : folO last (g ++ (c.t ++ s)) := by
      cases hlast : last with
      | none => trivial
      | some x =>
        obtain ⟨l, b'⟩ := x
        have htl : tlO last src := S.tl
        rw [hlast] at htl
        show l.fol b' _
        rcases hg.ends with e | ⟨e1, e2⟩
        · subst e
          exact fol_parts htl.1 hc (hp rfl l b' hlast) s
        · refine fol_gap ?_
          cases g with
          | nil => rcases e1 with z | z | z <;> cases z
          | cons d r => exact .inr ⟨d, _, rfl, e1⟩
    have e0 : src ++ g ++ c.t ++ s = src ++ (g ++ (c.t ++ s)) := by simp
    rw [e0, S.go _ hfo, toks_gap hg.gap, toks_fuel _ ((c.t ++ s).length + 1) (c.t ++ s) _ _ _ (by simp; omega) (by omega)]
    have hct : 0 < c.t.length := List.length_pos_iff.mpr hne
    rw [toks_word hc hf _ par (kv last) hb _ (by rw [List.length_append]; omega), pre_pre, toks_fuel _ (s.length + 1) s _ _ _ (by rw [List.length_append]; omega) (by omega)]
    simp only [List.length_append]
    rfl
  · have n1 : NdL (src ++ g) := by
      refine ndL_app S.nd (ndL_short (Nat.le_trans hg.le (by decide))) ?_
      rcases hg.ends with e | ⟨e1, e2⟩
      · exact .inr (.inl e)
      · exact .inr (.inr (.inr (blankish_nd e1)))
    refine ndL_app n1 (ndL_short hl) ?_
    rcases hg.ends with e | ⟨e1, e2⟩
    · subst e
      rw [List.append_nil]
      have htl : tlO last src := S.tl
      cases hlast : last with
      | none => rw [hlast] at htl; exact .inl htl
      | some x =>
        obtain ⟨l, b'⟩ := x
        rw [hlast] at htl
        obtain ⟨h1, p, hp2⟩ := htl
        rcases junct h1 hc (hp rfl l b' hlast) with z | z
        · refine .inr (.inr (.inl ?_))
          rw [hp2]
          have hn := nameLike_ok h1
          rw [lastD_app hn]
          exact z
        · exact .inr (.inr (.inr z))
    · by_cases hg0 : g = []
      · subst hg0; rcases e1 with z | z | z <;> cases z
      · refine .inr (.inr (.inl ?_))
        rw [lastD_app hg0]
        exact blankish_nd e2
theorem Stt.done {src : List Nat} {due : List W} {par : List Bool} {last : Option (Cl × Bool)} (S : Stt src due par last) : words src = .ok due := by
  have h : folO last [] := by
    cases last with
    | none => trivial
    | some x => exact fol_gap (.inl rfl)
  have := S.go [] h
  rw [List.append_nil] at this
  rw [this]
  show Except.ok (due ++ []) = _
  rw [List.append_nil]
/-- what cannot be read, with the place -/
structure BadT (t : List Nat) (n : Nat) : Prop where
  bad : ∀ (p : Nat) (par : List Bool) (last : Option (Kd × Val)), toks (t.length + 1) t p par last = .error (p + n)
  sg : t.all okc = true
  le : t.length ≤ 100
theorem Stt.bad {src : List Nat} {due : List W} {par : List Bool} {last : Option (Cl × Bool)} (S : Stt src due par last) {t : List Nat} {n : Nat} (h : BadT t n) : words (src ++ 32 :: t) = .error (src.length + 1 + n) ∧ NdL (src ++ 32 :: t) ∧ (src ++ 32 :: t).all okc = true := by
  have hf : folO last (32 :: t) := by
    cases last with
    | none => trivial
    | some x => exact fol_gap (.inr ⟨32, t, rfl, .inl rfl⟩)
  refine ⟨?_, ndL_app S.nd (ndL_short (by have := h.le; simp; omega)) (.inr (.inr (.inr rfl))), by rw [List.all_append, List.all_cons, S.sg, h.sg]; rfl⟩
  rw [S.go _ hf]
  have e : (32 :: t : List Nat) = [32] ++ t := rfl
  rw [e, toks_gap (isGap_blank (.inl rfl)), toks_fuel _ (t.length + 1) t _ _ _ (by simp; omega) (by omega), h.bad]
  rfl
theorem toks_none {t : List Nat} {f : Nat} (h0 : gap t.length t = .ok 0) (h1 : t ≠ []) (h2 : ∀ b, word b t = none) (p : Nat) (par : List Bool) (last : Option (Kd × Val)) : toks (f + 1) t p par last = .error (p + 0) := by
  rw [toks_succ, h0]
  simp only [List.drop_zero]
  rw [if_neg h1, h2]
def badB (t : List Nat) : Bool := decide (gap t.length t = .ok 0) && decide (t ≠ []) && decide (word true t = none) && decide (word false t = none) && t.all okc && decide (t.length ≤ 100)
theorem bad_of {t : List Nat} (h : badB t = true) : BadT t 0 := by
  unfold badB at h
  simp only [Bool.and_eq_true, decide_eq_true_eq] at h
  exact ⟨toks_none h.1.1.1.1.1 h.1.1.1.1.2 (fun b => by cases b; exact h.1.1.2; exact h.1.1.1.2), h.1.2, h.2⟩
theorem dbl_length (u : List Nat) : (dbl u).length ≤ 2 * u.length := by
  induction u with
  | nil => exact Nat.le_refl _
  | cons c u ih =>
    rw [dbl]
    split <;> simp only [List.length_cons] <;> omega
theorem dbl_sg {u : List Nat} (h : u.all okc = true) : (dbl u).all okc = true := by
  induction u with
  | nil => rfl
  | cons c u ih =>
    rw [List.all_cons, Bool.and_eq_true] at h
    rw [dbl]
    split <;> simp only [List.all_cons, ih h.2, Bool.and_true]
    · rfl
    · exact h.1
/-- a string that does not end -/
theorem bad_str {u : List Nat} (hu : u.all okc = true) (hl : u.length ≤ 40) : BadT (39 :: (dbl u ++ [39, 39])) 0 := by
  have e : dbl u ++ [39, 39] = dbl (u ++ [39]) := by rw [dbl_app]; rfl
  have hd := dbl_length u
  refine ⟨toks_none rfl (by simp) (fun b => ?_), ?_, by simp; omega⟩
  · rw [wrd_str, e, strBody_open]
    show other (39 :: dbl (u ++ [39])) = none
    cases dbl (u ++ [39]) with
    | nil => rfl
    | cons d r => simp [other, listed, ops, signs]
  · rw [List.all_cons, List.all_append, dbl_sg hu]; rfl
theorem bad_symS {u : List Nat} (hu : u.all okc = true) (hl : u.length ≤ 40) : BadT (35 :: 39 :: dbl u) 0 := by
  have hd := dbl_length u
  refine ⟨toks_none rfl (by simp) (fun b => ?_), ?_, by simp; omega⟩
  · have es : symbol (39 :: dbl u) = none := by
      unfold symbol
      rw [if_pos (by rfl), show (39 :: dbl u).drop 1 = dbl u from rfl, strBody_open]
    rw [word_sym, es]
    show other (35 :: 39 :: dbl u) = none
    simp [other, listed, ops, signs]
  · rw [List.all_cons, List.all_cons, dbl_sg hu]; rfl
theorem find_none {c : Nat} {l : List Nat} (h : c ∉ l) : find c l = none := by
  induction l with
  | nil => rfl
  | cons d l ih =>
    unfold find
    rw [if_neg (fun e => h (by rw [e]; exact List.mem_cons_self)), ih (fun z => h (List.mem_cons_of_mem _ z))]
    rfl
theorem bad_com {u : List Nat} (hu : u.all okc = true) (hl : u.length ≤ 40) (h : 34 ∉ u) : BadT (34 :: u) 0 := by
  refine ⟨fun p par last => ?_, by rw [List.all_cons, hu]; rfl, by simp; omega⟩
  have e : gap (34 :: u).length (34 :: u) = .error 0 := by
    show gap (u.length + 1) (34 :: u) = _
    unfold gap
    rw [if_neg (by decide), if_pos rfl, find_none h]
  unfold toks
  rw [e]
theorem bad_minus : BadT (45 :: List.replicate 61 48) 1 := by
  refine ⟨fun p par last => ?_, by decide, by decide⟩
  have e1 : gap (45 :: List.replicate 61 48).length (45 :: List.replicate 61 48) = .ok 0 := rfl
  have e2 : ∀ b, word b (45 :: List.replicate 61 48) = some (.op, .s [45], 1) := fun b => by cases b <;> decide
  have e3 : gap (List.replicate 61 48).length (List.replicate 61 48) = .ok 0 := rfl
  have e4 : ∀ b, word b (List.replicate 61 48) = none := fun b => by cases b <;> decide
  have e5 := fun q par last => toks_none (f := 61) e3 (by decide) e4 q par last
  show toks (61 + 1 + 1) (45 :: List.replicate 61 48) p par last = _
  rw [toks_succ, e1]
  simp only [List.drop_zero]
  rw [if_neg (by decide), e2]
  simp only [Nat.zero_add, Nat.add_zero]
  rw [show (45 :: List.replicate 61 48).drop 1 = List.replicate 61 48 from rfl, e5]
/-! ### the signs that are open, as the law keeps them -/
def opens (par : List Bool) : List Bool := (List.range par.length).map fun i => (par.take (i + 1)).any id
theorem opens_push (par : List Bool) (x : Bool) : opens (par ++ [x]) = opens par ++ [par.any id || x] := by
  unfold opens
  rw [List.length_append, List.length_singleton, List.range_succ, List.map_append]
  congr 1
  · refine List.map_congr_left fun i hi => ?_
    have : i < par.length := List.mem_range.mp hi
    rw [List.take_append_of_le_length (by omega)]
  · have e : (par ++ [x]).take (par.length + 1) = par ++ [x] := List.take_of_length_le (by simp)
    simp only [List.map_cons, List.map_nil]
    rw [e, List.any_append]
    simp
theorem opens_length (par : List Bool) : (opens par).length = par.length := by simp [opens]
theorem opens_last (par : List Bool) : (opens par).getLast? = if par = [] then none else some (par.any id) := by
  rcases List.eq_nil_or_concat par with h | ⟨l, x, h⟩
  · subst h; rfl
  · subst h
    rw [List.concat_eq_append, if_neg (by simp), opens_push, List.any_append]
    simp
theorem opens_pop (par : List Bool) : opens par.dropLast = (opens par).dropLast := by
  rcases List.eq_nil_or_concat par with h | ⟨l, x, h⟩
  · subst h; rfl
  · subst h
    rw [List.concat_eq_append, opens_push]
    simp
end Tok
namespace Tok
theorem toks_le : ∀ (f : Nat) (l : List Nat) (p : Nat) (par : List Bool) (last : Option (Kd × Val)) (ws : List W), toks f l p par last = .ok ws → ws.length ≤ l.length
  | 0, l, p, par, last, ws, h => by cases h; exact Nat.zero_le _
  | f + 1, l, p, par, last, ws, h => by
    rw [toks_succ] at h
    cases e : gap l.length l with
    | error n => rw [e] at h; cases h
    | ok n =>
      rw [e] at h
      simp only [] at h
      split at h
      · cases h; exact Nat.zero_le _
      · rename_i hne
        cases e2 : word (binds par last) (l.drop n) with
        | none => rw [e2] at h; cases h
        | some x =>
          obtain ⟨k, v, m⟩ := x
          rw [e2] at h
          simp only [] at h
          cases e3 : toks f (l.drop (n + m)) (p + n + m) (note par k v) (some (k, v)) with
          | error q => rw [e3] at h; cases h
          | ok us =>
            rw [e3] at h
            cases h
            have := toks_le f _ _ _ _ _ e3
            have hm := word_pos e2
            have hl : n < l.length := by
              rcases Nat.lt_or_ge n l.length with z | z
              · exact z
              · exact absurd (List.drop_eq_nil_of_le z) hne
            rw [List.length_drop] at this
            simp only [List.length_cons]
            omega
theorem words_le {l : List Nat} {ws : List W} (h : words l = .ok ws) : ws.length ≤ l.length := toks_le _ _ _ _ _ _ h
end Tok

end
section
set_option Elab.async false
set_option linter.all false
set_option maxRecDepth 100000
set_option maxHeartbeats 2000000
namespace My
open PySem PySem.Spec PyProof.Rows L2
@[irreducible] def tLitW (d : PyData) : TE := tLit d
theorem tLitW_eq (d : PyData) : tLitW d = tLit d := by unfold tLitW; rfl
theorem litPE {X : Cx} {e : Expr} (d : PyData) (h : PE X e (tLit d)) : PE X e (tLitW d) := by rw [tLitW_eq]; exact h
theorem litNeg {X : Cx} {e : Expr} {pos : Pos} {n : Int} (h : PE X e (tC (.int n))) (hn : decide (-n < 0) = true) : PE X (.UnaryOp .USub e pos) (tLit (.int (-n))) := by
  have h2 : PE X (.UnaryOp .USub e pos) (tUn (rU fun i => .int (-i)) (tC (.int n))) := pe_un un_neg h
  unfold tLit
  rw [if_pos (of_decide_eq_true hn), Int.neg_neg]
  exact h2
theorem Rows.lit_any {K : PySem.W.Frag} (d : PyData) (ok : litOk d = true) (σ : L2.St) (H : Hp) (Q : VK) (q : ∀ v D H', Same H H' → Part D H H' → Dp K D v d → Q v H') : tLitW d σ H Q := by rw [tLitW_eq]; exact lit_ok (K := K) d ok σ H Q q
def strOf (t : List Nat) : Str := ⟨t.toArray⟩
def kdS : Tok.Kd → Str
  | .name => "name"
  | .keyword => "keyword"
  | .int => "int"
  | .str => "str"
  | .sym => "sym"
  | .op => "op"
  | .sign => "sign"
def dVal : Tok.Val → PyData
  | .s t => .str (strOf t)
  | .i n => .int n
/-- a word as the tuple that stands for it -/
def dW (w : Tok.W) : PyData := .tuple [.str (kdS w.1), dVal w.2.1, .int w.2.2]
/-- a row of a menu: a text, the words that it should have -/
def dRow (r : List Nat × List Tok.W) : PyData := .tuple [.str (strOf r.1), .list (r.2.map dW)]
section
variable {P : Program} {w : World} {K : PySem.W.Frag} {mg : Str → Option Value} {base : Heap}
/-- a list of data at L, apart from all that stands in H0 -/
structure Rows (K : PySem.W.Frag) (H0 H : Hp) (L : Addr) (ds : List PyData) : Prop where
  old : Same H0 H
  new : H0 L = none
  at_ : ∃ vs D, H L = some (.lst vs) ∧ DpAll K D vs ds ∧ ∀ a o, D a = some o → H a = some o ∧ a ≠ L ∧ H0 a = none
theorem Rows.one {H0 : Hp} {d : PyData} {ds : List PyData} {σ : L2.St} {Q : VK} (hd : d = .list ds) (ok : litOk d = true) (q : ∀ L H, Rows K H0 H L ds → Q (.ref L) H) : tLitW d σ H0 Q := by
  subst hd
  rw [tLitW_eq]
  unfold tLit
  unfold litOk at ok
  rw [Bool.and_eq_true] at ok
  refine lits_ok (K := K) ds ok.2 σ H0 _ fun vs D H' e p h => ?_
  have hl : vs.length ≤ 1000 := by rw [dpAll_length h]; exact of_decide_eq_true ok.1
  refine ⟨Nat.le_trans hl (by decide), fun a ha => q a _ ⟨e.trans fun b o z => by rw [upd_ne (ne_of_none z ha)]; exact z, e.free ha, vs, D, upd_same, h, fun b o z => ?_⟩⟩
  have hb := p.inn b o z
  exact ⟨by rw [upd_ne (ne_of_none hb ha)]; exact hb, ne_of_none hb ha, p.new b o z⟩
theorem Rows.more {H0 H : Hp} {L : Addr} {ds : List PyData} {d : PyData} {H' D : Hp} {v : V} (R : Rows K H0 H L ds) (e : Same H H') (p : Part D H H') (h : Dp K D v d) :
    ∃ vs, H' L = some (.lst vs) ∧ vs.length = ds.length ∧ Rows K H0 (upd H' L (.lst (vs ++ [v]))) L (ds ++ [d]) := by
  obtain ⟨vs, D0, hL, hD, k⟩ := R.at_
  have nL : D L = none := by
    cases z : D L with
    | none => rfl
    | some o => have := p.new L o z; rw [hL] at this; cases this
  refine ⟨vs, e L _ hL, dpAll_length hD, fun b o z => ?_, R.new, vs ++ [v], uni D D0, upd_same, dpAll_append (dp_monoAll (uni_r p.new fun a o z => (k a o z).1) ds vs hD) (.cons (dp_mono uni_l d v h) .nil), fun b o z => ?_⟩
  · rw [upd_ne (ne_of_none z R.new)]
    exact e b o (R.old b o z)
  · rcases uni_cases z with z | z
    · have nb : b ≠ L := fun q => by subst q; rw [nL] at z; cases z
      exact ⟨by rw [upd_ne nb]; exact p.inn b o z, nb, R.old.free (p.new b o z)⟩
    · obtain ⟨k1, k2, k3⟩ := k b o z
      exact ⟨by rw [upd_ne k2]; exact e b o k1, k2, k3⟩
theorem Rows.dp {H0 H : Hp} {L : Addr} {ds : List PyData} (R : Rows K H0 H L ds) : Dp K H (.ref L) (.list ds) := by
  obtain ⟨vs, D, hL, hD, k⟩ := R.at_
  exact .lst (SqL.of hL) (dp_monoAll (fun a o z => (k a o z).1) ds vs hD)
/-- rows = a display -/
theorem asg_lit {H0 : Hp} {d : PyData} {ds : List PyData} {σ : L2.St} {u : TS} {D : Ends} {i : Nat} (hd : d = .list ds) (ok : litOk d = true) (q : ∀ L H, Rows K H0 H L ds → u D (σ.set i (some (.ref L))) H) : tSeq (tAsg (tLitW d) (gName i)) u D σ H0 :=
  Rows.one (K := K) hd ok q
/-- rows.append(a display) -/
theorem app_lit {H0 H : Hp} {L : Addr} {ds : List PyData} {d : PyData} {σ : L2.St} {u : TS} {D : Ends} {i : Nat} (hi : σ[i]? = some (some (.ref L))) (R : Rows K H0 H L ds) (ok : litOk d = true) (hl : ds.length ≤ 1000)
    (q : ∀ H', Rows K H0 H' L (ds ++ [d]) → u D σ H') : tSeq (tDrop (tBM K "list" rAppend (tVar i) (tCons (tLitW d) tNil))) u D σ H := by
  obtain ⟨vs, _, hL, _⟩ := R.at_
  refine ⟨_, hi, .inl ⟨rfl, vs, SqL.of hL⟩, ?_⟩
  refine Rows.lit_any (K := K) d ok σ H _ fun v D' H' e p h => ?_
  obtain ⟨vs, hL, hn, R'⟩ := R.more e p h
  exact ⟨L, vs, v, rfl, rfl, hL, Nat.lt_of_le_of_lt (by omega : vs.length ≤ 1000) (by decide), q _ R'⟩
end
section
variable {P : Program} {w : World} {K : PySem.W.Frag} {mg : Str → Option Value} {base : Heap}
def spRows (K : PySem.W.Frag) (ds : List PyData) : Sp := fun vs H Q _ => vs = [] ∧ ∀ L H', Rows K H H' L ds → Q (.ref L) H'
theorem ret_rows {σ : L2.St} {H0 H : Hp} {L : Addr} {ds ds' : List PyData} {D : Ends} {i : Nat} (hi : σ[i]? = some (some (.ref L))) (R : Rows K H0 H L ds) (e : ds = ds') (q : ∀ H', Rows K H0 H' L ds' → D.rt (.ref L) H') : tRet (tVar i) D σ H :=
  ⟨_, hi, q H (e ▸ R)⟩
end
end My

end
section
set_option Elab.async false
set_option linter.all false
set_option maxRecDepth 100000
set_option maxHeartbeats 2000000
namespace My
open PySem PySem.Spec PyProof.Rows L2
abbrev codesOf (z : Str) : List Nat := z.cps.toList
end My

end
section
set_option Elab.async false
set_option linter.all false
set_option maxRecDepth 100000
set_option maxHeartbeats 2000000
namespace My
open PySem PySem.Spec PyProof.Rows L2
/-! ### readings that lay down data -/
def rAddS : R2 := fun x y H Q => ∃ i j, x = .str i ∧ y = .str j ∧ i.length + j.length ≤ sizeLine ∧ Q (.str (i ++ j)) H
theorem op_addS {X : Cx} : OpR X (binaryOp .Add) rAddS := op_add_str
def EvD (K : PySem.W.Frag) (te : TE) (d : PyData) : Prop := ∀ (σ : L2.St) (H : Hp) (Q : VK), (∀ v D H', Same H H' → Part D H H' → Dp K D v d → Q v H') → te σ H Q
def EvDs (K : PySem.W.Frag) (ta : TA) (ds : List PyData) : Prop := ∀ (σ : L2.St) (H : Hp) (Q : List V → Hp → Prop), (∀ vs D H', Same H H' → Part D H H' → DpAll K D vs ds → Q vs H') → ta σ H Q
section
variable {K : PySem.W.Frag}
theorem evd_int {i : Int} : EvD K (tC (.int i)) (.int i) := fun _ _ _ q => q _ (fun _ => none) _ (Same.refl _) part_nil (.int i)
theorem evd_str {z : Str} : EvD K (tC (.str z)) (.str z) := fun _ _ _ q => q _ (fun _ => none) _ (Same.refl _) part_nil (.str z)
theorem evd_rep {a : TE} {z : Str} {n : Int} (ha : EvD K a (.str z)) (h0 : 0 ≤ n) (h1 : n ≤ 100000) (h2 : z.length * n.toNat ≤ 100000) : EvD K (tOp rRepS a (tC (.int n))) (.str (Txt.mul z n)) := fun σ H Q q =>
  ha σ H _ fun v D H' e p h => by
    cases h
    exact ⟨z, n, rfl, rfl, h0, h1, h2, q _ (fun _ => none) _ e part_nil (.str _)⟩
theorem evd_add {a b : TE} {x y : Str} (ha : EvD K a (.str x)) (hb : EvD K b (.str y)) (h : x.length + y.length ≤ 100000) : EvD K (tOp rAddS a b) (.str (x ++ y)) := fun σ H Q q =>
  ha σ H _ fun v D H1 e p h1 => by
    cases h1
    refine hb σ H1 _ fun v' D' H2 e2 p2 h2 => ?_
    cases h2
    exact ⟨x, y, rfl, rfl, Nat.le_trans h (by decide), q _ (fun _ => none) _ (e.trans e2) part_nil (.str _)⟩
theorem evds_nil : EvDs K tNil [] := fun _ _ _ q => q _ (fun _ => none) _ (Same.refl _) part_nil .nil
theorem evds_cons {te : TE} {ta : TA} {d : PyData} {ds : List PyData} (h1 : EvD K te d) (h2 : EvDs K ta ds) : EvDs K (tCons te ta) (d :: ds) := fun σ H Q q =>
  h1 σ H _ fun v D H1 e p h => h2 σ H1 _ fun vs D2 H2 e2 p2 h2 => by
    refine q (v :: vs) (uni D2 D) H2 (e.trans e2) ⟨fun b o z => ?_, fun b o z => ?_⟩ (.cons (dp_mono (uni_r p2.new p.inn) d v h) (dp_monoAll uni_l ds vs h2))
    · rcases uni_cases z with z | z
      · exact p2.inn b o z
      · exact e2 b o (p.inn b o z)
    · rcases uni_cases z with z | z
      · exact e.free (p2.new b o z)
      · exact p.new b o z
theorem part_upd {D H H' : Hp} {a : Addr} {o : HO} (e : Same H H') (p : Part D H H') (ha : H' a = none) : Part (upd D a o) H (upd H' a o) := by
  refine ⟨fun b u z => ?_, fun b u z => ?_⟩
  · by_cases c : b = a
    · subst c
      rw [upd_same] at z ⊢
      exact z
    · rw [upd_ne c] at z ⊢
      exact p.inn b u z
  · by_cases c : b = a
    · rw [c]; exact e.free ha
    · rw [upd_ne c] at z
      exact p.new b u z
theorem part_none {D H H' : Hp} {a : Addr} (p : Part D H H') (ha : H' a = none) : D a = none := by
  cases z : D a with
  | none => rfl
  | some o => rw [p.inn a o z] at ha; cases ha
theorem evd_tup {ta : TA} {ds : List PyData} (h : EvDs K ta ds) (hl : ds.length ≤ 1000) : EvD K (tTup ta) (.tuple ds) := fun σ H Q q =>
  h σ H _ fun vs D H' e p hd => ⟨Nat.le_trans (by rw [dpAll_length hd]; exact hl) (by decide : 1000 ≤ sizeLine), fun a ha =>
    q _ (upd D a (.tup vs)) _ (e.trans fun b o z => by rw [upd_ne (ne_of_none z ha)]; exact z) (part_upd e p ha)
      (.tup (SqT.of upd_same) (dp_monoAll (fun b o z => by rw [upd_ne (ne_of_none z (part_none p ha))]; exact z) ds vs hd))⟩
theorem evd_lst {ta : TA} {ds : List PyData} (h : EvDs K ta ds) (hl : ds.length ≤ 1000) : EvD K (tLst ta) (.list ds) := fun σ H Q q =>
  h σ H _ fun vs D H' e p hd => ⟨Nat.le_trans (by rw [dpAll_length hd]; exact hl) (by decide : 1000 ≤ sizeLine), fun a ha =>
    q _ (upd D a (.lst vs)) _ (e.trans fun b o z => by rw [upd_ne (ne_of_none z ha)]; exact z) (part_upd e p ha)
      (.lst (SqL.of upd_same) (dp_monoAll (fun b o z => by rw [upd_ne (ne_of_none z (part_none p ha))]; exact z) ds vs hd))⟩
theorem evd_lit {d : PyData} (ok : litOk d = true) : EvD K (tLitW d) d := fun σ H Q q => Rows.lit_any (K := K) d ok σ H Q q
/-- a display of a list: new rows -/
theorem rows_lst {ta : TA} {ds : List PyData} (h : EvDs K ta ds) (hl : ds.length ≤ 1000) {σ : L2.St} {H : Hp} {Q : VK} (q : ∀ L H', Rows K H H' L ds → Q (.ref L) H') : tLst ta σ H Q :=
  h σ H _ fun vs D H' e p hd => ⟨Nat.le_trans (by rw [dpAll_length hd]; exact hl) (by decide : 1000 ≤ sizeLine), fun a ha => q a _ ⟨e.trans fun b o z => by rw [upd_ne (ne_of_none z ha)]; exact z, e.free ha, vs, D, upd_same, hd, fun b o z =>
    have hb := p.inn b o z
    ⟨by rw [upd_ne (ne_of_none hb ha)]; exact hb, ne_of_none hb ha, p.new b o z⟩⟩⟩
/-- rows + rows -/
theorem rows_cat {H0 H1 H2 : Hp} {L M : Addr} {ds es : List PyData} (R : Rows K H0 H1 L ds) (S : Rows K H1 H2 M es) (hl : ds.length + es.length ≤ 1000) {Q : VK} (q : ∀ p H', Rows K H0 H' p (ds ++ es) → Q (.ref p) H') : rCat (.ref L) (.ref M) H2 Q := by
  obtain ⟨vs, D, hL, hD, k⟩ := R.at_
  obtain ⟨us, E, hM, hE, k2⟩ := S.at_
  refine ⟨L, M, vs, us, rfl, rfl, S.old L _ hL, hM, Nat.le_trans (by rw [dpAll_length hD, dpAll_length hE]; exact hl) (by decide : 1000 ≤ sizeLine), fun p hp => q p _ ⟨(R.old.trans S.old).trans fun b o z => by rw [upd_ne (ne_of_none z hp)]; exact z, (R.old.trans S.old).free hp, vs ++ us, uni E D, upd_same, dpAll_append (dp_monoAll (uni_r (fun a o z => (k2 a o z).2.2) fun a o z => (k a o z).1) ds vs hD) (dp_monoAll uni_l es us hE), fun b o z => ?_⟩⟩
  rcases uni_cases z with z | z
  · obtain ⟨z1, z2, z3⟩ := k2 b o z
    exact ⟨by rw [upd_ne (ne_of_none z1 hp)]; exact z1, ne_of_none z1 hp, R.old.free z3⟩
  · obtain ⟨z1, z2, z3⟩ := k b o z
    have z4 := S.old b o z1
    exact ⟨by rw [upd_ne (ne_of_none z4 hp)]; exact z4, ne_of_none z4 hp, z3⟩
theorem st_rows {ta : TA} {ds : List PyData} {u : TS} {D : Ends} {σ : L2.St} {H : Hp} {i : Nat} (h : EvDs K ta ds) (hl : ds.length ≤ 1000) (q : ∀ L H', Rows K H H' L ds → u D (σ.set i (some (.ref L))) H') : tSeq (tAsg (tLst ta) (gName i)) u D σ H := by
  show tLst ta σ H (fun v H1 => u D (σ.set i (some v)) H1)
  exact rows_lst (K := K) h hl q
theorem st_cat {ta : TA} {ds es : List PyData} {u : TS} {D : Ends} {σ : L2.St} {H0 H : Hp} {L : Addr} {i j : Nat} (hi : σ[j]? = some (some (.ref L))) (R : Rows K H0 H L ds) (h : EvDs K ta es) (hl : es.length ≤ 1000) (hs : ds.length + es.length ≤ 1000)
    (q : ∀ p H', Rows K H0 H' p (ds ++ es) → u D (σ.set i (some (.ref p))) H') : tSeq (tAsg (tOp rCat (tVar j) (tLst ta)) (gName i)) u D σ H :=
  ⟨_, hi, rows_lst (K := K) h hl fun _ _ S => rows_cat R S hs q⟩
theorem rt_cat {ta : TA} {ds es : List PyData} {D : Ends} {σ : L2.St} {H0 H : Hp} {L : Addr} {j : Nat} (hi : σ[j]? = some (some (.ref L))) (R : Rows K H0 H L ds) (h : EvDs K ta es) (hl : es.length ≤ 1000) (hs : ds.length + es.length ≤ 1000)
    {all : List PyData} (e : ds ++ es = all) (q : ∀ p H', Rows K H0 H' p all → D.rt (.ref p) H') : tRet (tOp rCat (tVar j) (tLst ta)) D σ H :=
  ⟨_, hi, rows_lst (K := K) h hl fun _ _ S => rows_cat R S hs fun p H' R' => q p H' (e ▸ R')⟩
end
/-- a bag at b, n takes behind its making -/
def BagAt (H : Hp) (b : Addr) (n : Nat) : Prop := ∃ x y z : Int, H b = some (.lst [.int x, .int y, .int z]) ∧ BagN n x y z
/-- from H to H': the bag at b has gone on, all else stands -/
structure Went (b : Addr) (n : Nat) (H H' : Hp) : Prop where
  bag : BagAt H' b n
  rest : ∀ a o, a ≠ b → H a = some o → H' a = some o
theorem Went.free {b : Addr} {n : Nat} {H H' : Hp} (w : Went b n H H') {p : Addr} (h : H' p = none) : H p = none := by
  cases e : H p with
  | none => rfl
  | some o =>
    by_cases c : p = b
    · subst c
      obtain ⟨x, y, z, hb, _⟩ := w.bag
      rw [hb] at h
      cases h
    · rw [w.rest p o c e] at h
      cases h
theorem Went.trans {b : Addr} {n m : Nat} {H H1 H2 : Hp} (w : Went b n H H1) (u : Went b m H1 H2) : Went b m H H2 := ⟨u.bag, fun a o c h => u.rest a o c (w.rest a o c h)⟩
theorem Went.same {b : Addr} {n : Nat} {H H1 H2 : Hp} (w : Went b n H H1) (e : Same H1 H2) : Went b n H H2 := by
  obtain ⟨x, y, z, hb, hB⟩ := w.bag
  exact ⟨⟨x, y, z, e b _ hb, hB⟩, fun a o c h => e a o (w.rest a o c h)⟩
theorem Went.of {b : Addr} {n : Nat} {H H' : Hp} (h : BagAt H b n) (e : Same H H') : Went b n H H' := by
  obtain ⟨x, y, z, hb, hB⟩ := h
  exact ⟨⟨x, y, z, e b _ hb, hB⟩, fun a o _ h => e a o h⟩
theorem Went.not {b : Addr} {n : Nat} {H H' : Hp} (w : Went b n H H') {D : Hp} (h : ∀ a o, D a = some o → H a = some o ∧ a ≠ b) : Same D H' := fun a o e => w.rest a o (h a o e).2 (h a o e).1
section
variable {K : PySem.W.Frag}
/-- pick(bag, [..]) -/
theorem pick_lst {ta : TA} {ds : List PyData} {σ : L2.St} {H : Hp} {b : Addr} {n i : Nat} {Q : VK} (hi : σ[i]? = some (some (.ref b))) (hb : BagAt H b n) (hn : n < 1000000) (h : EvDs K ta ds) (h0 : 0 < ds.length) (hl : ds.length ≤ 1000)
    (q : ∀ d v D H', d ∈ ds → Dp K D v d → (∀ a o, D a = some o → H' a = some o ∧ H a = none) → Went b (n + 1) H H' → Q v H') : tCall (spPick K) [] E0 (tCons (tVar i) (tCons (tLst ta) tNil)) σ H Q := by
  refine ⟨_, hi, rows_lst (K := K) h hl fun L H1 R => ?_⟩
  obtain ⟨x, y, z, hb0, hB⟩ := hb
  obtain ⟨vs, D, hL, hD, k⟩ := R.at_
  have hbL : L ≠ b := fun e => by have := R.new; rw [e, hb0] at this; cases this
  have hlen := dpAll_length hD
  refine ⟨b, n, x, y, z, R.old b _ hb0, hB, hn, .inl ⟨L, vs, rfl, .inl fun x' y' z' => SqL.of (by rw [upd_ne hbL]; exact hL), by omega, by omega, fun j v x' y' z' hv hB' => ?_⟩⟩
  obtain ⟨d, hd, hDp⟩ := dpAll_get hD hv
  refine q d v D _ (List.mem_of_getElem? hd) hDp (fun a o e => ?_) ⟨⟨x', y', z', upd_same, hB'⟩, fun a o c e => by rw [upd_ne c]; exact R.old a o e⟩
  obtain ⟨k1, k2, k3⟩ := k a o e
  have c : a ≠ b := fun e2 => by rw [e2, hb0] at k3; cases k3
  exact ⟨by rw [upd_ne c]; exact k1, k3⟩
end
theorem codes_mul (z : Str) (n : Int) (h0 : 0 ≤ n) : codesOf (Txt.mul z n) = Tok.rep n.toNat (codesOf z) := by
  unfold Txt.mul
  split
  · rename_i h
    have : n.toNat = 0 := by omega
    rw [this]
    rfl
  · split
    · rename_i h1 h2
      rw [Bool.or_eq_true] at h2
      rcases h2 with h2 | h2
      · have : n = 1 := by simpa using h2
        subst this
        show _ = Tok.rep 1 _
        simp [Tok.rep]
      · have e : codesOf z = [] := by
          have : z.cps.size = 0 := by simpa [Str.length] using h2
          exact List.eq_nil_of_length_eq_zero this
        rw [e]
        simp [Tok.rep]
    · have e : ∀ (k : Nat) (a : Array Nat), ((List.replicate k z.cps).foldl (· ++ ·) a).toList = a.toList ++ (List.replicate k z.cps.toList).flatten := by
        intro k
        induction k with
        | zero => intro a; simp
        | succ k ih => intro a; rw [List.replicate_succ, List.foldl_cons, ih, List.replicate_succ, List.flatten_cons, Array.toList_append, List.append_assoc]
      show ((List.replicate n.toNat z.cps).foldl (· ++ ·) #[]).toList = _
      rw [e]
      rfl
theorem rep_all {p : Nat → Bool} {l : List Nat} (h : l.all p = true) : ∀ n, (Tok.rep n l).all p = true
  | 0 => rfl
  | n + 1 => by
    have e : Tok.rep (n + 1) l = l ++ Tok.rep n l := by simp [Tok.rep, List.replicate_succ]
    rw [e, List.all_append, h, rep_all h n]
    rfl
theorem rep_length (l : List Nat) : ∀ n, (Tok.rep n l).length = n * l.length
  | 0 => by simp [Tok.rep]
  | n + 1 => by
    have e : Tok.rep (n + 1) l = l ++ Tok.rep n l := by simp [Tok.rep, List.replicate_succ]
    rw [e, List.length_append, rep_length l n, Nat.succ_mul, Nat.add_comm]
def valV : Tok.Val → V
  | .s t => .str (strOf t)
  | .i n => .int n
theorem dp_val {K : PySem.W.Frag} {H : Hp} {v : V} {x : Tok.Val} (h : Dp K H v (dVal x)) : v = valV x := by
  cases x with
  | s t => unfold dVal at h; cases h; rfl
  | i n => unfold dVal at h; cases h; rfl
theorem val_dp {K : PySem.W.Frag} {H : Hp} (x : Tok.Val) : Dp K H (valV x) (dVal x) := by
  cases x with
  | s t => exact .str _
  | i n => exact .int _
theorem dp_word {K : PySem.W.Frag} {H : Hp} {v : V} {x : Tok.W} (h : Dp K H v (dW x)) : ∃ t, v = .ref t ∧ SqT K H t [.str (kdS x.1), valV x.2.1, .int x.2.2] := by
  unfold dW at h
  cases h with
  | tup hs ha =>
    cases ha with
    | cons h1 h2 =>
      cases h1
      cases h2 with
      | cons h3 h4 =>
        have e := dp_val h3
        subst e
        cases h4 with
        | cons h5 h6 =>
          cases h5
          cases h6
          exact ⟨_, rfl, hs⟩
theorem ty_tuple {K : PySem.W.Frag} {H : Hp} {a : Addr} {xs : List V} (h : SqT K H a xs) : TyX K H (.ref a) (.type "tuple") := by
  rcases h with (h | ⟨o, h⟩) | ⟨o, its, n, h, hc, _⟩
  · exact .base (.tup h)
  · exact .fTuple h
  · exact .kTuple h hc
theorem codes_app (a b : Str) : codesOf (a ++ b) = codesOf a ++ codesOf b := by
  show (a.cps ++ b.cps).toList = _
  simp
theorem codes_strOf (l : List Nat) : codesOf (strOf l) = l := rfl
theorem iteB {b : Bool} {A B : Prop} (hb : b = false) (h : B) : if b = true then A else B := by subst hb; exact iteF h
theorem iteA {b : Bool} {A B : Prop} (hb : b = true) (h : A) : if b = true then A else B := by subst hb; exact iteT h
theorem strOf_codes (z : Str) : strOf (codesOf z) = z := by
  show (⟨z.cps.toList.toArray⟩ : Str) = z
  rw [Array.toArray_toList]
theorem tyes {σ : L2.St} {H : Hp} {A B : Hp → Prop} (h : A H) : tYes σ H (fun b H3 => if b = true then A H3 else B H3) := iteT (A := A H) (B := B H) h
end My

end
section
set_option maxRecDepth 100000
set_option linter.all false
set_option maxHeartbeats 1000000
/-! Names and selectors, as plain functions over codes. -/
namespace TrM
open Tok
def headAl : List Nat → Bool
  | [] => false
  | c :: _ => isAl c
def nameB (l : List Nat) : Bool := decide (l.length ≤ 40) && (l.all isAn && headAl l)
theorem nameB_iff (l : List Nat) : nameB l = true ↔ IsName l := by
  unfold nameB
  rw [Bool.and_eq_true, Bool.and_eq_true, decide_eq_true_eq]
  constructor
  · rintro ⟨h1, h2, h3⟩
    cases l with
    | nil => cases h3
    | cons c r => exact ⟨⟨c, r, rfl, h3⟩, h2, h1⟩
  · rintro ⟨⟨c, r, rfl, h3⟩, h2, h1⟩
    exact ⟨h1, h2, h3⟩
def isLo (c : Nat) : Bool := 97 ≤ c && c ≤ 122
def five : List (List Nat) := [[115, 101, 108, 102], [115, 117, 112, 101, 114], [110, 105, 108], [116, 114, 117, 101], [102, 97, 108, 115, 101]]
def spoken : List (List Nat) := [[110, 105, 108], [116, 114, 117, 101], [102, 97, 108, 115, 101]]
def headLo : List Nat → Bool
  | [] => false
  | c :: _ => isLo c
def localB (l : List Nat) : Bool := nameB l && (headLo l && !five.contains l)
/-- a selector and how many arguments it has -/
inductive Sel : List Nat → Nat → Prop
  | name {l : List Nat} : IsName l → Sel l 0
  | op {l : List Nat} : l ∈ ops → Sel l 1
  | keys {ns : List (List Nat)} : ns ≠ [] → (∀ n ∈ ns, IsName n) → (kkeys ns).length ≤ 100 → Sel (kkeys ns) ns.length
theorem op_asc {l : List Nat} (h : l ∈ ops) : (∀ c ∈ l, c < 128) ∧ nameB l = false ∧ l.getLast? ≠ some 58 ∧ l ≠ [] := by
  simp only [ops, List.mem_cons, List.not_mem_nil, or_false] at h
  rcases h with h | h | h | h | h | h | h | h | h | h | h | h | h | h <;> subst h <;> decide
theorem an_asc {c : Nat} (h : isAn c = true) : c < 128 := by
  unfold isAn isAl isDg at h
  simp at h
  omega
theorem name_asc {l : List Nat} (h : IsName l) : ∀ c ∈ l, c < 128 := fun c hc => an_asc (List.all_eq_true.mp h.an c hc)
theorem keys_asc : ∀ {ns : List (List Nat)}, (∀ n ∈ ns, IsName n) → ∀ c ∈ kkeys ns, c < 128
  | [], _, c, hc => by cases hc
  | n :: ns, h, c, hc => by
    rw [kkeys] at hc
    rcases List.mem_append.mp hc with hc | hc
    · exact name_asc (h n List.mem_cons_self) c hc
    · rcases List.mem_cons.mp hc with rfl | hc
      · decide
      · exact keys_asc (fun m hm => h m (List.mem_cons_of_mem _ hm)) c hc
theorem keys_not_name {ns : List (List Nat)} (h : ns ≠ []) : nameB (kkeys ns) = false := by
  cases ns with
  | nil => exact absurd rfl h
  | cons n ns =>
    cases e : nameB (kkeys (n :: ns)) with
    | false => rfl
    | true =>
      have := ((nameB_iff _).mp e).an
      rw [kkeys, List.all_append, List.all_cons] at this
      simp [isAn, isAl, isDg] at this
theorem keys_last58 {ns : List (List Nat)} (h : ns ≠ []) : (kkeys ns).getLast? = some 58 := by
  have e := keys_last h
  have hne := keys_ne h
  rw [List.getLastD_eq_getLast?] at e
  rw [List.getLast?_eq_some_getLast hne] at e ⊢
  exact congrArg some e
theorem sel_asc {l : List Nat} {n : Nat} (h : Sel l n) : ∀ c ∈ l, c < 128 := by
  cases h with
  | name h => exact name_asc h
  | op h => exact (op_asc h).1
  | keys h0 h _ => exact keys_asc h
/-- parted at each : -/
def sp58 : List Nat → List (List Nat)
  | [] => [[]]
  | c :: l => if c = 58 then [] :: sp58 l else match sp58 l with
    | [] => [[c]]
    | p :: ps => (c :: p) :: ps
theorem sp58_ne (l : List Nat) : sp58 l ≠ [] := by
  cases l with
  | nil => simp [sp58]
  | cons c l =>
    rw [sp58]
    split
    · simp
    · split <;> simp
theorem sp58_name {n : List Nat} (h : 58 ∉ n) : sp58 n = [n] := by
  induction n with
  | nil => rfl
  | cons c n ih =>
    rw [sp58, if_neg (fun e => h (by rw [e]; exact List.mem_cons_self)), ih (fun z => h (List.mem_cons_of_mem _ z))]
theorem sp58_app {n : List Nat} (h : 58 ∉ n) (l : List Nat) : sp58 (n ++ 58 :: l) = n :: sp58 l := by
  induction n with
  | nil => rw [List.nil_append, sp58, if_pos rfl]
  | cons c n ih =>
    rw [List.cons_append, sp58, if_neg (fun e => h (by rw [e]; exact List.mem_cons_self)), ih (fun z => h (List.mem_cons_of_mem _ z))]
theorem name_58 {n : List Nat} (h : IsName n) : 58 ∉ n := fun z => by
  have := List.all_eq_true.mp h.an 58 z
  cases this
theorem sp58_keys : ∀ {ns : List (List Nat)}, ns ≠ [] → (∀ n ∈ ns, IsName n) → sp58 (kkeys ns).dropLast = ns
  | [], h, _ => absurd rfl h
  | [n], _, h => by
    have : kkeys [n] = n ++ [58] := by simp [kkeys]
    rw [this, List.dropLast_concat, sp58_name (name_58 (h n List.mem_cons_self))]
  | n :: m :: ns, _, h => by
    have e : (kkeys (n :: m :: ns)).dropLast = n ++ 58 :: (kkeys (m :: ns)).dropLast := by
      rw [kkeys]
      have hne : kkeys (m :: ns) ≠ [] := keys_ne (by simp)
      rw [List.dropLast_append_of_ne_nil (by simp), List.dropLast_cons_of_ne_nil hne]
    rw [e, sp58_app (name_58 (h n List.mem_cons_self)), sp58_keys (by simp) (fun k hk => h k (List.mem_cons_of_mem _ hk))]
theorem count_keys : ∀ {ns : List (List Nat)}, (∀ n ∈ ns, IsName n) → (kkeys ns).count 58 = ns.length
  | [], _ => rfl
  | n :: ns, h => by
    rw [kkeys, List.count_append, List.count_cons, count_keys (fun m hm => h m (List.mem_cons_of_mem _ hm)), List.count_eq_zero_of_not_mem (name_58 (h n List.mem_cons_self))]
    simp
theorem sp58_mem : ∀ (l p : List Nat), p ∈ sp58 l → (∀ c ∈ p, c ∈ l) ∧ p.length ≤ l.length
  | [], p, h => by
    rw [sp58, List.mem_singleton] at h
    subst h
    exact ⟨fun c hc => hc, Nat.le_refl _⟩
  | c :: l, p, h => by
    rw [sp58] at h
    split at h
    · rcases List.mem_cons.mp h with rfl | h
      · exact ⟨(fun c hc => by cases hc), Nat.zero_le _⟩
      · obtain ⟨a, b⟩ := sp58_mem l p h
        exact ⟨fun c hc => List.mem_cons_of_mem _ (a c hc), by simp; omega⟩
    · cases e : sp58 l with
      | nil => exact absurd e (sp58_ne l)
      | cons q qs =>
        rw [e] at h
        rcases List.mem_cons.mp h with rfl | h
        · obtain ⟨a, b⟩ := sp58_mem l q (by rw [e]; exact List.mem_cons_self)
          refine ⟨fun d hd => ?_, by simp; omega⟩
          rcases List.mem_cons.mp hd with rfl | hd
          · exact List.mem_cons_self
          · exact List.mem_cons_of_mem _ (a d hd)
        · obtain ⟨a, b⟩ := sp58_mem l p (by rw [e]; exact List.mem_cons_of_mem _ h)
          exact ⟨fun c hc => List.mem_cons_of_mem _ (a c hc), by simp; omega⟩
theorem sp58_len : ∀ l : List Nat, (sp58 l).length ≤ l.length + 1
  | [] => Nat.le_refl _
  | c :: l => by
    have ih := sp58_len l
    rw [sp58]
    split
    · simp; omega
    · cases e : sp58 l with
      | nil => simp
      | cons q qs => rw [e] at ih; simp at ih ⊢; omega
end TrM

end
section
set_option Elab.async false
set_option linter.all false
set_option maxRecDepth 100000
set_option maxHeartbeats 2000000
namespace My8
open PySem PySem.Spec PyProof.Rows L2 My
theorem c39 : codesOf (Str.ofString "'") = [39] := by decide +kernel
theorem c3939 : codesOf (Str.ofString "''") = [39, 39] := by decide +kernel
theorem c34 : codesOf (Str.ofString "\"") = [34] := by decide +kernel
theorem c10 : codesOf (Str.ofString "\n") = [10] := by decide +kernel
theorem c32 : codesOf (Str.ofString " ") = [32] := by decide +kernel
theorem c35 : codesOf (Str.ofString "#") = [35] := by decide +kernel
theorem c3539 : codesOf (Str.ofString "#'") = [35, 39] := by decide +kernel
theorem c58 : codesOf (Str.ofString ":") = [58] := by decide +kernel
theorem c45 : codesOf (Str.ofString "-") = [45] := by decide +kernel
theorem len_codes (z : Str) : z.length = (codesOf z).length := rfl
/-! ### join of signs -/
def one (c : Nat) : Str := ⟨#[c]⟩
theorem joinL_nil : ∀ l : List (List Nat), TL.joinL [] l = l.flatten
  | [] => rfl
  | [p] => by simp [TL.joinL]
  | p :: q :: r => by rw [TL.joinL, joinL_nil (q :: r)]; simp
theorem codes_join (ys : List Str) : codesOf (Txt.join (Str.ofString "") ys) = (ys.map codesOf).flatten := by
  have e := TL.tl_join (Str.ofString "") ys
  rw [← TL.join_eq] at e
  have e2 : TL.tl (Str.ofString "") = [] := by decide +kernel
  rw [e2, joinL_nil] at e
  exact e
theorem codes_ones (cs : List Nat) : ((cs.map one).map codesOf).flatten = cs := by
  induction cs with
  | nil => rfl
  | cons c cs ih => rw [List.map_cons, List.map_cons, List.flatten_cons, ih]; rfl
theorem sum_ones (cs : List Nat) : ((cs.map one).map (·.length)).sum = cs.length := by
  induction cs with
  | nil => rfl
  | cons c cs ih =>
    rw [List.map_cons, List.map_cons, List.sum_cons, ih]
    show 1 + cs.length = _
    simp; omega
theorem str_of {z : Str} {l : List Nat} (h : codesOf z = l) : z = strOf l := by rw [← h, strOf_codes]
/-! ### tests that leave the heap as it is, but for new things -/
def EvT (c : TT) (σ : L2.St) (H0 : Hp) (b : Bool) : Prop := ∀ (H : Hp) (Q : Bool → Hp → Prop), Same H0 H → (∀ H', Same H0 H' → Q b H') → c σ H Q
def EvE (e : TE) (σ : L2.St) (H0 : Hp) (b : Bool) : Prop := ∀ (H : Hp) (Q : VK), Same H0 H → (∀ H', Same H0 H' → Q (.bl b) H') → e σ H Q
theorem evt_and {a c : TT} {σ : L2.St} {H0 : Hp} {x y : Bool} (ha : EvT a σ H0 x) (hc : x = true → EvT c σ H0 y) : EvT (tAnd a c) σ H0 (x && y) := fun H Q hs k => ha H _ hs fun H1 h1 => by
  cases x with
  | false => exact iteF (k H1 h1)
  | true => exact iteT (hc rfl H1 Q h1 k)
theorem evt_or {a c : TT} {σ : L2.St} {H0 : Hp} {x y : Bool} (ha : EvT a σ H0 x) (hc : x = false → EvT c σ H0 y) : EvT (tOr a c) σ H0 (x || y) := fun H Q hs k => ha H _ hs fun H1 h1 => by
  cases x with
  | true => exact iteT (k H1 h1)
  | false => exact iteF (hc rfl H1 Q h1 k)
theorem evt_test {e : TE} {σ : L2.St} {H0 : Hp} {x : Bool} (h : EvE e σ H0 x) : EvT (tTest e) σ H0 x := fun H Q hs k => h H _ hs fun H1 h1 => ⟨x, rfl, k H1 h1⟩
theorem evt_b {e : TE} {σ : L2.St} {H0 : Hp} {x : Bool} (h : EvE e σ H0 x) : EvT (tB e) σ H0 x := fun H Q hs k => h H _ hs fun H1 h1 => ⟨x, rfl, k H1 h1⟩
theorem eve_or {a c : TE} {σ : L2.St} {H0 : Hp} {x y : Bool} (ha : EvE a σ H0 x) (hc : x = false → EvE c σ H0 y) : EvE (tOrV a c) σ H0 (x || y) := fun H Q hs k => ha H _ hs fun H1 h1 => ⟨x, rfl, by
  cases x with
  | true => exact iteT (k H1 h1)
  | false => exact iteF (hc rfl H1 Q h1 k)⟩
theorem eve_and {a c : TE} {σ : L2.St} {H0 : Hp} {x y : Bool} (ha : EvE a σ H0 x) (hc : x = true → EvE c σ H0 y) : EvE (tAndV a c) σ H0 (x && y) := fun H Q hs k => ha H _ hs fun H1 h1 => ⟨x, rfl, by
  cases x with
  | true => exact iteT (hc rfl H1 Q h1 k)
  | false => exact iteF (k H1 h1)⟩
theorem if_ev {c : TT} {t u : TS} {D : Ends} {σ : L2.St} {H0 H : Hp} {b : Bool} (hc : EvT c σ H0 b) (hs : Same H0 H) (ht : b = true → ∀ H', Same H0 H' → t D σ H') (hu : b = false → ∀ H', Same H0 H' → u D σ H') : tIfS c t u D σ H := hc H _ hs fun H1 h1 => by
  cases b with
  | true => exact iteT (ht rfl H1 h1)
  | false => exact iteF (hu rfl H1 h1)
theorem ret_ev {e : TE} {D : Ends} {σ : L2.St} {H0 H : Hp} {b : Bool} (he : EvE e σ H0 b) (hs : Same H0 H) (k : ∀ H', Same H0 H' → D.rt (.bl b) H') : tRet e D σ H := he H _ hs fun H1 h1 => k H1 h1
theorem same_upd {H : Hp} {p : Addr} {o : HO} (np : H p = none) : Same H (upd H p o) := fun b u e => by rw [upd_ne (ne_of_none e np)]; exact e
section
variable {K : PySem.W.Frag} {σ : L2.St} {H : Hp} {i : Nat} {p : Addr} {a0 a1 a2 : V}
theorem e_kd (hσ : σ[i]? = some (some (.ref p))) (hT : SqT K H p [.str s0, a1, a2]) {w : Str} : EvE (tOp rEq (tOp (rIxT K) (tVar i) (tC (.int 0))) (tC (.str w))) σ H (decide (V.str s0 = V.str w)) :=
  fun H' Q hs k => ⟨_, hσ, _, _, _, _, rfl, rfl, SqT.mono hs hT, rfl, rfl, k H' hs⟩
theorem e_kdne (hσ : σ[i]? = some (some (.ref p))) (hT : SqT K H p [.str s0, a1, a2]) {w : Str} : EvE (tOp rNe (tOp (rIxT K) (tVar i) (tC (.int 0))) (tC (.str w))) σ H (!decide (V.str s0 = V.str w)) :=
  fun H' Q hs k => ⟨_, hσ, _, _, _, _, rfl, rfl, SqT.mono hs hT, rfl, rfl, k H' hs⟩
theorem e_tx (hσ : σ[i]? = some (some (.ref p))) (hT : SqT K H p [a0, a1, .str s2]) {w : Str} : EvE (tOp rEq (tOp (rIxT K) (tVar i) (tC (.int 2))) (tC (.str w))) σ H (decide (V.str s2 = V.str w)) :=
  fun H' Q hs k => ⟨_, hσ, _, _, _, _, rfl, rfl, SqT.mono hs hT, rfl, rfl, k H' hs⟩
theorem e_in2 (hσ : σ[i]? = some (some (.ref p))) (hT : SqT K H p [.str s0, a1, a2]) {w w' : Str} : EvE (tOp (rIn K false) (tOp (rIxT K) (tVar i) (tC (.int 0))) (tTup (tCons (tC (.str w)) (tCons (tC (.str w')) tNil)))) σ H (inV (.str s0) [.str w, .str w']) :=
  fun H' Q hs k => ⟨_, hσ, _, _, _, _, rfl, rfl, SqT.mono hs hT, rfl, (by show 2 ≤ sizeLine; decide), fun t nt => ⟨t, _, rfl, .inr (SqT.of upd_same), rfl, rfl, k _ (hs.trans (same_upd nt))⟩⟩
theorem e_in3 (hσ : σ[i]? = some (some (.ref p))) (hT : SqT K H p [.str s0, a1, a2]) {w w' w'' : Str} : EvE (tOp (rIn K false) (tOp (rIxT K) (tVar i) (tC (.int 0))) (tTup (tCons (tC (.str w)) (tCons (tC (.str w')) (tCons (tC (.str w'')) tNil))))) σ H (inV (.str s0) [.str w, .str w', .str w'']) :=
  fun H' Q hs k => ⟨_, hσ, _, _, _, _, rfl, rfl, SqT.mono hs hT, rfl, (by show 3 ≤ sizeLine; decide), fun t nt => ⟨t, _, rfl, .inr (SqT.of upd_same), rfl, rfl, k _ (hs.trans (same_upd nt))⟩⟩
theorem e_var {z : Str} (hσ : σ[i]? = some (some (.str z))) {w : Str} : EvE (tOp rEq (tVar i) (tC (.str w))) σ H (decide (V.str z = V.str w)) := fun H' Q hs k => ⟨_, hσ, rfl, k H' hs⟩
theorem e_varne {z : Str} (hσ : σ[i]? = some (some (.str z))) {w : Str} : EvE (tOp rNe (tVar i) (tC (.str w))) σ H (!decide (V.str z = V.str w)) := fun H' Q hs k => ⟨_, hσ, rfl, k H' hs⟩
theorem e_dg {c : Nat} (hσ : σ[i]? = some (some (.str ⟨#[c]⟩))) {w : Str} : EvE (tOp (fun x y H Q => ∃ (c : Nat) (z : Str), x = .str ⟨#[c]⟩ ∧ y = .str z ∧ Q (.bl (decide (c ∈ z.cps.toList))) H) (tVar i) (tC (.str w))) σ H (decide (c ∈ w.cps.toList)) := fun H' Q hs k => ⟨_, hσ, c, w, rfl, rfl, k H' hs⟩
theorem e_al (hσ : σ[i]? = some (some (.ref p))) (hT : SqT K H p [a0, a1, .str s2]) {c : Nat} (hl : s2.length ≤ sizeLine) (hc : (codesOf s2)[1]? = some c) : EvE (tBM0 K "str" (fun x xs H Q => ∃ a, x = .str a ∧ xs = [] ∧ True ∧ Q (.bl (Txt.isalpha a)) H) (tOp rIxS (tOp (rIxT K) (tVar i) (tC (.int 2))) (tC (.int 1)))) σ H (Txt.isalpha ⟨#[c]⟩) :=
  fun H' Q hs k => ⟨_, hσ, _, _, _, _, rfl, rfl, SqT.mono hs hT, rfl, s2, 1, c, rfl, rfl, hl, atI_nat hc, rfl, _, rfl, rfl, trivial, k H' hs⟩
end
theorem evt_not {c : TT} {σ : L2.St} {H0 : Hp} {x : Bool} (h : EvT c σ H0 x) : EvT (tNot c) σ H0 (!x) := fun H Q hs k => h H _ hs fun H1 h1 => k H1 h1
section
variable {K : PySem.W.Frag} {σ : L2.St} {H : Hp} {i : Nat} {p : Addr} {v : V} {t : Value}
theorem e_isi {T : String} {b : Bool} (hσ : σ[i]? = some (some v)) (hT : ∀ H', Same H H' → TyX K H' v t) (hk : PySem.W.kitOne K t (.type T) = some b) : EvE (tCB (rIsi K) (tCons (tVar i) (tCons (tC (.ty T)) tNil))) σ H b :=
  fun H' Q hs k => ⟨_, hσ, _, _, _, _, b, rfl, ClsV.ty _, hT H' hs, hk, k H' hs⟩
theorem e_isix {T : String} {b : Bool} {j : Int} {xs : List V} (hσ : σ[i]? = some (some (.ref p))) (hS : SqT K H p xs) (hx : atI xs j = some v) (hT : ∀ H', Same H H' → TyX K H' v t) (hk : PySem.W.kitOne K t (.type T) = some b) : EvE (tCB (rIsi K) (tCons (tOp (rIxT K) (tVar i) (tC (.int j))) (tCons (tC (.ty T)) tNil))) σ H b :=
  fun H' Q hs k => ⟨_, hσ, _, _, _, _, rfl, rfl, SqT.mono hs hS, hx, _, _, _, _, b, rfl, ClsV.ty _, hT H' hs, hk, k H' hs⟩
theorem e_neD {d e : PyData} {v' : V} {j : Nat} (hσ : σ[i]? = some (some v)) (hσ' : σ[j]? = some (some v')) (hd : Dp K H v d) (he : Dp K H v' e) (sd : SeqAt.shaped d = true) (se : SeqAt.shaped e = true) : EvE (tOp (rNeD K) (tVar i) (tVar j)) σ H (!PyData.eqv d e) :=
  fun H' Q hs k => ⟨_, hσ, _, hσ', d, e, dp_mono hs _ _ hd, dp_mono hs _ _ he, sd, se, k H' hs⟩
theorem e_neb {a c : TE} {x y : Bool} (ha : EvE a σ H x) (hc : EvE c σ H y) : EvE (tOp rNe a c) σ H (!decide (V.bl x = V.bl y)) := fun H' Q hs k => ha H' _ hs fun H1 h1 => hc H1 _ h1 fun H2 h2 => ⟨rfl, k H2 h2⟩
end
theorem dec_tx (l : List Nat) (z : Str) {m : List Nat} (h : codesOf z = m) : decide (V.str (My.strOf l) = V.str z) = decide (l = m) := decide_eq_decide.mpr ⟨fun e => by
  injection e with e
  rw [← h, ← e]; rfl, fun e => by rw [e, ← h, strOf_codes]⟩
theorem dec_ch (c d : Nat) (z : Str) (h : codesOf z = [d]) : decide (V.str ⟨#[c]⟩ = V.str z) = decide (c = d) := decide_eq_decide.mpr ⟨fun e => by
  injection e with e
  rw [← e] at h
  have : [c] = [d] := h
  injection this, fun e => by
    have : z = My.strOf [d] := str_of h
    rw [this, e]; rfl⟩
theorem dg_in (c : Nat) : decide (c ∈ (Str.ofString "0123456789").cps.toList) = Tok.isDg c := by
  have e : (Str.ofString "0123456789").cps.toList = [48, 49, 50, 51, 52, 53, 54, 55, 56, 57] := by decide +kernel
  rw [e]
  unfold Tok.isDg
  simp only [List.mem_cons, List.not_mem_nil, or_false]
  rw [Bool.eq_iff_iff]
  simp
  omega
theorem al_in : ∀ c < 128, Txt.isalpha ⟨#[c]⟩ = Tok.isAl c := by decide +kernel
theorem eqv_str (a b : Str) : eqV (.str a) (.str b) = decide (V.str b = V.str a) := by
  show (a == b) = _
  rw [Bool.eq_iff_iff, beq_iff_eq, decide_eq_true_eq]
  exact ⟨fun e => by rw [e], fun e => by injection e with e; exact e.symm⟩
theorem inV2 (z a b : Str) : inV (.str z) [.str a, .str b] = (decide (V.str z = V.str a) || decide (V.str z = V.str b)) := by
  unfold inV
  simp only [List.any_cons, List.any_nil, Bool.or_false, eqv_str]
theorem six_neg (n d : Nat) : HT.sIx n d (some (-1)) = n - 1 := by
  show (if (-1 : Int) < 0 then ((-1 : Int) + (n : Int)).toNat else min (-1 : Int).toNat n) = n - 1
  rw [if_pos (by decide)]
  omega
theorem cut_last (ys : List Bool) : cutV (ys.map V.bl) (some (-1)) none = (ys.drop (ys.length - 1)).map V.bl := by
  unfold cutV
  rw [List.length_map, six_neg, HT.sIx_none, ← List.map_drop, List.take_of_length_le (by simp)]
theorem cut_init (ys : List Bool) : cutV (ys.map V.bl) none (some (-1)) = ys.dropLast.map V.bl := by
  unfold cutV
  rw [List.length_map, six_neg, HT.sIx_none, List.drop_zero, Nat.sub_zero, ← List.map_take, List.dropLast_eq_take]
theorem dp_bools {K : PySem.W.Frag} {H : Hp} : ∀ ys : List Bool, DpAll K H (ys.map V.bl) (ys.map PyData.bool)
  | [] => .nil
  | y :: ys => .cons (.bl y) (dp_bools ys)
theorem last_one (ys : List Bool) : (ys.drop (ys.length - 1) = [] ∧ ys.getLast? = none) ∨ ∃ x, ys.drop (ys.length - 1) = [x] ∧ ys.getLast? = some x := by
  rcases List.eq_nil_or_concat ys with h | ⟨l, x, h⟩
  · subst h; exact .inl ⟨rfl, rfl⟩
  · subst h
    refine .inr ⟨x, ?_, by simp⟩
    rw [List.concat_eq_append, List.length_append, List.length_singleton, Nat.add_sub_cancel, List.drop_left]
theorem same_free {H H' : Hp} {p : Addr} {o : HO} (s : Same H H') (h : H p = none) : Same H (upd H' p o) := fun b u e => by
  rw [upd_ne (ne_of_none e h)]; exact s b u e
end My8

end
section
set_option Elab.async false
set_option linter.all false
set_option maxRecDepth 100000
set_option maxHeartbeats 2000000
namespace My8
open PySem PySem.Spec PyProof.Rows L2 My
/-! ### defs that are called where nothing is being shown: the callers hold no guards -/
structure GnOk (P : Program) (w : World) (K : PySem.W.Frag) (mg : Str → Option Value) (base : Heap) (CX : CXT) (k : Nat) (f : Addr) (fd : FuncData) (ps : List Str) (sp : Sp) : Prop where
  len : ∀ vs H Q E, sp vs H Q E → vs.length = ps.length
  run : ∀ (A : Around) (outer : List Env) (s : Shared) (H : Hp) (args : Args) (us : List Value) (vs : List V) (Q : VK) (E : XK), A.guards = some [] → Room k A → Env0 P w K mg base A outer s H → BindsTo s fd args (ps.zip us) → Vals vs us → sp vs H Q E →
    codeAny (model P w) A (.call (.ref f) args) (CR CX outer P w H s Q E) s
section
variable {P : Program} {w : World} {K : PySem.W.Frag} {mg : Str → Option Value} {base : Heap} {CX : CXT} {k j : Nat} {f : Addr} {fd : FuncData} {ps : List Str} {sp : Sp}
theorem FnOk.gn (F : FnOk P w K mg base CX k f fd ps sp) : GnOk P w K mg base CX k f fd ps sp := ⟨F.len, fun A outer s H args us vs Q E _ => F.run A outer s H args us vs Q E⟩
theorem GnOk.mono (F : GnOk P w K mg base CX j f fd ps sp) (h : j ≤ k) : GnOk P w K mg base CX k f fd ps sp := ⟨F.len, fun A outer s H args us vs Q E g hr => F.run A outer s H args us vs Q E g (hr.mono h)⟩
theorem GnOk.imp {sp' : Sp} (F : GnOk P w K mg base CX k f fd ps sp) (h : ∀ vs H Q E, sp' vs H Q E → sp vs H Q E) : GnOk P w K mg base CX k f fd ps sp' :=
  ⟨fun vs H Q E q => F.len vs H Q E (h _ _ _ _ q), fun A outer s H args us vs Q E g hr he hb hv hs => F.run A outer s H args us vs Q E g hr he hb hv (h _ _ _ _ hs)⟩
theorem gn_of {x qual : Str} {params : Arguments} {body : List Stmt} {scope : Scope} {dvs : List V} {kws : List (Str × V)} {N : List Str} (F : FunD K x qual params body scope dvs kws f fd) (S : FnScope N ps scope) (len : ∀ vs H Q E, sp vs H Q E → vs.length = ps.length)
    (walk : ∀ (cdv : Value) (A : Around) (outer : List Env) (s : Shared) (H : Hp) (vs : List V) (Q : VK) (E : XK), A.guards = some [] → Room k (A.deeper (envOfC qual scope s.heap.objs.size f cdv)) → sp vs H Q E →
      ∃ t, PSs (cxOf CX P w K mg base N qual scope f cdv A outer s H E) body t ∧ t { nx := fun _ H' => Q .non H', rt := Q } (start N vs) H) : GnOk P w K mg base CX (k + 1) f fd ps sp := by
  obtain ⟨oc, od, dV, kV, doc, pm, an, cdv, ct, osl, rfl, lk, hcd, _, _⟩ := F.ex
  refine ⟨len, fun A outer s H args us vs Q E g hr env hb rv want => ?_⟩
  have kin : K.In s.heap := env.mod.kin.keeps fun b o e => (env.bs b o e).1
  have nol : s.heap.NoLimit := env.mod.nolimit.keeps fun b o e => (env.bs b o e).1
  have kinds : ∀ y ∈ ps.zip us, scope.names.lookup y.1 = some .local ∨ (scope.names.lookup y.1 = some .cell ∧ ((cellsFrom (s.heap.objs.size + 1) scope.names []).lookup y.1).isSome = true) := fun y hy =>
    (S.par y.1 (List.of_mem_zip hy).1).imp id fun q => ⟨q, PySem.W.cellsFrom_some _ _ _ (.inl q)⟩
  refine codeAny_call_function hr.depth (kin _ _ lk) rfl S.co S.gen rfl (PySem.W.codeRec_of kin hcd) (hb _ _ _ _ ?_)
  refine wpAny_newFunctionEnv_cells S.kind kinds fun ev hev s1 inC => ?_
  subst hev
  refine ⟨nol.keeps inC.toInCall.keep, codeAny_func ?_⟩
  obtain ⟨t, ht, hq⟩ := walk cdv A outer s H vs Q E g (hr.deeper _) want
  have J : Inv (cxOf CX P w K mg base N qual scope f cdv A outer s H E) [] (start N vs) H s1 := inv_start S hr.hd env (len _ _ _ _ want) rv inC
  refine wpAny_mono (ht.run [] s1 (start N vs) H _ J hq) (fun fl s' hs => ?_) fun e s' hs => hs
  cases fl with
  | ret u =>
    obtain ⟨v, σ', H', J2, rv2, q⟩ := hs
    exact ⟨v, H', J2.os, J2.bare, J2.base, J2.hok, rv2, q⟩
  | next =>
    obtain ⟨σ', H', J2, q⟩ := hs
    exact ⟨V.non, H', J2.os, J2.bare, J2.base, J2.hok, rfl, q⟩
  | brk => obtain ⟨_, _, _, q⟩ := hs; exact q.elim
  | cont => obtain ⟨_, _, _, q⟩ := hs; exact q.elim
end
section
variable {X : Cx} {CX : CXT} {k : Nat} {f : Addr} {fd : FuncData} {ps : List Str} {sp : Sp} {dvs : List V} {ds : List Value} {E : XK} {x : Str} {p pos : Pos} {e : Expr} {es : List Expr} {t : TA}
theorem run_gn {pins : List (Addr × Obj)} {σ : L2.St} {H : Hp} {s : Shared} {Q : VK} {us : List Value} {vs : List V} (F : GnOk X.prog X.w X.K X.mg X.base CX k f fd ps sp) (g : X.A.guards = some []) (hr : Room k X.A) (hb : Binds X.K fd ps ds) (hd : Vals dvs ds) (hx : Passes CX X E)
    (J : Inv X pins σ H s) (r : Vals vs us) (h : sp (vs ++ dvs) H Q E) : wpAny (model X.prog X.w) X.A (call (.ref f) us) (EP X pins σ Q) X.xe s := by
  have rr : Vals (vs ++ dvs) (us ++ ds) := r.append hd
  have hl : (us ++ ds).length = ps.length := rr.length ▸ F.len _ _ _ _ h
  refine wpAny_call (codeAny_mono (F.run X.A X.stack s H ⟨us, []⟩ (us ++ ds) (vs ++ dvs) Q E g hr J.env0 (hb s us J.kIn hl) rr h) fun r s' hq => ?_)
  match r, hq with
  | .error e, hq => exact hx pins σ H s e s' J hq
  | .ok (.ret u), hq => exact J.after hq
  | .ok .next, hq => exact hq.elim
  | .ok .brk, hq => exact hq.elim
  | .ok .cont, hq => exact hq.elim
theorem pe_callG (F : GnOk X.prog X.w X.K X.mg X.base CX k f fd ps sp) (g : X.A.guards = some []) (hr : Room k X.A) (hg : Gl X x) (hm : X.mg x = some (.ref f)) (hk : PySem.W.keepIn X.K (.ref f) = true) (hb : Binds X.K fd ps ds) (hd : Vals dvs ds) (hx : Passes CX X E)
    (ha : PA X (e :: es) t) (nodbg : (x == ("__debug__" : Str)) = false := by decide) (he : starEach (e :: es) X.env = (false, eval e X.env) :: starEach es X.env := by rfl) (hpl : (backTo pos (starEach es X.env)).any (·.1) = false := by rfl) :
    PE X (.Call (.Name x p) (e :: es) [] pos) (tCall sp dvs E t) :=
  ⟨fun pins s σ H Q J h => wpAny_Call_Name_kw (ld_glob J hg hm (PySem.W.callWith_K (h₀ := X.base) J.ok.mod.kin hk (thn (ha.run pos pins s σ H _ J h) fun us s1 ⟨vs, H1, J1, r, q⟩ => ⟨J1.kIn, run_gn F g hr hb hd hx J1 r q⟩) he hpl) nodbg)⟩
/-- repr(x) of data -/
structure Showy (d : PyData) : Prop where
  ok : d.showable = true
  nod : d.hasDict = false
  deep : d.depth ≤ 60
  len : d.shown.length ≤ 16000000
def strD : PyData → Str
  | .str z => z
  | d => d.shown
def rRepr (K : PySem.W.Frag) : List V → Hp → VK → Prop := fun xs H Q => ∃ (a : Addr) (d : PyData), xs = [.ref a] ∧ Dp K H (.ref a) d ∧ Showy d ∧ Q (.str d.shown) H
def rStrD (K : PySem.W.Frag) : List V → Hp → VK → Prop := fun xs H Q => ∃ (x : V) (d : PyData), xs = [x] ∧ Dp K H x d ∧ ((∃ z, x = .str z) ∨ (∃ i : Int, x = .int i ∧ i.natAbs.log2 < 1920) ∨ (∃ a, x = .ref a ∧ Showy d)) ∧ Q (.str (strD d)) H
theorem cr_repr (g : X.A.guards = some []) (hu : X.A.units + 64 < cLine) : CallR X (.builtin "repr") (rRepr X.K) := by
  intro pins s σ H xs us Q J r h
  obtain ⟨a, d, rfl, hd, hs, q⟩ := h
  rw [Vals.ref1 r]
  obtain ⟨as, rd⟩ := Dp.reads J d _ _ hd (show RelV (.ref a) (.ref a) from rfl)
  have big : (16000000 : Nat) ≤ sizeLine := by decide
  exact PySem.repr_of_reads' rd hs.ok (PyData.noDict_hsm hs.nod) g (by have := hs.deep; omega) (fun _ _ e => e) (fun h' u tk hk => ⟨.str d.shown, H, J.kept hk, ⟨u, rfl⟩, q⟩) (Nat.le_trans hs.len big)
theorem cr_strD (g : X.A.guards = some []) (hu : X.A.units + 64 < cLine) : CallR X (.type "str") (rStrD X.K) := by
  intro pins s σ H xs us Q J r h
  obtain ⟨x, d, rfl, hd, hx, q⟩ := h
  rcases hx with ⟨z, rfl⟩ | ⟨i, rfl, hz⟩ | ⟨a, rfl, hs⟩
  · obtain ⟨u, rfl, t, rfl⟩ := vals1 r
    cases hd
    exact PySem.P.str_of_str ⟨.str z, H, J, ⟨t, rfl⟩, q⟩
  · obtain ⟨u, rfl, t, rfl⟩ := vals1 r
    cases hd
    exact PySem.P.str_of_int hz ⟨.str _, H, J.tok _, ⟨_, rfl⟩, by
      have : strD (.int i) = toString i := by unfold strD; simp only [PyData.shown]
      rw [this] at q; exact q⟩
  · rw [Vals.ref1 r]
    obtain ⟨as, rd⟩ := Dp.reads J d _ _ hd (show RelV (.ref a) (.ref a) from rfl)
    have big : (16000000 : Nat) ≤ sizeLine := by decide
    have e : strD d = d.shown := by cases hd <;> rfl
    rw [e] at q
    exact PySem.str_of_reads rd hs.ok (PyData.noDict_hsm hs.nod) g (by have := hs.deep; omega) (fun _ _ e => e) (fun h' u tk hk => ⟨.str d.shown, H, J.kept hk, ⟨u, rfl⟩, q⟩) (Nat.le_trans hs.len big)
end
/-! ### the end: the law's call -/
theorem law_callG {P : Program} {w : World} {K : PySem.W.Frag} {mg mb : Str → Option Value} {CX : CXT} {k : Nat} {fa a : Addr} {fd : FuncData} {x : Str} {sp : Sp} {t : Shared} {vs : List Value} {ns : List Int}
    (kin : K.In t.heap) (glo : t.heap.Ns mainGlobals mg) (blt : t.heap.Ns builtinsNs mb) (boot : ∀ x : Str, x ≠ "__name__" → mb x = bootBuiltins x) (nol : t.heap.NoLimit) (gens : t.gens = #[])
    (obj : t.heap.get? a = some { cls := .type "list", data := .seq vs.toArray }) (inz : IntsAre vs ns) (len : ns.length ≤ sizeLine) (room : Room k callerA)
    (F : ∀ base : Heap, K.In base → base.Ns mainGlobals mg → GnOk P w K mg base CX k fa fd [x] sp) (binds : ∀ (s : Shared) (u : Value), BindsTo s fd ⟨[u], []⟩ [(x, u)])
    (start : ∀ H : Hp, Only H → SqL K H a (ns.map V.int) → sp [.ref a] H (fun v _ => v = .bl true) fun _ _ _ => False)
    (none_out : ∀ H e s', CX [] H t (fun _ _ _ => False) e s' → False) :
    codeAny (model P w) callerA (.call (.ref fa) ⟨[.ref a], []⟩) (fun r s' => r = .ok (.ret (.bool true)) ∧ OldK t.heap s'.heap ∧ s'.os = t.os ∧ AllBare s'.gens) t := by
  have rv := vals_ints inz
  have lv := inz.length
  have main : ∀ H : Hp, Only H → SqL K H a (ns.map V.int) → HOk P w H t.heap → (∀ b, H b ≠ none → b = a) → (H a ≠ none → K.lookup a = none) →
      codeAny (model P w) callerA (.call (.ref fa) ⟨[.ref a], []⟩) (fun r s' => r = .ok (.ret (.bool true)) ∧ OldK t.heap s'.heap ∧ s'.os = t.os ∧ AllBare s'.gens) t := by
    intro H only seq ok sole outside
    have low : ∀ {b : Addr} {o : Obj}, t.heap.get? b = some o → H b = none → (hidT t.heap H).get? b = some o := fun e n => hidT_get e n
    have nodict : ∀ {b : Addr} {o : Obj} {es : Array DictEntry} {ep : Nat}, t.heap.get? b = some o → o.data = .dict es ep → H b = none := fun {b o es ep} e d => by
      cases q : H b with
      | none => rfl
      | some u =>
        obtain rfl : b = a := sole b (by rw [q]; simp)
        rw [obj] at e
        cases e
        exact absurd (show Data.seq vs.toArray _ = Data.dict es ep from d) (by intro z; cases z)
    have space : ∀ {b : Addr} {m : Str → Option Value}, t.heap.Ns b m → (hidT t.heap H).Ns b m := fun {b m} ⟨o, es, ep, e, d, r⟩ => ⟨o, es, ep, low e (nodict e d), d, r⟩
    have kinB : K.In (hidT t.heap H) := fun b o e => low (kin b o e) (by
      cases q : H b with
      | none => rfl
      | some u =>
        obtain rfl : b = a := sole b (by rw [q]; simp)
        rw [outside (by rw [q]; simp)] at e
        cases e)
    obtain ⟨mc, l1, l2⟩ := nol
    have M : Mod K mg (hidT t.heap H) := ⟨kinB, space glo, ⟨mb, space blt, boot⟩, ⟨mc, space l1, l2⟩⟩
    have env : Env0 P w K mg (hidT t.heap H) callerA [] t H := ⟨rfl, M, fun b o e => of_hidT e, Nat.le_of_eq (hidT_size _ _), trivial, fun b hb => absurd (show b ∈ ([] : List Addr) from hb) (by simp), ok, .of_eq gens⟩
    refine codeAny_mono ((F _ kinB (space glo)).run callerA [] t H ⟨[.ref a], []⟩ [.ref a] [.ref a] _ _ rfl room env (binds t (.ref a)) (.cons rfl .nil) (start H only seq)) fun r s' h => ?_
    match r, h with
    | .error e, h => exact (none_out H e s' h).elim
    | .ok .next, h => exact h.elim
    | .ok .brk, h => exact h.elim
    | .ok .cont, h => exact h.elim
    | .ok (.ret u), h =>
      obtain ⟨v, H', os, bare, un, ok', r', q⟩ := h
      obtain rfl : v = .bl true := q
      obtain rfl : u = Value.bool true := r'
      refine ⟨rfl, OldK.of_keep fun b o e => ?_, os, bare⟩
      cases q : H b with
      | none => exact un.keep b o e q (by intro z; exact absurd (show b ∈ ([] : List Addr) from z) (by simp)) (by simp)
      | some u =>
        rcases only b with z | ⟨ob, xs, z⟩
        · rw [q] at z; cases z
        · obtain ⟨e1, _⟩ := ok b _ z
          obtain ⟨e2, _⟩ := ok' b _ (un.frzs b ob _ z)
          rw [e] at e1
          cases e1
          exact e2
  cases hk : K.lookup a with
  | some o =>
    have e := kin a o hk
    rw [obj] at e
    cases e
    refine main (fun _ => none) (fun _ => .inl rfl) (.inr ⟨_, vs.toArray, _, hk, rfl, rfl, rfl, by rw [List.size_toArray, lv]; exact len, by simpa using rv⟩) (fun b u z => nomatch (show (none : Option HO) = some u from z)) (fun b z => absurd rfl z) fun z => absurd rfl z
  | none =>
    refine main (fun b => if b = a then some (.frz { cls := .type "list", data := .seq vs.toArray } (.lst (ns.map V.int))) else none) (fun b => ?_) (.inl (.inr ⟨{ cls := .type "list", data := .seq vs.toArray }, if_pos rfl⟩)) (fun b u z => ?_) (fun b z => ?_) fun _ => hk
    · by_cases hb : b = a
      · exact .inr ⟨_, _, if_pos hb⟩
      · exact .inl (if_neg hb)
    · by_cases hb : b = a
      · cases (if_pos hb).symm.trans z
        subst hb
        exact ⟨obj, by rw [List.length_map]; exact len, vs, _, rv, obj⟩
      · cases (if_neg hb).symm.trans z
    · by_cases hb : b = a
      · exact hb
      · exact absurd (if_neg hb) z
theorem walk_ofG {l : PySem.W.OpenLaw} {n k : Nat} {q : Program} {loose : List Str} {XP : (Str → Option Value) → Heap → Prop} {YP : World → Heap → Prop} {d : DefRec} {CX : CXT} {x : Str}
    (hn : l.most = some n) (hn2 : n ≤ sizeLine) (hdf : d.params.defaults = []) (room : Room k callerA)
    (F : ∀ (w : World) (mg : Str → Option Value) (fa : Addr) (h : Heap), YP w h → h.Ns mainGlobals mg → mg d.name = some (.ref fa) →
      ∃ (K : PySem.W.Frag) (fd : FuncData) (sp : Sp), K.In h ∧ (∀ (s : Shared) (u : Value), BindsTo s fd ⟨[u], []⟩ [(x, u)]) ∧
        (∀ (H : Hp) (a : Addr) (ns : List Int), ns.length ≤ n → Only H → SqL K H a (ns.map V.int) → sp [.ref a] H (fun v _ => v = .bl true) fun _ _ _ => False) ∧
        ∀ base : Heap, K.In base → base.Ns mainGlobals mg → GnOk l.prog w K mg base CX k fa fd [x] sp)
    (none_out : ∀ (H : Hp) (s : Shared) (e : Value) (s' : Shared), CX [] H s (fun _ _ _ => False) e s' → False) :
    PySem.W.WalkO q loose XP YP l.row.toRowW d [] (fun f vs => PySem.call f vs) := by
  refine Att.attach_call hn hdf fun w s₀ t mg mb fa o pm cd doc a vs ns G Y ho hd hcd hmg obj inz hlen gens => ?_
  obtain ⟨K, fd, sp, kin, hb, hsp, hF⟩ := F w mg fa _ Y G.T.g hmg
  exact law_callG kin G.T.g G.T.b G.T.builtins G.T.nolimit gens obj inz (Nat.le_trans hlen hn2) room hF hb (fun H hO hS => hsp H a ns hlen hO hS) fun H e s' => none_out H t e s'
end My8

end
section
set_option Elab.async false
set_option linter.all false
set_option maxRecDepth 100000
set_option maxHeartbeats 2000000
namespace My8
open PySem PySem.Spec PyProof.Rows L2 My
/-! ### sorted of a dict with text keys, of any length -/
section
variable {X : Cx}
def rSortedKeys : List V → Hp → VK → Prop := fun xs H Q => ∃ (d : Addr) (es : List (Key × V)) (zs : List Str), xs = [.ref d] ∧ Rd H d (.dK es) ∧ es.map (·.1) = zs.map Sum.inr ∧ zs.length ≤ 1000000 ∧
  ∀ (ys : List Str) (p : Addr), ys.Perm zs → sortedS ys = true → H p = none → Q (.ref p) (upd H p (.lst (ys.map V.str)))
theorem cr_sortedKeys (calm : X.calm = true) : CallR X (.builtin "sorted") rSortedKeys := by
  intro pins s σ H xs us Q J r h
  obtain ⟨d, es, zs, rfl, hd, hz, hn, q⟩ := h
  obtain ⟨u, rfl, ru⟩ := vals1 r
  cases ru
  obtain ⟨z0, low, ws, rel, at_⟩ := dk_rd J.hok hd
  obtain ⟨ep, hat⟩ := at_.dictAt
  have hk : ws.map (·.1) = zs.map Sum.inr := rel.keys.symm.trans hz
  have hwl : ws.length = zs.length := by
    have := congrArg List.length hk
    simpa using this
  have hbig : (1000000 : Nat) ≤ sizeLine := by decide
  refine Calls.call_function_entry kind_sorted plain_sorted entry_sorted (args_sorted1 _) ?_
  unfold Builtin.«sorted»
  refine wpAny_bind (m := checkCount "sorted" 1 1 _) (wpAny_pure ?_)
  refine wpAny_bind (PySem.W.kdu_collect (A := X.A.in1) (PySem.W.kdl_dict (knd := mixKind X.prog X.w) (kvs := ws) (ep := ep) low) (J.ok.hd calm) hat (by omega) fun g tk acc keeps got => ?_)
  have hal : acc.toList.length = zs.length := by rw [Array.length_toList, got.1, hwl]
  have hS : StrsAre acc.toList zs := strs_at hal fun j v ev => by
    obtain ⟨k, y, b1, b2⟩ := got.2 j v (by rw [← Array.getElem?_toList]; exact ev)
    have b3 : (ws.map (·.1))[j]? = some k := by rw [List.getElem?_map, b1]; rfl
    rw [hk, List.getElem?_map] at b3
    obtain ⟨c, hc, rfl⟩ := Option.map_eq_some_iff.mp b3
    obtain ⟨t, rfl⟩ := Value.isStrOf_shape (x := c) (v := v) b2
    exact ⟨c, t, hc, rfl⟩
  have J1 : Inv X pins σ H { s with heap := g, toks := tk } := J.kept keeps
  refine wpAny_bind (wpAny_newList ?_ (by omega))
  have oL : (g.push (seqObj "list" acc.toList.toArray 0)).get? g.objs.size = some (seqObj "list" acc.toList.toArray 0) := Heap.get?_push_size _ rfl
  refine wpAny_bind (wpAny_holding (wpAny_call_entry slot_list_sort ⟨_, oL, rfl⟩ entry_list_sort
    (list_sort_treeKAny strKind_oneLt (s := { s with heap := g.push (seqObj "list" acc.toList.toArray 0), toks := tk }) oL hS.keysOf (fun a b l el => keyKind_strs (by rw [← el]; exact hS)) (by omega) fun st' hp hs => ⟨_, rfl, ?_⟩)
    (args_list_sort _)))
  obtain ⟨ys, y1, y2, y3⟩ := sorted_out_str hS hp hs
  obtain ⟨e', he'⟩ := sortedHeap_at (vs := acc.toList) (out := (arrOf st').map (·.2)) oL
  have hyl := y2.length_eq
  refine wpAny_pure ⟨_, rfl, .ref g.objs.size, upd H g.objs.size (.lst (ys.map V.str)), J1.laid (t' := tk) (fun b u eb => ?_) (Nat.le_refl _)
    (show ObjOk X.prog X.w _ _ _ (.lst (ys.map V.str)) from ⟨by rw [List.length_map]; omega, ((arrOf st').map (·.2)).toList, e', vals_of_strs y1, by rw [Array.toArray_toList]; exact he'⟩), rfl, q ys _ y2 y3 (J1.hok.fresh (Nat.le_refl _))⟩
  have hb := Heap.lt_size eb
  rw [sortedHeap_old (Nat.ne_of_lt hb) (by rw [size_push']; exact Nat.lt_succ_of_lt hb)]
  exact Heap.get?_push_of_some _ eb
end
end My8

end
section
set_option Elab.async false
set_option linter.all false
set_option maxRecDepth 100000
set_option maxHeartbeats 2000000
namespace My8
open PySem PySem.Spec PyProof.Rows L2 My
/-! ### sets of texts -/
def nmOf (e : Int × Value) : Str := match e.2 with | .str z _ => z | _ => ⟨#[]⟩
def GoodN (w : World) (e : Int × Value) : Prop := ∃ z tk, e.2 = Value.str z tk ∧ e.1 = hashStr w z
/-- the set at a: its members are those of zs -/
def SetS (w : World) (h : Heap) (a : Addr) (zs : List Str) : Prop :=
  ∃ o es ep t, h.get? a = some o ∧ o.ExactSet ∧ o.data = .set es ep t ∧ (∀ e ∈ es.toList, GoodN w e) ∧ (es.toList.map nmOf).Nodup ∧ (∀ z, z ∈ zs ↔ z ∈ es.toList.map nmOf) ∧
    es.size ≤ zs.length ∧ t.fits es.size = true ∧ Ris t.place.toList ∧ (w.params.followText "set-order" = true ∨ t.led = true)
section
variable {P : Program} {w : World} {A : Around} {E : Value → Shared → Prop} {s : Shared} {a : Addr} {zs : List Str}
theorem SetS.at {h h' : Heap} (R : SetS w h a zs) (k : ∀ o, h.get? a = some o → h'.get? a = some o) : SetS w h' a zs := by
  obtain ⟨o, es, ep, t, ho, r⟩ := R
  exact ⟨o, es, ep, t, k o ho, r⟩
theorem goodN_elems {l : List (Int × Value)} (g : ∀ e ∈ l, GoodN w e) : ElemsOf (PySem.strKind P w) l := fun e he => by
  obtain ⟨z, tk, h1, h2⟩ := g e he
  exact ⟨⟨z, by rw [h1]; exact strKind_is P w z tk, h2⟩, by rw [h1]; rfl⟩
theorem goodN_is {e : Int × Value} (g : GoodN w e) (z : Str) : (PySem.strKind P w).is z e.2 = true ↔ nmOf e = z := by
  obtain ⟨y, tk, h1, _⟩ := g
  unfold nmOf
  rw [h1]
  constructor
  · intro h
    obtain ⟨t, ht⟩ := Value.isStrOf_shape (x := z) (v := Value.str y tk) h
    injection ht
  · intro h
    have h : y = z := h
    rw [h]
    exact strKind_is P w z tk
theorem goodN_mem {l : List (Int × Value)} (g : ∀ e ∈ l, GoodN w e) (z : Str) : z ∈ l.map nmOf ↔ ∃ e ∈ l, (PySem.strKind P w).is z e.2 = true := by
  rw [List.mem_map]
  exact ⟨fun ⟨e, he, q⟩ => ⟨e, he, (goodN_is (g e he) z).2 q⟩, fun ⟨e, he, q⟩ => ⟨e, he, (goodN_is (g e he) z).1 q⟩⟩
theorem setS_tail {g : Bool → Sem Unit} (hg : ∀ (b : Bool) (s₁ : Shared) (Q' : Unit → Shared → Prop), Q' () s₁ → wpAny (model P w) A (g b) Q' E s₁)
    {o : Obj} {es : Array (Int × Value)} {ep : Nat} {t : SetTable} (ho : s.heap.get? a = some o) (hex : o.ExactSet) (hd : o.data = .set es ep t)
    {es1 : Array (Int × Value)} {t2 : SetTable} {ys : List Str} (g1 : ∀ e ∈ es1.toList, GoodN w e) (nd1 : (es1.toList.map nmOf).Nodup) (m1 : ∀ z, z ∈ ys ↔ z ∈ es1.toList.map nmOf)
    (hs1 : es1.size ≤ ys.length) (hb1 : es1.size < scanBound) (hf2 : t2.fits es1.size = true) (hr : Ris t2.place.toList) (hl : w.params.followText "set-order" = true ∨ t2.led = true) {wasDummy : Bool} {R : Option Bool → Shared → Prop}
    (hR : ∀ h', Heap.SameBut a s.heap h' → SetS w h' a ys → R (some true) { s with heap := h' }) :
    wpAny (model P w) A (do
        storeSet a es1 t2
        if (!wasDummy && t2.tooFull) = true then do
            g (relayAll t2 es1 (SetTable.grown es1.size)).2.2
            storeSet a (relayAll t2 es1 (SetTable.grown es1.size)).1 (relayAll t2 es1 (SetTable.grown es1.size)).2.1
            pure (some true)
          else pure (some true)) R E s := by
  refine wpAny_bind (wpAny_storeSet_of ho hd ?_ (fits_of_scanBound hb1))
  have o1 := store_at (es' := es1) (t' := t2) ho hd
  have b1 := Heap.SameBut.update s.heap a (Obj.putSet es1 t2)
  split
  · have p2 := relayAll_perm t2 es1 (SetTable.grown es1.size)
    have f2 := relayAll_fits t2 es1 (SetTable.grown es1.size)
    have r2 := relayAll_ris t2 es1 (SetTable.grown es1.size)
    have l2 := relayAll_led t2 es1 (SetTable.grown es1.size)
    generalize relayAll t2 es1 (SetTable.grown es1.size) = Z at p2 f2 r2 l2 ⊢
    obtain ⟨es2, t3, gave⟩ := Z
    dsimp only at p2 f2 r2 l2 ⊢
    have z2 : es2.size = es1.size := by rw [← Array.length_toList, p2.length_eq, Array.length_toList]
    refine wpAny_bind (hg _ _ _ ?_)
    refine wpAny_bind (wpAny_storeSet_of o1 rfl ?_ (fits_of_scanBound (by omega)))
    have o2 := store_at (es' := es2) (t' := t3) o1 rfl
    refine wpAny_pure (hR _ (b1.trans (Heap.SameBut.update _ a _)) ?_)
    exact ⟨_, es2, _, t3, o2, hex, rfl, fun e he => g1 e (p2.mem_iff.mp he), (p2.map nmOf).nodup_iff.mpr nd1, fun z => (m1 z).trans (p2.map nmOf).mem_iff.symm, by omega, f2, r2, hl.imp id fun z => by rw [l2]; exact z⟩
  · exact wpAny_pure (hR _ b1 ⟨_, es1, _, t2, o1, hex, rfl, g1, nd1, m1, hs1, hf2, hr, hl⟩)
theorem setS_add {z : Str} {tk : Tok} {Q : Bool → Shared → Prop} (R : SetS w s.heap a zs) (room : zs.length + 1 < scanBound)
    (hQ : ∀ b h', Heap.SameBut a s.heap h' → SetS w h' a (zs ++ [z]) → Q b { s with heap := h' }) :
    wpAny (model P w) A (setAddHashed a (.str z tk) ((PySem.strKind P w).hash z)) Q E s := by
  obtain ⟨o, es, ep, t, ho, hex, hd, g, nd, hm, hn, hf, hr, hl⟩ := R
  have hb : es.size < scanBound := by omega
  have key : (PySem.strKind P w).is z (.str z tk) = true := strKind_is P w z tk
  have sc : (Value.str z tk).scannable = true := rfl
  have el : ElemsOf (PySem.strKind P w) es.toList := goodN_elems g
  unfold setAddHashed setAddHashedIn
  refine wpAny_holding (wpAny_bind (wpAny_setState_of ho hd hf ?_))
  dsimp only
  rw [byScan_of sc hb el]
  simp only [↓reduceIte]
  unfold setAddByScan
  refine wpAny_bind ?_
  refine wpAny_bind (wpAny_rule ?_)
  refine wpAny_bind (wpAny_setScan_of key ho hd hf el ?_)
  cases hfi : List.findIdx? (fun e => (PySem.strKind P w).is z e.2) es.toList with
  | some j =>
    dsimp only
    obtain ⟨hj, pj, _⟩ := List.findIdx?_eq_some_iff_getElem.mp hfi
    have hz : z ∈ zs := (hm z).2 ((goodN_mem (P := P) g z).2 ⟨es.toList[j], List.getElem_mem hj, pj⟩)
    refine wpAny_pure (wpAny_pure ?_)
    exact hQ _ s.heap (Heap.SameBut.refl a s.heap) ⟨o, es, ep, t, ho, hex, hd, g, nd, fun y => by
      rw [← hm y, List.mem_append, List.mem_singleton]
      exact ⟨fun c => c.elim id (fun e => e ▸ hz), .inl⟩, by rw [List.length_append]; omega, hf, hr, hl⟩
  | none =>
    dsimp only
    have hz : z ∉ es.toList.map nmOf := fun c => by
      obtain ⟨e, he, q⟩ := (goodN_mem (P := P) g z).1 c
      have := List.findIdx?_eq_none_iff.mp hfi e he
      rw [q] at this
      cases this
    have give : ∀ (b : Bool) {s₁ : Shared} {Q' : Unit → Shared → Prop}, Q' () s₁ → wpAny (model P w) A (match b with | true => rule "set.scan.the-table-gave-way" | false => pure ()) Q' E s₁ :=
      fun b s₁ Q' q => by cases b <;> first | exact wpAny_pure q | exact wpAny_rule q
    have p1 := layNew_perm t es ((PySem.strKind P w).hash z) (.str z tk)
    have f1 := layNew_fits t es ((PySem.strKind P w).hash z) (.str z tk)
    have r1 := layNew_ris t es ((PySem.strKind P w).hash z) (.str z tk) hr
    have l1 := layNew_led t es ((PySem.strKind P w).hash z) (.str z tk)
    generalize layNew t es ((PySem.strKind P w).hash z) (.str z tk) = Z at p1 f1 r1 l1 ⊢
    obtain ⟨es1, t1, wasDummy, gave⟩ := Z
    dsimp only at p1 f1 r1 l1 ⊢
    rw [Array.toList_push] at p1
    have pc : es1.toList.Perm (((PySem.strKind P w).hash z, Value.str z tk) :: es.toList) := p1.trans (List.perm_append_singleton _ _)
    have pk : (es1.toList.map nmOf).Perm (z :: es.toList.map nmOf) := pc.map nmOf
    have g1 : ∀ e ∈ es1.toList, GoodN w e := fun e he => by
      rcases List.mem_cons.mp (pc.mem_iff.mp he) with c | c
      · rw [c]; exact ⟨z, tk, rfl, rfl⟩
      · exact g e c
    have nd1 : (es1.toList.map nmOf).Nodup := pk.nodup_iff.mpr (List.nodup_cons.mpr ⟨hz, nd⟩)
    have m1 : ∀ y, y ∈ zs ++ [z] ↔ y ∈ es1.toList.map nmOf := fun y => by
      rw [List.mem_append, List.mem_singleton, hm y, pk.mem_iff, List.mem_cons]
      exact Or.comm
    have hsz : es1.size = es.size + 1 := by rw [← Array.length_toList, pc.length_eq, List.length_cons, Array.length_toList]
    have hs1 : es1.size ≤ (zs ++ [z]).length := by rw [List.length_append, List.length_singleton]; omega
    have hb1 : es1.size < scanBound := by omega
    have led1 : w.params.followText "set-order" = true ∨ t1.led = true := hl.imp id fun c => by rw [l1]; exact c
    refine wpAny_bind (give _ ?_)
    split
    · refine wpAny_bind ?_
      rw [hashByValue_scannable 8 sc]
      refine wpAny_pure ?_
      refine setS_tail ?_ ho hex hd g1 nd1 m1 hs1 hb1 ?_ ?_ ?_ ?_
      · intro b s₁ Q' q; cases b <;> first | exact wpAny_pure q | exact wpAny_rule q
      · first | (split <;> first | exact f1 | exact SetTable.fits_plain_off f1) | exact f1
      · first | (split <;> exact r1) | exact r1
      · first | (split <;> exact led1) | exact led1
      · intro h' sb r; dsimp only; exact wpAny_pure (hQ _ h' sb r)
    · refine wpAny_bind (wpAny_pure ?_)
      simp only [↓reduceIte]
      refine setS_tail ?_ ho hex hd g1 nd1 m1 hs1 hb1 f1 r1 led1 ?_
      · intro b s₁ Q' q; cases b <;> first | exact wpAny_pure q | exact wpAny_rule q
      · intro h' sb r; dsimp only; exact wpAny_pure (hQ _ h' sb r)
theorem setS_fresh {h : Heap} (w : World) (ho : h.get? a = some { cls := .type "set", dict := none, data := .set #[] 0 (.fresh 0 0 (!w.params.followText "set-order")) }) : SetS w h a [] :=
  ⟨_, #[], 0, _, ho, ⟨rfl, rfl, rfl⟩, rfl, (fun e he => by simp at he), (by simp), (fun k => by simp), (Nat.le_refl _), (by rfl), List.Pairwise.nil, by
    show _ ∨ (!w.params.followText "set-order") = true
    cases w.params.followText "set-order"
    · exact .inr rfl
    · exact .inl rfl⟩
end
section
variable {P : Program} {w : World} {A : Around} {R : Result → Shared → Prop} {I : Addr} {fp wr : List Addr} {G : Array GenState → Array GenState → Prop} {n : Nat} {Pv : Nat → Value → Prop} {St : Nat → Shared → Prop}
theorem set_update_strs (W : WalksS P w A.in1 I fp wr G n Pv St) (S : Addr) (hSf : S ∉ fp) (zs : List Str) (hn : n = zs.length) (hb : zs.length + 1 < scanBound) (hval : ∀ i v, Pv i v → ∃ z t, zs[i]? = some z ∧ v = .str z t) :
    ∀ (k i : Nat) (s : Shared), n - i = k → i ≤ n → St i s → SetS w s.heap S (zs.take i) →
      (∀ s', Moved (S :: wr) G s s' → SetS w s'.heap S zs → R (.ok (.ret .none)) s') →
      codeAny (model P w) A (.builtin "set.update.loop" ⟨[.ref S, .ref I], []⟩) R s := by
  have hSw : S ∉ wr := fun h => hSf (W.sub _ h)
  have hsub : ∀ b ∈ wr, b ∈ S :: wr := fun b hb => List.mem_cons_of_mem _ hb
  intro k
  induction k with
  | zero =>
    intro i s hk hi hst hS hR
    have e : i = zs.length := by omega
    refine codeAny_builtin F.entry_set_update_loop ?_
    rw [Around.under_plainId F.plain_set_update_loop _]
    show wpAny _ A.in1 (pyNext (.ref I) >>= _) _ _ s
    have hin : i = n := by omega
    subst hin
    refine wpAny_bind (W.done s _ _ hst fun s' hm => ?_)
    show wpAny _ A.in1 (ret Value.none) _ _ s'
    refine wpAny_pure (hR s' (hm.mono hsub) ?_)
    rw [e, List.take_length] at hS
    exact hS.at fun o ho => hm.heap S _ hSw ho
  | succ k ih =>
    intro i s hk hi hst hS hR
    have hlt : i < n := by omega
    refine codeAny_builtin F.entry_set_update_loop ?_
    rw [Around.under_plainId F.plain_set_update_loop _]
    show wpAny _ A.in1 (pyNext (.ref I) >>= _) _ _ s
    refine wpAny_bind (W.item i s _ _ hlt hst fun v s' hP hst' hm => ?_)
    obtain ⟨z, t, hz, rfl⟩ := hval i v hP
    have hS' : SetS w s'.heap S (zs.take i) := hS.at fun o ho => hm.heap S _ hSw ho
    show wpAny _ A.in1 (holding [Value.str z t] (setAdd S (.str z t)) >>= _) _ _ s'
    refine wpAny_bind (wpAny_holding ?_)
    unfold setAdd
    refine wpAny_holding ?_
    refine wpAny_bind ((PySem.strKind P w).pyHash (k := z) (strKind_is _ _ _ _) ?_)
    have hroom : (zs.take i).length + 1 < scanBound := by rw [List.length_take]; omega
    refine setS_add (s := { s' with toks := s'.toks + 1 }) hS' hroom fun b h' hsb hS2 => ?_
    have hSi : SetS w h' S (zs.take (i + 1)) := by rw [List.take_succ, hz]; exact hS2
    refine wpAny_pure ⟨plainId_quiet F.plain_set_update_loop _, ih (i + 1) _ (by omega) hlt (W.frame _ s' _ _ hst' (Nat.le_succ _) fun b hb o e => ?_) hSi fun s'' hm'' hS'' => ?_⟩
    · rw [hsb.2 b (fun h : b = S => hSf (by rw [← h]; exact hb))]; exact e
    · refine hR s'' (Moved.trans W.gtrans ((hm.mono hsub).then_heap (Nat.le_succ _) fun b o hb e => ?_) hm'') hS''
      rw [hsb.2 b (fun h : b = S => hb (by rw [h]; exact List.mem_cons_self))]; exact e
end
end My8

end
section
set_option Elab.async false
set_option linter.all false
set_option maxRecDepth 100000
set_option maxHeartbeats 2000000
namespace My8
open PySem PySem.Spec PyProof.Rows L2 My
section
variable {P : Program} {w : World} {A : Around} {E : Value → Shared → Prop} {s : Shared}
abbrev freshSet (w : World) : Obj := { cls := .type "set", dict := none, data := .set #[] 0 (.fresh 0 0 (!w.params.followText "set-order")) }
set_option maxHeartbeats 3200000 in
/-- set(xs), xs a list of texts -/
theorem call_set_strs {l : Addr} {its : Array Value} (zs : List Str) {Q : Value → Shared → Prop} (hh : A.handled = none) (hl : s.heap.IsList l its) (hS : StrsAre its.toList zs) (hfew : zs.length + 1 < scanBound)
    (h : ∀ (g : Heap) (tk : Nat), SetS w g s.heap.objs.size zs → (∀ b o, s.heap.get? b = some o → g.get? b = some o) → Q (.ref s.heap.objs.size) { s with heap := g, toks := tk }) :
    wpAny (model P w) A (call (.type "set") [.ref l]) Q E s := by
  have hsz : its.size = zs.length := by
    have := hS.length
    rw [Array.length_toList] at this
    exact this
  obtain ⟨c, tl, hmro⟩ := F.called_set.mro
  have hmade := F.called_set.made
  have hsub := F.called_set.sub
  refine wpAny_call (codeAny_of_tree ?_)
  show wpAny _ _ (callAny (.type "set") _) _ _ _
  refine wpAny_pure ⟨Code.quiet_builtin _ (by decide +kernel), codeAny_builtin F.entry_type_call ?_⟩
  rw [Around.under_plain (weight_type_call_type "set" [.ref l] []) rfl]
  have k1 := F.called_set.notType
  have k2 := F.called_set.canCreate
  have k3 := F.typeCall_set_1 (.ref l)
  repeat (any_goals (first | assumption | wp_step))
  refine codeAny_mono (code_set_led1 (.ref l) (E := E) (Q₁ := fun obj t => obj = .ref s.heap.objs.size ∧ t = { s with heap := s.heap.push (freshSet w) }) ⟨rfl, rfl⟩) fun r t hr => ?_
  cases r with
  | error e => exact hr
  | ok fl =>
    cases fl with
    | ret obj =>
      obtain ⟨rfl, rfl⟩ := hr
      have g0 : (s.heap.push (freshSet w)).get? s.heap.objs.size = some (freshSet w) := Heap.get?_push_size _ rfl
      have hT : Shared.TypeIs { s with heap := s.heap.push (freshSet w) } (.ref s.heap.objs.size) "set" := ⟨_, g0, rfl⟩
      have k4 := F.called_set.init.lookup
      have k5 := F.called_set.init.bind (.ref s.heap.objs.size)
      repeat (any_goals (first | assumption | wp_step))
      refine codeAny_mono (codeAny_call_builtin (R := wants (fun r t => r = .none ∧ ∃ g tk, t = { s with heap := g, toks := tk } ∧ SetS w g s.heap.objs.size zs ∧ (∀ b o, s.heap.get? b = some o → g.get? b = some o)) E) F.called_set.init.plain F.entry_set_init (check_set_init_1 hT ?_)) fun r₂ s₂ hr₂ => ?_
      · obtain ⟨ol, hol, hcl, nl, hdl⟩ := hl
        obtain ⟨ocls, odict, odata, oslots⟩ := ol
        simp only at hcl hdl
        subst hcl; subst hdl
        have hol' : (s.heap.push (freshSet w)).get? l = some { cls := .type "list", dict := odict, data := .seq its nl, slots := oslots } := Heap.get?_push_of_some _ hol
        have k6 := F.sub_list_set
        have k7 := F.sub_list_frozenset
        have k8 : (Value.type "list" == Value.type "dict") = false := by decide
        have hl1 : (s.heap.push (freshSet w)).IsList l its := ⟨_, hol', rfl, nl, rfl⟩
        unfold Builtin.«set.__init__» noKeywords Builtin.Frozenset.updateFrom
        generalize hPI : pyIter = PI
        wp_walk
        subst hPI
        refine wpAny_pyIter_list hl1 ?_
        refine wpAny_bind (wpAny_runValue ?_)
        have hlS : l < s.heap.objs.size := Heap.lt_size hol
        have hh3 : A.in1.in1.in1.handled = none := by simp [hh]
        have z1 : (s.heap.push (freshSet w)).objs.size = s.heap.objs.size + 1 := Heap.size_push ..
        have n1 : l ≠ (s.heap.push (freshSet w)).objs.size := by rw [z1]; exact Nat.ne_of_lt (Nat.lt_succ_of_lt hlS)
        have n2 : s.heap.objs.size ∉ [(s.heap.push (freshSet w)).objs.size, l] := by
          rw [z1]
          simp only [List.mem_cons, List.not_mem_nil, or_false, not_or]
          exact ⟨Nat.ne_of_lt (Nat.lt_succ_self _), Nat.ne_of_gt hlS⟩
        have hval : ∀ (i : Nat) (v : Value), its[i]? = some v → ∃ z t, zs[i]? = some z ∧ v = .str z t := fun i v hv => by
          have q : its.toList[i]? = some v := by rw [Array.getElem?_toList]; exact hv
          have hi : i < zs.length := by
            rw [← hsz]
            exact (Array.getElem?_eq_some_iff.mp hv).1
          obtain ⟨t, ht⟩ := hS.get i _ (List.getElem?_eq_getElem hi)
          rw [q] at ht
          exact ⟨_, t, List.getElem?_eq_getElem hi, Option.some.inj ht⟩
        refine set_update_strs ((Walks.list hh3 _ l n1 its).toS) s.heap.objs.size n2 zs hsz hfew hval (its.size - 0) 0 _ (by omega) (Nat.zero_le _)
          ⟨⟨_, Heap.get?_push_size _ rfl, rfl, rfl⟩, (hl1.push _)⟩ ?hS0 ?hR
        case hS0 =>
          exact setS_fresh w (Heap.get?_push_of_some _ g0)
        case hR =>
          intro s' hm hS'
          obtain ⟨g, g2, d', tk', os'⟩ := s'
          have eg : g2 = s.gens := hm.gens
          have ed : d' = s.drawn := hm.drawn
          have eo : os' = s.os := hm.os
          subst eg; subst ed; subst eo
          show wpAny _ _ _ _ _ _
          refine wpAny_pure ?_
          show wpAny _ _ (ret Value.none) _ _ _
          refine wpAny_pure ⟨rfl, g, tk', rfl, hS', fun b o e => ?_⟩
          have hb := Heap.lt_size e
          exact hm.heap b o (by simp only [List.mem_cons, List.not_mem_nil, or_false, not_or]; exact ⟨Nat.ne_of_lt hb, by rw [z1]; exact Nat.ne_of_lt (Nat.lt_succ_of_lt hb)⟩) (Heap.get?_push_of_some _ (Heap.get?_push_of_some _ e))
      · cases r₂ with
        | error e => exact hr₂
        | ok fl₂ =>
          cases fl₂ with
          | ret r =>
            obtain ⟨rfl, g, tk, rfl, hS', hk⟩ := hr₂
            repeat (any_goals (first | assumption | wp_step))
            exact h _ _ hS' hk
          | _ => exact hr₂.elim
    | _ => exact hr.elim
theorem strs_of : ∀ (l : List Value), (∀ v ∈ l, ∃ z tk, v = Value.str z tk) → ∃ ys, StrsAre l ys ∧ l.map (fun v => nmOf (0, v)) = ys
  | [], _ => ⟨[], .nil, rfl⟩
  | v :: l, h => by
    obtain ⟨z, tk, rfl⟩ := h v List.mem_cons_self
    obtain ⟨ys, h1, h2⟩ := strs_of l fun u hu => h u (List.mem_cons_of_mem _ hu)
    exact ⟨z :: ys, .cons z tk h1, by rw [List.map_cons, h2]; rfl⟩
/-- sorted of a set of texts -/
theorem sorted_setS {a : Addr} {zs : List Str} {Q : Value → Shared → Prop} (R : SetS w s.heap a zs) (hh : A.handled = none) (hb : zs.length < scanBound)
    (hQ : ∀ s' p (out : Array Value) (c : Nat) (ys : List Str), (∀ b o, s.heap.get? b = some o → s'.heap.get? b = some o) → s'.gens = s.gens → s'.os = s.os → s.heap.objs.size ≤ p →
      s'.heap.get? p = some (seqObj "list" out c) → StrsAre out.toList ys → sortedS ys = true → ys.Nodup → (∀ z, z ∈ ys ↔ z ∈ zs) → ys.length ≤ zs.length → Q (.ref p) s') :
    wpAny (model P w) A (call (.builtin "sorted") [.ref a]) Q E s := by
  obtain ⟨o, es, ep, t, ho, hex, hd, g, nd, hm, hn, hf, hr, hl⟩ := R
  have hes : es.size < scanBound := by omega
  refine Calls.call_function_entry kind_sorted plain_sorted entry_sorted (args_sorted1 _) ?_
  unfold Builtin.«sorted»
  refine wpAny_bind (m := checkCount "sorted" 1 1 _) (wpAny_pure ?_)
  refine wpAny_bind (collect_set (A := A.in1) hh ⟨o, ho, hex.1, hd⟩ hf hes hr hl fun s1 vs k1 hz g1 o1 pm => ?_)
  obtain ⟨xs, hI, hxs⟩ := strs_of vs fun v hv => by
    obtain ⟨e, he, q⟩ := List.mem_map.mp (pm.mem_iff.mp hv)
    obtain ⟨z, tk, e1, _⟩ := g e he
    exact ⟨z, tk, by rw [← q]; exact e1⟩
  have pk : xs.Perm (es.toList.map nmOf) := by
    have q := pm.map fun v => nmOf (0, v)
    rw [hxs, List.map_map] at q
    exact q
  have hvl : vs.length = es.size := by rw [pm.length_eq, List.length_map, Array.length_toList]
  have hfit : vs.length ≤ sizeLine := by rw [hvl]; exact fits_of_scanBound hes
  refine wpAny_bind (wpAny_newList ?_ hfit)
  have oL : (s1.heap.push (seqObj "list" vs.toArray 0)).get? s1.heap.objs.size = some (seqObj "list" vs.toArray 0) := Heap.get?_push_size _ rfl
  refine wpAny_bind (wpAny_holding (wpAny_call_entry slot_list_sort ⟨_, oL, rfl⟩ entry_list_sort
    (list_sort_treeKAny strKind_oneLt (s := { s1 with heap := s1.heap.push (seqObj "list" vs.toArray 0) }) oL hI.keysOf (fun a b l el => keyKind_strs (by rw [← el]; exact hI)) hfit fun st' hp hs => ⟨_, rfl, ?_⟩) (args_list_sort _)))
  obtain ⟨ys, y1, y2, y3⟩ := sorted_out_str hI hp hs
  obtain ⟨c, hc⟩ := sortedHeap_at (vs := vs) (out := (arrOf st').map (·.2)) oL
  have pn : ys.Perm (es.toList.map nmOf) := y2.trans pk
  refine wpAny_pure ⟨_, rfl, hQ _ s1.heap.objs.size ((arrOf st').map (·.2)) c ys (fun b u e => ?_) g1 o1 hz hc y1 y3 (pn.nodup_iff.mpr nd) (fun z => by rw [pn.mem_iff, ← hm z]) ?_⟩
  · have q := k1 b u e
    have hlt := Heap.lt_size q
    show (sortedHeap (s1.heap.push (seqObj "list" vs.toArray 0)) s1.heap.objs.size vs ((arrOf st').map (·.2))).get? b = some u
    rw [sortedHeap_old (Nat.ne_of_lt hlt) (by rw [size_push']; exact Nat.lt_succ_of_lt hlt)]
    exact Heap.get?_push_of_some _ q
  · rw [pn.length_eq, List.length_map, Array.length_toList]
    exact hn
end
section
variable {X : Cx}
/-- the set of texts, as an object -/
def SetSO (w : World) (a : Addr) (zs : List Str) : HO := .ext fun h => SetS w h a zs
theorem setSO_new {w : World} {P : Program} {H : Hp} {h : Heap} {a : Addr} {zs : List Str} (R : SetS w h a zs) : ObjOk P w H h a (SetSO w a zs) := by
  obtain ⟨o, es, ep, t, ho, r⟩ := R
  refine ⟨⟨o, es, ep, t, ho, r⟩, ⟨o, ho⟩, fun h1 h2 p k => ?_⟩
  exact SetS.at p k
def rSetS (K : PySem.W.Frag) (w : World) : List V → Hp → VK → Prop := fun xs H Q => ∃ (l : Addr) (zs : List Str), xs = [.ref l] ∧ SqL K H l (zs.map V.str) ∧ zs.length ≤ 4000 ∧ ∀ a, H a = none → Q (.ref a) (upd H a (SetSO w a zs))
theorem cr_setS (calm : X.calm = true) : CallR X (.type "set") (rSetS X.K X.w) := by
  intro pins s σ H xs us Q J r h
  obtain ⟨l, zs, rfl, hl, hn, q⟩ := h
  rw [Vals.ref1 r]
  obtain ⟨its, rv, pl, _⟩ := J.list hl
  refine call_set_strs (P := X.prog) (w := X.w) zs (J.ok.hd calm) pl.isList (by simpa using rv.strs) (by unfold scanBound; omega) fun g tk R k => ?_
  exact ⟨.ref s.heap.objs.size, upd H s.heap.objs.size (SetSO X.w s.heap.objs.size zs), J.laid (t' := tk) k (Nat.le_refl _) (setSO_new R), rfl, q _ (J.hok.fresh (Nat.le_refl _))⟩
def rSortedSetS (w : World) : List V → Hp → VK → Prop := fun xs H Q => ∃ (a : Addr) (zs : List Str), xs = [.ref a] ∧ H a = some (SetSO w a zs) ∧ zs.length ≤ 4000 ∧
  ∀ (ys : List Str) (p : Addr), sortedS ys = true → ys.Nodup → (∀ z, z ∈ ys ↔ z ∈ zs) → ys.length ≤ zs.length → H p = none → Q (.ref p) (upd H p (.lst (ys.map V.str)))
theorem cr_sortedSetS (calm : X.calm = true) : CallR X (.builtin "sorted") (rSortedSetS X.w) := by
  intro pins s σ H xs us Q J r h
  obtain ⟨a, zs, rfl, ha, hn, q⟩ := h
  have R : SetS X.w s.heap a zs := (J.hok a _ ha).1
  rw [Vals.ref1 r]
  refine sorted_setS R (J.ok.hd calm) (by unfold scanBound; omega) fun s' p out c ys k g o hp hg hS hs hd hm hl => ?_
  have big : (4000 : Nat) ≤ sizeLine := by decide
  have hlen : (ys.map V.str).length ≤ sizeLine := by rw [List.length_map]; omega
  have hnone : H p = none := J.hok.fresh hp
  have J2 : Inv X pins σ (upd H p (.lst (ys.map V.str))) { s with heap := s'.heap, gens := s'.gens, drawn := s'.drawn, toks := s'.toks } :=
    J.call (ch := []) (Un.laid k hp hnone) (J.hok.laid k hp ⟨hlen, out.toList, c, vals_of_strs hS, hg⟩) (by rw [g]; exact J.bare) (fun _ z => nomatch z)
  have e : s' = { s with heap := s'.heap, gens := s'.gens, drawn := s'.drawn, toks := s'.toks } := by
    cases s'
    cases s
    cases o
    rfl
  rw [e]
  exact ⟨.ref p, _, J2, rfl, q ys p hs hd hm hl hnone⟩
end
end My8

end
section
set_option Elab.async false
set_option linter.all false
set_option maxRecDepth 100000
set_option maxHeartbeats 2000000
namespace My8
open PySem PySem.Spec PyProof.Rows L2 My
/-! ### name = {k: v for ..} on one line, the name a local -/
section
variable {X : Cx}
theorem ps_setDc {i : Nat} {y : Str} {py : Pos} {kx vx tg iter : Expr} {ifs : List Expr} {scope : Scope} {own : List (Str × Nat)} {pos spos : Pos} {wi : TI} {g : TG} {tt : TT} {tk tv : TE} (calm : X.calm = true) (nd : X.N.Nodup) (hy : X.N[i]? = some y) (hyl : X.env.scope.names.lookup y = some .local)
    (hsw : swapsWith (.DictComp kx vx [⟨tg, iter, ifs, 0⟩] scope pos) (some (.Name y py)) spos.line X.env = pure true) (hi : PI X tg iter wi) (ok : BlkOk X.N X.env.scope scope own)
    (hg : ∀ (s : Shared) (H : Hp) (C : Addr) (l : List (Str × Addr)) (fp : List Addr), PG (X.blk s H scope (compEnvC scope l C X.env) fp) tg g) (ht : ∀ (s : Shared) (H : Hp) (C : Addr) (l : List (Str × Addr)) (fp : List Addr), PTs (X.blk s H scope (compEnvC scope l C X.env) fp) ifs tt)
    (hk : ∀ (s : Shared) (H : Hp) (C : Addr) (l : List (Str × Addr)) (fp : List Addr), PE (X.blk s H scope (compEnvC scope l C X.env) fp) kx tk)
    (he : ∀ (s : Shared) (H : Hp) (C : Addr) (l : List (Str × Addr)) (fp : List Addr), PE (X.blk s H scope (compEnvC scope l C X.env) fp) vx tv) (hs : ∀ x, foldedSetIterable iter X.env x = pure x := by intro _; rfl) :
    PS X (.Assign [.Name y py] (.DictComp kx vx [⟨tg, iter, ifs, 0⟩] scope pos) spos) (tAsg (tDc wi g tt tk tv (own.map (·.2))) (gName i)) := by
  refine ⟨fun pins s σ H D J h => ?_⟩
  rw [exec_Assign_Name_used _ _ _ _ hsw]
  refine wpAny_bind (wpAny_standAt (wpAny_bind ?_))
  show wpAny _ X.A (do let _ ← comprehension (.DictComp kx vx [⟨tg, iter, ifs, 0⟩] scope pos) scope X.env (firstIterPos [⟨tg, iter, ifs, 0⟩] pos) newDict false (eval iter X.env) (some (assign (.Name y py) X.env))) _ _ s
  have h : tDc wi g tt tk tv (own.map (·.2)) σ H (fun x H1 => gName i x σ H1 D.nx) := h
  refine wpAny_bind (thn (dc_core (Qf := fun _ t => SP X pins D .next t) calm nd J hi ok hg ht hk he hs h fun L C t m H' J' q hn f => ?_) fun _ t hq => wpAny_pure (wpAny_pure hq))
  show wpAny _ _ (assign (.Name y py) X.env (.ref L)) _ _ _
  refine wpAny_assign_Name (store_ok2 (v := V.ref L) J' nd hy (.inl hyl) rfl (fun s2 J2 ⟨a, sb, ha⟩ => ?_) (.inr hyl))
  obtain ⟨f0, f1, f2, f3, f4, f5⟩ := f
  have ne : C ≠ a := by
    rcases ha with z | z
    · rw [z]; exact f1
    · exact fun e => f4 y a z e.symm
  exact ⟨m, hn.sameBut sb ne, fun h3 sb3 => ⟨_, H', J2.turned (t' := s2.toks) (fun b o hb e => (sb3.2 b hb).trans e) f0 f1 f3 f4 f5, q⟩⟩
theorem sw_trueD {kx vx : Expr} {gs : List Comprehension} {scope : Scope} {pos py : Pos} {y : Str} {l : Nat} {env : Env} (hk : env.scope.kind = .function) (hy : env.scope.names.lookup y = some .local) (hl : (py.line == pos.line) = true)
    (ha : (scope.names.any fun (n, k) => n == y && (k == .local || k == .cell)) = false) : swapsWith (.DictComp kx vx gs scope pos) (some (.Name y py)) l env = pure true := by
  have ky : env.kindOf y = some .local := hy
  have hb : env.blockKind = .function := by unfold Env.blockKind; rw [hk]; rfl
  unfold swapsWith
  simp only [hb, ky, ha, Expr.pos, hl]
  rfl
end
end My8

end
section
set_option Elab.async false
set_option linter.all false
set_option maxRecDepth 100000
set_option maxHeartbeats 2000000
namespace My8
open PySem PySem.Spec PyProof.Rows L2 My
open TL TrM
abbrev s_is_name : Stmt := top 14
abbrev s_is_local_word : Stmt := top 15
abbrev s_is_keywords : Stmt := top 16
abbrev s_arity_of : Stmt := top 17
def TupAt (K : PySem.W.Frag) (mg : Str → Option Value) (x : Str) (ws : List (List Nat)) : Prop := ∃ a, mg x = some (.ref a) ∧ ∀ H, SqT K H a (ws.map fun x => V.str (My.strOf x))
def Asc (l : List Nat) : Prop := ∀ c ∈ l, c < 128
theorem alnum_in : ∀ c < 128, Unicode.isAlnum c = Tok.isAn c := by decide +kernel
theorem alpha_in : ∀ c < 128, Unicode.isAlpha c = Tok.isAl c := by decide +kernel
theorem lower_in : ∀ c < 128, Txt.islower ⟨#[c]⟩ = isLo c := by decide +kernel
theorem isascii_eq {z : Str} (h : Asc (codesOf z)) : Txt.isascii z = true := by
  unfold Txt.isascii
  rw [← Array.all_toList, List.all_eq_true]
  exact fun c hc => decide_eq_true (h c hc)
theorem isalnum_eq {z : Str} (h : Asc (codesOf z)) : Txt.isalnum z = (decide (codesOf z ≠ []) && (codesOf z).all Tok.isAn) := by
  unfold Txt.isalnum
  have e1 : decide (z.length > 0) = decide (codesOf z ≠ []) := decide_eq_decide.mpr List.length_pos_iff
  have e2 : z.cps.all Unicode.isAlnum = (codesOf z).all Tok.isAn := by
    rw [← Array.all_toList]
    show (codesOf z).all _ = _
    rw [Bool.eq_iff_iff, List.all_eq_true, List.all_eq_true]
    exact ⟨fun g c hc => by rw [← alnum_in c (h c hc)]; exact g c hc, fun g c hc => by rw [alnum_in c (h c hc)]; exact g c hc⟩
  rw [e2, e1]
theorem sp_spl : ∀ (l acc : List Nat), spl [58] 0 acc l = match sp58 l with
    | [] => []
    | p :: ps => (acc ++ p) :: ps
  | [], acc => by rw [spl_nil]; simp [sp58]
  | c :: l, acc => by
    by_cases hc : c = 58
    · subst hc
      have e : spl [58] 0 acc (58 :: l) = acc :: spl [58] 0 [] l := spl_hit (by unfold pre; simp)
      rw [e, sp_spl l [], sp58, if_pos rfl]
      have := sp58_ne l
      cases h : sp58 l with
      | nil => exact absurd h this
      | cons p ps => simp
    · rw [spl_miss (by unfold pre; simp [hc]), sp_spl l (acc ++ [c]), sp58, if_neg hc]
      have := sp58_ne l
      cases h : sp58 l with
      | nil => exact absurd h this
      | cons p ps => simp
theorem sp_spl0 (l : List Nat) : spl [58] 0 [] l = sp58 l := by
  rw [sp_spl]
  cases h : sp58 l with
  | nil => rfl
  | cons p ps => simp
theorem tl58 : TL.tl (Str.ofString ":") = [58] := by decide +kernel
theorem split58 (z : Str) : (Txt.split z (Str.ofString ":")).map codesOf = sp58 (codesOf z) := by
  have e := TL.split_spl z (Str.ofString ":") (by rw [tl58]; simp) (by
    have : Builtin.Str.strKind (Str.ofString ":") = 1 := by decide +kernel
    rw [this]
    unfold Builtin.Str.strKind
    split <;> (try split) <;> omega)
  rw [tl58, sp_spl0] at e
  exact e
theorem parts_len (z : Str) (w : Nat) : ∀ (cuts : List Nat) (a : Nat), (StrLaws.partsFrom z w a cuts).length = cuts.length + 1
  | [], a => rfl
  | c :: cs, a => by
    have := parts_len z w cs (c + w)
    show (StrLaws.partsFrom z w (c + w) cs).length + 1 = _
    rw [this]; rfl
theorem count58 (z : Str) : Txt.count z (Str.ofString ":") + 1 = ((sp58 (codesOf z)).length : Int) := by
  obtain ⟨f, g, hn⟩ := PySem.StrLaws.occ_tight z (Str.ofString ":") (by decide +kernel)
  have key := TL.parts_spl (x := z) (y := Str.ofString ":") (by rw [tl58]; simp) _ 0 f (Nat.zero_le _) g hn
  rw [List.drop_zero, tl58] at key
  have k2 := congrArg List.length key
  rw [show TL.spl [58] 0 [] (TL.tl z) = sp58 (codesOf z) from sp_spl0 _] at k2
  rw [← k2, List.length_map, parts_len]
  unfold Txt.count
  simp
theorem sp58_count : ∀ l : List Nat, (sp58 l).length = l.count 58 + 1
  | [] => rfl
  | c :: l => by
    have ih := sp58_count l
    by_cases hc : c = 58
    · subst hc; rw [sp58, if_pos rfl, List.count_cons_self, List.length_cons, ih]
    · rw [sp58, if_neg hc, List.count_cons_of_ne (by simpa using hc)]
      cases h : sp58 l with
      | nil => exact absurd h (sp58_ne l)
      | cons p ps => rw [h] at ih; exact ih
theorem ends58 (z : Str) : Txt.endswith z (Str.ofString ":") = decide ((codesOf z).getLast? = some 58) := by
  have e : Str.ofString ":" = ⟨#[58]⟩ := by decide +kernel
  unfold Txt.endswith
  rw [e, Bool.eq_iff_iff, Bool.and_eq_true, decide_eq_true_eq, decide_eq_true_eq, List.getLast?_eq_getElem?]
  have h1 : (⟨#[58]⟩ : Str).length = 1 := rfl
  have hz : (codesOf z).length = z.length := rfl
  have key := PySem.StrLaws.subAt_one z 58 (z.length - 1)
  rw [h1] at key ⊢
  rw [hz]
  constructor
  · rintro ⟨a, b⟩
    exact key.mp ⟨by omega, b⟩
  · intro a
    have hlt : z.length - 1 < z.length := by
      have := (List.getElem?_eq_some_iff.mp a).1
      rw [hz] at this
      exact this
    exact ⟨by omega, (key.mpr a).2⟩
theorem inV_list (z : Str) (ws : List (List Nat)) : inV (.str z) (ws.map fun x => V.str (My.strOf x)) = ws.contains (codesOf z) := by
  unfold inV
  rw [List.any_map, Bool.eq_iff_iff, List.any_eq_true, List.contains_iff_mem]
  constructor
  · rintro ⟨x, hx, h⟩
    have h : eqV (.str (My.strOf x)) (.str z) = true := h
    rw [eqv_str, decide_eq_true_eq] at h
    injection h with h
    rw [h]
    exact hx
  · intro h
    refine ⟨codesOf z, h, ?_⟩
    show eqV (.str (My.strOf (codesOf z))) (.str z) = true
    rw [eqv_str, strOf_codes]
    simp
theorem flat_strs (ws : List (List Nat)) : (ws.map fun x => V.str (My.strOf x)).all flatV = true := by
  rw [List.all_map, List.all_eq_true]
  exact fun _ _ => rfl
section
variable {K : PySem.W.Frag} {σ : L2.St} {H : Hp} {i : Nat}
theorem e_m0 {g : Str → Bool} {z : Str} (hσ : σ[i]? = some (some (.str z))) : EvE (tBM0 K "str" (fun x xs H Q => ∃ a, x = .str a ∧ xs = [] ∧ True ∧ Q (.bl (g a)) H) (tVar i)) σ H (g z) := fun H' Q hs k => ⟨_, hσ, rfl, _, rfl, rfl, trivial, k H' hs⟩
theorem e_m0x {g : Str → Bool} {z : Str} {c : Nat} (hσ : σ[i]? = some (some (.str z))) (hz : z.length ≤ sizeLine) (hc : (codesOf z)[0]? = some c) : EvE (tBM0 K "str" (fun x xs H Q => ∃ a, x = .str a ∧ xs = [] ∧ True ∧ Q (.bl (g a)) H) (tOp rIxS (tVar i) (tC (.int 0)))) σ H (g ⟨#[c]⟩) := fun H' Q hs k => ⟨_, hσ, z, 0, c, rfl, rfl, hz, atI_nat hc, rfl, _, rfl, rfl, trivial, k H' hs⟩
theorem e_notin {ws : List (List Nat)} {a : Addr} {z : Str} (hσ : σ[i]? = some (some (.str z))) (hT : SqT K H a (ws.map fun x => V.str (My.strOf x))) : EvE (tOp (rIn K true) (tVar i) (tC (.ref a))) σ H (!ws.contains (codesOf z)) := fun H' Q hs k => ⟨_, hσ, a, _, rfl, .inr (SqT.mono hs hT), rfl, flat_strs ws, by rw [← inV_list] at k; exact k H' hs⟩
theorem e_in {ws : List (List Nat)} {a : Addr} {z : Str} (hσ : σ[i]? = some (some (.str z))) (hT : SqT K H a (ws.map fun x => V.str (My.strOf x))) : EvE (tOp (rIn K false) (tVar i) (tC (.ref a))) σ H (ws.contains (codesOf z)) := fun H' Q hs k => ⟨_, hσ, a, _, rfl, .inr (SqT.mono hs hT), rfl, flat_strs ws, by rw [← inV_list] at k; exact k H' hs⟩
end
section
variable {P : Program} {w : World} {K : PySem.W.Frag} {mg : Str → Option Value} {base : Heap}

def spIsName : Sp := fun vs H Q _ => ∃ z : Str, vs = [.str z] ∧ Asc (codesOf z) ∧ z.length ≤ 100000 ∧ ∀ H', Same H H' → Q (.bl (nameB (codesOf z))) H'
theorem sc_is_name : FnScope ["thing"] ["thing"] (defScope s_is_name) := ⟨rfl, rfl, rfl, by decide +kernel, rfl, by decide +kernel, by decide +kernel⟩
theorem ok_is_name {f : Addr} {fd : FuncData} (F : FnP K "is_name" s_is_name f fd) (g_isinstance : mg "isinstance" = none) (g_str : mg "str" = none) (g_len : mg "len" = none) (g_LN : ∃ t, mg "LONGEST_NAME" = some (.int 40 t)) :
    FnOk P w K mg base CX0 1 f fd ["thing"] spIsName := by
  obtain ⟨t, g_LONGEST_NAME⟩ := g_LN
  have r_LONGEST_NAME : RelV (.int 40) (.int 40 t) := ⟨_, rfl⟩
  refine F.ok sc_is_name (fun vs H Q E h => ?_) (fun cdv A outer s H vs Q E hr h => ⟨_, PSs.nox
    (pss_cons (ps_if (PW.pt (pw_or (pt_not (pt_val (pe_callB call_isi (by rfl) g_isinstance (by decide +kernel) (pa_cons (pv 0) (pa_cons (pe_bltn (v := .ty "str") (u := .type "str") (by rfl) g_str (by decide +kernel) rfl) pa_nil))))) (pw_or1 (pt_cmpR op_gt (pe_callB call_len_str (by rfl) g_len PySem.boot_len (pa_cons (pv 0) pa_nil)) (pe_glob rfl g_LONGEST_NAME r_LONGEST_NAME) (nomark _))))) (pss_one (ps_ret pe_bl)) pss_nil)
      (pss_one (ps_ret (pe_and (pe_bm0 PySem.F.plainAttrs_str PySem.F.slot_str_isascii PySem.F.type_str_isascii mt_isascii (pv 0)) (pe_and (pe_bm0 PySem.F.plainAttrs_str PySem.F.slot_str_isalnum PySem.F.type_str_isalnum mt_isalnum (pv 0)) (pe_one (pe_bm0 PySem.F.plainAttrs_str PySem.F.slot_str_isalpha PySem.F.type_str_isalpha mt_isalpha (pe_ix ix_str (pv 0) pe_int (fun _ _ => rfl))))))))), ?_⟩)
  · obtain ⟨z, rfl, _⟩ := h
    rfl
  · obtain ⟨z, rfl, ha, hl, q⟩ := h
    have hsz : z.length ≤ sizeLine := Nat.le_trans hl (by decide)
    dsimp only [tSeq, tNext]
    refine if_ev (b := (!true || decide ((40 : Int) < (z.length : Int)))) (evt_or (evt_not (evt_b (e_isi rfl (fun _ _ => .base (.str z)) (kit_ty (by decide +kernel))))) fun _ => fun H' Q hs k => ⟨_, rfl, _, rfl, hsz, _, _, rfl, rfl, _, rfl, k H' hs⟩) (Same.refl H) (fun p H1 s1 => ?_) (fun p H1 s1 => ?_)
    · have hlt : (40 : Int) < (z.length : Int) := by simpa using p
      have e : nameB (codesOf z) = false := by
        unfold nameB
        rw [decide_eq_false (fun h => by have : (codesOf z).length = z.length := rfl; omega)]
        rfl
      have := q H1 s1
      rw [e] at this
      exact this
    · have hle : (codesOf z).length ≤ 40 := by
        have h2 : ¬ (40 : Int) < (z.length : Int) := fun h => by rw [decide_eq_true h] at p; cases p
        have : (codesOf z).length = z.length := rfl
        omega
      have hc : Txt.isalnum z = true → (codesOf z)[0]? = some ((codesOf z).headD 0) := fun h => by
        rw [isalnum_eq ha, Bool.and_eq_true, decide_eq_true_eq] at h
        cases e : codesOf z with
        | nil => exact absurd e h.1
        | cons c r => rfl
      refine ret_ev (eve_and (e_m0 (g := Txt.isascii) rfl) fun _ => eve_and (e_m0 (g := Txt.isalnum) rfl) fun h => e_m0x (g := Txt.isalpha) rfl hsz (hc h)) s1 fun H2 s2 => ?_
      have e : (Txt.isascii z && (Txt.isalnum z && Txt.isalpha ⟨#[(codesOf z).headD 0]⟩)) = nameB (codesOf z) := by
        unfold nameB
        rw [isascii_eq ha, isalnum_eq ha, decide_eq_true hle]
        cases e : codesOf z with
        | nil => rfl
        | cons c r =>
          have h1 : Txt.isalpha ⟨#[c]⟩ = Tok.isAl c := by
            have hc : c < 128 := ha c (by rw [e]; exact List.mem_cons_self)
            rw [← alpha_in c hc]
            unfold Txt.isalpha
            show (decide (1 > 0) && ((#[c] : Array Nat).all Unicode.isAlpha)) = _
            simp
          show (true && ((decide (c :: r ≠ []) && (c :: r).all Tok.isAn) && Txt.isalpha ⟨#[c]⟩)) = (true && ((c :: r).all Tok.isAn && Tok.isAl c))
          rw [h1]
          simp
      exact e ▸ q H2 s2
def spIsLocal : Sp := fun vs H Q _ => ∃ z : Str, vs = [.str z] ∧ Asc (codesOf z) ∧ z.length ≤ 100000 ∧ ∀ H', Same H H' → Q (.bl (localB (codesOf z))) H'
theorem sc_is_local_word : FnScope ["thing"] ["thing"] (defScope s_is_local_word) := ⟨rfl, rfl, rfl, by decide +kernel, rfl, by decide +kernel, by decide +kernel⟩
theorem ok_is_local {f fN : Addr} {fd fdN : FuncData} (F : FnP K "is_local_word" s_is_local_word f fd) (G_is_name : FnOk P w K mg base CX0 1 fN fdN ["thing"] spIsName) (g_is_name : mg "is_name" = some (.ref fN)) (k_is_name : PySem.W.keepIn K (.ref fN) = true) (b_is_name : Binds K fdN ["thing"] []) (g_F : TupAt K mg "FIVE_WORDS" five) :
    FnOk P w K mg base CX0 2 f fd ["thing"] spIsLocal := by
  obtain ⟨a5, g_FIVE_WORDS, hF⟩ := g_F
  have r_FIVE_WORDS : RelV (.ref a5) (.ref a5) := rfl
  refine F.ok sc_is_local_word (fun vs H Q E h => ?_) (fun cdv A outer s H vs Q E hr h => ⟨_, PSs.nox
    (pss_one (ps_ret (pe_and (pe_call G_is_name (hr.mono (by decide)) rfl g_is_name k_is_name b_is_name .nil pass0 (pa_cons (pv 0) pa_nil)) (pe_and (pe_bm0 PySem.F.plainAttrs_str PySem.F.slot_str_islower PySem.F.type_str_islower mt_islower (pe_ix ix_str (pv 0) pe_int (fun _ _ => rfl))) (pe_one (pe_cmpR op_notIn_seq (pv 0) (pe_glob rfl g_FIVE_WORDS r_FIVE_WORDS) (by rfl))))))), ?_⟩)
  · obtain ⟨z, rfl, _⟩ := h
    rfl
  · obtain ⟨z, rfl, ha, hl, q⟩ := h
    have hsz : z.length ≤ sizeLine := Nat.le_trans hl (by decide)
    have hc : nameB (codesOf z) = true → (codesOf z)[0]? = some ((codesOf z).headD 0) := fun h => by
      obtain ⟨c, r, e, _⟩ := ((nameB_iff _).mp h).al
      rw [e]; rfl
    refine ret_ev (b := (nameB (codesOf z) && (Txt.islower ⟨#[(codesOf z).headD 0]⟩ && !five.contains (codesOf z)))) (eve_and (fun H' Q hs k => ⟨_, rfl, z, rfl, ha, hl, fun H2 s2 => k H2 (hs.trans s2)⟩) fun h => eve_and (e_m0x (g := Txt.islower) rfl hsz (hc h)) fun _ => e_notin rfl (hF H)) (Same.refl H) fun H2 s2 => ?_
    have e : (nameB (codesOf z) && (Txt.islower ⟨#[(codesOf z).headD 0]⟩ && !five.contains (codesOf z))) = localB (codesOf z) := by
      unfold localB
      cases e : codesOf z with
      | nil => rfl
      | cons c r =>
        rw [show (c :: r).headD 0 = c from rfl, lower_in c (ha c (by rw [e]; exact List.mem_cons_self))]
        rfl
    exact e ▸ q H2 s2
/-- keywords, or what does not end with a : -/
def spIsKeys : Sp := fun vs H Q _ => ∃ z : Str, vs = [.str z] ∧ Asc (codesOf z) ∧ z.length ≤ 100000 ∧
  (((codesOf z).getLast? ≠ some 58 ∧ ∀ H', Same H H' → Q (.bl false) H') ∨ ((codesOf z).getLast? = some 58 ∧ ∀ H', Same H H' → Q (.bl ((sp58 (codesOf z).dropLast).all nameB)) H'))
theorem cutS_init (z : Str) : codesOf (cutS z none (some (-1))) = (codesOf z).dropLast := by
  unfold cutS
  rw [six_neg, HT.sIx_none, List.drop_zero, Nat.sub_zero, List.dropLast_eq_take]
  rfl
theorem sc_is_keywords : FnScope ["thing", "part"] ["thing"] (defScope s_is_keywords) := ⟨rfl, rfl, rfl, by decide +kernel, rfl, by decide +kernel, by decide +kernel⟩
theorem ok_is_keywords {f fN : Addr} {fd fdN : FuncData} (F : FnP K "is_keywords" s_is_keywords f fd) (G_is_name : FnOk P w K mg base CX0 1 fN fdN ["thing"] spIsName) (g_is_name : mg "is_name" = some (.ref fN)) (k_is_name : PySem.W.keepIn K (.ref fN) = true) (b_is_name : Binds K fdN ["thing"] []) (g_isinstance : mg "isinstance" = none) (g_str : mg "str" = none) (g_all : mg "all" = none) :
    FnOk P w K mg base CX0 2 f fd ["thing"] spIsKeys := by
  refine F.ok sc_is_keywords (fun vs H Q E h => ?_) (fun cdv A outer s H vs Q E hr h => ⟨_, PSs.nox
    (pss_cons (ps_if (PW.pt (pw_or (pt_not (pt_val (pe_callB call_isi (by rfl) g_isinstance (by decide +kernel) (pa_cons (pv 0) (pa_cons (pe_bltn (v := .ty "str") (u := .type "str") (by rfl) g_str (by decide +kernel) rfl) pa_nil))))) (pw_or1 (pt_not (pt_val (pe_bm PySem.F.plainAttrs_str PySem.F.slot_str_endswith PySem.F.type_str_endswith mt_endswith (pv 0) (pa_cons pe_str pa_nil))))))) (pss_one (ps_ret pe_bl)) pss_nil)
      (pss_one (ps_ret (pe_callB (cr_all rfl) (by rfl) g_all (by decide +kernel) (pa_cons (pe_lc (own := [("part", 1)]) rfl sc_is_keywords.nd (pi_list (pe_bm PySem.F.plainAttrs_str PySem.F.slot_str_split PySem.F.type_str_split mt_split (pe_slice sl_str (pv 0) po_none (po_some (pe_un un_neg pe_int))) (pa_cons pe_str pa_nil))) (blkOk_by (own := [("part", 1)]) (N := ["thing", "part"]) (sc := defScope s_is_keywords) (by decide +kernel)) (fun _ _ _ _ _ => by (exact (pg_name (i := 1) sc_is_keywords.nd rfl (Or.inl rfl)))) (fun _ _ _ _ _ => by exact pts_nil) (fun _ _ _ _ _ => by exact (pe_call G_is_name (hr.mono (by decide)) rfl g_is_name k_is_name b_is_name .nil pass0 (pa_cons (pv 1) pa_nil)))) pa_nil))))), ?_⟩)
  · obtain ⟨z, rfl, _⟩ := h
    rfl
  · obtain ⟨z, rfl, ha, hl, h⟩ := h
    have hsz : z.length ≤ sizeLine := Nat.le_trans hl (by decide)
    dsimp only [tSeq, tNext]
    refine if_ev (b := (!true || !(Txt.endswith z (Str.ofString ":")))) (evt_or (evt_not (evt_b (e_isi rfl (fun _ _ => .base (.str z)) (kit_ty (by decide +kernel))))) fun _ => evt_not (evt_b fun H' Q hs k => ⟨_, rfl, rfl, z, _, rfl, rfl, k H' hs⟩)) (Same.refl H) (fun p H1 s1 => ?_) (fun p H1 s1 => ?_)
    · rw [ends58] at p
      rcases h with ⟨h0, q⟩ | ⟨h0, q⟩
      · exact q H1 s1
      · rw [decide_eq_true h0] at p; cases p
    · rw [ends58] at p
      rcases h with ⟨h0, q⟩ | ⟨h0, q⟩
      · rw [decide_eq_false h0] at p; cases p
      have sl : (cutS z none (some (-1))).length ≤ z.length := by
        show (codesOf (cutS z none (some (-1)))).length ≤ (codesOf z).length
        rw [cutS_init, List.length_dropLast]; omega
      have hda : Asc (codesOf z).dropLast := fun c hc => ha c (List.dropLast_subset _ hc)
      have hsp := split58 (cutS z none (some (-1)))
      rw [cutS_init] at hsp
      refine ⟨_, rfl, 1, rfl, -1, rfl, z, rfl, hsz, rfl, _, _, rfl, rfl, by decide +kernel, ?_, fun p1 np1 => ?_⟩
      · exact Nat.le_trans (show _ ≤ 100000 + 2 by omega) (by decide)
      generalize cutS z none (some (-1)) = y at sl hsp np1 ⊢
      have mem_sp : ∀ x ∈ Txt.split y (Str.ofString ":"), Asc (codesOf x) ∧ x.length ≤ 100000 := by
        intro x hx
        have h1 : codesOf x ∈ sp58 (codesOf z).dropLast := by rw [← hsp]; exact List.mem_map_of_mem hx
        obtain ⟨h2, h3⟩ := sp58_mem _ _ h1
        have h4 : (codesOf z).length = z.length := rfl
        have h5 : x.length = (codesOf x).length := rfl
        rw [List.length_dropLast] at h3
        exact ⟨fun c hc => hda c (h2 c hc), by omega⟩
      have hsn : (Txt.split y (Str.ofString ":")).length ≤ 100001 := by
        have h1 := congrArg List.length hsp
        rw [List.length_map] at h1
        have h2 := sp58_len (codesOf z).dropLast
        rw [List.length_dropLast] at h2
        have h4 : (codesOf z).length = z.length := rfl
        omega
      refine ⟨p1, rfl, ⟨_, SqL.of upd_same⟩, fun D nD => ?_⟩
      have s2 := same_upd (o := HO.lst ((Txt.split y (Str.ofString ":")).map V.str)) np1
      have hp1 : SqL K (upd H1 p1 (.lst ((Txt.split y (Str.ofString ":")).map V.str))) p1 ((Txt.split y (Str.ofString ":")).map V.str) := SqL.of upd_same
      generalize upd H1 p1 (.lst ((Txt.split y (Str.ofString ":")).map V.str)) = H2 at s2 hp1 nD
      refine lc_list (K := K) (a := p1) (xs := (Txt.split y (Str.ofString ":")).map V.str) (fun i H' => H' D = some (.lst ((((Txt.split y (Str.ofString ":")).take i).map fun x => nameB (codesOf x)).map V.bl)) ∧ Same H2 H') ⟨upd_same, same_upd nD⟩ (fun i H' _ R => SqL.mono R.2 hp1) ?hs ?hd
      case hs =>
        intro i x H' hx R
        rw [List.getElem?_map] at hx
        cases e : (Txt.split y (Str.ofString ":"))[i]? with
        | none => rw [e] at hx; cases hx
        | some u =>
          rw [e] at hx
          cases hx
          obtain ⟨ua, ul⟩ := mem_sp u (List.mem_of_getElem? e)
          refine ⟨rfl, tyes ?_⟩
          refine ⟨_, rfl, u, rfl, ua, ul, fun H3 s3 => ?_⟩
          refine ⟨_, s3 _ _ R.1, ?_, ?_, ?_⟩
          · rw [List.length_map, List.length_map, List.length_take]
            exact Nat.lt_of_le_of_lt (show _ ≤ 100001 by omega) (by decide)
          · rw [upd_same, List.take_succ, e, List.map_append, List.map_append]; rfl
          · exact same_free (R.2.trans s3) nD
      case hd =>
        intro H3 R
        rw [List.length_map, List.take_length] at R
        refine ⟨D, _, rfl, SqL.of R.1, ?_⟩
        have e : (((Txt.split y (Str.ofString ":")).map fun x => nameB (codesOf x)).all id) = (sp58 (codesOf z).dropLast).all nameB := by
          rw [← hsp, List.all_map, List.all_map]
          rfl
        rw [e]
        exact q H3 (s1.trans (s2.trans R.2))
def spArity : Sp := fun vs H Q _ => ∃ (z : Str) (n : Nat), vs = [.str z] ∧ Sel (codesOf z) n ∧ z.length ≤ 100000 ∧ ∀ H', Same H H' → Q (.int (n : Int)) H'
theorem sc_arity_of : FnScope ["thing"] ["thing"] (defScope s_arity_of) := ⟨rfl, rfl, rfl, by decide +kernel, rfl, by decide +kernel, by decide +kernel⟩
theorem ok_arity {f fN fK : Addr} {fd fdN fdK : FuncData} (F : FnP K "arity_of" s_arity_of f fd) (G_is_name : FnOk P w K mg base CX0 1 fN fdN ["thing"] spIsName) (g_is_name : mg "is_name" = some (.ref fN)) (k_is_name : PySem.W.keepIn K (.ref fN) = true) (b_is_name : Binds K fdN ["thing"] [])
    (G_is_keywords : FnOk P w K mg base CX0 2 fK fdK ["thing"] spIsKeys) (g_is_keywords : mg "is_keywords" = some (.ref fK)) (k_is_keywords : PySem.W.keepIn K (.ref fK) = true) (b_is_keywords : Binds K fdK ["thing"] []) (g_isinstance : mg "isinstance" = none) (g_str : mg "str" = none) (g_len : mg "len" = none) (g_OP : TupAt K mg "OPERATORS" Tok.ops) (g_LS : ∃ t, mg "LONGEST_SELECTOR" = some (.int 100 t)) :
    FnOk P w K mg base CX0 3 f fd ["thing"] spArity := by
  obtain ⟨t, g_LONGEST_SELECTOR⟩ := g_LS
  have r_LONGEST_SELECTOR : RelV (.int 100) (.int 100 t) := ⟨_, rfl⟩
  obtain ⟨ao, g_OPERATORS, hO⟩ := g_OP
  have r_OPERATORS : RelV (.ref ao) (.ref ao) := rfl
  refine F.ok sc_arity_of (fun vs H Q E h => ?_) (fun cdv A outer s H vs Q E hr h => ⟨_, PSs.nox
    (pss_cons (ps_if (pt_val (pe_call G_is_name (hr.mono (by decide)) rfl g_is_name k_is_name b_is_name .nil pass0 (pa_cons (pv 0) pa_nil))) (pss_one (ps_ret pe_int)) pss_nil)
      (pss_cons (ps_if (pt_not (pt_val (pe_call G_is_keywords (hr.mono (by decide)) rfl g_is_keywords k_is_keywords b_is_keywords .nil pass0 (pa_cons (pv 0) pa_nil)))) (pss_one (ps_ret (pe_ifExp (PW.pt (pw_and (pt_val (pe_callB call_isi (by rfl) g_isinstance (by decide +kernel) (pa_cons (pv 0) (pa_cons (pe_bltn (v := .ty "str") (u := .type "str") (by rfl) g_str (by decide +kernel) rfl) pa_nil)))) (pw_and1 (pt_cmpR op_in_seq (pv 0) (pe_glob rfl g_OPERATORS r_OPERATORS) (by rfl))))) pe_int pe_non))) pss_nil)
      (pss_one (ps_ret (pe_ifExp (pt_cmpR op_le (pe_callB call_len_str (by rfl) g_len PySem.boot_len (pa_cons (pv 0) pa_nil)) (pe_glob rfl g_LONGEST_SELECTOR r_LONGEST_SELECTOR) (nomark _)) (pe_bm PySem.F.plainAttrs_str PySem.F.slot_str_count PySem.F.type_str_count mt_count (pv 0) (pa_cons pe_str pa_nil)) pe_non))))), ?_⟩)
  · obtain ⟨z, n, rfl, _⟩ := h
    rfl
  · obtain ⟨z, n, rfl, hs, hl, q⟩ := h
    have ha := sel_asc hs
    have hsz : z.length ≤ sizeLine := Nat.le_trans hl (by decide)
    obtain ⟨l, hc⟩ : ∃ l, codesOf z = l := ⟨_, rfl⟩
    rw [hc] at hs
    dsimp only [tSeq, tNext]
    refine if_ev (b := nameB (codesOf z)) (evt_b fun H' Q hs k => ⟨_, rfl, z, rfl, ha, hl, fun H2 s2 => k H2 (hs.trans s2)⟩) (Same.refl H) (fun p H1 s1 => ?_) (fun p H1 s1 => ?_)
    · have hn : n = 0 := by
        rw [hc] at p
        cases hs with
        | name _ => rfl
        | op h => rw [(op_asc h).2.1] at p; cases p
        | keys h0 h _ => 
          rw [keys_not_name h0] at p; cases p
      subst hn
      exact q H1 s1
    dsimp only [tSeq, tNext]
    rw [hc] at p
    cases hs with
    | name h => rw [(nameB_iff _).mpr h] at p; cases p
    | op h =>
      refine if_ev (b := !false) (evt_not (evt_b fun H' Q hs k => ⟨_, rfl, z, rfl, ha, hl, .inl ⟨by rw [hc]; exact (op_asc h).2.2.1, fun H2 s2 => k H2 (hs.trans s2)⟩⟩)) s1 (fun _ H2 s2 => ?_) (fun h => by cases h)
      have hm : Tok.ops.contains (codesOf z) = true := by rw [hc]; exact List.contains_iff_mem.mpr h
      refine (evt_and (evt_b (e_isi (K := K) (b := true) rfl (fun _ _ => .base (.str z)) (kit_ty (by decide +kernel)))) fun _ => evt_test (e_in rfl (hO H))) H2 _ s2 fun H3 s3 => ?_
      rw [hm]
      exact iteT (q H3 s3)
    | @keys ns h0 h h100 =>
      refine if_ev (b := !((sp58 (codesOf z).dropLast).all nameB)) (evt_not (evt_b fun H' Q hs k => ⟨_, rfl, z, rfl, ha, hl, .inr ⟨by rw [hc]; exact keys_last58 h0, fun H2 s2 => k H2 (hs.trans s2)⟩⟩)) s1 (fun p2 H2 s2 => ?_) (fun p2 H2 s2 => ?_)
      · rw [hc, sp58_keys h0 h] at p2
        rw [show ns.all nameB = true from List.all_eq_true.mpr fun x hx => (nameB_iff x).mpr (h x hx)] at p2
        cases p2
      · have e100 : decide ((z.length : Int) ≤ 100) = true := decide_eq_true (by have : (codesOf z).length = z.length := rfl; rw [hc] at this; omega)
        refine ⟨_, rfl, _, rfl, hsz, _, _, rfl, rfl, _, rfl, ?_⟩
        rw [e100]
        refine iteT ⟨_, rfl, rfl, z, _, rfl, rfl, ?_⟩
        have hcount := count58 z
        rw [sp58_count, hc, count_keys h] at hcount
        rw [show Txt.count z (Str.ofString ":") = (ns.length : Int) by omega]
        exact q H2 s2
end
end My8

end
section
set_option Elab.async false
set_option linter.all false
set_option maxRecDepth 100000
set_option maxHeartbeats 2000000
namespace My8
open PySem PySem.Spec PyProof.Rows L2 My
abbrev s_kind_of : Stmt := top 28
abbrev s_is_short_integer : Stmt := top 35
/-! ### a dict of the module, asked by get -/
section
variable {X : Cx} {o e : Expr} {apos cpos : Pos} {to te : TE} {d : Addr} {es : Array DictEntry} {n : Nat}
def tKGet (K : PySem.W.Frag) (d : Addr) (to te : TE) : TE := fun σ H Q => to σ H fun x H1 => x = .ref d ∧ te σ H1 fun y H2 => ∃ (z : Str) (r : Option Value), y = .str z ∧ PySem.W.nsIn K d z = some r ∧ (match r with | none => Q .non H2 | some u => ∃ v, RelV v u ∧ Q v H2)
theorem pe_kget (D : KDict X.K X.w d es n) (ho : PE X o to) (he : PE X e te) (m : M1 X o "get" apos e cpos) : PE X (.Call (.Attribute o "get" apos) [e] [] cpos) (tKGet X.K d to te) := by
  refine ⟨fun pins s σ H Q I h => ?_⟩
  refine wpAny_Call_method m.base m.few m.line PySem.F.plainAttrs_dict PySem.F.slot_dict_get PySem.F.type_dict_get (thn (ho.run pins s σ H _ I h) fun u s1 ⟨x, H1, I1, rx, ex, q1⟩ => ?_)
  subst ex
  obtain rfl : u = Value.ref d := rx
  refine ⟨kd_type D I1, fun b q => ?_, ?_⟩
  · cases q
    exact ⟨_, I1.kIn _ _ D.at_, rfl⟩
  rw [m.trees]
  refine Calls.callWith_builtin rfl (Calls.evalArgs_plain (Calls.spliced_cons (thn (he.run pins s1 σ H1 _ I1 q1) fun iv s2 ⟨y, H2, I2, ry, z, r, ey, hr, q2⟩ => Calls.spliced_nil ?_)))
  subst ey
  obtain ⟨t, rfl⟩ := ry
  refine call_meetsIn PySem.F.slot_dict_get (kd_type D I2) PySem.F.entry_dict_get (PySem.F.args_dict_get_2 _ _) (meets_dict_get (PySem.strKind X.prog X.w) d (PySem.strKind_is X.prog X.w z t) D.low) ⟨_, PySem.W.mapOf_K (prog := X.prog) I2.kIn D.at_ D.lit, ?_⟩
  rw [PySem.W.find_K D.at_ hr]
  cases r with
  | none => exact ⟨.non, H2, I2.tok _, rfl, q2⟩
  | some u =>
    obtain ⟨v, rv, q3⟩ := q2
    exact ⟨v, H2, I2.tok _, rv, q3⟩
end
theorem eve_not {e : TE} {σ : L2.St} {H0 : Hp} {x : Bool} (h : EvE e σ H0 x) : EvE (tNotV e) σ H0 (!x) := fun H Q hs k => h H _ hs fun H1 h1 => ⟨x, rfl, k H1 h1⟩
abbrev kI : Str := Str.ofString "int"
abbrev kS : Str := Str.ofString "str"
abbrev kY : Str := Str.ofString "sym"
abbrev kA : Str := Str.ofString "arr"
abbrev kV : Str := Str.ofString "var"
abbrev kSet : Str := Str.ofString "set"
abbrev kSend : Str := Str.ofString "send"
abbrev kSuper : Str := Str.ofString "super"
abbrev kCasc : Str := Str.ofString "cascade"
abbrev kBlock : Str := Str.ofString "block"
abbrev kRet : Str := Str.ofString "return"
abbrev kMeth : Str := Str.ofString "method"
def shapes : List (Str × Int) := [(kI, 2), (kS, 2), (kY, 2), (kA, 2), (kV, 2), (kSet, 3), (kSend, 4), (kSuper, 3), (kCasc, 3), (kBlock, 4), (kRet, 2), (kMeth, 5)]
def ShapesAt (K : PySem.W.Frag) (w : World) (d : Addr) : Prop := ∃ es n, KDict K w d es n ∧ ∀ p ∈ shapes, ∃ t, PySem.W.nsIn K d p.1 = some (some (.int p.2 t))
def spKind (K : PySem.W.Frag) : Sp := fun vs H Q _ => ∃ (a : Addr) (z : Str) (xs : List V), vs = [.ref a] ∧ SqT K H a (.str z :: xs) ∧ (z, (xs.length : Int) + 1) ∈ shapes ∧ ∀ H', Same H H' → Q (.str z) H'
section
variable {P : Program} {w : World} {K : PySem.W.Frag} {mg : Str → Option Value} {base : Heap}
theorem sc_kind_of : FnScope ["thing"] ["thing"] (defScope s_kind_of) := ⟨rfl, rfl, rfl, by decide +kernel, rfl, by decide +kernel, by decide +kernel⟩
theorem ok_kind_of {f d_SHAPES : Addr} {fd : FuncData} (F : FnP K "kind_of" s_kind_of f fd) (g_isinstance : mg "isinstance" = none) (g_tuple : mg "tuple" = none) (g_str : mg "str" = none) (g_len : mg "len" = none) (g_SHAPES : mg "SHAPES" = some (.ref d_SHAPES)) (hS : ShapesAt K w d_SHAPES) :
    FnOk P w K mg base CX0 1 f fd ["thing"] (spKind K) := by
  obtain ⟨es, n, D_SHAPES, hD⟩ := hS
  refine F.ok sc_kind_of (fun vs H Q E h => ?_) (fun cdv A outer s H vs Q E hr h => ⟨_, PSs.nox
    (pss_cons (ps_if (PW.pt (pw_or (pt_not (pt_val (pe_callB call_isi (by rfl) g_isinstance (by decide +kernel) (pa_cons (pv 0) (pa_cons (pe_bltn (v := .ty "tuple") (u := .type "tuple") (by rfl) g_tuple (by decide +kernel) rfl) pa_nil))))) (pw_or (pt_cmpR op_eq (pe_callB call_len_seq (by rfl) g_len PySem.boot_len (pa_cons (pv 0) pa_nil)) pe_int (nomark _)) (pw_or1 (pt_not (pt_val (pe_callB call_isi (by rfl) g_isinstance (by decide +kernel) (pa_cons (pe_ix ix_tup (pv 0) pe_int (fun _ _ => rfl)) (pa_cons (pe_bltn (v := .ty "str") (u := .type "str") (by rfl) g_str (by decide +kernel) rfl) pa_nil))))))))) (pss_one (ps_ret pe_non)) pss_nil)
      (pss_one (ps_ret (pe_ifExp (pt_cmpR op_eq (pe_kget D_SHAPES (pe_glob (v := .ref d_SHAPES) rfl g_SHAPES rfl) (pe_ix ix_tup (pv 0) pe_int (fun _ _ => rfl)) ⟨rfl, rfl, rfl, rfl⟩) (pe_callB call_len_seq (by rfl) g_len PySem.boot_len (pa_cons (pv 0) pa_nil)) (nomark _)) (pe_ix ix_tup (pv 0) pe_int (fun _ _ => rfl)) pe_non)))), ?_⟩)
  · obtain ⟨a, z, xs, rfl, _⟩ := h
    rfl
  · obtain ⟨a, z, xs, rfl, hT, hz, q⟩ := h
    dsimp only [tSeq, tNext]
    have e0 : decide (V.int (((V.str z :: xs).length : Nat) : Int) = V.int 0) = false := decide_eq_false (fun h => by injection h with h; simp at h; omega)
    refine if_ev (b := (!true || (false || !true))) (evt_or (evt_not (evt_b (e_isi rfl (fun _ h => ty_tuple (SqT.mono h hT)) (kit_ty (by decide +kernel))))) fun _ => evt_or (fun H' Q hs k => ⟨_, rfl, _, _, rfl, .inr (SqT.mono hs hT), rfl, _, rfl, by rw [e0]; exact k H' hs⟩) fun _ => evt_not (evt_b (e_isix rfl hT (atI_nat rfl) (fun _ _ => .base (.str z)) (kit_ty (by decide +kernel))))) (Same.refl H) (fun h => by cases h) (fun _ H1 s1 => ?_)
    obtain ⟨t, ht⟩ := hD _ hz
    have e1 : decide (V.int ((xs.length : Int) + 1) = V.int (((V.str z :: xs).length : Nat) : Int)) = true := decide_eq_true (by simp)
    refine ⟨rfl, _, rfl, _, _, _, _, rfl, rfl, SqT.mono s1 hT, atI_nat rfl, z, _, rfl, ht, .int ((xs.length : Int) + 1), ⟨t, rfl⟩, _, rfl, _, _, rfl, .inr (SqT.mono s1 hT), rfl, _, rfl, ?_⟩
    rw [e1]
    exact iteT ⟨_, rfl, _, _, _, _, rfl, rfl, SqT.mono s1 hT, atI_nat rfl, q H1 s1⟩
def spShort : Sp := fun vs H Q _ => ∃ i : Int, vs = [.int i] ∧ -(10 ^ 60) < i ∧ i < 10 ^ 60 ∧ ∀ H', Same H H' → Q (.bl true) H'
theorem sc_is_short_integer : FnScope ["thing"] ["thing"] (defScope s_is_short_integer) := ⟨rfl, rfl, rfl, by decide +kernel, rfl, by decide +kernel, by decide +kernel⟩
theorem ok_short {f : Addr} {fd : FuncData} (F : FnP K "is_short_integer" s_is_short_integer f fd) (g_isinstance : mg "isinstance" = none) (g_int : mg "int" = none) (g_bool : mg "bool" = none) (g_abs : mg "abs" = none) :
    FnOk P w K mg base CX0 1 f fd ["thing"] spShort := by
  refine F.ok sc_is_short_integer (fun vs H Q E h => ?_) (fun cdv A outer s H vs Q E hr h => ⟨_, PSs.nox
    (pss_one (ps_ret (pe_and (pe_callB call_isi (by rfl) g_isinstance (by decide +kernel) (pa_cons (pv 0) (pa_cons (pe_bltn (v := .ty "int") (u := .type "int") (by rfl) g_int (by decide +kernel) rfl) pa_nil))) (pe_and (pe_not (pe_callB call_isi (by rfl) g_isinstance (by decide +kernel) (pa_cons (pv 0) (pa_cons (pe_bltn (v := .ty "bool") (u := .type "bool") (by rfl) g_bool (by decide +kernel) rfl) pa_nil)))) (pe_one (pe_cmpR op_lt (pe_callB call_abs (by rfl) g_abs (by decide +kernel) (pa_cons (pv 0) pa_nil)) (pe_op op_pow pe_int pe_int) (nomark _))))))), ?_⟩)
  · obtain ⟨i, rfl, _⟩ := h
    rfl
  · obtain ⟨i, rfl, h1, h2, q⟩ := h
    have e1 : decide ((if i < 0 then -i else i) < 10 ^ 60) = true := decide_eq_true (by split <;> omega)
    refine ret_ev (b := (true && (!false && true))) (eve_and (e_isi rfl (fun _ _ => .base (.int i)) (kit_ty (by decide +kernel))) fun _ => eve_and (eve_not (e_isi rfl (fun _ _ => .base (.int i)) (kit_ty (by decide +kernel)))) fun _ => fun H' Q hs k => ⟨_, rfl, _, rfl, _, _, rfl, rfl, ⟨by decide, by decide, by decide⟩, _, _, rfl, rfl, ?_⟩) (Same.refl H) fun H1 s1 => q H1 s1
    show Q (.bl (decide ((if i < 0 then -i else i) < 10 ^ 60))) H'
    rw [e1]
    exact k H' hs
end
end My8

end
section
set_option Elab.async false
set_option linter.all false
set_option maxRecDepth 100000
set_option maxHeartbeats 2000000
namespace My8
open PySem PySem.Spec PyProof.Rows L2 My
abbrev s_literal_fits : Stmt := top 34
abbrev s_items_fit : Stmt := top 36
abbrev s_item_fits : Stmt := top 37
/-! ### literals -/
open TrM
def okT (l : List Nat) : Prop := l.length ≤ 2000 ∧ ∀ c ∈ l, (c = 10 ∨ (32 ≤ c ∧ c ≤ 126))
mutual
/-- a literal with so much room -/
inductive Lt : Nat → PyData → Prop
  | int {n : Nat} {i : Int} : -(10 ^ 60) < i → i < 10 ^ 60 → Lt (n + 1) (.tuple [.str kI, .int i])
  | str {n : Nat} {z : Str} : okT (codesOf z) → Lt (n + 1) (.tuple [.str kS, .str z])
  | sym {n : Nat} {z : Str} : okT (codesOf z) → Lt (n + 1) (.tuple [.str kY, .str z])
  | arr {n : Nat} {ds : List PyData} : ds.length ≤ 1000 → (∀ d ∈ ds, Itm n d) → Lt (n + 1) (.tuple [.str kA, .tuple ds])
/-- an item -/
inductive Itm : Nat → PyData → Prop
  | word {n : Nat} {z : Str} : codesOf z ∈ spoken → Itm (n + 1) (.tuple [.str kV, .str z])
  | lit {n : Nat} {d : PyData} : Lt n d → Itm n d
end
theorem dp_tup {K : PySem.W.Frag} {H : Hp} {v : V} {ds : List PyData} (h : Dp K H v (.tuple ds)) : ∃ a xs, v = .ref a ∧ SqT K H a xs ∧ DpAll K H xs ds := by
  cases h with
  | tup h1 h2 => exact ⟨_, _, rfl, h1, h2⟩
theorem dp_str {K : PySem.W.Frag} {H : Hp} {v : V} {z : Str} (h : Dp K H v (.str z)) : v = .str z := by cases h; rfl
theorem dp_int {K : PySem.W.Frag} {H : Hp} {v : V} {i : Int} (h : Dp K H v (.int i)) : v = .int i := by cases h; rfl
/-- a tree of two parts -/
theorem dp_two {K : PySem.W.Frag} {H : Hp} {v : V} {k : Str} {d : PyData} (h : Dp K H v (.tuple [.str k, d])) : ∃ a u, v = .ref a ∧ SqT K H a [.str k, u] ∧ Dp K H u d := by
  obtain ⟨a, xs, rfl, hT, hA⟩ := dp_tup h
  cases hA with
  | cons h1 h2 =>
    cases h2 with
    | cons h3 h4 =>
      cases h4
      rw [dp_str h1] at hT
      exact ⟨a, _, rfl, hT, h3⟩
theorem e_inv2 {K : PySem.W.Frag} {σ : L2.St} {H : Hp} {i : Nat} {z w w' : Str} (hσ : σ[i]? = some (some (.str z))) : EvE (tOp (rIn K false) (tVar i) (tTup (tCons (tC (.str w)) (tCons (tC (.str w')) tNil)))) σ H (inV (.str z) [.str w, .str w']) :=
  fun H' Q hs k => ⟨_, hσ, (by show 2 ≤ sizeLine; decide), fun t nt => ⟨t, _, rfl, .inr (SqT.of upd_same), rfl, rfl, k _ (hs.trans (same_upd nt))⟩⟩
theorem EvE.to {e : TE} {σ : L2.St} {H : Hp} {b b' : Bool} (h : EvE e σ H b) (q : b = b') : EvE e σ H b' := q ▸ h
theorem EvT.to {e : TT} {σ : L2.St} {H : Hp} {b b' : Bool} (h : EvT e σ H b) (q : b = b') : EvT e σ H b' := q ▸ h
theorem lit_key {K : PySem.W.Frag} {H : Hp} {v : V} {d : PyData} {m : Nat} (hd : Dp K H v d) (hl : Lt m d) : ∃ a z u, v = .ref a ∧ SqT K H a [.str z, u] ∧ (z, (([u] : List V).length : Int) + 1) ∈ shapes ∧ 0 < m ∧
    ((z = kI ∧ ∃ i, u = .int i ∧ -(10 ^ 60) < i ∧ i < 10 ^ 60) ∨ ((z = kS ∨ z = kY) ∧ ∃ t, u = .str t ∧ okT (codesOf t)) ∨ (z = kA ∧ ∃ b xs ds, u = .ref b ∧ SqT K H b xs ∧ DpAll K H xs ds ∧ ds.length ≤ 1000 ∧ ∀ d ∈ ds, Itm (m - 1) d)) := by
  cases hl with
  | int h1 h2 =>
    obtain ⟨a, u, rfl, hT, hu⟩ := dp_two hd
    exact ⟨a, kI, u, rfl, hT, (by decide +kernel : (kI, (2 : Int)) ∈ shapes), Nat.succ_pos _, .inl ⟨rfl, _, dp_int hu, h1, h2⟩⟩
  | str h =>
    obtain ⟨a, u, rfl, hT, hu⟩ := dp_two hd
    exact ⟨a, kS, u, rfl, hT, (by decide +kernel : (kS, (2 : Int)) ∈ shapes), Nat.succ_pos _, .inr (.inl ⟨.inl rfl, _, dp_str hu, h⟩)⟩
  | sym h =>
    obtain ⟨a, u, rfl, hT, hu⟩ := dp_two hd
    exact ⟨a, kY, u, rfl, hT, (by decide +kernel : (kY, (2 : Int)) ∈ shapes), Nat.succ_pos _, .inr (.inl ⟨.inr rfl, _, dp_str hu, h⟩)⟩
  | arr hn h =>
    obtain ⟨a, u, rfl, hT, hu⟩ := dp_two hd
    obtain ⟨b, xs, rfl, h1, h2⟩ := dp_tup hu
    exact ⟨a, kA, _, rfl, hT, (by decide +kernel : (kA, (2 : Int)) ∈ shapes), Nat.succ_pos _, .inr (.inr ⟨rfl, b, xs, _, rfl, h1, h2, hn, h⟩)⟩
/-- all of what is asked of each item of a tuple is true -/
theorem lc_true {K : PySem.W.Frag} {a : Addr} {xs : List V} {g : TG} {tt : TT} {te : TE} {vs : List Nat} {σ : L2.St} {H1 : Hp} {D : Addr} {Qd : Hp → Prop} (nD : H1 D = none) (hT : SqT K H1 a xs) (hn : xs.length ≤ 2000)
    (hs : ∀ (i : Nat) (x : V) (H : Hp), xs[i]? = some x → Same H1 H → ∀ (Kc : VK) (R : Hp → Prop), (∀ H4, Same H H4 → Kc (.bl true) H4) → g x (wipe σ vs) H fun σ2 H2 => wipe σ2 vs = wipe σ vs ∧ tt σ2 H2 fun b H3 => if b = true then te σ2 H3 Kc else R H3)
    (hd : ∀ H, Same H1 H → H D = some (.lst ((List.replicate xs.length true).map V.bl)) → Qd H) :
    ∃ W : Nat → Nat → Hp → Prop, (∃ m, W 0 m (upd H1 D (.lst []))) ∧ ∀ i m H, W i m H →
      ((Itt K a).stop i H ∧ Qd H) ∨ ((Itt K a).go i H ∧ ∃ Nx : Hp → Prop, (∀ H', Nx H' → ∃ m', m' < m ∧ W (i + 1) m' H') ∧ ∀ x H', (Itt K a).yld i H x H' → g x (wipe σ vs) H' fun σ2 H2 => wipe σ2 vs = wipe σ vs ∧ tt σ2 H2 fun b H3 =>
        if b = true then te σ2 H3 fun y H4 => ∃ acc, H4 D = some (.lst acc) ∧ acc.length < sizeLine ∧ Nx (upd H4 D (.lst (acc ++ [y]))) else Nx H3) := by
  refine lc_tup (K := K) (a := a) (xs := xs) (fun i H' => i ≤ xs.length ∧ H' D = some (.lst ((List.replicate i true).map V.bl)) ∧ Same H1 H') ⟨Nat.zero_le _, upd_same, same_upd nD⟩ (fun i H' _ R => SqT.mono R.2.2 hT) (fun i x H' hx R => ?_) (fun H' R => hd H' R.2.2 R.2.1)
  have hlt : i < xs.length := (List.getElem?_eq_some_iff.mp hx).1
  refine hs i x H' hx R.2.2 _ _ fun H4 s4 => ⟨_, s4 _ _ R.2.1, ?_, hlt, ?_, same_free (R.2.2.trans s4) nD⟩
  · rw [List.length_map, List.length_replicate]
    exact Nat.lt_of_lt_of_le (show i < 2000 by omega) (by decide)
  · rw [upd_same, List.replicate_succ', List.map_append]
    rfl
theorem all_true (n : Nat) : (List.replicate n true).all id = true := by
  rw [List.all_eq_true]
  intro x hx
  rw [(List.mem_replicate.mp hx).2]
  rfl
theorem dpAll_at {K : PySem.W.Frag} {H : Hp} : ∀ {xs : List V} {ds : List PyData} {i : Nat} {x : V}, DpAll K H xs ds → xs[i]? = some x → ∃ d ∈ ds, Dp K H x d
  | [], _, i, x, h, hx => by cases hx
  | y :: xs, _, 0, x, .cons h _, hx => by cases hx; exact ⟨_, List.mem_cons_self, h⟩
  | y :: xs, _, i + 1, x, .cons _ h, hx => by
    obtain ⟨d, h1, h2⟩ := dpAll_at h (by simpa using hx)
    exact ⟨d, List.mem_cons_of_mem _ h1, h2⟩
def spText : Sp := fun vs H Q _ => ∃ z : Str, vs = [.str z] ∧ okT (codesOf z) ∧ ∀ H', Same H H' → Q (.bl true) H'
def spLit (K : PySem.W.Frag) (n : Nat) : Sp := fun vs H Q _ => ∃ (v : V) (d : PyData) (m : Nat), vs = [v, .int (m : Int)] ∧ m ≤ n ∧ Dp K H v d ∧ Lt m d ∧ ∀ H', Same H H' → Q (.bl true) H'
def spItem (K : PySem.W.Frag) (n : Nat) : Sp := fun vs H Q _ => ∃ (v : V) (d : PyData) (m : Nat), vs = [v, .int (m : Int)] ∧ m ≤ n ∧ Dp K H v d ∧ Itm m d ∧ ∀ H', Same H H' → Q (.bl true) H'
def spItems (K : PySem.W.Frag) (n : Nat) : Sp := fun vs H Q _ => ∃ (a : Addr) (xs : List V) (ds : List PyData) (m : Nat), vs = [.ref a, .int (m : Int)] ∧ m ≤ n ∧ SqT K H a xs ∧ DpAll K H xs ds ∧ ds.length ≤ 1000 ∧ (∀ d ∈ ds, Itm m d) ∧ ∀ H', Same H H' → Q (.bl true) H'
section
variable {P : Program} {w : World} {K : PySem.W.Frag} {mg : Str → Option Value} {base : Heap}
theorem sc_literal_fits : FnScope ["tree", "room", "kind"] ["tree", "room"] (defScope s_literal_fits) := ⟨rfl, rfl, rfl, by decide +kernel, rfl, by decide +kernel, by decide +kernel⟩
theorem sc_items_fit : FnScope ["items", "room", "item"] ["items", "room"] (defScope s_items_fit) := ⟨rfl, rfl, rfl, by decide +kernel, rfl, by decide +kernel, by decide +kernel⟩
theorem sc_item_fits : FnScope ["item", "room"] ["item", "room"] (defScope s_item_fits) := ⟨rfl, rfl, rfl, by decide +kernel, rfl, by decide +kernel, by decide +kernel⟩
theorem ok_literal {f fK fS fX fI : Addr} {fd fdK fdS fdX fdI : FuncData} {n k : Nat} (F : FnP K "literal_fits" s_literal_fits f fd)
    (G_kind_of : FnOk P w K mg base CX0 (k + 1) fK fdK ["thing"] (spKind K)) (g_kind_of : mg "kind_of" = some (.ref fK)) (k_kind_of : PySem.W.keepIn K (.ref fK) = true) (b_kind_of : Binds K fdK ["thing"] [])
    (G_is_short_integer : FnOk P w K mg base CX0 (k + 1) fS fdS ["thing"] spShort) (g_is_short_integer : mg "is_short_integer" = some (.ref fS)) (k_is_short_integer : PySem.W.keepIn K (.ref fS) = true) (b_is_short_integer : Binds K fdS ["thing"] [])
    (G_is_text : FnOk P w K mg base CX0 (k + 1) fX fdX ["thing"] spText) (g_is_text : mg "is_text" = some (.ref fX)) (k_is_text : PySem.W.keepIn K (.ref fX) = true) (b_is_text : Binds K fdX ["thing"] [])
    (G_items_fit : FnOk P w K mg base CX0 (k + 1) fI fdI ["items", "room"] (spItems K n)) (g_items_fit : mg "items_fit" = some (.ref fI)) (k_items_fit : PySem.W.keepIn K (.ref fI) = true) (b_items_fit : Binds K fdI ["items", "room"] []) :
    FnOk P w K mg base CX0 (k + 2) f fd ["tree", "room"] (spLit K (n + 1)) := by
  refine F.ok sc_literal_fits (fun vs H Q E h => ?_) (fun cdv A outer s H vs Q E hr h => ⟨_, PSs.nox
    (pss_cons (ps_set (i := 2) sc_literal_fits.nd rfl (Or.inl rfl) (pe_call G_kind_of (hr.mono (Nat.le_refl _)) rfl g_kind_of k_kind_of b_kind_of .nil pass0 (pa_cons (pv 0) pa_nil)))
      (pss_cons (ps_if (pt_cmpR op_le (pv 1) pe_int (nomark _)) (pss_one (ps_ret pe_bl)) pss_nil)
      (pss_cons (ps_if (pt_cmpR op_eq (pv 2) pe_str (nomark _)) (pss_one (ps_ret (pe_call G_is_short_integer (hr.mono (Nat.le_refl _)) rfl g_is_short_integer k_is_short_integer b_is_short_integer .nil pass0 (pa_cons (pe_ix ix_tup (pv 0) pe_int (fun _ _ => rfl)) pa_nil)))) pss_nil)
      (pss_cons (ps_if (pt_cmpR op_in_seq (pv 2) (pe_tup (pa_cons pe_str (pa_cons pe_str pa_nil))) (by rfl)) (pss_one (ps_ret (pe_call G_is_text (hr.mono (Nat.le_refl _)) rfl g_is_text k_is_text b_is_text .nil pass0 (pa_cons (pe_ix ix_tup (pv 0) pe_int (fun _ _ => rfl)) pa_nil)))) pss_nil)
      (pss_one (ps_ret (pe_and (pe_cmpR op_eq (pv 2) pe_str (nomark _)) (pe_one (pe_call G_items_fit (hr.mono (Nat.le_refl _)) rfl g_items_fit k_items_fit b_items_fit .nil pass0 (pa_cons (pe_ix ix_tup (pv 0) pe_int (fun _ _ => rfl)) (pa_cons (pe_op op_sub (pv 1) pe_int) pa_nil))))))))))), ?_⟩)
  · obtain ⟨v, d, m, rfl, _⟩ := h
    rfl
  · obtain ⟨v, d, m, rfl, hm, hd, hl, q⟩ := h
    obtain ⟨a, z, u, rfl, hT, hz, hpos, key⟩ := lit_key hd hl
    dsimp only [tSeq, tNext]
    refine ⟨_, rfl, a, z, [u], rfl, hT, hz, fun H1 s1 => ?_⟩
    dsimp only [tSeq, tNext]
    refine if_ev (b := false) (EvT.to (b := decide ((m : Int) ≤ 0)) (fun H' Q hs k => ⟨_, rfl, _, _, rfl, rfl, _, rfl, k H' hs⟩) (decide_eq_false (by omega))) s1 (fun h => by cases h) fun _ H2 s2 => ?_
    dsimp only [tSeq, tNext]
    refine if_ev (b := decide (V.str z = V.str kI)) (evt_test (e_var rfl)) s2 (fun h H3 s3 => ?_) (fun h0 H3 s3 => ?_)
    · rcases key with ⟨hk, i, rfl, h1, h2⟩ | ⟨hk, _⟩ | ⟨hk, _⟩
      · exact ⟨_, rfl, _, _, _, _, rfl, rfl, SqT.mono s3 hT, atI_nat rfl, i, rfl, h1, h2, fun H4 s4 => q H4 (s3.trans s4)⟩
      · rcases hk with rfl | rfl <;> exact absurd h (by decide +kernel)
      · subst hk; exact absurd h (by decide +kernel)
    dsimp only [tSeq, tNext]
    refine if_ev (b := inV (.str z) [.str kS, .str kY]) (evt_test (e_inv2 rfl)) s3 (fun h H4 s4 => ?_) (fun h H4 s4 => ?_)
    · rcases key with ⟨hk, _⟩ | ⟨hk, t, rfl, ht⟩ | ⟨hk, _⟩
      · subst hk; exact absurd h (by decide +kernel)
      · exact ⟨_, rfl, _, _, _, _, rfl, rfl, SqT.mono s4 hT, atI_nat rfl, t, rfl, ht, fun H5 s5 => q H5 (s4.trans s5)⟩
      · subst hk; exact absurd h (by decide +kernel)
    rcases key with ⟨hk, _⟩ | ⟨hk, _⟩ | ⟨hk, b, xs, ds, rfl, h1, h2, h3, h4⟩
    · subst hk; exact absurd h0 (by decide +kernel)
    · rcases hk with rfl | rfl <;> exact absurd h (by decide +kernel)
    subst hk
    have em : V.int ((m : Int) - 1) = V.int ((m - 1 : Nat) : Int) := congrArg V.int (by omega)
    dsimp only [tSeq, tNext]
    refine ret_ev (b := (true && true)) (eve_and (EvE.to (e_var rfl) (by decide +kernel)) fun _ => fun H' Q hs k => ⟨_, rfl, _, _, _, _, rfl, rfl, SqT.mono hs hT, atI_nat rfl, _, rfl, _, _, rfl, rfl, b, xs, ds, m - 1, by rw [← em]; rfl, by omega, SqT.mono hs h1, dp_monoAll hs _ _ h2, h3, h4, fun H6 s6 => k H6 (hs.trans s6)⟩) s4 fun H5 s5 => q H5 s5
theorem ok_items {f fI : Addr} {fd fdI : FuncData} {n k : Nat} (F : FnP K "items_fit" s_items_fit f fd)
    (G_item_fits : FnOk P w K mg base CX0 (k + 1) fI fdI ["item", "room"] (spItem K n)) (g_item_fits : mg "item_fits" = some (.ref fI)) (k_item_fits : PySem.W.keepIn K (.ref fI) = true) (b_item_fits : Binds K fdI ["item", "room"] []) (g_isinstance : mg "isinstance" = none) (g_tuple : mg "tuple" = none) (g_all : mg "all" = none) :
    FnOk P w K mg base CX0 (k + 2) f fd ["items", "room"] (spItems K n) := by
  refine F.ok sc_items_fit (fun vs H Q E h => ?_) (fun cdv A outer s H vs Q E hr h => ⟨_, PSs.nox
    (pss_cons (ps_if (pt_not (pt_val (pe_callB call_isi (by rfl) g_isinstance (by decide +kernel) (pa_cons (pv 0) (pa_cons (pe_bltn (v := .ty "tuple") (u := .type "tuple") (by rfl) g_tuple (by decide +kernel) rfl) pa_nil))))) (pss_one (ps_ret pe_bl)) pss_nil)
      (pss_one (ps_ret (pe_callB (cr_all rfl) (by rfl) g_all (by decide +kernel) (pa_cons (pe_lc (own := [("item", 2)]) rfl sc_items_fit.nd (pi_tup (pv 0)) (blkOk_by (own := [("item", 2)]) (N := ["items", "room", "item"]) (sc := defScope s_items_fit) (by decide +kernel)) (fun _ _ _ _ _ => by (exact (pg_name (i := 2) sc_items_fit.nd rfl (Or.inl rfl)))) (fun _ _ _ _ _ => by exact pts_nil) (fun _ _ _ _ _ => by exact (pe_call G_item_fits (hr.mono (Nat.le_refl _)) rfl g_item_fits k_item_fits b_item_fits .nil pass0 (pa_cons (pv 2) (pa_cons (pv 1) pa_nil))))) pa_nil))))), ?_⟩)
  · obtain ⟨a, xs, ds, m, rfl, _⟩ := h
    rfl
  · obtain ⟨a, xs, ds, m, rfl, hm, hT, hA, hn, hi, q⟩ := h
    dsimp only [tSeq, tNext]
    refine if_ev (b := !true) (evt_not (evt_b (e_isi rfl (fun _ h => ty_tuple (SqT.mono h hT)) (kit_ty (by decide +kernel))))) (Same.refl H) (fun h => by cases h) (fun _ H1 s1 => ?_)
    dsimp only [tSeq, tNext]
    refine ⟨_, rfl, a, rfl, ⟨_, SqT.mono s1 hT⟩, fun D nD => ?_⟩
    have hl : xs.length ≤ 1000 := by rw [dpAll_length hA]; exact hn
    refine lc_true nD (SqT.mono s1 hT) (by omega) (fun i x H2 hx s2 Kc R hk => ?_) (fun H2 s2 e => ⟨D, _, rfl, SqL.of e, ?_⟩)
    · obtain ⟨d, h1, h2⟩ := dpAll_at hA hx
      refine ⟨rfl, tyes ?_⟩
      exact ⟨_, rfl, _, rfl, x, d, m, rfl, hm, dp_mono (s1.trans s2) _ _ h2, hi d h1, hk⟩
    · rw [all_true]
      exact q H2 (s1.trans s2)
theorem ok_item {f fK fL : Addr} {fd fdK fdL : FuncData} {n k : Nat} (F : FnP K "item_fits" s_item_fits f fd)
    (G_kind_of : FnOk P w K mg base CX0 (k + 1) fK fdK ["thing"] (spKind K)) (g_kind_of : mg "kind_of" = some (.ref fK)) (k_kind_of : PySem.W.keepIn K (.ref fK) = true) (b_kind_of : Binds K fdK ["thing"] [])
    (G_literal_fits : FnOk P w K mg base CX0 (k + 1) fL fdL ["tree", "room"] (spLit K n)) (g_literal_fits : mg "literal_fits" = some (.ref fL)) (k_literal_fits : PySem.W.keepIn K (.ref fL) = true) (b_literal_fits : Binds K fdL ["tree", "room"] []) (g_SP : TupAt K mg "SPOKEN_WORDS" spoken) :
    FnOk P w K mg base CX0 (k + 2) f fd ["item", "room"] (spItem K n) := by
  obtain ⟨ap, g_SPOKEN_WORDS, hP⟩ := g_SP
  have r_SPOKEN_WORDS : RelV (.ref ap) (.ref ap) := rfl
  refine F.ok sc_item_fits (fun vs H Q E h => ?_) (fun cdv A outer s H vs Q E hr h => ⟨_, PSs.nox
    (pss_cons (ps_if (pt_cmpR op_eq (pe_call G_kind_of (hr.mono (Nat.le_refl _)) rfl g_kind_of k_kind_of b_kind_of .nil pass0 (pa_cons (pv 0) pa_nil)) pe_str (nomark _)) (pss_one (ps_ret (pe_and (pe_cmpR op_gt (pv 1) pe_int (nomark _)) (pe_one (pe_cmpR op_in_seq (pe_ix ix_tup (pv 0) pe_int (fun _ _ => rfl)) (pe_glob rfl g_SPOKEN_WORDS r_SPOKEN_WORDS) (by rfl)))))) pss_nil)
      (pss_one (ps_ret (pe_call G_literal_fits (hr.mono (Nat.le_refl _)) rfl g_literal_fits k_literal_fits b_literal_fits .nil pass0 (pa_cons (pv 0) (pa_cons (pv 1) pa_nil)))))), ?_⟩)
  · obtain ⟨v, d, m, rfl, _⟩ := h
    rfl
  · obtain ⟨v, d, m, rfl, hm, hd, hi, q⟩ := h
    dsimp only [tSeq, tNext]
    cases hi with
    | @word m' z hz =>
      obtain ⟨a, u, rfl, hT, hu⟩ := dp_two hd
      obtain rfl := dp_str hu
      refine if_ev (b := true) (EvT.to (b := decide (V.str kV = V.str kV)) (evt_test fun H' Q hs k => ⟨_, rfl, a, kV, [.str z], rfl, SqT.mono hs hT, (by decide +kernel : (kV, (2 : Int)) ∈ shapes), fun H2 s2 => ⟨rfl, k H2 (hs.trans s2)⟩⟩) (decide_eq_true rfl)) (Same.refl H) (fun _ H1 s1 => ?_) (fun h => by cases h)
      refine ret_ev (b := (true && true)) (eve_and (EvE.to (b := decide (((m' + 1 : Nat) : Int) > 0)) (fun H' Q hs k => ⟨_, rfl, _, _, rfl, rfl, k H' hs⟩) (decide_eq_true (by omega))) fun _ => fun H' Q hs k => ⟨_, rfl, _, _, _, _, rfl, rfl, SqT.mono hs hT, atI_nat rfl, ap, _, rfl, .inr (hP H'), rfl, flat_strs _, ?_⟩) s1 fun H2 s2 => q H2 s2
      show Q (.bl (inV (.str z) (spoken.map fun x => V.str (My.strOf x)))) H'
      rw [inV_list, List.contains_iff_mem.mpr hz]
      exact k H' hs
    | lit hl =>
      obtain ⟨a, z, u, rfl, hT, hz, hpos, key⟩ := lit_key hd hl
      have hv : decide (V.str z = V.str kV) = false := by
        rcases key with ⟨hk, _⟩ | ⟨hk, _⟩ | ⟨hk, _⟩
        · subst hk; decide +kernel
        · rcases hk with rfl | rfl <;> decide +kernel
        · subst hk; decide +kernel
      refine if_ev (b := false) (EvT.to (evt_test fun H' Q hs k => ⟨_, rfl, a, z, [u], rfl, SqT.mono hs hT, hz, fun H2 s2 => ⟨rfl, k H2 (hs.trans s2)⟩⟩) hv) (Same.refl H) (fun h => by cases h) (fun _ H1 s1 => ?_)
      exact ⟨_, rfl, _, rfl, .ref a, d, m, rfl, hm, dp_mono s1 _ _ hd, hl, fun H2 s2 => q H2 (s1.trans s2)⟩
end
end My8

end
section
set_option Elab.async false
set_option linter.all false
set_option maxRecDepth 100000
set_option maxHeartbeats 2000000
namespace My8
open PySem PySem.Spec PyProof.Rows L2 My
open TrM TL StrLaws
abbrev s_is_text : Stmt := top 13
section
variable {X : Cx}
theorem pst_set {i : Nat} {x : Str} {e : Expr} {te : TE} {pos' pos : Pos} (hN : X.N.Nodup) (hi : X.N[i]? = some x) (hx : Loc X.env.scope x) (he : PET X e te) (hs : swapsWith e (some (.Name x pos')) pos.line X.env = pure false := by rfl) (hf : X.fn x = true ∨ X.env.scope.names.lookup x = some .local := by first | exact .inl rfl | exact .inr rfl | assumption) :
    PST X (.Assign [.Name x pos'] e pos) (tAsg te (gName i)) := by
  intro pins s σ H D h0 I h
  refine wpAny_Assign_Name (thn (he pins s σ H _ h0 I h) fun v s1 ⟨y, H1, I1, r1, q1⟩ => ?_) hs
  exact store_ok I1 hN hi hx r1 (fun s2 I2 => ⟨_, H1, I2, q1⟩) hf
end
def okSign (c : Nat) : Bool := c == 10 || (32 ≤ c && c ≤ 126)
theorem repl_drop (l : List Nat) : replL [10] [] l = l.filter (fun c => !decide (c = 10)) := by
  induction l with
  | nil => exact replL_nil
  | cons c r ih =>
    by_cases h : c = 10
    · subst h
      rw [replL_hit (by decide) (by rfl)]
      show [] ++ replL [10] [] r = _
      rw [ih]
      rfl
    · rw [replL_miss (by intro y; injection y with y _; exact h y), ih, List.filter_cons_of_pos (by simpa using h)]
theorem sign_tab : ∀ c < 128, Unicode.isPrintable c = (decide (32 ≤ c) && decide (c ≤ 126)) := by decide +kernel
theorem text_eq (l : List Nat) : (((l.filter (fun c => !decide (c = 10))).all fun c => decide (c < 128)) && (l.filter (fun c => !decide (c = 10))).all Unicode.isPrintable) = l.all okSign := by
  induction l with
  | nil => rfl
  | cons c r ih =>
    by_cases h : c = 10
    · subst h
      rw [List.filter_cons_of_neg (by decide), ih]
      rfl
    · rw [List.filter_cons_of_pos (by simpa using h), List.all_cons, List.all_cons, List.all_cons, ← ih]
      by_cases c1 : c < 128
      · rw [sign_tab c c1]
        unfold okSign
        rw [show (c == 10) = false by simpa using h, Bool.false_or, decide_eq_true c1, Bool.true_and]
        cases (decide (32 ≤ c) && decide (c ≤ 126)) <;> simp
      · rw [decide_eq_false c1]
        have : okSign c = false := by
          unfold okSign
          rw [show (c == 10) = false by simpa using h, decide_eq_false (show ¬ c ≤ 126 by omega)]
          simp
        rw [this]
        simp
theorem txt_all (z : Str) (p : Nat → Bool) : z.cps.all p = (codesOf z).all p := by
  unfold codesOf
  rw [Array.all_toList]
def spIsText (K : PySem.W.Frag) : Sp := fun vs H Q _ => ∃ v, vs = [v] ∧ ((∃ z, v = .str z ∧ z.length ≤ 16777216 ∧ Q (.bl ((codesOf z).all okSign)) H) ∨ ((∃ t, TyX K H v t ∧ PySem.W.kitOne K t (.type "str") = some false) ∧ Q (.bl false) H))
section
variable {P : Program} {w : World} {K : PySem.W.Frag} {mg : Str → Option Value} {base : Heap} 
theorem sc_is_text : FnScope ["thing", "bare"] ["thing"] (defScope s_is_text) := ⟨rfl, rfl, rfl, by decide +kernel, rfl, by decide +kernel, by decide +kernel⟩
theorem ok_is_text {f : Addr} {fd : FuncData} (F : FnP K "is_text" s_is_text f fd) (g_isinstance : mg "isinstance" = none) (g_str : mg "str" = none) : FnOk P w K mg base CX0 2 f fd ["thing"] (spIsText K) := by
  obtain ⟨oc, od, dV, kV, doc, pm, an, cdv, ct, osl, rfl, lk, hcd, _, _⟩ := F.ex
  refine fn_ofT lk hcd sc_is_text (by decide +kernel) (by decide) (fun vs H Q E h => ?_) fun A outer s H vs Q E hr h => ⟨_, psst_cons (PST.of (ps_if (pt_not (pt_val (pe_callB call_isi (by rfl) g_isinstance (by decide +kernel) (pa_cons (pv 0) (pa_cons (pe_bltn (v := .ty "str") (u := .type "str") (by rfl) g_str (by decide +kernel) rfl) pa_nil))))) (pss_one (ps_ret pe_bl)) pss_nil))
      (psst_cons (pst_set (i := 1) sc_is_text.nd rfl (Or.inl rfl) (CwR.pet_replC (pv 0)))
      (PSsT.of (pss_one (ps_ret (pe_and (pe_bm0 PySem.F.plainAttrs_str PySem.F.slot_str_isascii PySem.F.type_str_isascii mt_isascii (pv 1)) (pe_one (pe_bm0 PySem.F.plainAttrs_str PySem.F.slot_str_isprintable PySem.F.type_str_isprintable mt_isprintable (pv 1)))))))), ?_⟩
  · obtain ⟨v, rfl, _⟩ := h
    rfl
  · obtain ⟨v, rfl, h⟩ := h
    rcases h with ⟨z, rfl, hz, q⟩ | ⟨⟨t, ht, hk⟩, q⟩
    · refine ⟨_, rfl, _, _, _, _, true, rfl, ClsV.ty _, .base (.str z), kit_ty (by decide +kernel), ?_⟩
      refine ⟨_, rfl, ite2 (fun y => by cases y) fun _ => ?_⟩
      have eb : codesOf (Txt.replace z (Str.ofString "\n") (Str.ofString "")) = (codesOf z).filter (fun c => !decide (c = 10)) := by
        have k1 : (Str.ofString "\n") = strOf [10] := by decide +kernel
        have k2 : (Str.ofString "") = strOf [] := by decide +kernel
        refine (replace_list (by decide +kernel)).trans ?_
        rw [k1, k2]
        show replL (codesOf (strOf [10])) (codesOf (strOf [])) (codesOf z) = _
        rw [codes_strOf, codes_strOf, repl_drop]
      have e1 : Txt.isascii (Txt.replace z (Str.ofString "\n") (Str.ofString "")) = ((codesOf z).filter (fun c => !decide (c = 10))).all fun c => decide (c < 128) := by
        unfold Txt.isascii
        rw [txt_all, eb]
      have e2 : Txt.isprintable (Txt.replace z (Str.ofString "\n") (Str.ofString "")) = ((codesOf z).filter (fun c => !decide (c = 10))).all Unicode.isPrintable := by
        unfold Txt.isprintable
        rw [txt_all, eb]
      have te := text_eq (codesOf z)
      rw [← e1, ← e2] at te
      rw [← te] at q
      refine ⟨_, rfl, z, rfl, ?_, ?_⟩
      · have : (Str.ofString "").length = 0 := by decide +kernel
        rw [this]
        omega
      refine ⟨_, rfl, rfl, _, rfl, rfl, trivial, _, rfl, ?_⟩
      refine ite2 (fun y => ?_) (fun y => ?_)
      · have y : Txt.isascii (Txt.replace z (Str.ofString "\n") (Str.ofString "")) = true := y
        rw [y, Bool.true_and] at q
        exact ⟨_, rfl, rfl, _, rfl, rfl, trivial, q⟩
      · have y : Txt.isascii (Txt.replace z (Str.ofString "\n") (Str.ofString "")) = false := Bool.eq_false_iff.mpr y
        rw [y, Bool.false_and] at q
        exact q
    · refine ⟨_, rfl, _, _, t, _, false, rfl, ClsV.ty _, ht, hk, ?_⟩
      refine ⟨_, rfl, ite2 (fun _ => ?_) fun y => absurd rfl y⟩
      exact q
end

section
variable {P : Program} {w : World} {K : PySem.W.Frag} {mg : Str → Option Value} {base : Heap}
theorem ok_text_any (K : PySem.W.Frag) : ∀ vs H Q E, spText vs H Q E → spIsText K vs H Q E := fun vs H Q E h => by
  obtain ⟨z, rfl, ⟨h1, h2⟩, q⟩ := h
  refine ⟨.str z, rfl, .inl ⟨z, rfl, Nat.le_trans (show z.length ≤ 2000 from h1) (by decide), ?_⟩⟩
  have e : (codesOf z).all okSign = true := List.all_eq_true.mpr fun c hc => by
    unfold okSign
    rcases h2 c hc with h | ⟨h, h'⟩
    · subst h; rfl
    · simp [h, h']
  rw [e]
  exact q H (Same.refl H)
/-- the defs of literals, at their addresses -/
structure LitDefs (K : PySem.W.Frag) (w : World) (mg : Str → Option Value) (fK fS fX fL fI fM : Addr) (fdK fdS fdX fdL fdI fdM : FuncData) : Prop where
  kd : FnP K "kind_of" s_kind_of fK fdK
  sh : FnP K "is_short_integer" s_is_short_integer fS fdS
  tx : FnP K "is_text" s_is_text fX fdX
  lt : FnP K "literal_fits" s_literal_fits fL fdL
  it : FnP K "item_fits" s_item_fits fI fdI
  its : FnP K "items_fit" s_items_fit fM fdM
  g_kd : mg "kind_of" = some (.ref fK)
  g_sh : mg "is_short_integer" = some (.ref fS)
  g_tx : mg "is_text" = some (.ref fX)
  g_lt : mg "literal_fits" = some (.ref fL)
  g_it : mg "item_fits" = some (.ref fI)
  g_its : mg "items_fit" = some (.ref fM)
  g_isinstance : mg "isinstance" = none
  g_tuple : mg "tuple" = none
  g_str : mg "str" = none
  g_int : mg "int" = none
  g_bool : mg "bool" = none
  g_abs : mg "abs" = none
  g_len : mg "len" = none
  g_all : mg "all" = none
  g_SH : ∃ d, mg "SHAPES" = some (.ref d) ∧ ShapesAt K w d
  g_SP : TupAt K mg "SPOKEN_WORDS" spoken
theorem binds1 {st : Stmt} {x y : Str} {f : Addr} {fd : FuncData} (F : FnP K x st f fd) : True := trivial
end
end My8

end
section
set_option Elab.async false
set_option linter.all false
set_option maxRecDepth 100000
set_option maxHeartbeats 2000000
namespace My8
open PySem PySem.Spec PyProof.Rows L2 My
open TrM TL
abbrev s_can_be_set : Stmt := top 38
section
variable {P : Program} {w : World} {K : PySem.W.Frag} {mg : Str → Option Value} {base : Heap}
variable {fK fS fX fL fI fM : Addr} {fdK fdS fdX fdL fdI fdM : FuncData}
theorem lit_none {f : Addr} {fd : FuncData} {k : Nat} : FnOk P w K mg base CX0 k f fd ["tree", "room"] (spLit K 0) := by
  have no : ∀ vs H Q E, ¬ spLit K 0 vs H Q E := fun vs H Q E h => by
    obtain ⟨v, d, m, rfl, hm, hd, hl, _⟩ := h
    have : m = 0 := by omega
    subst this
    cases hl
  exact ⟨fun vs H Q E h => absurd h (no vs H Q E), fun A outer s H args us vs Q E _ _ _ _ h => absurd h (no vs H Q E)⟩
theorem lits (D : LitDefs K w mg fK fS fX fL fI fM fdK fdS fdX fdL fdI fdM) : ∀ n : Nat, FnOk P w K mg base CX0 (3 * n + 3) fL fdL ["tree", "room"] (spLit K n) ∧ FnOk P w K mg base CX0 (3 * n + 4) fI fdI ["item", "room"] (spItem K n) ∧ FnOk P w K mg base CX0 (3 * n + 5) fM fdM ["items", "room"] (spItems K n) := by
  obtain ⟨d, g_SH, hSH⟩ := D.g_SH
  have Gk : FnOk P w K mg base CX0 1 fK fdK ["thing"] (spKind K) := ok_kind_of D.kd D.g_isinstance D.g_tuple D.g_str D.g_len g_SH hSH
  have Gs : FnOk P w K mg base CX0 1 fS fdS ["thing"] spShort := ok_short D.sh D.g_isinstance D.g_int D.g_bool D.g_abs
  have Gx : FnOk P w K mg base CX0 2 fX fdX ["thing"] spText := (ok_is_text D.tx D.g_isinstance D.g_str).imp (ok_text_any K)
  have bk : Binds K fdK ["thing"] [] := D.kd.bindsN fun _ _ _ _ _ _ us hl => match us, hl with | [_], _ => rfl
  have bs : Binds K fdS ["thing"] [] := D.sh.bindsN fun _ _ _ _ _ _ us hl => match us, hl with | [_], _ => rfl
  have bx : Binds K fdX ["thing"] [] := D.tx.bindsN fun _ _ _ _ _ _ us hl => match us, hl with | [_], _ => rfl
  have bl : Binds K fdL ["tree", "room"] [] := D.lt.bindsN fun _ _ _ _ _ _ us hl => match us, hl with | [_, _], _ => rfl
  have bi : Binds K fdI ["item", "room"] [] := D.it.bindsN fun _ _ _ _ _ _ us hl => match us, hl with | [_, _], _ => rfl
  have bm : Binds K fdM ["items", "room"] [] := D.its.bindsN fun _ _ _ _ _ _ us hl => match us, hl with | [_, _], _ => rfl
  have step : ∀ n, FnOk P w K mg base CX0 (3 * n + 3) fL fdL ["tree", "room"] (spLit K n) → FnOk P w K mg base CX0 (3 * n + 3) fL fdL ["tree", "room"] (spLit K n) ∧ FnOk P w K mg base CX0 (3 * n + 4) fI fdI ["item", "room"] (spItem K n) ∧ FnOk P w K mg base CX0 (3 * n + 5) fM fdM ["items", "room"] (spItems K n) := fun n h => by
    have hi : FnOk P w K mg base CX0 (3 * n + 4) fI fdI ["item", "room"] (spItem K n) := ok_item (k := 3 * n + 2) D.it (Gk.mono (by omega)) D.g_kd D.kd.kp bk h D.g_lt D.lt.kp bl D.g_SP
    exact ⟨h, hi, ok_items (k := 3 * n + 3) D.its hi D.g_it D.it.kp bi D.g_isinstance D.g_tuple D.g_all⟩
  intro n
  induction n with
  | zero => exact step 0 lit_none
  | succ n ih => exact step (n + 1) (ok_literal (k := 3 * n + 4) D.lt (Gk.mono (by omega)) D.g_kd D.kd.kp bk (Gs.mono (by omega)) D.g_sh D.sh.kp bs (Gx.mono (by omega)) D.g_tx D.tx.kp bx ih.2.2 D.g_its D.its.kp bm)
/-! ### names that are known: a dict -/
def kvsOf (ks : List (Str × Bool)) : List (Key × V) := ks.map fun p => (.inr p.1, V.bl p.2)
theorem val_kvs (z : Str) : ∀ ks : List (Str × Bool), valV (kvsOf ks) (.inr z) = (ks.lookup z).map V.bl
  | [] => rfl
  | (y, b) :: ks => by
    by_cases h : y = z
    · subst h
      rw [kvsOf, List.map_cons, valV_pos rfl, List.lookup_cons, beq_self_eq_true]
      rfl
    · have h1 : (z == y) = false := by simpa using fun e => h e.symm
      rw [kvsOf, List.map_cons, valV_neg (fun e => h (by injection e)), List.lookup_cons, h1]
      exact val_kvs z ks
def spCan : Sp := fun vs H Q _ => ∃ (z : Str) (a : Addr) (ks : List (Str × Bool)), vs = [.str z, .ref a] ∧ H a = some (.dK (kvsOf ks)) ∧ localB (codesOf z) = true ∧ ks.lookup z ≠ some true ∧ ∀ H', Same H H' → Q (.bl true) H'
theorem sc_can_be_set : FnScope ["name", "known"] ["name", "known"] (defScope s_can_be_set) := ⟨rfl, rfl, rfl, by decide +kernel, rfl, by decide +kernel, by decide +kernel⟩
theorem ok_can {f fW : Addr} {fd fdW : FuncData} (F : FnP K "can_be_set" s_can_be_set f fd) (G_is_local_word : FnOk P w K mg base CX0 2 fW fdW ["thing"] spIsLocal) (g_is_local_word : mg "is_local_word" = some (.ref fW)) (k_is_local_word : PySem.W.keepIn K (.ref fW) = true) (b_is_local_word : Binds K fdW ["thing"] []) :
    FnOk P w K mg base CX0 3 f fd ["name", "known"] spCan := by
  refine F.ok sc_can_be_set (fun vs H Q E h => ?_) (fun cdv A outer s H vs Q E hr h => ⟨_, PSs.nox
    (pss_one (ps_ret (pe_and (pe_call G_is_local_word (hr.mono (by decide)) rfl g_is_local_word k_is_local_word b_is_local_word .nil pass0 (pa_cons (pv 0) pa_nil)) (pe_one (pe_not (pe_dget2 (Nat.lt_of_le_of_lt (Nat.add_le_add_left (by decide : 1 ≤ 64) _) hr.units) (pv 1) (pv 0) pe_bl ⟨rfl, rfl, rfl, rfl⟩)))))), ?_⟩)
  · obtain ⟨z, a, ks, rfl, _⟩ := h
    rfl
  · obtain ⟨z, a, ks, rfl, hK, hz, hn, q⟩ := h
    have hN : Tok.IsName (codesOf z) := (nameB_iff _).mp (by unfold localB at hz; rw [Bool.and_eq_true] at hz; exact hz.1)
    have hl : z.length ≤ 100000 := Nat.le_trans (show z.length ≤ 40 from hN.le) (by decide)
    refine ret_ev (b := (true && !false)) (eve_and (fun H' Q hs k => ⟨_, rfl, z, rfl, name_asc hN, hl, fun H2 s2 => by rw [hz]; exact k H2 (hs.trans s2)⟩) fun _ => eve_not (fun H' Q hs k => ⟨_, rfl, a, rfl, .inl ⟨_, .inl (hs _ _ hK)⟩, _, rfl, _, DGet.k (k := .inr z) (hs _ _ hK), ?_⟩)) (Same.refl H) fun H2 s2 => q H2 s2
    rw [val_kvs]
    cases e : ks.lookup z with
    | none => exact k H' hs
    | some b =>
      cases b with
      | true => exact absurd e hn
      | false => exact k H' hs
end
end My8

end
section
set_option Elab.async false
set_option linter.all false
set_option maxRecDepth 100000
set_option maxHeartbeats 2000000
namespace My8
open PySem PySem.Spec PyProof.Rows L2 My
open TrM TL
abbrev s_message_fits : Stmt := top 39
abbrev s_messages_fit : Stmt := top 40
abbrev s_last_fits : Stmt := top 32
/-! ### trees, where names are known -/
/-- names that come to those that are known -/
def decl (ks : List (Str × Bool)) (ps vs : List Str) : List (Str × Bool) := (ks ++ ps.map fun x => (x, true)) ++ vs.map fun x => (x, false)
mutual
inductive Tf : List (Str × Bool) → Nat → PyData → Prop
  | lit {ks : List (Str × Bool)} {n : Nat} {d : PyData} : Lt n d → Tf ks n d
  | var {ks : List (Str × Bool)} {n : Nat} {z : Str} : Tok.IsName (codesOf z) → z ≠ Str.ofString "super" → Tf ks (n + 1) (.tuple [.str kV, .str z])
  | set {ks : List (Str × Bool)} {n : Nat} {z : Str} {t : PyData} : localB (codesOf z) = true → ks.lookup z ≠ some true → Tf ks n t → Tf ks (n + 1) (.tuple [.str kSet, .str z, t])
  | send {ks : List (Str × Bool)} {n : Nat} {t s ds : PyData} : Tf ks n t → Mf ks n (.tuple [s, ds]) → Tf ks (n + 1) (.tuple [.str kSend, t, s, ds])
  | super {ks : List (Str × Bool)} {n : Nat} {s ds : PyData} : Mf ks n (.tuple [s, ds]) → Tf ks (n + 1) (.tuple [.str kSuper, s, ds])
  | casc {ks : List (Str × Bool)} {n : Nat} {t : PyData} {ms : List PyData} : Tf ks n t → 2 ≤ ms.length → ms.length ≤ 1000 → (∀ m ∈ ms, Mf ks n m) → Tf ks (n + 1) (.tuple [.str kCasc, t, .tuple ms])
  | block {ks : List (Str × Bool)} {n : Nat} {ps vs : List Str} {sts : List PyData} : Bf ks n ps vs sts → Tf ks (n + 1) (.tuple [.str kBlock, .tuple (ps.map .str), .tuple (vs.map .str), .tuple sts])
inductive Mf : List (Str × Bool) → Nat → PyData → Prop
  | mk {ks : List (Str × Bool)} {n : Nat} {s : Str} {ds : List PyData} : Sel (codesOf s) ds.length → ds.length ≤ 1000 → (∀ d ∈ ds, Tf ks n d) → Mf ks n (.tuple [.str s, .tuple ds])
inductive Bf : List (Str × Bool) → Nat → List Str → List Str → List PyData → Prop
  | mk {ks : List (Str × Bool)} {n : Nat} {ps vs : List Str} {sts : List PyData} : ps.length ≤ 20 → vs.length ≤ 1000 → sts.length ≤ 1000 → (∀ x ∈ ps ++ vs, localB (codesOf x) = true) → (ks.map (·.1) ++ (ps ++ vs)).Nodup →
      (∀ d ∈ sts.dropLast, Tf (decl ks ps vs) n d) → (∀ d, sts.getLast? = some d → Lf (decl ks ps vs) n d) → Bf ks n ps vs sts
inductive Lf : List (Str × Bool) → Nat → PyData → Prop
  | ex {ks : List (Str × Bool)} {n : Nat} {d : PyData} : Tf ks n d → Lf ks n d
  | ret {ks : List (Str × Bool)} {n : Nat} {d : PyData} : Tf ks n d → Lf ks (n + 1) (.tuple [.str kRet, d])
end
theorem sel_len {l : List Nat} {n : Nat} (h : Sel l n) : l.length ≤ 100 := by
  cases h with
  | name h => exact Nat.le_trans h.le (by decide)
  | op h =>
    simp only [Tok.ops, List.mem_cons, List.not_mem_nil, or_false] at h
    rcases h with h | h | h | h | h | h | h | h | h | h | h | h | h | h <;> subst h <;> decide
  | keys _ _ h => exact h
theorem dp_two' {K : PySem.W.Frag} {H : Hp} {v : V} {d e : PyData} (h : Dp K H v (.tuple [d, e])) : ∃ a u u', v = .ref a ∧ SqT K H a [u, u'] ∧ Dp K H u d ∧ Dp K H u' e := by
  obtain ⟨a, xs, rfl, hT, hA⟩ := dp_tup h
  cases hA with
  | cons h1 h2 =>
    cases h2 with
    | cons h3 h4 =>
      cases h4
      exact ⟨a, _, _, rfl, hT, h1, h3⟩
def spTree (K : PySem.W.Frag) (n : Nat) : Sp := fun vs H Q _ => ∃ (v : V) (a : Addr) (ks : List (Str × Bool)) (d : PyData) (m : Nat), vs = [v, .ref a, .int (m : Int)] ∧ m ≤ n ∧ Dp K H v d ∧ H a = some (.dK (kvsOf ks)) ∧ ks.length + 1020 * m ≤ 100000 ∧ Tf ks m d ∧ ∀ H', Same H H' → Q (.bl true) H'
def spMsg (K : PySem.W.Frag) (n : Nat) : Sp := fun vs H Q _ => ∃ (v : V) (a : Addr) (ks : List (Str × Bool)) (d : PyData) (m : Nat), vs = [v, .ref a, .int (m : Int)] ∧ m ≤ n ∧ Dp K H v d ∧ H a = some (.dK (kvsOf ks)) ∧ ks.length + 1020 * m ≤ 100000 ∧ Mf ks m d ∧ ∀ H', Same H H' → Q (.bl true) H'
def spMsgs (K : PySem.W.Frag) (n : Nat) : Sp := fun vs H Q _ => ∃ (v : V) (a : Addr) (ks : List (Str × Bool)) (ds : List PyData) (m : Nat), vs = [v, .ref a, .int (m : Int)] ∧ m ≤ n ∧ Dp K H v (.tuple ds) ∧ H a = some (.dK (kvsOf ks)) ∧ ks.length + 1020 * m ≤ 100000 ∧ 2 ≤ ds.length ∧ ds.length ≤ 1000 ∧ (∀ d ∈ ds, Mf ks m d) ∧ ∀ H', Same H H' → Q (.bl true) H'
section
variable {P : Program} {w : World} {K : PySem.W.Frag} {mg : Str → Option Value} {base : Heap}
theorem sc_message_fits : FnScope ["message", "known", "room", "selector", "arguments", "tree"] ["message", "known", "room"] (defScope s_message_fits) := ⟨rfl, rfl, rfl, by decide +kernel, rfl, by decide +kernel, by decide +kernel⟩
theorem ok_message {f fA fT : Addr} {fd fdA fdT : FuncData} {n k : Nat} (F : FnP K "message_fits" s_message_fits f fd)
    (G_arity_of : FnOk P w K mg base CX0 (k + 1) fA fdA ["thing"] spArity) (g_arity_of : mg "arity_of" = some (.ref fA)) (k_arity_of : PySem.W.keepIn K (.ref fA) = true) (b_arity_of : Binds K fdA ["thing"] [])
    (G_tree_fits : FnOk P w K mg base CX0 (k + 1) fT fdT ["tree", "known", "room"] (spTree K n)) (g_tree_fits : mg "tree_fits" = some (.ref fT)) (k_tree_fits : PySem.W.keepIn K (.ref fT) = true) (b_tree_fits : Binds K fdT ["tree", "known", "room"] [])
    (g_isinstance : mg "isinstance" = none) (g_tuple : mg "tuple" = none) (g_all : mg "all" = none) (g_len : mg "len" = none) :
    FnOk P w K mg base CX0 (k + 2) f fd ["message", "known", "room"] (spMsg K n) := by
  refine F.ok sc_message_fits (fun vs H Q E h => ?_) (fun cdv A outer s H vs Q E hr h => ⟨_, PSs.nox
    (pss_cons (ps_if (PW.pt (pw_or (pt_not (pt_val (pe_callB call_isi (by rfl) g_isinstance (by decide +kernel) (pa_cons (pv 0) (pa_cons (pe_bltn (v := .ty "tuple") (u := .type "tuple") (by rfl) g_tuple (by decide +kernel) rfl) pa_nil))))) (pw_or1 (pt_cmpR op_ne (pe_callB call_len_seq (by rfl) g_len PySem.boot_len (pa_cons (pv 0) pa_nil)) pe_int (nomark _))))) (pss_one (ps_ret pe_bl)) pss_nil)
      (pss_cons (ps_asg (pv 0) (pg_tup rfl (pgs_cons (pg_name (i := 3) sc_message_fits.nd rfl (Or.inl rfl)) (pgs_cons (pg_name (i := 4) sc_message_fits.nd rfl (Or.inl rfl)) pgs_nil))))
      (pss_cons (ps_if (PW.pt (pw_or (pt_not (pt_val (pe_callB call_isi (by rfl) g_isinstance (by decide +kernel) (pa_cons (pv 4) (pa_cons (pe_bltn (v := .ty "tuple") (u := .type "tuple") (by rfl) g_tuple (by decide +kernel) rfl) pa_nil))))) (pw_or1 (pt_cmpR op_ne (pe_call G_arity_of (hr.mono (Nat.le_refl _)) rfl g_arity_of k_arity_of b_arity_of .nil pass0 (pa_cons (pv 3) pa_nil)) (pe_callB call_len_seq (by rfl) g_len PySem.boot_len (pa_cons (pv 4) pa_nil)) (nomark _))))) (pss_one (ps_ret pe_bl)) pss_nil)
      (pss_one (ps_ret (pe_callB (cr_all rfl) (by rfl) g_all (by decide +kernel) (pa_cons (pe_lc (own := [("tree", 5)]) rfl sc_message_fits.nd (pi_tup (pv 4)) (blkOk_by (own := [("tree", 5)]) (N := ["message", "known", "room", "selector", "arguments", "tree"]) (sc := defScope s_message_fits) (by decide +kernel)) (fun _ _ _ _ _ => by (exact (pg_name (i := 5) sc_message_fits.nd rfl (Or.inl rfl)))) (fun _ _ _ _ _ => by exact pts_nil) (fun _ _ _ _ _ => by exact (pe_call G_tree_fits (hr.mono (Nat.le_refl _)) rfl g_tree_fits k_tree_fits b_tree_fits .nil pass0 (pa_cons (pv 5) (pa_cons (pv 1) (pa_cons (pv 2) pa_nil)))))) pa_nil))))))), ?_⟩)
  · obtain ⟨v, a, ks, d, m, rfl, _⟩ := h
    rfl
  · obtain ⟨v, a, ks, d, m, rfl, hm, hd, hK, hk, hf, q⟩ := h
    cases hf with
    | @mk _ _ z ds hs hn hi =>
      obtain ⟨p, u, u', rfl, hT, h1, h2⟩ := dp_two' hd
      obtain rfl := dp_str h1
      obtain ⟨b, xs, rfl, hT2, hA⟩ := dp_tup h2
      have hlx := dpAll_length hA
      dsimp only [tSeq, tNext]
      have e0 : decide (V.int ((([V.str z, V.ref b] : List V).length : Nat) : Int) = V.int 2) = true := decide_eq_true rfl
      refine if_ev (b := (!true || !true)) (evt_or (evt_not (evt_b (e_isi rfl (fun _ h => ty_tuple (SqT.mono h hT)) (kit_ty (by decide +kernel))))) fun _ => fun H' Q hs k => ⟨_, rfl, _, _, rfl, .inr (SqT.mono hs hT), rfl, _, rfl, by rw [e0]; exact k H' hs⟩) (Same.refl H) (fun h => by cases h) (fun _ H1 s1 => ?_)
      dsimp only [tSeq, tNext]
      refine ⟨_, rfl, p, _, rfl, SqT.mono s1 hT, rfl, _, _, rfl, _, _, rfl, rfl, ?_⟩
      dsimp only [tSeq, tNext]
      have e1 : (!decide (V.int ((ds.length : Nat) : Int) = V.int ((xs.length : Nat) : Int))) = false := by
        rw [decide_eq_true (by rw [hlx])]; rfl
      refine if_ev (b := (!true || false)) (evt_or (evt_not (evt_b (e_isi rfl (fun _ h => ty_tuple (SqT.mono (s1.trans h) hT2)) (kit_ty (by decide +kernel))))) fun _ => fun H' Q hs' k => ⟨_, rfl, z, ds.length, rfl, hs, Nat.le_trans (sel_len hs) (by decide), fun H2 s2 => ⟨_, rfl, b, xs, rfl, .inr (SqT.mono (s1.trans (hs'.trans s2)) hT2), rfl, _, rfl, by rw [e1]; exact k H2 (hs'.trans s2)⟩⟩) (Same.refl H1) (fun h => by cases h) (fun _ H2 s2 => ?_)
      have s2 := s1.trans s2
      dsimp only [tSeq, tNext]
      refine ⟨_, rfl, b, rfl, ⟨_, SqT.mono s2 hT2⟩, fun D nD => ?_⟩
      refine lc_true nD (SqT.mono s2 hT2) (by omega) (fun i x H3 hx s3 Kc R hk' => ?_) (fun H3 s3 e => ⟨D, _, rfl, SqL.of e, ?_⟩)
      · obtain ⟨d, h3, h4⟩ := dpAll_at hA hx
        refine ⟨rfl, tyes ?_⟩
        exact ⟨_, rfl, _, rfl, _, rfl, x, a, ks, d, m, rfl, hm, dp_mono (s2.trans s3) _ _ h4, s3 _ _ (s2 _ _ hK), hk, hi d h3, hk'⟩
      · rw [all_true]
        exact q H3 (s2.trans s3)
theorem sc_messages_fit : FnScope ["messages", "known", "room", "message"] ["messages", "known", "room"] (defScope s_messages_fit) := ⟨rfl, rfl, rfl, by decide +kernel, rfl, by decide +kernel, by decide +kernel⟩
theorem ok_messages {f fM : Addr} {fd fdM : FuncData} {n k : Nat} (F : FnP K "messages_fit" s_messages_fit f fd)
    (G_message_fits : FnOk P w K mg base CX0 (k + 1) fM fdM ["message", "known", "room"] (spMsg K n)) (g_message_fits : mg "message_fits" = some (.ref fM)) (k_message_fits : PySem.W.keepIn K (.ref fM) = true) (b_message_fits : Binds K fdM ["message", "known", "room"] [])
    (g_isinstance : mg "isinstance" = none) (g_tuple : mg "tuple" = none) (g_all : mg "all" = none) (g_len : mg "len" = none) :
    FnOk P w K mg base CX0 (k + 2) f fd ["messages", "known", "room"] (spMsgs K n) := by
  refine F.ok sc_messages_fit (fun vs H Q E h => ?_) (fun cdv A outer s H vs Q E hr h => ⟨_, PSs.nox
    (pss_cons (ps_if (PW.pt (pw_or (pt_not (pt_val (pe_callB call_isi (by rfl) g_isinstance (by decide +kernel) (pa_cons (pv 0) (pa_cons (pe_bltn (v := .ty "tuple") (u := .type "tuple") (by rfl) g_tuple (by decide +kernel) rfl) pa_nil))))) (pw_or1 (pt_cmpR op_lt (pe_callB call_len_seq (by rfl) g_len PySem.boot_len (pa_cons (pv 0) pa_nil)) pe_int (nomark _))))) (pss_one (ps_ret pe_bl)) pss_nil)
      (pss_one (ps_ret (pe_callB (cr_all rfl) (by rfl) g_all (by decide +kernel) (pa_cons (pe_lc (own := [("message", 3)]) rfl sc_messages_fit.nd (pi_tup (pv 0)) (blkOk_by (own := [("message", 3)]) (N := ["messages", "known", "room", "message"]) (sc := defScope s_messages_fit) (by decide +kernel)) (fun _ _ _ _ _ => by (exact (pg_name (i := 3) sc_messages_fit.nd rfl (Or.inl rfl)))) (fun _ _ _ _ _ => by exact pts_nil) (fun _ _ _ _ _ => by exact (pe_call G_message_fits (hr.mono (Nat.le_refl _)) rfl g_message_fits k_message_fits b_message_fits .nil pass0 (pa_cons (pv 3) (pa_cons (pv 1) (pa_cons (pv 2) pa_nil)))))) pa_nil))))), ?_⟩)
  · obtain ⟨v, a, ks, d, m, rfl, _⟩ := h
    rfl
  · obtain ⟨v, a, ks, ds, m, rfl, hm, hd, hK, hk, h2, hn, hi, q⟩ := h
    obtain ⟨b, xs, rfl, hT2, hA⟩ := dp_tup hd
    have hlx := dpAll_length hA
    dsimp only [tSeq, tNext]
    have e0 : decide (((xs.length : Nat) : Int) < 2) = false := decide_eq_false (by omega)
    refine if_ev (b := (!true || false)) (evt_or (evt_not (evt_b (e_isi rfl (fun _ h => ty_tuple (SqT.mono h hT2)) (kit_ty (by decide +kernel))))) fun _ => fun H' Q hs k => ⟨_, rfl, b, xs, rfl, .inr (SqT.mono hs hT2), _, _, rfl, rfl, _, rfl, by rw [e0]; exact k H' hs⟩) (Same.refl H) (fun h => by cases h) (fun _ H2 s2 => ?_)
    dsimp only [tSeq, tNext]
    refine ⟨_, rfl, b, rfl, ⟨_, SqT.mono s2 hT2⟩, fun D nD => ?_⟩
    refine lc_true nD (SqT.mono s2 hT2) (by omega) (fun i x H3 hx s3 Kc R hk' => ?_) (fun H3 s3 e => ⟨D, _, rfl, SqL.of e, ?_⟩)
    · obtain ⟨d, h3, h4⟩ := dpAll_at hA hx
      refine ⟨rfl, tyes ?_⟩
      exact ⟨_, rfl, _, rfl, _, rfl, x, a, ks, d, m, rfl, hm, dp_mono (s2.trans s3) _ _ h4, s3 _ _ (s2 _ _ hK), hk, hi d h3, hk'⟩
    · rw [all_true]
      exact q H3 (s2.trans s3)
def spLast (K : PySem.W.Frag) (n : Nat) : Sp := fun vs H Q _ => ∃ (v : V) (a : Addr) (ks : List (Str × Bool)) (d : PyData) (m : Nat), vs = [v, .ref a, .int (m : Int)] ∧ m ≤ n ∧ Dp K H v d ∧ H a = some (.dK (kvsOf ks)) ∧ ks.length + 1020 * m ≤ 100000 ∧ Lf ks m d ∧ ∀ H', Same H H' → Q (.bl true) H'
end
end My8

end
section
set_option Elab.async false
set_option linter.all false
set_option maxRecDepth 100000
set_option maxHeartbeats 2000000
namespace My8
open PySem PySem.Spec PyProof.Rows L2 My
open TrM TL
abbrev s_declare_all : Stmt := top 31
theorem str_ne {z : Str} {w : Str} (h : z ≠ w) : decide (V.str z = V.str w) = false := decide_eq_false fun e => h (by injection e)
theorem tree_head {K : PySem.W.Frag} {H : Hp} {v : V} {d : PyData} {m : Nat} {ks : List (Str × Bool)} (hd : Dp K H v d) (hf : Tf ks m d) : 0 < m ∧ ∃ a z xs, v = .ref a ∧ SqT K H a (.str z :: xs) ∧ (z, (xs.length : Int) + 1) ∈ shapes ∧ decide (V.str z = V.str kRet) = false := by
  cases hf with
  | lit h =>
    obtain ⟨a, z, u, rfl, hT, hz, hpos, key⟩ := lit_key hd h
    refine ⟨hpos, a, z, [u], rfl, hT, hz, ?_⟩
    rcases key with ⟨hk, _⟩ | ⟨hk, _⟩ | ⟨hk, _⟩
    · subst hk; decide +kernel
    · rcases hk with rfl | rfl <;> decide +kernel
    · subst hk; decide +kernel
  | var _ _ =>
    obtain ⟨a, u, rfl, hT, hu⟩ := dp_two hd
    exact ⟨Nat.succ_pos _, a, kV, [u], rfl, hT, (by decide +kernel : (kV, (2 : Int)) ∈ shapes), by decide +kernel⟩
  | set _ _ _ =>
    obtain ⟨a, xs, rfl, hT, hA⟩ := dp_tup hd
    cases hA with | cons h1 h2 => cases h2 with | cons h3 h4 => cases h4 with | cons h5 h6 =>
      cases h6
      rw [dp_str h1] at hT
      exact ⟨Nat.succ_pos _, a, kSet, _, rfl, hT, (by decide +kernel : (kSet, (3 : Int)) ∈ shapes), by decide +kernel⟩
  | send _ _ =>
    obtain ⟨a, xs, rfl, hT, hA⟩ := dp_tup hd
    cases hA with | cons h1 h2 => cases h2 with | cons h3 h4 => cases h4 with | cons h5 h6 => cases h6 with | cons h7 h8 =>
      cases h8
      rw [dp_str h1] at hT
      exact ⟨Nat.succ_pos _, a, kSend, _, rfl, hT, (by decide +kernel : (kSend, (4 : Int)) ∈ shapes), by decide +kernel⟩
  | super _ =>
    obtain ⟨a, xs, rfl, hT, hA⟩ := dp_tup hd
    cases hA with | cons h1 h2 => cases h2 with | cons h3 h4 => cases h4 with | cons h5 h6 =>
      cases h6
      rw [dp_str h1] at hT
      exact ⟨Nat.succ_pos _, a, kSuper, _, rfl, hT, (by decide +kernel : (kSuper, (3 : Int)) ∈ shapes), by decide +kernel⟩
  | casc _ _ _ _ =>
    obtain ⟨a, xs, rfl, hT, hA⟩ := dp_tup hd
    cases hA with | cons h1 h2 => cases h2 with | cons h3 h4 => cases h4 with | cons h5 h6 =>
      cases h6
      rw [dp_str h1] at hT
      exact ⟨Nat.succ_pos _, a, kCasc, _, rfl, hT, (by decide +kernel : (kCasc, (3 : Int)) ∈ shapes), by decide +kernel⟩
  | block _ =>
    obtain ⟨a, xs, rfl, hT, hA⟩ := dp_tup hd
    cases hA with | cons h1 h2 => cases h2 with | cons h3 h4 => cases h4 with | cons h5 h6 => cases h6 with | cons h7 h8 =>
      cases h8
      rw [dp_str h1] at hT
      exact ⟨Nat.succ_pos _, a, kBlock, _, rfl, hT, (by decide +kernel : (kBlock, (4 : Int)) ∈ shapes), by decide +kernel⟩
theorem lookup_none {z : Str} : ∀ {ks : List (Str × Bool)}, z ∉ ks.map (·.1) → ks.lookup z = none
  | [], _ => rfl
  | (y, b) :: ks, h => by
    rw [List.map_cons, List.mem_cons, not_or] at h
    rw [List.lookup_cons, show (z == y) = false by simpa using h.1]
    exact lookup_none h.2
theorem new_name {ks : List (Str × Bool)} {ns : List Str} {b : Bool} {i : Nat} {y : Str} (h : (ks.map (·.1) ++ ns).Nodup) (hy : ns[i]? = some y) : y ∉ (ks ++ (ns.take i).map fun x => (x, b)).map (·.1) := by
  intro hm
  rw [List.map_append, List.map_map] at hm
  have e : ((fun x : Str × Bool => x.1) ∘ fun x : Str => (x, b)) = id := rfl
  rw [e, List.map_id, List.mem_append] at hm
  obtain ⟨h1, h2, h3⟩ := List.nodup_append.mp h
  rcases hm with hm | hm
  · exact h3 _ hm _ (List.mem_of_getElem? hy) rfl
  · rw [← List.take_append_drop i ns] at h2
    refine (List.nodup_append.mp h2).2.2 _ hm y (List.mem_of_getElem? (i := 0) ?_) rfl
    rw [List.getElem?_drop]
    exact hy
/-- names come to a dict; H0: what was there ahead of the dict -/
def spDecl (K : PySem.W.Frag) : Sp := fun vs H Q _ => ∃ (H0 : Hp) (p a : Addr) (b : Bool) (ks : List (Str × Bool)) (ns : List Str), vs = [.ref p, .ref a, .bl b] ∧ Same H0 H ∧ H0 a = none ∧ SqT K H0 p (ns.map V.str) ∧ H a = some (.dK (kvsOf ks)) ∧ ks.length ≤ 100000 ∧ ns.length ≤ 1000 ∧
  (∀ x ∈ ns, localB (codesOf x) = true) ∧ (ks.map (·.1) ++ ns).Nodup ∧ ∀ H', Same H0 H' → H' a = some (.dK (kvsOf (ks ++ ns.map fun x => (x, b)))) → Q (.bl true) H'
section
variable {P : Program} {w : World} {K : PySem.W.Frag} {mg : Str → Option Value} {base : Heap}
theorem sc_last_fits : FnScope ["tree", "known", "room"] ["tree", "known", "room"] (defScope s_last_fits) := ⟨rfl, rfl, rfl, by decide +kernel, rfl, by decide +kernel, by decide +kernel⟩
theorem ok_last {f fK fT : Addr} {fd fdK fdT : FuncData} {n k : Nat} (F : FnP K "last_fits" s_last_fits f fd)
    (G_kind_of : FnOk P w K mg base CX0 (k + 1) fK fdK ["thing"] (spKind K)) (g_kind_of : mg "kind_of" = some (.ref fK)) (k_kind_of : PySem.W.keepIn K (.ref fK) = true) (b_kind_of : Binds K fdK ["thing"] [])
    (G_tree_fits : FnOk P w K mg base CX0 (k + 1) fT fdT ["tree", "known", "room"] (spTree K n)) (g_tree_fits : mg "tree_fits" = some (.ref fT)) (k_tree_fits : PySem.W.keepIn K (.ref fT) = true) (b_tree_fits : Binds K fdT ["tree", "known", "room"] []) :
    FnOk P w K mg base CX0 (k + 2) f fd ["tree", "known", "room"] (spLast K n) := by
  refine F.ok sc_last_fits (fun vs H Q E h => ?_) (fun cdv A outer s H vs Q E hr h => ⟨_, PSs.nox
    (pss_cons (ps_if (pt_cmpR op_eq (pe_call G_kind_of (hr.mono (Nat.le_refl _)) rfl g_kind_of k_kind_of b_kind_of .nil pass0 (pa_cons (pv 0) pa_nil)) pe_str (nomark _)) (pss_one (ps_ret (pe_call G_tree_fits (hr.mono (Nat.le_refl _)) rfl g_tree_fits k_tree_fits b_tree_fits .nil pass0 (pa_cons (pe_ix ix_tup (pv 0) pe_int (fun _ _ => rfl)) (pa_cons (pv 1) (pa_cons (pe_op op_sub (pv 2) pe_int) pa_nil)))))) pss_nil)
      (pss_one (ps_ret (pe_call G_tree_fits (hr.mono (Nat.le_refl _)) rfl g_tree_fits k_tree_fits b_tree_fits .nil pass0 (pa_cons (pv 0) (pa_cons (pv 1) (pa_cons (pv 2) pa_nil))))))), ?_⟩)
  · obtain ⟨v, a, ks, d, m, rfl, _⟩ := h
    rfl
  · obtain ⟨v, a, ks, d, m, rfl, hm, hd, hK, hk, hf, q⟩ := h
    dsimp only [tSeq, tNext]
    cases hf with
    | ex hf =>
      obtain ⟨_, p, z, xs, rfl, hT, hz, hv⟩ := tree_head hd hf
      refine if_ev (b := false) (EvT.to (evt_test fun H' Q hs k => ⟨_, rfl, p, z, xs, rfl, SqT.mono hs hT, hz, fun H2 s2 => ⟨rfl, k H2 (hs.trans s2)⟩⟩) hv) (Same.refl H) (fun h => by cases h) (fun _ H1 s1 => ?_)
      exact ⟨_, rfl, _, rfl, _, rfl, .ref p, a, ks, d, m, rfl, hm, dp_mono s1 _ _ hd, s1 _ _ hK, hk, hf, fun H2 s2 => q H2 (s1.trans s2)⟩
    | @ret _ m' d' hf =>
      obtain ⟨p, u, rfl, hT, hu⟩ := dp_two hd
      have em : V.int (((m' + 1 : Nat) : Int) - 1) = V.int (m' : Int) := congrArg V.int (by omega)
      refine if_ev (b := true) (EvT.to (b := decide (V.str kRet = V.str kRet)) (evt_test fun H' Q hs k => ⟨_, rfl, p, kRet, [u], rfl, SqT.mono hs hT, (by decide +kernel : (kRet, (2 : Int)) ∈ shapes), fun H2 s2 => ⟨rfl, k H2 (hs.trans s2)⟩⟩) (decide_eq_true rfl)) (Same.refl H) (fun _ H1 s1 => ?_) (fun h => by cases h)
      exact ⟨_, rfl, _, _, _, _, rfl, rfl, SqT.mono s1 hT, atI_nat rfl, _, rfl, _, rfl, _, _, rfl, rfl, u, a, ks, d', m', by rw [← em]; rfl, by omega, dp_mono s1 _ _ hu, s1 _ _ hK, by omega, hf, fun H2 s2 => q H2 (s1.trans s2)⟩
theorem sc_declare_all : FnScope ["names", "known", "as_parameter", "name"] ["names", "known", "as_parameter"] (defScope s_declare_all) := ⟨rfl, rfl, rfl, by decide +kernel, rfl, by decide +kernel, by decide +kernel⟩
theorem ok_declare {f fW : Addr} {fd fdW : FuncData} (F : FnP K "declare_all" s_declare_all f fd) (G_is_local_word : FnOk P w K mg base CX0 2 fW fdW ["thing"] spIsLocal) (g_is_local_word : mg "is_local_word" = some (.ref fW)) (k_is_local_word : PySem.W.keepIn K (.ref fW) = true) (b_is_local_word : Binds K fdW ["thing"] []) :
    FnOk P w K mg base CX0 3 f fd ["names", "known", "as_parameter"] (spDecl K) := by
  refine F.ok sc_declare_all (fun vs H Q E h => ?_) (fun cdv A outer s H vs Q E hr h => ⟨_, PSs.nox
    (pss_cons (ps_for PassesOwn.never rfl (pi_tup (pv 0)) (pg_name (i := 3) sc_declare_all.nd rfl (Or.inl rfl)) (pss_cons (ps_if (PW.pt (pw_or (pt_not (pt_val (pe_call G_is_local_word (hr.mono (by decide)) rfl g_is_local_word k_is_local_word b_is_local_word .nil pass0 (pa_cons (pv 3) pa_nil)))) (pw_or1 (pt_cmp (pc_din (Nat.lt_of_le_of_lt (Nat.add_le_add_left (by decide : 1 ≤ 64) _) hr.units) (pv 3) (pv 1)))))) (pss_one (ps_ret pe_bl)) pss_nil)
      (pss_one (ps_dput (Nat.lt_of_le_of_lt (Nat.add_le_add_left (by decide : 1 ≤ 64) _) hr.units) (pv 1) (pv 3) (pv 2) rfl))))
      (pss_one (ps_ret pe_bl))), ?_⟩)
  · obtain ⟨H0, p, a, b, ks, ns, rfl, _⟩ := h
    rfl
  · obtain ⟨H0, p, a, b, ks, ns, rfl, hs, ha, hT, hK, hk, hn, hl, hnd, q⟩ := h
    dsimp only [tSeq, tNext]
    refine ⟨_, rfl, p, rfl, ⟨_, SqT.mono hs hT⟩, for_tup (K := K) (a := p) (xs := ns.map V.str) (fun i σ H' => ∃ x, σ = [some (.ref p), some (.ref a), some (.bl b), x] ∧ Same H0 H' ∧ H' a = some (.dK (kvsOf (ks ++ (ns.take i).map fun x => (x, b))))) ⟨_, rfl, hs, by simpa using hK⟩ (fun i σ H' _ R => by obtain ⟨x, _, R, _⟩ := R; exact SqT.mono R hT) ?_ ?_⟩
    · intro i x σ H' hx R
      rw [List.getElem?_map] at hx
      obtain ⟨y, hy, rfl⟩ := Option.map_eq_some_iff.mp hx
      obtain ⟨x0, rfl, R1, R2⟩ := R
      have hly := hl y (List.mem_of_getElem? hy)
      have hN : Tok.IsName (codesOf y) := (nameB_iff _).mp (by unfold localB at hly; rw [Bool.and_eq_true] at hly; exact hly.1)
      have hlen : y.length ≤ 100000 := Nat.le_trans (show y.length ≤ 40 from hN.le) (by decide)
      have hni : (ks ++ (ns.take i).map fun x => (x, b)).lookup y = none := lookup_none (new_name hnd hy)
      have hv : valV (kvsOf (ks ++ (ns.take i).map fun x => (x, b))) (.inr y) = none := by rw [val_kvs, hni]; rfl
      show tSeq _ _ _ [some (.ref p), some (.ref a), some (.bl b), some (.str y)] H'
      dsimp only [tSeq, tNext]
      refine if_ev (b := (!true || false)) (evt_or (evt_not (evt_b fun H2 Q hs k => ⟨_, rfl, y, rfl, name_asc hN, hlen, fun H3 s3 => by rw [hly]; exact k H3 (hs.trans s3)⟩)) fun _ => evt_b fun H2 Q hs k => ⟨_, rfl, _, rfl, a, _, rfl, DGet.k (k := .inr y) (hs _ _ R2), by rw [hv]; exact k H2 hs⟩) (Same.refl H') (fun h => by cases h) (fun _ H2 s2 => ?_)
      refine ⟨_, rfl, _, rfl, _, rfl, a, _, rfl, DPut.k (k := .inr y) (s2 _ _ R2) ?_, _, rfl, same_free (R1.trans s2) ha, ?_⟩
      · rw [kvsOf, List.length_map, List.length_append, List.length_map, List.length_take]
        exact Nat.lt_of_le_of_lt (show _ ≤ 101000 by omega) (by decide)
      · rw [upd_same, putK_new _ hv, List.take_succ, hy]
        simp [kvsOf]
    · intro σ H' R
      obtain ⟨x, rfl, R1, R2⟩ := R
      rw [List.length_map, List.take_length] at R2
      exact q H' R1 R2
end
end My8

end
section
set_option Elab.async false
set_option linter.all false
set_option maxRecDepth 100000
set_option maxHeartbeats 2000000
namespace My8
open PySem PySem.Spec PyProof.Rows L2 My
open TrM TL
abbrev s_body_fits : Stmt := top 30
/-- a dict's comprehension over what is gone through -/
theorem dc_it {J : It} {n : Nat} {G : Hp → Prop} {Y : Nat → Hp → V → Hp → Prop} (w : Walk J n G Y) {g : TG} {tt : TT} {tk tv : TE} {vs : List Nat} {σ : L2.St} {H1 : Hp} {D : Addr} {Qd : Hp → Prop} (Pv : Nat → Hp → Prop) (h0 : Pv 0 (upd H1 D (.dK []))) (hG : ∀ i H, i ≤ n → Pv i H → G H)
    (hs : ∀ i x H H', i < n → Pv i H → Y i H x H' → g x (wipe σ vs) H' fun σ2 H2 => wipe σ2 vs = wipe σ vs ∧ tt σ2 H2 fun b H3 =>
      if b = true then tk σ2 H3 fun y H4 => tv σ2 H4 fun z H5 => ∃ kvs k, y = L2.kV k ∧ H5 D = some (.dK kvs) ∧ kvs.length < sizeLine ∧ Pv (i + 1) (upd H5 D (.dK (putK kvs k z))) else Pv (i + 1) H3) (hd : ∀ H, Pv n H → Qd H) :
    ∃ W : Nat → Nat → Hp → Prop, (∃ m, W 0 m (upd H1 D (.dK []))) ∧ ∀ i m H, W i m H →
      (J.stop i H ∧ Qd H) ∨ (J.go i H ∧ ∃ Nx : Hp → Prop, (∀ H', Nx H' → ∃ m', m' < m ∧ W (i + 1) m' H') ∧ ∀ x H', J.yld i H x H' → g x (wipe σ vs) H' fun σ2 H2 => wipe σ2 vs = wipe σ vs ∧ tt σ2 H2 fun b H3 =>
        if b = true then tk σ2 H3 fun y H4 => tv σ2 H4 fun z H5 => ∃ kvs k, y = L2.kV k ∧ H5 D = some (.dK kvs) ∧ kvs.length < sizeLine ∧ Nx (upd H5 D (.dK (putK kvs k z))) else Nx H3) := by
  refine ⟨fun i m H => m = n - i ∧ i ≤ n ∧ Pv i H, ⟨n, by simp, Nat.zero_le _, h0⟩, ?_⟩
  rintro i m H ⟨rfl, hi, p⟩
  have q := hG i H hi p
  by_cases hlt : i < n
  · refine .inr ⟨w.goes i H hlt q, Pv (i + 1), fun H' p' => ⟨n - (i + 1), by omega, rfl, hlt, p'⟩, fun x H' y => hs i x H H' hlt p (w.yields i H x H' hlt q y)⟩
  · have e : i = n := by omega
    subst e
    exact .inl ⟨w.stops H q, hd H p⟩
theorem dpAll_take {K : PySem.W.Frag} {H : Hp} : ∀ {xs : List V} {ds : List PyData} (n : Nat), DpAll K H xs ds → DpAll K H (xs.take n) (ds.take n)
  | _, _, 0, _ => by rw [List.take_zero, List.take_zero]; exact .nil
  | _, _, n + 1, .nil => .nil
  | _, _, n + 1, .cons h t => .cons h (dpAll_take n t)
theorem dpAll_drop {K : PySem.W.Frag} {H : Hp} : ∀ {xs : List V} {ds : List PyData} (n : Nat), DpAll K H xs ds → DpAll K H (xs.drop n) (ds.drop n)
  | _, _, 0, h => h
  | _, _, n + 1, .nil => .nil
  | _, _, n + 1, .cons _ t => dpAll_drop n t
theorem last_of {α : Type} {l : List α} {d : α} (h : d ∈ l.drop (l.length - 1)) : l.getLast? = some d := by
  obtain ⟨i, hi, e⟩ := List.getElem_of_mem h
  rw [List.length_drop] at hi
  rw [List.getElem_drop] at e
  rw [List.getLast?_eq_getElem?, ← e]
  have : l.length - 1 + i = l.length - 1 := by omega
  rw [List.getElem?_eq_getElem (by omega)]
  congr 2
  omega
theorem rsl_of {K : PySem.W.Frag} {H : Hp} {a : Addr} {xs : List V} {lo hi : Option Int} {Q : VK} (hT : SqT K H a xs) (h : ∀ c H', Same H H' → SqT K H' c (cutV xs lo hi) → Q (.ref c) H') : rSlA K (.ref a) lo hi H Q :=
  ⟨a, xs, rfl, hT, fun hw => h a H (Same.refl H) (by
    have e : cutV xs lo hi = xs := by
      unfold cutV
      rw [hw.1, hw.2, List.drop_zero, Nat.sub_zero, List.take_length]
    rw [e]; exact hT), fun _ p np => h p _ (same_upd np) (SqT.of upd_same)⟩
theorem cutV_init (xs : List V) : cutV xs none (some (-1)) = xs.take (xs.length - 1) := by
  unfold cutV
  rw [six_neg, HT.sIx_none, List.drop_zero, Nat.sub_zero]
theorem cutV_last (xs : List V) : cutV xs (some (-1)) none = xs.drop (xs.length - 1) := by
  unfold cutV
  rw [six_neg, HT.sIx_none, List.take_of_length_le (by rw [List.length_drop]; omega)]
theorem keys_kvs (ks : List (Str × Bool)) : (kvsOf ks).map (·.1) = (ks.map (·.1)).map Sum.inr := by
  unfold kvsOf
  rw [List.map_map, List.map_map]
  rfl
theorem nd_kvs {ks : List (Str × Bool)} (h : (ks.map (·.1)).Nodup) : ((kvsOf ks).map (·.1)).Nodup := by
  rw [keys_kvs, List.nodup_iff_pairwise_ne, List.pairwise_map]
  exact (List.nodup_iff_pairwise_ne.mp h).imp fun hn e => hn (by injection e)
theorem val_at {kvs : List (Key × V)} {i : Nat} {k : Key} {v : V} (h : (kvs.map (·.1)).Nodup) (hi : kvs[i]? = some (k, v)) : valV kvs k = some v ∧ valV (kvs.take i) k = none := by
  induction kvs generalizing i with
  | nil => cases hi
  | cons p r ih =>
    rw [List.map_cons, List.nodup_cons] at h
    cases i with
    | zero =>
      have e : p = (k, v) := by simpa using hi
      subst e
      exact ⟨valV_pos rfl, rfl⟩
    | succ i =>
      have hi : r[i]? = some (k, v) := by simpa using hi
      obtain ⟨h1, h2⟩ := ih h.2 hi
      have hn : ¬ p.1 = k := fun e => h.1 (by rw [e]; exact List.mem_map_of_mem (f := fun q : Key × V => q.1) (List.mem_of_getElem? hi))
      rw [List.take_succ_cons, valV_neg hn, valV_neg hn]
      exact ⟨h1, h2⟩
/-- a body; the known names are a dict at a -/
def spBody (K : PySem.W.Frag) (n : Nat) : Sp := fun vs H Q _ => ∃ (p pv ps a : Addr) (ks : List (Str × Bool)) (pn vn : List Str) (xs : List V) (sts : List PyData) (m : Nat), vs = [.ref p, .ref pv, .ref ps, .ref a, .int (m : Int)] ∧ m ≤ n ∧ SqT K H p (pn.map V.str) ∧ SqT K H pv (vn.map V.str) ∧ SqT K H ps xs ∧ DpAll K H xs sts ∧
  H a = some (.dK (kvsOf ks)) ∧ ks.length + 1020 * (m + 1) ≤ 100000 ∧ (ks.map (·.1)).Nodup ∧ Bf ks m pn vn sts ∧ ∀ H', Same H H' → Q (.bl true) H'
section
variable {P : Program} {w : World} {K : PySem.W.Frag} {mg : Str → Option Value} {base : Heap}
theorem sc_body_fits : FnScope ["parameters", "variables", "statements", "known", "room", "thing", "name", "tree"] ["parameters", "variables", "statements", "known", "room"] (defScope s_body_fits) := ⟨rfl, rfl, rfl, by decide +kernel, rfl, by decide +kernel, by decide +kernel⟩
theorem ok_body {f fD fT fL : Addr} {fd fdD fdT fdL : FuncData} {n k : Nat} (F : FnP K "body_fits" s_body_fits f fd)
    (G_declare_all : FnOk P w K mg base CX0 (k + 1) fD fdD ["names", "known", "as_parameter"] (spDecl K)) (g_declare_all : mg "declare_all" = some (.ref fD)) (k_declare_all : PySem.W.keepIn K (.ref fD) = true) (b_declare_all : Binds K fdD ["names", "known", "as_parameter"] [])
    (G_tree_fits : FnOk P w K mg base CX0 (k + 1) fT fdT ["tree", "known", "room"] (spTree K n)) (g_tree_fits : mg "tree_fits" = some (.ref fT)) (k_tree_fits : PySem.W.keepIn K (.ref fT) = true) (b_tree_fits : Binds K fdT ["tree", "known", "room"] [])
    (G_last_fits : FnOk P w K mg base CX0 (k + 1) fL fdL ["tree", "known", "room"] (spLast K n)) (g_last_fits : mg "last_fits" = some (.ref fL)) (k_last_fits : PySem.W.keepIn K (.ref fL) = true) (b_last_fits : Binds K fdL ["tree", "known", "room"] [])
    (g_isinstance : mg "isinstance" = none) (g_tuple : mg "tuple" = none) (g_all : mg "all" = none) (g_len : mg "len" = none) (g_MP : ∃ t, mg "MOST_PARAMETERS" = some (.int 20 t)) :
    FnOk P w K mg base CX0 (k + 2) f fd ["parameters", "variables", "statements", "known", "room"] (spBody K n) := by
  obtain ⟨t, g_MOST_PARAMETERS⟩ := g_MP
  have r_MOST_PARAMETERS : RelV (.int 20) (.int 20 t) := ⟨_, rfl⟩
  refine F.ok sc_body_fits (fun vs H Q E h => ?_) (fun cdv A outer s H vs Q E hr h => ⟨_, PSs.nox
    (pss_cons (ps_for PassesOwn.never rfl (pi_tup (pe_tup (pa_cons (pv 0) (pa_cons (pv 1) (pa_cons (pv 2) pa_nil))))) (pg_name (i := 5) sc_body_fits.nd rfl (Or.inl rfl)) (pss_one (ps_if (pt_not (pt_val (pe_callB call_isi (by rfl) g_isinstance (by decide +kernel) (pa_cons (pv 5) (pa_cons (pe_bltn (v := .ty "tuple") (u := .type "tuple") (by rfl) g_tuple (by decide +kernel) rfl) pa_nil))))) (pss_one (ps_ret pe_bl)) pss_nil)))
      (pss_cons (ps_if (pt_cmpR op_gt (pe_callB call_len_seq (by rfl) g_len PySem.boot_len (pa_cons (pv 0) pa_nil)) (pe_glob rfl g_MOST_PARAMETERS r_MOST_PARAMETERS) (nomark _)) (pss_one (ps_ret pe_bl)) pss_nil)
      (pss_cons (ps_set (i := 3) sc_body_fits.nd rfl (Or.inr rfl) (pe_lock (pe_dc (own := [("name", 6)]) rfl sc_body_fits.nd (pi_keys (pv 3)) (blkOk_by (own := [("name", 6)]) (N := ["parameters", "variables", "statements", "known", "room", "thing", "name", "tree"]) (sc := defScope s_body_fits) (by decide +kernel)) (fun _ _ _ _ _ => by (exact (pg_name (i := 6) sc_body_fits.nd rfl (Or.inl rfl)))) (fun _ _ _ _ _ => by exact pts_nil) (fun _ _ _ _ _ => by exact (pv 6)) (fun _ _ _ _ _ => by exact (pe_dget (Nat.lt_of_le_of_lt (Nat.add_le_add_left (by decide : 1 ≤ 64) _) hr.units) (pv 3) (pv 6) (fun _ _ => rfl))))))
      (pss_cons (ps_if (PW.pt (pw_or (pt_not (pt_val (pe_call G_declare_all (hr.mono (Nat.le_refl _)) rfl g_declare_all k_declare_all b_declare_all .nil pass0 (pa_cons (pv 0) (pa_cons (pv 3) (pa_cons pe_bl pa_nil)))))) (pw_or1 (pt_not (pt_val (pe_call G_declare_all (hr.mono (Nat.le_refl _)) rfl g_declare_all k_declare_all b_declare_all .nil pass0 (pa_cons (pv 1) (pa_cons (pv 3) (pa_cons pe_bl pa_nil))))))))) (pss_one (ps_ret pe_bl)) pss_nil)
      (pss_cons (ps_if (pt_not (pt_val (pe_callB (cr_all rfl) (by rfl) g_all (by decide +kernel) (pa_cons (pe_lc (own := [("tree", 7)]) rfl sc_body_fits.nd (pi_tup (pe_slice sl_tupA (pv 2) po_none (po_some (pe_un un_neg pe_int)))) (blkOk_by (own := [("tree", 7)]) (N := ["parameters", "variables", "statements", "known", "room", "thing", "name", "tree"]) (sc := defScope s_body_fits) (by decide +kernel)) (fun _ _ _ _ _ => by (exact (pg_name (i := 7) sc_body_fits.nd rfl (Or.inl rfl)))) (fun _ _ _ _ _ => by exact pts_nil) (fun _ _ _ _ _ => by exact (pe_call G_tree_fits (hr.mono (Nat.le_refl _)) rfl g_tree_fits k_tree_fits b_tree_fits .nil pass0 (pa_cons (pv 7) (pa_cons (pv 3) (pa_cons (pv 4) pa_nil)))))) pa_nil)))) (pss_one (ps_ret pe_bl)) pss_nil)
      (pss_one (ps_ret (pe_callB (cr_all rfl) (by rfl) g_all (by decide +kernel) (pa_cons (pe_lc (own := [("tree", 7)]) rfl sc_body_fits.nd (pi_tup (pe_slice sl_tupA (pv 2) (po_some (pe_un un_neg pe_int)) po_none)) (blkOk_by (own := [("tree", 7)]) (N := ["parameters", "variables", "statements", "known", "room", "thing", "name", "tree"]) (sc := defScope s_body_fits) (by decide +kernel)) (fun _ _ _ _ _ => by (exact (pg_name (i := 7) sc_body_fits.nd rfl (Or.inl rfl)))) (fun _ _ _ _ _ => by exact pts_nil) (fun _ _ _ _ _ => by exact (pe_call G_last_fits (hr.mono (Nat.le_refl _)) rfl g_last_fits k_last_fits b_last_fits .nil pass0 (pa_cons (pv 7) (pa_cons (pv 3) (pa_cons (pv 4) pa_nil)))))) pa_nil))))))))), ?_⟩)
  · obtain ⟨p, pv, ps, a, ks, pn, vn, xs, sts, m, rfl, _⟩ := h
    rfl
  · obtain ⟨p, pv, ps, a, ks, pn, vn, xs, sts, m, rfl, hm, hp, hv, hT, hA, hK, hk, hnd, hb, q⟩ := h
    cases hb with
    | mk hp20 hv1000 hs1000 hloc hnames hin hlast =>
    have hlx := dpAll_length hA
    dsimp only [tSeq, tNext]
    refine ⟨_, rfl, _, rfl, _, rfl, (by show 3 ≤ sizeLine; decide), fun t nt => ⟨t, rfl, ⟨_, SqT.of upd_same⟩, ?_⟩⟩
    have st : Same H (upd H t (.tup [.ref p, .ref pv, .ref ps])) := same_upd nt
    have ht : SqT K (upd H t (.tup [.ref p, .ref pv, .ref ps])) t [.ref p, .ref pv, .ref ps] := SqT.of upd_same
    generalize upd H t (.tup [.ref p, .ref pv, .ref ps]) = H1 at st ht ⊢
    have each : ∀ x ∈ [V.ref p, V.ref pv, V.ref ps], ∃ c ys, x = .ref c ∧ SqT K H c ys := by
      intro x hx
      simp only [List.mem_cons, List.not_mem_nil, or_false] at hx
      rcases hx with rfl | rfl | rfl
      · exact ⟨_, _, rfl, hp⟩
      · exact ⟨_, _, rfl, hv⟩
      · exact ⟨_, _, rfl, hT⟩
    refine for_tup (K := K) (a := t) (xs := [.ref p, .ref pv, .ref ps]) (fun i σ H' => ∃ x, σ = [some (.ref p), some (.ref pv), some (.ref ps), some (.ref a), some (.int (m : Int)), x, none, none] ∧ Same H1 H') ⟨_, rfl, Same.refl _⟩ (fun i σ H' _ R => by obtain ⟨x, _, R⟩ := R; exact SqT.mono R ht) ?_ ?_
    · intro i x σ H' hx R
      obtain ⟨x0, rfl, R⟩ := R
      obtain ⟨c, ys, rfl, hc⟩ := each x (List.mem_of_getElem? hx)
      show tIfS _ _ _ _ [some (.ref p), some (.ref pv), some (.ref ps), some (.ref a), some (.int (m : Int)), some (.ref c), none, none] H'
      exact if_ev (b := !true) (evt_not (evt_b (e_isi rfl (fun _ h => ty_tuple (SqT.mono ((st.trans R).trans h) hc)) (kit_ty (by decide +kernel))))) (Same.refl H') (fun h => by cases h) (fun _ H2 s2 => ⟨_, rfl, R.trans s2⟩)
    intro σ H1' R
    obtain ⟨x, rfl, R⟩ := R
    have s1 := st.trans R
    clear R ht st
    dsimp only [tSeq, tNext]
    refine if_ev (b := false) (EvT.to (b := decide ((20 : Int) < (((pn.map V.str).length : Nat) : Int))) (fun H' Q hs k => ⟨_, rfl, p, _, rfl, .inr (SqT.mono (s1.trans hs) hp), _, _, rfl, rfl, _, rfl, k H' hs⟩) (decide_eq_false (by rw [List.length_map]; omega))) (Same.refl H1') (fun h => by cases h) (fun _ H2 s2 => ?_)
    have s2 := s1.trans s2
    have hK2 := s2 _ _ hK
    dsimp only [tSeq, tNext]
    refine ⟨a, _, hK2, trivial, fun od => ?_⟩
    have hKL : (upd H2 a (.frz od (.dK (kvsOf ks)))) a = some (.frz od (.dK (kvsOf ks))) := upd_same
    have hne : ∀ b u, b ≠ a → (upd H2 a (.frz od (.dK (kvsOf ks)))) b = u → H2 b = u := fun b u h e => by rw [upd_ne h] at e; exact e
    have hne' : ∀ b u, b ≠ a → H2 b = some u → (upd H2 a (.frz od (.dK (kvsOf ks)))) b = some u := fun b u h e => by rw [upd_ne h]; exact e
    generalize upd H2 a (.frz od (.dK (kvsOf ks))) = HL at hKL hne hne' ⊢
    refine ⟨_, rfl, a, od, rfl, .inl ⟨kvsOf ks, hKL, fun D nD => ?_⟩⟩
    have hDa : D ≠ a := fun e => by rw [e, hKL] at nD; cases nD
    refine dc_it (walk_keys (d := a) (o := od) (kvs := kvsOf ks)) (fun i H' => H' D = some (.dK ((kvsOf ks).take i)) ∧ Same HL H') ⟨upd_same, same_upd nD⟩ (fun i H' _ R => R.2 _ _ hKL) (fun i x H3 H3' hlt R y => ?_) (fun H4 R => ⟨R.2 _ _ hKL, ?_⟩)
    · obtain ⟨rfl, kk, vv, hkv, rfl⟩ := y
      obtain ⟨v1, v2⟩ := val_at (nd_kvs hnd) hkv
      refine ⟨rfl, tyes ?_⟩
      refine ⟨_, rfl, _, rfl, _, rfl, a, vv, rfl, .inl ⟨kvsOf ks, kk, .inr ⟨od, R.2 _ _ hKL⟩, rfl, v1.symm⟩, _, kk, rfl, R.1, ?_, ?_, same_free R.2 nD⟩
      · rw [List.length_take]
        have : (kvsOf ks).length = ks.length := by unfold kvsOf; rw [List.length_map]
        exact Nat.lt_of_le_of_lt (show _ ≤ 100000 by omega) (by decide)
      · rw [upd_same, putK_new _ v2, List.take_succ, hkv]
        rfl
    have R1 := R.1
    rw [List.take_length] at R1
    have s5 : Same H2 (upd H4 a (.dK (kvsOf ks))) := fun b u e => by
      by_cases h : b = a
      · subst h; rw [upd_same]; exact hK2.symm.trans e
      · rw [upd_ne h]; exact R.2 _ _ (hne' b u h e)
    have hD2 : H2 D = none := hne D none hDa nD
    have hD5 : (upd H4 a (.dK (kvsOf ks))) D = some (.dK (kvsOf ks)) := by rw [upd_ne hDa]; exact R1
    generalize upd H4 a (.dK (kvsOf ks)) = H5 at s5 hD5 ⊢
    show tSeq _ _ _ [some (.ref p), some (.ref pv), some (.ref ps), some (.ref D), some (.int (m : Int)), x, none, none] H5
    have hl1 : ∀ y ∈ pn, localB (codesOf y) = true := fun y hy => hloc y (List.mem_append_left _ hy)
    have hl2 : ∀ y ∈ vn, localB (codesOf y) = true := fun y hy => hloc y (List.mem_append_right _ hy)
    have hn1 : (ks.map (·.1) ++ pn).Nodup := by rw [← List.append_assoc] at hnames; exact (List.nodup_append.mp hnames).1
    have hn2 : ((ks ++ pn.map fun x => (x, true)).map (·.1) ++ vn).Nodup := by
      rw [List.map_append, List.map_map, show ((fun x : Str × Bool => x.1) ∘ fun x : Str => (x, true)) = id from rfl, List.map_id, List.append_assoc]
      exact hnames
    have hkp : (ks ++ pn.map fun x => (x, true)).length ≤ 100000 := by rw [List.length_append, List.length_map]; omega
    dsimp only [tSeq, tNext]
    refine ⟨_, rfl, _, rfl, H2, p, D, true, ks, pn, rfl, s5, hD2, SqT.mono s2 hp, hD5, by omega, by omega, hl1, hn1, fun H6 s6 e6 => ⟨true, rfl, iteF ⟨_, rfl, _, rfl, H2, pv, D, false, _, vn, rfl, s6, hD2, SqT.mono s2 hv, e6, hkp, hv1000, hl2, hn2, fun H7 s7 e7 => ⟨true, rfl, iteF ?_⟩⟩⟩⟩
    have s7T := SqT.mono (s2.trans s7) hT
    have hA7 := dp_monoAll (s2.trans s7) _ _ hA
    have hkd : (decl ks pn vn).length + 1020 * m ≤ 100000 := by unfold decl; rw [List.length_append, List.length_append, List.length_map, List.length_map]; omega
    have e7 : H7 D = some (.dK (kvsOf (decl ks pn vn))) := e7
    have sH := s2.trans s7
    dsimp only [tSeq, tNext]
    refine if_ev (b := !true) (H0 := H7) (evt_not (evt_b fun H8 Q8 s8 k8 => ⟨_, rfl, 1, rfl, -1, rfl, rsl_of (SqT.mono s8 s7T) fun c H9 s9 hc => ?_⟩)) (Same.refl H7) (fun h => by cases h) (fun _ H8 s8 => ?_)
    · have s79 := s8.trans s9
      rw [cutV_init] at hc
      refine ⟨c, rfl, ⟨_, hc⟩, fun E1 nE => ?_⟩
      refine lc_true nE hc (by rw [List.length_take]; omega) (fun i y H10 hy s10 Kc R hk' => ?_) (fun H10 s10 e => ⟨E1, _, rfl, SqL.of e, ?_⟩)
      · obtain ⟨d, h3, h4⟩ := dpAll_at (dpAll_take (xs.length - 1) hA7) hy
        refine ⟨rfl, tyes ?_⟩
        exact ⟨_, rfl, _, rfl, _, rfl, y, D, _, d, m, rfl, hm, dp_mono (s79.trans s10) _ _ h4, s10 _ _ (s79 _ _ e7), hkd, hin d (by rw [List.dropLast_eq_take, ← hlx]; exact h3), hk'⟩
      · rw [all_true]
        exact k8 H10 (s79.trans s10)
    dsimp only [tSeq, tNext]
    refine ret_ev (b := true) (H0 := H7) (fun H8' Q8 s8 k8 => ⟨_, rfl, 1, rfl, -1, rfl, ?_⟩) s8 (fun H9 s9 => q H9 (sH.trans s9))
    dsimp only [tNoPart]
    refine rsl_of (SqT.mono s8 s7T) fun c H9 s9 hc => ?_
    have s79 := s8.trans s9
    rw [cutV_last] at hc
    refine ⟨c, rfl, ⟨_, hc⟩, fun E1 nE => ?_⟩
    refine lc_true nE hc (by rw [List.length_drop]; omega) (fun i y H10 hy s10 Kc R hk' => ?_) (fun H10 s10 e => ⟨E1, _, rfl, SqL.of e, ?_⟩)
    · obtain ⟨d, h3, h4⟩ := dpAll_at (dpAll_drop (xs.length - 1) hA7) hy
      refine ⟨rfl, tyes ?_⟩
      exact ⟨_, rfl, _, rfl, _, rfl, y, D, _, d, m, rfl, hm, dp_mono (s79.trans s10) _ _ h4, s10 _ _ (s79 _ _ e7), hkd, hlast d (last_of (by rw [← hlx]; exact h3)), hk'⟩
    · rw [all_true]
      exact k8 H10 (s79.trans s10)
end
end My8

end
section
set_option Elab.async false
set_option linter.all false
set_option maxRecDepth 100000
set_option maxHeartbeats 2000000
namespace My8
open PySem PySem.Spec PyProof.Rows L2 My
open TrM TL
abbrev s_tree_fits : Stmt := top 33
theorem e_inv4 {K : PySem.W.Frag} {σ : L2.St} {H : Hp} {i : Nat} {z w1 w2 w3 w4 : Str} (hσ : σ[i]? = some (some (.str z))) : EvE (tOp (rIn K false) (tVar i) (tTup (tCons (tC (.str w1)) (tCons (tC (.str w2)) (tCons (tC (.str w3)) (tCons (tC (.str w4)) tNil)))))) σ H (inV (.str z) [.str w1, .str w2, .str w3, .str w4]) :=
  fun H' Q hs k => ⟨_, hσ, (by show 4 ≤ sizeLine; decide), fun t nt => ⟨t, _, rfl, .inr (SqT.of upd_same), rfl, rfl, k _ (hs.trans (same_upd nt))⟩⟩
theorem dp_strAll {K : PySem.W.Frag} {H : Hp} : ∀ {ps : List Str} {xs : List V}, DpAll K H xs (ps.map .str) → xs = ps.map V.str
  | [], _, h => by cases h; rfl
  | p :: ps, _, h => by
    rw [List.map_cons] at h
    cases h with
    | cons h1 h2 => rw [dp_str h1, dp_strAll h2, List.map_cons]
theorem dp_strs {K : PySem.W.Frag} {H : Hp} {v : V} {ps : List Str} (h : Dp K H v (.tuple (ps.map .str))) : ∃ a, v = .ref a ∧ SqT K H a (ps.map V.str) := by
  obtain ⟨a, xs, rfl, hT, hA⟩ := dp_tup h
  rw [dp_strAll hA] at hT
  exact ⟨a, rfl, hT⟩
section
variable {P : Program} {w : World} {K : PySem.W.Frag} {mg : Str → Option Value} {base : Heap}
theorem sc_tree_fits : FnScope ["tree", "known", "room", "kind"] ["tree", "known", "room"] (defScope s_tree_fits) := ⟨rfl, rfl, rfl, by decide +kernel, rfl, by decide +kernel, by decide +kernel⟩
theorem ok_tree {f fK fL fN fC fM fMs fB : Addr} {fd fdK fdL fdN fdC fdM fdMs fdB : FuncData} {n k : Nat} (F : FnP K "tree_fits" s_tree_fits f fd)
    (G_kind_of : FnOk P w K mg base CX0 (k + 1) fK fdK ["thing"] (spKind K)) (g_kind_of : mg "kind_of" = some (.ref fK)) (k_kind_of : PySem.W.keepIn K (.ref fK) = true) (b_kind_of : Binds K fdK ["thing"] [])
    (G_literal_fits : FnOk P w K mg base CX0 (k + 1) fL fdL ["tree", "room"] (spLit K (n + 1))) (g_literal_fits : mg "literal_fits" = some (.ref fL)) (k_literal_fits : PySem.W.keepIn K (.ref fL) = true) (b_literal_fits : Binds K fdL ["tree", "room"] [])
    (G_is_name : FnOk P w K mg base CX0 (k + 1) fN fdN ["thing"] spIsName) (g_is_name : mg "is_name" = some (.ref fN)) (k_is_name : PySem.W.keepIn K (.ref fN) = true) (b_is_name : Binds K fdN ["thing"] [])
    (G_can_be_set : FnOk P w K mg base CX0 (k + 1) fC fdC ["name", "known"] spCan) (g_can_be_set : mg "can_be_set" = some (.ref fC)) (k_can_be_set : PySem.W.keepIn K (.ref fC) = true) (b_can_be_set : Binds K fdC ["name", "known"] [])
    (G_tree_fits : FnOk P w K mg base CX0 (k + 1) f fd ["tree", "known", "room"] (spTree K n)) (g_tree_fits : mg "tree_fits" = some (.ref f)) (k_tree_fits : PySem.W.keepIn K (.ref f) = true) (b_tree_fits : Binds K fd ["tree", "known", "room"] [])
    (G_message_fits : FnOk P w K mg base CX0 (k + 1) fM fdM ["message", "known", "room"] (spMsg K n)) (g_message_fits : mg "message_fits" = some (.ref fM)) (k_message_fits : PySem.W.keepIn K (.ref fM) = true) (b_message_fits : Binds K fdM ["message", "known", "room"] [])
    (G_messages_fit : FnOk P w K mg base CX0 (k + 1) fMs fdMs ["messages", "known", "room"] (spMsgs K n)) (g_messages_fit : mg "messages_fit" = some (.ref fMs)) (k_messages_fit : PySem.W.keepIn K (.ref fMs) = true) (b_messages_fit : Binds K fdMs ["messages", "known", "room"] [])
    (G_body_fits : FnOk P w K mg base CX0 (k + 1) fB fdB ["parameters", "variables", "statements", "known", "room"] (spBody K n)) (g_body_fits : mg "body_fits" = some (.ref fB)) (k_body_fits : PySem.W.keepIn K (.ref fB) = true) (b_body_fits : Binds K fdB ["parameters", "variables", "statements", "known", "room"] []) :
    FnOk P w K mg base CX0 (k + 2) f fd ["tree", "known", "room"] (spTree K (n + 1)) := by
  refine F.ok sc_tree_fits (fun vs H Q E h => ?_) (fun cdv A outer s H vs Q E hr h => ⟨_, PSs.nox
    (pss_cons (ps_set (i := 3) sc_tree_fits.nd rfl (Or.inl rfl) (pe_call G_kind_of (hr.mono (Nat.le_refl _)) rfl g_kind_of k_kind_of b_kind_of .nil pass0 (pa_cons (pv 0) pa_nil)))
      (pss_cons (ps_if (pt_cmpR op_le (pv 2) pe_int (nomark _)) (pss_one (ps_ret pe_bl)) pss_nil)
      (pss_cons (ps_if (pt_cmpR op_in_seq (pv 3) (pe_tup (pa_cons pe_str (pa_cons pe_str (pa_cons pe_str (pa_cons pe_str pa_nil))))) (by rfl)) (pss_one (ps_ret (pe_call G_literal_fits (hr.mono (Nat.le_refl _)) rfl g_literal_fits k_literal_fits b_literal_fits .nil pass0 (pa_cons (pv 0) (pa_cons (pv 2) pa_nil))))) pss_nil)
      (pss_cons (ps_if (pt_cmpR op_eq (pv 3) pe_str (nomark _)) (pss_one (ps_ret (pe_and (pe_call G_is_name (hr.mono (Nat.le_refl _)) rfl g_is_name k_is_name b_is_name .nil pass0 (pa_cons (pe_ix ix_tup (pv 0) pe_int (fun _ _ => rfl)) pa_nil)) (pe_one (pe_cmpR op_ne (pe_ix ix_tup (pv 0) pe_int (fun _ _ => rfl)) pe_str (nomark _)))))) pss_nil)
      (pss_cons (ps_if (pt_cmpR op_eq (pv 3) pe_str (nomark _)) (pss_one (ps_ret (pe_and (pe_call G_can_be_set (hr.mono (Nat.le_refl _)) rfl g_can_be_set k_can_be_set b_can_be_set .nil pass0 (pa_cons (pe_ix ix_tup (pv 0) pe_int (fun _ _ => rfl)) (pa_cons (pv 1) pa_nil))) (pe_one (pe_call G_tree_fits (hr.mono (Nat.le_refl _)) rfl g_tree_fits k_tree_fits b_tree_fits .nil pass0 (pa_cons (pe_ix ix_tup (pv 0) pe_int (fun _ _ => rfl)) (pa_cons (pv 1) (pa_cons (pe_op op_sub (pv 2) pe_int) pa_nil)))))))) pss_nil)
      (pss_cons (ps_if (pt_cmpR op_eq (pv 3) pe_str (nomark _)) (pss_one (ps_ret (pe_and (pe_call G_tree_fits (hr.mono (Nat.le_refl _)) rfl g_tree_fits k_tree_fits b_tree_fits .nil pass0 (pa_cons (pe_ix ix_tup (pv 0) pe_int (fun _ _ => rfl)) (pa_cons (pv 1) (pa_cons (pe_op op_sub (pv 2) pe_int) pa_nil)))) (pe_one (pe_call G_message_fits (hr.mono (Nat.le_refl _)) rfl g_message_fits k_message_fits b_message_fits .nil pass0 (pa_cons (pe_slice sl_tupA (pv 0) (po_some pe_int) po_none) (pa_cons (pv 1) (pa_cons (pe_op op_sub (pv 2) pe_int) pa_nil)))))))) pss_nil)
      (pss_cons (ps_if (pt_cmpR op_eq (pv 3) pe_str (nomark _)) (pss_one (ps_ret (pe_call G_message_fits (hr.mono (Nat.le_refl _)) rfl g_message_fits k_message_fits b_message_fits .nil pass0 (pa_cons (pe_slice sl_tupA (pv 0) (po_some pe_int) po_none) (pa_cons (pv 1) (pa_cons (pe_op op_sub (pv 2) pe_int) pa_nil)))))) pss_nil)
      (pss_cons (ps_if (pt_cmpR op_eq (pv 3) pe_str (nomark _)) (pss_one (ps_ret (pe_and (pe_call G_tree_fits (hr.mono (Nat.le_refl _)) rfl g_tree_fits k_tree_fits b_tree_fits .nil pass0 (pa_cons (pe_ix ix_tup (pv 0) pe_int (fun _ _ => rfl)) (pa_cons (pv 1) (pa_cons (pe_op op_sub (pv 2) pe_int) pa_nil)))) (pe_one (pe_call G_messages_fit (hr.mono (Nat.le_refl _)) rfl g_messages_fit k_messages_fit b_messages_fit .nil pass0 (pa_cons (pe_ix ix_tup (pv 0) pe_int (fun _ _ => rfl)) (pa_cons (pv 1) (pa_cons (pe_op op_sub (pv 2) pe_int) pa_nil)))))))) pss_nil)
      (pss_one (ps_ret (pe_and (pe_cmpR op_eq (pv 3) pe_str (nomark _)) (pe_one (pe_call G_body_fits (hr.mono (Nat.le_refl _)) rfl g_body_fits k_body_fits b_body_fits .nil pass0 (pa_cons (pe_ix ix_tup (pv 0) pe_int (fun _ _ => rfl)) (pa_cons (pe_ix ix_tup (pv 0) pe_int (fun _ _ => rfl)) (pa_cons (pe_ix ix_tup (pv 0) pe_int (fun _ _ => rfl)) (pa_cons (pv 1) (pa_cons (pe_op op_sub (pv 2) pe_int) pa_nil)))))))))))))))))), ?_⟩)
  · obtain ⟨v, a, ks, d, m, rfl, _⟩ := h
    rfl
  obtain ⟨v, a, ks, d, m, rfl, hm, hd, hK, hk, hf, q⟩ := h
  dsimp only [tSeq, tNext]
  cases hf with
  | lit hl =>
    obtain ⟨a0, z, u, rfl, hT, hz, hpos, key⟩ := lit_key hd hl
    refine ⟨_, rfl, a0, z, [u], rfl, hT, hz, fun H1 s1 => ?_⟩
    dsimp only [tSeq, tNext]
    refine if_ev (H0 := H) (b := false) (EvT.to (b := decide ((m : Int) ≤ 0)) (fun H' Q hs k => ⟨_, rfl, _, _, rfl, rfl, _, rfl, k H' hs⟩) (decide_eq_false (by omega))) s1 (fun h => by cases h) (fun _ H2 s2 => ?_)
    dsimp only [tSeq, tNext]
    have hin : inV (.str z) [.str kI, .str kS, .str kY, .str kA] = true := by
      rcases key with ⟨hk, _⟩ | ⟨hk, _⟩ | ⟨hk, _⟩
      · subst hk; decide +kernel
      · rcases hk with rfl | rfl <;> decide +kernel
      · subst hk; decide +kernel
    refine if_ev (H0 := H) (b := true) (EvT.to (evt_test (e_inv4 rfl)) hin) s2 (fun _ H3 s3 => ?_) (fun h => by cases h)
    exact ⟨_, rfl, _, rfl, .ref a0, d, m, rfl, hm, dp_mono s3 _ _ hd, hl, fun H4 s4 => q H4 (s3.trans s4)⟩
  | @var _ n' z hz hne =>
    obtain ⟨a0, u, rfl, hT, hu⟩ := dp_two hd
    obtain rfl := dp_str hu
    refine ⟨_, rfl, a0, kV, [.str z], rfl, hT, (by decide +kernel : (kV, (2 : Int)) ∈ shapes), fun H1 s1 => ?_⟩
    dsimp only [tSeq, tNext]
    refine if_ev (H0 := H) (b := false) (EvT.to (b := decide (((n' + 1 : Nat) : Int) ≤ 0)) (fun H' Q hs k => ⟨_, rfl, _, _, rfl, rfl, _, rfl, k H' hs⟩) (decide_eq_false (by omega))) s1 (fun h => by cases h) (fun _ H2 s2 => ?_)
    dsimp only [tSeq, tNext]
    have em : V.int (((n' + 1 : Nat) : Int) - 1) = V.int (n' : Int) := congrArg V.int (by omega)
    refine if_ev (H0 := H) (b := false) (EvT.to (evt_test (e_inv4 rfl)) (by decide +kernel)) s2 (fun h => by cases h) (fun _ H3 s3 => ?_)
    dsimp only [tSeq, tNext]
    refine if_ev (H0 := H) (b := true) (EvT.to (evt_test (e_var rfl)) (by decide +kernel)) s3 (fun _ H4 s4 => ?_) (fun h => by cases h)
    have hB : nameB (codesOf z) = true := (nameB_iff _).mpr hz
    have hl : z.length ≤ 100000 := Nat.le_trans (show z.length ≤ 40 from hz.le) (by decide)
    refine ret_ev (H0 := H) (b := (true && true)) (eve_and (fun H' Q hs k => ⟨_, rfl, _, _, _, _, rfl, rfl, SqT.mono hs hT, atI_nat rfl, z, rfl, name_asc hz, hl, fun H'' s'' => by rw [hB]; exact k H'' (hs.trans s'')⟩) fun _ => EvE.to (b := !decide (V.str z = V.str (Str.ofString "super"))) (fun H' Q hs k => ⟨_, rfl, _, _, _, _, rfl, rfl, SqT.mono hs hT, atI_nat rfl, rfl, k H' hs⟩) (by rw [str_ne hne]; rfl)) s4 fun H' s' => q H' s'
  | @set _ n' z t hz hne ht =>
    obtain ⟨a0, xs, rfl, hT, hA⟩ := dp_tup hd
    cases hA with | cons h1 h2 => cases h2 with | cons h3 h4 => cases h4 with | cons h5 h6 =>
    cases h6
    rw [dp_str h1, dp_str h3] at hT
    rename_i _ _ u
    refine ⟨_, rfl, a0, kSet, [.str z, u], rfl, hT, (by decide +kernel : (kSet, (3 : Int)) ∈ shapes), fun H1 s1 => ?_⟩
    dsimp only [tSeq, tNext]
    refine if_ev (H0 := H) (b := false) (EvT.to (b := decide (((n' + 1 : Nat) : Int) ≤ 0)) (fun H' Q hs k => ⟨_, rfl, _, _, rfl, rfl, _, rfl, k H' hs⟩) (decide_eq_false (by omega))) s1 (fun h => by cases h) (fun _ H2 s2 => ?_)
    dsimp only [tSeq, tNext]
    have em : V.int (((n' + 1 : Nat) : Int) - 1) = V.int (n' : Int) := congrArg V.int (by omega)
    refine if_ev (H0 := H) (b := false) (EvT.to (evt_test (e_inv4 rfl)) (by decide +kernel)) s2 (fun h => by cases h) (fun _ H3 s3 => ?_)
    dsimp only [tSeq, tNext]
    refine if_ev (H0 := H) (b := false) (EvT.to (evt_test (e_var rfl)) (by decide +kernel)) s3 (fun h => by cases h) (fun _ H4 s4 => ?_)
    dsimp only [tSeq, tNext]
    refine if_ev (H0 := H) (b := true) (EvT.to (evt_test (e_var rfl)) (by decide +kernel)) s4 (fun _ H5 s5 => ?_) (fun h => by cases h)
    refine ret_ev (H0 := H) (b := (true && true)) (eve_and (fun H' Q hs k => ⟨_, rfl, _, _, _, _, rfl, rfl, SqT.mono hs hT, atI_nat rfl, _, rfl, z, a, ks, rfl, hs _ _ hK, hz, hne, fun H'' s'' => k H'' (hs.trans s'')⟩) fun _ => fun H' Q hs k => ⟨_, rfl, _, _, _, _, rfl, rfl, SqT.mono hs hT, atI_nat rfl, _, rfl, _, rfl, _, _, rfl, rfl, u, a, ks, t, n', by rw [← em]; rfl, by omega, dp_mono hs _ _ h5, hs _ _ hK, by omega, ht, fun H'' s'' => k H'' (hs.trans s'')⟩) s5 fun H' s' => q H' s'
  | @send _ n' t sl ar ht hmf =>
    obtain ⟨a0, xs, rfl, hT, hA⟩ := dp_tup hd
    cases hA with | cons h1 h2 => cases h2 with | cons h3 h4 => cases h4 with | cons h5 h6 => cases h6 with | cons h7 h8 =>
    cases h8
    rw [dp_str h1] at hT
    rename_i _ u us ua
    refine ⟨_, rfl, a0, kSend, [u, us, ua], rfl, hT, (by decide +kernel : (kSend, (4 : Int)) ∈ shapes), fun H1 s1 => ?_⟩
    dsimp only [tSeq, tNext]
    refine if_ev (H0 := H) (b := false) (EvT.to (b := decide (((n' + 1 : Nat) : Int) ≤ 0)) (fun H' Q hs k => ⟨_, rfl, _, _, rfl, rfl, _, rfl, k H' hs⟩) (decide_eq_false (by omega))) s1 (fun h => by cases h) (fun _ H2 s2 => ?_)
    dsimp only [tSeq, tNext]
    have em : V.int (((n' + 1 : Nat) : Int) - 1) = V.int (n' : Int) := congrArg V.int (by omega)
    refine if_ev (H0 := H) (b := false) (EvT.to (evt_test (e_inv4 rfl)) (by decide +kernel)) s2 (fun h => by cases h) (fun _ H3 s3 => ?_)
    dsimp only [tSeq, tNext]
    refine if_ev (H0 := H) (b := false) (EvT.to (evt_test (e_var rfl)) (by decide +kernel)) s3 (fun h => by cases h) (fun _ H4 s4 => ?_)
    dsimp only [tSeq, tNext]
    refine if_ev (H0 := H) (b := false) (EvT.to (evt_test (e_var rfl)) (by decide +kernel)) s4 (fun h => by cases h) (fun _ H5 s5 => ?_)
    dsimp only [tSeq, tNext]
    refine if_ev (H0 := H) (b := true) (EvT.to (evt_test (e_var rfl)) (by decide +kernel)) s5 (fun _ H6 s6 => ?_) (fun h => by cases h)
    refine ret_ev (H0 := H) (b := (true && true)) (eve_and (fun H' Q hs k => ⟨_, rfl, _, _, _, _, rfl, rfl, SqT.mono hs hT, atI_nat rfl, _, rfl, _, rfl, _, _, rfl, rfl, u, a, ks, t, n', by rw [← em]; rfl, by omega, dp_mono hs _ _ h3, hs _ _ hK, by omega, ht, fun H'' s'' => k H'' (hs.trans s'')⟩) fun _ => fun H' Q hs k => ⟨_, rfl, 2, rfl, ?_⟩) s6 fun H' s' => q H' s'
    dsimp only [tNoPart]
    refine rsl_of (SqT.mono hs hT) fun c H'' s'' hc => ?_
    have hc : SqT K H'' c [us, ua] := hc
    have st := hs.trans s''
    exact ⟨_, rfl, _, rfl, _, _, rfl, rfl, .ref c, a, ks, _, n', by rw [← em]; rfl, by omega, Dp.tup hc (.cons (dp_mono st _ _ h5) (.cons (dp_mono st _ _ h7) .nil)), st _ _ hK, by omega, hmf, fun H3' s3' => k H3' (st.trans s3')⟩
  | @super _ n' sl ar hmf =>
    obtain ⟨a0, xs, rfl, hT, hA⟩ := dp_tup hd
    cases hA with | cons h1 h2 => cases h2 with | cons h3 h4 => cases h4 with | cons h5 h6 =>
    cases h6
    rw [dp_str h1] at hT
    rename_i _ us ua
    refine ⟨_, rfl, a0, kSuper, [us, ua], rfl, hT, (by decide +kernel : (kSuper, (3 : Int)) ∈ shapes), fun H1 s1 => ?_⟩
    dsimp only [tSeq, tNext]
    refine if_ev (H0 := H) (b := false) (EvT.to (b := decide (((n' + 1 : Nat) : Int) ≤ 0)) (fun H' Q hs k => ⟨_, rfl, _, _, rfl, rfl, _, rfl, k H' hs⟩) (decide_eq_false (by omega))) s1 (fun h => by cases h) (fun _ H2 s2 => ?_)
    dsimp only [tSeq, tNext]
    have em : V.int (((n' + 1 : Nat) : Int) - 1) = V.int (n' : Int) := congrArg V.int (by omega)
    refine if_ev (H0 := H) (b := false) (EvT.to (evt_test (e_inv4 rfl)) (by decide +kernel)) s2 (fun h => by cases h) (fun _ H3 s3 => ?_)
    dsimp only [tSeq, tNext]
    refine if_ev (H0 := H) (b := false) (EvT.to (evt_test (e_var rfl)) (by decide +kernel)) s3 (fun h => by cases h) (fun _ H4 s4 => ?_)
    dsimp only [tSeq, tNext]
    refine if_ev (H0 := H) (b := false) (EvT.to (evt_test (e_var rfl)) (by decide +kernel)) s4 (fun h => by cases h) (fun _ H5 s5 => ?_)
    dsimp only [tSeq, tNext]
    refine if_ev (H0 := H) (b := false) (EvT.to (evt_test (e_var rfl)) (by decide +kernel)) s5 (fun h => by cases h) (fun _ H6 s6 => ?_)
    dsimp only [tSeq, tNext]
    refine if_ev (H0 := H) (b := true) (EvT.to (evt_test (e_var rfl)) (by decide +kernel)) s6 (fun _ H7 s7 => ?_) (fun h => by cases h)
    refine ret_ev (H0 := H) (b := true) (fun H' Q hs k => ⟨_, rfl, 1, rfl, ?_⟩) s7 fun H' s' => q H' s'
    dsimp only [tNoPart]
    refine rsl_of (SqT.mono hs hT) fun c H'' s'' hc => ?_
    have hc : SqT K H'' c [us, ua] := hc
    have st := hs.trans s''
    exact ⟨_, rfl, _, rfl, _, _, rfl, rfl, .ref c, a, ks, _, n', by rw [← em]; rfl, by omega, Dp.tup hc (.cons (dp_mono st _ _ h3) (.cons (dp_mono st _ _ h5) .nil)), st _ _ hK, by omega, hmf, fun H3' s3' => k H3' (st.trans s3')⟩
  | @casc _ n' t ms ht h2m hmn hmf =>
    obtain ⟨a0, xs, rfl, hT, hA⟩ := dp_tup hd
    cases hA with | cons h1 h2 => cases h2 with | cons h3 h4 => cases h4 with | cons h5 h6 =>
    cases h6
    rw [dp_str h1] at hT
    rename_i _ u um
    refine ⟨_, rfl, a0, kCasc, [u, um], rfl, hT, (by decide +kernel : (kCasc, (3 : Int)) ∈ shapes), fun H1 s1 => ?_⟩
    dsimp only [tSeq, tNext]
    refine if_ev (H0 := H) (b := false) (EvT.to (b := decide (((n' + 1 : Nat) : Int) ≤ 0)) (fun H' Q hs k => ⟨_, rfl, _, _, rfl, rfl, _, rfl, k H' hs⟩) (decide_eq_false (by omega))) s1 (fun h => by cases h) (fun _ H2 s2 => ?_)
    dsimp only [tSeq, tNext]
    have em : V.int (((n' + 1 : Nat) : Int) - 1) = V.int (n' : Int) := congrArg V.int (by omega)
    refine if_ev (H0 := H) (b := false) (EvT.to (evt_test (e_inv4 rfl)) (by decide +kernel)) s2 (fun h => by cases h) (fun _ H3 s3 => ?_)
    dsimp only [tSeq, tNext]
    refine if_ev (H0 := H) (b := false) (EvT.to (evt_test (e_var rfl)) (by decide +kernel)) s3 (fun h => by cases h) (fun _ H4 s4 => ?_)
    dsimp only [tSeq, tNext]
    refine if_ev (H0 := H) (b := false) (EvT.to (evt_test (e_var rfl)) (by decide +kernel)) s4 (fun h => by cases h) (fun _ H5 s5 => ?_)
    dsimp only [tSeq, tNext]
    refine if_ev (H0 := H) (b := false) (EvT.to (evt_test (e_var rfl)) (by decide +kernel)) s5 (fun h => by cases h) (fun _ H6 s6 => ?_)
    dsimp only [tSeq, tNext]
    refine if_ev (H0 := H) (b := false) (EvT.to (evt_test (e_var rfl)) (by decide +kernel)) s6 (fun h => by cases h) (fun _ H7 s7 => ?_)
    dsimp only [tSeq, tNext]
    refine if_ev (H0 := H) (b := true) (EvT.to (evt_test (e_var rfl)) (by decide +kernel)) s7 (fun _ H8 s8 => ?_) (fun h => by cases h)
    refine ret_ev (H0 := H) (b := (true && true)) (eve_and (fun H' Q hs k => ⟨_, rfl, _, _, _, _, rfl, rfl, SqT.mono hs hT, atI_nat rfl, _, rfl, _, rfl, _, _, rfl, rfl, u, a, ks, t, n', by rw [← em]; rfl, by omega, dp_mono hs _ _ h3, hs _ _ hK, by omega, ht, fun H'' s'' => k H'' (hs.trans s'')⟩) fun _ => fun H' Q hs k => ⟨_, rfl, _, _, _, _, rfl, rfl, SqT.mono hs hT, atI_nat rfl, _, rfl, _, rfl, _, _, rfl, rfl, um, a, ks, ms, n', by rw [← em]; rfl, by omega, dp_mono hs _ _ h5, hs _ _ hK, by omega, h2m, hmn, hmf, fun H'' s'' => k H'' (hs.trans s'')⟩) s8 fun H' s' => q H' s'
  | @block _ n' pn vn sts hb =>
    obtain ⟨a0, xs, rfl, hT, hA⟩ := dp_tup hd
    cases hA with | cons h1 h2 => cases h2 with | cons h3 h4 => cases h4 with | cons h5 h6 => cases h6 with | cons h7 h8 =>
    cases h8
    rw [dp_str h1] at hT
    obtain ⟨bp, rfl, hp⟩ := dp_strs h3
    obtain ⟨bv, rfl, hv⟩ := dp_strs h5
    obtain ⟨bs, ys, rfl, hs1, hs2⟩ := dp_tup h7
    refine ⟨_, rfl, a0, kBlock, [.ref bp, .ref bv, .ref bs], rfl, hT, (by decide +kernel : (kBlock, (4 : Int)) ∈ shapes), fun H1 s1 => ?_⟩
    dsimp only [tSeq, tNext]
    refine if_ev (H0 := H) (b := false) (EvT.to (b := decide (((n' + 1 : Nat) : Int) ≤ 0)) (fun H' Q hs k => ⟨_, rfl, _, _, rfl, rfl, _, rfl, k H' hs⟩) (decide_eq_false (by omega))) s1 (fun h => by cases h) (fun _ H2 s2 => ?_)
    dsimp only [tSeq, tNext]
    have em : V.int (((n' + 1 : Nat) : Int) - 1) = V.int (n' : Int) := congrArg V.int (by omega)
    refine if_ev (H0 := H) (b := false) (EvT.to (evt_test (e_inv4 rfl)) (by decide +kernel)) s2 (fun h => by cases h) (fun _ H3 s3 => ?_)
    dsimp only [tSeq, tNext]
    refine if_ev (H0 := H) (b := false) (EvT.to (evt_test (e_var rfl)) (by decide +kernel)) s3 (fun h => by cases h) (fun _ H4 s4 => ?_)
    dsimp only [tSeq, tNext]
    refine if_ev (H0 := H) (b := false) (EvT.to (evt_test (e_var rfl)) (by decide +kernel)) s4 (fun h => by cases h) (fun _ H5 s5 => ?_)
    dsimp only [tSeq, tNext]
    refine if_ev (H0 := H) (b := false) (EvT.to (evt_test (e_var rfl)) (by decide +kernel)) s5 (fun h => by cases h) (fun _ H6 s6 => ?_)
    dsimp only [tSeq, tNext]
    refine if_ev (H0 := H) (b := false) (EvT.to (evt_test (e_var rfl)) (by decide +kernel)) s6 (fun h => by cases h) (fun _ H7 s7 => ?_)
    dsimp only [tSeq, tNext]
    refine if_ev (H0 := H) (b := false) (EvT.to (evt_test (e_var rfl)) (by decide +kernel)) s7 (fun h => by cases h) (fun _ H8 s8 => ?_)
    dsimp only [tSeq, tNext]
    have hnd : (ks.map (·.1)).Nodup := by
      cases hb with
      | mk _ _ _ _ hn _ _ => exact (List.nodup_append.mp hn).1
    refine ret_ev (H0 := H) (b := (true && true)) (eve_and (EvE.to (e_var rfl) (by decide +kernel)) fun _ => fun H' Q hs k => ⟨_, rfl, _, _, _, _, rfl, rfl, SqT.mono hs hT, atI_nat rfl, _, rfl, _, _, _, _, rfl, rfl, SqT.mono hs hT, atI_nat rfl, _, rfl, _, _, _, _, rfl, rfl, SqT.mono hs hT, atI_nat rfl, _, rfl, _, rfl, _, _, rfl, rfl, bp, bv, bs, a, ks, pn, vn, ys, sts, n', by rw [← em]; rfl, by omega, SqT.mono hs hp, SqT.mono hs hv, SqT.mono hs hs1, dp_monoAll hs _ _ hs2, hs _ _ hK, by omega, hnd, hb, fun H'' s'' => k H'' (hs.trans s'')⟩) s8 fun H' s' => q H' s'
end
end My8

end
section
set_option Elab.async false
set_option linter.all false
set_option maxRecDepth 100000
set_option maxHeartbeats 2000000
namespace My8
open PySem PySem.Spec PyProof.Rows L2 My
open TrM TL
abbrev s_is_method_form : Stmt := top 29
abbrev s_check_tree : Stmt := top 42
/-- a statement that is never come to -/
theorem ps_never {X : Cx} {st : Stmt} : PS X st (fun _ _ _ => False) := ⟨fun _ _ _ _ _ _ h => h.elim⟩
/-- the tree of a method -/
inductive Mt : PyData → Prop
  | mk {s : Str} {ps vs : List Str} {sts : List PyData} : Sel (codesOf s) ps.length → Bf [] 39 ps vs sts → Mt (.tuple [.str kMeth, .str s, .tuple (ps.map .str), .tuple (vs.map .str), .tuple sts])
/-- the defs of trees, at their addresses -/
structure TreeDefs (K : PySem.W.Frag) (mg : Str → Option Value) (fN fLo fKy fAr fCan fMsg fMsgs fLast fDec fBody fTree : Addr) (fdN fdLo fdKy fdAr fdCan fdMsg fdMsgs fdLast fdDec fdBody fdTree : FuncData) : Prop where
  nm : FnP K "is_name" s_is_name fN fdN
  lo : FnP K "is_local_word" s_is_local_word fLo fdLo
  ky : FnP K "is_keywords" s_is_keywords fKy fdKy
  ar : FnP K "arity_of" s_arity_of fAr fdAr
  can : FnP K "can_be_set" s_can_be_set fCan fdCan
  msg : FnP K "message_fits" s_message_fits fMsg fdMsg
  msgs : FnP K "messages_fit" s_messages_fit fMsgs fdMsgs
  last : FnP K "last_fits" s_last_fits fLast fdLast
  dec : FnP K "declare_all" s_declare_all fDec fdDec
  body : FnP K "body_fits" s_body_fits fBody fdBody
  tree : FnP K "tree_fits" s_tree_fits fTree fdTree
  g_nm : mg "is_name" = some (.ref fN)
  g_lo : mg "is_local_word" = some (.ref fLo)
  g_ky : mg "is_keywords" = some (.ref fKy)
  g_ar : mg "arity_of" = some (.ref fAr)
  g_can : mg "can_be_set" = some (.ref fCan)
  g_msg : mg "message_fits" = some (.ref fMsg)
  g_msgs : mg "messages_fit" = some (.ref fMsgs)
  g_last : mg "last_fits" = some (.ref fLast)
  g_dec : mg "declare_all" = some (.ref fDec)
  g_body : mg "body_fits" = some (.ref fBody)
  g_tree : mg "tree_fits" = some (.ref fTree)
  g_LN : ∃ t, mg "LONGEST_NAME" = some (.int 40 t)
  g_LS : ∃ t, mg "LONGEST_SELECTOR" = some (.int 100 t)
  g_MP : ∃ t, mg "MOST_PARAMETERS" = some (.int 20 t)
  g_OP : TupAt K mg "OPERATORS" Tok.ops
  g_FW : TupAt K mg "FIVE_WORDS" five
section
variable {P : Program} {w : World} {K : PySem.W.Frag} {mg : Str → Option Value} {base : Heap}
variable {fK fS fX fL fI fM : Addr} {fdK fdS fdX fdL fdI fdM : FuncData}
variable {fN fLo fKy fAr fCan fMsg fMsgs fLast fDec fBody fTree : Addr} {fdN fdLo fdKy fdAr fdCan fdMsg fdMsgs fdLast fdDec fdBody fdTree : FuncData}
theorem tree_none {f : Addr} {fd : FuncData} {k : Nat} : FnOk P w K mg base CX0 k f fd ["tree", "known", "room"] (spTree K 0) := by
  have no : ∀ vs H Q E, ¬ spTree K 0 vs H Q E := fun vs H Q E h => by
    obtain ⟨v, a, ks, d, m, rfl, hm, hd, _, _, hl, _⟩ := h
    have : m = 0 := by omega
    subst this
    have := (tree_head hd hl).1
    omega
  exact ⟨fun vs H Q E h => absurd h (no vs H Q E), fun A outer s H args us vs Q E _ _ _ _ h => absurd h (no vs H Q E)⟩
theorem trees (D : LitDefs K w mg fK fS fX fL fI fM fdK fdS fdX fdL fdI fdM) (T : TreeDefs K mg fN fLo fKy fAr fCan fMsg fMsgs fLast fDec fBody fTree fdN fdLo fdKy fdAr fdCan fdMsg fdMsgs fdLast fdDec fdBody fdTree) :
    ∀ n : Nat, FnOk P w K mg base CX0 (3 * n + 4) fTree fdTree ["tree", "known", "room"] (spTree K n) ∧ FnOk P w K mg base CX0 (3 * n + 6) fBody fdBody ["parameters", "variables", "statements", "known", "room"] (spBody K n) := by
  obtain ⟨d, g_SH, hSH⟩ := D.g_SH
  have Gk : FnOk P w K mg base CX0 1 fK fdK ["thing"] (spKind K) := ok_kind_of D.kd D.g_isinstance D.g_tuple D.g_str D.g_len g_SH hSH
  have bk : Binds K fdK ["thing"] [] := D.kd.bindsN fun _ _ _ _ _ _ us hl => match us, hl with | [_], _ => rfl
  have bl : Binds K fdL ["tree", "room"] [] := D.lt.bindsN fun _ _ _ _ _ _ us hl => match us, hl with | [_, _], _ => rfl
  have bn : Binds K fdN ["thing"] [] := T.nm.bindsN fun _ _ _ _ _ _ us hl => match us, hl with | [_], _ => rfl
  have blo : Binds K fdLo ["thing"] [] := T.lo.bindsN fun _ _ _ _ _ _ us hl => match us, hl with | [_], _ => rfl
  have bky : Binds K fdKy ["thing"] [] := T.ky.bindsN fun _ _ _ _ _ _ us hl => match us, hl with | [_], _ => rfl
  have bar : Binds K fdAr ["thing"] [] := T.ar.bindsN fun _ _ _ _ _ _ us hl => match us, hl with | [_], _ => rfl
  have bcan : Binds K fdCan ["name", "known"] [] := T.can.bindsN fun _ _ _ _ _ _ us hl => match us, hl with | [_, _], _ => rfl
  have bmsg : Binds K fdMsg ["message", "known", "room"] [] := T.msg.bindsN fun _ _ _ _ _ _ us hl => match us, hl with | [_, _, _], _ => rfl
  have bmsgs : Binds K fdMsgs ["messages", "known", "room"] [] := T.msgs.bindsN fun _ _ _ _ _ _ us hl => match us, hl with | [_, _, _], _ => rfl
  have blast : Binds K fdLast ["tree", "known", "room"] [] := T.last.bindsN fun _ _ _ _ _ _ us hl => match us, hl with | [_, _, _], _ => rfl
  have bdec : Binds K fdDec ["names", "known", "as_parameter"] [] := T.dec.bindsN fun _ _ _ _ _ _ us hl => match us, hl with | [_, _, _], _ => rfl
  have bbody : Binds K fdBody ["parameters", "variables", "statements", "known", "room"] [] := T.body.bindsN fun _ _ _ _ _ _ us hl => match us, hl with | [_, _, _, _, _], _ => rfl
  have btree : Binds K fdTree ["tree", "known", "room"] [] := T.tree.bindsN fun _ _ _ _ _ _ us hl => match us, hl with | [_, _, _], _ => rfl
  have Gn : FnOk P w K mg base CX0 1 fN fdN ["thing"] spIsName := ok_is_name T.nm D.g_isinstance D.g_str D.g_len T.g_LN
  have Glo : FnOk P w K mg base CX0 2 fLo fdLo ["thing"] spIsLocal := ok_is_local T.lo Gn T.g_nm T.nm.kp bn T.g_FW
  have Gky : FnOk P w K mg base CX0 2 fKy fdKy ["thing"] spIsKeys := ok_is_keywords T.ky Gn T.g_nm T.nm.kp bn D.g_isinstance D.g_str D.g_all
  have Gar : FnOk P w K mg base CX0 3 fAr fdAr ["thing"] spArity := ok_arity T.ar Gn T.g_nm T.nm.kp bn Gky T.g_ky T.ky.kp bky D.g_isinstance D.g_str D.g_len T.g_OP T.g_LS
  have Gcan : FnOk P w K mg base CX0 3 fCan fdCan ["name", "known"] spCan := ok_can T.can Glo T.g_lo T.lo.kp blo
  have Gdec : FnOk P w K mg base CX0 3 fDec fdDec ["names", "known", "as_parameter"] (spDecl K) := ok_declare T.dec Glo T.g_lo T.lo.kp blo
  have rest : ∀ n, FnOk P w K mg base CX0 (3 * n + 4) fTree fdTree ["tree", "known", "room"] (spTree K n) → FnOk P w K mg base CX0 (3 * n + 5) fMsg fdMsg ["message", "known", "room"] (spMsg K n) ∧ FnOk P w K mg base CX0 (3 * n + 6) fMsgs fdMsgs ["messages", "known", "room"] (spMsgs K n) ∧ FnOk P w K mg base CX0 (3 * n + 6) fBody fdBody ["parameters", "variables", "statements", "known", "room"] (spBody K n) := fun n h => by
    have hm : FnOk P w K mg base CX0 (3 * n + 5) fMsg fdMsg ["message", "known", "room"] (spMsg K n) := ok_message (k := 3 * n + 3) T.msg (Gar.mono (by omega)) T.g_ar T.ar.kp bar h T.g_tree T.tree.kp btree D.g_isinstance D.g_tuple D.g_all D.g_len
    have hms : FnOk P w K mg base CX0 (3 * n + 6) fMsgs fdMsgs ["messages", "known", "room"] (spMsgs K n) := ok_messages (k := 3 * n + 4) T.msgs hm T.g_msg T.msg.kp bmsg D.g_isinstance D.g_tuple D.g_all D.g_len
    have hl : FnOk P w K mg base CX0 (3 * n + 5) fLast fdLast ["tree", "known", "room"] (spLast K n) := ok_last (k := 3 * n + 3) T.last (Gk.mono (by omega)) D.g_kd D.kd.kp bk h T.g_tree T.tree.kp btree
    exact ⟨hm, hms, ok_body (k := 3 * n + 4) T.body (Gdec.mono (by omega)) T.g_dec T.dec.kp bdec (h.mono (by omega)) T.g_tree T.tree.kp btree hl T.g_last T.last.kp blast D.g_isinstance D.g_tuple D.g_all D.g_len T.g_MP⟩
  have tr : ∀ n, FnOk P w K mg base CX0 (3 * n + 4) fTree fdTree ["tree", "known", "room"] (spTree K n) := fun n => by
    induction n with
    | zero => exact tree_none
    | succ n ih =>
      obtain ⟨r1, r2, r3⟩ := rest n ih
      exact ok_tree (k := 3 * n + 5) T.tree (Gk.mono (by omega)) D.g_kd D.kd.kp bk (((lits D (n + 1)).1).mono (by omega)) D.g_lt D.lt.kp bl (Gn.mono (by omega)) T.g_nm T.nm.kp bn (Gcan.mono (by omega)) T.g_can T.can.kp bcan (ih.mono (by omega)) T.g_tree T.tree.kp btree (r1.mono (by omega)) T.g_msg T.msg.kp bmsg r2 T.g_msgs T.msgs.kp bmsgs r3 T.g_body T.body.kp bbody
  exact fun n => ⟨tr n, (rest n (tr n)).2.2⟩
def spForm (K : PySem.W.Frag) : Sp := fun vs H Q _ => ∃ (v : V) (d : PyData), vs = [v] ∧ Dp K H v d ∧ Mt d ∧ ∀ H', Same H H' → Q (.bl true) H'
theorem sc_is_method_form : FnScope ["thing", "_", "selector", "parameters", "variables", "statements"] ["thing"] (defScope s_is_method_form) := ⟨rfl, rfl, rfl, by decide +kernel, rfl, by decide +kernel, by decide +kernel⟩
theorem ok_form {f fB : Addr} {fd fdB : FuncData} (F : FnP K "is_method_form" s_is_method_form f fd)
    (G_kind_of : FnOk P w K mg base CX0 123 fK fdK ["thing"] (spKind K)) (g_kind_of : mg "kind_of" = some (.ref fK)) (k_kind_of : PySem.W.keepIn K (.ref fK) = true) (b_kind_of : Binds K fdK ["thing"] [])
    (G_arity_of : FnOk P w K mg base CX0 123 fAr fdAr ["thing"] spArity) (g_arity_of : mg "arity_of" = some (.ref fAr)) (k_arity_of : PySem.W.keepIn K (.ref fAr) = true) (b_arity_of : Binds K fdAr ["thing"] [])
    (G_body_fits : FnOk P w K mg base CX0 123 fB fdB ["parameters", "variables", "statements", "known", "room"] (spBody K 39)) (g_body_fits : mg "body_fits" = some (.ref fB)) (k_body_fits : PySem.W.keepIn K (.ref fB) = true) (b_body_fits : Binds K fdB ["parameters", "variables", "statements", "known", "room"] [])
    (g_isinstance : mg "isinstance" = none) (g_tuple : mg "tuple" = none) (g_len : mg "len" = none) (g_DP : ∃ t, mg "DEEPEST" = some (.int 40 t)) :
    FnOk P w K mg base CX0 124 f fd ["thing"] (spForm K) := by
  obtain ⟨t, g_DEEPEST⟩ := g_DP
  have r_DEEPEST : RelV (.int 40) (.int 40 t) := ⟨_, rfl⟩
  refine F.ok sc_is_method_form (fun vs H Q E h => ?_) (fun cdv A outer s H vs Q E hr h => ⟨_, PSs.nox
    (pss_cons (ps_if (pt_cmpR op_ne (pe_call G_kind_of (hr.mono (Nat.le_refl _)) rfl g_kind_of k_kind_of b_kind_of .nil pass0 (pa_cons (pv 0) pa_nil)) pe_str (nomark _)) (pss_one (ps_ret pe_bl)) pss_nil)
      (pss_cons (ps_asg (pv 0) (pg_tup rfl (pgs_cons (pg_name (i := 1) sc_is_method_form.nd rfl (Or.inl rfl)) (pgs_cons (pg_name (i := 2) sc_is_method_form.nd rfl (Or.inl rfl)) (pgs_cons (pg_name (i := 3) sc_is_method_form.nd rfl (Or.inl rfl)) (pgs_cons (pg_name (i := 4) sc_is_method_form.nd rfl (Or.inl rfl)) (pgs_cons (pg_name (i := 5) sc_is_method_form.nd rfl (Or.inl rfl)) pgs_nil)))))))
      (pss_cons (ps_if (PW.pt (pw_or (pt_not (pt_val (pe_callB call_isi (by rfl) g_isinstance (by decide +kernel) (pa_cons (pv 3) (pa_cons (pe_bltn (v := .ty "tuple") (u := .type "tuple") (by rfl) g_tuple (by decide +kernel) rfl) pa_nil))))) (pw_or1 (pt_cmpR op_ne (pe_callB call_len_seq (by rfl) g_len PySem.boot_len (pa_cons (pv 3) pa_nil)) (pe_call G_arity_of (hr.mono (Nat.le_refl _)) rfl g_arity_of k_arity_of b_arity_of .nil pass0 (pa_cons (pv 2) pa_nil)) (nomark _))))) (pss_one (ps_ret pe_bl)) pss_nil)
      (pss_one (ps_ret (pe_call G_body_fits (hr.mono (Nat.le_refl _)) rfl g_body_fits k_body_fits b_body_fits .nil pass0 (pa_cons (pv 3) (pa_cons (pv 4) (pa_cons (pv 5) (pa_cons pe_dnewK (pa_cons (pe_op op_sub (pe_glob rfl g_DEEPEST r_DEEPEST) pe_int) pa_nil))))))))))), ?_⟩)
  · obtain ⟨v, d, rfl, _⟩ := h
    rfl
  obtain ⟨v, d, rfl, hd, hm, q⟩ := h
  cases hm with
  | @mk z pn vn sts hs hb =>
  obtain ⟨a0, xs, rfl, hT, hA⟩ := dp_tup hd
  cases hA with | cons h1 h2 => cases h2 with | cons h3 h4 => cases h4 with | cons h5 h6 => cases h6 with | cons h7 h8 => cases h8 with | cons h9 h10 =>
  cases h10
  rw [dp_str h1, dp_str h3] at hT
  obtain ⟨bp, rfl, hp⟩ := dp_strs h5
  obtain ⟨bv, rfl, hv⟩ := dp_strs h7
  obtain ⟨bs, ys, rfl, hs1, hs2⟩ := dp_tup h9
  dsimp only [tSeq, tNext]
  refine if_ev (H0 := H) (b := false) (EvT.to (b := !decide (V.str kMeth = V.str kMeth)) (evt_test fun H' Q hs k => ⟨_, rfl, a0, kMeth, [.str z, .ref bp, .ref bv, .ref bs], rfl, SqT.mono hs hT, (by decide +kernel : (kMeth, (5 : Int)) ∈ shapes), fun H2 s2 => ⟨rfl, k H2 (hs.trans s2)⟩⟩) (by rw [decide_eq_true rfl]; rfl)) (Same.refl H) (fun h => by cases h) (fun _ H1 s1 => ?_)
  dsimp only [tSeq, tNext]
  refine ⟨_, rfl, a0, _, rfl, SqT.mono s1 hT, rfl, _, _, rfl, _, _, rfl, _, _, rfl, _, _, rfl, _, _, rfl, rfl, ?_⟩
  have e1 : (!decide (V.int (((pn.map V.str).length : Nat) : Int) = V.int ((pn.length : Nat) : Int))) = false := by
    rw [decide_eq_true (by rw [List.length_map])]; rfl
  refine if_ev (H0 := H) (b := (!true || false)) (evt_or (evt_not (evt_b (e_isi rfl (fun _ h => ty_tuple (SqT.mono h hp)) (kit_ty (by decide +kernel))))) fun _ => fun H' Q hs' k => ⟨_, rfl, bp, _, rfl, .inr (SqT.mono hs' hp), _, rfl, z, pn.length, rfl, hs, Nat.le_trans (sel_len hs) (by decide), fun H2 s2 => ⟨rfl, _, rfl, by rw [e1]; exact k H2 (hs'.trans s2)⟩⟩) s1 (fun h => by cases h) (fun _ H2 s2 => ?_)
  dsimp only [tSeq, tNext]
  refine ⟨_, rfl, _, rfl, _, rfl, fun p np => ⟨_, _, rfl, rfl, bp, bv, bs, p, [], pn, vn, ys, sts, 39, rfl, Nat.le_refl _, ?_, ?_, ?_, ?_, upd_same, by decide, List.nodup_nil, hb, fun H3 s3 => q H3 ((s2.trans (same_upd np)).trans s3)⟩⟩
  · exact SqT.mono (s2.trans (same_upd np)) hp
  · exact SqT.mono (s2.trans (same_upd np)) hv
  · exact SqT.mono (s2.trans (same_upd np)) hs1
  · exact dp_monoAll (s2.trans (same_upd np)) _ _ hs2
def spCheck (K : PySem.W.Frag) : Sp := fun vs H Q _ => ∃ (v : V) (d : PyData), vs = [v] ∧ Dp K H v d ∧ Mt d ∧ ∀ H', Same H H' → Q .non H'
theorem sc_check_tree : FnScope ["thing"] ["thing"] (defScope s_check_tree) := ⟨rfl, rfl, rfl, by decide +kernel, rfl, by decide +kernel, by decide +kernel⟩
theorem ok_check {f fF : Addr} {fd fdF : FuncData} (F : FnP K "check_tree" s_check_tree f fd)
    (G_is_method_form : FnOk P w K mg base CX0 124 fF fdF ["thing"] (spForm K)) (g_is_method_form : mg "is_method_form" = some (.ref fF)) (k_is_method_form : PySem.W.keepIn K (.ref fF) = true) (b_is_method_form : Binds K fdF ["thing"] []) :
    FnOk P w K mg base CX0 125 f fd ["thing"] (spCheck K) := by
  refine F.ok sc_check_tree (fun vs H Q E h => ?_) (fun cdv A outer s H vs Q E hr h => ⟨_, PSs.nox
    (pss_one (ps_if (pt_not (pt_val (pe_call G_is_method_form (hr.mono (Nat.le_refl _)) rfl g_is_method_form k_is_method_form b_is_method_form .nil pass0 (pa_cons (pv 0) pa_nil)))) (pss_one ps_never) pss_nil)), ?_⟩)
  · obtain ⟨v, d, rfl, _⟩ := h
    rfl
  obtain ⟨v, d, rfl, hd, hm, q⟩ := h
  exact if_ev (H0 := H) (b := !true) (evt_not (evt_b fun H' Q hs k => ⟨_, rfl, v, d, rfl, dp_mono hs _ _ hd, hm, fun H2 s2 => k H2 (hs.trans s2)⟩)) (Same.refl H) (fun h => by cases h) (fun _ H1 s1 => q H1 s1)
end
end My8

end
section
set_option Elab.async false
set_option linter.all false
set_option maxRecDepth 100000
set_option maxHeartbeats 2000000
namespace My8
open PySem PySem.Spec PyProof.Rows L2 My
open TrM TL
abbrev s_parts_of : Stmt := top 20
theorem pg_tupK {X : Cx} {K : PySem.W.Frag} {es : List Expr} {k : Nat} {t : TGs} {n : Nat} {pos : Pos} (hK : X.K = K) (hc : X.calm = true) (h : PGs X es t)
    (hn : (assignEach es X.env).length = n := by rfl) (hst : (assignEach es X.env).findIdx? (·.1) = none := by rfl) : PG X (.Tuple es k pos) (gTup K n t) := by subst hK; exact pg_tup hc h hn hst
theorem pi_tupK {X : Cx} {K : PySem.W.Frag} {tg l : Expr} {tl : TE} (hK : X.K = K) (hl : PE X l tl) : PI X tg l (iTup K tl) := by subst hK; exact pi_tup hl
/-- a message of a cascade -/
def msgD (m : Str × List PyData) : PyData := .tuple [.str m.1, .tuple m.2]
/-- the trees directly within one, in the order of the text -/
inductive Parts : PyData → List PyData → Prop
  | int {i : Int} : Parts (.tuple [.str kI, .int i]) []
  | str {z : Str} : Parts (.tuple [.str kS, .str z]) []
  | sym {z : Str} : Parts (.tuple [.str kY, .str z]) []
  | var {z : Str} : Parts (.tuple [.str kV, .str z]) []
  | arr {ds : List PyData} : Parts (.tuple [.str kA, .tuple ds]) ds
  | ret {d : PyData} : Parts (.tuple [.str kRet, d]) [d]
  | set {z : Str} {d : PyData} : Parts (.tuple [.str kSet, .str z, d]) [d]
  | send {d : PyData} {s : Str} {ds : List PyData} : Parts (.tuple [.str kSend, d, .str s, .tuple ds]) (d :: ds)
  | super {s : Str} {ds : List PyData} : Parts (.tuple [.str kSuper, .str s, .tuple ds]) ds
  | casc {d : PyData} {ms : List (Str × List PyData)} : Parts (.tuple [.str kCasc, d, .tuple (ms.map msgD)]) (d :: ms.flatMap (·.2))
  | block {ps vs : List Str} {ds : List PyData} : Parts (.tuple [.str kBlock, .tuple (ps.map .str), .tuple (vs.map .str), .tuple ds]) ds
  | meth {s : Str} {ps vs : List Str} {ds : List PyData} : Parts (.tuple [.str kMeth, .str s, .tuple (ps.map .str), .tuple (vs.map .str), .tuple ds]) ds
def spParts (K : PySem.W.Frag) : Sp := fun vs H Q _ => ∃ (HB : Hp) (v : V) (d : PyData) (ds : List PyData), vs = [v] ∧ Same HB H ∧ Dp K HB v d ∧ Parts d ds ∧ ds.length ≤ 100000 ∧ ∀ (p : Addr) (xs : List V) (H' : Hp), Same H H' → H p = none → H' p = some (.lst xs) → DpAll K HB xs ds → Q (.ref p) H'
theorem dpAll_get {K : PySem.W.Frag} {H : Hp} : ∀ {xs : List V} {ds : List PyData} {i : Nat} {x : V}, DpAll K H xs ds → xs[i]? = some x → ∃ d, ds[i]? = some d ∧ Dp K H x d
  | [], _, i, x, h, hx => by cases hx
  | y :: xs, _, 0, x, .cons h _, hx => by cases hx; exact ⟨_, rfl, h⟩
  | y :: xs, _, i + 1, x, .cons _ h, hx => by
    obtain ⟨d, h1, h2⟩ := dpAll_get h (by simpa using hx)
    exact ⟨d, by simpa using h1, h2⟩
theorem flat_le {ms : List (Str × List PyData)} {i : Nat} {m : Str × List PyData} (hm : ms[i]? = some m) (j : Nat) : ((ms.take i).flatMap (·.2) ++ m.2.take j).length ≤ (ms.flatMap (·.2)).length := by
  obtain ⟨hi, e⟩ := List.getElem?_eq_some_iff.mp hm
  have e2 : ms = ms.take i ++ m :: ms.drop (i + 1) := by
    rw [← e, ← List.drop_eq_getElem_cons hi, List.take_append_drop]
  have e3 : ms.flatMap (·.2) = (ms.take i).flatMap (·.2) ++ (m.2 ++ (ms.drop (i + 1)).flatMap (·.2)) := by
    conv => lhs; rw [e2]
    rw [List.flatMap_append, List.flatMap_cons]
  rw [e3, List.length_append, List.length_append, List.length_append, List.length_take]
  omega
theorem old_none {H H1 : Hp} {p : Addr} (s : Same H H1) (n : H1 p = none) : H p = none := by
  cases e : H p with
  | none => rfl
  | some u => rw [s _ _ e] at n; cases n
theorem give {K : PySem.W.Frag} {HB H H1 : Hp} {vs : List V} {ds : List PyData} {Q : VK} (s1 : Same H H1) (hA : DpAll K HB vs ds) (q : ∀ (p : Addr) (xs : List V) (H' : Hp), Same H H' → H p = none → H' p = some (.lst xs) → DpAll K HB xs ds → Q (.ref p) H') (p : Addr) (np : H1 p = none) : Q (.ref p) (upd H1 p (.lst vs)) :=
  q p vs _ (s1.trans (same_upd np)) (old_none s1 np) upd_same hA
section
variable {P : Program} {w : World} {K : PySem.W.Frag} {mg : Str → Option Value} {base : Heap}
theorem sc_parts_of : FnScope ["tree", "kind", "_", "arguments", "part"] ["tree"] (defScope s_parts_of) := ⟨rfl, rfl, rfl, by decide +kernel, rfl, by decide +kernel, by decide +kernel⟩
theorem ok_parts {f : Addr} {fd : FuncData} (F : FnP K "parts_of" s_parts_of f fd) (g_list : mg "list" = none) :
    FnOk P w K mg base CX0 1 f fd ["tree"] (spParts K) := by
  refine F.ok sc_parts_of (fun vs H Q E h => ?_) (fun cdv A outer s H vs Q E hr h => ⟨_, PSs.nox
    (pss_cons (ps_set (i := 1) sc_parts_of.nd rfl (Or.inl rfl) (pe_ix ix_tup (pv 0) pe_int (fun _ _ => rfl)))
      (pss_cons (ps_if (pt_cmpR op_in_seq (pv 1) (pe_tup (pa_cons pe_str (pa_cons pe_str pa_nil))) (by rfl)) (pss_one (ps_ret (pe_lst (pa_cons (pe_ix ix_tup (pv 0) (pe_un un_neg pe_int) (fun _ _ => rfl)) pa_nil)))) pss_nil)
      (pss_cons (ps_if (pt_cmpR op_in_seq (pv 1) (pe_tup (pa_cons pe_str (pa_cons pe_str (pa_cons pe_str (pa_cons pe_str pa_nil))))) (by rfl)) (pss_one (ps_ret (pe_callTy call_list_of (by rfl) g_list (by decide +kernel) (pa_cons (pe_ix ix_tup (pv 0) (pe_un un_neg pe_int) (fun _ _ => rfl)) pa_nil)))) pss_nil)
      (pss_cons (ps_if (pt_cmpR op_eq (pv 1) pe_str (nomark _)) (pss_one (ps_ret (pe_lst (pa_cons (pe_ix ix_tup (pv 0) pe_int (fun _ _ => rfl)) (StX.pa_star (pe_ix ix_tup (pv 0) pe_int (fun _ _ => rfl)) pa_nil))))) pss_nil)
      (pss_cons (ps_if (pt_cmpR op_eq (pv 1) pe_str (nomark _)) (pss_one (ps_ret (pe_lst (pa_cons (pe_ix ix_tup (pv 0) pe_int (fun _ _ => rfl)) (StX.pa_star (pe_lc2 (own := [("_", 2), ("arguments", 3), ("part", 4)]) (vs1 := [4]) rfl sc_parts_of.nd (pi_tup (pe_ix ix_tup (pv 0) pe_int (fun _ _ => rfl))) (blkOk_by (own := [("_", 2), ("arguments", 3), ("part", 4)]) (N := ["tree", "kind", "_", "arguments", "part"]) (sc := defScope s_parts_of) (by decide +kernel)) (by decide) (fun _ _ _ _ _ => by (exact pg_tupK (K := K) (n := 2) rfl rfl (pgs_cons (pg_name (i := 2) sc_parts_of.nd rfl (Or.inl rfl)) (pgs_cons (pg_name (i := 3) sc_parts_of.nd rfl (Or.inl rfl)) pgs_nil)))) (fun _ _ _ _ _ => by exact pts_nil) (fun _ _ _ _ _ => by exact (pi_tupK (K := K) rfl (pv 3))) (fun _ _ _ _ _ => by (exact (pg_name (i := 4) sc_parts_of.nd rfl (Or.inl rfl)))) (fun _ _ _ _ _ => by exact pts_nil) (fun _ _ _ _ _ => by exact (pv 4))) pa_nil))))) pss_nil)
      (pss_one (ps_ret (pe_lst pa_nil)))))))), ?_⟩)
  · obtain ⟨HB, v, d, ds, rfl, _⟩ := h
    rfl
  obtain ⟨HB, v, d, ds, rfl, hs0, hd, hp, hn, q⟩ := h
  dsimp only [tSeq, tNext]
  cases hp with
  | int =>
    obtain ⟨a0, u, rfl, hT, hu⟩ := dp_two hd
    refine ⟨_, rfl, a0, _, _, _, rfl, rfl, SqT.mono hs0 hT, atI_nat rfl, ?_⟩
    dsimp only [tSeq, tNext]
    have s1 : Same H H := Same.refl H
    refine if_ev (H0 := H) (b := false) (EvT.to (evt_test (e_inv2 rfl)) (by decide +kernel)) s1 (fun h => by cases h) (fun _ H2 s2 => ?_)
    dsimp only [tSeq, tNext]
    refine if_ev (H0 := H) (b := false) (EvT.to (evt_test (e_inv4 rfl)) (by decide +kernel)) s2 (fun h => by cases h) (fun _ H3 s3 => ?_)
    dsimp only [tSeq, tNext]
    refine if_ev (H0 := H) (b := false) (EvT.to (evt_test (e_var rfl)) (by decide +kernel)) s3 (fun h => by cases h) (fun _ H4 s4 => ?_)
    dsimp only [tSeq, tNext]
    refine if_ev (H0 := H) (b := false) (EvT.to (evt_test (e_var rfl)) (by decide +kernel)) s4 (fun h => by cases h) (fun _ H5 s5 => ?_)
    dsimp only [tSeq, tNext]
    exact ⟨Nat.zero_le _, give s5 .nil q⟩
  | str =>
    obtain ⟨a0, u, rfl, hT, hu⟩ := dp_two hd
    refine ⟨_, rfl, a0, _, _, _, rfl, rfl, SqT.mono hs0 hT, atI_nat rfl, ?_⟩
    dsimp only [tSeq, tNext]
    have s1 : Same H H := Same.refl H
    refine if_ev (H0 := H) (b := false) (EvT.to (evt_test (e_inv2 rfl)) (by decide +kernel)) s1 (fun h => by cases h) (fun _ H2 s2 => ?_)
    dsimp only [tSeq, tNext]
    refine if_ev (H0 := H) (b := false) (EvT.to (evt_test (e_inv4 rfl)) (by decide +kernel)) s2 (fun h => by cases h) (fun _ H3 s3 => ?_)
    dsimp only [tSeq, tNext]
    refine if_ev (H0 := H) (b := false) (EvT.to (evt_test (e_var rfl)) (by decide +kernel)) s3 (fun h => by cases h) (fun _ H4 s4 => ?_)
    dsimp only [tSeq, tNext]
    refine if_ev (H0 := H) (b := false) (EvT.to (evt_test (e_var rfl)) (by decide +kernel)) s4 (fun h => by cases h) (fun _ H5 s5 => ?_)
    dsimp only [tSeq, tNext]
    exact ⟨Nat.zero_le _, give s5 .nil q⟩
  | sym =>
    obtain ⟨a0, u, rfl, hT, hu⟩ := dp_two hd
    refine ⟨_, rfl, a0, _, _, _, rfl, rfl, SqT.mono hs0 hT, atI_nat rfl, ?_⟩
    dsimp only [tSeq, tNext]
    have s1 : Same H H := Same.refl H
    refine if_ev (H0 := H) (b := false) (EvT.to (evt_test (e_inv2 rfl)) (by decide +kernel)) s1 (fun h => by cases h) (fun _ H2 s2 => ?_)
    dsimp only [tSeq, tNext]
    refine if_ev (H0 := H) (b := false) (EvT.to (evt_test (e_inv4 rfl)) (by decide +kernel)) s2 (fun h => by cases h) (fun _ H3 s3 => ?_)
    dsimp only [tSeq, tNext]
    refine if_ev (H0 := H) (b := false) (EvT.to (evt_test (e_var rfl)) (by decide +kernel)) s3 (fun h => by cases h) (fun _ H4 s4 => ?_)
    dsimp only [tSeq, tNext]
    refine if_ev (H0 := H) (b := false) (EvT.to (evt_test (e_var rfl)) (by decide +kernel)) s4 (fun h => by cases h) (fun _ H5 s5 => ?_)
    dsimp only [tSeq, tNext]
    exact ⟨Nat.zero_le _, give s5 .nil q⟩
  | var =>
    obtain ⟨a0, u, rfl, hT, hu⟩ := dp_two hd
    refine ⟨_, rfl, a0, _, _, _, rfl, rfl, SqT.mono hs0 hT, atI_nat rfl, ?_⟩
    dsimp only [tSeq, tNext]
    have s1 : Same H H := Same.refl H
    refine if_ev (H0 := H) (b := false) (EvT.to (evt_test (e_inv2 rfl)) (by decide +kernel)) s1 (fun h => by cases h) (fun _ H2 s2 => ?_)
    dsimp only [tSeq, tNext]
    refine if_ev (H0 := H) (b := false) (EvT.to (evt_test (e_inv4 rfl)) (by decide +kernel)) s2 (fun h => by cases h) (fun _ H3 s3 => ?_)
    dsimp only [tSeq, tNext]
    refine if_ev (H0 := H) (b := false) (EvT.to (evt_test (e_var rfl)) (by decide +kernel)) s3 (fun h => by cases h) (fun _ H4 s4 => ?_)
    dsimp only [tSeq, tNext]
    refine if_ev (H0 := H) (b := false) (EvT.to (evt_test (e_var rfl)) (by decide +kernel)) s4 (fun h => by cases h) (fun _ H5 s5 => ?_)
    dsimp only [tSeq, tNext]
    exact ⟨Nat.zero_le _, give s5 .nil q⟩
  | ret =>
    obtain ⟨a0, u, rfl, hT, hu⟩ := dp_two hd
    refine ⟨_, rfl, a0, _, _, _, rfl, rfl, SqT.mono hs0 hT, atI_nat rfl, ?_⟩
    dsimp only [tSeq, tNext]
    have s1 : Same H H := Same.refl H
    refine if_ev (H0 := H) (b := true) (EvT.to (evt_test (e_inv2 rfl)) (by decide +kernel)) s1 (fun _ H2 s2 => ?_) (fun h => by cases h)
    exact ⟨_, rfl, 1, rfl, _, _, -1, u, rfl, rfl, SqT.mono (hs0.trans s2) hT, by rfl, (by show 1 ≤ sizeLine; decide), give s2 (.cons hu .nil) q⟩
  | set =>
    obtain ⟨a0, xs, rfl, hT, hA⟩ := dp_tup hd
    cases hA with | cons g0 hA1 => cases hA1 with | cons g1 hA2 => cases hA2 with | cons g2 hA3 => 
    cases hA3
    rw [dp_str g0] at hT
    refine ⟨_, rfl, a0, _, _, _, rfl, rfl, SqT.mono hs0 hT, atI_nat rfl, ?_⟩
    dsimp only [tSeq, tNext]
    have s1 : Same H H := Same.refl H
    refine if_ev (H0 := H) (b := true) (EvT.to (evt_test (e_inv2 rfl)) (by decide +kernel)) s1 (fun _ H2 s2 => ?_) (fun h => by cases h)
    exact ⟨_, rfl, 1, rfl, _, _, -1, _, rfl, rfl, SqT.mono (hs0.trans s2) hT, by rfl, (by show 1 ≤ sizeLine; decide), give s2 (.cons g2 .nil) q⟩
  | arr =>
    obtain ⟨a0, u, rfl, hT, hu⟩ := dp_two hd
    obtain ⟨b, ys, rfl, h1, h2⟩ := dp_tup hu
    refine ⟨_, rfl, a0, _, _, _, rfl, rfl, SqT.mono hs0 hT, atI_nat rfl, ?_⟩
    dsimp only [tSeq, tNext]
    have s1 : Same H H := Same.refl H
    refine if_ev (H0 := H) (b := false) (EvT.to (evt_test (e_inv2 rfl)) (by decide +kernel)) s1 (fun h => by cases h) (fun _ H2 s2 => ?_)
    dsimp only [tSeq, tNext]
    refine if_ev (H0 := H) (b := true) (EvT.to (evt_test (e_inv4 rfl)) (by decide +kernel)) s2 (fun _ H3 s3 => ?_) (fun h => by cases h)
    exact ⟨_, rfl, 1, rfl, _, _, -1, _, rfl, rfl, SqT.mono (hs0.trans s3) hT, by rfl, b, ys, rfl, .inr (SqT.mono (hs0.trans s3) h1), give s3 h2 q⟩
  | super =>
    obtain ⟨a0, xs, rfl, hT, hA⟩ := dp_tup hd
    cases hA with | cons g0 hA1 => cases hA1 with | cons g1 hA2 => cases hA2 with | cons g2 hA3 => 
    cases hA3
    rw [dp_str g0] at hT
    obtain ⟨b, ys, rfl, h1, h2⟩ := dp_tup g2
    refine ⟨_, rfl, a0, _, _, _, rfl, rfl, SqT.mono hs0 hT, atI_nat rfl, ?_⟩
    dsimp only [tSeq, tNext]
    have s1 : Same H H := Same.refl H
    refine if_ev (H0 := H) (b := false) (EvT.to (evt_test (e_inv2 rfl)) (by decide +kernel)) s1 (fun h => by cases h) (fun _ H2 s2 => ?_)
    dsimp only [tSeq, tNext]
    refine if_ev (H0 := H) (b := true) (EvT.to (evt_test (e_inv4 rfl)) (by decide +kernel)) s2 (fun _ H3 s3 => ?_) (fun h => by cases h)
    exact ⟨_, rfl, 1, rfl, _, _, -1, _, rfl, rfl, SqT.mono (hs0.trans s3) hT, by rfl, b, ys, rfl, .inr (SqT.mono (hs0.trans s3) h1), give s3 h2 q⟩
  | block =>
    obtain ⟨a0, xs, rfl, hT, hA⟩ := dp_tup hd
    cases hA with | cons g0 hA1 => cases hA1 with | cons g1 hA2 => cases hA2 with | cons g2 hA3 => cases hA3 with | cons g3 hA4 => 
    cases hA4
    rw [dp_str g0] at hT
    obtain ⟨b, ys, rfl, h1, h2⟩ := dp_tup g3
    refine ⟨_, rfl, a0, _, _, _, rfl, rfl, SqT.mono hs0 hT, atI_nat rfl, ?_⟩
    dsimp only [tSeq, tNext]
    have s1 : Same H H := Same.refl H
    refine if_ev (H0 := H) (b := false) (EvT.to (evt_test (e_inv2 rfl)) (by decide +kernel)) s1 (fun h => by cases h) (fun _ H2 s2 => ?_)
    dsimp only [tSeq, tNext]
    refine if_ev (H0 := H) (b := true) (EvT.to (evt_test (e_inv4 rfl)) (by decide +kernel)) s2 (fun _ H3 s3 => ?_) (fun h => by cases h)
    exact ⟨_, rfl, 1, rfl, _, _, -1, _, rfl, rfl, SqT.mono (hs0.trans s3) hT, by rfl, b, ys, rfl, .inr (SqT.mono (hs0.trans s3) h1), give s3 h2 q⟩
  | meth =>
    obtain ⟨a0, xs, rfl, hT, hA⟩ := dp_tup hd
    cases hA with | cons g0 hA1 => cases hA1 with | cons g1 hA2 => cases hA2 with | cons g2 hA3 => cases hA3 with | cons g3 hA4 => cases hA4 with | cons g4 hA5 => 
    cases hA5
    rw [dp_str g0] at hT
    obtain ⟨b, ys, rfl, h1, h2⟩ := dp_tup g4
    refine ⟨_, rfl, a0, _, _, _, rfl, rfl, SqT.mono hs0 hT, atI_nat rfl, ?_⟩
    dsimp only [tSeq, tNext]
    have s1 : Same H H := Same.refl H
    refine if_ev (H0 := H) (b := false) (EvT.to (evt_test (e_inv2 rfl)) (by decide +kernel)) s1 (fun h => by cases h) (fun _ H2 s2 => ?_)
    dsimp only [tSeq, tNext]
    refine if_ev (H0 := H) (b := true) (EvT.to (evt_test (e_inv4 rfl)) (by decide +kernel)) s2 (fun _ H3 s3 => ?_) (fun h => by cases h)
    exact ⟨_, rfl, 1, rfl, _, _, -1, _, rfl, rfl, SqT.mono (hs0.trans s3) hT, by rfl, b, ys, rfl, .inr (SqT.mono (hs0.trans s3) h1), give s3 h2 q⟩
  | send =>
    obtain ⟨a0, xs, rfl, hT, hA⟩ := dp_tup hd
    cases hA with | cons g0 hA1 => cases hA1 with | cons g1 hA2 => cases hA2 with | cons g2 hA3 => cases hA3 with | cons g3 hA4 => 
    cases hA4
    rw [dp_str g0] at hT
    obtain ⟨b, ys, rfl, h1, h2⟩ := dp_tup g3
    refine ⟨_, rfl, a0, _, _, _, rfl, rfl, SqT.mono hs0 hT, atI_nat rfl, ?_⟩
    dsimp only [tSeq, tNext]
    have s1 : Same H H := Same.refl H
    refine if_ev (H0 := H) (b := false) (EvT.to (evt_test (e_inv2 rfl)) (by decide +kernel)) s1 (fun h => by cases h) (fun _ H2 s2 => ?_)
    dsimp only [tSeq, tNext]
    refine if_ev (H0 := H) (b := false) (EvT.to (evt_test (e_inv4 rfl)) (by decide +kernel)) s2 (fun h => by cases h) (fun _ H3 s3 => ?_)
    dsimp only [tSeq, tNext]
    refine if_ev (H0 := H) (b := true) (EvT.to (evt_test (e_var rfl)) (by decide +kernel)) s3 (fun _ H4 s4 => ?_) (fun h => by cases h)
    have hl := dpAll_length h2
    exact ⟨_, rfl, _, _, _, _, rfl, rfl, SqT.mono (hs0.trans s4) hT, atI_nat rfl, _, rfl, _, _, _, _, rfl, rfl, SqT.mono (hs0.trans s4) hT, atI_nat rfl, b, ys, rfl, .inl (SqT.mono (hs0.trans s4) h1), by
      rw [List.append_nil, List.length_cons, hl]
      exact Nat.le_trans (show _ ≤ 100000 from hn) (by decide), by
      rw [List.append_nil]
      exact give s4 (.cons g1 h2) q⟩
  | @casc d0 ms =>
    obtain ⟨a0, xs, rfl, hT, hA⟩ := dp_tup hd
    cases hA with | cons g0 hA1 => cases hA1 with | cons g1 hA2 => cases hA2 with | cons g2 hA3 => 
    cases hA3
    rw [dp_str g0] at hT
    obtain ⟨b, ys, rfl, h1, h2⟩ := dp_tup g2
    refine ⟨_, rfl, a0, _, _, _, rfl, rfl, SqT.mono hs0 hT, atI_nat rfl, ?_⟩
    dsimp only [tSeq, tNext]
    have s1 : Same H H := Same.refl H
    refine if_ev (H0 := H) (b := false) (EvT.to (evt_test (e_inv2 rfl)) (by decide +kernel)) s1 (fun h => by cases h) (fun _ H2 s2 => ?_)
    dsimp only [tSeq, tNext]
    refine if_ev (H0 := H) (b := false) (EvT.to (evt_test (e_inv4 rfl)) (by decide +kernel)) s2 (fun h => by cases h) (fun _ H3 s3 => ?_)
    dsimp only [tSeq, tNext]
    refine if_ev (H0 := H) (b := false) (EvT.to (evt_test (e_var rfl)) (by decide +kernel)) s3 (fun h => by cases h) (fun _ H4 s4 => ?_)
    dsimp only [tSeq, tNext]
    refine if_ev (H0 := H) (b := true) (EvT.to (evt_test (e_var rfl)) (by decide +kernel)) s4 (fun _ H5 s5 => ?_) (fun h => by cases h)
    refine ⟨_, rfl, _, _, _, _, rfl, rfl, SqT.mono (hs0.trans s5) hT, atI_nat rfl, _, rfl, _, _, _, _, rfl, rfl, SqT.mono (hs0.trans s5) hT, atI_nat rfl, b, rfl, ⟨_, SqT.mono (hs0.trans s5) h1⟩, fun D nD => ?_⟩
    have wk := walk_tup (K := K) (a := b) (xs := ys)
    have hlen : ys.length = ms.length := by rw [dpAll_length h2, List.length_map]
    have hn : (ms.flatMap (·.2)).length + 1 ≤ 100000 := hn
    refine ⟨fun i m H' => m = ys.length - i ∧ i ≤ ys.length ∧ Same H5 H' ∧ ∃ vs, H' D = some (.lst vs) ∧ DpAll K HB vs ((ms.take i).flatMap (·.2)), ⟨ys.length, by simp, Nat.zero_le _, same_upd nD, [], upd_same, by rw [List.take_zero]; exact .nil⟩, ?_⟩
    rintro i mm H' ⟨rfl, hi, R1, vs, R2, R3⟩
    have hT' := SqT.mono (hs0.trans (s5.trans R1)) h1
    by_cases hlt : i < ys.length
    · refine .inr ⟨wk.goes i H' hlt hT', fun H'' => i + 1 ≤ ys.length ∧ Same H5 H'' ∧ ∃ vs, H'' D = some (.lst vs) ∧ DpAll K HB vs ((ms.take (i + 1)).flatMap (·.2)), fun H'' hh => ⟨ys.length - (i + 1), by omega, rfl, hh⟩, fun x H'' y => ?_⟩
      obtain ⟨rfl, hx⟩ := wk.yields i H' x H'' hlt hT' y
      obtain ⟨d, hd1, hd2⟩ := dpAll_get h2 hx
      rw [List.getElem?_map] at hd1
      obtain ⟨m, hm, rfl⟩ := Option.map_eq_some_iff.mp hd1
      obtain ⟨c, us, ue, rfl, hc, hu1, hu2⟩ := dp_two' hd2
      obtain rfl := dp_str hu1
      obtain ⟨e, zs, rfl, he, hz⟩ := dp_tup hu2
      refine ⟨c, _, rfl, SqT.mono (hs0.trans (s5.trans R1)) hc, rfl, _, _, rfl, _, _, rfl, rfl, rfl, tyes ?_⟩
      refine ⟨_, rfl, e, rfl, ⟨_, SqT.mono (hs0.trans (s5.trans R1)) he⟩, ?_⟩
      have wk1 := walk_tup (K := K) (a := e) (xs := zs)
      have hzl := dpAll_length hz
      refine ⟨fun j k H1 => k = zs.length - j ∧ j ≤ zs.length ∧ Same H5 H1 ∧ ∃ vs, H1 D = some (.lst vs) ∧ DpAll K HB vs ((ms.take i).flatMap (·.2) ++ m.2.take j), ⟨zs.length, by simp, Nat.zero_le _, R1, vs, R2, by rw [List.take_zero, List.append_nil]; exact R3⟩, ?_⟩
      rintro j kk H1 ⟨rfl, hj, S1, vs1, S2, S3⟩
      have he' := SqT.mono (hs0.trans (s5.trans S1)) he
      by_cases hjt : j < zs.length
      · refine .inr ⟨wk1.goes j H1 hjt he', fun H2' => j + 1 ≤ zs.length ∧ Same H5 H2' ∧ ∃ vs, H2' D = some (.lst vs) ∧ DpAll K HB vs ((ms.take i).flatMap (·.2) ++ m.2.take (j + 1)), fun H2' hh => ⟨zs.length - (j + 1), by omega, rfl, hh⟩, fun x H2' y => ?_⟩
        obtain ⟨rfl, hx2⟩ := wk1.yields j H1 x H2' hjt he' y
        obtain ⟨d2, hd3, hd4⟩ := dpAll_get hz hx2
        refine ⟨rfl, tyes ?_⟩
        refine ⟨_, rfl, vs1, S2, ?_, by omega, same_free S1 nD, _, upd_same, ?_⟩
        · rw [dpAll_length S3]
          exact Nat.lt_of_le_of_lt (Nat.le_trans (flat_le hm j) (show _ ≤ 100000 by omega)) (by decide)
        · rw [List.take_succ, hd3, ← List.append_assoc]
          exact dpAll_append S3 (.cons hd4 .nil)
      · have ej : j = m.2.length := by omega
        refine .inl ⟨by have := wk1.stops H1 he'; rwa [show zs.length = j by omega] at this, by omega, S1, vs1, S2, ?_⟩
        rw [List.take_succ, hm, List.flatMap_append]
        rw [ej, List.take_length] at S3
        simpa using S3
    · have ei : i = ms.length := by omega
      rw [ei, List.take_length] at R3
      refine .inl ⟨by have := wk.stops H' hT'; rwa [show ys.length = i by omega] at this, D, vs, rfl, .inr (SqL.of R2), ?_, ?_⟩
      · rw [List.append_nil, List.length_cons, dpAll_length R3]
        exact Nat.le_trans hn (by decide)
      · rw [List.append_nil]
        exact give (s5.trans R1) (.cons g1 R3) q
end
end My8

end
section
set_option Elab.async false
set_option linter.all false
set_option maxRecDepth 100000
set_option maxHeartbeats 2000000
namespace My8
open PySem PySem.Spec PyProof.Rows L2 My
open TrM TL
abbrev s_all_parts : Stmt := top 21
/-- names that a method or block binds, and whether it is a block -/
inductive Own : PyData → List Str → Nat → Prop
  | block {ps vs : List Str} {ds : List PyData} : Own (.tuple [.str kBlock, .tuple (ps.map .str), .tuple (vs.map .str), .tuple ds]) (ps ++ vs) 1
  | meth {s : Str} {ps vs : List Str} {ds : List PyData} : Own (.tuple [.str kMeth, .str s, .tuple (ps.map .str), .tuple (vs.map .str), .tuple ds]) (ps ++ vs) 0
  | other {z : Str} {r : List PyData} : z ≠ kBlock → z ≠ kMeth → Own (.tuple (.str z :: r)) [] 0
abbrev RowD := PyData × List Str × Nat
/-- the rows that come of a pile: in the order of the text -/
inductive Rows : List RowD → List RowD → Prop
  | nil : Rows [] []
  | cons {d : PyData} {b : List Str} {k : Nat} {ds : List PyData} {ns : List Str} {j : Nat} {rest rows : List RowD} : Parts d ds → Own d ns j → Rows (ds.map (fun x => (x, b ++ ns, k + j)) ++ rest) rows → Rows ((d, b, k) :: rest) ((d, b ++ ns, k) :: rows)
/-- a row, its parts at HB -/
def RowAt (K : PySem.W.Frag) (HB H : Hp) (v : V) (r : RowD) : Prop := ∃ a u c, v = .ref a ∧ SqT K H a [u, .ref c, .int (r.2.2 : Int)] ∧ Dp K HB u r.1 ∧ SqT K H c (r.2.1.map V.str)
def spAll (K : PySem.W.Frag) : Sp := fun vs H Q _ => ∃ (HB : Hp) (v : V) (d : PyData) (rows : List RowD), vs = [v] ∧ Same HB H ∧ Dp K HB v d ∧ Rows [(d, [], 0)] rows ∧ rows.length ≤ 100000 ∧ (∀ r ∈ rows, r.2.1.length ≤ 100000) ∧ ∀ (p : Addr) (xs : List V) (H' : Hp), Same H H' → H p = none → H' p = some (.lst xs) → Paired (RowAt K HB H') xs rows → Q (.ref p) H'
theorem rows_len {p rows : List RowD} (h : Rows p rows) : p.length ≤ rows.length := by
  induction h with
  | nil => exact Nat.le_refl _
  | cons _ _ _ ih =>
    rw [List.length_append, List.length_map] at ih
    rw [List.length_cons, List.length_cons]
    omega
theorem pair_app {α β : Type} {F : α → β → Prop} : ∀ {l l' : List α} {m m' : List β}, Paired F l m → Paired F l' m' → Paired F (l ++ l') (m ++ m')
  | _, _, _, _, .nil, h => h
  | _, _, _, _, .cons h t, h' => .cons h (pair_app t h')
theorem join {s : TS} {D : Ends} {σ : L2.St} {H : Hp} (N : L2.St → Hp → Prop) (ha : ∀ D' : Ends, (∀ σ' H', N σ' H' → D'.nx σ' H') → s D' σ H) (hb : ∀ σ' H', N σ' H' → D.nx σ' H') : s D σ H := ha D hb
theorem in_two {z w1 w2 : Str} (h1 : z ≠ w1) (h2 : z ≠ w2) : inV (.str z) [.str w1, .str w2] = false := by
  unfold inV
  rw [List.any_cons, List.any_cons, List.any_nil]
  show (eqV (.str w1) (.str z) || (eqV (.str w2) (.str z) || false)) = false
  rw [eqv_str, eqv_str, decide_eq_false (fun e => h1 (by cases e; rfl)), decide_eq_false (fun e => h2 (by cases e; rfl))]
  rfl
theorem seq_join {a b : TS} {D : Ends} {σ : L2.St} {H : Hp} (N : L2.St → Hp → Prop) (ha : ∀ D' : Ends, (∀ σ' H', N σ' H' → D'.nx σ' H') → a D' σ H) (hb : ∀ σ' H', N σ' H' → b D σ' H') : tSeq a b D σ H := ha _ hb
theorem sqt_upd {K : PySem.W.Frag} {H : Hp} {p a : Addr} {xs zs ys : List V} (hp : H p = some (.lst xs)) (h : SqT K H a ys) : SqT K (upd H p (.lst zs)) a ys := by
  rcases h with h | h
  · refine .inl ?_
    have hne : a ≠ p := fun e => by
      subst e
      rcases h with h | ⟨o, h⟩ <;> rw [hp] at h <;> injection h with h <;> cases h
    rcases h with h | ⟨o, h⟩
    · exact .inl (by rw [upd_ne hne]; exact h)
    · exact .inr ⟨o, by rw [upd_ne hne]; exact h⟩
  · exact .inr h
theorem pair_imp {α β : Type} {F G : α → β → Prop} (hi : ∀ a b, F a b → G a b) : ∀ {l : List α} {m : List β}, Paired F l m → Paired G l m
  | _, _, .nil => .nil
  | _, _, .cons h t => .cons (hi _ _ h) (pair_imp hi t)
theorem rows_upd {K : PySem.W.Frag} {HB H : Hp} {p : Addr} {xs zs : List V} {vs : List V} {rows : List RowD} (hp : H p = some (.lst xs)) (h : Paired (RowAt K HB H) vs rows) : Paired (RowAt K HB (upd H p (.lst zs))) vs rows :=
  pair_imp (fun _ _ ⟨a, u, c, h1, h2, h3, h4⟩ => ⟨a, u, c, h1, sqt_upd hp h2, h3, sqt_upd hp h4⟩) h
theorem rows_mono {K : PySem.W.Frag} {HB H H' : Hp} {vs : List V} {rows : List RowD} (s : Same H H') (h : Paired (RowAt K HB H) vs rows) : Paired (RowAt K HB H') vs rows :=
  pair_imp (fun _ _ ⟨a, u, c, h1, h2, h3, h4⟩ => ⟨a, u, c, h1, SqT.mono s h2, h3, SqT.mono s h4⟩) h
section
variable {P : Program} {w : World} {K : PySem.W.Frag} {mg : Str → Option Value} {base : Heap}
theorem sc_all_parts : FnScope ["tree", "rows", "waiting", "part", "bound", "blocks", "below", "inner", "found"] ["tree"] (defScope s_all_parts) := ⟨rfl, rfl, rfl, by decide +kernel, rfl, by decide +kernel, by decide +kernel⟩
theorem ok_all {f fP : Addr} {fd fdP : FuncData} (F : FnP K "all_parts" s_all_parts f fd)
    (G_parts_of : FnOk P w K mg base CX0 1 fP fdP ["tree"] (spParts K)) (g_parts_of : mg "parts_of" = some (.ref fP)) (k_parts_of : PySem.W.keepIn K (.ref fP) = true) (b_parts_of : Binds K fdP ["tree"] []) :
    FnOk P w K mg base CX0 2 f fd ["tree"] (spAll K) := by
  refine F.ok sc_all_parts (fun vs H Q E h => ?_) (fun cdv A outer s H vs Q E hr h => ⟨_, PSs.nox
    (pss_cons (ps_set (i := 1) sc_all_parts.nd rfl (Or.inl rfl) (pe_lst pa_nil))
      (pss_cons (ps_set (i := 2) sc_all_parts.nd rfl (Or.inl rfl) (pe_lst (pa_cons (pe_tup (pa_cons (pv 0) (pa_cons (pe_tup pa_nil) (pa_cons pe_int pa_nil)))) pa_nil)))
      (pss_cons (ps_while PassesOwn.never (pt_truth (pv 2) (by intro _; rfl)) (pss_cons (ps_asg (pe_bm0 PySem.F.plainAttrs_list PySem.F.slot_list_pop PySem.F.type_list_pop mt_pop (pv 2)) (pg_tup rfl (pgs_cons (pg_name (i := 3) sc_all_parts.nd rfl (Or.inl rfl)) (pgs_cons (pg_name (i := 4) sc_all_parts.nd rfl (Or.inr rfl)) (pgs_cons (pg_name (i := 5) sc_all_parts.nd rfl (Or.inl rfl)) pgs_nil)))))
      (pss_cons (ps_set (i := 6) sc_all_parts.nd rfl (Or.inr rfl) (pv 5))
      (pss_cons (ps_if (pt_cmpR op_in_seq (pe_ix ix_tup (pv 3) pe_int (fun _ _ => rfl)) (pe_tup (pa_cons pe_str (pa_cons pe_str pa_nil))) (by rfl)) (pss_cons (ps_set (i := 4) sc_all_parts.nd rfl (Or.inr rfl) (pe_tup (StX.pa_star (pv 4) (StX.pa_star (pe_ix ix_tup (pv 3) (pe_un un_neg pe_int) (fun _ _ => rfl)) (StX.pa_star (pe_ix ix_tup (pv 3) (pe_un un_neg pe_int) (fun _ _ => rfl)) pa_nil)))))
      (pss_one (ps_set (i := 6) sc_all_parts.nd rfl (Or.inr rfl) (pe_ifExp (pt_cmpR op_eq (pe_ix ix_tup (pv 3) pe_int (fun _ _ => rfl)) pe_str (nomark _)) (pe_op op_add (pv 5) pe_int) (pv 5))))) pss_nil)
      (pss_cons (ps_expr (pe_bm PySem.F.plainAttrs_list PySem.F.slot_list_append PySem.F.type_list_append mt_append (pv 1) (pa_cons (pe_tup (pa_cons (pv 3) (pa_cons (pv 4) (pa_cons (pv 5) pa_nil)))) pa_nil)))
      (pss_cons (ps_setLc (i := 7) (own := [("found", 8)]) rfl sc_all_parts.nd rfl rfl (sw_true rfl rfl rfl (by decide +kernel)) (pi_list (pe_call G_parts_of (hr.mono (by decide)) rfl g_parts_of k_parts_of b_parts_of .nil pass0 (pa_cons (pv 3) pa_nil))) (blkOk_by (own := [("found", 8)]) (N := ["tree", "rows", "waiting", "part", "bound", "blocks", "below", "inner", "found"]) (sc := defScope s_all_parts) (by decide +kernel)) (fun _ _ _ _ _ => by (exact (pg_name (i := 8) sc_all_parts.nd rfl (Or.inl rfl)))) (fun _ _ _ _ _ => by exact pts_nil) (fun _ _ _ _ _ => by exact (pe_tup (pa_cons (pv 8) (pa_cons (pv 4) (pa_cons (pv 6) pa_nil))))))
      (pss_cons (ps_expr (pe_bm0 PySem.F.plainAttrs_list PySem.F.slot_list_reverse PySem.F.type_list_reverse mt_reverse (pv 7)))
      (pss_one (ps_expr (pe_bm PySem.F.plainAttrs_list PySem.F.slot_list_extend PySem.F.type_list_extend mt_extend (pv 2) (pa_cons (pv 7) pa_nil)))))))))))
      (pss_one (ps_ret (pv 1)))))), ?_⟩)
  · obtain ⟨HB, v, d, rows, rfl, _⟩ := h
    rfl
  obtain ⟨HB, v, d, rows, rfl, hsB, hd, hR, hn, hb, q⟩ := h
  dsimp only [tSeq, tNext]
  refine ⟨(by show 0 ≤ sizeLine; decide), fun r nr => ?_⟩
  refine ⟨_, rfl, (by show 0 ≤ sizeLine; decide), fun e ne => ⟨(by show 3 ≤ sizeLine; decide), fun t nt => ⟨(by show 1 ≤ sizeLine; decide), fun ww nw => ?_⟩⟩⟩
  have s1 : Same H (upd H r (.lst [])) := same_upd nr
  have s2 := same_upd (o := HO.tup []) ne
  have s3 := same_upd (o := HO.tup [v, .ref e, .int 0]) nt
  have s4 := same_upd (o := HO.lst [.ref t]) nw
  have hw0 : (upd (upd (upd (upd H r (.lst [])) e (.tup [])) t (.tup [v, .ref e, .int 0])) ww (.lst [.ref t])) ww = some (.lst [.ref t]) := upd_same
  have hr0 := s4 _ _ (s3 _ _ (s2 r _ upd_same))
  have ht0 := SqT.mono (K := K) s4 (SqT.of upd_same)
  have he0 := SqT.mono (K := K) (s3.trans s4) (SqT.of upd_same)
  have nw0 : H ww = none := old_none ((s1.trans s2).trans s3) nw
  have hrw : r ≠ ww := fun h => by
    subst h
    have := hw0.symm.trans hr0
    injection this with this
    injection this with this
    cases this
  have s5 : Same H _ := (s1.trans s2).trans (s3.trans s4)
  generalize upd (upd (upd (upd H r (.lst [])) e (.tup [])) t (.tup [v, .ref e, .int 0])) ww (.lst [.ref t]) = Hw at s5 hw0 hr0 ht0 he0 ⊢
  have row0 : RowAt K HB Hw (.ref t) (d, [], 0) := ⟨t, v, e, rfl, ht0, hd, he0⟩
  refine ⟨fun m σ H' => ∃ x3 x4 x5 x6 x7 x8 ws rs rest rem don, σ = [some v, some (.ref r), some (.ref ww), x3, x4, x5, x6, x7, x8] ∧ Same H H' ∧ H' ww = some (.lst ws) ∧ H' r = some (.lst rs) ∧ Paired (RowAt K HB H') ws.reverse rest ∧ Paired (RowAt K HB H') rs don ∧ Rows rest rem ∧ don ++ rem = rows ∧ m = rem.length, ⟨_, _, _, _, _, _, _, _, _, _, _, [], rfl, s5, hw0, hr0, .cons row0 .nil, .nil, hR, rfl, rfl⟩, ?_⟩
  rintro mm σ H1 ⟨x3, x4, x5, x6, x7, x8, ws, rs, rest, rem, don, rfl, sH, hW, hRr, pW, pR, hRows, hsum, rfl⟩
  refine ⟨_, rfl, !ws.isEmpty, .inl ⟨ws, SqL.of hW, rfl⟩, ?_⟩
  cases hRows with
  | nil =>
    have : ws = [] := by
      cases ws with
      | nil => rfl
      | cons a l => have := pW.length; simp at this
    subst this
    refine iteF ⟨_, rfl, q r rs H1 sH nr hRr ?_⟩
    rw [List.append_nil] at hsum
    rw [← hsum]
    exact pR
  | @cons d b k ds ns j rest rows' hp ho hr2 =>
    generalize hwr : ws.reverse = wr at pW
    cases pW with
    | @cons a _ tl _ hrow pW =>
    have ews : ws = tl.reverse ++ [a] := by rw [← List.reverse_reverse ws, hwr, List.reverse_cons]
    subst ews
    refine (if_pos (show (!(tl.reverse ++ [a]).isEmpty) = true by simp)).mpr ?_
    refine ⟨fun σ' H' => ∃ x3 x4 x5 x6 x7 x8 ws rs rest don, σ' = [some v, some (.ref r), some (.ref ww), x3, x4, x5, x6, x7, x8] ∧ Same H H' ∧ H' ww = some (.lst ws) ∧ H' r = some (.lst rs) ∧ Paired (RowAt K HB H') ws.reverse rest ∧ Paired (RowAt K HB H') rs don ∧ Rows rest rows' ∧ don ++ rows' = rows, fun σ' H' h => ⟨rows'.length, Nat.lt_succ_self _, by
      obtain ⟨x3, x4, x5, x6, x7, x8, ws, rs, rest, don, h1, h2, h3, h4, h5, h6, h7, h8⟩ := h
      exact ⟨x3, x4, x5, x6, x7, x8, ws, rs, rest, _, don, h1, h2, h3, h4, h5, h6, h7, h8, rfl⟩⟩, ?_⟩
    obtain ⟨ta, u, c, rfl, hT, hu, hc⟩ := hrow
    refine ⟨_, rfl, .inl ⟨rfl, _, SqL.of hW⟩, ww, _, .ref ta, rfl, rfl, hW, by simp, ?_⟩
    rw [List.dropLast_concat]
    have sH2 : Same H (upd H1 ww (.lst tl.reverse)) := same_free sH nw0
    have hT2 := sqt_upd (zs := tl.reverse) hW hT
    have hc2 := sqt_upd (zs := tl.reverse) hW hc
    have hW2 : (upd H1 ww (.lst tl.reverse)) ww = some (.lst tl.reverse) := upd_same
    have hR2 : (upd H1 ww (.lst tl.reverse)) r = some (.lst rs) := by rw [upd_ne hrw]; exact hRr
    have pW2 := rows_upd (zs := tl.reverse) hW pW
    have pR2 := rows_upd (zs := tl.reverse) hW pR
    generalize upd H1 ww (.lst tl.reverse) = H2 at sH2 hT2 hc2 hW2 hR2 pW2 pR2 ⊢
    refine ⟨ta, _, rfl, hT2, rfl, _, _, rfl, _, _, rfl, _, _, rfl, rfl, ?_⟩
    refine ⟨_, rfl, ?_⟩
    have hbn : (b ++ ns).length ≤ 100000 := hb (d, b ++ ns, k) (by rw [← hsum]; simp)
    dsimp only [tSeq, tNext, gName]
    refine join (fun σ' H3 => ∃ nb, σ' = [some v, some (.ref r), some (.ref ww), some u, some (.ref nb), some (.int (k : Int)), some (.int ((k + j : Nat) : Int)), x7, x8] ∧ Same H2 H3 ∧ SqT K H3 nb ((b ++ ns).map V.str)) (fun D' hD => ?_) (fun σ' H3 hN => ?_)
    · cases ho with
      | other h1 h2 =>
        obtain ⟨pa, xs, rfl, hP, hA⟩ := dp_tup hu
        cases hA with | cons g0 hA1 =>
        obtain rfl := dp_str g0
        have hP := SqT.mono (hsB.trans sH2) hP
        refine if_ev (H0 := H2) (b := false) (EvT.to (evt_test fun H' Q hs k => ⟨_, rfl, _, _, _, _, rfl, rfl, SqT.mono hs hP, atI_nat rfl, (by show 2 ≤ sizeLine; decide), fun t nt => ⟨t, _, rfl, .inr (SqT.of upd_same), rfl, rfl, k _ (hs.trans (same_upd nt))⟩⟩) (in_two h2 h1)) (Same.refl H2) (fun h => by cases h) (fun _ H3 s3 => ?_)
        refine hD _ _ ⟨c, rfl, s3, ?_⟩
        rw [List.append_nil]
        exact SqT.mono s3 hc2
      | block =>
        obtain ⟨pa, xs, rfl, hP, hA⟩ := dp_tup hu
        cases hA with | cons g0 hA1 => cases hA1 with | cons g1 hA2 => cases hA2 with | cons g2 hA3 => cases hA3 with | cons g3 hA4 =>
        cases hA4
        rw [dp_str g0] at hP
        obtain ⟨bp, rfl, hp1⟩ := dp_strs g1
        obtain ⟨bv, rfl, hv1⟩ := dp_strs g2
        have hP := SqT.mono (hsB.trans sH2) hP
        refine if_ev (H0 := H2) (b := true) (EvT.to (evt_test fun H' Q hs k => ⟨_, rfl, _, _, _, _, rfl, rfl, SqT.mono hs hP, atI_nat rfl, (by show 2 ≤ sizeLine; decide), fun t nt => ⟨t, _, rfl, .inr (SqT.of upd_same), rfl, rfl, k _ (hs.trans (same_upd nt))⟩⟩) (by decide +kernel)) (Same.refl H2) (fun _ H3 s3 => ?_) (fun h => by cases h)
        refine ⟨_, rfl, c, _, rfl, .inl (SqT.mono s3 hc2), _, rfl, 3, rfl, pa, _, -3, .ref bp, rfl, rfl, SqT.mono s3 hP, by rfl, bp, _, rfl, .inl (SqT.mono (hsB.trans (sH2.trans s3)) hp1), _, rfl, 2, rfl, pa, _, -2, .ref bv, rfl, rfl, SqT.mono s3 hP, by rfl, bv, _, rfl, .inl (SqT.mono (hsB.trans (sH2.trans s3)) hv1), ?_, fun nb nn => ?_⟩
        · rw [List.append_nil, List.length_append, List.length_append, List.length_map, List.length_map, List.length_map]
          rw [List.length_append, List.length_append] at hbn
          exact Nat.le_trans (show _ ≤ 100000 by omega) (by decide)
        refine ⟨_, rfl, pa, _, _, _, rfl, rfl, SqT.mono (s3.trans (same_upd nn)) hP, atI_nat rfl, rfl, true, by decide +kernel, iteT ⟨_, rfl, _, _, rfl, rfl, hD _ _ ⟨nb, rfl, s3.trans (same_upd nn), ?_⟩⟩⟩
        refine SqT.of ?_
        rw [upd_same]
        simp
      | meth =>
        obtain ⟨pa, xs, rfl, hP, hA⟩ := dp_tup hu
        cases hA with | cons g0 hA1 => cases hA1 with | cons g1 hA2 => cases hA2 with | cons g2 hA3 => cases hA3 with | cons g3 hA4 => cases hA4 with | cons g4 hA5 =>
        cases hA5
        rw [dp_str g0] at hP
        obtain ⟨bp, rfl, hp1⟩ := dp_strs g2
        obtain ⟨bv, rfl, hv1⟩ := dp_strs g3
        have hP := SqT.mono (hsB.trans sH2) hP
        refine if_ev (H0 := H2) (b := true) (EvT.to (evt_test fun H' Q hs k => ⟨_, rfl, _, _, _, _, rfl, rfl, SqT.mono hs hP, atI_nat rfl, (by show 2 ≤ sizeLine; decide), fun t nt => ⟨t, _, rfl, .inr (SqT.of upd_same), rfl, rfl, k _ (hs.trans (same_upd nt))⟩⟩) (by decide +kernel)) (Same.refl H2) (fun _ H3 s3 => ?_) (fun h => by cases h)
        refine ⟨_, rfl, c, _, rfl, .inl (SqT.mono s3 hc2), _, rfl, 3, rfl, pa, _, -3, .ref bp, rfl, rfl, SqT.mono s3 hP, by rfl, bp, _, rfl, .inl (SqT.mono (hsB.trans (sH2.trans s3)) hp1), _, rfl, 2, rfl, pa, _, -2, .ref bv, rfl, rfl, SqT.mono s3 hP, by rfl, bv, _, rfl, .inl (SqT.mono (hsB.trans (sH2.trans s3)) hv1), ?_, fun nb nn => ?_⟩
        · rw [List.append_nil, List.length_append, List.length_append, List.length_map, List.length_map, List.length_map]
          rw [List.length_append, List.length_append] at hbn
          exact Nat.le_trans (show _ ≤ 100000 by omega) (by decide)
        refine ⟨_, rfl, pa, _, _, _, rfl, rfl, SqT.mono (s3.trans (same_upd nn)) hP, atI_nat rfl, rfl, false, by decide +kernel, iteF ⟨_, rfl, hD _ _ ⟨nb, rfl, s3.trans (same_upd nn), ?_⟩⟩⟩
        refine SqT.of ?_
        rw [upd_same]
        simp
    · obtain ⟨nb, rfl, s3, hnb⟩ := hN
      have hW3 := s3 _ _ hW2
      have hR3 := s3 _ _ hR2
      have hRlen : rs.length ≤ 100000 := by
        have h1 := pR.length
        have h2 := congrArg List.length hsum
        rw [List.length_append] at h2
        omega
      dsimp only [tSeq, tNext]
      refine ⟨_, rfl, .inl ⟨rfl, _, SqL.of hR3⟩, _, rfl, _, rfl, _, rfl, (by show 3 ≤ sizeLine; decide), fun nt hnt => ⟨r, rs, .ref nt, rfl, rfl, ?_, Nat.lt_of_le_of_lt hRlen (by decide), ?_⟩⟩
      · exact same_upd hnt _ _ hR3
      have s4 : Same H3 (upd H3 nt (.tup [u, .ref nb, .int (k : Int)])) := same_upd hnt
      have hnt4 : SqT K (upd H3 nt (.tup [u, .ref nb, .int (k : Int)])) nt [u, .ref nb, .int (k : Int)] := SqT.of upd_same
      generalize upd H3 nt (.tup [u, .ref nb, .int (k : Int)]) = H4 at s4 hnt4 ⊢
      have hR4 := s4 _ _ hR3
      have sH4 := sH2.trans (s3.trans s4)
      have rowN : RowAt K HB H4 (.ref nt) (d, b ++ ns, k) := ⟨nt, u, nb, rfl, hnt4, hu, SqT.mono s4 hnb⟩
      have pR4 := (rows_mono (s3.trans s4) pR2).snoc rowN
      have pW4 := rows_mono (s3.trans s4) pW2
      have hW4 := s4 _ _ hW3
      have hnb4 := SqT.mono s4 hnb
      have pR5 := rows_upd (zs := rs ++ [.ref nt]) hR4 pR4
      have pW5 := rows_upd (zs := rs ++ [.ref nt]) hR4 pW4
      have hnb5 := sqt_upd (zs := rs ++ [.ref nt]) hR4 hnb4
      have sH5 : Same H (upd H4 r (.lst (rs ++ [.ref nt]))) := same_free sH4 nr
      have hR5 : (upd H4 r (.lst (rs ++ [.ref nt]))) r = some (.lst (rs ++ [.ref nt])) := upd_same
      have hW5 : (upd H4 r (.lst (rs ++ [.ref nt]))) ww = some (.lst tl.reverse) := by rw [upd_ne (fun e => hrw e.symm)]; exact hW4
      generalize upd H4 r (.lst (rs ++ [.ref nt])) = H5 at pR5 pW5 hnb5 sH5 hR5 hW5 ⊢
      have hdl : ds.length + rest.length ≤ 100000 := by
        have h1 := rows_len hr2
        have h2 := congrArg List.length hsum
        rw [List.length_append, List.length_map] at h1
        rw [List.length_append, List.length_cons] at h2
        omega
      have htl : tl.length = rest.length := pW.length
      dsimp only [tSeq, tNext]
      refine ⟨_, rfl, HB, u, d, ds, rfl, hsB.trans sH5, hu, hp, by omega, fun p xs H6 s6 np e6 hx => ⟨p, rfl, ⟨_, SqL.of e6⟩, fun D nD => ?_⟩⟩
      have hxl := dpAll_length hx
      refine lc_list (K := K) (a := p) (xs := xs) (fun i H' => Same H6 H' ∧ ∃ acc, H' D = some (.lst acc) ∧ Paired (RowAt K HB H') acc ((ds.take i).map fun x => (x, b ++ ns, k + j))) ⟨same_upd nD, [], upd_same, by rw [List.take_zero]; exact .nil⟩ (fun i H' _ R => SqL.mono R.1 (SqL.of e6)) ?hs ?hd
      case hs =>
        intro i x H' hx' R
        obtain ⟨R1, acc, R2, R3⟩ := R
        obtain ⟨d', h1, h2⟩ := dpAll_get hx hx'
        have hil : i < ds.length := (List.getElem?_eq_some_iff.mp h1).1
        refine ⟨rfl, tyes ?_⟩
        refine ⟨_, rfl, _, rfl, _, rfl, (by show 3 ≤ sizeLine; decide), fun T nT => ?_⟩
        have sT : Same H' (upd H' T (.tup [x, .ref nb, .int ((k + j : Nat) : Int)])) := same_upd nT
        have hT' : SqT K (upd H' T (.tup [x, .ref nb, .int ((k + j : Nat) : Int)])) T [x, .ref nb, .int ((k + j : Nat) : Int)] := SqT.of upd_same
        have hDT := sT _ _ R2
        generalize upd H' T (.tup [x, .ref nb, .int ((k + j : Nat) : Int)]) = H7 at sT hT' hDT ⊢
        have rw7 : RowAt K HB H7 (.ref T) (d', b ++ ns, k + j) := ⟨T, x, nb, rfl, hT', h2, SqT.mono (s6.trans (R1.trans sT)) hnb5⟩
        have pr7 := (rows_mono sT R3).snoc rw7
        refine ⟨acc, hDT, ?_, same_free (R1.trans sT) nD, _, upd_same, ?_⟩
        · have := R3.length
          rw [List.length_map, List.length_take] at this
          exact Nat.lt_of_le_of_lt (show _ ≤ 100000 by omega) (by decide)
        · rw [List.take_succ, h1, List.map_append]
          exact rows_upd hDT pr7
      case hd =>
        intro H7 R
        obtain ⟨R1, acc, R2, R3⟩ := R
        rw [hxl, List.take_length] at R3
        have hacc : acc.length = ds.length := by have := R3.length; rw [List.length_map] at this; exact this
        have s67 := s6.trans R1
        have hDH : H D = none := old_none (sH5.trans s6) nD
        have hDr : r ≠ D := fun e => by rw [← e] at nD; rw [s6 _ _ hR5] at nD; cases nD
        have hDw : ww ≠ D := fun e => by rw [← e] at nD; rw [s6 _ _ hW5] at nD; cases nD
        refine ⟨_, rfl, .inl ⟨rfl, _, SqL.of R2⟩, D, acc, rfl, rfl, R2, ?_⟩
        have pA8 := rows_upd (zs := acc.reverse) R2 R3
        have pR8 := rows_upd (zs := acc.reverse) R2 (rows_mono s67 pR5)
        have pW8 := rows_upd (zs := acc.reverse) R2 (rows_mono s67 pW5)
        have hD8 : (upd H7 D (.lst acc.reverse)) D = some (.lst acc.reverse) := upd_same
        have hR8 : (upd H7 D (.lst acc.reverse)) r = some (.lst (rs ++ [.ref nt])) := by rw [upd_ne hDr]; exact s67 _ _ hR5
        have hW8 : (upd H7 D (.lst acc.reverse)) ww = some (.lst tl.reverse) := by rw [upd_ne hDw]; exact s67 _ _ hW5
        have sH8 : Same H (upd H7 D (.lst acc.reverse)) := same_free (sH5.trans s67) hDH
        generalize upd H7 D (.lst acc.reverse) = H8 at pA8 pR8 pW8 hD8 hR8 hW8 sH8 ⊢
        refine ⟨_, rfl, .inl ⟨rfl, _, SqL.of hW8⟩, _, rfl, ww, D, tl.reverse, acc.reverse, rfl, rfl, hW8, hD8, ?_, ?_⟩
        · rw [List.length_reverse, List.length_reverse, hacc, htl]
          exact Nat.le_trans (show _ ≤ 100000 by omega) (by decide)
        refine ⟨_, _, _, _, _, _, tl.reverse ++ acc.reverse, rs ++ [.ref nt], ds.map (fun x => (x, b ++ ns, k + j)) ++ rest, don ++ [(d, b ++ ns, k)], rfl, same_free sH8 nw0, upd_same, by rw [upd_ne hrw]; exact hR8, ?_, rows_upd hW8 pR8, hr2, by rw [List.append_assoc]; exact hsum⟩
        rw [List.reverse_append, List.reverse_reverse, List.reverse_reverse]
        exact pair_app (rows_upd hW8 pA8) (rows_upd hW8 pW8)
end
end My8

end
section
set_option Elab.async false
set_option linter.all false
set_option maxRecDepth 100000
set_option maxHeartbeats 2000000
namespace My8
open PySem PySem.Spec PyProof.Rows L2 My
open TrM TL
abbrev s_tree_size : Stmt := top 43
abbrev s_blocks_of : Stmt := top 52
theorem ix_tupK {X : Cx} {K : PySem.W.Frag} (hK : X.K = K) : IxR X (rIxT K) := by subst hK; exact ix_tup
theorem rows_parts {p rows : List RowD} (h : Rows p rows) : ∀ r ∈ rows, ∃ ds, Parts r.1 ds := by
  induction h with
  | nil => intro r hr; cases hr
  | @cons d b k ds ns j rest rows hp _ _ ih =>
    intro r hr
    rcases List.mem_cons.mp hr with rfl | hr
    · exact ⟨ds, hp⟩
    · exact ih r hr
def spSize (K : PySem.W.Frag) : Sp := fun vs H Q _ => ∃ (v : V) (d : PyData) (rows : List RowD), vs = [v] ∧ Dp K H v d ∧ Mt d ∧ Rows [(d, [], 0)] rows ∧ rows.length ≤ 100000 ∧ (∀ r ∈ rows, r.2.1.length ≤ 100000) ∧ ∀ H', Same H H' → Q (.int (rows.length : Int)) H'
theorem rows_pile {p rows : List RowD} (h : Rows p rows) : ∀ x ∈ p, ∃ ds, Parts x.1 ds := by
  induction h with
  | nil => intro x hx; cases hx
  | @cons d b k ds ns j rest rows hp _ _ ih =>
    intro x hx
    rcases List.mem_cons.mp hx with rfl | hx
    · exact ⟨ds, hp⟩
    · exact ih x (List.mem_append_right _ hx)
theorem rows_kids {p rows : List RowD} (h : Rows p rows) : ∀ r ∈ rows, ∃ ds, Parts r.1 ds ∧ ∀ x ∈ ds, ∃ es, Parts x es := by
  induction h with
  | nil => intro r hr; cases hr
  | @cons d b k ds ns j rest rows hp _ hr2 ih =>
    intro r hr
    rcases List.mem_cons.mp hr with rfl | hr
    · exact ⟨ds, hp, fun x hx => rows_pile hr2 (x, b ++ ns, k + j) (List.mem_append_left _ (List.mem_map_of_mem (f := fun x => (x, b ++ ns, k + j)) hx))⟩
    · exact ih r hr
theorem parts_head {d : PyData} {ds : List PyData} (h : Parts d ds) : ∃ z r, d = .tuple (.str z :: r) := by cases h <;> exact ⟨_, _, rfl⟩
def isRet : PyData → Bool
  | .tuple (.str z :: _) => decide (V.str z = V.str kRet)
  | _ => false
/-- what is told of a block -/
def blkD : RowD → Option (Nat × Nat × Bool)
  | (.tuple [.str k, .tuple ps, .tuple _, .tuple sts], _, n) => if decide (V.str k = V.str kBlock) = true then some (n, ps.length, sts.any isRet) else none
  | _ => none
def BlkAt (K : PySem.W.Frag) (H : Hp) (v : V) (r : Nat × Nat × Bool) : Prop := ∃ a, v = .ref a ∧ SqT K H a [.int (r.1 : Int), .int (r.2.1 : Int), .bl r.2.2]
def spBlocks (K : PySem.W.Frag) : Sp := fun vs H Q _ => ∃ (v : V) (d : PyData) (rows : List RowD), vs = [v] ∧ Dp K H v d ∧ Mt d ∧ Rows [(d, [], 0)] rows ∧ rows.length ≤ 100000 ∧ (∀ r ∈ rows, r.2.1.length ≤ 100000) ∧ ∀ (p : Addr) (xs : List V) (H' : Hp), Same H H' → H p = none → H' p = some (.lst xs) → Paired (BlkAt K H') xs (rows.filterMap blkD) → Q (.ref p) H'
theorem blk_none {z : Str} {r : List PyData} {b : List Str} {n : Nat} (h : decide (V.str z = V.str kBlock) = false) : blkD (.tuple (.str z :: r), b, n) = none := by
  unfold blkD
  split
  · rename_i e
    injection e with e _
    injection e with e
    injection e with e _
    injection e with e
    subst e
    rw [h]
    rfl
  · rfl
theorem parts_block {d : PyData} {ds r : List PyData} (h : Parts d ds) (e : d = .tuple (.str kBlock :: r)) : ∃ ps vs : List Str, r = [.tuple (ps.map .str), .tuple (vs.map .str), .tuple ds] := by
  cases h
  case block ps vs =>
    injection e with e
    injection e with _ e
    exact ⟨ps, vs, e.symm⟩
  all_goals
    injection e with e
    injection e with e _
    injection e with e
    exact absurd e (by decide +kernel)
theorem parts_one {d : PyData} {ds es : List PyData} (h : Parts d ds) : ∀ {r : List PyData}, d = .tuple (.str kBlock :: r) → Parts d es → ds = es := fun {r} e h' => by
  obtain ⟨p1, v1, e1⟩ := parts_block h e
  obtain ⟨p2, v2, e2⟩ := parts_block h' e
  rw [e1] at e2
  injection e2 with _ e2
  injection e2 with _ e2
  injection e2 with e2 _
  injection e2
theorem rows_kid_len {p rows : List RowD} (h : Rows p rows) : ∀ r ∈ rows, ∀ {ds rr : List PyData}, Parts r.1 ds → r.1 = .tuple (.str kBlock :: rr) → ds.length ≤ rows.length := by
  induction h with
  | nil => intro r hr; cases hr
  | @cons d b k ds ns j rest rows hp _ hr2 ih =>
    intro r hr es rr he e
    rcases List.mem_cons.mp hr with rfl | hr
    · rw [← parts_one hp e he]
      have h1 := rows_len hr2
      rw [List.length_append, List.length_map] at h1
      rw [List.length_cons]
      omega
    · have := ih r hr he e
      rw [List.length_cons]
      omega
theorem blk_mono {K : PySem.W.Frag} {H H' : Hp} {vs : List V} {rows : List (Nat × Nat × Bool)} (s : Same H H') (h : Paired (BlkAt K H) vs rows) : Paired (BlkAt K H') vs rows :=
  pair_imp (fun _ _ ⟨a, h1, h2⟩ => ⟨a, h1, SqT.mono s h2⟩) h
theorem blk_upd {K : PySem.W.Frag} {H : Hp} {p : Addr} {xs zs : List V} {vs : List V} {rows : List (Nat × Nat × Bool)} (hp : H p = some (.lst xs)) (h : Paired (BlkAt K H) vs rows) : Paired (BlkAt K (upd H p (.lst zs))) vs rows :=
  pair_imp (fun _ _ ⟨a, h1, h2⟩ => ⟨a, h1, sqt_upd hp h2⟩) h
theorem pair_get {α β : Type} {F : α → β → Prop} : ∀ {l : List α} {m : List β} {i : Nat} {x : α}, Paired F l m → l[i]? = some x → ∃ y, m[i]? = some y ∧ F x y
  | [], _, i, x, h, hx => by cases hx
  | y :: xs, _, 0, x, .cons h _, hx => by cases hx; exact ⟨_, rfl, h⟩
  | y :: xs, _, i + 1, x, .cons _ h, hx => by
    obtain ⟨d, h1, h2⟩ := pair_get h (by simpa using hx)
    exact ⟨d, by simpa using h1, h2⟩
theorem pair_len {α β : Type} {F : α → β → Prop} {l : List α} {m : List β} (h : Paired F l m) : l.length = m.length := h.length
section
variable {P : Program} {w : World} {K : PySem.W.Frag} {mg : Str → Option Value} {base : Heap}
theorem sc_tree_size : FnScope ["tree"] ["tree"] (defScope s_tree_size) := ⟨rfl, rfl, rfl, by decide +kernel, rfl, by decide +kernel, by decide +kernel⟩
theorem ok_size {f fC fA : Addr} {fd fdC fdA : FuncData} (F : FnP K "tree_size" s_tree_size f fd)
    (G_check_tree : FnOk P w K mg base CX0 125 fC fdC ["thing"] (spCheck K)) (g_check_tree : mg "check_tree" = some (.ref fC)) (k_check_tree : PySem.W.keepIn K (.ref fC) = true) (b_check_tree : Binds K fdC ["thing"] [])
    (G_all_parts : FnOk P w K mg base CX0 125 fA fdA ["tree"] (spAll K)) (g_all_parts : mg "all_parts" = some (.ref fA)) (k_all_parts : PySem.W.keepIn K (.ref fA) = true) (b_all_parts : Binds K fdA ["tree"] []) (g_len : mg "len" = none) :
    FnOk P w K mg base CX0 126 f fd ["tree"] (spSize K) := by
  refine F.ok sc_tree_size (fun vs H Q E h => ?_) (fun cdv A outer s H vs Q E hr h => ⟨_, PSs.nox
    (pss_cons (ps_expr (pe_call G_check_tree (hr.mono (Nat.le_refl _)) rfl g_check_tree k_check_tree b_check_tree .nil pass0 (pa_cons (pv 0) pa_nil)))
      (pss_one (ps_ret (pe_callB call_len_seq (by rfl) g_len PySem.boot_len (pa_cons (pe_call G_all_parts (hr.mono (Nat.le_refl _)) rfl g_all_parts k_all_parts b_all_parts .nil pass0 (pa_cons (pv 0) pa_nil)) pa_nil))))), ?_⟩)
  · obtain ⟨v, d, rows, rfl, _⟩ := h
    rfl
  obtain ⟨v, d, rows, rfl, hd, hm, hR, hn, hb, q⟩ := h
  dsimp only [tSeq, tNext]
  refine ⟨_, rfl, v, d, rfl, hd, hm, fun H1 s1 => ?_⟩
  refine ⟨_, rfl, H, v, d, rows, rfl, s1, hd, hR, hn, hb, fun p xs H2 s2 np e2 hp => ?_⟩
  refine ⟨p, xs, rfl, .inl (SqL.of e2), ?_⟩
  rw [pair_len hp]
  exact q H2 (s1.trans s2)
theorem sc_blocks_of : FnScope ["tree", "rows", "part", "_", "blocks", "has", "below"] ["tree"] (defScope s_blocks_of) := ⟨rfl, rfl, rfl, by decide +kernel, rfl, by decide +kernel, by decide +kernel⟩
theorem ok_blocks {f fC fA : Addr} {fd fdC fdA : FuncData} (F : FnP K "blocks_of" s_blocks_of f fd)
    (G_check_tree : FnOk P w K mg base CX0 125 fC fdC ["thing"] (spCheck K)) (g_check_tree : mg "check_tree" = some (.ref fC)) (k_check_tree : PySem.W.keepIn K (.ref fC) = true) (b_check_tree : Binds K fdC ["thing"] [])
    (G_all_parts : FnOk P w K mg base CX0 125 fA fdA ["tree"] (spAll K)) (g_all_parts : mg "all_parts" = some (.ref fA)) (k_all_parts : PySem.W.keepIn K (.ref fA) = true) (b_all_parts : Binds K fdA ["tree"] []) (g_len : mg "len" = none) (g_any : mg "any" = none) :
    FnOk P w K mg base CX0 126 f fd ["tree"] (spBlocks K) := by
  refine F.ok sc_blocks_of (fun vs H Q E h => ?_) (fun cdv A outer s H vs Q E hr h => ⟨_, PSs.nox
    (pss_cons (ps_expr (pe_call G_check_tree (hr.mono (Nat.le_refl _)) rfl g_check_tree k_check_tree b_check_tree .nil pass0 (pa_cons (pv 0) pa_nil)))
      (pss_cons (ps_set (i := 1) sc_blocks_of.nd rfl (Or.inl rfl) (pe_lst pa_nil))
      (pss_cons (ps_for PassesOwn.never rfl (pi_list (pe_call G_all_parts (hr.mono (Nat.le_refl _)) rfl g_all_parts k_all_parts b_all_parts .nil pass0 (pa_cons (pv 0) pa_nil))) (pg_tup rfl (pgs_cons (pg_name (i := 2) sc_blocks_of.nd rfl (Or.inl rfl)) (pgs_cons (pg_name (i := 3) sc_blocks_of.nd rfl (Or.inl rfl)) (pgs_cons (pg_name (i := 4) sc_blocks_of.nd rfl (Or.inl rfl)) pgs_nil)))) (pss_one (ps_if (pt_cmpR op_eq (pe_ix ix_tup (pv 2) pe_int (fun _ _ => rfl)) pe_str (nomark _)) (pss_cons (ps_set (i := 5) sc_blocks_of.nd rfl (Or.inl rfl) (pe_callB (cr_any rfl) (by rfl) g_any (by decide +kernel) (pa_cons (pe_lc (own := [("below", 6)]) rfl sc_blocks_of.nd (pi_tup (pe_ix ix_tup (pv 2) pe_int (fun _ _ => rfl))) (blkOk_by (own := [("below", 6)]) (N := ["tree", "rows", "part", "_", "blocks", "has", "below"]) (sc := defScope s_blocks_of) (by decide +kernel)) (fun _ _ _ _ _ => by (exact (pg_name (i := 6) sc_blocks_of.nd rfl (Or.inl rfl)))) (fun _ _ _ _ _ => by exact pts_nil) (fun _ _ _ _ _ => by exact (pe_cmpR op_eq (pe_ix (ix_tupK (K := K) rfl) (pv 6) pe_int (fun _ _ => rfl)) pe_str (nomark _)))) pa_nil)))
      (pss_one (ps_expr (pe_bm PySem.F.plainAttrs_list PySem.F.slot_list_append PySem.F.type_list_append mt_append (pv 1) (pa_cons (pe_tup (pa_cons (pv 4) (pa_cons (pe_callB call_len_seq (by rfl) g_len PySem.boot_len (pa_cons (pe_ix ix_tup (pv 2) pe_int (fun _ _ => rfl)) pa_nil)) (pa_cons (pv 5) pa_nil)))) pa_nil))))) pss_nil)))
      (pss_one (ps_ret (pv 1)))))), ?_⟩)
  · obtain ⟨v, d, rows, rfl, _⟩ := h
    rfl
  obtain ⟨v, d, rows, rfl, hd, hm, hR, hn, hb, q⟩ := h
  dsimp only [tSeq, tNext]
  refine ⟨_, rfl, v, d, rfl, hd, hm, fun H1 s1 => ?_⟩
  dsimp only [tSeq, tNext]
  refine ⟨(by show 0 ≤ sizeLine; decide), fun R nR => ?_⟩
  have s2 : Same H (upd H1 R (.lst [])) := s1.trans (same_upd nR)
  have hR0 : (upd H1 R (.lst [])) R = some (.lst []) := upd_same
  have nRH : H R = none := old_none s1 nR
  generalize upd H1 R (.lst []) = H2 at s2 hR0 ⊢
  refine ⟨_, rfl, H, v, d, rows, rfl, s2, hd, hR, hn, hb, fun p xs H3 s3 np e3 hp => ⟨p, rfl, ⟨_, SqL.of e3⟩, ?_⟩⟩
  have hxl := pair_len hp
  have s23 := s2.trans s3
  have hpR : R ≠ p := fun e => by rw [← e, hR0] at np; cases np
  refine for_list (K := K) (a := p) (xs := xs) (fun i σ H' => ∃ x2 x3 x4 x5 x6 ys, σ = [some v, some (.ref R), x2, x3, x4, x5, x6] ∧ Same H H' ∧ H' p = some (.lst xs) ∧ Paired (RowAt K H H') xs rows ∧ H' R = some (.lst ys) ∧ Paired (BlkAt K H') ys ((rows.take i).filterMap blkD)) ⟨_, _, _, _, _, [], rfl, s23, e3, hp, s3 _ _ hR0, by rw [List.take_zero]; exact .nil⟩ (fun i σ H' _ R' => by obtain ⟨_, _, _, _, _, _, _, _, R', _⟩ := R'; exact SqL.of R') ?_ ?_
  · intro i x σ H' hx R'
    obtain ⟨x2, x3, x4, x5, x6, ys, rfl, sH, hP, hRows, hRr, hB⟩ := R'
    obtain ⟨rw', hr1, hr2⟩ := pair_get hRows hx
    obtain ⟨d', b', n'⟩ := rw'
    obtain ⟨a, u, c, rfl, hT, hu, hc⟩ := hr2
    obtain ⟨ds, hps, hkids⟩ := rows_kids hR _ (List.mem_of_getElem? hr1)
    have hil : i < rows.length := (List.getElem?_eq_some_iff.mp hr1).1
    have hys : ys.length ≤ 100000 := by
      have h1 := pair_len hB
      have h2 := List.length_filterMap_le blkD (rows.take i)
      rw [List.length_take] at h2
      omega
    refine ⟨a, _, rfl, hT, rfl, _, _, rfl, _, _, rfl, _, _, rfl, rfl, ?_⟩
    obtain ⟨z, rr, rfl⟩ := parts_head hps
    obtain ⟨pa, us, rfl, hP1, hA⟩ := dp_tup hu
    cases hA with | cons g0 hA1 =>
    obtain rfl := dp_str g0
    have hP2 := SqT.mono sH hP1
    by_cases hz : decide (V.str z = V.str kBlock) = true
    · have hzk : z = kBlock := by have := of_decide_eq_true hz; injection this
      subst hzk
      obtain ⟨pn, vn, rfl⟩ := parts_block hps rfl
      cases hA1 with | cons g1 hA2 => cases hA2 with | cons g2 hA3 => cases hA3 with | cons g3 hA4 =>
      cases hA4
      obtain ⟨bp, rfl, hp1⟩ := dp_strs g1
      obtain ⟨bs, zs, rfl, hs1, hs2⟩ := dp_tup g3
      refine if_ev (H0 := H') (b := true) (EvT.to (evt_test fun H2' Q hs k => ⟨_, rfl, _, _, _, _, rfl, rfl, SqT.mono hs hP2, atI_nat rfl, rfl, k H2' hs⟩) hz) (Same.refl H') (fun _ H4 s4 => ?_) (fun h => by cases h)
      have s5 := sH.trans s4
      have hdl := dpAll_length hs2
      have hdn : ds.length ≤ 100000 := by
        have h1 := rows_kid_len hR _ (List.mem_of_getElem? hr1) hps rfl
        omega
      refine ⟨_, rfl, _, _, _, _, rfl, rfl, SqT.mono s4 hP2, atI_nat rfl, bs, rfl, ⟨_, SqT.mono s5 hs1⟩, fun D nD => ?_⟩
      refine lc_tup (K := K) (a := bs) (xs := zs) (fun i H' => H' D = some (.lst (((ds.map isRet).take i).map V.bl)) ∧ Same H4 H') ⟨upd_same, same_upd nD⟩ (fun i H' _ R => SqT.mono (s5.trans R.2) hs1) ?hs ?hd
      case hs =>
        intro i2 x H5 hx5 R5
        obtain ⟨d2, h1, h2⟩ := dpAll_get hs2 hx5
        obtain ⟨es, he⟩ := hkids d2 (List.mem_of_getElem? h1)
        obtain ⟨z2, r2, rfl⟩ := parts_head he
        obtain ⟨pa2, us2, rfl, hq, hA⟩ := dp_tup h2
        cases hA with | cons k0 kA =>
        obtain rfl := dp_str k0
        have hil2 : i2 < ds.length := (List.getElem?_eq_some_iff.mp h1).1
        refine ⟨rfl, tyes ?_⟩
        refine ⟨_, rfl, _, _, _, _, rfl, rfl, SqT.mono (s5.trans R5.2) hq, atI_nat rfl, rfl, _, R5.1, ?_, ?_, same_free R5.2 nD⟩
        · rw [List.length_map, List.length_take, List.length_map]
          exact Nat.lt_of_le_of_lt (show _ ≤ 100000 by omega) (by decide)
        · rw [upd_same, List.take_succ, List.getElem?_map, h1, List.map_append]
          rfl
      case hd =>
        intro H5 R5
        obtain ⟨R1, R2⟩ := R5
        rw [hdl, show ds.length = (ds.map isRet).length by rw [List.length_map], List.take_length] at R1
        refine ⟨D, ds.map isRet, rfl, SqL.of R1, ?_⟩
        have s6 := s5.trans R2
        have s45 := s4.trans R2
        have hRr5 := s45 _ _ hRr
        have hany : (ds.map isRet).any id = ds.any isRet := by rw [List.any_map]; rfl
        rw [hany]
        refine ⟨_, rfl, .inl ⟨rfl, _, SqL.of hRr5⟩, _, rfl, _, rfl, _, _, _, _, rfl, rfl, SqT.mono s45 hP2, atI_nat rfl, bp, _, rfl, .inr (SqT.mono s6 hp1), _, rfl, (by show 3 ≤ sizeLine; decide), fun T nT => ⟨R, ys, .ref T, rfl, rfl, same_upd nT _ _ hRr5, Nat.lt_of_le_of_lt hys (by decide), ?_⟩⟩
        have sT : Same H5 (upd H5 T (.tup [.int (n' : Int), .int ((pn.map V.str).length : Int), .bl (ds.any isRet)])) := same_upd nT
        have hT7 : BlkAt K (upd H5 T (.tup [.int (n' : Int), .int ((pn.map V.str).length : Int), .bl (ds.any isRet)])) (.ref T) (n', pn.length, ds.any isRet) := ⟨T, rfl, SqT.of (by rw [upd_same, List.length_map])⟩
        have key : ∀ H7 : Hp, Same H5 H7 → BlkAt K H7 (.ref T) (n', pn.length, ds.any isRet) → ∃ y2 y3 y4 y5 y6 ys', [some v, some (.ref R), some (.ref pa), some (.ref c), some (.int (n' : Int)), some (.bl (ds.any isRet)), x6] = [some v, some (.ref R), y2, y3, y4, y5, y6] ∧ Same H (upd H7 R (.lst (ys ++ [.ref T]))) ∧ (upd H7 R (.lst (ys ++ [.ref T]))) p = some (.lst xs) ∧ Paired (RowAt K H (upd H7 R (.lst (ys ++ [.ref T])))) xs rows ∧ (upd H7 R (.lst (ys ++ [.ref T]))) R = some (.lst ys') ∧ Paired (BlkAt K (upd H7 R (.lst (ys ++ [.ref T])))) ys' ((rows.take (i + 1)).filterMap blkD) := fun H7 s57 hB7 => by
          have hRr7 := s57 _ _ hRr5
          refine ⟨some (.ref pa), some (.ref c), some (.int (n' : Int)), some (.bl (ds.any isRet)), x6, ys ++ [.ref T], rfl, same_free (s6.trans s57) nRH, by rw [upd_ne (fun e => hpR e.symm)]; exact s57 _ _ (s45 _ _ hP), rows_upd hRr7 (rows_mono (s45.trans s57) hRows), upd_same, ?_⟩
          refine blk_upd hRr7 ?_
          rw [List.take_succ, hr1, List.filterMap_append]
          refine pair_app (blk_mono (s45.trans s57) hB) ?_
          show Paired _ _ (List.filterMap blkD [(.tuple [.str kBlock, .tuple (pn.map .str), .tuple (vn.map .str), .tuple ds], b', n')])
          have eb : blkD (.tuple [.str kBlock, .tuple (pn.map .str), .tuple (vn.map .str), .tuple ds], b', n') = some (n', pn.length, ds.any isRet) := by
            show (if decide (V.str kBlock = V.str kBlock) = true then some (n', (pn.map PyData.str).length, ds.any isRet) else none) = _
            rw [if_pos (by decide +kernel), List.length_map]
          rw [List.filterMap_cons, eb, List.filterMap_nil]
          exact .cons hB7 .nil
        obtain ⟨y2, y3, y4, y5, y6, ys', e, k1, k2, k3, k4, k5⟩ := key _ sT hT7
        exact ⟨y2, y3, y4, y5, y6, ys', e, k1, k2, k3, k4, k5⟩
    · have hz := Bool.eq_false_iff.mpr hz
      refine if_ev (H0 := H') (b := false) (EvT.to (evt_test fun H2' Q hs k => ⟨_, rfl, _, _, _, _, rfl, rfl, SqT.mono hs hP2, atI_nat rfl, rfl, k H2' hs⟩) hz) (Same.refl H') (fun h => by cases h) (fun _ H4 s4 => ?_)
      refine ⟨_, _, _, _, _, ys, rfl, sH.trans s4, s4 _ _ hP, rows_mono s4 hRows, s4 _ _ hRr, ?_⟩
      rw [List.take_succ, hr1, List.filterMap_append]
      show Paired _ _ (_ ++ List.filterMap blkD [(.tuple (.str z :: rr), b', n')])
      rw [List.filterMap_cons, blk_none hz, List.filterMap_nil, List.append_nil]
      exact blk_mono s4 hB
  · intro σ H' R'
    obtain ⟨x2, x3, x4, x5, x6, ys, rfl, sH, hP, hRows, hRr, hB⟩ := R'
    rw [hxl, List.take_length] at hB
    exact ⟨_, rfl, q R ys H' sH nRH hRr hB⟩
end
end My8

end
section
set_option Elab.async false
set_option linter.all false
set_option maxRecDepth 100000
set_option maxHeartbeats 2000000
namespace My8
open PySem PySem.Spec PyProof.Rows L2 My
open TrM TL
abbrev s_with_name : Stmt := top 48
abbrev s_all_with_name : Stmt := top 49
abbrev s_body_with_name : Stmt := top 50
abbrev s_replaced : Stmt := top 51
/-- a name, or the other one in its place -/
def swap (n o : Str) (b : Bool) (z : Str) : Str := if (b && decide (V.str z = V.str n)) = true then o else z
mutual
/-- a tree with the other name; so many trees within one another at most -/
inductive Ren (n o : Str) : Nat → Bool → PyData → PyData → Prop
  | leaf {m : Nat} {b : Bool} {z : Str} {r : List PyData} : z ∈ [kI, kS, kY, kA] → Ren n o (m + 1) b (.tuple (.str z :: r)) (.tuple (.str z :: r))
  | var {m : Nat} {b : Bool} {z : Str} : Ren n o (m + 1) b (.tuple [.str kV, .str z]) (.tuple [.str kV, .str (swap n o b z)])
  | set {m : Nat} {b : Bool} {z : Str} {d e : PyData} : Ren n o m b d e → Ren n o (m + 1) b (.tuple [.str kSet, .str z, d]) (.tuple [.str kSet, .str (swap n o b z), e])
  | ret {m : Nat} {b : Bool} {d e : PyData} : Ren n o m b d e → Ren n o (m + 1) b (.tuple [.str kRet, d]) (.tuple [.str kRet, e])
  | send {m : Nat} {b : Bool} {s : Str} {d e : PyData} {ds es : List PyData} : Ren n o m b d e → Rens n o m b ds es → ds.length ≤ 1000 → Ren n o (m + 1) b (.tuple [.str kSend, d, .str s, .tuple ds]) (.tuple [.str kSend, e, .str s, .tuple es])
  | super {m : Nat} {b : Bool} {s : Str} {ds es : List PyData} : Rens n o m b ds es → ds.length ≤ 1000 → Ren n o (m + 1) b (.tuple [.str kSuper, .str s, .tuple ds]) (.tuple [.str kSuper, .str s, .tuple es])
  | casc {m : Nat} {b : Bool} {d e : PyData} {ms ns : List (Str × List PyData)} : Ren n o m b d e → RenMs n o m b ms ns → ms.length ≤ 1000 → Ren n o (m + 1) b (.tuple [.str kCasc, d, .tuple (ms.map msgD)]) (.tuple [.str kCasc, e, .tuple (ns.map msgD)])
  | block {m : Nat} {b : Bool} {ps vs : List Str} {ds es : List PyData} : Rens n o m (b || (ps.contains n || vs.contains n)) ds es → ps.length ≤ 1000 → vs.length ≤ 1000 → ds.length ≤ 1000 → Ren n o (m + 1) b (.tuple [.str kBlock, .tuple (ps.map .str), .tuple (vs.map .str), .tuple ds]) (.tuple [.str kBlock, .tuple ((ps.map (swap n o true)).map .str), .tuple ((vs.map (swap n o true)).map .str), .tuple es])
  | meth {m : Nat} {b : Bool} {s : Str} {ps vs : List Str} {ds es : List PyData} : Rens n o m (b || (ps.contains n || vs.contains n)) ds es → ps.length ≤ 1000 → vs.length ≤ 1000 → ds.length ≤ 1000 → Ren n o (m + 1) b (.tuple [.str kMeth, .str s, .tuple (ps.map .str), .tuple (vs.map .str), .tuple ds]) (.tuple [.str kMeth, .str s, .tuple ((ps.map (swap n o true)).map .str), .tuple ((vs.map (swap n o true)).map .str), .tuple es])
inductive Rens (n o : Str) : Nat → Bool → List PyData → List PyData → Prop
  | nil {m : Nat} {b : Bool} : Rens n o m b [] []
  | cons {m : Nat} {b : Bool} {d e : PyData} {ds es : List PyData} : Ren n o m b d e → Rens n o m b ds es → Rens n o m b (d :: ds) (e :: es)
inductive RenMs (n o : Str) : Nat → Bool → List (Str × List PyData) → List (Str × List PyData) → Prop
  | nil {m : Nat} {b : Bool} : RenMs n o m b [] []
  | cons {m : Nat} {b : Bool} {s : Str} {ds es : List PyData} {ms ns : List (Str × List PyData)} : Rens n o m b ds es → ds.length ≤ 1000 → RenMs n o m b ms ns → RenMs n o m b ((s, ds) :: ms) ((s, es) :: ns)
end
/-- data without lists -/
inductive NoL : PyData → Prop
  | int (i : Int) : NoL (.int i)
  | str (z : Str) : NoL (.str z)
  | tup {ds : List PyData} : (∀ d ∈ ds, NoL d) → NoL (.tuple ds)
theorem dp_upd {K : PySem.W.Frag} {H : Hp} {p : Addr} {xs zs : List V} (hp : H p = some (.lst xs)) {d : PyData} (hd : NoL d) : ∀ {v : V}, Dp K H v d → Dp K (upd H p (.lst zs)) v d := by
  induction hd with
  | int i => intro v h; cases h; exact .int i
  | str z => intro v h; cases h; exact .str z
  | @tup ds hnl ih =>
    intro v h
    obtain ⟨a, ys, rfl, h1, h2⟩ := dp_tup h
    refine Dp.tup (sqt_upd hp h1) ?_
    clear h1 h hnl
    induction ds generalizing ys with
    | nil => cases h2; exact .nil
    | cons d ds ih2 =>
      cases h2 with
      | cons g1 g2 => exact .cons (ih d List.mem_cons_self g1) (ih2 (fun e he => ih e (List.mem_cons_of_mem _ he)) _ g2)
/-- a comprehension over a tuple whose items come one by one, each told by Rl -/
theorem lc_rel {K : PySem.W.Frag} {a : Addr} {xs : List V} {g : TG} {tt : TT} {te : TE} {vs : List Nat} {σ : L2.St} {H1 : Hp} {D : Addr} {Qd : Hp → Prop} {β : Type} (bs : List β) (Rl : Hp → V → β → Prop) (hm : ∀ H H' y b, Same H H' → Rl H y b → Rl H' y b) (hu : ∀ H p zs ws y b, H p = some (.lst zs) → Rl H y b → Rl (upd H p (.lst ws)) y b)
    (nD : H1 D = none) (hT : SqT K H1 a xs) (hl : xs.length = bs.length) (hn : xs.length ≤ 100000)
    (hs : ∀ (i : Nat) (x : V) (b : β) (H : Hp), xs[i]? = some x → bs[i]? = some b → Same H1 H → ∀ (Kc : VK) (R : Hp → Prop), (∀ y H4, Same H H4 → Rl H4 y b → Kc y H4) → g x (wipe σ vs) H fun σ2 H2 => wipe σ2 vs = wipe σ vs ∧ tt σ2 H2 fun b H3 => if b = true then te σ2 H3 Kc else R H3)
    (hd : ∀ (ys : List V) H, Same H1 H → H D = some (.lst ys) → Paired (Rl H) ys bs → Qd H) :
    ∃ W : Nat → Nat → Hp → Prop, (∃ m, W 0 m (upd H1 D (.lst []))) ∧ ∀ i m H, W i m H →
      ((Itt K a).stop i H ∧ Qd H) ∨ ((Itt K a).go i H ∧ ∃ Nx : Hp → Prop, (∀ H', Nx H' → ∃ m', m' < m ∧ W (i + 1) m' H') ∧ ∀ x H', (Itt K a).yld i H x H' → g x (wipe σ vs) H' fun σ2 H2 => wipe σ2 vs = wipe σ vs ∧ tt σ2 H2 fun b H3 =>
        if b = true then te σ2 H3 fun y H4 => ∃ acc, H4 D = some (.lst acc) ∧ acc.length < sizeLine ∧ Nx (upd H4 D (.lst (acc ++ [y]))) else Nx H3) := by
  refine lc_tup (K := K) (a := a) (xs := xs) (fun i H' => Same H1 H' ∧ ∃ ys, H' D = some (.lst ys) ∧ Paired (Rl H') ys (bs.take i)) ⟨same_upd nD, [], upd_same, by rw [List.take_zero]; exact .nil⟩ (fun i H' _ R => SqT.mono R.1 hT) (fun i x H' hx R => ?_) (fun H' R => ?_)
  · obtain ⟨R1, ys, R2, R3⟩ := R
    have hlt : i < xs.length := (List.getElem?_eq_some_iff.mp hx).1
    have hb : bs[i]? = some (bs[i]'(by omega)) := List.getElem?_eq_getElem (by omega)
    refine hs i x _ H' hx hb R1 _ _ fun y H4 s4 hy => ⟨ys, s4 _ _ R2, ?_, same_free (R1.trans s4) nD, ys ++ [y], upd_same, ?_⟩
    · have := pair_len R3
      rw [List.length_take] at this
      exact Nat.lt_of_le_of_lt (show _ ≤ 100000 by omega) (by decide)
    · rw [List.take_succ, hb]
      exact pair_imp (fun y b h => hu _ _ _ _ _ _ (s4 _ _ R2) h) ((pair_imp (fun y b h => hm _ _ _ _ s4 h) R3).snoc hy)
  · obtain ⟨R1, ys, R2, R3⟩ := R
    rw [hl, List.take_length] at R3
    exact hd ys H' R1 R2 R3
/-- the names with the other one -/
def spReplaced (K : PySem.W.Frag) : Sp := fun vs H Q _ => ∃ (p : Addr) (n o : Str) (ps : List Str), vs = [.ref p, .str n, .str o] ∧ SqT K H p (ps.map V.str) ∧ ps.length ≤ 1000 ∧ ∀ (r : Addr) (H' : Hp), Same H H' → SqT K H' r ((ps.map (swap n o true)).map V.str) → Q (.ref r) H'
section
variable {P : Program} {w : World} {K : PySem.W.Frag} {mg : Str → Option Value} {base : Heap}
theorem sc_replaced : FnScope ["names", "name", "other", "found"] ["names", "name", "other"] (defScope s_replaced) := ⟨rfl, rfl, rfl, by decide +kernel, rfl, by decide +kernel, by decide +kernel⟩
theorem ok_replaced {f : Addr} {fd : FuncData} (F : FnP K "replaced" s_replaced f fd) (g_tuple : mg "tuple" = none) : FnOk P w K mg base CX0 1 f fd ["names", "name", "other"] (spReplaced K) := by
  refine F.ok sc_replaced (fun vs H Q E h => ?_) (fun cdv A outer s H vs Q E hr h => ⟨_, PSs.nox
    (pss_one (ps_ret (pe_callTy call_tuple_of (by rfl) g_tuple (by decide +kernel) (pa_cons (pe_lc (own := [("found", 3)]) rfl sc_replaced.nd (pi_tup (pv 0)) (blkOk_by (own := [("found", 3)]) (N := ["names", "name", "other", "found"]) (sc := defScope s_replaced) (by decide +kernel)) (fun _ _ _ _ _ => by (exact (pg_name (i := 3) sc_replaced.nd rfl (Or.inl rfl)))) (fun _ _ _ _ _ => by exact pts_nil) (fun _ _ _ _ _ => by exact (pe_ifExp (pt_cmpR op_eq (pv 3) (pv 1) (nomark _)) (pv 2) (pv 3)))) pa_nil)))), ?_⟩)
  · obtain ⟨p, n, o, ps, rfl, _⟩ := h
    rfl
  obtain ⟨p, n, o, ps, rfl, hT, hn, q⟩ := h
  refine ⟨_, rfl, p, rfl, ⟨_, hT⟩, fun D nD => ?_⟩
  refine lc_rel (ps.map (swap n o true)) (fun _ y b => y = V.str b) (fun _ _ _ _ _ h => h) (fun _ _ _ _ _ _ _ h => h) nD hT (by rw [List.length_map, List.length_map]) (by rw [List.length_map]; omega) (fun i x b H2 hx hb s2 Kc R hk => ?_) (fun ys H2 s2 e2 hp => ?_)
  · rw [List.getElem?_map] at hx hb
    cases hz : ps[i]? with
    | none => rw [hz] at hx; cases hx
    | some z =>
      rw [hz] at hx hb
      cases hx
      cases hb
      refine ⟨rfl, tyes ?_⟩
      refine ⟨_, rfl, _, rfl, rfl, _, rfl, ?_⟩
      have key := hk (V.str (swap n o true z)) H2 (Same.refl H2) rfl
      unfold swap at key
      rw [Bool.true_and] at key
      cases hb : decide (V.str z = V.str n) with
      | true => rw [hb] at key; exact iteT ⟨_, rfl, key⟩
      | false => rw [hb] at key; exact iteF ⟨_, rfl, key⟩
  · have ey : ys = (ps.map (swap n o true)).map V.str := by
      clear e2 hT
      generalize ps.map (swap n o true) = qs at hp
      induction hp with
      | nil => rfl
      | cons h _ ih => rw [h, ih]; rfl
    subst ey
    exact ⟨D, _, rfl, .inl ⟨SqL.of e2, fun r nr => q r _ (s2.trans (same_upd nr)) (SqT.of upd_same)⟩⟩
end
end My8

end
section
set_option Elab.async false
set_option linter.all false
set_option maxRecDepth 100000
set_option maxHeartbeats 2000000
namespace My8
open PySem PySem.Spec PyProof.Rows L2 My
open TrM TL
def spWith (K : PySem.W.Frag) (m : Nat) : Sp := fun vs H Q _ => ∃ (v : V) (n o : Str) (b : Bool) (d e : PyData), vs = [v, .str n, .str o, .bl b] ∧ Dp K H v d ∧ Ren n o m b d e ∧ NoL e ∧ ∀ y H', Same H H' → Dp K H' y e → Q y H'
def spAllWith (K : PySem.W.Frag) (m : Nat) : Sp := fun vs H Q _ => ∃ (p : Addr) (n o : Str) (b : Bool) (xs : List V) (ds es : List PyData), vs = [.ref p, .str n, .str o, .bl b] ∧ SqT K H p xs ∧ DpAll K H xs ds ∧ Rens n o m b ds es ∧ (∀ e ∈ es, NoL e) ∧ ds.length ≤ 1000 ∧ ∀ r ys H', Same H H' → SqT K H' r ys → DpAll K H' ys es → Q (.ref r) H'
theorem rens_at {n o : Str} {m : Nat} {b : Bool} : ∀ {ds es : List PyData} {i : Nat} {d : PyData}, Rens n o m b ds es → ds[i]? = some d → ∃ e, es[i]? = some e ∧ Ren n o m b d e
  | [], _, i, d, h, hx => by cases hx
  | y :: xs, _, 0, x, .cons h _, hx => by cases hx; exact ⟨_, rfl, h⟩
  | y :: xs, _, i + 1, x, .cons _ h, hx => by
    obtain ⟨d, h1, h2⟩ := rens_at h (by simpa using hx)
    exact ⟨d, by simpa using h1, h2⟩
theorem rens_len {n o : Str} {m : Nat} {b : Bool} : ∀ {ds es : List PyData}, Rens n o m b ds es → ds.length = es.length
  | _, _, .nil => rfl
  | _, _, .cons _ h => by rw [List.length_cons, List.length_cons, rens_len h]
theorem dpAll_of {K : PySem.W.Frag} {H : Hp} : ∀ {ys : List V} {es : List PyData}, Paired (fun y e => Dp K H y e ∧ NoL e) ys es → DpAll K H ys es
  | _, _, .nil => .nil
  | _, _, .cons h t => .cons h.1 (dpAll_of t)
section
variable {P : Program} {w : World} {K : PySem.W.Frag} {mg : Str → Option Value} {base : Heap}
theorem sc_all_with_name : FnScope ["trees", "name", "other", "bound", "tree"] ["trees", "name", "other", "bound"] (defScope s_all_with_name) := ⟨rfl, rfl, rfl, by decide +kernel, rfl, by decide +kernel, by decide +kernel⟩
theorem ok_all_with {f fW : Addr} {fd fdW : FuncData} {m k : Nat} (F : FnP K "all_with_name" s_all_with_name f fd)
    (G_with_name : FnOk P w K mg base CX0 (k + 1) fW fdW ["tree", "name", "other", "bound"] (spWith K m)) (g_with_name : mg "with_name" = some (.ref fW)) (k_with_name : PySem.W.keepIn K (.ref fW) = true) (b_with_name : Binds K fdW ["tree", "name", "other", "bound"] []) (g_tuple : mg "tuple" = none) :
    FnOk P w K mg base CX0 (k + 2) f fd ["trees", "name", "other", "bound"] (spAllWith K m) := by
  refine F.ok sc_all_with_name (fun vs H Q E h => ?_) (fun cdv A outer s H vs Q E hr h => ⟨_, PSs.nox
    (pss_one (ps_ret (pe_callTy call_tuple_of (by rfl) g_tuple (by decide +kernel) (pa_cons (pe_lc (own := [("tree", 4)]) rfl sc_all_with_name.nd (pi_tup (pv 0)) (blkOk_by (own := [("tree", 4)]) (N := ["trees", "name", "other", "bound", "tree"]) (sc := defScope s_all_with_name) (by decide +kernel)) (fun _ _ _ _ _ => by (exact (pg_name (i := 4) sc_all_with_name.nd rfl (Or.inl rfl)))) (fun _ _ _ _ _ => by exact pts_nil) (fun _ _ _ _ _ => by exact (pe_call G_with_name (hr.mono (Nat.le_refl _)) rfl g_with_name k_with_name b_with_name .nil pass0 (pa_cons (pv 4) (pa_cons (pv 1) (pa_cons (pv 2) (pa_cons (pv 3) pa_nil))))))) pa_nil)))), ?_⟩)
  · obtain ⟨p, n, o, b, xs, ds, es, rfl, _⟩ := h
    rfl
  obtain ⟨p, n, o, b, xs, ds, es, rfl, hT, hA, hR, hN, hl, q⟩ := h
  have hxl := dpAll_length hA
  have hel := rens_len hR
  refine ⟨_, rfl, p, rfl, ⟨_, hT⟩, fun D nD => ?_⟩
  refine lc_rel es (fun H y e => Dp K H y e ∧ NoL e) (fun _ _ _ _ s h => ⟨dp_mono s _ _ h.1, h.2⟩) (fun _ _ _ _ _ _ hp h => ⟨dp_upd hp h.2 h.1, h.2⟩) nD hT (by omega) (by omega) (fun i x e H2 hx he s2 Kc R hk => ?_) (fun ys H2 s2 e2 hp => ?_)
  · obtain ⟨d, h1, h2⟩ := dpAll_get hA hx
    obtain ⟨e', h3, h4⟩ := rens_at hR h1
    rw [he] at h3
    cases h3
    have hNe := hN e (List.mem_of_getElem? he)
    refine ⟨rfl, tyes ?_⟩
    exact ⟨_, rfl, _, rfl, _, rfl, _, rfl, x, n, o, b, d, e, rfl, dp_mono s2 _ _ h2, h4, hNe, fun y H4 s4 hy => hk y H4 s4 ⟨hy, hNe⟩⟩
  · exact ⟨D, _, rfl, .inl ⟨SqL.of e2, fun r nr => q r ys _ (s2.trans (same_upd nr)) (SqT.of upd_same) (dp_monoAll (same_upd nr) _ _ (dpAll_of hp))⟩⟩
end
end My8

end
section
set_option Elab.async false
set_option linter.all false
set_option maxRecDepth 100000
set_option maxHeartbeats 2000000
namespace My8
open PySem PySem.Spec PyProof.Rows L2 My
open TrM TL
abbrev s_free_names : Stmt := top 22
abbrev s_declared_names : Stmt := top 23
abbrev s_named_words : Stmt := top 24
abbrev s_sent_selectors : Stmt := top 25
/-! ### what a row names -/
def isVS (z : Str) : Bool := inV (.str z) [.str kV, .str kSet]
def isMB (z : Str) : Bool := inV (.str z) [.str kMeth, .str kBlock]
def isSS (z : Str) : Bool := inV (.str z) [.str kSend, .str kSuper]
def nameR : RowD → List Str
  | (.tuple (.str z :: .str y :: _), _, _) => if isVS z = true then [y] else []
  | _ => []
def freeR (r : RowD) : List Str := (nameR r).filter fun y => !five.contains (codesOf y) && !r.2.1.contains y
def strsD : List PyData → List Str
  | .str z :: r => z :: strsD r
  | _ => []
def declR : RowD → List Str
  | (.tuple [.str z, .tuple ps, .tuple vs, _], _, _) => if z = kBlock then strsD ps ++ strsD vs else []
  | (.tuple [.str z, _, .tuple ps, .tuple vs, _], _, _) => if z = kMeth then strsD ps ++ strsD vs else []
  | _ => []
def selM : PyData → List Str
  | .tuple (.str s :: _) => [s]
  | _ => []
def selA : List PyData → List Str
  | [_, .str s, _] => [s]
  | _ => []
def selB : List PyData → List Str
  | [.str s, _] => [s]
  | _ => []
def selC : List PyData → List Str
  | [_, .tuple ms] => ms.flatMap selM
  | _ => []
def selR : RowD → List Str
  | (.tuple (.str z :: r), _, _) => if z = kSend then selA r else if z = kSuper then selB r else if z = kCasc then selC r else []
  | _ => []
theorem strsD_map (ps : List Str) : strsD (ps.map PyData.str) = ps := by
  induction ps with
  | nil => rfl
  | cons p ps ih => rw [List.map_cons, strsD, ih]
theorem selM_map (ms : List (Str × List PyData)) : (ms.map msgD).flatMap selM = ms.map (·.1) := by
  induction ms with
  | nil => rfl
  | cons p ps ih => rw [List.map_cons, List.flatMap_cons, ih]; rfl
/-- names as the keys of a dict -/
def ksT (ks : List Str) : List (Key × V) := kvsOf (ks.map fun z => (z, true))
def addK (ks : List Str) (z : Str) : List Str := if z ∈ ks then ks else ks ++ [z]
theorem mem_addK {ks : List Str} {y z : Str} : z ∈ addK ks y ↔ z ∈ ks ∨ z = y := by
  unfold addK
  split
  · rename_i h
    exact ⟨.inl, fun c => c.elim id fun e => e ▸ h⟩
  · rw [List.mem_append, List.mem_singleton]
theorem nd_addK {ks : List Str} {y : Str} (h : ks.Nodup) : (addK ks y).Nodup := by
  unfold addK
  split
  · exact h
  · rename_i hn
    rw [List.nodup_append]
    exact ⟨h, by simp, fun a ha b hb e => hn (by rw [List.mem_singleton.mp hb] at e; exact e ▸ ha)⟩
theorem len_addK {ks : List Str} {y : Str} : (addK ks y).length ≤ ks.length + 1 := by
  unfold addK
  split
  · omega
  · rw [List.length_append, List.length_singleton]; omega
theorem lookup_T (ks : List Str) (y : Str) : (ks.map fun z => (z, true)).lookup y = if y ∈ ks then some true else none := by
  induction ks with
  | nil => simp
  | cons k ks ih =>
    rw [List.map_cons, List.lookup_cons]
    by_cases h : y = k
    · subst h; simp
    · have : (y == k) = false := by simpa using h
      rw [this]
      simp [ih, h]
theorem putK_T (ks : List Str) (y : Str) : putK (ksT ks) (.inr y) (.bl true) = ksT (addK ks y) := by
  have hv : valV (ksT ks) (.inr y) = if y ∈ ks then some (.bl true) else none := by
    unfold ksT
    rw [val_kvs, lookup_T]
    split <;> rfl
  by_cases h : y ∈ ks
  · rw [show addK ks y = ks from if_pos h]
    rw [if_pos h] at hv
    unfold putK
    have hm : (ksT ks).any (fun kv => decide (kv.1 = (Sum.inr y : Key))) = true := by
      rw [List.any_eq_true]
      refine ⟨(.inr y, .bl true), ?_, by simp⟩
      unfold ksT kvsOf
      rw [List.map_map]
      exact List.mem_map_of_mem (f := (fun p : Str × Bool => ((Sum.inr p.1 : Key), V.bl p.2)) ∘ fun z => (z, true)) h
    have e : (ksT ks).map (fun kv => if kv.1 = (Sum.inr y : Key) then (kv.1, V.bl true) else kv) = ksT ks := by
      conv => rhs; rw [← List.map_id (ksT ks)]
      refine List.map_congr_left fun kv hkv => ?_
      unfold ksT kvsOf at hkv
      rw [List.map_map] at hkv
      obtain ⟨c, _, rfl⟩ := List.mem_map.mp hkv
      show (if (Sum.inr c : Key) = Sum.inr y then ((Sum.inr c : Key), V.bl true) else (Sum.inr c, V.bl true)) = (Sum.inr c, V.bl true)
      split <;> rfl
    first | (rw [if_pos hm]; exact e) | (simp only [hm]; exact e) | (split; exact e; exact absurd hm (by assumption))
  · rw [if_neg h] at hv
    rw [putK_new _ hv, show addK ks y = ks ++ [y] from if_neg h]
    unfold ksT kvsOf
    simp
theorem ksT_keys (ks : List Str) : (ksT ks).map (·.1) = ks.map Sum.inr := by
  unfold ksT kvsOf
  rw [List.map_map, List.map_map]
  rfl
theorem ksT_len (ks : List Str) : (ksT ks).length = ks.length := by unfold ksT kvsOf; rw [List.length_map, List.length_map]
/-- what a function of names answers: the names in their order -/
def Sorted (ys : List Str) (l : List Str) : Prop := sortedS ys = true ∧ ys.Nodup ∧ (∀ z, z ∈ ys ↔ z ∈ l) ∧ ys.length ≤ l.length
theorem parts_vs {d : PyData} {ds : List PyData} (h : Parts d ds) : ∀ {z : Str} {r : List PyData}, d = .tuple (.str z :: r) → isVS z = true → ∃ y r', r = .str y :: r' := by
  intro z r e hz
  cases h with
  | var => injection e with e; injection e with _ e; exact ⟨_, _, e.symm⟩
  | set => injection e with e; injection e with _ e; exact ⟨_, _, e.symm⟩
  | _ =>
    injection e with e
    injection e with e _
    injection e with e
    subst e
    exact absurd hz (by decide +kernel)
theorem parts_mb {d : PyData} {ds : List PyData} (h : Parts d ds) : ∀ {z : Str} {r : List PyData}, d = .tuple (.str z :: r) → isMB z = true → ∃ (l : List PyData) (ps vs : List Str), r = l ++ [.tuple (ps.map .str), .tuple (vs.map .str), .tuple ds] ∧ ∀ b k, declR (d, b, k) = ps ++ vs := by
  intro z r e hz
  cases h with
  | @block ps vs =>
    injection e with e; injection e with _ e
    refine ⟨[], ps, vs, e.symm, fun b k => ?_⟩
    show (if kBlock = kBlock then strsD (ps.map PyData.str) ++ strsD (vs.map PyData.str) else []) = _
    rw [if_pos rfl, strsD_map, strsD_map]
  | @meth s ps vs =>
    injection e with e; injection e with _ e
    refine ⟨[.str s], ps, vs, e.symm, fun b k => ?_⟩
    show (if kMeth = kMeth then strsD (ps.map PyData.str) ++ strsD (vs.map PyData.str) else []) = _
    rw [if_pos rfl, strsD_map, strsD_map]
  | _ =>
    injection e with e
    injection e with e _
    injection e with e
    subst e
    exact absurd hz (by decide +kernel)
theorem decl_none {z : Str} {r : List PyData} (hz : isMB z = false) (b : List Str) (k : Nat) : declR (.tuple (.str z :: r), b, k) = [] := by
  have n1 : z ≠ kBlock := fun e => by subst e; exact absurd hz (by decide +kernel)
  have n2 : z ≠ kMeth := fun e => by subst e; exact absurd hz (by decide +kernel)
  unfold declR
  split
  · rename_i e
    injection e with e
    injection e with e
    injection e with e
    injection e with e
    subst e
    exact if_neg n1
  · rename_i e
    injection e with e
    injection e with e
    injection e with e
    injection e with e
    subst e
    exact if_neg n2
  · rfl
end My8

end
section
set_option Elab.async false
set_option linter.all false
set_option maxRecDepth 100000
set_option maxHeartbeats 2000000
namespace My8
open PySem PySem.Spec PyProof.Rows L2 My
open TrM TL
/-- the names that are told of the rows, in their order -/
def spNames (K : PySem.W.Frag) (f : RowD → List Str) : Sp := fun vs H Q _ => ∃ (HB : Hp) (v : V) (d : PyData) (rows : List RowD), vs = [v] ∧ Same HB H ∧ Dp K HB v d ∧ Rows [(d, [], 0)] rows ∧ rows.length ≤ 100000 ∧ (∀ r ∈ rows, r.2.1.length ≤ 100000) ∧ (∀ r ∈ rows, (f r).length ≤ 2000) ∧ (rows.flatMap f).length ≤ 1000000 ∧
  ∀ (p : Addr) (ys : List Str) (H' : Hp), Same H H' → H p = none → H' p = some (.lst (ys.map V.str)) → Sorted ys (rows.flatMap f) → Q (.ref p) H'
theorem flat_len {rows : List RowD} {f : RowD → List Str} {n : Nat} (h : (rows.flatMap f).length ≤ n) {i : Nat} : ((rows.take i).flatMap f).length ≤ n := by
  have e : rows.flatMap f = (rows.take i).flatMap f ++ (rows.drop i).flatMap f := by rw [← List.flatMap_append, List.take_append_drop]
  rw [e, List.length_append] at h
  omega
/-- the keys that are there: those of l -/
structure KeysOf (ks l : List Str) : Prop where
  nd : ks.Nodup
  mem : ∀ z, z ∈ ks ↔ z ∈ l
  le : ks.length ≤ l.length
theorem KeysOf.add {ks l : List Str} (h : KeysOf ks l) (y : Str) : KeysOf (addK ks y) (l ++ [y]) :=
  ⟨nd_addK h.nd, fun z => by rw [mem_addK, h.mem, List.mem_append, List.mem_singleton], by have := h.le; have := len_addK (ks := ks) (y := y); rw [List.length_append, List.length_singleton]; omega⟩
theorem inV_strs (y : Str) (ps : List Str) : inV (.str y) (ps.map V.str) = ps.contains y := by
  unfold inV
  induction ps with
  | nil => rfl
  | cons p ps ih =>
    rw [List.map_cons, List.any_cons, ih, List.contains_cons, eqv_str]
    congr 1
    by_cases h : y = p
    · subst h; simp
    · rw [decide_eq_false (fun e => h (by injection e))]
      simpa using h
theorem inV_five (y : Str) : inV (.str y) (five.map fun x => V.str (My.strOf x)) = five.contains (codesOf y) := by
  have e : (five.map fun x => V.str (My.strOf x)) = (five.map My.strOf).map V.str := by rw [List.map_map]; rfl
  rw [e, inV_strs]
  generalize five = l
  induction l with
  | nil => rfl
  | cons p ps ih =>
    rw [List.map_cons, List.contains_cons, ih, List.contains_cons]
    congr 1
    by_cases h : codesOf y = p
    · rw [← h, My.strOf_codes]; simp
    · have : y ≠ My.strOf p := fun e => h (by rw [e]; rfl)
      have h1 : (y == My.strOf p) = false := by simpa using this
      have h2 : (codesOf y == p) = false := by simpa using h
      rw [h1, h2]
theorem flat_strsL (ps : List Str) : (ps.map V.str).all flatV = true := by
  rw [List.all_eq_true]
  intro x hx
  obtain ⟨z, _, rfl⟩ := List.mem_map.mp hx
  rfl
theorem sorted_end {K : PySem.W.Frag} {H H' : Hp} {D : Addr} {ks l : List Str} {Q : VK} (hD : H' D = some (.dK (ksT ks))) (hk : KeysOf ks l) (hl : l.length ≤ 1000000) (s : Same H H')
    (q : ∀ (p : Addr) (ys : List Str) (H2 : Hp), Same H H2 → H p = none → H2 p = some (.lst (ys.map V.str)) → Sorted ys l → Q (.ref p) H2) : rSortedKeys [.ref D] H' Q :=
  ⟨D, _, ks, rfl, .inl hD, ksT_keys ks, by have := hk.le; omega, fun ys p hp hs np => q p ys _ (s.trans (same_upd np)) (old_none s np) upd_same ⟨hs, hp.nodup_iff.mpr hk.nd, fun z => by rw [hp.mem_iff, hk.mem], by rw [hp.length_eq]; exact hk.le⟩⟩
theorem rows_putD {K : PySem.W.Frag} {HB H : Hp} {p : Addr} {es es' : List (Key × V)} {vs : List V} {rows : List RowD} (hp : H p = some (.dK es)) (h : Paired (RowAt K HB H) vs rows) : Paired (RowAt K HB (upd H p (.dK es'))) vs rows := by
  have su : ∀ (a : Addr) (ys : List V), SqT K H a ys → SqT K (upd H p (.dK es')) a ys := fun a ys h => by
    rcases h with h | h
    · refine .inl ?_
      have hne : a ≠ p := fun e => by
        subst e
        rcases h with h | ⟨o, h⟩ <;> rw [hp] at h <;> injection h with h <;> cases h
      rcases h with h | ⟨o, h⟩
      · exact .inl (by rw [upd_ne hne]; exact h)
      · exact .inr ⟨o, by rw [upd_ne hne]; exact h⟩
    · exact .inr h
  exact pair_imp (fun _ _ ⟨a, u, c, h1, h2, h3, h4⟩ => ⟨a, u, c, h1, su _ _ h2, h3, su _ _ h4⟩) h
section
variable {P : Program} {w : World} {K : PySem.W.Frag} {mg : Str → Option Value} {base : Heap}
theorem sc_free_names : FnScope ["tree", "found", "part", "bound", "_"] ["tree"] (defScope s_free_names) := ⟨rfl, rfl, rfl, by decide +kernel, rfl, by decide +kernel, by decide +kernel⟩
theorem ok_free {f fA : Addr} {fd fdA : FuncData} (F : FnP K "free_names" s_free_names f fd)
    (G_all_parts : FnOk P w K mg base CX0 2 fA fdA ["tree"] (spAll K)) (g_all_parts : mg "all_parts" = some (.ref fA)) (k_all_parts : PySem.W.keepIn K (.ref fA) = true) (b_all_parts : Binds K fdA ["tree"] []) (g_sorted : mg "sorted" = none) (g_F : TupAt K mg "FIVE_WORDS" five) :
    FnOk P w K mg base CX0 3 f fd ["tree"] (spNames K freeR) := by
  obtain ⟨a5, g_FIVE_WORDS, hF⟩ := g_F
  have r_FIVE_WORDS : RelV (.ref a5) (.ref a5) := rfl
  refine F.ok sc_free_names (fun vs H Q E h => ?_) (fun cdv A outer s H vs Q E hr h => ⟨_, PSs.nox
    (pss_cons (ps_set (i := 1) sc_free_names.nd rfl (Or.inl rfl) pe_dnewK)
      (pss_cons (ps_for PassesOwn.never rfl (pi_list (pe_call G_all_parts (hr.mono (Nat.le_refl _)) rfl g_all_parts k_all_parts b_all_parts .nil pass0 (pa_cons (pv 0) pa_nil))) (pg_tup rfl (pgs_cons (pg_name (i := 2) sc_free_names.nd rfl (Or.inl rfl)) (pgs_cons (pg_name (i := 3) sc_free_names.nd rfl (Or.inl rfl)) (pgs_cons (pg_name (i := 4) sc_free_names.nd rfl (Or.inl rfl)) pgs_nil)))) (pss_one (ps_if (PW.pt (pw_and (pt_cmpR op_in_seq (pe_ix ix_tup (pv 2) pe_int (fun _ _ => rfl)) (pe_tup (pa_cons pe_str (pa_cons pe_str pa_nil))) (by rfl)) (pw_and (pt_cmpR op_notIn_seq (pe_ix ix_tup (pv 2) pe_int (fun _ _ => rfl)) (pe_glob rfl g_FIVE_WORDS r_FIVE_WORDS) (by rfl)) (pw_and1 (pt_cmpR op_notIn_seq (pe_ix ix_tup (pv 2) pe_int (fun _ _ => rfl)) (pv 3) (by rfl)))))) (pss_one (ps_dput (Nat.lt_of_le_of_lt (Nat.add_le_add_left (by decide : 1 ≤ 64) _) hr.units) (pv 1) (pe_ix ix_tup (pv 2) pe_int (fun _ _ => rfl)) pe_bl rfl)) pss_nil)))
      (pss_one (ps_ret (pe_callB (cr_sortedKeys rfl) (by rfl) g_sorted (by decide +kernel) (pa_cons (pv 1) pa_nil)))))), ?_⟩)
  · obtain ⟨HB, v, d, rows, rfl, _⟩ := h
    rfl
  obtain ⟨HB, v, d, rows, rfl, hsB, hd, hR, hn, hb, hf, hfl, q⟩ := h
  dsimp only [tSeq, tNext]
  intro D nD
  have s1 : Same H (upd H D (.dK [])) := same_upd nD
  have hD0 : (upd H D (.dK [])) D = some (.dK (ksT [])) := upd_same
  generalize upd H D (.dK []) = H1 at s1 hD0 ⊢
  refine ⟨_, rfl, HB, v, d, rows, rfl, hsB.trans s1, hd, hR, hn, hb, fun p xs H2 s2 np e2 hp => ⟨p, rfl, ⟨_, SqL.of e2⟩, ?_⟩⟩
  have hxl := pair_len hp
  have s12 := s1.trans s2
  have npH : H p = none := old_none s1 np
  refine for_list (K := K) (a := p) (xs := xs) (fun i σ H' => ∃ x2 x3 x4 ks, σ = [some v, some (.ref D), x2, x3, x4] ∧ Same H H' ∧ H' p = some (.lst xs) ∧ Paired (RowAt K HB H') xs rows ∧ H' D = some (.dK (ksT ks)) ∧ KeysOf ks ((rows.take i).flatMap freeR)) ⟨_, _, _, [], rfl, s12, e2, hp, s2 _ _ hD0, ⟨List.nodup_nil, fun z => by simp, by simp⟩⟩ (fun i σ H' _ R' => by obtain ⟨_, _, _, _, _, _, R', _⟩ := R'; exact SqL.of R') ?_ ?_
  · intro i x σ H' hx R'
    obtain ⟨x2, x3, x4, ks, rfl, sH, hP, hRows, hDk, hks⟩ := R'
    obtain ⟨⟨d', b', n'⟩, hr1, hr2⟩ := pair_get hRows hx
    obtain ⟨a, u, c, rfl, hT, hu, hc⟩ := hr2
    obtain ⟨ds, hps⟩ := rows_parts hR _ (List.mem_of_getElem? hr1)
    have hpD : D ≠ p := fun e => by rw [← e, hDk] at hP; injection hP with hP; cases hP
    have sBH := hsB.trans sH
    refine ⟨a, _, rfl, hT, rfl, _, _, rfl, _, _, rfl, _, _, rfl, rfl, ?_⟩
    obtain ⟨z, rr, rfl⟩ := parts_head hps
    obtain ⟨pa, us, rfl, hP1, hA⟩ := dp_tup hu
    cases hA with | cons g0 hA1 =>
    obtain rfl := dp_str g0
    have hP2 := SqT.mono sBH hP1
    have htk : rows.take (i + 1) = rows.take i ++ [(PyData.tuple (.str z :: rr), b', n')] := by rw [List.take_succ, hr1]; rfl
    cases hz : isVS z with
    | true =>
      obtain ⟨y, r', rfl⟩ := parts_vs hps rfl hz
      cases hA1 with | cons g1 hA2 =>
      obtain rfl := dp_str g1
      have hfr : freeR (.tuple (.str z :: .str y :: r'), b', n') = if (!five.contains (codesOf y) && !b'.contains y) = true then [y] else [] := by
        show List.filter _ (if isVS z = true then [y] else []) = _
        rw [if_pos hz, List.filter_cons]
        rfl
      refine if_ev (H0 := H') (b := true && (!five.contains (codesOf y) && !b'.contains y)) (evt_and (EvT.to (evt_test fun H2' Q hs k => ⟨_, rfl, _, _, _, _, rfl, rfl, SqT.mono hs hP2, atI_nat rfl, (by show 2 ≤ sizeLine; decide), fun t nt => ⟨t, _, rfl, .inr (SqT.of upd_same), rfl, rfl, k _ (hs.trans (same_upd nt))⟩⟩) hz) fun _ => evt_and (evt_test fun H2' Q hs k => ⟨_, rfl, _, _, _, _, rfl, rfl, SqT.mono hs hP2, atI_nat rfl, a5, _, rfl, .inr (hF _), rfl, by decide, by have k2 := k _ hs; rw [← inV_five] at k2; exact k2⟩) fun _ => evt_test fun H2' Q hs k => ⟨_, rfl, _, _, _, _, rfl, rfl, SqT.mono hs hP2, atI_nat rfl, _, rfl, c, _, rfl, .inr (SqT.mono hs hc), rfl, flat_strsL _, by have k2 := k _ hs; rw [← inV_strs] at k2; exact k2⟩) (Same.refl H') (fun ht H4 s4 => ?_) (fun ht H4 s4 => ?_)
      · rw [Bool.true_and] at ht
        refine ⟨_, rfl, _, rfl, _, _, _, _, rfl, rfl, SqT.mono s4 hP2, atI_nat rfl, D, _, rfl, DPut.k (k := .inr y) (s4 _ _ hDk) ?_, ?_⟩
        · rw [ksT_len]
          have h1 := hks.le
          have h2 := flat_len hfl (i := i)
          exact Nat.lt_of_le_of_lt (show _ ≤ 1000000 by omega) (by decide)
        · refine ⟨_, _, _, addK ks y, rfl, ?_, ?_, ?_, ?_, ?_⟩
          · exact same_free (sH.trans s4) nD
          · rw [upd_ne (Ne.symm hpD)]; exact s4 _ _ hP
          · exact rows_putD (s4 _ _ hDk) (rows_mono s4 hRows)
          · rw [upd_same, putK_T]
          · rw [htk, List.flatMap_append, List.flatMap_singleton, hfr, if_pos ht]
            exact hks.add y
      · rw [Bool.true_and] at ht
        refine ⟨_, _, _, ks, rfl, sH.trans s4, s4 _ _ hP, rows_mono s4 hRows, s4 _ _ hDk, ?_⟩
        rw [htk, List.flatMap_append, List.flatMap_singleton, hfr, if_neg (by rw [ht]; exact Bool.false_ne_true), List.append_nil]
        exact hks
    | false =>
      refine if_ev (H0 := H') (b := false && true) (evt_and (EvT.to (evt_test fun H2' Q hs k => ⟨_, rfl, _, _, _, _, rfl, rfl, SqT.mono hs hP2, atI_nat rfl, (by show 2 ≤ sizeLine; decide), fun t nt => ⟨t, _, rfl, .inr (SqT.of upd_same), rfl, rfl, k _ (hs.trans (same_upd nt))⟩⟩) hz) fun h => by cases h) (Same.refl H') (fun h => by cases h) (fun _ H4 s4 => ?_)
      refine ⟨_, _, _, ks, rfl, sH.trans s4, s4 _ _ hP, rows_mono s4 hRows, s4 _ _ hDk, ?_⟩
      have hfr : freeR (.tuple (.str z :: rr), b', n') = [] := by
        unfold freeR nameR
        split
        · rename_i e
          injection e with e
          injection e with e
          injection e with e
          injection e with e
          subst e
          rw [if_neg (by rw [hz]; exact Bool.false_ne_true)]
          rfl
        · rfl
      rw [htk, List.flatMap_append, List.flatMap_singleton, hfr, List.append_nil]
      exact hks
  · intro σ H' R'
    obtain ⟨x2, x3, x4, ks, rfl, sH, hP, hRows, hDk, hks⟩ := R'
    rw [hxl, List.take_length] at hks
    exact ⟨_, rfl, sorted_end (K := K) hDk hks hfl sH q⟩
end
end My8

end
section
set_option Elab.async false
set_option linter.all false
set_option maxRecDepth 100000
set_option maxHeartbeats 2000000
namespace My8
open PySem PySem.Spec PyProof.Rows L2 My
open TrM TL
theorem dpAll_split {K : PySem.W.Frag} {H : Hp} : ∀ {ds es : List PyData} {xs : List V}, DpAll K H xs (ds ++ es) → ∃ ys zs, xs = ys ++ zs ∧ DpAll K H ys ds ∧ DpAll K H zs es
  | [], _, xs, h => ⟨[], xs, rfl, .nil, h⟩
  | _ :: _, _, _, .cons h t => by
    obtain ⟨ys, zs, rfl, h1, h2⟩ := dpAll_split t
    exact ⟨_ :: ys, zs, rfl, .cons h h1, h2⟩
theorem atI_back {xs : List V} {j : Nat} {x : V} (h : xs[xs.length - j]? = some x) (hj : j ≤ xs.length) (h0 : 0 < j) : atI xs (-(j : Int)) = some x := by
  unfold atI ixN
  rw [if_neg (by omega), if_pos (by omega)]
  show xs[(_ : Int).toNat]? = some x
  rw [← h]
  congr 1
  omega
theorem back_three {K : PySem.W.Frag} {H : Hp} {tl : List V} {l : List PyData} {a1 a2 a3 : PyData} (x0 : V) (h : DpAll K H tl (l ++ [a1, a2, a3])) : ∃ v3 v2, (x0 :: tl)[(x0 :: tl).length - 3]? = some v3 ∧ (x0 :: tl)[(x0 :: tl).length - 2]? = some v2 ∧ Dp K H v3 a1 ∧ Dp K H v2 a2 ∧ 3 ≤ (x0 :: tl).length := by
  obtain ⟨ys, zs, rfl, h1, h2⟩ := dpAll_split h
  cases h2 with | cons k1 h2 => cases h2 with | cons k2 h2 => cases h2 with | cons k3 h2 =>
  cases h2
  refine ⟨_, _, ?_, ?_, k1, k2, ?_⟩
  · rw [← List.cons_append, List.length_append]
    show ((x0 :: ys) ++ _)[(x0 :: ys).length + 3 - 3]? = _
    rw [Nat.add_sub_cancel, List.getElem?_append_right (Nat.le_refl _), Nat.sub_self]
    rfl
  · rw [← List.cons_append, List.length_append]
    show ((x0 :: ys) ++ _)[(x0 :: ys).length + 3 - 2]? = _
    rw [show (x0 :: ys).length + 3 - 2 = (x0 :: ys).length + 1 by omega, List.getElem?_append_right (Nat.le_succ _)]
    show [_, _, _][(x0 :: ys).length + 1 - (x0 :: ys).length]? = _
    rw [Nat.add_sub_cancel_left]
    rfl
  · rw [← List.cons_append, List.length_append]
    show 3 ≤ (x0 :: ys).length + 3
    omega
theorem sqt_updD {K : PySem.W.Frag} {H : Hp} {p a : Addr} {es es' : List (Key × V)} {ys : List V} (hp : H p = some (.dK es)) (h : SqT K H a ys) : SqT K (upd H p (.dK es')) a ys := by
  rcases h with h | h
  · refine .inl ?_
    have hne : a ≠ p := fun e => by
      subst e
      rcases h with h | ⟨o, h⟩ <;> rw [hp] at h <;> injection h with h <;> cases h
    rcases h with h | ⟨o, h⟩
    · exact .inl (by rw [upd_ne hne]; exact h)
    · exact .inr ⟨o, by rw [upd_ne hne]; exact h⟩
  · exact .inr h
/-- a step of a loop that puts a text to the keys -/
theorem put_key {K : PySem.W.Frag} {H H' HB : Hp} {D p : Addr} {ks l : List Str} {xs : List V} {rows : List RowD} (y : Str) (sH : Same H H') (nD : H D = none) (hpD : D ≠ p) (hP : H' p = some (.lst xs)) (hRows : Paired (RowAt K HB H') xs rows) (hDk : H' D = some (.dK (ksT ks))) (hks : KeysOf ks l) (hl : l.length ≤ 1000000) :
    (ksT ks).length < sizeLine ∧ Same H (upd H' D (.dK (putK (ksT ks) (.inr y) (.bl true)))) ∧ (upd H' D (.dK (putK (ksT ks) (.inr y) (.bl true)))) p = some (.lst xs) ∧ Paired (RowAt K HB (upd H' D (.dK (putK (ksT ks) (.inr y) (.bl true))))) xs rows ∧ (upd H' D (.dK (putK (ksT ks) (.inr y) (.bl true)))) D = some (.dK (ksT (addK ks y))) ∧ KeysOf (addK ks y) (l ++ [y]) := by
  refine ⟨?_, same_free sH nD, by rw [upd_ne (Ne.symm hpD)]; exact hP, rows_putD hDk hRows, by rw [upd_same, putK_T], hks.add y⟩
  rw [ksT_len]
  have h1 := hks.le
  exact Nat.lt_of_le_of_lt (show _ ≤ 1000000 by omega) (by decide)
theorem selR_eq (z : Str) (r : List PyData) (b : List Str) (k : Nat) : selR (.tuple (.str z :: r), b, k) = if z = kSend then selA r else if z = kSuper then selB r else if z = kCasc then selC r else [] := rfl
theorem sel_send {d : PyData} {s : Str} {e : PyData} {b : List Str} {k : Nat} : selR (.tuple [.str kSend, d, .str s, e], b, k) = [s] := by rw [selR_eq, if_pos rfl]; rfl
theorem sel_super {s : Str} {e : PyData} {b : List Str} {k : Nat} : selR (.tuple [.str kSuper, .str s, e], b, k) = [s] := by rw [selR_eq, if_neg (by decide +kernel), if_pos rfl]; rfl
theorem sel_casc {d : PyData} {ms : List (Str × List PyData)} {b : List Str} {k : Nat} : selR (.tuple [.str kCasc, d, .tuple (ms.map msgD)], b, k) = ms.map (·.1) := by
  rw [selR_eq, if_neg (by decide +kernel), if_neg (by decide +kernel), if_pos rfl]
  exact selM_map ms
theorem sel_none {z : Str} {r : List PyData} (h1 : isSS z = false) (h2 : decide (V.str z = V.str kCasc) = false) (b : List Str) (k : Nat) : selR (.tuple (.str z :: r), b, k) = [] := by
  have n1 : z ≠ kSend := fun e => by subst e; exact absurd h1 (by decide +kernel)
  have n2 : z ≠ kSuper := fun e => by subst e; exact absurd h1 (by decide +kernel)
  have n3 : z ≠ kCasc := fun e => by subst e; exact absurd h2 (by decide +kernel)
  rw [selR_eq, if_neg n1, if_neg n2, if_neg n3]
theorem parts_ss {d : PyData} {ds : List PyData} (h : Parts d ds) : ∀ {z : Str} {r : List PyData}, d = .tuple (.str z :: r) → isSS z = true → ∃ (l : List PyData) (s : Str) (e : PyData), r = l ++ [.str s, e] ∧ ∀ b k, selR (d, b, k) = [s] := by
  intro z r e hz
  cases h with
  | send => injection e with e; injection e with _ e; exact ⟨[_], _, _, e.symm, fun b k => sel_send⟩
  | super => injection e with e; injection e with _ e; exact ⟨[], _, _, e.symm, fun b k => sel_super⟩
  | _ =>
    injection e with e
    injection e with e _
    injection e with e
    subst e
    exact absurd hz (by decide +kernel)
theorem parts_cc {d : PyData} {ds : List PyData} (h : Parts d ds) : ∀ {z : Str} {r : List PyData}, d = .tuple (.str z :: r) → decide (V.str z = V.str kCasc) = true → ∃ (d0 : PyData) (ms : List (Str × List PyData)), r = [d0, .tuple (ms.map msgD)] ∧ ∀ b k, selR (d, b, k) = ms.map (·.1) := by
  intro z r e hz
  cases h with
  | casc => injection e with e; injection e with _ e; exact ⟨_, _, e.symm, fun b k => sel_casc⟩
  | _ =>
    injection e with e
    injection e with e _
    injection e with e
    subst e
    exact absurd hz (by decide +kernel)
section
variable {P : Program} {w : World} {K : PySem.W.Frag} {mg : Str → Option Value} {base : Heap}
theorem sc_declared_names : FnScope ["tree", "found", "part", "_", "name"] ["tree"] (defScope s_declared_names) := ⟨rfl, rfl, rfl, by decide +kernel, rfl, by decide +kernel, by decide +kernel⟩
theorem ok_declared {f fA : Addr} {fd fdA : FuncData} (F : FnP K "declared_names" s_declared_names f fd)
    (G_all_parts : FnOk P w K mg base CX0 2 fA fdA ["tree"] (spAll K)) (g_all_parts : mg "all_parts" = some (.ref fA)) (k_all_parts : PySem.W.keepIn K (.ref fA) = true) (b_all_parts : Binds K fdA ["tree"] []) (g_sorted : mg "sorted" = none) :
    FnOk P w K mg base CX0 3 f fd ["tree"] (spNames K declR) := by
  refine F.ok sc_declared_names (fun vs H Q E h => ?_) (fun cdv A outer s H vs Q E hr h => ⟨_, PSs.nox
    (pss_cons (ps_set (i := 1) sc_declared_names.nd rfl (Or.inl rfl) pe_dnewK)
      (pss_cons (ps_for PassesOwn.never rfl (pi_list (pe_call G_all_parts (hr.mono (Nat.le_refl _)) rfl g_all_parts k_all_parts b_all_parts .nil pass0 (pa_cons (pv 0) pa_nil))) (pg_tup rfl (pgs_cons (pg_name (i := 2) sc_declared_names.nd rfl (Or.inl rfl)) (pgs_cons (pg_name (i := 3) sc_declared_names.nd rfl (Or.inl rfl)) (pgs_cons (pg_name (i := 3) sc_declared_names.nd rfl (Or.inl rfl)) pgs_nil)))) (pss_one (ps_if (pt_cmpR op_in_seq (pe_ix ix_tup (pv 2) pe_int (fun _ _ => rfl)) (pe_tup (pa_cons pe_str (pa_cons pe_str pa_nil))) (by rfl)) (pss_one (ps_for PassesOwn.never rfl (pi_tup (pe_tup (StX.pa_star (pe_ix ix_tup (pv 2) (pe_un un_neg pe_int) (fun _ _ => rfl)) (StX.pa_star (pe_ix ix_tup (pv 2) (pe_un un_neg pe_int) (fun _ _ => rfl)) pa_nil)))) (pg_name (i := 4) sc_declared_names.nd rfl (Or.inl rfl)) (pss_one (ps_dput (Nat.lt_of_le_of_lt (Nat.add_le_add_left (by decide : 1 ≤ 64) _) hr.units) (pv 1) (pv 4) pe_bl rfl)))) pss_nil)))
      (pss_one (ps_ret (pe_callB (cr_sortedKeys rfl) (by rfl) g_sorted (by decide +kernel) (pa_cons (pv 1) pa_nil)))))), ?_⟩)
  · obtain ⟨HB, v, d, rows, rfl, _⟩ := h
    rfl
  obtain ⟨HB, v, d, rows, rfl, hsB, hd, hR, hn, hb, hf, hfl, q⟩ := h
  dsimp only [tSeq, tNext]
  intro D nD
  have s1 : Same H (upd H D (.dK [])) := same_upd nD
  have hD0 : (upd H D (.dK [])) D = some (.dK (ksT [])) := upd_same
  generalize upd H D (.dK []) = H1 at s1 hD0 ⊢
  refine ⟨_, rfl, HB, v, d, rows, rfl, hsB.trans s1, hd, hR, hn, hb, fun p xs H2 s2 np e2 hp => ⟨p, rfl, ⟨_, SqL.of e2⟩, ?_⟩⟩
  have hxl := pair_len hp
  have s12 := s1.trans s2
  have npH : H p = none := old_none s1 np
  refine for_list (K := K) (a := p) (xs := xs) (fun i σ H' => ∃ x2 x3 x4 ks, σ = [some v, some (.ref D), x2, x3, x4] ∧ Same H H' ∧ H' p = some (.lst xs) ∧ Paired (RowAt K HB H') xs rows ∧ H' D = some (.dK (ksT ks)) ∧ KeysOf ks ((rows.take i).flatMap declR)) ⟨_, _, _, [], rfl, s12, e2, hp, s2 _ _ hD0, ⟨List.nodup_nil, fun z => by simp, by simp⟩⟩ (fun i σ H' _ R' => by obtain ⟨_, _, _, _, _, _, R', _⟩ := R'; exact SqL.of R') ?_ ?_
  · intro i x σ H' hx R'
    obtain ⟨x2, x3, x4, ks, rfl, sH, hP, hRows, hDk, hks⟩ := R'
    obtain ⟨⟨d', b', n'⟩, hr1, hr2⟩ := pair_get hRows hx
    obtain ⟨a, u, c, rfl, hT, hu, hc⟩ := hr2
    obtain ⟨ds, hps⟩ := rows_parts hR _ (List.mem_of_getElem? hr1)
    have hpD : D ≠ p := fun e => by rw [← e, hDk] at hP; injection hP with hP; cases hP
    have sBH := hsB.trans sH
    have htk : rows.take (i + 1) = rows.take i ++ [(d', b', n')] := by rw [List.take_succ, hr1]; rfl
    have hflat : ((rows.take i).flatMap declR ++ declR (d', b', n')).length ≤ 1000000 := by
      have := flat_len hfl (i := i + 1)
      rw [htk, List.flatMap_append, List.flatMap_singleton] at this
      exact this
    have hfr := hf _ (List.mem_of_getElem? hr1)
    rw [htk, List.flatMap_append, List.flatMap_singleton]
    refine ⟨a, _, rfl, hT, rfl, _, _, rfl, _, _, rfl, _, _, rfl, rfl, ?_⟩
    obtain ⟨z, rr, rfl⟩ := parts_head hps
    obtain ⟨pa, us, rfl, hP1, hA⟩ := dp_tup hu
    cases hA with | cons g0 hA1 =>
    obtain rfl := dp_str g0
    have hP2 := SqT.mono sBH hP1
    cases hz : isMB z with
    | true =>
      obtain ⟨l, pn, vn, rfl, hdec⟩ := parts_mb hps rfl hz
      rw [hdec] at hflat hfr ⊢
      obtain ⟨x3v, x2v, hx3, hx2, hd3, hd2, h3⟩ := back_three (V.str z) hA1
      obtain ⟨bp, rfl, hp1⟩ := dp_strs hd3
      obtain ⟨bv, rfl, hv1⟩ := dp_strs hd2
      refine if_ev (H0 := H') (b := true) (EvT.to (evt_test fun H2' Q hs k => ⟨_, rfl, _, _, _, _, rfl, rfl, SqT.mono hs hP2, atI_nat rfl, (by show 2 ≤ sizeLine; decide), fun t nt => ⟨t, _, rfl, .inr (SqT.of upd_same), rfl, rfl, k _ (hs.trans (same_upd nt))⟩⟩) hz) (Same.refl H') (fun _ H4 s4 => ?_) (fun h => by cases h)
      have s5 := sBH.trans s4
      refine ⟨_, rfl, 3, rfl, pa, _, -3, .ref bp, rfl, rfl, SqT.mono s4 hP2, atI_back hx3 h3 (by decide), bp, _, rfl, .inl (SqT.mono s5 hp1), _, rfl, 2, rfl, pa, _, -2, .ref bv, rfl, rfl, SqT.mono s4 hP2, atI_back hx2 (Nat.le_trans (by decide) h3) (by decide), bv, _, rfl, .inl (SqT.mono s5 hv1), ?_, fun t nt => ?_⟩
      · rw [List.append_nil, ← List.map_append, List.length_map]
        exact Nat.le_trans hfr (by decide)
      rw [List.append_nil, ← List.map_append]
      have s6 := s4.trans (same_upd (o := HO.tup ((pn ++ vn).map V.str)) nt)
      refine ⟨t, rfl, ⟨_, SqT.of upd_same⟩, ?_⟩
      have hT7 : SqT K (upd H4 t (.tup ((pn ++ vn).map V.str))) t ((pn ++ vn).map V.str) := SqT.of upd_same
      have hDk6 := s6 _ _ hDk
      have hP6 := s6 _ _ hP
      have hR6 := rows_mono s6 hRows
      have sH6 := sH.trans s6
      have htD : t ≠ D := fun e => by
        have := same_upd (o := HO.tup ((pn ++ vn).map V.str)) nt D _ (s4 _ _ hDk)
        rw [← e, upd_same] at this
        injection this with this
        cases this
      generalize upd H4 t (.tup ((pn ++ vn).map V.str)) = H6 at hT7 hDk6 hP6 hR6 sH6 ⊢
      refine for_tup (K := K) (a := t) (xs := (pn ++ vn).map V.str) (fun j σ H' => ∃ x4 ks, σ = [some v, some (.ref D), some (.ref pa), some (.int (n' : Int)), x4] ∧ Same H H' ∧ H' p = some (.lst xs) ∧ Paired (RowAt K HB H') xs rows ∧ H' D = some (.dK (ksT ks)) ∧ KeysOf ks ((rows.take i).flatMap declR ++ (pn ++ vn).take j) ∧ SqT K H' t ((pn ++ vn).map V.str)) ⟨_, ks, rfl, sH6, hP6, hR6, hDk6, by rw [List.take_zero, List.append_nil]; exact hks, hT7⟩ (fun j σ H' _ R' => by obtain ⟨_, _, _, _, _, _, _, _, R'⟩ := R'; exact R') ?_ ?_
      · intro j x σ H7 hx R7
        rw [List.getElem?_map] at hx
        obtain ⟨y, hy, rfl⟩ := Option.map_eq_some_iff.mp hx
        obtain ⟨x4, ks7, rfl, sH7, hP7, hR7, hD7, hk7, hT7⟩ := R7
        have hl7 : ((rows.take i).flatMap declR ++ (pn ++ vn).take j).length ≤ 1000000 := by
          rw [List.length_append, List.length_take]
          rw [List.length_append] at hflat
          omega
        obtain ⟨c1, c2, c3, c4, c5, c6⟩ := put_key y sH7 nD hpD hP7 hR7 hD7 hk7 hl7
        refine ⟨_, rfl, _, rfl, D, _, rfl, DPut.k (k := .inr y) hD7 c1, _, addK ks7 y, rfl, c2, c3, c4, c5, ?_, sqt_updD hD7 hT7⟩
        rw [List.take_succ, hy, ← List.append_assoc]
        exact c6
      · intro σ H7 R7
        obtain ⟨x4, ks7, rfl, sH7, hP7, hR7, hD7, hk7, _⟩ := R7
        rw [List.length_map, List.take_length] at hk7
        exact ⟨_, _, _, ks7, rfl, sH7, hP7, hR7, hD7, hk7⟩
    | false =>
      refine if_ev (H0 := H') (b := false) (EvT.to (evt_test fun H2' Q hs k => ⟨_, rfl, _, _, _, _, rfl, rfl, SqT.mono hs hP2, atI_nat rfl, (by show 2 ≤ sizeLine; decide), fun t nt => ⟨t, _, rfl, .inr (SqT.of upd_same), rfl, rfl, k _ (hs.trans (same_upd nt))⟩⟩) hz) (Same.refl H') (fun h => by cases h) (fun _ H4 s4 => ?_)
      refine ⟨_, _, _, ks, rfl, sH.trans s4, s4 _ _ hP, rows_mono s4 hRows, s4 _ _ hDk, ?_⟩
      rw [decl_none hz, List.append_nil]
      exact hks
  · intro σ H' R'
    obtain ⟨x2, x3, x4, ks, rfl, sH, hP, hRows, hDk, hks⟩ := R'
    rw [hxl, List.take_length] at hks
    exact ⟨_, rfl, sorted_end (K := K) hDk hks hfl sH q⟩
end
end My8

end
section
set_option Elab.async false
set_option linter.all false
set_option maxRecDepth 100000
set_option maxHeartbeats 2000000
namespace My8
open PySem PySem.Spec PyProof.Rows L2 My
open TrM TL
theorem back_two {K : PySem.W.Frag} {H : Hp} {tl : List V} {l : List PyData} {a1 a2 : PyData} (x0 : V) (h : DpAll K H tl (l ++ [a1, a2])) : ∃ v1, (x0 :: tl)[(x0 :: tl).length - 2]? = some v1 ∧ Dp K H v1 a1 ∧ 2 ≤ (x0 :: tl).length := by
  obtain ⟨ys, zs, rfl, h1, h2⟩ := dpAll_split h
  cases h2 with | cons k1 h2 => cases h2 with | cons k2 h2 =>
  cases h2
  refine ⟨_, ?_, k1, ?_⟩
  · rw [← List.cons_append, List.length_append]
    show ((x0 :: ys) ++ _)[(x0 :: ys).length + 2 - 2]? = _
    rw [Nat.add_sub_cancel, List.getElem?_append_right (Nat.le_refl _), Nat.sub_self]
    rfl
  · rw [← List.cons_append, List.length_append]
    show 2 ≤ (x0 :: ys).length + 2
    omega
theorem dp_msg {K : PySem.W.Frag} {H : Hp} {v : V} {m : Str × List PyData} (h : Dp K H v (msgD m)) : ∃ a u, v = .ref a ∧ SqT K H a [.str m.1, u] := by
  obtain ⟨a, u, rfl, h1, _⟩ := dp_two (k := m.1) (d := .tuple m.2) h
  exact ⟨a, u, rfl, h1⟩
theorem dpAll_msg {K : PySem.W.Frag} {H : Hp} : ∀ {xs : List V} {ms : List (Str × List PyData)} {i : Nat} {x : V}, DpAll K H xs (ms.map msgD) → xs[i]? = some x → ∃ m, ms[i]? = some m ∧ Dp K H x (msgD m)
  | [], _, i, x, h, hx => by cases hx
  | y :: xs, [], _, x, h, hx => by cases h
  | y :: xs, m :: ms, 0, x, .cons h _, hx => by cases hx; exact ⟨_, rfl, h⟩
  | y :: xs, m :: ms, i + 1, x, .cons _ h, hx => by
    obtain ⟨d, h1, h2⟩ := dpAll_msg h (by simpa using hx)
    exact ⟨d, by simpa using h1, h2⟩
section
variable {P : Program} {w : World} {K : PySem.W.Frag} {mg : Str → Option Value} {base : Heap}
theorem sc_sent_selectors : FnScope ["tree", "found", "part", "_", "selector"] ["tree"] (defScope s_sent_selectors) := ⟨rfl, rfl, rfl, by decide +kernel, rfl, by decide +kernel, by decide +kernel⟩
theorem ok_sent {f fA : Addr} {fd fdA : FuncData} (F : FnP K "sent_selectors" s_sent_selectors f fd)
    (G_all_parts : FnOk P w K mg base CX0 2 fA fdA ["tree"] (spAll K)) (g_all_parts : mg "all_parts" = some (.ref fA)) (k_all_parts : PySem.W.keepIn K (.ref fA) = true) (b_all_parts : Binds K fdA ["tree"] []) (g_sorted : mg "sorted" = none) :
    FnOk P w K mg base CX0 3 f fd ["tree"] (spNames K selR) := by
  refine F.ok sc_sent_selectors (fun vs H Q E h => ?_) (fun cdv A outer s H vs Q E hr h => ⟨_, PSs.nox
    (pss_cons (ps_set (i := 1) sc_sent_selectors.nd rfl (Or.inl rfl) pe_dnewK)
      (pss_cons (ps_for PassesOwn.never rfl (pi_list (pe_call G_all_parts (hr.mono (Nat.le_refl _)) rfl g_all_parts k_all_parts b_all_parts .nil pass0 (pa_cons (pv 0) pa_nil))) (pg_tup rfl (pgs_cons (pg_name (i := 2) sc_sent_selectors.nd rfl (Or.inl rfl)) (pgs_cons (pg_name (i := 3) sc_sent_selectors.nd rfl (Or.inl rfl)) (pgs_cons (pg_name (i := 3) sc_sent_selectors.nd rfl (Or.inl rfl)) pgs_nil)))) (pss_one (ps_if (pt_cmpR op_in_seq (pe_ix ix_tup (pv 2) pe_int (fun _ _ => rfl)) (pe_tup (pa_cons pe_str (pa_cons pe_str pa_nil))) (by rfl)) (pss_one (ps_dput (Nat.lt_of_le_of_lt (Nat.add_le_add_left (by decide : 1 ≤ 64) _) hr.units) (pv 1) (pe_ix ix_tup (pv 2) (pe_un un_neg pe_int) (fun _ _ => rfl)) pe_bl rfl)) (pss_one (ps_if (pt_cmpR op_eq (pe_ix ix_tup (pv 2) pe_int (fun _ _ => rfl)) pe_str (nomark _)) (pss_one (ps_for PassesOwn.never rfl (pi_tup (pe_ix ix_tup (pv 2) pe_int (fun _ _ => rfl))) (pg_tup rfl (pgs_cons (pg_name (i := 4) sc_sent_selectors.nd rfl (Or.inl rfl)) (pgs_cons (pg_name (i := 3) sc_sent_selectors.nd rfl (Or.inl rfl)) pgs_nil))) (pss_one (ps_dput (Nat.lt_of_le_of_lt (Nat.add_le_add_left (by decide : 1 ≤ 64) _) hr.units) (pv 1) (pv 4) pe_bl rfl)))) pss_nil)))))
      (pss_one (ps_ret (pe_callB (cr_sortedKeys rfl) (by rfl) g_sorted (by decide +kernel) (pa_cons (pv 1) pa_nil)))))), ?_⟩)
  · obtain ⟨HB, v, d, rows, rfl, _⟩ := h
    rfl
  obtain ⟨HB, v, d, rows, rfl, hsB, hd, hR, hn, hb, hf, hfl, q⟩ := h
  dsimp only [tSeq, tNext]
  intro D nD
  have s1 : Same H (upd H D (.dK [])) := same_upd nD
  have hD0 : (upd H D (.dK [])) D = some (.dK (ksT [])) := upd_same
  generalize upd H D (.dK []) = H1 at s1 hD0 ⊢
  refine ⟨_, rfl, HB, v, d, rows, rfl, hsB.trans s1, hd, hR, hn, hb, fun p xs H2 s2 np e2 hp => ⟨p, rfl, ⟨_, SqL.of e2⟩, ?_⟩⟩
  have hxl := pair_len hp
  have s12 := s1.trans s2
  have npH : H p = none := old_none s1 np
  refine for_list (K := K) (a := p) (xs := xs) (fun i σ H' => ∃ x2 x3 x4 ks, σ = [some v, some (.ref D), x2, x3, x4] ∧ Same H H' ∧ H' p = some (.lst xs) ∧ Paired (RowAt K HB H') xs rows ∧ H' D = some (.dK (ksT ks)) ∧ KeysOf ks ((rows.take i).flatMap selR)) ⟨_, _, _, [], rfl, s12, e2, hp, s2 _ _ hD0, ⟨List.nodup_nil, fun z => by simp, by simp⟩⟩ (fun i σ H' _ R' => by obtain ⟨_, _, _, _, _, _, R', _⟩ := R'; exact SqL.of R') ?_ ?_
  · intro i x σ H' hx R'
    obtain ⟨x2, x3, x4, ks, rfl, sH, hP, hRows, hDk, hks⟩ := R'
    obtain ⟨⟨d', b', n'⟩, hr1, hr2⟩ := pair_get hRows hx
    obtain ⟨a, u, c, rfl, hT, hu, hc⟩ := hr2
    obtain ⟨ds, hps⟩ := rows_parts hR _ (List.mem_of_getElem? hr1)
    have hpD : D ≠ p := fun e => by rw [← e, hDk] at hP; injection hP with hP; cases hP
    have sBH := hsB.trans sH
    have htk : rows.take (i + 1) = rows.take i ++ [(d', b', n')] := by rw [List.take_succ, hr1]; rfl
    have hflat : ((rows.take i).flatMap selR ++ selR (d', b', n')).length ≤ 1000000 := by
      have := flat_len hfl (i := i + 1)
      rw [htk, List.flatMap_append, List.flatMap_singleton] at this
      exact this
    have hl0 : ((rows.take i).flatMap selR).length ≤ 1000000 := by rw [List.length_append] at hflat; omega
    rw [htk, List.flatMap_append, List.flatMap_singleton]
    refine ⟨a, _, rfl, hT, rfl, _, _, rfl, _, _, rfl, _, _, rfl, rfl, ?_⟩
    obtain ⟨z, rr, rfl⟩ := parts_head hps
    obtain ⟨pa, us, rfl, hP1, hA⟩ := dp_tup hu
    cases hA with | cons g0 hA1 =>
    obtain rfl := dp_str g0
    have hP2 := SqT.mono sBH hP1
    cases hz : isSS z with
    | true =>
      obtain ⟨l, s, e, rfl, hsel⟩ := parts_ss hps rfl hz
      rw [hsel] at hflat ⊢
      obtain ⟨v1, hx1, hd1, h2⟩ := back_two (V.str z) hA1
      obtain rfl := dp_str hd1
      refine if_ev (H0 := H') (b := true) (EvT.to (evt_test fun H2' Q hs k => ⟨_, rfl, _, _, _, _, rfl, rfl, SqT.mono hs hP2, atI_nat rfl, (by show 2 ≤ sizeLine; decide), fun t nt => ⟨t, _, rfl, .inr (SqT.of upd_same), rfl, rfl, k _ (hs.trans (same_upd nt))⟩⟩) hz) (Same.refl H') (fun _ H4 s4 => ?_) (fun h => by cases h)
      obtain ⟨c1, c2, c3, c4, c5, c6⟩ := put_key s (sH.trans s4) nD hpD (s4 _ _ hP) (rows_mono s4 hRows) (s4 _ _ hDk) hks hl0
      refine ⟨_, rfl, _, rfl, 2, rfl, pa, _, -2, .str s, rfl, rfl, SqT.mono s4 hP2, atI_back hx1 h2 (by decide), D, _, rfl, DPut.k (k := .inr s) (s4 _ _ hDk) c1, ?_⟩
      exact ⟨_, _, _, addK ks s, rfl, c2, c3, c4, c5, c6⟩
    | false =>
      refine if_ev (H0 := H') (b := false) (EvT.to (evt_test fun H2' Q hs k => ⟨_, rfl, _, _, _, _, rfl, rfl, SqT.mono hs hP2, atI_nat rfl, (by show 2 ≤ sizeLine; decide), fun t nt => ⟨t, _, rfl, .inr (SqT.of upd_same), rfl, rfl, k _ (hs.trans (same_upd nt))⟩⟩) hz) (Same.refl H') (fun h => by cases h) (fun _ H4 s4 => ?_)
      cases hcc : decide (V.str z = V.str kCasc) with
      | true =>
        obtain ⟨d0, ms, rfl, hsel⟩ := parts_cc hps rfl hcc
        rw [hsel] at hflat ⊢
        cases hA1 with | cons g1 hA2 => cases hA2 with | cons g2 hA3 =>
        cases hA3
        obtain ⟨b2, ys, rfl, hy1, hy2⟩ := dp_tup g2
        refine if_ev (H0 := H') (b := true) (EvT.to (evt_test fun H2' Q hs k => ⟨_, rfl, _, _, _, _, rfl, rfl, SqT.mono hs hP2, atI_nat rfl, rfl, k _ hs⟩) hcc) s4 (fun _ H5 s5 => ?_) (fun h => by cases h)
        have sB5 := sBH.trans s5
        refine ⟨_, rfl, _, _, _, _, rfl, rfl, SqT.mono s5 hP2, atI_nat rfl, b2, rfl, ⟨_, SqT.mono sB5 hy1⟩, ?_⟩
        have hyl := dpAll_length hy2
        have hks5 := s5 _ _ hDk
        refine for_tup (K := K) (a := b2) (xs := ys) (fun j σ H' => ∃ x3 x4 ks, σ = [some v, some (.ref D), some (.ref pa), x3, x4] ∧ Same H H' ∧ H' p = some (.lst xs) ∧ Paired (RowAt K HB H') xs rows ∧ H' D = some (.dK (ksT ks)) ∧ KeysOf ks ((rows.take i).flatMap selR ++ (ms.map (·.1)).take j)) ⟨_, _, ks, rfl, sH.trans s5, s5 _ _ hP, rows_mono s5 hRows, hks5, by rw [List.take_zero, List.append_nil]; exact hks⟩ (fun j σ H' _ R' => by obtain ⟨_, _, _, _, R', _⟩ := R'; exact SqT.mono (hsB.trans R') hy1) ?_ ?_
        · intro j x σ H7 hx R7
          obtain ⟨x3, x4, ks7, rfl, sH7, hP7, hR7, hD7, hk7⟩ := R7
          obtain ⟨m, hm1, hm2⟩ := dpAll_msg hy2 hx
          obtain ⟨am, um, rfl, hTm⟩ := dp_msg hm2
          have hl7 : ((rows.take i).flatMap selR ++ (ms.map (·.1)).take j).length ≤ 1000000 := by
            rw [List.length_append, List.length_take]
            rw [List.length_append] at hflat
            omega
          obtain ⟨c1, c2, c3, c4, c5, c6⟩ := put_key m.1 sH7 nD hpD hP7 hR7 hD7 hk7 hl7
          refine ⟨am, _, rfl, SqT.mono (hsB.trans sH7) hTm, rfl, _, _, rfl, _, _, rfl, rfl, ?_⟩
          refine ⟨_, rfl, _, rfl, D, _, rfl, DPut.k (k := .inr m.1) hD7 c1, _, _, addK ks7 m.1, rfl, c2, c3, c4, c5, ?_⟩
          rw [List.take_succ, List.getElem?_map, hm1, ← List.append_assoc]
          exact c6
        · intro σ H7 R7
          obtain ⟨x3, x4, ks7, rfl, sH7, hP7, hR7, hD7, hk7⟩ := R7
          rw [hyl, List.length_map, ← List.length_map (f := fun m : Str × List PyData => m.1) (as := ms), List.take_length] at hk7
          exact ⟨_, _, _, ks7, rfl, sH7, hP7, hR7, hD7, hk7⟩
      | false =>
        refine if_ev (H0 := H') (b := false) (EvT.to (evt_test fun H2' Q hs k => ⟨_, rfl, _, _, _, _, rfl, rfl, SqT.mono hs hP2, atI_nat rfl, rfl, k _ hs⟩) hcc) s4 (fun h => by cases h) (fun _ H5 s5 => ?_)
        refine ⟨_, _, _, ks, rfl, sH.trans s5, s5 _ _ hP, rows_mono s5 hRows, s5 _ _ hDk, ?_⟩
        rw [sel_none hz hcc, List.append_nil]
        exact hks
  · intro σ H' R'
    obtain ⟨x2, x3, x4, ks, rfl, sH, hP, hRows, hDk, hks⟩ := R'
    rw [hxl, List.take_length] at hks
    exact ⟨_, rfl, sorted_end (K := K) hDk hks hfl sH q⟩
/-- the names of a row that reads or sets -/
theorem sc_named_words : FnScope ["tree", "found", "part", "_", "name"] ["tree"] (defScope s_named_words) := ⟨rfl, rfl, rfl, by decide +kernel, rfl, by decide +kernel, by decide +kernel⟩
theorem ok_named {f fA fD : Addr} {fd fdA fdD : FuncData} (F : FnP K "named_words" s_named_words f fd)
    (G_all_parts : FnOk P w K mg base CX0 2 fA fdA ["tree"] (spAll K)) (g_all_parts : mg "all_parts" = some (.ref fA)) (k_all_parts : PySem.W.keepIn K (.ref fA) = true) (b_all_parts : Binds K fdA ["tree"] [])
    (G_declared_names : FnOk P w K mg base CX0 3 fD fdD ["tree"] (spNames K declR)) (g_declared_names : mg "declared_names" = some (.ref fD)) (k_declared_names : PySem.W.keepIn K (.ref fD) = true) (b_declared_names : Binds K fdD ["tree"] []) (g_sorted : mg "sorted" = none) :
    FnOk P w K mg base CX0 4 f fd ["tree"] (fun vs H Q _ => ∃ (HB : Hp) (v : V) (d : PyData) (rows : List RowD), vs = [v] ∧ Same HB H ∧ Dp K HB v d ∧ Rows [(d, [], 0)] rows ∧ rows.length ≤ 100000 ∧ (∀ r ∈ rows, r.2.1.length ≤ 100000) ∧ (∀ r ∈ rows, (declR r).length ≤ 2000) ∧ (rows.flatMap declR ++ rows.flatMap nameR).length ≤ 1000000 ∧
      ∀ (p : Addr) (ys : List Str) (H' : Hp), Same H H' → H p = none → H' p = some (.lst (ys.map V.str)) → Sorted ys (rows.flatMap declR ++ rows.flatMap nameR) → Q (.ref p) H') := by
  refine F.ok sc_named_words (fun vs H Q E h => ?_) (fun cdv A outer s H vs Q E hr h => ⟨_, PSs.nox
    (pss_cons (ps_setDc (i := 1) (own := [("name", 4)]) rfl sc_named_words.nd rfl rfl (sw_trueD rfl rfl rfl (by decide +kernel)) (pi_list (pe_call G_declared_names (hr.mono (by decide)) rfl g_declared_names k_declared_names b_declared_names .nil pass0 (pa_cons (pv 0) pa_nil))) (blkOk_by (own := [("name", 4)]) (N := ["tree", "found", "part", "_", "name"]) (sc := defScope s_named_words) (by decide +kernel)) (fun _ _ _ _ _ => by (exact (pg_name (i := 4) sc_named_words.nd rfl (Or.inl rfl)))) (fun _ _ _ _ _ => by exact pts_nil) (fun _ _ _ _ _ => by exact (pv 4)) (fun _ _ _ _ _ => by exact pe_bl))
      (pss_cons (ps_for PassesOwn.never rfl (pi_list (pe_call G_all_parts (hr.mono (by decide)) rfl g_all_parts k_all_parts b_all_parts .nil pass0 (pa_cons (pv 0) pa_nil))) (pg_tup rfl (pgs_cons (pg_name (i := 2) sc_named_words.nd rfl (Or.inl rfl)) (pgs_cons (pg_name (i := 3) sc_named_words.nd rfl (Or.inl rfl)) (pgs_cons (pg_name (i := 3) sc_named_words.nd rfl (Or.inl rfl)) pgs_nil)))) (pss_one (ps_if (pt_cmpR op_in_seq (pe_ix ix_tup (pv 2) pe_int (fun _ _ => rfl)) (pe_tup (pa_cons pe_str (pa_cons pe_str pa_nil))) (by rfl)) (pss_one (ps_dput (Nat.lt_of_le_of_lt (Nat.add_le_add_left (by decide : 1 ≤ 64) _) hr.units) (pv 1) (pe_ix ix_tup (pv 2) pe_int (fun _ _ => rfl)) pe_bl rfl)) pss_nil)))
      (pss_one (ps_ret (pe_callB (cr_sortedKeys rfl) (by rfl) g_sorted (by decide +kernel) (pa_cons (pv 1) pa_nil)))))), ?_⟩)
  · obtain ⟨HB, v, d, rows, rfl, _⟩ := h
    rfl
  obtain ⟨HB, v, d, rows, rfl, hsB, hd, hR, hn, hb, hf, hfl, q⟩ := h
  have hfl1 : (rows.flatMap declR).length ≤ 1000000 := by rw [List.length_append] at hfl; omega
  have big : (1000000 : Nat) < sizeLine := by decide
  dsimp only [tSeq, tNext]
  refine ⟨_, rfl, HB, v, d, rows, rfl, hsB, hd, hR, hn, hb, hf, hfl1, fun p0 ys H1 s1 np1 e1 hys => ⟨p0, rfl, ⟨_, SqL.of e1⟩, fun D nD => ?_⟩⟩
  have nDH : H D = none := old_none s1 nD
  have hle : ys.length ≤ 1000000 := Nat.le_trans hys.2.2.2 hfl1
  refine dc_it (walk_list (K := K) (a := p0) (xs := ys.map V.str)) (fun i H' => Same H1 H' ∧ ∃ ks, H' D = some (.dK (ksT ks)) ∧ KeysOf ks (ys.take i)) ⟨same_upd nD, [], upd_same, ⟨List.nodup_nil, fun z => by simp, by simp⟩⟩ (fun i H' _ R => Same.seq R.1 (SqL.of e1)) ?_ ?_
  · intro i x H' H'' hi R hy
    obtain ⟨R1, ks, R2, R3⟩ := R
    obtain ⟨rfl, hx⟩ := hy
    rw [List.getElem?_map] at hx
    obtain ⟨y, hy, rfl⟩ := Option.map_eq_some_iff.mp hx
    refine ⟨rfl, tyes ?_⟩
    refine ⟨_, rfl, ksT ks, .inr y, rfl, R2, ?_, same_free R1 nD, addK ks y, by rw [upd_same, putK_T], ?_⟩
    · rw [ksT_len]
      have h1 := R3.le
      have h2 : (ys.take i).length ≤ ys.length := by rw [List.length_take]; omega
      omega
    · rw [List.take_succ, hy]
      exact R3.add y
  intro H2 R
  obtain ⟨R1, ks0, R2, R3⟩ := R
  rw [List.length_map, List.take_length] at R3
  have hk0 : KeysOf ks0 (rows.flatMap declR) := ⟨R3.nd, fun z => by rw [R3.mem, hys.2.2.1], Nat.le_trans R3.le hys.2.2.2⟩
  clear R3
  have sH2 := s1.trans R1
  refine ⟨_, rfl, HB, v, d, rows, rfl, hsB.trans sH2, hd, hR, hn, hb, fun p xs H3 s3 np e3 hp => ⟨p, rfl, ⟨_, SqL.of e3⟩, ?_⟩⟩
  have hxl := pair_len hp
  have s12 := sH2.trans s3
  have npH : H p = none := old_none sH2 np
  refine for_list (K := K) (a := p) (xs := xs) (fun i σ H' => ∃ x2 x3 x4 ks, σ = [some v, some (.ref D), x2, x3, x4] ∧ Same H H' ∧ H' p = some (.lst xs) ∧ Paired (RowAt K HB H') xs rows ∧ H' D = some (.dK (ksT ks)) ∧ KeysOf ks (rows.flatMap declR ++ (rows.take i).flatMap nameR)) ⟨_, _, _, ks0, rfl, s12, e3, hp, s3 _ _ R2, by rw [List.take_zero, List.flatMap_nil, List.append_nil]; exact hk0⟩ (fun i σ H' _ R' => by obtain ⟨_, _, _, _, _, _, R', _⟩ := R'; exact SqL.of R') ?_ ?_
  · intro i x σ H' hx R'
    obtain ⟨x2, x3, x4, ks, rfl, sH, hP, hRows, hDk, hks⟩ := R'
    obtain ⟨⟨d', b', n'⟩, hr1, hr2⟩ := pair_get hRows hx
    obtain ⟨a, u, c, rfl, hT, hu, hc⟩ := hr2
    obtain ⟨ds, hps⟩ := rows_parts hR _ (List.mem_of_getElem? hr1)
    have hpD : D ≠ p := fun e => by rw [← e, hDk] at hP; injection hP with hP; cases hP
    have sBH := hsB.trans sH
    have htk : rows.take (i + 1) = rows.take i ++ [(d', b', n')] := by rw [List.take_succ, hr1]; rfl
    have hl0 : (rows.flatMap declR ++ (rows.take i).flatMap nameR).length ≤ 1000000 := by
      have h1 : (rows.flatMap nameR).length ≤ 1000000 - (rows.flatMap declR).length := by rw [List.length_append] at hfl; omega
      have h2 := flat_len h1 (i := i)
      rw [List.length_append]
      rw [List.length_append] at hfl
      omega
    rw [htk, List.flatMap_append, List.flatMap_singleton, ← List.append_assoc]
    refine ⟨a, _, rfl, hT, rfl, _, _, rfl, _, _, rfl, _, _, rfl, rfl, ?_⟩
    obtain ⟨z, rr, rfl⟩ := parts_head hps
    obtain ⟨pa, us, rfl, hP1, hA⟩ := dp_tup hu
    cases hA with | cons g0 hA1 =>
    obtain rfl := dp_str g0
    have hP2 := SqT.mono sBH hP1
    cases hz : isVS z with
    | true =>
      obtain ⟨y, r', rfl⟩ := parts_vs hps rfl hz
      cases hA1 with | cons g1 hA2 =>
      obtain rfl := dp_str g1
      have hfr : nameR (.tuple (.str z :: .str y :: r'), b', n') = [y] := if_pos hz
      rw [hfr]
      refine if_ev (H0 := H') (b := true) (EvT.to (evt_test fun H2' Q hs k => ⟨_, rfl, _, _, _, _, rfl, rfl, SqT.mono hs hP2, atI_nat rfl, (by show 2 ≤ sizeLine; decide), fun t nt => ⟨t, _, rfl, .inr (SqT.of upd_same), rfl, rfl, k _ (hs.trans (same_upd nt))⟩⟩) hz) (Same.refl H') (fun _ H4 s4 => ?_) (fun h => by cases h)
      obtain ⟨c1, c2, c3, c4, c5, c6⟩ := put_key y (sH.trans s4) nDH hpD (s4 _ _ hP) (rows_mono s4 hRows) (s4 _ _ hDk) hks hl0
      refine ⟨_, rfl, _, rfl, _, _, _, _, rfl, rfl, SqT.mono s4 hP2, atI_nat rfl, D, _, rfl, DPut.k (k := .inr y) (s4 _ _ hDk) c1, ?_⟩
      exact ⟨_, _, _, addK ks y, rfl, c2, c3, c4, c5, c6⟩
    | false =>
      have hfr : nameR (.tuple (.str z :: rr), b', n') = [] := by
        unfold nameR
        split
        · rename_i e
          injection e with e
          injection e with e
          injection e with e
          injection e with e
          subst e
          exact if_neg (by rw [hz]; exact Bool.false_ne_true)
        · rfl
      rw [hfr, List.append_nil]
      refine if_ev (H0 := H') (b := false) (EvT.to (evt_test fun H2' Q hs k => ⟨_, rfl, _, _, _, _, rfl, rfl, SqT.mono hs hP2, atI_nat rfl, (by show 2 ≤ sizeLine; decide), fun t nt => ⟨t, _, rfl, .inr (SqT.of upd_same), rfl, rfl, k _ (hs.trans (same_upd nt))⟩⟩) hz) (Same.refl H') (fun h => by cases h) (fun _ H4 s4 => ?_)
      exact ⟨_, _, _, ks, rfl, sH.trans s4, s4 _ _ hP, rows_mono s4 hRows, s4 _ _ hDk, hks⟩
  · intro σ H' R'
    obtain ⟨x2, x3, x4, ks, rfl, sH, hP, hRows, hDk, hks⟩ := R'
    rw [hxl, List.take_length] at hks
    exact ⟨_, rfl, sorted_end (K := K) hDk hks hfl sH q⟩
end
end My8

end
section
set_option Elab.async false
set_option linter.all false
set_option maxRecDepth 100000
set_option maxHeartbeats 2000000
namespace My8
open PySem PySem.Spec PyProof.Rows L2 My
open TrM TL
def spBodyWith (K : PySem.W.Frag) (m : Nat) : Sp := fun vs H Q _ => ∃ (v : V) (n o : Str) (b : Bool) (l : List PyData) (ps xs : List Str) (ds es : List PyData), vs = [v, .str n, .str o, .bl b] ∧ Dp K H v (.tuple (l ++ [.tuple (ps.map .str), .tuple (xs.map .str), .tuple ds])) ∧ Rens n o m (b || (ps.contains n || xs.contains n)) ds es ∧ ps.length ≤ 1000 ∧ xs.length ≤ 1000 ∧ ds.length ≤ 1000 ∧ l.length ≤ 1000 ∧ (∀ e ∈ es, NoL e) ∧
  ∀ y H', Same H H' → Dp K H' y (.tuple (l ++ [.tuple ((ps.map (swap n o true)).map .str), .tuple ((xs.map (swap n o true)).map .str), .tuple es])) → Q y H'
theorem six3 (n d : Nat) : HT.sIx n d (some (-3)) = n - 3 := by
  show (if (-3 : Int) < 0 then ((-3 : Int) + (n : Int)).toNat else min (-3 : Int).toNat n) = n - 3
  rw [if_pos (by decide)]
  omega
theorem cut_a (ys : List V) {zs : List V} (h : zs.length = 3) : cutV (ys ++ zs) (some (-3)) none = zs := by
  unfold cutV
  rw [six3, HT.sIx_none, List.length_append, h, Nat.add_sub_cancel, List.drop_left, List.take_of_length_le (by omega)]
theorem cut_b (ys : List V) {zs : List V} (h : zs.length = 3) : cutV (ys ++ zs) none (some (-3)) = ys := by
  unfold cutV
  rw [six3, HT.sIx_none, List.length_append, h, Nat.add_sub_cancel, List.drop_zero, Nat.sub_zero, List.take_left]
theorem dpAll_app {K : PySem.W.Frag} {H : Hp} : ∀ {xs ys : List V} {ds es : List PyData}, DpAll K H xs ds → DpAll K H ys es → DpAll K H (xs ++ ys) (ds ++ es)
  | _, _, _, _, .nil, h => h
  | _, _, _, _, .cons h t, h' => .cons h (dpAll_app t h')
theorem dpAll_strs {K : PySem.W.Frag} {H : Hp} (ps : List Str) : DpAll K H (ps.map V.str) (ps.map PyData.str) := by
  induction ps with
  | nil => exact .nil
  | cons p ps ih => exact .cons (.str p) ih
theorem renMs_at {n o : Str} {m : Nat} {b : Bool} : ∀ {ms ns : List (Str × List PyData)} {i : Nat} {x : Str × List PyData}, RenMs n o m b ms ns → ms[i]? = some x → ∃ es, ns[i]? = some (x.1, es) ∧ Rens n o m b x.2 es ∧ x.2.length ≤ 1000
  | _, _, i, x, .nil, hx => by cases hx
  | _, _, 0, x, .cons h hl _, hx => by cases hx; exact ⟨_, rfl, h, hl⟩
  | _, _, i + 1, x, .cons _ _ h, hx => by
    obtain ⟨d, h1, h2⟩ := renMs_at h (by simpa using hx)
    exact ⟨d, by simpa using h1, h2⟩
theorem renMs_len {n o : Str} {m : Nat} {b : Bool} : ∀ {ms ns : List (Str × List PyData)}, RenMs n o m b ms ns → ms.length = ns.length
  | _, _, .nil => rfl
  | _, _, .cons _ _ h => by rw [List.length_cons, List.length_cons, renMs_len h]
theorem noL_tup {ds : List PyData} (h : NoL (.tuple ds)) : ∀ d ∈ ds, NoL d := by cases h; assumption
theorem dpAll_msgs {K : PySem.W.Frag} {H : Hp} : ∀ {ys : List V} {ns : List (Str × List PyData)}, Paired (fun y m => Dp K H y (msgD m) ∧ NoL (msgD m)) ys ns → DpAll K H ys (ns.map msgD)
  | _, _, .nil => .nil
  | _, _, .cons h t => .cons h.1 (dpAll_msgs t)
section
variable {P : Program} {w : World} {K : PySem.W.Frag} {mg : Str → Option Value} {base : Heap}
theorem sc_body_with_name : FnScope ["tree", "name", "other", "bound", "parameters", "variables", "statements", "inside", "changed"] ["tree", "name", "other", "bound"] (defScope s_body_with_name) := ⟨rfl, rfl, rfl, by decide +kernel, rfl, by decide +kernel, by decide +kernel⟩
theorem ok_body_with {f fW fR : Addr} {fd fdW fdR : FuncData} {m k : Nat} (F : FnP K "body_with_name" s_body_with_name f fd)
    (G_all_with_name : FnOk P w K mg base CX0 (k + 1) fW fdW ["trees", "name", "other", "bound"] (spAllWith K m)) (g_all_with_name : mg "all_with_name" = some (.ref fW)) (k_all_with_name : PySem.W.keepIn K (.ref fW) = true) (b_all_with_name : Binds K fdW ["trees", "name", "other", "bound"] [])
    (G_replaced : FnOk P w K mg base CX0 (k + 1) fR fdR ["names", "name", "other"] (spReplaced K)) (g_replaced : mg "replaced" = some (.ref fR)) (k_replaced : PySem.W.keepIn K (.ref fR) = true) (b_replaced : Binds K fdR ["names", "name", "other"] []) :
    FnOk P w K mg base CX0 (k + 2) f fd ["tree", "name", "other", "bound"] (spBodyWith K m) := by
  refine F.ok sc_body_with_name (fun vs H Q E h => ?_) (fun cdv A outer s H vs Q E hr h => ⟨_, PSs.nox
    (pss_cons (ps_asg (pe_slice sl_tupA (pv 0) (po_some (pe_un un_neg pe_int)) po_none) (pg_tup rfl (pgs_cons (pg_name (i := 4) sc_body_with_name.nd rfl (Or.inl rfl)) (pgs_cons (pg_name (i := 5) sc_body_with_name.nd rfl (Or.inl rfl)) (pgs_cons (pg_name (i := 6) sc_body_with_name.nd rfl (Or.inl rfl)) pgs_nil)))))
      (pss_cons (ps_set (i := 7) sc_body_with_name.nd rfl (Or.inl rfl) (pe_or (pv 3) (pe_or (pe_cmpR op_in_seq (pv 1) (pv 4) (by rfl)) (pe_one (pe_cmpR op_in_seq (pv 1) (pv 5) (by rfl))))))
      (pss_cons (ps_set (i := 8) sc_body_with_name.nd rfl (Or.inl rfl) (pe_call G_all_with_name (hr.mono (Nat.le_refl _)) rfl g_all_with_name k_all_with_name b_all_with_name .nil pass0 (pa_cons (pv 6) (pa_cons (pv 1) (pa_cons (pv 2) (pa_cons (pv 7) pa_nil))))))
      (pss_one (ps_ret (pe_tup (StX.pa_star (pe_slice sl_tupA (pv 0) po_none (po_some (pe_un un_neg pe_int))) (pa_cons (pe_call G_replaced (hr.mono (Nat.le_refl _)) rfl g_replaced k_replaced b_replaced .nil pass0 (pa_cons (pv 4) (pa_cons (pv 1) (pa_cons (pv 2) pa_nil)))) (pa_cons (pe_call G_replaced (hr.mono (Nat.le_refl _)) rfl g_replaced k_replaced b_replaced .nil pass0 (pa_cons (pv 5) (pa_cons (pv 1) (pa_cons (pv 2) pa_nil)))) (pa_cons (pv 8) pa_nil)))))))))), ?_⟩)
  · obtain ⟨v, n, o, b, l, ps, xs, ds, es, rfl, _⟩ := h
    rfl
  obtain ⟨v, n, o, b, l, ps, xs, ds, es, rfl, hd, hR, h1, h2, h3, h4, hN, q⟩ := h
  obtain ⟨a, us, rfl, hT, hA⟩ := dp_tup hd
  obtain ⟨ys, zs, rfl, hy, hz⟩ := dpAll_split hA
  cases hz with | cons g1 hz => cases hz with | cons g2 hz => cases hz with | cons g3 hz =>
  cases hz
  obtain ⟨bp, rfl, hp1⟩ := dp_strs g1
  obtain ⟨bv, rfl, hv1⟩ := dp_strs g2
  obtain ⟨bs, ws, rfl, hw1, hw2⟩ := dp_tup g3
  have hyl := dpAll_length hy
  have cut1 := cut_a ys (zs := [V.ref bp, .ref bv, .ref bs]) rfl
  have cut2 := cut_b ys (zs := [V.ref bp, .ref bv, .ref bs]) rfl
  dsimp only [tSeq, tNext]
  refine ⟨_, rfl, 3, rfl, _, rfl, ?_⟩
  dsimp only [tNoPart]
  refine rsl_of hT fun c H1 s1 hc => ?_
  rw [cut1] at hc
  refine ⟨c, _, rfl, hc, rfl, _, _, rfl, _, _, rfl, _, _, rfl, rfl, ?_⟩
  dsimp only [tSeq, tNext]
  refine eve_or (x := b) (y := ps.contains n || xs.contains n) (fun H' Q hs k => ⟨_, rfl, k H' hs⟩) (fun _ => eve_or (fun H' Q hs k => ⟨_, rfl, _, rfl, bp, _, rfl, .inr (SqT.mono (s1.trans hs) hp1), rfl, flat_strsL _, by have k2 := k _ hs; rw [← inV_strs] at k2; exact k2⟩) fun _ => fun H' Q hs k => ⟨_, rfl, _, rfl, bv, _, rfl, .inr (SqT.mono (s1.trans hs) hv1), rfl, flat_strsL _, by have k2 := k _ hs; rw [← inV_strs] at k2; exact k2⟩) H1 _ (Same.refl H1) fun H2 s2 => ?_
  have s2 := s1.trans s2
  dsimp only [tSeq, tNext]
  refine ⟨_, rfl, _, rfl, _, rfl, _, rfl, bs, n, o, b || (ps.contains n || xs.contains n), ws, ds, es, rfl, SqT.mono s2 hw1, dp_monoAll s2 _ _ hw2, hR, hN, h3, fun r rs H3 s3 hr1 hr2 => ?_⟩
  have s3 := s2.trans s3
  dsimp only [tSeq, tNext]
  refine ⟨_, rfl, ?_⟩
  dsimp only [tNoPart]
  refine ⟨3, rfl, _, rfl, rsl_of (SqT.mono s3 hT) fun c2 H4 s4 hc2 => ⟨c2, _, rfl, .inl hc2, ?_⟩⟩
  rw [cut2] at hc2
  have s34 := s4
  have s4 := s3.trans s4
  refine ⟨_, rfl, _, rfl, _, rfl, bp, n, o, ps, rfl, SqT.mono s4 hp1, h1, fun r1 H5 s5 hr5 => ?_⟩
  refine ⟨_, rfl, _, rfl, _, rfl, bv, n, o, xs, rfl, SqT.mono (s4.trans s5) hv1, h2, fun r2 H6 s6 hr6 => ?_⟩
  refine ⟨_, rfl, ?_, fun t nt => ?_⟩
  · rw [List.length_append, cut2]
    exact Nat.le_trans (show ys.length + 3 ≤ 2000 by omega) (by decide)
  rw [cut2]
  have s7 : Same H6 (upd H6 t (.tup (ys ++ [.ref r1, .ref r2, .ref r]))) := same_upd nt
  have s47 := (s5.trans s6).trans s7
  have sA := s4.trans s47
  refine q _ _ sA (Dp.tup (SqT.of upd_same) (dpAll_app (dp_monoAll sA _ _ hy) (.cons (Dp.tup (SqT.mono (s6.trans s7) hr5) (dpAll_strs _)) (.cons (Dp.tup (SqT.mono s7 hr6) (dpAll_strs _)) (.cons (Dp.tup (SqT.mono (s34.trans s47) hr1) (dp_monoAll (s34.trans s47) _ _ hr2)) .nil)))))
end
end My8

end
section
set_option Elab.async false
set_option linter.all false
set_option maxRecDepth 100000
set_option maxHeartbeats 2000000
namespace My8
open PySem PySem.Spec PyProof.Rows L2 My
open TrM TL
theorem e_kind {K : PySem.W.Frag} : True := trivial
theorem swap_t (n o z : Str) : swap n o true z = if decide (V.str z = V.str n) = true then o else z := by unfold swap; rw [Bool.true_and]
section
variable {P : Program} {w : World} {K : PySem.W.Frag} {mg : Str → Option Value} {base : Heap}
theorem sc_with_name : FnScope ["tree", "name", "other", "bound", "kind", "target", "subject", "messages", "selector", "trees"] ["tree", "name", "other", "bound"] (defScope s_with_name) := ⟨rfl, rfl, rfl, by decide +kernel, rfl, by decide +kernel, by decide +kernel⟩
theorem ok_with {f fW fA fB : Addr} {fd fdW fdA fdB : FuncData} {m k : Nat} (F : FnP K "with_name" s_with_name f fd)
    (G_with_name : FnOk P w K mg base CX0 (k + 1) fW fdW ["tree", "name", "other", "bound"] (spWith K m)) (g_with_name : mg "with_name" = some (.ref fW)) (k_with_name : PySem.W.keepIn K (.ref fW) = true) (b_with_name : Binds K fdW ["tree", "name", "other", "bound"] [])
    (G_all_with_name : FnOk P w K mg base CX0 (k + 1) fA fdA ["trees", "name", "other", "bound"] (spAllWith K m)) (g_all_with_name : mg "all_with_name" = some (.ref fA)) (k_all_with_name : PySem.W.keepIn K (.ref fA) = true) (b_all_with_name : Binds K fdA ["trees", "name", "other", "bound"] [])
    (G_body_with_name : FnOk P w K mg base CX0 (k + 1) fB fdB ["tree", "name", "other", "bound"] (spBodyWith K m)) (g_body_with_name : mg "body_with_name" = some (.ref fB)) (k_body_with_name : PySem.W.keepIn K (.ref fB) = true) (b_body_with_name : Binds K fdB ["tree", "name", "other", "bound"] [])
    (g_tuple : mg "tuple" = none) :
    FnOk P w K mg base CX0 (k + 2) f fd ["tree", "name", "other", "bound"] (spWith K (m + 1)) := by
  refine F.ok sc_with_name (fun vs H Q E h => ?_) (fun cdv A outer s H vs Q E hr h => ⟨_, PSs.nox
    (pss_cons (ps_set (i := 4) sc_with_name.nd rfl (Or.inl rfl) (pe_ix ix_tup (pv 0) pe_int (fun _ _ => rfl)))
      (pss_cons (ps_if (pt_cmpR op_eq (pv 4) pe_str (nomark _)) (pss_one (ps_ret (pe_ifExp (PW.pt (pw_and (pt_val (pv 3)) (pw_and1 (pt_cmpR op_eq (pe_ix ix_tup (pv 0) pe_int (fun _ _ => rfl)) (pv 1) (nomark _))))) (pe_tup (pa_cons (pv 4) (pa_cons (pv 2) pa_nil))) (pv 0)))) pss_nil)
      (pss_cons (ps_if (pt_cmpR op_in_seq (pv 4) (pe_tup (pa_cons pe_str (pa_cons pe_str pa_nil))) (by rfl)) (pss_one (ps_ret (pe_call G_body_with_name (hr.mono (Nat.le_refl _)) rfl g_body_with_name k_body_with_name b_body_with_name .nil pass0 (pa_cons (pv 0) (pa_cons (pv 1) (pa_cons (pv 2) (pa_cons (pv 3) pa_nil))))))) pss_nil)
      (pss_cons (ps_if (pt_cmpR op_eq (pv 4) pe_str (nomark _)) (pss_cons (ps_set (i := 5) sc_with_name.nd rfl (Or.inl rfl) (pe_ifExp (PW.pt (pw_and (pt_val (pv 3)) (pw_and1 (pt_cmpR op_eq (pe_ix ix_tup (pv 0) pe_int (fun _ _ => rfl)) (pv 1) (nomark _))))) (pv 2) (pe_ix ix_tup (pv 0) pe_int (fun _ _ => rfl))))
      (pss_one (ps_ret (pe_tup (pa_cons (pv 4) (pa_cons (pv 5) (pa_cons (pe_call G_with_name (hr.mono (Nat.le_refl _)) rfl g_with_name k_with_name b_with_name .nil pass0 (pa_cons (pe_ix ix_tup (pv 0) pe_int (fun _ _ => rfl)) (pa_cons (pv 1) (pa_cons (pv 2) (pa_cons (pv 3) pa_nil))))) pa_nil))))))) pss_nil)
      (pss_cons (ps_if (pt_cmpR op_eq (pv 4) pe_str (nomark _)) (pss_one (ps_ret (pe_tup (pa_cons (pv 4) (pa_cons (pe_call G_with_name (hr.mono (Nat.le_refl _)) rfl g_with_name k_with_name b_with_name .nil pass0 (pa_cons (pe_ix ix_tup (pv 0) pe_int (fun _ _ => rfl)) (pa_cons (pv 1) (pa_cons (pv 2) (pa_cons (pv 3) pa_nil))))) pa_nil))))) pss_nil)
      (pss_cons (ps_if (pt_cmpR op_eq (pv 4) pe_str (nomark _)) (pss_cons (ps_set (i := 6) sc_with_name.nd rfl (Or.inl rfl) (pe_call G_with_name (hr.mono (Nat.le_refl _)) rfl g_with_name k_with_name b_with_name .nil pass0 (pa_cons (pe_ix ix_tup (pv 0) pe_int (fun _ _ => rfl)) (pa_cons (pv 1) (pa_cons (pv 2) (pa_cons (pv 3) pa_nil))))))
      (pss_one (ps_ret (pe_tup (pa_cons (pv 4) (pa_cons (pv 6) (pa_cons (pe_ix ix_tup (pv 0) pe_int (fun _ _ => rfl)) (pa_cons (pe_call G_all_with_name (hr.mono (Nat.le_refl _)) rfl g_all_with_name k_all_with_name b_all_with_name .nil pass0 (pa_cons (pe_ix ix_tup (pv 0) pe_int (fun _ _ => rfl)) (pa_cons (pv 1) (pa_cons (pv 2) (pa_cons (pv 3) pa_nil))))) pa_nil)))))))) pss_nil)
      (pss_cons (ps_if (pt_cmpR op_eq (pv 4) pe_str (nomark _)) (pss_one (ps_ret (pe_tup (pa_cons (pv 4) (pa_cons (pe_ix ix_tup (pv 0) pe_int (fun _ _ => rfl)) (pa_cons (pe_call G_all_with_name (hr.mono (Nat.le_refl _)) rfl g_all_with_name k_all_with_name b_all_with_name .nil pass0 (pa_cons (pe_ix ix_tup (pv 0) pe_int (fun _ _ => rfl)) (pa_cons (pv 1) (pa_cons (pv 2) (pa_cons (pv 3) pa_nil))))) pa_nil)))))) pss_nil)
      (pss_cons (ps_if (pt_cmpR op_eq (pv 4) pe_str (nomark _)) (pss_cons (ps_setLc (i := 7) (own := [("selector", 8), ("trees", 9)]) rfl sc_with_name.nd rfl rfl (sw_true rfl rfl rfl (by decide +kernel)) (pi_tup (pe_ix ix_tup (pv 0) pe_int (fun _ _ => rfl))) (blkOk_by (own := [("selector", 8), ("trees", 9)]) (N := ["tree", "name", "other", "bound", "kind", "target", "subject", "messages", "selector", "trees"]) (sc := defScope s_with_name) (by decide +kernel)) (fun _ _ _ _ _ => by (exact pg_tupK (K := K) (n := 2) rfl rfl (pgs_cons (pg_name (i := 8) sc_with_name.nd rfl (Or.inl rfl)) (pgs_cons (pg_name (i := 9) sc_with_name.nd rfl (Or.inl rfl)) pgs_nil)))) (fun _ _ _ _ _ => by exact pts_nil) (fun _ _ _ _ _ => by exact (pe_tup (pa_cons (pv 8) (pa_cons (pe_call G_all_with_name (hr.mono (Nat.le_refl _)) rfl g_all_with_name k_all_with_name b_all_with_name .nil pass0 (pa_cons (pv 9) (pa_cons (pv 1) (pa_cons (pv 2) (pa_cons (pv 3) pa_nil))))) pa_nil)))))
      (pss_one (ps_ret (pe_tup (pa_cons (pv 4) (pa_cons (pe_call G_with_name (hr.mono (Nat.le_refl _)) rfl g_with_name k_with_name b_with_name .nil pass0 (pa_cons (pe_ix ix_tup (pv 0) pe_int (fun _ _ => rfl)) (pa_cons (pv 1) (pa_cons (pv 2) (pa_cons (pv 3) pa_nil))))) (pa_cons (pe_callTy call_tuple_of (by rfl) g_tuple (by decide +kernel) (pa_cons (pv 7) pa_nil)) pa_nil))))))) pss_nil)
      (pss_one (ps_ret (pv 0))))))))))), ?_⟩)
  · obtain ⟨v, n, o, b, d, e, rfl, _⟩ := h
    rfl
  obtain ⟨v, n, o, b, d, e, rfl, hd, hR, hN, q⟩ := h
  have s1 : Same H H := Same.refl H
  dsimp only [tSeq, tNext]
  cases hR with
  | @leaf _ _ z r hz =>
    obtain ⟨a0, xs, rfl, hT, hA⟩ := dp_tup hd
    cases hA with | cons g0 hA1 =>
    obtain rfl := dp_str g0
    refine ⟨_, rfl, a0, _, _, _, rfl, rfl, hT, atI_nat rfl, ?_⟩
    dsimp only [tSeq, tNext]
    have hv : ∀ w : Str, w ∉ [kI, kS, kY, kA] → decide (V.str z = V.str w) = false := fun w hw => decide_eq_false fun e => hw (by injection e with e; exact e ▸ hz)
    have hv2 : ∀ w w' : Str, w ∉ [kI, kS, kY, kA] → w' ∉ [kI, kS, kY, kA] → inV (.str z) [.str w, .str w'] = false := fun w w' h1 h2 => in_two (fun e => h1 (e ▸ hz)) (fun e => h2 (e ▸ hz))
    refine if_ev (H0 := H) (b := false) (EvT.to (evt_test (e_var rfl)) (hv _ (by decide +kernel))) s1 (fun h => by cases h) (fun _ H2 s2 => ?_)
    dsimp only [tSeq, tNext]
    refine if_ev (H0 := H) (b := false) (EvT.to (evt_test (e_inv2 rfl)) (hv2 _ _ (by decide +kernel) (by decide +kernel))) s2 (fun h => by cases h) (fun _ H3 s3 => ?_)
    dsimp only [tSeq, tNext]
    refine if_ev (H0 := H) (b := false) (EvT.to (evt_test (e_var rfl)) (hv _ (by decide +kernel))) s3 (fun h => by cases h) (fun _ H4 s4 => ?_)
    dsimp only [tSeq, tNext]
    refine if_ev (H0 := H) (b := false) (EvT.to (evt_test (e_var rfl)) (hv _ (by decide +kernel))) s4 (fun h => by cases h) (fun _ H5 s5 => ?_)
    dsimp only [tSeq, tNext]
    refine if_ev (H0 := H) (b := false) (EvT.to (evt_test (e_var rfl)) (hv _ (by decide +kernel))) s5 (fun h => by cases h) (fun _ H6 s6 => ?_)
    dsimp only [tSeq, tNext]
    refine if_ev (H0 := H) (b := false) (EvT.to (evt_test (e_var rfl)) (hv _ (by decide +kernel))) s6 (fun h => by cases h) (fun _ H7 s7 => ?_)
    dsimp only [tSeq, tNext]
    refine if_ev (H0 := H) (b := false) (EvT.to (evt_test (e_var rfl)) (hv _ (by decide +kernel))) s7 (fun h => by cases h) (fun _ H8 s8 => ?_)
    dsimp only [tSeq, tNext]
    exact ⟨_, rfl, q _ _ s8 (dp_mono s8 _ _ hd)⟩
  | @var _ _ z =>
    obtain ⟨a0, xs, rfl, hT, hA⟩ := dp_tup hd
    cases hA with | cons g0 hA1 =>
    cases hA1 with | cons g1 hA2 =>
    cases hA2
    obtain rfl := dp_str g0
    obtain rfl := dp_str g1
    refine ⟨_, rfl, a0, _, _, _, rfl, rfl, hT, atI_nat rfl, ?_⟩
    dsimp only [tSeq, tNext]
    refine if_ev (H0 := H) (b := true) (EvT.to (evt_test (e_var rfl)) (by decide +kernel)) s1 (fun _ H2 s2 => ?_) (fun h => by cases h)
    refine evt_and (x := b) (y := decide (V.str z = V.str n)) (evt_test fun H' Q hs k => ⟨_, rfl, k H' hs⟩) (fun _ => evt_test fun H' Q hs k => ⟨_, rfl, _, _, _, _, rfl, rfl, SqT.mono hs hT, atI_nat rfl, _, rfl, rfl, k H' hs⟩) H2 _ s2 fun H3 s3 => ?_
    have key : ∀ y H', Same H H' → Dp K H' y (.tuple [.str kV, .str (swap n o b z)]) → Q y H' := q
    unfold swap at key
    cases hb : (b && decide (V.str z = V.str n)) with
    | true =>
      rw [hb] at key
      refine iteT ⟨_, rfl, _, rfl, (by show 2 ≤ sizeLine; decide), fun t nt => ?_⟩
      exact key _ _ (s3.trans (same_upd nt)) (Dp.tup (SqT.of upd_same) (.cons (.str _) (.cons (.str _) .nil)))
    | false =>
      rw [hb] at key
      exact iteF ⟨_, rfl, key _ _ s3 (dp_mono s3 _ _ hd)⟩
  | @set _ _ z d e hR1 =>
    obtain ⟨a0, xs, rfl, hT, hA⟩ := dp_tup hd
    cases hA with | cons g0 hA1 =>
    cases hA1 with | cons g1 hA2 =>
    cases hA2 with | cons g2 hA3 =>
    cases hA3
    obtain rfl := dp_str g0
    obtain rfl := dp_str g1
    have hN1 : NoL e := noL_tup hN _ (by simp)
    refine ⟨_, rfl, a0, _, _, _, rfl, rfl, hT, atI_nat rfl, ?_⟩
    dsimp only [tSeq, tNext]
    refine if_ev (H0 := H) (b := false) (EvT.to (evt_test (e_var rfl)) (by decide +kernel)) s1 (fun h => by cases h) (fun _ H2 s2 => ?_)
    dsimp only [tSeq, tNext]
    refine if_ev (H0 := H) (b := false) (EvT.to (evt_test (e_inv2 rfl)) (by decide +kernel)) s2 (fun h => by cases h) (fun _ H3 s3 => ?_)
    dsimp only [tSeq, tNext]
    refine if_ev (H0 := H) (b := true) (EvT.to (evt_test (e_var rfl)) (by decide +kernel)) s3 (fun _ H4 s4 => ?_) (fun h => by cases h)
    refine evt_and (x := b) (y := decide (V.str z = V.str n)) (evt_test fun H' Q hs k => ⟨_, rfl, k H' hs⟩) (fun _ => evt_test fun H' Q hs k => ⟨_, rfl, _, _, _, _, rfl, rfl, SqT.mono hs hT, atI_nat rfl, _, rfl, rfl, k H' hs⟩) H4 _ s4 fun H5 s5 => ?_
    have key : ∀ y H', Same H H' → Dp K H' y (.tuple [.str kSet, .str (swap n o b z), e]) → Q y H' := q
    have go : ∀ tg : Str, tg = swap n o b z → ∀ H5, Same H H5 → tRet (tTup (tCons (tVar 4) (tCons (tVar 5) (tCons (tCall (spWith K m) [] E0 (tCons (tOp (rIxT K) (tVar 0) (tC (.int 2))) (tCons (tVar 1) (tCons (tVar 2) (tCons (tVar 3) tNil))))) tNil)))) { nx := fun _ H' => Q .non H', rt := Q } [some (.ref a0), some (.str n), some (.str o), some (.bl b), some (.str kSet), some (.str tg), none, none, none, none] H5 := fun tg e1 H5 s5 => by
      subst e1
      refine ⟨_, rfl, _, rfl, _, rfl, _, _, _, _, rfl, rfl, SqT.mono s5 hT, atI_nat rfl, _, rfl, _, rfl, _, rfl, _, n, o, b, d, e, rfl, dp_mono s5 _ _ g2, hR1, hN1, fun y H6 s6 hy => ⟨(by show 3 ≤ sizeLine; decide), fun t nt => ?_⟩⟩
      exact key _ _ ((s5.trans s6).trans (same_upd nt)) (Dp.tup (SqT.of upd_same) (.cons (.str _) (.cons (.str _) (.cons (dp_mono (same_upd nt) _ _ hy) .nil))))
    cases hb : (b && decide (V.str z = V.str n)) with
    | true => exact iteT ⟨_, rfl, go o (by unfold swap; rw [hb]; rfl) H5 s5⟩
    | false => exact iteF ⟨_, rfl, _, _, _, _, rfl, rfl, SqT.mono s5 hT, atI_nat rfl, go z (by unfold swap; rw [hb]; rfl) H5 s5⟩
  | @ret _ _ d e hR1 =>
    obtain ⟨a0, xs, rfl, hT, hA⟩ := dp_tup hd
    cases hA with | cons g0 hA1 =>
    cases hA1 with | cons g1 hA2 =>
    cases hA2
    obtain rfl := dp_str g0
    have hN1 : NoL e := noL_tup hN _ (by simp)
    refine ⟨_, rfl, a0, _, _, _, rfl, rfl, hT, atI_nat rfl, ?_⟩
    dsimp only [tSeq, tNext]
    refine if_ev (H0 := H) (b := false) (EvT.to (evt_test (e_var rfl)) (by decide +kernel)) s1 (fun h => by cases h) (fun _ H2 s2 => ?_)
    dsimp only [tSeq, tNext]
    refine if_ev (H0 := H) (b := false) (EvT.to (evt_test (e_inv2 rfl)) (by decide +kernel)) s2 (fun h => by cases h) (fun _ H3 s3 => ?_)
    dsimp only [tSeq, tNext]
    refine if_ev (H0 := H) (b := false) (EvT.to (evt_test (e_var rfl)) (by decide +kernel)) s3 (fun h => by cases h) (fun _ H4 s4 => ?_)
    dsimp only [tSeq, tNext]
    refine if_ev (H0 := H) (b := true) (EvT.to (evt_test (e_var rfl)) (by decide +kernel)) s4 (fun _ H5 s5 => ?_) (fun h => by cases h)
    refine ⟨_, rfl, _, rfl, _, _, _, _, rfl, rfl, SqT.mono s5 hT, atI_nat rfl, _, rfl, _, rfl, _, rfl, _, n, o, b, d, e, rfl, dp_mono s5 _ _ g1, hR1, hN1, fun y H6 s6 hy => ⟨(by show 2 ≤ sizeLine; decide), fun t nt => ?_⟩⟩
    exact q _ _ ((s5.trans s6).trans (same_upd nt)) (Dp.tup (SqT.of upd_same) (.cons (.str _) (.cons (dp_mono (same_upd nt) _ _ hy) .nil)))
  | @send _ _ sl d e ds es hR1 hR2 hl =>
    obtain ⟨a0, xs, rfl, hT, hA⟩ := dp_tup hd
    cases hA with | cons g0 hA1 =>
    cases hA1 with | cons g1 hA2 =>
    cases hA2 with | cons g2 hA3 =>
    cases hA3 with | cons g3 hA4 =>
    cases hA4
    obtain rfl := dp_str g0
    obtain rfl := dp_str g2
    obtain ⟨bs, ws, rfl, hw1, hw2⟩ := dp_tup g3
    have hN1 : NoL e := noL_tup hN _ (by simp)
    have hN2 : ∀ x ∈ es, NoL x := noL_tup (noL_tup hN _ (by simp))
    refine ⟨_, rfl, a0, _, _, _, rfl, rfl, hT, atI_nat rfl, ?_⟩
    dsimp only [tSeq, tNext]
    refine if_ev (H0 := H) (b := false) (EvT.to (evt_test (e_var rfl)) (by decide +kernel)) s1 (fun h => by cases h) (fun _ H2 s2 => ?_)
    dsimp only [tSeq, tNext]
    refine if_ev (H0 := H) (b := false) (EvT.to (evt_test (e_inv2 rfl)) (by decide +kernel)) s2 (fun h => by cases h) (fun _ H3 s3 => ?_)
    dsimp only [tSeq, tNext]
    refine if_ev (H0 := H) (b := false) (EvT.to (evt_test (e_var rfl)) (by decide +kernel)) s3 (fun h => by cases h) (fun _ H4 s4 => ?_)
    dsimp only [tSeq, tNext]
    refine if_ev (H0 := H) (b := false) (EvT.to (evt_test (e_var rfl)) (by decide +kernel)) s4 (fun h => by cases h) (fun _ H5 s5 => ?_)
    dsimp only [tSeq, tNext]
    refine if_ev (H0 := H) (b := true) (EvT.to (evt_test (e_var rfl)) (by decide +kernel)) s5 (fun _ H6 s6 => ?_) (fun h => by cases h)
    refine ⟨_, rfl, _, _, _, _, rfl, rfl, SqT.mono s6 hT, atI_nat rfl, _, rfl, _, rfl, _, rfl, _, n, o, b, d, e, rfl, dp_mono s6 _ _ g1, hR1, hN1, fun y H7 s7 hy => ?_⟩
    have s67 := s6.trans s7
    dsimp only [tSeq, tNext]
    refine ⟨_, rfl, _, rfl, _, rfl, _, _, _, _, rfl, rfl, SqT.mono s67 hT, atI_nat rfl, _, rfl, _, _, _, _, rfl, rfl, SqT.mono s67 hT, atI_nat rfl, _, rfl, _, rfl, _, rfl, bs, n, o, b, ws, ds, es, rfl, SqT.mono s67 hw1, dp_monoAll s67 _ _ hw2, hR2, hN2, hl, fun r rs H8 s8 hr1 hr2 => ⟨(by show 4 ≤ sizeLine; decide), fun t nt => ?_⟩⟩
    have s9 := same_upd (o := HO.tup [.str kSend, y, .str sl, .ref r]) nt
    exact q _ _ ((s67.trans s8).trans s9) (Dp.tup (SqT.of upd_same) (.cons (.str _) (.cons (dp_mono (s8.trans s9) _ _ hy) (.cons (.str _) (.cons (Dp.tup (SqT.mono s9 hr1) (dp_monoAll s9 _ _ hr2)) .nil)))))
  | @super _ _ sl ds es hR2 hl =>
    obtain ⟨a0, xs, rfl, hT, hA⟩ := dp_tup hd
    cases hA with | cons g0 hA1 =>
    cases hA1 with | cons g1 hA2 =>
    cases hA2 with | cons g2 hA3 =>
    cases hA3
    obtain rfl := dp_str g0
    obtain rfl := dp_str g1
    obtain ⟨bs, ws, rfl, hw1, hw2⟩ := dp_tup g2
    have hN2 : ∀ x ∈ es, NoL x := noL_tup (noL_tup hN _ (by simp))
    refine ⟨_, rfl, a0, _, _, _, rfl, rfl, hT, atI_nat rfl, ?_⟩
    dsimp only [tSeq, tNext]
    refine if_ev (H0 := H) (b := false) (EvT.to (evt_test (e_var rfl)) (by decide +kernel)) s1 (fun h => by cases h) (fun _ H2 s2 => ?_)
    dsimp only [tSeq, tNext]
    refine if_ev (H0 := H) (b := false) (EvT.to (evt_test (e_inv2 rfl)) (by decide +kernel)) s2 (fun h => by cases h) (fun _ H3 s3 => ?_)
    dsimp only [tSeq, tNext]
    refine if_ev (H0 := H) (b := false) (EvT.to (evt_test (e_var rfl)) (by decide +kernel)) s3 (fun h => by cases h) (fun _ H4 s4 => ?_)
    dsimp only [tSeq, tNext]
    refine if_ev (H0 := H) (b := false) (EvT.to (evt_test (e_var rfl)) (by decide +kernel)) s4 (fun h => by cases h) (fun _ H5 s5 => ?_)
    dsimp only [tSeq, tNext]
    refine if_ev (H0 := H) (b := false) (EvT.to (evt_test (e_var rfl)) (by decide +kernel)) s5 (fun h => by cases h) (fun _ H6 s6 => ?_)
    dsimp only [tSeq, tNext]
    refine if_ev (H0 := H) (b := true) (EvT.to (evt_test (e_var rfl)) (by decide +kernel)) s6 (fun _ H7 s7 => ?_) (fun h => by cases h)
    refine ⟨_, rfl, _, rfl, _, _, _, _, rfl, rfl, SqT.mono s7 hT, atI_nat rfl, _, rfl, _, _, _, _, rfl, rfl, SqT.mono s7 hT, atI_nat rfl, _, rfl, _, rfl, _, rfl, bs, n, o, b, ws, ds, es, rfl, SqT.mono s7 hw1, dp_monoAll s7 _ _ hw2, hR2, hN2, hl, fun r rs H8 s8 hr1 hr2 => ⟨(by show 3 ≤ sizeLine; decide), fun t nt => ?_⟩⟩
    have s9 := same_upd (o := HO.tup [.str kSuper, .str sl, .ref r]) nt
    exact q _ _ ((s7.trans s8).trans s9) (Dp.tup (SqT.of upd_same) (.cons (.str _) (.cons (.str _) (.cons (Dp.tup (SqT.mono s9 hr1) (dp_monoAll s9 _ _ hr2)) .nil))))
  | @casc _ _ d e ms ns hR1 hR2 hl =>
    obtain ⟨a0, xs, rfl, hT, hA⟩ := dp_tup hd
    cases hA with | cons g0 hA1 =>
    cases hA1 with | cons g1 hA2 =>
    cases hA2 with | cons g2 hA3 =>
    cases hA3
    obtain rfl := dp_str g0
    obtain ⟨bs, ws, rfl, hw1, hw2⟩ := dp_tup g2
    have hN1 : NoL e := noL_tup hN _ (by simp)
    have hN2 : ∀ x ∈ ns.map msgD, NoL x := noL_tup (noL_tup hN _ (by simp))
    have hwl := dpAll_length hw2
    rw [List.length_map] at hwl
    have hnl := renMs_len hR2
    refine ⟨_, rfl, a0, _, _, _, rfl, rfl, hT, atI_nat rfl, ?_⟩
    dsimp only [tSeq, tNext]
    refine if_ev (H0 := H) (b := false) (EvT.to (evt_test (e_var rfl)) (by decide +kernel)) s1 (fun h => by cases h) (fun _ H2 s2 => ?_)
    dsimp only [tSeq, tNext]
    refine if_ev (H0 := H) (b := false) (EvT.to (evt_test (e_inv2 rfl)) (by decide +kernel)) s2 (fun h => by cases h) (fun _ H3 s3 => ?_)
    dsimp only [tSeq, tNext]
    refine if_ev (H0 := H) (b := false) (EvT.to (evt_test (e_var rfl)) (by decide +kernel)) s3 (fun h => by cases h) (fun _ H4 s4 => ?_)
    dsimp only [tSeq, tNext]
    refine if_ev (H0 := H) (b := false) (EvT.to (evt_test (e_var rfl)) (by decide +kernel)) s4 (fun h => by cases h) (fun _ H5 s5 => ?_)
    dsimp only [tSeq, tNext]
    refine if_ev (H0 := H) (b := false) (EvT.to (evt_test (e_var rfl)) (by decide +kernel)) s5 (fun h => by cases h) (fun _ H6 s6 => ?_)
    dsimp only [tSeq, tNext]
    refine if_ev (H0 := H) (b := false) (EvT.to (evt_test (e_var rfl)) (by decide +kernel)) s6 (fun h => by cases h) (fun _ H7 s7 => ?_)
    dsimp only [tSeq, tNext]
    refine if_ev (H0 := H) (b := true) (EvT.to (evt_test (e_var rfl)) (by decide +kernel)) s7 (fun _ H8 s8 => ?_) (fun h => by cases h)
    refine ⟨_, rfl, _, _, _, _, rfl, rfl, SqT.mono s8 hT, atI_nat rfl, bs, rfl, ⟨_, SqT.mono s8 hw1⟩, fun D nD => ?_⟩
    refine lc_rel ns (fun H y m => Dp K H y (msgD m) ∧ NoL (msgD m)) (fun _ _ _ _ s h => ⟨dp_mono s _ _ h.1, h.2⟩) (fun _ _ _ _ _ _ hp h => ⟨dp_upd hp h.2 h.1, h.2⟩) nD (SqT.mono s8 hw1) (by omega) (by omega) (fun i x mm H9 hx hmm s9 Kc R hk => ?_) (fun ys H9 s9 e9 hp => ?_)
    · obtain ⟨m0, hm1, hm2⟩ := dpAll_msg hw2 hx
      obtain ⟨es, hn1, hn2, hn3⟩ := renMs_at hR2 hm1
      rw [hmm] at hn1
      cases hn1
      obtain ⟨am, um, rfl, hTm, hum⟩ := dp_two (k := m0.1) (d := .tuple m0.2) hm2
      obtain ⟨bm, wm, rfl, hm3, hm4⟩ := dp_tup hum
      have hNm : NoL (msgD (m0.1, es)) := hN2 _ (List.mem_map_of_mem (List.mem_of_getElem? hmm))
      have hNe : ∀ x ∈ es, NoL x := noL_tup (noL_tup hNm _ (by simp))
      have s89 := s8.trans s9
      refine ⟨am, _, rfl, SqT.mono s89 hTm, rfl, _, _, rfl, _, _, rfl, rfl, rfl, tyes ?_⟩
      refine ⟨_, rfl, _, rfl, _, rfl, _, rfl, _, rfl, bm, n, o, b, wm, m0.2, es, rfl, SqT.mono s89 hm3, dp_monoAll s89 _ _ hm4, hn2, hNe, hn3, fun r rs Ha sa hr1 hr2 => ⟨(by show 2 ≤ sizeLine; decide), fun t nt => ?_⟩⟩
      have sb := same_upd (o := HO.tup [.str m0.1, .ref r]) nt
      exact hk _ _ (sa.trans sb) ⟨Dp.tup (SqT.of upd_same) (.cons (.str _) (.cons (Dp.tup (SqT.mono sb hr1) (dp_monoAll sb _ _ hr2)) .nil)), hNm⟩
    have s89 := s8.trans s9
    dsimp only [tSeq, tNext]
    refine ⟨_, rfl, _, rfl, _, _, _, _, rfl, rfl, SqT.mono s89 hT, atI_nat rfl, _, rfl, _, rfl, _, rfl, _, n, o, b, d, e, rfl, dp_mono s89 _ _ g1, hR1, hN1, fun y Ha sa hy => ?_⟩
    refine ⟨_, rfl, D, _, rfl, .inl ⟨SqL.of (sa _ _ e9), fun r nr => ⟨(by show 3 ≤ sizeLine; decide), fun t nt => ?_⟩⟩⟩
    have sr := same_upd (o := HO.tup ys) nr
    have st := same_upd (o := HO.tup [.str kCasc, y, .ref r]) nt
    exact q _ _ ((s89.trans sa).trans (sr.trans st)) (Dp.tup (SqT.of upd_same) (.cons (.str _) (.cons (dp_mono (sr.trans st) _ _ hy) (.cons (Dp.tup (SqT.mono st (SqT.of upd_same)) (dp_monoAll (sa.trans (sr.trans st)) _ _ (dpAll_msgs hp))) .nil))))
  | @block _ _ ps vs ds es hR1 h1 h2 h3 =>
    obtain ⟨a0, xs, rfl, hT, hA⟩ := dp_tup hd
    cases hA with | cons g0 hA1 =>
    obtain rfl := dp_str g0
    have hN2 : ∀ x ∈ es, NoL x := noL_tup (noL_tup hN _ (by simp))
    refine ⟨_, rfl, a0, _, _, _, rfl, rfl, hT, atI_nat rfl, ?_⟩
    dsimp only [tSeq, tNext]
    refine if_ev (H0 := H) (b := false) (EvT.to (evt_test (e_var rfl)) (by decide +kernel)) s1 (fun h => by cases h) (fun _ H2 s2 => ?_)
    dsimp only [tSeq, tNext]
    refine if_ev (H0 := H) (b := true) (EvT.to (evt_test (e_inv2 rfl)) (by decide +kernel)) s2 (fun _ H3 s3 => ?_) (fun h => by cases h)
    exact ⟨_, rfl, _, rfl, _, rfl, _, rfl, _, n, o, b, [.str kBlock], ps, vs, ds, es, rfl, dp_mono s3 _ _ hd, hR1, h1, h2, h3, (by simp), hN2, fun y H4 s4 hy => q _ _ (s3.trans s4) hy⟩
  | @meth _ _ sl ps vs ds es hR1 h1 h2 h3 =>
    obtain ⟨a0, xs, rfl, hT, hA⟩ := dp_tup hd
    cases hA with | cons g0 hA1 =>
    obtain rfl := dp_str g0
    have hN2 : ∀ x ∈ es, NoL x := noL_tup (noL_tup hN _ (by simp))
    refine ⟨_, rfl, a0, _, _, _, rfl, rfl, hT, atI_nat rfl, ?_⟩
    dsimp only [tSeq, tNext]
    refine if_ev (H0 := H) (b := false) (EvT.to (evt_test (e_var rfl)) (by decide +kernel)) s1 (fun h => by cases h) (fun _ H2 s2 => ?_)
    dsimp only [tSeq, tNext]
    refine if_ev (H0 := H) (b := true) (EvT.to (evt_test (e_inv2 rfl)) (by decide +kernel)) s2 (fun _ H3 s3 => ?_) (fun h => by cases h)
    exact ⟨_, rfl, _, rfl, _, rfl, _, rfl, _, n, o, b, [.str kMeth, .str sl], ps, vs, ds, es, rfl, dp_mono s3 _ _ hd, hR1, h1, h2, h3, (by simp), hN2, fun y H4 s4 hy => q _ _ (s3.trans s4) hy⟩
theorem with_none {f : Addr} {fd : FuncData} {k : Nat} : FnOk P w K mg base CX0 k f fd ["tree", "name", "other", "bound"] (spWith K 0) := by
  have no : ∀ vs H Q E, ¬ spWith K 0 vs H Q E := fun vs H Q E h => by
    obtain ⟨v, n, o, b, d, e, rfl, hd, hR, _⟩ := h
    cases hR
  exact ⟨fun vs H Q E h => absurd h (no vs H Q E), fun A outer s H args us vs Q E _ _ _ _ h => absurd h (no vs H Q E)⟩
theorem withs {fW fA fB fR : Addr} {fdW fdA fdB fdR : FuncData} (FW : FnP K "with_name" s_with_name fW fdW) (FA : FnP K "all_with_name" s_all_with_name fA fdA) (FB : FnP K "body_with_name" s_body_with_name fB fdB) (FR : FnP K "replaced" s_replaced fR fdR)
    (g_with_name : mg "with_name" = some (.ref fW)) (g_all_with_name : mg "all_with_name" = some (.ref fA)) (g_body_with_name : mg "body_with_name" = some (.ref fB)) (g_replaced : mg "replaced" = some (.ref fR)) (g_tuple : mg "tuple" = none) :
    ∀ n : Nat, FnOk P w K mg base CX0 (3 * n + 1) fW fdW ["tree", "name", "other", "bound"] (spWith K n) := by
  have bW : Binds K fdW ["tree", "name", "other", "bound"] [] := FW.bindsN fun _ _ _ _ _ _ us hl => match us, hl with | [_, _, _, _], _ => rfl
  have bA : Binds K fdA ["trees", "name", "other", "bound"] [] := FA.bindsN fun _ _ _ _ _ _ us hl => match us, hl with | [_, _, _, _], _ => rfl
  have bB : Binds K fdB ["tree", "name", "other", "bound"] [] := FB.bindsN fun _ _ _ _ _ _ us hl => match us, hl with | [_, _, _, _], _ => rfl
  have bR : Binds K fdR ["names", "name", "other"] [] := FR.bindsN fun _ _ _ _ _ _ us hl => match us, hl with | [_, _, _], _ => rfl
  have GR : FnOk P w K mg base CX0 1 fR fdR ["names", "name", "other"] (spReplaced K) := ok_replaced FR g_tuple
  intro n
  induction n with
  | zero => exact with_none
  | succ n ih =>
    have ha : FnOk P w K mg base CX0 (3 * n + 2) fA fdA ["trees", "name", "other", "bound"] (spAllWith K n) := ok_all_with (k := 3 * n) FA ih g_with_name FW.kp bW g_tuple
    have hb : FnOk P w K mg base CX0 (3 * n + 3) fB fdB ["tree", "name", "other", "bound"] (spBodyWith K n) := ok_body_with (k := 3 * n + 1) FB ha g_all_with_name FA.kp bA (GR.mono (by omega)) g_replaced FR.kp bR
    exact ok_with (k := 3 * n + 2) FW (ih.mono (by omega)) g_with_name FW.kp bW (ha.mono (by omega)) g_all_with_name FA.kp bA hb g_body_with_name FB.kp bB g_tuple
end
end My8

end
section
set_option Elab.async false
set_option linter.all false
set_option maxRecDepth 100000
set_option maxHeartbeats 2000000
namespace My8
open PySem PySem.Spec PyProof.Rows L2 My
open TrM TL
abbrev s_names_free : Stmt := top 45
abbrev s_selectors_of : Stmt := top 46
abbrev s_renamed : Stmt := top 47
/-- what is asked of the rows of a tree -/
structure RowsOk (d : PyData) (rows : List RowD) : Prop where
  all : Rows [(d, [], 0)] rows
  many : rows.length ≤ 3000
  bound : ∀ r ∈ rows, r.2.1.length ≤ 100000
  decl : ∀ r ∈ rows, (declR r).length ≤ 300
  sel : ∀ r ∈ rows, (selR r).length ≤ 300
theorem flat_le_of {rows : List RowD} {f : RowD → List Str} {n m : Nat} (h : ∀ r ∈ rows, (f r).length ≤ m) (hn : rows.length ≤ n) : (rows.flatMap f).length ≤ n * m := by
  induction rows generalizing n with
  | nil => simp
  | cons r rows ih =>
    rw [List.flatMap_cons, List.length_append]
    have h1 := h r List.mem_cons_self
    rw [List.length_cons] at hn
    have h2 := ih (n := n - 1) (fun x hx => h x (List.mem_cons_of_mem _ hx)) (by omega)
    have h3 : n * m = (n - 1) * m + m := by
      have : n = (n - 1) + 1 := by omega
      conv => lhs; rw [this, Nat.succ_mul]
    omega
theorem nameR_le (r : RowD) : (nameR r).length ≤ 1 := by
  unfold nameR
  split
  · split <;> simp
  · simp
theorem freeR_le (r : RowD) : (freeR r).length ≤ 1 := Nat.le_trans (List.length_filter_le _ _) (nameR_le r)
def spNF (K : PySem.W.Frag) (f : RowD → List Str) : Sp := fun vs H Q _ => ∃ (v : V) (d : PyData) (rows : List RowD), vs = [v] ∧ Dp K H v d ∧ Mt d ∧ RowsOk d rows ∧
  ∀ (p : Addr) (ys : List Str) (H' : Hp), Same H H' → H p = none → H' p = some (.lst (ys.map V.str)) → Sorted ys (rows.flatMap f) → Q (.ref p) H'
def spRenamed (K : PySem.W.Frag) : Sp := fun vs H Q _ => ∃ (v : V) (n o : Str) (d e : PyData) (rows : List RowD), vs = [v, .str n, .str o] ∧ Dp K H v d ∧ Mt d ∧ RowsOk d rows ∧ n ∈ rows.flatMap declR ∧ localB (codesOf o) = true ∧ o ∉ rows.flatMap declR ++ rows.flatMap nameR ∧ Ren n o 42 false d e ∧ NoL e ∧ ∀ y H', Same H H' → Dp K H' y e → Q y H'
section
variable {P : Program} {w : World} {K : PySem.W.Frag} {mg : Str → Option Value} {base : Heap}
theorem sc_names_free : FnScope ["tree"] ["tree"] (defScope s_names_free) := ⟨rfl, rfl, rfl, by decide +kernel, rfl, by decide +kernel, by decide +kernel⟩
theorem ok_names_free {f fC fA : Addr} {fd fdC fdA : FuncData} (F : FnP K "names_free" s_names_free f fd)
    (G_check_tree : FnOk P w K mg base CX0 125 fC fdC ["thing"] (spCheck K)) (g_check_tree : mg "check_tree" = some (.ref fC)) (k_check_tree : PySem.W.keepIn K (.ref fC) = true) (b_check_tree : Binds K fdC ["thing"] [])
    (G_free_names : FnOk P w K mg base CX0 125 fA fdA ["tree"] (spNames K freeR)) (g_free_names : mg "free_names" = some (.ref fA)) (k_free_names : PySem.W.keepIn K (.ref fA) = true) (b_free_names : Binds K fdA ["tree"] []) :
    FnOk P w K mg base CX0 126 f fd ["tree"] (spNF K freeR) := by
  refine F.ok sc_names_free (fun vs H Q E h => ?_) (fun cdv A outer s H vs Q E hr h => ⟨_, PSs.nox
    (pss_cons (ps_expr (pe_call G_check_tree (hr.mono (Nat.le_refl _)) rfl g_check_tree k_check_tree b_check_tree .nil pass0 (pa_cons (pv 0) pa_nil)))
      (pss_one (ps_ret (pe_call G_free_names (hr.mono (Nat.le_refl _)) rfl g_free_names k_free_names b_free_names .nil pass0 (pa_cons (pv 0) pa_nil))))), ?_⟩)
  · obtain ⟨v, d, rows, rfl, _⟩ := h
    rfl
  obtain ⟨v, d, rows, rfl, hd, hm, hR, q⟩ := h
  dsimp only [tSeq, tNext]
  refine ⟨_, rfl, v, d, rfl, hd, hm, fun H1 s1 => ?_⟩
  exact ⟨_, rfl, H, v, d, rows, rfl, s1, hd, hR.all, Nat.le_trans hR.many (by decide), hR.bound, fun r _ => Nat.le_trans (freeR_le r) (by decide), Nat.le_trans (flat_le_of (m := 1) (fun r _ => freeR_le r) hR.many) (by decide), fun p ys H2 s2 np e2 hs => q p ys H2 (s1.trans s2) (old_none s1 np) e2 hs⟩
theorem sc_selectors_of : FnScope ["tree"] ["tree"] (defScope s_selectors_of) := ⟨rfl, rfl, rfl, by decide +kernel, rfl, by decide +kernel, by decide +kernel⟩
theorem ok_selectors_of {f fC fA : Addr} {fd fdC fdA : FuncData} (F : FnP K "selectors_of" s_selectors_of f fd)
    (G_check_tree : FnOk P w K mg base CX0 125 fC fdC ["thing"] (spCheck K)) (g_check_tree : mg "check_tree" = some (.ref fC)) (k_check_tree : PySem.W.keepIn K (.ref fC) = true) (b_check_tree : Binds K fdC ["thing"] [])
    (G_sent_selectors : FnOk P w K mg base CX0 125 fA fdA ["tree"] (spNames K selR)) (g_sent_selectors : mg "sent_selectors" = some (.ref fA)) (k_sent_selectors : PySem.W.keepIn K (.ref fA) = true) (b_sent_selectors : Binds K fdA ["tree"] []) :
    FnOk P w K mg base CX0 126 f fd ["tree"] (spNF K selR) := by
  refine F.ok sc_selectors_of (fun vs H Q E h => ?_) (fun cdv A outer s H vs Q E hr h => ⟨_, PSs.nox
    (pss_cons (ps_expr (pe_call G_check_tree (hr.mono (Nat.le_refl _)) rfl g_check_tree k_check_tree b_check_tree .nil pass0 (pa_cons (pv 0) pa_nil)))
      (pss_one (ps_ret (pe_call G_sent_selectors (hr.mono (Nat.le_refl _)) rfl g_sent_selectors k_sent_selectors b_sent_selectors .nil pass0 (pa_cons (pv 0) pa_nil))))), ?_⟩)
  · obtain ⟨v, d, rows, rfl, _⟩ := h
    rfl
  obtain ⟨v, d, rows, rfl, hd, hm, hR, q⟩ := h
  dsimp only [tSeq, tNext]
  refine ⟨_, rfl, v, d, rfl, hd, hm, fun H1 s1 => ?_⟩
  exact ⟨_, rfl, H, v, d, rows, rfl, s1, hd, hR.all, Nat.le_trans hR.many (by decide), hR.bound, fun r hr => Nat.le_trans (hR.sel r hr) (by decide), Nat.le_trans (flat_le_of (m := 300) hR.sel hR.many) (by decide), fun p ys H2 s2 np e2 hs => q p ys H2 (s1.trans s2) (old_none s1 np) e2 hs⟩
theorem sc_renamed : FnScope ["tree", "name", "other"] ["tree", "name", "other"] (defScope s_renamed) := ⟨rfl, rfl, rfl, by decide +kernel, rfl, by decide +kernel, by decide +kernel⟩
theorem ok_renamed {f fC fD fL fN fW : Addr} {fd fdC fdD fdL fdN fdW : FuncData} (F : FnP K "renamed" s_renamed f fd)
    (G_check_tree : FnOk P w K mg base CX0 127 fC fdC ["thing"] (spCheck K)) (g_check_tree : mg "check_tree" = some (.ref fC)) (k_check_tree : PySem.W.keepIn K (.ref fC) = true) (b_check_tree : Binds K fdC ["thing"] [])
    (G_declared_names : FnOk P w K mg base CX0 127 fD fdD ["tree"] (spNames K declR)) (g_declared_names : mg "declared_names" = some (.ref fD)) (k_declared_names : PySem.W.keepIn K (.ref fD) = true) (b_declared_names : Binds K fdD ["tree"] [])
    (G_is_local_word : FnOk P w K mg base CX0 127 fL fdL ["thing"] spIsLocal) (g_is_local_word : mg "is_local_word" = some (.ref fL)) (k_is_local_word : PySem.W.keepIn K (.ref fL) = true) (b_is_local_word : Binds K fdL ["thing"] [])
    (G_named_words : FnOk P w K mg base CX0 127 fN fdN ["tree"] (fun vs H Q _ => ∃ (HB : Hp) (v : V) (d : PyData) (rows : List RowD), vs = [v] ∧ Same HB H ∧ Dp K HB v d ∧ Rows [(d, [], 0)] rows ∧ rows.length ≤ 100000 ∧ (∀ r ∈ rows, r.2.1.length ≤ 100000) ∧ (∀ r ∈ rows, (declR r).length ≤ 2000) ∧ (rows.flatMap declR ++ rows.flatMap nameR).length ≤ 1000000 ∧
      ∀ (p : Addr) (ys : List Str) (H' : Hp), Same H H' → H p = none → H' p = some (.lst (ys.map V.str)) → Sorted ys (rows.flatMap declR ++ rows.flatMap nameR) → Q (.ref p) H')) (g_named_words : mg "named_words" = some (.ref fN)) (k_named_words : PySem.W.keepIn K (.ref fN) = true) (b_named_words : Binds K fdN ["tree"] [])
    (G_with_name : FnOk P w K mg base CX0 127 fW fdW ["tree", "name", "other", "bound"] (spWith K 42)) (g_with_name : mg "with_name" = some (.ref fW)) (k_with_name : PySem.W.keepIn K (.ref fW) = true) (b_with_name : Binds K fdW ["tree", "name", "other", "bound"] []) :
    FnOk P w K mg base CX0 128 f fd ["tree", "name", "other"] (spRenamed K) := by
  refine F.ok sc_renamed (fun vs H Q E h => ?_) (fun cdv A outer s H vs Q E hr h => ⟨_, PSs.nox
    (pss_cons (ps_expr (pe_call G_check_tree (hr.mono (Nat.le_refl _)) rfl g_check_tree k_check_tree b_check_tree .nil pass0 (pa_cons (pv 0) pa_nil)))
      (pss_cons (ps_if (pt_cmpR op_notIn_seq (pv 1) (pe_call G_declared_names (hr.mono (Nat.le_refl _)) rfl g_declared_names k_declared_names b_declared_names .nil pass0 (pa_cons (pv 0) pa_nil)) (by rfl)) (pss_one ps_never) pss_nil)
      (pss_cons (ps_if (pt_not (pt_val (pe_call G_is_local_word (hr.mono (Nat.le_refl _)) rfl g_is_local_word k_is_local_word b_is_local_word .nil pass0 (pa_cons (pv 2) pa_nil)))) (pss_one ps_never) pss_nil)
      (pss_cons (ps_if (pt_cmpR op_in_seq (pv 2) (pe_call G_named_words (hr.mono (Nat.le_refl _)) rfl g_named_words k_named_words b_named_words .nil pass0 (pa_cons (pv 0) pa_nil)) (by rfl)) (pss_one ps_never) pss_nil)
      (pss_one (ps_ret (pe_call G_with_name (hr.mono (Nat.le_refl _)) rfl g_with_name k_with_name b_with_name .nil pass0 (pa_cons (pv 0) (pa_cons (pv 1) (pa_cons (pv 2) (pa_cons pe_bl pa_nil))))))))))), ?_⟩)
  · obtain ⟨v, n, o, d, e, rows, rfl, _⟩ := h
    rfl
  obtain ⟨v, n, o, d, e, rows, rfl, hd, hm, hR, hn, ho, hno, hRen, hNo, q⟩ := h
  have hdl : (rows.flatMap declR).length ≤ 900000 := flat_le_of hR.decl hR.many
  have hnl : (rows.flatMap nameR).length ≤ 3000 := flat_le_of (m := 1) (fun r _ => nameR_le r) hR.many
  have hN : Tok.IsName (codesOf o) := (nameB_iff _).mp (by unfold localB at ho; rw [Bool.and_eq_true] at ho; exact ho.1)
  have hol : o.length ≤ 100000 := Nat.le_trans (show o.length ≤ 40 from hN.le) (by decide)
  dsimp only [tSeq, tNext]
  refine ⟨_, rfl, v, d, rfl, hd, hm, fun H1 s1 => ?_⟩
  dsimp only [tSeq, tNext]
  refine if_ev (H0 := H) (b := !true) (evt_test fun H' Q hs k => ⟨_, rfl, _, rfl, H, v, d, rows, rfl, hs, hd, hR.all, Nat.le_trans hR.many (by decide), hR.bound, fun r hr => Nat.le_trans (hR.decl r hr) (by decide), Nat.le_trans hdl (by decide), fun p ys H2 s2 np e2 hso => ⟨p, _, rfl, .inl (SqL.of e2), rfl, flat_strsL _, ?_⟩⟩) s1 (fun h => by cases h) (fun _ H2 s2 => ?_)
  · have e1 : inV (.str n) (ys.map V.str) = true := by rw [inV_strs]; simpa using (hso.2.2.1 n).mpr hn
    rw [e1]
    exact k H2 (hs.trans s2)
  dsimp only [tSeq, tNext]
  refine if_ev (H0 := H) (b := !true) (evt_not (evt_b fun H' Q hs k => ⟨_, rfl, o, rfl, name_asc hN, hol, fun H3 s3 => by rw [ho]; exact k H3 (hs.trans s3)⟩)) s2 (fun h => by cases h) (fun _ H3 s3 => ?_)
  dsimp only [tSeq, tNext]
  refine if_ev (H0 := H) (b := false) (evt_test fun H' Q hs k => ⟨_, rfl, _, rfl, H, v, d, rows, rfl, hs, hd, hR.all, Nat.le_trans hR.many (by decide), hR.bound, fun r hr => Nat.le_trans (hR.decl r hr) (by decide), by rw [List.length_append]; omega, fun p ys H2 s2 np e2 hso => ⟨p, _, rfl, .inl (SqL.of e2), rfl, flat_strsL _, ?_⟩⟩) s3 (fun h => by cases h) (fun _ H4 s4 => ?_)
  · have e1 : inV (.str o) (ys.map V.str) = false := by
      rw [inV_strs]
      simpa using fun h => hno ((hso.2.2.1 o).mp h)
    rw [e1]
    exact k H2 (hs.trans s2)
  dsimp only [tSeq, tNext]
  exact ⟨_, rfl, _, rfl, _, rfl, v, n, o, false, d, e, rfl, dp_mono s4 _ _ hd, hRen, hNo, fun y H5 s5 hy => q y H5 (s4.trans s5) hy⟩
end
end My8

end
section
set_option Elab.async false
set_option linter.all false
set_option maxRecDepth 100000
set_option maxHeartbeats 2000000
namespace My8
open PySem PySem.Spec PyProof.Rows L2 My
open TrM TL
abbrev s_law_name : Stmt := top 57
abbrev s_law_text : Stmt := top 59
abbrev s_law_operator : Stmt := top 60
abbrev s_law_take8 : Stmt := top 55
/-- take(bag, many), many of any size -/
def spTakeW : Sp := fun vs H Q _ => ∃ (b : Addr) (n : Nat) (x y z m : Int), vs = [.ref b, .int m] ∧ H b = some (.lst [.int x, .int y, .int z]) ∧ BagN n x y z ∧ n < 1000000 ∧ 0 < m ∧ m < 2 ^ 220 ∧
  ∀ (r x' y' z' : Int), 0 ≤ r → r < m → BagN (n + 1) x' y' z' → Q (.int r) (upd H b (.lst [.int x', .int y', .int z']))
section
variable {P : Program} {w : World} {K : PySem.W.Frag} {mg : Str → Option Value} {base : Heap}
theorem ok_takeW {f : Addr} {fd : FuncData} (F : FnP K "_law_take" s_law_take f fd) (g_int : mg "int" = none) : FnOk P w K mg base CX0 2 f fd ["_law_bag_here", "_law_many"] spTakeW := by
  refine F.ok sc_law_take (fun vs H Q E h => ?_) (fun cdv A outer s H vs Q E hr h => ⟨_, PSs.nox
    (pss_cons (ps_if (pt_cmpR op_gt (pe_ix ix_list (pv 0) pe_int (fun _ _ => rfl)) pe_int (nomark _)) (pss_cons (ps_set (i := 2) sc_law_take.nd rfl (Or.inl rfl) (pe_op op_modN (pe_callTy call_int1 (by rfl) g_int (by decide +kernel) (pa_cons (pe_ix ix_list (pv 0) pe_int (fun _ _ => rfl)) pa_nil)) (pv 1)))
      (pss_cons (ps_asg (pe_op op_fdivW (pe_ix ix_list (pv 0) pe_int (fun _ _ => rfl)) (pv 1)) (pg_sub (pv 0) pe_int set_list))
      (pss_one (ps_ret (pv 2))))) pss_nil)
      (pss_cons (ps_asg (pe_op op_add (pe_ix ix_list (pv 0) pe_int (fun _ _ => rfl)) pe_int) (pg_sub (pv 0) pe_int set_list))
      (pss_cons (ps_set (i := 3) sc_law_take.nd rfl (Or.inl rfl) (pe_op op_add (pe_op op_mulW (pe_op op_add (pe_ix ix_list (pv 0) pe_int (fun _ _ => rfl)) pe_int) (pe_op op_add (pe_op op_mulW pe_int (pe_ix ix_list (pv 0) pe_int (fun _ _ => rfl))) pe_int)) (pe_op op_mulW (pe_op op_mulW pe_int (pe_ix ix_list (pv 0) pe_int (fun _ _ => rfl))) (pe_ix ix_list (pv 0) pe_int (fun _ _ => rfl)))))
      (pss_cons (ps_set (i := 3) sc_law_take.nd rfl (Or.inl rfl) (pe_op op_modN (pe_callTy call_int1 (by rfl) g_int (by decide +kernel) (pa_cons (pe_op op_mulW (pv 3) (pv 3)) pa_nil)) (pe_op op_add (pe_op op_pow pe_int pe_int) pe_int)))
      (pss_cons (ps_set (i := 3) sc_law_take.nd rfl (Or.inl rfl) (pe_op op_modN (pe_callTy call_int1 (by rfl) g_int (by decide +kernel) (pa_cons (pe_op op_mulW (pv 3) (pe_op op_add (pv 3) pe_int)) pa_nil)) (pe_op op_add (pe_op op_pow pe_int pe_int) pe_int)))
      (pss_one (ps_ret (pe_op op_modN (pe_callTy call_int1 (by rfl) g_int (by decide +kernel) (pa_cons (pe_op op_fdivW (pv 3) pe_int) pa_nil)) (pv 1))))))))), ?_⟩)
  · obtain ⟨b, n, x, y, z, m, rfl, _⟩ := h
    rfl
  · obtain ⟨b, n, x, y, z, m, rfl, hb, hB, hn, m0, m1, k⟩ := h
    have hm : m.natAbs < 2 ^ 220 := by omega
    have hx0 := hB.x0
    have hy0 := hB.y0
    have hz0 := hB.z0
    have hz1 := hB.z1
    refine ⟨_, rfl, _, _, _, _, rfl, rfl, SqL.of hb, rfl, _, _, rfl, rfl, _, rfl, ?_⟩
    refine ite2 (fun hx => ?_) (fun hx => ?_)
    · refine ⟨_, rfl, _, _, _, _, rfl, rfl, SqL.of hb, rfl, .inl ⟨_, rfl, _, rfl, _, _, rfl, rfl, (by omega), ?_⟩⟩
      refine ⟨_, rfl, _, _, _, _, rfl, rfl, SqL.of hb, rfl, _, rfl, _, _, rfl, rfl, wide_div m0 hm (by decide) (by decide), ?_⟩
      refine ⟨_, rfl, _, _, _, _, rfl, rfl, hb, rfl, ?_⟩
      refine ⟨_, rfl, ?_⟩
      have e1 : x / m ≤ x := Int.ediv_le_self _ hx0
      have e2 : 0 ≤ x / m := Int.ediv_nonneg hx0 (Int.le_of_lt m0)
      exact k (x.fmod m) (x / m) y z (Int.fmod_nonneg_of_pos _ m0) (Int.fmod_lt_of_pos _ m0) ⟨e2, hy0, hB.y1, hz0, by omega⟩
    · refine ⟨_, rfl, _, _, _, _, rfl, rfl, SqL.of hb, rfl, _, _, rfl, rfl, ?_⟩
      refine ⟨_, rfl, _, _, _, _, rfl, rfl, hb, rfl, ?_⟩
      have hb2 : (upd H b (.lst [.int x, .int y, .int (z + 1)])) b = some (.lst [.int x, .int y, .int (z + 1)]) := upd_same
      have bz : (z + 1).natAbs < 2 ^ 20 := by omega
      have by1 : (y + 1).natAbs < 2 ^ 135 := by
        have := hB.y1
        have e : (2 : Nat) ^ 135 = 2 ^ 134 * 2 := by decide
        omega
      have c1 : (30011 * (z + 1) : Int).natAbs < 2 ^ 40 := by omega
      have c2 : (30011 * (z + 1) + 7 : Int).natAbs < 2 ^ 41 := by omega
      have d1 : ((y + 1) * (30011 * (z + 1) + 7)).natAbs < 2 ^ (135 + 41) := wide_lt by1 c2
      have d2 : (104729 * (z + 1) : Int).natAbs < 2 ^ 40 := by omega
      have d3 : (104729 * (z + 1) * (z + 1)).natAbs < 2 ^ (40 + 20) := wide_lt d2 bz
      have d4 : ((y + 1) * (30011 * (z + 1) + 7) + 104729 * (z + 1) * (z + 1)).natAbs < 2 ^ 200 := by
        have e1 : (2 : Nat) ^ 200 = 2 ^ (135 + 41) * 2 ^ 24 := by decide
        have e2 : (2 : Nat) ^ (135 + 41) = 2 ^ (40 + 20) * 2 ^ 116 := by decide
        have e3 := Int.natAbs_add_le ((y + 1) * (30011 * (z + 1) + 7)) (104729 * (z + 1) * (z + 1))
        omega
      refine ⟨_, rfl, _, _, _, _, rfl, rfl, SqL.of hb2, rfl, _, _, rfl, rfl, ?_⟩
      refine ⟨_, rfl, _, _, _, _, rfl, rfl, SqL.of hb2, rfl, _, _, rfl, rfl, wide_mul (a := 64) (b := 20) (by decide) bz (by decide) (by decide) (by decide), _, _, rfl, rfl, ?_⟩
      refine ⟨_, _, rfl, rfl, wide_mul by1 c2 (by decide) (by decide) (by decide), ?_⟩
      refine ⟨_, rfl, _, _, _, _, rfl, rfl, SqL.of hb2, rfl, _, _, rfl, rfl, wide_mul (a := 64) (b := 20) (by decide) bz (by decide) (by decide) (by decide), ?_⟩
      refine ⟨_, rfl, _, _, _, _, rfl, rfl, SqL.of hb2, rfl, _, _, rfl, rfl, wide_mul d2 bz (by decide) (by decide) (by decide), ?_⟩
      refine ⟨_, _, rfl, rfl, ?_⟩
      refine ⟨_, rfl, _, rfl, _, _, rfl, rfl, wide_mul d4 d4 (by decide) (by decide) (by decide), .inl ⟨_, rfl, ?_⟩⟩
      refine ⟨_, _, rfl, rfl, ⟨by decide, by decide, by decide⟩, _, _, rfl, rfl, _, _, rfl, rfl, (show (10 ^ Int.toNat 41 + 37 : Int) ≠ 0 by decide), ?_⟩
      generalize hM : ((y + 1) * (30011 * (z + 1) + 7) + 104729 * (z + 1) * (z + 1)) * ((y + 1) * (30011 * (z + 1) + 7) + 104729 * (z + 1) * (z + 1)) = M
      have m2a : (M.fmod (10 ^ 41 + 37)).natAbs < 2 ^ 140 := by
        have a1 := Int.fmod_nonneg_of_pos M (b := 10 ^ 41 + 37) (by decide)
        have a2 := Int.fmod_lt_of_pos M (b := 10 ^ 41 + 37) (by decide)
        omega
      have m2b : (M.fmod (10 ^ 41 + 37) + 97).natAbs < 2 ^ 140 := by
        have a1 := Int.fmod_nonneg_of_pos M (b := 10 ^ 41 + 37) (by decide)
        have a2 := Int.fmod_lt_of_pos M (b := 10 ^ 41 + 37) (by decide)
        omega
      refine ⟨_, rfl, _, rfl, _, _, rfl, rfl, _, _, rfl, rfl, wide_mul m2a m2b (by decide) (by decide) (by decide), .inl ⟨_, rfl, ?_⟩⟩
      refine ⟨_, _, rfl, rfl, ⟨by decide, by decide, by decide⟩, _, _, rfl, rfl, _, _, rfl, rfl, (show (10 ^ Int.toNat 40 + 4323 : Int) ≠ 0 by decide), ?_⟩
      refine ⟨_, rfl, _, _, rfl, rfl, wide_div (b := 20) (by decide) (by decide) (by decide) (by decide), .inl ⟨_, rfl, _, rfl, _, _, rfl, rfl, (by omega), ?_⟩⟩
      exact k _ x y (z + 1) (Int.fmod_nonneg_of_pos _ m0) (Int.fmod_lt_of_pos _ m0) ⟨hx0, hy0, hB.y1, by omega, by omega⟩
theorem spick_str {H : Hp} {b : Addr} {n : Nat} {t : Str} {Q : VK} {E : XK} (hb : BagAt H b n) (hn : n < 1000000) (h0 : 0 < (codesOf t).length) (h1 : (codesOf t).length < 1000000)
    (q : ∀ c H', c ∈ codesOf t → Went b (n + 1) H H' → Q (.str ⟨#[c]⟩) H') : spPick K [.ref b, .str t] H Q E := by
  obtain ⟨x, y, z, hbb, hB⟩ := hb
  exact ⟨b, n, x, y, z, hbb, hB, hn, .inr ⟨t, rfl, h0, h1, fun i c x' y' z' hc hB' => q c _ (List.mem_of_getElem? hc) ⟨⟨x', y', z', upd_same, hB'⟩, fun a o d e => by rw [upd_ne d]; exact e⟩⟩⟩
theorem call_pick {σ : L2.St} {H : Hp} {Q : VK} {b : Addr} {i : Nat} {te : TE} (hi : σ[i]? = some (some (.ref b))) (h : te σ H (fun v H1 => spPick K [.ref b, v] H1 Q E0)) : tCall (spPick K) [] E0 (tCons (tVar i) (tCons te tNil)) σ H Q := ⟨_, hi, h⟩

theorem call_pickS {σ : L2.St} {H : Hp} {Q : VK} {b : Addr} {n i : Nat} {t : Str} (hi : σ[i]? = some (some (.ref b))) (hb : BagAt H b n) (hn : n < 1000000) (h0 : 0 < (codesOf t).length) (h1 : (codesOf t).length < 1000000)
    (q : ∀ c H', c ∈ codesOf t → Went b (n + 1) H H' → Q (.str ⟨#[c]⟩) H') : tCall (spPick K) [] E0 (tCons (tVar i) (tCons (tC (.str t)) tNil)) σ H Q := ⟨_, hi, spick_str (E := E0) hb hn h0 h1 q⟩
theorem took {σ : L2.St} {H : Hp} {Q : VK} {b : Addr} {n i : Nat} {m : Int} {te : TE} (hi : σ[i]? = some (some (.ref b))) (hb : BagAt H b n) (hn : n < 1000000) (h0 : 0 < m) (h1 : m < 2 ^ 220) (he : ∀ (Q : VK), Q (.int m) H → te σ H Q) (q : ∀ (r : Int) H', 0 ≤ r → r < m → Went b (n + 1) H H' → Q (.int r) H') : tCall spTakeW [] E0 (tCons (tVar i) (tCons te tNil)) σ H Q := by
  obtain ⟨x, y, z, hb0, hB⟩ := hb
  exact ⟨_, hi, he _ ⟨b, n, x, y, z, m, rfl, hb0, hB, hn, h0, h1, fun r x' y' z' r0 r1 hB' => q r _ r0 r1 ⟨⟨x', y', z', upd_same, hB'⟩, fun a o c e => by rw [upd_ne c]; exact e⟩⟩⟩
def anums : Str := "abcdefghijklmnopqrstuvwxyzABCDEFGHIJKLMNOPQRSTUVWXYZ0123456789"
theorem anums_an : ∀ c ∈ codesOf anums, Tok.isAn c = true := by decide +kernel
theorem anums_len : (codesOf anums).length = 62 := by decide +kernel
theorem codes_one (c : Nat) : codesOf (⟨#[c]⟩ : Str) = [c] := rfl
def dsSize : List PyData := [.int 0, .int 0, .int 0, .int 1, .int 1, .int 2, .int 5, .int 39]
theorem size_ok {d : PyData} (h : d ∈ dsSize) : ∃ n : Int, d = .int n ∧ 0 ≤ n ∧ n ≤ 39 := by
  unfold dsSize at h
  simp only [List.mem_cons, List.not_mem_nil, or_false] at h
  rcases h with h | h | h | h | h | h | h | h <;> subst h
  all_goals exact ⟨_, rfl, by decide, by decide⟩
/-- name(bag, letters) -/
def spName : Sp := fun vs H Q _ => ∃ (b : Addr) (n : Nat) (ls : Str), vs = [.ref b, .str ls] ∧ BagAt H b n ∧ n < 950000 ∧ 0 < (codesOf ls).length ∧ (codesOf ls).length < 1000 ∧ (∀ c ∈ codesOf ls, Tok.isAl c = true) ∧ ∀ (z : Str) (m : Nat) (H' : Hp), Tok.IsName (codesOf z) → (∃ c r, codesOf z = c :: r ∧ c ∈ codesOf ls) → m ≤ n + 41 → Went b m H H' → Q (.str z) H'
theorem sc_law_name : FnScope ["_law_bag_here", "_law_letters", "_law_size", "_law_label", "_law_turn"] ["_law_bag_here", "_law_letters"] (defScope s_law_name) := ⟨rfl, rfl, rfl, by decide +kernel, rfl, by decide +kernel, by decide +kernel⟩
theorem ok_name {f fK : Addr} {fd fdK : FuncData} (F : FnP K "_law_name" s_law_name f fd) (G_law_pick : FnOk P w K mg base CX0 3 fK fdK ["_law_bag_here", "_law_things"] (spPick K)) (g_law_pick : mg "_law_pick" = some (.ref fK)) (k_law_pick : PySem.W.keepIn K (.ref fK) = true) (b_law_pick : Binds K fdK ["_law_bag_here", "_law_things"] []) (g_range : mg "range" = none) :
    FnOk P w K mg base CX0 4 f fd ["_law_bag_here", "_law_letters"] spName := by
  refine F.ok sc_law_name (fun vs H Q E h => ?_) (fun cdv A outer s H vs Q E hr h => ⟨_, PSs.nox
    (pss_cons (ps_set (i := 2) sc_law_name.nd rfl (Or.inl rfl) (pe_call G_law_pick (hr.mono (by decide)) rfl g_law_pick k_law_pick b_law_pick .nil pass0 (pa_cons (pv 0) (pa_cons (pe_lst (pa_cons pe_int (pa_cons pe_int (pa_cons pe_int (pa_cons pe_int (pa_cons pe_int (pa_cons pe_int (pa_cons pe_int (pa_cons pe_int pa_nil))))))))) pa_nil))))
      (pss_cons (ps_set (i := 3) sc_law_name.nd rfl (Or.inl rfl) (pe_call G_law_pick (hr.mono (by decide)) rfl g_law_pick k_law_pick b_law_pick .nil pass0 (pa_cons (pv 0) (pa_cons (pv 1) pa_nil))))
      (pss_cons (ps_for PassesOwn.never rfl (pi_range1 (by rfl) g_range (pa_cons (pv 2) pa_nil)) (pg_name (i := 4) sc_law_name.nd rfl (Or.inl rfl)) (pss_one (ps_set (i := 3) sc_law_name.nd rfl (Or.inl rfl) (pe_op op_addS (pv 3) (pe_call G_law_pick (hr.mono (by decide)) rfl g_law_pick k_law_pick b_law_pick .nil pass0 (pa_cons (pv 0) (pa_cons pe_str pa_nil)))))))
      (pss_one (ps_ret (pv 3)))))), ?_⟩)
  · obtain ⟨b, n, ls, rfl, _⟩ := h
    rfl
  · obtain ⟨b, n, ls, rfl, hb, hn, hl0, hl1, hal, q⟩ := h
    refine pick_lst (K := K) (ds := dsSize) rfl hb (by omega) ?e1 (by decide) (by decide) fun d v D H1 hd hv hD W1 => ?_
    case e1 => (repeat' (first | exact evds_nil | exact evd_int | exact evd_str | refine evds_cons ?_ ?_))
    obtain ⟨k, rfl, k0, k1⟩ := size_ok hd
    cases hv
    have l2 := anums_len
    refine ⟨_, rfl, _, rfl, spick_str (E := E0) W1.bag (by omega) hl0 (by omega) fun c H2 hc W2 => ?_⟩
    have hcl := hc
    have hc := hal c hc
    refine ⟨_, rfl, _, rfl, by omega, by omega, for_range (lo := 0) (fun i σ H' => ∃ (z : Str) (v : Option V), σ = [some (.ref b), some (.str ls), some (.int k), some (.str z), v] ∧ (codesOf z).length = i + 1 ∧ Tok.IsName (codesOf z) ∧ (∃ c r, codesOf z = c :: r ∧ c ∈ codesOf ls) ∧ Went b (n + 2 + i) H H') ⟨_, none, rfl, rfl, ⟨⟨c, [], rfl, hc⟩, by rw [codes_one]; simp [Tok.isAn, hc], by rw [codes_one]; exact (by decide : 1 ≤ 40)⟩, ⟨c, [], rfl, hcl⟩, W1.trans W2⟩ ?turn ?last⟩
    case turn =>
      rintro i σ H3 hi ⟨z, v, rfl, hl, hz, ⟨c1, r1, e1, hc1⟩, W⟩
      have hi2 : i < 39 := by omega
      have hzl : z.length = i + 1 := hl
      refine ⟨_, rfl, call_pickS (K := K) (t := anums) rfl W.bag (by omega) (by omega) (by omega) fun c H4 hc W4 => ?_⟩
      have hc := anums_an c hc
      refine ⟨_, _, rfl, rfl, ?_, _, _, rfl, ?_, ⟨?_, ?_, ?_⟩, ⟨c1, r1 ++ [c], by rw [codes_app, codes_one, e1]; rfl, hc1⟩, W.trans W4⟩
      · rw [hzl]; exact Nat.le_trans (show i + 1 + 1 ≤ 100 by omega) (by decide)
      · rw [codes_app, codes_one, List.length_append, hl]; rfl
      · obtain ⟨c0, r, e, h0⟩ := hz.al
        exact ⟨c0, r ++ [c], by rw [codes_app, codes_one, e]; rfl, h0⟩
      · rw [codes_app, codes_one, List.all_append, hz.an]; simp [hc]
      · rw [codes_app, codes_one, List.length_append, hl]; simp; omega
    case last =>
      rintro σ H3 ⟨z, v, rfl, hl, hz, hz2, W⟩
      exact ⟨_, rfl, q z _ H3 hz hz2 (by omega) W⟩
def signs1 : Str := " !\"#$&'()*+,-./0123456789:;<=>?@ABCDEFGHIJKLMNOPQRSTUVWXYZ[\\]^_`"
def signsA : Str := signs1 ++ "abcdefghijklmnopqrstuvwxyz{|}~\n'"
theorem signs_ok : ∀ c ∈ codesOf signsA, Tok.okc c = true := by decide +kernel
theorem signs_len : (codesOf signsA).length = 96 := by decide +kernel
def dsText : List PyData := [.int 0, .int 1, .int 1, .int 2, .int 3, .int 8]
theorem dstext_ok {d : PyData} (h : d ∈ dsText) : ∃ n : Int, d = .int n ∧ 0 ≤ n ∧ n ≤ 8 := by
  unfold dsText at h
  simp only [List.mem_cons, List.not_mem_nil, or_false] at h
  rcases h with h | h | h | h | h | h <;> subst h
  all_goals exact ⟨_, rfl, by decide, by decide⟩
theorem went_upd {b D : Addr} {n : Nat} {H H' : Hp} {o : HO} (w : Went b n H H') (hD : H D = none) (hb : D ≠ b) : Went b n H (upd H' D o) := by
  obtain ⟨x, y, z, h, hB⟩ := w.bag
  exact ⟨⟨x, y, z, by rw [upd_ne (Ne.symm hb)]; exact h, hB⟩, fun a u c e => by
    have : a ≠ D := fun q => by rw [q, hD] at e; cases e
    rw [upd_ne this]
    exact w.rest a u c e⟩
theorem bag_ne {b D : Addr} {n : Nat} {H : Hp} (h : BagAt H b n) (hD : H D = none) : D ≠ b := fun e => by
  obtain ⟨x, y, z, hb, _⟩ := h
  rw [e, hb] at hD
  cases hD
/-- text(bag) -/
def spLText : Sp := fun vs H Q _ => ∃ (b : Addr) (n : Nat), vs = [.ref b] ∧ BagAt H b n ∧ n < 950000 ∧ ∀ (z : Str) (m : Nat) (H' : Hp), (codesOf z).all Tok.okc = true → (codesOf z).length ≤ 8 → m ≤ n + 9 → Went b m H H' → Q (.str z) H'
theorem sc_law_text : FnScope ["_law_bag_here", "_law_signs", "_law_turn"] ["_law_bag_here"] (defScope s_law_text) := ⟨rfl, rfl, rfl, by decide +kernel, rfl, by decide +kernel, by decide +kernel⟩
theorem ok_text {f fK : Addr} {fd fdK : FuncData} (F : FnP K "_law_text" s_law_text f fd) (G_law_pick : FnOk P w K mg base CX0 3 fK fdK ["_law_bag_here", "_law_things"] (spPick K)) (g_law_pick : mg "_law_pick" = some (.ref fK)) (k_law_pick : PySem.W.keepIn K (.ref fK) = true) (b_law_pick : Binds K fdK ["_law_bag_here", "_law_things"] []) (g_range : mg "range" = none) :
    FnOk P w K mg base CX0 4 f fd ["_law_bag_here"] spLText := by
  refine F.ok sc_law_text (fun vs H Q E h => ?_) (fun cdv A outer s H vs Q E hr h => ⟨_, PSs.nox
    (pss_cons (ps_set (i := 1) sc_law_text.nd rfl (Or.inr rfl) pe_str)
      (pss_cons (ps_set (i := 1) sc_law_text.nd rfl (Or.inr rfl) (pe_op op_addS (pv 1) pe_str))
      (pss_one (ps_ret (pe_join pe_str (pe_lc (own := [("_law_turn", 2)]) rfl sc_law_text.nd (pi_range1 (by rfl) g_range (pa_cons (pe_call G_law_pick (hr.mono (by decide)) rfl g_law_pick k_law_pick b_law_pick .nil pass0 (pa_cons (pv 0) (pa_cons (pe_lst (pa_cons pe_int (pa_cons pe_int (pa_cons pe_int (pa_cons pe_int (pa_cons pe_int (pa_cons pe_int pa_nil))))))) pa_nil))) pa_nil)) (blkOk_by (own := [("_law_turn", 2)]) (N := ["_law_bag_here", "_law_signs", "_law_turn"]) (sc := defScope s_law_text) (by decide +kernel)) (fun _ _ _ _ _ => by (exact (pg_name (i := 2) sc_law_text.nd rfl (Or.inl rfl)))) (fun _ _ _ _ _ => by exact pts_nil) (fun _ _ _ _ _ => by exact (pe_call G_law_pick (hr.mono (by decide)) rfl g_law_pick k_law_pick b_law_pick .nil pass0 (pa_cons (pv 0) (pa_cons (pv 1) pa_nil)))))))))), ?_⟩)
  · obtain ⟨b, n, rfl, _⟩ := h
    rfl
  · obtain ⟨b, n, rfl, hb, hn, q⟩ := h
    have sl := signs_len
    refine ⟨_, rfl, _, _, rfl, rfl, (by decide +kernel), ⟨_, rfl⟩, ?_⟩
    refine pick_lst (K := K) (ds := dsText) rfl hb (by omega) ?e1 (by decide) (by decide) fun d v D H1 hd hv hD W1 => ?_
    case e1 => (repeat' (first | exact evds_nil | exact evd_int | exact evd_str | refine evds_cons ?_ ?_))
    obtain ⟨k, rfl, k0, k1⟩ := dstext_ok hd
    cases hv
    refine ⟨_, rfl, by omega, by omega, fun L nL => ?_⟩
    have hLb := bag_ne W1.bag nL
    have nL0 : H L = none := W1.free nL
    refine lc_range (lo := 0) (fun i H' => ∃ cs : List Nat, H' L = some (.lst ((cs.map one).map V.str)) ∧ cs.length = i ∧ cs.all Tok.okc = true ∧ Went b (n + 1 + i) H H') ⟨[], upd_same, rfl, rfl, went_upd W1 nL0 hLb⟩ ?turn ?last
    case turn =>
      rintro i H2 hi ⟨cs, hL, hl, ha, W⟩
      refine ⟨rfl, tyes ?_⟩
      refine call_pick (K := K) rfl ⟨_, rfl, ?_⟩
      refine spick_str (E := E0) W.bag (by omega) (by show 0 < (codesOf signsA).length; omega) (by show (codesOf signsA).length < _; omega) fun c H4 hc W4 => ?_
      have hc := signs_ok c hc
      refine ⟨_, W4.rest _ _ hLb hL, ?_, cs ++ [c], ?_, by simp [hl], by rw [List.all_append, ha]; simp [hc], went_upd (W.trans W4) nL0 hLb⟩
      · rw [List.length_map, List.length_map, hl]; exact Nat.lt_of_lt_of_le (show i < 100 by omega) (by decide)
      · rw [upd_same, List.map_append, List.map_append]; rfl
    case last =>
      rintro H2 ⟨cs, hL, hl, ha, W⟩
      have l0 : (Str.ofString "").length = 0 := by decide +kernel
      refine ⟨_, L, cs.map one, rfl, rfl, .inl (SqL.of hL), ?_, ?_⟩
      · rw [sum_ones, l0, hl]; omega
      · have e : codesOf (Txt.join (Str.ofString "") (cs.map one)) = cs := by rw [codes_join, codes_ones]
        exact q _ _ H2 (by rw [e]; exact ha) (by rw [e, hl]; omega) (by omega) W
def dsOp : List PyData := [.str "+", .str "-", .str "*", .str "//", .str "\\\\", .str "<", .str ">", .str "<=", .str ">=", .str "=", .str "==", .str "~=", .str "~~", .str ","]
theorem op_ok {d : PyData} (h : d ∈ dsOp) : ∃ z : Str, d = .str z ∧ codesOf z ∈ Tok.ops := by
  unfold dsOp at h
  simp only [List.mem_cons, List.not_mem_nil, or_false] at h
  rcases h with h | h | h | h | h | h | h | h | h | h | h | h | h | h <;> subst h
  all_goals exact ⟨_, rfl, by decide +kernel⟩
/-- operator(bag) -/
def spOper : Sp := fun vs H Q _ => ∃ (b : Addr) (n : Nat), vs = [.ref b] ∧ BagAt H b n ∧ n < 950000 ∧ ∀ (z : Str) (H' : Hp), codesOf z ∈ Tok.ops → Went b (n + 1) H H' → Q (.str z) H'
theorem sc_law_operator : FnScope ["_law_bag_here"] ["_law_bag_here"] (defScope s_law_operator) := ⟨rfl, rfl, rfl, by decide +kernel, rfl, by decide +kernel, by decide +kernel⟩
theorem ok_operator {f fK : Addr} {fd fdK : FuncData} (F : FnP K "_law_operator" s_law_operator f fd) (G_law_pick : FnOk P w K mg base CX0 3 fK fdK ["_law_bag_here", "_law_things"] (spPick K)) (g_law_pick : mg "_law_pick" = some (.ref fK)) (k_law_pick : PySem.W.keepIn K (.ref fK) = true) (b_law_pick : Binds K fdK ["_law_bag_here", "_law_things"] []) :
    FnOk P w K mg base CX0 4 f fd ["_law_bag_here"] spOper := by
  refine F.ok sc_law_operator (fun vs H Q E h => ?_) (fun cdv A outer s H vs Q E hr h => ⟨_, PSs.nox
    (pss_one (ps_ret (pe_call G_law_pick (hr.mono (by decide)) rfl g_law_pick k_law_pick b_law_pick .nil pass0 (pa_cons (pv 0) (pa_cons (pe_lst (pa_cons pe_str (pa_cons pe_str (pa_cons pe_str (pa_cons pe_str (pa_cons pe_str (pa_cons pe_str (pa_cons pe_str (pa_cons pe_str (pa_cons pe_str (pa_cons pe_str (pa_cons pe_str (pa_cons pe_str (pa_cons pe_str (pa_cons pe_str pa_nil))))))))))))))) pa_nil))))), ?_⟩)
  · obtain ⟨b, n, rfl, _⟩ := h
    rfl
  · obtain ⟨b, n, rfl, hb, hn, q⟩ := h
    refine pick_lst (K := K) (ds := dsOp) rfl hb (by omega) ?e1 (by decide) (by decide) fun d v D H1 hd hv hD W1 => ?_
    case e1 => (repeat' (first | exact evds_nil | exact evd_int | exact evd_str | refine evds_cons ?_ ?_))
    obtain ⟨z, rfl, hz⟩ := op_ok hd
    cases hv
    exact q z H1 hz W1
end
end My8

end
section
set_option Elab.async false
set_option linter.all false
set_option maxRecDepth 100000
set_option maxHeartbeats 2000000
namespace My8
open PySem PySem.Spec PyProof.Rows L2 My
open TrM TL
abbrev s_law_pool : Stmt := top 58
abbrev s_law_selector : Stmt := top 61
abbrev s_law_integer : Stmt := top 62
abbrev s_law_symbol : Stmt := top 63
theorem op_in_seqK {X : Cx} {K : PySem.W.Frag} (hK : X.K = K) : OpR X (compareOp .In) (rIn K false) := by subst hK; exact op_in_seq
theorem op_notIn_seqK {X : Cx} {K : PySem.W.Frag} (hK : X.K = K) : OpR X (compareOp .NotIn) (rIn K true) := by subst hK; exact op_notIn_seq
theorem nd_sub {l m : List Str} (h : l.Nodup) (hs : ∀ x ∈ l, x ∈ m) : l.length ≤ m.length := by
  induction l generalizing m with
  | nil => exact Nat.zero_le _
  | cons x l ih =>
    rw [List.nodup_cons] at h
    have hx := hs x List.mem_cons_self
    have h2 := ih (m := m.erase x) h.2 fun y hy => (List.mem_erase_of_ne (fun e => h.1 (by rw [← e]; exact hy))).mpr (hs y (List.mem_cons_of_mem _ hy))
    rw [List.length_erase_of_mem hx] at h2
    have : 0 < m.length := List.length_pos_of_mem hx
    rw [List.length_cons]
    omega
def lower26 : Str := "abcdefghijklmnopqrstuvwxyz"
theorem lower_lo : ∀ c ∈ codesOf lower26, isLo c = true ∧ Tok.isAl c = true := by decide +kernel
theorem lower_len : (codesOf lower26).length = 26 := by decide +kernel
def all52 : Str := "abcdefghijklmnopqrstuvwxyzABCDEFGHIJKLMNOPQRSTUVWXYZ"
theorem all52_al : ∀ c ∈ codesOf all52, Tok.isAl c = true := by decide +kernel
theorem all52_len : (codesOf all52).length = 52 := by decide +kernel
def vees : List Str := ["v", "v1", "v2", "v3", "v4"]
theorem vees_nd : vees.Nodup := by decide +kernel
theorem vees_lo : ∀ z ∈ vees, localB (codesOf z) = true := by decide +kernel
theorem fiveS : [V.str "self", .str "super", .str "nil", .str "true", .str "false"] = five.map fun x => V.str (My.strOf x) := by
  have e1 : (Str.ofString "self") = My.strOf [115, 101, 108, 102] := by decide +kernel
  have e2 : (Str.ofString "super") = My.strOf [115, 117, 112, 101, 114] := by decide +kernel
  have e3 : (Str.ofString "nil") = My.strOf [110, 105, 108] := by decide +kernel
  have e4 : (Str.ofString "true") = My.strOf [116, 114, 117, 101] := by decide +kernel
  have e5 : (Str.ofString "false") = My.strOf [102, 97, 108, 115, 101] := by decide +kernel
  rw [e1, e2, e3, e4, e5]
  rfl
theorem local_of {z : Str} (h : Tok.IsName (codesOf z)) (h2 : ∃ c r, codesOf z = c :: r ∧ isLo c = true) (h3 : five.contains (codesOf z) = false) : localB (codesOf z) = true := by
  obtain ⟨c, r, e, hc⟩ := h2
  unfold localB
  rw [(nameB_iff _).mpr h, h3, e]
  show (true && (isLo c && !false)) = true
  rw [hc]
  rfl
theorem went_new {b D : Addr} {n : Nat} {H H' : Hp} {o : HO} (w : Went b n H H') (hD : H' D = none) : Went b n H (upd H' D o) := went_upd w (w.free hD) (bag_ne w.bag hD)
/-- pool(bag): four names -/
def spPool : Sp := fun vs H Q _ => ∃ (b : Addr) (n : Nat), vs = [.ref b] ∧ BagAt H b n ∧ n < 900000 ∧ ∀ (p : Addr) (ns : List Str) (m : Nat) (H' : Hp), H p = none → H' p = some (.lst (ns.map V.str)) → ns.length = 4 → ns.Nodup → (∀ z ∈ ns, localB (codesOf z) = true) → m ≤ n + 164 → Went b m H H' → Q (.ref p) H'
section
variable {P : Program} {w : World} {K : PySem.W.Frag} {mg : Str → Option Value} {base : Heap}
theorem sc_law_pool : FnScope ["_law_bag_here", "_law_names", "_law_turn", "_law_label", "_law_one"] ["_law_bag_here"] (defScope s_law_pool) := ⟨rfl, rfl, rfl, by decide +kernel, rfl, by decide +kernel, by decide +kernel⟩
theorem ok_pool {f fN : Addr} {fd fdN : FuncData} (F : FnP K "_law_pool" s_law_pool f fd) (G_law_name : FnOk P w K mg base CX0 4 fN fdN ["_law_bag_here", "_law_letters"] spName) (g_law_name : mg "_law_name" = some (.ref fN)) (k_law_name : PySem.W.keepIn K (.ref fN) = true) (b_law_name : Binds K fdN ["_law_bag_here", "_law_letters"] []) (g_range : mg "range" = none) :
    FnOk P w K mg base CX0 5 f fd ["_law_bag_here"] spPool := by
  refine F.ok sc_law_pool (fun vs H Q E h => ?_) (fun cdv A outer s H vs Q E hr h => ⟨_, PSs.nox
    (pss_cons (ps_set (i := 1) sc_law_pool.nd rfl (Or.inr rfl) (pe_lst pa_nil))
      (pss_cons (ps_for PassesOwn.never rfl (pi_range1 (by rfl) g_range (pa_cons pe_int pa_nil)) (pg_name (i := 2) sc_law_pool.nd rfl (Or.inl rfl)) (pss_cons (ps_set (i := 3) sc_law_pool.nd rfl (Or.inl rfl) (pe_call G_law_name (hr.mono (by decide)) rfl g_law_name k_law_name b_law_name .nil pass0 (pa_cons (pv 0) (pa_cons pe_str pa_nil))))
      (pss_cons (ps_if (PW.pt (pw_or (pt_cmpR op_in_seq (pv 3) (pv 1) (by rfl)) (pw_or1 (pt_cmpR op_in_seq (pv 3) (pe_tup (pa_cons pe_str (pa_cons pe_str (pa_cons pe_str (pa_cons pe_str (pa_cons pe_str pa_nil)))))) (by rfl))))) (pss_one (ps_set (i := 3) sc_law_pool.nd rfl (Or.inl rfl) (pe_ix ix_list (pe_lc (own := [("_law_one", 4)]) rfl sc_law_pool.nd (pi_list (pe_lst (pa_cons pe_str (pa_cons pe_str (pa_cons pe_str (pa_cons pe_str (pa_cons pe_str pa_nil))))))) (blkOk_by (own := [("_law_one", 4)]) (N := ["_law_bag_here", "_law_names", "_law_turn", "_law_label", "_law_one"]) (sc := defScope s_law_pool) (by decide +kernel)) (fun _ _ _ _ _ => by (exact (pg_name (i := 4) sc_law_pool.nd rfl (Or.inl rfl)))) (fun _ _ _ _ _ => by exact (pts_one (pt_cmpR (op_notIn_seqK (K := K) rfl) (pv 4) (pv 1) (by rfl)))) (fun _ _ _ _ _ => by exact (pv 4))) pe_int (fun _ _ => rfl)))) pss_nil)
      (pss_one (ps_expr (pe_bm PySem.F.plainAttrs_list PySem.F.slot_list_append PySem.F.type_list_append mt_append (pv 1) (pa_cons (pv 3) pa_nil)))))))
      (pss_one (ps_ret (pv 1))))), ?_⟩)
  · obtain ⟨b, n, rfl, _⟩ := h
    rfl
  obtain ⟨b, n, rfl, hb, hn, q⟩ := h
  have ll := lower_len
  dsimp only [tSeq, tNext]
  refine ⟨(by show 0 ≤ sizeLine; decide), fun p np => ?_⟩
  have W0 : Went b n H (upd H p (.lst [])) := went_new (Went.of hb (Same.refl H)) np
  have hp0 : (upd H p (.lst [])) p = some (.lst (([] : List Str).map V.str)) := upd_same
  generalize upd H p (.lst []) = H1 at W0 hp0 ⊢
  have hpb : p ≠ b := fun e => by obtain ⟨x, y, z, h1, _⟩ := hb; rw [e, h1] at np; cases np
  refine ⟨4, rfl, by decide, by decide, for_range (lo := 0) (fun i σ H' => ∃ (ns : List Str) (m : Nat) (x2 x3 x4 : Option V), σ = [some (.ref b), some (.ref p), x2, x3, x4] ∧ H' p = some (.lst (ns.map V.str)) ∧ ns.length = i ∧ ns.Nodup ∧ (∀ z ∈ ns, localB (codesOf z) = true) ∧ m ≤ n + 41 * i ∧ Went b m H H') ⟨[], n, _, _, _, rfl, hp0, rfl, List.nodup_nil, (fun z hz => by cases hz), by omega, W0⟩ ?turn ?last⟩
  case last =>
    rintro σ H' ⟨ns, m, x2, x3, x4, rfl, hp, hl, hnd, hlo, hm, W⟩
    exact ⟨_, rfl, q p ns m H' np hp hl hnd hlo (by simp at hm; omega) W⟩
  case turn =>
    rintro i σ H2 hi ⟨ns, m, x2, x3, x4, rfl, hp, hl, hnd, hlo, hm, W⟩
    have hi : i < 4 := hi
    dsimp only [tSeq, tNext]
    refine ⟨_, rfl, b, m, lower26, rfl, W.bag, by omega, by omega, by omega, fun c hc => (lower_lo c hc).2, fun z m2 H3 hz hz2 hm2 W3 => ?_⟩
    have W3' := W.trans W3
    have hp3 := W3.rest p _ hpb hp
    have hzl : ∃ c r, codesOf z = c :: r ∧ isLo c = true := by
      obtain ⟨c, r, e, hc⟩ := hz2
      exact ⟨c, r, e, (lower_lo c hc).1⟩
    dsimp only [tSeq, tNext]
    have put : ∀ (y : Str) (x2' x4' : Option V) (H4 : Hp), localB (codesOf y) = true → y ∉ ns → H4 p = some (.lst (ns.map V.str)) → Went b m2 H H4 →
        ∃ (ns' : List Str) (m : Nat) (x2 x3 x4 : Option V), [some (.ref b), some (.ref p), x2', some (.str y), x4'] = [some (.ref b), some (.ref p), x2, x3, x4] ∧ (upd H4 p (.lst (ns.map V.str ++ [.str y]))) p = some (.lst (ns'.map V.str)) ∧ ns'.length = i + 1 ∧ ns'.Nodup ∧ (∀ z ∈ ns', localB (codesOf z) = true) ∧ m ≤ n + 41 * (i + 1) ∧ Went b m H (upd H4 p (.lst (ns.map V.str ++ [.str y]))) := fun y x2' x4' H4 hy hny hp4 W4 => by
      refine ⟨ns ++ [y], m2, _, _, _, rfl, by rw [upd_same, List.map_append]; rfl, by simp [hl], ?_, fun z hz => ?_, by omega, went_upd W4 np hpb⟩
      · rw [List.nodup_append]
        exact ⟨hnd, by simp, fun a ha c hc e => hny (by rw [List.mem_singleton.mp hc] at e; exact e ▸ ha)⟩
      · rcases List.mem_append.mp hz with hz | hz
        · exact hlo z hz
        · rw [List.mem_singleton.mp hz]; exact hy
    have fin : ∀ (y : Str) (x2' x4' : Option V) (H4 : Hp), localB (codesOf y) = true → y ∉ ns → H4 p = some (.lst (ns.map V.str)) → Went b m2 H H4 → tDrop (tBM K "list" rAppend (tVar 1) (tCons (tVar 3) tNil)) { nx := fun σ H' => ∃ (ns : List Str) (m : Nat) (x2 x3 x4 : Option V), σ = [some (.ref b), some (.ref p), x2, x3, x4] ∧ H' p = some (.lst (ns.map V.str)) ∧ ns.length = i + 1 ∧ ns.Nodup ∧ (∀ z ∈ ns, localB (codesOf z) = true) ∧ m ≤ n + 41 * (i + 1) ∧ Went b m H H', rt := Q } [some (.ref b), some (.ref p), x2', some (.str y), x4'] H4 := fun y x2' x4' H4 hy hny hp4 W4 =>
      ⟨_, rfl, .inl ⟨rfl, _, SqL.of hp4⟩, _, rfl, p, _, .str y, rfl, rfl, hp4, by rw [List.length_map]; exact Nat.lt_of_lt_of_le (show ns.length < 100 by omega) (by decide), put y x2' x4' H4 hy hny hp4 W4⟩
    have five_in : inV (.str z) [.str "self", .str "super", .str "nil", .str "true", .str "false"] = five.contains (codesOf z) := by rw [fiveS, inV_five]
    refine seq_join (fun σ' H' => ∃ (y : Str) (x2' x4' : Option V), σ' = [some (.ref b), some (.ref p), x2', some (.str y), x4'] ∧ localB (codesOf y) = true ∧ y ∉ ns ∧ H' p = some (.lst (ns.map V.str)) ∧ Went b m2 H H') (fun D' hD => ?_) ?fin
    case fin =>
      rintro σ' H' ⟨y, x2', x4', rfl, h1, h2, h3, h4⟩
      exact fin y x2' x4' H' h1 h2 h3 h4
    refine if_ev (H0 := H3) (b := (ns.contains z || five.contains (codesOf z))) (evt_or (evt_test fun H' Q hs k => ⟨_, rfl, _, rfl, p, _, rfl, .inl (SqL.of (hs _ _ hp3)), rfl, flat_strsL _, by have k2 := k _ hs; rw [← inV_strs] at k2; exact k2⟩) fun _ => evt_test fun H' Q hs k => ⟨_, rfl, (by show 5 ≤ sizeLine; decide), fun t nt => ⟨t, _, rfl, .inr (SqT.of upd_same), rfl, rfl, by show Q (.bl (inV (V.str z) _)) _; rw [five_in]; exact k _ (hs.trans (same_upd nt))⟩⟩) (Same.refl H3) (fun ht H4 s4 => ?_) (fun ht H4 s4 => ?_)
    · have W4 := W3'.same s4
      have hp4 := s4 _ _ hp3
      refine ⟨(by show 5 ≤ sizeLine; decide), fun l nl => ⟨l, rfl, ⟨_, SqL.of upd_same⟩, fun D nD => ?_⟩⟩
      have W5 := went_new (o := .lst (vees.map V.str)) W4 nl
      have hl5 : (upd H4 l (.lst (vees.map V.str))) l = some (.lst (vees.map V.str)) := upd_same
      have hp5 := same_upd (o := .lst (vees.map V.str)) nl _ _ hp4
      have W6 := went_new (o := .lst []) W5 nD
      refine lc_list (K := K) (a := l) (xs := vees.map V.str) (fun j H' => H' D = some (.lst (((vees.take j).filter fun y => !ns.contains y).map V.str)) ∧ Same (upd H4 l (.lst (vees.map V.str))) H') ⟨upd_same, same_upd nD⟩ (fun j H' _ R => SqL.of (R.2 _ _ hl5)) (fun j x H' hx R => ?_) (fun H' R => ?_)
      · rw [List.getElem?_map] at hx
        obtain ⟨y, hy, rfl⟩ := Option.map_eq_some_iff.mp hx
        have hj : j < 5 := (List.getElem?_eq_some_iff.mp hy).1
        refine ⟨rfl, _, rfl, _, rfl, p, _, rfl, .inl (SqL.of (R.2 _ _ hp5)), rfl, flat_strsL _, ?_⟩
        refine ⟨!inV (.str y) (ns.map V.str), rfl, ?_⟩
        rw [inV_strs]
        dsimp only []
        cases hc : ns.contains y with
        | false =>
          refine iteT ⟨_, rfl, _, R.1, ?_, ?_, same_free R.2 nD⟩
          · rw [List.length_map]
            exact Nat.lt_of_le_of_lt (Nat.le_trans (List.length_filter_le _ _) (show (vees.take j).length ≤ 5 by rw [List.length_take]; exact Nat.min_le_right _ _)) (by decide)
          · have hm : y ∉ ns := by simpa using hc
            rw [upd_same, List.take_succ, hy, List.filter_append]
            simp [hm]
        | true =>
          refine iteF ⟨?_, R.2⟩
          have hm : y ∈ ns := by simpa using hc
          rw [List.take_succ, hy, List.filter_append, R.1]
          simp [hm]
      · obtain ⟨R1, R2⟩ := R
        have el : vees.take (vees.map V.str).length = vees := by rw [List.length_map, List.take_length]
        rw [el] at R1
        have hne : vees.filter (fun y => !ns.contains y) ≠ [] := fun e => by
          have h1 : ∀ y ∈ vees, y ∈ ns := fun y hy => by
            cases hc : ns.contains y with
            | true => simpa using hc
            | false =>
              have : y ∈ vees.filter (fun y => !ns.contains y) := List.mem_filter.mpr ⟨hy, by rw [hc]; rfl⟩
              rw [e] at this
              cases this
          have h2 := nd_sub vees_nd h1
          have h3 : vees.length = 5 := rfl
          omega
        obtain ⟨y, r, hyr⟩ := List.exists_cons_of_ne_nil hne
        have hy : y ∈ vees.filter (fun y => !ns.contains y) := by rw [hyr]; exact List.mem_cons_self
        obtain ⟨hy1, hy2⟩ := List.mem_filter.mp hy
        rw [hyr] at R1
        refine ⟨_, _, _, _, rfl, rfl, SqL.of R1, atI_nat rfl, ?_⟩
        exact hD _ _ ⟨y, _, _, rfl, vees_lo y hy1, by simpa using hy2, R2 _ _ hp5, W5.same R2⟩
    · rw [Bool.or_eq_false_iff] at ht
      exact hD _ _ ⟨z, _, _, rfl, local_of hz hzl ht.2, by simpa using ht.1, s4 _ _ hp3, W3'.same s4⟩
end
end My8

end
section
set_option Elab.async false
set_option linter.all false
set_option maxRecDepth 100000
set_option maxHeartbeats 2000000
namespace My8
open PySem PySem.Spec PyProof.Rows L2 My
open TrM TL
theorem have_rest {A B : TS} {D : Ends} {σ : L2.St} {H : Hp} (M : L2.St → Hp → Prop) (h2 : ∀ σ' H', M σ' H' → B D σ' H') (h1 : (∀ σ' H', M σ' H' → B D σ' H') → tSeq A B D σ H) : tSeq A B D σ H := h1 h2
theorem after_const {v : V} {i : Nat} {B : TS} {D : Ends} {σ : L2.St} {H : Hp} (h : B D (σ.set i (some v)) H) : tSeq (tAsg (tC v) (gName i)) B D σ H := h
theorem six_pos (n d k : Nat) : HT.sIx n d (some (k : Int)) = min k n := by
  show (if (k : Int) < 0 then ((k : Int) + (n : Int)).toNat else min (k : Int).toNat n) = min k n
  rw [if_neg (by omega)]
  rfl
theorem cutS_take (z : Str) (k : Nat) : codesOf (cutS z none (some (k : Int))) = (codesOf z).take k := by
  unfold cutS
  rw [six_pos, HT.sIx_none, List.drop_zero, Nat.sub_zero]
  show (z.cps.toList.take (min k z.length)) = z.cps.toList.take k
  rw [show z.length = z.cps.toList.length from rfl, ← List.take_eq_take_min]
theorem name_take {l : List Nat} (h : Tok.IsName l) {k : Nat} (hk : 0 < k) : Tok.IsName (l.take k) := by
  obtain ⟨c, r, e, hc⟩ := h.al
  refine ⟨⟨c, r.take (k - 1), ?_, hc⟩, ?_, Nat.le_trans (by rw [List.length_take]; exact Nat.min_le_right _ _) h.le⟩
  · rw [e]
    obtain ⟨j, rfl⟩ : ∃ j, k = j + 1 := ⟨k - 1, by omega⟩
    rfl
  · rw [List.all_eq_true]
    intro x hx
    exact List.all_eq_true.mp h.an x (List.mem_of_mem_take hx)
theorem keys_flat (ns : List (List Nat)) : Tok.kkeys ns = (ns.map fun x => x ++ [58]).flatten := by
  induction ns with
  | nil => rfl
  | cons n ns ih => rw [Tok.kkeys, ih, List.map_cons, List.flatten_cons, List.append_assoc]; rfl
theorem flat_bound {ns : List (List Nat)} {m : Nat} (h : ∀ n ∈ ns, n.length ≤ m) : (Tok.kkeys ns).length ≤ ns.length * (m + 1) := by
  induction ns with
  | nil => exact Nat.zero_le _
  | cons n ns ih =>
    rw [Tok.kkeys, List.length_append, List.length_cons, List.length_cons, Nat.succ_mul]
    have h1 := h n List.mem_cons_self
    have h2 := ih fun x hx => h x (List.mem_cons_of_mem _ hx)
    omega
/-- selector(bag, many) -/
def spSel : Sp := fun vs H Q _ => ∃ (b : Addr) (n k : Nat), vs = [.ref b, .int (k : Int)] ∧ BagAt H b n ∧ n < 900000 ∧ k ≤ 3 ∧ ∀ (z : Str) (m : Nat) (H' : Hp), Sel (codesOf z) k → m ≤ n + 124 → Went b m H H' → Q (.str z) H'
section
variable {P : Program} {w : World} {K : PySem.W.Frag} {mg : Str → Option Value} {base : Heap}
theorem sc_law_selector : FnScope ["_law_bag_here", "_law_many", "_law_letters", "_law_turn"] ["_law_bag_here", "_law_many"] (defScope s_law_selector) := ⟨rfl, rfl, rfl, by decide +kernel, rfl, by decide +kernel, by decide +kernel⟩
theorem ok_selector {f fN fO fT : Addr} {fd fdN fdO fdT : FuncData} (F : FnP K "_law_selector" s_law_selector f fd)
    (G_law_name : FnOk P w K mg base CX0 4 fN fdN ["_law_bag_here", "_law_letters"] spName) (g_law_name : mg "_law_name" = some (.ref fN)) (k_law_name : PySem.W.keepIn K (.ref fN) = true) (b_law_name : Binds K fdN ["_law_bag_here", "_law_letters"] [])
    (G_law_operator : FnOk P w K mg base CX0 4 fO fdO ["_law_bag_here"] spOper) (g_law_operator : mg "_law_operator" = some (.ref fO)) (k_law_operator : PySem.W.keepIn K (.ref fO) = true) (b_law_operator : Binds K fdO ["_law_bag_here"] [])
    (G_law_take : FnOk P w K mg base CX0 2 fT fdT ["_law_bag_here", "_law_many"] spTakeW) (g_law_take : mg "_law_take" = some (.ref fT)) (k_law_take : PySem.W.keepIn K (.ref fT) = true) (b_law_take : Binds K fdT ["_law_bag_here", "_law_many"] [])
    (g_range : mg "range" = none) : FnOk P w K mg base CX0 5 f fd ["_law_bag_here", "_law_many"] spSel := by
  refine F.ok sc_law_selector (fun vs H Q E h => ?_) (fun cdv A outer s H vs Q E hr h => ⟨_, PSs.nox
    (pss_cons (ps_set (i := 2) sc_law_selector.nd rfl (Or.inr rfl) pe_str)
      (pss_cons (ps_if (pt_cmpR op_eq (pv 1) pe_int (nomark _)) (pss_one (ps_ret (pe_call G_law_name (hr.mono (by decide)) rfl g_law_name k_law_name b_law_name .nil pass0 (pa_cons (pv 0) (pa_cons (pv 2) pa_nil))))) pss_nil)
      (pss_cons (ps_if (PW.pt (pw_and (pt_cmpR op_eq (pv 1) pe_int (nomark _)) (pw_and1 (pt_cmpR op_eq (pe_call G_law_take (hr.mono (by decide)) rfl g_law_take k_law_take b_law_take .nil pass0 (pa_cons (pv 0) (pa_cons pe_int pa_nil))) pe_int (nomark _))))) (pss_one (ps_ret (pe_call G_law_operator (hr.mono (by decide)) rfl g_law_operator k_law_operator b_law_operator .nil pass0 (pa_cons (pv 0) pa_nil)))) pss_nil)
      (pss_one (ps_ret (pe_join pe_str (pe_lc (own := [("_law_turn", 3)]) rfl sc_law_selector.nd (pi_range1 (by rfl) g_range (pa_cons (pv 1) pa_nil)) (blkOk_by (own := [("_law_turn", 3)]) (N := ["_law_bag_here", "_law_many", "_law_letters", "_law_turn"]) (sc := defScope s_law_selector) (by decide +kernel)) (fun _ _ _ _ _ => by (exact (pg_name (i := 3) sc_law_selector.nd rfl (Or.inl rfl)))) (fun _ _ _ _ _ => by exact pts_nil) (fun _ _ _ _ _ => by exact (pe_op op_addS (pe_slice sl_str (pe_call G_law_name (hr.mono (by decide)) rfl g_law_name k_law_name b_law_name .nil pass0 (pa_cons (pv 0) (pa_cons (pv 2) pa_nil))) po_none (po_some (pe_op op_sub (pe_op op_fdivW pe_int (pv 1)) pe_int))) pe_str))))))))), ?_⟩)
  · obtain ⟨b, n, k, rfl, _⟩ := h
    rfl
  obtain ⟨b, n, k, rfl, hb, hn, hk, q⟩ := h
  have ll := all52_len
  refine after_const ?_
  refine if_ev (H0 := H) (b := decide (V.int (k : Int) = V.int 0)) (evt_test fun H' Q hs kk => ⟨_, rfl, rfl, kk _ hs⟩) (Same.refl H) (fun ht H1 s1 => ?_) (fun ht H1 s1 => ?_)
  · have hk0 : k = 0 := by
      have := of_decide_eq_true ht
      injection this with this
      omega
    subst hk0
    exact ⟨_, rfl, _, rfl, b, n, all52, rfl, (Went.of hb s1).bag, by omega, by omega, by omega, all52_al, fun z m H2 hz _ hm W => q z m H2 (.name hz) (by omega) ((Went.of hb s1).trans W)⟩
  have hk0 : k ≠ 0 := fun e => by subst e; exact absurd ht (by decide)
  have W1 := Went.of hb s1
  dsimp only [tNext]
  refine have_rest (fun σ' H' => σ' = [some (.ref b), some (.int (k : Int)), some (.str all52), none] ∧ ∃ n1, n1 ≤ n + 1 ∧ Went b n1 H H') ?rest (fun rest => ?_)
  case rest =>
    rintro _ H2 ⟨rfl, n1, hn1, W2⟩
    refine ⟨⟨_, rfl⟩, _, rfl, _, rfl, by omega, by omega, fun L nL => ?_⟩
    have hLb := bag_ne W2.bag nL
    have nL0 : H L = none := W2.free nL
    refine lc_range (lo := 0) (fun i H' => ∃ (ns : List (List Nat)) (ys : List Str) (m : Nat), H' L = some (.lst (ys.map V.str)) ∧ ys.map codesOf = ns.map (fun x => x ++ [58]) ∧ ns.length = i ∧ (∀ x ∈ ns, Tok.IsName x ∧ x.length ≤ 100 / k - 1) ∧ m ≤ n1 + 41 * i ∧ Went b m H H') ⟨[], [], n1, upd_same, rfl, rfl, (fun x hx => by cases hx), by omega, went_new W2 nL⟩ ?turn ?last
    case turn =>
      rintro i H3 hi ⟨ns, ys, m, hL, hy, hl, hns, hm, W⟩
      have hi : i < k := by simpa using hi
      refine ⟨rfl, tyes ?_⟩
      have hq : 0 < 100 / k - 1 ∧ 100 / k ≤ 100 := by
        have : k = 1 ∨ k = 2 ∨ k = 3 := by omega
        rcases this with rfl | rfl | rfl <;> decide
      refine ⟨_, rfl, _, rfl, b, m, all52, rfl, W.bag, by omega, by omega, by omega, all52_al, fun z m2 H4 hz _ hm2 W4 => ?_⟩
      dsimp only [tNoPart]
      refine ⟨_, rfl, _, _, rfl, rfl, wide_div (b := 20) (by omega) (by omega) (by decide) (by decide), _, _, rfl, rfl, _, rfl, z, rfl, Nat.le_trans (show z.length ≤ 40 from hz.le) (by decide), ?_⟩
      have ek : ((100 : Int) / (k : Int) - 1) = ((100 / k - 1 : Nat) : Int) := by
        have : k = 1 ∨ k = 2 ∨ k = 3 := by omega
        rcases this with rfl | rfl | rfl <;> decide
      rw [ek]
      have ec := cutS_take z (100 / k - 1)
      generalize cutS z none (some ((100 / k - 1 : Nat) : Int)) = zz at ec
      have hzz : Tok.IsName (codesOf zz) := by rw [ec]; exact name_take hz hq.1
      have e58 : codesOf (Str.ofString ":") = [58] := c58
      have e1 : (Str.ofString ":").length = 1 := by decide +kernel
      refine ⟨_, _, rfl, rfl, by rw [e1]; exact Nat.le_trans (show zz.length + 1 ≤ 100 by have := hzz.le; show (codesOf zz).length + 1 ≤ 100; omega) (by decide), ?_⟩
      refine ⟨_, W4.rest _ _ hLb hL, ?_, ns ++ [codesOf zz], ys ++ [zz ++ Str.ofString ":"], m2, ?_, ?_, by simp [hl], fun x hx => ?_, by omega, went_upd (W.trans W4) nL0 hLb⟩
      · have : ys.length = i := by have := congrArg List.length hy; rw [List.length_map, List.length_map] at this; omega
        rw [List.length_map, this]
        exact Nat.lt_of_lt_of_le (show i < 100 by omega) (by decide)
      · rw [upd_same, List.map_append]; rfl
      · rw [List.map_append, List.map_append, hy, List.map_cons, List.map_nil, codes_app, e58]; rfl
      · rcases List.mem_append.mp hx with hx | hx
        · exact hns x hx
        · rw [List.mem_singleton.mp hx]
          refine ⟨hzz, ?_⟩
          rw [ec, List.length_take]
          exact Nat.min_le_left _ _
    case last =>
      rintro H3 ⟨ns, ys, m, hL, hy, hl, hns, hm, W⟩
      have hl : ns.length = k := by simpa using hl
      have l0 : (Str.ofString "").length = 0 := by decide +kernel
      have ej : codesOf (Txt.join (Str.ofString "") ys) = Tok.kkeys ns := by rw [codes_join, hy, keys_flat]
      have hb := flat_bound fun x hx => (hns x hx).2
      rw [hl] at hb
      have hq : k * (100 / k - 1 + 1) ≤ 100 := by
        have : k = 1 ∨ k = 2 ∨ k = 3 := by omega
        rcases this with rfl | rfl | rfl <;> decide
      refine ⟨_, L, ys, rfl, rfl, .inl (SqL.of hL), ?_, ?_⟩
      · rw [l0]
        have e1 : (ys.map (·.length)).sum = (Tok.kkeys ns).length := by
          rw [← ej, codes_join, List.length_flatten, List.map_map]
          rfl
        omega
      · refine q _ m H3 ?_ (by omega) W
        rw [ej]
        have := Sel.keys (ns := ns) (fun e => by rw [e] at hl; exact hk0 hl.symm) (fun x hx => (hns x hx).1) (by omega)
        rw [hl] at this
        exact this
  dsimp only [tSeq, tNext]
  by_cases hk1 : k = 1
  · subst hk1
    refine ⟨_, rfl, rfl, true, rfl, iteT ?_⟩
    refine took rfl W1.bag (by omega) (by decide) (by decide) (fun Q h => h) fun r H2 r0 r1 W2 => ?_
    refine ⟨rfl, decide (V.int r = V.int 0), rfl, ?_⟩
    have W2 := W1.trans W2
    cases hr0 : decide (V.int r = V.int 0) with
    | true => exact iteT ⟨_, rfl, b, n + 1, rfl, W2.bag, by omega, fun z H3 hz W3 => q z _ H3 (.op hz) (by omega) (W2.trans W3)⟩
    | false => exact iteF (rest _ _ ⟨rfl, _, Nat.le_refl _, W2⟩)
  · refine ⟨_, rfl, rfl, false, ?_, iteF (iteF (rest _ _ ⟨rfl, n, by omega, W1⟩))⟩
    rw [decide_eq_false (fun e => hk1 (by injection e with e; omega))]
end
end My8

end
section
set_option Elab.async false
set_option linter.all false
set_option maxRecDepth 100000
set_option maxHeartbeats 2000000
namespace My8
open PySem PySem.Spec PyProof.Rows L2 My
open TrM TL
theorem ok_okT {l : List Nat} (h : l.all Tok.okc = true) (hl : l.length ≤ 2000) : okT l := ⟨hl, fun c hc => by
  have := List.all_eq_true.mp h c hc
  unfold Tok.okc at this
  simp at this
  omega⟩
theorem an_okT {l : List Nat} (h : ∀ c ∈ l, Tok.isAn c = true ∨ c = 58) (hl : l.length ≤ 2000) : okT l := ⟨hl, fun c hc => by
  rcases h c hc with h | h
  · unfold Tok.isAn Tok.isAl Tok.isDg at h
    simp at h
    omega
  · omega⟩
theorem sel_okT {l : List Nat} {n : Nat} (h : Sel l n) : okT l := by
  cases h with
  | name h => exact an_okT (fun c hc => .inl (List.all_eq_true.mp h.an c hc)) (Nat.le_trans h.le (by decide))
  | op h =>
    simp only [Tok.ops, List.mem_cons, List.not_mem_nil, or_false] at h
    rcases h with h | h | h | h | h | h | h | h | h | h | h | h | h | h <;> subst h <;> exact ⟨by decide, by decide⟩
  | @keys ns h0 h hl =>
    refine an_okT (fun c hc => ?_) (Nat.le_trans hl (by decide))
    clear h0 hl
    induction ns with
    | nil => cases hc
    | cons n ns ih =>
      rw [Tok.kkeys] at hc
      rcases List.mem_append.mp hc with hc | hc
      · exact .inl (List.all_eq_true.mp (h n List.mem_cons_self).an c hc)
      · rcases List.mem_cons.mp hc with rfl | hc
        · exact .inr rfl
        · exact ih (fun m hm => h m (List.mem_cons_of_mem _ hm)) hc
/-- integer(bag) -/
def spInt8 : Sp := fun vs H Q _ => ∃ (b : Addr) (n : Nat), vs = [.ref b] ∧ BagAt H b n ∧ n < 900000 ∧ ∀ (i : Int) (m : Nat) (H' : Hp), -(10 ^ 60) < i → i < 10 ^ 60 → m ≤ n + 3 → Went b m H H' → Q (.int i) H'
def dsSymW : List PyData := [.str "nil", .str "true", .str "false", .str "self", .str "super", .str "at:", .str "a:b", .str ":", .str "a b", .str "-"]
theorem symW_ok {d : PyData} (h : d ∈ dsSymW) : ∃ z : Str, d = .str z ∧ okT (codesOf z) ∧ (codesOf z).length ≤ 100 := by
  unfold dsSymW at h
  simp only [List.mem_cons, List.not_mem_nil, or_false] at h
  rcases h with h | h | h | h | h | h | h | h | h | h <;> subst h
  all_goals exact ⟨_, rfl, ⟨by decide +kernel, by decide +kernel⟩, by decide +kernel⟩
/-- symbol(bag) -/
def spSym8 : Sp := fun vs H Q _ => ∃ (b : Addr) (n : Nat), vs = [.ref b] ∧ BagAt H b n ∧ n < 890000 ∧ ∀ (z : Str) (m : Nat) (H' : Hp), okT (codesOf z) → (codesOf z).length ≤ 100 → m ≤ n + 125 → Went b m H H' → Q (.str z) H'
section
variable {P : Program} {w : World} {K : PySem.W.Frag} {mg : Str → Option Value} {base : Heap}
theorem sc_law_integer : FnScope ["_law_bag_here"] ["_law_bag_here"] (defScope s_law_integer) := ⟨rfl, rfl, rfl, by decide +kernel, rfl, by decide +kernel, by decide +kernel⟩
theorem ok_integer {f fT : Addr} {fd fdT : FuncData} (F : FnP K "_law_integer" s_law_integer f fd)
    (G_law_take : FnOk P w K mg base CX0 2 fT fdT ["_law_bag_here", "_law_many"] spTakeW) (g_law_take : mg "_law_take" = some (.ref fT)) (k_law_take : PySem.W.keepIn K (.ref fT) = true) (b_law_take : Binds K fdT ["_law_bag_here", "_law_many"] []) :
    FnOk P w K mg base CX0 3 f fd ["_law_bag_here"] spInt8 := by
  refine F.ok sc_law_integer (fun vs H Q E h => ?_) (fun cdv A outer s H vs Q E hr h => ⟨_, PSs.nox
    (pss_cons (ps_if (pt_cmpR op_gt (pe_call G_law_take (hr.mono (by decide)) rfl g_law_take k_law_take b_law_take .nil pass0 (pa_cons (pv 0) (pa_cons pe_int pa_nil))) pe_int (nomark _)) (pss_one (ps_ret (pe_op op_sub (pe_call G_law_take (hr.mono (by decide)) rfl g_law_take k_law_take b_law_take .nil pass0 (pa_cons (pv 0) (pa_cons pe_int pa_nil))) pe_int))) pss_nil)
      (pss_one (ps_ret (pe_op op_mulW (pe_op op_sub (pe_op op_sub (pe_op op_pow pe_int pe_int) pe_int) (pe_call G_law_take (hr.mono (by decide)) rfl g_law_take k_law_take b_law_take .nil pass0 (pa_cons (pv 0) (pa_cons (pe_op op_pow pe_int pe_int) pa_nil)))) (pe_op op_sub pe_int (pe_op op_mulW pe_int (pe_call G_law_take (hr.mono (by decide)) rfl g_law_take k_law_take b_law_take .nil pass0 (pa_cons (pv 0) (pa_cons pe_int pa_nil))))))))), ?_⟩)
  · obtain ⟨b, n, rfl, _⟩ := h
    rfl
  obtain ⟨b, n, rfl, hb, hn, q⟩ := h
  refine took rfl hb (by omega) (by decide) (by decide) (fun Q h => h) fun r H1 r0 r1 W1 => ?_
  refine ⟨_, _, rfl, rfl, decide (0 < r), rfl, ?_⟩
  cases hr0 : decide (0 < r) with
  | true =>
    refine iteT ?_
    refine took rfl W1.bag (by omega) (by decide) (by decide) (fun Q h => h) fun r2 H2 r20 r21 W2 => ?_
    exact ⟨_, _, rfl, rfl, q _ _ _ (by omega) (by omega) (by omega) (W1.trans W2)⟩
  | false =>
    refine iteF ?_
    dsimp only [tNext]
    have e60 : (10 : Int) ^ Int.toNat 60 = 10 ^ 60 := rfl
    refine ⟨_, _, rfl, rfl, ⟨by decide, by decide, by decide⟩, _, _, rfl, rfl, ?_⟩
    refine took rfl W1.bag (by omega) ?_ ?_ (fun Q h => ⟨_, _, rfl, rfl, ⟨by decide, by decide, by decide⟩, h⟩) fun r2 H2 r20 r21 W2 => ?_
    · rw [e60]; decide
    · rw [e60]; decide
    rw [e60] at r21 ⊢
    refine ⟨_, _, rfl, rfl, ?_⟩
    refine took rfl W2.bag (by omega) (by decide) (by decide) (fun Q h => h) fun r3 H3 r30 r31 W3 => ?_
    have h3 : r3 = 0 ∨ r3 = 1 := by omega
    have hp : (10 : Int) ^ 60 < 2 ^ 210 := by decide
    have hp0 : (0 : Int) < 10 ^ 60 := by decide
    have hb2 : ((10 : Int) ^ 60 - 1 - r2).natAbs < 2 ^ 210 := by
      have : ((10 : Int) ^ 60 - 1 - r2) < 2 ^ 210 := by omega
      have : 0 ≤ ((10 : Int) ^ 60 - 1 - r2) := by omega
      have e : (2 ^ 210 : Int) = ((2 ^ 210 : Nat) : Int) := rfl
      omega
    refine ⟨_, _, rfl, rfl, wide_mul (a := 4) (b := 4) (by decide) (by omega) (by decide) (by decide) (by decide), _, _, rfl, rfl, _, _, rfl, rfl, wide_mul (a := 210) (b := 4) hb2 (by omega) (by decide) (by decide) (by decide), ?_⟩
    refine q _ _ _ ?_ ?_ (by omega) ((W1.trans W2).trans W3)
    · rcases h3 with rfl | rfl <;> omega
    · rcases h3 with rfl | rfl <;> omega
theorem sc_law_symbol : FnScope ["_law_bag_here", "_law_way"] ["_law_bag_here"] (defScope s_law_symbol) := ⟨rfl, rfl, rfl, by decide +kernel, rfl, by decide +kernel, by decide +kernel⟩
theorem ok_symbol {f fK fT fX fS : Addr} {fd fdK fdT fdX fdS : FuncData} (F : FnP K "_law_symbol" s_law_symbol f fd) (G_law_pick : FnOk P w K mg base CX0 3 fK fdK ["_law_bag_here", "_law_things"] (spPick K)) (g_law_pick : mg "_law_pick" = some (.ref fK)) (k_law_pick : PySem.W.keepIn K (.ref fK) = true) (b_law_pick : Binds K fdK ["_law_bag_here", "_law_things"] [])
    (G_law_take : FnOk P w K mg base CX0 2 fT fdT ["_law_bag_here", "_law_many"] spTakeW) (g_law_take : mg "_law_take" = some (.ref fT)) (k_law_take : PySem.W.keepIn K (.ref fT) = true) (b_law_take : Binds K fdT ["_law_bag_here", "_law_many"] [])
    (G_law_text : FnOk P w K mg base CX0 4 fX fdX ["_law_bag_here"] spLText) (g_law_text : mg "_law_text" = some (.ref fX)) (k_law_text : PySem.W.keepIn K (.ref fX) = true) (b_law_text : Binds K fdX ["_law_bag_here"] [])
    (G_law_selector : FnOk P w K mg base CX0 5 fS fdS ["_law_bag_here", "_law_many"] spSel) (g_law_selector : mg "_law_selector" = some (.ref fS)) (k_law_selector : PySem.W.keepIn K (.ref fS) = true) (b_law_selector : Binds K fdS ["_law_bag_here", "_law_many"] []) :
    FnOk P w K mg base CX0 6 f fd ["_law_bag_here"] spSym8 := by
  refine F.ok sc_law_symbol (fun vs H Q E h => ?_) (fun cdv A outer s H vs Q E hr h => ⟨_, PSs.nox
    (pss_cons (ps_set (i := 1) sc_law_symbol.nd rfl (Or.inl rfl) (pe_call G_law_take (hr.mono (by decide)) rfl g_law_take k_law_take b_law_take .nil pass0 (pa_cons (pv 0) (pa_cons pe_int pa_nil))))
      (pss_cons (ps_if (pt_cmpR op_eq (pv 1) pe_int (nomark _)) (pss_one (ps_ret (pe_call G_law_text (hr.mono (by decide)) rfl g_law_text k_law_text b_law_text .nil pass0 (pa_cons (pv 0) pa_nil)))) pss_nil)
      (pss_cons (ps_if (pt_cmpR op_eq (pv 1) pe_int (nomark _)) (pss_one (ps_ret (pe_call G_law_pick (hr.mono (by decide)) rfl g_law_pick k_law_pick b_law_pick .nil pass0 (pa_cons (pv 0) (pa_cons (pe_lst (pa_cons pe_str (pa_cons pe_str (pa_cons pe_str (pa_cons pe_str (pa_cons pe_str (pa_cons pe_str (pa_cons pe_str (pa_cons pe_str (pa_cons pe_str (pa_cons pe_str pa_nil))))))))))) pa_nil))))) pss_nil)
      (pss_one (ps_ret (pe_call G_law_selector (hr.mono (by decide)) rfl g_law_selector k_law_selector b_law_selector .nil pass0 (pa_cons (pv 0) (pa_cons (pe_op op_sub (pv 1) pe_int) pa_nil)))))))), ?_⟩)
  · obtain ⟨b, n, rfl, _⟩ := h
    rfl
  obtain ⟨b, n, rfl, hb, hn, q⟩ := h
  refine took rfl hb (by omega) (by decide) (by decide) (fun Q h => h) fun r H1 r0 r1 W1 => ?_
  dsimp only [gName, tSeq, tNext]
  refine if_ev (H0 := H1) (b := decide (V.int r = V.int 0)) (evt_test fun H' Q hs kk => ⟨_, rfl, rfl, kk _ hs⟩) (Same.refl H1) (fun ht H2 s2 => ?_) (fun ht H2 s2 => ?_)
  · have W2 := W1.same s2
    exact ⟨_, rfl, b, _, rfl, W2.bag, by omega, fun z m H3 hz hl hm W3 => q z m H3 (ok_okT hz (by omega)) (by omega) (by omega) (W2.trans W3)⟩
  have n0 : r ≠ 0 := fun e => by subst e; exact absurd ht (by decide)
  dsimp only [tSeq, tNext]
  refine if_ev (H0 := H1) (b := decide (V.int r = V.int 1)) (evt_test fun H' Q hs kk => ⟨_, rfl, rfl, kk _ hs⟩) s2 (fun ht H3 s3 => ?_) (fun ht H3 s3 => ?_)
  · have W3 := W1.same s3
    refine pick_lst (K := K) (ds := dsSymW) rfl W3.bag (by omega) ?e1 (by decide) (by decide) fun d v D H4 hd hv hD W4 => ?_
    case e1 => (repeat' (first | exact evds_nil | exact evd_int | exact evd_str | refine evds_cons ?_ ?_))
    obtain ⟨z, rfl, h1, h2⟩ := symW_ok hd
    cases hv
    exact q z _ H4 h1 h2 (by omega) (W3.trans W4)
  have n1 : r ≠ 1 := fun e => by subst e; exact absurd ht (by decide)
  have W3 := W1.same s3
  have er : r - 2 = ((r - 2).toNat : Int) := by omega
  refine ⟨_, rfl, _, rfl, _, _, rfl, rfl, b, _, (r - 2).toNat, by rw [← er]; rfl, W3.bag, by omega, by omega, fun z m H4 hz hm W4 => q z m H4 (sel_okT hz) (sel_len hz) (by omega) (W3.trans W4)⟩
end
end My8

end
section
set_option Elab.async false
set_option linter.all false
set_option maxRecDepth 100000
set_option maxHeartbeats 2000000
namespace My8
open PySem PySem.Spec PyProof.Rows L2 My
open TrM TL
/-! ### how data is shown -/
mutual
/-- data that can be shown: so deep, so long at most -/
inductive Fine : PyData → Nat → Nat → Prop
  | str {z : Str} {n : Nat} : (∀ c ∈ codesOf z, c < 16 ^ 8) → Fine (.str z) n (10 * (codesOf z).length + 2)
  | int {i : Int} {n : Nat} : i.natAbs.log2 < 1920 → Fine (.int i) n 1921
  | tup {ds : List PyData} {n N : Nat} : FineL ds n N → Fine (.tuple ds) (n + 1) (N + 3)
inductive FineL : List PyData → Nat → Nat → Prop
  | nil {n : Nat} : FineL [] n 0
  | cons {d : PyData} {ds : List PyData} {n N M : Nat} : Fine d n N → FineL ds n M → FineL (d :: ds) n (N + 2 + M)
end
theorem tupleText_le (ts : List Str) : (tupleText ts).length ≤ (ts.map fun t => t.length + 2).sum + 3 := by
  unfold tupleText
  rw [strLen_append, strLen_append]
  have e1 : (Str.ofString "(").length = 1 := by decide +kernel
  have e2 : (Str.ofString (if (ts.length == 1) = true then ",)" else ")")).length ≤ 2 := by split <;> decide +kernel
  have hp : piled ts = (ts.map fun t => t.length + 2).sum := rfl
  have hj : (Str.join ", " ts).length ≤ piled ts := by
    by_cases hn : ts = []
    · subst hn
      exact Nat.le_trans (Nat.le_of_eq (by decide +kernel)) (Nat.zero_le _)
    · have := join_length_add ts hn
      omega
  rw [← hp]
  omega
mutual
theorem Fine.all : ∀ {d : PyData} {n N : Nat}, Fine d n N → d.showable = true ∧ d.hasDict = false ∧ d.depth ≤ n ∧ d.shown.length ≤ N
  | _, _, _, .str (z := z) h => by
    refine ⟨by simp only [PyData.showable], by simp only [PyData.hasDict], by simp only [PyData.depth]; exact Nat.zero_le _, ?_⟩
    simp only [PyData.shown]
    exact PySem.StrLaws.reprText_len z h
  | _, _, _, .int (i := i) h => by
    refine ⟨by simp only [PyData.showable]; exact decide_eq_true h, by simp only [PyData.hasDict], by simp only [PyData.depth]; exact Nat.zero_le _, ?_⟩
    simp only [PyData.shown]
    exact int_text_len_1921 h
  | _, _, _, .tup (ds := ds) h => by
    obtain ⟨h1, h2, h3, h4⟩ := h.all
    refine ⟨by simp only [PyData.showable]; exact h1, by simp only [PyData.hasDict]; exact h2, by simp only [PyData.depth]; omega, ?_⟩
    simp only [PyData.shown]
    have := tupleText_le (PyData.shownAll ds)
    omega
theorem FineL.all : ∀ {ds : List PyData} {n N : Nat}, FineL ds n N → PyData.showableAll ds = true ∧ PyData.hasDictAll ds = false ∧ PyData.depthAll ds ≤ n ∧ ((PyData.shownAll ds).map fun t => t.length + 2).sum ≤ N
  | _, _, _, .nil => ⟨by simp only [PyData.showableAll], by simp only [PyData.hasDictAll], by simp only [PyData.depthAll]; exact Nat.zero_le _, by simp only [PyData.shownAll]; exact Nat.le_refl _⟩
  | _, _, _, .cons h t => by
    obtain ⟨a1, a2, a3, a4⟩ := h.all
    obtain ⟨b1, b2, b3, b4⟩ := t.all
    refine ⟨by simp only [PyData.showableAll]; rw [a1, b1]; rfl, by simp only [PyData.hasDictAll]; rw [a2, b2]; rfl, by simp only [PyData.depthAll]; omega, ?_⟩
    simp only [PyData.shownAll, List.map_cons, List.sum_cons]
    omega
end
mutual
theorem Fine.mono : ∀ {d : PyData} {n N m : Nat}, Fine d n N → n ≤ m → Fine d m N
  | _, _, _, _, .str h, _ => .str h
  | _, _, _, _, .int h, _ => .int h
  | _, n + 1, _, m + 1, .tup h, hm => .tup (h.mono (by omega))
theorem FineL.mono : ∀ {ds : List PyData} {n N m : Nat}, FineL ds n N → n ≤ m → FineL ds m N
  | _, _, _, _, .nil, _ => .nil
  | _, _, _, _, .cons h t, hm => .cons (h.mono hm) (t.mono hm)
end
/-- so deep, and at most so long -/
def Sh (d : PyData) (n N : Nat) : Prop := ∃ M, M ≤ N ∧ Fine d n M
def ShL (ds : List PyData) (n N : Nat) : Prop := ∃ M, M ≤ N ∧ FineL ds n M
theorem sh_str {z : Str} (h : okT (codesOf z)) (n : Nat) {L : Nat} (hl : (codesOf z).length ≤ L) : Sh (.str z) n (10 * L + 2) := ⟨_, by omega, .str fun c hc => Nat.lt_of_le_of_lt (show c ≤ 126 by have := h.2 c hc; omega) (by decide)⟩
theorem sh_int {i : Int} (h1 : -(10 ^ 60) < i) (h2 : i < 10 ^ 60) (n : Nat) : Sh (.int i) n 1921 := by
  refine ⟨_, Nat.le_refl _, .int ?_⟩
  have hp : (10 : Int) ^ 60 < 2 ^ 210 := by decide
  have : i.natAbs < 2 ^ 210 := by
    have e : (2 ^ 210 : Int) = ((2 ^ 210 : Nat) : Int) := rfl
    omega
  by_cases h0 : i.natAbs = 0
  · rw [h0]; decide
  · have := (Nat.log2_lt h0).mpr this
    omega
theorem shl_nil (n : Nat) : ShL [] n 0 := ⟨0, Nat.le_refl _, .nil⟩
theorem shl_cons {d : PyData} {ds : List PyData} {n N M : Nat} (h : Sh d n N) (t : ShL ds n M) : ShL (d :: ds) n (N + 2 + M) := by
  obtain ⟨a, ha, h⟩ := h
  obtain ⟨b, hb, t⟩ := t
  exact ⟨_, by omega, .cons h t⟩
theorem sh_tup {ds : List PyData} {n N : Nat} (h : ShL ds n N) : Sh (.tuple ds) (n + 1) (N + 3) := by
  obtain ⟨a, ha, h⟩ := h
  exact ⟨_, by omega, .tup h⟩
theorem Sh.le {d : PyData} {n N m M : Nat} (h : Sh d n N) (hm : n ≤ m) (hM : N ≤ M) : Sh d m M := by
  obtain ⟨a, ha, h⟩ := h
  exact ⟨a, by omega, h.mono hm⟩
theorem ShL.le {d : List PyData} {n N m M : Nat} (h : ShL d n N) (hm : n ≤ m) (hM : N ≤ M) : ShL d m M := by
  obtain ⟨a, ha, h⟩ := h
  exact ⟨a, by omega, h.mono hm⟩
theorem Sh.showy {d : PyData} {n N : Nat} (h : Sh d n N) (hn : n ≤ 60) (hN : N ≤ 16000000) : Showy d := by
  obtain ⟨a, ha, h⟩ := h
  obtain ⟨h1, h2, h3, h4⟩ := h.all
  exact ⟨h1, h2, by omega, by omega⟩
theorem shl_names {ps : List Str} (h : ∀ z ∈ ps, okT (codesOf z) ∧ (codesOf z).length ≤ 40) (n : Nat) : ShL (ps.map .str) n (404 * ps.length) := by
  induction ps with
  | nil => exact shl_nil n
  | cons p ps ih =>
    have h1 := h p List.mem_cons_self
    exact (shl_cons (sh_str h1.1 n h1.2) (ih fun z hz => h z (List.mem_cons_of_mem _ hz))).le (Nat.le_refl _) (by rw [List.length_cons]; omega)
end My8

end
section
set_option Elab.async false
set_option linter.all false
set_option maxRecDepth 100000
set_option maxHeartbeats 2000000
namespace My8
open PySem PySem.Spec PyProof.Rows L2 My
open TrM TL
/-! ### the trees that the law puts together -/
inductive Gf : PyData → Prop
  | int {i : Int} : -(10 ^ 60) < i → i < 10 ^ 60 → Gf (.tuple [.str kI, .int i])
  | str {z : Str} : okT (codesOf z) → (codesOf z).length ≤ 100 → Gf (.tuple [.str kS, .str z])
  | sym {z : Str} : okT (codesOf z) → (codesOf z).length ≤ 100 → Gf (.tuple [.str kY, .str z])
  | var {z : Str} : Tok.IsName (codesOf z) → z ≠ Str.ofString "super" → Gf (.tuple [.str kV, .str z])
/-- an item that is no array -/
inductive Gi : PyData → Prop
  | word {z : Str} : codesOf z ∈ spoken → Gi (.tuple [.str kV, .str z])
  | int {i : Int} : -(10 ^ 60) < i → i < 10 ^ 60 → Gi (.tuple [.str kI, .int i])
  | str {z : Str} : okT (codesOf z) → (codesOf z).length ≤ 100 → Gi (.tuple [.str kS, .str z])
  | sym {z : Str} : okT (codesOf z) → (codesOf z).length ≤ 100 → Gi (.tuple [.str kY, .str z])
mutual
inductive Ga : Nat → PyData → Nat → Prop
  | mk {n c : Nat} {ds : List PyData} : GaL n ds c → Ga (n + 1) (.tuple [.str kA, .tuple ds]) (c + 1)
inductive GaL : Nat → List PyData → Nat → Prop
  | nil {n : Nat} : GaL n [] 0
  | leaf {n c : Nat} {d : PyData} {ds : List PyData} : Gi d → GaL n ds c → GaL n (d :: ds) (1 + c)
  | arr {n c c' : Nat} {d : PyData} {ds : List PyData} : Ga n d c → GaL n ds c' → GaL n (d :: ds) (c + c')
end
mutual
inductive Gt : List (Str × Bool) → Nat → PyData → Nat → Prop
  | leaf {ks : List (Str × Bool)} {e : Nat} {d : PyData} : Gf d → Gt ks e d 1
  | arr {ks : List (Str × Bool)} {e c : Nat} {d : PyData} : Ga 3 d c → c ≤ 40 → Gt ks e d c
  | set {ks : List (Str × Bool)} {e c : Nat} {z : Str} {d : PyData} : localB (codesOf z) = true → ks.lookup z ≠ some true → Gt ks e d c → Gt ks (e + 1) (.tuple [.str kSet, .str z, d]) (c + 1)
  | send {ks : List (Str × Bool)} {e c c' : Nat} {s : Str} {d : PyData} {ds : List PyData} : Gt ks e d c → Sel (codesOf s) ds.length → ds.length ≤ 3 → GtL ks e ds c' → Gt ks (e + 1) (.tuple [.str kSend, d, .str s, .tuple ds]) (c + c' + 1)
  | super {ks : List (Str × Bool)} {e c : Nat} {s : Str} {ds : List PyData} : Sel (codesOf s) ds.length → ds.length ≤ 3 → GtL ks e ds c → Gt ks (e + 1) (.tuple [.str kSuper, .str s, .tuple ds]) (c + 1)
  | casc {ks : List (Str × Bool)} {e c c' : Nat} {d : PyData} {ms : List (Str × List PyData)} : Gt ks e d c → 2 ≤ ms.length → ms.length ≤ 3 → GtM ks e ms c' → Gt ks (e + 1) (.tuple [.str kCasc, d, .tuple (ms.map msgD)]) (c + c' + 3)
  | block {ks : List (Str × Bool)} {e c : Nat} {ps vs : List Str} {sts : List PyData} : ps.length ≤ 4 → vs.length ≤ 4 → (∀ x ∈ ps ++ vs, localB (codesOf x) = true) → (ks.map (·.1) ++ (ps ++ vs)).Nodup → sts.length ≤ 3 → GtS (decl ks ps vs) e sts c →
      Gt ks (e + 1) (.tuple [.str kBlock, .tuple (ps.map .str), .tuple (vs.map .str), .tuple sts]) (c + 1)
inductive GtL : List (Str × Bool) → Nat → List PyData → Nat → Prop
  | nil {ks : List (Str × Bool)} {e : Nat} : GtL ks e [] 0
  | cons {ks : List (Str × Bool)} {e c c' : Nat} {d : PyData} {ds : List PyData} : Gt ks e d c → GtL ks e ds c' → GtL ks e (d :: ds) (c + c')
inductive GtM : List (Str × Bool) → Nat → List (Str × List PyData) → Nat → Prop
  | nil {ks : List (Str × Bool)} {e : Nat} : GtM ks e [] 0
  | cons {ks : List (Str × Bool)} {e c c' : Nat} {s : Str} {ds : List PyData} {ms : List (Str × List PyData)} : Sel (codesOf s) ds.length → ds.length ≤ 3 → GtL ks e ds c → GtM ks e ms c' → GtM ks e ((s, ds) :: ms) (c + c')
inductive GtS : List (Str × Bool) → Nat → List PyData → Nat → Prop
  | plain {ks : List (Str × Bool)} {e c : Nat} {ds : List PyData} : GtL ks e ds c → GtS ks e ds c
  | ret {ks : List (Str × Bool)} {e c c' : Nat} {d : PyData} {ds : List PyData} : GtL ks e ds c → Gt ks e d c' → GtS ks e (ds ++ [.tuple [.str kRet, d]]) (c + (c' + 1))
end
/-! ### they are trees for the program -/
theorem Ga.pos : ∀ {n c : Nat} {d : PyData}, Ga n d c → 0 < c
  | _, _, _, .mk _ => Nat.succ_pos _
theorem GaL.len : ∀ {n c : Nat} {ds : List PyData}, GaL n ds c → ds.length ≤ c
  | _, _, _, .nil => Nat.le_refl _
  | _, _, _, .leaf _ t => by have := t.len; rw [List.length_cons]; omega
  | _, _, _, .arr h t => by have := t.len; have := h.pos; rw [List.length_cons]; omega
theorem Gi.itm {d : PyData} (h : Gi d) (m : Nat) (hm : 0 < m) : Itm m d := by
  obtain ⟨k, rfl⟩ : ∃ k, m = k + 1 := ⟨m - 1, by omega⟩
  cases h with
  | word h => exact .word h
  | int h1 h2 => exact .lit (.int h1 h2)
  | str h _ => exact .lit (.str h)
  | sym h _ => exact .lit (.sym h)
mutual
theorem Ga.lt : ∀ {n c : Nat} {d : PyData}, Ga n d c → c ≤ 1000 → ∀ m, n + 1 ≤ m → Lt m d
  | n + 1, _, _, .mk h, hc, m, hm => by
    obtain ⟨k, hk⟩ : ∃ k, m = k + 1 := ⟨m - 1, by omega⟩
    rw [hk]
    have hl := h.len
    exact .arr (by omega) (h.itm (by omega) k (by omega))
termination_by structural _ _ _ h => h
theorem GaL.itm : ∀ {n c : Nat} {ds : List PyData}, GaL n ds c → c ≤ 1000 → ∀ m, n + 1 ≤ m → ∀ d ∈ ds, Itm m d
  | _, _, _, .nil, _, _, _, d, hd => by cases hd
  | n, _, _, .leaf (d := d0) h t, hc, m, hm, d, hd => by
    rcases List.mem_cons.mp hd with e | hd
    · rw [e]; exact h.itm m (by omega)
    · exact t.itm (by omega) m hm d hd
  | _, _, _, .arr h t, hc, m, hm, d, hd => by
    rcases List.mem_cons.mp hd with e | hd
    · rw [e]; exact .lit (h.lt (by omega) m hm)
    · exact t.itm (by omega) m hm d hd
termination_by structural _ _ _ h => h
end
theorem Gf.tf {ks : List (Str × Bool)} {d : PyData} (h : Gf d) (m : Nat) (hm : 0 < m) : Tf ks m d := by
  obtain ⟨k, rfl⟩ : ∃ k, m = k + 1 := ⟨m - 1, by omega⟩
  cases h with
  | int h1 h2 => exact .lit (.int h1 h2)
  | str h _ => exact .lit (.str h)
  | sym h _ => exact .lit (.sym h)
  | var h h2 => exact .var h h2
mutual
theorem Gt.tf : ∀ {ks : List (Str × Bool)} {e c : Nat} {d : PyData}, Gt ks e d c → ∀ n, 2 * e + 4 ≤ n → Tf ks n d
  | _, _, _, _, .leaf h, n, hn => h.tf n (by omega)
  | _, _, _, _, .arr h hc, n, hn => .lit (h.lt (by omega) n (by omega))
  | _, _, _, _, .set h1 h2 h, n, hn => by
    obtain ⟨k, hk⟩ : ∃ k, n = k + 1 := ⟨n - 1, by omega⟩
    rw [hk]
    exact .set h1 h2 (h.tf k (by omega))
  | _, _, _, _, .send h hs hl t, n, hn => by
    obtain ⟨k, hk⟩ : ∃ k, n = k + 1 := ⟨n - 1, by omega⟩
    rw [hk]
    exact .send (h.tf k (by omega)) (.mk hs (by omega) (t.tf k (by omega)))
  | _, _, _, _, .super hs hl t, n, hn => by
    obtain ⟨k, hk⟩ : ∃ k, n = k + 1 := ⟨n - 1, by omega⟩
    rw [hk]
    exact .super (.mk hs (by omega) (t.tf k (by omega)))
  | _, _, _, _, .casc h h2 h3 t, n, hn => by
    obtain ⟨k, hk⟩ : ∃ k, n = k + 1 := ⟨n - 1, by omega⟩
    rw [hk]
    exact .casc (h.tf k (by omega)) (by rw [List.length_map]; exact h2) (by rw [List.length_map]; omega) (t.mf k (by omega))
  | _, _, _, _, .block h1 h2 h3 h4 h5 t, n, hn => by
    obtain ⟨k, hk⟩ : ∃ k, n = k + 1 := ⟨n - 1, by omega⟩
    rw [hk]
    have := t.lf k (by omega)
    exact .block (.mk (by omega) (by omega) (by omega) h3 h4 this.1 this.2)
termination_by structural _ _ _ _ h => h
theorem GtL.tf : ∀ {ks : List (Str × Bool)} {e c : Nat} {ds : List PyData}, GtL ks e ds c → ∀ n, 2 * e + 4 ≤ n → ∀ d ∈ ds, Tf ks n d
  | _, _, _, _, .nil, _, _, d, hd => by cases hd
  | _, _, _, _, .cons h t, n, hn, d, hd => by
    rcases List.mem_cons.mp hd with e | hd
    · rw [e]; exact h.tf n hn
    · exact t.tf n hn d hd
termination_by structural _ _ _ _ h => h
theorem GtM.mf : ∀ {ks : List (Str × Bool)} {e c : Nat} {ms : List (Str × List PyData)}, GtM ks e ms c → ∀ n, 2 * e + 4 ≤ n → ∀ m ∈ ms.map msgD, Mf ks n m
  | _, _, _, _, .nil, _, _, d, hd => by cases hd
  | _, _, _, _, .cons hs hl h t, n, hn, d, hd => by
    rcases List.mem_cons.mp hd with e | hd
    · rw [e]; exact .mk hs (Nat.le_trans hl (by decide)) (h.tf n hn)
    · exact t.mf n hn d hd
termination_by structural _ _ _ _ h => h
theorem GtS.lf : ∀ {ks : List (Str × Bool)} {e c : Nat} {ds : List PyData}, GtS ks e ds c → ∀ n, 2 * e + 5 ≤ n → (∀ d ∈ ds.dropLast, Tf ks n d) ∧ ∀ d, ds.getLast? = some d → Lf ks n d
  | _, _, _, _, .plain h, n, hn => ⟨fun d hd => h.tf n (by omega) d (List.dropLast_subset _ hd), fun d hd => .ex (h.tf n (by omega) d (List.mem_of_getLast? hd))⟩
  | _, _, _, _, .ret h h2, n, hn => by
    obtain ⟨k, hk⟩ : ∃ k, n = k + 1 := ⟨n - 1, by omega⟩
    rw [hk]
    refine ⟨fun d hd => ?_, fun d hd => ?_⟩
    · rw [List.dropLast_concat] at hd
      exact h.tf _ (by omega) d hd
    · rw [List.getLast?_concat] at hd
      rw [← Option.some.inj hd]
      exact .ret (h2.tf k (by omega))
termination_by structural _ _ _ _ h => h
end
end My8

end
section
set_option Elab.async false
set_option linter.all false
set_option maxRecDepth 100000
set_option maxHeartbeats 2000000
namespace My8
open PySem PySem.Spec PyProof.Rows L2 My
open TrM TL
/-! ### the shape of such trees -/
structure okN (z : Str) : Prop where
  ok : okT (codesOf z)
  len : (codesOf z).length ≤ 40
  ns : z ≠ Str.ofString "super"
theorem local_super {z : Str} (h : localB (codesOf z) = true) : z ≠ Str.ofString "super" := fun e => by
  subst e
  exact absurd h (by decide +kernel)
theorem name_okN {z : Str} (h : Tok.IsName (codesOf z)) (h2 : z ≠ Str.ofString "super") : okN z := ⟨an_okT (fun c hc => .inl (List.all_eq_true.mp h.an c hc)) (Nat.le_trans h.le (by decide)), h.le, h2⟩
theorem local_name {l : List Nat} (h : localB l = true) : Tok.IsName l := (nameB_iff _).mp (by unfold localB at h; rw [Bool.and_eq_true] at h; exact h.1)
theorem local_okN {z : Str} (h : localB (codesOf z) = true) : okN z := name_okN (local_name h) (local_super h)
mutual
inductive Gs : Nat → PyData → Nat → Prop
  | int {f : Nat} {i : Int} : -(10 ^ 60) < i → i < 10 ^ 60 → Gs f (.tuple [.str kI, .int i]) 1
  | str {f : Nat} {z : Str} : okT (codesOf z) → (codesOf z).length ≤ 100 → Gs f (.tuple [.str kS, .str z]) 1
  | sym {f : Nat} {z : Str} : okT (codesOf z) → (codesOf z).length ≤ 100 → Gs f (.tuple [.str kY, .str z]) 1
  | var {f : Nat} {z : Str} : okN z → Gs f (.tuple [.str kV, .str z]) 1
  | arr {f c : Nat} {ds : List PyData} : GsL f ds c → Gs (f + 1) (.tuple [.str kA, .tuple ds]) (c + 1)
  | set {f c : Nat} {z : Str} {d : PyData} : okN z → Gs f d c → Gs (f + 1) (.tuple [.str kSet, .str z, d]) (c + 1)
  | ret {f c : Nat} {d : PyData} : Gs f d c → Gs (f + 1) (.tuple [.str kRet, d]) (c + 1)
  | send {f c c' : Nat} {s : Str} {d : PyData} {ds : List PyData} : Gs f d c → okT (codesOf s) → (codesOf s).length ≤ 100 → ds.length ≤ 3 → GsL f ds c' → Gs (f + 1) (.tuple [.str kSend, d, .str s, .tuple ds]) (c + c' + 1)
  | super {f c : Nat} {s : Str} {ds : List PyData} : okT (codesOf s) → (codesOf s).length ≤ 100 → ds.length ≤ 3 → GsL f ds c → Gs (f + 1) (.tuple [.str kSuper, .str s, .tuple ds]) (c + 1)
  | casc {f c c' : Nat} {d : PyData} {ms : List (Str × List PyData)} : Gs f d c → ms.length ≤ 3 → GsM f ms c' → Gs (f + 1) (.tuple [.str kCasc, d, .tuple (ms.map msgD)]) (c + c' + 3)
  | block {f c : Nat} {ps vs : List Str} {sts : List PyData} : ps.length ≤ 4 → vs.length ≤ 4 → (∀ x ∈ ps, okN x) → (∀ x ∈ vs, okN x) → sts.length ≤ 3 → (∀ c ∈ (sts.map isRet).dropLast, c = false) → GsL f sts c → Gs (f + 1) (.tuple [.str kBlock, .tuple (ps.map .str), .tuple (vs.map .str), .tuple sts]) (c + 1)
  | meth {f c : Nat} {s : Str} {ps vs : List Str} {sts : List PyData} : okT (codesOf s) → (codesOf s).length ≤ 100 → ps.length ≤ 4 → vs.length ≤ 4 → (∀ x ∈ ps, okN x) → (∀ x ∈ vs, okN x) → sts.length ≤ 3 → (∀ c ∈ (sts.map isRet).dropLast, c = false) → GsL f sts c → Gs (f + 1) (.tuple [.str kMeth, .str s, .tuple (ps.map .str), .tuple (vs.map .str), .tuple sts]) (c + 1)
inductive GsL : Nat → List PyData → Nat → Prop
  | nil {f : Nat} : GsL f [] 0
  | cons {f c c' : Nat} {d : PyData} {ds : List PyData} : Gs f d c → GsL f ds c' → GsL f (d :: ds) (c + c')
inductive GsM : Nat → List (Str × List PyData) → Nat → Prop
  | nil {f : Nat} : GsM f [] 0
  | cons {f c c' : Nat} {s : Str} {ds : List PyData} {ms : List (Str × List PyData)} : okT (codesOf s) → (codesOf s).length ≤ 100 → ds.length ≤ 3 → GsL f ds c → GsM f ms c' → GsM f ((s, ds) :: ms) (c + c')
end
theorem GsL.app {f : Nat} : ∀ {ds es : List PyData} {c c' : Nat}, GsL f ds c → GsL f es c' → GsL f (ds ++ es) (c + c')
  | [], es, _, c', .nil, h => by rw [Nat.zero_add]; exact h
  | _ :: _, es, _, c', .cons h t, h' => by rw [Nat.add_assoc]; exact .cons h (t.app h')
theorem Gi.gs {d : PyData} (h : Gi d) (f : Nat) : Gs f d 1 := by
  cases h with
  | @word z h =>
    refine .var ⟨?_, ?_, fun e => by subst e; exact absurd h (by decide +kernel)⟩
    · have : codesOf z ∈ [[110, 105, 108], [116, 114, 117, 101], [102, 97, 108, 115, 101]] := h
      simp only [List.mem_cons, List.not_mem_nil, or_false] at this
      rcases this with h | h | h <;> rw [h] <;> exact ⟨by decide, by decide⟩
    · have : codesOf z ∈ [[110, 105, 108], [116, 114, 117, 101], [102, 97, 108, 115, 101]] := h
      simp only [List.mem_cons, List.not_mem_nil, or_false] at this
      rcases this with h | h | h <;> rw [h] <;> decide
  | int h1 h2 => exact .int h1 h2
  | str h h2 => exact .str h h2
  | sym h h2 => exact .sym h h2
theorem Gf.gs {d : PyData} (h : Gf d) (f : Nat) : Gs f d 1 := by
  cases h with
  | int h1 h2 => exact .int h1 h2
  | str h h2 => exact .str h h2
  | sym h h2 => exact .sym h h2
  | var h h2 => exact .var (name_okN h h2)
mutual
theorem Ga.gs : ∀ {n c : Nat} {d : PyData}, Ga n d c → ∀ f, n ≤ f → Gs f d c
  | n + 1, _, _, .mk h, f, hf => by
    obtain ⟨k, hk⟩ : ∃ k, f = k + 1 := ⟨f - 1, by omega⟩
    rw [hk]
    exact .arr (h.gs k (by omega))
termination_by structural _ _ _ h => h
theorem GaL.gs : ∀ {n c : Nat} {ds : List PyData}, GaL n ds c → ∀ f, n ≤ f → GsL f ds c
  | _, _, _, .nil, _, _ => .nil
  | _, _, _, .leaf h t, f, hf => .cons (h.gs f) (t.gs f hf)
  | _, _, _, .arr h t, f, hf => .cons (h.gs f hf) (t.gs f hf)
termination_by structural _ _ _ h => h
end
theorem not_ret {z : Str} {r : List PyData} (h : z ∈ [kI, kS, kY, kA, kV, kSet, kSend, kSuper, kCasc, kBlock]) : isRet (.tuple (.str z :: r)) = false := by
  show decide (V.str z = V.str kRet) = false
  have n : kRet ∉ [kI, kS, kY, kA, kV, kSet, kSend, kSuper, kCasc, kBlock] := by decide +kernel
  exact decide_eq_false fun e => n (by injection e with e; exact e ▸ h)
theorem Gt.noret {ks : List (Str × Bool)} {e c : Nat} {d : PyData} (h : Gt ks e d c) : isRet d = false := by
  cases h with
  | leaf h => cases h <;> exact not_ret (by simp)
  | arr h _ => cases h; exact not_ret (by simp)
  | set => exact not_ret (by simp)
  | send => exact not_ret (by simp)
  | super => exact not_ret (by simp)
  | casc => exact not_ret (by simp)
  | block => exact not_ret (by simp)
theorem GtL.noret {ks : List (Str × Bool)} {e : Nat} : ∀ {ds : List PyData} {c : Nat}, GtL ks e ds c → ∀ x ∈ ds.map isRet, x = false
  | [], _, .nil, x, hx => by cases hx
  | _ :: _, _, .cons h t, x, hx => by
    rw [List.map_cons] at hx
    rcases List.mem_cons.mp hx with e | hx
    · rw [e]; exact h.noret
    · exact t.noret x hx
theorem GtS.nr {ks : List (Str × Bool)} {e c : Nat} {ds : List PyData} (h : GtS ks e ds c) : ∀ x ∈ (ds.map isRet).dropLast, x = false := by
  cases h with
  | plain h => exact fun x hx => h.noret x (List.dropLast_subset _ hx)
  | ret h _ =>
    rw [List.map_append, List.map_cons, List.map_nil, List.dropLast_concat]
    exact h.noret
mutual
theorem Gt.gs : ∀ {ks : List (Str × Bool)} {e c : Nat} {d : PyData}, Gt ks e d c → ∀ f, 2 * e + 3 ≤ f → Gs f d c
  | _, _, _, _, .leaf h, f, _ => h.gs f
  | _, _, _, _, .arr h _, f, hf => h.gs f (by omega)
  | _, _, _, _, .set h1 _ h, f, hf => by
    obtain ⟨k, hk⟩ : ∃ k, f = k + 1 := ⟨f - 1, by omega⟩
    rw [hk]
    exact .set (local_okN h1) (h.gs k (by omega))
  | _, _, _, _, .send h hs hl t, f, hf => by
    obtain ⟨k, hk⟩ : ∃ k, f = k + 1 := ⟨f - 1, by omega⟩
    rw [hk]
    exact .send (h.gs k (by omega)) (sel_okT hs) (sel_len hs) hl (t.gs k (by omega))
  | _, _, _, _, .super hs hl t, f, hf => by
    obtain ⟨k, hk⟩ : ∃ k, f = k + 1 := ⟨f - 1, by omega⟩
    rw [hk]
    exact .super (sel_okT hs) (sel_len hs) hl (t.gs k (by omega))
  | _, _, _, _, .casc h _ h3 t, f, hf => by
    obtain ⟨k, hk⟩ : ∃ k, f = k + 1 := ⟨f - 1, by omega⟩
    rw [hk]
    exact .casc (h.gs k (by omega)) h3 (t.gs k (by omega))
  | _, _, _, _, .block h1 h2 h3 _ h5 t, f, hf => by
    obtain ⟨k, hk⟩ : ∃ k, f = k + 1 := ⟨f - 1, by omega⟩
    rw [hk]
    exact .block h1 h2 (fun x hx => local_okN (h3 x (List.mem_append_left _ hx))) (fun x hx => local_okN (h3 x (List.mem_append_right _ hx))) h5 t.nr (t.gs k (by omega))
termination_by structural _ _ _ _ h => h
theorem GtL.gs : ∀ {ks : List (Str × Bool)} {e c : Nat} {ds : List PyData}, GtL ks e ds c → ∀ f, 2 * e + 3 ≤ f → GsL f ds c
  | _, _, _, _, .nil, _, _ => .nil
  | _, _, _, _, .cons h t, f, hf => .cons (h.gs f hf) (t.gs f hf)
termination_by structural _ _ _ _ h => h
theorem GtM.gs : ∀ {ks : List (Str × Bool)} {e c : Nat} {ms : List (Str × List PyData)}, GtM ks e ms c → ∀ f, 2 * e + 3 ≤ f → GsM f ms c
  | _, _, _, _, .nil, _, _ => .nil
  | _, _, _, _, .cons hs hl h t, f, hf => .cons (sel_okT hs) (sel_len hs) hl (h.gs f hf) (t.gs f hf)
termination_by structural _ _ _ _ h => h
theorem GtS.gs : ∀ {ks : List (Str × Bool)} {e c : Nat} {ds : List PyData}, GtS ks e ds c → ∀ f, 2 * e + 4 ≤ f → GsL f ds c
  | _, _, _, _, .plain h, f, hf => h.gs f (by omega)
  | _, _, _, _, .ret (c := c) (c' := c') h h2, f, hf => by
    obtain ⟨k, hk⟩ : ∃ k, f = k + 1 := ⟨f - 1, by omega⟩
    rw [hk]
    exact (h.gs (k + 1) (by omega)).app (.cons (c := c' + 1) (c' := 0) (.ret (h2.gs k (by omega))) .nil)
termination_by structural _ _ _ _ h => h
end
/-! ### how they are shown -/
theorem key_ok : ∀ z ∈ [kI, kS, kY, kA, kV, kSet, kSend, kSuper, kCasc, kBlock, kRet, kMeth], okT (codesOf z) ∧ (codesOf z).length ≤ 7 := by
  intro z hz
  simp only [List.mem_cons, List.not_mem_nil, or_false] at hz
  rcases hz with rfl | rfl | rfl | rfl | rfl | rfl | rfl | rfl | rfl | rfl | rfl | rfl <;> exact ⟨⟨by decide +kernel, by decide +kernel⟩, by decide +kernel⟩
theorem sh_key {z : Str} (hz : z ∈ [kI, kS, kY, kA, kV, kSet, kSend, kSuper, kCasc, kBlock, kRet, kMeth]) (n : Nat) : Sh (.str z) n 72 := sh_str (key_ok z hz).1 n (key_ok z hz).2
theorem Gs.pos : ∀ {f c : Nat} {d : PyData}, Gs f d c → 0 < c
  | _, _, _, .int _ _ => Nat.one_pos
  | _, _, _, .str _ _ => Nat.one_pos
  | _, _, _, .sym _ _ => Nat.one_pos
  | _, _, _, .var _ => Nat.one_pos
  | _, _, _, .arr _ => Nat.succ_pos _
  | _, _, _, .set _ _ => Nat.succ_pos _
  | _, _, _, .ret _ => Nat.succ_pos _
  | _, _, _, .send _ _ _ _ _ => Nat.succ_pos _
  | _, _, _, .super _ _ _ _ => Nat.succ_pos _
  | _, _, _, .casc _ _ _ => Nat.succ_pos _
  | _, _, _, .block _ _ _ _ _ _ _ => Nat.succ_pos _
  | _, _, _, .meth _ _ _ _ _ _ _ _ _ => Nat.succ_pos _
mutual
theorem Gs.sh : ∀ {f c : Nat} {d : PyData}, Gs f d c → Sh d (4 * f + 1) (5000 * c - 10)
  | f, _, _, .int h1 h2 => (sh_tup (shl_cons (sh_key (by simp) (4 * f)) (shl_cons (sh_int h1 h2 (4 * f)) (shl_nil _)))).le (by omega) (by omega)
  | f, _, _, .str h1 h2 => (sh_tup (shl_cons (sh_key (by simp) (4 * f)) (shl_cons (sh_str h1 (4 * f) h2) (shl_nil _)))).le (by omega) (by omega)
  | f, _, _, .sym h1 h2 => (sh_tup (shl_cons (sh_key (by simp) (4 * f)) (shl_cons (sh_str h1 (4 * f) h2) (shl_nil _)))).le (by omega) (by omega)
  | f, _, _, .var h => (sh_tup (shl_cons (sh_key (by simp) (4 * f)) (shl_cons (sh_str h.1 (4 * f) h.2) (shl_nil _)))).le (by omega) (by omega)
  | f + 1, _, _, .arr h => (sh_tup (shl_cons (sh_key (by simp) (4 * f + 2)) (shl_cons (sh_tup h.sh) (shl_nil _)))).le (by omega) (by omega)
  | f + 1, _, _, .set (c := c) hz h => by
    have := h.pos
    exact (sh_tup (shl_cons (sh_key (by simp) (4 * f + 1)) (shl_cons (sh_str hz.1 _ hz.2) (shl_cons h.sh (shl_nil _))))).le (by omega) (by omega)
  | f + 1, _, _, .ret (c := c) h => by
    have := h.pos
    exact (sh_tup (shl_cons (sh_key (by simp) (4 * f + 1)) (shl_cons h.sh (shl_nil _)))).le (by omega) (by omega)
  | f + 1, _, _, .send (c := c) (c' := c') h hs hl _ t => by
    have := h.pos
    exact (sh_tup (shl_cons (sh_key (by simp) (4 * f + 2)) (shl_cons (h.sh.le (by omega) (Nat.le_refl _)) (shl_cons (sh_str hs _ hl) (shl_cons (sh_tup t.sh) (shl_nil _)))))).le (by omega) (by omega)
  | f + 1, _, _, .super hs hl _ t => (sh_tup (shl_cons (sh_key (by simp) (4 * f + 2)) (shl_cons (sh_str hs _ hl) (shl_cons (sh_tup t.sh) (shl_nil _))))).le (by omega) (by omega)
  | f + 1, _, _, .casc (c := c) (c' := c') (ms := ms) h hl t => by
    have := h.pos
    have ht := t.sh
    exact (sh_tup (shl_cons (sh_key (by simp) (4 * f + 4)) (shl_cons (h.sh.le (by omega) (Nat.le_refl _)) (shl_cons (sh_tup ht) (shl_nil _))))).le (by omega) (by omega)
  | f + 1, _, _, .block (ps := ps) (vs := vs) h1 h2 h3 h4 _ _ t => (sh_tup (shl_cons (sh_key (by simp) (4 * f + 2)) (shl_cons (sh_tup (shl_names (fun z hz => ⟨(h3 z hz).1, (h3 z hz).2⟩) (4 * f + 1))) (shl_cons (sh_tup (shl_names (fun z hz => ⟨(h4 z hz).1, (h4 z hz).2⟩) (4 * f + 1))) (shl_cons (sh_tup t.sh) (shl_nil _)))))).le (by omega) (by omega)
  | f + 1, _, _, .meth (ps := ps) (vs := vs) hs hsl h1 h2 h3 h4 _ _ t => (sh_tup (shl_cons (sh_key (by simp) (4 * f + 2)) (shl_cons (sh_str hs _ hsl) (shl_cons (sh_tup (shl_names (fun z hz => ⟨(h3 z hz).1, (h3 z hz).2⟩) (4 * f + 1))) (shl_cons (sh_tup (shl_names (fun z hz => ⟨(h4 z hz).1, (h4 z hz).2⟩) (4 * f + 1))) (shl_cons (sh_tup t.sh) (shl_nil _))))))).le (by omega) (by omega)
termination_by structural _ _ _ h => h
theorem GsL.sh : ∀ {f c : Nat} {ds : List PyData}, GsL f ds c → ShL ds (4 * f + 1) (5000 * c)
  | f, _, _, .nil => shl_nil _
  | f, _, _, .cons (c := c) (c' := c') h t => by
    have := h.pos
    exact (shl_cons h.sh t.sh).le (Nat.le_refl _) (by omega)
termination_by structural _ _ _ h => h
theorem GsM.sh : ∀ {f c : Nat} {ms : List (Str × List PyData)}, GsM f ms c → ShL (ms.map msgD) (4 * f + 3) (5000 * c + 1020 * ms.length)
  | f, _, _, .nil => (shl_nil _).le (Nat.le_refl _) (Nat.zero_le _)
  | f, _, _, .cons (c := c) (c' := c') (ms := ms) hs hl _ h t => by
    refine (shl_cons (sh_tup (shl_cons (sh_str hs (4 * f + 2) hl) (shl_cons (sh_tup h.sh) (shl_nil _)))) t.sh).le (by omega) ?_
    rw [List.length_cons]
    omega
termination_by structural _ _ _ h => h
end
end My8

end
section
set_option Elab.async false
set_option linter.all false
set_option maxRecDepth 100000
set_option maxHeartbeats 2000000
namespace My8
open PySem PySem.Spec PyProof.Rows L2 My
open TrM TL
theorem noL_list {ds : List PyData} (h : ∀ d ∈ ds, NoL d) : NoL (.tuple ds) := .tup h
theorem noL_names (ps : List Str) : NoL (.tuple (ps.map .str)) := .tup fun d hd => by
  obtain ⟨z, _, rfl⟩ := List.mem_map.mp hd
  exact .str z
theorem noL_cons {d : PyData} {ds : List PyData} (h : NoL d) (t : ∀ d ∈ ds, NoL d) : ∀ x ∈ d :: ds, NoL x := fun x hx => by
  rcases List.mem_cons.mp hx with e | hx
  · rw [e]; exact h
  · exact t x hx
theorem noL_nil : ∀ x ∈ ([] : List PyData), NoL x := fun x hx => by cases hx
mutual
theorem Gs.nol : ∀ {f c : Nat} {d : PyData}, Gs f d c → NoL d
  | _, _, _, .int _ _ => .tup (noL_cons (.str _) (noL_cons (.int _) noL_nil))
  | _, _, _, .str _ _ => .tup (noL_cons (.str _) (noL_cons (.str _) noL_nil))
  | _, _, _, .sym _ _ => .tup (noL_cons (.str _) (noL_cons (.str _) noL_nil))
  | _, _, _, .var _ => .tup (noL_cons (.str _) (noL_cons (.str _) noL_nil))
  | _, _, _, .arr h => .tup (noL_cons (.str _) (noL_cons (.tup h.nol) noL_nil))
  | _, _, _, .set _ h => .tup (noL_cons (.str _) (noL_cons (.str _) (noL_cons h.nol noL_nil)))
  | _, _, _, .ret h => .tup (noL_cons (.str _) (noL_cons h.nol noL_nil))
  | _, _, _, .send h _ _ _ t => .tup (noL_cons (.str _) (noL_cons h.nol (noL_cons (.str _) (noL_cons (.tup t.nol) noL_nil))))
  | _, _, _, .super _ _ _ t => .tup (noL_cons (.str _) (noL_cons (.str _) (noL_cons (.tup t.nol) noL_nil)))
  | _, _, _, .casc h _ t => .tup (noL_cons (.str _) (noL_cons h.nol (noL_cons (.tup t.nol) noL_nil)))
  | _, _, _, .block _ _ _ _ _ _ t => .tup (noL_cons (.str _) (noL_cons (noL_names _) (noL_cons (noL_names _) (noL_cons (.tup t.nol) noL_nil))))
  | _, _, _, .meth _ _ _ _ _ _ _ _ t => .tup (noL_cons (.str _) (noL_cons (.str _) (noL_cons (noL_names _) (noL_cons (noL_names _) (noL_cons (.tup t.nol) noL_nil)))))
termination_by structural _ _ _ h => h
theorem GsL.nol : ∀ {f c : Nat} {ds : List PyData}, GsL f ds c → ∀ d ∈ ds, NoL d
  | _, _, _, .nil => noL_nil
  | _, _, _, .cons h t => noL_cons h.nol t.nol
termination_by structural _ _ _ h => h
theorem GsM.nol : ∀ {f c : Nat} {ms : List (Str × List PyData)}, GsM f ms c → ∀ d ∈ ms.map msgD, NoL d
  | _, _, _, .nil => noL_nil
  | _, _, _, .cons _ _ _ h t => noL_cons (.tup (noL_cons (.str _) (noL_cons (.tup h.nol) noL_nil))) t.nol
termination_by structural _ _ _ h => h
end
theorem swap_okN {n o z : Str} {b : Bool} (hz : okN z) (ho : okN o) : okN (swap n o b z) := by
  unfold swap
  split
  · exact ho
  · exact hz
theorem swaps_okN {n o : Str} {ps : List Str} (h : ∀ x ∈ ps, okN x) (ho : okN o) : ∀ x ∈ ps.map (swap n o true), okN x := fun x hx => by
  obtain ⟨z, hz, rfl⟩ := List.mem_map.mp hx
  exact swap_okN (h z hz) ho
theorem ren_ret {n o : Str} {m : Nat} {b : Bool} {d e : PyData} (h : Ren n o m b d e) : isRet e = isRet d := by cases h <;> rfl
theorem rens_ret {n o : Str} {m : Nat} {b : Bool} : ∀ {ds es : List PyData}, Rens n o m b ds es → es.map isRet = ds.map isRet
  | _, _, .nil => rfl
  | _, _, .cons h t => by rw [List.map_cons, List.map_cons, ren_ret h, rens_ret t]
/-! ### they can be renamed -/
mutual
theorem Gs.ren : ∀ {f c : Nat} {d : PyData}, Gs f d c → ∀ m, f + 1 ≤ m → ∀ (n o : Str) (_ : okN o) (b : Bool), ∃ e, Ren n o m b d e ∧ Gs f e c
  | f, _, _, .int h1 h2, m, hm, n, o, ho, b => by
    obtain ⟨k, hk⟩ : ∃ k, m = k + 1 := ⟨m - 1, by omega⟩
    rw [hk]
    exact ⟨_, .leaf (by simp), .int h1 h2⟩
  | f, _, _, .str h1 h2, m, hm, n, o, ho, b => by
    obtain ⟨k, hk⟩ : ∃ k, m = k + 1 := ⟨m - 1, by omega⟩
    rw [hk]
    exact ⟨_, .leaf (by simp), .str h1 h2⟩
  | f, _, _, .sym h1 h2, m, hm, n, o, ho, b => by
    obtain ⟨k, hk⟩ : ∃ k, m = k + 1 := ⟨m - 1, by omega⟩
    rw [hk]
    exact ⟨_, .leaf (by simp), .sym h1 h2⟩
  | f, _, _, .var h, m, hm, n, o, ho, b => by
    obtain ⟨k, hk⟩ : ∃ k, m = k + 1 := ⟨m - 1, by omega⟩
    rw [hk]
    exact ⟨_, .var, .var (swap_okN h ho)⟩
  | f + 1, _, _, .arr h, m, hm, n, o, ho, b => by
    obtain ⟨k, hk⟩ : ∃ k, m = k + 1 := ⟨m - 1, by omega⟩
    rw [hk]
    exact ⟨_, .leaf (by simp), .arr h⟩
  | f + 1, _, _, .set hz h, m, hm, n, o, ho, b => by
    obtain ⟨k, hk⟩ : ∃ k, m = k + 1 := ⟨m - 1, by omega⟩
    rw [hk]
    obtain ⟨e, h1, h2⟩ := h.ren k (by omega) n o ho b
    exact ⟨_, .set h1, .set (swap_okN hz ho) h2⟩
  | f + 1, _, _, .ret h, m, hm, n, o, ho, b => by
    obtain ⟨k, hk⟩ : ∃ k, m = k + 1 := ⟨m - 1, by omega⟩
    rw [hk]
    obtain ⟨e, h1, h2⟩ := h.ren k (by omega) n o ho b
    exact ⟨_, .ret h1, .ret h2⟩
  | f + 1, _, _, .send h hs hl h3 t, m, hm, n, o, ho, b => by
    obtain ⟨k, hk⟩ : ∃ k, m = k + 1 := ⟨m - 1, by omega⟩
    rw [hk]
    obtain ⟨e, h1, h2⟩ := h.ren k (by omega) n o ho b
    obtain ⟨es, t1, t2, t3⟩ := t.ren k (by omega) n o ho b
    exact ⟨_, .send h1 t1 (by omega), .send h2 hs hl (by omega) t2⟩
  | f + 1, _, _, .super hs hl h3 t, m, hm, n, o, ho, b => by
    obtain ⟨k, hk⟩ : ∃ k, m = k + 1 := ⟨m - 1, by omega⟩
    rw [hk]
    obtain ⟨es, t1, t2, t3⟩ := t.ren k (by omega) n o ho b
    exact ⟨_, .super t1 (by omega), .super hs hl (by omega) t2⟩
  | f + 1, _, _, .casc h h3 t, m, hm, n, o, ho, b => by
    obtain ⟨k, hk⟩ : ∃ k, m = k + 1 := ⟨m - 1, by omega⟩
    rw [hk]
    obtain ⟨e, h1, h2⟩ := h.ren k (by omega) n o ho b
    obtain ⟨es, t1, t2, t3⟩ := t.ren k (by omega) n o ho b
    exact ⟨_, .casc h1 t1 (by omega), .casc h2 (by omega) t2⟩
  | f + 1, _, _, .block h1 h2 h3 h4 h5 nr t, m, hm, n, o, ho, b => by
    obtain ⟨k, hk⟩ : ∃ k, m = k + 1 := ⟨m - 1, by omega⟩
    rw [hk]
    obtain ⟨es, t1, t2, t3⟩ := t.ren k (by omega) n o ho _
    exact ⟨_, .block t1 (by omega) (by omega) (by omega), .block (by rw [List.length_map]; exact h1) (by rw [List.length_map]; exact h2) (swaps_okN h3 ho) (swaps_okN h4 ho) (by omega) (by rw [rens_ret t1]; exact nr) t2⟩
  | f + 1, _, _, .meth hs hl h1 h2 h3 h4 h5 nr t, m, hm, n, o, ho, b => by
    obtain ⟨k, hk⟩ : ∃ k, m = k + 1 := ⟨m - 1, by omega⟩
    rw [hk]
    obtain ⟨es, t1, t2, t3⟩ := t.ren k (by omega) n o ho _
    exact ⟨_, .meth t1 (by omega) (by omega) (by omega), .meth hs hl (by rw [List.length_map]; exact h1) (by rw [List.length_map]; exact h2) (swaps_okN h3 ho) (swaps_okN h4 ho) (by omega) (by rw [rens_ret t1]; exact nr) t2⟩
termination_by structural _ _ _ h => h
theorem GsL.ren : ∀ {f c : Nat} {ds : List PyData}, GsL f ds c → ∀ m, f + 1 ≤ m → ∀ (n o : Str) (_ : okN o) (b : Bool), ∃ es, Rens n o m b ds es ∧ GsL f es c ∧ es.length = ds.length
  | _, _, _, .nil, _, _, _, _, _, _ => ⟨_, .nil, .nil, rfl⟩
  | _, _, _, .cons h t, m, hm, n, o, ho, b => by
    obtain ⟨e, h1, h2⟩ := h.ren m hm n o ho b
    obtain ⟨es, t1, t2, t3⟩ := t.ren m hm n o ho b
    exact ⟨_, .cons h1 t1, .cons h2 t2, by rw [List.length_cons, List.length_cons, t3]⟩
termination_by structural _ _ _ h => h
theorem GsM.ren : ∀ {f c : Nat} {ms : List (Str × List PyData)}, GsM f ms c → ∀ m, f + 1 ≤ m → ∀ (n o : Str) (_ : okN o) (b : Bool), ∃ es, RenMs n o m b ms es ∧ GsM f es c ∧ es.length = ms.length
  | _, _, _, .nil, _, _, _, _, _, _ => ⟨_, .nil, .nil, rfl⟩
  | _, _, _, .cons hs hl h3 h t, m, hm, n, o, ho, b => by
    obtain ⟨e, h1, h2, h4⟩ := h.ren m hm n o ho b
    obtain ⟨es, t1, t2, t3⟩ := t.ren m hm n o ho b
    exact ⟨_, .cons h1 (by omega) t1, .cons hs hl (by omega) h2 t2, by rw [List.length_cons, List.length_cons, t3]⟩
termination_by structural _ _ _ h => h
end
/-! ### their rows -/
mutual
inductive Pre : Nat → PyData → List Str → Nat → List RowD → Prop
  | mk {n k j : Nat} {d : PyData} {ds : List PyData} {b ns : List Str} {rows : List RowD} : Parts d ds → Own d ns j → PreL n ds (b ++ ns) (k + j) rows → Pre (n + 1) d b k ((d, b ++ ns, k) :: rows)
inductive PreL : Nat → List PyData → List Str → Nat → List RowD → Prop
  | nil {n k : Nat} {b : List Str} : PreL n [] b k []
  | cons {n k : Nat} {d : PyData} {ds : List PyData} {b : List Str} {r rs : List RowD} : Pre n d b k r → PreL n ds b k rs → PreL n (d :: ds) b k (r ++ rs)
end
theorem PreL.app {n k : Nat} {b : List Str} : ∀ {ds es : List PyData} {r rs : List RowD}, PreL n ds b k r → PreL n es b k rs → PreL n (ds ++ es) b k (r ++ rs)
  | [], _, _, _, .nil, h => h
  | _ :: _, _, _, _, .cons h t, h' => by rw [List.append_assoc]; exact .cons h (t.app h')
mutual
theorem Pre.rows : ∀ {n k : Nat} {d : PyData} {b : List Str} {r : List RowD}, Pre n d b k r → ∀ rest rr, Rows rest rr → Rows ((d, b, k) :: rest) (r ++ rr)
  | _, _, _, _, _, .mk hp ho h, rest, rr, hr => .cons hp ho (h.rows rest rr hr)
termination_by structural _ _ _ _ _ h => h
theorem PreL.rows : ∀ {n k : Nat} {ds : List PyData} {b : List Str} {r : List RowD}, PreL n ds b k r → ∀ rest rr, Rows rest rr → Rows (ds.map (fun x => (x, b, k)) ++ rest) (r ++ rr)
  | _, _, _, _, _, .nil, rest, rr, hr => hr
  | _, _, _, _, _, .cons h t, rest, rr, hr => by
    rw [List.append_assoc]
    exact h.rows _ _ (t.rows rest rr hr)
termination_by structural _ _ _ _ _ h => h
end
/-- the bounds of rows -/
def RB (B : Nat) (rows : List RowD) : Prop := ∀ r ∈ rows, r.2.1.length ≤ B ∧ (declR r).length ≤ 8 ∧ (selR r).length ≤ 3
theorem rb_nil (B : Nat) : RB B [] := fun r hr => by cases hr
theorem rb_app {B : Nat} {r s : List RowD} (h : RB B r) (h' : RB B s) : RB B (r ++ s) := fun x hx => (List.mem_append.mp hx).elim (h x) (h' x)
theorem rb_cons {B : Nat} {r : RowD} {s : List RowD} (h : r.2.1.length ≤ B ∧ (declR r).length ≤ 8 ∧ (selR r).length ≤ 3) (h' : RB B s) : RB B (r :: s) := fun x hx => by
  rcases List.mem_cons.mp hx with e | hx
  · rw [e]; exact h
  · exact h' x hx
theorem RB.le {B C : Nat} {r : List RowD} (h : RB B r) (hc : B ≤ C) : RB C r := fun x hx => ⟨Nat.le_trans (h x hx).1 hc, (h x hx).2⟩
theorem decl_other {z : Str} {r : List PyData} (h1 : z ≠ kBlock) (h2 : z ≠ kMeth) (b : List Str) (k : Nat) : declR (.tuple (.str z :: r), b, k) = [] := decl_none (in_two h2 h1) b k
theorem sel_other {z : Str} {r : List PyData} (h1 : z ≠ kSend) (h2 : z ≠ kSuper) (h3 : z ≠ kCasc) (b : List Str) (k : Nat) : selR (.tuple (.str z :: r), b, k) = [] := sel_none (in_two h1 h2) (decide_eq_false fun e => h3 (by injection e)) b k
theorem row_leaf {z : Str} {r : List PyData} (hz : z ∈ [kI, kS, kY, kA, kV, kSet, kRet]) (b : List Str) (k : Nat) : (declR (.tuple (.str z :: r), b, k)).length ≤ 8 ∧ (selR (.tuple (.str z :: r), b, k)).length ≤ 3 := by
  have n : ∀ w : Str, w ∉ [kI, kS, kY, kA, kV, kSet, kRet] → z ≠ w := fun w hw e => hw (e ▸ hz)
  rw [decl_other (n _ (by decide +kernel)) (n _ (by decide +kernel)), sel_other (n _ (by decide +kernel)) (n _ (by decide +kernel)) (n _ (by decide +kernel))]
  exact ⟨Nat.zero_le _, Nat.zero_le _⟩
theorem own_leaf {z : Str} {r : List PyData} (hz : z ∈ [kI, kS, kY, kA, kV, kSet, kRet, kSend, kSuper, kCasc]) : Own (.tuple (.str z :: r)) [] 0 := by
  have n : ∀ w : Str, w ∉ [kI, kS, kY, kA, kV, kSet, kRet, kSend, kSuper, kCasc] → z ≠ w := fun w hw e => hw (e ▸ hz)
  exact .other (n _ (by decide +kernel)) (n _ (by decide +kernel))
end My8

end
section
set_option Elab.async false
set_option linter.all false
set_option maxRecDepth 100000
set_option maxHeartbeats 2000000
namespace My8
open PySem PySem.Spec PyProof.Rows L2 My
open TrM TL
abbrev s_law_leaf : Stmt := top 64
/-! ### what changes: lists alone -/
def Lists (H H' : Hp) : Prop := ∀ a o, H a = some o → H' a = some o ∨ ∃ xs, o = HO.lst xs
theorem Same.lists {H H' : Hp} (s : Same H H') : Lists H H' := fun a o e => .inl (s a o e)
theorem Lists.trans {H H1 H2 : Hp} (h : Lists H H1) (k : Lists H1 H2) : Lists H H2 := fun a o e => (h a o e).elim (fun q => k a o q) .inr
theorem lists_upd {H : Hp} {p : Addr} {xs zs : List V} (hp : H p = some (.lst xs)) : Lists H (upd H p (.lst zs)) := fun a o e => by
  by_cases h : a = p
  · subst h
    rw [hp] at e
    exact .inr ⟨xs, by injection e with e; exact e.symm⟩
  · exact .inl (by rw [upd_ne h]; exact e)
theorem sqt_lists {K : PySem.W.Frag} {H H' : Hp} (l : Lists H H') {a : Addr} {ys : List V} (h : SqT K H a ys) : SqT K H' a ys := by
  rcases h with (h | ⟨o, h⟩) | h
  · rcases l _ _ h with q | ⟨xs, q⟩
    · exact .inl (.inl q)
    · cases q
  · rcases l _ _ h with q | ⟨xs, q⟩
    · exact .inl (.inr ⟨o, q⟩)
    · cases q
  · exact .inr h
theorem dp_lists {K : PySem.W.Frag} {H H' : Hp} (l : Lists H H') {d : PyData} (hd : NoL d) : ∀ {v : V}, Dp K H v d → Dp K H' v d := by
  induction hd with
  | int i => intro v h; cases h; exact .int i
  | str z => intro v h; cases h; exact .str z
  | @tup ds hnl ih =>
    intro v h
    obtain ⟨a, ys, rfl, h1, h2⟩ := dp_tup h
    refine Dp.tup (sqt_lists l h1) ?_
    clear h1 h hnl
    induction ds generalizing ys with
    | nil => cases h2; exact .nil
    | cons d ds ih2 =>
      cases h2 with
      | cons g1 g2 => exact .cons (ih d List.mem_cons_self g1) (ih2 (fun e he => ih e (List.mem_cons_of_mem _ he)) _ g2)
theorem dpAll_lists {K : PySem.W.Frag} {H H' : Hp} (l : Lists H H') : ∀ {ds : List PyData} (_ : ∀ d ∈ ds, NoL d) {vs : List V}, DpAll K H vs ds → DpAll K H' vs ds
  | [], _, _, .nil => .nil
  | d :: _, hn, _, .cons h t => .cons (dp_lists l (hn d List.mem_cons_self) h) (dpAll_lists l (fun e he => hn e (List.mem_cons_of_mem _ he)) t)
theorem bag_lst {H : Hp} {b : Addr} {n : Nat} (h : BagAt H b n) : ∃ xs, H b = some (.lst xs) := by
  obtain ⟨x, y, z, h1, _⟩ := h
  exact ⟨_, h1⟩
theorem Went.lists {b : Addr} {n n0 : Nat} {H H' : Hp} (w : Went b n H H') (h : BagAt H b n0) : Lists H H' := fun a o e => by
  by_cases c : a = b
  · subst c
    obtain ⟨xs, hx⟩ := bag_lst h
    rw [hx] at e
    exact .inr ⟨xs, by injection e with e; exact e.symm⟩
  · exact .inl (w.rest a o c e)
/-- bag and room have gone on, all else stands -/
structure Went2 (b rr : Addr) (m : Nat) (r : Int) (H H' : Hp) : Prop where
  bag : BagAt H' b m
  room : H' rr = some (.lst [.int r])
  rest : ∀ a o, a ≠ b → a ≠ rr → H a = some o → H' a = some o
theorem bag_room {H : Hp} {b rr : Addr} {n : Nat} {r : Int} (h : BagAt H b n) (h2 : H rr = some (.lst [.int r])) : rr ≠ b := fun e => by
  obtain ⟨x, y, z, h1, _⟩ := h
  rw [e, h1] at h2
  injection h2 with h2
  injection h2 with h2
  injection h2 with _ h2
  cases h2
theorem Went.two {b rr : Addr} {m n : Nat} {r : Int} {H H' : Hp} (w : Went b m H H') (hb : BagAt H b n) (h : H rr = some (.lst [.int r])) : Went2 b rr m r H H' := ⟨w.bag, w.rest _ _ (bag_room hb h) h, fun a o h1 _ e => w.rest a o h1 e⟩
theorem Went2.trans {b rr : Addr} {m m' : Nat} {r r' : Int} {H H1 H2 : Hp} (w : Went2 b rr m r H H1) (u : Went2 b rr m' r' H1 H2) : Went2 b rr m' r' H H2 := ⟨u.bag, u.room, fun a o h1 h2 e => u.rest a o h1 h2 (w.rest a o h1 h2 e)⟩
theorem Went2.same {b rr : Addr} {m : Nat} {r : Int} {H H1 H2 : Hp} (w : Went2 b rr m r H H1) (s : Same H1 H2) : Went2 b rr m r H H2 := by
  obtain ⟨x, y, z, hb, hB⟩ := w.bag
  exact ⟨⟨x, y, z, s b _ hb, hB⟩, s _ _ w.room, fun a o h1 h2 e => s a o (w.rest a o h1 h2 e)⟩
theorem Went2.refl {b rr : Addr} {m : Nat} {r : Int} {H : Hp} (hb : BagAt H b m) (h : H rr = some (.lst [.int r])) : Went2 b rr m r H H := ⟨hb, h, fun _ _ _ _ e => e⟩
theorem Went2.lists {b rr : Addr} {m n : Nat} {r r0 : Int} {H H' : Hp} (w : Went2 b rr m r H H') (hb : BagAt H b n) (h : H rr = some (.lst [.int r0])) : Lists H H' := fun a o e => by
  by_cases c : a = b
  · subst c
    obtain ⟨xs, hx⟩ := bag_lst hb
    rw [hx] at e
    exact .inr ⟨xs, by injection e with e; exact e.symm⟩
  by_cases c2 : a = rr
  · subst c2
    rw [h] at e
    exact .inr ⟨_, by injection e with e; exact e.symm⟩
  exact .inl (w.rest a o c c2 e)
theorem Went2.free {b rr : Addr} {m : Nat} {r : Int} {H H' : Hp} (w : Went2 b rr m r H H') {p : Addr} (h : H' p = none) : H p = none := by
  cases e : H p with
  | none => rfl
  | some o =>
    by_cases c : p = b
    · subst c
      obtain ⟨xs, hx⟩ := bag_lst w.bag
      rw [hx] at h; cases h
    by_cases c2 : p = rr
    · subst c2
      rw [w.room] at h; cases h
    · rw [w.rest p o c c2 e] at h; cases h
/-- the room is set -/
theorem Went2.set {b rr : Addr} {m : Nat} {r r' : Int} {H H' : Hp} (w : Went2 b rr m r H H') : Went2 b rr m r' H (upd H' rr (.lst [.int r'])) := by
  have hne := bag_room w.bag w.room
  obtain ⟨x, y, z, hb, hB⟩ := w.bag
  exact ⟨⟨x, y, z, by rw [upd_ne (Ne.symm hne)]; exact hb, hB⟩, upd_same, fun a o h1 h2 e => by rw [upd_ne h2]; exact w.rest a o h1 h2 e⟩
/-- one of a list's texts is taken -/
theorem pick_at {K : PySem.W.Frag} {σ : L2.St} {H : Hp} {b p : Addr} {n i j : Nat} {zs : List Str} {Q : VK} (hi : σ[i]? = some (some (.ref b))) (hj : σ[j]? = some (some (.ref p))) (hb : BagAt H b n) (hn : n < 1000000) (hp : H p = some (.lst (zs.map V.str))) (hpb : p ≠ b) (h0 : 0 < zs.length) (h1 : zs.length < 1000000)
    (q : ∀ z H', z ∈ zs → Went b (n + 1) H H' → Q (.str z) H') : tCall (spPick K) [] E0 (tCons (tVar i) (tCons (tVar j) tNil)) σ H Q := by
  obtain ⟨x, y, z, hb0, hB⟩ := hb
  refine ⟨_, hi, _, hj, b, n, x, y, z, hb0, hB, hn, .inl ⟨p, zs.map V.str, rfl, .inl fun x' y' z' => SqL.of (by rw [upd_ne hpb]; exact hp), by rw [List.length_map]; exact h0, by rw [List.length_map]; exact h1, fun k v x' y' z' hv hB' => ?_⟩⟩
  rw [List.getElem?_map] at hv
  obtain ⟨u, hu, rfl⟩ := Option.map_eq_some_iff.mp hv
  exact q u _ (List.mem_of_getElem? hu) ⟨⟨x', y', z', upd_same, hB'⟩, fun a o c e => by rw [upd_ne c]; exact e⟩
theorem went_tup {b : Addr} {n : Nat} {H H' : Hp} {t : Addr} {o : HO} (w : Went b n H H') (nt : H' t = none) : Went b n H (upd H' t o) := w.same (same_upd nt)
def dsLeafA : List PyData := [.str "nil", .str "self", .str "O"]
theorem leafA_ok {d : PyData} (h : d ∈ dsLeafA) : ∃ z : Str, d = .str z ∧ Tok.IsName (codesOf z) ∧ z ≠ Str.ofString "super" := by
  unfold dsLeafA at h
  simp only [List.mem_cons, List.not_mem_nil, or_false] at h
  rcases h with h | h | h <;> subst h
  all_goals exact ⟨_, rfl, (nameB_iff _).mp (by decide +kernel), by decide +kernel⟩
def dsLeafB : List PyData := [.str "self", .str "nil", .str "true", .str "false", .str "Object", .str "Zz9", .str "true"]
theorem leafB_ok {d : PyData} (h : d ∈ dsLeafB) : ∃ z : Str, d = .str z ∧ Tok.IsName (codesOf z) ∧ z ≠ Str.ofString "super" := by
  unfold dsLeafB at h
  simp only [List.mem_cons, List.not_mem_nil, or_false] at h
  rcases h with h | h | h | h | h | h | h <;> subst h
  all_goals exact ⟨_, rfl, (nameB_iff _).mp (by decide +kernel), by decide +kernel⟩
/-- a leaf -/
def spLeaf (K : PySem.W.Frag) : Sp := fun vs H Q _ => ∃ (b pp rr : Addr) (n : Nat) (ns : List Str) (r : Int), vs = [.ref b, .ref pp, .ref rr] ∧ BagAt H b n ∧ n < 880000 ∧ H pp = some (.lst (ns.map V.str)) ∧ ns.length = 4 ∧ (∀ z ∈ ns, localB (codesOf z) = true) ∧ pp ≠ b ∧ H rr = some (.lst [.int r]) ∧
  ∀ v d m H', Gf d → Dp K H' v d → m ≤ n + 128 → Went b m H H' → Q v H'
section
variable {P : Program} {w : World} {K : PySem.W.Frag} {mg : Str → Option Value} {base : Heap}
theorem sc_law_leaf : FnScope ["_law_bag_here", "_law_pool_here", "_law_room", "_law_way"] ["_law_bag_here", "_law_pool_here", "_law_room"] (defScope s_law_leaf) := ⟨rfl, rfl, rfl, by decide +kernel, rfl, by decide +kernel, by decide +kernel⟩
theorem ok_leaf {f fK fT fI fX fS : Addr} {fd fdK fdT fdI fdX fdS : FuncData} (F : FnP K "_law_leaf" s_law_leaf f fd) (G_law_pick : FnOk P w K mg base CX0 3 fK fdK ["_law_bag_here", "_law_things"] (spPick K)) (g_law_pick : mg "_law_pick" = some (.ref fK)) (k_law_pick : PySem.W.keepIn K (.ref fK) = true) (b_law_pick : Binds K fdK ["_law_bag_here", "_law_things"] [])
    (G_law_take : FnOk P w K mg base CX0 2 fT fdT ["_law_bag_here", "_law_many"] spTakeW) (g_law_take : mg "_law_take" = some (.ref fT)) (k_law_take : PySem.W.keepIn K (.ref fT) = true) (b_law_take : Binds K fdT ["_law_bag_here", "_law_many"] [])
    (G_law_integer : FnOk P w K mg base CX0 3 fI fdI ["_law_bag_here"] spInt8) (g_law_integer : mg "_law_integer" = some (.ref fI)) (k_law_integer : PySem.W.keepIn K (.ref fI) = true) (b_law_integer : Binds K fdI ["_law_bag_here"] [])
    (G_law_text : FnOk P w K mg base CX0 4 fX fdX ["_law_bag_here"] spLText) (g_law_text : mg "_law_text" = some (.ref fX)) (k_law_text : PySem.W.keepIn K (.ref fX) = true) (b_law_text : Binds K fdX ["_law_bag_here"] [])
    (G_law_symbol : FnOk P w K mg base CX0 6 fS fdS ["_law_bag_here"] spSym8) (g_law_symbol : mg "_law_symbol" = some (.ref fS)) (k_law_symbol : PySem.W.keepIn K (.ref fS) = true) (b_law_symbol : Binds K fdS ["_law_bag_here"] []) :
    FnOk P w K mg base CX0 7 f fd ["_law_bag_here", "_law_pool_here", "_law_room"] (spLeaf K) := by
  refine F.ok sc_law_leaf (fun vs H Q E h => ?_) (fun cdv A outer s H vs Q E hr h => ⟨_, PSs.nox
    (pss_cons (ps_set (i := 3) sc_law_leaf.nd rfl (Or.inl rfl) (pe_call G_law_take (hr.mono (by decide)) rfl g_law_take k_law_take b_law_take .nil pass0 (pa_cons (pv 0) (pa_cons pe_int pa_nil))))
      (pss_cons (ps_if (PW.pt (pw_or (pt_cmpR op_lt (pe_ix ix_list (pv 2) pe_int (fun _ _ => rfl)) pe_int (nomark _)) (pw_or1 (pt_cmpR op_gt (pv 3) pe_int (nomark _))))) (pss_one (ps_ret (pe_ifExp (pt_cmpR op_ge (pe_ix ix_list (pv 2) pe_int (fun _ _ => rfl)) pe_int (nomark _)) (pe_tup (pa_cons pe_str (pa_cons (pe_call G_law_pick (hr.mono (by decide)) rfl g_law_pick k_law_pick b_law_pick .nil pass0 (pa_cons (pv 0) (pa_cons (pv 1) pa_nil))) pa_nil))) (pe_tup (pa_cons pe_str (pa_cons (pe_call G_law_pick (hr.mono (by decide)) rfl g_law_pick k_law_pick b_law_pick .nil pass0 (pa_cons (pv 0) (pa_cons (pe_lst (pa_cons pe_str (pa_cons pe_str (pa_cons pe_str pa_nil)))) pa_nil))) pa_nil)))))) pss_nil)
      (pss_cons (ps_if (pt_cmpR op_eq (pv 3) pe_int (nomark _)) (pss_one (ps_ret (pe_tup (pa_cons pe_str (pa_cons (pe_call G_law_integer (hr.mono (by decide)) rfl g_law_integer k_law_integer b_law_integer .nil pass0 (pa_cons (pv 0) pa_nil)) pa_nil))))) pss_nil)
      (pss_cons (ps_if (pt_cmpR op_eq (pv 3) pe_int (nomark _)) (pss_one (ps_ret (pe_tup (pa_cons pe_str (pa_cons (pe_call G_law_text (hr.mono (by decide)) rfl g_law_text k_law_text b_law_text .nil pass0 (pa_cons (pv 0) pa_nil)) pa_nil))))) pss_nil)
      (pss_cons (ps_if (pt_cmpR op_eq (pv 3) pe_int (nomark _)) (pss_one (ps_ret (pe_tup (pa_cons pe_str (pa_cons (pe_call G_law_symbol (hr.mono (by decide)) rfl g_law_symbol k_law_symbol b_law_symbol .nil pass0 (pa_cons (pv 0) pa_nil)) pa_nil))))) pss_nil)
      (pss_one (ps_ret (pe_tup (pa_cons pe_str (pa_cons (pe_call G_law_pick (hr.mono (by decide)) rfl g_law_pick k_law_pick b_law_pick .nil pass0 (pa_cons (pv 0) (pa_cons (pe_lst (pa_cons pe_str (pa_cons pe_str (pa_cons pe_str (pa_cons pe_str (pa_cons pe_str (pa_cons pe_str (pa_cons pe_str pa_nil)))))))) pa_nil))) pa_nil)))))))))), ?_⟩)
  · obtain ⟨b, pp, rr, n, ns, r, rfl, _⟩ := h
    rfl
  obtain ⟨b, pp, rr, n, ns, r, rfl, hb, hn, hp, hl, hlo, hpb, hrr, q⟩ := h
  have hrb := bag_room hb hrr
  refine took rfl hb (by omega) (by decide) (by decide) (fun Q h => h) fun k H1 k0 k1 W1 => ?_
  have hr1 := W1.rest _ _ hrb hrr
  have hp1 := W1.rest _ _ hpb hp
  have two : ∀ (kk : Str) (u : V) (d : PyData) (m : Nat) (H2 : Hp), Gf (.tuple [.str kk, d]) → (∀ H', Dp K H' u d) → m ≤ n + 128 → Went b m H H2 → ([V.str kk, u].length ≤ sizeLine ∧ ∀ t, H2 t = none → Q (.ref t) (upd H2 t (.tup [V.str kk, u]))) := fun kk u d m H2 hg hu hm W => ⟨(by show 2 ≤ sizeLine; decide), fun t nt => q _ _ m _ hg (Dp.tup (SqT.of upd_same) (.cons (.str _) (.cons (hu _) .nil))) hm (went_tup W nt)⟩
  dsimp only [gName, tSeq, tNext]
  refine if_ev (H0 := H1) (b := (decide (r < 0) || decide (4 < k))) (evt_or (evt_test fun H' Q hs kk => ⟨_, rfl, _, _, _, _, rfl, rfl, SqL.of (hs _ _ hr1), rfl, _, _, rfl, rfl, kk _ hs⟩) fun _ => evt_test fun H' Q hs kk => ⟨_, rfl, _, _, rfl, rfl, kk _ hs⟩) (Same.refl H1) (fun ht H2 s2 => ?_) (fun ht H2 s2 => ?_)
  · have W2 := W1.same s2
    refine ⟨_, rfl, _, _, _, _, rfl, rfl, SqL.of (s2 _ _ hr1), rfl, _, _, rfl, rfl, decide (0 ≤ r), rfl, ?_⟩
    cases h0 : decide (0 ≤ r) with
    | true =>
      refine iteT ?_
      refine pick_at rfl rfl W2.bag (by omega) (s2 _ _ hp1) hpb (by omega) (by omega) fun z H3 hz W3 => ?_
      exact two _ _ _ _ _ (.var (local_name (hlo z hz)) (local_super (hlo z hz))) (fun _ => .str _) (by omega) (W2.trans W3)
    | false =>
      refine iteF ?_
      refine pick_lst (K := K) (ds := dsLeafA) rfl W2.bag (by omega) ?e1 (by decide) (by decide) fun d v D H3 hd hv hD W3 => ?_
      case e1 => (repeat' (first | exact evds_nil | exact evd_int | exact evd_str | refine evds_cons ?_ ?_))
      obtain ⟨z, rfl, h1, h2⟩ := leafA_ok hd
      cases hv
      exact two _ _ _ _ _ (.var h1 h2) (fun _ => .str _) (by omega) (W2.trans W3)
  dsimp only [tSeq, tNext]
  refine if_ev (H0 := H1) (b := decide (V.int k = V.int 0)) (evt_test fun H' Q hs kk => ⟨_, rfl, rfl, kk _ hs⟩) s2 (fun ht H3 s3 => ?_) (fun ht H3 s3 => ?_)
  · have W3 := W1.same s3
    exact ⟨_, rfl, b, _, rfl, W3.bag, by omega, fun i m H4 h1 h2 hm W4 => two _ _ _ _ _ (.int h1 h2) (fun _ => .int _) (by omega) (W3.trans W4)⟩
  dsimp only [tSeq, tNext]
  refine if_ev (H0 := H1) (b := decide (V.int k = V.int 1)) (evt_test fun H' Q hs kk => ⟨_, rfl, rfl, kk _ hs⟩) s3 (fun ht H4 s4 => ?_) (fun ht H4 s4 => ?_)
  · have W4 := W1.same s4
    exact ⟨_, rfl, b, _, rfl, W4.bag, by omega, fun z m H5 h1 h2 hm W5 => two _ _ _ _ _ (.str (ok_okT h1 (by omega)) (by omega)) (fun _ => .str _) (by omega) (W4.trans W5)⟩
  dsimp only [tSeq, tNext]
  refine if_ev (H0 := H1) (b := decide (V.int k = V.int 2)) (evt_test fun H' Q hs kk => ⟨_, rfl, rfl, kk _ hs⟩) s4 (fun ht H5 s5 => ?_) (fun ht H5 s5 => ?_)
  · have W5 := W1.same s5
    exact ⟨_, rfl, b, _, rfl, W5.bag, by omega, fun z m H6 h1 h2 hm W6 => two _ _ _ _ _ (.sym h1 h2) (fun _ => .str _) (by omega) (W5.trans W6)⟩
  have W5 := W1.same s5
  refine pick_lst (K := K) (ds := dsLeafB) rfl W5.bag (by omega) ?e2 (by decide) (by decide) fun d v D H6 hd hv hD W6 => ?_
  case e2 => (repeat' (first | exact evds_nil | exact evd_int | exact evd_str | refine evds_cons ?_ ?_))
  obtain ⟨z, rfl, h1, h2⟩ := leafB_ok hd
  cases hv
  exact two _ _ _ _ _ (.var h1 h2) (fun _ => .str _) (by omega) (W5.trans W6)
end
end My8

end
section
set_option Elab.async false
set_option linter.all false
set_option maxRecDepth 100000
set_option maxHeartbeats 2000000
namespace My8
open PySem PySem.Spec PyProof.Rows L2 My
open TrM TL
abbrev s_law_array : Stmt := top 65
/-! ### a piece: a kind and what stands in it -/
def Pc (K : PySem.W.Frag) (H : Hp) (v : V) (d : PyData) : Prop := ∃ (t : Addr) (kk : Str) (u : V) (e : PyData), v = .ref t ∧ d = .tuple [.str kk, e] ∧ SqT K H t [.str kk, u] ∧ Dp K H u e ∧
  ((∃ z, u = .str z) ∨ (∃ i : Int, u = .int i ∧ i.natAbs.log2 < 1920) ∨ (∃ a, u = .ref a ∧ Showy e)) ∧ (strD e).length ≤ 16000000
theorem log_60 {i : Int} (h1 : -(10 ^ 60) < i) (h2 : i < 10 ^ 60) : i.natAbs.log2 < 1920 := by
  have hp : (10 : Int) ^ 60 < 2 ^ 210 := by decide
  have : i.natAbs < 2 ^ 210 := by
    have e : (2 ^ 210 : Int) = ((2 ^ 210 : Nat) : Int) := rfl
    omega
  by_cases h0 : i.natAbs = 0
  · rw [h0]; decide
  · have := (Nat.log2_lt h0).mpr this
    omega
theorem pc_str {K : PySem.W.Frag} {H : Hp} {v : V} {kk z : Str} (hz : (codesOf z).length ≤ 100) (h : Dp K H v (.tuple [.str kk, .str z])) : Pc K H v (.tuple [.str kk, .str z]) := by
  obtain ⟨t, u, rfl, h1, h2⟩ := dp_two h
  obtain rfl := dp_str h2
  exact ⟨t, kk, _, _, rfl, rfl, h1, h2, .inl ⟨_, rfl⟩, Nat.le_trans (show z.length ≤ 100 from hz) (by decide)⟩
theorem pc_int {K : PySem.W.Frag} {H : Hp} {v : V} {kk : Str} {i : Int} (h1 : -(10 ^ 60) < i) (h2 : i < 10 ^ 60) (h : Dp K H v (.tuple [.str kk, .int i])) : Pc K H v (.tuple [.str kk, .int i]) := by
  obtain ⟨t, u, rfl, h3, h4⟩ := dp_two h
  cases h4
  refine ⟨t, kk, _, _, rfl, rfl, h3, .int i, .inr (.inl ⟨_, rfl, log_60 h1 h2⟩), ?_⟩
  have := int_text_len_1921 (log_60 h1 h2)
  have e : strD (.int i) = toString i := by unfold strD; simp only [PyData.shown]
  rw [e]
  exact Nat.le_trans this (by decide)
theorem Gf.pc {K : PySem.W.Frag} {H : Hp} {v : V} {d : PyData} (h : Gf d) (hd : Dp K H v d) : Pc K H v d := by
  cases h with
  | int h1 h2 => exact pc_int h1 h2 hd
  | str _ h => exact pc_str h hd
  | sym _ h => exact pc_str h hd
  | var h _ => exact pc_str (Nat.le_trans h.le (by decide)) hd
theorem Gi.pc {K : PySem.W.Frag} {H : Hp} {v : V} {d : PyData} (h : Gi d) (hd : Dp K H v d) : Pc K H v d := by
  have hg := h.gs 0
  cases h with
  | int h1 h2 => exact pc_int h1 h2 hd
  | str _ h => exact pc_str h hd
  | sym _ h => exact pc_str h hd
  | word h =>
    cases hg with
    | var h => exact pc_str (Nat.le_trans h.2 (by decide)) hd
theorem Ga.pc {K : PySem.W.Frag} {H : Hp} {v : V} {n c : Nat} {d : PyData} (h : Ga n d c) (hn : n ≤ 3) (hc : c ≤ 1000) (hd : Dp K H v d) : Pc K H v d := by
  cases h with
  | @mk n c ds h =>
    obtain ⟨t, u, rfl, h1, h2⟩ := dp_two hd
    obtain ⟨a, xs, rfl, _, _⟩ := dp_tup h2
    have hs := (sh_tup (h.gs n (Nat.le_refl _)).sh).showy (by omega) (by omega)
    exact ⟨t, _, _, _, rfl, rfl, h1, h2, .inr (.inr ⟨a, rfl, hs⟩), hs.len⟩
theorem GaL.app {n : Nat} : ∀ {ds es : List PyData} {c c' : Nat}, GaL n ds c → GaL n es c' → GaL n (ds ++ es) (c + c')
  | [], es, _, c', .nil, h => by rw [Nat.zero_add]; exact h
  | _ :: _, es, _, c', .leaf h t, h' => by rw [Nat.add_assoc]; exact .leaf h (t.app h')
  | _ :: _, es, _, c', .arr h t, h' => by rw [Nat.add_assoc]; exact .arr h (t.app h')
theorem Went2.list {b rr p : Addr} {m : Nat} {r : Int} {H H' : Hp} {o : HO} (w : Went2 b rr m r H H') (hp : H p = none) (hb : p ≠ b) (hr : p ≠ rr) : Went2 b rr m r H (upd H' p o) := by
  obtain ⟨x, y, z, hb0, hB⟩ := w.bag
  refine ⟨⟨x, y, z, by rw [upd_ne (Ne.symm hb)]; exact hb0, hB⟩, by rw [upd_ne (Ne.symm hr)]; exact w.room, fun a u h1 h2 e => ?_⟩
  rw [upd_ne (ne_of_none e hp)]
  exact w.rest a u h1 h2 e
theorem Went2.ne {b rr p : Addr} {m : Nat} {r : Int} {H H' : Hp} (w : Went2 b rr m r H H') (hp : H' p = none) : p ≠ b ∧ p ≠ rr := by
  obtain ⟨x, y, z, hb0, hB⟩ := w.bag
  exact ⟨fun e => (by rw [e, hb0] at hp; cases hp), fun e => (by rw [e, w.room] at hp; cases hp)⟩
theorem Went2.went {b rr : Addr} {m m' : Nat} {r : Int} {H H1 H2 : Hp} (w : Went2 b rr m r H H1) (u : Went b m' H1 H2) : Went2 b rr m' r H H2 := w.trans (Went.two u w.bag w.room)
def aT : Nat → Nat
  | 0 => 130
  | n + 1 => 3 * aT n + 4
def aA : Nat → Nat
  | 0 => 1
  | n + 1 => 3 * aA n + 1
theorem aT_pos : ∀ n, 130 ≤ aT n
  | 0 => Nat.le_refl _
  | n + 1 => by have := aT_pos n; show 130 ≤ 3 * aT n + 4; omega
theorem aA_pos : ∀ n, 1 ≤ aA n
  | 0 => Nat.le_refl _
  | n + 1 => by show 1 ≤ 3 * aA n + 1; omega
theorem aA_le {n : Nat} (h : n ≤ 3) : aA n ≤ 40 := by
  have : n = 0 ∨ n = 1 ∨ n = 2 ∨ n = 3 := by omega
  rcases this with rfl | rfl | rfl | rfl <;> decide
def dsArrW : List PyData := [.str "nil", .str "true", .str "false"]
theorem arrW_ok {d : PyData} (h : d ∈ dsArrW) : ∃ z : Str, d = .str z ∧ codesOf z ∈ spoken := by
  unfold dsArrW at h
  simp only [List.mem_cons, List.not_mem_nil, or_false] at h
  rcases h with h | h | h <;> subst h
  all_goals exact ⟨_, rfl, by decide +kernel⟩
def dsArrK : List PyData := [.str "str", .str "sym"]
theorem arrK_ok {d : PyData} (h : d ∈ dsArrK) : d = .str kS ∨ d = .str kY := by
  unfold dsArrK at h
  simp only [List.mem_cons, List.not_mem_nil, or_false] at h
  rcases h with h | h <;> subst h
  · exact .inl rfl
  · exact .inr rfl
/-- an array, so deep -/
def spArr (K : PySem.W.Frag) (n : Nat) : Sp := fun vs H Q _ => ∃ (b rr : Addr) (n0 j : Nat) (r : Int), n = j + 1 ∧ j ≤ 2 ∧ vs = [.ref b, .int (j : Int), .ref rr] ∧ BagAt H b n0 ∧ n0 + aT n ≤ 880000 ∧ H rr = some (.lst [.int r]) ∧
  ∀ (v : V) (d : PyData) (c m : Nat) (r' : Int) (H' : Hp), Ga n d c → c ≤ aA n → Dp K H' v d → m ≤ n0 + aT n → r' ≤ r → Went2 b rr m r' H H' → Q v H'
section
variable {P : Program} {w : World} {K : PySem.W.Frag} {mg : Str → Option Value} {base : Heap}
theorem sc_law_array : FnScope ["_law_bag_here", "_law_deep", "_law_room", "_law_items", "_law_turn", "_law_way"] ["_law_bag_here", "_law_deep", "_law_room"] (defScope s_law_array) := ⟨rfl, rfl, rfl, by decide +kernel, rfl, by decide +kernel, by decide +kernel⟩
theorem ok_array {f fK fT fI fS : Addr} {fd fdK fdT fdI fdS : FuncData} {k n : Nat} (F : FnP K "_law_array" s_law_array f fd) (hk7 : 7 ≤ k) (G_law_array : GnOk P w K mg base CX0 k f fd ["_law_bag_here", "_law_deep", "_law_room"] (spArr K n)) (g_law_array : mg "_law_array" = some (.ref f)) (k_law_array : PySem.W.keepIn K (.ref f) = true) (b_law_array : Binds K fd ["_law_bag_here", "_law_deep", "_law_room"] [])
    (G_law_pick : FnOk P w K mg base CX0 k fK fdK ["_law_bag_here", "_law_things"] (spPick K)) (g_law_pick : mg "_law_pick" = some (.ref fK)) (k_law_pick : PySem.W.keepIn K (.ref fK) = true) (b_law_pick : Binds K fdK ["_law_bag_here", "_law_things"] [])
    (G_law_take : FnOk P w K mg base CX0 k fT fdT ["_law_bag_here", "_law_many"] spTakeW) (g_law_take : mg "_law_take" = some (.ref fT)) (k_law_take : PySem.W.keepIn K (.ref fT) = true) (b_law_take : Binds K fdT ["_law_bag_here", "_law_many"] [])
    (G_law_integer : FnOk P w K mg base CX0 k fI fdI ["_law_bag_here"] spInt8) (g_law_integer : mg "_law_integer" = some (.ref fI)) (k_law_integer : PySem.W.keepIn K (.ref fI) = true) (b_law_integer : Binds K fdI ["_law_bag_here"] [])
    (G_law_symbol : FnOk P w K mg base CX0 k fS fdS ["_law_bag_here"] spSym8) (g_law_symbol : mg "_law_symbol" = some (.ref fS)) (k_law_symbol : PySem.W.keepIn K (.ref fS) = true) (b_law_symbol : Binds K fdS ["_law_bag_here"] [])
    (g_range : mg "range" = none) (g_tuple : mg "tuple" = none) (g_len : mg "len" = none) (g_str : mg "str" = none) (g_int : mg "int" = none) :
    GnOk P w K mg base CX0 (k + 1) f fd ["_law_bag_here", "_law_deep", "_law_room"] (spArr K (n + 1)) := by
  refine gn_of F sc_law_array (fun vs H Q E h => ?_) (fun cdv A outer s H vs Q E hg hr h => ⟨_, PSs.nox
    (pss_cons (ps_set (i := 3) sc_law_array.nd rfl (Or.inl rfl) (pe_lst pa_nil))
      (pss_cons (ps_for PassesOwn.never rfl (pi_range1 (by rfl) g_range (pa_cons (pe_call G_law_take (hr.mono (Nat.le_refl _)) rfl g_law_take k_law_take b_law_take .nil pass0 (pa_cons (pv 0) (pa_cons pe_int pa_nil))) pa_nil)) (pg_name (i := 4) sc_law_array.nd rfl (Or.inl rfl)) (pss_cons (ps_set (i := 5) sc_law_array.nd rfl (Or.inl rfl) (pe_call G_law_take (hr.mono (Nat.le_refl _)) rfl g_law_take k_law_take b_law_take .nil pass0 (pa_cons (pv 0) (pa_cons pe_int pa_nil))))
      (pss_cons (ps_if (PW.pt (pw_and (pt_cmpR op_eq (pv 5) pe_int (nomark _)) (pw_and (pt_cmpR op_gt (pv 1) pe_int (nomark _)) (pw_and1 (pt_cmpR op_ge (pe_ix ix_list (pv 2) pe_int (fun _ _ => rfl)) pe_int (nomark _)))))) (pss_one (ps_expr (pe_bm PySem.F.plainAttrs_list PySem.F.slot_list_append PySem.F.type_list_append mt_append (pv 3) (pa_cons (pe_callG G_law_array hg (hr.mono (Nat.le_refl _)) rfl g_law_array k_law_array b_law_array .nil pass0 (pa_cons (pv 0) (pa_cons (pe_op op_sub (pv 1) pe_int) (pa_cons (pv 2) pa_nil)))) pa_nil)))) (pss_one (ps_if (PW.pt (pw_or (pt_cmpR op_lt (pv 5) pe_int (nomark _)) (pw_or1 (pt_cmpR op_lt (pe_ix ix_list (pv 2) pe_int (fun _ _ => rfl)) pe_int (nomark _))))) (pss_one (ps_expr (pe_bm PySem.F.plainAttrs_list PySem.F.slot_list_append PySem.F.type_list_append mt_append (pv 3) (pa_cons (pe_tup (pa_cons pe_str (pa_cons (pe_call G_law_pick (hr.mono (Nat.le_refl _)) rfl g_law_pick k_law_pick b_law_pick .nil pass0 (pa_cons (pv 0) (pa_cons (pe_lst (pa_cons pe_str (pa_cons pe_str (pa_cons pe_str pa_nil)))) pa_nil))) pa_nil))) pa_nil)))) (pss_one (ps_if (pt_cmpR op_eq (pv 5) pe_int (nomark _)) (pss_one (ps_expr (pe_bm PySem.F.plainAttrs_list PySem.F.slot_list_append PySem.F.type_list_append mt_append (pv 3) (pa_cons (pe_tup (pa_cons pe_str (pa_cons (pe_call G_law_integer (hr.mono (Nat.le_refl _)) rfl g_law_integer k_law_integer b_law_integer .nil pass0 (pa_cons (pv 0) pa_nil)) pa_nil))) pa_nil)))) (pss_one (ps_expr (pe_bm PySem.F.plainAttrs_list PySem.F.slot_list_append PySem.F.type_list_append mt_append (pv 3) (pa_cons (pe_tup (pa_cons (pe_call G_law_pick (hr.mono (Nat.le_refl _)) rfl g_law_pick k_law_pick b_law_pick .nil pass0 (pa_cons (pv 0) (pa_cons (pe_lst (pa_cons pe_str (pa_cons pe_str pa_nil))) pa_nil))) (pa_cons (pe_call G_law_symbol (hr.mono (Nat.le_refl _)) rfl g_law_symbol k_law_symbol b_law_symbol .nil pass0 (pa_cons (pv 0) pa_nil)) pa_nil))) pa_nil)))))))))
      (pss_one (ps_asg (pe_op op_sub (pe_op op_sub (pe_ix ix_list (pv 2) pe_int (fun _ _ => rfl)) pe_int) (pe_op op_mulW (pe_callB call_len_str (by rfl) g_len PySem.boot_len (pa_cons (pe_callTy (cr_strD hg hr.units) (by rfl) g_str (by decide +kernel) (pa_cons (pe_ix ix_tup (pe_ix ix_list (pv 3) (pe_un un_neg pe_int) (fun _ _ => rfl)) pe_int (fun _ _ => rfl)) pa_nil)) pa_nil)) (pe_callTy call_int1 (by rfl) g_int (by decide +kernel) (pa_cons (pe_cmpR op_ne (pe_ix ix_tup (pe_ix ix_list (pv 3) (pe_un un_neg pe_int) (fun _ _ => rfl)) pe_int (fun _ _ => rfl)) pe_str (nomark _)) pa_nil)))) (pg_sub (pv 2) pe_int set_list))))))
      (pss_one (ps_ret (pe_tup (pa_cons pe_str (pa_cons (pe_callTy call_tuple_of (by rfl) g_tuple (by decide +kernel) (pa_cons (pv 3) pa_nil)) pa_nil))))))), ?_⟩)
  · obtain ⟨b, rr, n0, j, r, _, _, rfl, _⟩ := h
    rfl
  obtain ⟨b, rr, n0, j, r, hj, hj2, rfl, hb, hn, hrr, q⟩ := h
  obtain rfl : n = j := by omega
  have hrb := bag_room hb hrr
  have hT := aT_pos n
  have hT1 : aT (n + 1) = 3 * aT n + 4 := rfl
  have hA1 : aA (n + 1) = 3 * aA n + 1 := rfl
  have hA := aA_pos n
  have hA3 := aA_le (n := n) (by omega)
  dsimp only [tSeq, tNext]
  refine ⟨(by show 0 ≤ sizeLine; decide), fun L nL => ?_⟩
  have W0 : Went2 b rr n0 r H (upd H L (.lst [])) := (Went2.refl hb hrr).same (same_upd nL)
  have hLb : L ≠ b := ((Went2.refl hb hrr).ne nL).1
  have hLr : L ≠ rr := ((Went2.refl hb hrr).ne nL).2
  have hL0 : (upd H L (.lst [])) L = some (.lst []) := upd_same
  generalize upd H L (.lst []) = H1 at W0 hL0 ⊢
  refine took rfl W0.bag (by omega) (by decide) (by decide) (fun Q h => h) fun t H2 t0 t1 W2 => ?_
  have W2 := W0.went W2
  have hL2 : H2 L = some (.lst []) := by rw [‹Went b (n0 + 1) H1 H2›.rest _ _ hLb hL0]
  obtain ⟨tn, rfl⟩ : ∃ tn : Nat, t = (tn : Int) := ⟨t.toNat, by omega⟩
  have htn : tn ≤ 3 := by omega
  have hA' : ∀ i : Nat, i ≤ 3 → i * aA n ≤ 3 * aA n := fun i hi => Nat.mul_le_mul_right _ hi
  have hT' : ∀ i : Nat, i ≤ 3 → i * (aT n + 1) ≤ 3 * (aT n + 1) := fun i hi => Nat.mul_le_mul_right _ hi
  refine ⟨_, rfl, by omega, by omega, for_range (lo := 0) (fun i σ H' => ∃ (ys : List V) (ds : List PyData) (c m : Nat) (r' : Int) (x4 x5 : Option V), σ = [some (.ref b), some (.int (n : Int)), some (.ref rr), some (.ref L), x4, x5] ∧ H' L = some (.lst ys) ∧ DpAll K H' ys ds ∧ GaL n ds c ∧ ds.length = i ∧ c ≤ i * aA n ∧ m ≤ n0 + 1 + i * (aT n + 1) ∧ r' ≤ r ∧ Went2 b rr m r' H H') ⟨[], [], 0, n0 + 1, r, _, _, rfl, hL2, .nil, .nil, rfl, Nat.zero_le _, by omega, by omega, W2⟩ ?turn ?last⟩
  case last =>
    rintro σ H3 ⟨ys, ds, c, m, r', x4, x5, rfl, hL, hD, hG, hl, hc, hm, hr', W⟩
    have hc : c ≤ tn * aA n := hc
    have hm : m ≤ n0 + 1 + tn * (aT n + 1) := hm
    have := hA' tn htn
    have := hT' tn htn
    refine ⟨_, rfl, L, ys, rfl, .inl ⟨SqL.of hL, fun p np => ⟨(by show 2 ≤ sizeLine; decide), fun u nu => ?_⟩⟩⟩
    have s1 := same_upd (o := HO.tup ys) np
    have s2 := same_upd (o := HO.tup [V.str kA, .ref p]) nu
    exact q _ _ (c + 1) m r' _ (.mk hG) (by omega) (Dp.tup (SqT.of upd_same) (.cons (.str _) (.cons (Dp.tup (SqT.mono s2 (SqT.of upd_same)) (dp_monoAll (s1.trans s2) _ _ hD)) .nil))) (by omega) hr' (W.same (s1.trans s2))
  case turn =>
    rintro i σ H3 hi ⟨ys, ds, c, m, r', x4, x5, rfl, hL, hD, hG, hl, hc, hm, hr', W⟩
    have hi : i < tn := by simpa using hi
    have e1 := hT' i (by omega)
    have e2 := hT' (i + 1) (by omega)
    have e3 := hA' (i + 1) (by omega)
    have e4 : (i + 1) * aA n = i * aA n + aA n := Nat.succ_mul _ _
    have e5 : (i + 1) * (aT n + 1) = i * (aT n + 1) + (aT n + 1) := Nat.succ_mul _ _
    dsimp only [tSeq, tNext]
    refine took rfl W.bag (by omega) (by decide) (by decide) (fun Q h => h) fun way H4 w0 w1 W4 => ?_
    have hL4 := W4.rest _ _ hLb hL
    have hD4 := dpAll_lists (Went.lists W4 W.bag) (fun d hd => (hG.gs n (Nat.le_refl _)).nol d hd) hD
    have W4 := W.went W4
    dsimp only [gName, tNext]
    have hyl : ys.length = i := by have := dpAll_length hD; omega
    refine seq_join (fun σ' H' => ∃ (v : V) (d : PyData) (c' m' : Nat) (r2 : Int) (x4' x5' : Option V), σ' = [some (.ref b), some (.int (n : Int)), some (.ref rr), some (.ref L), x4', x5'] ∧ H' L = some (.lst (ys ++ [v])) ∧ DpAll K H' ys ds ∧ Dp K H' v d ∧ (Gi d ∧ c' = 1 ∨ Ga n d c') ∧ c' ≤ aA n ∧ m' ≤ n0 + 1 + (i + 1) * (aT n + 1) ∧ r2 ≤ r ∧ Went2 b rr m' r2 H H') (fun D' hD' => ?_) ?fin
    case fin =>
      rintro σ' H5 ⟨v, d, c', m', r2, x4', x5', rfl, hL5, hD5, hd, hdc, hc', hm', hr2, W5⟩
      have pc : Pc K H5 v d := by
        rcases hdc with ⟨h, _⟩ | h
        · exact h.pc hd
        · exact h.pc (by omega) (by omega) hd
      obtain ⟨tt, kk, u, e, rfl, hde, hTT, hu, hx, hlen⟩ := pc
      have hix := atI_last ys (V.ref tt)
      refine ⟨_, rfl, _, _, _, _, rfl, rfl, SqL.of W5.room, rfl, _, _, rfl, rfl, _, rfl, _, rfl, _, _, _, _, rfl, rfl, SqL.of hL5, hix, _, _, _, _, rfl, rfl, hTT, atI_nat rfl, u, e, rfl, hu, hx, _, rfl, Nat.le_trans hlen (by decide), ?_⟩
      refine ⟨_, rfl, _, rfl, _, _, _, _, rfl, rfl, SqL.of hL5, hix, _, _, _, _, rfl, rfl, hTT, atI_nat rfl, rfl, .inr ⟨_, rfl, ?_⟩⟩
      refine ⟨_, _, rfl, rfl, wide_mul (a := 30) (b := 4) (by show ((strD e).length : Int).natAbs < 2 ^ 30; rw [Int.natAbs_natCast]; exact Nat.lt_of_le_of_lt hlen (by decide)) (by split <;> decide) (by decide) (by decide) (by decide), _, _, rfl, rfl, ?_⟩
      have hz : (0 : Int) ≤ ((strD e).length : Int) * (if (!decide (V.str kk = V.str (Str.ofString "arr"))) = true then 1 else 0) := Int.mul_nonneg (Int.natCast_nonneg _) (by split <;> decide)
      generalize ((strD e).length : Int) * (if (!decide (V.str kk = V.str (Str.ofString "arr"))) = true then 1 else 0) = zz at hz ⊢
      refine ⟨_, rfl, rr, _, _, 0, rfl, rfl, W5.room, rfl, ?_⟩
      have hrL : rr ≠ L := Ne.symm hLr
      have ll := lists_upd (zs := [V.int (r2 - 8 - zz)]) W5.room
      refine ⟨ys ++ [V.ref tt], ds ++ [d], c + c', m', r2 - 8 - zz, _, _, rfl, ?_, ?_, ?_, by simp [hl], by omega, by omega, by omega, W5.set⟩
      · show upd H5 rr _ L = _
        rw [upd_ne hLr]; exact hL5
      · have hnd : NoL d := by
          rcases hdc with ⟨h, _⟩ | h
          · exact (h.gs 0).nol
          · exact (h.gs n (Nat.le_refl _)).nol
        exact dpAll_app (dpAll_lists ll (fun d hd => (hG.gs n (Nat.le_refl _)).nol d hd) hD5) (.cons (dp_lists ll hnd hd) .nil)
      · rcases hdc with ⟨h, rfl⟩ | h
        · exact hG.app (.leaf (c := 0) h .nil)
        · exact hG.app (.arr (c' := 0) h .nil)
    have fin : ∀ (v : V) (d : PyData) (c' m' : Nat) (r2 : Int) (H5 : Hp) (x4' x5' : Option V), (Gi d ∧ c' = 1 ∨ Ga n d c') → c' ≤ aA n → Dp K H5 v d → m' ≤ m + 1 + aT n → r2 ≤ r' → Went2 b rr m' r2 H4 H5 → H5 L = some (.lst ys) ∧ ys.length < sizeLine ∧
        D'.nx [some (.ref b), some (.int (n : Int)), some (.ref rr), some (.ref L), x4', x5'] (upd H5 L (.lst (ys ++ [v]))) := fun v d c' m' r2 H5 x4' x5' hdc hc' hd hm' hr2 W5 => by
      have hL5 := W5.rest L _ hLb hLr hL4
      have hnd : NoL d := by
        rcases hdc with ⟨h, _⟩ | h
        · exact (h.gs 0).nol
        · exact (h.gs n (Nat.le_refl _)).nol
      have ll := lists_upd (zs := ys ++ [v]) hL5
      refine ⟨hL5, by rw [hyl]; exact Nat.lt_of_lt_of_le (show i < 100 by omega) (by decide), hD' _ _ ⟨v, d, c', m', r2, _, _, rfl, upd_same, ?_, dp_lists ll hnd hd, hdc, hc', by omega, by omega, (W4.trans W5).list nL hLb hLr⟩⟩
      exact dpAll_lists ((W5.lists W4.bag W4.room).trans ll) (fun d hd => (hG.gs n (Nat.le_refl _)).nol d hd) hD4
    refine if_ev (H0 := H4) (b := (decide (V.int way = V.int 0) && (decide (0 < (n : Int)) && decide (0 ≤ r')))) (evt_and (evt_test fun H' Q hs kk => ⟨_, rfl, rfl, kk _ hs⟩) fun _ => evt_and (evt_test fun H' Q hs kk => ⟨_, rfl, _, _, rfl, rfl, kk _ hs⟩) fun _ => evt_test fun H' Q hs kk => ⟨_, rfl, _, _, _, _, rfl, rfl, SqL.of (hs _ _ W4.room), rfl, _, _, rfl, rfl, kk _ hs⟩) (Same.refl H4) (fun ht H5 s5 => ?_) (fun ht H5 s5 => ?_)
    · rw [Bool.and_eq_true, Bool.and_eq_true] at ht
      have h0n : 0 < n := by have := of_decide_eq_true ht.2.1; omega
      have W5 := W4.same s5
      refine ⟨_, rfl, .inl ⟨rfl, _, SqL.of (s5 _ _ hL4)⟩, _, rfl, _, rfl, _, _, rfl, rfl, _, rfl, b, rr, m + 1, n - 1, r', by omega, by omega, ?_, W5.bag, by omega, W5.room, fun v d c' m' r2 H6 hGa hca hd6 hm6 hr6 W6 => ?_⟩
      · have : (n : Int) - 1 = ((n - 1 : Nat) : Int) := by omega
        rw [← this]; rfl
      · obtain ⟨f1, f2, f3⟩ := fin v d c' m' r2 H6 _ _ (.inr hGa) hca hd6 (by omega) hr6 (((Went2.refl W4.bag W4.room).same s5).trans W6)
        exact ⟨L, _, v, rfl, rfl, f1, f2, f3⟩
    have fin1 : ∀ (H5 : Hp) (_ : Same H4 H5) (kk : Str) (u : V) (e : PyData) (m' : Nat) (H6 : Hp) (x4' x5' : Option V), Gi (.tuple [.str kk, e]) → (∀ H', Dp K H' u e) → m' ≤ m + 1 + aT n → Went b m' H5 H6 → [V.str kk, u].length ≤ sizeLine ∧ ∀ t, H6 t = none → (upd H6 t (.tup [V.str kk, u])) L = some (.lst ys) ∧ ys.length < sizeLine ∧
        D'.nx [some (.ref b), some (.int (n : Int)), some (.ref rr), some (.ref L), x4', x5'] (upd (upd H6 t (.tup [V.str kk, u])) L (.lst (ys ++ [.ref t]))) := fun H5 s5 kk u e m' H6 x4' x5' hg hu hm' W6 => ⟨(by show 2 ≤ sizeLine; decide), fun t nt => fin (.ref t) _ 1 m' r' _ _ _ (.inl ⟨hg, rfl⟩) hA (Dp.tup (SqT.of upd_same) (.cons (.str _) (.cons (hu _) .nil))) hm' (Int.le_refl _) ((((Went2.refl W4.bag W4.room).same s5).went W6).same (same_upd nt))⟩
    refine if_ev (H0 := H4) (b := (decide (way < 2) || decide (r' < 0))) (evt_or (evt_test fun H' Q hs kk => ⟨_, rfl, _, _, rfl, rfl, kk _ hs⟩) fun _ => evt_test fun H' Q hs kk => ⟨_, rfl, _, _, _, _, rfl, rfl, SqL.of (hs _ _ W4.room), rfl, _, _, rfl, rfl, kk _ hs⟩) s5 (fun ht H6 s6 => ?_) (fun ht H6 s6 => ?_)
    · have W6 := (Went2.refl W4.bag W4.room).same s6
      refine ⟨_, rfl, .inl ⟨rfl, _, SqL.of (s6 _ _ hL4)⟩, ?_⟩
      refine pick_lst (K := K) (ds := dsArrW) rfl W6.bag (by omega) ?e1 (by decide) (by decide) fun d v D H7 hd hv hD7 W7 => ?_
      case e1 => (repeat' (first | exact evds_nil | exact evd_int | exact evd_str | refine evds_cons ?_ ?_))
      obtain ⟨z, rfl, hz⟩ := arrW_ok hd
      cases hv
      obtain ⟨f1, f2⟩ := fin1 H6 s6 kV (.str z) (.str z) _ H7 _ _ (.word hz) (fun _ => .str _) (by omega) W7
      refine ⟨f1, fun t nt => ?_⟩
      obtain ⟨f3, f4, f5⟩ := f2 t nt
      exact ⟨L, _, _, rfl, rfl, f3, f4, f5⟩
    refine if_ev (H0 := H4) (b := decide (V.int way = V.int 2)) (evt_test fun H' Q hs kk => ⟨_, rfl, rfl, kk _ hs⟩) s6 (fun ht H7 s7 => ?_) (fun ht H7 s7 => ?_)
    · have W7 := (Went2.refl W4.bag W4.room).same s7
      refine ⟨_, rfl, .inl ⟨rfl, _, SqL.of (s7 _ _ hL4)⟩, ?_⟩
      refine ⟨_, rfl, b, _, rfl, W7.bag, by omega, fun iv m2 H8 h1 h2 hm2 W8 => ?_⟩
      obtain ⟨f1, f2⟩ := fin1 H7 s7 kI (.int iv) (.int iv) _ H8 _ _ (.int h1 h2) (fun _ => .int _) (by omega) W8
      refine ⟨f1, fun t nt => ?_⟩
      obtain ⟨f3, f4, f5⟩ := f2 t nt
      exact ⟨L, _, _, rfl, rfl, f3, f4, f5⟩
    · have W7 := (Went2.refl W4.bag W4.room).same s7
      refine ⟨_, rfl, .inl ⟨rfl, _, SqL.of (s7 _ _ hL4)⟩, ?_⟩
      refine pick_lst (K := K) (ds := dsArrK) rfl W7.bag (by omega) ?e2 (by decide) (by decide) fun d v D H8 hd hv hD8 W8 => ?_
      case e2 => (repeat' (first | exact evds_nil | exact evd_int | exact evd_str | refine evds_cons ?_ ?_))
      refine ⟨_, rfl, b, _, rfl, W8.bag, by omega, fun z m2 H9 h1 h2 hm2 W9 => ?_⟩
      have hW := W8.trans W9
      rcases arrK_ok hd with rfl | rfl
      · cases hv
        obtain ⟨f1, f2⟩ := fin1 H7 s7 kS (.str z) (.str z) _ H9 _ _ (.str h1 h2) (fun _ => .str _) (by omega) hW
        refine ⟨f1, fun t nt => ?_⟩
        obtain ⟨f3, f4, f5⟩ := f2 t nt
        exact ⟨L, _, _, rfl, rfl, f3, f4, f5⟩
      · cases hv
        obtain ⟨f1, f2⟩ := fin1 H7 s7 kY (.str z) (.str z) _ H9 _ _ (.sym h1 h2) (fun _ => .str _) (by omega) hW
        refine ⟨f1, fun t nt => ?_⟩
        obtain ⟨f3, f4, f5⟩ := f2 t nt
        exact ⟨L, _, _, rfl, rfl, f3, f4, f5⟩
theorem array_none {f : Addr} {fd : FuncData} {k : Nat} : GnOk P w K mg base CX0 k f fd ["_law_bag_here", "_law_deep", "_law_room"] (spArr K 0) := by
  have no : ∀ vs H Q E, ¬ spArr K 0 vs H Q E := fun vs H Q E h => by
    obtain ⟨b, rr, n0, j, r, hj, _⟩ := h
    omega
  exact ⟨fun vs H Q E h => absurd h (no vs H Q E), fun A outer s H args us vs Q E _ _ _ _ _ h => absurd h (no vs H Q E)⟩
end
end My8

end
section
set_option Elab.async false
set_option linter.all false
set_option maxRecDepth 100000
set_option maxHeartbeats 2000000
namespace My8
open PySem PySem.Spec PyProof.Rows L2 My
open TrM TL
abbrev s_law_sending : Stmt := top 66
theorem op_notTrue {X : Cx} : OpR X (compareOp .IsNot) (fun x y H Q => y = .bl true ∧ ((∃ b, x = .bl b ∧ Q (.bl (!b)) H) ∨ (x = .non ∧ Q (.bl true) H))) := by
  intro pins s σ H x y v u Q I rx ry h
  obtain ⟨rfl, h⟩ := h
  cases (show u = Value.bool true from ry)
  rcases h with ⟨b, rfl, q⟩ | ⟨rfl, q⟩
  · cases (show v = Value.bool b from rx)
    cases b with
    | true => exact wpAny_isNot_self rfl ⟨.bl false, H, I, rfl, q⟩
    | false => exact wpAny_isNot_other rfl (fun z => by cases z) ⟨.bl true, H, I, rfl, q⟩
  · cases (show v = Value.none from rx)
    exact wpAny_isNot_other rfl (fun z => by cases z) ⟨.bl true, H, I, rfl, q⟩
/-! ### what a tree may cost -/
def rN (r : Int) : Nat := (r + 8).toNat / 8
/-- where a tree is made -/
structure Pl (H : Hp) (b pp sc rr : Addr) (n0 : Nat) (ns : List Str) (ks : List (Str × Bool)) (r : Int) : Prop where
  bag : BagAt H b n0
  pool : H pp = some (.lst (ns.map V.str))
  dict : H sc = some (.dK (kvsOf ks))
  room : H rr = some (.lst [.int r])
  len : ns.length = 4
  lo : ∀ z ∈ ns, localB (codesOf z) = true
  nd : ns.Nodup
  kd : (ks.map (·.1)).Nodup
  sub : ∀ x ∈ ks.map (·.1), x ∈ ns
theorem Pl.pne {H : Hp} {b pp sc rr : Addr} {n0 : Nat} {ns : List Str} {ks : List (Str × Bool)} {r : Int} (p : Pl H b pp sc rr n0 ns ks r) : pp ≠ b ∧ pp ≠ rr ∧ sc ≠ b ∧ sc ≠ rr ∧ rr ≠ b := by
  obtain ⟨x, y, z, hb, _⟩ := p.bag
  have hl := p.len
  refine ⟨fun e => ?_, fun e => ?_, fun e => ?_, fun e => ?_, bag_room p.bag p.room⟩
  · have := p.pool
    rw [e, hb] at this
    injection this with this
    injection this with this
    have := congrArg List.length this
    rw [List.length_map] at this
    simp at this
    omega
  · have := p.pool
    rw [e, p.room] at this
    injection this with this
    injection this with this
    have := congrArg List.length this
    rw [List.length_map] at this
    simp at this
    omega
  · have := p.dict
    rw [e, hb] at this
    cases this
  · have := p.dict
    rw [e, p.room] at this
    cases this
theorem Pl.go {H H' : Hp} {b pp sc rr : Addr} {n0 m : Nat} {ns : List Str} {ks : List (Str × Bool)} {r r' : Int} (p : Pl H b pp sc rr n0 ns ks r) (w : Went2 b rr m r' H H') : Pl H' b pp sc rr m ns ks r' :=
  have h := p.pne
  ⟨w.bag, w.rest _ _ h.1 h.2.1 p.pool, w.rest _ _ h.2.2.1 h.2.2.2.1 p.dict, w.room, p.len, p.lo, p.nd, p.kd, p.sub⟩
/-- a tree, so deep -/
def spTr (K : PySem.W.Frag) (n : Nat) : Sp := fun vs H Q _ => ∃ (b pp sc rr : Addr) (n0 e : Nat) (ns : List Str) (ks : List (Str × Bool)) (r : Int), n = e + 1 ∧ e ≤ 4 ∧ vs = [.ref b, .ref pp, .ref sc, .int (e : Int), .ref rr] ∧ Pl H b pp sc rr n0 ns ks r ∧ n0 + 10250 * rN r ≤ 870000 ∧
  ∀ (v : V) (d : PyData) (c m : Nat) (r' : Int) (H' : Hp), Gt ks e d c → Dp K H' v d → c + 41 * rN r' ≤ 41 * rN r + 1 → m + 10250 * rN r' ≤ n0 + 10250 * rN r + 250 → r' ≤ r → Went2 b rr m r' H H' → Q v H'
/-- a sending -/
def spSend (K : PySem.W.Frag) (n : Nat) : Sp := fun vs H Q _ => ∃ (b pp sc rr : Addr) (n0 e : Nat) (ns : List Str) (ks : List (Str × Bool)) (r : Int), n = e + 1 ∧ e ≤ 4 ∧ vs = [.ref b, .ref pp, .ref sc, .int (e : Int), .ref rr] ∧ Pl H b pp sc rr n0 ns ks r ∧ n0 + 10250 * rN r + 1000 ≤ 870000 ∧
  ∀ (t : Addr) (s : Str) (y : V) (ds : List PyData) (c m : Nat) (r' : Int) (H' : Hp), SqT K H' t [.str s, y] → Sel (codesOf s) ds.length → ds.length ≤ 3 → GtL ks e ds c → Dp K H' y (.tuple ds) → c + 41 * rN r' ≤ 41 * rN r + 3 → m + 10250 * rN r' ≤ n0 + 10250 * rN r + 900 → r' ≤ r → Went2 b rr m r' H H' → Q (.ref t) H'
def dsSendA : List PyData := [.str "a", .str "k:", .str "-"]
def dsSendN : List PyData := [.int 0, .int 0, .int 1, .int 1, .int 1, .int 2, .int 3]
def dsSendF : List PyData := [.str "ifTrue:", .str "ifFalse:", .str "ifTrue:ifFalse:", .str "ifFalse:ifTrue:", .str "and:", .str "or:", .str "whileTrue:", .str "whileFalse:"]
theorem sendN_ok {d : PyData} (h : d ∈ dsSendN) : ∃ n : Nat, d = .int (n : Int) ∧ n ≤ 3 := by
  unfold dsSendN at h
  simp only [List.mem_cons, List.not_mem_nil, or_false] at h
  rcases h with h | h | h | h | h | h | h <;> subst h
  · exact ⟨0, rfl, by decide⟩
  · exact ⟨0, rfl, by decide⟩
  · exact ⟨1, rfl, by decide⟩
  · exact ⟨1, rfl, by decide⟩
  · exact ⟨1, rfl, by decide⟩
  · exact ⟨2, rfl, by decide⟩
  · exact ⟨3, rfl, by decide⟩
theorem sel_of {z : Str} (ns : List Str) (h : codesOf z = Tok.kkeys (ns.map codesOf)) (h0 : ns ≠ []) (h1 : ∀ n ∈ ns, nameB (codesOf n) = true) (h2 : (codesOf z).length ≤ 100) : Sel (codesOf z) ns.length := by
  have := Sel.keys (ns := ns.map codesOf) (fun e => h0 (List.map_eq_nil_iff.mp e)) (fun x hx => by
    obtain ⟨n, hn, rfl⟩ := List.mem_map.mp hx
    exact (nameB_iff _).mp (h1 n hn)) (by rw [← h]; exact h2)
  rw [List.length_map, ← h] at this
  exact this
theorem sendA_ok {d : PyData} (h : d ∈ dsSendA) : ∃ (z : Str) (k : Nat), d = .str z ∧ Sel (codesOf z) k ∧ k ≤ 3 := by
  unfold dsSendA at h
  simp only [List.mem_cons, List.not_mem_nil, or_false] at h
  rcases h with h | h | h <;> subst h
  · exact ⟨_, 0, rfl, .name ((nameB_iff _).mp (by decide +kernel)), by decide⟩
  · exact ⟨_, 1, rfl, sel_of ["k"] (by decide +kernel) (by simp) (by decide +kernel) (by decide +kernel), by decide⟩
  · exact ⟨_, 1, rfl, .op (by decide +kernel), by decide⟩
theorem sendF_ok {d : PyData} (h : d ∈ dsSendF) : ∃ (z : Str) (k : Nat), d = .str z ∧ Sel (codesOf z) k ∧ k ≤ 3 := by
  unfold dsSendF at h
  simp only [List.mem_cons, List.not_mem_nil, or_false] at h
  rcases h with h | h | h | h | h | h | h | h <;> subst h
  · exact ⟨_, 1, rfl, sel_of ["ifTrue"] (by decide +kernel) (by simp) (by decide +kernel) (by decide +kernel), by decide⟩
  · exact ⟨_, 1, rfl, sel_of ["ifFalse"] (by decide +kernel) (by simp) (by decide +kernel) (by decide +kernel), by decide⟩
  · exact ⟨_, 2, rfl, sel_of ["ifTrue", "ifFalse"] (by decide +kernel) (by simp) (by decide +kernel) (by decide +kernel), by decide⟩
  · exact ⟨_, 2, rfl, sel_of ["ifFalse", "ifTrue"] (by decide +kernel) (by simp) (by decide +kernel) (by decide +kernel), by decide⟩
  · exact ⟨_, 1, rfl, sel_of ["and"] (by decide +kernel) (by simp) (by decide +kernel) (by decide +kernel), by decide⟩
  · exact ⟨_, 1, rfl, sel_of ["or"] (by decide +kernel) (by simp) (by decide +kernel) (by decide +kernel), by decide⟩
  · exact ⟨_, 1, rfl, sel_of ["whileTrue"] (by decide +kernel) (by simp) (by decide +kernel) (by decide +kernel), by decide⟩
  · exact ⟨_, 1, rfl, sel_of ["whileFalse"] (by decide +kernel) (by simp) (by decide +kernel) (by decide +kernel), by decide⟩
def opSigns : Str := "+-*/\\<>=~,"
theorem al_noop (c : Nat) (h : Tok.isAl c = true) : decide (c ∈ opSigns.cps.toList) = false := by
  have hh : ∀ d ∈ opSigns.cps.toList, Tok.isAl d = false := by decide +kernel
  exact decide_eq_false fun e => by rw [hh c e] at h; cases h
theorem an_no58 {l : List Nat} (h : l.all Tok.isAn = true) : l.count 58 = 0 := List.count_eq_zero.mpr fun hm => by
  have := List.all_eq_true.mp h 58 hm
  exact absurd this (by decide)
theorem kkeys_count : ∀ ns : List (List Nat), (∀ n ∈ ns, Tok.IsName n) → (Tok.kkeys ns).count 58 = ns.length
  | [], _ => rfl
  | n :: ns, h => by
    rw [Tok.kkeys, List.count_append, List.count_cons, kkeys_count ns (fun x hx => h x (List.mem_cons_of_mem _ hx)), an_no58 (h n List.mem_cons_self).an]
    simp
theorem sel_many {l : List Nat} {n : Nat} (h : Sel l n) : ∃ c r, l = c :: r ∧ (if decide (c ∈ opSigns.cps.toList) = true then 1 else l.count 58) = n := by
  cases h with
  | name h =>
    obtain ⟨c, r, e, hc⟩ := h.al
    exact ⟨c, r, e, by rw [al_noop c hc]; exact an_no58 h.an⟩
  | op h =>
    simp only [Tok.ops, List.mem_cons, List.not_mem_nil, or_false] at h
    rcases h with h | h | h | h | h | h | h | h | h | h | h | h | h | h <;> subst h <;> exact ⟨_, _, rfl, by decide +kernel⟩
  | @keys ns h0 h hl =>
    obtain ⟨m, ms, rfl⟩ := List.exists_cons_of_ne_nil h0
    obtain ⟨c, r, e, hc⟩ := (h m List.mem_cons_self).al
    refine ⟨c, r ++ 58 :: Tok.kkeys ms, by rw [Tok.kkeys, e]; rfl, ?_⟩
    rw [al_noop c hc]
    exact kkeys_count _ h
theorem count_txt (z : Str) : Txt.count z (Str.ofString ":") = (((codesOf z).count 58 : Nat) : Int) := by
  have h1 := count58 z
  rw [sp58_count] at h1
  omega
theorem GtL.app {ks : List (Str × Bool)} {e : Nat} : ∀ {ds es : List PyData} {c c' : Nat}, GtL ks e ds c → GtL ks e es c' → GtL ks e (ds ++ es) (c + c')
  | [], es, _, c', .nil, h => by rw [Nat.zero_add]; exact h
  | _ :: _, es, _, c', .cons h t, h' => by rw [Nat.add_assoc]; exact .cons h (t.app h')
theorem rN_mono {r r' : Int} (h : r' ≤ r) : rN r' ≤ rN r := by unfold rN; omega
section
variable {P : Program} {w : World} {K : PySem.W.Frag} {mg : Str → Option Value} {base : Heap}
theorem sc_law_sending : FnScope ["_law_bag_here", "_law_pool_here", "_law_scope", "_law_deep", "_law_room", "_law_selector_here", "_law_many", "_law_turn"] ["_law_bag_here", "_law_pool_here", "_law_scope", "_law_deep", "_law_room"] (defScope s_law_sending) := ⟨rfl, rfl, rfl, by decide +kernel, rfl, by decide +kernel, by decide +kernel⟩
theorem ok_sending {f fR fK fT fS : Addr} {fd fdR fdK fdT fdS : FuncData} {k n : Nat} (F : FnP K "_law_sending" s_law_sending f fd) (G_law_tree : GnOk P w K mg base CX0 k fR fdR ["_law_bag_here", "_law_pool_here", "_law_scope", "_law_deep", "_law_room"] (spTr K n)) (g_law_tree : mg "_law_tree" = some (.ref fR)) (k_law_tree : PySem.W.keepIn K (.ref fR) = true) (b_law_tree : Binds K fdR ["_law_bag_here", "_law_pool_here", "_law_scope", "_law_deep", "_law_room"] [])
    (G_law_pick : FnOk P w K mg base CX0 k fK fdK ["_law_bag_here", "_law_things"] (spPick K)) (g_law_pick : mg "_law_pick" = some (.ref fK)) (k_law_pick : PySem.W.keepIn K (.ref fK) = true) (b_law_pick : Binds K fdK ["_law_bag_here", "_law_things"] [])
    (G_law_take : FnOk P w K mg base CX0 k fT fdT ["_law_bag_here", "_law_many"] spTakeW) (g_law_take : mg "_law_take" = some (.ref fT)) (k_law_take : PySem.W.keepIn K (.ref fT) = true) (b_law_take : Binds K fdT ["_law_bag_here", "_law_many"] [])
    (G_law_selector : FnOk P w K mg base CX0 k fS fdS ["_law_bag_here", "_law_many"] spSel) (g_law_selector : mg "_law_selector" = some (.ref fS)) (k_law_selector : PySem.W.keepIn K (.ref fS) = true) (b_law_selector : Binds K fdS ["_law_bag_here", "_law_many"] [])
    (g_range : mg "range" = none) (g_tuple : mg "tuple" = none) (g_len : mg "len" = none) :
    GnOk P w K mg base CX0 (k + 1) f fd ["_law_bag_here", "_law_pool_here", "_law_scope", "_law_deep", "_law_room"] (spSend K n) := by
  refine gn_of F sc_law_sending (fun vs H Q E h => ?_) (fun cdv A outer s H vs Q E hg hr h => ⟨_, PSs.nox
    (pss_cons (ps_set (i := 5) sc_law_sending.nd rfl (Or.inl rfl) (pe_call G_law_pick (hr.mono (Nat.le_refl _)) rfl g_law_pick k_law_pick b_law_pick .nil pass0 (pa_cons (pv 0) (pa_cons (pe_lst (pa_cons pe_str (pa_cons pe_str (pa_cons pe_str pa_nil)))) pa_nil))))
      (pss_cons (ps_if (pt_cmpR op_ge (pe_ix ix_list (pv 4) pe_int (fun _ _ => rfl)) pe_int (nomark _)) (pss_one (ps_set (i := 5) sc_law_sending.nd rfl (Or.inl rfl) (pe_call G_law_selector (hr.mono (Nat.le_refl _)) rfl g_law_selector k_law_selector b_law_selector .nil pass0 (pa_cons (pv 0) (pa_cons (pe_call G_law_pick (hr.mono (Nat.le_refl _)) rfl g_law_pick k_law_pick b_law_pick .nil pass0 (pa_cons (pv 0) (pa_cons (pe_lst (pa_cons pe_int (pa_cons pe_int (pa_cons pe_int (pa_cons pe_int (pa_cons pe_int (pa_cons pe_int (pa_cons pe_int pa_nil)))))))) pa_nil))) pa_nil))))) pss_nil)
      (pss_cons (ps_if (PW.pt (pw_and (pt_cmpR op_ge (pe_ix ix_list (pv 4) pe_int (fun _ _ => rfl)) pe_int (nomark _)) (pw_and1 (pt_cmpR op_eq (pe_call G_law_take (hr.mono (Nat.le_refl _)) rfl g_law_take k_law_take b_law_take .nil pass0 (pa_cons (pv 0) (pa_cons pe_int pa_nil))) pe_int (nomark _))))) (pss_one (ps_set (i := 5) sc_law_sending.nd rfl (Or.inl rfl) (pe_call G_law_pick (hr.mono (Nat.le_refl _)) rfl g_law_pick k_law_pick b_law_pick .nil pass0 (pa_cons (pv 0) (pa_cons (pe_lst (pa_cons pe_str (pa_cons pe_str (pa_cons pe_str (pa_cons pe_str (pa_cons pe_str (pa_cons pe_str (pa_cons pe_str (pa_cons pe_str pa_nil))))))))) pa_nil))))) pss_nil)
      (pss_cons (ps_asg (pe_op op_sub (pe_ix ix_list (pv 4) pe_int (fun _ _ => rfl)) (pe_callB call_len_str (by rfl) g_len PySem.boot_len (pa_cons (pv 5) pa_nil))) (pg_sub (pv 4) pe_int set_list))
      (pss_cons (ps_set (i := 6) sc_law_sending.nd rfl (Or.inl rfl) (pe_bm PySem.F.plainAttrs_str PySem.F.slot_str_count PySem.F.type_str_count mt_count (pv 5) (pa_cons pe_str pa_nil)))
      (pss_cons (ps_if (pt_cmpR op_in_sign (pe_ix ix_str (pv 5) pe_int (fun _ _ => rfl)) pe_str (by rfl)) (pss_one (ps_set (i := 6) sc_law_sending.nd rfl (Or.inl rfl) pe_int)) pss_nil)
      (pss_one (ps_ret (pe_tup (pa_cons (pv 5) (pa_cons (pe_callTy call_tuple_of (by rfl) g_tuple (by decide +kernel) (pa_cons (pe_lc (own := [("_law_turn", 7)]) rfl sc_law_sending.nd (pi_range1 (by rfl) g_range (pa_cons (pv 6) pa_nil)) (blkOk_by (own := [("_law_turn", 7)]) (N := ["_law_bag_here", "_law_pool_here", "_law_scope", "_law_deep", "_law_room", "_law_selector_here", "_law_many", "_law_turn"]) (sc := defScope s_law_sending) (by decide +kernel)) (fun _ _ _ _ _ => by (exact (pg_name (i := 7) sc_law_sending.nd rfl (Or.inl rfl)))) (fun _ _ _ _ _ => by exact pts_nil) (fun _ _ _ _ _ => by exact (pe_callG G_law_tree hg (hr.mono (Nat.le_refl _)) rfl g_law_tree k_law_tree b_law_tree .nil pass0 (pa_cons (pv 0) (pa_cons (pv 1) (pa_cons (pv 2) (pa_cons (pv 3) (pa_cons (pv 4) pa_nil)))))))) pa_nil)) pa_nil))))))))))), ?_⟩)
  · obtain ⟨b, pp, sc, rr, n0, e, ns, ks, r, _, _, rfl, _⟩ := h
    rfl
  obtain ⟨b, pp, sc, rr, n0, e, ns, ks, r, hn, he, rfl, hP, hc, q⟩ := h
  obtain ⟨h1, h2, h3, h4, h5⟩ := hP.pne
  dsimp only [gName, tSeq, tNext]
  refine pick_lst (K := K) (ds := dsSendA) rfl hP.bag (by omega) ?e1 (by decide) (by decide) fun d v D H1 hd hv hD W1 => ?_
  case e1 => (repeat' (first | exact evds_nil | exact evd_int | exact evd_str | refine evds_cons ?_ ?_))
  obtain ⟨z0, k0, rfl, hz0, hk0⟩ := sendA_ok hd
  cases hv
  have hr1 := W1.rest _ _ h5 hP.room
  dsimp only [gName, tNext]
  refine seq_join (fun σ' H' => ∃ (z : Str) (k m : Nat), σ' = [some (.ref b), some (.ref pp), some (.ref sc), some (.int (e : Int)), some (.ref rr), some (.str z), none, none] ∧ Sel (codesOf z) k ∧ k ≤ 3 ∧ m ≤ n0 + 127 ∧ Went b m H H') (fun D' hD' => ?_) ?two
  · refine if_ev (H0 := H1) (b := decide (0 ≤ r)) (evt_test fun H' Q hs kk => ⟨_, rfl, _, _, _, _, rfl, rfl, SqL.of (hs _ _ hr1), rfl, _, _, rfl, rfl, kk _ hs⟩) (Same.refl H1) (fun ht H2 s2 => ?_) (fun ht H2 s2 => ?_)
    · have W2 := W1.same s2
      refine ⟨_, rfl, ?_⟩
      refine pick_lst (K := K) (ds := dsSendN) rfl W2.bag (by omega) ?e2 (by decide) (by decide) fun d v D H3 hd hv hD W3 => ?_
      case e2 => (repeat' (first | exact evds_nil | exact evd_int | exact evd_str | refine evds_cons ?_ ?_))
      obtain ⟨kn, rfl, hkn⟩ := sendN_ok hd
      cases hv
      exact ⟨b, _, kn, rfl, W3.bag, by omega, hkn, fun z m H4 hz hm W4 => hD' _ _ ⟨z, kn, m, rfl, hz, hkn, by omega, (W2.trans W3).trans W4⟩⟩
    · exact hD' _ _ ⟨z0, k0, _, rfl, hz0, hk0, by omega, W1.same s2⟩
  rintro _ H2 ⟨z1, k1, m1, rfl, hz1, hk1, hm1, W2⟩
  have hr2 := W2.rest _ _ h5 hP.room
  refine seq_join (fun σ' H' => ∃ (z : Str) (k m : Nat), σ' = [some (.ref b), some (.ref pp), some (.ref sc), some (.int (e : Int)), some (.ref rr), some (.str z), none, none] ∧ Sel (codesOf z) k ∧ k ≤ 3 ∧ m ≤ n0 + 129 ∧ Went b m H H') (fun D' hD' => ?_) ?three
  · refine ⟨_, rfl, _, _, _, _, rfl, rfl, SqL.of hr2, rfl, _, _, rfl, rfl, decide (0 ≤ r), rfl, ?_⟩
    cases h0 : decide (0 ≤ r) with
    | false => exact iteF (iteF (hD' _ _ ⟨z1, k1, m1, rfl, hz1, hk1, by omega, W2⟩))
    | true =>
      refine iteT ?_
      refine took rfl W2.bag (by omega) (by decide) (by decide) (fun Q h => h) fun t H3 t0 t1 W3 => ?_
      have W3 := W2.trans W3
      refine ⟨rfl, decide (V.int t = V.int 0), rfl, ?_⟩
      cases h1 : decide (V.int t = V.int 0) with
      | false => exact iteF (hD' _ _ ⟨z1, k1, _, rfl, hz1, hk1, by omega, W3⟩)
      | true =>
        refine iteT ?_
        refine pick_lst (K := K) (ds := dsSendF) rfl W3.bag (by omega) ?e3 (by decide) (by decide) fun d v D H4 hd hv hD W4 => ?_
        case e3 => (repeat' (first | exact evds_nil | exact evd_int | exact evd_str | refine evds_cons ?_ ?_))
        obtain ⟨z2, k2, rfl, hz2, hk2⟩ := sendF_ok hd
        cases hv
        exact hD' _ _ ⟨z2, k2, _, rfl, hz2, hk2, by omega, W3.trans W4⟩
  rintro _ H3 ⟨z, kz, m, rfl, hz, hkz, hm, W⟩
  have W := Went.two W hP.bag hP.room
  obtain ⟨c0, cr, hcz, hmany⟩ := sel_many hz
  have hzl := sel_len hz
  have hzl' : z.length ≤ 100 := hzl
  refine ⟨_, rfl, _, _, _, _, rfl, rfl, SqL.of W.room, rfl, _, rfl, _, rfl, Nat.le_trans hzl' (by decide), _, _, rfl, rfl, ?_⟩
  refine ⟨_, rfl, rr, _, _, 0, rfl, rfl, W.room, rfl, ?_⟩
  have W5 := W.set (r' := r - (z.length : Int))
  have hrl : r - (z.length : Int) ≤ r := by omega
  have hN := rN_mono hrl
  dsimp only [List.set]
  generalize r - (z.length : Int) = r1 at W5 hrl hN ⊢
  generalize upd H3 rr (.lst [V.int r1]) = H4 at W5 ⊢
  clear hr2 W2 hr1 W1
  refine ⟨_, rfl, rfl, _, _, rfl, rfl, ?_⟩
  rw [count_txt]
  dsimp only [gName, tNext]
  refine seq_join (fun σ' H' => σ' = [some (.ref b), some (.ref pp), some (.ref sc), some (.int (e : Int)), some (.ref rr), some (.str z), some (.int (kz : Int)), none] ∧ Went2 b rr m r1 H H') (fun D' hD' => ?_) ?four
  · refine if_ev (H0 := H4) (b := decide (c0 ∈ opSigns.cps.toList)) (evt_test fun H' Q hs kk => ⟨_, rfl, z, 0, c0, rfl, rfl, Nat.le_trans hzl' (by decide), atI_nat (by show (codesOf z)[0]? = _; rw [hcz]; rfl), c0, _, rfl, rfl, kk _ hs⟩) (Same.refl H4) (fun ht H5 s5 => ?_) (fun ht H5 s5 => ?_)
    · rw [if_pos ht] at hmany
      subst hmany
      exact hD' _ _ ⟨rfl, W5.same s5⟩
    · rw [if_neg (by rw [ht]; decide)] at hmany
      rw [hmany]
      exact hD' _ _ ⟨rfl, W5.same s5⟩
  rintro _ H5 ⟨rfl, W6⟩
  refine ⟨_, rfl, _, rfl, _, rfl, by omega, by omega, fun L nL => ?_⟩
  have hne := W6.ne nL
  have nL0 : H L = none := W6.free nL
  refine lc_range (lo := 0) (fun i H' => ∃ (ys : List V) (ds : List PyData) (c m' : Nat) (r' : Int), H' L = some (.lst ys) ∧ DpAll K H' ys ds ∧ GtL ks e ds c ∧ ds.length = i ∧ c + 41 * rN r' ≤ 41 * rN r + i ∧ m' + 10250 * rN r' ≤ n0 + 129 + 10250 * rN r + 250 * i ∧ r' ≤ r ∧ Went2 b rr m' r' H H') ⟨[], [], 0, m, r1, upd_same, .nil, .nil, rfl, by omega, by omega, hrl, W6.list nL0 hne.1 hne.2⟩ ?turn ?last
  case turn =>
    rintro i H6 hi ⟨ys, ds, c, m', r', hL, hD, hG, hl, hc', hm', hr', W7⟩
    have hi : i < kz := by simpa using hi
    refine ⟨rfl, tyes ?_⟩
    refine ⟨_, rfl, _, rfl, _, rfl, _, rfl, _, rfl, b, pp, sc, rr, m', e, ns, ks, r', hn, he, rfl, hP.go W7, by omega, fun v d c2 m2 r2 H7 hG2 hd hc2 hm2 hr2 W8 => ?_⟩
    have hL7 := W8.rest L _ hne.1 hne.2 hL
    have ll := lists_upd (zs := ys ++ [v]) hL7
    have hyl := dpAll_length hD
    refine ⟨ys, hL7, ?_, ys ++ [v], ds ++ [d], c + c2, m2, r2, upd_same, ?_, ?_, by simp [hl], by omega, by omega, by omega, (W7.trans W8).list nL0 hne.1 hne.2⟩
    · exact Nat.lt_of_lt_of_le (show ys.length < 100 by omega) (by decide)
    · exact dpAll_app (dpAll_lists ((W8.lists W7.bag W7.room).trans ll) (fun d hd => (hG.gs _ (Nat.le_refl _)).nol d hd) hD) (.cons (dp_lists ll (hG2.gs _ (Nat.le_refl _)).nol hd) .nil)
    · exact hG.app (.cons (c' := 0) hG2 .nil)
  case last =>
    rintro H6 ⟨ys, ds, c, m', r', hL, hD, hG, hl, hc', hm', hr', W7⟩
    have hl : ds.length = kz := by simpa using hl
    have hc' : c + 41 * rN r' ≤ 41 * rN r + kz := hc'
    have hm' : m' + 10250 * rN r' ≤ n0 + 129 + 10250 * rN r + 250 * kz := hm'
    refine ⟨L, ys, rfl, .inl ⟨SqL.of hL, fun p np => ⟨(by show 2 ≤ sizeLine; decide), fun u nu => ?_⟩⟩⟩
    have s1 := same_upd (o := HO.tup ys) np
    have s2 := same_upd (o := HO.tup [V.str z, .ref p]) nu
    exact q u z (.ref p) ds c m' r' _ (SqT.of upd_same) (by rw [hl]; exact hz) (by omega) hG (Dp.tup (SqT.mono s2 (SqT.of upd_same)) (dp_monoAll (s1.trans s2) _ _ hD)) (by omega) (by omega) hr' (W7.same (s1.trans s2))
end
end My8

end
section
set_option Elab.async false
set_option linter.all false
set_option maxRecDepth 100000
set_option maxHeartbeats 2000000
namespace My8
open PySem PySem.Spec PyProof.Rows L2 My
open TrM TL
abbrev s_law_statements : Stmt := top 68
/-- the statements -/
def spStm (K : PySem.W.Frag) (n : Nat) : Sp := fun vs H Q _ => ∃ (b pp sc rr : Addr) (n0 e : Nat) (ns : List Str) (ks : List (Str × Bool)) (r : Int), n = e + 1 ∧ e ≤ 4 ∧ vs = [.ref b, .ref pp, .ref sc, .int (e : Int), .ref rr] ∧ Pl H b pp sc rr n0 ns ks r ∧ n0 + 10250 * rN r + 1000 ≤ 870000 ∧
  ∀ (v : V) (ds : List PyData) (c m : Nat) (r' : Int) (H' : Hp), GtS ks e ds c → ds.length ≤ 3 → Dp K H' v (.tuple ds) → c + 41 * rN r' ≤ 41 * rN r + 4 → m + 10250 * rN r' ≤ n0 + 10250 * rN r + 800 → r' ≤ r → Went2 b rr m r' H H' → Q v H'
def dsStm : List PyData := [.int 0, .int 1, .int 1, .int 2, .int 3]
theorem stm_ok {d : PyData} (h : d ∈ dsStm) : ∃ n : Nat, d = .int (n : Int) ∧ n ≤ 3 := by
  unfold dsStm at h
  simp only [List.mem_cons, List.not_mem_nil, or_false] at h
  rcases h with h | h | h | h | h <;> subst h
  · exact ⟨0, rfl, by decide⟩
  · exact ⟨1, rfl, by decide⟩
  · exact ⟨1, rfl, by decide⟩
  · exact ⟨2, rfl, by decide⟩
  · exact ⟨3, rfl, by decide⟩
/-! ### trees can be laid -/
theorem okT_ok {z : Str} (h : okT (codesOf z)) : PyData.strOk z = true := by
  unfold PyData.strOk
  rw [← Array.all_toList, List.all_eq_true]
  intro c hc
  have := h.2 c hc
  exact decide_eq_true (Nat.lt_of_le_of_lt (show c ≤ 126 by omega) (by decide))
theorem lay_str {z : Str} (h : okT (codesOf z)) : (PyData.str z).canLay0 = true := by simp only [PyData.canLay0]; exact okT_ok h
theorem lay_key {z : Str} (hz : z ∈ [kI, kS, kY, kA, kV, kSet, kSend, kSuper, kCasc, kBlock, kRet, kMeth]) : (PyData.str z).canLay0 = true := lay_str (key_ok z hz).1
theorem lay_cons {d : PyData} {ds : List PyData} (h : d.canLay0 = true) (t : PyData.canLayAll0 ds = true) : PyData.canLayAll0 (d :: ds) = true := by simp only [PyData.canLayAll0]; rw [h, t]; rfl
theorem lay_nil : PyData.canLayAll0 [] = true := by simp only [PyData.canLayAll0]
theorem lay_tup {ds : List PyData} (h : PyData.canLayAll0 ds = true) : (PyData.tuple ds).canLay0 = true := by simp only [PyData.canLay0]; exact h
theorem lay_int (i : Int) : (PyData.int i).canLay0 = true := by simp only [PyData.canLay0]
theorem lay_names {ps : List Str} (h : ∀ x ∈ ps, okN x) : PyData.canLayAll0 (ps.map .str) = true := by
  induction ps with
  | nil => exact lay_nil
  | cons p ps ih => exact lay_cons (lay_str (h p List.mem_cons_self).1) (ih fun x hx => h x (List.mem_cons_of_mem _ hx))
mutual
theorem Gs.lay : ∀ {f c : Nat} {d : PyData}, Gs f d c → d.canLay0 = true
  | _, _, _, .int _ _ => lay_tup (lay_cons (lay_key (by simp)) (lay_cons (lay_int _) lay_nil))
  | _, _, _, .str h _ => lay_tup (lay_cons (lay_key (by simp)) (lay_cons (lay_str h) lay_nil))
  | _, _, _, .sym h _ => lay_tup (lay_cons (lay_key (by simp)) (lay_cons (lay_str h) lay_nil))
  | _, _, _, .var h => lay_tup (lay_cons (lay_key (by simp)) (lay_cons (lay_str h.1) lay_nil))
  | _ + 1, _, _, .arr h => lay_tup (lay_cons (lay_key (by simp)) (lay_cons (lay_tup h.lay) lay_nil))
  | _ + 1, _, _, .set hz h => lay_tup (lay_cons (lay_key (by simp)) (lay_cons (lay_str hz.1) (lay_cons h.lay lay_nil)))
  | _ + 1, _, _, .ret h => lay_tup (lay_cons (lay_key (by simp)) (lay_cons h.lay lay_nil))
  | _ + 1, _, _, .send h hs _ _ t => lay_tup (lay_cons (lay_key (by simp)) (lay_cons h.lay (lay_cons (lay_str hs) (lay_cons (lay_tup t.lay) lay_nil))))
  | _ + 1, _, _, .super hs _ _ t => lay_tup (lay_cons (lay_key (by simp)) (lay_cons (lay_str hs) (lay_cons (lay_tup t.lay) lay_nil)))
  | _ + 1, _, _, .casc h _ t => lay_tup (lay_cons (lay_key (by simp)) (lay_cons h.lay (lay_cons (lay_tup t.lay) lay_nil)))
  | _ + 1, _, _, .block _ _ h3 h4 _ _ t => lay_tup (lay_cons (lay_key (by simp)) (lay_cons (lay_tup (lay_names h3)) (lay_cons (lay_tup (lay_names h4)) (lay_cons (lay_tup t.lay) lay_nil))))
  | _ + 1, _, _, .meth hs _ _ _ h3 h4 _ _ t => lay_tup (lay_cons (lay_key (by simp)) (lay_cons (lay_str hs) (lay_cons (lay_tup (lay_names h3)) (lay_cons (lay_tup (lay_names h4)) (lay_cons (lay_tup t.lay) lay_nil)))))
termination_by structural _ _ _ h => h
theorem GsL.lay : ∀ {f c : Nat} {ds : List PyData}, GsL f ds c → PyData.canLayAll0 ds = true
  | _, _, _, .nil => lay_nil
  | _, _, _, .cons h t => lay_cons h.lay t.lay
termination_by structural _ _ _ h => h
theorem GsM.lay : ∀ {f c : Nat} {ms : List (Str × List PyData)}, GsM f ms c → PyData.canLayAll0 (ms.map msgD) = true
  | _, _, _, .nil => lay_nil
  | _, _, _, .cons hs _ _ h t => lay_cons (lay_tup (lay_cons (lay_str hs) (lay_cons (lay_tup h.lay) lay_nil))) t.lay
termination_by structural _ _ _ h => h
end
theorem shaped_list {ds : List PyData} {n N : Nat} (h : PyData.canLayAll0 ds = true) (hs : ShL ds n N) (hn : n ≤ 60) : SeqAt.shaped (.list ds) = true := by
  obtain ⟨M, _, h2⟩ := hs
  have := h2.all.2.2.1
  unfold SeqAt.shaped
  rw [Bool.and_eq_true]
  exact ⟨by simp only [PyData.canLay0]; exact h, decide_eq_true (by simp only [PyData.depth]; omega)⟩
theorem shaped_nil : SeqAt.shaped (.list []) = true := by decide +kernel
theorem eqv_nil (ds : List PyData) : PyData.eqv (.list ds) (.list []) = decide (ds = []) := by
  cases ds with
  | nil => simp only [PyData.eqv, PyData.eqvAll]; rfl
  | cons d ds => simp only [PyData.eqv, PyData.eqvAll]; rfl
theorem GtL.snoc {ks : List (Str × Bool)} {e : Nat} : ∀ {ds : List PyData} {d : PyData} {c : Nat}, GtL ks e (ds ++ [d]) c → ∃ c1 c2, c = c1 + c2 ∧ GtL ks e ds c1 ∧ Gt ks e d c2
  | [], d, _, .cons (c := c) h t => by
    cases t
    exact ⟨0, c, by omega, .nil, h⟩
  | _ :: ds, d, _, .cons (c := c) h t => by
    obtain ⟨c1, c2, e1, h1, h2⟩ := GtL.snoc (ds := ds) t
    exact ⟨c + c1, c2, by omega, .cons h h1, h2⟩
theorem ixN_last (n : Nat) : ixN (n + 1) (-1) = some n := by
  unfold ixN
  rw [if_neg (by decide), if_pos (by omega)]
  congr 1
  omega
theorem set_last {α : Type} (xs : List α) (v u : α) : (xs ++ [v]).set xs.length u = xs ++ [u] := by
  rw [List.set_append_right _ _ (Nat.le_refl _), Nat.sub_self]
  rfl
section
variable {P : Program} {w : World} {K : PySem.W.Frag} {mg : Str → Option Value} {base : Heap}
theorem sc_law_statements : FnScope ["_law_bag_here", "_law_pool_here", "_law_scope", "_law_deep", "_law_room", "_law_trees", "_law_turn"] ["_law_bag_here", "_law_pool_here", "_law_scope", "_law_deep", "_law_room"] (defScope s_law_statements) := ⟨rfl, rfl, rfl, by decide +kernel, rfl, by decide +kernel, by decide +kernel⟩
theorem ok_statements {f fR fK fT : Addr} {fd fdR fdK fdT : FuncData} {k n : Nat} (F : FnP K "_law_statements" s_law_statements f fd) (G_law_tree : GnOk P w K mg base CX0 k fR fdR ["_law_bag_here", "_law_pool_here", "_law_scope", "_law_deep", "_law_room"] (spTr K n)) (g_law_tree : mg "_law_tree" = some (.ref fR)) (k_law_tree : PySem.W.keepIn K (.ref fR) = true) (b_law_tree : Binds K fdR ["_law_bag_here", "_law_pool_here", "_law_scope", "_law_deep", "_law_room"] [])
    (G_law_pick : FnOk P w K mg base CX0 k fK fdK ["_law_bag_here", "_law_things"] (spPick K)) (g_law_pick : mg "_law_pick" = some (.ref fK)) (k_law_pick : PySem.W.keepIn K (.ref fK) = true) (b_law_pick : Binds K fdK ["_law_bag_here", "_law_things"] [])
    (G_law_take : FnOk P w K mg base CX0 k fT fdT ["_law_bag_here", "_law_many"] spTakeW) (g_law_take : mg "_law_take" = some (.ref fT)) (k_law_take : PySem.W.keepIn K (.ref fT) = true) (b_law_take : Binds K fdT ["_law_bag_here", "_law_many"] [])
    (g_range : mg "range" = none) (g_tuple : mg "tuple" = none) :
    GnOk P w K mg base CX0 (k + 1) f fd ["_law_bag_here", "_law_pool_here", "_law_scope", "_law_deep", "_law_room"] (spStm K n) := by
  refine gn_of F sc_law_statements (fun vs H Q E h => ?_) (fun cdv A outer s H vs Q E hg hr h => ⟨_, PSs.nox
    (pss_cons (ps_setLc (i := 5) (own := [("_law_turn", 6)]) rfl sc_law_statements.nd rfl rfl (sw_true rfl rfl rfl (by decide +kernel)) (pi_range1 (by rfl) g_range (pa_cons (pe_call G_law_pick (hr.mono (Nat.le_refl _)) rfl g_law_pick k_law_pick b_law_pick .nil pass0 (pa_cons (pv 0) (pa_cons (pe_lst (pa_cons pe_int (pa_cons pe_int (pa_cons pe_int (pa_cons pe_int (pa_cons pe_int pa_nil)))))) pa_nil))) pa_nil)) (blkOk_by (own := [("_law_turn", 6)]) (N := ["_law_bag_here", "_law_pool_here", "_law_scope", "_law_deep", "_law_room", "_law_trees", "_law_turn"]) (sc := defScope s_law_statements) (by decide +kernel)) (fun _ _ _ _ _ => by (exact (pg_name (i := 6) sc_law_statements.nd rfl (Or.inl rfl)))) (fun _ _ _ _ _ => by exact pts_nil) (fun _ _ _ _ _ => by exact (pe_callG G_law_tree hg (hr.mono (Nat.le_refl _)) rfl g_law_tree k_law_tree b_law_tree .nil pass0 (pa_cons (pv 0) (pa_cons (pv 1) (pa_cons (pv 2) (pa_cons (pv 3) (pa_cons (pv 4) pa_nil))))))))
      (pss_cons (ps_if (PW.pt (pw_and (pt_cmpR (op_neD hr.units) (pv 5) (pe_lst pa_nil) (nomark _)) (pw_and1 (pt_cmpR op_eq (pe_call G_law_take (hr.mono (Nat.le_refl _)) rfl g_law_take k_law_take b_law_take .nil pass0 (pa_cons (pv 0) (pa_cons pe_int pa_nil))) pe_int (nomark _))))) (pss_one (ps_asg (pe_tup (pa_cons pe_str (pa_cons (pe_ix ix_list (pv 5) (pe_un un_neg pe_int) (fun _ _ => rfl)) pa_nil))) (pg_sub (pv 5) (pe_un un_neg pe_int) set_list))) pss_nil)
      (pss_one (ps_ret (pe_callTy call_tuple_of (by rfl) g_tuple (by decide +kernel) (pa_cons (pv 5) pa_nil)))))), ?_⟩)
  · obtain ⟨b, pp, sc, rr, n0, e, ns, ks, r, _, _, rfl, _⟩ := h
    rfl
  obtain ⟨b, pp, sc, rr, n0, e, ns, ks, r, hn, he, rfl, hP, hc, q⟩ := h
  obtain ⟨h1, h2, h3, h4, h5⟩ := hP.pne
  dsimp only [gName, tSeq, tNext]
  refine pick_lst (K := K) (ds := dsStm) rfl hP.bag (by omega) ?e1 (by decide) (by decide) fun d v D H1 hd hv hD W1 => ?_
  case e1 => (repeat' (first | exact evds_nil | exact evd_int | exact evd_str | refine evds_cons ?_ ?_))
  obtain ⟨kz, rfl, hkz⟩ := stm_ok hd
  cases hv
  have W := Went.two W1 hP.bag hP.room
  refine ⟨_, rfl, by omega, by omega, fun L nL => ?_⟩
  have hne := W.ne nL
  have nL0 : H L = none := W.free nL
  refine lc_range (lo := 0) (fun i H' => ∃ (ys : List V) (ds : List PyData) (c m' : Nat) (r' : Int), H' L = some (.lst ys) ∧ DpAll K H' ys ds ∧ GtL ks e ds c ∧ ds.length = i ∧ c + 41 * rN r' ≤ 41 * rN r + i ∧ m' + 10250 * rN r' ≤ n0 + 1 + 10250 * rN r + 250 * i ∧ r' ≤ r ∧ Went2 b rr m' r' H H') ⟨[], [], 0, n0 + 1, r, upd_same, .nil, .nil, rfl, by omega, by omega, Int.le_refl _, W.list nL0 hne.1 hne.2⟩ ?turn ?last
  case turn =>
    rintro i H6 hi ⟨ys, ds, c, m', r', hL, hD, hG, hl, hc', hm', hr', W7⟩
    have hi : i < kz := by simpa using hi
    refine ⟨rfl, tyes ?_⟩
    refine ⟨_, rfl, _, rfl, _, rfl, _, rfl, _, rfl, b, pp, sc, rr, m', e, ns, ks, r', hn, he, rfl, hP.go W7, by omega, fun v d c2 m2 r2 H7 hG2 hd hc2 hm2 hr2 W8 => ?_⟩
    have hL7 := W8.rest L _ hne.1 hne.2 hL
    have ll := lists_upd (zs := ys ++ [v]) hL7
    have hyl := dpAll_length hD
    refine ⟨ys, hL7, ?_, ys ++ [v], ds ++ [d], c + c2, m2, r2, upd_same, ?_, ?_, by simp [hl], by omega, by omega, by omega, (W7.trans W8).list nL0 hne.1 hne.2⟩
    · exact Nat.lt_of_lt_of_le (show ys.length < 100 by omega) (by decide)
    · exact dpAll_app (dpAll_lists ((W8.lists W7.bag W7.room).trans ll) (fun d hd => (hG.gs _ (Nat.le_refl _)).nol d hd) hD) (.cons (dp_lists ll (hG2.gs _ (Nat.le_refl _)).nol hd) .nil)
    · exact hG.app (.cons (c' := 0) hG2 .nil)
  case last =>
    rintro H6 ⟨ys, ds, c, m', r', hL, hD, hG, hl, hc', hm', hr', W7⟩
    have hl : ds.length = kz := by simpa using hl
    have hc' : c + 41 * rN r' ≤ 41 * rN r + kz := hc'
    have hm' : m' + 10250 * rN r' ≤ n0 + 1 + 10250 * rN r + 250 * kz := hm'
    dsimp only [gName, tNext]
    have hsh : ShL ds 60 (5000 * c) := (hG.gs 12 (by omega)).sh.le (by omega) (Nat.le_refl _)
    refine seq_join (fun σ' H' => ∃ (ys : List V) (ds : List PyData) (c m : Nat) (x6 : Option V), σ' = [some (.ref b), some (.ref pp), some (.ref sc), some (.int (e : Int)), some (.ref rr), some (.ref L), x6] ∧ H' L = some (.lst ys) ∧ DpAll K H' ys ds ∧ GtS ks e ds c ∧ ds.length ≤ 3 ∧ c + 41 * rN r' ≤ 41 * rN r + 4 ∧ m + 10250 * rN r' ≤ n0 + 10250 * rN r + 800 ∧ Went2 b rr m r' H H') (fun D' hD' => ?_) ?fin
    case fin =>
      rintro _ H7 ⟨ys, ds, c, m, x6, rfl, hL, hD, hG, hl, hc, hm, W⟩
      refine ⟨_, rfl, L, ys, rfl, .inl ⟨SqL.of hL, fun p np => ?_⟩⟩
      have s1 := same_upd (o := HO.tup ys) np
      exact q (.ref p) ds c m r' _ hG hl (Dp.tup (SqT.of upd_same) (dp_monoAll s1 _ _ hD)) hc hm hr' (W.same s1)
    refine ⟨_, rfl, (by show 0 ≤ sizeLine; decide), fun p np => ?_⟩
    have s0 := same_upd (o := HO.lst []) np
    have hpL : H6 p = none := np
    have W8 := W7.same s0
    have hL8 := s0 _ _ hL
    have hD8 := dp_monoAll s0 _ _ hD
    have hpe : (upd H6 p (.lst [])) p = some (.lst []) := upd_same
    generalize upd H6 p (.lst []) = H7 at W8 hL8 hD8 hpe ⊢
    refine ⟨.list ds, .list [], Dp.lst (SqL.of hL8) hD8, Dp.lst (SqL.of hpe) .nil, shaped_list (hG.gs 12 (by omega)).lay hsh (Nat.le_refl _), shaped_nil, _, rfl, ?_⟩
    rw [eqv_nil]
    rcases List.eq_nil_or_concat ds with rfl | ⟨ds0, d0, rfl⟩
    · exact iteF (iteF (hD' _ _ ⟨ys, [], c, m', _, rfl, hL8, hD8, .plain hG, by simp, by omega, by omega, W8⟩))
    rw [List.concat_eq_append] at *
    rw [decide_eq_false (by simp)]
    refine iteT ?_
    refine took rfl W8.bag (by omega) (by decide) (by decide) (fun Q h => h) fun t H8 t0 t1 W9 => ?_
    have hL9 := W9.rest _ _ hne.1 hL8
    have hD9 := dpAll_lists (Went.lists W9 W8.bag) (fun d hd => (hG.gs _ (Nat.le_refl _)).nol d hd) hD8
    have W9 := W8.went W9
    refine ⟨rfl, decide (V.int t = V.int 0), rfl, ?_⟩
    cases h1 : decide (V.int t = V.int 0) with
    | false => exact iteF (hD' _ _ ⟨ys, _, c, m' + 1, _, rfl, hL9, hD9, .plain hG, by omega, by omega, by omega, W9⟩)
    | true =>
      refine iteT ?_
      obtain ⟨ys0, zs, rfl, hy, hz⟩ := dpAll_split hD9
      cases hz with | cons g1 hz =>
      cases hz
      rename_i v0
      have hyl := dpAll_length hy
      obtain ⟨c1, c2, rfl, hG1, hG2⟩ := hG.snoc
      refine ⟨_, rfl, _, rfl, L, _, _, _, rfl, rfl, SqL.of hL9, atI_last ys0 v0, (by show 2 ≤ sizeLine; decide), fun u nu => ?_⟩
      have s2 := same_upd (o := HO.tup [V.str kRet, v0]) nu
      have hL10 := s2 _ _ hL9
      have hu : (upd H8 u (.tup [V.str kRet, v0])) u = some (.tup [V.str kRet, v0]) := upd_same
      have hy10 := dp_monoAll s2 _ _ hy
      have g10 := dp_mono s2 _ _ g1
      have W10 := W9.same s2
      refine ⟨_, rfl, _, rfl, L, _, _, ys0.length, rfl, rfl, hL10, by rw [List.length_append]; exact ixN_last _, ?_⟩
      have ll := lists_upd (zs := ys0 ++ [V.ref u]) hL10
      have hnol : ∀ d ∈ ds0, NoL d := fun d hd => (hG1.gs _ (Nat.le_refl _)).nol d hd
      have hnd : NoL (.tuple [.str kRet, d0]) := .tup (noL_cons (.str _) (noL_cons (hG2.gs _ (Nat.le_refl _)).nol noL_nil))
      refine hD' _ _ ⟨ys0 ++ [V.ref u], ds0 ++ [.tuple [.str kRet, d0]], c1 + (c2 + 1), m' + 1, _, rfl, ?_, ?_, .ret hG1 hG2, ?_, by omega, by omega, W10.list nL0 hne.1 hne.2⟩
      · show upd _ L _ L = _
        rw [upd_same, set_last]
      · rw [set_last]
        exact dpAll_app (dpAll_lists ll hnol hy10) (.cons (dp_lists ll hnd (Dp.tup (SqT.of hu) (.cons (.str _) (.cons g10 .nil)))) .nil)
      · rw [List.length_append] at hl ⊢
        simp at hl ⊢
        omega
end
end My8

end
section
set_option Elab.async false
set_option linter.all false
set_option maxRecDepth 100000
set_option maxHeartbeats 2000000
namespace My8
open PySem PySem.Spec PyProof.Rows L2 My
open TrM TL
abbrev s_law_block : Stmt := top 69
/-- a block -/
def spBlk (K : PySem.W.Frag) (n : Nat) : Sp := fun vs H Q _ => ∃ (b pp sc rr : Addr) (n0 e : Nat) (ns : List Str) (ks : List (Str × Bool)) (r : Int), n = e + 1 ∧ e ≤ 3 ∧ vs = [.ref b, .ref pp, .ref sc, .int (e : Int), .ref rr] ∧ Pl H b pp sc rr n0 ns ks r ∧ n0 + 10250 * rN r + 1100 ≤ 870000 ∧
  ∀ (v : V) (d : PyData) (c m : Nat) (r' : Int) (H' : Hp), Gt ks (e + 1) d c → Dp K H' v d → c + 41 * rN r' ≤ 41 * rN r + 5 → m + 10250 * rN r' ≤ n0 + 10250 * rN r + 900 → r' ≤ r → Went2 b rr m r' H H' → Q v H'
def frees (ns : List Str) (ks : List (Str × Bool)) : List Str := ns.filter fun x => (ks.lookup x).isNone
theorem cut_take (ys : List V) (k : Nat) : cutV ys none (some (k : Int)) = ys.take k := by
  unfold cutV
  rw [six_pos, HT.sIx_none, List.drop_zero, Nat.sub_zero, ← List.take_eq_take_min]
theorem cut_mid (ys : List V) (a c : Nat) : cutV ys (some (a : Int)) (some ((a : Int) + (c : Int))) = (ys.drop a).take c := by
  have : (a : Int) + (c : Int) = ((a + c : Nat) : Int) := by omega
  rw [this]
  unfold cutV
  rw [six_pos, six_pos]
  by_cases h : a ≤ ys.length
  · rw [Nat.min_eq_left h]
    by_cases h2 : a + c ≤ ys.length
    · rw [Nat.min_eq_left h2, Nat.add_sub_cancel_left]
    · rw [Nat.min_eq_right (by omega), List.take_of_length_le (by rw [List.length_drop]; exact Nat.le_refl _), List.take_of_length_le (by rw [List.length_drop]; omega)]
  · rw [Nat.min_eq_right (show ys.length ≤ a by omega), List.drop_eq_nil_of_le (Nat.le_refl _), List.drop_eq_nil_of_le (by omega), List.take_nil, List.take_nil]
theorem nopart {σ : L2.St} {H : Hp} {Q : Option Int → Hp → Prop} (h : Q none H) : tNoPart σ H Q := h
/-- the names that a block has declared when i are done -/
def labs (F : List Str) (m i : Nat) : List (Str × Bool) := ((F.take (min i m)).map fun x => (x, true)) ++ ((F.drop m).take (i - m)).map fun x => (x, false)
theorem labs_zero (F : List Str) (m : Nat) : labs F m 0 = [] := by unfold labs; simp
theorem labs_keys (F : List Str) (m i : Nat) : (labs F m i).map (·.1) = F.take i := by
  unfold labs
  rw [List.map_append, List.map_map, List.map_map]
  have e1 : ((fun p : Str × Bool => p.1) ∘ fun x => (x, true)) = id := rfl
  have e2 : ((fun p : Str × Bool => p.1) ∘ fun x => (x, false)) = id := rfl
  rw [e1, e2, List.map_id, List.map_id]
  by_cases h : i ≤ m
  · rw [Nat.min_eq_left h, Nat.sub_eq_zero_of_le h, List.take_zero, List.append_nil]
  · obtain ⟨j, rfl⟩ : ∃ j, i = m + j := ⟨i - m, by omega⟩
    rw [Nat.min_eq_right (by omega), Nat.add_sub_cancel_left, List.take_add]
theorem labs_succ {F : List Str} {m i : Nat} {x : Str} (h : F[i]? = some x) : labs F m (i + 1) = labs F m i ++ [(x, decide (i < m))] := by
  unfold labs
  by_cases hi : i < m
  · rw [Nat.min_eq_left (by omega), Nat.min_eq_left (by omega), Nat.sub_eq_zero_of_le (by omega), Nat.sub_eq_zero_of_le (by omega), List.take_zero, List.map_nil, List.append_nil, List.append_nil, List.take_succ, h, decide_eq_true hi, List.map_append]
    rfl
  · rw [Nat.min_eq_right (by omega), Nat.min_eq_right (by omega), show i + 1 - m = (i - m) + 1 by omega, List.take_succ, List.getElem?_drop, show m + (i - m) = i by omega, h, decide_eq_false hi, List.map_append, List.append_assoc]
    rfl
theorem labs_decl (ks : List (Str × Bool)) (F : List Str) (m c : Nat) : ks ++ labs F m (m + c) = decl ks (F.take m) ((F.drop m).take c) := by
  unfold labs decl
  rw [Nat.min_eq_right (by omega), Nat.add_sub_cancel_left, List.append_assoc]
theorem kvs_put {ks : List (Str × Bool)} {x : Str} {c : Bool} (h : x ∉ ks.map (·.1)) : putK (kvsOf ks) (.inr x) (.bl c) = kvsOf (ks ++ [(x, c)]) := by
  have h0 : valV (kvsOf ks) (.inr x) = none := by
    rw [val_kvs]
    have : ks.lookup x = none := by
      rw [List.lookup_eq_none_iff]
      intro p hp
      rw [bne_iff_ne]
      intro e
      have e : x = p.1 := e
      exact h (by rw [e]; exact List.mem_map_of_mem hp)
    rw [this]; rfl
  rw [putK_new _ h0]
  unfold kvsOf
  rw [List.map_append]
  rfl
theorem frees_nd {ns : List Str} (h : ns.Nodup) (ks : List (Str × Bool)) : (frees ns ks).Nodup := h.filter _
theorem frees_mem {ns : List Str} {ks : List (Str × Bool)} {x : Str} (h : x ∈ frees ns ks) : x ∈ ns ∧ x ∉ ks.map (·.1) := by
  obtain ⟨h1, h2⟩ := List.mem_filter.mp h
  refine ⟨h1, fun hm => ?_⟩
  obtain ⟨p, hp, e⟩ := List.mem_map.mp hm
  have h2 : (ks.lookup x).isNone = true := h2
  rw [Option.isNone_iff_eq_none, List.lookup_eq_none_iff] at h2
  have := h2 p hp
  rw [bne_iff_ne] at this
  exact this e.symm
section
variable {P : Program} {w : World} {K : PySem.W.Frag} {mg : Str → Option Value} {base : Heap}
theorem sc_law_block : FnScope ["_law_bag_here", "_law_pool_here", "_law_scope", "_law_deep", "_law_room", "_law_free", "_law_many", "_law_more", "_law_inner", "_law_at", "_law_label", "_law_statements_here"] ["_law_bag_here", "_law_pool_here", "_law_scope", "_law_deep", "_law_room"] (defScope s_law_block) := ⟨rfl, rfl, rfl, by decide +kernel, rfl, by decide +kernel, by decide +kernel⟩
theorem ok_block {f fR fT : Addr} {fd fdR fdT : FuncData} {k n : Nat} (F : FnP K "_law_block" s_law_block f fd) (G_law_statements : GnOk P w K mg base CX0 k fR fdR ["_law_bag_here", "_law_pool_here", "_law_scope", "_law_deep", "_law_room"] (spStm K n)) (g_law_statements : mg "_law_statements" = some (.ref fR)) (k_law_statements : PySem.W.keepIn K (.ref fR) = true) (b_law_statements : Binds K fdR ["_law_bag_here", "_law_pool_here", "_law_scope", "_law_deep", "_law_room"] [])
    (G_law_take : FnOk P w K mg base CX0 k fT fdT ["_law_bag_here", "_law_many"] spTakeW) (g_law_take : mg "_law_take" = some (.ref fT)) (k_law_take : PySem.W.keepIn K (.ref fT) = true) (b_law_take : Binds K fdT ["_law_bag_here", "_law_many"] [])
    (g_len : mg "len" = none) (g_min : mg "min" = none) (g_dict : mg "dict" = none) (g_enumerate : mg "enumerate" = none) (g_tuple : mg "tuple" = none) :
    GnOk P w K mg base CX0 (k + 1) f fd ["_law_bag_here", "_law_pool_here", "_law_scope", "_law_deep", "_law_room"] (spBlk K n) := by
  refine gn_of F sc_law_block (fun vs H Q E h => ?_) (fun cdv A outer s H vs Q E hg hr h => ⟨_, PSs.nox
    (pss_cons (ps_setLc (i := 5) (own := [("_law_label", 10)]) rfl sc_law_block.nd rfl rfl (sw_true rfl rfl rfl (by decide +kernel)) (pi_list (pv 1)) (blkOk_by (own := [("_law_label", 10)]) (N := ["_law_bag_here", "_law_pool_here", "_law_scope", "_law_deep", "_law_room", "_law_free", "_law_many", "_law_more", "_law_inner", "_law_at", "_law_label", "_law_statements_here"]) (sc := defScope s_law_block) (by decide +kernel)) (fun _ _ _ _ _ => by (exact (pg_name (i := 10) sc_law_block.nd rfl (Or.inl rfl)))) (fun _ _ _ _ _ => by exact (pts_one (pt_cmp (pc_dnotin (Nat.lt_of_le_of_lt (Nat.add_le_add_left (by decide : 1 ≤ 64) _) hr.units) (pv 10) (pv 2))))) (fun _ _ _ _ _ => by exact (pv 10)))
      (pss_cons (ps_set (i := 6) sc_law_block.nd rfl (Or.inl rfl) (pe_call G_law_take (hr.mono (Nat.le_refl _)) rfl g_law_take k_law_take b_law_take .nil pass0 (pa_cons (pv 0) (pa_cons (pe_op op_add pe_int (pe_callB (call_min2 rfl) (by rfl) g_min (by decide +kernel) (pa_cons pe_int (pa_cons (pe_callB call_len_seq (by rfl) g_len PySem.boot_len (pa_cons (pv 5) pa_nil)) pa_nil)))) pa_nil))))
      (pss_cons (ps_set (i := 7) sc_law_block.nd rfl (Or.inl rfl) (pe_call G_law_take (hr.mono (Nat.le_refl _)) rfl g_law_take k_law_take b_law_take .nil pass0 (pa_cons (pv 0) (pa_cons (pe_op op_add pe_int (pe_callB (call_min2 rfl) (by rfl) g_min (by decide +kernel) (pa_cons pe_int (pa_cons (pe_op op_sub (pe_callB call_len_seq (by rfl) g_len PySem.boot_len (pa_cons (pv 5) pa_nil)) (pv 6)) pa_nil)))) pa_nil))))
      (pss_cons (ps_set (i := 8) sc_law_block.nd rfl (Or.inl rfl) (pe_callTy call_dictD (by rfl) g_dict (by decide +kernel) (pa_cons (pv 2) pa_nil)))
      (pss_cons (ps_for PassesOwn.never rfl (pi_enum (by rfl) g_enumerate (pa_cons (pe_slice sl_list (pv 5) po_none (po_some (pe_op op_add (pv 6) (pv 7)))) pa_nil)) (pg_tup rfl (pgs_cons (pg_name (i := 9) sc_law_block.nd rfl (Or.inl rfl)) (pgs_cons (pg_name (i := 10) sc_law_block.nd rfl (Or.inl rfl)) pgs_nil))) (pss_cons (ps_dput (Nat.lt_of_le_of_lt (Nat.add_le_add_left (by decide : 1 ≤ 64) _) hr.units) (pv 8) (pv 10) (pe_cmpR op_lt (pv 9) (pv 6) (nomark _)) rfl)
      (pss_one (ps_asg (pe_op op_sub (pe_op op_sub (pe_ix ix_list (pv 4) pe_int (fun _ _ => rfl)) (pe_callB call_len_str (by rfl) g_len PySem.boot_len (pa_cons (pv 10) pa_nil))) pe_int) (pg_sub (pv 4) pe_int set_list)))))
      (pss_cons (ps_set (i := 11) sc_law_block.nd rfl (Or.inl rfl) (pe_callG G_law_statements hg (hr.mono (Nat.le_refl _)) rfl g_law_statements k_law_statements b_law_statements .nil pass0 (pa_cons (pv 0) (pa_cons (pv 1) (pa_cons (pv 8) (pa_cons (pv 3) (pa_cons (pv 4) pa_nil)))))))
      (pss_one (ps_ret (pe_tup (pa_cons pe_str (pa_cons (pe_callTy call_tuple_of (by rfl) g_tuple (by decide +kernel) (pa_cons (pe_slice sl_list (pv 5) po_none (po_some (pv 6))) pa_nil)) (pa_cons (pe_callTy call_tuple_of (by rfl) g_tuple (by decide +kernel) (pa_cons (pe_slice sl_list (pv 5) (po_some (pv 6)) (po_some (pe_op op_add (pv 6) (pv 7)))) pa_nil)) (pa_cons (pv 11) pa_nil))))))))))))), ?_⟩)
  · obtain ⟨b, pp, sc, rr, n0, e, ns, ks, r, _, _, rfl, _⟩ := h
    rfl
  obtain ⟨b, pp, sc, rr, n0, e, ns, ks, r, hn, he, rfl, hP, hc, q⟩ := h
  obtain ⟨h1, h2, h3, h4, h5⟩ := hP.pne
  dsimp only [gName, tSeq, tNext]
  refine ⟨_, rfl, pp, rfl, ⟨_, SqL.of hP.pool⟩, fun L nL => ?_⟩
  have W0 := Went2.refl hP.bag hP.room
  have hLn := W0.ne nL
  refine lc_list (K := K) (a := pp) (xs := ns.map V.str) (fun j H' => H' L = some (.lst (((ns.take j).filter fun x => (ks.lookup x).isNone).map V.str)) ∧ Same H H') ⟨upd_same, same_upd nL⟩ (fun j H' _ R => SqL.of (R.2 _ _ hP.pool)) (fun j x H' hx R => ?_) (fun H1 R => ?_)
  · rw [List.getElem?_map] at hx
    obtain ⟨y, hy, rfl⟩ := Option.map_eq_some_iff.mp hx
    have hj : j < 4 := by have := (List.getElem?_eq_some_iff.mp hy).1; have := hP.len; omega
    refine ⟨rfl, _, rfl, _, rfl, sc, (ks.lookup y).map V.bl, rfl, .inl ⟨kvsOf ks, .inr y, .inl (R.2 _ _ hP.dict), rfl, (val_kvs y ks).symm⟩, (ks.lookup y).isNone, ?_, ?_⟩
    · cases ks.lookup y <;> rfl
    cases hcn : (ks.lookup y).isNone with
    | true =>
      refine iteT ⟨_, rfl, _, R.1, ?_, ?_, same_free R.2 nL⟩
      · rw [List.length_map]
        exact Nat.lt_of_le_of_lt (Nat.le_trans (List.length_filter_le _ _) (show (ns.take j).length ≤ 4 by rw [List.length_take]; omega)) (by decide)
      · rw [upd_same, List.take_succ, hy, List.filter_append]
        simp [hcn]
    | false =>
      refine iteF ⟨?_, R.2⟩
      rw [List.take_succ, hy, List.filter_append, R.1]
      simp [hcn]
  obtain ⟨hL1, s1⟩ := R
  rw [List.length_map, List.take_length] at hL1
  have hL1 : H1 L = some (.lst ((frees ns ks).map V.str)) := hL1
  have hFl : (frees ns ks).length ≤ 4 := by rw [← hP.len]; exact List.length_filter_le _ _
  have hFm := fun x (h : x ∈ frees ns ks) => frees_mem h
  have hFn := frees_nd hP.nd ks
  generalize frees ns ks = F at hL1 hFl hFm hFn
  have W1 := W0.same s1
  dsimp only [gName, tSeq, tNext]
  refine took (m := 1 + (if ((F.map V.str).length : Int) < 2 then ((F.map V.str).length : Int) else 2)) rfl W1.bag (by omega) (by split <;> omega) (by split <;> omega) (fun Q h => ⟨_, rfl, L, _, rfl, .inl (SqL.of hL1), _, _, rfl, _, _, rfl, rfl, h⟩) fun ma H2 a0 a1 W2 => ?_
  have hL2 := W2.rest _ _ hLn.1 hL1
  have W2 := W1.went W2
  rw [List.length_map] at a1
  obtain ⟨mn, rfl⟩ : ∃ mn : Nat, ma = (mn : Int) := ⟨ma.toNat, by omega⟩
  have hmn : mn ≤ 2 ∧ mn ≤ F.length := by
    revert a1
    split <;> intro a1 <;> omega
  clear a0 a1
  dsimp only [gName, tSeq, tNext]
  refine took (m := 1 + (if ((F.map V.str).length : Int) - (mn : Int) < 2 then ((F.map V.str).length : Int) - (mn : Int) else 2)) rfl W2.bag (by omega) (by rw [List.length_map]; split <;> omega) (by rw [List.length_map]; split <;> omega) (fun Q h => ⟨_, rfl, L, _, rfl, .inl (SqL.of hL2), _, rfl, _, _, rfl, rfl, _, _, rfl, _, _, rfl, rfl, h⟩) fun mo H3 a0 a1 W3 => ?_
  have hL3 := W3.rest _ _ hLn.1 hL2
  have W3 := W2.went W3
  rw [List.length_map] at a1
  obtain ⟨mm, rfl⟩ : ∃ mm : Nat, mo = (mm : Int) := ⟨mo.toNat, by omega⟩
  have hmm : mm ≤ 2 ∧ mn + mm ≤ F.length := by
    revert a1
    split <;> intro a1 <;> omega
  clear a0 a1
  dsimp only [gName, tSeq, tNext]
  have P3 := hP.go W3
  refine ⟨_, rfl, sc, kvsOf ks, rfl, .inl P3.dict, fun ic nic => ?_⟩
  have hicb := W3.ne nic
  have nic0 : H ic = none := W3.free nic
  have nL0 : H L = none := nL
  have hicL : ic ≠ L := fun e => by rw [e, hL3] at nic; cases nic
  have hL4 := same_upd (o := HO.dK (kvsOf ks)) nic _ _ hL3
  have W4 := W3.same (same_upd (o := HO.dK (kvsOf ks)) nic)
  have hic4 : (upd H3 ic (.dK (kvsOf ks))) ic = some (.dK (kvsOf ks)) := upd_same
  generalize upd H3 ic (.dK (kvsOf ks)) = H4 at hL4 W4 hic4 ⊢
  dsimp only [gName, tNext, tSeq]
  have hS0 : cutV (F.map V.str) none (some ((mn : Int) + (mm : Int))) = (F.take (mn + mm)).map V.str := by
    have : (mn : Int) + (mm : Int) = ((mn + mm : Nat) : Int) := by omega
    rw [this, cut_take, List.map_take]
  have ht : (F.take (mn + mm)).length = mn + mm := by rw [List.length_take]; omega
  refine ⟨_, rfl, nopart ⟨_, rfl, _, rfl, _, _, rfl, rfl, _, rfl, L, _, rfl, SqL.of hL4, fun S nS => ?_⟩⟩
  rw [hS0]
  have hSb := W4.ne nS
  have nS0 : H S = none := W4.free nS
  have hSL : S ≠ L := fun e => by rw [e, hL4] at nS; cases nS
  have hSi : S ≠ ic := fun e => by rw [e, hic4] at nS; cases nS
  have sS := same_upd (o := HO.lst ((F.take (mn + mm)).map V.str)) nS
  have hS5 : (upd H4 S (.lst ((F.take (mn + mm)).map V.str))) S = some (.lst ((F.take (mn + mm)).map V.str)) := upd_same
  have hL5 := sS _ _ hL4
  have hic5 := sS _ _ hic4
  have W5 := W4.same sS
  generalize upd H4 S (.lst ((F.take (mn + mm)).map V.str)) = H5 at hS5 hL5 hic5 W5 ⊢
  refine ⟨S, _, rfl, SqL.of hS5, for_it (walk_enum (K := K) (a := S) (xs := (F.take (mn + mm)).map V.str)) (fun i σ H' => ∃ (x9 x10 : Option V) (r' : Int), σ = [some (.ref b), some (.ref pp), some (.ref sc), some (.int (e : Int)), some (.ref rr), some (.ref L), some (.int (mn : Int)), some (.int (mm : Int)), some (.ref ic), x9, x10, none] ∧ H' S = some (.lst ((F.take (mn + mm)).map V.str)) ∧ H' L = some (.lst (F.map V.str)) ∧ H' ic = some (.dK (kvsOf (ks ++ labs F mn i))) ∧ r' ≤ r ∧ Went2 b rr (n0 + 1 + 1) r' H H') ⟨none, none, r, rfl, hS5, hL5, by rw [labs_zero, List.append_nil]; exact hic5, Int.le_refl _, W5⟩ (fun i σ H' _ R => by obtain ⟨_, _, _, _, h, _⟩ := R; exact SqL.of h) ?turn ?last⟩
  case turn =>
    rintro i x σ H6 H7 hi ⟨x9, x10, r', rfl, hS, hL, hic, hr', W⟩ ⟨T, y1, y2, rfl, nT, rfl, hy1, hy2⟩
    rw [List.length_map, ht] at hi
    cases hy1
    have hy2 : ((F.take (mn + mm)).map V.str)[i]? = some y2 := hy2
    rw [List.getElem?_map, List.getElem?_take, if_pos hi] at hy2
    obtain ⟨z, hz, rfl⟩ := Option.map_eq_some_iff.mp hy2
    have sT := same_upd (o := HO.tup [V.int (i : Nat), .str z]) nT
    have hTT : (upd H6 T (.tup [V.int (i : Nat), .str z])) T = some (.tup [V.int (i : Nat), .str z]) := upd_same
    have hS := sT _ _ hS
    have hL := sT _ _ hL
    have hic := sT _ _ hic
    have W := W.same sT
    generalize upd H6 T (.tup [V.int (i : Nat), .str z]) = H7 at hTT hS hL hic W ⊢
    refine ⟨T, _, rfl, SqT.of hTT, rfl, _, _, rfl, _, _, rfl, rfl, ?_⟩
    dsimp only [tSeq]
    have hzF : z ∈ F := List.mem_of_getElem? hz
    have hzk : z ∉ (ks ++ labs F mn i).map (·.1) := by
      rw [List.map_append, labs_keys, List.mem_append]
      rintro (h | h)
      · exact (hFm z hzF).2 h
      · obtain ⟨j, hj⟩ := List.getElem?_of_mem h
        rw [List.getElem?_take] at hj
        split at hj
        · rename_i hji
          have h1 := (List.getElem?_eq_some_iff.mp hj)
          have h2 := (List.getElem?_eq_some_iff.mp hz)
          obtain ⟨h1a, h1b⟩ := h1
          obtain ⟨h2a, h2b⟩ := h2
          exact (List.pairwise_iff_getElem.mp hFn) j i h1a h2a hji (by rw [h1b, h2b])
        · cases hj
    have hkl : (kvsOf (ks ++ labs F mn i)).length ≤ 8 := by
      have e1 : (kvsOf (ks ++ labs F mn i)).length = ks.length + ((labs F mn i).map (·.1)).length := by unfold kvsOf; rw [List.length_map, List.length_append, List.length_map]
      have e2 : ks.length ≤ 4 := by
        have := nd_sub hP.kd hP.sub
        rw [List.length_map, hP.len] at this
        exact this
      rw [e1, labs_keys, List.length_take]
      omega
    refine ⟨_, rfl, _, rfl, _, _, rfl, rfl, _, rfl, _, rfl, ic, _, rfl, .inl ⟨_, .inr z, hic, rfl, Nat.lt_of_le_of_lt hkl (by decide), rfl⟩, ?_⟩
    rw [kvs_put hzk]
    have hicr : ic ≠ rr := hicb.2
    have hzl : z.length ≤ 40 := (local_name (hP.lo z (hFm z hzF).1)).le
    refine ⟨_, rfl, _, _, _, _, rfl, rfl, SqL.of (by rw [upd_ne (Ne.symm hicr)]; exact W.room), rfl, _, rfl, _, rfl, Nat.le_trans hzl (by decide), _, _, rfl, rfl, _, _, rfl, rfl, ?_⟩
    refine ⟨_, rfl, rr, _, _, 0, rfl, rfl, by rw [upd_ne (Ne.symm hicr)]; exact W.room, rfl, ?_⟩
    have W8 := (W.list (o := .dK (kvsOf (ks ++ labs F mn i ++ [(z, decide (i < mn))]))) nic0 hicb.1 hicb.2).set (r' := r' - (z.length : Int) - 2)
    refine ⟨_, _, r' - (z.length : Int) - 2, rfl, ?_, ?_, ?_, by omega, ?_⟩
    · show upd (upd H7 ic _) rr _ S = _
      rw [upd_ne hSb.2, upd_ne hSi]; exact hS
    · show upd (upd H7 ic _) rr _ L = _
      rw [upd_ne hLn.2, upd_ne (Ne.symm hicL)]; exact hL
    · show upd (upd H7 ic _) rr _ ic = _
      rw [upd_ne hicb.2, upd_same, labs_succ hz, List.append_assoc]
      have : decide ((i : Int) < (mn : Int)) = decide (i < mn) := decide_eq_decide.mpr (by omega)
      rw [this]
    · have : decide ((i : Int) < (mn : Int)) = decide (i < mn) := decide_eq_decide.mpr (by omega)
      rw [this]
      exact W8
  case last =>
    rintro σ H6 ⟨x9, x10, r', rfl, hS, hL, hic, hr', W⟩
    have hic : H6 ic = some (.dK (kvsOf (ks ++ labs F mn (F.take (mn + mm)).length))) := by
      have e : ((F.take (mn + mm)).map V.str).length = (F.take (mn + mm)).length := List.length_map _
      rw [← e]; exact hic
    rw [ht, labs_decl] at hic
    have P6 := hP.go W
    have hdk : (decl ks (F.take mn) ((F.drop mn).take mm)).map (·.1) = ks.map (·.1) ++ F.take (mn + mm) := by
      rw [← labs_decl, List.map_append, labs_keys]
    have hpv : F.take mn ++ (F.drop mn).take mm = F.take (mn + mm) := (List.take_add).symm
    have hFm' : ∀ x ∈ F.take (mn + mm), x ∈ F := fun x h => List.mem_of_mem_take h
    have hnd : (ks.map (·.1) ++ F.take (mn + mm)).Nodup := by
      rw [List.nodup_append]
      exact ⟨hP.kd, hFn.sublist (List.take_sublist _ _), fun a ha c hc e => (hFm c (hFm' c hc)).2 (e ▸ ha)⟩
    have PL : Pl H6 b pp ic rr (n0 + 1 + 1) ns (decl ks (F.take mn) ((F.drop mn).take mm)) r' := ⟨P6.bag, P6.pool, hic, P6.room, hP.len, hP.lo, hP.nd, by rw [hdk]; exact hnd, fun x hx => by
      rw [hdk, List.mem_append] at hx
      rcases hx with hx | hx
      · exact hP.sub x hx
      · exact (hFm x (hFm' x hx)).1⟩
    have hN := rN_mono hr'
    refine ⟨_, rfl, _, rfl, _, rfl, _, rfl, _, rfl, b, pp, ic, rr, n0 + 1 + 1, e, ns, _, r', hn, by omega, rfl, PL, by omega, fun v ds c m r2 H7 hG hl hD hc2 hm2 hr2 W8 => ?_⟩
    have hL7 := W8.rest _ _ hLn.1 hLn.2 hL
    refine ⟨_, rfl, nopart ⟨_, rfl, _, rfl, L, _, rfl, SqL.of hL7, fun p1 np1 => ?_⟩⟩
    rw [cut_take, ← List.map_take]
    have s1 := same_upd (o := HO.lst ((F.take mn).map V.str)) np1
    refine ⟨p1, _, rfl, .inl ⟨SqL.of upd_same, fun t1 nt1 => ?_⟩⟩
    have s2 := same_upd (o := HO.tup ((F.take mn).map V.str)) nt1
    have ht1 : (upd (upd H7 p1 (.lst ((F.take mn).map V.str))) t1 (.tup ((F.take mn).map V.str))) t1 = some (.tup ((F.take mn).map V.str)) := upd_same
    have s12 := s1.trans s2
    generalize upd (upd H7 p1 (.lst ((F.take mn).map V.str))) t1 (.tup ((F.take mn).map V.str)) = H8 at s2 ht1 s12 ⊢
    refine ⟨_, rfl, _, rfl, _, rfl, _, rfl, _, rfl, _, _, rfl, rfl, _, rfl, L, _, rfl, SqL.of (s12 _ _ hL7), fun p2 np2 => ?_⟩
    rw [cut_mid, ← List.map_drop, ← List.map_take]
    have s3 := same_upd (o := HO.lst (((F.drop mn).take mm).map V.str)) np2
    refine ⟨p2, _, rfl, .inl ⟨SqL.of upd_same, fun t2 nt2 => ?_⟩⟩
    have s4 := same_upd (o := HO.tup (((F.drop mn).take mm).map V.str)) nt2
    have ht2 : (upd (upd H8 p2 (.lst (((F.drop mn).take mm).map V.str))) t2 (.tup (((F.drop mn).take mm).map V.str))) t2 = some (.tup (((F.drop mn).take mm).map V.str)) := upd_same
    have s34 := s3.trans s4
    generalize upd (upd H8 p2 (.lst (((F.drop mn).take mm).map V.str))) t2 (.tup (((F.drop mn).take mm).map V.str)) = H9 at s4 ht2 s34 ⊢
    refine ⟨_, rfl, (by show 4 ≤ sizeLine; decide), fun u nu => ?_⟩
    have s5 := same_upd (o := HO.tup [V.str kBlock, .ref t1, .ref t2, v]) nu
    have sA := (s12.trans s34).trans s5
    have hN2 := rN_mono hr2
    refine q (.ref u) _ (c + 1) m r2 _ (.block (ps := F.take mn) (vs := (F.drop mn).take mm) (by rw [List.length_take]; omega) (by rw [List.length_take, List.length_drop]; omega) (fun x hx => ?_) ?_ hl hG) (Dp.tup (SqT.of upd_same) (.cons (.str _) (.cons (Dp.tup (SqT.mono (s34.trans s5) (SqT.of ht1)) (dpAll_strs _)) (.cons (Dp.tup (SqT.mono s5 (SqT.of ht2)) (dpAll_strs _)) (.cons (dp_mono sA _ _ hD) .nil))))) (by omega) (by omega) (by omega) (((W.trans W8).same sA))
    · rw [hpv] at hx
      exact hP.lo x (hFm x (hFm' x hx)).1
    · rw [hpv]; exact hnd
end
end My8

end
section
set_option Elab.async false
set_option linter.all false
set_option maxRecDepth 100000
set_option maxHeartbeats 2000000
namespace My8
open PySem PySem.Spec PyProof.Rows L2 My
open TrM TL
abbrev s_law_tree : Stmt := top 67
def nots (ns : List Str) (ks : List (Str × Bool)) : List Str := ns.filter fun x => !decide (ks.lookup x = some true)
theorem GtM.app {ks : List (Str × Bool)} {e : Nat} : ∀ {ds es : List (Str × List PyData)} {c c' : Nat}, GtM ks e ds c → GtM ks e es c' → GtM ks e (ds ++ es) (c + c')
  | [], es, _, c', .nil, h => by rw [Nat.zero_add]; exact h
  | _ :: _, es, _, c', .cons hs hl h t, h' => by rw [Nat.add_assoc]; exact .cons hs hl h (t.app h')
theorem nots_mem {ns : List Str} {ks : List (Str × Bool)} {x : Str} (h : x ∈ nots ns ks) : x ∈ ns ∧ ks.lookup x ≠ some true := by
  obtain ⟨h1, h2⟩ := List.mem_filter.mp h
  refine ⟨h1, fun e => ?_⟩
  rw [decide_eq_true e] at h2
  cases h2
theorem rN_eight {r : Int} (h : ¬ r < 0) : rN (r - 8) + 1 = rN r := by unfold rN; omega
section
variable {P : Program} {w : World} {K : PySem.W.Frag} {mg : Str → Option Value} {base : Heap}
theorem sc_law_tree : FnScope ["_law_bag_here", "_law_pool_here", "_law_scope", "_law_deep", "_law_room", "_law_way", "_law_root", "_law_names", "_law_label", "_law_receiver", "_law_many", "_law_turn"] ["_law_bag_here", "_law_pool_here", "_law_scope", "_law_deep", "_law_room"] (defScope s_law_tree) := ⟨rfl, rfl, rfl, by decide +kernel, rfl, by decide +kernel, by decide +kernel⟩
theorem ok_ltree {f fL fA fB fS fK fT : Addr} {fd fdL fdA fdB fdS fdK fdT : FuncData} {k n : Nat} (F : FnP K "_law_tree" s_law_tree f fd) (G_law_tree : GnOk P w K mg base CX0 k f fd ["_law_bag_here", "_law_pool_here", "_law_scope", "_law_deep", "_law_room"] (spTr K n)) (g_law_tree : mg "_law_tree" = some (.ref f)) (k_law_tree : PySem.W.keepIn K (.ref f) = true) (b_law_tree : Binds K fd ["_law_bag_here", "_law_pool_here", "_law_scope", "_law_deep", "_law_room"] [])
    (G_law_block : GnOk P w K mg base CX0 k fB fdB ["_law_bag_here", "_law_pool_here", "_law_scope", "_law_deep", "_law_room"] (spBlk K n)) (g_law_block : mg "_law_block" = some (.ref fB)) (k_law_block : PySem.W.keepIn K (.ref fB) = true) (b_law_block : Binds K fdB ["_law_bag_here", "_law_pool_here", "_law_scope", "_law_deep", "_law_room"] [])
    (G_law_sending : GnOk P w K mg base CX0 k fS fdS ["_law_bag_here", "_law_pool_here", "_law_scope", "_law_deep", "_law_room"] (spSend K n)) (g_law_sending : mg "_law_sending" = some (.ref fS)) (k_law_sending : PySem.W.keepIn K (.ref fS) = true) (b_law_sending : Binds K fdS ["_law_bag_here", "_law_pool_here", "_law_scope", "_law_deep", "_law_room"] [])
    (G_law_array : GnOk P w K mg base CX0 k fA fdA ["_law_bag_here", "_law_deep", "_law_room"] (spArr K 3)) (g_law_array : mg "_law_array" = some (.ref fA)) (k_law_array : PySem.W.keepIn K (.ref fA) = true) (b_law_array : Binds K fdA ["_law_bag_here", "_law_deep", "_law_room"] [])
    (G_law_leaf : FnOk P w K mg base CX0 k fL fdL ["_law_bag_here", "_law_pool_here", "_law_room"] (spLeaf K)) (g_law_leaf : mg "_law_leaf" = some (.ref fL)) (k_law_leaf : PySem.W.keepIn K (.ref fL) = true) (b_law_leaf : Binds K fdL ["_law_bag_here", "_law_pool_here", "_law_room"] [])
    (G_law_pick : FnOk P w K mg base CX0 k fK fdK ["_law_bag_here", "_law_things"] (spPick K)) (g_law_pick : mg "_law_pick" = some (.ref fK)) (k_law_pick : PySem.W.keepIn K (.ref fK) = true) (b_law_pick : Binds K fdK ["_law_bag_here", "_law_things"] [])
    (G_law_take : FnOk P w K mg base CX0 k fT fdT ["_law_bag_here", "_law_many"] spTakeW) (g_law_take : mg "_law_take" = some (.ref fT)) (k_law_take : PySem.W.keepIn K (.ref fT) = true) (b_law_take : Binds K fdT ["_law_bag_here", "_law_many"] [])
    (g_len : mg "len" = none) (g_str : mg "str" = none) (g_range : mg "range" = none) (g_tuple : mg "tuple" = none) :
    GnOk P w K mg base CX0 (k + 1) f fd ["_law_bag_here", "_law_pool_here", "_law_scope", "_law_deep", "_law_room"] (spTr K (n + 1)) := by
  refine gn_of F sc_law_tree (fun vs H Q E h => ?_) (fun cdv A outer s H vs Q E hg hr h => ⟨_, PSs.nox
    (pss_cons (ps_set (i := 5) sc_law_tree.nd rfl (Or.inl rfl) (pe_call G_law_take (hr.mono (Nat.le_refl _)) rfl g_law_take k_law_take b_law_take .nil pass0 (pa_cons (pv 0) (pa_cons pe_int pa_nil))))
      (pss_cons (ps_if (PW.pt (pw_or (pt_cmpR op_eq (pv 3) pe_int (nomark _)) (pw_or (pt_cmpR op_lt (pe_ix ix_list (pv 4) pe_int (fun _ _ => rfl)) pe_int (nomark _)) (pw_or1 (pt_cmpR op_lt (pv 5) pe_int (nomark _)))))) (pss_cons (ps_set (i := 6) sc_law_tree.nd rfl (Or.inl rfl) (pe_call G_law_leaf (hr.mono (Nat.le_refl _)) rfl g_law_leaf k_law_leaf b_law_leaf .nil pass0 (pa_cons (pv 0) (pa_cons (pv 1) (pa_cons (pv 4) pa_nil)))))
      (pss_cons (ps_asg (pe_op op_sub (pe_op op_sub (pe_ix ix_list (pv 4) pe_int (fun _ _ => rfl)) pe_int) (pe_callB call_len_str (by rfl) g_len PySem.boot_len (pa_cons (pe_callTy (cr_strD hg hr.units) (by rfl) g_str (by decide +kernel) (pa_cons (pe_ix ix_tup (pv 6) pe_int (fun _ _ => rfl)) pa_nil)) pa_nil))) (pg_sub (pv 4) pe_int set_list))
      (pss_one (ps_ret (pv 6))))) pss_nil)
      (pss_cons (ps_asg (pe_op op_sub (pe_ix ix_list (pv 4) pe_int (fun _ _ => rfl)) pe_int) (pg_sub (pv 4) pe_int set_list))
      (pss_cons (ps_if (pt_cmpR op_eq (pv 5) pe_int (nomark _)) (pss_one (ps_ret (pe_callG G_law_array hg (hr.mono (Nat.le_refl _)) rfl g_law_array k_law_array b_law_array .nil pass0 (pa_cons (pv 0) (pa_cons pe_int (pa_cons (pv 4) pa_nil)))))) pss_nil)
      (pss_cons (ps_setLc (i := 7) (own := [("_law_label", 8)]) rfl sc_law_tree.nd rfl rfl (sw_true rfl rfl rfl (by decide +kernel)) (pi_list (pv 1)) (blkOk_by (own := [("_law_label", 8)]) (N := ["_law_bag_here", "_law_pool_here", "_law_scope", "_law_deep", "_law_room", "_law_way", "_law_root", "_law_names", "_law_label", "_law_receiver", "_law_many", "_law_turn"]) (sc := defScope s_law_tree) (by decide +kernel)) (fun _ _ _ _ _ => by (exact (pg_name (i := 8) sc_law_tree.nd rfl (Or.inl rfl)))) (fun _ _ _ _ _ => by exact (pts_one (pt_cmpR op_notTrue (pe_dget1 (Nat.lt_of_le_of_lt (Nat.add_le_add_left (by decide : 1 ≤ 64) _) hr.units) (pv 2) (pv 8) ⟨rfl, rfl, rfl, rfl⟩) pe_bl (nomark _)))) (fun _ _ _ _ _ => by exact (pv 8)))
      (pss_cons (ps_if (PW.pt (pw_and (pt_cmpR op_eq (pv 5) pe_int (nomark _)) (pw_and1 (pt_cmpR (op_neD hr.units) (pv 7) (pe_lst pa_nil) (nomark _))))) (pss_cons (ps_set (i := 8) sc_law_tree.nd rfl (Or.inl rfl) (pe_call G_law_pick (hr.mono (Nat.le_refl _)) rfl g_law_pick k_law_pick b_law_pick .nil pass0 (pa_cons (pv 0) (pa_cons (pv 7) pa_nil))))
      (pss_cons (ps_asg (pe_op op_sub (pe_ix ix_list (pv 4) pe_int (fun _ _ => rfl)) (pe_callB call_len_str (by rfl) g_len PySem.boot_len (pa_cons (pv 8) pa_nil))) (pg_sub (pv 4) pe_int set_list))
      (pss_one (ps_ret (pe_tup (pa_cons pe_str (pa_cons (pv 8) (pa_cons (pe_callG G_law_tree hg (hr.mono (Nat.le_refl _)) rfl g_law_tree k_law_tree b_law_tree .nil pass0 (pa_cons (pv 0) (pa_cons (pv 1) (pa_cons (pv 2) (pa_cons (pe_op op_sub (pv 3) pe_int) (pa_cons (pv 4) pa_nil)))))) pa_nil)))))))) pss_nil)
      (pss_cons (ps_if (pt_cmpR op_in_seq (pv 5) (pe_tup (pa_cons pe_int (pa_cons pe_int pa_nil))) (by rfl)) (pss_one (ps_ret (pe_callG G_law_block hg (hr.mono (Nat.le_refl _)) rfl g_law_block k_law_block b_law_block .nil pass0 (pa_cons (pv 0) (pa_cons (pv 1) (pa_cons (pv 2) (pa_cons (pe_op op_sub (pv 3) pe_int) (pa_cons (pv 4) pa_nil)))))))) pss_nil)
      (pss_cons (ps_if (pt_cmpR op_eq (pv 5) pe_int (nomark _)) (pss_one (ps_ret (pe_op op_catT (pe_tup (pa_cons pe_str pa_nil)) (pe_callG G_law_sending hg (hr.mono (Nat.le_refl _)) rfl g_law_sending k_law_sending b_law_sending .nil pass0 (pa_cons (pv 0) (pa_cons (pv 1) (pa_cons (pv 2) (pa_cons (pe_op op_sub (pv 3) pe_int) (pa_cons (pv 4) pa_nil))))))))) pss_nil)
      (pss_cons (ps_set (i := 9) sc_law_tree.nd rfl (Or.inl rfl) (pe_callG G_law_tree hg (hr.mono (Nat.le_refl _)) rfl g_law_tree k_law_tree b_law_tree .nil pass0 (pa_cons (pv 0) (pa_cons (pv 1) (pa_cons (pv 2) (pa_cons (pe_op op_sub (pv 3) pe_int) (pa_cons (pv 4) pa_nil)))))))
      (pss_cons (ps_if (pt_cmpR op_in_seq (pv 5) (pe_tup (pa_cons pe_int (pa_cons pe_int pa_nil))) (by rfl)) (pss_cons (ps_set (i := 10) sc_law_tree.nd rfl (Or.inl rfl) (pe_op op_add pe_int (pe_call G_law_take (hr.mono (Nat.le_refl _)) rfl g_law_take k_law_take b_law_take .nil pass0 (pa_cons (pv 0) (pa_cons pe_int pa_nil)))))
      (pss_one (ps_ret (pe_tup (pa_cons pe_str (pa_cons (pv 9) (pa_cons (pe_callTy call_tuple_of (by rfl) g_tuple (by decide +kernel) (pa_cons (pe_lc (own := [("_law_turn", 11)]) rfl sc_law_tree.nd (pi_range1 (by rfl) g_range (pa_cons (pv 10) pa_nil)) (blkOk_by (own := [("_law_turn", 11)]) (N := ["_law_bag_here", "_law_pool_here", "_law_scope", "_law_deep", "_law_room", "_law_way", "_law_root", "_law_names", "_law_label", "_law_receiver", "_law_many", "_law_turn"]) (sc := defScope s_law_tree) (by decide +kernel)) (fun _ _ _ _ _ => by (exact (pg_name (i := 11) sc_law_tree.nd rfl (Or.inl rfl)))) (fun _ _ _ _ _ => by exact pts_nil) (fun _ _ _ _ _ => by exact (pe_callG G_law_sending hg (hr.mono (Nat.le_refl _)) rfl g_law_sending k_law_sending b_law_sending .nil pass0 (pa_cons (pv 0) (pa_cons (pv 1) (pa_cons (pv 2) (pa_cons (pe_op op_sub (pv 3) pe_int) (pa_cons (pv 4) pa_nil)))))))) pa_nil)) pa_nil))))))) pss_nil)
      (pss_one (ps_ret (pe_op op_catT (pe_tup (pa_cons pe_str (pa_cons (pv 9) pa_nil))) (pe_callG G_law_sending hg (hr.mono (Nat.le_refl _)) rfl g_law_sending k_law_sending b_law_sending .nil pass0 (pa_cons (pv 0) (pa_cons (pv 1) (pa_cons (pv 2) (pa_cons (pe_op op_sub (pv 3) pe_int) (pa_cons (pv 4) pa_nil))))))))))))))))))), ?_⟩)
  · obtain ⟨b, pp, sc, rr, n0, e, ns, ks, r, _, _, rfl, _⟩ := h
    rfl
  obtain ⟨b, pp, sc, rr, n0, e, ns, ks, r, hn, he, rfl, hP, hc, q⟩ := h
  obtain rfl : n = e := by omega
  obtain ⟨h1, h2, h3, h4, h5⟩ := hP.pne
  dsimp only [gName, tSeq, tNext]
  refine took rfl hP.bag (by omega) (by decide) (by decide) (fun Q h => h) fun way H1 w0 w1 W1 => ?_
  have W1 := Went.two W1 hP.bag hP.room
  dsimp only [gName, tNext]
  refine if_ev (H0 := H1) (b := (decide (V.int (n : Int) = V.int 0) || (decide (r < 0) || decide (way < 2)))) (evt_or (evt_test fun H' Q hs kk => ⟨_, rfl, rfl, kk _ hs⟩) fun _ => evt_or (evt_test fun H' Q hs kk => ⟨_, rfl, _, _, _, _, rfl, rfl, SqL.of (hs _ _ W1.room), rfl, _, _, rfl, rfl, kk _ hs⟩) fun _ => evt_test fun H' Q hs kk => ⟨_, rfl, _, _, rfl, rfl, kk _ hs⟩) (Same.refl H1) (fun ht H2 s2 => ?_) (fun ht H2 s2 => ?_)
  · have W2 := W1.same s2
    have P2 := hP.go W2
    refine ⟨_, rfl, _, rfl, _, rfl, b, pp, rr, n0 + 1, ns, r, rfl, P2.bag, by omega, P2.pool, P2.len, P2.lo, h1, P2.room, fun v d m H3 hg hd hm W3 => ?_⟩
    have W3 := W2.went W3
    obtain ⟨tt, kk, u, e, rfl, hde, hTT, hu, hx, hlen⟩ := hg.pc hd
    refine ⟨_, rfl, _, _, _, _, rfl, rfl, SqL.of W3.room, rfl, _, _, rfl, rfl, _, rfl, _, _, _, _, rfl, rfl, hTT, atI_nat rfl, u, e, rfl, hu, hx, _, rfl, Nat.le_trans hlen (by decide), _, _, rfl, rfl, ?_⟩
    refine ⟨_, rfl, rr, _, _, 0, rfl, rfl, W3.room, rfl, ?_⟩
    have W4 := W3.set (r' := r - 8 - ((strD e).length : Int))
    have hr4 : r - 8 - ((strD e).length : Int) ≤ r := by omega
    have hN := rN_mono hr4
    have ll := lists_upd (zs := [V.int (r - 8 - ((strD e).length : Int))]) W3.room
    exact ⟨_, rfl, q _ _ 1 m (r - 8 - ((strD e).length : Int)) _ (.leaf hg) (dp_lists ll (hg.gs 0).nol hd) (by omega) (by omega) hr4 W4⟩
  rw [Bool.or_eq_false_iff, Bool.or_eq_false_iff] at ht
  have hn0 : n ≠ 0 := fun e => by subst e; exact absurd ht.1 (by decide)
  have hr0 : ¬ r < 0 := of_decide_eq_false ht.2.1
  obtain ⟨j, rfl⟩ : ∃ j, n = j + 1 := ⟨n - 1, by omega⟩
  have hj : ((j + 1 : Nat) : Int) - 1 = (j : Int) := by omega
  have W2 := W1.same s2
  have hN8 := rN_eight hr0
  refine ⟨_, rfl, _, _, _, _, rfl, rfl, SqL.of W2.room, rfl, _, _, rfl, rfl, ?_⟩
  refine ⟨_, rfl, rr, _, _, 0, rfl, rfl, W2.room, rfl, ?_⟩
  have W3 := W2.set (r' := r - 8)
  dsimp only [List.set]
  have hr8 : r - 8 ≤ r := by omega
  generalize r - 8 = r1 at W3 hN8 hr8 ⊢
  generalize upd H2 rr (.lst [V.int r1]) = H3 at W3 ⊢
  clear W2 s2 W1
  have P3 := hP.go W3
  dsimp only [tSeq, tNext]
  refine if_ev (H0 := H3) (b := decide (V.int way = V.int 2)) (evt_test fun H' Q hs kk => ⟨_, rfl, rfl, kk _ hs⟩) (Same.refl H3) (fun ht H4 s4 => ?_) (fun ht H4 s4 => ?_)
  · have W4 := W3.same s4
    have e3 : aT 3 = 3562 := rfl
    refine ⟨_, rfl, _, rfl, b, rr, n0 + 1, 2, r1, rfl, by decide, rfl, W4.bag, by omega, W4.room, fun v d c m r2 H5 hG hcA hd hm hr2 W5 => ?_⟩
    have := aA_le (n := 3) (by decide)
    have hN2 := rN_mono hr2
    exact q v d c m r2 H5 (.arr hG (by omega)) hd (by omega) (by omega) (by omega) (W4.trans W5)
  have W4 := W3.same s4
  have P4 := hP.go W4
  refine ⟨_, rfl, pp, rfl, ⟨_, SqL.of P4.pool⟩, fun L nL => ?_⟩
  have hLn := W4.ne nL
  have nL0 : H L = none := W4.free nL
  refine lc_list (K := K) (a := pp) (xs := ns.map V.str) (fun j H' => H' L = some (.lst (((ns.take j).filter fun x => !decide (ks.lookup x = some true)).map V.str)) ∧ Same H4 H') ⟨upd_same, same_upd nL⟩ (fun j H' _ R => SqL.of (R.2 _ _ P4.pool)) (fun i x H' hx R => ?_) (fun H5 R => ?_)
  · rw [List.getElem?_map] at hx
    obtain ⟨y, hy, rfl⟩ := Option.map_eq_some_iff.mp hx
    have hi4 : i < 4 := by have := (List.getElem?_eq_some_iff.mp hy).1; have := hP.len; omega
    have hdc := R.2 _ _ P4.dict
    refine ⟨rfl, _, rfl, sc, rfl, .inl ⟨_, .inl hdc⟩, _, rfl, (ks.lookup y).map V.bl, .inl ⟨kvsOf ks, .inr y, .inl hdc, rfl, (val_kvs y ks).symm⟩, rfl, ?_⟩
    have put : ∀ c : Bool, c = (!decide (ks.lookup y = some true)) → (∃ k, V.bl c = V.bl k ∧ if k = true then (tVar 8 : TE) ((wipe ((List.set (L2.start ["_law_bag_here", "_law_pool_here", "_law_scope", "_law_deep", "_law_room", "_law_way", "_law_root", "_law_names", "_law_label", "_law_receiver", "_law_many", "_law_turn"] [V.ref b, V.ref pp, V.ref sc, V.int ((j + 1 : Nat) : Int), V.ref rr]) 5 (some (V.int way)))) [8]).set 8 (some (V.str y))) H' (fun y H4_1 => ∃ acc, H4_1 L = some (.lst acc) ∧ acc.length < sizeLine ∧ (upd H4_1 L (.lst (acc ++ [y]))) L = some (.lst (((ns.take (i + 1)).filter fun x => !decide (ks.lookup x = some true)).map V.str)) ∧ Same H4 (upd H4_1 L (.lst (acc ++ [y])))) else H' L = some (.lst (((ns.take (i + 1)).filter fun x => !decide (ks.lookup x = some true)).map V.str)) ∧ Same H4 H') := fun c hcc => by
      refine ⟨c, rfl, ?_⟩
      cases c with
      | true =>
        refine iteT ⟨_, rfl, _, R.1, ?_, ?_, same_free R.2 nL⟩
        · rw [List.length_map]
          exact Nat.lt_of_le_of_lt (Nat.le_trans (List.length_filter_le _ _) (show (ns.take i).length ≤ 4 by rw [List.length_take]; omega)) (by decide)
        · rw [upd_same, List.take_succ, hy, List.filter_append]
          simp [← hcc]
      | false =>
        refine iteF ⟨?_, R.2⟩
        rw [List.take_succ, hy, List.filter_append, R.1]
        simp [← hcc]
    cases hlk : ks.lookup y with
    | none => exact .inr ⟨rfl, put true (by rw [hlk]; rfl)⟩
    | some c =>
      cases c with
      | true => exact .inl ⟨true, rfl, put false (by rw [hlk]; rfl)⟩
      | false => exact .inl ⟨false, rfl, put true (by rw [hlk]; rfl)⟩
  obtain ⟨hL5, s5⟩ := R
  rw [List.length_map, List.take_length] at hL5
  have hL5 : H5 L = some (.lst ((nots ns ks).map V.str)) := hL5
  have hNl : (nots ns ks).length ≤ 4 := by rw [← hP.len]; exact List.length_filter_le _ _
  have hNm := fun x (h : x ∈ nots ns ks) => nots_mem h
  generalize nots ns ks = N at hL5 hNl hNm
  have W5 := W4.same s5
  clear W4 s4 P4
  dsimp only [gName, tSeq, tNext]
  have shp : SeqAt.shaped (.list (N.map .str)) = true := shaped_list (lay_names fun x hx => local_okN (hP.lo x (hNm x hx).1)) (shl_names (fun x hx => ⟨(local_okN (hP.lo x (hNm x hx).1)).1, (local_okN (hP.lo x (hNm x hx).1)).2⟩) 0) (by decide)
  refine if_ev (H0 := H5) (b := (decide (V.int way = V.int 3) && !decide (N.map PyData.str = []))) (evt_and (evt_test fun H' Q hs kk => ⟨_, rfl, rfl, kk _ hs⟩) fun _ => evt_test fun H' Q hs kk => ⟨_, rfl, (by show 0 ≤ sizeLine; decide), fun p np => ⟨.list (N.map .str), .list [], Dp.lst (SqL.of (same_upd np _ _ (hs _ _ hL5))) (dpAll_strs _), Dp.lst (SqL.of upd_same) .nil, shp, shaped_nil, by rw [eqv_nil]; exact kk _ (hs.trans (same_upd np))⟩⟩) (Same.refl H5) (fun ht H6 s6 => ?_) (fun ht H6 s6 => ?_)
  · have W6 := W5.same s6
    have P6 := hP.go W6
    rw [Bool.and_eq_true, Bool.not_eq_true'] at ht
    have hN0 : 0 < N.length := by
      cases N with
      | nil => exact absurd ht.2 (by decide)
      | cons => exact Nat.succ_pos _
    refine pick_at rfl rfl W6.bag (by omega) (s6 _ _ hL5) hLn.1 hN0 (by omega) fun z H7 hz W7 => ?_
    have W7 := W6.went W7
    obtain ⟨hz1, hz2⟩ := hNm z hz
    have hzl : z.length ≤ 40 := (local_name (hP.lo z hz1)).le
    refine ⟨_, rfl, _, _, _, _, rfl, rfl, SqL.of W7.room, rfl, _, rfl, _, rfl, Nat.le_trans hzl (by decide), _, _, rfl, rfl, ?_⟩
    refine ⟨_, rfl, rr, _, _, 0, rfl, rfl, W7.room, rfl, ?_⟩
    have W8 := W7.set (r' := r1 - (z.length : Int))
    have hr9 : r1 - (z.length : Int) ≤ r1 := by omega
    have hN9 := rN_mono hr9
    have P8 := hP.go W8
    refine ⟨_, rfl, _, rfl, _, rfl, _, rfl, _, rfl, _, _, rfl, rfl, _, rfl, b, pp, sc, rr, n0 + 1 + 1, j, ns, ks, r1 - (z.length : Int), rfl, by omega, by rw [← hj]; rfl, P8, by omega, fun v d c m r2 H9 hG hd hc2 hm2 hr2 W9 => ⟨(by show 3 ≤ sizeLine; decide), fun u nu => ?_⟩⟩
    have s9 := same_upd (o := HO.tup [V.str kSet, .str z, v]) nu
    exact q (.ref u) _ (c + 1) m r2 _ (.set (hP.lo z hz1) hz2 hG) (Dp.tup (SqT.of upd_same) (.cons (.str _) (.cons (.str _) (.cons (dp_mono s9 _ _ hd) .nil)))) (by omega) (by omega) (by omega) ((W8.trans W9).same s9)
  dsimp only [tSeq, tNext]
  have in2 : ∀ (a c : Int) (i : Nat), EvT (tTest (tOp (rIn K false) (tVar 5) (tTup (tCons (tC (V.int a)) (tCons (tC (V.int c)) tNil))))) ((((L2.start ["_law_bag_here", "_law_pool_here", "_law_scope", "_law_deep", "_law_room", "_law_way", "_law_root", "_law_names", "_law_label", "_law_receiver", "_law_many", "_law_turn"] [V.ref b, V.ref pp, V.ref sc, V.int ((j + 1 : Nat) : Int), V.ref rr]).set 5 (some (V.int way))).set 7 (some (V.ref L)))) H5 (inV (.int way) [.int a, .int c]) := fun a c i => evt_test fun H' Q hs kk => ⟨_, rfl, (by show 2 ≤ sizeLine; decide), fun p np => ⟨p, _, rfl, .inr (SqT.of upd_same), rfl, rfl, kk _ (hs.trans (same_upd np))⟩⟩
  refine if_ev (H0 := H5) (in2 4 5 0) s6 (fun ht H7 s7 => ?_) (fun ht H7 s7 => ?_)
  · have W7 := W5.same s7
    have P7 := hP.go W7
    refine ⟨_, rfl, _, rfl, _, rfl, _, rfl, _, _, rfl, rfl, _, rfl, b, pp, sc, rr, n0 + 1, j, ns, ks, r1, rfl, by omega, by rw [← hj]; rfl, P7, by omega, fun v d c m r2 H8 hG hd hc2 hm2 hr2 W8 => ?_⟩
    exact q v d c m r2 H8 hG hd (by omega) (by omega) (by omega) (W7.trans W8)
  dsimp only [tSeq, tNext]
  refine if_ev (H0 := H5) (b := decide (V.int way = V.int 6)) (evt_test fun H' Q hs kk => ⟨_, rfl, rfl, kk _ hs⟩) s7 (fun ht H8 s8 => ?_) (fun ht H8 s8 => ?_)
  · have W8 := W5.same s8
    refine ⟨(by show 1 ≤ sizeLine; decide), fun p np => ?_⟩
    have s9 := same_upd (o := HO.tup [V.str kSuper]) np
    have W9 := W8.same s9
    have P9 := hP.go W9
    have hp9 : (upd H8 p (.tup [V.str kSuper])) p = some (.tup [V.str kSuper]) := upd_same
    generalize upd H8 p (.tup [V.str kSuper]) = H9 at s9 W9 P9 hp9 ⊢
    refine ⟨_, rfl, _, rfl, _, rfl, _, rfl, _, _, rfl, rfl, _, rfl, b, pp, sc, rr, n0 + 1, j, ns, ks, r1, rfl, by omega, by rw [← hj]; rfl, P9, by omega, fun t s y ds c m r2 HA hT hs hl hG hD hc2 hm2 hr2 WA => ?_⟩
    have hpA := WA.rest p _ (fun e => by obtain ⟨x, y, z, hb, _⟩ := W9.bag; rw [e, hb] at hp9; cases hp9) (fun e => by have := W9.room; rw [e, this] at hp9; cases hp9) hp9
    refine ⟨p, t, _, _, rfl, rfl, SqT.of hpA, hT, by simp, (by show 3 ≤ sizeLine; decide), (fun e => by cases e), fun _ u nu => ?_⟩
    have sB := same_upd (o := HO.tup ([V.str kSuper] ++ [.str s, y])) nu
    exact q (.ref u) _ (c + 1) m r2 _ (.super hs hl hG) (Dp.tup (SqT.of upd_same) (.cons (.str _) (.cons (.str _) (.cons (dp_mono sB _ _ hD) .nil)))) (by omega) (by omega) (by omega) ((W9.trans WA).same sB)
  dsimp only [tSeq, tNext]
  have W8 := W5.same s8
  have P8 := hP.go W8
  refine ⟨_, rfl, _, rfl, _, rfl, _, rfl, _, _, rfl, rfl, _, rfl, b, pp, sc, rr, n0 + 1, j, ns, ks, r1, rfl, by omega, by rw [← hj]; rfl, P8, by omega, fun v d c m r2 H9 hG hd hc2 hm2 hr2 W9 => ?_⟩
  have W9 := W8.trans W9
  have hN2 := rN_mono hr2
  dsimp only [gName, tSeq, tNext]
  have P9 := hP.go W9
  have nd := (hG.gs _ (Nat.le_refl _)).nol
  refine if_ev (H0 := H9) (b := inV (.int way) [.int 7, .int 8]) (evt_test fun H' Q hs kk => ⟨_, rfl, (by show 2 ≤ sizeLine; decide), fun p np => ⟨p, _, rfl, .inr (SqT.of upd_same), rfl, rfl, kk _ (hs.trans (same_upd np))⟩⟩) (Same.refl H9) (fun ht HA sA => ?_) (fun ht HA sA => ?_)
  · have WA := W9.same sA
    have hdA := dp_mono sA _ _ hd
    refine took rfl WA.bag (by omega) (by decide) (by decide) (fun Q h => h) fun t HB t0 t1 WB => ?_
    have hdB := dp_lists (Went.lists WB WA.bag) nd hdA
    have WB := WA.went WB
    refine ⟨_, _, rfl, rfl, ?_⟩
    obtain ⟨tn, rfl⟩ : ∃ tn : Nat, t = (tn : Int) := ⟨t.toNat, by omega⟩
    have e2 : (2 : Int) + (tn : Int) = ((2 + tn : Nat) : Int) := by omega
    dsimp only [gName, tNext]
    rw [e2]
    have htn : 2 + tn ≤ 3 := by omega
    have htn2 : 2 ≤ 2 + tn := by omega
    generalize 2 + tn = kz at htn htn2 ⊢
    clear t0 t1 e2
    refine ⟨_, rfl, _, rfl, _, rfl, by omega, by omega, fun M nM => ?_⟩
    have hne := WB.ne nM
    have nM0 : H M = none := WB.free nM
    refine lc_range (lo := 0) (fun i H' => ∃ (ys : List V) (ms : List (Str × List PyData)) (c1 m' : Nat) (r' : Int), H' M = some (.lst ys) ∧ DpAll K H' ys (ms.map msgD) ∧ GtM ks j ms c1 ∧ ms.length = i ∧ c1 + 41 * rN r' ≤ 41 * rN r2 + 3 * i ∧ m' + 10250 * rN r' ≤ m + 1 + 10250 * rN r2 + 900 * i ∧ r' ≤ r2 ∧ Dp K H' v d ∧ Went2 b rr m' r' H H') ⟨[], [], 0, m + 1, r2, upd_same, .nil, .nil, rfl, by omega, by omega, Int.le_refl _, dp_mono (same_upd nM) _ _ hdB, WB.list nM0 hne.1 hne.2⟩ ?turn ?last
    case turn =>
      rintro i HC hi ⟨ys, ms, c1, m', r', hM, hD, hG1, hl, hc', hm', hr', hdC, WC⟩
      have hi : i < kz := by simpa using hi
      have hN3 := rN_mono hr'
      refine ⟨rfl, tyes ?_⟩
      refine ⟨_, rfl, _, rfl, _, rfl, _, rfl, _, _, rfl, rfl, _, rfl, b, pp, sc, rr, m', j, ns, ks, r', rfl, by omega, by rw [← hj]; rfl, hP.go WC, by omega, fun t s y ds c4 m4 r4 HD hT hs hsl hG4 hD4 hc4 hm4 hr4 WD => ?_⟩
      have hM7 := WD.rest M _ hne.1 hne.2 hM
      have ll := lists_upd (zs := ys ++ [V.ref t]) hM7
      have hyl := dpAll_length hD
      rw [List.length_map] at hyl
      have nms := (hG1.gs _ (Nat.le_refl _)).nol
      have nm : NoL (msgD (s, ds)) := .tup (noL_cons (.str _) (noL_cons (.tup ((hG4.gs _ (Nat.le_refl _)).nol)) noL_nil))
      refine ⟨ys, hM7, ?_, ys ++ [.ref t], ms ++ [(s, ds)], c1 + c4, m4, r4, upd_same, ?_, ?_, by simp [hl], by omega, by omega, by omega, ?_, (WC.trans WD).list nM0 hne.1 hne.2⟩
      · exact Nat.lt_of_lt_of_le (show ys.length < 100 by omega) (by decide)
      · rw [List.map_append]
        exact dpAll_app (dpAll_lists ((WD.lists WC.bag WC.room).trans ll) nms hD) (.cons (dp_lists ll nm (Dp.tup hT (.cons (.str _) (.cons hD4 .nil)))) .nil)
      · exact hG1.app (.cons (c' := 0) hs hsl hG4 .nil)
      · exact dp_lists ((WD.lists WC.bag WC.room).trans ll) nd hdC
    case last =>
      rintro HC ⟨ys, ms, c1, m', r', hM, hD, hG1, hl, hc', hm', hr', hdC, WC⟩
      have hl : ms.length = kz := by simpa using hl
      have hc' : c1 + 41 * rN r' ≤ 41 * rN r2 + 3 * kz := hc'
      have hm' : m' + 10250 * rN r' ≤ m + 1 + 10250 * rN r2 + 900 * kz := hm'
      refine ⟨M, ys, rfl, .inl ⟨SqL.of hM, fun p np => ⟨(by show 3 ≤ sizeLine; decide), fun u nu => ?_⟩⟩⟩
      have s1 := same_upd (o := HO.tup ys) np
      have s2 := same_upd (o := HO.tup [V.str kCasc, v, .ref p]) nu
      exact q (.ref u) _ (c + c1 + 3) m' r' _ (.casc hG (by omega) (by omega) hG1) (Dp.tup (SqT.of upd_same) (.cons (.str _) (.cons (dp_mono (s1.trans s2) _ _ hdC) (.cons (Dp.tup (SqT.mono s2 (SqT.of upd_same)) (dp_monoAll (s1.trans s2) _ _ hD)) .nil)))) (by omega) (by omega) (by omega) (WC.same (s1.trans s2))
  · have WA := W9.same sA
    have hdA := dp_mono sA _ _ hd
    refine ⟨_, rfl, (by show 2 ≤ sizeLine; decide), fun p np => ?_⟩
    have s9 := same_upd (o := HO.tup [V.str kSend, v]) np
    have WB := WA.same s9
    have hdB := dp_mono s9 _ _ hdA
    have hpB : (upd HA p (.tup [V.str kSend, v])) p = some (.tup [V.str kSend, v]) := upd_same
    generalize upd HA p (.tup [V.str kSend, v]) = HB at s9 WB hdB hpB ⊢
    refine ⟨_, rfl, _, rfl, _, rfl, _, rfl, _, _, rfl, rfl, _, rfl, b, pp, sc, rr, m, j, ns, ks, r2, rfl, by omega, by rw [← hj]; rfl, hP.go WB, by omega, fun t s y ds c4 m4 r4 HC hT hs hl hG4 hD4 hc4 hm4 hr4 WC => ?_⟩
    have hpC := WC.rest p _ (fun e => by obtain ⟨x, y, z, hb, _⟩ := WB.bag; rw [e, hb] at hpB; cases hpB) (fun e => by have := WB.room; rw [e, this] at hpB; cases hpB) hpB
    have hdC := dp_lists (WC.lists WB.bag WB.room) nd hdB
    refine ⟨p, t, _, _, rfl, rfl, SqT.of hpC, hT, by simp, (by show 4 ≤ sizeLine; decide), (fun e => by cases e), fun _ u nu => ?_⟩
    have sB := same_upd (o := HO.tup ([V.str kSend, v] ++ [.str s, y])) nu
    exact q (.ref u) _ (c + c4 + 1) m4 r4 _ (.send hG hs hl hG4) (Dp.tup (SqT.of upd_same) (.cons (.str _) (.cons (dp_mono sB _ _ hdC) (.cons (.str _) (.cons (dp_mono sB _ _ hD4) .nil))))) (by omega) (by omega) (by omega) ((WB.trans WC).same sB)
theorem ltree_none {f : Addr} {fd : FuncData} {k : Nat} : GnOk P w K mg base CX0 k f fd ["_law_bag_here", "_law_pool_here", "_law_scope", "_law_deep", "_law_room"] (spTr K 0) := by
  have no : ∀ vs H Q E, ¬ spTr K 0 vs H Q E := fun vs H Q E h => by
    obtain ⟨b, pp, sc, rr, n0, e, ns, ks, r, hn, _⟩ := h
    omega
  exact ⟨fun vs H Q E h => absurd h (no vs H Q E), fun A outer s H args us vs Q E _ _ _ _ _ h => absurd h (no vs H Q E)⟩
end
end My8

end
section
set_option Elab.async false
set_option linter.all false
set_option maxRecDepth 100000
set_option maxHeartbeats 2000000
namespace My8
open PySem PySem.Spec PyProof.Rows L2 My
open TrM TL
abbrev s_law_method : Stmt := top 70
/-- a method of the law -/
structure Mtd (d : PyData) : Prop where
  ex : ∃ (s : Str) (ps vs : List Str) (sts : List PyData) (c : Nat), d = .tuple [.str kMeth, .str s, .tuple (ps.map .str), .tuple (vs.map .str), .tuple sts] ∧ Sel (codesOf s) ps.length ∧ ps.length ≤ 4 ∧ vs.length ≤ 4 ∧ (∀ x ∈ ps ++ vs, localB (codesOf x) = true) ∧ (ps ++ vs).Nodup ∧ sts.length ≤ 3 ∧ GtS (decl [] ps vs) 4 sts c ∧ c ≤ 2200
theorem Mtd.gs {d : PyData} (h : Mtd d) : ∃ c, c ≤ 2201 ∧ Gs 13 d c := by
  obtain ⟨s, ps, vs, sts, c, rfl, h1, h2, h3, h4, h5, h6, h7, h8⟩ := h.ex
  exact ⟨c + 1, by omega, .meth (sel_okT h1) (sel_len h1) h2 h3 (fun x hx => local_okN (h4 x (List.mem_append_left _ hx))) (fun x hx => local_okN (h4 x (List.mem_append_right _ hx))) h6 h7.nr (h7.gs 12 (by decide))⟩
theorem Mtd.mt {d : PyData} (h : Mtd d) : Mt d := by
  obtain ⟨s, ps, vs, sts, c, rfl, h1, h2, h3, h4, h5, h6, h7, h8⟩ := h.ex
  have := h7.lf 39 (by decide)
  exact .mk h1 (.mk (by omega) (by omega) (by omega) h4 h5 this.1 this.2)
theorem Mtd.nol {d : PyData} (h : Mtd d) : NoL d := by
  obtain ⟨c, _, h⟩ := h.gs
  exact h.nol
theorem Mtd.showy {d : PyData} (h : Mtd d) : Showy d := by
  obtain ⟨c, hc, h⟩ := h.gs
  exact h.sh.showy (by decide) (by omega)
/-- method(bag, 4) -/
def spMeth (K : PySem.W.Frag) : Sp := fun vs H Q _ => ∃ (b : Addr) (n0 : Nat), vs = [.ref b, .int 4] ∧ BagAt H b n0 ∧ n0 ≤ 20000 ∧ ∀ (v : V) (d : PyData) (m : Nat) (H' : Hp), Mtd d → Dp K H' v d → Went b m H H' → Q v H'
section
variable {P : Program} {w : World} {K : PySem.W.Frag} {mg : Str → Option Value} {base : Heap}
theorem sc_law_method : FnScope ["_law_bag_here", "_law_deep", "_law_pool_here", "_law_many", "_law_selector_here", "_law_more", "_law_scope", "_law_at", "_law_label", "_law_statements_here"] ["_law_bag_here", "_law_deep"] (defScope s_law_method) := ⟨rfl, rfl, rfl, by decide +kernel, rfl, by decide +kernel, by decide +kernel⟩
theorem ok_lmethod {f fR fT fP fS : Addr} {fd fdR fdT fdP fdS : FuncData} {k : Nat} (F : FnP K "_law_method" s_law_method f fd) (G_law_statements : GnOk P w K mg base CX0 k fR fdR ["_law_bag_here", "_law_pool_here", "_law_scope", "_law_deep", "_law_room"] (spStm K 5)) (g_law_statements : mg "_law_statements" = some (.ref fR)) (k_law_statements : PySem.W.keepIn K (.ref fR) = true) (b_law_statements : Binds K fdR ["_law_bag_here", "_law_pool_here", "_law_scope", "_law_deep", "_law_room"] [])
    (G_law_take : FnOk P w K mg base CX0 k fT fdT ["_law_bag_here", "_law_many"] spTakeW) (g_law_take : mg "_law_take" = some (.ref fT)) (k_law_take : PySem.W.keepIn K (.ref fT) = true) (b_law_take : Binds K fdT ["_law_bag_here", "_law_many"] [])
    (G_law_pool : FnOk P w K mg base CX0 k fP fdP ["_law_bag_here"] spPool) (g_law_pool : mg "_law_pool" = some (.ref fP)) (k_law_pool : PySem.W.keepIn K (.ref fP) = true) (b_law_pool : Binds K fdP ["_law_bag_here"] [])
    (G_law_selector : FnOk P w K mg base CX0 k fS fdS ["_law_bag_here", "_law_many"] spSel) (g_law_selector : mg "_law_selector" = some (.ref fS)) (k_law_selector : PySem.W.keepIn K (.ref fS) = true) (b_law_selector : Binds K fdS ["_law_bag_here", "_law_many"] [])
    (g_min : mg "min" = none) (g_enumerate : mg "enumerate" = none) (g_tuple : mg "tuple" = none) :
    GnOk P w K mg base CX0 (k + 1) f fd ["_law_bag_here", "_law_deep"] (spMeth K) := by
  refine gn_of F sc_law_method (fun vs H Q E h => ?_) (fun cdv A outer s H vs Q E hg hr h => ⟨_, PSs.nox
    (pss_cons (ps_set (i := 2) sc_law_method.nd rfl (Or.inl rfl) (pe_call G_law_pool (hr.mono (Nat.le_refl _)) rfl g_law_pool k_law_pool b_law_pool .nil pass0 (pa_cons (pv 0) pa_nil)))
      (pss_cons (ps_set (i := 3) sc_law_method.nd rfl (Or.inl rfl) (pe_call G_law_take (hr.mono (Nat.le_refl _)) rfl g_law_take k_law_take b_law_take .nil pass0 (pa_cons (pv 0) (pa_cons pe_int pa_nil))))
      (pss_cons (ps_set (i := 4) sc_law_method.nd rfl (Or.inl rfl) (pe_call G_law_selector (hr.mono (Nat.le_refl _)) rfl g_law_selector k_law_selector b_law_selector .nil pass0 (pa_cons (pv 0) (pa_cons (pv 3) pa_nil))))
      (pss_cons (ps_set (i := 5) sc_law_method.nd rfl (Or.inl rfl) (pe_call G_law_take (hr.mono (Nat.le_refl _)) rfl g_law_take k_law_take b_law_take .nil pass0 (pa_cons (pv 0) (pa_cons (pe_op op_add pe_int (pe_callB (call_min2 rfl) (by rfl) g_min (by decide +kernel) (pa_cons pe_int (pa_cons (pe_op op_sub pe_int (pv 3)) pa_nil)))) pa_nil))))
      (pss_cons (ps_set (i := 6) sc_law_method.nd rfl (Or.inl rfl) pe_dnewK)
      (pss_cons (ps_for PassesOwn.never rfl (pi_enum (by rfl) g_enumerate (pa_cons (pe_slice sl_list (pv 2) po_none (po_some (pe_op op_add (pv 3) (pv 5)))) pa_nil)) (pg_tup rfl (pgs_cons (pg_name (i := 7) sc_law_method.nd rfl (Or.inl rfl)) (pgs_cons (pg_name (i := 8) sc_law_method.nd rfl (Or.inl rfl)) pgs_nil))) (pss_one (ps_dput (Nat.lt_of_le_of_lt (Nat.add_le_add_left (by decide : 1 ≤ 64) _) hr.units) (pv 6) (pv 8) (pe_cmpR op_lt (pv 7) (pv 3) (nomark _)) rfl)))
      (pss_cons (ps_set (i := 9) sc_law_method.nd rfl (Or.inl rfl) (pe_callG G_law_statements hg (hr.mono (Nat.le_refl _)) rfl g_law_statements k_law_statements b_law_statements .nil pass0 (pa_cons (pv 0) (pa_cons (pv 2) (pa_cons (pv 6) (pa_cons (pv 1) (pa_cons (pe_lst (pa_cons pe_int pa_nil)) pa_nil)))))))
      (pss_one (ps_ret (pe_tup (pa_cons pe_str (pa_cons (pv 4) (pa_cons (pe_callTy call_tuple_of (by rfl) g_tuple (by decide +kernel) (pa_cons (pe_slice sl_list (pv 2) po_none (po_some (pv 3))) pa_nil)) (pa_cons (pe_callTy call_tuple_of (by rfl) g_tuple (by decide +kernel) (pa_cons (pe_slice sl_list (pv 2) (po_some (pv 3)) (po_some (pe_op op_add (pv 3) (pv 5)))) pa_nil)) (pa_cons (pv 9) pa_nil))))))))))))))), ?_⟩)
  · obtain ⟨b, n0, rfl, _⟩ := h
    rfl
  obtain ⟨b, n0, rfl, hb, hn, q⟩ := h
  dsimp only [gName, tSeq, tNext]
  refine ⟨_, rfl, b, n0, rfl, hb, by omega, fun pp ns m1 H1 npp hpp hl hnd hlo hm1 W1 => ?_⟩
  dsimp only [gName, tSeq, tNext]
  have hpb : pp ≠ b := fun e => by obtain ⟨x, y, z, h1, _⟩ := hb; rw [e, h1] at npp; cases npp
  refine took rfl W1.bag (by omega) (by decide) (by decide) (fun Q h => h) fun ma H2 a0 a1 W2 => ?_
  have hp2 := W2.rest _ _ hpb hpp
  have W2 := W1.trans W2
  obtain ⟨mn, rfl⟩ : ∃ mn : Nat, ma = (mn : Int) := ⟨ma.toNat, by omega⟩
  have hmn : mn ≤ 3 := by omega
  clear a0 a1
  dsimp only [gName, tSeq, tNext]
  refine ⟨_, rfl, _, rfl, b, _, mn, rfl, W2.bag, by omega, hmn, fun zs m3 H3 hzs hm3 W3 => ?_⟩
  have hp3 := W3.rest _ _ hpb hp2
  have W3 := W2.trans W3
  dsimp only [gName, tSeq, tNext]
  refine took (m := 1 + (if 4 - (mn : Int) < 2 then 4 - (mn : Int) else 2)) rfl W3.bag (by omega) (by split <;> omega) (by split <;> omega) (fun Q h => ⟨_, rfl, _, _, rfl, rfl, _, _, rfl, _, _, rfl, rfl, h⟩) fun mo H4 a0 a1 W4 => ?_
  have hp4 := W4.rest _ _ hpb hp3
  have W4 := W3.trans W4
  obtain ⟨mm, rfl⟩ : ∃ mm : Nat, mo = (mm : Int) := ⟨mo.toNat, by omega⟩
  have hmm : mm ≤ 2 ∧ mn + mm ≤ 4 := by
    revert a1
    split <;> intro a1 <;> omega
  clear a0 a1
  dsimp only [gName, tSeq, tNext]
  intro ic nic
  have nic0 : H ic = none := W4.free nic
  have hicb : ic ≠ b := bag_ne W4.bag nic
  have hicp : ic ≠ pp := fun e => by rw [e, hp4] at nic; cases nic
  have sI := same_upd (o := HO.dK []) nic
  have hp5 := sI _ _ hp4
  have W5 := W4.same sI
  have hic5 : (upd H4 ic (.dK [])) ic = some (.dK (kvsOf ([] ++ labs ns mn 0))) := by rw [labs_zero]; exact upd_same
  generalize upd H4 ic (.dK []) = H5 at hp5 W5 hic5 ⊢
  have hS0 : cutV (ns.map V.str) none (some ((mn : Int) + (mm : Int))) = (ns.take (mn + mm)).map V.str := by
    have : (mn : Int) + (mm : Int) = ((mn + mm : Nat) : Int) := by omega
    rw [this, cut_take, List.map_take]
  have ht : (ns.take (mn + mm)).length = mn + mm := by rw [List.length_take]; omega
  refine ⟨_, rfl, nopart ⟨_, rfl, _, rfl, _, _, rfl, rfl, _, rfl, pp, _, rfl, SqL.of hp5, fun S nS => ?_⟩⟩
  rw [hS0]
  have hSb : S ≠ b := bag_ne W5.bag nS
  have nS0 : H S = none := W5.free nS
  have hSp : S ≠ pp := fun e => by rw [e, hp5] at nS; cases nS
  have hSi : S ≠ ic := fun e => by rw [e, hic5] at nS; cases nS
  have sS := same_upd (o := HO.lst ((ns.take (mn + mm)).map V.str)) nS
  have hS6 : (upd H5 S (.lst ((ns.take (mn + mm)).map V.str))) S = some (.lst ((ns.take (mn + mm)).map V.str)) := upd_same
  have hp6 := sS _ _ hp5
  have hic6 := sS _ _ hic5
  have W6 := W5.same sS
  generalize upd H5 S (.lst ((ns.take (mn + mm)).map V.str)) = H6 at hS6 hp6 hic6 W6 ⊢
  refine ⟨S, _, rfl, SqL.of hS6, for_it (walk_enum (K := K) (a := S) (xs := (ns.take (mn + mm)).map V.str)) (fun i σ H' => ∃ (x7 x8 : Option V), σ = [some (.ref b), some (.int 4), some (.ref pp), some (.int (mn : Int)), some (.str zs), some (.int (mm : Int)), some (.ref ic), x7, x8, none] ∧ H' S = some (.lst ((ns.take (mn + mm)).map V.str)) ∧ H' pp = some (.lst (ns.map V.str)) ∧ H' ic = some (.dK (kvsOf ([] ++ labs ns mn i))) ∧ Went b (m3 + 1) H H') ⟨none, none, rfl, hS6, hp6, hic6, W6⟩ (fun i σ H' _ R => by obtain ⟨_, _, _, h, _⟩ := R; exact SqL.of h) ?turn ?last⟩
  case turn =>
    rintro i x σ H7 H8 hi ⟨x7, x8, rfl, hS, hp, hic, W⟩ ⟨T, y1, y2, rfl, nT, rfl, hy1, hy2⟩
    rw [List.length_map, ht] at hi
    cases hy1
    have hy2 : ((ns.take (mn + mm)).map V.str)[i]? = some y2 := hy2
    rw [List.getElem?_map, List.getElem?_take, if_pos hi] at hy2
    obtain ⟨z, hz, rfl⟩ := Option.map_eq_some_iff.mp hy2
    have sT := same_upd (o := HO.tup [V.int (i : Nat), .str z]) nT
    have hTT : (upd H7 T (.tup [V.int (i : Nat), .str z])) T = some (.tup [V.int (i : Nat), .str z]) := upd_same
    have hS := sT _ _ hS
    have hp := sT _ _ hp
    have hic := sT _ _ hic
    have W := W.same sT
    generalize upd H7 T (.tup [V.int (i : Nat), .str z]) = H8 at hTT hS hp hic W ⊢
    refine ⟨T, _, rfl, SqT.of hTT, rfl, _, _, rfl, _, _, rfl, rfl, ?_⟩
    have hzk : z ∉ (([] : List (Str × Bool)) ++ labs ns mn i).map (·.1) := by
      rw [List.nil_append, labs_keys]
      intro h
      obtain ⟨j, hj⟩ := List.getElem?_of_mem h
      rw [List.getElem?_take] at hj
      split at hj
      · rename_i hji
        obtain ⟨h1a, h1b⟩ := List.getElem?_eq_some_iff.mp hj
        obtain ⟨h2a, h2b⟩ := List.getElem?_eq_some_iff.mp hz
        exact (List.pairwise_iff_getElem.mp hnd) j i h1a h2a hji (by rw [h1b, h2b])
      · cases hj
    have hkl : (kvsOf ([] ++ labs ns mn i)).length ≤ 8 := by
      have e1 : (kvsOf ([] ++ labs ns mn i)).length = ((labs ns mn i).map (·.1)).length := by unfold kvsOf; rw [List.length_map, List.nil_append, List.length_map]
      rw [e1, labs_keys, List.length_take]
      omega
    refine ⟨_, rfl, _, rfl, _, _, rfl, rfl, _, rfl, _, rfl, ic, _, rfl, .inl ⟨_, .inr z, hic, rfl, Nat.lt_of_le_of_lt hkl (by decide), rfl⟩, ?_⟩
    rw [kvs_put hzk]
    have hd : decide ((i : Int) < (mn : Int)) = decide (i < mn) := decide_eq_decide.mpr (by omega)
    refine ⟨_, _, rfl, ?_, ?_, ?_, went_upd W nic0 hicb⟩
    · rw [upd_ne hSi]; exact hS
    · rw [upd_ne (Ne.symm hicp)]; exact hp
    · rw [upd_same, labs_succ hz, List.append_assoc]
      rw [hd]
  case last =>
    rintro σ H7 ⟨x7, x8, rfl, hS, hp, hic, W⟩
    have hic : H7 ic = some (.dK (kvsOf ([] ++ labs ns mn (ns.take (mn + mm)).length))) := by
      have e : ((ns.take (mn + mm)).map V.str).length = (ns.take (mn + mm)).length := List.length_map _
      rw [← e]; exact hic
    rw [ht, labs_decl] at hic
    have hpv : ns.take mn ++ (ns.drop mn).take mm = ns.take (mn + mm) := (List.take_add).symm
    have hdk : (decl ([] : List (Str × Bool)) (ns.take mn) ((ns.drop mn).take mm)).map (·.1) = ns.take (mn + mm) := by
      rw [← labs_decl, List.map_append, labs_keys]; rfl
    have hndt : (ns.take (mn + mm)).Nodup := hnd.sublist (List.take_sublist _ _)
    have hsub : ∀ x ∈ ns.take (mn + mm), x ∈ ns := fun x h => List.mem_of_mem_take h
    refine ⟨_, rfl, _, rfl, _, rfl, _, rfl, ⟨(by show 1 ≤ sizeLine; decide), fun rr nrr => ?_⟩⟩
    have sR := same_upd (o := HO.lst [V.int 400]) nrr
    have nrr0 : H rr = none := W.free nrr
    have WR := W.same sR
    have hrr : (upd H7 rr (.lst [V.int 400])) rr = some (.lst [.int 400]) := upd_same
    have PL : Pl (upd H7 rr (.lst [V.int 400])) b pp ic rr (m3 + 1) ns (decl [] (ns.take mn) ((ns.drop mn).take mm)) 400 := ⟨WR.bag, sR _ _ hp, sR _ _ hic, hrr, hl, hlo, hnd, by rw [hdk]; exact hndt, fun x hx => by rw [hdk] at hx; exact hsub x hx⟩
    have e400 : rN 400 = 51 := rfl
    refine ⟨b, pp, ic, rr, m3 + 1, 4, ns, _, 400, rfl, by decide, rfl, PL, by omega, fun v ds c m r2 H9 hG hsl hD hc2 hm2 hr2 W9 => ?_⟩
    have hrp : pp ≠ rr := fun e => by rw [← e, hp] at nrr; cases nrr
    have hp9 := W9.rest _ _ hpb hrp (sR _ _ hp)
    have WA : Went b m H H9 := ⟨W9.bag, fun a o h e => W9.rest a o h (fun e2 => by rw [e2, nrr0] at e; cases e) (WR.rest a o h e)⟩
    refine ⟨_, rfl, _, rfl, nopart ⟨_, rfl, _, rfl, pp, _, rfl, SqL.of hp9, fun p1 np1 => ?_⟩⟩
    rw [cut_take, ← List.map_take]
    have s1 := same_upd (o := HO.lst ((ns.take mn).map V.str)) np1
    refine ⟨p1, _, rfl, .inl ⟨SqL.of upd_same, fun t1 nt1 => ?_⟩⟩
    have s2 := same_upd (o := HO.tup ((ns.take mn).map V.str)) nt1
    have ht1 : (upd (upd H9 p1 (.lst ((ns.take mn).map V.str))) t1 (.tup ((ns.take mn).map V.str))) t1 = some (.tup ((ns.take mn).map V.str)) := upd_same
    have s12 := s1.trans s2
    generalize upd (upd H9 p1 (.lst ((ns.take mn).map V.str))) t1 (.tup ((ns.take mn).map V.str)) = HA at s2 ht1 s12 ⊢
    refine ⟨_, rfl, _, rfl, _, rfl, _, rfl, _, rfl, _, _, rfl, rfl, _, rfl, pp, _, rfl, SqL.of (s12 _ _ hp9), fun p2 np2 => ?_⟩
    rw [cut_mid, ← List.map_drop, ← List.map_take]
    have s3 := same_upd (o := HO.lst (((ns.drop mn).take mm).map V.str)) np2
    refine ⟨p2, _, rfl, .inl ⟨SqL.of upd_same, fun t2 nt2 => ?_⟩⟩
    have s4 := same_upd (o := HO.tup (((ns.drop mn).take mm).map V.str)) nt2
    have ht2 : (upd (upd HA p2 (.lst (((ns.drop mn).take mm).map V.str))) t2 (.tup (((ns.drop mn).take mm).map V.str))) t2 = some (.tup (((ns.drop mn).take mm).map V.str)) := upd_same
    have s34 := s3.trans s4
    generalize upd (upd HA p2 (.lst (((ns.drop mn).take mm).map V.str))) t2 (.tup (((ns.drop mn).take mm).map V.str)) = HB at s4 ht2 s34 ⊢
    refine ⟨_, rfl, (by show 5 ≤ sizeLine; decide), fun u nu => ?_⟩
    have s5 := same_upd (o := HO.tup [V.str kMeth, .str zs, .ref t1, .ref t2, v]) nu
    have sA := (s12.trans s34).trans s5
    have hlen : (ns.take mn).length = mn := by rw [List.length_take]; omega
    refine q (.ref u) _ m _ ⟨⟨zs, ns.take mn, (ns.drop mn).take mm, ds, c, rfl, by rw [hlen]; exact hzs, by omega, by rw [List.length_take]; omega, fun x hx => ?_, by rw [hpv]; exact hndt, hsl, hG, by omega⟩⟩ (Dp.tup (SqT.of upd_same) (.cons (.str _) (.cons (.str _) (.cons (Dp.tup (SqT.mono (s34.trans s5) (SqT.of ht1)) (dpAll_strs _)) (.cons (Dp.tup (SqT.mono s5 (SqT.of ht2)) (dpAll_strs _)) (.cons (dp_mono sA _ _ hD) .nil)))))) (WA.same sA)
    rw [hpv] at hx
    exact hlo x (hsub x hx)
/-- the trees of the law, by their depth -/
theorem ltrees {fR fN fS fB fA fL fK fT fX : Addr} {fdR fdN fdS fdB fdA fdL fdK fdT fdX : FuncData} (FR : FnP K "_law_tree" s_law_tree fR fdR) (FN : FnP K "_law_sending" s_law_sending fN fdN) (FS : FnP K "_law_statements" s_law_statements fS fdS) (FB : FnP K "_law_block" s_law_block fB fdB)
    (gR : mg "_law_tree" = some (.ref fR)) (gN : mg "_law_sending" = some (.ref fN)) (gS : mg "_law_statements" = some (.ref fS)) (gB : mg "_law_block" = some (.ref fB)) (gA : mg "_law_array" = some (.ref fA)) (gL : mg "_law_leaf" = some (.ref fL)) (gK : mg "_law_pick" = some (.ref fK)) (gT : mg "_law_take" = some (.ref fT)) (gX : mg "_law_selector" = some (.ref fX))
    (kA : PySem.W.keepIn K (.ref fA) = true) (kL : PySem.W.keepIn K (.ref fL) = true) (kK : PySem.W.keepIn K (.ref fK) = true) (kT : PySem.W.keepIn K (.ref fT) = true) (kX : PySem.W.keepIn K (.ref fX) = true)
    (bA : Binds K fdA ["_law_bag_here", "_law_deep", "_law_room"] []) (bL : Binds K fdL ["_law_bag_here", "_law_pool_here", "_law_room"] []) (bK : Binds K fdK ["_law_bag_here", "_law_things"] []) (bT : Binds K fdT ["_law_bag_here", "_law_many"] []) (bX : Binds K fdX ["_law_bag_here", "_law_many"] [])
    (GA : GnOk P w K mg base CX0 10 fA fdA ["_law_bag_here", "_law_deep", "_law_room"] (spArr K 3)) (GL : FnOk P w K mg base CX0 10 fL fdL ["_law_bag_here", "_law_pool_here", "_law_room"] (spLeaf K)) (GK : FnOk P w K mg base CX0 10 fK fdK ["_law_bag_here", "_law_things"] (spPick K)) (GT : FnOk P w K mg base CX0 10 fT fdT ["_law_bag_here", "_law_many"] spTakeW) (GX : FnOk P w K mg base CX0 10 fX fdX ["_law_bag_here", "_law_many"] spSel)
    (g_len : mg "len" = none) (g_str : mg "str" = none) (g_range : mg "range" = none) (g_tuple : mg "tuple" = none) (g_min : mg "min" = none) (g_dict : mg "dict" = none) (g_enumerate : mg "enumerate" = none) :
    ∀ n : Nat, GnOk P w K mg base CX0 (10 + 4 * n) fR fdR ["_law_bag_here", "_law_pool_here", "_law_scope", "_law_deep", "_law_room"] (spTr K n) := by
  have b5R : Binds K fdR ["_law_bag_here", "_law_pool_here", "_law_scope", "_law_deep", "_law_room"] [] := FR.bindsN fun _ _ _ _ _ _ us hl => match us, hl with | [_, _, _, _, _], _ => rfl
  have b5N : Binds K fdN ["_law_bag_here", "_law_pool_here", "_law_scope", "_law_deep", "_law_room"] [] := FN.bindsN fun _ _ _ _ _ _ us hl => match us, hl with | [_, _, _, _, _], _ => rfl
  have b5S : Binds K fdS ["_law_bag_here", "_law_pool_here", "_law_scope", "_law_deep", "_law_room"] [] := FS.bindsN fun _ _ _ _ _ _ us hl => match us, hl with | [_, _, _, _, _], _ => rfl
  have b5B : Binds K fdB ["_law_bag_here", "_law_pool_here", "_law_scope", "_law_deep", "_law_room"] [] := FB.bindsN fun _ _ _ _ _ _ us hl => match us, hl with | [_, _, _, _, _], _ => rfl
  intro n
  induction n with
  | zero => exact ltree_none
  | succ n ih =>
    have hs : GnOk P w K mg base CX0 (10 + 4 * n + 1) fN fdN _ (spSend K n) := ok_sending FN ih gR FR.kp b5R (GK.mono (by omega)) gK kK bK (GT.mono (by omega)) gT kT bT (GX.mono (by omega)) gX kX bX g_range g_tuple g_len
    have ht : GnOk P w K mg base CX0 (10 + 4 * n + 1) fS fdS _ (spStm K n) := ok_statements FS ih gR FR.kp b5R (GK.mono (by omega)) gK kK bK (GT.mono (by omega)) gT kT bT g_range g_tuple
    have hb : GnOk P w K mg base CX0 (10 + 4 * n + 2) fB fdB _ (spBlk K n) := ok_block FB ht gS FS.kp b5S (GT.mono (by omega)) gT kT bT g_len g_min g_dict g_enumerate g_tuple
    exact ok_ltree (k := 10 + 4 * n + 3) FR (ih.mono (by omega)) gR FR.kp b5R (hb.mono (by omega)) gB FB.kp b5B (hs.mono (by omega)) gN FN.kp b5N (GA.mono (by omega)) gA kA bA (GL.mono (by omega)) gL kL bL (GK.mono (by omega)) gK kK bK (GT.mono (by omega)) gT kT bT g_len g_str g_range g_tuple
end
end My8

end
section
set_option Elab.async false
set_option linter.all false
set_option maxRecDepth 100000
set_option maxHeartbeats 2000000
namespace My8
open PySem PySem.Spec PyProof.Rows L2 My
open TrM TL
/-! ### what the law's walk notes -/
abbrev BD := Nat × Nat × Bool
def fourS : List Str := ["self", "nil", "true", "false"]
def newN (b : List Str) (z : Str) : List Str := if (b ++ fourS).contains z = true then [] else [z]
mutual
inductive Wk : Nat → List Str → Nat → PyData → List Str → List Str → List BD → Nat → Prop
  | leaf {n k : Nat} {b : List Str} {z : Str} {e : PyData} : z ∈ [kI, kS, kY] → Wk (n + 1) b k (.tuple [.str z, e]) [] [] [] 1
  | var {n k : Nat} {b : List Str} {z : Str} : Wk (n + 1) b k (.tuple [.str kV, .str z]) (newN b z) [] [] 1
  | set {n k c : Nat} {b an bn : List Str} {cn : List BD} {z : Str} {d : PyData} : Wk n b k d an bn cn c → Wk (n + 1) b k (.tuple [.str kSet, .str z, d]) (newN b z ++ an) bn cn (c + 1)
  | arr {n k c : Nat} {b an bn : List Str} {cn : List BD} {ds : List PyData} : WkL n b k ds an bn cn c → Wk (n + 1) b k (.tuple [.str kA, .tuple ds]) an bn cn (c + 1)
  | ret {n k c : Nat} {b an bn : List Str} {cn : List BD} {d : PyData} : Wk n b k d an bn cn c → Wk (n + 1) b k (.tuple [.str kRet, d]) an bn cn (c + 1)
  | send {n k c c' : Nat} {b an bn an' bn' : List Str} {cn cn' : List BD} {s : Str} {d : PyData} {ds : List PyData} : Wk n b k d an bn cn c → WkL n b k ds an' bn' cn' c' → Wk (n + 1) b k (.tuple [.str kSend, d, .str s, .tuple ds]) (an ++ an') (bn ++ s :: bn') (cn ++ cn') (c + c' + 1)
  | super {n k c : Nat} {b an bn : List Str} {cn : List BD} {s : Str} {ds : List PyData} : WkL n b k ds an bn cn c → Wk (n + 1) b k (.tuple [.str kSuper, .str s, .tuple ds]) an (s :: bn) cn (c + 1)
  | casc {n k c c' : Nat} {b an bn an' bn' : List Str} {cn cn' : List BD} {d : PyData} {ms : List (Str × List PyData)} : Wk n b k d an bn cn c → WkM n b k ms an' bn' cn' c' → Wk (n + 1) b k (.tuple [.str kCasc, d, .tuple (ms.map msgD)]) (an ++ an') (bn ++ bn') (cn ++ cn') (c + c' + 1)
  | block {n k c : Nat} {b an bn ps vs : List Str} {cn : List BD} {ds : List PyData} : WkL n (b ++ (ps ++ vs)) (k + 1) ds an bn cn c → (∀ x ∈ (ds.map isRet).dropLast, x = false) → ps.length ≤ 4 → vs.length ≤ 4 → Wk (n + 1) b k (.tuple [.str kBlock, .tuple (ps.map .str), .tuple (vs.map .str), .tuple ds]) an bn ((k, ps.length, ds.any isRet) :: cn) (c + 1)
  | meth {n k c : Nat} {s : Str} {b an bn ps vs : List Str} {cn : List BD} {ds : List PyData} : WkL n (b ++ (ps ++ vs)) k ds an bn cn c → ps.length ≤ 4 → vs.length ≤ 4 → Wk (n + 1) b k (.tuple [.str kMeth, .str s, .tuple (ps.map .str), .tuple (vs.map .str), .tuple ds]) an bn cn (c + 1)
inductive WkL : Nat → List Str → Nat → List PyData → List Str → List Str → List BD → Nat → Prop
  | nil {n k : Nat} {b : List Str} : WkL n b k [] [] [] [] 0
  | cons {n k c c' : Nat} {b an bn an' bn' : List Str} {cn cn' : List BD} {d : PyData} {ds : List PyData} : Wk n b k d an bn cn c → WkL n b k ds an' bn' cn' c' → WkL n b k (d :: ds) (an ++ an') (bn ++ bn') (cn ++ cn') (c + c')
inductive WkM : Nat → List Str → Nat → List (Str × List PyData) → List Str → List Str → List BD → Nat → Prop
  | nil {n k : Nat} {b : List Str} : WkM n b k [] [] [] [] 0
  | cons {n k c c' : Nat} {b an bn an' bn' : List Str} {cn cn' : List BD} {s : Str} {ds : List PyData} {ms : List (Str × List PyData)} : WkL n b k ds an bn cn c → WkM n b k ms an' bn' cn' c' → WkM n b k ((s, ds) :: ms) (an ++ an') ((s :: bn) ++ bn') (cn ++ cn') (c + c')
end
/-! ### it is what the rows say -/
structure WO (rows : List RowD) (an bn : List Str) (cn : List BD) : Prop where
  a : an = rows.flatMap freeR
  b : bn.Perm (rows.flatMap selR)
  c : cn = rows.filterMap blkD
theorem WO.nil : WO [] [] [] [] := ⟨rfl, .nil, rfl⟩
theorem WO.app {r s : List RowD} {an bn an' bn' : List Str} {cn cn' : List BD} (h : WO r an bn cn) (h' : WO s an' bn' cn') : WO (r ++ s) (an ++ an') (bn ++ bn') (cn ++ cn') :=
  ⟨by rw [List.flatMap_append, ← h.a, ← h'.a], by rw [List.flatMap_append]; exact h.b.append h'.b, by rw [List.filterMap_append, ← h.c, ← h'.c]⟩
theorem WO.cons {r : RowD} {s : List RowD} {a an bn : List Str} {q bq : List Str} {cn : List BD} (h : WO s an bn cn) (ha : freeR r = a) (hs : selR r = q) (hb : blkD r = none) (hq : bq.Perm (q ++ bn)) : WO (r :: s) (a ++ an) bq cn :=
  ⟨by rw [List.flatMap_cons, ha, ← h.a], by rw [List.flatMap_cons, hs]; exact hq.trans (h.b.append_left q), by rw [List.filterMap_cons, hb, ← h.c]⟩
theorem five_four {z : Str} (h : z ≠ Str.ofString "super") : five.contains (codesOf z) = fourS.contains z := by
  rw [Bool.eq_iff_iff, List.contains_iff_mem, List.contains_iff_mem]
  have e : five = ((["self", "super", "nil", "true", "false"] : List Str).map codesOf) := by decide +kernel
  rw [e, List.mem_map]
  unfold fourS
  constructor
  · rintro ⟨w, hw, he⟩
    have : w = z := by rw [← strOf_codes w, he, strOf_codes]
    subst this
    simp only [List.mem_cons, List.not_mem_nil, or_false] at hw ⊢
    rcases hw with hw | hw | hw | hw | hw
    · exact .inl hw
    · exact absurd hw h
    · exact .inr (.inl hw)
    · exact .inr (.inr (.inl hw))
    · exact .inr (.inr (.inr hw))
  · intro hz
    refine ⟨z, ?_, rfl⟩
    simp only [List.mem_cons, List.not_mem_nil, or_false] at hz ⊢
    rcases hz with hw | hw | hw | hw
    · exact .inl hw
    · exact .inr (.inr (.inl hw))
    · exact .inr (.inr (.inr (.inl hw)))
    · exact .inr (.inr (.inr (.inr hw)))
theorem free_vs {z y : Str} {r : List PyData} {b : List Str} {k : Nat} (hz : isVS z = true) (hy : y ≠ Str.ofString "super") : freeR (.tuple (.str z :: .str y :: r), b, k) = newN b y := by
  unfold freeR newN
  have e : nameR (.tuple (.str z :: .str y :: r), b, k) = [y] := by show (if isVS z = true then [y] else []) = [y]; rw [if_pos hz]
  rw [e, List.contains_append, ← five_four hy]
  show List.filter (fun y => !five.contains (codesOf y) && !b.contains y) [y] = _
  rw [List.filter_cons, List.filter_nil]
  cases five.contains (codesOf y) <;> cases b.contains y <;> rfl
theorem free_no {z : Str} {r : List PyData} {b : List Str} {k : Nat} (hz : isVS z = false) : freeR (.tuple (.str z :: r), b, k) = [] := by
  unfold freeR
  have e : nameR (.tuple (.str z :: r), b, k) = [] := by
    unfold nameR
    split
    · rename_i e
      injection e with e _
      injection e with e
      injection e with e _
      injection e with e
      subst e
      rw [hz]; rfl
    · rfl
  rw [e]; rfl
theorem nil_ns {b : List Str} : b ++ ([] : List Str) = b := List.append_nil b
mutual
theorem Gs.wk : ∀ {f c : Nat} {d : PyData}, Gs f d c → ∀ n, f + 1 ≤ n → ∀ (b : List Str) (k : Nat), ∃ rows an bn cn cw, Wk n b k d an bn cn cw ∧ Pre n d b k rows ∧ rows.length = cw ∧ RB (b.length + 8 * f + 8) rows ∧ WO rows an bn cn ∧ (cw ≤ c ∧ bn.length ≤ c)
  | f, _, _, .int h1 h2, n, hn, b, k => by
    obtain ⟨m, hm⟩ : ∃ m, n = m + 1 := ⟨n - 1, by omega⟩
    rw [hm]
    exact ⟨_, _, _, _, _, .leaf (by simp), .mk .int (own_leaf (by simp)) .nil, rfl, rb_cons ⟨by simp; omega, row_leaf (by simp) _ _⟩ (rb_nil _), WO.nil.cons (a := []) (free_no (by decide +kernel)) (sel_other (by decide +kernel) (by decide +kernel) (by decide +kernel) _ _) (blk_none (by decide +kernel)) .nil, by (try simp only [List.length_append, List.length_cons, List.length_nil]); omega⟩
  | f, _, _, .str h1 h2, n, hn, b, k => by
    obtain ⟨m, hm⟩ : ∃ m, n = m + 1 := ⟨n - 1, by omega⟩
    rw [hm]
    exact ⟨_, _, _, _, _, .leaf (by simp), .mk .str (own_leaf (by simp)) .nil, rfl, rb_cons ⟨by simp; omega, row_leaf (by simp) _ _⟩ (rb_nil _), WO.nil.cons (a := []) (free_no (by decide +kernel)) (sel_other (by decide +kernel) (by decide +kernel) (by decide +kernel) _ _) (blk_none (by decide +kernel)) .nil, by (try simp only [List.length_append, List.length_cons, List.length_nil]); omega⟩
  | f, _, _, .sym h1 h2, n, hn, b, k => by
    obtain ⟨m, hm⟩ : ∃ m, n = m + 1 := ⟨n - 1, by omega⟩
    rw [hm]
    exact ⟨_, _, _, _, _, .leaf (by simp), .mk .sym (own_leaf (by simp)) .nil, rfl, rb_cons ⟨by simp; omega, row_leaf (by simp) _ _⟩ (rb_nil _), WO.nil.cons (a := []) (free_no (by decide +kernel)) (sel_other (by decide +kernel) (by decide +kernel) (by decide +kernel) _ _) (blk_none (by decide +kernel)) .nil, by (try simp only [List.length_append, List.length_cons, List.length_nil]); omega⟩
  | f, _, _, .var h, n, hn, b, k => by
    obtain ⟨m, hm⟩ : ∃ m, n = m + 1 := ⟨n - 1, by omega⟩
    rw [hm]
    refine ⟨_, _, _, _, _, .var, .mk .var (own_leaf (by simp)) .nil, rfl, rb_cons ⟨by simp; omega, row_leaf (by simp) _ _⟩ (rb_nil _), ?_, by (try simp only [List.length_append, List.length_cons, List.length_nil]); omega⟩
    have := WO.nil.cons (free_vs (k := k) (r := []) (b := b ++ []) (z := kV) (by decide +kernel) h.ns) (sel_other (by decide +kernel) (by decide +kernel) (by decide +kernel) _ _) (blk_none (by decide +kernel)) .nil
    rw [List.append_nil, nil_ns] at this
    rw [nil_ns]
    exact this
  | f + 1, _, _, .arr h, n, hn, b, k => by
    obtain ⟨m, hm⟩ : ∃ m, n = m + 1 := ⟨n - 1, by omega⟩
    rw [hm]
    obtain ⟨rows, an, bn, cn, cw, w, h1, h2, h3, h4, y1⟩ := h.wk m (by omega) b k
    exact ⟨_, _, _, _, _, .arr w, .mk .arr (own_leaf (by simp)) (by rw [nil_ns]; exact h1), by rw [List.length_cons, h2], rb_cons ⟨by simp; omega, row_leaf (by simp) _ _⟩ (h3.le (by omega)), h4.cons (a := []) (free_no (by decide +kernel)) (sel_other (by decide +kernel) (by decide +kernel) (by decide +kernel) _ _) (blk_none (by decide +kernel)) (.refl _), by (try simp only [List.length_append, List.length_cons, List.length_nil]); omega⟩
  | f + 1, _, _, .set hz h, n, hn, b, k => by
    obtain ⟨m, hm⟩ : ∃ m, n = m + 1 := ⟨n - 1, by omega⟩
    rw [hm]
    obtain ⟨rows, an, bn, cn, cw, w, h1, h2, h3, h4, y1⟩ := h.wk m (by omega) b k
    refine ⟨_, _, _, _, _, .set w, .mk .set (own_leaf (by simp)) (by rw [nil_ns]; exact .cons h1 .nil), by rw [List.length_cons, List.append_nil, h2], rb_cons ⟨by simp; omega, row_leaf (by simp) _ _⟩ (by rw [List.append_nil]; exact h3.le (by omega)), ?_, by (try simp only [List.length_append, List.length_cons, List.length_nil]); omega⟩
    rw [List.append_nil, List.append_nil]
    exact h4.cons (free_vs (by decide +kernel) hz.ns) (sel_other (by decide +kernel) (by decide +kernel) (by decide +kernel) _ _) (blk_none (by decide +kernel)) (.refl _)
  | f + 1, _, _, .ret h, n, hn, b, k => by
    obtain ⟨m, hm⟩ : ∃ m, n = m + 1 := ⟨n - 1, by omega⟩
    rw [hm]
    obtain ⟨rows, an, bn, cn, cw, w, h1, h2, h3, h4, y1⟩ := h.wk m (by omega) b k
    refine ⟨_, _, _, _, _, .ret w, .mk .ret (own_leaf (by simp)) (by rw [nil_ns]; exact .cons h1 .nil), by rw [List.length_cons, List.append_nil, h2], rb_cons ⟨by simp; omega, row_leaf (by simp) _ _⟩ (by rw [List.append_nil]; exact h3.le (by omega)), ?_, by (try simp only [List.length_append, List.length_cons, List.length_nil]); omega⟩
    rw [List.append_nil, List.append_nil]
    exact h4.cons (a := []) (free_no (by decide +kernel)) (sel_other (by decide +kernel) (by decide +kernel) (by decide +kernel) _ _) (blk_none (by decide +kernel)) (.refl _)
  | f + 1, _, _, .send h hs hl h4 t, n, hn, b, k => by
    obtain ⟨m, hm⟩ : ∃ m, n = m + 1 := ⟨n - 1, by omega⟩
    rw [hm]
    obtain ⟨rows, an, bn, cn, cw, w, h1, h2, h3, h5, y1⟩ := h.wk m (by omega) b k
    obtain ⟨rs, an', bn', cn', cw', w', t1, t2, t3, t5, y2⟩ := t.wk m (by omega) b k
    refine ⟨_, _, _, _, _, .send w w', .mk .send (own_leaf (by simp)) (by rw [nil_ns]; exact .cons h1 t1), by rw [List.length_cons, List.length_append, h2, t2], rb_cons ⟨by simp; omega, ?_, ?_⟩ (rb_app (h3.le (by omega)) (t3.le (by omega))), ?_, by (try simp only [List.length_append, List.length_cons, List.length_nil]); omega⟩
    · rw [decl_other (by decide +kernel) (by decide +kernel)]; exact Nat.zero_le _
    · rw [sel_send]; exact (by decide : 1 ≤ 3)
    · exact (h5.app t5).cons (a := []) (free_no (by decide +kernel)) sel_send (blk_none (by decide +kernel)) List.perm_middle
  | f + 1, _, _, .super hs hl h4 t, n, hn, b, k => by
    obtain ⟨m, hm⟩ : ∃ m, n = m + 1 := ⟨n - 1, by omega⟩
    rw [hm]
    obtain ⟨rs, an', bn', cn', cw', w', t1, t2, t3, t5, y2⟩ := t.wk m (by omega) b k
    refine ⟨_, _, _, _, _, .super w', .mk .super (own_leaf (by simp)) (by rw [nil_ns]; exact t1), by rw [List.length_cons, t2], rb_cons ⟨by simp; omega, ?_, ?_⟩ (t3.le (by omega)), ?_, by (try simp only [List.length_append, List.length_cons, List.length_nil]); omega⟩
    · rw [decl_other (by decide +kernel) (by decide +kernel)]; exact Nat.zero_le _
    · rw [sel_super]; exact (by decide : 1 ≤ 3)
    · exact t5.cons (a := []) (free_no (by decide +kernel)) sel_super (blk_none (by decide +kernel)) (.refl _)
  | f + 1, _, _, .casc (ms := ms) h h4 t, n, hn, b, k => by
    obtain ⟨m, hm⟩ : ∃ m, n = m + 1 := ⟨n - 1, by omega⟩
    rw [hm]
    obtain ⟨rows, an, bn, cn, cw, w, h1, h2, h3, h5, y1⟩ := h.wk m (by omega) b k
    obtain ⟨rs, an', bn', cn', cw', w', t1, t2, t3, ta, tb, tc, y2⟩ := t.wk m (by omega) b k
    refine ⟨_, _, _, _, _, .casc w w', .mk .casc (own_leaf (by simp)) (by rw [nil_ns]; exact .cons h1 t1), by rw [List.length_cons, List.length_append, h2, t2], rb_cons ⟨by simp; omega, ?_, ?_⟩ (rb_app (h3.le (by omega)) (t3.le (by omega))), ?_, by (try simp only [List.length_append, List.length_cons, List.length_nil]); omega⟩
    · rw [decl_other (by decide +kernel) (by decide +kernel)]; exact Nat.zero_le _
    · rw [sel_casc, List.length_map]; exact h4
    · refine ⟨by rw [List.flatMap_cons, free_no (by decide +kernel), List.flatMap_append, ← h5.a, ← ta]; rfl, ?_, by rw [List.filterMap_cons, blk_none (by decide +kernel), List.filterMap_append, ← h5.c, ← tc]⟩
      rw [List.flatMap_cons, sel_casc, List.flatMap_append]
      exact (h5.b.append tb).trans (by rw [← List.append_assoc, ← List.append_assoc]; exact List.perm_append_comm.append_right _)
  | f + 1, _, _, .block (ps := ps) (vs := vs) (sts := sts) h1 h2 h3 h4 h5 nr t, n, hn, b, k => by
    obtain ⟨m, hm⟩ : ∃ m, n = m + 1 := ⟨n - 1, by omega⟩
    rw [hm]
    obtain ⟨rs, an', bn', cn', cw', w', t1, t2, t3, t5, y2⟩ := t.wk m (by omega) (b ++ (ps ++ vs)) (k + 1)
    refine ⟨_, _, _, _, _, .block w' nr h1 h2, .mk .block .block t1, by rw [List.length_cons, t2], rb_cons ⟨by simp; omega, ?_, ?_⟩ (t3.le (by simp; omega)), ?_, by (try simp only [List.length_append, List.length_cons, List.length_nil]); omega⟩
    · show (if kBlock = kBlock then strsD (ps.map PyData.str) ++ strsD (vs.map PyData.str) else []).length ≤ 8
      rw [if_pos rfl, strsD_map, strsD_map, List.length_append]; omega
    · rw [sel_other (by decide +kernel) (by decide +kernel) (by decide +kernel)]; exact Nat.zero_le _
    · refine ⟨by rw [List.flatMap_cons, free_no (by decide +kernel), ← t5.a]; rfl, by rw [List.flatMap_cons, sel_other (by decide +kernel) (by decide +kernel) (by decide +kernel)]; exact t5.b, ?_⟩
      have e : blkD (.tuple [.str kBlock, .tuple (ps.map .str), .tuple (vs.map .str), .tuple sts], b ++ (ps ++ vs), k) = some (k, (ps.map PyData.str).length, sts.any isRet) := by
        show (if decide (V.str kBlock = V.str kBlock) = true then some (k, (ps.map PyData.str).length, sts.any isRet) else none) = _
        rw [if_pos (by decide +kernel)]
      rw [List.filterMap_cons, e, ← t5.c, List.length_map]
  | f + 1, _, _, .meth (ps := ps) (vs := vs) hs hl h1 h2 h3 h4 h5 nr t, n, hn, b, k => by
    obtain ⟨m, hm⟩ : ∃ m, n = m + 1 := ⟨n - 1, by omega⟩
    rw [hm]
    obtain ⟨rs, an', bn', cn', cw', w', t1, t2, t3, t5, y2⟩ := t.wk m (by omega) (b ++ (ps ++ vs)) k
    refine ⟨_, _, _, _, _, .meth w' h1 h2, .mk .meth .meth t1, by rw [List.length_cons, t2], rb_cons ⟨by simp; omega, ?_, ?_⟩ (t3.le (by simp; omega)), ?_, by (try simp only [List.length_append, List.length_cons, List.length_nil]); omega⟩
    · show (if kMeth = kMeth then strsD (ps.map PyData.str) ++ strsD (vs.map PyData.str) else []).length ≤ 8
      rw [if_pos rfl, strsD_map, strsD_map, List.length_append]; omega
    · rw [sel_other (by decide +kernel) (by decide +kernel) (by decide +kernel)]; exact Nat.zero_le _
    · exact t5.cons (a := []) (free_no (by decide +kernel)) (sel_other (by decide +kernel) (by decide +kernel) (by decide +kernel) _ _) (blk_none (by decide +kernel)) (.refl _)
termination_by structural _ _ _ h => h
theorem GsL.wk : ∀ {f c : Nat} {ds : List PyData}, GsL f ds c → ∀ n, f + 1 ≤ n → ∀ (b : List Str) (k : Nat), ∃ rows an bn cn cw, WkL n b k ds an bn cn cw ∧ PreL n ds b k rows ∧ rows.length = cw ∧ RB (b.length + 8 * f + 8) rows ∧ WO rows an bn cn ∧ (cw ≤ c ∧ bn.length ≤ c)
  | _, _, _, .nil, _, _, _, _ => ⟨_, _, _, _, _, .nil, .nil, rfl, rb_nil _, .nil, by (try simp only [List.length_append, List.length_cons, List.length_nil]); omega⟩
  | _, _, _, .cons h t, n, hn, b, k => by
    obtain ⟨r, an, bn, cn, cw, w, h1, h2, h3, h4, y1⟩ := h.wk n hn b k
    obtain ⟨rs, an', bn', cn', cw', w', t1, t2, t3, t4, y2⟩ := t.wk n hn b k
    exact ⟨_, _, _, _, _, .cons w w', .cons h1 t1, by rw [List.length_append, h2, t2], rb_app h3 t3, h4.app t4, by (try simp only [List.length_append, List.length_cons, List.length_nil]); omega⟩
termination_by structural _ _ _ h => h
theorem GsM.wk : ∀ {f c : Nat} {ms : List (Str × List PyData)}, GsM f ms c → ∀ n, f + 1 ≤ n → ∀ (b : List Str) (k : Nat), ∃ rows an bn cn cw, WkM n b k ms an bn cn cw ∧ PreL n (ms.flatMap (·.2)) b k rows ∧ rows.length = cw ∧ RB (b.length + 8 * f + 8) rows ∧ an = rows.flatMap freeR ∧ bn.Perm (ms.map (·.1) ++ rows.flatMap selR) ∧ cn = rows.filterMap blkD ∧ (cw ≤ c ∧ bn.length ≤ c + ms.length)
  | _, _, _, .nil, _, _, _, _ => ⟨_, _, _, _, _, .nil, .nil, rfl, rb_nil _, rfl, .nil, rfl, by (try simp only [List.length_append, List.length_cons, List.length_nil]); omega⟩
  | _, _, _, .cons _ _ _ h t, n, hn, b, k => by
    obtain ⟨r, an, bn, cn, cw, w, h1, h2, h3, h4, y1⟩ := h.wk n hn b k
    obtain ⟨rs, an', bn', cn', cw', w', t1, t2, t3, ta, tb, tc, y2⟩ := t.wk n hn b k
    refine ⟨_, _, _, _, _, .cons w w', h1.app t1, by rw [List.length_append, h2, t2], rb_app h3 t3, by rw [List.flatMap_append, ← h4.a, ← ta], ?_, by rw [List.filterMap_append, ← h4.c, ← tc], by (try simp only [List.length_append, List.length_cons, List.length_nil]); omega⟩
    rw [List.flatMap_append, List.map_cons, List.cons_append, List.cons_append]
    refine List.Perm.cons _ ?_
    refine (h4.b.append tb).trans ?_
    rw [← List.append_assoc, ← List.append_assoc]
    exact List.perm_append_comm.append_right _
termination_by structural _ _ _ h => h
end
end My8

end
section
set_option Elab.async false
set_option linter.all false
set_option maxRecDepth 100000
set_option maxHeartbeats 2000000
namespace My8
open PySem PySem.Spec PyProof.Rows L2 My
open TrM TL
abbrev s_law_walk : Stmt := top 71
section
variable {K : PySem.W.Frag} {σ : L2.St} {H : Hp} {i : Nat} {p : Addr} {xs : List V} {z : Str}
theorem e_h1 {w : Str} (hσ : σ[i]? = some (some (.ref p))) (hT : SqT K H p xs) (h0 : xs[0]? = some (.str z)) : EvE (tOp rEq (tOp (rIxT K) (tVar i) (tC (.int 0))) (tC (.str w))) σ H (decide (V.str z = V.str w)) := fun H' Q hs k => ⟨_, hσ, p, xs, 0, _, rfl, rfl, SqT.mono hs hT, atI_nat h0, rfl, k _ hs⟩
theorem e_h2 {w w' : Str} (hσ : σ[i]? = some (some (.ref p))) (hT : SqT K H p xs) (h0 : xs[0]? = some (.str z)) : EvE (tOp (rIn K false) (tOp (rIxT K) (tVar i) (tC (.int 0))) (tTup (tCons (tC (.str w)) (tCons (tC (.str w')) tNil)))) σ H (inV (.str z) [.str w, .str w']) :=
  fun H' Q hs k => ⟨_, hσ, p, xs, 0, _, rfl, rfl, SqT.mono hs hT, atI_nat h0, (by show 2 ≤ sizeLine; decide), fun t nt => ⟨t, _, rfl, .inr (SqT.of upd_same), rfl, rfl, k _ (hs.trans (same_upd nt))⟩⟩
theorem e_h3 {w w' w'' : Str} (hσ : σ[i]? = some (some (.ref p))) (hT : SqT K H p xs) (h0 : xs[0]? = some (.str z)) : EvE (tOp (rIn K false) (tOp (rIxT K) (tVar i) (tC (.int 0))) (tTup (tCons (tC (.str w)) (tCons (tC (.str w')) (tCons (tC (.str w'')) tNil))))) σ H (inV (.str z) [.str w, .str w', .str w'']) :=
  fun H' Q hs k => ⟨_, hσ, p, xs, 0, _, rfl, rfl, SqT.mono hs hT, atI_nat h0, (by show 3 ≤ sizeLine; decide), fun t nt => ⟨t, _, rfl, .inr (SqT.of upd_same), rfl, rfl, k _ (hs.trans (same_upd nt))⟩⟩
end
theorem skip_if {c : TT} {t : TS} {D : Ends} {σ : L2.St} {H0 H : Hp} (hc : EvT c σ H0 false) (hs : Same H0 H) (k : ∀ H', Same H0 H' → D.nx σ H') : tIfS c t tNext D σ H := if_ev hc hs (fun h => by cases h) fun _ H' s => k H' s
theorem do_if {c : TT} {t u : TS} {D : Ends} {σ : L2.St} {H0 H : Hp} (hc : EvT c σ H0 true) (hs : Same H0 H) (k : ∀ H', Same H0 H' → t D σ H') : tIfS c t u D σ H := if_ev hc hs (fun _ H' s => k H' s) fun h => by cases h
theorem asg_else {c : TT} {t u : TE} {g : TG} {D : Ends} {σ : L2.St} {H0 H : Hp} (hc : EvT c σ H0 false) (hs : Same H0 H) (k : ∀ H', Same H0 H' → tAsg u g D σ H') : tAsg (tIf c t u) g D σ H := hc H _ hs fun H' s' => iteF (k H' s')
theorem asg_then {c : TT} {t u : TE} {g : TG} {D : Ends} {σ : L2.St} {H0 H : Hp} (hc : EvT c σ H0 true) (hs : Same H0 H) (k : ∀ H', Same H0 H' → tAsg t g D σ H') : tAsg (tIf c t u) g D σ H := hc H _ hs fun H' s' => iteT (k H' s')
/-- what has been found so far -/
structure Fd (H : Hp) (fo A B C : Addr) (an bn : List Str) (cv : List V) (q : Nat) : Prop where
  ff : H fo = some (.lst [.ref A, .ref B, .ref C, .int (q : Int)])
  a : H A = some (.lst (an.map V.str))
  b : H B = some (.lst (bn.map V.str))
  c : H C = some (.lst cv)
  ne : fo ≠ A ∧ fo ≠ B ∧ fo ≠ C ∧ A ≠ B ∧ A ≠ C ∧ B ≠ C
def Out (fo A B C x : Addr) : Prop := x ≠ fo ∧ x ≠ A ∧ x ≠ B ∧ x ≠ C
def Fr (fo A B C : Addr) (H H' : Hp) : Prop := ∀ a o, Out fo A B C a → H a = some o → H' a = some o
section
variable {H H' H1 H2 : Hp} {fo A B C x : Addr} {an bn : List Str} {cv : List V} {q : Nat}
theorem Fr.of (s : Same H H') : Fr fo A B C H H' := fun a o _ e => s a o e
theorem Fr.trans (h : Fr fo A B C H H1) (k : Fr fo A B C H1 H2) : Fr fo A B C H H2 := fun a o c e => k a o c (h a o c e)
theorem Fd.same (h : Fd H fo A B C an bn cv q) (s : Same H H') : Fd H' fo A B C an bn cv q := ⟨s _ _ h.ff, s _ _ h.a, s _ _ h.b, s _ _ h.c, h.ne⟩
theorem Fd.out (h : Fd H fo A B C an bn cv q) (n : H x = none) : Out fo A B C x := ⟨fun e => (by rw [e, h.ff] at n; cases n), fun e => (by rw [e, h.a] at n; cases n), fun e => (by rw [e, h.b] at n; cases n), fun e => (by rw [e, h.c] at n; cases n)⟩
theorem Fd.lists (h : Fd H fo A B C an bn cv q) (k : Fr fo A B C H H') : Lists H H' := fun a o e => by
  by_cases c0 : a = fo
  · subst c0; rw [h.ff] at e; exact .inr ⟨_, by injection e with e; exact e.symm⟩
  by_cases c1 : a = A
  · subst c1; rw [h.a] at e; exact .inr ⟨_, by injection e with e; exact e.symm⟩
  by_cases c2 : a = B
  · subst c2; rw [h.b] at e; exact .inr ⟨_, by injection e with e; exact e.symm⟩
  by_cases c3 : a = C
  · subst c3; rw [h.c] at e; exact .inr ⟨_, by injection e with e; exact e.symm⟩
  exact .inl (k a o ⟨c0, c1, c2, c3⟩ e)
theorem Fd.inc (h : Fd H fo A B C an bn cv q) : Fd (upd H fo (.lst [.ref A, .ref B, .ref C, .int ((q + 1 : Nat) : Int)])) fo A B C an bn cv (q + 1) :=
  ⟨upd_same, by rw [upd_ne (Ne.symm h.ne.1)]; exact h.a, by rw [upd_ne (Ne.symm h.ne.2.1)]; exact h.b, by rw [upd_ne (Ne.symm h.ne.2.2.1)]; exact h.c, h.ne⟩
theorem Fd.addA (h : Fd H fo A B C an bn cv q) (z : Str) : Fd (upd H A (.lst (an.map V.str ++ [.str z]))) fo A B C (an ++ [z]) bn cv q :=
  ⟨by rw [upd_ne h.ne.1]; exact h.ff, by rw [upd_same, List.map_append]; rfl, by rw [upd_ne (Ne.symm h.ne.2.2.2.1)]; exact h.b, by rw [upd_ne (Ne.symm h.ne.2.2.2.2.1)]; exact h.c, h.ne⟩
theorem Fd.addB (h : Fd H fo A B C an bn cv q) (z : Str) : Fd (upd H B (.lst (bn.map V.str ++ [.str z]))) fo A B C an (bn ++ [z]) cv q :=
  ⟨by rw [upd_ne h.ne.2.1]; exact h.ff, by rw [upd_ne h.ne.2.2.2.1]; exact h.a, by rw [upd_same, List.map_append]; rfl, by rw [upd_ne (Ne.symm h.ne.2.2.2.2.2)]; exact h.c, h.ne⟩
theorem Fd.addC (h : Fd H fo A B C an bn cv q) (v : V) : Fd (upd H C (.lst (cv ++ [v]))) fo A B C an bn (cv ++ [v]) q :=
  ⟨by rw [upd_ne h.ne.2.2.1]; exact h.ff, by rw [upd_ne h.ne.2.2.2.2.1]; exact h.a, by rw [upd_ne h.ne.2.2.2.2.2]; exact h.b, upd_same, h.ne⟩
theorem Fr.set {o : HO} (hx : x = fo ∨ x = A ∨ x = B ∨ x = C) : Fr fo A B C H (upd H x o) := fun a u c e => by
  have : a ≠ x := by
    rcases hx with rfl | rfl | rfl | rfl
    · exact c.1
    · exact c.2.1
    · exact c.2.2.1
    · exact c.2.2.2
  rw [upd_ne this]; exact e
end
/-- from H to H' so much has been found -/
def St (K : PySem.W.Frag) (fo A B C : Addr) (an bn : List Str) (cv : List V) (q : Nat) (H : Hp) (a b : List Str) (cn : List BD) (c : Nat) (H' : Hp) : Prop :=
  ∃ ws, Fd H' fo A B C (an ++ a) (bn ++ b) (cv ++ ws) (q + c) ∧ Paired (BlkAt K H') ws cn ∧ Fr fo A B C H H'
theorem blk_lists {K : PySem.W.Frag} {H H' : Hp} (l : Lists H H') : ∀ {ws : List V} {cn : List BD}, Paired (BlkAt K H) ws cn → Paired (BlkAt K H') ws cn
  | _, _, .nil => .nil
  | _, _, .cons h t => by
    obtain ⟨a, e, hs⟩ := h
    exact .cons ⟨a, e, sqt_lists l hs⟩ (blk_lists l t)
theorem paired_app {α β : Type} {R : α → β → Prop} : ∀ {xs xs' : List α} {ys ys' : List β}, Paired R xs ys → Paired R xs' ys' → Paired R (xs ++ xs') (ys ++ ys')
  | _, _, _, _, .nil, h => h
  | _, _, _, _, .cons h t, h' => .cons h (paired_app t h')
section
variable {K : PySem.W.Frag} {fo A B C : Addr} {an bn a b a2 b2 : List Str} {cv : List V} {cn cn2 : List BD} {q c c2 : Nat} {H H1 H2 : Hp}
theorem St.same (h : St K fo A B C an bn cv q H a b cn c H1) (s : Same H1 H2) : St K fo A B C an bn cv q H a b cn c H2 := by
  obtain ⟨ws, f, p, r⟩ := h
  exact ⟨ws, f.same s, blk_lists (Same.lists s) p, r.trans (.of s)⟩
/-- a part's findings behind what was found -/
def Go (K : PySem.W.Frag) (fo A B C : Addr) (H1 : Hp) (a2 b2 : List Str) (cn2 : List BD) (c2 : Nat) (H2 : Hp) : Prop := ∀ an bn cv q, Fd H1 fo A B C an bn cv q → St K fo A B C an bn cv q H1 a2 b2 cn2 c2 H2
theorem St.go (h : St K fo A B C an bn cv q H a b cn c H1) (k : Go K fo A B C H1 a2 b2 cn2 c2 H2) : St K fo A B C an bn cv q H (a ++ a2) (b ++ b2) (cn ++ cn2) (c + c2) H2 := by
  obtain ⟨ws, f, p, r⟩ := h
  obtain ⟨ws2, f2, p2, r2⟩ := k _ _ _ _ f
  refine ⟨ws ++ ws2, ?_, paired_app (blk_lists (f.lists r2) p) p2, r.trans r2⟩
  rw [← List.append_assoc, ← List.append_assoc, ← List.append_assoc, ← Nat.add_assoc]
  exact f2
end
/-- what is still to be walked -/
inductive Plan (n : Nat) (b : List Str) (k : Nat) : PyData → List (Str × List PyData) → List Str → List Str → List BD → Nat → Prop
  | msgs {z : Str} {r : List PyData} {ms : List (Str × List PyData)} {an bn : List Str} {cn : List BD} {c : Nat} : z ∈ [kSend, kSuper, kCasc] → WkM n b k ms an bn cn c → Plan n b k (.tuple (.str z :: r)) ms an bn cn c
  | leaf {z : Str} {r : List PyData} : z ∈ [kI, kS, kY, kV] → Plan n b k (.tuple (.str z :: r)) [] [] [] [] 0
  | kid {z : Str} {r : List PyData} {x : PyData} {an bn : List Str} {cn : List BD} {c : Nat} : z ∈ [kSet, kRet] → Wk n b k x an bn cn c → Plan n b k (.tuple (.str z :: (r ++ [x]))) [] an bn cn c
  | kids {z : Str} {r ds : List PyData} {an bn : List Str} {cn : List BD} {c : Nat} : z ∈ [kA, kMeth, kBlock] → WkL n b k ds an bn cn c → Plan n b k (.tuple (.str z :: (r ++ [.tuple ds]))) [] an bn cn c
theorem rest5 {A0 A1 A2 A3 A4 A5 Z : TS} {D : Ends} {σ : L2.St} {H : Hp} (M : L2.St → Hp → Prop) (h2 : ∀ σ' H', M σ' H' → Z D σ' H') (h1 : (∀ σ' H', M σ' H' → Z D σ' H') → tSeq A0 (tSeq A1 (tSeq A2 (tSeq A3 (tSeq A4 (tSeq A5 Z))))) D σ H) : tSeq A0 (tSeq A1 (tSeq A2 (tSeq A3 (tSeq A4 (tSeq A5 Z))))) D σ H := h1 h2
/-- walk(root, around, depth, found) -/
def spWalk (K : PySem.W.Frag) (n : Nat) : Sp := fun vs H Q _ => ∃ (v : V) (ar fo A B C : Addr) (k : Nat) (d : PyData) (b an bn a b' : List Str) (cv : List V) (cn : List BD) (q c : Nat), vs = [v, .ref ar, .int (k : Int), .ref fo] ∧ Dp K H v d ∧ NoL d ∧ Wk n b k d a b' cn c ∧ H ar = some (.lst (b.map V.str)) ∧ Out fo A B C ar ∧ Fd H fo A B C an bn cv q ∧ an.length + a.length ≤ 100000 ∧ bn.length + b'.length ≤ 100000 ∧ cv.length + cn.length ≤ 100000 ∧ b.length + 8 * n ≤ 1000 ∧
  ∀ H', St K fo A B C an bn cv q H a b' cn c H' → Q .non H'
section
variable {K : PySem.W.Frag} {fo A B C : Addr} {an bn a b a2 b2 : List Str} {cv ws : List V} {cn cn2 : List BD} {q c c2 : Nat} {H H1 H2 : Hp}
theorem St.join (f : Fd H1 fo A B C (an ++ a) (bn ++ b) (cv ++ ws) (q + c)) (p : Paired (BlkAt K H1) ws cn) (r : Fr fo A B C H H1) (k : St K fo A B C (an ++ a) (bn ++ b) (cv ++ ws) (q + c) H1 a2 b2 cn2 c2 H2) : St K fo A B C an bn cv q H (a ++ a2) (b ++ b2) (cn ++ cn2) (c + c2) H2 := by
  obtain ⟨ws2, f2, p2, r2⟩ := k
  refine ⟨ws ++ ws2, ?_, paired_app (blk_lists (f.lists r2) p) p2, r.trans r2⟩
  rw [← List.append_assoc, ← List.append_assoc, ← List.append_assoc, ← Nat.add_assoc]
  exact f2
theorem St.fr (k : St K fo A B C an bn cv q H1 a2 b2 cn2 c2 H2) : Fr fo A B C H1 H2 := by
  obtain ⟨_, _, _, r⟩ := k
  exact r
end
theorem paired_len {α β : Type} {R : α → β → Prop} : ∀ {xs : List α} {ys : List β}, Paired R xs ys → xs.length = ys.length
  | _, _, .nil => rfl
  | _, _, .cons _ t => by rw [List.length_cons, List.length_cons, paired_len t]
theorem drop_at {α : Type} {ds : List α} {i : Nat} {x : α} (h : ds[i]? = some x) : ds.drop i = x :: ds.drop (i + 1) := by
  obtain ⟨h1, h2⟩ := List.getElem?_eq_some_iff.mp h
  rw [List.drop_eq_getElem_cons h1, h2]
/-- for one in trees: walk(one, ..) -/
theorem walk_loop {K : PySem.W.Frag} {n : Nat} {D : Ends} {fo A B C ar a0 : Addr} {an bn a1 d1 a2 d2 b : List Str} {cv xs : List V} {n1 n2 : List BD} {q c1 c2 k : Nat} {H0 H : Hp} {ds : List PyData} {v : V} {x4 x5 x6 x7 : Option V}
    (hW : WkL n b k ds a2 d2 n2 c2) (hS : St K fo A B C an bn cv q H0 a1 d1 n1 c1 H) (har : H ar = some (.lst (b.map V.str))) (hout : Out fo A B C ar) (hT : SqT K H a0 xs) (hD : DpAll K H xs ds) (hN : ∀ d ∈ ds, NoL d)
    (z1 : an.length + (a1 ++ a2).length ≤ 100000) (z2 : bn.length + (d1 ++ d2).length ≤ 100000) (z3 : cv.length + (n1 ++ n2).length ≤ 100000) (z4 : b.length + 8 * n ≤ 1000)
    (hd : ∀ x7' H', St K fo A B C an bn cv q H0 (a1 ++ a2) (d1 ++ d2) (n1 ++ n2) (c1 + c2) H' → Fr fo A B C H H' → D.nx [some v, some (.ref ar), some (.int (k : Int)), some (.ref fo), x4, x5, x6, x7'] H') :
    ∃ W : Nat → Nat → L2.St → Hp → Prop, (∃ m, W 0 m [some v, some (.ref ar), some (.int (k : Int)), some (.ref fo), x4, x5, x6, x7] H) ∧ ∀ i m σ H, W i m σ H →
      ((Itt K a0).stop i H ∧ D.nx σ H) ∨ ((Itt K a0).go i H ∧ ∃ N : L2.St → Hp → Prop, (∀ σ' H', N σ' H' → ∃ m', m' < m ∧ W (i + 1) m' σ' H') ∧ ∀ x H', (Itt K a0).yld i H x H' → gName 7 x σ H' fun σ2 H2 => (tDrop (tCall (spWalk K n) [] E0 (tCons (tVar 7) (tCons (tVar 1) (tCons (tVar 2) (tCons (tVar 3) tNil)))))) { D with nx := N, ct := N, bk := D.nx } σ2 H2) := by
  obtain ⟨ws0, f0, p0, r0⟩ := hS
  refine for_tup (K := K) (a := a0) (xs := xs) (g := gName 7) (tb := tDrop (tCall (spWalk K n) [] E0 (tCons (tVar 7) (tCons (tVar 1) (tCons (tVar 2) (tCons (tVar 3) tNil)))))) (fun i σ H' => ∃ (x7 : Option V) (a3 d3 : List Str) (n3 : List BD) (c3 : Nat) (a4 d4 : List Str) (n4 : List BD) (c4 : Nat), σ = [some v, some (.ref ar), some (.int (k : Int)), some (.ref fo), x4, x5, x6, x7] ∧ WkL n b k (ds.drop i) a4 d4 n4 c4 ∧ a1 ++ a2 = a3 ++ a4 ∧ d1 ++ d2 = d3 ++ d4 ∧ n1 ++ n2 = n3 ++ n4 ∧ c1 + c2 = c3 + c4 ∧ St K fo A B C an bn cv q H0 a3 d3 n3 c3 H' ∧ Fr fo A B C H H') ⟨x7, a1, d1, n1, c1, a2, d2, n2, c2, rfl, hW, rfl, rfl, rfl, rfl, ⟨ws0, f0, p0, r0⟩, fun _ _ _ e => e⟩ (fun i σ H' _ R => ?_) (fun i x σ H' hx R => ?_) (fun σ H' R => ?_)
  · obtain ⟨_, _, _, _, _, _, _, _, _, _, _, _, _, _, _, _, hF⟩ := R
    exact sqt_lists (f0.lists hF) hT
  · obtain ⟨x7, a3, d3, n3, c3, a4, d4, n4, c4, rfl, hW, e1, e2, e3, e4, ⟨ws, f, p, r⟩, hF⟩ := R
    obtain ⟨dd, hdd, hDp⟩ := dpAll_get hD hx
    have hnd := hN dd (List.mem_of_getElem? hdd)
    rw [drop_at hdd] at hW
    cases hW with
    | @cons _ _ c5 c6 _ a5 d5 a6 d6 n5 n6 _ _ w t =>
      have hl := f0.lists hF
      have hpl := paired_len p
      rw [e1] at z1
      rw [e2] at z2
      rw [e3] at z3
      simp only [List.length_append] at z1 z2 z3
      refine ⟨_, rfl, _, rfl, _, rfl, _, rfl, x, ar, fo, A, B, C, k, dd, b, an ++ a3, bn ++ d3, a5, d5, cv ++ ws, n5, q + c3, c5, rfl, dp_lists hl hnd hDp, hnd, w, hF _ _ hout har, hout, f, by simp only [List.length_append]; omega, by simp only [List.length_append]; omega, by simp only [List.length_append]; omega, z4, fun H'' post => ?_⟩
      exact ⟨some x, a3 ++ a5, d3 ++ d5, n3 ++ n5, c3 + c5, a6, d6, n6, c6, rfl, t, by rw [e1, List.append_assoc], by rw [e2, List.append_assoc], by rw [e3, List.append_assoc], by omega, St.join f p r post, hF.trans post.fr⟩
  · obtain ⟨x7, a3, d3, n3, c3, a4, d4, n4, c4, rfl, hW, e1, e2, e3, e4, hS, hF⟩ := R
    have hl := dpAll_length hD
    rw [hl, List.drop_length] at hW
    cases hW
    rw [List.append_nil] at e1 e2 e3
    rw [Nat.add_zero] at e4
    refine hd _ _ ?_ hF
    rw [e1, e2, e3, e4]
    exact hS
theorem six2 (n d : Nat) : HT.sIx n d (some (-2)) = n - 2 := by
  show (if (-2 : Int) < 0 then ((-2 : Int) + (n : Int)).toNat else min (-2 : Int).toNat n) = n - 2
  rw [if_pos (by decide)]
  omega
theorem cut_two (ys : List V) {zs : List V} (h : zs.length = 2) : cutV (ys ++ zs) (some (-2)) none = zs := by
  unfold cutV
  rw [six2, HT.sIx_none, List.length_append, h, Nat.add_sub_cancel, List.drop_left, List.take_of_length_le (by omega)]
theorem cut_one (ys : List V) (u : V) : cutV (ys ++ [u]) (some (-1)) none = [u] := by
  unfold cutV
  rw [six_neg, HT.sIx_none, List.length_append, List.length_singleton, Nat.add_sub_cancel, List.drop_left]
  exact List.take_of_length_le (by simp)
theorem cut_none : cutV ([] : List V) (some (-1)) none = [] := by
  unfold cutV
  simp
/-- is the last one a return -/
theorem last_ret {K : PySem.W.Frag} {H : Hp} {Q : VK} {a0 bs : Addr} {ys us : List V} {ds : List PyData} {x1 x2 x3 x4 x5 x6 x7 : Option V} (hT : SqT K H a0 ys) (h3 : ys[3]? = some (.ref bs)) (hS : SqT K H bs us) (hD : DpAll K H us ds)
    (hz : ∀ x ∈ ds, ∃ z r, x = .tuple (.str z :: r) ∧ z ∈ [kI, kS, kY, kA, kV, kSet, kSend, kSuper, kCasc, kBlock, kRet, kMeth]) (nr : ∀ c ∈ (ds.map isRet).dropLast, c = false) (q : ∀ H', Same H H' → Q (.bl (ds.any isRet)) H') :
    tOp (rEqD K) (tLc (iTup K (tSl (rSlA K) (tOp (rIxT K) (tVar 0) (tC (.int 3))) (tPart (tUn (rU fun i => .int (-i)) (tC (.int 1)))) tNoPart)) (gName 7) tYes (tOp (rIxT K) (tVar 7) (tC (.int 0))) [7]) (tLst (tCons (tC (.str kRet)) tNil)) [some (.ref a0), x1, x2, x3, x4, x5, x6, x7] H Q := by
  have fin : ∀ (zs : List Str) (L : Addr) (H2 : Hp), Same H H2 → H2 L = some (.lst (zs.map V.str)) → (∀ z ∈ zs, z ∈ [kI, kS, kY, kA, kV, kSet, kSend, kSuper, kCasc, kBlock, kRet, kMeth]) → decide (zs = [kRet]) = ds.any isRet →
      tLst (tCons (tC (.str kRet)) tNil) [some (.ref a0), x1, x2, x3, x4, x5, x6, x7] H2 fun y H3 => rEqD K (.ref L) y H3 Q := fun zs L H2 s2 hL hzs he => by
    refine ⟨(by show 1 ≤ sizeLine; decide), fun M nM => ?_⟩
    have s3 := same_upd (o := HO.lst [V.str kRet]) nM
    have key : ∀ l : List Str, (∀ z ∈ l, z ∈ [kI, kS, kY, kA, kV, kSet, kSend, kSuper, kCasc, kBlock, kRet, kMeth]) → SeqAt.shaped (.list (l.map PyData.str)) = true := fun l hl => by
      refine shaped_list (n := 0) (N := 404 * l.length) ?_ (shl_names (fun z hz => ⟨(key_ok z (hl z hz)).1, Nat.le_trans (key_ok z (hl z hz)).2 (by decide)⟩) 0) (by decide)
      clear he hzs hL
      induction l with
      | nil => exact lay_nil
      | cons z l ih => exact lay_cons (lay_key (hl z List.mem_cons_self)) (ih fun y hy => hl y (List.mem_cons_of_mem _ hy))
    refine ⟨.list (zs.map .str), .list [.str kRet], Dp.lst (SqL.of (s3 _ _ hL)) (dpAll_strs _), Dp.lst (SqL.of upd_same) (.cons (.str _) .nil), key zs hzs, key [kRet] (by simp), ?_⟩
    have e : PyData.eqv (.list (zs.map .str)) (.list [.str kRet]) = decide (zs = [kRet]) := by
      match zs with
      | [] => simp [PyData.eqv, PyData.eqvAll]
      | [z] => simp [PyData.eqv, PyData.eqvAll]; rfl
      | _ :: _ :: _ => simp [PyData.eqv, PyData.eqvAll]
    rw [e, he]
    exact q _ (s2.trans s3)
  refine ⟨_, rfl, a0, _, 3, _, rfl, rfl, hT, atI_nat h3, 1, rfl, _, rfl, nopart (rsl_of hS fun c H1 s1 hc => ?_)⟩
  rcases List.eq_nil_or_concat ds with rfl | ⟨ds0, d0, rfl⟩
  · cases hD
    rw [cut_none] at hc
    refine ⟨c, rfl, ⟨_, hc⟩, fun L nL => lc_tup (K := K) (a := c) (xs := []) (fun i H' => i = 0 ∧ H' = upd H1 L (.lst [])) ⟨rfl, rfl⟩ (fun i H' _ R => by rw [R.2]; exact SqT.mono (same_upd nL) hc) (fun i x H' hx _ => by cases hx) fun H' R => ?_⟩
    obtain ⟨_, rfl⟩ := R
    exact fin [] L _ (s1.trans (same_upd nL)) upd_same (fun z hz => by cases hz) rfl
  · rw [List.concat_eq_append] at *
    obtain ⟨us0, us1, rfl, hy, hu⟩ := dpAll_split hD
    cases hu with | cons g1 hu =>
    cases hu
    rename_i u
    rw [cut_one] at hc
    obtain ⟨z, r, rfl, hzk⟩ := hz d0 (by simp)
    obtain ⟨t, vs, rfl, ht1, ht2⟩ := dp_tup g1
    cases ht2 with | cons k0 ht2 =>
    obtain rfl := dp_str k0
    have hany : (ds0 ++ [PyData.tuple (.str z :: r)]).any isRet = decide (z = kRet) := by
      rw [List.map_append, List.map_cons, List.map_nil, List.dropLast_concat] at nr
      have h0 : ds0.any isRet = false := by
        rw [Bool.eq_false_iff]
        intro h
        obtain ⟨x, hx, hr⟩ := List.any_eq_true.mp h
        rw [nr _ (List.mem_map_of_mem hx)] at hr
        cases hr
      rw [List.any_append, h0]
      show (false || (decide (V.str z = V.str kRet) || false)) = _
      rw [Bool.false_or, Bool.or_false]
      exact decide_eq_decide.mpr ⟨fun e => by injection e, fun e => by rw [e]⟩
    refine ⟨c, rfl, ⟨_, hc⟩, fun L nL => lc_tup (K := K) (a := c) (xs := [V.ref t]) (fun i H' => (i = 0 ∧ H' = upd H1 L (.lst [])) ∨ (i = 1 ∧ H' = upd (upd H1 L (.lst [])) L (.lst [.str z]))) (.inl ⟨rfl, rfl⟩) (fun i H' _ R => ?_) (fun i x H' hx R => ?_) fun H' R => ?_⟩
    · rcases R with ⟨_, rfl⟩ | ⟨_, rfl⟩
      · exact SqT.mono (same_upd nL) hc
      · exact SqT.mono (same_free (same_upd nL) nL) hc
    · rcases R with ⟨rfl, rfl⟩ | ⟨rfl, rfl⟩
      · cases hx
        refine ⟨rfl, tyes ⟨_, rfl, t, _, 0, _, rfl, rfl, SqT.mono (s1.trans (same_upd nL)) ht1, atI_nat rfl, [], upd_same, (by show 0 < sizeLine; decide), .inr ⟨rfl, rfl⟩⟩⟩
      · cases hx
    · rcases R with ⟨h, _⟩ | ⟨_, rfl⟩
      · cases h
      · refine fin [z] L _ (s1.trans (same_free (same_upd nL) nL)) upd_same (fun y hy => by rw [List.mem_singleton.mp hy]; exact hzk) ?_
        rw [hany]
        exact decide_eq_decide.mpr ⟨fun e => by injection e, fun e => by rw [e]⟩
end My8

end
section
set_option Elab.async false
set_option linter.all false
set_option maxRecDepth 100000
set_option maxHeartbeats 2000000
namespace My8
open PySem PySem.Spec PyProof.Rows L2 My
open TrM TL
/-- what stands at the end of a walk over a node -/
inductive Fin (n : Nat) (b : List Str) (k : Nat) : PyData → List Str → List Str → List BD → Nat → Prop
  | none {z : Str} {r : List PyData} : z ∈ [kI, kS, kY, kV, kSend, kSuper, kCasc] → Fin n b k (.tuple (.str z :: r)) [] [] [] 0
  | kid {z : Str} {r : List PyData} {x : PyData} {an bn : List Str} {cn : List BD} {c : Nat} : z ∈ [kSet, kRet] → Wk n b k x an bn cn c → Fin n b k (.tuple (.str z :: (r ++ [x]))) an bn cn c
  | kids {z : Str} {r ds : List PyData} {an bn : List Str} {cn : List BD} {c : Nat} : z ∈ [kA, kMeth, kBlock] → WkL n b k ds an bn cn c → Fin n b k (.tuple (.str z :: (r ++ [.tuple ds]))) an bn cn c
theorem in2_of {z a c : Str} {l : List Str} {r : Bool} (hl : l.all (fun w => inV (.str w) [.str a, .str c] == r) = true) (hz : z ∈ l) : inV (.str z) [.str a, .str c] = r := beq_iff_eq.mp (List.all_eq_true.mp hl z hz)
theorem in3_of {z a c e : Str} {l : List Str} {r : Bool} (hl : l.all (fun w => inV (.str w) [.str a, .str c, .str e] == r) = true) (hz : z ∈ l) : inV (.str z) [.str a, .str c, .str e] = r := beq_iff_eq.mp (List.all_eq_true.mp hl z hz)
theorem eq1_of {z a : Str} {l : List Str} {r : Bool} (hl : l.all (fun w => decide (V.str w = V.str a) == r) = true) (hz : z ∈ l) : decide (V.str z = V.str a) = r := beq_iff_eq.mp (List.all_eq_true.mp hl z hz)
theorem Wk.head {n k c : Nat} {b a d : List Str} {cn : List BD} {x : PyData} (h : Wk n b k x a d cn c) : ∃ z r, x = .tuple (.str z :: r) ∧ z ∈ [kI, kS, kY, kA, kV, kSet, kSend, kSuper, kCasc, kBlock, kRet, kMeth] := by
  cases h with
  | leaf hz =>
    simp only [List.mem_cons, List.not_mem_nil, or_false] at hz
    rcases hz with rfl | rfl | rfl <;> exact ⟨_, _, rfl, by simp⟩
  | var => exact ⟨_, _, rfl, by simp⟩
  | set => exact ⟨_, _, rfl, by simp⟩
  | arr => exact ⟨_, _, rfl, by simp⟩
  | ret => exact ⟨_, _, rfl, by simp⟩
  | send => exact ⟨_, _, rfl, by simp⟩
  | super => exact ⟨_, _, rfl, by simp⟩
  | casc => exact ⟨_, _, rfl, by simp⟩
  | block => exact ⟨_, _, rfl, by simp⟩
  | meth => exact ⟨_, _, rfl, by simp⟩
theorem WkL.heads {n k : Nat} {b : List Str} : ∀ {ds : List PyData} {a d : List Str} {cn : List BD} {c : Nat}, WkL n b k ds a d cn c → ∀ x ∈ ds, ∃ z r, x = .tuple (.str z :: r) ∧ z ∈ [kI, kS, kY, kA, kV, kSet, kSend, kSuper, kCasc, kBlock, kRet, kMeth]
  | [], _, _, _, _, .nil, x, hx => by cases hx
  | _ :: _, _, _, _, _, .cons h t, x, hx => by
    rcases List.mem_cons.mp hx with e | hx
    · rw [e]; exact h.head
    · exact t.heads x hx
section
variable {P : Program} {w : World} {K : PySem.W.Frag} {mg : Str → Option Value} {base : Heap}
theorem sc_law_walk : FnScope ["_law_root", "_law_around", "_law_depth", "_law_found", "_law_rows", "_law_selector_here", "_law_trees", "_law_one"] ["_law_root", "_law_around", "_law_depth", "_law_found"] (defScope s_law_walk) := ⟨rfl, rfl, rfl, by decide +kernel, rfl, by decide +kernel, by decide +kernel⟩
theorem ok_walk {f : Addr} {fd : FuncData} {kk n : Nat} (F : FnP K "_law_walk" s_law_walk f fd) (G_law_walk : FnOk P w K mg base CX0 kk f fd ["_law_root", "_law_around", "_law_depth", "_law_found"] (spWalk K n)) (g_law_walk : mg "_law_walk" = some (.ref f)) (k_law_walk : PySem.W.keepIn K (.ref f) = true) (b_law_walk : Binds K fd ["_law_root", "_law_around", "_law_depth", "_law_found"] [])
    (g_len : mg "len" = none) (g_list : mg "list" = none) :
    FnOk P w K mg base CX0 (kk + 1) f fd ["_law_root", "_law_around", "_law_depth", "_law_found"] (spWalk K (n + 1)) := by
  refine F.ok sc_law_walk (fun vs H Q E h => ?_) (fun cdv A outer s H vs Q E hr h => ⟨_, PSs.nox
    (pss_cons (ps_asg (pe_op op_add (pe_ix ix_list (pv 3) pe_int (fun _ _ => rfl)) pe_int) (pg_sub (pv 3) pe_int set_list))
      (pss_cons (ps_if (pt_cmpR op_in_seq (pe_ix ix_tup (pv 0) pe_int (fun _ _ => rfl)) (pe_tup (pa_cons pe_str (pa_cons pe_str pa_nil))) (by rfl)) (pss_cons (ps_if (pt_cmpR op_eq (pe_ix ix_tup (pv 0) pe_int (fun _ _ => rfl)) pe_str (nomark _)) (pss_cons (ps_expr (pe_bm PySem.F.plainAttrs_list PySem.F.slot_list_append PySem.F.type_list_append mt_append (pe_ix ix_list (pv 3) pe_int (fun _ _ => rfl)) (pa_cons (pe_tup (pa_cons (pv 2) (pa_cons (pe_callB call_len (by rfl) g_len PySem.boot_len (pa_cons (pe_ix ix_tup (pv 0) pe_int (fun _ _ => rfl)) pa_nil)) (pa_cons (pe_cmpR (op_eqD hr.units) (pe_lc (own := [("_law_one", 7)]) rfl sc_law_walk.nd (pi_tup (pe_slice sl_tupA (pe_ix ix_tup (pv 0) pe_int (fun _ _ => rfl)) (po_some (pe_un un_neg pe_int)) po_none)) (blkOk_by (own := [("_law_one", 7)]) (N := ["_law_root", "_law_around", "_law_depth", "_law_found", "_law_rows", "_law_selector_here", "_law_trees", "_law_one"]) (sc := defScope s_law_walk) (by decide +kernel)) (fun _ _ _ _ _ => by (exact (pg_name (i := 7) sc_law_walk.nd rfl (Or.inl rfl)))) (fun _ _ _ _ _ => by exact pts_nil) (fun _ _ _ _ _ => by exact (pe_ix (ix_tupK (K := K) rfl) (pv 7) pe_int (fun _ _ => rfl)))) (pe_lst (pa_cons pe_str pa_nil)) (nomark _)) pa_nil)))) pa_nil)))
      (pss_one (ps_set (i := 2) sc_law_walk.nd rfl (Or.inl rfl) (pe_op op_add (pv 2) pe_int)))) pss_nil)
      (pss_one (ps_set (i := 1) sc_law_walk.nd rfl (Or.inl rfl) (pe_op op_cat (pe_op op_cat (pv 1) (pe_callTy call_list_of (by rfl) g_list (by decide +kernel) (pa_cons (pe_ix ix_tup (pv 0) (pe_un un_neg pe_int) (fun _ _ => rfl)) pa_nil))) (pe_callTy call_list_of (by rfl) g_list (by decide +kernel) (pa_cons (pe_ix ix_tup (pv 0) (pe_un un_neg pe_int) (fun _ _ => rfl)) pa_nil)))))) pss_nil)
      (pss_cons (ps_if (PW.pt (pw_and (pt_cmpR op_in_seq (pe_ix ix_tup (pv 0) pe_int (fun _ _ => rfl)) (pe_tup (pa_cons pe_str (pa_cons pe_str pa_nil))) (by rfl)) (pw_and1 (pt_cmpR op_notIn_seq (pe_ix ix_tup (pv 0) pe_int (fun _ _ => rfl)) (pe_op op_cat (pv 1) (pe_lst (pa_cons pe_str (pa_cons pe_str (pa_cons pe_str (pa_cons pe_str pa_nil)))))) (by rfl))))) (pss_one (ps_expr (pe_bm PySem.F.plainAttrs_list PySem.F.slot_list_append PySem.F.type_list_append mt_append (pe_ix ix_list (pv 3) pe_int (fun _ _ => rfl)) (pa_cons (pe_ix ix_tup (pv 0) pe_int (fun _ _ => rfl)) pa_nil)))) pss_nil)
      (pss_cons (ps_if (pt_cmpR op_in_seq (pe_ix ix_tup (pv 0) pe_int (fun _ _ => rfl)) (pe_tup (pa_cons pe_str (pa_cons pe_str pa_nil))) (by rfl)) (pss_one (ps_expr (pe_call G_law_walk (hr.mono (Nat.le_refl _)) rfl g_law_walk k_law_walk b_law_walk .nil pass0 (pa_cons (pe_ix ix_tup (pv 0) pe_int (fun _ _ => rfl)) (pa_cons (pv 1) (pa_cons (pv 2) (pa_cons (pv 3) pa_nil))))))) pss_nil)
      (pss_cons (ps_set (i := 4) sc_law_walk.nd rfl (Or.inl rfl) (pe_ifExp (pt_cmpR op_in_seq (pe_ix ix_tup (pv 0) pe_int (fun _ _ => rfl)) (pe_tup (pa_cons pe_str (pa_cons pe_str pa_nil))) (by rfl)) (pe_lst (pa_cons (pe_slice sl_tupA (pv 0) (po_some (pe_un un_neg pe_int)) po_none) pa_nil)) (pe_lst pa_nil)))
      (pss_cons (ps_if (pt_cmpR op_eq (pe_ix ix_tup (pv 0) pe_int (fun _ _ => rfl)) pe_str (nomark _)) (pss_one (ps_set (i := 4) sc_law_walk.nd rfl (Or.inl rfl) (pe_callTy call_list_of (by rfl) g_list (by decide +kernel) (pa_cons (pe_ix ix_tup (pv 0) pe_int (fun _ _ => rfl)) pa_nil)))) pss_nil)
      (pss_cons (ps_for PassesOwn.never rfl (pi_list (pv 4)) (pg_tup rfl (pgs_cons (pg_name (i := 5) sc_law_walk.nd rfl (Or.inl rfl)) (pgs_cons (pg_name (i := 6) sc_law_walk.nd rfl (Or.inl rfl)) pgs_nil))) (pss_cons (ps_expr (pe_bm PySem.F.plainAttrs_list PySem.F.slot_list_append PySem.F.type_list_append mt_append (pe_ix ix_list (pv 3) pe_int (fun _ _ => rfl)) (pa_cons (pv 5) pa_nil)))
      (pss_one (ps_for PassesOwn.never rfl (pi_tup (pv 6)) (pg_name (i := 7) sc_law_walk.nd rfl (Or.inl rfl)) (pss_one (ps_expr (pe_call G_law_walk (hr.mono (Nat.le_refl _)) rfl g_law_walk k_law_walk b_law_walk .nil pass0 (pa_cons (pv 7) (pa_cons (pv 1) (pa_cons (pv 2) (pa_cons (pv 3) pa_nil)))))))))))
      (pss_cons (ps_if (pt_cmpR op_in_seq (pe_ix ix_tup (pv 0) pe_int (fun _ _ => rfl)) (pe_tup (pa_cons pe_str (pa_cons pe_str pa_nil))) (by rfl)) (pss_one (ps_expr (pe_call G_law_walk (hr.mono (Nat.le_refl _)) rfl g_law_walk k_law_walk b_law_walk .nil pass0 (pa_cons (pe_ix ix_tup (pv 0) (pe_un un_neg pe_int) (fun _ _ => rfl)) (pa_cons (pv 1) (pa_cons (pv 2) (pa_cons (pv 3) pa_nil))))))) pss_nil)
      (pss_one (ps_if (pt_cmpR op_in_seq (pe_ix ix_tup (pv 0) pe_int (fun _ _ => rfl)) (pe_tup (pa_cons pe_str (pa_cons pe_str (pa_cons pe_str pa_nil)))) (by rfl)) (pss_one (ps_for PassesOwn.never rfl (pi_tup (pe_ix ix_tup (pv 0) (pe_un un_neg pe_int) (fun _ _ => rfl))) (pg_name (i := 7) sc_law_walk.nd rfl (Or.inl rfl)) (pss_one (ps_expr (pe_call G_law_walk (hr.mono (Nat.le_refl _)) rfl g_law_walk k_law_walk b_law_walk .nil pass0 (pa_cons (pv 7) (pa_cons (pv 1) (pa_cons (pv 2) (pa_cons (pv 3) pa_nil))))))))) pss_nil)))))))))), ?_⟩)
  · obtain ⟨v, ar, fo, A1, B, C, k, d, b, an, bn, a, b', cv, cn, q, c, rfl, _⟩ := h
    rfl
  obtain ⟨v, ar, fo, A1, B, C, k, d, b, an, bn, a, b', cv, cn, q, c, rfl, hd, hN, hW, har, hout, hF, z1, z2, z3, z4, Qq⟩ := h
  refine rest5 (fun σ' H' => ∃ (ar1 R : Addr) (k1 : Nat) (b1 : List Str) (ms : List (Str × List PyData)) (xs : List V) (x5 x6 x7 : Option V) (a1 d1 : List Str) (n1 : List BD) (c1 : Nat) (a2 d2 : List Str) (n2 : List BD) (c2 : Nat) (a3 d3 : List Str) (n3 : List BD) (c3 : Nat), σ' = [some v, some (.ref ar1), some (.int (k1 : Int)), some (.ref fo), some (.ref R), x5, x6, x7] ∧ WkM n b1 k1 ms a2 d2 n2 c2 ∧ Fin n b1 k1 d a3 d3 n3 c3 ∧ a = (a1 ++ a2) ++ a3 ∧ b' = (d1 ++ d2) ++ d3 ∧ cn = (n1 ++ n2) ++ n3 ∧ c = (c1 + c2) + c3 ∧ St K fo A1 B C an bn cv q H a1 d1 n1 c1 H' ∧ H' ar1 = some (.lst (b1.map V.str)) ∧ Out fo A1 B C ar1 ∧ b1.length + 8 * n ≤ 1000 ∧ H' R = some (.lst xs) ∧ Out fo A1 B C R ∧ DpAll K H' xs (ms.map msgD) ∧ (∀ x ∈ ms.map msgD, NoL x) ∧ Dp K H' v d) ?tail (fun rest => ?main)
  case main =>
    dsimp only [tSeq]
    refine ⟨_, rfl, fo, _, _, _, rfl, rfl, SqL.of hF.ff, rfl, _, _, rfl, rfl, _, rfl, fo, _, _, 3, rfl, rfl, hF.ff, rfl, ?_⟩
    have F1 := hF.inc
    have Fr1 : Fr fo A1 B C H (upd H fo (.lst [.ref A1, .ref B, .ref C, .int ((q + 1 : Nat) : Int)])) := Fr.set (.inl rfl)
    have hd1 := dp_lists (hF.lists Fr1) hN hd
    have har1 := Fr1 _ _ hout har
    dsimp only [List.set]
    rw [show ((q : Int) + 1) = ((q + 1 : Nat) : Int) from rfl]
    generalize upd H fo (.lst [.ref A1, .ref B, .ref C, .int ((q + 1 : Nat) : Int)]) = H1 at F1 Fr1 hd1 har1 ⊢
    have S1 : St K fo A1 B C an bn cv q H [] [] [] 1 H1 := ⟨[], by rw [List.append_nil, List.append_nil, List.append_nil]; exact F1, .nil, Fr1⟩
    have zb : b.length + 8 * n ≤ 1000 := by omega
    obtain ⟨a0, ys, rfl, hTT, hAA⟩ : ∃ a0 ys, v = .ref a0 ∧ SqT K H1 a0 ys ∧ ∀ ds, d = .tuple ds → DpAll K H1 ys ds := by
      obtain ⟨z, r, rfl, _⟩ := hW.head
      obtain ⟨a0, ys, rfl, h1, h2⟩ := dp_tup hd1
      exact ⟨a0, ys, rfl, h1, fun ds e => by injection e with e; subst e; exact h2⟩
    cases hW with
    | leaf hz =>
      simp only [List.mem_cons, List.not_mem_nil, or_false] at hz
      rcases hz with rfl | rfl | rfl
      · have hA := hAA _ rfl
        cases hA with | cons g0 hA1 =>
        obtain rfl := dp_str g0
        refine skip_if (EvT.to (evt_test (e_h2 rfl hTT rfl)) (by decide +kernel)) (Same.refl H1) (fun G1 t1 => ?_)
        try dsimp only [tSeq]
        refine skip_if (EvT.to (evt_and (y := true) (evt_test (e_h2 rfl hTT rfl)) (fun h => absurd h (by decide +kernel))) (by decide +kernel)) t1 (fun G2 t2 => ?_)
        try dsimp only [tSeq]
        refine skip_if (EvT.to (evt_test (e_h2 rfl hTT rfl)) (by decide +kernel)) t2 (fun G3 t3 => ?_)
        try dsimp only [tSeq]
        refine asg_else (EvT.to (evt_test (e_h2 rfl hTT rfl)) (by decide +kernel)) t3 (fun G4 t4 => ?_)
        refine ⟨(by show 0 ≤ sizeLine; decide), fun R nR => ?_⟩
        have tR := t4.trans (same_upd (o := HO.lst []) nR)
        have hR : (upd G4 R (.lst [])) R = some (.lst []) := upd_same
        have nR1 := t4.free nR
        generalize upd G4 R (.lst []) = GR at tR hR ⊢
        dsimp only [gName, tSeq]
        have TR := SqT.mono tR hTT
        refine skip_if (EvT.to (evt_test (e_h1 rfl TR rfl)) (by decide +kernel)) (Same.refl GR) (fun G5 t5 => ?_)
        try dsimp only [tSeq]
        exact rest _ _ ⟨ar, R, k, b, [], [], _, _, _, _, _, _, _, [], [], [], 0, _, _, _, _, rfl, .nil, (.none (by simp)), by simp, by simp, by simp, by omega, ((S1).same tR).same t5, t5 _ _ (tR _ _ har1), hout, zb, t5 _ _ hR, (F1).out nR1, .nil, (fun x hx => by cases hx), dp_mono (tR.trans t5) _ _ hd1⟩
      · have hA := hAA _ rfl
        cases hA with | cons g0 hA1 =>
        obtain rfl := dp_str g0
        refine skip_if (EvT.to (evt_test (e_h2 rfl hTT rfl)) (by decide +kernel)) (Same.refl H1) (fun G1 t1 => ?_)
        try dsimp only [tSeq]
        refine skip_if (EvT.to (evt_and (y := true) (evt_test (e_h2 rfl hTT rfl)) (fun h => absurd h (by decide +kernel))) (by decide +kernel)) t1 (fun G2 t2 => ?_)
        try dsimp only [tSeq]
        refine skip_if (EvT.to (evt_test (e_h2 rfl hTT rfl)) (by decide +kernel)) t2 (fun G3 t3 => ?_)
        try dsimp only [tSeq]
        refine asg_else (EvT.to (evt_test (e_h2 rfl hTT rfl)) (by decide +kernel)) t3 (fun G4 t4 => ?_)
        refine ⟨(by show 0 ≤ sizeLine; decide), fun R nR => ?_⟩
        have tR := t4.trans (same_upd (o := HO.lst []) nR)
        have hR : (upd G4 R (.lst [])) R = some (.lst []) := upd_same
        have nR1 := t4.free nR
        generalize upd G4 R (.lst []) = GR at tR hR ⊢
        dsimp only [gName, tSeq]
        have TR := SqT.mono tR hTT
        refine skip_if (EvT.to (evt_test (e_h1 rfl TR rfl)) (by decide +kernel)) (Same.refl GR) (fun G5 t5 => ?_)
        try dsimp only [tSeq]
        exact rest _ _ ⟨ar, R, k, b, [], [], _, _, _, _, _, _, _, [], [], [], 0, _, _, _, _, rfl, .nil, (.none (by simp)), by simp, by simp, by simp, by omega, ((S1).same tR).same t5, t5 _ _ (tR _ _ har1), hout, zb, t5 _ _ hR, (F1).out nR1, .nil, (fun x hx => by cases hx), dp_mono (tR.trans t5) _ _ hd1⟩
      · have hA := hAA _ rfl
        cases hA with | cons g0 hA1 =>
        obtain rfl := dp_str g0
        refine skip_if (EvT.to (evt_test (e_h2 rfl hTT rfl)) (by decide +kernel)) (Same.refl H1) (fun G1 t1 => ?_)
        try dsimp only [tSeq]
        refine skip_if (EvT.to (evt_and (y := true) (evt_test (e_h2 rfl hTT rfl)) (fun h => absurd h (by decide +kernel))) (by decide +kernel)) t1 (fun G2 t2 => ?_)
        try dsimp only [tSeq]
        refine skip_if (EvT.to (evt_test (e_h2 rfl hTT rfl)) (by decide +kernel)) t2 (fun G3 t3 => ?_)
        try dsimp only [tSeq]
        refine asg_else (EvT.to (evt_test (e_h2 rfl hTT rfl)) (by decide +kernel)) t3 (fun G4 t4 => ?_)
        refine ⟨(by show 0 ≤ sizeLine; decide), fun R nR => ?_⟩
        have tR := t4.trans (same_upd (o := HO.lst []) nR)
        have hR : (upd G4 R (.lst [])) R = some (.lst []) := upd_same
        have nR1 := t4.free nR
        generalize upd G4 R (.lst []) = GR at tR hR ⊢
        dsimp only [gName, tSeq]
        have TR := SqT.mono tR hTT
        refine skip_if (EvT.to (evt_test (e_h1 rfl TR rfl)) (by decide +kernel)) (Same.refl GR) (fun G5 t5 => ?_)
        try dsimp only [tSeq]
        exact rest _ _ ⟨ar, R, k, b, [], [], _, _, _, _, _, _, _, [], [], [], 0, _, _, _, _, rfl, .nil, (.none (by simp)), by simp, by simp, by simp, by omega, ((S1).same tR).same t5, t5 _ _ (tR _ _ har1), hout, zb, t5 _ _ hR, (F1).out nR1, .nil, (fun x hx => by cases hx), dp_mono (tR.trans t5) _ _ hd1⟩
    | arr hw =>
      have hA := hAA _ rfl
      cases hA with | cons g0 hA1 =>
      obtain rfl := dp_str g0
      refine skip_if (EvT.to (evt_test (e_h2 rfl hTT rfl)) (by decide +kernel)) (Same.refl H1) (fun G1 t1 => ?_)
      try dsimp only [tSeq]
      refine skip_if (EvT.to (evt_and (y := true) (evt_test (e_h2 rfl hTT rfl)) (fun h => absurd h (by decide +kernel))) (by decide +kernel)) t1 (fun G2 t2 => ?_)
      try dsimp only [tSeq]
      refine skip_if (EvT.to (evt_test (e_h2 rfl hTT rfl)) (by decide +kernel)) t2 (fun G3 t3 => ?_)
      try dsimp only [tSeq]
      refine asg_else (EvT.to (evt_test (e_h2 rfl hTT rfl)) (by decide +kernel)) t3 (fun G4 t4 => ?_)
      refine ⟨(by show 0 ≤ sizeLine; decide), fun R nR => ?_⟩
      have tR := t4.trans (same_upd (o := HO.lst []) nR)
      have hR : (upd G4 R (.lst [])) R = some (.lst []) := upd_same
      have nR1 := t4.free nR
      generalize upd G4 R (.lst []) = GR at tR hR ⊢
      dsimp only [gName, tSeq]
      have TR := SqT.mono tR hTT
      refine skip_if (EvT.to (evt_test (e_h1 rfl TR rfl)) (by decide +kernel)) (Same.refl GR) (fun G5 t5 => ?_)
      try dsimp only [tSeq]
      exact rest _ _ ⟨ar, R, k, b, [], [], _, _, _, _, _, _, _, [], [], [], 0, _, _, _, _, rfl, .nil, (.kids (r := []) (by simp) hw), by simp, by simp, by simp, by omega, ((S1).same tR).same t5, t5 _ _ (tR _ _ har1), hout, zb, t5 _ _ hR, (F1).out nR1, .nil, (fun x hx => by cases hx), dp_mono (tR.trans t5) _ _ hd1⟩
    | ret hw =>
      have hA := hAA _ rfl
      cases hA with | cons g0 hA1 =>
      obtain rfl := dp_str g0
      refine skip_if (EvT.to (evt_test (e_h2 rfl hTT rfl)) (by decide +kernel)) (Same.refl H1) (fun G1 t1 => ?_)
      try dsimp only [tSeq]
      refine skip_if (EvT.to (evt_and (y := true) (evt_test (e_h2 rfl hTT rfl)) (fun h => absurd h (by decide +kernel))) (by decide +kernel)) t1 (fun G2 t2 => ?_)
      try dsimp only [tSeq]
      refine skip_if (EvT.to (evt_test (e_h2 rfl hTT rfl)) (by decide +kernel)) t2 (fun G3 t3 => ?_)
      try dsimp only [tSeq]
      refine asg_else (EvT.to (evt_test (e_h2 rfl hTT rfl)) (by decide +kernel)) t3 (fun G4 t4 => ?_)
      refine ⟨(by show 0 ≤ sizeLine; decide), fun R nR => ?_⟩
      have tR := t4.trans (same_upd (o := HO.lst []) nR)
      have hR : (upd G4 R (.lst [])) R = some (.lst []) := upd_same
      have nR1 := t4.free nR
      generalize upd G4 R (.lst []) = GR at tR hR ⊢
      dsimp only [gName, tSeq]
      have TR := SqT.mono tR hTT
      refine skip_if (EvT.to (evt_test (e_h1 rfl TR rfl)) (by decide +kernel)) (Same.refl GR) (fun G5 t5 => ?_)
      try dsimp only [tSeq]
      exact rest _ _ ⟨ar, R, k, b, [], [], _, _, _, _, _, _, _, [], [], [], 0, _, _, _, _, rfl, .nil, (.kid (r := []) (by simp) hw), by simp, by simp, by simp, by omega, ((S1).same tR).same t5, t5 _ _ (tR _ _ har1), hout, zb, t5 _ _ hR, (F1).out nR1, .nil, (fun x hx => by cases hx), dp_mono (tR.trans t5) _ _ hd1⟩
    | @var _ _ _ z =>
      have hA := hAA _ rfl
      cases hA with | cons g0 hA1 =>
      obtain rfl := dp_str g0
      cases hA1 with | cons g1 hA2 =>
      obtain rfl := dp_str g1
      refine skip_if (EvT.to (evt_test (e_h2 rfl hTT rfl)) (by decide +kernel)) (Same.refl H1) (fun G1 t1 => ?_)
      try dsimp only [tSeq]
      have e4 : b.map V.str ++ [V.str "self", .str "nil", .str "true", .str "false"] = (b ++ fourS).map V.str := by rw [List.map_append]; rfl
      refine if_ev (H0 := H1) (b := (inV (.str _) [.str kV, .str kSet] && !(b ++ fourS).contains z)) (evt_and (evt_test (e_h2 rfl hTT rfl)) fun _ => evt_test fun H' Q hs kq => ⟨_, rfl, a0, _, 1, _, rfl, rfl, SqT.mono hs hTT, atI_nat rfl, _, rfl, (by show 4 ≤ sizeLine; decide), fun l nl => ⟨ar, l, _, _, rfl, rfl, same_upd nl _ _ (hs _ _ har1), upd_same, Nat.le_trans (show (b.map V.str).length + 4 ≤ 2000 by rw [List.length_map]; omega) (by decide), fun p np => ⟨p, _, rfl, .inl (SqL.of (by rw [upd_same, e4])), rfl, flat_strsL _, by have k2 := kq _ ((hs.trans (same_upd nl)).trans (same_upd (o := HO.lst (b.map V.str ++ [V.str "self", .str "nil", .str "true", .str "false"])) np)); rw [← inV_strs] at k2; exact k2⟩⟩⟩) t1 (fun ht Gx tx => ?_) (fun ht Gx tx => ?_)
      · rw [Bool.and_eq_true, Bool.not_eq_true'] at ht
        have Fx := F1.same tx
        refine ⟨_, rfl, fo, _, _, _, rfl, rfl, SqL.of Fx.ff, rfl, .inl ⟨rfl, _, SqL.of Fx.a⟩, _, rfl, a0, _, 1, _, rfl, rfl, SqT.mono tx hTT, atI_nat rfl, A1, _, .str z, rfl, rfl, Fx.a, Nat.lt_of_le_of_lt (show (an.map V.str).length ≤ 100000 by rw [List.length_map]; omega) (by decide), ?_⟩
        have F2 := Fx.addA z
        have Fr2 : Fr fo A1 B C Gx (upd Gx A1 (.lst (an.map V.str ++ [.str z]))) := Fr.set (.inr (.inl rfl))
        have T2 := sqt_lists (Fx.lists Fr2) (SqT.mono tx hTT)
        have hd2 := dp_lists (Fx.lists Fr2) hN (dp_mono tx _ _ hd1)
        have har2 := Fr2 _ _ hout (tx _ _ har1)
        have S2 : St K fo A1 B C an bn cv q H [z] [] [] 1 (upd Gx A1 (.lst (an.map V.str ++ [.str z]))) := ⟨[], by rw [List.append_nil, List.append_nil]; exact F2, .nil, (Fr1.trans (.of tx)).trans Fr2⟩
        have hnew : newN b z = [z] := by unfold newN; rw [ht.2]; rfl
        generalize upd Gx A1 (.lst (an.map V.str ++ [.str z])) = H2 at F2 T2 hd2 har2 S2 ⊢
        dsimp only [tSeq]
        refine skip_if (EvT.to (evt_test (e_h2 rfl T2 rfl)) (by decide +kernel)) (Same.refl H2) (fun G2 t2 => ?_)
        try dsimp only [tSeq]
        refine asg_else (EvT.to (evt_test (e_h2 rfl T2 rfl)) (by decide +kernel)) t2 (fun G3 t3 => ?_)
        refine ⟨(by show 0 ≤ sizeLine; decide), fun R nR => ?_⟩
        have tR := t3.trans (same_upd (o := HO.lst []) nR)
        have hR : (upd G3 R (.lst [])) R = some (.lst []) := upd_same
        have nR1 := t3.free nR
        generalize upd G3 R (.lst []) = GR at tR hR ⊢
        dsimp only [gName, tSeq]
        have TR := SqT.mono tR T2
        refine skip_if (EvT.to (evt_test (e_h1 rfl TR rfl)) (by decide +kernel)) (Same.refl GR) (fun G4 t4 => ?_)
        try dsimp only [tSeq]
        exact rest _ _ ⟨ar, R, k, b, [], [], _, _, _, _, _, _, _, [], [], [], 0, _, _, _, _, rfl, .nil, (.none (by simp)), by rw [hnew]; simp, by simp, by simp, by omega, ((S2).same tR).same t4, t4 _ _ (tR _ _ har2), hout, zb, t4 _ _ hR, (F2).out nR1, .nil, (fun x hx => by cases hx), dp_mono (tR.trans t4) _ _ hd2⟩
      · have hnew : newN b z = [] := by
          unfold newN
          rw [show inV (.str _) [.str kV, .str kSet] = true by decide +kernel, Bool.true_and, Bool.not_eq_false'] at ht
          rw [if_pos ht]
        have dum := tx
        dsimp only [tNext, tSeq]
        refine skip_if (EvT.to (evt_test (e_h2 rfl hTT rfl)) (by decide +kernel)) tx (fun G5 t5 => ?_)
        try dsimp only [tSeq]
        refine asg_else (EvT.to (evt_test (e_h2 rfl hTT rfl)) (by decide +kernel)) t5 (fun G6 t6 => ?_)
        refine ⟨(by show 0 ≤ sizeLine; decide), fun R nR => ?_⟩
        have tR := t6.trans (same_upd (o := HO.lst []) nR)
        have hR : (upd G6 R (.lst [])) R = some (.lst []) := upd_same
        have nR1 := t6.free nR
        generalize upd G6 R (.lst []) = GR at tR hR ⊢
        dsimp only [gName, tSeq]
        have TR := SqT.mono tR hTT
        refine skip_if (EvT.to (evt_test (e_h1 rfl TR rfl)) (by decide +kernel)) (Same.refl GR) (fun G7 t7 => ?_)
        try dsimp only [tSeq]
        exact rest _ _ ⟨ar, R, k, b, [], [], _, _, _, _, _, _, _, [], [], [], 0, _, _, _, _, rfl, .nil, (.none (by simp)), by rw [hnew]; simp, by simp, by simp, by omega, ((S1).same tR).same t7, t7 _ _ (tR _ _ har1), hout, zb, t7 _ _ hR, (F1).out nR1, .nil, (fun x hx => by cases hx), dp_mono (tR.trans t7) _ _ hd1⟩
    | @set _ _ _ _ _ _ _ z _ hw =>
      have hA := hAA _ rfl
      cases hA with | cons g0 hA1 =>
      obtain rfl := dp_str g0
      cases hA1 with | cons g1 hA2 =>
      obtain rfl := dp_str g1
      refine skip_if (EvT.to (evt_test (e_h2 rfl hTT rfl)) (by decide +kernel)) (Same.refl H1) (fun G1 t1 => ?_)
      try dsimp only [tSeq]
      have e4 : b.map V.str ++ [V.str "self", .str "nil", .str "true", .str "false"] = (b ++ fourS).map V.str := by rw [List.map_append]; rfl
      refine if_ev (H0 := H1) (b := (inV (.str _) [.str kV, .str kSet] && !(b ++ fourS).contains z)) (evt_and (evt_test (e_h2 rfl hTT rfl)) fun _ => evt_test fun H' Q hs kq => ⟨_, rfl, a0, _, 1, _, rfl, rfl, SqT.mono hs hTT, atI_nat rfl, _, rfl, (by show 4 ≤ sizeLine; decide), fun l nl => ⟨ar, l, _, _, rfl, rfl, same_upd nl _ _ (hs _ _ har1), upd_same, Nat.le_trans (show (b.map V.str).length + 4 ≤ 2000 by rw [List.length_map]; omega) (by decide), fun p np => ⟨p, _, rfl, .inl (SqL.of (by rw [upd_same, e4])), rfl, flat_strsL _, by have k2 := kq _ ((hs.trans (same_upd nl)).trans (same_upd (o := HO.lst (b.map V.str ++ [V.str "self", .str "nil", .str "true", .str "false"])) np)); rw [← inV_strs] at k2; exact k2⟩⟩⟩) t1 (fun ht Gx tx => ?_) (fun ht Gx tx => ?_)
      · rw [Bool.and_eq_true, Bool.not_eq_true'] at ht
        have Fx := F1.same tx
        refine ⟨_, rfl, fo, _, _, _, rfl, rfl, SqL.of Fx.ff, rfl, .inl ⟨rfl, _, SqL.of Fx.a⟩, _, rfl, a0, _, 1, _, rfl, rfl, SqT.mono tx hTT, atI_nat rfl, A1, _, .str z, rfl, rfl, Fx.a, Nat.lt_of_le_of_lt (show (an.map V.str).length ≤ 100000 by rw [List.length_map]; omega) (by decide), ?_⟩
        have F2 := Fx.addA z
        have Fr2 : Fr fo A1 B C Gx (upd Gx A1 (.lst (an.map V.str ++ [.str z]))) := Fr.set (.inr (.inl rfl))
        have T2 := sqt_lists (Fx.lists Fr2) (SqT.mono tx hTT)
        have hd2 := dp_lists (Fx.lists Fr2) hN (dp_mono tx _ _ hd1)
        have har2 := Fr2 _ _ hout (tx _ _ har1)
        have S2 : St K fo A1 B C an bn cv q H [z] [] [] 1 (upd Gx A1 (.lst (an.map V.str ++ [.str z]))) := ⟨[], by rw [List.append_nil, List.append_nil]; exact F2, .nil, (Fr1.trans (.of tx)).trans Fr2⟩
        have hnew : newN b z = [z] := by unfold newN; rw [ht.2]; rfl
        generalize upd Gx A1 (.lst (an.map V.str ++ [.str z])) = H2 at F2 T2 hd2 har2 S2 ⊢
        dsimp only [tSeq]
        refine skip_if (EvT.to (evt_test (e_h2 rfl T2 rfl)) (by decide +kernel)) (Same.refl H2) (fun G2 t2 => ?_)
        try dsimp only [tSeq]
        refine asg_else (EvT.to (evt_test (e_h2 rfl T2 rfl)) (by decide +kernel)) t2 (fun G3 t3 => ?_)
        refine ⟨(by show 0 ≤ sizeLine; decide), fun R nR => ?_⟩
        have tR := t3.trans (same_upd (o := HO.lst []) nR)
        have hR : (upd G3 R (.lst [])) R = some (.lst []) := upd_same
        have nR1 := t3.free nR
        generalize upd G3 R (.lst []) = GR at tR hR ⊢
        dsimp only [gName, tSeq]
        have TR := SqT.mono tR T2
        refine skip_if (EvT.to (evt_test (e_h1 rfl TR rfl)) (by decide +kernel)) (Same.refl GR) (fun G4 t4 => ?_)
        try dsimp only [tSeq]
        exact rest _ _ ⟨ar, R, k, b, [], [], _, _, _, _, _, _, _, [], [], [], 0, _, _, _, _, rfl, .nil, (.kid (r := [.str z]) (by simp) hw), by rw [hnew]; simp, by simp, by simp, by omega, ((S2).same tR).same t4, t4 _ _ (tR _ _ har2), hout, zb, t4 _ _ hR, (F2).out nR1, .nil, (fun x hx => by cases hx), dp_mono (tR.trans t4) _ _ hd2⟩
      · have hnew : newN b z = [] := by
          unfold newN
          rw [show inV (.str _) [.str kV, .str kSet] = true by decide +kernel, Bool.true_and, Bool.not_eq_false'] at ht
          rw [if_pos ht]
        have dum := tx
        dsimp only [tNext, tSeq]
        refine skip_if (EvT.to (evt_test (e_h2 rfl hTT rfl)) (by decide +kernel)) tx (fun G5 t5 => ?_)
        try dsimp only [tSeq]
        refine asg_else (EvT.to (evt_test (e_h2 rfl hTT rfl)) (by decide +kernel)) t5 (fun G6 t6 => ?_)
        refine ⟨(by show 0 ≤ sizeLine; decide), fun R nR => ?_⟩
        have tR := t6.trans (same_upd (o := HO.lst []) nR)
        have hR : (upd G6 R (.lst [])) R = some (.lst []) := upd_same
        have nR1 := t6.free nR
        generalize upd G6 R (.lst []) = GR at tR hR ⊢
        dsimp only [gName, tSeq]
        have TR := SqT.mono tR hTT
        refine skip_if (EvT.to (evt_test (e_h1 rfl TR rfl)) (by decide +kernel)) (Same.refl GR) (fun G7 t7 => ?_)
        try dsimp only [tSeq]
        exact rest _ _ ⟨ar, R, k, b, [], [], _, _, _, _, _, _, _, [], [], [], 0, _, _, _, _, rfl, .nil, (.kid (r := [.str z]) (by simp) hw), by rw [hnew]; simp, by simp, by simp, by omega, ((S1).same tR).same t7, t7 _ _ (tR _ _ har1), hout, zb, t7 _ _ hR, (F1).out nR1, .nil, (fun x hx => by cases hx), dp_mono (tR.trans t7) _ _ hd1⟩
    | @send _ _ c1 c2 _ e1 f1 e2 f2 n1 n2 s d0 ds hw1 hw2 =>
      have hA := hAA _ rfl
      cases hA with | cons g0 hA1 =>
      obtain rfl := dp_str g0
      cases hA1 with | cons g1 hA2 =>
      cases hA2 with | cons g2 hA3 =>
      obtain rfl := dp_str g2
      cases hA3 with | cons g3 hA4 =>
      cases hA4
      obtain ⟨bs, us, rfl, gs1, gs2⟩ := dp_tup g3
      refine skip_if (EvT.to (evt_test (e_h2 rfl hTT rfl)) (by decide +kernel)) (Same.refl H1) (fun G1 t1 => ?_)
      try dsimp only [tSeq]
      refine skip_if (EvT.to (evt_and (y := true) (evt_test (e_h2 rfl hTT rfl)) (fun h => absurd h (by decide +kernel))) (by decide +kernel)) t1 (fun G2 t2 => ?_)
      try dsimp only [tSeq]
      refine do_if (EvT.to (evt_test (e_h2 rfl hTT rfl)) (by decide +kernel)) t2 (fun G3 t3 => ?_)
      try dsimp only [tSeq]
      obtain ⟨ws1, f1, p1, r1⟩ := S1.same t3
      have hpl := paired_len p1
      simp only [List.length_append, List.length_cons, List.length_nil] at z1 z2 z3 hpl
      refine ⟨_, rfl, a0, _, 1, _, rfl, rfl, SqT.mono t3 hTT, atI_nat rfl, _, rfl, _, rfl, _, rfl, _, ar, fo, A1, B, C, k, _, b, an ++ [], bn ++ [], _, _, cv ++ ws1, _, q + 1, _, rfl, dp_mono t3 _ _ g1, noL_tup hN _ (by simp), hw1, t3 _ _ har1, hout, f1, by simp only [List.length_append, List.length_nil]; omega, by simp only [List.length_append, List.length_nil]; omega, by simp only [List.length_append]; omega, zb, fun H2 post => ?_⟩
      have S2 := St.join f1 p1 r1 post
      obtain ⟨_, F2, _, _⟩ := id S2
      have l2 := f1.lists post.fr
      have T2 := sqt_lists l2 (SqT.mono t3 hTT)
      have har2 := post.fr _ _ hout (t3 _ _ har1)
      have hd2 := dp_lists l2 hN (dp_mono t3 _ _ hd1)
      try dsimp only [tSeq]
      have g32 := dp_lists l2 (noL_tup hN _ (by simp)) (dp_mono t3 _ _ g3)
      refine asg_then (EvT.to (evt_test (e_h2 rfl T2 rfl)) (by decide +kernel)) (Same.refl H2) (fun G4 t4 => ?_)
      refine ⟨_, rfl, 2, rfl, _, rfl, nopart (rsl_of (SqT.mono t4 T2) fun cc Gc tc hc => ?_)⟩
      have hc : SqT K Gc cc [V.str s, .ref bs] := Eq.mp (congrArg (SqT K Gc cc) (cut_two [_, _] (zs := [V.str s, .ref bs]) rfl)) hc
      refine ⟨(by show 1 ≤ sizeLine; decide), fun R nR => ?_⟩
      have tR := (t4.trans tc).trans (same_upd (o := HO.lst [V.ref cc]) nR)
      have hR : (upd Gc R (.lst [V.ref cc])) R = some (.lst [V.ref cc]) := upd_same
      have hcc := SqT.mono (same_upd (o := HO.lst [V.ref cc]) nR) hc
      have nR1 := (t4.trans tc).free nR
      generalize upd Gc R (.lst [V.ref cc]) = GR at tR hR hcc ⊢
      dsimp only [gName, tSeq]
      have TR := SqT.mono tR T2
      refine skip_if (EvT.to (evt_test (e_h1 rfl TR rfl)) (by decide +kernel)) (Same.refl GR) (fun G5 t5 => ?_)
      try dsimp only [tSeq]
      have hms : DpAll K GR [V.ref cc] (([(s, ds)] : List (Str × List PyData)).map msgD) := .cons (Dp.tup hcc (.cons (.str _) (.cons (dp_mono tR _ _ g32) .nil))) .nil
      exact rest _ _ ⟨ar, R, k, b, [(s, ds)], [V.ref cc], _, _, _, _, _, _, _, _, _, _, _, _, _, _, _, rfl, (.cons hw2 .nil), (.none (by simp)), by simp, by simp, by simp, by omega, ((S2).same tR).same t5, t5 _ _ (tR _ _ har2), hout, zb, t5 _ _ hR, (F2).out nR1, dp_monoAll t5 _ _ hms, (fun x hx => by rw [List.mem_singleton.mp hx]; exact .tup (noL_cons (.str _) (noL_cons (noL_tup hN _ (by simp)) noL_nil))), dp_mono (tR.trans t5) _ _ hd2⟩
    | @super _ _ c2 _ e2 f2 n2 s ds hw2 =>
      have hA := hAA _ rfl
      cases hA with | cons g0 hA1 =>
      obtain rfl := dp_str g0
      cases hA1 with | cons g2 hA3 =>
      obtain rfl := dp_str g2
      cases hA3 with | cons g3 hA4 =>
      cases hA4
      obtain ⟨bs, us, rfl, gs1, gs2⟩ := dp_tup g3
      refine skip_if (EvT.to (evt_test (e_h2 rfl hTT rfl)) (by decide +kernel)) (Same.refl H1) (fun G1 t1 => ?_)
      try dsimp only [tSeq]
      refine skip_if (EvT.to (evt_and (y := true) (evt_test (e_h2 rfl hTT rfl)) (fun h => absurd h (by decide +kernel))) (by decide +kernel)) t1 (fun G2 t2 => ?_)
      try dsimp only [tSeq]
      refine skip_if (EvT.to (evt_test (e_h2 rfl hTT rfl)) (by decide +kernel)) t2 (fun G3 t3 => ?_)
      try dsimp only [tSeq]
      refine asg_then (EvT.to (evt_test (e_h2 rfl hTT rfl)) (by decide +kernel)) t3 (fun G4 t4 => ?_)
      refine ⟨_, rfl, 2, rfl, _, rfl, nopart (rsl_of (SqT.mono t4 hTT) fun cc Gc tc hc => ?_)⟩
      have hc : SqT K Gc cc [V.str s, .ref bs] := Eq.mp (congrArg (SqT K Gc cc) (cut_two [_] (zs := [V.str s, .ref bs]) rfl)) hc
      refine ⟨(by show 1 ≤ sizeLine; decide), fun R nR => ?_⟩
      have tR := (t4.trans tc).trans (same_upd (o := HO.lst [V.ref cc]) nR)
      have hR : (upd Gc R (.lst [V.ref cc])) R = some (.lst [V.ref cc]) := upd_same
      have hcc := SqT.mono (same_upd (o := HO.lst [V.ref cc]) nR) hc
      have nR1 := (t4.trans tc).free nR
      generalize upd Gc R (.lst [V.ref cc]) = GR at tR hR hcc ⊢
      dsimp only [gName, tSeq]
      have TR := SqT.mono tR hTT
      refine skip_if (EvT.to (evt_test (e_h1 rfl TR rfl)) (by decide +kernel)) (Same.refl GR) (fun G5 t5 => ?_)
      try dsimp only [tSeq]
      have hms : DpAll K GR [V.ref cc] (([(s, ds)] : List (Str × List PyData)).map msgD) := .cons (Dp.tup hcc (.cons (.str _) (.cons (dp_mono tR _ _ g3) .nil))) .nil
      exact rest _ _ ⟨ar, R, k, b, [(s, ds)], [V.ref cc], _, _, _, _, _, _, _, _, _, _, _, _, _, _, _, rfl, (.cons hw2 .nil), (.none (by simp)), by simp, by simp, by simp, by omega, ((S1).same tR).same t5, t5 _ _ (tR _ _ har1), hout, zb, t5 _ _ hR, (F1).out nR1, dp_monoAll t5 _ _ hms, (fun x hx => by rw [List.mem_singleton.mp hx]; exact .tup (noL_cons (.str _) (noL_cons (noL_tup hN _ (by simp)) noL_nil))), dp_mono (tR.trans t5) _ _ hd1⟩
    | @casc _ _ c1 c2 _ e1 f1 e2 f2 n1 n2 d0 ms hw1 hw2 =>
      have hA := hAA _ rfl
      cases hA with | cons g0 hA1 =>
      obtain rfl := dp_str g0
      cases hA1 with | cons g1 hA2 =>
      cases hA2 with | cons g3 hA4 =>
      cases hA4
      obtain ⟨bs, us, rfl, gs1, gs2⟩ := dp_tup g3
      refine skip_if (EvT.to (evt_test (e_h2 rfl hTT rfl)) (by decide +kernel)) (Same.refl H1) (fun G1 t1 => ?_)
      try dsimp only [tSeq]
      refine skip_if (EvT.to (evt_and (y := true) (evt_test (e_h2 rfl hTT rfl)) (fun h => absurd h (by decide +kernel))) (by decide +kernel)) t1 (fun G2 t2 => ?_)
      try dsimp only [tSeq]
      refine do_if (EvT.to (evt_test (e_h2 rfl hTT rfl)) (by decide +kernel)) t2 (fun G3 t3 => ?_)
      try dsimp only [tSeq]
      obtain ⟨ws1, f1, p1, r1⟩ := S1.same t3
      have hpl := paired_len p1
      simp only [List.length_append, List.length_cons, List.length_nil] at z1 z2 z3 hpl
      refine ⟨_, rfl, a0, _, 1, _, rfl, rfl, SqT.mono t3 hTT, atI_nat rfl, _, rfl, _, rfl, _, rfl, _, ar, fo, A1, B, C, k, _, b, an ++ [], bn ++ [], _, _, cv ++ ws1, _, q + 1, _, rfl, dp_mono t3 _ _ g1, noL_tup hN _ (by simp), hw1, t3 _ _ har1, hout, f1, by simp only [List.length_append, List.length_nil]; omega, by simp only [List.length_append, List.length_nil]; omega, by simp only [List.length_append]; omega, zb, fun H2 post => ?_⟩
      have S2 := St.join f1 p1 r1 post
      obtain ⟨_, F2, _, _⟩ := id S2
      have l2 := f1.lists post.fr
      have T2 := sqt_lists l2 (SqT.mono t3 hTT)
      have har2 := post.fr _ _ hout (t3 _ _ har1)
      have hd2 := dp_lists l2 hN (dp_mono t3 _ _ hd1)
      try dsimp only [tSeq]
      have gs12 := sqt_lists l2 (SqT.mono t3 gs1)
      have gs22 := dpAll_lists l2 (noL_tup (noL_tup hN _ (by simp))) (dp_monoAll t3 _ _ gs2)
      refine asg_else (EvT.to (evt_test (e_h2 rfl T2 rfl)) (by decide +kernel)) (Same.refl H2) (fun G4 t4 => ?_)
      refine ⟨(by show 0 ≤ sizeLine; decide), fun R0 nR0 => ?_⟩
      have tR0 := t4.trans (same_upd (o := HO.lst []) nR0)
      generalize upd G4 R0 (.lst []) = GR at tR0 ⊢
      dsimp only [gName, tSeq]
      refine do_if (EvT.to (evt_test (e_h1 rfl T2 rfl)) (by decide +kernel)) tR0 (fun G5 t5 => ?_)
      try dsimp only [tSeq]
      refine ⟨_, rfl, a0, _, 2, _, rfl, rfl, SqT.mono t5 T2, atI_nat rfl, bs, _, rfl, .inr (SqT.mono t5 gs12), fun R nR => ?_⟩
      have tR := t5.trans (same_upd (o := HO.lst us) nR)
      have hR : (upd G5 R (.lst us)) R = some (.lst us) := upd_same
      have nR1 := t5.free nR
      exact rest _ _ ⟨ar, R, k, b, ms, us, _, _, _, _, _, _, _, _, _, _, _, _, _, _, _, rfl, hw2, .none (by simp), by simp, by simp, by simp, by omega, S2.same tR, tR _ _ har2, hout, zb, hR, F2.out nR1, dp_monoAll tR _ _ gs22, noL_tup (noL_tup hN _ (by simp)), dp_mono tR _ _ hd2⟩
    | @meth _ _ c1 s _ e1 f1 ps vs n1 ds hw hpl hvl =>
      have hA := hAA _ rfl
      cases hA with | cons g0 hA1 =>
      obtain rfl := dp_str g0
      cases hA1 with | cons g1 hA2 =>
      obtain rfl := dp_str g1
      cases hA2 with | cons g2 hA3 =>
      cases hA3 with | cons g3 hA4 =>
      cases hA4 with | cons g4 hA5 =>
      cases hA5
      obtain ⟨bp, rfl, gp⟩ := dp_strs g2
      obtain ⟨bv, rfl, gv⟩ := dp_strs g3
      obtain ⟨bs, us, rfl, gs1, gs2⟩ := dp_tup g4
      refine do_if (EvT.to (evt_test (e_h2 rfl hTT rfl)) (by decide +kernel)) (Same.refl H1) (fun G1 t1 => ?_)
      try dsimp only [tSeq]
      refine skip_if (EvT.to (evt_test (e_h1 rfl hTT rfl)) (by decide +kernel)) t1 (fun G2 t2 => ?_)
      try dsimp only [tSeq]
      refine ⟨_, rfl, _, rfl, _, rfl, a0, _, _, _, rfl, rfl, SqT.mono t2 hTT, rfl, bp, _, rfl, .inr (SqT.mono t2 gp), fun l1 nl1 => ?_⟩
      have u1 := t2.trans (same_upd (o := HO.lst (ps.map V.str)) nl1)
      refine ⟨ar, l1, _, _, rfl, rfl, u1 _ _ har1, upd_same, Nat.le_trans (show (b.map V.str).length + (ps.map V.str).length ≤ 2000 by rw [List.length_map, List.length_map]; omega) (by decide), fun p1 np1 => ?_⟩
      have hp1 : (upd (upd G2 l1 (.lst (ps.map V.str))) p1 (.lst (b.map V.str ++ ps.map V.str))) p1 = some (.lst (b.map V.str ++ ps.map V.str)) := upd_same
      have u2 := u1.trans (same_upd (o := HO.lst (b.map V.str ++ ps.map V.str)) np1)
      generalize upd (upd G2 l1 (.lst (ps.map V.str))) p1 (.lst (b.map V.str ++ ps.map V.str)) = Gp at hp1 u2 ⊢
      refine ⟨_, rfl, _, rfl, a0, _, _, _, rfl, rfl, SqT.mono u2 hTT, rfl, bv, _, rfl, .inr (SqT.mono u2 gv), fun l2 nl2 => ?_⟩
      have u3 := u2.trans (same_upd (o := HO.lst (vs.map V.str)) nl2)
      refine ⟨p1, l2, _, _, rfl, rfl, same_upd nl2 _ _ hp1, upd_same, Nat.le_trans (show (b.map V.str ++ ps.map V.str).length + (vs.map V.str).length ≤ 2000 by rw [List.length_append, List.length_map, List.length_map, List.length_map]; omega) (by decide), fun p2 np2 => ?_⟩
      have u4 := u3.trans (same_upd (o := HO.lst (b.map V.str ++ ps.map V.str ++ vs.map V.str)) np2)
      have np2' := u3.free np2
      have har3 : (upd (upd Gp l2 (.lst (vs.map V.str))) p2 (.lst (b.map V.str ++ ps.map V.str ++ vs.map V.str))) p2 = some (.lst ((b ++ (ps ++ vs)).map V.str)) := by rw [upd_same, List.map_append, List.map_append, List.append_assoc]
      generalize upd (upd Gp l2 (.lst (vs.map V.str))) p2 (.lst (b.map V.str ++ ps.map V.str ++ vs.map V.str)) = H3 at u4 har3 ⊢
      have T3 := SqT.mono u4 hTT
      have S3 := (S1).same u4
      have F3 := (F1).same u4
      have hd3 := dp_mono u4 _ _ hd1
      have hout3 := (F1).out np2'
      have zb3 : (b ++ (ps ++ vs)).length + 8 * n ≤ 1000 := by simp only [List.length_append]; omega
      try dsimp only [tSeq]
      refine skip_if (EvT.to (evt_and (y := true) (evt_test (e_h2 rfl T3 rfl)) (fun h => absurd h (by decide +kernel))) (by decide +kernel)) (Same.refl H3) (fun G3 t3 => ?_)
      try dsimp only [tSeq]
      refine skip_if (EvT.to (evt_test (e_h2 rfl T3 rfl)) (by decide +kernel)) t3 (fun G4 t4 => ?_)
      try dsimp only [tSeq]
      refine asg_else (EvT.to (evt_test (e_h2 rfl T3 rfl)) (by decide +kernel)) t4 (fun G5 t5 => ?_)
      refine ⟨(by show 0 ≤ sizeLine; decide), fun R nR => ?_⟩
      have tR := t5.trans (same_upd (o := HO.lst []) nR)
      have hR : (upd G5 R (.lst [])) R = some (.lst []) := upd_same
      have nR1 := t5.free nR
      generalize upd G5 R (.lst []) = GR at tR hR ⊢
      dsimp only [gName, tSeq]
      have TR := SqT.mono tR T3
      refine skip_if (EvT.to (evt_test (e_h1 rfl TR rfl)) (by decide +kernel)) (Same.refl GR) (fun G6 t6 => ?_)
      try dsimp only [tSeq]
      exact rest _ _ ⟨p2, R, k, (b ++ (ps ++ vs)), [], [], _, _, _, _, _, _, _, [], [], [], 0, _, _, _, _, rfl, .nil, (.kids (r := [.str s, .tuple (ps.map .str), .tuple (vs.map .str)]) (by simp) hw), by simp, by simp, by simp, by omega, ((S3).same tR).same t6, t6 _ _ (tR _ _ har3), hout3, zb3, t6 _ _ hR, (F3).out nR1, .nil, (fun x hx => by cases hx), dp_mono (tR.trans t6) _ _ hd3⟩
    | @block _ _ c1 _ e1 f1 ps vs n1 ds hw nr hpl hvl =>
      have hA := hAA _ rfl
      cases hA with | cons g0 hA1 =>
      obtain rfl := dp_str g0
      cases hA1 with | cons g2 hA3 =>
      cases hA3 with | cons g3 hA4 =>
      cases hA4 with | cons g4 hA5 =>
      cases hA5
      obtain ⟨bp, rfl, gp⟩ := dp_strs g2
      obtain ⟨bv, rfl, gv⟩ := dp_strs g3
      obtain ⟨bs, us, rfl, gs1, gs2⟩ := dp_tup g4
      have hzs := hw.heads
      refine do_if (EvT.to (evt_test (e_h2 rfl hTT rfl)) (by decide +kernel)) (Same.refl H1) (fun G1 t1 => ?_)
      try dsimp only [tSeq]
      refine do_if (EvT.to (evt_test (e_h1 rfl hTT rfl)) (by decide +kernel)) t1 (fun G2 t2 => ?_)
      try dsimp only [tSeq]
      have Fx := F1.same t2
      refine ⟨_, rfl, fo, _, _, _, rfl, rfl, SqL.of Fx.ff, rfl, .inl ⟨rfl, _, SqL.of Fx.c⟩, ?_⟩
      refine ⟨_, rfl, _, rfl, a0, _, 1, _, rfl, rfl, SqT.mono t2 hTT, atI_nat rfl, _, _, rfl, .inr ⟨_, SqT.mono t2 gp, rfl⟩, ?_⟩
      refine last_ret (SqT.mono t2 hTT) rfl (SqT.mono t2 gs1) (dp_monoAll t2 _ _ gs2) hzs nr (fun Gy ty => ⟨(by show 3 ≤ sizeLine; decide), fun u nu => ?_⟩)
      have tz := (t2.trans ty).trans (same_upd (o := HO.tup [V.int (k : Int), .int ((ps.map V.str).length : Int), .bl (ds.any isRet)]) nu)
      have hu : (upd Gy u (.tup [V.int (k : Int), .int ((ps.map V.str).length : Int), .bl (ds.any isRet)])) u = some (.tup [V.int (k : Int), .int ((ps.map V.str).length : Int), .bl (ds.any isRet)]) := upd_same
      generalize upd Gy u (.tup [V.int (k : Int), .int ((ps.map V.str).length : Int), .bl (ds.any isRet)]) = Gz at tz hu ⊢
      have Fz := F1.same tz
      simp only [List.length_cons] at z3
      refine ⟨C, _, .ref u, rfl, rfl, Fz.c, Nat.lt_of_le_of_lt (show cv.length ≤ 100000 by omega) (by decide), ?_⟩
      have F2 := Fz.addC (.ref u)
      have Fr2 : Fr fo A1 B C Gz (upd Gz C (.lst (cv ++ [.ref u]))) := Fr.set (.inr (.inr (.inr rfl)))
      have lz := Fz.lists Fr2
      have T2 := sqt_lists lz (SqT.mono tz hTT)
      have hu2 := sqt_lists (K := K) lz (SqT.of hu)
      have gp2 := sqt_lists lz (SqT.mono tz gp)
      have gv2 := sqt_lists lz (SqT.mono tz gv)
      have hd2 := dp_lists lz hN (dp_mono tz _ _ hd1)
      have har2 := Fr2 _ _ hout (tz _ _ har1)
      have S2 : St K fo A1 B C an bn cv q H [] [] [(k, ps.length, ds.any isRet)] 1 (upd Gz C (.lst (cv ++ [.ref u]))) := ⟨[.ref u], by rw [List.append_nil, List.append_nil]; exact F2, .cons ⟨u, rfl, by rw [List.length_map] at hu2; exact hu2⟩ .nil, (Fr1.trans (.of tz)).trans Fr2⟩
      generalize upd Gz C (.lst (cv ++ [.ref u])) = H2 at F2 T2 hd2 har2 S2 gp2 gv2 ⊢
      refine ⟨_, rfl, _, _, rfl, rfl, ?_⟩
      dsimp only [gName]
      rw [show ((k : Int) + 1) = ((k + 1 : Nat) : Int) from rfl]
      have rf := Same.refl H2
      refine ⟨_, rfl, _, rfl, _, rfl, a0, _, _, _, rfl, rfl, SqT.mono rf T2, rfl, bp, _, rfl, .inr (SqT.mono rf gp2), fun l1 nl1 => ?_⟩
      have u1 := rf.trans (same_upd (o := HO.lst (ps.map V.str)) nl1)
      refine ⟨ar, l1, _, _, rfl, rfl, u1 _ _ har2, upd_same, Nat.le_trans (show (b.map V.str).length + (ps.map V.str).length ≤ 2000 by rw [List.length_map, List.length_map]; omega) (by decide), fun p1 np1 => ?_⟩
      have hp1 : (upd (upd H2 l1 (.lst (ps.map V.str))) p1 (.lst (b.map V.str ++ ps.map V.str))) p1 = some (.lst (b.map V.str ++ ps.map V.str)) := upd_same
      have u2 := u1.trans (same_upd (o := HO.lst (b.map V.str ++ ps.map V.str)) np1)
      generalize upd (upd H2 l1 (.lst (ps.map V.str))) p1 (.lst (b.map V.str ++ ps.map V.str)) = Gp at hp1 u2 ⊢
      refine ⟨_, rfl, _, rfl, a0, _, _, _, rfl, rfl, SqT.mono u2 T2, rfl, bv, _, rfl, .inr (SqT.mono u2 gv2), fun l2 nl2 => ?_⟩
      have u3 := u2.trans (same_upd (o := HO.lst (vs.map V.str)) nl2)
      refine ⟨p1, l2, _, _, rfl, rfl, same_upd nl2 _ _ hp1, upd_same, Nat.le_trans (show (b.map V.str ++ ps.map V.str).length + (vs.map V.str).length ≤ 2000 by rw [List.length_append, List.length_map, List.length_map, List.length_map]; omega) (by decide), fun p2 np2 => ?_⟩
      have u4 := u3.trans (same_upd (o := HO.lst (b.map V.str ++ ps.map V.str ++ vs.map V.str)) np2)
      have np2' := u3.free np2
      have har3 : (upd (upd Gp l2 (.lst (vs.map V.str))) p2 (.lst (b.map V.str ++ ps.map V.str ++ vs.map V.str))) p2 = some (.lst ((b ++ (ps ++ vs)).map V.str)) := by rw [upd_same, List.map_append, List.map_append, List.append_assoc]
      generalize upd (upd Gp l2 (.lst (vs.map V.str))) p2 (.lst (b.map V.str ++ ps.map V.str ++ vs.map V.str)) = H3 at u4 har3 ⊢
      have T3 := SqT.mono u4 T2
      have S3 := (S2).same u4
      have F3 := (F2).same u4
      have hd3 := dp_mono u4 _ _ hd2
      have hout3 := (F2).out np2'
      have zb3 : (b ++ (ps ++ vs)).length + 8 * n ≤ 1000 := by simp only [List.length_append]; omega
      try dsimp only [tSeq]
      refine skip_if (EvT.to (evt_and (y := true) (evt_test (e_h2 rfl T3 rfl)) (fun h => absurd h (by decide +kernel))) (by decide +kernel)) (Same.refl H3) (fun G3 t3 => ?_)
      try dsimp only [tSeq]
      refine skip_if (EvT.to (evt_test (e_h2 rfl T3 rfl)) (by decide +kernel)) t3 (fun G4 t4 => ?_)
      try dsimp only [tSeq]
      refine asg_else (EvT.to (evt_test (e_h2 rfl T3 rfl)) (by decide +kernel)) t4 (fun G5 t5 => ?_)
      refine ⟨(by show 0 ≤ sizeLine; decide), fun R nR => ?_⟩
      have tR := t5.trans (same_upd (o := HO.lst []) nR)
      have hR : (upd G5 R (.lst [])) R = some (.lst []) := upd_same
      have nR1 := t5.free nR
      generalize upd G5 R (.lst []) = GR at tR hR ⊢
      dsimp only [gName, tSeq]
      have TR := SqT.mono tR T3
      refine skip_if (EvT.to (evt_test (e_h1 rfl TR rfl)) (by decide +kernel)) (Same.refl GR) (fun G6 t6 => ?_)
      try dsimp only [tSeq]
      exact rest _ _ ⟨p2, R, (k + 1), (b ++ (ps ++ vs)), [], [], _, _, _, _, _, _, _, [], [], [], 0, _, _, _, _, rfl, .nil, (.kids (r := [.tuple (ps.map .str), .tuple (vs.map .str)]) (by simp) hw), by simp, by simp, by simp, by omega, ((S3).same tR).same t6, t6 _ _ (tR _ _ har3), hout3, zb3, t6 _ _ hR, (F3).out nR1, .nil, (fun x hx => by cases hx), dp_mono (tR.trans t6) _ _ hd3⟩
  case tail =>
    rintro _ H2 ⟨ar1, R, k1, b1, ms, xs, x5, x6, x7, a1, d1, n1, c1, a2, d2, n2, c2, a3, d3, n3, c3, rfl, hM, hFin, rfl, rfl, rfl, rfl, hS, har1, hout1, zb, hR, houtR, hxs, hNm, hd2⟩
    obtain ⟨ws0, f0, p0, r0⟩ := id hS
    simp only [List.length_append] at z1 z2 z3
    refine seq_join (fun σ' H' => ∃ x5 x6 x7 : Option V, σ' = [some v, some (.ref ar1), some (.int (k1 : Int)), some (.ref fo), some (.ref R), x5, x6, x7] ∧ St K fo A1 B C an bn cv q H (a1 ++ a2) (d1 ++ d2) (n1 ++ n2) (c1 + c2) H' ∧ Fr fo A1 B C H2 H') (fun D' hD' => ?_) ?fin56
    · refine ⟨_, rfl, R, rfl, ⟨_, SqL.of hR⟩, for_list (K := K) (a := R) (xs := xs) (fun i σ H' => ∃ (x5 x6 x7 : Option V) (a4 d4 : List Str) (n4 : List BD) (c4 : Nat) (a5 d5 : List Str) (n5 : List BD) (c5 : Nat), σ = [some v, some (.ref ar1), some (.int (k1 : Int)), some (.ref fo), some (.ref R), x5, x6, x7] ∧ WkM n b1 k1 (ms.drop i) a5 d5 n5 c5 ∧ a1 ++ a2 = a4 ++ a5 ∧ d1 ++ d2 = d4 ++ d5 ∧ n1 ++ n2 = n4 ++ n5 ∧ c1 + c2 = c4 + c5 ∧ St K fo A1 B C an bn cv q H a4 d4 n4 c4 H' ∧ Fr fo A1 B C H2 H') ⟨x5, x6, x7, a1, d1, n1, c1, a2, d2, n2, c2, rfl, hM, rfl, rfl, rfl, rfl, hS, fun _ _ _ e => e⟩ (fun i σ H' _ Rr => ?_) (fun i x σ H' hx Rr => ?_) (fun σ H' Rr => ?_)⟩
      · obtain ⟨_, _, _, _, _, _, _, _, _, _, _, _, _, _, _, _, _, _, hF2⟩ := Rr
        exact SqL.of (hF2 _ _ houtR hR)
      · obtain ⟨x5, x6, x7, a4, d4, n4, c4, a5, d5, n5, c5, rfl, hM2, e1, e2, e3, e4, ⟨ws, f, p, r⟩, hF2⟩ := Rr
        obtain ⟨⟨s, ds⟩, hmm, hDm⟩ := dpAll_msg hxs hx
        rw [drop_at hmm] at hM2
        cases hM2 with
        | @cons _ _ c6 c7 _ a6 d6 a7 d7 n6 n7 _ _ _ w t =>
          obtain ⟨am, y, rfl, hTm, hum⟩ := dp_two (k := s) (d := .tuple ds) hDm
          obtain ⟨bm, ys, rfl, hb1, hb2⟩ := dp_tup hum
          have l0 := f0.lists hF2
          have hNd : NoL (msgD (s, ds)) := hNm _ (List.mem_map_of_mem (List.mem_of_getElem? hmm))
          have hNds : ∀ x ∈ ds, NoL x := noL_tup (noL_tup hNd _ (by simp))
          have q1 := congrArg List.length e1
          have q2 := congrArg List.length e2
          have q3 := congrArg List.length e3
          simp only [List.length_append, List.length_cons] at q1 q2 q3
          have hpl := paired_len p
          refine ⟨am, _, rfl, sqt_lists l0 hTm, rfl, _, _, rfl, _, _, rfl, rfl, ?_⟩
          dsimp only [tSeq]
          refine ⟨_, rfl, fo, _, _, _, rfl, rfl, SqL.of f.ff, rfl, .inl ⟨rfl, _, SqL.of f.b⟩, _, rfl, B, _, .str s, rfl, rfl, f.b, Nat.lt_of_le_of_lt (show ((bn ++ d4).map V.str).length ≤ 100000 by rw [List.length_map, List.length_append]; omega) (by decide), ?_⟩
          have Frb : Fr fo A1 B C H' (upd H' B (.lst ((bn ++ d4).map V.str ++ [.str s]))) := Fr.set (.inr (.inr (.inl rfl)))
          have Sx : St K fo A1 B C an bn cv q H a4 (d4 ++ [s]) n4 c4 (upd H' B (.lst ((bn ++ d4).map V.str ++ [.str s]))) := ⟨ws, by rw [← List.append_assoc]; exact f.addB s, blk_lists (f.lists Frb) p, r.trans Frb⟩
          have lb := l0.trans (f.lists Frb)
          have har5 := Frb _ _ hout1 (hF2 _ _ hout1 har1)
          have hF5 := hF2.trans Frb
          generalize upd H' B (.lst ((bn ++ d4).map V.str ++ [.str s])) = H5 at Frb Sx lb har5 hF5 ⊢
          refine ⟨_, rfl, bm, rfl, ⟨_, sqt_lists lb hb1⟩, walk_loop w Sx har5 hout1 (sqt_lists lb hb1) (dpAll_lists lb hNds hb2) hNds (by simp only [List.length_append]; omega) (by simp only [List.length_append, List.length_cons, List.length_nil]; omega) (by simp only [List.length_append]; omega) zb (fun x7' H7 hS7 hF7 => ?_)⟩
          exact ⟨_, _, x7', a4 ++ a6, d4 ++ [s] ++ d6, n4 ++ n6, c4 + c6, a7, d7, n7, c7, rfl, t, by rw [e1, List.append_assoc], by rw [e2]; simp, by rw [e3, List.append_assoc], by omega, hS7, hF5.trans hF7⟩
      · obtain ⟨x5, x6, x7, a4, d4, n4, c4, a5, d5, n5, c5, rfl, hM2, e1, e2, e3, e4, hS2, hF2⟩ := Rr
        have hl := dpAll_length hxs
        rw [List.length_map] at hl
        rw [hl, List.drop_length] at hM2
        cases hM2
        rw [List.append_nil] at e1 e2 e3
        rw [Nat.add_zero] at e4
        refine hD' _ _ ⟨_, _, _, rfl, ?_, hF2⟩
        rw [e1, e2, e3, e4]
        exact hS2
    case fin56 =>
      rintro _ H5 ⟨x5, x6, x7, rfl, hS5, hF5⟩
      have hd5 := dp_lists (f0.lists hF5) hN hd2
      have har5 := hF5 _ _ hout1 har1
      obtain ⟨ws5, f5, p5, r5⟩ := id hS5
      have hpl := paired_len p5
      simp only [List.length_append] at hpl
      dsimp only [tSeq]
      cases hFin with
      | none hz =>
        obtain ⟨a0, ys, rfl, hT, hA⟩ := dp_tup hd5
        cases hA with | cons g0 hA1 =>
        obtain rfl := dp_str g0
        refine skip_if (EvT.to (evt_test (e_h2 rfl hT rfl)) (in2_of (l := [kI, kS, kY, kV, kSend, kSuper, kCasc]) (by decide +kernel) hz)) (Same.refl H5) (fun G1 t1 => ?_)
        refine skip_if (EvT.to (evt_test (e_h3 rfl hT rfl)) (in3_of (l := [kI, kS, kY, kV, kSend, kSuper, kCasc]) (by decide +kernel) hz)) t1 (fun G2 t2 => ?_)
        refine Qq _ ?_
        rw [List.append_nil, List.append_nil, List.append_nil, Nat.add_zero]
        exact hS5.same t2
      | @kid z r x a3 d3 n3 c3 hz hw =>
        obtain ⟨a0, ys, rfl, hT, hA⟩ := dp_tup hd5
        cases hA with | cons g0 hA1 =>
        obtain rfl := dp_str g0
        obtain ⟨ys0, zs, rfl, hy, hzz⟩ := dpAll_split hA1
        cases hzz with | cons g1 hzz =>
        cases hzz
        rename_i u
        refine do_if (EvT.to (evt_test (e_h2 rfl hT rfl)) (in2_of (l := [kSet, kRet]) (by decide +kernel) hz)) (Same.refl H5) (fun G1 t1 => ?_)
        have f6 := f5.same t1
        refine ⟨_, rfl, _, rfl, a0, _, _, _, rfl, rfl, SqT.mono t1 hT, atI_last (V.str z :: ys0) u, _, rfl, _, rfl, _, rfl, u, ar1, fo, A1, B, C, k1, x, b1, an ++ (a1 ++ a2), bn ++ (d1 ++ d2), a3, d3, cv ++ ws5, n3, q + (c1 + c2), c3, rfl, dp_mono t1 _ _ g1, noL_tup hN _ (by simp), hw, t1 _ _ har5, hout1, f6, by simp only [List.length_append]; omega, by simp only [List.length_append]; omega, by simp only [List.length_append]; omega, zb, fun G2 post => ?_⟩
        have T2 := sqt_lists (f6.lists post.fr) (SqT.mono t1 hT)
        refine skip_if (EvT.to (evt_test (e_h3 rfl T2 rfl)) (in3_of (l := [kSet, kRet]) (by decide +kernel) hz)) (Same.refl G2) (fun G3 t3 => ?_)
        exact Qq _ ((St.join f6 (blk_lists (Same.lists t1) p5) (r5.trans (.of t1)) post).same t3)
      | @kids z r ds a3 d3 n3 c3 hz hw =>
        obtain ⟨a0, ys, rfl, hT, hA⟩ := dp_tup hd5
        cases hA with | cons g0 hA1 =>
        obtain rfl := dp_str g0
        obtain ⟨ys0, zs, rfl, hy, hzz⟩ := dpAll_split hA1
        cases hzz with | cons g1 hzz =>
        cases hzz
        obtain ⟨bs, us, rfl, gs1, gs2⟩ := dp_tup g1
        have hNds : ∀ x ∈ ds, NoL x := noL_tup (noL_tup hN _ (by simp))
        refine skip_if (EvT.to (evt_test (e_h2 rfl hT rfl)) (in2_of (l := [kA, kMeth, kBlock]) (by decide +kernel) hz)) (Same.refl H5) (fun G1 t1 => ?_)
        refine do_if (EvT.to (evt_test (e_h3 rfl hT rfl)) (in3_of (l := [kA, kMeth, kBlock]) (by decide +kernel) hz)) t1 (fun G2 t2 => ?_)
        refine ⟨_, rfl, _, rfl, a0, _, _, _, rfl, rfl, SqT.mono t2 hT, atI_last (V.str z :: ys0) (V.ref bs), bs, rfl, ⟨_, SqT.mono t2 gs1⟩, walk_loop hw (hS5.same t2) (t2 _ _ har5) hout1 (SqT.mono t2 gs1) (dp_monoAll t2 _ _ gs2) hNds (by simp only [List.length_append]; omega) (by simp only [List.length_append]; omega) (by simp only [List.length_append]; omega) zb (fun x7' H7 hS7 hF7 => Qq _ hS7)⟩
theorem walk_none {f : Addr} {fd : FuncData} {kk : Nat} : FnOk P w K mg base CX0 kk f fd ["_law_root", "_law_around", "_law_depth", "_law_found"] (spWalk K 0) := by
  have no : ∀ vs H Q E, ¬ spWalk K 0 vs H Q E := fun vs H Q E h => by
    obtain ⟨v, ar, fo, A1, B, C, k, d, b, an, bn, a, b', cv, cn, q, c, _, _, _, hW, _⟩ := h
    cases hW
  exact ⟨fun vs H Q E h => absurd h (no vs H Q E), fun A outer s H args us vs Q E _ _ _ _ h => absurd h (no vs H Q E)⟩
theorem walks {f : Addr} {fd : FuncData} (F : FnP K "_law_walk" s_law_walk f fd) (g_law_walk : mg "_law_walk" = some (.ref f)) (g_len : mg "len" = none) (g_list : mg "list" = none) : ∀ n : Nat, FnOk P w K mg base CX0 n f fd ["_law_root", "_law_around", "_law_depth", "_law_found"] (spWalk K n) := by
  intro n
  induction n with
  | zero => exact walk_none
  | succ n ih => exact ok_walk F ih g_law_walk F.kp (F.bindsN fun _ _ _ _ _ _ us hl => match us, hl with | [_, _, _, _], _ => rfl) g_len g_list
end
end My8

end
section
set_option Elab.async false
set_option linter.all false
set_option maxRecDepth 100000
set_option maxHeartbeats 2000000
namespace My8
open PySem PySem.Spec PyProof.Rows L2 My
open TrM TL
abbrev s_law_ascending : Stmt := top 72
abbrev s_law_blocks_right : Stmt := top 73
abbrev s_law_right : Stmt := top 74
abbrev s_law_bag : Stmt := top 54
/-- ascending(words) -/
def spAsc : Sp := fun vs H Q _ => ∃ (l : Addr) (zs : List Str), vs = [.ref l] ∧ H l = some (.lst (zs.map V.str)) ∧ zs.length ≤ 4000 ∧ ∀ (p : Addr) (ys : List Str) (H' : Hp), Same H H' → H p = none → H' p = some (.lst (ys.map V.str)) → Sorted ys zs → Q (.ref p) H'
/-- blocks_right(found, due) -/
def spBR (K : PySem.W.Frag) : Sp := fun vs H Q _ => ∃ (p r : Addr) (xs ys : List V) (cn : List BD), vs = [.ref p, .ref r] ∧ H p = some (.lst xs) ∧ H r = some (.lst ys) ∧ Paired (BlkAt K H) xs cn ∧ Paired (BlkAt K H) ys cn ∧ ∀ H', Same H H' → Q (.bl true) H'
/-! ### two sorted lists with the same members -/
def leS (a b : Str) : Prop := ltCps (codesOf b) (codesOf a) = false
theorem ltCps_tri : ∀ a b : List Nat, ltCps a b = false → ltCps b a = false → a = b
  | [], [], _, _ => rfl
  | [], _ :: _, h, _ => by simp [ltCps] at h
  | _ :: _, [], _, h => by simp [ltCps] at h
  | x :: a, y :: b, h1, h2 => by
    simp only [ltCps, Bool.or_eq_false_iff, Bool.and_eq_false_iff, decide_eq_false_iff_not] at h1 h2
    have e : x = y := by omega
    subst e
    simp at h1 h2
    rw [ltCps_tri a b h1 h2]
theorem ltCps_tr : ∀ a b c : List Nat, ltCps b a = false → ltCps c b = false → ltCps c a = false
  | [], _, [], _, _ => by simp [ltCps]
  | [], b, z :: c, h1, h2 => by simp [ltCps]
  | x :: a, [], c, h1, h2 => by simp [ltCps] at h1
  | x :: a, y :: b, [], h1, h2 => by simp [ltCps] at h2
  | x :: a, y :: b, z :: c, h1, h2 => by
    simp only [ltCps, Bool.or_eq_false_iff, Bool.and_eq_false_iff, decide_eq_false_iff_not, beq_eq_false_iff_ne] at h1 h2 ⊢
    refine ⟨by omega, ?_⟩
    rcases h1.2 with n1 | n1
    · exact .inl (by omega)
    · rcases h2.2 with n2 | n2
      · exact .inl (by omega)
      · exact .inr (ltCps_tr a b c n1 n2)
theorem leS_tr {a b c : Str} (h : leS a b) (h' : leS b c) : leS a c := ltCps_tr _ _ _ h h'
theorem leS_anti {a b : Str} (h : leS a b) (h' : leS b a) : a = b := by
  have := ltCps_tri _ _ h' h
  rw [← strOf_codes a, ← strOf_codes b, this]
theorem rising_all : ∀ {l : List Str} {p : Str}, risingS p l = true → ∀ x ∈ l, leS p x
  | [], _, _, x, hx => by cases hx
  | y :: l, p, h, x, hx => by
    have h : (!ltCps (codesOf y) (codesOf p) && risingS y l) = true := h
    rw [Bool.and_eq_true, Bool.not_eq_true'] at h
    have h1 : leS p y := h.1
    rcases List.mem_cons.mp hx with e | hx
    · rw [e]; exact h1
    · exact leS_tr h1 (rising_all h.2 x hx)
theorem rising_tail {l : List Str} {p : Str} (h : risingS p l = true) : sortedS l = true := by
  cases l with
  | nil => rfl
  | cons y l =>
    have h : (!ltCps (codesOf y) (codesOf p) && risingS y l) = true := h
    rw [Bool.and_eq_true] at h
    exact h.2
theorem sorted_uniq : ∀ {xs ys : List Str}, sortedS xs = true → sortedS ys = true → xs.Nodup → ys.Nodup → (∀ z, z ∈ xs ↔ z ∈ ys) → xs = ys
  | [], ys, _, _, _, _, h => by
    cases ys with
    | nil => rfl
    | cons y ys => exact absurd ((h y).mpr List.mem_cons_self) (by simp)
  | x :: xs, [], _, _, _, _, h => absurd ((h x).mp List.mem_cons_self) (by simp)
  | x :: xs, y :: ys, s1, s2, n1, n2, h => by
    rw [List.nodup_cons] at n1 n2
    have e : x = y := by
      have hx := (h x).mp List.mem_cons_self
      have hy := (h y).mpr List.mem_cons_self
      rcases List.mem_cons.mp hx with e | hx
      · exact e
      rcases List.mem_cons.mp hy with e | hy
      · exact e.symm
      exact leS_anti (rising_all s1 y hy) (rising_all s2 x hx)
    subst e
    rw [sorted_uniq (rising_tail s1) (rising_tail s2) n1.2 n2.2 fun z => ⟨fun hz => ?_, fun hz => ?_⟩]
    · rcases List.mem_cons.mp ((h z).mp (List.mem_cons_of_mem _ hz)) with e | h
      · subst e; exact absurd hz n1.1
      · exact h
    · rcases List.mem_cons.mp ((h z).mpr (List.mem_cons_of_mem _ hz)) with e | h
      · subst e; exact absurd hz n2.1
      · exact h
theorem Sorted.uniq {xs ys l m : List Str} (h : Sorted xs l) (h' : Sorted ys m) (e : ∀ z, z ∈ l ↔ z ∈ m) : xs = ys := sorted_uniq h.1 h'.1 h.2.1 h'.2.1 fun z => (h.2.2.1 z).trans ((e z).trans (h'.2.2.1 z).symm)
/-! ### lists that are compared -/
def bdD (r : BD) : PyData := .tuple [.int (r.1 : Int), .int (r.2.1 : Int), .bool r.2.2]
theorem dpAll_blk {K : PySem.W.Frag} {H : Hp} : ∀ {xs : List V} {cn : List BD}, Paired (BlkAt K H) xs cn → DpAll K H xs (cn.map bdD)
  | _, _, .nil => .nil
  | _, _, .cons h t => by
    obtain ⟨a, rfl, hs⟩ := h
    exact .cons (Dp.tup hs (.cons (.int _) (.cons (.int _) (.cons (.bl _) .nil)))) (dpAll_blk t)
theorem shaped_blk (cn : List BD) : SeqAt.shaped (.list (cn.map bdD)) = true := by
  unfold SeqAt.shaped
  rw [Bool.and_eq_true]
  refine ⟨?_, decide_eq_true ?_⟩
  · simp only [PyData.canLay0]
    induction cn with
    | nil => exact lay_nil
    | cons r cn ih => exact lay_cons (by unfold bdD; simp [PyData.canLay0, PyData.canLayAll0]) ih
  · have : PyData.depthAll (cn.map bdD) ≤ 1 := by
      induction cn with
      | nil => simp [PyData.depthAll]
      | cons r cn ih =>
        simp only [List.map_cons, PyData.depthAll]
        have e : (bdD r).depth = 1 := by unfold bdD; simp [PyData.depth, PyData.depthAll]
        omega
    simp only [PyData.depth]
    omega
theorem eqv_blk (cn : List BD) : PyData.eqv (.list (cn.map bdD)) (.list (cn.map bdD)) = true := by
  simp only [PyData.eqv]
  induction cn with
  | nil => simp only [List.map_nil, PyData.eqvAll]
  | cons r cn ih =>
    simp only [List.map_cons, PyData.eqvAll]
    rw [ih, Bool.and_true]
    unfold bdD
    simp [PyData.eqv, PyData.eqvAll]
theorem eqv_strs (ys : List Str) : PyData.eqv (.list (ys.map .str)) (.list (ys.map .str)) = true := by
  simp only [PyData.eqv]
  induction ys with
  | nil => simp only [List.map_nil, PyData.eqvAll]
  | cons r cn ih =>
    simp only [List.map_cons, PyData.eqvAll]
    rw [ih, Bool.and_true]
    simp [PyData.eqv]
theorem shaped_strs {ys : List Str} (h : ∀ y ∈ ys, okT (codesOf y)) : SeqAt.shaped (.list (ys.map .str)) = true := by
  unfold SeqAt.shaped
  rw [Bool.and_eq_true]
  refine ⟨?_, decide_eq_true ?_⟩
  · simp only [PyData.canLay0]
    induction ys with
    | nil => exact lay_nil
    | cons y ys ih => exact lay_cons (lay_str (h y List.mem_cons_self)) (ih fun x hx => h x (List.mem_cons_of_mem _ hx))
  · have : PyData.depthAll (ys.map .str) ≤ 0 := by
      clear h
      induction ys with
      | nil => simp [PyData.depthAll]
      | cons r cn ih =>
        simp only [List.map_cons, PyData.depthAll, PyData.depth]
        omega
    simp only [PyData.depth]
    omega
section
variable {P : Program} {w : World} {K : PySem.W.Frag} {mg : Str → Option Value} {base : Heap}
theorem sc_law_ascending : FnScope ["_law_words"] ["_law_words"] (defScope s_law_ascending) := ⟨rfl, rfl, rfl, by decide +kernel, rfl, by decide +kernel, by decide +kernel⟩
theorem ok_ascending {f : Addr} {fd : FuncData} (F : FnP K "_law_ascending" s_law_ascending f fd) (g_sorted : mg "sorted" = none) (g_set : mg "set" = none) : FnOk P w K mg base CX0 1 f fd ["_law_words"] spAsc := by
  refine F.ok sc_law_ascending (fun vs H Q E h => ?_) (fun cdv A outer s H vs Q E hr h => ⟨_, PSs.nox
    (pss_one (ps_ret (pe_callB (cr_sortedSetS rfl) (by rfl) g_sorted (by decide +kernel) (pa_cons (pe_callTy (cr_setS rfl) (by rfl) g_set (by decide +kernel) (pa_cons (pv 0) pa_nil)) pa_nil)))), ?_⟩)
  · obtain ⟨l, zs, rfl, _⟩ := h
    rfl
  obtain ⟨l, zs, rfl, hl, hn, q⟩ := h
  refine ⟨_, rfl, l, zs, rfl, SqL.of hl, hn, fun a na => ?_⟩
  have s1 := same_upd (o := SetSO w a zs) na
  exact ⟨a, zs, rfl, upd_same, hn, fun ys p h1 h2 h3 h4 np => q p ys _ (s1.trans (same_upd np)) (s1.free np) upd_same ⟨h1, h2, h3, h4⟩⟩
theorem sc_law_blocks_right : FnScope ["_law_found", "_law_due", "_law_row"] ["_law_found", "_law_due"] (defScope s_law_blocks_right) := ⟨rfl, rfl, rfl, by decide +kernel, rfl, by decide +kernel, by decide +kernel⟩
theorem ok_blocks_right {f : Addr} {fd : FuncData} (F : FnP K "_law_blocks_right" s_law_blocks_right f fd) (g_isinstance : mg "isinstance" = none) (g_list : mg "list" = none) (g_tuple : mg "tuple" = none) (g_bool : mg "bool" = none) : FnOk P w K mg base CX0 1 f fd ["_law_found", "_law_due"] (spBR K) := by
  refine F.ok sc_law_blocks_right (fun vs H Q E h => ?_) (fun cdv A outer s H vs Q E hr h => ⟨_, PSs.nox
    (pss_cons (ps_if (PW.pt (pw_or (pt_not (pt_val (pe_callB call_isi (by rfl) g_isinstance (by decide +kernel) (pa_cons (pv 0) (pa_cons (pe_bltn (v := .ty "list") (u := .type "list") (by rfl) g_list (by decide +kernel) rfl) pa_nil))))) (pw_or1 (pt_cmpR (op_neD hr.units) (pv 0) (pv 1) (nomark _))))) (pss_one (ps_ret pe_bl)) pss_nil)
      (pss_cons (ps_for PassesOwn.never rfl (pi_list (pv 0)) (pg_name (i := 2) sc_law_blocks_right.nd rfl (Or.inl rfl)) (pss_cons (ps_if (PW.pt (pw_or (pt_not (pt_val (pe_callB call_isi (by rfl) g_isinstance (by decide +kernel) (pa_cons (pv 2) (pa_cons (pe_bltn (v := .ty "tuple") (u := .type "tuple") (by rfl) g_tuple (by decide +kernel) rfl) pa_nil))))) (pw_or (pt_val (pe_callB call_isi (by rfl) g_isinstance (by decide +kernel) (pa_cons (pe_ix ix_tup (pv 2) pe_int (fun _ _ => rfl)) (pa_cons (pe_bltn (v := .ty "bool") (u := .type "bool") (by rfl) g_bool (by decide +kernel) rfl) pa_nil)))) (pw_or1 (pt_val (pe_callB call_isi (by rfl) g_isinstance (by decide +kernel) (pa_cons (pe_ix ix_tup (pv 2) pe_int (fun _ _ => rfl)) (pa_cons (pe_bltn (v := .ty "bool") (u := .type "bool") (by rfl) g_bool (by decide +kernel) rfl) pa_nil)))))))) (pss_one (ps_ret pe_bl)) pss_nil)
      (pss_one (ps_if (pt_not (pt_val (pe_callB call_isi (by rfl) g_isinstance (by decide +kernel) (pa_cons (pe_ix ix_tup (pv 2) pe_int (fun _ _ => rfl)) (pa_cons (pe_bltn (v := .ty "bool") (u := .type "bool") (by rfl) g_bool (by decide +kernel) rfl) pa_nil))))) (pss_one (ps_ret pe_bl)) pss_nil))))
      (pss_one (ps_ret pe_bl)))), ?_⟩)
  · obtain ⟨p, r, xs, ys, cn, rfl, _⟩ := h
    rfl
  obtain ⟨p, r, xs, ys, cn, rfl, hp, hr2, hx, hy, q⟩ := h
  dsimp only [tSeq]
  refine skip_if (EvT.to (evt_or (evt_not (evt_b (e_isi (b := true) rfl (fun _ h => .base (.lst (h _ _ hp))) (kit_ty (by decide +kernel))))) fun _ => evt_test (e_neD rfl rfl (Dp.lst (SqL.of hp) (dpAll_blk hx)) (Dp.lst (SqL.of hr2) (dpAll_blk hy)) (shaped_blk cn) (shaped_blk cn))) (by rw [eqv_blk]; rfl)) (Same.refl H) (fun H1 s1 => ?_)
  refine ⟨_, rfl, p, rfl, ⟨_, SqL.of (s1 _ _ hp)⟩, for_list (K := K) (a := p) (xs := xs) (fun i σ H' => (∃ x2, σ = [some (.ref p), some (.ref r), x2]) ∧ Same H H') ⟨⟨_, rfl⟩, s1⟩ (fun i σ H' _ R => SqL.of (R.2 _ _ hp)) (fun i x σ H' hxi R => ?_) (fun σ H' R => ?_)⟩
  · obtain ⟨⟨x2, rfl⟩, s2⟩ := R
    obtain ⟨bd, hbd⟩ : ∃ bd, BlkAt K H x bd := by
      clear hy hp q
      induction hx generalizing i with
      | nil => cases hxi
      | cons h t ih =>
        cases i with
        | zero => cases hxi; exact ⟨_, h⟩
        | succ i => exact ih (i := i) (by simpa using hxi)
    obtain ⟨a, rfl, ha⟩ := hbd
    have hb := SqT.mono s2 ha
    dsimp only [gName, tSeq]
    refine skip_if (EvT.to (evt_or (evt_not (evt_b (e_isi (b := true) rfl (fun _ h => ty_tuple (SqT.mono h hb)) (kit_ty (by decide +kernel))))) fun _ => evt_or (evt_b (e_isix (b := false) rfl hb (j := 0) rfl (fun _ _ => .base (.int _)) (kit_ty (by decide +kernel)))) fun _ => evt_b (e_isix (b := false) rfl hb (j := 1) rfl (fun _ _ => .base (.int _)) (kit_ty (by decide +kernel)))) rfl) (Same.refl H') (fun H2 s3 => ?_)
    refine skip_if (EvT.to (evt_not (evt_b (e_isix (b := true) rfl (SqT.mono s3 hb) (j := 2) rfl (fun _ _ => .base (.bl _)) (kit_ty (by decide +kernel))))) rfl) (Same.refl H2) (fun H3 s4 => ?_)
    exact ⟨⟨_, rfl⟩, (s2.trans s3).trans s4⟩
  · obtain ⟨⟨x2, rfl⟩, s2⟩ := R
    exact q _ s2
end
end My8

end
section
set_option Elab.async false
set_option linter.all false
set_option maxRecDepth 100000
set_option maxHeartbeats 2000000
namespace My8
open PySem PySem.Spec PyProof.Rows L2 My
open TrM TL
/-! ### a text that stands in a tree stands in what is shown of it -/
inductive Tx (z : Str) : PyData → Prop
  | here : Tx z (.str z)
  | deep {d : PyData} {ds : List PyData} : d ∈ ds → Tx z d → Tx z (.tuple ds)
def Inf (x y : Str) : Prop := ∃ p q, codesOf x = p ++ codesOf y ++ q
theorem Inf.refl (x : Str) : Inf x x := ⟨[], [], by simp⟩
theorem Inf.trans {x y z : Str} (h : Inf x y) (k : Inf y z) : Inf x z := by
  obtain ⟨p, q, h⟩ := h
  obtain ⟨r, s, k⟩ := k
  exact ⟨p ++ r, s ++ q, by rw [h, k]; simp⟩
theorem Inf.left {x y z : Str} (h : Inf x z) : Inf (x ++ y) z := by
  obtain ⟨p, q, h⟩ := h
  exact ⟨p, q ++ codesOf y, by rw [codes_app, h]; simp⟩
theorem Inf.right {x y z : Str} (h : Inf y z) : Inf (x ++ y) z := by
  obtain ⟨p, q, h⟩ := h
  exact ⟨codesOf x ++ p, q, by rw [codes_app, h]; simp⟩
theorem inf_join {t : Str} : ∀ {ts : List Str}, t ∈ ts → Inf (Str.join ", " ts) t
  | [x], h => by rw [List.mem_singleton.mp h]; exact .refl _
  | x :: y :: ts, h => by
    show Inf (x ++ _ ++ Str.join ", " (y :: ts)) t
    rcases List.mem_cons.mp h with e | h
    · rw [e]; exact ((Inf.refl x).left).left
    · exact (inf_join h).right
theorem inf_tup {t : Str} {ts : List Str} (h : t ∈ ts) : Inf (tupleText ts) t := by
  unfold tupleText
  exact ((inf_join h).right).left
theorem shown_all {d : PyData} : ∀ {ds : List PyData}, d ∈ ds → d.shown ∈ PyData.shownAll ds
  | x :: xs, h => by
    simp only [PyData.shownAll]
    rcases List.mem_cons.mp h with e | h
    · rw [e]; exact List.mem_cons_self
    · exact List.mem_cons_of_mem _ (shown_all h)
theorem repr_an : ∀ c < 128, Tok.isAn c = true → Builtin.Str.reprChar 39 c = [c] ∧ Builtin.Str.reprChar 34 c = [c] := by decide +kernel
theorem repr_fold {q : Nat} : ∀ (l : List Nat) (acc : Array Nat), (∀ c ∈ l, Builtin.Str.reprChar q c = [c]) → (l.foldl (fun out c => out ++ (Builtin.Str.reprChar q c).toArray) acc).toList = acc.toList ++ l
  | [], acc, _ => by simp
  | c :: l, acc, h => by
    rw [List.foldl_cons, repr_fold l _ (fun x hx => h x (List.mem_cons_of_mem _ hx)), h c List.mem_cons_self]
    simp
theorem inf_repr {z : Str} (h : (codesOf z).all Tok.isAn = true) : Inf (reprText z) z := by
  have hq : PySem.reprQuote z = 39 ∨ PySem.reprQuote z = 34 := by
    unfold PySem.reprQuote
    split <;> simp
  have hl : ∀ c ∈ codesOf z, Builtin.Str.reprChar (PySem.reprQuote z) c = [c] := fun c hc => by
    have ha := List.all_eq_true.mp h c hc
    have h128 : c < 128 := by
      unfold Tok.isAn Tok.isAl Tok.isDg at ha
      simp at ha
      omega
    rcases hq with e | e <;> rw [e]
    · exact (repr_an c h128 ha).1
    · exact (repr_an c h128 ha).2
  refine ⟨[PySem.reprQuote z], [PySem.reprQuote z], ?_⟩
  unfold reprText
  show ((z.cps.foldl (fun out c => out ++ (Builtin.Str.reprChar (PySem.reprQuote z) c).toArray) #[PySem.reprQuote z]).push (PySem.reprQuote z)).toList = _
  rw [Array.toList_push, ← Array.foldl_toList, repr_fold _ _ hl]
theorem Tx.inf {z : Str} {d : PyData} (hz : (codesOf z).all Tok.isAn = true) (h : Tx z d) : Inf d.shown z := by
  induction h with
  | here => simp only [PyData.shown]; exact inf_repr hz
  | @deep d ds hd _ ih =>
    simp only [PyData.shown]
    exact (inf_tup (shown_all hd)).trans ih
theorem inf_found {x y : Str} (h : Inf x y) : (!(Builtin.Str.occurrences x y 0 x.length 1).isEmpty) = true := by
  rw [PySem.StrLaws.found_iff]
  obtain ⟨p, q, h⟩ := h
  refine ⟨p.length, ?_, ?_⟩
  · have := congrArg List.length h
    simp only [List.length_append] at this
    show p.length + (codesOf y).length ≤ (codesOf x).length
    omega
  · rw [PySem.StrLaws.subAt_eq]
    have e : (List.drop p.length x.cps.toList).take y.length = y.cps.toList := by
      have h : x.cps.toList = p ++ codesOf y ++ q := h
      rw [h, List.append_assoc, List.drop_left]
      exact List.take_left' rfl
    rw [e]
    simp
theorem Tx.lay {z : Str} {d : PyData} (h : Tx z d) : d.canLay0 = true → (PyData.str z).canLay0 = true := by
  have mem : ∀ {ds : List PyData} {x : PyData}, x ∈ ds → PyData.canLayAll0 ds = true → x.canLay0 = true := fun {ds} => by
    induction ds with
    | nil => intro x hx; cases hx
    | cons d ds ih =>
      intro x hx h
      simp only [PyData.canLayAll0, Bool.and_eq_true] at h
      rcases List.mem_cons.mp hx with e | hx
      · rw [e]; exact h.1
      · exact ih hx h.2
  induction h with
  | here => exact id
  | deep hd _ ih => exact fun hl => ih (mem hd (by simp only [PyData.canLay0] at hl; exact hl))
theorem Tx.part {z : Str} {d : PyData} {ds : List PyData} (h : Parts d ds) {x : PyData} (hx : x ∈ ds) (hz : Tx z x) : Tx z d := by
  cases h with
  | int => cases hx
  | str => cases hx
  | sym => cases hx
  | var => cases hx
  | arr => exact .deep (d := .tuple ds) (by simp) (.deep hx hz)
  | ret => exact .deep (d := x) (by simp at hx; subst hx; simp) hz
  | set => exact .deep (d := x) (by simp at hx; subst hx; simp) hz
  | @send d s es =>
    rcases List.mem_cons.mp hx with e | hx
    · exact .deep (d := x) (by rw [e]; simp) hz
    · exact .deep (d := .tuple es) (by simp) (.deep hx hz)
  | super => exact .deep (d := .tuple ds) (by simp) (.deep hx hz)
  | @casc d ms =>
    rcases List.mem_cons.mp hx with e | hx
    · exact .deep (d := x) (by rw [e]; simp) hz
    · obtain ⟨m, hm, hx⟩ := List.mem_flatMap.mp hx
      exact .deep (d := .tuple (ms.map msgD)) (by simp) (.deep (List.mem_map_of_mem hm) (.deep (d := .tuple m.2) (by simp) (.deep hx hz)))
  | block => exact .deep (d := .tuple ds) (by simp) (.deep hx hz)
  | meth => exact .deep (d := .tuple ds) (by simp) (.deep hx hz)
mutual
theorem Pre.tx {z : Str} : ∀ {n k : Nat} {d : PyData} {b : List Str} {rows : List RowD}, Pre n d b k rows → ∀ r ∈ rows, Tx z r.1 → Tx z d
  | _, _, _, _, _, .mk hp _ h, r, hr, hz => by
    rcases List.mem_cons.mp hr with e | hr
    · rw [e] at hz; exact hz
    · obtain ⟨x, hx, hz⟩ := h.tx r hr hz
      exact Tx.part hp hx hz
termination_by structural _ _ _ _ _ h => h
theorem PreL.tx {z : Str} : ∀ {n k : Nat} {ds : List PyData} {b : List Str} {rows : List RowD}, PreL n ds b k rows → ∀ r ∈ rows, Tx z r.1 → ∃ x ∈ ds, Tx z x
  | _, _, _, _, _, .nil, r, hr, _ => by cases hr
  | _, _, _, _, _, .cons h t, r, hr, hz => by
    rcases List.mem_append.mp hr with hr | hr
    · exact ⟨_, List.mem_cons_self, h.tx r hr hz⟩
    · obtain ⟨x, hx, hz⟩ := t.tx r hr hz
      exact ⟨x, List.mem_cons_of_mem _ hx, hz⟩
termination_by structural _ _ _ _ _ h => h
end
theorem lf_strs {z : Str} : ∀ {ps : List PyData}, z ∈ strsD ps → Tx z (.tuple ps)
  | [], h => by cases h
  | .str y :: r, h => by
    rcases List.mem_cons.mp (show z ∈ y :: strsD r from h) with e | h
    · rw [e]; exact .deep List.mem_cons_self .here
    · cases lf_strs h with
      | deep hd hz => exact .deep (List.mem_cons_of_mem _ hd) hz
  | .none :: _, h => by cases h
  | .bool _ :: _, h => by cases h
  | .int _ :: _, h => by cases h
  | .list _ :: _, h => by cases h
  | .tuple _ :: _, h => by cases h
  | .dict _ :: _, h => by cases h
theorem lf_name {z : Str} {r : RowD} (h : z ∈ nameR r) : Tx z r.1 := by
  unfold nameR at h
  split at h
  · split at h
    · rw [List.mem_singleton.mp h]; exact .deep (List.mem_cons_of_mem _ List.mem_cons_self) .here
    · cases h
  · cases h
theorem lf_decl {z : Str} {r : RowD} (h : z ∈ declR r) : Tx z r.1 := by
  unfold declR at h
  split at h
  · split at h
    · rcases List.mem_append.mp h with h | h
      · exact .deep (by simp) (lf_strs h)
      · exact .deep (d := .tuple _) (List.mem_cons_of_mem _ (List.mem_cons_of_mem _ List.mem_cons_self)) (lf_strs h)
    · cases h
  · split at h
    · rcases List.mem_append.mp h with h | h
      · exact .deep (d := .tuple _) (List.mem_cons_of_mem _ (List.mem_cons_of_mem _ List.mem_cons_self)) (lf_strs h)
      · exact .deep (d := .tuple _) (List.mem_cons_of_mem _ (List.mem_cons_of_mem _ (List.mem_cons_of_mem _ List.mem_cons_self))) (lf_strs h)
    · cases h
  · cases h
theorem lf_selM {z : Str} {m : PyData} (h : z ∈ selM m) : Tx z m := by
  unfold selM at h
  split at h
  · rw [List.mem_singleton.mp h]; exact .deep List.mem_cons_self .here
  · cases h
theorem lf_sel {z : Str} {r : RowD} (h : z ∈ selR r) : Tx z r.1 := by
  unfold selR at h
  split at h
  · split at h
    · unfold selA at h
      split at h
      · rw [List.mem_singleton.mp h]; exact .deep (d := .str _) (List.mem_cons_of_mem _ (List.mem_cons_of_mem _ List.mem_cons_self)) .here
      · cases h
    · split at h
      · unfold selB at h
        split at h
        · rw [List.mem_singleton.mp h]; exact .deep (d := .str _) (List.mem_cons_of_mem _ List.mem_cons_self) .here
        · cases h
      · split at h
        · unfold selC at h
          split at h
          · obtain ⟨m, hm, h⟩ := List.mem_flatMap.mp h
            exact .deep (d := .tuple _) (List.mem_cons_of_mem _ (List.mem_cons_of_mem _ List.mem_cons_self)) (.deep hm (lf_selM h))
          · cases h
        · cases h
  · cases h
end My8

end
section
set_option Elab.async false
set_option linter.all false
set_option maxRecDepth 100000
set_option maxHeartbeats 2000000
namespace My8
open PySem PySem.Spec PyProof.Rows L2 My
open TrM TL
def spRightX : Sp := fun vs H Q _ => ∃ (b : Addr) (n : Nat), vs = [.ref b] ∧ BagAt H b n ∧ n ≤ 20000 ∧ ∀ (m : Nat) (H' : Hp), Went b m H H' → Q (.bl true) H'
theorem cr_reprK {X : Cx} {K : PySem.W.Frag} (hK : X.K = K) (g : X.A.guards = some []) (hu : X.A.units + 64 < cLine) : CallR X (.builtin "repr") (rRepr K) := by subst hK; exact cr_repr g hu
theorem Mtd.facts {d : PyData} (h : Mtd d) : ∃ (c cw : Nat) (rows : List RowD) (an bn : List Str) (cn : List BD), Gs 13 d c ∧ c ≤ 2201 ∧ Wk 14 [] 0 d an bn cn cw ∧ Pre 14 d [] 0 rows ∧ rows.length = cw ∧ WO rows an bn cn ∧ cw ≤ c ∧ bn.length ≤ c ∧ RowsOk d rows := by
  obtain ⟨c, hc, hg⟩ := h.gs
  obtain ⟨rows, an, bn, cn, cw, hw, hp, hl, hrb, hwo, h1, h2⟩ := hg.wk 14 (by decide) [] 0
  refine ⟨c, cw, rows, an, bn, cn, hg, hc, hw, hp, hl, hwo, h1, h2, ⟨?_, by omega, fun r hr => Nat.le_trans (hrb r hr).1 (by decide), fun r hr => Nat.le_trans (hrb r hr).2.1 (by decide), fun r hr => Nat.le_trans (hrb r hr).2.2 (by decide)⟩⟩
  have := hp.rows [] [] .nil
  rw [List.append_nil] at this
  exact this
theorem shaped_lf {d : PyData} {ys l : List Str} {rows : List RowD} {f : RowD → List Str} (hd : d.canLay0 = true) (hp : Pre 14 d [] 0 rows) (hf : ∀ z r, z ∈ f r → Tx z r.1) (hs : Sorted ys l) (hl : ∀ z, z ∈ l ↔ z ∈ rows.flatMap f) : SeqAt.shaped (.list (ys.map .str)) = true := by
  unfold SeqAt.shaped
  rw [Bool.and_eq_true]
  have hy : ∀ y ∈ ys, (PyData.str y).canLay0 = true := fun y hy => by
    have h1 := (hl y).mp ((hs.2.2.1 y).mp hy)
    obtain ⟨r, hr, hz⟩ := List.mem_flatMap.mp h1
    exact (hp.tx r hr (hf y r hz)).lay hd
  refine ⟨?_, decide_eq_true ?_⟩
  · simp only [PyData.canLay0]
    clear hs
    induction ys with
    | nil => exact lay_nil
    | cons y ys ih => exact lay_cons (hy y List.mem_cons_self) (ih fun x hx => hy x (List.mem_cons_of_mem _ hx))
  · have : PyData.depthAll (ys.map .str) ≤ 0 := by
      clear hy hs
      induction ys with
      | nil => simp [PyData.depthAll]
      | cons r cn ih =>
        simp only [List.map_cons, PyData.depthAll, PyData.depth]
        omega
    simp only [PyData.depth]
    omega
theorem lf_free {z : Str} {r : RowD} (h : z ∈ freeR r) : Tx z r.1 := lf_name (List.mem_filter.mp h).1
def fw : List Str := ["qa7", "qb7", "qc7", "qd7", "qe7"]
theorem fw_ok : ∀ z ∈ fw, localB (codesOf z) = true ∧ (codesOf z).all Tok.isAn = true := by decide +kernel
theorem shaped_tl {ds : List PyData} (h : SeqAt.shaped (.list ds) = true) : SeqAt.shaped (.tuple ds) = true := by
  unfold SeqAt.shaped at h ⊢
  simp only [PyData.canLay0, PyData.depth] at h ⊢
  exact h
theorem eqv_nilT (ds : List PyData) : PyData.eqv (.tuple ds) (.tuple []) = decide (ds = []) := by
  cases ds with
  | nil => simp only [PyData.eqv, PyData.eqvAll]; rfl
  | cons d ds => simp only [PyData.eqv, PyData.eqvAll]; rfl
theorem Gs.tup {f c : Nat} {d : PyData} (h : Gs f d c) : ∃ ds, d = .tuple ds := by cases h <;> exact ⟨_, rfl⟩
theorem Gs.showy {f c : Nat} {d : PyData} (h : Gs f d c) (hf : f ≤ 13) (hc : c ≤ 3000) : Showy d := h.sh.showy (by omega) (by omega)
def freshOf (x w : Str) : Bool := !(!(Builtin.Str.occurrences x w 0 x.length 1).isEmpty)
theorem fresh_no {d : PyData} {o : Str} {rows : List RowD} (hPre : Pre 14 d [] 0 rows) (ho : (codesOf o).all Tok.isAn = true) (hf : freshOf d.shown o = true) : o ∉ rows.flatMap declR ++ rows.flatMap nameR := fun h => by
  have hx : Tx o d := by
    rcases List.mem_append.mp h with h | h
    · obtain ⟨r, hr, hz⟩ := List.mem_flatMap.mp h
      exact hPre.tx r hr (lf_decl hz)
    · obtain ⟨r, hr, hz⟩ := List.mem_flatMap.mp h
      exact hPre.tx r hr (lf_name hz)
  unfold freshOf at hf
  rw [inf_found (hx.inf ho)] at hf
  cases hf
/-! ### calls with names alone -/
def tCallKw (sp : Sp) (gV : List V → List V → List V) (E : XK) (tk : TA) : TE := fun σ H Q => tk σ H fun zs H1 => sp (gV [] zs) H1 Q E
section
variable {X : Cx} {CX : CXT} {k : Nat} {f : Addr} {fd : FuncData} {ps ks : List Str} {sp : Sp} {E : XK} {x : Str} {p pos : Pos} {kws : List Keyword} {tk : TA} {g : List Value → List Value → List Value} {gV : List V → List V → List V}
theorem pe_callKw (F : FnOk X.prog X.w X.K X.mg X.base CX k f fd ps sp) (hr : Room k X.A) (hg : Gl X x) (hm : X.mg x = some (.ref f)) (hk : PySem.W.keepIn X.K (.ref f) = true) (hb : KBinds X.K fd ps ks g gV) (hx : Passes CX X E)
    (hkw : PK X kws tk) (hall : (backToKw pos (keywordEach kws X.env)).all (·.1.isSome) = true := by rfl) (hks : (backToKw pos (keywordEach kws X.env)).filterMap (·.1) = ks := by rfl)
    (hdb : (x == ("__debug__" : Str)) = false := by decide) (hpl : ((backTo pos (starEach [] X.env)).any (·.1) || (backToKw pos (keywordEach kws X.env)).any (·.1.isNone)) = false := by rfl) :
    PE X (.Call (.Name x p) [] kws pos) (tCallKw sp gV E tk) := by
  refine ⟨fun pins s σ H Q I h => ?_⟩
  refine wpAny_Call_Name_kw (ld_glob I hg hm ?_ hdb)
  refine PySem.W.callWith_KW0 (h₀ := X.base) I.ok.mod.kin hk hall ?_ hpl
  refine thn (hkw.run pos pins s σ H _ I h) fun ws s2 ⟨zs, H2, I2, rz, q2⟩ => ⟨I2.kIn, ?_⟩
  rw [hks]
  exact run_fnk F hr hb hx I2 .nil rz q2
end
section
variable {P : Program} {w : World} {K : PySem.W.Frag} {mg : Str → Option Value} {base : Heap}
theorem sc_law_right : FnScope ["_law_bag_here", "_law_root", "_law_found", "_law_names", "_law_selectors", "_law_blocks", "_law_fresh", "_law_word"] ["_law_bag_here"] (defScope s_law_right) := ⟨rfl, rfl, rfl, by decide +kernel, rfl, by decide +kernel, by decide +kernel⟩
theorem ok_right {f fM fW fA fB fN fS fL fT fR : Addr} {fd fdM fdW fdA fdB fdN fdS fdL fdT fdR : FuncData} (F : FnP K "_law_right" s_law_right f fd)
    (G_law_method : GnOk P w K mg base CX0 130 fM fdM ["_law_bag_here", "_law_deep"] (spMeth K)) (g_law_method : mg "_law_method" = some (.ref fM)) (k_law_method : PySem.W.keepIn K (.ref fM) = true) (b_law_method : Binds K fdM ["_law_bag_here", "_law_deep"] [])
    (G_law_walk : FnOk P w K mg base CX0 130 fW fdW ["_law_root", "_law_around", "_law_depth", "_law_found"] (spWalk K 14)) (g_law_walk : mg "_law_walk" = some (.ref fW)) (k_law_walk : PySem.W.keepIn K (.ref fW) = true) (b_law_walk : Binds K fdW ["_law_root", "_law_around", "_law_depth", "_law_found"] [])
    (G_law_ascending : FnOk P w K mg base CX0 130 fA fdA ["_law_words"] spAsc) (g_law_ascending : mg "_law_ascending" = some (.ref fA)) (k_law_ascending : PySem.W.keepIn K (.ref fA) = true) (b_law_ascending : Binds K fdA ["_law_words"] [])
    (G_law_blocks_right : FnOk P w K mg base CX0 130 fB fdB ["_law_found", "_law_due"] (spBR K)) (g_law_blocks_right : mg "_law_blocks_right" = some (.ref fB)) (k_law_blocks_right : PySem.W.keepIn K (.ref fB) = true) (b_law_blocks_right : Binds K fdB ["_law_found", "_law_due"] [])
    (G_names_free : FnOk P w K mg base CX0 130 fN fdN ["tree"] (spNF K freeR)) (g_names_free : mg "names_free" = some (.ref fN)) (k_names_free : PySem.W.keepIn K (.ref fN) = true) (b_names_free : Binds K fdN ["tree"] []) (kb_names_free : KBinds K fdN ["tree"] ["tree"] (fun us ws => us ++ ws) (fun vs zs => vs ++ zs))
    (G_selectors_of : FnOk P w K mg base CX0 130 fS fdS ["tree"] (spNF K selR)) (g_selectors_of : mg "selectors_of" = some (.ref fS)) (k_selectors_of : PySem.W.keepIn K (.ref fS) = true) (b_selectors_of : Binds K fdS ["tree"] []) (kb_selectors_of : KBinds K fdS ["tree"] ["tree"] (fun us ws => us ++ ws) (fun vs zs => vs ++ zs))
    (G_blocks_of : FnOk P w K mg base CX0 130 fL fdL ["tree"] (spBlocks K)) (g_blocks_of : mg "blocks_of" = some (.ref fL)) (k_blocks_of : PySem.W.keepIn K (.ref fL) = true) (b_blocks_of : Binds K fdL ["tree"] []) (kb_blocks_of : KBinds K fdL ["tree"] ["tree"] (fun us ws => us ++ ws) (fun vs zs => vs ++ zs))
    (G_tree_size : FnOk P w K mg base CX0 130 fT fdT ["tree"] (spSize K)) (g_tree_size : mg "tree_size" = some (.ref fT)) (k_tree_size : PySem.W.keepIn K (.ref fT) = true) (b_tree_size : Binds K fdT ["tree"] []) (kb_tree_size : KBinds K fdT ["tree"] ["tree"] (fun us ws => us ++ ws) (fun vs zs => vs ++ zs))
    (G_renamed : FnOk P w K mg base CX0 130 fR fdR ["tree", "name", "other"] (spRenamed K)) (g_renamed : mg "renamed" = some (.ref fR)) (k_renamed : PySem.W.keepIn K (.ref fR) = true) (b_renamed : Binds K fdR ["tree", "name", "other"] []) (kb_renamed : KBinds K fdR ["tree", "name", "other"] ["other", "name", "tree"] (fun us ws => us ++ ws.reverse) (fun vs zs => vs ++ zs.reverse))
    (g_isinstance : mg "isinstance" = none) (g_list : mg "list" = none) (g_bool : mg "bool" = none) (g_repr : mg "repr" = none) :
    GnOk P w K mg base CX0 131 f fd ["_law_bag_here"] spRightX := by
  refine gn_of F sc_law_right (fun vs H Q E h => ?_) (fun cdv A outer s H vs Q E hg hr h => ⟨_, PSs.nox
    (pss_cons (ps_set (i := 1) sc_law_right.nd rfl (Or.inr rfl) (pe_callG G_law_method hg (hr.mono (Nat.le_refl _)) rfl g_law_method k_law_method b_law_method .nil pass0 (pa_cons (pv 0) (pa_cons pe_int pa_nil))))
      (pss_cons (ps_set (i := 2) sc_law_right.nd rfl (Or.inl rfl) (pe_lst (pa_cons (pe_lst pa_nil) (pa_cons (pe_lst pa_nil) (pa_cons (pe_lst pa_nil) (pa_cons pe_int pa_nil))))))
      (pss_cons (ps_expr (pe_call G_law_walk (hr.mono (Nat.le_refl _)) rfl g_law_walk k_law_walk b_law_walk .nil pass0 (pa_cons (pv 1) (pa_cons (pe_lst pa_nil) (pa_cons pe_int (pa_cons (pv 2) pa_nil))))))
      (pss_cons (ps_par3 (i := 3) (j := 4) (l := 5) (by rfl) sc_law_right.nd rfl rfl rfl (by decide) (by decide) (by decide) rfl rfl rfl (pa_cons (pe_call G_names_free (hr.mono (Nat.le_refl _)) rfl g_names_free k_names_free b_names_free .nil pass0 (pa_cons (pv 1) pa_nil)) (pa_cons (pe_call G_selectors_of (hr.mono (Nat.le_refl _)) rfl g_selectors_of k_selectors_of b_selectors_of .nil pass0 (pa_cons (pv 1) pa_nil)) (pa_cons (pe_call G_blocks_of (hr.mono (Nat.le_refl _)) rfl g_blocks_of k_blocks_of b_blocks_of .nil pass0 (pa_cons (pv 1) pa_nil)) pa_nil))) (by rfl))
      (pss_cons (ps_if (PW.pt (pw_or (pt_not (pt_val (pe_callB call_isi (by rfl) g_isinstance (by decide +kernel) (pa_cons (pv 3) (pa_cons (pe_bltn (v := .ty "list") (u := .type "list") (by rfl) g_list (by decide +kernel) rfl) pa_nil))))) (pw_or1 (pt_cmpR (op_neD hr.units) (pv 3) (pe_call G_law_ascending (hr.mono (Nat.le_refl _)) rfl g_law_ascending k_law_ascending b_law_ascending .nil pass0 (pa_cons (pe_ix ix_list (pv 2) pe_int (fun _ _ => rfl)) pa_nil)) (nomark _))))) (pss_one (ps_ret pe_bl)) pss_nil)
      (pss_cons (ps_if (PW.pt (pw_or (pt_not (pt_val (pe_callB call_isi (by rfl) g_isinstance (by decide +kernel) (pa_cons (pv 4) (pa_cons (pe_bltn (v := .ty "list") (u := .type "list") (by rfl) g_list (by decide +kernel) rfl) pa_nil))))) (pw_or1 (pt_cmpR (op_neD hr.units) (pv 4) (pe_call G_law_ascending (hr.mono (Nat.le_refl _)) rfl g_law_ascending k_law_ascending b_law_ascending .nil pass0 (pa_cons (pe_ix ix_list (pv 2) pe_int (fun _ _ => rfl)) pa_nil)) (nomark _))))) (pss_one (ps_ret pe_bl)) pss_nil)
      (pss_cons (ps_if (PW.pt (pw_or (pt_not (pt_val (pe_call G_law_blocks_right (hr.mono (Nat.le_refl _)) rfl g_law_blocks_right k_law_blocks_right b_law_blocks_right .nil pass0 (pa_cons (pv 5) (pa_cons (pe_ix ix_list (pv 2) pe_int (fun _ _ => rfl)) pa_nil))))) (pw_or1 (pt_val (pe_callB call_isi (by rfl) g_isinstance (by decide +kernel) (pa_cons (pe_call G_tree_size (hr.mono (Nat.le_refl _)) rfl g_tree_size k_tree_size b_tree_size .nil pass0 (pa_cons (pv 1) pa_nil)) (pa_cons (pe_bltn (v := .ty "bool") (u := .type "bool") (by rfl) g_bool (by decide +kernel) rfl) pa_nil))))))) (pss_one (ps_ret pe_bl)) pss_nil)
      (pss_cons (ps_expr (pe_bm PySem.F.plainAttrs_list PySem.F.slot_list_append PySem.F.type_list_append mt_append (pv 3) (pa_cons pe_str pa_nil)))
      (pss_cons (ps_expr (pe_bm PySem.F.plainAttrs_list PySem.F.slot_list_append PySem.F.type_list_append mt_append (pv 4) (pa_cons pe_str pa_nil)))
      (pss_cons (ps_expr (pe_bm PySem.F.plainAttrs_list PySem.F.slot_list_append PySem.F.type_list_append mt_append (pv 5) (pa_cons (pe_tup (pa_cons pe_int (pa_cons pe_int (pa_cons pe_bl pa_nil)))) pa_nil)))
      (pss_cons (ps_if (PW.pt (pw_or (pt_cmpR (op_neD hr.units) (pe_callKw G_names_free (hr.mono (Nat.le_refl _)) rfl g_names_free k_names_free kb_names_free pass0 (pk_cons (pv 1) pk_nil)) (pe_call G_law_ascending (hr.mono (Nat.le_refl _)) rfl g_law_ascending k_law_ascending b_law_ascending .nil pass0 (pa_cons (pe_ix ix_list (pv 2) pe_int (fun _ _ => rfl)) pa_nil)) (nomark _)) (pw_or1 (pt_cmpR (op_neD hr.units) (pe_callKw G_selectors_of (hr.mono (Nat.le_refl _)) rfl g_selectors_of k_selectors_of kb_selectors_of pass0 (pk_cons (pv 1) pk_nil)) (pe_call G_law_ascending (hr.mono (Nat.le_refl _)) rfl g_law_ascending k_law_ascending b_law_ascending .nil pass0 (pa_cons (pe_ix ix_list (pv 2) pe_int (fun _ _ => rfl)) pa_nil)) (nomark _))))) (pss_one (ps_ret pe_bl)) pss_nil)
      (pss_cons (ps_if (PW.pt (pw_or (pt_cmpR (op_neD hr.units) (pe_callKw G_blocks_of (hr.mono (Nat.le_refl _)) rfl g_blocks_of k_blocks_of kb_blocks_of pass0 (pk_cons (pv 1) pk_nil)) (pe_ix ix_list (pv 2) pe_int (fun _ _ => rfl)) (nomark _)) (pw_or1 (pt_cmpR op_ne (pe_callKw G_tree_size (hr.mono (Nat.le_refl _)) rfl g_tree_size k_tree_size kb_tree_size pass0 (pk_cons (pv 1) pk_nil)) (pe_ix ix_list (pv 2) pe_int (fun _ _ => rfl)) (nomark _))))) (pss_one (ps_ret pe_bl)) pss_nil)
      (pss_cons (ps_setLc (i := 6) (own := [("_law_word", 7)]) rfl sc_law_right.nd rfl rfl (sw_true rfl rfl rfl (by decide +kernel)) (pi_list (pe_lst (pa_cons pe_str (pa_cons pe_str (pa_cons pe_str (pa_cons pe_str (pa_cons pe_str pa_nil))))))) (blkOk_by (own := [("_law_word", 7)]) (N := ["_law_bag_here", "_law_root", "_law_found", "_law_names", "_law_selectors", "_law_blocks", "_law_fresh", "_law_word"]) (sc := defScope s_law_right) (by decide +kernel)) (fun _ _ _ _ _ => by (exact (pg_name (i := 7) sc_law_right.nd rfl (Or.inl rfl)))) (fun _ _ _ _ _ => by exact (pts_one (pt_cmpR op_notin_str (pv 7) (pe_callB (cr_reprK (K := K) rfl hg hr.units) (by rfl) g_repr (by decide +kernel) (pa_cons (pv 1) pa_nil)) (by rfl)))) (fun _ _ _ _ _ => by exact (pv 7)))
      (pss_cons (ps_if (PW.pt (pw_or (pt_cmpR (op_eqD hr.units) (pv 6) (pe_lst pa_nil) (nomark _)) (pw_or1 (pt_cmpR (op_eqD hr.units) (pe_ix ix_tup (pv 1) pe_int (fun _ _ => rfl)) (pe_tup pa_nil) (nomark _))))) (pss_one (ps_ret pe_bl)) pss_nil)
      (pss_one (ps_ret (pe_cmpR op_eq (pe_callB (cr_repr hg hr.units) (by rfl) g_repr (by decide +kernel) (pa_cons (pe_callKw G_renamed (hr.mono (Nat.le_refl _)) rfl g_renamed k_renamed kb_renamed pass0 (pk_cons (pe_ix ix_list (pv 6) pe_int (fun _ _ => rfl)) (pk_cons (pe_ix ix_tup (pe_ix ix_tup (pv 1) pe_int (fun _ _ => rfl)) pe_int (fun _ _ => rfl)) (pk_cons (pv 1) pk_nil)))) pa_nil)) (pe_callB (cr_repr hg hr.units) (by rfl) g_repr (by decide +kernel) (pa_cons (pe_call G_renamed (hr.mono (Nat.le_refl _)) rfl g_renamed k_renamed b_renamed .nil pass0 (pa_cons (pv 1) (pa_cons (pe_ix ix_tup (pe_ix ix_tup (pv 1) pe_int (fun _ _ => rfl)) pe_int (fun _ _ => rfl)) (pa_cons (pe_ix ix_list (pv 6) pe_int (fun _ _ => rfl)) pa_nil)))) pa_nil)) (nomark _)))))))))))))))))), ?_⟩)
  · obtain ⟨b, n, rfl, _⟩ := h
    rfl
  obtain ⟨b, n, rfl, hb, hn, q⟩ := h
  dsimp only [gName, tSeq]
  refine ⟨_, rfl, b, n, rfl, hb, hn, fun v d m H1 hM hd W1 => ?_⟩
  obtain ⟨c, cw, rows, an, bn, cn, hGs, hc, hWk, hPre, hrl, hWO, hcw, hbl, hRO⟩ := hM.facts
  have hN := hM.nol
  have hlay := hGs.lay
  have hal : an.length ≤ 3000 := by rw [hWO.a]; exact Nat.le_trans (flat_le_of (m := 1) (fun r _ => freeR_le r) hRO.many) (by decide)
  have hcl : cn.length ≤ 3000 := by rw [hWO.c]; exact Nat.le_trans (List.length_filterMap_le _ _) hRO.many
  have ha' : ∀ z, z ∈ an ↔ z ∈ rows.flatMap freeR := fun z => by rw [hWO.a]
  have hb' : ∀ z, z ∈ bn ↔ z ∈ rows.flatMap selR := fun z => hWO.b.mem_iff
  dsimp only [gName, tSeq]
  refine ⟨(by show 0 ≤ sizeLine; decide), fun A1 nA => ⟨(by show 0 ≤ sizeLine; decide), fun B nB => ⟨(by show 0 ≤ sizeLine; decide), fun C nC => ⟨(by show 4 ≤ sizeLine; decide), fun fo nf => ?_⟩⟩⟩⟩
  have hAB : A1 ≠ B := fun e => by rw [← e, upd_same] at nB; cases nB
  have hBC : B ≠ C := fun e => by rw [← e, upd_same] at nC; cases nC
  have hAC : A1 ≠ C := fun e => by rw [← e, upd_ne hAB, upd_same] at nC; cases nC
  have hfC : fo ≠ C := fun e => by rw [e, upd_same] at nf; cases nf
  have hfB : fo ≠ B := fun e => by rw [e, upd_ne hBC, upd_same] at nf; cases nf
  have hfA : fo ≠ A1 := fun e => by rw [e, upd_ne hAC, upd_ne hAB, upd_same] at nf; cases nf
  have s4 := (((same_upd (o := HO.lst []) nA).trans (same_upd (o := HO.lst []) nB)).trans (same_upd (o := HO.lst []) nC)).trans (same_upd (o := HO.lst [V.ref A1, .ref B, .ref C, .int 0]) nf)
  have F0 : Fd (upd (upd (upd (upd H1 A1 (.lst [])) B (.lst [])) C (.lst [])) fo (.lst [V.ref A1, .ref B, .ref C, .int 0])) fo A1 B C [] [] [] 0 := ⟨upd_same, by rw [upd_ne (Ne.symm hfA), upd_ne hAC, upd_ne hAB, upd_same]; rfl, by rw [upd_ne (Ne.symm hfB), upd_ne hBC, upd_same]; rfl, by rw [upd_ne (Ne.symm hfC), upd_same], ⟨hfA, hfB, hfC, hAB, hAC, hBC⟩⟩
  generalize upd (upd (upd (upd H1 A1 (.lst [])) B (.lst [])) C (.lst [])) fo (.lst [V.ref A1, .ref B, .ref C, .int 0]) = H2 at s4 F0 ⊢
  have W2 := W1.same s4
  have hd2 := dp_mono s4 _ _ hd
  dsimp only [gName, tSeq]
  refine ⟨_, rfl, (by show 0 ≤ sizeLine; decide), fun ar nar => ⟨_, rfl, ?_⟩⟩
  have s5 := same_upd (o := HO.lst []) nar
  have har : (upd H2 ar (.lst [])) ar = some (.lst (([] : List Str).map V.str)) := upd_same
  have har0 := F0.out nar
  have F1 := F0.same s5
  have W3 := W2.same s5
  have hd3 := dp_mono s5 _ _ hd2
  have hfree : ∀ x, (upd H2 ar (.lst [])) x = none → H x = none := fun x h => W3.free h
  generalize upd H2 ar (.lst []) = H3 at s5 har F1 W3 hd3 hfree ⊢
  refine ⟨v, ar, fo, A1, B, C, 0, d, [], [], [], an, bn, [], cn, 0, cw, rfl, hd3, hN, hWk, har, har0, F1, by simp; omega, by simp; omega, by simp; omega, by decide, fun H4 hSt => ?_⟩
  obtain ⟨ws, F4, hws, Fr4⟩ := hSt
  rw [List.nil_append, List.nil_append, List.nil_append, Nat.zero_add] at F4
  have hd4 := dp_lists (F1.lists Fr4) hN hd3
  have hbo : Out fo A1 B C b := by
    obtain ⟨x, y, z, hbb, _⟩ := W1.bag
    refine ⟨fun e => ?_, fun e => ?_, fun e => ?_, fun e => ?_⟩
    · have := F0.ff; rw [← e, s4 _ _ hbb] at this; injection this with this; injection this with this; injection this with this; cases this
    · have := F0.a; rw [← e, s4 _ _ hbb] at this; cases this
    · have := F0.b; rw [← e, s4 _ _ hbb] at this; cases this
    · have := F0.c; rw [← e, s4 _ _ hbb] at this; cases this
  have hnA : H A1 = none := W1.free nA
  have hnB : H B = none := W1.free ((same_upd nA).free nB)
  have hnC : H C = none := W1.free (((same_upd nA).trans (same_upd nB)).free nC)
  have hnf : H fo = none := W1.free ((((same_upd nA).trans (same_upd nB)).trans (same_upd nC)).free nf)
  have W4 : Went b m H H4 := by
    obtain ⟨x, y, z, hbb, hB⟩ := W3.bag
    refine ⟨⟨x, y, z, Fr4 _ _ hbo hbb, hB⟩, fun a o h e => Fr4 _ _ ⟨fun e2 => ?_, fun e2 => ?_, fun e2 => ?_, fun e2 => ?_⟩ (W3.rest a o h e)⟩
    · rw [e2, hnf] at e; cases e
    · rw [e2, hnA] at e; cases e
    · rw [e2, hnB] at e; cases e
    · rw [e2, hnC] at e; cases e
  clear Fr4 F1 F0 har W3 W2 hd3 hd2 s4 s5 W1
  dsimp only [tSeq]
  refine ⟨_, rfl, v, d, rows, rfl, hd4, hM.mt, hRO, fun p1 ys1 H5 s5 np1 hq1 hs1 => ⟨_, rfl, v, d, rows, rfl, dp_mono s5 _ _ hd4, hM.mt, hRO, fun p2 ys2 H6 s6 np2 hq2 hs2 => ⟨_, rfl, v, d, rows, rfl, dp_mono (s5.trans s6) _ _ hd4, hM.mt, hRO.all, by omega, hRO.bound, fun p3 xs3 H7 s7 np3 hp3 hx3 => ⟨_, _, _, rfl, ?_⟩⟩⟩⟩
  rw [← hWO.c] at hx3
  have sA := (s5.trans s6).trans s7
  have F7 := F4.same sA
  have W7 := W4.same sA
  have hd7 := dp_mono sA _ _ hd4
  have hws7 := blk_lists (Same.lists sA) hws
  have hp1 := (s6.trans s7) _ _ hq1
  have hp2 := s7 _ _ hq2
  have np2' : H4 p2 = none := s5.free np2
  have np3' : H4 p3 = none := (s5.trans s6).free np3
  have o1 := F4.out np1
  have o2 := F4.out np2'
  have o3 := F4.out np3'
  have h12 : p1 ≠ p2 := fun e => by rw [← e, hq1] at np2; cases np2
  have h13 : p1 ≠ p3 := fun e => by rw [← e, s6 _ _ hq1] at np3; cases np3
  have h23 : p2 ≠ p3 := fun e => by rw [← e, hq2] at np3; cases np3
  have ascA : ∀ (HB H' : Hp) (σ : L2.St) (Q : VK), Fd HB fo A1 B C an bn ws cw → σ[2]? = some (some (.ref fo)) → Same HB H' → (∀ p H'', Same H' H'' → H'' p = some (.lst (ys1.map V.str)) → Q (.ref p) H'') → tCall spAsc [] E0 (tCons (tOp (rIxL K) (tVar 2) (tC (.int 0))) tNil) σ H' Q := fun HB H' σ Q hF hσ hs k => ⟨_, hσ, fo, _, 0, _, rfl, rfl, SqL.of (hs _ _ hF.ff), rfl, A1, an, rfl, hs _ _ hF.a, by omega, fun p ys H'' s'' np hp hso => k p H'' s'' (by rw [← hso.uniq hs1 ha']; exact hp)⟩
  have ascB : ∀ (HB H' : Hp) (σ : L2.St) (Q : VK), Fd HB fo A1 B C an bn ws cw → σ[2]? = some (some (.ref fo)) → Same HB H' → (∀ p H'', Same H' H'' → H'' p = some (.lst (ys2.map V.str)) → Q (.ref p) H'') → tCall spAsc [] E0 (tCons (tOp (rIxL K) (tVar 2) (tC (.int 1))) tNil) σ H' Q := fun HB H' σ Q hF hσ hs k => ⟨_, hσ, fo, _, 1, _, rfl, rfl, SqL.of (hs _ _ hF.ff), rfl, B, bn, rfl, hs _ _ hF.b, by omega, fun p ys H'' s'' np hp hso => k p H'' s'' (by rw [← hso.uniq hs2 hb']; exact hp)⟩
  have sh1 : SeqAt.shaped (.list (ys1.map .str)) = true := shaped_lf hlay hPre (fun z r h => lf_free h) hs1 fun z => Iff.rfl
  have sh2 : SeqAt.shaped (.list (ys2.map .str)) = true := shaped_lf hlay hPre (fun z r h => lf_sel h) hs2 fun z => Iff.rfl
  dsimp only [tSeq]
  refine skip_if (EvT.to (evt_or (evt_not (evt_b (e_isi (b := true) rfl (fun _ h => .base (.lst (h _ _ hp1))) (kit_ty (by decide +kernel))))) fun _ => evt_test (x := false) fun H' Q hs kq => ⟨_, rfl, ascA H7 H' _ _ F7 rfl hs fun p H'' s'' hp => ⟨.list (ys1.map .str), .list (ys1.map .str), Dp.lst (SqL.of (s'' _ _ (hs _ _ hp1))) (dpAll_strs _), Dp.lst (SqL.of hp) (dpAll_strs _), sh1, sh1, by rw [eqv_strs]; exact kq _ (hs.trans s'')⟩⟩) rfl) (Same.refl H7) (fun H8 s8 => ?_)
  dsimp only [tSeq]
  refine skip_if (EvT.to (evt_or (evt_not (evt_b (e_isi (b := true) rfl (fun _ h => .base (.lst (h _ _ hp2))) (kit_ty (by decide +kernel))))) fun _ => evt_test (x := false) fun H' Q hs kq => ⟨_, rfl, ascB H7 H' _ _ F7 rfl hs fun p H'' s'' hp => ⟨.list (ys2.map .str), .list (ys2.map .str), Dp.lst (SqL.of (s'' _ _ (hs _ _ hp2))) (dpAll_strs _), Dp.lst (SqL.of hp) (dpAll_strs _), sh2, sh2, by rw [eqv_strs]; exact kq _ (hs.trans s'')⟩⟩) rfl) s8 (fun H9 s9 => ?_)
  dsimp only [tSeq]
  refine skip_if (EvT.to (evt_or (x := false) (evt_not (x := true) (evt_b fun H' Q hs kq => ⟨_, rfl, _, rfl, fo, _, 2, _, rfl, rfl, SqL.of (hs _ _ F7.ff), rfl, p3, C, xs3, ws, cn, rfl, hs _ _ hp3, hs _ _ F7.c, blk_lists (Same.lists hs) hx3, blk_lists (Same.lists hs) hws7, fun Hx sx => kq _ (hs.trans sx)⟩)) fun _ => evt_b (x := false) fun H' Q hs kq => ⟨_, rfl, v, d, rows, rfl, dp_mono hs _ _ hd7, hM.mt, hRO.all, by omega, hRO.bound, fun Hx sx => ⟨_, _, _, _, false, rfl, ClsV.ty _, .base (.int _), kit_ty (by decide +kernel), kq _ (hs.trans sx)⟩⟩) rfl) s9 (fun H10 s10 => ?_)
  dsimp only [tSeq]
  have l1 : ys1.length ≤ 3000 := Nat.le_trans hs1.2.2.2 (by rw [← hWO.a]; omega)
  have l2 : ys2.length ≤ 9000 := Nat.le_trans hs2.2.2.2 (by rw [← hWO.b.length_eq]; omega)
  have l3 : xs3.length ≤ 3000 := by rw [paired_len hx3]; exact hcl
  refine ⟨_, rfl, .inl ⟨rfl, _, SqL.of (s10 _ _ hp1)⟩, p1, _, .str _, rfl, rfl, s10 _ _ hp1, Nat.lt_of_le_of_lt (show (ys1.map V.str).length ≤ 3000 by rw [List.length_map]; exact l1) (by decide), ?_⟩
  refine ⟨_, rfl, .inl ⟨rfl, _, SqL.of (by rw [upd_ne (Ne.symm h12)]; exact s10 _ _ hp2)⟩, p2, _, .str _, rfl, rfl, by rw [upd_ne (Ne.symm h12)]; exact s10 _ _ hp2, Nat.lt_of_le_of_lt (show (ys2.map V.str).length ≤ 9000 by rw [List.length_map]; exact l2) (by decide), ?_⟩
  refine ⟨_, rfl, .inl ⟨rfl, _, SqL.of (by rw [upd_ne (Ne.symm h23), upd_ne (Ne.symm h13)]; exact s10 _ _ hp3)⟩, (by show 3 ≤ sizeLine; decide), fun t nt => ⟨p3, xs3, .ref t, rfl, rfl, same_upd nt _ _ (by rw [upd_ne (Ne.symm h23), upd_ne (Ne.symm h13)]; exact s10 _ _ hp3), Nat.lt_of_le_of_lt l3 (by decide), ?_⟩⟩
  have q1 : (upd H10 p1 (.lst (ys1.map V.str ++ [.str "x"]))) p2 = some (.lst (ys2.map V.str)) := by rw [upd_ne (Ne.symm h12)]; exact s10 _ _ hp2
  have q2 : (upd (upd H10 p1 (.lst (ys1.map V.str ++ [.str "x"]))) p2 (.lst (ys2.map V.str ++ [.str "x"]))) p3 = some (.lst xs3) := by rw [upd_ne (Ne.symm h23), upd_ne (Ne.symm h13)]; exact s10 _ _ hp3
  have lX : Lists H7 (upd (upd (upd (upd H10 p1 (.lst (ys1.map V.str ++ [.str "x"]))) p2 (.lst (ys2.map V.str ++ [.str "x"]))) t (.tup [V.int 0, .int 0, .bl false])) p3 (.lst (xs3 ++ [.ref t]))) :=
    (((Same.lists s10).trans (lists_upd (s10 _ _ hp1))).trans (lists_upd q1)).trans ((Same.lists (same_upd nt)).trans (lists_upd (same_upd nt _ _ q2)))
  have keep : ∀ x o, x ≠ p1 → x ≠ p2 → x ≠ p3 → H7 x = some o → (upd (upd (upd (upd H10 p1 (.lst (ys1.map V.str ++ [.str "x"]))) p2 (.lst (ys2.map V.str ++ [.str "x"]))) t (.tup [V.int 0, .int 0, .bl false])) p3 (.lst (xs3 ++ [.ref t]))) x = some o := fun x o e1 e2 e3 h => by
    rw [upd_ne e3]
    exact same_upd nt _ _ (by rw [upd_ne e2, upd_ne e1]; exact s10 _ _ h)
  have FB : Fd (upd (upd (upd (upd H10 p1 (.lst (ys1.map V.str ++ [.str "x"]))) p2 (.lst (ys2.map V.str ++ [.str "x"]))) t (.tup [V.int 0, .int 0, .bl false])) p3 (.lst (xs3 ++ [.ref t]))) fo A1 B C an bn ws cw := ⟨keep _ _ (Ne.symm o1.1) (Ne.symm o2.1) (Ne.symm o3.1) F7.ff, keep _ _ (Ne.symm o1.2.1) (Ne.symm o2.2.1) (Ne.symm o3.2.1) F7.a, keep _ _ (Ne.symm o1.2.2.1) (Ne.symm o2.2.2.1) (Ne.symm o3.2.2.1) F7.b, keep _ _ (Ne.symm o1.2.2.2) (Ne.symm o2.2.2.2) (Ne.symm o3.2.2.2) F7.c, F7.ne⟩
  have hdB := dp_lists lX hN hd7
  have hwsB := blk_lists lX hws7
  have hp1H : H p1 = none := W4.free np1
  have hp2H : H p2 = none := W4.free np2'
  have hp3H : H p3 = none := W4.free np3'
  have WB : Went b m H (upd (upd (upd (upd H10 p1 (.lst (ys1.map V.str ++ [.str "x"]))) p2 (.lst (ys2.map V.str ++ [.str "x"]))) t (.tup [V.int 0, .int 0, .bl false])) p3 (.lst (xs3 ++ [.ref t]))) := by
    obtain ⟨x, y, z, hbb, hB⟩ := W7.bag
    have b1 : b ≠ p1 := fun e => by obtain ⟨x, y, z, hb4, _⟩ := W4.bag; rw [← e, hb4] at np1; cases np1
    have b2 : b ≠ p2 := fun e => by obtain ⟨x, y, z, hb4, _⟩ := W4.bag; rw [← e, hb4] at np2'; cases np2'
    have b3 : b ≠ p3 := fun e => by obtain ⟨x, y, z, hb4, _⟩ := W4.bag; rw [← e, hb4] at np3'; cases np3'
    exact ⟨⟨x, y, z, keep _ _ b1 b2 b3 hbb, hB⟩, fun a o h e => keep _ _ (fun e2 => by rw [e2, hp1H] at e; cases e) (fun e2 => by rw [e2, hp2H] at e; cases e) (fun e2 => by rw [e2, hp3H] at e; cases e) (W7.rest a o h e)⟩
  generalize upd (upd (upd (upd H10 p1 (.lst (ys1.map V.str ++ [.str "x"]))) p2 (.lst (ys2.map V.str ++ [.str "x"]))) t (.tup [V.int 0, .int 0, .bl false])) p3 (.lst (xs3 ++ [.ref t])) = HB at FB hdB hwsB WB ⊢
  clear lX keep q1 q2
  dsimp only [tSeq]
  refine skip_if (EvT.to (evt_or (evt_test (x := false) fun H' Q hs kq => ⟨_, rfl, v, d, rows, rfl, dp_mono hs _ _ hdB, hM.mt, hRO, fun p ys Hx sx np hp hso => ascA HB Hx _ _ FB rfl (hs.trans sx) fun p' Hy sy hp' => ⟨.list (ys.map .str), .list (ys1.map .str), Dp.lst (SqL.of (sy _ _ hp)) (dpAll_strs _), Dp.lst (SqL.of hp') (dpAll_strs _), shaped_lf hlay hPre (fun z r h => lf_free h) hso fun z => Iff.rfl, sh1, by rw [hso.uniq hs1 fun z => Iff.rfl, eqv_strs]; exact kq _ ((hs.trans sx).trans sy)⟩⟩) fun _ => evt_test (x := false) fun H' Q hs kq => ⟨_, rfl, v, d, rows, rfl, dp_mono hs _ _ hdB, hM.mt, hRO, fun p ys Hx sx np hp hso => ascB HB Hx _ _ FB rfl (hs.trans sx) fun p' Hy sy hp' => ⟨.list (ys.map .str), .list (ys2.map .str), Dp.lst (SqL.of (sy _ _ hp)) (dpAll_strs _), Dp.lst (SqL.of hp') (dpAll_strs _), shaped_lf hlay hPre (fun z r h => lf_sel h) hso fun z => Iff.rfl, sh2, by rw [hso.uniq hs2 fun z => Iff.rfl, eqv_strs]; exact kq _ ((hs.trans sx).trans sy)⟩⟩) rfl) (Same.refl HB) (fun H11 s11 => ?_)
  dsimp only [tSeq]
  refine skip_if (EvT.to (evt_or (evt_test (x := false) fun H' Q hs kq => ⟨_, rfl, v, d, rows, rfl, dp_mono hs _ _ hdB, hM.mt, hRO.all, by omega, hRO.bound, fun p xs Hx sx np hp hxx => ⟨_, rfl, fo, _, 2, _, rfl, rfl, SqL.of ((hs.trans sx) _ _ FB.ff), rfl, .list (cn.map bdD), .list (cn.map bdD), Dp.lst (SqL.of hp) (by rw [hWO.c]; exact dpAll_blk hxx), Dp.lst (SqL.of ((hs.trans sx) _ _ FB.c)) (dpAll_blk (blk_lists (Same.lists (hs.trans sx)) hwsB)), shaped_blk cn, shaped_blk cn, by rw [eqv_blk]; exact kq _ (hs.trans sx)⟩⟩) fun _ => evt_test (x := false) fun H' Q hs kq => ⟨_, rfl, v, d, rows, rfl, dp_mono hs _ _ hdB, hM.mt, hRO.all, by omega, hRO.bound, fun Hx sx => ⟨_, rfl, fo, _, 3, _, rfl, rfl, SqL.of ((hs.trans sx) _ _ FB.ff), rfl, rfl, by rw [hrl, decide_eq_true rfl]; exact kq _ (hs.trans sx)⟩⟩) rfl) s11 (fun H12 s12 => ?_)
  dsimp only [tSeq]
  have W12 := WB.same s12
  have hd12 := dp_mono s12 _ _ hdB
  have hSh := hM.showy
  have hMt := hM.mt
  obtain ⟨s, ps, vs, sts, cc, hde, m1, m2, m3, m4, m5, _, _, _⟩ := hM.ex
  obtain ⟨a0, us, hv, hT, hA⟩ : ∃ a0 us, v = .ref a0 ∧ SqT K H12 a0 us ∧ DpAll K H12 us [.str kMeth, .str s, .tuple (ps.map .str), .tuple (vs.map .str), .tuple sts] := by
    rw [hde] at hd12
    exact dp_tup hd12
  subst hv
  cases hA with | cons g0 hA =>
  cases hA with | cons g1 hA =>
  cases hA with | cons g2 hA =>
  cases hA with | cons g3 hA =>
  cases hA with | cons g4 hA =>
  cases hA
  obtain ⟨bp, rfl, gp⟩ := dp_strs g2
  refine ⟨(by show 5 ≤ sizeLine; decide), fun L nL => ⟨L, rfl, ⟨_, SqL.of upd_same⟩, fun D nD => ?_⟩⟩
  have sL := same_upd (o := HO.lst (fw.map V.str)) nL
  have hL : (upd H12 L (.lst (fw.map V.str))) L = some (.lst (fw.map V.str)) := upd_same
  have nD : (upd H12 L (.lst (fw.map V.str))) D = none := nD
  refine lc_list (K := K) (a := L) (xs := fw.map V.str) (fun j H' => H' D = some (.lst (((fw.take j).filter fun w => freshOf d.shown w).map V.str)) ∧ Same (upd H12 L (.lst (fw.map V.str))) H') ⟨upd_same, same_upd nD⟩ (fun j H' _ R => SqL.of (R.2 _ _ hL)) (fun j x H' hx R => ?_) (fun H13 R => ?_)
  · rw [List.getElem?_map] at hx
    obtain ⟨y, hy, rfl⟩ := Option.map_eq_some_iff.mp hx
    refine ⟨rfl, _, rfl, _, rfl, a0, d, rfl, dp_mono (sL.trans R.2) _ _ hd12, hSh, _, _, rfl, rfl, freshOf d.shown y, rfl, ?_⟩
    cases hcn : freshOf d.shown y with
    | true =>
      refine iteT ⟨_, rfl, _, R.1, ?_, ?_, same_free R.2 nD⟩
      · rw [List.length_map]
        exact Nat.lt_of_le_of_lt (Nat.le_trans (List.length_filter_le _ _) (show (fw.take j).length ≤ 5 by rw [List.length_take]; exact Nat.min_le_right _ _)) (by decide)
      · rw [upd_same, List.take_succ, hy, List.filter_append]
        simp [hcn]
    | false =>
      refine iteF ⟨?_, R.2⟩
      rw [List.take_succ, hy, List.filter_append, R.1]
      simp [hcn]
  obtain ⟨hD, s13⟩ := R
  rw [List.length_map, List.take_length] at hD
  have hNm : ∀ z ∈ fw.filter (fun w => freshOf d.shown w), z ∈ fw ∧ freshOf d.shown z = true := fun z hz => List.mem_filter.mp hz
  generalize fw.filter (fun w => freshOf d.shown w) = N at hD hNm
  have s14 := sL.trans s13
  have T13 := SqT.mono s14 hT
  have gp13 := SqT.mono s14 gp
  have hd13 := dp_mono s14 _ _ hd12
  have W13 := W12.same s14
  have shN : SeqAt.shaped (.list (N.map .str)) = true := shaped_strs fun z hz => (local_okN (fw_ok z (hNm z hz).1).1).1
  have shP : SeqAt.shaped (.list (ps.map .str)) = true := shaped_strs fun z hz => (local_okN (m4 z (List.mem_append_left _ hz))).1
  dsimp only [gName, tSeq]
  refine if_ev (H0 := H13) (b := (decide (N.map PyData.str = []) || decide (ps.map PyData.str = []))) (evt_or (evt_test fun H' Q hs kq => ⟨_, rfl, (by show 0 ≤ sizeLine; decide), fun p np => ⟨.list (N.map .str), .list [], Dp.lst (SqL.of (same_upd np _ _ (hs _ _ hD))) (dpAll_strs _), Dp.lst (SqL.of upd_same) .nil, shN, shaped_nil, by rw [eqv_nil]; exact kq _ (hs.trans (same_upd np))⟩⟩) fun _ => evt_test fun H' Q hs kq => ⟨_, rfl, a0, _, 2, _, rfl, rfl, SqT.mono hs T13, rfl, (by show 0 ≤ sizeLine; decide), fun p np => ⟨.tuple (ps.map .str), .tuple [], Dp.tup (SqT.mono (hs.trans (same_upd np)) gp13) (dpAll_strs _), Dp.tup (SqT.of upd_same) .nil, shaped_tl shP, shaped_tl shaped_nil, by rw [eqv_nilT]; exact kq _ (hs.trans (same_upd np))⟩⟩) (Same.refl H13) (fun ht H14 s15 => ?_) (fun ht H14 s15 => ?_)
  · exact q m _ (W13.same s15)
  rw [Bool.or_eq_false_iff] at ht
  match N, ps, ht, hD, hNm, m4, gp13, hde with
  | [], _, ht, _, _, _, _, _ => exact absurd ht.1 (by decide)
  | _ :: _, [], ht, _, _, _, _, _ => exact absurd ht.2 (by decide)
  | z0 :: N', n0 :: ps', ht, hD, hNm, m4, gp13, hde =>
    obtain ⟨hz1, hz2⟩ := hNm z0 List.mem_cons_self
    obtain ⟨hz3, hz4⟩ := fw_ok z0 hz1
    have hno := fresh_no hPre hz4 hz2
    have hdecl : n0 ∈ rows.flatMap declR := by
      cases hPre with
      | mk hp ho h =>
        refine List.mem_flatMap.mpr ⟨_, List.mem_cons_self, ?_⟩
        rw [hde]
        show n0 ∈ (if kMeth = kMeth then strsD ((n0 :: ps').map PyData.str) ++ strsD (vs.map PyData.str) else [])
        rw [if_pos rfl, strsD_map]
        exact List.mem_append_left _ List.mem_cons_self
    obtain ⟨e, hRen, hGe⟩ := hGs.ren 42 (by decide) n0 z0 (local_okN hz3) false
    have hSe := hGe.showy (by decide) (by omega)
    obtain ⟨es, hes⟩ := hGe.tup
    have dpe : ∀ {Hx : Hp} {y : V}, Dp K Hx y e → ∃ ay, y = .ref ay := fun h => by
      rw [hes] at h
      obtain ⟨ay, _, hy, _⟩ := dp_tup h
      exact ⟨ay, hy⟩
    have hD14 := s15 _ _ hD
    have T14 := SqT.mono s15 T13
    have gp14 := SqT.mono s15 gp13
    refine ⟨_, rfl, D, _, 0, _, rfl, rfl, SqL.of hD14, atI_nat rfl, _, rfl, a0, _, 2, _, rfl, rfl, T14, rfl, bp, _, 0, _, rfl, rfl, gp14, atI_nat rfl, _, rfl, .ref a0, n0, z0, d, e, rows, rfl, dp_mono s15 _ _ hd13, hMt, hRO, hdecl, hz3, hno, hRen, hGe.nol, fun y H15 s16 hy => ?_⟩
    obtain ⟨ay, rfl⟩ := dpe hy
    refine ⟨ay, e, rfl, hy, hSe, ?_⟩
    have s17 := s15.trans s16
    refine ⟨_, rfl, _, rfl, a0, _, 2, _, rfl, rfl, SqT.mono s16 T14, rfl, bp, _, 0, _, rfl, rfl, SqT.mono s16 gp14, atI_nat rfl, _, rfl, D, _, 0, _, rfl, rfl, SqL.of (s16 _ _ hD14), atI_nat rfl, .ref a0, n0, z0, d, e, rows, rfl, dp_mono s17 _ _ hd13, hMt, hRO, hdecl, hz3, hno, hRen, hGe.nol, fun y2 H16 s18 hy2 => ?_⟩
    obtain ⟨ay2, rfl⟩ := dpe hy2
    refine ⟨ay2, e, rfl, hy2, hSe, rfl, ?_⟩
    rw [decide_eq_true rfl]
    exact q m _ (W13.same (s17.trans s18))
end
end My8

end
section
set_option Elab.async false
set_option linter.all false
set_option maxRecDepth 100000
set_option maxHeartbeats 2000000
namespace My8
open PySem PySem.Spec PyProof.Rows L2 My
open TrM TL
abbrev s_law : Stmt := top 75
def spLaw8 (K : PySem.W.Frag) : Sp := fun vs H Q _ => ∃ (a : Addr) (ns : List Int), vs = [.ref a] ∧ SqL K H a (ns.map V.int) ∧ ns.length ≤ 63 ∧ ∀ H', Q (.bl true) H'
section
variable {P : Program} {w : World} {K : PySem.W.Frag} {mg : Str → Option Value} {base : Heap}
theorem sc_law : FnScope ["_law_script", "_law_k"] ["_law_script"] (defScope s_law) := ⟨rfl, rfl, rfl, by decide +kernel, rfl, by decide +kernel, by decide +kernel⟩
theorem ok_law {f fB fR : Addr} {fd fdB fdR : FuncData} (F : FnP K "law" s_law f fd)
    (G_law_bag : FnOk P w K mg base CX0 2 fB fdB ["_law_script", "_law_k"] (spBag K)) (g_law_bag : mg "_law_bag" = some (.ref fB)) (k_law_bag : PySem.W.keepIn K (.ref fB) = true) (b_law_bag : Binds K fdB ["_law_script", "_law_k"] [])
    (G_law_right : GnOk P w K mg base CX0 131 fR fdR ["_law_bag_here"] spRightX) (g_law_right : mg "_law_right" = some (.ref fR)) (k_law_right : PySem.W.keepIn K (.ref fR) = true) (b_law_right : Binds K fdR ["_law_bag_here"] [])
    (g_len : mg "len" = none) (g_max : mg "max" = none) (g_min : mg "min" = none) (g_range : mg "range" = none) :
    GnOk P w K mg base CX0 140 f fd ["_law_script"] (spLaw8 K) := by
  refine gn_of F sc_law (fun vs H Q E h => ?_) (fun cdv A outer s H vs Q E hg hr h => ⟨_, PSs.nox
    (pss_cons (ps_for PassesOwn.never rfl (pi_range1 (by rfl) g_range (pa_cons (pe_callB (call_max2 rfl) (by rfl) g_max (by decide +kernel) (pa_cons pe_int (pa_cons (pe_callB (call_min2 rfl) (by rfl) g_min (by decide +kernel) (pa_cons (pe_callB call_len_seq (by rfl) g_len PySem.boot_len (pa_cons (pv 0) pa_nil)) (pa_cons pe_int pa_nil))) pa_nil))) pa_nil)) (pg_name (i := 1) sc_law.nd rfl (Or.inl rfl)) (pss_one (ps_if (pt_not (pt_val (pe_callG G_law_right hg (hr.mono (by decide)) rfl g_law_right k_law_right b_law_right .nil pass0 (pa_cons (pe_call G_law_bag (hr.mono (by decide)) rfl g_law_bag k_law_bag b_law_bag .nil pass0 (pa_cons (pv 0) (pa_cons (pv 1) pa_nil))) pa_nil)))) (pss_one (ps_ret pe_bl)) pss_nil)))
      (pss_one (ps_ret pe_bl))), ?_⟩)
  · obtain ⟨a, ns, rfl, _⟩ := h
    rfl
  obtain ⟨a, ns, rfl, hS, hn, q⟩ := h
  have hl : (ns.map V.int).length ≤ 63 := by rw [List.length_map]; exact hn
  refine ⟨_, rfl, _, _, rfl, .inl hS, _, _, rfl, _, _, rfl, ?_⟩
  refine ⟨_, rfl, ?b1, ?b2, for_range (lo := 0) (fun i σ H' => ∃ v, σ = [some (.ref a), v] ∧ Same H H') ⟨_, rfl, Same.refl H⟩ ?turn ?last⟩
  case b1 => split <;> split <;> omega
  case b2 => split <;> split <;> omega
  case turn =>
    rintro i σ H1 hi ⟨v, rfl, s1⟩
    have hi2 : i ≤ 100 := by
      have : i < 64 := by
        refine Nat.lt_of_lt_of_le hi ?_
        split <;> split <;> omega
      omega
    refine ⟨_, rfl, _, rfl, a, ns, i, by simp, SqL.mono s1 hS, hi2, by omega, fun H2 p x y z s2 np hp hB => ?_⟩
    refine ⟨p, 10000, rfl, ⟨x, y, z, hp, hB⟩, by omega, fun m H3 W3 => ⟨true, rfl, iteB rfl ⟨_, rfl, fun b o e => ?_⟩⟩⟩
    have e2 := s2 _ _ (s1 _ _ e)
    have hne : b ≠ p := ne_of_none (s1 _ _ e) np
    exact W3.rest b o hne e2
  case last =>
    rintro σ H1 ⟨v, rfl, s1⟩
    exact q H1
end
end My8

end
section
set_option Elab.async false
set_option linter.all false
set_option maxRecDepth 100000
set_option maxHeartbeats 0
namespace My8
open PySem PySem.Spec PyProof.Rows PySem.HandSPX L2 My TrM TL
def df0 : He.DefD := ⟨("is_text", none), "is_text", "is_text", defArgs s_is_text, defBody s_is_text, defScope s_is_text, [], []⟩
def df1 : He.DefD := ⟨("is_name", none), "is_name", "is_name", defArgs s_is_name, defBody s_is_name, defScope s_is_name, [], []⟩
def df2 : He.DefD := ⟨("is_local_word", none), "is_local_word", "is_local_word", defArgs s_is_local_word, defBody s_is_local_word, defScope s_is_local_word, [], []⟩
def df3 : He.DefD := ⟨("is_keywords", none), "is_keywords", "is_keywords", defArgs s_is_keywords, defBody s_is_keywords, defScope s_is_keywords, [], []⟩
def df4 : He.DefD := ⟨("arity_of", none), "arity_of", "arity_of", defArgs s_arity_of, defBody s_arity_of, defScope s_arity_of, [], []⟩
def df5 : He.DefD := ⟨("parts_of", none), "parts_of", "parts_of", defArgs s_parts_of, defBody s_parts_of, defScope s_parts_of, [], []⟩
def df6 : He.DefD := ⟨("all_parts", none), "all_parts", "all_parts", defArgs s_all_parts, defBody s_all_parts, defScope s_all_parts, [], []⟩
def df7 : He.DefD := ⟨("free_names", none), "free_names", "free_names", defArgs s_free_names, defBody s_free_names, defScope s_free_names, [], []⟩
def df8 : He.DefD := ⟨("declared_names", none), "declared_names", "declared_names", defArgs s_declared_names, defBody s_declared_names, defScope s_declared_names, [], []⟩
def df9 : He.DefD := ⟨("named_words", none), "named_words", "named_words", defArgs s_named_words, defBody s_named_words, defScope s_named_words, [], []⟩
def df10 : He.DefD := ⟨("sent_selectors", none), "sent_selectors", "sent_selectors", defArgs s_sent_selectors, defBody s_sent_selectors, defScope s_sent_selectors, [], []⟩
def df11 : He.DefD := ⟨("kind_of", none), "kind_of", "kind_of", defArgs s_kind_of, defBody s_kind_of, defScope s_kind_of, [], []⟩
def df12 : He.DefD := ⟨("is_method_form", none), "is_method_form", "is_method_form", defArgs s_is_method_form, defBody s_is_method_form, defScope s_is_method_form, [], []⟩
def df13 : He.DefD := ⟨("body_fits", none), "body_fits", "body_fits", defArgs s_body_fits, defBody s_body_fits, defScope s_body_fits, [], []⟩
def df14 : He.DefD := ⟨("declare_all", none), "declare_all", "declare_all", defArgs s_declare_all, defBody s_declare_all, defScope s_declare_all, [], []⟩
def df15 : He.DefD := ⟨("last_fits", none), "last_fits", "last_fits", defArgs s_last_fits, defBody s_last_fits, defScope s_last_fits, [], []⟩
def df16 : He.DefD := ⟨("tree_fits", none), "tree_fits", "tree_fits", defArgs s_tree_fits, defBody s_tree_fits, defScope s_tree_fits, [], []⟩
def df17 : He.DefD := ⟨("literal_fits", none), "literal_fits", "literal_fits", defArgs s_literal_fits, defBody s_literal_fits, defScope s_literal_fits, [], []⟩
def df18 : He.DefD := ⟨("is_short_integer", none), "is_short_integer", "is_short_integer", defArgs s_is_short_integer, defBody s_is_short_integer, defScope s_is_short_integer, [], []⟩
def df19 : He.DefD := ⟨("items_fit", none), "items_fit", "items_fit", defArgs s_items_fit, defBody s_items_fit, defScope s_items_fit, [], []⟩
def df20 : He.DefD := ⟨("item_fits", none), "item_fits", "item_fits", defArgs s_item_fits, defBody s_item_fits, defScope s_item_fits, [], []⟩
def df21 : He.DefD := ⟨("can_be_set", none), "can_be_set", "can_be_set", defArgs s_can_be_set, defBody s_can_be_set, defScope s_can_be_set, [], []⟩
def df22 : He.DefD := ⟨("message_fits", none), "message_fits", "message_fits", defArgs s_message_fits, defBody s_message_fits, defScope s_message_fits, [], []⟩
def df23 : He.DefD := ⟨("messages_fit", none), "messages_fit", "messages_fit", defArgs s_messages_fit, defBody s_messages_fit, defScope s_messages_fit, [], []⟩
def df24 : He.DefD := ⟨("check_tree", none), "check_tree", "check_tree", defArgs s_check_tree, defBody s_check_tree, defScope s_check_tree, [], []⟩
def df25 : He.DefD := ⟨("tree_size", none), "tree_size", "tree_size", defArgs s_tree_size, defBody s_tree_size, defScope s_tree_size, [], []⟩
def df26 : He.DefD := ⟨("names_free", none), "names_free", "names_free", defArgs s_names_free, defBody s_names_free, defScope s_names_free, [], []⟩
def df27 : He.DefD := ⟨("selectors_of", none), "selectors_of", "selectors_of", defArgs s_selectors_of, defBody s_selectors_of, defScope s_selectors_of, [], []⟩
def df28 : He.DefD := ⟨("renamed", none), "renamed", "renamed", defArgs s_renamed, defBody s_renamed, defScope s_renamed, [], []⟩
def df29 : He.DefD := ⟨("with_name", none), "with_name", "with_name", defArgs s_with_name, defBody s_with_name, defScope s_with_name, [], []⟩
def df30 : He.DefD := ⟨("all_with_name", none), "all_with_name", "all_with_name", defArgs s_all_with_name, defBody s_all_with_name, defScope s_all_with_name, [], []⟩
def df31 : He.DefD := ⟨("body_with_name", none), "body_with_name", "body_with_name", defArgs s_body_with_name, defBody s_body_with_name, defScope s_body_with_name, [], []⟩
def df32 : He.DefD := ⟨("replaced", none), "replaced", "replaced", defArgs s_replaced, defBody s_replaced, defScope s_replaced, [], []⟩
def df33 : He.DefD := ⟨("blocks_of", none), "blocks_of", "blocks_of", defArgs s_blocks_of, defBody s_blocks_of, defScope s_blocks_of, [], []⟩
def df34 : He.DefD := ⟨("_law_bag", none), "_law_bag", "_law_bag", defArgs s_law_bag, defBody s_law_bag, defScope s_law_bag, [], []⟩
def df35 : He.DefD := ⟨("_law_take", none), "_law_take", "_law_take", defArgs s_law_take, defBody s_law_take, defScope s_law_take, [], []⟩
def df36 : He.DefD := ⟨("_law_pick", none), "_law_pick", "_law_pick", defArgs s_law_pick, defBody s_law_pick, defScope s_law_pick, [], []⟩
def df37 : He.DefD := ⟨("_law_name", none), "_law_name", "_law_name", defArgs s_law_name, defBody s_law_name, defScope s_law_name, [], []⟩
def df38 : He.DefD := ⟨("_law_pool", none), "_law_pool", "_law_pool", defArgs s_law_pool, defBody s_law_pool, defScope s_law_pool, [], []⟩
def df39 : He.DefD := ⟨("_law_text", none), "_law_text", "_law_text", defArgs s_law_text, defBody s_law_text, defScope s_law_text, [], []⟩
def df40 : He.DefD := ⟨("_law_operator", none), "_law_operator", "_law_operator", defArgs s_law_operator, defBody s_law_operator, defScope s_law_operator, [], []⟩
def df41 : He.DefD := ⟨("_law_selector", none), "_law_selector", "_law_selector", defArgs s_law_selector, defBody s_law_selector, defScope s_law_selector, [], []⟩
def df42 : He.DefD := ⟨("_law_integer", none), "_law_integer", "_law_integer", defArgs s_law_integer, defBody s_law_integer, defScope s_law_integer, [], []⟩
def df43 : He.DefD := ⟨("_law_symbol", none), "_law_symbol", "_law_symbol", defArgs s_law_symbol, defBody s_law_symbol, defScope s_law_symbol, [], []⟩
def df44 : He.DefD := ⟨("_law_leaf", none), "_law_leaf", "_law_leaf", defArgs s_law_leaf, defBody s_law_leaf, defScope s_law_leaf, [], []⟩
def df45 : He.DefD := ⟨("_law_array", none), "_law_array", "_law_array", defArgs s_law_array, defBody s_law_array, defScope s_law_array, [], []⟩
def df46 : He.DefD := ⟨("_law_sending", none), "_law_sending", "_law_sending", defArgs s_law_sending, defBody s_law_sending, defScope s_law_sending, [], []⟩
def df47 : He.DefD := ⟨("_law_tree", none), "_law_tree", "_law_tree", defArgs s_law_tree, defBody s_law_tree, defScope s_law_tree, [], []⟩
def df48 : He.DefD := ⟨("_law_statements", none), "_law_statements", "_law_statements", defArgs s_law_statements, defBody s_law_statements, defScope s_law_statements, [], []⟩
def df49 : He.DefD := ⟨("_law_block", none), "_law_block", "_law_block", defArgs s_law_block, defBody s_law_block, defScope s_law_block, [], []⟩
def df50 : He.DefD := ⟨("_law_method", none), "_law_method", "_law_method", defArgs s_law_method, defBody s_law_method, defScope s_law_method, [], []⟩
def df51 : He.DefD := ⟨("_law_walk", none), "_law_walk", "_law_walk", defArgs s_law_walk, defBody s_law_walk, defScope s_law_walk, [], []⟩
def df52 : He.DefD := ⟨("_law_ascending", none), "_law_ascending", "_law_ascending", defArgs s_law_ascending, defBody s_law_ascending, defScope s_law_ascending, [], []⟩
def df53 : He.DefD := ⟨("_law_blocks_right", none), "_law_blocks_right", "_law_blocks_right", defArgs s_law_blocks_right, defBody s_law_blocks_right, defScope s_law_blocks_right, [], []⟩
def df54 : He.DefD := ⟨("_law_right", none), "_law_right", "_law_right", defArgs s_law_right, defBody s_law_right, defScope s_law_right, [], []⟩
def df55 : He.DefD := ⟨("law", none), "law", "law", defArgs s_law, defBody s_law, defScope s_law, [], []⟩
def fnL : List He.DefD := [df0, df1, df2, df3, df4, df5, df6, df7, df8, df9, df10, df11, df12, df13, df14, df15, df16, df17, df18, df19, df20, df21, df22, df23, df24, df25, df26, df27, df28, df29, df30, df31, df32, df33, df34, df35, df36, df37, df38, df39, df40, df41, df42, df43, df44, df45, df46, df47, df48, df49, df50, df51, df52, df53, df54, df55]
def faL : List He.Fa := ([.glo "is_text", .glo "is_name", .glo "is_local_word", .glo "is_keywords", .glo "arity_of", .glo "parts_of", .glo "all_parts", .glo "free_names", .glo "declared_names", .glo "named_words", .glo "sent_selectors", .glo "kind_of"] : List He.Fa) ++ ([.glo "is_method_form", .glo "body_fits", .glo "declare_all", .glo "last_fits", .glo "tree_fits", .glo "literal_fits", .glo "is_short_integer", .glo "items_fit", .glo "item_fits", .glo "can_be_set", .glo "message_fits", .glo "messages_fit"] : List He.Fa) ++ ([.glo "check_tree", .glo "tree_size", .glo "names_free", .glo "selectors_of", .glo "renamed", .glo "with_name", .glo "all_with_name", .glo "body_with_name", .glo "replaced", .glo "blocks_of", .glo "_law_bag", .glo "_law_take"] : List He.Fa) ++ ([.glo "_law_pick", .glo "_law_name", .glo "_law_pool", .glo "_law_text", .glo "_law_operator", .glo "_law_selector", .glo "_law_integer", .glo "_law_symbol", .glo "_law_leaf", .glo "_law_array", .glo "_law_sending", .glo "_law_tree"] : List He.Fa) ++ ([.glo "_law_statements", .glo "_law_block", .glo "_law_method", .glo "_law_walk", .glo "_law_ascending", .glo "_law_blocks_right", .glo "_law_right", .glo "law", .free "len", .free "int", .free "isinstance", .free "str"] : List He.Fa) ++ ([.free "sum", .free "max", .free "all", .free "tuple", .free "min", .free "range", .free "list", .free "bool", .free "abs", .free "sorted", .free "set", .free "dict"] : List He.Fa) ++ ([.free "enumerate", .free "repr", .free "any", .int "LONGEST_NAME" 40, .int "LONGEST_SELECTOR" 100, .int "MOST_PARAMETERS" 20, .int "DEEPEST" 40, .glo "OPERATORS", .glo "FIVE_WORDS", .glo "SPOKEN_WORDS", .glo "SHAPES"] : List He.Fa)
abbrev P0 : Program := (PySem.Challenge.rw_imagetalk_k08_names_selectors_and_blocks).prog
def dvs (ws : List (List Nat)) : List He.Dv := ws.map fun x => .str (My.strOf x)
def shB (K : PySem.W.Frag) (d : Addr) : Bool := shapes.all fun p => match PySem.W.nsIn K d p.1 with
  | some (some (.int i _)) => i == p.2
  | _ => false
def tupAll (K : PySem.W.Frag) : Bool := He.tupB K "OPERATORS" (dvs Tok.ops) && (He.tupB K "FIVE_WORDS" (dvs five) && (He.tupB K "SPOKEN_WORDS" (dvs spoken) && shB K (He.ga K "SHAPES")))
def shKs : List Str := shapes.map (·.1)
theorem sh_ok {K : PySem.W.Frag} {w : World} {d : Addr} (h : He.dicW K d = some (He.keysIn w.params shKs)) (b : shB K d = true) : ShapesAt K w d := by
  obtain ⟨es, n, D⟩ := He.dicW_ok (w := w) h
  refine ⟨es, n, D, fun p hp => ?_⟩
  have hb := List.all_eq_true.mp b p hp
  revert hb
  split
  · rename_i i t e
    intro hb
    have : i = p.2 := by simpa using hb
    subst this
    exact ⟨t, e⟩
  · intro hb; cases hb
abbrev HV : Type := He.AlD × Bool × Option (List (Option (Str × Int)))
def obsS (K : PySem.W.Frag) : HV := (He.obsD faL fnL K, tupAll K, He.dicW K (He.ga K "SHAPES"))
def valS (w : World) : HV := (He.valD fnL, true, some (He.keysIn w.params shKs))
def obsG (g : Addr → Option Obj) : HV := obsS (He.frG g (cStatics :: He.asD g 4))
abbrev hk : PySem.W.Hook where
  α := HV
  obs := fun s => obsG s.heap.get?
  val := fun w => valS w
  says := fun w h => ∃ K : PySem.W.Frag, K.In h ∧ obsS K = valS w
  of := fun _ _ e => ⟨_, He.frG_in, e⟩
  keeps := fun _ _ _ ⟨K, hK, c⟩ k => ⟨K, PySem.W.Frag.In.keeps hK k, c⟩
def ob (s : PySem.W.SharedT) : HV := obsG (HandSHeadRun.getT s)
theorem ob_eq (s : PySem.W.SharedT) : ob s = hk.obs s.abs := by
  have e : HandSHeadRun.getT s = s.abs.heap.get? := funext (HandSHeadRun.getT_eq s)
  unfold ob
  rw [e]
abbrev R : PySem.W.OpenRow := PySem.W.OpenLaw.row PySem.Challenge.rw_imagetalk_k08_names_selectors_and_blocks
def loose : List Str := (["TalkError", "BadTree", "BadName", "NoName", "Clash", "LONGEST_NAME", "LONGEST_SELECTOR", "MOST_PARAMETERS", "OPERATORS", "FIVE_WORDS", "SPOKEN_WORDS", "is_text"] : List Str) ++ (["is_name", "is_local_word", "is_keywords", "arity_of", "DEEPEST", "parts_of", "all_parts", "free_names", "declared_names", "named_words", "sent_selectors", "SHAPES"] : List Str) ++ (["kind_of", "is_method_form", "body_fits", "declare_all", "last_fits", "tree_fits", "literal_fits", "is_short_integer", "items_fit", "item_fits", "can_be_set", "message_fits"] : List Str) ++ (["messages_fit", "check_tree", "tree_size", "names_free", "selectors_of", "renamed", "with_name", "all_with_name", "body_with_name", "replaced", "blocks_of", "_law_bag"] : List Str) ++ (["_law_take", "_law_pick", "_law_name", "_law_pool", "_law_text", "_law_operator", "_law_selector", "_law_integer", "_law_symbol", "_law_leaf", "_law_array", "_law_sending"] : List Str) ++ (["_law_tree", "_law_statements", "_law_block", "_law_method", "_law_walk", "_law_ascending", "_law_blocks_right", "_law_right"] : List Str)
end My8

end
section
set_option Elab.async false
set_option linter.all false
set_option maxRecDepth 100000
set_option maxHeartbeats 0
namespace My8
open PySem PySem.Spec PyProof.Rows PySem.HandSPX L2 My TrM TL
theorem run0 (w : World) : HandSHeadRun.RunEq R (PySem.W.view R.prog [75]) hk ob 20000 loose (w.withFollow "special-get-raises" false) := by
  intro os
  kernel_rfl
theorem run1 (w : World) : HandSHeadRun.RunEq R (PySem.W.view R.prog [75]) hk ob 20000 loose (w.withFollow "special-get-raises" true) := by
  intro os
  kernel_rfl
theorem run (w : World) : HandSHeadRun.RunEq R (PySem.W.view R.prog [75]) hk ob 20000 loose w := by
  refine PySem.W.byRow2 "special-get-raises" (P := fun w => HandSHeadRun.RunEq R (PySem.W.view R.prog [75]) hk ob 20000 loose w) (fun w => ?_) (fun w => ?_) w
  · exact run0 w
  · exact run1 w
end My8

end
section
set_option Elab.async false
set_option linter.all false
set_option maxRecDepth 100000
set_option maxHeartbeats 0
namespace My8
open PySem PySem.Spec PyProof.Rows PySem.HandSPX L2 My TrM TL
theorem vals_rev : ∀ {zs : List V} {ws : List Value}, Vals zs ws → Vals zs.reverse ws.reverse
  | [], _, .nil => .nil
  | _ :: _, _, .cons h t => by rw [List.reverse_cons, List.reverse_cons]; exact (vals_rev t).append (.cons h .nil)
theorem facts {w : World} {K : PySem.W.Frag} {h : Heap} {mg : Str → Option Value} {f : Addr} (X : K.In h) (G : h.Ns mainGlobals mg) (hfa : mg ("law" : Str) = some (.ref f)) (c : obsS K = valS w) :
    ∃ fd : FuncData, (∀ (s : Shared) (v : Value), BindsTo s fd ⟨[v], []⟩ [("_law_script", v)]) ∧ ∀ base : Heap, K.In base → base.Ns mainGlobals mg → GnOk P0 w K mg base CX0 140 f fd ["_law_script"] (spLaw8 K) := by
  have c1 : He.SaysD faL fnL K := congrArg (fun z : HV => z.1) c
  have c2 : tupAll K = true := congrArg (fun z : HV => z.2.1) c
  have c4 : He.dicW K (He.ga K "SHAPES") = some (He.keysIn w.params shKs) := congrArg (fun z : HV => z.2.2) c
  obtain ⟨fd0, F0⟩ := c1.def_ 0 (d := df0) rfl
  have g0 : mg "is_text" = some (.ref (He.ga K "is_text")) := He.glo_ok X G (c1.fact 0 (f := .glo "is_text") rfl)
  obtain ⟨fd1, F1⟩ := c1.def_ 1 (d := df1) rfl
  have g1 : mg "is_name" = some (.ref (He.ga K "is_name")) := He.glo_ok X G (c1.fact 1 (f := .glo "is_name") rfl)
  obtain ⟨fd2, F2⟩ := c1.def_ 2 (d := df2) rfl
  have g2 : mg "is_local_word" = some (.ref (He.ga K "is_local_word")) := He.glo_ok X G (c1.fact 2 (f := .glo "is_local_word") rfl)
  obtain ⟨fd3, F3⟩ := c1.def_ 3 (d := df3) rfl
  have g3 : mg "is_keywords" = some (.ref (He.ga K "is_keywords")) := He.glo_ok X G (c1.fact 3 (f := .glo "is_keywords") rfl)
  obtain ⟨fd4, F4⟩ := c1.def_ 4 (d := df4) rfl
  have g4 : mg "arity_of" = some (.ref (He.ga K "arity_of")) := He.glo_ok X G (c1.fact 4 (f := .glo "arity_of") rfl)
  obtain ⟨fd5, F5⟩ := c1.def_ 5 (d := df5) rfl
  have g5 : mg "parts_of" = some (.ref (He.ga K "parts_of")) := He.glo_ok X G (c1.fact 5 (f := .glo "parts_of") rfl)
  obtain ⟨fd6, F6⟩ := c1.def_ 6 (d := df6) rfl
  have g6 : mg "all_parts" = some (.ref (He.ga K "all_parts")) := He.glo_ok X G (c1.fact 6 (f := .glo "all_parts") rfl)
  obtain ⟨fd7, F7⟩ := c1.def_ 7 (d := df7) rfl
  have g7 : mg "free_names" = some (.ref (He.ga K "free_names")) := He.glo_ok X G (c1.fact 7 (f := .glo "free_names") rfl)
  obtain ⟨fd8, F8⟩ := c1.def_ 8 (d := df8) rfl
  have g8 : mg "declared_names" = some (.ref (He.ga K "declared_names")) := He.glo_ok X G (c1.fact 8 (f := .glo "declared_names") rfl)
  obtain ⟨fd9, F9⟩ := c1.def_ 9 (d := df9) rfl
  have g9 : mg "named_words" = some (.ref (He.ga K "named_words")) := He.glo_ok X G (c1.fact 9 (f := .glo "named_words") rfl)
  obtain ⟨fd10, F10⟩ := c1.def_ 10 (d := df10) rfl
  have g10 : mg "sent_selectors" = some (.ref (He.ga K "sent_selectors")) := He.glo_ok X G (c1.fact 10 (f := .glo "sent_selectors") rfl)
  obtain ⟨fd11, F11⟩ := c1.def_ 11 (d := df11) rfl
  have g11 : mg "kind_of" = some (.ref (He.ga K "kind_of")) := He.glo_ok X G (c1.fact 11 (f := .glo "kind_of") rfl)
  obtain ⟨fd12, F12⟩ := c1.def_ 12 (d := df12) rfl
  have g12 : mg "is_method_form" = some (.ref (He.ga K "is_method_form")) := He.glo_ok X G (c1.fact 12 (f := .glo "is_method_form") rfl)
  obtain ⟨fd13, F13⟩ := c1.def_ 13 (d := df13) rfl
  have g13 : mg "body_fits" = some (.ref (He.ga K "body_fits")) := He.glo_ok X G (c1.fact 13 (f := .glo "body_fits") rfl)
  obtain ⟨fd14, F14⟩ := c1.def_ 14 (d := df14) rfl
  have g14 : mg "declare_all" = some (.ref (He.ga K "declare_all")) := He.glo_ok X G (c1.fact 14 (f := .glo "declare_all") rfl)
  obtain ⟨fd15, F15⟩ := c1.def_ 15 (d := df15) rfl
  have g15 : mg "last_fits" = some (.ref (He.ga K "last_fits")) := He.glo_ok X G (c1.fact 15 (f := .glo "last_fits") rfl)
  obtain ⟨fd16, F16⟩ := c1.def_ 16 (d := df16) rfl
  have g16 : mg "tree_fits" = some (.ref (He.ga K "tree_fits")) := He.glo_ok X G (c1.fact 16 (f := .glo "tree_fits") rfl)
  obtain ⟨fd17, F17⟩ := c1.def_ 17 (d := df17) rfl
  have g17 : mg "literal_fits" = some (.ref (He.ga K "literal_fits")) := He.glo_ok X G (c1.fact 17 (f := .glo "literal_fits") rfl)
  obtain ⟨fd18, F18⟩ := c1.def_ 18 (d := df18) rfl
  have g18 : mg "is_short_integer" = some (.ref (He.ga K "is_short_integer")) := He.glo_ok X G (c1.fact 18 (f := .glo "is_short_integer") rfl)
  obtain ⟨fd19, F19⟩ := c1.def_ 19 (d := df19) rfl
  have g19 : mg "items_fit" = some (.ref (He.ga K "items_fit")) := He.glo_ok X G (c1.fact 19 (f := .glo "items_fit") rfl)
  obtain ⟨fd20, F20⟩ := c1.def_ 20 (d := df20) rfl
  have g20 : mg "item_fits" = some (.ref (He.ga K "item_fits")) := He.glo_ok X G (c1.fact 20 (f := .glo "item_fits") rfl)
  obtain ⟨fd21, F21⟩ := c1.def_ 21 (d := df21) rfl
  have g21 : mg "can_be_set" = some (.ref (He.ga K "can_be_set")) := He.glo_ok X G (c1.fact 21 (f := .glo "can_be_set") rfl)
  obtain ⟨fd22, F22⟩ := c1.def_ 22 (d := df22) rfl
  have g22 : mg "message_fits" = some (.ref (He.ga K "message_fits")) := He.glo_ok X G (c1.fact 22 (f := .glo "message_fits") rfl)
  obtain ⟨fd23, F23⟩ := c1.def_ 23 (d := df23) rfl
  have g23 : mg "messages_fit" = some (.ref (He.ga K "messages_fit")) := He.glo_ok X G (c1.fact 23 (f := .glo "messages_fit") rfl)
  obtain ⟨fd24, F24⟩ := c1.def_ 24 (d := df24) rfl
  have g24 : mg "check_tree" = some (.ref (He.ga K "check_tree")) := He.glo_ok X G (c1.fact 24 (f := .glo "check_tree") rfl)
  obtain ⟨fd25, F25⟩ := c1.def_ 25 (d := df25) rfl
  have g25 : mg "tree_size" = some (.ref (He.ga K "tree_size")) := He.glo_ok X G (c1.fact 25 (f := .glo "tree_size") rfl)
  obtain ⟨fd26, F26⟩ := c1.def_ 26 (d := df26) rfl
  have g26 : mg "names_free" = some (.ref (He.ga K "names_free")) := He.glo_ok X G (c1.fact 26 (f := .glo "names_free") rfl)
  obtain ⟨fd27, F27⟩ := c1.def_ 27 (d := df27) rfl
  have g27 : mg "selectors_of" = some (.ref (He.ga K "selectors_of")) := He.glo_ok X G (c1.fact 27 (f := .glo "selectors_of") rfl)
  obtain ⟨fd28, F28⟩ := c1.def_ 28 (d := df28) rfl
  have g28 : mg "renamed" = some (.ref (He.ga K "renamed")) := He.glo_ok X G (c1.fact 28 (f := .glo "renamed") rfl)
  obtain ⟨fd29, F29⟩ := c1.def_ 29 (d := df29) rfl
  have g29 : mg "with_name" = some (.ref (He.ga K "with_name")) := He.glo_ok X G (c1.fact 29 (f := .glo "with_name") rfl)
  obtain ⟨fd30, F30⟩ := c1.def_ 30 (d := df30) rfl
  have g30 : mg "all_with_name" = some (.ref (He.ga K "all_with_name")) := He.glo_ok X G (c1.fact 30 (f := .glo "all_with_name") rfl)
  obtain ⟨fd31, F31⟩ := c1.def_ 31 (d := df31) rfl
  have g31 : mg "body_with_name" = some (.ref (He.ga K "body_with_name")) := He.glo_ok X G (c1.fact 31 (f := .glo "body_with_name") rfl)
  obtain ⟨fd32, F32⟩ := c1.def_ 32 (d := df32) rfl
  have g32 : mg "replaced" = some (.ref (He.ga K "replaced")) := He.glo_ok X G (c1.fact 32 (f := .glo "replaced") rfl)
  obtain ⟨fd33, F33⟩ := c1.def_ 33 (d := df33) rfl
  have g33 : mg "blocks_of" = some (.ref (He.ga K "blocks_of")) := He.glo_ok X G (c1.fact 33 (f := .glo "blocks_of") rfl)
  obtain ⟨fd34, F34⟩ := c1.def_ 34 (d := df34) rfl
  have g34 : mg "_law_bag" = some (.ref (He.ga K "_law_bag")) := He.glo_ok X G (c1.fact 34 (f := .glo "_law_bag") rfl)
  obtain ⟨fd35, F35⟩ := c1.def_ 35 (d := df35) rfl
  have g35 : mg "_law_take" = some (.ref (He.ga K "_law_take")) := He.glo_ok X G (c1.fact 35 (f := .glo "_law_take") rfl)
  obtain ⟨fd36, F36⟩ := c1.def_ 36 (d := df36) rfl
  have g36 : mg "_law_pick" = some (.ref (He.ga K "_law_pick")) := He.glo_ok X G (c1.fact 36 (f := .glo "_law_pick") rfl)
  obtain ⟨fd37, F37⟩ := c1.def_ 37 (d := df37) rfl
  have g37 : mg "_law_name" = some (.ref (He.ga K "_law_name")) := He.glo_ok X G (c1.fact 37 (f := .glo "_law_name") rfl)
  obtain ⟨fd38, F38⟩ := c1.def_ 38 (d := df38) rfl
  have g38 : mg "_law_pool" = some (.ref (He.ga K "_law_pool")) := He.glo_ok X G (c1.fact 38 (f := .glo "_law_pool") rfl)
  obtain ⟨fd39, F39⟩ := c1.def_ 39 (d := df39) rfl
  have g39 : mg "_law_text" = some (.ref (He.ga K "_law_text")) := He.glo_ok X G (c1.fact 39 (f := .glo "_law_text") rfl)
  obtain ⟨fd40, F40⟩ := c1.def_ 40 (d := df40) rfl
  have g40 : mg "_law_operator" = some (.ref (He.ga K "_law_operator")) := He.glo_ok X G (c1.fact 40 (f := .glo "_law_operator") rfl)
  obtain ⟨fd41, F41⟩ := c1.def_ 41 (d := df41) rfl
  have g41 : mg "_law_selector" = some (.ref (He.ga K "_law_selector")) := He.glo_ok X G (c1.fact 41 (f := .glo "_law_selector") rfl)
  obtain ⟨fd42, F42⟩ := c1.def_ 42 (d := df42) rfl
  have g42 : mg "_law_integer" = some (.ref (He.ga K "_law_integer")) := He.glo_ok X G (c1.fact 42 (f := .glo "_law_integer") rfl)
  obtain ⟨fd43, F43⟩ := c1.def_ 43 (d := df43) rfl
  have g43 : mg "_law_symbol" = some (.ref (He.ga K "_law_symbol")) := He.glo_ok X G (c1.fact 43 (f := .glo "_law_symbol") rfl)
  obtain ⟨fd44, F44⟩ := c1.def_ 44 (d := df44) rfl
  have g44 : mg "_law_leaf" = some (.ref (He.ga K "_law_leaf")) := He.glo_ok X G (c1.fact 44 (f := .glo "_law_leaf") rfl)
  obtain ⟨fd45, F45⟩ := c1.def_ 45 (d := df45) rfl
  have g45 : mg "_law_array" = some (.ref (He.ga K "_law_array")) := He.glo_ok X G (c1.fact 45 (f := .glo "_law_array") rfl)
  obtain ⟨fd46, F46⟩ := c1.def_ 46 (d := df46) rfl
  have g46 : mg "_law_sending" = some (.ref (He.ga K "_law_sending")) := He.glo_ok X G (c1.fact 46 (f := .glo "_law_sending") rfl)
  obtain ⟨fd47, F47⟩ := c1.def_ 47 (d := df47) rfl
  have g47 : mg "_law_tree" = some (.ref (He.ga K "_law_tree")) := He.glo_ok X G (c1.fact 47 (f := .glo "_law_tree") rfl)
  obtain ⟨fd48, F48⟩ := c1.def_ 48 (d := df48) rfl
  have g48 : mg "_law_statements" = some (.ref (He.ga K "_law_statements")) := He.glo_ok X G (c1.fact 48 (f := .glo "_law_statements") rfl)
  obtain ⟨fd49, F49⟩ := c1.def_ 49 (d := df49) rfl
  have g49 : mg "_law_block" = some (.ref (He.ga K "_law_block")) := He.glo_ok X G (c1.fact 49 (f := .glo "_law_block") rfl)
  obtain ⟨fd50, F50⟩ := c1.def_ 50 (d := df50) rfl
  have g50 : mg "_law_method" = some (.ref (He.ga K "_law_method")) := He.glo_ok X G (c1.fact 50 (f := .glo "_law_method") rfl)
  obtain ⟨fd51, F51⟩ := c1.def_ 51 (d := df51) rfl
  have g51 : mg "_law_walk" = some (.ref (He.ga K "_law_walk")) := He.glo_ok X G (c1.fact 51 (f := .glo "_law_walk") rfl)
  obtain ⟨fd52, F52⟩ := c1.def_ 52 (d := df52) rfl
  have g52 : mg "_law_ascending" = some (.ref (He.ga K "_law_ascending")) := He.glo_ok X G (c1.fact 52 (f := .glo "_law_ascending") rfl)
  obtain ⟨fd53, F53⟩ := c1.def_ 53 (d := df53) rfl
  have g53 : mg "_law_blocks_right" = some (.ref (He.ga K "_law_blocks_right")) := He.glo_ok X G (c1.fact 53 (f := .glo "_law_blocks_right") rfl)
  obtain ⟨fd54, F54⟩ := c1.def_ 54 (d := df54) rfl
  have g54 : mg "_law_right" = some (.ref (He.ga K "_law_right")) := He.glo_ok X G (c1.fact 54 (f := .glo "_law_right") rfl)
  obtain ⟨fd55, F55⟩ := c1.def_ 55 (d := df55) rfl
  have g55 : mg "law" = some (.ref (He.ga K "law")) := He.glo_ok X G (c1.fact 55 (f := .glo "law") rfl)
  have gSH : mg "SHAPES" = some (.ref (He.ga K "SHAPES")) := He.glo_ok X G (c1.fact 82 (f := .glo "SHAPES") rfl)
  have g_len : mg "len" = none := He.free_ok X G (c1.fact 56 (f := .free "len") rfl)
  have g_int : mg "int" = none := He.free_ok X G (c1.fact 57 (f := .free "int") rfl)
  have g_isinstance : mg "isinstance" = none := He.free_ok X G (c1.fact 58 (f := .free "isinstance") rfl)
  have g_str : mg "str" = none := He.free_ok X G (c1.fact 59 (f := .free "str") rfl)
  have g_sum : mg "sum" = none := He.free_ok X G (c1.fact 60 (f := .free "sum") rfl)
  have g_max : mg "max" = none := He.free_ok X G (c1.fact 61 (f := .free "max") rfl)
  have g_all : mg "all" = none := He.free_ok X G (c1.fact 62 (f := .free "all") rfl)
  have g_tuple : mg "tuple" = none := He.free_ok X G (c1.fact 63 (f := .free "tuple") rfl)
  have g_min : mg "min" = none := He.free_ok X G (c1.fact 64 (f := .free "min") rfl)
  have g_range : mg "range" = none := He.free_ok X G (c1.fact 65 (f := .free "range") rfl)
  have g_list : mg "list" = none := He.free_ok X G (c1.fact 66 (f := .free "list") rfl)
  have g_bool : mg "bool" = none := He.free_ok X G (c1.fact 67 (f := .free "bool") rfl)
  have g_abs : mg "abs" = none := He.free_ok X G (c1.fact 68 (f := .free "abs") rfl)
  have g_sorted : mg "sorted" = none := He.free_ok X G (c1.fact 69 (f := .free "sorted") rfl)
  have g_set : mg "set" = none := He.free_ok X G (c1.fact 70 (f := .free "set") rfl)
  have g_dict : mg "dict" = none := He.free_ok X G (c1.fact 71 (f := .free "dict") rfl)
  have g_enumerate : mg "enumerate" = none := He.free_ok X G (c1.fact 72 (f := .free "enumerate") rfl)
  have g_repr : mg "repr" = none := He.free_ok X G (c1.fact 73 (f := .free "repr") rfl)
  have g_any : mg "any" = none := He.free_ok X G (c1.fact 74 (f := .free "any") rfl)
  have i_LONGEST_NAME : ∃ t, mg "LONGEST_NAME" = some (.int 40 t) := He.int_ok X G (c1.fact 75 (f := .int "LONGEST_NAME" 40) rfl)
  have i_LONGEST_SELECTOR : ∃ t, mg "LONGEST_SELECTOR" = some (.int 100 t) := He.int_ok X G (c1.fact 76 (f := .int "LONGEST_SELECTOR" 100) rfl)
  have i_MOST_PARAMETERS : ∃ t, mg "MOST_PARAMETERS" = some (.int 20 t) := He.int_ok X G (c1.fact 77 (f := .int "MOST_PARAMETERS" 20) rfl)
  have i_DEEPEST : ∃ t, mg "DEEPEST" = some (.int 40 t) := He.int_ok X G (c1.fact 78 (f := .int "DEEPEST" 40) rfl)
  have q_OPERATORS : mg "OPERATORS" = some (.ref (He.ga K "OPERATORS")) := He.glo_ok X G (c1.fact 79 (f := .glo "OPERATORS") rfl)
  have q_FIVE_WORDS : mg "FIVE_WORDS" = some (.ref (He.ga K "FIVE_WORDS")) := He.glo_ok X G (c1.fact 80 (f := .glo "FIVE_WORDS") rfl)
  have q_SPOKEN_WORDS : mg "SPOKEN_WORDS" = some (.ref (He.ga K "SPOKEN_WORDS")) := He.glo_ok X G (c1.fact 81 (f := .glo "SPOKEN_WORDS") rfl)
  unfold tupAll at c2
  obtain ⟨s1, c2⟩ := He.ba c2
  obtain ⟨s2, c2⟩ := He.ba c2
  obtain ⟨s3, s4⟩ := He.ba c2
  have hSH := sh_ok (w := w) c4 s4
  have tup : ∀ (x : Str) (ws : List (List Nat)), mg x = some (.ref (He.ga K x)) → He.tupB K x (dvs ws) = true → TupAt K mg x ws := fun x ws g b => ⟨_, g, fun H => by
    have := He.tupB_ok b H
    unfold dvs at this
    rw [List.map_map] at this
    exact this⟩
  have e := hfa.symm.trans g55
  cases e
  have bl := FunD.bindsA (ps := ["_law_script"]) F55 fun _ _ _ _ _ _ us hl => match us, hl with | [_], _ => rfl
  refine ⟨fd55, fun s v => bl s [v] rfl, fun base _ _ => ?_⟩
  have LD : LitDefs K w mg (He.ga K "kind_of") (He.ga K "is_short_integer") (He.ga K "is_text") (He.ga K "literal_fits") (He.ga K "item_fits") (He.ga K "items_fit") fd11 fd18 fd0 fd17 fd20 fd19 := { kd := F11, sh := F18, tx := F0, lt := F17, it := F20, its := F19, g_kd := g11, g_sh := g18, g_tx := g0, g_lt := g17, g_it := g20, g_its := g19, g_isinstance := g_isinstance, g_tuple := g_tuple, g_str := g_str, g_int := g_int, g_bool := g_bool, g_abs := g_abs, g_len := g_len, g_all := g_all, g_SH := ⟨_, gSH, hSH⟩, g_SP := tup _ _ q_SPOKEN_WORDS s3 }
  have TD : TreeDefs K mg (He.ga K "is_name") (He.ga K "is_local_word") (He.ga K "is_keywords") (He.ga K "arity_of") (He.ga K "can_be_set") (He.ga K "message_fits") (He.ga K "messages_fit") (He.ga K "last_fits") (He.ga K "declare_all") (He.ga K "body_fits") (He.ga K "tree_fits") fd1 fd2 fd3 fd4 fd21 fd22 fd23 fd15 fd14 fd13 fd16 := { nm := F1, lo := F2, ky := F3, ar := F4, can := F21, msg := F22, msgs := F23, last := F15, dec := F14, body := F13, tree := F16, g_nm := g1, g_lo := g2, g_ky := g3, g_ar := g4, g_can := g21, g_msg := g22, g_msgs := g23, g_last := g15, g_dec := g14, g_body := g13, g_tree := g16, g_LN := i_LONGEST_NAME, g_LS := i_LONGEST_SELECTOR, g_MP := i_MOST_PARAMETERS, g_OP := tup _ _ q_OPERATORS s1, g_FW := tup _ _ q_FIVE_WORDS s2 }
  have G_is_name : FnOk P0 w K mg base CX0 1 (He.ga K "is_name") fd1 ["thing"] (spIsName) := ok_is_name F1 g_isinstance g_str g_len i_LONGEST_NAME
  have b_is_name : Binds K fd1 ["thing"] [] := F1.bindsN fun _ _ _ _ _ _ us hl => match us, hl with | [_], _ => rfl
  have G_is_local_word : FnOk P0 w K mg base CX0 2 (He.ga K "is_local_word") fd2 ["thing"] (spIsLocal) := ok_is_local F2 G_is_name g1 F1.kp b_is_name (tup _ _ q_FIVE_WORDS s2)
  have b_is_local_word : Binds K fd2 ["thing"] [] := F2.bindsN fun _ _ _ _ _ _ us hl => match us, hl with | [_], _ => rfl
  have G_is_keywords : FnOk P0 w K mg base CX0 2 (He.ga K "is_keywords") fd3 ["thing"] (spIsKeys) := ok_is_keywords F3 G_is_name g1 F1.kp b_is_name g_isinstance g_str g_all
  have b_is_keywords : Binds K fd3 ["thing"] [] := F3.bindsN fun _ _ _ _ _ _ us hl => match us, hl with | [_], _ => rfl
  have G_arity_of : FnOk P0 w K mg base CX0 3 (He.ga K "arity_of") fd4 ["thing"] (spArity) := ok_arity F4 G_is_name g1 F1.kp b_is_name G_is_keywords g3 F3.kp b_is_keywords g_isinstance g_str g_len (tup _ _ q_OPERATORS s1) i_LONGEST_SELECTOR
  have b_arity_of : Binds K fd4 ["thing"] [] := F4.bindsN fun _ _ _ _ _ _ us hl => match us, hl with | [_], _ => rfl
  have G_kind_of : FnOk P0 w K mg base CX0 1 (He.ga K "kind_of") fd11 ["thing"] (spKind K) := ok_kind_of F11 g_isinstance g_tuple g_str g_len gSH hSH
  have b_kind_of : Binds K fd11 ["thing"] [] := F11.bindsN fun _ _ _ _ _ _ us hl => match us, hl with | [_], _ => rfl
  have G_body_fits : FnOk P0 w K mg base CX0 123 (He.ga K "body_fits") fd13 ["parameters", "variables", "statements", "known", "room"] (spBody K 39) := (trees LD TD 39).2
  have b_body_fits : Binds K fd13 ["parameters", "variables", "statements", "known", "room"] [] := F13.bindsN fun _ _ _ _ _ _ us hl => match us, hl with | [_, _, _, _, _], _ => rfl
  have G_is_method_form : FnOk P0 w K mg base CX0 124 (He.ga K "is_method_form") fd12 ["thing"] (spForm K) := ok_form F12 (G_kind_of.mono (by decide)) g11 F11.kp b_kind_of (G_arity_of.mono (by decide)) g4 F4.kp b_arity_of G_body_fits g13 F13.kp b_body_fits g_isinstance g_tuple g_len i_DEEPEST
  have b_is_method_form : Binds K fd12 ["thing"] [] := F12.bindsN fun _ _ _ _ _ _ us hl => match us, hl with | [_], _ => rfl
  have G_check_tree : FnOk P0 w K mg base CX0 125 (He.ga K "check_tree") fd24 ["thing"] (spCheck K) := ok_check F24 G_is_method_form g12 F12.kp b_is_method_form
  have b_check_tree : Binds K fd24 ["thing"] [] := F24.bindsN fun _ _ _ _ _ _ us hl => match us, hl with | [_], _ => rfl
  have G_parts_of : FnOk P0 w K mg base CX0 1 (He.ga K "parts_of") fd5 ["tree"] (spParts K) := ok_parts F5 g_list
  have b_parts_of : Binds K fd5 ["tree"] [] := F5.bindsN fun _ _ _ _ _ _ us hl => match us, hl with | [_], _ => rfl
  have G_all_parts : FnOk P0 w K mg base CX0 2 (He.ga K "all_parts") fd6 ["tree"] (spAll K) := ok_all F6 G_parts_of g5 F5.kp b_parts_of
  have b_all_parts : Binds K fd6 ["tree"] [] := F6.bindsN fun _ _ _ _ _ _ us hl => match us, hl with | [_], _ => rfl
  have G_tree_size : FnOk P0 w K mg base CX0 126 (He.ga K "tree_size") fd25 ["tree"] (spSize K) := ok_size F25 G_check_tree g24 F24.kp b_check_tree (G_all_parts.mono (by decide)) g6 F6.kp b_all_parts g_len
  have b_tree_size : Binds K fd25 ["tree"] [] := F25.bindsN fun _ _ _ _ _ _ us hl => match us, hl with | [_], _ => rfl
  have G_blocks_of : FnOk P0 w K mg base CX0 126 (He.ga K "blocks_of") fd33 ["tree"] (spBlocks K) := ok_blocks F33 G_check_tree g24 F24.kp b_check_tree (G_all_parts.mono (by decide)) g6 F6.kp b_all_parts g_len g_any
  have b_blocks_of : Binds K fd33 ["tree"] [] := F33.bindsN fun _ _ _ _ _ _ us hl => match us, hl with | [_], _ => rfl
  have G_free_names : FnOk P0 w K mg base CX0 3 (He.ga K "free_names") fd7 ["tree"] (spNames K freeR) := ok_free F7 G_all_parts g6 F6.kp b_all_parts g_sorted (tup _ _ q_FIVE_WORDS s2)
  have b_free_names : Binds K fd7 ["tree"] [] := F7.bindsN fun _ _ _ _ _ _ us hl => match us, hl with | [_], _ => rfl
  have G_declared_names : FnOk P0 w K mg base CX0 3 (He.ga K "declared_names") fd8 ["tree"] (spNames K declR) := ok_declared F8 G_all_parts g6 F6.kp b_all_parts g_sorted
  have b_declared_names : Binds K fd8 ["tree"] [] := F8.bindsN fun _ _ _ _ _ _ us hl => match us, hl with | [_], _ => rfl
  have G_sent_selectors : FnOk P0 w K mg base CX0 3 (He.ga K "sent_selectors") fd10 ["tree"] (spNames K selR) := ok_sent F10 G_all_parts g6 F6.kp b_all_parts g_sorted
  have b_sent_selectors : Binds K fd10 ["tree"] [] := F10.bindsN fun _ _ _ _ _ _ us hl => match us, hl with | [_], _ => rfl
  have G_named_words : FnOk P0 w K mg base CX0 4 (He.ga K "named_words") fd9 ["tree"] (fun vs H Q _ => ∃ (HB : Hp) (v : V) (d : PyData) (rows : List RowD), vs = [v] ∧ Same HB H ∧ Dp K HB v d ∧ Rows [(d, [], 0)] rows ∧ rows.length ≤ 100000 ∧ (∀ r ∈ rows, r.2.1.length ≤ 100000) ∧ (∀ r ∈ rows, (declR r).length ≤ 2000) ∧ (rows.flatMap declR ++ rows.flatMap nameR).length ≤ 1000000 ∧ ∀ (p : Addr) (ys : List Str) (H' : Hp), Same H H' → H p = none → H' p = some (.lst (ys.map V.str)) → Sorted ys (rows.flatMap declR ++ rows.flatMap nameR) → Q (.ref p) H') := ok_named F9 G_all_parts g6 F6.kp b_all_parts G_declared_names g8 F8.kp b_declared_names g_sorted
  have b_named_words : Binds K fd9 ["tree"] [] := F9.bindsN fun _ _ _ _ _ _ us hl => match us, hl with | [_], _ => rfl
  have G_names_free : FnOk P0 w K mg base CX0 126 (He.ga K "names_free") fd26 ["tree"] (spNF K freeR) := ok_names_free F26 G_check_tree g24 F24.kp b_check_tree (G_free_names.mono (by decide)) g7 F7.kp b_free_names
  have b_names_free : Binds K fd26 ["tree"] [] := F26.bindsN fun _ _ _ _ _ _ us hl => match us, hl with | [_], _ => rfl
  have G_selectors_of : FnOk P0 w K mg base CX0 126 (He.ga K "selectors_of") fd27 ["tree"] (spNF K selR) := ok_selectors_of F27 G_check_tree g24 F24.kp b_check_tree (G_sent_selectors.mono (by decide)) g10 F10.kp b_sent_selectors
  have b_selectors_of : Binds K fd27 ["tree"] [] := F27.bindsN fun _ _ _ _ _ _ us hl => match us, hl with | [_], _ => rfl
  have G_with_name : FnOk P0 w K mg base CX0 127 (He.ga K "with_name") fd29 ["tree", "name", "other", "bound"] (spWith K 42) := withs F29 F30 F31 F32 g29 g30 g31 g32 g_tuple 42
  have b_with_name : Binds K fd29 ["tree", "name", "other", "bound"] [] := F29.bindsN fun _ _ _ _ _ _ us hl => match us, hl with | [_, _, _, _], _ => rfl
  have G_renamed : FnOk P0 w K mg base CX0 128 (He.ga K "renamed") fd28 ["tree", "name", "other"] (spRenamed K) := ok_renamed F28 (G_check_tree.mono (by decide)) g24 F24.kp b_check_tree (G_declared_names.mono (by decide)) g8 F8.kp b_declared_names (G_is_local_word.mono (by decide)) g2 F2.kp b_is_local_word (G_named_words.mono (by decide)) g9 F9.kp b_named_words G_with_name g29 F29.kp b_with_name
  have b_renamed : Binds K fd28 ["tree", "name", "other"] [] := F28.bindsN fun _ _ _ _ _ _ us hl => match us, hl with | [_, _, _], _ => rfl
  have G_bag : FnOk P0 w K mg base CX0 2 (He.ga K "_law_bag") fd34 ["_law_script", "_law_k"] (spBag K) := ok_bag F34 g_int g_sum g_len g_max
  have b_bag : Binds K fd34 ["_law_script", "_law_k"] [] := F34.bindsN fun _ _ _ _ _ _ us hl => match us, hl with | [_, _], _ => rfl
  have G_take : FnOk P0 w K mg base CX0 2 (He.ga K "_law_take") fd35 ["_law_bag_here", "_law_many"] (spTakeW) := ok_takeW F35 g_int
  have b_take : Binds K fd35 ["_law_bag_here", "_law_many"] [] := F35.bindsN fun _ _ _ _ _ _ us hl => match us, hl with | [_, _], _ => rfl
  have G_pick : FnOk P0 w K mg base CX0 3 (He.ga K "_law_pick") fd36 ["_law_bag_here", "_law_things"] (spPick K) := ok_pick F36 F35 g35 g_int g_len
  have b_pick : Binds K fd36 ["_law_bag_here", "_law_things"] [] := F36.bindsN fun _ _ _ _ _ _ us hl => match us, hl with | [_, _], _ => rfl
  have G_name : FnOk P0 w K mg base CX0 4 (He.ga K "_law_name") fd37 ["_law_bag_here", "_law_letters"] (spName) := ok_name F37 G_pick g36 F36.kp b_pick g_range
  have b_name : Binds K fd37 ["_law_bag_here", "_law_letters"] [] := F37.bindsN fun _ _ _ _ _ _ us hl => match us, hl with | [_, _], _ => rfl
  have G_text : FnOk P0 w K mg base CX0 4 (He.ga K "_law_text") fd39 ["_law_bag_here"] (spLText) := ok_text F39 G_pick g36 F36.kp b_pick g_range
  have b_text : Binds K fd39 ["_law_bag_here"] [] := F39.bindsN fun _ _ _ _ _ _ us hl => match us, hl with | [_], _ => rfl
  have G_operator : FnOk P0 w K mg base CX0 4 (He.ga K "_law_operator") fd40 ["_law_bag_here"] (spOper) := ok_operator F40 G_pick g36 F36.kp b_pick
  have b_operator : Binds K fd40 ["_law_bag_here"] [] := F40.bindsN fun _ _ _ _ _ _ us hl => match us, hl with | [_], _ => rfl
  have G_pool : FnOk P0 w K mg base CX0 5 (He.ga K "_law_pool") fd38 ["_law_bag_here"] (spPool) := ok_pool F38 G_name g37 F37.kp b_name g_range
  have b_pool : Binds K fd38 ["_law_bag_here"] [] := F38.bindsN fun _ _ _ _ _ _ us hl => match us, hl with | [_], _ => rfl
  have G_selector : FnOk P0 w K mg base CX0 5 (He.ga K "_law_selector") fd41 ["_law_bag_here", "_law_many"] (spSel) := ok_selector F41 G_name g37 F37.kp b_name G_operator g40 F40.kp b_operator G_take g35 F35.kp b_take g_range
  have b_selector : Binds K fd41 ["_law_bag_here", "_law_many"] [] := F41.bindsN fun _ _ _ _ _ _ us hl => match us, hl with | [_, _], _ => rfl
  have G_integer : FnOk P0 w K mg base CX0 3 (He.ga K "_law_integer") fd42 ["_law_bag_here"] (spInt8) := ok_integer F42 G_take g35 F35.kp b_take
  have b_integer : Binds K fd42 ["_law_bag_here"] [] := F42.bindsN fun _ _ _ _ _ _ us hl => match us, hl with | [_], _ => rfl
  have G_symbol : FnOk P0 w K mg base CX0 6 (He.ga K "_law_symbol") fd43 ["_law_bag_here"] (spSym8) := ok_symbol F43 G_pick g36 F36.kp b_pick G_take g35 F35.kp b_take G_text g39 F39.kp b_text G_selector g41 F41.kp b_selector
  have b_symbol : Binds K fd43 ["_law_bag_here"] [] := F43.bindsN fun _ _ _ _ _ _ us hl => match us, hl with | [_], _ => rfl
  have G_leaf : FnOk P0 w K mg base CX0 7 (He.ga K "_law_leaf") fd44 ["_law_bag_here", "_law_pool_here", "_law_room"] (spLeaf K) := ok_leaf F44 G_pick g36 F36.kp b_pick G_take g35 F35.kp b_take G_integer g42 F42.kp b_integer G_text g39 F39.kp b_text G_symbol g43 F43.kp b_symbol
  have b_leaf : Binds K fd44 ["_law_bag_here", "_law_pool_here", "_law_room"] [] := F44.bindsN fun _ _ _ _ _ _ us hl => match us, hl with | [_, _, _], _ => rfl
  have b_array : Binds K fd45 ["_law_bag_here", "_law_deep", "_law_room"] [] := F45.bindsN fun _ _ _ _ _ _ us hl => match us, hl with | [_, _, _], _ => rfl
  have GA1 : GnOk P0 w K mg base CX0 8 (He.ga K "_law_array") fd45 ["_law_bag_here", "_law_deep", "_law_room"] (spArr K 1) := ok_array (k := 7) F45 (by decide) (array_none (k := 7)) g45 F45.kp b_array (G_pick.mono (by decide)) g36 F36.kp b_pick (G_take.mono (by decide)) g35 F35.kp b_take (G_integer.mono (by decide)) g42 F42.kp b_integer (G_symbol.mono (by decide)) g43 F43.kp b_symbol g_range g_tuple g_len g_str g_int
  have GA2 : GnOk P0 w K mg base CX0 9 (He.ga K "_law_array") fd45 ["_law_bag_here", "_law_deep", "_law_room"] (spArr K 2) := ok_array (k := 8) F45 (by decide) GA1 g45 F45.kp b_array (G_pick.mono (by decide)) g36 F36.kp b_pick (G_take.mono (by decide)) g35 F35.kp b_take (G_integer.mono (by decide)) g42 F42.kp b_integer (G_symbol.mono (by decide)) g43 F43.kp b_symbol g_range g_tuple g_len g_str g_int
  have GA3 : GnOk P0 w K mg base CX0 10 (He.ga K "_law_array") fd45 ["_law_bag_here", "_law_deep", "_law_room"] (spArr K 3) := ok_array (k := 9) F45 (by decide) GA2 g45 F45.kp b_array (G_pick.mono (by decide)) g36 F36.kp b_pick (G_take.mono (by decide)) g35 F35.kp b_take (G_integer.mono (by decide)) g42 F42.kp b_integer (G_symbol.mono (by decide)) g43 F43.kp b_symbol g_range g_tuple g_len g_str g_int
  have GT5 : GnOk P0 w K mg base CX0 30 (He.ga K "_law_tree") fd47 ["_law_bag_here", "_law_pool_here", "_law_scope", "_law_deep", "_law_room"] (spTr K 5) := ltrees F47 F46 F48 F49 g47 g46 g48 g49 g45 g44 g36 g35 g41 F45.kp F44.kp F36.kp F35.kp F41.kp b_array b_leaf b_pick b_take b_selector GA3 (G_leaf.mono (by decide)) (G_pick.mono (by decide)) (G_take.mono (by decide)) (G_selector.mono (by decide)) g_len g_str g_range g_tuple g_min g_dict g_enumerate 5
  have b_tree : Binds K fd47 ["_law_bag_here", "_law_pool_here", "_law_scope", "_law_deep", "_law_room"] [] := F47.bindsN fun _ _ _ _ _ _ us hl => match us, hl with | [_, _, _, _, _], _ => rfl
  have G_statements : GnOk P0 w K mg base CX0 31 (He.ga K "_law_statements") fd48 ["_law_bag_here", "_law_pool_here", "_law_scope", "_law_deep", "_law_room"] (spStm K 5) := ok_statements F48 GT5 g47 F47.kp b_tree (G_pick.mono (by decide)) g36 F36.kp b_pick (G_take.mono (by decide)) g35 F35.kp b_take g_range g_tuple
  have b_statements : Binds K fd48 ["_law_bag_here", "_law_pool_here", "_law_scope", "_law_deep", "_law_room"] [] := F48.bindsN fun _ _ _ _ _ _ us hl => match us, hl with | [_, _, _, _, _], _ => rfl
  have G_method : GnOk P0 w K mg base CX0 32 (He.ga K "_law_method") fd50 ["_law_bag_here", "_law_deep"] (spMeth K) := ok_lmethod F50 G_statements g48 F48.kp b_statements (G_take.mono (by decide)) g35 F35.kp b_take (G_pool.mono (by decide)) g38 F38.kp b_pool (G_selector.mono (by decide)) g41 F41.kp b_selector g_min g_enumerate g_tuple
  have b_method : Binds K fd50 ["_law_bag_here", "_law_deep"] [] := F50.bindsN fun _ _ _ _ _ _ us hl => match us, hl with | [_, _], _ => rfl
  have G_walk : FnOk P0 w K mg base CX0 14 (He.ga K "_law_walk") fd51 ["_law_root", "_law_around", "_law_depth", "_law_found"] (spWalk K 14) := walks F51 g51 g_len g_list 14
  have b_walk : Binds K fd51 ["_law_root", "_law_around", "_law_depth", "_law_found"] [] := F51.bindsN fun _ _ _ _ _ _ us hl => match us, hl with | [_, _, _, _], _ => rfl
  have G_ascending : FnOk P0 w K mg base CX0 1 (He.ga K "_law_ascending") fd52 ["_law_words"] (spAsc) := ok_ascending F52 g_sorted g_set
  have b_ascending : Binds K fd52 ["_law_words"] [] := F52.bindsN fun _ _ _ _ _ _ us hl => match us, hl with | [_], _ => rfl
  have G_blocks_right : FnOk P0 w K mg base CX0 1 (He.ga K "_law_blocks_right") fd53 ["_law_found", "_law_due"] (spBR K) := ok_blocks_right F53 g_isinstance g_list g_tuple g_bool
  have b_blocks_right : Binds K fd53 ["_law_found", "_law_due"] [] := F53.bindsN fun _ _ _ _ _ _ us hl => match us, hl with | [_, _], _ => rfl
  have kb_names_free : KBinds K fd26 ["tree"] ["tree"] (fun us ws => us ++ ws) (fun vs zs => vs ++ zs) := by
    obtain ⟨oc, od, dV, kV, doc, pm, an, cdv, ct, osl, rfl, lk, hcd, hD, hK⟩ := F26.ex
    rcases hD with ⟨_, rfl⟩ | ⟨e, _⟩
    · refine ⟨fun s us ws _ hl => ?_, fun r rz => r.append rz⟩
      match us, ws, hl with
      | [], [v], _ => exact .of_eq (by first | rfl | with_unfolding_all rfl)
      | [v], [], _ => exact .of_eq (by first | rfl | with_unfolding_all rfl)
      | [], [], hl => cases hl
      | [], _ :: _ :: _, hl => cases hl
      | [_], _ :: _, hl => cases hl
      | _ :: _ :: _, _, hl => cases hl
    · exact absurd rfl e
  have kb_selectors_of : KBinds K fd27 ["tree"] ["tree"] (fun us ws => us ++ ws) (fun vs zs => vs ++ zs) := by
    obtain ⟨oc, od, dV, kV, doc, pm, an, cdv, ct, osl, rfl, lk, hcd, hD, hK⟩ := F27.ex
    rcases hD with ⟨_, rfl⟩ | ⟨e, _⟩
    · refine ⟨fun s us ws _ hl => ?_, fun r rz => r.append rz⟩
      match us, ws, hl with
      | [], [v], _ => exact .of_eq (by first | rfl | with_unfolding_all rfl)
      | [v], [], _ => exact .of_eq (by first | rfl | with_unfolding_all rfl)
      | [], [], hl => cases hl
      | [], _ :: _ :: _, hl => cases hl
      | [_], _ :: _, hl => cases hl
      | _ :: _ :: _, _, hl => cases hl
    · exact absurd rfl e
  have kb_blocks_of : KBinds K fd33 ["tree"] ["tree"] (fun us ws => us ++ ws) (fun vs zs => vs ++ zs) := by
    obtain ⟨oc, od, dV, kV, doc, pm, an, cdv, ct, osl, rfl, lk, hcd, hD, hK⟩ := F33.ex
    rcases hD with ⟨_, rfl⟩ | ⟨e, _⟩
    · refine ⟨fun s us ws _ hl => ?_, fun r rz => r.append rz⟩
      match us, ws, hl with
      | [], [v], _ => exact .of_eq (by first | rfl | with_unfolding_all rfl)
      | [v], [], _ => exact .of_eq (by first | rfl | with_unfolding_all rfl)
      | [], [], hl => cases hl
      | [], _ :: _ :: _, hl => cases hl
      | [_], _ :: _, hl => cases hl
      | _ :: _ :: _, _, hl => cases hl
    · exact absurd rfl e
  have kb_tree_size : KBinds K fd25 ["tree"] ["tree"] (fun us ws => us ++ ws) (fun vs zs => vs ++ zs) := by
    obtain ⟨oc, od, dV, kV, doc, pm, an, cdv, ct, osl, rfl, lk, hcd, hD, hK⟩ := F25.ex
    rcases hD with ⟨_, rfl⟩ | ⟨e, _⟩
    · refine ⟨fun s us ws _ hl => ?_, fun r rz => r.append rz⟩
      match us, ws, hl with
      | [], [v], _ => exact .of_eq (by first | rfl | with_unfolding_all rfl)
      | [v], [], _ => exact .of_eq (by first | rfl | with_unfolding_all rfl)
      | [], [], hl => cases hl
      | [], _ :: _ :: _, hl => cases hl
      | [_], _ :: _, hl => cases hl
      | _ :: _ :: _, _, hl => cases hl
    · exact absurd rfl e
  have kb_renamed : KBinds K fd28 ["tree", "name", "other"] ["other", "name", "tree"] (fun us ws => us ++ ws.reverse) (fun vs zs => vs ++ zs.reverse) := by
    obtain ⟨oc, od, dV, kV, doc, pm, an, cdv, ct, osl, rfl, lk, hcd, hD, hK⟩ := F28.ex
    rcases hD with ⟨_, rfl⟩ | ⟨e, _⟩
    · refine ⟨fun s us ws _ hl => ?_, fun r rz => r.append (vals_rev rz)⟩
      rw [List.length_append, List.length_reverse] at hl
      match us, ws, hl with
      | [], [a, b, c], _ => exact .of_eq (by first | rfl | with_unfolding_all rfl)
      | [x], [a, b], _ => exact .of_eq (by first | rfl | with_unfolding_all rfl)
      | [x, y], [a], _ => exact .of_eq (by first | rfl | with_unfolding_all rfl)
      | [x, y, z], [], _ => exact .of_eq (by first | rfl | with_unfolding_all rfl)
      | [], [], hl => simp at hl
      | [], [_], hl => simp at hl
      | [], [_, _], hl => simp at hl
      | [], _ :: _ :: _ :: _ :: _, hl => simp at hl
      | [_], [], hl => simp at hl
      | [_], [_], hl => simp at hl
      | [_], _ :: _ :: _ :: _, hl => simp at hl; omega
      | [_, _], [], hl => simp at hl
      | [_, _], _ :: _ :: _, hl => simp at hl; omega
      | [_, _, _], _ :: _, hl => simp at hl
      | _ :: _ :: _ :: _ :: _, _, hl => simp at hl; omega
    · exact absurd rfl e
  have G_right : GnOk P0 w K mg base CX0 131 (He.ga K "_law_right") fd54 ["_law_bag_here"] (spRightX) := ok_right F54 (G_method.mono (by decide)) g50 F50.kp b_method (G_walk.mono (by decide)) g51 F51.kp b_walk (G_ascending.mono (by decide)) g52 F52.kp b_ascending (G_blocks_right.mono (by decide)) g53 F53.kp b_blocks_right (G_names_free.mono (by decide)) g26 F26.kp b_names_free kb_names_free (G_selectors_of.mono (by decide)) g27 F27.kp b_selectors_of kb_selectors_of (G_blocks_of.mono (by decide)) g33 F33.kp b_blocks_of kb_blocks_of (G_tree_size.mono (by decide)) g25 F25.kp b_tree_size kb_tree_size (G_renamed.mono (by decide)) g28 F28.kp b_renamed kb_renamed g_isinstance g_list g_bool g_repr
  have b_right : Binds K fd54 ["_law_bag_here"] [] := F54.bindsN fun _ _ _ _ _ _ us hl => match us, hl with | [_], _ => rfl
  exact ok_law F55 G_bag g34 F34.kp b_bag G_right g54 F54.kp b_right g_len g_max g_min g_range
end My8

end
section
set_option Elab.async false
set_option linter.all false
set_option maxRecDepth 100000
set_option maxHeartbeats 0
open PySem PySem.W PySem.Calls PyProof.Rows
theorem PySem.Challenge.cw_imagetalk_k08_names_selectors_and_blocks_holds : PySem.Challenge.rw_imagetalk_k08_names_selectors_and_blocks.Holds := by
  w_on; o_law
  refine HandSHeadRun.head_any (r := OpenLaw.row PySem.Challenge.rw_imagetalk_k08_names_selectors_and_blocks) (q := view (OpenLaw.row PySem.Challenge.rw_imagetalk_k08_names_selectors_and_blocks).prog [75]) (H := My8.hk) (ob := My8.ob) (M := 20000) (loose := My8.loose) (d := HandSHeadRun.topDef (OpenLaw.row PySem.Challenge.rw_imagetalk_k08_names_selectors_and_blocks).prog 75) (kwd := []) My8.ob_eq
    (by kernel_rfl) (fun s => by kernel_rfl) My8.run (by kernel_rfl) (by kernel_rfl) (by kernel_rfl) (by rfl) (by first | assumption | decide +kernel) (by decide +kernel) ⟨rfl, rfl, rfl, rfl, rfl, by decide +kernel⟩ ?hw ?hc
  case hw => w_witness2
  case hc =>
    refine My8.walk_ofG (l := PySem.Challenge.rw_imagetalk_k08_names_selectors_and_blocks) (n := 63) (k := 140) (x := "_law_script") (CX := L2.CX0) rfl (by decide) (by kernel_rfl) ⟨rfl, by decide, by decide⟩ ?F (fun _ _ _ _ z => z)
    intro w mg fa h Y G hmg0
    obtain ⟨K, KX, c⟩ := Y
    have hmg : mg ("law" : PySem.Str) = some (.ref fa) := by
      have e : (HandSHeadRun.topDef (OpenLaw.row PySem.Challenge.rw_imagetalk_k08_names_selectors_and_blocks).prog 75).name = ("law" : PySem.Str) := by kernel_rfl
      rw [← e]
      exact hmg0
    obtain ⟨fd, hb, hF⟩ := My8.facts (w := w) KX G hmg c
    exact ⟨K, fd, My8.spLaw8 K, KX, hb, fun H a ns hl _ hS => ⟨a, ns, rfl, hS, hl, fun _ => rfl⟩, hF⟩

end
