import PyProof.Rows.All
import Wide.All
import OpenK.AllK
import Wide.FinOn
import HandS.ForMost
import HandS.Wide
import HandS.Flow
import HandS.Defaults
import HandS.WordsExc
import HandS.Codes
import PySem.Challenge.RW_imagetalk_k02_words_at_their_edges
import HandS.ForExc
import HandS.ExcField
import HandS.IsInst
import HandS.StrMore
import HandS.ReplaceDef
import HandS.ReplaceLit
import HandS.ReplaceList
import KE.KExcTry
import KE.KExcStr
import KE.KExcSuper
import HandS.FStr
import HandS.Words
import HandS.AnyAll
import HandS.More
import HandS.Dict
import HandS.WideBits
import KE.KStateDown
import Lean
import HandS.Base
import HandS.Call
import HandS.Ends
import HandS.Head0
import HandS.Head1
import HandS.Head2
import HandS.HeadEnd
import HandS.HeadHook1
import HandS.HeadHook2
import HandS.HeadHook3
import Wide.Once
section
set_option Elab.async false
set_option linter.all false
set_option maxRecDepth 100000
set_option maxHeartbeats 2000000
namespace My
open PySem PySem.Spec PyProof.Rows L2
def top (i : Nat) : Stmt := PySem.Challenge.pw_imagetalk_k02_words_at_their_edges.main.body.getD i (.Pass ⟨0, 0, 0, 0⟩)
abbrev s_law_bag : Stmt := top 41
abbrev s_law_take : Stmt := top 42
abbrev s_law_pick : Stmt := top 43
abbrev FnP (K : PySem.W.Frag) (x : Str) (st : Stmt) (f : Addr) (fd : FuncData) : Prop := FunD K x x (defArgs st) (defBody st) (defScope st) [] [] f fd
/-- what a bag's three numbers may be, n takes behind its making -/
structure BagN (n : Nat) (x y z : Int) : Prop where
  x0 : 0 ≤ x
  y0 : 0 ≤ y
  y1 : y.natAbs < 2 ^ 134
  z0 : 0 ≤ z
  z1 : z ≤ (n : Int)
/-- take(bag, many): a number below many, the bag changed -/
def spTake : Sp := fun vs H Q _ => ∃ (b : Addr) (n : Nat) (x y z m : Int), vs = [.ref b, .int m] ∧ H b = some (.lst [.int x, .int y, .int z]) ∧ BagN n x y z ∧ n < 1000000 ∧ 0 < m ∧ m < 2 ^ 30 ∧
  ∀ (r x' y' z' : Int), 0 ≤ r → r < m → BagN (n + 1) x' y' z' → Q (.int r) (upd H b (.lst [.int x', .int y', .int z']))
theorem upd_upd {H : Hp} {b : Addr} {o o' : HO} : upd (upd H b o) b o' = upd H b o' := by
  funext a
  by_cases h : a = b
  · subst h
    rw [upd_same, upd_same]
  · rw [upd_ne h, upd_ne h, upd_ne h]
section
variable {P : Program} {w : World} {K : PySem.W.Frag} {mg : Str → Option Value} {base : Heap}
theorem sc_law_take : FnScope ["_law_bag_here", "_law_many", "_law_found", "_law_mark"] ["_law_bag_here", "_law_many"] (defScope s_law_take) := ⟨rfl, rfl, rfl, by decide +kernel, rfl, by decide +kernel, by decide +kernel⟩
theorem ok_take {f : Addr} {fd : FuncData} (F : FnP K "_law_take" s_law_take f fd) (g_int : mg "int" = none) : FnOk P w K mg base CX0 2 f fd ["_law_bag_here", "_law_many"] spTake := by
  refine F.ok sc_law_take (fun vs H Q E h => ?_) (fun cdv A outer s H vs Q E hr h => ⟨_, PSs.nox
    (pss_cons (ps_if (pt_cmpR op_gt (pe_ix ix_list (pv 0) pe_int (fun _ _ => rfl)) pe_int (nomark _)) (pss_cons (ps_set (i := 2) sc_law_take.nd rfl (Or.inl rfl) (pe_op op_modN (pe_callTy call_int1 (by rfl) g_int (by decide +kernel) (pa_cons (pe_ix ix_list (pv 0) pe_int (fun _ _ => rfl)) pa_nil)) (pv 1)))
      (pss_cons (ps_asg (pe_op op_fdivW (pe_ix ix_list (pv 0) pe_int (fun _ _ => rfl)) (pv 1)) (pg_sub (pv 0) pe_int set_list))
      (pss_one (ps_ret (pv 2))))) pss_nil)
      (pss_cons (ps_asg (pe_op op_add (pe_ix ix_list (pv 0) pe_int (fun _ _ => rfl)) pe_int) (pg_sub (pv 0) pe_int set_list))
      (pss_cons (ps_set (i := 3) sc_law_take.nd rfl (Or.inl rfl) (pe_op op_add (pe_op op_mulW (pe_op op_add (pe_ix ix_list (pv 0) pe_int (fun _ _ => rfl)) pe_int) (pe_op op_add (pe_op op_mulW pe_int (pe_ix ix_list (pv 0) pe_int (fun _ _ => rfl))) pe_int)) (pe_op op_mulW (pe_op op_mulW pe_int (pe_ix ix_list (pv 0) pe_int (fun _ _ => rfl))) (pe_ix ix_list (pv 0) pe_int (fun _ _ => rfl)))))
      (pss_cons (ps_set (i := 3) sc_law_take.nd rfl (Or.inl rfl) (pe_op op_modN (pe_callTy call_int1 (by rfl) g_int (by decide +kernel) (pa_cons (pe_op op_mulW (pv 3) (pv 3)) pa_nil)) (pe_op op_add (pe_op op_pow pe_int pe_int) pe_int)))
      (pss_cons (ps_set (i := 3) sc_law_take.nd rfl (Or.inl rfl) (pe_op op_modN (pe_callTy call_int1 (by rfl) g_int (by decide +kernel) (pa_cons (pe_op op_mulW (pv 3) (pe_op op_add (pv 3) pe_int)) pa_nil)) (pe_op op_add (pe_op op_pow pe_int pe_int) pe_int)))
      (pss_one (ps_ret (pe_op op_modN (pe_callTy call_int1 (by rfl) g_int (by decide +kernel) (pa_cons (pe_op op_fdivW (pv 3) pe_int) pa_nil)) (pv 1))))))))), ?_⟩)
  · obtain ⟨b, n, x, y, z, m, rfl, _⟩ := h
    rfl
  · obtain ⟨b, n, x, y, z, m, rfl, hb, hB, hn, m0, m1, k⟩ := h
    have hm : m.natAbs < 2 ^ 30 := by omega
    have hx0 := hB.x0
    have hy0 := hB.y0
    have hz0 := hB.z0
    have hz1 := hB.z1
    refine ⟨_, rfl, _, _, _, _, rfl, rfl, SqL.of hb, rfl, _, _, rfl, rfl, _, rfl, ?_⟩
    refine ite2 (fun hx => ?_) (fun hx => ?_)
    · refine ⟨_, rfl, _, _, _, _, rfl, rfl, SqL.of hb, rfl, .inl ⟨_, rfl, _, rfl, _, _, rfl, rfl, (by omega), ?_⟩⟩
      refine ⟨_, rfl, _, _, _, _, rfl, rfl, SqL.of hb, rfl, _, rfl, _, _, rfl, rfl, wide_div m0 hm (by decide) (by decide), ?_⟩
      refine ⟨_, rfl, _, _, _, _, rfl, rfl, hb, rfl, ?_⟩
      refine ⟨_, rfl, ?_⟩
      have e1 : x / m ≤ x := Int.ediv_le_self _ hx0
      have e2 : 0 ≤ x / m := Int.ediv_nonneg hx0 (Int.le_of_lt m0)
      exact k (x.fmod m) (x / m) y z (Int.fmod_nonneg_of_pos _ m0) (Int.fmod_lt_of_pos _ m0) ⟨e2, hy0, hB.y1, hz0, by omega⟩
    · refine ⟨_, rfl, _, _, _, _, rfl, rfl, SqL.of hb, rfl, _, _, rfl, rfl, ?_⟩
      refine ⟨_, rfl, _, _, _, _, rfl, rfl, hb, rfl, ?_⟩
      have hb2 : (upd H b (.lst [.int x, .int y, .int (z + 1)])) b = some (.lst [.int x, .int y, .int (z + 1)]) := upd_same
      have bz : (z + 1).natAbs < 2 ^ 20 := by omega
      have by1 : (y + 1).natAbs < 2 ^ 135 := by
        have := hB.y1
        have e : (2 : Nat) ^ 135 = 2 ^ 134 * 2 := by decide
        omega
      have c1 : (30011 * (z + 1) : Int).natAbs < 2 ^ 40 := by omega
      have c2 : (30011 * (z + 1) + 7 : Int).natAbs < 2 ^ 41 := by omega
      have d1 : ((y + 1) * (30011 * (z + 1) + 7)).natAbs < 2 ^ (135 + 41) := wide_lt by1 c2
      have d2 : (104729 * (z + 1) : Int).natAbs < 2 ^ 40 := by omega
      have d3 : (104729 * (z + 1) * (z + 1)).natAbs < 2 ^ (40 + 20) := wide_lt d2 bz
      have d4 : ((y + 1) * (30011 * (z + 1) + 7) + 104729 * (z + 1) * (z + 1)).natAbs < 2 ^ 200 := by
        have e1 : (2 : Nat) ^ 200 = 2 ^ (135 + 41) * 2 ^ 24 := by decide
        have e2 : (2 : Nat) ^ (135 + 41) = 2 ^ (40 + 20) * 2 ^ 116 := by decide
        have e3 := Int.natAbs_add_le ((y + 1) * (30011 * (z + 1) + 7)) (104729 * (z + 1) * (z + 1))
        omega
      refine ⟨_, rfl, _, _, _, _, rfl, rfl, SqL.of hb2, rfl, _, _, rfl, rfl, ?_⟩
      refine ⟨_, rfl, _, _, _, _, rfl, rfl, SqL.of hb2, rfl, _, _, rfl, rfl, wide_mul (a := 64) (b := 20) (by decide) bz (by decide) (by decide) (by decide), _, _, rfl, rfl, ?_⟩
      refine ⟨_, _, rfl, rfl, wide_mul by1 c2 (by decide) (by decide) (by decide), ?_⟩
      refine ⟨_, rfl, _, _, _, _, rfl, rfl, SqL.of hb2, rfl, _, _, rfl, rfl, wide_mul (a := 64) (b := 20) (by decide) bz (by decide) (by decide) (by decide), ?_⟩
      refine ⟨_, rfl, _, _, _, _, rfl, rfl, SqL.of hb2, rfl, _, _, rfl, rfl, wide_mul d2 bz (by decide) (by decide) (by decide), ?_⟩
      refine ⟨_, _, rfl, rfl, ?_⟩
      refine ⟨_, rfl, _, rfl, _, _, rfl, rfl, wide_mul d4 d4 (by decide) (by decide) (by decide), .inl ⟨_, rfl, ?_⟩⟩
      refine ⟨_, _, rfl, rfl, ⟨by decide, by decide, by decide⟩, _, _, rfl, rfl, _, _, rfl, rfl, (show (10 ^ Int.toNat 41 + 37 : Int) ≠ 0 by decide), ?_⟩
      generalize hM : ((y + 1) * (30011 * (z + 1) + 7) + 104729 * (z + 1) * (z + 1)) * ((y + 1) * (30011 * (z + 1) + 7) + 104729 * (z + 1) * (z + 1)) = M
      have m2a : (M.fmod (10 ^ 41 + 37)).natAbs < 2 ^ 140 := by
        have a1 := Int.fmod_nonneg_of_pos M (b := 10 ^ 41 + 37) (by decide)
        have a2 := Int.fmod_lt_of_pos M (b := 10 ^ 41 + 37) (by decide)
        omega
      have m2b : (M.fmod (10 ^ 41 + 37) + 97).natAbs < 2 ^ 140 := by
        have a1 := Int.fmod_nonneg_of_pos M (b := 10 ^ 41 + 37) (by decide)
        have a2 := Int.fmod_lt_of_pos M (b := 10 ^ 41 + 37) (by decide)
        omega
      refine ⟨_, rfl, _, rfl, _, _, rfl, rfl, _, _, rfl, rfl, wide_mul m2a m2b (by decide) (by decide) (by decide), .inl ⟨_, rfl, ?_⟩⟩
      refine ⟨_, _, rfl, rfl, ⟨by decide, by decide, by decide⟩, _, _, rfl, rfl, _, _, rfl, rfl, (show (10 ^ Int.toNat 40 + 4323 : Int) ≠ 0 by decide), ?_⟩
      refine ⟨_, rfl, _, _, rfl, rfl, wide_div (b := 20) (by decide) (by decide) (by decide) (by decide), .inl ⟨_, rfl, _, rfl, _, _, rfl, rfl, (by omega), ?_⟩⟩
      exact k _ x y (z + 1) (Int.fmod_nonneg_of_pos _ m0) (Int.fmod_lt_of_pos _ m0) ⟨hx0, hy0, hB.y1, by omega, by omega⟩
/-- bag(script, k) -/
def spBag (K : PySem.W.Frag) : Sp := fun vs H Q _ => ∃ (a : Addr) (ns : List Int) (j : Nat), vs = [.ref a, .int (j : Int)] ∧ SqL K H a (ns.map V.int) ∧ j ≤ 100 ∧ ns.length ≤ 100 ∧
  ∀ (H' : Hp) (p : Addr) (x y z : Int), Same H H' → H p = none → H' p = some (.lst [.int x, .int y, .int z]) → BagN 10000 x y z → Q (.ref p) H'
theorem sc_law_bag : FnScope ["_law_script", "_law_k", "_law_cell"] ["_law_script", "_law_k"] (defScope s_law_bag) := ⟨rfl, rfl, rfl, by decide +kernel, rfl, by decide +kernel, by decide +kernel⟩
theorem ok_bag {f : Addr} {fd : FuncData} (F : FnP K "_law_bag" s_law_bag f fd) (g_int : mg "int" = none) (g_sum : mg "sum" = none) (g_len : mg "len" = none) (g_max : mg "max" = none) : FnOk P w K mg base CX0 2 f fd ["_law_script", "_law_k"] (spBag K) := by
  refine F.ok sc_law_bag (fun vs H Q E h => ?_) (fun cdv A outer s H vs Q E hr h => ⟨_, PSs.nox
    (pss_cons (ps_set (i := 2) sc_law_bag.nd rfl (Or.inl rfl) (pe_op op_modN (pe_callTy call_int1 (by rfl) g_int (by decide +kernel) (pa_cons (pe_callB (cr_sum rfl) (by rfl) g_sum (by decide +kernel) (pa_cons (pe_slice sl_list (pv 0) po_none (po_some pe_int)) pa_nil)) pa_nil)) pe_int))
      (C8.pss_cut (ps_if (pt_cmpR op_lt (pv 1) (pe_callB call_len_seq (by rfl) g_len PySem.boot_len (pa_cons (pv 0) pa_nil)) (nomark _)) (pss_one (ps_set (i := 2) sc_law_bag.nd rfl (Or.inl rfl) (pe_ix ix_list (pv 0) (pv 1) (fun _ _ => rfl)))) pss_nil)
      (pss_one (ps_ret (pe_lst (pa_cons (pe_callB (call_max2 rfl) (by rfl) g_max (by decide +kernel) (pa_cons pe_int (pa_cons (pe_op op_sub (pv 2) (pe_op op_pow pe_int pe_int)) pa_nil))) (pa_cons (pe_op op_modN (pe_callTy call_int1 (by rfl) g_int (by decide +kernel) (pa_cons (pv 2) pa_nil)) (pe_op op_add (pe_op op_pow pe_int pe_int) pe_int)) (pa_cons (pe_op op_mulW pe_int (pv 1)) pa_nil)))))))), ?_⟩)
  · obtain ⟨a, ns, j, rfl, _⟩ := h
    rfl
  · obtain ⟨a, ns, j, rfl, hS, hj, hl, k⟩ := h
    refine ⟨_, rfl, _, rfl, _, _, rfl, hS, fun p np => ?_⟩
    have e1 : cutV (ns.map V.int) none (some 1) = (ns.take 1).map V.int := by
      cases ns with
      | nil => rfl
      | cons a r =>
        show ((List.map V.int (a :: r)).drop 0).take (min (Int.toNat 1) (List.map V.int (a :: r)).length - 0) = _
        simp
    have hp1 : (upd H p (.lst (cutV (ns.map V.int) none (some 1)))) p = some (.lst ((ns.take 1).map V.int)) := by rw [upd_same, e1]
    refine ⟨_, ns.take 1, rfl, SqL.of hp1, .inl ⟨_, rfl, _, _, rfl, rfl, (show (1000003 : Int) ≠ 0 by decide), ?_⟩⟩
    have hS1 : SqL K (upd H p (.lst (cutV (ns.map V.int) none (some 1)))) a (ns.map V.int) := Same.seq (fun b o e => by rw [upd_ne (ne_of_none e np)]; exact e) hS
    have s1 : Same H (upd H p (.lst (cutV (ns.map V.int) none (some 1)))) := fun b o e => by rw [upd_ne (ne_of_none e np)]; exact e
    generalize upd H p (.lst (cutV (ns.map V.int) none (some 1))) = H1 at hS1 s1
    refine ⟨fun σ' H' => ∃ c : Int, σ' = [some (.ref a), some (.int (j : Int)), some (.int c)] ∧ H' = H1, ?_, ?_⟩
    · refine ⟨_, rfl, _, rfl, _, _, rfl, .inl hS1, _, _, rfl, rfl, _, rfl, ?_⟩
      refine ite2 (fun hx => ?_) (fun hx => ?_)
      · have hx := of_decide_eq_true hx
        rw [List.length_map] at hx
        have hjl : j < ns.length := by omega
        have hg : (ns.map V.int)[j]? = some (V.int ns[j]) := by rw [List.getElem?_map, List.getElem?_eq_getElem hjl]; rfl
        refine ⟨_, rfl, _, rfl, _, _, _, _, rfl, rfl, hS1, atI_nat hg, ?_⟩
        exact ⟨_, rfl, rfl⟩
      · exact ⟨_, rfl, rfl⟩
    · rintro _ _ ⟨c, rfl, rfl⟩
      refine ⟨_, rfl, _, _, rfl, rfl, ⟨by decide, by decide, by decide⟩, _, _, rfl, rfl, ?_⟩
      refine ⟨_, _, rfl, _, rfl, .inl ⟨_, rfl, _, _, rfl, rfl, ⟨by decide, by decide, by decide⟩, _, _, rfl, rfl, _, _, rfl, rfl, (show (10 ^ Int.toNat 40 + 121 : Int) ≠ 0 by decide), ?_⟩⟩
      refine ⟨_, rfl, _, _, rfl, rfl, wide_mul (a := 64) (b := 20) (by decide) (by omega) (by decide) (by decide) (by decide), (by show 3 ≤ sizeLine; decide), fun p2 np2 => ?_⟩
      have a1 := Int.fmod_nonneg_of_pos c (b := 10 ^ Int.toNat 40 + 121) (by decide)
      have a2 := Int.fmod_lt_of_pos c (b := 10 ^ Int.toNat 40 + 121) (by decide)
      refine k _ p2 _ _ _ (s1.trans fun b o e => by rw [upd_ne (ne_of_none e np2)]; exact e) (s1.free np2) upd_same ⟨?_, a1, ?_, by omega, by omega⟩
      · split <;> omega
      · have e : (10 ^ Int.toNat 40 + 121 : Int) = 10 ^ 40 + 121 := rfl
        rw [e] at a1 a2
        have e2 : (10 ^ 40 + 121 : Int) ≤ 2 ^ 134 := by decide
        show (c.fmod (10 ^ 40 + 121)).natAbs < 2 ^ 134
        omega
/-- pick(bag, things): one of them, out of a list, a tuple or a text -/
def spPick (K : PySem.W.Frag) : Sp := fun vs H Q _ => ∃ (b : Addr) (n : Nat) (x y z : Int), H b = some (.lst [.int x, .int y, .int z]) ∧ BagN n x y z ∧ n < 1000000 ∧
  ((∃ (p : Addr) (xs : List V), vs = [.ref b, .ref p] ∧ ((∀ x' y' z' : Int, SqL K (upd H b (.lst [.int x', .int y', .int z'])) p xs) ∨ ∀ x' y' z' : Int, SqT K (upd H b (.lst [.int x', .int y', .int z'])) p xs) ∧
      0 < xs.length ∧ xs.length < 1000000 ∧
      ∀ (i : Nat) (v : V) (x' y' z' : Int), xs[i]? = some v → BagN (n + 1) x' y' z' → Q v (upd H b (.lst [.int x', .int y', .int z']))) ∨
   (∃ (t : Str), vs = [.ref b, .str t] ∧ 0 < t.cps.toList.length ∧ t.cps.toList.length < 1000000 ∧
      ∀ (i : Nat) (c : Nat) (x' y' z' : Int), t.cps.toList[i]? = some c → BagN (n + 1) x' y' z' → Q (.str ⟨#[c]⟩) (upd H b (.lst [.int x', .int y', .int z']))))
theorem upd_id {H : Hp} {b : Addr} {o : HO} (h : H b = some o) : upd H b o = H := by
  funext a
  by_cases e : a = b
  · subst e
    rw [upd_same, h]
  · rw [upd_ne e]
theorem sc_law_pick : FnScope ["_law_bag_here", "_law_things"] ["_law_bag_here", "_law_things"] (defScope s_law_pick) := ⟨rfl, rfl, rfl, by decide +kernel, rfl, by decide +kernel, by decide +kernel⟩
theorem ok_pick {f fT : Addr} {fd fdT : FuncData} (F : FnP K "_law_pick" s_law_pick f fd) (FT : FnP K "_law_take" s_law_take fT fdT) (g_law_take : mg "_law_take" = some (.ref fT)) (g_int : mg "int" = none) (g_len : mg "len" = none) :
    FnOk P w K mg base CX0 3 f fd ["_law_bag_here", "_law_things"] (spPick K) := by
  have G_law_take : FnOk P w K mg base CX0 2 fT fdT _ spTake := ok_take FT g_int
  have b_law_take : Binds K fdT ["_law_bag_here", "_law_many"] [] := FT.bindsN fun _ _ _ _ _ _ us hl => match us, hl with | [_, _], _ => rfl
  have k_law_take := FT.kp
  refine F.ok sc_law_pick (fun vs H Q E h => ?_) (fun cdv A outer s H vs Q E hr h => ⟨_, PSs.nox
    (pss_one (ps_ret (pe_ix ix_seq (pv 1) (pe_call G_law_take (hr.mono (by decide)) rfl g_law_take k_law_take b_law_take .nil pass0 (pa_cons (pv 0) (pa_cons (pe_callB call_len (by rfl) g_len PySem.boot_len (pa_cons (pv 1) pa_nil)) pa_nil))) (fun _ _ => rfl)))), ?_⟩)
  · rcases h with ⟨b, n, x, y, z, hb, hB, hn, ⟨p, xs, rfl, _⟩ | ⟨t, rfl, _⟩⟩ <;> rfl
  · rcases h with ⟨b, n, x, y, z, hb, hB, hn, ⟨p, xs, rfl, hS, h0, h1, k⟩ | ⟨t, rfl, h0, h1, k⟩⟩
    · have hS0 : SqL K H p xs ∨ SqT K H p xs := by
        rcases hS with h | h
        · have := h x y z
          rw [upd_id hb] at this
          exact .inl this
        · have := h x y z
          rw [upd_id hb] at this
          exact .inr this
      refine ⟨_, rfl, _, rfl, _, rfl, _, xs.length, rfl, ?_, ?_⟩
      · rcases hS0 with h | h
        · exact .inl ⟨_, h, rfl⟩
        · exact .inr ⟨_, h, rfl⟩
      · refine ⟨b, n, x, y, z, _, rfl, hb, hB, hn, by omega, by omega, fun r x' y' z' r0 r1 hB' => ?_⟩
        obtain ⟨j, rfl⟩ : ∃ j : Nat, r = (j : Int) := ⟨r.toNat, by omega⟩
        have hl : j < xs.length := by omega
        have hg : xs[j]? = some xs[j] := List.getElem?_eq_getElem hl
        have ha : atI xs (j : Int) = some xs[j] := atI_nat hg
        rcases hS with h | h
        · exact .inl ⟨_, _, _, _, rfl, rfl, h x' y' z', ha, k _ _ _ _ _ hg hB'⟩
        · exact .inr (.inl ⟨_, _, _, _, rfl, rfl, h x' y' z', ha, k _ _ _ _ _ hg hB'⟩)
    · have hz : t.length = t.cps.toList.length := rfl
      have hs : t.length ≤ sizeLine := Nat.le_trans (by omega : t.length ≤ 1000000) (by decide)
      refine ⟨_, rfl, _, rfl, _, rfl, _, t.length, rfl, ⟨hs, rfl⟩, ?_⟩
      refine ⟨b, n, x, y, z, _, rfl, hb, hB, hn, by omega, by omega, fun r x' y' z' r0 r1 hB' => ?_⟩
      obtain ⟨j, rfl⟩ : ∃ j : Nat, r = (j : Int) := ⟨r.toNat, by omega⟩
      have hl : j < t.cps.toList.length := by omega
      have hg : t.cps.toList[j]? = some t.cps.toList[j] := List.getElem?_eq_getElem hl
      have ha : atI t.cps.toList (j : Int) = some t.cps.toList[j] := atI_nat hg
      exact .inr (.inr ⟨_, _, _, rfl, rfl, hs, ha, k _ _ _ _ _ hg hB'⟩)
end
end My

end
section
set_option Elab.async false
set_option linter.all false
set_option maxRecDepth 100000
set_option maxHeartbeats 2000000
namespace My
open PySem PySem.Spec PyProof.Rows L2
/-! ### data that is written out, and data that stays -/
theorem SqL.mono {K : PySem.W.Frag} {D H : Hp} {a : Addr} {xs : List V} (e : Same D H) (h : SqL K D a xs) : SqL K H a xs := e.seq h
theorem SqT.mono {K : PySem.W.Frag} {D H : Hp} {a : Addr} {xs : List V} (e : Same D H) (h : SqT K D a xs) : SqT K H a xs := by
  rcases h with (h | ⟨o, h⟩) | h
  · exact .inl (.inl (e _ _ h))
  · exact .inl (.inr ⟨o, e _ _ h⟩)
  · exact .inr h
mutual
theorem dp_mono {K : PySem.W.Frag} {D H : Hp} (e : Same D H) : ∀ (d : PyData) (v : V), Dp K D v d → Dp K H v d
  | .none, _, h => by cases h; exact .non
  | .bool b, _, h => by cases h; exact .bl b
  | .int i, _, h => by cases h; exact .int i
  | .str x, _, h => by cases h; exact .str x
  | .list ds, _, h => by
    cases h with
    | lst hs ha => exact .lst (SqL.mono e hs) (dp_monoAll e ds _ ha)
  | .tuple ds, _, h => by
    cases h with
    | tup hs ha => exact .tup (SqT.mono e hs) (dp_monoAll e ds _ ha)
  | .dict _, _, h => by cases h
theorem dp_monoAll {K : PySem.W.Frag} {D H : Hp} (e : Same D H) : ∀ (ds : List PyData) (vs : List V), DpAll K D vs ds → DpAll K H vs ds
  | [], _, h => by cases h; exact .nil
  | d :: ds, _, h => by
    cases h with
    | cons h1 h2 => exact .cons (dp_mono e d _ h1) (dp_monoAll e ds _ h2)
end
theorem dpAll_append {K : PySem.W.Frag} {H : Hp} {vs vs' : List V} {ds ds' : List PyData} (h : DpAll K H vs ds) (h' : DpAll K H vs' ds') : DpAll K H (vs ++ vs') (ds ++ ds') := by
  induction ds generalizing vs with
  | nil => cases h; exact h'
  | cons d ds ih =>
    cases h with
    | cons h1 h2 => exact .cons h1 (ih h2)
theorem dpAll_length {K : PySem.W.Frag} {H : Hp} {vs : List V} {ds : List PyData} (h : DpAll K H vs ds) : vs.length = ds.length := by
  induction ds generalizing vs with
  | nil => cases h; rfl
  | cons d ds ih =>
    cases h with
    | cons h1 h2 => simp [ih h2]
theorem dpAll_get {K : PySem.W.Frag} {H : Hp} {vs : List V} {ds : List PyData} (h : DpAll K H vs ds) {i : Nat} {v : V} (hv : vs[i]? = some v) : ∃ d, ds[i]? = some d ∧ Dp K H v d := by
  induction ds generalizing vs i with
  | nil => cases h; simp at hv
  | cons d ds ih =>
    cases h with
    | cons h1 h2 =>
      cases i with
      | zero => simp at hv; subst hv; exact ⟨d, rfl, h1⟩
      | succ i => exact ih h2 (by simpa using hv)
/-- the part D of the heap: it stands in H', and nothing of it in H -/
structure Part (D H H' : Hp) : Prop where
  inn : Same D H'
  new : ∀ a o, D a = some o → H a = none
theorem part_nil {H H' : Hp} : Part (fun _ => none) H H' := ⟨fun _ _ h => (by cases h), fun _ _ h => (by cases h)⟩
def uni (D E : Hp) : Hp := fun a => match D a with
  | some o => some o
  | none => E a
theorem uni_l {D E : Hp} : Same D (uni D E) := fun a o h => by unfold uni; rw [h]
theorem uni_cases {D E : Hp} {a : Addr} {o : HO} (h : uni D E a = some o) : D a = some o ∨ E a = some o := by
  unfold uni at h
  cases e : D a with
  | none => rw [e] at h; exact .inr h
  | some u => rw [e] at h; exact .inl h
theorem uni_r {D E H : Hp} (h : ∀ a o, D a = some o → H a = none) (hE : Same E H) : Same E (uni D E) := fun a o e => by
  unfold uni
  cases q : D a with
  | none => exact e
  | some u =>
    have z := hE a o e
    rw [h a u q] at z
    cases z
/-! the reading of a written display -/
mutual
def tLit : PyData → TE
  | .none => tC .non
  | .bool b => tC (.bl b)
  | .int i => if i < 0 then tUn (rU fun i => .int (-i)) (tC (.int (-i))) else tC (.int i)
  | .str x => tC (.str x)
  | .list ds => tLst (tLits ds)
  | .tuple ds => tTup (tLits ds)
  | .dict _ => fun _ _ _ => False
def tLits : List PyData → TA
  | [] => tNil
  | d :: ds => tCons (tLit d) (tLits ds)
end
mutual
def litOk : PyData → Bool
  | .dict _ => false
  | .list ds => decide (ds.length ≤ 1000) && litsOk ds
  | .tuple ds => decide (ds.length ≤ 1000) && litsOk ds
  | _ => true
def litsOk : List PyData → Bool
  | [] => true
  | d :: ds => litOk d && litsOk ds
end
mutual
theorem lit_ok {K : PySem.W.Frag} : ∀ (d : PyData), litOk d = true → ∀ (σ : L2.St) (H : Hp) (Q : VK), (∀ v D H', Same H H' → Part D H H' → Dp K D v d → Q v H') → tLit d σ H Q
  | .none, _, σ, H, Q, q => q _ (fun _ => none) H (Same.refl H) part_nil .non
  | .bool b, _, σ, H, Q, q => q _ (fun _ => none) H (Same.refl H) part_nil (.bl b)
  | .int i, _, σ, H, Q, q => by
    unfold tLit
    split
    · refine ⟨_, rfl, ?_⟩
      have := q (.int (- -i)) (fun _ => none) H (Same.refl H) part_nil (by rw [Int.neg_neg]; exact .int i)
      exact this
    · exact q _ (fun _ => none) H (Same.refl H) part_nil (.int i)
  | .str x, _, σ, H, Q, q => q _ (fun _ => none) H (Same.refl H) part_nil (.str x)
  | .list ds, ok, σ, H, Q, q => by
    unfold litOk at ok
    rw [Bool.and_eq_true] at ok
    refine lits_ok (K := K) ds ok.2 σ H _ fun vs D H' e p h => ?_
    have hl : vs.length ≤ 1000 := by rw [dpAll_length h]; exact of_decide_eq_true ok.1
    refine ⟨Nat.le_trans hl (by decide), fun a ha => ?_⟩
    have na : H a = none := e.free ha
    have nD : D a = none := by
      cases z : D a with
      | none => rfl
      | some o => rw [p.inn a o z] at ha; cases ha
    refine q _ (upd D a (.lst vs)) _ (e.trans fun b o z => by rw [upd_ne (ne_of_none z ha)]; exact z) ⟨fun b o z => ?_, fun b o z => ?_⟩ (.lst (SqL.of upd_same) (dp_monoAll (fun b o z => by rw [upd_ne (ne_of_none z nD)]; exact z) ds vs h))
    · by_cases c : b = a
      · subst c
        rw [upd_same] at z ⊢
        exact z
      · rw [upd_ne c] at z ⊢
        exact p.inn b o z
    · by_cases c : b = a
      · rw [c]; exact na
      · rw [upd_ne c] at z
        exact p.new b o z
  | .tuple ds, ok, σ, H, Q, q => by
    unfold litOk at ok
    rw [Bool.and_eq_true] at ok
    refine lits_ok (K := K) ds ok.2 σ H _ fun vs D H' e p h => ?_
    have hl : vs.length ≤ 1000 := by rw [dpAll_length h]; exact of_decide_eq_true ok.1
    refine ⟨Nat.le_trans hl (by decide), fun a ha => ?_⟩
    have na : H a = none := e.free ha
    have nD : D a = none := by
      cases z : D a with
      | none => rfl
      | some o => rw [p.inn a o z] at ha; cases ha
    refine q _ (upd D a (.tup vs)) _ (e.trans fun b o z => by rw [upd_ne (ne_of_none z ha)]; exact z) ⟨fun b o z => ?_, fun b o z => ?_⟩ (.tup (SqT.of upd_same) (dp_monoAll (fun b o z => by rw [upd_ne (ne_of_none z nD)]; exact z) ds vs h))
    · by_cases c : b = a
      · subst c
        rw [upd_same] at z ⊢
        exact z
      · rw [upd_ne c] at z ⊢
        exact p.inn b o z
    · by_cases c : b = a
      · rw [c]; exact na
      · rw [upd_ne c] at z
        exact p.new b o z
  | .dict _, ok, _, _, _, _ => by cases ok
theorem lits_ok {K : PySem.W.Frag} : ∀ (ds : List PyData), litsOk ds = true → ∀ (σ : L2.St) (H : Hp) (Q : List V → Hp → Prop), (∀ vs D H', Same H H' → Part D H H' → DpAll K D vs ds → Q vs H') → tLits ds σ H Q
  | [], _, σ, H, Q, q => q [] (fun _ => none) H (Same.refl H) part_nil .nil
  | d :: ds, ok, σ, H, Q, q => by
    unfold litsOk at ok
    rw [Bool.and_eq_true] at ok
    refine lit_ok (K := K) d ok.1 σ H _ fun v D H1 e p h => ?_
    refine lits_ok (K := K) ds ok.2 σ H1 _ fun vs D2 H2 e2 p2 h2 => ?_
    have hD : Same D H1 := p.inn
    have s2 : Same D (uni D2 D) := uni_r p2.new p.inn
    refine q (v :: vs) (uni D2 D) H2 (e.trans e2) ⟨fun b o z => ?_, fun b o z => ?_⟩ (.cons (dp_mono s2 d v h) (dp_monoAll uni_l ds vs h2))
    · rcases uni_cases z with z | z
      · exact p2.inn b o z
      · exact e2 b o (p.inn b o z)
    · rcases uni_cases z with z | z
      · exact e.free (p2.new b o z)
      · exact p.new b o z
end
/-! ### a text many times -/
section
variable {X : Cx}
theorem mulOk {x : Str} {n : Int} (h0 : 0 ≤ n) (h1 : n ≤ 100000) (h2 : x.length * n.toNat ≤ 100000) : MulOk x n := by
  refine ⟨by simp; omega, fun h3 _ => ?_, fun _ _ => ?_⟩
  · intro h
    have hn : 0 < n := by omega
    have h5 : x.length * 1 ≤ x.length * n.toNat := Nat.mul_le_mul_left _ (by omega)
    have h6 : (100001 : Int) ≤ (2 ^ 63 - 1) / n := by
      rw [Int.le_ediv_iff_mul_le hn]
      have : (100001 : Int) * n ≤ 100001 * 100000 := Int.mul_le_mul_of_nonneg_left h1 (by decide)
      omega
    omega
  · show decide (x.length * n.toNat > sizeLine) = false
    have : (100000 : Nat) ≤ sizeLine := by decide
    simp
    omega
def rRepS : R2 := fun x y H Q => ∃ (s : Str) (n : Int), x = .str s ∧ y = .int n ∧ 0 ≤ n ∧ n ≤ 100000 ∧ s.length * n.toNat ≤ 100000 ∧ Q (.str (Txt.mul s n)) H
theorem op_rep_str : OpR X (binaryOp .Mult) rRepS := by
  intro pins s σ H x y v u Q I rx ry h
  obtain ⟨z, n, rfl, rfl, h0, h1, h2, q⟩ := h
  obtain ⟨t, rfl⟩ := rx
  obtain ⟨t', rfl⟩ := ry
  exact SB.mul (mulOk h0 h1 h2) (fun t' tk => ⟨.str (Txt.mul z n), H, I.tok _, ⟨_, rfl⟩, q⟩)
end
end My

end
section
set_option maxRecDepth 100000
set_option linter.all false
/-! The words of a source, as a plain function over its codes. -/
namespace Tok
inductive Val where
  | s (t : List Nat)
  | i (n : Int)
  deriving DecidableEq
inductive Kd where
  | name | keyword | int | str | sym | op | sign
  deriving DecidableEq
def isAl (c : Nat) : Bool := (65 ≤ c && c ≤ 90) || (97 ≤ c && c ≤ 122)
def isDg (c : Nat) : Bool := 48 ≤ c && c ≤ 57
def isAn (c : Nat) : Bool := isAl c || isDg c
/-- how many of the first satisfy p -/
def run (p : Nat → Bool) : List Nat → Nat
  | [] => 0
  | c :: l => if p c then run p l + 1 else 0
/-- the place of the first c -/
def find (c : Nat) : List Nat → Option Nat
  | [] => none
  | d :: l => if d = c then some 0 else (find c l).map (· + 1)
/-- what blanks, line feeds and comments take at the beginning; an unended comment's place -/
def gap : Nat → List Nat → Except Nat Nat
  | 0, _ => .ok 0
  | _ + 1, [] => .ok 0
  | f + 1, c :: l =>
    if c = 32 ∨ c = 10 then (match gap f l with
      | .ok n => .ok (n + 1)
      | .error n => .error (n + 1))
    else if c = 34 then (match find 34 l with
      | none => .error 0
      | some k => (match gap f (l.drop (k + 1)) with
        | .ok n => .ok (n + k + 2)
        | .error n => .error (n + k + 2)))
    else .ok 0
/-- the length of a name, 0 if there is none -/
def nameLen (l : List Nat) : Nat := match l with
  | [] => 0
  | c :: _ => if isAl c then (if run isAn l ≤ 40 then run isAn l else 0) else 0
/-- the length of a keyword, 0 if there is none -/
def keyLen (l : List Nat) : Nat :=
  if 0 < nameLen l ∧ (l.drop (nameLen l)).head? = some 58 ∧ (l.drop (nameLen l + 1)).head? ≠ some 61 then nameLen l + 1 else 0
def num (l : List Nat) : Nat := l.foldl (fun n c => 10 * n + (c - 48)) 0
/-- a string's length with both quotes, and what it stands for; the list begins behind the first quote -/
def strBody : Nat → List Nat → Option (List Nat × Nat)
  | 0, _ => none
  | _ + 1, [] => none
  | f + 1, c :: l =>
    if c = 39 then (match l with
      | 39 :: r => (match strBody f r with
        | some (t, n) => some (39 :: t, n + 2)
        | none => none)
      | _ => some ([], 1))
    else (match strBody f l with
      | some (t, n) => some (c :: t, n + 1)
      | none => none)
def ops : List (List Nat) := [[43], [45], [42], [47, 47], [92, 92], [60], [62], [60, 61], [62, 61], [61], [61, 61], [126, 61], [126, 126], [44]]
def signs : List (List Nat) := [[58, 61], [35, 40], [40], [41], [91], [93], [58], [124], [94], [46], [59]]
/-- the length of one of these, the longer first, 0 if there is none -/
def listed (ws : List (List Nat)) (l : List Nat) : Nat :=
  if l.take 2 ∈ ws then (l.take 2).length else if l.take 1 ∈ ws then (l.take 1).length else 0
/-- keywords directly behind one another -/
def keysLen : Nat → List Nat → Nat
  | 0, _ => 0
  | f + 1, l => if 0 < keyLen l then keyLen l + keysLen f (l.drop (keyLen l)) else 0
/-- a symbol, behind its # -/
def symbol (l : List Nat) : Option (Val × Nat) :=
  if l.head? = some 39 then (match strBody (l.length) (l.drop 1) with
    | some (t, n) => some (.s t, n + 1)
    | none => none)
  else if 0 < keysLen l.length l then some (.s (l.take (keysLen l.length l)), keysLen l.length l)
  else if 0 < nameLen l then some (.s (l.take (nameLen l)), nameLen l)
  else if 0 < listed ops l then some (.s (l.take (listed ops l)), listed ops l)
  else none
def other (l : List Nat) : Option (Kd × Val × Nat) :=
  if 0 < listed ops l then some (.op, .s (l.take (listed ops l)), listed ops l)
  else if 0 < listed signs l then some (.sign, .s (l.take (listed signs l)), listed signs l)
  else none
/-- the word at the beginning, with its length -/
def word (binds : Bool) (l : List Nat) : Option (Kd × Val × Nat) := match l with
  | [] => none
  | c :: r =>
    if isAl c then
      (if 0 < keyLen l then some (.keyword, .s (l.take (keyLen l)), keyLen l)
       else if 0 < nameLen l then some (.name, .s (l.take (nameLen l)), nameLen l) else other l)
    else if isDg c then (if run isDg l ≤ 60 then some (.int, .i (num (l.take (run isDg l))), run isDg l) else other l)
    else if c = 39 then (match strBody l.length r with
      | some (t, n) => some (.str, .s t, n + 1)
      | none => other l)
    else if c = 35 then (match symbol r with
      | some (v, n) => some (.sym, v, n + 1)
      | none => other l)
    else if c = 45 ∧ binds = true then (if 0 < run isDg r ∧ run isDg r ≤ 60 then some (.int, .i (-(num (r.take (run isDg r)) : Int)), run isDg r + 1) else other l)
    else other l
abbrev W : Type := Kd × Val × Nat
/-- whether a minus belongs to the digits behind it -/
def binds (par : List Bool) (last : Option (Kd × Val)) : Bool :=
  par.any id || (match last with
    | none => true
    | some (k, v) => !(k = .name || k = .int || k = .str || k = .sym) && !(v = .s [41] || v = .s [93]))
def note (par : List Bool) (k : Kd) (v : Val) : List Bool :=
  if k = .sign ∧ v = .s [40] then par ++ [false] else if k = .sign ∧ v = .s [35, 40] then par ++ [true] else if k = .sign ∧ v = .s [41] then par.dropLast else par
/-- the words of what is left, from place p on -/
def toks : Nat → List Nat → Nat → List Bool → Option (Kd × Val) → Except Nat (List W)
  | 0, _, _, _, _ => .ok []
  | f + 1, l, p, par, last =>
    match gap l.length l with
    | .error n => .error (p + n)
    | .ok n =>
      if l.drop n = [] then .ok [] else
      match word (binds par last) (l.drop n) with
      | none => .error (p + n)
      | some (k, v, m) =>
        match toks f (l.drop (n + m)) (p + n + m) (note par k v) (some (k, v)) with
        | .ok ws => .ok ((k, v, p + n) :: ws)
        | .error q => .error q
def isSource (l : List Nat) : Bool := l.all (fun c => c == 10 || (32 ≤ c && c ≤ 126)) && l.length ≤ 2000
def words (l : List Nat) : Except Nat (List W) := toks (l.length + 1) l 0 [] none
instance decExc {ε α : Type} [DecidableEq ε] [DecidableEq α] : DecidableEq (Except ε α) := fun a b => match a, b with
  | .ok x, .ok y => if h : x = y then .isTrue (h ▸ rfl) else .isFalse fun e => h (Except.ok.inj e)
  | .error x, .error y => if h : x = y then .isTrue (h ▸ rfl) else .isFalse fun e => h (Except.error.inj e)
  | .ok _, .error _ => .isFalse fun e => nomatch e
  | .error _, .ok _ => .isFalse fun e => nomatch e
def codes (s : String) : List Nat := s.toList.map Char.toNat
/-! ### the mathematics -/
def shiftE (k : Nat) : Except Nat Nat → Except Nat Nat
  | .ok n => .ok (n + k)
  | .error n => .error (n + k)
theorem find_lt : ∀ {l : List Nat} {c k : Nat}, find c l = some k → k < l.length
  | [], _, _, h => by cases h
  | d :: l, c, k, h => by
    unfold find at h
    split at h
    · cases h
      simp
    · cases e : find c l with
      | none => rw [e] at h; cases h
      | some j =>
        rw [e] at h
        have := find_lt e
        cases h
        simp only [List.length_cons]
        omega
theorem find_app : ∀ {l : List Nat} {c k : Nat} (s : List Nat), find c l = some k → find c (l ++ s) = some k
  | [], _, _, _, h => by cases h
  | d :: l, c, k, s, h => by
    unfold find at h
    rw [List.cons_append]
    unfold find
    split at h
    · rename_i e
      rw [if_pos e]
      exact h
    · rename_i e
      rw [if_neg e]
      cases e2 : find c l with
      | none => rw [e2] at h; cases h
      | some j => rw [e2] at h; rw [find_app s e2]; exact h
theorem gap_fuel : ∀ (f g : Nat) (l : List Nat), l.length ≤ f → l.length ≤ g → gap f l = gap g l
  | 0, g, l, h, _ => by
    cases l with
    | nil => cases g <;> rfl
    | cons c l => simp at h
  | f + 1, g, [], _, _ => by cases g <;> rfl
  | f + 1, g, c :: l, h, h2 => by
    cases g with
    | zero => simp at h2
    | succ g =>
      simp only [List.length_cons] at h h2
      unfold gap
      have e1 := gap_fuel f g l (by omega) (by omega)
      rw [e1]
      split
      · rfl
      · split
        · cases e : find 34 l with
          | none => rfl
          | some k =>
            have hk := find_lt e
            have e2 := gap_fuel f g (l.drop (k + 1)) (by simp; omega) (by simp; omega)
            simp only [e2]
        · rfl
/-- g is a whole gap: what follows it is looked at anew -/
def IsGap (g : List Nat) : Prop := ∀ s : List Nat, gap (g ++ s).length (g ++ s) = shiftE g.length (gap s.length s)
theorem shiftE_zero (x : Except Nat Nat) : shiftE 0 x = x := by cases x <;> rfl
theorem shiftE_add (a b : Nat) (x : Except Nat Nat) : shiftE a (shiftE b x) = shiftE (b + a) x := by cases x <;> simp [shiftE, Nat.add_assoc]
theorem isGap_nil : IsGap [] := fun s => (shiftE_zero _).symm
theorem isGap_app {a b : List Nat} (ha : IsGap a) (hb : IsGap b) : IsGap (a ++ b) := fun s => by
  rw [List.append_assoc, ha, hb, shiftE_add, List.length_append, Nat.add_comm]
theorem isGap_blank {c : Nat} (h : c = 32 ∨ c = 10) : IsGap [c] := fun s => by
  show gap (s.length + 1) (c :: s) = _
  conv => lhs; unfold gap
  rw [if_pos h]
  cases gap s.length s <;> rfl
theorem isGap_comment {t : List Nat} (h : 34 ∉ t) : IsGap (34 :: t ++ [34]) := fun s => by
  have e : find 34 ((t ++ [34]) ++ s) = some t.length := by
    apply find_app
    clear s
    induction t with
    | nil => rfl
    | cons d t ih =>
      rw [List.cons_append]
      unfold find
      rw [if_neg (by intro z; subst z; exact h (List.mem_cons_self ..)), ih (fun z => h (List.mem_cons_of_mem _ z))]
      rfl
  show gap (((t ++ [34]) ++ s).length + 1) (34 :: ((t ++ [34]) ++ s)) = _
  conv => lhs; unfold gap
  rw [if_neg (by decide), if_pos rfl, e]
  have d : ((t ++ [34]) ++ s).drop (t.length + 1) = s := by
    rw [show t.length + 1 = (t ++ [34]).length by simp, List.drop_left]
  simp only [d]
  rw [gap_fuel _ s.length s (by simp; omega) (Nat.le_refl _)]
  cases gap s.length s <;> simp [shiftE] <;> omega
def rep (n : Nat) (g : List Nat) : List Nat := (List.replicate n g).flatten
theorem isGap_rep {g : List Nat} (h : IsGap g) : ∀ n, IsGap (rep n g)
  | 0 => isGap_nil
  | n + 1 => by
    have e : rep (n + 1) g = g ++ rep n g := by simp [rep, List.replicate_succ]
    rw [e]
    exact isGap_app h (isGap_rep h n)
theorem run_le (p : Nat → Bool) : ∀ l : List Nat, run p l ≤ l.length
  | [] => Nat.le_refl _
  | c :: l => by
    unfold run
    have := run_le p l
    split <;> simp <;> omega
theorem gap_le : ∀ (f : Nat) (l : List Nat) (n : Nat), gap f l = .ok n → n ≤ l.length
  | 0, l, n, h => by cases h; simp
  | f + 1, [], n, h => by cases h; simp
  | f + 1, c :: l, n, h => by
    unfold gap at h
    split at h
    · cases e : gap f l with
      | error m => rw [e] at h; cases h
      | ok m =>
        rw [e] at h
        cases h
        have := gap_le f l m e
        simp
        omega
    · split at h
      · cases e : find 34 l with
        | none => rw [e] at h; cases h
        | some k =>
          have hk := find_lt e
          cases e2 : gap f (l.drop (k + 1)) with
          | error m => simp only [e, e2] at h; cases h
          | ok m =>
            simp only [e, e2] at h
            cases h
            have := gap_le f _ m e2
            simp at this ⊢
            omega
      · cases h
        simp
theorem other_pos {l : List Nat} {k : Kd} {v : Val} {m : Nat} (h : other l = some (k, v, m)) : 0 < m := by
  unfold other at h
  split at h
  · cases h; assumption
  · split at h
    · cases h; assumption
    · cases h
theorem word_pos {b : Bool} {l : List Nat} {k : Kd} {v : Val} {m : Nat} (h : word b l = some (k, v, m)) : 0 < m := by
  unfold word at h
  split at h
  · cases h
  · rename_i c r
    split at h
    · split at h
      · cases h; assumption
      · split at h
        · cases h; assumption
        · exact other_pos h
    · split at h
      · rename_i hd
        split at h
        · cases h
          unfold run
          rw [if_pos hd]
          omega
        · exact other_pos h
      · split at h
        · split at h
          · cases h; omega
          · exact other_pos h
        · split at h
          · split at h
            · cases h; omega
            · exact other_pos h
          · split at h
            · split at h
              · cases h; omega
              · exact other_pos h
            · exact other_pos h
theorem toks_fuel : ∀ (f g : Nat) (l : List Nat) (p : Nat) (par : List Bool) (last : Option (Kd × Val)), l.length < f → l.length < g → toks f l p par last = toks g l p par last
  | 0, _, _, _, _, _, h, _ => by omega
  | f + 1, 0, _, _, _, _, _, h => by omega
  | f + 1, g + 1, l, p, par, last, h, h2 => by
    unfold toks
    cases e : gap l.length l with
    | error n => rfl
    | ok n =>
      have hn := gap_le _ _ _ e
      simp only []
      split
      · rfl
      · rename_i hne
        cases e2 : word (binds par last) (l.drop n) with
        | none => rfl
        | some w =>
          obtain ⟨k, v, m⟩ := w
          have hm := word_pos e2
          have hl : n < l.length := by
            rcases Nat.lt_or_ge n l.length with z | z
            · exact z
            · exact absurd (List.drop_eq_nil_of_le z) hne
          have := toks_fuel f g (l.drop (n + m)) (p + n + m) (note par k v) (some (k, v)) (by rw [List.length_drop]; omega) (by rw [List.length_drop]; omega)
          simp only [this]
def shiftW (k : Nat) : Except Nat (List W) → Except Nat (List W)
  | .ok ws => .ok (ws.map fun w => (w.1, w.2.1, w.2.2 + k))
  | .error n => .error (n + k)
theorem toks_shift (k : Nat) : ∀ (f : Nat) (l : List Nat) (p : Nat) (par : List Bool) (last : Option (Kd × Val)), toks f l (p + k) par last = shiftW k (toks f l p par last)
  | 0, _, _, _, _ => rfl
  | f + 1, l, p, par, last => by
    unfold toks
    cases gap l.length l with
    | error n => simp [shiftW]; omega
    | ok n =>
      simp only []
      split
      · rfl
      · cases word (binds par last) (l.drop n) with
        | none => simp [shiftW]; omega
        | some w =>
          obtain ⟨a, v, m⟩ := w
          simp only []
          have e := toks_shift k f (l.drop (n + m)) (p + n + m) (note par a v) (some (a, v))
          rw [show p + k + n + m = p + n + m + k by omega, e]
          cases toks f (l.drop (n + m)) (p + n + m) (note par a v) (some (a, v)) with
          | ok ws => simp [shiftW]; omega
          | error q => rfl
theorem toks_gap {g : List Nat} (hg : IsGap g) (f : Nat) (s : List Nat) (p : Nat) (par : List Bool) (last : Option (Kd × Val)) : toks (f + 1) (g ++ s) p par last = toks (f + 1) s (p + g.length) par last := by
  unfold toks
  rw [hg s]
  cases e : gap s.length s with
  | error n => simp [shiftE]; omega
  | ok n =>
    have d : ∀ j, (g ++ s).drop (j + g.length) = s.drop j := fun j => by
      rw [Nat.add_comm, ← List.drop_drop, List.drop_left]
    simp only [shiftE, d, show ∀ m, n + g.length + m = n + m + g.length from fun m => by omega, show ∀ m, p + (n + g.length) + m = p + g.length + n + m from fun m => by omega, show p + (n + g.length) = p + g.length + n by omega]
/-- a gap ahead moves the words, or the place of what is wrong -/
theorem words_gap {g : List Nat} (hg : IsGap g) (s : List Nat) : words (g ++ s) = shiftW g.length (words s) := by
  unfold words
  rw [toks_gap hg, toks_shift g.length, toks_fuel ((g ++ s).length + 1) (s.length + 1) s 0 [] none (by simp; omega) (by omega)]
def m_names : List (List Nat × List W) := [
  ([97, 58, 61, 51], [(.name, .s [97], 0), (.sign, .s [58, 61], 1), (.int, .i (3), 3)]),
  ([97, 116, 58, 112, 117, 116, 58, 61, 120], [(.keyword, .s [97, 116, 58], 0), (.name, .s [112, 117, 116], 3), (.sign, .s [58, 61], 6), (.name, .s [120], 8)]),
  ([35, 97, 116, 58, 112, 117, 116], [(.sym, .s [97, 116, 58], 0), (.name, .s [112, 117, 116], 4)]),
  ([35, 97, 116, 58, 112, 117, 116, 58, 120], [(.sym, .s [97, 116, 58, 112, 117, 116, 58], 0), (.name, .s [120], 8)]),
  ([35, 97, 58, 98, 58, 61, 99], [(.sym, .s [97, 58], 0), (.name, .s [98], 3), (.sign, .s [58, 61], 4), (.name, .s [99], 6)]),
  ([35, 97, 58, 61, 49], [(.sym, .s [97], 0), (.sign, .s [58, 61], 2), (.int, .i (1), 4)]),
  ([35, 97, 35, 98, 58], [(.sym, .s [97], 0), (.sym, .s [98, 58], 2)]),
  ([97, 58, 58, 98], [(.keyword, .s [97, 58], 0), (.sign, .s [58], 2), (.name, .s [98], 3)]),
  ([58, 61, 58, 61], [(.sign, .s [58, 61], 0), (.sign, .s [58, 61], 2)]),
  ([58, 58, 61], [(.sign, .s [58], 0), (.sign, .s [58, 61], 1)]),
  ([35, 61, 61], [(.sym, .s [61, 61], 0)]),
  ([35, 60, 61, 61], [(.sym, .s [60, 61], 0), (.op, .s [61], 3)]),
  ([60, 61, 61], [(.op, .s [60, 61], 0), (.op, .s [61], 2)]),
  ([61, 61, 61], [(.op, .s [61, 61], 0), (.op, .s [61], 2)]),
  ([126, 61, 126, 126], [(.op, .s [126, 61], 0), (.op, .s [126, 126], 2)]),
  ([47, 47, 47, 47], [(.op, .s [47, 47], 0), (.op, .s [47, 47], 2)]),
  ([97, 44, 98], [(.name, .s [97], 0), (.op, .s [44], 1), (.name, .s [98], 2)]),
  ([62, 61, 60], [(.op, .s [62, 61], 0), (.op, .s [60], 2)]),
  ([91, 58, 120, 124, 120, 93], [(.sign, .s [91], 0), (.sign, .s [58], 1), (.name, .s [120], 2), (.sign, .s [124], 3), (.name, .s [120], 4), (.sign, .s [93], 5)]),
  ([115, 101, 108, 102, 46, 110, 105, 108, 59, 94], [(.name, .s [115, 101, 108, 102], 0), (.sign, .s [46], 4), (.name, .s [110, 105, 108], 5), (.sign, .s [59], 8), (.sign, .s [94], 9)]),
  ([120, 57, 121, 58], [(.keyword, .s [120, 57, 121, 58], 0)]),
  ([57, 120], [(.int, .i (9), 0), (.name, .s [120], 1)]),
  ([57, 120, 58], [(.int, .i (9), 0), (.keyword, .s [120, 58], 1)])]
theorem m_names_right : m_names.all (fun r => decide (words r.1 = .ok r.2)) = true := by decide
theorem m_names_short : m_names.all (fun r => decide (r.1.length ≤ 20) && isSource r.1) = true := by decide
def m_strings : List (List Nat × List W) := [
  ([39, 39], [(.str, .s [], 0)]),
  ([39, 39, 39, 39], [(.str, .s [39], 0)]),
  ([35, 39, 39], [(.sym, .s [], 0)]),
  ([35, 39, 39, 39, 39], [(.sym, .s [39], 0)]),
  ([39, 97, 39, 39, 98, 39], [(.str, .s [97, 39, 98], 0)]),
  ([39, 97, 39, 32, 39, 98, 39], [(.str, .s [97], 0), (.str, .s [98], 4)]),
  ([39, 97, 39, 35, 39, 98, 39], [(.str, .s [97], 0), (.sym, .s [98], 3)]),
  ([39, 34, 39, 34, 39, 34], [(.str, .s [34], 0)]),
  ([97, 34, 99, 34, 98], [(.name, .s [97], 0), (.name, .s [98], 4)]),
  ([97, 34, 34, 34, 34], [(.name, .s [97], 0)]),
  ([97, 34, 120, 10, 121, 34, 98], [(.name, .s [97], 0), (.name, .s [98], 6)]),
  ([34, 10, 10, 34, 120], [(.name, .s [120], 4)]),
  ([39, 10, 39], [(.str, .s [10], 0)]),
  ([], []),
  ([35, 39, 97, 116, 58, 39, 120], [(.sym, .s [97, 116, 58], 0), (.name, .s [120], 6)]),
  ([39, 39, 39, 39, 39, 39], [(.str, .s [39, 39], 0)])]
theorem m_strings_right : m_strings.all (fun r => decide (words r.1 = .ok r.2)) = true := by decide
theorem m_strings_short : m_strings.all (fun r => decide (r.1.length ≤ 20) && isSource r.1) = true := by decide
def m_numbers : List (List Nat × List W) := [
  ([45, 51], [(.int, .i (-3), 0)]),
  ([45, 48], [(.int, .i (0), 0)]),
  ([45, 48, 48, 55], [(.int, .i (-7), 0)]),
  ([45, 32, 51], [(.op, .s [45], 0), (.int, .i (3), 2)]),
  ([45, 45, 51], [(.op, .s [45], 0), (.int, .i (-3), 1)]),
  ([51, 45, 45, 51], [(.int, .i (3), 0), (.op, .s [45], 1), (.int, .i (-3), 2)]),
  ([120, 45, 51], [(.name, .s [120], 0), (.op, .s [45], 1), (.int, .i (3), 2)]),
  ([120, 32, 45, 51], [(.name, .s [120], 0), (.op, .s [45], 2), (.int, .i (3), 3)]),
  ([120, 34, 99, 34, 45, 51], [(.name, .s [120], 0), (.op, .s [45], 4), (.int, .i (3), 5)]),
  ([39, 97, 39, 45, 49], [(.str, .s [97], 0), (.op, .s [45], 3), (.int, .i (1), 4)]),
  ([35, 97, 45, 49], [(.sym, .s [97], 0), (.op, .s [45], 2), (.int, .i (1), 3)]),
  ([35, 43, 45, 49], [(.sym, .s [43], 0), (.op, .s [45], 2), (.int, .i (1), 3)]),
  ([35, 45, 49], [(.sym, .s [45], 0), (.int, .i (1), 2)]),
  ([41, 45, 49], [(.sign, .s [41], 0), (.op, .s [45], 1), (.int, .i (1), 2)]),
  ([93, 45, 49], [(.sign, .s [93], 0), (.op, .s [45], 1), (.int, .i (1), 2)]),
  ([40, 45, 49], [(.sign, .s [40], 0), (.int, .i (-1), 1)]),
  ([124, 45, 49], [(.sign, .s [124], 0), (.int, .i (-1), 1)]),
  ([97, 116, 58, 45, 49], [(.keyword, .s [97, 116, 58], 0), (.int, .i (-1), 3)]),
  ([58, 61, 45, 49], [(.sign, .s [58, 61], 0), (.int, .i (-1), 2)]),
  ([94, 45, 49], [(.sign, .s [94], 0), (.int, .i (-1), 1)]),
  ([97, 43, 45, 49], [(.name, .s [97], 0), (.op, .s [43], 1), (.int, .i (-1), 2)])]
theorem m_numbers_right : m_numbers.all (fun r => decide (words r.1 = .ok r.2)) = true := by decide
theorem m_numbers_short : m_numbers.all (fun r => decide (r.1.length ≤ 20) && isSource r.1) = true := by decide
def m_arrays : List (List Nat × List W) := [
  ([35, 40, 97, 45, 51, 41, 45, 51], [(.sign, .s [35, 40], 0), (.name, .s [97], 2), (.int, .i (-3), 3), (.sign, .s [41], 5), (.op, .s [45], 6), (.int, .i (3), 7)]),
  ([35, 40, 40, 49, 41, 45, 50], [(.sign, .s [35, 40], 0), (.sign, .s [40], 2), (.int, .i (1), 3), (.sign, .s [41], 4), (.int, .i (-2), 5)]),
  ([40, 35, 40, 41, 45, 50], [(.sign, .s [40], 0), (.sign, .s [35, 40], 1), (.sign, .s [41], 3), (.op, .s [45], 4), (.int, .i (2), 5)]),
  ([35, 40, 93, 45, 50], [(.sign, .s [35, 40], 0), (.sign, .s [93], 2), (.int, .i (-2), 3)]),
  ([35, 40, 91, 41, 120, 45, 50], [(.sign, .s [35, 40], 0), (.sign, .s [91], 2), (.sign, .s [41], 3), (.name, .s [120], 4), (.op, .s [45], 5), (.int, .i (2), 6)]),
  ([41, 35, 40, 49, 45, 50], [(.sign, .s [41], 0), (.sign, .s [35, 40], 1), (.int, .i (1), 3), (.int, .i (-2), 4)]),
  ([35, 40, 39, 41, 39, 45, 50], [(.sign, .s [35, 40], 0), (.str, .s [41], 2), (.int, .i (-2), 5)]),
  ([35, 40, 45, 32, 45, 50], [(.sign, .s [35, 40], 0), (.op, .s [45], 2), (.int, .i (-2), 4)]),
  ([35, 40, 40, 97, 45, 50], [(.sign, .s [35, 40], 0), (.sign, .s [40], 2), (.name, .s [97], 3), (.int, .i (-2), 4)]),
  ([40, 40, 97, 45, 50], [(.sign, .s [40], 0), (.sign, .s [40], 1), (.name, .s [97], 2), (.op, .s [45], 3), (.int, .i (2), 4)])]
theorem m_arrays_right : m_arrays.all (fun r => decide (words r.1 = .ok r.2)) = true := by decide
theorem m_arrays_short : m_arrays.all (fun r => decide (r.1.length ≤ 20) && isSource r.1) = true := by decide
def m_bad : List (List Nat × Nat) := [
  ([35], 0),
  ([97, 32, 35], 2),
  ([35, 58], 0),
  ([35, 35, 97], 0),
  ([35, 32, 97], 0),
  ([47], 0),
  ([47, 47, 47], 2),
  ([126], 0),
  ([92], 0),
  ([97, 95, 98], 1),
  ([39, 97], 0),
  ([39, 39, 39, 32], 0),
  ([120, 32, 34, 97], 2),
  ([34], 0),
  ([35, 39, 97, 39, 39], 0),
  ([97, 33], 1),
  ([91, 96, 93], 1),
  ([97, 97, 97, 97, 97, 97, 97, 97, 97, 97, 97, 97, 97, 97, 97, 97, 97, 97, 97, 97, 97, 97, 97, 97, 97, 97, 97, 97, 97, 97, 97, 97, 97, 97, 97, 97, 97, 97, 97, 97, 97], 0),
  ([97, 97, 97, 97, 97, 97, 97, 97, 97, 97, 97, 97, 97, 97, 97, 97, 97, 97, 97, 97, 97, 97, 97, 97, 97, 97, 97, 97, 97, 97, 97, 97, 97, 97, 97, 97, 97, 97, 97, 97, 97, 58], 0),
  ([35, 98, 98, 98, 98, 98, 98, 98, 98, 98, 98, 98, 98, 98, 98, 98, 98, 98, 98, 98, 98, 98, 98, 98, 98, 98, 98, 98, 98, 98, 98, 98, 98, 98, 98, 98, 98, 98, 98, 98, 98, 98], 0),
  ([35, 97, 58, 98, 98, 98, 98, 98, 98, 98, 98, 98, 98, 98, 98, 98, 98, 98, 98, 98, 98, 98, 98, 98, 98, 98, 98, 98, 98, 98, 98, 98, 98, 98, 98, 98, 98, 98, 98, 98, 98, 98, 98, 98], 3),
  ([49, 49, 49, 49, 49, 49, 49, 49, 49, 49, 49, 49, 49, 49, 49, 49, 49, 49, 49, 49, 49, 49, 49, 49, 49, 49, 49, 49, 49, 49, 49, 49, 49, 49, 49, 49, 49, 49, 49, 49, 49, 49, 49, 49, 49, 49, 49, 49, 49, 49, 49, 49, 49, 49, 49, 49, 49, 49, 49, 49, 49], 0),
  ([45, 49, 49, 49, 49, 49, 49, 49, 49, 49, 49, 49, 49, 49, 49, 49, 49, 49, 49, 49, 49, 49, 49, 49, 49, 49, 49, 49, 49, 49, 49, 49, 49, 49, 49, 49, 49, 49, 49, 49, 49, 49, 49, 49, 49, 49, 49, 49, 49, 49, 49, 49, 49, 49, 49, 49, 49, 49, 49, 49, 49, 49], 1),
  ([120, 45, 48, 48, 48, 48, 48, 48, 48, 48, 48, 48, 48, 48, 48, 48, 48, 48, 48, 48, 48, 48, 48, 48, 48, 48, 48, 48, 48, 48, 48, 48, 48, 48, 48, 48, 48, 48, 48, 48, 48, 48, 48, 48, 48, 48, 48, 48, 48, 48, 48, 48, 48, 48, 48, 48, 48, 48, 48, 48, 48, 48, 48], 2),
  ([39, 97, 39, 34], 3),
  ([123], 0),
  ([97, 63, 98], 1),
  ([36, 97], 0),
  ([126, 60], 0)]
theorem m_bad_right : m_bad.all (fun r => decide (words r.1 = .error r.2)) = true := by decide
theorem m_bad_short : m_bad.all (fun r => decide (r.1.length ≤ 70) && isSource r.1) = true := by decide
end Tok

end
section
set_option maxRecDepth 100000
set_option linter.all false
/-! The words of plainly written sources: how their chunks lie in the source. -/
namespace Tok
def isB (c : Nat) : Bool := c == 32 || c == 10
def isSp (c : Nat) : Bool := c == 40 || c == 41 || c == 91 || c == 93 || c == 46 || c == 59 || c == 94 || c == 124
def arrP : List Nat → List Nat
  | [] => []
  | [c] => [c]
  | c :: d :: l => if c = 35 ∧ d = 40 then 32 :: 64 :: 32 :: arrP l else c :: arrP (d :: l)
def padS : List Nat → List Nat
  | [] => []
  | c :: l => if isSp c = true then 32 :: c :: 32 :: padS l else c :: padS l
def asgP : List Nat → List Nat
  | [] => []
  | [c] => [c]
  | c :: d :: l => if c = 58 ∧ d = 61 then 32 :: 58 :: 61 :: 32 :: asgP l else c :: asgP (d :: l)
def pad (l : List Nat) : List Nat := asgP (padS (arrP l))
theorem arr_hit (l : List Nat) : arrP (35 :: 40 :: l) = 32 :: 64 :: 32 :: arrP l := by rw [arrP, if_pos ⟨rfl, rfl⟩]
theorem arr_miss {c : Nat} {l : List Nat} (h : ¬ (c = 35 ∧ l.head? = some 40)) : arrP (c :: l) = c :: arrP l := by
  cases l with
  | nil => rfl
  | cons d l => rw [arrP, if_neg fun z => h ⟨z.1, by rw [z.2]; rfl⟩]
theorem asg_hit (l : List Nat) : asgP (58 :: 61 :: l) = 32 :: 58 :: 61 :: 32 :: asgP l := by rw [asgP, if_pos ⟨rfl, rfl⟩]
theorem asg_miss {c : Nat} {l : List Nat} (h : ¬ (c = 58 ∧ l.head? = some 61)) : asgP (c :: l) = c :: asgP l := by
  cases l with
  | nil => rfl
  | cons d l => rw [asgP, if_neg fun z => h ⟨z.1, by rw [z.2]; rfl⟩]
theorem arr_c {c : Nat} {l : List Nat} (h : c ≠ 35) : arrP (c :: l) = c :: arrP l := arr_miss fun z => h z.1
theorem asg_c {c : Nat} {l : List Nat} (h : c ≠ 58) : asgP (c :: l) = c :: asgP l := asg_miss fun z => h z.1
theorem pS_c {c : Nat} {l : List Nat} (h : isSp c = false) : padS (c :: l) = c :: padS l := by rw [padS, if_neg (by rw [h]; exact Bool.false_ne_true)]
theorem arr_head (l : List Nat) : (arrP l).head? = l.head? ∨ (arrP l).head? = some 32 := by
  cases l with
  | nil => exact .inl rfl
  | cons c l =>
    by_cases h : c = 35 ∧ l.head? = some 40
    · obtain ⟨rfl, h⟩ := h
      cases l with
      | nil => cases h
      | cons d l =>
        cases h
        rw [arr_hit]
        exact .inr rfl
    · rw [arr_miss h]
      exact .inl rfl
theorem padS_head (l : List Nat) : (padS l).head? = l.head? ∨ (padS l).head? = some 32 := by
  cases l with
  | nil => exact .inl rfl
  | cons c l =>
    rw [padS]
    split
    · exact .inr rfl
    · exact .inl rfl
/-- what is put behind a sign that is none of the special ones -/
theorem pad_cons {c : Nat} {l : List Nat} (h1 : ¬ (c = 35 ∧ l.head? = some 40)) (h2 : isSp c = false) (h3 : ¬ (c = 58 ∧ l.head? = some 61)) : pad (c :: l) = c :: pad l := by
  unfold pad
  rw [arr_miss h1, padS, if_neg (by rw [h2]; exact Bool.false_ne_true), asg_miss]
  rintro ⟨rfl, h⟩
  rcases padS_head (arrP l) with e | e
  · rcases arr_head l with e2 | e2
    · exact h3 ⟨rfl, by rw [← e2, ← e]; exact h⟩
    · rw [e, e2] at h
      cases h
  · rw [e] at h
    cases h
theorem pad_sp {c : Nat} {l : List Nat} (h : isSp c = true) : pad (c :: l) = 32 :: c :: 32 :: pad l := by
  have n1 : c ≠ 35 := fun e => by subst e; cases h
  have n2 : c ≠ 58 := fun e => by subst e; cases h
  unfold pad
  rw [arr_c n1, padS, if_pos h, asg_c (by decide), asg_c n2, asg_c (by decide)]
theorem pad_arr (l : List Nat) : pad (35 :: 40 :: l) = 32 :: 64 :: 32 :: pad l := by
  unfold pad
  rw [arr_hit, pS_c (by rfl), pS_c (by rfl), pS_c (by rfl), asg_c (by decide), asg_c (by decide), asg_c (by decide)]
theorem pad_asg (l : List Nat) : pad (58 :: 61 :: l) = 32 :: 58 :: 61 :: 32 :: pad l := by
  unfold pad
  rw [arr_c (by decide), arr_c (by decide), pS_c (by rfl), pS_c (by rfl), asg_hit]
theorem pad_nil : pad [] = [] := rfl
/-- parted by blanks; cur: the chunk under way -/
def spl : List Nat → List Nat → List (List Nat)
  | cur, [] => if cur = [] then [] else [cur]
  | cur, c :: l => if isB c = true then (if cur = [] then spl [] l else cur :: spl [] l) else spl (cur ++ [c]) l
theorem spl_b {c : Nat} {l : List Nat} (h : isB c = true) : spl [] (c :: l) = spl [] l := by rw [spl, if_pos h, if_pos rfl]
theorem spl_bc {cur : List Nat} {c : Nat} {l : List Nat} (h : isB c = true) (hc : cur ≠ []) : spl cur (c :: l) = cur :: spl [] l := by rw [spl, if_pos h, if_neg hc]
theorem spl_c {cur : List Nat} {c : Nat} {l : List Nat} (h : isB c = false) : spl cur (c :: l) = spl (cur ++ [c]) l := by rw [spl, if_neg (by rw [h]; exact Bool.false_ne_true)]
/-- the source with a sign in the place of each string -/
def strip : Nat → List Nat → Option (List Nat × List (List Nat))
  | 0, _ => some ([], [])
  | _ + 1, [] => some ([], [])
  | f + 1, c :: l =>
    if c = 39 then (match strBody l.length l with
      | some (t, n) => (strip f (l.drop n)).map fun r => (32 :: 123 :: 32 :: r.1, t :: r.2)
      | none => none)
    else if c = 35 ∧ l.head? = some 39 then (match strBody (l.drop 1).length (l.drop 1) with
      | some (t, n) => (strip f ((l.drop 1).drop n)).map fun r => (32 :: 125 :: 32 :: r.1, t :: r.2)
      | none => none)
    else (strip f l).map fun r => (c :: r.1, r.2)
/-- what may follow a chunk directly -/
def stopH (x : Nat) : Bool := isB x || isSp x || x == 39 || x == 35 || x == 58
def StopL (l : List Nat) : Prop := l = [] ∨ ∃ x r, l = x :: r ∧ stopH x = true ∧ (x = 58 → r.head? = some 61)
def plainC (c : Nat) : Bool := !isB c && !isSp c && c != 39
/-- how chunks lie in a source; ts: what its strings stand for -/
inductive Sc : List Nat → List (List Nat) → List (List Nat) → Prop where
  | nil : Sc [] [] []
  | blank {c : Nat} {l : List Nat} {ts cs : List (List Nat)} (h : isB c = true) (s : Sc l ts cs) : Sc (c :: l) ts cs
  | sp {c : Nat} {l : List Nat} {ts cs : List (List Nat)} (h : isSp c = true) (s : Sc l ts cs) : Sc (c :: l) ts ([c] :: cs)
  | arr {l : List Nat} {ts cs : List (List Nat)} (s : Sc l ts cs) : Sc (35 :: 40 :: l) ts ([64] :: cs)
  | asg {l : List Nat} {ts cs : List (List Nat)} (s : Sc l ts cs) : Sc (58 :: 61 :: l) ts ([58, 61] :: cs)
  | str {l t : List Nat} {n : Nat} {ts cs : List (List Nat)} (h : strBody l.length l = some (t, n)) (s : Sc (l.drop n) ts cs) : Sc (39 :: l) (t :: ts) ([123] :: cs)
  | sym {l t : List Nat} {n : Nat} {ts cs : List (List Nat)} (h : strBody l.length l = some (t, n)) (s : Sc (l.drop n) ts cs) : Sc (35 :: 39 :: l) (t :: ts) ([125] :: cs)
  | word {w l : List Nat} {ts cs : List (List Nat)} (h : w ≠ []) (hp : w.all plainC = true) (hl : StopL l) (s : Sc l ts cs) : Sc (w ++ l) ts (w :: cs)
theorem strip_head {f : Nat} {l code : List Nat} {ts : List (List Nat)} (hf : l.length ≤ f) (h : strip f l = some (code, ts)) : code.head? = l.head? ∨ code.head? = some 32 := by
  cases f with
  | zero =>
    cases l with
    | nil => cases h; exact .inl rfl
    | cons c l => simp at hf
  | succ f =>
    cases l with
    | nil => cases h; exact .inl rfl
    | cons c l =>
      rw [strip] at h
      split at h
      · split at h
        · obtain ⟨r, _, e⟩ := Option.map_eq_some_iff.mp h
          cases e
          exact .inr rfl
        · cases h
      · split at h
        · split at h
          · obtain ⟨r, _, e⟩ := Option.map_eq_some_iff.mp h
            cases e
            exact .inr rfl
          · cases h
        · obtain ⟨r, _, e⟩ := Option.map_eq_some_iff.mp h
          cases e
          exact .inl rfl
/-- behind a chunk under way -/
def Mid (cur l : List Nat) (ts cs : List (List Nat)) : Prop := if cur = [] then Sc l ts cs else ∃ w l' cs', l = w ++ l' ∧ w.all plainC = true ∧ StopL l' ∧ cs = (cur ++ w) :: cs' ∧ Sc l' ts cs'
theorem mid_stop {cur l : List Nat} {ts cs X : List (List Nat)} (hs : StopL l) (hX : X = if cur = [] then cs else cur :: cs) (s : Sc l ts cs) : Mid cur l ts X := by
  unfold Mid
  by_cases h : cur = []
  · rw [if_pos h] at hX ⊢
    rw [hX]
    exact s
  · rw [if_neg h] at hX ⊢
    exact ⟨[], l, cs, rfl, rfl, hs, by rw [hX, List.append_nil], s⟩
theorem stop_cons {x : Nat} {r : List Nat} (h : stopH x = true) (h2 : x ≠ 58) : StopL (x :: r) := .inr ⟨x, r, rfl, h, fun e => absurd e h2⟩
theorem spl_one {cur : List Nat} {c : Nat} {X : List Nat} (hc : isB c = false) : spl cur (32 :: c :: 32 :: X) = if cur = [] then [c] :: spl [] X else cur :: [c] :: spl [] X := by
  by_cases h : cur = []
  · subst h
    rw [if_pos rfl, spl_b (by rfl), spl_c hc, spl_bc (by rfl) (by simp)]
    rfl
  · rw [if_neg h, spl_bc (by rfl) h, spl_c hc, spl_bc (by rfl) (by simp)]
    rfl
theorem chunks_lie : ∀ (f : Nat) (cur l code : List Nat) (ts : List (List Nat)), l.length ≤ f → strip f l = some (code, ts) → Mid cur l ts (spl cur (pad code))
  | 0, cur, l, code, ts, hf, h => by
    cases l with
    | cons c l => simp at hf
    | nil =>
      cases h
      exact mid_stop (.inl rfl) (by rw [pad_nil, spl]) .nil
  | f + 1, cur, [], code, ts, hf, h => by
    cases h
    exact mid_stop (.inl rfl) (by rw [pad_nil, spl]) .nil
  | f + 1, cur, c :: l, code, ts, hf, h => by
    have hl : l.length ≤ f := by simpa using hf
    rw [strip] at h
    by_cases h39 : c = 39
    · subst h39
      rw [if_pos rfl] at h
      cases e : strBody l.length l with
      | none => rw [e] at h; cases h
      | some tn =>
        obtain ⟨t, n⟩ := tn
        rw [e] at h
        obtain ⟨⟨code', ts'⟩, er, e2⟩ := Option.map_eq_some_iff.mp h
        cases e2
        have ih := chunks_lie f [] (l.drop n) code' ts' (by rw [List.length_drop]; omega) er
        have ih : Sc (l.drop n) ts' (spl [] (pad code')) := ih
        have ep : pad (32 :: 123 :: 32 :: code') = 32 :: 123 :: 32 :: pad code' := by
          rw [pad_cons (fun z => by cases z.1) (by rfl) (fun z => by cases z.1), pad_cons (fun z => by cases z.1) (by rfl) (fun z => by cases z.1), pad_cons (fun z => by cases z.1) (by rfl) (fun z => by cases z.1)]
        refine mid_stop (stop_cons (by rfl) (by decide)) ?_ (.str e ih)
        show spl cur (pad (32 :: 123 :: 32 :: code')) = _
        rw [ep, spl_one (by rfl)]
    · rw [if_neg h39] at h
      by_cases hsym : c = 35 ∧ l.head? = some 39
      · rw [if_pos hsym] at h
        obtain ⟨rfl, hh⟩ := hsym
        obtain ⟨l0, rfl⟩ : ∃ l0, l = 39 :: l0 := by
          cases l with
          | nil => cases hh
          | cons d l0 => cases hh; exact ⟨l0, rfl⟩
        have ed : (39 :: l0).drop 1 = l0 := rfl
        rw [ed] at h
        cases e : strBody l0.length l0 with
        | none => rw [e] at h; cases h
        | some tn =>
          obtain ⟨t, n⟩ := tn
          rw [e] at h
          obtain ⟨⟨code', ts'⟩, er, e2⟩ := Option.map_eq_some_iff.mp h
          cases e2
          have ih : Sc (l0.drop n) ts' (spl [] (pad code')) := chunks_lie f [] (l0.drop n) code' ts' (by rw [List.length_drop]; simp at hl; omega) er
          have ep : pad (32 :: 125 :: 32 :: code') = 32 :: 125 :: 32 :: pad code' := by
            rw [pad_cons (fun z => by cases z.1) (by rfl) (fun z => by cases z.1), pad_cons (fun z => by cases z.1) (by rfl) (fun z => by cases z.1), pad_cons (fun z => by cases z.1) (by rfl) (fun z => by cases z.1)]
          refine mid_stop (stop_cons (by rfl) (by decide)) ?_ (.sym e ih)
          show spl cur (pad (32 :: 125 :: 32 :: code')) = _
          rw [ep, spl_one (by rfl)]
      · rw [if_neg hsym] at h
        obtain ⟨⟨code', ts'⟩, er, e2⟩ := Option.map_eq_some_iff.mp h
        cases e2
        have hhd := strip_head hl er
        by_cases hb : isB c = true
        · have ih : Sc l ts' (spl [] (pad code')) := chunks_lie f [] l code' ts' hl er
          have n1 : c ≠ 35 := fun e => by subst e; cases hb
          have n2 : c ≠ 58 := fun e => by subst e; cases hb
          have n3 : isSp c = false := by
            unfold isB at hb
            rcases Bool.or_eq_true_iff.mp hb with e | e <;> · have e := eq_of_beq e; subst e; rfl
          refine mid_stop (stop_cons (by unfold stopH; rw [hb]; rfl) n2) ?_ (.blank hb ih)
          show spl cur (pad (c :: code')) = _
          rw [pad_cons (fun z => n1 z.1) n3 (fun z => n2 z.1)]
          by_cases hc : cur = []
          · subst hc
            rw [spl_b hb, if_pos rfl]
          · rw [spl_bc hb hc, if_neg hc]
        · have hb : isB c = false := by simpa using hb
          by_cases hs : isSp c = true
          · have ih : Sc l ts' (spl [] (pad code')) := chunks_lie f [] l code' ts' hl er
            have n2 : c ≠ 58 := fun e => by subst e; cases hs
            refine mid_stop (stop_cons (by unfold stopH; rw [hs]; simp) n2) ?_ (.sp hs ih)
            show spl cur (pad (c :: code')) = _
            rw [pad_sp hs, spl_one hb]
          · have hs : isSp c = false := by simpa using hs
            by_cases harr : c = 35 ∧ l.head? = some 40
            · obtain ⟨rfl, hh⟩ := harr
              obtain ⟨l0, rfl⟩ : ∃ l0, l = 40 :: l0 := by
                cases l with
                | nil => cases hh
                | cons d l0 => cases hh; exact ⟨l0, rfl⟩
              obtain ⟨f', rfl⟩ : ∃ f', f = f' + 1 := by
                cases f with
                | zero => simp at hl
                | succ f' => exact ⟨f', rfl⟩
              rw [strip, if_neg (by decide), if_neg (fun z => by cases z.1)] at er
              obtain ⟨⟨code2, ts2⟩, er2, e2⟩ := Option.map_eq_some_iff.mp er
              cases e2
              have ih : Sc l0 ts2 (spl [] (pad code2)) := chunks_lie f' [] l0 code2 ts2 (by simp at hl; omega) er2
              refine mid_stop (stop_cons (by rfl) (by decide)) ?_ (.arr ih)
              show spl cur (pad (35 :: 40 :: code2)) = _
              rw [pad_arr, spl_one (by rfl)]
            · by_cases hasg : c = 58 ∧ l.head? = some 61
              · obtain ⟨rfl, hh⟩ := hasg
                obtain ⟨l0, rfl⟩ : ∃ l0, l = 61 :: l0 := by
                  cases l with
                  | nil => cases hh
                  | cons d l0 => cases hh; exact ⟨l0, rfl⟩
                obtain ⟨f', rfl⟩ : ∃ f', f = f' + 1 := by
                  cases f with
                  | zero => simp at hl
                  | succ f' => exact ⟨f', rfl⟩
                rw [strip, if_neg (by decide), if_neg (fun z => by cases z.1)] at er
                obtain ⟨⟨code2, ts2⟩, er2, e2⟩ := Option.map_eq_some_iff.mp er
                cases e2
                have ih : Sc l0 ts2 (spl [] (pad code2)) := chunks_lie f' [] l0 code2 ts2 (by simp at hl; omega) er2
                refine mid_stop (.inr ⟨58, 61 :: l0, rfl, by rfl, fun _ => rfl⟩) ?_ (.asg ih)
                show spl cur (pad (58 :: 61 :: code2)) = _
                rw [pad_asg]
                by_cases hc : cur = []
                · subst hc
                  rw [if_pos rfl, spl_b (by rfl), spl_c (by rfl), spl_c (by rfl), spl_bc (by rfl) (by simp)]
                  rfl
                · rw [if_neg hc, spl_bc (by rfl) hc, spl_c (by rfl), spl_c (by rfl), spl_bc (by rfl) (by simp)]
                  rfl
              · -- a plain sign
                have k1 : ¬ (c = 35 ∧ code'.head? = some 40) := fun z => by
                  rcases hhd with e | e
                  · exact harr ⟨z.1, by rw [← e]; exact z.2⟩
                  · rw [e] at z; cases z.2
                have k2 : ¬ (c = 58 ∧ code'.head? = some 61) := fun z => by
                  rcases hhd with e | e
                  · exact hasg ⟨z.1, by rw [← e]; exact z.2⟩
                  · rw [e] at z; cases z.2
                have ih := chunks_lie f (cur ++ [c]) l code' ts' hl er
                unfold Mid at ih
                rw [if_neg (by simp)] at ih
                obtain ⟨w, l', cs', rfl, hw, hst, hcs, s⟩ := ih
                have hpc : plainC c = true := by
                  unfold plainC
                  rw [hb, hs]
                  simpa using h39
                have ecs : spl cur (pad (c :: code')) = (cur ++ c :: w) :: cs' := by
                  rw [pad_cons k1 hs k2, spl_c hb, hcs, List.append_assoc]
                  rfl
                show Mid cur (c :: (w ++ l')) ts' (spl cur (pad (c :: code')))
                rw [ecs]
                unfold Mid
                by_cases hc : cur = []
                · subst hc
                  rw [if_pos rfl]
                  exact .word (w := c :: w) (by simp) (by rw [List.all_cons, hpc, hw]; rfl) hst s
                · rw [if_neg hc]
                  exact ⟨c :: w, l', cs', rfl, by rw [List.all_cons, hpc, hw]; rfl, hst, rfl, s⟩
/-- the chunks of a whole source -/
theorem chunks_of {l code : List Nat} {ts : List (List Nat)} (h : strip l.length l = some (code, ts)) : Sc l ts (spl [] (pad code)) := chunks_lie l.length [] l code ts (Nat.le_refl _) h
end Tok

end
section
set_option maxRecDepth 100000
set_option linter.all false
/-! The words of plainly written sources: what the words are. -/
namespace Tok
def isId : List Nat → Bool
  | [] => false
  | c :: r => isAl c && r.all isAn
def stops : List Nat := [32, 10, 40, 41, 91, 93, 46, 59, 94, 124, 39, 35, 58]
theorem stop_mem {x : Nat} (h : stopH x = true) : x ∈ stops := by
  unfold stopH isB isSp at h
  simp only [Bool.or_eq_true, beq_iff_eq] at h
  unfold stops
  simp only [List.mem_cons, List.not_mem_nil, or_false]
  omega
theorem stop_head {l : List Nat} (h : StopL l) {x : Nat} (hx : l.head? = some x) : x ∈ stops := by
  rcases h with rfl | ⟨y, r, rfl, hy, _⟩
  · cases hx
  · cases hx
    exact stop_mem hy
theorem stop_an {l : List Nat} (h : StopL l) {x : Nat} (hx : l.head? = some x) : isAn x = false := (by decide : ∀ y ∈ stops, isAn y = false) x (stop_head h hx)
theorem stop_dg {l : List Nat} (h : StopL l) {x : Nat} (hx : l.head? = some x) : isDg x = false := (by decide : ∀ y ∈ stops, isDg y = false) x (stop_head h hx)
theorem stop_eq {l : List Nat} (h : StopL l) : l.head? ≠ some 61 := fun e => (by decide : (61 : Nat) ∉ stops) (stop_head h e)
theorem run_app {p : Nat → Bool} : ∀ {a l : List Nat}, a.all p = true → (∀ x, l.head? = some x → p x = false) → run p (a ++ l) = a.length
  | [], [], _, _ => rfl
  | [], x :: l, _, hl => by
    show run p (x :: l) = 0
    rw [run, if_neg (by rw [hl x rfl]; exact Bool.false_ne_true)]
  | c :: a, l, ha, hl => by
    rw [List.all_cons, Bool.and_eq_true] at ha
    show run p (c :: (a ++ l)) = a.length + 1
    rw [run, if_pos ha.1, run_app ha.2 hl]
theorem al_an {c : Nat} (h : isAl c = true) : isAn c = true := by unfold isAn; rw [h]; rfl
theorem id_all {a : List Nat} (h : isId a = true) : a.all isAn = true := by
  cases a with
  | nil => rfl
  | cons c r =>
    unfold isId at h
    rw [Bool.and_eq_true] at h
    rw [List.all_cons, al_an h.1, h.2]
    rfl
theorem id_cons {a : List Nat} (h : isId a = true) : ∃ c r, a = c :: r ∧ isAl c = true ∧ r.all isAn = true := by
  cases a with
  | nil => cases h
  | cons c r =>
    unfold isId at h
    rw [Bool.and_eq_true] at h
    exact ⟨c, r, rfl, h.1, h.2⟩
theorem id_len {a : List Nat} (h : isId a = true) : 0 < a.length := by
  obtain ⟨c, r, rfl, _⟩ := id_cons h
  simp
theorem nameLen_app {a l : List Nat} (ha : isId a = true) (h40 : a.length ≤ 40) (hl : ∀ x, l.head? = some x → isAn x = false) : nameLen (a ++ l) = a.length := by
  have hr := run_app (id_all ha) hl
  obtain ⟨c, r, rfl, h1, h2⟩ := id_cons ha
  show nameLen (c :: (r ++ l)) = _
  unfold nameLen
  have hr' : run isAn (c :: (r ++ l)) = (c :: r).length := hr
  simp only [hr']
  rw [if_pos h1, if_pos h40]
theorem nameLen_no {l : List Nat} (hl : ∀ x, l.head? = some x → isAl x = false) : nameLen l = 0 := by
  cases l with
  | nil => rfl
  | cons c r =>
    unfold nameLen
    simp only []
    rw [if_neg (by rw [hl c rfl]; exact Bool.false_ne_true)]
theorem keyLen_no {l : List Nat} (hl : ∀ x, l.head? = some x → isAl x = false) : keyLen l = 0 := by
  unfold keyLen
  rw [nameLen_no hl, if_neg (fun z => absurd z.1 (Nat.lt_irrefl 0))]
theorem drop_app (a l : List Nat) : (a ++ l).drop a.length = l := List.drop_left
theorem keyLen_stop {a l : List Nat} (ha : isId a = true) (h40 : a.length ≤ 40) (hl : StopL l) : keyLen (a ++ l) = 0 := by
  unfold keyLen
  rw [nameLen_app ha h40 fun x hx => stop_an hl hx, if_neg]
  rintro ⟨_, h2, h3⟩
  rw [drop_app] at h2
  rcases hl with rfl | ⟨x, r, rfl, hx, h58⟩
  · cases h2
  · cases h2
    refine h3 ?_
    rw [show a.length + 1 = (a ++ [58]).length by simp, show a ++ 58 :: r = (a ++ [58]) ++ r by simp, drop_app]
    exact h58 rfl
theorem keyLen_key {a l : List Nat} (ha : isId a = true) (h40 : a.length ≤ 40) (hl : l.head? ≠ some 61) : keyLen (a ++ 58 :: l) = a.length + 1 := by
  unfold keyLen
  rw [nameLen_app (l := 58 :: l) ha h40 fun x hx => by cases hx; rfl, if_pos]
  refine ⟨id_len ha, by rw [drop_app]; rfl, ?_⟩
  rw [show a.length + 1 = (a ++ [58]).length by simp, show a ++ 58 :: l = (a ++ [58]) ++ l by simp, drop_app]
  exact hl
theorem word_name {a l : List Nat} (b : Bool) (ha : isId a = true) (h40 : a.length ≤ 40) (hl : StopL l) : word b (a ++ l) = some (.name, .s a, a.length) := by
  have k := keyLen_stop ha h40 hl
  have n := nameLen_app ha h40 fun x hx => stop_an hl hx
  have z := id_len ha
  obtain ⟨c, r, rfl, h1, _⟩ := id_cons ha
  show word b (c :: (r ++ l)) = _
  have k : keyLen (c :: (r ++ l)) = 0 := k
  have n : nameLen (c :: (r ++ l)) = (c :: r).length := n
  unfold word
  simp only [k, n]
  rw [if_pos h1, if_neg (Nat.lt_irrefl 0), if_pos z]
  have e : (c :: (r ++ l)).take (c :: r).length = c :: r := List.take_left (l₁ := c :: r)
  rw [e]
theorem word_key {a l : List Nat} (b : Bool) (ha : isId a = true) (h40 : a.length ≤ 40) (hl : l.head? ≠ some 61) : word b (a ++ 58 :: l) = some (.keyword, .s (a ++ [58]), a.length + 1) := by
  have k := keyLen_key ha h40 hl
  obtain ⟨c, r, rfl, h1, _⟩ := id_cons ha
  show word b (c :: (r ++ 58 :: l)) = _
  have k : keyLen (c :: (r ++ 58 :: l)) = (c :: r).length + 1 := k
  unfold word
  simp only [k]
  rw [if_pos h1, if_pos (Nat.succ_pos _)]
  have e : (c :: (r ++ 58 :: l)).take ((c :: r).length + 1) = c :: r ++ [58] := by
    rw [show c :: (r ++ 58 :: l) = (c :: r ++ [58]) ++ l by simp, show (c :: r).length + 1 = (c :: r ++ [58]).length by simp]
    exact List.take_left
  rw [e]
theorem dg_al {c : Nat} (h : isDg c = true) : isAl c = false := by
  unfold isDg at h
  unfold isAl
  simp only [Bool.and_eq_true, decide_eq_true_eq] at h
  have h1 : ¬ 65 ≤ c := by omega
  have h2 : ¬ 97 ≤ c := by omega
  simp [h1, h2]
theorem word_int {a l : List Nat} (b : Bool) (hn : a ≠ []) (ha : a.all isDg = true) (h60 : a.length ≤ 60) (hl : StopL l) : word b (a ++ l) = some (.int, .i (num a), a.length) := by
  have hr := run_app ha fun x hx => stop_dg hl hx
  cases a with
  | nil => exact absurd rfl hn
  | cons c r =>
    rw [List.all_cons, Bool.and_eq_true] at ha
    show word b (c :: (r ++ l)) = _
    have hr : run isDg (c :: (r ++ l)) = (c :: r).length := hr
    unfold word
    simp only [hr]
    rw [if_neg (by rw [dg_al ha.1]; exact Bool.false_ne_true), if_pos ha.1, if_pos h60]
    have e : (c :: (r ++ l)).take (c :: r).length = c :: r := List.take_left (l₁ := c :: r)
    rw [e]
theorem word_minus {a l : List Nat} (hn : a ≠ []) (ha : a.all isDg = true) (h60 : a.length ≤ 60) (hl : StopL l) : word true (45 :: (a ++ l)) = some (.int, .i (-(num a : Int)), a.length + 1) := by
  have hr := run_app ha fun x hx => stop_dg hl hx
  have hz : 0 < a.length := by
    cases a with
    | nil => exact absurd rfl hn
    | cons c r => simp
  unfold word
  simp only [hr]
  rw [if_neg (by decide), if_neg (by decide), if_neg (by decide), if_neg (by decide), if_pos (by simp), if_pos ⟨hz, h60⟩]
  have e : (a ++ l).take a.length = a := List.take_left
  rw [e]
/-! ### listed ones -/
theorem listed_two (ws : List (List Nat)) (l : List Nat) : listed ws l = listed ws (l.take 2) := by
  unfold listed
  rw [List.take_take, List.take_take]
  rfl
theorem ops_end : ∀ w ∈ ops, listed ops w = w.length ∧ ∀ x ∈ stops, listed ops ((w ++ [x]).take 2) = w.length := by decide
theorem ops_ne : ∀ w ∈ ops, w ≠ [] := by decide
theorem take_two {w : List Nat} (hw : w ≠ []) (x : Nat) (r : List Nat) : (w ++ x :: r).take 2 = (w ++ [x]).take 2 := by
  cases w with
  | nil => exact absurd rfl hw
  | cons c w =>
    cases w with
    | nil => rfl
    | cons d w => rfl
theorem listed_op {w l : List Nat} (hw : w ∈ ops) (hl : StopL l) : listed ops (w ++ l) = w.length := by
  obtain ⟨h1, h2⟩ := ops_end w hw
  rcases hl with rfl | ⟨x, r, rfl, hx, _⟩
  · rw [List.append_nil]
    exact h1
  · rw [listed_two, take_two (ops_ne w hw)]
    exact h2 x (stop_mem hx)
theorem ops_first : ∀ w ∈ ops, ∀ c ∈ w.head?, isAl c = false ∧ isDg c = false ∧ c ≠ 39 ∧ c ≠ 35 ∧ (c = 45 → w = [45]) := by decide
theorem word_op {w l : List Nat} (b : Bool) (hw : w ∈ ops) (hl : StopL l) : word b (w ++ l) = some (.op, .s w, w.length) := by
  have ho : other (w ++ l) = some (.op, .s w, w.length) := by
    unfold other
    rw [listed_op hw hl, if_pos (List.length_pos_iff.mpr (ops_ne w hw)), List.take_left]
  have hf := ops_first w hw
  cases w with
  | nil => exact absurd rfl (ops_ne [] hw)
  | cons c w =>
    obtain ⟨h1, h2, h3, h4, h5⟩ := hf c rfl
    show word b (c :: (w ++ l)) = _
    have ho : other (c :: (w ++ l)) = some (.op, .s (c :: w), (c :: w).length) := ho
    unfold word
    simp only [ho]
    rw [if_neg (by rw [h1]; exact Bool.false_ne_true), if_neg (by rw [h2]; exact Bool.false_ne_true), if_neg h3, if_neg h4]
    split
    · rename_i h
      have hw1 := h5 h.1
      cases hw1
      have hr : run isDg ([] ++ l) = 0 := run_app (a := []) rfl fun x hx => stop_dg hl hx
      have hr : run isDg l = 0 := hr
      rw [List.nil_append, hr, if_neg (fun z => absurd z.1 (Nat.lt_irrefl 0))]
    · rfl
theorem head_take (l : List Nat) : (l.take 2).head? = l.head? := by
  cases l with
  | nil => rfl
  | cons c l => rfl
/-- a sign, whatever follows -/
theorem word_sp {c : Nat} (b : Bool) (l : List Nat) (h : isSp c = true) : word b (c :: l) = some (.sign, .s [c], 1) := by
  have hm : c ∈ [40, 41, 91, 93, 46, 59, 94, 124] := by
    unfold isSp at h
    simp only [Bool.or_eq_true, beq_iff_eq] at h
    simp only [List.mem_cons, List.not_mem_nil, or_false]
    omega
  have f := (by decide : ∀ c ∈ [40, 41, 91, 93, 46, 59, 94, 124], isAl c = false ∧ isDg c = false ∧ c ≠ 39 ∧ c ≠ 35 ∧ c ≠ 45 ∧ [c] ∉ ops ∧ [c] ∈ signs ∧ (∀ w ∈ ops, w.head? ≠ some c) ∧ ∀ w ∈ signs, w.head? = some c → w = [c]) c hm
  obtain ⟨h1, h2, h3, h4, h5, h6, h7, h8, h9⟩ := f
  have ho : listed ops (c :: l) = 0 := by
    unfold listed
    rw [if_neg (fun z => h8 _ z rfl), if_neg (fun z => h8 _ z rfl)]
  have hs : listed signs (c :: l) = 1 := by
    unfold listed
    split
    · rename_i z
      have := h9 _ z rfl
      rw [this]
      rfl
    · rw [if_pos (show (c :: l).take 1 ∈ signs from h7)]
      rfl
  have e : other (c :: l) = some (.sign, .s [c], 1) := by
    unfold other
    rw [ho, if_neg (Nat.lt_irrefl 0), hs, if_pos (Nat.lt_succ_self 0)]
    rfl
  unfold word
  simp only [e]
  rw [if_neg (by rw [h1]; exact Bool.false_ne_true), if_neg (by rw [h2]; exact Bool.false_ne_true), if_neg h3, if_neg h4, if_neg fun z => h5 z.1]
theorem word_asg (b : Bool) (l : List Nat) : word b (58 :: 61 :: l) = some (.sign, .s [58, 61], 2) := by
  have e : other (58 :: 61 :: l) = some (.sign, .s [58, 61], 2) := by
    have ho : listed ops (58 :: 61 :: l) = 0 := by rw [listed_two]; rfl
    have hs : listed signs (58 :: 61 :: l) = 2 := by rw [listed_two]; rfl
    unfold other
    rw [ho, hs]
    rfl
  unfold word
  simp only [e]
  rw [if_neg (by decide), if_neg (by decide), if_neg (by decide), if_neg (by decide), if_neg fun z => by cases z.1]
theorem word_arr (b : Bool) (l : List Nat) : word b (35 :: 40 :: l) = some (.sign, .s [35, 40], 2) := by
  have e : other (35 :: 40 :: l) = some (.sign, .s [35, 40], 2) := by
    have ho : listed ops (35 :: 40 :: l) = 0 := by rw [listed_two]; rfl
    have hs : listed signs (35 :: 40 :: l) = 2 := by rw [listed_two]; rfl
    unfold other
    rw [ho, hs]
    rfl
  have hn : ∀ x, (40 :: l : List Nat).head? = some x → isAl x = false := fun x hx => by cases hx; rfl
  have hk : keysLen (40 :: l : List Nat).length (40 :: l) = 0 := by
    show keysLen (l.length + 1) (40 :: l) = 0
    rw [keysLen, keyLen_no hn, if_neg (Nat.lt_irrefl 0)]
  have ho : listed ops (40 :: l) = 0 := by
    unfold listed
    rw [if_neg, if_neg]
    · exact fun z => (by decide : ∀ w ∈ ops, w.head? ≠ some 40) _ z rfl
    · exact fun z => (by decide : ∀ w ∈ ops, w.head? ≠ some 40) _ z rfl
  have hs : symbol (40 :: l) = none := by
    unfold symbol
    rw [if_neg (fun z => by cases z), hk, if_neg (Nat.lt_irrefl 0), nameLen_no hn, if_neg (Nat.lt_irrefl 0), ho, if_neg (Nat.lt_irrefl 0)]
  unfold word
  simp only [hs, e]
  rw [if_neg (by decide), if_neg (by decide), if_neg (by decide), if_pos (by simp)]
/-- a : that is none of := and of no keyword -/
theorem word_colon (b : Bool) {l : List Nat} (h : l.head? ≠ some 61) : word b (58 :: l) = some (.sign, .s [58], 1) := by
  have ho : listed ops (58 :: l) = 0 := by
    unfold listed
    rw [if_neg (fun z => (by decide : ∀ w ∈ ops, w.head? ≠ some 58) _ z rfl), if_neg (fun z => (by decide : ∀ w ∈ ops, w.head? ≠ some 58) _ z rfl)]
  have hs : listed signs (58 :: l) = 1 := by
    unfold listed
    split
    · rename_i z
      cases l with
      | nil => rfl
      | cons d l =>
        have : d = 61 := by
          have q := (by decide : ∀ w ∈ signs, w.head? = some 58 → w.length = 2 → w = [58, 61]) _ z rfl rfl
          injection q with _ q
          injection q
        exact absurd (by rw [this]; rfl) h
    · rfl
  have e : other (58 :: l) = some (.sign, .s [58], 1) := by
    unfold other
    rw [ho, if_neg (Nat.lt_irrefl 0), hs, if_pos (Nat.lt_succ_self 0)]
    rfl
  unfold word
  simp only [e]
  rw [if_neg (by decide), if_neg (by decide), if_neg (by decide), if_neg (by decide), if_neg fun z => by cases z.1]
/-! ### symbols -/
theorem word_hash {l : List Nat} (b : Bool) {v : Val} {n : Nat} (h : symbol l = some (v, n)) : word b (35 :: l) = some (.sym, v, n + 1) := by
  unfold word
  simp only [h]
  rw [if_neg (by decide), if_neg (by decide), if_neg (by decide), if_pos (by simp)]
theorem keysLen_zero {f : Nat} {l : List Nat} (h : keyLen l = 0) : keysLen f l = 0 := by
  cases f with
  | zero => rfl
  | succ f => rw [keysLen, h, if_neg (Nat.lt_irrefl 0)]
theorem al_q {c : Nat} (h : isAl c = true) : c ≠ 39 := fun e => by subst e; cases h
theorem sym_name {a l : List Nat} (ha : isId a = true) (h40 : a.length ≤ 40) (hl : StopL l) : symbol (a ++ l) = some (.s a, a.length) := by
  have k : keysLen (a ++ l).length (a ++ l) = 0 := keysLen_zero (keyLen_stop ha h40 hl)
  have n := nameLen_app ha h40 fun x hx => stop_an hl hx
  have hh : (a ++ l).head? ≠ some 39 := by
    obtain ⟨c, r, rfl, h1, _⟩ := id_cons ha
    intro e
    have e : some c = some 39 := e
    exact al_q h1 (Option.some.inj e)
  unfold symbol
  rw [if_neg hh, k, if_neg (Nat.lt_irrefl 0), n, if_pos (id_len ha), List.take_left]
theorem sym_op {w l : List Nat} (hw : w ∈ ops) (hl : StopL l) : symbol (w ++ l) = some (.s w, w.length) := by
  have f : ∀ x, (w ++ l).head? = some x → isAl x = false ∧ x ≠ 39 := fun x hx => by
    have hf := ops_first w hw
    cases w with
    | nil => exact absurd rfl (ops_ne [] hw)
    | cons c w =>
      have hc := hf x (by cases hx; rfl)
      exact ⟨hc.1, hc.2.2.1⟩
  have k : keysLen (w ++ l).length (w ++ l) = 0 := keysLen_zero (keyLen_no fun x hx => (f x hx).1)
  unfold symbol
  rw [if_neg (fun e => (f 39 e).2 rfl), k, if_neg (Nat.lt_irrefl 0), nameLen_no (fun x hx => (f x hx).1), if_neg (Nat.lt_irrefl 0), listed_op hw hl, if_pos (List.length_pos_iff.mpr (ops_ne w hw)), List.take_left]
/-- keywords, one directly behind the other -/
def keys : List (List Nat) → List Nat
  | [] => []
  | a :: r => a ++ 58 :: keys r
def okPart (a : List Nat) : Bool := isId a && decide (a.length ≤ 40)
theorem part_ok {a : List Nat} (h : okPart a = true) : isId a = true ∧ a.length ≤ 40 := by
  unfold okPart at h
  rw [Bool.and_eq_true] at h
  exact ⟨h.1, of_decide_eq_true h.2⟩
theorem keys_head {ps : List (List Nat)} {l : List Nat} (hp : ps.all okPart = true) (hl : StopL l) : (keys ps ++ l).head? ≠ some 61 := by
  cases ps with
  | nil => exact stop_eq hl
  | cons a r =>
    rw [List.all_cons, Bool.and_eq_true] at hp
    obtain ⟨h1, _⟩ := part_ok hp.1
    obtain ⟨c, q, rfl, h2, _⟩ := id_cons h1
    intro e
    have e : some c = some 61 := e
    cases e
    cases h2
theorem keysLen_keys : ∀ {ps : List (List Nat)} {l : List Nat} (f : Nat), ps.all okPart = true → StopL l → (keys ps).length ≤ f → keysLen f (keys ps ++ l) = (keys ps).length
  | [], l, f, _, hl, _ => keysLen_zero (keyLen_no fun x hx => by
      have := stop_an hl hx
      unfold isAn at this
      rw [Bool.or_eq_false_iff] at this
      exact this.1)
  | a :: r, l, f, hp, hl, hf => by
    have hp' := hp
    rw [List.all_cons, Bool.and_eq_true] at hp
    obtain ⟨h1, h2⟩ := part_ok hp.1
    have e : keys (a :: r) ++ l = a ++ 58 :: (keys r ++ l) := by show (a ++ 58 :: keys r) ++ l = _; simp
    have hln : (keys (a :: r)).length = a.length + 1 + (keys r).length := by show (a ++ 58 :: keys r).length = _; simp; omega
    cases f with
    | zero => omega
    | succ f =>
      rw [keysLen, e, keyLen_key h1 h2 (keys_head hp.2 hl), if_pos (Nat.succ_pos _)]
      rw [show a ++ 58 :: (keys r ++ l) = (a ++ [58]) ++ (keys r ++ l) by simp, show a.length + 1 = (a ++ [58]).length by simp, drop_app, keysLen_keys f hp.2 hl (by omega), hln]
      simp
theorem sym_keys {ps : List (List Nat)} {l : List Nat} (hn : ps ≠ []) (hp : ps.all okPart = true) (hl : StopL l) : symbol (keys ps ++ l) = some (.s (keys ps), (keys ps).length) := by
  have k := keysLen_keys (keys ps ++ l).length hp hl (by rw [List.length_append]; omega)
  have hz : 0 < (keys ps).length ∧ (keys ps ++ l).head? ≠ some 39 := by
    cases ps with
    | nil => exact absurd rfl hn
    | cons a r =>
      rw [List.all_cons, Bool.and_eq_true] at hp
      obtain ⟨h1, _⟩ := part_ok hp.1
      obtain ⟨c, q, rfl, h2, _⟩ := id_cons h1
      refine ⟨by show 0 < (c :: q ++ 58 :: keys r).length; simp, fun e => ?_⟩
      have e : some c = some 39 := e
      exact al_q h2 (Option.some.inj e)
  unfold symbol
  rw [if_neg hz.2, k, if_pos hz.1, List.take_left]
theorem body_fuel : ∀ (f g : Nat) (l : List Nat), l.length ≤ f → l.length ≤ g → strBody f l = strBody g l
  | 0, g, [], _, _ => by cases g <;> rfl
  | 0, g, c :: l, h, _ => by simp at h
  | f + 1, 0, [], _, _ => rfl
  | f + 1, 0, c :: l, _, h => by simp at h
  | f + 1, g + 1, [], _, _ => rfl
  | f + 1, g + 1, c :: l, h, h2 => by
    simp only [List.length_cons] at h h2
    rw [strBody.eq_def, strBody.eq_def (g + 1)]
    simp only []
    have e := body_fuel f g l (by omega) (by omega)
    split
    · cases l with
      | nil => rfl
      | cons d r =>
        simp only [List.length_cons] at h h2
        have e2 := body_fuel f g r (by omega) (by omega)
        by_cases hd : d = 39
        · subst hd
          simp only [e2]
        · have hne : ∀ r', d :: r ≠ 39 :: r' := fun r' z => hd (List.cons.inj z).1
          split
          · rename_i r' z
            exact absurd z (hne _)
          · rfl
    · rw [e]
theorem word_str (b : Bool) {l t : List Nat} {n : Nat} (h : strBody l.length l = some (t, n)) : word b (39 :: l) = some (.str, .s t, n + 1) := by
  have e : strBody (l.length + 1) l = some (t, n) := by rw [body_fuel (l.length + 1) l.length l (by omega) (Nat.le_refl _), h]
  unfold word
  simp only [List.length_cons, e]
  rw [if_neg (by decide), if_neg (by decide), if_pos (by simp)]
theorem word_symstr (b : Bool) {l t : List Nat} {n : Nat} (h : strBody l.length l = some (t, n)) : word b (35 :: 39 :: l) = some (.sym, .s t, n + 2) := by
  have e : strBody (l.length + 1) l = some (t, n) := by rw [body_fuel (l.length + 1) l.length l (by omega) (Nat.le_refl _), h]
  refine word_hash b ?_
  unfold symbol
  rw [if_pos (show (39 :: l : List Nat).head? = some 39 from rfl)]
  show (match strBody (l.length + 1) l with | some (t, n) => some (Val.s t, n + 1) | none => none) = _
  rw [e]
/-! ### going on -/
def lastK (ws : List W) : Option (Kd × Val) := ws.getLast?.map fun w => (w.1, w.2.1)
theorem lastK_app (ws : List W) (w : W) : lastK (ws ++ [w]) = some (w.1, w.2.1) := by
  unfold lastK
  rw [List.getLast?_append]
  rfl
def comb (ws : List W) : Except Nat (List W) → Except Nat (List W)
  | .ok r => .ok (ws ++ r)
  | .error q => .error q
/-- ws are the words of L up to place p; l is what is left -/
def Go (L : List Nat) (ws : List W) (l : List Nat) (p : Nat) : Prop := ∃ (f : Nat) (par : List Bool), l.length < f ∧ words L = comb ws (toks f l p par (lastK ws))
theorem go_start (L : List Nat) : Go L [] L 0 := ⟨L.length + 1, [], Nat.lt_succ_self _, by
  show toks (L.length + 1) L 0 [] none = comb [] (toks (L.length + 1) L 0 [] none)
  generalize toks (L.length + 1) L 0 [] none = x
  cases x <;> rfl⟩
theorem isGap_all : ∀ {g : List Nat}, g.all isB = true → IsGap g
  | [], _ => isGap_nil
  | c :: g, h => by
    rw [List.all_cons, Bool.and_eq_true] at h
    have hc : c = 32 ∨ c = 10 := by
      have := h.1
      unfold isB at this
      simpa using this
    exact isGap_app (a := [c]) (isGap_blank hc) (isGap_all h.2)
theorem go_blank {L g l : List Nat} {ws : List W} {p : Nat} (hg : g.all isB = true) (h : Go L ws (g ++ l) p) : Go L ws l (p + g.length) := by
  obtain ⟨f, par, hf, e⟩ := h
  rw [List.length_append] at hf
  cases f with
  | zero => omega
  | succ f =>
    refine ⟨f + 1, par, by omega, ?_⟩
    rw [e, toks_gap (isGap_all hg)]
theorem gap_zero {c : Nat} {l : List Nat} (h1 : isB c = false) (h2 : c ≠ 34) : gap (c :: l).length (c :: l) = .ok 0 := by
  have h : ¬ (c = 32 ∨ c = 10) := by
    unfold isB at h1
    intro z
    rcases z with z | z <;> · subst z; cases h1
  show gap (l.length + 1) (c :: l) = .ok 0
  rw [gap, if_neg h, if_neg h2]
theorem toks_step {l : List Nat} {p c m f : Nat} {k : Kd} {v : Val} {par : List Bool} {last : Option (Kd × Val)} (h1 : isB c = false) (h2 : c ≠ 34) (hw : word (binds par last) (c :: l) = some (k, v, m)) :
    toks (f + 1) (c :: l) p par last = (match toks f ((c :: l).drop m) (p + m) (note par k v) (some (k, v)) with | .ok ws => .ok ((k, v, p) :: ws) | .error q => .error q) := by
  rw [toks, gap_zero h1 h2]
  simp only []
  rw [List.drop_zero, if_neg (by simp), hw]
  simp only [Nat.zero_add, Nat.add_zero]
  try rfl
theorem go_word {L l : List Nat} {ws : List W} {p c m : Nat} {k : Kd} {v : Val} (h1 : isB c = false) (h2 : c ≠ 34) (hw : ∀ par, word (binds par (lastK ws)) (c :: l) = some (k, v, m)) (h : Go L ws (c :: l) p) : Go L (ws ++ [(k, v, p)]) ((c :: l).drop m) (p + m) := by
  obtain ⟨f, par, hf, e⟩ := h
  cases f with
  | zero => simp at hf
  | succ f =>
    have hm := word_pos (hw par)
    refine ⟨f, note par k v, by rw [List.length_drop]; simp only [List.length_cons] at hf ⊢; omega, ?_⟩
    rw [e, toks_step h1 h2 (hw par), lastK_app]
    generalize toks f ((c :: l).drop m) (p + m) (note par k v) (some (k, v)) = x
    cases x with
    | ok r => show Except.ok (ws ++ (k, v, p) :: r) = Except.ok (ws ++ [(k, v, p)] ++ r); rw [List.append_assoc]; rfl
    | error q => rfl
theorem go_end {L : List Nat} {ws : List W} {p : Nat} (h : Go L ws [] p) : words L = .ok ws := by
  obtain ⟨f, par, hf, e⟩ := h
  cases f with
  | zero => simp at hf
  | succ f =>
    rw [e]
    unfold toks
    simp [gap, comb]
end Tok

end
section
set_option maxRecDepth 100000
set_option linter.all false
/-! The words of plainly written sources: chunk by chunk. -/
namespace Tok
/-- how the chunk ch stands in the source: t its signs there, l' what follows -/
inductive Ck : List Nat → List Nat → List Nat → List (List Nat) → List (List Nat) → Prop where
  | sp {c : Nat} {l' : List Nat} {ts : List (List Nat)} (h : isSp c = true) : Ck [c] [c] l' ts ts
  | arr {l' : List Nat} {ts : List (List Nat)} : Ck [64] [35, 40] l' ts ts
  | asg {l' : List Nat} {ts : List (List Nat)} : Ck [58, 61] [58, 61] l' ts ts
  | str {l0 t : List Nat} {n : Nat} {ts : List (List Nat)} (h : strBody l0.length l0 = some (t, n)) (hn : n ≤ l0.length) : Ck [123] (39 :: l0.take n) (l0.drop n) (t :: ts) ts
  | sym {l0 t : List Nat} {n : Nat} {ts : List (List Nat)} (h : strBody l0.length l0 = some (t, n)) (hn : n ≤ l0.length) : Ck [125] (35 :: 39 :: l0.take n) (l0.drop n) (t :: ts) ts
  | word {w l' : List Nat} {ts : List (List Nat)} (h : w ≠ []) (hp : w.all plainC = true) (hl : StopL l') : Ck w w l' ts ts
theorem body_len : ∀ {f : Nat} {l t : List Nat} {n : Nat}, strBody f l = some (t, n) → n ≤ l.length
  | 0, _, _, _, h => by cases h
  | _ + 1, [], _, _, h => by cases h
  | f + 1, c :: l, t, n, h => by
    rw [strBody.eq_def] at h
    simp only [] at h
    split at h
    · split at h
      · rename_i r
        split at h
        · rename_i t' n' e
          cases h
          have := body_len e
          simp only [List.length_cons]
          omega
        · cases h
      · cases h
        simp
    · split at h
      · rename_i t' n' e
        cases h
        have := body_len e
        simp only [List.length_cons]
        omega
      · cases h
theorem sc_next {l : List Nat} {ts cs : List (List Nat)} (s : Sc l ts cs) : ∀ {ch : List Nat} {rest : List (List Nat)}, cs = ch :: rest → ∃ g t l' ts', l = g ++ (t ++ l') ∧ g.all isB = true ∧ Ck ch t l' ts ts' ∧ Sc l' ts' rest := by
  induction s with
  | nil => intro ch rest e; cases e
  | blank h s ih =>
    rename_i c l ts cs
    intro ch rest e
    obtain ⟨g, t, l', ts', rfl, hg, k, s'⟩ := ih e
    exact ⟨c :: g, t, l', ts', rfl, by rw [List.all_cons, h, hg]; rfl, k, s'⟩
  | sp h s ih =>
    intro ch rest e
    cases e
    exact ⟨[], _, _, _, rfl, rfl, .sp h, s⟩
  | arr s ih =>
    intro ch rest e
    cases e
    exact ⟨[], _, _, _, rfl, rfl, .arr, s⟩
  | asg s ih =>
    intro ch rest e
    cases e
    exact ⟨[], _, _, _, rfl, rfl, .asg, s⟩
  | str h s ih =>
    intro ch rest e
    cases e
    refine ⟨[], _, _, _, ?_, rfl, .str h (body_len h), s⟩
    simp
  | sym h s ih =>
    intro ch rest e
    cases e
    refine ⟨[], _, _, _, ?_, rfl, .sym h (body_len h), s⟩
    simp
  | word h hp hl s ih =>
    intro ch rest e
    cases e
    exact ⟨[], _, _, _, rfl, rfl, .word h hp hl, s⟩
theorem sc_end {l : List Nat} {ts cs : List (List Nat)} (s : Sc l ts cs) : cs = [] → l.all isB = true ∧ ts = [] := by
  induction s with
  | nil => intro _; exact ⟨rfl, rfl⟩
  | blank h s ih =>
    intro e
    obtain ⟨h1, h2⟩ := ih e
    exact ⟨by rw [List.all_cons, h, h1]; rfl, h2⟩
  | sp h s ih => intro e; cases e
  | arr s ih => intro e; cases e
  | asg s ih => intro e; cases e
  | str h s ih => intro e; cases e
  | sym h s ih => intro e; cases e
  | word h hp hl s ih => intro e; cases e
/-- where the reading stands: at place p of L, with the words ws, the texts ts and the chunks cs to come -/
def At (L : List Nat) (ws : List W) (p : Nat) (ts cs : List (List Nat)) : Prop := p ≤ L.length ∧ Go L ws (L.drop p) p ∧ Sc (L.drop p) ts cs
theorem at_end {L : List Nat} {ws : List W} {p : Nat} {ts : List (List Nat)} (h : At L ws p ts []) : words L = .ok ws := by
  obtain ⟨_, g, s⟩ := h
  obtain ⟨hb, _⟩ := sc_end s rfl
  have g2 : Go L ws ([] : List Nat) (p + (L.drop p).length) := go_blank hb (by rw [List.append_nil]; exact g)
  exact go_end g2
/-- the next chunk: it stands at q -/
structure Next (L : List Nat) (ws : List W) (p q : Nat) (ch t l' : List Nat) (ts ts' rest : List (List Nat)) : Prop where
  ge : p ≤ q
  drop : L.drop q = t ++ l'
  gap : ∀ j, p ≤ j → j < q → ∃ c, L[j]? = some c ∧ isB c = true
  go : Go L ws (t ++ l') q
  ck : Ck ch t l' ts ts'
  sc : Sc l' ts' rest
theorem at_next {L : List Nat} {ws : List W} {p : Nat} {ts : List (List Nat)} {ch : List Nat} {rest : List (List Nat)} (h : At L ws p ts (ch :: rest)) : ∃ q t l' ts', Next L ws p q ch t l' ts ts' rest := by
  obtain ⟨hp, g, s⟩ := h
  obtain ⟨gp, t, l', ts', e, hg, k, s'⟩ := sc_next s rfl
  refine ⟨p + gp.length, t, l', ts', by omega, ?_, fun j h1 h2 => ?_, ?_, k, s'⟩
  · rw [← List.drop_drop, e, List.drop_left]
  · have ej : L[j]? = (L.drop p)[j - p]? := by rw [List.getElem?_drop, show p + (j - p) = j by omega]
    rw [ej, e, List.getElem?_append_left (by omega)]
    have hlt : j - p < gp.length := by omega
    exact ⟨gp[j - p], List.getElem?_eq_getElem hlt, List.all_eq_true.mp hg _ (List.getElem_mem hlt)⟩
  · rw [e] at g
    exact go_blank hg g
theorem next_len {L : List Nat} {ws : List W} {p q : Nat} {ch t l' : List Nat} {ts ts' rest : List (List Nat)} (n : Next L ws p q ch t l' ts ts' rest) (ht : t ≠ []) : q + t.length ≤ L.length := by
  have e := congrArg List.length n.drop
  rw [List.length_drop, List.length_append] at e
  have : 0 < t.length := List.length_pos_iff.mpr ht
  omega
theorem next_end {L : List Nat} {ws ws' : List W} {p q : Nat} {ch t l' : List Nat} {ts ts' rest : List (List Nat)} (n : Next L ws p q ch t l' ts ts' rest) (ht : t ≠ []) (g : Go L ws' l' (q + t.length)) : At L ws' (q + t.length) ts' rest := by
  have e : L.drop (q + t.length) = l' := by rw [← List.drop_drop, n.drop, List.drop_left]
  refine ⟨next_len n ht, ?_, ?_⟩
  · rw [e]
    exact g
  · rw [e]
    exact n.sc
/-- one word for the chunk -/
theorem next_one {L : List Nat} {ws : List W} {p q : Nat} {ch t l' : List Nat} {ts ts' rest : List (List Nat)} {k : Kd} {v : Val} (n : Next L ws p q ch t l' ts ts' rest) {c : Nat} {r : List Nat} (et : t = c :: r) (h1 : isB c = false) (h2 : c ≠ 34)
    (hw : ∀ par, word (binds par (lastK ws)) (t ++ l') = some (k, v, t.length)) : At L (ws ++ [(k, v, q)]) (q + t.length) ts' rest := by
  have ht : t ≠ [] := by rw [et]; simp
  refine next_end n ht ?_
  have g := n.go
  subst et
  have := go_word (l := r ++ l') h1 h2 hw g
  have e : (c :: (r ++ l')).drop (c :: r).length = l' := List.drop_left (l₁ := c :: r)
  rw [e] at this
  exact this
/-! ### which chunks are which words -/
theorem plain_first {w : List Nat} (hw : w ≠ []) (hp : w.all plainC = true) : ∃ c r, w = c :: r ∧ isB c = false ∧ isSp c = false ∧ c ≠ 39 := by
  cases w with
  | nil => exact absurd rfl hw
  | cons c r =>
    rw [List.all_cons, Bool.and_eq_true] at hp
    have h := hp.1
    unfold plainC at h
    simp only [Bool.and_eq_true, Bool.not_eq_true', bne_iff_ne] at h
    exact ⟨c, r, rfl, h.1.1, h.1.2, h.2⟩
/-- the table of words that are always the same -/
def fixed : List (List Nat × Kd) := ([[58, 61], [40], [41], [91], [93], [58], [124], [94], [46], [59]].map fun w => (w, Kd.sign)) ++ ops.map fun w => (w, Kd.op)
theorem fixed_cases {w : List Nat} {k : Kd} (h : (w, k) ∈ fixed) : (k = .sign ∧ w ∈ ([[58, 61], [40], [41], [91], [93], [58], [124], [94], [46], [59]] : List (List Nat))) ∨ (k = .op ∧ w ∈ ops) := by
  unfold fixed at h
  rcases List.mem_append.mp h with h | h
  · obtain ⟨x, hx, e⟩ := List.mem_map.mp h
    cases e
    exact .inl ⟨rfl, hx⟩
  · obtain ⟨x, hx, e⟩ := List.mem_map.mp h
    cases e
    exact .inr ⟨rfl, hx⟩
theorem ops_plain : ∀ w ∈ ops, w.all plainC = true ∧ 34 ∉ w ∧ w ≠ [64] ∧ w ≠ [123] ∧ w ≠ [125] ∧ w ≠ [58, 61] ∧ (w.length = 1 → isSp (w.headD 0) = false) := by decide +kernel
/-- a chunk of the table; it is one word -/
theorem step_fixed {L : List Nat} {ws : List W} {p q : Nat} {ch t l' : List Nat} {ts ts' rest : List (List Nat)} {k : Kd} (n : Next L ws p q ch t l' ts ts' rest) (h : (ch, k) ∈ fixed) : t = ch ∧ At L (ws ++ [(k, .s ch, q)]) (q + ch.length) ts' rest := by
  have ck := n.ck
  rcases fixed_cases h with ⟨rfl, hw⟩ | ⟨rfl, hw⟩
  · cases ck with
    | sp hs =>
      rename_i c
      refine ⟨rfl, next_one n rfl ?_ ?_ fun par => word_sp _ _ hs⟩
      · cases hb : isB c with
        | false => rfl
        | true =>
          unfold isB at hb
          rcases Bool.or_eq_true_iff.mp hb with e | e <;> · have e := eq_of_beq e; subst e; cases hs
      · intro e
        subst e
        cases hs
    | arr => simp at hw
    | asg => exact ⟨rfl, next_one n rfl (by rfl) (by decide) fun par => word_asg _ _⟩
    | str hb hn => simp at hw
    | sym hb hn => simp at hw
    | word hne hp hl =>
      simp only [List.mem_cons, List.not_mem_nil, or_false] at hw
      have e : ch = [58, 61] ∨ ch = [58] := by
        rcases hw with e | e | e | e | e | e | e | e | e | e <;> first | exact .inl e | exact .inr e | (subst e; cases hp)
      rcases e with e | e
      · subst e
        exact ⟨rfl, next_one n rfl (by rfl) (by decide) fun par => word_asg _ _⟩
      · subst e
        exact ⟨rfl, next_one n rfl (by rfl) (by decide) fun par => word_colon _ (stop_eq hl)⟩
  · obtain ⟨o1, o2, o3, o4, o5, o6, o7⟩ := ops_plain ch hw
    cases ck with
    | sp hs => cases (show (true : Bool) = false from hs.symm.trans (o7 rfl))
    | arr => exact absurd rfl o3
    | asg => exact absurd rfl o6
    | str hb hn => exact absurd rfl o4
    | sym hb hn => exact absurd rfl o5
    | word hne hp hl =>
      obtain ⟨c, r, e, h1, h2, h3⟩ := plain_first hne hp
      exact ⟨rfl, next_one n e h1 (fun z => o2 (by rw [e, z]; exact List.mem_cons_self)) fun par => word_op _ hw hl⟩
/-- the chunk is a word that is plainly written: no sign of its own, no string -/
theorem ck_word {ch t l' : List Nat} {ts ts' : List (List Nat)} (k : Ck ch t l' ts ts') (h1 : ∀ c, ch = [c] → isSp c = false) (h2 : ch ≠ [64]) (h3 : ch ≠ [123]) (h4 : ch ≠ [125]) (h5 : ch ≠ [58, 61]) : t = ch ∧ ts' = ts ∧ ch ≠ [] ∧ ch.all plainC = true ∧ StopL l' := by
  cases k with
  | sp hs => rw [h1 _ rfl] at hs; cases hs
  | arr => exact absurd rfl h2
  | asg => exact absurd rfl h5
  | str => exact absurd rfl h3
  | sym => exact absurd rfl h4
  | word h hp hl => exact ⟨rfl, rfl, h, hp, hl⟩
theorem al_sp {c : Nat} (h : isAl c = true) : isSp c = false ∧ isB c = false ∧ c ≠ 34 ∧ c ≠ 64 ∧ c ≠ 123 ∧ c ≠ 125 ∧ c ≠ 58 ∧ c ≠ 35 ∧ c ≠ 45 := by
  unfold isAl at h
  simp only [Bool.or_eq_true, Bool.and_eq_true, decide_eq_true_eq] at h
  unfold isSp isB
  simp only [Bool.or_eq_false_iff, beq_eq_false_iff_ne]
  omega
theorem dg_sp {c : Nat} (h : isDg c = true) : isSp c = false ∧ isB c = false ∧ c ≠ 34 ∧ c ≠ 64 ∧ c ≠ 123 ∧ c ≠ 125 ∧ c ≠ 58 := by
  unfold isDg at h
  simp only [Bool.and_eq_true, decide_eq_true_eq] at h
  unfold isSp isB
  simp only [Bool.or_eq_false_iff, beq_eq_false_iff_ne]
  omega
/-- what the first sign of a chunk says of it -/
theorem ck_first {ch t l' : List Nat} {ts ts' : List (List Nat)} (k : Ck ch t l' ts ts') {c : Nat} {r : List Nat} (e : ch = c :: r) (h1 : isSp c = false) (h2 : c ≠ 64) (h3 : c ≠ 123) (h4 : c ≠ 125) (h5 : ch ≠ [58, 61]) : t = ch ∧ ts' = ts ∧ ch.all plainC = true ∧ StopL l' := by
  subst e
  obtain ⟨a, b, _, d, e⟩ := ck_word k (fun x z => by injection z with z _; rw [← z]; exact h1) (fun z => by injection z with z _; exact h2 z) (fun z => by injection z with z _; exact h3 z) (fun z => by injection z with z _; exact h4 z) h5
  exact ⟨a, b, d, e⟩
section
variable {L : List Nat} {ws : List W} {p q : Nat} {ch t l' : List Nat} {ts ts' rest : List (List Nat)}
theorem step_name (n : Next L ws p q ch t l' ts ts' rest) (ha : isId ch = true) (h40 : ch.length ≤ 40) : t = ch ∧ At L (ws ++ [(.name, .s ch, q)]) (q + ch.length) ts rest := by
  obtain ⟨c, r, e, h1, h2⟩ := id_cons ha
  obtain ⟨s1, s2, s3, s4, s5, s6, s7, _, _⟩ := al_sp h1
  obtain ⟨rfl, rfl, hp, hl⟩ := ck_first n.ck e s1 s4 s5 s6 (fun z => by rw [e] at z; injection z with z _; exact s7 z)
  exact ⟨rfl, next_one n e s2 s3 fun par => word_name _ ha h40 hl⟩
theorem step_int (n : Next L ws p q ch t l' ts ts' rest) (hn : ch ≠ []) (ha : ch.all isDg = true) (h60 : ch.length ≤ 60) : t = ch ∧ At L (ws ++ [(.int, .i (num ch), q)]) (q + ch.length) ts rest := by
  cases ch with
  | nil => exact absurd rfl hn
  | cons c r =>
    have h1 : isDg c = true := by
      rw [List.all_cons, Bool.and_eq_true] at ha
      exact ha.1
    obtain ⟨s1, s2, s3, s4, s5, s6, s7⟩ := dg_sp h1
    obtain ⟨rfl, rfl, hp, hl⟩ := ck_first n.ck rfl s1 s4 s5 s6 (fun z => by injection z with z _; exact s7 z)
    exact ⟨rfl, next_one n rfl s2 s3 fun par => word_int _ hn ha h60 hl⟩
/-- the words of keywords directly behind one another -/
def keyWords : List (List Nat) → Nat → List W
  | [], _ => []
  | a :: r, q => (.keyword, .s (a ++ [58]), q) :: keyWords r (q + a.length + 1)
theorem go_keys : ∀ {ps : List (List Nat)} {l' : List Nat} {ws : List W} {q : Nat}, ps.all okPart = true → StopL l' → Go L ws (keys ps ++ l') q → Go L (ws ++ keyWords ps q) l' (q + (keys ps).length)
  | [], l', ws, q, _, _, g => by
    show Go L (ws ++ []) l' (q + 0)
    rw [List.append_nil]
    exact g
  | a :: r, l', ws, q, hp, hl, g => by
    rw [List.all_cons, Bool.and_eq_true] at hp
    obtain ⟨h1, h2⟩ := part_ok hp.1
    have e : keys (a :: r) ++ l' = a ++ 58 :: (keys r ++ l') := by show (a ++ 58 :: keys r) ++ l' = _; simp
    rw [e] at g
    have hw : ∀ par, word (binds par (lastK ws)) (a ++ 58 :: (keys r ++ l')) = some (.keyword, .s (a ++ [58]), a.length + 1) := fun par => word_key _ h1 h2 (keys_head hp.2 hl)
    have hd : (a ++ 58 :: (keys r ++ l')).drop (a.length + 1) = keys r ++ l' := by
      rw [show a ++ 58 :: (keys r ++ l') = (a ++ [58]) ++ (keys r ++ l') by simp, show a.length + 1 = (a ++ [58]).length by simp, drop_app]
    obtain ⟨c, b, rfl, hc, _⟩ := id_cons h1
    obtain ⟨_, s2, s3, _⟩ := al_sp hc
    have g2 := go_word (l := b ++ 58 :: (keys r ++ l')) s2 s3 hw g
    rw [show c :: (b ++ 58 :: (keys r ++ l')) = (c :: b) ++ 58 :: (keys r ++ l') from rfl, hd] at g2
    have g3 := go_keys (q := q + ((c :: b).length + 1)) hp.2 hl g2
    have e1 : q + ((c :: b).length + 1) + (keys r).length = q + (keys ((c :: b) :: r)).length := by
      show _ = q + ((c :: b) ++ 58 :: keys r).length
      simp
      omega
    rw [e1, List.append_assoc] at g3
    exact g3
theorem step_keys {ps : List (List Nat)} (n : Next L ws p q ch t l' ts ts' rest) (e : ch = keys ps) (hn : ps ≠ []) (hp : ps.all okPart = true) : t = ch ∧ At L (ws ++ keyWords ps q) (q + ch.length) ts rest := by
  cases ps with
  | nil => exact absurd rfl hn
  | cons a r =>
    have hp' := hp
    rw [List.all_cons, Bool.and_eq_true] at hp
    obtain ⟨h1, h2⟩ := part_ok hp.1
    obtain ⟨c, b, rfl, hc, _⟩ := id_cons h1
    obtain ⟨s1, s2, s3, s4, s5, s6, s7, _, _⟩ := al_sp hc
    have e0 : ch = c :: (b ++ 58 :: keys r) := e
    obtain ⟨rfl, rfl, _, hl⟩ := ck_first n.ck e0 s1 s4 s5 s6 (fun z => by rw [e0] at z; injection z with z _; exact s7 z)
    refine ⟨rfl, next_end n (by rw [e0]; simp) ?_⟩
    have g := n.go
    rw [e] at g ⊢
    exact go_keys hp' hl g
/-- : and a name -/
theorem step_colon {a : List Nat} (n : Next L ws p q ch t l' ts ts' rest) (e : ch = 58 :: a) (ha : isId a = true) (h40 : a.length ≤ 40) : t = ch ∧ At L (ws ++ [(.sign, .s [58], q), (.name, .s a, q + 1)]) (q + ch.length) ts rest := by
  obtain ⟨c, b, ec, hc, _⟩ := id_cons ha
  obtain ⟨s1, s2, s3, s4, s5, s6, s7, _, _⟩ := al_sp hc
  obtain ⟨rfl, rfl, _, hl⟩ := ck_first n.ck e (by rfl) (by decide) (by decide) (by decide) (fun z => by rw [e, ec] at z; injection z with _ z; injection z with z _; rw [z] at hc; cases hc)
  refine ⟨rfl, next_end n (by rw [e]; simp) ?_⟩
  have g := n.go
  rw [e] at g ⊢
  have g2 := go_word (l := a ++ l') (by rfl) (by decide) (fun par => word_colon _ (l := a ++ l') (fun z => by rw [ec] at z; injection z with z; rw [z] at hc; cases hc)) g
  have g2 : Go L (ws ++ [(.sign, .s [58], q)]) (a ++ l') (q + 1) := g2
  have hw : ∀ par, word (binds par (lastK (ws ++ [(.sign, .s [58], q)]))) (a ++ l') = some (.name, .s a, a.length) := fun par => word_name _ ha h40 hl
  subst ec
  have g3 := go_word (l := b ++ l') s2 s3 hw g2
  have hd : (c :: (b ++ l')).drop (c :: b).length = l' := List.drop_left (l₁ := c :: b)
  rw [hd, List.append_assoc] at g3
  have e2 : q + 1 + (c :: b).length = q + (58 :: c :: b).length := by simp; omega
  rw [e2] at g3
  exact g3
/-- a symbol that is no string -/
theorem step_sym {a : List Nat} (n : Next L ws p q ch t l' ts ts' rest) (e : ch = 35 :: a) (ha : (isId a = true ∧ a.length ≤ 40) ∨ a ∈ ops ∨ ∃ ps, ps ≠ [] ∧ ps.all okPart = true ∧ a = keys ps) : t = ch ∧ At L (ws ++ [(.sym, .s a, q)]) (q + ch.length) ts rest := by
  obtain ⟨rfl, rfl, _, hl⟩ := ck_first n.ck e (by rfl) (by decide) (by decide) (by decide) (fun z => by rw [e] at z; injection z with z _; cases z)
  refine ⟨rfl, next_one n e (by rfl) (by decide) fun par => ?_⟩
  rw [e]
  have hs : symbol (a ++ l') = some (.s a, a.length) := by
    rcases ha with ⟨h1, h2⟩ | h | ⟨ps, h1, h2, rfl⟩
    · exact sym_name h1 h2 hl
    · exact sym_op h hl
    · exact sym_keys h1 h2 hl
  exact word_hash _ hs
/-- a minus that belongs to the digits behind it -/
theorem step_minus {a : List Nat} (n : Next L ws p q ch t l' ts ts' rest) (e : ch = 45 :: a) (hn : a ≠ []) (ha : a.all isDg = true) (h60 : a.length ≤ 60) (hb : ∀ par, binds par (lastK ws) = true) : t = ch ∧ At L (ws ++ [(.int, .i (-(num a : Int)), q)]) (q + ch.length) ts rest := by
  obtain ⟨rfl, rfl, _, hl⟩ := ck_first n.ck e (by rfl) (by decide) (by decide) (by decide) (fun z => by rw [e] at z; injection z with z _; cases z)
  refine ⟨rfl, next_one n e (by rfl) (by decide) fun par => ?_⟩
  rw [hb par, e]
  exact word_minus hn ha h60 hl
/-- #( -/
theorem step_arr (n : Next L ws p q [64] t l' ts ts' rest) (h64 : 64 ∉ L) : t = [35, 40] ∧ At L (ws ++ [(.sign, .s [35, 40], q)]) (q + 2) ts rest := by
  have ck := n.ck
  cases ck with
  | sp hs => cases hs
  | arr => exact ⟨rfl, next_one n rfl (by rfl) (by decide) fun par => word_arr _ _⟩
  | word h hp hl =>
    exfalso
    have e := n.drop
    refine h64 (List.mem_of_mem_drop (i := q) ?_)
    rw [e]
    simp
/-- a string in the place of its sign -/
theorem step_str {x : List Nat} {ts0 : List (List Nat)} (n : Next L ws p q [123] t l' (x :: ts0) ts' rest) (h : 123 ∉ L) : ∃ r m, t = 39 :: r ∧ strBody (L.drop (q + 1)).length (L.drop (q + 1)) = some (x, m) ∧ t.length = m + 1 ∧ At L (ws ++ [(.str, .s x, q)]) (q + (m + 1)) ts0 rest := by
  generalize hX : x :: ts0 = X at n
  have ck := n.ck
  cases ck with
  | sp hs => cases hs
  | str hb hn =>
    rename_i l0 t0 m
    cases hX
    have hl : (39 :: l0.take m).length = m + 1 := by simp; omega
    have hd : 39 :: l0.take m ++ l0.drop m = 39 :: l0 := by simp
    have e1 : L.drop (q + 1) = l0 := by
      rw [← List.drop_drop, n.drop, hd]
      rfl
    refine ⟨_, m, rfl, by rw [e1]; exact hb, hl, ?_⟩
    have := next_one (k := .str) (v := .s x) n rfl (by rfl) (by decide) fun par => by
      rw [hd, hl]
      exact word_str _ hb
    rw [hl] at this
    exact this
  | word h0 hp hl =>
    exfalso
    have e := n.drop
    refine h (List.mem_of_mem_drop (i := q) ?_)
    rw [e]
    simp
theorem step_symstr {x : List Nat} {ts0 : List (List Nat)} (n : Next L ws p q [125] t l' (x :: ts0) ts' rest) (h : 125 ∉ L) : ∃ r m, t = 35 :: 39 :: r ∧ strBody (L.drop (q + 2)).length (L.drop (q + 2)) = some (x, m) ∧ t.length = m + 2 ∧ At L (ws ++ [(.sym, .s x, q)]) (q + (m + 2)) ts0 rest := by
  generalize hX : x :: ts0 = X at n
  have ck := n.ck
  cases ck with
  | sp hs => cases hs
  | sym hb hn =>
    rename_i l0 t0 m
    cases hX
    have hl : (35 :: 39 :: l0.take m).length = m + 2 := by simp; omega
    have hd : 35 :: 39 :: l0.take m ++ l0.drop m = 35 :: 39 :: l0 := by simp
    have e1 : L.drop (q + 2) = l0 := by
      rw [← List.drop_drop, n.drop, hd]
      rfl
    refine ⟨_, m, rfl, by rw [e1]; exact hb, hl, ?_⟩
    have := next_one (k := .sym) (v := .s x) n rfl (by rfl) (by decide) fun par => by
      rw [hd, hl]
      exact word_symstr _ hb
    rw [hl] at this
    exact this
  | word h0 hp hl =>
    exfalso
    have e := n.drop
    refine h (List.mem_of_mem_drop (i := q) ?_)
    rw [e]
    simp
end
end Tok

end
section
set_option maxRecDepth 100000
set_option linter.all false
/-! The words of plainly written sources: a sign in the place of each string. -/
namespace Tok
/-- pieces with ' between -/
def joinQ : List (List Nat) → List Nat
  | [] => []
  | [p] => p
  | p :: ps => p ++ 39 :: joinQ ps
theorem joinQ_cons {p : List Nat} {ps : List (List Nat)} (h : ps ≠ []) : joinQ (p :: ps) = p ++ 39 :: joinQ ps := by
  cases ps with
  | nil => exact absurd rfl h
  | cons a b => rfl
theorem body_end : ∀ {t r : List Nat} {f : Nat}, 39 ∉ t → r.head? ≠ some 39 → (t ++ 39 :: r).length ≤ f → strBody f (t ++ 39 :: r) = some (t, t.length + 1)
  | [], r, 0, _, _, hf => by simp at hf
  | [], r, f + 1, _, hr, _ => by
    show strBody (f + 1) (39 :: r) = _
    rw [strBody.eq_def]
    simp only [if_true]
    cases r with
    | nil => rfl
    | cons d r =>
      by_cases hd : d = 39
      · subst hd; exact absurd rfl hr
      · split
        · rename_i e
          injection e with e _
          exact absurd e hd
        · rfl
  | c :: t, r, 0, _, _, hf => by simp at hf
  | c :: t, r, f + 1, hn, hr, hf => by
    have hc : c ≠ 39 := fun e => hn (by rw [e]; exact List.mem_cons_self)
    have ih := body_end (t := t) (r := r) (f := f) (fun z => hn (List.mem_cons_of_mem _ z)) hr (by simp only [List.cons_append, List.length_cons] at hf; omega)
    show strBody (f + 1) (c :: (t ++ 39 :: r)) = _
    rw [strBody.eq_def]
    simp only []
    rw [if_neg hc, ih]
    rfl
theorem body_more : ∀ {t r : List Nat} {f : Nat}, 39 ∉ t → (t ++ 39 :: 39 :: r).length ≤ f → strBody f (t ++ 39 :: 39 :: r) = (strBody r.length r).map fun q => (t ++ 39 :: q.1, t.length + 2 + q.2)
  | [], r, 0, _, hf => by simp at hf
  | [], r, f + 1, _, hf => by
    show strBody (f + 1) (39 :: 39 :: r) = _
    rw [strBody.eq_def]
    simp only [if_true]
    rw [body_fuel f r.length r (by simp at hf; omega) (Nat.le_refl _)]
    cases strBody r.length r with
    | none => rfl
    | some q =>
      obtain ⟨a, b⟩ := q
      show some (39 :: a, b + 2) = some ([] ++ 39 :: a, ([] : List Nat).length + 2 + b)
      simp only [List.length_nil, List.nil_append, Nat.zero_add, Nat.add_comm]
  | c :: t, r, 0, _, hf => by simp at hf
  | c :: t, r, f + 1, hn, hf => by
    have hc : c ≠ 39 := fun e => hn (by rw [e]; exact List.mem_cons_self)
    have ih := body_more (t := t) (r := r) (f := f) (fun z => hn (List.mem_cons_of_mem _ z)) (by simp only [List.cons_append, List.length_cons] at hf ⊢; omega)
    show strBody (f + 1) (c :: (t ++ 39 :: 39 :: r)) = _
    rw [strBody.eq_def]
    simp only []
    rw [if_neg hc, ih]
    cases strBody r.length r with
    | none => rfl
    | some q =>
      obtain ⟨a, b⟩ := q
      show some (c :: (t ++ 39 :: a), t.length + 2 + b + 1) = some (c :: t ++ 39 :: a, (c :: t).length + 2 + b)
      simp only [List.length_cons, List.cons_append]
      congr 2
      omega
theorem strip_fuel : ∀ (f g : Nat) (l : List Nat), l.length ≤ f → l.length ≤ g → strip f l = strip g l
  | 0, 0, _, _, _ => rfl
  | 0, g + 1, [], _, _ => rfl
  | f + 1, 0, [], _, _ => rfl
  | f + 1, g + 1, [], _, _ => rfl
  | 0, g + 1, c :: l, h, _ => by simp at h
  | f + 1, 0, c :: l, _, h => by simp at h
  | f + 1, g + 1, c :: l, hf, hg => by
    simp only [List.length_cons] at hf hg
    have e : ∀ n, strip f (l.drop n) = strip g (l.drop n) := fun n => strip_fuel f g _ (by rw [List.length_drop]; omega) (by rw [List.length_drop]; omega)
    have e0 : strip f l = strip g l := strip_fuel f g l (by omega) (by omega)
    rw [strip.eq_def, strip.eq_def]
    simp only []
    split
    · cases strBody l.length l with
      | none => rfl
      | some q =>
        obtain ⟨t, n⟩ := q
        show (strip f (l.drop n)).map _ = (strip g (l.drop n)).map _
        rw [e n]
    · split
      · cases strBody (l.drop 1).length (l.drop 1) with
        | none => rfl
        | some q =>
          obtain ⟨t, n⟩ := q
          show (strip f ((l.drop 1).drop n)).map _ = (strip g ((l.drop 1).drop n)).map _
          rw [List.drop_drop, e (1 + n)]
      · rw [e0]
/-- the source behind the code cd, at a ' -/
def Sx (cd R : List Nat) : Option (List Nat × List (List Nat)) :=
  if cd.getLast? = some 35 then (strip (R.length + 2) (35 :: 39 :: R)).map fun r => (cd.dropLast ++ r.1, r.2) else (strip (R.length + 1) (39 :: R)).map fun r => (cd ++ r.1, r.2)
def St (L : List Nat) : Option (List Nat × List (List Nat)) := strip L.length L
/-- plain signs ahead of a ' -/
theorem strip_piece : ∀ (c R : List Nat), 39 ∉ c → St (c ++ 39 :: R) = if c.getLast? = some 35 then (St (35 :: 39 :: R)).map fun r => (c.dropLast ++ r.1, r.2) else (St (39 :: R)).map fun r => (c ++ r.1, r.2)
  | [], R, _ => by
    show St (39 :: R) = if (none : Option Nat) = some 35 then _ else _
    rw [if_neg (by simp)]
    cases St (39 :: R) <;> rfl
  | [c], R, hn => by
    have hc : c ≠ 39 := fun e => hn (by rw [e]; exact List.mem_cons_self)
    by_cases h : c = 35
    · subst h
      show St (35 :: 39 :: R) = _
      rw [if_pos (show ([35] : List Nat).getLast? = some 35 from rfl)]
      show _ = (St (35 :: 39 :: R)).map fun r => ([] ++ r.1, r.2)
      cases St (35 :: 39 :: R) <;> rfl
    · show St (c :: 39 :: R) = _
      rw [if_neg (by show ¬ some c = some 35; intro z; injection z with z; exact h z)]
      show strip ((39 :: R).length + 1) (c :: 39 :: R) = _
      rw [strip.eq_def]
      simp only []
      rw [if_neg hc, if_neg (fun z => h z.1)]
      rfl
  | c :: d :: r, R, hn => by
    have hc : c ≠ 39 := fun e => hn (by rw [e]; exact List.mem_cons_self)
    have hd : d ≠ 39 := fun e => hn (by rw [e]; exact List.mem_cons_of_mem _ List.mem_cons_self)
    have ih := strip_piece (d :: r) R (fun z => hn (List.mem_cons_of_mem _ z))
    show strip ((d :: r ++ 39 :: R).length + 1) (c :: (d :: r ++ 39 :: R)) = _
    rw [strip.eq_def]
    simp only []
    rw [if_neg hc, if_neg (fun z => hd (by have := z.2; injection this))]
    show (St (d :: r ++ 39 :: R)).map _ = _
    rw [ih]
    have e : (c :: d :: r).getLast? = (d :: r).getLast? := List.getLast?_cons_cons
    rw [e]
    split
    · rw [Option.map_map]
      rfl
    · rw [Option.map_map]
      rfl
theorem strip_last : ∀ (c : List Nat), 39 ∉ c → St c = some (c, [])
  | [], _ => rfl
  | c :: r, hn => by
    have hc : c ≠ 39 := fun e => hn (by rw [e]; exact List.mem_cons_self)
    have ih := strip_last r (fun z => hn (List.mem_cons_of_mem _ z))
    show strip (r.length + 1) (c :: r) = _
    rw [strip.eq_def]
    simp only []
    rw [if_neg hc, if_neg]
    · show (St r).map _ = _
      rw [ih]
      rfl
    · rintro ⟨_, z⟩
      cases r with
      | nil => cases z
      | cons d r =>
        injection z with z
        exact hn (by rw [z]; exact List.mem_cons_of_mem _ List.mem_cons_self)
theorem Sx_eq (cd R : List Nat) : Sx cd R = if cd.getLast? = some 35 then (St (35 :: 39 :: R)).map (fun r => (cd.dropLast ++ r.1, r.2)) else (St (39 :: R)).map fun r => (cd ++ r.1, r.2) := rfl
/-- the code behind a string's sign -/
def cdOf (cd c : List Nat) : List Nat := if cd.getLast? = some 35 then cd.dropLast ++ [32, 125, 32] ++ c else cd ++ [32, 123, 32] ++ c
/-- one string more: its text t, then the piece c -/
theorem Sx_step {cd R t : List Nat} {n : Nat} (h : strBody R.length R = some (t, n)) : Sx cd R = (St (R.drop n)).map fun r => (cdOf cd [] ++ r.1, t :: r.2) := by
  have hl : (R.drop n).length ≤ R.length := by rw [List.length_drop]; omega
  rw [Sx_eq]
  unfold cdOf
  split
  · show (strip (R.length + 1 + 1) (35 :: 39 :: R)).map _ = _
    rw [strip.eq_def]
    simp only []
    rw [if_neg (by decide), if_pos ⟨trivial, rfl⟩]
    show Option.map _ (match strBody R.length R with | some (t, n) => (strip (R.length + 1) (R.drop n)).map _ | none => none) = _
    rw [h]
    show Option.map _ ((strip (R.length + 1) (R.drop n)).map _) = _
    rw [strip_fuel _ (R.drop n).length (R.drop n) (by omega) (Nat.le_refl _), Option.map_map]
    show _ = Option.map _ (strip (R.drop n).length (R.drop n))
    congr 1
    funext r
    simp
  · show (strip (R.length + 1) (39 :: R)).map _ = _
    rw [strip.eq_def]
    simp only []
    rw [if_pos trivial]
    show Option.map _ (match strBody R.length R with | some (t, n) => (strip R.length (R.drop n)).map _ | none => none) = _
    rw [h]
    show Option.map _ ((strip R.length (R.drop n)).map _) = _
    rw [strip_fuel _ (R.drop n).length (R.drop n) hl (Nat.le_refl _), Option.map_map]
    show _ = Option.map _ (strip (R.drop n).length (R.drop n))
    congr 1
    funext r
    simp
theorem last_app {a b : List Nat} : b ≠ [] → (a ++ b).getLast? = b.getLast? := fun h => by
  rw [List.getLast?_append]
  cases e : b.getLast? with
  | none => exact absurd (List.getLast?_eq_none_iff.mp e) h
  | some x => rfl
theorem cd_last (cd c : List Nat) : (cdOf cd c).getLast? = some 35 ↔ c.getLast? = some 35 := by
  have h : ∀ a : List Nat, (a ++ [32] ++ c).getLast? = some 35 ↔ c.getLast? = some 35 := fun a => by
    cases c with
    | nil => rw [List.append_nil, last_app (by simp)]; simp
    | cons d r => rw [last_app (by simp)]
  unfold cdOf
  split
  · have := h (cd.dropLast ++ [32, 125])
    simpa using this
  · have := h (cd ++ [32, 123])
    simpa using this
theorem cd_nil {cd c : List Nat} : cdOf cd c = cdOf cd [] ++ c := by
  unfold cdOf
  split <;> simp
/-- the next piece is followed by a ' -/
theorem step_mid {cd R t c R' : List Nat} {n : Nat} (h : strBody R.length R = some (t, n)) (hd : R.drop n = c ++ 39 :: R') (hc : 39 ∉ c) : Sx cd R = (Sx (cdOf cd c) R').map fun r => (r.1, t :: r.2) := by
  rw [Sx_step h, hd, strip_piece c R' hc, Sx_eq]
  by_cases hl : c.getLast? = some 35
  · have hne : c ≠ [] := fun e => by rw [e] at hl; cases hl
    rw [if_pos hl, if_pos ((cd_last cd c).mpr hl), Option.map_map, Option.map_map]
    congr 1
    funext r
    show (cdOf cd [] ++ (c.dropLast ++ r.1), t :: r.2) = ((cdOf cd c).dropLast ++ r.1, t :: r.2)
    rw [cd_nil (c := c), List.dropLast_append_of_ne_nil hne, List.append_assoc]
  · rw [if_neg hl, if_neg (fun z => hl ((cd_last cd c).mp z)), Option.map_map, Option.map_map]
    congr 1
    funext r
    show (cdOf cd [] ++ (c ++ r.1), t :: r.2) = (cdOf cd c ++ r.1, t :: r.2)
    rw [cd_nil (c := c), List.append_assoc]
theorem step_end {cd R t c : List Nat} {n : Nat} (h : strBody R.length R = some (t, n)) (hd : R.drop n = c) (hc : 39 ∉ c) : Sx cd R = some (cdOf cd c, [t]) := by
  rw [Sx_step h, hd, strip_last c hc, cd_nil (c := c)]
  rfl
/-- the code of a source: not too long, of its signs and blanks and { } -/
theorem strip_all {P : Nat → Prop} (h1 : P 32) (h2 : P 123) (h3 : P 125) : ∀ (f : Nat) (l : List Nat) (code : List Nat) (ts : List (List Nat)), (∀ c ∈ l, P c) → strip f l = some (code, ts) → code.length ≤ 3 * l.length ∧ ∀ c ∈ code, P c
  | 0, l, code, ts, _, h => by cases h; exact ⟨by simp, fun c z => by cases z⟩
  | f + 1, [], code, ts, _, h => by cases h; exact ⟨by simp, fun c z => by cases z⟩
  | f + 1, c :: l, code, ts, hp, h => by
    have hp2 : ∀ c ∈ l, P c := fun d hd => hp d (List.mem_cons_of_mem _ hd)
    have hdr : ∀ n, ∀ c ∈ l.drop n, P c := fun n d hd => hp2 d (List.mem_of_mem_drop hd)
    rw [strip.eq_def] at h
    simp only [] at h
    have three : ∀ (a b : Nat) (m : Nat) (x : List Nat) (k : Nat), P a → P b → x.length ≤ 3 * m → m + 1 ≤ k → (∀ c ∈ x, P c) → (a :: b :: a :: x).length ≤ 3 * k ∧ ∀ c ∈ a :: b :: a :: x, P c := fun a b m x k ha hb hx hk hall => by
      refine ⟨by simp only [List.length_cons]; omega, fun d hd => ?_⟩
      rcases List.mem_cons.mp hd with rfl | hd
      · exact ha
      rcases List.mem_cons.mp hd with rfl | hd
      · exact hb
      rcases List.mem_cons.mp hd with rfl | hd
      · exact ha
      exact hall d hd
    split at h
    · split at h
      · rename_i t n _
        cases e : strip f (l.drop n) with
        | none => rw [e] at h; cases h
        | some q =>
          obtain ⟨a, b⟩ := q
          rw [e] at h
          cases h
          obtain ⟨i1, i2⟩ := strip_all h1 h2 h3 f (l.drop n) a b (hdr n) e
          exact three 32 123 (l.drop n).length a _ h1 h2 i1 (by rw [List.length_drop]; simp only [List.length_cons]; omega) i2
      · cases h
    · split at h
      · split at h
        · rename_i t n _
          cases e : strip f ((l.drop 1).drop n) with
          | none => rw [e] at h; cases h
          | some q =>
            obtain ⟨a, b⟩ := q
            rw [e] at h
            cases h
            rw [List.drop_drop] at e
            obtain ⟨i1, i2⟩ := strip_all h1 h2 h3 f (l.drop (1 + n)) a b (hdr _) e
            exact three 32 125 (l.drop (1 + n)).length a _ h1 h3 i1 (by rw [List.length_drop]; simp only [List.length_cons]; omega) i2
        · cases h
      · cases e : strip f l with
        | none => rw [e] at h; cases h
        | some q =>
          obtain ⟨a, b⟩ := q
          rw [e] at h
          cases h
          obtain ⟨i1, i2⟩ := strip_all h1 h2 h3 f l a b hp2 e
          refine ⟨by simp only [List.length_cons]; omega, fun d hd => ?_⟩
          rcases List.mem_cons.mp hd with rfl | hd
          · exact hp _ List.mem_cons_self
          exact i2 d hd
end Tok

end
section
set_option Elab.async false
set_option linter.all false
set_option maxRecDepth 100000
set_option maxHeartbeats 2000000
namespace My
open PySem PySem.Spec PyProof.Rows L2
@[irreducible] def tLitW (d : PyData) : TE := tLit d
theorem tLitW_eq (d : PyData) : tLitW d = tLit d := by unfold tLitW; rfl
theorem litPE {X : Cx} {e : Expr} (d : PyData) (h : PE X e (tLit d)) : PE X e (tLitW d) := by rw [tLitW_eq]; exact h
theorem litNeg {X : Cx} {e : Expr} {pos : Pos} {n : Int} (h : PE X e (tC (.int n))) (hn : decide (-n < 0) = true) : PE X (.UnaryOp .USub e pos) (tLit (.int (-n))) := by
  have h2 : PE X (.UnaryOp .USub e pos) (tUn (rU fun i => .int (-i)) (tC (.int n))) := pe_un un_neg h
  unfold tLit
  rw [if_pos (of_decide_eq_true hn), Int.neg_neg]
  exact h2
theorem Rows.lit_any {K : PySem.W.Frag} (d : PyData) (ok : litOk d = true) (σ : L2.St) (H : Hp) (Q : VK) (q : ∀ v D H', Same H H' → Part D H H' → Dp K D v d → Q v H') : tLitW d σ H Q := by rw [tLitW_eq]; exact lit_ok (K := K) d ok σ H Q q
def strOf (t : List Nat) : Str := ⟨t.toArray⟩
def kdS : Tok.Kd → Str
  | .name => "name"
  | .keyword => "keyword"
  | .int => "int"
  | .str => "str"
  | .sym => "sym"
  | .op => "op"
  | .sign => "sign"
def dVal : Tok.Val → PyData
  | .s t => .str (strOf t)
  | .i n => .int n
/-- a word as the tuple that stands for it -/
def dW (w : Tok.W) : PyData := .tuple [.str (kdS w.1), dVal w.2.1, .int w.2.2]
/-- a row of a menu: a text, the words that it should have -/
def dRow (r : List Nat × List Tok.W) : PyData := .tuple [.str (strOf r.1), .list (r.2.map dW)]
abbrev s_law_names : Stmt := top 44
def d_law_names_0 : PyData := .list [.tuple [.str "a:=3", .list [.tuple [.str "name", .str "a", .int 0], .tuple [.str "sign", .str ":=", .int 1], .tuple [.str "int", .int 3, .int 3]]]]
def d_law_names_1 : PyData := .tuple [.str "at:put:=x", .list [.tuple [.str "keyword", .str "at:", .int 0], .tuple [.str "name", .str "put", .int 3], .tuple [.str "sign", .str ":=", .int 6], .tuple [.str "name", .str "x", .int 8]]]
def d_law_names_2 : PyData := .tuple [.str "#at:put", .list [.tuple [.str "sym", .str "at:", .int 0], .tuple [.str "name", .str "put", .int 4]]]
def d_law_names_3 : PyData := .tuple [.str "#at:put:x", .list [.tuple [.str "sym", .str "at:put:", .int 0], .tuple [.str "name", .str "x", .int 8]]]
def d_law_names_4 : PyData := .tuple [.str "#a:b:=c", .list [.tuple [.str "sym", .str "a:", .int 0], .tuple [.str "name", .str "b", .int 3], .tuple [.str "sign", .str ":=", .int 4], .tuple [.str "name", .str "c", .int 6]]]
def d_law_names_5 : PyData := .tuple [.str "#a:=1", .list [.tuple [.str "sym", .str "a", .int 0], .tuple [.str "sign", .str ":=", .int 2], .tuple [.str "int", .int 1, .int 4]]]
def d_law_names_6 : PyData := .tuple [.str "#a#b:", .list [.tuple [.str "sym", .str "a", .int 0], .tuple [.str "sym", .str "b:", .int 2]]]
def d_law_names_7 : PyData := .tuple [.str "a::b", .list [.tuple [.str "keyword", .str "a:", .int 0], .tuple [.str "sign", .str ":", .int 2], .tuple [.str "name", .str "b", .int 3]]]
def d_law_names_8 : PyData := .tuple [.str ":=:=", .list [.tuple [.str "sign", .str ":=", .int 0], .tuple [.str "sign", .str ":=", .int 2]]]
def d_law_names_9 : PyData := .tuple [.str "::=", .list [.tuple [.str "sign", .str ":", .int 0], .tuple [.str "sign", .str ":=", .int 1]]]
def d_law_names_10 : PyData := .tuple [.str "#==", .list [.tuple [.str "sym", .str "==", .int 0]]]
def d_law_names_11 : PyData := .tuple [.str "#<==", .list [.tuple [.str "sym", .str "<=", .int 0], .tuple [.str "op", .str "=", .int 3]]]
def d_law_names_12 : PyData := .tuple [.str "<==", .list [.tuple [.str "op", .str "<=", .int 0], .tuple [.str "op", .str "=", .int 2]]]
def d_law_names_13 : PyData := .tuple [.str "===", .list [.tuple [.str "op", .str "==", .int 0], .tuple [.str "op", .str "=", .int 2]]]
def d_law_names_14 : PyData := .tuple [.str "~=~~", .list [.tuple [.str "op", .str "~=", .int 0], .tuple [.str "op", .str "~~", .int 2]]]
def d_law_names_15 : PyData := .tuple [.str "////", .list [.tuple [.str "op", .str "//", .int 0], .tuple [.str "op", .str "//", .int 2]]]
def d_law_names_16 : PyData := .tuple [.str "a,b", .list [.tuple [.str "name", .str "a", .int 0], .tuple [.str "op", .str ",", .int 1], .tuple [.str "name", .str "b", .int 2]]]
def d_law_names_17 : PyData := .tuple [.str ">=<", .list [.tuple [.str "op", .str ">=", .int 0], .tuple [.str "op", .str "<", .int 2]]]
def d_law_names_18 : PyData := .tuple [.str "[:x|x]", .list [.tuple [.str "sign", .str "[", .int 0], .tuple [.str "sign", .str ":", .int 1], .tuple [.str "name", .str "x", .int 2], .tuple [.str "sign", .str "|", .int 3], .tuple [.str "name", .str "x", .int 4], .tuple [.str "sign", .str "]", .int 5]]]
def d_law_names_19 : PyData := .tuple [.str "self.nil;^", .list [.tuple [.str "name", .str "self", .int 0], .tuple [.str "sign", .str ".", .int 4], .tuple [.str "name", .str "nil", .int 5], .tuple [.str "sign", .str ";", .int 8], .tuple [.str "sign", .str "^", .int 9]]]
def d_law_names_20 : PyData := .tuple [.str "x9y:", .list [.tuple [.str "keyword", .str "x9y:", .int 0]]]
def d_law_names_21 : PyData := .tuple [.str "9x", .list [.tuple [.str "int", .int 9, .int 0], .tuple [.str "name", .str "x", .int 1]]]
def d_law_names_22 : PyData := .tuple [.str "9x:", .list [.tuple [.str "int", .int 9, .int 0], .tuple [.str "keyword", .str "x:", .int 1]]]
abbrev s_law_strings : Stmt := top 45
def d_law_strings_0 : PyData := .list [.tuple [.str "''", .list [.tuple [.str "str", .str "", .int 0]]], .tuple [.str "''''", .list [.tuple [.str "str", .str "'", .int 0]]], .tuple [.str "#''", .list [.tuple [.str "sym", .str "", .int 0]]]]
def d_law_strings_1 : PyData := .tuple [.str "#''''", .list [.tuple [.str "sym", .str "'", .int 0]]]
def d_law_strings_2 : PyData := .tuple [.str "'a''b'", .list [.tuple [.str "str", .str "a'b", .int 0]]]
def d_law_strings_3 : PyData := .tuple [.str "'a' 'b'", .list [.tuple [.str "str", .str "a", .int 0], .tuple [.str "str", .str "b", .int 4]]]
def d_law_strings_4 : PyData := .tuple [.str "'a'#'b'", .list [.tuple [.str "str", .str "a", .int 0], .tuple [.str "sym", .str "b", .int 3]]]
def d_law_strings_5 : PyData := .tuple [.str "'\"'\"'\"", .list [.tuple [.str "str", .str "\"", .int 0]]]
def d_law_strings_6 : PyData := .tuple [.str "a\"c\"b", .list [.tuple [.str "name", .str "a", .int 0], .tuple [.str "name", .str "b", .int 4]]]
def d_law_strings_7 : PyData := .tuple [.str "a\"\"\"\"", .list [.tuple [.str "name", .str "a", .int 0]]]
def d_law_strings_8 : PyData := .tuple [.str "a\"x\ny\"b", .list [.tuple [.str "name", .str "a", .int 0], .tuple [.str "name", .str "b", .int 6]]]
def d_law_strings_9 : PyData := .tuple [.str "\"\n\n\"x", .list [.tuple [.str "name", .str "x", .int 4]]]
def d_law_strings_10 : PyData := .tuple [.str "'\n'", .list [.tuple [.str "str", .str "\n", .int 0]]]
def d_law_strings_11 : PyData := .tuple [.str "", .list []]
def d_law_strings_12 : PyData := .tuple [.str "#'at:'x", .list [.tuple [.str "sym", .str "at:", .int 0], .tuple [.str "name", .str "x", .int 6]]]
def d_law_strings_13 : PyData := .tuple [.str "''''''", .list [.tuple [.str "str", .str "''", .int 0]]]
abbrev s_law_numbers : Stmt := top 46
def d_law_numbers_0 : PyData := .list [.tuple [.str "-3", .list [.tuple [.str "int", .int (-3), .int 0]]], .tuple [.str "-0", .list [.tuple [.str "int", .int 0, .int 0]]], .tuple [.str "-007", .list [.tuple [.str "int", .int (-7), .int 0]]]]
def d_law_numbers_1 : PyData := .tuple [.str "- 3", .list [.tuple [.str "op", .str "-", .int 0], .tuple [.str "int", .int 3, .int 2]]]
def d_law_numbers_2 : PyData := .tuple [.str "--3", .list [.tuple [.str "op", .str "-", .int 0], .tuple [.str "int", .int (-3), .int 1]]]
def d_law_numbers_3 : PyData := .tuple [.str "3--3", .list [.tuple [.str "int", .int 3, .int 0], .tuple [.str "op", .str "-", .int 1], .tuple [.str "int", .int (-3), .int 2]]]
def d_law_numbers_4 : PyData := .tuple [.str "x-3", .list [.tuple [.str "name", .str "x", .int 0], .tuple [.str "op", .str "-", .int 1], .tuple [.str "int", .int 3, .int 2]]]
def d_law_numbers_5 : PyData := .tuple [.str "x -3", .list [.tuple [.str "name", .str "x", .int 0], .tuple [.str "op", .str "-", .int 2], .tuple [.str "int", .int 3, .int 3]]]
def d_law_numbers_6 : PyData := .tuple [.str "x\"c\"-3", .list [.tuple [.str "name", .str "x", .int 0], .tuple [.str "op", .str "-", .int 4], .tuple [.str "int", .int 3, .int 5]]]
def d_law_numbers_7 : PyData := .tuple [.str "'a'-1", .list [.tuple [.str "str", .str "a", .int 0], .tuple [.str "op", .str "-", .int 3], .tuple [.str "int", .int 1, .int 4]]]
def d_law_numbers_8 : PyData := .tuple [.str "#a-1", .list [.tuple [.str "sym", .str "a", .int 0], .tuple [.str "op", .str "-", .int 2], .tuple [.str "int", .int 1, .int 3]]]
def d_law_numbers_9 : PyData := .tuple [.str "#+-1", .list [.tuple [.str "sym", .str "+", .int 0], .tuple [.str "op", .str "-", .int 2], .tuple [.str "int", .int 1, .int 3]]]
def d_law_numbers_10 : PyData := .tuple [.str "#-1", .list [.tuple [.str "sym", .str "-", .int 0], .tuple [.str "int", .int 1, .int 2]]]
def d_law_numbers_11 : PyData := .tuple [.str ")-1", .list [.tuple [.str "sign", .str ")", .int 0], .tuple [.str "op", .str "-", .int 1], .tuple [.str "int", .int 1, .int 2]]]
def d_law_numbers_12 : PyData := .tuple [.str "]-1", .list [.tuple [.str "sign", .str "]", .int 0], .tuple [.str "op", .str "-", .int 1], .tuple [.str "int", .int 1, .int 2]]]
def d_law_numbers_13 : PyData := .tuple [.str "(-1", .list [.tuple [.str "sign", .str "(", .int 0], .tuple [.str "int", .int (-1), .int 1]]]
def d_law_numbers_14 : PyData := .tuple [.str "|-1", .list [.tuple [.str "sign", .str "|", .int 0], .tuple [.str "int", .int (-1), .int 1]]]
def d_law_numbers_15 : PyData := .tuple [.str "at:-1", .list [.tuple [.str "keyword", .str "at:", .int 0], .tuple [.str "int", .int (-1), .int 3]]]
def d_law_numbers_16 : PyData := .tuple [.str ":=-1", .list [.tuple [.str "sign", .str ":=", .int 0], .tuple [.str "int", .int (-1), .int 2]]]
def d_law_numbers_17 : PyData := .tuple [.str "^-1", .list [.tuple [.str "sign", .str "^", .int 0], .tuple [.str "int", .int (-1), .int 1]]]
def d_law_numbers_18 : PyData := .tuple [.str "a+-1", .list [.tuple [.str "name", .str "a", .int 0], .tuple [.str "op", .str "+", .int 1], .tuple [.str "int", .int (-1), .int 2]]]
abbrev s_law_arrays : Stmt := top 47
def d_law_arrays_0 : PyData := .list [.tuple [.str "#(a-3)-3", .list [.tuple [.str "sign", .str "#(", .int 0], .tuple [.str "name", .str "a", .int 2], .tuple [.str "int", .int (-3), .int 3], .tuple [.str "sign", .str ")", .int 5], .tuple [.str "op", .str "-", .int 6], .tuple [.str "int", .int 3, .int 7]]]]
def d_law_arrays_1 : PyData := .tuple [.str "#((1)-2", .list [.tuple [.str "sign", .str "#(", .int 0], .tuple [.str "sign", .str "(", .int 2], .tuple [.str "int", .int 1, .int 3], .tuple [.str "sign", .str ")", .int 4], .tuple [.str "int", .int (-2), .int 5]]]
def d_law_arrays_2 : PyData := .tuple [.str "(#()-2", .list [.tuple [.str "sign", .str "(", .int 0], .tuple [.str "sign", .str "#(", .int 1], .tuple [.str "sign", .str ")", .int 3], .tuple [.str "op", .str "-", .int 4], .tuple [.str "int", .int 2, .int 5]]]
def d_law_arrays_3 : PyData := .tuple [.str "#(]-2", .list [.tuple [.str "sign", .str "#(", .int 0], .tuple [.str "sign", .str "]", .int 2], .tuple [.str "int", .int (-2), .int 3]]]
def d_law_arrays_4 : PyData := .tuple [.str "#([)x-2", .list [.tuple [.str "sign", .str "#(", .int 0], .tuple [.str "sign", .str "[", .int 2], .tuple [.str "sign", .str ")", .int 3], .tuple [.str "name", .str "x", .int 4], .tuple [.str "op", .str "-", .int 5], .tuple [.str "int", .int 2, .int 6]]]
def d_law_arrays_5 : PyData := .tuple [.str ")#(1-2", .list [.tuple [.str "sign", .str ")", .int 0], .tuple [.str "sign", .str "#(", .int 1], .tuple [.str "int", .int 1, .int 3], .tuple [.str "int", .int (-2), .int 4]]]
def d_law_arrays_6 : PyData := .tuple [.str "#(')'-2", .list [.tuple [.str "sign", .str "#(", .int 0], .tuple [.str "str", .str ")", .int 2], .tuple [.str "int", .int (-2), .int 5]]]
def d_law_arrays_7 : PyData := .tuple [.str "#(- -2", .list [.tuple [.str "sign", .str "#(", .int 0], .tuple [.str "op", .str "-", .int 2], .tuple [.str "int", .int (-2), .int 4]]]
def d_law_arrays_8 : PyData := .tuple [.str "#((a-2", .list [.tuple [.str "sign", .str "#(", .int 0], .tuple [.str "sign", .str "(", .int 2], .tuple [.str "name", .str "a", .int 3], .tuple [.str "int", .int (-2), .int 4]]]
def d_law_arrays_9 : PyData := .tuple [.str "((a-2", .list [.tuple [.str "sign", .str "(", .int 0], .tuple [.str "sign", .str "(", .int 1], .tuple [.str "name", .str "a", .int 2], .tuple [.str "op", .str "-", .int 3], .tuple [.str "int", .int 2, .int 4]]]
section
variable {P : Program} {w : World} {K : PySem.W.Frag} {mg : Str → Option Value} {base : Heap}
/-- a list of data at L, apart from all that stands in H0 -/
structure Rows (K : PySem.W.Frag) (H0 H : Hp) (L : Addr) (ds : List PyData) : Prop where
  old : Same H0 H
  new : H0 L = none
  at_ : ∃ vs D, H L = some (.lst vs) ∧ DpAll K D vs ds ∧ ∀ a o, D a = some o → H a = some o ∧ a ≠ L ∧ H0 a = none
theorem Rows.one {H0 : Hp} {d : PyData} {ds : List PyData} {σ : L2.St} {Q : VK} (hd : d = .list ds) (ok : litOk d = true) (q : ∀ L H, Rows K H0 H L ds → Q (.ref L) H) : tLitW d σ H0 Q := by
  subst hd
  rw [tLitW_eq]
  unfold tLit
  unfold litOk at ok
  rw [Bool.and_eq_true] at ok
  refine lits_ok (K := K) ds ok.2 σ H0 _ fun vs D H' e p h => ?_
  have hl : vs.length ≤ 1000 := by rw [dpAll_length h]; exact of_decide_eq_true ok.1
  refine ⟨Nat.le_trans hl (by decide), fun a ha => q a _ ⟨e.trans fun b o z => by rw [upd_ne (ne_of_none z ha)]; exact z, e.free ha, vs, D, upd_same, h, fun b o z => ?_⟩⟩
  have hb := p.inn b o z
  exact ⟨by rw [upd_ne (ne_of_none hb ha)]; exact hb, ne_of_none hb ha, p.new b o z⟩
theorem Rows.more {H0 H : Hp} {L : Addr} {ds : List PyData} {d : PyData} {H' D : Hp} {v : V} (R : Rows K H0 H L ds) (e : Same H H') (p : Part D H H') (h : Dp K D v d) :
    ∃ vs, H' L = some (.lst vs) ∧ vs.length = ds.length ∧ Rows K H0 (upd H' L (.lst (vs ++ [v]))) L (ds ++ [d]) := by
  obtain ⟨vs, D0, hL, hD, k⟩ := R.at_
  have nL : D L = none := by
    cases z : D L with
    | none => rfl
    | some o => have := p.new L o z; rw [hL] at this; cases this
  refine ⟨vs, e L _ hL, dpAll_length hD, fun b o z => ?_, R.new, vs ++ [v], uni D D0, upd_same, dpAll_append (dp_monoAll (uni_r p.new fun a o z => (k a o z).1) ds vs hD) (.cons (dp_mono uni_l d v h) .nil), fun b o z => ?_⟩
  · rw [upd_ne (ne_of_none z R.new)]
    exact e b o (R.old b o z)
  · rcases uni_cases z with z | z
    · have nb : b ≠ L := fun q => by subst q; rw [nL] at z; cases z
      exact ⟨by rw [upd_ne nb]; exact p.inn b o z, nb, R.old.free (p.new b o z)⟩
    · obtain ⟨k1, k2, k3⟩ := k b o z
      exact ⟨by rw [upd_ne k2]; exact e b o k1, k2, k3⟩
theorem Rows.dp {H0 H : Hp} {L : Addr} {ds : List PyData} (R : Rows K H0 H L ds) : Dp K H (.ref L) (.list ds) := by
  obtain ⟨vs, D, hL, hD, k⟩ := R.at_
  exact .lst (SqL.of hL) (dp_monoAll (fun a o z => (k a o z).1) ds vs hD)
/-- rows = a display -/
theorem asg_lit {H0 : Hp} {d : PyData} {ds : List PyData} {σ : L2.St} {u : TS} {D : Ends} {i : Nat} (hd : d = .list ds) (ok : litOk d = true) (q : ∀ L H, Rows K H0 H L ds → u D (σ.set i (some (.ref L))) H) : tSeq (tAsg (tLitW d) (gName i)) u D σ H0 :=
  Rows.one (K := K) hd ok q
/-- rows.append(a display) -/
theorem app_lit {H0 H : Hp} {L : Addr} {ds : List PyData} {d : PyData} {σ : L2.St} {u : TS} {D : Ends} {i : Nat} (hi : σ[i]? = some (some (.ref L))) (R : Rows K H0 H L ds) (ok : litOk d = true) (hl : ds.length ≤ 1000)
    (q : ∀ H', Rows K H0 H' L (ds ++ [d]) → u D σ H') : tSeq (tDrop (tBM K "list" rAppend (tVar i) (tCons (tLitW d) tNil))) u D σ H := by
  obtain ⟨vs, _, hL, _⟩ := R.at_
  refine ⟨_, hi, .inl ⟨rfl, vs, SqL.of hL⟩, ?_⟩
  refine Rows.lit_any (K := K) d ok σ H _ fun v D' H' e p h => ?_
  obtain ⟨vs, hL, hn, R'⟩ := R.more e p h
  exact ⟨L, vs, v, rfl, rfl, hL, Nat.lt_of_le_of_lt (by omega : vs.length ≤ 1000) (by decide), q _ R'⟩
end
section
variable {P : Program} {w : World} {K : PySem.W.Frag} {mg : Str → Option Value} {base : Heap}
def spRows (K : PySem.W.Frag) (ds : List PyData) : Sp := fun vs H Q _ => vs = [] ∧ ∀ L H', Rows K H H' L ds → Q (.ref L) H'
theorem ret_rows {σ : L2.St} {H0 H : Hp} {L : Addr} {ds ds' : List PyData} {D : Ends} {i : Nat} (hi : σ[i]? = some (some (.ref L))) (R : Rows K H0 H L ds) (e : ds = ds') (q : ∀ H', Rows K H0 H' L ds' → D.rt (.ref L) H') : tRet (tVar i) D σ H :=
  ⟨_, hi, q H (e ▸ R)⟩
theorem sc_law_names : FnScope ["_law_rows"] [] (defScope s_law_names) := ⟨rfl, rfl, rfl, by decide +kernel, rfl, by decide +kernel, by decide +kernel⟩
theorem ok_names {f : Addr} {fd : FuncData} (F : FnP K "_law_names" s_law_names f fd) : FnOk P w K mg base CX0 2 f fd [] (spRows K (Tok.m_names.map dRow)) := by
  refine F.ok sc_law_names (fun vs H Q E h => ?_) (fun cdv A outer s H vs Q E hr h => ⟨_, PSs.nox
    (pss_cons (ps_set (i := 0) sc_law_names.nd rfl (Or.inl rfl) (litPE d_law_names_0 (pe_lst (pa_cons (pe_tup (pa_cons pe_str (pa_cons (pe_lst (pa_cons (pe_tup (pa_cons pe_str (pa_cons pe_str (pa_cons pe_int pa_nil)))) (pa_cons (pe_tup (pa_cons pe_str (pa_cons pe_str (pa_cons pe_int pa_nil)))) (pa_cons (pe_tup (pa_cons pe_str (pa_cons pe_int (pa_cons pe_int pa_nil)))) pa_nil)))) pa_nil))) pa_nil))))
      (pss_cons (ps_expr (pe_bm PySem.F.plainAttrs_list PySem.F.slot_list_append PySem.F.type_list_append mt_append (pv 0) (pa_cons (litPE d_law_names_1 (pe_tup (pa_cons pe_str (pa_cons (pe_lst (pa_cons (pe_tup (pa_cons pe_str (pa_cons pe_str (pa_cons pe_int pa_nil)))) (pa_cons (pe_tup (pa_cons pe_str (pa_cons pe_str (pa_cons pe_int pa_nil)))) (pa_cons (pe_tup (pa_cons pe_str (pa_cons pe_str (pa_cons pe_int pa_nil)))) (pa_cons (pe_tup (pa_cons pe_str (pa_cons pe_str (pa_cons pe_int pa_nil)))) pa_nil))))) pa_nil)))) pa_nil)))
      (pss_cons (ps_expr (pe_bm PySem.F.plainAttrs_list PySem.F.slot_list_append PySem.F.type_list_append mt_append (pv 0) (pa_cons (litPE d_law_names_2 (pe_tup (pa_cons pe_str (pa_cons (pe_lst (pa_cons (pe_tup (pa_cons pe_str (pa_cons pe_str (pa_cons pe_int pa_nil)))) (pa_cons (pe_tup (pa_cons pe_str (pa_cons pe_str (pa_cons pe_int pa_nil)))) pa_nil))) pa_nil)))) pa_nil)))
      (pss_cons (ps_expr (pe_bm PySem.F.plainAttrs_list PySem.F.slot_list_append PySem.F.type_list_append mt_append (pv 0) (pa_cons (litPE d_law_names_3 (pe_tup (pa_cons pe_str (pa_cons (pe_lst (pa_cons (pe_tup (pa_cons pe_str (pa_cons pe_str (pa_cons pe_int pa_nil)))) (pa_cons (pe_tup (pa_cons pe_str (pa_cons pe_str (pa_cons pe_int pa_nil)))) pa_nil))) pa_nil)))) pa_nil)))
      (pss_cons (ps_expr (pe_bm PySem.F.plainAttrs_list PySem.F.slot_list_append PySem.F.type_list_append mt_append (pv 0) (pa_cons (litPE d_law_names_4 (pe_tup (pa_cons pe_str (pa_cons (pe_lst (pa_cons (pe_tup (pa_cons pe_str (pa_cons pe_str (pa_cons pe_int pa_nil)))) (pa_cons (pe_tup (pa_cons pe_str (pa_cons pe_str (pa_cons pe_int pa_nil)))) (pa_cons (pe_tup (pa_cons pe_str (pa_cons pe_str (pa_cons pe_int pa_nil)))) (pa_cons (pe_tup (pa_cons pe_str (pa_cons pe_str (pa_cons pe_int pa_nil)))) pa_nil))))) pa_nil)))) pa_nil)))
      (pss_cons (ps_expr (pe_bm PySem.F.plainAttrs_list PySem.F.slot_list_append PySem.F.type_list_append mt_append (pv 0) (pa_cons (litPE d_law_names_5 (pe_tup (pa_cons pe_str (pa_cons (pe_lst (pa_cons (pe_tup (pa_cons pe_str (pa_cons pe_str (pa_cons pe_int pa_nil)))) (pa_cons (pe_tup (pa_cons pe_str (pa_cons pe_str (pa_cons pe_int pa_nil)))) (pa_cons (pe_tup (pa_cons pe_str (pa_cons pe_int (pa_cons pe_int pa_nil)))) pa_nil)))) pa_nil)))) pa_nil)))
      (pss_cons (ps_expr (pe_bm PySem.F.plainAttrs_list PySem.F.slot_list_append PySem.F.type_list_append mt_append (pv 0) (pa_cons (litPE d_law_names_6 (pe_tup (pa_cons pe_str (pa_cons (pe_lst (pa_cons (pe_tup (pa_cons pe_str (pa_cons pe_str (pa_cons pe_int pa_nil)))) (pa_cons (pe_tup (pa_cons pe_str (pa_cons pe_str (pa_cons pe_int pa_nil)))) pa_nil))) pa_nil)))) pa_nil)))
      (pss_cons (ps_expr (pe_bm PySem.F.plainAttrs_list PySem.F.slot_list_append PySem.F.type_list_append mt_append (pv 0) (pa_cons (litPE d_law_names_7 (pe_tup (pa_cons pe_str (pa_cons (pe_lst (pa_cons (pe_tup (pa_cons pe_str (pa_cons pe_str (pa_cons pe_int pa_nil)))) (pa_cons (pe_tup (pa_cons pe_str (pa_cons pe_str (pa_cons pe_int pa_nil)))) (pa_cons (pe_tup (pa_cons pe_str (pa_cons pe_str (pa_cons pe_int pa_nil)))) pa_nil)))) pa_nil)))) pa_nil)))
      (pss_cons (ps_expr (pe_bm PySem.F.plainAttrs_list PySem.F.slot_list_append PySem.F.type_list_append mt_append (pv 0) (pa_cons (litPE d_law_names_8 (pe_tup (pa_cons pe_str (pa_cons (pe_lst (pa_cons (pe_tup (pa_cons pe_str (pa_cons pe_str (pa_cons pe_int pa_nil)))) (pa_cons (pe_tup (pa_cons pe_str (pa_cons pe_str (pa_cons pe_int pa_nil)))) pa_nil))) pa_nil)))) pa_nil)))
      (pss_cons (ps_expr (pe_bm PySem.F.plainAttrs_list PySem.F.slot_list_append PySem.F.type_list_append mt_append (pv 0) (pa_cons (litPE d_law_names_9 (pe_tup (pa_cons pe_str (pa_cons (pe_lst (pa_cons (pe_tup (pa_cons pe_str (pa_cons pe_str (pa_cons pe_int pa_nil)))) (pa_cons (pe_tup (pa_cons pe_str (pa_cons pe_str (pa_cons pe_int pa_nil)))) pa_nil))) pa_nil)))) pa_nil)))
      (pss_cons (ps_expr (pe_bm PySem.F.plainAttrs_list PySem.F.slot_list_append PySem.F.type_list_append mt_append (pv 0) (pa_cons (litPE d_law_names_10 (pe_tup (pa_cons pe_str (pa_cons (pe_lst (pa_cons (pe_tup (pa_cons pe_str (pa_cons pe_str (pa_cons pe_int pa_nil)))) pa_nil)) pa_nil)))) pa_nil)))
      (pss_cons (ps_expr (pe_bm PySem.F.plainAttrs_list PySem.F.slot_list_append PySem.F.type_list_append mt_append (pv 0) (pa_cons (litPE d_law_names_11 (pe_tup (pa_cons pe_str (pa_cons (pe_lst (pa_cons (pe_tup (pa_cons pe_str (pa_cons pe_str (pa_cons pe_int pa_nil)))) (pa_cons (pe_tup (pa_cons pe_str (pa_cons pe_str (pa_cons pe_int pa_nil)))) pa_nil))) pa_nil)))) pa_nil)))
      (pss_cons (ps_expr (pe_bm PySem.F.plainAttrs_list PySem.F.slot_list_append PySem.F.type_list_append mt_append (pv 0) (pa_cons (litPE d_law_names_12 (pe_tup (pa_cons pe_str (pa_cons (pe_lst (pa_cons (pe_tup (pa_cons pe_str (pa_cons pe_str (pa_cons pe_int pa_nil)))) (pa_cons (pe_tup (pa_cons pe_str (pa_cons pe_str (pa_cons pe_int pa_nil)))) pa_nil))) pa_nil)))) pa_nil)))
      (pss_cons (ps_expr (pe_bm PySem.F.plainAttrs_list PySem.F.slot_list_append PySem.F.type_list_append mt_append (pv 0) (pa_cons (litPE d_law_names_13 (pe_tup (pa_cons pe_str (pa_cons (pe_lst (pa_cons (pe_tup (pa_cons pe_str (pa_cons pe_str (pa_cons pe_int pa_nil)))) (pa_cons (pe_tup (pa_cons pe_str (pa_cons pe_str (pa_cons pe_int pa_nil)))) pa_nil))) pa_nil)))) pa_nil)))
      (pss_cons (ps_expr (pe_bm PySem.F.plainAttrs_list PySem.F.slot_list_append PySem.F.type_list_append mt_append (pv 0) (pa_cons (litPE d_law_names_14 (pe_tup (pa_cons pe_str (pa_cons (pe_lst (pa_cons (pe_tup (pa_cons pe_str (pa_cons pe_str (pa_cons pe_int pa_nil)))) (pa_cons (pe_tup (pa_cons pe_str (pa_cons pe_str (pa_cons pe_int pa_nil)))) pa_nil))) pa_nil)))) pa_nil)))
      (pss_cons (ps_expr (pe_bm PySem.F.plainAttrs_list PySem.F.slot_list_append PySem.F.type_list_append mt_append (pv 0) (pa_cons (litPE d_law_names_15 (pe_tup (pa_cons pe_str (pa_cons (pe_lst (pa_cons (pe_tup (pa_cons pe_str (pa_cons pe_str (pa_cons pe_int pa_nil)))) (pa_cons (pe_tup (pa_cons pe_str (pa_cons pe_str (pa_cons pe_int pa_nil)))) pa_nil))) pa_nil)))) pa_nil)))
      (pss_cons (ps_expr (pe_bm PySem.F.plainAttrs_list PySem.F.slot_list_append PySem.F.type_list_append mt_append (pv 0) (pa_cons (litPE d_law_names_16 (pe_tup (pa_cons pe_str (pa_cons (pe_lst (pa_cons (pe_tup (pa_cons pe_str (pa_cons pe_str (pa_cons pe_int pa_nil)))) (pa_cons (pe_tup (pa_cons pe_str (pa_cons pe_str (pa_cons pe_int pa_nil)))) (pa_cons (pe_tup (pa_cons pe_str (pa_cons pe_str (pa_cons pe_int pa_nil)))) pa_nil)))) pa_nil)))) pa_nil)))
      (pss_cons (ps_expr (pe_bm PySem.F.plainAttrs_list PySem.F.slot_list_append PySem.F.type_list_append mt_append (pv 0) (pa_cons (litPE d_law_names_17 (pe_tup (pa_cons pe_str (pa_cons (pe_lst (pa_cons (pe_tup (pa_cons pe_str (pa_cons pe_str (pa_cons pe_int pa_nil)))) (pa_cons (pe_tup (pa_cons pe_str (pa_cons pe_str (pa_cons pe_int pa_nil)))) pa_nil))) pa_nil)))) pa_nil)))
      (pss_cons (ps_expr (pe_bm PySem.F.plainAttrs_list PySem.F.slot_list_append PySem.F.type_list_append mt_append (pv 0) (pa_cons (litPE d_law_names_18 (pe_tup (pa_cons pe_str (pa_cons (pe_lst (pa_cons (pe_tup (pa_cons pe_str (pa_cons pe_str (pa_cons pe_int pa_nil)))) (pa_cons (pe_tup (pa_cons pe_str (pa_cons pe_str (pa_cons pe_int pa_nil)))) (pa_cons (pe_tup (pa_cons pe_str (pa_cons pe_str (pa_cons pe_int pa_nil)))) (pa_cons (pe_tup (pa_cons pe_str (pa_cons pe_str (pa_cons pe_int pa_nil)))) (pa_cons (pe_tup (pa_cons pe_str (pa_cons pe_str (pa_cons pe_int pa_nil)))) (pa_cons (pe_tup (pa_cons pe_str (pa_cons pe_str (pa_cons pe_int pa_nil)))) pa_nil))))))) pa_nil)))) pa_nil)))
      (pss_cons (ps_expr (pe_bm PySem.F.plainAttrs_list PySem.F.slot_list_append PySem.F.type_list_append mt_append (pv 0) (pa_cons (litPE d_law_names_19 (pe_tup (pa_cons pe_str (pa_cons (pe_lst (pa_cons (pe_tup (pa_cons pe_str (pa_cons pe_str (pa_cons pe_int pa_nil)))) (pa_cons (pe_tup (pa_cons pe_str (pa_cons pe_str (pa_cons pe_int pa_nil)))) (pa_cons (pe_tup (pa_cons pe_str (pa_cons pe_str (pa_cons pe_int pa_nil)))) (pa_cons (pe_tup (pa_cons pe_str (pa_cons pe_str (pa_cons pe_int pa_nil)))) (pa_cons (pe_tup (pa_cons pe_str (pa_cons pe_str (pa_cons pe_int pa_nil)))) pa_nil)))))) pa_nil)))) pa_nil)))
      (pss_cons (ps_expr (pe_bm PySem.F.plainAttrs_list PySem.F.slot_list_append PySem.F.type_list_append mt_append (pv 0) (pa_cons (litPE d_law_names_20 (pe_tup (pa_cons pe_str (pa_cons (pe_lst (pa_cons (pe_tup (pa_cons pe_str (pa_cons pe_str (pa_cons pe_int pa_nil)))) pa_nil)) pa_nil)))) pa_nil)))
      (pss_cons (ps_expr (pe_bm PySem.F.plainAttrs_list PySem.F.slot_list_append PySem.F.type_list_append mt_append (pv 0) (pa_cons (litPE d_law_names_21 (pe_tup (pa_cons pe_str (pa_cons (pe_lst (pa_cons (pe_tup (pa_cons pe_str (pa_cons pe_int (pa_cons pe_int pa_nil)))) (pa_cons (pe_tup (pa_cons pe_str (pa_cons pe_str (pa_cons pe_int pa_nil)))) pa_nil))) pa_nil)))) pa_nil)))
      (pss_cons (ps_expr (pe_bm PySem.F.plainAttrs_list PySem.F.slot_list_append PySem.F.type_list_append mt_append (pv 0) (pa_cons (litPE d_law_names_22 (pe_tup (pa_cons pe_str (pa_cons (pe_lst (pa_cons (pe_tup (pa_cons pe_str (pa_cons pe_int (pa_cons pe_int pa_nil)))) (pa_cons (pe_tup (pa_cons pe_str (pa_cons pe_str (pa_cons pe_int pa_nil)))) pa_nil))) pa_nil)))) pa_nil)))
      (pss_one (ps_ret (pv 0)))))))))))))))))))))))))), ?_⟩)
  · obtain ⟨rfl, _⟩ := h
    rfl
  · obtain ⟨rfl, q⟩ := h
    refine asg_lit (K := K) rfl (by decide) fun L H1 R => ?_
    repeat refine app_lit (K := K) rfl (by assumption) (by decide) (by decide) fun _ _ => ?_
    exact ret_rows (K := K) rfl (by assumption) (by kernel_rfl) fun H' R' => q L H' R'
theorem sc_law_strings : FnScope ["_law_rows"] [] (defScope s_law_strings) := ⟨rfl, rfl, rfl, by decide +kernel, rfl, by decide +kernel, by decide +kernel⟩
theorem ok_strings {f : Addr} {fd : FuncData} (F : FnP K "_law_strings" s_law_strings f fd) : FnOk P w K mg base CX0 2 f fd [] (spRows K (Tok.m_strings.map dRow)) := by
  refine F.ok sc_law_strings (fun vs H Q E h => ?_) (fun cdv A outer s H vs Q E hr h => ⟨_, PSs.nox
    (pss_cons (ps_set (i := 0) sc_law_strings.nd rfl (Or.inl rfl) (litPE d_law_strings_0 (pe_lst (pa_cons (pe_tup (pa_cons pe_str (pa_cons (pe_lst (pa_cons (pe_tup (pa_cons pe_str (pa_cons pe_str (pa_cons pe_int pa_nil)))) pa_nil)) pa_nil))) (pa_cons (pe_tup (pa_cons pe_str (pa_cons (pe_lst (pa_cons (pe_tup (pa_cons pe_str (pa_cons pe_str (pa_cons pe_int pa_nil)))) pa_nil)) pa_nil))) (pa_cons (pe_tup (pa_cons pe_str (pa_cons (pe_lst (pa_cons (pe_tup (pa_cons pe_str (pa_cons pe_str (pa_cons pe_int pa_nil)))) pa_nil)) pa_nil))) pa_nil))))))
      (pss_cons (ps_expr (pe_bm PySem.F.plainAttrs_list PySem.F.slot_list_append PySem.F.type_list_append mt_append (pv 0) (pa_cons (litPE d_law_strings_1 (pe_tup (pa_cons pe_str (pa_cons (pe_lst (pa_cons (pe_tup (pa_cons pe_str (pa_cons pe_str (pa_cons pe_int pa_nil)))) pa_nil)) pa_nil)))) pa_nil)))
      (pss_cons (ps_expr (pe_bm PySem.F.plainAttrs_list PySem.F.slot_list_append PySem.F.type_list_append mt_append (pv 0) (pa_cons (litPE d_law_strings_2 (pe_tup (pa_cons pe_str (pa_cons (pe_lst (pa_cons (pe_tup (pa_cons pe_str (pa_cons pe_str (pa_cons pe_int pa_nil)))) pa_nil)) pa_nil)))) pa_nil)))
      (pss_cons (ps_expr (pe_bm PySem.F.plainAttrs_list PySem.F.slot_list_append PySem.F.type_list_append mt_append (pv 0) (pa_cons (litPE d_law_strings_3 (pe_tup (pa_cons pe_str (pa_cons (pe_lst (pa_cons (pe_tup (pa_cons pe_str (pa_cons pe_str (pa_cons pe_int pa_nil)))) (pa_cons (pe_tup (pa_cons pe_str (pa_cons pe_str (pa_cons pe_int pa_nil)))) pa_nil))) pa_nil)))) pa_nil)))
      (pss_cons (ps_expr (pe_bm PySem.F.plainAttrs_list PySem.F.slot_list_append PySem.F.type_list_append mt_append (pv 0) (pa_cons (litPE d_law_strings_4 (pe_tup (pa_cons pe_str (pa_cons (pe_lst (pa_cons (pe_tup (pa_cons pe_str (pa_cons pe_str (pa_cons pe_int pa_nil)))) (pa_cons (pe_tup (pa_cons pe_str (pa_cons pe_str (pa_cons pe_int pa_nil)))) pa_nil))) pa_nil)))) pa_nil)))
      (pss_cons (ps_expr (pe_bm PySem.F.plainAttrs_list PySem.F.slot_list_append PySem.F.type_list_append mt_append (pv 0) (pa_cons (litPE d_law_strings_5 (pe_tup (pa_cons pe_str (pa_cons (pe_lst (pa_cons (pe_tup (pa_cons pe_str (pa_cons pe_str (pa_cons pe_int pa_nil)))) pa_nil)) pa_nil)))) pa_nil)))
      (pss_cons (ps_expr (pe_bm PySem.F.plainAttrs_list PySem.F.slot_list_append PySem.F.type_list_append mt_append (pv 0) (pa_cons (litPE d_law_strings_6 (pe_tup (pa_cons pe_str (pa_cons (pe_lst (pa_cons (pe_tup (pa_cons pe_str (pa_cons pe_str (pa_cons pe_int pa_nil)))) (pa_cons (pe_tup (pa_cons pe_str (pa_cons pe_str (pa_cons pe_int pa_nil)))) pa_nil))) pa_nil)))) pa_nil)))
      (pss_cons (ps_expr (pe_bm PySem.F.plainAttrs_list PySem.F.slot_list_append PySem.F.type_list_append mt_append (pv 0) (pa_cons (litPE d_law_strings_7 (pe_tup (pa_cons pe_str (pa_cons (pe_lst (pa_cons (pe_tup (pa_cons pe_str (pa_cons pe_str (pa_cons pe_int pa_nil)))) pa_nil)) pa_nil)))) pa_nil)))
      (pss_cons (ps_expr (pe_bm PySem.F.plainAttrs_list PySem.F.slot_list_append PySem.F.type_list_append mt_append (pv 0) (pa_cons (litPE d_law_strings_8 (pe_tup (pa_cons pe_str (pa_cons (pe_lst (pa_cons (pe_tup (pa_cons pe_str (pa_cons pe_str (pa_cons pe_int pa_nil)))) (pa_cons (pe_tup (pa_cons pe_str (pa_cons pe_str (pa_cons pe_int pa_nil)))) pa_nil))) pa_nil)))) pa_nil)))
      (pss_cons (ps_expr (pe_bm PySem.F.plainAttrs_list PySem.F.slot_list_append PySem.F.type_list_append mt_append (pv 0) (pa_cons (litPE d_law_strings_9 (pe_tup (pa_cons pe_str (pa_cons (pe_lst (pa_cons (pe_tup (pa_cons pe_str (pa_cons pe_str (pa_cons pe_int pa_nil)))) pa_nil)) pa_nil)))) pa_nil)))
      (pss_cons (ps_expr (pe_bm PySem.F.plainAttrs_list PySem.F.slot_list_append PySem.F.type_list_append mt_append (pv 0) (pa_cons (litPE d_law_strings_10 (pe_tup (pa_cons pe_str (pa_cons (pe_lst (pa_cons (pe_tup (pa_cons pe_str (pa_cons pe_str (pa_cons pe_int pa_nil)))) pa_nil)) pa_nil)))) pa_nil)))
      (pss_cons (ps_expr (pe_bm PySem.F.plainAttrs_list PySem.F.slot_list_append PySem.F.type_list_append mt_append (pv 0) (pa_cons (litPE d_law_strings_11 (pe_tup (pa_cons pe_str (pa_cons (pe_lst pa_nil) pa_nil)))) pa_nil)))
      (pss_cons (ps_expr (pe_bm PySem.F.plainAttrs_list PySem.F.slot_list_append PySem.F.type_list_append mt_append (pv 0) (pa_cons (litPE d_law_strings_12 (pe_tup (pa_cons pe_str (pa_cons (pe_lst (pa_cons (pe_tup (pa_cons pe_str (pa_cons pe_str (pa_cons pe_int pa_nil)))) (pa_cons (pe_tup (pa_cons pe_str (pa_cons pe_str (pa_cons pe_int pa_nil)))) pa_nil))) pa_nil)))) pa_nil)))
      (pss_cons (ps_expr (pe_bm PySem.F.plainAttrs_list PySem.F.slot_list_append PySem.F.type_list_append mt_append (pv 0) (pa_cons (litPE d_law_strings_13 (pe_tup (pa_cons pe_str (pa_cons (pe_lst (pa_cons (pe_tup (pa_cons pe_str (pa_cons pe_str (pa_cons pe_int pa_nil)))) pa_nil)) pa_nil)))) pa_nil)))
      (pss_one (ps_ret (pv 0))))))))))))))))), ?_⟩)
  · obtain ⟨rfl, _⟩ := h
    rfl
  · obtain ⟨rfl, q⟩ := h
    refine asg_lit (K := K) rfl (by decide) fun L H1 R => ?_
    repeat refine app_lit (K := K) rfl (by assumption) (by decide) (by decide) fun _ _ => ?_
    exact ret_rows (K := K) rfl (by assumption) (by kernel_rfl) fun H' R' => q L H' R'
theorem sc_law_numbers : FnScope ["_law_rows"] [] (defScope s_law_numbers) := ⟨rfl, rfl, rfl, by decide +kernel, rfl, by decide +kernel, by decide +kernel⟩
theorem ok_numbers {f : Addr} {fd : FuncData} (F : FnP K "_law_numbers" s_law_numbers f fd) : FnOk P w K mg base CX0 2 f fd [] (spRows K (Tok.m_numbers.map dRow)) := by
  refine F.ok sc_law_numbers (fun vs H Q E h => ?_) (fun cdv A outer s H vs Q E hr h => ⟨_, PSs.nox
    (pss_cons (ps_set (i := 0) sc_law_numbers.nd rfl (Or.inl rfl) (litPE d_law_numbers_0 (pe_lst (pa_cons (pe_tup (pa_cons pe_str (pa_cons (pe_lst (pa_cons (pe_tup (pa_cons pe_str (pa_cons (litNeg pe_int (by decide)) (pa_cons pe_int pa_nil)))) pa_nil)) pa_nil))) (pa_cons (pe_tup (pa_cons pe_str (pa_cons (pe_lst (pa_cons (pe_tup (pa_cons pe_str (pa_cons pe_int (pa_cons pe_int pa_nil)))) pa_nil)) pa_nil))) (pa_cons (pe_tup (pa_cons pe_str (pa_cons (pe_lst (pa_cons (pe_tup (pa_cons pe_str (pa_cons (litNeg pe_int (by decide)) (pa_cons pe_int pa_nil)))) pa_nil)) pa_nil))) pa_nil))))))
      (pss_cons (ps_expr (pe_bm PySem.F.plainAttrs_list PySem.F.slot_list_append PySem.F.type_list_append mt_append (pv 0) (pa_cons (litPE d_law_numbers_1 (pe_tup (pa_cons pe_str (pa_cons (pe_lst (pa_cons (pe_tup (pa_cons pe_str (pa_cons pe_str (pa_cons pe_int pa_nil)))) (pa_cons (pe_tup (pa_cons pe_str (pa_cons pe_int (pa_cons pe_int pa_nil)))) pa_nil))) pa_nil)))) pa_nil)))
      (pss_cons (ps_expr (pe_bm PySem.F.plainAttrs_list PySem.F.slot_list_append PySem.F.type_list_append mt_append (pv 0) (pa_cons (litPE d_law_numbers_2 (pe_tup (pa_cons pe_str (pa_cons (pe_lst (pa_cons (pe_tup (pa_cons pe_str (pa_cons pe_str (pa_cons pe_int pa_nil)))) (pa_cons (pe_tup (pa_cons pe_str (pa_cons (litNeg pe_int (by decide)) (pa_cons pe_int pa_nil)))) pa_nil))) pa_nil)))) pa_nil)))
      (pss_cons (ps_expr (pe_bm PySem.F.plainAttrs_list PySem.F.slot_list_append PySem.F.type_list_append mt_append (pv 0) (pa_cons (litPE d_law_numbers_3 (pe_tup (pa_cons pe_str (pa_cons (pe_lst (pa_cons (pe_tup (pa_cons pe_str (pa_cons pe_int (pa_cons pe_int pa_nil)))) (pa_cons (pe_tup (pa_cons pe_str (pa_cons pe_str (pa_cons pe_int pa_nil)))) (pa_cons (pe_tup (pa_cons pe_str (pa_cons (litNeg pe_int (by decide)) (pa_cons pe_int pa_nil)))) pa_nil)))) pa_nil)))) pa_nil)))
      (pss_cons (ps_expr (pe_bm PySem.F.plainAttrs_list PySem.F.slot_list_append PySem.F.type_list_append mt_append (pv 0) (pa_cons (litPE d_law_numbers_4 (pe_tup (pa_cons pe_str (pa_cons (pe_lst (pa_cons (pe_tup (pa_cons pe_str (pa_cons pe_str (pa_cons pe_int pa_nil)))) (pa_cons (pe_tup (pa_cons pe_str (pa_cons pe_str (pa_cons pe_int pa_nil)))) (pa_cons (pe_tup (pa_cons pe_str (pa_cons pe_int (pa_cons pe_int pa_nil)))) pa_nil)))) pa_nil)))) pa_nil)))
      (pss_cons (ps_expr (pe_bm PySem.F.plainAttrs_list PySem.F.slot_list_append PySem.F.type_list_append mt_append (pv 0) (pa_cons (litPE d_law_numbers_5 (pe_tup (pa_cons pe_str (pa_cons (pe_lst (pa_cons (pe_tup (pa_cons pe_str (pa_cons pe_str (pa_cons pe_int pa_nil)))) (pa_cons (pe_tup (pa_cons pe_str (pa_cons pe_str (pa_cons pe_int pa_nil)))) (pa_cons (pe_tup (pa_cons pe_str (pa_cons pe_int (pa_cons pe_int pa_nil)))) pa_nil)))) pa_nil)))) pa_nil)))
      (pss_cons (ps_expr (pe_bm PySem.F.plainAttrs_list PySem.F.slot_list_append PySem.F.type_list_append mt_append (pv 0) (pa_cons (litPE d_law_numbers_6 (pe_tup (pa_cons pe_str (pa_cons (pe_lst (pa_cons (pe_tup (pa_cons pe_str (pa_cons pe_str (pa_cons pe_int pa_nil)))) (pa_cons (pe_tup (pa_cons pe_str (pa_cons pe_str (pa_cons pe_int pa_nil)))) (pa_cons (pe_tup (pa_cons pe_str (pa_cons pe_int (pa_cons pe_int pa_nil)))) pa_nil)))) pa_nil)))) pa_nil)))
      (pss_cons (ps_expr (pe_bm PySem.F.plainAttrs_list PySem.F.slot_list_append PySem.F.type_list_append mt_append (pv 0) (pa_cons (litPE d_law_numbers_7 (pe_tup (pa_cons pe_str (pa_cons (pe_lst (pa_cons (pe_tup (pa_cons pe_str (pa_cons pe_str (pa_cons pe_int pa_nil)))) (pa_cons (pe_tup (pa_cons pe_str (pa_cons pe_str (pa_cons pe_int pa_nil)))) (pa_cons (pe_tup (pa_cons pe_str (pa_cons pe_int (pa_cons pe_int pa_nil)))) pa_nil)))) pa_nil)))) pa_nil)))
      (pss_cons (ps_expr (pe_bm PySem.F.plainAttrs_list PySem.F.slot_list_append PySem.F.type_list_append mt_append (pv 0) (pa_cons (litPE d_law_numbers_8 (pe_tup (pa_cons pe_str (pa_cons (pe_lst (pa_cons (pe_tup (pa_cons pe_str (pa_cons pe_str (pa_cons pe_int pa_nil)))) (pa_cons (pe_tup (pa_cons pe_str (pa_cons pe_str (pa_cons pe_int pa_nil)))) (pa_cons (pe_tup (pa_cons pe_str (pa_cons pe_int (pa_cons pe_int pa_nil)))) pa_nil)))) pa_nil)))) pa_nil)))
      (pss_cons (ps_expr (pe_bm PySem.F.plainAttrs_list PySem.F.slot_list_append PySem.F.type_list_append mt_append (pv 0) (pa_cons (litPE d_law_numbers_9 (pe_tup (pa_cons pe_str (pa_cons (pe_lst (pa_cons (pe_tup (pa_cons pe_str (pa_cons pe_str (pa_cons pe_int pa_nil)))) (pa_cons (pe_tup (pa_cons pe_str (pa_cons pe_str (pa_cons pe_int pa_nil)))) (pa_cons (pe_tup (pa_cons pe_str (pa_cons pe_int (pa_cons pe_int pa_nil)))) pa_nil)))) pa_nil)))) pa_nil)))
      (pss_cons (ps_expr (pe_bm PySem.F.plainAttrs_list PySem.F.slot_list_append PySem.F.type_list_append mt_append (pv 0) (pa_cons (litPE d_law_numbers_10 (pe_tup (pa_cons pe_str (pa_cons (pe_lst (pa_cons (pe_tup (pa_cons pe_str (pa_cons pe_str (pa_cons pe_int pa_nil)))) (pa_cons (pe_tup (pa_cons pe_str (pa_cons pe_int (pa_cons pe_int pa_nil)))) pa_nil))) pa_nil)))) pa_nil)))
      (pss_cons (ps_expr (pe_bm PySem.F.plainAttrs_list PySem.F.slot_list_append PySem.F.type_list_append mt_append (pv 0) (pa_cons (litPE d_law_numbers_11 (pe_tup (pa_cons pe_str (pa_cons (pe_lst (pa_cons (pe_tup (pa_cons pe_str (pa_cons pe_str (pa_cons pe_int pa_nil)))) (pa_cons (pe_tup (pa_cons pe_str (pa_cons pe_str (pa_cons pe_int pa_nil)))) (pa_cons (pe_tup (pa_cons pe_str (pa_cons pe_int (pa_cons pe_int pa_nil)))) pa_nil)))) pa_nil)))) pa_nil)))
      (pss_cons (ps_expr (pe_bm PySem.F.plainAttrs_list PySem.F.slot_list_append PySem.F.type_list_append mt_append (pv 0) (pa_cons (litPE d_law_numbers_12 (pe_tup (pa_cons pe_str (pa_cons (pe_lst (pa_cons (pe_tup (pa_cons pe_str (pa_cons pe_str (pa_cons pe_int pa_nil)))) (pa_cons (pe_tup (pa_cons pe_str (pa_cons pe_str (pa_cons pe_int pa_nil)))) (pa_cons (pe_tup (pa_cons pe_str (pa_cons pe_int (pa_cons pe_int pa_nil)))) pa_nil)))) pa_nil)))) pa_nil)))
      (pss_cons (ps_expr (pe_bm PySem.F.plainAttrs_list PySem.F.slot_list_append PySem.F.type_list_append mt_append (pv 0) (pa_cons (litPE d_law_numbers_13 (pe_tup (pa_cons pe_str (pa_cons (pe_lst (pa_cons (pe_tup (pa_cons pe_str (pa_cons pe_str (pa_cons pe_int pa_nil)))) (pa_cons (pe_tup (pa_cons pe_str (pa_cons (litNeg pe_int (by decide)) (pa_cons pe_int pa_nil)))) pa_nil))) pa_nil)))) pa_nil)))
      (pss_cons (ps_expr (pe_bm PySem.F.plainAttrs_list PySem.F.slot_list_append PySem.F.type_list_append mt_append (pv 0) (pa_cons (litPE d_law_numbers_14 (pe_tup (pa_cons pe_str (pa_cons (pe_lst (pa_cons (pe_tup (pa_cons pe_str (pa_cons pe_str (pa_cons pe_int pa_nil)))) (pa_cons (pe_tup (pa_cons pe_str (pa_cons (litNeg pe_int (by decide)) (pa_cons pe_int pa_nil)))) pa_nil))) pa_nil)))) pa_nil)))
      (pss_cons (ps_expr (pe_bm PySem.F.plainAttrs_list PySem.F.slot_list_append PySem.F.type_list_append mt_append (pv 0) (pa_cons (litPE d_law_numbers_15 (pe_tup (pa_cons pe_str (pa_cons (pe_lst (pa_cons (pe_tup (pa_cons pe_str (pa_cons pe_str (pa_cons pe_int pa_nil)))) (pa_cons (pe_tup (pa_cons pe_str (pa_cons (litNeg pe_int (by decide)) (pa_cons pe_int pa_nil)))) pa_nil))) pa_nil)))) pa_nil)))
      (pss_cons (ps_expr (pe_bm PySem.F.plainAttrs_list PySem.F.slot_list_append PySem.F.type_list_append mt_append (pv 0) (pa_cons (litPE d_law_numbers_16 (pe_tup (pa_cons pe_str (pa_cons (pe_lst (pa_cons (pe_tup (pa_cons pe_str (pa_cons pe_str (pa_cons pe_int pa_nil)))) (pa_cons (pe_tup (pa_cons pe_str (pa_cons (litNeg pe_int (by decide)) (pa_cons pe_int pa_nil)))) pa_nil))) pa_nil)))) pa_nil)))
      (pss_cons (ps_expr (pe_bm PySem.F.plainAttrs_list PySem.F.slot_list_append PySem.F.type_list_append mt_append (pv 0) (pa_cons (litPE d_law_numbers_17 (pe_tup (pa_cons pe_str (pa_cons (pe_lst (pa_cons (pe_tup (pa_cons pe_str (pa_cons pe_str (pa_cons pe_int pa_nil)))) (pa_cons (pe_tup (pa_cons pe_str (pa_cons (litNeg pe_int (by decide)) (pa_cons pe_int pa_nil)))) pa_nil))) pa_nil)))) pa_nil)))
      (pss_cons (ps_expr (pe_bm PySem.F.plainAttrs_list PySem.F.slot_list_append PySem.F.type_list_append mt_append (pv 0) (pa_cons (litPE d_law_numbers_18 (pe_tup (pa_cons pe_str (pa_cons (pe_lst (pa_cons (pe_tup (pa_cons pe_str (pa_cons pe_str (pa_cons pe_int pa_nil)))) (pa_cons (pe_tup (pa_cons pe_str (pa_cons pe_str (pa_cons pe_int pa_nil)))) (pa_cons (pe_tup (pa_cons pe_str (pa_cons (litNeg pe_int (by decide)) (pa_cons pe_int pa_nil)))) pa_nil)))) pa_nil)))) pa_nil)))
      (pss_one (ps_ret (pv 0)))))))))))))))))))))), ?_⟩)
  · obtain ⟨rfl, _⟩ := h
    rfl
  · obtain ⟨rfl, q⟩ := h
    refine asg_lit (K := K) rfl (by decide) fun L H1 R => ?_
    repeat refine app_lit (K := K) rfl (by assumption) (by decide) (by decide) fun _ _ => ?_
    exact ret_rows (K := K) rfl (by assumption) (by kernel_rfl) fun H' R' => q L H' R'
theorem sc_law_arrays : FnScope ["_law_rows"] [] (defScope s_law_arrays) := ⟨rfl, rfl, rfl, by decide +kernel, rfl, by decide +kernel, by decide +kernel⟩
theorem ok_arrays {f : Addr} {fd : FuncData} (F : FnP K "_law_arrays" s_law_arrays f fd) : FnOk P w K mg base CX0 2 f fd [] (spRows K (Tok.m_arrays.map dRow)) := by
  refine F.ok sc_law_arrays (fun vs H Q E h => ?_) (fun cdv A outer s H vs Q E hr h => ⟨_, PSs.nox
    (pss_cons (ps_set (i := 0) sc_law_arrays.nd rfl (Or.inl rfl) (litPE d_law_arrays_0 (pe_lst (pa_cons (pe_tup (pa_cons pe_str (pa_cons (pe_lst (pa_cons (pe_tup (pa_cons pe_str (pa_cons pe_str (pa_cons pe_int pa_nil)))) (pa_cons (pe_tup (pa_cons pe_str (pa_cons pe_str (pa_cons pe_int pa_nil)))) (pa_cons (pe_tup (pa_cons pe_str (pa_cons (litNeg pe_int (by decide)) (pa_cons pe_int pa_nil)))) (pa_cons (pe_tup (pa_cons pe_str (pa_cons pe_str (pa_cons pe_int pa_nil)))) (pa_cons (pe_tup (pa_cons pe_str (pa_cons pe_str (pa_cons pe_int pa_nil)))) (pa_cons (pe_tup (pa_cons pe_str (pa_cons pe_int (pa_cons pe_int pa_nil)))) pa_nil))))))) pa_nil))) pa_nil))))
      (pss_cons (ps_expr (pe_bm PySem.F.plainAttrs_list PySem.F.slot_list_append PySem.F.type_list_append mt_append (pv 0) (pa_cons (litPE d_law_arrays_1 (pe_tup (pa_cons pe_str (pa_cons (pe_lst (pa_cons (pe_tup (pa_cons pe_str (pa_cons pe_str (pa_cons pe_int pa_nil)))) (pa_cons (pe_tup (pa_cons pe_str (pa_cons pe_str (pa_cons pe_int pa_nil)))) (pa_cons (pe_tup (pa_cons pe_str (pa_cons pe_int (pa_cons pe_int pa_nil)))) (pa_cons (pe_tup (pa_cons pe_str (pa_cons pe_str (pa_cons pe_int pa_nil)))) (pa_cons (pe_tup (pa_cons pe_str (pa_cons (litNeg pe_int (by decide)) (pa_cons pe_int pa_nil)))) pa_nil)))))) pa_nil)))) pa_nil)))
      (pss_cons (ps_expr (pe_bm PySem.F.plainAttrs_list PySem.F.slot_list_append PySem.F.type_list_append mt_append (pv 0) (pa_cons (litPE d_law_arrays_2 (pe_tup (pa_cons pe_str (pa_cons (pe_lst (pa_cons (pe_tup (pa_cons pe_str (pa_cons pe_str (pa_cons pe_int pa_nil)))) (pa_cons (pe_tup (pa_cons pe_str (pa_cons pe_str (pa_cons pe_int pa_nil)))) (pa_cons (pe_tup (pa_cons pe_str (pa_cons pe_str (pa_cons pe_int pa_nil)))) (pa_cons (pe_tup (pa_cons pe_str (pa_cons pe_str (pa_cons pe_int pa_nil)))) (pa_cons (pe_tup (pa_cons pe_str (pa_cons pe_int (pa_cons pe_int pa_nil)))) pa_nil)))))) pa_nil)))) pa_nil)))
      (pss_cons (ps_expr (pe_bm PySem.F.plainAttrs_list PySem.F.slot_list_append PySem.F.type_list_append mt_append (pv 0) (pa_cons (litPE d_law_arrays_3 (pe_tup (pa_cons pe_str (pa_cons (pe_lst (pa_cons (pe_tup (pa_cons pe_str (pa_cons pe_str (pa_cons pe_int pa_nil)))) (pa_cons (pe_tup (pa_cons pe_str (pa_cons pe_str (pa_cons pe_int pa_nil)))) (pa_cons (pe_tup (pa_cons pe_str (pa_cons (litNeg pe_int (by decide)) (pa_cons pe_int pa_nil)))) pa_nil)))) pa_nil)))) pa_nil)))
      (pss_cons (ps_expr (pe_bm PySem.F.plainAttrs_list PySem.F.slot_list_append PySem.F.type_list_append mt_append (pv 0) (pa_cons (litPE d_law_arrays_4 (pe_tup (pa_cons pe_str (pa_cons (pe_lst (pa_cons (pe_tup (pa_cons pe_str (pa_cons pe_str (pa_cons pe_int pa_nil)))) (pa_cons (pe_tup (pa_cons pe_str (pa_cons pe_str (pa_cons pe_int pa_nil)))) (pa_cons (pe_tup (pa_cons pe_str (pa_cons pe_str (pa_cons pe_int pa_nil)))) (pa_cons (pe_tup (pa_cons pe_str (pa_cons pe_str (pa_cons pe_int pa_nil)))) (pa_cons (pe_tup (pa_cons pe_str (pa_cons pe_str (pa_cons pe_int pa_nil)))) (pa_cons (pe_tup (pa_cons pe_str (pa_cons pe_int (pa_cons pe_int pa_nil)))) pa_nil))))))) pa_nil)))) pa_nil)))
      (pss_cons (ps_expr (pe_bm PySem.F.plainAttrs_list PySem.F.slot_list_append PySem.F.type_list_append mt_append (pv 0) (pa_cons (litPE d_law_arrays_5 (pe_tup (pa_cons pe_str (pa_cons (pe_lst (pa_cons (pe_tup (pa_cons pe_str (pa_cons pe_str (pa_cons pe_int pa_nil)))) (pa_cons (pe_tup (pa_cons pe_str (pa_cons pe_str (pa_cons pe_int pa_nil)))) (pa_cons (pe_tup (pa_cons pe_str (pa_cons pe_int (pa_cons pe_int pa_nil)))) (pa_cons (pe_tup (pa_cons pe_str (pa_cons (litNeg pe_int (by decide)) (pa_cons pe_int pa_nil)))) pa_nil))))) pa_nil)))) pa_nil)))
      (pss_cons (ps_expr (pe_bm PySem.F.plainAttrs_list PySem.F.slot_list_append PySem.F.type_list_append mt_append (pv 0) (pa_cons (litPE d_law_arrays_6 (pe_tup (pa_cons pe_str (pa_cons (pe_lst (pa_cons (pe_tup (pa_cons pe_str (pa_cons pe_str (pa_cons pe_int pa_nil)))) (pa_cons (pe_tup (pa_cons pe_str (pa_cons pe_str (pa_cons pe_int pa_nil)))) (pa_cons (pe_tup (pa_cons pe_str (pa_cons (litNeg pe_int (by decide)) (pa_cons pe_int pa_nil)))) pa_nil)))) pa_nil)))) pa_nil)))
      (pss_cons (ps_expr (pe_bm PySem.F.plainAttrs_list PySem.F.slot_list_append PySem.F.type_list_append mt_append (pv 0) (pa_cons (litPE d_law_arrays_7 (pe_tup (pa_cons pe_str (pa_cons (pe_lst (pa_cons (pe_tup (pa_cons pe_str (pa_cons pe_str (pa_cons pe_int pa_nil)))) (pa_cons (pe_tup (pa_cons pe_str (pa_cons pe_str (pa_cons pe_int pa_nil)))) (pa_cons (pe_tup (pa_cons pe_str (pa_cons (litNeg pe_int (by decide)) (pa_cons pe_int pa_nil)))) pa_nil)))) pa_nil)))) pa_nil)))
      (pss_cons (ps_expr (pe_bm PySem.F.plainAttrs_list PySem.F.slot_list_append PySem.F.type_list_append mt_append (pv 0) (pa_cons (litPE d_law_arrays_8 (pe_tup (pa_cons pe_str (pa_cons (pe_lst (pa_cons (pe_tup (pa_cons pe_str (pa_cons pe_str (pa_cons pe_int pa_nil)))) (pa_cons (pe_tup (pa_cons pe_str (pa_cons pe_str (pa_cons pe_int pa_nil)))) (pa_cons (pe_tup (pa_cons pe_str (pa_cons pe_str (pa_cons pe_int pa_nil)))) (pa_cons (pe_tup (pa_cons pe_str (pa_cons (litNeg pe_int (by decide)) (pa_cons pe_int pa_nil)))) pa_nil))))) pa_nil)))) pa_nil)))
      (pss_cons (ps_expr (pe_bm PySem.F.plainAttrs_list PySem.F.slot_list_append PySem.F.type_list_append mt_append (pv 0) (pa_cons (litPE d_law_arrays_9 (pe_tup (pa_cons pe_str (pa_cons (pe_lst (pa_cons (pe_tup (pa_cons pe_str (pa_cons pe_str (pa_cons pe_int pa_nil)))) (pa_cons (pe_tup (pa_cons pe_str (pa_cons pe_str (pa_cons pe_int pa_nil)))) (pa_cons (pe_tup (pa_cons pe_str (pa_cons pe_str (pa_cons pe_int pa_nil)))) (pa_cons (pe_tup (pa_cons pe_str (pa_cons pe_str (pa_cons pe_int pa_nil)))) (pa_cons (pe_tup (pa_cons pe_str (pa_cons pe_int (pa_cons pe_int pa_nil)))) pa_nil)))))) pa_nil)))) pa_nil)))
      (pss_one (ps_ret (pv 0))))))))))))), ?_⟩)
  · obtain ⟨rfl, _⟩ := h
    rfl
  · obtain ⟨rfl, q⟩ := h
    refine asg_lit (K := K) rfl (by decide) fun L H1 R => ?_
    repeat refine app_lit (K := K) rfl (by assumption) (by decide) (by decide) fun _ _ => ?_
    exact ret_rows (K := K) rfl (by assumption) (by kernel_rfl) fun H' R' => q L H' R'
end
end My

end
section
set_option Elab.async false
set_option linter.all false
set_option maxRecDepth 100000
set_option maxHeartbeats 2000000
namespace My
open PySem PySem.Spec PyProof.Rows L2
section
variable {X : Cx} {CX : CXT} {k : Nat} {f : Addr} {fd : FuncData} {ps ks : List Str} {sp : Sp} {E : L2.St → XK} {x : Str} {p pos : Pos} {kws : List Keyword} {tk : TA}
/-- f(name = e), every parameter by its name, what is raised wished for at the caller's slots -/
theorem pe_callKS (F : FnOk X.prog X.w X.K X.mg X.base CX k f fd ps sp) (hr : Room k X.A) (hg : Gl X x) (hm : X.mg x = some (.ref f)) (hk : PySem.W.keepIn X.K (.ref f) = true) (hb : KBinds X.K fd ps ks (fun us ws => us ++ ws) (fun vs zs => vs ++ zs)) (hx : ∀ σ, PassesAt CX X σ (E σ))
    (hkw : PK X kws tk) (hall : (backToKw pos (keywordEach kws X.env)).all (·.1.isSome) = true := by rfl) (hks : (backToKw pos (keywordEach kws X.env)).filterMap (·.1) = ks := by rfl)
    (hdb : (x == ("__debug__" : Str)) = false := by decide) (hpl : ((backTo pos (starEach [] X.env)).any (·.1) || (backToKw pos (keywordEach kws X.env)).any (·.1.isNone)) = false := by rfl) :
    PE X (.Call (.Name x p) [] kws pos) (tCallS sp E tk) := by
  refine ⟨fun pins s σ H Q I h => ?_⟩
  refine wpAny_Call_Name_kw (ld_glob I hg hm ?_ hdb)
  refine PySem.W.callWith_KW0 (h₀ := X.base) I.ok.mod.kin hk hall ?_ hpl
  refine thn (hkw.run pos pins s σ H _ I h) fun ws s2 ⟨zs, H2, I2, rz, q2⟩ => ⟨I2.kIn, ?_⟩
  rw [hks]
  have hl : ws.length = ps.length := by rw [← rz.length]; exact F.len _ _ _ _ q2
  refine wpAny_call (codeAny_mono (F.run X.A X.stack s2 H2 ⟨[], ks.zip ws⟩ ws zs Q (E σ) hr I2.env0 (hb.to s2 [] ws I2.kIn hl) rz q2) fun r s' hq => ?_)
  cases r with
  | error e => exact hx σ pins H2 s2 e s' I2 hq
  | ok fl =>
    cases fl with
    | ret u => exact I2.after hq
    | next => exact False.elim hq
    | brk => exact False.elim hq
    | cont => exact False.elim hq
end
abbrev codesOf (z : Str) : List Nat := z.cps.toList
/-- what is no source: no text, or one that is too long or has other signs -/
def NotSource (K : PySem.W.Frag) (H : Hp) (v : V) : Prop := (∃ z, v = .str z ∧ Tok.isSource (codesOf z) = false ∧ z.length ≤ 16777216) ∨ ((∀ z, v ≠ .str z) ∧ ∃ t, TyX K H v t ∧ PySem.W.kitOne K t (.type "str") = some false)
/-- no more than 640 digits in a row -/
def Nd (L : List Nat) : Prop := ∀ q n : Nat, ((L.drop q).take n).all Tok.isDg = true → ((L.drop q).take n).length ≤ 640
/-- words_of(source): C the class of BadSource -/
def spWords (K : PySem.W.Frag) (C : Addr) : Sp := fun vs H Q E => ∃ v, vs = [v] ∧
  ((∃ z, v = .str z ∧ Tok.isSource (codesOf z) = true ∧ (34 ∉ codesOf z → Nd (codesOf z)) ∧ (∀ ws, Tok.words (codesOf z) = .ok ws → ∀ p H', Rows K H H' p (ws.map dW) → Q (.ref p) H') ∧
      (∀ n, Tok.words (codesOf z) = .error n → ∀ d H', Same H H' → H' d = some (.xd [("place", .int (n : Int))]) → E (.ref C) (some d) H')) ∨
   (NotSource K H v ∧ ∀ d H', Same H H' → H' d = some (.xd [("place", .int (-1))]) → E (.ref C) (some d) H'))
/-- told(text): what words_of returns and «read», or None and the place -/
def spTold (K : PySem.W.Frag) : Sp := fun vs H Q _ => ∃ v, vs = [v] ∧
  ((∃ z, v = .str z ∧ Tok.isSource (codesOf z) = true ∧ (34 ∉ codesOf z → Nd (codesOf z)) ∧ (∀ ws, Tok.words (codesOf z) = .ok ws → ∀ p q H1 H', Rows K H H1 p (ws.map dW) → Same H1 H' → H1 q = none → H' q = some (.tup [.ref p, .str "read"]) → Q (.ref q) H') ∧
      (∀ n, Tok.words (codesOf z) = .error n → ∀ q H', Same H H' → H q = none → H' q = some (.tup [.non, .int (n : Int)]) → Q (.ref q) H')) ∨
   (NotSource K H v ∧ ∀ q H', Same H H' → H q = none → H' q = some (.tup [.non, .int (-1)]) → Q (.ref q) H'))
abbrev s_law_told : Stmt := top 50
section
variable {P : Program} {w : World} {K : PySem.W.Frag} {mg : Str → Option Value} {base : Heap}
structure ExcTxt (K : PySem.W.Frag) (mg : Str → Option Value) (C : Addr) : Prop where
  g : mg "BadSource" = some (.ref C)
  xf : XfC K C
  no : PySem.W.findIn K (.ref C) "place" = some none
  em : PySem.W.exmOne K (.ref C) (.ref C) = some true
theorem sc_law_told : FnScope ["_law_text", "_law_found", "_law_place", "e"] ["_law_text"] (defScope s_law_told) := ⟨rfl, rfl, rfl, by decide +kernel, rfl, by decide +kernel, by decide +kernel⟩
theorem ok_told {f fW C : Addr} {fd fdW : FuncData} {kW : Nat} (F : FnP K "_law_told" s_law_told f fd) (T : ExcTxt K mg C) (GW : FnOk P w K mg base (L2.CX P w) kW fW fdW ["source"] (spWords K C)) (gW : mg "words_of" = some (.ref fW)) (hkW : PySem.W.keepIn K (.ref fW) = true) (bW : KBinds K fdW ["source"] ["source"] (fun us ws => us ++ ws) (fun vs zs => vs ++ zs)) :
    FnOk P w K mg base CX0 (kW + 1) f fd ["_law_text"] (spTold K) := by
  refine F.ok sc_law_told (fun vs H Q E h => ?_) (fun cdv A outer s H vs Q E hr h => ⟨_, PSs.nox
    (pss_cons (ps_set (i := 1) sc_law_told.nd rfl (Or.inl rfl) pe_non)
    (pss_cons (ps_set (i := 2) sc_law_told.nd rfl (Or.inl rfl) pe_str)
    (pss_cons (ps_try_as (i := 3) (Wout := fun _ _ _ _ => False) rfl rfl sc_law_told.nd rfl rfl ⟨rfl, by decide, Or.inl T.g⟩ takes0
       (fun W pn xe tk _ => pss_one (ps_set (i := 1) sc_law_told.nd rfl (Or.inl rfl) (by exact (pe_callKS GW hr rfl gW hkW bW (fun σ => passAt tk σ) (by exact (pk_cons (pv 0) pk_nil))))))
       (fun a oe cls d pn hz hf => pss_one (ps_set (i := 2) sc_law_told.nd rfl (Or.inl rfl) (by exact (pe_xf T.xf T.no hz hf (pv 3))))))
    (pss_one (ps_ret (pe_tup (pa_cons (pv 1) (pa_cons (pv 2) pa_nil)))))))), ?_⟩)
  · obtain ⟨v, rfl, _⟩ := h
    rfl
  · obtain ⟨v, rfl, h⟩ := h
    have bad : ∀ (n : Int) (d : Addr) (H' : Hp), Same H H' → H' d = some (.xd [("place", .int n)]) → (∀ q H', Same H H' → H q = none → H' q = some (.tup [.non, .int n]) → Q (.ref q) H') →
        wAs K (.ref C) 3 (fun a cls d => tAsg (tXf a cls d C (Str.ofString "place") (tVar 3)) (gName 2)) (fun _ _ _ _ => False)
          { nx := (tRet (tTup (tCons (tVar 1) (tCons (tVar 2) tNil)))) { nx := fun _ H' => Q .non H', rt := Q }, rt := Q } (.ref C) (some d) [some v, some .non, some (.str "read"), none] H' := by
      intro n d H' hs hd k
      refine ⟨true, T.em, fun _ a na => ?_, fun z => by cases z⟩
      refine ⟨_, rfl, rfl, rfl, d, _, _, rfl, hd, rfl, ?_⟩
      refine ⟨_, rfl, _, rfl, (by show 2 ≤ sizeLine; decide), fun q hq => ?_⟩
      exact k q _ (hs.trans fun b o z => by rw [upd_ne (ne_of_none z hq)]; exact z) (hs.free hq) upd_same
    refine ⟨_, rfl, v, rfl, ?_⟩
    rcases h with ⟨z, rfl, hz, hnd, hok, herr⟩ | ⟨hn, k⟩
    · refine .inl ⟨z, rfl, hz, hnd, fun ws hw p H1 R => ?_, fun n hn d H' hs hd => ?_⟩
      · refine ⟨_, rfl, _, rfl, (by show 2 ≤ sizeLine; decide), fun q hq => ?_⟩
        exact hok ws hw p q H1 _ R (fun b o z => by rw [upd_ne (ne_of_none z hq)]; exact z) hq upd_same
      · exact bad n d H' hs hd (herr n hn)
    · exact .inr ⟨hn, fun d H' hs hd => bad (-1) d H' hs hd k⟩
end
end My

end
section
set_option Elab.async false
set_option linter.all false
set_option maxRecDepth 100000
set_option maxHeartbeats 2000000
namespace My
open PySem PySem.Spec PyProof.Rows L2
/-! ### readings that lay down data -/
def rAddS : R2 := fun x y H Q => ∃ i j, x = .str i ∧ y = .str j ∧ i.length + j.length ≤ sizeLine ∧ Q (.str (i ++ j)) H
theorem op_addS {X : Cx} : OpR X (binaryOp .Add) rAddS := op_add_str
def EvD (K : PySem.W.Frag) (te : TE) (d : PyData) : Prop := ∀ (σ : L2.St) (H : Hp) (Q : VK), (∀ v D H', Same H H' → Part D H H' → Dp K D v d → Q v H') → te σ H Q
def EvDs (K : PySem.W.Frag) (ta : TA) (ds : List PyData) : Prop := ∀ (σ : L2.St) (H : Hp) (Q : List V → Hp → Prop), (∀ vs D H', Same H H' → Part D H H' → DpAll K D vs ds → Q vs H') → ta σ H Q
section
variable {K : PySem.W.Frag}
theorem evd_int {i : Int} : EvD K (tC (.int i)) (.int i) := fun _ _ _ q => q _ (fun _ => none) _ (Same.refl _) part_nil (.int i)
theorem evd_str {z : Str} : EvD K (tC (.str z)) (.str z) := fun _ _ _ q => q _ (fun _ => none) _ (Same.refl _) part_nil (.str z)
theorem evd_rep {a : TE} {z : Str} {n : Int} (ha : EvD K a (.str z)) (h0 : 0 ≤ n) (h1 : n ≤ 100000) (h2 : z.length * n.toNat ≤ 100000) : EvD K (tOp rRepS a (tC (.int n))) (.str (Txt.mul z n)) := fun σ H Q q =>
  ha σ H _ fun v D H' e p h => by
    cases h
    exact ⟨z, n, rfl, rfl, h0, h1, h2, q _ (fun _ => none) _ e part_nil (.str _)⟩
theorem evd_add {a b : TE} {x y : Str} (ha : EvD K a (.str x)) (hb : EvD K b (.str y)) (h : x.length + y.length ≤ 100000) : EvD K (tOp rAddS a b) (.str (x ++ y)) := fun σ H Q q =>
  ha σ H _ fun v D H1 e p h1 => by
    cases h1
    refine hb σ H1 _ fun v' D' H2 e2 p2 h2 => ?_
    cases h2
    exact ⟨x, y, rfl, rfl, Nat.le_trans h (by decide), q _ (fun _ => none) _ (e.trans e2) part_nil (.str _)⟩
theorem evds_nil : EvDs K tNil [] := fun _ _ _ q => q _ (fun _ => none) _ (Same.refl _) part_nil .nil
theorem evds_cons {te : TE} {ta : TA} {d : PyData} {ds : List PyData} (h1 : EvD K te d) (h2 : EvDs K ta ds) : EvDs K (tCons te ta) (d :: ds) := fun σ H Q q =>
  h1 σ H _ fun v D H1 e p h => h2 σ H1 _ fun vs D2 H2 e2 p2 h2 => by
    refine q (v :: vs) (uni D2 D) H2 (e.trans e2) ⟨fun b o z => ?_, fun b o z => ?_⟩ (.cons (dp_mono (uni_r p2.new p.inn) d v h) (dp_monoAll uni_l ds vs h2))
    · rcases uni_cases z with z | z
      · exact p2.inn b o z
      · exact e2 b o (p.inn b o z)
    · rcases uni_cases z with z | z
      · exact e.free (p2.new b o z)
      · exact p.new b o z
theorem part_upd {D H H' : Hp} {a : Addr} {o : HO} (e : Same H H') (p : Part D H H') (ha : H' a = none) : Part (upd D a o) H (upd H' a o) := by
  refine ⟨fun b u z => ?_, fun b u z => ?_⟩
  · by_cases c : b = a
    · subst c
      rw [upd_same] at z ⊢
      exact z
    · rw [upd_ne c] at z ⊢
      exact p.inn b u z
  · by_cases c : b = a
    · rw [c]; exact e.free ha
    · rw [upd_ne c] at z
      exact p.new b u z
theorem part_none {D H H' : Hp} {a : Addr} (p : Part D H H') (ha : H' a = none) : D a = none := by
  cases z : D a with
  | none => rfl
  | some o => rw [p.inn a o z] at ha; cases ha
theorem evd_tup {ta : TA} {ds : List PyData} (h : EvDs K ta ds) (hl : ds.length ≤ 1000) : EvD K (tTup ta) (.tuple ds) := fun σ H Q q =>
  h σ H _ fun vs D H' e p hd => ⟨Nat.le_trans (by rw [dpAll_length hd]; exact hl) (by decide : 1000 ≤ sizeLine), fun a ha =>
    q _ (upd D a (.tup vs)) _ (e.trans fun b o z => by rw [upd_ne (ne_of_none z ha)]; exact z) (part_upd e p ha)
      (.tup (SqT.of upd_same) (dp_monoAll (fun b o z => by rw [upd_ne (ne_of_none z (part_none p ha))]; exact z) ds vs hd))⟩
theorem evd_lst {ta : TA} {ds : List PyData} (h : EvDs K ta ds) (hl : ds.length ≤ 1000) : EvD K (tLst ta) (.list ds) := fun σ H Q q =>
  h σ H _ fun vs D H' e p hd => ⟨Nat.le_trans (by rw [dpAll_length hd]; exact hl) (by decide : 1000 ≤ sizeLine), fun a ha =>
    q _ (upd D a (.lst vs)) _ (e.trans fun b o z => by rw [upd_ne (ne_of_none z ha)]; exact z) (part_upd e p ha)
      (.lst (SqL.of upd_same) (dp_monoAll (fun b o z => by rw [upd_ne (ne_of_none z (part_none p ha))]; exact z) ds vs hd))⟩
theorem evd_lit {d : PyData} (ok : litOk d = true) : EvD K (tLitW d) d := fun σ H Q q => Rows.lit_any (K := K) d ok σ H Q q
/-- a display of a list: new rows -/
theorem rows_lst {ta : TA} {ds : List PyData} (h : EvDs K ta ds) (hl : ds.length ≤ 1000) {σ : L2.St} {H : Hp} {Q : VK} (q : ∀ L H', Rows K H H' L ds → Q (.ref L) H') : tLst ta σ H Q :=
  h σ H _ fun vs D H' e p hd => ⟨Nat.le_trans (by rw [dpAll_length hd]; exact hl) (by decide : 1000 ≤ sizeLine), fun a ha => q a _ ⟨e.trans fun b o z => by rw [upd_ne (ne_of_none z ha)]; exact z, e.free ha, vs, D, upd_same, hd, fun b o z =>
    have hb := p.inn b o z
    ⟨by rw [upd_ne (ne_of_none hb ha)]; exact hb, ne_of_none hb ha, p.new b o z⟩⟩⟩
/-- rows + rows -/
theorem rows_cat {H0 H1 H2 : Hp} {L M : Addr} {ds es : List PyData} (R : Rows K H0 H1 L ds) (S : Rows K H1 H2 M es) (hl : ds.length + es.length ≤ 1000) {Q : VK} (q : ∀ p H', Rows K H0 H' p (ds ++ es) → Q (.ref p) H') : rCat (.ref L) (.ref M) H2 Q := by
  obtain ⟨vs, D, hL, hD, k⟩ := R.at_
  obtain ⟨us, E, hM, hE, k2⟩ := S.at_
  refine ⟨L, M, vs, us, rfl, rfl, S.old L _ hL, hM, Nat.le_trans (by rw [dpAll_length hD, dpAll_length hE]; exact hl) (by decide : 1000 ≤ sizeLine), fun p hp => q p _ ⟨(R.old.trans S.old).trans fun b o z => by rw [upd_ne (ne_of_none z hp)]; exact z, (R.old.trans S.old).free hp, vs ++ us, uni E D, upd_same, dpAll_append (dp_monoAll (uni_r (fun a o z => (k2 a o z).2.2) fun a o z => (k a o z).1) ds vs hD) (dp_monoAll uni_l es us hE), fun b o z => ?_⟩⟩
  rcases uni_cases z with z | z
  · obtain ⟨z1, z2, z3⟩ := k2 b o z
    exact ⟨by rw [upd_ne (ne_of_none z1 hp)]; exact z1, ne_of_none z1 hp, R.old.free z3⟩
  · obtain ⟨z1, z2, z3⟩ := k b o z
    have z4 := S.old b o z1
    exact ⟨by rw [upd_ne (ne_of_none z4 hp)]; exact z4, ne_of_none z4 hp, z3⟩
theorem st_rows {ta : TA} {ds : List PyData} {u : TS} {D : Ends} {σ : L2.St} {H : Hp} {i : Nat} (h : EvDs K ta ds) (hl : ds.length ≤ 1000) (q : ∀ L H', Rows K H H' L ds → u D (σ.set i (some (.ref L))) H') : tSeq (tAsg (tLst ta) (gName i)) u D σ H := by
  show tLst ta σ H (fun v H1 => u D (σ.set i (some v)) H1)
  exact rows_lst (K := K) h hl q
theorem st_cat {ta : TA} {ds es : List PyData} {u : TS} {D : Ends} {σ : L2.St} {H0 H : Hp} {L : Addr} {i j : Nat} (hi : σ[j]? = some (some (.ref L))) (R : Rows K H0 H L ds) (h : EvDs K ta es) (hl : es.length ≤ 1000) (hs : ds.length + es.length ≤ 1000)
    (q : ∀ p H', Rows K H0 H' p (ds ++ es) → u D (σ.set i (some (.ref p))) H') : tSeq (tAsg (tOp rCat (tVar j) (tLst ta)) (gName i)) u D σ H :=
  ⟨_, hi, rows_lst (K := K) h hl fun _ _ S => rows_cat R S hs q⟩
theorem rt_cat {ta : TA} {ds es : List PyData} {D : Ends} {σ : L2.St} {H0 H : Hp} {L : Addr} {j : Nat} (hi : σ[j]? = some (some (.ref L))) (R : Rows K H0 H L ds) (h : EvDs K ta es) (hl : es.length ≤ 1000) (hs : ds.length + es.length ≤ 1000)
    {all : List PyData} (e : ds ++ es = all) (q : ∀ p H', Rows K H0 H' p all → D.rt (.ref p) H') : tRet (tOp rCat (tVar j) (tLst ta)) D σ H :=
  ⟨_, hi, rows_lst (K := K) h hl fun _ _ S => rows_cat R S hs fun p H' R' => q p H' (e ▸ R')⟩
end
def dBad (r : List Nat × Nat) : PyData := .tuple [.str (strOf r.1), .int r.2]
abbrev s_law_bad : Stmt := top 48
abbrev s_law_ahead : Stmt := top 49
section
variable {P : Program} {w : World} {K : PySem.W.Frag} {mg : Str → Option Value} {base : Heap}
theorem sc_law_bad : FnScope ["_law_rows"] [] (defScope s_law_bad) := ⟨rfl, rfl, rfl, by decide +kernel, rfl, by decide +kernel, by decide +kernel⟩
theorem ok_bad {f : Addr} {fd : FuncData} (F : FnP K "_law_bad" s_law_bad f fd) : FnOk P w K mg base CX0 2 f fd [] (spRows K (Tok.m_bad.map dBad)) := by
  refine F.ok sc_law_bad (fun vs H Q E h => ?_) (fun cdv A outer s H vs Q E hr h => ⟨_, PSs.nox
    (pss_cons (ps_set (i := 0) sc_law_bad.nd rfl (Or.inl rfl) (pe_lst (pa_cons (pe_tup (pa_cons pe_str (pa_cons pe_int pa_nil))) (pa_cons (pe_tup (pa_cons pe_str (pa_cons pe_int pa_nil))) (pa_cons (pe_tup (pa_cons pe_str (pa_cons pe_int pa_nil))) (pa_cons (pe_tup (pa_cons pe_str (pa_cons pe_int pa_nil))) (pa_cons (pe_tup (pa_cons pe_str (pa_cons pe_int pa_nil))) (pa_cons (pe_tup (pa_cons pe_str (pa_cons pe_int pa_nil))) (pa_cons (pe_tup (pa_cons pe_str (pa_cons pe_int pa_nil))) (pa_cons (pe_tup (pa_cons pe_str (pa_cons pe_int pa_nil))) (pa_cons (pe_tup (pa_cons pe_str (pa_cons pe_int pa_nil))) pa_nil)))))))))))
      (pss_cons (ps_set (i := 0) sc_law_bad.nd rfl (Or.inl rfl) (pe_op op_cat (pv 0) (pe_lst (pa_cons (pe_tup (pa_cons pe_str (pa_cons pe_int pa_nil))) (pa_cons (pe_tup (pa_cons pe_str (pa_cons pe_int pa_nil))) (pa_cons (pe_tup (pa_cons pe_str (pa_cons pe_int pa_nil))) (pa_cons (pe_tup (pa_cons pe_str (pa_cons pe_int pa_nil))) (pa_cons (pe_tup (pa_cons pe_str (pa_cons pe_int pa_nil))) (pa_cons (pe_tup (pa_cons pe_str (pa_cons pe_int pa_nil))) (pa_cons (pe_tup (pa_cons pe_str (pa_cons pe_int pa_nil))) (pa_cons (pe_tup (pa_cons pe_str (pa_cons pe_int pa_nil))) pa_nil)))))))))))
      (pss_cons (ps_set (i := 0) sc_law_bad.nd rfl (Or.inl rfl) (pe_op op_cat (pv 0) (pe_lst (pa_cons (pe_tup (pa_cons (pe_op op_rep_str pe_str pe_int) (pa_cons pe_int pa_nil))) (pa_cons (pe_tup (pa_cons (pe_op op_addS (pe_op op_rep_str pe_str pe_int) pe_str) (pa_cons pe_int pa_nil))) (pa_cons (pe_tup (pa_cons (pe_op op_addS pe_str (pe_op op_rep_str pe_str pe_int)) (pa_cons pe_int pa_nil))) (pa_cons (pe_tup (pa_cons (pe_op op_addS pe_str (pe_op op_rep_str pe_str pe_int)) (pa_cons pe_int pa_nil))) (pa_cons (pe_tup (pa_cons (pe_op op_rep_str pe_str pe_int) (pa_cons pe_int pa_nil))) pa_nil))))))))
      (pss_one (ps_ret (pe_op op_cat (pv 0) (pe_lst (pa_cons (pe_tup (pa_cons (pe_op op_addS pe_str (pe_op op_rep_str pe_str pe_int)) (pa_cons pe_int pa_nil))) (pa_cons (pe_tup (pa_cons (pe_op op_addS pe_str (pe_op op_rep_str pe_str pe_int)) (pa_cons pe_int pa_nil))) (pa_cons (pe_tup (pa_cons pe_str (pa_cons pe_int pa_nil))) (pa_cons (pe_tup (pa_cons pe_str (pa_cons pe_int pa_nil))) (pa_cons (pe_tup (pa_cons pe_str (pa_cons pe_int pa_nil))) (pa_cons (pe_tup (pa_cons pe_str (pa_cons pe_int pa_nil))) (pa_cons (pe_tup (pa_cons pe_str (pa_cons pe_int pa_nil))) pa_nil)))))))))))))), ?_⟩)
  · obtain ⟨rfl, _⟩ := h
    rfl
  · obtain ⟨rfl, q⟩ := h
    refine st_rows (K := K) (ds := [.tuple [.str "#", .int 0], .tuple [.str "a #", .int 2], .tuple [.str "#:", .int 0], .tuple [.str "##a", .int 0], .tuple [.str "# a", .int 0], .tuple [.str "/", .int 0], .tuple [.str "///", .int 2], .tuple [.str "~", .int 0], .tuple [.str "\\", .int 0]]) ?a1 ?b1 fun L1 H1 R1 => ?c1
    case a1 => (repeat' (first | exact evds_nil | exact evd_int | exact evd_str | refine evds_cons ?_ ?_ | refine evd_tup ?_ ?_ | refine evd_rep ?_ ?_ ?_ ?_ | refine evd_add ?_ ?_ ?_)); all_goals decide +kernel
    case b1 => decide
    case c1 =>
      refine st_cat (K := K) (es := [.tuple [.str "a_b", .int 1], .tuple [.str "'a", .int 0], .tuple [.str "''' ", .int 0], .tuple [.str "x \"a", .int 2], .tuple [.str "\"", .int 0], .tuple [.str "#'a''", .int 0], .tuple [.str "a!", .int 1], .tuple [.str "[`]", .int 1]]) rfl R1 ?a2 ?b2 ?d2 fun L2 H2 R2 => ?c2
      case a2 => (repeat' (first | exact evds_nil | exact evd_int | exact evd_str | refine evds_cons ?_ ?_ | refine evd_tup ?_ ?_ | refine evd_rep ?_ ?_ ?_ ?_ | refine evd_add ?_ ?_ ?_)); all_goals decide +kernel
      case b2 => decide
      case d2 => decide
      case c2 =>
        refine st_cat (K := K) (es := [.tuple [.str (Txt.mul ("a" : Str) 41), .int 0], .tuple [.str ((Txt.mul ("a" : Str) 41) ++ (":" : Str)), .int 0], .tuple [.str (("#" : Str) ++ (Txt.mul ("b" : Str) 41)), .int 0], .tuple [.str (("#a:" : Str) ++ (Txt.mul ("b" : Str) 41)), .int 3], .tuple [.str (Txt.mul ("1" : Str) 61), .int 0]]) rfl R2 ?a3 ?b3 ?d3 fun L3 H3 R3 => ?c3
        case a3 => (repeat' (first | exact evds_nil | exact evd_int | exact evd_str | refine evds_cons ?_ ?_ | refine evd_tup ?_ ?_ | refine evd_rep ?_ ?_ ?_ ?_ | refine evd_add ?_ ?_ ?_)); all_goals decide +kernel
        case b3 => decide
        case d3 => decide
        case c3 =>
          refine rt_cat (K := K) (es := [.tuple [.str (("-" : Str) ++ (Txt.mul ("1" : Str) 61)), .int 1], .tuple [.str (("x-" : Str) ++ (Txt.mul ("0" : Str) 61)), .int 2], .tuple [.str "'a'\"", .int 3], .tuple [.str "{", .int 0], .tuple [.str "a?b", .int 1], .tuple [.str "$a", .int 0], .tuple [.str "~<", .int 0]]) rfl R3 ?a4 ?b4 ?d4 ?e4 q
          case a4 => (repeat' (first | exact evds_nil | exact evd_int | exact evd_str | refine evds_cons ?_ ?_ | refine evd_tup ?_ ?_ | refine evd_rep ?_ ?_ ?_ ?_ | refine evd_add ?_ ?_ ?_)); all_goals decide +kernel
          case b4 => decide
          case d4 => decide
          case e4 => kernel_rfl
end
end My

end
section
set_option Elab.async false
set_option linter.all false
set_option maxRecDepth 100000
set_option maxHeartbeats 2000000
namespace My
open PySem PySem.Spec PyProof.Rows L2
/-- a bag at b, n takes behind its making -/
def BagAt (H : Hp) (b : Addr) (n : Nat) : Prop := ∃ x y z : Int, H b = some (.lst [.int x, .int y, .int z]) ∧ BagN n x y z
/-- from H to H': the bag at b has gone on, all else stands -/
structure Went (b : Addr) (n : Nat) (H H' : Hp) : Prop where
  bag : BagAt H' b n
  rest : ∀ a o, a ≠ b → H a = some o → H' a = some o
theorem Went.free {b : Addr} {n : Nat} {H H' : Hp} (w : Went b n H H') {p : Addr} (h : H' p = none) : H p = none := by
  cases e : H p with
  | none => rfl
  | some o =>
    by_cases c : p = b
    · subst c
      obtain ⟨x, y, z, hb, _⟩ := w.bag
      rw [hb] at h
      cases h
    · rw [w.rest p o c e] at h
      cases h
theorem Went.trans {b : Addr} {n m : Nat} {H H1 H2 : Hp} (w : Went b n H H1) (u : Went b m H1 H2) : Went b m H H2 := ⟨u.bag, fun a o c h => u.rest a o c (w.rest a o c h)⟩
theorem Went.same {b : Addr} {n : Nat} {H H1 H2 : Hp} (w : Went b n H H1) (e : Same H1 H2) : Went b n H H2 := by
  obtain ⟨x, y, z, hb, hB⟩ := w.bag
  exact ⟨⟨x, y, z, e b _ hb, hB⟩, fun a o c h => e a o (w.rest a o c h)⟩
theorem Went.of {b : Addr} {n : Nat} {H H' : Hp} (h : BagAt H b n) (e : Same H H') : Went b n H H' := by
  obtain ⟨x, y, z, hb, hB⟩ := h
  exact ⟨⟨x, y, z, e b _ hb, hB⟩, fun a o _ h => e a o h⟩
theorem Went.not {b : Addr} {n : Nat} {H H' : Hp} (w : Went b n H H') {D : Hp} (h : ∀ a o, D a = some o → H a = some o ∧ a ≠ b) : Same D H' := fun a o e => w.rest a o (h a o e).2 (h a o e).1
section
variable {K : PySem.W.Frag}
/-- pick(bag, [..]) -/
theorem pick_lst {ta : TA} {ds : List PyData} {σ : L2.St} {H : Hp} {b : Addr} {n i : Nat} {Q : VK} (hi : σ[i]? = some (some (.ref b))) (hb : BagAt H b n) (hn : n < 1000000) (h : EvDs K ta ds) (h0 : 0 < ds.length) (hl : ds.length ≤ 1000)
    (q : ∀ d v D H', d ∈ ds → Dp K D v d → (∀ a o, D a = some o → H' a = some o ∧ H a = none) → Went b (n + 1) H H' → Q v H') : tCall (spPick K) [] E0 (tCons (tVar i) (tCons (tLst ta) tNil)) σ H Q := by
  refine ⟨_, hi, rows_lst (K := K) h hl fun L H1 R => ?_⟩
  obtain ⟨x, y, z, hb0, hB⟩ := hb
  obtain ⟨vs, D, hL, hD, k⟩ := R.at_
  have hbL : L ≠ b := fun e => by have := R.new; rw [e, hb0] at this; cases this
  have hlen := dpAll_length hD
  refine ⟨b, n, x, y, z, R.old b _ hb0, hB, hn, .inl ⟨L, vs, rfl, .inl fun x' y' z' => SqL.of (by rw [upd_ne hbL]; exact hL), by omega, by omega, fun j v x' y' z' hv hB' => ?_⟩⟩
  obtain ⟨d, hd, hDp⟩ := dpAll_get hD hv
  refine q d v D _ (List.mem_of_getElem? hd) hDp (fun a o e => ?_) ⟨⟨x', y', z', upd_same, hB'⟩, fun a o c e => by rw [upd_ne c]; exact R.old a o e⟩
  obtain ⟨k1, k2, k3⟩ := k a o e
  have c : a ≠ b := fun e2 => by rw [e2, hb0] at k3; cases k3
  exact ⟨by rw [upd_ne c]; exact k1, k3⟩
end
def spAhead : Sp := fun vs H Q _ => ∃ (b : Addr) (n : Nat), vs = [.ref b] ∧ BagAt H b n ∧ n < 900000 ∧
  ∀ (z : Str) (H' : Hp), Tok.IsGap (codesOf z) → (codesOf z).all (fun c => c == 10 || (32 ≤ c && c ≤ 126)) = true → (codesOf z).length ≤ 1400 → Went b (n + 2) H H' → Q (.str z) H'
theorem codes_mul (z : Str) (n : Int) (h0 : 0 ≤ n) : codesOf (Txt.mul z n) = Tok.rep n.toNat (codesOf z) := by
  unfold Txt.mul
  split
  · rename_i h
    have : n.toNat = 0 := by omega
    rw [this]
    rfl
  · split
    · rename_i h1 h2
      rw [Bool.or_eq_true] at h2
      rcases h2 with h2 | h2
      · have : n = 1 := by simpa using h2
        subst this
        show _ = Tok.rep 1 _
        simp [Tok.rep]
      · have e : codesOf z = [] := by
          have : z.cps.size = 0 := by simpa [Str.length] using h2
          exact List.eq_nil_of_length_eq_zero this
        rw [e]
        simp [Tok.rep]
    · have e : ∀ (k : Nat) (a : Array Nat), ((List.replicate k z.cps).foldl (· ++ ·) a).toList = a.toList ++ (List.replicate k z.cps.toList).flatten := by
        intro k
        induction k with
        | zero => intro a; simp
        | succ k ih => intro a; rw [List.replicate_succ, List.foldl_cons, ih, List.replicate_succ, List.flatten_cons, Array.toList_append, List.append_assoc]
      show ((List.replicate n.toNat z.cps).foldl (· ++ ·) #[]).toList = _
      rw [e]
      rfl
def dsPiece : List PyData := [.str "", .str " ", .str "\n", .str "\"c\"", .str "\"'#(\" \n", .str " \"\"", .str "\"a\nb\""]
def dsTimes : List PyData := [.int 0, .int 1, .int 1, .int 2, .int 200]
def Gappy (z : Str) : Prop := Tok.IsGap (codesOf z) ∧ (codesOf z).all (fun c => c == 10 || (32 ≤ c && c ≤ 126)) = true ∧ (codesOf z).length ≤ 7
theorem gappy_of {z : Str} (l : List Nat) (e : codesOf z = l) (g : Tok.IsGap l) (h : (l.all (fun c => c == 10 || (32 ≤ c && c ≤ 126)) && decide (l.length ≤ 7)) = true) : Gappy z := by
  rw [Bool.and_eq_true] at h
  exact ⟨e ▸ g, e ▸ h.1, e ▸ of_decide_eq_true h.2⟩
theorem piece_ok {d : PyData} (h : d ∈ dsPiece) : ∃ z, d = .str z ∧ Gappy z := by
  unfold dsPiece at h
  simp only [List.mem_cons, List.not_mem_nil, or_false] at h
  have c1 := Tok.isGap_comment (t := [99]) (by decide)
  have c2 := Tok.isGap_app (Tok.isGap_app (Tok.isGap_comment (t := [39, 35, 40]) (by decide)) (Tok.isGap_blank (c := 32) (.inl rfl))) (Tok.isGap_blank (c := 10) (.inr rfl))
  have c3 := Tok.isGap_app (Tok.isGap_blank (c := 32) (.inl rfl)) (Tok.isGap_comment (t := []) (by decide))
  have c4 := Tok.isGap_comment (t := [97, 10, 98]) (by decide)
  rcases h with h | h | h | h | h | h | h <;> subst h
  · exact ⟨_, rfl, gappy_of [] (by decide +kernel) Tok.isGap_nil (by decide)⟩
  · exact ⟨_, rfl, gappy_of [32] (by decide +kernel) (Tok.isGap_blank (.inl rfl)) (by decide)⟩
  · exact ⟨_, rfl, gappy_of [10] (by decide +kernel) (Tok.isGap_blank (.inr rfl)) (by decide)⟩
  · exact ⟨_, rfl, gappy_of _ (by decide +kernel) c1 (by decide)⟩
  · exact ⟨_, rfl, gappy_of _ (by decide +kernel) c2 (by decide)⟩
  · exact ⟨_, rfl, gappy_of _ (by decide +kernel) c3 (by decide)⟩
  · exact ⟨_, rfl, gappy_of _ (by decide +kernel) c4 (by decide)⟩
theorem times_ok {d : PyData} (h : d ∈ dsTimes) : ∃ n : Int, d = .int n ∧ 0 ≤ n ∧ n ≤ 200 := by
  unfold dsTimes at h
  simp only [List.mem_cons, List.not_mem_nil, or_false] at h
  rcases h with h | h | h | h | h <;> subst h
  all_goals exact ⟨_, rfl, by decide, by decide⟩
theorem rep_all {p : Nat → Bool} {l : List Nat} (h : l.all p = true) : ∀ n, (Tok.rep n l).all p = true
  | 0 => rfl
  | n + 1 => by
    have e : Tok.rep (n + 1) l = l ++ Tok.rep n l := by simp [Tok.rep, List.replicate_succ]
    rw [e, List.all_append, h, rep_all h n]
    rfl
theorem rep_length (l : List Nat) : ∀ n, (Tok.rep n l).length = n * l.length
  | 0 => by simp [Tok.rep]
  | n + 1 => by
    have e : Tok.rep (n + 1) l = l ++ Tok.rep n l := by simp [Tok.rep, List.replicate_succ]
    rw [e, List.length_append, rep_length l n, Nat.succ_mul, Nat.add_comm]
section
variable {P : Program} {w : World} {K : PySem.W.Frag} {mg : Str → Option Value} {base : Heap}
theorem sc_law_ahead : FnScope ["_law_bag_here", "_law_piece"] ["_law_bag_here"] (defScope s_law_ahead) := ⟨rfl, rfl, rfl, by decide +kernel, rfl, by decide +kernel, by decide +kernel⟩
theorem ok_ahead {f fK fT : Addr} {fd fdK fdT : FuncData} (F : FnP K "_law_ahead" s_law_ahead f fd) (FK : FnP K "_law_pick" s_law_pick fK fdK) (FT : FnP K "_law_take" s_law_take fT fdT) (g_law_pick : mg "_law_pick" = some (.ref fK)) (g_law_take : mg "_law_take" = some (.ref fT)) (g_int : mg "int" = none) (g_len : mg "len" = none) :
    FnOk P w K mg base CX0 4 f fd ["_law_bag_here"] spAhead := by
  have G_law_pick : FnOk P w K mg base CX0 3 fK fdK _ (spPick K) := ok_pick FK FT g_law_take g_int g_len
  have b_law_pick : Binds K fdK ["_law_bag_here", "_law_things"] [] := FK.bindsN fun _ _ _ _ _ _ us hl => match us, hl with | [_, _], _ => rfl
  have k_law_pick := FK.kp
  refine F.ok sc_law_ahead (fun vs H Q E h => ?_) (fun cdv A outer s H vs Q E hr h => ⟨_, PSs.nox
    (pss_cons (ps_set (i := 1) sc_law_ahead.nd rfl (Or.inl rfl) (pe_call G_law_pick (hr.mono (by decide)) rfl g_law_pick k_law_pick b_law_pick .nil pass0 (pa_cons (pv 0) (pa_cons (pe_lst (pa_cons pe_str (pa_cons pe_str (pa_cons pe_str (pa_cons pe_str (pa_cons pe_str (pa_cons pe_str (pa_cons pe_str pa_nil)))))))) pa_nil))))
      (pss_one (ps_ret (pe_op op_rep_str (pv 1) (pe_call G_law_pick (hr.mono (by decide)) rfl g_law_pick k_law_pick b_law_pick .nil pass0 (pa_cons (pv 0) (pa_cons (pe_lst (pa_cons pe_int (pa_cons pe_int (pa_cons pe_int (pa_cons pe_int (pa_cons pe_int pa_nil)))))) pa_nil))))))), ?_⟩)
  · obtain ⟨b, n, rfl, _⟩ := h
    rfl
  · obtain ⟨b, n, rfl, hb, hn, q⟩ := h
    refine pick_lst (K := K) (ds := dsPiece) rfl hb (by omega) ?e1 (by decide) (by decide) fun d v D H1 hd hv hD W1 => ?_
    case e1 => (repeat' (first | exact evds_nil | exact evd_int | exact evd_str | refine evds_cons ?_ ?_))
    obtain ⟨z, rfl, hg, ha, hz⟩ := piece_ok hd
    cases hv
    refine ⟨_, rfl, ?_⟩
    refine pick_lst (K := K) (ds := dsTimes) rfl W1.bag (by omega) ?e2 (by decide) (by decide) fun d v D H2 hd hv hD W2 => ?_
    case e2 => (repeat' (first | exact evds_nil | exact evd_int | exact evd_str | refine evds_cons ?_ ?_))
    obtain ⟨m, rfl, m0, m1⟩ := times_ok hd
    cases hv
    have e := codes_mul z m m0
    have hm : m.toNat ≤ 200 := by omega
    have hl : z.length * m.toNat ≤ 7 * 200 := Nat.mul_le_mul hz hm
    refine ⟨z, m, rfl, rfl, m0, by omega, by omega, q _ _ ?_ ?_ ?_ (W1.trans W2)⟩
    · rw [e]; exact Tok.isGap_rep hg _
    · rw [e]; exact rep_all ha _
    · rw [e, rep_length, Nat.mul_comm]; exact hl
end
end My

end
section
set_option Elab.async false
set_option linter.all false
set_option maxRecDepth 100000
set_option maxHeartbeats 2000000
namespace My
open PySem PySem.Spec PyProof.Rows L2
theorem tyes {σ : L2.St} {H : Hp} {A B : Hp → Prop} (h : A H) : tYes σ H (fun b H3 => if b = true then A H3 else B H3) := iteT (A := A H) (B := B H) h
theorem call_isiK {X : Cx} {K : PySem.W.Frag} (h : X.K = K) : CallR X (.builtin "isinstance") (rIsi K) := by subst h; exact call_isi
theorem pg_tupK {X : Cx} {K : PySem.W.Frag} {es : List Expr} {k : Nat} {t : TGs} {n : Nat} {pos : Pos} (hK : X.K = K) (hc : X.calm = true) (h : PGs X es t)
    (hn : (assignEach es X.env).length = n := by rfl) (hst : (assignEach es X.env).findIdx? (·.1) = none := by rfl) : PG X (.Tuple es k pos) (gTup K n t) := by subst hK; exact pg_tup hc h hn hst
abbrev s_law_row_right : Stmt := top 51
def shiftOf (k : Nat) (w : Tok.W) : Tok.W := (w.1, w.2.1, w.2.2 + k)
def valV : Tok.Val → V
  | .s t => .str (strOf t)
  | .i n => .int n
theorem dp_val {K : PySem.W.Frag} {H : Hp} {v : V} {x : Tok.Val} (h : Dp K H v (dVal x)) : v = valV x := by
  cases x with
  | s t => unfold dVal at h; cases h; rfl
  | i n => unfold dVal at h; cases h; rfl
theorem val_dp {K : PySem.W.Frag} {H : Hp} (x : Tok.Val) : Dp K H (valV x) (dVal x) := by
  cases x with
  | s t => exact .str _
  | i n => exact .int _
theorem dp_word {K : PySem.W.Frag} {H : Hp} {v : V} {x : Tok.W} (h : Dp K H v (dW x)) : ∃ t, v = .ref t ∧ SqT K H t [.str (kdS x.1), valV x.2.1, .int x.2.2] := by
  unfold dW at h
  cases h with
  | tup hs ha =>
    cases ha with
    | cons h1 h2 =>
      cases h1
      cases h2 with
      | cons h3 h4 =>
        have e := dp_val h3
        subst e
        cases h4 with
        | cons h5 h6 =>
          cases h5
          cases h6
          exact ⟨_, rfl, hs⟩
theorem ty_tuple {K : PySem.W.Frag} {H : Hp} {a : Addr} {xs : List V} (h : SqT K H a xs) : TyX K H (.ref a) (.type "tuple") := by
  rcases h with (h | ⟨o, h⟩) | ⟨o, its, n, h, hc, _⟩
  · exact .base (.tup h)
  · exact .fTuple h
  · exact .kTuple h hc
theorem Rows.nil {K : PySem.W.Frag} {H : Hp} {p : Addr} (np : H p = none) : Rows K H (upd H p (.lst [])) p [] :=
  ⟨fun b o z => by rw [upd_ne (ne_of_none z np)]; exact z, np, [], fun _ => none, upd_same, .nil, fun _ _ z => by cases z⟩
theorem codes_app (a b : Str) : codesOf (a ++ b) = codesOf a ++ codesOf b := by
  show (a.cps ++ b.cps).toList = _
  simp
theorem codes_strOf (l : List Nat) : codesOf (strOf l) = l := rfl
theorem depth_words (ws : List Tok.W) : (PyData.list (ws.map dW)).depth ≤ 2 := by
  have d1 : ∀ w : Tok.W, (dW w).depth ≤ 1 := fun w => by
    obtain ⟨k, v, p⟩ := w
    cases v <;> exact Nat.le_refl 1
  have d2 : ∀ ws : List Tok.W, PyData.depthAll (ws.map dW) ≤ 1 := fun ws => by
    induction ws with
    | nil => decide
    | cons w ws ih =>
      have := d1 w
      rw [List.map_cons, PyData.depthAll]
      omega
  have := d2 ws
  rw [PyData.depth]
  omega
theorem shape_all {ws : List Tok.W} : SeqAt.shaped (.list (ws.map dW)) = ws.all (fun w => (dVal w.2.1).canLay0) := by
  unfold SeqAt.shaped
  have d1 : ∀ w : Tok.W, (dW w).depth ≤ 1 := fun w => by
    obtain ⟨k, v, p⟩ := w
    cases v <;> exact Nat.le_refl 1
  have d2 : ∀ ws : List Tok.W, PyData.depthAll (ws.map dW) ≤ 1 := fun ws => by
    induction ws with
    | nil => decide
    | cons w ws ih =>
      have := d1 w
      rw [List.map_cons, PyData.depthAll]
      omega
  have d3 : (PyData.list (ws.map dW)).depth ≤ 64 := by
    have := d2 ws
    rw [PyData.depth]
    omega
  rw [decide_eq_true d3, Bool.and_true]
  rw [PyData.canLay0]
  induction ws with
  | nil => rfl
  | cons w ws ih =>
    rw [List.map_cons, PyData.canLayAll0, List.all_cons, ih (by have := d2 ws; rw [PyData.depth]; omega)]
    congr 1
    obtain ⟨k, v, p⟩ := w
    cases k <;> simp [dW, PyData.canLay0, PyData.canLayAll0] <;> exact fun _ => by decide +kernel
theorem shape_shift {ws : List Tok.W} {k : Nat} (h : SeqAt.shaped (.list (ws.map dW)) = true) : SeqAt.shaped (.list ((ws.map (shiftOf k)).map dW)) = true := by
  rw [shape_all] at h ⊢
  rw [List.all_map]
  exact h
theorem shape_pair {ws : List Tok.W} (h : SeqAt.shaped (.list (ws.map dW)) = true) : SeqAt.shaped (.tuple [.list (ws.map dW), .str (Str.ofString "read")]) = true := by
  have hd := depth_words ws
  have hc := SeqAt.canLay_of_shaped h
  unfold SeqAt.shaped
  rw [Bool.and_eq_true]
  constructor
  · rw [PyData.canLay0, PyData.canLayAll0, hc]
    decide +kernel
  · have e : (PyData.tuple [.list (ws.map dW), .str (Str.ofString "read")]).depth = max (PyData.list (ws.map dW)).depth (max 0 0) + 1 := rfl
    rw [e]
    exact decide_eq_true (by omega)
theorem nd_none {L : List Nat} (h : ∀ c ∈ L, Tok.isDg c = false) : Nd L := fun q n a => by
  cases e : (L.drop q).take n with
  | nil => exact Nat.zero_le _
  | cons c r =>
    have hc : c ∈ (L.drop q).take n := by rw [e]; exact List.mem_cons_self
    have h1 := h c (List.mem_of_mem_drop (List.mem_of_mem_take hc))
    have h2 := List.all_eq_true.mp a c hc
    rw [h1] at h2
    cases h2
theorem nd_app {g s : List Nat} (hg : ∀ c ∈ g, Tok.isDg c = false) (hs : s.length ≤ 640) : Nd (g ++ s) := fun q n a => by
  by_cases hq : q < g.length
  · cases n with
    | zero => exact Nat.zero_le _
    | succ n =>
      have hlt : q < (g ++ s).length := by rw [List.length_append]; omega
      have e : (g ++ s)[q] = g[q] := List.getElem_append_left hq
      rw [List.drop_eq_getElem_cons hlt, List.take_succ_cons, List.all_cons, Bool.and_eq_true, e, hg _ (List.getElem_mem hq)] at a
      cases a.1
  · have h1 : ((g ++ s).drop q).length ≤ s.length := by rw [List.length_drop, List.length_append]; omega
    rw [List.length_take]
    omega
theorem gap_plain : ∀ (f : Nat) (l : List Nat) (n : Nat), 34 ∉ l → Tok.gap f l = .ok n → ∀ c ∈ l.take n, Tok.isDg c = false
  | 0, l, n, _, h => by cases h; intro c hc; cases hc
  | f + 1, [], n, _, h => by intro c hc; rw [List.take_nil] at hc; cases hc
  | f + 1, c :: l, n, h34, h => by
    rw [Tok.gap.eq_def] at h
    simp only [] at h
    split at h
    · rename_i hc
      split at h
      · rename_i m e
        cases h
        intro d hd
        rw [List.take_succ_cons] at hd
        rcases List.mem_cons.mp hd with rfl | hd
        · rcases hc with rfl | rfl <;> rfl
        · exact gap_plain f l m (fun z => h34 (List.mem_cons_of_mem _ z)) e d hd
      · cases h
    · split at h
      · rename_i hc
        exact absurd (by rw [hc]; exact List.mem_cons_self) h34
      · cases h
        intro d hd
        cases hd
theorem gap_no {g s : List Nat} (hg : Tok.IsGap g) (h : 34 ∉ g ++ s) : ∀ c ∈ g, Tok.isDg c = false := by
  have h1 := hg []
  rw [List.append_nil] at h1
  have h2 : Tok.gap g.length g = .ok (0 + g.length) := h1
  have := gap_plain g.length g (0 + g.length) (fun z => h (List.mem_append_left _ z)) h2
  rw [Nat.zero_add, List.take_length] at this
  exact this
theorem isSource_app {g l : List Nat} (hg : g.all (fun c => c == 10 || (32 ≤ c && c ≤ 126)) = true) (hl : Tok.isSource l = true) (h : g.length + l.length ≤ 2000) : Tok.isSource (g ++ l) = true := by
  unfold Tok.isSource at hl ⊢
  rw [Bool.and_eq_true] at hl
  rw [List.all_append, hg, hl.1, List.length_append, decide_eq_true h]
  rfl
section
variable {P : Program} {w : World} {K : PySem.W.Frag} {mg : Str → Option Value} {base : Heap}
/-- row_right(bag, row): True -/
def spRowRight (K : PySem.W.Frag) : Sp := fun vs H Q _ => ∃ (b r : Addr) (n : Nat) (row : List Nat × List Tok.W) (D : Hp), vs = [.ref b, .ref r] ∧ BagAt H b n ∧ n < 800000 ∧ Dp K D (.ref r) (dRow row) ∧ (∀ a o, D a = some o → H a = some o ∧ a ≠ b) ∧
  Tok.words row.1 = .ok row.2 ∧ Tok.isSource row.1 = true ∧ row.1.length ≤ 20 ∧ row.2.length ≤ 100 ∧ SeqAt.shaped (.list (row.2.map dW)) = true ∧ ∀ H', Went b (n + 2) H H' → Q (.bl true) H'
theorem sc_law_row_right : FnScope ["_law_bag_here", "_law_row", "_law_ahead_here", "_law_moved", "_law_found", "_law_kind", "_law_value", "_law_place", "_law_word"] ["_law_bag_here", "_law_row"] (defScope s_law_row_right) := ⟨rfl, rfl, rfl, by decide +kernel, rfl, by decide +kernel, by decide +kernel⟩
theorem ok_row_right {f fA fO fW C : Addr} {fd fdA fdO : FuncData} (F : FnP K "_law_row_right" s_law_row_right f fd)
    (G_law_ahead : FnOk P w K mg base CX0 4 fA fdA ["_law_bag_here"] spAhead) (g_law_ahead : mg "_law_ahead" = some (.ref fA)) (k_law_ahead : PySem.W.keepIn K (.ref fA) = true) (b_law_ahead : Binds K fdA ["_law_bag_here"] [])
    (G_law_told : FnOk P w K mg base CX0 21 fO fdO ["_law_text"] (spTold K)) (g_law_told : mg "_law_told" = some (.ref fO)) (k_law_told : PySem.W.keepIn K (.ref fO) = true) (b_law_told : Binds K fdO ["_law_text"] [])
    (g_len : mg "len" = none) (g_all : mg "all" = none) (g_isinstance : mg "isinstance" = none) (g_tuple : mg "tuple" = none) :
    FnOk P w K mg base CX0 25 f fd ["_law_bag_here", "_law_row"] (spRowRight K) := by
  refine F.ok sc_law_row_right (fun vs H Q E h => ?_) (fun cdv A outer s H vs Q E hr h => ⟨_, PSs.nox
    (pss_cons (ps_set (i := 2) sc_law_row_right.nd rfl (Or.inr rfl) (pe_call G_law_ahead (hr.mono (by decide)) rfl g_law_ahead k_law_ahead b_law_ahead .nil pass0 (pa_cons (pv 0) pa_nil)))
      (pss_cons (ps_setLc (i := 3) (own := [("_law_kind", 5), ("_law_value", 6), ("_law_place", 7)]) rfl sc_law_row_right.nd rfl rfl (sw_true rfl rfl rfl (by decide +kernel)) (pi_list (pe_ix ix_tup (pv 1) pe_int (fun _ _ => rfl))) (blkOk_by (own := [("_law_kind", 5), ("_law_value", 6), ("_law_place", 7)]) (N := ["_law_bag_here", "_law_row", "_law_ahead_here", "_law_moved", "_law_found", "_law_kind", "_law_value", "_law_place", "_law_word"]) (sc := defScope s_law_row_right) (by decide +kernel)) (fun _ _ _ _ _ => by (exact pg_tupK (K := K) (n := 3) rfl rfl (pgs_cons (pg_name (i := 5) sc_law_row_right.nd rfl (Or.inl rfl)) (pgs_cons (pg_name (i := 6) sc_law_row_right.nd rfl (Or.inl rfl)) (pgs_cons (pg_name (i := 7) sc_law_row_right.nd rfl (Or.inl rfl)) pgs_nil))))) (fun _ _ _ _ _ => by exact pts_nil) (fun _ _ _ _ _ => by exact (pe_tup (pa_cons (pv 5) (pa_cons (pv 6) (pa_cons (pe_op op_add (pv 7) (pe_callB call_len_str (by rfl) g_len PySem.boot_len (pa_cons (pv 2) pa_nil))) pa_nil))))))
      (pss_cons (ps_set (i := 4) sc_law_row_right.nd rfl (Or.inl rfl) (pe_call G_law_told (hr.mono (by decide)) rfl g_law_told k_law_told b_law_told .nil pass0 (pa_cons (pe_op op_addS (pv 2) (pe_ix ix_tup (pv 1) pe_int (fun _ _ => rfl))) pa_nil)))
      (pss_one (ps_ret (pe_and (pe_cmpR (op_eqD hr.units) (pv 4) (pe_tup (pa_cons (pv 3) (pa_cons pe_str pa_nil))) (nomark _)) (pe_one (pe_callB (cr_all rfl) (by rfl) g_all (by decide +kernel) (pa_cons (pe_lc (own := [("_law_word", 8)]) rfl sc_law_row_right.nd (pi_list (pe_ix ix_tup (pv 4) pe_int (fun _ _ => rfl))) (blkOk_by (own := [("_law_word", 8)]) (N := ["_law_bag_here", "_law_row", "_law_ahead_here", "_law_moved", "_law_found", "_law_kind", "_law_value", "_law_place", "_law_word"]) (sc := defScope s_law_row_right) (by decide +kernel)) (fun _ _ _ _ _ => by (exact (pg_name (i := 8) sc_law_row_right.nd rfl (Or.inl rfl)))) (fun _ _ _ _ _ => by exact pts_nil) (fun _ _ _ _ _ => by exact (pe_callB (call_isiK (K := K) rfl) (by rfl) g_isinstance (by decide +kernel) (pa_cons (pv 8) (pa_cons (pe_bltn (v := .ty "tuple") (u := .type "tuple") (by rfl) g_tuple (by decide +kernel) rfl) pa_nil))))) pa_nil))))))))), ?_⟩)
  · obtain ⟨b, r, n, row, D, rfl, _⟩ := h
    rfl
  · obtain ⟨b, r, n, row, D, rfl, hb, hn, hr0, hD, hw, hs, hl, hl2, hsh, q⟩ := h
    unfold dRow at hr0
    obtain ⟨l, vs, hT, hL, hA⟩ : ∃ l vs, SqT K D r [.str (strOf row.1), .ref l] ∧ SqL K D l vs ∧ DpAll K D vs (row.2.map dW) := by
      cases hr0 with
      | tup hT ha =>
        cases ha with
        | cons h1 h2 =>
          cases h1
          cases h2 with
          | cons h3 h4 =>
            cases h4
            cases h3 with
            | lst hL hA => exact ⟨_, _, hT, hL, hA⟩
    refine ⟨_, rfl, b, n, rfl, hb, by omega, fun z H1 hg ha hz W1 => ?_⟩
    have sD : Same D H1 := W1.not hD
    have zl : z.length = (codesOf z).length := rfl
    have zs : z.length ≤ sizeLine := Nat.le_trans (by omega : z.length ≤ 1400) (by decide)
    refine ⟨_, rfl, _, _, _, _, rfl, rfl, SqT.mono sD hT, rfl, l, rfl, ⟨_, SqL.mono sD hL⟩, fun Dn nDn => ?_⟩
    refine lc_list (K := K) (a := l) (xs := vs) (fun i H' => Rows K H1 H' Dn (((row.2.take i).map (shiftOf (codesOf z).length)).map dW)) (Rows.nil nDn) (fun i H' _ R => SqL.mono (sD.trans R.old) hL) ?hs ?hd
    case hs =>
      intro i x H' hx R
      obtain ⟨d, hd, hDp⟩ := dpAll_get hA hx
      obtain ⟨w', hw', rfl⟩ : ∃ w', row.2[i]? = some w' ∧ d = dW w' := by
        rw [List.getElem?_map] at hd
        cases e : row.2[i]? with
        | none => rw [e] at hd; cases hd
        | some w' => rw [e] at hd; exact ⟨w', rfl, (Option.some.inj hd).symm⟩
      obtain ⟨t, rfl, hTt⟩ := dp_word hDp
      refine ⟨t, _, rfl, SqT.mono (sD.trans R.old) hTt, rfl, ?_⟩
      refine ⟨_, _, rfl, _, _, rfl, _, _, rfl, rfl, rfl, tyes ?_⟩
      refine ⟨_, rfl, _, rfl, _, rfl, _, rfl, _, rfl, zs, _, _, rfl, rfl, (by show 3 ≤ sizeLine; decide), fun p np => ?_⟩
      have pt : Part (upd (fun _ => none) p (.tup [.str (kdS w'.1), valV w'.2.1, .int ((w'.2.2 : Int) + (z.length : Int))])) H' (upd H' p (.tup [.str (kdS w'.1), valV w'.2.1, .int ((w'.2.2 : Int) + (z.length : Int))])) :=
        part_upd (Same.refl H') part_nil np
      have hdw : Dp K (upd (fun _ => none) p (.tup [.str (kdS w'.1), valV w'.2.1, .int ((w'.2.2 : Int) + (z.length : Int))])) (.ref p) (dW (shiftOf (codesOf z).length w')) := by
        unfold dW shiftOf
        refine .tup (SqT.of upd_same) (.cons (.str _) (.cons (val_dp _) (.cons ?_ .nil)))
        have e : ((w'.2.2 + (codesOf z).length : Nat) : Int) = (w'.2.2 : Int) + (z.length : Int) := by rw [zl]; exact Int.natCast_add _ _
        show Dp K _ _ (.int ((w'.2.2 + (codesOf z).length : Nat) : Int))
        rw [e]
        exact .int _
      obtain ⟨acc, hac, hlen, R'⟩ := R.more (fun b o q => by rw [upd_ne (ne_of_none q np)]; exact q) pt hdw
      refine ⟨acc, hac, ?_, ?_⟩
      · rw [hlen]
        refine Nat.lt_of_le_of_lt (?_ : _ ≤ 1000) (by decide)
        simp
        omega
      · have e : row.2.take (i + 1) = row.2.take i ++ [w'] := by rw [List.take_succ, hw']; rfl
        rw [e, List.map_append, List.map_append]
        exact R'
    case hd =>
      intro H2 R2
      have e2 : vs.length = row.2.length := by rw [dpAll_length hA, List.length_map]
      rw [e2, List.take_length] at R2
      have sD2 := sD.trans R2.old
      have bagH : ∀ {H' : Hp}, Same H2 H' → Went b (n + 2) H H' := fun e => W1.same (R2.old.trans e)
      have hz : z.length + (strOf row.1).length ≤ sizeLine := Nat.le_trans (show (codesOf z).length + row.1.length ≤ 2000 by omega) (by decide)
      have src : Tok.isSource (codesOf (z ++ strOf row.1)) = true := by
        rw [codes_app, codes_strOf]
        exact isSource_app ha hs (by omega)
      have wds : Tok.words (codesOf (z ++ strOf row.1)) = .ok (row.2.map (shiftOf (codesOf z).length)) := by
        rw [codes_app, codes_strOf, Tok.words_gap hg, hw]
        rfl
      refine ⟨_, rfl, _, rfl, _, _, _, _, rfl, rfl, SqT.mono sD2 hT, rfl, _, _, rfl, rfl, hz, _, rfl, .inl ⟨_, rfl, src, (fun h34 => by rw [codes_app, codes_strOf] at h34 ⊢; exact nd_app (gap_no hg h34) (by omega)), fun ws hws p qq H3 H4 R3 e4 nq hq => ?_, fun m hm => ?_⟩⟩
      · rw [wds] at hws
        cases hws
        have e34 : Same H3 H4 := e4
        have sD4 : Same H2 H4 := R3.old.trans e34
        refine ⟨_, rfl, _, rfl, (by show 2 ≤ sizeLine; decide), fun t nt => ?_⟩
        have s5 : Same H4 (upd H4 t (.tup [.ref Dn, .str (Str.ofString "read")])) := fun b o q => by rw [upd_ne (ne_of_none q nt)]; exact q
        have dp1 : Dp K (upd H4 t (.tup [.ref Dn, .str (Str.ofString "read")])) (.ref qq) (.tuple [.list ((row.2.map (shiftOf (codesOf z).length)).map dW), .str (Str.ofString "read")]) :=
          .tup (SqT.of (s5 _ _ hq)) (.cons (dp_mono (e34.trans s5) _ _ R3.dp) (.cons (.str _) .nil))
        have dp2 : Dp K (upd H4 t (.tup [.ref Dn, .str (Str.ofString "read")])) (.ref t) (.tuple [.list ((row.2.map (shiftOf (codesOf z).length)).map dW), .str (Str.ofString "read")]) :=
          .tup (SqT.of upd_same) (.cons (dp_mono (sD4.trans s5) _ _ R2.dp) (.cons (.str _) .nil))
        have sh : SeqAt.shaped (.tuple [.list ((row.2.map (shiftOf (codesOf z).length)).map dW), .str (Str.ofString "read")]) = true := shape_pair (shape_shift hsh)
        refine ⟨_, _, dp1, dp2, sh, sh, true, congrArg V.bl (SeqAt.eqv_refl _ (SeqAt.canLay_of_shaped sh)), iteT ?_⟩
        obtain ⟨us, D5, hp5, hA5, k5⟩ := R3.at_
        have hp6 : SqL K (upd H4 t (.tup [.ref Dn, .str (Str.ofString "read")])) p us := SqL.of (s5 _ _ (e34 _ _ hp5))
        refine ⟨_, rfl, _, _, _, _, rfl, rfl, SqT.of (s5 _ _ hq), rfl, p, rfl, ⟨_, hp6⟩, fun Da nDa => ?_⟩
        have s6 : Same (upd H4 t (.tup [.ref Dn, .str (Str.ofString "read")])) (upd (upd H4 t (.tup [.ref Dn, .str (Str.ofString "read")])) Da (.lst [])) := fun b o q => by rw [upd_ne (ne_of_none q nDa)]; exact q
        refine lc_list (K := K) (a := p) (xs := us) (fun i H' => H' Da = some (.lst ((List.replicate i true).map V.bl)) ∧ Same (upd H4 t (.tup [.ref Dn, .str (Str.ofString "read")])) H') ⟨upd_same, s6⟩ (fun i H' _ R => SqL.mono R.2 hp6) ?hs2 ?hd2
        case hs2 =>
          intro i x H' hx R
          obtain ⟨d, hd, hDp⟩ := dpAll_get hA5 hx
          obtain ⟨w', rfl⟩ : ∃ w', d = dW w' := by
            obtain ⟨w', _, e⟩ := List.mem_map.mp (List.mem_of_getElem? hd)
            exact ⟨w', e.symm⟩
          obtain ⟨y, rfl, hy⟩ := dp_word hDp
          have sy : Same D5 H' := fun a o q => R.2 _ _ (s5 _ _ (e34 _ _ (k5 a o q).1))
          refine ⟨rfl, tyes ?_⟩
          refine ⟨_, rfl, _, _, _, _, true, rfl, ClsV.ty _, ty_tuple (SqT.mono sy hy), kit_ty (by decide +kernel), ?_⟩
          refine ⟨_, R.1, ?_, ?_, ?_⟩
          · rw [List.length_map, List.length_replicate]
            have hi := (List.getElem?_eq_some_iff.mp hx).1
            have e1 : us.length = row.2.length := by rw [dpAll_length hA5, List.length_map, List.length_map]
            exact Nat.lt_of_le_of_lt (by omega : i ≤ 1000) (by decide)
          · rw [upd_same, List.replicate_succ', List.map_append]
            rfl
          · intro a o q
            have : a ≠ Da := ne_of_none q nDa
            rw [upd_ne this]
            exact R.2 a o q
        case hd2 =>
          intro H7 R
          refine ⟨Da, List.replicate us.length true, rfl, SqL.of R.1, ?_⟩
          have e : (List.replicate us.length true).all id = true := by simp
          rw [e]
          exact q _ (bagH (sD4.trans (s5.trans R.2)))
      · rw [wds] at hm
        cases hm
end
end My

end
section
set_option linter.all false
namespace Tok
theorem rep_one (n : Nat) (c : Nat) : rep n [c] = List.replicate n c := by
  induction n with
  | zero => rfl
  | succ n ih =>
    have e : rep (n + 1) [c] = [c] ++ rep n [c] := by simp [rep, List.replicate_succ]
    rw [e, ih, List.replicate_succ]
    rfl
theorem words_blank {c : Nat} (h : c = 32 ∨ c = 10) (n : Nat) : words (rep n [c]) = .ok [] := by
  have := words_gap (isGap_rep (isGap_blank h) n) []
  rw [List.append_nil] at this
  rw [this]
  rfl
theorem word_dot (b : Bool) (l : List Nat) (h : l = [] ∨ ∃ r, l = 46 :: r) : word b (46 :: l) = some (.sign, .s [46], 1) := by
  rcases h with rfl | ⟨r, rfl⟩
  · cases b <;> decide
  · unfold word
    simp only []
    rw [if_neg (by decide), if_neg (by decide), if_neg (by decide), if_neg (by decide), if_neg (by simp)]
    unfold other
    have e1 : listed ops (46 :: 46 :: r) = 0 := by
      unfold listed
      rw [if_neg (by show ¬ [46, 46] ∈ ops; decide), if_neg (by show ¬ [46] ∈ ops; decide)]
    have e2 : listed signs (46 :: 46 :: r) = 1 := by
      unfold listed
      rw [if_neg (by show ¬ [46, 46] ∈ signs; decide), if_pos (by show [46] ∈ signs; decide)]
      rfl
    rw [e1, e2, if_neg (by decide), if_pos (by decide)]
    rfl
theorem gap_other (f : Nat) (c : Nat) (l : List Nat) (h1 : c ≠ 32) (h2 : c ≠ 10) (h3 : c ≠ 34) : gap (f + 1) (c :: l) = .ok 0 := by
  unfold gap
  rw [if_neg (by simp [h1, h2]), if_neg h3]
theorem toks_dots : ∀ (n f p : Nat) (par : List Bool) (last : Option (Kd × Val)), n < f → ∃ ws, toks f (List.replicate n 46) p par last = .ok ws ∧ ws.length = n
  | 0, f + 1, p, par, last, _ => ⟨[], by unfold toks; simp [gap], rfl⟩
  | n + 1, f + 1, p, par, last, h => by
    obtain ⟨ws, e, hl⟩ := toks_dots n f (p + 0 + 1) (note par .sign (.s [46])) (some (.sign, .s [46])) (by omega)
    refine ⟨(.sign, .s [46], p + 0) :: ws, ?_, by simp [hl]⟩
    unfold toks
    rw [List.replicate_succ, List.length_cons, gap_other _ _ _ (by decide) (by decide) (by decide)]
    simp only [List.drop_zero]
    rw [if_neg (by simp), word_dot _ _ (by cases n with | zero => exact .inl rfl | succ n => exact .inr ⟨_, List.replicate_succ⟩)]
    simp only [Nat.zero_add, List.drop_succ_cons, List.drop_zero, e]
theorem words_dots (n : Nat) : ∃ ws, words (rep n [46]) = .ok ws ∧ ws.length = n := by
  rw [rep_one]
  unfold words
  rw [List.length_replicate]
  exact toks_dots n (n + 1) 0 [] none (by omega)
theorem strBody_rep {c : Nat} (hc : c ≠ 39) : ∀ (n f : Nat), n < f → strBody f (List.replicate n c ++ [39]) = some (List.replicate n c, n + 1)
  | 0, f + 1, _ => by simp [strBody]
  | n + 1, f + 1, h => by
    rw [List.replicate_succ, List.cons_append]
    unfold strBody
    rw [if_neg hc, strBody_rep hc n f (by omega)]
theorem words_string {c : Nat} (hc : c ≠ 39) (n : Nat) : words (39 :: (rep n [c] ++ [39])) = .ok [(.str, .s (rep n [c]), 0)] := by
  rw [rep_one]
  unfold words
  have hb : strBody (39 :: (List.replicate n c ++ [39])).length (List.replicate n c ++ [39]) = some (List.replicate n c, n + 1) := strBody_rep hc n _ (by simp; omega)
  have hw : word (binds [] none) (39 :: (List.replicate n c ++ [39])) = some (.str, .s (List.replicate n c), n + 2) := by
    unfold word
    simp only []
    rw [if_neg (by decide), if_neg (by decide), if_pos trivial, hb]
  rw [show (39 :: (List.replicate n c ++ [39])).length + 1 = (n + 2) + 1 by simp]
  unfold toks
  rw [List.length_cons, gap_other _ _ _ (by decide) (by decide) (by decide)]
  simp only [List.drop_zero]
  rw [if_neg (by simp), hw]
  simp only [Nat.zero_add]
  have hd : (39 :: (List.replicate n c ++ [39])).drop (n + 2) = [] := List.drop_eq_nil_of_le (by simp)
  rw [hd]
  unfold toks
  simp [gap]
end Tok

end
section
set_option Elab.async false
set_option linter.all false
set_option maxRecDepth 100000
set_option maxHeartbeats 2000000
namespace My
open PySem PySem.Spec PyProof.Rows L2
abbrev s_law_long_right : Stmt := top 52
section
variable {P : Program} {w : World} {K : PySem.W.Frag} {mg : Str → Option Value} {base : Heap}
def dsSign : List PyData := [.str " ", .str "\n", .str "."]
theorem iteB {b : Bool} {A B : Prop} (hb : b = false) (h : B) : if b = true then A else B := by subst hb; exact iteF h
theorem iteA {b : Bool} {A B : Prop} (hb : b = true) (h : A) : if b = true then A else B := by subst hb; exact iteT h
theorem strOf_codes (z : Str) : strOf (codesOf z) = z := by
  show (⟨z.cps.toList.toArray⟩ : Str) = z
  rw [Array.toArray_toList]
theorem rep_no {c n : Nat} (h : Tok.isDg c = false) : ∀ d ∈ Tok.rep n [c], Tok.isDg d = false := by
  have := rep_all (n := n) (p := fun d => !Tok.isDg d) (l := [c]) (by simp [h])
  intro d hd
  have := List.all_eq_true.mp this d hd
  simpa using this
/-- what the law needs of one of the three signs -/
structure Sign3 (z : Str) : Prop where
  ex : ∃ c ws, codesOf z = [c] ∧ c ≠ 39 ∧ (c == 10 || (32 ≤ c && c ≤ 126)) = true ∧ Tok.words (Tok.rep 2000 [c]) = .ok ws ∧ (ws.length : Int) = 2000 * (if decide (V.str z = V.str (Str.ofString ".")) = true then 1 else 0) ∧ Tok.isDg c = false
theorem sign_ok {d : PyData} (h : d ∈ dsSign) : ∃ z, d = .str z ∧ Sign3 z := by
  unfold dsSign at h
  simp only [List.mem_cons, List.not_mem_nil, or_false] at h
  rcases h with h | h | h <;> subst h
  · exact ⟨_, rfl, ⟨32, [], by decide +kernel, by decide, by decide, Tok.words_blank (.inl rfl) 2000, by decide +kernel, by decide⟩⟩
  · exact ⟨_, rfl, ⟨10, [], by decide +kernel, by decide, by decide, Tok.words_blank (.inr rfl) 2000, by decide +kernel, by decide⟩⟩
  · obtain ⟨ws, hw, hl⟩ := Tok.words_dots 2000
    refine ⟨_, rfl, ⟨46, ws, by decide +kernel, by decide, by decide, hw, ?_, by decide⟩⟩
    rw [hl]
    decide +kernel
theorem src_rep {c n : Nat} (h : (c == 10 || (32 ≤ c && c ≤ 126)) = true) (hn : n ≤ 2000) : Tok.isSource (Tok.rep n [c]) = true := by
  unfold Tok.isSource
  rw [rep_all (by simpa using h), rep_length]
  simpa using hn
theorem not_src {c n : Nat} (hn : 2000 < n) : Tok.isSource (Tok.rep n [c]) = false := by
  unfold Tok.isSource
  rw [rep_length]
  have : decide (n * [c].length ≤ 2000) = false := by simp; omega
  rw [this, Bool.and_false]
/-- long_right(bag): True -/
def spLong : Sp := fun vs H Q _ => ∃ (b : Addr) (n : Nat), vs = [.ref b] ∧ BagAt H b n ∧ n < 800000 ∧ ∀ H', Q (.bl true) H'
theorem sc_law_long_right : FnScope ["_law_bag_here", "_law_piece", "_law_found", "_law_place"] ["_law_bag_here"] (defScope s_law_long_right) := ⟨rfl, rfl, rfl, by decide +kernel, rfl, by decide +kernel, by decide +kernel⟩
theorem ok_long {f fK fO : Addr} {fd fdK fdO : FuncData} (F : FnP K "_law_long_right" s_law_long_right f fd)
    (G_law_pick : FnOk P w K mg base CX0 3 fK fdK ["_law_bag_here", "_law_things"] (spPick K)) (g_law_pick : mg "_law_pick" = some (.ref fK)) (k_law_pick : PySem.W.keepIn K (.ref fK) = true) (b_law_pick : Binds K fdK ["_law_bag_here", "_law_things"] [])
    (G_law_told : FnOk P w K mg base CX0 21 fO fdO ["_law_text"] (spTold K)) (g_law_told : mg "_law_told" = some (.ref fO)) (k_law_told : PySem.W.keepIn K (.ref fO) = true) (b_law_told : Binds K fdO ["_law_text"] [])
    (g_len : mg "len" = none) (g_int : mg "int" = none) :
    FnOk P w K mg base CX0 25 f fd ["_law_bag_here"] spLong := by
  refine F.ok sc_law_long_right (fun vs H Q E h => ?_) (fun cdv A outer s H vs Q E hr h => ⟨_, PSs.nox
    (pss_cons (ps_set (i := 1) sc_law_long_right.nd rfl (Or.inl rfl) (pe_call G_law_pick (hr.mono (by decide)) rfl g_law_pick k_law_pick b_law_pick .nil pass0 (pa_cons (pv 0) (pa_cons (pe_lst (pa_cons pe_str (pa_cons pe_str (pa_cons pe_str pa_nil)))) pa_nil))))
      (pss_cons (ps_asg (pe_call G_law_told (hr.mono (by decide)) rfl g_law_told k_law_told b_law_told .nil pass0 (pa_cons (pe_op op_rep_str (pv 1) pe_int) pa_nil)) (pg_tup rfl (pgs_cons (pg_name (i := 2) sc_law_long_right.nd rfl (Or.inl rfl)) (pgs_cons (pg_name (i := 3) sc_law_long_right.nd rfl (Or.inl rfl)) pgs_nil))))
      (pss_cons (ps_if (PW.pt (pw_or (pt_cmpR op_ne (pv 3) pe_str (nomark _)) (pw_or1 (pt_cmpR op_ne (pe_callB call_len_seq (by rfl) g_len PySem.boot_len (pa_cons (pv 2) pa_nil)) (pe_op op_mulW pe_int (pe_callTy call_int1 (by rfl) g_int (by decide +kernel) (pa_cons (pe_cmpR op_eq (pv 1) pe_str (nomark _)) pa_nil))) (nomark _))))) (pss_one (ps_ret pe_bl)) pss_nil)
      (pss_one (ps_ret (pe_and (pe_cmpR (op_eqD hr.units) (pe_call G_law_told (hr.mono (by decide)) rfl g_law_told k_law_told b_law_told .nil pass0 (pa_cons (pe_op op_rep_str (pv 1) pe_int) pa_nil)) (pe_tup (pa_cons pe_non (pa_cons (pe_un un_neg pe_int) pa_nil))) (nomark _)) (pe_one (pe_cmpR (op_eqD hr.units) (pe_ix ix_tup (pe_call G_law_told (hr.mono (by decide)) rfl g_law_told k_law_told b_law_told .nil pass0 (pa_cons (pe_op op_addS (pe_op op_addS pe_str (pe_op op_rep_str (pv 1) pe_int)) pe_str) pa_nil)) pe_int (fun _ _ => rfl)) (pe_lst (pa_cons (pe_tup (pa_cons pe_str (pa_cons (pe_op op_rep_str (pv 1) pe_int) (pa_cons pe_int pa_nil)))) pa_nil)) (nomark _))))))))), ?_⟩)
  · obtain ⟨b, n, rfl, _⟩ := h
    rfl
  · obtain ⟨b, n, rfl, hb, hn, q⟩ := h
    refine pick_lst (K := K) (ds := dsSign) rfl hb (by omega) ?e1 (by decide) (by decide) fun d v D H1 hd hv hD W1 => ?_
    case e1 => (repeat' (first | exact evds_nil | exact evd_int | exact evd_str | refine evds_cons ?_ ?_))
    obtain ⟨z, rfl, ⟨c, ws, hz, hc, hp, hw, hN, hdg⟩⟩ := sign_ok hd
    cases hv
    have zl : z.length = 1 := by show (codesOf z).length = 1; rw [hz]; rfl
    have cm : ∀ m : Int, 0 ≤ m → codesOf (Txt.mul z m) = Tok.rep m.toNat [c] := fun m h => by rw [codes_mul z m h, hz]
    refine ⟨_, rfl, z, 2000, rfl, rfl, by decide, by decide, by rw [zl]; decide, _, rfl, .inl ⟨_, rfl, ?src, ?nd, fun ws' hws p qq H2 H3 R2 e2 nq hq => ?ok, fun m hm => ?er⟩⟩
    case src => rw [cm 2000 (by decide)]; exact src_rep hp (by decide)
    case nd => rw [cm 2000 (by decide)]; exact fun _ => nd_none (rep_no hdg)
    case er =>
      rw [cm 2000 (by decide)] at hm
      have := hw.symm.trans hm
      cases this
    case ok =>
      rw [cm 2000 (by decide)] at hws
      have := hw.symm.trans hws
      cases this
      obtain ⟨us, D2, hp2, hA2, k2⟩ := R2.at_
      have hul : us.length = ws.length := by rw [dpAll_length hA2, List.length_map]
      refine ⟨qq, _, rfl, SqT.of hq, rfl, _, _, rfl, _, _, rfl, rfl, ?_⟩
      refine ⟨_, rfl, rfl, _, rfl, iteB (by simp) ?_⟩
      refine ⟨_, rfl, p, us, rfl, .inl (SqL.of (e2 _ _ hp2)), ?_⟩
      refine ⟨_, rfl, rfl, .inr ⟨_, rfl, _, _, rfl, rfl, wide_mul (a := 20) (b := 20) (by decide) (by split <;> decide) (by decide) (by decide) (by decide), rfl, _, rfl, iteB ?_ ?_⟩⟩
      · rw [hul]
        have e : (V.int (ws.length : Int)) = V.int (2000 * (if decide (V.str z = V.str (Str.ofString ".")) = true then 1 else 0)) := congrArg V.int hN
        rw [e]
        simp
      · -- told(piece * 2001) == (None, -1)
        refine ⟨_, rfl, z, 2001, rfl, rfl, by decide, by decide, by rw [zl]; decide, _, rfl, .inr ⟨.inl ⟨_, rfl, by rw [cm 2001 (by decide)]; exact not_src (by decide), (by have e := congrArg List.length (cm 2001 (by decide)); show Array.size _ ≤ _; rw [← Array.length_toList]; exact Nat.le_trans (Nat.le_of_eq (e.trans (rep_length _ _))) (by show 2001 * 1 ≤ 16777216; decide))⟩, fun q4 H4 s4 n4 h4 => ?_⟩⟩
        refine ⟨_, rfl, (by show 2 ≤ sizeLine; decide), fun t nt => ?_⟩
        refine ⟨.tuple [.none, .int (-1)], .tuple [.none, .int (-1)], .tup (SqT.of (by rw [upd_ne (ne_of_none h4 nt)]; exact h4)) (.cons .non (.cons (.int _) .nil)), .tup (SqT.of upd_same) (.cons .non (.cons (.int _) .nil)), by decide, by decide, true, by decide, iteT ?_⟩
        refine ⟨_, rfl, z, 1998, rfl, rfl, by decide, by decide, by rw [zl]; decide, ?_⟩
        have ml : (Txt.mul z 1998).length = 1998 := by
          show (codesOf (Txt.mul z 1998)).length = 1998
          rw [cm 1998 (by decide), rep_length]
          rfl
        have l1 : (Str.ofString "'").length = 1 := by decide +kernel
        have cs : codesOf ((Str.ofString "'" ++ Txt.mul z 1998) ++ Str.ofString "'") = 39 :: (Tok.rep 1998 [c] ++ [39]) := by
          rw [codes_app, codes_app, cm 1998 (by decide)]
          have e : codesOf (Str.ofString "'") = [39] := by decide +kernel
          rw [e]
          rfl
        have al : (Str.ofString "'" ++ Txt.mul z 1998).length = 1999 := by
          show (codesOf (Str.ofString "'" ++ Txt.mul z 1998)).length = 1999
          rw [codes_app, List.length_append]
          show (Str.ofString "'").length + (Txt.mul z 1998).length = 1999
          rw [l1, ml]
        refine ⟨_, _, rfl, rfl, (by rw [l1, ml]; decide), _, _, rfl, rfl, (by rw [al, l1]; decide), _, rfl, .inl ⟨_, rfl, ?s5, ?n5, fun ws5 hw5 p5 q5 H5 H6 R5 e5 n5 h5 => ?o5, fun m hm => ?x5⟩⟩
        case s5 =>
          rw [cs]
          have := src_rep (c := c) (n := 1998) hp (by decide)
          unfold Tok.isSource at this ⊢
          rw [Bool.and_eq_true] at this
          rw [List.all_cons, List.all_append, this.1]
          simp [rep_length]
        case n5 =>
          rw [cs]
          refine fun _ => nd_none fun d hd => ?_
          rcases List.mem_cons.mp hd with rfl | hd
          · rfl
          rcases List.mem_append.mp hd with hd | hd
          · exact rep_no hdg d hd
          · rw [List.mem_singleton.mp hd]; rfl
        case x5 =>
          rw [cs] at hm
          have := (Tok.words_string hc 1998).symm.trans hm
          cases this
        case o5 =>
          rw [cs] at hw5
          have := (Tok.words_string hc 1998).symm.trans hw5
          cases this
          refine ⟨_, _, _, _, rfl, rfl, SqT.of h5, rfl, ?_⟩
          refine ⟨_, rfl, z, 1998, rfl, rfl, by decide, by decide, by rw [zl]; decide, (by show 3 ≤ sizeLine; decide), fun t6 n6 => ⟨(by show 1 ≤ sizeLine; decide), fun t7 n7 => ?_⟩⟩
          have e1 : dW (.str, .s (Tok.rep 1998 [c]), 0) = .tuple [.str (Str.ofString "str"), .str (Txt.mul z 1998), .int 0] := by
            show PyData.tuple [.str (Str.ofString "str"), .str (strOf (Tok.rep 1998 [c])), .int 0] = _
            have : strOf (Tok.rep 1998 [c]) = Txt.mul z 1998 := by
              rw [show Tok.rep 1998 [c] = codesOf (Txt.mul z 1998) from (cm 1998 (by decide)).symm, strOf_codes]
            rw [this]
          have sh : SeqAt.shaped (.list ([(Tok.Kd.str, Tok.Val.s (Tok.rep 1998 [c]), 0)].map dW)) = true := by
            rw [shape_all]
            rw [List.all_cons, List.all_nil, Bool.and_true]
            show (strOf (Tok.rep 1998 [c])).cps.all (fun x => decide (x < 0x110000)) = true
            rw [← Array.all_toList]
            show (Tok.rep 1998 [c]).all (fun x => decide (x < 0x110000)) = true
            have hc2 : c < 0x110000 := by
              simp at hp
              omega
            exact rep_all (by simpa using hc2) _
          have s67 : Same H5 (upd (upd H6 t6 (.tup [.str (Str.ofString "str"), .str (Txt.mul z 1998), .int 0])) t7 (.lst [.ref t6])) := fun b o q => by
            have := e5 b o q
            have c6 := ne_of_none this n6
            have h6 : (upd H6 t6 (.tup [.str (Str.ofString "str"), .str (Txt.mul z 1998), .int 0])) b = some o := by rw [upd_ne c6]; exact this
            rw [upd_ne (ne_of_none h6 n7)]
            exact h6
          have h7 : (upd (upd H6 t6 (.tup [.str (Str.ofString "str"), .str (Txt.mul z 1998), .int 0])) t7 (.lst [.ref t6])) t6 = some (.tup [.str (Str.ofString "str"), .str (Txt.mul z 1998), .int 0]) := by
            rw [upd_ne (ne_of_none upd_same n7), upd_same]
          refine ⟨_, _, dp_mono s67 _ _ R5.dp, .lst (SqL.of upd_same) (.cons (d := dW (.str, .s (Tok.rep 1998 [c]), 0)) ?_ .nil), sh, sh, ?_⟩
          · rw [e1]
            exact .tup (SqT.of h7) (.cons (.str _) (.cons (.str _) (.cons (.int _) .nil)))
          · have e := SeqAt.eqv_refl _ (SeqAt.canLay_of_shaped sh)
            have e' : PyData.eqv (.list ([(Tok.Kd.str, Tok.Val.s (Tok.rep 1998 [c]), 0)].map dW)) (.list [dW (.str, .s (Tok.rep 1998 [c]), 0)]) = true := e
            rw [e']
            exact q _
end
end My

end
section
set_option Elab.async false
set_option linter.all false
set_option maxRecDepth 100000
set_option maxHeartbeats 2000000
namespace My
open PySem PySem.Spec PyProof.Rows L2
abbrev s_law_right : Stmt := top 53
section
variable {P : Program} {w : World} {K : PySem.W.Frag} {mg : Str → Option Value} {base : Heap}
theorem pick_rows {H0 H : Hp} {b L : Addr} {n : Nat} {ds : List PyData} {Q : VK} {E : XK} (R : Rows K H0 H L ds) (hb : BagAt H b n) (hn : n < 1000000) (hb0 : H0 b ≠ none) (h0 : 0 < ds.length) (hl : ds.length ≤ 1000)
    (q : ∀ d v D H', d ∈ ds → Dp K D v d → (∀ a o, D a = some o → H' a = some o ∧ a ≠ b ∧ H0 a = none) → Went b (n + 1) H H' → Q v H') : spPick K [.ref b, .ref L] H Q E := by
  obtain ⟨x, y, z, hbb, hB⟩ := hb
  obtain ⟨vs, D, hL, hD, k⟩ := R.at_
  have hbL : L ≠ b := fun e => hb0 (e ▸ R.new)
  have hlen := dpAll_length hD
  refine ⟨b, n, x, y, z, hbb, hB, hn, .inl ⟨L, vs, rfl, .inl fun x' y' z' => SqL.of (by rw [upd_ne hbL]; exact hL), by omega, by omega, fun j v x' y' z' hv hB' => ?_⟩⟩
  obtain ⟨d, hd, hDp⟩ := dpAll_get hD hv
  refine q d v D _ (List.mem_of_getElem? hd) hDp (fun a o e => ?_) ⟨⟨x', y', z', upd_same, hB'⟩, fun a o c e => by rw [upd_ne c]; exact e⟩
  obtain ⟨k1, k2, k3⟩ := k a o e
  have c : a ≠ b := fun e2 => hb0 (e2 ▸ k3)
  exact ⟨by rw [upd_ne c]; exact k1, c, k3⟩
theorem call_pick {σ : L2.St} {H : Hp} {Q : VK} {b : Addr} {i : Nat} {te : TE} (hi : σ[i]? = some (some (.ref b))) (h : te σ H (fun v H1 => spPick K [.ref b, v] H1 Q E0)) : tCall (spPick K) [] E0 (tCons (tVar i) (tCons te tNil)) σ H Q := ⟨_, hi, h⟩
theorem call_rows {σ : L2.St} {H : Hp} {Q : VK} {ds : List PyData} (h : ∀ L H', Rows K H H' L ds → Q (.ref L) H') : tCall (spRows K ds) [] E0 tNil σ H Q := ⟨rfl, h⟩
def goodRow (r : List Nat × List Tok.W) : Bool := decide (Tok.words r.1 = .ok r.2) && (decide (r.1.length ≤ 20) && Tok.isSource r.1) && (decide (r.2.length ≤ 100) && SeqAt.shaped (.list (r.2.map dW)))
theorem good_names : Tok.m_names.all goodRow = true := by decide +kernel
theorem good_strings : Tok.m_strings.all goodRow = true := by decide +kernel
theorem good_numbers : Tok.m_numbers.all goodRow = true := by decide +kernel
theorem good_arrays : Tok.m_arrays.all goodRow = true := by decide +kernel
theorem row_of {m : List (List Nat × List Tok.W)} (h : m.all goodRow = true) {d : PyData} (hd : d ∈ m.map dRow) : ∃ r, d = dRow r ∧ goodRow r = true := by
  obtain ⟨r, hr, e⟩ := List.mem_map.mp hd
  exact ⟨r, e.symm, List.all_eq_true.mp h r hr⟩
theorem row_all {d : PyData} (hd : d ∈ Tok.m_names.map dRow ++ Tok.m_strings.map dRow ++ Tok.m_numbers.map dRow ++ Tok.m_arrays.map dRow) : ∃ r, d = dRow r ∧ goodRow r = true := by
  rcases List.mem_append.mp hd with hd | hd
  · rcases List.mem_append.mp hd with hd | hd
    · rcases List.mem_append.mp hd with hd | hd
      · exact row_of good_names hd
      · exact row_of good_strings hd
    · exact row_of good_numbers hd
  · exact row_of good_arrays hd
def goodBad (r : List Nat × Nat) : Bool := decide (Tok.words r.1 = .error r.2) && (decide (r.1.length ≤ 70) && Tok.isSource r.1)
theorem good_bad : Tok.m_bad.all goodBad = true := by decide +kernel
theorem bad_of {d : PyData} (hd : d ∈ Tok.m_bad.map dBad) : ∃ r, d = dBad r ∧ goodBad r = true := by
  obtain ⟨r, hr, e⟩ := List.mem_map.mp hd
  exact ⟨r, e.symm, List.all_eq_true.mp good_bad r hr⟩
theorem Rows.bag {H0 H : Hp} {b L : Addr} {n : Nat} {ds : List PyData} (R : Rows K H0 H L ds) (hb : BagAt H0 b n) : BagAt H b n := by
  obtain ⟨x, y, z, h, hB⟩ := hb
  exact ⟨x, y, z, R.old b _ h, hB⟩
theorem BagAt.some {H : Hp} {b : Addr} {n : Nat} (h : BagAt H b n) : H b ≠ none := by
  obtain ⟨x, y, z, h, _⟩ := h
  rw [h]
  exact fun e => by cases e
/-- right(bag): True -/
def spRight : Sp := fun vs H Q _ => ∃ (b : Addr) (n : Nat), vs = [.ref b] ∧ BagAt H b n ∧ n < 700000 ∧ ∀ m H', Went b m H H' → Q (.bl true) H'
theorem sc_law_right : FnScope ["_law_bag_here", "_law_rows", "_law_text", "_law_place", "_law_ahead_here", "_law_things"] ["_law_bag_here"] (defScope s_law_right) := ⟨rfl, rfl, rfl, by decide +kernel, rfl, by decide +kernel, by decide +kernel⟩
theorem ok_right {f fK fO fA fR f1 f2 f3 f4 f5 : Addr} {fd fdK fdO fdA fdR fd1 fd2 fd3 fd4 fd5 : FuncData} (F : FnP K "_law_right" s_law_right f fd)
    (G_law_pick : FnOk P w K mg base CX0 3 fK fdK ["_law_bag_here", "_law_things"] (spPick K)) (g_law_pick : mg "_law_pick" = some (.ref fK)) (k_law_pick : PySem.W.keepIn K (.ref fK) = true) (b_law_pick : Binds K fdK ["_law_bag_here", "_law_things"] [])
    (G_law_told : FnOk P w K mg base CX0 21 fO fdO ["_law_text"] (spTold K)) (g_law_told : mg "_law_told" = some (.ref fO)) (k_law_told : PySem.W.keepIn K (.ref fO) = true) (b_law_told : Binds K fdO ["_law_text"] [])
    (G_law_ahead : FnOk P w K mg base CX0 4 fA fdA ["_law_bag_here"] spAhead) (g_law_ahead : mg "_law_ahead" = some (.ref fA)) (k_law_ahead : PySem.W.keepIn K (.ref fA) = true) (b_law_ahead : Binds K fdA ["_law_bag_here"] [])
    (G_law_row_right : FnOk P w K mg base CX0 25 fR fdR ["_law_bag_here", "_law_row"] (spRowRight K)) (g_law_row_right : mg "_law_row_right" = some (.ref fR)) (k_law_row_right : PySem.W.keepIn K (.ref fR) = true) (b_law_row_right : Binds K fdR ["_law_bag_here", "_law_row"] [])
    (G_law_names : FnOk P w K mg base CX0 2 f1 fd1 [] (spRows K (Tok.m_names.map dRow))) (g_law_names : mg "_law_names" = some (.ref f1)) (k_law_names : PySem.W.keepIn K (.ref f1) = true) (b_law_names : Binds K fd1 [] [])
    (G_law_strings : FnOk P w K mg base CX0 2 f2 fd2 [] (spRows K (Tok.m_strings.map dRow))) (g_law_strings : mg "_law_strings" = some (.ref f2)) (k_law_strings : PySem.W.keepIn K (.ref f2) = true) (b_law_strings : Binds K fd2 [] [])
    (G_law_numbers : FnOk P w K mg base CX0 2 f3 fd3 [] (spRows K (Tok.m_numbers.map dRow))) (g_law_numbers : mg "_law_numbers" = some (.ref f3)) (k_law_numbers : PySem.W.keepIn K (.ref f3) = true) (b_law_numbers : Binds K fd3 [] [])
    (G_law_arrays : FnOk P w K mg base CX0 2 f4 fd4 [] (spRows K (Tok.m_arrays.map dRow))) (g_law_arrays : mg "_law_arrays" = some (.ref f4)) (k_law_arrays : PySem.W.keepIn K (.ref f4) = true) (b_law_arrays : Binds K fd4 [] [])
    (G_law_bad : FnOk P w K mg base CX0 2 f5 fd5 [] (spRows K (Tok.m_bad.map dBad))) (g_law_bad : mg "_law_bad" = some (.ref f5)) (k_law_bad : PySem.W.keepIn K (.ref f5) = true) (b_law_bad : Binds K fd5 [] [])
    (g_len : mg "len" = none) :
    FnOk P w K mg base CX0 30 f fd ["_law_bag_here"] spRight := by
  refine F.ok sc_law_right (fun vs H Q E h => ?_) (fun cdv A outer s H vs Q E hr h => ⟨_, PSs.nox
    (pss_cons (ps_set (i := 1) sc_law_right.nd rfl (Or.inl rfl) (pe_op op_cat (pe_op op_cat (pe_op op_cat (pe_call0 G_law_names (hr.mono (by decide)) (by rfl) g_law_names k_law_names b_law_names .nil pass0) (pe_call0 G_law_strings (hr.mono (by decide)) (by rfl) g_law_strings k_law_strings b_law_strings .nil pass0)) (pe_call0 G_law_numbers (hr.mono (by decide)) (by rfl) g_law_numbers k_law_numbers b_law_numbers .nil pass0)) (pe_call0 G_law_arrays (hr.mono (by decide)) (by rfl) g_law_arrays k_law_arrays b_law_arrays .nil pass0)))
      (pss_cons (ps_if (pt_not (pt_val (pe_call G_law_row_right (hr.mono (by decide)) rfl g_law_row_right k_law_row_right b_law_row_right .nil pass0 (pa_cons (pv 0) (pa_cons (pe_call G_law_pick (hr.mono (by decide)) rfl g_law_pick k_law_pick b_law_pick .nil pass0 (pa_cons (pv 0) (pa_cons (pv 1) pa_nil))) pa_nil))))) (pss_one (ps_ret pe_bl)) pss_nil)
      (pss_cons (ps_asg (pe_call G_law_pick (hr.mono (by decide)) rfl g_law_pick k_law_pick b_law_pick .nil pass0 (pa_cons (pv 0) (pa_cons (pe_call0 G_law_bad (hr.mono (by decide)) (by rfl) g_law_bad k_law_bad b_law_bad .nil pass0) pa_nil))) (pg_tup rfl (pgs_cons (pg_name (i := 2) sc_law_right.nd rfl (Or.inl rfl)) (pgs_cons (pg_name (i := 3) sc_law_right.nd rfl (Or.inl rfl)) pgs_nil))))
      (pss_cons (ps_set (i := 4) sc_law_right.nd rfl (Or.inl rfl) (pe_call G_law_ahead (hr.mono (by decide)) rfl g_law_ahead k_law_ahead b_law_ahead .nil pass0 (pa_cons (pv 0) pa_nil)))
      (pss_cons (ps_if (pt_cmpR (op_neD hr.units) (pe_call G_law_told (hr.mono (by decide)) rfl g_law_told k_law_told b_law_told .nil pass0 (pa_cons (pe_op op_addS (pv 4) (pv 2)) pa_nil)) (pe_tup (pa_cons pe_non (pa_cons (pe_op op_add (pv 3) (pe_callB call_len_str (by rfl) g_len PySem.boot_len (pa_cons (pv 4) pa_nil))) pa_nil))) (nomark _)) (pss_one (ps_ret pe_bl)) pss_nil)
      (pss_cons (ps_set (i := 5) sc_law_right.nd rfl (Or.inl rfl) (pe_lst (pa_cons pe_non (pa_cons pe_int (pa_cons pe_bl (pa_cons (pe_lst (pa_cons pe_str pa_nil)) (pa_cons (pe_tup (pa_cons pe_str pa_nil)) (pa_cons (pe_disp (pps_cons pe_str pe_int pps_nil) (by rfl) (by rfl) (fun z => by cases z) (by decide)) (pa_cons pe_str (pa_cons pe_str (pa_cons pe_str (pa_cons (pe_op op_pow pe_int pe_int) (pa_cons (pe_tup (pa_cons pe_str (pa_cons pe_int pa_nil))) pa_nil)))))))))))))
      (pss_one (ps_ret (pe_cmpR (op_eqD hr.units) (pe_call G_law_told (hr.mono (by decide)) rfl g_law_told k_law_told b_law_told .nil pass0 (pa_cons (pe_call G_law_pick (hr.mono (by decide)) rfl g_law_pick k_law_pick b_law_pick .nil pass0 (pa_cons (pv 0) (pa_cons (pv 5) pa_nil))) pa_nil)) (pe_tup (pa_cons pe_non (pa_cons (pe_un un_neg pe_int) pa_nil))) (nomark _)))))))))), ?_⟩)
  · obtain ⟨b, n, rfl, _⟩ := h
    rfl
  · obtain ⟨b, n, rfl, hb, hn, q⟩ := h
    refine ⟨rfl, fun L1 H1 R1 => ⟨rfl, fun L2 H2 R2 => rows_cat R1 R2 (by decide) fun p3 H3 R3 => ⟨rfl, fun L4 H4 R4 => rows_cat R3 R4 (by decide) fun p5 H5 R5 => ⟨rfl, fun L6 H6 R6 => rows_cat R5 R6 (by decide) fun p7 H7 R7 => ?_⟩⟩⟩⟩
    have hb7 := R7.bag hb
    refine ⟨_, rfl, _, rfl, _, rfl, pick_rows (E := E0) R7 hb7 (by omega) hb.some (by decide) (by decide) fun d v D H8 hd hv hk W8 => ?_⟩
    obtain ⟨row, rfl, hg⟩ := row_all hd
    unfold goodRow at hg
    simp only [Bool.and_eq_true, decide_eq_true_eq] at hg
    obtain ⟨r, rfl⟩ : ∃ r, v = .ref r := by unfold dRow at hv; cases hv; exact ⟨_, rfl⟩
    refine ⟨b, r, n + 1, row, D, rfl, W8.bag, by omega, hv, fun a o e => ⟨(hk a o e).1, (hk a o e).2.1⟩, hg.1.1, hg.1.2.2, hg.1.2.1, hg.2.1, hg.2.2, fun H9 W9 => ⟨true, rfl, iteB rfl ?_⟩⟩
    refine call_pick (K := K) rfl (call_rows (K := K) fun L10 H10 R10 => ?_)
    refine pick_rows (E := E0) R10 (R10.bag W9.bag) (by omega) W9.bag.some (by decide) (by decide) fun d v D2 H11 hd2 hv2 hk2 W11 => ?_
    obtain ⟨bad, rfl, hg2⟩ := bad_of hd2
    unfold goodBad at hg2
    simp only [Bool.and_eq_true, decide_eq_true_eq] at hg2
    obtain ⟨t, rfl, hT⟩ : ∃ t, v = .ref t ∧ SqT K D2 t [.str (strOf bad.1), .int (bad.2 : Int)] := by
      unfold dBad at hv2
      cases hv2 with
      | tup h1 h2 =>
        cases h2 with
        | cons h3 h4 =>
          cases h3
          cases h4 with
          | cons h5 h6 =>
            cases h5
            cases h6
            exact ⟨_, rfl, h1⟩
    refine ⟨t, _, rfl, SqT.mono (fun a o e => (hk2 a o e).1) hT, rfl, _, _, rfl, _, _, rfl, rfl, ?_⟩
    refine ⟨_, rfl, b, _, rfl, W11.bag, by omega, fun z H12 hgap ha hz W12 => ?_⟩
    have zs : z.length ≤ sizeLine := Nat.le_trans (show (codesOf z).length ≤ 1400 from hz) (by decide)
    have hsz : z.length + (strOf bad.1).length ≤ sizeLine := Nat.le_trans (show (codesOf z).length + bad.1.length ≤ 2000 by omega) (by decide)
    have src : Tok.isSource (codesOf (z ++ strOf bad.1)) = true := by
      rw [codes_app, codes_strOf]
      exact isSource_app ha hg2.2.2 (by omega)
    have wds : Tok.words (codesOf (z ++ strOf bad.1)) = .error (bad.2 + (codesOf z).length) := by
      rw [codes_app, codes_strOf, Tok.words_gap hgap, hg2.1]
      rfl
    refine ⟨_, rfl, _, rfl, _, _, rfl, rfl, hsz, _, rfl, .inl ⟨_, rfl, src, (fun h34 => by rw [codes_app, codes_strOf] at h34 ⊢; exact nd_app (gap_no hgap h34) (by omega)), (fun ws hws => absurd (wds.symm.trans hws) (fun e => by cases e)), fun m hm q13 H13 s13 n13 h13 => ?_⟩⟩
    rw [wds] at hm
    cases hm
    refine ⟨_, rfl, _, rfl, _, rfl, zs, _, _, rfl, rfl, (by show 2 ≤ sizeLine; decide), fun t14 n14 => ?_⟩
    have e14 : ((bad.2 + (codesOf z).length : Nat) : Int) = (bad.2 : Int) + (z.length : Int) := Int.natCast_add _ _
    refine ⟨.tuple [.none, .int ((bad.2 + (codesOf z).length : Nat) : Int)], .tuple [.none, .int ((bad.2 + (codesOf z).length : Nat) : Int)], .tup (SqT.of (by rw [upd_ne (ne_of_none h13 n14)]; exact h13)) (.cons .non (.cons (.int _) .nil)),
      .tup (SqT.of upd_same) (.cons .non (.cons (by rw [e14]; exact .int _) .nil)), by rfl, by rfl, _, rfl, iteB (by rw [SeqAt.eqv_refl _ (by rfl)]; rfl) ?_⟩
    have W14 : Went b (n + 1 + 2 + 1 + 2) H (upd H13 t14 (.tup [.non, .int ((bad.2 : Int) + (z.length : Int))])) :=
      (((((Went.of hb R7.old).trans W8).trans W9).trans (Went.of W9.bag R10.old)).trans W11 |>.trans W12).same (s13.trans fun a o e => by rw [upd_ne (ne_of_none e n14)]; exact e)
    generalize upd H13 t14 (.tup [.non, .int ((bad.2 : Int) + (z.length : Int))]) = H14 at W14
    refine ⟨(by show 1 ≤ sizeLine; decide), fun p1 n1 => ⟨(by show 1 ≤ sizeLine; decide), fun p2 n2 => fun p3 n3 => ⟨upd_same, [(Sum.inr (Str.ofString "a"), .int 1)], rfl, (by decide), ?_⟩⟩⟩
    have s1 : Same H14 (upd H14 p1 (.lst [.str (Str.ofString "a")])) := fun a o e => by rw [upd_ne (ne_of_none e n1)]; exact e
    have a1 : (upd H14 p1 (.lst [.str (Str.ofString "a")])) p1 = some (.lst [.str (Str.ofString "a")]) := upd_same
    generalize upd H14 p1 (.lst [.str (Str.ofString "a")]) = Ha at *
    have s2 : Same Ha (upd Ha p2 (.tup [.str (Str.ofString "a")])) := fun a o e => by rw [upd_ne (ne_of_none e n2)]; exact e
    have a2 : (upd Ha p2 (.tup [.str (Str.ofString "a")])) p2 = some (.tup [.str (Str.ofString "a")]) := upd_same
    generalize upd Ha p2 (.tup [.str (Str.ofString "a")]) = Hb at *
    have s3 : Same Hb (upd (upd Hb p3 (.dK [])) p3 (.dK (mergeK [] [(Sum.inr (Str.ofString "a"), .int 1)]))) := fun a o e => by rw [upd_ne (ne_of_none e n3), upd_ne (ne_of_none e n3)]; exact e
    have a3 : (upd (upd Hb p3 (.dK [])) p3 (.dK (mergeK [] [(Sum.inr (Str.ofString "a"), .int 1)]))) p3 = some (.dK (mergeK [] [(Sum.inr (Str.ofString "a"), .int 1)])) := upd_same
    generalize upd (upd Hb p3 (.dK [])) p3 (.dK (mergeK [] [(Sum.inr (Str.ofString "a"), .int 1)])) = Hc at *
    refine ⟨_, _, rfl, rfl, ⟨by decide, by decide, by decide⟩, (by show 2 ≤ sizeLine; decide), fun p4 n4 => ⟨(by show 11 ≤ sizeLine; decide), fun p5 n5 => ?_⟩⟩
    have s4 : Same Hc (upd Hc p4 (.tup [.str (Str.ofString ""), .int 0])) := fun a o e => by rw [upd_ne (ne_of_none e n4)]; exact e
    have a4 : (upd Hc p4 (.tup [.str (Str.ofString ""), .int 0])) p4 = some (.tup [.str (Str.ofString ""), .int 0]) := upd_same
    generalize upd Hc p4 (.tup [.str (Str.ofString ""), .int 0]) = Hd at *
    have sAll : Same Hd (upd Hd p5 (.lst [.non, .int 3, .bl true, .ref p1, .ref p2, .ref p3, .str (Str.ofString "\t"), .str (Str.ofString "a\tb"), .str (Str.ofString "'\t'"), .int (10 ^ Int.toNat 60), .ref p4])) := fun a o e => by rw [upd_ne (ne_of_none e n5)]; exact e
    have a5 : (upd Hd p5 (.lst [.non, .int 3, .bl true, .ref p1, .ref p2, .ref p3, .str (Str.ofString "\t"), .str (Str.ofString "a\tb"), .str (Str.ofString "'\t'"), .int (10 ^ Int.toNat 60), .ref p4])) p5 = some (.lst [.non, .int 3, .bl true, .ref p1, .ref p2, .ref p3, .str (Str.ofString "\t"), .str (Str.ofString "a\tb"), .str (Str.ofString "'\t'"), .int (10 ^ Int.toNat 60), .ref p4]) := upd_same
    refine ⟨_, rfl, _, rfl, ?_⟩
    have sd : Same H14 Hd := s1.trans (s2.trans (s3.trans s4))
    have W19 := (W14.same sd).same sAll
    obtain ⟨x9, y9, z9, hb9, hB9⟩ := W19.bag
    have hb14 : H14 b ≠ none := W14.bag.some
    have nb : ∀ {p : Addr} {Hx : Hp}, Same H14 Hx → Hx p = none → p ≠ b := fun e np c => hb14 (e.free (c ▸ np))
    have q1 : p1 ≠ b := nb (Same.refl _) n1
    have q2 : p2 ≠ b := nb s1 n2
    have q3 : p3 ≠ b := nb (s1.trans s2) n3
    have q4 : p4 ≠ b := nb (s1.trans (s2.trans s3)) n4
    have q5 : p5 ≠ b := nb sd n5
    refine ⟨b, _, x9, y9, z9, hb9, hB9, by omega, .inl ⟨p5, _, rfl, .inl fun x' y' z' => SqL.of (by rw [upd_ne q5]; exact a5), (by show 0 < 11; decide), (by show 11 < 1000000; decide), fun j v x' y' z' hv hB' => ?_⟩⟩
    refine ⟨v, rfl, .inr ⟨?ns, fun q20 H20 s20 n20 h20 => ?_⟩⟩
    case ns =>
      have hm := List.mem_of_getElem? hv
      simp only [List.mem_cons, List.not_mem_nil, or_false] at hm
      have up : ∀ {p : Addr} {o : HO}, p ≠ b → Hd p = some o → (upd (upd Hd p5 (.lst [.non, .int 3, .bl true, .ref p1, .ref p2, .ref p3, .str (Str.ofString "\t"), .str (Str.ofString "a\tb"), .str (Str.ofString "'\t'"), .int (10 ^ Int.toNat 60), .ref p4])) b (.lst [.int x', .int y', .int z'])) p = some o :=
        fun c e => by rw [upd_ne c]; exact sAll _ _ e
      rcases hm with h | h | h | h | h | h | h | h | h | h | h <;> subst h
      · exact .inr ⟨fun _ e => (by cases e), _, .base .non, kit_ty (by decide +kernel)⟩
      · exact .inr ⟨fun _ e => (by cases e), _, .base (.int _), kit_ty (by decide +kernel)⟩
      · exact .inr ⟨fun _ e => (by cases e), _, .base (.bl _), kit_ty (by decide +kernel)⟩
      · exact .inr ⟨fun _ e => (by cases e), _, .base (.lst (up q1 (s4 _ _ (s3 _ _ (s2 _ _ a1))))), kit_ty (by decide +kernel)⟩
      · exact .inr ⟨fun _ e => (by cases e), _, .base (.tup (up q2 (s4 _ _ (s3 _ _ a2)))), kit_ty (by decide +kernel)⟩
      · exact .inr ⟨fun _ e => (by cases e), _, .base (.dK (up q3 (s4 _ _ a3))), kit_ty (by decide +kernel)⟩
      · exact .inl ⟨_, rfl, by decide +kernel, by decide +kernel⟩
      · exact .inl ⟨_, rfl, by decide +kernel, by decide +kernel⟩
      · exact .inl ⟨_, rfl, by decide +kernel, by decide +kernel⟩
      · exact .inr ⟨fun _ e => (by cases e), _, .base (.int _), kit_ty (by decide +kernel)⟩
      · exact .inr ⟨fun _ e => (by cases e), _, .base (.tup (up q4 a4)), kit_ty (by decide +kernel)⟩
    refine ⟨_, rfl, (by show 2 ≤ sizeLine; decide), fun t nt => ?_⟩
    refine ⟨.tuple [.none, .int (-1)], .tuple [.none, .int (-1)], .tup (SqT.of (by rw [upd_ne (ne_of_none h20 nt)]; exact h20)) (.cons .non (.cons (.int _) .nil)), .tup (SqT.of upd_same) (.cons .non (.cons (.int _) .nil)), by decide, by decide, ?_⟩
    have e : PyData.eqv (.tuple [.none, .int (-1)]) (.tuple [.none, .int (-1)]) = true := by decide
    rw [e]
    have W20 : Went b (n + 1 + 2 + 1 + 2 + 1) H (upd (upd Hd p5 (.lst [.non, .int 3, .bl true, .ref p1, .ref p2, .ref p3, .str (Str.ofString "\t"), .str (Str.ofString "a\tb"), .str (Str.ofString "'\t'"), .int (10 ^ Int.toNat 60), .ref p4])) b (.lst [.int x', .int y', .int z'])) :=
      W19.trans ⟨⟨x', y', z', upd_same, hB'⟩, fun a o c e => by rw [upd_ne c]; exact e⟩
    exact q _ _ (W20.same (s20.trans fun a o e => by rw [upd_ne (ne_of_none e nt)]; exact e))
end
end My

end
section
set_option Elab.async false
set_option linter.all false
set_option maxRecDepth 100000
set_option maxHeartbeats 2000000
namespace My
open PySem PySem.Spec PyProof.Rows L2
abbrev s_law : Stmt := top 54
section
variable {P : Program} {w : World} {K : PySem.W.Frag} {mg : Str → Option Value} {base : Heap}
def spLaw (K : PySem.W.Frag) : Sp := fun vs H Q _ => ∃ (a : Addr) (ns : List Int), vs = [.ref a] ∧ SqL K H a (ns.map V.int) ∧ ns.length ≤ 63 ∧ ∀ H', Q (.bl true) H'
theorem sc_law : FnScope ["_law_script", "_law_k"] ["_law_script"] (defScope s_law) := ⟨rfl, rfl, rfl, by decide +kernel, rfl, by decide +kernel, by decide +kernel⟩
theorem ok_law {f fB fR fL : Addr} {fd fdB fdR fdL : FuncData} (F : FnP K "law" s_law f fd)
    (G_law_bag : FnOk P w K mg base CX0 2 fB fdB ["_law_script", "_law_k"] (spBag K)) (g_law_bag : mg "_law_bag" = some (.ref fB)) (k_law_bag : PySem.W.keepIn K (.ref fB) = true) (b_law_bag : Binds K fdB ["_law_script", "_law_k"] [])
    (G_law_right : FnOk P w K mg base CX0 30 fR fdR ["_law_bag_here"] spRight) (g_law_right : mg "_law_right" = some (.ref fR)) (k_law_right : PySem.W.keepIn K (.ref fR) = true) (b_law_right : Binds K fdR ["_law_bag_here"] [])
    (G_law_long_right : FnOk P w K mg base CX0 25 fL fdL ["_law_bag_here"] spLong) (g_law_long_right : mg "_law_long_right" = some (.ref fL)) (k_law_long_right : PySem.W.keepIn K (.ref fL) = true) (b_law_long_right : Binds K fdL ["_law_bag_here"] [])
    (g_len : mg "len" = none) (g_max : mg "max" = none) (g_min : mg "min" = none) (g_range : mg "range" = none) :
    FnOk P w K mg base CX0 40 f fd ["_law_script"] (spLaw K) := by
  refine F.ok sc_law (fun vs H Q E h => ?_) (fun cdv A outer s H vs Q E hr h => ⟨_, PSs.nox
    (pss_cons (ps_for PassesOwn.never rfl (pi_range1 (by rfl) g_range (pa_cons (pe_callB (call_max2 rfl) (by rfl) g_max (by decide +kernel) (pa_cons pe_int (pa_cons (pe_callB (call_min2 rfl) (by rfl) g_min (by decide +kernel) (pa_cons (pe_callB call_len_seq (by rfl) g_len PySem.boot_len (pa_cons (pv 0) pa_nil)) (pa_cons pe_int pa_nil))) pa_nil))) pa_nil)) (pg_name (i := 1) sc_law.nd rfl (Or.inl rfl)) (pss_one (ps_if (pt_not (pt_val (pe_call G_law_right (hr.mono (by decide)) rfl g_law_right k_law_right b_law_right .nil pass0 (pa_cons (pe_call G_law_bag (hr.mono (by decide)) rfl g_law_bag k_law_bag b_law_bag .nil pass0 (pa_cons (pv 0) (pa_cons (pv 1) pa_nil))) pa_nil)))) (pss_one (ps_ret pe_bl)) pss_nil)))
      (pss_one (ps_ret (pe_call G_law_long_right (hr.mono (by decide)) rfl g_law_long_right k_law_long_right b_law_long_right .nil pass0 (pa_cons (pe_call G_law_bag (hr.mono (by decide)) rfl g_law_bag k_law_bag b_law_bag .nil pass0 (pa_cons (pv 0) (pa_cons pe_int pa_nil))) pa_nil))))), ?_⟩)
  · obtain ⟨a, ns, rfl, _⟩ := h
    rfl
  · obtain ⟨a, ns, rfl, hS, hn, q⟩ := h
    have hl : (ns.map V.int).length ≤ 63 := by rw [List.length_map]; exact hn
    refine ⟨_, rfl, _, _, rfl, .inl hS, _, _, rfl, _, _, rfl, ?_⟩
    refine ⟨_, rfl, ?b1, ?b2, for_range (lo := 0) (fun i σ H' => ∃ v, σ = [some (.ref a), v] ∧ Same H H') ⟨_, rfl, Same.refl H⟩ ?turn ?last⟩
    case b1 => split <;> split <;> omega
    case b2 => split <;> split <;> omega
    case turn =>
      rintro i σ H1 hi ⟨v, rfl, s1⟩
      have hi2 : i ≤ 100 := by
        have : i < 64 := by
          refine Nat.lt_of_lt_of_le hi ?_
          split <;> split <;> omega
        omega
      refine ⟨_, rfl, _, rfl, a, ns, i, by simp, SqL.mono s1 hS, hi2, by omega, fun H2 p x y z s2 np hp hB => ?_⟩
      refine ⟨p, 10000, rfl, ⟨x, y, z, hp, hB⟩, by omega, fun m H3 W3 => ⟨true, rfl, iteB rfl ⟨_, rfl, fun b o e => ?_⟩⟩⟩
      have e2 := s2 _ _ (s1 _ _ e)
      have hne : b ≠ p := ne_of_none (s1 _ _ e) np
      exact W3.rest b o hne e2
    case last =>
      rintro σ H1 ⟨v, rfl, s1⟩
      refine ⟨_, rfl, a, ns, 0, rfl, SqL.mono s1 hS, by omega, by omega, fun H2 p x y z s2 np hp hB => ?_⟩
      exact ⟨p, 10000, rfl, ⟨x, y, z, hp, hB⟩, by omega, fun H3 => q H3⟩
end
end My

end
section
set_option Elab.async false
set_option linter.all false
set_option maxRecDepth 100000
set_option maxHeartbeats 2000000
namespace My
open PySem PySem.Spec PyProof.Rows L2
abbrev s_name_end : Stmt := top 32
abbrev s_keyword_end : Stmt := top 33
def Src (z : Str) : Prop := Tok.isSource (codesOf z) = true
theorem Src.len {z : Str} (h : Src z) : (codesOf z).length ≤ 2000 := by
  unfold Src Tok.isSource at h
  rw [Bool.and_eq_true] at h
  exact of_decide_eq_true h.2
theorem Src.sgn {z : Str} (h : Src z) {c : Nat} (hc : c ∈ codesOf z) : c < 128 := by
  unfold Src Tok.isSource at h
  rw [Bool.and_eq_true, List.all_eq_true] at h
  have := h.1 c hc
  simp at this
  omega
theorem len_codes (z : Str) : z.length = (codesOf z).length := by simp [codesOf, Str.length]
theorem al_tab : ∀ c < 128, Txt.isalpha ⟨#[c]⟩ = Tok.isAl c := by decide +kernel
theorem dg_tab : ∀ c < 128, Txt.isdigit ⟨#[c]⟩ = Tok.isDg c := by decide +kernel
theorem an_tab : ∀ c < 128, Txt.isalnum ⟨#[c]⟩ = Tok.isAn c := by decide +kernel
def spNameEnd : Sp := fun vs H Q _ => ∃ (z : Str) (p : Nat), vs = [.str z, .int (p : Int)] ∧ Src z ∧ p ≤ (codesOf z).length ∧ Q (.int ((p + Tok.nameLen ((codesOf z).drop p) : Nat) : Int)) H
/-- the sign at the beginning has the mark m -/
def hd (m : Nat → Bool) : List Nat → Bool
  | [] => false
  | c :: _ => m c
theorem at_codes {l : List Nat} {e c : Nat} {r : List Nat} (h : l.drop e = c :: r) : e < l.length ∧ l[e]? = some c ∧ c ∈ l := by
  have h1 : e < l.length := by
    rcases Nat.lt_or_ge e l.length with x | x
    · exact x
    · rw [List.drop_eq_nil_of_le x] at h
      cases h
  rw [List.drop_eq_getElem_cons h1] at h
  injection h with h2 h3
  refine ⟨h1, ?_, ?_⟩
  · rw [List.getElem?_eq_getElem h1, h2]
  · rw [← h2]
    exact List.getElem_mem h1
/-- end < len(text) and text[end].m() -/
theorem scan_test {K : PySem.W.Frag} {g : Str → Bool} {m : Nat → Bool} {i : Nat} {σ : L2.St} {H : Hp} {Q : Bool → Hp → Prop} {z : Str} {e : Nat} (tab : ∀ c < 128, g ⟨#[c]⟩ = m c) (h0 : σ[0]? = some (some (.str z))) (hi : σ[i]? = some (some (.int (e : Int)))) (hz : Src z)
    (q : Q (hd m ((codesOf z).drop e)) H) :
    tAnd (tTest (tOp (rI0 fun i j => V.bl (decide (i < j))) (tVar i) (tCB (fun xs H Q => ∃ z, xs = [V.str z] ∧ z.length ≤ sizeLine ∧ Q (V.int ↑z.length) H) (tCons (tVar 0) tNil))))
      (tB (tBM0 K "str" (fun x xs H Q => ∃ a, x = V.str a ∧ xs = [] ∧ True ∧ Q (V.bl (g a)) H) (tOp rIxS (tVar 0) (tVar i)))) σ H Q := by
  have hl := hz.len
  have hs : z.length ≤ sizeLine := by rw [sizeLine_eq, len_codes]; omega
  refine ⟨_, hi, _, h0, _, rfl, hs, _, _, rfl, rfl, _, rfl, ?_⟩
  cases hd' : (codesOf z).drop e with
  | nil =>
    have : (codesOf z).length ≤ e := List.drop_eq_nil_iff.mp hd'
    rw [if_neg (by rw [len_codes]; simp; omega)]
    rw [hd'] at q
    exact q
  | cons c r =>
    obtain ⟨h1, h2, h3⟩ := at_codes hd'
    rw [if_pos (by rw [len_codes]; simp; omega)]
    rw [hd'] at q
    refine ⟨_, h0, _, hi, _, _, _, rfl, rfl, hs, atI_nat h2, ?_⟩
    refine ⟨rfl, _, rfl, rfl, trivial, _, rfl, ?_⟩
    rw [tab c (hz.sgn h3)]
    exact q
theorem run_cons {m : Nat → Bool} {l : List Nat} {e : Nat} (h : hd m (l.drop e) = true) : Tok.run m (l.drop e) = Tok.run m (l.drop (e + 1)) + 1 ∧ e < l.length := by
  cases hd' : l.drop e with
  | nil => rw [hd'] at h; cases h
  | cons c r =>
    obtain ⟨h1, h2, h3⟩ := at_codes hd'
    rw [hd'] at h
    have e1 : l.drop (e + 1) = r := by rw [← List.drop_drop, hd']; rfl
    rw [e1]
    refine ⟨?_, h1⟩
    show (if m c = true then _ else _) = _
    rw [if_pos (show m c = true from h)]
theorem run_stop {m : Nat → Bool} {l : List Nat} (h : hd m l = false) : Tok.run m l = 0 := by
  cases l with
  | nil => rfl
  | cons c r =>
    show (if m c = true then _ else _) = _
    rw [if_neg (by rw [show m c = false from h]; decide)]
theorem nameLen_al {l : List Nat} (h : hd Tok.isAl l = true) : Tok.nameLen l = if Tok.run Tok.isAn l ≤ 40 then Tok.run Tok.isAn l else 0 := by
  cases l with
  | nil => cases h
  | cons c r =>
    show (if Tok.isAl c = true then _ else _) = _
    rw [if_pos (show Tok.isAl c = true from h)]
theorem nameLen_no {l : List Nat} (h : hd Tok.isAl l = false) : Tok.nameLen l = 0 := by
  cases l with
  | nil => rfl
  | cons c r =>
    show (if Tok.isAl c = true then _ else _) = _
    rw [if_neg (ne_true_of_eq_false (show Tok.isAl c = false from h))]
theorem scan_mono {K : PySem.W.Frag} {g : Str → Bool} {i : Nat} {σ : L2.St} {H : Hp} {Q Q' : Bool → Hp → Prop} (hq : ∀ b H1, Q b H1 → Q' b H1)
    (h : tAnd (tTest (tOp (rI0 fun i j => V.bl (decide (i < j))) (tVar i) (tCB (fun xs H Q => ∃ z, xs = [V.str z] ∧ z.length ≤ sizeLine ∧ Q (V.int ↑z.length) H) (tCons (tVar 0) tNil))))
      (tB (tBM0 K "str" (fun x xs H Q => ∃ a, x = V.str a ∧ xs = [] ∧ True ∧ Q (V.bl (g a)) H) (tOp rIxS (tVar 0) (tVar i)))) σ H Q) :
    tAnd (tTest (tOp (rI0 fun i j => V.bl (decide (i < j))) (tVar i) (tCB (fun xs H Q => ∃ z, xs = [V.str z] ∧ z.length ≤ sizeLine ∧ Q (V.int ↑z.length) H) (tCons (tVar 0) tNil))))
      (tB (tBM0 K "str" (fun x xs H Q => ∃ a, x = V.str a ∧ xs = [] ∧ True ∧ Q (V.bl (g a)) H) (tOp rIxS (tVar 0) (tVar i)))) σ H Q' := by
  obtain ⟨a, h1, b, h2, c, h3, h4, d, e, h5, h6, f, h7, h⟩ := h
  refine ⟨a, h1, b, h2, c, h3, h4, d, e, h5, h6, f, h7, ?_⟩
  split at h
  · rename_i k
    rw [if_pos k]
    obtain ⟨a1, h1, a2, h2, a3, a4, a5, h3, h4, h5, h6, h7, a6, h8, h9, h10, a7, h11, h⟩ := h
    exact ⟨a1, h1, a2, h2, a3, a4, a5, h3, h4, h5, h6, h7, a6, h8, h9, h10, a7, h11, hq _ _ h⟩
  · rename_i k
    rw [if_neg k]
    exact hq _ _ h
section
variable {P : Program} {w : World} {K : PySem.W.Frag} {mg : Str → Option Value} {base : Heap}
theorem sc_name_end : FnScope ["text", "place", "end"] ["text", "place"] (defScope s_name_end) := ⟨rfl, rfl, rfl, by decide +kernel, rfl, by decide +kernel, by decide +kernel⟩
theorem ok_name_end {f : Addr} {fd : FuncData} (F : FnP K "name_end" s_name_end f fd) (g_len : mg "len" = none) (g_LN : ∃ t, mg "LONGEST_NAME" = some (.int 40 t)) : FnOk P w K mg base CX0 2 f fd ["text", "place"] spNameEnd := by
  obtain ⟨t, g_LONGEST_NAME⟩ := g_LN
  have r_LONGEST_NAME : RelV (.int 40) (.int 40 t) := ⟨t, rfl⟩
  refine F.ok sc_name_end (fun vs H Q E h => ?_) (fun cdv A outer s H vs Q E hr h => ⟨_, PSs.nox
    (pss_cons (ps_set (i := 2) sc_name_end.nd rfl (Or.inl rfl) (pv 1))
      (pss_cons (ps_if (PW.pt (pw_and (pt_cmpR op_lt (pv 2) (pe_callB call_len_str (by rfl) g_len PySem.boot_len (pa_cons (pv 0) pa_nil)) (nomark _)) (pw_and1 (pt_val (pe_bm0 PySem.F.plainAttrs_str PySem.F.slot_str_isalpha PySem.F.type_str_isalpha mt_isalpha (pe_ix ix_str (pv 0) (pv 2) (fun _ _ => rfl))))))) (pss_one (ps_while PassesOwn.never (PW.pt (pw_and (pt_cmpR op_lt (pv 2) (pe_callB call_len_str (by rfl) g_len PySem.boot_len (pa_cons (pv 0) pa_nil)) (nomark _)) (pw_and1 (pt_val (pe_bm0 PySem.F.plainAttrs_str PySem.F.slot_str_isalnum PySem.F.type_str_isalnum mt_isalnum (pe_ix ix_str (pv 0) (pv 2) (fun _ _ => rfl))))))) (pss_one (ps_aug (i := 2) sc_name_end.nd rfl (Or.inl rfl) pe_int ip_add)))) pss_nil)
      (pss_one (ps_ret (pe_ifExp (pt_cmpR op_le (pe_op op_sub (pv 2) (pv 1)) (pe_glob rfl g_LONGEST_NAME r_LONGEST_NAME) (nomark _)) (pv 2) (pv 1)))))), ?_⟩)
  · obtain ⟨z, p, rfl, _⟩ := h
    rfl
  · obtain ⟨z, p, rfl, hz, hp, q⟩ := h
    refine ⟨_, rfl, ?_⟩
    have fin : ∀ e : Nat, (if e - p ≤ 40 then e else p) = p + Tok.nameLen ((codesOf z).drop p) → p ≤ e →
        (tIf (tTest (tOp (rI0 fun i j => V.bl (decide (i ≤ j))) (tOp (rI0 fun i j => V.int (i - j)) (tVar 2) (tVar 1)) (tC (.int 40)))) (tVar 2) (tVar 1)) [some (.str z), some (.int (p : Int)), some (.int (e : Int))] H Q := by
      intro e he hpe
      refine ⟨_, rfl, _, rfl, _, _, rfl, rfl, _, _, rfl, rfl, _, rfl, ?_⟩
      by_cases c : e - p ≤ 40
      · rw [if_pos c] at he
        rw [if_pos (by simp; omega)]
        refine ⟨_, rfl, ?_⟩
        rw [he]
        exact q
      · rw [if_neg c] at he
        rw [if_neg (by simp; omega)]
        refine ⟨_, rfl, ?_⟩
        rw [← he] at q
        exact q
    refine scan_test al_tab rfl rfl hz ?_
    split
    · rename_i ha
      refine while_by (fun σ H' => H' = H ∧ ∃ e : Nat, σ = [some (.str z), some (.int (p : Int)), some (.int (e : Int))] ∧ p ≤ e ∧ e + Tok.run Tok.isAn ((codesOf z).drop e) = p + Tok.run Tok.isAn ((codesOf z).drop p)) (fun σ _ => match σ with | [_, _, some (.int e)] => (codesOf z).length - e.toNat | _ => 0) ⟨rfl, p, rfl, Nat.le_refl _, rfl⟩ ?_ ?_
      · rintro _ _ ⟨rfl, e, rfl, h1, h2⟩
        refine scan_test an_tab rfl rfl hz ?_
        split
        · rename_i hn
          obtain ⟨r1, r2⟩ := run_cons hn
          refine ⟨_, rfl, _, _, rfl, rfl, ⟨rfl, e + 1, rfl, by omega, by omega⟩, ?_⟩
          show (codesOf z).length - (((e : Int) + 1).toNat) < (codesOf z).length - ((e : Int).toNat)
          omega
        · rename_i hn
          have r0 := run_stop (by simpa using hn)
          refine fin e ?_ h1
          rw [nameLen_al ha]
          split <;> split <;> omega
      · intro σ H Q Q' hq h
        exact scan_mono hq h
    · rename_i ha
      refine fin p ?_ (Nat.le_refl _)
      rw [nameLen_no (by simpa using ha)]
      split <;> rfl
end
end My

end
section
set_option Elab.async false
set_option linter.all false
set_option maxRecDepth 100000
set_option maxHeartbeats 2000000
namespace My
open PySem PySem.Spec PyProof.Rows L2
abbrev s_name_at : Stmt := top 34
abbrev s_integer_at : Stmt := top 35
theorem strOf_inj {a b : List Nat} : strOf a = strOf b ↔ a = b := ⟨fun h => by rw [← codes_strOf a, h, codes_strOf], fun h => by rw [h]⟩
theorem cut_codes (z : Str) (a b : Nat) (h : a ≤ b) : cutS z (some (a : Int)) (some (b : Int)) = strOf (((codesOf z).drop a).take (b - a)) := by
  have hl : z.length = (codesOf z).length := len_codes z
  unfold cutS
  rw [HT.sIx_nat, HT.sIx_nat, hl]
  show strOf (((codesOf z).drop _).take _) = _
  rw [strOf_inj]
  generalize codesOf z = l
  rcases Nat.lt_or_ge l.length a with c | c
  · rw [List.drop_eq_nil_of_le (Nat.le_of_lt c), List.drop_eq_nil_of_le (by omega)]
    simp
  · rw [Nat.min_eq_left c]
    rcases Nat.lt_or_ge l.length b with d | d
    · rw [Nat.min_eq_right (Nat.le_of_lt d)]
      rw [List.take_of_length_le (by rw [List.length_drop]; exact Nat.le_refl _), List.take_of_length_le (by rw [List.length_drop]; omega)]
    · rw [Nat.min_eq_left d]
theorem eq_txt {a b : Str} : decide (V.str a = V.str b) = true ↔ a = b := by
  rw [decide_eq_true_iff]
  exact ⟨V.str.inj, fun h => by rw [h]⟩
theorem ne_txt {a b : Str} : (!decide (V.str a = V.str b)) = true ↔ ¬ a = b := by
  rw [Bool.not_eq_true', decide_eq_false_iff_not]
  exact ⟨fun h e => h (by rw [e]), fun h e => h (V.str.inj e)⟩
theorem take1 (l : List Nat) : l.take 1 = match l with | [] => [] | c :: _ => [c] := by
  cases l <;> rfl
theorem take1_is (l : List Nat) (c : Nat) : (l.take 1 = [c]) ↔ l.head? = some c := by
  cases l with
  | nil => simp
  | cons d r => simp
theorem nameLen_le (l : List Nat) : Tok.nameLen l ≤ 40 := by
  unfold Tok.nameLen
  split
  · omega
  · split
    · split <;> omega
    · omega
theorem run_le (m : Nat → Bool) : ∀ l : List Nat, Tok.run m l ≤ l.length
  | [] => Nat.le_refl _
  | c :: l => by
    show (if m c = true then _ else _) ≤ _
    split
    · exact Nat.succ_le_succ (run_le m l)
    · exact Nat.zero_le _
theorem nameLen_len (l : List Nat) : Tok.nameLen l ≤ l.length := by
  have h := run_le Tok.isAn l
  unfold Tok.nameLen
  split
  · exact Nat.zero_le _
  · split
    · split
      · exact h
      · exact Nat.zero_le _
    · exact Nat.zero_le _
def spKeyEnd : Sp := fun vs H Q _ => ∃ (z : Str) (p : Nat), vs = [.str z, .int (p : Int)] ∧ Src z ∧ p ≤ (codesOf z).length ∧ Q (.int ((p + Tok.keyLen ((codesOf z).drop p) : Nat) : Int)) H
theorem sz_src {z : Str} (h : Src z) : z.length ≤ sizeLine := by
  have := h.len
  rw [sizeLine_eq, len_codes]; omega
section
variable {P : Program} {w : World} {K : PySem.W.Frag} {mg : Str → Option Value} {base : Heap}
theorem sc_keyword_end : FnScope ["text", "place", "end"] ["text", "place"] (defScope s_keyword_end) := ⟨rfl, rfl, rfl, by decide +kernel, rfl, by decide +kernel, by decide +kernel⟩
theorem ok_keyword_end {f fN : Addr} {fd fdN : FuncData} (F : FnP K "keyword_end" s_keyword_end f fd) (FN : FnP K "name_end" s_name_end fN fdN) (g_name_end : mg "name_end" = some (.ref fN)) (g_len : mg "len" = none) (g_LN : ∃ t, mg "LONGEST_NAME" = some (.int 40 t)) : FnOk P w K mg base CX0 3 f fd ["text", "place"] spKeyEnd := by
  have G_name_end : FnOk P w K mg base CX0 2 fN fdN _ spNameEnd := ok_name_end FN g_len g_LN
  have b_name_end : Binds K fdN ["text", "place"] [] := FN.bindsN fun _ _ _ _ _ _ us hl => match us, hl with | [_, _], _ => rfl
  have k_name_end := FN.kp
  refine F.ok sc_keyword_end (fun vs H Q E h => ?_) (fun cdv A outer s H vs Q E hr h => ⟨_, PSs.nox
    (pss_cons (ps_set (i := 2) sc_keyword_end.nd rfl (Or.inl rfl) (pe_call G_name_end (hr.mono (by decide)) rfl g_name_end k_name_end b_name_end .nil pass0 (pa_cons (pv 0) (pa_cons (pv 1) pa_nil))))
      (pss_cons (ps_if (PW.pt (pw_and (pt_cmpR op_gt (pv 2) (pv 1) (nomark _)) (pw_and (pt_cmpR op_eq (pe_slice sl_str (pv 0) (po_some (pv 2)) (po_some (pe_op op_add (pv 2) pe_int))) pe_str (nomark _)) (pw_and1 (pt_cmpR op_ne (pe_slice sl_str (pv 0) (po_some (pe_op op_add (pv 2) pe_int)) (po_some (pe_op op_add (pv 2) pe_int))) pe_str (nomark _)))))) (pss_one (ps_ret (pe_op op_add (pv 2) pe_int))) pss_nil)
      (pss_one (ps_ret (pv 1))))), ?_⟩)
  · obtain ⟨z, p, rfl, _⟩ := h
    rfl
  · obtain ⟨z, p, rfl, hz, hp, q⟩ := h
    have hs := sz_src hz
    refine ⟨_, rfl, _, rfl, z, p, rfl, hz, hp, ?_⟩
    generalize hn : Tok.nameLen ((codesOf z).drop p) = n at *
    refine ⟨_, rfl, _, rfl, _, _, rfl, rfl, _, rfl, ?_⟩
    have no : Tok.keyLen ((codesOf z).drop p) = 0 → (tRet (tVar 1)) { nx := fun _ H' => Q .non H', rt := Q } [some (.str z), some (.int (p : Int)), some (.int ((p + n : Nat) : Int))] H := fun e => by
      rw [e] at q
      exact ⟨_, rfl, q⟩
    have e1 : ((p + n : Nat) : Int) + 1 = ((p + n + 1 : Nat) : Int) := by omega
    have e2 : ((p + n : Nat) : Int) + 2 = ((p + n + 2 : Nat) : Int) := by omega
    have c1 := cut_codes z (p + n) (p + n + 1) (by omega)
    have c2 := cut_codes z (p + n + 1) (p + n + 2) (by omega)
    rw [show p + n + 1 - (p + n) = 1 by omega] at c1
    rw [show p + n + 2 - (p + n + 1) = 1 by omega] at c2
    have k1 : (":" : Str) = strOf [58] := by decide +kernel
    have k2 : ("=" : Str) = strOf [61] := by decide +kernel
    refine ite2 (fun hx => ?_) (fun hx => ?_)
    · have hx := of_decide_eq_true hx
      have kl : Tok.keyLen ((codesOf z).drop p) = if ((codesOf z).drop (p + n)).take 1 = [58] ∧ ¬ ((codesOf z).drop (p + n + 1)).take 1 = [61] then n + 1 else 0 := by
        unfold Tok.keyLen
        rw [hn, List.drop_drop, List.drop_drop, ← Nat.add_assoc]
        simp only [take1_is]
        by_cases x : ((codesOf z).drop (p + n)).head? = some 58 ∧ ¬ ((codesOf z).drop (p + n + 1)).head? = some 61
        · rw [if_pos x, if_pos ⟨by omega, x.1, x.2⟩]
        · rw [if_neg x, if_neg (fun y => x ⟨y.2.1, y.2.2⟩)]
      refine ⟨_, rfl, _, rfl, _, rfl, _, rfl, _, _, rfl, rfl, _, rfl, z, rfl, hs, rfl, _, rfl, ?_⟩
      refine ite2 (fun hx2 => ?_) (fun hx2 => ?_)
      · have hx2 : ((codesOf z).drop (p + n)).take 1 = [58] := by
          have := of_decide_eq_true hx2
          rw [e1, c1, k1] at this
          exact strOf_inj.mp (V.str.inj this)
        refine ⟨_, rfl, _, rfl, _, _, rfl, rfl, _, rfl, _, rfl, _, _, rfl, rfl, _, rfl, z, rfl, hs, rfl, _, rfl, ?_⟩
        refine ite2 (fun hx3 => ?_) (fun hx3 => ?_)
        · have hx3 : ¬ ((codesOf z).drop (p + n + 1)).take 1 = [61] := fun y => by
            rw [ne_txt, e1, e2, c2, k2, strOf_inj] at hx3
            exact hx3 y
          rw [if_pos ⟨hx2, hx3⟩] at kl
          rw [kl] at q
          exact ⟨_, rfl, _, _, rfl, rfl, q⟩
        · refine no ?_
          rw [kl, if_neg]
          rintro ⟨_, y⟩
          apply hx3
          rw [ne_txt, e1, e2, c2, k2, strOf_inj]
          exact y
      · refine no ?_
        rw [kl, if_neg]
        rintro ⟨y, _⟩
        apply hx2
        rw [eq_txt, e1, c1, k1, y]
    · refine no ?_
      have hx : ¬ ((p : Int) < ((p + n : Nat) : Int)) := fun y => hx (decide_eq_true y)
      unfold Tok.keyLen
      rw [if_neg (by rw [hn]; omega)]
end
end My

end
section
set_option Elab.async false
set_option linter.all false
set_option maxRecDepth 100000
set_option maxHeartbeats 2000000
namespace My
open PySem PySem.Spec PyProof.Rows L2
def vVal : Tok.Val → V
  | .s t => .str (strOf t)
  | .i n => .int n
/-- what a function tells of the word at place p: None, or a tuple -/
def wOut (H : Hp) (Q : VK) (p : Nat) : Option (Tok.Kd × Tok.Val × Nat) → Prop
  | none => ∀ H', Same H H' → Q .non H'
  | some (k, x, m) => ∀ r H', Same H H' → H r = none → H' r = some (.tup [.str (kdS k), vVal x, .int ((p + m : Nat) : Int)]) → Q (.ref r) H'
theorem same_upd {H : Hp} {r : Addr} {o : HO} (h : H r = none) : Same H (upd H r o) := fun b u z => by rw [upd_ne (ne_of_none z h)]; exact z
theorem wOut.no {H : Hp} {Q : VK} {p : Nat} (h : wOut H Q p none) : Q .non H := h H (Same.refl H)
theorem wOut.at_ {H : Hp} {Q : VK} {p m : Nat} {k : Tok.Kd} {x : Tok.Val} (h : wOut H Q p (some (k, x, m))) : ∀ r, H r = none → Q (.ref r) (upd H r (.tup [.str (kdS k), vVal x, .int ((p + m : Nat) : Int)])) := fun r hr => h r _ (same_upd hr) hr upd_same
theorem wOut.later {H H' : Hp} {Q : VK} {p : Nat} (e : Same H H') : ∀ {o : Option (Tok.Kd × Tok.Val × Nat)}, wOut H Q p o → wOut H' Q p o
  | none, h => fun H2 e2 => h H2 (e.trans e2)
  | some (k, x, m), h => fun r H2 e2 hr h2 => h r H2 (e.trans e2) (e.free hr) h2
def nameWord (l : List Nat) : Option (Tok.Kd × Tok.Val × Nat) :=
  if 0 < Tok.keyLen l then some (.keyword, .s (l.take (Tok.keyLen l)), Tok.keyLen l)
  else if 0 < Tok.nameLen l then some (.name, .s (l.take (Tok.nameLen l)), Tok.nameLen l) else none
def spNameAt : Sp := fun vs H Q _ => ∃ (z : Str) (p : Nat), vs = [.str z, .int (p : Int)] ∧ Src z ∧ p ≤ (codesOf z).length ∧ wOut H Q p (nameWord ((codesOf z).drop p))
/-- an integer whose digits begin behind s signs (0, or 1 for a minus) -/
def intWord (s : Nat) (l : List Nat) : Option (Tok.Kd × Tok.Val × Nat) :=
  let m := Tok.run Tok.isDg (l.drop s)
  if 0 < m ∧ m ≤ 60 then some (.int, .i (if s = 0 then (Tok.num (l.take m) : Int) else -(Tok.num ((l.drop s).take m) : Int)), s + m) else none
def spIntAt : Sp := fun vs H Q _ => ∃ (z : Str) (p s : Nat), vs = [.str z, .int (p : Int), .int ((p + s : Nat) : Int)] ∧ Src z ∧ p + s ≤ (codesOf z).length ∧ (s = 0 ∨ (s = 1 ∧ ((codesOf z).drop p).head? = some 45)) ∧ wOut H Q p (intWord s ((codesOf z).drop p))
theorem run_digits (l : List Nat) : ∀ c ∈ l.take (Tok.run Tok.isDg l), 48 ≤ c ∧ c ≤ 57 := by
  induction l with
  | nil => intro c h; simp at h
  | cons d r ih =>
    intro c h
    unfold Tok.run at h
    by_cases k : Tok.isDg d = true
    · rw [if_pos k, List.take_succ_cons] at h
      rcases List.mem_cons.mp h with h | h
      · subst h
        unfold Tok.isDg at k
        simp at k
        exact k
      · exact ih c h
    · rw [if_neg k] at h
      simp at h
theorem num_eq (l : List Nat) : Tok.num l = PySem.NumText.digitsVal l := by
  unfold Tok.num PySem.NumText.digitsVal
  congr 1
  funext n c
  rw [Nat.mul_comm]
section
variable {P : Program} {w : World} {K : PySem.W.Frag} {mg : Str → Option Value} {base : Heap}
theorem sc_name_at : FnScope ["text", "place", "end"] ["text", "place"] (defScope s_name_at) := ⟨rfl, rfl, rfl, by decide +kernel, rfl, by decide +kernel, by decide +kernel⟩
theorem ok_name_at {f fN fK : Addr} {fd fdN fdK : FuncData} (F : FnP K "name_at" s_name_at f fd) (FN : FnP K "name_end" s_name_end fN fdN) (FK : FnP K "keyword_end" s_keyword_end fK fdK) (g_name_end : mg "name_end" = some (.ref fN)) (g_keyword_end : mg "keyword_end" = some (.ref fK)) (g_len : mg "len" = none) (g_LN : ∃ t, mg "LONGEST_NAME" = some (.int 40 t)) : FnOk P w K mg base CX0 4 f fd ["text", "place"] spNameAt := by
  have G_name_end : FnOk P w K mg base CX0 2 fN fdN _ spNameEnd := ok_name_end FN g_len g_LN
  have b_name_end : Binds K fdN ["text", "place"] [] := FN.bindsN fun _ _ _ _ _ _ us hl => match us, hl with | [_, _], _ => rfl
  have k_name_end := FN.kp
  have G_keyword_end : FnOk P w K mg base CX0 3 fK fdK _ spKeyEnd := ok_keyword_end FK FN g_name_end g_len g_LN
  have b_keyword_end : Binds K fdK ["text", "place"] [] := FK.bindsN fun _ _ _ _ _ _ us hl => match us, hl with | [_, _], _ => rfl
  have k_keyword_end := FK.kp
  refine F.ok sc_name_at (fun vs H Q E h => ?_) (fun cdv A outer s H vs Q E hr h => ⟨_, PSs.nox
    (pss_cons (ps_set (i := 2) sc_name_at.nd rfl (Or.inl rfl) (pe_call G_keyword_end (hr.mono (by decide)) rfl g_keyword_end k_keyword_end b_keyword_end .nil pass0 (pa_cons (pv 0) (pa_cons (pv 1) pa_nil))))
      (pss_cons (ps_if (pt_cmpR op_gt (pv 2) (pv 1) (nomark _)) (pss_one (ps_ret (pe_tup (pa_cons pe_str (pa_cons (pe_slice sl_str (pv 0) (po_some (pv 1)) (po_some (pv 2))) (pa_cons (pv 2) pa_nil)))))) pss_nil)
      (pss_cons (ps_set (i := 2) sc_name_at.nd rfl (Or.inl rfl) (pe_call G_name_end (hr.mono (by decide)) rfl g_name_end k_name_end b_name_end .nil pass0 (pa_cons (pv 0) (pa_cons (pv 1) pa_nil))))
      (pss_cons (ps_if (pt_cmpR op_gt (pv 2) (pv 1) (nomark _)) (pss_one (ps_ret (pe_tup (pa_cons pe_str (pa_cons (pe_slice sl_str (pv 0) (po_some (pv 1)) (po_some (pv 2))) (pa_cons (pv 2) pa_nil)))))) pss_nil)
      (pss_one (ps_ret pe_non)))))), ?_⟩)
  · obtain ⟨z, p, rfl, _⟩ := h
    rfl
  · obtain ⟨z, p, rfl, hz, hp, q⟩ := h
    have hs := sz_src hz
    refine ⟨_, rfl, _, rfl, z, p, rfl, hz, hp, ?_⟩
    have cut : ∀ m : Nat, cutS z (some (p : Int)) (some ((p + m : Nat) : Int)) = strOf (((codesOf z).drop p).take m) := fun m => by
      rw [cut_codes z p (p + m) (by omega), Nat.add_sub_cancel_left]
    unfold nameWord at q
    refine ⟨_, rfl, _, rfl, _, _, rfl, rfl, _, rfl, ?_⟩
    refine ite2 (fun hx => ?_) (fun hx => ?_)
    · have hx := of_decide_eq_true hx
      rw [if_pos (by omega)] at q
      refine ⟨_, rfl, _, rfl, _, rfl, _, rfl, _, rfl, z, rfl, hs, _, rfl, (by show 3 ≤ sizeLine; decide), fun r hr => ?_⟩
      have := q.at_ r hr
      rw [cut]
      exact this
    · have hx : ¬ ((p : Int) < ((p + Tok.keyLen ((codesOf z).drop p) : Nat) : Int)) := fun y => hx (decide_eq_true y)
      rw [if_neg (by omega)] at q
      refine ⟨_, rfl, _, rfl, z, p, rfl, hz, hp, ?_⟩
      refine ⟨_, rfl, _, rfl, _, _, rfl, rfl, _, rfl, ?_⟩
      refine ite2 (fun hx => ?_) (fun hx => ?_)
      · have hx := of_decide_eq_true hx
        rw [if_pos (by omega)] at q
        refine ⟨_, rfl, _, rfl, _, rfl, _, rfl, _, rfl, z, rfl, hs, _, rfl, (by show 3 ≤ sizeLine; decide), fun r hr => ?_⟩
        have := q.at_ r hr
        rw [cut]
        exact this
      · have hx : ¬ ((p : Int) < ((p + Tok.nameLen ((codesOf z).drop p) : Nat) : Int)) := fun y => hx (decide_eq_true y)
        rw [if_neg (by omega)] at q
        exact q.no
theorem sc_integer_at : FnScope ["text", "place", "digits", "end"] ["text", "place", "digits"] (defScope s_integer_at) := ⟨rfl, rfl, rfl, by decide +kernel, rfl, by decide +kernel, by decide +kernel⟩
theorem ok_integer_at {f : Addr} {fd : FuncData} (F : FnP K "integer_at" s_integer_at f fd) (g_len : mg "len" = none) (g_int : mg "int" = none) (g_MD : ∃ t, mg "MOST_DIGITS" = some (.int 60 t)) : FnOk P w K mg base CX0 2 f fd ["text", "place", "digits"] spIntAt := by
  obtain ⟨t, g_MOST_DIGITS⟩ := g_MD
  have r_MOST_DIGITS : RelV (.int 60) (.int 60 t) := ⟨t, rfl⟩
  refine F.ok sc_integer_at (fun vs H Q E h => ?_) (fun cdv A outer s H vs Q E hr h => ⟨_, PSs.nox
    (pss_cons (ps_set (i := 3) sc_integer_at.nd rfl (Or.inl rfl) (pv 2))
      (pss_cons (ps_while PassesOwn.never (PW.pt (pw_and (pt_cmpR op_lt (pv 3) (pe_callB call_len_str (by rfl) g_len PySem.boot_len (pa_cons (pv 0) pa_nil)) (nomark _)) (pw_and1 (pt_val (pe_bm0 PySem.F.plainAttrs_str PySem.F.slot_str_isdigit PySem.F.type_str_isdigit mt_isdigit (pe_ix ix_str (pv 0) (pv 3) (fun _ _ => rfl))))))) (pss_one (ps_aug (i := 3) sc_integer_at.nd rfl (Or.inl rfl) pe_int ip_add)))
      (pss_cons (ps_if (pt_not (pt_chain op_lt op_le pe_int (pe_op op_sub (pv 3) (pv 2)) (pe_glob rfl g_MOST_DIGITS r_MOST_DIGITS))) (pss_one (ps_ret pe_non)) pss_nil)
      (pss_one (ps_ret (pe_tup (pa_cons pe_str (pa_cons (pe_callTy call_int_str (by rfl) g_int (by decide +kernel) (pa_cons (pe_slice sl_str (pv 0) (po_some (pv 1)) (po_some (pv 3))) pa_nil)) (pa_cons (pv 3) pa_nil))))))))), ?_⟩)
  · obtain ⟨z, p, s, rfl, _⟩ := h
    rfl
  · obtain ⟨z, p, s, rfl, hz, hp, hd, q⟩ := h
    have hs := sz_src hz
    refine ⟨_, rfl, ?_⟩
    refine while_by (fun σ H' => H' = H ∧ ∃ e : Nat, σ = [some (.str z), some (.int (p : Int)), some (.int ((p + s : Nat) : Int)), some (.int (e : Int))] ∧ p + s ≤ e ∧ e + Tok.run Tok.isDg ((codesOf z).drop e) = p + s + Tok.run Tok.isDg ((codesOf z).drop (p + s))) (fun σ _ => match σ with | [_, _, _, some (.int e)] => (codesOf z).length - e.toNat | _ => 0) ⟨rfl, p + s, rfl, Nat.le_refl _, rfl⟩ ?_ ?_
    · rintro _ H0 ⟨hH, e, rfl, h1, h2⟩
      subst hH
      refine scan_test dg_tab rfl rfl hz ?_
      split
      · rename_i hn
        obtain ⟨r1, r2⟩ := run_cons hn
        refine ⟨_, rfl, _, _, rfl, rfl, ⟨rfl, e + 1, rfl, by omega, by omega⟩, ?_⟩
        show (codesOf z).length - (((e : Int) + 1).toNat) < (codesOf z).length - ((e : Int).toNat)
        omega
      · rename_i hn
        have r0 := run_stop (by simpa using hn)
        have he : e = p + s + Tok.run Tok.isDg (((codesOf z).drop p).drop s) := by rw [List.drop_drop]; omega
        subst he
        unfold intWord at q
        generalize hm : Tok.run Tok.isDg (((codesOf z).drop p).drop s) = m at q ⊢
        have n1 : ((p + s + m : Nat) : Int) - ((p + s : Nat) : Int) = (m : Int) := by omega
        have none_ : ¬ (0 < m ∧ m ≤ 60) → Q .non H0 := fun c => by
          rw [show (have m := m; if 0 < m ∧ m ≤ 60 then _ else _) = (none : Option (Tok.Kd × Tok.Val × Nat)) from if_neg c] at q
          exact q.no
        refine ⟨_, rfl, _, rfl, _, _, rfl, rfl, _, _, rfl, rfl, _, rfl, ?_⟩
        refine ite2 (fun hx => ?_) (fun hx => ?_)
        · have hx := of_decide_eq_true hx
          refine ⟨_, _, rfl, rfl, _, rfl, ?_⟩
          refine ite2 (fun hy => ?_) (fun hy => ?_)
          · have hy : ¬ ((p + s + m : Nat) : Int) - ((p + s : Nat) : Int) ≤ 60 := fun y => by
              rw [decide_eq_true y] at hy
              cases hy
            exact none_ (by omega)
          · have hy : ((p + s + m : Nat) : Int) - ((p + s : Nat) : Int) ≤ 60 := Decidable.byContradiction fun y => hy (by rw [decide_eq_false y]; rfl)
            have mm : 0 < m ∧ m ≤ 60 := by omega
            rw [show (have m := m; if 0 < m ∧ m ≤ 60 then _ else _) = _ from if_pos mm] at q
            have cut : cutS z (some (p : Int)) (some ((p + s + m : Nat) : Int)) = strOf (((codesOf z).drop p).take (s + m)) := by
              rw [cut_codes z p (p + s + m) (by omega), show p + s + m - p = s + m by omega]
            have lr : m ≤ (((codesOf z).drop p).drop s).length := by rw [← hm]; exact run_le _ _
            have dg : ∀ c ∈ (((codesOf z).drop p).drop s).take m, 48 ≤ c ∧ c ≤ 57 := by rw [← hm]; exact run_digits _
            have ne : (((codesOf z).drop p).drop s).take m ≠ [] := fun e => by
              have := congrArg List.length e
              rw [List.length_take, List.length_nil] at this
              omega
            have ln : (strOf (((codesOf z).drop p).take (s + m))).length ≤ 640 := by
              rw [len_codes, codes_strOf, List.length_take]
              rcases hd with e | ⟨e, _⟩ <;> omega
            have hint : PySem.intText? (strOf (((codesOf z).drop p).take (s + m))) = some (if s = 0 then (Tok.num (((codesOf z).drop p).take m) : Int) else -(Tok.num ((((codesOf z).drop p).drop s).take m) : Int)) := by
              rcases hd with e | ⟨e, h45⟩
              · subst e
                rw [if_pos rfl, num_eq, Nat.zero_add]
                have k := PySem.intText_digits (x := strOf (((codesOf z).drop p).take m)) dg ne (by rw [Nat.zero_add] at ln; omega)
                exact k
              · subst e
                rw [if_neg (by decide), num_eq]
                cases hl : (codesOf z).drop p with
                | nil => rw [hl] at h45; cases h45
                | cons c r =>
                  rw [hl] at h45 dg ne ln
                  injection h45 with h45
                  subst h45
                  refine PySem.intText_neg (x := strOf ((45 :: r).take (1 + m))) (cs := ((45 :: r).drop 1).take m) ?_ dg ne (by omega)
                  rw [Nat.add_comm]
                  rfl
            rw [← cut] at hint ln
            refine ⟨_, rfl, _, rfl, _, rfl, _, rfl, _, rfl, z, rfl, hs, _, _, rfl, hint, ln, _, rfl, (by show 3 ≤ sizeLine; decide), fun r hr => ?_⟩
            have := q.at_ r hr
            rw [← Nat.add_assoc] at this
            exact this
        · have hx : ¬ ((0 : Int) < ((p + s + m : Nat) : Int) - ((p + s : Nat) : Int)) := fun y => hx (decide_eq_true y)
          refine ⟨_, rfl, ?_⟩
          refine ite2 (fun _ => ?_) (fun y => absurd rfl y)
          exact none_ (by omega)
    · intro σ H Q Q' hq h
      exact scan_mono hq h
end
end My

end
section
set_option Elab.async false
set_option linter.all false
set_option maxRecDepth 100000
set_option maxHeartbeats 2000000
namespace My
open PySem PySem.Spec PyProof.Rows L2
abbrev s_string_end : Stmt := top 36
abbrev s_string_at : Stmt := top 37
theorem find_some {c : Nat} : ∀ {l : List Nat} {k : Nat}, Tok.find c l = some k → l[k]? = some c ∧ ∀ j < k, l[j]? ≠ some c
  | [], k, h => by cases h
  | d :: l, k, h => by
    unfold Tok.find at h
    by_cases e : d = c
    · rw [if_pos e] at h
      cases h
      exact ⟨by simp [e], fun j hj => by omega⟩
    · rw [if_neg e] at h
      cases q : Tok.find c l with
      | none => rw [q] at h; cases h
      | some m =>
        rw [q] at h
        cases h
        obtain ⟨h1, h2⟩ := find_some q
        refine ⟨by simpa using h1, fun j hj => ?_⟩
        have hj : j < m + 1 := hj
        cases j with
        | zero => simpa using e
        | succ j => simpa using h2 j (by omega)
theorem find_none {c : Nat} : ∀ {l : List Nat}, Tok.find c l = none → ∀ j : Nat, l[j]? ≠ some c
  | [], _, j => by simp
  | d :: l, h, j => by
    unfold Tok.find at h
    by_cases e : d = c
    · rw [if_pos e] at h; cases h
    · rw [if_neg e] at h
      cases q : Tok.find c l with
      | some m => rw [q] at h; cases h
      | none =>
        cases j with
        | zero => simpa using e
        | succ j => simpa using find_none q j
theorem getD_cps {z : Str} {v : Nat} (h : v < (codesOf z).length) : z.cps.getD v 0 = (codesOf z)[v] := PySem.StrLaws.getD_of_getElem? (List.getElem?_eq_getElem h)
theorem find_codes (z : Str) (c a : Nat) (ha : a ≤ (codesOf z).length) : Txt.find3 z ⟨#[c]⟩ (a : Int) = match Tok.find c ((codesOf z).drop a) with
    | none => -1
    | some k => ((a + k : Nat) : Int) := by
  have hl : z.length = (codesOf z).length := len_codes z
  have hf : fromIndex z.length (a : Int) = a := by
    unfold fromIndex
    rw [if_neg (by omega)]
    omega
  rcases PySem.StrLaws.find3_spec z c (a : Int) with ⟨h1, h2⟩ | ⟨k, h1, h2, h3, h4, h5⟩
  · rw [h1]
    cases q : Tok.find c ((codesOf z).drop a) with
    | none => rfl
    | some m =>
      obtain ⟨e1, _⟩ := find_some q
      rw [List.getElem?_drop] at e1
      have hlt : a + m < (codesOf z).length := by
        rcases Nat.lt_or_ge (a + m) (codesOf z).length with x | x
        · exact x
        · rw [List.getElem?_eq_none x] at e1; cases e1
      have := h2 (a + m) (by omega) (by omega)
      rw [getD_cps hlt] at this
      rw [List.getElem?_eq_getElem hlt] at e1
      injection e1 with e1
      exact absurd e1 this
  · rw [h1]
    rw [hf] at h2 h5
    have hk : k < (codesOf z).length := by omega
    rw [getD_cps hk] at h4
    cases q : Tok.find c ((codesOf z).drop a) with
    | none =>
      have := find_none q (k - a)
      rw [List.getElem?_drop, show a + (k - a) = k by omega, List.getElem?_eq_getElem hk, h4] at this
      exact absurd rfl this
    | some m =>
      obtain ⟨e1, e2⟩ := find_some q
      rw [List.getElem?_drop] at e1
      have hlt : a + m < (codesOf z).length := by
        rcases Nat.lt_or_ge (a + m) (codesOf z).length with x | x
        · exact x
        · rw [List.getElem?_eq_none x] at e1; cases e1
      rw [List.getElem?_eq_getElem hlt] at e1
      injection e1 with e1
      rcases Nat.lt_trichotomy k (a + m) with x | x | x
      · have := e2 (k - a) (by omega)
        rw [List.getElem?_drop, show a + (k - a) = k by omega, List.getElem?_eq_getElem hk, h4] at this
        exact absurd rfl this
      · show (k : Int) = ((a + m : Nat) : Int)
        rw [x]
      · have := h5 (a + m) (by omega) x
        rw [getD_cps hlt] at this
        exact absurd e1 this
theorem sb_c {f c : Nat} {r : List Nat} (h : c ≠ 39) : Tok.strBody (f + 1) (c :: r) = (match Tok.strBody f r with | some (t, n) => some (c :: t, n + 1) | none => none) := by
  rw [Tok.strBody.eq_def]
  exact if_neg h
theorem sb_q2 {f : Nat} {r : List Nat} : Tok.strBody (f + 1) (39 :: 39 :: r) = (match Tok.strBody f r with | some (t, n) => some (39 :: t, n + 2) | none => none) := by
  rw [Tok.strBody.eq_def]
  exact if_pos rfl
theorem sb_q1 {f : Nat} {r : List Nat} (h : r.head? ≠ some 39) : Tok.strBody (f + 1) (39 :: r) = some ([], 1) := by
  rw [Tok.strBody.eq_def]
  refine (if_pos rfl).trans ?_
  split
  · rename_i r' _
    exact absurd rfl h
  · rfl
/-- more fuel than signs is as good -/
theorem sb_fuel : ∀ (n : Nat) (l : List Nat) (f g : Nat), l.length ≤ n → l.length ≤ f → l.length ≤ g → Tok.strBody f l = Tok.strBody g l := by
  intro n
  induction n using Nat.strongRecOn with
  | ind n ih =>
    intro l f g hn hf hg
    cases l with
    | nil =>
      cases f <;> cases g <;> rfl
    | cons c r =>
      simp at hn hf hg
      cases f with
      | zero => omega
      | succ f =>
        cases g with
        | zero => omega
        | succ g =>
          by_cases e : c = 39
          · subst e
            by_cases e2 : r.head? = some 39
            · cases r with
              | nil => cases e2
              | cons d r =>
                injection e2 with e2
                subst e2
                simp at hn hf hg
                rw [sb_q2, sb_q2, ih (n - 1) (by omega) r f g (by omega) (by omega) (by omega)]
            · rw [sb_q1 e2, sb_q1 e2]
          · rw [sb_c e, sb_c e, ih (n - 1) (by omega) r f g (by omega) (by omega) (by omega)]
/-- what stands for itself up to the next quote -/
def body (l : List Nat) : Option (List Nat × Nat) := Tok.strBody l.length l
theorem sb_body {f : Nat} {l : List Nat} (h : l.length ≤ f) : Tok.strBody f l = body l := sb_fuel l.length l f l.length (Nat.le_refl _) h (Nat.le_refl _)
theorem body_cons {c : Nat} {r : List Nat} (h : c ≠ 39) : body (c :: r) = (match body r with | some (t, n) => some (c :: t, n + 1) | none => none) := sb_c h
theorem body_two {r : List Nat} : body (39 :: 39 :: r) = (match body r with | some (t, n) => some (39 :: t, n + 2) | none => none) := by
  have h : body (39 :: 39 :: r) = (match Tok.strBody (r.length + 1) r with | some (t, n) => some (39 :: t, n + 2) | none => none) := sb_q2
  rw [h, sb_body (Nat.le_succ _)]
theorem body_end {r : List Nat} (h : r.head? ≠ some 39) : body (39 :: r) = some ([], 1) := sb_q1 h
/-- how long -/
def bodyLen (l : List Nat) : Option Nat := (body l).map (·.2)
theorem bodyLen_find : ∀ l : List Nat, bodyLen l = match Tok.find 39 l with
    | none => none
    | some k => (bodyLen (l.drop k)).map (· + k)
  | [] => rfl
  | c :: r => by
    unfold Tok.find
    by_cases e : c = 39
    · rw [if_pos e]
      simp
    · rw [if_neg e]
      have ih := bodyLen_find r
      unfold bodyLen at ih ⊢
      rw [body_cons e]
      cases q : Tok.find 39 r with
      | none =>
        rw [q] at ih
        cases h : body r with
        | none => rfl
        | some x => rw [h] at ih; cases ih
      | some k =>
        rw [q] at ih
        show _ = Option.map (· + (k + 1)) (Option.map (·.2) (body (r.drop k)))
        have ih : (body r).map (·.2) = ((body (r.drop k)).map (·.2)).map (· + k) := ih
        generalize body (r.drop k) = B at ih ⊢
        cases h : body r with
        | none =>
          rw [h] at ih
          cases B with
          | none => rfl
          | some y => cases ih
        | some x =>
          rw [h] at ih
          cases B with
          | none => cases ih
          | some y =>
            simp at ih ⊢
            omega
theorem next_q (z : Str) (a : Nat) (ha : a ≤ (codesOf z).length) : (Txt.find3 z ⟨#[39]⟩ (a : Int) = -1 ∧ bodyLen ((codesOf z).drop a) = none) ∨
    ∃ n : Nat, Txt.find3 z ⟨#[39]⟩ (a : Int) = (n : Int) ∧ a ≤ n ∧ n < (codesOf z).length ∧ (codesOf z)[n]? = some 39 ∧ bodyLen ((codesOf z).drop a) = (bodyLen ((codesOf z).drop n)).map (· + (n - a)) := by
  have h := find_codes z 39 a ha
  have hb := bodyLen_find ((codesOf z).drop a)
  cases q : Tok.find 39 ((codesOf z).drop a) with
  | none => rw [q] at h hb; exact .inl ⟨h, hb⟩
  | some k =>
    rw [q] at h hb
    obtain ⟨e1, _⟩ := find_some q
    rw [List.getElem?_drop] at e1
    have hlt : a + k < (codesOf z).length := by
      rcases Nat.lt_or_ge (a + k) (codesOf z).length with x | x
      · exact x
      · rw [List.getElem?_eq_none x] at e1; cases e1
    refine .inr ⟨a + k, h, by omega, hlt, e1, ?_⟩
    rw [hb]
    show Option.map _ (bodyLen (((codesOf z).drop a).drop k)) = _
    rw [List.drop_drop, Nat.add_sub_cancel_left]
theorem drop_at {l : List Nat} {n c : Nat} (h : l[n]? = some c) : l.drop n = c :: l.drop (n + 1) := by
  have hlt : n < l.length := by
    rcases Nat.lt_or_ge n l.length with x | x
    · exact x
    · rw [List.getElem?_eq_none x] at h; cases h
  rw [List.drop_eq_getElem_cons hlt]
  rw [List.getElem?_eq_getElem hlt] at h
  injection h with h
  rw [h]
theorem bodyLen_two {r : List Nat} : bodyLen (39 :: 39 :: r) = (bodyLen r).map (· + 2) := by
  unfold bodyLen
  rw [body_two]
  cases body r <;> rfl
theorem bodyLen_end {r : List Nat} (h : r.head? ≠ some 39) : bodyLen (39 :: r) = some 1 := by
  unfold bodyLen
  rw [body_end h]
  rfl
def spStrEnd : Sp := fun vs H Q _ => ∃ (z : Str) (p : Nat), vs = [.str z, .int (p : Int)] ∧ Src z ∧ p < (codesOf z).length ∧ Q (.int (match bodyLen ((codesOf z).drop (p + 1)) with | none => 0 | some n => ((p + 1 + n : Nat) : Int))) H
section
variable {P : Program} {w : World} {K : PySem.W.Frag} {mg : Str → Option Value} {base : Heap}
theorem sc_string_end : FnScope ["text", "place", "end"] ["text", "place"] (defScope s_string_end) := ⟨rfl, rfl, rfl, by decide +kernel, rfl, by decide +kernel, by decide +kernel⟩
theorem ok_string_end {f : Addr} {fd : FuncData} (F : FnP K "string_end" s_string_end f fd) : FnOk P w K mg base CX0 2 f fd ["text", "place"] spStrEnd := by
  refine F.ok sc_string_end (fun vs H Q E h => ?_) (fun cdv A outer s H vs Q E hr h => ⟨_, PSs.nox
    (pss_cons (ps_set (i := 2) sc_string_end.nd rfl (Or.inl rfl) (pe_bm PySem.F.plainAttrs_str PySem.F.slot_str_find PySem.F.type_str_find mt_find3 (pv 0) (pa_cons pe_str (pa_cons (pe_op op_add (pv 1) pe_int) pa_nil))))
      (pss_cons (ps_while PassesOwn.never (PW.pt (pw_and (pt_cmpR op_ge (pv 2) pe_int (nomark _)) (pw_and1 (pt_cmpR op_eq (pe_slice sl_str (pv 0) (po_some (pe_op op_add (pv 2) pe_int)) (po_some (pe_op op_add (pv 2) pe_int))) pe_str (nomark _))))) (pss_one (ps_set (i := 2) sc_string_end.nd rfl (Or.inl rfl) (pe_bm PySem.F.plainAttrs_str PySem.F.slot_str_find PySem.F.type_str_find mt_find3 (pv 0) (pa_cons pe_str (pa_cons (pe_op op_add (pv 2) pe_int) pa_nil))))))
      (pss_one (ps_ret (pe_op op_add (pv 2) pe_int))))), ?_⟩)
  · obtain ⟨z, p, rfl, _⟩ := h
    rfl
  · obtain ⟨z, p, rfl, hz, hp, q⟩ := h
    have hs := sz_src hz
    have k39 : ("'" : Str) = ⟨#[39]⟩ := by decide +kernel
    refine ⟨_, rfl, rfl, _, rfl, _, _, rfl, rfl, _, _, _, rfl, rfl, ?_⟩
    rw [k39]
    have e1 : (p : Int) + 1 = ((p + 1 : Nat) : Int) := by omega
    refine while_by (fun σ H' => H' = H ∧ ∃ e : Int, σ = [some (.str z), some (.int (p : Int)), some (.int e)] ∧ ((e = -1 ∧ bodyLen ((codesOf z).drop (p + 1)) = none) ∨
        ∃ n : Nat, e = (n : Int) ∧ p + 1 ≤ n ∧ n < (codesOf z).length ∧ (codesOf z)[n]? = some 39 ∧ bodyLen ((codesOf z).drop (p + 1)) = (bodyLen ((codesOf z).drop n)).map (· + (n - (p + 1)))))
      (fun σ _ => match σ with | [_, _, some (.int e)] => if e < 0 then 0 else (codesOf z).length - e.toNat | _ => 0) ⟨rfl, _, rfl, ?_⟩ ?_ ?_
    · have := next_q z (p + 1) (by omega)
      rw [← e1] at this
      exact this
    · rintro _ H0 ⟨hH, e, rfl, h⟩
      subst hH
      refine ⟨_, rfl, _, _, rfl, rfl, _, rfl, ?_⟩
      rcases h with ⟨h1, h2⟩ | ⟨n, rfl, h1, h2, h3, h4⟩
      · subst h1
        refine ite2 (fun y => absurd (of_decide_eq_true y) (by decide)) (fun _ => ?_)
        rw [h2] at q
        exact ⟨_, rfl, _, _, rfl, rfl, q⟩
      · refine ite2 (fun _ => ?_) (fun y => absurd (decide_eq_true (by omega)) y)
        have e2 : (n : Int) + 1 = ((n + 1 : Nat) : Int) := by omega
        have e3 : (n : Int) + 2 = ((n + 2 : Nat) : Int) := by omega
        have cut := cut_codes z (n + 1) (n + 2) (by omega)
        rw [show n + 2 - (n + 1) = 1 by omega] at cut
        refine ⟨_, rfl, _, rfl, _, _, rfl, rfl, _, rfl, _, rfl, _, _, rfl, rfl, _, rfl, z, rfl, hs, rfl, _, rfl, ?_⟩
        have hd := drop_at h3
        refine ite2 (fun hx => ?_) (fun hx => ?_)
        · have hx : ((codesOf z).drop (n + 1)).take 1 = [39] := by
            rw [eq_txt, e2, e3, cut] at hx
            exact strOf_inj.mp hx
          rw [take1_is] at hx
          have hlt : n + 1 < (codesOf z).length := by
            rcases Nat.lt_or_ge (n + 1) (codesOf z).length with x | x
            · exact x
            · rw [List.drop_eq_nil_of_le x] at hx; cases hx
          have hd2 : (codesOf z).drop (n + 1) = 39 :: (codesOf z).drop (n + 2) := drop_at (by rw [List.getElem?_eq_getElem hlt]; rw [List.drop_eq_getElem_cons hlt] at hx; exact hx)
          rw [hd, hd2, bodyLen_two] at h4
          refine ⟨_, rfl, rfl, _, rfl, _, _, rfl, rfl, _, _, _, rfl, rfl, ?_⟩
          rw [e3]
          rcases next_q z (n + 2) (by omega) with ⟨g1, g2⟩ | ⟨m, g1, g2, g3, g4, g5⟩
          · rw [g1]
            rw [g2] at h4
            refine ⟨⟨rfl, _, rfl, .inl ⟨rfl, h4⟩⟩, ?_⟩
            show (if (-1 : Int) < 0 then 0 else _) < (if (n : Int) < 0 then 0 else (codesOf z).length - (n : Int).toNat)
            rw [if_pos (by decide), if_neg (by omega)]
            omega
          · rw [g1]
            refine ⟨⟨rfl, _, rfl, .inr ⟨m, rfl, by omega, g3, g4, ?_⟩⟩, ?_⟩
            · rw [h4, g5, Option.map_map, Option.map_map]
              congr 1
              funext x
              show x + (m - (n + 2)) + 2 + (n - (p + 1)) = x + (m - (p + 1))
              omega
            · show (if (m : Int) < 0 then 0 else (codesOf z).length - (m : Int).toNat) < (if (n : Int) < 0 then 0 else (codesOf z).length - (n : Int).toNat)
              rw [if_neg (by omega), if_neg (by omega)]
              omega
        · have hx : ((codesOf z).drop (n + 1)).head? ≠ some 39 := fun y => by
            apply hx
            rw [eq_txt, e2, e3, cut, (take1_is _ _).mpr y]
            rfl
          rw [hd, bodyLen_end hx] at h4
          rw [h4] at q
          refine ⟨_, rfl, _, _, rfl, rfl, ?_⟩
          have : ((p + 1 + (1 + (n - (p + 1))) : Nat) : Int) = (n : Int) + 1 := by omega
          show Q (V.int ((n : Int) + 1)) H0
          rw [← this]
          exact q
    · rintro σ H Q Q' hq ⟨a1, h1, a2, a3, h2, h3, k, h4, h⟩
      refine ⟨a1, h1, a2, a3, h2, h3, k, h4, ?_⟩
      split at h
      · rename_i x
        rw [if_pos x]
        obtain ⟨b1, g1, b2, g2, b3, b4, g3, g4, b5, g5, b6, g6, b7, b8, g7, g8, b9, g9, b10, g10, g11, g12, b11, g13, h⟩ := h
        exact ⟨b1, g1, b2, g2, b3, b4, g3, g4, b5, g5, b6, g6, b7, b8, g7, g8, b9, g9, b10, g10, g11, g12, b11, g13, hq _ _ h⟩
      · rename_i x
        rw [if_neg x]
        exact hq _ _ h
end
end My

end
section
set_option Elab.async false
set_option linter.all false
set_option maxRecDepth 100000
set_option maxHeartbeats 2000000
namespace My
open PySem PySem.Spec PyProof.Rows L2 StrLaws
section
variable {X : Cx}
/-- a written text ahead of the others: behind it a token is out -/
theorem pa_strT {j : Nat} {c : Str} {cpos : Pos} {es : List Expr} {ta : TA} (h : PAT X es ta) (hs : starEach (.Constant (.str c) j cpos :: es) X.env = (false, eval (.Constant (.str c) j cpos) X.env) :: starEach es X.env := by rfl) : PA X (.Constant (.str c) j cpos :: es) (tCons (tC (.str c)) ta) := by
  refine ⟨fun pos pins s σ H Q I q => ?_⟩
  rw [hs]
  show wpAny _ _ (spliced ((false, eval (.Constant (.str c) j cpos) X.env) :: backTo pos (starEach es X.env))) _ _ s
  refine Calls.spliced_cons (Calls.Constant_str ?_)
  exact thn (h pos pins { s with toks := s.toks + 1 } σ H _ (by show 1 ≤ s.toks + 1; omega) (I.tok _) q) fun us s2 ⟨xs, H2, I2, r2, q2⟩ => ⟨.str c :: xs, H2, I2, .cons ⟨_, rfl⟩ r2, q2⟩
end
theorem undouble : ∀ (n : Nat) (l : List Nat), l.length ≤ n → ∀ t m, body l = some (t, m) → 1 ≤ m ∧ m ≤ l.length ∧ replL [39, 39] [39] (l.take (m - 1)) = t := by
  intro n
  induction n using Nat.strongRecOn with
  | ind n ih =>
    intro l hn t m h
    cases l with
    | nil => cases h
    | cons c r =>
      simp at hn
      by_cases e : c = 39
      · subst e
        by_cases e2 : r.head? = some 39
        · cases r with
          | nil => cases e2
          | cons d r =>
            injection e2 with e2
            subst e2
            simp at hn
            rw [body_two] at h
            cases q : body r with
            | none => rw [q] at h; cases h
            | some x =>
              obtain ⟨t', m'⟩ := x
              rw [q] at h
              cases h
              obtain ⟨h1, h2, h3⟩ := ih (n - 1) (by omega) r (by omega) t' m' q
              refine ⟨by omega, by simp; omega, ?_⟩
              show replL [39, 39] [39] ((39 :: 39 :: r).take (m' + 1)) = _
              obtain ⟨k, rfl⟩ : ∃ k, m' = k + 1 := ⟨m' - 1, by omega⟩
              show replL [39, 39] [39] (39 :: 39 :: r.take k) = _
              rw [replL_hit (by decide) (by rfl)]
              show [39] ++ replL [39, 39] [39] (r.take k) = _
              rw [show k + 1 - 1 = k from rfl] at h3
              rw [h3]
              rfl
        · rw [body_end e2] at h
          cases h
          refine ⟨Nat.le_refl _, by simp, ?_⟩
          exact replL_nil
      · rw [body_cons e] at h
        cases q : body r with
        | none => rw [q] at h; cases h
        | some x =>
          obtain ⟨t', m'⟩ := x
          rw [q] at h
          cases h
          obtain ⟨h1, h2, h3⟩ := ih (n - 1) (by omega) r (by omega) t' m' q
          refine ⟨by omega, by simp; omega, ?_⟩
          obtain ⟨k, rfl⟩ : ∃ k, m' = k + 1 := ⟨m' - 1, by omega⟩
          show replL [39, 39] [39] (c :: r.take k) = _
          rw [replL_miss (by intro y; injection y with y _; exact e y)]
          rw [show k + 1 - 1 = k from rfl] at h3
          rw [h3]
def strWord (r : List Nat) : Option (Tok.Kd × Tok.Val × Nat) := match body r with
  | none => none
  | some (t, n) => some (.str, .s t, n + 1)
def spStrAt : Sp := fun vs H Q _ => ∃ (z : Str) (p : Nat), vs = [.str z, .int (p : Int)] ∧ Src z ∧ p < (codesOf z).length ∧ wOut H Q p (strWord ((codesOf z).drop (p + 1)))
section
variable {P : Program} {w : World} {K : PySem.W.Frag} {mg : Str → Option Value} {base : Heap}
theorem sc_string_at : FnScope ["text", "place", "end"] ["text", "place"] (defScope s_string_at) := ⟨rfl, rfl, rfl, by decide +kernel, rfl, by decide +kernel, by decide +kernel⟩
theorem ok_string_at {f fE : Addr} {fd fdE : FuncData} (F : FnP K "string_at" s_string_at f fd) (FE : FnP K "string_end" s_string_end fE fdE) (g_string_end : mg "string_end" = some (.ref fE)) : FnOk P w K mg base CX0 3 f fd ["text", "place"] spStrAt := by
  have G_string_end : FnOk P w K mg base CX0 2 fE fdE _ spStrEnd := ok_string_end FE
  have b_string_end : Binds K fdE ["text", "place"] [] := FE.bindsN fun _ _ _ _ _ _ us hl => match us, hl with | [_, _], _ => rfl
  have k_string_end := FE.kp
  refine F.ok sc_string_at (fun vs H Q E h => ?_) (fun cdv A outer s H vs Q E hr h => ⟨_, PSs.nox
    (pss_cons (ps_set (i := 2) sc_string_at.nd rfl (Or.inl rfl) (pe_call G_string_end (hr.mono (by decide)) rfl g_string_end k_string_end b_string_end .nil pass0 (pa_cons (pv 0) (pa_cons (pv 1) pa_nil))))
      (pss_cons (ps_if (pt_cmpR op_eq (pv 2) pe_int (nomark _)) (pss_one (ps_ret pe_non)) pss_nil)
      (pss_one (ps_ret (pe_tup (pa_strT (pat_cons (CwR.pet_replC (pe_slice sl_str (pv 0) (po_some (pe_op op_add (pv 1) pe_int)) (po_some (pe_op op_sub (pv 2) pe_int)))) (pat_cons (CwR.PET.of (pv 2)) pat_nil)))))))), ?_⟩)
  · obtain ⟨z, p, rfl, _⟩ := h
    rfl
  · obtain ⟨z, p, rfl, hz, hp, q⟩ := h
    have hs := sz_src hz
    refine ⟨_, rfl, _, rfl, z, p, rfl, hz, hp, ?_⟩
    unfold strWord at q
    cases hb : body ((codesOf z).drop (p + 1)) with
    | none =>
      rw [hb] at q
      rw [show bodyLen ((codesOf z).drop (p + 1)) = none by unfold bodyLen; rw [hb]; rfl]
      refine ⟨_, rfl, rfl, _, rfl, ?_⟩
      exact ite2 (fun _ => q.no) (fun y => absurd (decide_eq_true rfl) y)
    | some x =>
      obtain ⟨t, n⟩ := x
      rw [hb] at q
      rw [show bodyLen ((codesOf z).drop (p + 1)) = some n by unfold bodyLen; rw [hb]; rfl]
      obtain ⟨h1, h2, h3⟩ := undouble _ _ (Nat.le_refl _) t n hb
      refine ⟨_, rfl, rfl, _, rfl, ?_⟩
      refine ite2 (fun y => ?_) (fun _ => ?_)
      · have y : V.int ((p + 1 + n : Nat) : Int) = V.int 0 := of_decide_eq_true y
        injection y with y
        omega
      · have e1 : (p : Int) + 1 = ((p + 1 : Nat) : Int) := by omega
        have e2 : ((p + 1 + n : Nat) : Int) - 1 = ((p + n : Nat) : Int) := by omega
        have cut := cut_codes z (p + 1) (p + n) (by omega)
        rw [show p + n - (p + 1) = n - 1 by omega] at cut
        have e3 : (p : Int) + ((n + 1 : Nat) : Int) = ((p + 1 + n : Nat) : Int) := by omega
        have hrep : Txt.replace (strOf (((codesOf z).drop (p + 1)).take (n - 1))) ("''" : Str) ("'" : Str) = strOf t := by
          have k2 : ("''" : Str) = strOf [39, 39] := by decide +kernel
          have k1 : ("'" : Str) = strOf [39] := by decide +kernel
          rw [← strOf_codes (Txt.replace _ _ _)]
          rw [strOf_inj]
          refine (replace_list (by decide +kernel)).trans ?_
          rw [k1, k2]
          rw [← h3]
          show replL (codesOf (strOf [39, 39])) (codesOf (strOf [39])) (codesOf (strOf (((codesOf z).drop (p + 1)).take (n - 1)))) = _
          rw [codes_strOf, codes_strOf, codes_strOf]
        have hlen : (strOf (((codesOf z).drop (p + 1)).take (n - 1))).length ≤ 2000 := by
          have := hz.len
          rw [len_codes, codes_strOf, List.length_take, List.length_drop]
          omega
        refine ⟨_, rfl, _, rfl, _, _, rfl, rfl, _, rfl, _, rfl, _, _, rfl, rfl, _, rfl, z, rfl, hs, _, rfl, ?_, _, rfl, (by show 3 ≤ sizeLine; decide), fun r hr => ?_⟩
        · show (cutS z (some ((p : Int) + 1)) (some (((p + 1 + n : Nat) : Int) - 1))).length + _ * _ ≤ _
          rw [e1, e2, cut]
          have : ("'" : Str).length = 1 := by decide +kernel
          rw [this]
          omega
        · have := q.at_ r hr
          rw [← Nat.add_assoc, Nat.add_right_comm] at this
          show Q (.ref r) (upd H r (.tup [.str _, .str (Txt.replace (cutS z (some ((p : Int) + 1)) (some (((p + 1 + n : Nat) : Int) - 1))) _ _), .int _]))
          rw [e1, e2, cut, hrep]
          exact this
end
end My

end
section
set_option Elab.async false
set_option linter.all false
set_option maxRecDepth 100000
set_option maxHeartbeats 2000000
namespace My
open PySem PySem.Spec PyProof.Rows L2
abbrev s_listed_at : Stmt := top 39
abbrev s_symbol_at : Stmt := top 38
def spListed (K : PySem.W.Frag) : Sp := fun vs H Q _ => ∃ (kd : Str) (a : Addr) (ws : List (List Nat)) (z : Str) (p : Nat), vs = [.str kd, .ref a, .str z, .int (p : Int)] ∧ SqT K H a (ws.map fun x => V.str (strOf x)) ∧ Src z ∧ p ≤ (codesOf z).length ∧
  [] ∉ ws ∧
  (0 < Tok.listed ws ((codesOf z).drop p) → ∀ r H', Same H H' → H r = none → H' r = some (.tup [.str kd, .str (strOf (((codesOf z).drop p).take (Tok.listed ws ((codesOf z).drop p)))), .int ((p + Tok.listed ws ((codesOf z).drop p) : Nat) : Int)]) → Q (.ref r) H') ∧
  (Tok.listed ws ((codesOf z).drop p) = 0 → ∀ H', Same H H' → Q .non H')
theorem mem_ws {ws : List (List Nat)} {x : List Nat} : inV (V.str (strOf x)) (ws.map fun x => V.str (strOf x)) = decide (x ∈ ws) := by
  unfold inV
  rw [Bool.eq_iff_iff, List.any_eq_true, decide_eq_true_iff]
  constructor
  · rintro ⟨v, hv, h⟩
    obtain ⟨y, hy, rfl⟩ := List.mem_map.mp hv
    have : strOf y = strOf x := by simpa [eqV] using h
    rw [← strOf_inj.mp this]
    exact hy
  · intro h
    exact ⟨_, List.mem_map.mpr ⟨x, h, rfl⟩, by simp [eqV]⟩
section
variable {P : Program} {w : World} {K : PySem.W.Frag} {mg : Str → Option Value} {base : Heap}
theorem sc_listed_at : FnScope ["kind", "words", "text", "place", "width", "found"] ["kind", "words", "text", "place"] (defScope s_listed_at) := ⟨rfl, rfl, rfl, by decide +kernel, rfl, by decide +kernel, by decide +kernel⟩
theorem ok_listed_at {f : Addr} {fd : FuncData} (F : FnP K "listed_at" s_listed_at f fd) (g_len : mg "len" = none) : FnOk P w K mg base CX0 2 f fd ["kind", "words", "text", "place"] (spListed K) := by
  refine F.ok sc_listed_at (fun vs H Q E h => ?_) (fun cdv A outer s H vs Q E hr h => ⟨_, PSs.nox
    (pss_cons (ps_for PassesOwn.never rfl (pi_tup (pe_tup (pa_cons pe_int (pa_cons pe_int pa_nil)))) (pg_name (i := 4) sc_listed_at.nd rfl (Or.inl rfl)) (pss_cons (ps_set (i := 5) sc_listed_at.nd rfl (Or.inl rfl) (pe_slice sl_str (pv 2) (po_some (pv 3)) (po_some (pe_op op_add (pv 3) (pv 4)))))
      (pss_one (ps_if (pt_cmpR op_in_seq (pv 5) (pv 1) (by rfl)) (pss_one (ps_ret (pe_tup (pa_cons (pv 0) (pa_cons (pv 5) (pa_cons (pe_op op_add (pv 3) (pe_callB call_len_str (by rfl) g_len PySem.boot_len (pa_cons (pv 5) pa_nil))) pa_nil)))))) pss_nil))))
      (pss_one (ps_ret pe_non))), ?_⟩)
  · obtain ⟨kd, a, ws, z, p, rfl, _⟩ := h
    rfl
  · obtain ⟨kd, a, ws, z, p, rfl, hw, hz, hp, hn, q1, q0⟩ := h
    have hs := sz_src hz
    have hflat : (ws.map fun x => V.str (strOf x)).all flatV = true := by
      rw [List.all_eq_true]
      intro v hv
      obtain ⟨y, _, rfl⟩ := List.mem_map.mp hv
      rfl
    refine ⟨(by show 2 ≤ sizeLine; decide), fun b nb => ?_⟩
    generalize hHb : upd H b (.tup [V.int 2, V.int 1]) = Hb
    have sb : Same H Hb := by rw [← hHb]; exact same_upd nb
    have hb : SqT K Hb b [V.int 2, V.int 1] := by rw [← hHb]; exact SqT.of upd_same
    have hw' : SqT K Hb a (ws.map fun x => V.str (strOf x)) := SqT.mono sb hw
    refine ⟨_, rfl, ⟨_, hb⟩, for_tup (xs := [V.int 2, V.int 1]) (fun i σ H' => H' = Hb ∧ ∃ x y, σ = [some (.str kd), some (.ref a), some (.str z), some (.int (p : Int)), x, y] ∧ (1 ≤ i → ((codesOf z).drop p).take 2 ∉ ws) ∧ (2 ≤ i → ((codesOf z).drop p).take 1 ∉ ws)) ⟨rfl, _, _, rfl, fun h => by omega, fun h => by omega⟩ ?_ ?_ ?_⟩
    · rintro i _ _ _ ⟨rfl, _⟩
      exact hb
    · have turn : ∀ (wd : Nat) (x y : Option V) (D : Ends), (((codesOf z).drop p).take wd ∈ ws → Tok.listed ws ((codesOf z).drop p) = (((codesOf z).drop p).take wd).length) → (((codesOf z).drop p).take wd ∉ ws → ∀ y', D.nx [some (.str kd), some (.ref a), some (.str z), some (.int (p : Int)), some (.int (wd : Int)), y'] Hb) → D.rt = Q →
          (tSeq (tAsg (tSl rSlS (tVar 2) (tPart (tVar 3)) (tPart (tOp (rI0 fun i j => V.int (i + j)) (tVar 3) (tVar 4)))) (gName 5))
            (tIfS (tTest (tOp (rIn K false) (tVar 5) (tVar 1)))
              (tRet (tTup (tCons (tVar 0) (tCons (tVar 5) (tCons (tOp (rI0 fun i j => V.int (i + j)) (tVar 3) (tCB (fun xs H Q => ∃ z, xs = [V.str z] ∧ z.length ≤ sizeLine ∧ Q (V.int ↑z.length) H) (tCons (tVar 5) tNil))) tNil))))) tNext)) D
          [some (.str kd), some (.ref a), some (.str z), some (.int (p : Int)), some (.int (wd : Int)), y] Hb := by
        intro wd x y D h1 h2 hD
        have e1 : (p : Int) + (wd : Int) = ((p + wd : Nat) : Int) := by omega
        have cut := cut_codes z p (p + wd) (by omega)
        rw [Nat.add_sub_cancel_left] at cut
        refine ⟨_, rfl, _, rfl, _, rfl, _, rfl, _, rfl, _, _, rfl, rfl, _, rfl, z, rfl, hs, ?_⟩
        rw [e1, cut]
        refine ⟨_, rfl, _, rfl, a, _, rfl, .inr hw', rfl, hflat, _, rfl, ?_⟩
        rw [mem_ws]
        refine ite2 (fun hx => ?_) (fun hx => ?_)
        · have hx := of_decide_eq_true hx
          have e := h1 hx
          have hlen : (strOf (((codesOf z).drop p).take wd)).length = (((codesOf z).drop p).take wd).length := by rw [len_codes, codes_strOf]
          refine ⟨_, rfl, _, rfl, _, rfl, _, rfl, _, rfl, ?_, _, _, rfl, rfl, (by show 3 ≤ sizeLine; decide), fun r hr => ?_⟩
          · rw [hlen, List.length_take, List.length_drop]
            have := hz.len
            rw [sizeLine_eq]
            omega
          · rw [hD]
            have ne : ((codesOf z).drop p).take wd ≠ [] := fun y => hn (y ▸ hx)
            have pos : 0 < Tok.listed ws ((codesOf z).drop p) := by
              rw [e]
              exact List.length_pos_iff.mpr ne
            have tk : ((codesOf z).drop p).take (Tok.listed ws ((codesOf z).drop p)) = ((codesOf z).drop p).take wd := by
              rw [e, List.length_take, List.take_eq_take_iff]
              omega
            refine q1 pos r _ (sb.trans (same_upd hr)) (sb.free hr) ?_
            rw [tk, e, hlen]
            exact upd_same
        · exact h2 (fun y => hx (decide_eq_true y)) _
      rintro i v σ H2 hi ⟨rfl, x, y, rfl, g1, g2⟩
      match i, hi with
      | 0, hi =>
        cases hi
        refine turn 2 x y _ (fun h => ?_) (fun h y' => ⟨rfl, _, _, rfl, fun _ => h, fun z => by omega⟩) rfl
        unfold Tok.listed
        rw [if_pos h]
      | 1, hi =>
        cases hi
        have n2 := g1 (Nat.le_refl _)
        refine turn 1 x y _ (fun h => ?_) (fun h y' => ⟨rfl, _, _, rfl, fun _ => n2, fun z => h⟩) rfl
        unfold Tok.listed
        rw [if_neg n2, if_pos h]
      | i + 2, hi => simp at hi
    · rintro σ H2 ⟨rfl, x, y, rfl, g1, g2⟩
      refine q0 ?_ _ sb
      unfold Tok.listed
      rw [if_neg (g1 (by decide)), if_neg (g2 (by decide))]
end
end My

end
section
set_option Elab.async false
set_option linter.all false
set_option maxRecDepth 100000
set_option maxHeartbeats 2000000
namespace My
open PySem PySem.Spec PyProof.Rows L2
theorem keyLen_len (l : List Nat) : Tok.keyLen l ≤ l.length := by
  unfold Tok.keyLen
  split
  · rename_i h
    have : Tok.nameLen l < l.length := by
      rcases Nat.lt_or_ge (Tok.nameLen l) l.length with x | x
      · exact x
      · rw [List.drop_eq_nil_of_le x] at h
        cases h.2.1
    omega
  · exact Nat.zero_le _
theorem keys_fuel : ∀ (n : Nat) (l : List Nat) (f g : Nat), l.length ≤ n → l.length ≤ f → l.length ≤ g → Tok.keysLen f l = Tok.keysLen g l := by
  intro n
  induction n using Nat.strongRecOn with
  | ind n ih =>
    intro l f g hn hf hg
    have h0 : Tok.keyLen l ≤ l.length := keyLen_len l
    cases f with
    | zero =>
      cases g with
      | zero => rfl
      | succ g =>
        show 0 = (if 0 < Tok.keyLen l then _ else 0)
        rw [if_neg (by omega)]
    | succ f =>
      cases g with
      | zero =>
        show (if 0 < Tok.keyLen l then _ else 0) = 0
        rw [if_neg (by omega)]
      | succ g =>
        show (if 0 < Tok.keyLen l then _ else 0) = (if 0 < Tok.keyLen l then _ else 0)
        by_cases c : 0 < Tok.keyLen l
        · rw [if_pos c, if_pos c]
          rw [ih (n - 1) (by omega) (l.drop (Tok.keyLen l)) f g (by rw [List.length_drop]; omega) (by rw [List.length_drop]; omega) (by rw [List.length_drop]; omega)]
        · rw [if_neg c, if_neg c]
def keys (l : List Nat) : Nat := Tok.keysLen l.length l
theorem keys_eq (l : List Nat) : keys l = if 0 < Tok.keyLen l then Tok.keyLen l + keys (l.drop (Tok.keyLen l)) else 0 := by
  have h0 : Tok.keyLen l ≤ l.length := keyLen_len l
  have e : keys l = Tok.keysLen (l.length + 1) l := keys_fuel l.length l _ _ (Nat.le_refl _) (Nat.le_refl _) (Nat.le_succ _)
  rw [e]
  show (if 0 < Tok.keyLen l then Tok.keyLen l + Tok.keysLen l.length (l.drop (Tok.keyLen l)) else 0) = _
  by_cases c : 0 < Tok.keyLen l
  · rw [if_pos c, if_pos c]
    unfold keys
    rw [keys_fuel l.length (l.drop (Tok.keyLen l)) l.length _ (by rw [List.length_drop]; omega) (by rw [List.length_drop]; omega) (Nat.le_refl _)]
  · rw [if_neg c, if_neg c]
def symWord (r : List Nat) : Option (Tok.Kd × Tok.Val × Nat) := (Tok.symbol r).map fun x => (.sym, x.1, x.2 + 1)
def spSymAt : Sp := fun vs H Q _ => ∃ (z : Str) (p : Nat), vs = [.str z, .int (p : Int)] ∧ Src z ∧ p < (codesOf z).length ∧ wOut H Q p (symWord ((codesOf z).drop (p + 1)))
/-- a tuple of the module: these texts -/
def TupAt (K : PySem.W.Frag) (mg : Str → Option Value) (x : Str) (ws : List (List Nat)) : Prop := ∃ a, mg x = some (.ref a) ∧ ∀ H, SqT K H a (ws.map fun x => V.str (strOf x))
section
variable {P : Program} {w : World} {K : PySem.W.Frag} {mg : Str → Option Value} {base : Heap}
theorem sc_symbol_at : FnScope ["text", "place", "start", "word", "end"] ["text", "place"] (defScope s_symbol_at) := ⟨rfl, rfl, rfl, by decide +kernel, rfl, by decide +kernel, by decide +kernel⟩
theorem ok_symbol_at {f fN fK fE fS fL : Addr} {fd fdN fdK fdE fdS fdL : FuncData} (F : FnP K "symbol_at" s_symbol_at f fd) (FN : FnP K "name_end" s_name_end fN fdN) (FK : FnP K "keyword_end" s_keyword_end fK fdK) (FE : FnP K "string_end" s_string_end fE fdE) (FS : FnP K "string_at" s_string_at fS fdS) (FL : FnP K "listed_at" s_listed_at fL fdL)
    (g_name_end : mg "name_end" = some (.ref fN)) (g_keyword_end : mg "keyword_end" = some (.ref fK)) (g_string_end : mg "string_end" = some (.ref fE)) (g_string_at : mg "string_at" = some (.ref fS)) (g_listed_at : mg "listed_at" = some (.ref fL)) (g_len : mg "len" = none) (g_LN : ∃ t, mg "LONGEST_NAME" = some (.int 40 t)) (g_OP : TupAt K mg "OPERATORS" Tok.ops) :
    FnOk P w K mg base CX0 4 f fd ["text", "place"] spSymAt := by
  have G_name_end : FnOk P w K mg base CX0 2 fN fdN _ spNameEnd := ok_name_end FN g_len g_LN
  have b_name_end : Binds K fdN ["text", "place"] [] := FN.bindsN fun _ _ _ _ _ _ us hl => match us, hl with | [_, _], _ => rfl
  have k_name_end := FN.kp
  have G_keyword_end : FnOk P w K mg base CX0 3 fK fdK _ spKeyEnd := ok_keyword_end FK FN g_name_end g_len g_LN
  have b_keyword_end : Binds K fdK ["text", "place"] [] := FK.bindsN fun _ _ _ _ _ _ us hl => match us, hl with | [_, _], _ => rfl
  have k_keyword_end := FK.kp
  have G_string_at : FnOk P w K mg base CX0 3 fS fdS _ spStrAt := ok_string_at FS FE g_string_end
  have b_string_at : Binds K fdS ["text", "place"] [] := FS.bindsN fun _ _ _ _ _ _ us hl => match us, hl with | [_, _], _ => rfl
  have k_string_at := FS.kp
  have G_listed_at : FnOk P w K mg base CX0 2 fL fdL _ (spListed K) := ok_listed_at FL g_len
  have b_listed_at : Binds K fdL ["kind", "words", "text", "place"] [] := FL.bindsN fun _ _ _ _ _ _ us hl => match us, hl with | [_, _, _, _], _ => rfl
  have k_listed_at := FL.kp
  obtain ⟨aOP, g_OPERATORS, hOP⟩ := g_OP
  have r_OPERATORS : RelV (.ref aOP) (.ref aOP) := rfl
  refine F.ok sc_symbol_at (fun vs H Q E h => ?_) (fun cdv A outer s H vs Q E hr h => ⟨_, PSs.nox
    (pss_cons (ps_set (i := 2) sc_symbol_at.nd rfl (Or.inl rfl) (pe_op op_add (pv 1) pe_int))
      (pss_cons (ps_if (pt_cmpR op_eq (pe_slice sl_str (pv 0) (po_some (pv 2)) (po_some (pe_op op_add (pv 2) pe_int))) pe_str (nomark _)) (pss_cons (ps_set (i := 3) sc_symbol_at.nd rfl (Or.inl rfl) (pe_call G_string_at (hr.mono (by decide)) rfl g_string_at k_string_at b_string_at .nil pass0 (pa_cons (pv 0) (pa_cons (pv 2) pa_nil))))
      (pss_one (ps_ret (pe_ifExp (pt_cmpR op_notN (pv 3) pe_non (nomark _)) (pe_tup (pa_cons pe_str (pa_cons (pe_ix ix_tup (pv 3) pe_int (fun _ _ => rfl)) (pa_cons (pe_ix ix_tup (pv 3) pe_int (fun _ _ => rfl)) pa_nil)))) pe_non)))) pss_nil)
      (pss_cons (ps_set (i := 4) sc_symbol_at.nd rfl (Or.inl rfl) (pv 2))
      (pss_cons (ps_while PassesOwn.never (pt_cmpR op_gt (pe_call G_keyword_end (hr.mono (by decide)) rfl g_keyword_end k_keyword_end b_keyword_end .nil pass0 (pa_cons (pv 0) (pa_cons (pv 4) pa_nil))) (pv 4) (nomark _)) (pss_one (ps_set (i := 4) sc_symbol_at.nd rfl (Or.inl rfl) (pe_call G_keyword_end (hr.mono (by decide)) rfl g_keyword_end k_keyword_end b_keyword_end .nil pass0 (pa_cons (pv 0) (pa_cons (pv 4) pa_nil))))))
      (pss_cons (ps_if (pt_cmpR op_eq (pv 4) (pv 2) (nomark _)) (pss_one (ps_set (i := 4) sc_symbol_at.nd rfl (Or.inl rfl) (pe_call G_name_end (hr.mono (by decide)) rfl g_name_end k_name_end b_name_end .nil pass0 (pa_cons (pv 0) (pa_cons (pv 2) pa_nil))))) pss_nil)
      (pss_cons (ps_if (pt_cmpR op_gt (pv 4) (pv 2) (nomark _)) (pss_one (ps_ret (pe_tup (pa_cons pe_str (pa_cons (pe_slice sl_str (pv 0) (po_some (pv 2)) (po_some (pv 4))) (pa_cons (pv 4) pa_nil)))))) pss_nil)
      (pss_cons (ps_set (i := 3) sc_symbol_at.nd rfl (Or.inl rfl) (pe_call G_listed_at (hr.mono (by decide)) rfl g_listed_at k_listed_at b_listed_at .nil pass0 (pa_cons pe_str (pa_cons (pe_glob rfl g_OPERATORS r_OPERATORS) (pa_cons (pv 0) (pa_cons (pv 2) pa_nil))))))
      (pss_one (ps_ret (pv 3)))))))))), ?_⟩)
  · obtain ⟨z, p, rfl, _⟩ := h
    rfl
  · obtain ⟨z, p, rfl, hz, hp, q⟩ := h
    have hs := sz_src hz
    have e1 : (p : Int) + 1 = ((p + 1 : Nat) : Int) := by omega
    have e2 : ((p + 1 : Nat) : Int) + 1 = ((p + 2 : Nat) : Int) := by omega
    have cut := cut_codes z (p + 1) (p + 2) (by omega)
    rw [show p + 2 - (p + 1) = 1 by omega] at cut
    have k39 : ("'" : Str) = strOf [39] := by decide +kernel
    unfold symWord at q
    refine ⟨_, rfl, _, _, rfl, rfl, ?_⟩
    show tSeq _ _ _ [some (.str z), some (.int (p : Int)), some (.int ((p : Int) + 1)), none, none] H
    rw [e1]
    refine ⟨_, rfl, _, rfl, _, rfl, _, rfl, _, _, rfl, rfl, _, rfl, z, rfl, hs, rfl, _, rfl, ?_⟩
    rw [e2, cut, k39]
    generalize hr0 : (codesOf z).drop (p + 1) = r at q cut ⊢
    have hr1 : r.length = (codesOf z).length - (p + 1) := by rw [← hr0, List.length_drop]
    refine ite2 (fun hx => ?_) (fun hx => ?_)
    · rw [eq_txt, strOf_inj, take1_is] at hx
      have hlt : p + 1 < (codesOf z).length := by
        cases r with
        | nil => cases hx
        | cons _ _ => rw [List.length_cons] at hr1; omega
      have hsym : Tok.symbol r = (match body ((codesOf z).drop (p + 1 + 1)) with | some (t, n) => some (.s t, n + 1) | none => none) := by
        have e : r.drop 1 = (codesOf z).drop (p + 1 + 1) := by rw [← hr0, List.drop_drop]
        unfold Tok.symbol
        rw [if_pos hx, sb_body (f := r.length) (by rw [List.length_drop]; omega), e]
        all_goals (cases body ((codesOf z).drop (p + 1 + 1)) <;> rfl)
      rw [hsym] at q
      refine ⟨_, rfl, _, rfl, z, p + 1, rfl, hz, hlt, ?_⟩
      unfold strWord
      cases hb : body ((codesOf z).drop (p + 1 + 1)) with
      | none =>
        rw [hb] at q
        intro H1 s1
        refine ⟨_, rfl, rfl, _, rfl, ?_⟩
        exact ite2 (fun y => by simp at y) (fun _ => q H1 s1)
      | some x =>
        obtain ⟨t, n⟩ := x
        rw [hb] at q
        intro r1 H1 s1 n1 h1
        refine ⟨_, rfl, rfl, _, rfl, ?_⟩
        refine ite2 (fun _ => ?_) (fun y => absurd rfl y)
        refine ⟨_, rfl, _, _, _, _, rfl, rfl, SqT.of h1, rfl, _, rfl, _, _, _, _, rfl, rfl, SqT.of h1, rfl, (by show 3 ≤ sizeLine; decide), fun r2 n2 => ?_⟩
        refine q r2 _ (s1.trans (same_upd n2)) (s1.free n2) ?_
        rw [upd_same, show p + (n + 1 + 1) = p + 1 + (n + 1) by omega]
        rfl
    · have hx : ¬ r.head? = some 39 := fun y => hx (by rw [eq_txt, strOf_inj, take1_is]; exact y)
      refine ⟨_, rfl, ?_⟩
      have fin : ∀ n : Nat, (0 < n → Tok.symbol r = some (.s (r.take n), n)) → (n = 0 → keys r = 0 ∧ Tok.nameLen r = 0) →
          (tSeq
                (tIfS (tTest (tOp (rI0 fun i j => V.bl (decide (j < i))) (tVar 4) (tVar 2)))
                  (tRet
                    (tTup
                      (tCons (tC (V.str (Str.ofString "sym")))
                        (tCons (tSl rSlS (tVar 0) (tPart (tVar 2)) (tPart (tVar 4))) (tCons (tVar 4) tNil)))))
                  tNext)
                (tSeq
                  (tAsg
                    (tCall (spListed K) [] E0
                      (tCons (tC (V.str (Str.ofString "sym")))
                        (tCons (tC (V.ref aOP)) (tCons (tVar 0) (tCons (tVar 2) tNil)))))
                    (gName 3))
                  (tRet (tVar 3)))) { nx := fun x H' => Q V.non H', rt := Q } [some (.str z), some (.int (p : Int)), some (.int ((p + 1 : Nat) : Int)), none, some (.int ((p + 1 + n : Nat) : Int))] H := by
        intro n h1 h0
        have cutn := cut_codes z (p + 1) (p + 1 + n) (by omega)
        rw [Nat.add_sub_cancel_left, hr0] at cutn
        refine ⟨_, rfl, _, rfl, _, _, rfl, rfl, _, rfl, ?_⟩
        refine ite2 (fun y => ?_) (fun y => ?_)
        · have y := of_decide_eq_true y
          rw [h1 (by omega)] at q
          refine ⟨_, rfl, _, rfl, _, rfl, _, rfl, _, rfl, z, rfl, hs, _, rfl, (by show 3 ≤ sizeLine; decide), fun r2 n2 => ?_⟩
          refine q r2 _ (same_upd n2) n2 ?_
          rw [upd_same, cutn, show p + (n + 1) = p + 1 + n by omega]
          rfl
        · have y : ¬ (((p + 1 : Nat) : Int) < ((p + 1 + n : Nat) : Int)) := fun x => y (decide_eq_true x)
          obtain ⟨k0, m0⟩ := h0 (by omega)
          have hsym : Tok.symbol r = if 0 < Tok.listed Tok.ops r then some (.s (r.take (Tok.listed Tok.ops r)), Tok.listed Tok.ops r) else none := by
            unfold Tok.symbol
            rw [if_neg hx, if_neg (by show ¬ 0 < keys r; omega), if_neg (by omega)]
          rw [hsym] at q
          refine ⟨_, rfl, _, rfl, _, aOP, Tok.ops, z, p + 1, rfl, hOP H, hz, by omega, by decide, ?_, ?_⟩
          · rw [hr0]
            intro hpos r2 H2 s2 n2 h2
            rw [if_pos hpos] at q
            refine ⟨_, rfl, q r2 H2 s2 n2 ?_⟩
            rw [h2, show p + (Tok.listed Tok.ops r + 1) = p + 1 + Tok.listed Tok.ops r by omega]
            rfl
          · rw [hr0]
            intro hz0 H2 s2
            rw [if_neg (by omega)] at q
            exact ⟨_, rfl, q H2 s2⟩
      refine while_by (fun σ H' => H' = H ∧ ∃ e : Nat, σ = [some (.str z), some (.int (p : Int)), some (.int ((p + 1 : Nat) : Int)), none, some (.int (e : Int))] ∧ p + 1 ≤ e ∧ e ≤ (codesOf z).length ∧ e + keys ((codesOf z).drop e) = p + 1 + keys r) (fun σ _ => match σ with | [_, _, _, _, some (.int e)] => (codesOf z).length - e.toNat | _ => 0) ⟨rfl, p + 1, rfl, Nat.le_refl _, by omega, by rw [hr0]⟩ ?_ ?_
      · rintro _ H0 ⟨hH, e, rfl, h1, h2, h3⟩
        subst hH
        refine ⟨_, rfl, _, rfl, z, e, rfl, hz, h2, ?_⟩
        refine ⟨_, rfl, _, _, rfl, rfl, _, rfl, ?_⟩
        have hke := keys_eq ((codesOf z).drop e)
        have hkl := keyLen_len ((codesOf z).drop e)
        rw [List.length_drop] at hkl
        refine ite2 (fun y => ?_) (fun y => ?_)
        · have y := of_decide_eq_true y
          rw [if_pos (by omega), List.drop_drop] at hke
          refine ⟨_, rfl, _, rfl, z, e, rfl, hz, h2, ⟨rfl, e + Tok.keyLen ((codesOf z).drop e), rfl, by omega, by omega, by omega⟩, ?_⟩
          show (codesOf z).length - (((e + Tok.keyLen ((codesOf z).drop e) : Nat) : Int).toNat) < (codesOf z).length - ((e : Int).toNat)
          omega
        · have y : ¬ ((e : Int) < ((e + Tok.keyLen ((codesOf z).drop e) : Nat) : Int)) := fun x => y (decide_eq_true x)
          rw [if_neg (by omega)] at hke
          have he : e = p + 1 + keys r := by omega
          subst he
          refine ⟨_, rfl, _, rfl, rfl, _, rfl, ?_⟩
          refine ite2 (fun w0 => ?_) (fun w0 => ?_)
          · have w0 : V.int ((p + 1 + keys r : Nat) : Int) = V.int ((p + 1 : Nat) : Int) := of_decide_eq_true w0
            injection w0 with w0
            have k0 : keys r = 0 := by omega
            refine ⟨_, rfl, _, rfl, z, p + 1, rfl, hz, by omega, ?_⟩
            rw [hr0]
            refine fin (Tok.nameLen r) (fun c => ?_) (fun c => ⟨k0, c⟩)
            unfold Tok.symbol
            rw [if_neg hx, if_neg (by show ¬ 0 < keys r; omega), if_pos c]
          · have k0 : keys r ≠ 0 := fun c => w0 (by rw [c]; exact decide_eq_true rfl)
            refine fin (keys r) (fun c => ?_) (fun c => absurd c k0)
            unfold Tok.symbol
            rw [if_neg hx, if_pos (by show 0 < keys r; omega)]
            rfl
      · rintro σ H Q Q' hq ⟨a, h1, b, h2, z, p, h3, h4, h5, c, h6, i, j, h7, h8, k, h9, h⟩
        exact ⟨a, h1, b, h2, z, p, h3, h4, h5, c, h6, i, j, h7, h8, k, h9, hq _ _ h⟩
end
end My

end
section
set_option Elab.async false
set_option linter.all false
set_option maxRecDepth 100000
set_option maxHeartbeats 4000000
/-! super().__init__(f'..{x}') and one field: an own exception made. -/
namespace PySem
namespace SupX
open PySem.W PySem.Calls PyProof.Rows PySem.HandSPX
def sInit : Stmt := L2.inClass (PySem.Challenge.pw_imagetalk_k02_words_at_their_edges.main.body.getD 2 (.Pass ⟨0, 0, 0, 0⟩)) 0
structure SupTxt (prog : Program) (K : Frag) (mg : Str → Option Value) (qual : Str) (C fI : Addr) : Prop where
  kC : keepIn K (.ref C) = true
  exC : subIn K (.ref C) (.type "BaseException") = some true
  tyC : typeIn K (.ref C) = some (.type "type")
  cls : ∃ nm q N bs bm sn sub ab col dd k0 k1 k2 k3 k5, K.lookup C = some (excClassObj nm q C N bs bm true sn sub ab col dd k0 k1 k2 k3 k5 "ValueError.__new__") ∧ refsVE bm = true ∧ alongIn K "__init__" bm = some (some (.builtin "ValueError.__init__"))
  sa : findIn K (.ref C) "__setattr__" = some (some (.builtin "object.__setattr__"))
  noN : findIn K (.ref C) "place" = some none
  iC : findIn K (.ref C) "__init__" = some (some (.ref fI))
  tC : typeIn K (.ref fI) = some (.type "function")
  noS : mg "super" = none
  tp : nsIn K cStatics "thirdparty.any" = some none
  subVE : subIn K (.ref C) (.type "ValueError") = some true
  mroC : mroIn K C (.ref C) = some true
  top : (prog.main.scope.names.lookup ("super" : Str)).isSome = false
  fn : ∃ (oc doc pm ct : Value) (od an : Option Addr) (osl : Array (Option Value)) (cda cc : Addr) (ccl cl : Value) (cdd cld : Option Addr) (ccs csl : Array (Option Value)) (vs : Array Value) (file : Str) (tf : Tok),
    K.lookup fI = some ⟨oc, od, .func (ksFn "__init__" qual (L2.defArgs sInit) (L2.defBody sInit) (L2.defScope sInit) .none .none doc pm an (.ref cda) ct cc), osl⟩ ∧ codeIn K (.ref cda) qual = true ∧
    K.lookup cda = some ⟨ccl, cdd, .fields vs, ccs⟩ ∧ vs[2]? = some (.str file tf) ∧ ((prog.main.file : Str) == file) = true ∧ K.lookup cc = some ⟨cl, cld, .cell (some (.ref C)), csl⟩
/-- what __init__ leaves of a fresh exception at x -/
structure InitEnd (h h' : Heap) (x C dx : Addr) (v : Value) : Prop where
  keep : ∀ b o, b ≠ x → h.get? b = some o → h'.get? b = some o
  obj : ∃ t1, h'.get? x = some { cls := .ref C, dict := some dx, data := .fields #[.ref t1, .none, .none, .none, .bool false, .none] }
  dbig : h.objs.size ≤ dx
  dne : dx ≠ x
  ns : h'.Ns1 dx (fun y => if y = "place" then some v else none)
section
variable {prog : Program} {w : World} {A : Around} {E : Value → Shared → Prop} {R : Result → Shared → Prop} {s : Shared} {K : Frag} {mg : Str → Option Value} {base : Heap} {C fI : Addr} {qual : Str}
theorem sup_init (T : SupTxt prog K mg qual C fI) {x t0 : Addr} {n : Int} {tn : Tok} (hn : n.natAbs.log2 < 64) (MD : L2.Mod K mg base) (hbs : ∀ b o, base.get? b = some o → s.heap.get? b = some o) (hx : s.heap.get? x = some (excO C t0)) (hnx : K.lookup x = none) (hroom : A.depth < recursionLimit)
    (hq : ∀ h' tk dx, InitEnd s.heap h' x C dx (.int n tn) → R (.ok (.ret .none)) { s with heap := h', toks := tk }) :
    codeAny (model prog w) A (.call (.ref fI) ⟨[.ref x, .int n tn], []⟩) R s := by
  obtain ⟨oc, doc, pm, ct, od, an, osl, cda, cc, ccl, cl, cdd, cld, ccs, csl, vs, file, tf, lk, hcd, hcode, hvs, hfile, hcell⟩ := T.fn
  obtain ⟨nm, q, N, bs, bm, sn, sub, ab, col, dd, k0, k1, k2, k3, k5, hC, hbm, hal⟩ := T.cls
  have X : K.In s.heap := fun a o e => hbs _ _ (MD.kin a o e)
  have hlim : s.heap.NoLimit := MD.nolimit.keeps hbs
  have hloc : ∀ y ∈ [((PySem.Str.ofString "self" : Str), Value.ref x), ("place", .int n tn)], (L2.defScope sInit).names.lookup y.1 = some .local := fun y hy => by
    rcases List.mem_cons.mp hy with e | hy
    · subst e
      rfl
    · rcases List.mem_cons.mp hy with e | hy
      · subst e
        rfl
      · cases hy
  refine ks_codeAny_call_defAt (fd := ksFn "__init__" qual (L2.defArgs sInit) (L2.defBody sInit) (L2.defScope sInit) .none .none doc pm an (.ref cda) ct cc) (binds := [("self", .ref x), ("place", .int n tn)]) hroom (X _ _ lk) rfl hlim (codeRec_of X hcd) rfl (BindsTo.of_eq (by first | rfl | with_unfolding_all rfl)) (by show ∀ x ∈ (L2.defScope sInit).names, x.2 ≠ .cell; decide +kernel) hloc (fun h₁ hns hk => ?_) rfl rfl rfl
  have X₁ : K.In h₁ := X.keeps hk
  have hx₁ := hk _ _ hx
  show wpAt _ _ _ (execs (L2.defBody sInit) (ksEnv qual (L2.defScope sInit) s.heap.objs.size fI (.ref cda) cc)) _ _ _
  refine ks_wpAt_execs_cons (ks_wpAt_Expr_any (ks_wpAt_MethodCall ?_))
  obtain ⟨mb, hmb, hmb2⟩ := MD.blt
  obtain ⟨cdC, hcdC⟩ : ∃ cd, clsIn K C = some cd := by unfold clsIn; rw [hC]; exact ⟨_, rfl⟩
  have hD2 : (excClassObj nm q C N bs bm true sn sub ab col dd k0 k1 k2 k3 k5 "ValueError.__new__").data = .cls { name := nm, bases := bs, mro := .ref C :: bm, ns := N, qualname := q, hasDict := true, slotNames := sn, subclasses := sub, abstract := ab, collection := col, hasDel := false } := rfl
  refine ks_wpAt_super_base (env := ksEnv qual (L2.defScope sInit) s.heap.objs.size fI (.ref cda) cc) rfl rfl (by decide) rfl (X₁ _ _ lk) rfl rfl rfl (X₁ _ _ hcode) rfl hvs hfile T.top ?_
  refine ks_loadName_global rfl rfl (loadGlobal_builtin (env := ksEnv qual (L2.defScope sInit) s.heap.objs.size fI (.ref cda) cc) ((MD.glob.keeps hbs).keeps hk) T.noS ((hmb.keeps hbs).keeps hk) ((hmb2 _ (by decide +kernel)).trans (by first | boot_by_name | rfl | kernel_rfl | decide +kernel)) ⟨rfl, ?_⟩)
  refine wpAny_loadName_free rfl rfl rfl ⟨_, X₁ _ _ hcell, rfl⟩ ?_
  refine wpAny_loadName_local rfl rfl hns rfl ?_
  refine ks_wpAny_isType_cls (X₁ _ _ hC) hD2 ⟨rfl, ?_⟩
  refine ks_wpAny_call_super (X₁ _ _ hC) hD2 hx₁ rfl (fun c e => by cases e) (looks_mroIn X₁ T.mroC) (fun h₂ e₂ k₂ => ?_)
  have X₂ : K.In h₂ := X₁.keeps k₂
  have hx₂ := k₂ _ _ hx₁
  have I₂ : InstAt h₂ x (excO C t0) C none := ⟨hx₂, rfl, rfl, trivial⟩
  have hxC : x ≠ C := fun e => by
    rw [e] at hx₂
    have := (X₂ _ _ hC).symm.trans hx₂
    cases this
  have hmro : Looks (model prog w) h₂ (mroOf (.ref C)) (.ref C :: bm) := fun A' Q' E' s' k' q' => wpAny_bind ((looks_clsIn X₂ (show clsIn K C = some { name := nm, bases := bs, mro := .ref C :: bm, ns := N, qualname := q, hasDict := true, slotNames := sn, subclasses := sub, abstract := ab, collection := col, hasDel := false } by unfold clsIn; rw [hC] <;> rfl)) A' _ E' s' k' (wpAny_pure q'))
  refine kxs_getMethod kxs_ValueError e₂ (looks_opaque X₂ T.tp) hmro (l := bm) (by simp [List.dropWhile_cons]) X₂ hal (I₂.type.andThen (looks_subIn X₂ T.subVE)) hxC (by decide) ?_
  have e₃ : (h₂.push (kxs_mw "ValueError.__init__" x)).get? h₂.objs.size = some (kxs_mw "ValueError.__init__" x) := Heap.get?_push_at rfl rfl
  have k₃ : ∀ b o, h₂.get? b = some o → (h₂.push (kxs_mw "ValueError.__init__" x)).get? b = some o := fun b o e => Heap.get?_push_of_some _ e
  have up : ∀ b o, h₁.get? b = some o → (h₂.push (kxs_mw "ValueError.__init__" x)).get? b = some o := fun b o e => k₃ _ _ (k₂ _ _ e)
  generalize hh₃ : h₂.push (kxs_mw "ValueError.__init__" x) = h₃ at e₃ k₃ up ⊢
  have hns₃ := hns.keeps up
  have lt : ("bad source at " : Str).length ≤ 100 := by decide +kernel
  have lz := int_text_len_1921 (i := n) (by omega)
  refine kxs_callWith (i := "ValueError.__init__") (x := x) rfl ?_
  refine evalArgs_plain ?_
  refine spliced_cons ?_
  rw [if_neg Bool.false_ne_true]
  have lE : (Str.empty ++ ("bad source at " : Str)).length ≤ 100 := by decide +kernel
  have lA : ((Str.empty ++ ("bad source at " : Str)) ++ Str.ofString (toString n)).length ≤ sizeLine := by
    rw [PySem.Str.length_append, sizeLine_eq]
    omega
  refine PyProof.Rows.JoinedStr_many ?_
  refine PyProof.Rows.joinParts_cons ?_
  refine Constant_str ⟨?_, ?_⟩
  · show (Str.empty ++ ("bad source at " : Str)).length ≤ sizeLine
    decide +kernel
  refine PyProof.Rows.joinParts_cons ?_
  refine wpAny_FormattedValue_plain ?_
  refine wpAny_Name (wpAny_loadName_local rfl rfl hns₃ rfl ?_) (by decide)
  refine wpAny_formatField_int (by omega) ⟨lA, ?_⟩
  refine PyProof.Rows.joinParts_nil ?_ lA
  dsimp only
  generalize (Value.str _ _) = vt
  refine spliced_nil ⟨e₃, ?_⟩
  show wpAny _ _ (call (.ref h₂.objs.size) [vt]) _ _ _
  have hx₃ : h₃.get? x = some (excRec (.ref C) t0 none .none .none (.bool false)) := k₃ _ _ hx₂
  have X₃ : K.In h₃ := X₂.keeps k₃
  have one : [vt].length ≤ sizeLine := by
    rw [sizeLine_eq]
    exact (by decide : 1 ≤ 16777216)
  refine wpAny_call (codeAny_of_tree ?_)
  show wpAny _ _ (callAny (.ref h₂.objs.size) ⟨[vt], []⟩) _ _ _
  simp only [callAny]
  refine wpAny_bind (wpAny_load e₃ ?_)
  simp only [kxs_mw, show (Value.type "method-wrapper" == Value.type "method" || Value.type "method-wrapper" == Value.type "builtin_function_or_method" || Value.type "method-wrapper" == Value.type "method-wrapper") = true by decide, if_true]
  refine KFB.if_so (by decide) ?_
  refine wpAny_bind (check_bound_init PySem.F.excBase_ValueError.toExcCallFacts (X₃ _ _ hC) hx₃ rfl ?_)
  refine wpAny_bind (wpAny_pure (wpAny_pure ?_))
  refine ⟨plainId_quiet PySem.F.excBase_ValueError.init.plain _, codeAny_builtin PySem.F.excBase_ValueError.initEntry ?_⟩
  refine exc_init_tree (cls := .ref C) (t0 := t0) (dv := none) (c2 := .none) (c3 := .none) (b4 := .bool false) hx₃ one fun h₄ k₄ x₄ t₄ => ?_
  dsimp only
  have X₄ : K.In h₄ := fun a o e => k₄ _ _ (fun z => by rw [z, hnx] at e; cases e) (X₃ _ _ e)
  have hxL : s.heap.objs.size ≠ x := Nat.ne_of_gt (Heap.lt_size hx)
  have hns₄ : h₄.Ns s.heap.objs.size (fun y => List.lookup y [(Str.ofString "self", Value.ref x), (Str.ofString "place", Value.int n tn)].reverse) := by
    obtain ⟨o, es, ep, g, r⟩ := hns₃
    exact ⟨o, es, ep, k₄ _ _ hxL g, r⟩
  refine ks_wpAt_execs_cons (ks_wpAt_Assign_Attr (wpAt_of_wpAny ?_))
  refine wpAny_Name (wpAny_loadName_local rfl rfl hns₄ rfl ?_) (by decide)
  refine wpAny_Name (wpAny_loadName_local rfl rfl hns₄ rfl ?_) (by decide)
  refine set_plain X₄ (ox := excO C h₃.objs.size) (od := none) ⟨x₄, rfl, rfl, trivial⟩ T.sa ?_
  have hcl : clsIn K C = some { name := nm, bases := bs, mro := .ref C :: bm, ns := N, qualname := q, hasDict := true, slotNames := sn, subclasses := sub, abstract := ab, collection := col, hasDel := false } := by unfold clsIn; rw [hC] <;> rfl
  refine exc_osa X₄ x₄ hcl (show refsVE (.ref C :: bm) = true from hbm) rfl T.noN (fun h₅ tk₅ dx k₅ dn dne hx₅ hn₅ => ?_)
  show wpAt _ _ _ (execs [] _) _ _ _
  refine wpAt_of_wpAny (wpAny_execs_nil ?_)
  have z₁ : s.heap.objs.size < h₄.objs.size := hns₄.lt
  exact hq h₅ tk₅ dx ⟨fun b o hb e => k₅ b o hb (k₄ b o hb (up _ _ (hk _ _ e))), ⟨_, hx₅⟩, Nat.le_of_lt (Nat.lt_of_lt_of_le z₁ dn), dne, hn₅⟩
theorem one_size (v : Value) : [v].length ≤ sizeLine := by
  rw [sizeLine_eq]
  exact (by decide : 1 ≤ 16777216)
/-- a made exception of one field, place -/
structure OwnMade (h h' : Heap) (e C d : Addr) (v : Value) : Prop where
  keep : ∀ b o, h.get? b = some o → h'.get? b = some o
  new : h.objs.size ≤ e
  obj : ∃ oe vs, h'.get? e = some oe ∧ oe.cls = .ref C ∧ oe.dict = some d ∧ oe.data = .fields vs ∧ vs[1]? = some .none
  dbig : h.objs.size ≤ d
  dne : d ≠ e
  ns : h'.Ns1 d (fun y => if y = "place" then some v else none)
theorem sup_made (T : SupTxt prog K mg qual C fI) {n : Int} {tn : Tok} (hn : n.natAbs.log2 < 64) (MD : L2.Mod K mg base) (hbs : ∀ b o, base.get? b = some o → s.heap.get? b = some o) (hroom : A.depth + 1 < recursionLimit)
    (hq : ∀ h' tk e d, OwnMade s.heap h' e C d (.int n tn) → R (.ok (.ret (.ref e))) { s with heap := h', toks := tk }) :
    codeAny (model prog w) A (.call (.ref C) ⟨[.int n tn], []⟩) R s := by
  obtain ⟨nm, q, N, bs, bm, sn, sub, ab, col, dd, k0, k1, k2, k3, k5, hC, hbm, hal⟩ := T.cls
  have X : K.In s.heap := fun a o e => hbs _ _ (MD.kin a o e)
  obtain ⟨hp, g, dr, tk, os⟩ := s
  have k : ∀ b o, hp.get? b = some o → ((hp.push (kdv_tup [.int n tn])).push (excO C hp.objs.size)).get? b = some o := fun b o e => Heap.get?_push_of_some _ (Heap.get?_push_of_some _ e)
  have hget : ((hp.push (kdv_tup [.int n tn])).push (excO C hp.objs.size)).get? (hp.objs.size + 1) = some (excO C hp.objs.size) := by heap_get
  have hnx : K.lookup (hp.objs.size + 1) = none := by
    cases e : K.lookup (hp.objs.size + 1) with
    | none => rfl
    | some o =>
      have z : hp.get? (hp.objs.size + 1) = some o := X _ _ e
      exact absurd (Nat.lt_of_succ_lt (Heap.lt_size z)) (Nat.lt_irrefl _)
  refine call_own PySem.F.excBase_ValueError (fun X => refsVE_contains X bm hbm) (X _ _ hC) (looks_findIn X T.iC) (fun self => bind_fn X self T.tC) (one_size _) ?_
  refine sup_init (base := base) (s := ⟨(hp.push (kdv_tup [.int n tn])).push (excO C hp.objs.size), g, dr, tk, os⟩) T hn MD (fun b o e => k _ _ (hbs b o e)) hget hnx ?_ fun h' tk' dx ⟨k', ⟨t1, hx⟩, dn, dne, hns⟩ => ?_
  · show A.depth + 1 < recursionLimit
    exact hroom
  · have old : ∀ b o, hp.get? b = some o → h'.get? b = some o := fun b o e => k' b o (Nat.ne_of_lt (Nat.lt_succ_of_lt (Heap.lt_size e))) (k b o e)
    have z : hp.objs.size + 1 + 1 ≤ dx := by
      first
        | (simpa only [Heap.size_push] using dn)
        | exact dn
        | (have q := dn; rw [Heap.size_push, Heap.size_push] at q; exact q)
    exact ⟨rfl, hq h' tk' (hp.objs.size + 1) dx ⟨old, Nat.le_succ _, ⟨_, _, hx, rfl, rfl, rfl, rfl⟩, Nat.le_trans (Nat.le_trans (Nat.le_succ _) (Nat.le_succ _)) z, dne, hns⟩⟩
end
end SupX
end PySem
namespace L2
open PySem PySem.Spec PyProof.Rows
theorem relO_place {v : V} {v' : Value} (r : RelV v v') (f : Str) : RelO (List.lookup f [(("place" : Str), v)]) (if f = "place" then some v' else none) := by
  by_cases hw : f = "place"
  · subst hw
    rw [if_pos rfl]
    have q : List.lookup ("place" : Str) [(("place" : Str), v)] = some v := by simp [List.lookup]
    rw [q]
    exact r
  · rw [if_neg hw]
    have qw : (f == ("place" : Str)) = false := by simpa using hw
    have q2 : List.lookup f [(("place" : Str), v)] = none := by simp [List.lookup, qw]
    rw [q2]
    trivial
section
variable {X : Cx} {C fI : Addr} {qual : Str}
/-- BadSource(place) -/
def tMkBad (C : Addr) (ta : TA) : St → Hp → XK → Prop := fun σ H Q => ta σ H fun vs H1 => ∃ n : Int, vs = [.int n] ∧ n.natAbs.log2 < 64 ∧ ∀ d, H1 d = none → Q (.ref C) (some d) (upd H1 d (.xd [(("place" : Str), .int n)]))
theorem pmk_bad {a : Expr} {ta : TA} {p pos : Pos} {k : Nat} (T : PySem.SupX.SupTxt X.prog X.K X.mg qual C fI) (gC : X.mg "BadSource" = some (.ref C)) (hr : Room k X.A) (ha : PA X [a] ta) (hg : Gl X "BadSource" := by rfl)
    (he : starEach (a :: []) X.env = (false, eval a X.env) :: starEach [] X.env := by rfl) (hpl : (backTo pos (starEach [] X.env)).any (·.1) = false := by rfl) :
    PMk X (.Call (.Name "BadSource" p) [a] [] pos) (tMkBad C ta) := by
  intro pins s σ H Q I h
  refine wpAny_Call_Name_kw (ld_glob I hg gC ?_)
  refine PySem.W.callWith_K (h₀ := X.base) I.ok.mod.kin T.kC (thn (ha.run pos pins s σ H _ I h) fun us s1 hh => ?_) he hpl
  obtain ⟨vs, H1, I1, r1, n, ev, hl, q1⟩ := hh
  subst ev
  refine ⟨I1.kIn, ?_⟩
  cases r1 with
  | cons rv rn =>
    rename_i v' us'
    cases rn
    obtain ⟨tn, rfl⟩ := rv
    show wpAny _ _ (call (.ref C) [.int n tn]) _ _ _
    have hlim := I1.nolimit
    obtain ⟨hp, g, dr, tk, os⟩ := s1
    refine wpAny_call (PySem.SupX.sup_made T hl I1.ok.mod I1.bk (by have := hr.dp; omega) fun h' tk' e d M => ?_)
    show MkP X pins σ Q (.ref e) ⟨h', g, dr, tk', os⟩
    obtain ⟨oe, fv, hoe, hc, hd, hdat, h1⟩ := M.obj
    have hns := M.ns
    obtain ⟨G', g1, g2⟩ := restrict h' fun b => decide (b ≠ e)
    have gk : ∀ b, b ≠ e → G'.get? b = h'.get? b := fun b hb => g1 b (decide_eq_true hb)
    have ge : G'.get? e = none := g2 e (by simp)
    have old : ∀ b o, hp.get? b = some o → G'.get? b = some o := fun b o q => (gk b (Nat.ne_of_lt (Nat.lt_of_lt_of_le (Heap.lt_size q) M.new))).trans (M.keep b o q)
    have rv' : RelV (.int n) (.int n tn) := ⟨tn, rfl⟩
    have ob : ObjOk X.prog X.w (upd H1 d (.xd [(("place" : Str), .int n)])) G' d (.xd [(("place" : Str), .int n)]) :=
      ⟨_, hns.at (fun o q => (gk d M.dne).trans q), fun f => relO_place rv' f⟩
    have J : Inv X pins σ (upd H1 d (.xd [(("place" : Str), .int n)])) ⟨G', g, dr, tk', os⟩ := I1.laid (t' := tk') old M.dbig ob
    refine ⟨e, oe, fv, ⟨G', g, dr, tk', os⟩, _, .ref C, some d, rfl, J, fun b o q => ?_, ge, hoe, ⟨hc, hd⟩, hdat, h1, ?_, rfl, I1.bare, raises_own T.exC T.tyC, q1 d (I1.hok.fresh M.dbig)⟩
    · by_cases hb : b = e
      · have q' : G'.get? b = some o := q
        rw [hb, ge] at q'; cases q'
      · exact (gk b hb).symm.trans q
    · rw [upd_ne (Ne.symm M.dne)]
      exact I1.hok.fresh M.new
/-- raise BadSource(place) -/
def tRaiseBad (C : Addr) (W : WX) (ta : TA) : TS := fun _ σ H => tMkBad C ta σ H fun cls d H' => W cls d σ H'
theorem ps_raiseBad {a : Expr} {ta : TA} {W : WX} {p pos pos2 : Pos} {k : Nat} (hc : X.calm = true) (T : PySem.SupX.SupTxt X.prog X.K X.mg qual C fI) (gC : X.mg "BadSource" = some (.ref C)) (hr : Room k X.A) (tk : Takes X W) (ha : PA X [a] ta) (hg : Gl X "BadSource" := by rfl)
    (he : starEach (a :: []) X.env = (false, eval a X.env) :: starEach [] X.env := by rfl) (hpl : (backTo pos (starEach [] X.env)).any (·.1) = false := by rfl) :
    PS X (.Raise (some (.Call (.Name "BadSource" p) [a] [] pos)) none pos2) (tRaiseBad C W ta) := ps_raise hc tk (pmk_bad T gC hr ha hg he hpl)
end
end L2

end
section
set_option Elab.async false
set_option linter.all false
set_option maxRecDepth 100000
set_option maxHeartbeats 2000000
namespace My
open PySem PySem.Spec PyProof.Rows L2
abbrev s_past_gap : Stmt := top 28
def shift (n : Nat) : Except Nat Nat → Except Nat Nat
  | .ok m => .ok (m + n)
  | .error m => .error (m + n)
theorem shift_shift (a b : Nat) (x : Except Nat Nat) : shift a (shift b x) = shift (a + b) x := by
  cases x <;> simp [shift] <;> omega
theorem gap_c {f c : Nat} {r : List Nat} : Tok.gap (f + 1) (c :: r) = if c = 32 ∨ c = 10 then shift 1 (Tok.gap f r) else if c = 34 then (match Tok.find 34 r with | none => .error 0 | some k => shift (k + 2) (Tok.gap f (r.drop (k + 1)))) else .ok 0 := by
  rw [Tok.gap.eq_def]
  show (if c = 32 ∨ c = 10 then _ else _) = _
  by_cases h : c = 32 ∨ c = 10
  · rw [if_pos h, if_pos h]
    cases Tok.gap f r <;> rfl
  · rw [if_neg h, if_neg h]
    by_cases h2 : c = 34
    · rw [if_pos h2, if_pos h2]
      cases Tok.find 34 r with
      | none => rfl
      | some k =>
        show (match Tok.gap f (r.drop (k + 1)) with | .ok n => (Except.ok (n + k + 2) : Except Nat Nat) | .error n => .error (n + k + 2)) = shift (k + 2) _
        cases Tok.gap f (r.drop (k + 1)) <;> rfl
    · rw [if_neg h2, if_neg h2]
theorem gap_fuel : ∀ (n : Nat) (l : List Nat) (f g : Nat), l.length ≤ n → l.length ≤ f → l.length ≤ g → Tok.gap f l = Tok.gap g l := by
  intro n
  induction n using Nat.strongRecOn with
  | ind n ih =>
    intro l f g hn hf hg
    cases l with
    | nil => cases f <;> cases g <;> rfl
    | cons c r =>
      rw [List.length_cons] at hn hf hg
      cases f with
      | zero => omega
      | succ f =>
        cases g with
        | zero => omega
        | succ g =>
          rw [gap_c, gap_c, ih (n - 1) (by omega) r f g (by omega) (by omega) (by omega)]
          cases Tok.find 34 r with
          | none => rfl
          | some k =>
            show (if _ then _ else if _ then shift (k + 2) (Tok.gap f (r.drop (k + 1))) else _) = (if _ then _ else if _ then shift (k + 2) (Tok.gap g (r.drop (k + 1))) else _)
            rw [ih (n - 1) (by omega) (r.drop (k + 1)) f g (by rw [List.length_drop]; omega) (by rw [List.length_drop]; omega) (by rw [List.length_drop]; omega)]
def gp (l : List Nat) : Except Nat Nat := Tok.gap l.length l
theorem gp_c {c : Nat} {r : List Nat} : gp (c :: r) = if c = 32 ∨ c = 10 then shift 1 (gp r) else if c = 34 then (match Tok.find 34 r with | none => .error 0 | some k => shift (k + 2) (gp (r.drop (k + 1)))) else .ok 0 := by
  have e : gp (c :: r) = Tok.gap (r.length + 1) (c :: r) := rfl
  rw [e, gap_c]
  have e2 : ∀ k, Tok.gap r.length (r.drop (k + 1)) = gp (r.drop (k + 1)) := fun k => gap_fuel r.length _ _ _ (by rw [List.length_drop]; omega) (by rw [List.length_drop]; omega) (Nat.le_refl _)
  cases Tok.find 34 r with
  | none => rfl
  | some k =>
    show (if _ then _ else if _ then shift (k + 2) (Tok.gap r.length (r.drop (k + 1))) else _) = _
    rw [e2] <;> rfl
/-- BadSource, its place -/
def Bad (C : Addr) (H : Hp) (E : XK) (n : Int) : Prop := ∀ d H', Same H H' → H' d = some (.xd [("place", .int n)]) → E (.ref C) (some d) H'
theorem Bad.at_ {C : Addr} {H : Hp} {E : XK} {n : Int} (h : Bad C H E n) : ∀ d, H d = none → E (.ref C) (some d) (upd H d (.xd [("place", .int n)])) := fun d nd => h d _ (same_upd nd) upd_same
theorem log_small {n : Nat} (h : n ≤ 2000) : ((n : Nat) : Int).natAbs.log2 < 64 := by
  rw [Int.natAbs_natCast]
  by_cases c : n = 0
  · subst c; decide
  · exact (Nat.log2_lt c).mpr (by omega)
def spGap (C : Addr) : Sp := fun vs H Q E => ∃ (z : Str) (p : Nat), vs = [.str z, .int (p : Int)] ∧ Src z ∧ p ≤ (codesOf z).length ∧
  (match gp ((codesOf z).drop p) with
    | .ok n => Q (.int ((p + n : Nat) : Int)) H
    | .error n => Bad C H E ((p + n : Nat) : Int))
section
variable {P : Program} {w : World} {K : PySem.W.Frag} {mg : Str → Option Value} {base : Heap} {C fI : Addr} {qual : Str}
theorem sc_past_gap : FnScope ["text", "place", "end"] ["text", "place"] (defScope s_past_gap) := ⟨rfl, rfl, rfl, by decide +kernel, rfl, by decide +kernel, by decide +kernel⟩
theorem ok_past_gap {f : Addr} {fd : FuncData} (F : FnP K "past_gap" s_past_gap f fd) (g_len : mg "len" = none) (T : PySem.SupX.SupTxt P K mg qual C fI) (gC : mg "BadSource" = some (.ref C)) : FnOk P w K mg base (L2.CX P w) 4 f fd ["text", "place"] (spGap C) := by
  refine F.ok sc_past_gap (fun vs H Q E h => ?_) (fun cdv A outer s H vs Q E hr h => ⟨_,
    (pss_cons (ps_while (passes_of rfl) (PW.pt (pw_and (pt_cmpR op_lt (pv 1) (pe_callB call_len_str (by rfl) g_len PySem.boot_len (pa_cons (pv 0) pa_nil)) (nomark _)) (pw_and1 (pt_cmpR op_in_sign (pe_ix ix_str (pv 0) (pv 1) (fun _ _ => rfl)) pe_str (by rfl))))) (pss_cons (ps_if (pt_cmpR op_eq (pe_ix ix_str (pv 0) (pv 1) (fun _ _ => rfl)) pe_str (nomark _)) (pss_cons (ps_set (i := 2) sc_past_gap.nd rfl (Or.inl rfl) (pe_bm PySem.F.plainAttrs_str PySem.F.slot_str_find PySem.F.type_str_find mt_find3 (pv 0) (pa_cons pe_str (pa_cons (pe_op op_add (pv 1) pe_int) pa_nil))))
      (pss_cons (ps_if (pt_cmpR op_lt (pv 2) pe_int (nomark _)) (pss_one (ps_raiseBad rfl T gC hr (takes_of rfl rfl rfl rfl) (pa_cons (pv 1) pa_nil))) pss_nil)
      (pss_one (ps_set (i := 1) sc_past_gap.nd rfl (Or.inl rfl) (pv 2))))) pss_nil)
      (pss_one (ps_aug (i := 1) sc_past_gap.nd rfl (Or.inl rfl) pe_int ip_add))))
      (pss_one (ps_ret (pv 1)))), ?_⟩)
  · obtain ⟨z, p, rfl, _⟩ := h
    rfl
  · obtain ⟨z, p, rfl, hz, hp, q⟩ := h
    have hs := sz_src hz
    have k34 : ("\"" : Str) = ⟨#[34]⟩ := by decide +kernel
    have kb : ∀ c : Nat, decide (c ∈ (" \n\"" : Str).cps.toList) = (decide (c = 32 ∨ c = 10) || decide (c = 34)) := by
      intro c
      rw [show (" \n\"" : Str).cps.toList = [32, 10, 34] by decide +kernel]
      rw [Bool.eq_iff_iff, Bool.or_eq_true, decide_eq_true_iff, decide_eq_true_iff, decide_eq_true_iff]
      simp [or_assoc]
    rw [k34]
    have hl := hz.len
    refine while_by (fun σ H' => H' = H ∧ ∃ (e : Nat) (x : Option V), σ = [some (.str z), some (.int (e : Int)), x] ∧ p ≤ e ∧ e ≤ (codesOf z).length ∧ gp ((codesOf z).drop p) = shift (e - p) (gp ((codesOf z).drop e))) (fun σ _ => match σ with | [_, some (.int e), _] => (codesOf z).length - e.toNat | _ => 0) ⟨rfl, p, _, rfl, Nat.le_refl _, hp, by rw [Nat.sub_self]; cases gp ((codesOf z).drop p) <;> rfl⟩ ?_ ?_
    · rintro _ H0 ⟨hH, e, x, rfl, h1, h2, h3⟩
      subst hH
      have stop : gp ((codesOf z).drop e) = .ok 0 → Q (.int (e : Int)) H0 := fun g => by
        rw [g] at h3
        rw [h3] at q
        have q : Q (.int ((p + (0 + (e - p)) : Nat) : Int)) H0 := q
        rw [show p + (0 + (e - p)) = e by omega] at q
        exact q
      refine ⟨_, rfl, _, rfl, _, rfl, hs, _, _, rfl, rfl, _, rfl, ?_⟩
      refine ite2 (fun y => ?_) (fun y => ?_)
      · have y := of_decide_eq_true y
        rw [len_codes] at y
        have hlt : e < (codesOf z).length := by omega
        have hd : (codesOf z).drop e = (codesOf z)[e] :: (codesOf z).drop (e + 1) := List.drop_eq_getElem_cons hlt
        have hg : (codesOf z)[e]? = some (codesOf z)[e] := List.getElem?_eq_getElem hlt
        generalize (codesOf z)[e] = c at hd hg
        have gc : gp ((codesOf z).drop e) = _ := (congrArg gp hd).trans gp_c
        refine ⟨_, rfl, _, rfl, _, _, _, rfl, rfl, hs, atI_nat hg, _, _, rfl, rfl, _, rfl, ?_⟩
        rw [kb]
        refine ite2 (fun y2 => ?_) (fun y2 => ?_)
        · refine ⟨_, rfl, _, rfl, _, _, _, rfl, rfl, hs, atI_nat hg, rfl, _, rfl, ?_⟩
          refine ite2 (fun y3 => ?_) (fun y3 => ?_)
          · rw [eq_txt] at y3
            have c34 : c = 34 := by
              injection y3 with y3
              injection y3 with y3
              injection y3
            subst c34
            rw [if_neg (by decide), if_pos rfl] at gc
            have e1 : (e : Int) + 1 = ((e + 1 : Nat) : Int) := by omega
            have fc := find_codes z 34 (e + 1) (by omega)
            refine ⟨_, rfl, rfl, _, rfl, _, _, rfl, rfl, _, _, _, rfl, rfl, ?_⟩
            rw [e1, fc]
            cases hf : Tok.find 34 ((codesOf z).drop (e + 1)) with
            | none =>
              rw [hf] at gc
              rw [gc] at h3
              rw [h3] at q
              refine ⟨_, rfl, _, _, rfl, rfl, _, rfl, ?_⟩
              refine ite2 (fun _ => ?_) (fun y => absurd (decide_eq_true (show (-1 : Int) < 0 by decide)) y)
              refine ⟨_, rfl, _, rfl, log_small (by omega), fun d nd => ?_⟩
              have q : Bad C H0 E ((p + (0 + (e - p)) : Nat) : Int) := q
              rw [show p + (0 + (e - p)) = e by omega] at q
              exact q.at_ d nd
            | some k =>
              rw [hf] at gc
              obtain ⟨f1, _⟩ := find_some hf
              rw [List.getElem?_drop] at f1
              have hlt2 : e + 1 + k < (codesOf z).length := by
                rcases Nat.lt_or_ge (e + 1 + k) (codesOf z).length with x | x
                · exact x
                · rw [List.getElem?_eq_none x] at f1; cases f1
              refine ⟨_, rfl, _, _, rfl, rfl, _, rfl, ?_⟩
              refine ite2 (fun y => absurd (of_decide_eq_true y) (by show ¬ ((e + 1 + k : Nat) : Int) < 0; omega)) (fun _ => ?_)
              refine ⟨_, rfl, _, rfl, _, _, rfl, rfl, ⟨rfl, e + 1 + k + 1, _, rfl, by omega, by omega, ?_⟩, ?_⟩
              · have gc : gp ((codesOf z).drop e) = shift (k + 2) (gp (((codesOf z).drop (e + 1)).drop (k + 1))) := gc
                rw [h3, gc, shift_shift, List.drop_drop, show e + 1 + (k + 1) = e + 1 + k + 1 by omega, show e - p + (k + 2) = e + 1 + k + 1 - p by omega]
              · show (codesOf z).length - ((((e + 1 + k : Nat) : Int) + 1).toNat) < (codesOf z).length - ((e : Int).toNat)
                omega
          · have c34 : ¬ c = 34 := fun h => y3 (by rw [eq_txt, h])
            have cb : c = 32 ∨ c = 10 := by
              rw [Bool.or_eq_true, decide_eq_true_iff, decide_eq_true_iff] at y2
              exact y2.resolve_right c34
            rw [if_pos cb] at gc
            refine ⟨_, rfl, _, _, rfl, rfl, ⟨rfl, e + 1, _, rfl, by omega, by omega, ?_⟩, ?_⟩
            · rw [h3, gc, shift_shift, show e - p + 1 = e + 1 - p by omega]
            · show (codesOf z).length - (((e : Int) + 1).toNat) < (codesOf z).length - ((e : Int).toNat)
              omega
        · rw [Bool.or_eq_true, decide_eq_true_iff, decide_eq_true_iff] at y2
          rw [if_neg (fun h => y2 (.inl h)), if_neg (fun h => y2 (.inr h))] at gc
          exact ⟨_, rfl, stop gc⟩
      · have y : ¬ ((e : Int) < (z.length : Int)) := fun h => y (decide_eq_true h)
        rw [len_codes] at y
        have hd : (codesOf z).drop e = [] := List.drop_eq_nil_of_le (by omega)
        exact ⟨_, rfl, stop (by rw [hd]; rfl)⟩
    · rintro σ H Q Q' hq ⟨a1, h1, a2, h2, a3, h3, h4, a4, a5, h5, h6, k, h7, h⟩
      refine ⟨a1, h1, a2, h2, a3, h3, h4, a4, a5, h5, h6, k, h7, ?_⟩
      split at h
      · rename_i x
        rw [if_pos x]
        obtain ⟨b1, g1, b2, g2, b3, b4, b5, g3, g4, g5, g6, b6, b7, g7, g8, b8, g9, h⟩ := h
        exact ⟨b1, g1, b2, g2, b3, b4, b5, g3, g4, g5, g6, b6, b7, g7, g8, b8, g9, hq _ _ h⟩
      · rename_i x
        rw [if_neg x]
        exact hq _ _ h
end
end My

end
section
set_option Elab.async false
set_option linter.all false
set_option maxRecDepth 100000
set_option maxHeartbeats 2000000
namespace My
open PySem PySem.Spec PyProof.Rows L2
abbrev s_word_at : Stmt := top 31
def orW (a b : Option (Tok.Kd × Tok.Val × Nat)) : Option (Tok.Kd × Tok.Val × Nat) := match a with
  | some w => some w
  | none => b
/-- the word by its first sign -/
def preW (b : Bool) (c : Nat) (l r : List Nat) : Option (Tok.Kd × Tok.Val × Nat) :=
  if Tok.isAl c = true then nameWord l else if Tok.isDg c = true then intWord 0 l else if c = 39 then strWord r else if c = 35 then symWord r else if c = 45 ∧ b = true then intWord 1 l else none
theorem word_pre (b : Bool) (c : Nat) (r : List Nat) : Tok.word b (c :: r) = orW (preW b c (c :: r) r) (Tok.other (c :: r)) := by
  unfold preW
  show (if Tok.isAl c = true then _ else _) = _
  by_cases h1 : Tok.isAl c = true
  · rw [if_pos h1, if_pos h1]
    unfold nameWord
    by_cases k1 : 0 < Tok.keyLen (c :: r)
    · rw [if_pos k1, if_pos k1]; rfl
    · rw [if_neg k1, if_neg k1]
      by_cases k2 : 0 < Tok.nameLen (c :: r)
      · rw [if_pos k2, if_pos k2]; rfl
      · rw [if_neg k2, if_neg k2]; rfl
  · rw [if_neg h1, if_neg h1]
    by_cases h2 : Tok.isDg c = true
    · rw [if_pos h2, if_pos h2]
      unfold intWord
      have pos : 0 < Tok.run Tok.isDg (c :: r) := by
        show 0 < (if Tok.isDg c = true then _ else _)
        rw [if_pos h2]
        omega
      by_cases k : Tok.run Tok.isDg (c :: r) ≤ 60
      · rw [if_pos k]
        show _ = orW (if 0 < Tok.run Tok.isDg (c :: r) ∧ Tok.run Tok.isDg (c :: r) ≤ 60 then _ else none) _
        rw [if_pos ⟨pos, k⟩]
        show some (Tok.Kd.int, Tok.Val.i _, _) = some (Tok.Kd.int, Tok.Val.i _, 0 + _)
        rw [Nat.zero_add]
        rfl
      · rw [if_neg k]
        show _ = orW (if 0 < Tok.run Tok.isDg (c :: r) ∧ Tok.run Tok.isDg (c :: r) ≤ 60 then _ else none) _
        rw [if_neg (fun x => k x.2)]
        rfl
    · rw [if_neg h2, if_neg h2]
      by_cases h3 : c = 39
      · rw [if_pos h3, if_pos h3, sb_body (by rw [List.length_cons]; omega)]
        unfold strWord
        cases body r with
        | none => rfl
        | some x => rfl
      · rw [if_neg h3, if_neg h3]
        by_cases h4 : c = 35
        · rw [if_pos h4, if_pos h4]
          unfold symWord
          cases Tok.symbol r with
          | none => rfl
          | some x => rfl
        · rw [if_neg h4, if_neg h4]
          by_cases h5 : c = 45 ∧ b = true
          · rw [if_pos h5, if_pos h5]
            unfold intWord
            show _ = orW (if 0 < Tok.run Tok.isDg r ∧ Tok.run Tok.isDg r ≤ 60 then _ else none) _
            by_cases k : 0 < Tok.run Tok.isDg r ∧ Tok.run Tok.isDg r ≤ 60
            · rw [if_pos k, if_pos k, Nat.add_comm]; rfl
            · rw [if_neg k, if_neg k]; rfl
          · rw [if_neg h5, if_neg h5]; rfl
theorem sgn_eq {c d : Nat} : decide (V.str ⟨#[c]⟩ = V.str ⟨#[d]⟩) = true ↔ c = d := by
  rw [eq_txt]
  constructor
  · intro h
    injection h with h
    injection h with h
    injection h
  · intro h; rw [h]
abbrev tIsN : TT := tTest (tOp (fun x y H Q => y = V.non ∧ Q (V.bl (decide (x = V.non))) H) (tVar 4) (tC V.non))
/-- what follows the first sign's own word -/
abbrev wordRest (K : PySem.W.Frag) (C aOP aSI : Addr) (E : XK) : TS :=
  tSeq (tIfS tIsN (tAsg (tCall (spListed K) [] E0 (tCons (tC (V.str (Str.ofString "op"))) (tCons (tC (V.ref aOP)) (tCons (tVar 0) (tCons (tVar 1) tNil))))) (gName 4)) tNext)
    (tSeq (tIfS tIsN (tAsg (tCall (spListed K) [] E0 (tCons (tC (V.str (Str.ofString "sign"))) (tCons (tC (V.ref aSI)) (tCons (tVar 0) (tCons (tVar 1) tNil))))) (gName 4)) tNext)
      (tSeq (tIfS tIsN (tRaiseBad C (fun cls d x H => E cls d H) (tCons (tVar 1) tNil)) tNext) (tRet (tVar 4))))
def spWordAt (C : Addr) : Sp := fun vs H Q E => ∃ (z : Str) (p : Nat) (b : Bool), vs = [.str z, .int (p : Int), .bl b] ∧ Src z ∧ p < (codesOf z).length ∧
  (match Tok.word b ((codesOf z).drop p) with
    | some w => wOut H Q p (some w)
    | none => Bad C H E (p : Int))
section
variable {P : Program} {w : World} {K : PySem.W.Frag} {mg : Str → Option Value} {base : Heap} {C fI : Addr} {qual : Str}
theorem sc_word_at : FnScope ["text", "place", "binds", "first", "word"] ["text", "place", "binds"] (defScope s_word_at) := ⟨rfl, rfl, rfl, by decide +kernel, rfl, by decide +kernel, by decide +kernel⟩
/-- the defs of words.py and the values that they name -/
structure Mods (K : PySem.W.Frag) (mg : Str → Option Value) (fN fK fE fS fL fY fA fT : Addr) (fdN fdK fdE fdS fdL fdY fdA fdT : FuncData) : Prop where
  FN : FnP K "name_end" s_name_end fN fdN
  FK : FnP K "keyword_end" s_keyword_end fK fdK
  FE : FnP K "string_end" s_string_end fE fdE
  FS : FnP K "string_at" s_string_at fS fdS
  FL : FnP K "listed_at" s_listed_at fL fdL
  FY : FnP K "symbol_at" s_symbol_at fY fdY
  FA : FnP K "name_at" s_name_at fA fdA
  FT : FnP K "integer_at" s_integer_at fT fdT
  gN : mg "name_end" = some (.ref fN)
  gK : mg "keyword_end" = some (.ref fK)
  gE : mg "string_end" = some (.ref fE)
  gS : mg "string_at" = some (.ref fS)
  gL : mg "listed_at" = some (.ref fL)
  gY : mg "symbol_at" = some (.ref fY)
  gA : mg "name_at" = some (.ref fA)
  gT : mg "integer_at" = some (.ref fT)
  g_len : mg "len" = none
  g_int : mg "int" = none
  g_LN : ∃ t, mg "LONGEST_NAME" = some (.int 40 t)
  g_MD : ∃ t, mg "MOST_DIGITS" = some (.int 60 t)
  g_OP : TupAt K mg "OPERATORS" Tok.ops
  g_SI : TupAt K mg "SIGNS" Tok.signs
variable {fN fK fE fS fL fY fA fT : Addr} {fdN fdK fdE fdS fdL fdY fdA fdT : FuncData}
theorem ok_word_at {f : Addr} {fd : FuncData} (F : FnP K "word_at" s_word_at f fd) (M : Mods K mg fN fK fE fS fL fY fA fT fdN fdK fdE fdS fdL fdY fdA fdT) (T : PySem.SupX.SupTxt P K mg qual C fI) (gC : mg "BadSource" = some (.ref C)) : FnOk P w K mg base (L2.CX P w) 5 f fd ["text", "place", "binds"] (spWordAt C) := by
  have G_name_at : FnOk P w K mg base CX0 4 fA fdA _ spNameAt := ok_name_at M.FA M.FN M.FK M.gN M.gK M.g_len M.g_LN
  have G_integer_at : FnOk P w K mg base CX0 2 fT fdT _ spIntAt := ok_integer_at M.FT M.g_len M.g_int M.g_MD
  have G_string_at : FnOk P w K mg base CX0 3 fS fdS _ spStrAt := ok_string_at M.FS M.FE M.gE
  have G_symbol_at : FnOk P w K mg base CX0 4 fY fdY _ spSymAt := ok_symbol_at M.FY M.FN M.FK M.FE M.FS M.FL M.gN M.gK M.gE M.gS M.gL M.g_len M.g_LN M.g_OP
  have G_listed_at : FnOk P w K mg base CX0 2 fL fdL _ (spListed K) := ok_listed_at M.FL M.g_len
  have b_name_at : Binds K fdA ["text", "place"] [] := M.FA.bindsN fun _ _ _ _ _ _ us hl => match us, hl with | [_, _], _ => rfl
  have b_integer_at : Binds K fdT ["text", "place", "digits"] [] := M.FT.bindsN fun _ _ _ _ _ _ us hl => match us, hl with | [_, _, _], _ => rfl
  have b_string_at : Binds K fdS ["text", "place"] [] := M.FS.bindsN fun _ _ _ _ _ _ us hl => match us, hl with | [_, _], _ => rfl
  have b_symbol_at : Binds K fdY ["text", "place"] [] := M.FY.bindsN fun _ _ _ _ _ _ us hl => match us, hl with | [_, _], _ => rfl
  have b_listed_at : Binds K fdL ["kind", "words", "text", "place"] [] := M.FL.bindsN fun _ _ _ _ _ _ us hl => match us, hl with | [_, _, _, _], _ => rfl
  have k_name_at := M.FA.kp
  have k_integer_at := M.FT.kp
  have k_string_at := M.FS.kp
  have k_symbol_at := M.FY.kp
  have k_listed_at := M.FL.kp
  have g_name_at := M.gA
  have g_integer_at := M.gT
  have g_string_at := M.gS
  have g_symbol_at := M.gY
  have g_listed_at := M.gL
  obtain ⟨aOP, g_OPERATORS, hOP⟩ := M.g_OP
  have r_OPERATORS : RelV (.ref aOP) (.ref aOP) := rfl
  obtain ⟨aSI, g_SIGNS, hSI⟩ := M.g_SI
  have r_SIGNS : RelV (.ref aSI) (.ref aSI) := rfl
  refine F.ok sc_word_at (fun vs H Q E h => ?_) (fun cdv A outer s H vs Q E hr h => ⟨_,
    (pss_cons (ps_set (i := 3) sc_word_at.nd rfl (Or.inl rfl) (pe_ix ix_str (pv 0) (pv 1) (fun _ _ => rfl)))
      (pss_cons (ps_set (i := 4) sc_word_at.nd rfl (Or.inl rfl) pe_non)
      (pss_cons (ps_if (pt_val (pe_bm0 PySem.F.plainAttrs_str PySem.F.slot_str_isalpha PySem.F.type_str_isalpha mt_isalpha (pv 3))) (pss_one (ps_set (i := 4) sc_word_at.nd rfl (Or.inl rfl) (pe_call G_name_at (hr.mono (by decide)) rfl g_name_at k_name_at b_name_at .nil pass0 (pa_cons (pv 0) (pa_cons (pv 1) pa_nil))))) (pss_one (ps_if (pt_val (pe_bm0 PySem.F.plainAttrs_str PySem.F.slot_str_isdigit PySem.F.type_str_isdigit mt_isdigit (pv 3))) (pss_one (ps_set (i := 4) sc_word_at.nd rfl (Or.inl rfl) (pe_call G_integer_at (hr.mono (by decide)) rfl g_integer_at k_integer_at b_integer_at .nil pass0 (pa_cons (pv 0) (pa_cons (pv 1) (pa_cons (pv 1) pa_nil)))))) (pss_one (ps_if (pt_cmpR op_eq (pv 3) pe_str (nomark _)) (pss_one (ps_set (i := 4) sc_word_at.nd rfl (Or.inl rfl) (pe_call G_string_at (hr.mono (by decide)) rfl g_string_at k_string_at b_string_at .nil pass0 (pa_cons (pv 0) (pa_cons (pv 1) pa_nil))))) (pss_one (ps_if (pt_cmpR op_eq (pv 3) pe_str (nomark _)) (pss_one (ps_set (i := 4) sc_word_at.nd rfl (Or.inl rfl) (pe_call G_symbol_at (hr.mono (by decide)) rfl g_symbol_at k_symbol_at b_symbol_at .nil pass0 (pa_cons (pv 0) (pa_cons (pv 1) pa_nil))))) (pss_one (ps_if (PW.pt (pw_and (pt_cmpR op_eq (pv 3) pe_str (nomark _)) (pw_and1 (pt_val (pv 2))))) (pss_one (ps_set (i := 4) sc_word_at.nd rfl (Or.inl rfl) (pe_call G_integer_at (hr.mono (by decide)) rfl g_integer_at k_integer_at b_integer_at .nil pass0 (pa_cons (pv 0) (pa_cons (pv 1) (pa_cons (pe_op op_add (pv 1) pe_int) pa_nil)))))) pss_nil)))))))))
      (pss_cons (ps_if (pt_cmpR op_isN (pv 4) pe_non (nomark _)) (pss_one (ps_set (i := 4) sc_word_at.nd rfl (Or.inl rfl) (pe_call G_listed_at (hr.mono (by decide)) rfl g_listed_at k_listed_at b_listed_at .nil pass0 (pa_cons pe_str (pa_cons (pe_glob rfl g_OPERATORS r_OPERATORS) (pa_cons (pv 0) (pa_cons (pv 1) pa_nil))))))) pss_nil)
      (pss_cons (ps_if (pt_cmpR op_isN (pv 4) pe_non (nomark _)) (pss_one (ps_set (i := 4) sc_word_at.nd rfl (Or.inl rfl) (pe_call G_listed_at (hr.mono (by decide)) rfl g_listed_at k_listed_at b_listed_at .nil pass0 (pa_cons pe_str (pa_cons (pe_glob rfl g_SIGNS r_SIGNS) (pa_cons (pv 0) (pa_cons (pv 1) pa_nil))))))) pss_nil)
      (pss_cons (ps_if (pt_cmpR op_isN (pv 4) pe_non (nomark _)) (pss_one (ps_raiseBad rfl T gC hr (takes_of rfl rfl rfl rfl) (pa_cons (pv 1) pa_nil))) pss_nil)
      (pss_one (ps_ret (pv 4))))))))), ?_⟩)
  · obtain ⟨z, p, b, rfl, _⟩ := h
    rfl
  · obtain ⟨z, p, b, rfl, hz, hp, q⟩ := h
    have hs := sz_src hz
    have hd : (codesOf z).drop p = (codesOf z)[p] :: (codesOf z).drop (p + 1) := List.drop_eq_getElem_cons hp
    have hg : (codesOf z)[p]? = some (codesOf z)[p] := List.getElem?_eq_getElem hp
    have hc : (codesOf z)[p] < 128 := hz.sgn (List.getElem_mem hp)
    generalize (codesOf z)[p] = c at hd hg hc
    refine ⟨_, rfl, _, rfl, _, _, _, rfl, rfl, hs, atI_nat hg, ?_⟩
    have hw : Tok.word b ((codesOf z).drop p) = orW (preW b c ((codesOf z).drop p) ((codesOf z).drop (p + 1))) (Tok.other ((codesOf z).drop p)) := by
      rw [hd]
      exact word_pre b c _
    have h45 : c = 45 → ((codesOf z).drop p).head? = some 45 := fun e => by rw [hd, e]; rfl
    have hl := hz.len
    rw [hw] at q
    generalize hpre : preW b c ((codesOf z).drop p) ((codesOf z).drop (p + 1)) = pre at q
    -- a word in hand
    have got2 : ∀ (w : Tok.Kd × Tok.Val × Nat) (r : Addr) (H1 : Hp), (match orW pre (Tok.other ((codesOf z).drop p)) with | some w => wOut H Q p (some w) | none => Bad C H E (p : Int)) → orW pre (Tok.other ((codesOf z).drop p)) = some w → Same H H1 → H r = none → H1 r = some (.tup [.str (kdS w.1), vVal w.2.1, .int ((p + w.2.2 : Nat) : Int)]) →
        Q (.ref r) H1 := by
      intro w r H1 q e s1 n1 h1
      rw [e] at q
      exact q r H1 s1 n1 h1
    have sub : ∀ o, pre = o → wOut H (fun v H' => wordRest K C aOP aSI E { nx := fun x H' => Q V.non H', rt := Q } [some (.str z), some (.int (p : Int)), some (.bl b), some (.str ⟨#[c]⟩), some v] H') p o := by
      intro o ho
      cases o with
      | some w =>
        obtain ⟨k, x, m⟩ := w
        intro r H1 s1 n1 h1
        refine ⟨_, rfl, rfl, _, rfl, ite2 (fun y => by simp at y) fun _ => ?_⟩
        refine ⟨_, rfl, rfl, _, rfl, ite2 (fun y => by simp at y) fun _ => ?_⟩
        refine ⟨_, rfl, rfl, _, rfl, ite2 (fun y => by simp at y) fun _ => ?_⟩
        exact ⟨_, rfl, got2 (k, x, m) r H1 q (by rw [ho]; rfl) s1 n1 h1⟩
      | none =>
        intro H1 s1
        have ho2 : orW pre (Tok.other ((codesOf z).drop p)) = Tok.other ((codesOf z).drop p) := by rw [ho]; rfl
        refine ⟨_, rfl, rfl, _, rfl, ite2 (fun _ => ?_) fun y => absurd rfl y⟩
        refine ⟨_, rfl, _, rfl, _, aOP, Tok.ops, z, p, rfl, hOP H1, hz, Nat.le_of_lt hp, by decide, ?_, ?_⟩
        · intro hpos r H2 s2 n2 h2
          refine ⟨_, rfl, rfl, _, rfl, ite2 (fun y => by simp at y) fun _ => ?_⟩
          refine ⟨_, rfl, rfl, _, rfl, ite2 (fun y => by simp at y) fun _ => ?_⟩
          refine ⟨_, rfl, got2 (.op, .s (((codesOf z).drop p).take (Tok.listed Tok.ops ((codesOf z).drop p))), Tok.listed Tok.ops ((codesOf z).drop p)) r H2 q ?_ (s1.trans s2) (s1.free n2) h2⟩
          rw [ho2]
          unfold Tok.other
          rw [if_pos hpos]
        · intro h0 H2 s2
          refine ⟨_, rfl, rfl, _, rfl, ite2 (fun _ => ?_) fun y => absurd rfl y⟩
          refine ⟨_, rfl, _, rfl, _, aSI, Tok.signs, z, p, rfl, hSI H2, hz, Nat.le_of_lt hp, by decide, ?_, ?_⟩
          · intro hpos r H3 s3 n3 h3
            refine ⟨_, rfl, rfl, _, rfl, ite2 (fun y => by simp at y) fun _ => ?_⟩
            refine ⟨_, rfl, got2 (.sign, .s (((codesOf z).drop p).take (Tok.listed Tok.signs ((codesOf z).drop p))), Tok.listed Tok.signs ((codesOf z).drop p)) r H3 q ?_ ((s1.trans s2).trans s3) ((s1.trans s2).free n3) h3⟩
            rw [ho2]
            unfold Tok.other
            rw [if_neg (by omega), if_pos hpos]
          · intro h1 H3 s3
            refine ⟨_, rfl, rfl, _, rfl, ite2 (fun _ => ?_) fun y => absurd rfl y⟩
            have hn : Tok.other ((codesOf z).drop p) = none := by
              unfold Tok.other
              rw [if_neg (by omega), if_neg (by omega)]
            rw [ho2, hn] at q
            have q : Bad C H E (p : Int) := q
            refine ⟨_, rfl, _, rfl, log_small (by omega), fun d nd => ?_⟩
            exact q d _ (((s1.trans s2).trans s3).trans (same_upd nd)) upd_same
    unfold preW at hpre
    refine ⟨_, rfl, rfl, _, rfl, rfl, trivial, _, rfl, ?_⟩
    rw [al_tab c hc]
    refine ite2 (fun y => ?_) (fun y => ?_)
    · rw [if_pos y] at hpre
      exact ⟨_, rfl, _, rfl, z, p, rfl, hz, Nat.le_of_lt hp, sub _ hpre.symm⟩
    · rw [if_neg y] at hpre
      refine ⟨_, rfl, rfl, _, rfl, rfl, trivial, _, rfl, ?_⟩
      rw [dg_tab c hc]
      refine ite2 (fun y => ?_) (fun y => ?_)
      · rw [if_pos y] at hpre
        exact ⟨_, rfl, _, rfl, _, rfl, z, p, 0, rfl, hz, Nat.le_of_lt hp, .inl rfl, sub _ hpre.symm⟩
      · rw [if_neg y] at hpre
        refine ⟨_, rfl, rfl, _, rfl, ?_⟩
        rw [show (Str.ofString "'") = ⟨#[39]⟩ by decide +kernel, show (Str.ofString "#") = ⟨#[35]⟩ by decide +kernel, show (Str.ofString "-") = ⟨#[45]⟩ by decide +kernel]
        refine ite2 (fun y => ?_) (fun y => ?_)
        · rw [sgn_eq] at y
          rw [if_pos y] at hpre
          exact ⟨_, rfl, _, rfl, z, p, rfl, hz, hp, sub _ hpre.symm⟩
        · rw [sgn_eq] at y
          rw [if_neg y] at hpre
          refine ⟨_, rfl, rfl, _, rfl, ?_⟩
          refine ite2 (fun y => ?_) (fun y => ?_)
          · rw [sgn_eq] at y
            rw [if_pos y] at hpre
            exact ⟨_, rfl, _, rfl, z, p, rfl, hz, hp, sub _ hpre.symm⟩
          · rw [sgn_eq] at y
            rw [if_neg y] at hpre
            refine ⟨_, rfl, rfl, _, rfl, ?_⟩
            refine ite2 (fun y => ?_) (fun y => ?_)
            · rw [sgn_eq] at y
              refine ⟨_, rfl, _, rfl, ?_⟩
              refine ite2 (fun y2 => ?_) (fun y2 => ?_)
              · rw [if_pos ⟨y, y2⟩] at hpre
                exact ⟨_, rfl, _, rfl, _, rfl, _, _, rfl, rfl, z, p, 1, rfl, hz, hp, .inr ⟨rfl, h45 y⟩, sub _ hpre.symm⟩
              · rw [if_neg (fun x => y2 x.2)] at hpre
                exact (sub none hpre.symm) H (Same.refl H)
            · rw [sgn_eq] at y
              rw [if_neg (fun x => y x.1)] at hpre
              exact (sub none hpre.symm) H (Same.refl H)
end
end My

end
section
set_option Elab.async false
set_option linter.all false
set_option maxRecDepth 100000
set_option maxHeartbeats 2000000
namespace My
open PySem PySem.Spec PyProof.Rows L2
abbrev s_minus_binds : Stmt := top 29
abbrev s_note_paren : Stmt := top 30
def pS (b : Bool) : V := .str (strOf (if b then [35, 40] else [40]))
def vkinds : List (List Nat) := [[110, 97, 109, 101], [105, 110, 116], [115, 116, 114], [115, 121, 109]]
def lastOf (ws : List Tok.W) : Option (Tok.Kd × Tok.Val) := ws.getLast?.map fun w => (w.1, w.2.1)
theorem in_par (par : List Bool) : inV (V.str (Str.ofString "#(")) (par.map pS) = par.any id := by
  have h : ∀ b : Bool, eqV (pS b) (V.str (Str.ofString "#(")) = b := by decide +kernel
  unfold inV
  rw [List.any_map]
  congr 1
  funext b
  exact h b
theorem in_kinds (k : Tok.Kd) : inV (V.str (kdS k)) (vkinds.map fun x => V.str (strOf x)) = (decide (k = .name) || decide (k = .int) || decide (k = .str) || decide (k = .sym)) := by
  cases k <;> decide +kernel
theorem in_ends (x : Tok.Val) : inV (vVal x) [V.str (Str.ofString ")"), V.str (Str.ofString "]")] = (decide (x = .s [41]) || decide (x = .s [93])) := by
  cases x with
  | i n =>
    show (false || (false || false)) = _
    simp
  | s t =>
    have e : [V.str (Str.ofString ")"), V.str (Str.ofString "]")] = ([[41], [93]] : List (List Nat)).map fun x => V.str (strOf x) := by decide +kernel
    rw [e]
    show inV (V.str (strOf t)) _ = _
    rw [mem_ws]
    simp
theorem dp_valP {K : PySem.W.Frag} {H : Hp} {v : V} {x : Tok.Val} (h : Dp K H v (dVal x)) : v = vVal x := by
  cases x <;> cases h <;> rfl
theorem dp_wordP {K : PySem.W.Frag} {H : Hp} {v : V} {w : Tok.W} (h : Dp K H v (dW w)) : ∃ a, v = .ref a ∧ SqT K H a [.str (kdS w.1), vVal w.2.1, .int (w.2.2 : Int)] := by
  unfold dW at h
  cases h with
  | tup hs ha =>
    cases ha with
    | cons h1 ha =>
      cases ha with
      | cons h2 ha =>
        cases ha with
        | cons h3 ha =>
          cases ha
          cases h1
          cases h3
          have := dp_valP h2
          subst this
          exact ⟨_, rfl, hs⟩
theorem binds_eq {par : List Bool} {last : Option (Tok.Kd × Tok.Val)} : Tok.binds par last = (par.any id || (match last with
    | none => true
    | some (k, v) => !(decide (k = .name) || decide (k = .int) || decide (k = .str) || decide (k = .sym)) && !(decide (v = .s [41]) || decide (v = .s [93])))) := by
  unfold Tok.binds
  cases last with
  | none => rfl
  | some x =>
    obtain ⟨k, v⟩ := x
    simp
def spBinds (K : PySem.W.Frag) : Sp := fun vs H Q _ => ∃ (aw ap : Addr) (xs : List V) (ws : List Tok.W) (par : List Bool), vs = [.ref aw, .ref ap] ∧ H aw = some (.lst xs) ∧ DpAll K H xs (ws.map dW) ∧ H ap = some (.lst (par.map pS)) ∧ xs.length ≤ 2000 ∧
  ∀ H', Same H H' → Q (.bl (Tok.binds par (lastOf ws))) H'
def spNote : Sp := fun vs H Q _ => ∃ (ap : Addr) (par : List Bool) (t : List Nat), vs = [.ref ap, .str (strOf t)] ∧ H ap = some (.lst (par.map pS)) ∧ par.length ≤ 2000 ∧
  ∀ H', H' ap = some (.lst ((Tok.note par .sign (.s t)).map pS)) → (∀ b o, b ≠ ap → H b = some o → H' b = some o) → Q .non H'
section
variable {P : Program} {w : World} {K : PySem.W.Frag} {mg : Str → Option Value} {base : Heap} {C fI : Addr} {qual : Str}
theorem sc_minus_binds : FnScope ["words", "parens", "kind", "value", "_"] ["words", "parens"] (defScope s_minus_binds) := ⟨rfl, rfl, rfl, by decide +kernel, rfl, by decide +kernel, by decide +kernel⟩
theorem sc_note_paren : FnScope ["parens", "sign"] ["parens", "sign"] (defScope s_note_paren) := ⟨rfl, rfl, rfl, by decide +kernel, rfl, by decide +kernel, by decide +kernel⟩
theorem ok_minus_binds {f : Addr} {fd : FuncData} (F : FnP K "minus_binds" s_minus_binds f fd) (g_VK : TupAt K mg "VALUE_KINDS" vkinds) : FnOk P w K mg base CX0 2 f fd ["words", "parens"] (spBinds K) := by
  obtain ⟨aVK, g_VALUE_KINDS, hVK⟩ := g_VK
  have r_VALUE_KINDS : RelV (.ref aVK) (.ref aVK) := rfl
  refine F.ok sc_minus_binds (fun vs H Q E h => ?_) (fun cdv A outer s H vs Q E hr h => ⟨_, PSs.nox
    (pss_cons (ps_if (PW.pt (pw_or (pt_cmpR op_in_seq pe_str (pv 1) (by rfl)) (pw_or1 (pt_not (pt_truth (pv 0) (by intro _; rfl)))))) (pss_one (ps_ret pe_bl)) pss_nil)
      (pss_cons (ps_asg (pe_ix ix_list (pv 0) (pe_un un_neg pe_int) (fun _ _ => rfl)) (pg_tup rfl (pgs_cons (pg_name (i := 2) sc_minus_binds.nd rfl (Or.inl rfl)) (pgs_cons (pg_name (i := 3) sc_minus_binds.nd rfl (Or.inl rfl)) (pgs_cons (pg_name (i := 4) sc_minus_binds.nd rfl (Or.inl rfl)) pgs_nil)))))
      (pss_one (ps_ret (pe_and (pe_cmpR op_notIn_seq (pv 2) (pe_glob rfl g_VALUE_KINDS r_VALUE_KINDS) (by rfl)) (pe_one (pe_cmpR op_notIn_seq (pv 3) (pe_tup (pa_cons pe_str (pa_cons pe_str pa_nil))) (by rfl)))))))), ?_⟩)
  · obtain ⟨aw, ap, xs, ws, par, rfl, _⟩ := h
    rfl
  · obtain ⟨aw, ap, xs, ws, par, rfl, hw, hD, hP, hxl, q⟩ := h
    have hlen := dpAll_length hD
    rw [List.length_map] at hlen
    rw [binds_eq] at q
    refine ⟨_, rfl, ap, _, rfl, .inl (SqL.of hP), rfl, ?_, _, rfl, ?_⟩
    · rw [List.all_eq_true]
      intro v hv
      obtain ⟨b, _, rfl⟩ := List.mem_map.mp hv
      rfl
    refine ite2 (fun y => ?_) (fun y => ?_)
    · have y : par.any id = true := (in_par par).symm.trans y
      rw [y] at q
      exact q H (Same.refl H)
    · have y : par.any id = false := by
        cases h : par.any id with
        | false => rfl
        | true => exact absurd ((in_par par).trans h) y
      rw [y, Bool.false_or] at q
      refine ⟨_, rfl, !xs.isEmpty, .inl ⟨xs, SqL.of hw, rfl⟩, ?_⟩
      rcases List.eq_nil_or_concat ws with e | ⟨ws', lw, e⟩
      · subst e
        have : xs = [] := List.eq_nil_of_length_eq_zero hlen
        subst this
        refine ite2 (fun _ => ?_) (fun y => absurd rfl y)
        exact q H (Same.refl H)
      · have e : ws = ws' ++ [lw] := by rw [e, List.concat_eq_append]
        subst e
        have hl2 : xs.length = ws'.length + 1 := by rw [hlen, List.length_append]; rfl
        have hne : xs ≠ [] := fun e => by rw [e] at hl2; cases hl2
        refine ite2 (fun y => ?_) (fun _ => ?_)
        · cases xs with
          | nil => exact absurd rfl hne
          | cons _ _ => cases y
        · have hv : xs[ws'.length]? = some (xs[ws'.length]'(by omega)) := List.getElem?_eq_getElem (by omega)
          generalize xs[ws'.length]'(by omega) = v at hv
          obtain ⟨d, hd, hdp⟩ := dpAll_get hD hv
          have ed : d = dW lw := by
            rw [List.map_append, List.getElem?_append_right (by rw [List.length_map]; exact Nat.le_refl _), List.length_map, Nat.sub_self] at hd
            injection hd with hd
            exact hd.symm
          subst ed
          obtain ⟨a, rfl, hT⟩ := dp_wordP hdp
          have hat : atI xs (-1) = some (V.ref a) := by
            unfold atI ixN
            rw [if_neg (by decide)]
            rw [if_pos (by omega)]
            show xs[((-1 : Int) + (xs.length : Int)).toNat]? = _
            rw [show ((-1 : Int) + (xs.length : Int)).toNat = ws'.length by omega]
            exact hv
          refine ⟨_, rfl, _, rfl, _, _, _, _, rfl, rfl, SqL.of hw, hat, ?_⟩
          refine ⟨_, _, rfl, hT, rfl, _, _, rfl, _, _, rfl, _, _, rfl, rfl, ?_⟩
          have eL : lastOf (ws' ++ [lw]) = some (lw.1, lw.2.1) := by
            unfold lastOf
            rw [List.getLast?_append]
            rfl
          rw [eL] at q
          have q : ∀ H', Same H H' → Q (V.bl (!(decide (lw.1 = .name) || decide (lw.1 = .int) || decide (lw.1 = .str) || decide (lw.1 = .sym)) && !(decide (lw.2.1 = .s [41]) || decide (lw.2.1 = .s [93])))) H' := q
          have flatK : (vkinds.map fun x => V.str (strOf x)).all flatV = true := by decide +kernel
          have flatv : flatV (vVal lw.2.1) = true := by cases lw.2.1 <;> rfl
          refine ⟨_, rfl, aVK, _, rfl, .inr (hVK H), rfl, flatK, _, rfl, ?_⟩
          have ik := in_kinds lw.1
          refine ite2 (fun y => ?_) (fun y => ?_)
          · have y : (!inV (V.str (kdS lw.1)) (vkinds.map fun x => V.str (strOf x))) = true := y
            rw [ik] at y
            rw [y, Bool.true_and] at q
            refine ⟨_, rfl, (by show 2 ≤ sizeLine; decide), fun r nr => ?_⟩
            refine ⟨r, _, rfl, .inr (SqT.of upd_same), flatv, rfl, ?_⟩
            show Q (V.bl (!inV (vVal lw.2.1) [V.str (Str.ofString ")"), V.str (Str.ofString "]")])) _
            rw [in_ends]
            exact q _ (same_upd nr)
          · have y : ¬ (!inV (V.str (kdS lw.1)) (vkinds.map fun x => V.str (strOf x))) = true := y
            rw [ik] at y
            rw [show (!(decide (lw.1 = .name) || decide (lw.1 = .int) || decide (lw.1 = .str) || decide (lw.1 = .sym))) = false from Bool.eq_false_iff.mpr y, Bool.false_and] at q
            exact q H (Same.refl H)
theorem ok_note_paren {f : Addr} {fd : FuncData} (F : FnP K "note_paren" s_note_paren f fd) : FnOk P w K mg base CX0 2 f fd ["parens", "sign"] spNote := by
  refine F.ok sc_note_paren (fun vs H Q E h => ?_) (fun cdv A outer s H vs Q E hr h => ⟨_, PSs.nox
    (pss_one (ps_if (pt_cmpR op_in_seq (pv 1) (pe_tup (pa_cons pe_str (pa_cons pe_str pa_nil))) (by rfl)) (pss_one (ps_expr (pe_bm PySem.F.plainAttrs_list PySem.F.slot_list_append PySem.F.type_list_append mt_append (pv 0) (pa_cons (pv 1) pa_nil)))) (pss_one (ps_if (PW.pt (pw_and (pt_cmpR op_eq (pv 1) pe_str (nomark _)) (pw_and1 (pt_truth (pv 0) (by intro _; rfl))))) (pss_one (ps_expr (pe_bm0 PySem.F.plainAttrs_list PySem.F.slot_list_pop PySem.F.type_list_pop mt_pop (pv 0)))) pss_nil)))), ?_⟩)
  · obtain ⟨ap, par, t, rfl, _⟩ := h
    rfl
  · obtain ⟨ap, par, t, rfl, hP, hpl, q⟩ := h
    have hs : [V.str (Str.ofString "("), V.str (Str.ofString "#(")] = ([[40], [35, 40]] : List (List Nat)).map fun x => V.str (strOf x) := by decide +kernel
    refine ⟨_, rfl, (by show 2 ≤ sizeLine; decide), fun r nr => ?_⟩
    have rp : r ≠ ap := fun e => by rw [e, hP] at nr; cases nr
    refine ⟨r, _, rfl, .inr (SqT.of upd_same), rfl, rfl, _, rfl, ?_⟩
    have hP1 : (upd H r (.tup [V.str (Str.ofString "("), V.str (Str.ofString "#(")])) ap = some (.lst (par.map pS)) := by rw [upd_ne (Ne.symm rp)]; exact hP
    have s1 := same_upd (o := .tup [V.str (Str.ofString "("), V.str (Str.ofString "#(")]) nr
    generalize upd H r (.tup [V.str (Str.ofString "("), V.str (Str.ofString "#(")]) = H1 at hP1 s1 ⊢
    have hin : inV (V.str (strOf t)) [V.str (Str.ofString "("), V.str (Str.ofString "#(")] = decide (t ∈ ([[40], [35, 40]] : List (List Nat))) := by rw [hs, mem_ws]
    have hsz : par.length < sizeLine := by rw [sizeLine_eq]; omega
    have k41 : Str.ofString ")" = strOf [41] := by decide +kernel
    refine ite2 (fun y => ?_) (fun y => ?_)
    · have y : t = [40] ∨ t = [35, 40] := by
        have := of_decide_eq_true (hin.symm.trans y)
        simpa using this
      refine ⟨_, rfl, .inl ⟨rfl, _, SqL.of hP1⟩, _, rfl, ap, _, _, rfl, rfl, hP1, by rw [List.length_map]; exact hsz, ?_⟩
      refine q _ ?_ fun b o hb e => by rw [upd_ne hb]; exact s1 b o e
      rw [upd_same]
      unfold Tok.note
      rcases y with e | e
      · subst e
        rw [if_pos ⟨rfl, rfl⟩, List.map_append]
        rfl
      · subst e
        rw [if_neg (by decide), if_pos ⟨rfl, rfl⟩, List.map_append]
        rfl
    · have y : ¬ (t = [40] ∨ t = [35, 40]) := fun h => y (hin.trans (decide_eq_true (by simpa using h)))
      have nt : Tok.note par .sign (.s t) = if t = [41] then par.dropLast else par := by
        unfold Tok.note
        rw [if_neg (fun h => y (.inl (Tok.Val.s.inj h.2))), if_neg (fun h => y (.inr (Tok.Val.s.inj h.2)))]
        by_cases h : t = [41]
        · subst h
          rfl
        · rw [if_neg h, if_neg (fun x => h (Tok.Val.s.inj x.2))]
      refine ⟨_, rfl, rfl, _, rfl, ?_⟩
      refine ite2 (fun z => ?_) (fun z => ?_)
      · rw [eq_txt, k41, strOf_inj] at z
        rw [nt, if_pos z] at q
        refine ⟨_, rfl, !(par.map pS).isEmpty, .inl ⟨_, SqL.of hP1, rfl⟩, ?_⟩
        rcases List.eq_nil_or_concat par with e | ⟨par', lp, e⟩
        · subst e
          refine ite2 (fun y => by cases y) (fun _ => ?_)
          exact q H1 hP1 fun b o _ e => s1 b o e
        · have e : par = par' ++ [lp] := by rw [e, List.concat_eq_append]
          subst e
          refine ite2 (fun _ => ?_) (fun y => absurd (by simp) y)
          refine ⟨_, rfl, .inl ⟨rfl, _, SqL.of hP1⟩, ap, _, pS lp, rfl, rfl, hP1, by simp, ?_⟩
          refine q _ ?_ fun b o hb e => by rw [upd_ne hb]; exact s1 b o e
          rw [upd_same]
          simp
      · rw [eq_txt, k41, strOf_inj] at z
        rw [nt, if_neg z] at q
        exact q H1 hP1 fun b o _ e => s1 b o e
end
end My

end
section
set_option Elab.async false
set_option linter.all false
set_option maxRecDepth 100000
set_option maxHeartbeats 2000000
namespace My
open PySem PySem.Spec PyProof.Rows L2 StrLaws
abbrev s_is_text : Stmt := top 6
section
variable {X : Cx}
theorem pst_set {i : Nat} {x : Str} {e : Expr} {te : TE} {pos' pos : Pos} (hN : X.N.Nodup) (hi : X.N[i]? = some x) (hx : Loc X.env.scope x) (he : PET X e te) (hs : swapsWith e (some (.Name x pos')) pos.line X.env = pure false := by rfl) (hf : X.fn x = true ∨ X.env.scope.names.lookup x = some .local := by first | exact .inl rfl | exact .inr rfl | assumption) :
    PST X (.Assign [.Name x pos'] e pos) (tAsg te (gName i)) := by
  intro pins s σ H D h0 I h
  refine wpAny_Assign_Name (thn (he pins s σ H _ h0 I h) fun v s1 ⟨y, H1, I1, r1, q1⟩ => ?_) hs
  exact store_ok I1 hN hi hx r1 (fun s2 I2 => ⟨_, H1, I2, q1⟩) hf
end
def okSign (c : Nat) : Bool := c == 10 || (32 ≤ c && c ≤ 126)
theorem repl_drop (l : List Nat) : replL [10] [] l = l.filter (fun c => !decide (c = 10)) := by
  induction l with
  | nil => exact replL_nil
  | cons c r ih =>
    by_cases h : c = 10
    · subst h
      rw [replL_hit (by decide) (by rfl)]
      show [] ++ replL [10] [] r = _
      rw [ih]
      rfl
    · rw [replL_miss (by intro y; injection y with y _; exact h y), ih, List.filter_cons_of_pos (by simpa using h)]
theorem sign_tab : ∀ c < 128, Unicode.isPrintable c = (decide (32 ≤ c) && decide (c ≤ 126)) := by decide +kernel
theorem text_eq (l : List Nat) : (((l.filter (fun c => !decide (c = 10))).all fun c => decide (c < 128)) && (l.filter (fun c => !decide (c = 10))).all Unicode.isPrintable) = l.all okSign := by
  induction l with
  | nil => rfl
  | cons c r ih =>
    by_cases h : c = 10
    · subst h
      rw [List.filter_cons_of_neg (by decide), ih]
      rfl
    · rw [List.filter_cons_of_pos (by simpa using h), List.all_cons, List.all_cons, List.all_cons, ← ih]
      by_cases c1 : c < 128
      · rw [sign_tab c c1]
        unfold okSign
        rw [show (c == 10) = false by simpa using h, Bool.false_or, decide_eq_true c1, Bool.true_and]
        cases (decide (32 ≤ c) && decide (c ≤ 126)) <;> simp
      · rw [decide_eq_false c1]
        have : okSign c = false := by
          unfold okSign
          rw [show (c == 10) = false by simpa using h, decide_eq_false (show ¬ c ≤ 126 by omega)]
          simp
        rw [this]
        simp
theorem txt_all (z : Str) (p : Nat → Bool) : z.cps.all p = (codesOf z).all p := by
  unfold codesOf
  rw [Array.all_toList]
def spIsText (K : PySem.W.Frag) : Sp := fun vs H Q _ => ∃ v, vs = [v] ∧ ((∃ z, v = .str z ∧ z.length ≤ 16777216 ∧ Q (.bl ((codesOf z).all okSign)) H) ∨ ((∃ t, TyX K H v t ∧ PySem.W.kitOne K t (.type "str") = some false) ∧ Q (.bl false) H))
section
variable {P : Program} {w : World} {K : PySem.W.Frag} {mg : Str → Option Value} {base : Heap} {C fI : Addr} {qual : Str}
theorem sc_is_text : FnScope ["thing", "bare"] ["thing"] (defScope s_is_text) := ⟨rfl, rfl, rfl, by decide +kernel, rfl, by decide +kernel, by decide +kernel⟩
theorem ok_is_text {f : Addr} {fd : FuncData} (F : FnP K "is_text" s_is_text f fd) (g_isinstance : mg "isinstance" = none) (g_str : mg "str" = none) : FnOk P w K mg base CX0 2 f fd ["thing"] (spIsText K) := by
  obtain ⟨oc, od, dV, kV, doc, pm, an, cdv, ct, osl, rfl, lk, hcd, _, _⟩ := F.ex
  refine fn_ofT lk hcd sc_is_text (by decide +kernel) (by decide) (fun vs H Q E h => ?_) fun A outer s H vs Q E hr h => ⟨_, psst_cons (PST.of (ps_if (pt_not (pt_val (pe_callB call_isi (by rfl) g_isinstance (by decide +kernel) (pa_cons (pv 0) (pa_cons (pe_bltn (v := .ty "str") (u := .type "str") (by rfl) g_str (by decide +kernel) rfl) pa_nil))))) (pss_one (ps_ret pe_bl)) pss_nil))
      (psst_cons (pst_set (i := 1) sc_is_text.nd rfl (Or.inl rfl) (CwR.pet_replC (pv 0)))
      (PSsT.of (pss_one (ps_ret (pe_and (pe_bm0 PySem.F.plainAttrs_str PySem.F.slot_str_isascii PySem.F.type_str_isascii mt_isascii (pv 1)) (pe_one (pe_bm0 PySem.F.plainAttrs_str PySem.F.slot_str_isprintable PySem.F.type_str_isprintable mt_isprintable (pv 1)))))))), ?_⟩
  · obtain ⟨v, rfl, _⟩ := h
    rfl
  · obtain ⟨v, rfl, h⟩ := h
    rcases h with ⟨z, rfl, hz, q⟩ | ⟨⟨t, ht, hk⟩, q⟩
    · refine ⟨_, rfl, _, _, _, _, true, rfl, ClsV.ty _, .base (.str z), kit_ty (by decide +kernel), ?_⟩
      refine ⟨_, rfl, ite2 (fun y => by cases y) fun _ => ?_⟩
      have eb : codesOf (Txt.replace z (Str.ofString "\n") (Str.ofString "")) = (codesOf z).filter (fun c => !decide (c = 10)) := by
        have k1 : (Str.ofString "\n") = strOf [10] := by decide +kernel
        have k2 : (Str.ofString "") = strOf [] := by decide +kernel
        refine (replace_list (by decide +kernel)).trans ?_
        rw [k1, k2]
        show replL (codesOf (strOf [10])) (codesOf (strOf [])) (codesOf z) = _
        rw [codes_strOf, codes_strOf, repl_drop]
      have e1 : Txt.isascii (Txt.replace z (Str.ofString "\n") (Str.ofString "")) = ((codesOf z).filter (fun c => !decide (c = 10))).all fun c => decide (c < 128) := by
        unfold Txt.isascii
        rw [txt_all, eb]
      have e2 : Txt.isprintable (Txt.replace z (Str.ofString "\n") (Str.ofString "")) = ((codesOf z).filter (fun c => !decide (c = 10))).all Unicode.isPrintable := by
        unfold Txt.isprintable
        rw [txt_all, eb]
      have te := text_eq (codesOf z)
      rw [← e1, ← e2] at te
      rw [← te] at q
      refine ⟨_, rfl, z, rfl, ?_, ?_⟩
      · have : (Str.ofString "").length = 0 := by decide +kernel
        rw [this]
        omega
      refine ⟨_, rfl, rfl, _, rfl, rfl, trivial, _, rfl, ?_⟩
      refine ite2 (fun y => ?_) (fun y => ?_)
      · have y : Txt.isascii (Txt.replace z (Str.ofString "\n") (Str.ofString "")) = true := y
        rw [y, Bool.true_and] at q
        exact ⟨_, rfl, rfl, _, rfl, rfl, trivial, q⟩
      · have y : Txt.isascii (Txt.replace z (Str.ofString "\n") (Str.ofString "")) = false := Bool.eq_false_iff.mpr y
        rw [y, Bool.false_and] at q
        exact q
    · refine ⟨_, rfl, _, _, t, _, false, rfl, ClsV.ty _, ht, hk, ?_⟩
      refine ⟨_, rfl, ite2 (fun _ => ?_) fun y => absurd rfl y⟩
      exact q
end
end My

end
section
set_option Elab.async false
set_option linter.all false
set_option maxRecDepth 100000
set_option maxHeartbeats 2000000
namespace My
open PySem PySem.Spec PyProof.Rows L2
theorem keysLen_le : ∀ (f : Nat) (l : List Nat), Tok.keysLen f l ≤ l.length
  | 0, l => Nat.zero_le _
  | f + 1, l => by
    show (if 0 < Tok.keyLen l then _ else 0) ≤ _
    split
    · have h1 := keyLen_len l
      have h2 := keysLen_le f (l.drop (Tok.keyLen l))
      rw [List.length_drop] at h2
      omega
    · exact Nat.zero_le _
theorem listed_le (ws : List (List Nat)) (l : List Nat) : Tok.listed ws l ≤ l.length := by
  unfold Tok.listed
  split
  · rw [List.length_take]; omega
  · split
    · rw [List.length_take]; omega
    · exact Nat.zero_le _
theorem other_le {l : List Nat} {k : Tok.Kd} {v : Tok.Val} {m : Nat} (h : Tok.other l = some (k, v, m)) : m ≤ l.length ∧ (k = .sign → ∃ t, v = .s t) := by
  unfold Tok.other at h
  have h1 := listed_le Tok.ops l
  have h2 := listed_le Tok.signs l
  split at h
  · cases h; exact ⟨h1, fun _ => ⟨_, rfl⟩⟩
  · split at h
    · cases h; exact ⟨h2, fun _ => ⟨_, rfl⟩⟩
    · cases h
theorem symbol_le {l : List Nat} {v : Tok.Val} {m : Nat} (h : Tok.symbol l = some (v, m)) : m ≤ l.length := by
  unfold Tok.symbol at h
  split at h
  · rename_i hh
    cases l with
    | nil => cases hh
    | cons c r =>
      rw [sb_body (by rw [List.length_drop]; omega)] at h
      show m ≤ r.length + 1
      have e : (c :: r).drop 1 = r := rfl
      rw [e] at h
      cases hb : body r with
      | none => rw [hb] at h; cases h
      | some x =>
        obtain ⟨t, n⟩ := x
        rw [hb] at h
        cases h
        have := (undouble _ _ (Nat.le_refl _) t n hb).2.1
        omega
  · split at h
    · cases h; exact keysLen_le _ _
    · split at h
      · cases h; exact nameLen_len _
      · split at h
        · cases h; exact listed_le _ _
        · cases h
theorem pre_le {b : Bool} {c : Nat} {r : List Nat} {k : Tok.Kd} {v : Tok.Val} {m : Nat} (h : preW b c (c :: r) r = some (k, v, m)) : m ≤ r.length + 1 ∧ k ≠ .sign := by
  have L : (c :: r).length = r.length + 1 := rfl
  unfold preW at h
  split at h
  · unfold nameWord at h
    have h1 := keyLen_len (c :: r)
    have h2 := nameLen_len (c :: r)
    split at h
    · cases h; exact ⟨by omega, by decide⟩
    · split at h
      · cases h; exact ⟨by omega, by decide⟩
      · cases h
  · split at h
    · unfold intWord at h
      have h1 := Tok.run_le Tok.isDg (c :: r)
      have h : (if 0 < Tok.run Tok.isDg (c :: r) ∧ Tok.run Tok.isDg (c :: r) ≤ 60 then _ else none) = some (k, v, m) := h
      split at h
      · cases h
        exact ⟨by show 0 + Tok.run Tok.isDg (c :: r) ≤ _; omega, by decide⟩
      · cases h
    · split at h
      · unfold strWord at h
        cases hb : body r with
        | none => rw [hb] at h; cases h
        | some x =>
          obtain ⟨t, n⟩ := x
          rw [hb] at h
          cases h
          have := (undouble _ _ (Nat.le_refl _) t n hb).2.1
          exact ⟨by omega, by decide⟩
      · split at h
        · unfold symWord at h
          cases hs : Tok.symbol r with
          | none => rw [hs] at h; cases h
          | some x =>
            obtain ⟨v', n⟩ := x
            rw [hs] at h
            cases h
            have := symbol_le hs
            exact ⟨by show n + 1 ≤ _; omega, by decide⟩
        · split at h
          · unfold intWord at h
            have h1 := Tok.run_le Tok.isDg r
            have h : (if 0 < Tok.run Tok.isDg r ∧ Tok.run Tok.isDg r ≤ 60 then _ else none) = some (k, v, m) := h
            split at h
            · cases h
              exact ⟨by show 1 + Tok.run Tok.isDg r ≤ _; omega, by decide⟩
            · cases h
          · cases h
theorem word_le {b : Bool} {l : List Nat} {k : Tok.Kd} {v : Tok.Val} {m : Nat} (h : Tok.word b l = some (k, v, m)) : m ≤ l.length ∧ (k = .sign → ∃ t, v = .s t) := by
  cases l with
  | nil => cases h
  | cons c r =>
    rw [word_pre] at h
    cases hp : preW b c (c :: r) r with
    | some x =>
      rw [hp] at h
      cases h
      have := pre_le hp
      exact ⟨this.1, fun e => absurd e this.2⟩
    | none =>
      rw [hp] at h
      exact other_le h
/-- the words from here on, a gap behind us -/
def aft (f : Nat) (l : List Nat) (p : Nat) (par : List Bool) (last : Option (Tok.Kd × Tok.Val)) : Except Nat (List Tok.W) :=
  if l = [] then .ok [] else match Tok.word (Tok.binds par last) l with
    | none => .error p
    | some (k, v, m) => match Tok.toks f (l.drop m) (p + m) (Tok.note par k v) (some (k, v)) with
      | .ok ws => .ok ((k, v, p) :: ws)
      | .error q => .error q
theorem toks_aft (f : Nat) (l : List Nat) (p : Nat) (par : List Bool) (last : Option (Tok.Kd × Tok.Val)) : Tok.toks (f + 1) l p par last = match gp l with
    | .error n => .error (p + n)
    | .ok n => aft f (l.drop n) (p + n) par last := by
  rw [Tok.toks.eq_def]
  show (match gp l with | .error n => _ | .ok n => _) = _
  cases gp l with
  | error n => rfl
  | ok n =>
    show (if l.drop n = [] then _ else _) = aft f (l.drop n) (p + n) par last
    unfold aft
    by_cases h : l.drop n = []
    · rw [if_pos h, if_pos h]
    · rw [if_neg h, if_neg h]
      cases Tok.word (Tok.binds par last) (l.drop n) with
      | none => rfl
      | some x =>
        obtain ⟨k, v, m⟩ := x
        show (match Tok.toks f (l.drop (n + m)) (p + n + m) _ _ with | .ok ws => _ | .error q => _) = (match Tok.toks f ((l.drop n).drop m) (p + n + m) _ _ with | .ok ws => _ | .error q => _)
        rw [List.drop_drop]
end My

end
section
set_option Elab.async false
set_option linter.all false
set_option maxRecDepth 100000
set_option maxHeartbeats 2000000
namespace My
open PySem PySem.Spec PyProof.Rows L2 TL

/-! ### signs of plain words -/
theorem id_tab : ∀ c < 128, c ≠ 95 → Unicode.isNameStart c = Tok.isAl c ∧ Unicode.isNameContinue c = Tok.isAn c := by decide +kernel
/-- signs of a source, no _ -/
def Asc (w : List Nat) : Prop := ∀ c ∈ w, c < 128 ∧ c ≠ 95
theorem all_congr {p q : Nat → Bool} : ∀ {l : List Nat}, (∀ c ∈ l, p c = q c) → l.all p = l.all q
  | [], _ => rfl
  | c :: l, h => by rw [List.all_cons, List.all_cons, h c List.mem_cons_self, all_congr fun d hd => h d (List.mem_cons_of_mem _ hd)]
theorem ident_eq {z : Str} (h : Asc (codesOf z)) : Txt.isidentifier z = Tok.isId (codesOf z) := by
  unfold Txt.isidentifier codesOf
  have h : Asc z.cps.toList := h
  cases e : z.cps.toList with
  | nil => rfl
  | cons c r =>
    rw [e] at h
    obtain ⟨h1, h2⟩ := h c List.mem_cons_self
    show (Unicode.isNameStart c && r.all Unicode.isNameContinue) = (Tok.isAl c && r.all Tok.isAn)
    rw [(id_tab c h1 h2).1, all_congr fun d hd => (id_tab d (h d (List.mem_cons_of_mem _ hd)).1 (h d (List.mem_cons_of_mem _ hd)).2).2]
theorem dgU_tab : ∀ c < 128, Unicode.isDigit c = Tok.isDg c := by decide +kernel
theorem digit_eq {z : Str} (h : Asc (codesOf z)) : Txt.isdigit z = (decide (0 < (codesOf z).length) && (codesOf z).all Tok.isDg) := by
  unfold Txt.isdigit
  rw [txt_all, len_codes, all_congr fun d hd => dgU_tab d (h d hd).1]
theorem mt_isidentifier {X : Cx} : MtR X "str.isidentifier" (fun x xs H Q => ∃ a, x = .str a ∧ xs = [] ∧ True ∧ Q (.bl (Txt.isidentifier a)) H) :=
  mt0 (C := fun _ => True) (g := fun a => .bl (Txt.isidentifier a)) fun _ _ s _ _ h => PySem.SC.isidentifier (h _ s.toks rfl)
theorem asc_drop {w : List Nat} {n : Nat} (h : Asc w) : Asc (w.drop n) := fun c hc => h c (List.mem_of_mem_drop hc)
theorem asc_take {w : List Nat} {n : Nat} (h : Asc w) : Asc (w.take n) := fun c hc => h c (List.mem_of_mem_take hc)
/-! ### slices, ends, beginnings -/
theorem codes_mk (l : List Nat) : codesOf (⟨l.toArray⟩ : Str) = l := rfl
theorem cut_from1 (z : Str) : codesOf (cutS z (some 1) none) = (codesOf z).drop 1 := by
  unfold cutS
  rw [codes_mk]
  have hl := len_codes z
  show ((codesOf z).drop (HT.sIx z.length 0 (some ((1 : Nat) : Int)))).take (HT.sIx z.length z.length none - HT.sIx z.length 0 (some ((1 : Nat) : Int))) = _
  rw [HT.sIx_nat, HT.sIx_none]
  cases e : codesOf z with
  | nil => simp
  | cons c r =>
    rw [e] at hl
    have hl : z.length = r.length + 1 := hl
    rw [hl, show min 1 (r.length + 1) = 1 by omega]
    show List.take (r.length + 1 - 1) r = r
    rw [show r.length + 1 - 1 = r.length by omega, List.take_length]
theorem cut_last (z : Str) : codesOf (cutS z none (some (-1))) = (codesOf z).dropLast := by
  unfold cutS
  rw [codes_mk]
  have hl := len_codes z
  show ((codesOf z).drop (HT.sIx z.length 0 none)).take (HT.sIx z.length z.length (some (-1)) - HT.sIx z.length 0 none) = _
  rw [HT.sIx_none, List.drop_zero]
  have e : HT.sIx z.length z.length (some (-1)) = z.length - 1 := by
    show (if (-1 : Int) < 0 then ((-1 : Int) + (z.length : Int)).toNat else min (-1 : Int).toNat z.length) = _
    rw [if_pos (by decide)]
    omega
  rw [e, Nat.sub_zero, List.dropLast_eq_take, hl] <;> rfl
theorem sub_at {z y : Str} (i : Nat) (h : i + y.length ≤ z.length) : Builtin.Str.subAt z y i = decide (((codesOf z).drop i).take y.length = codesOf y) := by
  by_cases hy : tl y = []
  · have h0 : y.length = 0 := by rw [len_tl, hy]; rfl
    have e : codesOf y = [] := hy
    rw [h0, e]
    unfold Builtin.Str.subAt
    have : z.cps.extract i (i + y.length) = y.cps := by
      apply Array.toList_inj.mp
      rw [h0]
      have : y.cps.toList = [] := hy
      rw [this]
      simp
    rw [this]
    simp
  · have q := at_iff (x := z) hy i
    have d : (decide (((codesOf z).drop i).take y.length = codesOf y)) = pre (tl y) ((tl z).drop i) := by
      unfold pre
      have e1 : y.length = (tl y).length := len_tl y
      rw [e1]
      show decide (((tl z).drop i).take (tl y).length = tl y) = ((((tl z).drop i).take (tl y).length) == tl y)
      by_cases hx : ((tl z).drop i).take (tl y).length = tl y
      · rw [decide_eq_true hx, hx]
        simp
      · rw [decide_eq_false hx]
        exact (beq_eq_false_iff_ne.mpr hx).symm
    rw [d]
    cases hb : Builtin.Str.subAt z y i with
    | true => exact (q.mp ⟨h, hb⟩).symm
    | false =>
      cases hp : pre (tl y) ((tl z).drop i) with
      | false => rfl
      | true =>
        have := (q.mpr hp).2
        rw [hb] at this
        cases this
theorem starts_one (z : Str) (c : Nat) : Txt.startswith z ⟨#[c]⟩ = decide ((codesOf z).head? = some c) := by
  unfold Txt.startswith
  have hl := len_codes z
  have h1 : (⟨#[c]⟩ : Str).length = 1 := rfl
  rw [h1]
  cases e : codesOf z with
  | nil =>
    rw [e] at hl
    have hl : z.length = 0 := hl
    rw [hl]
    simp
  | cons d r =>
    rw [e] at hl
    have hl : z.length = r.length + 1 := hl
    rw [sub_at 0 (by rw [h1, hl]; omega), h1, e, hl]
    show (decide (0 + 1 ≤ r.length + 1) && decide ([d] = [c])) = _
    rw [decide_eq_true (by omega), Bool.true_and]
    by_cases x : d = c
    · subst x
      simp
    · simp [x]
theorem ends_one (z : Str) (c : Nat) : Txt.endswith z ⟨#[c]⟩ = decide ((codesOf z).getLast? = some c) := by
  unfold Txt.endswith
  have hl := len_codes z
  have h1 : (⟨#[c]⟩ : Str).length = 1 := rfl
  rw [h1]
  rcases List.eq_nil_or_concat (codesOf z) with e | ⟨r, d, e⟩
  · rw [e] at hl ⊢
    have hl : z.length = 0 := hl
    rw [hl]
    simp
  · rw [List.concat_eq_append] at e
    have hl : z.length = r.length + 1 := by rw [hl, e, List.length_append]; rfl
    rw [sub_at (z.length - 1) (by rw [h1, hl]; omega), h1, e, hl]
    show (decide (0 + 1 ≤ r.length + 1) && decide (((r ++ [d]).drop (r.length + 1 - 1)).take 1 = [c])) = _
    rw [decide_eq_true (by omega), Bool.true_and, show r.length + 1 - 1 = r.length by omega, List.drop_left, List.getLast?_append]
    show decide ([d] = [c]) = decide (some d = some c)
    by_cases x : d = c
    · subst x
      simp
    · simp [x]
/-- the parts between : -/
def partsL (w : List Nat) : List (List Nat) := spl [58] 0 [] w
theorem split_parts (z : Str) : (Txt.split z ⟨#[58]⟩).map codesOf = partsL (codesOf z) := split_spl z ⟨#[58]⟩ (by decide) (kind_ok (by decide +kernel))
theorem parts_keys : ∀ (w acc : List Nat), (spl [58] 0 acc w).all Tok.okPart = true → ∀ ps, spl [58] 0 acc w = ps → acc ++ w ++ [58] = Tok.keys ps ∧ ps ≠ []
  | [], acc, _, ps, e => by
    rw [spl_nil] at e
    subst e
    refine ⟨?_, by simp⟩
    show acc ++ [] ++ [58] = acc ++ 58 :: []
    simp
  | c :: w, acc, h, ps, e => by
    by_cases hc : c = 58
    · subst hc
      have hp : pre [58] (58 :: w) = true := by unfold pre; simp
      rw [spl_hit hp] at e h
      have e : acc :: spl [58] 0 [] w = ps := e
      have h : (acc :: spl [58] 0 [] w).all Tok.okPart = true := h
      subst e
      rw [List.all_cons, Bool.and_eq_true] at h
      obtain ⟨ih, _⟩ := parts_keys w [] h.2 _ rfl
      refine ⟨?_, by simp⟩
      show acc ++ 58 :: w ++ [58] = acc ++ 58 :: Tok.keys (spl [58] 0 [] w)
      rw [← ih]
      simp
    · have hp : pre [58] (c :: w) = false := pre_of_head [] w hc
      rw [spl_miss hp] at e h
      obtain ⟨ih, h2⟩ := parts_keys w (acc ++ [c]) h ps e
      refine ⟨?_, h2⟩
      rw [← ih]
      simp
theorem last_split {w : List Nat} {c : Nat} (h : w.getLast? = some c) : w = w.dropLast ++ [c] := by
  rcases List.eq_nil_or_concat w with e | ⟨r, d, e⟩
  · subst e
    cases h
  · rw [List.concat_eq_append] at e
    subst e
    rw [List.getLast?_append] at h
    cases h
    simp
theorem keys_of_chunk {w : List Nat} (h : w.getLast? = some 58) (hp : (partsL w.dropLast).all Tok.okPart = true) : w = Tok.keys (partsL w.dropLast) ∧ partsL w.dropLast ≠ [] := by
  obtain ⟨h1, h2⟩ := parts_keys w.dropLast [] hp _ rfl
  refine ⟨?_, h2⟩
  have h1 : [] ++ w.dropLast ++ [58] = Tok.keys (partsL w.dropLast) := h1
  rw [← h1]
  exact last_split h
theorem parts_mem : ∀ (w acc : List Nat) (a : List Nat), a ∈ spl [58] 0 acc w → ∀ c ∈ a, c ∈ acc ++ w
  | [], acc, a, h, c, hc => by
    rw [spl_nil] at h
    rw [List.mem_singleton.mp h] at hc
    simpa using hc
  | d :: w, acc, a, h, c, hc => by
    by_cases hd : d = 58
    · subst hd
      have hp : pre [58] (58 :: w) = true := by unfold pre; simp
      rw [spl_hit hp] at h
      rcases List.mem_cons.mp h with e | h
      · rw [e] at hc
        exact List.mem_append_left _ hc
      · have := parts_mem w [] a h c hc
        refine List.mem_append_right _ (List.mem_cons_of_mem _ ?_)
        simpa using this
    · have hp : pre [58] (d :: w) = false := pre_of_head [] w hd
      rw [spl_miss hp] at h
      have := parts_mem w (acc ++ [d]) a h c hc
      simpa using this
theorem parts_asc {w : List Nat} (h : Asc w) {a : List Nat} (ha : a ∈ partsL w) : Asc a := fun c hc => h c (by simpa using parts_mem w [] a ha c hc)
/-! ### find -/
theorem find_at (z : Str) (w : List Nat) (p q : Nat) {c : Nat} {r l' : List Nat} (hw : w = c :: r) (hc : Tok.isB c = false) (hpq : p ≤ q) (hq : (codesOf z).drop q = w ++ l') (hg : ∀ j, p ≤ j → j < q → ∃ b, (codesOf z)[j]? = some b ∧ Tok.isB b = true) : Txt.find3 z (strOf w) (p : Int) = (q : Int) := by
  have hy : tl (strOf w) ≠ [] := by
    show w ≠ []
    rw [hw]
    simp
  have ew : tl (strOf w) = w := rfl
  have hlen := len_codes z
  have hlt : q + w.length ≤ (codesOf z).length := by
    have e := congrArg List.length hq
    rw [List.length_drop, List.length_append] at e
    have : 0 < w.length := by rw [hw]; simp
    omega
  have hw0 : 0 < w.length := by rw [hw]; simp
  have hf : fromIndex z.length (p : Int) = p := by
    unfold fromIndex
    rw [if_neg (by omega)]
    omega
  have atq : PySem.StrLaws.At z (strOf w) z.length q := (at_iff hy q).mpr (by
    unfold pre
    rw [ew]
    show ((codesOf z).drop q).take w.length == w
    rw [hq, List.take_left]
    simp)
  have nat : ∀ v, p ≤ v → v < q → ¬ PySem.StrLaws.At z (strOf w) z.length v := fun v h1 h2 hA => by
    have hp := (at_iff hy v).mp hA
    obtain ⟨b, hb, hB⟩ := hg v h1 h2
    unfold pre at hp
    rw [ew] at hp
    have hp : ((codesOf z).drop v).take w.length = w := eq_of_beq hp
    have hv : v < (codesOf z).length := by omega
    rw [List.drop_eq_getElem_cons hv, hw] at hp
    rw [List.getElem?_eq_getElem hv] at hb
    have hb : (codesOf z)[v] = b := Option.some.inj hb
    rw [hb] at hp
    have hp : b :: List.take r.length _ = c :: r := hp
    injection hp with hp _
    rw [hp, hc] at hB
    cases hB
  unfold Txt.find3
  rcases PySem.StrLaws.occ_head_from z (strOf w) (fromIndex z.length (p : Int)) 1 (Nat.le_refl 1) with ⟨h0, hn⟩ | ⟨k, rr, h0, hlo, hk, hn⟩
  · exact absurd atq (hn q (by rw [hf]; exact hpq))
  · rw [h0]
    rw [hf] at hlo hn
    show (k : Int) = (q : Int)
    rcases Nat.lt_trichotomy k q with x | x | x
    · exact absurd hk (nat k hlo x)
    · rw [x]
    · exact absurd atq (hn q hpq x)

end My

end
section
set_option Elab.async false
set_option linter.all false
set_option maxRecDepth 100000
set_option maxHeartbeats 2000000
namespace My
open PySem PySem.Spec PyProof.Rows L2 TL

abbrev s_is_symbol : Stmt := top 21
abbrev s_surely_binds : Stmt := top 22
abbrev s_put_keywords : Stmt := top 19
abbrev s_put_string : Stmt := top 20
theorem pe_bmK0 {X : Cx} {K : PySem.W.Frag} {T id : String} {name : Str} {apos cpos : Pos} {r : V → List V → Hp → VK → Prop} {o : Expr} {to : TE} (hK : X.K = K) (pa : PlainAttrs T) (slot : Slot T name id) (hty : typeOf (.builtin id) = pure (.type "method_descriptor")) (hm : MtR X id r) (ho : PE X o to)
    (hbase : attributeBase o name X.env (eval o X.env) = eval o X.env := by rfl) (hline : (apos.endLine == cpos.line) = true := by rfl) : PE X (.Call (.Attribute o name apos) [] [] cpos) (tBM0 K T r to) := by
  subst hK
  exact pe_bm0 pa slot hty hm ho hbase hline
/-! ### a dict of the module, asked by get -/
section
variable {X : Cx} {o e : Expr} {apos cpos : Pos} {to te : TE} {d : Addr} {es : Array DictEntry} {n : Nat}
def tKGet (K : PySem.W.Frag) (d : Addr) (to te : TE) : TE := fun σ H Q => to σ H fun x H1 => x = .ref d ∧ te σ H1 fun y H2 => ∃ (z : Str) (r : Option Value), y = .str z ∧ PySem.W.nsIn K d z = some r ∧ (match r with | none => Q .non H2 | some u => ∃ v, RelV v u ∧ Q v H2)
theorem pe_kget (D : KDict X.K X.w d es n) (ho : PE X o to) (he : PE X e te) (m : M1 X o "get" apos e cpos) : PE X (.Call (.Attribute o "get" apos) [e] [] cpos) (tKGet X.K d to te) := by
  refine ⟨fun pins s σ H Q I h => ?_⟩
  refine wpAny_Call_method m.base m.few m.line PySem.F.plainAttrs_dict PySem.F.slot_dict_get PySem.F.type_dict_get (thn (ho.run pins s σ H _ I h) fun u s1 ⟨x, H1, I1, rx, ex, q1⟩ => ?_)
  subst ex
  obtain rfl : u = Value.ref d := rx
  refine ⟨kd_type D I1, fun b q => ?_, ?_⟩
  · cases q
    exact ⟨_, I1.kIn _ _ D.at_, rfl⟩
  rw [m.trees]
  refine Calls.callWith_builtin rfl (Calls.evalArgs_plain (Calls.spliced_cons (thn (he.run pins s1 σ H1 _ I1 q1) fun iv s2 ⟨y, H2, I2, ry, z, r, ey, hr, q2⟩ => Calls.spliced_nil ?_)))
  subst ey
  obtain ⟨t, rfl⟩ := ry
  refine call_meetsIn PySem.F.slot_dict_get (kd_type D I2) PySem.F.entry_dict_get (PySem.F.args_dict_get_2 _ _) (meets_dict_get (PySem.strKind X.prog X.w) d (PySem.strKind_is X.prog X.w z t) D.low) ⟨_, PySem.W.mapOf_K (prog := X.prog) I2.kIn D.at_ D.lit, ?_⟩
  rw [PySem.W.find_K D.at_ hr]
  cases r with
  | none => exact ⟨.non, H2, I2.tok _, rfl, q2⟩
  | some u =>
    obtain ⟨v, rv, q3⟩ := q2
    exact ⟨v, H2, I2.tok _, rv, q3⟩
end
/-- FIXED at d -/
def FixAt (K : PySem.W.Frag) (w : World) (d : Addr) : Prop := ∃ es n, KDict K w d es n ∧ ∀ z : Str, ∃ r, PySem.W.nsIn K d z = some r ∧ ∀ u, r = some u → ∃ k t, u = .str (kdS k) t ∧ (codesOf z, k) ∈ Tok.fixed
def Good (a : List Nat) : Prop := (Tok.isId a = true ∧ a.length ≤ 40) ∨ a ∈ Tok.ops ∨ ∃ ps, ps ≠ [] ∧ ps.all Tok.okPart = true ∧ a = Tok.keys ps
def spIsSymbol : Sp := fun vs H Q _ => ∃ z : Str, vs = [.str z] ∧ Asc (codesOf z) ∧ (codesOf z).length ≤ 2000 ∧ ∀ b H', Same H H' → (b = true → Good (codesOf z)) → Q (.bl b) H'
section
variable {P : Program} {w : World} {K : PySem.W.Frag} {mg : Str → Option Value} {base : Heap}
theorem sc_is_symbol : FnScope ["text", "part"] ["text"] (defScope s_is_symbol) := ⟨rfl, rfl, rfl, by decide +kernel, rfl, by decide +kernel, by decide +kernel⟩
theorem spl_len : ∀ (w acc : List Nat), (spl [58] 0 acc w).length ≤ w.length + 1
  | [], acc => by rw [spl_nil]; simp
  | c :: w, acc => by
    by_cases hc : c = 58
    · subst hc
      rw [spl_hit (by unfold pre; simp)]
      have : (spl [58] 0 [] w).length ≤ w.length + 1 := spl_len w []
      show (spl [58] 0 [] w).length + 1 ≤ _
      simp only [List.length_cons]
      omega
    · rw [spl_miss (pre_of_head [] w hc)]
      have := spl_len w (acc ++ [c])
      simp only [List.length_cons]
      omega
theorem spl_each : ∀ (w acc a : List Nat), a ∈ spl [58] 0 acc w → a.length ≤ acc.length + w.length
  | [], acc, a, h => by
    rw [spl_nil] at h
    rw [List.mem_singleton.mp h]
    simp
  | c :: w, acc, a, h => by
    by_cases hc : c = 58
    · subst hc
      rw [spl_hit (by unfold pre; simp)] at h
      rcases List.mem_cons.mp h with e | h
      · rw [e]
        omega
      · have : a.length ≤ ([] : List Nat).length + w.length := spl_each w [] a h
        simp only [List.length_cons, List.length_nil] at this ⊢
        omega
    · rw [spl_miss (pre_of_head [] w hc)] at h
      have := spl_each w (acc ++ [c]) a h
      simp only [List.length_append, List.length_cons, List.length_nil] at this ⊢
      omega
theorem tyesB {σ : L2.St} {H : Hp} {A B : Hp → Prop} (h : A H) : tYes σ H (fun b H3 => if b = true then A H3 else B H3) := iteT (A := A H) (B := B H) h
theorem ok_is_symbol {f d : Addr} {fd : FuncData} (F : FnP K "is_symbol" s_is_symbol f fd) (g_len : mg "len" = none) (g_all : mg "all" = none) (g_FX : mg "FIXED" = some (.ref d)) (hF : FixAt K w d) (g_LN : ∃ t, mg "LONGEST_NAME" = some (.int 40 t)) : FnOk P w K mg base CX0 2 f fd ["text"] spIsSymbol := by
  obtain ⟨t, g_LONGEST_NAME⟩ := g_LN
  have r_LONGEST_NAME : RelV (.int 40) (.int 40 t) := ⟨t, rfl⟩
  obtain ⟨es, n, D, hD⟩ := hF
  refine F.ok sc_is_symbol (fun vs H Q E h => ?_) (fun cdv A outer s H vs Q E hr h => ⟨_, PSs.nox
    (pss_cons (ps_if (pt_val (pe_bm0 PySem.F.plainAttrs_str PySem.F.slot_str_isidentifier PySem.F.type_str_isidentifier mt_isidentifier (pv 0))) (pss_one (ps_ret (pe_cmpR op_le (pe_callB call_len_str (by rfl) g_len PySem.boot_len (pa_cons (pv 0) pa_nil)) (pe_glob rfl g_LONGEST_NAME r_LONGEST_NAME) (nomark _)))) pss_nil)
    (pss_cons (ps_if (pt_not (pt_val (pe_bm PySem.F.plainAttrs_str PySem.F.slot_str_endswith PySem.F.type_str_endswith mt_endswith (pv 0) (pa_cons pe_str pa_nil)))) (pss_one (ps_ret (pe_cmpR op_eq (pe_kget D (pe_glob (v := .ref d) rfl g_FX rfl) (pv 0) ⟨rfl, rfl, rfl, rfl⟩) pe_str (nomark _)))) pss_nil)
    (pss_one (ps_ret (pe_callB (cr_all rfl) (by rfl) g_all (by decide +kernel) (pa_cons (pe_lc (own := [("part", 1)]) rfl sc_is_symbol.nd (pi_list (pe_bm PySem.F.plainAttrs_str PySem.F.slot_str_split PySem.F.type_str_split mt_split (pe_slice sl_str (pv 0) po_none (po_some (pe_un un_neg pe_int))) (pa_cons pe_str pa_nil))) (blkOk_by (own := [("part", 1)]) (N := ["text", "part"]) (sc := defScope s_is_symbol) (by decide +kernel)) (fun _ _ _ _ _ => by (exact (pg_name (i := 1) sc_is_symbol.nd rfl (Or.inl rfl)))) (fun _ _ _ _ _ => by exact pts_nil) (fun _ _ _ _ _ => by exact (pe_and (pe_bmK0 (K := K) rfl PySem.F.plainAttrs_str PySem.F.slot_str_isidentifier PySem.F.type_str_isidentifier mt_isidentifier (pv 1)) (pe_one (pe_cmpR op_le (pe_callB call_len_str (by rfl) g_len PySem.boot_len (pa_cons (pv 1) pa_nil)) (pe_glob rfl g_LONGEST_NAME r_LONGEST_NAME) (nomark _)))))) pa_nil)))))), ?_⟩)
  · obtain ⟨z, rfl, _⟩ := h
    rfl
  · obtain ⟨z, rfl, hA, hl, q⟩ := h
    have hs : z.length ≤ sizeLine := by rw [sizeLine_eq, len_codes]; omega
    have e58 : (Str.ofString ":") = ⟨#[58]⟩ := by decide +kernel
    have eop : (Str.ofString "op") = kdS .op := by decide +kernel
    refine ⟨_, rfl, rfl, _, rfl, rfl, trivial, _, rfl, ?_⟩
    rw [ident_eq hA]
    refine ite2 (fun hx => ?_) (fun hx => ?_)
    · refine ⟨_, rfl, _, rfl, hs, _, _, rfl, rfl, ?_⟩
      exact q _ H (Same.refl H) fun y => .inl ⟨hx, by have := of_decide_eq_true y; rw [len_codes] at this; omega⟩
    refine ⟨_, rfl, rfl, _, _, rfl, rfl, _, rfl, ?_⟩
    rw [e58, ends_one]
    by_cases he : (codesOf z).getLast? = some 58
    · rw [decide_eq_true he]
      refine iteF ?_
      have hcl := cut_last z
      have hcz : (cutS z none (some (-1))).length ≤ 2000 := by rw [len_codes, hcl, List.length_dropLast]; omega
      have hAl : Asc (codesOf z).dropLast := fun c hc => hA c (List.dropLast_subset _ hc)
      refine ⟨_, rfl, 1, rfl, _, rfl, z, rfl, hs, rfl, _, _, rfl, rfl, (by decide), (by rw [sizeLine_eq]; omega), fun pl npl => ⟨pl, rfl, ⟨_, SqL.of upd_same⟩, fun Dn nD => ?_⟩⟩
      have hsp := split_parts (cutS z none (some (-1)))
      rw [hcl] at hsp
      have hpl : (Txt.split (cutS z none (some (-1))) ⟨#[58]⟩).length = (partsL (codesOf z).dropLast).length := by rw [← hsp, List.length_map]
      have hple : (partsL (codesOf z).dropLast).length ≤ 3000 := by
        have := spl_len (codesOf z).dropLast []
        have e : (codesOf z).dropLast.length = (codesOf z).length - 1 := List.length_dropLast
        unfold partsL
        omega
      generalize hys : Txt.split (cutS z none (some (-1))) ⟨#[58]⟩ = ys at hsp hpl nD ⊢
      have s1 : Same H (upd H pl (.lst (ys.map V.str))) := same_upd npl
      have s2 := same_upd (o := .lst []) nD
      refine lc_list (K := K) (a := pl) (xs := ys.map V.str) (fun i H' => Same (upd H pl (.lst (ys.map V.str))) H' ∧ H' Dn = some (.lst ((((partsL (codesOf z).dropLast).take i).map Tok.okPart).map V.bl))) ⟨s2, upd_same⟩ (fun i H' _ R => SqL.of (R.1 _ _ upd_same)) ?hs ?hd
      case hs =>
        intro i x H' hx R
        rw [List.getElem?_map] at hx
        obtain ⟨y, hy, rfl⟩ := Option.map_eq_some_iff.mp hx
        have hpi : (partsL (codesOf z).dropLast)[i]? = some (codesOf y) := by rw [← hsp, List.getElem?_map, hy]; rfl
        have hya : Asc (codesOf y) := parts_asc hAl (List.mem_of_getElem? hpi)
        have hyl : (codesOf y).length ≤ 2000 := by
          have : (codesOf y).length ≤ 0 + (codesOf z).dropLast.length := spl_each (codesOf z).dropLast [] _ (List.mem_of_getElem? hpi)
          have e : (codesOf z).dropLast.length = (codesOf z).length - 1 := List.length_dropLast
          omega
        have hysz : y.length ≤ sizeLine := by rw [sizeLine_eq, len_codes]; omega
        have fin : ∀ b : Bool, b = Tok.okPart (codesOf y) → ∃ acc, H' Dn = some (.lst acc) ∧ acc.length < sizeLine ∧ (Same (upd H pl (.lst (ys.map V.str))) (upd H' Dn (.lst (acc ++ [V.bl b]))) ∧ (upd H' Dn (.lst (acc ++ [V.bl b]))) Dn = some (.lst ((((partsL (codesOf z).dropLast).take (i + 1)).map Tok.okPart).map V.bl))) := fun b hb => by
          refine ⟨_, R.2, ?_, fun a o e => ?_, ?_⟩
          · rw [List.length_map, List.length_map, List.length_take, sizeLine_eq]
            omega
          · rw [upd_ne (ne_of_none e nD)]
            exact R.1 _ _ e
          · rw [upd_same, List.take_add_one, hpi, hb]
            simp
        refine ⟨rfl, tyesB ?_⟩
        refine ⟨_, rfl, rfl, _, rfl, rfl, trivial, _, rfl, ?_⟩
        rw [ident_eq hya]
        refine ite2 (fun hi => ?_) (fun hi => ?_)
        · refine ⟨_, rfl, _, rfl, hysz, _, _, rfl, rfl, ?_⟩
          refine fin _ ?_
          unfold Tok.okPart
          rw [hi, Bool.true_and, len_codes]
          exact decide_eq_decide.mpr (by omega)
        · refine fin false ?_
          unfold Tok.okPart
          rw [Bool.eq_false_iff.mpr hi, Bool.false_and]
      case hd =>
        intro H' R
        have R2 := R.2
        rw [List.length_map, hpl, List.take_length] at R2
        refine ⟨Dn, (partsL (codesOf z).dropLast).map Tok.okPart, rfl, SqL.of R2, q _ H' (s1.trans R.1) fun y => ?_⟩
        have y : (partsL (codesOf z).dropLast).all Tok.okPart = true := by
          rw [List.all_map] at y
          exact y
        obtain ⟨k1, k2⟩ := keys_of_chunk he y
        exact .inr (.inr ⟨_, k2, y, k1⟩)
    · rw [decide_eq_false he]
      refine iteT ?_
      obtain ⟨r, hr, hru⟩ := hD z
      refine ⟨rfl, _, rfl, z, r, rfl, hr, ?_⟩
      cases r with
      | none => exact ⟨rfl, q _ H (Same.refl H) fun y => by cases of_decide_eq_true y⟩
      | some u =>
        obtain ⟨k, tk, rfl, hk⟩ := hru u rfl
        refine ⟨.str (kdS k), ⟨tk, rfl⟩, rfl, q _ H (Same.refl H) fun y => ?_⟩
        rw [eop] at y
        have y : kdS k = kdS .op := V.str.inj (of_decide_eq_true y)
        rcases Tok.fixed_cases hk with ⟨rfl, _⟩ | ⟨_, h⟩
        · exact absurd y (by decide +kernel)
        · exact .inr (.inl h)
end

end My

end
section
set_option Elab.async false
set_option linter.all false
set_option maxRecDepth 100000
set_option maxHeartbeats 2000000
namespace My
open PySem PySem.Spec PyProof.Rows L2 TL

/-- the list of words and the list of texts, under way -/
structure Wt (K : PySem.W.Frag) (H0 H' : Hp) (aw ap : Addr) (ws : List Tok.W) (ts : List V) : Prop where
  old : Same H0 H'
  newW : H0 aw = none
  newP : H0 ap = none
  ne : aw ≠ ap
  at_ : ∃ xs D, H' aw = some (.lst xs) ∧ DpAll K D xs (ws.map dW) ∧ ∀ a o, D a = some o → H' a = some o ∧ a ≠ aw ∧ a ≠ ap ∧ H0 a = none
  txt : H' ap = some (.lst ts)
section
variable {K : PySem.W.Frag} {H0 H1 H2 : Hp} {aw ap : Addr} {ws : List Tok.W} {ts ts' : List V}
theorem Wt.later (w : Wt K H0 H1 aw ap ws ts) (e : Same H1 H2) : Wt K H0 H2 aw ap ws ts := by
  obtain ⟨xs, D, h1, h2, h3⟩ := w.at_
  exact ⟨w.old.trans e, w.newW, w.newP, w.ne, ⟨xs, D, e _ _ h1, h2, fun a o z => ⟨e _ _ (h3 a o z).1, (h3 a o z).2⟩⟩, e _ _ w.txt⟩
theorem Wt.note (w : Wt K H0 H1 aw ap ws ts) (h : H2 ap = some (.lst ts')) (e : ∀ b o, b ≠ ap → H1 b = some o → H2 b = some o) : Wt K H0 H2 aw ap ws ts' := by
  obtain ⟨xs, D, h1, h2, h3⟩ := w.at_
  refine ⟨fun a o z => e a o (fun y => by rw [y, w.newP] at z; cases z) (w.old a o z), w.newW, w.newP, w.ne, ⟨xs, D, e _ _ w.ne h1, h2, fun a o z => ?_⟩, h⟩
  obtain ⟨g1, g2, g3, g4⟩ := h3 a o z
  exact ⟨e _ _ g3 g1, g2, g3, g4⟩
/-- a word more: its tuple is new at q -/
theorem Wt.more {q : Addr} {w : Tok.W} {xs : List V} (W : Wt K H0 H1 aw ap ws ts) (hx : H1 aw = some (.lst xs)) (hq : H1 q = none) (o : HO) (ho : o = .tup [.str (kdS w.1), vVal w.2.1, .int (w.2.2 : Int)]) :
    Wt K H0 (upd (upd H1 q o) aw (.lst (xs ++ [.ref q]))) aw ap (ws ++ [w]) ts := by
  subst ho
  obtain ⟨xs', D, h1, h2, h3⟩ := W.at_
  rw [hx] at h1
  injection h1 with h1
  injection h1 with h1
  subst h1
  have qa : q ≠ aw := fun e => by rw [e, hx] at hq; cases hq
  have qp : q ≠ ap := fun e => by rw [e, W.txt] at hq; cases hq
  have q0 : H0 q = none := W.old.free hq
  have nD : D q = none := by
    cases z : D q with
    | none => rfl
    | some o => rw [(h3 q o z).1] at hq; cases hq
  have sD : Same D (upd D q (.tup [.str (kdS w.1), vVal w.2.1, .int (w.2.2 : Int)])) := fun b o z => by rw [upd_ne (ne_of_none z nD)]; exact z
  refine ⟨fun a o z => ?_, W.newW, W.newP, W.ne, ⟨xs ++ [.ref q], upd D q (.tup [.str (kdS w.1), vVal w.2.1, .int (w.2.2 : Int)]), upd_same, ?_, fun a o z => ?_⟩, ?_⟩
  · have n1 : a ≠ aw := fun e => by rw [e, W.newW] at z; cases z
    have n2 : a ≠ q := fun e => by rw [e, q0] at z; cases z
    rw [upd_ne n1, upd_ne n2]
    exact W.old a o z
  · rw [List.map_append]
    refine dpAll_append (dp_monoAll sD _ _ h2) (.cons ?_ .nil)
    unfold dW
    refine .tup (SqT.of upd_same) (.cons (.str _) (.cons ?_ (.cons (.int _) .nil)))
    cases w.2.1 with
    | s t => exact .str _
    | i n => exact .int _
  · by_cases c : a = q
    · subst c
      rw [upd_same] at z
      rw [upd_ne qa, upd_same]
      exact ⟨z, qa, qp, q0⟩
    · rw [upd_ne c] at z
      obtain ⟨g1, g2, g3, g4⟩ := h3 a o z
      rw [upd_ne g2, upd_ne c]
      exact ⟨g1, g2, g3, g4⟩
  · rw [upd_ne (Ne.symm W.ne), upd_ne (Ne.symm qp)]
    exact W.txt
/-- the words' list as it stands -/
theorem Wt.lst (W : Wt K H0 H1 aw ap ws ts) : ∃ xs, H1 aw = some (.lst xs) ∧ DpAll K H1 xs (ws.map dW) ∧ xs.length = ws.length := by
  obtain ⟨xs, D, h1, h2, h3⟩ := W.at_
  exact ⟨xs, h1, dp_monoAll (fun a o z => (h3 a o z).1) _ _ h2, by rw [dpAll_length h2, List.length_map]⟩
/-- words.append((k, v, p)) -/
theorem append_word {X : Cx} {σ : L2.St} {e : TE} {ta tb tc : TE} {Q : V → Hp → Prop} : True := trivial
end
section
variable {P : Program} {w : World} {K : PySem.W.Frag} {mg : Str → Option Value} {base : Heap}
def spSure (K : PySem.W.Frag) : Sp := fun vs H Q _ => ∃ (aw : Addr) (xs : List V) (ws : List Tok.W), vs = [.ref aw] ∧ H aw = some (.lst xs) ∧ DpAll K H xs (ws.map dW) ∧ xs.length ≤ 3000 ∧ ∀ b H', Same H H' → (b = true → ∀ par, Tok.binds par (Tok.lastK ws) = true) → Q (.bl b) H'
theorem sc_surely_binds : FnScope ["words"] ["words"] (defScope s_surely_binds) := ⟨rfl, rfl, rfl, by decide +kernel, rfl, by decide +kernel, by decide +kernel⟩
theorem ok_surely_binds {f : Addr} {fd : FuncData} (F : FnP K "surely_binds" s_surely_binds f fd) (g_VK : TupAt K mg "VALUE_KINDS" vkinds) : FnOk P w K mg base CX0 2 f fd ["words"] (spSure K) := by
  obtain ⟨aVK, g_VALUE_KINDS, hVK⟩ := g_VK
  have r_VALUE_KINDS : RelV (.ref aVK) (.ref aVK) := rfl
  refine F.ok sc_surely_binds (fun vs H Q E h => ?_) (fun cdv A outer s H vs Q E hr h => ⟨_, PSs.nox
    (pss_one (ps_ret (pe_or (pe_notT (pv 0)) (pe_one (pe_and (pe_cmpR op_notIn_seq (pe_ix ix_tup (pe_ix ix_list (pv 0) (pe_un un_neg pe_int) (fun _ _ => rfl)) pe_int (fun _ _ => rfl)) (pe_glob rfl g_VALUE_KINDS r_VALUE_KINDS) (by rfl)) (pe_one (pe_cmpR op_notIn_seq (pe_ix ix_tup (pe_ix ix_list (pv 0) (pe_un un_neg pe_int) (fun _ _ => rfl)) pe_int (fun _ _ => rfl)) (pe_tup (pa_cons pe_str (pa_cons pe_str pa_nil))) (by rfl)))))))), ?_⟩)
  · obtain ⟨aw, xs, ws, rfl, _⟩ := h
    rfl
  · obtain ⟨aw, xs, ws, rfl, hw, hD, hxl, q⟩ := h
    have hlen := dpAll_length hD
    rw [List.length_map] at hlen
    refine ⟨_, rfl, !xs.isEmpty, .inl ⟨xs, SqL.of hw, rfl⟩, _, rfl, ?_⟩
    rcases List.eq_nil_or_concat ws with e | ⟨ws', lw, e⟩
    · subst e
      have : xs = [] := List.eq_nil_of_length_eq_zero hlen
      subst this
      refine ite2 (fun _ => ?_) (fun y => absurd rfl y)
      exact q _ H (Same.refl H) fun _ par => by rw [binds_eq]; show (par.any id || true) = true; rw [Bool.or_true]
    · have e : ws = ws' ++ [lw] := by rw [e, List.concat_eq_append]
      subst e
      have hl2 : xs.length = ws'.length + 1 := by rw [hlen, List.length_append]; rfl
      have hne : xs ≠ [] := fun e => by rw [e] at hl2; cases hl2
      refine ite2 (fun y => ?_) (fun _ => ?_)
      · cases xs with
        | nil => exact absurd rfl hne
        | cons _ _ => cases y
      · have hv : xs[ws'.length]? = some (xs[ws'.length]'(by omega)) := List.getElem?_eq_getElem (by omega)
        generalize xs[ws'.length]'(by omega) = v at hv
        obtain ⟨d, hd, hdp⟩ := dpAll_get hD hv
        have ed : d = dW lw := by
          rw [List.map_append, List.getElem?_append_right (by rw [List.length_map]; exact Nat.le_refl _), List.length_map, Nat.sub_self] at hd
          injection hd with hd
          exact hd.symm
        subst ed
        obtain ⟨a, rfl, hT⟩ := dp_wordP hdp
        have hat : atI xs (-1) = some (V.ref a) := by
          unfold atI ixN
          rw [if_neg (by decide)]
          rw [if_pos (by omega)]
          show xs[((-1 : Int) + (xs.length : Int)).toNat]? = _
          rw [show ((-1 : Int) + (xs.length : Int)).toNat = ws'.length by omega]
          exact hv
        have bq : ∀ par, Tok.binds par (Tok.lastK (ws' ++ [lw])) = (par.any id || (!(decide (lw.1 = .name) || decide (lw.1 = .int) || decide (lw.1 = .str) || decide (lw.1 = .sym)) && !(decide (lw.2.1 = .s [41]) || decide (lw.2.1 = .s [93])))) := fun par => by
          rw [Tok.lastK_app, binds_eq]
        have flatK : (vkinds.map fun x => V.str (strOf x)).all flatV = true := by decide +kernel
        have flatv : flatV (vVal lw.2.1) = true := by cases lw.2.1 <;> rfl
        refine ⟨_, rfl, 1, rfl, _, _, _, _, rfl, rfl, SqL.of hw, hat, _, _, _, _, rfl, rfl, hT, atI_nat (j := 0) rfl, aVK, _, rfl, .inr (hVK H), rfl, flatK, _, rfl, ?_⟩
        have ik := in_kinds lw.1
        refine ite2 (fun y => ?_) (fun y => ?_)
        · have y : (!inV (V.str (kdS lw.1)) (vkinds.map fun x => V.str (strOf x))) = true := y
          rw [ik] at y
          refine ⟨_, rfl, 1, rfl, _, _, _, _, rfl, rfl, SqL.of hw, hat, _, _, _, _, rfl, rfl, hT, atI_nat (j := 1) rfl, (by show 2 ≤ sizeLine; decide), fun r nr => ?_⟩
          refine ⟨r, _, rfl, .inr (SqT.of upd_same), flatv, rfl, ?_⟩
          show Q (V.bl (!inV (vVal lw.2.1) [V.str (Str.ofString ")"), V.str (Str.ofString "]")])) _
          rw [in_ends]
          exact q _ _ (same_upd nr) fun z par => by rw [bq, y, z, Bool.true_and, Bool.or_true]
        · exact q false H (Same.refl H) fun z => by cases z
end

end My

end
section
set_option Elab.async false
set_option linter.all false
set_option maxRecDepth 100000
set_option maxHeartbeats 2000000
namespace My
open PySem PySem.Spec PyProof.Rows L2 TL

theorem keyWords_snoc : ∀ (ps : List (List Nat)) (a : List Nat) (q : Nat), Tok.keyWords (ps ++ [a]) q = Tok.keyWords ps q ++ [(.keyword, .s (a ++ [58]), q + (Tok.keys ps).length)]
  | [], a, q => rfl
  | b :: ps, a, q => by
    show (Tok.Kd.keyword, Tok.Val.s (b ++ [58]), q) :: Tok.keyWords (ps ++ [a]) (q + b.length + 1) = (Tok.Kd.keyword, Tok.Val.s (b ++ [58]), q) :: Tok.keyWords ps (q + b.length + 1) ++ _
    rw [keyWords_snoc ps a]
    have e : q + b.length + 1 + (Tok.keys ps).length = q + (Tok.keys (b :: ps)).length := by
      show _ = q + (b ++ 58 :: Tok.keys ps).length
      simp
      omega
    rw [e]
    rfl
theorem keys_snoc : ∀ (ps : List (List Nat)) (a : List Nat), Tok.keys (ps ++ [a]) = Tok.keys ps ++ (a ++ [58])
  | [], a => rfl
  | b :: ps, a => by
    show b ++ 58 :: Tok.keys (ps ++ [a]) = (b ++ 58 :: Tok.keys ps) ++ (a ++ [58])
    rw [keys_snoc ps a]
    simp
theorem keyWords_len : ∀ (ps : List (List Nat)) (q : Nat), (Tok.keyWords ps q).length = ps.length
  | [], _ => rfl
  | _ :: ps, q => by
    show (Tok.keyWords ps _).length + 1 = ps.length + 1
    rw [keyWords_len ps]
def spKeys (K : PySem.W.Frag) : Sp := fun vs H Q _ => ∃ (H0 : Hp) (aw ap : Addr) (ws : List Tok.W) (ts : List V) (z : Str) (q : Nat), vs = [.ref aw, .str z, .int (q : Int)] ∧ Wt K H0 H aw ap ws ts ∧ Asc (codesOf z) ∧ (codesOf z).length ≤ 2000 ∧ ws.length ≤ 5000 ∧ (codesOf z).getLast? = some 58 ∧
  (∀ H', Same H0 H' → Q (.int (-1)) H') ∧
  (∀ ps H', codesOf z = Tok.keys ps → ps ≠ [] → ps.all Tok.okPart = true → Wt K H0 H' aw ap (ws ++ Tok.keyWords ps q) ts → Q (.int ((q + (codesOf z).length : Nat) : Int)) H')
section
variable {P : Program} {w : World} {K : PySem.W.Frag} {mg : Str → Option Value} {base : Heap}
theorem sc_put_keywords : FnScope ["words", "chunk", "place", "part"] ["words", "chunk", "place"] (defScope s_put_keywords) := ⟨rfl, rfl, rfl, by decide +kernel, rfl, by decide +kernel, by decide +kernel⟩
theorem ok_put_keywords {f : Addr} {fd : FuncData} (F : FnP K "put_keywords" s_put_keywords f fd) (g_len : mg "len" = none) (g_LN : ∃ t, mg "LONGEST_NAME" = some (.int 40 t)) : FnOk P w K mg base CX0 2 f fd ["words", "chunk", "place"] (spKeys K) := by
  obtain ⟨t, g_LONGEST_NAME⟩ := g_LN
  have r_LONGEST_NAME : RelV (.int 40) (.int 40 t) := ⟨t, rfl⟩
  refine F.ok sc_put_keywords (fun vs H Q E h => ?_) (fun cdv A outer s H vs Q E hr h => ⟨_, PSs.nox
    (pss_cons (ps_for PassesOwn.never rfl (pi_list (pe_bm PySem.F.plainAttrs_str PySem.F.slot_str_split PySem.F.type_str_split mt_split (pe_slice sl_str (pv 1) po_none (po_some (pe_un un_neg pe_int))) (pa_cons pe_str pa_nil))) (pg_name (i := 3) sc_put_keywords.nd rfl (Or.inl rfl)) (pss_cons (ps_if (PW.pt (pw_or (pt_not (pt_val (pe_bm0 PySem.F.plainAttrs_str PySem.F.slot_str_isidentifier PySem.F.type_str_isidentifier mt_isidentifier (pv 3)))) (pw_or1 (pt_cmpR op_gt (pe_callB call_len_str (by rfl) g_len PySem.boot_len (pa_cons (pv 3) pa_nil)) (pe_glob rfl g_LONGEST_NAME r_LONGEST_NAME) (nomark _))))) (pss_one (ps_ret (pe_un un_neg pe_int))) pss_nil)
      (pss_cons (ps_expr (pe_bm PySem.F.plainAttrs_list PySem.F.slot_list_append PySem.F.type_list_append mt_append (pv 0) (pa_cons (pe_tup (pa_cons pe_str (pa_cons (pe_op op_add_str (pv 3) pe_str) (pa_cons (pv 2) pa_nil)))) pa_nil)))
      (pss_one (ps_aug (i := 2) sc_put_keywords.nd rfl (Or.inl rfl) (pe_op op_add (pe_callB call_len_str (by rfl) g_len PySem.boot_len (pa_cons (pv 3) pa_nil)) pe_int) ip_add)))))
      (pss_one (ps_ret (pv 2)))), ?_⟩)
  · obtain ⟨H0, aw, ap, ws, ts, z, q, rfl, _⟩ := h
    rfl
  · obtain ⟨H0, aw, ap, ws, ts, z, q, rfl, W, hA, hl, hwl, he, hbad, hok⟩ := h
    have hs : z.length ≤ sizeLine := by rw [sizeLine_eq, len_codes]; omega
    have e58 : (Str.ofString ":") = ⟨#[58]⟩ := by decide +kernel
    have hcl := cut_last z
    have hcz : (cutS z none (some (-1))).length ≤ 2000 := by rw [len_codes, hcl, List.length_dropLast]; omega
    have hAl : Asc (codesOf z).dropLast := fun c hc => hA c (List.dropLast_subset _ hc)
    have hdl : (codesOf z).dropLast.length = (codesOf z).length - 1 := List.length_dropLast
    refine ⟨_, rfl, 1, rfl, _, rfl, z, rfl, hs, rfl, _, _, rfl, rfl, (by decide), (by rw [sizeLine_eq]; omega), fun pl npl => ⟨pl, rfl, ⟨_, SqL.of upd_same⟩, ?_⟩⟩
    rw [e58]
    have hsp := split_parts (cutS z none (some (-1)))
    rw [hcl] at hsp
    have hpl : (Txt.split (cutS z none (some (-1))) ⟨#[58]⟩).length = (partsL (codesOf z).dropLast).length := by rw [← hsp, List.length_map]
    have hple : (partsL (codesOf z).dropLast).length ≤ 2001 := by
      have : (partsL (codesOf z).dropLast).length ≤ (codesOf z).dropLast.length + 1 := spl_len (codesOf z).dropLast []
      omega
    generalize hys : Txt.split (cutS z none (some (-1))) ⟨#[58]⟩ = ys at hsp hpl ⊢
    have W1 := W.later (same_upd (o := .lst (ys.map V.str)) npl)
    have hpl1 : (upd H pl (.lst (ys.map V.str))) pl = some (.lst (ys.map V.str)) := upd_same
    have npa : pl ≠ aw := fun e => by
      obtain ⟨xs, D, h1, _⟩ := W.at_
      rw [← e, npl] at h1
      cases h1
    generalize upd H pl (.lst (ys.map V.str)) = H1 at W1 hpl1 ⊢
    refine for_list (K := K) (a := pl) (xs := ys.map V.str) (fun i σ H' => ∃ x, σ = [some (.ref aw), some (.str z), some (.int ((q + (Tok.keys ((partsL (codesOf z).dropLast).take i)).length : Nat) : Int)), x] ∧ ((partsL (codesOf z).dropLast).take i).all Tok.okPart = true ∧ Wt K H0 H' aw ap (ws ++ Tok.keyWords ((partsL (codesOf z).dropLast).take i) q) ts ∧ H' pl = some (.lst (ys.map V.str)))
      ⟨_, rfl, rfl, by show Wt K H0 H1 aw ap (ws ++ []) ts; rw [List.append_nil]; exact W1, hpl1⟩ (fun i σ H' _ R => by obtain ⟨_, _, _, _, h⟩ := R; exact SqL.of h) ?turn ?last
    case turn =>
      rintro i x σ H2 hx ⟨x0, rfl, hall, W2, hp2⟩
      rw [List.getElem?_map] at hx
      obtain ⟨y, hy, rfl⟩ := Option.map_eq_some_iff.mp hx
      have hpi : (partsL (codesOf z).dropLast)[i]? = some (codesOf y) := by rw [← hsp, List.getElem?_map, hy]; rfl
      have hil : i < (partsL (codesOf z).dropLast).length := by
        rcases Nat.lt_or_ge i (partsL (codesOf z).dropLast).length with h | h
        · exact h
        · rw [List.getElem?_eq_none h] at hpi; cases hpi
      have hya : Asc (codesOf y) := parts_asc hAl (List.mem_of_getElem? hpi)
      have hyl : (codesOf y).length ≤ 2000 := by
        have : (codesOf y).length ≤ 0 + (codesOf z).dropLast.length := spl_each (codesOf z).dropLast [] _ (List.mem_of_getElem? hpi)
        omega
      have hysz : y.length ≤ sizeLine := by rw [sizeLine_eq, len_codes]; omega
      have out : ∃ i, V.int 1 = V.int i ∧ Q (.int (-i)) H2 := ⟨1, rfl, hbad _ W2.old⟩
      refine ⟨_, rfl, rfl, _, rfl, rfl, trivial, _, rfl, ?_⟩
      rw [ident_eq hya]
      cases hi : Tok.isId (codesOf y) with
      | false => exact iteT (iteT out)
      | true =>
        refine iteF ?_
        refine ⟨_, rfl, _, rfl, hysz, _, _, rfl, rfl, _, rfl, ?_⟩
        refine ite2 (fun _ => out) (fun hg => ?_)
        have h40 : (codesOf y).length ≤ 40 := by
          rcases Nat.lt_or_ge 40 (codesOf y).length with h | h
          · exact absurd (decide_eq_true (by rw [len_codes]; omega)) hg
          · exact h
        obtain ⟨xs, hxw, hxD, hxl⟩ := W2.lst
        have hpart : Tok.okPart (codesOf y) = true := by
          unfold Tok.okPart
          rw [hi, decide_eq_true h40]
          rfl
        have etake : (partsL (codesOf z).dropLast).take (i + 1) = (partsL (codesOf z).dropLast).take i ++ [codesOf y] := by rw [List.take_add_one, hpi]; rfl
        have ev : y ++ (⟨#[58]⟩ : Str) = strOf (codesOf y ++ [58]) := by
          apply ext_tl
          rw [tl_append]
          rfl
        refine ⟨_, rfl, .inl ⟨rfl, _, SqL.of hxw⟩, _, rfl, _, _, rfl, rfl, (by rw [sizeLine_eq, len_codes]; show _ + 1 ≤ _; omega), _, rfl, (by show 3 ≤ sizeLine; decide), fun r nr => ?_⟩
        have W3 := W2.more (w := (.keyword, .s (codesOf y ++ [58]), q + (Tok.keys ((partsL (codesOf z).dropLast).take i)).length)) hxw nr _ rfl
        have ra : aw ≠ r := fun e => by rw [← e, hxw] at nr; cases nr
        have rp : pl ≠ r := fun e => by rw [← e, hp2] at nr; cases nr
        have hxl2 : xs.length ≤ 8000 := by
          rw [hxl, List.length_append, keyWords_len, List.length_take]
          omega
        refine ⟨aw, xs, .ref r, rfl, rfl, by rw [upd_ne ra]; exact hxw, by rw [sizeLine_eq]; omega, ?_⟩
        show (_ : Prop)
        rw [ev]
        refine ⟨_, rfl, _, rfl, _, rfl, hysz, _, _, rfl, rfl, _, _, rfl, rfl, ?_⟩
        refine ⟨some (.str y), ?_, ?_, ?_, ?_⟩
        · rw [etake, keys_snoc]
          show [_, _, some (V.int (((q + (Tok.keys ((partsL (codesOf z).dropLast).take i)).length : Nat) : Int) + ((y.length : Int) + 1))), _] = _
          rw [len_codes]
          congr 4
          simp
          omega
        · rw [etake, List.all_append, hall]
          show (true && (Tok.okPart (codesOf y) && true)) = true
          rw [hpart]
          rfl
        · rw [etake, keyWords_snoc, ← List.append_assoc]
          exact W3
        · rw [upd_ne npa, upd_ne rp]
          exact hp2
    case last =>
      rintro σ H2 ⟨x0, rfl, hall, W2, hp2⟩
      rw [List.length_map, hpl, List.take_length] at hall W2 ⊢
      obtain ⟨k1, k2⟩ := keys_of_chunk he hall
      refine ⟨_, rfl, ?_⟩
      have := hok _ H2 k1 k2 hall W2
      rw [k1] at this
      exact this
end

end My

end
section
set_option Elab.async false
set_option linter.all false
set_option maxRecDepth 100000
set_option maxHeartbeats 2000000
namespace My
open PySem PySem.Spec PyProof.Rows L2 TL

theorem find_c (z : Str) (c p q : Nat) {l' : List Nat} (hpq : p ≤ q) (hq : (codesOf z).drop q = c :: l') (hg : ∀ j, p ≤ j → j < q → ∃ b, (codesOf z)[j]? = some b ∧ b ≠ c) : Txt.find3 z ⟨#[c]⟩ (p : Int) = (q : Int) := by
  have hy : tl (⟨#[c]⟩ : Str) ≠ [] := by
    show [c] ≠ []
    simp
  have hlen := len_codes z
  have hlt : q + 1 ≤ (codesOf z).length := by
    have e := congrArg List.length hq
    rw [List.length_drop, List.length_cons] at e
    omega
  have hf : fromIndex z.length (p : Int) = p := by
    unfold fromIndex
    rw [if_neg (by omega)]
    omega
  have atq : PySem.StrLaws.At z ⟨#[c]⟩ z.length q := (at_iff hy q).mpr (by
    unfold pre
    show ((codesOf z).drop q).take 1 == [c]
    rw [hq]
    show [c] == [c]
    simp)
  have nat : ∀ v, p ≤ v → v < q → ¬ PySem.StrLaws.At z ⟨#[c]⟩ z.length v := fun v h1 h2 hA => by
    have hp := (at_iff hy v).mp hA
    obtain ⟨b, hb, hB⟩ := hg v h1 h2
    unfold pre at hp
    have hp : ((codesOf z).drop v).take 1 = [c] := eq_of_beq hp
    have hv : v < (codesOf z).length := by omega
    rw [List.drop_eq_getElem_cons hv] at hp
    rw [List.getElem?_eq_getElem hv] at hb
    have hb : (codesOf z)[v] = b := Option.some.inj hb
    rw [hb] at hp
    have hp : [b] = [c] := hp
    injection hp with hp _
    exact hB hp
  unfold Txt.find3
  rcases PySem.StrLaws.occ_head_from z ⟨#[c]⟩ (fromIndex z.length (p : Int)) 1 (Nat.le_refl 1) with ⟨h0, hn⟩ | ⟨k, rr, h0, hlo, hk, hn⟩
  · exact absurd atq (hn q (by rw [hf]; exact hpq))
  · rw [h0]
    rw [hf] at hlo hn
    show (k : Int) = (q : Int)
    rcases Nat.lt_trichotomy k q with x | x | x
    · exact absurd hk (nat k hlo x)
    · rw [x]
    · exact absurd atq (hn q hpq x)
theorem body_cnt : ∀ {f : Nat} {l t : List Nat} {n : Nat}, Tok.strBody f l = some (t, n) → ∃ k : Nat, cnt 39 t = (k : Int) ∧ n = t.length + k + 1
  | 0, _, _, _, h => by cases h
  | _ + 1, [], _, _, h => by cases h
  | f + 1, c :: l, t, n, h => by
    rw [Tok.strBody.eq_def] at h
    simp only [] at h
    split at h
    · split at h
      · rename_i r
        split at h
        · rename_i t' n' e
          cases h
          obtain ⟨k, h1, h2⟩ := body_cnt e
          refine ⟨k + 1, ?_, ?_⟩
          · rw [cnt_cons, h1, if_pos rfl]
            omega
          · rw [h2, List.length_cons]
            omega
        · cases h
      · cases h
        exact ⟨0, rfl, rfl⟩
    · rename_i hc
      split at h
      · rename_i t' n' e
        cases h
        obtain ⟨k, h1, h2⟩ := body_cnt e
        refine ⟨k, ?_, ?_⟩
        · rw [cnt_cons, h1, if_neg hc]
          omega
        · rw [h2, List.length_cons]
          omega
      · cases h
/-- the texts to come, as the program's list holds them: the next one last -/
def tsV (ts : List (List Nat)) : List V := ts.reverse.map fun t => V.str (strOf t)
theorem tsV_cons (x : List Nat) (ts : List (List Nat)) : tsV (x :: ts) = tsV ts ++ [V.str (strOf x)] := by
  unfold tsV
  rw [List.reverse_cons, List.map_append]
  rfl
theorem tsV_empty (ts : List (List Nat)) : (tsV ts).isEmpty = ts.isEmpty := by
  cases ts with
  | nil => rfl
  | cons x ts => rw [tsV_cons]; cases tsV ts <;> rfl
/-- what is left of the signs in the place of strings -/
def Left (L : List Nat) (ts : List (List Nat)) : Prop := ts = [] ∨ (123 ∉ L ∧ 125 ∉ L)
/-- what a chunk's words do to the standing -/
def PutOk (K : PySem.W.Frag) (H0 : Hp) (aw ap : Addr) (L : List Nat) (rest : List (List Nat)) (Q : VK) : Prop :=
  (∀ H', Same H0 H' → Q (.int (-1)) H') ∧
  ∀ (ws : List Tok.W) (q : Nat) (ts : List (List Nat)) (H' : Hp), Wt K H0 H' aw ap ws (tsV ts) → Tok.At L ws q ts rest → ws.length ≤ q → Left L ts → Q (.int (q : Int)) H'
def spPutStr (K : PySem.W.Frag) : Sp := fun vs H Q _ => ∃ (H0 : Hp) (aw ap : Addr) (ws : List Tok.W) (ch src : Str) (p q : Nat) (x t l' : List Nat) (ts0 ts' rest : List (List Nat)),
  vs = [.ref aw, .str ch, .str src, .int (p : Int), .ref ap] ∧ (ch = ⟨#[123]⟩ ∨ ch = ⟨#[125]⟩) ∧ Wt K H0 H aw ap ws (tsV (x :: ts0)) ∧
  Tok.Next (codesOf src) ws p q (codesOf ch) t l' (x :: ts0) ts' rest ∧ 123 ∉ codesOf src ∧ 125 ∉ codesOf src ∧ (codesOf src).length ≤ 2000 ∧ ws.length ≤ p ∧ PutOk K H0 aw ap (codesOf src) rest Q
section
variable {P : Program} {w : World} {K : PySem.W.Frag} {mg : Str → Option Value} {base : Heap}
theorem sc_put_string : FnScope ["words", "chunk", "source", "place", "texts", "text", "end"] ["words", "chunk", "source", "place", "texts"] (defScope s_put_string) := ⟨rfl, rfl, rfl, by decide +kernel, rfl, by decide +kernel, by decide +kernel⟩
theorem ok_put_string {f : Addr} {fd : FuncData} (F : FnP K "put_string" s_put_string f fd) (g_len : mg "len" = none) (g_ST : ∃ t, mg "STRING" = some (.str ⟨#[123]⟩ t)) : FnOk P w K mg base CX0 2 f fd ["words", "chunk", "source", "place", "texts"] (spPutStr K) := by
  obtain ⟨t0, g_STRING⟩ := g_ST
  have r_STRING : RelV (.str ⟨#[123]⟩) (.str ⟨#[123]⟩ t0) := ⟨t0, rfl⟩
  refine F.ok sc_put_string (fun vs H Q E h => ?_) (fun cdv A outer s H vs Q E hr h => ⟨_, PSs.nox
    (pss_cons (ps_set (i := 5) sc_put_string.nd rfl (Or.inl rfl) (pe_bm0 PySem.F.plainAttrs_list PySem.F.slot_list_pop PySem.F.type_list_pop mt_pop (pv 4)))
      (pss_cons (ps_set (i := 3) sc_put_string.nd rfl (Or.inl rfl) (pe_bm PySem.F.plainAttrs_str PySem.F.slot_str_find PySem.F.type_str_find mt_find3 (pv 2) (pa_cons pe_str (pa_cons (pv 3) pa_nil))))
      (pss_cons (ps_set (i := 6) sc_put_string.nd rfl (Or.inl rfl) (pe_op op_add (pe_op op_add (pe_op op_add (pv 3) (pe_callB call_len_str (by rfl) g_len PySem.boot_len (pa_cons (pv 5) pa_nil))) (pe_bm PySem.F.plainAttrs_str PySem.F.slot_str_count PySem.F.type_str_count mt_count (pv 5) (pa_cons pe_str pa_nil))) pe_int))
      (pss_cons (ps_expr (pe_bm PySem.F.plainAttrs_list PySem.F.slot_list_append PySem.F.type_list_append mt_append (pv 0) (pa_cons (pe_ifExp (pt_cmpR op_eq (pv 1) (pe_glob rfl g_STRING r_STRING) (nomark _)) (pe_tup (pa_cons pe_str (pa_cons (pv 5) (pa_cons (pv 3) pa_nil)))) (pe_tup (pa_cons pe_str (pa_cons (pv 5) (pa_cons (pe_op op_sub (pv 3) pe_int) pa_nil))))) pa_nil)))
      (pss_one (ps_ret (pv 6))))))), ?_⟩)
  · obtain ⟨H0, aw, ap, ws, ch, src, p, q, x, t, l', ts0, ts', rest, rfl, _⟩ := h
    rfl
  · obtain ⟨H0, aw, ap, ws, ch, src, p, q, x, t, l', ts0, ts', rest, rfl, hch, W, N, n123, n125, hL, hwl, hbad, hok⟩ := h
    have e39 : (Str.ofString "'") = ⟨#[39]⟩ := by decide +kernel
    have hg0 : (tsV (x :: ts0))[(tsV (x :: ts0)).length - 1]? = some (V.str (strOf x)) := by
      rw [tsV_cons, List.length_append]
      show (tsV ts0 ++ [V.str (strOf x)])[(tsV ts0).length + 1 - 1]? = _
      rw [Nat.add_sub_cancel, List.getElem?_append_right (Nat.le_refl _), Nat.sub_self]
      rfl
    have hdr : (tsV (x :: ts0)).dropLast = tsV ts0 := by rw [tsV_cons, List.dropLast_concat]
    have W1 : Wt K H0 (upd H ap (.lst (tsV (x :: ts0)).dropLast)) aw ap ws (tsV ts0) := by
      rw [hdr]
      exact W.note upd_same fun b o hb hh => by rw [upd_ne hb]; exact hh
    refine ⟨_, rfl, .inl ⟨rfl, _, SqL.of W.txt⟩, ap, _, _, rfl, rfl, W.txt, hg0, ?_⟩
    refine ⟨_, rfl, rfl, _, rfl, _, _, _, rfl, rfl, ?_⟩
    rw [e39]
    rcases hch with rfl | rfl
    · obtain ⟨r, m, et, hb, hm, hat⟩ := Tok.step_str N n123
      have hf : Txt.find3 src ⟨#[39]⟩ (p : Int) = (q : Int) := find_c src 39 p q N.ge (by rw [N.drop, et]; rfl) fun j h1 h2 => by
        obtain ⟨c, hc, hB⟩ := N.gap j h1 h2
        exact ⟨c, hc, fun e => by subst e; cases hB⟩
      rw [hf]
      obtain ⟨k, hk, hmk⟩ := body_cnt hb
      have hlen := Tok.next_len N (by rw [et]; simp)
      have hxl : x.length ≤ 2000 := by omega
      have hxs : (strOf x).length ≤ sizeLine := by
        rw [sizeLine_eq]
        show x.length ≤ _
        omega
      obtain ⟨xs, hxw, hxD, hxl2⟩ := W1.lst
      refine ⟨_, rfl, _, rfl, _, rfl, hxs, _, _, rfl, rfl, _, rfl, rfl, _, _, rfl, rfl, _, _, rfl, rfl, _, _, rfl, rfl, ?_⟩
      refine ⟨_, rfl, .inl ⟨rfl, _, SqL.of hxw⟩, _, rfl, rfl, _, rfl, ?_⟩
      refine ite2 (fun _ => ?_) (fun y => absurd (decide_eq_true rfl) y)
      refine ⟨_, rfl, _, rfl, (by show 3 ≤ sizeLine; decide), fun r nr => ?_⟩
      have W3 := W1.more (w := (.str, .s x, q)) hxw nr _ rfl
      have ra : aw ≠ r := fun e => by rw [← e, hxw] at nr; cases nr
      refine ⟨aw, xs, .ref r, rfl, rfl, by rw [upd_ne ra]; exact hxw, by rw [sizeLine_eq, hxl2]; have := N.ge; omega, ?_⟩
      refine ⟨_, rfl, ?_⟩
      have e := hok _ (q + (m + 1)) ts0 _ W3 hat (by rw [List.length_append]; show ws.length + 1 ≤ _; have := N.ge; omega) (.inr ⟨n123, n125⟩)
      have ee : ((q + (m + 1) : Nat) : Int) = (q : Int) + ((strOf x).length : Int) + Txt.count (strOf x) ⟨#[39]⟩ + 2 := by
        rw [count_cnt]
        show _ = (q : Int) + (x.length : Int) + cnt 39 x + 2
        rw [hk]
        omega
      rw [ee] at e
      exact e
    · obtain ⟨r, m, et, hb, hm, hat⟩ := Tok.step_symstr N n125
      have hq1 : (codesOf src)[q]? = some 35 := by
        have := congrArg List.head? N.drop
        rw [et, List.head?_drop] at this
        exact this
      have hf : Txt.find3 src ⟨#[39]⟩ (p : Int) = ((q + 1 : Nat) : Int) := find_c src 39 p (q + 1) (by have := N.ge; omega) (by rw [← List.drop_drop, N.drop, et]; rfl) fun j h1 h2 => by
        by_cases hj : j = q
        · subst hj
          exact ⟨35, hq1, by decide⟩
        · obtain ⟨c, hc, hB⟩ := N.gap j h1 (by omega)
          exact ⟨c, hc, fun e => by subst e; cases hB⟩
      rw [hf]
      obtain ⟨k, hk, hmk⟩ := body_cnt hb
      have hlen := Tok.next_len N (by rw [et]; simp)
      have hxl : x.length ≤ 2000 := by omega
      have hxs : (strOf x).length ≤ sizeLine := by
        rw [sizeLine_eq]
        show x.length ≤ _
        omega
      obtain ⟨xs, hxw, hxD, hxl2⟩ := W1.lst
      refine ⟨_, rfl, _, rfl, _, rfl, hxs, _, _, rfl, rfl, _, rfl, rfl, _, _, rfl, rfl, _, _, rfl, rfl, _, _, rfl, rfl, ?_⟩
      refine ⟨_, rfl, .inl ⟨rfl, _, SqL.of hxw⟩, _, rfl, rfl, _, rfl, ?_⟩
      refine ite2 (fun y => absurd (of_decide_eq_true y) (by decide)) (fun _ => ?_)
      refine ⟨_, rfl, _, rfl, _, _, rfl, rfl, (by show 3 ≤ sizeLine; decide), fun r nr => ?_⟩
      have W3 := W1.more (w := (.sym, .s x, q)) hxw nr _ rfl
      have ra : aw ≠ r := fun e => by rw [← e, hxw] at nr; cases nr
      have eq1 : ((q + 1 : Nat) : Int) - 1 = (q : Int) := by omega
      refine ⟨aw, xs, .ref r, rfl, rfl, by rw [upd_ne ra]; exact hxw, by rw [sizeLine_eq, hxl2]; have := N.ge; omega, ?_⟩
      refine ⟨_, rfl, ?_⟩
      have e := hok _ (q + (m + 2)) ts0 _ W3 hat (by rw [List.length_append]; show ws.length + 1 ≤ _; have := N.ge; omega) (.inr ⟨n123, n125⟩)
      have ee : ((q + (m + 2) : Nat) : Int) = ((q + 1 : Nat) : Int) + ((strOf x).length : Int) + Txt.count (strOf x) ⟨#[39]⟩ + 2 := by
        rw [count_cnt]
        show _ = ((q + 1 : Nat) : Int) + (x.length : Int) + cnt 39 x + 2
        rw [hk]
        omega
      rw [ee] at e
      have e0 : (V.int (((q + 1 : Nat) : Int) - 1)) = V.int (q : Int) := by rw [eq1]
      show Q _ (upd (upd _ r (.tup [_, _, V.int (((q + 1 : Nat) : Int) - 1)])) aw _)
      rw [e0]
      exact e
end

end My

end
section
set_option Elab.async false
set_option linter.all false
set_option maxRecDepth 100000
set_option maxHeartbeats 2000000
namespace My
open PySem PySem.Spec PyProof.Rows L2 TL

theorem ck_facts {ch t l' : List Nat} {ts ts' : List (List Nat)} (k : Tok.Ck ch t l' ts ts') : t ≠ [] ∧ ch.length ≤ t.length ∧ (∃ c r, ch = c :: r ∧ Tok.isB c = false) ∧ (ch ≠ [64] → ch ≠ [123] → ch ≠ [125] → t = ch) := by
  cases k with
  | sp h =>
    refine ⟨by simp, Nat.le_refl _, ⟨_, [], rfl, ?_⟩, fun _ _ _ => rfl⟩
    cases e : Tok.isB _ with
    | false => rfl
    | true =>
      rename_i c
      unfold Tok.isB at e
      rw [Bool.or_eq_true] at e
      rcases e with e | e
      · rw [eq_of_beq e] at h; cases h
      · rw [eq_of_beq e] at h; cases h
  | arr => exact ⟨by simp, by decide, ⟨_, _, rfl, rfl⟩, fun h => absurd rfl h⟩
  | asg => exact ⟨by simp, Nat.le_refl _, ⟨_, _, rfl, rfl⟩, fun _ _ _ => rfl⟩
  | str h hn => exact ⟨by simp, by simp, ⟨_, _, rfl, rfl⟩, fun _ h => absurd rfl h⟩
  | sym h hn => exact ⟨by simp, by simp, ⟨_, _, rfl, rfl⟩, fun _ _ h => absurd rfl h⟩
  | word h hp hl =>
    obtain ⟨c, r, e, h1, _⟩ := Tok.plain_first h hp
    exact ⟨h, Nat.le_refl _, ⟨c, r, e, h1⟩, fun _ _ _ => rfl⟩
theorem keyWords_le : ∀ (ps : List (List Nat)), ps.length ≤ (Tok.keys ps).length
  | [] => Nat.le_refl 0
  | a :: ps => by
    have := keyWords_le ps
    show ps.length + 1 ≤ (a ++ 58 :: Tok.keys ps).length
    rw [List.length_append, List.length_cons]
    omega
theorem isId_dg {l : List Nat} (h : l.all Tok.isDg = true) (h2 : l ≠ []) : ∀ c ∈ l, 48 ≤ c ∧ c ≤ 57 := fun c hc => by
  have := List.all_eq_true.mp h c hc
  unfold Tok.isDg at this
  simpa using this
theorem asc_ck {L ch t l' : List Nat} {ws : List Tok.W} {p q : Nat} {ts ts' rest : List (List Nat)} (hL : Asc L) (n : Tok.Next L ws p q ch t l' ts ts' rest) : Asc ch := by
  intro c hc
  obtain ⟨_, _, _, h⟩ := ck_facts n.ck
  by_cases h1 : ch = [64]
  · rw [h1] at hc; rw [List.mem_singleton.mp hc]; decide
  by_cases h2 : ch = [123]
  · rw [h2] at hc; rw [List.mem_singleton.mp hc]; decide
  by_cases h3 : ch = [125]
  · rw [h3] at hc; rw [List.mem_singleton.mp hc]; decide
  rw [← h h1 h2 h3] at hc
  exact hL c (List.mem_of_mem_drop (i := q) (by rw [n.drop]; exact List.mem_append_left _ hc))
theorem if_and {cA cB : TT} {t u : TS} {D : Ends} {σ : L2.St} {H : Hp} {bA bB : Bool} (hA : ∀ Q : Bool → Hp → Prop, Q bA H → cA σ H Q) (hB : bA = true → ∀ Q : Bool → Hp → Prop, Q bB H → cB σ H Q) (ht : bA = true → bB = true → t D σ H) (hu : (bA = true → bB = false) → u D σ H) : tIfS (tAnd cA cB) t u D σ H := by
  refine hA _ ?_
  cases bA with
  | false => exact iteF (hu fun z => by cases z)
  | true =>
    refine iteT (hB rfl _ ?_)
    cases bB with
    | false => exact iteF (hu fun _ => rfl)
    | true => exact iteT (ht rfl rfl)
theorem if_one {cA : TT} {t u : TS} {D : Ends} {σ : L2.St} {H : Hp} {bA : Bool} (hA : ∀ Q : Bool → Hp → Prop, Q bA H → cA σ H Q) (ht : bA = true → t D σ H) (hu : bA = false → u D σ H) : tIfS cA t u D σ H := by
  refine hA _ ?_
  cases bA with
  | false => exact iteF (hu rfl)
  | true => exact iteT (ht rfl)
theorem if_or {cA cB : TT} {t u : TS} {D : Ends} {σ : L2.St} {H : Hp} {bA bB : Bool} (hA : ∀ Q : Bool → Hp → Prop, Q bA H → cA σ H Q) (hB : ∀ Q : Bool → Hp → Prop, Q bB H → cB σ H Q) (ht : bA = true ∨ bB = true → t D σ H) (hu : bA = false → bB = false → u D σ H) : tIfS (tOr cA cB) t u D σ H := by
  refine hA _ ?_
  cases bA with
  | true => exact iteT (iteT (ht (.inl rfl)))
  | false =>
    refine iteF (hB _ ?_)
    cases bB with
    | false => exact iteF (hu rfl rfl)
    | true => exact iteT (ht (.inr rfl))
theorem dec_one (l : List Nat) (c : Nat) : decide (V.str (strOf l) = V.str ⟨#[c]⟩) = decide (l = [c]) := decide_eq_decide.mpr ⟨fun e => by
  injection e with e
  exact congrArg codesOf e, fun e => by rw [e]; rfl⟩
theorem if_call {cA cB : TT} {t u : TS} {D : Ends} {σ : L2.St} {H : Hp} {bA : Bool} {I : Hp → Prop} {G : Prop} (hI : I H) (hA : ∀ Q : Bool → Hp → Prop, Q bA H → cA σ H Q) (hB : bA = true → ∀ Q : Bool → Hp → Prop, (∀ b H', I H' → (b = true → G) → Q b H') → cB σ H Q) (ht : bA = true → G → ∀ H', I H' → t D σ H') (hu : ∀ H', I H' → u D σ H') : tIfS (tAnd cA cB) t u D σ H := by
  refine hA _ ?_
  cases bA with
  | false => exact iteF (hu _ hI)
  | true =>
    refine iteT (hB rfl _ fun b H' i g => ?_)
    cases b with
    | false => exact iteF (hu _ i)
    | true => exact iteT (ht rfl (g rfl) _ i)
def spPutOther (K : PySem.W.Frag) : Sp := fun vs H Q _ => ∃ (H0 : Hp) (aw ap : Addr) (ws : List Tok.W) (ch src : Str) (p : Nat) (ts rest : List (List Nat)),
  vs = [.ref aw, .str ch, .str src, .int (p : Int), .ref ap] ∧ Wt K H0 H aw ap ws (tsV ts) ∧ Tok.At (codesOf src) ws p ts (codesOf ch :: rest) ∧ Asc (codesOf src) ∧ 64 ∉ codesOf src ∧ Nd (codesOf src) ∧ Left (codesOf src) ts ∧
  (codesOf src).length ≤ 2000 ∧ ws.length ≤ p ∧ PutOk K H0 aw ap (codesOf src) rest Q
abbrev s_put_other : Stmt := top 18
section
variable {P : Program} {w : World} {K : PySem.W.Frag} {mg : Str → Option Value} {base : Heap}
variable {f_put_string f_is_symbol f_put_keywords f_surely_binds : Addr} {fd_put_string fd_is_symbol fd_put_keywords fd_surely_binds : FuncData}
theorem sc_put_other : FnScope ["words", "chunk", "source", "place", "texts", "rest", "end"] ["words", "chunk", "source", "place", "texts"] (defScope s_put_other) := ⟨rfl, rfl, rfl, by decide +kernel, rfl, by decide +kernel, by decide +kernel⟩
theorem ok_put_other {f d : Addr} {fd : FuncData} (F : FnP K "put_other" s_put_other f fd)
    (F_put_string : FnP K "put_string" s_put_string f_put_string fd_put_string) (F_is_symbol : FnP K "is_symbol" s_is_symbol f_is_symbol fd_is_symbol) (F_put_keywords : FnP K "put_keywords" s_put_keywords f_put_keywords fd_put_keywords) (F_surely_binds : FnP K "surely_binds" s_surely_binds f_surely_binds fd_surely_binds)
    (g_put_string : mg "put_string" = some (.ref f_put_string)) (g_is_symbol : mg "is_symbol" = some (.ref f_is_symbol)) (g_put_keywords : mg "put_keywords" = some (.ref f_put_keywords)) (g_surely_binds : mg "surely_binds" = some (.ref f_surely_binds))
    (g_len : mg "len" = none) (g_all : mg "all" = none) (g_int : mg "int" = none) (g_FX : mg "FIXED" = some (.ref d)) (hF : FixAt K w d) (g_VK : TupAt K mg "VALUE_KINDS" vkinds)
    (g_LN : ∃ t, mg "LONGEST_NAME" = some (.int 40 t)) (g_MD : ∃ t, mg "MOST_DIGITS" = some (.int 60 t)) (g_AR : ∃ t, mg "ARRAY" = some (.str ⟨#[64]⟩ t)) (g_ST : ∃ t, mg "STRING" = some (.str ⟨#[123]⟩ t)) (g_SY : ∃ t, mg "SYMBOL" = some (.str ⟨#[125]⟩ t)) :
    FnOk P w K mg base CX0 3 f fd ["words", "chunk", "source", "place", "texts"] (spPutOther K) := by
  have G_put_string : FnOk P w K mg base CX0 2 f_put_string fd_put_string _ (spPutStr K) := ok_put_string F_put_string g_len g_ST
  have G_is_symbol : FnOk P w K mg base CX0 2 f_is_symbol fd_is_symbol _ spIsSymbol := ok_is_symbol F_is_symbol g_len g_all g_FX hF g_LN
  have G_put_keywords : FnOk P w K mg base CX0 2 f_put_keywords fd_put_keywords _ (spKeys K) := ok_put_keywords F_put_keywords g_len g_LN
  have G_surely_binds : FnOk P w K mg base CX0 2 f_surely_binds fd_surely_binds _ (spSure K) := ok_surely_binds F_surely_binds g_VK
  have b_put_string : Binds K fd_put_string ["words", "chunk", "source", "place", "texts"] [] := F_put_string.bindsN fun _ _ _ _ _ _ us hl => match us, hl with | [_, _, _, _, _], _ => rfl
  have k_put_string := F_put_string.kp
  have b_is_symbol : Binds K fd_is_symbol ["text"] [] := F_is_symbol.bindsN fun _ _ _ _ _ _ us hl => match us, hl with | [_], _ => rfl
  have k_is_symbol := F_is_symbol.kp
  have b_put_keywords : Binds K fd_put_keywords ["words", "chunk", "place"] [] := F_put_keywords.bindsN fun _ _ _ _ _ _ us hl => match us, hl with | [_, _, _], _ => rfl
  have k_put_keywords := F_put_keywords.kp
  have b_surely_binds : Binds K fd_surely_binds ["words"] [] := F_surely_binds.bindsN fun _ _ _ _ _ _ us hl => match us, hl with | [_], _ => rfl
  have k_surely_binds := F_surely_binds.kp

  obtain ⟨t1, g_LONGEST_NAME⟩ := g_LN
  obtain ⟨t2, g_MOST_DIGITS⟩ := g_MD
  obtain ⟨t3, g_ARRAY⟩ := g_AR
  obtain ⟨t4, g_STRING⟩ := g_ST
  obtain ⟨t5, g_SYMBOL⟩ := g_SY
  have r_LONGEST_NAME : RelV (.int 40) (.int 40 t1) := ⟨t1, rfl⟩
  have r_MOST_DIGITS : RelV (.int 60) (.int 60 t2) := ⟨t2, rfl⟩
  have r_ARRAY : RelV (.str ⟨#[64]⟩) (.str ⟨#[64]⟩ t3) := ⟨t3, rfl⟩
  have r_STRING : RelV (.str ⟨#[123]⟩) (.str ⟨#[123]⟩ t4) := ⟨t4, rfl⟩
  have r_SYMBOL : RelV (.str ⟨#[125]⟩) (.str ⟨#[125]⟩ t5) := ⟨t5, rfl⟩
  refine F.ok sc_put_other (fun vs H Q E h => ?_) (fun cdv A outer s H vs Q E hr h => ⟨_, PSs.nox
    (pss_cons (ps_set (i := 5) sc_put_other.nd rfl (Or.inl rfl) (pe_slice sl_str (pv 1) (po_some pe_int) po_none))
      (pss_cons (ps_if (PW.pt (pw_and (pt_val (pe_bm PySem.F.plainAttrs_str PySem.F.slot_str_startswith PySem.F.type_str_startswith mt_startswith (pv 1) (pa_cons pe_str pa_nil))) (pw_and1 (pt_val (pe_bm0 PySem.F.plainAttrs_str PySem.F.slot_str_isidentifier PySem.F.type_str_isidentifier mt_isidentifier (pv 5)))))) (pss_cons (ps_set (i := 3) sc_put_other.nd rfl (Or.inl rfl) (pe_bm PySem.F.plainAttrs_str PySem.F.slot_str_find PySem.F.type_str_find mt_find3 (pv 2) (pa_cons (pv 1) (pa_cons (pv 3) pa_nil))))
      (pss_cons (ps_expr (pe_bm PySem.F.plainAttrs_list PySem.F.slot_list_append PySem.F.type_list_append mt_append (pv 0) (pa_cons (pe_tup (pa_cons pe_str (pa_cons pe_str (pa_cons (pv 3) pa_nil)))) pa_nil)))
      (pss_cons (ps_expr (pe_bm PySem.F.plainAttrs_list PySem.F.slot_list_append PySem.F.type_list_append mt_append (pv 0) (pa_cons (pe_tup (pa_cons pe_str (pa_cons (pv 5) (pa_cons (pe_op op_add (pv 3) pe_int) pa_nil)))) pa_nil)))
      (pss_one (ps_ret (pe_ifExp (pt_cmpR op_le (pe_callB call_len_str (by rfl) g_len PySem.boot_len (pa_cons (pv 5) pa_nil)) (pe_glob rfl g_LONGEST_NAME r_LONGEST_NAME) (nomark _)) (pe_op op_add (pv 3) (pe_callB call_len_str (by rfl) g_len PySem.boot_len (pa_cons (pv 1) pa_nil))) (pe_un un_neg pe_int))))))) pss_nil)
      (pss_cons (ps_if (pt_cmpR op_eq (pv 1) (pe_glob rfl g_ARRAY r_ARRAY) (nomark _)) (pss_cons (ps_set (i := 3) sc_put_other.nd rfl (Or.inl rfl) (pe_bm PySem.F.plainAttrs_str PySem.F.slot_str_find PySem.F.type_str_find mt_find3 (pv 2) (pa_cons pe_str (pa_cons (pv 3) pa_nil))))
      (pss_cons (ps_expr (pe_bm PySem.F.plainAttrs_list PySem.F.slot_list_append PySem.F.type_list_append mt_append (pv 0) (pa_cons (pe_tup (pa_cons pe_str (pa_cons pe_str (pa_cons (pv 3) pa_nil)))) pa_nil)))
      (pss_one (ps_ret (pe_op op_add (pv 3) pe_int))))) pss_nil)
      (pss_cons (ps_if (PW.pt (pw_or (pt_cmpR op_eq (pv 1) (pe_glob rfl g_STRING r_STRING) (nomark _)) (pw_or1 (pt_cmpR op_eq (pv 1) (pe_glob rfl g_SYMBOL r_SYMBOL) (nomark _))))) (pss_one (ps_ret (pe_ifExp (pt_truth (pv 4) (by intro _; rfl)) (pe_call G_put_string (hr.mono (by decide)) rfl g_put_string k_put_string b_put_string .nil pass0 (pa_cons (pv 0) (pa_cons (pv 1) (pa_cons (pv 2) (pa_cons (pv 3) (pa_cons (pv 4) pa_nil)))))) (pe_un un_neg pe_int)))) pss_nil)
      (pss_cons (ps_set (i := 3) sc_put_other.nd rfl (Or.inl rfl) (pe_bm PySem.F.plainAttrs_str PySem.F.slot_str_find PySem.F.type_str_find mt_find3 (pv 2) (pa_cons (pv 1) (pa_cons (pv 3) pa_nil))))
      (pss_cons (ps_set (i := 6) sc_put_other.nd rfl (Or.inl rfl) (pe_op op_add (pv 3) (pe_callB call_len_str (by rfl) g_len PySem.boot_len (pa_cons (pv 1) pa_nil))))
      (pss_cons (ps_if (pt_val (pe_bm0 PySem.F.plainAttrs_str PySem.F.slot_str_isdigit PySem.F.type_str_isdigit mt_isdigit (pv 1))) (pss_cons (ps_expr (pe_bm PySem.F.plainAttrs_list PySem.F.slot_list_append PySem.F.type_list_append mt_append (pv 0) (pa_cons (pe_tup (pa_cons pe_str (pa_cons (pe_callTy call_int_str (by rfl) g_int (by decide +kernel) (pa_cons (pv 1) pa_nil)) (pa_cons (pv 3) pa_nil)))) pa_nil)))
      (pss_one (ps_ret (pe_ifExp (pt_cmpR op_le (pe_callB call_len_str (by rfl) g_len PySem.boot_len (pa_cons (pv 1) pa_nil)) (pe_glob rfl g_MOST_DIGITS r_MOST_DIGITS) (nomark _)) (pv 6) (pe_un un_neg pe_int))))) pss_nil)
      (pss_cons (ps_if (PW.pt (pw_and (pt_val (pe_bm PySem.F.plainAttrs_str PySem.F.slot_str_startswith PySem.F.type_str_startswith mt_startswith (pv 1) (pa_cons pe_str pa_nil))) (pw_and1 (pt_val (pe_call G_is_symbol (hr.mono (by decide)) rfl g_is_symbol k_is_symbol b_is_symbol .nil pass0 (pa_cons (pv 5) pa_nil)))))) (pss_cons (ps_expr (pe_bm PySem.F.plainAttrs_list PySem.F.slot_list_append PySem.F.type_list_append mt_append (pv 0) (pa_cons (pe_tup (pa_cons pe_str (pa_cons (pv 5) (pa_cons (pv 3) pa_nil)))) pa_nil)))
      (pss_one (ps_ret (pv 6)))) pss_nil)
      (pss_cons (ps_if (pt_val (pe_bm PySem.F.plainAttrs_str PySem.F.slot_str_endswith PySem.F.type_str_endswith mt_endswith (pv 1) (pa_cons pe_str pa_nil))) (pss_one (ps_ret (pe_call G_put_keywords (hr.mono (by decide)) rfl g_put_keywords k_put_keywords b_put_keywords .nil pass0 (pa_cons (pv 0) (pa_cons (pv 1) (pa_cons (pv 3) pa_nil)))))) pss_nil)
      (pss_cons (ps_if (PW.pt (pw_and (pt_val (pe_bm PySem.F.plainAttrs_str PySem.F.slot_str_startswith PySem.F.type_str_startswith mt_startswith (pv 1) (pa_cons pe_str pa_nil))) (pw_and (pt_val (pe_bm0 PySem.F.plainAttrs_str PySem.F.slot_str_isdigit PySem.F.type_str_isdigit mt_isdigit (pv 5))) (pw_and (pt_cmpR op_le (pe_callB call_len_str (by rfl) g_len PySem.boot_len (pa_cons (pv 5) pa_nil)) (pe_glob rfl g_MOST_DIGITS r_MOST_DIGITS) (nomark _)) (pw_and1 (pt_val (pe_call G_surely_binds (hr.mono (by decide)) rfl g_surely_binds k_surely_binds b_surely_binds .nil pass0 (pa_cons (pv 0) pa_nil)))))))) (pss_cons (ps_expr (pe_bm PySem.F.plainAttrs_list PySem.F.slot_list_append PySem.F.type_list_append mt_append (pv 0) (pa_cons (pe_tup (pa_cons pe_str (pa_cons (pe_callTy call_int_str (by rfl) g_int (by decide +kernel) (pa_cons (pv 1) pa_nil)) (pa_cons (pv 3) pa_nil)))) pa_nil)))
      (pss_one (ps_ret (pv 6)))) pss_nil)
      (pss_one (ps_ret (pe_un un_neg pe_int))))))))))))), ?_⟩)
  · obtain ⟨H0, aw, ap, ws, ch, src, p, ts, rest, rfl, _⟩ := h
    rfl
  · obtain ⟨H0, aw, ap, ws, ch, src, p, ts, rest, rfl, W, hat, hA, h64, hnd, hleft, hL, hwl, hbad, hok⟩ := h
    have e58 : (Str.ofString ":") = ⟨#[58]⟩ := by decide +kernel
    have e35 : (Str.ofString "#") = ⟨#[35]⟩ := by decide +kernel
    have e45 : (Str.ofString "-") = ⟨#[45]⟩ := by decide +kernel
    have earr : (Str.ofString "#(") = strOf [35, 40] := by decide +kernel
    obtain ⟨l, rfl⟩ : ∃ l, ch = strOf l := ⟨codesOf ch, (strOf_codes ch).symm⟩
    have hat : Tok.At (codesOf src) ws p ts (l :: rest) := hat
    obtain ⟨q, t, l', ts', N⟩ := Tok.at_next hat
    obtain ⟨ht, hct, ⟨c0, r0, ech, hcb⟩, hsame⟩ := ck_facts N.ck
    have hge := N.ge
    have hlen := Tok.next_len N ht
    have hAc : Asc l := asc_ck hA N
    have hcl : l.length ≤ 2000 := by omega
    have hcs : (strOf l).length ≤ sizeLine := by rw [sizeLine_eq]; show l.length ≤ _; omega
    have hr0 : cutS (strOf l) (some 1) none = strOf r0 := by
      rw [← strOf_codes (cutS (strOf l) (some 1) none), cut_from1]
      show strOf (l.drop 1) = _
      rw [ech]
      rfl
    have hAr : Asc r0 := fun c hc => hAc c (by rw [ech]; exact List.mem_cons_of_mem _ hc)
    have hrl : r0.length ≤ 2000 := by rw [ech, List.length_cons] at hcl; omega
    have hrs : (strOf r0).length ≤ sizeLine := by rw [sizeLine_eq]; show r0.length ≤ _; omega
    obtain ⟨xs, hxw, hxD, hxl⟩ := W.lst
    have hx8 : xs.length + 2 ≤ sizeLine := by rw [sizeLine_eq, hxl]; omega
    have fin : ∀ (ws2 : List Tok.W) (n : Nat) (H' : Hp), Wt K H0 H' aw ap ws2 (tsV ts) → Tok.At (codesOf src) ws2 (q + n) ts rest → ws2.length ≤ q + n → Q (.int ((q : Int) + (n : Int))) H' := fun ws2 n H' h1 h2 h3 => by
      have := hok ws2 (q + n) ts H' h1 h2 h3 hleft
      rw [Int.natCast_add] at this
      exact this
    refine ⟨_, rfl, 1, rfl, _, rfl, hcs, ?_⟩
    rw [hr0]
    dsimp only [gName, tSeq]
    refine if_and (bA := decide (l.head? = some 58)) (bB := Tok.isId r0) (fun Q q => ⟨_, rfl, rfl, _, _, rfl, rfl, _, rfl, by rw [e58, starts_one]; exact q⟩) (fun _ Q q => ⟨_, rfl, rfl, _, rfl, rfl, trivial, _, rfl, by rw [ident_eq hAr]; exact q⟩) (fun y1 y2 => ?_) (fun no1 => ?_)
    · have y1 := of_decide_eq_true y1
      rw [ech] at y1
      injection y1 with y1
      subst y1
      have hne : l ≠ [58, 61] := fun z => by
        rw [ech] at z
        injection z with _ z
        rw [z] at y2
        cases y2
      obtain ⟨et, ets, _, _⟩ := Tok.ck_first N.ck ech (by rfl) (by decide) (by decide) (by decide) hne
      have hf : Txt.find3 src (strOf l) (p : Int) = (q : Int) := find_at src l p q ech hcb hge (by rw [N.drop, et]) N.gap
      refine ⟨_, rfl, rfl, _, rfl, _, rfl, _, _, _, rfl, rfl, ?_⟩
      rw [hf, e58]
      refine ⟨_, rfl, .inl ⟨rfl, _, SqL.of hxw⟩, _, rfl, (by show 3 ≤ sizeLine; decide), fun r nr => ?_⟩
      have W3 := W.more (w := (.sign, .s [58], q)) hxw nr _ rfl
      have ra : aw ≠ r := fun e => by rw [← e, hxw] at nr; cases nr
      refine ⟨aw, xs, .ref r, rfl, rfl, by rw [upd_ne ra]; exact hxw, by omega, ?_⟩
      have hx3 : (upd (upd H r (.tup [.str (kdS .sign), vVal (.s [58]), .int (q : Int)])) aw (.lst (xs ++ [.ref r]))) aw = some (.lst (xs ++ [.ref r])) := upd_same
      refine ⟨_, rfl, .inl ⟨rfl, _, SqL.of hx3⟩, _, rfl, _, rfl, _, _, rfl, rfl, (by show 3 ≤ sizeLine; decide), fun r2 nr2 => ?_⟩
      have W4 := W3.more (w := (.name, .s r0, q + 1)) hx3 nr2 _ rfl
      have ra2 : aw ≠ r2 := fun e => by rw [← e] at nr2; cases nr2.symm.trans hx3
      refine ⟨aw, _, .ref r2, rfl, rfl, (by rw [upd_ne ra2]; exact hx3), (by rw [List.length_append]; show xs.length + 1 < _; omega), ?_⟩
      refine ⟨_, rfl, _, rfl, hrs, _, _, rfl, rfl, _, rfl, ?_⟩
      refine ite2 (fun z => ?_) (fun z => ⟨1, rfl, hbad _ W4.old⟩)
      have z : r0.length ≤ 40 := by have := of_decide_eq_true z; exact Int.ofNat_le.mp this
      obtain ⟨_, hat2⟩ := Tok.step_colon N ech y2 z
      refine ⟨_, rfl, _, rfl, _, rfl, hcs, _, _, rfl, rfl, ?_⟩
      refine fin _ l.length _ W4 (by rw [List.append_assoc]; exact hat2) ?_
      rw [List.length_append, List.length_append, ech]
      show ws.length + 1 + 1 ≤ q + (r0.length + 1)
      have : 0 < r0.length := by
        cases r0 with
        | nil => cases y2
        | cons _ _ => simp
      omega
    dsimp only [tNext, tSeq]
    refine if_one (bA := decide (l = [64])) (fun Q q => ⟨_, rfl, rfl, _, rfl, by rw [dec_one]; exact q⟩) (fun y => ?_) (fun no2 => ?_)
    · have y := of_decide_eq_true y
      subst y
      obtain ⟨et, hat2⟩ := Tok.step_arr N h64
      have hf : Txt.find3 src (strOf [35, 40]) (p : Int) = (q : Int) := find_at src [35, 40] p q rfl (by rfl) hge (by rw [N.drop, et]) N.gap
      refine ⟨_, rfl, rfl, _, rfl, _, _, _, rfl, rfl, ?_⟩
      rw [earr, hf]
      refine ⟨_, rfl, .inl ⟨rfl, _, SqL.of hxw⟩, _, rfl, (by show 3 ≤ sizeLine; decide), fun r nr => ?_⟩
      have W3 := W.more (w := (.sign, .s [35, 40], q)) hxw nr _ rfl
      have ra : aw ≠ r := fun e => by rw [← e, hxw] at nr; cases nr
      refine ⟨aw, xs, .ref r, rfl, rfl, by rw [upd_ne ra]; exact hxw, by omega, ?_⟩
      exact ⟨_, rfl, _, _, rfl, rfl, fin _ 2 _ W3 hat2 (by rw [List.length_append]; show ws.length + 1 ≤ _; omega)⟩
    dsimp only [tNext, tSeq]
    refine if_or (bA := decide (l = [123])) (bB := decide (l = [125])) (fun Q q => ⟨_, rfl, rfl, _, rfl, by rw [dec_one]; exact q⟩) (fun Q q => ⟨_, rfl, rfl, _, rfl, by rw [dec_one]; exact q⟩) (fun y => ?_) (fun no3 no4 => ?_)
    · have hl : strOf l = ⟨#[123]⟩ ∨ strOf l = ⟨#[125]⟩ := by
        rcases y with y | y
        · exact .inl (by rw [of_decide_eq_true y]; rfl)
        · exact .inr (by rw [of_decide_eq_true y]; rfl)
      refine ⟨_, rfl, !(tsV ts).isEmpty, .inl ⟨_, SqL.of W.txt, rfl⟩, ?_⟩
      cases ts with
      | nil => exact iteF ⟨1, rfl, hbad _ W.old⟩
      | cons x ts0 =>
        rw [tsV_empty]
        refine iteT ⟨_, rfl, _, rfl, _, rfl, _, rfl, _, rfl, ?_⟩
        obtain ⟨m123, m125⟩ := hleft.resolve_left (by simp)
        exact ⟨H0, aw, ap, ws, strOf l, src, p, q, x, t, l', ts0, ts', rest, rfl, hl, W, N, m123, m125, hL, hwl, hbad, hok⟩
    have n64 : l ≠ [64] := of_decide_eq_false no2
    have n123 : l ≠ [123] := of_decide_eq_false no3
    have n125 : l ≠ [125] := of_decide_eq_false no4
    have et := hsame n64 n123 n125
    have hf : Txt.find3 src (strOf l) (p : Int) = (q : Int) := find_at src l p q ech hcb hge (by rw [N.drop, et]) N.gap
    dsimp only [tNext, tSeq]
    refine ⟨_, rfl, rfl, _, rfl, _, rfl, _, _, _, rfl, rfl, ?_⟩
    rw [hf]
    refine ⟨_, rfl, _, rfl, _, rfl, hcs, _, _, rfl, rfl, ?_⟩
    dsimp only [gName, tSeq]
    refine if_one (bA := decide (0 < l.length) && l.all Tok.isDg) (fun Q q => ⟨_, rfl, rfl, _, rfl, rfl, trivial, _, rfl, by rw [digit_eq hAc]; exact q⟩) (fun y => ?_) (fun no5 => ?_)
    · rw [Bool.and_eq_true] at y
      have hl0 : l ≠ [] := fun z => by rw [et, z] at ht; exact ht rfl
      have h640 : l.length ≤ 640 := by
        have e : ((codesOf src).drop q).take l.length = l := by rw [N.drop, et, List.take_left]
        have := hnd q l.length (by rw [e]; exact y.2)
        rw [e] at this
        exact this
      have hint : PySem.intText? (strOf l) = some ((Tok.num l : Nat) : Int) := by
        rw [num_eq]
        exact PySem.intText_digits (x := strOf l) (isId_dg y.2 hl0) hl0 (by show l.length ≤ _; omega)
      refine ⟨_, rfl, .inl ⟨rfl, _, SqL.of hxw⟩, _, rfl, _, _, rfl, hint, (by show l.length ≤ 640; exact h640), _, rfl, (by show 3 ≤ sizeLine; decide), fun r nr => ?_⟩
      have W3 := W.more (w := (.int, .i (Tok.num l), q)) hxw nr _ rfl
      have ra : aw ≠ r := fun e => by rw [← e, hxw] at nr; cases nr
      refine ⟨aw, xs, .ref r, rfl, rfl, by rw [upd_ne ra]; exact hxw, by omega, ?_⟩
      refine ⟨_, rfl, _, rfl, hcs, _, _, rfl, rfl, _, rfl, ?_⟩
      refine ite2 (fun z => ?_) (fun z => ⟨1, rfl, hbad _ W3.old⟩)
      have z : l.length ≤ 60 := by have := of_decide_eq_true z; exact Int.ofNat_le.mp this
      obtain ⟨_, hat2⟩ := Tok.step_int N hl0 y.2 z
      exact ⟨_, rfl, fin _ l.length _ W3 hat2 (by rw [List.length_append, ech]; show ws.length + 1 ≤ q + (r0.length + 1); omega)⟩
    dsimp only [tNext, tSeq]
    refine if_call (bA := decide (l.head? = some 35)) (I := fun H2 => Same H H2) (G := Good r0) (Same.refl H) (fun Q q => ⟨_, rfl, rfl, _, _, rfl, rfl, _, rfl, by rw [e35, starts_one]; exact q⟩) (fun _ Q q => ⟨_, rfl, strOf r0, rfl, hAr, hrl, fun b H' e g => ⟨b, rfl, q b H' e g⟩⟩) (fun y g H2 e2 => ?_) (fun H2 e2 => ?_)
    · have y := of_decide_eq_true y
      rw [ech] at y
      injection y with y
      subst y
      have W2 := W.later e2
      obtain ⟨xs, hxw, hxD, hxl⟩ := W2.lst
      have hx8 : xs.length + 2 ≤ sizeLine := by rw [sizeLine_eq, hxl]; omega
      refine ⟨_, rfl, .inl ⟨rfl, _, SqL.of hxw⟩, _, rfl, _, rfl, (by show 3 ≤ sizeLine; decide), fun r nr => ?_⟩
      have W3 := W2.more (w := (.sym, .s r0, q)) hxw nr _ rfl
      have ra : aw ≠ r := fun e => by rw [← e, hxw] at nr; cases nr
      refine ⟨aw, xs, .ref r, rfl, rfl, by rw [upd_ne ra]; exact hxw, by omega, ?_⟩
      obtain ⟨_, hat2⟩ := Tok.step_sym N ech g
      exact ⟨_, rfl, fin _ l.length _ W3 hat2 (by rw [List.length_append, ech]; show ws.length + 1 ≤ q + (r0.length + 1); omega)⟩
    have W2 := W.later e2
    obtain ⟨xs, hxw, hxD, hxl⟩ := W2.lst
    have hx8 : xs.length + 2 ≤ sizeLine := by rw [sizeLine_eq, hxl]; omega
    dsimp only [tNext, tSeq]
    refine if_one (bA := decide (l.getLast? = some 58)) (fun Q q => ⟨_, rfl, rfl, _, _, rfl, rfl, _, rfl, by rw [e58, ends_one]; exact q⟩) (fun y => ?_) (fun no7 => ?_)
    · refine ⟨_, rfl, _, rfl, _, rfl, ?_⟩
      refine ⟨H0, aw, ap, ws, _, strOf l, q, rfl, W2, hAc, hcl, by omega, of_decide_eq_true y, hbad, fun ps H' h1 h2 h3 h4 => ?_⟩
      obtain ⟨_, hat2⟩ := Tok.step_keys N h1 h2 h3
      refine hok _ (q + l.length) ts H' h4 hat2 ?_ hleft
      rw [List.length_append, keyWords_len]
      have h1 : l = Tok.keys ps := h1
      rw [h1]
      have := keyWords_le ps
      omega
    dsimp only [tNext, tSeq]
    refine if_call (bA := decide (l.head? = some 45)) (I := fun H3 => Same H2 H3) (G := (r0 ≠ [] ∧ r0.all Tok.isDg = true) ∧ r0.length ≤ 60 ∧ ∀ par, Tok.binds par (Tok.lastK ws) = true) (Same.refl H2) (fun Q q => ⟨_, rfl, rfl, _, _, rfl, rfl, _, rfl, by rw [e45, starts_one]; exact q⟩) (fun _ Q q => ?_) (fun y g H3 e3 => ?_) (fun H3 e3 => ?_)
    · refine ⟨_, rfl, rfl, _, rfl, rfl, trivial, _, rfl, ?_⟩
      rw [digit_eq hAr]
      refine ite2 (fun z1 => ?_) (fun _ => q false H2 (Same.refl H2) fun z => by cases z)
      refine ⟨_, rfl, _, rfl, hrs, _, _, rfl, rfl, _, rfl, ?_⟩
      refine ite2 (fun z2 => ?_) (fun _ => q false H2 (Same.refl H2) fun z => by cases z)
      refine ⟨_, rfl, aw, xs, ws, rfl, hxw, hxD, by omega, fun b H' e g => ⟨b, rfl, q b H' e fun z => ⟨?_, ?_, g z⟩⟩⟩
      · rw [Bool.and_eq_true] at z1
        exact ⟨fun z => by (subst z; exact absurd z1.1 (by decide)), z1.2⟩
      · have := of_decide_eq_true z2
        exact Int.ofNat_le.mp this
    · have y := of_decide_eq_true y
      rw [ech] at y
      injection y with y
      subst y
      obtain ⟨⟨g1, g2⟩, g3, g4⟩ := g
      have W3 := W2.later e3
      obtain ⟨xs, hxw, hxD, hxl⟩ := W3.lst
      have hx8 : xs.length + 2 ≤ sizeLine := by rw [sizeLine_eq, hxl]; omega
      have hint : PySem.intText? (strOf l) = some (-((Tok.num r0 : Nat) : Int)) := by
        rw [num_eq]
        exact PySem.intText_neg (x := strOf l) (cs := r0) (by show l = _; exact ech) (isId_dg g2 g1) g1 (by show l.length ≤ _; omega)
      refine ⟨_, rfl, .inl ⟨rfl, _, SqL.of hxw⟩, _, rfl, _, _, rfl, hint, (by show l.length ≤ 640; rw [ech, List.length_cons]; omega), _, rfl, (by show 3 ≤ sizeLine; decide), fun r nr => ?_⟩
      have W4 := W3.more (w := (.int, .i (-((Tok.num r0 : Nat) : Int)), q)) hxw nr _ rfl
      have ra : aw ≠ r := fun e => by rw [← e, hxw] at nr; cases nr
      refine ⟨aw, xs, .ref r, rfl, rfl, by rw [upd_ne ra]; exact hxw, by omega, ?_⟩
      obtain ⟨_, hat2⟩ := Tok.step_minus N ech g1 g2 g3 g4
      exact ⟨_, rfl, fin _ l.length _ W4 hat2 (by rw [List.length_append, ech]; show ws.length + 1 ≤ q + (r0.length + 1); omega)⟩
    · exact ⟨1, rfl, hbad _ (W2.later e3).old⟩
end

end My

end
section
set_option Elab.async false
set_option linter.all false
set_option maxRecDepth 100000
set_option maxHeartbeats 2000000
namespace My
open PySem PySem.Spec PyProof.Rows L2 TL

open StrLaws
/-! ### the chain of replace, and split -/
def padOn (S : List Nat) : List Nat → List Nat
  | [] => []
  | c :: l => if c ∈ S then 32 :: c :: 32 :: padOn S l else c :: padOn S l
theorem rl_hit1 {d : Nat} {z r : List Nat} : replL [d] z (d :: r) = z ++ replL [d] z r := by
  rw [replL_hit (by simp) (by rfl)]
  rfl
theorem rl_miss1 {d c : Nat} {z r : List Nat} (h : c ≠ d) : replL [d] z (c :: r) = c :: replL [d] z r := by
  rw [replL_miss (by intro y; injection y with y _; exact h y)]
theorem padOn_add {S : List Nat} {d : Nat} (hd : d ∉ S) (h32 : d ≠ 32) : ∀ l, replL [d] [32, d, 32] (padOn S l) = padOn (d :: S) l
  | [] => replL_nil
  | c :: l => by
    have ih := padOn_add hd h32 l
    by_cases h : c ∈ S
    · have hcd : c ≠ d := fun e => hd (e ▸ h)
      rw [padOn, if_pos h, padOn, if_pos (List.mem_cons_of_mem _ h), rl_miss1 (Ne.symm h32), rl_miss1 hcd, rl_miss1 (Ne.symm h32), ih]
    · rw [padOn, if_neg h]
      by_cases hcd : c = d
      · subst hcd
        rw [padOn, if_pos List.mem_cons_self, rl_hit1, ih]
        rfl
      · rw [padOn, if_neg (fun z => by rcases List.mem_cons.mp z with z | z; exact hcd z; exact h z), rl_miss1 hcd, ih]
theorem padOn_nil : ∀ l, padOn [] l = l
  | [] => rfl
  | c :: l => by rw [padOn, if_neg (by simp), padOn_nil l]
theorem padOn_S : ∀ l, padOn [124, 94, 59, 46, 93, 91, 41, 40] l = Tok.padS l
  | [] => rfl
  | c :: l => by
    have ih := padOn_S l
    by_cases h : c ∈ ([124, 94, 59, 46, 93, 91, 41, 40] : List Nat)
    · have h2 : Tok.isSp c = true := by
        simp only [List.mem_cons, List.not_mem_nil, or_false] at h
        rcases h with rfl | rfl | rfl | rfl | rfl | rfl | rfl | rfl <;> rfl
      rw [padOn, if_pos h, Tok.padS, if_pos h2, ih]
    · have h2 : ¬ Tok.isSp c = true := fun z => h (by
        unfold Tok.isSp at z
        simp only [Bool.or_eq_true, beq_iff_eq] at z
        simp only [List.mem_cons, List.not_mem_nil, or_false]
        omega)
      rw [padOn, if_neg h, Tok.padS, if_neg h2, ih]
theorem arr_repl : ∀ (n : Nat) (l : List Nat), l.length ≤ n → replL [35, 40] [32, 64, 32] l = Tok.arrP l
  | _, [], _ => replL_nil
  | 0, _ :: _, h => by cases h
  | n + 1, c :: l, h => by
    by_cases hc : c = 35 ∧ l.head? = some 40
    · obtain ⟨rfl, hh⟩ := hc
      cases l with
      | nil => cases hh
      | cons d r =>
        injection hh with hh
        subst hh
        rw [replL_hit (by simp) (by rfl), Tok.arr_hit]
        have := arr_repl n r (by simp only [List.length_cons] at h; omega)
        show [32, 64, 32] ++ replL [35, 40] [32, 64, 32] r = _
        rw [this]
        rfl
    · rw [replL_miss, Tok.arr_miss hc, arr_repl n l (by simp only [List.length_cons] at h; omega)]
      intro z
      apply hc
      cases l with
      | nil => cases z
      | cons d r =>
        have z : [c, d] = [35, 40] := z
        injection z with z1 z
        injection z with z2 _
        exact ⟨z1, by rw [z2]; rfl⟩
theorem asg_repl : ∀ (n : Nat) (l : List Nat), l.length ≤ n → replL [58, 61] [32, 58, 61, 32] l = Tok.asgP l
  | _, [], _ => replL_nil
  | 0, _ :: _, h => by cases h
  | n + 1, c :: l, h => by
    by_cases hc : c = 58 ∧ l.head? = some 61
    · obtain ⟨rfl, hh⟩ := hc
      cases l with
      | nil => cases hh
      | cons d r =>
        injection hh with hh
        subst hh
        rw [replL_hit (by simp) (by rfl), Tok.asg_hit]
        have := asg_repl n r (by simp only [List.length_cons] at h; omega)
        show [32, 58, 61, 32] ++ replL [58, 61] [32, 58, 61, 32] r = _
        rw [this]
        rfl
    · rw [replL_miss, Tok.asg_miss hc, asg_repl n l (by simp only [List.length_cons] at h; omega)]
      intro z
      apply hc
      cases l with
      | nil => cases z
      | cons d r =>
        have z : [c, d] = [58, 61] := z
        injection z with z1 z
        injection z with z2 _
        exact ⟨z1, by rw [z2]; rfl⟩
theorem rep_codes {x : Str} {y z : List Nat} (hy : 1 ≤ y.length) : codesOf (Txt.replace x (strOf y) (strOf z)) = replL y z (codesOf x) := replace_list (x := x) (y := strOf y) (z := strOf z) hy
/-- no #( in the code -/
theorem arr_none {x : Str} (h : (Builtin.Str.occurrences x (strOf [35, 40]) 0 x.length 1).isEmpty = true) : Tok.arrP (codesOf x) = codesOf x := by
  rcases PySem.StrLaws.occ_head_from x (strOf [35, 40]) 0 1 (Nat.le_refl 1) with ⟨h0, hn⟩ | ⟨k, rr, h0, _⟩
  · rw [← arr_repl (codesOf x).length (codesOf x) (Nat.le_refl _)]
    refine repl_none (y := [35, 40]) (z := [32, 64, 32]) (L := codesOf x) (a := 0) fun k _ hk => ?_
    refine hn k (Nat.zero_le _) ((at_iff (x := x) (y := strOf [35, 40]) (by show [35, 40] ≠ []; simp) k).mpr ?_)
    unfold pre
    show ((codesOf x).drop k).take 2 == [35, 40]
    have hk : ((codesOf x).drop k).take 2 = [35, 40] := hk
    rw [hk]
    rfl
  · rw [h0] at h
    cases h
theorem chain_codes (x : Str) (h : codesOf x = Tok.arrP l) : codesOf (Txt.replace (Txt.replace (Txt.replace (Txt.replace (Txt.replace (Txt.replace (Txt.replace (Txt.replace (Txt.replace x (strOf [40]) (strOf [32, 40, 32])) (strOf [41]) (strOf [32, 41, 32])) (strOf [91]) (strOf [32, 91, 32])) (strOf [93]) (strOf [32, 93, 32])) (strOf [46]) (strOf [32, 46, 32])) (strOf [59]) (strOf [32, 59, 32])) (strOf [94]) (strOf [32, 94, 32])) (strOf [124]) (strOf [32, 124, 32])) (strOf [58, 61]) (strOf [32, 58, 61, 32])) = Tok.pad l := by
  rw [rep_codes (by decide), rep_codes (by decide), rep_codes (by decide), rep_codes (by decide), rep_codes (by decide), rep_codes (by decide), rep_codes (by decide), rep_codes (by decide), rep_codes (by decide), h]
  rw [show Tok.arrP l = padOn [] (Tok.arrP l) from (padOn_nil _).symm]
  rw [padOn_add (by decide) (by decide), padOn_add (by decide) (by decide), padOn_add (by decide) (by decide), padOn_add (by decide) (by decide), padOn_add (by decide) (by decide), padOn_add (by decide) (by decide), padOn_add (by decide) (by decide), padOn_add (by decide) (by decide)]
  rw [padOn_S, asg_repl _ _ (Nat.le_refl _)]
  rfl
theorem space_tab : ∀ c < 128, (c = 10 ∨ 32 ≤ c) → Unicode.isSpace c = Tok.isB c := by decide +kernel
theorem split_wf : ∀ (l : List Nat) (ws : List (List Nat)) (u : List Nat), (∀ c ∈ l, Unicode.isSpace c = Tok.isB c) → wfin (l.foldl wstep (ws, u)) = ws ++ Tok.spl u l
  | [], ws, u, _ => by
    show (if u = [] then ws else ws ++ [u]) = ws ++ (if u = [] then [] else [u])
    by_cases hu : u = []
    · rw [if_pos hu, if_pos hu, List.append_nil]
    · rw [if_neg hu, if_neg hu]
  | c :: l, ws, u, h => by
    have hc := h c List.mem_cons_self
    have ht := fun d hd => h d (List.mem_cons_of_mem _ hd)
    rw [List.foldl_cons]
    unfold wstep
    rw [hc]
    cases e : Tok.isB c with
    | true =>
      rw [if_pos rfl]
      by_cases hu : u = []
      · subst hu
        rw [if_pos rfl, Tok.spl_b e]
        exact split_wf l ws [] ht
      · rw [if_neg hu, Tok.spl_bc e hu]
        have := split_wf l (ws ++ [u]) [] ht
        rw [List.append_assoc] at this
        exact this
    | false =>
      rw [if_neg Bool.false_ne_true, Tok.spl_c e]
      exact split_wf l ws (u ++ [c]) ht
theorem words_codes {x : Str} (h : ∀ c ∈ codesOf x, Unicode.isSpace c = Tok.isB c) : (Txt.words x).map codesOf = Tok.spl [] (codesOf x) := by
  have := words_tl x
  have e : (Txt.words x).map tl = (Txt.words x).map codesOf := rfl
  rw [e] at this
  rw [this]
  have := split_wf (codesOf x) [] [] h
  rw [List.nil_append] at this
  exact this

end My

end
section
set_option Elab.async false
set_option linter.all false
set_option maxRecDepth 100000
set_option maxHeartbeats 2000000
namespace My
open PySem PySem.Spec PyProof.Rows L2 TL

open StrLaws
theorem have_rest {A B : TS} {D : Ends} {σ : L2.St} {H : Hp} (M : L2.St → Hp → Prop) (h2 : ∀ σ' H', M σ' H' → B D σ' H') (h1 : (∀ σ' H', M σ' H' → B D σ' H') → tSeq A B D σ H) : tSeq A B D σ H := h1 h2
theorem fix_ne : ∀ x ∈ Tok.fixed, x.1 ≠ [123] ∧ x.1 ≠ [125] := by decide +kernel
theorem ck_ts {ch t l' : List Nat} {ts ts' : List (List Nat)} (k : Tok.Ck ch t l' ts ts') (h1 : ch ≠ [123]) (h2 : ch ≠ [125]) : ts' = ts := by
  cases k with
  | sp h => rfl
  | arr => rfl
  | asg => rfl
  | str h hn => exact absurd rfl h1
  | sym h hn => exact absurd rfl h2
  | word h hp hl => rfl
theorem arr_all {P : Nat → Prop} (h32 : P 32) (h64 : P 64) : ∀ (n : Nat) (l : List Nat), l.length ≤ n → (∀ c ∈ l, P c) → (Tok.arrP l).length ≤ 2 * l.length ∧ ∀ c ∈ Tok.arrP l, P c
  | _, [], _, _ => ⟨Nat.le_refl _, fun c h => by cases h⟩
  | 0, _ :: _, h, _ => by cases h
  | n + 1, c :: l, h, hp => by
    by_cases hc : c = 35 ∧ l.head? = some 40
    · obtain ⟨rfl, hh⟩ := hc
      cases l with
      | nil => cases hh
      | cons d r =>
        injection hh with hh
        subst hh
        obtain ⟨h1, h2⟩ := arr_all h32 h64 n r (by simp only [List.length_cons] at h; omega) fun c hc => hp c (List.mem_cons_of_mem _ (List.mem_cons_of_mem _ hc))
        rw [Tok.arr_hit]
        refine ⟨by simp only [List.length_cons]; omega, fun c hc => ?_⟩
        rcases List.mem_cons.mp hc with rfl | hc
        · exact h32
        rcases List.mem_cons.mp hc with rfl | hc
        · exact h64
        rcases List.mem_cons.mp hc with rfl | hc
        · exact h32
        exact h2 c hc
    · obtain ⟨h1, h2⟩ := arr_all h32 h64 n l (by simp only [List.length_cons] at h; omega) fun c hc => hp c (List.mem_cons_of_mem _ hc)
      rw [Tok.arr_miss hc]
      refine ⟨by simp only [List.length_cons]; omega, fun d hd => ?_⟩
      rcases List.mem_cons.mp hd with rfl | hd
      · exact hp d List.mem_cons_self
      exact h2 d hd
theorem asg_all {P : Nat → Prop} (h32 : P 32) : ∀ (n : Nat) (l : List Nat), l.length ≤ n → (∀ c ∈ l, P c) → (Tok.asgP l).length ≤ 2 * l.length ∧ ∀ c ∈ Tok.asgP l, P c
  | _, [], _, _ => ⟨Nat.le_refl _, fun c h => by cases h⟩
  | 0, _ :: _, h, _ => by cases h
  | n + 1, c :: l, h, hp => by
    by_cases hc : c = 58 ∧ l.head? = some 61
    · obtain ⟨rfl, hh⟩ := hc
      cases l with
      | nil => cases hh
      | cons d r =>
        injection hh with hh
        subst hh
        obtain ⟨h1, h2⟩ := asg_all h32 n r (by simp only [List.length_cons] at h; omega) fun c hc => hp c (List.mem_cons_of_mem _ (List.mem_cons_of_mem _ hc))
        rw [Tok.asg_hit]
        refine ⟨by simp only [List.length_cons]; omega, fun c hc => ?_⟩
        rcases List.mem_cons.mp hc with rfl | hc
        · exact h32
        rcases List.mem_cons.mp hc with rfl | hc
        · exact hp _ List.mem_cons_self
        rcases List.mem_cons.mp hc with rfl | hc
        · exact hp _ (List.mem_cons_of_mem _ List.mem_cons_self)
        rcases List.mem_cons.mp hc with rfl | hc
        · exact h32
        exact h2 c hc
    · obtain ⟨h1, h2⟩ := asg_all h32 n l (by simp only [List.length_cons] at h; omega) fun c hc => hp c (List.mem_cons_of_mem _ hc)
      rw [Tok.asg_miss hc]
      refine ⟨by simp only [List.length_cons]; omega, fun d hd => ?_⟩
      rcases List.mem_cons.mp hd with rfl | hd
      · exact hp d List.mem_cons_self
      exact h2 d hd
theorem padOn_all {P : Nat → Prop} (h32 : P 32) (S : List Nat) : ∀ (l : List Nat), (∀ c ∈ l, P c) → (padOn S l).length ≤ 3 * l.length ∧ ∀ c ∈ padOn S l, P c
  | [], _ => ⟨Nat.le_refl _, fun c h => by cases h⟩
  | c :: l, hp => by
    obtain ⟨h1, h2⟩ := padOn_all h32 S l fun c hc => hp c (List.mem_cons_of_mem _ hc)
    by_cases hc : c ∈ S
    · rw [padOn, if_pos hc]
      refine ⟨by simp only [List.length_cons]; omega, fun d hd => ?_⟩
      rcases List.mem_cons.mp hd with rfl | hd
      · exact h32
      rcases List.mem_cons.mp hd with rfl | hd
      · exact hp _ List.mem_cons_self
      rcases List.mem_cons.mp hd with rfl | hd
      · exact h32
      exact h2 d hd
    · rw [padOn, if_neg hc]
      refine ⟨by simp only [List.length_cons]; omega, fun d hd => ?_⟩
      rcases List.mem_cons.mp hd with rfl | hd
      · exact hp _ List.mem_cons_self
      exact h2 d hd
/-- one replace more -/
theorem stage {x : Str} {S a : List Nat} {d : Nat} (h : codesOf x = padOn S a) (hd : d ∉ S) (h32 : d ≠ 32) : codesOf (Txt.replace x (strOf [d]) (strOf [32, d, 32])) = padOn (d :: S) a := by
  rw [rep_codes (by simp), h, padOn_add hd h32]
theorem fits {x : Str} {S a : List Nat} {z : List Nat} (h : codesOf x = padOn S a) (ha : a.length ≤ 16000) (hz : z.length ≤ 5) : x.length + (x.length + 1) * (strOf z).length ≤ 16777216 := by
  have h1 : x.length ≤ 48000 := by
    rw [len_codes, h]
    have := (padOn_all (P := fun _ => True) trivial S a fun _ _ => trivial).1
    omega
  have h2 : (strOf z).length ≤ 5 := hz
  have := Nat.mul_le_mul (Nat.add_le_add_right h1 1) h2
  omega
theorem have_rest3 {A A2 A3 R : TS} {D : Ends} {σ : L2.St} {H : Hp} (M : L2.St → Hp → Prop) (h2 : ∀ σ' H', M σ' H' → R D σ' H') (h1 : (∀ σ' H', M σ' H' → R D σ' H') → tSeq A (tSeq A2 (tSeq A3 R)) D σ H) : tSeq A (tSeq A2 (tSeq A3 R)) D σ H := h1 h2
def spApart : Sp := fun vs H Q _ => ∃ (code : Str), vs = [.str code] ∧ (codesOf code).length ≤ 8000 ∧ ∀ c9 : Str, codesOf c9 = Tok.pad (codesOf code) → Q (.str c9) H
abbrev s_set_apart : Stmt := top 16
section
variable {P : Program} {w : World} {K : PySem.W.Frag} {mg : Str → Option Value} {base : Heap}
theorem sc_set_apart : FnScope ["code"] ["code"] (defScope s_set_apart) := ⟨rfl, rfl, rfl, by decide +kernel, rfl, by decide +kernel, by decide +kernel⟩
theorem ok_set_apart {f : Addr} {fd : FuncData} (F : FnP K "set_apart" s_set_apart f fd) : FnOk P w K mg base CX0 1 f fd ["code"] spApart := by
  obtain ⟨oc, od, dV, kV, doc, pm, an, cdv, ct, osl, rfl, lk, hcd, _, _⟩ := F.ex
  refine fn_ofT lk hcd sc_set_apart (by decide +kernel) (by decide) (fun vs H Q E h => ?_) fun A outer s H vs Q E hr h => ⟨_,
    (psst_cons (CwR.pst_if (pt_cmpR op_in_str pe_str (pv 0) (by rfl)) (CwR.psst_one (pst_set (i := 0) sc_set_apart.nd rfl (Or.inl rfl) (CwR.pet_replC (pv 0)))) CwR.psst_nil)
    (psst_cons (pst_set (i := 0) sc_set_apart.nd rfl (Or.inl rfl) (CwR.pet_replT (CwR.pet_replT (CwR.pet_replT (CwR.pet_replT (CwR.pet_replC (pv 0)))))))
    (CwR.psst_one (CwR.pst_ret (CwR.pet_replT (CwR.pet_replT (CwR.pet_replT (CwR.pet_replC (pv 0))))))))), ?_⟩
  · obtain ⟨code, rfl, _⟩ := h
    rfl
  · obtain ⟨code, rfl, hcl, hok⟩ := h
    have k0 : (Str.ofString "#(") = strOf [35,40] := by decide +kernel
    have k1 : (Str.ofString " @ ") = strOf [32,64,32] := by decide +kernel
    have k2 : (Str.ofString "(") = strOf [40] := by decide +kernel
    have k3 : (Str.ofString " ( ") = strOf [32,40,32] := by decide +kernel
    have k4 : (Str.ofString ")") = strOf [41] := by decide +kernel
    have k5 : (Str.ofString " ) ") = strOf [32,41,32] := by decide +kernel
    have k6 : (Str.ofString "[") = strOf [91] := by decide +kernel
    have k7 : (Str.ofString " [ ") = strOf [32,91,32] := by decide +kernel
    have k8 : (Str.ofString "]") = strOf [93] := by decide +kernel
    have k9 : (Str.ofString " ] ") = strOf [32,93,32] := by decide +kernel
    have k10 : (Str.ofString ".") = strOf [46] := by decide +kernel
    have k11 : (Str.ofString " . ") = strOf [32,46,32] := by decide +kernel
    have k12 : (Str.ofString ";") = strOf [59] := by decide +kernel
    have k13 : (Str.ofString " ; ") = strOf [32,59,32] := by decide +kernel
    have k14 : (Str.ofString "^") = strOf [94] := by decide +kernel
    have k15 : (Str.ofString " ^ ") = strOf [32,94,32] := by decide +kernel
    have k16 : (Str.ofString "|") = strOf [124] := by decide +kernel
    have k17 : (Str.ofString " | ") = strOf [32,124,32] := by decide +kernel
    have k18 : (Str.ofString ":=") = strOf [58,61] := by decide +kernel
    have k19 : (Str.ofString " := ") = strOf [32,58,61,32] := by decide +kernel
    rw [k0, k1, k2, k3, k4, k5, k6, k7, k8, k9, k10, k11, k12, k13, k14, k15, k16, k17, k18, k19]
    have hal : (Tok.arrP (codesOf code)).length ≤ 16000 := by
      have := (arr_all (P := fun _ => True) trivial trivial _ (codesOf code) (Nat.le_refl _) fun _ _ => trivial).1
      omega
    refine have_rest (fun σ' H' => H = H' ∧ ∃ c1 : Str, σ' = [some (.str c1)] ∧ codesOf c1 = Tok.arrP (codesOf code)) ?rest (fun h2 => ?main)
    case main =>
      dsimp only [tSeq]
      refine if_one (bA := !(Builtin.Str.occurrences code (strOf [35, 40]) 0 code.length 1).isEmpty) (fun Q q => ⟨_, rfl, _, _, rfl, rfl, _, rfl, q⟩) (fun _ => ?_) (fun y => ?_)
      · refine ⟨_, rfl, code, rfl, fits (S := []) (a := codesOf code) (by rw [padOn_nil]) (by omega) (by decide), ?_⟩
        exact h2 _ _ ⟨rfl, _, rfl, by rw [rep_codes (by decide), arr_repl _ _ (Nat.le_refl _)]⟩
      · exact h2 _ _ ⟨rfl, code, rfl, (arr_none (by rw [Bool.not_eq_false'] at y; exact y)).symm⟩
    rintro _ _ ⟨rfl, c1, rfl, hc1⟩
    have s0 : codesOf c1 = padOn [] (Tok.arrP (codesOf code)) := by rw [padOn_nil]; exact hc1
    have s1 := stage (d := 40) s0 (by decide) (by decide)
    have s2 := stage (d := 41) s1 (by decide) (by decide)
    have s3 := stage (d := 91) s2 (by decide) (by decide)
    have s4 := stage (d := 93) s3 (by decide) (by decide)
    have s5 := stage (d := 46) s4 (by decide) (by decide)
    have s6 := stage (d := 59) s5 (by decide) (by decide)
    have s7 := stage (d := 94) s6 (by decide) (by decide)
    have s8 := stage (d := 124) s7 (by decide) (by decide)
    refine ⟨_, rfl, c1, rfl, fits s0 hal (by decide), _, rfl, fits s1 hal (by decide), _, rfl, fits s2 hal (by decide), _, rfl, fits s3 hal (by decide), _, rfl, fits s4 hal (by decide), ?_⟩
    refine ⟨_, rfl, _, rfl, fits s5 hal (by decide), _, rfl, fits s6 hal (by decide), _, rfl, fits s7 hal (by decide), _, rfl, ?_, ?_⟩
    · exact fits s8 hal (by decide)
    exact hok _ (chain_codes (l := codesOf code) c1 hc1)
end

end My

end
section
set_option Elab.async false
set_option linter.all false
set_option maxRecDepth 100000
set_option maxHeartbeats 2000000
namespace My
open PySem PySem.Spec PyProof.Rows L2 TL

open StrLaws
def spWordsIn (K : PySem.W.Frag) : Sp := fun vs H Q _ => ∃ (H0 : Hp) (ap : Addr) (src code : Str) (ts : List (List Nat)),
  vs = [.str src, .str code, .ref ap] ∧ Same H0 H ∧ H0 ap = none ∧ H ap = some (.lst (tsV ts)) ∧ Tok.Sc (codesOf src) ts (Tok.spl [] (Tok.pad (codesOf code))) ∧ Asc (codesOf src) ∧ 64 ∉ codesOf src ∧ Nd (codesOf src) ∧ Left (codesOf src) ts ∧
  (codesOf src).length ≤ 2000 ∧ (codesOf code).length ≤ 8000 ∧ (∀ c ∈ codesOf code, c < 128 ∧ (c = 10 ∨ 32 ≤ c)) ∧
  (∀ H', Same H0 H' → Q .non H') ∧ (∀ ws, Tok.words (codesOf src) = .ok ws → ∀ p H', Rows K H0 H' p (ws.map dW) → Q (.ref p) H')
abbrev s_words_in : Stmt := top 17
section
variable {P : Program} {w : World} {K : PySem.W.Frag} {mg : Str → Option Value} {base : Heap}
variable {f_set_apart f_put_string f_is_symbol f_put_keywords f_surely_binds f_put_other : Addr} {fd_set_apart fd_put_string fd_is_symbol fd_put_keywords fd_surely_binds fd_put_other : FuncData}
theorem sc_words_in : FnScope ["source", "code", "texts", "words", "place", "chunk", "kind", "value"] ["source", "code", "texts"] (defScope s_words_in) := ⟨rfl, rfl, rfl, by decide +kernel, rfl, by decide +kernel, by decide +kernel⟩
theorem ok_words_in {f d_FIXED : Addr} {fd : FuncData} (F : FnP K "words_in" s_words_in f fd) (F_set_apart : FnP K "set_apart" s_set_apart f_set_apart fd_set_apart) (g_set_apart : mg "set_apart" = some (.ref f_set_apart)) (F_put_other : FnP K "put_other" s_put_other f_put_other fd_put_other)
    (F_put_string : FnP K "put_string" s_put_string f_put_string fd_put_string) (F_is_symbol : FnP K "is_symbol" s_is_symbol f_is_symbol fd_is_symbol) (F_put_keywords : FnP K "put_keywords" s_put_keywords f_put_keywords fd_put_keywords) (F_surely_binds : FnP K "surely_binds" s_surely_binds f_surely_binds fd_surely_binds)
    (g_put_other : mg "put_other" = some (.ref f_put_other)) (g_put_string : mg "put_string" = some (.ref f_put_string)) (g_is_symbol : mg "is_symbol" = some (.ref f_is_symbol)) (g_put_keywords : mg "put_keywords" = some (.ref f_put_keywords)) (g_surely_binds : mg "surely_binds" = some (.ref f_surely_binds))
    (g_len : mg "len" = none) (g_all : mg "all" = none) (g_int : mg "int" = none) (g_FIXED : mg "FIXED" = some (.ref d_FIXED)) (hF : FixAt K w d_FIXED) (g_VK : TupAt K mg "VALUE_KINDS" vkinds)
    (g_LN : ∃ t, mg "LONGEST_NAME" = some (.int 40 t)) (g_MD : ∃ t, mg "MOST_DIGITS" = some (.int 60 t)) (g_AR : ∃ t, mg "ARRAY" = some (.str ⟨#[64]⟩ t)) (g_ST : ∃ t, mg "STRING" = some (.str ⟨#[123]⟩ t)) (g_SY : ∃ t, mg "SYMBOL" = some (.str ⟨#[125]⟩ t)) :
    FnOk P w K mg base CX0 4 f fd ["source", "code", "texts"] (spWordsIn K) := by
  have G_put_other : FnOk P w K mg base CX0 3 f_put_other fd_put_other _ (spPutOther K) := ok_put_other F_put_other F_put_string F_is_symbol F_put_keywords F_surely_binds g_put_string g_is_symbol g_put_keywords g_surely_binds g_len g_all g_int g_FIXED hF g_VK g_LN g_MD g_AR g_ST g_SY
  have b_put_other : Binds K fd_put_other ["words", "chunk", "source", "place", "texts"] [] := F_put_other.bindsN fun _ _ _ _ _ _ us hl => match us, hl with | [_, _, _, _, _], _ => rfl
  have k_put_other := F_put_other.kp

  obtain ⟨t1, g_LONGEST_NAME⟩ := g_LN
  have r_LONGEST_NAME : RelV (.int 40) (.int 40 t1) := ⟨t1, rfl⟩
  obtain ⟨es, n, D_FIXED, hD⟩ := hF

  have G_set_apart : FnOk P w K mg base CX0 1 f_set_apart fd_set_apart _ spApart := ok_set_apart F_set_apart
  have b_set_apart : Binds K fd_set_apart ["code"] [] := F_set_apart.bindsN fun _ _ _ _ _ _ us hl => match us, hl with | [_], _ => rfl
  have k_set_apart := F_set_apart.kp

  refine F.ok sc_words_in (fun vs H Q E h => ?_) (fun cdv A outer s H vs Q E hr h => ⟨_, PSs.nox
    (pss_cons (ps_set (i := 3) sc_words_in.nd rfl (Or.inl rfl) (pe_lst pa_nil))
      (pss_cons (ps_set (i := 4) sc_words_in.nd rfl (Or.inl rfl) pe_int)
      (pss_cons (ps_for PassesOwn.never rfl (pi_list (pe_bm0 PySem.F.plainAttrs_str PySem.F.slot_str_split PySem.F.type_str_split mt_words (pe_call G_set_apart (hr.mono (by decide)) rfl g_set_apart k_set_apart b_set_apart .nil pass0 (pa_cons (pv 1) pa_nil)))) (pg_name (i := 5) sc_words_in.nd rfl (Or.inl rfl)) (pss_cons (ps_set (i := 6) sc_words_in.nd rfl (Or.inl rfl) (pe_kget D_FIXED (pe_glob (v := .ref d_FIXED) rfl g_FIXED rfl) (pv 5) ⟨rfl, rfl, rfl, rfl⟩))
      (pss_cons (ps_set (i := 7) sc_words_in.nd rfl (Or.inl rfl) (pv 5))
      (pss_cons (ps_if (PW.pt (pw_and (pt_cmpR op_isN (pv 6) pe_non (nomark _)) (pw_and1 (pt_cmpR op_le (pe_callB call_len_str (by rfl) g_len PySem.boot_len (pa_cons (pv 5) pa_nil)) (pe_glob rfl g_LONGEST_NAME r_LONGEST_NAME) (nomark _))))) (pss_one (ps_if (pt_val (pe_bm0 PySem.F.plainAttrs_str PySem.F.slot_str_isidentifier PySem.F.type_str_isidentifier mt_isidentifier (pv 5))) (pss_one (ps_set (i := 6) sc_words_in.nd rfl (Or.inl rfl) pe_str)) (pss_one (ps_if (pt_val (pe_bm0 PySem.F.plainAttrs_str PySem.F.slot_str_isdigit PySem.F.type_str_isdigit mt_isdigit (pv 5))) (pss_cons (ps_set (i := 6) sc_words_in.nd rfl (Or.inl rfl) pe_str)
      (pss_one (ps_set (i := 7) sc_words_in.nd rfl (Or.inl rfl) (pe_callTy call_int_str (by rfl) g_int (by decide +kernel) (pa_cons (pv 5) pa_nil))))) (pss_one (ps_if (PW.pt (pw_and (pt_val (pe_bm PySem.F.plainAttrs_str PySem.F.slot_str_endswith PySem.F.type_str_endswith mt_endswith (pv 5) (pa_cons pe_str pa_nil))) (pw_and1 (pt_val (pe_bm0 PySem.F.plainAttrs_str PySem.F.slot_str_isidentifier PySem.F.type_str_isidentifier mt_isidentifier (pe_slice sl_str (pv 5) po_none (po_some (pe_un un_neg pe_int)))))))) (pss_one (ps_set (i := 6) sc_words_in.nd rfl (Or.inl rfl) pe_str)) pss_nil)))))) pss_nil)
      (pss_one (ps_if (pt_cmpR op_notN (pv 6) pe_non (nomark _)) (pss_cons (ps_set (i := 4) sc_words_in.nd rfl (Or.inl rfl) (pe_bm PySem.F.plainAttrs_str PySem.F.slot_str_find PySem.F.type_str_find mt_find3 (pv 0) (pa_cons (pv 5) (pa_cons (pv 4) pa_nil))))
      (pss_cons (ps_expr (pe_bm PySem.F.plainAttrs_list PySem.F.slot_list_append PySem.F.type_list_append mt_append (pv 3) (pa_cons (pe_tup (pa_cons (pv 6) (pa_cons (pv 7) (pa_cons (pv 4) pa_nil)))) pa_nil)))
      (pss_one (ps_aug (i := 4) sc_words_in.nd rfl (Or.inl rfl) (pe_callB call_len_str (by rfl) g_len PySem.boot_len (pa_cons (pv 5) pa_nil)) ip_add)))) (pss_cons (ps_set (i := 4) sc_words_in.nd rfl (Or.inl rfl) (pe_call G_put_other (hr.mono (by decide)) rfl g_put_other k_put_other b_put_other .nil pass0 (pa_cons (pv 3) (pa_cons (pv 5) (pa_cons (pv 0) (pa_cons (pv 4) (pa_cons (pv 2) pa_nil)))))))
      (pss_one (ps_if (pt_cmpR op_lt (pv 4) pe_int (nomark _)) (pss_one (ps_ret pe_non)) pss_nil)))))))))
      (pss_one (ps_ret (pv 3)))))), ?_⟩)
  · obtain ⟨H0, ap, src, code, ts, rfl, _⟩ := h
    rfl
  · obtain ⟨H0, ap, src, code, ts, rfl, hsame, hap0, hap, hsc, hA, h64, hnd, hleft, hL, hcl, hcs, hnon, hok⟩ := h
    have hsgn : ∀ c ∈ Tok.pad (codesOf code), c < 128 ∧ (c = 10 ∨ 32 ≤ c) := by
      have p1 := (arr_all (P := fun c => c < 128 ∧ (c = 10 ∨ 32 ≤ c)) (by decide) (by decide) _ (codesOf code) (Nat.le_refl _) hcs).2
      have p2 := (padOn_all (P := fun c => c < 128 ∧ (c = 10 ∨ 32 ≤ c)) (by decide) [124, 94, 59, 46, 93, 91, 41, 40] _ p1).2
      rw [padOn_S] at p2
      exact (asg_all (P := fun c => c < 128 ∧ (c = 10 ∨ 32 ≤ c)) (by decide) _ _ (Nat.le_refl _) p2).2
    have hal : (Tok.arrP (codesOf code)).length ≤ 16000 := by
      have := (arr_all (P := fun _ => True) trivial trivial _ (codesOf code) (Nat.le_refl _) fun _ _ => trivial).1
      omega
    have hpl : (Tok.pad (codesOf code)).length ≤ 96000 := by
      have p2 := (padOn_all (P := fun _ => True) trivial [124, 94, 59, 46, 93, 91, 41, 40] (Tok.arrP (codesOf code)) fun _ _ => trivial).1
      rw [padOn_S] at p2
      have := (asg_all (P := fun _ => True) trivial _ (Tok.padS (Tok.arrP (codesOf code))) (Nat.le_refl _) fun _ _ => trivial).1
      unfold Tok.pad
      omega
    show tSeq (tAsg (tLst tNil) (gName 3)) _ _ _ _
    refine ⟨(by show 0 ≤ sizeLine; exact Nat.zero_le _), fun aw nw => ?_⟩
    have haw0 : H0 aw = none := hsame.free nw
    have nea : aw ≠ ap := fun e => by rw [e, hap] at nw; cases nw
    have W0 : Wt K H0 (upd H aw (.lst [])) aw ap [] (tsV ts) := ⟨hsame.trans (same_upd nw), haw0, hap0, nea, ⟨[], fun _ => none, upd_same, .nil, fun a o z => by cases z⟩, by rw [upd_ne (Ne.symm nea)]; exact hap⟩
    refine ⟨_, rfl, code, rfl, hcl, fun c9 hc9 => ?_⟩
    have hys := words_codes (x := c9) (by rw [hc9]; exact fun c hc => space_tab c (hsgn c hc).1 (hsgn c hc).2)
    rw [hc9] at hys
    have hc9l : c9.length ≤ 96000 := by rw [len_codes, hc9]; exact hpl
    have hwn : (Txt.words c9).length ≤ 96001 := by have := words_le c9; omega
    refine ⟨rfl, _, rfl, rfl, (by rw [sizeLine_eq]; omega), fun pl npl => ⟨pl, rfl, ⟨_, SqL.of upd_same⟩, ?_⟩⟩
    generalize upd H aw (.lst []) = H1 at W0 npl ⊢
    generalize Txt.words c9 = ys at hys hwn ⊢
    have W1 := W0.later (same_upd (o := .lst (ys.map V.str)) npl)
    have npa : pl ≠ aw := fun e => by
      obtain ⟨xs, h1, _⟩ := W0.lst
      rw [← e, npl] at h1
      cases h1
    have npp : pl ≠ ap := fun e => by
      have := W0.txt
      rw [← e, npl] at this
      cases this
    have hpl1 : (upd H1 pl (.lst (ys.map V.str))) pl = some (.lst (ys.map V.str)) := upd_same
    have hp0 : H0 pl = none := W0.old.free npl
    generalize upd H1 pl (.lst (ys.map V.str)) = H2 at W1 hpl1 ⊢
    have hA0 : H2 aw = some (.lst []) := by
      obtain ⟨xs, h1, _, h3⟩ := W1.lst
      rw [h1, List.eq_nil_of_length_eq_zero h3]
    obtain ⟨G0, hG0⟩ : ∃ G0 : Hp, ∀ b, G0 b = if b = aw ∨ b = ap then none else H2 b := ⟨_, fun _ => rfl⟩
    have gS : Same G0 H2 := fun a o z => by
      rw [hG0] at z
      split at z
      · cases z
      · exact z
    have g0 : Same H0 G0 := fun a o z => by
      rw [hG0, if_neg]
      · exact W1.old a o z
      · rintro (rfl | rfl)
        · rw [haw0] at z; cases z
        · rw [hap0] at z; cases z
    have gpl : G0 pl = some (.lst (ys.map V.str)) := by
      rw [hG0, if_neg (by rintro (e | e); exact npa e; exact npp e)]
      exact hpl1
    have V1 : Wt K G0 H2 aw ap [] (tsV ts) := ⟨gS, by rw [hG0, if_pos (.inl rfl)], by rw [hG0, if_pos (.inr rfl)], nea, ⟨[], fun _ => none, hA0, .nil, fun a o z => by cases z⟩, W1.txt⟩
    have hgo : Tok.At (codesOf src) [] 0 ts (Tok.spl [] (Tok.pad (codesOf code))) := ⟨Nat.zero_le _, Tok.go_start _, hsc⟩
    generalize hcsd : Tok.spl [] (Tok.pad (codesOf code)) = cs at hgo hys
    refine for_list (K := K) (a := pl) (xs := ys.map V.str) (fun i σ H' => ∃ (p : Nat) (ws : List Tok.W) (ts : List (List Nat)) (x y z : Option V), σ = [some (.str src), some (.str code), some (.ref ap), some (.ref aw), some (.int (p : Int)), x, y, z] ∧ Wt K G0 H' aw ap ws (tsV ts) ∧ Tok.At (codesOf src) ws p ts (cs.drop i) ∧ ws.length ≤ p ∧ Left (codesOf src) ts)
      ⟨0, [], ts, none, none, none, rfl, V1, hgo, Nat.le_refl _, hleft⟩ (fun i σ H' _ R => by obtain ⟨_, _, _, _, _, _, _, W, _⟩ := R; exact SqL.of (W.old _ _ gpl)) ?turn ?last
    case turn =>
      rintro i x σ H3 hx ⟨p, ws, ts, x1, y1, z1, rfl, W, hat, hwl, hleft⟩
      rw [List.getElem?_map] at hx
      obtain ⟨y, hy, rfl⟩ := Option.map_eq_some_iff.mp hx
      have hci : cs[i]? = some (codesOf y) := by rw [← hys, List.getElem?_map, hy]; rfl
      obtain ⟨l, rfl⟩ : ∃ l, y = strOf l := ⟨codesOf y, (strOf_codes y).symm⟩
      have hci : cs[i]? = some l := hci
      have hil : i < cs.length := by
        rcases Nat.lt_or_ge i cs.length with h | h
        · exact h
        · rw [List.getElem?_eq_none h] at hci; cases hci
      have hdi : cs.drop i = l :: cs.drop (i + 1) := by
        rw [List.drop_eq_getElem_cons hil]
        rw [List.getElem?_eq_getElem hil] at hci
        injection hci with hci
        rw [hci]
      rw [hdi] at hat
      obtain ⟨q, t, l', ts', N⟩ := Tok.at_next hat
      obtain ⟨ht, hct, ⟨c0, r0, ech, hcb⟩, hsame⟩ := ck_facts N.ck
      have hge := N.ge
      have hlen := Tok.next_len N ht
      have hAc : Asc l := asc_ck hA N
      have hll : l.length ≤ 2000 := by omega
      have hls : (strOf l).length ≤ sizeLine := by rw [sizeLine_eq]; show l.length ≤ _; omega
      obtain ⟨r, hr2, hru⟩ := hD (strOf l)
      show tSeq (tAsg (tKGet _ _ _ _) _) _ _ _ _
      refine have_rest3 (fun σ' H' => H3 = H' ∧ ((∃ k v, σ' = [some (.str src), some (.str code), some (.ref ap), some (.ref aw), some (.int (p : Int)), some (.str (strOf l)), some (.str (kdS k)), some (vVal v)] ∧ t = l ∧ Tok.At (codesOf src) (ws ++ [(k, v, q)]) (q + l.length) ts (cs.drop (i + 1))) ∨
        σ' = [some (.str src), some (.str code), some (.ref ap), some (.ref aw), some (.int (p : Int)), some (.str (strOf l)), some .non, some (.str (strOf l))])) ?rest2 (fun h2 => ?main2)
      case main2 =>
        refine ⟨rfl, _, rfl, strOf l, r, rfl, hr2, ?_⟩
        cases r with
        | some u =>
          obtain ⟨k, tk, rfl, hfx⟩ := hru u rfl
          have hfx : (l, k) ∈ Tok.fixed := hfx
          obtain ⟨et, hat2⟩ := Tok.step_fixed N hfx
          obtain ⟨n1, n2⟩ := fix_ne _ hfx
          rw [ck_ts N.ck n1 n2] at hat2
          refine ⟨.str (kdS k), ⟨tk, rfl⟩, ?_⟩
          refine ⟨_, rfl, ?_⟩
          dsimp only [gName, tSeq]
          refine if_and (bA := false) (bB := true) (fun Q q => ⟨_, rfl, rfl, _, rfl, by rw [decide_eq_false (by intro z; cases z)]; exact q⟩) (fun z => by cases z) (fun z => by cases z) (fun _ => ?_)
          exact h2 _ _ ⟨rfl, .inl ⟨k, .s l, rfl, et, hat2⟩⟩
        | none =>
          refine ⟨_, rfl, ?_⟩
          dsimp only [gName, tSeq]
          refine if_and (bA := true) (bB := decide (((strOf l).length : Int) ≤ 40)) (fun Q q => ⟨_, rfl, rfl, _, rfl, by rw [decide_eq_true rfl]; exact q⟩) (fun _ Q q => ⟨_, rfl, _, rfl, hls, _, _, rfl, rfl, _, rfl, q⟩) (fun _ y => ?_) (fun _ => h2 _ _ ⟨rfl, .inr rfl⟩)
          have y : l.length ≤ 40 := by have := of_decide_eq_true y; exact Int.ofNat_le.mp this
          refine if_one (bA := Tok.isId l) (fun Q q => ⟨_, rfl, rfl, _, rfl, rfl, trivial, _, rfl, by rw [ident_eq hAc]; exact q⟩) (fun y1 => ?_) (fun n1 => ?_)
          · obtain ⟨et, hat2⟩ := Tok.step_name N y1 y
            exact h2 _ _ ⟨rfl, .inl ⟨.name, .s l, rfl, et, hat2⟩⟩
          refine if_one (bA := decide (0 < l.length) && l.all Tok.isDg) (fun Q q => ⟨_, rfl, rfl, _, rfl, rfl, trivial, _, rfl, by rw [digit_eq hAc]; exact q⟩) (fun y2 => ?_) (fun n2 => ?_)
          · rw [Bool.and_eq_true] at y2
            have hl0 : l ≠ [] := fun z => by rw [ech] at z; cases z
            obtain ⟨et, hat2⟩ := Tok.step_int N hl0 y2.2 (by omega)
            have hint : PySem.intText? (strOf l) = some ((Tok.num l : Nat) : Int) := by
              rw [num_eq]
              exact PySem.intText_digits (x := strOf l) (isId_dg y2.2 hl0) hl0 (by show l.length ≤ _; omega)
            refine ⟨_, rfl, _, _, rfl, hint, (by show l.length ≤ 640; omega), ?_⟩
            exact h2 _ _ ⟨rfl, .inl ⟨.int, .i (Tok.num l), rfl, et, hat2⟩⟩
          have hcl2 := cut_last (strOf l)
          have hAd : Asc (codesOf (cutS (strOf l) none (some (-1)))) := by rw [hcl2]; exact fun c hc => hAc c (List.dropLast_subset _ hc)
          have e58 : (Str.ofString ":") = ⟨#[58]⟩ := by decide +kernel
          refine if_and (bA := decide (l.getLast? = some 58)) (bB := Tok.isId l.dropLast) (fun Q q => ⟨_, rfl, rfl, _, _, rfl, rfl, _, rfl, by rw [e58, ends_one]; exact q⟩) (fun _ Q q => ⟨_, rfl, 1, rfl, _, rfl, strOf l, rfl, hls, rfl, _, rfl, rfl, trivial, _, rfl, by rw [ident_eq hAd, hcl2]; exact q⟩) (fun y3 y4 => ?_) (fun _ => h2 _ _ ⟨rfl, .inr rfl⟩)
          have hs := last_split (of_decide_eq_true y3)
          have hk : l = Tok.keys [l.dropLast] := hs
          obtain ⟨et, hat2⟩ := Tok.step_keys N hk (by simp) (by
            show (Tok.okPart l.dropLast && true) = true
            unfold Tok.okPart
            rw [y4, decide_eq_true (show l.dropLast.length ≤ 40 by rw [List.length_dropLast]; omega)]
            rfl)
          have hkw : Tok.keyWords [l.dropLast] q = [(.keyword, .s l, q)] := by
            show [(Tok.Kd.keyword, Tok.Val.s (l.dropLast ++ [58]), q)] = _
            rw [← hs]
          rw [hkw] at hat2
          exact h2 _ _ ⟨rfl, .inl ⟨.keyword, .s l, rfl, et, hat2⟩⟩
      case rest2 =>
        rintro _ _ ⟨rfl, ⟨k, v, rfl, et, hat2⟩ | rfl⟩
        · refine if_one (bA := true) (fun Q q => ⟨_, rfl, rfl, _, rfl, by rw [show (!decide (V.str (kdS k) = V.non)) = true from by rw [decide_eq_false (by intro z; cases z)]; rfl]; exact q⟩) (fun _ => ?_) (fun y => by cases y)
          have hf : Txt.find3 src (strOf l) (p : Int) = (q : Int) := find_at src l p q ech hcb hge (by rw [N.drop, et]) N.gap
          refine ⟨_, rfl, rfl, _, rfl, _, rfl, _, _, _, rfl, rfl, ?_⟩
          rw [hf]
          obtain ⟨xs, hxw, hxD, hxl⟩ := W.lst
          refine ⟨_, rfl, .inl ⟨rfl, _, SqL.of hxw⟩, _, rfl, _, rfl, _, rfl, (by show 3 ≤ sizeLine; decide), fun r nr => ?_⟩
          have W3 := W.more (w := (k, v, q)) hxw nr _ rfl
          have ra : aw ≠ r := fun e => by rw [← e, hxw] at nr; cases nr
          refine ⟨aw, xs, .ref r, rfl, rfl, by rw [upd_ne ra]; exact hxw, by rw [sizeLine_eq, hxl]; omega, ?_⟩
          refine ⟨_, rfl, _, rfl, _, rfl, hls, _, _, rfl, rfl, ?_⟩
          refine ⟨q + l.length, ws ++ [(k, v, q)], ts, some (.str (strOf l)), some (.str (kdS k)), some (vVal v), ?_, W3, hat2, ?_, hleft⟩
          · rw [Int.natCast_add]
            rfl
          · rw [List.length_append, ech]
            show ws.length + 1 ≤ q + (r0.length + 1)
            omega
        · refine if_one (bA := false) (fun Q q => ⟨_, rfl, rfl, _, rfl, by rw [show (!decide (V.non = V.non)) = false from by rw [decide_eq_true rfl]; rfl]; exact q⟩) (fun y => by cases y) (fun _ => ?_)
          refine ⟨_, rfl, _, rfl, _, rfl, _, rfl, _, rfl, ?_⟩
          refine ⟨G0, aw, ap, ws, strOf l, src, p, ts, cs.drop (i + 1), rfl, W, hat, hA, h64, hnd, hleft, hL, hwl, fun H' e => ?_, fun ws2 q2 ts2 H' W2 hat2 hw2 hl2 => ?_⟩
          · exact ⟨_, rfl, _, _, rfl, rfl, _, rfl, ite2 (fun _ => hnon _ (g0.trans e)) (fun y => absurd (by decide) y)⟩
          · exact ⟨_, rfl, _, _, rfl, rfl, _, rfl, ite2 (fun y => absurd (of_decide_eq_true y) (by omega)) (fun _ => ⟨q2, ws2, ts2, _, _, _, rfl, W2, hat2, hw2, hl2⟩)⟩
    case last =>
      rintro σ H3 ⟨p, ws, ts, x, y, z, rfl, W, hat, _, _⟩
      have hlen : (ys.map V.str).length = cs.length := by rw [← hys, List.length_map, List.length_map]
      rw [hlen, List.drop_length] at hat
      refine ⟨_, rfl, hok ws (Tok.at_end hat) aw H3 ?_⟩
      obtain ⟨xs, D, h1, h2, h3⟩ := W.at_
      exact ⟨g0.trans W.old, haw0, ⟨xs, D, h1, h2, fun a o z => ⟨(h3 a o z).1, (h3 a o z).2.1, g0.free (h3 a o z).2.2.2⟩⟩⟩
end

end My

end
section
set_option Elab.async false
set_option linter.all false
set_option maxRecDepth 100000
set_option maxHeartbeats 2000000
namespace My
open PySem PySem.Spec PyProof.Rows L2 TL

/-- the pieces between ' -/
def pcs (w : List Nat) : List (List Nat) := spl [39] 0 [] w
theorem split_pcs (z : Str) : (Txt.split z ⟨#[39]⟩).map codesOf = pcs (codesOf z) := split_spl z ⟨#[39]⟩ (by decide) (kind_ok (by decide +kernel))
theorem pcs_join : ∀ (w acc : List Nat), 39 ∉ acc → Tok.joinQ (spl [39] 0 acc w) = acc ++ w ∧ (∀ p ∈ spl [39] 0 acc w, 39 ∉ p) ∧ spl [39] 0 acc w ≠ [] ∧ (spl [39] 0 acc w).length ≤ w.length + 1
  | [], acc, h => by
    rw [spl_nil, List.append_nil]
    exact ⟨rfl, fun p hp => by rw [List.mem_singleton.mp hp]; exact h, by simp, by simp⟩
  | c :: w, acc, h => by
    by_cases hc : c = 39
    · subst hc
      obtain ⟨h1, h2, h3, h4⟩ := pcs_join w [] (by simp)
      have e : spl [39] 0 acc (39 :: w) = acc :: spl [39] 0 [] w := spl_hit (by unfold pre; simp)
      rw [e, Tok.joinQ_cons h3, h1]
      refine ⟨rfl, fun p hp => ?_, by simp, by simp only [List.length_cons]; omega⟩
      rcases List.mem_cons.mp hp with rfl | hp
      · exact h
      · exact h2 p hp
    · rw [spl_miss (by unfold pre; simp [hc])]
      obtain ⟨h1, h2, h3, h4⟩ := pcs_join w (acc ++ [c]) (by rw [List.mem_append]; rintro (z | z); exact h z; rw [List.mem_singleton] at z; exact hc z.symm)
      refine ⟨by rw [h1]; simp, h2, h3, by simp only [List.length_cons]; omega⟩
theorem join_more {ps : List (List Nat)} {k : Nat} {a : List Nat} (h : k + 1 < ps.length) (ha : ps[k]? = some a) : Tok.joinQ (ps.drop k) = a ++ 39 :: Tok.joinQ (ps.drop (k + 1)) := by
  rw [List.drop_eq_getElem_cons (by omega)]
  rw [List.getElem?_eq_getElem (by omega)] at ha
  injection ha with ha
  rw [ha]
  exact Tok.joinQ_cons (by
    intro e
    have := congrArg List.length e
    rw [List.length_drop, List.length_nil] at this
    omega)
theorem join_one {ps : List (List Nat)} {k : Nat} {a : List Nat} (h : k + 1 = ps.length) (ha : ps[k]? = some a) : Tok.joinQ (ps.drop k) = a := by
  rw [List.drop_eq_getElem_cons (by omega), List.drop_eq_nil_of_le (by omega)]
  rw [List.getElem?_eq_getElem (by omega)] at ha
  injection ha with ha
/-- nothing but ap has changed -/
def Bu (ap : Addr) (H H' : Hp) : Prop := ∀ b o, b ≠ ap → H b = some o → H' b = some o
theorem Bu.trans {ap : Addr} {H1 H2 H3 : Hp} (h : Bu ap H1 H2) (k : Bu ap H2 H3) : Bu ap H1 H3 := fun b o n e => k b o n (h b o n e)
theorem Bu.upd {ap : Addr} {H : Hp} {o : HO} : Bu ap H (upd H ap o) := fun b o n e => by rw [upd_ne n]; exact e
def spStrip : Sp := fun vs H Q _ => ∃ (ap : Addr) (src : Str), vs = [.str src, .ref ap] ∧ H ap = some (.lst []) ∧ (codesOf src).length ≤ 2000 ∧ (∀ H', Bu ap H H' → Q .non H') ∧
  ∀ (code : Str) (ts : List (List Nat)) (H' : Hp), Tok.St (codesOf src) = some (codesOf code, ts) → H' ap = some (.lst (tsV ts)) → Bu ap H H' → Q (.str code) H'
theorem w_and {cA cB : TT} {σ : L2.St} {H : Hp} {T U : Hp → Prop} {bA bB : Bool} (hA : ∀ Q : Bool → Hp → Prop, Q bA H → cA σ H Q) (hB : bA = true → ∀ Q : Bool → Hp → Prop, Q bB H → cB σ H Q) (ht : bA = true → bB = true → T H) (hu : (bA = true → bB = false) → U H) : tAnd cA cB σ H (fun b H1 => if b = true then T H1 else U H1) := by
  refine hA _ ?_
  cases bA with
  | false => exact iteF (hu fun z => by cases z)
  | true =>
    refine iteT (hB rfl _ ?_)
    cases bB with
    | false => exact iteF (hu fun _ => rfl)
    | true => exact iteT (ht rfl rfl)
abbrev s_without_strings : Stmt := top 15
section
variable {P : Program} {w : World} {K : PySem.W.Frag} {mg : Str → Option Value} {base : Heap}
theorem sc_without_strings : FnScope ["source", "texts", "pieces", "code", "place", "text"] ["source", "texts"] (defScope s_without_strings) := ⟨rfl, rfl, rfl, by decide +kernel, rfl, by decide +kernel, by decide +kernel⟩
theorem ok_without_strings {f : Addr} {fd : FuncData} (F : FnP K "without_strings" s_without_strings f fd) (g_len : mg "len" = none) : FnOk P w K mg base CX0 2 f fd ["source", "texts"] spStrip := by
  refine F.ok sc_without_strings (fun vs H Q E h => ?_) (fun cdv A outer s H vs Q E hr h => ⟨_, PSs.nox
    (pss_cons (ps_set (i := 2) sc_without_strings.nd rfl (Or.inl rfl) (pe_bm PySem.F.plainAttrs_str PySem.F.slot_str_split PySem.F.type_str_split mt_split (pv 0) (pa_cons pe_str pa_nil)))
      (pss_cons (ps_if (pt_cmpR op_eq (pe_op op_odd (pe_callB call_len_seq (by rfl) g_len PySem.boot_len (pa_cons (pv 2) pa_nil)) pe_int) pe_int (nomark _)) (pss_one (ps_ret pe_non)) pss_nil)
      (pss_cons (ps_set (i := 3) sc_without_strings.nd rfl (Or.inl rfl) (pe_ix ix_list (pv 2) pe_int (fun _ _ => rfl)))
      (pss_cons (ps_set (i := 4) sc_without_strings.nd rfl (Or.inl rfl) pe_int)
      (pss_cons (ps_while PassesOwn.never (pt_cmpR op_lt (pv 4) (pe_callB call_len_seq (by rfl) g_len PySem.boot_len (pa_cons (pv 2) pa_nil)) (nomark _)) (pss_cons (ps_set (i := 5) sc_without_strings.nd rfl (Or.inl rfl) (pe_ix ix_list (pv 2) (pv 4) (fun _ _ => rfl)))
      (pss_cons (ps_while PassesOwn.never (PW.pt (pw_and (pt_cmpR op_lt (pe_op op_add (pv 4) pe_int) (pe_callB call_len_seq (by rfl) g_len PySem.boot_len (pa_cons (pv 2) pa_nil)) (nomark _)) (pw_and1 (pt_cmpR op_eq (pe_ix ix_list (pv 2) (pe_op op_add (pv 4) pe_int) (fun _ _ => rfl)) pe_str (nomark _))))) (pss_cons (ps_aug (i := 5) sc_without_strings.nd rfl (Or.inl rfl) (pe_op op_add_str pe_str (pe_ix ix_list (pv 2) (pe_op op_add (pv 4) pe_int) (fun _ _ => rfl))) iop_add_str)
      (pss_one (ps_aug (i := 4) sc_without_strings.nd rfl (Or.inl rfl) pe_int ip_add))))
      (pss_cons (ps_expr (pe_bm PySem.F.plainAttrs_list PySem.F.slot_list_append PySem.F.type_list_append mt_append (pv 1) (pa_cons (pv 5) pa_nil)))
      (pss_cons (ps_if (pt_val (pe_bm PySem.F.plainAttrs_str PySem.F.slot_str_endswith PySem.F.type_str_endswith mt_endswith (pv 3) (pa_cons pe_str pa_nil))) (pss_one (ps_set (i := 3) sc_without_strings.nd rfl (Or.inl rfl) (pe_op op_add_str (pe_op op_add_str (pe_slice sl_str (pv 3) po_none (po_some (pe_un un_neg pe_int))) pe_str) (pe_ix ix_list (pv 2) (pe_op op_add (pv 4) pe_int) (fun _ _ => rfl))))) (pss_one (ps_aug (i := 3) sc_without_strings.nd rfl (Or.inl rfl) (pe_op op_add_str pe_str (pe_ix ix_list (pv 2) (pe_op op_add (pv 4) pe_int) (fun _ _ => rfl))) iop_add_str)))
      (pss_one (ps_aug (i := 4) sc_without_strings.nd rfl (Or.inl rfl) pe_int ip_add)))))))
      (pss_cons (ps_expr (pe_bm0 PySem.F.plainAttrs_list PySem.F.slot_list_reverse PySem.F.type_list_reverse mt_reverse (pv 1)))
      (pss_one (ps_ret (pv 3))))))))), ?_⟩)
  · obtain ⟨ap, src, rfl, _⟩ := h
    rfl
  · obtain ⟨ap, src, rfl, hap, hL, hnon, hok⟩ := h
    have e39 : (Str.ofString "'") = ⟨#[39]⟩ := by decide +kernel
    have e35 : (Str.ofString "#") = ⟨#[35]⟩ := by decide +kernel
    have e0 : (Str.ofString "") = strOf [] := by decide +kernel
    have eS : (Str.ofString " { ") = strOf [32, 123, 32] := by decide +kernel
    have eY : (Str.ofString " } ") = strOf [32, 125, 32] := by decide +kernel
    rw [e39, e35, e0, eS, eY]
    refine ⟨_, rfl, rfl, _, _, rfl, rfl, (by decide), (by rw [sizeLine_eq, len_codes]; omega), fun pl npl => ?_⟩
    have hys := split_pcs src
    obtain ⟨j1, j2, j3, j4⟩ := pcs_join (codesOf src) [] (by simp)
    have j1 : Tok.joinQ (pcs (codesOf src)) = codesOf src := j1
    have j2 : ∀ p ∈ pcs (codesOf src), 39 ∉ p := j2
    have j3 : pcs (codesOf src) ≠ [] := j3
    have j4 : (pcs (codesOf src)).length ≤ (codesOf src).length + 1 := j4
    generalize pcs (codesOf src) = ps at hys j1 j2 j3 j4
    generalize Txt.split src ⟨#[39]⟩ = ys at hys ⊢
    have hyl : ys.length = ps.length := by rw [← hys, List.length_map]
    have hpa : pl ≠ ap := fun e => by rw [e, hap] at npl; cases npl
    have b1 : Bu ap H (upd H pl (.lst (ys.map V.str))) := fun b o _ e => same_upd npl b o e
    have hpl1 : (upd H pl (.lst (ys.map V.str))) pl = some (.lst (ys.map V.str)) := upd_same
    have hap1 : (upd H pl (.lst (ys.map V.str))) ap = some (.lst []) := same_upd npl _ _ hap
    generalize upd H pl (.lst (ys.map V.str)) = H1 at b1 hpl1 hap1 ⊢
    refine ⟨_, rfl, pl, _, rfl, .inl (SqL.of hpl1), _, rfl, rfl, rfl, _, rfl, ?_⟩
    have hodd : ∀ (_ : ¬ decide (V.int (((ys.map V.str).length % 2 : Nat) : Int) = V.int 0) = true), ys.length % 2 = 1 := fun y => by
      rcases Nat.mod_two_eq_zero_or_one ys.length with h | h
      · exact absurd (decide_eq_true (by rw [List.length_map, h]; rfl)) y
      · exact h
    refine ite2 (fun _ => hnon _ b1) (fun y => ?_)
    have hodd := hodd y
    have hget : ∀ k < ys.length, ∃ y, (ys.map V.str)[k]? = some (.str y) ∧ ps[k]? = some (codesOf y) ∧ 39 ∉ codesOf y := fun k hk => by
      refine ⟨ys[k], by rw [List.getElem?_map, List.getElem?_eq_getElem hk]; rfl, by rw [← hys, List.getElem?_map, List.getElem?_eq_getElem hk]; rfl, j2 _ ?_⟩
      rw [← hys]
      exact List.mem_map_of_mem (List.getElem_mem hk)
    have hmlen : (ys.map V.str).length = ys.length := List.length_map ..
    obtain ⟨y0, g0, p0, n0⟩ := hget 0 (by omega)
    dsimp only [tNext, tSeq]
    refine ⟨_, rfl, _, _, _, _, rfl, rfl, SqL.of hpl1, atI_nat (j := 0) g0, ?_⟩
    show tWhile _ _ _ _ _
    refine while_by (fun σ H' => ∃ (j : Nat) (cd : Str) (tx : List (List Nat)) (x : Option V), σ = [some (.str src), some (.ref ap), some (.ref pl), some (.str cd), some (.int (j : Int)), x] ∧ H' pl = some (.lst (ys.map V.str)) ∧ H' ap = some (.lst (tx.map fun t => V.str (strOf t))) ∧ Bu ap H H' ∧ tx.length ≤ j ∧
        ((j < ys.length ∧ j % 2 = 1 ∧ (codesOf cd).length + 3 * (Tok.joinQ (ps.drop j)).length ≤ 6000 ∧ Tok.St (codesOf src) = (Tok.Sx (codesOf cd) (Tok.joinQ (ps.drop j))).map fun r => (r.1, tx ++ r.2)) ∨ (ys.length ≤ j ∧ Tok.St (codesOf src) = some (codesOf cd, tx))))
      (fun σ _ => match σ with | [_, _, _, _, some (.int j), _] => ys.length - j.toNat | _ => 0)
      ⟨1, y0, [], none, rfl, hpl1, hap1, b1, by simp, ?init⟩ ?turn ?mono
    case init =>
      by_cases h1 : ys.length = 1
      · refine .inr ⟨by omega, ?_⟩
        have e := join_one (ps := ps) (k := 0) (by omega) p0
        rw [List.drop_zero, j1] at e
        rw [e]
        exact Tok.strip_last _ n0
      · have e : Tok.joinQ (ps.drop 0) = codesOf y0 ++ 39 :: Tok.joinQ (ps.drop 1) := join_more (ps := ps) (k := 0) (by omega) p0
        rw [List.drop_zero, j1] at e
        refine .inl ⟨by omega, by decide, ?_, ?_⟩
        · have := congrArg List.length e
          rw [List.length_append, List.length_cons] at this
          omega
        · rw [e, Tok.strip_piece _ _ n0, ← Tok.Sx_eq]
          show _ = (Tok.Sx (codesOf y0) (Tok.joinQ (ps.drop 1))).map fun r => (r.1, [] ++ r.2)
          cases Tok.Sx (codesOf y0) (Tok.joinQ (ps.drop 1)) <;> rfl
    case mono =>
      intro σ H Q Q' hq h
      obtain ⟨a, h1, b, h2, p, zs, h3, h4, i, j, h5, h6, k, h7, h⟩ := h
      exact ⟨a, h1, b, h2, p, zs, h3, h4, i, j, h5, h6, k, h7, hq _ _ h⟩
    case turn =>
      rintro _ H2 ⟨j, cd, tx, x, rfl, hp2, ha2, b2, htx, hcase⟩
      refine ⟨_, rfl, _, rfl, pl, _, rfl, .inl (SqL.of hp2), _, _, rfl, rfl, _, rfl, ?_⟩
      refine ite2 (fun c => ?_) (fun c => ?_)
      · have c : j < ys.length := by have := of_decide_eq_true c; rw [hmlen] at this; omega
        obtain ⟨_, hj2, hcl, hst⟩ := hcase.resolve_right (fun z => by omega)
        obtain ⟨yj, gj, pj, nj⟩ := hget j c
        refine ⟨_, rfl, _, rfl, _, _, _, _, rfl, rfl, SqL.of hp2, atI_nat (j := j) gj, ?_⟩
        have hRj : (Tok.joinQ (ps.drop j)).length ≤ 2000 := by omega
        have hcs : cd.length ≤ 6000 := by rw [len_codes]; omega
        show tWhile _ _ _ _ _
        refine while_by (fun σ H' => H2 = H' ∧ ∃ (e : Nat) (tt : Str) (pf pr pe : List Nat), σ = [some (.str src), some (.ref ap), some (.ref pl), some (.str cd), some (.int (e : Int)), some (.str tt)] ∧ e < ys.length ∧ e % 2 = 1 ∧ j ≤ e ∧ Tok.joinQ (ps.drop j) = pr ++ Tok.joinQ (ps.drop e) ∧ ps[e]? = some pe ∧ codesOf tt = pf ++ pe ∧ pf.length ≤ pr.length ∧
            (∀ t n, Tok.strBody (Tok.joinQ (ps.drop e)).length (Tok.joinQ (ps.drop e)) = some (t, n) → Tok.strBody (Tok.joinQ (ps.drop j)).length (Tok.joinQ (ps.drop j)) = some (pf ++ t, pr.length + n)))
          (fun σ _ => match σ with | [_, _, _, _, some (.int j), _] => ys.length - j.toNat | _ => 0)
          ⟨rfl, j, yj, [], [], codesOf yj, rfl, c, hj2, Nat.le_refl _, rfl, pj, rfl, Nat.le_refl _, fun t n h => by rw [h]; simp⟩ ?turn2 ?mono2
        case mono2 =>
          intro σ H Q Q' hq h
          obtain ⟨a, h1, a1, a2, h2, h3, b, h4, p, zs, h5, h6, i, j, h7, h8, k, h9, h⟩ := h
          refine ⟨a, h1, a1, a2, h2, h3, b, h4, p, zs, h5, h6, i, j, h7, h8, k, h9, ?_⟩
          split at h
          · rename_i kk
            rw [if_pos kk]
            obtain ⟨a, h1, b, h2, a1, a2, h3, h4, c1, c2, c3, c4, h5, h6, h7, h8, h9, k, h10, h⟩ := h
            exact ⟨a, h1, b, h2, a1, a2, h3, h4, c1, c2, c3, c4, h5, h6, h7, h8, h9, k, h10, hq _ _ h⟩
          · rename_i kk
            rw [if_neg kk]
            exact hq _ _ h
        case turn2 =>
          rintro _ _ ⟨rfl, e, tt, pf, pr, pe, rfl, hee, he2, hje, hRe, hpe, htt, hpf, hbody⟩
          have hRl := congrArg List.length hRe
          rw [List.length_append] at hRl
          have hel : e + 1 < ys.length := by omega
          obtain ⟨ye, ge, pe', ne'⟩ := hget e hee
          have epe : codesOf ye = pe := by rw [hpe] at pe'; injection pe' with z; exact z.symm
          subst epe
          obtain ⟨yc, gc, pc, nc⟩ := hget (e + 1) hel
          have hR1 : Tok.joinQ (ps.drop e) = codesOf ye ++ 39 :: Tok.joinQ (ps.drop (e + 1)) := join_more (by omega) hpe
          have hR1l := congrArg List.length hR1
          rw [List.length_append, List.length_cons] at hR1l
          have htl : tt.length ≤ 2000 := by rw [len_codes, htt, List.length_append]; omega
          refine w_and (bA := decide ((e : Int) + 2 < ((ys.map V.str).length : Int))) (bB := decide (V.str yc = V.str (strOf []))) (fun Q q => ⟨_, rfl, _, _, rfl, rfl, _, rfl, pl, _, rfl, .inl (SqL.of hp2), _, _, rfl, rfl, _, rfl, q⟩)
            (fun _ Q q => ⟨_, rfl, _, rfl, _, _, rfl, rfl, _, _, _, _, rfl, rfl, SqL.of hp2, atI_nat (j := e + 1) gc, rfl, _, rfl, q⟩) (fun c1 c2 => ?_) (fun c1 => ?_)
          · have c1 : e + 2 < ys.length := by have := of_decide_eq_true c1; rw [hmlen] at this; omega
            have hyc : codesOf yc = [] := by
              have := of_decide_eq_true c2
              injection this with this
              rw [this]
              rfl
            obtain ⟨yd, gd, pd, nd⟩ := hget (e + 2) c1
            have hR2 : Tok.joinQ (ps.drop (e + 1)) = codesOf yc ++ 39 :: Tok.joinQ (ps.drop (e + 2)) := join_more (by omega) pc
            rw [hyc, List.nil_append] at hR2
            have hR2l := congrArg List.length hR2
            rw [List.length_cons] at hR2l
            have hydl : yd.length ≤ 2000 := by
              have h1 : codesOf yd ∈ ps := List.mem_of_getElem? pd
              rw [len_codes]
              have h2 : (codesOf yd).length ≤ (Tok.joinQ (ps.drop (e + 2))).length := by
                by_cases h3 : e + 3 < ys.length
                · rw [join_more (by omega) pd, List.length_append]
                  omega
                · rw [join_one (by omega) pd]
                  exact Nat.le_refl _
              omega
            refine ⟨_, rfl, _, rfl, _, rfl, _, _, rfl, rfl, _, _, _, _, rfl, rfl, SqL.of hp2, atI_nat (j := e + 2) gd, _, _, rfl, rfl, (by rw [sizeLine_eq]; show 1 + yd.length ≤ _; omega), ?_⟩
            refine ⟨_, _, rfl, rfl, (by rw [sizeLine_eq, len_codes, len_codes, codes_app, List.length_append]; show _ + (1 + _) ≤ _; rw [← len_codes, ← len_codes]; omega), ?_⟩
            refine ⟨_, rfl, _, _, rfl, rfl, ?_⟩
            refine ⟨⟨rfl, e + 2, tt ++ (⟨#[39]⟩ ++ yd), pf ++ codesOf ye ++ [39], pr ++ codesOf ye ++ [39, 39], codesOf yd, ?_, c1, by omega, by omega, ?_, pd, ?_, ?_, fun t n h => ?_⟩, ?_⟩
            · rfl
            · rw [hRe, hR1, hR2]
              simp
            · rw [codes_app, codes_app, htt]
              show pf ++ codesOf ye ++ ([39] ++ codesOf yd) = _
              simp
            · simp only [List.length_append, List.length_cons, List.length_nil]
              omega
            · have h1 := Tok.body_more (t := codesOf ye) (r := Tok.joinQ (ps.drop (e + 2))) ne' (Nat.le_refl _)
              rw [← hR2, ← hR1, h] at h1
              have h2 := hbody _ _ h1
              rw [h2]
              simp only [List.length_append, List.length_cons, List.length_nil, List.append_assoc, List.cons_append, List.nil_append]
              congr 2
              omega
            · show ys.length - ((e : Int) + 2).toNat < ys.length - (e : Int).toNat
              omega
          · have hhead : (Tok.joinQ (ps.drop (e + 1))).head? ≠ some 39 := by
              by_cases hl : e + 2 < ys.length
              · have h1 : codesOf yc ≠ [] := fun z => by
                  have h2 : yc = strOf [] := by rw [← z]; exact (strOf_codes yc).symm
                  have h3 := c1 (decide_eq_true (by rw [hmlen]; omega))
                  rw [decide_eq_true (by rw [h2])] at h3
                  cases h3
                rw [join_more (by omega) pc]
                cases hz : codesOf yc with
                | nil => exact absurd hz h1
                | cons d r =>
                  intro z
                  have z : some d = some 39 := z
                  injection z with z
                  exact nc (by rw [hz, z]; exact List.mem_cons_self)
              · rw [join_one (by omega) pc]
                cases hz : codesOf yc with
                | nil => intro z; cases z
                | cons d r =>
                  intro z
                  have z : some d = some 39 := z
                  injection z with z
                  exact nc (by rw [hz, z]; exact List.mem_cons_self)
            have hb : Tok.strBody (Tok.joinQ (ps.drop j)).length (Tok.joinQ (ps.drop j)) = some (codesOf tt, pr.length + ((codesOf ye).length + 1)) := by
              have := hbody (codesOf ye) ((codesOf ye).length + 1) (by rw [hR1]; exact Tok.body_end ne' hhead (Nat.le_refl _))
              rw [this, htt]
            have hdrop : (Tok.joinQ (ps.drop j)).drop (pr.length + ((codesOf ye).length + 1)) = Tok.joinQ (ps.drop (e + 1)) := by
              have h1 : Tok.joinQ (ps.drop j) = (pr ++ codesOf ye ++ [39]) ++ Tok.joinQ (ps.drop (e + 1)) := by rw [hRe, hR1]; simp
              have h2 : pr.length + ((codesOf ye).length + 1) = (pr ++ codesOf ye ++ [39]).length := by simp only [List.length_append, List.length_cons, List.length_nil]; omega
              rw [h2, h1, List.drop_left]
            have hcl2 : (codesOf yc).length ≤ (Tok.joinQ (ps.drop (e + 1))).length := by
              by_cases h3 : e + 2 < ys.length
              · rw [join_more (by omega) pc, List.length_append]
                omega
              · rw [join_one (by omega) pc]
                exact Nat.le_refl _
            have hycl : yc.length ≤ 2000 := by rw [len_codes]; omega
            refine ⟨_, rfl, .inl ⟨rfl, _, SqL.of ha2⟩, _, rfl, ap, _, _, rfl, rfl, ha2, (by rw [List.length_map, sizeLine_eq]; omega), ?_⟩
            have hp3 : (upd H2 ap (.lst ((tx.map fun t => V.str (strOf t)) ++ [V.str tt]))) pl = some (.lst (ys.map V.str)) := by rw [upd_ne hpa]; exact hp2
            have ha3 : (upd H2 ap (.lst ((tx.map fun t => V.str (strOf t)) ++ [V.str tt]))) ap = some (.lst ((tx ++ [codesOf tt]).map fun t => V.str (strOf t))) := by
              rw [upd_same, List.map_append]
              show _ = some (HO.lst (_ ++ [V.str (strOf (codesOf tt))]))
              rw [strOf_codes]
            have b3 : Bu ap H (upd H2 ap (.lst ((tx.map fun t => V.str (strOf t)) ++ [V.str tt]))) := b2.trans Bu.upd
            generalize upd H2 ap (.lst ((tx.map fun t => V.str (strOf t)) ++ [V.str tt])) = H3 at hp3 ha3 b3 ⊢
            dsimp only []
            refine have_rest (fun σ' H' => H3 = H' ∧ ∃ cd2 : Str, σ' = [some (.str src), some (.ref ap), some (.ref pl), some (.str cd2), some (.int (e : Int)), some (.str tt)] ∧ codesOf cd2 = Tok.cdOf (codesOf cd) (codesOf yc)) ?restC (fun h2 => ?mainC)
            case mainC =>
              dsimp only [tSeq]
              have hcl3 := cut_last cd
              refine if_one (bA := decide ((codesOf cd).getLast? = some 35)) (fun Q q => ⟨_, rfl, rfl, _, _, rfl, rfl, _, rfl, by rw [ends_one]; exact q⟩) (fun y => ?_) (fun y => ?_)
              · have y := of_decide_eq_true y
                refine ⟨_, rfl, 1, rfl, _, rfl, cd, rfl, (by rw [sizeLine_eq]; omega), _, _, rfl, rfl, (by rw [sizeLine_eq, len_codes, hcl3, List.length_dropLast, ← len_codes]; show _ + 3 ≤ _; omega), _, rfl, _, rfl, _, _, rfl, rfl, _, _, _, _, rfl, rfl, SqL.of hp3, atI_nat (j := e + 1) gc, _, _, rfl, rfl, ?_, ?_⟩
                · rw [sizeLine_eq, len_codes (_ ++ _), codes_app, List.length_append, hcl3, List.length_dropLast, ← len_codes]
                  show _ + 3 + _ ≤ _
                  omega
                · refine h2 _ _ ⟨rfl, _, rfl, ?_⟩
                  rw [codes_app, codes_app, hcl3]
                  unfold Tok.cdOf
                  rw [if_pos y]
                  rfl
              · have y := of_decide_eq_false y
                refine ⟨_, rfl, _, rfl, _, rfl, _, _, rfl, rfl, _, _, _, _, rfl, rfl, SqL.of hp3, atI_nat (j := e + 1) gc, _, _, rfl, rfl, (by rw [sizeLine_eq]; show 3 + _ ≤ _; omega), ?_⟩
                refine ⟨_, _, rfl, rfl, ?_, ?_⟩
                · rw [sizeLine_eq, len_codes (_ ++ _), codes_app, List.length_append, ← len_codes yc]
                  show _ + (3 + _) ≤ _
                  omega
                · refine h2 _ _ ⟨rfl, _, rfl, ?_⟩
                  rw [codes_app, codes_app]
                  unfold Tok.cdOf
                  rw [if_neg y, List.append_assoc]
                  rfl
            rintro _ _ ⟨rfl, cd2, rfl, hcd2⟩
            refine ⟨_, rfl, _, _, rfl, rfl, ?_⟩
            refine ⟨⟨e + 2, cd2, tx ++ [codesOf tt], _, rfl, hp3, ha3, b3, by rw [List.length_append]; show tx.length + 1 ≤ _; omega, ?_⟩, ?_⟩
            · by_cases hl : e + 2 < ys.length
              · have hR2 : Tok.joinQ (ps.drop (e + 1)) = codesOf yc ++ 39 :: Tok.joinQ (ps.drop (e + 2)) := join_more (by omega) pc
                have hR2l := congrArg List.length hR2
                rw [List.length_append, List.length_cons] at hR2l
                refine .inl ⟨hl, by omega, ?_, ?_⟩
                · rw [hcd2]
                  have : (Tok.cdOf (codesOf cd) (codesOf yc)).length ≤ (codesOf cd).length + 3 + (codesOf yc).length := by
                    unfold Tok.cdOf
                    split <;> simp only [List.length_append, List.length_cons, List.length_nil, List.length_dropLast] <;> omega
                  omega
                · rw [hst, Tok.step_mid hb (hdrop.trans hR2) nc, hcd2, Option.map_map]
                  congr 1
                  funext r
                  show (r.1, tx ++ codesOf tt :: r.2) = (r.1, tx ++ [codesOf tt] ++ r.2)
                  simp
              · refine .inr ⟨by omega, ?_⟩
                rw [hst, Tok.step_end hb (hdrop.trans (join_one (by omega) pc)) nc, hcd2]
                rfl
            · show ys.length - ((e : Int) + 2).toNat < ys.length - (j : Int).toNat
              omega
      · have c : ys.length ≤ j := by
          rcases Nat.lt_or_ge j ys.length with h | h
          · exact absurd (decide_eq_true (by rw [hmlen]; omega)) c
          · exact h
        obtain ⟨_, hst⟩ := hcase.resolve_left (fun z => by omega)
        refine ⟨_, rfl, .inl ⟨rfl, _, SqL.of ha2⟩, ap, _, rfl, rfl, ha2, ?_⟩
        refine ⟨_, rfl, hok cd tx _ hst ?_ (b2.trans Bu.upd)⟩
        rw [upd_same]
        unfold tsV
        rw [List.map_reverse]
end

end My

end
section
set_option Elab.async false
set_option linter.all false
set_option maxRecDepth 100000
set_option maxHeartbeats 2000000
namespace My
open PySem PySem.Spec PyProof.Rows L2 TL

theorem has_none {z : Str} {c : Nat} (h : (!(Builtin.Str.occurrences z ⟨#[c]⟩ 0 z.length 1).isEmpty) = false) : c ∉ codesOf z := by
  rw [Bool.not_eq_false'] at h
  rcases PySem.StrLaws.occ_head_from z ⟨#[c]⟩ 0 1 (Nat.le_refl 1) with ⟨h0, hn⟩ | ⟨k, rr, h0, _⟩
  · intro hc
    obtain ⟨k, hk, e⟩ := List.mem_iff_getElem.mp hc
    refine hn k (Nat.zero_le _) ((at_iff (x := z) (y := ⟨#[c]⟩) (by show [c] ≠ []; simp) k).mpr ?_)
    unfold pre
    show ((codesOf z).drop k).take 1 == [c]
    rw [List.drop_eq_getElem_cons hk, e]
    show [c] == [c]
    simp
  · rw [h0] at h
    cases h
def spPlain (K : PySem.W.Frag) : Sp := fun vs H Q _ => ∃ src : Str, vs = [.str src] ∧ Tok.isSource (codesOf src) = true ∧ (34 ∉ codesOf src → Nd (codesOf src)) ∧
  (∀ H', Same H H' → Q .non H') ∧ (∀ ws, Tok.words (codesOf src) = .ok ws → ∀ p H', Rows K H H' p (ws.map dW) → Q (.ref p) H')
abbrev s_plain_words : Stmt := top 14
theorem if_or3 {cA cB cC : TT} {t u : TS} {D : Ends} {σ : L2.St} {H : Hp} {bA bB bC : Bool} (hA : ∀ Q : Bool → Hp → Prop, Q bA H → cA σ H Q) (hB : ∀ Q : Bool → Hp → Prop, Q bB H → cB σ H Q) (hC : ∀ Q : Bool → Hp → Prop, Q bC H → cC σ H Q) (ht : t D σ H) (hu : bA = false → bB = false → bC = false → u D σ H) : tIfS (tOr cA (tOr cB cC)) t u D σ H := by
  refine hA _ ?_
  cases bA with
  | true => exact iteT (iteT ht)
  | false =>
    refine iteF (hB _ ?_)
    cases bB with
    | true => exact iteT (iteT ht)
    | false =>
      refine iteF (hC _ ?_)
      cases bC with
      | true => exact iteT ht
      | false => exact iteF (hu rfl rfl rfl)
section
variable {P : Program} {w : World} {K : PySem.W.Frag} {mg : Str → Option Value} {base : Heap}
variable {f_set_apart f_put_string f_is_symbol f_put_keywords f_surely_binds f_put_other f_words_in f_without_strings : Addr} {fd_set_apart fd_put_string fd_is_symbol fd_put_keywords fd_surely_binds fd_put_other fd_words_in fd_without_strings : FuncData}
/-- the defs and values of plainwords -/
structure Plain (K : PySem.W.Frag) (w : World) (mg : Str → Option Value) (d : Addr) (f_set_apart f_put_string f_is_symbol f_put_keywords f_surely_binds f_put_other f_words_in f_without_strings : Addr) (fd_set_apart fd_put_string fd_is_symbol fd_put_keywords fd_surely_binds fd_put_other fd_words_in fd_without_strings : FuncData) : Prop where
  F_set_apart : FnP K "set_apart" s_set_apart f_set_apart fd_set_apart
  g_set_apart : mg "set_apart" = some (.ref f_set_apart)
  F_put_string : FnP K "put_string" s_put_string f_put_string fd_put_string
  g_put_string : mg "put_string" = some (.ref f_put_string)
  F_is_symbol : FnP K "is_symbol" s_is_symbol f_is_symbol fd_is_symbol
  g_is_symbol : mg "is_symbol" = some (.ref f_is_symbol)
  F_put_keywords : FnP K "put_keywords" s_put_keywords f_put_keywords fd_put_keywords
  g_put_keywords : mg "put_keywords" = some (.ref f_put_keywords)
  F_surely_binds : FnP K "surely_binds" s_surely_binds f_surely_binds fd_surely_binds
  g_surely_binds : mg "surely_binds" = some (.ref f_surely_binds)
  F_put_other : FnP K "put_other" s_put_other f_put_other fd_put_other
  g_put_other : mg "put_other" = some (.ref f_put_other)
  F_words_in : FnP K "words_in" s_words_in f_words_in fd_words_in
  g_words_in : mg "words_in" = some (.ref f_words_in)
  F_without_strings : FnP K "without_strings" s_without_strings f_without_strings fd_without_strings
  g_without_strings : mg "without_strings" = some (.ref f_without_strings)
  g_len : mg "len" = none
  g_all : mg "all" = none
  g_int : mg "int" = none
  g_FIXED : mg "FIXED" = some (.ref d)
  hF : FixAt K w d
  g_VK : TupAt K mg "VALUE_KINDS" vkinds
  g_LN : ∃ t, mg "LONGEST_NAME" = some (.int 40 t)
  g_MD : ∃ t, mg "MOST_DIGITS" = some (.int 60 t)
  g_AR : ∃ t, mg "ARRAY" = some (.str ⟨#[64]⟩ t)
  g_ST : ∃ t, mg "STRING" = some (.str ⟨#[123]⟩ t)
  g_SY : ∃ t, mg "SYMBOL" = some (.str ⟨#[125]⟩ t)
theorem sc_plain_words : FnScope ["source", "texts", "code"] ["source"] (defScope s_plain_words) := ⟨rfl, rfl, rfl, by decide +kernel, rfl, by decide +kernel, by decide +kernel⟩
theorem ok_plain_words {f d : Addr} {fd : FuncData} (F : FnP K "plain_words" s_plain_words f fd) (M : Plain K w mg d f_set_apart f_put_string f_is_symbol f_put_keywords f_surely_binds f_put_other f_words_in f_without_strings fd_set_apart fd_put_string fd_is_symbol fd_put_keywords fd_surely_binds fd_put_other fd_words_in fd_without_strings) : FnOk P w K mg base CX0 5 f fd ["source"] (spPlain K) := by
  obtain ⟨F_set_apart, g_set_apart, F_put_string, g_put_string, F_is_symbol, g_is_symbol, F_put_keywords, g_put_keywords, F_surely_binds, g_surely_binds, F_put_other, g_put_other, F_words_in, g_words_in, F_without_strings, g_without_strings, g_len, g_all, g_int, g_FIXED, hF, g_VK, g_LN, g_MD, g_AR, g_ST, g_SY⟩ := M
  have G_words_in : FnOk P w K mg base CX0 4 f_words_in fd_words_in _ (spWordsIn K) := ok_words_in F_words_in F_set_apart g_set_apart F_put_other F_put_string F_is_symbol F_put_keywords F_surely_binds g_put_other g_put_string g_is_symbol g_put_keywords g_surely_binds g_len g_all g_int g_FIXED hF g_VK g_LN g_MD g_AR g_ST g_SY
  have G_without_strings : FnOk P w K mg base CX0 2 f_without_strings fd_without_strings _ spStrip := ok_without_strings F_without_strings g_len
  have b_words_in : Binds K fd_words_in ["source", "code", "texts"] [] := F_words_in.bindsN fun _ _ _ _ _ _ us hl => match us, hl with | [_, _, _], _ => rfl
  have k_words_in := F_words_in.kp
  have b_without_strings : Binds K fd_without_strings ["source", "texts"] [] := F_without_strings.bindsN fun _ _ _ _ _ _ us hl => match us, hl with | [_, _], _ => rfl
  have k_without_strings := F_without_strings.kp

  obtain ⟨t3, g_ARRAY⟩ := g_AR
  obtain ⟨t4, g_STRING⟩ := g_ST
  obtain ⟨t5, g_SYMBOL⟩ := g_SY
  have r_ARRAY : RelV (.str ⟨#[64]⟩) (.str ⟨#[64]⟩ t3) := ⟨t3, rfl⟩
  have r_STRING : RelV (.str ⟨#[123]⟩) (.str ⟨#[123]⟩ t4) := ⟨t4, rfl⟩
  have r_SYMBOL : RelV (.str ⟨#[125]⟩) (.str ⟨#[125]⟩ t5) := ⟨t5, rfl⟩
  refine F.ok sc_plain_words (fun vs H Q E h => ?_) (fun cdv A outer s H vs Q E hr h => ⟨_, PSs.nox
    (pss_cons (ps_if (PW.pt (pw_or (pt_cmpR op_in_str (pe_glob rfl g_ARRAY r_ARRAY) (pv 0) (by rfl)) (pw_or (pt_cmpR op_in_str pe_str (pv 0) (by rfl)) (pw_or1 (pt_cmpR op_in_str pe_str (pv 0) (by rfl)))))) (pss_one (ps_ret pe_non)) pss_nil)
      (pss_cons (ps_if (pt_cmpR op_notin_str pe_str (pv 0) (by rfl)) (pss_one (ps_ret (pe_call G_words_in (hr.mono (by decide)) rfl g_words_in k_words_in b_words_in .nil pass0 (pa_cons (pv 0) (pa_cons (pv 0) (pa_cons (pe_lst pa_nil) pa_nil)))))) pss_nil)
      (pss_cons (ps_if (PW.pt (pw_or (pt_cmpR op_in_str (pe_glob rfl g_STRING r_STRING) (pv 0) (by rfl)) (pw_or1 (pt_cmpR op_in_str (pe_glob rfl g_SYMBOL r_SYMBOL) (pv 0) (by rfl))))) (pss_one (ps_ret pe_non)) pss_nil)
      (pss_cons (ps_set (i := 1) sc_plain_words.nd rfl (Or.inl rfl) (pe_lst pa_nil))
      (pss_cons (ps_set (i := 2) sc_plain_words.nd rfl (Or.inl rfl) (pe_call G_without_strings (hr.mono (by decide)) rfl g_without_strings k_without_strings b_without_strings .nil pass0 (pa_cons (pv 0) (pa_cons (pv 1) pa_nil))))
      (pss_one (ps_ret (pe_ifExp (pt_cmpR op_isN (pv 2) pe_non (nomark _)) pe_non (pe_call G_words_in (hr.mono (by decide)) rfl g_words_in k_words_in b_words_in .nil pass0 (pa_cons (pv 0) (pa_cons (pv 2) (pa_cons (pv 1) pa_nil)))))))))))), ?_⟩)
  · obtain ⟨src, rfl, _⟩ := h
    rfl
  · obtain ⟨src, rfl, hsrc, hnd, hnon, hok⟩ := h
    have e39 : (Str.ofString "'") = ⟨#[39]⟩ := by decide +kernel
    have e34 : (Str.ofString "\"") = ⟨#[34]⟩ := by decide +kernel
    have e95 : (Str.ofString "_") = ⟨#[95]⟩ := by decide +kernel
    rw [e39, e34, e95]
    have hs : (∀ c ∈ codesOf src, c < 128 ∧ (c = 10 ∨ 32 ≤ c)) ∧ (codesOf src).length ≤ 2000 := by
      unfold Tok.isSource at hsrc
      rw [Bool.and_eq_true] at hsrc
      refine ⟨fun c hc => ?_, of_decide_eq_true hsrc.2⟩
      have := List.all_eq_true.mp hsrc.1 c hc
      simp only [Bool.or_eq_true, beq_iff_eq, Bool.and_eq_true, decide_eq_true_eq] at this
      omega
    obtain ⟨hch, hL⟩ := hs
    refine if_or3 (bA := !(Builtin.Str.occurrences src ⟨#[64]⟩ 0 src.length 1).isEmpty) (bB := !(Builtin.Str.occurrences src ⟨#[95]⟩ 0 src.length 1).isEmpty) (bC := !(Builtin.Str.occurrences src ⟨#[34]⟩ 0 src.length 1).isEmpty)
      (fun Q q => ⟨_, rfl, _, _, rfl, rfl, _, rfl, q⟩) (fun Q q => ⟨_, rfl, _, _, rfl, rfl, _, rfl, q⟩) (fun Q q => ⟨_, rfl, _, _, rfl, rfl, _, rfl, q⟩) (hnon _ (Same.refl H)) (fun n1 n2 n3 => ?_)
    have n64 := has_none n1
    have n95 := has_none n2
    have n34 := has_none n3
    have hA : Asc (codesOf src) := fun c hc => ⟨(hch c hc).1, fun e => n95 (e ▸ hc)⟩
    dsimp only [tNext, tSeq]
    refine if_one (bA := !(!(Builtin.Str.occurrences src ⟨#[39]⟩ 0 src.length 1).isEmpty)) (fun Q q => ⟨_, rfl, _, _, rfl, rfl, _, rfl, q⟩) (fun y => ?_) (fun n4 => ?_)
    · have n39 : 39 ∉ codesOf src := has_none (by cases h : (!(Builtin.Str.occurrences src ⟨#[39]⟩ 0 src.length 1).isEmpty) with | false => rfl | true => rw [h] at y; cases y)
      refine ⟨_, rfl, _, rfl, (by show 0 ≤ sizeLine; exact Nat.zero_le _), fun ap np => ?_⟩
      exact ⟨H, ap, src, src, [], rfl, same_upd np, np, upd_same, Tok.chunks_of (Tok.strip_last _ n39), hA, n64, hnd n34, .inl rfl, hL, by omega, hch, hnon, hok⟩
    dsimp only [tNext, tSeq]
    refine if_or (bA := !(Builtin.Str.occurrences src ⟨#[123]⟩ 0 src.length 1).isEmpty) (bB := !(Builtin.Str.occurrences src ⟨#[125]⟩ 0 src.length 1).isEmpty) (fun Q q => ⟨_, rfl, _, _, rfl, rfl, _, rfl, q⟩) (fun Q q => ⟨_, rfl, _, _, rfl, rfl, _, rfl, q⟩) (fun _ => hnon _ (Same.refl H)) (fun n5 n6 => ?_)
    have n123 := has_none n5
    have n125 := has_none n6
    dsimp only [tNext, tSeq]
    refine ⟨(by show 0 ≤ sizeLine; exact Nat.zero_le _), fun ap np => ?_⟩
    have same : ∀ H', Bu ap (upd H ap (.lst [])) H' → Same H H' := fun H' b => fun a o e => b a o (fun z => by rw [z, np] at e; cases e) (same_upd np a o e)
    refine ⟨_, rfl, _, rfl, ap, src, rfl, upd_same, hL, fun H' b => ?_, fun code ts H' hst hap b => ?_⟩
    · refine ⟨_, rfl, rfl, _, rfl, ?_⟩
      refine ite2 (fun _ => hnon _ (same _ b)) (fun y => absurd (decide_eq_true rfl) y)
    · refine ⟨_, rfl, rfl, _, rfl, ?_⟩
      refine ite2 (fun y => absurd (of_decide_eq_true y) (by intro z; cases z)) (fun _ => ?_)
      refine ⟨_, rfl, _, rfl, _, rfl, ?_⟩
      have hst : Tok.strip (codesOf src).length (codesOf src) = some (codesOf code, ts) := hst
      obtain ⟨c1, c2⟩ := Tok.strip_all (P := fun c => c < 128 ∧ (c = 10 ∨ 32 ≤ c)) (by decide) (by decide) (by decide) _ _ _ _ hch hst
      exact ⟨H, ap, src, code, ts, rfl, same _ b, np, hap, Tok.chunks_of hst, hA, n64, hnd n34, .inr ⟨n123, n125⟩, hL, by omega, c2, hnon, hok⟩
end

end My

end
section
set_option Elab.async false
set_option linter.all false
set_option maxRecDepth 100000
set_option maxHeartbeats 2000000
namespace My
open PySem PySem.Spec PyProof.Rows L2
abbrev s_words_of : Stmt := top 26
abbrev s_parted : Stmt := top 27
/-- the lists of words and of parentheses, under way -/
structure Wk (K : PySem.W.Frag) (H0 H' : Hp) (aw ap : Addr) (ws : List Tok.W) (par : List Bool) : Prop where
  old : Same H0 H'
  newW : H0 aw = none
  newP : H0 ap = none
  ne : aw ≠ ap
  at_ : ∃ xs D, H' aw = some (.lst xs) ∧ DpAll K D xs (ws.map dW) ∧ ∀ a o, D a = some o → H' a = some o ∧ a ≠ aw ∧ a ≠ ap ∧ H0 a = none
  par : H' ap = some (.lst (par.map pS))
theorem Wk.later {K : PySem.W.Frag} {H0 H1 H2 : Hp} {aw ap : Addr} {ws : List Tok.W} {par : List Bool} (w : Wk K H0 H1 aw ap ws par) (e : Same H1 H2) : Wk K H0 H2 aw ap ws par := by
  obtain ⟨xs, D, h1, h2, h3⟩ := w.at_
  exact ⟨w.old.trans e, w.newW, w.newP, w.ne, ⟨xs, D, e _ _ h1, h2, fun a o z => ⟨e _ _ (h3 a o z).1, (h3 a o z).2⟩⟩, e _ _ w.par⟩
theorem Wk.note {K : PySem.W.Frag} {H0 H1 H2 : Hp} {aw ap : Addr} {ws : List Tok.W} {par par' : List Bool} (w : Wk K H0 H1 aw ap ws par) (h : H2 ap = some (.lst (par'.map pS))) (e : ∀ b o, b ≠ ap → H1 b = some o → H2 b = some o) : Wk K H0 H2 aw ap ws par' := by
  obtain ⟨xs, D, h1, h2, h3⟩ := w.at_
  refine ⟨fun a o z => e a o (fun y => by rw [y, w.newP] at z; cases z) (w.old a o z), w.newW, w.newP, w.ne, ⟨xs, D, e _ _ w.ne h1, h2, fun a o z => ?_⟩, h⟩
  obtain ⟨g1, g2, g3, g4⟩ := h3 a o z
  exact ⟨e _ _ g3 g1, g2, g3, g4⟩
/-- a word more: its tuple is new at q -/
theorem Wk.more {K : PySem.W.Frag} {H0 H1 : Hp} {aw ap q : Addr} {ws : List Tok.W} {par : List Bool} {w : Tok.W} {xs : List V} (W : Wk K H0 H1 aw ap ws par) (hx : H1 aw = some (.lst xs)) (hq : H1 q = none) (o : HO) (ho : o = .tup [.str (kdS w.1), vVal w.2.1, .int (w.2.2 : Int)]) :
    Wk K H0 (upd (upd H1 q o) aw (.lst (xs ++ [.ref q]))) aw ap (ws ++ [w]) par := by
  subst ho
  obtain ⟨xs', D, h1, h2, h3⟩ := W.at_
  rw [hx] at h1
  injection h1 with h1
  injection h1 with h1
  subst h1
  have qa : q ≠ aw := fun e => by rw [e, hx] at hq; cases hq
  have qp : q ≠ ap := fun e => by rw [e, W.par] at hq; cases hq
  have q0 : H0 q = none := W.old.free hq
  have nD : D q = none := by
    cases z : D q with
    | none => rfl
    | some o => rw [(h3 q o z).1] at hq; cases hq
  have sD : Same D (upd D q (.tup [.str (kdS w.1), vVal w.2.1, .int (w.2.2 : Int)])) := fun b o z => by rw [upd_ne (ne_of_none z nD)]; exact z
  refine ⟨fun a o z => ?_, W.newW, W.newP, W.ne, ⟨xs ++ [.ref q], upd D q (.tup [.str (kdS w.1), vVal w.2.1, .int (w.2.2 : Int)]), upd_same, ?_, fun a o z => ?_⟩, ?_⟩
  · have n1 : a ≠ aw := fun e => by rw [e, W.newW] at z; cases z
    have n2 : a ≠ q := fun e => by rw [e, q0] at z; cases z
    rw [upd_ne n1, upd_ne n2]
    exact W.old a o z
  · rw [List.map_append]
    refine dpAll_append (dp_monoAll sD _ _ h2) (.cons ?_ .nil)
    unfold dW
    refine .tup (SqT.of upd_same) (.cons (.str _) (.cons ?_ (.cons (.int _) .nil)))
    cases w.2.1 with
    | s t => exact .str _
    | i n => exact .int _
  · by_cases c : a = q
    · subst c
      rw [upd_same] at z
      rw [upd_ne qa, upd_same]
      exact ⟨z, qa, qp, q0⟩
    · rw [upd_ne c] at z
      obtain ⟨g1, g2, g3, g4⟩ := h3 a o z
      rw [upd_ne g2, upd_ne c]
      exact ⟨g1, g2, g3, g4⟩
  · rw [upd_ne (Ne.symm W.ne), upd_ne (Ne.symm qp)]
    exact W.par
def spParted (K : PySem.W.Frag) (C : Addr) : Sp := fun vs H Q E => ∃ z, vs = [.str z] ∧ Tok.isSource (codesOf z) = true ∧ (∀ ws, Tok.words (codesOf z) = .ok ws → ∀ p H', Rows K H H' p (ws.map dW) → Q (.ref p) H') ∧
      (∀ n, Tok.words (codesOf z) = .error n → ∀ d H', Same H H' → H' d = some (.xd [("place", .int (n : Int))]) → E (.ref C) (some d) H')
theorem Rows.from {K : PySem.W.Frag} {H H1 H2 : Hp} {p : Addr} {ds : List PyData} (R : Rows K H1 H2 p ds) (e : Same H H1) : Rows K H H2 p ds := by
  obtain ⟨h1, h2, vs, D, h3, h4, h5⟩ := R
  exact ⟨e.trans h1, e.free h2, vs, D, h3, h4, fun a o z => ⟨(h5 a o z).1, (h5 a o z).2.1, e.free (h5 a o z).2.2⟩⟩
section
variable {P : Program} {w : World} {K : PySem.W.Frag} {mg : Str → Option Value} {base : Heap} {C fI : Addr} {qual : Str}
variable {fN fK fE fS fL fY fA fT : Addr} {fdN fdK fdE fdS fdL fdY fdA fdT : FuncData}
theorem sc_parted : FnScope ["source", "words", "parens", "place", "kind", "value", "end"] ["source"] (defScope s_parted) := ⟨rfl, rfl, rfl, by decide +kernel, rfl, by decide +kernel, by decide +kernel⟩
theorem ok_parted {f fG fM fB fP : Addr} {fd fdG fdM fdB fdP : FuncData} (F : FnP K "parted" s_parted f fd) (M : Mods K mg fN fK fE fS fL fY fA fT fdN fdK fdE fdS fdL fdY fdA fdT) (T : PySem.SupX.SupTxt P K mg qual C fI) (gC : mg "BadSource" = some (.ref C))
    (FG : FnP K "past_gap" s_past_gap fG fdG) (FM : FnP K "word_at" s_word_at fM fdM) (FB : FnP K "minus_binds" s_minus_binds fB fdB) (FP : FnP K "note_paren" s_note_paren fP fdP)
    (g_past_gap : mg "past_gap" = some (.ref fG)) (g_word_at : mg "word_at" = some (.ref fM)) (g_minus_binds : mg "minus_binds" = some (.ref fB)) (g_note_paren : mg "note_paren" = some (.ref fP))
    (g_VK : TupAt K mg "VALUE_KINDS" vkinds) :
    FnOk P w K mg base (L2.CX P w) 15 f fd ["source"] (spParted K C) := by
  have g_len := M.g_len
  have G_past_gap : FnOk P w K mg base (L2.CX P w) 4 fG fdG _ (spGap C) := ok_past_gap FG M.g_len T gC
  have G_word_at : FnOk P w K mg base (L2.CX P w) 5 fM fdM _ (spWordAt C) := ok_word_at FM M T gC
  have G_minus_binds : FnOk P w K mg base CX0 2 fB fdB _ (spBinds K) := ok_minus_binds FB g_VK
  have G_note_paren : FnOk P w K mg base CX0 2 fP fdP _ spNote := ok_note_paren FP
  have b_past_gap : Binds K fdG ["text", "place"] [] := FG.bindsN fun _ _ _ _ _ _ us hl => match us, hl with | [_, _], _ => rfl
  have b_word_at : Binds K fdM ["text", "place", "binds"] [] := FM.bindsN fun _ _ _ _ _ _ us hl => match us, hl with | [_, _, _], _ => rfl
  have b_minus_binds : Binds K fdB ["words", "parens"] [] := FB.bindsN fun _ _ _ _ _ _ us hl => match us, hl with | [_, _], _ => rfl
  have b_note_paren : Binds K fdP ["parens", "sign"] [] := FP.bindsN fun _ _ _ _ _ _ us hl => match us, hl with | [_, _], _ => rfl
  have k_past_gap := FG.kp
  have k_word_at := FM.kp
  have k_minus_binds := FB.kp
  have k_note_paren := FP.kp
  refine F.ok sc_parted (fun vs H Q E h => ?_) (fun cdv A outer s H vs Q E hr h => ⟨_,
    (pss_cons (ps_set (i := 1) sc_parted.nd rfl (Or.inl rfl) (pe_lst pa_nil))
      (pss_cons (ps_set (i := 2) sc_parted.nd rfl (Or.inl rfl) (pe_lst pa_nil))
      (pss_cons (ps_set (i := 3) sc_parted.nd rfl (Or.inl rfl) (pe_call G_past_gap (hr.mono (by decide)) rfl g_past_gap k_past_gap b_past_gap .nil (passes_call (takes_of rfl rfl rfl rfl) (fun _ _ _ _ h => h)) (pa_cons (pv 0) (pa_cons pe_int pa_nil))))
      (pss_cons (ps_while (passes_of rfl) (pt_cmpR op_lt (pv 3) (pe_callB call_len_str (by rfl) g_len PySem.boot_len (pa_cons (pv 0) pa_nil)) (nomark _)) (pss_cons (ps_asg (pe_call G_word_at (hr.mono (by decide)) rfl g_word_at k_word_at b_word_at .nil (passes_call (takes_of rfl rfl rfl rfl) (fun _ _ _ _ h => h)) (pa_cons (pv 0) (pa_cons (pv 3) (pa_cons (pe_call G_minus_binds (hr.mono (by decide)) rfl g_minus_binds k_minus_binds b_minus_binds .nil pass0 (pa_cons (pv 1) (pa_cons (pv 2) pa_nil))) pa_nil)))) (pg_tup rfl (pgs_cons (pg_name (i := 4) sc_parted.nd rfl (Or.inl rfl)) (pgs_cons (pg_name (i := 5) sc_parted.nd rfl (Or.inl rfl)) (pgs_cons (pg_name (i := 6) sc_parted.nd rfl (Or.inl rfl)) pgs_nil)))))
      (pss_cons (ps_expr (pe_bm PySem.F.plainAttrs_list PySem.F.slot_list_append PySem.F.type_list_append mt_append (pv 1) (pa_cons (pe_tup (pa_cons (pv 4) (pa_cons (pv 5) (pa_cons (pv 3) pa_nil)))) pa_nil)))
      (pss_cons (ps_if (pt_cmpR op_eq (pv 4) pe_str (nomark _)) (pss_one (ps_expr (pe_call G_note_paren (hr.mono (by decide)) rfl g_note_paren k_note_paren b_note_paren .nil pass0 (pa_cons (pv 2) (pa_cons (pv 5) pa_nil))))) pss_nil)
      (pss_one (ps_set (i := 3) sc_parted.nd rfl (Or.inl rfl) (pe_call G_past_gap (hr.mono (by decide)) rfl g_past_gap k_past_gap b_past_gap .nil (passes_call (takes_of rfl rfl rfl rfl) (fun _ _ _ _ h => h)) (pa_cons (pv 0) (pa_cons (pv 6) pa_nil)))))))))
      (pss_one (ps_ret (pv 1))))))), ?_⟩)
  · obtain ⟨v, rfl, _⟩ := h
    rfl
  · obtain ⟨z, rfl, hsrc, hok, herr⟩ := h
    have hz : Src z := hsrc
    have hs := sz_src hz
    have hl := hz.len
    refine ⟨(by show 0 ≤ sizeLine; exact Nat.zero_le _), fun aw nw => ⟨(by show 0 ≤ sizeLine; exact Nat.zero_le _), fun ap np => ?_⟩⟩
    have ne : aw ≠ ap := fun e => by rw [← e, upd_same] at np; cases np
    have np0 : H ap = none := by rw [upd_ne (Ne.symm ne)] at np; exact np
    have W0 : Wk K H (upd (upd H aw (.lst [])) ap (.lst [])) aw ap [] [] :=
      ⟨(same_upd nw).trans (same_upd np), nw, np0, ne, ⟨[], fun _ => none, by rw [upd_ne ne, upd_same], .nil, fun a o z => by cases z⟩, upd_same⟩
    generalize upd (upd H aw (.lst [])) ap (.lst []) = H2 at W0 ⊢
    have hw0 : Tok.words (codesOf z) = _ := toks_aft (codesOf z).length (codesOf z) 0 [] none
    have stopE : ∀ (n : Nat) (H5 : Hp), Tok.words (codesOf z) = .error n → Same H H5 → Bad C H5 E (n : Int) := fun n H5 e s d H' s' h => herr n e d H' (s.trans s') h
    refine ⟨_, rfl, z, 0, rfl, hz, Nat.zero_le _, ?_⟩
    rw [List.drop_zero]
    cases hg : gp (codesOf z) with
    | error n =>
      rw [hg] at hw0
      exact stopE (0 + n) H2 hw0 W0.old
    | ok n =>
      rw [hg] at hw0
      have hw0 : Tok.words (codesOf z) = aft (codesOf z).length ((codesOf z).drop n) (0 + n) [] none := hw0
      rw [Nat.zero_add] at hw0
      have hn := Tok.gap_le _ _ _ hg
      show tWhile _ _ _ [some (.str z), some (.ref aw), some (.ref ap), some (.int ((0 + n : Nat) : Int)), none, none, none] H2
      rw [Nat.zero_add]
      refine while_by (fun σ H' => ∃ (e : Nat) (ws : List Tok.W) (par : List Bool) (f : Nat) (x y u : Option V), σ = [some (.str z), some (.ref aw), some (.ref ap), some (.int (e : Int)), x, y, u] ∧ Wk K H H' aw ap ws par ∧ e ≤ (codesOf z).length ∧ ws.length ≤ e ∧ par.length ≤ e ∧ ((codesOf z).drop e).length ≤ f ∧
          Tok.words (codesOf z) = (match aft f ((codesOf z).drop e) e par (lastOf ws) with | .ok r => .ok (ws ++ r) | .error q => .error q))
        (fun σ _ => match σ with | [_, _, _, some (.int e), _, _, _] => (codesOf z).length - e.toNat | _ => 0)
        ⟨n, [], [], (codesOf z).length, none, none, none, rfl, W0, hn, Nat.zero_le _, Nat.zero_le _, by rw [List.length_drop]; omega, by rw [hw0, show lastOf [] = none from rfl]; cases aft (codesOf z).length ((codesOf z).drop n) n [] none <;> rfl⟩ ?_ ?_
      · rintro _ H3 ⟨e, ws, par, f, x, y, u, rfl, W, he, hwl, hpl, hf, hw⟩
        refine ⟨_, rfl, _, rfl, z, rfl, hs, _, _, rfl, rfl, _, rfl, ?_⟩
        refine ite2 (fun c => ?_) (fun c => ?_)
        · have c : (e : Int) < (z.length : Int) := of_decide_eq_true c
          rw [len_codes] at c
          have hlt : e < (codesOf z).length := by omega
          have hld : ((codesOf z).drop e).length = (codesOf z).length - e := List.length_drop
          have hnil : (codesOf z).drop e ≠ [] := fun h => by rw [h, List.length_nil] at hld; omega
          obtain ⟨xs, D, hx, hD, hD2⟩ := W.at_
          have hDH : DpAll K H3 xs (ws.map dW) := dp_monoAll (fun a o z => (hD2 a o z).1) _ _ hD
          have hxl : xs.length = ws.length := by rw [dpAll_length hD, List.length_map]
          refine ⟨_, rfl, _, rfl, _, rfl, _, rfl, aw, ap, xs, ws, par, rfl, hx, hDH, W.par, by omega, fun H4 s4 => ?_⟩
          refine ⟨z, e, _, rfl, hz, hlt, ?_⟩
          have ha : aft f ((codesOf z).drop e) e par (lastOf ws) = _ := if_neg hnil
          cases hwd : Tok.word (Tok.binds par (lastOf ws)) ((codesOf z).drop e) with
          | none =>
            rw [hwd] at ha
            rw [ha] at hw
            exact stopE e H4 hw (W.old.trans s4)
          | some w0 =>
            obtain ⟨k, v, m⟩ := w0
            rw [hwd] at ha
            have ha : aft f ((codesOf z).drop e) e par (lastOf ws) = (match Tok.toks f (((codesOf z).drop e).drop m) (e + m) (Tok.note par k v) (some (k, v)) with | .ok ws => .ok ((k, v, e) :: ws) | .error q => .error q) := ha
            rw [List.drop_drop] at ha
            obtain ⟨wl, wsg⟩ := word_le hwd
            have wp := Tok.word_pos hwd
            intro r H5 s5 n5 h5
            have W5 := W.later (s4.trans s5)
            refine ⟨_, _, rfl, SqT.of h5, rfl, _, _, rfl, _, _, rfl, _, _, rfl, rfl, ?_⟩
            have hx5 : H5 aw = some (.lst xs) := (s4.trans s5) _ _ hx
            refine ⟨_, rfl, .inl ⟨rfl, _, SqL.of hx5⟩, _, rfl, _, rfl, _, rfl, (by show 3 ≤ sizeLine; decide), fun q nq => ?_⟩
            have W6 := W5.more (w := (k, v, e)) hx5 nq _ rfl
            have qa : aw ≠ q := fun e => by rw [← e, hx5] at nq; cases nq
            refine ⟨aw, xs, .ref q, rfl, rfl, by rw [upd_ne qa]; exact hx5, by rw [sizeLine_eq]; omega, ?_⟩
            have fin : ∀ H7, Wk K H H7 aw ap (ws ++ [(k, v, e)]) (Tok.note par k v) →
                (tAsg (tCall (spGap C) [] E (tCons (tVar 0) (tCons (tVar 6) tNil))) (gName 3))
                  { nx := fun σ' H' => (∃ (e : Nat) (ws : List Tok.W) (par : List Bool) (f : Nat) (x y u : Option V), σ' = [some (.str z), some (.ref aw), some (.ref ap), some (.int (e : Int)), x, y, u] ∧ Wk K H H' aw ap ws par ∧ e ≤ (codesOf z).length ∧ ws.length ≤ e ∧ par.length ≤ e ∧ ((codesOf z).drop e).length ≤ f ∧
                      Tok.words (codesOf z) = (match aft f ((codesOf z).drop e) e par (lastOf ws) with | .ok r => .ok (ws ++ r) | .error q => .error q)) ∧
                      (match σ' with | [_, _, _, some (.int e), _, _, _] => (codesOf z).length - e.toNat | _ => 0) < (codesOf z).length - (e : Int).toNat, rt := Q }
                  [some (.str z), some (.ref aw), some (.ref ap), some (.int (e : Int)), some (.str (kdS k)), some (vVal v), some (.int ((e + m : Nat) : Int))] H7 := by
              intro H7 W7
              refine ⟨_, rfl, _, rfl, z, e + m, rfl, hz, by omega, ?_⟩
              obtain ⟨f', rfl⟩ : ∃ f', f = f' + 1 := ⟨f - 1, by omega⟩
              rw [toks_aft] at ha
              cases hg2 : gp ((codesOf z).drop (e + m)) with
              | error n2 =>
                rw [hg2] at ha
                have ha : aft (f' + 1) ((codesOf z).drop e) e par (lastOf ws) = .error (e + m + n2) := ha
                rw [ha] at hw
                exact stopE (e + m + n2) H7 hw W7.old
              | ok n2 =>
                rw [hg2] at ha
                have hn2 := Tok.gap_le _ _ _ hg2
                rw [List.length_drop] at hn2
                have ha : aft (f' + 1) ((codesOf z).drop e) e par (lastOf ws) = (match aft f' (((codesOf z).drop (e + m)).drop n2) (e + m + n2) (Tok.note par k v) (some (k, v)) with | .ok ws => .ok ((k, v, e) :: ws) | .error q => .error q) := ha
                rw [List.drop_drop] at ha
                have hlast : lastOf (ws ++ [(k, v, e)]) = some (k, v) := by
                  unfold lastOf
                  rw [List.getLast?_append]
                  rfl
                have hpn : (Tok.note par k v).length ≤ par.length + 1 := by
                  unfold Tok.note
                  split
                  · rw [List.length_append]; exact Nat.le_refl _
                  · split
                    · rw [List.length_append]; exact Nat.le_refl _
                    · split
                      · rw [List.length_dropLast]; omega
                      · omega
                refine ⟨⟨e + m + n2, ws ++ [(k, v, e)], Tok.note par k v, f', _, _, _, rfl, W7, by omega, by rw [List.length_append]; show ws.length + 1 ≤ _; omega, by omega, by rw [List.length_drop]; omega, ?_⟩, ?_⟩
                · rw [hw, ha, hlast]
                  cases aft f' ((codesOf z).drop (e + m + n2)) (e + m + n2) (Tok.note par k v) (some (k, v)) with
                  | error q => rfl
                  | ok r =>
                    show Except.ok (ws ++ (k, v, e) :: r) = Except.ok (ws ++ [(k, v, e)] ++ r)
                    rw [List.append_assoc]
                    rfl
                · show (codesOf z).length - ((e + m + n2 : Nat) : Int).toNat < (codesOf z).length - (e : Int).toNat
                  omega
            refine ⟨_, rfl, rfl, _, rfl, ?_⟩
            have ksign : decide (V.str (kdS k) = V.str (Str.ofString "sign")) = decide (k = .sign) := by cases k <;> decide +kernel
            refine ite2 (fun y => ?_) (fun y => ?_)
            · have y : k = .sign := of_decide_eq_true (ksign.symm.trans y)
              obtain ⟨t', rfl⟩ := wsg y
              subst y
              refine ⟨_, rfl, _, rfl, ap, par, t', rfl, W6.par, by omega, fun H7 h7 e7 => ?_⟩
              exact fin H7 (W6.note h7 e7)
            · have y : k ≠ .sign := fun c => y (ksign.trans (decide_eq_true c))
              have hnote : Tok.note par k v = par := by
                unfold Tok.note
                rw [if_neg (fun c => y c.1), if_neg (fun c => y c.1), if_neg (fun c => y c.1)]
              exact fin _ (by rw [hnote]; exact W6)
        · have c : ¬ ((e : Int) < (z.length : Int)) := fun h => c (decide_eq_true h)
          rw [len_codes] at c
          have hd : (codesOf z).drop e = [] := List.drop_eq_nil_of_le (by omega)
          rw [hd] at hw
          have hw : Tok.words (codesOf z) = .ok (ws ++ []) := hw
          rw [List.append_nil] at hw
          obtain ⟨xs, D, hx, hD, hD2⟩ := W.at_
          exact ⟨_, rfl, hok ws hw aw H3 ⟨W.old, W.newW, ⟨xs, D, hx, hD, fun a o z => ⟨(hD2 a o z).1, (hD2 a o z).2.1, (hD2 a o z).2.2.2⟩⟩⟩⟩
      · rintro σ H Q Q' hq ⟨a1, h1, a2, h2, a3, h3, h4, a4, a5, h5, h6, k, h7, h⟩
        exact ⟨a1, h1, a2, h2, a3, h3, h4, a4, a5, h5, h6, k, h7, hq _ _ h⟩
theorem sc_words_of : FnScope ["source", "words"] ["source"] (defScope s_words_of) := ⟨rfl, rfl, rfl, by decide +kernel, rfl, by decide +kernel, by decide +kernel⟩
theorem ok_words_of {f fQ fG fM fB fP fR fW d : Addr} {fd fdQ fdG fdM fdB fdP fdR fdW : FuncData} {f_set_apart f_put_string f_is_symbol f_put_keywords f_surely_binds f_put_other f_words_in f_without_strings : Addr} {fd_set_apart fd_put_string fd_is_symbol fd_put_keywords fd_surely_binds fd_put_other fd_words_in fd_without_strings : FuncData} (F : FnP K "words_of" s_words_of f fd) (M : Mods K mg fN fK fE fS fL fY fA fT fdN fdK fdE fdS fdL fdY fdA fdT) (T : PySem.SupX.SupTxt P K mg qual C fI) (gC : mg "BadSource" = some (.ref C))
    (FQ : FnP K "is_text" s_is_text fQ fdQ) (FG : FnP K "past_gap" s_past_gap fG fdG) (FM : FnP K "word_at" s_word_at fM fdM) (FB : FnP K "minus_binds" s_minus_binds fB fdB) (FP : FnP K "note_paren" s_note_paren fP fdP) (FR : FnP K "parted" s_parted fR fdR) (FW : FnP K "plain_words" s_plain_words fW fdW)
    (g_is_text : mg "is_text" = some (.ref fQ)) (g_past_gap : mg "past_gap" = some (.ref fG)) (g_word_at : mg "word_at" = some (.ref fM)) (g_minus_binds : mg "minus_binds" = some (.ref fB)) (g_note_paren : mg "note_paren" = some (.ref fP)) (g_parted : mg "parted" = some (.ref fR)) (g_plain_words : mg "plain_words" = some (.ref fW))
    (g_isinstance : mg "isinstance" = none) (g_str : mg "str" = none) (g_LS : ∃ t, mg "LONGEST_SOURCE" = some (.int 2000 t)) (M2 : Plain K w mg d f_set_apart f_put_string f_is_symbol f_put_keywords f_surely_binds f_put_other f_words_in f_without_strings fd_set_apart fd_put_string fd_is_symbol fd_put_keywords fd_surely_binds fd_put_other fd_words_in fd_without_strings) :
    FnOk P w K mg base (L2.CX P w) 20 f fd ["source"] (spWords K C) := by
  have g_len := M.g_len
  have G_is_text : FnOk P w K mg base CX0 2 fQ fdQ _ (spIsText K) := ok_is_text FQ g_isinstance g_str
  have G_parted : FnOk P w K mg base (L2.CX P w) 15 fR fdR _ (spParted K C) := ok_parted FR M T gC FG FM FB FP g_past_gap g_word_at g_minus_binds g_note_paren M2.g_VK
  have G_plain_words : FnOk P w K mg base CX0 5 fW fdW _ (spPlain K) := ok_plain_words FW M2
  have b_is_text : Binds K fdQ ["thing"] [] := FQ.bindsN fun _ _ _ _ _ _ us hl => match us, hl with | [_], _ => rfl
  have b_parted : Binds K fdR ["source"] [] := FR.bindsN fun _ _ _ _ _ _ us hl => match us, hl with | [_], _ => rfl
  have b_plain_words : Binds K fdW ["source"] [] := FW.bindsN fun _ _ _ _ _ _ us hl => match us, hl with | [_], _ => rfl
  have k_is_text := FQ.kp
  have k_parted := FR.kp
  have k_plain_words := FW.kp
  obtain ⟨t, g_LONGEST_SOURCE⟩ := g_LS
  have r_LONGEST_SOURCE : RelV (.int 2000) (.int 2000 t) := ⟨t, rfl⟩
  refine F.ok sc_words_of (fun vs H Q E h => ?_) (fun cdv A outer s H vs Q E hr h => ⟨_,
    (pss_cons (ps_if (PW.pt (pw_or (pt_not (pt_val (pe_call G_is_text (hr.mono (by decide)) rfl g_is_text k_is_text b_is_text .nil pass0 (pa_cons (pv 0) pa_nil)))) (pw_or1 (pt_cmpR op_gt (pe_callB call_len_str (by rfl) g_len PySem.boot_len (pa_cons (pv 0) pa_nil)) (pe_glob rfl g_LONGEST_SOURCE r_LONGEST_SOURCE) (nomark _))))) (pss_one (ps_raiseBad rfl T gC hr (takes_of rfl rfl rfl rfl) (pa_cons (pe_un un_neg pe_int) pa_nil))) pss_nil)
      (pss_cons (ps_set (i := 1) sc_words_of.nd rfl (Or.inl rfl) (pe_call G_plain_words (hr.mono (by decide)) rfl g_plain_words k_plain_words b_plain_words .nil pass0 (pa_cons (pv 0) pa_nil)))
      (pss_one (ps_ret (pe_ifExp (pt_cmpR op_isN (pv 1) pe_non (nomark _)) (pe_call G_parted (hr.mono (by decide)) rfl g_parted k_parted b_parted .nil (passes_call (takes_of rfl rfl rfl rfl) (fun _ _ _ _ h => h)) (pa_cons (pv 0) pa_nil)) (pv 1)))))), ?_⟩)
  · obtain ⟨v, rfl, _⟩ := h
    rfl
  · obtain ⟨v, rfl, h⟩ := h
    have bad : (∀ d H', Same H H' → H' d = some (.xd [("place", .int (-1))]) → E (.ref C) (some d) H') → ∀ D σ, (tRaiseBad C (fun cls d x H => E cls d H) (tCons (tUn (rU fun i => V.int (-i)) (tC (V.int 1))) tNil)) D σ H := fun k D σ =>
      ⟨_, rfl, _, rfl, by decide, fun d nd => k d _ (same_upd nd) upd_same⟩
    rcases h with ⟨z, rfl, hsrc, hnd, hok, herr⟩ | ⟨hn, hbad⟩
    · have hz : Src z := hsrc
      have hs := sz_src hz
      have hl := hz.len
      have hall : (codesOf z).all okSign = true := by
        have := hsrc
        unfold Tok.isSource at this
        rw [Bool.and_eq_true] at this
        exact this.1
      refine ⟨_, rfl, _, rfl, .inl ⟨z, rfl, by rw [len_codes]; omega, _, rfl, ?_⟩⟩
      rw [hall]
      refine ite2 (fun y => by cases y) fun _ => ?_
      refine ⟨_, rfl, z, rfl, hs, _, _, rfl, rfl, _, rfl, ?_⟩
      refine ite2 (fun y => absurd (of_decide_eq_true y) (by rw [len_codes]; omega)) fun _ => ?_
      refine ⟨_, rfl, z, rfl, hsrc, hnd, fun H' e => ?_, fun ws hw p H' R => ?_⟩
      · refine ⟨_, rfl, rfl, _, rfl, ?_⟩
        refine ite2 (fun _ => ?_) (fun y => absurd (decide_eq_true rfl) y)
        refine ⟨_, rfl, z, rfl, hsrc, fun ws hw p H2 R => hok ws hw p H2 ?_, fun n hw d H2 e2 hd => herr n hw d H2 (e.trans e2) hd⟩
        exact R.from e
      · refine ⟨_, rfl, rfl, _, rfl, ?_⟩
        refine ite2 (fun y => absurd (of_decide_eq_true y) (by intro z; cases z)) (fun _ => ?_)
        exact ⟨_, rfl, hok ws hw p H' R⟩
    · rcases hn with ⟨z, rfl, hns, hzl⟩ | ⟨_, t, ht, hk⟩
      · refine ⟨_, rfl, _, rfl, .inl ⟨z, rfl, hzl, _, rfl, ?_⟩⟩
        refine ite2 (fun _ => ?_) fun y => ?_
        · exact ite2 (fun _ => bad hbad _ _) (fun y => absurd rfl y)
        · have y : (codesOf z).all okSign = true := by
            cases h : (codesOf z).all okSign with
            | true => rfl
            | false => rw [h] at y; exact absurd rfl y
          have hlen : ¬ (codesOf z).length ≤ 2000 := fun c => by
            unfold Tok.isSource at hns
            rw [show (codesOf z).all (fun c => c == 10 || (32 ≤ c && c ≤ 126)) = true from y, decide_eq_true c] at hns
            cases hns
          refine ⟨_, rfl, z, rfl, hzl, _, _, rfl, rfl, _, rfl, ?_⟩
          refine ite2 (fun _ => bad hbad _ _) fun c => absurd (decide_eq_true (by rw [len_codes]; omega)) c
      · refine ⟨_, rfl, _, rfl, .inr ⟨⟨t, ht, hk⟩, _, rfl, ?_⟩⟩
        refine ite2 (fun _ => ite2 (fun _ => bad hbad _ _) (fun y => absurd rfl y)) fun y => absurd rfl y
end
end My

end
section
set_option Elab.async false
set_option linter.all false
set_option maxRecDepth 100000
set_option maxHeartbeats 0
namespace My
open PySem PySem.Spec PyProof.Rows PySem.HandSPX L2
theorem isStr_eq {a b : Str} {t : Tok} (h : (Value.str a t).isStr b = true) : a = b := by
  first | exact of_decide_eq_true h | exact eq_of_beq h | (unfold Value.isStr at h; simpa using h)
/-! ### BadSource's class object and its __init__ -/
def clsB (K : PySem.W.Frag) (C : Addr) : Bool := match K.lookup C with
  | some ⟨.type "type", _, .cls cd, sl⟩ => (match cd.mro, sl.toList with
    | .ref C' :: bm, [_, _, _, _, some (.builtin n), _] => C' == C && n == "ValueError.__new__" && !cd.hasDel && cd.hasDict && refsVE bm && decide (PySem.W.alongIn K "__init__" bm = some (some (.builtin "ValueError.__init__")))
    | _, _ => false)
  | _ => false
theorem clsB_ok {K : PySem.W.Frag} {C : Addr} (q : clsB K C = true) : ∃ nm q N bs bm sn sub ab col dd k0 k1 k2 k3 k5, K.lookup C = some (excClassObj nm q C N bs bm true sn sub ab col dd k0 k1 k2 k3 k5 "ValueError.__new__") ∧ refsVE bm = true ∧ PySem.W.alongIn K "__init__" bm = some (some (.builtin "ValueError.__init__")) := by
  unfold clsB at q
  split at q
  · rename_i dd cd sl ho
    split at q
    · rename_i C' bm k0 k1 k2 k3 n k5 hm hs
      simp only [Bool.and_eq_true, beq_iff_eq, Bool.not_eq_true', decide_eq_true_iff] at q
      obtain ⟨⟨⟨⟨⟨rfl, rfl⟩, hdel⟩, hdict⟩, hre⟩, hal⟩ := q
      obtain ⟨nm, bs, mro, ns, qn, hd, sn, sub, ab, col, del⟩ := cd
      dsimp only at hm hdel hdict
      subst hm hdel hdict
      have hsl : sl = #[k0, k1, k2, k3, some (.builtin "ValueError.__new__"), k5] := by
        obtain ⟨l⟩ := sl
        simp only at hs
        rw [hs]
      subst hsl
      exact ⟨nm, qn, ns, bs, bm, sn, sub, ab, col, dd, k0, k1, k2, k3, k5, ho, hre, hal⟩
    · cases q
  · cases q
abbrev IniV : Type := Option (Str × Str × Arguments × FuncBody × Scope × Addr × Value × Value × Addr)
def iniW (K : PySem.W.Frag) (fI : Addr) : IniV := match K.lookup fI with
  | some ⟨_, _, .func fd, _⟩ => some (fd.name, fd.qualname, fd.params, fd.body, fd.scope, fd.globals, fd.defaults, fd.kwdefaults, fd.builtins)
  | _ => none
def iniVal : IniV := some ("__init__", "BadSource.__init__", defArgs PySem.SupX.sInit, .stmts (defBody PySem.SupX.sInit), defScope PySem.SupX.sInit, mainGlobals, .none, .none, builtinsNs)
def iniB (K : PySem.W.Frag) (C fI : Addr) (file : Str) : Bool := match K.lookup fI with
  | some ⟨_, _, .func fd, _⟩ => (match fd.closure, fd.code with
    | [(x, cc)], .ref cda => decide (x = "__class__") && (match K.lookup cc with
        | some ⟨_, _, .cell (some (.ref D)), _⟩ => D == C
        | _ => false) && PySem.W.codeIn K (.ref cda) "BadSource.__init__" && (match K.lookup cda with
        | some ⟨_, _, .fields vs, _⟩ => (match (vs : Array Value)[2]? with
          | some (Value.str f _) => file == f
          | _ => false)
        | _ => false)
    | _, _ => false)
  | _ => false
theorem iniB_ok {K : PySem.W.Frag} {C fI : Addr} {file : Str} (h : iniB K C fI file = true) (e : iniW K fI = iniVal) :
    ∃ (oc doc pm ct : Value) (od an : Option Addr) (osl : Array (Option Value)) (cda cc : Addr) (ccl cl : Value) (cdd cld : Option Addr) (ccs csl : Array (Option Value)) (vs : Array Value) (f2 : Str) (tf : Tok),
    K.lookup fI = some ⟨oc, od, .func (PySem.W.ksFn "__init__" "BadSource.__init__" (defArgs PySem.SupX.sInit) (defBody PySem.SupX.sInit) (defScope PySem.SupX.sInit) .none .none doc pm an (.ref cda) ct cc), osl⟩ ∧ PySem.W.codeIn K (.ref cda) "BadSource.__init__" = true ∧
    K.lookup cda = some ⟨ccl, cdd, .fields vs, ccs⟩ ∧ vs[2]? = some (.str f2 tf) ∧ (file == f2) = true ∧ K.lookup cc = some ⟨cl, cld, .cell (some (.ref C)), csl⟩ := by
  unfold iniB at h
  unfold iniW iniVal at e
  split at h
  · rename_i oc od fd osl ho
    rw [ho] at e
    have e := Option.some.inj e
    split at h
    · rename_i x cc cda hcl hcd
      simp only [Bool.and_eq_true, decide_eq_true_iff] at h
      obtain ⟨⟨⟨rfl, h2⟩, h3⟩, h4⟩ := h
      split at h2
      · rename_i cl cld D csl hcc
        have hD : D = C := beq_iff_eq.mp h2
        subst hD
        split at h4
        · rename_i ccl cdd vs ccs hca
          split at h4
          · rename_i f2 tf hv
            obtain ⟨nm, qn, pr, bd, sc, gl, clo, df, kd, dc, pmo, ano, cod, clt, blt⟩ := fd
            simp only [Prod.mk.injEq] at e
            dsimp only at hcl hcd
            obtain ⟨rfl, rfl, rfl, rfl, rfl, rfl, rfl, rfl, rfl⟩ := e
            subst hcl hcd
            exact ⟨oc, dc, pmo, clt, od, ano, osl, cda, cc, ccl, cl, cdd, cld, ccs, csl, vs, f2, tf, ho, h3, hca, hv, h4, hcc⟩
          · cases h4
        · cases h4
      · cases h2
    · cases h
  · cases h
/-! ### the table FIXED -/
def fixE (e : DictEntry) : Bool := match e.key, e.val with
  | .str z _, .str v _ => Tok.fixed.any fun x => decide (codesOf z = x.1) && decide (v = kdS x.2)
  | _, _ => false
def fixB (K : PySem.W.Frag) (d : Addr) : Bool := match K.lookup d with
  | some ⟨_, _, .dict es _, _⟩ => es.toList.all fixE
  | _ => false
theorem fix_ok {K : PySem.W.Frag} {w : World} {d : Addr} {ks : List Str} (h : He.dicW K d = some (He.keysIn w.params ks)) (b : fixB K d = true) : FixAt K w d := by
  obtain ⟨es, n, D⟩ := He.dicW_ok (w := w) h
  refine ⟨es, n, D, fun z => ?_⟩
  unfold fixB at b
  rw [D.at_] at b
  have b : es.toList.all fixE = true := b
  unfold PySem.W.nsIn
  rw [D.at_]
  show ∃ r, (match es.toList.find? (·.key.isStr z) with | some e => some (some e.val) | none => if es.toList.any (·.refKey) then none else some none) = some r ∧ _
  cases hf : es.toList.find? (·.key.isStr z) with
  | some e =>
    refine ⟨_, rfl, fun u hu => ?_⟩
    injection hu with hu
    subst hu
    have hg := List.all_eq_true.mp b e (List.mem_of_find?_eq_some hf)
    have hk := List.find?_some hf
    unfold fixE at hg
    split at hg
    · rename_i z2 t1 v t2 e1 e2
      obtain ⟨x, hx, hx2⟩ := List.any_eq_true.mp hg
      rw [Bool.and_eq_true] at hx2
      have h1 := of_decide_eq_true hx2.1
      have h2 := of_decide_eq_true hx2.2
      have hz : z2 = z := by
        have hk : e.key.isStr z = true := hk
        rw [e1] at hk
        exact isStr_eq hk
      subst hz
      refine ⟨x.2, t2, by rw [e2, h2], ?_⟩
      rw [h1]
      exact hx
    · cases hg
  | none =>
    have hr : es.toList.any (·.refKey) = false := by
      rw [List.any_eq_false]
      intro e he
      have hg := List.all_eq_true.mp b e he
      unfold fixE at hg
      split at hg
      · rename_i z2 t1 v t2 e1 e2
        unfold DictEntry.refKey
        rw [e1]
        simp
      · cases hg
    refine ⟨none, ?_, fun u hu => by cases hu⟩
    show (if es.toList.any (·.refKey) = true then none else some none) = _
    rw [hr]
    rfl
end My

end
section
set_option Elab.async false
set_option linter.all false
set_option maxRecDepth 100000
set_option maxHeartbeats 0
namespace My
open PySem PySem.Spec PyProof.Rows PySem.HandSPX L2
/-! ### what the top leaves -/
def dd_ (x : Str) (st : Stmt) : He.DefD := ⟨(x, none), x, x, defArgs st, defBody st, defScope st, [], []⟩
def df0 : He.DefD := ⟨("words_of", none), "words_of", "words_of", defArgs s_words_of, defBody s_words_of, defScope s_words_of, [], []⟩
def df1 : He.DefD := ⟨("is_text", none), "is_text", "is_text", defArgs s_is_text, defBody s_is_text, defScope s_is_text, [], []⟩
def df2 : He.DefD := ⟨("past_gap", none), "past_gap", "past_gap", defArgs s_past_gap, defBody s_past_gap, defScope s_past_gap, [], []⟩
def df3 : He.DefD := ⟨("minus_binds", none), "minus_binds", "minus_binds", defArgs s_minus_binds, defBody s_minus_binds, defScope s_minus_binds, [], []⟩
def df4 : He.DefD := ⟨("note_paren", none), "note_paren", "note_paren", defArgs s_note_paren, defBody s_note_paren, defScope s_note_paren, [], []⟩
def df5 : He.DefD := ⟨("word_at", none), "word_at", "word_at", defArgs s_word_at, defBody s_word_at, defScope s_word_at, [], []⟩
def df6 : He.DefD := ⟨("name_end", none), "name_end", "name_end", defArgs s_name_end, defBody s_name_end, defScope s_name_end, [], []⟩
def df7 : He.DefD := ⟨("keyword_end", none), "keyword_end", "keyword_end", defArgs s_keyword_end, defBody s_keyword_end, defScope s_keyword_end, [], []⟩
def df8 : He.DefD := ⟨("name_at", none), "name_at", "name_at", defArgs s_name_at, defBody s_name_at, defScope s_name_at, [], []⟩
def df9 : He.DefD := ⟨("integer_at", none), "integer_at", "integer_at", defArgs s_integer_at, defBody s_integer_at, defScope s_integer_at, [], []⟩
def df10 : He.DefD := ⟨("string_end", none), "string_end", "string_end", defArgs s_string_end, defBody s_string_end, defScope s_string_end, [], []⟩
def df11 : He.DefD := ⟨("string_at", none), "string_at", "string_at", defArgs s_string_at, defBody s_string_at, defScope s_string_at, [], []⟩
def df12 : He.DefD := ⟨("symbol_at", none), "symbol_at", "symbol_at", defArgs s_symbol_at, defBody s_symbol_at, defScope s_symbol_at, [], []⟩
def df13 : He.DefD := ⟨("listed_at", none), "listed_at", "listed_at", defArgs s_listed_at, defBody s_listed_at, defScope s_listed_at, [], []⟩
def df14 : He.DefD := ⟨("_law_bag", none), "_law_bag", "_law_bag", defArgs s_law_bag, defBody s_law_bag, defScope s_law_bag, [], []⟩
def df15 : He.DefD := ⟨("_law_take", none), "_law_take", "_law_take", defArgs s_law_take, defBody s_law_take, defScope s_law_take, [], []⟩
def df16 : He.DefD := ⟨("_law_pick", none), "_law_pick", "_law_pick", defArgs s_law_pick, defBody s_law_pick, defScope s_law_pick, [], []⟩
def df17 : He.DefD := ⟨("_law_names", none), "_law_names", "_law_names", defArgs s_law_names, defBody s_law_names, defScope s_law_names, [], []⟩
def df18 : He.DefD := ⟨("_law_strings", none), "_law_strings", "_law_strings", defArgs s_law_strings, defBody s_law_strings, defScope s_law_strings, [], []⟩
def df19 : He.DefD := ⟨("_law_numbers", none), "_law_numbers", "_law_numbers", defArgs s_law_numbers, defBody s_law_numbers, defScope s_law_numbers, [], []⟩
def df20 : He.DefD := ⟨("_law_arrays", none), "_law_arrays", "_law_arrays", defArgs s_law_arrays, defBody s_law_arrays, defScope s_law_arrays, [], []⟩
def df21 : He.DefD := ⟨("_law_bad", none), "_law_bad", "_law_bad", defArgs s_law_bad, defBody s_law_bad, defScope s_law_bad, [], []⟩
def df22 : He.DefD := ⟨("_law_ahead", none), "_law_ahead", "_law_ahead", defArgs s_law_ahead, defBody s_law_ahead, defScope s_law_ahead, [], []⟩
def df23 : He.DefD := ⟨("_law_told", none), "_law_told", "_law_told", defArgs s_law_told, defBody s_law_told, defScope s_law_told, [], []⟩
def df24 : He.DefD := ⟨("_law_row_right", none), "_law_row_right", "_law_row_right", defArgs s_law_row_right, defBody s_law_row_right, defScope s_law_row_right, [], []⟩
def df25 : He.DefD := ⟨("_law_long_right", none), "_law_long_right", "_law_long_right", defArgs s_law_long_right, defBody s_law_long_right, defScope s_law_long_right, [], []⟩
def df26 : He.DefD := ⟨("_law_right", none), "_law_right", "_law_right", defArgs s_law_right, defBody s_law_right, defScope s_law_right, [], []⟩
def df27 : He.DefD := ⟨("law", none), "law", "law", defArgs s_law, defBody s_law, defScope s_law, [], []⟩
def df28 : He.DefD := ⟨("parted", none), "parted", "parted", defArgs s_parted, defBody s_parted, defScope s_parted, [], []⟩
def df29 : He.DefD := ⟨("plain_words", none), "plain_words", "plain_words", defArgs s_plain_words, defBody s_plain_words, defScope s_plain_words, [], []⟩
def df30 : He.DefD := ⟨("without_strings", none), "without_strings", "without_strings", defArgs s_without_strings, defBody s_without_strings, defScope s_without_strings, [], []⟩
def df31 : He.DefD := ⟨("words_in", none), "words_in", "words_in", defArgs s_words_in, defBody s_words_in, defScope s_words_in, [], []⟩
def df32 : He.DefD := ⟨("put_other", none), "put_other", "put_other", defArgs s_put_other, defBody s_put_other, defScope s_put_other, [], []⟩
def df33 : He.DefD := ⟨("put_keywords", none), "put_keywords", "put_keywords", defArgs s_put_keywords, defBody s_put_keywords, defScope s_put_keywords, [], []⟩
def df34 : He.DefD := ⟨("put_string", none), "put_string", "put_string", defArgs s_put_string, defBody s_put_string, defScope s_put_string, [], []⟩
def df35 : He.DefD := ⟨("is_symbol", none), "is_symbol", "is_symbol", defArgs s_is_symbol, defBody s_is_symbol, defScope s_is_symbol, [], []⟩
def df36 : He.DefD := ⟨("surely_binds", none), "surely_binds", "surely_binds", defArgs s_surely_binds, defBody s_surely_binds, defScope s_surely_binds, [], []⟩
def df37 : He.DefD := ⟨("set_apart", none), "set_apart", "set_apart", defArgs s_set_apart, defBody s_set_apart, defScope s_set_apart, [], []⟩
def fnL : List He.DefD := [df0, df1, df2, df3, df4, df5, df6, df7, df8, df9, df10, df11, df12, df13, df14, df15, df16, df17, df18, df19, df20, df21, df22, df23, df24, df25, df26, df27, df28, df29, df30, df31, df32, df33, df34, df35, df36, df37]
def faL : List He.Fa := [.glo "words_of", .glo "is_text", .glo "past_gap", .glo "minus_binds", .glo "note_paren", .glo "word_at", .glo "name_end", .glo "keyword_end", .glo "name_at", .glo "integer_at", .glo "string_end", .glo "string_at", .glo "symbol_at", .glo "listed_at", .glo "_law_bag", .glo "_law_take", .glo "_law_pick", .glo "_law_names", .glo "_law_strings", .glo "_law_numbers", .glo "_law_arrays", .glo "_law_bad", .glo "_law_ahead", .glo "_law_told", .glo "_law_row_right", .glo "_law_long_right", .glo "_law_right", .glo "law", .glo "BadSource"] ++ [.free "len", .free "int", .free "isinstance", .free "str", .free "sum", .free "max", .free "all", .free "tuple", .free "min", .free "range", .free "super", .int "LONGEST_NAME" 40, .int "MOST_DIGITS" 60, .int "LONGEST_SOURCE" 2000, .glo "OPERATORS", .glo "SIGNS", .glo "VALUE_KINDS"] ++ [.glo "parted", .glo "plain_words", .glo "without_strings", .glo "words_in", .glo "put_other", .glo "put_keywords", .glo "put_string", .glo "is_symbol", .glo "surely_binds", .glo "set_apart", .glo "FIXED", .str "ARRAY" "@", .str "STRING" "{", .str "SYMBOL" "}"]
abbrev P0 : Program := (PySem.Challenge.rw_imagetalk_k02_words_at_their_edges).prog
def dvs (ws : List (List Nat)) : List He.Dv := ws.map fun x => .str (strOf x)
def supAll (K : PySem.W.Frag) : Bool :=
  clsB K (He.ga K "BadSource") && (iniB K (He.ga K "BadSource") (He.ma K (He.ga K "BadSource") "__init__") P0.main.file &&
  (He.eqO (PySem.W.findIn K (.ref (He.ga K "BadSource")) "__setattr__") (some (some (.builtin "object.__setattr__"))) &&
  (He.eqO (PySem.W.findIn K (.ref (He.ga K "BadSource")) "place") (some none) &&
  (He.eqO (PySem.W.findIn K (.ref (He.ga K "BadSource")) "__init__") (some (some (.ref (He.ma K (He.ga K "BadSource") "__init__")))) &&
  (decide (PySem.W.typeIn K (.ref (He.ma K (He.ga K "BadSource") "__init__")) = some (.type "function")) &&
  (He.eqO (PySem.W.nsIn K cStatics "thirdparty.any") (some none) &&
  (decide (PySem.W.subIn K (.ref (He.ga K "BadSource")) (.type "ValueError") = some true) &&
  (decide (PySem.W.mroIn K (He.ga K "BadSource") (.ref (He.ga K "BadSource")) = some true) &&
  (PySem.W.keepIn K (.ref (He.ga K "BadSource")) &&
  (decide (PySem.W.subIn K (.ref (He.ga K "BadSource")) (.type "BaseException") = some true) &&
  (decide (PySem.W.typeIn K (.ref (He.ga K "BadSource")) = some (.type "type")) &&
  (xfB K (He.ga K "BadSource") &&
  (decide (PySem.W.exmOne K (.ref (He.ga K "BadSource")) (.ref (He.ga K "BadSource")) = some true) &&
  (He.tupB K "OPERATORS" (dvs Tok.ops) && (He.tupB K "SIGNS" (dvs Tok.signs) && He.tupB K "VALUE_KINDS" (dvs vkinds))))))))))))))))
def fixKs : List Str := [":=", "(", ")", "[", "]", ":", "|", "^", ".", ";", "+", "-", "*", "//", "\\\\", "<", ">", "<=", ">=", "=", "==", "~=", "~~", ","]
abbrev HV : Type := He.AlD × Bool × IniV × Option (List (Option (Str × Int)))
def obsS (K : PySem.W.Frag) : HV := (He.obsD faL fnL K, supAll K && fixB K (He.ga K "FIXED"), iniW K (He.ma K (He.ga K "BadSource") "__init__"), He.dicW K (He.ga K "FIXED"))
def valS (w : World) : HV := (He.valD fnL, true, iniVal, some (He.keysIn w.params fixKs))
def obsG (g : Addr → Option Obj) : HV := obsS (He.frG g (cStatics :: He.asD g 4))
abbrev hk : PySem.W.Hook where
  α := HV
  obs := fun s => obsG s.heap.get?
  val := fun w => valS w
  says := fun w h => ∃ K : PySem.W.Frag, K.In h ∧ obsS K = valS w
  of := fun _ _ e => ⟨_, He.frG_in, e⟩
  keeps := fun _ _ _ ⟨K, hK, c⟩ k => ⟨K, PySem.W.Frag.In.keeps hK k, c⟩
def ob (s : PySem.W.SharedT) : HV := obsG (HandSHeadRun.getT s)
theorem ob_eq (s : PySem.W.SharedT) : ob s = hk.obs s.abs := by
  have e : HandSHeadRun.getT s = s.abs.heap.get? := funext (HandSHeadRun.getT_eq s)
  unfold ob
  rw [e]
abbrev R : PySem.W.OpenRow := PySem.W.OpenLaw.row PySem.Challenge.rw_imagetalk_k02_words_at_their_edges
def loose : List Str := (["TalkError", "BadSource", "LONGEST_NAME", "OPERATORS", "is_text", "MOST_DIGITS", "VALUE_KINDS", "FIXED", "ARRAY", "STRING", "SYMBOL", "plain_words"] : List Str) ++ (["without_strings", "set_apart", "words_in", "put_other", "put_keywords", "put_string", "is_symbol", "surely_binds", "LONGEST_SOURCE", "SIGNS", "words_of", "parted"] : List Str) ++ (["past_gap", "minus_binds", "note_paren", "word_at", "name_end", "keyword_end", "name_at", "integer_at", "string_end", "string_at", "symbol_at", "listed_at"] : List Str) ++ (["_law_bag", "_law_take", "_law_pick", "_law_names", "_law_strings", "_law_numbers", "_law_arrays", "_law_bad", "_law_ahead", "_law_told", "_law_row_right", "_law_long_right"] : List Str) ++ (["_law_right"] : List Str)
end My

end
section
set_option Elab.async false
set_option linter.all false
set_option maxRecDepth 100000
set_option maxHeartbeats 0
namespace My
open PySem PySem.Spec PyProof.Rows PySem.HandSPX L2
theorem run0 (w : World) : HandSHeadRun.RunEq R (PySem.W.view R.prog [54]) hk ob 20000 loose (w.withFollow "special-get-raises" false) := by
  intro os
  kernel_rfl
theorem run1 (w : World) : HandSHeadRun.RunEq R (PySem.W.view R.prog [54]) hk ob 20000 loose (w.withFollow "special-get-raises" true) := by
  intro os
  kernel_rfl
theorem run (w : World) : HandSHeadRun.RunEq R (PySem.W.view R.prog [54]) hk ob 20000 loose w := by
  refine PySem.W.byRow2 "special-get-raises" (P := fun w => HandSHeadRun.RunEq R (PySem.W.view R.prog [54]) hk ob 20000 loose w) (fun w => ?_) (fun w => ?_) w
  · exact run0 w
  · exact run1 w
end My

end
section
set_option Elab.async false
set_option linter.all false
set_option maxRecDepth 100000
set_option maxHeartbeats 0
namespace My
open PySem PySem.Spec PyProof.Rows PySem.HandSPX L2
theorem sup_all {K : PySem.W.Frag} {mg : Str → Option Value} (c2 : supAll K = true) (c3 : iniW K (He.ma K (He.ga K "BadSource") "__init__") = iniVal) (gC : mg "BadSource" = some (.ref (He.ga K "BadSource"))) (g_super : mg "super" = none) :
    PySem.SupX.SupTxt P0 K mg "BadSource.__init__" (He.ga K "BadSource") (He.ma K (He.ga K "BadSource") "__init__") ∧ ExcTxt K mg (He.ga K "BadSource") ∧ He.tupB K "OPERATORS" (dvs Tok.ops) = true ∧ He.tupB K "SIGNS" (dvs Tok.signs) = true ∧ He.tupB K "VALUE_KINDS" (dvs vkinds) = true := by
  unfold supAll at c2
  obtain ⟨s1, c2⟩ := He.ba c2
  obtain ⟨s2, c2⟩ := He.ba c2
  obtain ⟨s3, c2⟩ := He.ba c2
  obtain ⟨s4, c2⟩ := He.ba c2
  obtain ⟨s5, c2⟩ := He.ba c2
  obtain ⟨s6, c2⟩ := He.ba c2
  obtain ⟨s7, c2⟩ := He.ba c2
  obtain ⟨s8, c2⟩ := He.ba c2
  obtain ⟨s9, c2⟩ := He.ba c2
  obtain ⟨s10, c2⟩ := He.ba c2
  obtain ⟨s11, c2⟩ := He.ba c2
  obtain ⟨s12, c2⟩ := He.ba c2
  obtain ⟨s13, c2⟩ := He.ba c2
  obtain ⟨s14, c2⟩ := He.ba c2
  obtain ⟨s15, c2⟩ := He.ba c2
  obtain ⟨s16, s17⟩ := He.ba c2
  have T : PySem.SupX.SupTxt P0 K mg "BadSource.__init__" (He.ga K "BadSource") (He.ma K (He.ga K "BadSource") "__init__") :=
    { kC := s10, exC := of_decide_eq_true s11, tyC := of_decide_eq_true s12, cls := clsB_ok s1, sa := He.eqO_ok s3, noN := He.eqO_ok s4, iC := He.eqO_ok s5, tC := of_decide_eq_true s6, noS := g_super, tp := He.eqO_ok s7, subVE := of_decide_eq_true s8, mroC := of_decide_eq_true s9, top := by kernel_rfl, fn := iniB_ok s2 c3 }
  have ET : ExcTxt K mg (He.ga K "BadSource") := ⟨gC, xfB_ok s13, He.eqO_ok s4, of_decide_eq_true s14⟩
  exact ⟨T, ET, s15, s16, s17⟩
theorem facts {w : World} {K : PySem.W.Frag} {h : Heap} {mg : Str → Option Value} {f : Addr} (X : K.In h) (G : h.Ns mainGlobals mg) (hfa : mg ("law" : Str) = some (.ref f)) (c : obsS K = valS w) :
    ∃ fd : FuncData, (∀ (s : Shared) (v : Value), BindsTo s fd ⟨[v], []⟩ [("_law_script", v)]) ∧ ∀ base : Heap, K.In base → base.Ns mainGlobals mg → FnOk P0 w K mg base CX0 40 f fd ["_law_script"] (spLaw K) := by
  have c1 : He.SaysD faL fnL K := congrArg (fun z : HV => z.1) c
  have c2' : (supAll K && fixB K (He.ga K "FIXED")) = true := congrArg (fun z : HV => z.2.1) c
  obtain ⟨c2, cfix⟩ := He.ba c2'
  have c3 : iniW K (He.ma K (He.ga K "BadSource") "__init__") = iniVal := congrArg (fun z : HV => z.2.2.1) c
  have c4 : He.dicW K (He.ga K "FIXED") = some (He.keysIn w.params fixKs) := congrArg (fun z : HV => z.2.2.2) c
  obtain ⟨fd0, F0⟩ := c1.def_ 0 (d := df0) rfl
  have g0 : mg "words_of" = some (.ref (He.ga K "words_of")) := He.glo_ok X G (c1.fact 0 (f := .glo "words_of") rfl)
  obtain ⟨fd1, F1⟩ := c1.def_ 1 (d := df1) rfl
  have g1 : mg "is_text" = some (.ref (He.ga K "is_text")) := He.glo_ok X G (c1.fact 1 (f := .glo "is_text") rfl)
  obtain ⟨fd2, F2⟩ := c1.def_ 2 (d := df2) rfl
  have g2 : mg "past_gap" = some (.ref (He.ga K "past_gap")) := He.glo_ok X G (c1.fact 2 (f := .glo "past_gap") rfl)
  obtain ⟨fd3, F3⟩ := c1.def_ 3 (d := df3) rfl
  have g3 : mg "minus_binds" = some (.ref (He.ga K "minus_binds")) := He.glo_ok X G (c1.fact 3 (f := .glo "minus_binds") rfl)
  obtain ⟨fd4, F4⟩ := c1.def_ 4 (d := df4) rfl
  have g4 : mg "note_paren" = some (.ref (He.ga K "note_paren")) := He.glo_ok X G (c1.fact 4 (f := .glo "note_paren") rfl)
  obtain ⟨fd5, F5⟩ := c1.def_ 5 (d := df5) rfl
  have g5 : mg "word_at" = some (.ref (He.ga K "word_at")) := He.glo_ok X G (c1.fact 5 (f := .glo "word_at") rfl)
  obtain ⟨fd6, F6⟩ := c1.def_ 6 (d := df6) rfl
  have g6 : mg "name_end" = some (.ref (He.ga K "name_end")) := He.glo_ok X G (c1.fact 6 (f := .glo "name_end") rfl)
  obtain ⟨fd7, F7⟩ := c1.def_ 7 (d := df7) rfl
  have g7 : mg "keyword_end" = some (.ref (He.ga K "keyword_end")) := He.glo_ok X G (c1.fact 7 (f := .glo "keyword_end") rfl)
  obtain ⟨fd8, F8⟩ := c1.def_ 8 (d := df8) rfl
  have g8 : mg "name_at" = some (.ref (He.ga K "name_at")) := He.glo_ok X G (c1.fact 8 (f := .glo "name_at") rfl)
  obtain ⟨fd9, F9⟩ := c1.def_ 9 (d := df9) rfl
  have g9 : mg "integer_at" = some (.ref (He.ga K "integer_at")) := He.glo_ok X G (c1.fact 9 (f := .glo "integer_at") rfl)
  obtain ⟨fd10, F10⟩ := c1.def_ 10 (d := df10) rfl
  have g10 : mg "string_end" = some (.ref (He.ga K "string_end")) := He.glo_ok X G (c1.fact 10 (f := .glo "string_end") rfl)
  obtain ⟨fd11, F11⟩ := c1.def_ 11 (d := df11) rfl
  have g11 : mg "string_at" = some (.ref (He.ga K "string_at")) := He.glo_ok X G (c1.fact 11 (f := .glo "string_at") rfl)
  obtain ⟨fd12, F12⟩ := c1.def_ 12 (d := df12) rfl
  have g12 : mg "symbol_at" = some (.ref (He.ga K "symbol_at")) := He.glo_ok X G (c1.fact 12 (f := .glo "symbol_at") rfl)
  obtain ⟨fd13, F13⟩ := c1.def_ 13 (d := df13) rfl
  have g13 : mg "listed_at" = some (.ref (He.ga K "listed_at")) := He.glo_ok X G (c1.fact 13 (f := .glo "listed_at") rfl)
  obtain ⟨fd14, F14⟩ := c1.def_ 14 (d := df14) rfl
  have g14 : mg "_law_bag" = some (.ref (He.ga K "_law_bag")) := He.glo_ok X G (c1.fact 14 (f := .glo "_law_bag") rfl)
  obtain ⟨fd15, F15⟩ := c1.def_ 15 (d := df15) rfl
  have g15 : mg "_law_take" = some (.ref (He.ga K "_law_take")) := He.glo_ok X G (c1.fact 15 (f := .glo "_law_take") rfl)
  obtain ⟨fd16, F16⟩ := c1.def_ 16 (d := df16) rfl
  have g16 : mg "_law_pick" = some (.ref (He.ga K "_law_pick")) := He.glo_ok X G (c1.fact 16 (f := .glo "_law_pick") rfl)
  obtain ⟨fd17, F17⟩ := c1.def_ 17 (d := df17) rfl
  have g17 : mg "_law_names" = some (.ref (He.ga K "_law_names")) := He.glo_ok X G (c1.fact 17 (f := .glo "_law_names") rfl)
  obtain ⟨fd18, F18⟩ := c1.def_ 18 (d := df18) rfl
  have g18 : mg "_law_strings" = some (.ref (He.ga K "_law_strings")) := He.glo_ok X G (c1.fact 18 (f := .glo "_law_strings") rfl)
  obtain ⟨fd19, F19⟩ := c1.def_ 19 (d := df19) rfl
  have g19 : mg "_law_numbers" = some (.ref (He.ga K "_law_numbers")) := He.glo_ok X G (c1.fact 19 (f := .glo "_law_numbers") rfl)
  obtain ⟨fd20, F20⟩ := c1.def_ 20 (d := df20) rfl
  have g20 : mg "_law_arrays" = some (.ref (He.ga K "_law_arrays")) := He.glo_ok X G (c1.fact 20 (f := .glo "_law_arrays") rfl)
  obtain ⟨fd21, F21⟩ := c1.def_ 21 (d := df21) rfl
  have g21 : mg "_law_bad" = some (.ref (He.ga K "_law_bad")) := He.glo_ok X G (c1.fact 21 (f := .glo "_law_bad") rfl)
  obtain ⟨fd22, F22⟩ := c1.def_ 22 (d := df22) rfl
  have g22 : mg "_law_ahead" = some (.ref (He.ga K "_law_ahead")) := He.glo_ok X G (c1.fact 22 (f := .glo "_law_ahead") rfl)
  obtain ⟨fd23, F23⟩ := c1.def_ 23 (d := df23) rfl
  have g23 : mg "_law_told" = some (.ref (He.ga K "_law_told")) := He.glo_ok X G (c1.fact 23 (f := .glo "_law_told") rfl)
  obtain ⟨fd24, F24⟩ := c1.def_ 24 (d := df24) rfl
  have g24 : mg "_law_row_right" = some (.ref (He.ga K "_law_row_right")) := He.glo_ok X G (c1.fact 24 (f := .glo "_law_row_right") rfl)
  obtain ⟨fd25, F25⟩ := c1.def_ 25 (d := df25) rfl
  have g25 : mg "_law_long_right" = some (.ref (He.ga K "_law_long_right")) := He.glo_ok X G (c1.fact 25 (f := .glo "_law_long_right") rfl)
  obtain ⟨fd26, F26⟩ := c1.def_ 26 (d := df26) rfl
  have g26 : mg "_law_right" = some (.ref (He.ga K "_law_right")) := He.glo_ok X G (c1.fact 26 (f := .glo "_law_right") rfl)
  obtain ⟨fd27, F27⟩ := c1.def_ 27 (d := df27) rfl
  have g27 : mg "law" = some (.ref (He.ga K "law")) := He.glo_ok X G (c1.fact 27 (f := .glo "law") rfl)
  obtain ⟨fd28, F28⟩ := c1.def_ 28 (d := df28) rfl
  have g28 : mg "parted" = some (.ref (He.ga K "parted")) := He.glo_ok X G (c1.fact 46 (f := .glo "parted") rfl)
  obtain ⟨fd29, F29⟩ := c1.def_ 29 (d := df29) rfl
  have g29 : mg "plain_words" = some (.ref (He.ga K "plain_words")) := He.glo_ok X G (c1.fact 47 (f := .glo "plain_words") rfl)
  obtain ⟨fd30, F30⟩ := c1.def_ 30 (d := df30) rfl
  have g30 : mg "without_strings" = some (.ref (He.ga K "without_strings")) := He.glo_ok X G (c1.fact 48 (f := .glo "without_strings") rfl)
  obtain ⟨fd31, F31⟩ := c1.def_ 31 (d := df31) rfl
  have g31 : mg "words_in" = some (.ref (He.ga K "words_in")) := He.glo_ok X G (c1.fact 49 (f := .glo "words_in") rfl)
  obtain ⟨fd32, F32⟩ := c1.def_ 32 (d := df32) rfl
  have g32 : mg "put_other" = some (.ref (He.ga K "put_other")) := He.glo_ok X G (c1.fact 50 (f := .glo "put_other") rfl)
  obtain ⟨fd33, F33⟩ := c1.def_ 33 (d := df33) rfl
  have g33 : mg "put_keywords" = some (.ref (He.ga K "put_keywords")) := He.glo_ok X G (c1.fact 51 (f := .glo "put_keywords") rfl)
  obtain ⟨fd34, F34⟩ := c1.def_ 34 (d := df34) rfl
  have g34 : mg "put_string" = some (.ref (He.ga K "put_string")) := He.glo_ok X G (c1.fact 52 (f := .glo "put_string") rfl)
  obtain ⟨fd35, F35⟩ := c1.def_ 35 (d := df35) rfl
  have g35 : mg "is_symbol" = some (.ref (He.ga K "is_symbol")) := He.glo_ok X G (c1.fact 53 (f := .glo "is_symbol") rfl)
  obtain ⟨fd36, F36⟩ := c1.def_ 36 (d := df36) rfl
  have g36 : mg "surely_binds" = some (.ref (He.ga K "surely_binds")) := He.glo_ok X G (c1.fact 54 (f := .glo "surely_binds") rfl)
  obtain ⟨fd37, F37⟩ := c1.def_ 37 (d := df37) rfl
  have g37 : mg "set_apart" = some (.ref (He.ga K "set_apart")) := He.glo_ok X G (c1.fact 55 (f := .glo "set_apart") rfl)
  have gFX : mg "FIXED" = some (.ref (He.ga K "FIXED")) := He.glo_ok X G (c1.fact 56 (f := .glo "FIXED") rfl)
  have sAR := He.str_ok X G (c1.fact 57 (f := .str "ARRAY" "@") rfl)
  have sST := He.str_ok X G (c1.fact 58 (f := .str "STRING" "{") rfl)
  have sSY := He.str_ok X G (c1.fact 59 (f := .str "SYMBOL" "}") rfl)
  have e64 : (Str.ofString "@") = ⟨#[64]⟩ := by decide +kernel
  have e123 : (Str.ofString "{") = ⟨#[123]⟩ := by decide +kernel
  have e125 : (Str.ofString "}") = ⟨#[125]⟩ := by decide +kernel
  have sAR : ∃ t, mg "ARRAY" = some (.str ⟨#[64]⟩ t) := by rw [← e64]; exact sAR
  have sST : ∃ t, mg "STRING" = some (.str ⟨#[123]⟩ t) := by rw [← e123]; exact sST
  have sSY : ∃ t, mg "SYMBOL" = some (.str ⟨#[125]⟩ t) := by rw [← e125]; exact sSY
  have gC : mg "BadSource" = some (.ref (He.ga K "BadSource")) := He.glo_ok X G (c1.fact 28 (f := .glo "BadSource") rfl)
  have g_len : mg "len" = none := He.free_ok X G (c1.fact 29 (f := .free "len") rfl)
  have g_int : mg "int" = none := He.free_ok X G (c1.fact 30 (f := .free "int") rfl)
  have g_isinstance : mg "isinstance" = none := He.free_ok X G (c1.fact 31 (f := .free "isinstance") rfl)
  have g_str : mg "str" = none := He.free_ok X G (c1.fact 32 (f := .free "str") rfl)
  have g_sum : mg "sum" = none := He.free_ok X G (c1.fact 33 (f := .free "sum") rfl)
  have g_max : mg "max" = none := He.free_ok X G (c1.fact 34 (f := .free "max") rfl)
  have g_all : mg "all" = none := He.free_ok X G (c1.fact 35 (f := .free "all") rfl)
  have g_tuple : mg "tuple" = none := He.free_ok X G (c1.fact 36 (f := .free "tuple") rfl)
  have g_min : mg "min" = none := He.free_ok X G (c1.fact 37 (f := .free "min") rfl)
  have g_range : mg "range" = none := He.free_ok X G (c1.fact 38 (f := .free "range") rfl)
  have g_super : mg "super" = none := He.free_ok X G (c1.fact 39 (f := .free "super") rfl)
  have i_LONGEST_NAME : ∃ t, mg "LONGEST_NAME" = some (.int 40 t) := He.int_ok X G (c1.fact 40 (f := .int "LONGEST_NAME" 40) rfl)
  have i_MOST_DIGITS : ∃ t, mg "MOST_DIGITS" = some (.int 60 t) := He.int_ok X G (c1.fact 41 (f := .int "MOST_DIGITS" 60) rfl)
  have i_LONGEST_SOURCE : ∃ t, mg "LONGEST_SOURCE" = some (.int 2000 t) := He.int_ok X G (c1.fact 42 (f := .int "LONGEST_SOURCE" 2000) rfl)
  have q_OPERATORS : mg "OPERATORS" = some (.ref (He.ga K "OPERATORS")) := He.glo_ok X G (c1.fact 43 (f := .glo "OPERATORS") rfl)
  have q_SIGNS : mg "SIGNS" = some (.ref (He.ga K "SIGNS")) := He.glo_ok X G (c1.fact 44 (f := .glo "SIGNS") rfl)
  have q_VALUE_KINDS : mg "VALUE_KINDS" = some (.ref (He.ga K "VALUE_KINDS")) := He.glo_ok X G (c1.fact 45 (f := .glo "VALUE_KINDS") rfl)
  obtain ⟨T, ET, s15, s16, s17⟩ := sup_all c2 c3 gC g_super
  clear c2 c3
  have tup : ∀ (x : Str) (ws : List (List Nat)), mg x = some (.ref (He.ga K x)) → He.tupB K x (dvs ws) = true → TupAt K mg x ws := fun x ws g b => ⟨_, g, fun H => by
    have := He.tupB_ok b H
    unfold dvs at this
    rw [List.map_map] at this
    exact this⟩
  have M : Mods K mg (He.ga K "name_end") (He.ga K "keyword_end") (He.ga K "string_end") (He.ga K "string_at") (He.ga K "listed_at") (He.ga K "symbol_at") (He.ga K "name_at") (He.ga K "integer_at") fd6 fd7 fd10 fd11 fd13 fd12 fd8 fd9 :=
    { FN := F6, FK := F7, FE := F10, FS := F11, FL := F13, FY := F12, FA := F8, FT := F9, gN := g6, gK := g7, gE := g10, gS := g11, gL := g13, gY := g12, gA := g8, gT := g9, g_len := g_len, g_int := g_int, g_LN := i_LONGEST_NAME, g_MD := i_MOST_DIGITS, g_OP := tup _ _ q_OPERATORS s15, g_SI := tup _ _ q_SIGNS s16 }
  have M2 : Plain K w mg (He.ga K "FIXED") (He.ga K "set_apart") (He.ga K "put_string") (He.ga K "is_symbol") (He.ga K "put_keywords") (He.ga K "surely_binds") (He.ga K "put_other") (He.ga K "words_in") (He.ga K "without_strings") fd37 fd34 fd35 fd33 fd36 fd32 fd31 fd30 :=
    { F_set_apart := F37, g_set_apart := g37, F_put_string := F34, g_put_string := g34, F_is_symbol := F35, g_is_symbol := g35, F_put_keywords := F33, g_put_keywords := g33, F_surely_binds := F36, g_surely_binds := g36, F_put_other := F32, g_put_other := g32, F_words_in := F31, g_words_in := g31, F_without_strings := F30, g_without_strings := g30, g_len := g_len, g_all := g_all, g_int := g_int, g_FIXED := gFX, hF := fix_ok c4 cfix, g_VK := tup _ _ q_VALUE_KINDS s17, g_LN := i_LONGEST_NAME, g_MD := i_MOST_DIGITS, g_AR := sAR, g_ST := sST, g_SY := sSY }
  have e := hfa.symm.trans g27
  cases e
  have bl := FunD.bindsA (ps := ["_law_script"]) F27 fun _ _ _ _ _ _ us hl => match us, hl with | [_], _ => rfl
  refine ⟨fd27, fun s v => bl s [v] rfl, fun base _ _ => ?_⟩
  have GW : FnOk P0 w K mg base (L2.CX P0 w) 20 (He.ga K "words_of") fd0 ["source"] (spWords K (He.ga K "BadSource")) := ok_words_of F0 M T gC F1 F2 F5 F3 F4 F28 F29 g1 g2 g5 g3 g4 g28 g29 g_isinstance g_str i_LONGEST_SOURCE M2
  have bW : KBinds K fd0 ["source"] ["source"] (fun us ws => us ++ ws) (fun vs zs => vs ++ zs) := by
    obtain ⟨oc, od, dV, kV, doc, pm, an, cdv, ct, osl, rfl, lk, hcd, hD, hK⟩ := F0.ex
    rcases hD with ⟨_, rfl⟩ | ⟨e, _⟩
    · refine ⟨fun s us ws _ hl => ?_, fun r rz => r.append rz⟩
      match us, ws, hl with
      | [], [v], _ => exact .of_eq (by first | rfl | with_unfolding_all rfl)
      | [v], [], _ => exact .of_eq (by first | rfl | with_unfolding_all rfl)
      | [], [], hl => cases hl
      | [], _ :: _ :: _, hl => cases hl
      | [_], _ :: _, hl => cases hl
      | _ :: _ :: _, _, hl => cases hl
    · exact absurd rfl e
  have GO : FnOk P0 w K mg base CX0 21 (He.ga K "_law_told") fd23 ["_law_text"] (spTold K) := ok_told F23 ET GW g0 F0.kp bW
  have bO : Binds K fd23 ["_law_text"] [] := F23.bindsN fun _ _ _ _ _ _ us hl => match us, hl with | [_], _ => rfl
  have GA : FnOk P0 w K mg base CX0 4 (He.ga K "_law_ahead") fd22 ["_law_bag_here"] spAhead := ok_ahead F22 F16 F15 g16 g15 g_int g_len
  have bA : Binds K fd22 ["_law_bag_here"] [] := F22.bindsN fun _ _ _ _ _ _ us hl => match us, hl with | [_], _ => rfl
  have GK : FnOk P0 w K mg base CX0 3 (He.ga K "_law_pick") fd16 ["_law_bag_here", "_law_things"] (spPick K) := ok_pick F16 F15 g15 g_int g_len
  have bK : Binds K fd16 ["_law_bag_here", "_law_things"] [] := F16.bindsN fun _ _ _ _ _ _ us hl => match us, hl with | [_, _], _ => rfl
  have GR : FnOk P0 w K mg base CX0 25 (He.ga K "_law_row_right") fd24 ["_law_bag_here", "_law_row"] (spRowRight K) := ok_row_right (fW := 0) (C := 0) F24 GA g22 F22.kp bA GO g23 F23.kp bO g_len g_all g_isinstance g_tuple
  have bR : Binds K fd24 ["_law_bag_here", "_law_row"] [] := F24.bindsN fun _ _ _ _ _ _ us hl => match us, hl with | [_, _], _ => rfl
  have B1 : Binds K fd17 [] [] := F17.bindsN (ps := []) fun _ _ _ _ _ _ us hl => match us, hl with | [], _ => rfl
  have B2 : Binds K fd18 [] [] := F18.bindsN (ps := []) fun _ _ _ _ _ _ us hl => match us, hl with | [], _ => rfl
  have B3 : Binds K fd19 [] [] := F19.bindsN (ps := []) fun _ _ _ _ _ _ us hl => match us, hl with | [], _ => rfl
  have B4 : Binds K fd20 [] [] := F20.bindsN (ps := []) fun _ _ _ _ _ _ us hl => match us, hl with | [], _ => rfl
  have B5 : Binds K fd21 [] [] := F21.bindsN (ps := []) fun _ _ _ _ _ _ us hl => match us, hl with | [], _ => rfl
  have GL : FnOk P0 w K mg base CX0 25 (He.ga K "_law_long_right") fd25 ["_law_bag_here"] spLong := ok_long F25 GK g16 F16.kp bK GO g23 F23.kp bO g_len g_int
  have bL : Binds K fd25 ["_law_bag_here"] [] := F25.bindsN fun _ _ _ _ _ _ us hl => match us, hl with | [_], _ => rfl
  have GG : FnOk P0 w K mg base CX0 30 (He.ga K "_law_right") fd26 ["_law_bag_here"] spRight := ok_right F26 GK g16 F16.kp bK GO g23 F23.kp bO GA g22 F22.kp bA GR g24 F24.kp bR (ok_names F17) g17 F17.kp B1 (ok_strings F18) g18 F18.kp B2 (ok_numbers F19) g19 F19.kp B3 (ok_arrays F20) g20 F20.kp B4 (ok_bad F21) g21 F21.kp B5 g_len
  have bG : Binds K fd26 ["_law_bag_here"] [] := F26.bindsN fun _ _ _ _ _ _ us hl => match us, hl with | [_], _ => rfl
  have GB : FnOk P0 w K mg base CX0 2 (He.ga K "_law_bag") fd14 ["_law_script", "_law_k"] (spBag K) := ok_bag F14 g_int g_sum g_len g_max
  have bB : Binds K fd14 ["_law_script", "_law_k"] [] := F14.bindsN fun _ _ _ _ _ _ us hl => match us, hl with | [_, _], _ => rfl
  exact ok_law F27 GB g14 F14.kp bB GG g26 F26.kp bG GL g25 F25.kp bL g_len g_max g_min g_range
end My

end
section
set_option Elab.async false
set_option linter.all false
set_option maxRecDepth 100000
set_option maxHeartbeats 0
open PySem PySem.W PySem.Calls PyProof.Rows
theorem PySem.Challenge.cw_imagetalk_k02_words_at_their_edges_holds : PySem.Challenge.rw_imagetalk_k02_words_at_their_edges.Holds := by
  w_on; o_law
  refine HandSHeadRun.head_any (r := OpenLaw.row PySem.Challenge.rw_imagetalk_k02_words_at_their_edges) (q := view (OpenLaw.row PySem.Challenge.rw_imagetalk_k02_words_at_their_edges).prog [54]) (H := My.hk) (ob := My.ob) (M := 20000) (loose := My.loose) (d := HandSHeadRun.topDef (OpenLaw.row PySem.Challenge.rw_imagetalk_k02_words_at_their_edges).prog 54) (kwd := []) My.ob_eq
    (by kernel_rfl) (fun s => by kernel_rfl) My.run (by kernel_rfl) (by kernel_rfl) (by kernel_rfl) (by rfl) (by first | assumption | decide +kernel) (by decide +kernel) ⟨rfl, rfl, rfl, rfl, rfl, by decide +kernel⟩ ?hw ?hc
  case hw => w_witness2
  case hc =>
    refine L2.walk_ofE (l := PySem.Challenge.rw_imagetalk_k02_words_at_their_edges) (n := 63) (k := 40) (x := "_law_script") (CX := L2.CX0) rfl (by decide) (by kernel_rfl) ⟨rfl, by decide, by decide⟩ ?F (fun _ _ _ _ z => z)
    intro w mg fa h Y G hmg0
    obtain ⟨K, KX, c⟩ := Y
    have hmg : mg ("law" : PySem.Str) = some (.ref fa) := by
      have e : (HandSHeadRun.topDef (OpenLaw.row PySem.Challenge.rw_imagetalk_k02_words_at_their_edges).prog 54).name = ("law" : PySem.Str) := by kernel_rfl
      rw [← e]
      exact hmg0
    obtain ⟨fd, hb, hF⟩ := My.facts (w := w) KX G hmg c
    exact ⟨K, fd, My.spLaw K, KX, hb, fun H a ns hl _ hS => ⟨a, ns, rfl, hS, hl, fun _ => rfl⟩, hF⟩

end
