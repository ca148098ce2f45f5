import PyProof.Rows.All
import Wide.All
import OpenK.AllK
import Wide.FinOn
import HandS.ForMost
import HandS.Wide
import HandS.Flow
import HandS.Defaults
import HandS.WordsExc
import HandS.Codes
import PySem.Challenge.RW_imagetalk_k01_words_put_together
import HandS.ForExc
import HandS.ExcField
import HandS.IsInst
import HandS.StrMore
import HandS.AnyAll
import HandS.More
import HandS.Zip
import HandS.Dict
import HandS.ReplaceDef
import HandS.ReplaceLit
import HandS.ReplaceList
import KE.KExcTry
import KE.KExcStr
import KE.KExcSuper
import HandS.FStr
import HandS.Words
import HandS.WideBits
import KE.KStateDown
import Lean
import HandS.Base
import HandS.Call
import HandS.Ends
import HandS.Head0
import HandS.Head1
import HandS.Head2
import HandS.HeadEnd
import HandS.HeadHook1
import HandS.HeadHook2
import HandS.HeadHook3
import Wide.Once
section
set_option Elab.async false
set_option linter.all false
set_option maxRecDepth 100000
set_option maxHeartbeats 2000000
namespace My
open PySem PySem.Spec PyProof.Rows L2
def top (i : Nat) : Stmt := PySem.Challenge.pw_imagetalk_k01_words_put_together.main.body.getD i (.Pass ⟨0, 0, 0, 0⟩)
abbrev s_law_bag : Stmt := top 41
abbrev s_law_take : Stmt := top 42
abbrev s_law_pick : Stmt := top 43
abbrev FnP (K : PySem.W.Frag) (x : Str) (st : Stmt) (f : Addr) (fd : FuncData) : Prop := FunD K x x (defArgs st) (defBody st) (defScope st) [] [] f fd
/-- what a bag's three numbers may be, n takes behind its making -/
structure BagN (n : Nat) (x y z : Int) : Prop where
  x0 : 0 ≤ x
  y0 : 0 ≤ y
  y1 : y.natAbs < 2 ^ 134
  z0 : 0 ≤ z
  z1 : z ≤ (n : Int)
/-- take(bag, many): a number below many, the bag changed -/
def spTake : Sp := fun vs H Q _ => ∃ (b : Addr) (n : Nat) (x y z m : Int), vs = [.ref b, .int m] ∧ H b = some (.lst [.int x, .int y, .int z]) ∧ BagN n x y z ∧ n < 1000000 ∧ 0 < m ∧ m < 2 ^ 30 ∧
  ∀ (r x' y' z' : Int), 0 ≤ r → r < m → BagN (n + 1) x' y' z' → Q (.int r) (upd H b (.lst [.int x', .int y', .int z']))
theorem upd_upd {H : Hp} {b : Addr} {o o' : HO} : upd (upd H b o) b o' = upd H b o' := by
  funext a
  by_cases h : a = b
  · subst h
    rw [upd_same, upd_same]
  · rw [upd_ne h, upd_ne h, upd_ne h]
section
variable {P : Program} {w : World} {K : PySem.W.Frag} {mg : Str → Option Value} {base : Heap}
theorem sc_law_take : FnScope ["_law_bag_here", "_law_many", "_law_found", "_law_mark"] ["_law_bag_here", "_law_many"] (defScope s_law_take) := ⟨rfl, rfl, rfl, by decide +kernel, rfl, by decide +kernel, by decide +kernel⟩
theorem ok_take {f : Addr} {fd : FuncData} (F : FnP K "_law_take" s_law_take f fd) (g_int : mg "int" = none) : FnOk P w K mg base CX0 2 f fd ["_law_bag_here", "_law_many"] spTake := by
  refine F.ok sc_law_take (fun vs H Q E h => ?_) (fun cdv A outer s H vs Q E hr h => ⟨_, PSs.nox
    (pss_cons (ps_if (pt_cmpR op_gt (pe_ix ix_list (pv 0) pe_int (fun _ _ => rfl)) pe_int (nomark _)) (pss_cons (ps_set (i := 2) sc_law_take.nd rfl (Or.inl rfl) (pe_op op_modN (pe_callTy call_int1 (by rfl) g_int (by decide +kernel) (pa_cons (pe_ix ix_list (pv 0) pe_int (fun _ _ => rfl)) pa_nil)) (pv 1)))
      (pss_cons (ps_asg (pe_op op_fdivW (pe_ix ix_list (pv 0) pe_int (fun _ _ => rfl)) (pv 1)) (pg_sub (pv 0) pe_int set_list))
      (pss_one (ps_ret (pv 2))))) pss_nil)
      (pss_cons (ps_asg (pe_op op_add (pe_ix ix_list (pv 0) pe_int (fun _ _ => rfl)) pe_int) (pg_sub (pv 0) pe_int set_list))
      (pss_cons (ps_set (i := 3) sc_law_take.nd rfl (Or.inl rfl) (pe_op op_add (pe_op op_mulW (pe_op op_add (pe_ix ix_list (pv 0) pe_int (fun _ _ => rfl)) pe_int) (pe_op op_add (pe_op op_mulW pe_int (pe_ix ix_list (pv 0) pe_int (fun _ _ => rfl))) pe_int)) (pe_op op_mulW (pe_op op_mulW pe_int (pe_ix ix_list (pv 0) pe_int (fun _ _ => rfl))) (pe_ix ix_list (pv 0) pe_int (fun _ _ => rfl)))))
      (pss_cons (ps_set (i := 3) sc_law_take.nd rfl (Or.inl rfl) (pe_op op_modN (pe_callTy call_int1 (by rfl) g_int (by decide +kernel) (pa_cons (pe_op op_mulW (pv 3) (pv 3)) pa_nil)) (pe_op op_add (pe_op op_pow pe_int pe_int) pe_int)))
      (pss_cons (ps_set (i := 3) sc_law_take.nd rfl (Or.inl rfl) (pe_op op_modN (pe_callTy call_int1 (by rfl) g_int (by decide +kernel) (pa_cons (pe_op op_mulW (pv 3) (pe_op op_add (pv 3) pe_int)) pa_nil)) (pe_op op_add (pe_op op_pow pe_int pe_int) pe_int)))
      (pss_one (ps_ret (pe_op op_modN (pe_callTy call_int1 (by rfl) g_int (by decide +kernel) (pa_cons (pe_op op_fdivW (pv 3) pe_int) pa_nil)) (pv 1))))))))), ?_⟩)
  · obtain ⟨b, n, x, y, z, m, rfl, _⟩ := h
    rfl
  · obtain ⟨b, n, x, y, z, m, rfl, hb, hB, hn, m0, m1, k⟩ := h
    have hm : m.natAbs < 2 ^ 30 := by omega
    have hx0 := hB.x0
    have hy0 := hB.y0
    have hz0 := hB.z0
    have hz1 := hB.z1
    refine ⟨_, rfl, _, _, _, _, rfl, rfl, SqL.of hb, rfl, _, _, rfl, rfl, _, rfl, ?_⟩
    refine ite2 (fun hx => ?_) (fun hx => ?_)
    · refine ⟨_, rfl, _, _, _, _, rfl, rfl, SqL.of hb, rfl, .inl ⟨_, rfl, _, rfl, _, _, rfl, rfl, (by omega), ?_⟩⟩
      refine ⟨_, rfl, _, _, _, _, rfl, rfl, SqL.of hb, rfl, _, rfl, _, _, rfl, rfl, wide_div m0 hm (by decide) (by decide), ?_⟩
      refine ⟨_, rfl, _, _, _, _, rfl, rfl, hb, rfl, ?_⟩
      refine ⟨_, rfl, ?_⟩
      have e1 : x / m ≤ x := Int.ediv_le_self _ hx0
      have e2 : 0 ≤ x / m := Int.ediv_nonneg hx0 (Int.le_of_lt m0)
      exact k (x.fmod m) (x / m) y z (Int.fmod_nonneg_of_pos _ m0) (Int.fmod_lt_of_pos _ m0) ⟨e2, hy0, hB.y1, hz0, by omega⟩
    · refine ⟨_, rfl, _, _, _, _, rfl, rfl, SqL.of hb, rfl, _, _, rfl, rfl, ?_⟩
      refine ⟨_, rfl, _, _, _, _, rfl, rfl, hb, rfl, ?_⟩
      have hb2 : (upd H b (.lst [.int x, .int y, .int (z + 1)])) b = some (.lst [.int x, .int y, .int (z + 1)]) := upd_same
      have bz : (z + 1).natAbs < 2 ^ 20 := by omega
      have by1 : (y + 1).natAbs < 2 ^ 135 := by
        have := hB.y1
        have e : (2 : Nat) ^ 135 = 2 ^ 134 * 2 := by decide
        omega
      have c1 : (30011 * (z + 1) : Int).natAbs < 2 ^ 40 := by omega
      have c2 : (30011 * (z + 1) + 7 : Int).natAbs < 2 ^ 41 := by omega
      have d1 : ((y + 1) * (30011 * (z + 1) + 7)).natAbs < 2 ^ (135 + 41) := wide_lt by1 c2
      have d2 : (104729 * (z + 1) : Int).natAbs < 2 ^ 40 := by omega
      have d3 : (104729 * (z + 1) * (z + 1)).natAbs < 2 ^ (40 + 20) := wide_lt d2 bz
      have d4 : ((y + 1) * (30011 * (z + 1) + 7) + 104729 * (z + 1) * (z + 1)).natAbs < 2 ^ 200 := by
        have e1 : (2 : Nat) ^ 200 = 2 ^ (135 + 41) * 2 ^ 24 := by decide
        have e2 : (2 : Nat) ^ (135 + 41) = 2 ^ (40 + 20) * 2 ^ 116 := by decide
        have e3 := Int.natAbs_add_le ((y + 1) * (30011 * (z + 1) + 7)) (104729 * (z + 1) * (z + 1))
        omega
      refine ⟨_, rfl, _, _, _, _, rfl, rfl, SqL.of hb2, rfl, _, _, rfl, rfl, ?_⟩
      refine ⟨_, rfl, _, _, _, _, rfl, rfl, SqL.of hb2, rfl, _, _, rfl, rfl, wide_mul (a := 64) (b := 20) (by decide) bz (by decide) (by decide) (by decide), _, _, rfl, rfl, ?_⟩
      refine ⟨_, _, rfl, rfl, wide_mul by1 c2 (by decide) (by decide) (by decide), ?_⟩
      refine ⟨_, rfl, _, _, _, _, rfl, rfl, SqL.of hb2, rfl, _, _, rfl, rfl, wide_mul (a := 64) (b := 20) (by decide) bz (by decide) (by decide) (by decide), ?_⟩
      refine ⟨_, rfl, _, _, _, _, rfl, rfl, SqL.of hb2, rfl, _, _, rfl, rfl, wide_mul d2 bz (by decide) (by decide) (by decide), ?_⟩
      refine ⟨_, _, rfl, rfl, ?_⟩
      refine ⟨_, rfl, _, rfl, _, _, rfl, rfl, wide_mul d4 d4 (by decide) (by decide) (by decide), .inl ⟨_, rfl, ?_⟩⟩
      refine ⟨_, _, rfl, rfl, ⟨by decide, by decide, by decide⟩, _, _, rfl, rfl, _, _, rfl, rfl, (show (10 ^ Int.toNat 41 + 37 : Int) ≠ 0 by decide), ?_⟩
      generalize hM : ((y + 1) * (30011 * (z + 1) + 7) + 104729 * (z + 1) * (z + 1)) * ((y + 1) * (30011 * (z + 1) + 7) + 104729 * (z + 1) * (z + 1)) = M
      have m2a : (M.fmod (10 ^ 41 + 37)).natAbs < 2 ^ 140 := by
        have a1 := Int.fmod_nonneg_of_pos M (b := 10 ^ 41 + 37) (by decide)
        have a2 := Int.fmod_lt_of_pos M (b := 10 ^ 41 + 37) (by decide)
        omega
      have m2b : (M.fmod (10 ^ 41 + 37) + 97).natAbs < 2 ^ 140 := by
        have a1 := Int.fmod_nonneg_of_pos M (b := 10 ^ 41 + 37) (by decide)
        have a2 := Int.fmod_lt_of_pos M (b := 10 ^ 41 + 37) (by decide)
        omega
      refine ⟨_, rfl, _, rfl, _, _, rfl, rfl, _, _, rfl, rfl, wide_mul m2a m2b (by decide) (by decide) (by decide), .inl ⟨_, rfl, ?_⟩⟩
      refine ⟨_, _, rfl, rfl, ⟨by decide, by decide, by decide⟩, _, _, rfl, rfl, _, _, rfl, rfl, (show (10 ^ Int.toNat 40 + 4323 : Int) ≠ 0 by decide), ?_⟩
      refine ⟨_, rfl, _, _, rfl, rfl, wide_div (b := 20) (by decide) (by decide) (by decide) (by decide), .inl ⟨_, rfl, _, rfl, _, _, rfl, rfl, (by omega), ?_⟩⟩
      exact k _ x y (z + 1) (Int.fmod_nonneg_of_pos _ m0) (Int.fmod_lt_of_pos _ m0) ⟨hx0, hy0, hB.y1, by omega, by omega⟩
/-- bag(script, k) -/
def spBag (K : PySem.W.Frag) : Sp := fun vs H Q _ => ∃ (a : Addr) (ns : List Int) (j : Nat), vs = [.ref a, .int (j : Int)] ∧ SqL K H a (ns.map V.int) ∧ j ≤ 100 ∧ ns.length ≤ 100 ∧
  ∀ (H' : Hp) (p : Addr) (x y z : Int), Same H H' → H p = none → H' p = some (.lst [.int x, .int y, .int z]) → BagN 10000 x y z → Q (.ref p) H'
theorem sc_law_bag : FnScope ["_law_script", "_law_k", "_law_cell"] ["_law_script", "_law_k"] (defScope s_law_bag) := ⟨rfl, rfl, rfl, by decide +kernel, rfl, by decide +kernel, by decide +kernel⟩
theorem ok_bag {f : Addr} {fd : FuncData} (F : FnP K "_law_bag" s_law_bag f fd) (g_int : mg "int" = none) (g_sum : mg "sum" = none) (g_len : mg "len" = none) (g_max : mg "max" = none) : FnOk P w K mg base CX0 2 f fd ["_law_script", "_law_k"] (spBag K) := by
  refine F.ok sc_law_bag (fun vs H Q E h => ?_) (fun cdv A outer s H vs Q E hr h => ⟨_, PSs.nox
    (pss_cons (ps_set (i := 2) sc_law_bag.nd rfl (Or.inl rfl) (pe_op op_modN (pe_callTy call_int1 (by rfl) g_int (by decide +kernel) (pa_cons (pe_callB (cr_sum rfl) (by rfl) g_sum (by decide +kernel) (pa_cons (pe_slice sl_list (pv 0) po_none (po_some pe_int)) pa_nil)) pa_nil)) pe_int))
      (C8.pss_cut (ps_if (pt_cmpR op_lt (pv 1) (pe_callB call_len_seq (by rfl) g_len PySem.boot_len (pa_cons (pv 0) pa_nil)) (nomark _)) (pss_one (ps_set (i := 2) sc_law_bag.nd rfl (Or.inl rfl) (pe_ix ix_list (pv 0) (pv 1) (fun _ _ => rfl)))) pss_nil)
      (pss_one (ps_ret (pe_lst (pa_cons (pe_callB (call_max2 rfl) (by rfl) g_max (by decide +kernel) (pa_cons pe_int (pa_cons (pe_op op_sub (pv 2) (pe_op op_pow pe_int pe_int)) pa_nil))) (pa_cons (pe_op op_modN (pe_callTy call_int1 (by rfl) g_int (by decide +kernel) (pa_cons (pv 2) pa_nil)) (pe_op op_add (pe_op op_pow pe_int pe_int) pe_int)) (pa_cons (pe_op op_mulW pe_int (pv 1)) pa_nil)))))))), ?_⟩)
  · obtain ⟨a, ns, j, rfl, _⟩ := h
    rfl
  · obtain ⟨a, ns, j, rfl, hS, hj, hl, k⟩ := h
    refine ⟨_, rfl, _, rfl, _, _, rfl, hS, fun p np => ?_⟩
    have e1 : cutV (ns.map V.int) none (some 1) = (ns.take 1).map V.int := by
      cases ns with
      | nil => rfl
      | cons a r =>
        show ((List.map V.int (a :: r)).drop 0).take (min (Int.toNat 1) (List.map V.int (a :: r)).length - 0) = _
        simp
    have hp1 : (upd H p (.lst (cutV (ns.map V.int) none (some 1)))) p = some (.lst ((ns.take 1).map V.int)) := by rw [upd_same, e1]
    refine ⟨_, ns.take 1, rfl, SqL.of hp1, .inl ⟨_, rfl, _, _, rfl, rfl, (show (1000003 : Int) ≠ 0 by decide), ?_⟩⟩
    have hS1 : SqL K (upd H p (.lst (cutV (ns.map V.int) none (some 1)))) a (ns.map V.int) := Same.seq (fun b o e => by rw [upd_ne (ne_of_none e np)]; exact e) hS
    have s1 : Same H (upd H p (.lst (cutV (ns.map V.int) none (some 1)))) := fun b o e => by rw [upd_ne (ne_of_none e np)]; exact e
    generalize upd H p (.lst (cutV (ns.map V.int) none (some 1))) = H1 at hS1 s1
    refine ⟨fun σ' H' => ∃ c : Int, σ' = [some (.ref a), some (.int (j : Int)), some (.int c)] ∧ H' = H1, ?_, ?_⟩
    · refine ⟨_, rfl, _, rfl, _, _, rfl, .inl hS1, _, _, rfl, rfl, _, rfl, ?_⟩
      refine ite2 (fun hx => ?_) (fun hx => ?_)
      · have hx := of_decide_eq_true hx
        rw [List.length_map] at hx
        have hjl : j < ns.length := by omega
        have hg : (ns.map V.int)[j]? = some (V.int ns[j]) := by rw [List.getElem?_map, List.getElem?_eq_getElem hjl]; rfl
        refine ⟨_, rfl, _, rfl, _, _, _, _, rfl, rfl, hS1, atI_nat hg, ?_⟩
        exact ⟨_, rfl, rfl⟩
      · exact ⟨_, rfl, rfl⟩
    · rintro _ _ ⟨c, rfl, rfl⟩
      refine ⟨_, rfl, _, _, rfl, rfl, ⟨by decide, by decide, by decide⟩, _, _, rfl, rfl, ?_⟩
      refine ⟨_, _, rfl, _, rfl, .inl ⟨_, rfl, _, _, rfl, rfl, ⟨by decide, by decide, by decide⟩, _, _, rfl, rfl, _, _, rfl, rfl, (show (10 ^ Int.toNat 40 + 121 : Int) ≠ 0 by decide), ?_⟩⟩
      refine ⟨_, rfl, _, _, rfl, rfl, wide_mul (a := 64) (b := 20) (by decide) (by omega) (by decide) (by decide) (by decide), (by show 3 ≤ sizeLine; decide), fun p2 np2 => ?_⟩
      have a1 := Int.fmod_nonneg_of_pos c (b := 10 ^ Int.toNat 40 + 121) (by decide)
      have a2 := Int.fmod_lt_of_pos c (b := 10 ^ Int.toNat 40 + 121) (by decide)
      refine k _ p2 _ _ _ (s1.trans fun b o e => by rw [upd_ne (ne_of_none e np2)]; exact e) (s1.free np2) upd_same ⟨?_, a1, ?_, by omega, by omega⟩
      · split <;> omega
      · have e : (10 ^ Int.toNat 40 + 121 : Int) = 10 ^ 40 + 121 := rfl
        rw [e] at a1 a2
        have e2 : (10 ^ 40 + 121 : Int) ≤ 2 ^ 134 := by decide
        show (c.fmod (10 ^ 40 + 121)).natAbs < 2 ^ 134
        omega
/-- pick(bag, things): one of them, out of a list, a tuple or a text -/
def spPick (K : PySem.W.Frag) : Sp := fun vs H Q _ => ∃ (b : Addr) (n : Nat) (x y z : Int), H b = some (.lst [.int x, .int y, .int z]) ∧ BagN n x y z ∧ n < 1000000 ∧
  ((∃ (p : Addr) (xs : List V), vs = [.ref b, .ref p] ∧ ((∀ x' y' z' : Int, SqL K (upd H b (.lst [.int x', .int y', .int z'])) p xs) ∨ ∀ x' y' z' : Int, SqT K (upd H b (.lst [.int x', .int y', .int z'])) p xs) ∧
      0 < xs.length ∧ xs.length < 1000000 ∧
      ∀ (i : Nat) (v : V) (x' y' z' : Int), xs[i]? = some v → BagN (n + 1) x' y' z' → Q v (upd H b (.lst [.int x', .int y', .int z']))) ∨
   (∃ (t : Str), vs = [.ref b, .str t] ∧ 0 < t.cps.toList.length ∧ t.cps.toList.length < 1000000 ∧
      ∀ (i : Nat) (c : Nat) (x' y' z' : Int), t.cps.toList[i]? = some c → BagN (n + 1) x' y' z' → Q (.str ⟨#[c]⟩) (upd H b (.lst [.int x', .int y', .int z']))))
theorem upd_id {H : Hp} {b : Addr} {o : HO} (h : H b = some o) : upd H b o = H := by
  funext a
  by_cases e : a = b
  · subst e
    rw [upd_same, h]
  · rw [upd_ne e]
theorem sc_law_pick : FnScope ["_law_bag_here", "_law_things"] ["_law_bag_here", "_law_things"] (defScope s_law_pick) := ⟨rfl, rfl, rfl, by decide +kernel, rfl, by decide +kernel, by decide +kernel⟩
theorem ok_pick {f fT : Addr} {fd fdT : FuncData} (F : FnP K "_law_pick" s_law_pick f fd) (FT : FnP K "_law_take" s_law_take fT fdT) (g_law_take : mg "_law_take" = some (.ref fT)) (g_int : mg "int" = none) (g_len : mg "len" = none) :
    FnOk P w K mg base CX0 3 f fd ["_law_bag_here", "_law_things"] (spPick K) := by
  have G_law_take : FnOk P w K mg base CX0 2 fT fdT _ spTake := ok_take FT g_int
  have b_law_take : Binds K fdT ["_law_bag_here", "_law_many"] [] := FT.bindsN fun _ _ _ _ _ _ us hl => match us, hl with | [_, _], _ => rfl
  have k_law_take := FT.kp
  refine F.ok sc_law_pick (fun vs H Q E h => ?_) (fun cdv A outer s H vs Q E hr h => ⟨_, PSs.nox
    (pss_one (ps_ret (pe_ix ix_seq (pv 1) (pe_call G_law_take (hr.mono (by decide)) rfl g_law_take k_law_take b_law_take .nil pass0 (pa_cons (pv 0) (pa_cons (pe_callB call_len (by rfl) g_len PySem.boot_len (pa_cons (pv 1) pa_nil)) pa_nil))) (fun _ _ => rfl)))), ?_⟩)
  · rcases h with ⟨b, n, x, y, z, hb, hB, hn, ⟨p, xs, rfl, _⟩ | ⟨t, rfl, _⟩⟩ <;> rfl
  · rcases h with ⟨b, n, x, y, z, hb, hB, hn, ⟨p, xs, rfl, hS, h0, h1, k⟩ | ⟨t, rfl, h0, h1, k⟩⟩
    · have hS0 : SqL K H p xs ∨ SqT K H p xs := by
        rcases hS with h | h
        · have := h x y z
          rw [upd_id hb] at this
          exact .inl this
        · have := h x y z
          rw [upd_id hb] at this
          exact .inr this
      refine ⟨_, rfl, _, rfl, _, rfl, _, xs.length, rfl, ?_, ?_⟩
      · rcases hS0 with h | h
        · exact .inl ⟨_, h, rfl⟩
        · exact .inr ⟨_, h, rfl⟩
      · refine ⟨b, n, x, y, z, _, rfl, hb, hB, hn, by omega, by omega, fun r x' y' z' r0 r1 hB' => ?_⟩
        obtain ⟨j, rfl⟩ : ∃ j : Nat, r = (j : Int) := ⟨r.toNat, by omega⟩
        have hl : j < xs.length := by omega
        have hg : xs[j]? = some xs[j] := List.getElem?_eq_getElem hl
        have ha : atI xs (j : Int) = some xs[j] := atI_nat hg
        rcases hS with h | h
        · exact .inl ⟨_, _, _, _, rfl, rfl, h x' y' z', ha, k _ _ _ _ _ hg hB'⟩
        · exact .inr (.inl ⟨_, _, _, _, rfl, rfl, h x' y' z', ha, k _ _ _ _ _ hg hB'⟩)
    · have hz : t.length = t.cps.toList.length := rfl
      have hs : t.length ≤ sizeLine := Nat.le_trans (by omega : t.length ≤ 1000000) (by decide)
      refine ⟨_, rfl, _, rfl, _, rfl, _, t.length, rfl, ⟨hs, rfl⟩, ?_⟩
      refine ⟨b, n, x, y, z, _, rfl, hb, hB, hn, by omega, by omega, fun r x' y' z' r0 r1 hB' => ?_⟩
      obtain ⟨j, rfl⟩ : ∃ j : Nat, r = (j : Int) := ⟨r.toNat, by omega⟩
      have hl : j < t.cps.toList.length := by omega
      have hg : t.cps.toList[j]? = some t.cps.toList[j] := List.getElem?_eq_getElem hl
      have ha : atI t.cps.toList (j : Int) = some t.cps.toList[j] := atI_nat hg
      exact .inr (.inr ⟨_, _, _, rfl, rfl, hs, ha, k _ _ _ _ _ hg hB'⟩)
end
end My

end
section
set_option Elab.async false
set_option linter.all false
set_option maxRecDepth 100000
set_option maxHeartbeats 2000000
namespace My
open PySem PySem.Spec PyProof.Rows L2
/-! ### data that is written out, and data that stays -/
theorem SqL.mono {K : PySem.W.Frag} {D H : Hp} {a : Addr} {xs : List V} (e : Same D H) (h : SqL K D a xs) : SqL K H a xs := e.seq h
theorem SqT.mono {K : PySem.W.Frag} {D H : Hp} {a : Addr} {xs : List V} (e : Same D H) (h : SqT K D a xs) : SqT K H a xs := by
  rcases h with (h | ⟨o, h⟩) | h
  · exact .inl (.inl (e _ _ h))
  · exact .inl (.inr ⟨o, e _ _ h⟩)
  · exact .inr h
mutual
theorem dp_mono {K : PySem.W.Frag} {D H : Hp} (e : Same D H) : ∀ (d : PyData) (v : V), Dp K D v d → Dp K H v d
  | .none, _, h => by cases h; exact .non
  | .bool b, _, h => by cases h; exact .bl b
  | .int i, _, h => by cases h; exact .int i
  | .str x, _, h => by cases h; exact .str x
  | .list ds, _, h => by
    cases h with
    | lst hs ha => exact .lst (SqL.mono e hs) (dp_monoAll e ds _ ha)
  | .tuple ds, _, h => by
    cases h with
    | tup hs ha => exact .tup (SqT.mono e hs) (dp_monoAll e ds _ ha)
  | .dict _, _, h => by cases h
theorem dp_monoAll {K : PySem.W.Frag} {D H : Hp} (e : Same D H) : ∀ (ds : List PyData) (vs : List V), DpAll K D vs ds → DpAll K H vs ds
  | [], _, h => by cases h; exact .nil
  | d :: ds, _, h => by
    cases h with
    | cons h1 h2 => exact .cons (dp_mono e d _ h1) (dp_monoAll e ds _ h2)
end
theorem dpAll_append {K : PySem.W.Frag} {H : Hp} {vs vs' : List V} {ds ds' : List PyData} (h : DpAll K H vs ds) (h' : DpAll K H vs' ds') : DpAll K H (vs ++ vs') (ds ++ ds') := by
  induction ds generalizing vs with
  | nil => cases h; exact h'
  | cons d ds ih =>
    cases h with
    | cons h1 h2 => exact .cons h1 (ih h2)
theorem dpAll_length {K : PySem.W.Frag} {H : Hp} {vs : List V} {ds : List PyData} (h : DpAll K H vs ds) : vs.length = ds.length := by
  induction ds generalizing vs with
  | nil => cases h; rfl
  | cons d ds ih =>
    cases h with
    | cons h1 h2 => simp [ih h2]
theorem dpAll_get {K : PySem.W.Frag} {H : Hp} {vs : List V} {ds : List PyData} (h : DpAll K H vs ds) {i : Nat} {v : V} (hv : vs[i]? = some v) : ∃ d, ds[i]? = some d ∧ Dp K H v d := by
  induction ds generalizing vs i with
  | nil => cases h; simp at hv
  | cons d ds ih =>
    cases h with
    | cons h1 h2 =>
      cases i with
      | zero => simp at hv; subst hv; exact ⟨d, rfl, h1⟩
      | succ i => exact ih h2 (by simpa using hv)
/-- the part D of the heap: it stands in H', and nothing of it in H -/
structure Part (D H H' : Hp) : Prop where
  inn : Same D H'
  new : ∀ a o, D a = some o → H a = none
theorem part_nil {H H' : Hp} : Part (fun _ => none) H H' := ⟨fun _ _ h => (by cases h), fun _ _ h => (by cases h)⟩
def uni (D E : Hp) : Hp := fun a => match D a with
  | some o => some o
  | none => E a
theorem uni_l {D E : Hp} : Same D (uni D E) := fun a o h => by unfold uni; rw [h]
theorem uni_cases {D E : Hp} {a : Addr} {o : HO} (h : uni D E a = some o) : D a = some o ∨ E a = some o := by
  unfold uni at h
  cases e : D a with
  | none => rw [e] at h; exact .inr h
  | some u => rw [e] at h; exact .inl h
theorem uni_r {D E H : Hp} (h : ∀ a o, D a = some o → H a = none) (hE : Same E H) : Same E (uni D E) := fun a o e => by
  unfold uni
  cases q : D a with
  | none => exact e
  | some u =>
    have z := hE a o e
    rw [h a u q] at z
    cases z
/-! the reading of a written display -/
mutual
def tLit : PyData → TE
  | .none => tC .non
  | .bool b => tC (.bl b)
  | .int i => if i < 0 then tUn (rU fun i => .int (-i)) (tC (.int (-i))) else tC (.int i)
  | .str x => tC (.str x)
  | .list ds => tLst (tLits ds)
  | .tuple ds => tTup (tLits ds)
  | .dict _ => fun _ _ _ => False
def tLits : List PyData → TA
  | [] => tNil
  | d :: ds => tCons (tLit d) (tLits ds)
end
mutual
def litOk : PyData → Bool
  | .dict _ => false
  | .list ds => decide (ds.length ≤ 1000) && litsOk ds
  | .tuple ds => decide (ds.length ≤ 1000) && litsOk ds
  | _ => true
def litsOk : List PyData → Bool
  | [] => true
  | d :: ds => litOk d && litsOk ds
end
mutual
theorem lit_ok {K : PySem.W.Frag} : ∀ (d : PyData), litOk d = true → ∀ (σ : L2.St) (H : Hp) (Q : VK), (∀ v D H', Same H H' → Part D H H' → Dp K D v d → Q v H') → tLit d σ H Q
  | .none, _, σ, H, Q, q => q _ (fun _ => none) H (Same.refl H) part_nil .non
  | .bool b, _, σ, H, Q, q => q _ (fun _ => none) H (Same.refl H) part_nil (.bl b)
  | .int i, _, σ, H, Q, q => by
    unfold tLit
    split
    · refine ⟨_, rfl, ?_⟩
      have := q (.int (- -i)) (fun _ => none) H (Same.refl H) part_nil (by rw [Int.neg_neg]; exact .int i)
      exact this
    · exact q _ (fun _ => none) H (Same.refl H) part_nil (.int i)
  | .str x, _, σ, H, Q, q => q _ (fun _ => none) H (Same.refl H) part_nil (.str x)
  | .list ds, ok, σ, H, Q, q => by
    unfold litOk at ok
    rw [Bool.and_eq_true] at ok
    refine lits_ok (K := K) ds ok.2 σ H _ fun vs D H' e p h => ?_
    have hl : vs.length ≤ 1000 := by rw [dpAll_length h]; exact of_decide_eq_true ok.1
    refine ⟨Nat.le_trans hl (by decide), fun a ha => ?_⟩
    have na : H a = none := e.free ha
    have nD : D a = none := by
      cases z : D a with
      | none => rfl
      | some o => rw [p.inn a o z] at ha; cases ha
    refine q _ (upd D a (.lst vs)) _ (e.trans fun b o z => by rw [upd_ne (ne_of_none z ha)]; exact z) ⟨fun b o z => ?_, fun b o z => ?_⟩ (.lst (SqL.of upd_same) (dp_monoAll (fun b o z => by rw [upd_ne (ne_of_none z nD)]; exact z) ds vs h))
    · by_cases c : b = a
      · subst c
        rw [upd_same] at z ⊢
        exact z
      · rw [upd_ne c] at z ⊢
        exact p.inn b o z
    · by_cases c : b = a
      · rw [c]; exact na
      · rw [upd_ne c] at z
        exact p.new b o z
  | .tuple ds, ok, σ, H, Q, q => by
    unfold litOk at ok
    rw [Bool.and_eq_true] at ok
    refine lits_ok (K := K) ds ok.2 σ H _ fun vs D H' e p h => ?_
    have hl : vs.length ≤ 1000 := by rw [dpAll_length h]; exact of_decide_eq_true ok.1
    refine ⟨Nat.le_trans hl (by decide), fun a ha => ?_⟩
    have na : H a = none := e.free ha
    have nD : D a = none := by
      cases z : D a with
      | none => rfl
      | some o => rw [p.inn a o z] at ha; cases ha
    refine q _ (upd D a (.tup vs)) _ (e.trans fun b o z => by rw [upd_ne (ne_of_none z ha)]; exact z) ⟨fun b o z => ?_, fun b o z => ?_⟩ (.tup (SqT.of upd_same) (dp_monoAll (fun b o z => by rw [upd_ne (ne_of_none z nD)]; exact z) ds vs h))
    · by_cases c : b = a
      · subst c
        rw [upd_same] at z ⊢
        exact z
      · rw [upd_ne c] at z ⊢
        exact p.inn b o z
    · by_cases c : b = a
      · rw [c]; exact na
      · rw [upd_ne c] at z
        exact p.new b o z
  | .dict _, ok, _, _, _, _ => by cases ok
theorem lits_ok {K : PySem.W.Frag} : ∀ (ds : List PyData), litsOk ds = true → ∀ (σ : L2.St) (H : Hp) (Q : List V → Hp → Prop), (∀ vs D H', Same H H' → Part D H H' → DpAll K D vs ds → Q vs H') → tLits ds σ H Q
  | [], _, σ, H, Q, q => q [] (fun _ => none) H (Same.refl H) part_nil .nil
  | d :: ds, ok, σ, H, Q, q => by
    unfold litsOk at ok
    rw [Bool.and_eq_true] at ok
    refine lit_ok (K := K) d ok.1 σ H _ fun v D H1 e p h => ?_
    refine lits_ok (K := K) ds ok.2 σ H1 _ fun vs D2 H2 e2 p2 h2 => ?_
    have hD : Same D H1 := p.inn
    have s2 : Same D (uni D2 D) := uni_r p2.new p.inn
    refine q (v :: vs) (uni D2 D) H2 (e.trans e2) ⟨fun b o z => ?_, fun b o z => ?_⟩ (.cons (dp_mono s2 d v h) (dp_monoAll uni_l ds vs h2))
    · rcases uni_cases z with z | z
      · exact p2.inn b o z
      · exact e2 b o (p.inn b o z)
    · rcases uni_cases z with z | z
      · exact e.free (p2.new b o z)
      · exact p.new b o z
end
/-! ### a text many times -/
section
variable {X : Cx}
theorem mulOk {x : Str} {n : Int} (h0 : 0 ≤ n) (h1 : n ≤ 100000) (h2 : x.length * n.toNat ≤ 100000) : MulOk x n := by
  refine ⟨by simp; omega, fun h3 _ => ?_, fun _ _ => ?_⟩
  · intro h
    have hn : 0 < n := by omega
    have h5 : x.length * 1 ≤ x.length * n.toNat := Nat.mul_le_mul_left _ (by omega)
    have h6 : (100001 : Int) ≤ (2 ^ 63 - 1) / n := by
      rw [Int.le_ediv_iff_mul_le hn]
      have : (100001 : Int) * n ≤ 100001 * 100000 := Int.mul_le_mul_of_nonneg_left h1 (by decide)
      omega
    omega
  · show decide (x.length * n.toNat > sizeLine) = false
    have : (100000 : Nat) ≤ sizeLine := by decide
    simp
    omega
def rRepS : R2 := fun x y H Q => ∃ (s : Str) (n : Int), x = .str s ∧ y = .int n ∧ 0 ≤ n ∧ n ≤ 100000 ∧ s.length * n.toNat ≤ 100000 ∧ Q (.str (Txt.mul s n)) H
theorem op_rep_str : OpR X (binaryOp .Mult) rRepS := by
  intro pins s σ H x y v u Q I rx ry h
  obtain ⟨z, n, rfl, rfl, h0, h1, h2, q⟩ := h
  obtain ⟨t, rfl⟩ := rx
  obtain ⟨t', rfl⟩ := ry
  exact SB.mul (mulOk h0 h1 h2) (fun t' tk => ⟨.str (Txt.mul z n), H, I.tok _, ⟨_, rfl⟩, q⟩)
end
end My

end
section
set_option maxRecDepth 100000
set_option linter.all false
/-! The words of a source, as a plain function over its codes. -/
namespace Tok
inductive Val where
  | s (t : List Nat)
  | i (n : Int)
  deriving DecidableEq
inductive Kd where
  | name | keyword | int | str | sym | op | sign
  deriving DecidableEq
def isAl (c : Nat) : Bool := (65 ≤ c && c ≤ 90) || (97 ≤ c && c ≤ 122)
def isDg (c : Nat) : Bool := 48 ≤ c && c ≤ 57
def isAn (c : Nat) : Bool := isAl c || isDg c
/-- how many of the first satisfy p -/
def run (p : Nat → Bool) : List Nat → Nat
  | [] => 0
  | c :: l => if p c then run p l + 1 else 0
/-- the place of the first c -/
def find (c : Nat) : List Nat → Option Nat
  | [] => none
  | d :: l => if d = c then some 0 else (find c l).map (· + 1)
/-- what blanks, line feeds and comments take at the beginning; an unended comment's place -/
def gap : Nat → List Nat → Except Nat Nat
  | 0, _ => .ok 0
  | _ + 1, [] => .ok 0
  | f + 1, c :: l =>
    if c = 32 ∨ c = 10 then (match gap f l with
      | .ok n => .ok (n + 1)
      | .error n => .error (n + 1))
    else if c = 34 then (match find 34 l with
      | none => .error 0
      | some k => (match gap f (l.drop (k + 1)) with
        | .ok n => .ok (n + k + 2)
        | .error n => .error (n + k + 2)))
    else .ok 0
/-- the length of a name, 0 if there is none -/
def nameLen (l : List Nat) : Nat := match l with
  | [] => 0
  | c :: _ => if isAl c then (if run isAn l ≤ 40 then run isAn l else 0) else 0
/-- the length of a keyword, 0 if there is none -/
def keyLen (l : List Nat) : Nat :=
  if 0 < nameLen l ∧ (l.drop (nameLen l)).head? = some 58 ∧ (l.drop (nameLen l + 1)).head? ≠ some 61 then nameLen l + 1 else 0
def num (l : List Nat) : Nat := l.foldl (fun n c => 10 * n + (c - 48)) 0
/-- a string's length with both quotes, and what it stands for; the list begins behind the first quote -/
def strBody : Nat → List Nat → Option (List Nat × Nat)
  | 0, _ => none
  | _ + 1, [] => none
  | f + 1, c :: l =>
    if c = 39 then (match l with
      | 39 :: r => (match strBody f r with
        | some (t, n) => some (39 :: t, n + 2)
        | none => none)
      | _ => some ([], 1))
    else (match strBody f l with
      | some (t, n) => some (c :: t, n + 1)
      | none => none)
def ops : List (List Nat) := [[43], [45], [42], [47, 47], [92, 92], [60], [62], [60, 61], [62, 61], [61], [61, 61], [126, 61], [126, 126], [44]]
def signs : List (List Nat) := [[58, 61], [35, 40], [40], [41], [91], [93], [58], [124], [94], [46], [59]]
/-- the length of one of these, the longer first, 0 if there is none -/
def listed (ws : List (List Nat)) (l : List Nat) : Nat :=
  if l.take 2 ∈ ws then (l.take 2).length else if l.take 1 ∈ ws then (l.take 1).length else 0
/-- keywords directly behind one another -/
def keysLen : Nat → List Nat → Nat
  | 0, _ => 0
  | f + 1, l => if 0 < keyLen l then keyLen l + keysLen f (l.drop (keyLen l)) else 0
/-- a symbol, behind its # -/
def symbol (l : List Nat) : Option (Val × Nat) :=
  if l.head? = some 39 then (match strBody (l.length) (l.drop 1) with
    | some (t, n) => some (.s t, n + 1)
    | none => none)
  else if 0 < keysLen l.length l then some (.s (l.take (keysLen l.length l)), keysLen l.length l)
  else if 0 < nameLen l then some (.s (l.take (nameLen l)), nameLen l)
  else if 0 < listed ops l then some (.s (l.take (listed ops l)), listed ops l)
  else none
def other (l : List Nat) : Option (Kd × Val × Nat) :=
  if 0 < listed ops l then some (.op, .s (l.take (listed ops l)), listed ops l)
  else if 0 < listed signs l then some (.sign, .s (l.take (listed signs l)), listed signs l)
  else none
/-- the word at the beginning, with its length -/
def word (binds : Bool) (l : List Nat) : Option (Kd × Val × Nat) := match l with
  | [] => none
  | c :: r =>
    if isAl c then
      (if 0 < keyLen l then some (.keyword, .s (l.take (keyLen l)), keyLen l)
       else if 0 < nameLen l then some (.name, .s (l.take (nameLen l)), nameLen l) else other l)
    else if isDg c then (if run isDg l ≤ 60 then some (.int, .i (num (l.take (run isDg l))), run isDg l) else other l)
    else if c = 39 then (match strBody l.length r with
      | some (t, n) => some (.str, .s t, n + 1)
      | none => other l)
    else if c = 35 then (match symbol r with
      | some (v, n) => some (.sym, v, n + 1)
      | none => other l)
    else if c = 45 ∧ binds = true then (if 0 < run isDg r ∧ run isDg r ≤ 60 then some (.int, .i (-(num (r.take (run isDg r)) : Int)), run isDg r + 1) else other l)
    else other l
abbrev W : Type := Kd × Val × Nat
/-- whether a minus belongs to the digits behind it -/
def binds (par : List Bool) (last : Option (Kd × Val)) : Bool :=
  par.any id || (match last with
    | none => true
    | some (k, v) => !(k = .name || k = .int || k = .str || k = .sym) && !(v = .s [41] || v = .s [93]))
def note (par : List Bool) (k : Kd) (v : Val) : List Bool :=
  if k = .sign ∧ v = .s [40] then par ++ [false] else if k = .sign ∧ v = .s [35, 40] then par ++ [true] else if k = .sign ∧ v = .s [41] then par.dropLast else par
/-- the words of what is left, from place p on -/
def toks : Nat → List Nat → Nat → List Bool → Option (Kd × Val) → Except Nat (List W)
  | 0, _, _, _, _ => .ok []
  | f + 1, l, p, par, last =>
    match gap l.length l with
    | .error n => .error (p + n)
    | .ok n =>
      if l.drop n = [] then .ok [] else
      match word (binds par last) (l.drop n) with
      | none => .error (p + n)
      | some (k, v, m) =>
        match toks f (l.drop (n + m)) (p + n + m) (note par k v) (some (k, v)) with
        | .ok ws => .ok ((k, v, p + n) :: ws)
        | .error q => .error q
def isSource (l : List Nat) : Bool := l.all (fun c => c == 10 || (32 ≤ c && c ≤ 126)) && l.length ≤ 2000
def words (l : List Nat) : Except Nat (List W) := toks (l.length + 1) l 0 [] none
instance decExc {ε α : Type} [DecidableEq ε] [DecidableEq α] : DecidableEq (Except ε α) := fun a b => match a, b with
  | .ok x, .ok y => if h : x = y then .isTrue (h ▸ rfl) else .isFalse fun e => h (Except.ok.inj e)
  | .error x, .error y => if h : x = y then .isTrue (h ▸ rfl) else .isFalse fun e => h (Except.error.inj e)
  | .ok _, .error _ => .isFalse fun e => nomatch e
  | .error _, .ok _ => .isFalse fun e => nomatch e
def codes (s : String) : List Nat := s.toList.map Char.toNat

/-! ### the mathematics -/
def shiftE (k : Nat) : Except Nat Nat → Except Nat Nat
  | .ok n => .ok (n + k)
  | .error n => .error (n + k)
theorem find_lt : ∀ {l : List Nat} {c k : Nat}, find c l = some k → k < l.length
  | [], _, _, h => by cases h
  | d :: l, c, k, h => by
    unfold find at h
    split at h
    · cases h
      simp
    · cases e : find c l with
      | none => rw [e] at h; cases h
      | some j =>
        rw [e] at h
        have := find_lt e
        cases h
        simp only [List.length_cons]
        omega
theorem find_app : ∀ {l : List Nat} {c k : Nat} (s : List Nat), find c l = some k → find c (l ++ s) = some k
  | [], _, _, _, h => by cases h
  | d :: l, c, k, s, h => by
    unfold find at h
    rw [List.cons_append]
    unfold find
    split at h
    · rename_i e
      rw [if_pos e]
      exact h
    · rename_i e
      rw [if_neg e]
      cases e2 : find c l with
      | none => rw [e2] at h; cases h
      | some j => rw [e2] at h; rw [find_app s e2]; exact h
theorem gap_fuel : ∀ (f g : Nat) (l : List Nat), l.length ≤ f → l.length ≤ g → gap f l = gap g l
  | 0, g, l, h, _ => by
    cases l with
    | nil => cases g <;> rfl
    | cons c l => simp at h
  | f + 1, g, [], _, _ => by cases g <;> rfl
  | f + 1, g, c :: l, h, h2 => by
    cases g with
    | zero => simp at h2
    | succ g =>
      simp only [List.length_cons] at h h2
      unfold gap
      have e1 := gap_fuel f g l (by omega) (by omega)
      rw [e1]
      split
      · rfl
      · split
        · cases e : find 34 l with
          | none => rfl
          | some k =>
            have hk := find_lt e
            have e2 := gap_fuel f g (l.drop (k + 1)) (by simp; omega) (by simp; omega)
            simp only [e2]
        · rfl
/-- g is a whole gap: what follows it is looked at anew -/
def IsGap (g : List Nat) : Prop := ∀ s : List Nat, gap (g ++ s).length (g ++ s) = shiftE g.length (gap s.length s)
theorem shiftE_zero (x : Except Nat Nat) : shiftE 0 x = x := by cases x <;> rfl
theorem shiftE_add (a b : Nat) (x : Except Nat Nat) : shiftE a (shiftE b x) = shiftE (b + a) x := by cases x <;> simp [shiftE, Nat.add_assoc]
theorem isGap_nil : IsGap [] := fun s => (shiftE_zero _).symm
theorem isGap_app {a b : List Nat} (ha : IsGap a) (hb : IsGap b) : IsGap (a ++ b) := fun s => by
  rw [List.append_assoc, ha, hb, shiftE_add, List.length_append, Nat.add_comm]
theorem isGap_blank {c : Nat} (h : c = 32 ∨ c = 10) : IsGap [c] := fun s => by
  show gap (s.length + 1) (c :: s) = _
  conv => lhs; unfold gap
  rw [if_pos h]
  cases gap s.length s <;> rfl
theorem isGap_comment {t : List Nat} (h : 34 ∉ t) : IsGap (34 :: t ++ [34]) := fun s => by
  have e : find 34 ((t ++ [34]) ++ s) = some t.length := by
    apply find_app
    clear s
    induction t with
    | nil => rfl
    | cons d t ih =>
      rw [List.cons_append]
      unfold find
      rw [if_neg (by intro z; subst z; exact h (List.mem_cons_self ..)), ih (fun z => h (List.mem_cons_of_mem _ z))]
      rfl
  show gap (((t ++ [34]) ++ s).length + 1) (34 :: ((t ++ [34]) ++ s)) = _
  conv => lhs; unfold gap
  rw [if_neg (by decide), if_pos rfl, e]
  have d : ((t ++ [34]) ++ s).drop (t.length + 1) = s := by
    rw [show t.length + 1 = (t ++ [34]).length by simp, List.drop_left]
  simp only [d]
  rw [gap_fuel _ s.length s (by simp; omega) (Nat.le_refl _)]
  cases gap s.length s <;> simp [shiftE] <;> omega
def rep (n : Nat) (g : List Nat) : List Nat := (List.replicate n g).flatten
theorem isGap_rep {g : List Nat} (h : IsGap g) : ∀ n, IsGap (rep n g)
  | 0 => isGap_nil
  | n + 1 => by
    have e : rep (n + 1) g = g ++ rep n g := by simp [rep, List.replicate_succ]
    rw [e]
    exact isGap_app h (isGap_rep h n)
theorem run_le (p : Nat → Bool) : ∀ l : List Nat, run p l ≤ l.length
  | [] => Nat.le_refl _
  | c :: l => by
    unfold run
    have := run_le p l
    split <;> simp <;> omega
theorem gap_le : ∀ (f : Nat) (l : List Nat) (n : Nat), gap f l = .ok n → n ≤ l.length
  | 0, l, n, h => by cases h; simp
  | f + 1, [], n, h => by cases h; simp
  | f + 1, c :: l, n, h => by
    unfold gap at h
    split at h
    · cases e : gap f l with
      | error m => rw [e] at h; cases h
      | ok m =>
        rw [e] at h
        cases h
        have := gap_le f l m e
        simp
        omega
    · split at h
      · cases e : find 34 l with
        | none => rw [e] at h; cases h
        | some k =>
          have hk := find_lt e
          cases e2 : gap f (l.drop (k + 1)) with
          | error m => simp only [e, e2] at h; cases h
          | ok m =>
            simp only [e, e2] at h
            cases h
            have := gap_le f _ m e2
            simp at this ⊢
            omega
      · cases h
        simp
theorem other_pos {l : List Nat} {k : Kd} {v : Val} {m : Nat} (h : other l = some (k, v, m)) : 0 < m := by
  unfold other at h
  split at h
  · cases h; assumption
  · split at h
    · cases h; assumption
    · cases h
theorem word_pos {b : Bool} {l : List Nat} {k : Kd} {v : Val} {m : Nat} (h : word b l = some (k, v, m)) : 0 < m := by
  unfold word at h
  split at h
  · cases h
  · rename_i c r
    split at h
    · split at h
      · cases h; assumption
      · split at h
        · cases h; assumption
        · exact other_pos h
    · split at h
      · rename_i hd
        split at h
        · cases h
          unfold run
          rw [if_pos hd]
          omega
        · exact other_pos h
      · split at h
        · split at h
          · cases h; omega
          · exact other_pos h
        · split at h
          · split at h
            · cases h; omega
            · exact other_pos h
          · split at h
            · split at h
              · cases h; omega
              · exact other_pos h
            · exact other_pos h
theorem toks_fuel : ∀ (f g : Nat) (l : List Nat) (p : Nat) (par : List Bool) (last : Option (Kd × Val)), l.length < f → l.length < g → toks f l p par last = toks g l p par last
  | 0, _, _, _, _, _, h, _ => by omega
  | f + 1, 0, _, _, _, _, _, h => by omega
  | f + 1, g + 1, l, p, par, last, h, h2 => by
    unfold toks
    cases e : gap l.length l with
    | error n => rfl
    | ok n =>
      have hn := gap_le _ _ _ e
      simp only []
      split
      · rfl
      · rename_i hne
        cases e2 : word (binds par last) (l.drop n) with
        | none => rfl
        | some w =>
          obtain ⟨k, v, m⟩ := w
          have hm := word_pos e2
          have hl : n < l.length := by
            rcases Nat.lt_or_ge n l.length with z | z
            · exact z
            · exact absurd (List.drop_eq_nil_of_le z) hne
          have := toks_fuel f g (l.drop (n + m)) (p + n + m) (note par k v) (some (k, v)) (by rw [List.length_drop]; omega) (by rw [List.length_drop]; omega)
          simp only [this]
def shiftW (k : Nat) : Except Nat (List W) → Except Nat (List W)
  | .ok ws => .ok (ws.map fun w => (w.1, w.2.1, w.2.2 + k))
  | .error n => .error (n + k)
theorem toks_shift (k : Nat) : ∀ (f : Nat) (l : List Nat) (p : Nat) (par : List Bool) (last : Option (Kd × Val)), toks f l (p + k) par last = shiftW k (toks f l p par last)
  | 0, _, _, _, _ => rfl
  | f + 1, l, p, par, last => by
    unfold toks
    cases gap l.length l with
    | error n => simp [shiftW]; omega
    | ok n =>
      simp only []
      split
      · rfl
      · cases word (binds par last) (l.drop n) with
        | none => simp [shiftW]; omega
        | some w =>
          obtain ⟨a, v, m⟩ := w
          simp only []
          have e := toks_shift k f (l.drop (n + m)) (p + n + m) (note par a v) (some (a, v))
          rw [show p + k + n + m = p + n + m + k by omega, e]
          cases toks f (l.drop (n + m)) (p + n + m) (note par a v) (some (a, v)) with
          | ok ws => simp [shiftW]; omega
          | error q => rfl
theorem toks_gap {g : List Nat} (hg : IsGap g) (f : Nat) (s : List Nat) (p : Nat) (par : List Bool) (last : Option (Kd × Val)) : toks (f + 1) (g ++ s) p par last = toks (f + 1) s (p + g.length) par last := by
  unfold toks
  rw [hg s]
  cases e : gap s.length s with
  | error n => simp [shiftE]; omega
  | ok n =>
    have d : ∀ j, (g ++ s).drop (j + g.length) = s.drop j := fun j => by
      rw [Nat.add_comm, ← List.drop_drop, List.drop_left]
    simp only [shiftE, d, show ∀ m, n + g.length + m = n + m + g.length from fun m => by omega, show ∀ m, p + (n + g.length) + m = p + g.length + n + m from fun m => by omega, show p + (n + g.length) = p + g.length + n by omega]
/-- a gap ahead moves the words, or the place of what is wrong -/
theorem words_gap {g : List Nat} (hg : IsGap g) (s : List Nat) : words (g ++ s) = shiftW g.length (words s) := by
  unfold words
  rw [toks_gap hg, toks_shift g.length, toks_fuel ((g ++ s).length + 1) (s.length + 1) s 0 [] none (by simp; omega) (by omega)]

end Tok

end
section
set_option maxRecDepth 100000
set_option linter.all false
set_option maxHeartbeats 1000000
/-! A source put together word by word is parted into just these words. -/
namespace Tok
def NotP (p : Nat → Bool) (s : List Nat) : Prop := ∀ c, s.head? = some c → p c = false
def NoCol (s : List Nat) : Prop := s.head? = some 58 → (s.drop 1).head? = some 61
structure IsName (t : List Nat) : Prop where
  al : ∃ c r, t = c :: r ∧ isAl c = true
  an : t.all isAn = true
  le : t.length ≤ 40
def dbl : List Nat → List Nat
  | [] => []
  | c :: u => if c = 39 then 39 :: 39 :: dbl u else c :: dbl u
def quote (u : List Nat) : List Nat := 39 :: (dbl u ++ [39])
def kkeys : List (List Nat) → List Nat
  | [] => []
  | n :: ns => n ++ 58 :: kkeys ns
theorem run_all {p : Nat → Bool} : ∀ {t s : List Nat}, t.all p = true → NotP p s → run p (t ++ s) = t.length
  | [], s, _, hs => by
    rw [List.nil_append]
    cases s with
    | nil => rfl
    | cons c s => unfold run; rw [hs c rfl]; rfl
  | c :: t, s, h, hs => by
    rw [List.all_cons, Bool.and_eq_true] at h
    rw [List.cons_append]
    unfold run
    rw [h.1, if_pos rfl, run_all h.2 hs]
    rfl
theorem IsName.pos {t : List Nat} (h : IsName t) : 0 < t.length := by
  obtain ⟨c, r, rfl, _⟩ := h.al
  simp
theorem nLen_app {t s : List Nat} (h : IsName t) (hs : NotP isAn s) : nameLen (t ++ s) = t.length := by
  have hr := run_all h.an hs
  obtain ⟨c, r, rfl, hc⟩ := h.al
  have hl := h.le
  show nameLen (c :: (r ++ s)) = _
  unfold nameLen
  simp only []
  rw [hc, if_pos rfl]
  have e : c :: (r ++ s) = (c :: r) ++ s := rfl
  rw [e, hr, if_pos hl]
theorem notP_cons {p : Nat → Bool} {c : Nat} {s : List Nat} (h : p c = false) : NotP p (c :: s) := fun d e => by cases e; exact h
theorem notP_nil {p : Nat → Bool} : NotP p [] := fun d e => by cases e
theorem kLen_key {n s : List Nat} (h : IsName n) (hs : s.head? ≠ some 61) : keyLen (n ++ 58 :: s) = n.length + 1 := by
  have e := nLen_app (s := 58 :: s) h (notP_cons (by decide))
  unfold keyLen
  rw [e, List.drop_left, show n ++ 58 :: s = (n ++ [58]) ++ s by simp, show n.length + 1 = (n ++ [58]).length by simp, List.drop_left]
  rw [if_pos ⟨h.pos, rfl, hs⟩]
theorem keyLen_name {t s : List Nat} (h : IsName t) (hs : NotP isAn s) (hc : NoCol s) : keyLen (t ++ s) = 0 := by
  have e := nLen_app h hs
  unfold keyLen
  rw [e, List.drop_left]
  have e2 : (t ++ s).drop (t.length + 1) = s.drop 1 := by rw [← List.drop_drop, List.drop_left]
  rw [e2, if_neg]
  rintro ⟨_, h1, h2⟩
  exact h2 (hc h1)
theorem dbl_app (u s : List Nat) : dbl (u ++ s) = dbl u ++ dbl s := by
  induction u with
  | nil => rfl
  | cons c u ih =>
    rw [List.cons_append, dbl, dbl, ih]
    split <;> rfl
theorem strBody_quote : ∀ (u s : List Nat) (f : Nat), s.head? ≠ some 39 → (dbl u).length < f → strBody f (dbl u ++ 39 :: s) = some (u, (dbl u).length + 1)
  | [], s, f, hs, hf => by
    cases f with
    | zero => simp [dbl] at hf
    | succ f =>
      show strBody (f + 1) (39 :: s) = some ([], 1)
      unfold strBody
      rw [if_pos rfl]
      split
      · exact absurd rfl hs
      · rfl
  | c :: u, s, f, hs, hf => by
    cases f with
    | zero => simp at hf
    | succ f =>
      by_cases hc : c = 39
      · subst hc
        have e : dbl (39 :: u) = 39 :: 39 :: dbl u := by rw [dbl, if_pos rfl]
        rw [e] at hf ⊢
        simp only [List.length_cons] at hf
        show strBody (f + 1) (39 :: 39 :: (dbl u ++ 39 :: s)) = _
        unfold strBody
        rw [if_pos rfl]
        simp only []
        rw [strBody_quote u s f hs (by omega)]
        simp only [List.length_cons]
      · have e : dbl (c :: u) = c :: dbl u := by rw [dbl, if_neg hc]
        rw [e] at hf ⊢
        simp only [List.length_cons] at hf
        show strBody (f + 1) (c :: (dbl u ++ 39 :: s)) = _
        unfold strBody
        rw [if_neg hc, strBody_quote u s f hs (by omega)]
        simp only [List.length_cons]
/-- a string that does not end -/
theorem strBody_open : ∀ (u : List Nat) (f : Nat), strBody f (dbl u) = none
  | [], f => by cases f <;> rfl
  | c :: u, 0 => rfl
  | c :: u, f + 1 => by
    by_cases hc : c = 39
    · subst hc
      have e : dbl (39 :: u) = 39 :: 39 :: dbl u := by rw [dbl, if_pos rfl]
      rw [e]
      unfold strBody
      rw [if_pos rfl]
      simp only []
      rw [strBody_open u f]
    · have e : dbl (c :: u) = c :: dbl u := by rw [dbl, if_neg hc]
      rw [e]
      unfold strBody
      rw [if_neg hc, strBody_open u f]
theorem keysLen_stop {s : List Nat} (h : NotP isAl s) (f : Nat) : keysLen f s = 0 := by
  cases f with
  | zero => rfl
  | succ f =>
    have e : nameLen s = 0 := by
      cases s with
      | nil => rfl
      | cons c s =>
        unfold nameLen
        simp only []
        rw [h c rfl]
        rfl
    have e2 : keyLen s = 0 := by
      unfold keyLen
      rw [e, if_neg]
      rintro ⟨h, _⟩
      omega
    unfold keysLen
    rw [e2]
    rfl
theorem kkeys_head {ns : List (List Nat)} (hn : ∀ n ∈ ns, IsName n) {s : List Nat} (hs : s.head? ≠ some 61) : (kkeys ns ++ s).head? ≠ some 61 := by
  cases ns with
  | nil => exact hs
  | cons n ns =>
    obtain ⟨c, r, rfl, hc⟩ := (hn n List.mem_cons_self).al
    intro e
    have : c = 61 := by simpa [kkeys] using e
    subst this
    cases hc
theorem kkeysLen : ∀ (ns : List (List Nat)) (s : List Nat) (f : Nat), (∀ n ∈ ns, IsName n) → NotP isAl s → s.head? ≠ some 61 → ns.length ≤ f → keysLen f (kkeys ns ++ s) = (kkeys ns).length
  | [], s, f, _, h, _, _ => keysLen_stop h f
  | n :: ns, s, 0, _, _, _, hf => by simp at hf
  | n :: ns, s, f + 1, hn, h, hs, hf => by
    have hn2 : ∀ m ∈ ns, IsName m := fun m hm => hn m (List.mem_cons_of_mem _ hm)
    have ih := kkeysLen ns s f hn2 h hs (by simpa using hf)
    have e0 : kkeys (n :: ns) ++ s = n ++ 58 :: (kkeys ns ++ s) := by simp [kkeys]
    have e1 := kLen_key (hn n List.mem_cons_self) (kkeys_head hn2 hs)
    rw [e0]
    unfold keysLen
    rw [e1, if_pos (by omega)]
    have e2 : (n ++ 58 :: (kkeys ns ++ s)).drop (n.length + 1) = kkeys ns ++ s := by rw [← List.drop_drop, List.drop_left]; rfl
    rw [e2, ih]
    simp [kkeys]
    omega
/-! ### the words, by their making -/
inductive Cl where
  | name (t : List Nat)
  | keyword (n : List Nat)
  | int (d : List Nat)
  | neg (d : List Nat)
  | str (u : List Nat)
  | symS (u : List Nat)
  | symN (n : List Nat)
  | symK (ns : List (List Nat))
  | symO (o : List Nat)
  | op (o : List Nat)
  | sign (o : List Nat)
def Cl.k : Cl → Kd
  | .name _ => .name
  | .keyword _ => .keyword
  | .int _ => .int
  | .neg _ => .int
  | .str _ => .str
  | .symS _ => .sym
  | .symN _ => .sym
  | .symK _ => .sym
  | .symO _ => .sym
  | .op _ => .op
  | .sign _ => .sign
def Cl.v : Cl → Val
  | .name t => .s t
  | .keyword n => .s (n ++ [58])
  | .int d => .i (num d)
  | .neg d => .i (-(num d : Int))
  | .str u => .s u
  | .symS u => .s u
  | .symN n => .s n
  | .symK ns => .s (kkeys ns)
  | .symO o => .s o
  | .op o => .s o
  | .sign o => .s o
def Cl.t : Cl → List Nat
  | .name t => t
  | .keyword n => n ++ [58]
  | .int d => d
  | .neg d => 45 :: d
  | .str u => quote u
  | .symS u => 35 :: quote u
  | .symN n => 35 :: n
  | .symK ns => 35 :: kkeys ns
  | .symO o => 35 :: o
  | .op o => o
  | .sign o => o
structure Digits (d : List Nat) : Prop where
  pos : 0 < d.length
  all : d.all isDg = true
  le : d.length ≤ 60
def Cl.ok (b : Bool) : Cl → Prop
  | .name t => IsName t
  | .keyword n => IsName n
  | .int d => Digits d
  | .neg d => Digits d ∧ b = true
  | .str _ => True
  | .symS _ => True
  | .symN n => IsName n
  | .symK ns => ns ≠ [] ∧ ∀ n ∈ ns, IsName n
  | .symO o => o ∈ ops
  | .op o => o ∈ ops
  | .sign o => o ∈ signs
/-- what may stand behind -/
def Cl.fol (b : Bool) (s : List Nat) : Cl → Prop
  | .name _ => NotP isAn s ∧ NoCol s
  | .keyword _ => s.head? ≠ some 61
  | .int _ => NotP isDg s
  | .neg _ => NotP isDg s
  | .str _ => s.head? ≠ some 39
  | .symS _ => s.head? ≠ some 39
  | .symN _ => NotP isAn s ∧ NoCol s
  | .symK _ => NotP isAl s ∧ s.head? ≠ some 61
  | .symO _ => s.head? ≠ some 61
  | .op o => s.head? ≠ some 61 ∧ (b = true → o = [45] → NotP isDg s)
  | .sign o => o = [58] → s.head? ≠ some 61
theorem listed_ops {o s : List Nat} (h : o ∈ ops) (hs : s.head? ≠ some 61) : listed ops (o ++ s) = o.length := by
  simp only [ops, List.mem_cons, List.not_mem_nil, or_false] at h
  rcases h with h | h | h | h | h | h | h | h | h | h | h | h | h | h <;> subst h <;> (cases s with
    | nil => rfl
    | cons c s =>
      have hc : c ≠ 61 := fun e => hs (by rw [e]; rfl)
      simp [listed, ops, hc])
theorem listed_signs {o s : List Nat} (h : o ∈ signs) (hs : o = [58] → s.head? ≠ some 61) : listed ops (o ++ s) = 0 ∧ listed signs (o ++ s) = o.length := by
  simp only [signs, List.mem_cons, List.not_mem_nil, or_false] at h
  rcases h with h | h | h | h | h | h | h | h | h | h | h <;> subst h <;> (cases s with
    | nil => exact ⟨rfl, rfl⟩
    | cons c s =>
      first
      | (have hc : c ≠ 61 := fun e => hs rfl (by rw [e]; rfl)
         simp [listed, ops, signs, hc])
      | simp [listed, ops, signs])
theorem other_op {o s : List Nat} (h : o ∈ ops) (hs : s.head? ≠ some 61) : other (o ++ s) = some (.op, .s o, o.length) := by
  have e := listed_ops h hs
  have hp : 0 < o.length := by
    simp only [ops, List.mem_cons, List.not_mem_nil, or_false] at h
    rcases h with h | h | h | h | h | h | h | h | h | h | h | h | h | h <;> subst h <;> decide
  unfold other
  rw [e, if_pos hp, List.take_left]
theorem other_sign {o s : List Nat} (h : o ∈ signs) (hs : o = [58] → s.head? ≠ some 61) : other (o ++ s) = some (.sign, .s o, o.length) := by
  obtain ⟨e1, e2⟩ := listed_signs h hs
  have hp : 0 < o.length := by
    simp only [signs, List.mem_cons, List.not_mem_nil, or_false] at h
    rcases h with h | h | h | h | h | h | h | h | h | h | h <;> subst h <;> decide
  unfold other
  rw [e1, if_neg (Nat.lt_irrefl 0), e2, if_pos hp, List.take_left]
theorem al_not_dg {c : Nat} (h : isAl c = true) : isDg c = false := by
  unfold isAl at h
  unfold isDg
  simp at h ⊢
  omega
theorem dg_not_al {c : Nat} (h : isDg c = true) : isAl c = false := by
  cases e : isAl c with
  | false => rfl
  | true => rw [al_not_dg e] at h; cases h
theorem digits_cons {d : List Nat} (h : Digits d) : ∃ c r, d = c :: r ∧ isDg c = true := by
  cases d with
  | nil => exact absurd h.pos (by simp)
  | cons c r =>
    have := h.all
    rw [List.all_cons, Bool.and_eq_true] at this
    exact ⟨c, r, rfl, this.1⟩
theorem wrd_str (b : Bool) (r : List Nat) : word b (39 :: r) = match strBody (39 :: r).length r with
    | some (t, n) => some (.str, .s t, n + 1)
    | none => other (39 :: r) := rfl
theorem word_sym (b : Bool) (r : List Nat) : word b (35 :: r) = match symbol r with
    | some (v, n) => some (.sym, v, n + 1)
    | none => other (35 :: r) := rfl
theorem word_al {b : Bool} {l : List Nat} {c : Nat} {r : List Nat} (e : l = c :: r) (h : isAl c = true) : word b l = if 0 < keyLen l then some (.keyword, .s (l.take (keyLen l)), keyLen l) else if 0 < nameLen l then some (.name, .s (l.take (nameLen l)), nameLen l) else other l := by
  subst e
  unfold word
  simp only []
  rw [h, if_pos rfl]
theorem word_neg (r : List Nat) : word true (45 :: r) = if 0 < run isDg r ∧ run isDg r ≤ 60 then some (.int, .i (-(num (r.take (run isDg r)) : Int)), run isDg r + 1) else other (45 :: r) := rfl
theorem word_of {b : Bool} {c : Cl} {s : List Nat} (hok : c.ok b) (hf : c.fol b s) : word b (c.t ++ s) = some (c.k, c.v, c.t.length) := by
  cases c with
  | name t =>
    have h : IsName t := hok
    have e1 := nLen_app h hf.1
    have e2 := keyLen_name h hf.1 hf.2
    have hp := h.pos
    have et : (t ++ s).take t.length = t := List.take_left
    obtain ⟨c, r, e, hc⟩ := h.al
    show word b (t ++ s) = some (.name, .s t, t.length)
    have e3 : t ++ s = c :: (r ++ s) := by rw [e]; rfl
    rw [word_al e3 hc, e2, if_neg (Nat.lt_irrefl 0), e1, if_pos hp, et]
  | keyword n =>
    have h : IsName n := hok
    have e1 := kLen_key h hf
    obtain ⟨c, r, e, hc⟩ := h.al
    show word b ((n ++ [58]) ++ s) = some (.keyword, .s (n ++ [58]), (n ++ [58]).length)
    have e0 : (n ++ [58]) ++ s = n ++ 58 :: s := by simp
    have et : (n ++ 58 :: s).take (n.length + 1) = n ++ [58] := by
      rw [← e0, show n.length + 1 = (n ++ [58]).length by simp, List.take_left]
    have e3 : n ++ 58 :: s = c :: (r ++ 58 :: s) := by rw [e]; rfl
    rw [e0]
    unfold word
    rw [e3]
    simp only []
    rw [hc, if_pos rfl, ← e3, e1, if_pos (Nat.succ_pos _), et]
    simp
  | int d =>
    have h : Digits d := hok
    have e1 := run_all h.all hf
    obtain ⟨c, r, e, hc⟩ := digits_cons h
    show word b (d ++ s) = some (.int, .i (num d), d.length)
    have e3 : d ++ s = c :: (r ++ s) := by rw [e]; rfl
    unfold word
    rw [e3]
    simp only []
    rw [dg_not_al hc, if_neg (by decide), hc, if_pos rfl, ← e3, e1, if_pos h.le, List.take_left]
  | neg d =>
    have h : Digits d := hok.1
    have e1 := run_all h.all hf
    show word b (45 :: (d ++ s)) = some (.int, .i (-(num d : Int)), d.length + 1)
    rw [hok.2, word_neg, e1, if_pos ⟨h.pos, h.le⟩, List.take_left]
  | str u =>
    have e1 := strBody_quote u s ((39 :: (dbl u ++ 39 :: s)).length) hf (by simp; omega)
    show word b ((39 :: (dbl u ++ [39])) ++ s) = some (.str, .s u, (39 :: (dbl u ++ [39])).length)
    rw [show (39 :: (dbl u ++ [39])) ++ s = 39 :: (dbl u ++ 39 :: s) by simp]
    rw [wrd_str, e1]
    simp
  | symS u =>
    have e1 := strBody_quote u s ((39 :: (dbl u ++ 39 :: s)).length) hf (by simp; omega)
    show word b (35 :: (39 :: (dbl u ++ [39])) ++ s) = some (.sym, .s u, (35 :: 39 :: (dbl u ++ [39])).length)
    rw [show 35 :: (39 :: (dbl u ++ [39])) ++ s = 35 :: 39 :: (dbl u ++ 39 :: s) by simp]
    rw [word_sym]
    have es : symbol (39 :: (dbl u ++ 39 :: s)) = some (.s u, (dbl u).length + 1 + 1) := by
      unfold symbol
      rw [if_pos (by rfl), show (39 :: (dbl u ++ 39 :: s)).drop 1 = dbl u ++ 39 :: s from rfl, e1]
    rw [es]
    simp
  | symN n =>
    have h : IsName n := hok
    have e1 := nLen_app h hf.1
    have e2 := keyLen_name h hf.1 hf.2
    obtain ⟨c, r, e, hc⟩ := h.al
    have e3 : n ++ s = c :: (r ++ s) := by rw [e]; rfl
    have hq : c ≠ 39 := fun z => by subst z; cases hc
    have e4 : keysLen (n ++ s).length (n ++ s) = 0 := by
      rw [e3]
      show keysLen ((r ++ s).length + 1) _ = 0
      unfold keysLen
      rw [← e3, e2, if_neg (Nat.lt_irrefl 0)]
    show word b (35 :: (n ++ s)) = some (.sym, .s n, n.length + 1)
    rw [word_sym]
    unfold symbol
    rw [if_neg (by rw [e3]; simpa using hq), e4, if_neg (Nat.lt_irrefl 0), e1, if_pos h.pos, List.take_left]
  | symK ns =>
    obtain ⟨h0, h⟩ := hok
    have hl : ns.length ≤ (kkeys ns ++ s).length := by
      rw [List.length_append]
      refine Nat.le_trans ?_ (Nat.le_add_right _ _)
      clear h h0 hf
      induction ns with
      | nil => exact Nat.zero_le _
      | cons n ns ih => simp [kkeys]; omega
    have e1 := kkeysLen ns s _ h hf.1 hf.2 hl
    have hp : 0 < (kkeys ns).length := by
      cases ns with
      | nil => exact absurd rfl h0
      | cons n ns => simp [kkeys]; omega
    have hq : (kkeys ns ++ s).head? ≠ some 39 := by
      cases ns with
      | nil => exact absurd rfl h0
      | cons n ns =>
        obtain ⟨c, r, rfl, hc⟩ := (h n List.mem_cons_self).al
        intro e
        have : c = 39 := by simpa [kkeys] using e
        subst this
        cases hc
    show word b (35 :: (kkeys ns ++ s)) = some (.sym, .s (kkeys ns), (kkeys ns).length + 1)
    rw [word_sym]
    unfold symbol
    rw [if_neg hq, e1, if_pos hp, List.take_left]
  | symO o =>
    have h : o ∈ ops := hok
    have e1 := listed_ops h hf
    have hh : ∃ c r, o = c :: r ∧ isAl c = false ∧ c ≠ 39 := by
      clear e1 hf hok
      simp only [ops, List.mem_cons, List.not_mem_nil, or_false] at h
      rcases h with h | h | h | h | h | h | h | h | h | h | h | h | h | h <;> subst h <;> exact ⟨_, _, rfl, by decide, by decide⟩
    have hp : 0 < o.length := by obtain ⟨c, r, rfl, _⟩ := hh; simp
    obtain ⟨c, r, e, hc, hq⟩ := hh
    have e3 : o ++ s = c :: (r ++ s) := by rw [e]; rfl
    have hk := keysLen_stop (s := o ++ s) (by rw [e3]; exact notP_cons hc) (o ++ s).length
    have hn : nameLen (o ++ s) = 0 := by
      rw [e3]
      unfold nameLen
      simp only []
      rw [hc]
      rfl
    show word b (35 :: (o ++ s)) = some (.sym, .s o, o.length + 1)
    rw [word_sym]
    unfold symbol
    rw [if_neg (by rw [e3]; simpa using hq), hk, if_neg (Nat.lt_irrefl 0), hn, if_neg (Nat.lt_irrefl 0), e1, if_pos hp, List.take_left]
  | op o =>
    have h : o ∈ ops := hok
    have e1 := other_op h hf.1
    have hh : ∃ c r, o = c :: r ∧ isAl c = false ∧ isDg c = false ∧ c ≠ 39 ∧ c ≠ 35 ∧ (c = 45 → r = []) := by
      clear e1 hf hok
      simp only [ops, List.mem_cons, List.not_mem_nil, or_false] at h
      rcases h with h | h | h | h | h | h | h | h | h | h | h | h | h | h <;> subst h <;> exact ⟨_, _, rfl, by decide, by decide, by decide, by decide, by decide⟩
    obtain ⟨c, r, e, h1, h2, h3, h4, h5⟩ := hh
    show word b (o ++ s) = some (.op, .s o, o.length)
    have e3 : o ++ s = c :: (r ++ s) := by rw [e]; rfl
    rw [← e1]
    unfold word
    rw [e3]
    simp only []
    rw [h1, if_neg (by decide), h2, if_neg (by decide), if_neg h3, if_neg h4]
    by_cases hm : c = 45 ∧ b = true
    · rw [if_pos hm]
      have er : r = [] := h5 hm.1
      have ho : o = [45] := by rw [e, er, hm.1]
      have hd := hf.2 hm.2 ho
      have e6 : run isDg (r ++ s) = 0 := by rw [er]; exact run_all (t := []) rfl hd
      rw [if_neg (by rw [e6]; rintro ⟨h, _⟩; omega)]
    · rw [if_neg hm]
  | sign o =>
    have h : o ∈ signs := hok
    have e1 := other_sign h hf
    show word b (o ++ s) = some (.sign, .s o, o.length)
    by_cases ho : o = [35, 40]
    · subst ho
      rw [← e1]
      show word b (35 :: 40 :: s) = _
      rw [word_sym]
      have hk := keysLen_stop (s := 40 :: s) (notP_cons (by decide)) (40 :: s).length
      have hl : listed ops (40 :: s) = 0 := by cases s <;> simp [listed, ops]
      have : symbol (40 :: s) = none := by
        unfold symbol
        rw [if_neg (by simp), hk, if_neg (Nat.lt_irrefl 0), show nameLen (40 :: s) = 0 from rfl, if_neg (Nat.lt_irrefl 0), hl, if_neg (Nat.lt_irrefl 0)]
      rw [this]
      rfl
    · have hh : ∃ c r, o = c :: r ∧ isAl c = false ∧ isDg c = false ∧ c ≠ 39 ∧ c ≠ 35 ∧ c ≠ 45 := by
        clear e1 hf hok
        simp only [signs, List.mem_cons, List.not_mem_nil, or_false] at h
        rcases h with h | h | h | h | h | h | h | h | h | h | h <;> first | exact absurd h ho | (subst h; exact ⟨_, _, rfl, by decide, by decide, by decide, by decide, by decide⟩)
      obtain ⟨c, r, e, h1, h2, h3, h4, h5⟩ := hh
      have e3 : o ++ s = c :: (r ++ s) := by rw [e]; rfl
      rw [← e1]
      unfold word
      rw [e3]
      simp only []
      rw [h1, if_neg (by decide), h2, if_neg (by decide), if_neg h3, if_neg h4, if_neg (fun z => h5 z.1)]
end Tok

end
section
set_option maxRecDepth 100000
set_option linter.all false
set_option maxHeartbeats 1000000
namespace Tok
def parts (k1 : Kd) (t1 : List Nat) (k2 : Kd) (t2 : List Nat) (neg : Bool) : Bool :=
  if (k1 = .name ∨ k1 = .int ∨ k1 = .sym) ∧ isDg (t2.headD 0) = true ∧ t1.getLastD 0 ≠ 39 then decide (k1 ≠ .sym) || isAl (t1.getD 1 0)
  else if k1 = .name then (decide (k2 = .name) || decide (k2 = .keyword)) || decide (t2 = [58])
  else if k1 = .sym ∧ t1.getLastD 0 = 58 then (decide (k2 = .name) || decide (k2 = .keyword)) || decide (t2.headD 0 = 61)
  else if k1 = .sym ∧ isAl (t1.getD 1 0) = true then (decide (k2 = .name) || decide (k2 = .keyword)) || decide (t2 = [58])
  else if (k1 = .str ∨ k1 = .sym) ∧ t1.getLastD 0 = 39 then decide (t2.headD 0 = 39)
  else if k1 = .keyword ∨ t1 = [58] then decide (t2.headD 0 = 61)
  else if k1 = .op ∧ t1 = [45] ∧ isDg (t2.headD 0) = true then neg
  else (decide (k1 = .op) || decide (k1 = .sym)) && decide (k2 = .op)
theorem getLastD_app (a : List Nat) (c : Nat) : (a ++ [c]).getLastD 0 = c := by
  cases a with
  | nil => rfl
  | cons x a => rw [List.cons_append, List.getLastD_cons]; simp [List.getLastD_eq_getLast?]
theorem last_mem {a : List Nat} (h : a ≠ []) : a.getLastD 0 ∈ a := by
  rw [List.getLastD_eq_getLast?, List.getLast?_eq_some_getLast h]
  exact List.getLast_mem h
theorem an_ne {c : Nat} (h : isAn c = true) : c ≠ 39 ∧ c ≠ 58 := by
  constructor <;> (intro e; subst e; cases h)
/-- what words begin with -/
structure HeadF (k : Kd) (t : List Nat) (h : Nat) (r : List Nat) : Prop where
  eq : t = h :: r
  al : isAl h = true → k = .name ∨ k = .keyword
  e61 : h = 61 → k = .op
  e58 : h = 58 → t = [58] ∨ t = [58, 61]
theorem head_of {c : Cl} {b : Bool} (hok : c.ok b) : ∃ h r, HeadF c.k c.t h r := by
  cases c with
  | name t =>
    obtain ⟨c, r, e, hc⟩ := (show IsName t from hok).al
    exact ⟨c, r, e, fun _ => .inl rfl, fun z => (by subst z; cases hc), fun z => (by subst z; cases hc)⟩
  | keyword n =>
    obtain ⟨c, r, e, hc⟩ := (show IsName n from hok).al
    exact ⟨c, r ++ [58], (by show n ++ [58] = _; rw [e]; rfl), fun _ => .inr rfl, fun z => (by subst z; cases hc), fun z => (by subst z; cases hc)⟩
  | int d =>
    obtain ⟨c, r, e, hc⟩ := digits_cons (show Digits d from hok)
    exact ⟨c, r, e, fun z => (by rw [dg_not_al hc] at z; cases z), fun z => (by subst z; cases hc), fun z => (by subst z; cases hc)⟩
  | neg d => exact ⟨45, d, rfl, fun z => (by cases z), fun z => (by cases z), fun z => (by cases z)⟩
  | str u => exact ⟨39, _, rfl, fun z => (by cases z), fun z => (by cases z), fun z => (by cases z)⟩
  | symS u => exact ⟨35, _, rfl, fun z => (by cases z), fun z => (by cases z), fun z => (by cases z)⟩
  | symN n => exact ⟨35, _, rfl, fun z => (by cases z), fun z => (by cases z), fun z => (by cases z)⟩
  | symK ns => exact ⟨35, _, rfl, fun z => (by cases z), fun z => (by cases z), fun z => (by cases z)⟩
  | symO o => exact ⟨35, _, rfl, fun z => (by cases z), fun z => (by cases z), fun z => (by cases z)⟩
  | op o =>
    have h : o ∈ ops := hok
    simp only [ops, List.mem_cons, List.not_mem_nil, or_false] at h
    rcases h with h | h | h | h | h | h | h | h | h | h | h | h | h | h <;> subst h <;> exact ⟨_, _, rfl, fun z => (by cases z), fun z => rfl, fun z => (by cases z)⟩
  | sign o =>
    have h : o ∈ signs := hok
    simp only [signs, List.mem_cons, List.not_mem_nil, or_false] at h
    rcases h with h | h | h | h | h | h | h | h | h | h | h <;> subst h <;> exact ⟨_, _, rfl, fun z => (by cases z), fun z => (by cases z), fun z => (by first | exact .inl rfl | exact .inr rfl | cases z)⟩
theorem name_last {t : List Nat} (h : IsName t) : isAn (t.getLastD 0) = true := by
  have hp := h.pos
  exact List.all_eq_true.mp h.an _ (last_mem (by intro e; rw [e] at hp; cases hp))
theorem cons_last {c : Nat} {t : List Nat} (h : t ≠ []) : (c :: t).getLastD 0 = t.getLastD 0 := by
  cases t with
  | nil => exact absurd rfl h
  | cons d t => rfl
theorem keys_last {ns : List (List Nat)} (h : ns ≠ []) : (kkeys ns).getLastD 0 = 58 := by
  have e : ∀ ns : List (List Nat), ns ≠ [] → ∃ a, kkeys ns = a ++ [58] := by
    intro ns
    induction ns with
    | nil => intro h; exact absurd rfl h
    | cons n ns ih =>
      intro _
      by_cases hn : ns = []
      · subst hn
        exact ⟨n, by simp [kkeys]⟩
      · obtain ⟨a, ha⟩ := ih hn
        exact ⟨n ++ 58 :: a, by simp [kkeys, ha]⟩
  obtain ⟨a, ha⟩ := e ns h
  rw [ha, getLastD_app]
theorem keys_ne {ns : List (List Nat)} (h : ns ≠ []) : kkeys ns ≠ [] := by
  cases ns with
  | nil => exact absurd rfl h
  | cons n ns => simp [kkeys]
theorem an_of_dg {c : Nat} (h : isDg c = true) : isAn c = true := by unfold isAn; rw [h, Bool.or_true]
theorem digits_last {d : List Nat} (h : Digits d) : isDg (d.getLastD 0) = true := by
  have hp := h.pos
  exact List.all_eq_true.mp h.all _ (last_mem (by intro e; rw [e] at hp; cases hp))
theorem digits_ne {d : List Nat} (h : Digits d) : d ≠ [] := fun e => by have := h.pos; rw [e] at this; cases this
theorem name_ne {d : List Nat} (h : IsName d) : d ≠ [] := fun e => by have := h.pos; rw [e] at this; cases this
theorem quote_last (u : List Nat) : (quote u).getLastD 0 = 39 := by
  unfold quote
  rw [cons_last (by simp), getLastD_app]
theorem op_last {o : List Nat} (h : o ∈ ops) : o ≠ [] ∧ o.getLastD 0 ≠ 39 ∧ o.getLastD 0 ≠ 58 ∧ isDg (o.getLastD 0) = false ∧ isAl (o.headD 0) = false ∧ o ≠ [58] := by
  simp only [ops, List.mem_cons, List.not_mem_nil, or_false] at h
  rcases h with h | h | h | h | h | h | h | h | h | h | h | h | h | h <;> subst h <;> decide
theorem sign_last {o : List Nat} (h : o ∈ signs) : o ≠ [] ∧ isDg (o.getLastD 0) = false := by
  simp only [signs, List.mem_cons, List.not_mem_nil, or_false] at h
  rcases h with h | h | h | h | h | h | h | h | h | h | h <;> subst h <;> decide
theorem parts_name {t1 : List Nat} {k2 : Kd} {t2 : List Nat} {n : Bool} (h : IsName t1) (hp : parts .name t1 k2 t2 n = false) : isDg (t2.headD 0) = false ∧ k2 ≠ .name ∧ k2 ≠ .keyword ∧ t2 ≠ [58] := by
  have hl := an_ne (name_last h)
  unfold parts at hp
  by_cases hd : isDg (t2.headD 0) = true
  · rw [if_pos ⟨.inl rfl, hd, hl.1⟩] at hp
    cases hp
  · rw [if_neg (fun z => hd z.2.1), if_pos rfl] at hp
    simp only [Bool.or_eq_false_iff, decide_eq_false_iff_not] at hp
    exact ⟨Bool.eq_false_iff.mpr hd, hp.1.1, hp.1.2, hp.2⟩
theorem parts_int {t1 : List Nat} {k2 : Kd} {t2 : List Nat} {n : Bool} (h : isDg (t1.getLastD 0) = true) (hp : parts .int t1 k2 t2 n = false) : isDg (t2.headD 0) = false := by
  have hl := an_ne (an_of_dg h)
  unfold parts at hp
  by_cases hd : isDg (t2.headD 0) = true
  · rw [if_pos ⟨.inr (.inl rfl), hd, hl.1⟩] at hp
    cases hp
  · exact Bool.eq_false_iff.mpr hd
theorem parts_symN {t1 : List Nat} {k2 : Kd} {t2 : List Nat} {n : Bool} (hl : t1.getLastD 0 ≠ 39 ∧ t1.getLastD 0 ≠ 58) (ha : isAl (t1.getD 1 0) = true) (hp : parts .sym t1 k2 t2 n = false) : isDg (t2.headD 0) = false ∧ k2 ≠ .name ∧ k2 ≠ .keyword ∧ t2 ≠ [58] := by
  unfold parts at hp
  by_cases hd : isDg (t2.headD 0) = true
  · rw [if_pos ⟨.inr (.inr rfl), hd, hl.1⟩, ha, Bool.or_true] at hp
    cases hp
  · rw [if_neg (fun z => hd z.2.1), if_neg (by decide), if_neg (fun z => hl.2 z.2), if_pos ⟨rfl, ha⟩] at hp
    simp only [Bool.or_eq_false_iff, decide_eq_false_iff_not] at hp
    exact ⟨Bool.eq_false_iff.mpr hd, hp.1.1, hp.1.2, hp.2⟩
theorem parts_symK {t1 : List Nat} {k2 : Kd} {t2 : List Nat} {n : Bool} (hl : t1.getLastD 0 = 58) (ha : isAl (t1.getD 1 0) = true) (hp : parts .sym t1 k2 t2 n = false) : k2 ≠ .name ∧ k2 ≠ .keyword ∧ t2.headD 0 ≠ 61 ∧ isDg (t2.headD 0) = false := by
  unfold parts at hp
  by_cases hd : isDg (t2.headD 0) = true
  · rw [if_pos ⟨.inr (.inr rfl), hd, by rw [hl]; decide⟩, ha, Bool.or_true] at hp
    cases hp
  · rw [if_neg (fun z => hd z.2.1), if_neg (by decide), if_pos ⟨rfl, hl⟩] at hp
    simp only [Bool.or_eq_false_iff, decide_eq_false_iff_not] at hp
    exact ⟨hp.1.1, hp.1.2, hp.2, Bool.eq_false_iff.mpr hd⟩
theorem parts_q {k1 : Kd} {t1 : List Nat} {k2 : Kd} {t2 : List Nat} {n : Bool} (hk : k1 = .str ∨ (k1 = .sym ∧ isAl (t1.getD 1 0) = false)) (hl : t1.getLastD 0 = 39) (hp : parts k1 t1 k2 t2 n = false) : t2.headD 0 ≠ 39 := by
  unfold parts at hp
  have h58 : t1.getLastD 0 ≠ 58 := by rw [hl]; decide
  rcases hk with rfl | ⟨rfl, ha⟩
  · rw [if_neg (fun z => z.2.2 hl), if_neg (by decide), if_neg (fun z => h58 z.2), if_neg (fun z => by cases z.1), if_pos ⟨.inl rfl, hl⟩] at hp
    exact of_decide_eq_false hp
  · rw [if_neg (fun z => z.2.2 hl), if_neg (by decide), if_neg (fun z => h58 z.2), if_neg (fun z => by rw [ha] at z; cases z.2), if_pos ⟨.inr rfl, hl⟩] at hp
    exact of_decide_eq_false hp
theorem parts_col {k1 : Kd} {t1 : List Nat} {k2 : Kd} {t2 : List Nat} {n : Bool} (hk : k1 = .keyword ∨ (k1 = .sign ∧ t1 = [58])) (hp : parts k1 t1 k2 t2 n = false) : t2.headD 0 ≠ 61 := by
  unfold parts at hp
  rcases hk with rfl | ⟨rfl, rfl⟩
  · rw [if_neg (fun z => by rcases z.1 with h | h | h <;> cases h), if_neg (by decide), if_neg (fun z => by cases z.1), if_neg (fun z => by cases z.1), if_neg (fun z => by rcases z.1 with h | h <;> cases h), if_pos (.inl rfl)] at hp
    exact of_decide_eq_false hp
  · rw [if_neg (fun z => by rcases z.1 with h | h | h <;> cases h), if_neg (by decide), if_neg (fun z => by cases z.1), if_neg (fun z => by cases z.1), if_neg (fun z => by rcases z.1 with h | h <;> cases h), if_pos (.inr rfl)] at hp
    exact of_decide_eq_false hp
theorem parts_symO {t1 : List Nat} {k2 : Kd} {t2 : List Nat} {n : Bool} (hl : t1.getLastD 0 ≠ 39 ∧ t1.getLastD 0 ≠ 58) (ha : isAl (t1.getD 1 0) = false) (h58 : t1 ≠ [58]) (hp : parts .sym t1 k2 t2 n = false) : k2 ≠ .op ∨ isDg (t2.headD 0) = true := by
  unfold parts at hp
  by_cases hd : isDg (t2.headD 0) = true
  · exact .inr hd
  · rw [if_neg (fun z => hd z.2.1), if_neg (by decide), if_neg (fun z => hl.2 z.2), if_neg (fun z => by rw [ha] at z; cases z.2), if_neg (fun z => hl.1 z.2), if_neg (fun z => by rcases z with h | h; cases h; exact h58 h), if_neg (fun z => by cases z.1)] at hp
    exact .inl (fun z => by rw [z] at hp; cases hp)
theorem parts_op {t1 : List Nat} {k2 : Kd} {t2 : List Nat} {n : Bool} (h58 : t1 ≠ [58]) (hp : parts .op t1 k2 t2 n = false) : (k2 ≠ .op ∨ isDg (t2.headD 0) = true) ∧ (n = true → t1 = [45] → isDg (t2.headD 0) = false) := by
  unfold parts at hp
  rw [if_neg (fun z => by rcases z.1 with h | h | h <;> cases h), if_neg (by decide), if_neg (fun z => by cases z.1), if_neg (fun z => by cases z.1), if_neg (fun z => by rcases z.1 with h | h <;> cases h), if_neg (fun z => by rcases z with h | h; cases h; exact h58 h)] at hp
  by_cases hd : t1 = [45] ∧ isDg (t2.headD 0) = true
  · rw [if_pos ⟨rfl, hd.1, hd.2⟩] at hp
    exact ⟨.inr hd.2, fun z => by rw [hp] at z; cases z⟩
  · rw [if_neg (fun z => hd z.2)] at hp
    exact ⟨.inl (fun z => by rw [z] at hp; cases hp), fun _ h => Bool.eq_false_iff.mpr fun z => hd ⟨h, z⟩⟩
theorem getD_name {n : List Nat} (h : IsName n) (s : List Nat) : isAl ((35 :: (n ++ s)).getD 1 0) = true := by
  obtain ⟨c, r, rfl, hc⟩ := h.al
  exact hc
/-- two words that need not be parted -/
theorem fol_parts {c1 c2 : Cl} {b1 b2 : Bool} (h1 : c1.ok b1) (h2 : c2.ok b2) (hp : parts c1.k c1.t c2.k c2.t b1 = false) (s : List Nat) : c1.fol b1 (c2.t ++ s) := by
  obtain ⟨h, r, H⟩ := head_of h2
  have hh : c2.t.headD 0 = h := by rw [H.eq]; rfl
  have he : c2.t ++ s = h :: (r ++ s) := by rw [H.eq]; rfl
  have notal : c2.k ≠ .name → c2.k ≠ .keyword → isAl h = false := fun a b => by
    cases e : isAl h with
    | false => rfl
    | true => rcases H.al e with z | z; exact absurd z a; exact absurd z b
  have notan : isDg h = false → c2.k ≠ .name → c2.k ≠ .keyword → NotP isAn (c2.t ++ s) := fun a b c => by
    rw [he]
    refine notP_cons ?_
    unfold isAn
    rw [notal b c, a]
    rfl
  have nocol : c2.t ≠ [58] → NoCol (c2.t ++ s) := fun a e => by
    have e : h = 58 := by rw [he] at e; exact Option.some.inj e
    rcases H.e58 e with z | z
    · exact absurd z a
    · rw [z]; rfl
  have not61 : c2.k ≠ .op ∨ isDg h = true → (c2.t ++ s).head? ≠ some 61 := fun a e => by
    have e : h = 61 := by rw [he] at e; exact Option.some.inj e
    rcases a with a | a
    · exact a (H.e61 e)
    · subst e; cases a
  have not61' : h ≠ 61 → (c2.t ++ s).head? ≠ some 61 := fun a e => by
    rw [he] at e
    exact a (Option.some.inj e)
  have not39 : h ≠ 39 → (c2.t ++ s).head? ≠ some 39 := fun a e => by
    rw [he] at e
    exact a (Option.some.inj e)
  cases c1 with
  | name t =>
    obtain ⟨p1, p2, p3, p4⟩ := parts_name (show IsName t from h1) hp
    rw [hh] at p1
    exact ⟨notan p1 p2 p3, nocol p4⟩
  | keyword n =>
    have p := parts_col (.inl rfl) hp
    rw [hh] at p
    exact not61' p
  | int d =>
    have p := parts_int (digits_last (show Digits d from h1)) hp
    rw [hh] at p
    show NotP isDg _
    rw [he]
    exact notP_cons p
  | neg d =>
    have p := parts_int (t1 := 45 :: d) (by rw [cons_last (digits_ne h1.1)]; exact digits_last h1.1) hp
    rw [hh] at p
    show NotP isDg _
    rw [he]
    exact notP_cons p
  | str u =>
    have p := parts_q (.inl rfl) (quote_last u) hp
    rw [hh] at p
    exact not39 p
  | symS u =>
    have p := parts_q (t1 := 35 :: quote u) (.inr ⟨rfl, rfl⟩) (by rw [cons_last (by simp [quote]), quote_last]) hp
    rw [hh] at p
    exact not39 p
  | symN n =>
    have hn : IsName n := h1
    have hl : (35 :: n).getLastD 0 = n.getLastD 0 := cons_last (name_ne hn)
    obtain ⟨p1, p2, p3, p4⟩ := parts_symN (t1 := 35 :: n) (by rw [hl]; exact an_ne (name_last hn)) (by have := getD_name hn []; rw [List.append_nil] at this; exact this) hp
    rw [hh] at p1
    exact ⟨notan p1 p2 p3, nocol p4⟩
  | symK ns =>
    obtain ⟨n0, hn⟩ := h1
    obtain ⟨p1, p2, p3, p4⟩ := parts_symK (t1 := 35 :: kkeys ns) (by rw [cons_last (keys_ne n0), keys_last n0]) (by
      cases ns with
      | nil => exact absurd rfl n0
      | cons n ns => exact getD_name (hn n List.mem_cons_self) _) hp
    rw [hh] at p3
    exact ⟨by rw [he]; exact notP_cons (notal p1 p2), not61' p3⟩
  | symO o =>
    obtain ⟨q1, q2, q3, q4, q5, q6⟩ := op_last h1
    have hl : (35 :: o).getLastD 0 = o.getLastD 0 := cons_last q1
    have p := parts_symO (t1 := 35 :: o) (by rw [hl]; exact ⟨q2, q3⟩) (by
      cases o with
      | nil => exact absurd rfl q1
      | cons c o => exact q5) (by simp) hp
    rw [hh] at p
    exact not61 p
  | op o =>
    obtain ⟨q1, q2, q3, q4, q5, q6⟩ := op_last h1
    obtain ⟨p1, p2⟩ := parts_op q6 hp
    rw [hh] at p1 p2
    exact ⟨not61 p1, fun a b => by rw [he]; exact notP_cons (p2 a b)⟩
  | sign o =>
    intro e
    have p := parts_col (k1 := .sign) (.inr ⟨rfl, e⟩) hp
    rw [hh] at p
    exact not61' p
theorem junct {c1 c2 : Cl} {b1 b2 : Bool} (h1 : c1.ok b1) (h2 : c2.ok b2) (hp : parts c1.k c1.t c2.k c2.t b1 = false) : isDg (c1.t.getLastD 0) = false ∨ isDg (c2.t.headD 0) = false := by
  cases c1 with
  | name t => exact .inr (parts_name (show IsName t from h1) hp).1
  | keyword n => exact .inl (by show isDg ((n ++ [58]).getLastD 0) = false; rw [getLastD_app]; rfl)
  | int d => exact .inr (parts_int (digits_last (show Digits d from h1)) hp)
  | neg d => exact .inr (parts_int (t1 := 45 :: d) (by rw [cons_last (digits_ne h1.1)]; exact digits_last h1.1) hp)
  | str u => exact .inl (by show isDg ((quote u).getLastD 0) = false; rw [quote_last]; rfl)
  | symS u => exact .inl (by show isDg ((35 :: quote u).getLastD 0) = false; rw [cons_last (by simp [quote]), quote_last]; rfl)
  | symN n =>
    have hn : IsName n := h1
    have hl : (35 :: n).getLastD 0 = n.getLastD 0 := cons_last (name_ne hn)
    exact .inr (parts_symN (t1 := 35 :: n) (by rw [hl]; exact an_ne (name_last hn)) (by have := getD_name hn []; rw [List.append_nil] at this; exact this) hp).1
  | symK ns => exact .inl (by show isDg ((35 :: kkeys ns).getLastD 0) = false; rw [cons_last (keys_ne h1.1), keys_last h1.1]; rfl)
  | symO o =>
    obtain ⟨q1, q2, q3, q4, q5, q6⟩ := op_last h1
    exact .inl (by show isDg ((35 :: o).getLastD 0) = false; rw [cons_last q1]; exact q4)
  | op o => exact .inl (op_last h1).2.2.2.1
  | sign o => exact .inl (sign_last h1).2
def blankish (c : Nat) : Prop := c = 32 ∨ c = 10 ∨ c = 34
theorem fol_gap {c : Cl} {b : Bool} {s : List Nat} (h : s = [] ∨ ∃ d r, s = d :: r ∧ blankish d) : c.fol b s := by
  have a1 : NotP isAn s := by
    rcases h with rfl | ⟨d, r, rfl, hd⟩
    · exact notP_nil
    · exact notP_cons (by rcases hd with rfl | rfl | rfl <;> rfl)
  have a2 : NotP isDg s := fun d e => by
    have := a1 d e
    unfold isAn at this
    exact (Bool.or_eq_false_iff.mp this).2
  have a3 : NotP isAl s := fun d e => by
    have := a1 d e
    unfold isAn at this
    exact (Bool.or_eq_false_iff.mp this).1
  have a4 : ∀ x, ¬ blankish x → s.head? ≠ some x := fun x hx e => by
    rcases h with rfl | ⟨d, r, rfl, hd⟩
    · cases e
    · have : d = x := Option.some.inj e
      exact hx (this ▸ hd)
  have n58 : s.head? ≠ some 58 := a4 58 (by unfold blankish; omega)
  have n61 : s.head? ≠ some 61 := a4 61 (by unfold blankish; omega)
  have n39 : s.head? ≠ some 39 := a4 39 (by unfold blankish; omega)
  cases c with
  | name t => exact ⟨a1, fun e => absurd e n58⟩
  | keyword n => exact n61
  | int d => exact a2
  | neg d => exact a2
  | str u => exact n39
  | symS u => exact n39
  | symN n => exact ⟨a1, fun e => absurd e n58⟩
  | symK ns => exact ⟨a3, n61⟩
  | symO o => exact n61
  | op o => exact ⟨n61, fun _ _ => a2⟩
  | sign o => exact fun _ => n61
end Tok

end
section
set_option maxRecDepth 100000
set_option linter.all false
set_option maxHeartbeats 1000000
namespace Tok
def okc (c : Nat) : Bool := c == 10 || (32 ≤ c && c ≤ 126)
/-- no more than 640 digits in a row -/
def NdL (L : List Nat) : Prop := ∀ q n : Nat, ((L.drop q).take n).all isDg = true → ((L.drop q).take n).length ≤ 640
theorem ndL_short {L : List Nat} (h : L.length ≤ 640) : NdL L := fun q n _ => by
  rw [List.length_take, List.length_drop]
  omega
theorem getLastD_get {A : List Nat} (h : A ≠ []) : ∃ hl : A.length - 1 < A.length, A[A.length - 1] = A.getLastD 0 := by
  have hp : 0 < A.length := List.length_pos_iff.mpr h
  refine ⟨by omega, ?_⟩
  rw [List.getLastD_eq_getLast?, List.getLast?_eq_some_getLast h, List.getLast_eq_getElem]
  rfl
theorem ndL_app {A B : List Nat} (hA : NdL A) (hB : NdL B) (h : A = [] ∨ B = [] ∨ isDg (A.getLastD 0) = false ∨ isDg (B.headD 0) = false) : NdL (A ++ B) := by
  by_cases hA0 : A = []
  · rw [hA0]; exact hB
  by_cases hB0 : B = []
  · rw [hB0, List.append_nil]; exact hA
  have h : isDg (A.getLastD 0) = false ∨ isDg (B.headD 0) = false := by
    rcases h with h | h | h
    · exact absurd h hA0
    · exact absurd h hB0
    · exact h
  intro q n hall
  rcases Nat.lt_or_ge q A.length with hq | hq
  · rcases Nat.lt_or_ge A.length (q + n) with hn | hn
    · exfalso
      have all : ∀ i, q ≤ i → i < q + n → ∀ c, (A ++ B)[i]? = some c → isDg c = true := fun i h1 h2 c hc => by
        refine List.all_eq_true.mp hall c (List.mem_iff_getElem?.mpr ⟨i - q, ?_⟩)
        rw [List.getElem?_take_of_lt (by omega), List.getElem?_drop, show q + (i - q) = i by omega]
        exact hc
      obtain ⟨hl, e⟩ := getLastD_get hA0
      have e1 : (A ++ B)[A.length - 1]? = some (A.getLastD 0) := by
        rw [List.getElem?_append_left hl, List.getElem?_eq_getElem hl, e]
      have e2 : (A ++ B)[A.length]? = some (B.headD 0) := by
        rw [List.getElem?_append_right (Nat.le_refl _), Nat.sub_self]
        cases B with
        | nil => exact absurd rfl hB0
        | cons c B => rfl
      have a1 := all _ (by omega) (by omega) _ e1
      have a2 := all _ (by omega) (by omega) _ e2
      rcases h with h | h
      · rw [a1] at h; cases h
      · rw [a2] at h; cases h
    · have e : ((A ++ B).drop q).take n = (A.drop q).take n := by
        rw [List.drop_append_of_le_length (Nat.le_of_lt hq), List.take_append_of_le_length (by rw [List.length_drop]; omega)]
      rw [e] at hall ⊢
      exact hA q n hall
  · have e : (A ++ B).drop q = B.drop (q - A.length) := by
      rw [List.drop_append, List.drop_eq_nil_of_le hq, List.nil_append]
    rw [e] at hall ⊢
    exact hB _ n hall
theorem lastD_app {a b : List Nat} (h : b ≠ []) : (a ++ b).getLastD 0 = b.getLastD 0 := by
  rcases List.eq_nil_or_concat b with e | ⟨l, x, e⟩
  · exact absurd e h
  · rw [e, List.concat_eq_append, ← List.append_assoc, getLastD_app, getLastD_app]
def folO : Option (Cl × Bool) → List Nat → Prop
  | none, _ => True
  | some (c, b), s => c.fol b s
def kv : Option (Cl × Bool) → Option (Kd × Val)
  | none => none
  | some (c, _) => some (c.k, c.v)
def pre (due : List W) : Except Nat (List W) → Except Nat (List W)
  | .ok ws => .ok (due ++ ws)
  | .error n => .error n
theorem pre_nil (x : Except Nat (List W)) : pre [] x = x := by cases x <;> rfl
theorem pre_pre (a b : List W) (x : Except Nat (List W)) : pre a (pre b x) = pre (a ++ b) x := by cases x <;> simp [pre]
/-- what may part words -/
structure Gp (g : List Nat) : Prop where
  gap : IsGap g
  sg : g.all okc = true
  le : g.length ≤ 200
  ends : g = [] ∨ (blankish (g.headD 0) ∧ blankish (g.getLastD 0))
theorem blankish_nd {c : Nat} (h : blankish c) : isDg c = false := by rcases h with rfl | rfl | rfl <;> rfl
def tlO : Option (Cl × Bool) → List Nat → Prop
  | none, src => src = []
  | some (c, b), src => c.ok b ∧ ∃ p, src = p ++ c.t
structure Stt (src : List Nat) (due : List W) (par : List Bool) (last : Option (Cl × Bool)) : Prop where
  go : ∀ s, folO last s → words (src ++ s) = pre due (toks (s.length + 1) s src.length par (kv last))
  nd : NdL src
  sg : src.all okc = true
  tl : tlO last src
theorem stt_nil : Stt [] [] [] none := by
  refine ⟨fun s _ => ?_, ndL_short (by simp), rfl, rfl⟩
  rw [pre_nil]
  rfl
theorem nameLike_ok {c : Cl} {b : Bool} (h : c.ok b) : c.t ≠ [] := by
  obtain ⟨x, r, H⟩ := head_of h
  rw [H.eq]
  simp
theorem head_nb {c : Cl} {b : Bool} (h : c.ok b) : ∃ x r, c.t = x :: r ∧ x ≠ 32 ∧ x ≠ 10 ∧ x ≠ 34 := by
  have nm : ∀ {n : List Nat}, IsName n → ∃ x r, n = x :: r ∧ x ≠ 32 ∧ x ≠ 10 ∧ x ≠ 34 := fun hn => by
    obtain ⟨x, r, e, hx⟩ := hn.al
    exact ⟨x, r, e, (fun z => by subst z; cases hx), (fun z => by subst z; cases hx), (fun z => by subst z; cases hx)⟩
  have dg : ∀ {n : List Nat}, Digits n → ∃ x r, n = x :: r ∧ x ≠ 32 ∧ x ≠ 10 ∧ x ≠ 34 := fun hn => by
    obtain ⟨x, r, e, hx⟩ := digits_cons hn
    exact ⟨x, r, e, (fun z => by subst z; cases hx), (fun z => by subst z; cases hx), (fun z => by subst z; cases hx)⟩
  cases c with
  | name t => exact nm h
  | keyword n =>
    obtain ⟨x, r, e, q⟩ := nm h
    exact ⟨x, r ++ [58], (by show n ++ [58] = _; rw [e]; rfl), q⟩
  | int d => exact dg h
  | neg d => exact ⟨45, d, rfl, by decide⟩
  | str u => exact ⟨39, _, rfl, by decide⟩
  | symS u => exact ⟨35, _, rfl, by decide⟩
  | symN u => exact ⟨35, _, rfl, by decide⟩
  | symK u => exact ⟨35, _, rfl, by decide⟩
  | symO u => exact ⟨35, _, rfl, by decide⟩
  | op o =>
    have h : o ∈ ops := h
    simp only [ops, List.mem_cons, List.not_mem_nil, or_false] at h
    rcases h with h | h | h | h | h | h | h | h | h | h | h | h | h | h <;> subst h <;> exact ⟨_, _, rfl, by decide⟩
  | sign o =>
    have h : o ∈ signs := h
    simp only [signs, List.mem_cons, List.not_mem_nil, or_false] at h
    rcases h with h | h | h | h | h | h | h | h | h | h | h <;> subst h <;> exact ⟨_, _, rfl, by decide⟩
theorem toks_succ (f : Nat) (l : List Nat) (p : Nat) (par : List Bool) (last : Option (Kd × Val)) : toks (f + 1) l p par last = match gap l.length l with
    | .error n => .error (p + n)
    | .ok n =>
      if l.drop n = [] then .ok [] else
      match word (binds par last) (l.drop n) with
      | none => .error (p + n)
      | some (k, v, m) =>
        match toks f (l.drop (n + m)) (p + n + m) (note par k v) (some (k, v)) with
        | .ok ws => .ok ((k, v, p + n) :: ws)
        | .error q => .error q := rfl
theorem toks_word {c : Cl} {b : Bool} {s : List Nat} (h : c.ok b) (hf : c.fol b s) (p : Nat) (par : List Bool) (last : Option (Kd × Val)) (hb : binds par last = b) (f : Nat) (hl : s.length < f) :
    toks (f + 1) (c.t ++ s) p par last = pre [(c.k, c.v, p)] (toks f s (p + c.t.length) (note par c.k c.v) (some (c.k, c.v))) := by
  obtain ⟨x, r, e, h1, h2, h3⟩ := head_nb h
  have hg : gap (c.t ++ s).length (c.t ++ s) = .ok 0 := by
    rw [e]
    show gap ((r ++ s).length + 1) (x :: (r ++ s)) = .ok 0
    unfold gap
    rw [if_neg (by rintro (z | z); exact h1 z; exact h2 z), if_neg h3]
  have hw := word_of h hf
  rw [toks_succ, hg]
  simp only [List.drop_zero, hb]
  rw [if_neg (by rw [e]; simp), hw]
  simp only [Nat.zero_add, Nat.add_zero, List.drop_left]
  cases toks f s (p + c.t.length) (note par c.k c.v) (some (c.k, c.v)) <;> rfl
theorem Stt.step {src : List Nat} {due : List W} {par : List Bool} {last : Option (Cl × Bool)} (S : Stt src due par last) {g : List Nat} {c : Cl} {b : Bool} (hg : Gp g) (hc : c.ok b) (hb : binds par (kv last) = b)
    (hp : g = [] → ∀ l b', last = some (l, b') → parts l.k l.t c.k c.t b' = false) (hs : c.t.all okc = true) (hl : c.t.length ≤ 640) :
    Stt (src ++ g ++ c.t) (due ++ [(c.k, c.v, (src ++ g).length)]) (note par c.k c.v) (some (c, b)) := by
  have hne := nameLike_ok hc
  refine ⟨fun s hf => ?_, ?_, by rw [List.all_append, List.all_append, S.sg, hg.sg, hs]; rfl, hc, _, rfl⟩
  · have hfo : folO last (g ++ (c.t ++ s)) := by
      cases hlast : last with
      | none => trivial
      | some x =>
        obtain ⟨l, b'⟩ := x
        have htl : tlO last src := S.tl
        rw [hlast] at htl
        show l.fol b' _
        rcases hg.ends with e | ⟨e1, e2⟩
        · subst e
          exact fol_parts htl.1 hc (hp rfl l b' hlast) s
        · refine fol_gap ?_
          cases g with
          | nil => rcases e1 with z | z | z <;> cases z
          | cons d r => exact .inr ⟨d, _, rfl, e1⟩
    have e0 : src ++ g ++ c.t ++ s = src ++ (g ++ (c.t ++ s)) := by simp
    rw [e0, S.go _ hfo, toks_gap hg.gap, toks_fuel _ ((c.t ++ s).length + 1) (c.t ++ s) _ _ _ (by simp; omega) (by omega)]
    have hct : 0 < c.t.length := List.length_pos_iff.mpr hne
    rw [toks_word hc hf _ par (kv last) hb _ (by rw [List.length_append]; omega), pre_pre, toks_fuel _ (s.length + 1) s _ _ _ (by rw [List.length_append]; omega) (by omega)]
    simp only [List.length_append]
    rfl
  · have n1 : NdL (src ++ g) := by
      refine ndL_app S.nd (ndL_short (Nat.le_trans hg.le (by decide))) ?_
      rcases hg.ends with e | ⟨e1, e2⟩
      · exact .inr (.inl e)
      · exact .inr (.inr (.inr (blankish_nd e1)))
    refine ndL_app n1 (ndL_short hl) ?_
    rcases hg.ends with e | ⟨e1, e2⟩
    · subst e
      rw [List.append_nil]
      have htl : tlO last src := S.tl
      cases hlast : last with
      | none => rw [hlast] at htl; exact .inl htl
      | some x =>
        obtain ⟨l, b'⟩ := x
        rw [hlast] at htl
        obtain ⟨h1, p, hp2⟩ := htl
        rcases junct h1 hc (hp rfl l b' hlast) with z | z
        · refine .inr (.inr (.inl ?_))
          rw [hp2]
          have hn := nameLike_ok h1
          rw [lastD_app hn]
          exact z
        · exact .inr (.inr (.inr z))
    · by_cases hg0 : g = []
      · subst hg0; rcases e1 with z | z | z <;> cases z
      · refine .inr (.inr (.inl ?_))
        rw [lastD_app hg0]
        exact blankish_nd e2
theorem Stt.done {src : List Nat} {due : List W} {par : List Bool} {last : Option (Cl × Bool)} (S : Stt src due par last) : words src = .ok due := by
  have h : folO last [] := by
    cases last with
    | none => trivial
    | some x => exact fol_gap (.inl rfl)
  have := S.go [] h
  rw [List.append_nil] at this
  rw [this]
  show Except.ok (due ++ []) = _
  rw [List.append_nil]
/-- what cannot be read, with the place -/
structure BadT (t : List Nat) (n : Nat) : Prop where
  bad : ∀ (p : Nat) (par : List Bool) (last : Option (Kd × Val)), toks (t.length + 1) t p par last = .error (p + n)
  sg : t.all okc = true
  le : t.length ≤ 100
theorem Stt.bad {src : List Nat} {due : List W} {par : List Bool} {last : Option (Cl × Bool)} (S : Stt src due par last) {t : List Nat} {n : Nat} (h : BadT t n) : words (src ++ 32 :: t) = .error (src.length + 1 + n) ∧ NdL (src ++ 32 :: t) ∧ (src ++ 32 :: t).all okc = true := by
  have hf : folO last (32 :: t) := by
    cases last with
    | none => trivial
    | some x => exact fol_gap (.inr ⟨32, t, rfl, .inl rfl⟩)
  refine ⟨?_, ndL_app S.nd (ndL_short (by have := h.le; simp; omega)) (.inr (.inr (.inr rfl))), by rw [List.all_append, List.all_cons, S.sg, h.sg]; rfl⟩
  rw [S.go _ hf]
  have e : (32 :: t : List Nat) = [32] ++ t := rfl
  rw [e, toks_gap (isGap_blank (.inl rfl)), toks_fuel _ (t.length + 1) t _ _ _ (by simp; omega) (by omega), h.bad]
  rfl
theorem toks_none {t : List Nat} {f : Nat} (h0 : gap t.length t = .ok 0) (h1 : t ≠ []) (h2 : ∀ b, word b t = none) (p : Nat) (par : List Bool) (last : Option (Kd × Val)) : toks (f + 1) t p par last = .error (p + 0) := by
  rw [toks_succ, h0]
  simp only [List.drop_zero]
  rw [if_neg h1, h2]
def badB (t : List Nat) : Bool := decide (gap t.length t = .ok 0) && decide (t ≠ []) && decide (word true t = none) && decide (word false t = none) && t.all okc && decide (t.length ≤ 100)
theorem bad_of {t : List Nat} (h : badB t = true) : BadT t 0 := by
  unfold badB at h
  simp only [Bool.and_eq_true, decide_eq_true_eq] at h
  exact ⟨toks_none h.1.1.1.1.1 h.1.1.1.1.2 (fun b => by cases b; exact h.1.1.2; exact h.1.1.1.2), h.1.2, h.2⟩
theorem dbl_length (u : List Nat) : (dbl u).length ≤ 2 * u.length := by
  induction u with
  | nil => exact Nat.le_refl _
  | cons c u ih =>
    rw [dbl]
    split <;> simp only [List.length_cons] <;> omega
theorem dbl_sg {u : List Nat} (h : u.all okc = true) : (dbl u).all okc = true := by
  induction u with
  | nil => rfl
  | cons c u ih =>
    rw [List.all_cons, Bool.and_eq_true] at h
    rw [dbl]
    split <;> simp only [List.all_cons, ih h.2, Bool.and_true]
    · rfl
    · exact h.1
/-- a string that does not end -/
theorem bad_str {u : List Nat} (hu : u.all okc = true) (hl : u.length ≤ 40) : BadT (39 :: (dbl u ++ [39, 39])) 0 := by
  have e : dbl u ++ [39, 39] = dbl (u ++ [39]) := by rw [dbl_app]; rfl
  have hd := dbl_length u
  refine ⟨toks_none rfl (by simp) (fun b => ?_), ?_, by simp; omega⟩
  · rw [wrd_str, e, strBody_open]
    show other (39 :: dbl (u ++ [39])) = none
    cases dbl (u ++ [39]) with
    | nil => rfl
    | cons d r => simp [other, listed, ops, signs]
  · rw [List.all_cons, List.all_append, dbl_sg hu]; rfl
theorem bad_symS {u : List Nat} (hu : u.all okc = true) (hl : u.length ≤ 40) : BadT (35 :: 39 :: dbl u) 0 := by
  have hd := dbl_length u
  refine ⟨toks_none rfl (by simp) (fun b => ?_), ?_, by simp; omega⟩
  · have es : symbol (39 :: dbl u) = none := by
      unfold symbol
      rw [if_pos (by rfl), show (39 :: dbl u).drop 1 = dbl u from rfl, strBody_open]
    rw [word_sym, es]
    show other (35 :: 39 :: dbl u) = none
    simp [other, listed, ops, signs]
  · rw [List.all_cons, List.all_cons, dbl_sg hu]; rfl
theorem find_none {c : Nat} {l : List Nat} (h : c ∉ l) : find c l = none := by
  induction l with
  | nil => rfl
  | cons d l ih =>
    unfold find
    rw [if_neg (fun e => h (by rw [e]; exact List.mem_cons_self)), ih (fun z => h (List.mem_cons_of_mem _ z))]
    rfl
theorem bad_com {u : List Nat} (hu : u.all okc = true) (hl : u.length ≤ 40) (h : 34 ∉ u) : BadT (34 :: u) 0 := by
  refine ⟨fun p par last => ?_, by rw [List.all_cons, hu]; rfl, by simp; omega⟩
  have e : gap (34 :: u).length (34 :: u) = .error 0 := by
    show gap (u.length + 1) (34 :: u) = _
    unfold gap
    rw [if_neg (by decide), if_pos rfl, find_none h]
  unfold toks
  rw [e]
theorem bad_minus : BadT (45 :: List.replicate 61 48) 1 := by
  refine ⟨fun p par last => ?_, by decide, by decide⟩
  have e1 : gap (45 :: List.replicate 61 48).length (45 :: List.replicate 61 48) = .ok 0 := rfl
  have e2 : ∀ b, word b (45 :: List.replicate 61 48) = some (.op, .s [45], 1) := fun b => by cases b <;> decide
  have e3 : gap (List.replicate 61 48).length (List.replicate 61 48) = .ok 0 := rfl
  have e4 : ∀ b, word b (List.replicate 61 48) = none := fun b => by cases b <;> decide
  have e5 := fun q par last => toks_none (f := 61) e3 (by decide) e4 q par last
  show toks (61 + 1 + 1) (45 :: List.replicate 61 48) p par last = _
  rw [toks_succ, e1]
  simp only [List.drop_zero]
  rw [if_neg (by decide), e2]
  simp only [Nat.zero_add, Nat.add_zero]
  rw [show (45 :: List.replicate 61 48).drop 1 = List.replicate 61 48 from rfl, e5]
/-! ### the signs that are open, as the law keeps them -/
def opens (par : List Bool) : List Bool := (List.range par.length).map fun i => (par.take (i + 1)).any id
theorem opens_push (par : List Bool) (x : Bool) : opens (par ++ [x]) = opens par ++ [par.any id || x] := by
  unfold opens
  rw [List.length_append, List.length_singleton, List.range_succ, List.map_append]
  congr 1
  · refine List.map_congr_left fun i hi => ?_
    have : i < par.length := List.mem_range.mp hi
    rw [List.take_append_of_le_length (by omega)]
  · have e : (par ++ [x]).take (par.length + 1) = par ++ [x] := List.take_of_length_le (by simp)
    simp only [List.map_cons, List.map_nil]
    rw [e, List.any_append]
    simp
theorem opens_length (par : List Bool) : (opens par).length = par.length := by simp [opens]
theorem opens_last (par : List Bool) : (opens par).getLast? = if par = [] then none else some (par.any id) := by
  rcases List.eq_nil_or_concat par with h | ⟨l, x, h⟩
  · subst h; rfl
  · subst h
    rw [List.concat_eq_append, if_neg (by simp), opens_push, List.any_append]
    simp
theorem opens_pop (par : List Bool) : opens par.dropLast = (opens par).dropLast := by
  rcases List.eq_nil_or_concat par with h | ⟨l, x, h⟩
  · subst h; rfl
  · subst h
    rw [List.concat_eq_append, opens_push]
    simp
end Tok
namespace Tok
theorem toks_le : ∀ (f : Nat) (l : List Nat) (p : Nat) (par : List Bool) (last : Option (Kd × Val)) (ws : List W), toks f l p par last = .ok ws → ws.length ≤ l.length
  | 0, l, p, par, last, ws, h => by cases h; exact Nat.zero_le _
  | f + 1, l, p, par, last, ws, h => by
    rw [toks_succ] at h
    cases e : gap l.length l with
    | error n => rw [e] at h; cases h
    | ok n =>
      rw [e] at h
      simp only [] at h
      split at h
      · cases h; exact Nat.zero_le _
      · rename_i hne
        cases e2 : word (binds par last) (l.drop n) with
        | none => rw [e2] at h; cases h
        | some x =>
          obtain ⟨k, v, m⟩ := x
          rw [e2] at h
          simp only [] at h
          cases e3 : toks f (l.drop (n + m)) (p + n + m) (note par k v) (some (k, v)) with
          | error q => rw [e3] at h; cases h
          | ok us =>
            rw [e3] at h
            cases h
            have := toks_le f _ _ _ _ _ e3
            have hm := word_pos e2
            have hl : n < l.length := by
              rcases Nat.lt_or_ge n l.length with z | z
              · exact z
              · exact absurd (List.drop_eq_nil_of_le z) hne
            rw [List.length_drop] at this
            simp only [List.length_cons]
            omega
theorem words_le {l : List Nat} {ws : List W} (h : words l = .ok ws) : ws.length ≤ l.length := toks_le _ _ _ _ _ _ h
end Tok

end
section
set_option Elab.async false
set_option linter.all false
set_option maxRecDepth 100000
set_option maxHeartbeats 2000000
namespace My
open PySem PySem.Spec PyProof.Rows L2
@[irreducible] def tLitW (d : PyData) : TE := tLit d
theorem tLitW_eq (d : PyData) : tLitW d = tLit d := by unfold tLitW; rfl
theorem litPE {X : Cx} {e : Expr} (d : PyData) (h : PE X e (tLit d)) : PE X e (tLitW d) := by rw [tLitW_eq]; exact h
theorem litNeg {X : Cx} {e : Expr} {pos : Pos} {n : Int} (h : PE X e (tC (.int n))) (hn : decide (-n < 0) = true) : PE X (.UnaryOp .USub e pos) (tLit (.int (-n))) := by
  have h2 : PE X (.UnaryOp .USub e pos) (tUn (rU fun i => .int (-i)) (tC (.int n))) := pe_un un_neg h
  unfold tLit
  rw [if_pos (of_decide_eq_true hn), Int.neg_neg]
  exact h2
theorem Rows.lit_any {K : PySem.W.Frag} (d : PyData) (ok : litOk d = true) (σ : L2.St) (H : Hp) (Q : VK) (q : ∀ v D H', Same H H' → Part D H H' → Dp K D v d → Q v H') : tLitW d σ H Q := by rw [tLitW_eq]; exact lit_ok (K := K) d ok σ H Q q
def strOf (t : List Nat) : Str := ⟨t.toArray⟩
def kdS : Tok.Kd → Str
  | .name => "name"
  | .keyword => "keyword"
  | .int => "int"
  | .str => "str"
  | .sym => "sym"
  | .op => "op"
  | .sign => "sign"
def dVal : Tok.Val → PyData
  | .s t => .str (strOf t)
  | .i n => .int n
/-- a word as the tuple that stands for it -/
def dW (w : Tok.W) : PyData := .tuple [.str (kdS w.1), dVal w.2.1, .int w.2.2]
/-- a row of a menu: a text, the words that it should have -/
def dRow (r : List Nat × List Tok.W) : PyData := .tuple [.str (strOf r.1), .list (r.2.map dW)]
section
variable {P : Program} {w : World} {K : PySem.W.Frag} {mg : Str → Option Value} {base : Heap}
/-- a list of data at L, apart from all that stands in H0 -/
structure Rows (K : PySem.W.Frag) (H0 H : Hp) (L : Addr) (ds : List PyData) : Prop where
  old : Same H0 H
  new : H0 L = none
  at_ : ∃ vs D, H L = some (.lst vs) ∧ DpAll K D vs ds ∧ ∀ a o, D a = some o → H a = some o ∧ a ≠ L ∧ H0 a = none
theorem Rows.one {H0 : Hp} {d : PyData} {ds : List PyData} {σ : L2.St} {Q : VK} (hd : d = .list ds) (ok : litOk d = true) (q : ∀ L H, Rows K H0 H L ds → Q (.ref L) H) : tLitW d σ H0 Q := by
  subst hd
  rw [tLitW_eq]
  unfold tLit
  unfold litOk at ok
  rw [Bool.and_eq_true] at ok
  refine lits_ok (K := K) ds ok.2 σ H0 _ fun vs D H' e p h => ?_
  have hl : vs.length ≤ 1000 := by rw [dpAll_length h]; exact of_decide_eq_true ok.1
  refine ⟨Nat.le_trans hl (by decide), fun a ha => q a _ ⟨e.trans fun b o z => by rw [upd_ne (ne_of_none z ha)]; exact z, e.free ha, vs, D, upd_same, h, fun b o z => ?_⟩⟩
  have hb := p.inn b o z
  exact ⟨by rw [upd_ne (ne_of_none hb ha)]; exact hb, ne_of_none hb ha, p.new b o z⟩
theorem Rows.more {H0 H : Hp} {L : Addr} {ds : List PyData} {d : PyData} {H' D : Hp} {v : V} (R : Rows K H0 H L ds) (e : Same H H') (p : Part D H H') (h : Dp K D v d) :
    ∃ vs, H' L = some (.lst vs) ∧ vs.length = ds.length ∧ Rows K H0 (upd H' L (.lst (vs ++ [v]))) L (ds ++ [d]) := by
  obtain ⟨vs, D0, hL, hD, k⟩ := R.at_
  have nL : D L = none := by
    cases z : D L with
    | none => rfl
    | some o => have := p.new L o z; rw [hL] at this; cases this
  refine ⟨vs, e L _ hL, dpAll_length hD, fun b o z => ?_, R.new, vs ++ [v], uni D D0, upd_same, dpAll_append (dp_monoAll (uni_r p.new fun a o z => (k a o z).1) ds vs hD) (.cons (dp_mono uni_l d v h) .nil), fun b o z => ?_⟩
  · rw [upd_ne (ne_of_none z R.new)]
    exact e b o (R.old b o z)
  · rcases uni_cases z with z | z
    · have nb : b ≠ L := fun q => by subst q; rw [nL] at z; cases z
      exact ⟨by rw [upd_ne nb]; exact p.inn b o z, nb, R.old.free (p.new b o z)⟩
    · obtain ⟨k1, k2, k3⟩ := k b o z
      exact ⟨by rw [upd_ne k2]; exact e b o k1, k2, k3⟩
theorem Rows.dp {H0 H : Hp} {L : Addr} {ds : List PyData} (R : Rows K H0 H L ds) : Dp K H (.ref L) (.list ds) := by
  obtain ⟨vs, D, hL, hD, k⟩ := R.at_
  exact .lst (SqL.of hL) (dp_monoAll (fun a o z => (k a o z).1) ds vs hD)
/-- rows = a display -/
theorem asg_lit {H0 : Hp} {d : PyData} {ds : List PyData} {σ : L2.St} {u : TS} {D : Ends} {i : Nat} (hd : d = .list ds) (ok : litOk d = true) (q : ∀ L H, Rows K H0 H L ds → u D (σ.set i (some (.ref L))) H) : tSeq (tAsg (tLitW d) (gName i)) u D σ H0 :=
  Rows.one (K := K) hd ok q
/-- rows.append(a display) -/
theorem app_lit {H0 H : Hp} {L : Addr} {ds : List PyData} {d : PyData} {σ : L2.St} {u : TS} {D : Ends} {i : Nat} (hi : σ[i]? = some (some (.ref L))) (R : Rows K H0 H L ds) (ok : litOk d = true) (hl : ds.length ≤ 1000)
    (q : ∀ H', Rows K H0 H' L (ds ++ [d]) → u D σ H') : tSeq (tDrop (tBM K "list" rAppend (tVar i) (tCons (tLitW d) tNil))) u D σ H := by
  obtain ⟨vs, _, hL, _⟩ := R.at_
  refine ⟨_, hi, .inl ⟨rfl, vs, SqL.of hL⟩, ?_⟩
  refine Rows.lit_any (K := K) d ok σ H _ fun v D' H' e p h => ?_
  obtain ⟨vs, hL, hn, R'⟩ := R.more e p h
  exact ⟨L, vs, v, rfl, rfl, hL, Nat.lt_of_le_of_lt (by omega : vs.length ≤ 1000) (by decide), q _ R'⟩
end
section
variable {P : Program} {w : World} {K : PySem.W.Frag} {mg : Str → Option Value} {base : Heap}
def spRows (K : PySem.W.Frag) (ds : List PyData) : Sp := fun vs H Q _ => vs = [] ∧ ∀ L H', Rows K H H' L ds → Q (.ref L) H'
theorem ret_rows {σ : L2.St} {H0 H : Hp} {L : Addr} {ds ds' : List PyData} {D : Ends} {i : Nat} (hi : σ[i]? = some (some (.ref L))) (R : Rows K H0 H L ds) (e : ds = ds') (q : ∀ H', Rows K H0 H' L ds' → D.rt (.ref L) H') : tRet (tVar i) D σ H :=
  ⟨_, hi, q H (e ▸ R)⟩
end
end My

end
section
set_option Elab.async false
set_option linter.all false
set_option maxRecDepth 100000
set_option maxHeartbeats 2000000
namespace My
open PySem PySem.Spec PyProof.Rows L2
abbrev codesOf (z : Str) : List Nat := z.cps.toList
/-- what is no source: no text, or one that is too long or has other signs -/
def NotSource (K : PySem.W.Frag) (H : Hp) (v : V) : Prop := (∃ z, v = .str z ∧ Tok.isSource (codesOf z) = false ∧ z.length ≤ 16777216) ∨ ((∀ z, v ≠ .str z) ∧ ∃ t, TyX K H v t ∧ PySem.W.kitOne K t (.type "str") = some false)
/-- no more than 640 digits in a row -/
def Nd (L : List Nat) : Prop := ∀ q n : Nat, ((L.drop q).take n).all Tok.isDg = true → ((L.drop q).take n).length ≤ 640
/-- words_of(source): C the class of BadSource -/
def spWords (K : PySem.W.Frag) (C : Addr) : Sp := fun vs H Q E => ∃ v, vs = [v] ∧
  ((∃ z, v = .str z ∧ Tok.isSource (codesOf z) = true ∧ (34 ∉ codesOf z → Nd (codesOf z)) ∧ (∀ ws, Tok.words (codesOf z) = .ok ws → ∀ p H', Rows K H H' p (ws.map dW) → Q (.ref p) H') ∧
      (∀ n, Tok.words (codesOf z) = .error n → ∀ d H', Same H H' → H' d = some (.xd [("place", .int (n : Int))]) → E (.ref C) (some d) H')) ∨
   (NotSource K H v ∧ ∀ d H', Same H H' → H' d = some (.xd [("place", .int (-1))]) → E (.ref C) (some d) H'))
/-- told(text): what words_of returns and «read», or None and the place -/
def spTold (K : PySem.W.Frag) : Sp := fun vs H Q _ => ∃ v, vs = [v] ∧
  ((∃ z, v = .str z ∧ Tok.isSource (codesOf z) = true ∧ (34 ∉ codesOf z → Nd (codesOf z)) ∧ (∀ ws, Tok.words (codesOf z) = .ok ws → ∀ p q H1 H', Rows K H H1 p (ws.map dW) → Same H1 H' → H1 q = none → H' q = some (.tup [.ref p, .str "read"]) → Q (.ref q) H') ∧
      (∀ n, Tok.words (codesOf z) = .error n → ∀ q H', Same H H' → H q = none → H' q = some (.tup [.non, .int (n : Int)]) → Q (.ref q) H')) ∨
   (NotSource K H v ∧ ∀ q H', Same H H' → H q = none → H' q = some (.tup [.non, .int (-1)]) → Q (.ref q) H'))
abbrev s_law_told : Stmt := top 56
section
variable {P : Program} {w : World} {K : PySem.W.Frag} {mg : Str → Option Value} {base : Heap}
structure ExcTxt (K : PySem.W.Frag) (mg : Str → Option Value) (C : Addr) : Prop where
  g : mg "BadSource" = some (.ref C)
  xf : XfC K C
  no : PySem.W.findIn K (.ref C) "place" = some none
  em : PySem.W.exmOne K (.ref C) (.ref C) = some true
theorem sc_law_told : FnScope ["_law_source", "_law_found", "_law_place", "e"] ["_law_source"] (defScope s_law_told) := ⟨rfl, rfl, rfl, by decide +kernel, rfl, by decide +kernel, by decide +kernel⟩
theorem ok_told {f fW C : Addr} {fd fdW : FuncData} {kW : Nat} (F : FnP K "_law_told" s_law_told f fd) (T : ExcTxt K mg C) (GW : FnOk P w K mg base (L2.CX P w) kW fW fdW ["source"] (spWords K C)) (gW : mg "words_of" = some (.ref fW)) (hkW : PySem.W.keepIn K (.ref fW) = true) (bW : Binds K fdW ["source"] []) :
    FnOk P w K mg base CX0 (kW + 1) f fd ["_law_source"] (spTold K) := by
  refine F.ok sc_law_told (fun vs H Q E h => ?_) (fun cdv A outer s H vs Q E hr h => ⟨_, PSs.nox
    (pss_cons (ps_set (i := 1) sc_law_told.nd rfl (Or.inl rfl) pe_non)
    (pss_cons (ps_set (i := 2) sc_law_told.nd rfl (Or.inl rfl) pe_str)
    (pss_cons (ps_try_as (i := 3) (Wout := fun _ _ _ _ => False) rfl rfl sc_law_told.nd rfl rfl ⟨rfl, by decide, Or.inl T.g⟩ takes0
       (fun W pn xe tk _ => pss_one (ps_set (i := 1) sc_law_told.nd rfl (Or.inl rfl) (by exact (pe_callS GW hr rfl gW hkW bW (fun σ => passAt tk σ) (by exact (pa_cons (pv 0) pa_nil))))))
       (fun a oe cls d pn hz hf => pss_one (ps_set (i := 2) sc_law_told.nd rfl (Or.inl rfl) (by exact (pe_xf T.xf T.no hz hf (pv 3))))))
    (pss_one (ps_ret (pe_tup (pa_cons (pv 1) (pa_cons (pv 2) pa_nil)))))))), ?_⟩)
  · obtain ⟨v, rfl, _⟩ := h
    rfl
  · obtain ⟨v, rfl, h⟩ := h
    have bad : ∀ (n : Int) (d : Addr) (H' : Hp), Same H H' → H' d = some (.xd [("place", .int n)]) → (∀ q H', Same H H' → H q = none → H' q = some (.tup [.non, .int n]) → Q (.ref q) H') →
        wAs K (.ref C) 3 (fun a cls d => tAsg (tXf a cls d C (Str.ofString "place") (tVar 3)) (gName 2)) (fun _ _ _ _ => False)
          { nx := (tRet (tTup (tCons (tVar 1) (tCons (tVar 2) tNil)))) { nx := fun _ H' => Q .non H', rt := Q }, rt := Q } (.ref C) (some d) [some v, some .non, some (.str "read"), none] H' := by
      intro n d H' hs hd k
      refine ⟨true, T.em, fun _ a na => ?_, fun z => by cases z⟩
      refine ⟨_, rfl, rfl, rfl, d, _, _, rfl, hd, rfl, ?_⟩
      refine ⟨_, rfl, _, rfl, (by show 2 ≤ sizeLine; decide), fun q hq => ?_⟩
      exact k q _ (hs.trans fun b o z => by rw [upd_ne (ne_of_none z hq)]; exact z) (hs.free hq) upd_same
    refine ⟨_, rfl, v, rfl, ?_⟩
    rcases h with ⟨z, rfl, hz, hnd, hok, herr⟩ | ⟨hn, k⟩
    · refine .inl ⟨z, rfl, hz, hnd, fun ws hw p H1 R => ?_, fun n hn d H' hs hd => ?_⟩
      · refine ⟨_, rfl, _, rfl, (by show 2 ≤ sizeLine; decide), fun q hq => ?_⟩
        exact hok ws hw p q H1 _ R (fun b o z => by rw [upd_ne (ne_of_none z hq)]; exact z) hq upd_same
      · exact bad n d H' hs hd (herr n hn)
    · exact .inr ⟨hn, fun d H' hs hd => bad (-1) d H' hs hd k⟩
end
end My

end
section
set_option Elab.async false
set_option linter.all false
set_option maxRecDepth 100000
set_option maxHeartbeats 2000000
namespace My
open PySem PySem.Spec PyProof.Rows L2
/-! ### readings that lay down data -/
def rAddS : R2 := fun x y H Q => ∃ i j, x = .str i ∧ y = .str j ∧ i.length + j.length ≤ sizeLine ∧ Q (.str (i ++ j)) H
theorem op_addS {X : Cx} : OpR X (binaryOp .Add) rAddS := op_add_str
def EvD (K : PySem.W.Frag) (te : TE) (d : PyData) : Prop := ∀ (σ : L2.St) (H : Hp) (Q : VK), (∀ v D H', Same H H' → Part D H H' → Dp K D v d → Q v H') → te σ H Q
def EvDs (K : PySem.W.Frag) (ta : TA) (ds : List PyData) : Prop := ∀ (σ : L2.St) (H : Hp) (Q : List V → Hp → Prop), (∀ vs D H', Same H H' → Part D H H' → DpAll K D vs ds → Q vs H') → ta σ H Q
section
variable {K : PySem.W.Frag}
theorem evd_int {i : Int} : EvD K (tC (.int i)) (.int i) := fun _ _ _ q => q _ (fun _ => none) _ (Same.refl _) part_nil (.int i)
theorem evd_str {z : Str} : EvD K (tC (.str z)) (.str z) := fun _ _ _ q => q _ (fun _ => none) _ (Same.refl _) part_nil (.str z)
theorem evd_rep {a : TE} {z : Str} {n : Int} (ha : EvD K a (.str z)) (h0 : 0 ≤ n) (h1 : n ≤ 100000) (h2 : z.length * n.toNat ≤ 100000) : EvD K (tOp rRepS a (tC (.int n))) (.str (Txt.mul z n)) := fun σ H Q q =>
  ha σ H _ fun v D H' e p h => by
    cases h
    exact ⟨z, n, rfl, rfl, h0, h1, h2, q _ (fun _ => none) _ e part_nil (.str _)⟩
theorem evd_add {a b : TE} {x y : Str} (ha : EvD K a (.str x)) (hb : EvD K b (.str y)) (h : x.length + y.length ≤ 100000) : EvD K (tOp rAddS a b) (.str (x ++ y)) := fun σ H Q q =>
  ha σ H _ fun v D H1 e p h1 => by
    cases h1
    refine hb σ H1 _ fun v' D' H2 e2 p2 h2 => ?_
    cases h2
    exact ⟨x, y, rfl, rfl, Nat.le_trans h (by decide), q _ (fun _ => none) _ (e.trans e2) part_nil (.str _)⟩
theorem evds_nil : EvDs K tNil [] := fun _ _ _ q => q _ (fun _ => none) _ (Same.refl _) part_nil .nil
theorem evds_cons {te : TE} {ta : TA} {d : PyData} {ds : List PyData} (h1 : EvD K te d) (h2 : EvDs K ta ds) : EvDs K (tCons te ta) (d :: ds) := fun σ H Q q =>
  h1 σ H _ fun v D H1 e p h => h2 σ H1 _ fun vs D2 H2 e2 p2 h2 => by
    refine q (v :: vs) (uni D2 D) H2 (e.trans e2) ⟨fun b o z => ?_, fun b o z => ?_⟩ (.cons (dp_mono (uni_r p2.new p.inn) d v h) (dp_monoAll uni_l ds vs h2))
    · rcases uni_cases z with z | z
      · exact p2.inn b o z
      · exact e2 b o (p.inn b o z)
    · rcases uni_cases z with z | z
      · exact e.free (p2.new b o z)
      · exact p.new b o z
theorem part_upd {D H H' : Hp} {a : Addr} {o : HO} (e : Same H H') (p : Part D H H') (ha : H' a = none) : Part (upd D a o) H (upd H' a o) := by
  refine ⟨fun b u z => ?_, fun b u z => ?_⟩
  · by_cases c : b = a
    · subst c
      rw [upd_same] at z ⊢
      exact z
    · rw [upd_ne c] at z ⊢
      exact p.inn b u z
  · by_cases c : b = a
    · rw [c]; exact e.free ha
    · rw [upd_ne c] at z
      exact p.new b u z
theorem part_none {D H H' : Hp} {a : Addr} (p : Part D H H') (ha : H' a = none) : D a = none := by
  cases z : D a with
  | none => rfl
  | some o => rw [p.inn a o z] at ha; cases ha
theorem evd_tup {ta : TA} {ds : List PyData} (h : EvDs K ta ds) (hl : ds.length ≤ 1000) : EvD K (tTup ta) (.tuple ds) := fun σ H Q q =>
  h σ H _ fun vs D H' e p hd => ⟨Nat.le_trans (by rw [dpAll_length hd]; exact hl) (by decide : 1000 ≤ sizeLine), fun a ha =>
    q _ (upd D a (.tup vs)) _ (e.trans fun b o z => by rw [upd_ne (ne_of_none z ha)]; exact z) (part_upd e p ha)
      (.tup (SqT.of upd_same) (dp_monoAll (fun b o z => by rw [upd_ne (ne_of_none z (part_none p ha))]; exact z) ds vs hd))⟩
theorem evd_lst {ta : TA} {ds : List PyData} (h : EvDs K ta ds) (hl : ds.length ≤ 1000) : EvD K (tLst ta) (.list ds) := fun σ H Q q =>
  h σ H _ fun vs D H' e p hd => ⟨Nat.le_trans (by rw [dpAll_length hd]; exact hl) (by decide : 1000 ≤ sizeLine), fun a ha =>
    q _ (upd D a (.lst vs)) _ (e.trans fun b o z => by rw [upd_ne (ne_of_none z ha)]; exact z) (part_upd e p ha)
      (.lst (SqL.of upd_same) (dp_monoAll (fun b o z => by rw [upd_ne (ne_of_none z (part_none p ha))]; exact z) ds vs hd))⟩
theorem evd_lit {d : PyData} (ok : litOk d = true) : EvD K (tLitW d) d := fun σ H Q q => Rows.lit_any (K := K) d ok σ H Q q
/-- a display of a list: new rows -/
theorem rows_lst {ta : TA} {ds : List PyData} (h : EvDs K ta ds) (hl : ds.length ≤ 1000) {σ : L2.St} {H : Hp} {Q : VK} (q : ∀ L H', Rows K H H' L ds → Q (.ref L) H') : tLst ta σ H Q :=
  h σ H _ fun vs D H' e p hd => ⟨Nat.le_trans (by rw [dpAll_length hd]; exact hl) (by decide : 1000 ≤ sizeLine), fun a ha => q a _ ⟨e.trans fun b o z => by rw [upd_ne (ne_of_none z ha)]; exact z, e.free ha, vs, D, upd_same, hd, fun b o z =>
    have hb := p.inn b o z
    ⟨by rw [upd_ne (ne_of_none hb ha)]; exact hb, ne_of_none hb ha, p.new b o z⟩⟩⟩
/-- rows + rows -/
theorem rows_cat {H0 H1 H2 : Hp} {L M : Addr} {ds es : List PyData} (R : Rows K H0 H1 L ds) (S : Rows K H1 H2 M es) (hl : ds.length + es.length ≤ 1000) {Q : VK} (q : ∀ p H', Rows K H0 H' p (ds ++ es) → Q (.ref p) H') : rCat (.ref L) (.ref M) H2 Q := by
  obtain ⟨vs, D, hL, hD, k⟩ := R.at_
  obtain ⟨us, E, hM, hE, k2⟩ := S.at_
  refine ⟨L, M, vs, us, rfl, rfl, S.old L _ hL, hM, Nat.le_trans (by rw [dpAll_length hD, dpAll_length hE]; exact hl) (by decide : 1000 ≤ sizeLine), fun p hp => q p _ ⟨(R.old.trans S.old).trans fun b o z => by rw [upd_ne (ne_of_none z hp)]; exact z, (R.old.trans S.old).free hp, vs ++ us, uni E D, upd_same, dpAll_append (dp_monoAll (uni_r (fun a o z => (k2 a o z).2.2) fun a o z => (k a o z).1) ds vs hD) (dp_monoAll uni_l es us hE), fun b o z => ?_⟩⟩
  rcases uni_cases z with z | z
  · obtain ⟨z1, z2, z3⟩ := k2 b o z
    exact ⟨by rw [upd_ne (ne_of_none z1 hp)]; exact z1, ne_of_none z1 hp, R.old.free z3⟩
  · obtain ⟨z1, z2, z3⟩ := k b o z
    have z4 := S.old b o z1
    exact ⟨by rw [upd_ne (ne_of_none z4 hp)]; exact z4, ne_of_none z4 hp, z3⟩
theorem st_rows {ta : TA} {ds : List PyData} {u : TS} {D : Ends} {σ : L2.St} {H : Hp} {i : Nat} (h : EvDs K ta ds) (hl : ds.length ≤ 1000) (q : ∀ L H', Rows K H H' L ds → u D (σ.set i (some (.ref L))) H') : tSeq (tAsg (tLst ta) (gName i)) u D σ H := by
  show tLst ta σ H (fun v H1 => u D (σ.set i (some v)) H1)
  exact rows_lst (K := K) h hl q
theorem st_cat {ta : TA} {ds es : List PyData} {u : TS} {D : Ends} {σ : L2.St} {H0 H : Hp} {L : Addr} {i j : Nat} (hi : σ[j]? = some (some (.ref L))) (R : Rows K H0 H L ds) (h : EvDs K ta es) (hl : es.length ≤ 1000) (hs : ds.length + es.length ≤ 1000)
    (q : ∀ p H', Rows K H0 H' p (ds ++ es) → u D (σ.set i (some (.ref p))) H') : tSeq (tAsg (tOp rCat (tVar j) (tLst ta)) (gName i)) u D σ H :=
  ⟨_, hi, rows_lst (K := K) h hl fun _ _ S => rows_cat R S hs q⟩
theorem rt_cat {ta : TA} {ds es : List PyData} {D : Ends} {σ : L2.St} {H0 H : Hp} {L : Addr} {j : Nat} (hi : σ[j]? = some (some (.ref L))) (R : Rows K H0 H L ds) (h : EvDs K ta es) (hl : es.length ≤ 1000) (hs : ds.length + es.length ≤ 1000)
    {all : List PyData} (e : ds ++ es = all) (q : ∀ p H', Rows K H0 H' p all → D.rt (.ref p) H') : tRet (tOp rCat (tVar j) (tLst ta)) D σ H :=
  ⟨_, hi, rows_lst (K := K) h hl fun _ _ S => rows_cat R S hs fun p H' R' => q p H' (e ▸ R')⟩
end
/-- a bag at b, n takes behind its making -/
def BagAt (H : Hp) (b : Addr) (n : Nat) : Prop := ∃ x y z : Int, H b = some (.lst [.int x, .int y, .int z]) ∧ BagN n x y z
/-- from H to H': the bag at b has gone on, all else stands -/
structure Went (b : Addr) (n : Nat) (H H' : Hp) : Prop where
  bag : BagAt H' b n
  rest : ∀ a o, a ≠ b → H a = some o → H' a = some o
theorem Went.free {b : Addr} {n : Nat} {H H' : Hp} (w : Went b n H H') {p : Addr} (h : H' p = none) : H p = none := by
  cases e : H p with
  | none => rfl
  | some o =>
    by_cases c : p = b
    · subst c
      obtain ⟨x, y, z, hb, _⟩ := w.bag
      rw [hb] at h
      cases h
    · rw [w.rest p o c e] at h
      cases h
theorem Went.trans {b : Addr} {n m : Nat} {H H1 H2 : Hp} (w : Went b n H H1) (u : Went b m H1 H2) : Went b m H H2 := ⟨u.bag, fun a o c h => u.rest a o c (w.rest a o c h)⟩
theorem Went.same {b : Addr} {n : Nat} {H H1 H2 : Hp} (w : Went b n H H1) (e : Same H1 H2) : Went b n H H2 := by
  obtain ⟨x, y, z, hb, hB⟩ := w.bag
  exact ⟨⟨x, y, z, e b _ hb, hB⟩, fun a o c h => e a o (w.rest a o c h)⟩
theorem Went.of {b : Addr} {n : Nat} {H H' : Hp} (h : BagAt H b n) (e : Same H H') : Went b n H H' := by
  obtain ⟨x, y, z, hb, hB⟩ := h
  exact ⟨⟨x, y, z, e b _ hb, hB⟩, fun a o _ h => e a o h⟩
theorem Went.not {b : Addr} {n : Nat} {H H' : Hp} (w : Went b n H H') {D : Hp} (h : ∀ a o, D a = some o → H a = some o ∧ a ≠ b) : Same D H' := fun a o e => w.rest a o (h a o e).2 (h a o e).1
section
variable {K : PySem.W.Frag}
/-- pick(bag, [..]) -/
theorem pick_lst {ta : TA} {ds : List PyData} {σ : L2.St} {H : Hp} {b : Addr} {n i : Nat} {Q : VK} (hi : σ[i]? = some (some (.ref b))) (hb : BagAt H b n) (hn : n < 1000000) (h : EvDs K ta ds) (h0 : 0 < ds.length) (hl : ds.length ≤ 1000)
    (q : ∀ d v D H', d ∈ ds → Dp K D v d → (∀ a o, D a = some o → H' a = some o ∧ H a = none) → Went b (n + 1) H H' → Q v H') : tCall (spPick K) [] E0 (tCons (tVar i) (tCons (tLst ta) tNil)) σ H Q := by
  refine ⟨_, hi, rows_lst (K := K) h hl fun L H1 R => ?_⟩
  obtain ⟨x, y, z, hb0, hB⟩ := hb
  obtain ⟨vs, D, hL, hD, k⟩ := R.at_
  have hbL : L ≠ b := fun e => by have := R.new; rw [e, hb0] at this; cases this
  have hlen := dpAll_length hD
  refine ⟨b, n, x, y, z, R.old b _ hb0, hB, hn, .inl ⟨L, vs, rfl, .inl fun x' y' z' => SqL.of (by rw [upd_ne hbL]; exact hL), by omega, by omega, fun j v x' y' z' hv hB' => ?_⟩⟩
  obtain ⟨d, hd, hDp⟩ := dpAll_get hD hv
  refine q d v D _ (List.mem_of_getElem? hd) hDp (fun a o e => ?_) ⟨⟨x', y', z', upd_same, hB'⟩, fun a o c e => by rw [upd_ne c]; exact R.old a o e⟩
  obtain ⟨k1, k2, k3⟩ := k a o e
  have c : a ≠ b := fun e2 => by rw [e2, hb0] at k3; cases k3
  exact ⟨by rw [upd_ne c]; exact k1, k3⟩
end
theorem codes_mul (z : Str) (n : Int) (h0 : 0 ≤ n) : codesOf (Txt.mul z n) = Tok.rep n.toNat (codesOf z) := by
  unfold Txt.mul
  split
  · rename_i h
    have : n.toNat = 0 := by omega
    rw [this]
    rfl
  · split
    · rename_i h1 h2
      rw [Bool.or_eq_true] at h2
      rcases h2 with h2 | h2
      · have : n = 1 := by simpa using h2
        subst this
        show _ = Tok.rep 1 _
        simp [Tok.rep]
      · have e : codesOf z = [] := by
          have : z.cps.size = 0 := by simpa [Str.length] using h2
          exact List.eq_nil_of_length_eq_zero this
        rw [e]
        simp [Tok.rep]
    · have e : ∀ (k : Nat) (a : Array Nat), ((List.replicate k z.cps).foldl (· ++ ·) a).toList = a.toList ++ (List.replicate k z.cps.toList).flatten := by
        intro k
        induction k with
        | zero => intro a; simp
        | succ k ih => intro a; rw [List.replicate_succ, List.foldl_cons, ih, List.replicate_succ, List.flatten_cons, Array.toList_append, List.append_assoc]
      show ((List.replicate n.toNat z.cps).foldl (· ++ ·) #[]).toList = _
      rw [e]
      rfl
theorem rep_all {p : Nat → Bool} {l : List Nat} (h : l.all p = true) : ∀ n, (Tok.rep n l).all p = true
  | 0 => rfl
  | n + 1 => by
    have e : Tok.rep (n + 1) l = l ++ Tok.rep n l := by simp [Tok.rep, List.replicate_succ]
    rw [e, List.all_append, h, rep_all h n]
    rfl
theorem rep_length (l : List Nat) : ∀ n, (Tok.rep n l).length = n * l.length
  | 0 => by simp [Tok.rep]
  | n + 1 => by
    have e : Tok.rep (n + 1) l = l ++ Tok.rep n l := by simp [Tok.rep, List.replicate_succ]
    rw [e, List.length_append, rep_length l n, Nat.succ_mul, Nat.add_comm]
def valV : Tok.Val → V
  | .s t => .str (strOf t)
  | .i n => .int n
theorem dp_val {K : PySem.W.Frag} {H : Hp} {v : V} {x : Tok.Val} (h : Dp K H v (dVal x)) : v = valV x := by
  cases x with
  | s t => unfold dVal at h; cases h; rfl
  | i n => unfold dVal at h; cases h; rfl
theorem val_dp {K : PySem.W.Frag} {H : Hp} (x : Tok.Val) : Dp K H (valV x) (dVal x) := by
  cases x with
  | s t => exact .str _
  | i n => exact .int _
theorem dp_word {K : PySem.W.Frag} {H : Hp} {v : V} {x : Tok.W} (h : Dp K H v (dW x)) : ∃ t, v = .ref t ∧ SqT K H t [.str (kdS x.1), valV x.2.1, .int x.2.2] := by
  unfold dW at h
  cases h with
  | tup hs ha =>
    cases ha with
    | cons h1 h2 =>
      cases h1
      cases h2 with
      | cons h3 h4 =>
        have e := dp_val h3
        subst e
        cases h4 with
        | cons h5 h6 =>
          cases h5
          cases h6
          exact ⟨_, rfl, hs⟩
theorem ty_tuple {K : PySem.W.Frag} {H : Hp} {a : Addr} {xs : List V} (h : SqT K H a xs) : TyX K H (.ref a) (.type "tuple") := by
  rcases h with (h | ⟨o, h⟩) | ⟨o, its, n, h, hc, _⟩
  · exact .base (.tup h)
  · exact .fTuple h
  · exact .kTuple h hc
theorem codes_app (a b : Str) : codesOf (a ++ b) = codesOf a ++ codesOf b := by
  show (a.cps ++ b.cps).toList = _
  simp
theorem codes_strOf (l : List Nat) : codesOf (strOf l) = l := rfl
theorem iteB {b : Bool} {A B : Prop} (hb : b = false) (h : B) : if b = true then A else B := by subst hb; exact iteF h
theorem iteA {b : Bool} {A B : Prop} (hb : b = true) (h : A) : if b = true then A else B := by subst hb; exact iteT h
theorem strOf_codes (z : Str) : strOf (codesOf z) = z := by
  show (⟨z.cps.toList.toArray⟩ : Str) = z
  rw [Array.toArray_toList]
theorem tyes {σ : L2.St} {H : Hp} {A B : Hp → Prop} (h : A H) : tYes σ H (fun b H3 => if b = true then A H3 else B H3) := iteT (A := A H) (B := B H) h
end My

end
section
set_option Elab.async false
set_option linter.all false
set_option maxRecDepth 100000
set_option maxHeartbeats 2000000
namespace My1
open PySem PySem.Spec PyProof.Rows L2 My
section
variable {P : Program} {w : World} {K : PySem.W.Frag} {mg : Str → Option Value} {base : Heap}

abbrev s_law_name : Stmt := top 44
abbrev s_law_text : Stmt := top 45
abbrev s_law_string : Stmt := top 46
abbrev s_law_operator : Stmt := top 47
theorem spick_str {H : Hp} {b : Addr} {n : Nat} {t : Str} {Q : VK} {E : XK} (hb : BagAt H b n) (hn : n < 1000000) (h0 : 0 < (codesOf t).length) (h1 : (codesOf t).length < 1000000)
    (q : ∀ c H', c ∈ codesOf t → Went b (n + 1) H H' → Q (.str ⟨#[c]⟩) H') : spPick K [.ref b, .str t] H Q E := by
  obtain ⟨x, y, z, hbb, hB⟩ := hb
  exact ⟨b, n, x, y, z, hbb, hB, hn, .inr ⟨t, rfl, h0, h1, fun i c x' y' z' hc hB' => q c _ (List.mem_of_getElem? hc) ⟨⟨x', y', z', upd_same, hB'⟩, fun a o d e => by rw [upd_ne d]; exact e⟩⟩⟩
theorem call_pick {σ : L2.St} {H : Hp} {Q : VK} {b : Addr} {i : Nat} {te : TE} (hi : σ[i]? = some (some (.ref b))) (h : te σ H (fun v H1 => spPick K [.ref b, v] H1 Q E0)) : tCall (spPick K) [] E0 (tCons (tVar i) (tCons te tNil)) σ H Q := ⟨_, hi, h⟩
def letters : Str := "abcdefghijklmnopqrstuvwxyzABCDEFGHIJKLMNOPQRSTUVWXYZ"
theorem letters_al : ∀ c ∈ codesOf letters, Tok.isAl c = true := by decide +kernel
theorem letters_an : ∀ c ∈ codesOf (letters ++ "0123456789"), Tok.isAn c = true := by decide +kernel
theorem letters_len : (codesOf letters).length = 52 := by decide +kernel
theorem letters_len2 : (codesOf (letters ++ "0123456789")).length = 62 := by decide +kernel
theorem codes_one (c : Nat) : codesOf (⟨#[c]⟩ : Str) = [c] := rfl
def dsSize : List PyData := [.int 0, .int 0, .int 0, .int 1, .int 2, .int 4, .int 9, .int 39]
theorem size_ok {d : PyData} (h : d ∈ dsSize) : ∃ n : Int, d = .int n ∧ 0 ≤ n ∧ n ≤ 39 := by
  unfold dsSize at h
  simp only [List.mem_cons, List.not_mem_nil, or_false] at h
  rcases h with h | h | h | h | h | h | h | h <;> subst h
  all_goals exact ⟨_, rfl, by decide, by decide⟩
/-- name(bag) -/
def spName : Sp := fun vs H Q _ => ∃ (b : Addr) (n : Nat), vs = [.ref b] ∧ BagAt H b n ∧ n < 900000 ∧ ∀ (z : Str) (m : Nat) (H' : Hp), Tok.IsName (codesOf z) → m ≤ n + 41 → Went b m H H' → Q (.str z) H'
theorem sc_law_name : FnScope ["_law_bag_here", "_law_letters", "_law_size", "_law_name_here", "_law_turn"] ["_law_bag_here"] (defScope s_law_name) := ⟨rfl, rfl, rfl, by decide +kernel, rfl, by decide +kernel, by decide +kernel⟩
theorem ok_name {f fK : Addr} {fd fdK : FuncData} (F : FnP K "_law_name" s_law_name f fd) (G_law_pick : FnOk P w K mg base CX0 3 fK fdK ["_law_bag_here", "_law_things"] (spPick K)) (g_law_pick : mg "_law_pick" = some (.ref fK)) (k_law_pick : PySem.W.keepIn K (.ref fK) = true) (b_law_pick : Binds K fdK ["_law_bag_here", "_law_things"] []) (g_range : mg "range" = none) :
    FnOk P w K mg base CX0 4 f fd ["_law_bag_here"] spName := by
  refine F.ok sc_law_name (fun vs H Q E h => ?_) (fun cdv A outer s H vs Q E hr h => ⟨_, PSs.nox
    (pss_cons (ps_set (i := 1) sc_law_name.nd rfl (Or.inl rfl) pe_str)
      (pss_cons (ps_set (i := 2) sc_law_name.nd rfl (Or.inl rfl) (pe_call G_law_pick (hr.mono (by decide)) rfl g_law_pick k_law_pick b_law_pick .nil pass0 (pa_cons (pv 0) (pa_cons (pe_lst (pa_cons pe_int (pa_cons pe_int (pa_cons pe_int (pa_cons pe_int (pa_cons pe_int (pa_cons pe_int (pa_cons pe_int (pa_cons pe_int pa_nil))))))))) pa_nil))))
      (pss_cons (ps_set (i := 3) sc_law_name.nd rfl (Or.inl rfl) (pe_call G_law_pick (hr.mono (by decide)) rfl g_law_pick k_law_pick b_law_pick .nil pass0 (pa_cons (pv 0) (pa_cons (pv 1) pa_nil))))
      (pss_cons (ps_for PassesOwn.never rfl (pi_range1 (by rfl) g_range (pa_cons (pv 2) pa_nil)) (pg_name (i := 4) sc_law_name.nd rfl (Or.inl rfl)) (pss_one (ps_set (i := 3) sc_law_name.nd rfl (Or.inl rfl) (pe_op op_addS (pv 3) (pe_call G_law_pick (hr.mono (by decide)) rfl g_law_pick k_law_pick b_law_pick .nil pass0 (pa_cons (pv 0) (pa_cons (pe_op op_addS (pv 1) pe_str) pa_nil)))))))
      (pss_one (ps_ret (pv 3))))))), ?_⟩)
  · obtain ⟨b, n, rfl, _⟩ := h
    rfl
  · obtain ⟨b, n, rfl, hb, hn, q⟩ := h
    refine pick_lst (K := K) (ds := dsSize) rfl hb (by omega) ?e1 (by decide) (by decide) fun d v D H1 hd hv hD W1 => ?_
    case e1 => (repeat' (first | exact evds_nil | exact evd_int | exact evd_str | refine evds_cons ?_ ?_))
    obtain ⟨k, rfl, k0, k1⟩ := size_ok hd
    cases hv
    have l0 := letters_len
    have l2 := letters_len2
    refine ⟨_, rfl, _, rfl, spick_str (E := E0) W1.bag (by omega) (by show 0 < (codesOf letters).length; omega) (by show (codesOf letters).length < _; omega) fun c H2 hc W2 => ?_⟩
    have hc := letters_al c hc
    refine ⟨_, rfl, _, rfl, by omega, by omega, for_range (lo := 0) (fun i σ H' => ∃ (z : Str) (v : Option V), σ = [some (.ref b), some (.str letters), some (.int k), some (.str z), v] ∧ (codesOf z).length = i + 1 ∧ Tok.IsName (codesOf z) ∧ Went b (n + 2 + i) H H') ⟨_, none, rfl, rfl, ⟨⟨c, [], rfl, hc⟩, by rw [codes_one]; simp [Tok.isAn, hc], by rw [codes_one]; exact (by decide : 1 ≤ 40)⟩, W1.trans W2⟩ ?turn ?last⟩
    case turn =>
      rintro i σ H3 hi ⟨z, v, rfl, hl, hz, W⟩
      have hi2 : i < 39 := by omega
      have hzl : z.length = i + 1 := hl
      refine ⟨_, rfl, call_pick (K := K) rfl ⟨_, rfl, _, _, rfl, rfl, (by decide +kernel), ?_⟩⟩
      refine spick_str (E := E0) W.bag (by omega) (by show 0 < (codesOf (letters ++ "0123456789")).length; omega) (by show (codesOf (letters ++ "0123456789")).length < _; omega) fun c H4 hc W4 => ?_
      have hc := letters_an c hc
      refine ⟨_, _, rfl, rfl, ?_, _, _, rfl, ?_, ⟨?_, ?_, ?_⟩, W.trans W4⟩
      · rw [hzl]; exact Nat.le_trans (show i + 1 + 1 ≤ 100 by omega) (by decide)
      · rw [codes_app, codes_one, List.length_append, hl]; rfl
      · obtain ⟨c0, r, e, h0⟩ := hz.al
        exact ⟨c0, r ++ [c], by rw [codes_app, codes_one, e]; rfl, h0⟩
      · rw [codes_app, codes_one, List.all_append, hz.an]; simp [hc]
      · rw [codes_app, codes_one, List.length_append, hl]; simp; omega
    case last =>
      rintro σ H3 ⟨z, v, rfl, hl, hz, W⟩
      exact ⟨_, rfl, q z _ H3 hz (by omega) W⟩
end
end My1

end
section
set_option Elab.async false
set_option linter.all false
set_option maxRecDepth 100000
set_option maxHeartbeats 2000000
namespace My1
open PySem PySem.Spec PyProof.Rows L2 My
open StrLaws
section
variable {X : Cx}
/-- a written text ahead of + : behind it a token is out -/
theorem pe_opT {j : Nat} {c : Str} {cpos pos : Pos} {f : Expr} {op : Operator} {r : R2} {tf : TE} (ho : OpR X (binaryOp op) r) (hb : PET X f tf) : PE X (.BinOp (.Constant (.str c) j cpos) op f pos) (tOp r (tC (.str c)) tf) := by
  refine ⟨fun pins s σ H Q I h => ?_⟩
  refine wpAny_BinOp (Calls.Constant_str ?_)
  exact thn (hb pins { s with toks := s.toks + 1 } σ H _ (by show 1 ≤ s.toks + 1; omega) (I.tok _) h) fun u s2 ⟨y, H2, I2, r2, q2⟩ => ho pins s2 σ H2 (.str c) y _ u Q I2 ⟨_, rfl⟩ r2 q2
end
/-! ### replace by signs -/
theorem rl_hit1 {d : Nat} {z r : List Nat} : replL [d] z (d :: r) = z ++ replL [d] z r := by
  rw [replL_hit (by simp) (by rfl)]
  rfl
theorem rl_miss1 {d c : Nat} {z r : List Nat} (h : c ≠ d) : replL [d] z (c :: r) = c :: replL [d] z r := by
  rw [replL_miss (by intro y; injection y with y _; exact h y)]
theorem rl_dbl : ∀ l : List Nat, replL [39] [39, 39] l = Tok.dbl l
  | [] => replL_nil
  | c :: l => by
    by_cases h : c = 39
    · subst h; rw [rl_hit1, rl_dbl l, Tok.dbl, if_pos rfl]; rfl
    · rw [rl_miss1 h, rl_dbl l, Tok.dbl, if_neg h]
theorem rl_one {d e : Nat} (hde : d ≠ e) (he : Tok.okc e = true) : ∀ l : List Nat, l.all Tok.okc = true → (replL [d] [e] l).all Tok.okc = true ∧ (replL [d] [e] l).length = l.length ∧ d ∉ replL [d] [e] l
  | [], _ => by rw [replL_nil]; exact ⟨rfl, rfl, by simp⟩
  | c :: l, hl => by
    rw [List.all_cons, Bool.and_eq_true] at hl
    obtain ⟨h1, h2, h3⟩ := rl_one hde he l hl.2
    by_cases h : c = d
    · subst h
      rw [rl_hit1]
      exact ⟨by simp [he, h1], by simp [h2], by simp [h3, hde]⟩
    · rw [rl_miss1 h]
      exact ⟨by simp [hl.1, h1], by simp [h2], by simp [h3, Ne.symm h]⟩
theorem c39 : codesOf (Str.ofString "'") = [39] := by decide +kernel
theorem c3939 : codesOf (Str.ofString "''") = [39, 39] := by decide +kernel
theorem c34 : codesOf (Str.ofString "\"") = [34] := by decide +kernel
theorem c10 : codesOf (Str.ofString "\n") = [10] := by decide +kernel
theorem c32 : codesOf (Str.ofString " ") = [32] := by decide +kernel
theorem c35 : codesOf (Str.ofString "#") = [35] := by decide +kernel
theorem c3539 : codesOf (Str.ofString "#'") = [35, 39] := by decide +kernel
theorem c58 : codesOf (Str.ofString ":") = [58] := by decide +kernel
theorem c45 : codesOf (Str.ofString "-") = [45] := by decide +kernel
theorem len_codes (z : Str) : z.length = (codesOf z).length := rfl
theorem codes_dbl (x : Str) : codesOf (Txt.replace x (Str.ofString "'") (Str.ofString "''")) = Tok.dbl (codesOf x) := by
  have := replace_list (x := x) (y := Str.ofString "'") (z := Str.ofString "''") (by decide +kernel)
  show (Txt.replace x (Str.ofString "'") (Str.ofString "''")).cps.toList = _
  rw [this]
  show replL (codesOf (Str.ofString "'")) (codesOf (Str.ofString "''")) (codesOf x) = _
  rw [c39, c3939, rl_dbl]
theorem codes_nq (x : Str) (h : (codesOf x).all Tok.okc = true) : (codesOf (Txt.replace x (Str.ofString "\"") (Str.ofString "\n"))).all Tok.okc = true ∧ (codesOf (Txt.replace x (Str.ofString "\"") (Str.ofString "\n"))).length = (codesOf x).length ∧ 34 ∉ codesOf (Txt.replace x (Str.ofString "\"") (Str.ofString "\n")) := by
  have := replace_list (x := x) (y := Str.ofString "\"") (z := Str.ofString "\n") (by decide +kernel)
  have e : codesOf (Txt.replace x (Str.ofString "\"") (Str.ofString "\n")) = replL [34] [10] (codesOf x) := by
    show (Txt.replace x (Str.ofString "\"") (Str.ofString "\n")).cps.toList = _
    rw [this]
    show replL (codesOf (Str.ofString "\"")) (codesOf (Str.ofString "\n")) (codesOf x) = _
    rw [c34, c10]
  rw [e]
  exact rl_one (by decide) (by decide) _ h
theorem codes_sq (x : Str) (h : (codesOf x).all Tok.okc = true) : (codesOf (Txt.replace x (Str.ofString "\"") (Str.ofString " "))).all Tok.okc = true ∧ (codesOf (Txt.replace x (Str.ofString "\"") (Str.ofString " "))).length = (codesOf x).length ∧ 34 ∉ codesOf (Txt.replace x (Str.ofString "\"") (Str.ofString " ")) := by
  have := replace_list (x := x) (y := Str.ofString "\"") (z := Str.ofString " ") (by decide +kernel)
  have e : codesOf (Txt.replace x (Str.ofString "\"") (Str.ofString " ")) = replL [34] [32] (codesOf x) := by
    show (Txt.replace x (Str.ofString "\"") (Str.ofString " ")).cps.toList = _
    rw [this]
    show replL (codesOf (Str.ofString "\"")) (codesOf (Str.ofString " ")) (codesOf x) = _
    rw [c34, c32]
  rw [e]
  exact rl_one (by decide) (by decide) _ h
/-! ### join of signs -/
def one (c : Nat) : Str := ⟨#[c]⟩
theorem joinL_nil : ∀ l : List (List Nat), TL.joinL [] l = l.flatten
  | [] => rfl
  | [p] => by simp [TL.joinL]
  | p :: q :: r => by rw [TL.joinL, joinL_nil (q :: r)]; simp
theorem codes_join (ys : List Str) : codesOf (Txt.join (Str.ofString "") ys) = (ys.map codesOf).flatten := by
  have e := TL.tl_join (Str.ofString "") ys
  rw [← TL.join_eq] at e
  have e2 : TL.tl (Str.ofString "") = [] := by decide +kernel
  rw [e2, joinL_nil] at e
  exact e
theorem codes_ones (cs : List Nat) : ((cs.map one).map codesOf).flatten = cs := by
  induction cs with
  | nil => rfl
  | cons c cs ih => rw [List.map_cons, List.map_cons, List.flatten_cons, ih]; rfl
theorem sum_ones (cs : List Nat) : ((cs.map one).map (·.length)).sum = cs.length := by
  induction cs with
  | nil => rfl
  | cons c cs ih =>
    rw [List.map_cons, List.map_cons, List.sum_cons, ih]
    show 1 + cs.length = _
    simp; omega
section
variable {P : Program} {w : World} {K : PySem.W.Frag} {mg : Str → Option Value} {base : Heap}

def signs1 : Str := " !\"#$&'()*+,-./0123456789:;<=>?@ABCDEFGHIJKLMNOPQRSTUVWXYZ[\\]^_`"
def signsA : Str := signs1 ++ "abcdefghijklmnopqrstuvwxyz{|}~\n'"
theorem signs_ok : ∀ c ∈ codesOf signsA, Tok.okc c = true := by decide +kernel
theorem signs_len : (codesOf signsA).length = 96 := by decide +kernel
def dsText : List PyData := [.int 0, .int 1, .int 2, .int 3, .int 8]
theorem dstext_ok {d : PyData} (h : d ∈ dsText) : ∃ n : Int, d = .int n ∧ 0 ≤ n ∧ n ≤ 8 := by
  unfold dsText at h
  simp only [List.mem_cons, List.not_mem_nil, or_false] at h
  rcases h with h | h | h | h | h <;> subst h
  all_goals exact ⟨_, rfl, by decide, by decide⟩
theorem went_upd {b D : Addr} {n : Nat} {H H' : Hp} {o : HO} (w : Went b n H H') (hD : H D = none) (hb : D ≠ b) : Went b n H (upd H' D o) := by
  obtain ⟨x, y, z, h, hB⟩ := w.bag
  exact ⟨⟨x, y, z, by rw [upd_ne (Ne.symm hb)]; exact h, hB⟩, fun a u c e => by
    have : a ≠ D := fun q => by rw [q, hD] at e; cases e
    rw [upd_ne this]
    exact w.rest a u c e⟩
theorem bag_ne {b D : Addr} {n : Nat} {H : Hp} (h : BagAt H b n) (hD : H D = none) : D ≠ b := fun e => by
  obtain ⟨x, y, z, hb, _⟩ := h
  rw [e, hb] at hD
  cases hD
/-- text(bag) -/
def spText : Sp := fun vs H Q _ => ∃ (b : Addr) (n : Nat), vs = [.ref b] ∧ BagAt H b n ∧ n < 900000 ∧ ∀ (z : Str) (m : Nat) (H' : Hp), (codesOf z).all Tok.okc = true → (codesOf z).length ≤ 8 → m ≤ n + 9 → Went b m H H' → Q (.str z) H'
theorem sc_law_text : FnScope ["_law_bag_here", "_law_signs", "_law_turn"] ["_law_bag_here"] (defScope s_law_text) := ⟨rfl, rfl, rfl, by decide +kernel, rfl, by decide +kernel, by decide +kernel⟩
theorem ok_text {f fK : Addr} {fd fdK : FuncData} (F : FnP K "_law_text" s_law_text f fd) (G_law_pick : FnOk P w K mg base CX0 3 fK fdK ["_law_bag_here", "_law_things"] (spPick K)) (g_law_pick : mg "_law_pick" = some (.ref fK)) (k_law_pick : PySem.W.keepIn K (.ref fK) = true) (b_law_pick : Binds K fdK ["_law_bag_here", "_law_things"] []) (g_range : mg "range" = none) :
    FnOk P w K mg base CX0 4 f fd ["_law_bag_here"] spText := by
  refine F.ok sc_law_text (fun vs H Q E h => ?_) (fun cdv A outer s H vs Q E hr h => ⟨_, PSs.nox
    (pss_cons (ps_set (i := 1) sc_law_text.nd rfl (Or.inr rfl) pe_str)
      (pss_cons (ps_set (i := 1) sc_law_text.nd rfl (Or.inr rfl) (pe_op op_addS (pv 1) pe_str))
      (pss_one (ps_ret (pe_join pe_str (pe_lc (own := [("_law_turn", 2)]) rfl sc_law_text.nd (pi_range1 (by rfl) g_range (pa_cons (pe_call G_law_pick (hr.mono (by decide)) rfl g_law_pick k_law_pick b_law_pick .nil pass0 (pa_cons (pv 0) (pa_cons (pe_lst (pa_cons pe_int (pa_cons pe_int (pa_cons pe_int (pa_cons pe_int (pa_cons pe_int pa_nil)))))) pa_nil))) pa_nil)) (blkOk_by (own := [("_law_turn", 2)]) (N := ["_law_bag_here", "_law_signs", "_law_turn"]) (sc := defScope s_law_text) (by decide +kernel)) (fun _ _ _ _ _ => by (exact (pg_name (i := 2) sc_law_text.nd rfl (Or.inl rfl)))) (fun _ _ _ _ _ => by exact pts_nil) (fun _ _ _ _ _ => by exact (pe_call G_law_pick (hr.mono (by decide)) rfl g_law_pick k_law_pick b_law_pick .nil pass0 (pa_cons (pv 0) (pa_cons (pv 1) pa_nil)))))))))), ?_⟩)
  · obtain ⟨b, n, rfl, _⟩ := h
    rfl
  · obtain ⟨b, n, rfl, hb, hn, q⟩ := h
    have sl := signs_len
    refine ⟨_, rfl, _, _, rfl, rfl, (by decide +kernel), ⟨_, rfl⟩, ?_⟩
    refine pick_lst (K := K) (ds := dsText) rfl hb (by omega) ?e1 (by decide) (by decide) fun d v D H1 hd hv hD W1 => ?_
    case e1 => (repeat' (first | exact evds_nil | exact evd_int | exact evd_str | refine evds_cons ?_ ?_))
    obtain ⟨k, rfl, k0, k1⟩ := dstext_ok hd
    cases hv
    refine ⟨_, rfl, by omega, by omega, fun L nL => ?_⟩
    have hLb := bag_ne W1.bag nL
    have nL0 : H L = none := W1.free nL
    refine lc_range (lo := 0) (fun i H' => ∃ cs : List Nat, H' L = some (.lst ((cs.map one).map V.str)) ∧ cs.length = i ∧ cs.all Tok.okc = true ∧ Went b (n + 1 + i) H H') ⟨[], upd_same, rfl, rfl, went_upd W1 nL0 hLb⟩ ?turn ?last
    case turn =>
      rintro i H2 hi ⟨cs, hL, hl, ha, W⟩
      refine ⟨rfl, tyes ?_⟩
      refine call_pick (K := K) rfl ⟨_, rfl, ?_⟩
      refine spick_str (E := E0) W.bag (by omega) (by show 0 < (codesOf signsA).length; omega) (by show (codesOf signsA).length < _; omega) fun c H4 hc W4 => ?_
      have hc := signs_ok c hc
      refine ⟨_, W4.rest _ _ hLb hL, ?_, cs ++ [c], ?_, by simp [hl], by rw [List.all_append, ha]; simp [hc], went_upd (W.trans W4) nL0 hLb⟩
      · rw [List.length_map, List.length_map, hl]; exact Nat.lt_of_lt_of_le (show i < 100 by omega) (by decide)
      · rw [upd_same, List.map_append, List.map_append]; rfl
    case last =>
      rintro H2 ⟨cs, hL, hl, ha, W⟩
      have l0 : (Str.ofString "").length = 0 := by decide +kernel
      refine ⟨_, L, cs.map one, rfl, rfl, .inl (SqL.of hL), ?_, ?_⟩
      · rw [sum_ones, l0, hl]; omega
      · have e : codesOf (Txt.join (Str.ofString "") (cs.map one)) = cs := by rw [codes_join, codes_ones]
        exact q _ _ H2 (by rw [e]; exact ha) (by rw [e, hl]; omega) (by omega) W
/-- string(text) -/
def spString : Sp := fun vs H Q _ => ∃ z : Str, vs = [.str z] ∧ (codesOf z).length ≤ 1000 ∧ ∀ r : Str, codesOf r = Tok.quote (codesOf z) → Q (.str r) H
theorem sc_law_string : FnScope ["_law_text_here"] ["_law_text_here"] (defScope s_law_string) := ⟨rfl, rfl, rfl, by decide +kernel, rfl, by decide +kernel, by decide +kernel⟩
theorem ok_string {f : Addr} {fd : FuncData} (F : FnP K "_law_string" s_law_string f fd) : FnOk P w K mg base CX0 1 f fd ["_law_text_here"] spString := by
  refine F.ok sc_law_string (fun vs H Q E h => ?_) (fun cdv A outer s H vs Q E hr h => ⟨_, PSs.nox
    (pss_one (ps_ret (pe_op op_addS (pe_opT op_addS (CwR.pet_replC (pv 0))) pe_str))), ?_⟩)
  · obtain ⟨z, rfl, _⟩ := h
    rfl
  · obtain ⟨z, rfl, hl, q⟩ := h
    have e2 : (Str.ofString "''").length = 2 := by decide +kernel
    have e1 : (Str.ofString "'").length = 1 := by decide +kernel
    have hd := Tok.dbl_length (codesOf z)
    have e := codes_dbl z
    have el : (Txt.replace z (Str.ofString "'") (Str.ofString "''")).length ≤ 2000 := by
      rw [len_codes, e]; omega
    refine ⟨_, rfl, z, rfl, by rw [e2, len_codes]; omega, _, _, rfl, rfl, ?_, _, _, rfl, rfl, ?_, q _ ?_⟩
    · rw [e1]; exact Nat.le_trans (show _ ≤ 3000 by omega) (by decide)
    · rw [e1, len_codes, codes_app, List.length_append, c39, e]; exact Nat.le_trans (show _ ≤ 3000 by simp; omega) (by decide)
    · rw [codes_app, codes_app, c39, e]; rfl
def dsOp : List PyData := [.str "+", .str "-", .str "*", .str "//", .str "\\\\", .str "<", .str ">", .str "<=", .str ">=", .str "=", .str "==", .str "~=", .str "~~", .str ","]
theorem op_ok {d : PyData} (h : d ∈ dsOp) : ∃ z : Str, d = .str z ∧ codesOf z ∈ Tok.ops := by
  unfold dsOp at h
  simp only [List.mem_cons, List.not_mem_nil, or_false] at h
  rcases h with h | h | h | h | h | h | h | h | h | h | h | h | h | h <;> subst h
  all_goals exact ⟨_, rfl, by decide +kernel⟩
/-- operator(bag) -/
def spOper : Sp := fun vs H Q _ => ∃ (b : Addr) (n : Nat), vs = [.ref b] ∧ BagAt H b n ∧ n < 900000 ∧ ∀ (z : Str) (H' : Hp), codesOf z ∈ Tok.ops → Went b (n + 1) H H' → Q (.str z) H'
theorem sc_law_operator : FnScope ["_law_bag_here"] ["_law_bag_here"] (defScope s_law_operator) := ⟨rfl, rfl, rfl, by decide +kernel, rfl, by decide +kernel, by decide +kernel⟩
theorem ok_operator {f fK : Addr} {fd fdK : FuncData} (F : FnP K "_law_operator" s_law_operator f fd) (G_law_pick : FnOk P w K mg base CX0 3 fK fdK ["_law_bag_here", "_law_things"] (spPick K)) (g_law_pick : mg "_law_pick" = some (.ref fK)) (k_law_pick : PySem.W.keepIn K (.ref fK) = true) (b_law_pick : Binds K fdK ["_law_bag_here", "_law_things"] []) :
    FnOk P w K mg base CX0 4 f fd ["_law_bag_here"] spOper := by
  refine F.ok sc_law_operator (fun vs H Q E h => ?_) (fun cdv A outer s H vs Q E hr h => ⟨_, PSs.nox
    (pss_one (ps_ret (pe_call G_law_pick (hr.mono (by decide)) rfl g_law_pick k_law_pick b_law_pick .nil pass0 (pa_cons (pv 0) (pa_cons (pe_lst (pa_cons pe_str (pa_cons pe_str (pa_cons pe_str (pa_cons pe_str (pa_cons pe_str (pa_cons pe_str (pa_cons pe_str (pa_cons pe_str (pa_cons pe_str (pa_cons pe_str (pa_cons pe_str (pa_cons pe_str (pa_cons pe_str (pa_cons pe_str pa_nil))))))))))))))) pa_nil))))), ?_⟩)
  · obtain ⟨b, n, rfl, _⟩ := h
    rfl
  · obtain ⟨b, n, rfl, hb, hn, q⟩ := h
    refine pick_lst (K := K) (ds := dsOp) rfl hb (by omega) ?e1 (by decide) (by decide) fun d v D H1 hd hv hD W1 => ?_
    case e1 => (repeat' (first | exact evds_nil | exact evd_int | exact evd_str | refine evds_cons ?_ ?_))
    obtain ⟨z, rfl, hz⟩ := op_ok hd
    cases hv
    exact q z H1 hz W1
end
end My1

end
section
set_option Elab.async false
set_option linter.all false
set_option maxRecDepth 100000
set_option maxHeartbeats 2000000
namespace My1
open PySem PySem.Spec PyProof.Rows L2 My
theorem num_dv (l : List Nat) : Tok.num l = PySem.NumText.digitsVal l := by
  unfold Tok.num PySem.NumText.digitsVal
  congr 1
  funext n c
  rw [Nat.mul_comm]
/-- the word c, as it stands in the heap -/
def wTup (c : Tok.Cl) : List V := [.str (kdS c.k), valV c.v, .str (strOf c.t)]
structure IsW (neg : Bool) (c : Tok.Cl) : Prop where
  ok : c.ok neg
  sg : c.t.all Tok.okc = true
  le : c.t.length ≤ 130
/-- what makes a word hands on -/
def WQ (K : PySem.W.Frag) (b : Addr) (n : Nat) (neg : Bool) (H : Hp) (Q : VK) : Prop := ∀ (p : Addr) (c : Tok.Cl) (m : Nat) (H' : Hp), IsW neg c → m ≤ n + 200 → Went b m H H' → H p = none → H' p = some (.tup (wTup c)) → Q (.ref p) H'
theorem dg_okc {c : Nat} (h : Tok.isDg c = true) : Tok.okc c = true := by
  unfold Tok.isDg at h
  unfold Tok.okc
  simp at h ⊢
  omega
theorem an_okc {c : Nat} (h : Tok.isAn c = true) : Tok.okc c = true := by
  unfold Tok.isAn Tok.isAl Tok.isDg at h
  unfold Tok.okc
  simp at h ⊢
  omega
theorem all_okc {p : Nat → Bool} (hp : ∀ c, p c = true → Tok.okc c = true) {l : List Nat} (h : l.all p = true) : l.all Tok.okc = true :=
  List.all_eq_true.mpr fun c hc => hp c (List.all_eq_true.mp h c hc)
theorem digits_int {z : Str} (h : Tok.Digits (codesOf z)) : PySem.intText? z = some ((Tok.num (codesOf z) : Nat) : Int) := by
  have dg : ∀ c ∈ codesOf z, 48 ≤ c ∧ c ≤ 57 := fun c hc => by
    have := List.all_eq_true.mp h.all c hc
    unfold Tok.isDg at this
    simpa using this
  have hle := h.le
  rw [num_dv]
  exact PySem.intText_digits (x := z) dg (Tok.digits_ne h) (by show (codesOf z).length ≤ _; omega)
theorem str_of {z : Str} {l : List Nat} (h : codesOf z = l) : z = strOf l := by rw [← h, strOf_codes]
/-- three values become a word -/
theorem word_tup {K : PySem.W.Frag} {b : Addr} {n m : Nat} {neg : Bool} {H H1 : Hp} {Q : VK} (q : WQ K b n neg H Q) (c : Tok.Cl) {vs : List V} (e : vs = wTup c) (hc : IsW neg c) (hm : m ≤ n + 200) (W : Went b m H H1) {p : Addr} (np : H1 p = none) : Q (.ref p) (upd H1 p (.tup vs)) := by
  have n0 : H p = none := W.free np
  refine q p c m _ hc hm (went_upd W n0 ?_) n0 (by rw [upd_same, e])
  exact bag_ne W.bag np
section
variable {P : Program} {w : World} {K : PySem.W.Frag} {mg : Str → Option Value} {base : Heap}

abbrev s_law_integer : Stmt := top 48
def dsSizeI : List PyData := [.int 0, .int 0, .int 1, .int 2, .int 5, .int 20, .int 58, .int 59]
theorem sizei_ok {d : PyData} (h : d ∈ dsSizeI) : ∃ n : Int, d = .int n ∧ 0 ≤ n ∧ n ≤ 59 := by
  unfold dsSizeI at h
  simp only [List.mem_cons, List.not_mem_nil, or_false] at h
  rcases h with h | h | h | h | h | h | h | h <;> subst h
  all_goals exact ⟨_, rfl, by decide, by decide⟩
theorem ten_ok : ∀ c ∈ codesOf (Str.ofString "0123456789"), Tok.isDg c = true := by decide +kernel
theorem ten_len : (codesOf (Str.ofString "0123456789")).length = 10 := by decide +kernel
theorem call_take {σ : L2.St} {H : Hp} {Q : VK} {b : Addr} {i n : Nat} {k : Int} (hi : σ[i]? = some (some (.ref b))) (hb : BagAt H b n) (hn : n < 1000000) (h0 : 0 < k) (h1 : k < 2 ^ 30)
    (q : ∀ (r : Int) H', 0 ≤ r → r < k → Went b (n + 1) H H' → Q (.int r) H') : tCall spTake [] E0 (tCons (tVar i) (tCons (tC (.int k)) tNil)) σ H Q := by
  obtain ⟨x, y, z, hbb, hB⟩ := hb
  exact ⟨_, hi, b, n, x, y, z, k, rfl, hbb, hB, hn, h0, h1, fun r x' y' z' r0 r1 hB' => q r _ r0 r1 ⟨⟨x', y', z', upd_same, hB'⟩, fun a o c e => by rw [upd_ne c]; exact e⟩⟩
theorem pick_c {σ : L2.St} {H : Hp} {Q : VK} {b : Addr} {i n : Nat} {t : Str} (hi : σ[i]? = some (some (.ref b))) (hb : BagAt H b n) (hn : n < 1000000) (h0 : 0 < (codesOf t).length) (h1 : (codesOf t).length < 1000000)
    (q : ∀ c H', c ∈ codesOf t → Went b (n + 1) H H' → Q (.str ⟨#[c]⟩) H') : tCall (spPick K) [] E0 (tCons (tVar i) (tCons (tC (.str t)) tNil)) σ H Q := call_pick (K := K) hi (spick_str (E := E0) hb hn h0 h1 q)
def spInteger (K : PySem.W.Frag) : Sp := fun vs H Q _ => ∃ (b : Addr) (n : Nat) (neg : Bool), vs = [.ref b, .bl neg] ∧ BagAt H b n ∧ n < 800000 ∧ WQ K b n neg H Q
theorem sc_law_integer : FnScope ["_law_bag_here", "_law_negative_here", "_law_size", "_law_digits", "_law_turn"] ["_law_bag_here", "_law_negative_here"] (defScope s_law_integer) := ⟨rfl, rfl, rfl, by decide +kernel, rfl, by decide +kernel, by decide +kernel⟩
theorem ok_integer {f fK fT : Addr} {fd fdK fdT : FuncData} (F : FnP K "_law_integer" s_law_integer f fd) (G_law_pick : FnOk P w K mg base CX0 3 fK fdK ["_law_bag_here", "_law_things"] (spPick K)) (g_law_pick : mg "_law_pick" = some (.ref fK)) (k_law_pick : PySem.W.keepIn K (.ref fK) = true) (b_law_pick : Binds K fdK ["_law_bag_here", "_law_things"] []) (G_law_take : FnOk P w K mg base CX0 2 fT fdT ["_law_bag_here", "_law_many"] spTake) (g_law_take : mg "_law_take" = some (.ref fT)) (k_law_take : PySem.W.keepIn K (.ref fT) = true) (b_law_take : Binds K fdT ["_law_bag_here", "_law_many"] []) (g_range : mg "range" = none) (g_int : mg "int" = none) :
    FnOk P w K mg base CX0 4 f fd ["_law_bag_here", "_law_negative_here"] (spInteger K) := by
  refine F.ok sc_law_integer (fun vs H Q E h => ?_) (fun cdv A outer s H vs Q E hr h => ⟨_, PSs.nox
    (pss_cons (ps_set (i := 2) sc_law_integer.nd rfl (Or.inl rfl) (pe_call G_law_pick (hr.mono (by decide)) rfl g_law_pick k_law_pick b_law_pick .nil pass0 (pa_cons (pv 0) (pa_cons (pe_lst (pa_cons pe_int (pa_cons pe_int (pa_cons pe_int (pa_cons pe_int (pa_cons pe_int (pa_cons pe_int (pa_cons pe_int (pa_cons pe_int pa_nil))))))))) pa_nil))))
      (pss_cons (ps_set (i := 3) sc_law_integer.nd rfl (Or.inl rfl) (pe_call G_law_pick (hr.mono (by decide)) rfl g_law_pick k_law_pick b_law_pick .nil pass0 (pa_cons (pv 0) (pa_cons pe_str pa_nil))))
      (pss_cons (ps_for PassesOwn.never rfl (pi_range1 (by rfl) g_range (pa_cons (pv 2) pa_nil)) (pg_name (i := 4) sc_law_integer.nd rfl (Or.inl rfl)) (pss_one (ps_set (i := 3) sc_law_integer.nd rfl (Or.inl rfl) (pe_op op_addS (pv 3) (pe_call G_law_pick (hr.mono (by decide)) rfl g_law_pick k_law_pick b_law_pick .nil pass0 (pa_cons (pv 0) (pa_cons pe_str pa_nil)))))))
      (pss_cons (ps_if (PW.pt (pw_and (pt_val (pv 1)) (pw_and1 (pt_cmpR op_eq (pe_call G_law_take (hr.mono (by decide)) rfl g_law_take k_law_take b_law_take .nil pass0 (pa_cons (pv 0) (pa_cons pe_int pa_nil))) pe_int (nomark _))))) (pss_one (ps_ret (pe_tup (pa_cons pe_str (pa_cons (pe_un un_neg (pe_callTy call_int_str (by rfl) g_int (by decide +kernel) (pa_cons (pv 3) pa_nil))) (pa_cons (pe_op op_addS pe_str (pv 3)) pa_nil)))))) pss_nil)
      (pss_one (ps_ret (pe_tup (pa_cons pe_str (pa_cons (pe_callTy call_int_str (by rfl) g_int (by decide +kernel) (pa_cons (pv 3) pa_nil)) (pa_cons (pv 3) pa_nil)))))))))), ?_⟩)
  · obtain ⟨b, n, neg, rfl, _⟩ := h
    rfl
  · obtain ⟨b, n, neg, rfl, hb, hn, q⟩ := h
    refine pick_lst (K := K) (ds := dsSizeI) rfl hb (by omega) ?e1 (by decide) (by decide) fun d v D H1 hd hv hD W1 => ?_
    case e1 => (repeat' (first | exact evds_nil | exact evd_int | exact evd_str | refine evds_cons ?_ ?_))
    obtain ⟨k, rfl, k0, k1⟩ := sizei_ok hd
    cases hv
    have l0 := ten_len
    refine pick_c (K := K) rfl W1.bag (by omega) (by rw [l0]; decide) (by rw [l0]; decide) fun c H2 hc W2 => ?_
    have hc := ten_ok c hc
    refine ⟨_, rfl, _, rfl, by omega, by omega, for_range (lo := 0) (fun i σ H' => ∃ (z : Str) (v : Option V), σ = [some (.ref b), some (.bl neg), some (.int k), some (.str z), v] ∧ (codesOf z).length = i + 1 ∧ (codesOf z).all Tok.isDg = true ∧ Went b (n + 2 + i) H H') ⟨_, none, rfl, rfl, by rw [codes_one]; simp [hc], W1.trans W2⟩ ?turn ?last⟩
    case turn =>
      rintro i σ H3 hi ⟨z, v, rfl, hl, hz, W⟩
      have hi2 : i < 59 := by omega
      have hzl : z.length = i + 1 := hl
      refine ⟨_, rfl, ?_⟩
      refine pick_c (K := K) rfl W.bag (by omega) (by rw [l0]; decide) (by rw [l0]; decide) fun c H4 hc W4 => ?_
      have hc := ten_ok c hc
      refine ⟨_, _, rfl, rfl, ?_, _, _, rfl, ?_, ?_, W.trans W4⟩
      · rw [hzl]; exact Nat.le_trans (show i + 1 + 1 ≤ 100 by omega) (by decide)
      · rw [codes_app, codes_one, List.length_append, hl]; rfl
      · rw [codes_app, codes_one, List.all_append, hz]; simp [hc]
    case last =>
      rintro σ H3 ⟨z, v, rfl, hl, hz, W⟩
      have hdg : Tok.Digits (codesOf z) := ⟨by omega, hz, by omega⟩
      have hint := digits_int hdg
      have hz640 : z.length ≤ 640 := by rw [len_codes]; omega
      have pos : ∀ m H4, m ≤ n + 200 → Went b m H H4 → ∀ p, H4 p = none → Q (.ref p) (upd H4 p (.tup [.str (Str.ofString "int"), .int ((Tok.num (codesOf z) : Nat) : Int), .str z])) := fun m H4 hm W4 p np => by
        refine word_tup (K := K) q (.int (codesOf z)) ?_ ⟨hdg, all_okc (fun _ => dg_okc) hz, by show (codesOf z).length ≤ 130; omega⟩ hm W4 np
        show _ = [V.str (kdS .int), V.int _, V.str (strOf (codesOf z))]
        rw [strOf_codes]
        rfl
      refine ⟨_, rfl, neg, rfl, ?_⟩
      cases neg with
      | false => exact iteF (iteF ⟨_, rfl, z, _, rfl, hint, hz640, _, rfl, (by show 3 ≤ sizeLine; decide), fun p np => pos _ H3 (by omega) W p np⟩)
      | true =>
        refine iteT ?_
        refine call_take rfl W.bag (by omega) (by decide) (by decide) fun r H4 r0 r1 W4 => ?_
        refine ⟨rfl, _, rfl, ?_⟩
        refine ite2 (fun hx => ?_) (fun hx => ?_)
        · refine ⟨_, rfl, z, _, rfl, hint, hz640, _, rfl, _, rfl, _, _, rfl, rfl, ?_, (by show 3 ≤ sizeLine; decide), fun p np => ?_⟩
          · rw [len_codes, len_codes, c45, hl]; exact Nat.le_trans (show _ ≤ 100 by simp; omega) (by decide)
          refine word_tup (K := K) q (.neg (codesOf z)) ?_ ⟨⟨hdg, rfl⟩, ?_, by show (codesOf z).length + 1 ≤ 130; omega⟩ (by omega) (W.trans W4) np
          · show _ = [V.str (kdS .int), V.int _, V.str (strOf (45 :: codesOf z))]
            rw [← str_of (z := Str.ofString "-" ++ z) (by rw [codes_app, c45]; rfl)]
            rfl
          · show (45 :: codesOf z).all Tok.okc = true
            rw [List.all_cons, all_okc (fun _ => dg_okc) hz]; rfl
        · exact ⟨_, rfl, z, _, rfl, hint, hz640, _, rfl, (by show 3 ≤ sizeLine; decide), fun p np => pos _ H4 (by omega) (W.trans W4) p np⟩
end
end My1

end
section
set_option Elab.async false
set_option linter.all false
set_option maxRecDepth 100000
set_option maxHeartbeats 2000000
namespace My1
open PySem PySem.Spec PyProof.Rows L2 My
section
variable {P : Program} {w : World} {K : PySem.W.Frag} {mg : Str → Option Value} {base : Heap}

abbrev s_law_symbol : Stmt := top 49
theorem names_okc {t : List Nat} (h : Tok.IsName t) : t.all Tok.okc = true := all_okc (fun _ => an_okc) h.an
theorem keys_sum : ∀ ns : List (List Nat), (∀ n ∈ ns, Tok.IsName n) → (Tok.kkeys ns).length ≤ 41 * ns.length ∧ (Tok.kkeys ns).all Tok.okc = true
  | [], _ => ⟨Nat.le_refl _, rfl⟩
  | n :: ns, h => by
    obtain ⟨h1, h2⟩ := keys_sum ns fun m hm => h m (List.mem_cons_of_mem _ hm)
    have hn := h n List.mem_cons_self
    have := hn.le
    constructor
    · simp only [Tok.kkeys, List.length_append, List.length_cons]; omega
    · simp only [Tok.kkeys, List.all_append, List.all_cons, h2, names_okc hn]; rfl
def keyS (n : List Nat) : Str := My.strOf (n ++ [58])
theorem keys_codes (ns : List (List Nat)) : ((ns.map keyS).map codesOf).flatten = Tok.kkeys ns := by
  induction ns with
  | nil => rfl
  | cons n ns ih => rw [List.map_cons, List.map_cons, List.flatten_cons, ih]; show (n ++ [58]) ++ _ = n ++ 58 :: _; simp
theorem keys_lens (ns : List (List Nat)) (h : ∀ n ∈ ns, Tok.IsName n) : ((ns.map keyS).map (·.length)).sum ≤ 41 * ns.length := by
  induction ns with
  | nil => exact Nat.le_refl _
  | cons n ns ih =>
    rw [List.map_cons, List.map_cons, List.sum_cons]
    have := ih fun m hm => h m (List.mem_cons_of_mem _ hm)
    have hn := (h n List.mem_cons_self).le
    have e : (keyS n).length = n.length + 1 := by rw [len_codes]; show (n ++ [58]).length = _; simp
    rw [e, List.length_cons]
    omega
theorem ops_okc {o : List Nat} (h : o ∈ Tok.ops) : o.all Tok.okc = true ∧ o.length ≤ 2 := by
  simp only [Tok.ops, List.mem_cons, List.not_mem_nil, or_false] at h
  rcases h with h | h | h | h | h | h | h | h | h | h | h | h | h | h <;> subst h <;> decide
theorem signs_okc {o : List Nat} (h : o ∈ Tok.signs) : o.all Tok.okc = true ∧ o.length ≤ 2 := by
  simp only [Tok.signs, List.mem_cons, List.not_mem_nil, or_false] at h
  rcases h with h | h | h | h | h | h | h | h | h | h | h <;> subst h <;> decide
theorem quote_len (u : List Nat) : (Tok.quote u).length ≤ 2 * u.length + 2 := by
  have := Tok.dbl_length u
  simp [Tok.quote]
  omega
theorem quote_okc {u : List Nat} (h : u.all Tok.okc = true) : (Tok.quote u).all Tok.okc = true := by
  unfold Tok.quote
  rw [List.all_cons, List.all_append, Tok.dbl_sg h]
  rfl
def spSymbol (K : PySem.W.Frag) : Sp := fun vs H Q _ => ∃ (b : Addr) (n : Nat) (neg : Bool), vs = [.ref b] ∧ BagAt H b n ∧ n < 800000 ∧ WQ K b n neg H Q
theorem sc_law_symbol : FnScope ["_law_bag_here", "_law_way", "_law_text_here", "_law_turn"] ["_law_bag_here"] (defScope s_law_symbol) := ⟨rfl, rfl, rfl, by decide +kernel, rfl, by decide +kernel, by decide +kernel⟩
theorem ok_symbol {f fT fN fX fS fO : Addr} {fd fdT fdN fdX fdS fdO : FuncData} (F : FnP K "_law_symbol" s_law_symbol f fd) (G_law_take : FnOk P w K mg base CX0 2 fT fdT ["_law_bag_here", "_law_many"] spTake) (g_law_take : mg "_law_take" = some (.ref fT)) (k_law_take : PySem.W.keepIn K (.ref fT) = true) (b_law_take : Binds K fdT ["_law_bag_here", "_law_many"] []) (G_law_name : FnOk P w K mg base CX0 4 fN fdN ["_law_bag_here"] spName) (g_law_name : mg "_law_name" = some (.ref fN)) (k_law_name : PySem.W.keepIn K (.ref fN) = true) (b_law_name : Binds K fdN ["_law_bag_here"] []) (G_law_text : FnOk P w K mg base CX0 4 fX fdX ["_law_bag_here"] spText) (g_law_text : mg "_law_text" = some (.ref fX)) (k_law_text : PySem.W.keepIn K (.ref fX) = true) (b_law_text : Binds K fdX ["_law_bag_here"] []) (G_law_string : FnOk P w K mg base CX0 1 fS fdS ["_law_text_here"] spString) (g_law_string : mg "_law_string" = some (.ref fS)) (k_law_string : PySem.W.keepIn K (.ref fS) = true) (b_law_string : Binds K fdS ["_law_text_here"] []) (G_law_operator : FnOk P w K mg base CX0 4 fO fdO ["_law_bag_here"] spOper) (g_law_operator : mg "_law_operator" = some (.ref fO)) (k_law_operator : PySem.W.keepIn K (.ref fO) = true) (b_law_operator : Binds K fdO ["_law_bag_here"] []) (g_range : mg "range" = none) :
    FnOk P w K mg base CX0 5 f fd ["_law_bag_here"] (spSymbol K) := by
  refine F.ok sc_law_symbol (fun vs H Q E h => ?_) (fun cdv A outer s H vs Q E hr h => ⟨_, PSs.nox
    (pss_cons (ps_set (i := 1) sc_law_symbol.nd rfl (Or.inl rfl) (pe_call G_law_take (hr.mono (by decide)) rfl g_law_take k_law_take b_law_take .nil pass0 (pa_cons (pv 0) (pa_cons pe_int pa_nil))))
      (pss_cons (ps_if (pt_cmpR op_eq (pv 1) pe_int (nomark _)) (pss_cons (ps_set (i := 2) sc_law_symbol.nd rfl (Or.inl rfl) (pe_call G_law_text (hr.mono (by decide)) rfl g_law_text k_law_text b_law_text .nil pass0 (pa_cons (pv 0) pa_nil)))
      (pss_one (ps_ret (pe_tup (pa_cons pe_str (pa_cons (pv 2) (pa_cons (pe_op op_addS pe_str (pe_call G_law_string (hr.mono (by decide)) rfl g_law_string k_law_string b_law_string .nil pass0 (pa_cons (pv 2) pa_nil))) pa_nil))))))) pss_nil)
      (pss_cons (ps_set (i := 2) sc_law_symbol.nd rfl (Or.inl rfl) (pe_call G_law_name (hr.mono (by decide)) rfl g_law_name k_law_name b_law_name .nil pass0 (pa_cons (pv 0) pa_nil)))
      (pss_cons (ps_if (pt_cmpR op_eq (pv 1) pe_int (nomark _)) (pss_one (ps_set (i := 2) sc_law_symbol.nd rfl (Or.inl rfl) (pe_call G_law_operator (hr.mono (by decide)) rfl g_law_operator k_law_operator b_law_operator .nil pass0 (pa_cons (pv 0) pa_nil)))) pss_nil)
      (pss_cons (ps_if (pt_cmpR op_eq (pv 1) pe_int (nomark _)) (pss_one (ps_set (i := 2) sc_law_symbol.nd rfl (Or.inl rfl) (pe_join pe_str (pe_lc (own := [("_law_turn", 3)]) rfl sc_law_symbol.nd (pi_range1 (by rfl) g_range (pa_cons (pe_op op_add pe_int (pe_call G_law_take (hr.mono (by decide)) rfl g_law_take k_law_take b_law_take .nil pass0 (pa_cons (pv 0) (pa_cons pe_int pa_nil)))) pa_nil)) (blkOk_by (own := [("_law_turn", 3)]) (N := ["_law_bag_here", "_law_way", "_law_text_here", "_law_turn"]) (sc := defScope s_law_symbol) (by decide +kernel)) (fun _ _ _ _ _ => by (exact (pg_name (i := 3) sc_law_symbol.nd rfl (Or.inl rfl)))) (fun _ _ _ _ _ => by exact pts_nil) (fun _ _ _ _ _ => by exact (pe_op op_addS (pe_call G_law_name (hr.mono (by decide)) rfl g_law_name k_law_name b_law_name .nil pass0 (pa_cons (pv 0) pa_nil)) pe_str)))))) pss_nil)
      (pss_one (ps_ret (pe_tup (pa_cons pe_str (pa_cons (pv 2) (pa_cons (pe_op op_addS pe_str (pv 2)) pa_nil))))))))))), ?_⟩)
  · obtain ⟨b, n, neg, rfl, _⟩ := h
    rfl
  · obtain ⟨b, n, neg, rfl, hb, hn, q⟩ := h
    have e1 : (Str.ofString "#").length = 1 := by decide +kernel
    refine call_take rfl hb (by omega) (by decide) (by decide) fun r H1 r0 r1 W1 => ?_
    have hr4 : r = 0 ∨ r = 1 ∨ r = 2 ∨ r = 3 := by omega
    rcases hr4 with rfl | rfl | rfl | rfl
    · refine ⟨_, rfl, rfl, _, rfl, iteA (by decide) ?_⟩
      refine ⟨_, rfl, b, _, rfl, W1.bag, (by omega), fun z m H2 hz hl hm W2 => ?_⟩
      have ql := quote_len (codesOf z)
      refine ⟨_, rfl, _, rfl, z, rfl, (by omega), fun r hr => ⟨_, _, rfl, rfl, ?_, (by show 3 ≤ sizeLine; decide), fun p np => ?_⟩⟩
      · rw [e1, len_codes, hr]; exact Nat.le_trans (show _ ≤ 100 by omega) (by decide)
      refine word_tup (K := K) q (.symS (codesOf z)) ?_ ⟨trivial, ?_, ?_⟩ (by omega) (W1.trans W2) np
      · show _ = [V.str (kdS .sym), V.str (strOf (codesOf z)), V.str (strOf (35 :: Tok.quote (codesOf z)))]
        rw [strOf_codes, ← str_of (z := Str.ofString "#" ++ r) (by rw [codes_app, c35, hr]; rfl)]
        rfl
      · show (35 :: Tok.quote (codesOf z)).all Tok.okc = true
        rw [List.all_cons, quote_okc hz]; rfl
      · show (35 :: Tok.quote (codesOf z)).length ≤ 130
        rw [List.length_cons]; omega
    · refine ⟨_, rfl, rfl, _, rfl, iteB (by decide) ?_⟩
      refine ⟨_, rfl, b, _, rfl, W1.bag, (by omega), fun z m H2 hz hm W2 => ?_⟩
      refine ⟨_, rfl, rfl, _, rfl, iteA (by decide) ?_⟩
      refine ⟨_, rfl, b, _, rfl, W2.bag, (by omega), fun z H3 hz W3 => ?_⟩
      refine ⟨_, rfl, rfl, _, rfl, iteB (by decide) ?_⟩
      obtain ⟨o1, o2⟩ := ops_okc hz
      refine ⟨_, rfl, _, rfl, _, _, rfl, rfl, ?_, (by show 3 ≤ sizeLine; decide), fun p np => ?_⟩
      · rw [e1, len_codes]; exact Nat.le_trans (show _ ≤ 100 by omega) (by decide)
      refine word_tup (K := K) q (.symO (codesOf z)) ?_ ⟨hz, ?_, ?_⟩ (by omega) ((W1.trans W2).trans W3) np
      · show _ = [V.str (kdS .sym), V.str (strOf (codesOf z)), V.str (strOf (35 :: codesOf z))]
        rw [strOf_codes, ← str_of (z := Str.ofString "#" ++ z) (by rw [codes_app, c35]; rfl)]
        rfl
      · show (35 :: codesOf z).all Tok.okc = true
        rw [List.all_cons, o1]; rfl
      · show (35 :: codesOf z).length ≤ 130
        rw [List.length_cons]; omega
    · refine ⟨_, rfl, rfl, _, rfl, iteB (by decide) ?_⟩
      refine ⟨_, rfl, b, _, rfl, W1.bag, (by omega), fun z m H2 hz hm W2 => ?_⟩
      refine ⟨_, rfl, rfl, _, rfl, iteB (by decide) ?_⟩
      refine ⟨_, rfl, rfl, _, rfl, iteA (by decide) ?_⟩
      refine ⟨⟨_, rfl⟩, ?_⟩
      refine call_take rfl W2.bag (by omega) (by decide) (by decide) fun r H3 r0 r1 W3 => ?_
      refine ⟨_, _, rfl, rfl, _, rfl, (by omega), (by omega), fun L nL => ?_⟩
      have hLb := bag_ne W3.bag nL
      have W123 := (W1.trans W2).trans W3
      have nL0 : H L = none := W123.free nL
      refine lc_range (lo := 0) (fun i H' => ∃ ns : List (List Nat), H' L = some (.lst ((ns.map keyS).map V.str)) ∧ ns.length = i ∧ (∀ n ∈ ns, Tok.IsName n) ∧ ∃ m', m' ≤ n + 43 + 41 * i ∧ Went b m' H H') ⟨[], upd_same, rfl, (fun n hn => by cases hn), _, (by omega), went_upd W123 nL0 hLb⟩ ?turn ?last
      case turn =>
        rintro i H4 hi ⟨ns, hL, hl, ha, m', hm', W⟩
        refine ⟨rfl, tyes ?_⟩
        refine ⟨_, rfl, b, m', rfl, W.bag, (by omega), fun z m5 H5 hz hm5 W5 => ?_⟩
        have hzl := hz.le
        have e2 : (Str.ofString ":").length = 1 := by decide +kernel
        refine ⟨_, _, rfl, rfl, ?_, _, W5.rest _ _ hLb hL, ?_, ns ++ [codesOf z], ?_, by simp [hl], ?_, m5, by omega, went_upd (W.trans W5) nL0 hLb⟩
        · rw [e2, len_codes]; exact Nat.le_trans (show _ ≤ 100 by omega) (by decide)
        · rw [List.length_map, List.length_map, hl]; exact Nat.lt_of_lt_of_le (show i < 100 by omega) (by decide)
        · rw [upd_same, List.map_append, List.map_append]
          have : z ++ Str.ofString ":" = keyS (codesOf z) := str_of (by rw [codes_app, c58])
          rw [this]; rfl
        · intro x hx
          rcases List.mem_append.mp hx with h | h
          · exact ha x h
          · rw [List.mem_singleton.mp h]; exact hz
      case last =>
        rintro H4 ⟨ns, hL, hl, ha, m', hm', W⟩
        have l0 : (Str.ofString "").length = 0 := by decide +kernel
        have hs := keys_lens ns ha
        obtain ⟨k1, k2⟩ := keys_sum ns ha
        refine ⟨_, L, ns.map keyS, rfl, rfl, .inl (SqL.of hL), ?_, ?_⟩
        · rw [l0]; omega
        have e : codesOf (Txt.join (Str.ofString "") (ns.map keyS)) = Tok.kkeys ns := by rw [codes_join, keys_codes]
        generalize Txt.join (Str.ofString "") (ns.map keyS) = y at e ⊢
        refine ⟨_, rfl, _, rfl, _, _, rfl, rfl, ?_, (by show 3 ≤ sizeLine; decide), fun p np => ?_⟩
        · rw [e1, len_codes, e]; exact Nat.le_trans (show _ ≤ 200 by omega) (by decide)
        refine word_tup (K := K) q (.symK ns) ?_ ⟨⟨?_, ha⟩, ?_, ?_⟩ (by omega) W np
        · show _ = [V.str (kdS .sym), V.str (strOf (Tok.kkeys ns)), V.str (strOf (35 :: Tok.kkeys ns))]
          rw [← e, strOf_codes, ← str_of (z := Str.ofString "#" ++ y) (by rw [codes_app, c35]; rfl)]
          rfl
        · intro z; rw [z] at hl; simp at hl; omega
        · show (35 :: Tok.kkeys ns).all Tok.okc = true
          rw [List.all_cons, k2]; rfl
        · show (35 :: Tok.kkeys ns).length ≤ 130
          rw [List.length_cons]; omega
    · refine ⟨_, rfl, rfl, _, rfl, iteB (by decide) ?_⟩
      refine ⟨_, rfl, b, _, rfl, W1.bag, (by omega), fun z m H2 hz hm W2 => ?_⟩
      refine ⟨_, rfl, rfl, _, rfl, iteB (by decide) ?_⟩
      refine ⟨_, rfl, rfl, _, rfl, iteB (by decide) ?_⟩
      have hzl := hz.le
      refine ⟨_, rfl, _, rfl, _, _, rfl, rfl, ?_, (by show 3 ≤ sizeLine; decide), fun p np => ?_⟩
      · rw [e1, len_codes]; exact Nat.le_trans (show _ ≤ 100 by omega) (by decide)
      refine word_tup (K := K) q (.symN (codesOf z)) ?_ ⟨hz, ?_, ?_⟩ (by omega) (W1.trans W2) np
      · show _ = [V.str (kdS .sym), V.str (strOf (codesOf z)), V.str (strOf (35 :: codesOf z))]
        rw [strOf_codes, ← str_of (z := Str.ofString "#" ++ z) (by rw [codes_app, c35]; rfl)]
        rfl
      · show (35 :: codesOf z).all Tok.okc = true
        rw [List.all_cons, names_okc hz]; rfl
      · show (35 :: codesOf z).length ≤ 130
        rw [List.length_cons]; omega
end
end My1

end
section
set_option Elab.async false
set_option linter.all false
set_option maxRecDepth 100000
set_option maxHeartbeats 2000000
namespace My1
open PySem PySem.Spec PyProof.Rows L2 My
section
variable {P : Program} {w : World} {K : PySem.W.Frag} {mg : Str → Option Value} {base : Heap}
theorem pick_rows {H0 H : Hp} {b L : Addr} {n : Nat} {ds : List PyData} {Q : VK} {E : XK} (R : Rows K H0 H L ds) (hb : BagAt H b n) (hn : n < 1000000) (hb0 : H0 b ≠ none) (h0 : 0 < ds.length) (hl : ds.length ≤ 1000)
    (q : ∀ d v D H', d ∈ ds → Dp K D v d → (∀ a o, D a = some o → H' a = some o ∧ a ≠ b ∧ H0 a = none) → Went b (n + 1) H H' → Q v H') : spPick K [.ref b, .ref L] H Q E := by
  obtain ⟨x, y, z, hbb, hB⟩ := hb
  obtain ⟨vs, D, hL, hD, k⟩ := R.at_
  have hbL : L ≠ b := fun e => hb0 (e ▸ R.new)
  have hlen := dpAll_length hD
  refine ⟨b, n, x, y, z, hbb, hB, hn, .inl ⟨L, vs, rfl, .inl fun x' y' z' => SqL.of (by rw [upd_ne hbL]; exact hL), by omega, by omega, fun j v x' y' z' hv hB' => ?_⟩⟩
  obtain ⟨d, hd, hDp⟩ := dpAll_get hD hv
  refine q d v D _ (List.mem_of_getElem? hd) hDp (fun a o e => ?_) ⟨⟨x', y', z', upd_same, hB'⟩, fun a o c e => by rw [upd_ne c]; exact e⟩
  obtain ⟨k1, k2, k3⟩ := k a o e
  have c : a ≠ b := fun e2 => hb0 (e2 ▸ k3)
  exact ⟨by rw [upd_ne c]; exact k1, c, k3⟩
theorem _root_.My.Rows.bag {H0 H : Hp} {b L : Addr} {n : Nat} {ds : List PyData} (R : Rows K H0 H L ds) (hb : BagAt H0 b n) : BagAt H b n := by
  obtain ⟨x, y, z, h, hB⟩ := hb
  exact ⟨x, y, z, R.old b _ h, hB⟩
theorem _root_.My.BagAt.some {H : Hp} {b : Addr} {n : Nat} (h : BagAt H b n) : H b ≠ none := by
  obtain ⟨x, y, z, h, _⟩ := h
  rw [h]
  exact fun e => by cases e

abbrev s_law_one : Stmt := top 50
def dsSign : List PyData := [.str ":=", .str "#(", .str "(", .str ")", .str "[", .str "]", .str ":", .str "|", .str "^", .str ".", .str ";", .str "#(", .str ")"]
theorem sign_ok {d : PyData} (h : d ∈ dsSign) : ∃ z : Str, d = .str z ∧ codesOf z ∈ Tok.signs := by
  unfold dsSign at h
  simp only [List.mem_cons, List.not_mem_nil, or_false] at h
  rcases h with h | h | h | h | h | h | h | h | h | h | h | h | h <;> subst h
  all_goals exact ⟨_, rfl, by decide +kernel⟩
theorem wq_pass {b : Addr} {n m : Nat} {neg : Bool} {H H1 : Hp} {Q : VK} (q : WQ K b (n + 50) neg H Q) (W : Went b m H H1) (hm : m ≤ n + 50) : WQ K b m neg H1 Q := fun p c m' H' hc hm' W' np hp => q p c m' H' hc (by omega) (W.trans W') (W.free np) hp
theorem three_tup {b : Addr} {n m : Nat} {neg : Bool} {H H1 : Hp} {Q : VK} (q : WQ K b (n + 50) neg H Q) (c : Tok.Cl) {vs : List V} (e : vs = wTup c) (hc : IsW neg c) (hm : m ≤ n + 250) (W : Went b m H H1) {p : Addr} (np : H1 p = none) : Q (.ref p) (upd H1 p (.tup vs)) :=
  word_tup (K := K) q c e hc (by omega) W np
def spOne (K : PySem.W.Frag) : Sp := fun vs H Q _ => ∃ (b : Addr) (n : Nat) (neg : Bool), vs = [.ref b, .bl neg] ∧ BagAt H b n ∧ n < 700000 ∧ WQ K b (n + 50) neg H Q
theorem sc_law_one : FnScope ["_law_bag_here", "_law_negative_here", "_law_way", "_law_text_here"] ["_law_bag_here", "_law_negative_here"] (defScope s_law_one) := ⟨rfl, rfl, rfl, by decide +kernel, rfl, by decide +kernel, by decide +kernel⟩
theorem ok_one {f fT fK fN fX fS fO fY fI : Addr} {fd fdT fdK fdN fdX fdS fdO fdY fdI : FuncData} (F : FnP K "_law_one" s_law_one f fd) (G_law_take : FnOk P w K mg base CX0 2 fT fdT ["_law_bag_here", "_law_many"] spTake) (g_law_take : mg "_law_take" = some (.ref fT)) (k_law_take : PySem.W.keepIn K (.ref fT) = true) (b_law_take : Binds K fdT ["_law_bag_here", "_law_many"] []) (G_law_pick : FnOk P w K mg base CX0 3 fK fdK ["_law_bag_here", "_law_things"] (spPick K)) (g_law_pick : mg "_law_pick" = some (.ref fK)) (k_law_pick : PySem.W.keepIn K (.ref fK) = true) (b_law_pick : Binds K fdK ["_law_bag_here", "_law_things"] []) (G_law_name : FnOk P w K mg base CX0 4 fN fdN ["_law_bag_here"] spName) (g_law_name : mg "_law_name" = some (.ref fN)) (k_law_name : PySem.W.keepIn K (.ref fN) = true) (b_law_name : Binds K fdN ["_law_bag_here"] []) (G_law_text : FnOk P w K mg base CX0 4 fX fdX ["_law_bag_here"] spText) (g_law_text : mg "_law_text" = some (.ref fX)) (k_law_text : PySem.W.keepIn K (.ref fX) = true) (b_law_text : Binds K fdX ["_law_bag_here"] []) (G_law_string : FnOk P w K mg base CX0 1 fS fdS ["_law_text_here"] spString) (g_law_string : mg "_law_string" = some (.ref fS)) (k_law_string : PySem.W.keepIn K (.ref fS) = true) (b_law_string : Binds K fdS ["_law_text_here"] []) (G_law_operator : FnOk P w K mg base CX0 4 fO fdO ["_law_bag_here"] spOper) (g_law_operator : mg "_law_operator" = some (.ref fO)) (k_law_operator : PySem.W.keepIn K (.ref fO) = true) (b_law_operator : Binds K fdO ["_law_bag_here"] []) (G_law_symbol : FnOk P w K mg base CX0 5 fY fdY ["_law_bag_here"] (spSymbol K)) (g_law_symbol : mg "_law_symbol" = some (.ref fY)) (k_law_symbol : PySem.W.keepIn K (.ref fY) = true) (b_law_symbol : Binds K fdY ["_law_bag_here"] []) (G_law_integer : FnOk P w K mg base CX0 4 fI fdI ["_law_bag_here", "_law_negative_here"] (spInteger K)) (g_law_integer : mg "_law_integer" = some (.ref fI)) (k_law_integer : PySem.W.keepIn K (.ref fI) = true) (b_law_integer : Binds K fdI ["_law_bag_here", "_law_negative_here"] []) :
    FnOk P w K mg base CX0 6 f fd ["_law_bag_here", "_law_negative_here"] (spOne K) := by
  refine F.ok sc_law_one (fun vs H Q E h => ?_) (fun cdv A outer s H vs Q E hr h => ⟨_, PSs.nox
    (pss_cons (ps_set (i := 2) sc_law_one.nd rfl (Or.inl rfl) (pe_call G_law_take (hr.mono (by decide)) rfl g_law_take k_law_take b_law_take .nil pass0 (pa_cons (pv 0) (pa_cons pe_int pa_nil))))
      (pss_cons (ps_if (pt_cmpR op_eq (pv 2) pe_int (nomark _)) (pss_one (ps_ret (pe_call G_law_symbol (hr.mono (by decide)) rfl g_law_symbol k_law_symbol b_law_symbol .nil pass0 (pa_cons (pv 0) pa_nil)))) pss_nil)
      (pss_cons (ps_if (pt_cmpR op_eq (pv 2) pe_int (nomark _)) (pss_cons (ps_set (i := 3) sc_law_one.nd rfl (Or.inl rfl) (pe_call G_law_text (hr.mono (by decide)) rfl g_law_text k_law_text b_law_text .nil pass0 (pa_cons (pv 0) pa_nil)))
      (pss_one (ps_ret (pe_tup (pa_cons pe_str (pa_cons (pv 3) (pa_cons (pe_call G_law_string (hr.mono (by decide)) rfl g_law_string k_law_string b_law_string .nil pass0 (pa_cons (pv 3) pa_nil)) pa_nil))))))) pss_nil)
      (pss_cons (ps_if (pt_cmpR op_eq (pv 2) pe_int (nomark _)) (pss_one (ps_ret (pe_call G_law_integer (hr.mono (by decide)) rfl g_law_integer k_law_integer b_law_integer .nil pass0 (pa_cons (pv 0) (pa_cons (pv 1) pa_nil))))) pss_nil)
      (pss_cons (ps_if (pt_cmpR op_eq (pv 2) pe_int (nomark _)) (pss_cons (ps_set (i := 3) sc_law_one.nd rfl (Or.inl rfl) (pe_call G_law_operator (hr.mono (by decide)) rfl g_law_operator k_law_operator b_law_operator .nil pass0 (pa_cons (pv 0) pa_nil)))
      (pss_one (ps_ret (pe_tup (pa_cons pe_str (pa_cons (pv 3) (pa_cons (pv 3) pa_nil))))))) pss_nil)
      (pss_cons (ps_if (pt_cmpR op_lt (pv 2) pe_int (nomark _)) (pss_cons (ps_set (i := 3) sc_law_one.nd rfl (Or.inl rfl) (pe_call G_law_name (hr.mono (by decide)) rfl g_law_name k_law_name b_law_name .nil pass0 (pa_cons (pv 0) pa_nil)))
      (pss_one (ps_ret (pe_tup (pa_cons pe_str (pa_cons (pv 3) (pa_cons (pv 3) pa_nil))))))) pss_nil)
      (pss_cons (ps_if (pt_cmpR op_eq (pv 2) pe_int (nomark _)) (pss_cons (ps_set (i := 3) sc_law_one.nd rfl (Or.inl rfl) (pe_op op_addS (pe_call G_law_name (hr.mono (by decide)) rfl g_law_name k_law_name b_law_name .nil pass0 (pa_cons (pv 0) pa_nil)) pe_str))
      (pss_one (ps_ret (pe_tup (pa_cons pe_str (pa_cons (pv 3) (pa_cons (pv 3) pa_nil))))))) pss_nil)
      (pss_cons (ps_set (i := 3) sc_law_one.nd rfl (Or.inl rfl) (pe_call G_law_pick (hr.mono (by decide)) rfl g_law_pick k_law_pick b_law_pick .nil pass0 (pa_cons (pv 0) (pa_cons (pe_lst (pa_cons pe_str (pa_cons pe_str (pa_cons pe_str (pa_cons pe_str (pa_cons pe_str (pa_cons pe_str (pa_cons pe_str (pa_cons pe_str (pa_cons pe_str (pa_cons pe_str (pa_cons pe_str (pa_cons pe_str (pa_cons pe_str pa_nil)))))))))))))) pa_nil))))
      (pss_one (ps_ret (pe_tup (pa_cons pe_str (pa_cons (pv 3) (pa_cons (pv 3) pa_nil)))))))))))))), ?_⟩)
  · obtain ⟨b, n, neg, rfl, _⟩ := h
    rfl
  · obtain ⟨b, n, neg, rfl, hb, hn, q⟩ := h
    have e58 : (Str.ofString ":").length = 1 := by decide +kernel
    refine call_take rfl hb (by omega) (by decide) (by decide) fun r H1 r0 r1 W1 => ?_
    have lt : ∀ i j : Int, i < j → decide (i < j) = true := fun i j h => decide_eq_true h
    by_cases c0 : r = 0
    · subst c0
      exact ⟨_, rfl, rfl, _, rfl, iteA (by decide) ⟨_, rfl, b, _, neg, rfl, W1.bag, (by omega), wq_pass q W1 (by omega)⟩⟩
    refine ⟨_, rfl, rfl, _, rfl, iteB (by simpa using c0) ?_⟩
    by_cases c1 : r = 1
    · subst c1
      refine ⟨_, rfl, rfl, _, rfl, iteA (by decide) ?_⟩
      refine ⟨_, rfl, b, _, rfl, W1.bag, (by omega), fun z m H2 hz hl hm W2 => ?_⟩
      have ql := quote_len (codesOf z)
      refine ⟨_, rfl, _, rfl, z, rfl, (by omega), fun r hr => ⟨(by show 3 ≤ sizeLine; decide), fun p np => ?_⟩⟩
      refine three_tup (K := K) q (.str (codesOf z)) ?_ ⟨trivial, quote_okc hz, by show (Tok.quote (codesOf z)).length ≤ 130; omega⟩ (by omega) (W1.trans W2) np
      show _ = [V.str (kdS .str), V.str (My.strOf (codesOf z)), V.str (My.strOf (Tok.quote (codesOf z)))]
      rw [strOf_codes, ← str_of (z := r) hr]
      rfl
    refine ⟨_, rfl, rfl, _, rfl, iteB (by simpa using c1) ?_⟩
    by_cases c2 : r = 2
    · subst c2
      exact ⟨_, rfl, rfl, _, rfl, iteA (by decide) ⟨_, rfl, _, rfl, b, _, neg, rfl, W1.bag, (by omega), wq_pass q W1 (by omega)⟩⟩
    refine ⟨_, rfl, rfl, _, rfl, iteB (by simpa using c2) ?_⟩
    by_cases c3 : r = 3
    · subst c3
      refine ⟨_, rfl, rfl, _, rfl, iteA (by decide) ?_⟩
      refine ⟨_, rfl, b, _, rfl, W1.bag, (by omega), fun z H2 hz W2 => ?_⟩
      obtain ⟨o1, o2⟩ := ops_okc hz
      refine ⟨_, rfl, _, rfl, (by show 3 ≤ sizeLine; decide), fun p np => ?_⟩
      refine three_tup (K := K) q (.op (codesOf z)) ?_ ⟨hz, o1, by show (codesOf z).length ≤ 130; omega⟩ (by omega) (W1.trans W2) np
      show _ = [V.str (kdS .op), V.str (My.strOf (codesOf z)), V.str (My.strOf (codesOf z))]
      rw [strOf_codes]
      rfl
    refine ⟨_, rfl, rfl, _, rfl, iteB (by simpa using c3) ?_⟩
    by_cases c4 : r < 6
    · refine ⟨_, rfl, _, _, rfl, rfl, _, rfl, iteA (lt _ _ c4) ?_⟩
      refine ⟨_, rfl, b, _, rfl, W1.bag, (by omega), fun z m H2 hz hm W2 => ?_⟩
      have hzl := hz.le
      refine ⟨_, rfl, _, rfl, (by show 3 ≤ sizeLine; decide), fun p np => ?_⟩
      refine three_tup (K := K) q (.name (codesOf z)) ?_ ⟨hz, names_okc hz, by show (codesOf z).length ≤ 130; omega⟩ (by omega) (W1.trans W2) np
      show _ = [V.str (kdS .name), V.str (My.strOf (codesOf z)), V.str (My.strOf (codesOf z))]
      rw [strOf_codes]
      rfl
    refine ⟨_, rfl, _, _, rfl, rfl, _, rfl, iteB (decide_eq_false c4) ?_⟩
    by_cases c5 : r = 6
    · subst c5
      refine ⟨_, rfl, rfl, _, rfl, iteA (by decide) ?_⟩
      refine ⟨_, rfl, b, _, rfl, W1.bag, (by omega), fun z m H2 hz hm W2 => ?_⟩
      have hzl := hz.le
      refine ⟨_, _, rfl, rfl, ?_, ?_⟩
      · rw [e58, len_codes]; exact Nat.le_trans (show _ ≤ 100 by omega) (by decide)
      refine ⟨_, rfl, _, rfl, (by show 3 ≤ sizeLine; decide), fun p np => ?_⟩
      refine three_tup (K := K) q (.keyword (codesOf z)) ?_ ⟨hz, ?_, ?_⟩ (by omega) (W1.trans W2) np
      · show _ = [V.str (kdS .keyword), V.str (My.strOf (codesOf z ++ [58])), V.str (My.strOf (codesOf z ++ [58]))]
        rw [← str_of (z := z ++ Str.ofString ":") (by rw [codes_app, c58])]
        rfl
      · show (codesOf z ++ [58]).all Tok.okc = true
        rw [List.all_append, names_okc hz]; rfl
      · show (codesOf z ++ [58]).length ≤ 130
        rw [List.length_append, List.length_singleton]; omega
    refine ⟨_, rfl, rfl, _, rfl, iteB (by simpa using c5) ?_⟩
    refine pick_lst (K := K) (ds := dsSign) rfl W1.bag (by omega) ?e1 (by decide) (by decide) fun d v D H2 hd hv hD W2 => ?_
    case e1 => (repeat' (first | exact evds_nil | exact evd_int | exact evd_str | refine evds_cons ?_ ?_))
    obtain ⟨z, rfl, hz⟩ := sign_ok hd
    cases hv
    obtain ⟨o1, o2⟩ := signs_okc hz
    refine ⟨_, rfl, _, rfl, (by show 3 ≤ sizeLine; decide), fun p np => ?_⟩
    refine three_tup (K := K) q (.sign (codesOf z)) ?_ ⟨hz, o1, by show (codesOf z).length ≤ 130; omega⟩ (by omega) (W1.trans W2) np
    show _ = [V.str (kdS .sign), V.str (My.strOf (codesOf z)), V.str (My.strOf (codesOf z))]
    rw [strOf_codes]
    rfl
end
end My1

end
section
set_option Elab.async false
set_option linter.all false
set_option maxRecDepth 100000
set_option maxHeartbeats 2000000
namespace My1
open PySem PySem.Spec PyProof.Rows L2 My
section
variable {P : Program} {w : World} {K : PySem.W.Frag} {mg : Str → Option Value} {base : Heap}

abbrev s_law_gap : Stmt := top 54
theorem gp_com {t : List Nat} (h : 34 ∉ t) (ha : t.all Tok.okc = true) (hl : t.length ≤ 190) : Tok.Gp (34 :: t ++ [34]) := by
  refine ⟨Tok.isGap_comment h, ?_, ?_, .inr ⟨.inr (.inr rfl), ?_⟩⟩
  · rw [List.cons_append, List.all_cons, List.all_append, ha]; rfl
  · rw [List.cons_append, List.length_cons, List.length_append, List.length_singleton]; omega
  · rw [Tok.getLastD_app]; exact .inr (.inr rfl)
theorem gp_blank {c : Nat} (h : c = 32 ∨ c = 10) : Tok.Gp [c] := by
  refine ⟨Tok.isGap_blank h, ?_, (show 1 ≤ 200 by decide), .inr ⟨?_, ?_⟩⟩
  · rcases h with rfl | rfl <;> rfl
  · rcases h with h | h; exact .inl h; exact .inr (.inl h)
  · rcases h with h | h; exact .inl h; exact .inr (.inl h)
theorem gp_app {a b : List Nat} (ha : Tok.Gp a) (hb : Tok.Gp b) (a0 : a ≠ []) (b0 : b ≠ []) (hl : a.length + b.length ≤ 200) : Tok.Gp (a ++ b) := by
  refine ⟨Tok.isGap_app ha.gap hb.gap, by rw [List.all_append, ha.sg, hb.sg]; rfl, by rw [List.length_append]; exact hl, .inr ⟨?_, ?_⟩⟩
  · rcases ha.ends with h | ⟨h, _⟩
    · exact absurd h a0
    · cases a with
      | nil => exact absurd rfl a0
      | cons c a => exact h
  · rcases hb.ends with h | ⟨_, h⟩
    · exact absurd h b0
    · rw [Tok.lastD_app b0]; exact h
theorem gp_nil : Tok.Gp [] := ⟨Tok.isGap_nil, rfl, by decide, .inl rfl⟩
def dsGap1 : List PyData := [.str " ", .str "\n", .str "  ", .str "\"\"", .str " \"it's #(\" ", .str "\"-\"\n", .str "\"x\ny\""]
def dsGap2 : List PyData := [.str "", .str "", .str "", .str "", .str "", .str ""]
theorem gap1_ok {d : PyData} (h : d ∈ dsGap1) : ∃ z : Str, d = .str z ∧ Tok.Gp (codesOf z) ∧ codesOf z ≠ [] := by
  unfold dsGap1 at h
  simp only [List.mem_cons, List.not_mem_nil, or_false] at h
  have b32 : Tok.Gp [32] := gp_blank (.inl rfl)
  have b10 : Tok.Gp [10] := gp_blank (.inr rfl)
  rcases h with h | h | h | h | h | h | h <;> subst h
  · have e : codesOf (Str.ofString " ") = [32] := by decide +kernel
    exact ⟨_, rfl, by rw [e]; exact b32, by rw [e]; simp⟩
  · have e : codesOf (Str.ofString "\n") = [10] := by decide +kernel
    exact ⟨_, rfl, by rw [e]; exact b10, by rw [e]; simp⟩
  · have e : codesOf (Str.ofString "  ") = [32] ++ [32] := by decide +kernel
    exact ⟨_, rfl, by rw [e]; exact gp_app b32 b32 (by simp) (by simp) (by decide), by rw [e]; simp⟩
  · have e : codesOf (Str.ofString "\"\"") = 34 :: [] ++ [34] := by decide +kernel
    exact ⟨_, rfl, by rw [e]; exact gp_com (by simp) rfl (by decide), by rw [e]; simp⟩
  · have e : codesOf (Str.ofString " \"it's #(\" ") = [32] ++ ((34 :: [105, 116, 39, 115, 32, 35, 40] ++ [34]) ++ [32]) := by decide +kernel
    exact ⟨_, rfl, by rw [e]; exact gp_app b32 (gp_app (gp_com (by decide) (by decide) (by decide)) b32 (by simp) (by simp) (by decide)) (by simp) (by simp) (by decide), by rw [e]; simp⟩
  · have e : codesOf (Str.ofString "\"-\"\n") = (34 :: [45] ++ [34]) ++ [10] := by decide +kernel
    exact ⟨_, rfl, by rw [e]; exact gp_app (gp_com (by decide) (by decide) (by decide)) b10 (by simp) (by simp) (by decide), by rw [e]; simp⟩
  · have e : codesOf (Str.ofString "\"x\ny\"") = 34 :: [120, 10, 121] ++ [34] := by decide +kernel
    exact ⟨_, rfl, by rw [e]; exact gp_com (by decide) (by decide) (by decide), by rw [e]; simp⟩
theorem gap2_ok {d : PyData} (h : d ∈ dsGap2) : ∃ z : Str, d = .str z ∧ Tok.Gp (codesOf z) := by
  unfold dsGap2 at h
  simp only [List.mem_cons, List.not_mem_nil, or_false] at h
  have e : codesOf (Str.ofString "") = [] := by decide +kernel
  rcases h with h | h | h | h | h | h <;> subst h
  all_goals exact ⟨_, rfl, by rw [e]; exact gp_nil⟩
def dsTimes : List PyData := [.int 1, .int 1, .int 2, .int 15]
theorem times_ok {d : PyData} (h : d ∈ dsTimes) : ∃ n : Int, d = .int n ∧ 0 ≤ n ∧ n ≤ 15 := by
  unfold dsTimes at h
  simp only [List.mem_cons, List.not_mem_nil, or_false] at h
  rcases h with h | h | h | h <;> subst h
  all_goals exact ⟨_, rfl, by decide, by decide⟩
theorem rep_not {c : Nat} {l : List Nat} (h : c ∉ l) (n : Nat) : c ∉ Tok.rep n l := by
  induction n with
  | zero => simp [Tok.rep]
  | succ n ih =>
    have e : Tok.rep (n + 1) l = l ++ Tok.rep n l := by simp [Tok.rep, List.replicate_succ]
    rw [e, List.mem_append]
    rintro (z | z)
    · exact h z
    · exact ih z
def spGap : Sp := fun vs H Q _ => ∃ (b : Addr) (n : Nat) (parted : Bool), vs = [.ref b, .bl parted] ∧ BagAt H b n ∧ n < 700000 ∧ ∀ (z : Str) (m : Nat) (H' : Hp), Tok.Gp (codesOf z) → (parted = true → codesOf z ≠ []) → m ≤ n + 15 → Went b m H H' → Q (.str z) H'
theorem sc_law_gap : FnScope ["_law_bag_here", "_law_parted", "_law_gaps"] ["_law_bag_here", "_law_parted"] (defScope s_law_gap) := ⟨rfl, rfl, rfl, by decide +kernel, rfl, by decide +kernel, by decide +kernel⟩
theorem ok_gap {f fT fK fX : Addr} {fd fdT fdK fdX : FuncData} (F : FnP K "_law_gap" s_law_gap f fd) (G_law_take : FnOk P w K mg base CX0 2 fT fdT ["_law_bag_here", "_law_many"] spTake) (g_law_take : mg "_law_take" = some (.ref fT)) (k_law_take : PySem.W.keepIn K (.ref fT) = true) (b_law_take : Binds K fdT ["_law_bag_here", "_law_many"] []) (G_law_pick : FnOk P w K mg base CX0 3 fK fdK ["_law_bag_here", "_law_things"] (spPick K)) (g_law_pick : mg "_law_pick" = some (.ref fK)) (k_law_pick : PySem.W.keepIn K (.ref fK) = true) (b_law_pick : Binds K fdK ["_law_bag_here", "_law_things"] []) (G_law_text : FnOk P w K mg base CX0 4 fX fdX ["_law_bag_here"] spText) (g_law_text : mg "_law_text" = some (.ref fX)) (k_law_text : PySem.W.keepIn K (.ref fX) = true) (b_law_text : Binds K fdX ["_law_bag_here"] []) :
    FnOk P w K mg base CX0 6 f fd ["_law_bag_here", "_law_parted"] spGap := by
  refine F.ok sc_law_gap (fun vs H Q E h => ?_) (fun cdv A outer s H vs Q E hr h => ⟨_, PSs.nox
    (pss_cons (ps_if (pt_cmpR op_eq (pe_call G_law_take (hr.mono (by decide)) rfl g_law_take k_law_take b_law_take .nil pass0 (pa_cons (pv 0) (pa_cons pe_int pa_nil))) pe_int (nomark _)) (pss_one (ps_ret (pe_op op_addS (pe_opT op_addS (CwR.pet_op op_rep_str (CwR.pet_replC (pe_call G_law_text (hr.mono (by decide)) rfl g_law_text k_law_text b_law_text .nil pass0 (pa_cons (pv 0) pa_nil))) (CwR.PET.of (pe_call G_law_pick (hr.mono (by decide)) rfl g_law_pick k_law_pick b_law_pick .nil pass0 (pa_cons (pv 0) (pa_cons (pe_lst (pa_cons pe_int (pa_cons pe_int (pa_cons pe_int (pa_cons pe_int pa_nil))))) pa_nil)))))) pe_str))) pss_nil)
      (pss_cons (ps_set (i := 2) sc_law_gap.nd rfl (Or.inl rfl) (pe_lst (pa_cons pe_str (pa_cons pe_str (pa_cons pe_str (pa_cons pe_str (pa_cons pe_str (pa_cons pe_str (pa_cons pe_str pa_nil)))))))))
      (pss_cons (ps_if (pt_not (pt_val (pv 1))) (pss_one (ps_set (i := 2) sc_law_gap.nd rfl (Or.inl rfl) (pe_op op_cat (pv 2) (pe_lst (pa_cons pe_str (pa_cons pe_str (pa_cons pe_str (pa_cons pe_str (pa_cons pe_str (pa_cons pe_str pa_nil)))))))))) pss_nil)
      (pss_one (ps_ret (pe_call G_law_pick (hr.mono (by decide)) rfl g_law_pick k_law_pick b_law_pick .nil pass0 (pa_cons (pv 0) (pa_cons (pv 2) pa_nil)))))))), ?_⟩)
  · obtain ⟨b, n, parted, rfl, _⟩ := h
    rfl
  · obtain ⟨b, n, parted, rfl, hb, hn, q⟩ := h
    have e34 : (Str.ofString "\"").length = 1 := by decide +kernel
    have e10 : (Str.ofString "\n").length = 1 := by decide +kernel
    refine call_take rfl hb (by omega) (by decide) (by decide) fun r H1 r0 r1 W1 => ?_
    refine ⟨rfl, _, rfl, ?_⟩
    refine ite2 (fun hx => ?_) (fun hx => ?_)
    · refine ⟨_, rfl, b, _, rfl, W1.bag, (by omega), fun z m H2 hz hl hm W2 => ?_⟩
      obtain ⟨g1, g2, g3⟩ := codes_nq z hz
      refine ⟨z, rfl, by rw [e10, len_codes]; omega, ?_⟩
      generalize Txt.replace z (Str.ofString "\"") (Str.ofString "\n") = y at g1 g2 g3 ⊢
      have yl : y.length ≤ 8 := by rw [len_codes]; omega
      refine pick_lst (K := K) (ds := dsTimes) rfl W2.bag (by omega) ?e1 (by decide) (by decide) fun d v D H3 hd hv hD W3 => ?_
      case e1 => (repeat' (first | exact evds_nil | exact evd_int | exact evd_str | refine evds_cons ?_ ?_))
      obtain ⟨k, rfl, k0, k1⟩ := times_ok hd
      cases hv
      have kl : y.length * k.toNat ≤ 8 * 15 := Nat.mul_le_mul yl (by omega)
      have ec := codes_mul y k k0
      have el : (codesOf (Txt.mul y k)).length ≤ 120 := by
        rw [ec, rep_length, Nat.mul_comm]; exact kl
      refine ⟨y, k, rfl, rfl, k0, (by omega), (by omega), ?_⟩
      refine ⟨_, _, rfl, rfl, ?_, _, _, rfl, rfl, ?_, ?_⟩
      · have ml : (Txt.mul y k).length ≤ 120 := el
        rw [e34]; exact Nat.le_trans (Nat.add_le_add_left ml 1) (by decide)
      · rw [e34, len_codes, codes_app, List.length_append, c34]; exact Nat.le_trans (show 1 + (codesOf (Txt.mul y k)).length + 1 ≤ 200 by omega) (by decide)
      have ef : codesOf ((Str.ofString "\"" ++ Txt.mul y k) ++ Str.ofString "\"") = 34 :: codesOf (Txt.mul y k) ++ [34] := by rw [codes_app, codes_app, c34]; rfl
      refine q _ _ H3 ?_ (fun _ => by rw [ef]; simp) ?_ ((W1.trans W2).trans W3)
      · rw [ef]
        exact gp_com (by rw [ec]; exact rep_not g3 _) (by rw [ec]; exact rep_all g1 _) (by omega)
      · omega
    · dsimp only [tNext]
      refine st_rows (K := K) (ds := dsGap1) ?a1 (by decide) fun L1 H2 R1 => ?_
      case a1 => (repeat' (first | exact evds_nil | exact evd_int | exact evd_str | refine evds_cons ?_ ?_ | refine evd_tup ?_ ?_ | refine evd_rep ?_ ?_ ?_ ?_ | refine evd_add ?_ ?_ ?_))
      have hb1 := W1.bag
      refine ⟨_, rfl, parted, rfl, ?_⟩
      cases parted with
      | true =>
        refine iteF ?_
        refine ⟨_, rfl, _, rfl, pick_rows (E := E0) R1 (R1.bag hb1) (by omega) hb1.some (by decide) (by decide) fun d v D H8 hd hv hk W8 => ?_⟩
        obtain ⟨z, rfl, hz, hne⟩ := gap1_ok hd
        cases hv
        exact q z _ H8 hz (fun _ => hne) (by omega) ((W1.same R1.old).trans W8)
      | false =>
        refine iteT ?_
        refine ⟨_, rfl, rows_lst (K := K) (ds := dsGap2) ?a2 (by decide) fun _ _ S => rows_cat R1 S (by decide) fun L2 H3 R2 => ?_⟩
        case a2 => (repeat' (first | exact evds_nil | exact evd_int | exact evd_str | refine evds_cons ?_ ?_ | refine evd_tup ?_ ?_ | refine evd_rep ?_ ?_ ?_ ?_ | refine evd_add ?_ ?_ ?_))
        refine ⟨_, rfl, _, rfl, pick_rows (E := E0) R2 (R2.bag hb1) (by omega) hb1.some (by decide) (by decide) fun d v D H8 hd hv hk W8 => ?_⟩
        have hg : ∃ z : Str, d = .str z ∧ Tok.Gp (codesOf z) := by
          rcases List.mem_append.mp hd with h | h
          · obtain ⟨z, e, hz, _⟩ := gap1_ok h; exact ⟨z, e, hz⟩
          · exact gap2_ok h
        obtain ⟨z, rfl, hz⟩ := hg
        cases hv
        exact q z _ H8 hz (fun h => by cases h) (by omega) ((W1.same R2.old).trans W8)
end
end My1

end
section
set_option Elab.async false
set_option linter.all false
set_option maxRecDepth 100000
set_option maxHeartbeats 2000000
namespace My1
open PySem PySem.Spec PyProof.Rows L2 My
section
variable {P : Program} {w : World} {K : PySem.W.Frag} {mg : Str → Option Value} {base : Heap}

abbrev s_law_bad : Stmt := top 55
def BadQ (K : PySem.W.Frag) (b : Addr) (n : Nat) (H : Hp) (Q : VK) : Prop := ∀ (p : Addr) (z : Str) (i m : Nat) (H' : Hp), Tok.BadT (codesOf z) i → m ≤ n + 20 → Went b m H H' → H p = none → H' p = some (.tup [.str z, .int (i : Int)]) → Q (.ref p) H'
theorem bad_tup {b : Addr} {n m : Nat} {H H1 : Hp} {Q : VK} (q : BadQ K b n H Q) {z : Str} {i : Nat} (h : Tok.BadT (codesOf z) i) (hm : m ≤ n + 20) (W : Went b m H H1) {p : Addr} (np : H1 p = none) : Q (.ref p) (upd H1 p (.tup [.str z, .int (i : Int)])) := by
  have n0 : H p = none := W.free np
  exact q p z i m _ h hm (went_upd W n0 (bag_ne W.bag np)) n0 upd_same
def dsB0 : List PyData := [.str "", .str ":", .str "x9"]
def dsB1 : List PyData := [.str "", .str ":", .str "7", .str "|", .str (Txt.mul ("z" : Str) 41), .str ((Txt.mul ("z" : Str) 41) ++ (":" : Str)), .str "^", .str "#a", .str "[", .str "!"]
def dsB2 : List PyData := [.str "/", .str "\\", .str "~", .str "!", .str "$", .str "&", .str "?", .str "@", .str "_", .str "`", .str "{", .str "}", .str "/ /", .str "~-1"]
theorem b0_ok {d : PyData} (h : d ∈ dsB0) : ∃ z : Str, d = .str z ∧ z.length ≤ 2 ∧ Tok.BadT (codesOf ((Str.ofString "a" ++ Txt.mul (Str.ofString "b1") 20) ++ z)) 0 := by
  unfold dsB0 at h
  simp only [List.mem_cons, List.not_mem_nil, or_false] at h
  rcases h with h | h | h <;> subst h
  all_goals exact ⟨_, rfl, by decide +kernel, Tok.bad_of (by decide +kernel)⟩
theorem b1_ok {d : PyData} (h : d ∈ dsB1) : ∃ z : Str, d = .str z ∧ z.length ≤ 42 ∧ Tok.BadT (codesOf (Str.ofString "#" ++ z)) 0 := by
  unfold dsB1 at h
  simp only [List.mem_cons, List.not_mem_nil, or_false] at h
  rcases h with h | h | h | h | h | h | h | h | h | h <;> subst h
  all_goals exact ⟨_, rfl, by decide +kernel, Tok.bad_of (by decide +kernel)⟩
theorem b2_ok {d : PyData} (h : d ∈ dsB2) : ∃ z : Str, d = .str z ∧ Tok.BadT (codesOf z) 0 := by
  unfold dsB2 at h
  simp only [List.mem_cons, List.not_mem_nil, or_false] at h
  rcases h with h | h | h | h | h | h | h | h | h | h | h | h | h | h <;> subst h
  all_goals exact ⟨_, rfl, Tok.bad_of (by decide +kernel)⟩
theorem seven_ok : ∀ k < 9, Tok.badB (codesOf (Txt.mul (Str.ofString "7") (61 + (k : Nat)))) = true := by decide +kernel
def spBad (K : PySem.W.Frag) : Sp := fun vs H Q _ => ∃ (b : Addr) (n : Nat), vs = [.ref b] ∧ BagAt H b n ∧ n < 700000 ∧ BadQ K b n H Q
theorem sc_law_bad : FnScope ["_law_bag_here", "_law_way"] ["_law_bag_here"] (defScope s_law_bad) := ⟨rfl, rfl, rfl, by decide +kernel, rfl, by decide +kernel, by decide +kernel⟩
theorem ok_bad {f fT fK fX : Addr} {fd fdT fdK fdX : FuncData} (F : FnP K "_law_bad" s_law_bad f fd) (G_law_take : FnOk P w K mg base CX0 2 fT fdT ["_law_bag_here", "_law_many"] spTake) (g_law_take : mg "_law_take" = some (.ref fT)) (k_law_take : PySem.W.keepIn K (.ref fT) = true) (b_law_take : Binds K fdT ["_law_bag_here", "_law_many"] []) (G_law_pick : FnOk P w K mg base CX0 3 fK fdK ["_law_bag_here", "_law_things"] (spPick K)) (g_law_pick : mg "_law_pick" = some (.ref fK)) (k_law_pick : PySem.W.keepIn K (.ref fK) = true) (b_law_pick : Binds K fdK ["_law_bag_here", "_law_things"] []) (G_law_text : FnOk P w K mg base CX0 4 fX fdX ["_law_bag_here"] spText) (g_law_text : mg "_law_text" = some (.ref fX)) (k_law_text : PySem.W.keepIn K (.ref fX) = true) (b_law_text : Binds K fdX ["_law_bag_here"] []) :
    FnOk P w K mg base CX0 6 f fd ["_law_bag_here"] (spBad K) := by
  refine F.ok sc_law_bad (fun vs H Q E h => ?_) (fun cdv A outer s H vs Q E hr h => ⟨_, PSs.nox
    (pss_cons (ps_set (i := 1) sc_law_bad.nd rfl (Or.inl rfl) (pe_call G_law_take (hr.mono (by decide)) rfl g_law_take k_law_take b_law_take .nil pass0 (pa_cons (pv 0) (pa_cons pe_int pa_nil))))
      (pss_cons (ps_if (pt_cmpR op_eq (pv 1) pe_int (nomark _)) (pss_one (ps_ret (pe_tup (pa_cons (pe_op op_addS (pe_op op_addS pe_str (pe_op op_rep_str pe_str pe_int)) (pe_call G_law_pick (hr.mono (by decide)) rfl g_law_pick k_law_pick b_law_pick .nil pass0 (pa_cons (pv 0) (pa_cons (pe_lst (pa_cons pe_str (pa_cons pe_str (pa_cons pe_str pa_nil)))) pa_nil)))) (pa_cons pe_int pa_nil))))) pss_nil)
      (pss_cons (ps_if (pt_cmpR op_eq (pv 1) pe_int (nomark _)) (pss_one (ps_ret (pe_tup (pa_cons (pe_op op_rep_str pe_str (pe_op op_add pe_int (pe_call G_law_take (hr.mono (by decide)) rfl g_law_take k_law_take b_law_take .nil pass0 (pa_cons (pv 0) (pa_cons pe_int pa_nil))))) (pa_cons pe_int pa_nil))))) pss_nil)
      (pss_cons (ps_if (pt_cmpR op_eq (pv 1) pe_int (nomark _)) (pss_one (ps_ret (pe_tup (pa_cons (pe_op op_addS pe_str (pe_op op_rep_str pe_str pe_int)) (pa_cons pe_int pa_nil))))) pss_nil)
      (pss_cons (ps_if (pt_cmpR op_eq (pv 1) pe_int (nomark _)) (pss_one (ps_ret (pe_tup (pa_cons (pe_op op_addS (pe_opT op_addS (CwR.pet_replC (pe_call G_law_text (hr.mono (by decide)) rfl g_law_text k_law_text b_law_text .nil pass0 (pa_cons (pv 0) pa_nil)))) pe_str) (pa_cons pe_int pa_nil))))) pss_nil)
      (pss_cons (ps_if (pt_cmpR op_eq (pv 1) pe_int (nomark _)) (pss_one (ps_ret (pe_tup (pa_cons (pe_opT op_addS (CwR.pet_replC (pe_call G_law_text (hr.mono (by decide)) rfl g_law_text k_law_text b_law_text .nil pass0 (pa_cons (pv 0) pa_nil)))) (pa_cons pe_int pa_nil))))) pss_nil)
      (pss_cons (ps_if (pt_cmpR op_eq (pv 1) pe_int (nomark _)) (pss_one (ps_ret (pe_tup (pa_cons (pe_opT op_addS (CwR.pet_replC (pe_call G_law_text (hr.mono (by decide)) rfl g_law_text k_law_text b_law_text .nil pass0 (pa_cons (pv 0) pa_nil)))) (pa_cons pe_int pa_nil))))) pss_nil)
      (pss_cons (ps_if (pt_cmpR op_eq (pv 1) pe_int (nomark _)) (pss_one (ps_ret (pe_tup (pa_cons (pe_op op_addS pe_str (pe_call G_law_pick (hr.mono (by decide)) rfl g_law_pick k_law_pick b_law_pick .nil pass0 (pa_cons (pv 0) (pa_cons (pe_lst (pa_cons pe_str (pa_cons pe_str (pa_cons pe_str (pa_cons pe_str (pa_cons (pe_op op_rep_str pe_str pe_int) (pa_cons (pe_op op_addS (pe_op op_rep_str pe_str pe_int) pe_str) (pa_cons pe_str (pa_cons pe_str (pa_cons pe_str (pa_cons pe_str pa_nil))))))))))) pa_nil)))) (pa_cons pe_int pa_nil))))) pss_nil)
      (pss_one (ps_ret (pe_tup (pa_cons (pe_call G_law_pick (hr.mono (by decide)) rfl g_law_pick k_law_pick b_law_pick .nil pass0 (pa_cons (pv 0) (pa_cons (pe_lst (pa_cons pe_str (pa_cons pe_str (pa_cons pe_str (pa_cons pe_str (pa_cons pe_str (pa_cons pe_str (pa_cons pe_str (pa_cons pe_str (pa_cons pe_str (pa_cons pe_str (pa_cons pe_str (pa_cons pe_str (pa_cons pe_str (pa_cons pe_str pa_nil))))))))))))))) pa_nil))) (pa_cons pe_int pa_nil))))))))))))), ?_⟩)
  · obtain ⟨b, n, rfl, _⟩ := h
    rfl
  · obtain ⟨b, n, rfl, hb, hn, q⟩ := h
    have l34 : (Str.ofString "\"").length = 1 := by decide +kernel
    have l32 : (Str.ofString " ").length = 1 := by decide +kernel
    have l39 : (Str.ofString "'").length = 1 := by decide +kernel
    have l3939 : (Str.ofString "''").length = 2 := by decide +kernel
    have l3539 : (Str.ofString "#'").length = 2 := by decide +kernel
    have l35 : (Str.ofString "#").length = 1 := by decide +kernel
    have lb1 : (Str.ofString "b1").length = 2 := by decide +kernel
    have l7 : (Str.ofString "7").length = 1 := by decide +kernel
    have l0 : (Str.ofString "0").length = 1 := by decide +kernel
    refine call_take rfl hb (by omega) (by decide) (by decide) fun r H1 r0 r1 W1 => ?_
    by_cases c0 : r = 0
    · subst c0
      refine ⟨_, rfl, rfl, _, rfl, iteA (by decide) ?_⟩
      refine ⟨_, _, rfl, rfl, by decide, by decide, by rw [lb1]; decide, ?_⟩
      refine ⟨_, _, rfl, rfl, by decide +kernel, ?_⟩
      refine pick_lst (K := K) (ds := dsB0) rfl W1.bag (by omega) ?e0 (by decide) (by decide) fun d v D H3 hd hv hD W3 => ?_
      case e0 => (repeat' (first | exact evds_nil | exact evd_int | exact evd_str | refine evds_cons ?_ ?_ | refine evd_tup ?_ ?_ | refine evd_rep ?_ ?_ ?_ ?_ | refine evd_add ?_ ?_ ?_))
      obtain ⟨z, rfl, hl, hz⟩ := b0_ok hd
      cases hv
      have lm : (Str.ofString "a" ++ Txt.mul (Str.ofString "b1") 20).length = 41 := by decide +kernel
      refine ⟨_, _, rfl, rfl, by rw [lm]; exact Nat.le_trans (Nat.add_le_add_left hl 41) (by decide), (by show 2 ≤ sizeLine; decide), fun p np => ?_⟩
      exact bad_tup (K := K) q hz (by omega) (W1.trans W3) np
    refine ⟨_, rfl, rfl, _, rfl, iteB (by simpa using c0) ?_⟩
    by_cases c1 : r = 1
    · subst c1
      refine ⟨_, rfl, rfl, _, rfl, iteA (by decide) ?_⟩
      refine call_take rfl W1.bag (by omega) (by decide) (by decide) fun k H3 k0 k1 W3 => ?_
      refine ⟨_, _, rfl, rfl, ?_⟩
      refine ⟨_, _, rfl, rfl, by omega, by omega, by rw [l7]; omega, (by show 2 ≤ sizeLine; decide), fun p np => ?_⟩
      have hk := seven_ok k.toNat (by omega)
      have ek : ((61 : Nat) + (k.toNat : Nat) : Int) = 61 + k := by omega
      rw [show ((61 : Int) + (k.toNat : Nat)) = 61 + k by omega] at hk
      exact bad_tup (K := K) q (Tok.bad_of hk) (by omega) (W1.trans W3) np
    refine ⟨_, rfl, rfl, _, rfl, iteB (by simpa using c1) ?_⟩
    by_cases c2 : r = 2
    · subst c2
      refine ⟨_, rfl, rfl, _, rfl, iteA (by decide) ?_⟩
      refine ⟨_, _, rfl, rfl, by decide, by decide, by rw [l0]; decide, ?_⟩
      refine ⟨_, _, rfl, rfl, by decide +kernel, (by show 2 ≤ sizeLine; decide), fun p np => ?_⟩
      have e : codesOf (Str.ofString "-" ++ Txt.mul (Str.ofString "0") 61) = 45 :: List.replicate 61 48 := by decide +kernel
      exact bad_tup (K := K) q (z := Str.ofString "-" ++ Txt.mul (Str.ofString "0") 61) (i := 1) (by rw [e]; exact Tok.bad_minus) (by omega) W1 np
    refine ⟨_, rfl, rfl, _, rfl, iteB (by simpa using c2) ?_⟩
    by_cases c3 : r = 3
    · subst c3
      refine ⟨_, rfl, rfl, _, rfl, iteA (by decide) ?_⟩
      refine ⟨_, rfl, b, _, rfl, W1.bag, (by omega), fun z m H2 hz hl hm W2 => ?_⟩
      have ed := codes_dbl z
      have hd := Tok.dbl_length (codesOf z)
      refine ⟨z, rfl, by rw [l3939, len_codes]; omega, ?_⟩
      generalize Txt.replace z (Str.ofString "'") (Str.ofString "''") = y at ed ⊢
      have yl : y.length ≤ 16 := by rw [len_codes, ed]; omega
      refine ⟨_, _, rfl, rfl, by rw [l39]; exact Nat.le_trans (Nat.add_le_add_left yl 1) (by decide), ?_⟩
      refine ⟨_, _, rfl, rfl, ?_, (by show 2 ≤ sizeLine; decide), fun p np => ?_⟩
      · rw [l3939, len_codes, codes_app, List.length_append, c39]
        exact Nat.le_trans (show 1 + (codesOf y).length + 2 ≤ 100 from by have : (codesOf y).length ≤ 16 := yl; omega) (by decide)
      · refine bad_tup (K := K) q ?_ (by omega) (W1.trans W2) np
        have e : codesOf ((Str.ofString "'" ++ y) ++ Str.ofString "''") = 39 :: (Tok.dbl (codesOf z) ++ [39, 39]) := by rw [codes_app, codes_app, c39, c3939, ed]; rfl
        rw [e]
        exact Tok.bad_str hz (by omega)
    refine ⟨_, rfl, rfl, _, rfl, iteB (by simpa using c3) ?_⟩
    by_cases c4 : r = 4
    · subst c4
      refine ⟨_, rfl, rfl, _, rfl, iteA (by decide) ?_⟩
      refine ⟨_, rfl, b, _, rfl, W1.bag, (by omega), fun z m H2 hz hl hm W2 => ?_⟩
      obtain ⟨g1, g2, g3⟩ := codes_sq z hz
      refine ⟨z, rfl, by rw [l32, len_codes]; omega, ?_⟩
      generalize Txt.replace z (Str.ofString "\"") (Str.ofString " ") = y at g1 g2 g3 ⊢
      have yl : y.length ≤ 8 := by rw [len_codes]; omega
      refine ⟨_, _, rfl, rfl, by rw [l34]; exact Nat.le_trans (Nat.add_le_add_left yl 1) (by decide), (by show 2 ≤ sizeLine; decide), fun p np => ?_⟩
      refine bad_tup (K := K) q ?_ (by omega) (W1.trans W2) np
      have e : codesOf (Str.ofString "\"" ++ y) = 34 :: codesOf y := by rw [codes_app, c34]; rfl
      rw [e]
      exact Tok.bad_com g1 (by omega) g3
    refine ⟨_, rfl, rfl, _, rfl, iteB (by simpa using c4) ?_⟩
    by_cases c5 : r = 5
    · subst c5
      refine ⟨_, rfl, rfl, _, rfl, iteA (by decide) ?_⟩
      refine ⟨_, rfl, b, _, rfl, W1.bag, (by omega), fun z m H2 hz hl hm W2 => ?_⟩
      have ed := codes_dbl z
      have hd := Tok.dbl_length (codesOf z)
      refine ⟨z, rfl, by rw [l3939, len_codes]; omega, ?_⟩
      generalize Txt.replace z (Str.ofString "'") (Str.ofString "''") = y at ed ⊢
      have yl : y.length ≤ 16 := by rw [len_codes, ed]; omega
      refine ⟨_, _, rfl, rfl, by rw [l3539]; exact Nat.le_trans (Nat.add_le_add_left yl 2) (by decide), (by show 2 ≤ sizeLine; decide), fun p np => ?_⟩
      refine bad_tup (K := K) q ?_ (by omega) (W1.trans W2) np
      have e : codesOf (Str.ofString "#'" ++ y) = 35 :: 39 :: Tok.dbl (codesOf z) := by rw [codes_app, c3539, ed]; rfl
      rw [e]
      exact Tok.bad_symS hz (by omega)
    refine ⟨_, rfl, rfl, _, rfl, iteB (by simpa using c5) ?_⟩
    by_cases c6 : r = 6
    · subst c6
      refine ⟨_, rfl, rfl, _, rfl, iteA (by decide) ?_⟩
      refine pick_lst (K := K) (ds := dsB1) rfl W1.bag (by omega) ?e6 (by decide) (by decide) fun d v D H3 hd hv hD W3 => ?_
      case e6 => (repeat' (first | exact evds_nil | exact evd_int | exact evd_str | refine evds_cons ?_ ?_ | refine evd_tup ?_ ?_ | refine evd_rep ?_ ?_ ?_ ?_ | refine evd_add ?_ ?_ ?_)); all_goals decide +kernel
      obtain ⟨z, rfl, hl, hz⟩ := b1_ok hd
      cases hv
      refine ⟨_, _, rfl, rfl, by rw [l35]; exact Nat.le_trans (Nat.add_le_add_left hl 1) (by decide), (by show 2 ≤ sizeLine; decide), fun p np => ?_⟩
      exact bad_tup (K := K) q hz (by omega) (W1.trans W3) np
    refine ⟨_, rfl, rfl, _, rfl, iteB (by simpa using c6) ?_⟩
    refine pick_lst (K := K) (ds := dsB2) rfl W1.bag (by omega) ?e7 (by decide) (by decide) fun d v D H3 hd hv hD W3 => ?_
    case e7 => (repeat' (first | exact evds_nil | exact evd_int | exact evd_str | refine evds_cons ?_ ?_ | refine evd_tup ?_ ?_ | refine evd_rep ?_ ?_ ?_ ?_ | refine evd_add ?_ ?_ ?_))
    obtain ⟨z, rfl, hz⟩ := b2_ok hd
    cases hv
    refine ⟨(by show 2 ≤ sizeLine; decide), fun p np => ?_⟩
    exact bad_tup (K := K) q hz (by omega) (W1.trans W3) np
end
end My1

end
section
set_option Elab.async false
set_option linter.all false
set_option maxRecDepth 100000
set_option maxHeartbeats 2000000
namespace My1
open PySem PySem.Spec PyProof.Rows L2 My
/-! ### tests that leave the heap as it is, but for new things -/
def EvT (c : TT) (σ : L2.St) (H0 : Hp) (b : Bool) : Prop := ∀ (H : Hp) (Q : Bool → Hp → Prop), Same H0 H → (∀ H', Same H0 H' → Q b H') → c σ H Q
def EvE (e : TE) (σ : L2.St) (H0 : Hp) (b : Bool) : Prop := ∀ (H : Hp) (Q : VK), Same H0 H → (∀ H', Same H0 H' → Q (.bl b) H') → e σ H Q
theorem evt_and {a c : TT} {σ : L2.St} {H0 : Hp} {x y : Bool} (ha : EvT a σ H0 x) (hc : x = true → EvT c σ H0 y) : EvT (tAnd a c) σ H0 (x && y) := fun H Q hs k => ha H _ hs fun H1 h1 => by
  cases x with
  | false => exact iteF (k H1 h1)
  | true => exact iteT (hc rfl H1 Q h1 k)
theorem evt_or {a c : TT} {σ : L2.St} {H0 : Hp} {x y : Bool} (ha : EvT a σ H0 x) (hc : x = false → EvT c σ H0 y) : EvT (tOr a c) σ H0 (x || y) := fun H Q hs k => ha H _ hs fun H1 h1 => by
  cases x with
  | true => exact iteT (k H1 h1)
  | false => exact iteF (hc rfl H1 Q h1 k)
theorem evt_test {e : TE} {σ : L2.St} {H0 : Hp} {x : Bool} (h : EvE e σ H0 x) : EvT (tTest e) σ H0 x := fun H Q hs k => h H _ hs fun H1 h1 => ⟨x, rfl, k H1 h1⟩
theorem evt_b {e : TE} {σ : L2.St} {H0 : Hp} {x : Bool} (h : EvE e σ H0 x) : EvT (tB e) σ H0 x := fun H Q hs k => h H _ hs fun H1 h1 => ⟨x, rfl, k H1 h1⟩
theorem eve_or {a c : TE} {σ : L2.St} {H0 : Hp} {x y : Bool} (ha : EvE a σ H0 x) (hc : x = false → EvE c σ H0 y) : EvE (tOrV a c) σ H0 (x || y) := fun H Q hs k => ha H _ hs fun H1 h1 => ⟨x, rfl, by
  cases x with
  | true => exact iteT (k H1 h1)
  | false => exact iteF (hc rfl H1 Q h1 k)⟩
theorem eve_and {a c : TE} {σ : L2.St} {H0 : Hp} {x y : Bool} (ha : EvE a σ H0 x) (hc : x = true → EvE c σ H0 y) : EvE (tAndV a c) σ H0 (x && y) := fun H Q hs k => ha H _ hs fun H1 h1 => ⟨x, rfl, by
  cases x with
  | true => exact iteT (hc rfl H1 Q h1 k)
  | false => exact iteF (k H1 h1)⟩
theorem if_ev {c : TT} {t u : TS} {D : Ends} {σ : L2.St} {H0 H : Hp} {b : Bool} (hc : EvT c σ H0 b) (hs : Same H0 H) (ht : b = true → ∀ H', Same H0 H' → t D σ H') (hu : b = false → ∀ H', Same H0 H' → u D σ H') : tIfS c t u D σ H := hc H _ hs fun H1 h1 => by
  cases b with
  | true => exact iteT (ht rfl H1 h1)
  | false => exact iteF (hu rfl H1 h1)
theorem ret_ev {e : TE} {D : Ends} {σ : L2.St} {H0 H : Hp} {b : Bool} (he : EvE e σ H0 b) (hs : Same H0 H) (k : ∀ H', Same H0 H' → D.rt (.bl b) H') : tRet e D σ H := he H _ hs fun H1 h1 => k H1 h1
theorem same_upd {H : Hp} {p : Addr} {o : HO} (np : H p = none) : Same H (upd H p o) := fun b u e => by rw [upd_ne (ne_of_none e np)]; exact e
section
variable {K : PySem.W.Frag} {σ : L2.St} {H : Hp} {i : Nat} {p : Addr} {a0 a1 a2 : V}
theorem e_kd (hσ : σ[i]? = some (some (.ref p))) (hT : SqT K H p [.str s0, a1, a2]) {w : Str} : EvE (tOp rEq (tOp (rIxT K) (tVar i) (tC (.int 0))) (tC (.str w))) σ H (decide (V.str s0 = V.str w)) :=
  fun H' Q hs k => ⟨_, hσ, _, _, _, _, rfl, rfl, SqT.mono hs hT, rfl, rfl, k H' hs⟩
theorem e_kdne (hσ : σ[i]? = some (some (.ref p))) (hT : SqT K H p [.str s0, a1, a2]) {w : Str} : EvE (tOp rNe (tOp (rIxT K) (tVar i) (tC (.int 0))) (tC (.str w))) σ H (!decide (V.str s0 = V.str w)) :=
  fun H' Q hs k => ⟨_, hσ, _, _, _, _, rfl, rfl, SqT.mono hs hT, rfl, rfl, k H' hs⟩
theorem e_tx (hσ : σ[i]? = some (some (.ref p))) (hT : SqT K H p [a0, a1, .str s2]) {w : Str} : EvE (tOp rEq (tOp (rIxT K) (tVar i) (tC (.int 2))) (tC (.str w))) σ H (decide (V.str s2 = V.str w)) :=
  fun H' Q hs k => ⟨_, hσ, _, _, _, _, rfl, rfl, SqT.mono hs hT, rfl, rfl, k H' hs⟩
theorem e_in2 (hσ : σ[i]? = some (some (.ref p))) (hT : SqT K H p [.str s0, a1, a2]) {w w' : Str} : EvE (tOp (rIn K false) (tOp (rIxT K) (tVar i) (tC (.int 0))) (tTup (tCons (tC (.str w)) (tCons (tC (.str w')) tNil)))) σ H (inV (.str s0) [.str w, .str w']) :=
  fun H' Q hs k => ⟨_, hσ, _, _, _, _, rfl, rfl, SqT.mono hs hT, rfl, (by show 2 ≤ sizeLine; decide), fun t nt => ⟨t, _, rfl, .inr (SqT.of upd_same), rfl, rfl, k _ (hs.trans (same_upd nt))⟩⟩
theorem e_in3 (hσ : σ[i]? = some (some (.ref p))) (hT : SqT K H p [.str s0, a1, a2]) {w w' w'' : Str} : EvE (tOp (rIn K false) (tOp (rIxT K) (tVar i) (tC (.int 0))) (tTup (tCons (tC (.str w)) (tCons (tC (.str w')) (tCons (tC (.str w'')) tNil))))) σ H (inV (.str s0) [.str w, .str w', .str w'']) :=
  fun H' Q hs k => ⟨_, hσ, _, _, _, _, rfl, rfl, SqT.mono hs hT, rfl, (by show 3 ≤ sizeLine; decide), fun t nt => ⟨t, _, rfl, .inr (SqT.of upd_same), rfl, rfl, k _ (hs.trans (same_upd nt))⟩⟩
theorem e_var {z : Str} (hσ : σ[i]? = some (some (.str z))) {w : Str} : EvE (tOp rEq (tVar i) (tC (.str w))) σ H (decide (V.str z = V.str w)) := fun H' Q hs k => ⟨_, hσ, rfl, k H' hs⟩
theorem e_varne {z : Str} (hσ : σ[i]? = some (some (.str z))) {w : Str} : EvE (tOp rNe (tVar i) (tC (.str w))) σ H (!decide (V.str z = V.str w)) := fun H' Q hs k => ⟨_, hσ, rfl, k H' hs⟩
theorem e_dg {c : Nat} (hσ : σ[i]? = some (some (.str ⟨#[c]⟩))) {w : Str} : EvE (tOp (fun x y H Q => ∃ (c : Nat) (z : Str), x = .str ⟨#[c]⟩ ∧ y = .str z ∧ Q (.bl (decide (c ∈ z.cps.toList))) H) (tVar i) (tC (.str w))) σ H (decide (c ∈ w.cps.toList)) := fun H' Q hs k => ⟨_, hσ, c, w, rfl, rfl, k H' hs⟩
theorem e_al (hσ : σ[i]? = some (some (.ref p))) (hT : SqT K H p [a0, a1, .str s2]) {c : Nat} (hl : s2.length ≤ sizeLine) (hc : (codesOf s2)[1]? = some c) : EvE (tBM0 K "str" (fun x xs H Q => ∃ a, x = .str a ∧ xs = [] ∧ True ∧ Q (.bl (Txt.isalpha a)) H) (tOp rIxS (tOp (rIxT K) (tVar i) (tC (.int 2))) (tC (.int 1)))) σ H (Txt.isalpha ⟨#[c]⟩) :=
  fun H' Q hs k => ⟨_, hσ, _, _, _, _, rfl, rfl, SqT.mono hs hT, rfl, s2, 1, c, rfl, rfl, hl, atI_nat hc, rfl, _, rfl, rfl, trivial, k H' hs⟩
end
/-! ### what the tests tell -/
theorem kd_name : ∀ k : Tok.Kd, decide (V.str (kdS k) = V.str (Str.ofString "name")) = decide (k = .name) := by intro k; cases k <;> decide +kernel
theorem kd_sym : ∀ k : Tok.Kd, decide (V.str (kdS k) = V.str (Str.ofString "sym")) = decide (k = .sym) := by intro k; cases k <;> decide +kernel
theorem kd_key : ∀ k : Tok.Kd, decide (V.str (kdS k) = V.str (Str.ofString "keyword")) = decide (k = .keyword) := by intro k; cases k <;> decide +kernel
theorem kd_op : ∀ k : Tok.Kd, decide (V.str (kdS k) = V.str (Str.ofString "op")) = decide (k = .op) := by intro k; cases k <;> decide +kernel
theorem in_nis : ∀ k : Tok.Kd, inV (.str (kdS k)) [.str (Str.ofString "name"), .str (Str.ofString "int"), .str (Str.ofString "sym")] = decide (k = .name ∨ k = .int ∨ k = .sym) := by intro k; cases k <;> decide +kernel
theorem in_nk : ∀ k : Tok.Kd, inV (.str (kdS k)) [.str (Str.ofString "name"), .str (Str.ofString "keyword")] = (decide (k = .name) || decide (k = .keyword)) := by intro k; cases k <;> decide +kernel
theorem in_ss : ∀ k : Tok.Kd, inV (.str (kdS k)) [.str (Str.ofString "str"), .str (Str.ofString "sym")] = decide (k = .str ∨ k = .sym) := by intro k; cases k <;> decide +kernel
theorem in_os : ∀ k : Tok.Kd, inV (.str (kdS k)) [.str (Str.ofString "op"), .str (Str.ofString "sym")] = (decide (k = .op) || decide (k = .sym)) := by intro k; cases k <;> decide +kernel
theorem dec_tx (l : List Nat) (z : Str) {m : List Nat} (h : codesOf z = m) : decide (V.str (My.strOf l) = V.str z) = decide (l = m) := decide_eq_decide.mpr ⟨fun e => by
  injection e with e
  rw [← h, ← e]; rfl, fun e => by rw [e, ← h, strOf_codes]⟩
theorem dec_ch (c d : Nat) (z : Str) (h : codesOf z = [d]) : decide (V.str ⟨#[c]⟩ = V.str z) = decide (c = d) := decide_eq_decide.mpr ⟨fun e => by
  injection e with e
  rw [← e] at h
  have : [c] = [d] := h
  injection this, fun e => by
    have : z = My.strOf [d] := str_of h
    rw [this, e]; rfl⟩
theorem dg_in (c : Nat) : decide (c ∈ (Str.ofString "0123456789").cps.toList) = Tok.isDg c := by
  have e : (Str.ofString "0123456789").cps.toList = [48, 49, 50, 51, 52, 53, 54, 55, 56, 57] := by decide +kernel
  rw [e]
  unfold Tok.isDg
  simp only [List.mem_cons, List.not_mem_nil, or_false]
  rw [Bool.eq_iff_iff]
  simp
  omega
theorem al_in : ∀ c < 128, Txt.isalpha ⟨#[c]⟩ = Tok.isAl c := by decide +kernel
section
variable {P : Program} {w : World} {K : PySem.W.Frag} {mg : Str → Option Value} {base : Heap}

abbrev s_law_parts : Stmt := top 51
def spParts (K : PySem.W.Frag) : Sp := fun vs H Q _ => ∃ (p1 p2 : Addr) (c1 c2 : Tok.Cl) (b1 b2 : Bool), vs = [.ref p1, .ref p2, .bl b1] ∧ SqT K H p1 (wTup c1) ∧ SqT K H p2 (wTup c2) ∧ IsW b1 c1 ∧ IsW b2 c2 ∧ ∀ H', Same H H' → Q (.bl (Tok.parts c1.k c1.t c2.k c2.t b1)) H'
theorem sc_law_parts : FnScope ["_law_first", "_law_last", "_law_negative_here", "_law_begin", "_law_end"] ["_law_first", "_law_last", "_law_negative_here"] (defScope s_law_parts) := ⟨rfl, rfl, rfl, by decide +kernel, rfl, by decide +kernel, by decide +kernel⟩
theorem sym_two {c : Tok.Cl} {b : Bool} (h : c.ok b) (hk : c.k = .sym) : ∃ x, c.t[1]? = some x := by
  cases c with
  | name t => cases hk
  | keyword n => cases hk
  | int d => cases hk
  | neg d => cases hk
  | str u => cases hk
  | symS u => exact ⟨39, rfl⟩
  | symN n =>
    obtain ⟨x, r, e, _⟩ := (show Tok.IsName n from h).al
    exact ⟨x, by show (35 :: n)[1]? = _; rw [e]; rfl⟩
  | symK ns =>
    obtain ⟨n0, hn⟩ := h
    cases ns with
    | nil => exact absurd rfl n0
    | cons n ns =>
      obtain ⟨x, r, e, _⟩ := (hn n List.mem_cons_self).al
      exact ⟨x, by show (35 :: (n ++ 58 :: Tok.kkeys ns))[1]? = _; rw [e]; rfl⟩
  | symO o =>
    obtain ⟨q1, _⟩ := Tok.op_last h
    cases o with
    | nil => exact absurd rfl q1
    | cons x o => exact ⟨x, rfl⟩
  | op o => cases hk
  | sign o => cases hk
theorem ok_parts {f : Addr} {fd : FuncData} (F : FnP K "_law_parts" s_law_parts f fd) : FnOk P w K mg base CX0 1 f fd ["_law_first", "_law_last", "_law_negative_here"] (spParts K) := by
  refine F.ok sc_law_parts (fun vs H Q E h => ?_) (fun cdv A outer s H vs Q E hr h => ⟨_, PSs.nox
    (pss_cons (ps_par (i := 3) (j := 4) (by rfl) sc_law_parts.nd rfl rfl (by decide) rfl rfl (pa_cons (pe_ix ix_str (pe_ix ix_tup (pv 1) pe_int (fun _ _ => rfl)) pe_int (fun _ _ => rfl)) (pa_cons (pe_ix ix_str (pe_ix ix_tup (pv 0) pe_int (fun _ _ => rfl)) (pe_un un_neg pe_int) (fun _ _ => rfl)) pa_nil)) (by rfl))
      (pss_cons (ps_if (PW.pt (pw_and (pt_cmpR op_in_seq (pe_ix ix_tup (pv 0) pe_int (fun _ _ => rfl)) (pe_tup (pa_cons pe_str (pa_cons pe_str (pa_cons pe_str pa_nil)))) (by rfl)) (pw_and (pt_cmpR op_in_sign (pv 3) pe_str (by rfl)) (pw_and1 (pt_cmpR op_ne (pv 4) pe_str (nomark _)))))) (pss_one (ps_ret (pe_or (pe_cmpR op_ne (pe_ix ix_tup (pv 0) pe_int (fun _ _ => rfl)) pe_str (nomark _)) (pe_one (pe_bm0 PySem.F.plainAttrs_str PySem.F.slot_str_isalpha PySem.F.type_str_isalpha mt_isalpha (pe_ix ix_str (pe_ix ix_tup (pv 0) pe_int (fun _ _ => rfl)) pe_int (fun _ _ => rfl))))))) pss_nil)
      (pss_cons (ps_if (pt_cmpR op_eq (pe_ix ix_tup (pv 0) pe_int (fun _ _ => rfl)) pe_str (nomark _)) (pss_one (ps_ret (pe_or (pe_cmpR op_in_seq (pe_ix ix_tup (pv 1) pe_int (fun _ _ => rfl)) (pe_tup (pa_cons pe_str (pa_cons pe_str pa_nil))) (by rfl)) (pe_one (pe_cmpR op_eq (pe_ix ix_tup (pv 1) pe_int (fun _ _ => rfl)) pe_str (nomark _)))))) pss_nil)
      (pss_cons (ps_if (PW.pt (pw_and (pt_cmpR op_eq (pe_ix ix_tup (pv 0) pe_int (fun _ _ => rfl)) pe_str (nomark _)) (pw_and1 (pt_cmpR op_eq (pv 4) pe_str (nomark _))))) (pss_one (ps_ret (pe_or (pe_cmpR op_in_seq (pe_ix ix_tup (pv 1) pe_int (fun _ _ => rfl)) (pe_tup (pa_cons pe_str (pa_cons pe_str pa_nil))) (by rfl)) (pe_one (pe_cmpR op_eq (pv 3) pe_str (nomark _)))))) pss_nil)
      (pss_cons (ps_if (PW.pt (pw_and (pt_cmpR op_eq (pe_ix ix_tup (pv 0) pe_int (fun _ _ => rfl)) pe_str (nomark _)) (pw_and1 (pt_val (pe_bm0 PySem.F.plainAttrs_str PySem.F.slot_str_isalpha PySem.F.type_str_isalpha mt_isalpha (pe_ix ix_str (pe_ix ix_tup (pv 0) pe_int (fun _ _ => rfl)) pe_int (fun _ _ => rfl))))))) (pss_one (ps_ret (pe_or (pe_cmpR op_in_seq (pe_ix ix_tup (pv 1) pe_int (fun _ _ => rfl)) (pe_tup (pa_cons pe_str (pa_cons pe_str pa_nil))) (by rfl)) (pe_one (pe_cmpR op_eq (pe_ix ix_tup (pv 1) pe_int (fun _ _ => rfl)) pe_str (nomark _)))))) pss_nil)
      (pss_cons (ps_if (PW.pt (pw_and (pt_cmpR op_in_seq (pe_ix ix_tup (pv 0) pe_int (fun _ _ => rfl)) (pe_tup (pa_cons pe_str (pa_cons pe_str pa_nil))) (by rfl)) (pw_and1 (pt_cmpR op_eq (pv 4) pe_str (nomark _))))) (pss_one (ps_ret (pe_cmpR op_eq (pv 3) pe_str (nomark _)))) pss_nil)
      (pss_cons (ps_if (PW.pt (pw_or (pt_cmpR op_eq (pe_ix ix_tup (pv 0) pe_int (fun _ _ => rfl)) pe_str (nomark _)) (pw_or1 (pt_cmpR op_eq (pe_ix ix_tup (pv 0) pe_int (fun _ _ => rfl)) pe_str (nomark _))))) (pss_one (ps_ret (pe_cmpR op_eq (pv 3) pe_str (nomark _)))) pss_nil)
      (pss_cons (ps_if (PW.pt (pw_and (pt_cmpR op_eq (pe_ix ix_tup (pv 0) pe_int (fun _ _ => rfl)) pe_str (nomark _)) (pw_and (pt_cmpR op_eq (pe_ix ix_tup (pv 0) pe_int (fun _ _ => rfl)) pe_str (nomark _)) (pw_and1 (pt_cmpR op_in_sign (pv 3) pe_str (by rfl)))))) (pss_one (ps_ret (pv 2))) pss_nil)
      (pss_one (ps_ret (pe_and (pe_cmpR op_in_seq (pe_ix ix_tup (pv 0) pe_int (fun _ _ => rfl)) (pe_tup (pa_cons pe_str (pa_cons pe_str pa_nil))) (by rfl)) (pe_one (pe_cmpR op_eq (pe_ix ix_tup (pv 1) pe_int (fun _ _ => rfl)) pe_str (nomark _)))))))))))))), ?_⟩)
  · obtain ⟨p1, p2, c1, c2, b1, b2, rfl, _⟩ := h
    rfl
  · obtain ⟨p1, p2, c1, c2, b1, b2, rfl, T1, T2, w1, w2, q⟩ := h
    have n1 := Tok.nameLike_ok w1.ok
    have n2 := Tok.nameLike_ok w2.ok
    have l1 : (My.strOf c1.t).length ≤ sizeLine := Nat.le_trans (show c1.t.length ≤ 130 from w1.le) (by decide)
    have l2 : (My.strOf c2.t).length ≤ sizeLine := Nat.le_trans (show c2.t.length ≤ 130 from w2.le) (by decide)
    have hbg : (codesOf (My.strOf c2.t))[0]? = some (c2.t.headD 0) := by
      show c2.t[0]? = _
      cases h : c2.t with
      | nil => exact absurd h n2
      | cons x r => rfl
    have hen : atI (codesOf (My.strOf c1.t)) (-1) = some (c1.t.getLastD 0) := by
      show atI c1.t (-1) = _
      rcases List.eq_nil_or_concat c1.t with h | ⟨l, x, h⟩
      · exact absurd h n1
      · rw [h, List.concat_eq_append, atI_last, Tok.getLastD_app]
    refine ⟨_, rfl, _, _, _, _, rfl, rfl, T2, rfl, _, _, _, rfl, rfl, l2, atI_nat hbg, ?_⟩
    refine ⟨_, rfl, _, _, _, _, rfl, rfl, T1, rfl, _, rfl, _, _, _, rfl, rfl, l1, hen, _, _, rfl, ?_⟩
    have W0 : Same H H := Same.refl H
    have e58 := c58
    have e61 : codesOf (Str.ofString "=") = [61] := by decide +kernel
    have hc : c1.k = .sym → (codesOf (My.strOf c1.t))[1]? = some (c1.t.getD 1 0) := fun hk => by
      obtain ⟨x, hx⟩ := sym_two w1.ok hk
      show c1.t[1]? = _
      rw [hx, List.getD_eq_getElem?_getD, hx]; rfl
    have hal : c1.k = .sym → Txt.isalpha ⟨#[c1.t.getD 1 0]⟩ = Tok.isAl (c1.t.getD 1 0) := fun hk => by
      refine al_in _ ?_
      obtain ⟨x, hx⟩ := sym_two w1.ok hk
      have := List.all_eq_true.mp w1.sg x (List.mem_of_getElem? hx)
      rw [List.getD_eq_getElem?_getD, hx]
      unfold Tok.okc at this
      simp at this
      show x < 128
      omega
    have sk : ∀ {k : Tok.Kd}, decide (V.str (kdS k) = V.str (Str.ofString "sym")) = true → k = .sym := fun h => by rw [kd_sym] at h; exact of_decide_eq_true h
    have h1 : (inV (.str (kdS c1.k)) [.str (Str.ofString "name"), .str (Str.ofString "int"), .str (Str.ofString "sym")] && (decide (c2.t.headD 0 ∈ (Str.ofString "0123456789").cps.toList) && !decide (V.str ⟨#[c1.t.getLastD 0]⟩ = V.str (Str.ofString "'")))) = decide ((c1.k = .name ∨ c1.k = .int ∨ c1.k = .sym) ∧ Tok.isDg (c2.t.headD 0) = true ∧ c1.t.getLastD 0 ≠ 39) := by
      rw [in_nis, dg_in, dec_ch _ 39 _ c39, Bool.eq_iff_iff]
      simp only [Bool.and_eq_true, decide_eq_true_eq, Bool.not_eq_true', decide_eq_false_iff_not, ne_eq]
    have h3 : (decide (V.str (kdS c1.k) = V.str (Str.ofString "sym")) && decide (V.str ⟨#[c1.t.getLastD 0]⟩ = V.str (Str.ofString ":"))) = decide (c1.k = .sym ∧ c1.t.getLastD 0 = 58) := by
      rw [kd_sym, dec_ch _ 58 _ c58, Bool.eq_iff_iff]
      simp only [Bool.and_eq_true, decide_eq_true_eq]
    have h4 : (decide (V.str (kdS c1.k) = V.str (Str.ofString "sym")) && Txt.isalpha ⟨#[c1.t.getD 1 0]⟩) = decide (c1.k = .sym ∧ Tok.isAl (c1.t.getD 1 0) = true) := by
      rw [kd_sym]
      by_cases hk : c1.k = .sym
      · rw [hal hk, Bool.eq_iff_iff]; simp only [Bool.and_eq_true, decide_eq_true_eq]
      · rw [decide_eq_false hk, decide_eq_false (fun z => hk z.1)]; rfl
    have h5 : (inV (.str (kdS c1.k)) [.str (Str.ofString "str"), .str (Str.ofString "sym")] && decide (V.str ⟨#[c1.t.getLastD 0]⟩ = V.str (Str.ofString "'"))) = decide ((c1.k = .str ∨ c1.k = .sym) ∧ c1.t.getLastD 0 = 39) := by
      rw [in_ss, dec_ch _ 39 _ c39, Bool.eq_iff_iff]
      simp only [Bool.and_eq_true, decide_eq_true_eq]
    have h6 : (decide (V.str (kdS c1.k) = V.str (Str.ofString "keyword")) || decide (V.str (My.strOf c1.t) = V.str (Str.ofString ":"))) = decide (c1.k = .keyword ∨ c1.t = [58]) := by
      rw [kd_key, dec_tx _ _ c58, Bool.eq_iff_iff]
      simp only [Bool.or_eq_true, decide_eq_true_eq]
    have h7 : (decide (V.str (kdS c1.k) = V.str (Str.ofString "op")) && (decide (V.str (My.strOf c1.t) = V.str (Str.ofString "-")) && decide (c2.t.headD 0 ∈ (Str.ofString "0123456789").cps.toList))) = decide (c1.k = .op ∧ c1.t = [45] ∧ Tok.isDg (c2.t.headD 0) = true) := by
      rw [kd_op, dec_tx _ _ c45, dg_in, Bool.eq_iff_iff]
      simp only [Bool.and_eq_true, decide_eq_true_eq]
    dsimp only [tSeq, tNext]
    refine if_ev (b := decide ((c1.k = .name ∨ c1.k = .int ∨ c1.k = .sym) ∧ Tok.isDg (c2.t.headD 0) = true ∧ c1.t.getLastD 0 ≠ 39)) (by rw [← h1]; exact evt_and (evt_test (e_in3 rfl T1)) fun _ => evt_and (evt_test (e_dg rfl)) fun _ => evt_test (e_varne rfl)) W0 (fun p1 H1 s1 => ?_) (fun p1 H1 s1 => ?_)
    · refine ret_ev (eve_or (e_kdne rfl T1) fun hk => e_al rfl T1 l1 (hc (sk (by simpa using hk)))) s1 fun H2 s2 => ?_
      have e : (!decide (V.str (kdS c1.k) = V.str (Str.ofString "sym")) || Txt.isalpha ⟨#[c1.t.getD 1 0]⟩) = Tok.parts c1.k c1.t c2.k c2.t b1 := by
        unfold Tok.parts
        rw [if_pos (of_decide_eq_true p1), kd_sym]
        by_cases hk : c1.k = .sym
        · rw [hal hk, decide_eq_true hk, decide_eq_false (fun z => z hk)]; rfl
        · rw [decide_eq_false hk, decide_eq_true hk]; rfl
      exact e ▸ q H2 s2
    have p1 := of_decide_eq_false p1
    dsimp only [tSeq, tNext]
    refine if_ev (b := decide (c1.k = .name)) (by rw [← kd_name]; exact evt_test (e_kd rfl T1)) s1 (fun p2 H1 s1 => ?_) (fun p2 H1 s1 => ?_)
    · refine ret_ev (eve_or (e_in2 rfl T2) fun _ => e_tx rfl T2) s1 fun H2 s2 => ?_
      have e : (inV (.str (kdS c2.k)) [.str (Str.ofString "name"), .str (Str.ofString "keyword")] || decide (V.str (My.strOf c2.t) = V.str (Str.ofString ":"))) = Tok.parts c1.k c1.t c2.k c2.t b1 := by
        unfold Tok.parts
        rw [if_neg p1, if_pos (of_decide_eq_true p2), in_nk, dec_tx _ _ c58]
      exact e ▸ q H2 s2
    have p2 := of_decide_eq_false p2
    dsimp only [tSeq, tNext]
    refine if_ev (b := decide (c1.k = .sym ∧ c1.t.getLastD 0 = 58)) (by rw [← h3]; exact evt_and (evt_test (e_kd rfl T1)) fun _ => evt_test (e_var rfl)) s1 (fun p3 H1 s1 => ?_) (fun p3 H1 s1 => ?_)
    · refine ret_ev (eve_or (e_in2 rfl T2) fun _ => e_var rfl) s1 fun H2 s2 => ?_
      have e : (inV (.str (kdS c2.k)) [.str (Str.ofString "name"), .str (Str.ofString "keyword")] || decide (V.str ⟨#[c2.t.headD 0]⟩ = V.str (Str.ofString "="))) = Tok.parts c1.k c1.t c2.k c2.t b1 := by
        unfold Tok.parts
        rw [if_neg p1, if_neg p2, if_pos (of_decide_eq_true p3), in_nk, dec_ch _ 61 _ e61]
      exact e ▸ q H2 s2
    have p3 := of_decide_eq_false p3
    dsimp only [tSeq, tNext]
    refine if_ev (b := decide (c1.k = .sym ∧ Tok.isAl (c1.t.getD 1 0) = true)) (by rw [← h4]; exact evt_and (evt_test (e_kd rfl T1)) fun hk => evt_b (e_al rfl T1 l1 (hc (sk hk)))) s1 (fun p4 H1 s1 => ?_) (fun p4 H1 s1 => ?_)
    · refine ret_ev (eve_or (e_in2 rfl T2) fun _ => e_tx rfl T2) s1 fun H2 s2 => ?_
      have e : (inV (.str (kdS c2.k)) [.str (Str.ofString "name"), .str (Str.ofString "keyword")] || decide (V.str (My.strOf c2.t) = V.str (Str.ofString ":"))) = Tok.parts c1.k c1.t c2.k c2.t b1 := by
        unfold Tok.parts
        rw [if_neg p1, if_neg p2, if_neg p3, if_pos (of_decide_eq_true p4), in_nk, dec_tx _ _ c58]
      exact e ▸ q H2 s2
    have p4 := of_decide_eq_false p4
    dsimp only [tSeq, tNext]
    refine if_ev (b := decide ((c1.k = .str ∨ c1.k = .sym) ∧ c1.t.getLastD 0 = 39)) (by rw [← h5]; exact evt_and (evt_test (e_in2 rfl T1)) fun _ => evt_test (e_var rfl)) s1 (fun p5 H1 s1 => ?_) (fun p5 H1 s1 => ?_)
    · refine ret_ev (e_var rfl) s1 fun H2 s2 => ?_
      have e : decide (V.str ⟨#[c2.t.headD 0]⟩ = V.str (Str.ofString "'")) = Tok.parts c1.k c1.t c2.k c2.t b1 := by
        unfold Tok.parts
        rw [if_neg p1, if_neg p2, if_neg p3, if_neg p4, if_pos (of_decide_eq_true p5), dec_ch _ 39 _ c39]
      exact e ▸ q H2 s2
    have p5 := of_decide_eq_false p5
    dsimp only [tSeq, tNext]
    refine if_ev (b := decide (c1.k = .keyword ∨ c1.t = [58])) (by rw [← h6]; exact evt_or (evt_test (e_kd rfl T1)) fun _ => evt_test (e_tx rfl T1)) s1 (fun p6 H1 s1 => ?_) (fun p6 H1 s1 => ?_)
    · refine ret_ev (e_var rfl) s1 fun H2 s2 => ?_
      have e : decide (V.str ⟨#[c2.t.headD 0]⟩ = V.str (Str.ofString "=")) = Tok.parts c1.k c1.t c2.k c2.t b1 := by
        unfold Tok.parts
        rw [if_neg p1, if_neg p2, if_neg p3, if_neg p4, if_neg p5, if_pos (of_decide_eq_true p6), dec_ch _ 61 _ e61]
      exact e ▸ q H2 s2
    have p6 := of_decide_eq_false p6
    dsimp only [tSeq, tNext]
    refine if_ev (b := decide (c1.k = .op ∧ c1.t = [45] ∧ Tok.isDg (c2.t.headD 0) = true)) (by rw [← h7]; exact evt_and (evt_test (e_kd rfl T1)) fun _ => evt_and (evt_test (e_tx rfl T1)) fun _ => evt_test (e_dg rfl)) s1 (fun p7 H1 s1 => ?_) (fun p7 H1 s1 => ?_)
    · have e : b1 = Tok.parts c1.k c1.t c2.k c2.t b1 := by
        unfold Tok.parts
        rw [if_neg p1, if_neg p2, if_neg p3, if_neg p4, if_neg p5, if_neg p6, if_pos (of_decide_eq_true p7)]
      have q2 := q H1 s1
      rw [← e] at q2
      exact ⟨_, rfl, q2⟩
    have p7 := of_decide_eq_false p7
    dsimp only [tSeq, tNext]
    refine ret_ev (eve_and (e_in2 rfl T1) fun _ => e_kd rfl T2) s1 fun H2 s2 => ?_
    have e : (inV (.str (kdS c1.k)) [.str (Str.ofString "op"), .str (Str.ofString "sym")] && decide (V.str (kdS c2.k) = V.str (Str.ofString "op"))) = Tok.parts c1.k c1.t c2.k c2.t b1 := by
      unfold Tok.parts
      rw [if_neg p1, if_neg p2, if_neg p3, if_neg p4, if_neg p5, if_neg p6, if_neg p7, in_os, kd_op]
    exact e ▸ q H2 s2
end
end My1

end
section
set_option Elab.async false
set_option linter.all false
set_option maxRecDepth 100000
set_option maxHeartbeats 2000000
namespace My1
open PySem PySem.Spec PyProof.Rows L2 My
theorem eqv_str (a b : Str) : eqV (.str a) (.str b) = decide (V.str b = V.str a) := by
  show (a == b) = _
  rw [Bool.eq_iff_iff, beq_iff_eq, decide_eq_true_eq]
  exact ⟨fun e => by rw [e], fun e => by injection e with e; exact e.symm⟩
theorem inV2 (z a b : Str) : inV (.str z) [.str a, .str b] = (decide (V.str z = V.str a) || decide (V.str z = V.str b)) := by
  unfold inV
  simp only [List.any_cons, List.any_nil, Bool.or_false, eqv_str]
theorem six_neg (n d : Nat) : HT.sIx n d (some (-1)) = n - 1 := by
  show (if (-1 : Int) < 0 then ((-1 : Int) + (n : Int)).toNat else min (-1 : Int).toNat n) = n - 1
  rw [if_pos (by decide)]
  omega
theorem cut_last (ys : List Bool) : cutV (ys.map V.bl) (some (-1)) none = (ys.drop (ys.length - 1)).map V.bl := by
  unfold cutV
  rw [List.length_map, six_neg, HT.sIx_none, ← List.map_drop, List.take_of_length_le (by simp)]
theorem cut_init (ys : List Bool) : cutV (ys.map V.bl) none (some (-1)) = ys.dropLast.map V.bl := by
  unfold cutV
  rw [List.length_map, six_neg, HT.sIx_none, List.drop_zero, Nat.sub_zero, ← List.map_take, List.dropLast_eq_take]
theorem dp_bools {K : PySem.W.Frag} {H : Hp} : ∀ ys : List Bool, DpAll K H (ys.map V.bl) (ys.map PyData.bool)
  | [] => .nil
  | y :: ys => .cons (.bl y) (dp_bools ys)
theorem last_one (ys : List Bool) : (ys.drop (ys.length - 1) = [] ∧ ys.getLast? = none) ∨ ∃ x, ys.drop (ys.length - 1) = [x] ∧ ys.getLast? = some x := by
  rcases List.eq_nil_or_concat ys with h | ⟨l, x, h⟩
  · subst h; exact .inl ⟨rfl, rfl⟩
  · subst h
    refine .inr ⟨x, ?_, by simp⟩
    rw [List.concat_eq_append, List.length_append, List.length_singleton, Nat.add_sub_cancel, List.drop_left]
section
variable {K : PySem.W.Frag} {σ : L2.St} {H : Hp} {i : Nat} {p o : Addr} {a0 a1 a2 : V}
/-- signs[-1:] == [True] -/
theorem e_last (hσ : σ[i]? = some (some (.ref o))) {ys : List Bool} (hO : SqL K H o (ys.map V.bl)) : EvE (tOp (rEqD K) (tSl (rSlL K) (tVar i) (tPart (tUn (rU fun i => .int (-i)) (tC (.int 1)))) tNoPart) (tLst (tCons (tC (.bl true)) tNil))) σ H (decide (ys.getLast? = some true)) := fun H' Q hs k => by
  refine ⟨_, hσ, 1, rfl, -1, rfl, o, _, rfl, SqL.mono hs hO, fun l nl => ⟨(by show 1 ≤ sizeLine; decide), fun m nm => ?_⟩⟩
  rw [cut_last]
  rw [cut_last] at nm
  have s1 := same_upd (o := HO.lst ((ys.drop (ys.length - 1)).map V.bl)) nl
  have s2 := same_upd (o := HO.lst [V.bl true]) nm
  refine ⟨.list ((ys.drop (ys.length - 1)).map PyData.bool), .list [.bool true], .lst (SqL.of (s2 _ _ upd_same)) (dp_bools _), .lst (SqL.of upd_same) (dp_bools [true]), ?_, by decide, ?_⟩
  · rcases last_one ys with ⟨h, _⟩ | ⟨x, h, _⟩
    · rw [h]; decide
    · rw [h]; cases x <;> decide
  · have e : PyData.eqv (.list ((ys.drop (ys.length - 1)).map PyData.bool)) (.list [.bool true]) = decide (ys.getLast? = some true) := by
      rcases last_one ys with ⟨h, h2⟩ | ⟨x, h, h2⟩
      · rw [h, h2]; decide
      · rw [h, h2]; cases x <;> decide
    rw [e]
    exact k _ (hs.trans (s1.trans s2))
theorem e_txin2 (hσ : σ[i]? = some (some (.ref p))) (hT : SqT K H p [a0, a1, .str s2]) {w w' : Str} : EvE (tOp (rIn K false) (tOp (rIxT K) (tVar i) (tC (.int 2))) (tTup (tCons (tC (.str w)) (tCons (tC (.str w')) tNil)))) σ H (decide (V.str s2 = V.str w) || decide (V.str s2 = V.str w')) :=
  fun H' Q hs k => ⟨_, hσ, _, _, _, _, rfl, rfl, SqT.mono hs hT, rfl, (by show 2 ≤ sizeLine; decide), fun t nt => ⟨t, _, rfl, .inr (SqT.of upd_same), rfl, rfl, by rw [← inV2] at k; exact k _ (hs.trans (same_upd nt))⟩⟩
theorem e_txno2 (hσ : σ[i]? = some (some (.ref p))) (hT : SqT K H p [a0, a1, .str s2]) {w w' : Str} : EvE (tOp (rIn K true) (tOp (rIxT K) (tVar i) (tC (.int 2))) (tTup (tCons (tC (.str w)) (tCons (tC (.str w')) tNil)))) σ H (!(decide (V.str s2 = V.str w) || decide (V.str s2 = V.str w'))) :=
  fun H' Q hs k => ⟨_, hσ, _, _, _, _, rfl, rfl, SqT.mono hs hT, rfl, (by show 2 ≤ sizeLine; decide), fun t nt => ⟨t, _, rfl, .inr (SqT.of upd_same), rfl, rfl, by rw [← inV2] at k; exact k _ (hs.trans (same_upd nt))⟩⟩
theorem e_no4 (hσ : σ[i]? = some (some (.ref p))) (hT : SqT K H p [.str s0, a1, a2]) {w1 w2 w3 w4 : Str} : EvE (tOp (rIn K true) (tOp (rIxT K) (tVar i) (tC (.int 0))) (tTup (tCons (tC (.str w1)) (tCons (tC (.str w2)) (tCons (tC (.str w3)) (tCons (tC (.str w4)) tNil)))))) σ H (!inV (.str s0) [.str w1, .str w2, .str w3, .str w4]) :=
  fun H' Q hs k => ⟨_, hσ, _, _, _, _, rfl, rfl, SqT.mono hs hT, rfl, (by show 4 ≤ sizeLine; decide), fun t nt => ⟨t, _, rfl, .inr (SqT.of upd_same), rfl, rfl, k _ (hs.trans (same_upd nt))⟩⟩
theorem e_isn {v : V} (hσ : σ[i]? = some (some v)) : EvE (tOp (fun x y H Q => y = .non ∧ Q (.bl (decide (x = .non))) H) (tVar i) (tC .non)) σ H (decide (v = .non)) := fun H' Q hs k => ⟨_, hσ, rfl, k H' hs⟩
end
theorem kd_sign : ∀ k : Tok.Kd, decide (V.str (kdS k) = V.str (Str.ofString "sign")) = decide (k = .sign) := by intro k; cases k <;> decide +kernel
theorem in_niss : ∀ k : Tok.Kd, inV (.str (kdS k)) [.str (Str.ofString "name"), .str (Str.ofString "int"), .str (Str.ofString "str"), .str (Str.ofString "sym")] = (decide (k = .name) || decide (k = .int) || decide (k = .str) || decide (k = .sym)) := by intro k; cases k <;> decide +kernel
theorem c40 : codesOf (Str.ofString "(") = [40] := by decide +kernel
theorem c3540 : codesOf (Str.ofString "#(") = [35, 40] := by decide +kernel
theorem c41 : codesOf (Str.ofString ")") = [41] := by decide +kernel
theorem c93 : codesOf (Str.ofString "]") = [93] := by decide +kernel
theorem sign_v {c : Tok.Cl} (h : c.k = .sign) : c.v = .s c.t := by cases c <;> first | rfl | cases h
theorem opens_lastT (par : List Bool) : ((Tok.opens par).getLast? = some true) ↔ par.any id = true := by
  rw [Tok.opens_last]
  by_cases h : par = []
  · subst h; simp
  · rw [if_neg h]; simp
theorem note_push (par : List Bool) (t : List Nat) (h : t = [35, 40] ∨ t = [40]) : Tok.opens (Tok.note par .sign (.s t)) = Tok.opens par ++ [decide (t = [35, 40]) || decide (par.any id = true)] := by
  rcases h with rfl | rfl
  · have : Tok.note par .sign (.s [35, 40]) = par ++ [true] := by unfold Tok.note; rw [if_neg (by simp), if_pos ⟨rfl, rfl⟩]
    rw [this, Tok.opens_push]
    simp
  · have : Tok.note par .sign (.s [40]) = par ++ [false] := by unfold Tok.note; rw [if_pos ⟨rfl, rfl⟩]
    rw [this, Tok.opens_push, show decide (([40] : List Nat) = [35, 40]) = false from by decide, Bool.false_or, Bool.decide_eq_true, Bool.or_false]
section
variable {P : Program} {w : World} {K : PySem.W.Frag} {mg : Str → Option Value} {base : Heap}

abbrev s_law_opened : Stmt := top 52
abbrev s_law_negative : Stmt := top 53
def spOpened (K : PySem.W.Frag) : Sp := fun vs H Q _ => ∃ (o p : Addr) (c : Tok.Cl) (par : List Bool), vs = [.ref o, .ref p] ∧ H o = some (.lst ((Tok.opens par).map V.bl)) ∧ par.length ≤ 1000 ∧ SqT K H p (wTup c) ∧
  ∀ (o' : Addr) (H' : Hp), Same H H' → H' o' = some (.lst ((Tok.opens (Tok.note par c.k c.v)).map V.bl)) → Q (.ref o') H'
theorem sc_law_opened : FnScope ["_law_open_signs", "_law_word"] ["_law_open_signs", "_law_word"] (defScope s_law_opened) := ⟨rfl, rfl, rfl, by decide +kernel, rfl, by decide +kernel, by decide +kernel⟩
theorem ok_opened {f : Addr} {fd : FuncData} (F : FnP K "_law_opened" s_law_opened f fd) : FnOk P w K mg base CX0 1 f fd ["_law_open_signs", "_law_word"] (spOpened K) := by
  refine F.ok sc_law_opened (fun vs H Q E h => ?_) (fun cdv A outer s H vs Q E hr h => ⟨_, PSs.nox
    (pss_cons (ps_if (PW.pt (pw_and (pt_cmpR op_eq (pe_ix ix_tup (pv 1) pe_int (fun _ _ => rfl)) pe_str (nomark _)) (pw_and1 (pt_cmpR op_in_seq (pe_ix ix_tup (pv 1) pe_int (fun _ _ => rfl)) (pe_tup (pa_cons pe_str (pa_cons pe_str pa_nil))) (by rfl))))) (pss_one (ps_ret (pe_op op_cat (pv 0) (pe_lst (pa_cons (pe_or (pe_cmpR op_eq (pe_ix ix_tup (pv 1) pe_int (fun _ _ => rfl)) pe_str (nomark _)) (pe_one (pe_cmpR (op_eqD hr.units) (pe_slice sl_list (pv 0) (po_some (pe_un un_neg pe_int)) po_none) (pe_lst (pa_cons pe_bl pa_nil)) (nomark _)))) pa_nil))))) pss_nil)
      (pss_cons (ps_if (PW.pt (pw_and (pt_cmpR op_eq (pe_ix ix_tup (pv 1) pe_int (fun _ _ => rfl)) pe_str (nomark _)) (pw_and1 (pt_cmpR op_eq (pe_ix ix_tup (pv 1) pe_int (fun _ _ => rfl)) pe_str (nomark _))))) (pss_one (ps_ret (pe_slice sl_list (pv 0) po_none (po_some (pe_un un_neg pe_int))))) pss_nil)
      (pss_one (ps_ret (pv 0))))), ?_⟩)
  · obtain ⟨o, p, c, par, rfl, _⟩ := h
    rfl
  · obtain ⟨o, p, c, par, rfl, hO, hp, T, q⟩ := h
    have W0 : Same H H := Same.refl H
    have hOl : SqL K H o ((Tok.opens par).map V.bl) := SqL.of hO
    have h1 : (decide (V.str (kdS c.k) = V.str (Str.ofString "sign")) && (decide (V.str (My.strOf c.t) = V.str (Str.ofString "#(")) || decide (V.str (My.strOf c.t) = V.str (Str.ofString "(")))) = decide (c.k = .sign ∧ (c.t = [35, 40] ∨ c.t = [40])) := by
      rw [kd_sign, dec_tx _ _ c3540, dec_tx _ _ c40, Bool.eq_iff_iff]
      simp only [Bool.and_eq_true, Bool.or_eq_true, decide_eq_true_eq]
    have h2 : (decide (V.str (kdS c.k) = V.str (Str.ofString "sign")) && decide (V.str (My.strOf c.t) = V.str (Str.ofString ")"))) = decide (c.k = .sign ∧ c.t = [41]) := by
      rw [kd_sign, dec_tx _ _ c41, Bool.eq_iff_iff]
      simp only [Bool.and_eq_true, decide_eq_true_eq]
    dsimp only [tSeq, tNext]
    refine if_ev (b := decide (c.k = .sign ∧ (c.t = [35, 40] ∨ c.t = [40]))) (by rw [← h1]; exact evt_and (evt_test (e_kd rfl T)) fun _ => evt_test (e_txin2 rfl T)) W0 (fun p1 H1 s1 => ?_) (fun p1 H1 s1 => ?_)
    · obtain ⟨hk, ht⟩ := of_decide_eq_true p1
      refine ⟨_, rfl, ?_⟩
      refine eve_or (e_tx rfl T) (fun _ => e_last rfl hOl) H1 _ s1 fun H2 s2 => ⟨(by show 1 ≤ sizeLine; decide), fun l nl => ?_⟩
      have s3 := same_upd (o := HO.lst [V.bl (decide (V.str (My.strOf c.t) = V.str (Str.ofString "#(")) || decide ((Tok.opens par).getLast? = some true))]) nl
      have sz : ((Tok.opens par).map V.bl).length + 1 ≤ sizeLine := by rw [List.length_map, Tok.opens_length]; exact Nat.le_trans (show par.length + 1 ≤ 1001 by omega) (by decide)
      refine ⟨o, l, _, _, rfl, rfl, s3 _ _ (s2 _ _ hO), upd_same, sz, fun p np => ?_⟩
      refine q _ _ (s2.trans (s3.trans (same_upd np))) ?_
      rw [upd_same]
      have e : Tok.opens (Tok.note par c.k c.v) = Tok.opens par ++ [decide (V.str (My.strOf c.t) = V.str (Str.ofString "#(")) || decide ((Tok.opens par).getLast? = some true)] := by
        rw [dec_tx _ _ c3540, sign_v hk, hk, decide_eq_decide.mpr (opens_lastT par)]
        exact note_push par c.t ht
      rw [e, List.map_append]
      rfl
    have p1 := of_decide_eq_false p1
    dsimp only [tSeq, tNext]
    refine if_ev (b := decide (c.k = .sign ∧ c.t = [41])) (by rw [← h2]; exact evt_and (evt_test (e_kd rfl T)) fun _ => evt_test (e_tx rfl T)) s1 (fun p2 H1 s1 => ?_) (fun p2 H1 s1 => ?_)
    · obtain ⟨hk, ht⟩ := of_decide_eq_true p2
      refine ⟨_, rfl, 1, rfl, -1, rfl, o, _, rfl, SqL.mono s1 hOl, fun l nl => ?_⟩
      refine q l _ (s1.trans (same_upd nl)) ?_
      rw [upd_same, cut_init, ← Tok.opens_pop, sign_v hk, hk, ht]
      rfl
    have p2 := of_decide_eq_false p2
    refine ⟨_, rfl, q o H1 s1 ?_⟩
    rw [s1 _ _ hO]
    have e : Tok.note par c.k c.v = par := by
      unfold Tok.note
      by_cases hk : c.k = .sign
      · rw [sign_v hk]
        rw [if_neg (fun z => p1 ⟨hk, .inr (by injection z.2)⟩), if_neg (fun z => p1 ⟨hk, .inl (by injection z.2)⟩), if_neg (fun z => p2 ⟨hk, by injection z.2⟩)]
      · rw [if_neg (fun z => hk z.1), if_neg (fun z => hk z.1), if_neg (fun z => hk z.1)]
    rw [e]
/-- the word that came last, or None -/
def LastV (K : PySem.W.Frag) (H : Hp) (v : V) : Option (Tok.Cl × Bool) → Prop
  | none => v = .non
  | some (c, b) => IsW b c ∧ ∃ p, v = .ref p ∧ SqT K H p (wTup c)
theorem LastV.mono {K : PySem.W.Frag} {H H' : Hp} {v : V} {last : Option (Tok.Cl × Bool)} (h : LastV K H v last) (s : Same H H') : LastV K H' v last := by
  cases last with
  | none => exact h
  | some x => obtain ⟨h1, p, h2, h3⟩ := h; exact ⟨h1, p, h2, SqT.mono s h3⟩
def spNegative (K : PySem.W.Frag) : Sp := fun vs H Q _ => ∃ (o : Addr) (v : V) (last : Option (Tok.Cl × Bool)) (par : List Bool), vs = [.ref o, v] ∧ H o = some (.lst ((Tok.opens par).map V.bl)) ∧ LastV K H v last ∧
  ∀ (H' : Hp), Same H H' → Q (.bl (Tok.binds par (Tok.kv last))) H'
theorem sc_law_negative : FnScope ["_law_open_signs", "_law_word"] ["_law_open_signs", "_law_word"] (defScope s_law_negative) := ⟨rfl, rfl, rfl, by decide +kernel, rfl, by decide +kernel, by decide +kernel⟩
theorem ok_negative {f : Addr} {fd : FuncData} (F : FnP K "_law_negative" s_law_negative f fd) : FnOk P w K mg base CX0 1 f fd ["_law_open_signs", "_law_word"] (spNegative K) := by
  refine F.ok sc_law_negative (fun vs H Q E h => ?_) (fun cdv A outer s H vs Q E hr h => ⟨_, PSs.nox
    (pss_cons (ps_if (PW.pt (pw_or (pt_cmpR op_isN (pv 1) pe_non (nomark _)) (pw_or1 (pt_cmpR (op_eqD hr.units) (pe_slice sl_list (pv 0) (po_some (pe_un un_neg pe_int)) po_none) (pe_lst (pa_cons pe_bl pa_nil)) (nomark _))))) (pss_one (ps_ret pe_bl)) pss_nil)
      (pss_one (ps_ret (pe_and (pe_cmpR op_notIn_seq (pe_ix ix_tup (pv 1) pe_int (fun _ _ => rfl)) (pe_tup (pa_cons pe_str (pa_cons pe_str (pa_cons pe_str (pa_cons pe_str pa_nil))))) (by rfl)) (pe_one (pe_cmpR op_notIn_seq (pe_ix ix_tup (pv 1) pe_int (fun _ _ => rfl)) (pe_tup (pa_cons pe_str (pa_cons pe_str pa_nil))) (by rfl))))))), ?_⟩)
  · obtain ⟨o, v, last, par, rfl, _⟩ := h
    rfl
  · obtain ⟨o, v, last, par, rfl, hO, hv, q⟩ := h
    have W0 : Same H H := Same.refl H
    have hOl : SqL K H o ((Tok.opens par).map V.bl) := SqL.of hO
    dsimp only [tSeq, tNext]
    refine if_ev (evt_or (evt_test (e_isn (v := v) rfl)) fun _ => evt_test (e_last (o := o) rfl hOl)) W0 (fun p1 H1 s1 => ?_) (fun p1 H1 s1 => ?_)
    · have e : Tok.binds par (Tok.kv last) = true := by
        rw [Bool.or_eq_true] at p1
        unfold Tok.binds
        rcases p1 with h | h
        · have hn := of_decide_eq_true h
          cases last with
          | none => simp [Tok.kv]
          | some x => obtain ⟨_, p, h2, _⟩ := hv; rw [h2] at hn; cases hn
        · rw [(opens_lastT par).mp (of_decide_eq_true h)]; rfl
      have := q H1 s1
      rw [e] at this
      exact this
    rw [Bool.or_eq_false_iff] at p1
    cases last with
    | none =>
      have hv : v = .non := hv
      exact absurd hv (of_decide_eq_false p1.1)
    | some x =>
      obtain ⟨c, b⟩ := x
      obtain ⟨hW, p, rfl, T⟩ := hv
      refine ret_ev (eve_and (e_no4 rfl T) fun _ => e_txno2 rfl T) s1 fun H2 s2 => ?_
      have e : (!inV (.str (kdS c.k)) [.str (Str.ofString "name"), .str (Str.ofString "int"), .str (Str.ofString "str"), .str (Str.ofString "sym")] && !(decide (V.str (My.strOf c.t) = V.str (Str.ofString ")")) || decide (V.str (My.strOf c.t) = V.str (Str.ofString "]")))) = Tok.binds par (Tok.kv (some (c, b))) := by
        have hp : par.any id = false := by
          cases h : par.any id with
          | false => rfl
          | true => exact absurd ((opens_lastT par).mpr h) (of_decide_eq_false p1.2)
        unfold Tok.binds
        rw [hp, in_niss, dec_tx _ _ c41, dec_tx _ _ c93, Bool.false_or]
        cases c with
        | keyword n => rw [Bool.eq_iff_iff]; simp [Tok.kv, Tok.Cl.k, Tok.Cl.v, Tok.Cl.t]; exact ⟨fun h => ⟨of_decide_eq_false h.1, of_decide_eq_false h.2⟩, fun h => ⟨decide_eq_false h.1, decide_eq_false h.2⟩⟩
        | op o => rw [Bool.eq_iff_iff]; simp [Tok.kv, Tok.Cl.k, Tok.Cl.v, Tok.Cl.t]; exact ⟨fun h => ⟨of_decide_eq_false h.1, of_decide_eq_false h.2⟩, fun h => ⟨decide_eq_false h.1, decide_eq_false h.2⟩⟩
        | sign o => rw [Bool.eq_iff_iff]; simp [Tok.kv, Tok.Cl.k, Tok.Cl.v, Tok.Cl.t]; exact ⟨fun h => ⟨of_decide_eq_false h.1, of_decide_eq_false h.2⟩, fun h => ⟨decide_eq_false h.1, decide_eq_false h.2⟩⟩
        | name t => rfl
        | int t => rfl
        | neg t => rfl
        | str t => rfl
        | symS t => rfl
        | symN t => rfl
        | symK t => rfl
        | symO t => rfl
      exact e ▸ q H2 s2
end
end My1

end
section
set_option Elab.async false
set_option linter.all false
set_option maxRecDepth 100000
set_option maxHeartbeats 2000000
namespace My1
open PySem PySem.Spec PyProof.Rows L2 My
theorem evt_not {c : TT} {σ : L2.St} {H0 : Hp} {x : Bool} (h : EvT c σ H0 x) : EvT (tNot c) σ H0 (!x) := fun H Q hs k => h H _ hs fun H1 h1 => k H1 h1
def valI : Tok.Val → Bool
  | .i _ => true
  | .s _ => false
/-- a word as the law wants it -/
structure GoodW (x : Tok.W) : Prop where
  sh : SeqAt.shaped (dW x) = true
  i : decide (x.1 = .int) = valI x.2.1
section
variable {K : PySem.W.Frag} {σ : L2.St} {H : Hp} {i : Nat} {p : Addr} {v : V} {t : Value}
theorem e_isi {T : String} {b : Bool} (hσ : σ[i]? = some (some v)) (hT : ∀ H', Same H H' → TyX K H' v t) (hk : PySem.W.kitOne K t (.type T) = some b) : EvE (tCB (rIsi K) (tCons (tVar i) (tCons (tC (.ty T)) tNil))) σ H b :=
  fun H' Q hs k => ⟨_, hσ, _, _, _, _, b, rfl, ClsV.ty _, hT H' hs, hk, k H' hs⟩
theorem e_isix {T : String} {b : Bool} {j : Int} {xs : List V} (hσ : σ[i]? = some (some (.ref p))) (hS : SqT K H p xs) (hx : atI xs j = some v) (hT : ∀ H', Same H H' → TyX K H' v t) (hk : PySem.W.kitOne K t (.type T) = some b) : EvE (tCB (rIsi K) (tCons (tOp (rIxT K) (tVar i) (tC (.int j))) (tCons (tC (.ty T)) tNil))) σ H b :=
  fun H' Q hs k => ⟨_, hσ, _, _, _, _, rfl, rfl, SqT.mono hs hS, hx, _, _, _, _, b, rfl, ClsV.ty _, hT H' hs, hk, k H' hs⟩
theorem e_neD {d e : PyData} {v' : V} {j : Nat} (hσ : σ[i]? = some (some v)) (hσ' : σ[j]? = some (some v')) (hd : Dp K H v d) (he : Dp K H v' e) (sd : SeqAt.shaped d = true) (se : SeqAt.shaped e = true) : EvE (tOp (rNeD K) (tVar i) (tVar j)) σ H (!PyData.eqv d e) :=
  fun H' Q hs k => ⟨_, hσ, _, hσ', d, e, dp_mono hs _ _ hd, dp_mono hs _ _ he, sd, se, k H' hs⟩
theorem e_neb {a c : TE} {x y : Bool} (ha : EvE a σ H x) (hc : EvE c σ H y) : EvE (tOp rNe a c) σ H (!decide (V.bl x = V.bl y)) := fun H' Q hs k => ha H' _ hs fun H1 h1 => hc H1 _ h1 fun H2 h2 => ⟨rfl, k H2 h2⟩
end
def valT : Tok.Val → Value
  | .s _ => .type "str"
  | .i _ => .type "int"
theorem ty_val {K : PySem.W.Frag} {H : Hp} (x : Tok.Val) : TyX K H (valV x) (valT x) := by
  cases x with
  | s t => exact .base (.str _)
  | i n => exact .base (.int _)
theorem kit_bool {K : PySem.W.Frag} (x : Tok.Val) : PySem.W.kitOne K (valT x) (.type "bool") = some false := by
  cases x with
  | s t => show PySem.W.kitOne K (.type "str") (.type "bool") = some false; exact kit_ty (by decide +kernel)
  | i n => show PySem.W.kitOne K (.type "int") (.type "bool") = some false; exact kit_ty (by decide +kernel)
theorem kit_int {K : PySem.W.Frag} (x : Tok.Val) : PySem.W.kitOne K (valT x) (.type "int") = some (valI x) := by
  cases x with
  | s t => show PySem.W.kitOne K (.type "str") (.type "int") = some false; exact kit_ty (by decide +kernel)
  | i n => show PySem.W.kitOne K (.type "int") (.type "int") = some true; exact kit_ty (by decide +kernel)
theorem kd_int : ∀ k : Tok.Kd, decide (V.str (kdS k) = V.str (Str.ofString "int")) = decide (k = .int) := by intro k; cases k <;> decide +kernel
theorem passNo {P : Program} {w : World} {X : Cx} : Passes (L2.CX P w) X E0 := fun _ _ _ _ _ _ _ h => by
  obtain ⟨_, _, _, _, _, _, _, _, _, _, _, _, h⟩ := h
  exact h.elim
section
variable {P : Program} {w : World} {K : PySem.W.Frag} {mg : Str → Option Value} {base : Heap}

abbrev s_law_same : Stmt := top 57
abbrev s_law_right : Stmt := top 58
def spSame (K : PySem.W.Frag) : Sp := fun vs H Q _ => ∃ (a d : Addr) (xs ys : List V) (ws : List Tok.W), vs = [.ref a, .ref d] ∧ H a = some (.lst xs) ∧ H d = some (.lst ys) ∧ DpAll K H xs (ws.map dW) ∧ DpAll K H ys (ws.map dW) ∧ (∀ x ∈ ws, GoodW x) ∧ ∀ H', Same H H' → Q (.bl true) H'
theorem sc_law_same : FnScope ["_law_found", "_law_due", "_law_one_here", "_law_word"] ["_law_found", "_law_due"] (defScope s_law_same) := ⟨rfl, rfl, rfl, by decide +kernel, rfl, by decide +kernel, by decide +kernel⟩
theorem ok_same {f : Addr} {fd : FuncData} (F : FnP K "_law_same" s_law_same f fd) (g_isinstance : mg "isinstance" = none) (g_len : mg "len" = none) (g_zip : mg "zip" = none) (g_list : mg "list" = none) (g_tuple : mg "tuple" = none) (g_bool : mg "bool" = none) (g_str : mg "str" = none) (g_int : mg "int" = none) :
    FnOk P w K mg base CX0 1 f fd ["_law_found", "_law_due"] (spSame K) := by
  refine F.ok sc_law_same (fun vs H Q E h => ?_) (fun cdv A outer s H vs Q E hr h => ⟨_, PSs.nox
    (pss_cons (ps_if (PW.pt (pw_or (pt_not (pt_val (pe_callB call_isi (by rfl) g_isinstance (by decide +kernel) (pa_cons (pv 0) (pa_cons (pe_bltn (v := .ty "list") (u := .type "list") (by rfl) g_list (by decide +kernel) rfl) pa_nil))))) (pw_or1 (pt_cmpR op_ne (pe_callB call_len_seq (by rfl) g_len PySem.boot_len (pa_cons (pv 0) pa_nil)) (pe_callB call_len_seq (by rfl) g_len PySem.boot_len (pa_cons (pv 1) pa_nil)) (nomark _))))) (pss_one (ps_ret pe_bl)) pss_nil)
      (pss_cons (ps_for PassesOwn.never rfl (pi_zip (by rfl) g_zip (pa_cons (pv 0) (pa_cons (pv 1) pa_nil))) (pg_tup rfl (pgs_cons (pg_name (i := 2) sc_law_same.nd rfl (Or.inl rfl)) (pgs_cons (pg_name (i := 3) sc_law_same.nd rfl (Or.inl rfl)) pgs_nil))) (pss_cons (ps_if (PW.pt (pw_or (pt_not (pt_val (pe_callB call_isi (by rfl) g_isinstance (by decide +kernel) (pa_cons (pv 2) (pa_cons (pe_bltn (v := .ty "tuple") (u := .type "tuple") (by rfl) g_tuple (by decide +kernel) rfl) pa_nil))))) (pw_or (pt_cmpR (op_neD hr.units) (pv 2) (pv 3) (nomark _)) (pw_or (pt_val (pe_callB call_isi (by rfl) g_isinstance (by decide +kernel) (pa_cons (pe_ix ix_tup (pv 2) pe_int (fun _ _ => rfl)) (pa_cons (pe_bltn (v := .ty "bool") (u := .type "bool") (by rfl) g_bool (by decide +kernel) rfl) pa_nil)))) (pw_or1 (pt_val (pe_callB call_isi (by rfl) g_isinstance (by decide +kernel) (pa_cons (pe_ix ix_tup (pv 2) pe_int (fun _ _ => rfl)) (pa_cons (pe_bltn (v := .ty "bool") (u := .type "bool") (by rfl) g_bool (by decide +kernel) rfl) pa_nil))))))))) (pss_one (ps_ret pe_bl)) pss_nil)
      (pss_one (ps_if (PW.pt (pw_or (pt_not (pt_val (pe_callB call_isi (by rfl) g_isinstance (by decide +kernel) (pa_cons (pe_ix ix_tup (pv 2) pe_int (fun _ _ => rfl)) (pa_cons (pe_bltn (v := .ty "str") (u := .type "str") (by rfl) g_str (by decide +kernel) rfl) pa_nil))))) (pw_or (pt_cmpR op_ne (pe_callB call_isi (by rfl) g_isinstance (by decide +kernel) (pa_cons (pe_ix ix_tup (pv 2) pe_int (fun _ _ => rfl)) (pa_cons (pe_bltn (v := .ty "int") (u := .type "int") (by rfl) g_int (by decide +kernel) rfl) pa_nil))) (pe_cmpR op_eq (pe_ix ix_tup (pv 3) pe_int (fun _ _ => rfl)) pe_str (nomark _)) (nomark _)) (pw_or1 (pt_not (pt_val (pe_callB call_isi (by rfl) g_isinstance (by decide +kernel) (pa_cons (pe_ix ix_tup (pv 2) pe_int (fun _ _ => rfl)) (pa_cons (pe_bltn (v := .ty "int") (u := .type "int") (by rfl) g_int (by decide +kernel) rfl) pa_nil))))))))) (pss_one (ps_ret pe_bl)) pss_nil))))
      (pss_one (ps_ret pe_bl)))), ?_⟩)
  · obtain ⟨a, d, xs, ys, ws, rfl, _⟩ := h
    rfl
  · obtain ⟨a, d, xs, ys, ws, rfl, hA, hD, dA, dD, hG, q⟩ := h
    have W0 : Same H H := Same.refl H
    have lA := dpAll_length dA
    have lD := dpAll_length dD
    have hlen : xs.length = ys.length := by rw [lA, lD]
    dsimp only [tSeq, tNext]
    refine if_ev (b := (!true || !decide (V.int xs.length = V.int ys.length))) (evt_or (evt_not (evt_b (e_isi rfl (fun H' hs => .base (.lst (hs _ _ hA))) (kit_ty (by decide +kernel))))) fun _ => evt_test fun H' Q hs k => ⟨_, rfl, a, xs, rfl, .inl (SqL.of (hs _ _ hA)), _, rfl, d, ys, rfl, .inl (SqL.of (hs _ _ hD)), rfl, k H' hs⟩) W0 (fun hx => by rw [hlen] at hx; simp at hx) (fun _ H1 s1 => ?_)
    dsimp only [tSeq, tNext]
    refine ⟨_, rfl, _, rfl, a, d, xs, ys, rfl, SqL.of (s1 _ _ hA), SqL.of (s1 _ _ hD), ?_⟩
    refine RZ.for_zipL hlen (fun i σ H' => ∃ u v, σ = [some (.ref a), some (.ref d), u, v] ∧ Same H H') ⟨none, none, rfl, s1⟩ (fun i σ H' ⟨u, v, _, hs⟩ => ⟨SqL.of (hs _ _ hA), SqL.of (hs _ _ hD)⟩) ?turn ?last
    case last =>
      rintro σ H2 ⟨u, v, rfl, hs⟩
      exact q H2 hs
    case turn =>
      rintro i x y T σ H2 hx hy ⟨u, v, rfl, hs⟩ nT
      obtain ⟨e, he, hDp⟩ := dpAll_get dA hx
      obtain ⟨e', he', hDp'⟩ := dpAll_get dD hy
      rw [he] at he'
      cases he'
      obtain ⟨x0, hx0, rfl⟩ : ∃ x0, x0 ∈ ws ∧ e = dW x0 := by
        obtain ⟨x0, h1, h2⟩ := List.mem_map.mp (List.mem_of_getElem? he)
        exact ⟨x0, h1, h2.symm⟩
      obtain ⟨sh, hi⟩ := hG x0 hx0
      obtain ⟨t, rfl, hT⟩ := dp_word hDp
      obtain ⟨t', rfl, hT'⟩ := dp_word hDp'
      have s2 : Same H (upd H2 T (.tup [.ref t, .ref t'])) := hs.trans (same_upd nT)
      have he : PyData.eqv (dW x0) (dW x0) = true := SeqAt.eqv_refl _ (SeqAt.canLay_of_shaped sh)
      refine ⟨T, _, rfl, SqT.of upd_same, rfl, _, _, rfl, _, _, rfl, rfl, ?_⟩
      dsimp only [tSeq, tNext]
      refine if_ev (b := (!true || (!PyData.eqv (dW x0) (dW x0) || (false || false)))) (evt_or (evt_not (evt_b (e_isi rfl (fun H' hs => ty_tuple (SqT.mono hs hT)) (kit_ty (by decide +kernel))))) fun _ => evt_or (evt_test (e_neD rfl rfl hDp hDp' sh sh)) fun _ => evt_or (evt_b (e_isix rfl hT rfl (fun _ _ => ty_val x0.2.1) (kit_bool x0.2.1))) fun _ => evt_b (e_isix rfl hT rfl (fun _ _ => .base (.int _)) (kit_ty (by decide +kernel)))) s2 (fun hx => by rw [he] at hx; cases hx) (fun _ H3 s3 => ?_)
      dsimp only [tSeq, tNext]
      refine if_ev (b := (!true || (!decide (V.bl (valI x0.2.1) = V.bl (decide (V.str (kdS x0.1) = V.str (Str.ofString "int")))) || !true))) (evt_or (evt_not (evt_b (e_isix rfl hT rfl (fun _ _ => .base (.str _)) (kit_ty (by decide +kernel))))) fun _ => evt_or (evt_test (e_neb (e_isix rfl hT rfl (fun _ _ => ty_val x0.2.1) (kit_int x0.2.1)) (e_kd rfl hT'))) fun _ => evt_not (evt_b (e_isix rfl hT rfl (fun _ _ => .base (.int _)) (kit_ty (by decide +kernel))))) s3 (fun hx => by rw [kd_int, hi] at hx; simp at hx) (fun _ H4 s4 => ?_)
      exact ⟨_, _, rfl, s4⟩
end
end My1

end
section
set_option Elab.async false
set_option linter.all false
set_option maxRecDepth 100000
set_option maxHeartbeats 2000000
namespace My1
open PySem PySem.Spec PyProof.Rows L2 My
theorem nd_of {L : List Nat} (h : Tok.NdL L) : Nd L := h
theorem same_free {H H' : Hp} {p : Addr} {o : HO} (s : Same H H') (h : H p = none) : Same H (upd H' p o) := fun b u e => by
  rw [upd_ne (ne_of_none e h)]; exact s b u e
section
variable {P : Program} {w : World} {K : PySem.W.Frag} {mg : Str → Option Value} {base : Heap}

def spRight (K : PySem.W.Frag) : Sp := fun vs H Q _ => ∃ (src : Str) (d : Addr) (v : V) (ys : List V) (ws : List Tok.W), vs = [.str src, .ref d, v] ∧ H d = some (.lst ys) ∧ DpAll K H ys (ws.map dW) ∧ (∀ x ∈ ws, GoodW x) ∧
  ((v = .non ∧ Tok.words (codesOf src) = .ok ws ∧ Tok.isSource (codesOf src) = true ∧ Nd (codesOf src)) ∨
   (∃ (p : Addr) (t : Str) (i : Nat), v = .ref p ∧ H p = some (.tup [.str t, .int (i : Int)]) ∧ Tok.words (codesOf src ++ 32 :: codesOf t) = .error ((codesOf src).length + 1 + i) ∧ Tok.isSource (codesOf src ++ 32 :: codesOf t) = true ∧ Nd (codesOf src ++ 32 :: codesOf t))) ∧
  ∀ H', Q (.bl true) H'
theorem source_len {l : List Nat} (h : Tok.isSource l = true) : l.length ≤ 2000 := by
  unfold Tok.isSource at h
  rw [Bool.and_eq_true] at h
  exact of_decide_eq_true h.2
theorem sc_law_right : FnScope ["_law_source", "_law_due", "_law_bad_here", "_law_found", "_law_place"] ["_law_source", "_law_due", "_law_bad_here"] (defScope s_law_right) := ⟨rfl, rfl, rfl, by decide +kernel, rfl, by decide +kernel, by decide +kernel⟩
theorem ok_right {f fO fS fW C : Addr} {fd fdO fdS fdW : FuncData} {kW : Nat} (F : FnP K "_law_right" s_law_right f fd)
    (G_law_told : FnOk P w K mg base CX0 21 fO fdO ["_law_source"] (spTold K)) (g_law_told : mg "_law_told" = some (.ref fO)) (k_law_told : PySem.W.keepIn K (.ref fO) = true) (b_law_told : Binds K fdO ["_law_source"] [])
    (G_law_same : FnOk P w K mg base CX0 1 fS fdS ["_law_found", "_law_due"] (spSame K)) (g_law_same : mg "_law_same" = some (.ref fS)) (k_law_same : PySem.W.keepIn K (.ref fS) = true) (b_law_same : Binds K fdS ["_law_found", "_law_due"] [])
    (G_words_of : FnOk P w K mg base (L2.CX P w) 20 fW fdW ["source"] (spWords K C)) (g_words_of : mg "words_of" = some (.ref fW)) (k_words_of : PySem.W.keepIn K (.ref fW) = true) (b_words_of : Binds K fdW ["source"] [])
    (g_len : mg "len" = none) :
    FnOk P w K mg base CX0 25 f fd ["_law_source", "_law_due", "_law_bad_here"] (spRight K) := by
  refine F.ok sc_law_right (fun vs H Q E h => ?_) (fun cdv A outer s H vs Q E hr h => ⟨_, PSs.nox
    (pss_cons (ps_if (pt_cmpR op_notN (pv 2) pe_non (nomark _)) (pss_one (ps_ret (pe_cmpR (op_eqD hr.units) (pe_call G_law_told (hr.mono (by decide)) rfl g_law_told k_law_told b_law_told .nil pass0 (pa_cons (pe_op op_addS (pe_op op_addS (pv 0) pe_str) (pe_ix ix_tup (pv 2) pe_int (fun _ _ => rfl))) pa_nil)) (pe_tup (pa_cons pe_non (pa_cons (pe_op op_add (pe_op op_add (pe_callB call_len_str (by rfl) g_len PySem.boot_len (pa_cons (pv 0) pa_nil)) pe_int) (pe_ix ix_tup (pv 2) pe_int (fun _ _ => rfl))) pa_nil))) (nomark _)))) pss_nil)
      (pss_cons (ps_asg (pe_call G_law_told (hr.mono (by decide)) rfl g_law_told k_law_told b_law_told .nil pass0 (pa_cons (pv 0) pa_nil)) (pg_tup rfl (pgs_cons (pg_name (i := 3) sc_law_right.nd rfl (Or.inl rfl)) (pgs_cons (pg_name (i := 4) sc_law_right.nd rfl (Or.inl rfl)) pgs_nil))))
      (pss_cons (ps_if (PW.pt (pw_or (pt_cmpR (op_neD hr.units) (pv 4) pe_str (nomark _)) (pw_or1 (pt_not (pt_val (pe_call G_law_same (hr.mono (by decide)) rfl g_law_same k_law_same b_law_same .nil pass0 (pa_cons (pv 3) (pa_cons (pv 1) pa_nil)))))))) (pss_one (ps_ret pe_bl)) pss_nil)
      (pss_cons (ps_expr (pe_bm PySem.F.plainAttrs_list PySem.F.slot_list_append PySem.F.type_list_append mt_append (pv 3) (pa_cons (pe_slice sl_list (pv 3) po_none (po_some pe_int)) pa_nil)))
      (pss_one (ps_ret (pe_call G_law_same (hr.mono (by decide)) rfl g_law_same k_law_same b_law_same .nil pass0 (pa_cons (pe_call G_words_of (hr.mono (by decide)) rfl g_words_of k_words_of b_words_of .nil passNo (pa_cons (pv 0) pa_nil)) (pa_cons (pv 1) pa_nil))))))))), ?_⟩)
  · obtain ⟨src, d, v, ys, ws, rfl, _⟩ := h
    rfl
  · obtain ⟨src, d, v, ys, ws, rfl, hD, dD, hG, ⟨rfl, hw, hs, hnd⟩ | ⟨p, t, i, rfl, hp, hw, hs, hnd⟩, q⟩ := h
    · have lD := dpAll_length dD
      refine ⟨_, rfl, rfl, _, rfl, iteB (by decide) ?_⟩
      refine ⟨_, rfl, _, rfl, .inl ⟨_, rfl, hs, fun _ => hnd, fun ws' hws L qq H1 H2 R e2 nq hq => ?_, fun n hn => by rw [hw] at hn; cases hn⟩⟩
      rw [hw] at hws
      cases hws
      refine ⟨qq, _, rfl, SqT.of hq, rfl, _, _, rfl, _, _, rfl, rfl, ?_⟩
      obtain ⟨us, D, hL, hDp, k⟩ := R.at_
      have hL2 : H2 L = some (.lst us) := e2 _ _ hL
      have dU : DpAll K H2 us (ws.map dW) := dp_monoAll (fun a o z => e2 _ _ (k a o z).1) _ _ hDp
      have s12 : Same H H2 := R.old.trans e2
      dsimp only [tSeq, tNext]
      refine if_ev (H0 := H2) (b := (!PyData.eqv (.str (Str.ofString "read")) (.str (Str.ofString "read")) || !true)) (evt_or (evt_test fun H' Q hs k => ⟨_, rfl, .str (Str.ofString "read"), .str (Str.ofString "read"), .str _, .str _, by decide +kernel, by decide +kernel, k H' hs⟩) fun _ => evt_not (evt_b fun H' Q hs k => ⟨_, rfl, _, rfl, L, d, us, ys, ws, rfl, hs _ _ hL2, hs _ _ (s12 _ _ hD), dp_monoAll hs _ _ dU, dp_monoAll (s12.trans hs) _ _ dD, hG, fun H'' hs' => k H'' (hs.trans hs')⟩)) (Same.refl H2) (fun hx => by rw [show PyData.eqv (.str (Str.ofString "read")) (.str (Str.ofString "read")) = true from by decide +kernel] at hx; cases hx) (fun _ H3 s3 => ?_)
      dsimp only [tSeq, tNext]
      have hL3 : H3 L = some (.lst us) := s3 _ _ hL2
      refine ⟨_, rfl, .inl ⟨rfl, us, SqL.of hL3⟩, ?_⟩
      refine ⟨_, rfl, _, rfl, L, us, rfl, SqL.of hL3, fun l nl => ?_⟩
      have s4 := same_upd (o := HO.lst (cutV us none (some 1))) nl
      have hus : us.length ≤ 100000 := by
        have e1 : us.length = ws.length := by rw [dpAll_length hDp, List.length_map]
        have := Tok.words_le hw
        have := source_len hs
        omega
      refine ⟨L, us, .ref l, rfl, rfl, s4 _ _ hL3, Nat.lt_of_le_of_lt hus (by decide), ?_⟩
      have sH3 : Same H H3 := s12.trans s3
      have sH5 : Same H (upd (upd H3 l (.lst (cutV us none (some 1)))) L (.lst (us ++ [.ref l]))) := same_free (sH3.trans s4) R.new
      refine ⟨_, rfl, _, rfl, .inl ⟨_, rfl, hs, fun _ => hnd, fun ws' hws L2 H6 R2 => ?_, fun n hn => by rw [hw] at hn; cases hn⟩⟩
      rw [hw] at hws
      cases hws
      obtain ⟨us2, D2, hL6, hDp2, k2⟩ := R2.at_
      have sH6 : Same H H6 := sH5.trans R2.old
      exact ⟨_, rfl, L2, d, us2, ys, ws, rfl, hL6, sH6 _ _ hD, dp_monoAll (fun a o z => (k2 a o z).1) _ _ hDp2, dp_monoAll sH6 _ _ dD, hG, fun H7 _ => q H7⟩
    · have hsl := source_len hs
      rw [List.length_append, List.length_cons] at hsl
      have l32 : (Str.ofString " ").length = 1 := by decide +kernel
      have el : src.length = (codesOf src).length := rfl
      have et : t.length = (codesOf t).length := rfl
      have ec : codesOf ((src ++ Str.ofString " ") ++ t) = codesOf src ++ 32 :: codesOf t := by rw [codes_app, codes_app, c32]; simp
      have sz1 : src.length + (Str.ofString " ").length ≤ sizeLine := by rw [l32, el]; exact Nat.le_trans (show _ ≤ 3000 by omega) (by decide)
      have sz2 : (src ++ Str.ofString " ").length + t.length ≤ sizeLine := by
        have : (src ++ Str.ofString " ").length = (codesOf src).length + 1 := by rw [len_codes, codes_app, List.length_append, c32]; rfl
        rw [this, et]; exact Nat.le_trans (show _ ≤ 3000 by omega) (by decide)
      refine ⟨_, rfl, rfl, _, rfl, iteA (by simp) ?_⟩
      refine ⟨_, rfl, _, _, rfl, rfl, sz1, _, rfl, _, _, _, _, rfl, rfl, SqT.of hp, rfl, _, _, rfl, rfl, sz2, _, rfl, .inl ⟨_, rfl, ?src, ?nd, ?ok, ?er⟩⟩
      case src => rw [ec]; exact hs
      case nd => rw [ec]; exact fun _ => hnd
      case ok =>
        intro ws' hws
        rw [ec, hw] at hws
        cases hws
      intro n hn qq H1 s1 nq hq
      rw [ec, hw] at hn
      cases hn
      have hsz : src.length ≤ sizeLine := by rw [el]; exact Nat.le_trans (show _ ≤ 3000 by omega) (by decide)
      refine ⟨_, rfl, _, rfl, hsz, _, _, rfl, rfl, _, rfl, _, _, _, _, rfl, rfl, SqT.of (s1 _ _ hp), rfl, _, _, rfl, rfl, (by show 2 ≤ sizeLine; decide), fun r nr => ?_⟩
      have en : ((src.length : Int) + 1 + (i : Int)) = (((codesOf src).length + 1 + i : Nat) : Int) := by rw [el]; omega
      have sr := same_upd (o := HO.tup [.non, .int ((src.length : Int) + 1 + (i : Int))]) nr
      have sh : SeqAt.shaped (.tuple [.none, .int (((codesOf src).length + 1 + i : Nat) : Int)]) = true := by
        unfold SeqAt.shaped
        rfl
      refine ⟨.tuple [.none, .int (((codesOf src).length + 1 + i : Nat) : Int)], .tuple [.none, .int (((codesOf src).length + 1 + i : Nat) : Int)], .tup (SqT.of (sr _ _ hq)) (.cons .non (.cons (.int _) .nil)), .tup (SqT.of upd_same) (.cons .non (.cons (by rw [← en]; exact .int _) .nil)), sh, sh, ?_⟩
      rw [SeqAt.eqv_refl _ (SeqAt.canLay_of_shaped sh)]
      exact q _
end
end My1

end
section
set_option Elab.async false
set_option linter.all false
set_option maxRecDepth 100000
set_option maxHeartbeats 2000000
namespace My1
open PySem PySem.Spec PyProof.Rows L2 My
/-! ### what stands while the law puts words together -/
structure LS (H0 H : Hp) (b : Option Addr) (dl : Addr) (G : Hp) (vs : List V) : Prop where
  h0 : Same H0 G
  g : Same G H
  nd : G dl = none
  d : H dl = some (.lst vs)
  nb : ∀ x, b = some x → G x = none ∧ x ≠ dl
theorem LS.went {H0 H H' : Hp} {b dl : Addr} {G : Hp} {vs : List V} {m : Nat} (L : LS H0 H (some b) dl G vs) (W : Went b m H H') : LS H0 H' (some b) dl G vs := by
  obtain ⟨n1, n2⟩ := L.nb b rfl
  refine ⟨L.h0, fun a o e => W.rest a o ?_ (L.g a o e), L.nd, W.rest _ _ (Ne.symm n2) L.d, L.nb⟩
  intro z
  rw [z, n1] at e
  cases e
theorem LS.same {H0 H H' : Hp} {b : Option Addr} {dl : Addr} {G : Hp} {vs : List V} (L : LS H0 H b dl G vs) (s : Same H H') : LS H0 H' b dl G vs := ⟨L.h0, L.g.trans s, L.nd, s _ _ L.d, L.nb⟩
theorem LS.add {H0 H : Hp} {b : Option Addr} {dl : Addr} {G : Hp} {vs : List V} (L : LS H0 H b dl G vs) {p : Addr} {o : HO} (hp : H p = some o) (n1 : p ≠ dl) (n2 : ∀ x, b = some x → p ≠ x) : LS H0 H b dl (upd G p o) vs ∧ Same G (upd G p o) := by
  have sg : Same G (upd G p o) := fun a u e => by
    by_cases c : a = p
    · subst c
      have := L.g _ _ e
      rw [hp] at this
      cases this
      exact upd_same
    · rw [upd_ne c]; exact e
  refine ⟨⟨L.h0.trans sg, fun a u e => ?_, by rw [upd_ne (Ne.symm n1)]; exact L.nd, L.d, fun x hx => ⟨by rw [upd_ne (Ne.symm (n2 x hx))]; exact (L.nb x hx).1, (L.nb x hx).2⟩⟩, sg⟩
  by_cases c : a = p
  · subst c
    rw [upd_same] at e
    cases e
    exact hp
  · rw [upd_ne c] at e
    exact L.g _ _ e
theorem LS.app {H0 H : Hp} {b : Option Addr} {dl : Addr} {G : Hp} {vs : List V} (L : LS H0 H b dl G vs) (us : List V) : LS H0 (upd H dl (.lst us)) b dl G us :=
  ⟨L.h0, fun a o e => by rw [upd_ne (fun z => by rw [z, L.nd] at e; cases e)]; exact L.g a o e, L.nd, upd_same, L.nb⟩
theorem LS.withBag {H0 H H' : Hp} {dl : Addr} {G : Hp} {vs : List V} {b : Addr} {x : Option Addr} (L : LS H0 H x dl G vs) (s : Same H H') (nb : H b = none) : LS H0 H' (some b) dl G vs :=
  ⟨L.h0, L.g.trans s, L.nd, s _ _ L.d, fun y hy => by
    cases hy
    exact ⟨L.g.free nb, fun z => by rw [z, L.d] at nb; cases nb⟩⟩
theorem LS.noBag {H0 H : Hp} {dl : Addr} {G : Hp} {vs : List V} {x : Option Addr} (L : LS H0 H x dl G vs) : LS H0 H none dl G vs := ⟨L.h0, L.g, L.nd, L.d, fun y hy => by cases hy⟩
/-- what is told of the law's variables -/
structure LI (K : PySem.W.Frag) (G : Hp) (vs : List V) (ol : Addr) (lv : V) (src : Str) (ahead : Bool) (n : Nat) (due : List Tok.W) (par : List Bool) (last : Option (Tok.Cl × Bool)) : Prop where
  st : Tok.Stt (codesOf src) due par last
  dp : DpAll K G vs (due.map dW)
  op : G ol = some (.lst ((Tok.opens par).map V.bl))
  la : LastV K G lv last
  ah : ∀ c b, last = some (c, b) → b = ahead
  gd : ∀ x ∈ due, GoodW x
  dn : due.length ≤ n
  pn : par.length ≤ n
theorem LI.mono {K : PySem.W.Frag} {G G' : Hp} {vs : List V} {ol : Addr} {lv : V} {src : Str} {ahead : Bool} {n : Nat} {due : List Tok.W} {par : List Bool} {last : Option (Tok.Cl × Bool)} (h : LI K G vs ol lv src ahead n due par last) (s : Same G G') : LI K G' vs ol lv src ahead n due par last :=
  ⟨h.st, dp_monoAll s _ _ h.dp, s _ _ h.op, h.la.mono s, h.ah, h.gd, h.dn, h.pn⟩
theorem LI.up {K : PySem.W.Frag} {G : Hp} {vs : List V} {ol : Addr} {lv : V} {src : Str} {ahead : Bool} {n n' : Nat} {due : List Tok.W} {par : List Bool} {last : Option (Tok.Cl × Bool)} (h : LI K G vs ol lv src ahead n due par last) (hn : n ≤ n') : LI K G vs ol lv src ahead n' due par last :=
  ⟨h.st, h.dp, h.op, h.la, h.ah, h.gd, Nat.le_trans h.dn hn, Nat.le_trans h.pn hn⟩
theorem dbl_okc : ∀ {u : List Nat}, (Tok.dbl u).all Tok.okc = true → u.all Tok.okc = true
  | [], _ => rfl
  | c :: u, h => by
    rw [Tok.dbl] at h
    split at h
    · rename_i hc
      simp only [List.all_cons, Bool.and_eq_true] at h
      rw [List.all_cons, dbl_okc h.2.2, hc]; rfl
    · simp only [List.all_cons, Bool.and_eq_true] at h
      rw [List.all_cons, dbl_okc h.2, h.1]; rfl
theorem v_okc {c : Tok.Cl} (h : c.t.all Tok.okc = true) : ∀ l, c.v = .s l → l.all Tok.okc = true := by
  have quo : ∀ u, (Tok.quote u).all Tok.okc = true → u.all Tok.okc = true := fun u h => by
    unfold Tok.quote at h
    rw [List.all_cons, List.all_append, Bool.and_eq_true, Bool.and_eq_true] at h
    exact dbl_okc h.2.1
  have tl : ∀ {u : List Nat}, (35 :: u).all Tok.okc = true → u.all Tok.okc = true := fun h => by
    rw [List.all_cons, Bool.and_eq_true] at h
    exact h.2
  intro l e
  cases c with
  | name t => cases e; exact h
  | keyword n => cases e; exact h
  | int d => cases e
  | neg d => cases e
  | str u => cases e; exact quo _ h
  | symS u => cases e; exact quo _ (tl h)
  | symN n => cases e; exact tl h
  | symK ns => cases e; exact tl h
  | symO o => cases e; exact tl h
  | op o => cases e; exact h
  | sign o => cases e; exact h
theorem good_w {c : Tok.Cl} (h : c.t.all Tok.okc = true) (n : Nat) : GoodW (c.k, c.v, n) := by
  refine ⟨?_, by cases c <;> rfl⟩
  have hv : (dVal c.v).canLay0 = true := by
    cases e : c.v with
    | i m => rfl
    | s l =>
      show (My.strOf l).cps.all (fun x => decide (x < 0x110000)) = true
      rw [← Array.all_toList]
      show l.all (fun x => decide (x < 0x110000)) = true
      refine List.all_eq_true.mpr fun x hx => ?_
      have := List.all_eq_true.mp (v_okc h l e) x hx
      unfold Tok.okc at this
      simp at this ⊢
      omega
  unfold SeqAt.shaped
  have d1 : (dW (c.k, c.v, n)).depth ≤ 64 := by
    have : (dW (c.k, c.v, n)).depth ≤ 1 := by unfold dW; cases c.v <;> exact Nat.le_refl 1
    omega
  rw [decide_eq_true d1, Bool.and_true]
  generalize c.v = v at hv
  cases c.k <;> simp [dW, PyData.canLay0, PyData.canLayAll0, hv] <;> decide +kernel
theorem note_len (par : List Bool) (k : Tok.Kd) (v : Tok.Val) : (Tok.note par k v).length ≤ par.length + 1 := by
  unfold Tok.note
  split
  · simp
  · split
    · simp
    · split
      · simp; omega
      · omega
section
variable {P : Program} {w : World} {K : PySem.W.Frag} {mg : Str → Option Value} {base : Heap}

abbrev s_law : Stmt := top 59
def spLaw (K : PySem.W.Frag) : Sp := fun vs H Q _ => ∃ (a : Addr) (ns : List Int), vs = [.ref a] ∧ SqL K H a (ns.map V.int) ∧ ns.length ≤ 63 ∧ ∀ H', Q (.bl true) H'
theorem sc_law : FnScope ["_law_script", "_law_source", "_law_due", "_law_open_signs", "_law_last", "_law_ahead", "_law_k", "_law_bag_here", "_law_turn", "_law_negative_here", "_law_word", "_law_bad_here"] ["_law_script"] (defScope s_law) := ⟨rfl, rfl, rfl, by decide +kernel, rfl, by decide +kernel, by decide +kernel⟩
theorem ok_law {f fB fT fN fO fP fG fE fD fR : Addr} {fd fdB fdT fdN fdO fdP fdG fdE fdD fdR : FuncData} (F : FnP K "law" s_law f fd)
    (G_law_bag : FnOk P w K mg base CX0 2 fB fdB ["_law_script", "_law_k"] (spBag K)) (g_law_bag : mg "_law_bag" = some (.ref fB)) (k_law_bag : PySem.W.keepIn K (.ref fB) = true) (b_law_bag : Binds K fdB ["_law_script", "_law_k"] [])
    (G_law_take : FnOk P w K mg base CX0 2 fT fdT ["_law_bag_here", "_law_many"] spTake) (g_law_take : mg "_law_take" = some (.ref fT)) (k_law_take : PySem.W.keepIn K (.ref fT) = true) (b_law_take : Binds K fdT ["_law_bag_here", "_law_many"] [])
    (G_law_negative : FnOk P w K mg base CX0 1 fN fdN ["_law_open_signs", "_law_word"] (spNegative K)) (g_law_negative : mg "_law_negative" = some (.ref fN)) (k_law_negative : PySem.W.keepIn K (.ref fN) = true) (b_law_negative : Binds K fdN ["_law_open_signs", "_law_word"] [])
    (G_law_one : FnOk P w K mg base CX0 6 fO fdO ["_law_bag_here", "_law_negative_here"] (spOne K)) (g_law_one : mg "_law_one" = some (.ref fO)) (k_law_one : PySem.W.keepIn K (.ref fO) = true) (b_law_one : Binds K fdO ["_law_bag_here", "_law_negative_here"] [])
    (G_law_parts : FnOk P w K mg base CX0 1 fP fdP ["_law_first", "_law_last", "_law_negative_here"] (spParts K)) (g_law_parts : mg "_law_parts" = some (.ref fP)) (k_law_parts : PySem.W.keepIn K (.ref fP) = true) (b_law_parts : Binds K fdP ["_law_first", "_law_last", "_law_negative_here"] [])
    (G_law_gap : FnOk P w K mg base CX0 6 fG fdG ["_law_bag_here", "_law_parted"] spGap) (g_law_gap : mg "_law_gap" = some (.ref fG)) (k_law_gap : PySem.W.keepIn K (.ref fG) = true) (b_law_gap : Binds K fdG ["_law_bag_here", "_law_parted"] [])
    (G_law_opened : FnOk P w K mg base CX0 1 fE fdE ["_law_open_signs", "_law_word"] (spOpened K)) (g_law_opened : mg "_law_opened" = some (.ref fE)) (k_law_opened : PySem.W.keepIn K (.ref fE) = true) (b_law_opened : Binds K fdE ["_law_open_signs", "_law_word"] [])
    (G_law_bad : FnOk P w K mg base CX0 6 fD fdD ["_law_bag_here"] (spBad K)) (g_law_bad : mg "_law_bad" = some (.ref fD)) (k_law_bad : PySem.W.keepIn K (.ref fD) = true) (b_law_bad : Binds K fdD ["_law_bag_here"] [])
    (G_law_right : FnOk P w K mg base CX0 25 fR fdR ["_law_source", "_law_due", "_law_bad_here"] (spRight K)) (g_law_right : mg "_law_right" = some (.ref fR)) (k_law_right : PySem.W.keepIn K (.ref fR) = true) (b_law_right : Binds K fdR ["_law_source", "_law_due", "_law_bad_here"] [])
    (g_len : mg "len" = none) (g_max : mg "max" = none) (g_min : mg "min" = none) (g_range : mg "range" = none) :
    FnOk P w K mg base CX0 40 f fd ["_law_script"] (spLaw K) := by
  refine F.ok sc_law (fun vs H Q E h => ?_) (fun cdv A outer s H vs Q E hr h => ⟨_, PSs.nox
    (pss_cons (ps_asg (pe_tup (pa_cons pe_str (pa_cons (pe_lst pa_nil) (pa_cons (pe_lst pa_nil) (pa_cons pe_non (pa_cons pe_bl pa_nil)))))) (pg_tup rfl (pgs_cons (pg_name (i := 1) sc_law.nd rfl (Or.inl rfl)) (pgs_cons (pg_name (i := 2) sc_law.nd rfl (Or.inl rfl)) (pgs_cons (pg_name (i := 3) sc_law.nd rfl (Or.inl rfl)) (pgs_cons (pg_name (i := 4) sc_law.nd rfl (Or.inl rfl)) (pgs_cons (pg_name (i := 5) sc_law.nd rfl (Or.inl rfl)) pgs_nil)))))))
      (pss_cons (ps_for PassesOwn.never rfl (pi_range1 (by rfl) g_range (pa_cons (pe_callB (call_max2 rfl) (by rfl) g_max (by decide +kernel) (pa_cons pe_int (pa_cons (pe_callB (call_min2 rfl) (by rfl) g_min (by decide +kernel) (pa_cons (pe_callB call_len_seq (by rfl) g_len PySem.boot_len (pa_cons (pv 0) pa_nil)) (pa_cons pe_int pa_nil))) pa_nil))) pa_nil)) (pg_name (i := 6) sc_law.nd rfl (Or.inl rfl)) (pss_cons (ps_set (i := 7) sc_law.nd rfl (Or.inl rfl) (pe_call G_law_bag (hr.mono (by decide)) rfl g_law_bag k_law_bag b_law_bag .nil pass0 (pa_cons (pv 0) (pa_cons (pv 6) pa_nil))))
      (pss_one (ps_for PassesOwn.never rfl (pi_range1 (by rfl) g_range (pa_cons pe_int pa_nil)) (pg_name (i := 8) sc_law.nd rfl (Or.inl rfl)) (pss_cons (ps_if (pt_cmpR op_gt (pe_callB call_len_str (by rfl) g_len PySem.boot_len (pa_cons (pv 1) pa_nil)) pe_int (nomark _)) (pss_one ps_break) pss_nil)
      (pss_cons (ps_set (i := 9) sc_law.nd rfl (Or.inl rfl) (pe_call G_law_negative (hr.mono (by decide)) rfl g_law_negative k_law_negative b_law_negative .nil pass0 (pa_cons (pv 3) (pa_cons (pv 4) pa_nil))))
      (pss_cons (ps_set (i := 10) sc_law.nd rfl (Or.inl rfl) (pe_call G_law_one (hr.mono (by decide)) rfl g_law_one k_law_one b_law_one .nil pass0 (pa_cons (pv 7) (pa_cons (pv 9) pa_nil))))
      (pss_cons (ps_set (i := 1) sc_law.nd rfl (Or.inl rfl) (pe_op op_addS (pv 1) (pe_call G_law_gap (hr.mono (by decide)) rfl g_law_gap k_law_gap b_law_gap .nil pass0 (pa_cons (pv 7) (pa_cons (pe_and (pe_cmpR op_notN (pv 4) pe_non (nomark _)) (pe_one (pe_call G_law_parts (hr.mono (by decide)) rfl g_law_parts k_law_parts b_law_parts .nil pass0 (pa_cons (pv 4) (pa_cons (pv 10) (pa_cons (pv 5) pa_nil)))))) pa_nil)))))
      (pss_cons (ps_expr (pe_bm PySem.F.plainAttrs_list PySem.F.slot_list_append PySem.F.type_list_append mt_append (pv 2) (pa_cons (pe_tup (pa_cons (pe_ix ix_tup (pv 10) pe_int (fun _ _ => rfl)) (pa_cons (pe_ix ix_tup (pv 10) pe_int (fun _ _ => rfl)) (pa_cons (pe_callB call_len_str (by rfl) g_len PySem.boot_len (pa_cons (pv 1) pa_nil)) pa_nil)))) pa_nil)))
      (pss_cons (ps_set (i := 1) sc_law.nd rfl (Or.inl rfl) (pe_op op_addS (pv 1) (pe_ix ix_tup (pv 10) pe_int (fun _ _ => rfl))))
      (pss_cons (ps_set (i := 3) sc_law.nd rfl (Or.inl rfl) (pe_call G_law_opened (hr.mono (by decide)) rfl g_law_opened k_law_opened b_law_opened .nil pass0 (pa_cons (pv 3) (pa_cons (pv 10) pa_nil))))
      (pss_one (ps_par (i := 4) (j := 5) (by rfl) sc_law.nd rfl rfl (by decide) rfl rfl (pa_cons (pv 10) (pa_cons (pv 9) pa_nil)) (by rfl))))))))))))))
      (pss_cons (ps_set (i := 7) sc_law.nd rfl (Or.inl rfl) (pe_call G_law_bag (hr.mono (by decide)) rfl g_law_bag k_law_bag b_law_bag .nil pass0 (pa_cons (pv 0) (pa_cons pe_int pa_nil))))
      (pss_cons (ps_set (i := 11) sc_law.nd rfl (Or.inl rfl) (pe_ifExp (pt_cmpR op_eq (pe_call G_law_take (hr.mono (by decide)) rfl g_law_take k_law_take b_law_take .nil pass0 (pa_cons (pv 7) (pa_cons pe_int pa_nil))) pe_int (nomark _)) (pe_call G_law_bad (hr.mono (by decide)) rfl g_law_bad k_law_bad b_law_bad .nil pass0 (pa_cons (pv 7) pa_nil)) pe_non))
      (pss_one (ps_ret (pe_call G_law_right (hr.mono (by decide)) rfl g_law_right k_law_right b_law_right .nil pass0 (pa_cons (pv 1) (pa_cons (pv 2) (pa_cons (pv 11) pa_nil)))))))))), ?_⟩)
  · obtain ⟨a, ns, rfl, _⟩ := h
    rfl
  · obtain ⟨a, ns, rfl, hS, hn, q⟩ := h
    have hl : (ns.map V.int).length ≤ 63 := by rw [List.length_map]; exact hn
    refine ⟨Nat.zero_le _, fun dl ndl => ⟨Nat.zero_le _, fun ol nol => ⟨(by show 5 ≤ sizeLine; decide), fun tp ntp => ?_⟩⟩⟩
    refine ⟨tp, _, rfl, SqT.of upd_same, rfl, _, _, rfl, _, _, rfl, _, _, rfl, _, _, rfl, _, _, rfl, rfl, ?_⟩
    have n1 : ol ≠ dl := fun e => by rw [e, upd_same] at nol; cases nol
    have n2 : tp ≠ ol := fun e => by rw [e, upd_same] at ntp; cases ntp
    have n3 : tp ≠ dl := fun e => by rw [e, upd_ne (Ne.symm n1), upd_same] at ntp; cases ntp
    have hol0 : H ol = none := by rw [upd_ne n1] at nol; exact nol
    have L0 : LS H (upd (upd (upd H dl (.lst [])) ol (.lst [])) tp (.tup [.str (Str.ofString ""), .ref dl, .ref ol, .non, .bl true])) none dl (upd H ol (.lst [])) [] := by
      refine ⟨same_upd hol0, fun x o e => ?_, by rw [upd_ne (Ne.symm n1)]; exact ndl, by rw [upd_ne (Ne.symm n3), upd_ne (Ne.symm n1), upd_same], fun x hx => by cases hx⟩
      have hx : x ≠ tp := fun z => by
        rw [z] at e
        rw [upd_ne n2] at e
        have : (upd (upd H dl (.lst [])) ol (.lst [])) tp = some o := by rw [upd_ne n2, upd_ne n3]; exact e
        rw [this] at ntp
        cases ntp
      rw [upd_ne hx]
      by_cases c : x = ol
      · subst c; rw [upd_same] at e ⊢; exact e
      · rw [upd_ne c] at e ⊢
        rw [upd_ne (fun z => by rw [z, ndl] at e; cases e)]
        exact e
    have e0 : codesOf (Str.ofString "") = [] := by decide +kernel
    have I0 : LI K (upd H ol (.lst [])) [] ol .non (Str.ofString "") true 0 [] [] none := by
      refine ⟨by rw [e0]; exact Tok.stt_nil, .nil, upd_same, rfl, (fun c b e => by cases e), (fun x hx => by cases hx), Nat.le_refl _, Nat.le_refl _⟩
    generalize (upd (upd (upd H dl (.lst [])) ol (.lst [])) tp (.tup [.str (Str.ofString ""), .ref dl, .ref ol, .non, .bl true])) = H1 at L0 ⊢
    generalize (upd H ol (.lst [])) = G0 at L0 I0
    have sS : ∀ {H' : Hp} {bb : Option Addr} {G : Hp} {vs : List V}, LS H H' bb dl G vs → SqL K H' a (ns.map V.int) := fun L => SqL.mono (L.h0.trans L.g) hS
    refine ⟨_, rfl, _, _, rfl, .inl (sS L0), _, _, rfl, _, _, rfl, ?_⟩
    refine ⟨_, rfl, ?b1, ?b2, for_range (lo := 0) (fun k σ H' => ∃ (src : Str) (ol : Addr) (lv : V) (ahead : Bool) (x6 x7 x8 x9 x10 : Option V) (G : Hp) (vs : List V) (due : List Tok.W) (par : List Bool) (last : Option (Tok.Cl × Bool)),
      σ = [some (.ref a), some (.str src), some (.ref dl), some (.ref ol), some lv, some (.bl ahead), x6, x7, x8, x9, x10, none] ∧ LS H H' none dl G vs ∧ LI K G vs ol lv src ahead (12 * k) due par last ∧ (codesOf src).length ≤ 1800) ⟨_, ol, .non, true, none, none, none, none, none, G0, [], [], [], none, rfl, L0, I0, by rw [e0]; decide⟩ ?turn ?last⟩
    case b1 => split <;> split <;> omega
    case b2 => split <;> split <;> omega
    case turn =>
      rintro k σ H2 hk ⟨src, ol, lv, ahead, x6, x7, x8, x9, x10, G, vs, due, par, last, rfl, L, I, hsrc⟩
      have hk2 : k < 64 := by
        refine Nat.lt_of_lt_of_le hk ?_
        split <;> split <;> omega
      refine ⟨_, rfl, _, rfl, a, ns, k, by simp, sS L, by omega, by omega, fun H3 b x y z s3 nb hb hB => ?_⟩
      have L3 := L.withBag s3 nb
      refine ⟨_, rfl, by decide, by decide, for_range (lo := 0) (fun i σ H' => ∃ (src : Str) (ol : Addr) (lv : V) (ahead : Bool) (x8 x9 x10 : Option V) (G : Hp) (vs : List V) (due : List Tok.W) (par : List Bool) (last : Option (Tok.Cl × Bool)) (m : Nat),
        σ = [some (.ref a), some (.str src), some (.ref dl), some (.ref ol), some lv, some (.bl ahead), some (.int (0 + (k : Int))), some (.ref b), x8, x9, x10, none] ∧ LS H H' (some b) dl G vs ∧ LI K G vs ol lv src ahead (12 * k + i) due par last ∧ (codesOf src).length ≤ 1800 ∧ BagAt H' b m ∧ m ≤ 10000 + 400 * i) ⟨src, ol, lv, ahead, x8, x9, x10, G, vs, due, par, last, 10000, rfl, L3, I, hsrc, ⟨x, y, z, hb, hB⟩, by omega⟩ ?turn2 ?last2⟩
      case last2 =>
        rintro σ H4 ⟨src, ol, lv, ahead, x8, x9, x10, G, vs, due, par, last, m, rfl, L, I, hsrc, hb, hm⟩
        exact ⟨src, ol, lv, ahead, _, _, x8, x9, x10, G, vs, due, par, last, rfl, L.noBag, I.up (by show 12 * k + 12 ≤ 12 * (k + 1); omega), hsrc⟩
      case turn2 =>
        rintro i σ H4 hi ⟨src, ol, lv, ahead, x8, x9, x10, G, vs, due, par, last, m, rfl, L, I, hsrc, hb, hm⟩
        have hi : i < 12 := hi
        have hsz : src.length ≤ sizeLine := by rw [len_codes]; exact Nat.le_trans hsrc (by decide)
        refine ⟨_, rfl, _, rfl, hsz, _, _, rfl, rfl, _, rfl, ite2 (fun hx => ?_) (fun hx => ?_)⟩
        · exact ⟨src, ol, lv, ahead, _, _, _, x9, x10, G, vs, due, par, last, rfl, L.noBag, I.up (by omega), hsrc⟩
        have h1400 : (codesOf src).length ≤ 1400 := by
          have hx : ¬ (1400 : Int) < src.length := fun z => hx (decide_eq_true z)
          have e : src.length = (codesOf src).length := rfl
          omega
        refine ⟨_, rfl, _, rfl, ol, lv, last, par, rfl, L.g _ _ I.op, I.la.mono L.g, fun H5 s5 => ?_⟩
        have L5 := L.same s5
        have hb5 : BagAt H5 b m := by obtain ⟨x, y, z, h1, h2⟩ := hb; exact ⟨x, y, z, s5 _ _ h1, h2⟩
        generalize hneg : Tok.binds par (Tok.kv last) = neg
        refine ⟨_, rfl, _, rfl, b, m, neg, rfl, hb5, by omega, fun p c m6 H6 hc hm6 W6 np hp => ?_⟩
        have pdl : p ≠ dl := fun e => by rw [e, L5.d] at np; cases np
        have pb : p ≠ b := bag_ne hb5 np
        obtain ⟨L6, sg6⟩ := (L5.went W6).add hp pdl (fun x hx => by cases hx; exact pb)
        have I6 := I.mono sg6
        have hG6 : (upd G p (.tup (wTup c))) p = some (.tup (wTup c)) := upd_same
        generalize upd G p (.tup (wTup c)) = G6 at L6 sg6 I6 hG6
        have key : ∀ (R : VK), (∀ H7 parted, Same H6 H7 → (parted = false → ∀ l b', last = some (l, b') → Tok.parts l.k l.t c.k c.t b' = false) → R (.bl parted) H7) →
            tAndV (tOp (fun x y H Q => y = .non ∧ Q (.bl (!decide (x = .non))) H) (tVar 4) (tC .non)) (tCall (spParts K) [] E0 (tCons (tVar 4) (tCons (tVar 10) (tCons (tVar 5) tNil))))
              [some (.ref a), some (.str src), some (.ref dl), some (.ref ol), some lv, some (.bl ahead), some (.int (0 + (k : Int))), some (.ref b), some (.int (0 + (i : Int))), some (.bl neg), some (.ref p), none] H6 R := by
          intro R hR
          cases hlast : last with
          | none =>
            have hv := I6.la
            rw [hlast] at hv
            have hv : lv = .non := hv
            subst hv
            exact ⟨_, rfl, rfl, _, rfl, iteB (by decide) (hR H6 false (Same.refl _) fun _ l b' e => by rw [hlast] at e; cases e)⟩
          | some x =>
            obtain ⟨l, b'⟩ := x
            have hv := I6.la
            rw [hlast] at hv
            obtain ⟨hW, pl, rfl, hT⟩ := hv
            have hah := I6.ah l b' hlast
            subst hah
            refine ⟨_, rfl, rfl, _, rfl, iteA (by simp) ⟨_, rfl, _, rfl, _, rfl, pl, p, l, c, b', neg, rfl, SqT.mono L6.g hT, SqT.of hp, hW, hc, fun H7 s7 => ?_⟩⟩
            refine hR H7 _ s7 fun hpf l2 b2 e2 => ?_
            rw [hlast] at e2
            cases e2
            exact hpf
        refine ⟨_, rfl, _, rfl, key _ fun H7 parted s7 hpar => ?_⟩
        have hb7 : BagAt H7 b m6 := by obtain ⟨x, y, z, h1, h2⟩ := W6.bag; exact ⟨x, y, z, s7 _ _ h1, h2⟩
        refine ⟨b, m6, parted, rfl, hb7, by omega, fun z m8 H8 hz hne hm8 W8 => ?_⟩
        have L8 := (L6.same s7).went W8
        have hzl := hz.le
        have ez : (src ++ z).length = (codesOf src).length + (codesOf z).length := by rw [len_codes, codes_app, List.length_append]
        have hsz8 : (src ++ z).length ≤ sizeLine := by rw [ez]; exact Nat.le_trans (show _ ≤ 3000 by omega) (by decide)
        have hsz8' : src.length + z.length ≤ sizeLine := by rw [len_codes, len_codes]; exact Nat.le_trans (show _ ≤ 3000 by omega) (by decide)
        refine ⟨_, _, rfl, rfl, hsz8', ?_⟩
        have hTp : ∀ {H' : Hp}, Same G6 H' → SqT K H' p (wTup c) := fun s => SqT.of (s _ _ hG6)
        refine ⟨_, rfl, .inl ⟨rfl, vs, SqL.of L8.d⟩, ?_⟩
        refine ⟨_, rfl, _, _, _, _, rfl, rfl, hTp L8.g, rfl, _, rfl, _, _, _, _, rfl, rfl, hTp L8.g, rfl, _, rfl, _, rfl, hsz8, (by show 3 ≤ sizeLine; decide), fun t nt => ?_⟩
        have tdl : t ≠ dl := fun e => by rw [e, L8.d] at nt; cases nt
        have tb : t ≠ b := bag_ne W8.bag nt
        have hvl : vs.length = due.length := by rw [dpAll_length I6.dp, List.length_map]
        have hdn := I6.dn
        have hpn := I6.pn
        refine ⟨dl, vs, .ref t, rfl, rfl, by rw [upd_ne (Ne.symm tdl)]; exact L8.d, Nat.lt_of_le_of_lt (show vs.length ≤ 1000 by omega) (by decide), ?_⟩
        obtain ⟨L9, sg9⟩ := (L8.same (same_upd nt)).add upd_same tdl (fun x hx => by cases hx; exact tb)
        have I9 := I6.mono sg9
        have L10 := L9.app (vs ++ [.ref t])
        have hG9 : (upd G6 t (.tup [.str (kdS c.k), valV c.v, .int ((src ++ z).length : Int)])) t = some (.tup [.str (kdS c.k), valV c.v, .int ((src ++ z).length : Int)]) := upd_same
        have hG9p := sg9 _ _ hG6
        generalize upd G6 t (.tup [.str (kdS c.k), valV c.v, .int ((src ++ z).length : Int)]) = G9 at L9 L10 sg9 I9 hG9 hG9p
        have bdl := (L8.nb b rfl).2
        have hb10 : BagAt (upd (upd H8 t (.tup [.str (kdS c.k), valV c.v, .int ((src ++ z).length : Int)])) dl (.lst (vs ++ [.ref t]))) b m8 := by
          obtain ⟨x, y, z, h1, h2⟩ := W8.bag
          exact ⟨x, y, z, by rw [upd_ne bdl, upd_ne (Ne.symm tb)]; exact h1, h2⟩
        generalize upd (upd H8 t (.tup [.str (kdS c.k), valV c.v, .int ((src ++ z).length : Int)])) dl (.lst (vs ++ [.ref t])) = H10 at L10 hb10 ⊢
        have hcl := hc.le
        have hsz9 : (src ++ z).length + (My.strOf c.t).length ≤ sizeLine := by rw [ez]; exact Nat.le_trans (show _ + c.t.length ≤ 3000 by omega) (by decide)
        refine ⟨_, rfl, _, rfl, _, _, _, _, rfl, rfl, SqT.of (L10.g _ _ hG9p), rfl, _, _, rfl, rfl, hsz9, ?_⟩
        refine ⟨_, rfl, _, rfl, ol, p, c, par, rfl, L10.g _ _ I9.op, by omega, SqT.of (L10.g _ _ hG9p), fun ol' H11 s11 hol => ?_⟩
        have L11 := L10.same s11
        have odl : ol' ≠ dl := fun e => by
          rw [e, L11.d] at hol
          injection hol with hol
          injection hol with hol
          have : V.ref t ∈ (Tok.opens (Tok.note par c.k c.v)).map V.bl := by rw [← hol]; simp
          obtain ⟨_, _, h⟩ := List.mem_map.mp this
          cases h
        have hb11 : ∃ m', BagAt H11 b m' ∧ m' ≤ 10000 + 400 * (i + 1) := by
          obtain ⟨x, y, z, h1, h2⟩ := hb10
          exact ⟨m8, ⟨x, y, z, s11 _ _ h1, h2⟩, by omega⟩
        have ob : ol' ≠ b := fun e => by
          obtain ⟨m', ⟨x, y, z, h1, _⟩, _⟩ := hb11
          rw [e, h1] at hol
          injection hol with hol
          injection hol with hol
          have : V.int x ∈ (Tok.opens (Tok.note par c.k c.v)).map V.bl := by rw [← hol]; simp
          obtain ⟨_, _, h⟩ := List.mem_map.mp this
          cases h
        obtain ⟨L12, sg12⟩ := L11.add hol odl (fun x hx => by cases hx; exact ob)
        have hG12o : (upd G9 ol' (.lst ((Tok.opens (Tok.note par c.k c.v)).map V.bl))) ol' = some (.lst ((Tok.opens (Tok.note par c.k c.v)).map V.bl)) := upd_same
        generalize upd G9 ol' (.lst ((Tok.opens (Tok.note par c.k c.v)).map V.bl)) = G12 at L12 sg12 hG12o
        refine ⟨_, rfl, _, rfl, _, _, rfl, ?_⟩
        obtain ⟨m', hb12, hm'⟩ := hb11
        have hstep := I.st.step (g := codesOf z) (c := c) (b := neg) hz hc.ok hneg (fun hg l b' e => hpar (by cases h : parted with | false => rfl | true => exact absurd hg (hne h)) l b' e) hc.sg (by omega)
        refine ⟨(src ++ z) ++ My.strOf c.t, ol', .ref p, neg, _, _, _, G12, vs ++ [.ref t], due ++ [(c.k, c.v, (codesOf src ++ codesOf z).length)], Tok.note par c.k c.v, some (c, neg), m', rfl, L12, ⟨?st, ?dp, hG12o, ⟨hc, p, rfl, SqT.of (sg12 _ _ hG9p)⟩, fun c2 b2 e => (by cases e; rfl), ?gd, ?dn, ?pn⟩, ?ln, hb12, hm'⟩
        case st => rw [codes_app, codes_app]; exact hstep
        case dp =>
          rw [List.map_append]
          refine dpAll_append (dp_monoAll sg12 _ _ I9.dp) (.cons ?_ .nil)
          have en : (((codesOf src ++ codesOf z).length : Nat) : Int) = ((src ++ z).length : Int) := by rw [ez, List.length_append]
          unfold dW
          rw [en]
          exact .tup (SqT.of (sg12 _ _ hG9)) (.cons (.str _) (.cons (val_dp _) (.cons (.int _) .nil)))
        case gd =>
          intro x hx
          rcases List.mem_append.mp hx with h | h
          · exact I.gd x h
          · rw [List.mem_singleton.mp h]; exact good_w hc.sg _
        case dn => rw [List.length_append, List.length_singleton]; omega
        case pn => have := note_len par c.k c.v; omega
        case ln =>
          rw [codes_app, codes_app, List.length_append, List.length_append]
          show _ + c.t.length ≤ 1800
          omega
    case last =>
      rintro σ H2 ⟨src, ol, lv, ahead, x6, x7, x8, x9, x10, G, vs, due, par, last, rfl, L, I, hsrc⟩
      refine ⟨_, rfl, a, ns, 0, rfl, sS L, by omega, by omega, fun H3 b x y z s3 nb hb hB => ?_⟩
      have L3 := L.withBag s3 nb
      refine call_take rfl ⟨x, y, z, hb, hB⟩ (by omega) (by decide) (by decide) fun r H4 r0 r1 W4 => ?_
      have L4 := L3.went W4
      refine ⟨rfl, _, rfl, ite2 (fun hx => ?_) (fun hx => ?_)⟩
      · refine ⟨_, rfl, b, _, rfl, W4.bag, by omega, fun p t i m H5 hbad hm W5 np hp => ?_⟩
        have L5 := L4.went W5
        obtain ⟨b1, b2, b3⟩ := I.st.bad hbad
        have htl := hbad.le
        refine ⟨_, rfl, _, rfl, _, rfl, src, dl, .ref p, vs, due, rfl, L5.d, dp_monoAll L5.g _ _ I.dp, I.gd, .inr ⟨p, t, i, rfl, hp, b1, ?_, b2⟩, q⟩
        unfold Tok.isSource
        rw [Bool.and_eq_true]
        exact ⟨b3, decide_eq_true (by rw [List.length_append, List.length_cons]; omega)⟩
      · refine ⟨_, rfl, _, rfl, _, rfl, src, dl, .non, vs, due, rfl, L4.d, dp_monoAll L4.g _ _ I.dp, I.gd, .inl ⟨rfl, I.st.done, ?_, I.st.nd⟩, q⟩
        unfold Tok.isSource
        rw [Bool.and_eq_true]
        exact ⟨I.st.sg, decide_eq_true (by omega)⟩
end
end My1

end
section
set_option maxRecDepth 100000
set_option linter.all false
/-! The words of plainly written sources: how their chunks lie in the source. -/
namespace Tok
def isB (c : Nat) : Bool := c == 32 || c == 10
def isSp (c : Nat) : Bool := c == 40 || c == 41 || c == 91 || c == 93 || c == 46 || c == 59 || c == 94 || c == 124
def arrP : List Nat → List Nat
  | [] => []
  | [c] => [c]
  | c :: d :: l => if c = 35 ∧ d = 40 then 32 :: 64 :: 32 :: arrP l else c :: arrP (d :: l)
def padS : List Nat → List Nat
  | [] => []
  | c :: l => if isSp c = true then 32 :: c :: 32 :: padS l else c :: padS l
def asgP : List Nat → List Nat
  | [] => []
  | [c] => [c]
  | c :: d :: l => if c = 58 ∧ d = 61 then 32 :: 58 :: 61 :: 32 :: asgP l else c :: asgP (d :: l)
def pad (l : List Nat) : List Nat := asgP (padS (arrP l))
theorem arr_hit (l : List Nat) : arrP (35 :: 40 :: l) = 32 :: 64 :: 32 :: arrP l := by rw [arrP, if_pos ⟨rfl, rfl⟩]
theorem arr_miss {c : Nat} {l : List Nat} (h : ¬ (c = 35 ∧ l.head? = some 40)) : arrP (c :: l) = c :: arrP l := by
  cases l with
  | nil => rfl
  | cons d l => rw [arrP, if_neg fun z => h ⟨z.1, by rw [z.2]; rfl⟩]
theorem asg_hit (l : List Nat) : asgP (58 :: 61 :: l) = 32 :: 58 :: 61 :: 32 :: asgP l := by rw [asgP, if_pos ⟨rfl, rfl⟩]
theorem asg_miss {c : Nat} {l : List Nat} (h : ¬ (c = 58 ∧ l.head? = some 61)) : asgP (c :: l) = c :: asgP l := by
  cases l with
  | nil => rfl
  | cons d l => rw [asgP, if_neg fun z => h ⟨z.1, by rw [z.2]; rfl⟩]
theorem arr_c {c : Nat} {l : List Nat} (h : c ≠ 35) : arrP (c :: l) = c :: arrP l := arr_miss fun z => h z.1
theorem asg_c {c : Nat} {l : List Nat} (h : c ≠ 58) : asgP (c :: l) = c :: asgP l := asg_miss fun z => h z.1
theorem pS_c {c : Nat} {l : List Nat} (h : isSp c = false) : padS (c :: l) = c :: padS l := by rw [padS, if_neg (by rw [h]; exact Bool.false_ne_true)]
theorem arr_head (l : List Nat) : (arrP l).head? = l.head? ∨ (arrP l).head? = some 32 := by
  cases l with
  | nil => exact .inl rfl
  | cons c l =>
    by_cases h : c = 35 ∧ l.head? = some 40
    · obtain ⟨rfl, h⟩ := h
      cases l with
      | nil => cases h
      | cons d l =>
        cases h
        rw [arr_hit]
        exact .inr rfl
    · rw [arr_miss h]
      exact .inl rfl
theorem padS_head (l : List Nat) : (padS l).head? = l.head? ∨ (padS l).head? = some 32 := by
  cases l with
  | nil => exact .inl rfl
  | cons c l =>
    rw [padS]
    split
    · exact .inr rfl
    · exact .inl rfl
/-- what is put behind a sign that is none of the special ones -/
theorem pad_cons {c : Nat} {l : List Nat} (h1 : ¬ (c = 35 ∧ l.head? = some 40)) (h2 : isSp c = false) (h3 : ¬ (c = 58 ∧ l.head? = some 61)) : pad (c :: l) = c :: pad l := by
  unfold pad
  rw [arr_miss h1, padS, if_neg (by rw [h2]; exact Bool.false_ne_true), asg_miss]
  rintro ⟨rfl, h⟩
  rcases padS_head (arrP l) with e | e
  · rcases arr_head l with e2 | e2
    · exact h3 ⟨rfl, by rw [← e2, ← e]; exact h⟩
    · rw [e, e2] at h
      cases h
  · rw [e] at h
    cases h
theorem pad_sp {c : Nat} {l : List Nat} (h : isSp c = true) : pad (c :: l) = 32 :: c :: 32 :: pad l := by
  have n1 : c ≠ 35 := fun e => by subst e; cases h
  have n2 : c ≠ 58 := fun e => by subst e; cases h
  unfold pad
  rw [arr_c n1, padS, if_pos h, asg_c (by decide), asg_c n2, asg_c (by decide)]
theorem pad_arr (l : List Nat) : pad (35 :: 40 :: l) = 32 :: 64 :: 32 :: pad l := by
  unfold pad
  rw [arr_hit, pS_c (by rfl), pS_c (by rfl), pS_c (by rfl), asg_c (by decide), asg_c (by decide), asg_c (by decide)]
theorem pad_asg (l : List Nat) : pad (58 :: 61 :: l) = 32 :: 58 :: 61 :: 32 :: pad l := by
  unfold pad
  rw [arr_c (by decide), arr_c (by decide), pS_c (by rfl), pS_c (by rfl), asg_hit]
theorem pad_nil : pad [] = [] := rfl
/-- parted by blanks; cur: the chunk under way -/
def spl : List Nat → List Nat → List (List Nat)
  | cur, [] => if cur = [] then [] else [cur]
  | cur, c :: l => if isB c = true then (if cur = [] then spl [] l else cur :: spl [] l) else spl (cur ++ [c]) l
theorem spl_b {c : Nat} {l : List Nat} (h : isB c = true) : spl [] (c :: l) = spl [] l := by rw [spl, if_pos h, if_pos rfl]
theorem spl_bc {cur : List Nat} {c : Nat} {l : List Nat} (h : isB c = true) (hc : cur ≠ []) : spl cur (c :: l) = cur :: spl [] l := by rw [spl, if_pos h, if_neg hc]
theorem spl_c {cur : List Nat} {c : Nat} {l : List Nat} (h : isB c = false) : spl cur (c :: l) = spl (cur ++ [c]) l := by rw [spl, if_neg (by rw [h]; exact Bool.false_ne_true)]
/-- the source with a sign in the place of each string -/
def strip : Nat → List Nat → Option (List Nat × List (List Nat))
  | 0, _ => some ([], [])
  | _ + 1, [] => some ([], [])
  | f + 1, c :: l =>
    if c = 39 then (match strBody l.length l with
      | some (t, n) => (strip f (l.drop n)).map fun r => (32 :: 123 :: 32 :: r.1, t :: r.2)
      | none => none)
    else if c = 35 ∧ l.head? = some 39 then (match strBody (l.drop 1).length (l.drop 1) with
      | some (t, n) => (strip f ((l.drop 1).drop n)).map fun r => (32 :: 125 :: 32 :: r.1, t :: r.2)
      | none => none)
    else (strip f l).map fun r => (c :: r.1, r.2)
/-- what may follow a chunk directly -/
def stopH (x : Nat) : Bool := isB x || isSp x || x == 39 || x == 35 || x == 58
def StopL (l : List Nat) : Prop := l = [] ∨ ∃ x r, l = x :: r ∧ stopH x = true ∧ (x = 58 → r.head? = some 61)
def plainC (c : Nat) : Bool := !isB c && !isSp c && c != 39
/-- how chunks lie in a source; ts: what its strings stand for -/
inductive Sc : List Nat → List (List Nat) → List (List Nat) → Prop where
  | nil : Sc [] [] []
  | blank {c : Nat} {l : List Nat} {ts cs : List (List Nat)} (h : isB c = true) (s : Sc l ts cs) : Sc (c :: l) ts cs
  | sp {c : Nat} {l : List Nat} {ts cs : List (List Nat)} (h : isSp c = true) (s : Sc l ts cs) : Sc (c :: l) ts ([c] :: cs)
  | arr {l : List Nat} {ts cs : List (List Nat)} (s : Sc l ts cs) : Sc (35 :: 40 :: l) ts ([64] :: cs)
  | asg {l : List Nat} {ts cs : List (List Nat)} (s : Sc l ts cs) : Sc (58 :: 61 :: l) ts ([58, 61] :: cs)
  | str {l t : List Nat} {n : Nat} {ts cs : List (List Nat)} (h : strBody l.length l = some (t, n)) (s : Sc (l.drop n) ts cs) : Sc (39 :: l) (t :: ts) ([123] :: cs)
  | sym {l t : List Nat} {n : Nat} {ts cs : List (List Nat)} (h : strBody l.length l = some (t, n)) (s : Sc (l.drop n) ts cs) : Sc (35 :: 39 :: l) (t :: ts) ([125] :: cs)
  | word {w l : List Nat} {ts cs : List (List Nat)} (h : w ≠ []) (hp : w.all plainC = true) (hl : StopL l) (s : Sc l ts cs) : Sc (w ++ l) ts (w :: cs)
theorem strip_head {f : Nat} {l code : List Nat} {ts : List (List Nat)} (hf : l.length ≤ f) (h : strip f l = some (code, ts)) : code.head? = l.head? ∨ code.head? = some 32 := by
  cases f with
  | zero =>
    cases l with
    | nil => cases h; exact .inl rfl
    | cons c l => simp at hf
  | succ f =>
    cases l with
    | nil => cases h; exact .inl rfl
    | cons c l =>
      rw [strip] at h
      split at h
      · split at h
        · obtain ⟨r, _, e⟩ := Option.map_eq_some_iff.mp h
          cases e
          exact .inr rfl
        · cases h
      · split at h
        · split at h
          · obtain ⟨r, _, e⟩ := Option.map_eq_some_iff.mp h
            cases e
            exact .inr rfl
          · cases h
        · obtain ⟨r, _, e⟩ := Option.map_eq_some_iff.mp h
          cases e
          exact .inl rfl
/-- behind a chunk under way -/
def Mid (cur l : List Nat) (ts cs : List (List Nat)) : Prop := if cur = [] then Sc l ts cs else ∃ w l' cs', l = w ++ l' ∧ w.all plainC = true ∧ StopL l' ∧ cs = (cur ++ w) :: cs' ∧ Sc l' ts cs'
theorem mid_stop {cur l : List Nat} {ts cs X : List (List Nat)} (hs : StopL l) (hX : X = if cur = [] then cs else cur :: cs) (s : Sc l ts cs) : Mid cur l ts X := by
  unfold Mid
  by_cases h : cur = []
  · rw [if_pos h] at hX ⊢
    rw [hX]
    exact s
  · rw [if_neg h] at hX ⊢
    exact ⟨[], l, cs, rfl, rfl, hs, by rw [hX, List.append_nil], s⟩
theorem stop_cons {x : Nat} {r : List Nat} (h : stopH x = true) (h2 : x ≠ 58) : StopL (x :: r) := .inr ⟨x, r, rfl, h, fun e => absurd e h2⟩
theorem spl_one {cur : List Nat} {c : Nat} {X : List Nat} (hc : isB c = false) : spl cur (32 :: c :: 32 :: X) = if cur = [] then [c] :: spl [] X else cur :: [c] :: spl [] X := by
  by_cases h : cur = []
  · subst h
    rw [if_pos rfl, spl_b (by rfl), spl_c hc, spl_bc (by rfl) (by simp)]
    rfl
  · rw [if_neg h, spl_bc (by rfl) h, spl_c hc, spl_bc (by rfl) (by simp)]
    rfl
theorem chunks_lie : ∀ (f : Nat) (cur l code : List Nat) (ts : List (List Nat)), l.length ≤ f → strip f l = some (code, ts) → Mid cur l ts (spl cur (pad code))
  | 0, cur, l, code, ts, hf, h => by
    cases l with
    | cons c l => simp at hf
    | nil =>
      cases h
      exact mid_stop (.inl rfl) (by rw [pad_nil, spl]) .nil
  | f + 1, cur, [], code, ts, hf, h => by
    cases h
    exact mid_stop (.inl rfl) (by rw [pad_nil, spl]) .nil
  | f + 1, cur, c :: l, code, ts, hf, h => by
    have hl : l.length ≤ f := by simpa using hf
    rw [strip] at h
    by_cases h39 : c = 39
    · subst h39
      rw [if_pos rfl] at h
      cases e : strBody l.length l with
      | none => rw [e] at h; cases h
      | some tn =>
        obtain ⟨t, n⟩ := tn
        rw [e] at h
        obtain ⟨⟨code', ts'⟩, er, e2⟩ := Option.map_eq_some_iff.mp h
        cases e2
        have ih := chunks_lie f [] (l.drop n) code' ts' (by rw [List.length_drop]; omega) er
        have ih : Sc (l.drop n) ts' (spl [] (pad code')) := ih
        have ep : pad (32 :: 123 :: 32 :: code') = 32 :: 123 :: 32 :: pad code' := by
          rw [pad_cons (fun z => by cases z.1) (by rfl) (fun z => by cases z.1), pad_cons (fun z => by cases z.1) (by rfl) (fun z => by cases z.1), pad_cons (fun z => by cases z.1) (by rfl) (fun z => by cases z.1)]
        refine mid_stop (stop_cons (by rfl) (by decide)) ?_ (.str e ih)
        show spl cur (pad (32 :: 123 :: 32 :: code')) = _
        rw [ep, spl_one (by rfl)]
    · rw [if_neg h39] at h
      by_cases hsym : c = 35 ∧ l.head? = some 39
      · rw [if_pos hsym] at h
        obtain ⟨rfl, hh⟩ := hsym
        obtain ⟨l0, rfl⟩ : ∃ l0, l = 39 :: l0 := by
          cases l with
          | nil => cases hh
          | cons d l0 => cases hh; exact ⟨l0, rfl⟩
        have ed : (39 :: l0).drop 1 = l0 := rfl
        rw [ed] at h
        cases e : strBody l0.length l0 with
        | none => rw [e] at h; cases h
        | some tn =>
          obtain ⟨t, n⟩ := tn
          rw [e] at h
          obtain ⟨⟨code', ts'⟩, er, e2⟩ := Option.map_eq_some_iff.mp h
          cases e2
          have ih : Sc (l0.drop n) ts' (spl [] (pad code')) := chunks_lie f [] (l0.drop n) code' ts' (by rw [List.length_drop]; simp at hl; omega) er
          have ep : pad (32 :: 125 :: 32 :: code') = 32 :: 125 :: 32 :: pad code' := by
            rw [pad_cons (fun z => by cases z.1) (by rfl) (fun z => by cases z.1), pad_cons (fun z => by cases z.1) (by rfl) (fun z => by cases z.1), pad_cons (fun z => by cases z.1) (by rfl) (fun z => by cases z.1)]
          refine mid_stop (stop_cons (by rfl) (by decide)) ?_ (.sym e ih)
          show spl cur (pad (32 :: 125 :: 32 :: code')) = _
          rw [ep, spl_one (by rfl)]
      · rw [if_neg hsym] at h
        obtain ⟨⟨code', ts'⟩, er, e2⟩ := Option.map_eq_some_iff.mp h
        cases e2
        have hhd := strip_head hl er
        by_cases hb : isB c = true
        · have ih : Sc l ts' (spl [] (pad code')) := chunks_lie f [] l code' ts' hl er
          have n1 : c ≠ 35 := fun e => by subst e; cases hb
          have n2 : c ≠ 58 := fun e => by subst e; cases hb
          have n3 : isSp c = false := by
            unfold isB at hb
            rcases Bool.or_eq_true_iff.mp hb with e | e <;> · have e := eq_of_beq e; subst e; rfl
          refine mid_stop (stop_cons (by unfold stopH; rw [hb]; rfl) n2) ?_ (.blank hb ih)
          show spl cur (pad (c :: code')) = _
          rw [pad_cons (fun z => n1 z.1) n3 (fun z => n2 z.1)]
          by_cases hc : cur = []
          · subst hc
            rw [spl_b hb, if_pos rfl]
          · rw [spl_bc hb hc, if_neg hc]
        · have hb : isB c = false := by simpa using hb
          by_cases hs : isSp c = true
          · have ih : Sc l ts' (spl [] (pad code')) := chunks_lie f [] l code' ts' hl er
            have n2 : c ≠ 58 := fun e => by subst e; cases hs
            refine mid_stop (stop_cons (by unfold stopH; rw [hs]; simp) n2) ?_ (.sp hs ih)
            show spl cur (pad (c :: code')) = _
            rw [pad_sp hs, spl_one hb]
          · have hs : isSp c = false := by simpa using hs
            by_cases harr : c = 35 ∧ l.head? = some 40
            · obtain ⟨rfl, hh⟩ := harr
              obtain ⟨l0, rfl⟩ : ∃ l0, l = 40 :: l0 := by
                cases l with
                | nil => cases hh
                | cons d l0 => cases hh; exact ⟨l0, rfl⟩
              obtain ⟨f', rfl⟩ : ∃ f', f = f' + 1 := by
                cases f with
                | zero => simp at hl
                | succ f' => exact ⟨f', rfl⟩
              rw [strip, if_neg (by decide), if_neg (fun z => by cases z.1)] at er
              obtain ⟨⟨code2, ts2⟩, er2, e2⟩ := Option.map_eq_some_iff.mp er
              cases e2
              have ih : Sc l0 ts2 (spl [] (pad code2)) := chunks_lie f' [] l0 code2 ts2 (by simp at hl; omega) er2
              refine mid_stop (stop_cons (by rfl) (by decide)) ?_ (.arr ih)
              show spl cur (pad (35 :: 40 :: code2)) = _
              rw [pad_arr, spl_one (by rfl)]
            · by_cases hasg : c = 58 ∧ l.head? = some 61
              · obtain ⟨rfl, hh⟩ := hasg
                obtain ⟨l0, rfl⟩ : ∃ l0, l = 61 :: l0 := by
                  cases l with
                  | nil => cases hh
                  | cons d l0 => cases hh; exact ⟨l0, rfl⟩
                obtain ⟨f', rfl⟩ : ∃ f', f = f' + 1 := by
                  cases f with
                  | zero => simp at hl
                  | succ f' => exact ⟨f', rfl⟩
                rw [strip, if_neg (by decide), if_neg (fun z => by cases z.1)] at er
                obtain ⟨⟨code2, ts2⟩, er2, e2⟩ := Option.map_eq_some_iff.mp er
                cases e2
                have ih : Sc l0 ts2 (spl [] (pad code2)) := chunks_lie f' [] l0 code2 ts2 (by simp at hl; omega) er2
                refine mid_stop (.inr ⟨58, 61 :: l0, rfl, by rfl, fun _ => rfl⟩) ?_ (.asg ih)
                show spl cur (pad (58 :: 61 :: code2)) = _
                rw [pad_asg]
                by_cases hc : cur = []
                · subst hc
                  rw [if_pos rfl, spl_b (by rfl), spl_c (by rfl), spl_c (by rfl), spl_bc (by rfl) (by simp)]
                  rfl
                · rw [if_neg hc, spl_bc (by rfl) hc, spl_c (by rfl), spl_c (by rfl), spl_bc (by rfl) (by simp)]
                  rfl
              · -- a plain sign
                have k1 : ¬ (c = 35 ∧ code'.head? = some 40) := fun z => by
                  rcases hhd with e | e
                  · exact harr ⟨z.1, by rw [← e]; exact z.2⟩
                  · rw [e] at z; cases z.2
                have k2 : ¬ (c = 58 ∧ code'.head? = some 61) := fun z => by
                  rcases hhd with e | e
                  · exact hasg ⟨z.1, by rw [← e]; exact z.2⟩
                  · rw [e] at z; cases z.2
                have ih := chunks_lie f (cur ++ [c]) l code' ts' hl er
                unfold Mid at ih
                rw [if_neg (by simp)] at ih
                obtain ⟨w, l', cs', rfl, hw, hst, hcs, s⟩ := ih
                have hpc : plainC c = true := by
                  unfold plainC
                  rw [hb, hs]
                  simpa using h39
                have ecs : spl cur (pad (c :: code')) = (cur ++ c :: w) :: cs' := by
                  rw [pad_cons k1 hs k2, spl_c hb, hcs, List.append_assoc]
                  rfl
                show Mid cur (c :: (w ++ l')) ts' (spl cur (pad (c :: code')))
                rw [ecs]
                unfold Mid
                by_cases hc : cur = []
                · subst hc
                  rw [if_pos rfl]
                  exact .word (w := c :: w) (by simp) (by rw [List.all_cons, hpc, hw]; rfl) hst s
                · rw [if_neg hc]
                  exact ⟨c :: w, l', cs', rfl, by rw [List.all_cons, hpc, hw]; rfl, hst, rfl, s⟩
/-- the chunks of a whole source -/
theorem chunks_of {l code : List Nat} {ts : List (List Nat)} (h : strip l.length l = some (code, ts)) : Sc l ts (spl [] (pad code)) := chunks_lie l.length [] l code ts (Nat.le_refl _) h
end Tok

end
section
set_option maxRecDepth 100000
set_option linter.all false
/-! The words of plainly written sources: what the words are. -/
namespace Tok
def isId : List Nat → Bool
  | [] => false
  | c :: r => isAl c && r.all isAn
def stops : List Nat := [32, 10, 40, 41, 91, 93, 46, 59, 94, 124, 39, 35, 58]
theorem stop_mem {x : Nat} (h : stopH x = true) : x ∈ stops := by
  unfold stopH isB isSp at h
  simp only [Bool.or_eq_true, beq_iff_eq] at h
  unfold stops
  simp only [List.mem_cons, List.not_mem_nil, or_false]
  omega
theorem stop_head {l : List Nat} (h : StopL l) {x : Nat} (hx : l.head? = some x) : x ∈ stops := by
  rcases h with rfl | ⟨y, r, rfl, hy, _⟩
  · cases hx
  · cases hx
    exact stop_mem hy
theorem stop_an {l : List Nat} (h : StopL l) {x : Nat} (hx : l.head? = some x) : isAn x = false := (by decide : ∀ y ∈ stops, isAn y = false) x (stop_head h hx)
theorem stop_dg {l : List Nat} (h : StopL l) {x : Nat} (hx : l.head? = some x) : isDg x = false := (by decide : ∀ y ∈ stops, isDg y = false) x (stop_head h hx)
theorem stop_eq {l : List Nat} (h : StopL l) : l.head? ≠ some 61 := fun e => (by decide : (61 : Nat) ∉ stops) (stop_head h e)
theorem run_app {p : Nat → Bool} : ∀ {a l : List Nat}, a.all p = true → (∀ x, l.head? = some x → p x = false) → run p (a ++ l) = a.length
  | [], [], _, _ => rfl
  | [], x :: l, _, hl => by
    show run p (x :: l) = 0
    rw [run, if_neg (by rw [hl x rfl]; exact Bool.false_ne_true)]
  | c :: a, l, ha, hl => by
    rw [List.all_cons, Bool.and_eq_true] at ha
    show run p (c :: (a ++ l)) = a.length + 1
    rw [run, if_pos ha.1, run_app ha.2 hl]
theorem al_an {c : Nat} (h : isAl c = true) : isAn c = true := by unfold isAn; rw [h]; rfl
theorem id_all {a : List Nat} (h : isId a = true) : a.all isAn = true := by
  cases a with
  | nil => rfl
  | cons c r =>
    unfold isId at h
    rw [Bool.and_eq_true] at h
    rw [List.all_cons, al_an h.1, h.2]
    rfl
theorem id_cons {a : List Nat} (h : isId a = true) : ∃ c r, a = c :: r ∧ isAl c = true ∧ r.all isAn = true := by
  cases a with
  | nil => cases h
  | cons c r =>
    unfold isId at h
    rw [Bool.and_eq_true] at h
    exact ⟨c, r, rfl, h.1, h.2⟩
theorem id_len {a : List Nat} (h : isId a = true) : 0 < a.length := by
  obtain ⟨c, r, rfl, _⟩ := id_cons h
  simp
theorem nameLen_app {a l : List Nat} (ha : isId a = true) (h40 : a.length ≤ 40) (hl : ∀ x, l.head? = some x → isAn x = false) : nameLen (a ++ l) = a.length := by
  have hr := run_app (id_all ha) hl
  obtain ⟨c, r, rfl, h1, h2⟩ := id_cons ha
  show nameLen (c :: (r ++ l)) = _
  unfold nameLen
  have hr' : run isAn (c :: (r ++ l)) = (c :: r).length := hr
  simp only [hr']
  rw [if_pos h1, if_pos h40]
theorem nameLen_no {l : List Nat} (hl : ∀ x, l.head? = some x → isAl x = false) : nameLen l = 0 := by
  cases l with
  | nil => rfl
  | cons c r =>
    unfold nameLen
    simp only []
    rw [if_neg (by rw [hl c rfl]; exact Bool.false_ne_true)]
theorem keyLen_no {l : List Nat} (hl : ∀ x, l.head? = some x → isAl x = false) : keyLen l = 0 := by
  unfold keyLen
  rw [nameLen_no hl, if_neg (fun z => absurd z.1 (Nat.lt_irrefl 0))]
theorem drop_app (a l : List Nat) : (a ++ l).drop a.length = l := List.drop_left
theorem keyLen_stop {a l : List Nat} (ha : isId a = true) (h40 : a.length ≤ 40) (hl : StopL l) : keyLen (a ++ l) = 0 := by
  unfold keyLen
  rw [nameLen_app ha h40 fun x hx => stop_an hl hx, if_neg]
  rintro ⟨_, h2, h3⟩
  rw [drop_app] at h2
  rcases hl with rfl | ⟨x, r, rfl, hx, h58⟩
  · cases h2
  · cases h2
    refine h3 ?_
    rw [show a.length + 1 = (a ++ [58]).length by simp, show a ++ 58 :: r = (a ++ [58]) ++ r by simp, drop_app]
    exact h58 rfl
theorem keyLen_key {a l : List Nat} (ha : isId a = true) (h40 : a.length ≤ 40) (hl : l.head? ≠ some 61) : keyLen (a ++ 58 :: l) = a.length + 1 := by
  unfold keyLen
  rw [nameLen_app (l := 58 :: l) ha h40 fun x hx => by cases hx; rfl, if_pos]
  refine ⟨id_len ha, by rw [drop_app]; rfl, ?_⟩
  rw [show a.length + 1 = (a ++ [58]).length by simp, show a ++ 58 :: l = (a ++ [58]) ++ l by simp, drop_app]
  exact hl
theorem word_name {a l : List Nat} (b : Bool) (ha : isId a = true) (h40 : a.length ≤ 40) (hl : StopL l) : word b (a ++ l) = some (.name, .s a, a.length) := by
  have k := keyLen_stop ha h40 hl
  have n := nameLen_app ha h40 fun x hx => stop_an hl hx
  have z := id_len ha
  obtain ⟨c, r, rfl, h1, _⟩ := id_cons ha
  show word b (c :: (r ++ l)) = _
  have k : keyLen (c :: (r ++ l)) = 0 := k
  have n : nameLen (c :: (r ++ l)) = (c :: r).length := n
  unfold word
  simp only [k, n]
  rw [if_pos h1, if_neg (Nat.lt_irrefl 0), if_pos z]
  have e : (c :: (r ++ l)).take (c :: r).length = c :: r := List.take_left (l₁ := c :: r)
  rw [e]
theorem word_key {a l : List Nat} (b : Bool) (ha : isId a = true) (h40 : a.length ≤ 40) (hl : l.head? ≠ some 61) : word b (a ++ 58 :: l) = some (.keyword, .s (a ++ [58]), a.length + 1) := by
  have k := keyLen_key ha h40 hl
  obtain ⟨c, r, rfl, h1, _⟩ := id_cons ha
  show word b (c :: (r ++ 58 :: l)) = _
  have k : keyLen (c :: (r ++ 58 :: l)) = (c :: r).length + 1 := k
  unfold word
  simp only [k]
  rw [if_pos h1, if_pos (Nat.succ_pos _)]
  have e : (c :: (r ++ 58 :: l)).take ((c :: r).length + 1) = c :: r ++ [58] := by
    rw [show c :: (r ++ 58 :: l) = (c :: r ++ [58]) ++ l by simp, show (c :: r).length + 1 = (c :: r ++ [58]).length by simp]
    exact List.take_left
  rw [e]
theorem dg_al {c : Nat} (h : isDg c = true) : isAl c = false := by
  unfold isDg at h
  unfold isAl
  simp only [Bool.and_eq_true, decide_eq_true_eq] at h
  have h1 : ¬ 65 ≤ c := by omega
  have h2 : ¬ 97 ≤ c := by omega
  simp [h1, h2]
theorem word_int {a l : List Nat} (b : Bool) (hn : a ≠ []) (ha : a.all isDg = true) (h60 : a.length ≤ 60) (hl : StopL l) : word b (a ++ l) = some (.int, .i (num a), a.length) := by
  have hr := run_app ha fun x hx => stop_dg hl hx
  cases a with
  | nil => exact absurd rfl hn
  | cons c r =>
    rw [List.all_cons, Bool.and_eq_true] at ha
    show word b (c :: (r ++ l)) = _
    have hr : run isDg (c :: (r ++ l)) = (c :: r).length := hr
    unfold word
    simp only [hr]
    rw [if_neg (by rw [dg_al ha.1]; exact Bool.false_ne_true), if_pos ha.1, if_pos h60]
    have e : (c :: (r ++ l)).take (c :: r).length = c :: r := List.take_left (l₁ := c :: r)
    rw [e]
theorem word_minus {a l : List Nat} (hn : a ≠ []) (ha : a.all isDg = true) (h60 : a.length ≤ 60) (hl : StopL l) : word true (45 :: (a ++ l)) = some (.int, .i (-(num a : Int)), a.length + 1) := by
  have hr := run_app ha fun x hx => stop_dg hl hx
  have hz : 0 < a.length := by
    cases a with
    | nil => exact absurd rfl hn
    | cons c r => simp
  unfold word
  simp only [hr]
  rw [if_neg (by decide), if_neg (by decide), if_neg (by decide), if_neg (by decide), if_pos (by simp), if_pos ⟨hz, h60⟩]
  have e : (a ++ l).take a.length = a := List.take_left
  rw [e]
/-! ### listed ones -/
theorem listed_two (ws : List (List Nat)) (l : List Nat) : listed ws l = listed ws (l.take 2) := by
  unfold listed
  rw [List.take_take, List.take_take]
  rfl
theorem ops_end : ∀ w ∈ ops, listed ops w = w.length ∧ ∀ x ∈ stops, listed ops ((w ++ [x]).take 2) = w.length := by decide
theorem ops_ne : ∀ w ∈ ops, w ≠ [] := by decide
theorem take_two {w : List Nat} (hw : w ≠ []) (x : Nat) (r : List Nat) : (w ++ x :: r).take 2 = (w ++ [x]).take 2 := by
  cases w with
  | nil => exact absurd rfl hw
  | cons c w =>
    cases w with
    | nil => rfl
    | cons d w => rfl
theorem listed_op {w l : List Nat} (hw : w ∈ ops) (hl : StopL l) : listed ops (w ++ l) = w.length := by
  obtain ⟨h1, h2⟩ := ops_end w hw
  rcases hl with rfl | ⟨x, r, rfl, hx, _⟩
  · rw [List.append_nil]
    exact h1
  · rw [listed_two, take_two (ops_ne w hw)]
    exact h2 x (stop_mem hx)
theorem ops_first : ∀ w ∈ ops, ∀ c ∈ w.head?, isAl c = false ∧ isDg c = false ∧ c ≠ 39 ∧ c ≠ 35 ∧ (c = 45 → w = [45]) := by decide
theorem word_op {w l : List Nat} (b : Bool) (hw : w ∈ ops) (hl : StopL l) : word b (w ++ l) = some (.op, .s w, w.length) := by
  have ho : other (w ++ l) = some (.op, .s w, w.length) := by
    unfold other
    rw [listed_op hw hl, if_pos (List.length_pos_iff.mpr (ops_ne w hw)), List.take_left]
  have hf := ops_first w hw
  cases w with
  | nil => exact absurd rfl (ops_ne [] hw)
  | cons c w =>
    obtain ⟨h1, h2, h3, h4, h5⟩ := hf c rfl
    show word b (c :: (w ++ l)) = _
    have ho : other (c :: (w ++ l)) = some (.op, .s (c :: w), (c :: w).length) := ho
    unfold word
    simp only [ho]
    rw [if_neg (by rw [h1]; exact Bool.false_ne_true), if_neg (by rw [h2]; exact Bool.false_ne_true), if_neg h3, if_neg h4]
    split
    · rename_i h
      have hw1 := h5 h.1
      cases hw1
      have hr : run isDg ([] ++ l) = 0 := run_app (a := []) rfl fun x hx => stop_dg hl hx
      have hr : run isDg l = 0 := hr
      rw [List.nil_append, hr, if_neg (fun z => absurd z.1 (Nat.lt_irrefl 0))]
    · rfl
theorem head_take (l : List Nat) : (l.take 2).head? = l.head? := by
  cases l with
  | nil => rfl
  | cons c l => rfl
/-- a sign, whatever follows -/
theorem word_sp {c : Nat} (b : Bool) (l : List Nat) (h : isSp c = true) : word b (c :: l) = some (.sign, .s [c], 1) := by
  have hm : c ∈ [40, 41, 91, 93, 46, 59, 94, 124] := by
    unfold isSp at h
    simp only [Bool.or_eq_true, beq_iff_eq] at h
    simp only [List.mem_cons, List.not_mem_nil, or_false]
    omega
  have f := (by decide : ∀ c ∈ [40, 41, 91, 93, 46, 59, 94, 124], isAl c = false ∧ isDg c = false ∧ c ≠ 39 ∧ c ≠ 35 ∧ c ≠ 45 ∧ [c] ∉ ops ∧ [c] ∈ signs ∧ (∀ w ∈ ops, w.head? ≠ some c) ∧ ∀ w ∈ signs, w.head? = some c → w = [c]) c hm
  obtain ⟨h1, h2, h3, h4, h5, h6, h7, h8, h9⟩ := f
  have ho : listed ops (c :: l) = 0 := by
    unfold listed
    rw [if_neg (fun z => h8 _ z rfl), if_neg (fun z => h8 _ z rfl)]
  have hs : listed signs (c :: l) = 1 := by
    unfold listed
    split
    · rename_i z
      have := h9 _ z rfl
      rw [this]
      rfl
    · rw [if_pos (show (c :: l).take 1 ∈ signs from h7)]
      rfl
  have e : other (c :: l) = some (.sign, .s [c], 1) := by
    unfold other
    rw [ho, if_neg (Nat.lt_irrefl 0), hs, if_pos (Nat.lt_succ_self 0)]
    rfl
  unfold word
  simp only [e]
  rw [if_neg (by rw [h1]; exact Bool.false_ne_true), if_neg (by rw [h2]; exact Bool.false_ne_true), if_neg h3, if_neg h4, if_neg fun z => h5 z.1]
theorem word_asg (b : Bool) (l : List Nat) : word b (58 :: 61 :: l) = some (.sign, .s [58, 61], 2) := by
  have e : other (58 :: 61 :: l) = some (.sign, .s [58, 61], 2) := by
    have ho : listed ops (58 :: 61 :: l) = 0 := by rw [listed_two]; rfl
    have hs : listed signs (58 :: 61 :: l) = 2 := by rw [listed_two]; rfl
    unfold other
    rw [ho, hs]
    rfl
  unfold word
  simp only [e]
  rw [if_neg (by decide), if_neg (by decide), if_neg (by decide), if_neg (by decide), if_neg fun z => by cases z.1]
theorem word_arr (b : Bool) (l : List Nat) : word b (35 :: 40 :: l) = some (.sign, .s [35, 40], 2) := by
  have e : other (35 :: 40 :: l) = some (.sign, .s [35, 40], 2) := by
    have ho : listed ops (35 :: 40 :: l) = 0 := by rw [listed_two]; rfl
    have hs : listed signs (35 :: 40 :: l) = 2 := by rw [listed_two]; rfl
    unfold other
    rw [ho, hs]
    rfl
  have hn : ∀ x, (40 :: l : List Nat).head? = some x → isAl x = false := fun x hx => by cases hx; rfl
  have hk : keysLen (40 :: l : List Nat).length (40 :: l) = 0 := by
    show keysLen (l.length + 1) (40 :: l) = 0
    rw [keysLen, keyLen_no hn, if_neg (Nat.lt_irrefl 0)]
  have ho : listed ops (40 :: l) = 0 := by
    unfold listed
    rw [if_neg, if_neg]
    · exact fun z => (by decide : ∀ w ∈ ops, w.head? ≠ some 40) _ z rfl
    · exact fun z => (by decide : ∀ w ∈ ops, w.head? ≠ some 40) _ z rfl
  have hs : symbol (40 :: l) = none := by
    unfold symbol
    rw [if_neg (fun z => by cases z), hk, if_neg (Nat.lt_irrefl 0), nameLen_no hn, if_neg (Nat.lt_irrefl 0), ho, if_neg (Nat.lt_irrefl 0)]
  unfold word
  simp only [hs, e]
  rw [if_neg (by decide), if_neg (by decide), if_neg (by decide), if_pos (by simp)]
/-- a : that is none of := and of no keyword -/
theorem word_colon (b : Bool) {l : List Nat} (h : l.head? ≠ some 61) : word b (58 :: l) = some (.sign, .s [58], 1) := by
  have ho : listed ops (58 :: l) = 0 := by
    unfold listed
    rw [if_neg (fun z => (by decide : ∀ w ∈ ops, w.head? ≠ some 58) _ z rfl), if_neg (fun z => (by decide : ∀ w ∈ ops, w.head? ≠ some 58) _ z rfl)]
  have hs : listed signs (58 :: l) = 1 := by
    unfold listed
    split
    · rename_i z
      cases l with
      | nil => rfl
      | cons d l =>
        have : d = 61 := by
          have q := (by decide : ∀ w ∈ signs, w.head? = some 58 → w.length = 2 → w = [58, 61]) _ z rfl rfl
          injection q with _ q
          injection q
        exact absurd (by rw [this]; rfl) h
    · rfl
  have e : other (58 :: l) = some (.sign, .s [58], 1) := by
    unfold other
    rw [ho, if_neg (Nat.lt_irrefl 0), hs, if_pos (Nat.lt_succ_self 0)]
    rfl
  unfold word
  simp only [e]
  rw [if_neg (by decide), if_neg (by decide), if_neg (by decide), if_neg (by decide), if_neg fun z => by cases z.1]
/-! ### symbols -/
theorem word_hash {l : List Nat} (b : Bool) {v : Val} {n : Nat} (h : symbol l = some (v, n)) : word b (35 :: l) = some (.sym, v, n + 1) := by
  unfold word
  simp only [h]
  rw [if_neg (by decide), if_neg (by decide), if_neg (by decide), if_pos (by simp)]
theorem keysLen_zero {f : Nat} {l : List Nat} (h : keyLen l = 0) : keysLen f l = 0 := by
  cases f with
  | zero => rfl
  | succ f => rw [keysLen, h, if_neg (Nat.lt_irrefl 0)]
theorem al_q {c : Nat} (h : isAl c = true) : c ≠ 39 := fun e => by subst e; cases h
theorem sym_name {a l : List Nat} (ha : isId a = true) (h40 : a.length ≤ 40) (hl : StopL l) : symbol (a ++ l) = some (.s a, a.length) := by
  have k : keysLen (a ++ l).length (a ++ l) = 0 := keysLen_zero (keyLen_stop ha h40 hl)
  have n := nameLen_app ha h40 fun x hx => stop_an hl hx
  have hh : (a ++ l).head? ≠ some 39 := by
    obtain ⟨c, r, rfl, h1, _⟩ := id_cons ha
    intro e
    have e : some c = some 39 := e
    exact al_q h1 (Option.some.inj e)
  unfold symbol
  rw [if_neg hh, k, if_neg (Nat.lt_irrefl 0), n, if_pos (id_len ha), List.take_left]
theorem sym_op {w l : List Nat} (hw : w ∈ ops) (hl : StopL l) : symbol (w ++ l) = some (.s w, w.length) := by
  have f : ∀ x, (w ++ l).head? = some x → isAl x = false ∧ x ≠ 39 := fun x hx => by
    have hf := ops_first w hw
    cases w with
    | nil => exact absurd rfl (ops_ne [] hw)
    | cons c w =>
      have hc := hf x (by cases hx; rfl)
      exact ⟨hc.1, hc.2.2.1⟩
  have k : keysLen (w ++ l).length (w ++ l) = 0 := keysLen_zero (keyLen_no fun x hx => (f x hx).1)
  unfold symbol
  rw [if_neg (fun e => (f 39 e).2 rfl), k, if_neg (Nat.lt_irrefl 0), nameLen_no (fun x hx => (f x hx).1), if_neg (Nat.lt_irrefl 0), listed_op hw hl, if_pos (List.length_pos_iff.mpr (ops_ne w hw)), List.take_left]
/-- keywords, one directly behind the other -/
def keys : List (List Nat) → List Nat
  | [] => []
  | a :: r => a ++ 58 :: keys r
def okPart (a : List Nat) : Bool := isId a && decide (a.length ≤ 40)
theorem part_ok {a : List Nat} (h : okPart a = true) : isId a = true ∧ a.length ≤ 40 := by
  unfold okPart at h
  rw [Bool.and_eq_true] at h
  exact ⟨h.1, of_decide_eq_true h.2⟩
theorem keys_head {ps : List (List Nat)} {l : List Nat} (hp : ps.all okPart = true) (hl : StopL l) : (keys ps ++ l).head? ≠ some 61 := by
  cases ps with
  | nil => exact stop_eq hl
  | cons a r =>
    rw [List.all_cons, Bool.and_eq_true] at hp
    obtain ⟨h1, _⟩ := part_ok hp.1
    obtain ⟨c, q, rfl, h2, _⟩ := id_cons h1
    intro e
    have e : some c = some 61 := e
    cases e
    cases h2
theorem keysLen_keys : ∀ {ps : List (List Nat)} {l : List Nat} (f : Nat), ps.all okPart = true → StopL l → (keys ps).length ≤ f → keysLen f (keys ps ++ l) = (keys ps).length
  | [], l, f, _, hl, _ => keysLen_zero (keyLen_no fun x hx => by
      have := stop_an hl hx
      unfold isAn at this
      rw [Bool.or_eq_false_iff] at this
      exact this.1)
  | a :: r, l, f, hp, hl, hf => by
    have hp' := hp
    rw [List.all_cons, Bool.and_eq_true] at hp
    obtain ⟨h1, h2⟩ := part_ok hp.1
    have e : keys (a :: r) ++ l = a ++ 58 :: (keys r ++ l) := by show (a ++ 58 :: keys r) ++ l = _; simp
    have hln : (keys (a :: r)).length = a.length + 1 + (keys r).length := by show (a ++ 58 :: keys r).length = _; simp; omega
    cases f with
    | zero => omega
    | succ f =>
      rw [keysLen, e, keyLen_key h1 h2 (keys_head hp.2 hl), if_pos (Nat.succ_pos _)]
      rw [show a ++ 58 :: (keys r ++ l) = (a ++ [58]) ++ (keys r ++ l) by simp, show a.length + 1 = (a ++ [58]).length by simp, drop_app, keysLen_keys f hp.2 hl (by omega), hln]
      simp
theorem sym_keys {ps : List (List Nat)} {l : List Nat} (hn : ps ≠ []) (hp : ps.all okPart = true) (hl : StopL l) : symbol (keys ps ++ l) = some (.s (keys ps), (keys ps).length) := by
  have k := keysLen_keys (keys ps ++ l).length hp hl (by rw [List.length_append]; omega)
  have hz : 0 < (keys ps).length ∧ (keys ps ++ l).head? ≠ some 39 := by
    cases ps with
    | nil => exact absurd rfl hn
    | cons a r =>
      rw [List.all_cons, Bool.and_eq_true] at hp
      obtain ⟨h1, _⟩ := part_ok hp.1
      obtain ⟨c, q, rfl, h2, _⟩ := id_cons h1
      refine ⟨by show 0 < (c :: q ++ 58 :: keys r).length; simp, fun e => ?_⟩
      have e : some c = some 39 := e
      exact al_q h2 (Option.some.inj e)
  unfold symbol
  rw [if_neg hz.2, k, if_pos hz.1, List.take_left]
theorem body_fuel : ∀ (f g : Nat) (l : List Nat), l.length ≤ f → l.length ≤ g → strBody f l = strBody g l
  | 0, g, [], _, _ => by cases g <;> rfl
  | 0, g, c :: l, h, _ => by simp at h
  | f + 1, 0, [], _, _ => rfl
  | f + 1, 0, c :: l, _, h => by simp at h
  | f + 1, g + 1, [], _, _ => rfl
  | f + 1, g + 1, c :: l, h, h2 => by
    simp only [List.length_cons] at h h2
    rw [strBody.eq_def, strBody.eq_def (g + 1)]
    simp only []
    have e := body_fuel f g l (by omega) (by omega)
    split
    · cases l with
      | nil => rfl
      | cons d r =>
        simp only [List.length_cons] at h h2
        have e2 := body_fuel f g r (by omega) (by omega)
        by_cases hd : d = 39
        · subst hd
          simp only [e2]
        · have hne : ∀ r', d :: r ≠ 39 :: r' := fun r' z => hd (List.cons.inj z).1
          split
          · rename_i r' z
            exact absurd z (hne _)
          · rfl
    · rw [e]
theorem word_str (b : Bool) {l t : List Nat} {n : Nat} (h : strBody l.length l = some (t, n)) : word b (39 :: l) = some (.str, .s t, n + 1) := by
  have e : strBody (l.length + 1) l = some (t, n) := by rw [body_fuel (l.length + 1) l.length l (by omega) (Nat.le_refl _), h]
  unfold word
  simp only [List.length_cons, e]
  rw [if_neg (by decide), if_neg (by decide), if_pos (by simp)]
theorem word_symstr (b : Bool) {l t : List Nat} {n : Nat} (h : strBody l.length l = some (t, n)) : word b (35 :: 39 :: l) = some (.sym, .s t, n + 2) := by
  have e : strBody (l.length + 1) l = some (t, n) := by rw [body_fuel (l.length + 1) l.length l (by omega) (Nat.le_refl _), h]
  refine word_hash b ?_
  unfold symbol
  rw [if_pos (show (39 :: l : List Nat).head? = some 39 from rfl)]
  show (match strBody (l.length + 1) l with | some (t, n) => some (Val.s t, n + 1) | none => none) = _
  rw [e]
/-! ### going on -/
def lastK (ws : List W) : Option (Kd × Val) := ws.getLast?.map fun w => (w.1, w.2.1)
theorem lastK_app (ws : List W) (w : W) : lastK (ws ++ [w]) = some (w.1, w.2.1) := by
  unfold lastK
  rw [List.getLast?_append]
  rfl
def comb (ws : List W) : Except Nat (List W) → Except Nat (List W)
  | .ok r => .ok (ws ++ r)
  | .error q => .error q
/-- ws are the words of L up to place p; l is what is left -/
def Go (L : List Nat) (ws : List W) (l : List Nat) (p : Nat) : Prop := ∃ (f : Nat) (par : List Bool), l.length < f ∧ words L = comb ws (toks f l p par (lastK ws))
theorem go_start (L : List Nat) : Go L [] L 0 := ⟨L.length + 1, [], Nat.lt_succ_self _, by
  show toks (L.length + 1) L 0 [] none = comb [] (toks (L.length + 1) L 0 [] none)
  generalize toks (L.length + 1) L 0 [] none = x
  cases x <;> rfl⟩
theorem isGap_all : ∀ {g : List Nat}, g.all isB = true → IsGap g
  | [], _ => isGap_nil
  | c :: g, h => by
    rw [List.all_cons, Bool.and_eq_true] at h
    have hc : c = 32 ∨ c = 10 := by
      have := h.1
      unfold isB at this
      simpa using this
    exact isGap_app (a := [c]) (isGap_blank hc) (isGap_all h.2)
theorem go_blank {L g l : List Nat} {ws : List W} {p : Nat} (hg : g.all isB = true) (h : Go L ws (g ++ l) p) : Go L ws l (p + g.length) := by
  obtain ⟨f, par, hf, e⟩ := h
  rw [List.length_append] at hf
  cases f with
  | zero => omega
  | succ f =>
    refine ⟨f + 1, par, by omega, ?_⟩
    rw [e, toks_gap (isGap_all hg)]
theorem gap_zero {c : Nat} {l : List Nat} (h1 : isB c = false) (h2 : c ≠ 34) : gap (c :: l).length (c :: l) = .ok 0 := by
  have h : ¬ (c = 32 ∨ c = 10) := by
    unfold isB at h1
    intro z
    rcases z with z | z <;> · subst z; cases h1
  show gap (l.length + 1) (c :: l) = .ok 0
  rw [gap, if_neg h, if_neg h2]
theorem toks_step {l : List Nat} {p c m f : Nat} {k : Kd} {v : Val} {par : List Bool} {last : Option (Kd × Val)} (h1 : isB c = false) (h2 : c ≠ 34) (hw : word (binds par last) (c :: l) = some (k, v, m)) :
    toks (f + 1) (c :: l) p par last = (match toks f ((c :: l).drop m) (p + m) (note par k v) (some (k, v)) with | .ok ws => .ok ((k, v, p) :: ws) | .error q => .error q) := by
  rw [toks, gap_zero h1 h2]
  simp only []
  rw [List.drop_zero, if_neg (by simp), hw]
  simp only [Nat.zero_add, Nat.add_zero]
  try rfl
theorem go_word {L l : List Nat} {ws : List W} {p c m : Nat} {k : Kd} {v : Val} (h1 : isB c = false) (h2 : c ≠ 34) (hw : ∀ par, word (binds par (lastK ws)) (c :: l) = some (k, v, m)) (h : Go L ws (c :: l) p) : Go L (ws ++ [(k, v, p)]) ((c :: l).drop m) (p + m) := by
  obtain ⟨f, par, hf, e⟩ := h
  cases f with
  | zero => simp at hf
  | succ f =>
    have hm := word_pos (hw par)
    refine ⟨f, note par k v, by rw [List.length_drop]; simp only [List.length_cons] at hf ⊢; omega, ?_⟩
    rw [e, toks_step h1 h2 (hw par), lastK_app]
    generalize toks f ((c :: l).drop m) (p + m) (note par k v) (some (k, v)) = x
    cases x with
    | ok r => show Except.ok (ws ++ (k, v, p) :: r) = Except.ok (ws ++ [(k, v, p)] ++ r); rw [List.append_assoc]; rfl
    | error q => rfl
theorem go_end {L : List Nat} {ws : List W} {p : Nat} (h : Go L ws [] p) : words L = .ok ws := by
  obtain ⟨f, par, hf, e⟩ := h
  cases f with
  | zero => simp at hf
  | succ f =>
    rw [e]
    unfold toks
    simp [gap, comb]
end Tok

end
section
set_option maxRecDepth 100000
set_option linter.all false
/-! The words of plainly written sources: chunk by chunk. -/
namespace Tok
/-- how the chunk ch stands in the source: t its signs there, l' what follows -/
inductive Ck : List Nat → List Nat → List Nat → List (List Nat) → List (List Nat) → Prop where
  | sp {c : Nat} {l' : List Nat} {ts : List (List Nat)} (h : isSp c = true) : Ck [c] [c] l' ts ts
  | arr {l' : List Nat} {ts : List (List Nat)} : Ck [64] [35, 40] l' ts ts
  | asg {l' : List Nat} {ts : List (List Nat)} : Ck [58, 61] [58, 61] l' ts ts
  | str {l0 t : List Nat} {n : Nat} {ts : List (List Nat)} (h : strBody l0.length l0 = some (t, n)) (hn : n ≤ l0.length) : Ck [123] (39 :: l0.take n) (l0.drop n) (t :: ts) ts
  | sym {l0 t : List Nat} {n : Nat} {ts : List (List Nat)} (h : strBody l0.length l0 = some (t, n)) (hn : n ≤ l0.length) : Ck [125] (35 :: 39 :: l0.take n) (l0.drop n) (t :: ts) ts
  | word {w l' : List Nat} {ts : List (List Nat)} (h : w ≠ []) (hp : w.all plainC = true) (hl : StopL l') : Ck w w l' ts ts
theorem body_len : ∀ {f : Nat} {l t : List Nat} {n : Nat}, strBody f l = some (t, n) → n ≤ l.length
  | 0, _, _, _, h => by cases h
  | _ + 1, [], _, _, h => by cases h
  | f + 1, c :: l, t, n, h => by
    rw [strBody.eq_def] at h
    simp only [] at h
    split at h
    · split at h
      · rename_i r
        split at h
        · rename_i t' n' e
          cases h
          have := body_len e
          simp only [List.length_cons]
          omega
        · cases h
      · cases h
        simp
    · split at h
      · rename_i t' n' e
        cases h
        have := body_len e
        simp only [List.length_cons]
        omega
      · cases h
theorem sc_next {l : List Nat} {ts cs : List (List Nat)} (s : Sc l ts cs) : ∀ {ch : List Nat} {rest : List (List Nat)}, cs = ch :: rest → ∃ g t l' ts', l = g ++ (t ++ l') ∧ g.all isB = true ∧ Ck ch t l' ts ts' ∧ Sc l' ts' rest := by
  induction s with
  | nil => intro ch rest e; cases e
  | blank h s ih =>
    rename_i c l ts cs
    intro ch rest e
    obtain ⟨g, t, l', ts', rfl, hg, k, s'⟩ := ih e
    exact ⟨c :: g, t, l', ts', rfl, by rw [List.all_cons, h, hg]; rfl, k, s'⟩
  | sp h s ih =>
    intro ch rest e
    cases e
    exact ⟨[], _, _, _, rfl, rfl, .sp h, s⟩
  | arr s ih =>
    intro ch rest e
    cases e
    exact ⟨[], _, _, _, rfl, rfl, .arr, s⟩
  | asg s ih =>
    intro ch rest e
    cases e
    exact ⟨[], _, _, _, rfl, rfl, .asg, s⟩
  | str h s ih =>
    intro ch rest e
    cases e
    refine ⟨[], _, _, _, ?_, rfl, .str h (body_len h), s⟩
    simp
  | sym h s ih =>
    intro ch rest e
    cases e
    refine ⟨[], _, _, _, ?_, rfl, .sym h (body_len h), s⟩
    simp
  | word h hp hl s ih =>
    intro ch rest e
    cases e
    exact ⟨[], _, _, _, rfl, rfl, .word h hp hl, s⟩
theorem sc_end {l : List Nat} {ts cs : List (List Nat)} (s : Sc l ts cs) : cs = [] → l.all isB = true ∧ ts = [] := by
  induction s with
  | nil => intro _; exact ⟨rfl, rfl⟩
  | blank h s ih =>
    intro e
    obtain ⟨h1, h2⟩ := ih e
    exact ⟨by rw [List.all_cons, h, h1]; rfl, h2⟩
  | sp h s ih => intro e; cases e
  | arr s ih => intro e; cases e
  | asg s ih => intro e; cases e
  | str h s ih => intro e; cases e
  | sym h s ih => intro e; cases e
  | word h hp hl s ih => intro e; cases e
/-- where the reading stands: at place p of L, with the words ws, the texts ts and the chunks cs to come -/
def At (L : List Nat) (ws : List W) (p : Nat) (ts cs : List (List Nat)) : Prop := p ≤ L.length ∧ Go L ws (L.drop p) p ∧ Sc (L.drop p) ts cs
theorem at_end {L : List Nat} {ws : List W} {p : Nat} {ts : List (List Nat)} (h : At L ws p ts []) : words L = .ok ws := by
  obtain ⟨_, g, s⟩ := h
  obtain ⟨hb, _⟩ := sc_end s rfl
  have g2 : Go L ws ([] : List Nat) (p + (L.drop p).length) := go_blank hb (by rw [List.append_nil]; exact g)
  exact go_end g2
/-- the next chunk: it stands at q -/
structure Next (L : List Nat) (ws : List W) (p q : Nat) (ch t l' : List Nat) (ts ts' rest : List (List Nat)) : Prop where
  ge : p ≤ q
  drop : L.drop q = t ++ l'
  gap : ∀ j, p ≤ j → j < q → ∃ c, L[j]? = some c ∧ isB c = true
  go : Go L ws (t ++ l') q
  ck : Ck ch t l' ts ts'
  sc : Sc l' ts' rest
theorem at_next {L : List Nat} {ws : List W} {p : Nat} {ts : List (List Nat)} {ch : List Nat} {rest : List (List Nat)} (h : At L ws p ts (ch :: rest)) : ∃ q t l' ts', Next L ws p q ch t l' ts ts' rest := by
  obtain ⟨hp, g, s⟩ := h
  obtain ⟨gp, t, l', ts', e, hg, k, s'⟩ := sc_next s rfl
  refine ⟨p + gp.length, t, l', ts', by omega, ?_, fun j h1 h2 => ?_, ?_, k, s'⟩
  · rw [← List.drop_drop, e, List.drop_left]
  · have ej : L[j]? = (L.drop p)[j - p]? := by rw [List.getElem?_drop, show p + (j - p) = j by omega]
    rw [ej, e, List.getElem?_append_left (by omega)]
    have hlt : j - p < gp.length := by omega
    exact ⟨gp[j - p], List.getElem?_eq_getElem hlt, List.all_eq_true.mp hg _ (List.getElem_mem hlt)⟩
  · rw [e] at g
    exact go_blank hg g
theorem next_len {L : List Nat} {ws : List W} {p q : Nat} {ch t l' : List Nat} {ts ts' rest : List (List Nat)} (n : Next L ws p q ch t l' ts ts' rest) (ht : t ≠ []) : q + t.length ≤ L.length := by
  have e := congrArg List.length n.drop
  rw [List.length_drop, List.length_append] at e
  have : 0 < t.length := List.length_pos_iff.mpr ht
  omega
theorem next_end {L : List Nat} {ws ws' : List W} {p q : Nat} {ch t l' : List Nat} {ts ts' rest : List (List Nat)} (n : Next L ws p q ch t l' ts ts' rest) (ht : t ≠ []) (g : Go L ws' l' (q + t.length)) : At L ws' (q + t.length) ts' rest := by
  have e : L.drop (q + t.length) = l' := by rw [← List.drop_drop, n.drop, List.drop_left]
  refine ⟨next_len n ht, ?_, ?_⟩
  · rw [e]
    exact g
  · rw [e]
    exact n.sc
/-- one word for the chunk -/
theorem next_one {L : List Nat} {ws : List W} {p q : Nat} {ch t l' : List Nat} {ts ts' rest : List (List Nat)} {k : Kd} {v : Val} (n : Next L ws p q ch t l' ts ts' rest) {c : Nat} {r : List Nat} (et : t = c :: r) (h1 : isB c = false) (h2 : c ≠ 34)
    (hw : ∀ par, word (binds par (lastK ws)) (t ++ l') = some (k, v, t.length)) : At L (ws ++ [(k, v, q)]) (q + t.length) ts' rest := by
  have ht : t ≠ [] := by rw [et]; simp
  refine next_end n ht ?_
  have g := n.go
  subst et
  have := go_word (l := r ++ l') h1 h2 hw g
  have e : (c :: (r ++ l')).drop (c :: r).length = l' := List.drop_left (l₁ := c :: r)
  rw [e] at this
  exact this
/-! ### which chunks are which words -/
theorem plain_first {w : List Nat} (hw : w ≠ []) (hp : w.all plainC = true) : ∃ c r, w = c :: r ∧ isB c = false ∧ isSp c = false ∧ c ≠ 39 := by
  cases w with
  | nil => exact absurd rfl hw
  | cons c r =>
    rw [List.all_cons, Bool.and_eq_true] at hp
    have h := hp.1
    unfold plainC at h
    simp only [Bool.and_eq_true, Bool.not_eq_true', bne_iff_ne] at h
    exact ⟨c, r, rfl, h.1.1, h.1.2, h.2⟩
/-- the table of words that are always the same -/
def fixed : List (List Nat × Kd) := ([[58, 61], [40], [41], [91], [93], [58], [124], [94], [46], [59]].map fun w => (w, Kd.sign)) ++ ops.map fun w => (w, Kd.op)
theorem fixed_cases {w : List Nat} {k : Kd} (h : (w, k) ∈ fixed) : (k = .sign ∧ w ∈ ([[58, 61], [40], [41], [91], [93], [58], [124], [94], [46], [59]] : List (List Nat))) ∨ (k = .op ∧ w ∈ ops) := by
  unfold fixed at h
  rcases List.mem_append.mp h with h | h
  · obtain ⟨x, hx, e⟩ := List.mem_map.mp h
    cases e
    exact .inl ⟨rfl, hx⟩
  · obtain ⟨x, hx, e⟩ := List.mem_map.mp h
    cases e
    exact .inr ⟨rfl, hx⟩
theorem ops_plain : ∀ w ∈ ops, w.all plainC = true ∧ 34 ∉ w ∧ w ≠ [64] ∧ w ≠ [123] ∧ w ≠ [125] ∧ w ≠ [58, 61] ∧ (w.length = 1 → isSp (w.headD 0) = false) := by decide +kernel
/-- a chunk of the table; it is one word -/
theorem step_fixed {L : List Nat} {ws : List W} {p q : Nat} {ch t l' : List Nat} {ts ts' rest : List (List Nat)} {k : Kd} (n : Next L ws p q ch t l' ts ts' rest) (h : (ch, k) ∈ fixed) : t = ch ∧ At L (ws ++ [(k, .s ch, q)]) (q + ch.length) ts' rest := by
  have ck := n.ck
  rcases fixed_cases h with ⟨rfl, hw⟩ | ⟨rfl, hw⟩
  · cases ck with
    | sp hs =>
      rename_i c
      refine ⟨rfl, next_one n rfl ?_ ?_ fun par => word_sp _ _ hs⟩
      · cases hb : isB c with
        | false => rfl
        | true =>
          unfold isB at hb
          rcases Bool.or_eq_true_iff.mp hb with e | e <;> · have e := eq_of_beq e; subst e; cases hs
      · intro e
        subst e
        cases hs
    | arr => simp at hw
    | asg => exact ⟨rfl, next_one n rfl (by rfl) (by decide) fun par => word_asg _ _⟩
    | str hb hn => simp at hw
    | sym hb hn => simp at hw
    | word hne hp hl =>
      simp only [List.mem_cons, List.not_mem_nil, or_false] at hw
      have e : ch = [58, 61] ∨ ch = [58] := by
        rcases hw with e | e | e | e | e | e | e | e | e | e <;> first | exact .inl e | exact .inr e | (subst e; cases hp)
      rcases e with e | e
      · subst e
        exact ⟨rfl, next_one n rfl (by rfl) (by decide) fun par => word_asg _ _⟩
      · subst e
        exact ⟨rfl, next_one n rfl (by rfl) (by decide) fun par => word_colon _ (stop_eq hl)⟩
  · obtain ⟨o1, o2, o3, o4, o5, o6, o7⟩ := ops_plain ch hw
    cases ck with
    | sp hs => cases (show (true : Bool) = false from hs.symm.trans (o7 rfl))
    | arr => exact absurd rfl o3
    | asg => exact absurd rfl o6
    | str hb hn => exact absurd rfl o4
    | sym hb hn => exact absurd rfl o5
    | word hne hp hl =>
      obtain ⟨c, r, e, h1, h2, h3⟩ := plain_first hne hp
      exact ⟨rfl, next_one n e h1 (fun z => o2 (by rw [e, z]; exact List.mem_cons_self)) fun par => word_op _ hw hl⟩
/-- the chunk is a word that is plainly written: no sign of its own, no string -/
theorem ck_word {ch t l' : List Nat} {ts ts' : List (List Nat)} (k : Ck ch t l' ts ts') (h1 : ∀ c, ch = [c] → isSp c = false) (h2 : ch ≠ [64]) (h3 : ch ≠ [123]) (h4 : ch ≠ [125]) (h5 : ch ≠ [58, 61]) : t = ch ∧ ts' = ts ∧ ch ≠ [] ∧ ch.all plainC = true ∧ StopL l' := by
  cases k with
  | sp hs => rw [h1 _ rfl] at hs; cases hs
  | arr => exact absurd rfl h2
  | asg => exact absurd rfl h5
  | str => exact absurd rfl h3
  | sym => exact absurd rfl h4
  | word h hp hl => exact ⟨rfl, rfl, h, hp, hl⟩
theorem al_sp {c : Nat} (h : isAl c = true) : isSp c = false ∧ isB c = false ∧ c ≠ 34 ∧ c ≠ 64 ∧ c ≠ 123 ∧ c ≠ 125 ∧ c ≠ 58 ∧ c ≠ 35 ∧ c ≠ 45 := by
  unfold isAl at h
  simp only [Bool.or_eq_true, Bool.and_eq_true, decide_eq_true_eq] at h
  unfold isSp isB
  simp only [Bool.or_eq_false_iff, beq_eq_false_iff_ne]
  omega
theorem dg_sp {c : Nat} (h : isDg c = true) : isSp c = false ∧ isB c = false ∧ c ≠ 34 ∧ c ≠ 64 ∧ c ≠ 123 ∧ c ≠ 125 ∧ c ≠ 58 := by
  unfold isDg at h
  simp only [Bool.and_eq_true, decide_eq_true_eq] at h
  unfold isSp isB
  simp only [Bool.or_eq_false_iff, beq_eq_false_iff_ne]
  omega
/-- what the first sign of a chunk says of it -/
theorem ck_first {ch t l' : List Nat} {ts ts' : List (List Nat)} (k : Ck ch t l' ts ts') {c : Nat} {r : List Nat} (e : ch = c :: r) (h1 : isSp c = false) (h2 : c ≠ 64) (h3 : c ≠ 123) (h4 : c ≠ 125) (h5 : ch ≠ [58, 61]) : t = ch ∧ ts' = ts ∧ ch.all plainC = true ∧ StopL l' := by
  subst e
  obtain ⟨a, b, _, d, e⟩ := ck_word k (fun x z => by injection z with z _; rw [← z]; exact h1) (fun z => by injection z with z _; exact h2 z) (fun z => by injection z with z _; exact h3 z) (fun z => by injection z with z _; exact h4 z) h5
  exact ⟨a, b, d, e⟩
section
variable {L : List Nat} {ws : List W} {p q : Nat} {ch t l' : List Nat} {ts ts' rest : List (List Nat)}
theorem step_name (n : Next L ws p q ch t l' ts ts' rest) (ha : isId ch = true) (h40 : ch.length ≤ 40) : t = ch ∧ At L (ws ++ [(.name, .s ch, q)]) (q + ch.length) ts rest := by
  obtain ⟨c, r, e, h1, h2⟩ := id_cons ha
  obtain ⟨s1, s2, s3, s4, s5, s6, s7, _, _⟩ := al_sp h1
  obtain ⟨rfl, rfl, hp, hl⟩ := ck_first n.ck e s1 s4 s5 s6 (fun z => by rw [e] at z; injection z with z _; exact s7 z)
  exact ⟨rfl, next_one n e s2 s3 fun par => word_name _ ha h40 hl⟩
theorem step_int (n : Next L ws p q ch t l' ts ts' rest) (hn : ch ≠ []) (ha : ch.all isDg = true) (h60 : ch.length ≤ 60) : t = ch ∧ At L (ws ++ [(.int, .i (num ch), q)]) (q + ch.length) ts rest := by
  cases ch with
  | nil => exact absurd rfl hn
  | cons c r =>
    have h1 : isDg c = true := by
      rw [List.all_cons, Bool.and_eq_true] at ha
      exact ha.1
    obtain ⟨s1, s2, s3, s4, s5, s6, s7⟩ := dg_sp h1
    obtain ⟨rfl, rfl, hp, hl⟩ := ck_first n.ck rfl s1 s4 s5 s6 (fun z => by injection z with z _; exact s7 z)
    exact ⟨rfl, next_one n rfl s2 s3 fun par => word_int _ hn ha h60 hl⟩
/-- the words of keywords directly behind one another -/
def keyWords : List (List Nat) → Nat → List W
  | [], _ => []
  | a :: r, q => (.keyword, .s (a ++ [58]), q) :: keyWords r (q + a.length + 1)
theorem go_keys : ∀ {ps : List (List Nat)} {l' : List Nat} {ws : List W} {q : Nat}, ps.all okPart = true → StopL l' → Go L ws (keys ps ++ l') q → Go L (ws ++ keyWords ps q) l' (q + (keys ps).length)
  | [], l', ws, q, _, _, g => by
    show Go L (ws ++ []) l' (q + 0)
    rw [List.append_nil]
    exact g
  | a :: r, l', ws, q, hp, hl, g => by
    rw [List.all_cons, Bool.and_eq_true] at hp
    obtain ⟨h1, h2⟩ := part_ok hp.1
    have e : keys (a :: r) ++ l' = a ++ 58 :: (keys r ++ l') := by show (a ++ 58 :: keys r) ++ l' = _; simp
    rw [e] at g
    have hw : ∀ par, word (binds par (lastK ws)) (a ++ 58 :: (keys r ++ l')) = some (.keyword, .s (a ++ [58]), a.length + 1) := fun par => word_key _ h1 h2 (keys_head hp.2 hl)
    have hd : (a ++ 58 :: (keys r ++ l')).drop (a.length + 1) = keys r ++ l' := by
      rw [show a ++ 58 :: (keys r ++ l') = (a ++ [58]) ++ (keys r ++ l') by simp, show a.length + 1 = (a ++ [58]).length by simp, drop_app]
    obtain ⟨c, b, rfl, hc, _⟩ := id_cons h1
    obtain ⟨_, s2, s3, _⟩ := al_sp hc
    have g2 := go_word (l := b ++ 58 :: (keys r ++ l')) s2 s3 hw g
    rw [show c :: (b ++ 58 :: (keys r ++ l')) = (c :: b) ++ 58 :: (keys r ++ l') from rfl, hd] at g2
    have g3 := go_keys (q := q + ((c :: b).length + 1)) hp.2 hl g2
    have e1 : q + ((c :: b).length + 1) + (keys r).length = q + (keys ((c :: b) :: r)).length := by
      show _ = q + ((c :: b) ++ 58 :: keys r).length
      simp
      omega
    rw [e1, List.append_assoc] at g3
    exact g3
theorem step_keys {ps : List (List Nat)} (n : Next L ws p q ch t l' ts ts' rest) (e : ch = keys ps) (hn : ps ≠ []) (hp : ps.all okPart = true) : t = ch ∧ At L (ws ++ keyWords ps q) (q + ch.length) ts rest := by
  cases ps with
  | nil => exact absurd rfl hn
  | cons a r =>
    have hp' := hp
    rw [List.all_cons, Bool.and_eq_true] at hp
    obtain ⟨h1, h2⟩ := part_ok hp.1
    obtain ⟨c, b, rfl, hc, _⟩ := id_cons h1
    obtain ⟨s1, s2, s3, s4, s5, s6, s7, _, _⟩ := al_sp hc
    have e0 : ch = c :: (b ++ 58 :: keys r) := e
    obtain ⟨rfl, rfl, _, hl⟩ := ck_first n.ck e0 s1 s4 s5 s6 (fun z => by rw [e0] at z; injection z with z _; exact s7 z)
    refine ⟨rfl, next_end n (by rw [e0]; simp) ?_⟩
    have g := n.go
    rw [e] at g ⊢
    exact go_keys hp' hl g
/-- : and a name -/
theorem step_colon {a : List Nat} (n : Next L ws p q ch t l' ts ts' rest) (e : ch = 58 :: a) (ha : isId a = true) (h40 : a.length ≤ 40) : t = ch ∧ At L (ws ++ [(.sign, .s [58], q), (.name, .s a, q + 1)]) (q + ch.length) ts rest := by
  obtain ⟨c, b, ec, hc, _⟩ := id_cons ha
  obtain ⟨s1, s2, s3, s4, s5, s6, s7, _, _⟩ := al_sp hc
  obtain ⟨rfl, rfl, _, hl⟩ := ck_first n.ck e (by rfl) (by decide) (by decide) (by decide) (fun z => by rw [e, ec] at z; injection z with _ z; injection z with z _; rw [z] at hc; cases hc)
  refine ⟨rfl, next_end n (by rw [e]; simp) ?_⟩
  have g := n.go
  rw [e] at g ⊢
  have g2 := go_word (l := a ++ l') (by rfl) (by decide) (fun par => word_colon _ (l := a ++ l') (fun z => by rw [ec] at z; injection z with z; rw [z] at hc; cases hc)) g
  have g2 : Go L (ws ++ [(.sign, .s [58], q)]) (a ++ l') (q + 1) := g2
  have hw : ∀ par, word (binds par (lastK (ws ++ [(.sign, .s [58], q)]))) (a ++ l') = some (.name, .s a, a.length) := fun par => word_name _ ha h40 hl
  subst ec
  have g3 := go_word (l := b ++ l') s2 s3 hw g2
  have hd : (c :: (b ++ l')).drop (c :: b).length = l' := List.drop_left (l₁ := c :: b)
  rw [hd, List.append_assoc] at g3
  have e2 : q + 1 + (c :: b).length = q + (58 :: c :: b).length := by simp; omega
  rw [e2] at g3
  exact g3
/-- a symbol that is no string -/
theorem step_sym {a : List Nat} (n : Next L ws p q ch t l' ts ts' rest) (e : ch = 35 :: a) (ha : (isId a = true ∧ a.length ≤ 40) ∨ a ∈ ops ∨ ∃ ps, ps ≠ [] ∧ ps.all okPart = true ∧ a = keys ps) : t = ch ∧ At L (ws ++ [(.sym, .s a, q)]) (q + ch.length) ts rest := by
  obtain ⟨rfl, rfl, _, hl⟩ := ck_first n.ck e (by rfl) (by decide) (by decide) (by decide) (fun z => by rw [e] at z; injection z with z _; cases z)
  refine ⟨rfl, next_one n e (by rfl) (by decide) fun par => ?_⟩
  rw [e]
  have hs : symbol (a ++ l') = some (.s a, a.length) := by
    rcases ha with ⟨h1, h2⟩ | h | ⟨ps, h1, h2, rfl⟩
    · exact sym_name h1 h2 hl
    · exact sym_op h hl
    · exact sym_keys h1 h2 hl
  exact word_hash _ hs
/-- a minus that belongs to the digits behind it -/
theorem step_minus {a : List Nat} (n : Next L ws p q ch t l' ts ts' rest) (e : ch = 45 :: a) (hn : a ≠ []) (ha : a.all isDg = true) (h60 : a.length ≤ 60) (hb : ∀ par, binds par (lastK ws) = true) : t = ch ∧ At L (ws ++ [(.int, .i (-(num a : Int)), q)]) (q + ch.length) ts rest := by
  obtain ⟨rfl, rfl, _, hl⟩ := ck_first n.ck e (by rfl) (by decide) (by decide) (by decide) (fun z => by rw [e] at z; injection z with z _; cases z)
  refine ⟨rfl, next_one n e (by rfl) (by decide) fun par => ?_⟩
  rw [hb par, e]
  exact word_minus hn ha h60 hl
/-- #( -/
theorem step_arr (n : Next L ws p q [64] t l' ts ts' rest) (h64 : 64 ∉ L) : t = [35, 40] ∧ At L (ws ++ [(.sign, .s [35, 40], q)]) (q + 2) ts rest := by
  have ck := n.ck
  cases ck with
  | sp hs => cases hs
  | arr => exact ⟨rfl, next_one n rfl (by rfl) (by decide) fun par => word_arr _ _⟩
  | word h hp hl =>
    exfalso
    have e := n.drop
    refine h64 (List.mem_of_mem_drop (i := q) ?_)
    rw [e]
    simp
/-- a string in the place of its sign -/
theorem step_str {x : List Nat} {ts0 : List (List Nat)} (n : Next L ws p q [123] t l' (x :: ts0) ts' rest) (h : 123 ∉ L) : ∃ r m, t = 39 :: r ∧ strBody (L.drop (q + 1)).length (L.drop (q + 1)) = some (x, m) ∧ t.length = m + 1 ∧ At L (ws ++ [(.str, .s x, q)]) (q + (m + 1)) ts0 rest := by
  generalize hX : x :: ts0 = X at n
  have ck := n.ck
  cases ck with
  | sp hs => cases hs
  | str hb hn =>
    rename_i l0 t0 m
    cases hX
    have hl : (39 :: l0.take m).length = m + 1 := by simp; omega
    have hd : 39 :: l0.take m ++ l0.drop m = 39 :: l0 := by simp
    have e1 : L.drop (q + 1) = l0 := by
      rw [← List.drop_drop, n.drop, hd]
      rfl
    refine ⟨_, m, rfl, by rw [e1]; exact hb, hl, ?_⟩
    have := next_one (k := .str) (v := .s x) n rfl (by rfl) (by decide) fun par => by
      rw [hd, hl]
      exact word_str _ hb
    rw [hl] at this
    exact this
  | word h0 hp hl =>
    exfalso
    have e := n.drop
    refine h (List.mem_of_mem_drop (i := q) ?_)
    rw [e]
    simp
theorem step_symstr {x : List Nat} {ts0 : List (List Nat)} (n : Next L ws p q [125] t l' (x :: ts0) ts' rest) (h : 125 ∉ L) : ∃ r m, t = 35 :: 39 :: r ∧ strBody (L.drop (q + 2)).length (L.drop (q + 2)) = some (x, m) ∧ t.length = m + 2 ∧ At L (ws ++ [(.sym, .s x, q)]) (q + (m + 2)) ts0 rest := by
  generalize hX : x :: ts0 = X at n
  have ck := n.ck
  cases ck with
  | sp hs => cases hs
  | sym hb hn =>
    rename_i l0 t0 m
    cases hX
    have hl : (35 :: 39 :: l0.take m).length = m + 2 := by simp; omega
    have hd : 35 :: 39 :: l0.take m ++ l0.drop m = 35 :: 39 :: l0 := by simp
    have e1 : L.drop (q + 2) = l0 := by
      rw [← List.drop_drop, n.drop, hd]
      rfl
    refine ⟨_, m, rfl, by rw [e1]; exact hb, hl, ?_⟩
    have := next_one (k := .sym) (v := .s x) n rfl (by rfl) (by decide) fun par => by
      rw [hd, hl]
      exact word_symstr _ hb
    rw [hl] at this
    exact this
  | word h0 hp hl =>
    exfalso
    have e := n.drop
    refine h (List.mem_of_mem_drop (i := q) ?_)
    rw [e]
    simp
end
end Tok

end
section
set_option maxRecDepth 100000
set_option linter.all false
/-! The words of plainly written sources: a sign in the place of each string. -/
namespace Tok
/-- pieces with ' between -/
def joinQ : List (List Nat) → List Nat
  | [] => []
  | [p] => p
  | p :: ps => p ++ 39 :: joinQ ps
theorem joinQ_cons {p : List Nat} {ps : List (List Nat)} (h : ps ≠ []) : joinQ (p :: ps) = p ++ 39 :: joinQ ps := by
  cases ps with
  | nil => exact absurd rfl h
  | cons a b => rfl
theorem body_end : ∀ {t r : List Nat} {f : Nat}, 39 ∉ t → r.head? ≠ some 39 → (t ++ 39 :: r).length ≤ f → strBody f (t ++ 39 :: r) = some (t, t.length + 1)
  | [], r, 0, _, _, hf => by simp at hf
  | [], r, f + 1, _, hr, _ => by
    show strBody (f + 1) (39 :: r) = _
    rw [strBody.eq_def]
    simp only [if_true]
    cases r with
    | nil => rfl
    | cons d r =>
      by_cases hd : d = 39
      · subst hd; exact absurd rfl hr
      · split
        · rename_i e
          injection e with e _
          exact absurd e hd
        · rfl
  | c :: t, r, 0, _, _, hf => by simp at hf
  | c :: t, r, f + 1, hn, hr, hf => by
    have hc : c ≠ 39 := fun e => hn (by rw [e]; exact List.mem_cons_self)
    have ih := body_end (t := t) (r := r) (f := f) (fun z => hn (List.mem_cons_of_mem _ z)) hr (by simp only [List.cons_append, List.length_cons] at hf; omega)
    show strBody (f + 1) (c :: (t ++ 39 :: r)) = _
    rw [strBody.eq_def]
    simp only []
    rw [if_neg hc, ih]
    rfl
theorem body_more : ∀ {t r : List Nat} {f : Nat}, 39 ∉ t → (t ++ 39 :: 39 :: r).length ≤ f → strBody f (t ++ 39 :: 39 :: r) = (strBody r.length r).map fun q => (t ++ 39 :: q.1, t.length + 2 + q.2)
  | [], r, 0, _, hf => by simp at hf
  | [], r, f + 1, _, hf => by
    show strBody (f + 1) (39 :: 39 :: r) = _
    rw [strBody.eq_def]
    simp only [if_true]
    rw [body_fuel f r.length r (by simp at hf; omega) (Nat.le_refl _)]
    cases strBody r.length r with
    | none => rfl
    | some q =>
      obtain ⟨a, b⟩ := q
      show some (39 :: a, b + 2) = some ([] ++ 39 :: a, ([] : List Nat).length + 2 + b)
      simp only [List.length_nil, List.nil_append, Nat.zero_add, Nat.add_comm]
  | c :: t, r, 0, _, hf => by simp at hf
  | c :: t, r, f + 1, hn, hf => by
    have hc : c ≠ 39 := fun e => hn (by rw [e]; exact List.mem_cons_self)
    have ih := body_more (t := t) (r := r) (f := f) (fun z => hn (List.mem_cons_of_mem _ z)) (by simp only [List.cons_append, List.length_cons] at hf ⊢; omega)
    show strBody (f + 1) (c :: (t ++ 39 :: 39 :: r)) = _
    rw [strBody.eq_def]
    simp only []
    rw [if_neg hc, ih]
    cases strBody r.length r with
    | none => rfl
    | some q =>
      obtain ⟨a, b⟩ := q
      show some (c :: (t ++ 39 :: a), t.length + 2 + b + 1) = some (c :: t ++ 39 :: a, (c :: t).length + 2 + b)
      simp only [List.length_cons, List.cons_append]
      congr 2
      omega
theorem strip_fuel : ∀ (f g : Nat) (l : List Nat), l.length ≤ f → l.length ≤ g → strip f l = strip g l
  | 0, 0, _, _, _ => rfl
  | 0, g + 1, [], _, _ => rfl
  | f + 1, 0, [], _, _ => rfl
  | f + 1, g + 1, [], _, _ => rfl
  | 0, g + 1, c :: l, h, _ => by simp at h
  | f + 1, 0, c :: l, _, h => by simp at h
  | f + 1, g + 1, c :: l, hf, hg => by
    simp only [List.length_cons] at hf hg
    have e : ∀ n, strip f (l.drop n) = strip g (l.drop n) := fun n => strip_fuel f g _ (by rw [List.length_drop]; omega) (by rw [List.length_drop]; omega)
    have e0 : strip f l = strip g l := strip_fuel f g l (by omega) (by omega)
    rw [strip.eq_def, strip.eq_def]
    simp only []
    split
    · cases strBody l.length l with
      | none => rfl
      | some q =>
        obtain ⟨t, n⟩ := q
        show (strip f (l.drop n)).map _ = (strip g (l.drop n)).map _
        rw [e n]
    · split
      · cases strBody (l.drop 1).length (l.drop 1) with
        | none => rfl
        | some q =>
          obtain ⟨t, n⟩ := q
          show (strip f ((l.drop 1).drop n)).map _ = (strip g ((l.drop 1).drop n)).map _
          rw [List.drop_drop, e (1 + n)]
      · rw [e0]
/-- the source behind the code cd, at a ' -/
def Sx (cd R : List Nat) : Option (List Nat × List (List Nat)) :=
  if cd.getLast? = some 35 then (strip (R.length + 2) (35 :: 39 :: R)).map fun r => (cd.dropLast ++ r.1, r.2) else (strip (R.length + 1) (39 :: R)).map fun r => (cd ++ r.1, r.2)
def St (L : List Nat) : Option (List Nat × List (List Nat)) := strip L.length L
/-- plain signs ahead of a ' -/
theorem strip_piece : ∀ (c R : List Nat), 39 ∉ c → St (c ++ 39 :: R) = if c.getLast? = some 35 then (St (35 :: 39 :: R)).map fun r => (c.dropLast ++ r.1, r.2) else (St (39 :: R)).map fun r => (c ++ r.1, r.2)
  | [], R, _ => by
    show St (39 :: R) = if (none : Option Nat) = some 35 then _ else _
    rw [if_neg (by simp)]
    cases St (39 :: R) <;> rfl
  | [c], R, hn => by
    have hc : c ≠ 39 := fun e => hn (by rw [e]; exact List.mem_cons_self)
    by_cases h : c = 35
    · subst h
      show St (35 :: 39 :: R) = _
      rw [if_pos (show ([35] : List Nat).getLast? = some 35 from rfl)]
      show _ = (St (35 :: 39 :: R)).map fun r => ([] ++ r.1, r.2)
      cases St (35 :: 39 :: R) <;> rfl
    · show St (c :: 39 :: R) = _
      rw [if_neg (by show ¬ some c = some 35; intro z; injection z with z; exact h z)]
      show strip ((39 :: R).length + 1) (c :: 39 :: R) = _
      rw [strip.eq_def]
      simp only []
      rw [if_neg hc, if_neg (fun z => h z.1)]
      rfl
  | c :: d :: r, R, hn => by
    have hc : c ≠ 39 := fun e => hn (by rw [e]; exact List.mem_cons_self)
    have hd : d ≠ 39 := fun e => hn (by rw [e]; exact List.mem_cons_of_mem _ List.mem_cons_self)
    have ih := strip_piece (d :: r) R (fun z => hn (List.mem_cons_of_mem _ z))
    show strip ((d :: r ++ 39 :: R).length + 1) (c :: (d :: r ++ 39 :: R)) = _
    rw [strip.eq_def]
    simp only []
    rw [if_neg hc, if_neg (fun z => hd (by have := z.2; injection this))]
    show (St (d :: r ++ 39 :: R)).map _ = _
    rw [ih]
    have e : (c :: d :: r).getLast? = (d :: r).getLast? := List.getLast?_cons_cons
    rw [e]
    split
    · rw [Option.map_map]
      rfl
    · rw [Option.map_map]
      rfl
theorem strip_last : ∀ (c : List Nat), 39 ∉ c → St c = some (c, [])
  | [], _ => rfl
  | c :: r, hn => by
    have hc : c ≠ 39 := fun e => hn (by rw [e]; exact List.mem_cons_self)
    have ih := strip_last r (fun z => hn (List.mem_cons_of_mem _ z))
    show strip (r.length + 1) (c :: r) = _
    rw [strip.eq_def]
    simp only []
    rw [if_neg hc, if_neg]
    · show (St r).map _ = _
      rw [ih]
      rfl
    · rintro ⟨_, z⟩
      cases r with
      | nil => cases z
      | cons d r =>
        injection z with z
        exact hn (by rw [z]; exact List.mem_cons_of_mem _ List.mem_cons_self)
theorem Sx_eq (cd R : List Nat) : Sx cd R = if cd.getLast? = some 35 then (St (35 :: 39 :: R)).map (fun r => (cd.dropLast ++ r.1, r.2)) else (St (39 :: R)).map fun r => (cd ++ r.1, r.2) := rfl
/-- the code behind a string's sign -/
def cdOf (cd c : List Nat) : List Nat := if cd.getLast? = some 35 then cd.dropLast ++ [32, 125, 32] ++ c else cd ++ [32, 123, 32] ++ c
/-- one string more: its text t, then the piece c -/
theorem Sx_step {cd R t : List Nat} {n : Nat} (h : strBody R.length R = some (t, n)) : Sx cd R = (St (R.drop n)).map fun r => (cdOf cd [] ++ r.1, t :: r.2) := by
  have hl : (R.drop n).length ≤ R.length := by rw [List.length_drop]; omega
  rw [Sx_eq]
  unfold cdOf
  split
  · show (strip (R.length + 1 + 1) (35 :: 39 :: R)).map _ = _
    rw [strip.eq_def]
    simp only []
    rw [if_neg (by decide), if_pos ⟨trivial, rfl⟩]
    show Option.map _ (match strBody R.length R with | some (t, n) => (strip (R.length + 1) (R.drop n)).map _ | none => none) = _
    rw [h]
    show Option.map _ ((strip (R.length + 1) (R.drop n)).map _) = _
    rw [strip_fuel _ (R.drop n).length (R.drop n) (by omega) (Nat.le_refl _), Option.map_map]
    show _ = Option.map _ (strip (R.drop n).length (R.drop n))
    congr 1
    funext r
    simp
  · show (strip (R.length + 1) (39 :: R)).map _ = _
    rw [strip.eq_def]
    simp only []
    rw [if_pos trivial]
    show Option.map _ (match strBody R.length R with | some (t, n) => (strip R.length (R.drop n)).map _ | none => none) = _
    rw [h]
    show Option.map _ ((strip R.length (R.drop n)).map _) = _
    rw [strip_fuel _ (R.drop n).length (R.drop n) hl (Nat.le_refl _), Option.map_map]
    show _ = Option.map _ (strip (R.drop n).length (R.drop n))
    congr 1
    funext r
    simp
theorem last_app {a b : List Nat} : b ≠ [] → (a ++ b).getLast? = b.getLast? := fun h => by
  rw [List.getLast?_append]
  cases e : b.getLast? with
  | none => exact absurd (List.getLast?_eq_none_iff.mp e) h
  | some x => rfl
theorem cd_last (cd c : List Nat) : (cdOf cd c).getLast? = some 35 ↔ c.getLast? = some 35 := by
  have h : ∀ a : List Nat, (a ++ [32] ++ c).getLast? = some 35 ↔ c.getLast? = some 35 := fun a => by
    cases c with
    | nil => rw [List.append_nil, last_app (by simp)]; simp
    | cons d r => rw [last_app (by simp)]
  unfold cdOf
  split
  · have := h (cd.dropLast ++ [32, 125])
    simpa using this
  · have := h (cd ++ [32, 123])
    simpa using this
theorem cd_nil {cd c : List Nat} : cdOf cd c = cdOf cd [] ++ c := by
  unfold cdOf
  split <;> simp
/-- the next piece is followed by a ' -/
theorem step_mid {cd R t c R' : List Nat} {n : Nat} (h : strBody R.length R = some (t, n)) (hd : R.drop n = c ++ 39 :: R') (hc : 39 ∉ c) : Sx cd R = (Sx (cdOf cd c) R').map fun r => (r.1, t :: r.2) := by
  rw [Sx_step h, hd, strip_piece c R' hc, Sx_eq]
  by_cases hl : c.getLast? = some 35
  · have hne : c ≠ [] := fun e => by rw [e] at hl; cases hl
    rw [if_pos hl, if_pos ((cd_last cd c).mpr hl), Option.map_map, Option.map_map]
    congr 1
    funext r
    show (cdOf cd [] ++ (c.dropLast ++ r.1), t :: r.2) = ((cdOf cd c).dropLast ++ r.1, t :: r.2)
    rw [cd_nil (c := c), List.dropLast_append_of_ne_nil hne, List.append_assoc]
  · rw [if_neg hl, if_neg (fun z => hl ((cd_last cd c).mp z)), Option.map_map, Option.map_map]
    congr 1
    funext r
    show (cdOf cd [] ++ (c ++ r.1), t :: r.2) = (cdOf cd c ++ r.1, t :: r.2)
    rw [cd_nil (c := c), List.append_assoc]
theorem step_end {cd R t c : List Nat} {n : Nat} (h : strBody R.length R = some (t, n)) (hd : R.drop n = c) (hc : 39 ∉ c) : Sx cd R = some (cdOf cd c, [t]) := by
  rw [Sx_step h, hd, strip_last c hc, cd_nil (c := c)]
  rfl
/-- the code of a source: not too long, of its signs and blanks and { } -/
theorem strip_all {P : Nat → Prop} (h1 : P 32) (h2 : P 123) (h3 : P 125) : ∀ (f : Nat) (l : List Nat) (code : List Nat) (ts : List (List Nat)), (∀ c ∈ l, P c) → strip f l = some (code, ts) → code.length ≤ 3 * l.length ∧ ∀ c ∈ code, P c
  | 0, l, code, ts, _, h => by cases h; exact ⟨by simp, fun c z => by cases z⟩
  | f + 1, [], code, ts, _, h => by cases h; exact ⟨by simp, fun c z => by cases z⟩
  | f + 1, c :: l, code, ts, hp, h => by
    have hp2 : ∀ c ∈ l, P c := fun d hd => hp d (List.mem_cons_of_mem _ hd)
    have hdr : ∀ n, ∀ c ∈ l.drop n, P c := fun n d hd => hp2 d (List.mem_of_mem_drop hd)
    rw [strip.eq_def] at h
    simp only [] at h
    have three : ∀ (a b : Nat) (m : Nat) (x : List Nat) (k : Nat), P a → P b → x.length ≤ 3 * m → m + 1 ≤ k → (∀ c ∈ x, P c) → (a :: b :: a :: x).length ≤ 3 * k ∧ ∀ c ∈ a :: b :: a :: x, P c := fun a b m x k ha hb hx hk hall => by
      refine ⟨by simp only [List.length_cons]; omega, fun d hd => ?_⟩
      rcases List.mem_cons.mp hd with rfl | hd
      · exact ha
      rcases List.mem_cons.mp hd with rfl | hd
      · exact hb
      rcases List.mem_cons.mp hd with rfl | hd
      · exact ha
      exact hall d hd
    split at h
    · split at h
      · rename_i t n _
        cases e : strip f (l.drop n) with
        | none => rw [e] at h; cases h
        | some q =>
          obtain ⟨a, b⟩ := q
          rw [e] at h
          cases h
          obtain ⟨i1, i2⟩ := strip_all h1 h2 h3 f (l.drop n) a b (hdr n) e
          exact three 32 123 (l.drop n).length a _ h1 h2 i1 (by rw [List.length_drop]; simp only [List.length_cons]; omega) i2
      · cases h
    · split at h
      · split at h
        · rename_i t n _
          cases e : strip f ((l.drop 1).drop n) with
          | none => rw [e] at h; cases h
          | some q =>
            obtain ⟨a, b⟩ := q
            rw [e] at h
            cases h
            rw [List.drop_drop] at e
            obtain ⟨i1, i2⟩ := strip_all h1 h2 h3 f (l.drop (1 + n)) a b (hdr _) e
            exact three 32 125 (l.drop (1 + n)).length a _ h1 h3 i1 (by rw [List.length_drop]; simp only [List.length_cons]; omega) i2
        · cases h
      · cases e : strip f l with
        | none => rw [e] at h; cases h
        | some q =>
          obtain ⟨a, b⟩ := q
          rw [e] at h
          cases h
          obtain ⟨i1, i2⟩ := strip_all h1 h2 h3 f l a b hp2 e
          refine ⟨by simp only [List.length_cons]; omega, fun d hd => ?_⟩
          rcases List.mem_cons.mp hd with rfl | hd
          · exact hp _ List.mem_cons_self
          exact i2 d hd
end Tok

end
section
set_option Elab.async false
set_option linter.all false
set_option maxRecDepth 100000
set_option maxHeartbeats 2000000
namespace My
open PySem PySem.Spec PyProof.Rows L2
abbrev s_name_end : Stmt := top 32
abbrev s_keyword_end : Stmt := top 33
def Src (z : Str) : Prop := Tok.isSource (codesOf z) = true
theorem Src.len {z : Str} (h : Src z) : (codesOf z).length ≤ 2000 := by
  unfold Src Tok.isSource at h
  rw [Bool.and_eq_true] at h
  exact of_decide_eq_true h.2
theorem Src.sgn {z : Str} (h : Src z) {c : Nat} (hc : c ∈ codesOf z) : c < 128 := by
  unfold Src Tok.isSource at h
  rw [Bool.and_eq_true, List.all_eq_true] at h
  have := h.1 c hc
  simp at this
  omega
theorem len_codes (z : Str) : z.length = (codesOf z).length := by simp [codesOf, Str.length]
theorem al_tab : ∀ c < 128, Txt.isalpha ⟨#[c]⟩ = Tok.isAl c := by decide +kernel
theorem dg_tab : ∀ c < 128, Txt.isdigit ⟨#[c]⟩ = Tok.isDg c := by decide +kernel
theorem an_tab : ∀ c < 128, Txt.isalnum ⟨#[c]⟩ = Tok.isAn c := by decide +kernel
def spNameEnd : Sp := fun vs H Q _ => ∃ (z : Str) (p : Nat), vs = [.str z, .int (p : Int)] ∧ Src z ∧ p ≤ (codesOf z).length ∧ Q (.int ((p + Tok.nameLen ((codesOf z).drop p) : Nat) : Int)) H
/-- the sign at the beginning has the mark m -/
def hd (m : Nat → Bool) : List Nat → Bool
  | [] => false
  | c :: _ => m c
theorem at_codes {l : List Nat} {e c : Nat} {r : List Nat} (h : l.drop e = c :: r) : e < l.length ∧ l[e]? = some c ∧ c ∈ l := by
  have h1 : e < l.length := by
    rcases Nat.lt_or_ge e l.length with x | x
    · exact x
    · rw [List.drop_eq_nil_of_le x] at h
      cases h
  rw [List.drop_eq_getElem_cons h1] at h
  injection h with h2 h3
  refine ⟨h1, ?_, ?_⟩
  · rw [List.getElem?_eq_getElem h1, h2]
  · rw [← h2]
    exact List.getElem_mem h1
/-- end < len(text) and text[end].m() -/
theorem scan_test {K : PySem.W.Frag} {g : Str → Bool} {m : Nat → Bool} {i : Nat} {σ : L2.St} {H : Hp} {Q : Bool → Hp → Prop} {z : Str} {e : Nat} (tab : ∀ c < 128, g ⟨#[c]⟩ = m c) (h0 : σ[0]? = some (some (.str z))) (hi : σ[i]? = some (some (.int (e : Int)))) (hz : Src z)
    (q : Q (hd m ((codesOf z).drop e)) H) :
    tAnd (tTest (tOp (rI0 fun i j => V.bl (decide (i < j))) (tVar i) (tCB (fun xs H Q => ∃ z, xs = [V.str z] ∧ z.length ≤ sizeLine ∧ Q (V.int ↑z.length) H) (tCons (tVar 0) tNil))))
      (tB (tBM0 K "str" (fun x xs H Q => ∃ a, x = V.str a ∧ xs = [] ∧ True ∧ Q (V.bl (g a)) H) (tOp rIxS (tVar 0) (tVar i)))) σ H Q := by
  have hl := hz.len
  have hs : z.length ≤ sizeLine := by rw [sizeLine_eq, len_codes]; omega
  refine ⟨_, hi, _, h0, _, rfl, hs, _, _, rfl, rfl, _, rfl, ?_⟩
  cases hd' : (codesOf z).drop e with
  | nil =>
    have : (codesOf z).length ≤ e := List.drop_eq_nil_iff.mp hd'
    rw [if_neg (by rw [len_codes]; simp; omega)]
    rw [hd'] at q
    exact q
  | cons c r =>
    obtain ⟨h1, h2, h3⟩ := at_codes hd'
    rw [if_pos (by rw [len_codes]; simp; omega)]
    rw [hd'] at q
    refine ⟨_, h0, _, hi, _, _, _, rfl, rfl, hs, atI_nat h2, ?_⟩
    refine ⟨rfl, _, rfl, rfl, trivial, _, rfl, ?_⟩
    rw [tab c (hz.sgn h3)]
    exact q
theorem run_cons {m : Nat → Bool} {l : List Nat} {e : Nat} (h : hd m (l.drop e) = true) : Tok.run m (l.drop e) = Tok.run m (l.drop (e + 1)) + 1 ∧ e < l.length := by
  cases hd' : l.drop e with
  | nil => rw [hd'] at h; cases h
  | cons c r =>
    obtain ⟨h1, h2, h3⟩ := at_codes hd'
    rw [hd'] at h
    have e1 : l.drop (e + 1) = r := by rw [← List.drop_drop, hd']; rfl
    rw [e1]
    refine ⟨?_, h1⟩
    show (if m c = true then _ else _) = _
    rw [if_pos (show m c = true from h)]
theorem run_stop {m : Nat → Bool} {l : List Nat} (h : hd m l = false) : Tok.run m l = 0 := by
  cases l with
  | nil => rfl
  | cons c r =>
    show (if m c = true then _ else _) = _
    rw [if_neg (by rw [show m c = false from h]; decide)]
theorem nameLen_al {l : List Nat} (h : hd Tok.isAl l = true) : Tok.nameLen l = if Tok.run Tok.isAn l ≤ 40 then Tok.run Tok.isAn l else 0 := by
  cases l with
  | nil => cases h
  | cons c r =>
    show (if Tok.isAl c = true then _ else _) = _
    rw [if_pos (show Tok.isAl c = true from h)]
theorem nameLen_no {l : List Nat} (h : hd Tok.isAl l = false) : Tok.nameLen l = 0 := by
  cases l with
  | nil => rfl
  | cons c r =>
    show (if Tok.isAl c = true then _ else _) = _
    rw [if_neg (ne_true_of_eq_false (show Tok.isAl c = false from h))]
theorem scan_mono {K : PySem.W.Frag} {g : Str → Bool} {i : Nat} {σ : L2.St} {H : Hp} {Q Q' : Bool → Hp → Prop} (hq : ∀ b H1, Q b H1 → Q' b H1)
    (h : tAnd (tTest (tOp (rI0 fun i j => V.bl (decide (i < j))) (tVar i) (tCB (fun xs H Q => ∃ z, xs = [V.str z] ∧ z.length ≤ sizeLine ∧ Q (V.int ↑z.length) H) (tCons (tVar 0) tNil))))
      (tB (tBM0 K "str" (fun x xs H Q => ∃ a, x = V.str a ∧ xs = [] ∧ True ∧ Q (V.bl (g a)) H) (tOp rIxS (tVar 0) (tVar i)))) σ H Q) :
    tAnd (tTest (tOp (rI0 fun i j => V.bl (decide (i < j))) (tVar i) (tCB (fun xs H Q => ∃ z, xs = [V.str z] ∧ z.length ≤ sizeLine ∧ Q (V.int ↑z.length) H) (tCons (tVar 0) tNil))))
      (tB (tBM0 K "str" (fun x xs H Q => ∃ a, x = V.str a ∧ xs = [] ∧ True ∧ Q (V.bl (g a)) H) (tOp rIxS (tVar 0) (tVar i)))) σ H Q' := by
  obtain ⟨a, h1, b, h2, c, h3, h4, d, e, h5, h6, f, h7, h⟩ := h
  refine ⟨a, h1, b, h2, c, h3, h4, d, e, h5, h6, f, h7, ?_⟩
  split at h
  · rename_i k
    rw [if_pos k]
    obtain ⟨a1, h1, a2, h2, a3, a4, a5, h3, h4, h5, h6, h7, a6, h8, h9, h10, a7, h11, h⟩ := h
    exact ⟨a1, h1, a2, h2, a3, a4, a5, h3, h4, h5, h6, h7, a6, h8, h9, h10, a7, h11, hq _ _ h⟩
  · rename_i k
    rw [if_neg k]
    exact hq _ _ h
section
variable {P : Program} {w : World} {K : PySem.W.Frag} {mg : Str → Option Value} {base : Heap}
theorem sc_name_end : FnScope ["text", "place", "end"] ["text", "place"] (defScope s_name_end) := ⟨rfl, rfl, rfl, by decide +kernel, rfl, by decide +kernel, by decide +kernel⟩
theorem ok_name_end {f : Addr} {fd : FuncData} (F : FnP K "name_end" s_name_end f fd) (g_len : mg "len" = none) (g_LN : ∃ t, mg "LONGEST_NAME" = some (.int 40 t)) : FnOk P w K mg base CX0 2 f fd ["text", "place"] spNameEnd := by
  obtain ⟨t, g_LONGEST_NAME⟩ := g_LN
  have r_LONGEST_NAME : RelV (.int 40) (.int 40 t) := ⟨t, rfl⟩
  refine F.ok sc_name_end (fun vs H Q E h => ?_) (fun cdv A outer s H vs Q E hr h => ⟨_, PSs.nox
    (pss_cons (ps_set (i := 2) sc_name_end.nd rfl (Or.inl rfl) (pv 1))
      (pss_cons (ps_if (PW.pt (pw_and (pt_cmpR op_lt (pv 2) (pe_callB call_len_str (by rfl) g_len PySem.boot_len (pa_cons (pv 0) pa_nil)) (nomark _)) (pw_and1 (pt_val (pe_bm0 PySem.F.plainAttrs_str PySem.F.slot_str_isalpha PySem.F.type_str_isalpha mt_isalpha (pe_ix ix_str (pv 0) (pv 2) (fun _ _ => rfl))))))) (pss_one (ps_while PassesOwn.never (PW.pt (pw_and (pt_cmpR op_lt (pv 2) (pe_callB call_len_str (by rfl) g_len PySem.boot_len (pa_cons (pv 0) pa_nil)) (nomark _)) (pw_and1 (pt_val (pe_bm0 PySem.F.plainAttrs_str PySem.F.slot_str_isalnum PySem.F.type_str_isalnum mt_isalnum (pe_ix ix_str (pv 0) (pv 2) (fun _ _ => rfl))))))) (pss_one (ps_aug (i := 2) sc_name_end.nd rfl (Or.inl rfl) pe_int ip_add)))) pss_nil)
      (pss_one (ps_ret (pe_ifExp (pt_cmpR op_le (pe_op op_sub (pv 2) (pv 1)) (pe_glob rfl g_LONGEST_NAME r_LONGEST_NAME) (nomark _)) (pv 2) (pv 1)))))), ?_⟩)
  · obtain ⟨z, p, rfl, _⟩ := h
    rfl
  · obtain ⟨z, p, rfl, hz, hp, q⟩ := h
    refine ⟨_, rfl, ?_⟩
    have fin : ∀ e : Nat, (if e - p ≤ 40 then e else p) = p + Tok.nameLen ((codesOf z).drop p) → p ≤ e →
        (tIf (tTest (tOp (rI0 fun i j => V.bl (decide (i ≤ j))) (tOp (rI0 fun i j => V.int (i - j)) (tVar 2) (tVar 1)) (tC (.int 40)))) (tVar 2) (tVar 1)) [some (.str z), some (.int (p : Int)), some (.int (e : Int))] H Q := by
      intro e he hpe
      refine ⟨_, rfl, _, rfl, _, _, rfl, rfl, _, _, rfl, rfl, _, rfl, ?_⟩
      by_cases c : e - p ≤ 40
      · rw [if_pos c] at he
        rw [if_pos (by simp; omega)]
        refine ⟨_, rfl, ?_⟩
        rw [he]
        exact q
      · rw [if_neg c] at he
        rw [if_neg (by simp; omega)]
        refine ⟨_, rfl, ?_⟩
        rw [← he] at q
        exact q
    refine scan_test al_tab rfl rfl hz ?_
    split
    · rename_i ha
      refine while_by (fun σ H' => H' = H ∧ ∃ e : Nat, σ = [some (.str z), some (.int (p : Int)), some (.int (e : Int))] ∧ p ≤ e ∧ e + Tok.run Tok.isAn ((codesOf z).drop e) = p + Tok.run Tok.isAn ((codesOf z).drop p)) (fun σ _ => match σ with | [_, _, some (.int e)] => (codesOf z).length - e.toNat | _ => 0) ⟨rfl, p, rfl, Nat.le_refl _, rfl⟩ ?_ ?_
      · rintro _ _ ⟨rfl, e, rfl, h1, h2⟩
        refine scan_test an_tab rfl rfl hz ?_
        split
        · rename_i hn
          obtain ⟨r1, r2⟩ := run_cons hn
          refine ⟨_, rfl, _, _, rfl, rfl, ⟨rfl, e + 1, rfl, by omega, by omega⟩, ?_⟩
          show (codesOf z).length - (((e : Int) + 1).toNat) < (codesOf z).length - ((e : Int).toNat)
          omega
        · rename_i hn
          have r0 := run_stop (by simpa using hn)
          refine fin e ?_ h1
          rw [nameLen_al ha]
          split <;> split <;> omega
      · intro σ H Q Q' hq h
        exact scan_mono hq h
    · rename_i ha
      refine fin p ?_ (Nat.le_refl _)
      rw [nameLen_no (by simpa using ha)]
      split <;> rfl
end
end My

end
section
set_option Elab.async false
set_option linter.all false
set_option maxRecDepth 100000
set_option maxHeartbeats 2000000
namespace My
open PySem PySem.Spec PyProof.Rows L2
abbrev s_name_at : Stmt := top 34
abbrev s_integer_at : Stmt := top 35
theorem strOf_inj {a b : List Nat} : strOf a = strOf b ↔ a = b := ⟨fun h => by rw [← codes_strOf a, h, codes_strOf], fun h => by rw [h]⟩
theorem cut_codes (z : Str) (a b : Nat) (h : a ≤ b) : cutS z (some (a : Int)) (some (b : Int)) = strOf (((codesOf z).drop a).take (b - a)) := by
  have hl : z.length = (codesOf z).length := len_codes z
  unfold cutS
  rw [HT.sIx_nat, HT.sIx_nat, hl]
  show strOf (((codesOf z).drop _).take _) = _
  rw [strOf_inj]
  generalize codesOf z = l
  rcases Nat.lt_or_ge l.length a with c | c
  · rw [List.drop_eq_nil_of_le (Nat.le_of_lt c), List.drop_eq_nil_of_le (by omega)]
    simp
  · rw [Nat.min_eq_left c]
    rcases Nat.lt_or_ge l.length b with d | d
    · rw [Nat.min_eq_right (Nat.le_of_lt d)]
      rw [List.take_of_length_le (by rw [List.length_drop]; exact Nat.le_refl _), List.take_of_length_le (by rw [List.length_drop]; omega)]
    · rw [Nat.min_eq_left d]
theorem eq_txt {a b : Str} : decide (V.str a = V.str b) = true ↔ a = b := by
  rw [decide_eq_true_iff]
  exact ⟨V.str.inj, fun h => by rw [h]⟩
theorem ne_txt {a b : Str} : (!decide (V.str a = V.str b)) = true ↔ ¬ a = b := by
  rw [Bool.not_eq_true', decide_eq_false_iff_not]
  exact ⟨fun h e => h (by rw [e]), fun h e => h (V.str.inj e)⟩
theorem take1 (l : List Nat) : l.take 1 = match l with | [] => [] | c :: _ => [c] := by
  cases l <;> rfl
theorem take1_is (l : List Nat) (c : Nat) : (l.take 1 = [c]) ↔ l.head? = some c := by
  cases l with
  | nil => simp
  | cons d r => simp
theorem nameLen_le (l : List Nat) : Tok.nameLen l ≤ 40 := by
  unfold Tok.nameLen
  split
  · omega
  · split
    · split <;> omega
    · omega
theorem run_le (m : Nat → Bool) : ∀ l : List Nat, Tok.run m l ≤ l.length
  | [] => Nat.le_refl _
  | c :: l => by
    show (if m c = true then _ else _) ≤ _
    split
    · exact Nat.succ_le_succ (run_le m l)
    · exact Nat.zero_le _
theorem nameLen_len (l : List Nat) : Tok.nameLen l ≤ l.length := by
  have h := run_le Tok.isAn l
  unfold Tok.nameLen
  split
  · exact Nat.zero_le _
  · split
    · split
      · exact h
      · exact Nat.zero_le _
    · exact Nat.zero_le _
def spKeyEnd : Sp := fun vs H Q _ => ∃ (z : Str) (p : Nat), vs = [.str z, .int (p : Int)] ∧ Src z ∧ p ≤ (codesOf z).length ∧ Q (.int ((p + Tok.keyLen ((codesOf z).drop p) : Nat) : Int)) H
theorem sz_src {z : Str} (h : Src z) : z.length ≤ sizeLine := by
  have := h.len
  rw [sizeLine_eq, len_codes]; omega
section
variable {P : Program} {w : World} {K : PySem.W.Frag} {mg : Str → Option Value} {base : Heap}
theorem sc_keyword_end : FnScope ["text", "place", "end"] ["text", "place"] (defScope s_keyword_end) := ⟨rfl, rfl, rfl, by decide +kernel, rfl, by decide +kernel, by decide +kernel⟩
theorem ok_keyword_end {f fN : Addr} {fd fdN : FuncData} (F : FnP K "keyword_end" s_keyword_end f fd) (FN : FnP K "name_end" s_name_end fN fdN) (g_name_end : mg "name_end" = some (.ref fN)) (g_len : mg "len" = none) (g_LN : ∃ t, mg "LONGEST_NAME" = some (.int 40 t)) : FnOk P w K mg base CX0 3 f fd ["text", "place"] spKeyEnd := by
  have G_name_end : FnOk P w K mg base CX0 2 fN fdN _ spNameEnd := ok_name_end FN g_len g_LN
  have b_name_end : Binds K fdN ["text", "place"] [] := FN.bindsN fun _ _ _ _ _ _ us hl => match us, hl with | [_, _], _ => rfl
  have k_name_end := FN.kp
  refine F.ok sc_keyword_end (fun vs H Q E h => ?_) (fun cdv A outer s H vs Q E hr h => ⟨_, PSs.nox
    (pss_cons (ps_set (i := 2) sc_keyword_end.nd rfl (Or.inl rfl) (pe_call G_name_end (hr.mono (by decide)) rfl g_name_end k_name_end b_name_end .nil pass0 (pa_cons (pv 0) (pa_cons (pv 1) pa_nil))))
      (pss_cons (ps_if (PW.pt (pw_and (pt_cmpR op_gt (pv 2) (pv 1) (nomark _)) (pw_and (pt_cmpR op_eq (pe_slice sl_str (pv 0) (po_some (pv 2)) (po_some (pe_op op_add (pv 2) pe_int))) pe_str (nomark _)) (pw_and1 (pt_cmpR op_ne (pe_slice sl_str (pv 0) (po_some (pe_op op_add (pv 2) pe_int)) (po_some (pe_op op_add (pv 2) pe_int))) pe_str (nomark _)))))) (pss_one (ps_ret (pe_op op_add (pv 2) pe_int))) pss_nil)
      (pss_one (ps_ret (pv 1))))), ?_⟩)
  · obtain ⟨z, p, rfl, _⟩ := h
    rfl
  · obtain ⟨z, p, rfl, hz, hp, q⟩ := h
    have hs := sz_src hz
    refine ⟨_, rfl, _, rfl, z, p, rfl, hz, hp, ?_⟩
    generalize hn : Tok.nameLen ((codesOf z).drop p) = n at *
    refine ⟨_, rfl, _, rfl, _, _, rfl, rfl, _, rfl, ?_⟩
    have no : Tok.keyLen ((codesOf z).drop p) = 0 → (tRet (tVar 1)) { nx := fun _ H' => Q .non H', rt := Q } [some (.str z), some (.int (p : Int)), some (.int ((p + n : Nat) : Int))] H := fun e => by
      rw [e] at q
      exact ⟨_, rfl, q⟩
    have e1 : ((p + n : Nat) : Int) + 1 = ((p + n + 1 : Nat) : Int) := by omega
    have e2 : ((p + n : Nat) : Int) + 2 = ((p + n + 2 : Nat) : Int) := by omega
    have c1 := cut_codes z (p + n) (p + n + 1) (by omega)
    have c2 := cut_codes z (p + n + 1) (p + n + 2) (by omega)
    rw [show p + n + 1 - (p + n) = 1 by omega] at c1
    rw [show p + n + 2 - (p + n + 1) = 1 by omega] at c2
    have k1 : (":" : Str) = strOf [58] := by decide +kernel
    have k2 : ("=" : Str) = strOf [61] := by decide +kernel
    refine ite2 (fun hx => ?_) (fun hx => ?_)
    · have hx := of_decide_eq_true hx
      have kl : Tok.keyLen ((codesOf z).drop p) = if ((codesOf z).drop (p + n)).take 1 = [58] ∧ ¬ ((codesOf z).drop (p + n + 1)).take 1 = [61] then n + 1 else 0 := by
        unfold Tok.keyLen
        rw [hn, List.drop_drop, List.drop_drop, ← Nat.add_assoc]
        simp only [take1_is]
        by_cases x : ((codesOf z).drop (p + n)).head? = some 58 ∧ ¬ ((codesOf z).drop (p + n + 1)).head? = some 61
        · rw [if_pos x, if_pos ⟨by omega, x.1, x.2⟩]
        · rw [if_neg x, if_neg (fun y => x ⟨y.2.1, y.2.2⟩)]
      refine ⟨_, rfl, _, rfl, _, rfl, _, rfl, _, _, rfl, rfl, _, rfl, z, rfl, hs, rfl, _, rfl, ?_⟩
      refine ite2 (fun hx2 => ?_) (fun hx2 => ?_)
      · have hx2 : ((codesOf z).drop (p + n)).take 1 = [58] := by
          have := of_decide_eq_true hx2
          rw [e1, c1, k1] at this
          exact strOf_inj.mp (V.str.inj this)
        refine ⟨_, rfl, _, rfl, _, _, rfl, rfl, _, rfl, _, rfl, _, _, rfl, rfl, _, rfl, z, rfl, hs, rfl, _, rfl, ?_⟩
        refine ite2 (fun hx3 => ?_) (fun hx3 => ?_)
        · have hx3 : ¬ ((codesOf z).drop (p + n + 1)).take 1 = [61] := fun y => by
            rw [ne_txt, e1, e2, c2, k2, strOf_inj] at hx3
            exact hx3 y
          rw [if_pos ⟨hx2, hx3⟩] at kl
          rw [kl] at q
          exact ⟨_, rfl, _, _, rfl, rfl, q⟩
        · refine no ?_
          rw [kl, if_neg]
          rintro ⟨_, y⟩
          apply hx3
          rw [ne_txt, e1, e2, c2, k2, strOf_inj]
          exact y
      · refine no ?_
        rw [kl, if_neg]
        rintro ⟨y, _⟩
        apply hx2
        rw [eq_txt, e1, c1, k1, y]
    · refine no ?_
      have hx : ¬ ((p : Int) < ((p + n : Nat) : Int)) := fun y => hx (decide_eq_true y)
      unfold Tok.keyLen
      rw [if_neg (by rw [hn]; omega)]
end
end My

end
section
set_option Elab.async false
set_option linter.all false
set_option maxRecDepth 100000
set_option maxHeartbeats 2000000
namespace My
open PySem PySem.Spec PyProof.Rows L2
def vVal : Tok.Val → V
  | .s t => .str (strOf t)
  | .i n => .int n
/-- what a function tells of the word at place p: None, or a tuple -/
def wOut (H : Hp) (Q : VK) (p : Nat) : Option (Tok.Kd × Tok.Val × Nat) → Prop
  | none => ∀ H', Same H H' → Q .non H'
  | some (k, x, m) => ∀ r H', Same H H' → H r = none → H' r = some (.tup [.str (kdS k), vVal x, .int ((p + m : Nat) : Int)]) → Q (.ref r) H'
theorem same_upd {H : Hp} {r : Addr} {o : HO} (h : H r = none) : Same H (upd H r o) := fun b u z => by rw [upd_ne (ne_of_none z h)]; exact z
theorem wOut.no {H : Hp} {Q : VK} {p : Nat} (h : wOut H Q p none) : Q .non H := h H (Same.refl H)
theorem wOut.at_ {H : Hp} {Q : VK} {p m : Nat} {k : Tok.Kd} {x : Tok.Val} (h : wOut H Q p (some (k, x, m))) : ∀ r, H r = none → Q (.ref r) (upd H r (.tup [.str (kdS k), vVal x, .int ((p + m : Nat) : Int)])) := fun r hr => h r _ (same_upd hr) hr upd_same
theorem wOut.later {H H' : Hp} {Q : VK} {p : Nat} (e : Same H H') : ∀ {o : Option (Tok.Kd × Tok.Val × Nat)}, wOut H Q p o → wOut H' Q p o
  | none, h => fun H2 e2 => h H2 (e.trans e2)
  | some (k, x, m), h => fun r H2 e2 hr h2 => h r H2 (e.trans e2) (e.free hr) h2
def nameWord (l : List Nat) : Option (Tok.Kd × Tok.Val × Nat) :=
  if 0 < Tok.keyLen l then some (.keyword, .s (l.take (Tok.keyLen l)), Tok.keyLen l)
  else if 0 < Tok.nameLen l then some (.name, .s (l.take (Tok.nameLen l)), Tok.nameLen l) else none
def spNameAt : Sp := fun vs H Q _ => ∃ (z : Str) (p : Nat), vs = [.str z, .int (p : Int)] ∧ Src z ∧ p ≤ (codesOf z).length ∧ wOut H Q p (nameWord ((codesOf z).drop p))
/-- an integer whose digits begin behind s signs (0, or 1 for a minus) -/
def intWord (s : Nat) (l : List Nat) : Option (Tok.Kd × Tok.Val × Nat) :=
  let m := Tok.run Tok.isDg (l.drop s)
  if 0 < m ∧ m ≤ 60 then some (.int, .i (if s = 0 then (Tok.num (l.take m) : Int) else -(Tok.num ((l.drop s).take m) : Int)), s + m) else none
def spIntAt : Sp := fun vs H Q _ => ∃ (z : Str) (p s : Nat), vs = [.str z, .int (p : Int), .int ((p + s : Nat) : Int)] ∧ Src z ∧ p + s ≤ (codesOf z).length ∧ (s = 0 ∨ (s = 1 ∧ ((codesOf z).drop p).head? = some 45)) ∧ wOut H Q p (intWord s ((codesOf z).drop p))
theorem run_digits (l : List Nat) : ∀ c ∈ l.take (Tok.run Tok.isDg l), 48 ≤ c ∧ c ≤ 57 := by
  induction l with
  | nil => intro c h; simp at h
  | cons d r ih =>
    intro c h
    unfold Tok.run at h
    by_cases k : Tok.isDg d = true
    · rw [if_pos k, List.take_succ_cons] at h
      rcases List.mem_cons.mp h with h | h
      · subst h
        unfold Tok.isDg at k
        simp at k
        exact k
      · exact ih c h
    · rw [if_neg k] at h
      simp at h
theorem num_eq (l : List Nat) : Tok.num l = PySem.NumText.digitsVal l := by
  unfold Tok.num PySem.NumText.digitsVal
  congr 1
  funext n c
  rw [Nat.mul_comm]
section
variable {P : Program} {w : World} {K : PySem.W.Frag} {mg : Str → Option Value} {base : Heap}
theorem sc_name_at : FnScope ["text", "place", "end"] ["text", "place"] (defScope s_name_at) := ⟨rfl, rfl, rfl, by decide +kernel, rfl, by decide +kernel, by decide +kernel⟩
theorem ok_name_at {f fN fK : Addr} {fd fdN fdK : FuncData} (F : FnP K "name_at" s_name_at f fd) (FN : FnP K "name_end" s_name_end fN fdN) (FK : FnP K "keyword_end" s_keyword_end fK fdK) (g_name_end : mg "name_end" = some (.ref fN)) (g_keyword_end : mg "keyword_end" = some (.ref fK)) (g_len : mg "len" = none) (g_LN : ∃ t, mg "LONGEST_NAME" = some (.int 40 t)) : FnOk P w K mg base CX0 4 f fd ["text", "place"] spNameAt := by
  have G_name_end : FnOk P w K mg base CX0 2 fN fdN _ spNameEnd := ok_name_end FN g_len g_LN
  have b_name_end : Binds K fdN ["text", "place"] [] := FN.bindsN fun _ _ _ _ _ _ us hl => match us, hl with | [_, _], _ => rfl
  have k_name_end := FN.kp
  have G_keyword_end : FnOk P w K mg base CX0 3 fK fdK _ spKeyEnd := ok_keyword_end FK FN g_name_end g_len g_LN
  have b_keyword_end : Binds K fdK ["text", "place"] [] := FK.bindsN fun _ _ _ _ _ _ us hl => match us, hl with | [_, _], _ => rfl
  have k_keyword_end := FK.kp
  refine F.ok sc_name_at (fun vs H Q E h => ?_) (fun cdv A outer s H vs Q E hr h => ⟨_, PSs.nox
    (pss_cons (ps_set (i := 2) sc_name_at.nd rfl (Or.inl rfl) (pe_call G_keyword_end (hr.mono (by decide)) rfl g_keyword_end k_keyword_end b_keyword_end .nil pass0 (pa_cons (pv 0) (pa_cons (pv 1) pa_nil))))
      (pss_cons (ps_if (pt_cmpR op_gt (pv 2) (pv 1) (nomark _)) (pss_one (ps_ret (pe_tup (pa_cons pe_str (pa_cons (pe_slice sl_str (pv 0) (po_some (pv 1)) (po_some (pv 2))) (pa_cons (pv 2) pa_nil)))))) pss_nil)
      (pss_cons (ps_set (i := 2) sc_name_at.nd rfl (Or.inl rfl) (pe_call G_name_end (hr.mono (by decide)) rfl g_name_end k_name_end b_name_end .nil pass0 (pa_cons (pv 0) (pa_cons (pv 1) pa_nil))))
      (pss_cons (ps_if (pt_cmpR op_gt (pv 2) (pv 1) (nomark _)) (pss_one (ps_ret (pe_tup (pa_cons pe_str (pa_cons (pe_slice sl_str (pv 0) (po_some (pv 1)) (po_some (pv 2))) (pa_cons (pv 2) pa_nil)))))) pss_nil)
      (pss_one (ps_ret pe_non)))))), ?_⟩)
  · obtain ⟨z, p, rfl, _⟩ := h
    rfl
  · obtain ⟨z, p, rfl, hz, hp, q⟩ := h
    have hs := sz_src hz
    refine ⟨_, rfl, _, rfl, z, p, rfl, hz, hp, ?_⟩
    have cut : ∀ m : Nat, cutS z (some (p : Int)) (some ((p + m : Nat) : Int)) = strOf (((codesOf z).drop p).take m) := fun m => by
      rw [cut_codes z p (p + m) (by omega), Nat.add_sub_cancel_left]
    unfold nameWord at q
    refine ⟨_, rfl, _, rfl, _, _, rfl, rfl, _, rfl, ?_⟩
    refine ite2 (fun hx => ?_) (fun hx => ?_)
    · have hx := of_decide_eq_true hx
      rw [if_pos (by omega)] at q
      refine ⟨_, rfl, _, rfl, _, rfl, _, rfl, _, rfl, z, rfl, hs, _, rfl, (by show 3 ≤ sizeLine; decide), fun r hr => ?_⟩
      have := q.at_ r hr
      rw [cut]
      exact this
    · have hx : ¬ ((p : Int) < ((p + Tok.keyLen ((codesOf z).drop p) : Nat) : Int)) := fun y => hx (decide_eq_true y)
      rw [if_neg (by omega)] at q
      refine ⟨_, rfl, _, rfl, z, p, rfl, hz, hp, ?_⟩
      refine ⟨_, rfl, _, rfl, _, _, rfl, rfl, _, rfl, ?_⟩
      refine ite2 (fun hx => ?_) (fun hx => ?_)
      · have hx := of_decide_eq_true hx
        rw [if_pos (by omega)] at q
        refine ⟨_, rfl, _, rfl, _, rfl, _, rfl, _, rfl, z, rfl, hs, _, rfl, (by show 3 ≤ sizeLine; decide), fun r hr => ?_⟩
        have := q.at_ r hr
        rw [cut]
        exact this
      · have hx : ¬ ((p : Int) < ((p + Tok.nameLen ((codesOf z).drop p) : Nat) : Int)) := fun y => hx (decide_eq_true y)
        rw [if_neg (by omega)] at q
        exact q.no
theorem sc_integer_at : FnScope ["text", "place", "digits", "end"] ["text", "place", "digits"] (defScope s_integer_at) := ⟨rfl, rfl, rfl, by decide +kernel, rfl, by decide +kernel, by decide +kernel⟩
theorem ok_integer_at {f : Addr} {fd : FuncData} (F : FnP K "integer_at" s_integer_at f fd) (g_len : mg "len" = none) (g_int : mg "int" = none) (g_MD : ∃ t, mg "MOST_DIGITS" = some (.int 60 t)) : FnOk P w K mg base CX0 2 f fd ["text", "place", "digits"] spIntAt := by
  obtain ⟨t, g_MOST_DIGITS⟩ := g_MD
  have r_MOST_DIGITS : RelV (.int 60) (.int 60 t) := ⟨t, rfl⟩
  refine F.ok sc_integer_at (fun vs H Q E h => ?_) (fun cdv A outer s H vs Q E hr h => ⟨_, PSs.nox
    (pss_cons (ps_set (i := 3) sc_integer_at.nd rfl (Or.inl rfl) (pv 2))
      (pss_cons (ps_while PassesOwn.never (PW.pt (pw_and (pt_cmpR op_lt (pv 3) (pe_callB call_len_str (by rfl) g_len PySem.boot_len (pa_cons (pv 0) pa_nil)) (nomark _)) (pw_and1 (pt_val (pe_bm0 PySem.F.plainAttrs_str PySem.F.slot_str_isdigit PySem.F.type_str_isdigit mt_isdigit (pe_ix ix_str (pv 0) (pv 3) (fun _ _ => rfl))))))) (pss_one (ps_aug (i := 3) sc_integer_at.nd rfl (Or.inl rfl) pe_int ip_add)))
      (pss_cons (ps_if (pt_not (pt_chain op_lt op_le pe_int (pe_op op_sub (pv 3) (pv 2)) (pe_glob rfl g_MOST_DIGITS r_MOST_DIGITS))) (pss_one (ps_ret pe_non)) pss_nil)
      (pss_one (ps_ret (pe_tup (pa_cons pe_str (pa_cons (pe_callTy call_int_str (by rfl) g_int (by decide +kernel) (pa_cons (pe_slice sl_str (pv 0) (po_some (pv 1)) (po_some (pv 3))) pa_nil)) (pa_cons (pv 3) pa_nil))))))))), ?_⟩)
  · obtain ⟨z, p, s, rfl, _⟩ := h
    rfl
  · obtain ⟨z, p, s, rfl, hz, hp, hd, q⟩ := h
    have hs := sz_src hz
    refine ⟨_, rfl, ?_⟩
    refine while_by (fun σ H' => H' = H ∧ ∃ e : Nat, σ = [some (.str z), some (.int (p : Int)), some (.int ((p + s : Nat) : Int)), some (.int (e : Int))] ∧ p + s ≤ e ∧ e + Tok.run Tok.isDg ((codesOf z).drop e) = p + s + Tok.run Tok.isDg ((codesOf z).drop (p + s))) (fun σ _ => match σ with | [_, _, _, some (.int e)] => (codesOf z).length - e.toNat | _ => 0) ⟨rfl, p + s, rfl, Nat.le_refl _, rfl⟩ ?_ ?_
    · rintro _ H0 ⟨hH, e, rfl, h1, h2⟩
      subst hH
      refine scan_test dg_tab rfl rfl hz ?_
      split
      · rename_i hn
        obtain ⟨r1, r2⟩ := run_cons hn
        refine ⟨_, rfl, _, _, rfl, rfl, ⟨rfl, e + 1, rfl, by omega, by omega⟩, ?_⟩
        show (codesOf z).length - (((e : Int) + 1).toNat) < (codesOf z).length - ((e : Int).toNat)
        omega
      · rename_i hn
        have r0 := run_stop (by simpa using hn)
        have he : e = p + s + Tok.run Tok.isDg (((codesOf z).drop p).drop s) := by rw [List.drop_drop]; omega
        subst he
        unfold intWord at q
        generalize hm : Tok.run Tok.isDg (((codesOf z).drop p).drop s) = m at q ⊢
        have n1 : ((p + s + m : Nat) : Int) - ((p + s : Nat) : Int) = (m : Int) := by omega
        have none_ : ¬ (0 < m ∧ m ≤ 60) → Q .non H0 := fun c => by
          rw [show (have m := m; if 0 < m ∧ m ≤ 60 then _ else _) = (none : Option (Tok.Kd × Tok.Val × Nat)) from if_neg c] at q
          exact q.no
        refine ⟨_, rfl, _, rfl, _, _, rfl, rfl, _, _, rfl, rfl, _, rfl, ?_⟩
        refine ite2 (fun hx => ?_) (fun hx => ?_)
        · have hx := of_decide_eq_true hx
          refine ⟨_, _, rfl, rfl, _, rfl, ?_⟩
          refine ite2 (fun hy => ?_) (fun hy => ?_)
          · have hy : ¬ ((p + s + m : Nat) : Int) - ((p + s : Nat) : Int) ≤ 60 := fun y => by
              rw [decide_eq_true y] at hy
              cases hy
            exact none_ (by omega)
          · have hy : ((p + s + m : Nat) : Int) - ((p + s : Nat) : Int) ≤ 60 := Decidable.byContradiction fun y => hy (by rw [decide_eq_false y]; rfl)
            have mm : 0 < m ∧ m ≤ 60 := by omega
            rw [show (have m := m; if 0 < m ∧ m ≤ 60 then _ else _) = _ from if_pos mm] at q
            have cut : cutS z (some (p : Int)) (some ((p + s + m : Nat) : Int)) = strOf (((codesOf z).drop p).take (s + m)) := by
              rw [cut_codes z p (p + s + m) (by omega), show p + s + m - p = s + m by omega]
            have lr : m ≤ (((codesOf z).drop p).drop s).length := by rw [← hm]; exact run_le _ _
            have dg : ∀ c ∈ (((codesOf z).drop p).drop s).take m, 48 ≤ c ∧ c ≤ 57 := by rw [← hm]; exact run_digits _
            have ne : (((codesOf z).drop p).drop s).take m ≠ [] := fun e => by
              have := congrArg List.length e
              rw [List.length_take, List.length_nil] at this
              omega
            have ln : (strOf (((codesOf z).drop p).take (s + m))).length ≤ 640 := by
              rw [len_codes, codes_strOf, List.length_take]
              rcases hd with e | ⟨e, _⟩ <;> omega
            have hint : PySem.intText? (strOf (((codesOf z).drop p).take (s + m))) = some (if s = 0 then (Tok.num (((codesOf z).drop p).take m) : Int) else -(Tok.num ((((codesOf z).drop p).drop s).take m) : Int)) := by
              rcases hd with e | ⟨e, h45⟩
              · subst e
                rw [if_pos rfl, num_eq, Nat.zero_add]
                have k := PySem.intText_digits (x := strOf (((codesOf z).drop p).take m)) dg ne (by rw [Nat.zero_add] at ln; omega)
                exact k
              · subst e
                rw [if_neg (by decide), num_eq]
                cases hl : (codesOf z).drop p with
                | nil => rw [hl] at h45; cases h45
                | cons c r =>
                  rw [hl] at h45 dg ne ln
                  injection h45 with h45
                  subst h45
                  refine PySem.intText_neg (x := strOf ((45 :: r).take (1 + m))) (cs := ((45 :: r).drop 1).take m) ?_ dg ne (by omega)
                  rw [Nat.add_comm]
                  rfl
            rw [← cut] at hint ln
            refine ⟨_, rfl, _, rfl, _, rfl, _, rfl, _, rfl, z, rfl, hs, _, _, rfl, hint, ln, _, rfl, (by show 3 ≤ sizeLine; decide), fun r hr => ?_⟩
            have := q.at_ r hr
            rw [← Nat.add_assoc] at this
            exact this
        · have hx : ¬ ((0 : Int) < ((p + s + m : Nat) : Int) - ((p + s : Nat) : Int)) := fun y => hx (decide_eq_true y)
          refine ⟨_, rfl, ?_⟩
          refine ite2 (fun _ => ?_) (fun y => absurd rfl y)
          exact none_ (by omega)
    · intro σ H Q Q' hq h
      exact scan_mono hq h
end
end My

end
section
set_option Elab.async false
set_option linter.all false
set_option maxRecDepth 100000
set_option maxHeartbeats 2000000
namespace My
open PySem PySem.Spec PyProof.Rows L2
abbrev s_string_end : Stmt := top 36
abbrev s_string_at : Stmt := top 37
theorem find_some {c : Nat} : ∀ {l : List Nat} {k : Nat}, Tok.find c l = some k → l[k]? = some c ∧ ∀ j < k, l[j]? ≠ some c
  | [], k, h => by cases h
  | d :: l, k, h => by
    unfold Tok.find at h
    by_cases e : d = c
    · rw [if_pos e] at h
      cases h
      exact ⟨by simp [e], fun j hj => by omega⟩
    · rw [if_neg e] at h
      cases q : Tok.find c l with
      | none => rw [q] at h; cases h
      | some m =>
        rw [q] at h
        cases h
        obtain ⟨h1, h2⟩ := find_some q
        refine ⟨by simpa using h1, fun j hj => ?_⟩
        have hj : j < m + 1 := hj
        cases j with
        | zero => simpa using e
        | succ j => simpa using h2 j (by omega)
theorem find_none {c : Nat} : ∀ {l : List Nat}, Tok.find c l = none → ∀ j : Nat, l[j]? ≠ some c
  | [], _, j => by simp
  | d :: l, h, j => by
    unfold Tok.find at h
    by_cases e : d = c
    · rw [if_pos e] at h; cases h
    · rw [if_neg e] at h
      cases q : Tok.find c l with
      | some m => rw [q] at h; cases h
      | none =>
        cases j with
        | zero => simpa using e
        | succ j => simpa using find_none q j
theorem getD_cps {z : Str} {v : Nat} (h : v < (codesOf z).length) : z.cps.getD v 0 = (codesOf z)[v] := PySem.StrLaws.getD_of_getElem? (List.getElem?_eq_getElem h)
theorem find_codes (z : Str) (c a : Nat) (ha : a ≤ (codesOf z).length) : Txt.find3 z ⟨#[c]⟩ (a : Int) = match Tok.find c ((codesOf z).drop a) with
    | none => -1
    | some k => ((a + k : Nat) : Int) := by
  have hl : z.length = (codesOf z).length := len_codes z
  have hf : fromIndex z.length (a : Int) = a := by
    unfold fromIndex
    rw [if_neg (by omega)]
    omega
  rcases PySem.StrLaws.find3_spec z c (a : Int) with ⟨h1, h2⟩ | ⟨k, h1, h2, h3, h4, h5⟩
  · rw [h1]
    cases q : Tok.find c ((codesOf z).drop a) with
    | none => rfl
    | some m =>
      obtain ⟨e1, _⟩ := find_some q
      rw [List.getElem?_drop] at e1
      have hlt : a + m < (codesOf z).length := by
        rcases Nat.lt_or_ge (a + m) (codesOf z).length with x | x
        · exact x
        · rw [List.getElem?_eq_none x] at e1; cases e1
      have := h2 (a + m) (by omega) (by omega)
      rw [getD_cps hlt] at this
      rw [List.getElem?_eq_getElem hlt] at e1
      injection e1 with e1
      exact absurd e1 this
  · rw [h1]
    rw [hf] at h2 h5
    have hk : k < (codesOf z).length := by omega
    rw [getD_cps hk] at h4
    cases q : Tok.find c ((codesOf z).drop a) with
    | none =>
      have := find_none q (k - a)
      rw [List.getElem?_drop, show a + (k - a) = k by omega, List.getElem?_eq_getElem hk, h4] at this
      exact absurd rfl this
    | some m =>
      obtain ⟨e1, e2⟩ := find_some q
      rw [List.getElem?_drop] at e1
      have hlt : a + m < (codesOf z).length := by
        rcases Nat.lt_or_ge (a + m) (codesOf z).length with x | x
        · exact x
        · rw [List.getElem?_eq_none x] at e1; cases e1
      rw [List.getElem?_eq_getElem hlt] at e1
      injection e1 with e1
      rcases Nat.lt_trichotomy k (a + m) with x | x | x
      · have := e2 (k - a) (by omega)
        rw [List.getElem?_drop, show a + (k - a) = k by omega, List.getElem?_eq_getElem hk, h4] at this
        exact absurd rfl this
      · show (k : Int) = ((a + m : Nat) : Int)
        rw [x]
      · have := h5 (a + m) (by omega) x
        rw [getD_cps hlt] at this
        exact absurd e1 this
theorem sb_c {f c : Nat} {r : List Nat} (h : c ≠ 39) : Tok.strBody (f + 1) (c :: r) = (match Tok.strBody f r with | some (t, n) => some (c :: t, n + 1) | none => none) := by
  rw [Tok.strBody.eq_def]
  exact if_neg h
theorem sb_q2 {f : Nat} {r : List Nat} : Tok.strBody (f + 1) (39 :: 39 :: r) = (match Tok.strBody f r with | some (t, n) => some (39 :: t, n + 2) | none => none) := by
  rw [Tok.strBody.eq_def]
  exact if_pos rfl
theorem sb_q1 {f : Nat} {r : List Nat} (h : r.head? ≠ some 39) : Tok.strBody (f + 1) (39 :: r) = some ([], 1) := by
  rw [Tok.strBody.eq_def]
  refine (if_pos rfl).trans ?_
  split
  · rename_i r' _
    exact absurd rfl h
  · rfl
/-- more fuel than signs is as good -/
theorem sb_fuel : ∀ (n : Nat) (l : List Nat) (f g : Nat), l.length ≤ n → l.length ≤ f → l.length ≤ g → Tok.strBody f l = Tok.strBody g l := by
  intro n
  induction n using Nat.strongRecOn with
  | ind n ih =>
    intro l f g hn hf hg
    cases l with
    | nil =>
      cases f <;> cases g <;> rfl
    | cons c r =>
      simp at hn hf hg
      cases f with
      | zero => omega
      | succ f =>
        cases g with
        | zero => omega
        | succ g =>
          by_cases e : c = 39
          · subst e
            by_cases e2 : r.head? = some 39
            · cases r with
              | nil => cases e2
              | cons d r =>
                injection e2 with e2
                subst e2
                simp at hn hf hg
                rw [sb_q2, sb_q2, ih (n - 1) (by omega) r f g (by omega) (by omega) (by omega)]
            · rw [sb_q1 e2, sb_q1 e2]
          · rw [sb_c e, sb_c e, ih (n - 1) (by omega) r f g (by omega) (by omega) (by omega)]
/-- what stands for itself up to the next quote -/
def body (l : List Nat) : Option (List Nat × Nat) := Tok.strBody l.length l
theorem sb_body {f : Nat} {l : List Nat} (h : l.length ≤ f) : Tok.strBody f l = body l := sb_fuel l.length l f l.length (Nat.le_refl _) h (Nat.le_refl _)
theorem body_cons {c : Nat} {r : List Nat} (h : c ≠ 39) : body (c :: r) = (match body r with | some (t, n) => some (c :: t, n + 1) | none => none) := sb_c h
theorem body_two {r : List Nat} : body (39 :: 39 :: r) = (match body r with | some (t, n) => some (39 :: t, n + 2) | none => none) := by
  have h : body (39 :: 39 :: r) = (match Tok.strBody (r.length + 1) r with | some (t, n) => some (39 :: t, n + 2) | none => none) := sb_q2
  rw [h, sb_body (Nat.le_succ _)]
theorem body_end {r : List Nat} (h : r.head? ≠ some 39) : body (39 :: r) = some ([], 1) := sb_q1 h
/-- how long -/
def bodyLen (l : List Nat) : Option Nat := (body l).map (·.2)
theorem bodyLen_find : ∀ l : List Nat, bodyLen l = match Tok.find 39 l with
    | none => none
    | some k => (bodyLen (l.drop k)).map (· + k)
  | [] => rfl
  | c :: r => by
    unfold Tok.find
    by_cases e : c = 39
    · rw [if_pos e]
      simp
    · rw [if_neg e]
      have ih := bodyLen_find r
      unfold bodyLen at ih ⊢
      rw [body_cons e]
      cases q : Tok.find 39 r with
      | none =>
        rw [q] at ih
        cases h : body r with
        | none => rfl
        | some x => rw [h] at ih; cases ih
      | some k =>
        rw [q] at ih
        show _ = Option.map (· + (k + 1)) (Option.map (·.2) (body (r.drop k)))
        have ih : (body r).map (·.2) = ((body (r.drop k)).map (·.2)).map (· + k) := ih
        generalize body (r.drop k) = B at ih ⊢
        cases h : body r with
        | none =>
          rw [h] at ih
          cases B with
          | none => rfl
          | some y => cases ih
        | some x =>
          rw [h] at ih
          cases B with
          | none => cases ih
          | some y =>
            simp at ih ⊢
            omega
theorem next_q (z : Str) (a : Nat) (ha : a ≤ (codesOf z).length) : (Txt.find3 z ⟨#[39]⟩ (a : Int) = -1 ∧ bodyLen ((codesOf z).drop a) = none) ∨
    ∃ n : Nat, Txt.find3 z ⟨#[39]⟩ (a : Int) = (n : Int) ∧ a ≤ n ∧ n < (codesOf z).length ∧ (codesOf z)[n]? = some 39 ∧ bodyLen ((codesOf z).drop a) = (bodyLen ((codesOf z).drop n)).map (· + (n - a)) := by
  have h := find_codes z 39 a ha
  have hb := bodyLen_find ((codesOf z).drop a)
  cases q : Tok.find 39 ((codesOf z).drop a) with
  | none => rw [q] at h hb; exact .inl ⟨h, hb⟩
  | some k =>
    rw [q] at h hb
    obtain ⟨e1, _⟩ := find_some q
    rw [List.getElem?_drop] at e1
    have hlt : a + k < (codesOf z).length := by
      rcases Nat.lt_or_ge (a + k) (codesOf z).length with x | x
      · exact x
      · rw [List.getElem?_eq_none x] at e1; cases e1
    refine .inr ⟨a + k, h, by omega, hlt, e1, ?_⟩
    rw [hb]
    show Option.map _ (bodyLen (((codesOf z).drop a).drop k)) = _
    rw [List.drop_drop, Nat.add_sub_cancel_left]
theorem drop_at {l : List Nat} {n c : Nat} (h : l[n]? = some c) : l.drop n = c :: l.drop (n + 1) := by
  have hlt : n < l.length := by
    rcases Nat.lt_or_ge n l.length with x | x
    · exact x
    · rw [List.getElem?_eq_none x] at h; cases h
  rw [List.drop_eq_getElem_cons hlt]
  rw [List.getElem?_eq_getElem hlt] at h
  injection h with h
  rw [h]
theorem bodyLen_two {r : List Nat} : bodyLen (39 :: 39 :: r) = (bodyLen r).map (· + 2) := by
  unfold bodyLen
  rw [body_two]
  cases body r <;> rfl
theorem bodyLen_end {r : List Nat} (h : r.head? ≠ some 39) : bodyLen (39 :: r) = some 1 := by
  unfold bodyLen
  rw [body_end h]
  rfl
def spStrEnd : Sp := fun vs H Q _ => ∃ (z : Str) (p : Nat), vs = [.str z, .int (p : Int)] ∧ Src z ∧ p < (codesOf z).length ∧ Q (.int (match bodyLen ((codesOf z).drop (p + 1)) with | none => 0 | some n => ((p + 1 + n : Nat) : Int))) H
section
variable {P : Program} {w : World} {K : PySem.W.Frag} {mg : Str → Option Value} {base : Heap}
theorem sc_string_end : FnScope ["text", "place", "end"] ["text", "place"] (defScope s_string_end) := ⟨rfl, rfl, rfl, by decide +kernel, rfl, by decide +kernel, by decide +kernel⟩
theorem ok_string_end {f : Addr} {fd : FuncData} (F : FnP K "string_end" s_string_end f fd) : FnOk P w K mg base CX0 2 f fd ["text", "place"] spStrEnd := by
  refine F.ok sc_string_end (fun vs H Q E h => ?_) (fun cdv A outer s H vs Q E hr h => ⟨_, PSs.nox
    (pss_cons (ps_set (i := 2) sc_string_end.nd rfl (Or.inl rfl) (pe_bm PySem.F.plainAttrs_str PySem.F.slot_str_find PySem.F.type_str_find mt_find3 (pv 0) (pa_cons pe_str (pa_cons (pe_op op_add (pv 1) pe_int) pa_nil))))
      (pss_cons (ps_while PassesOwn.never (PW.pt (pw_and (pt_cmpR op_ge (pv 2) pe_int (nomark _)) (pw_and1 (pt_cmpR op_eq (pe_slice sl_str (pv 0) (po_some (pe_op op_add (pv 2) pe_int)) (po_some (pe_op op_add (pv 2) pe_int))) pe_str (nomark _))))) (pss_one (ps_set (i := 2) sc_string_end.nd rfl (Or.inl rfl) (pe_bm PySem.F.plainAttrs_str PySem.F.slot_str_find PySem.F.type_str_find mt_find3 (pv 0) (pa_cons pe_str (pa_cons (pe_op op_add (pv 2) pe_int) pa_nil))))))
      (pss_one (ps_ret (pe_op op_add (pv 2) pe_int))))), ?_⟩)
  · obtain ⟨z, p, rfl, _⟩ := h
    rfl
  · obtain ⟨z, p, rfl, hz, hp, q⟩ := h
    have hs := sz_src hz
    have k39 : ("'" : Str) = ⟨#[39]⟩ := by decide +kernel
    refine ⟨_, rfl, rfl, _, rfl, _, _, rfl, rfl, _, _, _, rfl, rfl, ?_⟩
    rw [k39]
    have e1 : (p : Int) + 1 = ((p + 1 : Nat) : Int) := by omega
    refine while_by (fun σ H' => H' = H ∧ ∃ e : Int, σ = [some (.str z), some (.int (p : Int)), some (.int e)] ∧ ((e = -1 ∧ bodyLen ((codesOf z).drop (p + 1)) = none) ∨
        ∃ n : Nat, e = (n : Int) ∧ p + 1 ≤ n ∧ n < (codesOf z).length ∧ (codesOf z)[n]? = some 39 ∧ bodyLen ((codesOf z).drop (p + 1)) = (bodyLen ((codesOf z).drop n)).map (· + (n - (p + 1)))))
      (fun σ _ => match σ with | [_, _, some (.int e)] => if e < 0 then 0 else (codesOf z).length - e.toNat | _ => 0) ⟨rfl, _, rfl, ?_⟩ ?_ ?_
    · have := next_q z (p + 1) (by omega)
      rw [← e1] at this
      exact this
    · rintro _ H0 ⟨hH, e, rfl, h⟩
      subst hH
      refine ⟨_, rfl, _, _, rfl, rfl, _, rfl, ?_⟩
      rcases h with ⟨h1, h2⟩ | ⟨n, rfl, h1, h2, h3, h4⟩
      · subst h1
        refine ite2 (fun y => absurd (of_decide_eq_true y) (by decide)) (fun _ => ?_)
        rw [h2] at q
        exact ⟨_, rfl, _, _, rfl, rfl, q⟩
      · refine ite2 (fun _ => ?_) (fun y => absurd (decide_eq_true (by omega)) y)
        have e2 : (n : Int) + 1 = ((n + 1 : Nat) : Int) := by omega
        have e3 : (n : Int) + 2 = ((n + 2 : Nat) : Int) := by omega
        have cut := cut_codes z (n + 1) (n + 2) (by omega)
        rw [show n + 2 - (n + 1) = 1 by omega] at cut
        refine ⟨_, rfl, _, rfl, _, _, rfl, rfl, _, rfl, _, rfl, _, _, rfl, rfl, _, rfl, z, rfl, hs, rfl, _, rfl, ?_⟩
        have hd := drop_at h3
        refine ite2 (fun hx => ?_) (fun hx => ?_)
        · have hx : ((codesOf z).drop (n + 1)).take 1 = [39] := by
            rw [eq_txt, e2, e3, cut] at hx
            exact strOf_inj.mp hx
          rw [take1_is] at hx
          have hlt : n + 1 < (codesOf z).length := by
            rcases Nat.lt_or_ge (n + 1) (codesOf z).length with x | x
            · exact x
            · rw [List.drop_eq_nil_of_le x] at hx; cases hx
          have hd2 : (codesOf z).drop (n + 1) = 39 :: (codesOf z).drop (n + 2) := drop_at (by rw [List.getElem?_eq_getElem hlt]; rw [List.drop_eq_getElem_cons hlt] at hx; exact hx)
          rw [hd, hd2, bodyLen_two] at h4
          refine ⟨_, rfl, rfl, _, rfl, _, _, rfl, rfl, _, _, _, rfl, rfl, ?_⟩
          rw [e3]
          rcases next_q z (n + 2) (by omega) with ⟨g1, g2⟩ | ⟨m, g1, g2, g3, g4, g5⟩
          · rw [g1]
            rw [g2] at h4
            refine ⟨⟨rfl, _, rfl, .inl ⟨rfl, h4⟩⟩, ?_⟩
            show (if (-1 : Int) < 0 then 0 else _) < (if (n : Int) < 0 then 0 else (codesOf z).length - (n : Int).toNat)
            rw [if_pos (by decide), if_neg (by omega)]
            omega
          · rw [g1]
            refine ⟨⟨rfl, _, rfl, .inr ⟨m, rfl, by omega, g3, g4, ?_⟩⟩, ?_⟩
            · rw [h4, g5, Option.map_map, Option.map_map]
              congr 1
              funext x
              show x + (m - (n + 2)) + 2 + (n - (p + 1)) = x + (m - (p + 1))
              omega
            · show (if (m : Int) < 0 then 0 else (codesOf z).length - (m : Int).toNat) < (if (n : Int) < 0 then 0 else (codesOf z).length - (n : Int).toNat)
              rw [if_neg (by omega), if_neg (by omega)]
              omega
        · have hx : ((codesOf z).drop (n + 1)).head? ≠ some 39 := fun y => by
            apply hx
            rw [eq_txt, e2, e3, cut, (take1_is _ _).mpr y]
            rfl
          rw [hd, bodyLen_end hx] at h4
          rw [h4] at q
          refine ⟨_, rfl, _, _, rfl, rfl, ?_⟩
          have : ((p + 1 + (1 + (n - (p + 1))) : Nat) : Int) = (n : Int) + 1 := by omega
          show Q (V.int ((n : Int) + 1)) H0
          rw [← this]
          exact q
    · rintro σ H Q Q' hq ⟨a1, h1, a2, a3, h2, h3, k, h4, h⟩
      refine ⟨a1, h1, a2, a3, h2, h3, k, h4, ?_⟩
      split at h
      · rename_i x
        rw [if_pos x]
        obtain ⟨b1, g1, b2, g2, b3, b4, g3, g4, b5, g5, b6, g6, b7, b8, g7, g8, b9, g9, b10, g10, g11, g12, b11, g13, h⟩ := h
        exact ⟨b1, g1, b2, g2, b3, b4, g3, g4, b5, g5, b6, g6, b7, b8, g7, g8, b9, g9, b10, g10, g11, g12, b11, g13, hq _ _ h⟩
      · rename_i x
        rw [if_neg x]
        exact hq _ _ h
end
end My

end
section
set_option Elab.async false
set_option linter.all false
set_option maxRecDepth 100000
set_option maxHeartbeats 2000000
namespace My
open PySem PySem.Spec PyProof.Rows L2 StrLaws
section
variable {X : Cx}
/-- a written text ahead of the others: behind it a token is out -/
theorem pa_strT {j : Nat} {c : Str} {cpos : Pos} {es : List Expr} {ta : TA} (h : PAT X es ta) (hs : starEach (.Constant (.str c) j cpos :: es) X.env = (false, eval (.Constant (.str c) j cpos) X.env) :: starEach es X.env := by rfl) : PA X (.Constant (.str c) j cpos :: es) (tCons (tC (.str c)) ta) := by
  refine ⟨fun pos pins s σ H Q I q => ?_⟩
  rw [hs]
  show wpAny _ _ (spliced ((false, eval (.Constant (.str c) j cpos) X.env) :: backTo pos (starEach es X.env))) _ _ s
  refine Calls.spliced_cons (Calls.Constant_str ?_)
  exact thn (h pos pins { s with toks := s.toks + 1 } σ H _ (by show 1 ≤ s.toks + 1; omega) (I.tok _) q) fun us s2 ⟨xs, H2, I2, r2, q2⟩ => ⟨.str c :: xs, H2, I2, .cons ⟨_, rfl⟩ r2, q2⟩
end
theorem undouble : ∀ (n : Nat) (l : List Nat), l.length ≤ n → ∀ t m, body l = some (t, m) → 1 ≤ m ∧ m ≤ l.length ∧ replL [39, 39] [39] (l.take (m - 1)) = t := by
  intro n
  induction n using Nat.strongRecOn with
  | ind n ih =>
    intro l hn t m h
    cases l with
    | nil => cases h
    | cons c r =>
      simp at hn
      by_cases e : c = 39
      · subst e
        by_cases e2 : r.head? = some 39
        · cases r with
          | nil => cases e2
          | cons d r =>
            injection e2 with e2
            subst e2
            simp at hn
            rw [body_two] at h
            cases q : body r with
            | none => rw [q] at h; cases h
            | some x =>
              obtain ⟨t', m'⟩ := x
              rw [q] at h
              cases h
              obtain ⟨h1, h2, h3⟩ := ih (n - 1) (by omega) r (by omega) t' m' q
              refine ⟨by omega, by simp; omega, ?_⟩
              show replL [39, 39] [39] ((39 :: 39 :: r).take (m' + 1)) = _
              obtain ⟨k, rfl⟩ : ∃ k, m' = k + 1 := ⟨m' - 1, by omega⟩
              show replL [39, 39] [39] (39 :: 39 :: r.take k) = _
              rw [replL_hit (by decide) (by rfl)]
              show [39] ++ replL [39, 39] [39] (r.take k) = _
              rw [show k + 1 - 1 = k from rfl] at h3
              rw [h3]
              rfl
        · rw [body_end e2] at h
          cases h
          refine ⟨Nat.le_refl _, by simp, ?_⟩
          exact replL_nil
      · rw [body_cons e] at h
        cases q : body r with
        | none => rw [q] at h; cases h
        | some x =>
          obtain ⟨t', m'⟩ := x
          rw [q] at h
          cases h
          obtain ⟨h1, h2, h3⟩ := ih (n - 1) (by omega) r (by omega) t' m' q
          refine ⟨by omega, by simp; omega, ?_⟩
          obtain ⟨k, rfl⟩ : ∃ k, m' = k + 1 := ⟨m' - 1, by omega⟩
          show replL [39, 39] [39] (c :: r.take k) = _
          rw [replL_miss (by intro y; injection y with y _; exact e y)]
          rw [show k + 1 - 1 = k from rfl] at h3
          rw [h3]
def strWord (r : List Nat) : Option (Tok.Kd × Tok.Val × Nat) := match body r with
  | none => none
  | some (t, n) => some (.str, .s t, n + 1)
def spStrAt : Sp := fun vs H Q _ => ∃ (z : Str) (p : Nat), vs = [.str z, .int (p : Int)] ∧ Src z ∧ p < (codesOf z).length ∧ wOut H Q p (strWord ((codesOf z).drop (p + 1)))
section
variable {P : Program} {w : World} {K : PySem.W.Frag} {mg : Str → Option Value} {base : Heap}
theorem sc_string_at : FnScope ["text", "place", "end"] ["text", "place"] (defScope s_string_at) := ⟨rfl, rfl, rfl, by decide +kernel, rfl, by decide +kernel, by decide +kernel⟩
theorem ok_string_at {f fE : Addr} {fd fdE : FuncData} (F : FnP K "string_at" s_string_at f fd) (FE : FnP K "string_end" s_string_end fE fdE) (g_string_end : mg "string_end" = some (.ref fE)) : FnOk P w K mg base CX0 3 f fd ["text", "place"] spStrAt := by
  have G_string_end : FnOk P w K mg base CX0 2 fE fdE _ spStrEnd := ok_string_end FE
  have b_string_end : Binds K fdE ["text", "place"] [] := FE.bindsN fun _ _ _ _ _ _ us hl => match us, hl with | [_, _], _ => rfl
  have k_string_end := FE.kp
  refine F.ok sc_string_at (fun vs H Q E h => ?_) (fun cdv A outer s H vs Q E hr h => ⟨_, PSs.nox
    (pss_cons (ps_set (i := 2) sc_string_at.nd rfl (Or.inl rfl) (pe_call G_string_end (hr.mono (by decide)) rfl g_string_end k_string_end b_string_end .nil pass0 (pa_cons (pv 0) (pa_cons (pv 1) pa_nil))))
      (pss_cons (ps_if (pt_cmpR op_eq (pv 2) pe_int (nomark _)) (pss_one (ps_ret pe_non)) pss_nil)
      (pss_one (ps_ret (pe_tup (pa_strT (pat_cons (CwR.pet_replC (pe_slice sl_str (pv 0) (po_some (pe_op op_add (pv 1) pe_int)) (po_some (pe_op op_sub (pv 2) pe_int)))) (pat_cons (CwR.PET.of (pv 2)) pat_nil)))))))), ?_⟩)
  · obtain ⟨z, p, rfl, _⟩ := h
    rfl
  · obtain ⟨z, p, rfl, hz, hp, q⟩ := h
    have hs := sz_src hz
    refine ⟨_, rfl, _, rfl, z, p, rfl, hz, hp, ?_⟩
    unfold strWord at q
    cases hb : body ((codesOf z).drop (p + 1)) with
    | none =>
      rw [hb] at q
      rw [show bodyLen ((codesOf z).drop (p + 1)) = none by unfold bodyLen; rw [hb]; rfl]
      refine ⟨_, rfl, rfl, _, rfl, ?_⟩
      exact ite2 (fun _ => q.no) (fun y => absurd (decide_eq_true rfl) y)
    | some x =>
      obtain ⟨t, n⟩ := x
      rw [hb] at q
      rw [show bodyLen ((codesOf z).drop (p + 1)) = some n by unfold bodyLen; rw [hb]; rfl]
      obtain ⟨h1, h2, h3⟩ := undouble _ _ (Nat.le_refl _) t n hb
      refine ⟨_, rfl, rfl, _, rfl, ?_⟩
      refine ite2 (fun y => ?_) (fun _ => ?_)
      · have y : V.int ((p + 1 + n : Nat) : Int) = V.int 0 := of_decide_eq_true y
        injection y with y
        omega
      · have e1 : (p : Int) + 1 = ((p + 1 : Nat) : Int) := by omega
        have e2 : ((p + 1 + n : Nat) : Int) - 1 = ((p + n : Nat) : Int) := by omega
        have cut := cut_codes z (p + 1) (p + n) (by omega)
        rw [show p + n - (p + 1) = n - 1 by omega] at cut
        have e3 : (p : Int) + ((n + 1 : Nat) : Int) = ((p + 1 + n : Nat) : Int) := by omega
        have hrep : Txt.replace (strOf (((codesOf z).drop (p + 1)).take (n - 1))) ("''" : Str) ("'" : Str) = strOf t := by
          have k2 : ("''" : Str) = strOf [39, 39] := by decide +kernel
          have k1 : ("'" : Str) = strOf [39] := by decide +kernel
          rw [← strOf_codes (Txt.replace _ _ _)]
          rw [strOf_inj]
          refine (replace_list (by decide +kernel)).trans ?_
          rw [k1, k2]
          rw [← h3]
          show replL (codesOf (strOf [39, 39])) (codesOf (strOf [39])) (codesOf (strOf (((codesOf z).drop (p + 1)).take (n - 1)))) = _
          rw [codes_strOf, codes_strOf, codes_strOf]
        have hlen : (strOf (((codesOf z).drop (p + 1)).take (n - 1))).length ≤ 2000 := by
          have := hz.len
          rw [len_codes, codes_strOf, List.length_take, List.length_drop]
          omega
        refine ⟨_, rfl, _, rfl, _, _, rfl, rfl, _, rfl, _, rfl, _, _, rfl, rfl, _, rfl, z, rfl, hs, _, rfl, ?_, _, rfl, (by show 3 ≤ sizeLine; decide), fun r hr => ?_⟩
        · show (cutS z (some ((p : Int) + 1)) (some (((p + 1 + n : Nat) : Int) - 1))).length + _ * _ ≤ _
          rw [e1, e2, cut]
          have : ("'" : Str).length = 1 := by decide +kernel
          rw [this]
          omega
        · have := q.at_ r hr
          rw [← Nat.add_assoc, Nat.add_right_comm] at this
          show Q (.ref r) (upd H r (.tup [.str _, .str (Txt.replace (cutS z (some ((p : Int) + 1)) (some (((p + 1 + n : Nat) : Int) - 1))) _ _), .int _]))
          rw [e1, e2, cut, hrep]
          exact this
end
end My

end
section
set_option Elab.async false
set_option linter.all false
set_option maxRecDepth 100000
set_option maxHeartbeats 2000000
namespace My
open PySem PySem.Spec PyProof.Rows L2
abbrev s_listed_at : Stmt := top 39
abbrev s_symbol_at : Stmt := top 38
def spListed (K : PySem.W.Frag) : Sp := fun vs H Q _ => ∃ (kd : Str) (a : Addr) (ws : List (List Nat)) (z : Str) (p : Nat), vs = [.str kd, .ref a, .str z, .int (p : Int)] ∧ SqT K H a (ws.map fun x => V.str (strOf x)) ∧ Src z ∧ p ≤ (codesOf z).length ∧
  [] ∉ ws ∧
  (0 < Tok.listed ws ((codesOf z).drop p) → ∀ r H', Same H H' → H r = none → H' r = some (.tup [.str kd, .str (strOf (((codesOf z).drop p).take (Tok.listed ws ((codesOf z).drop p)))), .int ((p + Tok.listed ws ((codesOf z).drop p) : Nat) : Int)]) → Q (.ref r) H') ∧
  (Tok.listed ws ((codesOf z).drop p) = 0 → ∀ H', Same H H' → Q .non H')
theorem mem_ws {ws : List (List Nat)} {x : List Nat} : inV (V.str (strOf x)) (ws.map fun x => V.str (strOf x)) = decide (x ∈ ws) := by
  unfold inV
  rw [Bool.eq_iff_iff, List.any_eq_true, decide_eq_true_iff]
  constructor
  · rintro ⟨v, hv, h⟩
    obtain ⟨y, hy, rfl⟩ := List.mem_map.mp hv
    have : strOf y = strOf x := by simpa [eqV] using h
    rw [← strOf_inj.mp this]
    exact hy
  · intro h
    exact ⟨_, List.mem_map.mpr ⟨x, h, rfl⟩, by simp [eqV]⟩
section
variable {P : Program} {w : World} {K : PySem.W.Frag} {mg : Str → Option Value} {base : Heap}
theorem sc_listed_at : FnScope ["kind", "words", "text", "place", "width", "found"] ["kind", "words", "text", "place"] (defScope s_listed_at) := ⟨rfl, rfl, rfl, by decide +kernel, rfl, by decide +kernel, by decide +kernel⟩
theorem ok_listed_at {f : Addr} {fd : FuncData} (F : FnP K "listed_at" s_listed_at f fd) (g_len : mg "len" = none) : FnOk P w K mg base CX0 2 f fd ["kind", "words", "text", "place"] (spListed K) := by
  refine F.ok sc_listed_at (fun vs H Q E h => ?_) (fun cdv A outer s H vs Q E hr h => ⟨_, PSs.nox
    (pss_cons (ps_for PassesOwn.never rfl (pi_tup (pe_tup (pa_cons pe_int (pa_cons pe_int pa_nil)))) (pg_name (i := 4) sc_listed_at.nd rfl (Or.inl rfl)) (pss_cons (ps_set (i := 5) sc_listed_at.nd rfl (Or.inl rfl) (pe_slice sl_str (pv 2) (po_some (pv 3)) (po_some (pe_op op_add (pv 3) (pv 4)))))
      (pss_one (ps_if (pt_cmpR op_in_seq (pv 5) (pv 1) (by rfl)) (pss_one (ps_ret (pe_tup (pa_cons (pv 0) (pa_cons (pv 5) (pa_cons (pe_op op_add (pv 3) (pe_callB call_len_str (by rfl) g_len PySem.boot_len (pa_cons (pv 5) pa_nil))) pa_nil)))))) pss_nil))))
      (pss_one (ps_ret pe_non))), ?_⟩)
  · obtain ⟨kd, a, ws, z, p, rfl, _⟩ := h
    rfl
  · obtain ⟨kd, a, ws, z, p, rfl, hw, hz, hp, hn, q1, q0⟩ := h
    have hs := sz_src hz
    have hflat : (ws.map fun x => V.str (strOf x)).all flatV = true := by
      rw [List.all_eq_true]
      intro v hv
      obtain ⟨y, _, rfl⟩ := List.mem_map.mp hv
      rfl
    refine ⟨(by show 2 ≤ sizeLine; decide), fun b nb => ?_⟩
    generalize hHb : upd H b (.tup [V.int 2, V.int 1]) = Hb
    have sb : Same H Hb := by rw [← hHb]; exact same_upd nb
    have hb : SqT K Hb b [V.int 2, V.int 1] := by rw [← hHb]; exact SqT.of upd_same
    have hw' : SqT K Hb a (ws.map fun x => V.str (strOf x)) := SqT.mono sb hw
    refine ⟨_, rfl, ⟨_, hb⟩, for_tup (xs := [V.int 2, V.int 1]) (fun i σ H' => H' = Hb ∧ ∃ x y, σ = [some (.str kd), some (.ref a), some (.str z), some (.int (p : Int)), x, y] ∧ (1 ≤ i → ((codesOf z).drop p).take 2 ∉ ws) ∧ (2 ≤ i → ((codesOf z).drop p).take 1 ∉ ws)) ⟨rfl, _, _, rfl, fun h => by omega, fun h => by omega⟩ ?_ ?_ ?_⟩
    · rintro i _ _ _ ⟨rfl, _⟩
      exact hb
    · have turn : ∀ (wd : Nat) (x y : Option V) (D : Ends), (((codesOf z).drop p).take wd ∈ ws → Tok.listed ws ((codesOf z).drop p) = (((codesOf z).drop p).take wd).length) → (((codesOf z).drop p).take wd ∉ ws → ∀ y', D.nx [some (.str kd), some (.ref a), some (.str z), some (.int (p : Int)), some (.int (wd : Int)), y'] Hb) → D.rt = Q →
          (tSeq (tAsg (tSl rSlS (tVar 2) (tPart (tVar 3)) (tPart (tOp (rI0 fun i j => V.int (i + j)) (tVar 3) (tVar 4)))) (gName 5))
            (tIfS (tTest (tOp (rIn K false) (tVar 5) (tVar 1)))
              (tRet (tTup (tCons (tVar 0) (tCons (tVar 5) (tCons (tOp (rI0 fun i j => V.int (i + j)) (tVar 3) (tCB (fun xs H Q => ∃ z, xs = [V.str z] ∧ z.length ≤ sizeLine ∧ Q (V.int ↑z.length) H) (tCons (tVar 5) tNil))) tNil))))) tNext)) D
          [some (.str kd), some (.ref a), some (.str z), some (.int (p : Int)), some (.int (wd : Int)), y] Hb := by
        intro wd x y D h1 h2 hD
        have e1 : (p : Int) + (wd : Int) = ((p + wd : Nat) : Int) := by omega
        have cut := cut_codes z p (p + wd) (by omega)
        rw [Nat.add_sub_cancel_left] at cut
        refine ⟨_, rfl, _, rfl, _, rfl, _, rfl, _, rfl, _, _, rfl, rfl, _, rfl, z, rfl, hs, ?_⟩
        rw [e1, cut]
        refine ⟨_, rfl, _, rfl, a, _, rfl, .inr hw', rfl, hflat, _, rfl, ?_⟩
        rw [mem_ws]
        refine ite2 (fun hx => ?_) (fun hx => ?_)
        · have hx := of_decide_eq_true hx
          have e := h1 hx
          have hlen : (strOf (((codesOf z).drop p).take wd)).length = (((codesOf z).drop p).take wd).length := by rw [len_codes, codes_strOf]
          refine ⟨_, rfl, _, rfl, _, rfl, _, rfl, _, rfl, ?_, _, _, rfl, rfl, (by show 3 ≤ sizeLine; decide), fun r hr => ?_⟩
          · rw [hlen, List.length_take, List.length_drop]
            have := hz.len
            rw [sizeLine_eq]
            omega
          · rw [hD]
            have ne : ((codesOf z).drop p).take wd ≠ [] := fun y => hn (y ▸ hx)
            have pos : 0 < Tok.listed ws ((codesOf z).drop p) := by
              rw [e]
              exact List.length_pos_iff.mpr ne
            have tk : ((codesOf z).drop p).take (Tok.listed ws ((codesOf z).drop p)) = ((codesOf z).drop p).take wd := by
              rw [e, List.length_take, List.take_eq_take_iff]
              omega
            refine q1 pos r _ (sb.trans (same_upd hr)) (sb.free hr) ?_
            rw [tk, e, hlen]
            exact upd_same
        · exact h2 (fun y => hx (decide_eq_true y)) _
      rintro i v σ H2 hi ⟨rfl, x, y, rfl, g1, g2⟩
      match i, hi with
      | 0, hi =>
        cases hi
        refine turn 2 x y _ (fun h => ?_) (fun h y' => ⟨rfl, _, _, rfl, fun _ => h, fun z => by omega⟩) rfl
        unfold Tok.listed
        rw [if_pos h]
      | 1, hi =>
        cases hi
        have n2 := g1 (Nat.le_refl _)
        refine turn 1 x y _ (fun h => ?_) (fun h y' => ⟨rfl, _, _, rfl, fun _ => n2, fun z => h⟩) rfl
        unfold Tok.listed
        rw [if_neg n2, if_pos h]
      | i + 2, hi => simp at hi
    · rintro σ H2 ⟨rfl, x, y, rfl, g1, g2⟩
      refine q0 ?_ _ sb
      unfold Tok.listed
      rw [if_neg (g1 (by decide)), if_neg (g2 (by decide))]
end
end My

end
section
set_option Elab.async false
set_option linter.all false
set_option maxRecDepth 100000
set_option maxHeartbeats 2000000
namespace My
open PySem PySem.Spec PyProof.Rows L2
theorem keyLen_len (l : List Nat) : Tok.keyLen l ≤ l.length := by
  unfold Tok.keyLen
  split
  · rename_i h
    have : Tok.nameLen l < l.length := by
      rcases Nat.lt_or_ge (Tok.nameLen l) l.length with x | x
      · exact x
      · rw [List.drop_eq_nil_of_le x] at h
        cases h.2.1
    omega
  · exact Nat.zero_le _
theorem keys_fuel : ∀ (n : Nat) (l : List Nat) (f g : Nat), l.length ≤ n → l.length ≤ f → l.length ≤ g → Tok.keysLen f l = Tok.keysLen g l := by
  intro n
  induction n using Nat.strongRecOn with
  | ind n ih =>
    intro l f g hn hf hg
    have h0 : Tok.keyLen l ≤ l.length := keyLen_len l
    cases f with
    | zero =>
      cases g with
      | zero => rfl
      | succ g =>
        show 0 = (if 0 < Tok.keyLen l then _ else 0)
        rw [if_neg (by omega)]
    | succ f =>
      cases g with
      | zero =>
        show (if 0 < Tok.keyLen l then _ else 0) = 0
        rw [if_neg (by omega)]
      | succ g =>
        show (if 0 < Tok.keyLen l then _ else 0) = (if 0 < Tok.keyLen l then _ else 0)
        by_cases c : 0 < Tok.keyLen l
        · rw [if_pos c, if_pos c]
          rw [ih (n - 1) (by omega) (l.drop (Tok.keyLen l)) f g (by rw [List.length_drop]; omega) (by rw [List.length_drop]; omega) (by rw [List.length_drop]; omega)]
        · rw [if_neg c, if_neg c]
def keys (l : List Nat) : Nat := Tok.keysLen l.length l
theorem keys_eq (l : List Nat) : keys l = if 0 < Tok.keyLen l then Tok.keyLen l + keys (l.drop (Tok.keyLen l)) else 0 := by
  have h0 : Tok.keyLen l ≤ l.length := keyLen_len l
  have e : keys l = Tok.keysLen (l.length + 1) l := keys_fuel l.length l _ _ (Nat.le_refl _) (Nat.le_refl _) (Nat.le_succ _)
  rw [e]
  show (if 0 < Tok.keyLen l then Tok.keyLen l + Tok.keysLen l.length (l.drop (Tok.keyLen l)) else 0) = _
  by_cases c : 0 < Tok.keyLen l
  · rw [if_pos c, if_pos c]
    unfold keys
    rw [keys_fuel l.length (l.drop (Tok.keyLen l)) l.length _ (by rw [List.length_drop]; omega) (by rw [List.length_drop]; omega) (Nat.le_refl _)]
  · rw [if_neg c, if_neg c]
def symWord (r : List Nat) : Option (Tok.Kd × Tok.Val × Nat) := (Tok.symbol r).map fun x => (.sym, x.1, x.2 + 1)
def spSymAt : Sp := fun vs H Q _ => ∃ (z : Str) (p : Nat), vs = [.str z, .int (p : Int)] ∧ Src z ∧ p < (codesOf z).length ∧ wOut H Q p (symWord ((codesOf z).drop (p + 1)))
/-- a tuple of the module: these texts -/
def TupAt (K : PySem.W.Frag) (mg : Str → Option Value) (x : Str) (ws : List (List Nat)) : Prop := ∃ a, mg x = some (.ref a) ∧ ∀ H, SqT K H a (ws.map fun x => V.str (strOf x))
section
variable {P : Program} {w : World} {K : PySem.W.Frag} {mg : Str → Option Value} {base : Heap}
theorem sc_symbol_at : FnScope ["text", "place", "start", "word", "end"] ["text", "place"] (defScope s_symbol_at) := ⟨rfl, rfl, rfl, by decide +kernel, rfl, by decide +kernel, by decide +kernel⟩
theorem ok_symbol_at {f fN fK fE fS fL : Addr} {fd fdN fdK fdE fdS fdL : FuncData} (F : FnP K "symbol_at" s_symbol_at f fd) (FN : FnP K "name_end" s_name_end fN fdN) (FK : FnP K "keyword_end" s_keyword_end fK fdK) (FE : FnP K "string_end" s_string_end fE fdE) (FS : FnP K "string_at" s_string_at fS fdS) (FL : FnP K "listed_at" s_listed_at fL fdL)
    (g_name_end : mg "name_end" = some (.ref fN)) (g_keyword_end : mg "keyword_end" = some (.ref fK)) (g_string_end : mg "string_end" = some (.ref fE)) (g_string_at : mg "string_at" = some (.ref fS)) (g_listed_at : mg "listed_at" = some (.ref fL)) (g_len : mg "len" = none) (g_LN : ∃ t, mg "LONGEST_NAME" = some (.int 40 t)) (g_OP : TupAt K mg "OPERATORS" Tok.ops) :
    FnOk P w K mg base CX0 4 f fd ["text", "place"] spSymAt := by
  have G_name_end : FnOk P w K mg base CX0 2 fN fdN _ spNameEnd := ok_name_end FN g_len g_LN
  have b_name_end : Binds K fdN ["text", "place"] [] := FN.bindsN fun _ _ _ _ _ _ us hl => match us, hl with | [_, _], _ => rfl
  have k_name_end := FN.kp
  have G_keyword_end : FnOk P w K mg base CX0 3 fK fdK _ spKeyEnd := ok_keyword_end FK FN g_name_end g_len g_LN
  have b_keyword_end : Binds K fdK ["text", "place"] [] := FK.bindsN fun _ _ _ _ _ _ us hl => match us, hl with | [_, _], _ => rfl
  have k_keyword_end := FK.kp
  have G_string_at : FnOk P w K mg base CX0 3 fS fdS _ spStrAt := ok_string_at FS FE g_string_end
  have b_string_at : Binds K fdS ["text", "place"] [] := FS.bindsN fun _ _ _ _ _ _ us hl => match us, hl with | [_, _], _ => rfl
  have k_string_at := FS.kp
  have G_listed_at : FnOk P w K mg base CX0 2 fL fdL _ (spListed K) := ok_listed_at FL g_len
  have b_listed_at : Binds K fdL ["kind", "words", "text", "place"] [] := FL.bindsN fun _ _ _ _ _ _ us hl => match us, hl with | [_, _, _, _], _ => rfl
  have k_listed_at := FL.kp
  obtain ⟨aOP, g_OPERATORS, hOP⟩ := g_OP
  have r_OPERATORS : RelV (.ref aOP) (.ref aOP) := rfl
  refine F.ok sc_symbol_at (fun vs H Q E h => ?_) (fun cdv A outer s H vs Q E hr h => ⟨_, PSs.nox
    (pss_cons (ps_set (i := 2) sc_symbol_at.nd rfl (Or.inl rfl) (pe_op op_add (pv 1) pe_int))
      (pss_cons (ps_if (pt_cmpR op_eq (pe_slice sl_str (pv 0) (po_some (pv 2)) (po_some (pe_op op_add (pv 2) pe_int))) pe_str (nomark _)) (pss_cons (ps_set (i := 3) sc_symbol_at.nd rfl (Or.inl rfl) (pe_call G_string_at (hr.mono (by decide)) rfl g_string_at k_string_at b_string_at .nil pass0 (pa_cons (pv 0) (pa_cons (pv 2) pa_nil))))
      (pss_one (ps_ret (pe_ifExp (pt_cmpR op_notN (pv 3) pe_non (nomark _)) (pe_tup (pa_cons pe_str (pa_cons (pe_ix ix_tup (pv 3) pe_int (fun _ _ => rfl)) (pa_cons (pe_ix ix_tup (pv 3) pe_int (fun _ _ => rfl)) pa_nil)))) pe_non)))) pss_nil)
      (pss_cons (ps_set (i := 4) sc_symbol_at.nd rfl (Or.inl rfl) (pv 2))
      (pss_cons (ps_while PassesOwn.never (pt_cmpR op_gt (pe_call G_keyword_end (hr.mono (by decide)) rfl g_keyword_end k_keyword_end b_keyword_end .nil pass0 (pa_cons (pv 0) (pa_cons (pv 4) pa_nil))) (pv 4) (nomark _)) (pss_one (ps_set (i := 4) sc_symbol_at.nd rfl (Or.inl rfl) (pe_call G_keyword_end (hr.mono (by decide)) rfl g_keyword_end k_keyword_end b_keyword_end .nil pass0 (pa_cons (pv 0) (pa_cons (pv 4) pa_nil))))))
      (pss_cons (ps_if (pt_cmpR op_eq (pv 4) (pv 2) (nomark _)) (pss_one (ps_set (i := 4) sc_symbol_at.nd rfl (Or.inl rfl) (pe_call G_name_end (hr.mono (by decide)) rfl g_name_end k_name_end b_name_end .nil pass0 (pa_cons (pv 0) (pa_cons (pv 2) pa_nil))))) pss_nil)
      (pss_cons (ps_if (pt_cmpR op_gt (pv 4) (pv 2) (nomark _)) (pss_one (ps_ret (pe_tup (pa_cons pe_str (pa_cons (pe_slice sl_str (pv 0) (po_some (pv 2)) (po_some (pv 4))) (pa_cons (pv 4) pa_nil)))))) pss_nil)
      (pss_cons (ps_set (i := 3) sc_symbol_at.nd rfl (Or.inl rfl) (pe_call G_listed_at (hr.mono (by decide)) rfl g_listed_at k_listed_at b_listed_at .nil pass0 (pa_cons pe_str (pa_cons (pe_glob rfl g_OPERATORS r_OPERATORS) (pa_cons (pv 0) (pa_cons (pv 2) pa_nil))))))
      (pss_one (ps_ret (pv 3)))))))))), ?_⟩)
  · obtain ⟨z, p, rfl, _⟩ := h
    rfl
  · obtain ⟨z, p, rfl, hz, hp, q⟩ := h
    have hs := sz_src hz
    have e1 : (p : Int) + 1 = ((p + 1 : Nat) : Int) := by omega
    have e2 : ((p + 1 : Nat) : Int) + 1 = ((p + 2 : Nat) : Int) := by omega
    have cut := cut_codes z (p + 1) (p + 2) (by omega)
    rw [show p + 2 - (p + 1) = 1 by omega] at cut
    have k39 : ("'" : Str) = strOf [39] := by decide +kernel
    unfold symWord at q
    refine ⟨_, rfl, _, _, rfl, rfl, ?_⟩
    show tSeq _ _ _ [some (.str z), some (.int (p : Int)), some (.int ((p : Int) + 1)), none, none] H
    rw [e1]
    refine ⟨_, rfl, _, rfl, _, rfl, _, rfl, _, _, rfl, rfl, _, rfl, z, rfl, hs, rfl, _, rfl, ?_⟩
    rw [e2, cut, k39]
    generalize hr0 : (codesOf z).drop (p + 1) = r at q cut ⊢
    have hr1 : r.length = (codesOf z).length - (p + 1) := by rw [← hr0, List.length_drop]
    refine ite2 (fun hx => ?_) (fun hx => ?_)
    · rw [eq_txt, strOf_inj, take1_is] at hx
      have hlt : p + 1 < (codesOf z).length := by
        cases r with
        | nil => cases hx
        | cons _ _ => rw [List.length_cons] at hr1; omega
      have hsym : Tok.symbol r = (match body ((codesOf z).drop (p + 1 + 1)) with | some (t, n) => some (.s t, n + 1) | none => none) := by
        have e : r.drop 1 = (codesOf z).drop (p + 1 + 1) := by rw [← hr0, List.drop_drop]
        unfold Tok.symbol
        rw [if_pos hx, sb_body (f := r.length) (by rw [List.length_drop]; omega), e]
        all_goals (cases body ((codesOf z).drop (p + 1 + 1)) <;> rfl)
      rw [hsym] at q
      refine ⟨_, rfl, _, rfl, z, p + 1, rfl, hz, hlt, ?_⟩
      unfold strWord
      cases hb : body ((codesOf z).drop (p + 1 + 1)) with
      | none =>
        rw [hb] at q
        intro H1 s1
        refine ⟨_, rfl, rfl, _, rfl, ?_⟩
        exact ite2 (fun y => by simp at y) (fun _ => q H1 s1)
      | some x =>
        obtain ⟨t, n⟩ := x
        rw [hb] at q
        intro r1 H1 s1 n1 h1
        refine ⟨_, rfl, rfl, _, rfl, ?_⟩
        refine ite2 (fun _ => ?_) (fun y => absurd rfl y)
        refine ⟨_, rfl, _, _, _, _, rfl, rfl, SqT.of h1, rfl, _, rfl, _, _, _, _, rfl, rfl, SqT.of h1, rfl, (by show 3 ≤ sizeLine; decide), fun r2 n2 => ?_⟩
        refine q r2 _ (s1.trans (same_upd n2)) (s1.free n2) ?_
        rw [upd_same, show p + (n + 1 + 1) = p + 1 + (n + 1) by omega]
        rfl
    · have hx : ¬ r.head? = some 39 := fun y => hx (by rw [eq_txt, strOf_inj, take1_is]; exact y)
      refine ⟨_, rfl, ?_⟩
      have fin : ∀ n : Nat, (0 < n → Tok.symbol r = some (.s (r.take n), n)) → (n = 0 → keys r = 0 ∧ Tok.nameLen r = 0) →
          (tSeq
                (tIfS (tTest (tOp (rI0 fun i j => V.bl (decide (j < i))) (tVar 4) (tVar 2)))
                  (tRet
                    (tTup
                      (tCons (tC (V.str (Str.ofString "sym")))
                        (tCons (tSl rSlS (tVar 0) (tPart (tVar 2)) (tPart (tVar 4))) (tCons (tVar 4) tNil)))))
                  tNext)
                (tSeq
                  (tAsg
                    (tCall (spListed K) [] E0
                      (tCons (tC (V.str (Str.ofString "sym")))
                        (tCons (tC (V.ref aOP)) (tCons (tVar 0) (tCons (tVar 2) tNil)))))
                    (gName 3))
                  (tRet (tVar 3)))) { nx := fun x H' => Q V.non H', rt := Q } [some (.str z), some (.int (p : Int)), some (.int ((p + 1 : Nat) : Int)), none, some (.int ((p + 1 + n : Nat) : Int))] H := by
        intro n h1 h0
        have cutn := cut_codes z (p + 1) (p + 1 + n) (by omega)
        rw [Nat.add_sub_cancel_left, hr0] at cutn
        refine ⟨_, rfl, _, rfl, _, _, rfl, rfl, _, rfl, ?_⟩
        refine ite2 (fun y => ?_) (fun y => ?_)
        · have y := of_decide_eq_true y
          rw [h1 (by omega)] at q
          refine ⟨_, rfl, _, rfl, _, rfl, _, rfl, _, rfl, z, rfl, hs, _, rfl, (by show 3 ≤ sizeLine; decide), fun r2 n2 => ?_⟩
          refine q r2 _ (same_upd n2) n2 ?_
          rw [upd_same, cutn, show p + (n + 1) = p + 1 + n by omega]
          rfl
        · have y : ¬ (((p + 1 : Nat) : Int) < ((p + 1 + n : Nat) : Int)) := fun x => y (decide_eq_true x)
          obtain ⟨k0, m0⟩ := h0 (by omega)
          have hsym : Tok.symbol r = if 0 < Tok.listed Tok.ops r then some (.s (r.take (Tok.listed Tok.ops r)), Tok.listed Tok.ops r) else none := by
            unfold Tok.symbol
            rw [if_neg hx, if_neg (by show ¬ 0 < keys r; omega), if_neg (by omega)]
          rw [hsym] at q
          refine ⟨_, rfl, _, rfl, _, aOP, Tok.ops, z, p + 1, rfl, hOP H, hz, by omega, by decide, ?_, ?_⟩
          · rw [hr0]
            intro hpos r2 H2 s2 n2 h2
            rw [if_pos hpos] at q
            refine ⟨_, rfl, q r2 H2 s2 n2 ?_⟩
            rw [h2, show p + (Tok.listed Tok.ops r + 1) = p + 1 + Tok.listed Tok.ops r by omega]
            rfl
          · rw [hr0]
            intro hz0 H2 s2
            rw [if_neg (by omega)] at q
            exact ⟨_, rfl, q H2 s2⟩
      refine while_by (fun σ H' => H' = H ∧ ∃ e : Nat, σ = [some (.str z), some (.int (p : Int)), some (.int ((p + 1 : Nat) : Int)), none, some (.int (e : Int))] ∧ p + 1 ≤ e ∧ e ≤ (codesOf z).length ∧ e + keys ((codesOf z).drop e) = p + 1 + keys r) (fun σ _ => match σ with | [_, _, _, _, some (.int e)] => (codesOf z).length - e.toNat | _ => 0) ⟨rfl, p + 1, rfl, Nat.le_refl _, by omega, by rw [hr0]⟩ ?_ ?_
      · rintro _ H0 ⟨hH, e, rfl, h1, h2, h3⟩
        subst hH
        refine ⟨_, rfl, _, rfl, z, e, rfl, hz, h2, ?_⟩
        refine ⟨_, rfl, _, _, rfl, rfl, _, rfl, ?_⟩
        have hke := keys_eq ((codesOf z).drop e)
        have hkl := keyLen_len ((codesOf z).drop e)
        rw [List.length_drop] at hkl
        refine ite2 (fun y => ?_) (fun y => ?_)
        · have y := of_decide_eq_true y
          rw [if_pos (by omega), List.drop_drop] at hke
          refine ⟨_, rfl, _, rfl, z, e, rfl, hz, h2, ⟨rfl, e + Tok.keyLen ((codesOf z).drop e), rfl, by omega, by omega, by omega⟩, ?_⟩
          show (codesOf z).length - (((e + Tok.keyLen ((codesOf z).drop e) : Nat) : Int).toNat) < (codesOf z).length - ((e : Int).toNat)
          omega
        · have y : ¬ ((e : Int) < ((e + Tok.keyLen ((codesOf z).drop e) : Nat) : Int)) := fun x => y (decide_eq_true x)
          rw [if_neg (by omega)] at hke
          have he : e = p + 1 + keys r := by omega
          subst he
          refine ⟨_, rfl, _, rfl, rfl, _, rfl, ?_⟩
          refine ite2 (fun w0 => ?_) (fun w0 => ?_)
          · have w0 : V.int ((p + 1 + keys r : Nat) : Int) = V.int ((p + 1 : Nat) : Int) := of_decide_eq_true w0
            injection w0 with w0
            have k0 : keys r = 0 := by omega
            refine ⟨_, rfl, _, rfl, z, p + 1, rfl, hz, by omega, ?_⟩
            rw [hr0]
            refine fin (Tok.nameLen r) (fun c => ?_) (fun c => ⟨k0, c⟩)
            unfold Tok.symbol
            rw [if_neg hx, if_neg (by show ¬ 0 < keys r; omega), if_pos c]
          · have k0 : keys r ≠ 0 := fun c => w0 (by rw [c]; exact decide_eq_true rfl)
            refine fin (keys r) (fun c => ?_) (fun c => absurd c k0)
            unfold Tok.symbol
            rw [if_neg hx, if_pos (by show 0 < keys r; omega)]
            rfl
      · rintro σ H Q Q' hq ⟨a, h1, b, h2, z, p, h3, h4, h5, c, h6, i, j, h7, h8, k, h9, h⟩
        exact ⟨a, h1, b, h2, z, p, h3, h4, h5, c, h6, i, j, h7, h8, k, h9, hq _ _ h⟩
end
end My

end
section
set_option Elab.async false
set_option linter.all false
set_option maxRecDepth 100000
set_option maxHeartbeats 4000000
/-! super().__init__(f'..{x}') and one field: an own exception made. -/
namespace PySem
namespace SupX
open PySem.W PySem.Calls PyProof.Rows PySem.HandSPX
def sInit : Stmt := L2.inClass (PySem.Challenge.pw_imagetalk_k01_words_put_together.main.body.getD 2 (.Pass ⟨0, 0, 0, 0⟩)) 0
structure SupTxt (prog : Program) (K : Frag) (mg : Str → Option Value) (qual : Str) (C fI : Addr) : Prop where
  kC : keepIn K (.ref C) = true
  exC : subIn K (.ref C) (.type "BaseException") = some true
  tyC : typeIn K (.ref C) = some (.type "type")
  cls : ∃ nm q N bs bm sn sub ab col dd k0 k1 k2 k3 k5, K.lookup C = some (excClassObj nm q C N bs bm true sn sub ab col dd k0 k1 k2 k3 k5 "ValueError.__new__") ∧ refsVE bm = true ∧ alongIn K "__init__" bm = some (some (.builtin "ValueError.__init__"))
  sa : findIn K (.ref C) "__setattr__" = some (some (.builtin "object.__setattr__"))
  noN : findIn K (.ref C) "place" = some none
  iC : findIn K (.ref C) "__init__" = some (some (.ref fI))
  tC : typeIn K (.ref fI) = some (.type "function")
  noS : mg "super" = none
  tp : nsIn K cStatics "thirdparty.any" = some none
  subVE : subIn K (.ref C) (.type "ValueError") = some true
  mroC : mroIn K C (.ref C) = some true
  top : (prog.main.scope.names.lookup ("super" : Str)).isSome = false
  fn : ∃ (oc doc pm ct : Value) (od an : Option Addr) (osl : Array (Option Value)) (cda cc : Addr) (ccl cl : Value) (cdd cld : Option Addr) (ccs csl : Array (Option Value)) (vs : Array Value) (file : Str) (tf : Tok),
    K.lookup fI = some ⟨oc, od, .func (ksFn "__init__" qual (L2.defArgs sInit) (L2.defBody sInit) (L2.defScope sInit) .none .none doc pm an (.ref cda) ct cc), osl⟩ ∧ codeIn K (.ref cda) qual = true ∧
    K.lookup cda = some ⟨ccl, cdd, .fields vs, ccs⟩ ∧ vs[2]? = some (.str file tf) ∧ ((prog.main.file : Str) == file) = true ∧ K.lookup cc = some ⟨cl, cld, .cell (some (.ref C)), csl⟩
/-- what __init__ leaves of a fresh exception at x -/
structure InitEnd (h h' : Heap) (x C dx : Addr) (v : Value) : Prop where
  keep : ∀ b o, b ≠ x → h.get? b = some o → h'.get? b = some o
  obj : ∃ t1, h'.get? x = some { cls := .ref C, dict := some dx, data := .fields #[.ref t1, .none, .none, .none, .bool false, .none] }
  dbig : h.objs.size ≤ dx
  dne : dx ≠ x
  ns : h'.Ns1 dx (fun y => if y = "place" then some v else none)
section
variable {prog : Program} {w : World} {A : Around} {E : Value → Shared → Prop} {R : Result → Shared → Prop} {s : Shared} {K : Frag} {mg : Str → Option Value} {base : Heap} {C fI : Addr} {qual : Str}
theorem sup_init (T : SupTxt prog K mg qual C fI) {x t0 : Addr} {n : Int} {tn : Tok} (hn : n.natAbs.log2 < 64) (MD : L2.Mod K mg base) (hbs : ∀ b o, base.get? b = some o → s.heap.get? b = some o) (hx : s.heap.get? x = some (excO C t0)) (hnx : K.lookup x = none) (hroom : A.depth < recursionLimit)
    (hq : ∀ h' tk dx, InitEnd s.heap h' x C dx (.int n tn) → R (.ok (.ret .none)) { s with heap := h', toks := tk }) :
    codeAny (model prog w) A (.call (.ref fI) ⟨[.ref x, .int n tn], []⟩) R s := by
  obtain ⟨oc, doc, pm, ct, od, an, osl, cda, cc, ccl, cl, cdd, cld, ccs, csl, vs, file, tf, lk, hcd, hcode, hvs, hfile, hcell⟩ := T.fn
  obtain ⟨nm, q, N, bs, bm, sn, sub, ab, col, dd, k0, k1, k2, k3, k5, hC, hbm, hal⟩ := T.cls
  have X : K.In s.heap := fun a o e => hbs _ _ (MD.kin a o e)
  have hlim : s.heap.NoLimit := MD.nolimit.keeps hbs
  have hloc : ∀ y ∈ [((PySem.Str.ofString "self" : Str), Value.ref x), ("place", .int n tn)], (L2.defScope sInit).names.lookup y.1 = some .local := fun y hy => by
    rcases List.mem_cons.mp hy with e | hy
    · subst e
      rfl
    · rcases List.mem_cons.mp hy with e | hy
      · subst e
        rfl
      · cases hy
  refine ks_codeAny_call_defAt (fd := ksFn "__init__" qual (L2.defArgs sInit) (L2.defBody sInit) (L2.defScope sInit) .none .none doc pm an (.ref cda) ct cc) (binds := [("self", .ref x), ("place", .int n tn)]) hroom (X _ _ lk) rfl hlim (codeRec_of X hcd) rfl (BindsTo.of_eq (by first | rfl | with_unfolding_all rfl)) (by show ∀ x ∈ (L2.defScope sInit).names, x.2 ≠ .cell; decide +kernel) hloc (fun h₁ hns hk => ?_) rfl rfl rfl
  have X₁ : K.In h₁ := X.keeps hk
  have hx₁ := hk _ _ hx
  show wpAt _ _ _ (execs (L2.defBody sInit) (ksEnv qual (L2.defScope sInit) s.heap.objs.size fI (.ref cda) cc)) _ _ _
  refine ks_wpAt_execs_cons (ks_wpAt_Expr_any (ks_wpAt_MethodCall ?_))
  obtain ⟨mb, hmb, hmb2⟩ := MD.blt
  obtain ⟨cdC, hcdC⟩ : ∃ cd, clsIn K C = some cd := by unfold clsIn; rw [hC]; exact ⟨_, rfl⟩
  have hD2 : (excClassObj nm q C N bs bm true sn sub ab col dd k0 k1 k2 k3 k5 "ValueError.__new__").data = .cls { name := nm, bases := bs, mro := .ref C :: bm, ns := N, qualname := q, hasDict := true, slotNames := sn, subclasses := sub, abstract := ab, collection := col, hasDel := false } := rfl
  refine ks_wpAt_super_base (env := ksEnv qual (L2.defScope sInit) s.heap.objs.size fI (.ref cda) cc) rfl rfl (by decide) rfl (X₁ _ _ lk) rfl rfl rfl (X₁ _ _ hcode) rfl hvs hfile T.top ?_
  refine ks_loadName_global rfl rfl (loadGlobal_builtin (env := ksEnv qual (L2.defScope sInit) s.heap.objs.size fI (.ref cda) cc) ((MD.glob.keeps hbs).keeps hk) T.noS ((hmb.keeps hbs).keeps hk) ((hmb2 _ (by decide +kernel)).trans (by first | boot_by_name | rfl | kernel_rfl | decide +kernel)) ⟨rfl, ?_⟩)
  refine wpAny_loadName_free rfl rfl rfl ⟨_, X₁ _ _ hcell, rfl⟩ ?_
  refine wpAny_loadName_local rfl rfl hns rfl ?_
  refine ks_wpAny_isType_cls (X₁ _ _ hC) hD2 ⟨rfl, ?_⟩
  refine ks_wpAny_call_super (X₁ _ _ hC) hD2 hx₁ rfl (fun c e => by cases e) (looks_mroIn X₁ T.mroC) (fun h₂ e₂ k₂ => ?_)
  have X₂ : K.In h₂ := X₁.keeps k₂
  have hx₂ := k₂ _ _ hx₁
  have I₂ : InstAt h₂ x (excO C t0) C none := ⟨hx₂, rfl, rfl, trivial⟩
  have hxC : x ≠ C := fun e => by
    rw [e] at hx₂
    have := (X₂ _ _ hC).symm.trans hx₂
    cases this
  have hmro : Looks (model prog w) h₂ (mroOf (.ref C)) (.ref C :: bm) := fun A' Q' E' s' k' q' => wpAny_bind ((looks_clsIn X₂ (show clsIn K C = some { name := nm, bases := bs, mro := .ref C :: bm, ns := N, qualname := q, hasDict := true, slotNames := sn, subclasses := sub, abstract := ab, collection := col, hasDel := false } by unfold clsIn; rw [hC] <;> rfl)) A' _ E' s' k' (wpAny_pure q'))
  refine kxs_getMethod kxs_ValueError e₂ (looks_opaque X₂ T.tp) hmro (l := bm) (by simp [List.dropWhile_cons]) X₂ hal (I₂.type.andThen (looks_subIn X₂ T.subVE)) hxC (by decide) ?_
  have e₃ : (h₂.push (kxs_mw "ValueError.__init__" x)).get? h₂.objs.size = some (kxs_mw "ValueError.__init__" x) := Heap.get?_push_at rfl rfl
  have k₃ : ∀ b o, h₂.get? b = some o → (h₂.push (kxs_mw "ValueError.__init__" x)).get? b = some o := fun b o e => Heap.get?_push_of_some _ e
  have up : ∀ b o, h₁.get? b = some o → (h₂.push (kxs_mw "ValueError.__init__" x)).get? b = some o := fun b o e => k₃ _ _ (k₂ _ _ e)
  generalize hh₃ : h₂.push (kxs_mw "ValueError.__init__" x) = h₃ at e₃ k₃ up ⊢
  have hns₃ := hns.keeps up
  have lt : ("bad source at " : Str).length ≤ 100 := by decide +kernel
  have lz := int_text_len_1921 (i := n) (by omega)
  refine kxs_callWith (i := "ValueError.__init__") (x := x) rfl ?_
  refine evalArgs_plain ?_
  refine spliced_cons ?_
  rw [if_neg Bool.false_ne_true]
  have lE : (Str.empty ++ ("bad source at " : Str)).length ≤ 100 := by decide +kernel
  have lA : ((Str.empty ++ ("bad source at " : Str)) ++ Str.ofString (toString n)).length ≤ sizeLine := by
    rw [PySem.Str.length_append, sizeLine_eq]
    omega
  refine PyProof.Rows.JoinedStr_many ?_
  refine PyProof.Rows.joinParts_cons ?_
  refine Constant_str ⟨?_, ?_⟩
  · show (Str.empty ++ ("bad source at " : Str)).length ≤ sizeLine
    decide +kernel
  refine PyProof.Rows.joinParts_cons ?_
  refine wpAny_FormattedValue_plain ?_
  refine wpAny_Name (wpAny_loadName_local rfl rfl hns₃ rfl ?_) (by decide)
  refine wpAny_formatField_int (by omega) ⟨lA, ?_⟩
  refine PyProof.Rows.joinParts_nil ?_ lA
  dsimp only
  generalize (Value.str _ _) = vt
  refine spliced_nil ⟨e₃, ?_⟩
  show wpAny _ _ (call (.ref h₂.objs.size) [vt]) _ _ _
  have hx₃ : h₃.get? x = some (excRec (.ref C) t0 none .none .none (.bool false)) := k₃ _ _ hx₂
  have X₃ : K.In h₃ := X₂.keeps k₃
  have one : [vt].length ≤ sizeLine := by
    rw [sizeLine_eq]
    exact (by decide : 1 ≤ 16777216)
  refine wpAny_call (codeAny_of_tree ?_)
  show wpAny _ _ (callAny (.ref h₂.objs.size) ⟨[vt], []⟩) _ _ _
  simp only [callAny]
  refine wpAny_bind (wpAny_load e₃ ?_)
  simp only [kxs_mw, show (Value.type "method-wrapper" == Value.type "method" || Value.type "method-wrapper" == Value.type "builtin_function_or_method" || Value.type "method-wrapper" == Value.type "method-wrapper") = true by decide, if_true]
  refine KFB.if_so (by decide) ?_
  refine wpAny_bind (check_bound_init PySem.F.excBase_ValueError.toExcCallFacts (X₃ _ _ hC) hx₃ rfl ?_)
  refine wpAny_bind (wpAny_pure (wpAny_pure ?_))
  refine ⟨plainId_quiet PySem.F.excBase_ValueError.init.plain _, codeAny_builtin PySem.F.excBase_ValueError.initEntry ?_⟩
  refine exc_init_tree (cls := .ref C) (t0 := t0) (dv := none) (c2 := .none) (c3 := .none) (b4 := .bool false) hx₃ one fun h₄ k₄ x₄ t₄ => ?_
  dsimp only
  have X₄ : K.In h₄ := fun a o e => k₄ _ _ (fun z => by rw [z, hnx] at e; cases e) (X₃ _ _ e)
  have hxL : s.heap.objs.size ≠ x := Nat.ne_of_gt (Heap.lt_size hx)
  have hns₄ : h₄.Ns s.heap.objs.size (fun y => List.lookup y [(Str.ofString "self", Value.ref x), (Str.ofString "place", Value.int n tn)].reverse) := by
    obtain ⟨o, es, ep, g, r⟩ := hns₃
    exact ⟨o, es, ep, k₄ _ _ hxL g, r⟩
  refine ks_wpAt_execs_cons (ks_wpAt_Assign_Attr (wpAt_of_wpAny ?_))
  refine wpAny_Name (wpAny_loadName_local rfl rfl hns₄ rfl ?_) (by decide)
  refine wpAny_Name (wpAny_loadName_local rfl rfl hns₄ rfl ?_) (by decide)
  refine set_plain X₄ (ox := excO C h₃.objs.size) (od := none) ⟨x₄, rfl, rfl, trivial⟩ T.sa ?_
  have hcl : clsIn K C = some { name := nm, bases := bs, mro := .ref C :: bm, ns := N, qualname := q, hasDict := true, slotNames := sn, subclasses := sub, abstract := ab, collection := col, hasDel := false } := by unfold clsIn; rw [hC] <;> rfl
  refine exc_osa X₄ x₄ hcl (show refsVE (.ref C :: bm) = true from hbm) rfl T.noN (fun h₅ tk₅ dx k₅ dn dne hx₅ hn₅ => ?_)
  show wpAt _ _ _ (execs [] _) _ _ _
  refine wpAt_of_wpAny (wpAny_execs_nil ?_)
  have z₁ : s.heap.objs.size < h₄.objs.size := hns₄.lt
  exact hq h₅ tk₅ dx ⟨fun b o hb e => k₅ b o hb (k₄ b o hb (up _ _ (hk _ _ e))), ⟨_, hx₅⟩, Nat.le_of_lt (Nat.lt_of_lt_of_le z₁ dn), dne, hn₅⟩
theorem one_size (v : Value) : [v].length ≤ sizeLine := by
  rw [sizeLine_eq]
  exact (by decide : 1 ≤ 16777216)
/-- a made exception of one field, place -/
structure OwnMade (h h' : Heap) (e C d : Addr) (v : Value) : Prop where
  keep : ∀ b o, h.get? b = some o → h'.get? b = some o
  new : h.objs.size ≤ e
  obj : ∃ oe vs, h'.get? e = some oe ∧ oe.cls = .ref C ∧ oe.dict = some d ∧ oe.data = .fields vs ∧ vs[1]? = some .none
  dbig : h.objs.size ≤ d
  dne : d ≠ e
  ns : h'.Ns1 d (fun y => if y = "place" then some v else none)
theorem sup_made (T : SupTxt prog K mg qual C fI) {n : Int} {tn : Tok} (hn : n.natAbs.log2 < 64) (MD : L2.Mod K mg base) (hbs : ∀ b o, base.get? b = some o → s.heap.get? b = some o) (hroom : A.depth + 1 < recursionLimit)
    (hq : ∀ h' tk e d, OwnMade s.heap h' e C d (.int n tn) → R (.ok (.ret (.ref e))) { s with heap := h', toks := tk }) :
    codeAny (model prog w) A (.call (.ref C) ⟨[.int n tn], []⟩) R s := by
  obtain ⟨nm, q, N, bs, bm, sn, sub, ab, col, dd, k0, k1, k2, k3, k5, hC, hbm, hal⟩ := T.cls
  have X : K.In s.heap := fun a o e => hbs _ _ (MD.kin a o e)
  obtain ⟨hp, g, dr, tk, os⟩ := s
  have k : ∀ b o, hp.get? b = some o → ((hp.push (kdv_tup [.int n tn])).push (excO C hp.objs.size)).get? b = some o := fun b o e => Heap.get?_push_of_some _ (Heap.get?_push_of_some _ e)
  have hget : ((hp.push (kdv_tup [.int n tn])).push (excO C hp.objs.size)).get? (hp.objs.size + 1) = some (excO C hp.objs.size) := by heap_get
  have hnx : K.lookup (hp.objs.size + 1) = none := by
    cases e : K.lookup (hp.objs.size + 1) with
    | none => rfl
    | some o =>
      have z : hp.get? (hp.objs.size + 1) = some o := X _ _ e
      exact absurd (Nat.lt_of_succ_lt (Heap.lt_size z)) (Nat.lt_irrefl _)
  refine call_own PySem.F.excBase_ValueError (fun X => refsVE_contains X bm hbm) (X _ _ hC) (looks_findIn X T.iC) (fun self => bind_fn X self T.tC) (one_size _) ?_
  refine sup_init (base := base) (s := ⟨(hp.push (kdv_tup [.int n tn])).push (excO C hp.objs.size), g, dr, tk, os⟩) T hn MD (fun b o e => k _ _ (hbs b o e)) hget hnx ?_ fun h' tk' dx ⟨k', ⟨t1, hx⟩, dn, dne, hns⟩ => ?_
  · show A.depth + 1 < recursionLimit
    exact hroom
  · have old : ∀ b o, hp.get? b = some o → h'.get? b = some o := fun b o e => k' b o (Nat.ne_of_lt (Nat.lt_succ_of_lt (Heap.lt_size e))) (k b o e)
    have z : hp.objs.size + 1 + 1 ≤ dx := by
      first
        | (simpa only [Heap.size_push] using dn)
        | exact dn
        | (have q := dn; rw [Heap.size_push, Heap.size_push] at q; exact q)
    exact ⟨rfl, hq h' tk' (hp.objs.size + 1) dx ⟨old, Nat.le_succ _, ⟨_, _, hx, rfl, rfl, rfl, rfl⟩, Nat.le_trans (Nat.le_trans (Nat.le_succ _) (Nat.le_succ _)) z, dne, hns⟩⟩
end
end SupX
end PySem
namespace L2
open PySem PySem.Spec PyProof.Rows
theorem relO_place {v : V} {v' : Value} (r : RelV v v') (f : Str) : RelO (List.lookup f [(("place" : Str), v)]) (if f = "place" then some v' else none) := by
  by_cases hw : f = "place"
  · subst hw
    rw [if_pos rfl]
    have q : List.lookup ("place" : Str) [(("place" : Str), v)] = some v := by simp [List.lookup]
    rw [q]
    exact r
  · rw [if_neg hw]
    have qw : (f == ("place" : Str)) = false := by simpa using hw
    have q2 : List.lookup f [(("place" : Str), v)] = none := by simp [List.lookup, qw]
    rw [q2]
    trivial
section
variable {X : Cx} {C fI : Addr} {qual : Str}
/-- BadSource(place) -/
def tMkBad (C : Addr) (ta : TA) : St → Hp → XK → Prop := fun σ H Q => ta σ H fun vs H1 => ∃ n : Int, vs = [.int n] ∧ n.natAbs.log2 < 64 ∧ ∀ d, H1 d = none → Q (.ref C) (some d) (upd H1 d (.xd [(("place" : Str), .int n)]))
theorem pmk_bad {a : Expr} {ta : TA} {p pos : Pos} {k : Nat} (T : PySem.SupX.SupTxt X.prog X.K X.mg qual C fI) (gC : X.mg "BadSource" = some (.ref C)) (hr : Room k X.A) (ha : PA X [a] ta) (hg : Gl X "BadSource" := by rfl)
    (he : starEach (a :: []) X.env = (false, eval a X.env) :: starEach [] X.env := by rfl) (hpl : (backTo pos (starEach [] X.env)).any (·.1) = false := by rfl) :
    PMk X (.Call (.Name "BadSource" p) [a] [] pos) (tMkBad C ta) := by
  intro pins s σ H Q I h
  refine wpAny_Call_Name_kw (ld_glob I hg gC ?_)
  refine PySem.W.callWith_K (h₀ := X.base) I.ok.mod.kin T.kC (thn (ha.run pos pins s σ H _ I h) fun us s1 hh => ?_) he hpl
  obtain ⟨vs, H1, I1, r1, n, ev, hl, q1⟩ := hh
  subst ev
  refine ⟨I1.kIn, ?_⟩
  cases r1 with
  | cons rv rn =>
    rename_i v' us'
    cases rn
    obtain ⟨tn, rfl⟩ := rv
    show wpAny _ _ (call (.ref C) [.int n tn]) _ _ _
    have hlim := I1.nolimit
    obtain ⟨hp, g, dr, tk, os⟩ := s1
    refine wpAny_call (PySem.SupX.sup_made T hl I1.ok.mod I1.bk (by have := hr.dp; omega) fun h' tk' e d M => ?_)
    show MkP X pins σ Q (.ref e) ⟨h', g, dr, tk', os⟩
    obtain ⟨oe, fv, hoe, hc, hd, hdat, h1⟩ := M.obj
    have hns := M.ns
    obtain ⟨G', g1, g2⟩ := restrict h' fun b => decide (b ≠ e)
    have gk : ∀ b, b ≠ e → G'.get? b = h'.get? b := fun b hb => g1 b (decide_eq_true hb)
    have ge : G'.get? e = none := g2 e (by simp)
    have old : ∀ b o, hp.get? b = some o → G'.get? b = some o := fun b o q => (gk b (Nat.ne_of_lt (Nat.lt_of_lt_of_le (Heap.lt_size q) M.new))).trans (M.keep b o q)
    have rv' : RelV (.int n) (.int n tn) := ⟨tn, rfl⟩
    have ob : ObjOk X.prog X.w (upd H1 d (.xd [(("place" : Str), .int n)])) G' d (.xd [(("place" : Str), .int n)]) :=
      ⟨_, hns.at (fun o q => (gk d M.dne).trans q), fun f => relO_place rv' f⟩
    have J : Inv X pins σ (upd H1 d (.xd [(("place" : Str), .int n)])) ⟨G', g, dr, tk', os⟩ := I1.laid (t' := tk') old M.dbig ob
    refine ⟨e, oe, fv, ⟨G', g, dr, tk', os⟩, _, .ref C, some d, rfl, J, fun b o q => ?_, ge, hoe, ⟨hc, hd⟩, hdat, h1, ?_, rfl, I1.bare, raises_own T.exC T.tyC, q1 d (I1.hok.fresh M.dbig)⟩
    · by_cases hb : b = e
      · have q' : G'.get? b = some o := q
        rw [hb, ge] at q'; cases q'
      · exact (gk b hb).symm.trans q
    · rw [upd_ne (Ne.symm M.dne)]
      exact I1.hok.fresh M.new
/-- raise BadSource(place) -/
def tRaiseBad (C : Addr) (W : WX) (ta : TA) : TS := fun _ σ H => tMkBad C ta σ H fun cls d H' => W cls d σ H'
theorem ps_raiseBad {a : Expr} {ta : TA} {W : WX} {p pos pos2 : Pos} {k : Nat} (hc : X.calm = true) (T : PySem.SupX.SupTxt X.prog X.K X.mg qual C fI) (gC : X.mg "BadSource" = some (.ref C)) (hr : Room k X.A) (tk : Takes X W) (ha : PA X [a] ta) (hg : Gl X "BadSource" := by rfl)
    (he : starEach (a :: []) X.env = (false, eval a X.env) :: starEach [] X.env := by rfl) (hpl : (backTo pos (starEach [] X.env)).any (·.1) = false := by rfl) :
    PS X (.Raise (some (.Call (.Name "BadSource" p) [a] [] pos)) none pos2) (tRaiseBad C W ta) := ps_raise hc tk (pmk_bad T gC hr ha hg he hpl)
end
end L2

end
section
set_option Elab.async false
set_option linter.all false
set_option maxRecDepth 100000
set_option maxHeartbeats 2000000
namespace My
open PySem PySem.Spec PyProof.Rows L2
abbrev s_past_gap : Stmt := top 28
def shift (n : Nat) : Except Nat Nat → Except Nat Nat
  | .ok m => .ok (m + n)
  | .error m => .error (m + n)
theorem shift_shift (a b : Nat) (x : Except Nat Nat) : shift a (shift b x) = shift (a + b) x := by
  cases x <;> simp [shift] <;> omega
theorem gap_c {f c : Nat} {r : List Nat} : Tok.gap (f + 1) (c :: r) = if c = 32 ∨ c = 10 then shift 1 (Tok.gap f r) else if c = 34 then (match Tok.find 34 r with | none => .error 0 | some k => shift (k + 2) (Tok.gap f (r.drop (k + 1)))) else .ok 0 := by
  rw [Tok.gap.eq_def]
  show (if c = 32 ∨ c = 10 then _ else _) = _
  by_cases h : c = 32 ∨ c = 10
  · rw [if_pos h, if_pos h]
    cases Tok.gap f r <;> rfl
  · rw [if_neg h, if_neg h]
    by_cases h2 : c = 34
    · rw [if_pos h2, if_pos h2]
      cases Tok.find 34 r with
      | none => rfl
      | some k =>
        show (match Tok.gap f (r.drop (k + 1)) with | .ok n => (Except.ok (n + k + 2) : Except Nat Nat) | .error n => .error (n + k + 2)) = shift (k + 2) _
        cases Tok.gap f (r.drop (k + 1)) <;> rfl
    · rw [if_neg h2, if_neg h2]
theorem gap_fuel : ∀ (n : Nat) (l : List Nat) (f g : Nat), l.length ≤ n → l.length ≤ f → l.length ≤ g → Tok.gap f l = Tok.gap g l := by
  intro n
  induction n using Nat.strongRecOn with
  | ind n ih =>
    intro l f g hn hf hg
    cases l with
    | nil => cases f <;> cases g <;> rfl
    | cons c r =>
      rw [List.length_cons] at hn hf hg
      cases f with
      | zero => omega
      | succ f =>
        cases g with
        | zero => omega
        | succ g =>
          rw [gap_c, gap_c, ih (n - 1) (by omega) r f g (by omega) (by omega) (by omega)]
          cases Tok.find 34 r with
          | none => rfl
          | some k =>
            show (if _ then _ else if _ then shift (k + 2) (Tok.gap f (r.drop (k + 1))) else _) = (if _ then _ else if _ then shift (k + 2) (Tok.gap g (r.drop (k + 1))) else _)
            rw [ih (n - 1) (by omega) (r.drop (k + 1)) f g (by rw [List.length_drop]; omega) (by rw [List.length_drop]; omega) (by rw [List.length_drop]; omega)]
def gp (l : List Nat) : Except Nat Nat := Tok.gap l.length l
theorem gp_c {c : Nat} {r : List Nat} : gp (c :: r) = if c = 32 ∨ c = 10 then shift 1 (gp r) else if c = 34 then (match Tok.find 34 r with | none => .error 0 | some k => shift (k + 2) (gp (r.drop (k + 1)))) else .ok 0 := by
  have e : gp (c :: r) = Tok.gap (r.length + 1) (c :: r) := rfl
  rw [e, gap_c]
  have e2 : ∀ k, Tok.gap r.length (r.drop (k + 1)) = gp (r.drop (k + 1)) := fun k => gap_fuel r.length _ _ _ (by rw [List.length_drop]; omega) (by rw [List.length_drop]; omega) (Nat.le_refl _)
  cases Tok.find 34 r with
  | none => rfl
  | some k =>
    show (if _ then _ else if _ then shift (k + 2) (Tok.gap r.length (r.drop (k + 1))) else _) = _
    rw [e2] <;> rfl
/-- BadSource, its place -/
def Bad (C : Addr) (H : Hp) (E : XK) (n : Int) : Prop := ∀ d H', Same H H' → H' d = some (.xd [("place", .int n)]) → E (.ref C) (some d) H'
theorem Bad.at_ {C : Addr} {H : Hp} {E : XK} {n : Int} (h : Bad C H E n) : ∀ d, H d = none → E (.ref C) (some d) (upd H d (.xd [("place", .int n)])) := fun d nd => h d _ (same_upd nd) upd_same
theorem log_small {n : Nat} (h : n ≤ 2000) : ((n : Nat) : Int).natAbs.log2 < 64 := by
  rw [Int.natAbs_natCast]
  by_cases c : n = 0
  · subst c; decide
  · exact (Nat.log2_lt c).mpr (by omega)
def spGap (C : Addr) : Sp := fun vs H Q E => ∃ (z : Str) (p : Nat), vs = [.str z, .int (p : Int)] ∧ Src z ∧ p ≤ (codesOf z).length ∧
  (match gp ((codesOf z).drop p) with
    | .ok n => Q (.int ((p + n : Nat) : Int)) H
    | .error n => Bad C H E ((p + n : Nat) : Int))
section
variable {P : Program} {w : World} {K : PySem.W.Frag} {mg : Str → Option Value} {base : Heap} {C fI : Addr} {qual : Str}
theorem sc_past_gap : FnScope ["text", "place", "end"] ["text", "place"] (defScope s_past_gap) := ⟨rfl, rfl, rfl, by decide +kernel, rfl, by decide +kernel, by decide +kernel⟩
theorem ok_past_gap {f : Addr} {fd : FuncData} (F : FnP K "past_gap" s_past_gap f fd) (g_len : mg "len" = none) (T : PySem.SupX.SupTxt P K mg qual C fI) (gC : mg "BadSource" = some (.ref C)) : FnOk P w K mg base (L2.CX P w) 4 f fd ["text", "place"] (spGap C) := by
  refine F.ok sc_past_gap (fun vs H Q E h => ?_) (fun cdv A outer s H vs Q E hr h => ⟨_,
    (pss_cons (ps_while (passes_of rfl) (PW.pt (pw_and (pt_cmpR op_lt (pv 1) (pe_callB call_len_str (by rfl) g_len PySem.boot_len (pa_cons (pv 0) pa_nil)) (nomark _)) (pw_and1 (pt_cmpR op_in_sign (pe_ix ix_str (pv 0) (pv 1) (fun _ _ => rfl)) pe_str (by rfl))))) (pss_cons (ps_if (pt_cmpR op_eq (pe_ix ix_str (pv 0) (pv 1) (fun _ _ => rfl)) pe_str (nomark _)) (pss_cons (ps_set (i := 2) sc_past_gap.nd rfl (Or.inl rfl) (pe_bm PySem.F.plainAttrs_str PySem.F.slot_str_find PySem.F.type_str_find mt_find3 (pv 0) (pa_cons pe_str (pa_cons (pe_op op_add (pv 1) pe_int) pa_nil))))
      (pss_cons (ps_if (pt_cmpR op_lt (pv 2) pe_int (nomark _)) (pss_one (ps_raiseBad rfl T gC hr (takes_of rfl rfl rfl rfl) (pa_cons (pv 1) pa_nil))) pss_nil)
      (pss_one (ps_set (i := 1) sc_past_gap.nd rfl (Or.inl rfl) (pv 2))))) pss_nil)
      (pss_one (ps_aug (i := 1) sc_past_gap.nd rfl (Or.inl rfl) pe_int ip_add))))
      (pss_one (ps_ret (pv 1)))), ?_⟩)
  · obtain ⟨z, p, rfl, _⟩ := h
    rfl
  · obtain ⟨z, p, rfl, hz, hp, q⟩ := h
    have hs := sz_src hz
    have k34 : ("\"" : Str) = ⟨#[34]⟩ := by decide +kernel
    have kb : ∀ c : Nat, decide (c ∈ (" \n\"" : Str).cps.toList) = (decide (c = 32 ∨ c = 10) || decide (c = 34)) := by
      intro c
      rw [show (" \n\"" : Str).cps.toList = [32, 10, 34] by decide +kernel]
      rw [Bool.eq_iff_iff, Bool.or_eq_true, decide_eq_true_iff, decide_eq_true_iff, decide_eq_true_iff]
      simp [or_assoc]
    rw [k34]
    have hl := hz.len
    refine while_by (fun σ H' => H' = H ∧ ∃ (e : Nat) (x : Option V), σ = [some (.str z), some (.int (e : Int)), x] ∧ p ≤ e ∧ e ≤ (codesOf z).length ∧ gp ((codesOf z).drop p) = shift (e - p) (gp ((codesOf z).drop e))) (fun σ _ => match σ with | [_, some (.int e), _] => (codesOf z).length - e.toNat | _ => 0) ⟨rfl, p, _, rfl, Nat.le_refl _, hp, by rw [Nat.sub_self]; cases gp ((codesOf z).drop p) <;> rfl⟩ ?_ ?_
    · rintro _ H0 ⟨hH, e, x, rfl, h1, h2, h3⟩
      subst hH
      have stop : gp ((codesOf z).drop e) = .ok 0 → Q (.int (e : Int)) H0 := fun g => by
        rw [g] at h3
        rw [h3] at q
        have q : Q (.int ((p + (0 + (e - p)) : Nat) : Int)) H0 := q
        rw [show p + (0 + (e - p)) = e by omega] at q
        exact q
      refine ⟨_, rfl, _, rfl, _, rfl, hs, _, _, rfl, rfl, _, rfl, ?_⟩
      refine ite2 (fun y => ?_) (fun y => ?_)
      · have y := of_decide_eq_true y
        rw [len_codes] at y
        have hlt : e < (codesOf z).length := by omega
        have hd : (codesOf z).drop e = (codesOf z)[e] :: (codesOf z).drop (e + 1) := List.drop_eq_getElem_cons hlt
        have hg : (codesOf z)[e]? = some (codesOf z)[e] := List.getElem?_eq_getElem hlt
        generalize (codesOf z)[e] = c at hd hg
        have gc : gp ((codesOf z).drop e) = _ := (congrArg gp hd).trans gp_c
        refine ⟨_, rfl, _, rfl, _, _, _, rfl, rfl, hs, atI_nat hg, _, _, rfl, rfl, _, rfl, ?_⟩
        rw [kb]
        refine ite2 (fun y2 => ?_) (fun y2 => ?_)
        · refine ⟨_, rfl, _, rfl, _, _, _, rfl, rfl, hs, atI_nat hg, rfl, _, rfl, ?_⟩
          refine ite2 (fun y3 => ?_) (fun y3 => ?_)
          · rw [eq_txt] at y3
            have c34 : c = 34 := by
              injection y3 with y3
              injection y3 with y3
              injection y3
            subst c34
            rw [if_neg (by decide), if_pos rfl] at gc
            have e1 : (e : Int) + 1 = ((e + 1 : Nat) : Int) := by omega
            have fc := find_codes z 34 (e + 1) (by omega)
            refine ⟨_, rfl, rfl, _, rfl, _, _, rfl, rfl, _, _, _, rfl, rfl, ?_⟩
            rw [e1, fc]
            cases hf : Tok.find 34 ((codesOf z).drop (e + 1)) with
            | none =>
              rw [hf] at gc
              rw [gc] at h3
              rw [h3] at q
              refine ⟨_, rfl, _, _, rfl, rfl, _, rfl, ?_⟩
              refine ite2 (fun _ => ?_) (fun y => absurd (decide_eq_true (show (-1 : Int) < 0 by decide)) y)
              refine ⟨_, rfl, _, rfl, log_small (by omega), fun d nd => ?_⟩
              have q : Bad C H0 E ((p + (0 + (e - p)) : Nat) : Int) := q
              rw [show p + (0 + (e - p)) = e by omega] at q
              exact q.at_ d nd
            | some k =>
              rw [hf] at gc
              obtain ⟨f1, _⟩ := find_some hf
              rw [List.getElem?_drop] at f1
              have hlt2 : e + 1 + k < (codesOf z).length := by
                rcases Nat.lt_or_ge (e + 1 + k) (codesOf z).length with x | x
                · exact x
                · rw [List.getElem?_eq_none x] at f1; cases f1
              refine ⟨_, rfl, _, _, rfl, rfl, _, rfl, ?_⟩
              refine ite2 (fun y => absurd (of_decide_eq_true y) (by show ¬ ((e + 1 + k : Nat) : Int) < 0; omega)) (fun _ => ?_)
              refine ⟨_, rfl, _, rfl, _, _, rfl, rfl, ⟨rfl, e + 1 + k + 1, _, rfl, by omega, by omega, ?_⟩, ?_⟩
              · have gc : gp ((codesOf z).drop e) = shift (k + 2) (gp (((codesOf z).drop (e + 1)).drop (k + 1))) := gc
                rw [h3, gc, shift_shift, List.drop_drop, show e + 1 + (k + 1) = e + 1 + k + 1 by omega, show e - p + (k + 2) = e + 1 + k + 1 - p by omega]
              · show (codesOf z).length - ((((e + 1 + k : Nat) : Int) + 1).toNat) < (codesOf z).length - ((e : Int).toNat)
                omega
          · have c34 : ¬ c = 34 := fun h => y3 (by rw [eq_txt, h])
            have cb : c = 32 ∨ c = 10 := by
              rw [Bool.or_eq_true, decide_eq_true_iff, decide_eq_true_iff] at y2
              exact y2.resolve_right c34
            rw [if_pos cb] at gc
            refine ⟨_, rfl, _, _, rfl, rfl, ⟨rfl, e + 1, _, rfl, by omega, by omega, ?_⟩, ?_⟩
            · rw [h3, gc, shift_shift, show e - p + 1 = e + 1 - p by omega]
            · show (codesOf z).length - (((e : Int) + 1).toNat) < (codesOf z).length - ((e : Int).toNat)
              omega
        · rw [Bool.or_eq_true, decide_eq_true_iff, decide_eq_true_iff] at y2
          rw [if_neg (fun h => y2 (.inl h)), if_neg (fun h => y2 (.inr h))] at gc
          exact ⟨_, rfl, stop gc⟩
      · have y : ¬ ((e : Int) < (z.length : Int)) := fun h => y (decide_eq_true h)
        rw [len_codes] at y
        have hd : (codesOf z).drop e = [] := List.drop_eq_nil_of_le (by omega)
        exact ⟨_, rfl, stop (by rw [hd]; rfl)⟩
    · rintro σ H Q Q' hq ⟨a1, h1, a2, h2, a3, h3, h4, a4, a5, h5, h6, k, h7, h⟩
      refine ⟨a1, h1, a2, h2, a3, h3, h4, a4, a5, h5, h6, k, h7, ?_⟩
      split at h
      · rename_i x
        rw [if_pos x]
        obtain ⟨b1, g1, b2, g2, b3, b4, b5, g3, g4, g5, g6, b6, b7, g7, g8, b8, g9, h⟩ := h
        exact ⟨b1, g1, b2, g2, b3, b4, b5, g3, g4, g5, g6, b6, b7, g7, g8, b8, g9, hq _ _ h⟩
      · rename_i x
        rw [if_neg x]
        exact hq _ _ h
end
end My

end
section
set_option Elab.async false
set_option linter.all false
set_option maxRecDepth 100000
set_option maxHeartbeats 2000000
namespace My
open PySem PySem.Spec PyProof.Rows L2
abbrev s_word_at : Stmt := top 31
def orW (a b : Option (Tok.Kd × Tok.Val × Nat)) : Option (Tok.Kd × Tok.Val × Nat) := match a with
  | some w => some w
  | none => b
/-- the word by its first sign -/
def preW (b : Bool) (c : Nat) (l r : List Nat) : Option (Tok.Kd × Tok.Val × Nat) :=
  if Tok.isAl c = true then nameWord l else if Tok.isDg c = true then intWord 0 l else if c = 39 then strWord r else if c = 35 then symWord r else if c = 45 ∧ b = true then intWord 1 l else none
theorem word_pre (b : Bool) (c : Nat) (r : List Nat) : Tok.word b (c :: r) = orW (preW b c (c :: r) r) (Tok.other (c :: r)) := by
  unfold preW
  show (if Tok.isAl c = true then _ else _) = _
  by_cases h1 : Tok.isAl c = true
  · rw [if_pos h1, if_pos h1]
    unfold nameWord
    by_cases k1 : 0 < Tok.keyLen (c :: r)
    · rw [if_pos k1, if_pos k1]; rfl
    · rw [if_neg k1, if_neg k1]
      by_cases k2 : 0 < Tok.nameLen (c :: r)
      · rw [if_pos k2, if_pos k2]; rfl
      · rw [if_neg k2, if_neg k2]; rfl
  · rw [if_neg h1, if_neg h1]
    by_cases h2 : Tok.isDg c = true
    · rw [if_pos h2, if_pos h2]
      unfold intWord
      have pos : 0 < Tok.run Tok.isDg (c :: r) := by
        show 0 < (if Tok.isDg c = true then _ else _)
        rw [if_pos h2]
        omega
      by_cases k : Tok.run Tok.isDg (c :: r) ≤ 60
      · rw [if_pos k]
        show _ = orW (if 0 < Tok.run Tok.isDg (c :: r) ∧ Tok.run Tok.isDg (c :: r) ≤ 60 then _ else none) _
        rw [if_pos ⟨pos, k⟩]
        show some (Tok.Kd.int, Tok.Val.i _, _) = some (Tok.Kd.int, Tok.Val.i _, 0 + _)
        rw [Nat.zero_add]
        rfl
      · rw [if_neg k]
        show _ = orW (if 0 < Tok.run Tok.isDg (c :: r) ∧ Tok.run Tok.isDg (c :: r) ≤ 60 then _ else none) _
        rw [if_neg (fun x => k x.2)]
        rfl
    · rw [if_neg h2, if_neg h2]
      by_cases h3 : c = 39
      · rw [if_pos h3, if_pos h3, sb_body (by rw [List.length_cons]; omega)]
        unfold strWord
        cases body r with
        | none => rfl
        | some x => rfl
      · rw [if_neg h3, if_neg h3]
        by_cases h4 : c = 35
        · rw [if_pos h4, if_pos h4]
          unfold symWord
          cases Tok.symbol r with
          | none => rfl
          | some x => rfl
        · rw [if_neg h4, if_neg h4]
          by_cases h5 : c = 45 ∧ b = true
          · rw [if_pos h5, if_pos h5]
            unfold intWord
            show _ = orW (if 0 < Tok.run Tok.isDg r ∧ Tok.run Tok.isDg r ≤ 60 then _ else none) _
            by_cases k : 0 < Tok.run Tok.isDg r ∧ Tok.run Tok.isDg r ≤ 60
            · rw [if_pos k, if_pos k, Nat.add_comm]; rfl
            · rw [if_neg k, if_neg k]; rfl
          · rw [if_neg h5, if_neg h5]; rfl
theorem sgn_eq {c d : Nat} : decide (V.str ⟨#[c]⟩ = V.str ⟨#[d]⟩) = true ↔ c = d := by
  rw [eq_txt]
  constructor
  · intro h
    injection h with h
    injection h with h
    injection h
  · intro h; rw [h]
abbrev tIsN : TT := tTest (tOp (fun x y H Q => y = V.non ∧ Q (V.bl (decide (x = V.non))) H) (tVar 4) (tC V.non))
/-- what follows the first sign's own word -/
abbrev wordRest (K : PySem.W.Frag) (C aOP aSI : Addr) (E : XK) : TS :=
  tSeq (tIfS tIsN (tAsg (tCall (spListed K) [] E0 (tCons (tC (V.str (Str.ofString "op"))) (tCons (tC (V.ref aOP)) (tCons (tVar 0) (tCons (tVar 1) tNil))))) (gName 4)) tNext)
    (tSeq (tIfS tIsN (tAsg (tCall (spListed K) [] E0 (tCons (tC (V.str (Str.ofString "sign"))) (tCons (tC (V.ref aSI)) (tCons (tVar 0) (tCons (tVar 1) tNil))))) (gName 4)) tNext)
      (tSeq (tIfS tIsN (tRaiseBad C (fun cls d x H => E cls d H) (tCons (tVar 1) tNil)) tNext) (tRet (tVar 4))))
def spWordAt (C : Addr) : Sp := fun vs H Q E => ∃ (z : Str) (p : Nat) (b : Bool), vs = [.str z, .int (p : Int), .bl b] ∧ Src z ∧ p < (codesOf z).length ∧
  (match Tok.word b ((codesOf z).drop p) with
    | some w => wOut H Q p (some w)
    | none => Bad C H E (p : Int))
section
variable {P : Program} {w : World} {K : PySem.W.Frag} {mg : Str → Option Value} {base : Heap} {C fI : Addr} {qual : Str}
theorem sc_word_at : FnScope ["text", "place", "binds", "first", "word"] ["text", "place", "binds"] (defScope s_word_at) := ⟨rfl, rfl, rfl, by decide +kernel, rfl, by decide +kernel, by decide +kernel⟩
/-- the defs of words.py and the values that they name -/
structure Mods (K : PySem.W.Frag) (mg : Str → Option Value) (fN fK fE fS fL fY fA fT : Addr) (fdN fdK fdE fdS fdL fdY fdA fdT : FuncData) : Prop where
  FN : FnP K "name_end" s_name_end fN fdN
  FK : FnP K "keyword_end" s_keyword_end fK fdK
  FE : FnP K "string_end" s_string_end fE fdE
  FS : FnP K "string_at" s_string_at fS fdS
  FL : FnP K "listed_at" s_listed_at fL fdL
  FY : FnP K "symbol_at" s_symbol_at fY fdY
  FA : FnP K "name_at" s_name_at fA fdA
  FT : FnP K "integer_at" s_integer_at fT fdT
  gN : mg "name_end" = some (.ref fN)
  gK : mg "keyword_end" = some (.ref fK)
  gE : mg "string_end" = some (.ref fE)
  gS : mg "string_at" = some (.ref fS)
  gL : mg "listed_at" = some (.ref fL)
  gY : mg "symbol_at" = some (.ref fY)
  gA : mg "name_at" = some (.ref fA)
  gT : mg "integer_at" = some (.ref fT)
  g_len : mg "len" = none
  g_int : mg "int" = none
  g_LN : ∃ t, mg "LONGEST_NAME" = some (.int 40 t)
  g_MD : ∃ t, mg "MOST_DIGITS" = some (.int 60 t)
  g_OP : TupAt K mg "OPERATORS" Tok.ops
  g_SI : TupAt K mg "SIGNS" Tok.signs
variable {fN fK fE fS fL fY fA fT : Addr} {fdN fdK fdE fdS fdL fdY fdA fdT : FuncData}
theorem ok_word_at {f : Addr} {fd : FuncData} (F : FnP K "word_at" s_word_at f fd) (M : Mods K mg fN fK fE fS fL fY fA fT fdN fdK fdE fdS fdL fdY fdA fdT) (T : PySem.SupX.SupTxt P K mg qual C fI) (gC : mg "BadSource" = some (.ref C)) : FnOk P w K mg base (L2.CX P w) 5 f fd ["text", "place", "binds"] (spWordAt C) := by
  have G_name_at : FnOk P w K mg base CX0 4 fA fdA _ spNameAt := ok_name_at M.FA M.FN M.FK M.gN M.gK M.g_len M.g_LN
  have G_integer_at : FnOk P w K mg base CX0 2 fT fdT _ spIntAt := ok_integer_at M.FT M.g_len M.g_int M.g_MD
  have G_string_at : FnOk P w K mg base CX0 3 fS fdS _ spStrAt := ok_string_at M.FS M.FE M.gE
  have G_symbol_at : FnOk P w K mg base CX0 4 fY fdY _ spSymAt := ok_symbol_at M.FY M.FN M.FK M.FE M.FS M.FL M.gN M.gK M.gE M.gS M.gL M.g_len M.g_LN M.g_OP
  have G_listed_at : FnOk P w K mg base CX0 2 fL fdL _ (spListed K) := ok_listed_at M.FL M.g_len
  have b_name_at : Binds K fdA ["text", "place"] [] := M.FA.bindsN fun _ _ _ _ _ _ us hl => match us, hl with | [_, _], _ => rfl
  have b_integer_at : Binds K fdT ["text", "place", "digits"] [] := M.FT.bindsN fun _ _ _ _ _ _ us hl => match us, hl with | [_, _, _], _ => rfl
  have b_string_at : Binds K fdS ["text", "place"] [] := M.FS.bindsN fun _ _ _ _ _ _ us hl => match us, hl with | [_, _], _ => rfl
  have b_symbol_at : Binds K fdY ["text", "place"] [] := M.FY.bindsN fun _ _ _ _ _ _ us hl => match us, hl with | [_, _], _ => rfl
  have b_listed_at : Binds K fdL ["kind", "words", "text", "place"] [] := M.FL.bindsN fun _ _ _ _ _ _ us hl => match us, hl with | [_, _, _, _], _ => rfl
  have k_name_at := M.FA.kp
  have k_integer_at := M.FT.kp
  have k_string_at := M.FS.kp
  have k_symbol_at := M.FY.kp
  have k_listed_at := M.FL.kp
  have g_name_at := M.gA
  have g_integer_at := M.gT
  have g_string_at := M.gS
  have g_symbol_at := M.gY
  have g_listed_at := M.gL
  obtain ⟨aOP, g_OPERATORS, hOP⟩ := M.g_OP
  have r_OPERATORS : RelV (.ref aOP) (.ref aOP) := rfl
  obtain ⟨aSI, g_SIGNS, hSI⟩ := M.g_SI
  have r_SIGNS : RelV (.ref aSI) (.ref aSI) := rfl
  refine F.ok sc_word_at (fun vs H Q E h => ?_) (fun cdv A outer s H vs Q E hr h => ⟨_,
    (pss_cons (ps_set (i := 3) sc_word_at.nd rfl (Or.inl rfl) (pe_ix ix_str (pv 0) (pv 1) (fun _ _ => rfl)))
      (pss_cons (ps_set (i := 4) sc_word_at.nd rfl (Or.inl rfl) pe_non)
      (pss_cons (ps_if (pt_val (pe_bm0 PySem.F.plainAttrs_str PySem.F.slot_str_isalpha PySem.F.type_str_isalpha mt_isalpha (pv 3))) (pss_one (ps_set (i := 4) sc_word_at.nd rfl (Or.inl rfl) (pe_call G_name_at (hr.mono (by decide)) rfl g_name_at k_name_at b_name_at .nil pass0 (pa_cons (pv 0) (pa_cons (pv 1) pa_nil))))) (pss_one (ps_if (pt_val (pe_bm0 PySem.F.plainAttrs_str PySem.F.slot_str_isdigit PySem.F.type_str_isdigit mt_isdigit (pv 3))) (pss_one (ps_set (i := 4) sc_word_at.nd rfl (Or.inl rfl) (pe_call G_integer_at (hr.mono (by decide)) rfl g_integer_at k_integer_at b_integer_at .nil pass0 (pa_cons (pv 0) (pa_cons (pv 1) (pa_cons (pv 1) pa_nil)))))) (pss_one (ps_if (pt_cmpR op_eq (pv 3) pe_str (nomark _)) (pss_one (ps_set (i := 4) sc_word_at.nd rfl (Or.inl rfl) (pe_call G_string_at (hr.mono (by decide)) rfl g_string_at k_string_at b_string_at .nil pass0 (pa_cons (pv 0) (pa_cons (pv 1) pa_nil))))) (pss_one (ps_if (pt_cmpR op_eq (pv 3) pe_str (nomark _)) (pss_one (ps_set (i := 4) sc_word_at.nd rfl (Or.inl rfl) (pe_call G_symbol_at (hr.mono (by decide)) rfl g_symbol_at k_symbol_at b_symbol_at .nil pass0 (pa_cons (pv 0) (pa_cons (pv 1) pa_nil))))) (pss_one (ps_if (PW.pt (pw_and (pt_cmpR op_eq (pv 3) pe_str (nomark _)) (pw_and1 (pt_val (pv 2))))) (pss_one (ps_set (i := 4) sc_word_at.nd rfl (Or.inl rfl) (pe_call G_integer_at (hr.mono (by decide)) rfl g_integer_at k_integer_at b_integer_at .nil pass0 (pa_cons (pv 0) (pa_cons (pv 1) (pa_cons (pe_op op_add (pv 1) pe_int) pa_nil)))))) pss_nil)))))))))
      (pss_cons (ps_if (pt_cmpR op_isN (pv 4) pe_non (nomark _)) (pss_one (ps_set (i := 4) sc_word_at.nd rfl (Or.inl rfl) (pe_call G_listed_at (hr.mono (by decide)) rfl g_listed_at k_listed_at b_listed_at .nil pass0 (pa_cons pe_str (pa_cons (pe_glob rfl g_OPERATORS r_OPERATORS) (pa_cons (pv 0) (pa_cons (pv 1) pa_nil))))))) pss_nil)
      (pss_cons (ps_if (pt_cmpR op_isN (pv 4) pe_non (nomark _)) (pss_one (ps_set (i := 4) sc_word_at.nd rfl (Or.inl rfl) (pe_call G_listed_at (hr.mono (by decide)) rfl g_listed_at k_listed_at b_listed_at .nil pass0 (pa_cons pe_str (pa_cons (pe_glob rfl g_SIGNS r_SIGNS) (pa_cons (pv 0) (pa_cons (pv 1) pa_nil))))))) pss_nil)
      (pss_cons (ps_if (pt_cmpR op_isN (pv 4) pe_non (nomark _)) (pss_one (ps_raiseBad rfl T gC hr (takes_of rfl rfl rfl rfl) (pa_cons (pv 1) pa_nil))) pss_nil)
      (pss_one (ps_ret (pv 4))))))))), ?_⟩)
  · obtain ⟨z, p, b, rfl, _⟩ := h
    rfl
  · obtain ⟨z, p, b, rfl, hz, hp, q⟩ := h
    have hs := sz_src hz
    have hd : (codesOf z).drop p = (codesOf z)[p] :: (codesOf z).drop (p + 1) := List.drop_eq_getElem_cons hp
    have hg : (codesOf z)[p]? = some (codesOf z)[p] := List.getElem?_eq_getElem hp
    have hc : (codesOf z)[p] < 128 := hz.sgn (List.getElem_mem hp)
    generalize (codesOf z)[p] = c at hd hg hc
    refine ⟨_, rfl, _, rfl, _, _, _, rfl, rfl, hs, atI_nat hg, ?_⟩
    have hw : Tok.word b ((codesOf z).drop p) = orW (preW b c ((codesOf z).drop p) ((codesOf z).drop (p + 1))) (Tok.other ((codesOf z).drop p)) := by
      rw [hd]
      exact word_pre b c _
    have h45 : c = 45 → ((codesOf z).drop p).head? = some 45 := fun e => by rw [hd, e]; rfl
    have hl := hz.len
    rw [hw] at q
    generalize hpre : preW b c ((codesOf z).drop p) ((codesOf z).drop (p + 1)) = pre at q
    -- a word in hand
    have got2 : ∀ (w : Tok.Kd × Tok.Val × Nat) (r : Addr) (H1 : Hp), (match orW pre (Tok.other ((codesOf z).drop p)) with | some w => wOut H Q p (some w) | none => Bad C H E (p : Int)) → orW pre (Tok.other ((codesOf z).drop p)) = some w → Same H H1 → H r = none → H1 r = some (.tup [.str (kdS w.1), vVal w.2.1, .int ((p + w.2.2 : Nat) : Int)]) →
        Q (.ref r) H1 := by
      intro w r H1 q e s1 n1 h1
      rw [e] at q
      exact q r H1 s1 n1 h1
    have sub : ∀ o, pre = o → wOut H (fun v H' => wordRest K C aOP aSI E { nx := fun x H' => Q V.non H', rt := Q } [some (.str z), some (.int (p : Int)), some (.bl b), some (.str ⟨#[c]⟩), some v] H') p o := by
      intro o ho
      cases o with
      | some w =>
        obtain ⟨k, x, m⟩ := w
        intro r H1 s1 n1 h1
        refine ⟨_, rfl, rfl, _, rfl, ite2 (fun y => by simp at y) fun _ => ?_⟩
        refine ⟨_, rfl, rfl, _, rfl, ite2 (fun y => by simp at y) fun _ => ?_⟩
        refine ⟨_, rfl, rfl, _, rfl, ite2 (fun y => by simp at y) fun _ => ?_⟩
        exact ⟨_, rfl, got2 (k, x, m) r H1 q (by rw [ho]; rfl) s1 n1 h1⟩
      | none =>
        intro H1 s1
        have ho2 : orW pre (Tok.other ((codesOf z).drop p)) = Tok.other ((codesOf z).drop p) := by rw [ho]; rfl
        refine ⟨_, rfl, rfl, _, rfl, ite2 (fun _ => ?_) fun y => absurd rfl y⟩
        refine ⟨_, rfl, _, rfl, _, aOP, Tok.ops, z, p, rfl, hOP H1, hz, Nat.le_of_lt hp, by decide, ?_, ?_⟩
        · intro hpos r H2 s2 n2 h2
          refine ⟨_, rfl, rfl, _, rfl, ite2 (fun y => by simp at y) fun _ => ?_⟩
          refine ⟨_, rfl, rfl, _, rfl, ite2 (fun y => by simp at y) fun _ => ?_⟩
          refine ⟨_, rfl, got2 (.op, .s (((codesOf z).drop p).take (Tok.listed Tok.ops ((codesOf z).drop p))), Tok.listed Tok.ops ((codesOf z).drop p)) r H2 q ?_ (s1.trans s2) (s1.free n2) h2⟩
          rw [ho2]
          unfold Tok.other
          rw [if_pos hpos]
        · intro h0 H2 s2
          refine ⟨_, rfl, rfl, _, rfl, ite2 (fun _ => ?_) fun y => absurd rfl y⟩
          refine ⟨_, rfl, _, rfl, _, aSI, Tok.signs, z, p, rfl, hSI H2, hz, Nat.le_of_lt hp, by decide, ?_, ?_⟩
          · intro hpos r H3 s3 n3 h3
            refine ⟨_, rfl, rfl, _, rfl, ite2 (fun y => by simp at y) fun _ => ?_⟩
            refine ⟨_, rfl, got2 (.sign, .s (((codesOf z).drop p).take (Tok.listed Tok.signs ((codesOf z).drop p))), Tok.listed Tok.signs ((codesOf z).drop p)) r H3 q ?_ ((s1.trans s2).trans s3) ((s1.trans s2).free n3) h3⟩
            rw [ho2]
            unfold Tok.other
            rw [if_neg (by omega), if_pos hpos]
          · intro h1 H3 s3
            refine ⟨_, rfl, rfl, _, rfl, ite2 (fun _ => ?_) fun y => absurd rfl y⟩
            have hn : Tok.other ((codesOf z).drop p) = none := by
              unfold Tok.other
              rw [if_neg (by omega), if_neg (by omega)]
            rw [ho2, hn] at q
            have q : Bad C H E (p : Int) := q
            refine ⟨_, rfl, _, rfl, log_small (by omega), fun d nd => ?_⟩
            exact q d _ (((s1.trans s2).trans s3).trans (same_upd nd)) upd_same
    unfold preW at hpre
    refine ⟨_, rfl, rfl, _, rfl, rfl, trivial, _, rfl, ?_⟩
    rw [al_tab c hc]
    refine ite2 (fun y => ?_) (fun y => ?_)
    · rw [if_pos y] at hpre
      exact ⟨_, rfl, _, rfl, z, p, rfl, hz, Nat.le_of_lt hp, sub _ hpre.symm⟩
    · rw [if_neg y] at hpre
      refine ⟨_, rfl, rfl, _, rfl, rfl, trivial, _, rfl, ?_⟩
      rw [dg_tab c hc]
      refine ite2 (fun y => ?_) (fun y => ?_)
      · rw [if_pos y] at hpre
        exact ⟨_, rfl, _, rfl, _, rfl, z, p, 0, rfl, hz, Nat.le_of_lt hp, .inl rfl, sub _ hpre.symm⟩
      · rw [if_neg y] at hpre
        refine ⟨_, rfl, rfl, _, rfl, ?_⟩
        rw [show (Str.ofString "'") = ⟨#[39]⟩ by decide +kernel, show (Str.ofString "#") = ⟨#[35]⟩ by decide +kernel, show (Str.ofString "-") = ⟨#[45]⟩ by decide +kernel]
        refine ite2 (fun y => ?_) (fun y => ?_)
        · rw [sgn_eq] at y
          rw [if_pos y] at hpre
          exact ⟨_, rfl, _, rfl, z, p, rfl, hz, hp, sub _ hpre.symm⟩
        · rw [sgn_eq] at y
          rw [if_neg y] at hpre
          refine ⟨_, rfl, rfl, _, rfl, ?_⟩
          refine ite2 (fun y => ?_) (fun y => ?_)
          · rw [sgn_eq] at y
            rw [if_pos y] at hpre
            exact ⟨_, rfl, _, rfl, z, p, rfl, hz, hp, sub _ hpre.symm⟩
          · rw [sgn_eq] at y
            rw [if_neg y] at hpre
            refine ⟨_, rfl, rfl, _, rfl, ?_⟩
            refine ite2 (fun y => ?_) (fun y => ?_)
            · rw [sgn_eq] at y
              refine ⟨_, rfl, _, rfl, ?_⟩
              refine ite2 (fun y2 => ?_) (fun y2 => ?_)
              · rw [if_pos ⟨y, y2⟩] at hpre
                exact ⟨_, rfl, _, rfl, _, rfl, _, _, rfl, rfl, z, p, 1, rfl, hz, hp, .inr ⟨rfl, h45 y⟩, sub _ hpre.symm⟩
              · rw [if_neg (fun x => y2 x.2)] at hpre
                exact (sub none hpre.symm) H (Same.refl H)
            · rw [sgn_eq] at y
              rw [if_neg (fun x => y x.1)] at hpre
              exact (sub none hpre.symm) H (Same.refl H)
end
end My

end
section
set_option Elab.async false
set_option linter.all false
set_option maxRecDepth 100000
set_option maxHeartbeats 2000000
namespace My
open PySem PySem.Spec PyProof.Rows L2
abbrev s_minus_binds : Stmt := top 29
abbrev s_note_paren : Stmt := top 30
def pS (b : Bool) : V := .str (strOf (if b then [35, 40] else [40]))
def vkinds : List (List Nat) := [[110, 97, 109, 101], [105, 110, 116], [115, 116, 114], [115, 121, 109]]
def lastOf (ws : List Tok.W) : Option (Tok.Kd × Tok.Val) := ws.getLast?.map fun w => (w.1, w.2.1)
theorem in_par (par : List Bool) : inV (V.str (Str.ofString "#(")) (par.map pS) = par.any id := by
  have h : ∀ b : Bool, eqV (pS b) (V.str (Str.ofString "#(")) = b := by decide +kernel
  unfold inV
  rw [List.any_map]
  congr 1
  funext b
  exact h b
theorem in_kinds (k : Tok.Kd) : inV (V.str (kdS k)) (vkinds.map fun x => V.str (strOf x)) = (decide (k = .name) || decide (k = .int) || decide (k = .str) || decide (k = .sym)) := by
  cases k <;> decide +kernel
theorem in_ends (x : Tok.Val) : inV (vVal x) [V.str (Str.ofString ")"), V.str (Str.ofString "]")] = (decide (x = .s [41]) || decide (x = .s [93])) := by
  cases x with
  | i n =>
    show (false || (false || false)) = _
    simp
  | s t =>
    have e : [V.str (Str.ofString ")"), V.str (Str.ofString "]")] = ([[41], [93]] : List (List Nat)).map fun x => V.str (strOf x) := by decide +kernel
    rw [e]
    show inV (V.str (strOf t)) _ = _
    rw [mem_ws]
    simp
theorem dp_valP {K : PySem.W.Frag} {H : Hp} {v : V} {x : Tok.Val} (h : Dp K H v (dVal x)) : v = vVal x := by
  cases x <;> cases h <;> rfl
theorem dp_wordP {K : PySem.W.Frag} {H : Hp} {v : V} {w : Tok.W} (h : Dp K H v (dW w)) : ∃ a, v = .ref a ∧ SqT K H a [.str (kdS w.1), vVal w.2.1, .int (w.2.2 : Int)] := by
  unfold dW at h
  cases h with
  | tup hs ha =>
    cases ha with
    | cons h1 ha =>
      cases ha with
      | cons h2 ha =>
        cases ha with
        | cons h3 ha =>
          cases ha
          cases h1
          cases h3
          have := dp_valP h2
          subst this
          exact ⟨_, rfl, hs⟩
theorem binds_eq {par : List Bool} {last : Option (Tok.Kd × Tok.Val)} : Tok.binds par last = (par.any id || (match last with
    | none => true
    | some (k, v) => !(decide (k = .name) || decide (k = .int) || decide (k = .str) || decide (k = .sym)) && !(decide (v = .s [41]) || decide (v = .s [93])))) := by
  unfold Tok.binds
  cases last with
  | none => rfl
  | some x =>
    obtain ⟨k, v⟩ := x
    simp
def spBinds (K : PySem.W.Frag) : Sp := fun vs H Q _ => ∃ (aw ap : Addr) (xs : List V) (ws : List Tok.W) (par : List Bool), vs = [.ref aw, .ref ap] ∧ H aw = some (.lst xs) ∧ DpAll K H xs (ws.map dW) ∧ H ap = some (.lst (par.map pS)) ∧ xs.length ≤ 2000 ∧
  ∀ H', Same H H' → Q (.bl (Tok.binds par (lastOf ws))) H'
def spNote : Sp := fun vs H Q _ => ∃ (ap : Addr) (par : List Bool) (t : List Nat), vs = [.ref ap, .str (strOf t)] ∧ H ap = some (.lst (par.map pS)) ∧ par.length ≤ 2000 ∧
  ∀ H', H' ap = some (.lst ((Tok.note par .sign (.s t)).map pS)) → (∀ b o, b ≠ ap → H b = some o → H' b = some o) → Q .non H'
section
variable {P : Program} {w : World} {K : PySem.W.Frag} {mg : Str → Option Value} {base : Heap} {C fI : Addr} {qual : Str}
theorem sc_minus_binds : FnScope ["words", "parens", "kind", "value", "_"] ["words", "parens"] (defScope s_minus_binds) := ⟨rfl, rfl, rfl, by decide +kernel, rfl, by decide +kernel, by decide +kernel⟩
theorem sc_note_paren : FnScope ["parens", "sign"] ["parens", "sign"] (defScope s_note_paren) := ⟨rfl, rfl, rfl, by decide +kernel, rfl, by decide +kernel, by decide +kernel⟩
theorem ok_minus_binds {f : Addr} {fd : FuncData} (F : FnP K "minus_binds" s_minus_binds f fd) (g_VK : TupAt K mg "VALUE_KINDS" vkinds) : FnOk P w K mg base CX0 2 f fd ["words", "parens"] (spBinds K) := by
  obtain ⟨aVK, g_VALUE_KINDS, hVK⟩ := g_VK
  have r_VALUE_KINDS : RelV (.ref aVK) (.ref aVK) := rfl
  refine F.ok sc_minus_binds (fun vs H Q E h => ?_) (fun cdv A outer s H vs Q E hr h => ⟨_, PSs.nox
    (pss_cons (ps_if (PW.pt (pw_or (pt_cmpR op_in_seq pe_str (pv 1) (by rfl)) (pw_or1 (pt_not (pt_truth (pv 0) (by intro _; rfl)))))) (pss_one (ps_ret pe_bl)) pss_nil)
      (pss_cons (ps_asg (pe_ix ix_list (pv 0) (pe_un un_neg pe_int) (fun _ _ => rfl)) (pg_tup rfl (pgs_cons (pg_name (i := 2) sc_minus_binds.nd rfl (Or.inl rfl)) (pgs_cons (pg_name (i := 3) sc_minus_binds.nd rfl (Or.inl rfl)) (pgs_cons (pg_name (i := 4) sc_minus_binds.nd rfl (Or.inl rfl)) pgs_nil)))))
      (pss_one (ps_ret (pe_and (pe_cmpR op_notIn_seq (pv 2) (pe_glob rfl g_VALUE_KINDS r_VALUE_KINDS) (by rfl)) (pe_one (pe_cmpR op_notIn_seq (pv 3) (pe_tup (pa_cons pe_str (pa_cons pe_str pa_nil))) (by rfl)))))))), ?_⟩)
  · obtain ⟨aw, ap, xs, ws, par, rfl, _⟩ := h
    rfl
  · obtain ⟨aw, ap, xs, ws, par, rfl, hw, hD, hP, hxl, q⟩ := h
    have hlen := dpAll_length hD
    rw [List.length_map] at hlen
    rw [binds_eq] at q
    refine ⟨_, rfl, ap, _, rfl, .inl (SqL.of hP), rfl, ?_, _, rfl, ?_⟩
    · rw [List.all_eq_true]
      intro v hv
      obtain ⟨b, _, rfl⟩ := List.mem_map.mp hv
      rfl
    refine ite2 (fun y => ?_) (fun y => ?_)
    · have y : par.any id = true := (in_par par).symm.trans y
      rw [y] at q
      exact q H (Same.refl H)
    · have y : par.any id = false := by
        cases h : par.any id with
        | false => rfl
        | true => exact absurd ((in_par par).trans h) y
      rw [y, Bool.false_or] at q
      refine ⟨_, rfl, !xs.isEmpty, .inl ⟨xs, SqL.of hw, rfl⟩, ?_⟩
      rcases List.eq_nil_or_concat ws with e | ⟨ws', lw, e⟩
      · subst e
        have : xs = [] := List.eq_nil_of_length_eq_zero hlen
        subst this
        refine ite2 (fun _ => ?_) (fun y => absurd rfl y)
        exact q H (Same.refl H)
      · have e : ws = ws' ++ [lw] := by rw [e, List.concat_eq_append]
        subst e
        have hl2 : xs.length = ws'.length + 1 := by rw [hlen, List.length_append]; rfl
        have hne : xs ≠ [] := fun e => by rw [e] at hl2; cases hl2
        refine ite2 (fun y => ?_) (fun _ => ?_)
        · cases xs with
          | nil => exact absurd rfl hne
          | cons _ _ => cases y
        · have hv : xs[ws'.length]? = some (xs[ws'.length]'(by omega)) := List.getElem?_eq_getElem (by omega)
          generalize xs[ws'.length]'(by omega) = v at hv
          obtain ⟨d, hd, hdp⟩ := dpAll_get hD hv
          have ed : d = dW lw := by
            rw [List.map_append, List.getElem?_append_right (by rw [List.length_map]; exact Nat.le_refl _), List.length_map, Nat.sub_self] at hd
            injection hd with hd
            exact hd.symm
          subst ed
          obtain ⟨a, rfl, hT⟩ := dp_wordP hdp
          have hat : atI xs (-1) = some (V.ref a) := by
            unfold atI ixN
            rw [if_neg (by decide)]
            rw [if_pos (by omega)]
            show xs[((-1 : Int) + (xs.length : Int)).toNat]? = _
            rw [show ((-1 : Int) + (xs.length : Int)).toNat = ws'.length by omega]
            exact hv
          refine ⟨_, rfl, _, rfl, _, _, _, _, rfl, rfl, SqL.of hw, hat, ?_⟩
          refine ⟨_, _, rfl, hT, rfl, _, _, rfl, _, _, rfl, _, _, rfl, rfl, ?_⟩
          have eL : lastOf (ws' ++ [lw]) = some (lw.1, lw.2.1) := by
            unfold lastOf
            rw [List.getLast?_append]
            rfl
          rw [eL] at q
          have q : ∀ H', Same H H' → Q (V.bl (!(decide (lw.1 = .name) || decide (lw.1 = .int) || decide (lw.1 = .str) || decide (lw.1 = .sym)) && !(decide (lw.2.1 = .s [41]) || decide (lw.2.1 = .s [93])))) H' := q
          have flatK : (vkinds.map fun x => V.str (strOf x)).all flatV = true := by decide +kernel
          have flatv : flatV (vVal lw.2.1) = true := by cases lw.2.1 <;> rfl
          refine ⟨_, rfl, aVK, _, rfl, .inr (hVK H), rfl, flatK, _, rfl, ?_⟩
          have ik := in_kinds lw.1
          refine ite2 (fun y => ?_) (fun y => ?_)
          · have y : (!inV (V.str (kdS lw.1)) (vkinds.map fun x => V.str (strOf x))) = true := y
            rw [ik] at y
            rw [y, Bool.true_and] at q
            refine ⟨_, rfl, (by show 2 ≤ sizeLine; decide), fun r nr => ?_⟩
            refine ⟨r, _, rfl, .inr (SqT.of upd_same), flatv, rfl, ?_⟩
            show Q (V.bl (!inV (vVal lw.2.1) [V.str (Str.ofString ")"), V.str (Str.ofString "]")])) _
            rw [in_ends]
            exact q _ (same_upd nr)
          · have y : ¬ (!inV (V.str (kdS lw.1)) (vkinds.map fun x => V.str (strOf x))) = true := y
            rw [ik] at y
            rw [show (!(decide (lw.1 = .name) || decide (lw.1 = .int) || decide (lw.1 = .str) || decide (lw.1 = .sym))) = false from Bool.eq_false_iff.mpr y, Bool.false_and] at q
            exact q H (Same.refl H)
theorem ok_note_paren {f : Addr} {fd : FuncData} (F : FnP K "note_paren" s_note_paren f fd) : FnOk P w K mg base CX0 2 f fd ["parens", "sign"] spNote := by
  refine F.ok sc_note_paren (fun vs H Q E h => ?_) (fun cdv A outer s H vs Q E hr h => ⟨_, PSs.nox
    (pss_one (ps_if (pt_cmpR op_in_seq (pv 1) (pe_tup (pa_cons pe_str (pa_cons pe_str pa_nil))) (by rfl)) (pss_one (ps_expr (pe_bm PySem.F.plainAttrs_list PySem.F.slot_list_append PySem.F.type_list_append mt_append (pv 0) (pa_cons (pv 1) pa_nil)))) (pss_one (ps_if (PW.pt (pw_and (pt_cmpR op_eq (pv 1) pe_str (nomark _)) (pw_and1 (pt_truth (pv 0) (by intro _; rfl))))) (pss_one (ps_expr (pe_bm0 PySem.F.plainAttrs_list PySem.F.slot_list_pop PySem.F.type_list_pop mt_pop (pv 0)))) pss_nil)))), ?_⟩)
  · obtain ⟨ap, par, t, rfl, _⟩ := h
    rfl
  · obtain ⟨ap, par, t, rfl, hP, hpl, q⟩ := h
    have hs : [V.str (Str.ofString "("), V.str (Str.ofString "#(")] = ([[40], [35, 40]] : List (List Nat)).map fun x => V.str (strOf x) := by decide +kernel
    refine ⟨_, rfl, (by show 2 ≤ sizeLine; decide), fun r nr => ?_⟩
    have rp : r ≠ ap := fun e => by rw [e, hP] at nr; cases nr
    refine ⟨r, _, rfl, .inr (SqT.of upd_same), rfl, rfl, _, rfl, ?_⟩
    have hP1 : (upd H r (.tup [V.str (Str.ofString "("), V.str (Str.ofString "#(")])) ap = some (.lst (par.map pS)) := by rw [upd_ne (Ne.symm rp)]; exact hP
    have s1 := same_upd (o := .tup [V.str (Str.ofString "("), V.str (Str.ofString "#(")]) nr
    generalize upd H r (.tup [V.str (Str.ofString "("), V.str (Str.ofString "#(")]) = H1 at hP1 s1 ⊢
    have hin : inV (V.str (strOf t)) [V.str (Str.ofString "("), V.str (Str.ofString "#(")] = decide (t ∈ ([[40], [35, 40]] : List (List Nat))) := by rw [hs, mem_ws]
    have hsz : par.length < sizeLine := by rw [sizeLine_eq]; omega
    have k41 : Str.ofString ")" = strOf [41] := by decide +kernel
    refine ite2 (fun y => ?_) (fun y => ?_)
    · have y : t = [40] ∨ t = [35, 40] := by
        have := of_decide_eq_true (hin.symm.trans y)
        simpa using this
      refine ⟨_, rfl, .inl ⟨rfl, _, SqL.of hP1⟩, _, rfl, ap, _, _, rfl, rfl, hP1, by rw [List.length_map]; exact hsz, ?_⟩
      refine q _ ?_ fun b o hb e => by rw [upd_ne hb]; exact s1 b o e
      rw [upd_same]
      unfold Tok.note
      rcases y with e | e
      · subst e
        rw [if_pos ⟨rfl, rfl⟩, List.map_append]
        rfl
      · subst e
        rw [if_neg (by decide), if_pos ⟨rfl, rfl⟩, List.map_append]
        rfl
    · have y : ¬ (t = [40] ∨ t = [35, 40]) := fun h => y (hin.trans (decide_eq_true (by simpa using h)))
      have nt : Tok.note par .sign (.s t) = if t = [41] then par.dropLast else par := by
        unfold Tok.note
        rw [if_neg (fun h => y (.inl (Tok.Val.s.inj h.2))), if_neg (fun h => y (.inr (Tok.Val.s.inj h.2)))]
        by_cases h : t = [41]
        · subst h
          rfl
        · rw [if_neg h, if_neg (fun x => h (Tok.Val.s.inj x.2))]
      refine ⟨_, rfl, rfl, _, rfl, ?_⟩
      refine ite2 (fun z => ?_) (fun z => ?_)
      · rw [eq_txt, k41, strOf_inj] at z
        rw [nt, if_pos z] at q
        refine ⟨_, rfl, !(par.map pS).isEmpty, .inl ⟨_, SqL.of hP1, rfl⟩, ?_⟩
        rcases List.eq_nil_or_concat par with e | ⟨par', lp, e⟩
        · subst e
          refine ite2 (fun y => by cases y) (fun _ => ?_)
          exact q H1 hP1 fun b o _ e => s1 b o e
        · have e : par = par' ++ [lp] := by rw [e, List.concat_eq_append]
          subst e
          refine ite2 (fun _ => ?_) (fun y => absurd (by simp) y)
          refine ⟨_, rfl, .inl ⟨rfl, _, SqL.of hP1⟩, ap, _, pS lp, rfl, rfl, hP1, by simp, ?_⟩
          refine q _ ?_ fun b o hb e => by rw [upd_ne hb]; exact s1 b o e
          rw [upd_same]
          simp
      · rw [eq_txt, k41, strOf_inj] at z
        rw [nt, if_neg z] at q
        exact q H1 hP1 fun b o _ e => s1 b o e
end
end My

end
section
set_option Elab.async false
set_option linter.all false
set_option maxRecDepth 100000
set_option maxHeartbeats 2000000
namespace My
open PySem PySem.Spec PyProof.Rows L2 StrLaws
abbrev s_is_text : Stmt := top 6
section
variable {X : Cx}
theorem pst_set {i : Nat} {x : Str} {e : Expr} {te : TE} {pos' pos : Pos} (hN : X.N.Nodup) (hi : X.N[i]? = some x) (hx : Loc X.env.scope x) (he : PET X e te) (hs : swapsWith e (some (.Name x pos')) pos.line X.env = pure false := by rfl) (hf : X.fn x = true ∨ X.env.scope.names.lookup x = some .local := by first | exact .inl rfl | exact .inr rfl | assumption) :
    PST X (.Assign [.Name x pos'] e pos) (tAsg te (gName i)) := by
  intro pins s σ H D h0 I h
  refine wpAny_Assign_Name (thn (he pins s σ H _ h0 I h) fun v s1 ⟨y, H1, I1, r1, q1⟩ => ?_) hs
  exact store_ok I1 hN hi hx r1 (fun s2 I2 => ⟨_, H1, I2, q1⟩) hf
end
def okSign (c : Nat) : Bool := c == 10 || (32 ≤ c && c ≤ 126)
theorem repl_drop (l : List Nat) : replL [10] [] l = l.filter (fun c => !decide (c = 10)) := by
  induction l with
  | nil => exact replL_nil
  | cons c r ih =>
    by_cases h : c = 10
    · subst h
      rw [replL_hit (by decide) (by rfl)]
      show [] ++ replL [10] [] r = _
      rw [ih]
      rfl
    · rw [replL_miss (by intro y; injection y with y _; exact h y), ih, List.filter_cons_of_pos (by simpa using h)]
theorem sign_tab : ∀ c < 128, Unicode.isPrintable c = (decide (32 ≤ c) && decide (c ≤ 126)) := by decide +kernel
theorem text_eq (l : List Nat) : (((l.filter (fun c => !decide (c = 10))).all fun c => decide (c < 128)) && (l.filter (fun c => !decide (c = 10))).all Unicode.isPrintable) = l.all okSign := by
  induction l with
  | nil => rfl
  | cons c r ih =>
    by_cases h : c = 10
    · subst h
      rw [List.filter_cons_of_neg (by decide), ih]
      rfl
    · rw [List.filter_cons_of_pos (by simpa using h), List.all_cons, List.all_cons, List.all_cons, ← ih]
      by_cases c1 : c < 128
      · rw [sign_tab c c1]
        unfold okSign
        rw [show (c == 10) = false by simpa using h, Bool.false_or, decide_eq_true c1, Bool.true_and]
        cases (decide (32 ≤ c) && decide (c ≤ 126)) <;> simp
      · rw [decide_eq_false c1]
        have : okSign c = false := by
          unfold okSign
          rw [show (c == 10) = false by simpa using h, decide_eq_false (show ¬ c ≤ 126 by omega)]
          simp
        rw [this]
        simp
theorem txt_all (z : Str) (p : Nat → Bool) : z.cps.all p = (codesOf z).all p := by
  unfold codesOf
  rw [Array.all_toList]
def spIsText (K : PySem.W.Frag) : Sp := fun vs H Q _ => ∃ v, vs = [v] ∧ ((∃ z, v = .str z ∧ z.length ≤ 16777216 ∧ Q (.bl ((codesOf z).all okSign)) H) ∨ ((∃ t, TyX K H v t ∧ PySem.W.kitOne K t (.type "str") = some false) ∧ Q (.bl false) H))
section
variable {P : Program} {w : World} {K : PySem.W.Frag} {mg : Str → Option Value} {base : Heap} {C fI : Addr} {qual : Str}
theorem sc_is_text : FnScope ["thing", "bare"] ["thing"] (defScope s_is_text) := ⟨rfl, rfl, rfl, by decide +kernel, rfl, by decide +kernel, by decide +kernel⟩
theorem ok_is_text {f : Addr} {fd : FuncData} (F : FnP K "is_text" s_is_text f fd) (g_isinstance : mg "isinstance" = none) (g_str : mg "str" = none) : FnOk P w K mg base CX0 2 f fd ["thing"] (spIsText K) := by
  obtain ⟨oc, od, dV, kV, doc, pm, an, cdv, ct, osl, rfl, lk, hcd, _, _⟩ := F.ex
  refine fn_ofT lk hcd sc_is_text (by decide +kernel) (by decide) (fun vs H Q E h => ?_) fun A outer s H vs Q E hr h => ⟨_, psst_cons (PST.of (ps_if (pt_not (pt_val (pe_callB call_isi (by rfl) g_isinstance (by decide +kernel) (pa_cons (pv 0) (pa_cons (pe_bltn (v := .ty "str") (u := .type "str") (by rfl) g_str (by decide +kernel) rfl) pa_nil))))) (pss_one (ps_ret pe_bl)) pss_nil))
      (psst_cons (pst_set (i := 1) sc_is_text.nd rfl (Or.inl rfl) (CwR.pet_replC (pv 0)))
      (PSsT.of (pss_one (ps_ret (pe_and (pe_bm0 PySem.F.plainAttrs_str PySem.F.slot_str_isascii PySem.F.type_str_isascii mt_isascii (pv 1)) (pe_one (pe_bm0 PySem.F.plainAttrs_str PySem.F.slot_str_isprintable PySem.F.type_str_isprintable mt_isprintable (pv 1)))))))), ?_⟩
  · obtain ⟨v, rfl, _⟩ := h
    rfl
  · obtain ⟨v, rfl, h⟩ := h
    rcases h with ⟨z, rfl, hz, q⟩ | ⟨⟨t, ht, hk⟩, q⟩
    · refine ⟨_, rfl, _, _, _, _, true, rfl, ClsV.ty _, .base (.str z), kit_ty (by decide +kernel), ?_⟩
      refine ⟨_, rfl, ite2 (fun y => by cases y) fun _ => ?_⟩
      have eb : codesOf (Txt.replace z (Str.ofString "\n") (Str.ofString "")) = (codesOf z).filter (fun c => !decide (c = 10)) := by
        have k1 : (Str.ofString "\n") = strOf [10] := by decide +kernel
        have k2 : (Str.ofString "") = strOf [] := by decide +kernel
        refine (replace_list (by decide +kernel)).trans ?_
        rw [k1, k2]
        show replL (codesOf (strOf [10])) (codesOf (strOf [])) (codesOf z) = _
        rw [codes_strOf, codes_strOf, repl_drop]
      have e1 : Txt.isascii (Txt.replace z (Str.ofString "\n") (Str.ofString "")) = ((codesOf z).filter (fun c => !decide (c = 10))).all fun c => decide (c < 128) := by
        unfold Txt.isascii
        rw [txt_all, eb]
      have e2 : Txt.isprintable (Txt.replace z (Str.ofString "\n") (Str.ofString "")) = ((codesOf z).filter (fun c => !decide (c = 10))).all Unicode.isPrintable := by
        unfold Txt.isprintable
        rw [txt_all, eb]
      have te := text_eq (codesOf z)
      rw [← e1, ← e2] at te
      rw [← te] at q
      refine ⟨_, rfl, z, rfl, ?_, ?_⟩
      · have : (Str.ofString "").length = 0 := by decide +kernel
        rw [this]
        omega
      refine ⟨_, rfl, rfl, _, rfl, rfl, trivial, _, rfl, ?_⟩
      refine ite2 (fun y => ?_) (fun y => ?_)
      · have y : Txt.isascii (Txt.replace z (Str.ofString "\n") (Str.ofString "")) = true := y
        rw [y, Bool.true_and] at q
        exact ⟨_, rfl, rfl, _, rfl, rfl, trivial, q⟩
      · have y : Txt.isascii (Txt.replace z (Str.ofString "\n") (Str.ofString "")) = false := Bool.eq_false_iff.mpr y
        rw [y, Bool.false_and] at q
        exact q
    · refine ⟨_, rfl, _, _, t, _, false, rfl, ClsV.ty _, ht, hk, ?_⟩
      refine ⟨_, rfl, ite2 (fun _ => ?_) fun y => absurd rfl y⟩
      exact q
end
end My

end
section
set_option Elab.async false
set_option linter.all false
set_option maxRecDepth 100000
set_option maxHeartbeats 2000000
namespace My
open PySem PySem.Spec PyProof.Rows L2
theorem keysLen_le : ∀ (f : Nat) (l : List Nat), Tok.keysLen f l ≤ l.length
  | 0, l => Nat.zero_le _
  | f + 1, l => by
    show (if 0 < Tok.keyLen l then _ else 0) ≤ _
    split
    · have h1 := keyLen_len l
      have h2 := keysLen_le f (l.drop (Tok.keyLen l))
      rw [List.length_drop] at h2
      omega
    · exact Nat.zero_le _
theorem listed_le (ws : List (List Nat)) (l : List Nat) : Tok.listed ws l ≤ l.length := by
  unfold Tok.listed
  split
  · rw [List.length_take]; omega
  · split
    · rw [List.length_take]; omega
    · exact Nat.zero_le _
theorem other_le {l : List Nat} {k : Tok.Kd} {v : Tok.Val} {m : Nat} (h : Tok.other l = some (k, v, m)) : m ≤ l.length ∧ (k = .sign → ∃ t, v = .s t) := by
  unfold Tok.other at h
  have h1 := listed_le Tok.ops l
  have h2 := listed_le Tok.signs l
  split at h
  · cases h; exact ⟨h1, fun _ => ⟨_, rfl⟩⟩
  · split at h
    · cases h; exact ⟨h2, fun _ => ⟨_, rfl⟩⟩
    · cases h
theorem symbol_le {l : List Nat} {v : Tok.Val} {m : Nat} (h : Tok.symbol l = some (v, m)) : m ≤ l.length := by
  unfold Tok.symbol at h
  split at h
  · rename_i hh
    cases l with
    | nil => cases hh
    | cons c r =>
      rw [sb_body (by rw [List.length_drop]; omega)] at h
      show m ≤ r.length + 1
      have e : (c :: r).drop 1 = r := rfl
      rw [e] at h
      cases hb : body r with
      | none => rw [hb] at h; cases h
      | some x =>
        obtain ⟨t, n⟩ := x
        rw [hb] at h
        cases h
        have := (undouble _ _ (Nat.le_refl _) t n hb).2.1
        omega
  · split at h
    · cases h; exact keysLen_le _ _
    · split at h
      · cases h; exact nameLen_len _
      · split at h
        · cases h; exact listed_le _ _
        · cases h
theorem pre_le {b : Bool} {c : Nat} {r : List Nat} {k : Tok.Kd} {v : Tok.Val} {m : Nat} (h : preW b c (c :: r) r = some (k, v, m)) : m ≤ r.length + 1 ∧ k ≠ .sign := by
  have L : (c :: r).length = r.length + 1 := rfl
  unfold preW at h
  split at h
  · unfold nameWord at h
    have h1 := keyLen_len (c :: r)
    have h2 := nameLen_len (c :: r)
    split at h
    · cases h; exact ⟨by omega, by decide⟩
    · split at h
      · cases h; exact ⟨by omega, by decide⟩
      · cases h
  · split at h
    · unfold intWord at h
      have h1 := Tok.run_le Tok.isDg (c :: r)
      have h : (if 0 < Tok.run Tok.isDg (c :: r) ∧ Tok.run Tok.isDg (c :: r) ≤ 60 then _ else none) = some (k, v, m) := h
      split at h
      · cases h
        exact ⟨by show 0 + Tok.run Tok.isDg (c :: r) ≤ _; omega, by decide⟩
      · cases h
    · split at h
      · unfold strWord at h
        cases hb : body r with
        | none => rw [hb] at h; cases h
        | some x =>
          obtain ⟨t, n⟩ := x
          rw [hb] at h
          cases h
          have := (undouble _ _ (Nat.le_refl _) t n hb).2.1
          exact ⟨by omega, by decide⟩
      · split at h
        · unfold symWord at h
          cases hs : Tok.symbol r with
          | none => rw [hs] at h; cases h
          | some x =>
            obtain ⟨v', n⟩ := x
            rw [hs] at h
            cases h
            have := symbol_le hs
            exact ⟨by show n + 1 ≤ _; omega, by decide⟩
        · split at h
          · unfold intWord at h
            have h1 := Tok.run_le Tok.isDg r
            have h : (if 0 < Tok.run Tok.isDg r ∧ Tok.run Tok.isDg r ≤ 60 then _ else none) = some (k, v, m) := h
            split at h
            · cases h
              exact ⟨by show 1 + Tok.run Tok.isDg r ≤ _; omega, by decide⟩
            · cases h
          · cases h
theorem word_le {b : Bool} {l : List Nat} {k : Tok.Kd} {v : Tok.Val} {m : Nat} (h : Tok.word b l = some (k, v, m)) : m ≤ l.length ∧ (k = .sign → ∃ t, v = .s t) := by
  cases l with
  | nil => cases h
  | cons c r =>
    rw [word_pre] at h
    cases hp : preW b c (c :: r) r with
    | some x =>
      rw [hp] at h
      cases h
      have := pre_le hp
      exact ⟨this.1, fun e => absurd e this.2⟩
    | none =>
      rw [hp] at h
      exact other_le h
/-- the words from here on, a gap behind us -/
def aft (f : Nat) (l : List Nat) (p : Nat) (par : List Bool) (last : Option (Tok.Kd × Tok.Val)) : Except Nat (List Tok.W) :=
  if l = [] then .ok [] else match Tok.word (Tok.binds par last) l with
    | none => .error p
    | some (k, v, m) => match Tok.toks f (l.drop m) (p + m) (Tok.note par k v) (some (k, v)) with
      | .ok ws => .ok ((k, v, p) :: ws)
      | .error q => .error q
theorem toks_aft (f : Nat) (l : List Nat) (p : Nat) (par : List Bool) (last : Option (Tok.Kd × Tok.Val)) : Tok.toks (f + 1) l p par last = match gp l with
    | .error n => .error (p + n)
    | .ok n => aft f (l.drop n) (p + n) par last := by
  rw [Tok.toks.eq_def]
  show (match gp l with | .error n => _ | .ok n => _) = _
  cases gp l with
  | error n => rfl
  | ok n =>
    show (if l.drop n = [] then _ else _) = aft f (l.drop n) (p + n) par last
    unfold aft
    by_cases h : l.drop n = []
    · rw [if_pos h, if_pos h]
    · rw [if_neg h, if_neg h]
      cases Tok.word (Tok.binds par last) (l.drop n) with
      | none => rfl
      | some x =>
        obtain ⟨k, v, m⟩ := x
        show (match Tok.toks f (l.drop (n + m)) (p + n + m) _ _ with | .ok ws => _ | .error q => _) = (match Tok.toks f ((l.drop n).drop m) (p + n + m) _ _ with | .ok ws => _ | .error q => _)
        rw [List.drop_drop]
end My

end
section
set_option Elab.async false
set_option linter.all false
set_option maxRecDepth 100000
set_option maxHeartbeats 2000000
namespace My
open PySem PySem.Spec PyProof.Rows L2 TL

/-! ### signs of plain words -/
theorem id_tab : ∀ c < 128, c ≠ 95 → Unicode.isNameStart c = Tok.isAl c ∧ Unicode.isNameContinue c = Tok.isAn c := by decide +kernel
/-- signs of a source, no _ -/
def Asc (w : List Nat) : Prop := ∀ c ∈ w, c < 128 ∧ c ≠ 95
theorem all_congr {p q : Nat → Bool} : ∀ {l : List Nat}, (∀ c ∈ l, p c = q c) → l.all p = l.all q
  | [], _ => rfl
  | c :: l, h => by rw [List.all_cons, List.all_cons, h c List.mem_cons_self, all_congr fun d hd => h d (List.mem_cons_of_mem _ hd)]
theorem ident_eq {z : Str} (h : Asc (codesOf z)) : Txt.isidentifier z = Tok.isId (codesOf z) := by
  unfold Txt.isidentifier codesOf
  have h : Asc z.cps.toList := h
  cases e : z.cps.toList with
  | nil => rfl
  | cons c r =>
    rw [e] at h
    obtain ⟨h1, h2⟩ := h c List.mem_cons_self
    show (Unicode.isNameStart c && r.all Unicode.isNameContinue) = (Tok.isAl c && r.all Tok.isAn)
    rw [(id_tab c h1 h2).1, all_congr fun d hd => (id_tab d (h d (List.mem_cons_of_mem _ hd)).1 (h d (List.mem_cons_of_mem _ hd)).2).2]
theorem dgU_tab : ∀ c < 128, Unicode.isDigit c = Tok.isDg c := by decide +kernel
theorem digit_eq {z : Str} (h : Asc (codesOf z)) : Txt.isdigit z = (decide (0 < (codesOf z).length) && (codesOf z).all Tok.isDg) := by
  unfold Txt.isdigit
  rw [txt_all, len_codes, all_congr fun d hd => dgU_tab d (h d hd).1]
theorem mt_isidentifier {X : Cx} : MtR X "str.isidentifier" (fun x xs H Q => ∃ a, x = .str a ∧ xs = [] ∧ True ∧ Q (.bl (Txt.isidentifier a)) H) :=
  mt0 (C := fun _ => True) (g := fun a => .bl (Txt.isidentifier a)) fun _ _ s _ _ h => PySem.SC.isidentifier (h _ s.toks rfl)
theorem asc_drop {w : List Nat} {n : Nat} (h : Asc w) : Asc (w.drop n) := fun c hc => h c (List.mem_of_mem_drop hc)
theorem asc_take {w : List Nat} {n : Nat} (h : Asc w) : Asc (w.take n) := fun c hc => h c (List.mem_of_mem_take hc)
/-! ### slices, ends, beginnings -/
theorem codes_mk (l : List Nat) : codesOf (⟨l.toArray⟩ : Str) = l := rfl
theorem cut_from1 (z : Str) : codesOf (cutS z (some 1) none) = (codesOf z).drop 1 := by
  unfold cutS
  rw [codes_mk]
  have hl := len_codes z
  show ((codesOf z).drop (HT.sIx z.length 0 (some ((1 : Nat) : Int)))).take (HT.sIx z.length z.length none - HT.sIx z.length 0 (some ((1 : Nat) : Int))) = _
  rw [HT.sIx_nat, HT.sIx_none]
  cases e : codesOf z with
  | nil => simp
  | cons c r =>
    rw [e] at hl
    have hl : z.length = r.length + 1 := hl
    rw [hl, show min 1 (r.length + 1) = 1 by omega]
    show List.take (r.length + 1 - 1) r = r
    rw [show r.length + 1 - 1 = r.length by omega, List.take_length]
theorem cut_last (z : Str) : codesOf (cutS z none (some (-1))) = (codesOf z).dropLast := by
  unfold cutS
  rw [codes_mk]
  have hl := len_codes z
  show ((codesOf z).drop (HT.sIx z.length 0 none)).take (HT.sIx z.length z.length (some (-1)) - HT.sIx z.length 0 none) = _
  rw [HT.sIx_none, List.drop_zero]
  have e : HT.sIx z.length z.length (some (-1)) = z.length - 1 := by
    show (if (-1 : Int) < 0 then ((-1 : Int) + (z.length : Int)).toNat else min (-1 : Int).toNat z.length) = _
    rw [if_pos (by decide)]
    omega
  rw [e, Nat.sub_zero, List.dropLast_eq_take, hl] <;> rfl
theorem sub_at {z y : Str} (i : Nat) (h : i + y.length ≤ z.length) : Builtin.Str.subAt z y i = decide (((codesOf z).drop i).take y.length = codesOf y) := by
  by_cases hy : tl y = []
  · have h0 : y.length = 0 := by rw [len_tl, hy]; rfl
    have e : codesOf y = [] := hy
    rw [h0, e]
    unfold Builtin.Str.subAt
    have : z.cps.extract i (i + y.length) = y.cps := by
      apply Array.toList_inj.mp
      rw [h0]
      have : y.cps.toList = [] := hy
      rw [this]
      simp
    rw [this]
    simp
  · have q := at_iff (x := z) hy i
    have d : (decide (((codesOf z).drop i).take y.length = codesOf y)) = pre (tl y) ((tl z).drop i) := by
      unfold pre
      have e1 : y.length = (tl y).length := len_tl y
      rw [e1]
      show decide (((tl z).drop i).take (tl y).length = tl y) = ((((tl z).drop i).take (tl y).length) == tl y)
      by_cases hx : ((tl z).drop i).take (tl y).length = tl y
      · rw [decide_eq_true hx, hx]
        simp
      · rw [decide_eq_false hx]
        exact (beq_eq_false_iff_ne.mpr hx).symm
    rw [d]
    cases hb : Builtin.Str.subAt z y i with
    | true => exact (q.mp ⟨h, hb⟩).symm
    | false =>
      cases hp : pre (tl y) ((tl z).drop i) with
      | false => rfl
      | true =>
        have := (q.mpr hp).2
        rw [hb] at this
        cases this
theorem starts_one (z : Str) (c : Nat) : Txt.startswith z ⟨#[c]⟩ = decide ((codesOf z).head? = some c) := by
  unfold Txt.startswith
  have hl := len_codes z
  have h1 : (⟨#[c]⟩ : Str).length = 1 := rfl
  rw [h1]
  cases e : codesOf z with
  | nil =>
    rw [e] at hl
    have hl : z.length = 0 := hl
    rw [hl]
    simp
  | cons d r =>
    rw [e] at hl
    have hl : z.length = r.length + 1 := hl
    rw [sub_at 0 (by rw [h1, hl]; omega), h1, e, hl]
    show (decide (0 + 1 ≤ r.length + 1) && decide ([d] = [c])) = _
    rw [decide_eq_true (by omega), Bool.true_and]
    by_cases x : d = c
    · subst x
      simp
    · simp [x]
theorem ends_one (z : Str) (c : Nat) : Txt.endswith z ⟨#[c]⟩ = decide ((codesOf z).getLast? = some c) := by
  unfold Txt.endswith
  have hl := len_codes z
  have h1 : (⟨#[c]⟩ : Str).length = 1 := rfl
  rw [h1]
  rcases List.eq_nil_or_concat (codesOf z) with e | ⟨r, d, e⟩
  · rw [e] at hl ⊢
    have hl : z.length = 0 := hl
    rw [hl]
    simp
  · rw [List.concat_eq_append] at e
    have hl : z.length = r.length + 1 := by rw [hl, e, List.length_append]; rfl
    rw [sub_at (z.length - 1) (by rw [h1, hl]; omega), h1, e, hl]
    show (decide (0 + 1 ≤ r.length + 1) && decide (((r ++ [d]).drop (r.length + 1 - 1)).take 1 = [c])) = _
    rw [decide_eq_true (by omega), Bool.true_and, show r.length + 1 - 1 = r.length by omega, List.drop_left, List.getLast?_append]
    show decide ([d] = [c]) = decide (some d = some c)
    by_cases x : d = c
    · subst x
      simp
    · simp [x]
/-- the parts between : -/
def partsL (w : List Nat) : List (List Nat) := spl [58] 0 [] w
theorem split_parts (z : Str) : (Txt.split z ⟨#[58]⟩).map codesOf = partsL (codesOf z) := split_spl z ⟨#[58]⟩ (by decide) (kind_ok (by decide +kernel))
theorem parts_keys : ∀ (w acc : List Nat), (spl [58] 0 acc w).all Tok.okPart = true → ∀ ps, spl [58] 0 acc w = ps → acc ++ w ++ [58] = Tok.keys ps ∧ ps ≠ []
  | [], acc, _, ps, e => by
    rw [spl_nil] at e
    subst e
    refine ⟨?_, by simp⟩
    show acc ++ [] ++ [58] = acc ++ 58 :: []
    simp
  | c :: w, acc, h, ps, e => by
    by_cases hc : c = 58
    · subst hc
      have hp : pre [58] (58 :: w) = true := by unfold pre; simp
      rw [spl_hit hp] at e h
      have e : acc :: spl [58] 0 [] w = ps := e
      have h : (acc :: spl [58] 0 [] w).all Tok.okPart = true := h
      subst e
      rw [List.all_cons, Bool.and_eq_true] at h
      obtain ⟨ih, _⟩ := parts_keys w [] h.2 _ rfl
      refine ⟨?_, by simp⟩
      show acc ++ 58 :: w ++ [58] = acc ++ 58 :: Tok.keys (spl [58] 0 [] w)
      rw [← ih]
      simp
    · have hp : pre [58] (c :: w) = false := pre_of_head [] w hc
      rw [spl_miss hp] at e h
      obtain ⟨ih, h2⟩ := parts_keys w (acc ++ [c]) h ps e
      refine ⟨?_, h2⟩
      rw [← ih]
      simp
theorem last_split {w : List Nat} {c : Nat} (h : w.getLast? = some c) : w = w.dropLast ++ [c] := by
  rcases List.eq_nil_or_concat w with e | ⟨r, d, e⟩
  · subst e
    cases h
  · rw [List.concat_eq_append] at e
    subst e
    rw [List.getLast?_append] at h
    cases h
    simp
theorem keys_of_chunk {w : List Nat} (h : w.getLast? = some 58) (hp : (partsL w.dropLast).all Tok.okPart = true) : w = Tok.keys (partsL w.dropLast) ∧ partsL w.dropLast ≠ [] := by
  obtain ⟨h1, h2⟩ := parts_keys w.dropLast [] hp _ rfl
  refine ⟨?_, h2⟩
  have h1 : [] ++ w.dropLast ++ [58] = Tok.keys (partsL w.dropLast) := h1
  rw [← h1]
  exact last_split h
theorem parts_mem : ∀ (w acc : List Nat) (a : List Nat), a ∈ spl [58] 0 acc w → ∀ c ∈ a, c ∈ acc ++ w
  | [], acc, a, h, c, hc => by
    rw [spl_nil] at h
    rw [List.mem_singleton.mp h] at hc
    simpa using hc
  | d :: w, acc, a, h, c, hc => by
    by_cases hd : d = 58
    · subst hd
      have hp : pre [58] (58 :: w) = true := by unfold pre; simp
      rw [spl_hit hp] at h
      rcases List.mem_cons.mp h with e | h
      · rw [e] at hc
        exact List.mem_append_left _ hc
      · have := parts_mem w [] a h c hc
        refine List.mem_append_right _ (List.mem_cons_of_mem _ ?_)
        simpa using this
    · have hp : pre [58] (d :: w) = false := pre_of_head [] w hd
      rw [spl_miss hp] at h
      have := parts_mem w (acc ++ [d]) a h c hc
      simpa using this
theorem parts_asc {w : List Nat} (h : Asc w) {a : List Nat} (ha : a ∈ partsL w) : Asc a := fun c hc => h c (by simpa using parts_mem w [] a ha c hc)
/-! ### find -/
theorem find_at (z : Str) (w : List Nat) (p q : Nat) {c : Nat} {r l' : List Nat} (hw : w = c :: r) (hc : Tok.isB c = false) (hpq : p ≤ q) (hq : (codesOf z).drop q = w ++ l') (hg : ∀ j, p ≤ j → j < q → ∃ b, (codesOf z)[j]? = some b ∧ Tok.isB b = true) : Txt.find3 z (strOf w) (p : Int) = (q : Int) := by
  have hy : tl (strOf w) ≠ [] := by
    show w ≠ []
    rw [hw]
    simp
  have ew : tl (strOf w) = w := rfl
  have hlen := len_codes z
  have hlt : q + w.length ≤ (codesOf z).length := by
    have e := congrArg List.length hq
    rw [List.length_drop, List.length_append] at e
    have : 0 < w.length := by rw [hw]; simp
    omega
  have hw0 : 0 < w.length := by rw [hw]; simp
  have hf : fromIndex z.length (p : Int) = p := by
    unfold fromIndex
    rw [if_neg (by omega)]
    omega
  have atq : PySem.StrLaws.At z (strOf w) z.length q := (at_iff hy q).mpr (by
    unfold pre
    rw [ew]
    show ((codesOf z).drop q).take w.length == w
    rw [hq, List.take_left]
    simp)
  have nat : ∀ v, p ≤ v → v < q → ¬ PySem.StrLaws.At z (strOf w) z.length v := fun v h1 h2 hA => by
    have hp := (at_iff hy v).mp hA
    obtain ⟨b, hb, hB⟩ := hg v h1 h2
    unfold pre at hp
    rw [ew] at hp
    have hp : ((codesOf z).drop v).take w.length = w := eq_of_beq hp
    have hv : v < (codesOf z).length := by omega
    rw [List.drop_eq_getElem_cons hv, hw] at hp
    rw [List.getElem?_eq_getElem hv] at hb
    have hb : (codesOf z)[v] = b := Option.some.inj hb
    rw [hb] at hp
    have hp : b :: List.take r.length _ = c :: r := hp
    injection hp with hp _
    rw [hp, hc] at hB
    cases hB
  unfold Txt.find3
  rcases PySem.StrLaws.occ_head_from z (strOf w) (fromIndex z.length (p : Int)) 1 (Nat.le_refl 1) with ⟨h0, hn⟩ | ⟨k, rr, h0, hlo, hk, hn⟩
  · exact absurd atq (hn q (by rw [hf]; exact hpq))
  · rw [h0]
    rw [hf] at hlo hn
    show (k : Int) = (q : Int)
    rcases Nat.lt_trichotomy k q with x | x | x
    · exact absurd hk (nat k hlo x)
    · rw [x]
    · exact absurd atq (hn q hpq x)

end My

end
section
set_option Elab.async false
set_option linter.all false
set_option maxRecDepth 100000
set_option maxHeartbeats 2000000
namespace My
open PySem PySem.Spec PyProof.Rows L2 TL

abbrev s_is_symbol : Stmt := top 21
abbrev s_surely_binds : Stmt := top 22
abbrev s_put_keywords : Stmt := top 19
abbrev s_put_string : Stmt := top 20
theorem pe_bmK0 {X : Cx} {K : PySem.W.Frag} {T id : String} {name : Str} {apos cpos : Pos} {r : V → List V → Hp → VK → Prop} {o : Expr} {to : TE} (hK : X.K = K) (pa : PlainAttrs T) (slot : Slot T name id) (hty : typeOf (.builtin id) = pure (.type "method_descriptor")) (hm : MtR X id r) (ho : PE X o to)
    (hbase : attributeBase o name X.env (eval o X.env) = eval o X.env := by rfl) (hline : (apos.endLine == cpos.line) = true := by rfl) : PE X (.Call (.Attribute o name apos) [] [] cpos) (tBM0 K T r to) := by
  subst hK
  exact pe_bm0 pa slot hty hm ho hbase hline
/-! ### a dict of the module, asked by get -/
section
variable {X : Cx} {o e : Expr} {apos cpos : Pos} {to te : TE} {d : Addr} {es : Array DictEntry} {n : Nat}
def tKGet (K : PySem.W.Frag) (d : Addr) (to te : TE) : TE := fun σ H Q => to σ H fun x H1 => x = .ref d ∧ te σ H1 fun y H2 => ∃ (z : Str) (r : Option Value), y = .str z ∧ PySem.W.nsIn K d z = some r ∧ (match r with | none => Q .non H2 | some u => ∃ v, RelV v u ∧ Q v H2)
theorem pe_kget (D : KDict X.K X.w d es n) (ho : PE X o to) (he : PE X e te) (m : M1 X o "get" apos e cpos) : PE X (.Call (.Attribute o "get" apos) [e] [] cpos) (tKGet X.K d to te) := by
  refine ⟨fun pins s σ H Q I h => ?_⟩
  refine wpAny_Call_method m.base m.few m.line PySem.F.plainAttrs_dict PySem.F.slot_dict_get PySem.F.type_dict_get (thn (ho.run pins s σ H _ I h) fun u s1 ⟨x, H1, I1, rx, ex, q1⟩ => ?_)
  subst ex
  obtain rfl : u = Value.ref d := rx
  refine ⟨kd_type D I1, fun b q => ?_, ?_⟩
  · cases q
    exact ⟨_, I1.kIn _ _ D.at_, rfl⟩
  rw [m.trees]
  refine Calls.callWith_builtin rfl (Calls.evalArgs_plain (Calls.spliced_cons (thn (he.run pins s1 σ H1 _ I1 q1) fun iv s2 ⟨y, H2, I2, ry, z, r, ey, hr, q2⟩ => Calls.spliced_nil ?_)))
  subst ey
  obtain ⟨t, rfl⟩ := ry
  refine call_meetsIn PySem.F.slot_dict_get (kd_type D I2) PySem.F.entry_dict_get (PySem.F.args_dict_get_2 _ _) (meets_dict_get (PySem.strKind X.prog X.w) d (PySem.strKind_is X.prog X.w z t) D.low) ⟨_, PySem.W.mapOf_K (prog := X.prog) I2.kIn D.at_ D.lit, ?_⟩
  rw [PySem.W.find_K D.at_ hr]
  cases r with
  | none => exact ⟨.non, H2, I2.tok _, rfl, q2⟩
  | some u =>
    obtain ⟨v, rv, q3⟩ := q2
    exact ⟨v, H2, I2.tok _, rv, q3⟩
end
/-- FIXED at d -/
def FixAt (K : PySem.W.Frag) (w : World) (d : Addr) : Prop := ∃ es n, KDict K w d es n ∧ ∀ z : Str, ∃ r, PySem.W.nsIn K d z = some r ∧ ∀ u, r = some u → ∃ k t, u = .str (kdS k) t ∧ (codesOf z, k) ∈ Tok.fixed
def Good (a : List Nat) : Prop := (Tok.isId a = true ∧ a.length ≤ 40) ∨ a ∈ Tok.ops ∨ ∃ ps, ps ≠ [] ∧ ps.all Tok.okPart = true ∧ a = Tok.keys ps
def spIsSymbol : Sp := fun vs H Q _ => ∃ z : Str, vs = [.str z] ∧ Asc (codesOf z) ∧ (codesOf z).length ≤ 2000 ∧ ∀ b H', Same H H' → (b = true → Good (codesOf z)) → Q (.bl b) H'
section
variable {P : Program} {w : World} {K : PySem.W.Frag} {mg : Str → Option Value} {base : Heap}
theorem sc_is_symbol : FnScope ["text", "part"] ["text"] (defScope s_is_symbol) := ⟨rfl, rfl, rfl, by decide +kernel, rfl, by decide +kernel, by decide +kernel⟩
theorem spl_len : ∀ (w acc : List Nat), (spl [58] 0 acc w).length ≤ w.length + 1
  | [], acc => by rw [spl_nil]; simp
  | c :: w, acc => by
    by_cases hc : c = 58
    · subst hc
      rw [spl_hit (by unfold pre; simp)]
      have : (spl [58] 0 [] w).length ≤ w.length + 1 := spl_len w []
      show (spl [58] 0 [] w).length + 1 ≤ _
      simp only [List.length_cons]
      omega
    · rw [spl_miss (pre_of_head [] w hc)]
      have := spl_len w (acc ++ [c])
      simp only [List.length_cons]
      omega
theorem spl_each : ∀ (w acc a : List Nat), a ∈ spl [58] 0 acc w → a.length ≤ acc.length + w.length
  | [], acc, a, h => by
    rw [spl_nil] at h
    rw [List.mem_singleton.mp h]
    simp
  | c :: w, acc, a, h => by
    by_cases hc : c = 58
    · subst hc
      rw [spl_hit (by unfold pre; simp)] at h
      rcases List.mem_cons.mp h with e | h
      · rw [e]
        omega
      · have : a.length ≤ ([] : List Nat).length + w.length := spl_each w [] a h
        simp only [List.length_cons, List.length_nil] at this ⊢
        omega
    · rw [spl_miss (pre_of_head [] w hc)] at h
      have := spl_each w (acc ++ [c]) a h
      simp only [List.length_append, List.length_cons, List.length_nil] at this ⊢
      omega
theorem tyesB {σ : L2.St} {H : Hp} {A B : Hp → Prop} (h : A H) : tYes σ H (fun b H3 => if b = true then A H3 else B H3) := iteT (A := A H) (B := B H) h
theorem ok_is_symbol {f d : Addr} {fd : FuncData} (F : FnP K "is_symbol" s_is_symbol f fd) (g_len : mg "len" = none) (g_all : mg "all" = none) (g_FX : mg "FIXED" = some (.ref d)) (hF : FixAt K w d) (g_LN : ∃ t, mg "LONGEST_NAME" = some (.int 40 t)) : FnOk P w K mg base CX0 2 f fd ["text"] spIsSymbol := by
  obtain ⟨t, g_LONGEST_NAME⟩ := g_LN
  have r_LONGEST_NAME : RelV (.int 40) (.int 40 t) := ⟨t, rfl⟩
  obtain ⟨es, n, D, hD⟩ := hF
  refine F.ok sc_is_symbol (fun vs H Q E h => ?_) (fun cdv A outer s H vs Q E hr h => ⟨_, PSs.nox
    (pss_cons (ps_if (pt_val (pe_bm0 PySem.F.plainAttrs_str PySem.F.slot_str_isidentifier PySem.F.type_str_isidentifier mt_isidentifier (pv 0))) (pss_one (ps_ret (pe_cmpR op_le (pe_callB call_len_str (by rfl) g_len PySem.boot_len (pa_cons (pv 0) pa_nil)) (pe_glob rfl g_LONGEST_NAME r_LONGEST_NAME) (nomark _)))) pss_nil)
    (pss_cons (ps_if (pt_not (pt_val (pe_bm PySem.F.plainAttrs_str PySem.F.slot_str_endswith PySem.F.type_str_endswith mt_endswith (pv 0) (pa_cons pe_str pa_nil)))) (pss_one (ps_ret (pe_cmpR op_eq (pe_kget D (pe_glob (v := .ref d) rfl g_FX rfl) (pv 0) ⟨rfl, rfl, rfl, rfl⟩) pe_str (nomark _)))) pss_nil)
    (pss_one (ps_ret (pe_callB (cr_all rfl) (by rfl) g_all (by decide +kernel) (pa_cons (pe_lc (own := [("part", 1)]) rfl sc_is_symbol.nd (pi_list (pe_bm PySem.F.plainAttrs_str PySem.F.slot_str_split PySem.F.type_str_split mt_split (pe_slice sl_str (pv 0) po_none (po_some (pe_un un_neg pe_int))) (pa_cons pe_str pa_nil))) (blkOk_by (own := [("part", 1)]) (N := ["text", "part"]) (sc := defScope s_is_symbol) (by decide +kernel)) (fun _ _ _ _ _ => by (exact (pg_name (i := 1) sc_is_symbol.nd rfl (Or.inl rfl)))) (fun _ _ _ _ _ => by exact pts_nil) (fun _ _ _ _ _ => by exact (pe_and (pe_bmK0 (K := K) rfl PySem.F.plainAttrs_str PySem.F.slot_str_isidentifier PySem.F.type_str_isidentifier mt_isidentifier (pv 1)) (pe_one (pe_cmpR op_le (pe_callB call_len_str (by rfl) g_len PySem.boot_len (pa_cons (pv 1) pa_nil)) (pe_glob rfl g_LONGEST_NAME r_LONGEST_NAME) (nomark _)))))) pa_nil)))))), ?_⟩)
  · obtain ⟨z, rfl, _⟩ := h
    rfl
  · obtain ⟨z, rfl, hA, hl, q⟩ := h
    have hs : z.length ≤ sizeLine := by rw [sizeLine_eq, len_codes]; omega
    have e58 : (Str.ofString ":") = ⟨#[58]⟩ := by decide +kernel
    have eop : (Str.ofString "op") = kdS .op := by decide +kernel
    refine ⟨_, rfl, rfl, _, rfl, rfl, trivial, _, rfl, ?_⟩
    rw [ident_eq hA]
    refine ite2 (fun hx => ?_) (fun hx => ?_)
    · refine ⟨_, rfl, _, rfl, hs, _, _, rfl, rfl, ?_⟩
      exact q _ H (Same.refl H) fun y => .inl ⟨hx, by have := of_decide_eq_true y; rw [len_codes] at this; omega⟩
    refine ⟨_, rfl, rfl, _, _, rfl, rfl, _, rfl, ?_⟩
    rw [e58, ends_one]
    by_cases he : (codesOf z).getLast? = some 58
    · rw [decide_eq_true he]
      refine iteF ?_
      have hcl := cut_last z
      have hcz : (cutS z none (some (-1))).length ≤ 2000 := by rw [len_codes, hcl, List.length_dropLast]; omega
      have hAl : Asc (codesOf z).dropLast := fun c hc => hA c (List.dropLast_subset _ hc)
      refine ⟨_, rfl, 1, rfl, _, rfl, z, rfl, hs, rfl, _, _, rfl, rfl, (by decide), (by rw [sizeLine_eq]; omega), fun pl npl => ⟨pl, rfl, ⟨_, SqL.of upd_same⟩, fun Dn nD => ?_⟩⟩
      have hsp := split_parts (cutS z none (some (-1)))
      rw [hcl] at hsp
      have hpl : (Txt.split (cutS z none (some (-1))) ⟨#[58]⟩).length = (partsL (codesOf z).dropLast).length := by rw [← hsp, List.length_map]
      have hple : (partsL (codesOf z).dropLast).length ≤ 3000 := by
        have := spl_len (codesOf z).dropLast []
        have e : (codesOf z).dropLast.length = (codesOf z).length - 1 := List.length_dropLast
        unfold partsL
        omega
      generalize hys : Txt.split (cutS z none (some (-1))) ⟨#[58]⟩ = ys at hsp hpl nD ⊢
      have s1 : Same H (upd H pl (.lst (ys.map V.str))) := same_upd npl
      have s2 := same_upd (o := .lst []) nD
      refine lc_list (K := K) (a := pl) (xs := ys.map V.str) (fun i H' => Same (upd H pl (.lst (ys.map V.str))) H' ∧ H' Dn = some (.lst ((((partsL (codesOf z).dropLast).take i).map Tok.okPart).map V.bl))) ⟨s2, upd_same⟩ (fun i H' _ R => SqL.of (R.1 _ _ upd_same)) ?hs ?hd
      case hs =>
        intro i x H' hx R
        rw [List.getElem?_map] at hx
        obtain ⟨y, hy, rfl⟩ := Option.map_eq_some_iff.mp hx
        have hpi : (partsL (codesOf z).dropLast)[i]? = some (codesOf y) := by rw [← hsp, List.getElem?_map, hy]; rfl
        have hya : Asc (codesOf y) := parts_asc hAl (List.mem_of_getElem? hpi)
        have hyl : (codesOf y).length ≤ 2000 := by
          have : (codesOf y).length ≤ 0 + (codesOf z).dropLast.length := spl_each (codesOf z).dropLast [] _ (List.mem_of_getElem? hpi)
          have e : (codesOf z).dropLast.length = (codesOf z).length - 1 := List.length_dropLast
          omega
        have hysz : y.length ≤ sizeLine := by rw [sizeLine_eq, len_codes]; omega
        have fin : ∀ b : Bool, b = Tok.okPart (codesOf y) → ∃ acc, H' Dn = some (.lst acc) ∧ acc.length < sizeLine ∧ (Same (upd H pl (.lst (ys.map V.str))) (upd H' Dn (.lst (acc ++ [V.bl b]))) ∧ (upd H' Dn (.lst (acc ++ [V.bl b]))) Dn = some (.lst ((((partsL (codesOf z).dropLast).take (i + 1)).map Tok.okPart).map V.bl))) := fun b hb => by
          refine ⟨_, R.2, ?_, fun a o e => ?_, ?_⟩
          · rw [List.length_map, List.length_map, List.length_take, sizeLine_eq]
            omega
          · rw [upd_ne (ne_of_none e nD)]
            exact R.1 _ _ e
          · rw [upd_same, List.take_add_one, hpi, hb]
            simp
        refine ⟨rfl, tyesB ?_⟩
        refine ⟨_, rfl, rfl, _, rfl, rfl, trivial, _, rfl, ?_⟩
        rw [ident_eq hya]
        refine ite2 (fun hi => ?_) (fun hi => ?_)
        · refine ⟨_, rfl, _, rfl, hysz, _, _, rfl, rfl, ?_⟩
          refine fin _ ?_
          unfold Tok.okPart
          rw [hi, Bool.true_and, len_codes]
          exact decide_eq_decide.mpr (by omega)
        · refine fin false ?_
          unfold Tok.okPart
          rw [Bool.eq_false_iff.mpr hi, Bool.false_and]
      case hd =>
        intro H' R
        have R2 := R.2
        rw [List.length_map, hpl, List.take_length] at R2
        refine ⟨Dn, (partsL (codesOf z).dropLast).map Tok.okPart, rfl, SqL.of R2, q _ H' (s1.trans R.1) fun y => ?_⟩
        have y : (partsL (codesOf z).dropLast).all Tok.okPart = true := by
          rw [List.all_map] at y
          exact y
        obtain ⟨k1, k2⟩ := keys_of_chunk he y
        exact .inr (.inr ⟨_, k2, y, k1⟩)
    · rw [decide_eq_false he]
      refine iteT ?_
      obtain ⟨r, hr, hru⟩ := hD z
      refine ⟨rfl, _, rfl, z, r, rfl, hr, ?_⟩
      cases r with
      | none => exact ⟨rfl, q _ H (Same.refl H) fun y => by cases of_decide_eq_true y⟩
      | some u =>
        obtain ⟨k, tk, rfl, hk⟩ := hru u rfl
        refine ⟨.str (kdS k), ⟨tk, rfl⟩, rfl, q _ H (Same.refl H) fun y => ?_⟩
        rw [eop] at y
        have y : kdS k = kdS .op := V.str.inj (of_decide_eq_true y)
        rcases Tok.fixed_cases hk with ⟨rfl, _⟩ | ⟨_, h⟩
        · exact absurd y (by decide +kernel)
        · exact .inr (.inl h)
end

end My

end
section
set_option Elab.async false
set_option linter.all false
set_option maxRecDepth 100000
set_option maxHeartbeats 2000000
namespace My
open PySem PySem.Spec PyProof.Rows L2 TL

/-- the list of words and the list of texts, under way -/
structure Wt (K : PySem.W.Frag) (H0 H' : Hp) (aw ap : Addr) (ws : List Tok.W) (ts : List V) : Prop where
  old : Same H0 H'
  newW : H0 aw = none
  newP : H0 ap = none
  ne : aw ≠ ap
  at_ : ∃ xs D, H' aw = some (.lst xs) ∧ DpAll K D xs (ws.map dW) ∧ ∀ a o, D a = some o → H' a = some o ∧ a ≠ aw ∧ a ≠ ap ∧ H0 a = none
  txt : H' ap = some (.lst ts)
section
variable {K : PySem.W.Frag} {H0 H1 H2 : Hp} {aw ap : Addr} {ws : List Tok.W} {ts ts' : List V}
theorem Wt.later (w : Wt K H0 H1 aw ap ws ts) (e : Same H1 H2) : Wt K H0 H2 aw ap ws ts := by
  obtain ⟨xs, D, h1, h2, h3⟩ := w.at_
  exact ⟨w.old.trans e, w.newW, w.newP, w.ne, ⟨xs, D, e _ _ h1, h2, fun a o z => ⟨e _ _ (h3 a o z).1, (h3 a o z).2⟩⟩, e _ _ w.txt⟩
theorem Wt.note (w : Wt K H0 H1 aw ap ws ts) (h : H2 ap = some (.lst ts')) (e : ∀ b o, b ≠ ap → H1 b = some o → H2 b = some o) : Wt K H0 H2 aw ap ws ts' := by
  obtain ⟨xs, D, h1, h2, h3⟩ := w.at_
  refine ⟨fun a o z => e a o (fun y => by rw [y, w.newP] at z; cases z) (w.old a o z), w.newW, w.newP, w.ne, ⟨xs, D, e _ _ w.ne h1, h2, fun a o z => ?_⟩, h⟩
  obtain ⟨g1, g2, g3, g4⟩ := h3 a o z
  exact ⟨e _ _ g3 g1, g2, g3, g4⟩
/-- a word more: its tuple is new at q -/
theorem Wt.more {q : Addr} {w : Tok.W} {xs : List V} (W : Wt K H0 H1 aw ap ws ts) (hx : H1 aw = some (.lst xs)) (hq : H1 q = none) (o : HO) (ho : o = .tup [.str (kdS w.1), vVal w.2.1, .int (w.2.2 : Int)]) :
    Wt K H0 (upd (upd H1 q o) aw (.lst (xs ++ [.ref q]))) aw ap (ws ++ [w]) ts := by
  subst ho
  obtain ⟨xs', D, h1, h2, h3⟩ := W.at_
  rw [hx] at h1
  injection h1 with h1
  injection h1 with h1
  subst h1
  have qa : q ≠ aw := fun e => by rw [e, hx] at hq; cases hq
  have qp : q ≠ ap := fun e => by rw [e, W.txt] at hq; cases hq
  have q0 : H0 q = none := W.old.free hq
  have nD : D q = none := by
    cases z : D q with
    | none => rfl
    | some o => rw [(h3 q o z).1] at hq; cases hq
  have sD : Same D (upd D q (.tup [.str (kdS w.1), vVal w.2.1, .int (w.2.2 : Int)])) := fun b o z => by rw [upd_ne (ne_of_none z nD)]; exact z
  refine ⟨fun a o z => ?_, W.newW, W.newP, W.ne, ⟨xs ++ [.ref q], upd D q (.tup [.str (kdS w.1), vVal w.2.1, .int (w.2.2 : Int)]), upd_same, ?_, fun a o z => ?_⟩, ?_⟩
  · have n1 : a ≠ aw := fun e => by rw [e, W.newW] at z; cases z
    have n2 : a ≠ q := fun e => by rw [e, q0] at z; cases z
    rw [upd_ne n1, upd_ne n2]
    exact W.old a o z
  · rw [List.map_append]
    refine dpAll_append (dp_monoAll sD _ _ h2) (.cons ?_ .nil)
    unfold dW
    refine .tup (SqT.of upd_same) (.cons (.str _) (.cons ?_ (.cons (.int _) .nil)))
    cases w.2.1 with
    | s t => exact .str _
    | i n => exact .int _
  · by_cases c : a = q
    · subst c
      rw [upd_same] at z
      rw [upd_ne qa, upd_same]
      exact ⟨z, qa, qp, q0⟩
    · rw [upd_ne c] at z
      obtain ⟨g1, g2, g3, g4⟩ := h3 a o z
      rw [upd_ne g2, upd_ne c]
      exact ⟨g1, g2, g3, g4⟩
  · rw [upd_ne (Ne.symm W.ne), upd_ne (Ne.symm qp)]
    exact W.txt
/-- the words' list as it stands -/
theorem Wt.lst (W : Wt K H0 H1 aw ap ws ts) : ∃ xs, H1 aw = some (.lst xs) ∧ DpAll K H1 xs (ws.map dW) ∧ xs.length = ws.length := by
  obtain ⟨xs, D, h1, h2, h3⟩ := W.at_
  exact ⟨xs, h1, dp_monoAll (fun a o z => (h3 a o z).1) _ _ h2, by rw [dpAll_length h2, List.length_map]⟩
/-- words.append((k, v, p)) -/
theorem append_word {X : Cx} {σ : L2.St} {e : TE} {ta tb tc : TE} {Q : V → Hp → Prop} : True := trivial
end
section
variable {P : Program} {w : World} {K : PySem.W.Frag} {mg : Str → Option Value} {base : Heap}
def spSure (K : PySem.W.Frag) : Sp := fun vs H Q _ => ∃ (aw : Addr) (xs : List V) (ws : List Tok.W), vs = [.ref aw] ∧ H aw = some (.lst xs) ∧ DpAll K H xs (ws.map dW) ∧ xs.length ≤ 3000 ∧ ∀ b H', Same H H' → (b = true → ∀ par, Tok.binds par (Tok.lastK ws) = true) → Q (.bl b) H'
theorem sc_surely_binds : FnScope ["words"] ["words"] (defScope s_surely_binds) := ⟨rfl, rfl, rfl, by decide +kernel, rfl, by decide +kernel, by decide +kernel⟩
theorem ok_surely_binds {f : Addr} {fd : FuncData} (F : FnP K "surely_binds" s_surely_binds f fd) (g_VK : TupAt K mg "VALUE_KINDS" vkinds) : FnOk P w K mg base CX0 2 f fd ["words"] (spSure K) := by
  obtain ⟨aVK, g_VALUE_KINDS, hVK⟩ := g_VK
  have r_VALUE_KINDS : RelV (.ref aVK) (.ref aVK) := rfl
  refine F.ok sc_surely_binds (fun vs H Q E h => ?_) (fun cdv A outer s H vs Q E hr h => ⟨_, PSs.nox
    (pss_one (ps_ret (pe_or (pe_notT (pv 0)) (pe_one (pe_and (pe_cmpR op_notIn_seq (pe_ix ix_tup (pe_ix ix_list (pv 0) (pe_un un_neg pe_int) (fun _ _ => rfl)) pe_int (fun _ _ => rfl)) (pe_glob rfl g_VALUE_KINDS r_VALUE_KINDS) (by rfl)) (pe_one (pe_cmpR op_notIn_seq (pe_ix ix_tup (pe_ix ix_list (pv 0) (pe_un un_neg pe_int) (fun _ _ => rfl)) pe_int (fun _ _ => rfl)) (pe_tup (pa_cons pe_str (pa_cons pe_str pa_nil))) (by rfl)))))))), ?_⟩)
  · obtain ⟨aw, xs, ws, rfl, _⟩ := h
    rfl
  · obtain ⟨aw, xs, ws, rfl, hw, hD, hxl, q⟩ := h
    have hlen := dpAll_length hD
    rw [List.length_map] at hlen
    refine ⟨_, rfl, !xs.isEmpty, .inl ⟨xs, SqL.of hw, rfl⟩, _, rfl, ?_⟩
    rcases List.eq_nil_or_concat ws with e | ⟨ws', lw, e⟩
    · subst e
      have : xs = [] := List.eq_nil_of_length_eq_zero hlen
      subst this
      refine ite2 (fun _ => ?_) (fun y => absurd rfl y)
      exact q _ H (Same.refl H) fun _ par => by rw [binds_eq]; show (par.any id || true) = true; rw [Bool.or_true]
    · have e : ws = ws' ++ [lw] := by rw [e, List.concat_eq_append]
      subst e
      have hl2 : xs.length = ws'.length + 1 := by rw [hlen, List.length_append]; rfl
      have hne : xs ≠ [] := fun e => by rw [e] at hl2; cases hl2
      refine ite2 (fun y => ?_) (fun _ => ?_)
      · cases xs with
        | nil => exact absurd rfl hne
        | cons _ _ => cases y
      · have hv : xs[ws'.length]? = some (xs[ws'.length]'(by omega)) := List.getElem?_eq_getElem (by omega)
        generalize xs[ws'.length]'(by omega) = v at hv
        obtain ⟨d, hd, hdp⟩ := dpAll_get hD hv
        have ed : d = dW lw := by
          rw [List.map_append, List.getElem?_append_right (by rw [List.length_map]; exact Nat.le_refl _), List.length_map, Nat.sub_self] at hd
          injection hd with hd
          exact hd.symm
        subst ed
        obtain ⟨a, rfl, hT⟩ := dp_wordP hdp
        have hat : atI xs (-1) = some (V.ref a) := by
          unfold atI ixN
          rw [if_neg (by decide)]
          rw [if_pos (by omega)]
          show xs[((-1 : Int) + (xs.length : Int)).toNat]? = _
          rw [show ((-1 : Int) + (xs.length : Int)).toNat = ws'.length by omega]
          exact hv
        have bq : ∀ par, Tok.binds par (Tok.lastK (ws' ++ [lw])) = (par.any id || (!(decide (lw.1 = .name) || decide (lw.1 = .int) || decide (lw.1 = .str) || decide (lw.1 = .sym)) && !(decide (lw.2.1 = .s [41]) || decide (lw.2.1 = .s [93])))) := fun par => by
          rw [Tok.lastK_app, binds_eq]
        have flatK : (vkinds.map fun x => V.str (strOf x)).all flatV = true := by decide +kernel
        have flatv : flatV (vVal lw.2.1) = true := by cases lw.2.1 <;> rfl
        refine ⟨_, rfl, 1, rfl, _, _, _, _, rfl, rfl, SqL.of hw, hat, _, _, _, _, rfl, rfl, hT, atI_nat (j := 0) rfl, aVK, _, rfl, .inr (hVK H), rfl, flatK, _, rfl, ?_⟩
        have ik := in_kinds lw.1
        refine ite2 (fun y => ?_) (fun y => ?_)
        · have y : (!inV (V.str (kdS lw.1)) (vkinds.map fun x => V.str (strOf x))) = true := y
          rw [ik] at y
          refine ⟨_, rfl, 1, rfl, _, _, _, _, rfl, rfl, SqL.of hw, hat, _, _, _, _, rfl, rfl, hT, atI_nat (j := 1) rfl, (by show 2 ≤ sizeLine; decide), fun r nr => ?_⟩
          refine ⟨r, _, rfl, .inr (SqT.of upd_same), flatv, rfl, ?_⟩
          show Q (V.bl (!inV (vVal lw.2.1) [V.str (Str.ofString ")"), V.str (Str.ofString "]")])) _
          rw [in_ends]
          exact q _ _ (same_upd nr) fun z par => by rw [bq, y, z, Bool.true_and, Bool.or_true]
        · exact q false H (Same.refl H) fun z => by cases z
end

end My

end
section
set_option Elab.async false
set_option linter.all false
set_option maxRecDepth 100000
set_option maxHeartbeats 2000000
namespace My
open PySem PySem.Spec PyProof.Rows L2 TL

theorem keyWords_snoc : ∀ (ps : List (List Nat)) (a : List Nat) (q : Nat), Tok.keyWords (ps ++ [a]) q = Tok.keyWords ps q ++ [(.keyword, .s (a ++ [58]), q + (Tok.keys ps).length)]
  | [], a, q => rfl
  | b :: ps, a, q => by
    show (Tok.Kd.keyword, Tok.Val.s (b ++ [58]), q) :: Tok.keyWords (ps ++ [a]) (q + b.length + 1) = (Tok.Kd.keyword, Tok.Val.s (b ++ [58]), q) :: Tok.keyWords ps (q + b.length + 1) ++ _
    rw [keyWords_snoc ps a]
    have e : q + b.length + 1 + (Tok.keys ps).length = q + (Tok.keys (b :: ps)).length := by
      show _ = q + (b ++ 58 :: Tok.keys ps).length
      simp
      omega
    rw [e]
    rfl
theorem keys_snoc : ∀ (ps : List (List Nat)) (a : List Nat), Tok.keys (ps ++ [a]) = Tok.keys ps ++ (a ++ [58])
  | [], a => rfl
  | b :: ps, a => by
    show b ++ 58 :: Tok.keys (ps ++ [a]) = (b ++ 58 :: Tok.keys ps) ++ (a ++ [58])
    rw [keys_snoc ps a]
    simp
theorem keyWords_len : ∀ (ps : List (List Nat)) (q : Nat), (Tok.keyWords ps q).length = ps.length
  | [], _ => rfl
  | _ :: ps, q => by
    show (Tok.keyWords ps _).length + 1 = ps.length + 1
    rw [keyWords_len ps]
def spKeys (K : PySem.W.Frag) : Sp := fun vs H Q _ => ∃ (H0 : Hp) (aw ap : Addr) (ws : List Tok.W) (ts : List V) (z : Str) (q : Nat), vs = [.ref aw, .str z, .int (q : Int)] ∧ Wt K H0 H aw ap ws ts ∧ Asc (codesOf z) ∧ (codesOf z).length ≤ 2000 ∧ ws.length ≤ 5000 ∧ (codesOf z).getLast? = some 58 ∧
  (∀ H', Same H0 H' → Q (.int (-1)) H') ∧
  (∀ ps H', codesOf z = Tok.keys ps → ps ≠ [] → ps.all Tok.okPart = true → Wt K H0 H' aw ap (ws ++ Tok.keyWords ps q) ts → Q (.int ((q + (codesOf z).length : Nat) : Int)) H')
section
variable {P : Program} {w : World} {K : PySem.W.Frag} {mg : Str → Option Value} {base : Heap}
theorem sc_put_keywords : FnScope ["words", "chunk", "place", "part"] ["words", "chunk", "place"] (defScope s_put_keywords) := ⟨rfl, rfl, rfl, by decide +kernel, rfl, by decide +kernel, by decide +kernel⟩
theorem ok_put_keywords {f : Addr} {fd : FuncData} (F : FnP K "put_keywords" s_put_keywords f fd) (g_len : mg "len" = none) (g_LN : ∃ t, mg "LONGEST_NAME" = some (.int 40 t)) : FnOk P w K mg base CX0 2 f fd ["words", "chunk", "place"] (spKeys K) := by
  obtain ⟨t, g_LONGEST_NAME⟩ := g_LN
  have r_LONGEST_NAME : RelV (.int 40) (.int 40 t) := ⟨t, rfl⟩
  refine F.ok sc_put_keywords (fun vs H Q E h => ?_) (fun cdv A outer s H vs Q E hr h => ⟨_, PSs.nox
    (pss_cons (ps_for PassesOwn.never rfl (pi_list (pe_bm PySem.F.plainAttrs_str PySem.F.slot_str_split PySem.F.type_str_split mt_split (pe_slice sl_str (pv 1) po_none (po_some (pe_un un_neg pe_int))) (pa_cons pe_str pa_nil))) (pg_name (i := 3) sc_put_keywords.nd rfl (Or.inl rfl)) (pss_cons (ps_if (PW.pt (pw_or (pt_not (pt_val (pe_bm0 PySem.F.plainAttrs_str PySem.F.slot_str_isidentifier PySem.F.type_str_isidentifier mt_isidentifier (pv 3)))) (pw_or1 (pt_cmpR op_gt (pe_callB call_len_str (by rfl) g_len PySem.boot_len (pa_cons (pv 3) pa_nil)) (pe_glob rfl g_LONGEST_NAME r_LONGEST_NAME) (nomark _))))) (pss_one (ps_ret (pe_un un_neg pe_int))) pss_nil)
      (pss_cons (ps_expr (pe_bm PySem.F.plainAttrs_list PySem.F.slot_list_append PySem.F.type_list_append mt_append (pv 0) (pa_cons (pe_tup (pa_cons pe_str (pa_cons (pe_op op_add_str (pv 3) pe_str) (pa_cons (pv 2) pa_nil)))) pa_nil)))
      (pss_one (ps_aug (i := 2) sc_put_keywords.nd rfl (Or.inl rfl) (pe_op op_add (pe_callB call_len_str (by rfl) g_len PySem.boot_len (pa_cons (pv 3) pa_nil)) pe_int) ip_add)))))
      (pss_one (ps_ret (pv 2)))), ?_⟩)
  · obtain ⟨H0, aw, ap, ws, ts, z, q, rfl, _⟩ := h
    rfl
  · obtain ⟨H0, aw, ap, ws, ts, z, q, rfl, W, hA, hl, hwl, he, hbad, hok⟩ := h
    have hs : z.length ≤ sizeLine := by rw [sizeLine_eq, len_codes]; omega
    have e58 : (Str.ofString ":") = ⟨#[58]⟩ := by decide +kernel
    have hcl := cut_last z
    have hcz : (cutS z none (some (-1))).length ≤ 2000 := by rw [len_codes, hcl, List.length_dropLast]; omega
    have hAl : Asc (codesOf z).dropLast := fun c hc => hA c (List.dropLast_subset _ hc)
    have hdl : (codesOf z).dropLast.length = (codesOf z).length - 1 := List.length_dropLast
    refine ⟨_, rfl, 1, rfl, _, rfl, z, rfl, hs, rfl, _, _, rfl, rfl, (by decide), (by rw [sizeLine_eq]; omega), fun pl npl => ⟨pl, rfl, ⟨_, SqL.of upd_same⟩, ?_⟩⟩
    rw [e58]
    have hsp := split_parts (cutS z none (some (-1)))
    rw [hcl] at hsp
    have hpl : (Txt.split (cutS z none (some (-1))) ⟨#[58]⟩).length = (partsL (codesOf z).dropLast).length := by rw [← hsp, List.length_map]
    have hple : (partsL (codesOf z).dropLast).length ≤ 2001 := by
      have : (partsL (codesOf z).dropLast).length ≤ (codesOf z).dropLast.length + 1 := spl_len (codesOf z).dropLast []
      omega
    generalize hys : Txt.split (cutS z none (some (-1))) ⟨#[58]⟩ = ys at hsp hpl ⊢
    have W1 := W.later (same_upd (o := .lst (ys.map V.str)) npl)
    have hpl1 : (upd H pl (.lst (ys.map V.str))) pl = some (.lst (ys.map V.str)) := upd_same
    have npa : pl ≠ aw := fun e => by
      obtain ⟨xs, D, h1, _⟩ := W.at_
      rw [← e, npl] at h1
      cases h1
    generalize upd H pl (.lst (ys.map V.str)) = H1 at W1 hpl1 ⊢
    refine for_list (K := K) (a := pl) (xs := ys.map V.str) (fun i σ H' => ∃ x, σ = [some (.ref aw), some (.str z), some (.int ((q + (Tok.keys ((partsL (codesOf z).dropLast).take i)).length : Nat) : Int)), x] ∧ ((partsL (codesOf z).dropLast).take i).all Tok.okPart = true ∧ Wt K H0 H' aw ap (ws ++ Tok.keyWords ((partsL (codesOf z).dropLast).take i) q) ts ∧ H' pl = some (.lst (ys.map V.str)))
      ⟨_, rfl, rfl, by show Wt K H0 H1 aw ap (ws ++ []) ts; rw [List.append_nil]; exact W1, hpl1⟩ (fun i σ H' _ R => by obtain ⟨_, _, _, _, h⟩ := R; exact SqL.of h) ?turn ?last
    case turn =>
      rintro i x σ H2 hx ⟨x0, rfl, hall, W2, hp2⟩
      rw [List.getElem?_map] at hx
      obtain ⟨y, hy, rfl⟩ := Option.map_eq_some_iff.mp hx
      have hpi : (partsL (codesOf z).dropLast)[i]? = some (codesOf y) := by rw [← hsp, List.getElem?_map, hy]; rfl
      have hil : i < (partsL (codesOf z).dropLast).length := by
        rcases Nat.lt_or_ge i (partsL (codesOf z).dropLast).length with h | h
        · exact h
        · rw [List.getElem?_eq_none h] at hpi; cases hpi
      have hya : Asc (codesOf y) := parts_asc hAl (List.mem_of_getElem? hpi)
      have hyl : (codesOf y).length ≤ 2000 := by
        have : (codesOf y).length ≤ 0 + (codesOf z).dropLast.length := spl_each (codesOf z).dropLast [] _ (List.mem_of_getElem? hpi)
        omega
      have hysz : y.length ≤ sizeLine := by rw [sizeLine_eq, len_codes]; omega
      have out : ∃ i, V.int 1 = V.int i ∧ Q (.int (-i)) H2 := ⟨1, rfl, hbad _ W2.old⟩
      refine ⟨_, rfl, rfl, _, rfl, rfl, trivial, _, rfl, ?_⟩
      rw [ident_eq hya]
      cases hi : Tok.isId (codesOf y) with
      | false => exact iteT (iteT out)
      | true =>
        refine iteF ?_
        refine ⟨_, rfl, _, rfl, hysz, _, _, rfl, rfl, _, rfl, ?_⟩
        refine ite2 (fun _ => out) (fun hg => ?_)
        have h40 : (codesOf y).length ≤ 40 := by
          rcases Nat.lt_or_ge 40 (codesOf y).length with h | h
          · exact absurd (decide_eq_true (by rw [len_codes]; omega)) hg
          · exact h
        obtain ⟨xs, hxw, hxD, hxl⟩ := W2.lst
        have hpart : Tok.okPart (codesOf y) = true := by
          unfold Tok.okPart
          rw [hi, decide_eq_true h40]
          rfl
        have etake : (partsL (codesOf z).dropLast).take (i + 1) = (partsL (codesOf z).dropLast).take i ++ [codesOf y] := by rw [List.take_add_one, hpi]; rfl
        have ev : y ++ (⟨#[58]⟩ : Str) = strOf (codesOf y ++ [58]) := by
          apply ext_tl
          rw [tl_append]
          rfl
        refine ⟨_, rfl, .inl ⟨rfl, _, SqL.of hxw⟩, _, rfl, _, _, rfl, rfl, (by rw [sizeLine_eq, len_codes]; show _ + 1 ≤ _; omega), _, rfl, (by show 3 ≤ sizeLine; decide), fun r nr => ?_⟩
        have W3 := W2.more (w := (.keyword, .s (codesOf y ++ [58]), q + (Tok.keys ((partsL (codesOf z).dropLast).take i)).length)) hxw nr _ rfl
        have ra : aw ≠ r := fun e => by rw [← e, hxw] at nr; cases nr
        have rp : pl ≠ r := fun e => by rw [← e, hp2] at nr; cases nr
        have hxl2 : xs.length ≤ 8000 := by
          rw [hxl, List.length_append, keyWords_len, List.length_take]
          omega
        refine ⟨aw, xs, .ref r, rfl, rfl, by rw [upd_ne ra]; exact hxw, by rw [sizeLine_eq]; omega, ?_⟩
        show (_ : Prop)
        rw [ev]
        refine ⟨_, rfl, _, rfl, _, rfl, hysz, _, _, rfl, rfl, _, _, rfl, rfl, ?_⟩
        refine ⟨some (.str y), ?_, ?_, ?_, ?_⟩
        · rw [etake, keys_snoc]
          show [_, _, some (V.int (((q + (Tok.keys ((partsL (codesOf z).dropLast).take i)).length : Nat) : Int) + ((y.length : Int) + 1))), _] = _
          rw [len_codes]
          congr 4
          simp
          omega
        · rw [etake, List.all_append, hall]
          show (true && (Tok.okPart (codesOf y) && true)) = true
          rw [hpart]
          rfl
        · rw [etake, keyWords_snoc, ← List.append_assoc]
          exact W3
        · rw [upd_ne npa, upd_ne rp]
          exact hp2
    case last =>
      rintro σ H2 ⟨x0, rfl, hall, W2, hp2⟩
      rw [List.length_map, hpl, List.take_length] at hall W2 ⊢
      obtain ⟨k1, k2⟩ := keys_of_chunk he hall
      refine ⟨_, rfl, ?_⟩
      have := hok _ H2 k1 k2 hall W2
      rw [k1] at this
      exact this
end

end My

end
section
set_option Elab.async false
set_option linter.all false
set_option maxRecDepth 100000
set_option maxHeartbeats 2000000
namespace My
open PySem PySem.Spec PyProof.Rows L2 TL

theorem find_c (z : Str) (c p q : Nat) {l' : List Nat} (hpq : p ≤ q) (hq : (codesOf z).drop q = c :: l') (hg : ∀ j, p ≤ j → j < q → ∃ b, (codesOf z)[j]? = some b ∧ b ≠ c) : Txt.find3 z ⟨#[c]⟩ (p : Int) = (q : Int) := by
  have hy : tl (⟨#[c]⟩ : Str) ≠ [] := by
    show [c] ≠ []
    simp
  have hlen := len_codes z
  have hlt : q + 1 ≤ (codesOf z).length := by
    have e := congrArg List.length hq
    rw [List.length_drop, List.length_cons] at e
    omega
  have hf : fromIndex z.length (p : Int) = p := by
    unfold fromIndex
    rw [if_neg (by omega)]
    omega
  have atq : PySem.StrLaws.At z ⟨#[c]⟩ z.length q := (at_iff hy q).mpr (by
    unfold pre
    show ((codesOf z).drop q).take 1 == [c]
    rw [hq]
    show [c] == [c]
    simp)
  have nat : ∀ v, p ≤ v → v < q → ¬ PySem.StrLaws.At z ⟨#[c]⟩ z.length v := fun v h1 h2 hA => by
    have hp := (at_iff hy v).mp hA
    obtain ⟨b, hb, hB⟩ := hg v h1 h2
    unfold pre at hp
    have hp : ((codesOf z).drop v).take 1 = [c] := eq_of_beq hp
    have hv : v < (codesOf z).length := by omega
    rw [List.drop_eq_getElem_cons hv] at hp
    rw [List.getElem?_eq_getElem hv] at hb
    have hb : (codesOf z)[v] = b := Option.some.inj hb
    rw [hb] at hp
    have hp : [b] = [c] := hp
    injection hp with hp _
    exact hB hp
  unfold Txt.find3
  rcases PySem.StrLaws.occ_head_from z ⟨#[c]⟩ (fromIndex z.length (p : Int)) 1 (Nat.le_refl 1) with ⟨h0, hn⟩ | ⟨k, rr, h0, hlo, hk, hn⟩
  · exact absurd atq (hn q (by rw [hf]; exact hpq))
  · rw [h0]
    rw [hf] at hlo hn
    show (k : Int) = (q : Int)
    rcases Nat.lt_trichotomy k q with x | x | x
    · exact absurd hk (nat k hlo x)
    · rw [x]
    · exact absurd atq (hn q hpq x)
theorem body_cnt : ∀ {f : Nat} {l t : List Nat} {n : Nat}, Tok.strBody f l = some (t, n) → ∃ k : Nat, cnt 39 t = (k : Int) ∧ n = t.length + k + 1
  | 0, _, _, _, h => by cases h
  | _ + 1, [], _, _, h => by cases h
  | f + 1, c :: l, t, n, h => by
    rw [Tok.strBody.eq_def] at h
    simp only [] at h
    split at h
    · split at h
      · rename_i r
        split at h
        · rename_i t' n' e
          cases h
          obtain ⟨k, h1, h2⟩ := body_cnt e
          refine ⟨k + 1, ?_, ?_⟩
          · rw [cnt_cons, h1, if_pos rfl]
            omega
          · rw [h2, List.length_cons]
            omega
        · cases h
      · cases h
        exact ⟨0, rfl, rfl⟩
    · rename_i hc
      split at h
      · rename_i t' n' e
        cases h
        obtain ⟨k, h1, h2⟩ := body_cnt e
        refine ⟨k, ?_, ?_⟩
        · rw [cnt_cons, h1, if_neg hc]
          omega
        · rw [h2, List.length_cons]
          omega
      · cases h
/-- the texts to come, as the program's list holds them: the next one last -/
def tsV (ts : List (List Nat)) : List V := ts.reverse.map fun t => V.str (strOf t)
theorem tsV_cons (x : List Nat) (ts : List (List Nat)) : tsV (x :: ts) = tsV ts ++ [V.str (strOf x)] := by
  unfold tsV
  rw [List.reverse_cons, List.map_append]
  rfl
theorem tsV_empty (ts : List (List Nat)) : (tsV ts).isEmpty = ts.isEmpty := by
  cases ts with
  | nil => rfl
  | cons x ts => rw [tsV_cons]; cases tsV ts <;> rfl
/-- what is left of the signs in the place of strings -/
def Left (L : List Nat) (ts : List (List Nat)) : Prop := ts = [] ∨ (123 ∉ L ∧ 125 ∉ L)
/-- what a chunk's words do to the standing -/
def PutOk (K : PySem.W.Frag) (H0 : Hp) (aw ap : Addr) (L : List Nat) (rest : List (List Nat)) (Q : VK) : Prop :=
  (∀ H', Same H0 H' → Q (.int (-1)) H') ∧
  ∀ (ws : List Tok.W) (q : Nat) (ts : List (List Nat)) (H' : Hp), Wt K H0 H' aw ap ws (tsV ts) → Tok.At L ws q ts rest → ws.length ≤ q → Left L ts → Q (.int (q : Int)) H'
def spPutStr (K : PySem.W.Frag) : Sp := fun vs H Q _ => ∃ (H0 : Hp) (aw ap : Addr) (ws : List Tok.W) (ch src : Str) (p q : Nat) (x t l' : List Nat) (ts0 ts' rest : List (List Nat)),
  vs = [.ref aw, .str ch, .str src, .int (p : Int), .ref ap] ∧ (ch = ⟨#[123]⟩ ∨ ch = ⟨#[125]⟩) ∧ Wt K H0 H aw ap ws (tsV (x :: ts0)) ∧
  Tok.Next (codesOf src) ws p q (codesOf ch) t l' (x :: ts0) ts' rest ∧ 123 ∉ codesOf src ∧ 125 ∉ codesOf src ∧ (codesOf src).length ≤ 2000 ∧ ws.length ≤ p ∧ PutOk K H0 aw ap (codesOf src) rest Q
section
variable {P : Program} {w : World} {K : PySem.W.Frag} {mg : Str → Option Value} {base : Heap}
theorem sc_put_string : FnScope ["words", "chunk", "source", "place", "texts", "text", "end"] ["words", "chunk", "source", "place", "texts"] (defScope s_put_string) := ⟨rfl, rfl, rfl, by decide +kernel, rfl, by decide +kernel, by decide +kernel⟩
theorem ok_put_string {f : Addr} {fd : FuncData} (F : FnP K "put_string" s_put_string f fd) (g_len : mg "len" = none) (g_ST : ∃ t, mg "STRING" = some (.str ⟨#[123]⟩ t)) : FnOk P w K mg base CX0 2 f fd ["words", "chunk", "source", "place", "texts"] (spPutStr K) := by
  obtain ⟨t0, g_STRING⟩ := g_ST
  have r_STRING : RelV (.str ⟨#[123]⟩) (.str ⟨#[123]⟩ t0) := ⟨t0, rfl⟩
  refine F.ok sc_put_string (fun vs H Q E h => ?_) (fun cdv A outer s H vs Q E hr h => ⟨_, PSs.nox
    (pss_cons (ps_set (i := 5) sc_put_string.nd rfl (Or.inl rfl) (pe_bm0 PySem.F.plainAttrs_list PySem.F.slot_list_pop PySem.F.type_list_pop mt_pop (pv 4)))
      (pss_cons (ps_set (i := 3) sc_put_string.nd rfl (Or.inl rfl) (pe_bm PySem.F.plainAttrs_str PySem.F.slot_str_find PySem.F.type_str_find mt_find3 (pv 2) (pa_cons pe_str (pa_cons (pv 3) pa_nil))))
      (pss_cons (ps_set (i := 6) sc_put_string.nd rfl (Or.inl rfl) (pe_op op_add (pe_op op_add (pe_op op_add (pv 3) (pe_callB call_len_str (by rfl) g_len PySem.boot_len (pa_cons (pv 5) pa_nil))) (pe_bm PySem.F.plainAttrs_str PySem.F.slot_str_count PySem.F.type_str_count mt_count (pv 5) (pa_cons pe_str pa_nil))) pe_int))
      (pss_cons (ps_expr (pe_bm PySem.F.plainAttrs_list PySem.F.slot_list_append PySem.F.type_list_append mt_append (pv 0) (pa_cons (pe_ifExp (pt_cmpR op_eq (pv 1) (pe_glob rfl g_STRING r_STRING) (nomark _)) (pe_tup (pa_cons pe_str (pa_cons (pv 5) (pa_cons (pv 3) pa_nil)))) (pe_tup (pa_cons pe_str (pa_cons (pv 5) (pa_cons (pe_op op_sub (pv 3) pe_int) pa_nil))))) pa_nil)))
      (pss_one (ps_ret (pv 6))))))), ?_⟩)
  · obtain ⟨H0, aw, ap, ws, ch, src, p, q, x, t, l', ts0, ts', rest, rfl, _⟩ := h
    rfl
  · obtain ⟨H0, aw, ap, ws, ch, src, p, q, x, t, l', ts0, ts', rest, rfl, hch, W, N, n123, n125, hL, hwl, hbad, hok⟩ := h
    have e39 : (Str.ofString "'") = ⟨#[39]⟩ := by decide +kernel
    have hg0 : (tsV (x :: ts0))[(tsV (x :: ts0)).length - 1]? = some (V.str (strOf x)) := by
      rw [tsV_cons, List.length_append]
      show (tsV ts0 ++ [V.str (strOf x)])[(tsV ts0).length + 1 - 1]? = _
      rw [Nat.add_sub_cancel, List.getElem?_append_right (Nat.le_refl _), Nat.sub_self]
      rfl
    have hdr : (tsV (x :: ts0)).dropLast = tsV ts0 := by rw [tsV_cons, List.dropLast_concat]
    have W1 : Wt K H0 (upd H ap (.lst (tsV (x :: ts0)).dropLast)) aw ap ws (tsV ts0) := by
      rw [hdr]
      exact W.note upd_same fun b o hb hh => by rw [upd_ne hb]; exact hh
    refine ⟨_, rfl, .inl ⟨rfl, _, SqL.of W.txt⟩, ap, _, _, rfl, rfl, W.txt, hg0, ?_⟩
    refine ⟨_, rfl, rfl, _, rfl, _, _, _, rfl, rfl, ?_⟩
    rw [e39]
    rcases hch with rfl | rfl
    · obtain ⟨r, m, et, hb, hm, hat⟩ := Tok.step_str N n123
      have hf : Txt.find3 src ⟨#[39]⟩ (p : Int) = (q : Int) := find_c src 39 p q N.ge (by rw [N.drop, et]; rfl) fun j h1 h2 => by
        obtain ⟨c, hc, hB⟩ := N.gap j h1 h2
        exact ⟨c, hc, fun e => by subst e; cases hB⟩
      rw [hf]
      obtain ⟨k, hk, hmk⟩ := body_cnt hb
      have hlen := Tok.next_len N (by rw [et]; simp)
      have hxl : x.length ≤ 2000 := by omega
      have hxs : (strOf x).length ≤ sizeLine := by
        rw [sizeLine_eq]
        show x.length ≤ _
        omega
      obtain ⟨xs, hxw, hxD, hxl2⟩ := W1.lst
      refine ⟨_, rfl, _, rfl, _, rfl, hxs, _, _, rfl, rfl, _, rfl, rfl, _, _, rfl, rfl, _, _, rfl, rfl, _, _, rfl, rfl, ?_⟩
      refine ⟨_, rfl, .inl ⟨rfl, _, SqL.of hxw⟩, _, rfl, rfl, _, rfl, ?_⟩
      refine ite2 (fun _ => ?_) (fun y => absurd (decide_eq_true rfl) y)
      refine ⟨_, rfl, _, rfl, (by show 3 ≤ sizeLine; decide), fun r nr => ?_⟩
      have W3 := W1.more (w := (.str, .s x, q)) hxw nr _ rfl
      have ra : aw ≠ r := fun e => by rw [← e, hxw] at nr; cases nr
      refine ⟨aw, xs, .ref r, rfl, rfl, by rw [upd_ne ra]; exact hxw, by rw [sizeLine_eq, hxl2]; have := N.ge; omega, ?_⟩
      refine ⟨_, rfl, ?_⟩
      have e := hok _ (q + (m + 1)) ts0 _ W3 hat (by rw [List.length_append]; show ws.length + 1 ≤ _; have := N.ge; omega) (.inr ⟨n123, n125⟩)
      have ee : ((q + (m + 1) : Nat) : Int) = (q : Int) + ((strOf x).length : Int) + Txt.count (strOf x) ⟨#[39]⟩ + 2 := by
        rw [count_cnt]
        show _ = (q : Int) + (x.length : Int) + cnt 39 x + 2
        rw [hk]
        omega
      rw [ee] at e
      exact e
    · obtain ⟨r, m, et, hb, hm, hat⟩ := Tok.step_symstr N n125
      have hq1 : (codesOf src)[q]? = some 35 := by
        have := congrArg List.head? N.drop
        rw [et, List.head?_drop] at this
        exact this
      have hf : Txt.find3 src ⟨#[39]⟩ (p : Int) = ((q + 1 : Nat) : Int) := find_c src 39 p (q + 1) (by have := N.ge; omega) (by rw [← List.drop_drop, N.drop, et]; rfl) fun j h1 h2 => by
        by_cases hj : j = q
        · subst hj
          exact ⟨35, hq1, by decide⟩
        · obtain ⟨c, hc, hB⟩ := N.gap j h1 (by omega)
          exact ⟨c, hc, fun e => by subst e; cases hB⟩
      rw [hf]
      obtain ⟨k, hk, hmk⟩ := body_cnt hb
      have hlen := Tok.next_len N (by rw [et]; simp)
      have hxl : x.length ≤ 2000 := by omega
      have hxs : (strOf x).length ≤ sizeLine := by
        rw [sizeLine_eq]
        show x.length ≤ _
        omega
      obtain ⟨xs, hxw, hxD, hxl2⟩ := W1.lst
      refine ⟨_, rfl, _, rfl, _, rfl, hxs, _, _, rfl, rfl, _, rfl, rfl, _, _, rfl, rfl, _, _, rfl, rfl, _, _, rfl, rfl, ?_⟩
      refine ⟨_, rfl, .inl ⟨rfl, _, SqL.of hxw⟩, _, rfl, rfl, _, rfl, ?_⟩
      refine ite2 (fun y => absurd (of_decide_eq_true y) (by decide)) (fun _ => ?_)
      refine ⟨_, rfl, _, rfl, _, _, rfl, rfl, (by show 3 ≤ sizeLine; decide), fun r nr => ?_⟩
      have W3 := W1.more (w := (.sym, .s x, q)) hxw nr _ rfl
      have ra : aw ≠ r := fun e => by rw [← e, hxw] at nr; cases nr
      have eq1 : ((q + 1 : Nat) : Int) - 1 = (q : Int) := by omega
      refine ⟨aw, xs, .ref r, rfl, rfl, by rw [upd_ne ra]; exact hxw, by rw [sizeLine_eq, hxl2]; have := N.ge; omega, ?_⟩
      refine ⟨_, rfl, ?_⟩
      have e := hok _ (q + (m + 2)) ts0 _ W3 hat (by rw [List.length_append]; show ws.length + 1 ≤ _; have := N.ge; omega) (.inr ⟨n123, n125⟩)
      have ee : ((q + (m + 2) : Nat) : Int) = ((q + 1 : Nat) : Int) + ((strOf x).length : Int) + Txt.count (strOf x) ⟨#[39]⟩ + 2 := by
        rw [count_cnt]
        show _ = ((q + 1 : Nat) : Int) + (x.length : Int) + cnt 39 x + 2
        rw [hk]
        omega
      rw [ee] at e
      have e0 : (V.int (((q + 1 : Nat) : Int) - 1)) = V.int (q : Int) := by rw [eq1]
      show Q _ (upd (upd _ r (.tup [_, _, V.int (((q + 1 : Nat) : Int) - 1)])) aw _)
      rw [e0]
      exact e
end

end My

end
section
set_option Elab.async false
set_option linter.all false
set_option maxRecDepth 100000
set_option maxHeartbeats 2000000
namespace My
open PySem PySem.Spec PyProof.Rows L2 TL

theorem ck_facts {ch t l' : List Nat} {ts ts' : List (List Nat)} (k : Tok.Ck ch t l' ts ts') : t ≠ [] ∧ ch.length ≤ t.length ∧ (∃ c r, ch = c :: r ∧ Tok.isB c = false) ∧ (ch ≠ [64] → ch ≠ [123] → ch ≠ [125] → t = ch) := by
  cases k with
  | sp h =>
    refine ⟨by simp, Nat.le_refl _, ⟨_, [], rfl, ?_⟩, fun _ _ _ => rfl⟩
    cases e : Tok.isB _ with
    | false => rfl
    | true =>
      rename_i c
      unfold Tok.isB at e
      rw [Bool.or_eq_true] at e
      rcases e with e | e
      · rw [eq_of_beq e] at h; cases h
      · rw [eq_of_beq e] at h; cases h
  | arr => exact ⟨by simp, by decide, ⟨_, _, rfl, rfl⟩, fun h => absurd rfl h⟩
  | asg => exact ⟨by simp, Nat.le_refl _, ⟨_, _, rfl, rfl⟩, fun _ _ _ => rfl⟩
  | str h hn => exact ⟨by simp, by simp, ⟨_, _, rfl, rfl⟩, fun _ h => absurd rfl h⟩
  | sym h hn => exact ⟨by simp, by simp, ⟨_, _, rfl, rfl⟩, fun _ _ h => absurd rfl h⟩
  | word h hp hl =>
    obtain ⟨c, r, e, h1, _⟩ := Tok.plain_first h hp
    exact ⟨h, Nat.le_refl _, ⟨c, r, e, h1⟩, fun _ _ _ => rfl⟩
theorem keyWords_le : ∀ (ps : List (List Nat)), ps.length ≤ (Tok.keys ps).length
  | [] => Nat.le_refl 0
  | a :: ps => by
    have := keyWords_le ps
    show ps.length + 1 ≤ (a ++ 58 :: Tok.keys ps).length
    rw [List.length_append, List.length_cons]
    omega
theorem isId_dg {l : List Nat} (h : l.all Tok.isDg = true) (h2 : l ≠ []) : ∀ c ∈ l, 48 ≤ c ∧ c ≤ 57 := fun c hc => by
  have := List.all_eq_true.mp h c hc
  unfold Tok.isDg at this
  simpa using this
theorem asc_ck {L ch t l' : List Nat} {ws : List Tok.W} {p q : Nat} {ts ts' rest : List (List Nat)} (hL : Asc L) (n : Tok.Next L ws p q ch t l' ts ts' rest) : Asc ch := by
  intro c hc
  obtain ⟨_, _, _, h⟩ := ck_facts n.ck
  by_cases h1 : ch = [64]
  · rw [h1] at hc; rw [List.mem_singleton.mp hc]; decide
  by_cases h2 : ch = [123]
  · rw [h2] at hc; rw [List.mem_singleton.mp hc]; decide
  by_cases h3 : ch = [125]
  · rw [h3] at hc; rw [List.mem_singleton.mp hc]; decide
  rw [← h h1 h2 h3] at hc
  exact hL c (List.mem_of_mem_drop (i := q) (by rw [n.drop]; exact List.mem_append_left _ hc))
theorem if_and {cA cB : TT} {t u : TS} {D : Ends} {σ : L2.St} {H : Hp} {bA bB : Bool} (hA : ∀ Q : Bool → Hp → Prop, Q bA H → cA σ H Q) (hB : bA = true → ∀ Q : Bool → Hp → Prop, Q bB H → cB σ H Q) (ht : bA = true → bB = true → t D σ H) (hu : (bA = true → bB = false) → u D σ H) : tIfS (tAnd cA cB) t u D σ H := by
  refine hA _ ?_
  cases bA with
  | false => exact iteF (hu fun z => by cases z)
  | true =>
    refine iteT (hB rfl _ ?_)
    cases bB with
    | false => exact iteF (hu fun _ => rfl)
    | true => exact iteT (ht rfl rfl)
theorem if_one {cA : TT} {t u : TS} {D : Ends} {σ : L2.St} {H : Hp} {bA : Bool} (hA : ∀ Q : Bool → Hp → Prop, Q bA H → cA σ H Q) (ht : bA = true → t D σ H) (hu : bA = false → u D σ H) : tIfS cA t u D σ H := by
  refine hA _ ?_
  cases bA with
  | false => exact iteF (hu rfl)
  | true => exact iteT (ht rfl)
theorem if_or {cA cB : TT} {t u : TS} {D : Ends} {σ : L2.St} {H : Hp} {bA bB : Bool} (hA : ∀ Q : Bool → Hp → Prop, Q bA H → cA σ H Q) (hB : ∀ Q : Bool → Hp → Prop, Q bB H → cB σ H Q) (ht : bA = true ∨ bB = true → t D σ H) (hu : bA = false → bB = false → u D σ H) : tIfS (tOr cA cB) t u D σ H := by
  refine hA _ ?_
  cases bA with
  | true => exact iteT (iteT (ht (.inl rfl)))
  | false =>
    refine iteF (hB _ ?_)
    cases bB with
    | false => exact iteF (hu rfl rfl)
    | true => exact iteT (ht (.inr rfl))
theorem dec_one (l : List Nat) (c : Nat) : decide (V.str (strOf l) = V.str ⟨#[c]⟩) = decide (l = [c]) := decide_eq_decide.mpr ⟨fun e => by
  injection e with e
  exact congrArg codesOf e, fun e => by rw [e]; rfl⟩
theorem if_call {cA cB : TT} {t u : TS} {D : Ends} {σ : L2.St} {H : Hp} {bA : Bool} {I : Hp → Prop} {G : Prop} (hI : I H) (hA : ∀ Q : Bool → Hp → Prop, Q bA H → cA σ H Q) (hB : bA = true → ∀ Q : Bool → Hp → Prop, (∀ b H', I H' → (b = true → G) → Q b H') → cB σ H Q) (ht : bA = true → G → ∀ H', I H' → t D σ H') (hu : ∀ H', I H' → u D σ H') : tIfS (tAnd cA cB) t u D σ H := by
  refine hA _ ?_
  cases bA with
  | false => exact iteF (hu _ hI)
  | true =>
    refine iteT (hB rfl _ fun b H' i g => ?_)
    cases b with
    | false => exact iteF (hu _ i)
    | true => exact iteT (ht rfl (g rfl) _ i)
def spPutOther (K : PySem.W.Frag) : Sp := fun vs H Q _ => ∃ (H0 : Hp) (aw ap : Addr) (ws : List Tok.W) (ch src : Str) (p : Nat) (ts rest : List (List Nat)),
  vs = [.ref aw, .str ch, .str src, .int (p : Int), .ref ap] ∧ Wt K H0 H aw ap ws (tsV ts) ∧ Tok.At (codesOf src) ws p ts (codesOf ch :: rest) ∧ Asc (codesOf src) ∧ 64 ∉ codesOf src ∧ Nd (codesOf src) ∧ Left (codesOf src) ts ∧
  (codesOf src).length ≤ 2000 ∧ ws.length ≤ p ∧ PutOk K H0 aw ap (codesOf src) rest Q
abbrev s_put_other : Stmt := top 18
section
variable {P : Program} {w : World} {K : PySem.W.Frag} {mg : Str → Option Value} {base : Heap}
variable {f_put_string f_is_symbol f_put_keywords f_surely_binds : Addr} {fd_put_string fd_is_symbol fd_put_keywords fd_surely_binds : FuncData}
theorem sc_put_other : FnScope ["words", "chunk", "source", "place", "texts", "rest", "end"] ["words", "chunk", "source", "place", "texts"] (defScope s_put_other) := ⟨rfl, rfl, rfl, by decide +kernel, rfl, by decide +kernel, by decide +kernel⟩
theorem ok_put_other {f d : Addr} {fd : FuncData} (F : FnP K "put_other" s_put_other f fd)
    (F_put_string : FnP K "put_string" s_put_string f_put_string fd_put_string) (F_is_symbol : FnP K "is_symbol" s_is_symbol f_is_symbol fd_is_symbol) (F_put_keywords : FnP K "put_keywords" s_put_keywords f_put_keywords fd_put_keywords) (F_surely_binds : FnP K "surely_binds" s_surely_binds f_surely_binds fd_surely_binds)
    (g_put_string : mg "put_string" = some (.ref f_put_string)) (g_is_symbol : mg "is_symbol" = some (.ref f_is_symbol)) (g_put_keywords : mg "put_keywords" = some (.ref f_put_keywords)) (g_surely_binds : mg "surely_binds" = some (.ref f_surely_binds))
    (g_len : mg "len" = none) (g_all : mg "all" = none) (g_int : mg "int" = none) (g_FX : mg "FIXED" = some (.ref d)) (hF : FixAt K w d) (g_VK : TupAt K mg "VALUE_KINDS" vkinds)
    (g_LN : ∃ t, mg "LONGEST_NAME" = some (.int 40 t)) (g_MD : ∃ t, mg "MOST_DIGITS" = some (.int 60 t)) (g_AR : ∃ t, mg "ARRAY" = some (.str ⟨#[64]⟩ t)) (g_ST : ∃ t, mg "STRING" = some (.str ⟨#[123]⟩ t)) (g_SY : ∃ t, mg "SYMBOL" = some (.str ⟨#[125]⟩ t)) :
    FnOk P w K mg base CX0 3 f fd ["words", "chunk", "source", "place", "texts"] (spPutOther K) := by
  have G_put_string : FnOk P w K mg base CX0 2 f_put_string fd_put_string _ (spPutStr K) := ok_put_string F_put_string g_len g_ST
  have G_is_symbol : FnOk P w K mg base CX0 2 f_is_symbol fd_is_symbol _ spIsSymbol := ok_is_symbol F_is_symbol g_len g_all g_FX hF g_LN
  have G_put_keywords : FnOk P w K mg base CX0 2 f_put_keywords fd_put_keywords _ (spKeys K) := ok_put_keywords F_put_keywords g_len g_LN
  have G_surely_binds : FnOk P w K mg base CX0 2 f_surely_binds fd_surely_binds _ (spSure K) := ok_surely_binds F_surely_binds g_VK
  have b_put_string : Binds K fd_put_string ["words", "chunk", "source", "place", "texts"] [] := F_put_string.bindsN fun _ _ _ _ _ _ us hl => match us, hl with | [_, _, _, _, _], _ => rfl
  have k_put_string := F_put_string.kp
  have b_is_symbol : Binds K fd_is_symbol ["text"] [] := F_is_symbol.bindsN fun _ _ _ _ _ _ us hl => match us, hl with | [_], _ => rfl
  have k_is_symbol := F_is_symbol.kp
  have b_put_keywords : Binds K fd_put_keywords ["words", "chunk", "place"] [] := F_put_keywords.bindsN fun _ _ _ _ _ _ us hl => match us, hl with | [_, _, _], _ => rfl
  have k_put_keywords := F_put_keywords.kp
  have b_surely_binds : Binds K fd_surely_binds ["words"] [] := F_surely_binds.bindsN fun _ _ _ _ _ _ us hl => match us, hl with | [_], _ => rfl
  have k_surely_binds := F_surely_binds.kp

  obtain ⟨t1, g_LONGEST_NAME⟩ := g_LN
  obtain ⟨t2, g_MOST_DIGITS⟩ := g_MD
  obtain ⟨t3, g_ARRAY⟩ := g_AR
  obtain ⟨t4, g_STRING⟩ := g_ST
  obtain ⟨t5, g_SYMBOL⟩ := g_SY
  have r_LONGEST_NAME : RelV (.int 40) (.int 40 t1) := ⟨t1, rfl⟩
  have r_MOST_DIGITS : RelV (.int 60) (.int 60 t2) := ⟨t2, rfl⟩
  have r_ARRAY : RelV (.str ⟨#[64]⟩) (.str ⟨#[64]⟩ t3) := ⟨t3, rfl⟩
  have r_STRING : RelV (.str ⟨#[123]⟩) (.str ⟨#[123]⟩ t4) := ⟨t4, rfl⟩
  have r_SYMBOL : RelV (.str ⟨#[125]⟩) (.str ⟨#[125]⟩ t5) := ⟨t5, rfl⟩
  refine F.ok sc_put_other (fun vs H Q E h => ?_) (fun cdv A outer s H vs Q E hr h => ⟨_, PSs.nox
    (pss_cons (ps_set (i := 5) sc_put_other.nd rfl (Or.inl rfl) (pe_slice sl_str (pv 1) (po_some pe_int) po_none))
      (pss_cons (ps_if (PW.pt (pw_and (pt_val (pe_bm PySem.F.plainAttrs_str PySem.F.slot_str_startswith PySem.F.type_str_startswith mt_startswith (pv 1) (pa_cons pe_str pa_nil))) (pw_and1 (pt_val (pe_bm0 PySem.F.plainAttrs_str PySem.F.slot_str_isidentifier PySem.F.type_str_isidentifier mt_isidentifier (pv 5)))))) (pss_cons (ps_set (i := 3) sc_put_other.nd rfl (Or.inl rfl) (pe_bm PySem.F.plainAttrs_str PySem.F.slot_str_find PySem.F.type_str_find mt_find3 (pv 2) (pa_cons (pv 1) (pa_cons (pv 3) pa_nil))))
      (pss_cons (ps_expr (pe_bm PySem.F.plainAttrs_list PySem.F.slot_list_append PySem.F.type_list_append mt_append (pv 0) (pa_cons (pe_tup (pa_cons pe_str (pa_cons pe_str (pa_cons (pv 3) pa_nil)))) pa_nil)))
      (pss_cons (ps_expr (pe_bm PySem.F.plainAttrs_list PySem.F.slot_list_append PySem.F.type_list_append mt_append (pv 0) (pa_cons (pe_tup (pa_cons pe_str (pa_cons (pv 5) (pa_cons (pe_op op_add (pv 3) pe_int) pa_nil)))) pa_nil)))
      (pss_one (ps_ret (pe_ifExp (pt_cmpR op_le (pe_callB call_len_str (by rfl) g_len PySem.boot_len (pa_cons (pv 5) pa_nil)) (pe_glob rfl g_LONGEST_NAME r_LONGEST_NAME) (nomark _)) (pe_op op_add (pv 3) (pe_callB call_len_str (by rfl) g_len PySem.boot_len (pa_cons (pv 1) pa_nil))) (pe_un un_neg pe_int))))))) pss_nil)
      (pss_cons (ps_if (pt_cmpR op_eq (pv 1) (pe_glob rfl g_ARRAY r_ARRAY) (nomark _)) (pss_cons (ps_set (i := 3) sc_put_other.nd rfl (Or.inl rfl) (pe_bm PySem.F.plainAttrs_str PySem.F.slot_str_find PySem.F.type_str_find mt_find3 (pv 2) (pa_cons pe_str (pa_cons (pv 3) pa_nil))))
      (pss_cons (ps_expr (pe_bm PySem.F.plainAttrs_list PySem.F.slot_list_append PySem.F.type_list_append mt_append (pv 0) (pa_cons (pe_tup (pa_cons pe_str (pa_cons pe_str (pa_cons (pv 3) pa_nil)))) pa_nil)))
      (pss_one (ps_ret (pe_op op_add (pv 3) pe_int))))) pss_nil)
      (pss_cons (ps_if (PW.pt (pw_or (pt_cmpR op_eq (pv 1) (pe_glob rfl g_STRING r_STRING) (nomark _)) (pw_or1 (pt_cmpR op_eq (pv 1) (pe_glob rfl g_SYMBOL r_SYMBOL) (nomark _))))) (pss_one (ps_ret (pe_ifExp (pt_truth (pv 4) (by intro _; rfl)) (pe_call G_put_string (hr.mono (by decide)) rfl g_put_string k_put_string b_put_string .nil pass0 (pa_cons (pv 0) (pa_cons (pv 1) (pa_cons (pv 2) (pa_cons (pv 3) (pa_cons (pv 4) pa_nil)))))) (pe_un un_neg pe_int)))) pss_nil)
      (pss_cons (ps_set (i := 3) sc_put_other.nd rfl (Or.inl rfl) (pe_bm PySem.F.plainAttrs_str PySem.F.slot_str_find PySem.F.type_str_find mt_find3 (pv 2) (pa_cons (pv 1) (pa_cons (pv 3) pa_nil))))
      (pss_cons (ps_set (i := 6) sc_put_other.nd rfl (Or.inl rfl) (pe_op op_add (pv 3) (pe_callB call_len_str (by rfl) g_len PySem.boot_len (pa_cons (pv 1) pa_nil))))
      (pss_cons (ps_if (pt_val (pe_bm0 PySem.F.plainAttrs_str PySem.F.slot_str_isdigit PySem.F.type_str_isdigit mt_isdigit (pv 1))) (pss_cons (ps_expr (pe_bm PySem.F.plainAttrs_list PySem.F.slot_list_append PySem.F.type_list_append mt_append (pv 0) (pa_cons (pe_tup (pa_cons pe_str (pa_cons (pe_callTy call_int_str (by rfl) g_int (by decide +kernel) (pa_cons (pv 1) pa_nil)) (pa_cons (pv 3) pa_nil)))) pa_nil)))
      (pss_one (ps_ret (pe_ifExp (pt_cmpR op_le (pe_callB call_len_str (by rfl) g_len PySem.boot_len (pa_cons (pv 1) pa_nil)) (pe_glob rfl g_MOST_DIGITS r_MOST_DIGITS) (nomark _)) (pv 6) (pe_un un_neg pe_int))))) pss_nil)
      (pss_cons (ps_if (PW.pt (pw_and (pt_val (pe_bm PySem.F.plainAttrs_str PySem.F.slot_str_startswith PySem.F.type_str_startswith mt_startswith (pv 1) (pa_cons pe_str pa_nil))) (pw_and1 (pt_val (pe_call G_is_symbol (hr.mono (by decide)) rfl g_is_symbol k_is_symbol b_is_symbol .nil pass0 (pa_cons (pv 5) pa_nil)))))) (pss_cons (ps_expr (pe_bm PySem.F.plainAttrs_list PySem.F.slot_list_append PySem.F.type_list_append mt_append (pv 0) (pa_cons (pe_tup (pa_cons pe_str (pa_cons (pv 5) (pa_cons (pv 3) pa_nil)))) pa_nil)))
      (pss_one (ps_ret (pv 6)))) pss_nil)
      (pss_cons (ps_if (pt_val (pe_bm PySem.F.plainAttrs_str PySem.F.slot_str_endswith PySem.F.type_str_endswith mt_endswith (pv 1) (pa_cons pe_str pa_nil))) (pss_one (ps_ret (pe_call G_put_keywords (hr.mono (by decide)) rfl g_put_keywords k_put_keywords b_put_keywords .nil pass0 (pa_cons (pv 0) (pa_cons (pv 1) (pa_cons (pv 3) pa_nil)))))) pss_nil)
      (pss_cons (ps_if (PW.pt (pw_and (pt_val (pe_bm PySem.F.plainAttrs_str PySem.F.slot_str_startswith PySem.F.type_str_startswith mt_startswith (pv 1) (pa_cons pe_str pa_nil))) (pw_and (pt_val (pe_bm0 PySem.F.plainAttrs_str PySem.F.slot_str_isdigit PySem.F.type_str_isdigit mt_isdigit (pv 5))) (pw_and (pt_cmpR op_le (pe_callB call_len_str (by rfl) g_len PySem.boot_len (pa_cons (pv 5) pa_nil)) (pe_glob rfl g_MOST_DIGITS r_MOST_DIGITS) (nomark _)) (pw_and1 (pt_val (pe_call G_surely_binds (hr.mono (by decide)) rfl g_surely_binds k_surely_binds b_surely_binds .nil pass0 (pa_cons (pv 0) pa_nil)))))))) (pss_cons (ps_expr (pe_bm PySem.F.plainAttrs_list PySem.F.slot_list_append PySem.F.type_list_append mt_append (pv 0) (pa_cons (pe_tup (pa_cons pe_str (pa_cons (pe_callTy call_int_str (by rfl) g_int (by decide +kernel) (pa_cons (pv 1) pa_nil)) (pa_cons (pv 3) pa_nil)))) pa_nil)))
      (pss_one (ps_ret (pv 6)))) pss_nil)
      (pss_one (ps_ret (pe_un un_neg pe_int))))))))))))), ?_⟩)
  · obtain ⟨H0, aw, ap, ws, ch, src, p, ts, rest, rfl, _⟩ := h
    rfl
  · obtain ⟨H0, aw, ap, ws, ch, src, p, ts, rest, rfl, W, hat, hA, h64, hnd, hleft, hL, hwl, hbad, hok⟩ := h
    have e58 : (Str.ofString ":") = ⟨#[58]⟩ := by decide +kernel
    have e35 : (Str.ofString "#") = ⟨#[35]⟩ := by decide +kernel
    have e45 : (Str.ofString "-") = ⟨#[45]⟩ := by decide +kernel
    have earr : (Str.ofString "#(") = strOf [35, 40] := by decide +kernel
    obtain ⟨l, rfl⟩ : ∃ l, ch = strOf l := ⟨codesOf ch, (strOf_codes ch).symm⟩
    have hat : Tok.At (codesOf src) ws p ts (l :: rest) := hat
    obtain ⟨q, t, l', ts', N⟩ := Tok.at_next hat
    obtain ⟨ht, hct, ⟨c0, r0, ech, hcb⟩, hsame⟩ := ck_facts N.ck
    have hge := N.ge
    have hlen := Tok.next_len N ht
    have hAc : Asc l := asc_ck hA N
    have hcl : l.length ≤ 2000 := by omega
    have hcs : (strOf l).length ≤ sizeLine := by rw [sizeLine_eq]; show l.length ≤ _; omega
    have hr0 : cutS (strOf l) (some 1) none = strOf r0 := by
      rw [← strOf_codes (cutS (strOf l) (some 1) none), cut_from1]
      show strOf (l.drop 1) = _
      rw [ech]
      rfl
    have hAr : Asc r0 := fun c hc => hAc c (by rw [ech]; exact List.mem_cons_of_mem _ hc)
    have hrl : r0.length ≤ 2000 := by rw [ech, List.length_cons] at hcl; omega
    have hrs : (strOf r0).length ≤ sizeLine := by rw [sizeLine_eq]; show r0.length ≤ _; omega
    obtain ⟨xs, hxw, hxD, hxl⟩ := W.lst
    have hx8 : xs.length + 2 ≤ sizeLine := by rw [sizeLine_eq, hxl]; omega
    have fin : ∀ (ws2 : List Tok.W) (n : Nat) (H' : Hp), Wt K H0 H' aw ap ws2 (tsV ts) → Tok.At (codesOf src) ws2 (q + n) ts rest → ws2.length ≤ q + n → Q (.int ((q : Int) + (n : Int))) H' := fun ws2 n H' h1 h2 h3 => by
      have := hok ws2 (q + n) ts H' h1 h2 h3 hleft
      rw [Int.natCast_add] at this
      exact this
    refine ⟨_, rfl, 1, rfl, _, rfl, hcs, ?_⟩
    rw [hr0]
    dsimp only [gName, tSeq]
    refine if_and (bA := decide (l.head? = some 58)) (bB := Tok.isId r0) (fun Q q => ⟨_, rfl, rfl, _, _, rfl, rfl, _, rfl, by rw [e58, starts_one]; exact q⟩) (fun _ Q q => ⟨_, rfl, rfl, _, rfl, rfl, trivial, _, rfl, by rw [ident_eq hAr]; exact q⟩) (fun y1 y2 => ?_) (fun no1 => ?_)
    · have y1 := of_decide_eq_true y1
      rw [ech] at y1
      injection y1 with y1
      subst y1
      have hne : l ≠ [58, 61] := fun z => by
        rw [ech] at z
        injection z with _ z
        rw [z] at y2
        cases y2
      obtain ⟨et, ets, _, _⟩ := Tok.ck_first N.ck ech (by rfl) (by decide) (by decide) (by decide) hne
      have hf : Txt.find3 src (strOf l) (p : Int) = (q : Int) := find_at src l p q ech hcb hge (by rw [N.drop, et]) N.gap
      refine ⟨_, rfl, rfl, _, rfl, _, rfl, _, _, _, rfl, rfl, ?_⟩
      rw [hf, e58]
      refine ⟨_, rfl, .inl ⟨rfl, _, SqL.of hxw⟩, _, rfl, (by show 3 ≤ sizeLine; decide), fun r nr => ?_⟩
      have W3 := W.more (w := (.sign, .s [58], q)) hxw nr _ rfl
      have ra : aw ≠ r := fun e => by rw [← e, hxw] at nr; cases nr
      refine ⟨aw, xs, .ref r, rfl, rfl, by rw [upd_ne ra]; exact hxw, by omega, ?_⟩
      have hx3 : (upd (upd H r (.tup [.str (kdS .sign), vVal (.s [58]), .int (q : Int)])) aw (.lst (xs ++ [.ref r]))) aw = some (.lst (xs ++ [.ref r])) := upd_same
      refine ⟨_, rfl, .inl ⟨rfl, _, SqL.of hx3⟩, _, rfl, _, rfl, _, _, rfl, rfl, (by show 3 ≤ sizeLine; decide), fun r2 nr2 => ?_⟩
      have W4 := W3.more (w := (.name, .s r0, q + 1)) hx3 nr2 _ rfl
      have ra2 : aw ≠ r2 := fun e => by rw [← e] at nr2; cases nr2.symm.trans hx3
      refine ⟨aw, _, .ref r2, rfl, rfl, (by rw [upd_ne ra2]; exact hx3), (by rw [List.length_append]; show xs.length + 1 < _; omega), ?_⟩
      refine ⟨_, rfl, _, rfl, hrs, _, _, rfl, rfl, _, rfl, ?_⟩
      refine ite2 (fun z => ?_) (fun z => ⟨1, rfl, hbad _ W4.old⟩)
      have z : r0.length ≤ 40 := by have := of_decide_eq_true z; exact Int.ofNat_le.mp this
      obtain ⟨_, hat2⟩ := Tok.step_colon N ech y2 z
      refine ⟨_, rfl, _, rfl, _, rfl, hcs, _, _, rfl, rfl, ?_⟩
      refine fin _ l.length _ W4 (by rw [List.append_assoc]; exact hat2) ?_
      rw [List.length_append, List.length_append, ech]
      show ws.length + 1 + 1 ≤ q + (r0.length + 1)
      have : 0 < r0.length := by
        cases r0 with
        | nil => cases y2
        | cons _ _ => simp
      omega
    dsimp only [tNext, tSeq]
    refine if_one (bA := decide (l = [64])) (fun Q q => ⟨_, rfl, rfl, _, rfl, by rw [dec_one]; exact q⟩) (fun y => ?_) (fun no2 => ?_)
    · have y := of_decide_eq_true y
      subst y
      obtain ⟨et, hat2⟩ := Tok.step_arr N h64
      have hf : Txt.find3 src (strOf [35, 40]) (p : Int) = (q : Int) := find_at src [35, 40] p q rfl (by rfl) hge (by rw [N.drop, et]) N.gap
      refine ⟨_, rfl, rfl, _, rfl, _, _, _, rfl, rfl, ?_⟩
      rw [earr, hf]
      refine ⟨_, rfl, .inl ⟨rfl, _, SqL.of hxw⟩, _, rfl, (by show 3 ≤ sizeLine; decide), fun r nr => ?_⟩
      have W3 := W.more (w := (.sign, .s [35, 40], q)) hxw nr _ rfl
      have ra : aw ≠ r := fun e => by rw [← e, hxw] at nr; cases nr
      refine ⟨aw, xs, .ref r, rfl, rfl, by rw [upd_ne ra]; exact hxw, by omega, ?_⟩
      exact ⟨_, rfl, _, _, rfl, rfl, fin _ 2 _ W3 hat2 (by rw [List.length_append]; show ws.length + 1 ≤ _; omega)⟩
    dsimp only [tNext, tSeq]
    refine if_or (bA := decide (l = [123])) (bB := decide (l = [125])) (fun Q q => ⟨_, rfl, rfl, _, rfl, by rw [dec_one]; exact q⟩) (fun Q q => ⟨_, rfl, rfl, _, rfl, by rw [dec_one]; exact q⟩) (fun y => ?_) (fun no3 no4 => ?_)
    · have hl : strOf l = ⟨#[123]⟩ ∨ strOf l = ⟨#[125]⟩ := by
        rcases y with y | y
        · exact .inl (by rw [of_decide_eq_true y]; rfl)
        · exact .inr (by rw [of_decide_eq_true y]; rfl)
      refine ⟨_, rfl, !(tsV ts).isEmpty, .inl ⟨_, SqL.of W.txt, rfl⟩, ?_⟩
      cases ts with
      | nil => exact iteF ⟨1, rfl, hbad _ W.old⟩
      | cons x ts0 =>
        rw [tsV_empty]
        refine iteT ⟨_, rfl, _, rfl, _, rfl, _, rfl, _, rfl, ?_⟩
        obtain ⟨m123, m125⟩ := hleft.resolve_left (by simp)
        exact ⟨H0, aw, ap, ws, strOf l, src, p, q, x, t, l', ts0, ts', rest, rfl, hl, W, N, m123, m125, hL, hwl, hbad, hok⟩
    have n64 : l ≠ [64] := of_decide_eq_false no2
    have n123 : l ≠ [123] := of_decide_eq_false no3
    have n125 : l ≠ [125] := of_decide_eq_false no4
    have et := hsame n64 n123 n125
    have hf : Txt.find3 src (strOf l) (p : Int) = (q : Int) := find_at src l p q ech hcb hge (by rw [N.drop, et]) N.gap
    dsimp only [tNext, tSeq]
    refine ⟨_, rfl, rfl, _, rfl, _, rfl, _, _, _, rfl, rfl, ?_⟩
    rw [hf]
    refine ⟨_, rfl, _, rfl, _, rfl, hcs, _, _, rfl, rfl, ?_⟩
    dsimp only [gName, tSeq]
    refine if_one (bA := decide (0 < l.length) && l.all Tok.isDg) (fun Q q => ⟨_, rfl, rfl, _, rfl, rfl, trivial, _, rfl, by rw [digit_eq hAc]; exact q⟩) (fun y => ?_) (fun no5 => ?_)
    · rw [Bool.and_eq_true] at y
      have hl0 : l ≠ [] := fun z => by rw [et, z] at ht; exact ht rfl
      have h640 : l.length ≤ 640 := by
        have e : ((codesOf src).drop q).take l.length = l := by rw [N.drop, et, List.take_left]
        have := hnd q l.length (by rw [e]; exact y.2)
        rw [e] at this
        exact this
      have hint : PySem.intText? (strOf l) = some ((Tok.num l : Nat) : Int) := by
        rw [num_eq]
        exact PySem.intText_digits (x := strOf l) (isId_dg y.2 hl0) hl0 (by show l.length ≤ _; omega)
      refine ⟨_, rfl, .inl ⟨rfl, _, SqL.of hxw⟩, _, rfl, _, _, rfl, hint, (by show l.length ≤ 640; exact h640), _, rfl, (by show 3 ≤ sizeLine; decide), fun r nr => ?_⟩
      have W3 := W.more (w := (.int, .i (Tok.num l), q)) hxw nr _ rfl
      have ra : aw ≠ r := fun e => by rw [← e, hxw] at nr; cases nr
      refine ⟨aw, xs, .ref r, rfl, rfl, by rw [upd_ne ra]; exact hxw, by omega, ?_⟩
      refine ⟨_, rfl, _, rfl, hcs, _, _, rfl, rfl, _, rfl, ?_⟩
      refine ite2 (fun z => ?_) (fun z => ⟨1, rfl, hbad _ W3.old⟩)
      have z : l.length ≤ 60 := by have := of_decide_eq_true z; exact Int.ofNat_le.mp this
      obtain ⟨_, hat2⟩ := Tok.step_int N hl0 y.2 z
      exact ⟨_, rfl, fin _ l.length _ W3 hat2 (by rw [List.length_append, ech]; show ws.length + 1 ≤ q + (r0.length + 1); omega)⟩
    dsimp only [tNext, tSeq]
    refine if_call (bA := decide (l.head? = some 35)) (I := fun H2 => Same H H2) (G := Good r0) (Same.refl H) (fun Q q => ⟨_, rfl, rfl, _, _, rfl, rfl, _, rfl, by rw [e35, starts_one]; exact q⟩) (fun _ Q q => ⟨_, rfl, strOf r0, rfl, hAr, hrl, fun b H' e g => ⟨b, rfl, q b H' e g⟩⟩) (fun y g H2 e2 => ?_) (fun H2 e2 => ?_)
    · have y := of_decide_eq_true y
      rw [ech] at y
      injection y with y
      subst y
      have W2 := W.later e2
      obtain ⟨xs, hxw, hxD, hxl⟩ := W2.lst
      have hx8 : xs.length + 2 ≤ sizeLine := by rw [sizeLine_eq, hxl]; omega
      refine ⟨_, rfl, .inl ⟨rfl, _, SqL.of hxw⟩, _, rfl, _, rfl, (by show 3 ≤ sizeLine; decide), fun r nr => ?_⟩
      have W3 := W2.more (w := (.sym, .s r0, q)) hxw nr _ rfl
      have ra : aw ≠ r := fun e => by rw [← e, hxw] at nr; cases nr
      refine ⟨aw, xs, .ref r, rfl, rfl, by rw [upd_ne ra]; exact hxw, by omega, ?_⟩
      obtain ⟨_, hat2⟩ := Tok.step_sym N ech g
      exact ⟨_, rfl, fin _ l.length _ W3 hat2 (by rw [List.length_append, ech]; show ws.length + 1 ≤ q + (r0.length + 1); omega)⟩
    have W2 := W.later e2
    obtain ⟨xs, hxw, hxD, hxl⟩ := W2.lst
    have hx8 : xs.length + 2 ≤ sizeLine := by rw [sizeLine_eq, hxl]; omega
    dsimp only [tNext, tSeq]
    refine if_one (bA := decide (l.getLast? = some 58)) (fun Q q => ⟨_, rfl, rfl, _, _, rfl, rfl, _, rfl, by rw [e58, ends_one]; exact q⟩) (fun y => ?_) (fun no7 => ?_)
    · refine ⟨_, rfl, _, rfl, _, rfl, ?_⟩
      refine ⟨H0, aw, ap, ws, _, strOf l, q, rfl, W2, hAc, hcl, by omega, of_decide_eq_true y, hbad, fun ps H' h1 h2 h3 h4 => ?_⟩
      obtain ⟨_, hat2⟩ := Tok.step_keys N h1 h2 h3
      refine hok _ (q + l.length) ts H' h4 hat2 ?_ hleft
      rw [List.length_append, keyWords_len]
      have h1 : l = Tok.keys ps := h1
      rw [h1]
      have := keyWords_le ps
      omega
    dsimp only [tNext, tSeq]
    refine if_call (bA := decide (l.head? = some 45)) (I := fun H3 => Same H2 H3) (G := (r0 ≠ [] ∧ r0.all Tok.isDg = true) ∧ r0.length ≤ 60 ∧ ∀ par, Tok.binds par (Tok.lastK ws) = true) (Same.refl H2) (fun Q q => ⟨_, rfl, rfl, _, _, rfl, rfl, _, rfl, by rw [e45, starts_one]; exact q⟩) (fun _ Q q => ?_) (fun y g H3 e3 => ?_) (fun H3 e3 => ?_)
    · refine ⟨_, rfl, rfl, _, rfl, rfl, trivial, _, rfl, ?_⟩
      rw [digit_eq hAr]
      refine ite2 (fun z1 => ?_) (fun _ => q false H2 (Same.refl H2) fun z => by cases z)
      refine ⟨_, rfl, _, rfl, hrs, _, _, rfl, rfl, _, rfl, ?_⟩
      refine ite2 (fun z2 => ?_) (fun _ => q false H2 (Same.refl H2) fun z => by cases z)
      refine ⟨_, rfl, aw, xs, ws, rfl, hxw, hxD, by omega, fun b H' e g => ⟨b, rfl, q b H' e fun z => ⟨?_, ?_, g z⟩⟩⟩
      · rw [Bool.and_eq_true] at z1
        exact ⟨fun z => by (subst z; exact absurd z1.1 (by decide)), z1.2⟩
      · have := of_decide_eq_true z2
        exact Int.ofNat_le.mp this
    · have y := of_decide_eq_true y
      rw [ech] at y
      injection y with y
      subst y
      obtain ⟨⟨g1, g2⟩, g3, g4⟩ := g
      have W3 := W2.later e3
      obtain ⟨xs, hxw, hxD, hxl⟩ := W3.lst
      have hx8 : xs.length + 2 ≤ sizeLine := by rw [sizeLine_eq, hxl]; omega
      have hint : PySem.intText? (strOf l) = some (-((Tok.num r0 : Nat) : Int)) := by
        rw [num_eq]
        exact PySem.intText_neg (x := strOf l) (cs := r0) (by show l = _; exact ech) (isId_dg g2 g1) g1 (by show l.length ≤ _; omega)
      refine ⟨_, rfl, .inl ⟨rfl, _, SqL.of hxw⟩, _, rfl, _, _, rfl, hint, (by show l.length ≤ 640; rw [ech, List.length_cons]; omega), _, rfl, (by show 3 ≤ sizeLine; decide), fun r nr => ?_⟩
      have W4 := W3.more (w := (.int, .i (-((Tok.num r0 : Nat) : Int)), q)) hxw nr _ rfl
      have ra : aw ≠ r := fun e => by rw [← e, hxw] at nr; cases nr
      refine ⟨aw, xs, .ref r, rfl, rfl, by rw [upd_ne ra]; exact hxw, by omega, ?_⟩
      obtain ⟨_, hat2⟩ := Tok.step_minus N ech g1 g2 g3 g4
      exact ⟨_, rfl, fin _ l.length _ W4 hat2 (by rw [List.length_append, ech]; show ws.length + 1 ≤ q + (r0.length + 1); omega)⟩
    · exact ⟨1, rfl, hbad _ (W2.later e3).old⟩
end

end My

end
section
set_option Elab.async false
set_option linter.all false
set_option maxRecDepth 100000
set_option maxHeartbeats 2000000
namespace My
open PySem PySem.Spec PyProof.Rows L2 TL

open StrLaws
/-! ### the chain of replace, and split -/
def padOn (S : List Nat) : List Nat → List Nat
  | [] => []
  | c :: l => if c ∈ S then 32 :: c :: 32 :: padOn S l else c :: padOn S l
theorem rl_hit1 {d : Nat} {z r : List Nat} : replL [d] z (d :: r) = z ++ replL [d] z r := by
  rw [replL_hit (by simp) (by rfl)]
  rfl
theorem rl_miss1 {d c : Nat} {z r : List Nat} (h : c ≠ d) : replL [d] z (c :: r) = c :: replL [d] z r := by
  rw [replL_miss (by intro y; injection y with y _; exact h y)]
theorem padOn_add {S : List Nat} {d : Nat} (hd : d ∉ S) (h32 : d ≠ 32) : ∀ l, replL [d] [32, d, 32] (padOn S l) = padOn (d :: S) l
  | [] => replL_nil
  | c :: l => by
    have ih := padOn_add hd h32 l
    by_cases h : c ∈ S
    · have hcd : c ≠ d := fun e => hd (e ▸ h)
      rw [padOn, if_pos h, padOn, if_pos (List.mem_cons_of_mem _ h), rl_miss1 (Ne.symm h32), rl_miss1 hcd, rl_miss1 (Ne.symm h32), ih]
    · rw [padOn, if_neg h]
      by_cases hcd : c = d
      · subst hcd
        rw [padOn, if_pos List.mem_cons_self, rl_hit1, ih]
        rfl
      · rw [padOn, if_neg (fun z => by rcases List.mem_cons.mp z with z | z; exact hcd z; exact h z), rl_miss1 hcd, ih]
theorem padOn_nil : ∀ l, padOn [] l = l
  | [] => rfl
  | c :: l => by rw [padOn, if_neg (by simp), padOn_nil l]
theorem padOn_S : ∀ l, padOn [124, 94, 59, 46, 93, 91, 41, 40] l = Tok.padS l
  | [] => rfl
  | c :: l => by
    have ih := padOn_S l
    by_cases h : c ∈ ([124, 94, 59, 46, 93, 91, 41, 40] : List Nat)
    · have h2 : Tok.isSp c = true := by
        simp only [List.mem_cons, List.not_mem_nil, or_false] at h
        rcases h with rfl | rfl | rfl | rfl | rfl | rfl | rfl | rfl <;> rfl
      rw [padOn, if_pos h, Tok.padS, if_pos h2, ih]
    · have h2 : ¬ Tok.isSp c = true := fun z => h (by
        unfold Tok.isSp at z
        simp only [Bool.or_eq_true, beq_iff_eq] at z
        simp only [List.mem_cons, List.not_mem_nil, or_false]
        omega)
      rw [padOn, if_neg h, Tok.padS, if_neg h2, ih]
theorem arr_repl : ∀ (n : Nat) (l : List Nat), l.length ≤ n → replL [35, 40] [32, 64, 32] l = Tok.arrP l
  | _, [], _ => replL_nil
  | 0, _ :: _, h => by cases h
  | n + 1, c :: l, h => by
    by_cases hc : c = 35 ∧ l.head? = some 40
    · obtain ⟨rfl, hh⟩ := hc
      cases l with
      | nil => cases hh
      | cons d r =>
        injection hh with hh
        subst hh
        rw [replL_hit (by simp) (by rfl), Tok.arr_hit]
        have := arr_repl n r (by simp only [List.length_cons] at h; omega)
        show [32, 64, 32] ++ replL [35, 40] [32, 64, 32] r = _
        rw [this]
        rfl
    · rw [replL_miss, Tok.arr_miss hc, arr_repl n l (by simp only [List.length_cons] at h; omega)]
      intro z
      apply hc
      cases l with
      | nil => cases z
      | cons d r =>
        have z : [c, d] = [35, 40] := z
        injection z with z1 z
        injection z with z2 _
        exact ⟨z1, by rw [z2]; rfl⟩
theorem asg_repl : ∀ (n : Nat) (l : List Nat), l.length ≤ n → replL [58, 61] [32, 58, 61, 32] l = Tok.asgP l
  | _, [], _ => replL_nil
  | 0, _ :: _, h => by cases h
  | n + 1, c :: l, h => by
    by_cases hc : c = 58 ∧ l.head? = some 61
    · obtain ⟨rfl, hh⟩ := hc
      cases l with
      | nil => cases hh
      | cons d r =>
        injection hh with hh
        subst hh
        rw [replL_hit (by simp) (by rfl), Tok.asg_hit]
        have := asg_repl n r (by simp only [List.length_cons] at h; omega)
        show [32, 58, 61, 32] ++ replL [58, 61] [32, 58, 61, 32] r = _
        rw [this]
        rfl
    · rw [replL_miss, Tok.asg_miss hc, asg_repl n l (by simp only [List.length_cons] at h; omega)]
      intro z
      apply hc
      cases l with
      | nil => cases z
      | cons d r =>
        have z : [c, d] = [58, 61] := z
        injection z with z1 z
        injection z with z2 _
        exact ⟨z1, by rw [z2]; rfl⟩
theorem rep_codes {x : Str} {y z : List Nat} (hy : 1 ≤ y.length) : codesOf (Txt.replace x (strOf y) (strOf z)) = replL y z (codesOf x) := replace_list (x := x) (y := strOf y) (z := strOf z) hy
/-- no #( in the code -/
theorem arr_none {x : Str} (h : (Builtin.Str.occurrences x (strOf [35, 40]) 0 x.length 1).isEmpty = true) : Tok.arrP (codesOf x) = codesOf x := by
  rcases PySem.StrLaws.occ_head_from x (strOf [35, 40]) 0 1 (Nat.le_refl 1) with ⟨h0, hn⟩ | ⟨k, rr, h0, _⟩
  · rw [← arr_repl (codesOf x).length (codesOf x) (Nat.le_refl _)]
    refine repl_none (y := [35, 40]) (z := [32, 64, 32]) (L := codesOf x) (a := 0) fun k _ hk => ?_
    refine hn k (Nat.zero_le _) ((at_iff (x := x) (y := strOf [35, 40]) (by show [35, 40] ≠ []; simp) k).mpr ?_)
    unfold pre
    show ((codesOf x).drop k).take 2 == [35, 40]
    have hk : ((codesOf x).drop k).take 2 = [35, 40] := hk
    rw [hk]
    rfl
  · rw [h0] at h
    cases h
theorem chain_codes (x : Str) (h : codesOf x = Tok.arrP l) : codesOf (Txt.replace (Txt.replace (Txt.replace (Txt.replace (Txt.replace (Txt.replace (Txt.replace (Txt.replace (Txt.replace x (strOf [40]) (strOf [32, 40, 32])) (strOf [41]) (strOf [32, 41, 32])) (strOf [91]) (strOf [32, 91, 32])) (strOf [93]) (strOf [32, 93, 32])) (strOf [46]) (strOf [32, 46, 32])) (strOf [59]) (strOf [32, 59, 32])) (strOf [94]) (strOf [32, 94, 32])) (strOf [124]) (strOf [32, 124, 32])) (strOf [58, 61]) (strOf [32, 58, 61, 32])) = Tok.pad l := by
  rw [rep_codes (by decide), rep_codes (by decide), rep_codes (by decide), rep_codes (by decide), rep_codes (by decide), rep_codes (by decide), rep_codes (by decide), rep_codes (by decide), rep_codes (by decide), h]
  rw [show Tok.arrP l = padOn [] (Tok.arrP l) from (padOn_nil _).symm]
  rw [padOn_add (by decide) (by decide), padOn_add (by decide) (by decide), padOn_add (by decide) (by decide), padOn_add (by decide) (by decide), padOn_add (by decide) (by decide), padOn_add (by decide) (by decide), padOn_add (by decide) (by decide), padOn_add (by decide) (by decide)]
  rw [padOn_S, asg_repl _ _ (Nat.le_refl _)]
  rfl
theorem space_tab : ∀ c < 128, (c = 10 ∨ 32 ≤ c) → Unicode.isSpace c = Tok.isB c := by decide +kernel
theorem split_wf : ∀ (l : List Nat) (ws : List (List Nat)) (u : List Nat), (∀ c ∈ l, Unicode.isSpace c = Tok.isB c) → wfin (l.foldl wstep (ws, u)) = ws ++ Tok.spl u l
  | [], ws, u, _ => by
    show (if u = [] then ws else ws ++ [u]) = ws ++ (if u = [] then [] else [u])
    by_cases hu : u = []
    · rw [if_pos hu, if_pos hu, List.append_nil]
    · rw [if_neg hu, if_neg hu]
  | c :: l, ws, u, h => by
    have hc := h c List.mem_cons_self
    have ht := fun d hd => h d (List.mem_cons_of_mem _ hd)
    rw [List.foldl_cons]
    unfold wstep
    rw [hc]
    cases e : Tok.isB c with
    | true =>
      rw [if_pos rfl]
      by_cases hu : u = []
      · subst hu
        rw [if_pos rfl, Tok.spl_b e]
        exact split_wf l ws [] ht
      · rw [if_neg hu, Tok.spl_bc e hu]
        have := split_wf l (ws ++ [u]) [] ht
        rw [List.append_assoc] at this
        exact this
    | false =>
      rw [if_neg Bool.false_ne_true, Tok.spl_c e]
      exact split_wf l ws (u ++ [c]) ht
theorem words_codes {x : Str} (h : ∀ c ∈ codesOf x, Unicode.isSpace c = Tok.isB c) : (Txt.words x).map codesOf = Tok.spl [] (codesOf x) := by
  have := words_tl x
  have e : (Txt.words x).map tl = (Txt.words x).map codesOf := rfl
  rw [e] at this
  rw [this]
  have := split_wf (codesOf x) [] [] h
  rw [List.nil_append] at this
  exact this

end My

end
section
set_option Elab.async false
set_option linter.all false
set_option maxRecDepth 100000
set_option maxHeartbeats 2000000
namespace My
open PySem PySem.Spec PyProof.Rows L2 TL

open StrLaws
theorem have_rest {A B : TS} {D : Ends} {σ : L2.St} {H : Hp} (M : L2.St → Hp → Prop) (h2 : ∀ σ' H', M σ' H' → B D σ' H') (h1 : (∀ σ' H', M σ' H' → B D σ' H') → tSeq A B D σ H) : tSeq A B D σ H := h1 h2
theorem fix_ne : ∀ x ∈ Tok.fixed, x.1 ≠ [123] ∧ x.1 ≠ [125] := by decide +kernel
theorem ck_ts {ch t l' : List Nat} {ts ts' : List (List Nat)} (k : Tok.Ck ch t l' ts ts') (h1 : ch ≠ [123]) (h2 : ch ≠ [125]) : ts' = ts := by
  cases k with
  | sp h => rfl
  | arr => rfl
  | asg => rfl
  | str h hn => exact absurd rfl h1
  | sym h hn => exact absurd rfl h2
  | word h hp hl => rfl
theorem arr_all {P : Nat → Prop} (h32 : P 32) (h64 : P 64) : ∀ (n : Nat) (l : List Nat), l.length ≤ n → (∀ c ∈ l, P c) → (Tok.arrP l).length ≤ 2 * l.length ∧ ∀ c ∈ Tok.arrP l, P c
  | _, [], _, _ => ⟨Nat.le_refl _, fun c h => by cases h⟩
  | 0, _ :: _, h, _ => by cases h
  | n + 1, c :: l, h, hp => by
    by_cases hc : c = 35 ∧ l.head? = some 40
    · obtain ⟨rfl, hh⟩ := hc
      cases l with
      | nil => cases hh
      | cons d r =>
        injection hh with hh
        subst hh
        obtain ⟨h1, h2⟩ := arr_all h32 h64 n r (by simp only [List.length_cons] at h; omega) fun c hc => hp c (List.mem_cons_of_mem _ (List.mem_cons_of_mem _ hc))
        rw [Tok.arr_hit]
        refine ⟨by simp only [List.length_cons]; omega, fun c hc => ?_⟩
        rcases List.mem_cons.mp hc with rfl | hc
        · exact h32
        rcases List.mem_cons.mp hc with rfl | hc
        · exact h64
        rcases List.mem_cons.mp hc with rfl | hc
        · exact h32
        exact h2 c hc
    · obtain ⟨h1, h2⟩ := arr_all h32 h64 n l (by simp only [List.length_cons] at h; omega) fun c hc => hp c (List.mem_cons_of_mem _ hc)
      rw [Tok.arr_miss hc]
      refine ⟨by simp only [List.length_cons]; omega, fun d hd => ?_⟩
      rcases List.mem_cons.mp hd with rfl | hd
      · exact hp d List.mem_cons_self
      exact h2 d hd
theorem asg_all {P : Nat → Prop} (h32 : P 32) : ∀ (n : Nat) (l : List Nat), l.length ≤ n → (∀ c ∈ l, P c) → (Tok.asgP l).length ≤ 2 * l.length ∧ ∀ c ∈ Tok.asgP l, P c
  | _, [], _, _ => ⟨Nat.le_refl _, fun c h => by cases h⟩
  | 0, _ :: _, h, _ => by cases h
  | n + 1, c :: l, h, hp => by
    by_cases hc : c = 58 ∧ l.head? = some 61
    · obtain ⟨rfl, hh⟩ := hc
      cases l with
      | nil => cases hh
      | cons d r =>
        injection hh with hh
        subst hh
        obtain ⟨h1, h2⟩ := asg_all h32 n r (by simp only [List.length_cons] at h; omega) fun c hc => hp c (List.mem_cons_of_mem _ (List.mem_cons_of_mem _ hc))
        rw [Tok.asg_hit]
        refine ⟨by simp only [List.length_cons]; omega, fun c hc => ?_⟩
        rcases List.mem_cons.mp hc with rfl | hc
        · exact h32
        rcases List.mem_cons.mp hc with rfl | hc
        · exact hp _ List.mem_cons_self
        rcases List.mem_cons.mp hc with rfl | hc
        · exact hp _ (List.mem_cons_of_mem _ List.mem_cons_self)
        rcases List.mem_cons.mp hc with rfl | hc
        · exact h32
        exact h2 c hc
    · obtain ⟨h1, h2⟩ := asg_all h32 n l (by simp only [List.length_cons] at h; omega) fun c hc => hp c (List.mem_cons_of_mem _ hc)
      rw [Tok.asg_miss hc]
      refine ⟨by simp only [List.length_cons]; omega, fun d hd => ?_⟩
      rcases List.mem_cons.mp hd with rfl | hd
      · exact hp d List.mem_cons_self
      exact h2 d hd
theorem padOn_all {P : Nat → Prop} (h32 : P 32) (S : List Nat) : ∀ (l : List Nat), (∀ c ∈ l, P c) → (padOn S l).length ≤ 3 * l.length ∧ ∀ c ∈ padOn S l, P c
  | [], _ => ⟨Nat.le_refl _, fun c h => by cases h⟩
  | c :: l, hp => by
    obtain ⟨h1, h2⟩ := padOn_all h32 S l fun c hc => hp c (List.mem_cons_of_mem _ hc)
    by_cases hc : c ∈ S
    · rw [padOn, if_pos hc]
      refine ⟨by simp only [List.length_cons]; omega, fun d hd => ?_⟩
      rcases List.mem_cons.mp hd with rfl | hd
      · exact h32
      rcases List.mem_cons.mp hd with rfl | hd
      · exact hp _ List.mem_cons_self
      rcases List.mem_cons.mp hd with rfl | hd
      · exact h32
      exact h2 d hd
    · rw [padOn, if_neg hc]
      refine ⟨by simp only [List.length_cons]; omega, fun d hd => ?_⟩
      rcases List.mem_cons.mp hd with rfl | hd
      · exact hp _ List.mem_cons_self
      exact h2 d hd
/-- one replace more -/
theorem stage {x : Str} {S a : List Nat} {d : Nat} (h : codesOf x = padOn S a) (hd : d ∉ S) (h32 : d ≠ 32) : codesOf (Txt.replace x (strOf [d]) (strOf [32, d, 32])) = padOn (d :: S) a := by
  rw [rep_codes (by simp), h, padOn_add hd h32]
theorem fits {x : Str} {S a : List Nat} {z : List Nat} (h : codesOf x = padOn S a) (ha : a.length ≤ 16000) (hz : z.length ≤ 5) : x.length + (x.length + 1) * (strOf z).length ≤ 16777216 := by
  have h1 : x.length ≤ 48000 := by
    rw [len_codes, h]
    have := (padOn_all (P := fun _ => True) trivial S a fun _ _ => trivial).1
    omega
  have h2 : (strOf z).length ≤ 5 := hz
  have := Nat.mul_le_mul (Nat.add_le_add_right h1 1) h2
  omega
theorem have_rest3 {A A2 A3 R : TS} {D : Ends} {σ : L2.St} {H : Hp} (M : L2.St → Hp → Prop) (h2 : ∀ σ' H', M σ' H' → R D σ' H') (h1 : (∀ σ' H', M σ' H' → R D σ' H') → tSeq A (tSeq A2 (tSeq A3 R)) D σ H) : tSeq A (tSeq A2 (tSeq A3 R)) D σ H := h1 h2
def spApart : Sp := fun vs H Q _ => ∃ (code : Str), vs = [.str code] ∧ (codesOf code).length ≤ 8000 ∧ ∀ c9 : Str, codesOf c9 = Tok.pad (codesOf code) → Q (.str c9) H
abbrev s_set_apart : Stmt := top 16
section
variable {P : Program} {w : World} {K : PySem.W.Frag} {mg : Str → Option Value} {base : Heap}
theorem sc_set_apart : FnScope ["code"] ["code"] (defScope s_set_apart) := ⟨rfl, rfl, rfl, by decide +kernel, rfl, by decide +kernel, by decide +kernel⟩
theorem ok_set_apart {f : Addr} {fd : FuncData} (F : FnP K "set_apart" s_set_apart f fd) : FnOk P w K mg base CX0 1 f fd ["code"] spApart := by
  obtain ⟨oc, od, dV, kV, doc, pm, an, cdv, ct, osl, rfl, lk, hcd, _, _⟩ := F.ex
  refine fn_ofT lk hcd sc_set_apart (by decide +kernel) (by decide) (fun vs H Q E h => ?_) fun A outer s H vs Q E hr h => ⟨_,
    (psst_cons (CwR.pst_if (pt_cmpR op_in_str pe_str (pv 0) (by rfl)) (CwR.psst_one (pst_set (i := 0) sc_set_apart.nd rfl (Or.inl rfl) (CwR.pet_replC (pv 0)))) CwR.psst_nil)
    (psst_cons (pst_set (i := 0) sc_set_apart.nd rfl (Or.inl rfl) (CwR.pet_replT (CwR.pet_replT (CwR.pet_replT (CwR.pet_replT (CwR.pet_replC (pv 0)))))))
    (CwR.psst_one (CwR.pst_ret (CwR.pet_replT (CwR.pet_replT (CwR.pet_replT (CwR.pet_replC (pv 0))))))))), ?_⟩
  · obtain ⟨code, rfl, _⟩ := h
    rfl
  · obtain ⟨code, rfl, hcl, hok⟩ := h
    have k0 : (Str.ofString "#(") = strOf [35,40] := by decide +kernel
    have k1 : (Str.ofString " @ ") = strOf [32,64,32] := by decide +kernel
    have k2 : (Str.ofString "(") = strOf [40] := by decide +kernel
    have k3 : (Str.ofString " ( ") = strOf [32,40,32] := by decide +kernel
    have k4 : (Str.ofString ")") = strOf [41] := by decide +kernel
    have k5 : (Str.ofString " ) ") = strOf [32,41,32] := by decide +kernel
    have k6 : (Str.ofString "[") = strOf [91] := by decide +kernel
    have k7 : (Str.ofString " [ ") = strOf [32,91,32] := by decide +kernel
    have k8 : (Str.ofString "]") = strOf [93] := by decide +kernel
    have k9 : (Str.ofString " ] ") = strOf [32,93,32] := by decide +kernel
    have k10 : (Str.ofString ".") = strOf [46] := by decide +kernel
    have k11 : (Str.ofString " . ") = strOf [32,46,32] := by decide +kernel
    have k12 : (Str.ofString ";") = strOf [59] := by decide +kernel
    have k13 : (Str.ofString " ; ") = strOf [32,59,32] := by decide +kernel
    have k14 : (Str.ofString "^") = strOf [94] := by decide +kernel
    have k15 : (Str.ofString " ^ ") = strOf [32,94,32] := by decide +kernel
    have k16 : (Str.ofString "|") = strOf [124] := by decide +kernel
    have k17 : (Str.ofString " | ") = strOf [32,124,32] := by decide +kernel
    have k18 : (Str.ofString ":=") = strOf [58,61] := by decide +kernel
    have k19 : (Str.ofString " := ") = strOf [32,58,61,32] := by decide +kernel
    rw [k0, k1, k2, k3, k4, k5, k6, k7, k8, k9, k10, k11, k12, k13, k14, k15, k16, k17, k18, k19]
    have hal : (Tok.arrP (codesOf code)).length ≤ 16000 := by
      have := (arr_all (P := fun _ => True) trivial trivial _ (codesOf code) (Nat.le_refl _) fun _ _ => trivial).1
      omega
    refine have_rest (fun σ' H' => H = H' ∧ ∃ c1 : Str, σ' = [some (.str c1)] ∧ codesOf c1 = Tok.arrP (codesOf code)) ?rest (fun h2 => ?main)
    case main =>
      dsimp only [tSeq]
      refine if_one (bA := !(Builtin.Str.occurrences code (strOf [35, 40]) 0 code.length 1).isEmpty) (fun Q q => ⟨_, rfl, _, _, rfl, rfl, _, rfl, q⟩) (fun _ => ?_) (fun y => ?_)
      · refine ⟨_, rfl, code, rfl, fits (S := []) (a := codesOf code) (by rw [padOn_nil]) (by omega) (by decide), ?_⟩
        exact h2 _ _ ⟨rfl, _, rfl, by rw [rep_codes (by decide), arr_repl _ _ (Nat.le_refl _)]⟩
      · exact h2 _ _ ⟨rfl, code, rfl, (arr_none (by rw [Bool.not_eq_false'] at y; exact y)).symm⟩
    rintro _ _ ⟨rfl, c1, rfl, hc1⟩
    have s0 : codesOf c1 = padOn [] (Tok.arrP (codesOf code)) := by rw [padOn_nil]; exact hc1
    have s1 := stage (d := 40) s0 (by decide) (by decide)
    have s2 := stage (d := 41) s1 (by decide) (by decide)
    have s3 := stage (d := 91) s2 (by decide) (by decide)
    have s4 := stage (d := 93) s3 (by decide) (by decide)
    have s5 := stage (d := 46) s4 (by decide) (by decide)
    have s6 := stage (d := 59) s5 (by decide) (by decide)
    have s7 := stage (d := 94) s6 (by decide) (by decide)
    have s8 := stage (d := 124) s7 (by decide) (by decide)
    refine ⟨_, rfl, c1, rfl, fits s0 hal (by decide), _, rfl, fits s1 hal (by decide), _, rfl, fits s2 hal (by decide), _, rfl, fits s3 hal (by decide), _, rfl, fits s4 hal (by decide), ?_⟩
    refine ⟨_, rfl, _, rfl, fits s5 hal (by decide), _, rfl, fits s6 hal (by decide), _, rfl, fits s7 hal (by decide), _, rfl, ?_, ?_⟩
    · exact fits s8 hal (by decide)
    exact hok _ (chain_codes (l := codesOf code) c1 hc1)
end

end My

end
section
set_option Elab.async false
set_option linter.all false
set_option maxRecDepth 100000
set_option maxHeartbeats 2000000
namespace My
open PySem PySem.Spec PyProof.Rows L2 TL

open StrLaws
def spWordsIn (K : PySem.W.Frag) : Sp := fun vs H Q _ => ∃ (H0 : Hp) (ap : Addr) (src code : Str) (ts : List (List Nat)),
  vs = [.str src, .str code, .ref ap] ∧ Same H0 H ∧ H0 ap = none ∧ H ap = some (.lst (tsV ts)) ∧ Tok.Sc (codesOf src) ts (Tok.spl [] (Tok.pad (codesOf code))) ∧ Asc (codesOf src) ∧ 64 ∉ codesOf src ∧ Nd (codesOf src) ∧ Left (codesOf src) ts ∧
  (codesOf src).length ≤ 2000 ∧ (codesOf code).length ≤ 8000 ∧ (∀ c ∈ codesOf code, c < 128 ∧ (c = 10 ∨ 32 ≤ c)) ∧
  (∀ H', Same H0 H' → Q .non H') ∧ (∀ ws, Tok.words (codesOf src) = .ok ws → ∀ p H', Rows K H0 H' p (ws.map dW) → Q (.ref p) H')
abbrev s_words_in : Stmt := top 17
section
variable {P : Program} {w : World} {K : PySem.W.Frag} {mg : Str → Option Value} {base : Heap}
variable {f_set_apart f_put_string f_is_symbol f_put_keywords f_surely_binds f_put_other : Addr} {fd_set_apart fd_put_string fd_is_symbol fd_put_keywords fd_surely_binds fd_put_other : FuncData}
theorem sc_words_in : FnScope ["source", "code", "texts", "words", "place", "chunk", "kind", "value"] ["source", "code", "texts"] (defScope s_words_in) := ⟨rfl, rfl, rfl, by decide +kernel, rfl, by decide +kernel, by decide +kernel⟩
theorem ok_words_in {f d_FIXED : Addr} {fd : FuncData} (F : FnP K "words_in" s_words_in f fd) (F_set_apart : FnP K "set_apart" s_set_apart f_set_apart fd_set_apart) (g_set_apart : mg "set_apart" = some (.ref f_set_apart)) (F_put_other : FnP K "put_other" s_put_other f_put_other fd_put_other)
    (F_put_string : FnP K "put_string" s_put_string f_put_string fd_put_string) (F_is_symbol : FnP K "is_symbol" s_is_symbol f_is_symbol fd_is_symbol) (F_put_keywords : FnP K "put_keywords" s_put_keywords f_put_keywords fd_put_keywords) (F_surely_binds : FnP K "surely_binds" s_surely_binds f_surely_binds fd_surely_binds)
    (g_put_other : mg "put_other" = some (.ref f_put_other)) (g_put_string : mg "put_string" = some (.ref f_put_string)) (g_is_symbol : mg "is_symbol" = some (.ref f_is_symbol)) (g_put_keywords : mg "put_keywords" = some (.ref f_put_keywords)) (g_surely_binds : mg "surely_binds" = some (.ref f_surely_binds))
    (g_len : mg "len" = none) (g_all : mg "all" = none) (g_int : mg "int" = none) (g_FIXED : mg "FIXED" = some (.ref d_FIXED)) (hF : FixAt K w d_FIXED) (g_VK : TupAt K mg "VALUE_KINDS" vkinds)
    (g_LN : ∃ t, mg "LONGEST_NAME" = some (.int 40 t)) (g_MD : ∃ t, mg "MOST_DIGITS" = some (.int 60 t)) (g_AR : ∃ t, mg "ARRAY" = some (.str ⟨#[64]⟩ t)) (g_ST : ∃ t, mg "STRING" = some (.str ⟨#[123]⟩ t)) (g_SY : ∃ t, mg "SYMBOL" = some (.str ⟨#[125]⟩ t)) :
    FnOk P w K mg base CX0 4 f fd ["source", "code", "texts"] (spWordsIn K) := by
  have G_put_other : FnOk P w K mg base CX0 3 f_put_other fd_put_other _ (spPutOther K) := ok_put_other F_put_other F_put_string F_is_symbol F_put_keywords F_surely_binds g_put_string g_is_symbol g_put_keywords g_surely_binds g_len g_all g_int g_FIXED hF g_VK g_LN g_MD g_AR g_ST g_SY
  have b_put_other : Binds K fd_put_other ["words", "chunk", "source", "place", "texts"] [] := F_put_other.bindsN fun _ _ _ _ _ _ us hl => match us, hl with | [_, _, _, _, _], _ => rfl
  have k_put_other := F_put_other.kp

  obtain ⟨t1, g_LONGEST_NAME⟩ := g_LN
  have r_LONGEST_NAME : RelV (.int 40) (.int 40 t1) := ⟨t1, rfl⟩
  obtain ⟨es, n, D_FIXED, hD⟩ := hF

  have G_set_apart : FnOk P w K mg base CX0 1 f_set_apart fd_set_apart _ spApart := ok_set_apart F_set_apart
  have b_set_apart : Binds K fd_set_apart ["code"] [] := F_set_apart.bindsN fun _ _ _ _ _ _ us hl => match us, hl with | [_], _ => rfl
  have k_set_apart := F_set_apart.kp

  refine F.ok sc_words_in (fun vs H Q E h => ?_) (fun cdv A outer s H vs Q E hr h => ⟨_, PSs.nox
    (pss_cons (ps_set (i := 3) sc_words_in.nd rfl (Or.inl rfl) (pe_lst pa_nil))
      (pss_cons (ps_set (i := 4) sc_words_in.nd rfl (Or.inl rfl) pe_int)
      (pss_cons (ps_for PassesOwn.never rfl (pi_list (pe_bm0 PySem.F.plainAttrs_str PySem.F.slot_str_split PySem.F.type_str_split mt_words (pe_call G_set_apart (hr.mono (by decide)) rfl g_set_apart k_set_apart b_set_apart .nil pass0 (pa_cons (pv 1) pa_nil)))) (pg_name (i := 5) sc_words_in.nd rfl (Or.inl rfl)) (pss_cons (ps_set (i := 6) sc_words_in.nd rfl (Or.inl rfl) (pe_kget D_FIXED (pe_glob (v := .ref d_FIXED) rfl g_FIXED rfl) (pv 5) ⟨rfl, rfl, rfl, rfl⟩))
      (pss_cons (ps_set (i := 7) sc_words_in.nd rfl (Or.inl rfl) (pv 5))
      (pss_cons (ps_if (PW.pt (pw_and (pt_cmpR op_isN (pv 6) pe_non (nomark _)) (pw_and1 (pt_cmpR op_le (pe_callB call_len_str (by rfl) g_len PySem.boot_len (pa_cons (pv 5) pa_nil)) (pe_glob rfl g_LONGEST_NAME r_LONGEST_NAME) (nomark _))))) (pss_one (ps_if (pt_val (pe_bm0 PySem.F.plainAttrs_str PySem.F.slot_str_isidentifier PySem.F.type_str_isidentifier mt_isidentifier (pv 5))) (pss_one (ps_set (i := 6) sc_words_in.nd rfl (Or.inl rfl) pe_str)) (pss_one (ps_if (pt_val (pe_bm0 PySem.F.plainAttrs_str PySem.F.slot_str_isdigit PySem.F.type_str_isdigit mt_isdigit (pv 5))) (pss_cons (ps_set (i := 6) sc_words_in.nd rfl (Or.inl rfl) pe_str)
      (pss_one (ps_set (i := 7) sc_words_in.nd rfl (Or.inl rfl) (pe_callTy call_int_str (by rfl) g_int (by decide +kernel) (pa_cons (pv 5) pa_nil))))) (pss_one (ps_if (PW.pt (pw_and (pt_val (pe_bm PySem.F.plainAttrs_str PySem.F.slot_str_endswith PySem.F.type_str_endswith mt_endswith (pv 5) (pa_cons pe_str pa_nil))) (pw_and1 (pt_val (pe_bm0 PySem.F.plainAttrs_str PySem.F.slot_str_isidentifier PySem.F.type_str_isidentifier mt_isidentifier (pe_slice sl_str (pv 5) po_none (po_some (pe_un un_neg pe_int)))))))) (pss_one (ps_set (i := 6) sc_words_in.nd rfl (Or.inl rfl) pe_str)) pss_nil)))))) pss_nil)
      (pss_one (ps_if (pt_cmpR op_notN (pv 6) pe_non (nomark _)) (pss_cons (ps_set (i := 4) sc_words_in.nd rfl (Or.inl rfl) (pe_bm PySem.F.plainAttrs_str PySem.F.slot_str_find PySem.F.type_str_find mt_find3 (pv 0) (pa_cons (pv 5) (pa_cons (pv 4) pa_nil))))
      (pss_cons (ps_expr (pe_bm PySem.F.plainAttrs_list PySem.F.slot_list_append PySem.F.type_list_append mt_append (pv 3) (pa_cons (pe_tup (pa_cons (pv 6) (pa_cons (pv 7) (pa_cons (pv 4) pa_nil)))) pa_nil)))
      (pss_one (ps_aug (i := 4) sc_words_in.nd rfl (Or.inl rfl) (pe_callB call_len_str (by rfl) g_len PySem.boot_len (pa_cons (pv 5) pa_nil)) ip_add)))) (pss_cons (ps_set (i := 4) sc_words_in.nd rfl (Or.inl rfl) (pe_call G_put_other (hr.mono (by decide)) rfl g_put_other k_put_other b_put_other .nil pass0 (pa_cons (pv 3) (pa_cons (pv 5) (pa_cons (pv 0) (pa_cons (pv 4) (pa_cons (pv 2) pa_nil)))))))
      (pss_one (ps_if (pt_cmpR op_lt (pv 4) pe_int (nomark _)) (pss_one (ps_ret pe_non)) pss_nil)))))))))
      (pss_one (ps_ret (pv 3)))))), ?_⟩)
  · obtain ⟨H0, ap, src, code, ts, rfl, _⟩ := h
    rfl
  · obtain ⟨H0, ap, src, code, ts, rfl, hsame, hap0, hap, hsc, hA, h64, hnd, hleft, hL, hcl, hcs, hnon, hok⟩ := h
    have hsgn : ∀ c ∈ Tok.pad (codesOf code), c < 128 ∧ (c = 10 ∨ 32 ≤ c) := by
      have p1 := (arr_all (P := fun c => c < 128 ∧ (c = 10 ∨ 32 ≤ c)) (by decide) (by decide) _ (codesOf code) (Nat.le_refl _) hcs).2
      have p2 := (padOn_all (P := fun c => c < 128 ∧ (c = 10 ∨ 32 ≤ c)) (by decide) [124, 94, 59, 46, 93, 91, 41, 40] _ p1).2
      rw [padOn_S] at p2
      exact (asg_all (P := fun c => c < 128 ∧ (c = 10 ∨ 32 ≤ c)) (by decide) _ _ (Nat.le_refl _) p2).2
    have hal : (Tok.arrP (codesOf code)).length ≤ 16000 := by
      have := (arr_all (P := fun _ => True) trivial trivial _ (codesOf code) (Nat.le_refl _) fun _ _ => trivial).1
      omega
    have hpl : (Tok.pad (codesOf code)).length ≤ 96000 := by
      have p2 := (padOn_all (P := fun _ => True) trivial [124, 94, 59, 46, 93, 91, 41, 40] (Tok.arrP (codesOf code)) fun _ _ => trivial).1
      rw [padOn_S] at p2
      have := (asg_all (P := fun _ => True) trivial _ (Tok.padS (Tok.arrP (codesOf code))) (Nat.le_refl _) fun _ _ => trivial).1
      unfold Tok.pad
      omega
    show tSeq (tAsg (tLst tNil) (gName 3)) _ _ _ _
    refine ⟨(by show 0 ≤ sizeLine; exact Nat.zero_le _), fun aw nw => ?_⟩
    have haw0 : H0 aw = none := hsame.free nw
    have nea : aw ≠ ap := fun e => by rw [e, hap] at nw; cases nw
    have W0 : Wt K H0 (upd H aw (.lst [])) aw ap [] (tsV ts) := ⟨hsame.trans (same_upd nw), haw0, hap0, nea, ⟨[], fun _ => none, upd_same, .nil, fun a o z => by cases z⟩, by rw [upd_ne (Ne.symm nea)]; exact hap⟩
    refine ⟨_, rfl, code, rfl, hcl, fun c9 hc9 => ?_⟩
    have hys := words_codes (x := c9) (by rw [hc9]; exact fun c hc => space_tab c (hsgn c hc).1 (hsgn c hc).2)
    rw [hc9] at hys
    have hc9l : c9.length ≤ 96000 := by rw [len_codes, hc9]; exact hpl
    have hwn : (Txt.words c9).length ≤ 96001 := by have := words_le c9; omega
    refine ⟨rfl, _, rfl, rfl, (by rw [sizeLine_eq]; omega), fun pl npl => ⟨pl, rfl, ⟨_, SqL.of upd_same⟩, ?_⟩⟩
    generalize upd H aw (.lst []) = H1 at W0 npl ⊢
    generalize Txt.words c9 = ys at hys hwn ⊢
    have W1 := W0.later (same_upd (o := .lst (ys.map V.str)) npl)
    have npa : pl ≠ aw := fun e => by
      obtain ⟨xs, h1, _⟩ := W0.lst
      rw [← e, npl] at h1
      cases h1
    have npp : pl ≠ ap := fun e => by
      have := W0.txt
      rw [← e, npl] at this
      cases this
    have hpl1 : (upd H1 pl (.lst (ys.map V.str))) pl = some (.lst (ys.map V.str)) := upd_same
    have hp0 : H0 pl = none := W0.old.free npl
    generalize upd H1 pl (.lst (ys.map V.str)) = H2 at W1 hpl1 ⊢
    have hA0 : H2 aw = some (.lst []) := by
      obtain ⟨xs, h1, _, h3⟩ := W1.lst
      rw [h1, List.eq_nil_of_length_eq_zero h3]
    obtain ⟨G0, hG0⟩ : ∃ G0 : Hp, ∀ b, G0 b = if b = aw ∨ b = ap then none else H2 b := ⟨_, fun _ => rfl⟩
    have gS : Same G0 H2 := fun a o z => by
      rw [hG0] at z
      split at z
      · cases z
      · exact z
    have g0 : Same H0 G0 := fun a o z => by
      rw [hG0, if_neg]
      · exact W1.old a o z
      · rintro (rfl | rfl)
        · rw [haw0] at z; cases z
        · rw [hap0] at z; cases z
    have gpl : G0 pl = some (.lst (ys.map V.str)) := by
      rw [hG0, if_neg (by rintro (e | e); exact npa e; exact npp e)]
      exact hpl1
    have V1 : Wt K G0 H2 aw ap [] (tsV ts) := ⟨gS, by rw [hG0, if_pos (.inl rfl)], by rw [hG0, if_pos (.inr rfl)], nea, ⟨[], fun _ => none, hA0, .nil, fun a o z => by cases z⟩, W1.txt⟩
    have hgo : Tok.At (codesOf src) [] 0 ts (Tok.spl [] (Tok.pad (codesOf code))) := ⟨Nat.zero_le _, Tok.go_start _, hsc⟩
    generalize hcsd : Tok.spl [] (Tok.pad (codesOf code)) = cs at hgo hys
    refine for_list (K := K) (a := pl) (xs := ys.map V.str) (fun i σ H' => ∃ (p : Nat) (ws : List Tok.W) (ts : List (List Nat)) (x y z : Option V), σ = [some (.str src), some (.str code), some (.ref ap), some (.ref aw), some (.int (p : Int)), x, y, z] ∧ Wt K G0 H' aw ap ws (tsV ts) ∧ Tok.At (codesOf src) ws p ts (cs.drop i) ∧ ws.length ≤ p ∧ Left (codesOf src) ts)
      ⟨0, [], ts, none, none, none, rfl, V1, hgo, Nat.le_refl _, hleft⟩ (fun i σ H' _ R => by obtain ⟨_, _, _, _, _, _, _, W, _⟩ := R; exact SqL.of (W.old _ _ gpl)) ?turn ?last
    case turn =>
      rintro i x σ H3 hx ⟨p, ws, ts, x1, y1, z1, rfl, W, hat, hwl, hleft⟩
      rw [List.getElem?_map] at hx
      obtain ⟨y, hy, rfl⟩ := Option.map_eq_some_iff.mp hx
      have hci : cs[i]? = some (codesOf y) := by rw [← hys, List.getElem?_map, hy]; rfl
      obtain ⟨l, rfl⟩ : ∃ l, y = strOf l := ⟨codesOf y, (strOf_codes y).symm⟩
      have hci : cs[i]? = some l := hci
      have hil : i < cs.length := by
        rcases Nat.lt_or_ge i cs.length with h | h
        · exact h
        · rw [List.getElem?_eq_none h] at hci; cases hci
      have hdi : cs.drop i = l :: cs.drop (i + 1) := by
        rw [List.drop_eq_getElem_cons hil]
        rw [List.getElem?_eq_getElem hil] at hci
        injection hci with hci
        rw [hci]
      rw [hdi] at hat
      obtain ⟨q, t, l', ts', N⟩ := Tok.at_next hat
      obtain ⟨ht, hct, ⟨c0, r0, ech, hcb⟩, hsame⟩ := ck_facts N.ck
      have hge := N.ge
      have hlen := Tok.next_len N ht
      have hAc : Asc l := asc_ck hA N
      have hll : l.length ≤ 2000 := by omega
      have hls : (strOf l).length ≤ sizeLine := by rw [sizeLine_eq]; show l.length ≤ _; omega
      obtain ⟨r, hr2, hru⟩ := hD (strOf l)
      show tSeq (tAsg (tKGet _ _ _ _) _) _ _ _ _
      refine have_rest3 (fun σ' H' => H3 = H' ∧ ((∃ k v, σ' = [some (.str src), some (.str code), some (.ref ap), some (.ref aw), some (.int (p : Int)), some (.str (strOf l)), some (.str (kdS k)), some (vVal v)] ∧ t = l ∧ Tok.At (codesOf src) (ws ++ [(k, v, q)]) (q + l.length) ts (cs.drop (i + 1))) ∨
        σ' = [some (.str src), some (.str code), some (.ref ap), some (.ref aw), some (.int (p : Int)), some (.str (strOf l)), some .non, some (.str (strOf l))])) ?rest2 (fun h2 => ?main2)
      case main2 =>
        refine ⟨rfl, _, rfl, strOf l, r, rfl, hr2, ?_⟩
        cases r with
        | some u =>
          obtain ⟨k, tk, rfl, hfx⟩ := hru u rfl
          have hfx : (l, k) ∈ Tok.fixed := hfx
          obtain ⟨et, hat2⟩ := Tok.step_fixed N hfx
          obtain ⟨n1, n2⟩ := fix_ne _ hfx
          rw [ck_ts N.ck n1 n2] at hat2
          refine ⟨.str (kdS k), ⟨tk, rfl⟩, ?_⟩
          refine ⟨_, rfl, ?_⟩
          dsimp only [gName, tSeq]
          refine if_and (bA := false) (bB := true) (fun Q q => ⟨_, rfl, rfl, _, rfl, by rw [decide_eq_false (by intro z; cases z)]; exact q⟩) (fun z => by cases z) (fun z => by cases z) (fun _ => ?_)
          exact h2 _ _ ⟨rfl, .inl ⟨k, .s l, rfl, et, hat2⟩⟩
        | none =>
          refine ⟨_, rfl, ?_⟩
          dsimp only [gName, tSeq]
          refine if_and (bA := true) (bB := decide (((strOf l).length : Int) ≤ 40)) (fun Q q => ⟨_, rfl, rfl, _, rfl, by rw [decide_eq_true rfl]; exact q⟩) (fun _ Q q => ⟨_, rfl, _, rfl, hls, _, _, rfl, rfl, _, rfl, q⟩) (fun _ y => ?_) (fun _ => h2 _ _ ⟨rfl, .inr rfl⟩)
          have y : l.length ≤ 40 := by have := of_decide_eq_true y; exact Int.ofNat_le.mp this
          refine if_one (bA := Tok.isId l) (fun Q q => ⟨_, rfl, rfl, _, rfl, rfl, trivial, _, rfl, by rw [ident_eq hAc]; exact q⟩) (fun y1 => ?_) (fun n1 => ?_)
          · obtain ⟨et, hat2⟩ := Tok.step_name N y1 y
            exact h2 _ _ ⟨rfl, .inl ⟨.name, .s l, rfl, et, hat2⟩⟩
          refine if_one (bA := decide (0 < l.length) && l.all Tok.isDg) (fun Q q => ⟨_, rfl, rfl, _, rfl, rfl, trivial, _, rfl, by rw [digit_eq hAc]; exact q⟩) (fun y2 => ?_) (fun n2 => ?_)
          · rw [Bool.and_eq_true] at y2
            have hl0 : l ≠ [] := fun z => by rw [ech] at z; cases z
            obtain ⟨et, hat2⟩ := Tok.step_int N hl0 y2.2 (by omega)
            have hint : PySem.intText? (strOf l) = some ((Tok.num l : Nat) : Int) := by
              rw [num_eq]
              exact PySem.intText_digits (x := strOf l) (isId_dg y2.2 hl0) hl0 (by show l.length ≤ _; omega)
            refine ⟨_, rfl, _, _, rfl, hint, (by show l.length ≤ 640; omega), ?_⟩
            exact h2 _ _ ⟨rfl, .inl ⟨.int, .i (Tok.num l), rfl, et, hat2⟩⟩
          have hcl2 := cut_last (strOf l)
          have hAd : Asc (codesOf (cutS (strOf l) none (some (-1)))) := by rw [hcl2]; exact fun c hc => hAc c (List.dropLast_subset _ hc)
          have e58 : (Str.ofString ":") = ⟨#[58]⟩ := by decide +kernel
          refine if_and (bA := decide (l.getLast? = some 58)) (bB := Tok.isId l.dropLast) (fun Q q => ⟨_, rfl, rfl, _, _, rfl, rfl, _, rfl, by rw [e58, ends_one]; exact q⟩) (fun _ Q q => ⟨_, rfl, 1, rfl, _, rfl, strOf l, rfl, hls, rfl, _, rfl, rfl, trivial, _, rfl, by rw [ident_eq hAd, hcl2]; exact q⟩) (fun y3 y4 => ?_) (fun _ => h2 _ _ ⟨rfl, .inr rfl⟩)
          have hs := last_split (of_decide_eq_true y3)
          have hk : l = Tok.keys [l.dropLast] := hs
          obtain ⟨et, hat2⟩ := Tok.step_keys N hk (by simp) (by
            show (Tok.okPart l.dropLast && true) = true
            unfold Tok.okPart
            rw [y4, decide_eq_true (show l.dropLast.length ≤ 40 by rw [List.length_dropLast]; omega)]
            rfl)
          have hkw : Tok.keyWords [l.dropLast] q = [(.keyword, .s l, q)] := by
            show [(Tok.Kd.keyword, Tok.Val.s (l.dropLast ++ [58]), q)] = _
            rw [← hs]
          rw [hkw] at hat2
          exact h2 _ _ ⟨rfl, .inl ⟨.keyword, .s l, rfl, et, hat2⟩⟩
      case rest2 =>
        rintro _ _ ⟨rfl, ⟨k, v, rfl, et, hat2⟩ | rfl⟩
        · refine if_one (bA := true) (fun Q q => ⟨_, rfl, rfl, _, rfl, by rw [show (!decide (V.str (kdS k) = V.non)) = true from by rw [decide_eq_false (by intro z; cases z)]; rfl]; exact q⟩) (fun _ => ?_) (fun y => by cases y)
          have hf : Txt.find3 src (strOf l) (p : Int) = (q : Int) := find_at src l p q ech hcb hge (by rw [N.drop, et]) N.gap
          refine ⟨_, rfl, rfl, _, rfl, _, rfl, _, _, _, rfl, rfl, ?_⟩
          rw [hf]
          obtain ⟨xs, hxw, hxD, hxl⟩ := W.lst
          refine ⟨_, rfl, .inl ⟨rfl, _, SqL.of hxw⟩, _, rfl, _, rfl, _, rfl, (by show 3 ≤ sizeLine; decide), fun r nr => ?_⟩
          have W3 := W.more (w := (k, v, q)) hxw nr _ rfl
          have ra : aw ≠ r := fun e => by rw [← e, hxw] at nr; cases nr
          refine ⟨aw, xs, .ref r, rfl, rfl, by rw [upd_ne ra]; exact hxw, by rw [sizeLine_eq, hxl]; omega, ?_⟩
          refine ⟨_, rfl, _, rfl, _, rfl, hls, _, _, rfl, rfl, ?_⟩
          refine ⟨q + l.length, ws ++ [(k, v, q)], ts, some (.str (strOf l)), some (.str (kdS k)), some (vVal v), ?_, W3, hat2, ?_, hleft⟩
          · rw [Int.natCast_add]
            rfl
          · rw [List.length_append, ech]
            show ws.length + 1 ≤ q + (r0.length + 1)
            omega
        · refine if_one (bA := false) (fun Q q => ⟨_, rfl, rfl, _, rfl, by rw [show (!decide (V.non = V.non)) = false from by rw [decide_eq_true rfl]; rfl]; exact q⟩) (fun y => by cases y) (fun _ => ?_)
          refine ⟨_, rfl, _, rfl, _, rfl, _, rfl, _, rfl, ?_⟩
          refine ⟨G0, aw, ap, ws, strOf l, src, p, ts, cs.drop (i + 1), rfl, W, hat, hA, h64, hnd, hleft, hL, hwl, fun H' e => ?_, fun ws2 q2 ts2 H' W2 hat2 hw2 hl2 => ?_⟩
          · exact ⟨_, rfl, _, _, rfl, rfl, _, rfl, ite2 (fun _ => hnon _ (g0.trans e)) (fun y => absurd (by decide) y)⟩
          · exact ⟨_, rfl, _, _, rfl, rfl, _, rfl, ite2 (fun y => absurd (of_decide_eq_true y) (by omega)) (fun _ => ⟨q2, ws2, ts2, _, _, _, rfl, W2, hat2, hw2, hl2⟩)⟩
    case last =>
      rintro σ H3 ⟨p, ws, ts, x, y, z, rfl, W, hat, _, _⟩
      have hlen : (ys.map V.str).length = cs.length := by rw [← hys, List.length_map, List.length_map]
      rw [hlen, List.drop_length] at hat
      refine ⟨_, rfl, hok ws (Tok.at_end hat) aw H3 ?_⟩
      obtain ⟨xs, D, h1, h2, h3⟩ := W.at_
      exact ⟨g0.trans W.old, haw0, ⟨xs, D, h1, h2, fun a o z => ⟨(h3 a o z).1, (h3 a o z).2.1, g0.free (h3 a o z).2.2.2⟩⟩⟩
end

end My

end
section
set_option Elab.async false
set_option linter.all false
set_option maxRecDepth 100000
set_option maxHeartbeats 2000000
namespace My
open PySem PySem.Spec PyProof.Rows L2 TL

/-- the pieces between ' -/
def pcs (w : List Nat) : List (List Nat) := spl [39] 0 [] w
theorem split_pcs (z : Str) : (Txt.split z ⟨#[39]⟩).map codesOf = pcs (codesOf z) := split_spl z ⟨#[39]⟩ (by decide) (kind_ok (by decide +kernel))
theorem pcs_join : ∀ (w acc : List Nat), 39 ∉ acc → Tok.joinQ (spl [39] 0 acc w) = acc ++ w ∧ (∀ p ∈ spl [39] 0 acc w, 39 ∉ p) ∧ spl [39] 0 acc w ≠ [] ∧ (spl [39] 0 acc w).length ≤ w.length + 1
  | [], acc, h => by
    rw [spl_nil, List.append_nil]
    exact ⟨rfl, fun p hp => by rw [List.mem_singleton.mp hp]; exact h, by simp, by simp⟩
  | c :: w, acc, h => by
    by_cases hc : c = 39
    · subst hc
      obtain ⟨h1, h2, h3, h4⟩ := pcs_join w [] (by simp)
      have e : spl [39] 0 acc (39 :: w) = acc :: spl [39] 0 [] w := spl_hit (by unfold pre; simp)
      rw [e, Tok.joinQ_cons h3, h1]
      refine ⟨rfl, fun p hp => ?_, by simp, by simp only [List.length_cons]; omega⟩
      rcases List.mem_cons.mp hp with rfl | hp
      · exact h
      · exact h2 p hp
    · rw [spl_miss (by unfold pre; simp [hc])]
      obtain ⟨h1, h2, h3, h4⟩ := pcs_join w (acc ++ [c]) (by rw [List.mem_append]; rintro (z | z); exact h z; rw [List.mem_singleton] at z; exact hc z.symm)
      refine ⟨by rw [h1]; simp, h2, h3, by simp only [List.length_cons]; omega⟩
theorem join_more {ps : List (List Nat)} {k : Nat} {a : List Nat} (h : k + 1 < ps.length) (ha : ps[k]? = some a) : Tok.joinQ (ps.drop k) = a ++ 39 :: Tok.joinQ (ps.drop (k + 1)) := by
  rw [List.drop_eq_getElem_cons (by omega)]
  rw [List.getElem?_eq_getElem (by omega)] at ha
  injection ha with ha
  rw [ha]
  exact Tok.joinQ_cons (by
    intro e
    have := congrArg List.length e
    rw [List.length_drop, List.length_nil] at this
    omega)
theorem join_one {ps : List (List Nat)} {k : Nat} {a : List Nat} (h : k + 1 = ps.length) (ha : ps[k]? = some a) : Tok.joinQ (ps.drop k) = a := by
  rw [List.drop_eq_getElem_cons (by omega), List.drop_eq_nil_of_le (by omega)]
  rw [List.getElem?_eq_getElem (by omega)] at ha
  injection ha with ha
/-- nothing but ap has changed -/
def Bu (ap : Addr) (H H' : Hp) : Prop := ∀ b o, b ≠ ap → H b = some o → H' b = some o
theorem Bu.trans {ap : Addr} {H1 H2 H3 : Hp} (h : Bu ap H1 H2) (k : Bu ap H2 H3) : Bu ap H1 H3 := fun b o n e => k b o n (h b o n e)
theorem Bu.upd {ap : Addr} {H : Hp} {o : HO} : Bu ap H (upd H ap o) := fun b o n e => by rw [upd_ne n]; exact e
def spStrip : Sp := fun vs H Q _ => ∃ (ap : Addr) (src : Str), vs = [.str src, .ref ap] ∧ H ap = some (.lst []) ∧ (codesOf src).length ≤ 2000 ∧ (∀ H', Bu ap H H' → Q .non H') ∧
  ∀ (code : Str) (ts : List (List Nat)) (H' : Hp), Tok.St (codesOf src) = some (codesOf code, ts) → H' ap = some (.lst (tsV ts)) → Bu ap H H' → Q (.str code) H'
theorem w_and {cA cB : TT} {σ : L2.St} {H : Hp} {T U : Hp → Prop} {bA bB : Bool} (hA : ∀ Q : Bool → Hp → Prop, Q bA H → cA σ H Q) (hB : bA = true → ∀ Q : Bool → Hp → Prop, Q bB H → cB σ H Q) (ht : bA = true → bB = true → T H) (hu : (bA = true → bB = false) → U H) : tAnd cA cB σ H (fun b H1 => if b = true then T H1 else U H1) := by
  refine hA _ ?_
  cases bA with
  | false => exact iteF (hu fun z => by cases z)
  | true =>
    refine iteT (hB rfl _ ?_)
    cases bB with
    | false => exact iteF (hu fun _ => rfl)
    | true => exact iteT (ht rfl rfl)
abbrev s_without_strings : Stmt := top 15
section
variable {P : Program} {w : World} {K : PySem.W.Frag} {mg : Str → Option Value} {base : Heap}
theorem sc_without_strings : FnScope ["source", "texts", "pieces", "code", "place", "text"] ["source", "texts"] (defScope s_without_strings) := ⟨rfl, rfl, rfl, by decide +kernel, rfl, by decide +kernel, by decide +kernel⟩
theorem ok_without_strings {f : Addr} {fd : FuncData} (F : FnP K "without_strings" s_without_strings f fd) (g_len : mg "len" = none) : FnOk P w K mg base CX0 2 f fd ["source", "texts"] spStrip := by
  refine F.ok sc_without_strings (fun vs H Q E h => ?_) (fun cdv A outer s H vs Q E hr h => ⟨_, PSs.nox
    (pss_cons (ps_set (i := 2) sc_without_strings.nd rfl (Or.inl rfl) (pe_bm PySem.F.plainAttrs_str PySem.F.slot_str_split PySem.F.type_str_split mt_split (pv 0) (pa_cons pe_str pa_nil)))
      (pss_cons (ps_if (pt_cmpR op_eq (pe_op op_odd (pe_callB call_len_seq (by rfl) g_len PySem.boot_len (pa_cons (pv 2) pa_nil)) pe_int) pe_int (nomark _)) (pss_one (ps_ret pe_non)) pss_nil)
      (pss_cons (ps_set (i := 3) sc_without_strings.nd rfl (Or.inl rfl) (pe_ix ix_list (pv 2) pe_int (fun _ _ => rfl)))
      (pss_cons (ps_set (i := 4) sc_without_strings.nd rfl (Or.inl rfl) pe_int)
      (pss_cons (ps_while PassesOwn.never (pt_cmpR op_lt (pv 4) (pe_callB call_len_seq (by rfl) g_len PySem.boot_len (pa_cons (pv 2) pa_nil)) (nomark _)) (pss_cons (ps_set (i := 5) sc_without_strings.nd rfl (Or.inl rfl) (pe_ix ix_list (pv 2) (pv 4) (fun _ _ => rfl)))
      (pss_cons (ps_while PassesOwn.never (PW.pt (pw_and (pt_cmpR op_lt (pe_op op_add (pv 4) pe_int) (pe_callB call_len_seq (by rfl) g_len PySem.boot_len (pa_cons (pv 2) pa_nil)) (nomark _)) (pw_and1 (pt_cmpR op_eq (pe_ix ix_list (pv 2) (pe_op op_add (pv 4) pe_int) (fun _ _ => rfl)) pe_str (nomark _))))) (pss_cons (ps_aug (i := 5) sc_without_strings.nd rfl (Or.inl rfl) (pe_op op_add_str pe_str (pe_ix ix_list (pv 2) (pe_op op_add (pv 4) pe_int) (fun _ _ => rfl))) iop_add_str)
      (pss_one (ps_aug (i := 4) sc_without_strings.nd rfl (Or.inl rfl) pe_int ip_add))))
      (pss_cons (ps_expr (pe_bm PySem.F.plainAttrs_list PySem.F.slot_list_append PySem.F.type_list_append mt_append (pv 1) (pa_cons (pv 5) pa_nil)))
      (pss_cons (ps_if (pt_val (pe_bm PySem.F.plainAttrs_str PySem.F.slot_str_endswith PySem.F.type_str_endswith mt_endswith (pv 3) (pa_cons pe_str pa_nil))) (pss_one (ps_set (i := 3) sc_without_strings.nd rfl (Or.inl rfl) (pe_op op_add_str (pe_op op_add_str (pe_slice sl_str (pv 3) po_none (po_some (pe_un un_neg pe_int))) pe_str) (pe_ix ix_list (pv 2) (pe_op op_add (pv 4) pe_int) (fun _ _ => rfl))))) (pss_one (ps_aug (i := 3) sc_without_strings.nd rfl (Or.inl rfl) (pe_op op_add_str pe_str (pe_ix ix_list (pv 2) (pe_op op_add (pv 4) pe_int) (fun _ _ => rfl))) iop_add_str)))
      (pss_one (ps_aug (i := 4) sc_without_strings.nd rfl (Or.inl rfl) pe_int ip_add)))))))
      (pss_cons (ps_expr (pe_bm0 PySem.F.plainAttrs_list PySem.F.slot_list_reverse PySem.F.type_list_reverse mt_reverse (pv 1)))
      (pss_one (ps_ret (pv 3))))))))), ?_⟩)
  · obtain ⟨ap, src, rfl, _⟩ := h
    rfl
  · obtain ⟨ap, src, rfl, hap, hL, hnon, hok⟩ := h
    have e39 : (Str.ofString "'") = ⟨#[39]⟩ := by decide +kernel
    have e35 : (Str.ofString "#") = ⟨#[35]⟩ := by decide +kernel
    have e0 : (Str.ofString "") = strOf [] := by decide +kernel
    have eS : (Str.ofString " { ") = strOf [32, 123, 32] := by decide +kernel
    have eY : (Str.ofString " } ") = strOf [32, 125, 32] := by decide +kernel
    rw [e39, e35, e0, eS, eY]
    refine ⟨_, rfl, rfl, _, _, rfl, rfl, (by decide), (by rw [sizeLine_eq, len_codes]; omega), fun pl npl => ?_⟩
    have hys := split_pcs src
    obtain ⟨j1, j2, j3, j4⟩ := pcs_join (codesOf src) [] (by simp)
    have j1 : Tok.joinQ (pcs (codesOf src)) = codesOf src := j1
    have j2 : ∀ p ∈ pcs (codesOf src), 39 ∉ p := j2
    have j3 : pcs (codesOf src) ≠ [] := j3
    have j4 : (pcs (codesOf src)).length ≤ (codesOf src).length + 1 := j4
    generalize pcs (codesOf src) = ps at hys j1 j2 j3 j4
    generalize Txt.split src ⟨#[39]⟩ = ys at hys ⊢
    have hyl : ys.length = ps.length := by rw [← hys, List.length_map]
    have hpa : pl ≠ ap := fun e => by rw [e, hap] at npl; cases npl
    have b1 : Bu ap H (upd H pl (.lst (ys.map V.str))) := fun b o _ e => same_upd npl b o e
    have hpl1 : (upd H pl (.lst (ys.map V.str))) pl = some (.lst (ys.map V.str)) := upd_same
    have hap1 : (upd H pl (.lst (ys.map V.str))) ap = some (.lst []) := same_upd npl _ _ hap
    generalize upd H pl (.lst (ys.map V.str)) = H1 at b1 hpl1 hap1 ⊢
    refine ⟨_, rfl, pl, _, rfl, .inl (SqL.of hpl1), _, rfl, rfl, rfl, _, rfl, ?_⟩
    have hodd : ∀ (_ : ¬ decide (V.int (((ys.map V.str).length % 2 : Nat) : Int) = V.int 0) = true), ys.length % 2 = 1 := fun y => by
      rcases Nat.mod_two_eq_zero_or_one ys.length with h | h
      · exact absurd (decide_eq_true (by rw [List.length_map, h]; rfl)) y
      · exact h
    refine ite2 (fun _ => hnon _ b1) (fun y => ?_)
    have hodd := hodd y
    have hget : ∀ k < ys.length, ∃ y, (ys.map V.str)[k]? = some (.str y) ∧ ps[k]? = some (codesOf y) ∧ 39 ∉ codesOf y := fun k hk => by
      refine ⟨ys[k], by rw [List.getElem?_map, List.getElem?_eq_getElem hk]; rfl, by rw [← hys, List.getElem?_map, List.getElem?_eq_getElem hk]; rfl, j2 _ ?_⟩
      rw [← hys]
      exact List.mem_map_of_mem (List.getElem_mem hk)
    have hmlen : (ys.map V.str).length = ys.length := List.length_map ..
    obtain ⟨y0, g0, p0, n0⟩ := hget 0 (by omega)
    dsimp only [tNext, tSeq]
    refine ⟨_, rfl, _, _, _, _, rfl, rfl, SqL.of hpl1, atI_nat (j := 0) g0, ?_⟩
    show tWhile _ _ _ _ _
    refine while_by (fun σ H' => ∃ (j : Nat) (cd : Str) (tx : List (List Nat)) (x : Option V), σ = [some (.str src), some (.ref ap), some (.ref pl), some (.str cd), some (.int (j : Int)), x] ∧ H' pl = some (.lst (ys.map V.str)) ∧ H' ap = some (.lst (tx.map fun t => V.str (strOf t))) ∧ Bu ap H H' ∧ tx.length ≤ j ∧
        ((j < ys.length ∧ j % 2 = 1 ∧ (codesOf cd).length + 3 * (Tok.joinQ (ps.drop j)).length ≤ 6000 ∧ Tok.St (codesOf src) = (Tok.Sx (codesOf cd) (Tok.joinQ (ps.drop j))).map fun r => (r.1, tx ++ r.2)) ∨ (ys.length ≤ j ∧ Tok.St (codesOf src) = some (codesOf cd, tx))))
      (fun σ _ => match σ with | [_, _, _, _, some (.int j), _] => ys.length - j.toNat | _ => 0)
      ⟨1, y0, [], none, rfl, hpl1, hap1, b1, by simp, ?init⟩ ?turn ?mono
    case init =>
      by_cases h1 : ys.length = 1
      · refine .inr ⟨by omega, ?_⟩
        have e := join_one (ps := ps) (k := 0) (by omega) p0
        rw [List.drop_zero, j1] at e
        rw [e]
        exact Tok.strip_last _ n0
      · have e : Tok.joinQ (ps.drop 0) = codesOf y0 ++ 39 :: Tok.joinQ (ps.drop 1) := join_more (ps := ps) (k := 0) (by omega) p0
        rw [List.drop_zero, j1] at e
        refine .inl ⟨by omega, by decide, ?_, ?_⟩
        · have := congrArg List.length e
          rw [List.length_append, List.length_cons] at this
          omega
        · rw [e, Tok.strip_piece _ _ n0, ← Tok.Sx_eq]
          show _ = (Tok.Sx (codesOf y0) (Tok.joinQ (ps.drop 1))).map fun r => (r.1, [] ++ r.2)
          cases Tok.Sx (codesOf y0) (Tok.joinQ (ps.drop 1)) <;> rfl
    case mono =>
      intro σ H Q Q' hq h
      obtain ⟨a, h1, b, h2, p, zs, h3, h4, i, j, h5, h6, k, h7, h⟩ := h
      exact ⟨a, h1, b, h2, p, zs, h3, h4, i, j, h5, h6, k, h7, hq _ _ h⟩
    case turn =>
      rintro _ H2 ⟨j, cd, tx, x, rfl, hp2, ha2, b2, htx, hcase⟩
      refine ⟨_, rfl, _, rfl, pl, _, rfl, .inl (SqL.of hp2), _, _, rfl, rfl, _, rfl, ?_⟩
      refine ite2 (fun c => ?_) (fun c => ?_)
      · have c : j < ys.length := by have := of_decide_eq_true c; rw [hmlen] at this; omega
        obtain ⟨_, hj2, hcl, hst⟩ := hcase.resolve_right (fun z => by omega)
        obtain ⟨yj, gj, pj, nj⟩ := hget j c
        refine ⟨_, rfl, _, rfl, _, _, _, _, rfl, rfl, SqL.of hp2, atI_nat (j := j) gj, ?_⟩
        have hRj : (Tok.joinQ (ps.drop j)).length ≤ 2000 := by omega
        have hcs : cd.length ≤ 6000 := by rw [len_codes]; omega
        show tWhile _ _ _ _ _
        refine while_by (fun σ H' => H2 = H' ∧ ∃ (e : Nat) (tt : Str) (pf pr pe : List Nat), σ = [some (.str src), some (.ref ap), some (.ref pl), some (.str cd), some (.int (e : Int)), some (.str tt)] ∧ e < ys.length ∧ e % 2 = 1 ∧ j ≤ e ∧ Tok.joinQ (ps.drop j) = pr ++ Tok.joinQ (ps.drop e) ∧ ps[e]? = some pe ∧ codesOf tt = pf ++ pe ∧ pf.length ≤ pr.length ∧
            (∀ t n, Tok.strBody (Tok.joinQ (ps.drop e)).length (Tok.joinQ (ps.drop e)) = some (t, n) → Tok.strBody (Tok.joinQ (ps.drop j)).length (Tok.joinQ (ps.drop j)) = some (pf ++ t, pr.length + n)))
          (fun σ _ => match σ with | [_, _, _, _, some (.int j), _] => ys.length - j.toNat | _ => 0)
          ⟨rfl, j, yj, [], [], codesOf yj, rfl, c, hj2, Nat.le_refl _, rfl, pj, rfl, Nat.le_refl _, fun t n h => by rw [h]; simp⟩ ?turn2 ?mono2
        case mono2 =>
          intro σ H Q Q' hq h
          obtain ⟨a, h1, a1, a2, h2, h3, b, h4, p, zs, h5, h6, i, j, h7, h8, k, h9, h⟩ := h
          refine ⟨a, h1, a1, a2, h2, h3, b, h4, p, zs, h5, h6, i, j, h7, h8, k, h9, ?_⟩
          split at h
          · rename_i kk
            rw [if_pos kk]
            obtain ⟨a, h1, b, h2, a1, a2, h3, h4, c1, c2, c3, c4, h5, h6, h7, h8, h9, k, h10, h⟩ := h
            exact ⟨a, h1, b, h2, a1, a2, h3, h4, c1, c2, c3, c4, h5, h6, h7, h8, h9, k, h10, hq _ _ h⟩
          · rename_i kk
            rw [if_neg kk]
            exact hq _ _ h
        case turn2 =>
          rintro _ _ ⟨rfl, e, tt, pf, pr, pe, rfl, hee, he2, hje, hRe, hpe, htt, hpf, hbody⟩
          have hRl := congrArg List.length hRe
          rw [List.length_append] at hRl
          have hel : e + 1 < ys.length := by omega
          obtain ⟨ye, ge, pe', ne'⟩ := hget e hee
          have epe : codesOf ye = pe := by rw [hpe] at pe'; injection pe' with z; exact z.symm
          subst epe
          obtain ⟨yc, gc, pc, nc⟩ := hget (e + 1) hel
          have hR1 : Tok.joinQ (ps.drop e) = codesOf ye ++ 39 :: Tok.joinQ (ps.drop (e + 1)) := join_more (by omega) hpe
          have hR1l := congrArg List.length hR1
          rw [List.length_append, List.length_cons] at hR1l
          have htl : tt.length ≤ 2000 := by rw [len_codes, htt, List.length_append]; omega
          refine w_and (bA := decide ((e : Int) + 2 < ((ys.map V.str).length : Int))) (bB := decide (V.str yc = V.str (strOf []))) (fun Q q => ⟨_, rfl, _, _, rfl, rfl, _, rfl, pl, _, rfl, .inl (SqL.of hp2), _, _, rfl, rfl, _, rfl, q⟩)
            (fun _ Q q => ⟨_, rfl, _, rfl, _, _, rfl, rfl, _, _, _, _, rfl, rfl, SqL.of hp2, atI_nat (j := e + 1) gc, rfl, _, rfl, q⟩) (fun c1 c2 => ?_) (fun c1 => ?_)
          · have c1 : e + 2 < ys.length := by have := of_decide_eq_true c1; rw [hmlen] at this; omega
            have hyc : codesOf yc = [] := by
              have := of_decide_eq_true c2
              injection this with this
              rw [this]
              rfl
            obtain ⟨yd, gd, pd, nd⟩ := hget (e + 2) c1
            have hR2 : Tok.joinQ (ps.drop (e + 1)) = codesOf yc ++ 39 :: Tok.joinQ (ps.drop (e + 2)) := join_more (by omega) pc
            rw [hyc, List.nil_append] at hR2
            have hR2l := congrArg List.length hR2
            rw [List.length_cons] at hR2l
            have hydl : yd.length ≤ 2000 := by
              have h1 : codesOf yd ∈ ps := List.mem_of_getElem? pd
              rw [len_codes]
              have h2 : (codesOf yd).length ≤ (Tok.joinQ (ps.drop (e + 2))).length := by
                by_cases h3 : e + 3 < ys.length
                · rw [join_more (by omega) pd, List.length_append]
                  omega
                · rw [join_one (by omega) pd]
                  exact Nat.le_refl _
              omega
            refine ⟨_, rfl, _, rfl, _, rfl, _, _, rfl, rfl, _, _, _, _, rfl, rfl, SqL.of hp2, atI_nat (j := e + 2) gd, _, _, rfl, rfl, (by rw [sizeLine_eq]; show 1 + yd.length ≤ _; omega), ?_⟩
            refine ⟨_, _, rfl, rfl, (by rw [sizeLine_eq, len_codes, len_codes, codes_app, List.length_append]; show _ + (1 + _) ≤ _; rw [← len_codes, ← len_codes]; omega), ?_⟩
            refine ⟨_, rfl, _, _, rfl, rfl, ?_⟩
            refine ⟨⟨rfl, e + 2, tt ++ (⟨#[39]⟩ ++ yd), pf ++ codesOf ye ++ [39], pr ++ codesOf ye ++ [39, 39], codesOf yd, ?_, c1, by omega, by omega, ?_, pd, ?_, ?_, fun t n h => ?_⟩, ?_⟩
            · rfl
            · rw [hRe, hR1, hR2]
              simp
            · rw [codes_app, codes_app, htt]
              show pf ++ codesOf ye ++ ([39] ++ codesOf yd) = _
              simp
            · simp only [List.length_append, List.length_cons, List.length_nil]
              omega
            · have h1 := Tok.body_more (t := codesOf ye) (r := Tok.joinQ (ps.drop (e + 2))) ne' (Nat.le_refl _)
              rw [← hR2, ← hR1, h] at h1
              have h2 := hbody _ _ h1
              rw [h2]
              simp only [List.length_append, List.length_cons, List.length_nil, List.append_assoc, List.cons_append, List.nil_append]
              congr 2
              omega
            · show ys.length - ((e : Int) + 2).toNat < ys.length - (e : Int).toNat
              omega
          · have hhead : (Tok.joinQ (ps.drop (e + 1))).head? ≠ some 39 := by
              by_cases hl : e + 2 < ys.length
              · have h1 : codesOf yc ≠ [] := fun z => by
                  have h2 : yc = strOf [] := by rw [← z]; exact (strOf_codes yc).symm
                  have h3 := c1 (decide_eq_true (by rw [hmlen]; omega))
                  rw [decide_eq_true (by rw [h2])] at h3
                  cases h3
                rw [join_more (by omega) pc]
                cases hz : codesOf yc with
                | nil => exact absurd hz h1
                | cons d r =>
                  intro z
                  have z : some d = some 39 := z
                  injection z with z
                  exact nc (by rw [hz, z]; exact List.mem_cons_self)
              · rw [join_one (by omega) pc]
                cases hz : codesOf yc with
                | nil => intro z; cases z
                | cons d r =>
                  intro z
                  have z : some d = some 39 := z
                  injection z with z
                  exact nc (by rw [hz, z]; exact List.mem_cons_self)
            have hb : Tok.strBody (Tok.joinQ (ps.drop j)).length (Tok.joinQ (ps.drop j)) = some (codesOf tt, pr.length + ((codesOf ye).length + 1)) := by
              have := hbody (codesOf ye) ((codesOf ye).length + 1) (by rw [hR1]; exact Tok.body_end ne' hhead (Nat.le_refl _))
              rw [this, htt]
            have hdrop : (Tok.joinQ (ps.drop j)).drop (pr.length + ((codesOf ye).length + 1)) = Tok.joinQ (ps.drop (e + 1)) := by
              have h1 : Tok.joinQ (ps.drop j) = (pr ++ codesOf ye ++ [39]) ++ Tok.joinQ (ps.drop (e + 1)) := by rw [hRe, hR1]; simp
              have h2 : pr.length + ((codesOf ye).length + 1) = (pr ++ codesOf ye ++ [39]).length := by simp only [List.length_append, List.length_cons, List.length_nil]; omega
              rw [h2, h1, List.drop_left]
            have hcl2 : (codesOf yc).length ≤ (Tok.joinQ (ps.drop (e + 1))).length := by
              by_cases h3 : e + 2 < ys.length
              · rw [join_more (by omega) pc, List.length_append]
                omega
              · rw [join_one (by omega) pc]
                exact Nat.le_refl _
            have hycl : yc.length ≤ 2000 := by rw [len_codes]; omega
            refine ⟨_, rfl, .inl ⟨rfl, _, SqL.of ha2⟩, _, rfl, ap, _, _, rfl, rfl, ha2, (by rw [List.length_map, sizeLine_eq]; omega), ?_⟩
            have hp3 : (upd H2 ap (.lst ((tx.map fun t => V.str (strOf t)) ++ [V.str tt]))) pl = some (.lst (ys.map V.str)) := by rw [upd_ne hpa]; exact hp2
            have ha3 : (upd H2 ap (.lst ((tx.map fun t => V.str (strOf t)) ++ [V.str tt]))) ap = some (.lst ((tx ++ [codesOf tt]).map fun t => V.str (strOf t))) := by
              rw [upd_same, List.map_append]
              show _ = some (HO.lst (_ ++ [V.str (strOf (codesOf tt))]))
              rw [strOf_codes]
            have b3 : Bu ap H (upd H2 ap (.lst ((tx.map fun t => V.str (strOf t)) ++ [V.str tt]))) := b2.trans Bu.upd
            generalize upd H2 ap (.lst ((tx.map fun t => V.str (strOf t)) ++ [V.str tt])) = H3 at hp3 ha3 b3 ⊢
            dsimp only []
            refine have_rest (fun σ' H' => H3 = H' ∧ ∃ cd2 : Str, σ' = [some (.str src), some (.ref ap), some (.ref pl), some (.str cd2), some (.int (e : Int)), some (.str tt)] ∧ codesOf cd2 = Tok.cdOf (codesOf cd) (codesOf yc)) ?restC (fun h2 => ?mainC)
            case mainC =>
              dsimp only [tSeq]
              have hcl3 := cut_last cd
              refine if_one (bA := decide ((codesOf cd).getLast? = some 35)) (fun Q q => ⟨_, rfl, rfl, _, _, rfl, rfl, _, rfl, by rw [ends_one]; exact q⟩) (fun y => ?_) (fun y => ?_)
              · have y := of_decide_eq_true y
                refine ⟨_, rfl, 1, rfl, _, rfl, cd, rfl, (by rw [sizeLine_eq]; omega), _, _, rfl, rfl, (by rw [sizeLine_eq, len_codes, hcl3, List.length_dropLast, ← len_codes]; show _ + 3 ≤ _; omega), _, rfl, _, rfl, _, _, rfl, rfl, _, _, _, _, rfl, rfl, SqL.of hp3, atI_nat (j := e + 1) gc, _, _, rfl, rfl, ?_, ?_⟩
                · rw [sizeLine_eq, len_codes (_ ++ _), codes_app, List.length_append, hcl3, List.length_dropLast, ← len_codes]
                  show _ + 3 + _ ≤ _
                  omega
                · refine h2 _ _ ⟨rfl, _, rfl, ?_⟩
                  rw [codes_app, codes_app, hcl3]
                  unfold Tok.cdOf
                  rw [if_pos y]
                  rfl
              · have y := of_decide_eq_false y
                refine ⟨_, rfl, _, rfl, _, rfl, _, _, rfl, rfl, _, _, _, _, rfl, rfl, SqL.of hp3, atI_nat (j := e + 1) gc, _, _, rfl, rfl, (by rw [sizeLine_eq]; show 3 + _ ≤ _; omega), ?_⟩
                refine ⟨_, _, rfl, rfl, ?_, ?_⟩
                · rw [sizeLine_eq, len_codes (_ ++ _), codes_app, List.length_append, ← len_codes yc]
                  show _ + (3 + _) ≤ _
                  omega
                · refine h2 _ _ ⟨rfl, _, rfl, ?_⟩
                  rw [codes_app, codes_app]
                  unfold Tok.cdOf
                  rw [if_neg y, List.append_assoc]
                  rfl
            rintro _ _ ⟨rfl, cd2, rfl, hcd2⟩
            refine ⟨_, rfl, _, _, rfl, rfl, ?_⟩
            refine ⟨⟨e + 2, cd2, tx ++ [codesOf tt], _, rfl, hp3, ha3, b3, by rw [List.length_append]; show tx.length + 1 ≤ _; omega, ?_⟩, ?_⟩
            · by_cases hl : e + 2 < ys.length
              · have hR2 : Tok.joinQ (ps.drop (e + 1)) = codesOf yc ++ 39 :: Tok.joinQ (ps.drop (e + 2)) := join_more (by omega) pc
                have hR2l := congrArg List.length hR2
                rw [List.length_append, List.length_cons] at hR2l
                refine .inl ⟨hl, by omega, ?_, ?_⟩
                · rw [hcd2]
                  have : (Tok.cdOf (codesOf cd) (codesOf yc)).length ≤ (codesOf cd).length + 3 + (codesOf yc).length := by
                    unfold Tok.cdOf
                    split <;> simp only [List.length_append, List.length_cons, List.length_nil, List.length_dropLast] <;> omega
                  omega
                · rw [hst, Tok.step_mid hb (hdrop.trans hR2) nc, hcd2, Option.map_map]
                  congr 1
                  funext r
                  show (r.1, tx ++ codesOf tt :: r.2) = (r.1, tx ++ [codesOf tt] ++ r.2)
                  simp
              · refine .inr ⟨by omega, ?_⟩
                rw [hst, Tok.step_end hb (hdrop.trans (join_one (by omega) pc)) nc, hcd2]
                rfl
            · show ys.length - ((e : Int) + 2).toNat < ys.length - (j : Int).toNat
              omega
      · have c : ys.length ≤ j := by
          rcases Nat.lt_or_ge j ys.length with h | h
          · exact absurd (decide_eq_true (by rw [hmlen]; omega)) c
          · exact h
        obtain ⟨_, hst⟩ := hcase.resolve_left (fun z => by omega)
        refine ⟨_, rfl, .inl ⟨rfl, _, SqL.of ha2⟩, ap, _, rfl, rfl, ha2, ?_⟩
        refine ⟨_, rfl, hok cd tx _ hst ?_ (b2.trans Bu.upd)⟩
        rw [upd_same]
        unfold tsV
        rw [List.map_reverse]
end

end My

end
section
set_option Elab.async false
set_option linter.all false
set_option maxRecDepth 100000
set_option maxHeartbeats 2000000
namespace My
open PySem PySem.Spec PyProof.Rows L2 TL

theorem has_none {z : Str} {c : Nat} (h : (!(Builtin.Str.occurrences z ⟨#[c]⟩ 0 z.length 1).isEmpty) = false) : c ∉ codesOf z := by
  rw [Bool.not_eq_false'] at h
  rcases PySem.StrLaws.occ_head_from z ⟨#[c]⟩ 0 1 (Nat.le_refl 1) with ⟨h0, hn⟩ | ⟨k, rr, h0, _⟩
  · intro hc
    obtain ⟨k, hk, e⟩ := List.mem_iff_getElem.mp hc
    refine hn k (Nat.zero_le _) ((at_iff (x := z) (y := ⟨#[c]⟩) (by show [c] ≠ []; simp) k).mpr ?_)
    unfold pre
    show ((codesOf z).drop k).take 1 == [c]
    rw [List.drop_eq_getElem_cons hk, e]
    show [c] == [c]
    simp
  · rw [h0] at h
    cases h
def spPlain (K : PySem.W.Frag) : Sp := fun vs H Q _ => ∃ src : Str, vs = [.str src] ∧ Tok.isSource (codesOf src) = true ∧ (34 ∉ codesOf src → Nd (codesOf src)) ∧
  (∀ H', Same H H' → Q .non H') ∧ (∀ ws, Tok.words (codesOf src) = .ok ws → ∀ p H', Rows K H H' p (ws.map dW) → Q (.ref p) H')
abbrev s_plain_words : Stmt := top 14
theorem if_or3 {cA cB cC : TT} {t u : TS} {D : Ends} {σ : L2.St} {H : Hp} {bA bB bC : Bool} (hA : ∀ Q : Bool → Hp → Prop, Q bA H → cA σ H Q) (hB : ∀ Q : Bool → Hp → Prop, Q bB H → cB σ H Q) (hC : ∀ Q : Bool → Hp → Prop, Q bC H → cC σ H Q) (ht : t D σ H) (hu : bA = false → bB = false → bC = false → u D σ H) : tIfS (tOr cA (tOr cB cC)) t u D σ H := by
  refine hA _ ?_
  cases bA with
  | true => exact iteT (iteT ht)
  | false =>
    refine iteF (hB _ ?_)
    cases bB with
    | true => exact iteT (iteT ht)
    | false =>
      refine iteF (hC _ ?_)
      cases bC with
      | true => exact iteT ht
      | false => exact iteF (hu rfl rfl rfl)
section
variable {P : Program} {w : World} {K : PySem.W.Frag} {mg : Str → Option Value} {base : Heap}
variable {f_set_apart f_put_string f_is_symbol f_put_keywords f_surely_binds f_put_other f_words_in f_without_strings : Addr} {fd_set_apart fd_put_string fd_is_symbol fd_put_keywords fd_surely_binds fd_put_other fd_words_in fd_without_strings : FuncData}
/-- the defs and values of plainwords -/
structure Plain (K : PySem.W.Frag) (w : World) (mg : Str → Option Value) (d : Addr) (f_set_apart f_put_string f_is_symbol f_put_keywords f_surely_binds f_put_other f_words_in f_without_strings : Addr) (fd_set_apart fd_put_string fd_is_symbol fd_put_keywords fd_surely_binds fd_put_other fd_words_in fd_without_strings : FuncData) : Prop where
  F_set_apart : FnP K "set_apart" s_set_apart f_set_apart fd_set_apart
  g_set_apart : mg "set_apart" = some (.ref f_set_apart)
  F_put_string : FnP K "put_string" s_put_string f_put_string fd_put_string
  g_put_string : mg "put_string" = some (.ref f_put_string)
  F_is_symbol : FnP K "is_symbol" s_is_symbol f_is_symbol fd_is_symbol
  g_is_symbol : mg "is_symbol" = some (.ref f_is_symbol)
  F_put_keywords : FnP K "put_keywords" s_put_keywords f_put_keywords fd_put_keywords
  g_put_keywords : mg "put_keywords" = some (.ref f_put_keywords)
  F_surely_binds : FnP K "surely_binds" s_surely_binds f_surely_binds fd_surely_binds
  g_surely_binds : mg "surely_binds" = some (.ref f_surely_binds)
  F_put_other : FnP K "put_other" s_put_other f_put_other fd_put_other
  g_put_other : mg "put_other" = some (.ref f_put_other)
  F_words_in : FnP K "words_in" s_words_in f_words_in fd_words_in
  g_words_in : mg "words_in" = some (.ref f_words_in)
  F_without_strings : FnP K "without_strings" s_without_strings f_without_strings fd_without_strings
  g_without_strings : mg "without_strings" = some (.ref f_without_strings)
  g_len : mg "len" = none
  g_all : mg "all" = none
  g_int : mg "int" = none
  g_FIXED : mg "FIXED" = some (.ref d)
  hF : FixAt K w d
  g_VK : TupAt K mg "VALUE_KINDS" vkinds
  g_LN : ∃ t, mg "LONGEST_NAME" = some (.int 40 t)
  g_MD : ∃ t, mg "MOST_DIGITS" = some (.int 60 t)
  g_AR : ∃ t, mg "ARRAY" = some (.str ⟨#[64]⟩ t)
  g_ST : ∃ t, mg "STRING" = some (.str ⟨#[123]⟩ t)
  g_SY : ∃ t, mg "SYMBOL" = some (.str ⟨#[125]⟩ t)
theorem sc_plain_words : FnScope ["source", "texts", "code"] ["source"] (defScope s_plain_words) := ⟨rfl, rfl, rfl, by decide +kernel, rfl, by decide +kernel, by decide +kernel⟩
theorem ok_plain_words {f d : Addr} {fd : FuncData} (F : FnP K "plain_words" s_plain_words f fd) (M : Plain K w mg d f_set_apart f_put_string f_is_symbol f_put_keywords f_surely_binds f_put_other f_words_in f_without_strings fd_set_apart fd_put_string fd_is_symbol fd_put_keywords fd_surely_binds fd_put_other fd_words_in fd_without_strings) : FnOk P w K mg base CX0 5 f fd ["source"] (spPlain K) := by
  obtain ⟨F_set_apart, g_set_apart, F_put_string, g_put_string, F_is_symbol, g_is_symbol, F_put_keywords, g_put_keywords, F_surely_binds, g_surely_binds, F_put_other, g_put_other, F_words_in, g_words_in, F_without_strings, g_without_strings, g_len, g_all, g_int, g_FIXED, hF, g_VK, g_LN, g_MD, g_AR, g_ST, g_SY⟩ := M
  have G_words_in : FnOk P w K mg base CX0 4 f_words_in fd_words_in _ (spWordsIn K) := ok_words_in F_words_in F_set_apart g_set_apart F_put_other F_put_string F_is_symbol F_put_keywords F_surely_binds g_put_other g_put_string g_is_symbol g_put_keywords g_surely_binds g_len g_all g_int g_FIXED hF g_VK g_LN g_MD g_AR g_ST g_SY
  have G_without_strings : FnOk P w K mg base CX0 2 f_without_strings fd_without_strings _ spStrip := ok_without_strings F_without_strings g_len
  have b_words_in : Binds K fd_words_in ["source", "code", "texts"] [] := F_words_in.bindsN fun _ _ _ _ _ _ us hl => match us, hl with | [_, _, _], _ => rfl
  have k_words_in := F_words_in.kp
  have b_without_strings : Binds K fd_without_strings ["source", "texts"] [] := F_without_strings.bindsN fun _ _ _ _ _ _ us hl => match us, hl with | [_, _], _ => rfl
  have k_without_strings := F_without_strings.kp

  obtain ⟨t3, g_ARRAY⟩ := g_AR
  obtain ⟨t4, g_STRING⟩ := g_ST
  obtain ⟨t5, g_SYMBOL⟩ := g_SY
  have r_ARRAY : RelV (.str ⟨#[64]⟩) (.str ⟨#[64]⟩ t3) := ⟨t3, rfl⟩
  have r_STRING : RelV (.str ⟨#[123]⟩) (.str ⟨#[123]⟩ t4) := ⟨t4, rfl⟩
  have r_SYMBOL : RelV (.str ⟨#[125]⟩) (.str ⟨#[125]⟩ t5) := ⟨t5, rfl⟩
  refine F.ok sc_plain_words (fun vs H Q E h => ?_) (fun cdv A outer s H vs Q E hr h => ⟨_, PSs.nox
    (pss_cons (ps_if (PW.pt (pw_or (pt_cmpR op_in_str (pe_glob rfl g_ARRAY r_ARRAY) (pv 0) (by rfl)) (pw_or (pt_cmpR op_in_str pe_str (pv 0) (by rfl)) (pw_or1 (pt_cmpR op_in_str pe_str (pv 0) (by rfl)))))) (pss_one (ps_ret pe_non)) pss_nil)
      (pss_cons (ps_if (pt_cmpR op_notin_str pe_str (pv 0) (by rfl)) (pss_one (ps_ret (pe_call G_words_in (hr.mono (by decide)) rfl g_words_in k_words_in b_words_in .nil pass0 (pa_cons (pv 0) (pa_cons (pv 0) (pa_cons (pe_lst pa_nil) pa_nil)))))) pss_nil)
      (pss_cons (ps_if (PW.pt (pw_or (pt_cmpR op_in_str (pe_glob rfl g_STRING r_STRING) (pv 0) (by rfl)) (pw_or1 (pt_cmpR op_in_str (pe_glob rfl g_SYMBOL r_SYMBOL) (pv 0) (by rfl))))) (pss_one (ps_ret pe_non)) pss_nil)
      (pss_cons (ps_set (i := 1) sc_plain_words.nd rfl (Or.inl rfl) (pe_lst pa_nil))
      (pss_cons (ps_set (i := 2) sc_plain_words.nd rfl (Or.inl rfl) (pe_call G_without_strings (hr.mono (by decide)) rfl g_without_strings k_without_strings b_without_strings .nil pass0 (pa_cons (pv 0) (pa_cons (pv 1) pa_nil))))
      (pss_one (ps_ret (pe_ifExp (pt_cmpR op_isN (pv 2) pe_non (nomark _)) pe_non (pe_call G_words_in (hr.mono (by decide)) rfl g_words_in k_words_in b_words_in .nil pass0 (pa_cons (pv 0) (pa_cons (pv 2) (pa_cons (pv 1) pa_nil)))))))))))), ?_⟩)
  · obtain ⟨src, rfl, _⟩ := h
    rfl
  · obtain ⟨src, rfl, hsrc, hnd, hnon, hok⟩ := h
    have e39 : (Str.ofString "'") = ⟨#[39]⟩ := by decide +kernel
    have e34 : (Str.ofString "\"") = ⟨#[34]⟩ := by decide +kernel
    have e95 : (Str.ofString "_") = ⟨#[95]⟩ := by decide +kernel
    rw [e39, e34, e95]
    have hs : (∀ c ∈ codesOf src, c < 128 ∧ (c = 10 ∨ 32 ≤ c)) ∧ (codesOf src).length ≤ 2000 := by
      unfold Tok.isSource at hsrc
      rw [Bool.and_eq_true] at hsrc
      refine ⟨fun c hc => ?_, of_decide_eq_true hsrc.2⟩
      have := List.all_eq_true.mp hsrc.1 c hc
      simp only [Bool.or_eq_true, beq_iff_eq, Bool.and_eq_true, decide_eq_true_eq] at this
      omega
    obtain ⟨hch, hL⟩ := hs
    refine if_or3 (bA := !(Builtin.Str.occurrences src ⟨#[64]⟩ 0 src.length 1).isEmpty) (bB := !(Builtin.Str.occurrences src ⟨#[95]⟩ 0 src.length 1).isEmpty) (bC := !(Builtin.Str.occurrences src ⟨#[34]⟩ 0 src.length 1).isEmpty)
      (fun Q q => ⟨_, rfl, _, _, rfl, rfl, _, rfl, q⟩) (fun Q q => ⟨_, rfl, _, _, rfl, rfl, _, rfl, q⟩) (fun Q q => ⟨_, rfl, _, _, rfl, rfl, _, rfl, q⟩) (hnon _ (Same.refl H)) (fun n1 n2 n3 => ?_)
    have n64 := has_none n1
    have n95 := has_none n2
    have n34 := has_none n3
    have hA : Asc (codesOf src) := fun c hc => ⟨(hch c hc).1, fun e => n95 (e ▸ hc)⟩
    dsimp only [tNext, tSeq]
    refine if_one (bA := !(!(Builtin.Str.occurrences src ⟨#[39]⟩ 0 src.length 1).isEmpty)) (fun Q q => ⟨_, rfl, _, _, rfl, rfl, _, rfl, q⟩) (fun y => ?_) (fun n4 => ?_)
    · have n39 : 39 ∉ codesOf src := has_none (by cases h : (!(Builtin.Str.occurrences src ⟨#[39]⟩ 0 src.length 1).isEmpty) with | false => rfl | true => rw [h] at y; cases y)
      refine ⟨_, rfl, _, rfl, (by show 0 ≤ sizeLine; exact Nat.zero_le _), fun ap np => ?_⟩
      exact ⟨H, ap, src, src, [], rfl, same_upd np, np, upd_same, Tok.chunks_of (Tok.strip_last _ n39), hA, n64, hnd n34, .inl rfl, hL, by omega, hch, hnon, hok⟩
    dsimp only [tNext, tSeq]
    refine if_or (bA := !(Builtin.Str.occurrences src ⟨#[123]⟩ 0 src.length 1).isEmpty) (bB := !(Builtin.Str.occurrences src ⟨#[125]⟩ 0 src.length 1).isEmpty) (fun Q q => ⟨_, rfl, _, _, rfl, rfl, _, rfl, q⟩) (fun Q q => ⟨_, rfl, _, _, rfl, rfl, _, rfl, q⟩) (fun _ => hnon _ (Same.refl H)) (fun n5 n6 => ?_)
    have n123 := has_none n5
    have n125 := has_none n6
    dsimp only [tNext, tSeq]
    refine ⟨(by show 0 ≤ sizeLine; exact Nat.zero_le _), fun ap np => ?_⟩
    have same : ∀ H', Bu ap (upd H ap (.lst [])) H' → Same H H' := fun H' b => fun a o e => b a o (fun z => by rw [z, np] at e; cases e) (same_upd np a o e)
    refine ⟨_, rfl, _, rfl, ap, src, rfl, upd_same, hL, fun H' b => ?_, fun code ts H' hst hap b => ?_⟩
    · refine ⟨_, rfl, rfl, _, rfl, ?_⟩
      refine ite2 (fun _ => hnon _ (same _ b)) (fun y => absurd (decide_eq_true rfl) y)
    · refine ⟨_, rfl, rfl, _, rfl, ?_⟩
      refine ite2 (fun y => absurd (of_decide_eq_true y) (by intro z; cases z)) (fun _ => ?_)
      refine ⟨_, rfl, _, rfl, _, rfl, ?_⟩
      have hst : Tok.strip (codesOf src).length (codesOf src) = some (codesOf code, ts) := hst
      obtain ⟨c1, c2⟩ := Tok.strip_all (P := fun c => c < 128 ∧ (c = 10 ∨ 32 ≤ c)) (by decide) (by decide) (by decide) _ _ _ _ hch hst
      exact ⟨H, ap, src, code, ts, rfl, same _ b, np, hap, Tok.chunks_of hst, hA, n64, hnd n34, .inr ⟨n123, n125⟩, hL, by omega, c2, hnon, hok⟩
end

end My

end
section
set_option Elab.async false
set_option linter.all false
set_option maxRecDepth 100000
set_option maxHeartbeats 2000000
namespace My
open PySem PySem.Spec PyProof.Rows L2
abbrev s_words_of : Stmt := top 26
abbrev s_parted : Stmt := top 27
/-- the lists of words and of parentheses, under way -/
structure Wk (K : PySem.W.Frag) (H0 H' : Hp) (aw ap : Addr) (ws : List Tok.W) (par : List Bool) : Prop where
  old : Same H0 H'
  newW : H0 aw = none
  newP : H0 ap = none
  ne : aw ≠ ap
  at_ : ∃ xs D, H' aw = some (.lst xs) ∧ DpAll K D xs (ws.map dW) ∧ ∀ a o, D a = some o → H' a = some o ∧ a ≠ aw ∧ a ≠ ap ∧ H0 a = none
  par : H' ap = some (.lst (par.map pS))
theorem Wk.later {K : PySem.W.Frag} {H0 H1 H2 : Hp} {aw ap : Addr} {ws : List Tok.W} {par : List Bool} (w : Wk K H0 H1 aw ap ws par) (e : Same H1 H2) : Wk K H0 H2 aw ap ws par := by
  obtain ⟨xs, D, h1, h2, h3⟩ := w.at_
  exact ⟨w.old.trans e, w.newW, w.newP, w.ne, ⟨xs, D, e _ _ h1, h2, fun a o z => ⟨e _ _ (h3 a o z).1, (h3 a o z).2⟩⟩, e _ _ w.par⟩
theorem Wk.note {K : PySem.W.Frag} {H0 H1 H2 : Hp} {aw ap : Addr} {ws : List Tok.W} {par par' : List Bool} (w : Wk K H0 H1 aw ap ws par) (h : H2 ap = some (.lst (par'.map pS))) (e : ∀ b o, b ≠ ap → H1 b = some o → H2 b = some o) : Wk K H0 H2 aw ap ws par' := by
  obtain ⟨xs, D, h1, h2, h3⟩ := w.at_
  refine ⟨fun a o z => e a o (fun y => by rw [y, w.newP] at z; cases z) (w.old a o z), w.newW, w.newP, w.ne, ⟨xs, D, e _ _ w.ne h1, h2, fun a o z => ?_⟩, h⟩
  obtain ⟨g1, g2, g3, g4⟩ := h3 a o z
  exact ⟨e _ _ g3 g1, g2, g3, g4⟩
/-- a word more: its tuple is new at q -/
theorem Wk.more {K : PySem.W.Frag} {H0 H1 : Hp} {aw ap q : Addr} {ws : List Tok.W} {par : List Bool} {w : Tok.W} {xs : List V} (W : Wk K H0 H1 aw ap ws par) (hx : H1 aw = some (.lst xs)) (hq : H1 q = none) (o : HO) (ho : o = .tup [.str (kdS w.1), vVal w.2.1, .int (w.2.2 : Int)]) :
    Wk K H0 (upd (upd H1 q o) aw (.lst (xs ++ [.ref q]))) aw ap (ws ++ [w]) par := by
  subst ho
  obtain ⟨xs', D, h1, h2, h3⟩ := W.at_
  rw [hx] at h1
  injection h1 with h1
  injection h1 with h1
  subst h1
  have qa : q ≠ aw := fun e => by rw [e, hx] at hq; cases hq
  have qp : q ≠ ap := fun e => by rw [e, W.par] at hq; cases hq
  have q0 : H0 q = none := W.old.free hq
  have nD : D q = none := by
    cases z : D q with
    | none => rfl
    | some o => rw [(h3 q o z).1] at hq; cases hq
  have sD : Same D (upd D q (.tup [.str (kdS w.1), vVal w.2.1, .int (w.2.2 : Int)])) := fun b o z => by rw [upd_ne (ne_of_none z nD)]; exact z
  refine ⟨fun a o z => ?_, W.newW, W.newP, W.ne, ⟨xs ++ [.ref q], upd D q (.tup [.str (kdS w.1), vVal w.2.1, .int (w.2.2 : Int)]), upd_same, ?_, fun a o z => ?_⟩, ?_⟩
  · have n1 : a ≠ aw := fun e => by rw [e, W.newW] at z; cases z
    have n2 : a ≠ q := fun e => by rw [e, q0] at z; cases z
    rw [upd_ne n1, upd_ne n2]
    exact W.old a o z
  · rw [List.map_append]
    refine dpAll_append (dp_monoAll sD _ _ h2) (.cons ?_ .nil)
    unfold dW
    refine .tup (SqT.of upd_same) (.cons (.str _) (.cons ?_ (.cons (.int _) .nil)))
    cases w.2.1 with
    | s t => exact .str _
    | i n => exact .int _
  · by_cases c : a = q
    · subst c
      rw [upd_same] at z
      rw [upd_ne qa, upd_same]
      exact ⟨z, qa, qp, q0⟩
    · rw [upd_ne c] at z
      obtain ⟨g1, g2, g3, g4⟩ := h3 a o z
      rw [upd_ne g2, upd_ne c]
      exact ⟨g1, g2, g3, g4⟩
  · rw [upd_ne (Ne.symm W.ne), upd_ne (Ne.symm qp)]
    exact W.par
def spParted (K : PySem.W.Frag) (C : Addr) : Sp := fun vs H Q E => ∃ z, vs = [.str z] ∧ Tok.isSource (codesOf z) = true ∧ (∀ ws, Tok.words (codesOf z) = .ok ws → ∀ p H', Rows K H H' p (ws.map dW) → Q (.ref p) H') ∧
      (∀ n, Tok.words (codesOf z) = .error n → ∀ d H', Same H H' → H' d = some (.xd [("place", .int (n : Int))]) → E (.ref C) (some d) H')
theorem Rows.from {K : PySem.W.Frag} {H H1 H2 : Hp} {p : Addr} {ds : List PyData} (R : Rows K H1 H2 p ds) (e : Same H H1) : Rows K H H2 p ds := by
  obtain ⟨h1, h2, vs, D, h3, h4, h5⟩ := R
  exact ⟨e.trans h1, e.free h2, vs, D, h3, h4, fun a o z => ⟨(h5 a o z).1, (h5 a o z).2.1, e.free (h5 a o z).2.2⟩⟩
section
variable {P : Program} {w : World} {K : PySem.W.Frag} {mg : Str → Option Value} {base : Heap} {C fI : Addr} {qual : Str}
variable {fN fK fE fS fL fY fA fT : Addr} {fdN fdK fdE fdS fdL fdY fdA fdT : FuncData}
theorem sc_parted : FnScope ["source", "words", "parens", "place", "kind", "value", "end"] ["source"] (defScope s_parted) := ⟨rfl, rfl, rfl, by decide +kernel, rfl, by decide +kernel, by decide +kernel⟩
theorem ok_parted {f fG fM fB fP : Addr} {fd fdG fdM fdB fdP : FuncData} (F : FnP K "parted" s_parted f fd) (M : Mods K mg fN fK fE fS fL fY fA fT fdN fdK fdE fdS fdL fdY fdA fdT) (T : PySem.SupX.SupTxt P K mg qual C fI) (gC : mg "BadSource" = some (.ref C))
    (FG : FnP K "past_gap" s_past_gap fG fdG) (FM : FnP K "word_at" s_word_at fM fdM) (FB : FnP K "minus_binds" s_minus_binds fB fdB) (FP : FnP K "note_paren" s_note_paren fP fdP)
    (g_past_gap : mg "past_gap" = some (.ref fG)) (g_word_at : mg "word_at" = some (.ref fM)) (g_minus_binds : mg "minus_binds" = some (.ref fB)) (g_note_paren : mg "note_paren" = some (.ref fP))
    (g_VK : TupAt K mg "VALUE_KINDS" vkinds) :
    FnOk P w K mg base (L2.CX P w) 15 f fd ["source"] (spParted K C) := by
  have g_len := M.g_len
  have G_past_gap : FnOk P w K mg base (L2.CX P w) 4 fG fdG _ (spGap C) := ok_past_gap FG M.g_len T gC
  have G_word_at : FnOk P w K mg base (L2.CX P w) 5 fM fdM _ (spWordAt C) := ok_word_at FM M T gC
  have G_minus_binds : FnOk P w K mg base CX0 2 fB fdB _ (spBinds K) := ok_minus_binds FB g_VK
  have G_note_paren : FnOk P w K mg base CX0 2 fP fdP _ spNote := ok_note_paren FP
  have b_past_gap : Binds K fdG ["text", "place"] [] := FG.bindsN fun _ _ _ _ _ _ us hl => match us, hl with | [_, _], _ => rfl
  have b_word_at : Binds K fdM ["text", "place", "binds"] [] := FM.bindsN fun _ _ _ _ _ _ us hl => match us, hl with | [_, _, _], _ => rfl
  have b_minus_binds : Binds K fdB ["words", "parens"] [] := FB.bindsN fun _ _ _ _ _ _ us hl => match us, hl with | [_, _], _ => rfl
  have b_note_paren : Binds K fdP ["parens", "sign"] [] := FP.bindsN fun _ _ _ _ _ _ us hl => match us, hl with | [_, _], _ => rfl
  have k_past_gap := FG.kp
  have k_word_at := FM.kp
  have k_minus_binds := FB.kp
  have k_note_paren := FP.kp
  refine F.ok sc_parted (fun vs H Q E h => ?_) (fun cdv A outer s H vs Q E hr h => ⟨_,
    (pss_cons (ps_set (i := 1) sc_parted.nd rfl (Or.inl rfl) (pe_lst pa_nil))
      (pss_cons (ps_set (i := 2) sc_parted.nd rfl (Or.inl rfl) (pe_lst pa_nil))
      (pss_cons (ps_set (i := 3) sc_parted.nd rfl (Or.inl rfl) (pe_call G_past_gap (hr.mono (by decide)) rfl g_past_gap k_past_gap b_past_gap .nil (passes_call (takes_of rfl rfl rfl rfl) (fun _ _ _ _ h => h)) (pa_cons (pv 0) (pa_cons pe_int pa_nil))))
      (pss_cons (ps_while (passes_of rfl) (pt_cmpR op_lt (pv 3) (pe_callB call_len_str (by rfl) g_len PySem.boot_len (pa_cons (pv 0) pa_nil)) (nomark _)) (pss_cons (ps_asg (pe_call G_word_at (hr.mono (by decide)) rfl g_word_at k_word_at b_word_at .nil (passes_call (takes_of rfl rfl rfl rfl) (fun _ _ _ _ h => h)) (pa_cons (pv 0) (pa_cons (pv 3) (pa_cons (pe_call G_minus_binds (hr.mono (by decide)) rfl g_minus_binds k_minus_binds b_minus_binds .nil pass0 (pa_cons (pv 1) (pa_cons (pv 2) pa_nil))) pa_nil)))) (pg_tup rfl (pgs_cons (pg_name (i := 4) sc_parted.nd rfl (Or.inl rfl)) (pgs_cons (pg_name (i := 5) sc_parted.nd rfl (Or.inl rfl)) (pgs_cons (pg_name (i := 6) sc_parted.nd rfl (Or.inl rfl)) pgs_nil)))))
      (pss_cons (ps_expr (pe_bm PySem.F.plainAttrs_list PySem.F.slot_list_append PySem.F.type_list_append mt_append (pv 1) (pa_cons (pe_tup (pa_cons (pv 4) (pa_cons (pv 5) (pa_cons (pv 3) pa_nil)))) pa_nil)))
      (pss_cons (ps_if (pt_cmpR op_eq (pv 4) pe_str (nomark _)) (pss_one (ps_expr (pe_call G_note_paren (hr.mono (by decide)) rfl g_note_paren k_note_paren b_note_paren .nil pass0 (pa_cons (pv 2) (pa_cons (pv 5) pa_nil))))) pss_nil)
      (pss_one (ps_set (i := 3) sc_parted.nd rfl (Or.inl rfl) (pe_call G_past_gap (hr.mono (by decide)) rfl g_past_gap k_past_gap b_past_gap .nil (passes_call (takes_of rfl rfl rfl rfl) (fun _ _ _ _ h => h)) (pa_cons (pv 0) (pa_cons (pv 6) pa_nil)))))))))
      (pss_one (ps_ret (pv 1))))))), ?_⟩)
  · obtain ⟨v, rfl, _⟩ := h
    rfl
  · obtain ⟨z, rfl, hsrc, hok, herr⟩ := h
    have hz : Src z := hsrc
    have hs := sz_src hz
    have hl := hz.len
    refine ⟨(by show 0 ≤ sizeLine; exact Nat.zero_le _), fun aw nw => ⟨(by show 0 ≤ sizeLine; exact Nat.zero_le _), fun ap np => ?_⟩⟩
    have ne : aw ≠ ap := fun e => by rw [← e, upd_same] at np; cases np
    have np0 : H ap = none := by rw [upd_ne (Ne.symm ne)] at np; exact np
    have W0 : Wk K H (upd (upd H aw (.lst [])) ap (.lst [])) aw ap [] [] :=
      ⟨(same_upd nw).trans (same_upd np), nw, np0, ne, ⟨[], fun _ => none, by rw [upd_ne ne, upd_same], .nil, fun a o z => by cases z⟩, upd_same⟩
    generalize upd (upd H aw (.lst [])) ap (.lst []) = H2 at W0 ⊢
    have hw0 : Tok.words (codesOf z) = _ := toks_aft (codesOf z).length (codesOf z) 0 [] none
    have stopE : ∀ (n : Nat) (H5 : Hp), Tok.words (codesOf z) = .error n → Same H H5 → Bad C H5 E (n : Int) := fun n H5 e s d H' s' h => herr n e d H' (s.trans s') h
    refine ⟨_, rfl, z, 0, rfl, hz, Nat.zero_le _, ?_⟩
    rw [List.drop_zero]
    cases hg : gp (codesOf z) with
    | error n =>
      rw [hg] at hw0
      exact stopE (0 + n) H2 hw0 W0.old
    | ok n =>
      rw [hg] at hw0
      have hw0 : Tok.words (codesOf z) = aft (codesOf z).length ((codesOf z).drop n) (0 + n) [] none := hw0
      rw [Nat.zero_add] at hw0
      have hn := Tok.gap_le _ _ _ hg
      show tWhile _ _ _ [some (.str z), some (.ref aw), some (.ref ap), some (.int ((0 + n : Nat) : Int)), none, none, none] H2
      rw [Nat.zero_add]
      refine while_by (fun σ H' => ∃ (e : Nat) (ws : List Tok.W) (par : List Bool) (f : Nat) (x y u : Option V), σ = [some (.str z), some (.ref aw), some (.ref ap), some (.int (e : Int)), x, y, u] ∧ Wk K H H' aw ap ws par ∧ e ≤ (codesOf z).length ∧ ws.length ≤ e ∧ par.length ≤ e ∧ ((codesOf z).drop e).length ≤ f ∧
          Tok.words (codesOf z) = (match aft f ((codesOf z).drop e) e par (lastOf ws) with | .ok r => .ok (ws ++ r) | .error q => .error q))
        (fun σ _ => match σ with | [_, _, _, some (.int e), _, _, _] => (codesOf z).length - e.toNat | _ => 0)
        ⟨n, [], [], (codesOf z).length, none, none, none, rfl, W0, hn, Nat.zero_le _, Nat.zero_le _, by rw [List.length_drop]; omega, by rw [hw0, show lastOf [] = none from rfl]; cases aft (codesOf z).length ((codesOf z).drop n) n [] none <;> rfl⟩ ?_ ?_
      · rintro _ H3 ⟨e, ws, par, f, x, y, u, rfl, W, he, hwl, hpl, hf, hw⟩
        refine ⟨_, rfl, _, rfl, z, rfl, hs, _, _, rfl, rfl, _, rfl, ?_⟩
        refine ite2 (fun c => ?_) (fun c => ?_)
        · have c : (e : Int) < (z.length : Int) := of_decide_eq_true c
          rw [len_codes] at c
          have hlt : e < (codesOf z).length := by omega
          have hld : ((codesOf z).drop e).length = (codesOf z).length - e := List.length_drop
          have hnil : (codesOf z).drop e ≠ [] := fun h => by rw [h, List.length_nil] at hld; omega
          obtain ⟨xs, D, hx, hD, hD2⟩ := W.at_
          have hDH : DpAll K H3 xs (ws.map dW) := dp_monoAll (fun a o z => (hD2 a o z).1) _ _ hD
          have hxl : xs.length = ws.length := by rw [dpAll_length hD, List.length_map]
          refine ⟨_, rfl, _, rfl, _, rfl, _, rfl, aw, ap, xs, ws, par, rfl, hx, hDH, W.par, by omega, fun H4 s4 => ?_⟩
          refine ⟨z, e, _, rfl, hz, hlt, ?_⟩
          have ha : aft f ((codesOf z).drop e) e par (lastOf ws) = _ := if_neg hnil
          cases hwd : Tok.word (Tok.binds par (lastOf ws)) ((codesOf z).drop e) with
          | none =>
            rw [hwd] at ha
            rw [ha] at hw
            exact stopE e H4 hw (W.old.trans s4)
          | some w0 =>
            obtain ⟨k, v, m⟩ := w0
            rw [hwd] at ha
            have ha : aft f ((codesOf z).drop e) e par (lastOf ws) = (match Tok.toks f (((codesOf z).drop e).drop m) (e + m) (Tok.note par k v) (some (k, v)) with | .ok ws => .ok ((k, v, e) :: ws) | .error q => .error q) := ha
            rw [List.drop_drop] at ha
            obtain ⟨wl, wsg⟩ := word_le hwd
            have wp := Tok.word_pos hwd
            intro r H5 s5 n5 h5
            have W5 := W.later (s4.trans s5)
            refine ⟨_, _, rfl, SqT.of h5, rfl, _, _, rfl, _, _, rfl, _, _, rfl, rfl, ?_⟩
            have hx5 : H5 aw = some (.lst xs) := (s4.trans s5) _ _ hx
            refine ⟨_, rfl, .inl ⟨rfl, _, SqL.of hx5⟩, _, rfl, _, rfl, _, rfl, (by show 3 ≤ sizeLine; decide), fun q nq => ?_⟩
            have W6 := W5.more (w := (k, v, e)) hx5 nq _ rfl
            have qa : aw ≠ q := fun e => by rw [← e, hx5] at nq; cases nq
            refine ⟨aw, xs, .ref q, rfl, rfl, by rw [upd_ne qa]; exact hx5, by rw [sizeLine_eq]; omega, ?_⟩
            have fin : ∀ H7, Wk K H H7 aw ap (ws ++ [(k, v, e)]) (Tok.note par k v) →
                (tAsg (tCall (spGap C) [] E (tCons (tVar 0) (tCons (tVar 6) tNil))) (gName 3))
                  { nx := fun σ' H' => (∃ (e : Nat) (ws : List Tok.W) (par : List Bool) (f : Nat) (x y u : Option V), σ' = [some (.str z), some (.ref aw), some (.ref ap), some (.int (e : Int)), x, y, u] ∧ Wk K H H' aw ap ws par ∧ e ≤ (codesOf z).length ∧ ws.length ≤ e ∧ par.length ≤ e ∧ ((codesOf z).drop e).length ≤ f ∧
                      Tok.words (codesOf z) = (match aft f ((codesOf z).drop e) e par (lastOf ws) with | .ok r => .ok (ws ++ r) | .error q => .error q)) ∧
                      (match σ' with | [_, _, _, some (.int e), _, _, _] => (codesOf z).length - e.toNat | _ => 0) < (codesOf z).length - (e : Int).toNat, rt := Q }
                  [some (.str z), some (.ref aw), some (.ref ap), some (.int (e : Int)), some (.str (kdS k)), some (vVal v), some (.int ((e + m : Nat) : Int))] H7 := by
              intro H7 W7
              refine ⟨_, rfl, _, rfl, z, e + m, rfl, hz, by omega, ?_⟩
              obtain ⟨f', rfl⟩ : ∃ f', f = f' + 1 := ⟨f - 1, by omega⟩
              rw [toks_aft] at ha
              cases hg2 : gp ((codesOf z).drop (e + m)) with
              | error n2 =>
                rw [hg2] at ha
                have ha : aft (f' + 1) ((codesOf z).drop e) e par (lastOf ws) = .error (e + m + n2) := ha
                rw [ha] at hw
                exact stopE (e + m + n2) H7 hw W7.old
              | ok n2 =>
                rw [hg2] at ha
                have hn2 := Tok.gap_le _ _ _ hg2
                rw [List.length_drop] at hn2
                have ha : aft (f' + 1) ((codesOf z).drop e) e par (lastOf ws) = (match aft f' (((codesOf z).drop (e + m)).drop n2) (e + m + n2) (Tok.note par k v) (some (k, v)) with | .ok ws => .ok ((k, v, e) :: ws) | .error q => .error q) := ha
                rw [List.drop_drop] at ha
                have hlast : lastOf (ws ++ [(k, v, e)]) = some (k, v) := by
                  unfold lastOf
                  rw [List.getLast?_append]
                  rfl
                have hpn : (Tok.note par k v).length ≤ par.length + 1 := by
                  unfold Tok.note
                  split
                  · rw [List.length_append]; exact Nat.le_refl _
                  · split
                    · rw [List.length_append]; exact Nat.le_refl _
                    · split
                      · rw [List.length_dropLast]; omega
                      · omega
                refine ⟨⟨e + m + n2, ws ++ [(k, v, e)], Tok.note par k v, f', _, _, _, rfl, W7, by omega, by rw [List.length_append]; show ws.length + 1 ≤ _; omega, by omega, by rw [List.length_drop]; omega, ?_⟩, ?_⟩
                · rw [hw, ha, hlast]
                  cases aft f' ((codesOf z).drop (e + m + n2)) (e + m + n2) (Tok.note par k v) (some (k, v)) with
                  | error q => rfl
                  | ok r =>
                    show Except.ok (ws ++ (k, v, e) :: r) = Except.ok (ws ++ [(k, v, e)] ++ r)
                    rw [List.append_assoc]
                    rfl
                · show (codesOf z).length - ((e + m + n2 : Nat) : Int).toNat < (codesOf z).length - (e : Int).toNat
                  omega
            refine ⟨_, rfl, rfl, _, rfl, ?_⟩
            have ksign : decide (V.str (kdS k) = V.str (Str.ofString "sign")) = decide (k = .sign) := by cases k <;> decide +kernel
            refine ite2 (fun y => ?_) (fun y => ?_)
            · have y : k = .sign := of_decide_eq_true (ksign.symm.trans y)
              obtain ⟨t', rfl⟩ := wsg y
              subst y
              refine ⟨_, rfl, _, rfl, ap, par, t', rfl, W6.par, by omega, fun H7 h7 e7 => ?_⟩
              exact fin H7 (W6.note h7 e7)
            · have y : k ≠ .sign := fun c => y (ksign.trans (decide_eq_true c))
              have hnote : Tok.note par k v = par := by
                unfold Tok.note
                rw [if_neg (fun c => y c.1), if_neg (fun c => y c.1), if_neg (fun c => y c.1)]
              exact fin _ (by rw [hnote]; exact W6)
        · have c : ¬ ((e : Int) < (z.length : Int)) := fun h => c (decide_eq_true h)
          rw [len_codes] at c
          have hd : (codesOf z).drop e = [] := List.drop_eq_nil_of_le (by omega)
          rw [hd] at hw
          have hw : Tok.words (codesOf z) = .ok (ws ++ []) := hw
          rw [List.append_nil] at hw
          obtain ⟨xs, D, hx, hD, hD2⟩ := W.at_
          exact ⟨_, rfl, hok ws hw aw H3 ⟨W.old, W.newW, ⟨xs, D, hx, hD, fun a o z => ⟨(hD2 a o z).1, (hD2 a o z).2.1, (hD2 a o z).2.2.2⟩⟩⟩⟩
      · rintro σ H Q Q' hq ⟨a1, h1, a2, h2, a3, h3, h4, a4, a5, h5, h6, k, h7, h⟩
        exact ⟨a1, h1, a2, h2, a3, h3, h4, a4, a5, h5, h6, k, h7, hq _ _ h⟩
theorem sc_words_of : FnScope ["source", "words"] ["source"] (defScope s_words_of) := ⟨rfl, rfl, rfl, by decide +kernel, rfl, by decide +kernel, by decide +kernel⟩
theorem ok_words_of {f fQ fG fM fB fP fR fW d : Addr} {fd fdQ fdG fdM fdB fdP fdR fdW : FuncData} {f_set_apart f_put_string f_is_symbol f_put_keywords f_surely_binds f_put_other f_words_in f_without_strings : Addr} {fd_set_apart fd_put_string fd_is_symbol fd_put_keywords fd_surely_binds fd_put_other fd_words_in fd_without_strings : FuncData} (F : FnP K "words_of" s_words_of f fd) (M : Mods K mg fN fK fE fS fL fY fA fT fdN fdK fdE fdS fdL fdY fdA fdT) (T : PySem.SupX.SupTxt P K mg qual C fI) (gC : mg "BadSource" = some (.ref C))
    (FQ : FnP K "is_text" s_is_text fQ fdQ) (FG : FnP K "past_gap" s_past_gap fG fdG) (FM : FnP K "word_at" s_word_at fM fdM) (FB : FnP K "minus_binds" s_minus_binds fB fdB) (FP : FnP K "note_paren" s_note_paren fP fdP) (FR : FnP K "parted" s_parted fR fdR) (FW : FnP K "plain_words" s_plain_words fW fdW)
    (g_is_text : mg "is_text" = some (.ref fQ)) (g_past_gap : mg "past_gap" = some (.ref fG)) (g_word_at : mg "word_at" = some (.ref fM)) (g_minus_binds : mg "minus_binds" = some (.ref fB)) (g_note_paren : mg "note_paren" = some (.ref fP)) (g_parted : mg "parted" = some (.ref fR)) (g_plain_words : mg "plain_words" = some (.ref fW))
    (g_isinstance : mg "isinstance" = none) (g_str : mg "str" = none) (g_LS : ∃ t, mg "LONGEST_SOURCE" = some (.int 2000 t)) (M2 : Plain K w mg d f_set_apart f_put_string f_is_symbol f_put_keywords f_surely_binds f_put_other f_words_in f_without_strings fd_set_apart fd_put_string fd_is_symbol fd_put_keywords fd_surely_binds fd_put_other fd_words_in fd_without_strings) :
    FnOk P w K mg base (L2.CX P w) 20 f fd ["source"] (spWords K C) := by
  have g_len := M.g_len
  have G_is_text : FnOk P w K mg base CX0 2 fQ fdQ _ (spIsText K) := ok_is_text FQ g_isinstance g_str
  have G_parted : FnOk P w K mg base (L2.CX P w) 15 fR fdR _ (spParted K C) := ok_parted FR M T gC FG FM FB FP g_past_gap g_word_at g_minus_binds g_note_paren M2.g_VK
  have G_plain_words : FnOk P w K mg base CX0 5 fW fdW _ (spPlain K) := ok_plain_words FW M2
  have b_is_text : Binds K fdQ ["thing"] [] := FQ.bindsN fun _ _ _ _ _ _ us hl => match us, hl with | [_], _ => rfl
  have b_parted : Binds K fdR ["source"] [] := FR.bindsN fun _ _ _ _ _ _ us hl => match us, hl with | [_], _ => rfl
  have b_plain_words : Binds K fdW ["source"] [] := FW.bindsN fun _ _ _ _ _ _ us hl => match us, hl with | [_], _ => rfl
  have k_is_text := FQ.kp
  have k_parted := FR.kp
  have k_plain_words := FW.kp
  obtain ⟨t, g_LONGEST_SOURCE⟩ := g_LS
  have r_LONGEST_SOURCE : RelV (.int 2000) (.int 2000 t) := ⟨t, rfl⟩
  refine F.ok sc_words_of (fun vs H Q E h => ?_) (fun cdv A outer s H vs Q E hr h => ⟨_,
    (pss_cons (ps_if (PW.pt (pw_or (pt_not (pt_val (pe_call G_is_text (hr.mono (by decide)) rfl g_is_text k_is_text b_is_text .nil pass0 (pa_cons (pv 0) pa_nil)))) (pw_or1 (pt_cmpR op_gt (pe_callB call_len_str (by rfl) g_len PySem.boot_len (pa_cons (pv 0) pa_nil)) (pe_glob rfl g_LONGEST_SOURCE r_LONGEST_SOURCE) (nomark _))))) (pss_one (ps_raiseBad rfl T gC hr (takes_of rfl rfl rfl rfl) (pa_cons (pe_un un_neg pe_int) pa_nil))) pss_nil)
      (pss_cons (ps_set (i := 1) sc_words_of.nd rfl (Or.inl rfl) (pe_call G_plain_words (hr.mono (by decide)) rfl g_plain_words k_plain_words b_plain_words .nil pass0 (pa_cons (pv 0) pa_nil)))
      (pss_one (ps_ret (pe_ifExp (pt_cmpR op_isN (pv 1) pe_non (nomark _)) (pe_call G_parted (hr.mono (by decide)) rfl g_parted k_parted b_parted .nil (passes_call (takes_of rfl rfl rfl rfl) (fun _ _ _ _ h => h)) (pa_cons (pv 0) pa_nil)) (pv 1)))))), ?_⟩)
  · obtain ⟨v, rfl, _⟩ := h
    rfl
  · obtain ⟨v, rfl, h⟩ := h
    have bad : (∀ d H', Same H H' → H' d = some (.xd [("place", .int (-1))]) → E (.ref C) (some d) H') → ∀ D σ, (tRaiseBad C (fun cls d x H => E cls d H) (tCons (tUn (rU fun i => V.int (-i)) (tC (V.int 1))) tNil)) D σ H := fun k D σ =>
      ⟨_, rfl, _, rfl, by decide, fun d nd => k d _ (same_upd nd) upd_same⟩
    rcases h with ⟨z, rfl, hsrc, hnd, hok, herr⟩ | ⟨hn, hbad⟩
    · have hz : Src z := hsrc
      have hs := sz_src hz
      have hl := hz.len
      have hall : (codesOf z).all okSign = true := by
        have := hsrc
        unfold Tok.isSource at this
        rw [Bool.and_eq_true] at this
        exact this.1
      refine ⟨_, rfl, _, rfl, .inl ⟨z, rfl, by rw [len_codes]; omega, _, rfl, ?_⟩⟩
      rw [hall]
      refine ite2 (fun y => by cases y) fun _ => ?_
      refine ⟨_, rfl, z, rfl, hs, _, _, rfl, rfl, _, rfl, ?_⟩
      refine ite2 (fun y => absurd (of_decide_eq_true y) (by rw [len_codes]; omega)) fun _ => ?_
      refine ⟨_, rfl, z, rfl, hsrc, hnd, fun H' e => ?_, fun ws hw p H' R => ?_⟩
      · refine ⟨_, rfl, rfl, _, rfl, ?_⟩
        refine ite2 (fun _ => ?_) (fun y => absurd (decide_eq_true rfl) y)
        refine ⟨_, rfl, z, rfl, hsrc, fun ws hw p H2 R => hok ws hw p H2 ?_, fun n hw d H2 e2 hd => herr n hw d H2 (e.trans e2) hd⟩
        exact R.from e
      · refine ⟨_, rfl, rfl, _, rfl, ?_⟩
        refine ite2 (fun y => absurd (of_decide_eq_true y) (by intro z; cases z)) (fun _ => ?_)
        exact ⟨_, rfl, hok ws hw p H' R⟩
    · rcases hn with ⟨z, rfl, hns, hzl⟩ | ⟨_, t, ht, hk⟩
      · refine ⟨_, rfl, _, rfl, .inl ⟨z, rfl, hzl, _, rfl, ?_⟩⟩
        refine ite2 (fun _ => ?_) fun y => ?_
        · exact ite2 (fun _ => bad hbad _ _) (fun y => absurd rfl y)
        · have y : (codesOf z).all okSign = true := by
            cases h : (codesOf z).all okSign with
            | true => rfl
            | false => rw [h] at y; exact absurd rfl y
          have hlen : ¬ (codesOf z).length ≤ 2000 := fun c => by
            unfold Tok.isSource at hns
            rw [show (codesOf z).all (fun c => c == 10 || (32 ≤ c && c ≤ 126)) = true from y, decide_eq_true c] at hns
            cases hns
          refine ⟨_, rfl, z, rfl, hzl, _, _, rfl, rfl, _, rfl, ?_⟩
          refine ite2 (fun _ => bad hbad _ _) fun c => absurd (decide_eq_true (by rw [len_codes]; omega)) c
      · refine ⟨_, rfl, _, rfl, .inr ⟨⟨t, ht, hk⟩, _, rfl, ?_⟩⟩
        refine ite2 (fun _ => ite2 (fun _ => bad hbad _ _) (fun y => absurd rfl y)) fun y => absurd rfl y
end
end My

end
section
set_option Elab.async false
set_option linter.all false
set_option maxRecDepth 100000
set_option maxHeartbeats 0
namespace My
open PySem PySem.Spec PyProof.Rows PySem.HandSPX L2
theorem isStr_eq {a b : Str} {t : Tok} (h : (Value.str a t).isStr b = true) : a = b := by
  first | exact of_decide_eq_true h | exact eq_of_beq h | (unfold Value.isStr at h; simpa using h)
/-! ### BadSource's class object and its __init__ -/
def clsB (K : PySem.W.Frag) (C : Addr) : Bool := match K.lookup C with
  | some ⟨.type "type", _, .cls cd, sl⟩ => (match cd.mro, sl.toList with
    | .ref C' :: bm, [_, _, _, _, some (.builtin n), _] => C' == C && n == "ValueError.__new__" && !cd.hasDel && cd.hasDict && refsVE bm && decide (PySem.W.alongIn K "__init__" bm = some (some (.builtin "ValueError.__init__")))
    | _, _ => false)
  | _ => false
theorem clsB_ok {K : PySem.W.Frag} {C : Addr} (q : clsB K C = true) : ∃ nm q N bs bm sn sub ab col dd k0 k1 k2 k3 k5, K.lookup C = some (excClassObj nm q C N bs bm true sn sub ab col dd k0 k1 k2 k3 k5 "ValueError.__new__") ∧ refsVE bm = true ∧ PySem.W.alongIn K "__init__" bm = some (some (.builtin "ValueError.__init__")) := by
  unfold clsB at q
  split at q
  · rename_i dd cd sl ho
    split at q
    · rename_i C' bm k0 k1 k2 k3 n k5 hm hs
      simp only [Bool.and_eq_true, beq_iff_eq, Bool.not_eq_true', decide_eq_true_iff] at q
      obtain ⟨⟨⟨⟨⟨rfl, rfl⟩, hdel⟩, hdict⟩, hre⟩, hal⟩ := q
      obtain ⟨nm, bs, mro, ns, qn, hd, sn, sub, ab, col, del⟩ := cd
      dsimp only at hm hdel hdict
      subst hm hdel hdict
      have hsl : sl = #[k0, k1, k2, k3, some (.builtin "ValueError.__new__"), k5] := by
        obtain ⟨l⟩ := sl
        simp only at hs
        rw [hs]
      subst hsl
      exact ⟨nm, qn, ns, bs, bm, sn, sub, ab, col, dd, k0, k1, k2, k3, k5, ho, hre, hal⟩
    · cases q
  · cases q
abbrev IniV : Type := Option (Str × Str × Arguments × FuncBody × Scope × Addr × Value × Value × Addr)
def iniW (K : PySem.W.Frag) (fI : Addr) : IniV := match K.lookup fI with
  | some ⟨_, _, .func fd, _⟩ => some (fd.name, fd.qualname, fd.params, fd.body, fd.scope, fd.globals, fd.defaults, fd.kwdefaults, fd.builtins)
  | _ => none
def iniVal : IniV := some ("__init__", "BadSource.__init__", defArgs PySem.SupX.sInit, .stmts (defBody PySem.SupX.sInit), defScope PySem.SupX.sInit, mainGlobals, .none, .none, builtinsNs)
def iniB (K : PySem.W.Frag) (C fI : Addr) (file : Str) : Bool := match K.lookup fI with
  | some ⟨_, _, .func fd, _⟩ => (match fd.closure, fd.code with
    | [(x, cc)], .ref cda => decide (x = "__class__") && (match K.lookup cc with
        | some ⟨_, _, .cell (some (.ref D)), _⟩ => D == C
        | _ => false) && PySem.W.codeIn K (.ref cda) "BadSource.__init__" && (match K.lookup cda with
        | some ⟨_, _, .fields vs, _⟩ => (match (vs : Array Value)[2]? with
          | some (Value.str f _) => file == f
          | _ => false)
        | _ => false)
    | _, _ => false)
  | _ => false
theorem iniB_ok {K : PySem.W.Frag} {C fI : Addr} {file : Str} (h : iniB K C fI file = true) (e : iniW K fI = iniVal) :
    ∃ (oc doc pm ct : Value) (od an : Option Addr) (osl : Array (Option Value)) (cda cc : Addr) (ccl cl : Value) (cdd cld : Option Addr) (ccs csl : Array (Option Value)) (vs : Array Value) (f2 : Str) (tf : Tok),
    K.lookup fI = some ⟨oc, od, .func (PySem.W.ksFn "__init__" "BadSource.__init__" (defArgs PySem.SupX.sInit) (defBody PySem.SupX.sInit) (defScope PySem.SupX.sInit) .none .none doc pm an (.ref cda) ct cc), osl⟩ ∧ PySem.W.codeIn K (.ref cda) "BadSource.__init__" = true ∧
    K.lookup cda = some ⟨ccl, cdd, .fields vs, ccs⟩ ∧ vs[2]? = some (.str f2 tf) ∧ (file == f2) = true ∧ K.lookup cc = some ⟨cl, cld, .cell (some (.ref C)), csl⟩ := by
  unfold iniB at h
  unfold iniW iniVal at e
  split at h
  · rename_i oc od fd osl ho
    rw [ho] at e
    have e := Option.some.inj e
    split at h
    · rename_i x cc cda hcl hcd
      simp only [Bool.and_eq_true, decide_eq_true_iff] at h
      obtain ⟨⟨⟨rfl, h2⟩, h3⟩, h4⟩ := h
      split at h2
      · rename_i cl cld D csl hcc
        have hD : D = C := beq_iff_eq.mp h2
        subst hD
        split at h4
        · rename_i ccl cdd vs ccs hca
          split at h4
          · rename_i f2 tf hv
            obtain ⟨nm, qn, pr, bd, sc, gl, clo, df, kd, dc, pmo, ano, cod, clt, blt⟩ := fd
            simp only [Prod.mk.injEq] at e
            dsimp only at hcl hcd
            obtain ⟨rfl, rfl, rfl, rfl, rfl, rfl, rfl, rfl, rfl⟩ := e
            subst hcl hcd
            exact ⟨oc, dc, pmo, clt, od, ano, osl, cda, cc, ccl, cl, cdd, cld, ccs, csl, vs, f2, tf, ho, h3, hca, hv, h4, hcc⟩
          · cases h4
        · cases h4
      · cases h2
    · cases h
  · cases h
/-! ### the table FIXED -/
def fixE (e : DictEntry) : Bool := match e.key, e.val with
  | .str z _, .str v _ => Tok.fixed.any fun x => decide (codesOf z = x.1) && decide (v = kdS x.2)
  | _, _ => false
def fixB (K : PySem.W.Frag) (d : Addr) : Bool := match K.lookup d with
  | some ⟨_, _, .dict es _, _⟩ => es.toList.all fixE
  | _ => false
theorem fix_ok {K : PySem.W.Frag} {w : World} {d : Addr} {ks : List Str} (h : He.dicW K d = some (He.keysIn w.params ks)) (b : fixB K d = true) : FixAt K w d := by
  obtain ⟨es, n, D⟩ := He.dicW_ok (w := w) h
  refine ⟨es, n, D, fun z => ?_⟩
  unfold fixB at b
  rw [D.at_] at b
  have b : es.toList.all fixE = true := b
  unfold PySem.W.nsIn
  rw [D.at_]
  show ∃ r, (match es.toList.find? (·.key.isStr z) with | some e => some (some e.val) | none => if es.toList.any (·.refKey) then none else some none) = some r ∧ _
  cases hf : es.toList.find? (·.key.isStr z) with
  | some e =>
    refine ⟨_, rfl, fun u hu => ?_⟩
    injection hu with hu
    subst hu
    have hg := List.all_eq_true.mp b e (List.mem_of_find?_eq_some hf)
    have hk := List.find?_some hf
    unfold fixE at hg
    split at hg
    · rename_i z2 t1 v t2 e1 e2
      obtain ⟨x, hx, hx2⟩ := List.any_eq_true.mp hg
      rw [Bool.and_eq_true] at hx2
      have h1 := of_decide_eq_true hx2.1
      have h2 := of_decide_eq_true hx2.2
      have hz : z2 = z := by
        have hk : e.key.isStr z = true := hk
        rw [e1] at hk
        exact isStr_eq hk
      subst hz
      refine ⟨x.2, t2, by rw [e2, h2], ?_⟩
      rw [h1]
      exact hx
    · cases hg
  | none =>
    have hr : es.toList.any (·.refKey) = false := by
      rw [List.any_eq_false]
      intro e he
      have hg := List.all_eq_true.mp b e he
      unfold fixE at hg
      split at hg
      · rename_i z2 t1 v t2 e1 e2
        unfold DictEntry.refKey
        rw [e1]
        simp
      · cases hg
    refine ⟨none, ?_, fun u hu => by cases hu⟩
    show (if es.toList.any (·.refKey) = true then none else some none) = _
    rw [hr]
    rfl
end My

end
section
set_option Elab.async false
set_option linter.all false
set_option maxRecDepth 100000
set_option maxHeartbeats 0
namespace My
open PySem PySem.Spec PyProof.Rows PySem.HandSPX L2
/-! ### what the top leaves -/
def dd_ (x : Str) (st : Stmt) : He.DefD := ⟨(x, none), x, x, defArgs st, defBody st, defScope st, [], []⟩
def df0 : He.DefD := ⟨("words_of", none), "words_of", "words_of", defArgs s_words_of, defBody s_words_of, defScope s_words_of, [], []⟩
def df1 : He.DefD := ⟨("is_text", none), "is_text", "is_text", defArgs s_is_text, defBody s_is_text, defScope s_is_text, [], []⟩
def df2 : He.DefD := ⟨("past_gap", none), "past_gap", "past_gap", defArgs s_past_gap, defBody s_past_gap, defScope s_past_gap, [], []⟩
def df3 : He.DefD := ⟨("minus_binds", none), "minus_binds", "minus_binds", defArgs s_minus_binds, defBody s_minus_binds, defScope s_minus_binds, [], []⟩
def df4 : He.DefD := ⟨("note_paren", none), "note_paren", "note_paren", defArgs s_note_paren, defBody s_note_paren, defScope s_note_paren, [], []⟩
def df5 : He.DefD := ⟨("word_at", none), "word_at", "word_at", defArgs s_word_at, defBody s_word_at, defScope s_word_at, [], []⟩
def df6 : He.DefD := ⟨("name_end", none), "name_end", "name_end", defArgs s_name_end, defBody s_name_end, defScope s_name_end, [], []⟩
def df7 : He.DefD := ⟨("keyword_end", none), "keyword_end", "keyword_end", defArgs s_keyword_end, defBody s_keyword_end, defScope s_keyword_end, [], []⟩
def df8 : He.DefD := ⟨("name_at", none), "name_at", "name_at", defArgs s_name_at, defBody s_name_at, defScope s_name_at, [], []⟩
def df9 : He.DefD := ⟨("integer_at", none), "integer_at", "integer_at", defArgs s_integer_at, defBody s_integer_at, defScope s_integer_at, [], []⟩
def df10 : He.DefD := ⟨("string_end", none), "string_end", "string_end", defArgs s_string_end, defBody s_string_end, defScope s_string_end, [], []⟩
def df11 : He.DefD := ⟨("string_at", none), "string_at", "string_at", defArgs s_string_at, defBody s_string_at, defScope s_string_at, [], []⟩
def df12 : He.DefD := ⟨("symbol_at", none), "symbol_at", "symbol_at", defArgs s_symbol_at, defBody s_symbol_at, defScope s_symbol_at, [], []⟩
def df13 : He.DefD := ⟨("listed_at", none), "listed_at", "listed_at", defArgs s_listed_at, defBody s_listed_at, defScope s_listed_at, [], []⟩
def df14 : He.DefD := ⟨("_law_bag", none), "_law_bag", "_law_bag", defArgs s_law_bag, defBody s_law_bag, defScope s_law_bag, [], []⟩
def df15 : He.DefD := ⟨("_law_take", none), "_law_take", "_law_take", defArgs s_law_take, defBody s_law_take, defScope s_law_take, [], []⟩
def df16 : He.DefD := ⟨("_law_pick", none), "_law_pick", "_law_pick", defArgs s_law_pick, defBody s_law_pick, defScope s_law_pick, [], []⟩
def df17 : He.DefD := ⟨("_law_name", none), "_law_name", "_law_name", defArgs My1.s_law_name, defBody My1.s_law_name, defScope My1.s_law_name, [], []⟩
def df18 : He.DefD := ⟨("_law_text", none), "_law_text", "_law_text", defArgs My1.s_law_text, defBody My1.s_law_text, defScope My1.s_law_text, [], []⟩
def df19 : He.DefD := ⟨("_law_string", none), "_law_string", "_law_string", defArgs My1.s_law_string, defBody My1.s_law_string, defScope My1.s_law_string, [], []⟩
def df20 : He.DefD := ⟨("_law_operator", none), "_law_operator", "_law_operator", defArgs My1.s_law_operator, defBody My1.s_law_operator, defScope My1.s_law_operator, [], []⟩
def df21 : He.DefD := ⟨("_law_integer", none), "_law_integer", "_law_integer", defArgs My1.s_law_integer, defBody My1.s_law_integer, defScope My1.s_law_integer, [], []⟩
def df22 : He.DefD := ⟨("_law_symbol", none), "_law_symbol", "_law_symbol", defArgs My1.s_law_symbol, defBody My1.s_law_symbol, defScope My1.s_law_symbol, [], []⟩
def df23 : He.DefD := ⟨("_law_one", none), "_law_one", "_law_one", defArgs My1.s_law_one, defBody My1.s_law_one, defScope My1.s_law_one, [], []⟩
def df24 : He.DefD := ⟨("_law_parts", none), "_law_parts", "_law_parts", defArgs My1.s_law_parts, defBody My1.s_law_parts, defScope My1.s_law_parts, [], []⟩
def df25 : He.DefD := ⟨("_law_opened", none), "_law_opened", "_law_opened", defArgs My1.s_law_opened, defBody My1.s_law_opened, defScope My1.s_law_opened, [], []⟩
def df26 : He.DefD := ⟨("_law_negative", none), "_law_negative", "_law_negative", defArgs My1.s_law_negative, defBody My1.s_law_negative, defScope My1.s_law_negative, [], []⟩
def df27 : He.DefD := ⟨("_law_gap", none), "_law_gap", "_law_gap", defArgs My1.s_law_gap, defBody My1.s_law_gap, defScope My1.s_law_gap, [], []⟩
def df28 : He.DefD := ⟨("_law_bad", none), "_law_bad", "_law_bad", defArgs My1.s_law_bad, defBody My1.s_law_bad, defScope My1.s_law_bad, [], []⟩
def df29 : He.DefD := ⟨("_law_told", none), "_law_told", "_law_told", defArgs s_law_told, defBody s_law_told, defScope s_law_told, [], []⟩
def df30 : He.DefD := ⟨("_law_same", none), "_law_same", "_law_same", defArgs My1.s_law_same, defBody My1.s_law_same, defScope My1.s_law_same, [], []⟩
def df31 : He.DefD := ⟨("_law_right", none), "_law_right", "_law_right", defArgs My1.s_law_right, defBody My1.s_law_right, defScope My1.s_law_right, [], []⟩
def df32 : He.DefD := ⟨("law", none), "law", "law", defArgs My1.s_law, defBody My1.s_law, defScope My1.s_law, [], []⟩
def df33 : He.DefD := ⟨("parted", none), "parted", "parted", defArgs s_parted, defBody s_parted, defScope s_parted, [], []⟩
def df34 : He.DefD := ⟨("plain_words", none), "plain_words", "plain_words", defArgs s_plain_words, defBody s_plain_words, defScope s_plain_words, [], []⟩
def df35 : He.DefD := ⟨("without_strings", none), "without_strings", "without_strings", defArgs s_without_strings, defBody s_without_strings, defScope s_without_strings, [], []⟩
def df36 : He.DefD := ⟨("words_in", none), "words_in", "words_in", defArgs s_words_in, defBody s_words_in, defScope s_words_in, [], []⟩
def df37 : He.DefD := ⟨("put_other", none), "put_other", "put_other", defArgs s_put_other, defBody s_put_other, defScope s_put_other, [], []⟩
def df38 : He.DefD := ⟨("put_keywords", none), "put_keywords", "put_keywords", defArgs s_put_keywords, defBody s_put_keywords, defScope s_put_keywords, [], []⟩
def df39 : He.DefD := ⟨("put_string", none), "put_string", "put_string", defArgs s_put_string, defBody s_put_string, defScope s_put_string, [], []⟩
def df40 : He.DefD := ⟨("is_symbol", none), "is_symbol", "is_symbol", defArgs s_is_symbol, defBody s_is_symbol, defScope s_is_symbol, [], []⟩
def df41 : He.DefD := ⟨("surely_binds", none), "surely_binds", "surely_binds", defArgs s_surely_binds, defBody s_surely_binds, defScope s_surely_binds, [], []⟩
def df42 : He.DefD := ⟨("set_apart", none), "set_apart", "set_apart", defArgs s_set_apart, defBody s_set_apart, defScope s_set_apart, [], []⟩
def fnL : List He.DefD := [df0, df1, df2, df3, df4, df5, df6, df7, df8, df9, df10, df11, df12, df13, df14, df15, df16, df17, df18, df19, df20, df21, df22, df23, df24, df25, df26, df27, df28, df29, df30, df31, df32, df33, df34, df35, df36, df37, df38, df39, df40, df41, df42]
def faL : List He.Fa := ([.glo "words_of", .glo "is_text", .glo "past_gap", .glo "minus_binds", .glo "note_paren", .glo "word_at", .glo "name_end", .glo "keyword_end", .glo "name_at", .glo "integer_at", .glo "string_end", .glo "string_at"] : List He.Fa) ++ ([.glo "symbol_at", .glo "listed_at", .glo "_law_bag", .glo "_law_take", .glo "_law_pick", .glo "_law_name", .glo "_law_text", .glo "_law_string", .glo "_law_operator", .glo "_law_integer", .glo "_law_symbol", .glo "_law_one"] : List He.Fa) ++ ([.glo "_law_parts", .glo "_law_opened", .glo "_law_negative", .glo "_law_gap", .glo "_law_bad", .glo "_law_told", .glo "_law_same", .glo "_law_right", .glo "law", .glo "parted", .glo "plain_words", .glo "without_strings"] : List He.Fa) ++ ([.glo "words_in", .glo "put_other", .glo "put_keywords", .glo "put_string", .glo "is_symbol", .glo "surely_binds", .glo "set_apart", .glo "BadSource", .free "len", .free "int", .free "isinstance", .free "str"] : List He.Fa) ++ ([.free "sum", .free "max", .free "all", .free "tuple", .free "min", .free "range", .free "super", .free "zip", .free "list", .free "bool", .int "LONGEST_NAME" 40, .int "MOST_DIGITS" 60] : List He.Fa) ++ ([.int "LONGEST_SOURCE" 2000, .glo "OPERATORS", .glo "SIGNS", .glo "VALUE_KINDS", .glo "FIXED", .str "ARRAY" "@", .str "STRING" "{", .str "SYMBOL" "}"] : List He.Fa)
abbrev P0 : Program := (PySem.Challenge.rw_imagetalk_k01_words_put_together).prog
def dvs (ws : List (List Nat)) : List He.Dv := ws.map fun x => .str (strOf x)
def supAll (K : PySem.W.Frag) : Bool :=
  clsB K (He.ga K "BadSource") && (iniB K (He.ga K "BadSource") (He.ma K (He.ga K "BadSource") "__init__") P0.main.file &&
  (He.eqO (PySem.W.findIn K (.ref (He.ga K "BadSource")) "__setattr__") (some (some (.builtin "object.__setattr__"))) &&
  (He.eqO (PySem.W.findIn K (.ref (He.ga K "BadSource")) "place") (some none) &&
  (He.eqO (PySem.W.findIn K (.ref (He.ga K "BadSource")) "__init__") (some (some (.ref (He.ma K (He.ga K "BadSource") "__init__")))) &&
  (decide (PySem.W.typeIn K (.ref (He.ma K (He.ga K "BadSource") "__init__")) = some (.type "function")) &&
  (He.eqO (PySem.W.nsIn K cStatics "thirdparty.any") (some none) &&
  (decide (PySem.W.subIn K (.ref (He.ga K "BadSource")) (.type "ValueError") = some true) &&
  (decide (PySem.W.mroIn K (He.ga K "BadSource") (.ref (He.ga K "BadSource")) = some true) &&
  (PySem.W.keepIn K (.ref (He.ga K "BadSource")) &&
  (decide (PySem.W.subIn K (.ref (He.ga K "BadSource")) (.type "BaseException") = some true) &&
  (decide (PySem.W.typeIn K (.ref (He.ga K "BadSource")) = some (.type "type")) &&
  (xfB K (He.ga K "BadSource") &&
  (decide (PySem.W.exmOne K (.ref (He.ga K "BadSource")) (.ref (He.ga K "BadSource")) = some true) &&
  (He.tupB K "OPERATORS" (dvs Tok.ops) && (He.tupB K "SIGNS" (dvs Tok.signs) && He.tupB K "VALUE_KINDS" (dvs vkinds))))))))))))))))
def fixKs : List Str := [":=", "(", ")", "[", "]", ":", "|", "^", ".", ";", "+", "-", "*", "//", "\\\\", "<", ">", "<=", ">=", "=", "==", "~=", "~~", ","]
abbrev HV : Type := He.AlD × Bool × IniV × Option (List (Option (Str × Int)))
def obsS (K : PySem.W.Frag) : HV := (He.obsD faL fnL K, supAll K && fixB K (He.ga K "FIXED"), iniW K (He.ma K (He.ga K "BadSource") "__init__"), He.dicW K (He.ga K "FIXED"))
def valS (w : World) : HV := (He.valD fnL, true, iniVal, some (He.keysIn w.params fixKs))
def obsG (g : Addr → Option Obj) : HV := obsS (He.frG g (cStatics :: He.asD g 4))
abbrev hk : PySem.W.Hook where
  α := HV
  obs := fun s => obsG s.heap.get?
  val := fun w => valS w
  says := fun w h => ∃ K : PySem.W.Frag, K.In h ∧ obsS K = valS w
  of := fun _ _ e => ⟨_, He.frG_in, e⟩
  keeps := fun _ _ _ ⟨K, hK, c⟩ k => ⟨K, PySem.W.Frag.In.keeps hK k, c⟩
def ob (s : PySem.W.SharedT) : HV := obsG (HandSHeadRun.getT s)
theorem ob_eq (s : PySem.W.SharedT) : ob s = hk.obs s.abs := by
  have e : HandSHeadRun.getT s = s.abs.heap.get? := funext (HandSHeadRun.getT_eq s)
  unfold ob
  rw [e]
abbrev R : PySem.W.OpenRow := PySem.W.OpenLaw.row PySem.Challenge.rw_imagetalk_k01_words_put_together
def loose : List Str := (["TalkError", "BadSource", "LONGEST_NAME", "OPERATORS", "is_text", "MOST_DIGITS", "VALUE_KINDS", "FIXED", "ARRAY", "STRING", "SYMBOL", "plain_words"] : List Str) ++ (["without_strings", "set_apart", "words_in", "put_other", "put_keywords", "put_string", "is_symbol", "surely_binds", "LONGEST_SOURCE", "SIGNS", "words_of", "parted"] : List Str) ++ (["past_gap", "minus_binds", "note_paren", "word_at", "name_end", "keyword_end", "name_at", "integer_at", "string_end", "string_at", "symbol_at", "listed_at"] : List Str) ++ (["_law_bag", "_law_take", "_law_pick", "_law_name", "_law_text", "_law_string", "_law_operator", "_law_integer", "_law_symbol", "_law_one", "_law_parts", "_law_opened"] : List Str) ++ (["_law_negative", "_law_gap", "_law_bad", "_law_told", "_law_same", "_law_right"] : List Str)
end My

end
section
set_option Elab.async false
set_option linter.all false
set_option maxRecDepth 100000
set_option maxHeartbeats 0
namespace My
open PySem PySem.Spec PyProof.Rows PySem.HandSPX L2
theorem run0 (w : World) : HandSHeadRun.RunEq R (PySem.W.view R.prog [59]) hk ob 20000 loose (w.withFollow "special-get-raises" false) := by
  intro os
  kernel_rfl
theorem run1 (w : World) : HandSHeadRun.RunEq R (PySem.W.view R.prog [59]) hk ob 20000 loose (w.withFollow "special-get-raises" true) := by
  intro os
  kernel_rfl
theorem run (w : World) : HandSHeadRun.RunEq R (PySem.W.view R.prog [59]) hk ob 20000 loose w := by
  refine PySem.W.byRow2 "special-get-raises" (P := fun w => HandSHeadRun.RunEq R (PySem.W.view R.prog [59]) hk ob 20000 loose w) (fun w => ?_) (fun w => ?_) w
  · exact run0 w
  · exact run1 w
end My

end
section
set_option Elab.async false
set_option linter.all false
set_option maxRecDepth 100000
set_option maxHeartbeats 0
namespace My
open PySem PySem.Spec PyProof.Rows PySem.HandSPX L2
theorem sup_all {K : PySem.W.Frag} {mg : Str → Option Value} (c2 : supAll K = true) (c3 : iniW K (He.ma K (He.ga K "BadSource") "__init__") = iniVal) (gC : mg "BadSource" = some (.ref (He.ga K "BadSource"))) (g_super : mg "super" = none) :
    PySem.SupX.SupTxt P0 K mg "BadSource.__init__" (He.ga K "BadSource") (He.ma K (He.ga K "BadSource") "__init__") ∧ ExcTxt K mg (He.ga K "BadSource") ∧ He.tupB K "OPERATORS" (dvs Tok.ops) = true ∧ He.tupB K "SIGNS" (dvs Tok.signs) = true ∧ He.tupB K "VALUE_KINDS" (dvs vkinds) = true := by
  unfold supAll at c2
  obtain ⟨s1, c2⟩ := He.ba c2
  obtain ⟨s2, c2⟩ := He.ba c2
  obtain ⟨s3, c2⟩ := He.ba c2
  obtain ⟨s4, c2⟩ := He.ba c2
  obtain ⟨s5, c2⟩ := He.ba c2
  obtain ⟨s6, c2⟩ := He.ba c2
  obtain ⟨s7, c2⟩ := He.ba c2
  obtain ⟨s8, c2⟩ := He.ba c2
  obtain ⟨s9, c2⟩ := He.ba c2
  obtain ⟨s10, c2⟩ := He.ba c2
  obtain ⟨s11, c2⟩ := He.ba c2
  obtain ⟨s12, c2⟩ := He.ba c2
  obtain ⟨s13, c2⟩ := He.ba c2
  obtain ⟨s14, c2⟩ := He.ba c2
  obtain ⟨s15, c2⟩ := He.ba c2
  obtain ⟨s16, s17⟩ := He.ba c2
  have T : PySem.SupX.SupTxt P0 K mg "BadSource.__init__" (He.ga K "BadSource") (He.ma K (He.ga K "BadSource") "__init__") :=
    { kC := s10, exC := of_decide_eq_true s11, tyC := of_decide_eq_true s12, cls := clsB_ok s1, sa := He.eqO_ok s3, noN := He.eqO_ok s4, iC := He.eqO_ok s5, tC := of_decide_eq_true s6, noS := g_super, tp := He.eqO_ok s7, subVE := of_decide_eq_true s8, mroC := of_decide_eq_true s9, top := by kernel_rfl, fn := iniB_ok s2 c3 }
  have ET : ExcTxt K mg (He.ga K "BadSource") := ⟨gC, xfB_ok s13, He.eqO_ok s4, of_decide_eq_true s14⟩
  exact ⟨T, ET, s15, s16, s17⟩
theorem facts {w : World} {K : PySem.W.Frag} {h : Heap} {mg : Str → Option Value} {f : Addr} (X : K.In h) (G : h.Ns mainGlobals mg) (hfa : mg ("law" : Str) = some (.ref f)) (c : obsS K = valS w) :
    ∃ fd : FuncData, (∀ (s : Shared) (v : Value), BindsTo s fd ⟨[v], []⟩ [("_law_script", v)]) ∧ ∀ base : Heap, K.In base → base.Ns mainGlobals mg → FnOk P0 w K mg base CX0 40 f fd ["_law_script"] (My1.spLaw K) := by
  have c1 : He.SaysD faL fnL K := congrArg (fun z : HV => z.1) c
  have c2' : (supAll K && fixB K (He.ga K "FIXED")) = true := congrArg (fun z : HV => z.2.1) c
  obtain ⟨c2, cfix⟩ := He.ba c2'
  have c3 : iniW K (He.ma K (He.ga K "BadSource") "__init__") = iniVal := congrArg (fun z : HV => z.2.2.1) c
  have c4 : He.dicW K (He.ga K "FIXED") = some (He.keysIn w.params fixKs) := congrArg (fun z : HV => z.2.2.2) c
  obtain ⟨fd0, F0⟩ := c1.def_ 0 (d := df0) rfl
  have g0 : mg "words_of" = some (.ref (He.ga K "words_of")) := He.glo_ok X G (c1.fact 0 (f := .glo "words_of") rfl)
  obtain ⟨fd1, F1⟩ := c1.def_ 1 (d := df1) rfl
  have g1 : mg "is_text" = some (.ref (He.ga K "is_text")) := He.glo_ok X G (c1.fact 1 (f := .glo "is_text") rfl)
  obtain ⟨fd2, F2⟩ := c1.def_ 2 (d := df2) rfl
  have g2 : mg "past_gap" = some (.ref (He.ga K "past_gap")) := He.glo_ok X G (c1.fact 2 (f := .glo "past_gap") rfl)
  obtain ⟨fd3, F3⟩ := c1.def_ 3 (d := df3) rfl
  have g3 : mg "minus_binds" = some (.ref (He.ga K "minus_binds")) := He.glo_ok X G (c1.fact 3 (f := .glo "minus_binds") rfl)
  obtain ⟨fd4, F4⟩ := c1.def_ 4 (d := df4) rfl
  have g4 : mg "note_paren" = some (.ref (He.ga K "note_paren")) := He.glo_ok X G (c1.fact 4 (f := .glo "note_paren") rfl)
  obtain ⟨fd5, F5⟩ := c1.def_ 5 (d := df5) rfl
  have g5 : mg "word_at" = some (.ref (He.ga K "word_at")) := He.glo_ok X G (c1.fact 5 (f := .glo "word_at") rfl)
  obtain ⟨fd6, F6⟩ := c1.def_ 6 (d := df6) rfl
  have g6 : mg "name_end" = some (.ref (He.ga K "name_end")) := He.glo_ok X G (c1.fact 6 (f := .glo "name_end") rfl)
  obtain ⟨fd7, F7⟩ := c1.def_ 7 (d := df7) rfl
  have g7 : mg "keyword_end" = some (.ref (He.ga K "keyword_end")) := He.glo_ok X G (c1.fact 7 (f := .glo "keyword_end") rfl)
  obtain ⟨fd8, F8⟩ := c1.def_ 8 (d := df8) rfl
  have g8 : mg "name_at" = some (.ref (He.ga K "name_at")) := He.glo_ok X G (c1.fact 8 (f := .glo "name_at") rfl)
  obtain ⟨fd9, F9⟩ := c1.def_ 9 (d := df9) rfl
  have g9 : mg "integer_at" = some (.ref (He.ga K "integer_at")) := He.glo_ok X G (c1.fact 9 (f := .glo "integer_at") rfl)
  obtain ⟨fd10, F10⟩ := c1.def_ 10 (d := df10) rfl
  have g10 : mg "string_end" = some (.ref (He.ga K "string_end")) := He.glo_ok X G (c1.fact 10 (f := .glo "string_end") rfl)
  obtain ⟨fd11, F11⟩ := c1.def_ 11 (d := df11) rfl
  have g11 : mg "string_at" = some (.ref (He.ga K "string_at")) := He.glo_ok X G (c1.fact 11 (f := .glo "string_at") rfl)
  obtain ⟨fd12, F12⟩ := c1.def_ 12 (d := df12) rfl
  have g12 : mg "symbol_at" = some (.ref (He.ga K "symbol_at")) := He.glo_ok X G (c1.fact 12 (f := .glo "symbol_at") rfl)
  obtain ⟨fd13, F13⟩ := c1.def_ 13 (d := df13) rfl
  have g13 : mg "listed_at" = some (.ref (He.ga K "listed_at")) := He.glo_ok X G (c1.fact 13 (f := .glo "listed_at") rfl)
  obtain ⟨fd14, F14⟩ := c1.def_ 14 (d := df14) rfl
  have g14 : mg "_law_bag" = some (.ref (He.ga K "_law_bag")) := He.glo_ok X G (c1.fact 14 (f := .glo "_law_bag") rfl)
  obtain ⟨fd15, F15⟩ := c1.def_ 15 (d := df15) rfl
  have g15 : mg "_law_take" = some (.ref (He.ga K "_law_take")) := He.glo_ok X G (c1.fact 15 (f := .glo "_law_take") rfl)
  obtain ⟨fd16, F16⟩ := c1.def_ 16 (d := df16) rfl
  have g16 : mg "_law_pick" = some (.ref (He.ga K "_law_pick")) := He.glo_ok X G (c1.fact 16 (f := .glo "_law_pick") rfl)
  obtain ⟨fd17, F17⟩ := c1.def_ 17 (d := df17) rfl
  have g17 : mg "_law_name" = some (.ref (He.ga K "_law_name")) := He.glo_ok X G (c1.fact 17 (f := .glo "_law_name") rfl)
  obtain ⟨fd18, F18⟩ := c1.def_ 18 (d := df18) rfl
  have g18 : mg "_law_text" = some (.ref (He.ga K "_law_text")) := He.glo_ok X G (c1.fact 18 (f := .glo "_law_text") rfl)
  obtain ⟨fd19, F19⟩ := c1.def_ 19 (d := df19) rfl
  have g19 : mg "_law_string" = some (.ref (He.ga K "_law_string")) := He.glo_ok X G (c1.fact 19 (f := .glo "_law_string") rfl)
  obtain ⟨fd20, F20⟩ := c1.def_ 20 (d := df20) rfl
  have g20 : mg "_law_operator" = some (.ref (He.ga K "_law_operator")) := He.glo_ok X G (c1.fact 20 (f := .glo "_law_operator") rfl)
  obtain ⟨fd21, F21⟩ := c1.def_ 21 (d := df21) rfl
  have g21 : mg "_law_integer" = some (.ref (He.ga K "_law_integer")) := He.glo_ok X G (c1.fact 21 (f := .glo "_law_integer") rfl)
  obtain ⟨fd22, F22⟩ := c1.def_ 22 (d := df22) rfl
  have g22 : mg "_law_symbol" = some (.ref (He.ga K "_law_symbol")) := He.glo_ok X G (c1.fact 22 (f := .glo "_law_symbol") rfl)
  obtain ⟨fd23, F23⟩ := c1.def_ 23 (d := df23) rfl
  have g23 : mg "_law_one" = some (.ref (He.ga K "_law_one")) := He.glo_ok X G (c1.fact 23 (f := .glo "_law_one") rfl)
  obtain ⟨fd24, F24⟩ := c1.def_ 24 (d := df24) rfl
  have g24 : mg "_law_parts" = some (.ref (He.ga K "_law_parts")) := He.glo_ok X G (c1.fact 24 (f := .glo "_law_parts") rfl)
  obtain ⟨fd25, F25⟩ := c1.def_ 25 (d := df25) rfl
  have g25 : mg "_law_opened" = some (.ref (He.ga K "_law_opened")) := He.glo_ok X G (c1.fact 25 (f := .glo "_law_opened") rfl)
  obtain ⟨fd26, F26⟩ := c1.def_ 26 (d := df26) rfl
  have g26 : mg "_law_negative" = some (.ref (He.ga K "_law_negative")) := He.glo_ok X G (c1.fact 26 (f := .glo "_law_negative") rfl)
  obtain ⟨fd27, F27⟩ := c1.def_ 27 (d := df27) rfl
  have g27 : mg "_law_gap" = some (.ref (He.ga K "_law_gap")) := He.glo_ok X G (c1.fact 27 (f := .glo "_law_gap") rfl)
  obtain ⟨fd28, F28⟩ := c1.def_ 28 (d := df28) rfl
  have g28 : mg "_law_bad" = some (.ref (He.ga K "_law_bad")) := He.glo_ok X G (c1.fact 28 (f := .glo "_law_bad") rfl)
  obtain ⟨fd29, F29⟩ := c1.def_ 29 (d := df29) rfl
  have g29 : mg "_law_told" = some (.ref (He.ga K "_law_told")) := He.glo_ok X G (c1.fact 29 (f := .glo "_law_told") rfl)
  obtain ⟨fd30, F30⟩ := c1.def_ 30 (d := df30) rfl
  have g30 : mg "_law_same" = some (.ref (He.ga K "_law_same")) := He.glo_ok X G (c1.fact 30 (f := .glo "_law_same") rfl)
  obtain ⟨fd31, F31⟩ := c1.def_ 31 (d := df31) rfl
  have g31 : mg "_law_right" = some (.ref (He.ga K "_law_right")) := He.glo_ok X G (c1.fact 31 (f := .glo "_law_right") rfl)
  obtain ⟨fd32, F32⟩ := c1.def_ 32 (d := df32) rfl
  have g32 : mg "law" = some (.ref (He.ga K "law")) := He.glo_ok X G (c1.fact 32 (f := .glo "law") rfl)
  obtain ⟨fd33, F33⟩ := c1.def_ 33 (d := df33) rfl
  have g33 : mg "parted" = some (.ref (He.ga K "parted")) := He.glo_ok X G (c1.fact 33 (f := .glo "parted") rfl)
  obtain ⟨fd34, F34⟩ := c1.def_ 34 (d := df34) rfl
  have g34 : mg "plain_words" = some (.ref (He.ga K "plain_words")) := He.glo_ok X G (c1.fact 34 (f := .glo "plain_words") rfl)
  obtain ⟨fd35, F35⟩ := c1.def_ 35 (d := df35) rfl
  have g35 : mg "without_strings" = some (.ref (He.ga K "without_strings")) := He.glo_ok X G (c1.fact 35 (f := .glo "without_strings") rfl)
  obtain ⟨fd36, F36⟩ := c1.def_ 36 (d := df36) rfl
  have g36 : mg "words_in" = some (.ref (He.ga K "words_in")) := He.glo_ok X G (c1.fact 36 (f := .glo "words_in") rfl)
  obtain ⟨fd37, F37⟩ := c1.def_ 37 (d := df37) rfl
  have g37 : mg "put_other" = some (.ref (He.ga K "put_other")) := He.glo_ok X G (c1.fact 37 (f := .glo "put_other") rfl)
  obtain ⟨fd38, F38⟩ := c1.def_ 38 (d := df38) rfl
  have g38 : mg "put_keywords" = some (.ref (He.ga K "put_keywords")) := He.glo_ok X G (c1.fact 38 (f := .glo "put_keywords") rfl)
  obtain ⟨fd39, F39⟩ := c1.def_ 39 (d := df39) rfl
  have g39 : mg "put_string" = some (.ref (He.ga K "put_string")) := He.glo_ok X G (c1.fact 39 (f := .glo "put_string") rfl)
  obtain ⟨fd40, F40⟩ := c1.def_ 40 (d := df40) rfl
  have g40 : mg "is_symbol" = some (.ref (He.ga K "is_symbol")) := He.glo_ok X G (c1.fact 40 (f := .glo "is_symbol") rfl)
  obtain ⟨fd41, F41⟩ := c1.def_ 41 (d := df41) rfl
  have g41 : mg "surely_binds" = some (.ref (He.ga K "surely_binds")) := He.glo_ok X G (c1.fact 41 (f := .glo "surely_binds") rfl)
  obtain ⟨fd42, F42⟩ := c1.def_ 42 (d := df42) rfl
  have g42 : mg "set_apart" = some (.ref (He.ga K "set_apart")) := He.glo_ok X G (c1.fact 42 (f := .glo "set_apart") rfl)
  have gFX : mg "FIXED" = some (.ref (He.ga K "FIXED")) := He.glo_ok X G (c1.fact 64 (f := .glo "FIXED") rfl)
  have sAR := He.str_ok X G (c1.fact 65 (f := .str "ARRAY" "@") rfl)
  have e64 : (Str.ofString "@") = ⟨#[64]⟩ := by decide +kernel
  have sAR : ∃ t, mg "ARRAY" = some (.str ⟨#[64]⟩ t) := by rw [← e64]; exact sAR
  have sST := He.str_ok X G (c1.fact 66 (f := .str "STRING" "{") rfl)
  have e123 : (Str.ofString "{") = ⟨#[123]⟩ := by decide +kernel
  have sST : ∃ t, mg "STRING" = some (.str ⟨#[123]⟩ t) := by rw [← e123]; exact sST
  have sSY := He.str_ok X G (c1.fact 67 (f := .str "SYMBOL" "}") rfl)
  have e125 : (Str.ofString "}") = ⟨#[125]⟩ := by decide +kernel
  have sSY : ∃ t, mg "SYMBOL" = some (.str ⟨#[125]⟩ t) := by rw [← e125]; exact sSY
  have gC : mg "BadSource" = some (.ref (He.ga K "BadSource")) := He.glo_ok X G (c1.fact 43 (f := .glo "BadSource") rfl)
  have g_len : mg "len" = none := He.free_ok X G (c1.fact 44 (f := .free "len") rfl)
  have g_int : mg "int" = none := He.free_ok X G (c1.fact 45 (f := .free "int") rfl)
  have g_isinstance : mg "isinstance" = none := He.free_ok X G (c1.fact 46 (f := .free "isinstance") rfl)
  have g_str : mg "str" = none := He.free_ok X G (c1.fact 47 (f := .free "str") rfl)
  have g_sum : mg "sum" = none := He.free_ok X G (c1.fact 48 (f := .free "sum") rfl)
  have g_max : mg "max" = none := He.free_ok X G (c1.fact 49 (f := .free "max") rfl)
  have g_all : mg "all" = none := He.free_ok X G (c1.fact 50 (f := .free "all") rfl)
  have g_tuple : mg "tuple" = none := He.free_ok X G (c1.fact 51 (f := .free "tuple") rfl)
  have g_min : mg "min" = none := He.free_ok X G (c1.fact 52 (f := .free "min") rfl)
  have g_range : mg "range" = none := He.free_ok X G (c1.fact 53 (f := .free "range") rfl)
  have g_super : mg "super" = none := He.free_ok X G (c1.fact 54 (f := .free "super") rfl)
  have g_zip : mg "zip" = none := He.free_ok X G (c1.fact 55 (f := .free "zip") rfl)
  have g_list : mg "list" = none := He.free_ok X G (c1.fact 56 (f := .free "list") rfl)
  have g_bool : mg "bool" = none := He.free_ok X G (c1.fact 57 (f := .free "bool") rfl)
  have i_LONGEST_NAME : ∃ t, mg "LONGEST_NAME" = some (.int 40 t) := He.int_ok X G (c1.fact 58 (f := .int "LONGEST_NAME" 40) rfl)
  have i_MOST_DIGITS : ∃ t, mg "MOST_DIGITS" = some (.int 60 t) := He.int_ok X G (c1.fact 59 (f := .int "MOST_DIGITS" 60) rfl)
  have i_LONGEST_SOURCE : ∃ t, mg "LONGEST_SOURCE" = some (.int 2000 t) := He.int_ok X G (c1.fact 60 (f := .int "LONGEST_SOURCE" 2000) rfl)
  have q_OPERATORS : mg "OPERATORS" = some (.ref (He.ga K "OPERATORS")) := He.glo_ok X G (c1.fact 61 (f := .glo "OPERATORS") rfl)
  have q_SIGNS : mg "SIGNS" = some (.ref (He.ga K "SIGNS")) := He.glo_ok X G (c1.fact 62 (f := .glo "SIGNS") rfl)
  have q_VALUE_KINDS : mg "VALUE_KINDS" = some (.ref (He.ga K "VALUE_KINDS")) := He.glo_ok X G (c1.fact 63 (f := .glo "VALUE_KINDS") rfl)
  obtain ⟨T, ET, s15, s16, s17⟩ := sup_all c2 c3 gC g_super
  clear c2 c3
  have tup : ∀ (x : Str) (ws : List (List Nat)), mg x = some (.ref (He.ga K x)) → He.tupB K x (dvs ws) = true → TupAt K mg x ws := fun x ws g b => ⟨_, g, fun H => by
    have := He.tupB_ok b H
    unfold dvs at this
    rw [List.map_map] at this
    exact this⟩
  have M : Mods K mg (He.ga K "name_end") (He.ga K "keyword_end") (He.ga K "string_end") (He.ga K "string_at") (He.ga K "listed_at") (He.ga K "symbol_at") (He.ga K "name_at") (He.ga K "integer_at") fd6 fd7 fd10 fd11 fd13 fd12 fd8 fd9 :=
    { FN := F6, FK := F7, FE := F10, FS := F11, FL := F13, FY := F12, FA := F8, FT := F9, gN := g6, gK := g7, gE := g10, gS := g11, gL := g13, gY := g12, gA := g8, gT := g9, g_len := g_len, g_int := g_int, g_LN := i_LONGEST_NAME, g_MD := i_MOST_DIGITS, g_OP := tup _ _ q_OPERATORS s15, g_SI := tup _ _ q_SIGNS s16 }
  have M2 : Plain K w mg (He.ga K "FIXED") (He.ga K "set_apart") (He.ga K "put_string") (He.ga K "is_symbol") (He.ga K "put_keywords") (He.ga K "surely_binds") (He.ga K "put_other") (He.ga K "words_in") (He.ga K "without_strings") fd42 fd39 fd40 fd38 fd41 fd37 fd36 fd35 :=
    { F_set_apart := F42, g_set_apart := g42, F_put_string := F39, g_put_string := g39, F_is_symbol := F40, g_is_symbol := g40, F_put_keywords := F38, g_put_keywords := g38, F_surely_binds := F41, g_surely_binds := g41, F_put_other := F37, g_put_other := g37, F_words_in := F36, g_words_in := g36, F_without_strings := F35, g_without_strings := g35, g_len := g_len, g_all := g_all, g_int := g_int, g_FIXED := gFX, hF := fix_ok c4 cfix, g_VK := tup _ _ q_VALUE_KINDS s17, g_LN := i_LONGEST_NAME, g_MD := i_MOST_DIGITS, g_AR := sAR, g_ST := sST, g_SY := sSY }
  have e := hfa.symm.trans g32
  cases e
  have bl := FunD.bindsA (ps := ["_law_script"]) F32 fun _ _ _ _ _ _ us hl => match us, hl with | [_], _ => rfl
  refine ⟨fd32, fun s v => bl s [v] rfl, fun base _ _ => ?_⟩
  have G_words_of : FnOk P0 w K mg base (L2.CX P0 w) 20 (He.ga K "words_of") fd0 ["source"] (spWords K (He.ga K "BadSource")) := ok_words_of F0 M T gC F1 F2 F5 F3 F4 F33 F34 g1 g2 g5 g3 g4 g33 g34 g_isinstance g_str i_LONGEST_SOURCE M2
  have b_words_of : Binds K fd0 ["source"] [] := F0.bindsN fun _ _ _ _ _ _ us hl => match us, hl with | [_], _ => rfl
  have G_bag : FnOk P0 w K mg base CX0 2 (He.ga K "_law_bag") fd14 ["_law_script", "_law_k"] (spBag K) := ok_bag F14 g_int g_sum g_len g_max
  have b_bag : Binds K fd14 ["_law_script", "_law_k"] [] := F14.bindsN fun _ _ _ _ _ _ us hl => match us, hl with | [_, _], _ => rfl
  have G_take : FnOk P0 w K mg base CX0 2 (He.ga K "_law_take") fd15 ["_law_bag_here", "_law_many"] (spTake) := ok_take F15 g_int
  have b_take : Binds K fd15 ["_law_bag_here", "_law_many"] [] := F15.bindsN fun _ _ _ _ _ _ us hl => match us, hl with | [_, _], _ => rfl
  have G_pick : FnOk P0 w K mg base CX0 3 (He.ga K "_law_pick") fd16 ["_law_bag_here", "_law_things"] (spPick K) := ok_pick F16 F15 g15 g_int g_len
  have b_pick : Binds K fd16 ["_law_bag_here", "_law_things"] [] := F16.bindsN fun _ _ _ _ _ _ us hl => match us, hl with | [_, _], _ => rfl
  have G_name : FnOk P0 w K mg base CX0 4 (He.ga K "_law_name") fd17 ["_law_bag_here"] (My1.spName) := My1.ok_name F17 G_pick g16 F16.kp b_pick g_range
  have b_name : Binds K fd17 ["_law_bag_here"] [] := F17.bindsN fun _ _ _ _ _ _ us hl => match us, hl with | [_], _ => rfl
  have G_text : FnOk P0 w K mg base CX0 4 (He.ga K "_law_text") fd18 ["_law_bag_here"] (My1.spText) := My1.ok_text F18 G_pick g16 F16.kp b_pick g_range
  have b_text : Binds K fd18 ["_law_bag_here"] [] := F18.bindsN fun _ _ _ _ _ _ us hl => match us, hl with | [_], _ => rfl
  have G_string : FnOk P0 w K mg base CX0 1 (He.ga K "_law_string") fd19 ["_law_text_here"] (My1.spString) := My1.ok_string F19
  have b_string : Binds K fd19 ["_law_text_here"] [] := F19.bindsN fun _ _ _ _ _ _ us hl => match us, hl with | [_], _ => rfl
  have G_operator : FnOk P0 w K mg base CX0 4 (He.ga K "_law_operator") fd20 ["_law_bag_here"] (My1.spOper) := My1.ok_operator F20 G_pick g16 F16.kp b_pick
  have b_operator : Binds K fd20 ["_law_bag_here"] [] := F20.bindsN fun _ _ _ _ _ _ us hl => match us, hl with | [_], _ => rfl
  have G_integer : FnOk P0 w K mg base CX0 4 (He.ga K "_law_integer") fd21 ["_law_bag_here", "_law_negative_here"] (My1.spInteger K) := My1.ok_integer F21 G_pick g16 F16.kp b_pick G_take g15 F15.kp b_take g_range g_int
  have b_integer : Binds K fd21 ["_law_bag_here", "_law_negative_here"] [] := F21.bindsN fun _ _ _ _ _ _ us hl => match us, hl with | [_, _], _ => rfl
  have G_symbol : FnOk P0 w K mg base CX0 5 (He.ga K "_law_symbol") fd22 ["_law_bag_here"] (My1.spSymbol K) := My1.ok_symbol F22 G_take g15 F15.kp b_take G_name g17 F17.kp b_name G_text g18 F18.kp b_text G_string g19 F19.kp b_string G_operator g20 F20.kp b_operator g_range
  have b_symbol : Binds K fd22 ["_law_bag_here"] [] := F22.bindsN fun _ _ _ _ _ _ us hl => match us, hl with | [_], _ => rfl
  have G_one : FnOk P0 w K mg base CX0 6 (He.ga K "_law_one") fd23 ["_law_bag_here", "_law_negative_here"] (My1.spOne K) := My1.ok_one F23 G_take g15 F15.kp b_take G_pick g16 F16.kp b_pick G_name g17 F17.kp b_name G_text g18 F18.kp b_text G_string g19 F19.kp b_string G_operator g20 F20.kp b_operator G_symbol g22 F22.kp b_symbol G_integer g21 F21.kp b_integer
  have b_one : Binds K fd23 ["_law_bag_here", "_law_negative_here"] [] := F23.bindsN fun _ _ _ _ _ _ us hl => match us, hl with | [_, _], _ => rfl
  have G_parts : FnOk P0 w K mg base CX0 1 (He.ga K "_law_parts") fd24 ["_law_first", "_law_last", "_law_negative_here"] (My1.spParts K) := My1.ok_parts F24
  have b_parts : Binds K fd24 ["_law_first", "_law_last", "_law_negative_here"] [] := F24.bindsN fun _ _ _ _ _ _ us hl => match us, hl with | [_, _, _], _ => rfl
  have G_opened : FnOk P0 w K mg base CX0 1 (He.ga K "_law_opened") fd25 ["_law_open_signs", "_law_word"] (My1.spOpened K) := My1.ok_opened F25
  have b_opened : Binds K fd25 ["_law_open_signs", "_law_word"] [] := F25.bindsN fun _ _ _ _ _ _ us hl => match us, hl with | [_, _], _ => rfl
  have G_negative : FnOk P0 w K mg base CX0 1 (He.ga K "_law_negative") fd26 ["_law_open_signs", "_law_word"] (My1.spNegative K) := My1.ok_negative F26
  have b_negative : Binds K fd26 ["_law_open_signs", "_law_word"] [] := F26.bindsN fun _ _ _ _ _ _ us hl => match us, hl with | [_, _], _ => rfl
  have G_gap : FnOk P0 w K mg base CX0 6 (He.ga K "_law_gap") fd27 ["_law_bag_here", "_law_parted"] (My1.spGap) := My1.ok_gap F27 G_take g15 F15.kp b_take G_pick g16 F16.kp b_pick G_text g18 F18.kp b_text
  have b_gap : Binds K fd27 ["_law_bag_here", "_law_parted"] [] := F27.bindsN fun _ _ _ _ _ _ us hl => match us, hl with | [_, _], _ => rfl
  have G_bad : FnOk P0 w K mg base CX0 6 (He.ga K "_law_bad") fd28 ["_law_bag_here"] (My1.spBad K) := My1.ok_bad F28 G_take g15 F15.kp b_take G_pick g16 F16.kp b_pick G_text g18 F18.kp b_text
  have b_bad : Binds K fd28 ["_law_bag_here"] [] := F28.bindsN fun _ _ _ _ _ _ us hl => match us, hl with | [_], _ => rfl
  have G_told : FnOk P0 w K mg base CX0 21 (He.ga K "_law_told") fd29 ["_law_source"] (spTold K) := ok_told F29 ET G_words_of g0 F0.kp b_words_of
  have b_told : Binds K fd29 ["_law_source"] [] := F29.bindsN fun _ _ _ _ _ _ us hl => match us, hl with | [_], _ => rfl
  have G_same : FnOk P0 w K mg base CX0 1 (He.ga K "_law_same") fd30 ["_law_found", "_law_due"] (My1.spSame K) := My1.ok_same F30 g_isinstance g_len g_zip g_list g_tuple g_bool g_str g_int
  have b_same : Binds K fd30 ["_law_found", "_law_due"] [] := F30.bindsN fun _ _ _ _ _ _ us hl => match us, hl with | [_, _], _ => rfl
  have G_right : FnOk P0 w K mg base CX0 25 (He.ga K "_law_right") fd31 ["_law_source", "_law_due", "_law_bad_here"] (My1.spRight K) := My1.ok_right (kW := 20) F31 G_told g29 F29.kp b_told G_same g30 F30.kp b_same G_words_of g0 F0.kp b_words_of g_len
  have b_right : Binds K fd31 ["_law_source", "_law_due", "_law_bad_here"] [] := F31.bindsN fun _ _ _ _ _ _ us hl => match us, hl with | [_, _, _], _ => rfl
  exact My1.ok_law F32 G_bag g14 F14.kp b_bag G_take g15 F15.kp b_take G_negative g26 F26.kp b_negative G_one g23 F23.kp b_one G_parts g24 F24.kp b_parts G_gap g27 F27.kp b_gap G_opened g25 F25.kp b_opened G_bad g28 F28.kp b_bad G_right g31 F31.kp b_right g_len g_max g_min g_range
end My

end
section
set_option Elab.async false
set_option linter.all false
set_option maxRecDepth 100000
set_option maxHeartbeats 0
open PySem PySem.W PySem.Calls PyProof.Rows
theorem PySem.Challenge.cw_imagetalk_k01_words_put_together_holds : PySem.Challenge.rw_imagetalk_k01_words_put_together.Holds := by
  w_on; o_law
  refine HandSHeadRun.head_any (r := OpenLaw.row PySem.Challenge.rw_imagetalk_k01_words_put_together) (q := view (OpenLaw.row PySem.Challenge.rw_imagetalk_k01_words_put_together).prog [59]) (H := My.hk) (ob := My.ob) (M := 20000) (loose := My.loose) (d := HandSHeadRun.topDef (OpenLaw.row PySem.Challenge.rw_imagetalk_k01_words_put_together).prog 59) (kwd := []) My.ob_eq
    (by kernel_rfl) (fun s => by kernel_rfl) My.run (by kernel_rfl) (by kernel_rfl) (by kernel_rfl) (by rfl) (by first | assumption | decide +kernel) (by decide +kernel) ⟨rfl, rfl, rfl, rfl, rfl, by decide +kernel⟩ ?hw ?hc
  case hw => w_witness2
  case hc =>
    refine L2.walk_ofE (l := PySem.Challenge.rw_imagetalk_k01_words_put_together) (n := 63) (k := 40) (x := "_law_script") (CX := L2.CX0) rfl (by decide) (by kernel_rfl) ⟨rfl, by decide, by decide⟩ ?F (fun _ _ _ _ z => z)
    intro w mg fa h Y G hmg0
    obtain ⟨K, KX, c⟩ := Y
    have hmg : mg ("law" : PySem.Str) = some (.ref fa) := by
      have e : (HandSHeadRun.topDef (OpenLaw.row PySem.Challenge.rw_imagetalk_k01_words_put_together).prog 59).name = ("law" : PySem.Str) := by kernel_rfl
      rw [← e]
      exact hmg0
    obtain ⟨fd, hb, hF⟩ := My.facts (w := w) KX G hmg c
    exact ⟨K, fd, My1.spLaw K, KX, hb, fun H a ns hl _ hS => ⟨a, ns, rfl, hS, hl, fun _ => rfl⟩, hF⟩

end
