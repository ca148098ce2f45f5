import PyProof.Rows.All
import Wide.All
import OpenK.AllK
import Wide.FinOn
import KE.KExcTry
import KE.KExcStr
import KE.KEqDeep
import KE.RegKIsAll
import HandS.ForMost
import HandS.Wide
import HandS.Flow
import HandS.Defaults
import HandS.WordsExc
import HandS.Codes
import PySem.Challenge.RW_imagetalk_k00_error_classes
import KE.KExcSuper
import HandS.ForExc
import HandS.FStr
import HandS.FStrTup
import HandS.Words
import HandS.ExcInit
import KE.KIsAll
import KE.KTryMore
import HandS.ExcField
import HandS.ExcValue
import HandS.ExcIs
import HandS.HotCalls
import HandS.IsInst
import HandS.RaiseMore
import HandS.AnyAll
import KE.KStateDown
import Lean
import HandS.Base
import HandS.Call
import HandS.Ends
import HandS.More
import HandS.Head0
import HandS.Head1
import HandS.Head2
import HandS.HeadEnd
import HandS.HeadHook1
import HandS.HeadHook2
section
open PySem PySem.W
set_option Elab.async false
set_option maxRecDepth 100000
set_option maxHeartbeats 4000000
/-! An own exception class with its own __init__, called with keywords. -/
namespace KwX
open PySem.Calls PySem.PX
section
variable {M : Model} {A : Around} {E : Value → Shared → Prop} {h : Heap} {g : Array GenState} {d : Drawn} {t : Nat} {os : OsState}
variable {nm q : Str} {C N : Addr} {bs bm bmB : List Value} {hdct : Bool} {sn : List Str} {sub : List Value} {ab : Bool} {col : Option Bool} {dd : Option Addr} {k0 k1 k2 k3 k5 : Option Value} {B newId initId : String}
theorem check_new_k (F : ExcBaseFacts B newId initId bmB) (hT : ∀ X : String, bm.contains (.type X) = bmB.contains (.type X)) {rest : List Value} {kw : List (Str × Value)} {Q : Unit → Shared → Prop}
    (hC : h.get? C = some (excClassObj nm q C N bs bm hdct sn sub ab col dd k0 k1 k2 k3 k5 newId)) (hq : Q () ⟨h, g, d, t, os⟩) : wpAny M A (checkBuiltinCall newId ⟨.ref C :: rest, kw⟩) Q E ⟨h, g, d, t, os⟩ := by
  have hcont : (Value.ref C :: bm).contains (.type B) = true := by rw [List.contains_cons, hT, F.hasB, Bool.or_true]
  have hstar := F.noStar
  simp only [checkBuiltinCall, F.newKind, F.newSplit, F.newRow]
  repeat (first | refine wpAny_loadPart_at hC ?_ | (refine wpAny_isSubtype_exc hC ?_; rw [hcont]) | refine wpAny_staticBase_exc hC ?_ | refine wpAny_madeBy_exc hC ?_ | simp only [bne_self_eq_false, Bool.false_eq_true, if_false] | wp_step)
  exact hq
end
section
variable {prog : Program} {w : World} {A : Around} {E : Value → Shared → Prop} {R : Result → Shared → Prop} {h : Heap} {g : Array GenState} {d : Drawn} {t : Nat} {os : OsState}
variable {nm q : Str} {C N : Addr} {bs bm bmB : List Value} {hdct : Bool} {sn : List Str} {sub : List Value} {ab : Bool} {col : Option Bool} {dd : Option Addr} {k0 k1 k2 k3 k5 : Option Value} {B newId initId : String}
theorem new_k (F : ExcBaseFacts B newId initId bmB) (hT : ∀ X : String, bm.contains (.type X) = bmB.contains (.type X)) {rest : List Value} {kw : List (Str × Value)}
    (hC : h.get? C = some (excClassObj nm q C N bs bm hdct sn sub ab col dd k0 k1 k2 k3 k5 newId))
    (hq : R (.ok (.ret (.ref (h.objs.size + 1)))) ⟨(h.push { cls := .type "tuple", data := .seq rest.toArray }).push
      { cls := .ref C, data := .fields #[.ref h.objs.size, .none, .none, .none, .bool false, .none] }, g, d, t, os⟩) (hrest : rest.length ≤ sizeLine) :
    codeAny (model prog w) A (.builtin newId ⟨.ref C :: rest, kw⟩) R ⟨h, g, d, t, os⟩ := by
  have hends := F.ends
  have hcB : (Value.ref C :: bm).contains (.type B) = true := by rw [List.contains_cons, hT, F.hasB, Bool.or_true]
  have hcA : (Value.ref C :: bm).contains (.type "AttributeError") = false := by rw [List.contains_cons, hT, F.noAttr]; rfl
  have hcN : (Value.ref C :: bm).contains (.type "NameError") = false := by rw [List.contains_cons, hT, F.noName]; rfl
  refine codeAny_builtinAt F.entry ?_
  unfold Builtin.«BaseException.__new__»
  refine wpAt_bind ?_
  show wpAt _ _ _ (stack >>= _) _ _ _
  refine wpAt_bind (wpAt_stack fun p below => wpAt_of_wpAny ?_)
  wp_walk
  refine wpAt_of_wpAny ?_
  rw [F.owner]
  repeat (first | with_reducible refine wpAny_madeHere_exc F.canon hC ?_ | with_reducible refine wpAny_loadPart_at hC ?_ | (with_reducible refine wpAny_isSubtype_exc hC ?_; first | rw [hcB] | rw [hcA] | rw [hcN]) | wp_step)
  show R _ _
  rw [Heap.size_push]
  exact hq
theorem type_call_k (F : ExcBaseFacts B newId initId bmB) (hT : ∀ X : String, bm.contains (.type X) = bmB.contains (.type X)) {rest : List Value} {kw : List (Str × Value)} {fI : Addr} {Q : Fin → Shared → Prop}
    (hC : h.get? C = some (excClassObj nm q C N bs bm hdct sn sub ab col dd k0 k1 k2 k3 k5 newId))
    (hi : W.Looks (model prog w) h (typeLookup (.ref C) "__init__") (some (.ref fI))) (hb : ∀ self, W.Looks (model prog w) h (bindSpecial (.ref fI) self) (.ref fI, [self])) (hrest : rest.length ≤ sizeLine)
    (hq : codeAny (model prog w) A (.call (.ref fI) ⟨.ref (h.objs.size + 1) :: rest, kw⟩)
      (fun r s' => match r with | .ok (.ret v) => v = .none ∧ Q (.done (.ret (.ref (h.objs.size + 1)))) s' | .ok _ => False | .error e => E e s')
      ⟨(h.push (W.kdv_tup rest)).push (excO C h.objs.size), g, d, t, os⟩) :
    wpAny (model prog w) A (Builtin.«type.__call__» ⟨.ref C :: rest, kw⟩) Q E ⟨h, g, d, t, os⟩ := by
  repeat (first | with_reducible refine wpAny_loadPart_at hC ?_ | with_reducible refine wpAny_madeBy_exc hC ?_ | wp_step)
  refine codeAny_call_builtin_code (Code.quiet_builtin _ F.quiet) (check_new_k F hT hC ?_)
  refine new_k F hT hC ?_ hrest
  show wpAny _ _ _ _ _ _
  have k : ∀ b o, h.get? b = some o → ((h.push (W.kdv_tup rest)).push (excO C h.objs.size)).get? b = some o := fun b o e => Heap.get?_push_of_some _ (Heap.get?_push_of_some _ e)
  have hC₁ := k _ _ hC
  have hget : ((h.push (W.kdv_tup rest)).push (excO C h.objs.size)).get? (h.objs.size + 1) = some (excO C h.objs.size) := by heap_get
  have hcC : (Value.ref C :: bm).contains (.ref C) = true := by simp
  have i1 := hi.keeps k
  have b1 := (hb (.ref (h.objs.size + 1))).keeps k
  unfold isInstance
  repeat (first | with_reducible refine wpAny_loadPart_at hget ?_ | (with_reducible refine wpAny_isSubtype_exc hC₁ ?_; rw [hcC]) | wp_step)
  show wpAny _ _ (typeLookup (.ref C) _) _ _ _
  refine i1.at ?_
  refine wpAny_holding (wpAny_bind (b1.at ?_))
  refine wpAny_bind (wpAny_call (codeAny_mono hq fun r s' z => ?_))
  rcases r with e | (v | _ | _ | _) <;> first | exact z | exact z.elim | skip
  obtain ⟨rfl, z⟩ := z
  first
    | exact wpAny_pure (wpAny_pure z)
    | (wp_walk; exact z)
theorem call_k (F : ExcBaseFacts B newId initId bmB) (hT : ∀ X : String, bm.contains (.type X) = bmB.contains (.type X)) {rest : List Value} {kw : List (Str × Value)} {fI : Addr}
    (hC : h.get? C = some (excClassObj nm q C N bs bm hdct sn sub ab col dd k0 k1 k2 k3 k5 newId))
    (hi : W.Looks (model prog w) h (typeLookup (.ref C) "__init__") (some (.ref fI))) (hb : ∀ self, W.Looks (model prog w) h (bindSpecial (.ref fI) self) (.ref fI, [self])) (hrest : rest.length ≤ sizeLine)
    (hq : codeAny (model prog w) (A.under (.builtin "type.__call__" ⟨.ref C :: rest, kw⟩)) (.call (.ref fI) ⟨.ref (h.objs.size + 1) :: rest, kw⟩) (W.InitBack (h.objs.size + 1) R)
      ⟨(h.push (W.kdv_tup rest)).push (excO C h.objs.size), g, d, t, os⟩) :
    codeAny (model prog w) A (.call (.ref C) ⟨rest, kw⟩) R ⟨h, g, d, t, os⟩ := by
  have f1 := tc_lookup
  have f2 := tc_bind (.ref C)
  have hTy : (⟨h, g, d, t, os⟩ : Shared).TypeIs (.ref C) "type" := ⟨_, hC, rfl⟩
  refine codeAny_of_tree ?_
  show wpAny _ _ (callAny (.ref C) _) _ _ _
  repeat (any_goals (first | assumption | with_reducible refine wpAny_loadPart_at hC ?_ | wp_step))
  refine ⟨rfl, ?_⟩
  refine codeAny_call_builtin_at (Code.quiet_builtin _ (by decide +kernel)) entry_typeCall (wpAny_check_type_call_sub hC (type_call_k F hT hC hi hb hrest ?_))
  refine codeAny_mono hq fun r s' z => ?_
  rcases r with e | (v | _ | _ | _) <;> exact z
end
section
open PyProof.Rows
variable {prog : Program} {w : World} {A : Around} {E : Value → Shared → Prop} {s : Shared} {K : Frag} {C L : Addr} {h₀ : Heap} {m : Str → Option Value} {news news' : List (Addr × Obj)} {B newId initId : String} {bmB : List Value}
theorem call_excK {pos : List Value} {kw : List (Str × Value)} {fI : Addr} {Q : Value → Shared → Prop} (F : Fr h₀ L s.heap m) (X₀ : K.In h₀) (N : News h₀ L s.heap news) (FB : ExcBaseFacts B newId initId bmB) (hi : findIn K (.ref C) "__init__" = some (some (.ref fI)))
    (q : excInitIn K C bmB newId = true) (hf : isFn K (.ref fI) = true) (hz : pos.length ≤ sizeLine)
    (h : ∀ e t h', Fr h₀ L h' m → News h₀ L h' ((e, excObj C t none .none) :: (t, excTup pos) :: news) → AllNe e news → AllNe t news → e ≠ t →
      codeAny (model prog w) (A.under (.builtin "type.__call__" ⟨.ref C :: pos, kw⟩)) (.call (.ref fI) ⟨.ref e :: pos, kw⟩) (InitBack e fun r s' => match r with | .ok (.ret v) => Q v s' | .ok _ => False | .error x => E x s') { s with heap := h' }) :
    wpAny (model prog w) A (call (.ref C) pos kw) Q E s := by
  have X := X₀.keeps F.keep
  obtain ⟨nm, N', qn, bs, bm, hdct, sn, sub, ab, col, dd, k0, k1, k2, k3, k5, hC, hT⟩ := excInit_of X q
  obtain ⟨oI, hoI, hcI⟩ : ∃ oI, s.heap.get? fI = some oI ∧ oI.cls = .type "function" := by
    obtain ⟨o, ho, hc⟩ := Option.map_eq_some_iff.mp (show (K.lookup fI).map (·.cls) = some (.type "function") from beq_iff_eq.mp hf)
    exact ⟨o, X _ _ ho, hc⟩
  have hi' : Looks (model prog w) s.heap (typeLookup (.ref C) "__init__") (some (.ref fI)) := looks_findIn X hi
  obtain ⟨F2, N2, ne, nt⟩ := exc_two (o1 := excTup pos) (o2 := excObj C s.heap.objs.size none .none) F N rfl rfl
  obtain ⟨hh, g, d, tk, os⟩ := s
  refine wpAny_call (call_k FB hT hC hi' (fun self => exc_bind hoI hcI self) hz (codeAny_mono (h _ _ _ F2 N2 ne nt (Nat.succ_ne_self _)) fun r s' z => ?_))
  rcases r with x | (v | _ | _ | _) <;> first | exact z | exact z.elim
end
end KwX

end
section
set_option Elab.async false
set_option linter.all false
set_option maxRecDepth 100000
set_option maxHeartbeats 2000000
namespace My
open PySem PySem.Spec PyProof.Rows L2
def top (i : Nat) : Stmt := PySem.Challenge.pw_imagetalk_k00_error_classes.main.body.getD i (.Pass ⟨0, 0, 0, 0⟩)
abbrev s_law_bag : Stmt := top 31
abbrev s_law_take : Stmt := top 32
abbrev FnP (K : PySem.W.Frag) (x : Str) (st : Stmt) (f : Addr) (fd : FuncData) : Prop := FunD K x x (defArgs st) (defBody st) (defScope st) [] [] f fd
/-- what a bag's three numbers may be, n takes behind its making -/
structure BagN (n : Nat) (x y z : Int) : Prop where
  x0 : 0 ≤ x
  y0 : 0 ≤ y
  y1 : y.natAbs < 2 ^ 134
  z0 : 0 ≤ z
  z1 : z ≤ (n : Int)
/-- take(bag, many): a number below many, the bag changed -/
def spTake : Sp := fun vs H Q _ => ∃ (b : Addr) (n : Nat) (x y z m : Int), vs = [.ref b, .int m] ∧ H b = some (.lst [.int x, .int y, .int z]) ∧ BagN n x y z ∧ n < 1000000 ∧ 0 < m ∧ m < 2 ^ 30 ∧
  ∀ (r x' y' z' : Int), 0 ≤ r → r < m → BagN (n + 1) x' y' z' → Q (.int r) (upd H b (.lst [.int x', .int y', .int z']))
theorem upd_upd {H : Hp} {b : Addr} {o o' : HO} : upd (upd H b o) b o' = upd H b o' := by
  funext a
  by_cases h : a = b
  · subst h
    rw [upd_same, upd_same]
  · rw [upd_ne h, upd_ne h, upd_ne h]
section
variable {P : Program} {w : World} {K : PySem.W.Frag} {mg : Str → Option Value} {base : Heap}
theorem sc_law_take : FnScope ["_law_bag_here", "_law_many", "_law_found", "_law_mark"] ["_law_bag_here", "_law_many"] (defScope s_law_take) := ⟨rfl, rfl, rfl, by decide +kernel, rfl, by decide +kernel, by decide +kernel⟩
theorem ok_take {f : Addr} {fd : FuncData} (F : FnP K "_law_take" s_law_take f fd) (g_int : mg "int" = none) : FnOk P w K mg base CX0 2 f fd ["_law_bag_here", "_law_many"] spTake := by
  refine F.ok sc_law_take (fun vs H Q E h => ?_) (fun cdv A outer s H vs Q E hr h => ⟨_, PSs.nox
    (pss_cons (ps_if (pt_cmpR op_gt (pe_ix ix_list (pv 0) pe_int (fun _ _ => rfl)) pe_int (nomark _)) (pss_cons (ps_set (i := 2) sc_law_take.nd rfl (Or.inl rfl) (pe_op op_modN (pe_callTy call_int1 (by rfl) g_int (by decide +kernel) (pa_cons (pe_ix ix_list (pv 0) pe_int (fun _ _ => rfl)) pa_nil)) (pv 1)))
      (pss_cons (ps_asg (pe_op op_fdivW (pe_ix ix_list (pv 0) pe_int (fun _ _ => rfl)) (pv 1)) (pg_sub (pv 0) pe_int set_list))
      (pss_one (ps_ret (pv 2))))) pss_nil)
      (pss_cons (ps_asg (pe_op op_add (pe_ix ix_list (pv 0) pe_int (fun _ _ => rfl)) pe_int) (pg_sub (pv 0) pe_int set_list))
      (pss_cons (ps_set (i := 3) sc_law_take.nd rfl (Or.inl rfl) (pe_op op_add (pe_op op_mulW (pe_op op_add (pe_ix ix_list (pv 0) pe_int (fun _ _ => rfl)) pe_int) (pe_op op_add (pe_op op_mulW pe_int (pe_ix ix_list (pv 0) pe_int (fun _ _ => rfl))) pe_int)) (pe_op op_mulW (pe_op op_mulW pe_int (pe_ix ix_list (pv 0) pe_int (fun _ _ => rfl))) (pe_ix ix_list (pv 0) pe_int (fun _ _ => rfl)))))
      (pss_cons (ps_set (i := 3) sc_law_take.nd rfl (Or.inl rfl) (pe_op op_modN (pe_callTy call_int1 (by rfl) g_int (by decide +kernel) (pa_cons (pe_op op_mulW (pv 3) (pv 3)) pa_nil)) (pe_op op_add (pe_op op_pow pe_int pe_int) pe_int)))
      (pss_cons (ps_set (i := 3) sc_law_take.nd rfl (Or.inl rfl) (pe_op op_modN (pe_callTy call_int1 (by rfl) g_int (by decide +kernel) (pa_cons (pe_op op_mulW (pv 3) (pe_op op_add (pv 3) pe_int)) pa_nil)) (pe_op op_add (pe_op op_pow pe_int pe_int) pe_int)))
      (pss_one (ps_ret (pe_op op_modN (pe_callTy call_int1 (by rfl) g_int (by decide +kernel) (pa_cons (pe_op op_fdivW (pv 3) pe_int) pa_nil)) (pv 1))))))))), ?_⟩)
  · obtain ⟨b, n, x, y, z, m, rfl, _⟩ := h
    rfl
  · obtain ⟨b, n, x, y, z, m, rfl, hb, hB, hn, m0, m1, k⟩ := h
    have hm : m.natAbs < 2 ^ 30 := by omega
    have hx0 := hB.x0
    have hy0 := hB.y0
    have hz0 := hB.z0
    have hz1 := hB.z1
    refine ⟨_, rfl, _, _, _, _, rfl, rfl, SqL.of hb, rfl, _, _, rfl, rfl, _, rfl, ?_⟩
    refine ite2 (fun hx => ?_) (fun hx => ?_)
    · refine ⟨_, rfl, _, _, _, _, rfl, rfl, SqL.of hb, rfl, .inl ⟨_, rfl, _, rfl, _, _, rfl, rfl, (by omega), ?_⟩⟩
      refine ⟨_, rfl, _, _, _, _, rfl, rfl, SqL.of hb, rfl, _, rfl, _, _, rfl, rfl, wide_div m0 hm (by decide) (by decide), ?_⟩
      refine ⟨_, rfl, _, _, _, _, rfl, rfl, hb, rfl, ?_⟩
      refine ⟨_, rfl, ?_⟩
      have e1 : x / m ≤ x := Int.ediv_le_self _ hx0
      have e2 : 0 ≤ x / m := Int.ediv_nonneg hx0 (Int.le_of_lt m0)
      exact k (x.fmod m) (x / m) y z (Int.fmod_nonneg_of_pos _ m0) (Int.fmod_lt_of_pos _ m0) ⟨e2, hy0, hB.y1, hz0, by omega⟩
    · refine ⟨_, rfl, _, _, _, _, rfl, rfl, SqL.of hb, rfl, _, _, rfl, rfl, ?_⟩
      refine ⟨_, rfl, _, _, _, _, rfl, rfl, hb, rfl, ?_⟩
      have hb2 : (upd H b (.lst [.int x, .int y, .int (z + 1)])) b = some (.lst [.int x, .int y, .int (z + 1)]) := upd_same
      have bz : (z + 1).natAbs < 2 ^ 20 := by omega
      have by1 : (y + 1).natAbs < 2 ^ 135 := by
        have := hB.y1
        have e : (2 : Nat) ^ 135 = 2 ^ 134 * 2 := by decide
        omega
      have c1 : (30011 * (z + 1) : Int).natAbs < 2 ^ 40 := by omega
      have c2 : (30011 * (z + 1) + 7 : Int).natAbs < 2 ^ 41 := by omega
      have d1 : ((y + 1) * (30011 * (z + 1) + 7)).natAbs < 2 ^ (135 + 41) := wide_lt by1 c2
      have d2 : (104729 * (z + 1) : Int).natAbs < 2 ^ 40 := by omega
      have d3 : (104729 * (z + 1) * (z + 1)).natAbs < 2 ^ (40 + 20) := wide_lt d2 bz
      have d4 : ((y + 1) * (30011 * (z + 1) + 7) + 104729 * (z + 1) * (z + 1)).natAbs < 2 ^ 200 := by
        have e1 : (2 : Nat) ^ 200 = 2 ^ (135 + 41) * 2 ^ 24 := by decide
        have e2 : (2 : Nat) ^ (135 + 41) = 2 ^ (40 + 20) * 2 ^ 116 := by decide
        have e3 := Int.natAbs_add_le ((y + 1) * (30011 * (z + 1) + 7)) (104729 * (z + 1) * (z + 1))
        omega
      refine ⟨_, rfl, _, _, _, _, rfl, rfl, SqL.of hb2, rfl, _, _, rfl, rfl, ?_⟩
      refine ⟨_, rfl, _, _, _, _, rfl, rfl, SqL.of hb2, rfl, _, _, rfl, rfl, wide_mul (a := 64) (b := 20) (by decide) bz (by decide) (by decide) (by decide), _, _, rfl, rfl, ?_⟩
      refine ⟨_, _, rfl, rfl, wide_mul by1 c2 (by decide) (by decide) (by decide), ?_⟩
      refine ⟨_, rfl, _, _, _, _, rfl, rfl, SqL.of hb2, rfl, _, _, rfl, rfl, wide_mul (a := 64) (b := 20) (by decide) bz (by decide) (by decide) (by decide), ?_⟩
      refine ⟨_, rfl, _, _, _, _, rfl, rfl, SqL.of hb2, rfl, _, _, rfl, rfl, wide_mul d2 bz (by decide) (by decide) (by decide), ?_⟩
      refine ⟨_, _, rfl, rfl, ?_⟩
      refine ⟨_, rfl, _, rfl, _, _, rfl, rfl, wide_mul d4 d4 (by decide) (by decide) (by decide), .inl ⟨_, rfl, ?_⟩⟩
      refine ⟨_, _, rfl, rfl, ⟨by decide, by decide, by decide⟩, _, _, rfl, rfl, _, _, rfl, rfl, (show (10 ^ Int.toNat 41 + 37 : Int) ≠ 0 by decide), ?_⟩
      generalize hM : ((y + 1) * (30011 * (z + 1) + 7) + 104729 * (z + 1) * (z + 1)) * ((y + 1) * (30011 * (z + 1) + 7) + 104729 * (z + 1) * (z + 1)) = M
      have m2a : (M.fmod (10 ^ 41 + 37)).natAbs < 2 ^ 140 := by
        have a1 := Int.fmod_nonneg_of_pos M (b := 10 ^ 41 + 37) (by decide)
        have a2 := Int.fmod_lt_of_pos M (b := 10 ^ 41 + 37) (by decide)
        omega
      have m2b : (M.fmod (10 ^ 41 + 37) + 97).natAbs < 2 ^ 140 := by
        have a1 := Int.fmod_nonneg_of_pos M (b := 10 ^ 41 + 37) (by decide)
        have a2 := Int.fmod_lt_of_pos M (b := 10 ^ 41 + 37) (by decide)
        omega
      refine ⟨_, rfl, _, rfl, _, _, rfl, rfl, _, _, rfl, rfl, wide_mul m2a m2b (by decide) (by decide) (by decide), .inl ⟨_, rfl, ?_⟩⟩
      refine ⟨_, _, rfl, rfl, ⟨by decide, by decide, by decide⟩, _, _, rfl, rfl, _, _, rfl, rfl, (show (10 ^ Int.toNat 40 + 4323 : Int) ≠ 0 by decide), ?_⟩
      refine ⟨_, rfl, _, _, rfl, rfl, wide_div (b := 20) (by decide) (by decide) (by decide) (by decide), .inl ⟨_, rfl, _, rfl, _, _, rfl, rfl, (by omega), ?_⟩⟩
      exact k _ x y (z + 1) (Int.fmod_nonneg_of_pos _ m0) (Int.fmod_lt_of_pos _ m0) ⟨hx0, hy0, hB.y1, by omega, by omega⟩
/-- bag(script, k) -/
def spBag (K : PySem.W.Frag) : Sp := fun vs H Q _ => ∃ (a : Addr) (ns : List Int) (j : Nat), vs = [.ref a, .int (j : Int)] ∧ SqL K H a (ns.map V.int) ∧ j ≤ 100 ∧ ns.length ≤ 100 ∧
  ∀ (H' : Hp) (p : Addr) (x y z : Int), Same H H' → H p = none → H' p = some (.lst [.int x, .int y, .int z]) → BagN 10000 x y z → Q (.ref p) H'
theorem sc_law_bag : FnScope ["_law_script", "_law_k", "_law_cell"] ["_law_script", "_law_k"] (defScope s_law_bag) := ⟨rfl, rfl, rfl, by decide +kernel, rfl, by decide +kernel, by decide +kernel⟩
theorem ok_bag {f : Addr} {fd : FuncData} (F : FnP K "_law_bag" s_law_bag f fd) (g_int : mg "int" = none) (g_sum : mg "sum" = none) (g_len : mg "len" = none) (g_max : mg "max" = none) : FnOk P w K mg base CX0 2 f fd ["_law_script", "_law_k"] (spBag K) := by
  refine F.ok sc_law_bag (fun vs H Q E h => ?_) (fun cdv A outer s H vs Q E hr h => ⟨_, PSs.nox
    (pss_cons (ps_set (i := 2) sc_law_bag.nd rfl (Or.inl rfl) (pe_op op_modN (pe_callTy call_int1 (by rfl) g_int (by decide +kernel) (pa_cons (pe_callB (cr_sum rfl) (by rfl) g_sum (by decide +kernel) (pa_cons (pe_slice sl_list (pv 0) po_none (po_some pe_int)) pa_nil)) pa_nil)) pe_int))
      (C8.pss_cut (ps_if (pt_cmpR op_lt (pv 1) (pe_callB call_len_seq (by rfl) g_len PySem.boot_len (pa_cons (pv 0) pa_nil)) (nomark _)) (pss_one (ps_set (i := 2) sc_law_bag.nd rfl (Or.inl rfl) (pe_ix ix_list (pv 0) (pv 1) (fun _ _ => rfl)))) pss_nil)
      (pss_one (ps_ret (pe_lst (pa_cons (pe_callB (call_max2 rfl) (by rfl) g_max (by decide +kernel) (pa_cons pe_int (pa_cons (pe_op op_sub (pv 2) (pe_op op_pow pe_int pe_int)) pa_nil))) (pa_cons (pe_op op_modN (pe_callTy call_int1 (by rfl) g_int (by decide +kernel) (pa_cons (pv 2) pa_nil)) (pe_op op_add (pe_op op_pow pe_int pe_int) pe_int)) (pa_cons (pe_op op_mulW pe_int (pv 1)) pa_nil)))))))), ?_⟩)
  · obtain ⟨a, ns, j, rfl, _⟩ := h
    rfl
  · obtain ⟨a, ns, j, rfl, hS, hj, hl, k⟩ := h
    refine ⟨_, rfl, _, rfl, _, _, rfl, hS, fun p np => ?_⟩
    have e1 : cutV (ns.map V.int) none (some 1) = (ns.take 1).map V.int := by
      cases ns with
      | nil => rfl
      | cons a r =>
        show ((List.map V.int (a :: r)).drop 0).take (min (Int.toNat 1) (List.map V.int (a :: r)).length - 0) = _
        simp
    have hp1 : (upd H p (.lst (cutV (ns.map V.int) none (some 1)))) p = some (.lst ((ns.take 1).map V.int)) := by rw [upd_same, e1]
    refine ⟨_, ns.take 1, rfl, SqL.of hp1, .inl ⟨_, rfl, _, _, rfl, rfl, (show (1000003 : Int) ≠ 0 by decide), ?_⟩⟩
    have hS1 : SqL K (upd H p (.lst (cutV (ns.map V.int) none (some 1)))) a (ns.map V.int) := Same.seq (fun b o e => by rw [upd_ne (ne_of_none e np)]; exact e) hS
    have s1 : Same H (upd H p (.lst (cutV (ns.map V.int) none (some 1)))) := fun b o e => by rw [upd_ne (ne_of_none e np)]; exact e
    generalize upd H p (.lst (cutV (ns.map V.int) none (some 1))) = H1 at hS1 s1
    refine ⟨fun σ' H' => ∃ c : Int, σ' = [some (.ref a), some (.int (j : Int)), some (.int c)] ∧ H' = H1, ?_, ?_⟩
    · refine ⟨_, rfl, _, rfl, _, _, rfl, .inl hS1, _, _, rfl, rfl, _, rfl, ?_⟩
      refine ite2 (fun hx => ?_) (fun hx => ?_)
      · have hx := of_decide_eq_true hx
        rw [List.length_map] at hx
        have hjl : j < ns.length := by omega
        have hg : (ns.map V.int)[j]? = some (V.int ns[j]) := by rw [List.getElem?_map, List.getElem?_eq_getElem hjl]; rfl
        refine ⟨_, rfl, _, rfl, _, _, _, _, rfl, rfl, hS1, atI_nat hg, ?_⟩
        exact ⟨_, rfl, rfl⟩
      · exact ⟨_, rfl, rfl⟩
    · rintro _ _ ⟨c, rfl, rfl⟩
      refine ⟨_, rfl, _, _, rfl, rfl, ⟨by decide, by decide, by decide⟩, _, _, rfl, rfl, ?_⟩
      refine ⟨_, _, rfl, _, rfl, .inl ⟨_, rfl, _, _, rfl, rfl, ⟨by decide, by decide, by decide⟩, _, _, rfl, rfl, _, _, rfl, rfl, (show (10 ^ Int.toNat 40 + 121 : Int) ≠ 0 by decide), ?_⟩⟩
      refine ⟨_, rfl, _, _, rfl, rfl, wide_mul (a := 64) (b := 20) (by decide) (by omega) (by decide) (by decide) (by decide), (by show 3 ≤ sizeLine; decide), fun p2 np2 => ?_⟩
      have a1 := Int.fmod_nonneg_of_pos c (b := 10 ^ Int.toNat 40 + 121) (by decide)
      have a2 := Int.fmod_lt_of_pos c (b := 10 ^ Int.toNat 40 + 121) (by decide)
      refine k _ p2 _ _ _ (s1.trans fun b o e => by rw [upd_ne (ne_of_none e np2)]; exact e) (s1.free np2) upd_same ⟨?_, a1, ?_, by omega, by omega⟩
      · split <;> omega
      · have e : (10 ^ Int.toNat 40 + 121 : Int) = 10 ^ 40 + 121 := rfl
        rw [e] at a1 a2
        have e2 : (10 ^ 40 + 121 : Int) ≤ 2 ^ 134 := by decide
        show (c.fmod (10 ^ 40 + 121)).natAbs < 2 ^ 134
        omega
theorem upd_id {H : Hp} {b : Addr} {o : HO} (h : H b = some o) : upd H b o = H := by
  funext a
  by_cases e : a = b
  · subst e
    rw [upd_same, h]
  · rw [upd_ne e]
end
end My

end
section
set_option Elab.async false
set_option linter.all false
set_option maxRecDepth 100000
set_option maxHeartbeats 4000000
/-! own exceptions: super().__init__(f'..') and their fields -/
namespace PySem
namespace SupY
open PySem.W PySem.Calls PyProof.Rows PySem.HandSPX
/-- the __init__ of the i-th statement of the top, a class -/
def ini (i : Nat) : Stmt := L2.inClass (PySem.Challenge.pw_imagetalk_k00_error_classes.main.body.getD i (.Pass ⟨0, 0, 0, 0⟩)) 0
structure SupTxt (prog : Program) (K : Frag) (mg : Str → Option Value) (i : Nat) (qual : Str) (fs : List Str) (C fI : Addr) : Prop where
  kC : keepIn K (.ref C) = true
  exC : subIn K (.ref C) (.type "BaseException") = some true
  tyC : typeIn K (.ref C) = some (.type "type")
  cls : ∃ nm q N bs bm sn sub ab col dd k0 k1 k2 k3 k5, K.lookup C = some (excClassObj nm q C N bs bm true sn sub ab col dd k0 k1 k2 k3 k5 "ValueError.__new__") ∧ refsVE bm = true ∧ alongIn K "__init__" bm = some (some (.builtin "ValueError.__init__"))
  sa : findIn K (.ref C) "__setattr__" = some (some (.builtin "object.__setattr__"))
  noN : ∀ f ∈ fs, findIn K (.ref C) f = some none
  iC : findIn K (.ref C) "__init__" = some (some (.ref fI))
  tC : typeIn K (.ref fI) = some (.type "function")
  noS : mg "super" = none
  tp : nsIn K cStatics "thirdparty.any" = some none
  subVE : subIn K (.ref C) (.type "ValueError") = some true
  mroC : mroIn K C (.ref C) = some true
  top : (prog.main.scope.names.lookup ("super" : Str)).isSome = false
  fn : ∃ (oc doc pm ct : Value) (od an : Option Addr) (osl : Array (Option Value)) (cda cc : Addr) (ccl cl : Value) (cdd cld : Option Addr) (ccs csl : Array (Option Value)) (vs : Array Value) (file : Str) (tf : Tok),
    K.lookup fI = some ⟨oc, od, .func (ksFn "__init__" qual (L2.defArgs (ini i)) (L2.defBody (ini i)) (L2.defScope (ini i)) .none .none doc pm an (.ref cda) ct cc), osl⟩ ∧ codeIn K (.ref cda) qual = true ∧
    K.lookup cda = some ⟨ccl, cdd, .fields vs, ccs⟩ ∧ vs[2]? = some (.str file tf) ∧ ((prog.main.file : Str) == file) = true ∧ K.lookup cc = some ⟨cl, cld, .cell (some (.ref C)), csl⟩
/-- what __init__ leaves of a fresh exception at x: mA its fields -/
structure InitEnd (h h' : Heap) (x C dx : Addr) (mA : Str → Option Value) : Prop where
  keep : ∀ b o, b ≠ x → h.get? b = some o → h'.get? b = some o
  obj : ∃ t1, h'.get? x = some { cls := .ref C, dict := some dx, data := .fields #[.ref t1, .none, .none, .none, .bool false, .none] }
  dbig : h.objs.size ≤ dx
  dne : dx ≠ x
  ns : h'.Ns1 dx mA
theorem one_size (v : Value) : [v].length ≤ sizeLine := by
  rw [sizeLine_eq]
  exact (by decide : 1 ≤ 16777216)
theorem ints_repr {prog : Program} {w : World} : ∀ {l : List Value}, (∀ v ∈ l, ∃ (n : Int) (t : Tok), v = .int n t ∧ n.natAbs.log2 < 64) → ∃ ts : List Str, ReprAll prog w l ts ∧ piled ts ≤ 1923 * l.length
  | [], _ => ⟨[], .nil, by decide⟩
  | v :: l, h => by
    obtain ⟨n, t, rfl, hn⟩ := h _ List.mem_cons_self
    obtain ⟨ts, hts, hp⟩ := ints_repr (prog := prog) (w := w) (l := l) fun v hv => h v (List.mem_cons_of_mem _ hv)
    refine ⟨_, .cons (.int t (by omega)) hts, ?_⟩
    have lz := int_text_len_1921 (i := n) (by omega)
    rw [piled_cons, List.length_cons]
    have e : (Str.ofString (toString n)).length = ((toString n : String) : Str).length := rfl
    omega
section
variable {prog : Program} {w : World} {A : Around} {E : Value → Shared → Prop} {R : Result → Shared → Prop} {s : Shared} {K : Frag} {mg : Str → Option Value} {base : Heap} {C fI : Addr} {qual : Str}
theorem ini_BadSource (T : SupTxt prog K mg 2 qual ["place"] C fI) {x t0 : Addr} {args : Args} {n_place : Int} {t_place : Tok} (hn_place : n_place.natAbs.log2 < 64) (MD : L2.Mod K mg base) (hbs : ∀ b o, base.get? b = some o → s.heap.get? b = some o) (hx : s.heap.get? x = some (excO C t0)) (hnx : K.lookup x = none) (hroom : A.depth < recursionLimit) (hun : A.units + 20 < cLine)
    (hargs : args = ⟨[.ref x, .int n_place t_place], []⟩ ∨ args = ⟨[.ref x], [("place", .int n_place t_place)]⟩)
    (hq : ∀ h' tk dx, InitEnd s.heap h' x C dx (fun y => if y = "place" then some (.int n_place t_place) else none) → R (.ok (.ret .none)) { s with heap := h', toks := tk }) :
    codeAny (model prog w) A (.call (.ref fI) args) R s := by
  obtain ⟨oc, doc, pm, ct, od, an, osl, cda, cc, ccl, cl, cdd, cld, ccs, csl, vs, file, tf, lk, hcd, hcode, hvs, hfile, hcell⟩ := T.fn
  obtain ⟨nm, q, N, bs, bm, sn, sub, ab, col, dd, k0, k1, k2, k3, k5, hC, hbm, hal⟩ := T.cls
  have X : K.In s.heap := fun a o e => hbs _ _ (MD.kin a o e)
  have hlim : s.heap.NoLimit := MD.nolimit.keeps hbs
  have hloc : ∀ y ∈ ([((PySem.Str.ofString "self" : Str), Value.ref x), (Str.ofString "place", Value.int n_place t_place)] : List (Str × Value)), (L2.defScope (ini 2)).names.lookup y.1 = some .local := fun y hy => by
    simp only [List.mem_cons, List.not_mem_nil, or_false] at hy
    rcases hy with rfl | rfl <;> rfl
  have hbd : BindsTo s (ksFn "__init__" qual (L2.defArgs (ini 2)) (L2.defBody (ini 2)) (L2.defScope (ini 2)) .none .none doc pm an (.ref cda) ct cc) args [("self", .ref x), ("place", .int n_place t_place)] := by
    rcases hargs with rfl | rfl <;> exact BindsTo.of_eq (by first | rfl | with_unfolding_all rfl)
  refine ks_codeAny_call_defAt (fd := ksFn "__init__" qual (L2.defArgs (ini 2)) (L2.defBody (ini 2)) (L2.defScope (ini 2)) .none .none doc pm an (.ref cda) ct cc) (binds := [("self", .ref x), ("place", .int n_place t_place)]) hroom (X _ _ lk) rfl hlim (codeRec_of X hcd) rfl hbd (by show ∀ x ∈ (L2.defScope (ini 2)).names, x.2 ≠ .cell; decide +kernel) hloc (fun h₁ hns hk => ?_) rfl rfl rfl
  have X₁ : K.In h₁ := X.keeps hk
  have hx₁ := hk _ _ hx
  show wpAt _ _ _ (execs (L2.defBody (ini 2)) (ksEnv qual (L2.defScope (ini 2)) s.heap.objs.size fI (.ref cda) cc)) _ _ _
  refine ks_wpAt_execs_cons (ks_wpAt_Expr_any (ks_wpAt_MethodCall ?_))
  obtain ⟨mb, hmb, hmb2⟩ := MD.blt
  have hD2 : (excClassObj nm q C N bs bm true sn sub ab col dd k0 k1 k2 k3 k5 "ValueError.__new__").data = .cls { name := nm, bases := bs, mro := .ref C :: bm, ns := N, qualname := q, hasDict := true, slotNames := sn, subclasses := sub, abstract := ab, collection := col, hasDel := false } := rfl
  refine ks_wpAt_super_base (env := ksEnv qual (L2.defScope (ini 2)) s.heap.objs.size fI (.ref cda) cc) rfl rfl (by decide) rfl (X₁ _ _ lk) rfl rfl rfl (X₁ _ _ hcode) rfl hvs hfile T.top ?_
  refine ks_loadName_global rfl rfl (loadGlobal_builtin (env := ksEnv qual (L2.defScope (ini 2)) s.heap.objs.size fI (.ref cda) cc) ((MD.glob.keeps hbs).keeps hk) T.noS ((hmb.keeps hbs).keeps hk) ((hmb2 _ (by decide +kernel)).trans (by first | boot_by_name | rfl | kernel_rfl | decide +kernel)) ⟨rfl, ?_⟩)
  refine wpAny_loadName_free rfl rfl rfl ⟨_, X₁ _ _ hcell, rfl⟩ ?_
  refine wpAny_loadName_local rfl rfl hns rfl ?_
  refine ks_wpAny_isType_cls (X₁ _ _ hC) hD2 ⟨rfl, ?_⟩
  refine ks_wpAny_call_super (X₁ _ _ hC) hD2 hx₁ rfl (fun c e => by cases e) (looks_mroIn X₁ T.mroC) (fun h₂ e₂ k₂ => ?_)
  have X₂ : K.In h₂ := X₁.keeps k₂
  have hx₂ := k₂ _ _ hx₁
  have I₂ : InstAt h₂ x (excO C t0) C none := ⟨hx₂, rfl, rfl, trivial⟩
  have hxC : x ≠ C := fun e => by
    rw [e] at hx₂
    have := (X₂ _ _ hC).symm.trans hx₂
    cases this
  have hmro : Looks (model prog w) h₂ (mroOf (.ref C)) (.ref C :: bm) := fun A' Q' E' s' k' q' => wpAny_bind ((looks_clsIn X₂ (show clsIn K C = some { name := nm, bases := bs, mro := .ref C :: bm, ns := N, qualname := q, hasDict := true, slotNames := sn, subclasses := sub, abstract := ab, collection := col, hasDel := false } by unfold clsIn; rw [hC] <;> rfl)) A' _ E' s' k' (wpAny_pure q'))
  refine kxs_getMethod kxs_ValueError e₂ (looks_opaque X₂ T.tp) hmro (l := bm) (by simp [List.dropWhile_cons]) X₂ hal (I₂.type.andThen (looks_subIn X₂ T.subVE)) hxC (by decide) ?_
  have e₃ : (h₂.push (kxs_mw "ValueError.__init__" x)).get? h₂.objs.size = some (kxs_mw "ValueError.__init__" x) := Heap.get?_push_at rfl rfl
  have k₃ : ∀ b o, h₂.get? b = some o → (h₂.push (kxs_mw "ValueError.__init__" x)).get? b = some o := fun b o e => Heap.get?_push_of_some _ e
  have up : ∀ b o, h₁.get? b = some o → (h₂.push (kxs_mw "ValueError.__init__" x)).get? b = some o := fun b o e => k₃ _ _ (k₂ _ _ e)
  generalize hh₃ : h₂.push (kxs_mw "ValueError.__init__" x) = h₃ at e₃ k₃ up ⊢
  have hns₃ := hns.keeps up
  refine kxs_callWith (i := "ValueError.__init__") (x := x) rfl ?_
  refine evalArgs_plain ?_
  refine spliced_cons ?_
  rw [if_neg Bool.false_ne_true]
  refine PyProof.Rows.JoinedStr_many ?_
  refine PyProof.Rows.joinParts_cons ?_
  have lc0 : (("bad source at " : Str)).length ≤ 30 := by decide +kernel
  have lnil : (Str.empty : Str).length ≤ 0 := by decide +kernel
  have la0 : (Str.empty ++ ("bad source at " : Str)).length ≤ 30 := by
    rw [PySem.Str.length_append]
    omega
  refine Constant_str ⟨Nat.le_trans la0 (by rw [sizeLine_eq]; decide), ?_⟩
  refine PyProof.Rows.joinParts_cons ?_
  refine wpAny_FormattedValue_plain ?_
  refine wpAny_Name (wpAny_loadName_local rfl rfl hns₃ rfl ?_) (by decide)
  have lc1 := int_text_len_1921 (i := n_place) (by omega)
  have la1 : ((Str.empty ++ ("bad source at " : Str)) ++ Str.ofString (toString n_place)).length ≤ 1951 := by
    rw [PySem.Str.length_append]
    omega
  refine wpAny_formatField_int (by omega) ⟨Nat.le_trans la1 (by rw [sizeLine_eq]; decide), ?_⟩
  refine PyProof.Rows.joinParts_nil ?_ (Nat.le_trans la1 (by rw [sizeLine_eq]; decide))
  dsimp only
  generalize (Value.str _ _) = vt
  refine spliced_nil ⟨e₃, ?_⟩
  show wpAny _ _ (call (.ref h₂.objs.size) [vt]) _ _ _
  have hx₃ : h₃.get? x = some (excRec (.ref C) t0 none .none .none (.bool false)) := k₃ _ _ hx₂
  have X₃ : K.In h₃ := X₂.keeps k₃
  refine wpAny_call (codeAny_of_tree ?_)
  show wpAny _ _ (callAny (.ref h₂.objs.size) ⟨[vt], []⟩) _ _ _
  simp only [callAny]
  refine wpAny_bind (wpAny_load e₃ ?_)
  simp only [kxs_mw, show (Value.type "method-wrapper" == Value.type "method" || Value.type "method-wrapper" == Value.type "builtin_function_or_method" || Value.type "method-wrapper" == Value.type "method-wrapper") = true by decide, if_true]
  refine KFB.if_so (by decide) ?_
  refine wpAny_bind (check_bound_init PySem.F.excBase_ValueError.toExcCallFacts (X₃ _ _ hC) hx₃ rfl ?_)
  refine wpAny_bind (wpAny_pure (wpAny_pure ?_))
  refine ⟨plainId_quiet PySem.F.excBase_ValueError.init.plain _, codeAny_builtin PySem.F.excBase_ValueError.initEntry ?_⟩
  refine exc_init_tree (cls := .ref C) (t0 := t0) (dv := none) (c2 := .none) (c3 := .none) (b4 := .bool false) hx₃ (one_size _) fun h₄ k₄ x₄ t₄ => ?_
  dsimp only
  have X₄ : K.In h₄ := fun a o e => k₄ _ _ (fun z => by rw [z, hnx] at e; cases e) (X₃ _ _ e)
  have hxL : s.heap.objs.size ≠ x := Nat.ne_of_gt (Heap.lt_size hx)
  have hns₄ : h₄.Ns s.heap.objs.size (fun y => List.lookup y ([((PySem.Str.ofString "self" : Str), Value.ref x), (Str.ofString "place", Value.int n_place t_place)] : List (Str × Value)).reverse) := by
    obtain ⟨o, es, ep, g, r⟩ := hns₃
    exact ⟨o, es, ep, k₄ _ _ hxL g, r⟩
  have z₁ : s.heap.objs.size < h₄.objs.size := hns₄.lt
  refine ks_wpAt_execs_cons (ks_wpAt_Assign_Attr (wpAt_of_wpAny ?_))
  refine wpAny_Name (wpAny_loadName_local rfl rfl hns₄ rfl ?_) (by decide)
  refine wpAny_Name (wpAny_loadName_local rfl rfl hns₄ rfl ?_) (by decide)
  refine set_plain X₄ (ox := excO C h₃.objs.size) (od := none) ⟨x₄, rfl, rfl, trivial⟩ T.sa ?_
  have hcl : clsIn K C = some { name := nm, bases := bs, mro := .ref C :: bm, ns := N, qualname := q, hasDict := true, slotNames := sn, subclasses := sub, abstract := ab, collection := col, hasDel := false } := by unfold clsIn; rw [hC] <;> rfl
  refine exc_osa X₄ x₄ hcl (show refsVE (.ref C :: bm) = true from hbm) rfl (T.noN _ (by decide)) (fun h₅ tk₅ dx k₅ dn dne hx₅ hn₅ => ?_)
  show wpAt _ _ _ (execs [] _) _ _ _
  refine wpAt_of_wpAny (wpAny_execs_nil ?_)
  exact hq h₅ tk₅ dx ⟨fun b o hb e => k₅ b o hb (k₄ b o hb (up _ _ (hk _ _ e))), ⟨_, hx₅⟩, Nat.le_of_lt (Nat.lt_of_lt_of_le z₁ dn), dne, hn₅⟩
theorem ini_BadProgram (T : SupTxt prog K mg 7 qual ["where"] C fI) {x t0 : Addr} {args : Args} {a_where : Addr} {o_where : Obj} {l_where : List Value} {m_where : Nat} (ho_where : s.heap.get? a_where = some o_where) (hc_where : o_where.cls = .type "tuple") (hd_where : o_where.data = .seq l_where.toArray m_where) (hl_where : ∀ v ∈ l_where, ∃ (n : Int) (t : Tok), v = .int n t ∧ n.natAbs.log2 < 64) (hll_where : l_where.length ≤ 10) (MD : L2.Mod K mg base) (hbs : ∀ b o, base.get? b = some o → s.heap.get? b = some o) (hx : s.heap.get? x = some (excO C t0)) (hnx : K.lookup x = none) (hroom : A.depth < recursionLimit) (hun : A.units + 20 < cLine)
    (hargs : args = ⟨[.ref x, .ref a_where], []⟩ ∨ args = ⟨[.ref x], [("where", .ref a_where)]⟩)
    (hq : ∀ h' tk dx, InitEnd s.heap h' x C dx (fun y => if y = "where" then some (.ref a_where) else none) → R (.ok (.ret .none)) { s with heap := h', toks := tk }) :
    codeAny (model prog w) A (.call (.ref fI) args) R s := by
  obtain ⟨oc, doc, pm, ct, od, an, osl, cda, cc, ccl, cl, cdd, cld, ccs, csl, vs, file, tf, lk, hcd, hcode, hvs, hfile, hcell⟩ := T.fn
  obtain ⟨nm, q, N, bs, bm, sn, sub, ab, col, dd, k0, k1, k2, k3, k5, hC, hbm, hal⟩ := T.cls
  have X : K.In s.heap := fun a o e => hbs _ _ (MD.kin a o e)
  have hlim : s.heap.NoLimit := MD.nolimit.keeps hbs
  have hloc : ∀ y ∈ ([((PySem.Str.ofString "self" : Str), Value.ref x), (Str.ofString "where", Value.ref a_where)] : List (Str × Value)), (L2.defScope (ini 7)).names.lookup y.1 = some .local := fun y hy => by
    simp only [List.mem_cons, List.not_mem_nil, or_false] at hy
    rcases hy with rfl | rfl <;> rfl
  have hbd : BindsTo s (ksFn "__init__" qual (L2.defArgs (ini 7)) (L2.defBody (ini 7)) (L2.defScope (ini 7)) .none .none doc pm an (.ref cda) ct cc) args [("self", .ref x), ("where", .ref a_where)] := by
    rcases hargs with rfl | rfl <;> exact BindsTo.of_eq (by first | rfl | with_unfolding_all rfl)
  refine ks_codeAny_call_defAt (fd := ksFn "__init__" qual (L2.defArgs (ini 7)) (L2.defBody (ini 7)) (L2.defScope (ini 7)) .none .none doc pm an (.ref cda) ct cc) (binds := [("self", .ref x), ("where", .ref a_where)]) hroom (X _ _ lk) rfl hlim (codeRec_of X hcd) rfl hbd (by show ∀ x ∈ (L2.defScope (ini 7)).names, x.2 ≠ .cell; decide +kernel) hloc (fun h₁ hns hk => ?_) rfl rfl rfl
  have X₁ : K.In h₁ := X.keeps hk
  have hx₁ := hk _ _ hx
  show wpAt _ _ _ (execs (L2.defBody (ini 7)) (ksEnv qual (L2.defScope (ini 7)) s.heap.objs.size fI (.ref cda) cc)) _ _ _
  refine ks_wpAt_execs_cons (ks_wpAt_Expr_any (ks_wpAt_MethodCall ?_))
  obtain ⟨mb, hmb, hmb2⟩ := MD.blt
  have hD2 : (excClassObj nm q C N bs bm true sn sub ab col dd k0 k1 k2 k3 k5 "ValueError.__new__").data = .cls { name := nm, bases := bs, mro := .ref C :: bm, ns := N, qualname := q, hasDict := true, slotNames := sn, subclasses := sub, abstract := ab, collection := col, hasDel := false } := rfl
  refine ks_wpAt_super_base (env := ksEnv qual (L2.defScope (ini 7)) s.heap.objs.size fI (.ref cda) cc) rfl rfl (by decide) rfl (X₁ _ _ lk) rfl rfl rfl (X₁ _ _ hcode) rfl hvs hfile T.top ?_
  refine ks_loadName_global rfl rfl (loadGlobal_builtin (env := ksEnv qual (L2.defScope (ini 7)) s.heap.objs.size fI (.ref cda) cc) ((MD.glob.keeps hbs).keeps hk) T.noS ((hmb.keeps hbs).keeps hk) ((hmb2 _ (by decide +kernel)).trans (by first | boot_by_name | rfl | kernel_rfl | decide +kernel)) ⟨rfl, ?_⟩)
  refine wpAny_loadName_free rfl rfl rfl ⟨_, X₁ _ _ hcell, rfl⟩ ?_
  refine wpAny_loadName_local rfl rfl hns rfl ?_
  refine ks_wpAny_isType_cls (X₁ _ _ hC) hD2 ⟨rfl, ?_⟩
  refine ks_wpAny_call_super (X₁ _ _ hC) hD2 hx₁ rfl (fun c e => by cases e) (looks_mroIn X₁ T.mroC) (fun h₂ e₂ k₂ => ?_)
  have X₂ : K.In h₂ := X₁.keeps k₂
  have hx₂ := k₂ _ _ hx₁
  have I₂ : InstAt h₂ x (excO C t0) C none := ⟨hx₂, rfl, rfl, trivial⟩
  have hxC : x ≠ C := fun e => by
    rw [e] at hx₂
    have := (X₂ _ _ hC).symm.trans hx₂
    cases this
  have hmro : Looks (model prog w) h₂ (mroOf (.ref C)) (.ref C :: bm) := fun A' Q' E' s' k' q' => wpAny_bind ((looks_clsIn X₂ (show clsIn K C = some { name := nm, bases := bs, mro := .ref C :: bm, ns := N, qualname := q, hasDict := true, slotNames := sn, subclasses := sub, abstract := ab, collection := col, hasDel := false } by unfold clsIn; rw [hC] <;> rfl)) A' _ E' s' k' (wpAny_pure q'))
  refine kxs_getMethod kxs_ValueError e₂ (looks_opaque X₂ T.tp) hmro (l := bm) (by simp [List.dropWhile_cons]) X₂ hal (I₂.type.andThen (looks_subIn X₂ T.subVE)) hxC (by decide) ?_
  have e₃ : (h₂.push (kxs_mw "ValueError.__init__" x)).get? h₂.objs.size = some (kxs_mw "ValueError.__init__" x) := Heap.get?_push_at rfl rfl
  have k₃ : ∀ b o, h₂.get? b = some o → (h₂.push (kxs_mw "ValueError.__init__" x)).get? b = some o := fun b o e => Heap.get?_push_of_some _ e
  have up : ∀ b o, h₁.get? b = some o → (h₂.push (kxs_mw "ValueError.__init__" x)).get? b = some o := fun b o e => k₃ _ _ (k₂ _ _ e)
  generalize hh₃ : h₂.push (kxs_mw "ValueError.__init__" x) = h₃ at e₃ k₃ up ⊢
  have hns₃ := hns.keeps up
  refine kxs_callWith (i := "ValueError.__init__") (x := x) rfl ?_
  refine evalArgs_plain ?_
  refine spliced_cons ?_
  rw [if_neg Bool.false_ne_true]
  refine PyProof.Rows.JoinedStr_many ?_
  refine PyProof.Rows.joinParts_cons ?_
  have lc0 : (("bad program at " : Str)).length ≤ 30 := by decide +kernel
  have lnil : (Str.empty : Str).length ≤ 0 := by decide +kernel
  have la0 : (Str.empty ++ ("bad program at " : Str)).length ≤ 30 := by
    rw [PySem.Str.length_append]
    omega
  refine Constant_str ⟨Nat.le_trans la0 (by rw [sizeLine_eq]; decide), ?_⟩
  refine PyProof.Rows.joinParts_cons ?_
  refine wpAny_FormattedValue_plain ?_
  refine wpAny_Name (wpAny_loadName_local rfl rfl hns₃ rfl ?_) (by decide)
  obtain ⟨ts, hts, hpt⟩ := ints_repr (prog := prog) (w := w) hl_where
  have hft := fmt_text ts
  refine fmt_tuple (by show A.units + 3 + 2 < cLine; omega) (up _ _ (hk _ _ ho_where)) hc_where hd_where hts (by rw [sizeLine_eq]; omega) fun mm mu mtk hmm => ?_
  have la1 : ((Str.empty ++ ("bad program at " : Str)) ++ mm).length ≤ 20030 := by
    rw [PySem.Str.length_append]
    omega
  refine ⟨Nat.le_trans la1 (by rw [sizeLine_eq]; decide), ?_⟩
  refine PyProof.Rows.joinParts_nil ?_ (Nat.le_trans la1 (by rw [sizeLine_eq]; decide))
  dsimp only
  generalize (Value.str _ _) = vt
  refine spliced_nil ⟨e₃, ?_⟩
  show wpAny _ _ (call (.ref h₂.objs.size) [vt]) _ _ _
  have hx₃ : h₃.get? x = some (excRec (.ref C) t0 none .none .none (.bool false)) := k₃ _ _ hx₂
  have X₃ : K.In h₃ := X₂.keeps k₃
  refine wpAny_call (codeAny_of_tree ?_)
  show wpAny _ _ (callAny (.ref h₂.objs.size) ⟨[vt], []⟩) _ _ _
  simp only [callAny]
  refine wpAny_bind (wpAny_load e₃ ?_)
  simp only [kxs_mw, show (Value.type "method-wrapper" == Value.type "method" || Value.type "method-wrapper" == Value.type "builtin_function_or_method" || Value.type "method-wrapper" == Value.type "method-wrapper") = true by decide, if_true]
  refine KFB.if_so (by decide) ?_
  refine wpAny_bind (check_bound_init PySem.F.excBase_ValueError.toExcCallFacts (X₃ _ _ hC) hx₃ rfl ?_)
  refine wpAny_bind (wpAny_pure (wpAny_pure ?_))
  refine ⟨plainId_quiet PySem.F.excBase_ValueError.init.plain _, codeAny_builtin PySem.F.excBase_ValueError.initEntry ?_⟩
  refine exc_init_tree (cls := .ref C) (t0 := t0) (dv := none) (c2 := .none) (c3 := .none) (b4 := .bool false) hx₃ (one_size _) fun h₄ k₄ x₄ t₄ => ?_
  dsimp only
  have X₄ : K.In h₄ := fun a o e => k₄ _ _ (fun z => by rw [z, hnx] at e; cases e) (X₃ _ _ e)
  have hxL : s.heap.objs.size ≠ x := Nat.ne_of_gt (Heap.lt_size hx)
  have hns₄ : h₄.Ns s.heap.objs.size (fun y => List.lookup y ([((PySem.Str.ofString "self" : Str), Value.ref x), (Str.ofString "where", Value.ref a_where)] : List (Str × Value)).reverse) := by
    obtain ⟨o, es, ep, g, r⟩ := hns₃
    exact ⟨o, es, ep, k₄ _ _ hxL g, r⟩
  have z₁ : s.heap.objs.size < h₄.objs.size := hns₄.lt
  refine ks_wpAt_execs_cons (ks_wpAt_Assign_Attr (wpAt_of_wpAny ?_))
  refine wpAny_Name (wpAny_loadName_local rfl rfl hns₄ rfl ?_) (by decide)
  refine wpAny_Name (wpAny_loadName_local rfl rfl hns₄ rfl ?_) (by decide)
  refine set_plain X₄ (ox := excO C h₃.objs.size) (od := none) ⟨x₄, rfl, rfl, trivial⟩ T.sa ?_
  have hcl : clsIn K C = some { name := nm, bases := bs, mro := .ref C :: bm, ns := N, qualname := q, hasDict := true, slotNames := sn, subclasses := sub, abstract := ab, collection := col, hasDel := false } := by unfold clsIn; rw [hC] <;> rfl
  refine exc_osa X₄ x₄ hcl (show refsVE (.ref C :: bm) = true from hbm) rfl (T.noN _ (by decide)) (fun h₅ tk₅ dx k₅ dn dne hx₅ hn₅ => ?_)
  show wpAt _ _ _ (execs [] _) _ _ _
  refine wpAt_of_wpAny (wpAny_execs_nil ?_)
  exact hq h₅ tk₅ dx ⟨fun b o hb e => k₅ b o hb (k₄ b o hb (up _ _ (hk _ _ e))), ⟨_, hx₅⟩, Nat.le_of_lt (Nat.lt_of_lt_of_le z₁ dn), dne, hn₅⟩
theorem ini_BadText (T : SupTxt prog K mg 15 qual ["row"] C fI) {x t0 : Addr} {args : Args} {n_row : Int} {t_row : Tok} (hn_row : n_row.natAbs.log2 < 64) (MD : L2.Mod K mg base) (hbs : ∀ b o, base.get? b = some o → s.heap.get? b = some o) (hx : s.heap.get? x = some (excO C t0)) (hnx : K.lookup x = none) (hroom : A.depth < recursionLimit) (hun : A.units + 20 < cLine)
    (hargs : args = ⟨[.ref x, .int n_row t_row], []⟩ ∨ args = ⟨[.ref x], [("row", .int n_row t_row)]⟩)
    (hq : ∀ h' tk dx, InitEnd s.heap h' x C dx (fun y => if y = "row" then some (.int n_row t_row) else none) → R (.ok (.ret .none)) { s with heap := h', toks := tk }) :
    codeAny (model prog w) A (.call (.ref fI) args) R s := by
  obtain ⟨oc, doc, pm, ct, od, an, osl, cda, cc, ccl, cl, cdd, cld, ccs, csl, vs, file, tf, lk, hcd, hcode, hvs, hfile, hcell⟩ := T.fn
  obtain ⟨nm, q, N, bs, bm, sn, sub, ab, col, dd, k0, k1, k2, k3, k5, hC, hbm, hal⟩ := T.cls
  have X : K.In s.heap := fun a o e => hbs _ _ (MD.kin a o e)
  have hlim : s.heap.NoLimit := MD.nolimit.keeps hbs
  have hloc : ∀ y ∈ ([((PySem.Str.ofString "self" : Str), Value.ref x), (Str.ofString "row", Value.int n_row t_row)] : List (Str × Value)), (L2.defScope (ini 15)).names.lookup y.1 = some .local := fun y hy => by
    simp only [List.mem_cons, List.not_mem_nil, or_false] at hy
    rcases hy with rfl | rfl <;> rfl
  have hbd : BindsTo s (ksFn "__init__" qual (L2.defArgs (ini 15)) (L2.defBody (ini 15)) (L2.defScope (ini 15)) .none .none doc pm an (.ref cda) ct cc) args [("self", .ref x), ("row", .int n_row t_row)] := by
    rcases hargs with rfl | rfl <;> exact BindsTo.of_eq (by first | rfl | with_unfolding_all rfl)
  refine ks_codeAny_call_defAt (fd := ksFn "__init__" qual (L2.defArgs (ini 15)) (L2.defBody (ini 15)) (L2.defScope (ini 15)) .none .none doc pm an (.ref cda) ct cc) (binds := [("self", .ref x), ("row", .int n_row t_row)]) hroom (X _ _ lk) rfl hlim (codeRec_of X hcd) rfl hbd (by show ∀ x ∈ (L2.defScope (ini 15)).names, x.2 ≠ .cell; decide +kernel) hloc (fun h₁ hns hk => ?_) rfl rfl rfl
  have X₁ : K.In h₁ := X.keeps hk
  have hx₁ := hk _ _ hx
  show wpAt _ _ _ (execs (L2.defBody (ini 15)) (ksEnv qual (L2.defScope (ini 15)) s.heap.objs.size fI (.ref cda) cc)) _ _ _
  refine ks_wpAt_execs_cons (ks_wpAt_Expr_any (ks_wpAt_MethodCall ?_))
  obtain ⟨mb, hmb, hmb2⟩ := MD.blt
  have hD2 : (excClassObj nm q C N bs bm true sn sub ab col dd k0 k1 k2 k3 k5 "ValueError.__new__").data = .cls { name := nm, bases := bs, mro := .ref C :: bm, ns := N, qualname := q, hasDict := true, slotNames := sn, subclasses := sub, abstract := ab, collection := col, hasDel := false } := rfl
  refine ks_wpAt_super_base (env := ksEnv qual (L2.defScope (ini 15)) s.heap.objs.size fI (.ref cda) cc) rfl rfl (by decide) rfl (X₁ _ _ lk) rfl rfl rfl (X₁ _ _ hcode) rfl hvs hfile T.top ?_
  refine ks_loadName_global rfl rfl (loadGlobal_builtin (env := ksEnv qual (L2.defScope (ini 15)) s.heap.objs.size fI (.ref cda) cc) ((MD.glob.keeps hbs).keeps hk) T.noS ((hmb.keeps hbs).keeps hk) ((hmb2 _ (by decide +kernel)).trans (by first | boot_by_name | rfl | kernel_rfl | decide +kernel)) ⟨rfl, ?_⟩)
  refine wpAny_loadName_free rfl rfl rfl ⟨_, X₁ _ _ hcell, rfl⟩ ?_
  refine wpAny_loadName_local rfl rfl hns rfl ?_
  refine ks_wpAny_isType_cls (X₁ _ _ hC) hD2 ⟨rfl, ?_⟩
  refine ks_wpAny_call_super (X₁ _ _ hC) hD2 hx₁ rfl (fun c e => by cases e) (looks_mroIn X₁ T.mroC) (fun h₂ e₂ k₂ => ?_)
  have X₂ : K.In h₂ := X₁.keeps k₂
  have hx₂ := k₂ _ _ hx₁
  have I₂ : InstAt h₂ x (excO C t0) C none := ⟨hx₂, rfl, rfl, trivial⟩
  have hxC : x ≠ C := fun e => by
    rw [e] at hx₂
    have := (X₂ _ _ hC).symm.trans hx₂
    cases this
  have hmro : Looks (model prog w) h₂ (mroOf (.ref C)) (.ref C :: bm) := fun A' Q' E' s' k' q' => wpAny_bind ((looks_clsIn X₂ (show clsIn K C = some { name := nm, bases := bs, mro := .ref C :: bm, ns := N, qualname := q, hasDict := true, slotNames := sn, subclasses := sub, abstract := ab, collection := col, hasDel := false } by unfold clsIn; rw [hC] <;> rfl)) A' _ E' s' k' (wpAny_pure q'))
  refine kxs_getMethod kxs_ValueError e₂ (looks_opaque X₂ T.tp) hmro (l := bm) (by simp [List.dropWhile_cons]) X₂ hal (I₂.type.andThen (looks_subIn X₂ T.subVE)) hxC (by decide) ?_
  have e₃ : (h₂.push (kxs_mw "ValueError.__init__" x)).get? h₂.objs.size = some (kxs_mw "ValueError.__init__" x) := Heap.get?_push_at rfl rfl
  have k₃ : ∀ b o, h₂.get? b = some o → (h₂.push (kxs_mw "ValueError.__init__" x)).get? b = some o := fun b o e => Heap.get?_push_of_some _ e
  have up : ∀ b o, h₁.get? b = some o → (h₂.push (kxs_mw "ValueError.__init__" x)).get? b = some o := fun b o e => k₃ _ _ (k₂ _ _ e)
  generalize hh₃ : h₂.push (kxs_mw "ValueError.__init__" x) = h₃ at e₃ k₃ up ⊢
  have hns₃ := hns.keeps up
  refine kxs_callWith (i := "ValueError.__init__") (x := x) rfl ?_
  refine evalArgs_plain ?_
  refine spliced_cons ?_
  rw [if_neg Bool.false_ne_true]
  refine PyProof.Rows.JoinedStr_many ?_
  refine PyProof.Rows.joinParts_cons ?_
  have lc0 : (("bad text at row " : Str)).length ≤ 30 := by decide +kernel
  have lnil : (Str.empty : Str).length ≤ 0 := by decide +kernel
  have la0 : (Str.empty ++ ("bad text at row " : Str)).length ≤ 30 := by
    rw [PySem.Str.length_append]
    omega
  refine Constant_str ⟨Nat.le_trans la0 (by rw [sizeLine_eq]; decide), ?_⟩
  refine PyProof.Rows.joinParts_cons ?_
  refine wpAny_FormattedValue_plain ?_
  refine wpAny_Name (wpAny_loadName_local rfl rfl hns₃ rfl ?_) (by decide)
  have lc1 := int_text_len_1921 (i := n_row) (by omega)
  have la1 : ((Str.empty ++ ("bad text at row " : Str)) ++ Str.ofString (toString n_row)).length ≤ 1951 := by
    rw [PySem.Str.length_append]
    omega
  refine wpAny_formatField_int (by omega) ⟨Nat.le_trans la1 (by rw [sizeLine_eq]; decide), ?_⟩
  refine PyProof.Rows.joinParts_nil ?_ (Nat.le_trans la1 (by rw [sizeLine_eq]; decide))
  dsimp only
  generalize (Value.str _ _) = vt
  refine spliced_nil ⟨e₃, ?_⟩
  show wpAny _ _ (call (.ref h₂.objs.size) [vt]) _ _ _
  have hx₃ : h₃.get? x = some (excRec (.ref C) t0 none .none .none (.bool false)) := k₃ _ _ hx₂
  have X₃ : K.In h₃ := X₂.keeps k₃
  refine wpAny_call (codeAny_of_tree ?_)
  show wpAny _ _ (callAny (.ref h₂.objs.size) ⟨[vt], []⟩) _ _ _
  simp only [callAny]
  refine wpAny_bind (wpAny_load e₃ ?_)
  simp only [kxs_mw, show (Value.type "method-wrapper" == Value.type "method" || Value.type "method-wrapper" == Value.type "builtin_function_or_method" || Value.type "method-wrapper" == Value.type "method-wrapper") = true by decide, if_true]
  refine KFB.if_so (by decide) ?_
  refine wpAny_bind (check_bound_init PySem.F.excBase_ValueError.toExcCallFacts (X₃ _ _ hC) hx₃ rfl ?_)
  refine wpAny_bind (wpAny_pure (wpAny_pure ?_))
  refine ⟨plainId_quiet PySem.F.excBase_ValueError.init.plain _, codeAny_builtin PySem.F.excBase_ValueError.initEntry ?_⟩
  refine exc_init_tree (cls := .ref C) (t0 := t0) (dv := none) (c2 := .none) (c3 := .none) (b4 := .bool false) hx₃ (one_size _) fun h₄ k₄ x₄ t₄ => ?_
  dsimp only
  have X₄ : K.In h₄ := fun a o e => k₄ _ _ (fun z => by rw [z, hnx] at e; cases e) (X₃ _ _ e)
  have hxL : s.heap.objs.size ≠ x := Nat.ne_of_gt (Heap.lt_size hx)
  have hns₄ : h₄.Ns s.heap.objs.size (fun y => List.lookup y ([((PySem.Str.ofString "self" : Str), Value.ref x), (Str.ofString "row", Value.int n_row t_row)] : List (Str × Value)).reverse) := by
    obtain ⟨o, es, ep, g, r⟩ := hns₃
    exact ⟨o, es, ep, k₄ _ _ hxL g, r⟩
  have z₁ : s.heap.objs.size < h₄.objs.size := hns₄.lt
  refine ks_wpAt_execs_cons (ks_wpAt_Assign_Attr (wpAt_of_wpAny ?_))
  refine wpAny_Name (wpAny_loadName_local rfl rfl hns₄ rfl ?_) (by decide)
  refine wpAny_Name (wpAny_loadName_local rfl rfl hns₄ rfl ?_) (by decide)
  refine set_plain X₄ (ox := excO C h₃.objs.size) (od := none) ⟨x₄, rfl, rfl, trivial⟩ T.sa ?_
  have hcl : clsIn K C = some { name := nm, bases := bs, mro := .ref C :: bm, ns := N, qualname := q, hasDict := true, slotNames := sn, subclasses := sub, abstract := ab, collection := col, hasDel := false } := by unfold clsIn; rw [hC] <;> rfl
  refine exc_osa X₄ x₄ hcl (show refsVE (.ref C :: bm) = true from hbm) rfl (T.noN _ (by decide)) (fun h₅ tk₅ dx k₅ dn dne hx₅ hn₅ => ?_)
  show wpAt _ _ _ (execs [] _) _ _ _
  refine wpAt_of_wpAny (wpAny_execs_nil ?_)
  exact hq h₅ tk₅ dx ⟨fun b o hb e => k₅ b o hb (k₄ b o hb (up _ _ (hk _ _ e))), ⟨_, hx₅⟩, Nat.le_of_lt (Nat.lt_of_lt_of_le z₁ dn), dne, hn₅⟩
theorem ini_BadCodes (T : SupTxt prog K mg 17 qual ["body", "place"] C fI) {x t0 : Addr} {args : Args} {n_body : Int} {t_body : Tok} (hn_body : n_body.natAbs.log2 < 64) {n_place : Int} {t_place : Tok} (hn_place : n_place.natAbs.log2 < 64) (MD : L2.Mod K mg base) (hbs : ∀ b o, base.get? b = some o → s.heap.get? b = some o) (hx : s.heap.get? x = some (excO C t0)) (hnx : K.lookup x = none) (hroom : A.depth < recursionLimit) (hun : A.units + 20 < cLine)
    (hargs : args = ⟨[.ref x, .int n_body t_body, .int n_place t_place], []⟩ ∨ args = ⟨[.ref x], [("body", .int n_body t_body), ("place", .int n_place t_place)]⟩ ∨ args = ⟨[.ref x], [("place", .int n_place t_place), ("body", .int n_body t_body)]⟩)
    (hq : ∀ h' tk dx, InitEnd s.heap h' x C dx (fun y => if y = "place" then some (.int n_place t_place) else if y = "body" then some (.int n_body t_body) else none) → R (.ok (.ret .none)) { s with heap := h', toks := tk }) :
    codeAny (model prog w) A (.call (.ref fI) args) R s := by
  obtain ⟨oc, doc, pm, ct, od, an, osl, cda, cc, ccl, cl, cdd, cld, ccs, csl, vs, file, tf, lk, hcd, hcode, hvs, hfile, hcell⟩ := T.fn
  obtain ⟨nm, q, N, bs, bm, sn, sub, ab, col, dd, k0, k1, k2, k3, k5, hC, hbm, hal⟩ := T.cls
  have X : K.In s.heap := fun a o e => hbs _ _ (MD.kin a o e)
  have hlim : s.heap.NoLimit := MD.nolimit.keeps hbs
  have hloc : ∀ y ∈ ([((PySem.Str.ofString "self" : Str), Value.ref x), (Str.ofString "body", Value.int n_body t_body), (Str.ofString "place", Value.int n_place t_place)] : List (Str × Value)), (L2.defScope (ini 17)).names.lookup y.1 = some .local := fun y hy => by
    simp only [List.mem_cons, List.not_mem_nil, or_false] at hy
    rcases hy with rfl | rfl | rfl <;> rfl
  have hbd : BindsTo s (ksFn "__init__" qual (L2.defArgs (ini 17)) (L2.defBody (ini 17)) (L2.defScope (ini 17)) .none .none doc pm an (.ref cda) ct cc) args [("self", .ref x), ("body", .int n_body t_body), ("place", .int n_place t_place)] := by
    rcases hargs with rfl | rfl | rfl <;> exact BindsTo.of_eq (by first | rfl | with_unfolding_all rfl)
  refine ks_codeAny_call_defAt (fd := ksFn "__init__" qual (L2.defArgs (ini 17)) (L2.defBody (ini 17)) (L2.defScope (ini 17)) .none .none doc pm an (.ref cda) ct cc) (binds := [("self", .ref x), ("body", .int n_body t_body), ("place", .int n_place t_place)]) hroom (X _ _ lk) rfl hlim (codeRec_of X hcd) rfl hbd (by show ∀ x ∈ (L2.defScope (ini 17)).names, x.2 ≠ .cell; decide +kernel) hloc (fun h₁ hns hk => ?_) rfl rfl rfl
  have X₁ : K.In h₁ := X.keeps hk
  have hx₁ := hk _ _ hx
  show wpAt _ _ _ (execs (L2.defBody (ini 17)) (ksEnv qual (L2.defScope (ini 17)) s.heap.objs.size fI (.ref cda) cc)) _ _ _
  refine ks_wpAt_execs_cons (ks_wpAt_Expr_any (ks_wpAt_MethodCall ?_))
  obtain ⟨mb, hmb, hmb2⟩ := MD.blt
  have hD2 : (excClassObj nm q C N bs bm true sn sub ab col dd k0 k1 k2 k3 k5 "ValueError.__new__").data = .cls { name := nm, bases := bs, mro := .ref C :: bm, ns := N, qualname := q, hasDict := true, slotNames := sn, subclasses := sub, abstract := ab, collection := col, hasDel := false } := rfl
  refine ks_wpAt_super_base (env := ksEnv qual (L2.defScope (ini 17)) s.heap.objs.size fI (.ref cda) cc) rfl rfl (by decide) rfl (X₁ _ _ lk) rfl rfl rfl (X₁ _ _ hcode) rfl hvs hfile T.top ?_
  refine ks_loadName_global rfl rfl (loadGlobal_builtin (env := ksEnv qual (L2.defScope (ini 17)) s.heap.objs.size fI (.ref cda) cc) ((MD.glob.keeps hbs).keeps hk) T.noS ((hmb.keeps hbs).keeps hk) ((hmb2 _ (by decide +kernel)).trans (by first | boot_by_name | rfl | kernel_rfl | decide +kernel)) ⟨rfl, ?_⟩)
  refine wpAny_loadName_free rfl rfl rfl ⟨_, X₁ _ _ hcell, rfl⟩ ?_
  refine wpAny_loadName_local rfl rfl hns rfl ?_
  refine ks_wpAny_isType_cls (X₁ _ _ hC) hD2 ⟨rfl, ?_⟩
  refine ks_wpAny_call_super (X₁ _ _ hC) hD2 hx₁ rfl (fun c e => by cases e) (looks_mroIn X₁ T.mroC) (fun h₂ e₂ k₂ => ?_)
  have X₂ : K.In h₂ := X₁.keeps k₂
  have hx₂ := k₂ _ _ hx₁
  have I₂ : InstAt h₂ x (excO C t0) C none := ⟨hx₂, rfl, rfl, trivial⟩
  have hxC : x ≠ C := fun e => by
    rw [e] at hx₂
    have := (X₂ _ _ hC).symm.trans hx₂
    cases this
  have hmro : Looks (model prog w) h₂ (mroOf (.ref C)) (.ref C :: bm) := fun A' Q' E' s' k' q' => wpAny_bind ((looks_clsIn X₂ (show clsIn K C = some { name := nm, bases := bs, mro := .ref C :: bm, ns := N, qualname := q, hasDict := true, slotNames := sn, subclasses := sub, abstract := ab, collection := col, hasDel := false } by unfold clsIn; rw [hC] <;> rfl)) A' _ E' s' k' (wpAny_pure q'))
  refine kxs_getMethod kxs_ValueError e₂ (looks_opaque X₂ T.tp) hmro (l := bm) (by simp [List.dropWhile_cons]) X₂ hal (I₂.type.andThen (looks_subIn X₂ T.subVE)) hxC (by decide) ?_
  have e₃ : (h₂.push (kxs_mw "ValueError.__init__" x)).get? h₂.objs.size = some (kxs_mw "ValueError.__init__" x) := Heap.get?_push_at rfl rfl
  have k₃ : ∀ b o, h₂.get? b = some o → (h₂.push (kxs_mw "ValueError.__init__" x)).get? b = some o := fun b o e => Heap.get?_push_of_some _ e
  have up : ∀ b o, h₁.get? b = some o → (h₂.push (kxs_mw "ValueError.__init__" x)).get? b = some o := fun b o e => k₃ _ _ (k₂ _ _ e)
  generalize hh₃ : h₂.push (kxs_mw "ValueError.__init__" x) = h₃ at e₃ k₃ up ⊢
  have hns₃ := hns.keeps up
  refine kxs_callWith (i := "ValueError.__init__") (x := x) rfl ?_
  refine evalArgs_plain ?_
  refine spliced_cons ?_
  rw [if_neg Bool.false_ne_true]
  refine PyProof.Rows.JoinedStr_many ?_
  refine PyProof.Rows.joinParts_cons ?_
  have lc0 : (("bad codes in body " : Str)).length ≤ 30 := by decide +kernel
  have lnil : (Str.empty : Str).length ≤ 0 := by decide +kernel
  have la0 : (Str.empty ++ ("bad codes in body " : Str)).length ≤ 30 := by
    rw [PySem.Str.length_append]
    omega
  refine Constant_str ⟨Nat.le_trans la0 (by rw [sizeLine_eq]; decide), ?_⟩
  refine PyProof.Rows.joinParts_cons ?_
  refine wpAny_FormattedValue_plain ?_
  refine wpAny_Name (wpAny_loadName_local rfl rfl hns₃ rfl ?_) (by decide)
  have lc1 := int_text_len_1921 (i := n_body) (by omega)
  have la1 : ((Str.empty ++ ("bad codes in body " : Str)) ++ Str.ofString (toString n_body)).length ≤ 1951 := by
    rw [PySem.Str.length_append]
    omega
  refine wpAny_formatField_int (by omega) ⟨Nat.le_trans la1 (by rw [sizeLine_eq]; decide), ?_⟩
  refine PyProof.Rows.joinParts_cons ?_
  have lc2 : ((" at " : Str)).length ≤ 30 := by decide +kernel
  have la2 : (((Str.empty ++ ("bad codes in body " : Str)) ++ Str.ofString (toString n_body)) ++ (" at " : Str)).length ≤ 1981 := by
    rw [PySem.Str.length_append]
    omega
  refine Constant_str ⟨Nat.le_trans la2 (by rw [sizeLine_eq]; decide), ?_⟩
  refine PyProof.Rows.joinParts_cons ?_
  refine wpAny_FormattedValue_plain ?_
  refine wpAny_Name (wpAny_loadName_local rfl rfl hns₃ rfl ?_) (by decide)
  have lc3 := int_text_len_1921 (i := n_place) (by omega)
  have la3 : ((((Str.empty ++ ("bad codes in body " : Str)) ++ Str.ofString (toString n_body)) ++ (" at " : Str)) ++ Str.ofString (toString n_place)).length ≤ 3902 := by
    rw [PySem.Str.length_append]
    omega
  refine wpAny_formatField_int (by omega) ⟨Nat.le_trans la3 (by rw [sizeLine_eq]; decide), ?_⟩
  refine PyProof.Rows.joinParts_nil ?_ (Nat.le_trans la3 (by rw [sizeLine_eq]; decide))
  dsimp only
  generalize (Value.str _ _) = vt
  refine spliced_nil ⟨e₃, ?_⟩
  show wpAny _ _ (call (.ref h₂.objs.size) [vt]) _ _ _
  have hx₃ : h₃.get? x = some (excRec (.ref C) t0 none .none .none (.bool false)) := k₃ _ _ hx₂
  have X₃ : K.In h₃ := X₂.keeps k₃
  refine wpAny_call (codeAny_of_tree ?_)
  show wpAny _ _ (callAny (.ref h₂.objs.size) ⟨[vt], []⟩) _ _ _
  simp only [callAny]
  refine wpAny_bind (wpAny_load e₃ ?_)
  simp only [kxs_mw, show (Value.type "method-wrapper" == Value.type "method" || Value.type "method-wrapper" == Value.type "builtin_function_or_method" || Value.type "method-wrapper" == Value.type "method-wrapper") = true by decide, if_true]
  refine KFB.if_so (by decide) ?_
  refine wpAny_bind (check_bound_init PySem.F.excBase_ValueError.toExcCallFacts (X₃ _ _ hC) hx₃ rfl ?_)
  refine wpAny_bind (wpAny_pure (wpAny_pure ?_))
  refine ⟨plainId_quiet PySem.F.excBase_ValueError.init.plain _, codeAny_builtin PySem.F.excBase_ValueError.initEntry ?_⟩
  refine exc_init_tree (cls := .ref C) (t0 := t0) (dv := none) (c2 := .none) (c3 := .none) (b4 := .bool false) hx₃ (one_size _) fun h₄ k₄ x₄ t₄ => ?_
  dsimp only
  have X₄ : K.In h₄ := fun a o e => k₄ _ _ (fun z => by rw [z, hnx] at e; cases e) (X₃ _ _ e)
  have hxL : s.heap.objs.size ≠ x := Nat.ne_of_gt (Heap.lt_size hx)
  have hns₄ : h₄.Ns s.heap.objs.size (fun y => List.lookup y ([((PySem.Str.ofString "self" : Str), Value.ref x), (Str.ofString "body", Value.int n_body t_body), (Str.ofString "place", Value.int n_place t_place)] : List (Str × Value)).reverse) := by
    obtain ⟨o, es, ep, g, r⟩ := hns₃
    exact ⟨o, es, ep, k₄ _ _ hxL g, r⟩
  have z₁ : s.heap.objs.size < h₄.objs.size := hns₄.lt
  refine ks_wpAt_execs_cons (ks_wpAt_Assign_Attr (wpAt_of_wpAny ?_))
  refine wpAny_Name (wpAny_loadName_local rfl rfl hns₄ rfl ?_) (by decide)
  refine wpAny_Name (wpAny_loadName_local rfl rfl hns₄ rfl ?_) (by decide)
  refine set_plain X₄ (ox := excO C h₃.objs.size) (od := none) ⟨x₄, rfl, rfl, trivial⟩ T.sa ?_
  have hcl : clsIn K C = some { name := nm, bases := bs, mro := .ref C :: bm, ns := N, qualname := q, hasDict := true, slotNames := sn, subclasses := sub, abstract := ab, collection := col, hasDel := false } := by unfold clsIn; rw [hC] <;> rfl
  refine exc_osa X₄ x₄ hcl (show refsVE (.ref C :: bm) = true from hbm) rfl (T.noN _ (by decide)) (fun h₅ tk₅ dx k₅ dn dne hx₅ hn₅ => ?_)
  have X₅ : K.In h₅ := fun a o e => k₅ _ _ (fun z => by rw [z, hnx] at e; cases e) (X₄ _ _ e)
  have hns₅ : h₅.Ns s.heap.objs.size (fun y => List.lookup y ([((PySem.Str.ofString "self" : Str), Value.ref x), (Str.ofString "body", Value.int n_body t_body), (Str.ofString "place", Value.int n_place t_place)] : List (Str × Value)).reverse) := by
    obtain ⟨o, es, ep, g, r⟩ := hns₄
    exact ⟨o, es, ep, k₅ _ _ hxL g, r⟩
  have hw : Within (fun y => if y = "body" then some (Value.int n_body t_body) else none) ["body"] := fun y hy => by
    dsimp only at hy
    by_cases e : y = "body"
    · rw [e]
      exact List.mem_cons_self
    · rw [if_neg e] at hy
      exact absurd rfl hy
  obtain ⟨oD, esD, epD, hoD, hdD, _⟩ := hn₅.count hw
  refine ks_wpAt_execs_cons (ks_wpAt_Assign_Attr (wpAt_of_wpAny ?_))
  refine wpAny_Name (wpAny_loadName_local rfl rfl hns₅ rfl ?_) (by decide)
  refine wpAny_Name (wpAny_loadName_local rfl rfl hns₅ rfl ?_) (by decide)
  refine set_plain X₅ (od := some oD) ⟨hx₅, rfl, rfl, hoD⟩ T.sa ?_
  refine PySem.OEX.osa_old X₅ hx₅ hn₅ hw (by decide) hcl (show refsVE (.ref C :: bm) = true from hbm) rfl (T.noN _ (by decide)) (fun h₆ tk₆ k₆ hn₆ => ?_)
  show wpAt _ _ _ (execs [] _) _ _ _
  refine wpAt_of_wpAny (wpAny_execs_nil ?_)
  have old : ∀ b o, s.heap.get? b = some o → b ≠ dx := fun b o e z => by
    have q1 := Heap.lt_size e
    rw [z] at q1
    exact absurd (Nat.lt_of_lt_of_le (Nat.lt_trans q1 z₁) dn) (Nat.lt_irrefl _)
  exact hq h₆ tk₆ dx ⟨fun b o hb e => k₆ b o (old b o e) (k₅ b o hb (k₄ b o hb (up _ _ (hk _ _ e)))), ⟨_, k₆ x _ (Ne.symm dne) hx₅⟩, Nat.le_of_lt (Nat.lt_of_lt_of_le z₁ dn), dne, hn₆⟩
theorem ini_BadLog (T : SupTxt prog K mg 25 qual ["place"] C fI) {x t0 : Addr} {args : Args} {n_place : Int} {t_place : Tok} (hn_place : n_place.natAbs.log2 < 64) (MD : L2.Mod K mg base) (hbs : ∀ b o, base.get? b = some o → s.heap.get? b = some o) (hx : s.heap.get? x = some (excO C t0)) (hnx : K.lookup x = none) (hroom : A.depth < recursionLimit) (hun : A.units + 20 < cLine)
    (hargs : args = ⟨[.ref x, .int n_place t_place], []⟩ ∨ args = ⟨[.ref x], [("place", .int n_place t_place)]⟩)
    (hq : ∀ h' tk dx, InitEnd s.heap h' x C dx (fun y => if y = "place" then some (.int n_place t_place) else none) → R (.ok (.ret .none)) { s with heap := h', toks := tk }) :
    codeAny (model prog w) A (.call (.ref fI) args) R s := by
  obtain ⟨oc, doc, pm, ct, od, an, osl, cda, cc, ccl, cl, cdd, cld, ccs, csl, vs, file, tf, lk, hcd, hcode, hvs, hfile, hcell⟩ := T.fn
  obtain ⟨nm, q, N, bs, bm, sn, sub, ab, col, dd, k0, k1, k2, k3, k5, hC, hbm, hal⟩ := T.cls
  have X : K.In s.heap := fun a o e => hbs _ _ (MD.kin a o e)
  have hlim : s.heap.NoLimit := MD.nolimit.keeps hbs
  have hloc : ∀ y ∈ ([((PySem.Str.ofString "self" : Str), Value.ref x), (Str.ofString "place", Value.int n_place t_place)] : List (Str × Value)), (L2.defScope (ini 25)).names.lookup y.1 = some .local := fun y hy => by
    simp only [List.mem_cons, List.not_mem_nil, or_false] at hy
    rcases hy with rfl | rfl <;> rfl
  have hbd : BindsTo s (ksFn "__init__" qual (L2.defArgs (ini 25)) (L2.defBody (ini 25)) (L2.defScope (ini 25)) .none .none doc pm an (.ref cda) ct cc) args [("self", .ref x), ("place", .int n_place t_place)] := by
    rcases hargs with rfl | rfl <;> exact BindsTo.of_eq (by first | rfl | with_unfolding_all rfl)
  refine ks_codeAny_call_defAt (fd := ksFn "__init__" qual (L2.defArgs (ini 25)) (L2.defBody (ini 25)) (L2.defScope (ini 25)) .none .none doc pm an (.ref cda) ct cc) (binds := [("self", .ref x), ("place", .int n_place t_place)]) hroom (X _ _ lk) rfl hlim (codeRec_of X hcd) rfl hbd (by show ∀ x ∈ (L2.defScope (ini 25)).names, x.2 ≠ .cell; decide +kernel) hloc (fun h₁ hns hk => ?_) rfl rfl rfl
  have X₁ : K.In h₁ := X.keeps hk
  have hx₁ := hk _ _ hx
  show wpAt _ _ _ (execs (L2.defBody (ini 25)) (ksEnv qual (L2.defScope (ini 25)) s.heap.objs.size fI (.ref cda) cc)) _ _ _
  refine ks_wpAt_execs_cons (ks_wpAt_Expr_any (ks_wpAt_MethodCall ?_))
  obtain ⟨mb, hmb, hmb2⟩ := MD.blt
  have hD2 : (excClassObj nm q C N bs bm true sn sub ab col dd k0 k1 k2 k3 k5 "ValueError.__new__").data = .cls { name := nm, bases := bs, mro := .ref C :: bm, ns := N, qualname := q, hasDict := true, slotNames := sn, subclasses := sub, abstract := ab, collection := col, hasDel := false } := rfl
  refine ks_wpAt_super_base (env := ksEnv qual (L2.defScope (ini 25)) s.heap.objs.size fI (.ref cda) cc) rfl rfl (by decide) rfl (X₁ _ _ lk) rfl rfl rfl (X₁ _ _ hcode) rfl hvs hfile T.top ?_
  refine ks_loadName_global rfl rfl (loadGlobal_builtin (env := ksEnv qual (L2.defScope (ini 25)) s.heap.objs.size fI (.ref cda) cc) ((MD.glob.keeps hbs).keeps hk) T.noS ((hmb.keeps hbs).keeps hk) ((hmb2 _ (by decide +kernel)).trans (by first | boot_by_name | rfl | kernel_rfl | decide +kernel)) ⟨rfl, ?_⟩)
  refine wpAny_loadName_free rfl rfl rfl ⟨_, X₁ _ _ hcell, rfl⟩ ?_
  refine wpAny_loadName_local rfl rfl hns rfl ?_
  refine ks_wpAny_isType_cls (X₁ _ _ hC) hD2 ⟨rfl, ?_⟩
  refine ks_wpAny_call_super (X₁ _ _ hC) hD2 hx₁ rfl (fun c e => by cases e) (looks_mroIn X₁ T.mroC) (fun h₂ e₂ k₂ => ?_)
  have X₂ : K.In h₂ := X₁.keeps k₂
  have hx₂ := k₂ _ _ hx₁
  have I₂ : InstAt h₂ x (excO C t0) C none := ⟨hx₂, rfl, rfl, trivial⟩
  have hxC : x ≠ C := fun e => by
    rw [e] at hx₂
    have := (X₂ _ _ hC).symm.trans hx₂
    cases this
  have hmro : Looks (model prog w) h₂ (mroOf (.ref C)) (.ref C :: bm) := fun A' Q' E' s' k' q' => wpAny_bind ((looks_clsIn X₂ (show clsIn K C = some { name := nm, bases := bs, mro := .ref C :: bm, ns := N, qualname := q, hasDict := true, slotNames := sn, subclasses := sub, abstract := ab, collection := col, hasDel := false } by unfold clsIn; rw [hC] <;> rfl)) A' _ E' s' k' (wpAny_pure q'))
  refine kxs_getMethod kxs_ValueError e₂ (looks_opaque X₂ T.tp) hmro (l := bm) (by simp [List.dropWhile_cons]) X₂ hal (I₂.type.andThen (looks_subIn X₂ T.subVE)) hxC (by decide) ?_
  have e₃ : (h₂.push (kxs_mw "ValueError.__init__" x)).get? h₂.objs.size = some (kxs_mw "ValueError.__init__" x) := Heap.get?_push_at rfl rfl
  have k₃ : ∀ b o, h₂.get? b = some o → (h₂.push (kxs_mw "ValueError.__init__" x)).get? b = some o := fun b o e => Heap.get?_push_of_some _ e
  have up : ∀ b o, h₁.get? b = some o → (h₂.push (kxs_mw "ValueError.__init__" x)).get? b = some o := fun b o e => k₃ _ _ (k₂ _ _ e)
  generalize hh₃ : h₂.push (kxs_mw "ValueError.__init__" x) = h₃ at e₃ k₃ up ⊢
  have hns₃ := hns.keeps up
  refine kxs_callWith (i := "ValueError.__init__") (x := x) rfl ?_
  refine evalArgs_plain ?_
  refine spliced_cons ?_
  rw [if_neg Bool.false_ne_true]
  refine PyProof.Rows.JoinedStr_many ?_
  refine PyProof.Rows.joinParts_cons ?_
  have lc0 : (("bad log at " : Str)).length ≤ 30 := by decide +kernel
  have lnil : (Str.empty : Str).length ≤ 0 := by decide +kernel
  have la0 : (Str.empty ++ ("bad log at " : Str)).length ≤ 30 := by
    rw [PySem.Str.length_append]
    omega
  refine Constant_str ⟨Nat.le_trans la0 (by rw [sizeLine_eq]; decide), ?_⟩
  refine PyProof.Rows.joinParts_cons ?_
  refine wpAny_FormattedValue_plain ?_
  refine wpAny_Name (wpAny_loadName_local rfl rfl hns₃ rfl ?_) (by decide)
  have lc1 := int_text_len_1921 (i := n_place) (by omega)
  have la1 : ((Str.empty ++ ("bad log at " : Str)) ++ Str.ofString (toString n_place)).length ≤ 1951 := by
    rw [PySem.Str.length_append]
    omega
  refine wpAny_formatField_int (by omega) ⟨Nat.le_trans la1 (by rw [sizeLine_eq]; decide), ?_⟩
  refine PyProof.Rows.joinParts_nil ?_ (Nat.le_trans la1 (by rw [sizeLine_eq]; decide))
  dsimp only
  generalize (Value.str _ _) = vt
  refine spliced_nil ⟨e₃, ?_⟩
  show wpAny _ _ (call (.ref h₂.objs.size) [vt]) _ _ _
  have hx₃ : h₃.get? x = some (excRec (.ref C) t0 none .none .none (.bool false)) := k₃ _ _ hx₂
  have X₃ : K.In h₃ := X₂.keeps k₃
  refine wpAny_call (codeAny_of_tree ?_)
  show wpAny _ _ (callAny (.ref h₂.objs.size) ⟨[vt], []⟩) _ _ _
  simp only [callAny]
  refine wpAny_bind (wpAny_load e₃ ?_)
  simp only [kxs_mw, show (Value.type "method-wrapper" == Value.type "method" || Value.type "method-wrapper" == Value.type "builtin_function_or_method" || Value.type "method-wrapper" == Value.type "method-wrapper") = true by decide, if_true]
  refine KFB.if_so (by decide) ?_
  refine wpAny_bind (check_bound_init PySem.F.excBase_ValueError.toExcCallFacts (X₃ _ _ hC) hx₃ rfl ?_)
  refine wpAny_bind (wpAny_pure (wpAny_pure ?_))
  refine ⟨plainId_quiet PySem.F.excBase_ValueError.init.plain _, codeAny_builtin PySem.F.excBase_ValueError.initEntry ?_⟩
  refine exc_init_tree (cls := .ref C) (t0 := t0) (dv := none) (c2 := .none) (c3 := .none) (b4 := .bool false) hx₃ (one_size _) fun h₄ k₄ x₄ t₄ => ?_
  dsimp only
  have X₄ : K.In h₄ := fun a o e => k₄ _ _ (fun z => by rw [z, hnx] at e; cases e) (X₃ _ _ e)
  have hxL : s.heap.objs.size ≠ x := Nat.ne_of_gt (Heap.lt_size hx)
  have hns₄ : h₄.Ns s.heap.objs.size (fun y => List.lookup y ([((PySem.Str.ofString "self" : Str), Value.ref x), (Str.ofString "place", Value.int n_place t_place)] : List (Str × Value)).reverse) := by
    obtain ⟨o, es, ep, g, r⟩ := hns₃
    exact ⟨o, es, ep, k₄ _ _ hxL g, r⟩
  have z₁ : s.heap.objs.size < h₄.objs.size := hns₄.lt
  refine ks_wpAt_execs_cons (ks_wpAt_Assign_Attr (wpAt_of_wpAny ?_))
  refine wpAny_Name (wpAny_loadName_local rfl rfl hns₄ rfl ?_) (by decide)
  refine wpAny_Name (wpAny_loadName_local rfl rfl hns₄ rfl ?_) (by decide)
  refine set_plain X₄ (ox := excO C h₃.objs.size) (od := none) ⟨x₄, rfl, rfl, trivial⟩ T.sa ?_
  have hcl : clsIn K C = some { name := nm, bases := bs, mro := .ref C :: bm, ns := N, qualname := q, hasDict := true, slotNames := sn, subclasses := sub, abstract := ab, collection := col, hasDel := false } := by unfold clsIn; rw [hC] <;> rfl
  refine exc_osa X₄ x₄ hcl (show refsVE (.ref C :: bm) = true from hbm) rfl (T.noN _ (by decide)) (fun h₅ tk₅ dx k₅ dn dne hx₅ hn₅ => ?_)
  show wpAt _ _ _ (execs [] _) _ _ _
  refine wpAt_of_wpAny (wpAny_execs_nil ?_)
  exact hq h₅ tk₅ dx ⟨fun b o hb e => k₅ b o hb (k₄ b o hb (up _ _ (hk _ _ e))), ⟨_, hx₅⟩, Nat.le_of_lt (Nat.lt_of_lt_of_le z₁ dn), dne, hn₅⟩
theorem ini_BadSchedule (T : SupTxt prog K mg 27 qual ["place"] C fI) {x t0 : Addr} {args : Args} {n_place : Int} {t_place : Tok} (hn_place : n_place.natAbs.log2 < 64) (MD : L2.Mod K mg base) (hbs : ∀ b o, base.get? b = some o → s.heap.get? b = some o) (hx : s.heap.get? x = some (excO C t0)) (hnx : K.lookup x = none) (hroom : A.depth < recursionLimit) (hun : A.units + 20 < cLine)
    (hargs : args = ⟨[.ref x, .int n_place t_place], []⟩ ∨ args = ⟨[.ref x], [("place", .int n_place t_place)]⟩)
    (hq : ∀ h' tk dx, InitEnd s.heap h' x C dx (fun y => if y = "place" then some (.int n_place t_place) else none) → R (.ok (.ret .none)) { s with heap := h', toks := tk }) :
    codeAny (model prog w) A (.call (.ref fI) args) R s := by
  obtain ⟨oc, doc, pm, ct, od, an, osl, cda, cc, ccl, cl, cdd, cld, ccs, csl, vs, file, tf, lk, hcd, hcode, hvs, hfile, hcell⟩ := T.fn
  obtain ⟨nm, q, N, bs, bm, sn, sub, ab, col, dd, k0, k1, k2, k3, k5, hC, hbm, hal⟩ := T.cls
  have X : K.In s.heap := fun a o e => hbs _ _ (MD.kin a o e)
  have hlim : s.heap.NoLimit := MD.nolimit.keeps hbs
  have hloc : ∀ y ∈ ([((PySem.Str.ofString "self" : Str), Value.ref x), (Str.ofString "place", Value.int n_place t_place)] : List (Str × Value)), (L2.defScope (ini 27)).names.lookup y.1 = some .local := fun y hy => by
    simp only [List.mem_cons, List.not_mem_nil, or_false] at hy
    rcases hy with rfl | rfl <;> rfl
  have hbd : BindsTo s (ksFn "__init__" qual (L2.defArgs (ini 27)) (L2.defBody (ini 27)) (L2.defScope (ini 27)) .none .none doc pm an (.ref cda) ct cc) args [("self", .ref x), ("place", .int n_place t_place)] := by
    rcases hargs with rfl | rfl <;> exact BindsTo.of_eq (by first | rfl | with_unfolding_all rfl)
  refine ks_codeAny_call_defAt (fd := ksFn "__init__" qual (L2.defArgs (ini 27)) (L2.defBody (ini 27)) (L2.defScope (ini 27)) .none .none doc pm an (.ref cda) ct cc) (binds := [("self", .ref x), ("place", .int n_place t_place)]) hroom (X _ _ lk) rfl hlim (codeRec_of X hcd) rfl hbd (by show ∀ x ∈ (L2.defScope (ini 27)).names, x.2 ≠ .cell; decide +kernel) hloc (fun h₁ hns hk => ?_) rfl rfl rfl
  have X₁ : K.In h₁ := X.keeps hk
  have hx₁ := hk _ _ hx
  show wpAt _ _ _ (execs (L2.defBody (ini 27)) (ksEnv qual (L2.defScope (ini 27)) s.heap.objs.size fI (.ref cda) cc)) _ _ _
  refine ks_wpAt_execs_cons (ks_wpAt_Expr_any (ks_wpAt_MethodCall ?_))
  obtain ⟨mb, hmb, hmb2⟩ := MD.blt
  have hD2 : (excClassObj nm q C N bs bm true sn sub ab col dd k0 k1 k2 k3 k5 "ValueError.__new__").data = .cls { name := nm, bases := bs, mro := .ref C :: bm, ns := N, qualname := q, hasDict := true, slotNames := sn, subclasses := sub, abstract := ab, collection := col, hasDel := false } := rfl
  refine ks_wpAt_super_base (env := ksEnv qual (L2.defScope (ini 27)) s.heap.objs.size fI (.ref cda) cc) rfl rfl (by decide) rfl (X₁ _ _ lk) rfl rfl rfl (X₁ _ _ hcode) rfl hvs hfile T.top ?_
  refine ks_loadName_global rfl rfl (loadGlobal_builtin (env := ksEnv qual (L2.defScope (ini 27)) s.heap.objs.size fI (.ref cda) cc) ((MD.glob.keeps hbs).keeps hk) T.noS ((hmb.keeps hbs).keeps hk) ((hmb2 _ (by decide +kernel)).trans (by first | boot_by_name | rfl | kernel_rfl | decide +kernel)) ⟨rfl, ?_⟩)
  refine wpAny_loadName_free rfl rfl rfl ⟨_, X₁ _ _ hcell, rfl⟩ ?_
  refine wpAny_loadName_local rfl rfl hns rfl ?_
  refine ks_wpAny_isType_cls (X₁ _ _ hC) hD2 ⟨rfl, ?_⟩
  refine ks_wpAny_call_super (X₁ _ _ hC) hD2 hx₁ rfl (fun c e => by cases e) (looks_mroIn X₁ T.mroC) (fun h₂ e₂ k₂ => ?_)
  have X₂ : K.In h₂ := X₁.keeps k₂
  have hx₂ := k₂ _ _ hx₁
  have I₂ : InstAt h₂ x (excO C t0) C none := ⟨hx₂, rfl, rfl, trivial⟩
  have hxC : x ≠ C := fun e => by
    rw [e] at hx₂
    have := (X₂ _ _ hC).symm.trans hx₂
    cases this
  have hmro : Looks (model prog w) h₂ (mroOf (.ref C)) (.ref C :: bm) := fun A' Q' E' s' k' q' => wpAny_bind ((looks_clsIn X₂ (show clsIn K C = some { name := nm, bases := bs, mro := .ref C :: bm, ns := N, qualname := q, hasDict := true, slotNames := sn, subclasses := sub, abstract := ab, collection := col, hasDel := false } by unfold clsIn; rw [hC] <;> rfl)) A' _ E' s' k' (wpAny_pure q'))
  refine kxs_getMethod kxs_ValueError e₂ (looks_opaque X₂ T.tp) hmro (l := bm) (by simp [List.dropWhile_cons]) X₂ hal (I₂.type.andThen (looks_subIn X₂ T.subVE)) hxC (by decide) ?_
  have e₃ : (h₂.push (kxs_mw "ValueError.__init__" x)).get? h₂.objs.size = some (kxs_mw "ValueError.__init__" x) := Heap.get?_push_at rfl rfl
  have k₃ : ∀ b o, h₂.get? b = some o → (h₂.push (kxs_mw "ValueError.__init__" x)).get? b = some o := fun b o e => Heap.get?_push_of_some _ e
  have up : ∀ b o, h₁.get? b = some o → (h₂.push (kxs_mw "ValueError.__init__" x)).get? b = some o := fun b o e => k₃ _ _ (k₂ _ _ e)
  generalize hh₃ : h₂.push (kxs_mw "ValueError.__init__" x) = h₃ at e₃ k₃ up ⊢
  have hns₃ := hns.keeps up
  refine kxs_callWith (i := "ValueError.__init__") (x := x) rfl ?_
  refine evalArgs_plain ?_
  refine spliced_cons ?_
  rw [if_neg Bool.false_ne_true]
  refine PyProof.Rows.JoinedStr_many ?_
  refine PyProof.Rows.joinParts_cons ?_
  have lc0 : (("bad schedule at " : Str)).length ≤ 30 := by decide +kernel
  have lnil : (Str.empty : Str).length ≤ 0 := by decide +kernel
  have la0 : (Str.empty ++ ("bad schedule at " : Str)).length ≤ 30 := by
    rw [PySem.Str.length_append]
    omega
  refine Constant_str ⟨Nat.le_trans la0 (by rw [sizeLine_eq]; decide), ?_⟩
  refine PyProof.Rows.joinParts_cons ?_
  refine wpAny_FormattedValue_plain ?_
  refine wpAny_Name (wpAny_loadName_local rfl rfl hns₃ rfl ?_) (by decide)
  have lc1 := int_text_len_1921 (i := n_place) (by omega)
  have la1 : ((Str.empty ++ ("bad schedule at " : Str)) ++ Str.ofString (toString n_place)).length ≤ 1951 := by
    rw [PySem.Str.length_append]
    omega
  refine wpAny_formatField_int (by omega) ⟨Nat.le_trans la1 (by rw [sizeLine_eq]; decide), ?_⟩
  refine PyProof.Rows.joinParts_nil ?_ (Nat.le_trans la1 (by rw [sizeLine_eq]; decide))
  dsimp only
  generalize (Value.str _ _) = vt
  refine spliced_nil ⟨e₃, ?_⟩
  show wpAny _ _ (call (.ref h₂.objs.size) [vt]) _ _ _
  have hx₃ : h₃.get? x = some (excRec (.ref C) t0 none .none .none (.bool false)) := k₃ _ _ hx₂
  have X₃ : K.In h₃ := X₂.keeps k₃
  refine wpAny_call (codeAny_of_tree ?_)
  show wpAny _ _ (callAny (.ref h₂.objs.size) ⟨[vt], []⟩) _ _ _
  simp only [callAny]
  refine wpAny_bind (wpAny_load e₃ ?_)
  simp only [kxs_mw, show (Value.type "method-wrapper" == Value.type "method" || Value.type "method-wrapper" == Value.type "builtin_function_or_method" || Value.type "method-wrapper" == Value.type "method-wrapper") = true by decide, if_true]
  refine KFB.if_so (by decide) ?_
  refine wpAny_bind (check_bound_init PySem.F.excBase_ValueError.toExcCallFacts (X₃ _ _ hC) hx₃ rfl ?_)
  refine wpAny_bind (wpAny_pure (wpAny_pure ?_))
  refine ⟨plainId_quiet PySem.F.excBase_ValueError.init.plain _, codeAny_builtin PySem.F.excBase_ValueError.initEntry ?_⟩
  refine exc_init_tree (cls := .ref C) (t0 := t0) (dv := none) (c2 := .none) (c3 := .none) (b4 := .bool false) hx₃ (one_size _) fun h₄ k₄ x₄ t₄ => ?_
  dsimp only
  have X₄ : K.In h₄ := fun a o e => k₄ _ _ (fun z => by rw [z, hnx] at e; cases e) (X₃ _ _ e)
  have hxL : s.heap.objs.size ≠ x := Nat.ne_of_gt (Heap.lt_size hx)
  have hns₄ : h₄.Ns s.heap.objs.size (fun y => List.lookup y ([((PySem.Str.ofString "self" : Str), Value.ref x), (Str.ofString "place", Value.int n_place t_place)] : List (Str × Value)).reverse) := by
    obtain ⟨o, es, ep, g, r⟩ := hns₃
    exact ⟨o, es, ep, k₄ _ _ hxL g, r⟩
  have z₁ : s.heap.objs.size < h₄.objs.size := hns₄.lt
  refine ks_wpAt_execs_cons (ks_wpAt_Assign_Attr (wpAt_of_wpAny ?_))
  refine wpAny_Name (wpAny_loadName_local rfl rfl hns₄ rfl ?_) (by decide)
  refine wpAny_Name (wpAny_loadName_local rfl rfl hns₄ rfl ?_) (by decide)
  refine set_plain X₄ (ox := excO C h₃.objs.size) (od := none) ⟨x₄, rfl, rfl, trivial⟩ T.sa ?_
  have hcl : clsIn K C = some { name := nm, bases := bs, mro := .ref C :: bm, ns := N, qualname := q, hasDict := true, slotNames := sn, subclasses := sub, abstract := ab, collection := col, hasDel := false } := by unfold clsIn; rw [hC] <;> rfl
  refine exc_osa X₄ x₄ hcl (show refsVE (.ref C :: bm) = true from hbm) rfl (T.noN _ (by decide)) (fun h₅ tk₅ dx k₅ dn dne hx₅ hn₅ => ?_)
  show wpAt _ _ _ (execs [] _) _ _ _
  refine wpAt_of_wpAny (wpAny_execs_nil ?_)
  exact hq h₅ tk₅ dx ⟨fun b o hb e => k₅ b o hb (k₄ b o hb (up _ _ (hk _ _ e))), ⟨_, hx₅⟩, Nat.le_of_lt (Nat.lt_of_lt_of_le z₁ dn), dne, hn₅⟩
end
end SupY
end PySem

end
section
set_option Elab.async false
set_option linter.all false
set_option maxRecDepth 100000
set_option maxHeartbeats 4000000
/-! own exceptions made: by position and raised, by names and kept; their fields; isinstance of them -/
namespace PySem
namespace SupY
open PySem.W PySem.Calls PyProof.Rows PySem.HandSPX
/-- a made exception, mA its fields -/
structure OwnMade (h h' : Heap) (e C d : Addr) (mA : Str → Option Value) : Prop where
  keep : ∀ b o, h.get? b = some o → h'.get? b = some o
  new : h.objs.size ≤ e
  obj : ∃ t1, h'.get? e = some { cls := .ref C, dict := some d, data := .fields #[.ref t1, .none, .none, .none, .bool false, .none] }
  dbig : h.objs.size ≤ d
  dne : d ≠ e
  ns : h'.Ns1 d mA
/-- what the __init__ of C does with these arguments -/
def Inits (prog : Program) (w : World) (K : Frag) (base : Heap) (C fI : Addr) (pre : Heap → Prop) (rest : List Value) (kw : List (Str × Value)) (mA : Str → Option Value) : Prop :=
  ∀ (s : Shared) (x t0 : Addr) (A : Around) (R : Result → Shared → Prop), pre s.heap → (∀ b o, base.get? b = some o → s.heap.get? b = some o) → s.heap.get? x = some (excO C t0) → K.lookup x = none → A.depth < recursionLimit → A.units + 20 < cLine →
    (∀ h' tk dx, InitEnd s.heap h' x C dx mA → R (.ok (.ret .none)) { s with heap := h', toks := tk }) → codeAny (model prog w) A (.call (.ref fI) ⟨.ref x :: rest, kw⟩) R s
section
variable {prog : Program} {w : World} {A : Around} {R : Result → Shared → Prop} {s : Shared} {K : Frag} {mg : Str → Option Value} {base : Heap} {C fI : Addr} {qual : Str} {i : Nat} {fs : List Str}
theorem made_of (T : SupTxt prog K mg i qual fs C fI) {pre : Heap → Prop} {rest : List Value} {kw : List (Str × Value)} {mA : Str → Option Value} (hI : Inits prog w K base C fI pre rest kw mA) (hp : ∀ h' : Heap, (∀ b o, s.heap.get? b = some o → h'.get? b = some o) → pre h') (kin : K.In base)
    (hbs : ∀ b o, base.get? b = some o → s.heap.get? b = some o) (hlen : rest.length ≤ 10) (hroom : A.depth + 1 < recursionLimit) (hun : A.units + 40 < cLine)
    (hq : ∀ h' tk e d, OwnMade s.heap h' e C d mA → R (.ok (.ret (.ref e))) { s with heap := h', toks := tk }) : codeAny (model prog w) A (.call (.ref C) ⟨rest, kw⟩) R s := by
  obtain ⟨nm, q, N, bs, bm, sn, sub, ab, col, dd, k0, k1, k2, k3, k5, hC, hbm, hal⟩ := T.cls
  have X : K.In s.heap := fun a o e => hbs _ _ (kin a o e)
  obtain ⟨hh, g, dr, tk, os⟩ := s
  have k : ∀ b o, hh.get? b = some o → ((hh.push (kdv_tup rest)).push (excO C hh.objs.size)).get? b = some o := fun b o e => Heap.get?_push_of_some _ (Heap.get?_push_of_some _ e)
  have hget : ((hh.push (kdv_tup rest)).push (excO C hh.objs.size)).get? (hh.objs.size + 1) = some (excO C hh.objs.size) := by heap_get
  have hnx : K.lookup (hh.objs.size + 1) = none := by
    cases e : K.lookup (hh.objs.size + 1) with
    | none => rfl
    | some o =>
      have z : hh.get? (hh.objs.size + 1) = some o := X _ _ e
      exact absurd (Nat.lt_of_succ_lt (Heap.lt_size z)) (Nat.lt_irrefl _)
  refine KwX.call_k PySem.F.excBase_ValueError (fun X => refsVE_contains X bm hbm) (X _ _ hC) (looks_findIn X T.iC) (fun self => bind_fn X self T.tC) (by rw [sizeLine_eq]; omega) ?_
  refine hI ⟨(hh.push (kdv_tup rest)).push (excO C hh.objs.size), g, dr, tk, os⟩ _ _ _ _ (hp _ k) (fun b o e => k _ _ (hbs b o e)) hget hnx ?_ ?_ fun h' tk' dx ⟨k', ⟨t1, hx⟩, dn, dne, hns⟩ => ?_
  · show A.depth + 1 < recursionLimit
    exact hroom
  · rw [L2.make_units]
    omega
  · have old : ∀ b o, hh.get? b = some o → h'.get? b = some o := fun b o e => k' b o (Nat.ne_of_lt (Nat.lt_succ_of_lt (Heap.lt_size e))) (k b o e)
    have z : hh.objs.size + 1 + 1 ≤ dx := by
      first
        | (simpa only [Heap.size_push] using dn)
        | exact dn
        | (have q := dn; rw [Heap.size_push, Heap.size_push] at q; exact q)
    exact ⟨rfl, hq h' tk' (hh.objs.size + 1) dx ⟨old, Nat.le_succ _, ⟨_, hx⟩, Nat.le_trans (Nat.le_trans (Nat.le_succ _) (Nat.le_succ _)) z, dne, hns⟩⟩
end
end SupY
end PySem
namespace L2
open PySem PySem.Spec PyProof.Rows
/-- what stands under a name is what is told of it -/
def RelF (fs : List (Str × V)) (mA : Str → Option Value) : Prop := ∀ f, RelO (fs.lookup f) (mA f)
theorem relF_one {f : Str} {v : V} {u : Value} (r : RelV v u) : RelF [(f, v)] (fun y => if y = f then some u else none) := fun g => by
  have := relO_put (f := f) (fs := []) (mA := fun _ => none) r (fun _ => trivial) g
  exact this
theorem relF_put {f : Str} {v : V} {u : Value} {fs : List (Str × V)} {mA : Str → Option Value} (r : RelV v u) (h : RelF fs mA) : RelF ((f, v) :: fs) (fun y => if y = f then some u else mA y) := fun g => relO_put r h g
section
variable {X : Cx} {pins : List (Addr × Obj)} {σ : St} {H1 : Hp} {hp h' : Heap} {g : Array GenState} {dr : Drawn} {tk tk' : Nat} {os : OsState} {e C d : Addr} {mA : Str → Option Value} {fs : List (Str × V)}
/-- the heap without the new exception -/
theorem made_bare (I1 : Inv X pins σ H1 ⟨hp, g, dr, tk, os⟩) (M : PySem.SupY.OwnMade hp h' e C d mA) (r : RelF fs mA) :
    ∃ G : Heap, (∀ b o, G.get? b = some o → h'.get? b = some o) ∧ G.get? e = none ∧ Inv X pins σ (upd H1 d (.xd fs)) ⟨G, g, dr, tk', os⟩ := by
  have hns := M.ns
  obtain ⟨G, g1, g2⟩ := restrict h' fun b => decide (b ≠ e)
  have gk : ∀ b, b ≠ e → G.get? b = h'.get? b := fun b hb => g1 b (decide_eq_true hb)
  have ge : G.get? e = none := g2 e (by simp)
  have old : ∀ b o, hp.get? b = some o → G.get? b = some o := fun b o q => (gk b (Nat.ne_of_lt (Nat.lt_of_lt_of_le (Heap.lt_size q) M.new))).trans (M.keep b o q)
  have ob : ObjOk X.prog X.w (upd H1 d (.xd fs)) G d (.xd fs) := ⟨_, hns.at (fun o q => (gk d M.dne).trans q), r⟩
  refine ⟨G, fun b o q => ?_, ge, I1.laid (t' := tk') old M.dbig ob⟩
  by_cases hb : b = e
  · rw [hb, ge] at q
    cases q
  · exact (gk b hb).symm.trans q
/-- .. to be raised -/
theorem mkp_made {Q : XK} (T : Raises X (.ref C)) (I1 : Inv X pins σ H1 ⟨hp, g, dr, tk, os⟩) (M : PySem.SupY.OwnMade hp h' e C d mA) (r : RelF fs mA) (q1 : H1 d = none → Q (.ref C) (some d) (upd H1 d (.xd fs))) : MkP X pins σ Q (.ref e) ⟨h', g, dr, tk', os⟩ := by
  obtain ⟨t1, ho⟩ := M.obj
  obtain ⟨G, gk, ge, J⟩ := made_bare (tk' := tk') I1 M r
  refine ⟨e, _, _, ⟨G, g, dr, tk', os⟩, _, .ref C, some d, rfl, J, gk, ge, ho, ⟨rfl, rfl⟩, rfl, rfl, ?_, rfl, I1.bare, T, q1 (I1.hok.fresh M.dbig)⟩
  rw [upd_ne (Ne.symm M.dne)]
  exact I1.hok.fresh M.new
/-- .. to be kept -/
theorem ep_made {Q : VK} (I1 : Inv X pins σ H1 ⟨hp, g, dr, tk, os⟩) (M : PySem.SupY.OwnMade hp h' e C d mA) (r : RelF fs mA) (q1 : H1 d = none → H1 e = none → d ≠ e → Q (.ref e) (upd (upd H1 d (.xd fs)) e (exo e C (some d)))) : EP X pins σ Q (.ref e) ⟨h', g, dr, tk', os⟩ := by
  obtain ⟨t1, ho⟩ := M.obj
  obtain ⟨G, gk, ge, J⟩ := made_bare (tk' := tk') I1 M r
  have hn : upd H1 d (.xd fs) e = none := by
    rw [upd_ne (Ne.symm M.dne)]
    exact I1.hok.fresh M.new
  refine ⟨.ref e, _, J.laidN (h' := h') (t' := tk') gk ge hn (exo_ok ho), rfl, q1 (I1.hok.fresh M.dbig) (I1.hok.fresh M.new) M.dne⟩
end
section
variable {X : Cx} {C fI : Addr} {qual : Str} {i : Nat} {fl : List Str} {x : Str} {p pos : Pos} {k : Nat}
/-- C(a, ..) -/
def tMkI (X : Cx) (C fI : Addr) (ta : TA) : St → Hp → XK → Prop := fun σ H Q => ta σ H fun vs H1 => vs.length ≤ 10 ∧ ∃ fs : List (Str × V), (∀ (h : Heap) (us : List Value), Mod X.K X.mg X.base → HOk X.prog X.w H1 h → Vals vs us → ∃ mA pre, RelF fs mA ∧ PySem.SupY.Inits X.prog X.w X.K X.base C fI pre us [] mA ∧ ∀ h' : Heap, (∀ b o, h.get? b = some o → h'.get? b = some o) → pre h') ∧
  ∀ d, H1 d = none → Q (.ref C) (some d) (upd H1 d (.xd fs))
theorem pmk_ini {a : Expr} {as : List Expr} {ta : TA} (T : PySem.SupY.SupTxt X.prog X.K X.mg i qual fl C fI) (gC : X.mg x = some (.ref C)) (hr : Room k X.A) (ha : PA X (a :: as) ta) (hg : Gl X x := by rfl) (hdb : (x == ("__debug__" : Str)) = false := by decide)
    (he : starEach (a :: as) X.env = (false, eval a X.env) :: starEach as X.env := by rfl) (hpl : (backTo pos (starEach as X.env)).any (·.1) = false := by rfl) :
    PMk X (.Call (.Name x p) (a :: as) [] pos) (tMkI X C fI ta) := by
  intro pins s σ H Q I h
  refine wpAny_Call_Name_kw (ld_glob I hg gC ?_ hdb)
  refine PySem.W.callWith_K (h₀ := X.base) I.ok.mod.kin T.kC (thn (ha.run pos pins s σ H _ I h) fun us s1 hh => ?_) he hpl
  obtain ⟨vs, H1, I1, r1, hl, fs, hI, q1⟩ := hh
  refine ⟨I1.kIn, ?_⟩
  show wpAny _ _ (call (.ref C) us) _ _ _
  obtain ⟨mA, pre, rF, hini, hpre⟩ := hI s1.heap us I1.ok.mod I1.hok r1
  obtain ⟨hp, g, dr, tk, os⟩ := s1
  have h1 := hr.dp
  have h2 := hr.un
  refine wpAny_call (PySem.SupY.made_of T hini hpre I1.ok.mod.kin I1.bk (by rw [← r1.length]; exact hl) (by show X.A.depth + 1 < recursionLimit; omega) (by show X.A.units + _ < cLine; omega) fun h' tk' e d M => ?_)
  exact mkp_made (raises_own T.exC T.tyC) I1 M rF (q1 d)
/-- C(f = a, ..) -/
def tMkK (X : Cx) (C fI : Addr) (ks : List Str) (tk : TA) : TE := fun σ H Q => tk σ H fun vs H1 => ∃ fs : List (Str × V), (∀ (h : Heap) (us : List Value), Mod X.K X.mg X.base → HOk X.prog X.w H1 h → Vals vs us → ∃ mA pre, RelF fs mA ∧ PySem.SupY.Inits X.prog X.w X.K X.base C fI pre [] (ks.zip us) mA ∧ ∀ h' : Heap, (∀ b o, h.get? b = some o → h'.get? b = some o) → pre h') ∧
  ∀ d e, H1 d = none → H1 e = none → d ≠ e → Q (.ref e) (upd (upd H1 d (.xd fs)) e (exo e C (some d)))
theorem pe_iniK {kws : List Keyword} {ks : List Str} {tk : TA} (T : PySem.SupY.SupTxt X.prog X.K X.mg i qual fl C fI) (gC : X.mg x = some (.ref C)) (hr : Room k X.A) (hkw : PK X kws tk) (hall : (backToKw pos (keywordEach kws X.env)).all (·.1.isSome) = true := by rfl) (hks : (backToKw pos (keywordEach kws X.env)).filterMap (·.1) = ks := by rfl) (hg : Gl X x := by rfl)
    (hdb : (x == ("__debug__" : Str)) = false := by decide) (hpl : ((backTo pos (starEach [] X.env)).any (·.1) || (backToKw pos (keywordEach kws X.env)).any (·.1.isNone)) = false := by rfl) :
    PE X (.Call (.Name x p) [] kws pos) (tMkK X C fI ks tk) := by
  refine ⟨fun pins s σ H Q I h => ?_⟩
  refine wpAny_Call_Name_kw (ld_glob I hg gC ?_ hdb)
  refine PySem.W.callWith_KW0 (h₀ := X.base) I.ok.mod.kin T.kC hall ?_ hpl
  refine thn (hkw.run pos pins s σ H _ I h) fun us s1 ⟨vs, H1, I1, r1, fs, hI, q1⟩ => ⟨I1.kIn, ?_⟩
  rw [hks]
  obtain ⟨mA, pre, rF, hini, hpre⟩ := hI s1.heap us I1.ok.mod I1.hok r1
  obtain ⟨hp, g, dr, tk, os⟩ := s1
  have h1 := hr.dp
  have h2 := hr.un
  refine wpAny_call (PySem.SupY.made_of T hini hpre I1.ok.mod.kin I1.bk (by decide) (by show X.A.depth + 1 < recursionLimit; omega) (by show X.A.units + _ < cLine; omega) fun h' tk' e d M => ?_)
  exact ep_made I1 M rF fun hd he hne => q1 d e hd he hne
/-- a field of an exception that is kept -/
def tExF (K : PySem.W.Frag) (f : Str) (te : TE) : TE := fun σ H Q => te σ H fun x H1 => ∃ (a C d : Addr) (fs : List (Str × V)) (v : V), x = .ref a ∧ H1 a = some (exo a C (some d)) ∧ H1 d = some (.xd fs) ∧ fs.lookup f = some v ∧ XfC K C ∧ PySem.W.findIn K (.ref C) f = some none ∧ Q v H1
theorem pe_exF {e : Expr} {te : TE} {n : Str} (he : PE X e te) (hb : attributeBase e n X.env (eval e X.env) = eval e X.env := by rfl) : PE X (.Attribute e n pos) (tExF X.K n te) := by
  refine ⟨fun pins s σ H Q I h => ?_⟩
  refine attr_of hb (thn (he.run pins s σ H _ I h) fun u s1 hh => ?_)
  obtain ⟨y, H1, I1, rx, a, C, d, fs, v, ex, ha, hd, hl, T, hno, q⟩ := hh
  subst ex
  obtain rfl : u = Value.ref a := rx
  obtain ⟨t1, hg⟩ := exo_at I1.hok ha
  have hx : ObjOk X.prog X.w H1 s1.heap d (.xd fs) := I1.hok d _ hd
  obtain ⟨mA, hns, hr⟩ := hx
  obtain ⟨od, ho, hlk⟩ := lookIn_ns hns
  obtain ⟨u, hu, ru⟩ := RelO.some_of (v := v) (o := mA n) (by rw [← hl]; exact hr n)
  have J : PySem.W.InstAt s1.heap a _ C (some od) := ⟨hg, rfl, rfl, ho⟩
  exact PySem.HandSPX.exc_get I1.kIn J T.ga T.gg T.exC (PySem.W.findObj_own T.hdC hno rfl (by rw [hlk, hu])) (handed_of ru) ⟨v, H1, I1.tok _, ru, q⟩
end
end L2

end
section
set_option Elab.async false
set_option linter.all false
set_option maxRecDepth 100000
set_option maxHeartbeats 4000000
/-! isinstance of an exception that a suite holds, whatever its dict; defs that take it as their argument -/
namespace PySem.W
open PySem PySem.Spec PySem.Calls PyProof.Rows
section
variable {prog : Program} {w : World} {A : Around} {E : Value → Shared → Prop} {s : Shared} {K : Frag} {x D : Addr} {ox : Obj} {od : Option Obj}
/-- x.__class__ -/
theorem x3_class {Q : Option Value → Shared → Prop} (C : L2.ExcC K D) (X : K.In s.heap) (I : InstAt s.heap x ox D od) (h : Q (some (.ref D)) { s with toks := s.toks + 1 }) : wpAny (model prog w) A (getAttr? (.ref x) "__class__") Q E s := by
  have hf : findObj K D od "__class__" = some (.bind (.builtin "getset_descriptor.__get__") (.builtin "object.__class__")) := by
    have hc : (clsIn K D).isSome = true := by
      obtain ⟨cd, hc, _⟩ := any_some C.hd
      rw [hc]
      rfl
    cases od with
    | none => exact findObj_dataN hc C.ha C.hn C.ht
    | some o => exact findObj_data hc C.ha C.hn C.ht
  obtain ⟨hp, g, dr, t, os⟩ := s
  have l0 := I.type (M := model prog w)
  have l1 := looks_findIn (M := model prog w) X C.hg
  have l2 := looks_findIn (M := model prog w) X C.hk
  have l3 := looks_find (M := model prog w) X I hf
  have lS : Looks (model prog w) hp (isInstance (.ref x) (.type "BaseException")) true := l0.andThen (looks_subIn X C.hs)
  have n0 : (false && onTheHeap (Value.builtin "BaseException.__getattribute__")) = false := rfl
  have n2 : (Value.builtin "BaseException.__getattribute__" == Value.builtin "object.__getattribute__") = false := by decide +kernel
  have n1 : (onTheHeap (Value.ref D) && Value.builtin "BaseException.__getattribute__" == Value.builtin "object.__getattribute__") = false := by rw [n2]; rfl
  unfold getAttr? getAttrBy? getAttrBy
  refine wpAny_bind (wpAny_mkText (wpAny_bind (wpAny_attempt (wpAny_holding (wpAny_bind (l0.at (wpAny_bind (l1.at ?_))))))))
  show wpAny _ _ (if (onTheHeap (Value.ref D) && Value.builtin "BaseException.__getattribute__" == Value.builtin "object.__getattribute__") = true then _ else _) _ _ _
  rw [n1, if_neg Bool.false_ne_true]; unfold getAttrByItsOwn hookBefore; refine wpAny_bind ?_
  rw [if_pos (show onTheHeap (Value.ref D) = true from rfl)]; refine l2.at ?_
  refine wpAny_bind (wpAny_attempt (wpAny_holding ?_)); unfold callGetattribute
  rw [n0, if_neg Bool.false_ne_true]; unfold boundAndCalled; rw [PySem.F.excAttr_ValueError.ga.bind (.ref x)]
  refine wpAny_bind (wpAny_pure ?_); show wpAny _ _ (call (.builtin "BaseException.__getattribute__") [.ref x, .str "__class__" t]) _ _ _
  refine wpAny_call (codeAny_call_builtin PySem.F.excAttr_ValueError.ga.plain PySem.F.entry_bexc_ga (@check_slot (model prog w) _ _ ⟨hp, g, dr, t + 1, os⟩ "BaseException.__getattribute__" "BaseException" "__getattribute__" (.ref x) [.str "__class__" t] [] _ (by decide +kernel) (by decide +kernel) lS (PySem.F.args_bexc_ga (.ref x) (.str "__class__" t)) ?_))
  unfold Builtin.«object.__getattribute__»; refine wpAny_bind (wpAny_of_eq (a := ((Value.ref x : Value), [Value.str "__class__" t])) (by first | rfl | (simp only [slotArgs]; rfl)) ?_)
  refine wpAny_bind (wpAny_pure (wpAny_bind (l0.at (wpAny_bind (l3.at ?_)))))
  show wpAny _ _ (holding [Value.builtin "object.__class__"] (call (.builtin "getset_descriptor.__get__") [.builtin "object.__class__", .ref x, .ref D]) >>= ret) _ _ _
  refine wpAny_bind (wpAny_holding (wpAny_call (class_get (s := ⟨hp, g, dr, t + 1, os⟩) (ox := ox) (od := od) X I C.hm ?_)))
  refine wpAny_pure ?_; show wpAny _ _ (handedOut (.ref D)) _ _ _
  rw [handedOut_of (v := .ref D) rfl]
  first
    | exact wpAny_pure (wpAny_pure h)
    | exact wpAny_pure h
    | exact wpAny_pure (wpAny_bind (wpAny_pure (wpAny_pure h)))
theorem x3_kit (C : L2.ExcC K D) : KitX K (.ref x) (.ref D) (fun h => ∃ od, InstAt h x ox D od) where
  ty := fun _ _ _ ⟨_, I⟩ => I.type
  it := fun _ _ X _ => by
    obtain ⟨cd, hc, _⟩ := any_some C.hd; unfold clsIn at hc
    split at hc
    · rename_i c' d' cd' sl' ho
      exact fun A' Q' E' s' k q => by unfold isType loadHead; exact wpAny_bind (wpAny_loadPart (k _ _ (X _ _ ho)) (wpAny_pure q))
    · cases hc
  ne := fun h tp dd its n sl X htp => by
    obtain ⟨cd, hc, _⟩ := any_some C.hd
    cases e : (Value.ref D == Value.ref tp) with
    | false => rfl
    | true =>
      have e : D = tp := Value.ref.inj (beq_iff_eq.mp e)
      subst e; unfold clsIn at hc
      split at hc
      · rename_i c' d' cd' sl' ho
        have z := (X _ _ ho).symm.trans htp
        cases z
      · cases hc
  ca := fun X ⟨_, I⟩ k => x3_class C X I k
end
end PySem.W
namespace L2
open PySem PySem.Spec PyProof.Rows
/-- the dict of an exception is known, if it has one -/
def DOk (H : Hp) (d : Option Addr) : Prop := ∀ dd, d = some dd → ∃ fs, H dd = some (.xd fs)
theorem DOk.mono {H H' : Hp} {d : Option Addr} (h : DOk H d) (s : Same H H') : DOk H' d := fun dd e => by
  obtain ⟨fs, q⟩ := h dd e
  exact ⟨fs, s _ _ q⟩
/-- isinstance(e, c), e the held exception at a, of the class cls -/
def rIsX (K : PySem.W.Frag) (cls : Value) (a : Addr) (d : Option Addr) : List V → Hp → VK → Prop := fun xs H Q => ∃ (D : Addr) (c : V) (cv : Value) (b : Bool), cls = .ref D ∧ ExcC K D ∧ xs = [.ref a, c] ∧ (∀ u, RelV c u → u = cv) ∧ PySem.W.kitOne K (.ref D) cv = some b ∧ DOk H d ∧ Q (.bl b) H
theorem call_isX {X : Cx} {a : Addr} {cls : Value} {d : Option Addr} {oe : Obj} (hp : (a, oe) ∈ X.pn) (hz : Zc cls d oe) (hf : ∃ vs, oe.data = .fields vs) : CallR X (.builtin "isinstance") (rIsX X.K cls a d) := by
  intro pins s σ H xs us Q I r h
  obtain ⟨D, c, cv, b, rfl, C, rfl, hcv, e, hd, q⟩ := h
  obtain ⟨u1, u2, rfl, rx, rt⟩ : ∃ u1 u2, us = [u1, u2] ∧ RelV (.ref a) u1 ∧ RelV c u2 := by
    cases r with
    | cons rx rr =>
      cases rr with
      | cons rt rr =>
        cases rr
        exact ⟨_, _, rfl, rx, rt⟩
  obtain rfl : u1 = Value.ref a := rx
  obtain rfl := hcv _ rt
  obtain ⟨hget, _⟩ := I.pin (a, oe) (List.mem_append_left _ hp)
  obtain ⟨vs, hv⟩ := hf
  obtain ⟨od, J⟩ : ∃ od, PySem.W.InstAt s.heap a oe D od := by
    have hno : PySem.W.notCls oe = true := by unfold PySem.W.notCls; rw [hv] <;> rfl
    cases d with
    | none => exact ⟨none, hget, hz.1, hno, by rw [hz.2]; trivial⟩
    | some dd =>
      obtain ⟨fs, hdd⟩ := hd dd rfl
      obtain ⟨mA, ⟨od, es, ep, ho, _⟩, _⟩ : ObjOk X.prog X.w H s.heap dd (.xd fs) := I.hok dd _ hdd
      exact ⟨some od, hget, hz.1, hno, by rw [hz.2]; exact ho⟩
  exact PySem.W.kia_one (PySem.W.x3_kit C) I.kIn ⟨od, J⟩ e (fun z => nomatch z) fun tk => ⟨.bl b, H, I.kept (t' := tk) fun _ _ z => z, rfl, q⟩
/-- a field of the held exception -/
def tXg (K : PySem.W.Frag) (a : Addr) (cls : Value) (d : Option Addr) (f : Str) (te : TE) : TE := fun σ H Q => te σ H fun x H1 => x = .ref a ∧ ∃ C, cls = .ref C ∧ XfC K C ∧ PySem.W.findIn K (.ref C) f = some none ∧ ∃ (dd : Addr) (fs : List (Str × V)) (v : V), d = some dd ∧ H1 dd = some (.xd fs) ∧ fs.lookup f = some v ∧ Q v H1
theorem pe_xg {X : Cx} {a : Addr} {oe : Obj} {cls : Value} {d : Option Addr} {e : Expr} {te : TE} {pos : Pos} {n : Str} (hp : (a, oe) ∈ X.pn) (hz : Zc cls d oe) (hf : ∃ vs, oe.data = .fields vs) (he : PE X e te) (hb : attributeBase e n X.env (eval e X.env) = eval e X.env := by rfl) :
    PE X (.Attribute e n pos) (tXg X.K a cls d n te) := by
  refine ⟨fun pins s σ H Q I h => attr_of hb (thn (he.run pins s σ H _ I h) fun u s1 hh => ?_)⟩
  obtain ⟨x, H1, I1, rx, rfl, C, rfl, T, hno, dd, fs, v, rfl, ea, l, q⟩ := hh
  obtain rfl : u = Value.ref a := rx
  obtain ⟨ha, _⟩ := I1.pin (a, oe) (List.mem_append_left _ hp)
  obtain ⟨vs, hd⟩ := hf
  obtain ⟨mA, hns, hr⟩ : ObjOk X.prog X.w H1 s1.heap dd (.xd fs) := I1.hok dd _ ea
  obtain ⟨od, ho, hl⟩ := lookIn_ns hns
  obtain ⟨u, hu, ru⟩ := RelO.some_of (v := v) (o := mA n) (by rw [← l]; exact hr n)
  have J : PySem.W.InstAt s1.heap a oe C (some od) := ⟨ha, hz.1, by unfold PySem.W.notCls; rw [hd] <;> rfl, by rw [hz.2]; exact ho⟩
  exact HandSPX.exc_get I1.kIn J T.ga T.gg T.exC (PySem.W.findObj_own T.hdC hno rfl (by rw [hl, hu])) (handed_of ru) ⟨v, H1, I1.tok _, ru, q⟩
/-! ### defs of one parameter, an exception that a suite holds -/
abbrev SpE := Addr → Option Addr → Hp → VK → Prop
structure FnE (P : Program) (w : World) (K : PySem.W.Frag) (mg : Str → Option Value) (base : Heap) (k : Nat) (f : Addr) (fd : FuncData) (sp : SpE) : Prop where
  run : ∀ (A : Around) (outer : List Env) (s : Shared) (H : Hp) (a : Addr) (oe : Obj) (C : Addr) (d : Option Addr) (Q : VK), L2H.RoomH k A → Zc (.ref C) d oe → (∃ vs, oe.data = .fields vs) → L2H.PinOk outer H s (a, oe) → Env0 P w K mg base A outer s H → sp C d H Q →
    codeAny (model P w) A (.call (.ref f) ⟨[.ref a], []⟩) (CR CX0 outer P w H s Q E0) s
theorem fnE_of {P : Program} {w : World} {K : PySem.W.Frag} {mg : Str → Option Value} {base : Heap} {x : Str} {st : Stmt} {f : Addr} {fd : FuncData} {N : List Str} {p : Str} {k : Nat} {sp : SpE} (F : FunD K x x (defArgs st) (defBody st) (defScope st) [] [] f fd) (S : FnScope N [p] (defScope st))
    (hbind : Binds K fd [p] [])
    (hbody : ∀ (cdv : Value) (A : Around) (outer : List Env) (s : Shared) (H : Hp) (a : Addr) (oe : Obj) (C : Addr) (d : Option Addr) (Q : VK), L2H.RoomH k (A.deeper (envOfC x (defScope st) s.heap.objs.size f cdv)) → Zc (.ref C) d oe → (∃ vs, oe.data = .fields vs) → sp C d H Q →
      ∃ t, PSs (L2H.cxH CX0 P w K mg base N x (defScope st) f cdv A outer s H E0 (a, oe)) (defBody st) t ∧ t { nx := fun _ H' => Q .non H', rt := Q } (start N [.ref a]) H) :
    FnE P w K mg base (k + 1) f fd sp := by
  obtain ⟨oc, od, dV, kV, doc, pm, an, cdv, ct, osl, rfl, lk, hcd, _, _⟩ := F.ex
  refine ⟨fun A outer s H a oe C d Q hr hz hf hpin e0 hsp => ?_⟩
  have inH : K.In s.heap := e0.mod.kin.keeps fun b o e => (e0.bs b o e).1
  have noL : s.heap.NoLimit := e0.mod.nolimit.keeps fun b o e => (e0.bs b o e).1
  have hb := hbind s [.ref a] inH rfl
  rw [List.append_nil] at hb
  have kinds : ∀ y ∈ [p].zip [Value.ref a], (defScope st).names.lookup y.1 = some .local ∨ ((defScope st).names.lookup y.1 = some .cell ∧ ((cellsFrom (s.heap.objs.size + 1) (defScope st).names []).lookup y.1).isSome = true) := fun y hy => by
    have hy1 : y.1 = p := by
      have : y ∈ [(p, Value.ref a)] := hy
      rw [List.mem_singleton.mp this]
    rw [hy1]
    rcases S.par p List.mem_cons_self with q | q
    · exact .inl q
    · exact .inr ⟨q, PySem.W.cellsFrom_some _ _ _ (.inl q)⟩
  refine codeAny_call_function hr.depth (inH _ _ lk) rfl S.co S.gen rfl (PySem.W.codeRec_of inH hcd) (hb _ _ _ _ (wpAny_newFunctionEnv_cells S.kind kinds fun env he s1 xx => ?_))
  subst he
  obtain ⟨t, ht, hq⟩ := hbody cdv A outer s H a oe C d Q (hr.deeper _) hz hf hsp
  have J := L2H.inv_startH (CX := CX0) (E := E0) (vs := [V.ref a]) S hpin e0 rfl (.cons rfl .nil) xx
  refine ⟨noL.keeps xx.toInCall.keep, codeAny_func (wpAny_mono (ht.run [] s1 _ H _ J hq) (fun fl s' hs => ?_) fun e s' hs => hs)⟩
  match fl, hs with
  | .ret u, hs =>
    obtain ⟨v, σ', H', I, rv, q⟩ := hs
    exact ⟨v, H', I.os, I.bare, I.base, I.hok, rv, q⟩
  | .next, hs =>
    obtain ⟨σ', H', I, q⟩ := hs
    exact ⟨.non, H', I.os, I.bare, I.base, I.hok, rfl, q⟩
  | .brk, hs =>
    obtain ⟨_, _, _, q⟩ := hs
    cases q
  | .cont, hs =>
    obtain ⟨_, _, _, q⟩ := hs
    cases q
/-- f(e), e the exception that the suite holds -/
def tCallE (a : Addr) (cls : Value) (d : Option Addr) (sp : SpE) (te : TE) : TE := fun σ H Q => te σ H fun v H1 => v = .ref a ∧ ∃ C, cls = .ref C ∧ sp C d H1 Q
theorem pe_callE {X : Cx} {a : Addr} {cls : Value} {d : Option Addr} {oe : Obj} {k : Nat} {f : Addr} {fd : FuncData} {sp : SpE} {x : Str} {e : Expr} {te : TE} {q pos : Pos} (F : FnE X.prog X.w X.K X.mg X.base k f fd sp) (hr : L2H.RoomH k X.A) (hp : (a, oe) ∈ X.pn) (hz : Zc cls d oe) (hf : ∃ vs, oe.data = .fields vs)
    (hg : Gl X x) (hm : X.mg x = some (.ref f)) (hk : PySem.W.keepIn X.K (.ref f) = true) (he : PE X e te) (hdb : (x == ("__debug__" : Str)) = false := by decide) (hst : starEach [e] X.env = (false, eval e X.env) :: starEach [] X.env := by rfl) (hpl : (backTo pos (starEach [] X.env)).any (·.1) = false := by rfl) :
    PE X (.Call (.Name x q) [e] [] pos) (tCallE a cls d sp te) := by
  refine ⟨fun pins s σ H Q I h => ?_⟩
  refine wpAny_Call_Name_kw (ld_glob I hg hm ?_ hdb)
  refine PySem.W.callWith_K (h₀ := X.base) I.ok.mod.kin hk ?_ hst hpl
  rw [hst]
  show wpAny _ _ (spliced ((false, eval e X.env) :: backTo pos (starEach [] X.env))) _ _ s
  refine Calls.spliced_cons (thn (he.run pins s σ H _ I h) fun u s1 ⟨v, H1, I1, r1, ev, C, ec, q1⟩ => ?_)
  subst ev ec
  obtain rfl : u = Value.ref a := r1
  refine Calls.spliced_nil ⟨I1.kIn, ?_⟩
  show wpAny _ _ (call (.ref f) [.ref a]) _ _ _
  have P1 := I1.pin (a, oe) (List.mem_append_left _ hp)
  have hpin : L2H.PinOk X.stack H1 s1 (a, oe) := ⟨P1.1, P1.2.1, fun hm => (List.mem_cons.mp (I1.stkSub a hm)).elim P1.2.2.1 P1.2.2.2.1, P1.2.2.2.2⟩
  refine wpAny_call (codeAny_mono (F.run X.A X.stack s1 H1 a oe C d Q hr hz hf hpin I1.env0 q1) fun r s' hq => ?_)
  match r, hq with
  | .error e, hq => cases hq
  | .ok (.ret u), hq => exact I1.after hq
  | .ok .next, hq => cases hq
  | .ok .brk, hq => cases hq
  | .ok .cont, hq => cases hq
end L2

end
section
set_option Elab.async false
set_option linter.all false
set_option maxRecDepth 100000
set_option maxHeartbeats 4000000
namespace My
open PySem PySem.Spec PyProof.Rows L2
/-- the classes by their kinds in the law; the last one is TalkError -/
def CN : List Str := ["BadTree", "BadName", "NoName", "Clash", "BadClass", "BadSelector", "NoMethod", "BadFields", "BadParent", "BadCount", "BadMade", "BadPlaces", "NotSound", "BadWorld", "NoObject", "Busy", "Late", "BadNumber", "NotThat", "NothingToUndo", "TooMany", "BadCommand", "BadSource", "BadProgram", "BadText", "BadCodes", "BadLog", "BadSchedule", "TalkError"]
abbrev veB : List Value := [.type "ValueError", .type "Exception", .type "BaseException", .type "object"]
structure Cls (P : Program) (K : PySem.W.Frag) (mg : Str → Option Value) (C fI : Nat → Addr) : Prop where
  g : ∀ i, i < 29 → mg (CN.getD i "") = some (.ref (C i))
  kp : ∀ i, i < 29 → PySem.W.keepIn K (.ref (C i)) = true
  be : ∀ i, i < 29 → PySem.W.subIn K (.ref (C i)) (.type "BaseException") = some true
  ty : ∀ i, i < 29 → PySem.W.typeIn K (.ref (C i)) = some (.type "type")
  ex : ∀ i, i < 22 ∨ i = 28 → PySem.W.excIn K (C i) veB "ValueError.__new__" = true
  em : ∀ i, i < 29 → PySem.W.exmOne K (.ref (C i)) (.ref (C 28)) = some true
  ec : ∀ i, i < 29 → ExcC K (C i)
  kit : ∀ i j, i < 29 → j < 28 → PySem.W.kitOne K (.ref (C i)) (.ref (C j)) = some (decide (i = j))
  kitV : ∀ i, i < 29 → PySem.W.kitOne K (.ref (C i)) (.type "ValueError") = some true
  xf : ∀ i, i < 29 → XfC K (C i)
  s22 : PySem.SupY.SupTxt P K mg 2 "BadSource.__init__" ["place"] (C 22) (fI 22)
  s23 : PySem.SupY.SupTxt P K mg 7 "BadProgram.__init__" ["where"] (C 23) (fI 23)
  s24 : PySem.SupY.SupTxt P K mg 15 "BadText.__init__" ["row"] (C 24) (fI 24)
  s25 : PySem.SupY.SupTxt P K mg 17 "BadCodes.__init__" ["body", "place"] (C 25) (fI 25)
  s26 : PySem.SupY.SupTxt P K mg 25 "BadLog.__init__" ["place"] (C 26) (fI 26)
  s27 : PySem.SupY.SupTxt P K mg 27 "BadSchedule.__init__" ["place"] (C 27) (fI 27)
/-- if kind == c: raise E -/
def tIfR (i : Nat) (c : Int) (r : L2.St → Hp → Prop) : TS := fun D σ H => ∃ k : Int, σ[i]? = some (some (.int k)) ∧ (k = c → r σ H) ∧ (k ≠ c → D.nx σ H)
theorem ps_ifR {X : Cx} {i : Nat} {c : Int} {a e : Expr} {W : WX} {t : L2.St → Hp → XK → Prop} {n0 : Nat} {p3 p4 p5 p6 : Pos} (hc : X.calm = true) (tk : Takes X W) (ha : PE X a (tVar i)) (he : PMk X e t) :
    PS X (.If (.Compare a [.Eq] [.Constant (.int c) n0 p3] p4) [.Raise (some e) none p5] [] p6) (tIfR i c fun σ H => t σ H fun cls d H' => W cls d σ H') := by
  refine ⟨fun pins s σ H D I h => ?_⟩
  obtain ⟨k, hk, h1, h2⟩ := h
  refine (ps_if (pt_cmpR op_eq ha pe_int (nomark _)) (pss_one (ps_raise hc tk he)) pss_nil).run pins s σ H D I ?_
  refine ⟨_, hk, rfl, _, rfl, ?_⟩
  by_cases e : k = c
  · rw [decide_eq_true (by rw [e])]
    exact iteT (h1 e)
  · rw [decide_eq_false (fun z => e (V.int.inj z))]
    exact iteF (h2 e)
/-- how an error of kind k is left: p, o the two numbers -/
def Left (k : Nat) (p o : Int) (H : Hp) (d : Option Addr) (H' : Hp) : Prop := Same H H' ∧
  if k = 22 ∨ k = 26 ∨ k = 27 then ∃ dd, d = some dd ∧ H' dd = some (.xd [("place", .int p)])
  else if k = 23 then ∃ dd t, d = some dd ∧ H' dd = some (.xd [("where", .ref t)]) ∧ H' t = some (.tup [.int p, .int o])
  else if k = 24 then ∃ dd, d = some dd ∧ H' dd = some (.xd [("row", .int p)])
  else if k = 25 then ∃ dd, d = some dd ∧ H' dd = some (.xd [("place", .int o), ("body", .int p)])
  else d = none
/-- raise(kind, text), for the kinds from lo to below hi -/
def spRaise (C : Nat → Addr) (lo hi : Nat) : Sp := fun vs H Q E => ∃ (k : Nat) (t : Str), vs = [.int (k : Int), .str t] ∧ (lo ≤ k ∧ k < hi → E (.ref (C k)) none H) ∧ (¬ (lo ≤ k ∧ k < hi) → Q .non H)
def spLast (C : Nat → Addr) : Sp := fun vs H Q E => ∃ (k : Nat) (t : Str) (p o : Int), vs = [.int (k : Int), .str t, .int p, .int o] ∧ 22 ≤ k ∧ k < 29 ∧ p.natAbs < 2 ^ 30 ∧ o.natAbs < 2 ^ 30 ∧ ∀ d H', Left k p o H d H' → E (.ref (C k)) d H'
abbrev s_law_raise : Stmt := top 33
abbrev s_law_raise_more : Stmt := top 34
abbrev s_law_raise_last : Stmt := top 35
theorem log64 {n : Int} (h : n.natAbs < 2 ^ 30) : n.natAbs.log2 < 64 := by
  by_cases e : n.natAbs = 0
  · rw [e]
    decide
  · have := (Nat.log2_lt e).mpr h
    omega
section
variable {P : Program} {w : World} {K : PySem.W.Frag} {mg : Str → Option Value} {base : Heap} {C fI : Nat → Addr}
theorem sc_law_raise : FnScope ["_law_kind", "_law_text"] ["_law_kind", "_law_text"] (defScope s_law_raise) := ⟨rfl, rfl, rfl, by decide +kernel, rfl, by decide +kernel, by decide +kernel⟩
theorem sc_law_raise_more : FnScope ["_law_kind", "_law_text"] ["_law_kind", "_law_text"] (defScope s_law_raise_more) := ⟨rfl, rfl, rfl, by decide +kernel, rfl, by decide +kernel, by decide +kernel⟩
theorem sc_law_raise_last : FnScope ["_law_kind", "_law_text", "_law_place", "_law_other"] ["_law_kind", "_law_text", "_law_place", "_law_other"] (defScope s_law_raise_last) := ⟨rfl, rfl, rfl, by decide +kernel, rfl, by decide +kernel, by decide +kernel⟩
theorem ok_raise {f : Addr} {fd : FuncData} (F : FnP K "_law_raise" s_law_raise f fd) (T : Cls P K mg C fI) : FnOk P w K mg base (L2.CX P w) 3 f fd ["_law_kind", "_law_text"] (spRaise C 0 11) := by
  refine F.ok sc_law_raise (fun vs H Q E h => ?_) (fun cdv A outer s H vs Q E hr h => ⟨_,
    (pss_cons (ps_ifR rfl (takes_of rfl rfl rfl rfl) (pv 0) (SkE.pmk_own1 PySem.F.excBase_ValueError (T.ex 0 (by decide)) (T.g 0 (by decide)) (T.kp 0 (by decide)) (raises_own (T.be 0 (by decide)) (T.ty 0 (by decide))) rfl (pv 1)))
    (pss_cons (ps_ifR rfl (takes_of rfl rfl rfl rfl) (pv 0) (SkE.pmk_own1 PySem.F.excBase_ValueError (T.ex 1 (by decide)) (T.g 1 (by decide)) (T.kp 1 (by decide)) (raises_own (T.be 1 (by decide)) (T.ty 1 (by decide))) rfl (pv 1)))
    (pss_cons (ps_ifR rfl (takes_of rfl rfl rfl rfl) (pv 0) (SkE.pmk_own1 PySem.F.excBase_ValueError (T.ex 2 (by decide)) (T.g 2 (by decide)) (T.kp 2 (by decide)) (raises_own (T.be 2 (by decide)) (T.ty 2 (by decide))) rfl (pv 1)))
    (pss_cons (ps_ifR rfl (takes_of rfl rfl rfl rfl) (pv 0) (SkE.pmk_own1 PySem.F.excBase_ValueError (T.ex 3 (by decide)) (T.g 3 (by decide)) (T.kp 3 (by decide)) (raises_own (T.be 3 (by decide)) (T.ty 3 (by decide))) rfl (pv 1)))
    (pss_cons (ps_ifR rfl (takes_of rfl rfl rfl rfl) (pv 0) (SkE.pmk_own1 PySem.F.excBase_ValueError (T.ex 4 (by decide)) (T.g 4 (by decide)) (T.kp 4 (by decide)) (raises_own (T.be 4 (by decide)) (T.ty 4 (by decide))) rfl (pv 1)))
    (pss_cons (ps_ifR rfl (takes_of rfl rfl rfl rfl) (pv 0) (SkE.pmk_own1 PySem.F.excBase_ValueError (T.ex 5 (by decide)) (T.g 5 (by decide)) (T.kp 5 (by decide)) (raises_own (T.be 5 (by decide)) (T.ty 5 (by decide))) rfl (pv 1)))
    (pss_cons (ps_ifR rfl (takes_of rfl rfl rfl rfl) (pv 0) (SkE.pmk_own1 PySem.F.excBase_ValueError (T.ex 6 (by decide)) (T.g 6 (by decide)) (T.kp 6 (by decide)) (raises_own (T.be 6 (by decide)) (T.ty 6 (by decide))) rfl (pv 1)))
    (pss_cons (ps_ifR rfl (takes_of rfl rfl rfl rfl) (pv 0) (SkE.pmk_own1 PySem.F.excBase_ValueError (T.ex 7 (by decide)) (T.g 7 (by decide)) (T.kp 7 (by decide)) (raises_own (T.be 7 (by decide)) (T.ty 7 (by decide))) rfl (pv 1)))
    (pss_cons (ps_ifR rfl (takes_of rfl rfl rfl rfl) (pv 0) (SkE.pmk_own1 PySem.F.excBase_ValueError (T.ex 8 (by decide)) (T.g 8 (by decide)) (T.kp 8 (by decide)) (raises_own (T.be 8 (by decide)) (T.ty 8 (by decide))) rfl (pv 1)))
    (pss_cons (ps_ifR rfl (takes_of rfl rfl rfl rfl) (pv 0) (SkE.pmk_own1 PySem.F.excBase_ValueError (T.ex 9 (by decide)) (T.g 9 (by decide)) (T.kp 9 (by decide)) (raises_own (T.be 9 (by decide)) (T.ty 9 (by decide))) rfl (pv 1)))
    (pss_one (ps_ifR rfl (takes_of rfl rfl rfl rfl) (pv 0) (SkE.pmk_own1 PySem.F.excBase_ValueError (T.ex 10 (by decide)) (T.g 10 (by decide)) (T.kp 10 (by decide)) (raises_own (T.be 10 (by decide)) (T.ty 10 (by decide))) rfl (pv 1)))
    ))))))))))), ?_⟩)
  · obtain ⟨k, t, rfl, _⟩ := h
    rfl
  · obtain ⟨k, t, rfl, h1, h2⟩ := h
    refine ⟨_, rfl, fun e => ?_, fun n0 => ?_⟩
    · obtain rfl : k = 0 := by omega
      exact ⟨_, rfl, h1 (by omega)⟩
    refine ⟨_, rfl, fun e => ?_, fun n1 => ?_⟩
    · obtain rfl : k = 1 := by omega
      exact ⟨_, rfl, h1 (by omega)⟩
    refine ⟨_, rfl, fun e => ?_, fun n2 => ?_⟩
    · obtain rfl : k = 2 := by omega
      exact ⟨_, rfl, h1 (by omega)⟩
    refine ⟨_, rfl, fun e => ?_, fun n3 => ?_⟩
    · obtain rfl : k = 3 := by omega
      exact ⟨_, rfl, h1 (by omega)⟩
    refine ⟨_, rfl, fun e => ?_, fun n4 => ?_⟩
    · obtain rfl : k = 4 := by omega
      exact ⟨_, rfl, h1 (by omega)⟩
    refine ⟨_, rfl, fun e => ?_, fun n5 => ?_⟩
    · obtain rfl : k = 5 := by omega
      exact ⟨_, rfl, h1 (by omega)⟩
    refine ⟨_, rfl, fun e => ?_, fun n6 => ?_⟩
    · obtain rfl : k = 6 := by omega
      exact ⟨_, rfl, h1 (by omega)⟩
    refine ⟨_, rfl, fun e => ?_, fun n7 => ?_⟩
    · obtain rfl : k = 7 := by omega
      exact ⟨_, rfl, h1 (by omega)⟩
    refine ⟨_, rfl, fun e => ?_, fun n8 => ?_⟩
    · obtain rfl : k = 8 := by omega
      exact ⟨_, rfl, h1 (by omega)⟩
    refine ⟨_, rfl, fun e => ?_, fun n9 => ?_⟩
    · obtain rfl : k = 9 := by omega
      exact ⟨_, rfl, h1 (by omega)⟩
    refine ⟨_, rfl, fun e => ?_, fun n10 => ?_⟩
    · obtain rfl : k = 10 := by omega
      exact ⟨_, rfl, h1 (by omega)⟩
    exact h2 (by omega)
theorem ok_raise_more {f : Addr} {fd : FuncData} (F : FnP K "_law_raise_more" s_law_raise_more f fd) (T : Cls P K mg C fI) : FnOk P w K mg base (L2.CX P w) 3 f fd ["_law_kind", "_law_text"] (spRaise C 11 22) := by
  refine F.ok sc_law_raise_more (fun vs H Q E h => ?_) (fun cdv A outer s H vs Q E hr h => ⟨_,
    (pss_cons (ps_ifR rfl (takes_of rfl rfl rfl rfl) (pv 0) (SkE.pmk_own1 PySem.F.excBase_ValueError (T.ex 11 (by decide)) (T.g 11 (by decide)) (T.kp 11 (by decide)) (raises_own (T.be 11 (by decide)) (T.ty 11 (by decide))) rfl (pv 1)))
    (pss_cons (ps_ifR rfl (takes_of rfl rfl rfl rfl) (pv 0) (SkE.pmk_own1 PySem.F.excBase_ValueError (T.ex 12 (by decide)) (T.g 12 (by decide)) (T.kp 12 (by decide)) (raises_own (T.be 12 (by decide)) (T.ty 12 (by decide))) rfl (pv 1)))
    (pss_cons (ps_ifR rfl (takes_of rfl rfl rfl rfl) (pv 0) (SkE.pmk_own1 PySem.F.excBase_ValueError (T.ex 13 (by decide)) (T.g 13 (by decide)) (T.kp 13 (by decide)) (raises_own (T.be 13 (by decide)) (T.ty 13 (by decide))) rfl (pv 1)))
    (pss_cons (ps_ifR rfl (takes_of rfl rfl rfl rfl) (pv 0) (SkE.pmk_own1 PySem.F.excBase_ValueError (T.ex 14 (by decide)) (T.g 14 (by decide)) (T.kp 14 (by decide)) (raises_own (T.be 14 (by decide)) (T.ty 14 (by decide))) rfl (pv 1)))
    (pss_cons (ps_ifR rfl (takes_of rfl rfl rfl rfl) (pv 0) (SkE.pmk_own1 PySem.F.excBase_ValueError (T.ex 15 (by decide)) (T.g 15 (by decide)) (T.kp 15 (by decide)) (raises_own (T.be 15 (by decide)) (T.ty 15 (by decide))) rfl (pv 1)))
    (pss_cons (ps_ifR rfl (takes_of rfl rfl rfl rfl) (pv 0) (SkE.pmk_own1 PySem.F.excBase_ValueError (T.ex 16 (by decide)) (T.g 16 (by decide)) (T.kp 16 (by decide)) (raises_own (T.be 16 (by decide)) (T.ty 16 (by decide))) rfl (pv 1)))
    (pss_cons (ps_ifR rfl (takes_of rfl rfl rfl rfl) (pv 0) (SkE.pmk_own1 PySem.F.excBase_ValueError (T.ex 17 (by decide)) (T.g 17 (by decide)) (T.kp 17 (by decide)) (raises_own (T.be 17 (by decide)) (T.ty 17 (by decide))) rfl (pv 1)))
    (pss_cons (ps_ifR rfl (takes_of rfl rfl rfl rfl) (pv 0) (SkE.pmk_own1 PySem.F.excBase_ValueError (T.ex 18 (by decide)) (T.g 18 (by decide)) (T.kp 18 (by decide)) (raises_own (T.be 18 (by decide)) (T.ty 18 (by decide))) rfl (pv 1)))
    (pss_cons (ps_ifR rfl (takes_of rfl rfl rfl rfl) (pv 0) (SkE.pmk_own1 PySem.F.excBase_ValueError (T.ex 19 (by decide)) (T.g 19 (by decide)) (T.kp 19 (by decide)) (raises_own (T.be 19 (by decide)) (T.ty 19 (by decide))) rfl (pv 1)))
    (pss_cons (ps_ifR rfl (takes_of rfl rfl rfl rfl) (pv 0) (SkE.pmk_own1 PySem.F.excBase_ValueError (T.ex 20 (by decide)) (T.g 20 (by decide)) (T.kp 20 (by decide)) (raises_own (T.be 20 (by decide)) (T.ty 20 (by decide))) rfl (pv 1)))
    (pss_one (ps_ifR rfl (takes_of rfl rfl rfl rfl) (pv 0) (SkE.pmk_own1 PySem.F.excBase_ValueError (T.ex 21 (by decide)) (T.g 21 (by decide)) (T.kp 21 (by decide)) (raises_own (T.be 21 (by decide)) (T.ty 21 (by decide))) rfl (pv 1)))
    ))))))))))), ?_⟩)
  · obtain ⟨k, t, rfl, _⟩ := h
    rfl
  · obtain ⟨k, t, rfl, h1, h2⟩ := h
    refine ⟨_, rfl, fun e => ?_, fun n11 => ?_⟩
    · obtain rfl : k = 11 := by omega
      exact ⟨_, rfl, h1 (by omega)⟩
    refine ⟨_, rfl, fun e => ?_, fun n12 => ?_⟩
    · obtain rfl : k = 12 := by omega
      exact ⟨_, rfl, h1 (by omega)⟩
    refine ⟨_, rfl, fun e => ?_, fun n13 => ?_⟩
    · obtain rfl : k = 13 := by omega
      exact ⟨_, rfl, h1 (by omega)⟩
    refine ⟨_, rfl, fun e => ?_, fun n14 => ?_⟩
    · obtain rfl : k = 14 := by omega
      exact ⟨_, rfl, h1 (by omega)⟩
    refine ⟨_, rfl, fun e => ?_, fun n15 => ?_⟩
    · obtain rfl : k = 15 := by omega
      exact ⟨_, rfl, h1 (by omega)⟩
    refine ⟨_, rfl, fun e => ?_, fun n16 => ?_⟩
    · obtain rfl : k = 16 := by omega
      exact ⟨_, rfl, h1 (by omega)⟩
    refine ⟨_, rfl, fun e => ?_, fun n17 => ?_⟩
    · obtain rfl : k = 17 := by omega
      exact ⟨_, rfl, h1 (by omega)⟩
    refine ⟨_, rfl, fun e => ?_, fun n18 => ?_⟩
    · obtain rfl : k = 18 := by omega
      exact ⟨_, rfl, h1 (by omega)⟩
    refine ⟨_, rfl, fun e => ?_, fun n19 => ?_⟩
    · obtain rfl : k = 19 := by omega
      exact ⟨_, rfl, h1 (by omega)⟩
    refine ⟨_, rfl, fun e => ?_, fun n20 => ?_⟩
    · obtain rfl : k = 20 := by omega
      exact ⟨_, rfl, h1 (by omega)⟩
    refine ⟨_, rfl, fun e => ?_, fun n21 => ?_⟩
    · obtain rfl : k = 21 := by omega
      exact ⟨_, rfl, h1 (by omega)⟩
    exact h2 (by omega)
theorem pos_BadSource (T : Cls P K mg C fI) (MD : Mod K mg base) {n : Int} (hn : n.natAbs < 2 ^ 30) {us : List Value} (r : Vals [.int n] us) : ∃ mA pre, RelF [("place", .int n)] mA ∧ PySem.SupY.Inits P w K base (C 22) (fI 22) pre us [] mA ∧ ∀ h' : Heap, pre h' := by
  obtain ⟨u, rfl, t, rfl⟩ := vals1 r
  refine ⟨_, fun _ => True, relF_one ⟨t, rfl⟩, fun s x t0 A R _ hbs hx hnx hroom hun hq => ?_, fun _ => trivial⟩
  exact PySem.SupY.ini_BadSource T.s22 (log64 hn) MD hbs hx hnx hroom hun (.inl rfl) hq
theorem kw_BadSource (T : Cls P K mg C fI) (MD : Mod K mg base) {n : Int} (hn : n.natAbs < 2 ^ 30) {us : List Value} (r : Vals [.int n] us) : ∃ mA pre, RelF [("place", .int n)] mA ∧ PySem.SupY.Inits P w K base (C 22) (fI 22) pre [] ((["place"] : List Str).zip us) mA ∧ ∀ h' : Heap, pre h' := by
  obtain ⟨u, rfl, t, rfl⟩ := vals1 r
  refine ⟨_, fun _ => True, relF_one ⟨t, rfl⟩, fun s x t0 A R _ hbs hx hnx hroom hun hq => ?_, fun _ => trivial⟩
  exact PySem.SupY.ini_BadSource T.s22 (log64 hn) MD hbs hx hnx hroom hun (.inr rfl) hq
theorem pos_BadText (T : Cls P K mg C fI) (MD : Mod K mg base) {n : Int} (hn : n.natAbs < 2 ^ 30) {us : List Value} (r : Vals [.int n] us) : ∃ mA pre, RelF [("row", .int n)] mA ∧ PySem.SupY.Inits P w K base (C 24) (fI 24) pre us [] mA ∧ ∀ h' : Heap, pre h' := by
  obtain ⟨u, rfl, t, rfl⟩ := vals1 r
  refine ⟨_, fun _ => True, relF_one ⟨t, rfl⟩, fun s x t0 A R _ hbs hx hnx hroom hun hq => ?_, fun _ => trivial⟩
  exact PySem.SupY.ini_BadText T.s24 (log64 hn) MD hbs hx hnx hroom hun (.inl rfl) hq
theorem kw_BadText (T : Cls P K mg C fI) (MD : Mod K mg base) {n : Int} (hn : n.natAbs < 2 ^ 30) {us : List Value} (r : Vals [.int n] us) : ∃ mA pre, RelF [("row", .int n)] mA ∧ PySem.SupY.Inits P w K base (C 24) (fI 24) pre [] ((["row"] : List Str).zip us) mA ∧ ∀ h' : Heap, pre h' := by
  obtain ⟨u, rfl, t, rfl⟩ := vals1 r
  refine ⟨_, fun _ => True, relF_one ⟨t, rfl⟩, fun s x t0 A R _ hbs hx hnx hroom hun hq => ?_, fun _ => trivial⟩
  exact PySem.SupY.ini_BadText T.s24 (log64 hn) MD hbs hx hnx hroom hun (.inr rfl) hq
theorem pos_BadLog (T : Cls P K mg C fI) (MD : Mod K mg base) {n : Int} (hn : n.natAbs < 2 ^ 30) {us : List Value} (r : Vals [.int n] us) : ∃ mA pre, RelF [("place", .int n)] mA ∧ PySem.SupY.Inits P w K base (C 26) (fI 26) pre us [] mA ∧ ∀ h' : Heap, pre h' := by
  obtain ⟨u, rfl, t, rfl⟩ := vals1 r
  refine ⟨_, fun _ => True, relF_one ⟨t, rfl⟩, fun s x t0 A R _ hbs hx hnx hroom hun hq => ?_, fun _ => trivial⟩
  exact PySem.SupY.ini_BadLog T.s26 (log64 hn) MD hbs hx hnx hroom hun (.inl rfl) hq
theorem kw_BadLog (T : Cls P K mg C fI) (MD : Mod K mg base) {n : Int} (hn : n.natAbs < 2 ^ 30) {us : List Value} (r : Vals [.int n] us) : ∃ mA pre, RelF [("place", .int n)] mA ∧ PySem.SupY.Inits P w K base (C 26) (fI 26) pre [] ((["place"] : List Str).zip us) mA ∧ ∀ h' : Heap, pre h' := by
  obtain ⟨u, rfl, t, rfl⟩ := vals1 r
  refine ⟨_, fun _ => True, relF_one ⟨t, rfl⟩, fun s x t0 A R _ hbs hx hnx hroom hun hq => ?_, fun _ => trivial⟩
  exact PySem.SupY.ini_BadLog T.s26 (log64 hn) MD hbs hx hnx hroom hun (.inr rfl) hq
theorem pos_BadSchedule (T : Cls P K mg C fI) (MD : Mod K mg base) {n : Int} (hn : n.natAbs < 2 ^ 30) {us : List Value} (r : Vals [.int n] us) : ∃ mA pre, RelF [("place", .int n)] mA ∧ PySem.SupY.Inits P w K base (C 27) (fI 27) pre us [] mA ∧ ∀ h' : Heap, pre h' := by
  obtain ⟨u, rfl, t, rfl⟩ := vals1 r
  refine ⟨_, fun _ => True, relF_one ⟨t, rfl⟩, fun s x t0 A R _ hbs hx hnx hroom hun hq => ?_, fun _ => trivial⟩
  exact PySem.SupY.ini_BadSchedule T.s27 (log64 hn) MD hbs hx hnx hroom hun (.inl rfl) hq
theorem kw_BadSchedule (T : Cls P K mg C fI) (MD : Mod K mg base) {n : Int} (hn : n.natAbs < 2 ^ 30) {us : List Value} (r : Vals [.int n] us) : ∃ mA pre, RelF [("place", .int n)] mA ∧ PySem.SupY.Inits P w K base (C 27) (fI 27) pre [] ((["place"] : List Str).zip us) mA ∧ ∀ h' : Heap, pre h' := by
  obtain ⟨u, rfl, t, rfl⟩ := vals1 r
  refine ⟨_, fun _ => True, relF_one ⟨t, rfl⟩, fun s x t0 A R _ hbs hx hnx hroom hun hq => ?_, fun _ => trivial⟩
  exact PySem.SupY.ini_BadSchedule T.s27 (log64 hn) MD hbs hx hnx hroom hun (.inr rfl) hq
theorem vals2 {a b : V} {us : List Value} (r : Vals [a, b] us) : ∃ u v, us = [u, v] ∧ RelV a u ∧ RelV b v := by
  cases r with
  | cons r1 rr =>
    obtain ⟨u, rfl, r2⟩ := vals1 rr
    exact ⟨_, _, rfl, r1, r2⟩
theorem pos_BadCodes (T : Cls P K mg C fI) (MD : Mod K mg base) {n m : Int} (hn : n.natAbs < 2 ^ 30) (hm : m.natAbs < 2 ^ 30) {us : List Value} (r : Vals [.int n, .int m] us) : ∃ mA pre, RelF [("place", .int m), ("body", .int n)] mA ∧ PySem.SupY.Inits P w K base (C 25) (fI 25) pre us [] mA ∧ ∀ h' : Heap, pre h' := by
  obtain ⟨u, v, rfl, ⟨t, rfl⟩, ⟨t2, rfl⟩⟩ := vals2 r
  refine ⟨_, fun _ => True, relF_put ⟨t2, rfl⟩ (relF_one ⟨t, rfl⟩), fun s x t0 A R _ hbs hx hnx hroom hun hq => ?_, fun _ => trivial⟩
  exact PySem.SupY.ini_BadCodes T.s25 (log64 hn) (log64 hm) MD hbs hx hnx hroom hun (.inl rfl) hq
theorem kw_BadCodes (T : Cls P K mg C fI) (MD : Mod K mg base) {n m : Int} (hn : n.natAbs < 2 ^ 30) (hm : m.natAbs < 2 ^ 30) {us : List Value} (r : Vals [.int m, .int n] us) : ∃ mA pre, RelF [("place", .int m), ("body", .int n)] mA ∧ PySem.SupY.Inits P w K base (C 25) (fI 25) pre [] ((["place", "body"] : List Str).zip us) mA ∧ ∀ h' : Heap, pre h' := by
  obtain ⟨u, v, rfl, ⟨t2, rfl⟩, ⟨t, rfl⟩⟩ := vals2 r
  refine ⟨_, fun _ => True, relF_put ⟨t2, rfl⟩ (relF_one ⟨t, rfl⟩), fun s x t0 A R _ hbs hx hnx hroom hun hq => ?_, fun _ => trivial⟩
  exact PySem.SupY.ini_BadCodes T.s25 (log64 hn) (log64 hm) MD hbs hx hnx hroom hun (.inr (.inr rfl)) hq
theorem ints_vals : ∀ {ns : List Int} {its : List Value}, Vals (ns.map V.int) its → (∀ n ∈ ns, n.natAbs < 2 ^ 30) → ∀ v ∈ its, ∃ (n : Int) (t : Tok), v = .int n t ∧ n.natAbs.log2 < 64
  | [], _, .nil, _, v, hv => by cases hv
  | n :: ns, _, .cons r1 rr, hn, v, hv => by
    obtain ⟨t1, rfl⟩ := r1
    rcases List.mem_cons.mp hv with e | hv
    · exact ⟨n, t1, e, log64 (hn n List.mem_cons_self)⟩
    · exact ints_vals rr (fun m hm => hn m (List.mem_cons_of_mem _ hm)) v hv
/-- a tuple of small ints -/
theorem tup_ints {H : Hp} {h : Heap} {t : Addr} {ns : List Int} (hk : HOk P w H h) (ht : H t = some (.tup (ns.map V.int))) (hn : ∀ n ∈ ns, n.natAbs < 2 ^ 30) (hl : ns.length ≤ 10) :
    ∃ (o : Obj) (l : List Value) (m : Nat), h.get? t = some o ∧ o.cls = .type "tuple" ∧ o.data = .seq l.toArray m ∧ (∀ v ∈ l, ∃ (n : Int) (t : Tok), v = .int n t ∧ n.natAbs.log2 < 64) ∧ l.length ≤ 10 := by
  obtain ⟨_, its, r, o, ho, hc, m, hd⟩ : ObjOk P w H h t (.tup (ns.map V.int)) := hk t _ ht
  exact ⟨o, its, m, ho, hc, hd, ints_vals r hn, by rw [← r.length, List.length_map]; exact hl⟩
theorem pos_BadProgram (T : Cls P K mg C fI) (MD : Mod K mg base) {H : Hp} {h : Heap} {t : Addr} {ns : List Int} (hk : HOk P w H h) (ht : H t = some (.tup (ns.map V.int))) (hn : ∀ n ∈ ns, n.natAbs < 2 ^ 30) (hl : ns.length ≤ 10) {us : List Value} (r : Vals [.ref t] us) :
    ∃ mA pre, RelF [("where", .ref t)] mA ∧ PySem.SupY.Inits P w K base (C 23) (fI 23) pre us [] mA ∧ ∀ h' : Heap, (∀ b o, h.get? b = some o → h'.get? b = some o) → pre h' := by
  obtain ⟨u, rfl, e⟩ := vals1 r
  obtain rfl : u = Value.ref t := e
  obtain ⟨o, l, m, ho, hc, hd, hv, hll⟩ := tup_ints hk ht hn hl
  refine ⟨_, fun h' => h'.get? t = some o, relF_one rfl, fun s x t0 A R hp hbs hx hnx hroom hun hq => ?_, fun h' k => k _ _ ho⟩
  exact PySem.SupY.ini_BadProgram T.s23 (ho_where := hp) (hc_where := hc) (hd_where := hd) (hl_where := hv) (hll_where := hll) MD hbs hx hnx hroom hun (.inl rfl) hq
theorem kw_BadProgram (T : Cls P K mg C fI) (MD : Mod K mg base) {H : Hp} {h : Heap} {t : Addr} {ns : List Int} (hk : HOk P w H h) (ht : H t = some (.tup (ns.map V.int))) (hn : ∀ n ∈ ns, n.natAbs < 2 ^ 30) (hl : ns.length ≤ 10) {us : List Value} (r : Vals [.ref t] us) :
    ∃ mA pre, RelF [("where", .ref t)] mA ∧ PySem.SupY.Inits P w K base (C 23) (fI 23) pre [] ((["where"] : List Str).zip us) mA ∧ ∀ h' : Heap, (∀ b o, h.get? b = some o → h'.get? b = some o) → pre h' := by
  obtain ⟨u, rfl, e⟩ := vals1 r
  obtain rfl : u = Value.ref t := e
  obtain ⟨o, l, m, ho, hc, hd, hv, hll⟩ := tup_ints hk ht hn hl
  refine ⟨_, fun h' => h'.get? t = some o, relF_one rfl, fun s x t0 A R hp hbs hx hnx hroom hun hq => ?_, fun h' k => k _ _ ho⟩
  exact PySem.SupY.ini_BadProgram T.s23 (ho_where := hp) (hc_where := hc) (hd_where := hd) (hl_where := hv) (hll_where := hll) MD hbs hx hnx hroom hun (.inr rfl) hq
theorem ok_raise_last {f : Addr} {fd : FuncData} (F : FnP K "_law_raise_last" s_law_raise_last f fd) (T : Cls P K mg C fI) : FnOk P w K mg base (L2.CX P w) 4 f fd ["_law_kind", "_law_text", "_law_place", "_law_other"] (spLast C) := by
  refine F.ok sc_law_raise_last (fun vs H Q E h => ?_) (fun cdv A outer s H vs Q E hr h => ⟨_,
    (pss_cons (ps_ifR rfl (takes_of rfl rfl rfl rfl) (pv 0) (pmk_ini T.s22 (T.g 22 (by decide)) hr (pa_cons (pv 2) pa_nil)))
    (pss_cons (ps_ifR rfl (takes_of rfl rfl rfl rfl) (pv 0) (pmk_ini T.s23 (T.g 23 (by decide)) hr (pa_cons (pe_tup (pa_cons (pv 2) (pa_cons (pv 3) pa_nil))) pa_nil)))
    (pss_cons (ps_ifR rfl (takes_of rfl rfl rfl rfl) (pv 0) (pmk_ini T.s24 (T.g 24 (by decide)) hr (pa_cons (pv 2) pa_nil)))
    (pss_cons (ps_ifR rfl (takes_of rfl rfl rfl rfl) (pv 0) (pmk_ini T.s25 (T.g 25 (by decide)) hr (pa_cons (pv 2) (pa_cons (pv 3) pa_nil))))
    (pss_cons (ps_ifR rfl (takes_of rfl rfl rfl rfl) (pv 0) (pmk_ini T.s26 (T.g 26 (by decide)) hr (pa_cons (pv 2) pa_nil)))
    (pss_cons (ps_ifR rfl (takes_of rfl rfl rfl rfl) (pv 0) (pmk_ini T.s27 (T.g 27 (by decide)) hr (pa_cons (pv 2) pa_nil)))
    (pss_one (ps_raise rfl (takes_of rfl rfl rfl rfl) (SkE.pmk_own1 PySem.F.excBase_ValueError (T.ex 28 (by decide)) (T.g 28 (by decide)) (T.kp 28 (by decide)) (raises_own (T.be 28 (by decide)) (T.ty 28 (by decide))) rfl (pv 1)))))))))), ?_⟩)
  · obtain ⟨k, t, p, o, rfl, _⟩ := h
    rfl
  · obtain ⟨k, t, p, o, rfl, k1, k2, hp, ho, h⟩ := h
    have fr : ∀ {d : Addr} {u : HO}, H d = none → Same H (upd H d u) := fun hd b u e => by
      rw [upd_ne (ne_of_none e hd)]
      exact e
    refine ⟨_, rfl, fun e => ?_, fun n22 => ?_⟩
    · obtain rfl : k = 22 := by omega
      refine ⟨_, rfl, by show 1 ≤ 10; decide, [("place", .int p)], fun h0 us MD hk r => ?_, fun d hd => h _ _ ⟨fr hd, ?_⟩⟩
      · obtain ⟨mA, pre, q1, q2, q3⟩ := pos_BadSource (w := w) T MD hp r
        exact ⟨mA, pre, q1, q2, fun h' _ => q3 h'⟩
      · rw [if_pos (by omega)]
        exact ⟨_, rfl, upd_same⟩
    refine ⟨_, rfl, fun e => ?_, fun n23 => ?_⟩
    · obtain rfl : k = 23 := by omega
      refine ⟨_, rfl, _, rfl, (by show 2 ≤ sizeLine; decide), fun q hq => ?_⟩
      refine ⟨by show 1 ≤ 10; decide, [("where", .ref q)], fun h0 us MD hk r => pos_BadProgram (ns := [p, o]) T MD hk upd_same (fun n hn => ?_) (by show 2 ≤ 10; decide) r, fun d hd => h _ _ ⟨fun b u e => ?_, ?_⟩⟩
      · simp only [List.mem_cons, List.not_mem_nil, or_false] at hn
        rcases hn with rfl | rfl
        · exact hp
        · exact ho
      · rw [upd_ne (ne_of_none ((fr hq) _ _ e) hd)]
        exact (fr hq) _ _ e
      · rw [if_neg (by omega), if_pos rfl]
        refine ⟨_, _, rfl, upd_same, ?_⟩
        rw [upd_ne (ne_of_none upd_same hd)]
        exact upd_same
    refine ⟨_, rfl, fun e => ?_, fun n24 => ?_⟩
    · obtain rfl : k = 24 := by omega
      refine ⟨_, rfl, by show 1 ≤ 10; decide, [("row", .int p)], fun h0 us MD hk r => ?_, fun d hd => h _ _ ⟨fr hd, ?_⟩⟩
      · obtain ⟨mA, pre, q1, q2, q3⟩ := pos_BadText (w := w) T MD hp r
        exact ⟨mA, pre, q1, q2, fun h' _ => q3 h'⟩
      · rw [if_neg (by omega), if_neg (by omega), if_pos rfl]
        exact ⟨_, rfl, upd_same⟩
    refine ⟨_, rfl, fun e => ?_, fun n25 => ?_⟩
    · obtain rfl : k = 25 := by omega
      refine ⟨_, rfl, _, rfl, by show 2 ≤ 10; decide, [("place", .int o), ("body", .int p)], fun h0 us MD hk r => ?_, fun d hd => h _ _ ⟨fr hd, ?_⟩⟩
      · obtain ⟨mA, pre, q1, q2, q3⟩ := pos_BadCodes (w := w) T MD hp ho r
        exact ⟨mA, pre, q1, q2, fun h' _ => q3 h'⟩
      · rw [if_neg (by omega), if_neg (by omega), if_neg (by omega), if_pos rfl]
        exact ⟨_, rfl, upd_same⟩
    refine ⟨_, rfl, fun e => ?_, fun n26 => ?_⟩
    · obtain rfl : k = 26 := by omega
      refine ⟨_, rfl, by show 1 ≤ 10; decide, [("place", .int p)], fun h0 us MD hk r => ?_, fun d hd => h _ _ ⟨fr hd, ?_⟩⟩
      · obtain ⟨mA, pre, q1, q2, q3⟩ := pos_BadLog (w := w) T MD hp r
        exact ⟨mA, pre, q1, q2, fun h' _ => q3 h'⟩
      · rw [if_pos (by omega)]
        exact ⟨_, rfl, upd_same⟩
    refine ⟨_, rfl, fun e => ?_, fun n27 => ?_⟩
    · obtain rfl : k = 27 := by omega
      refine ⟨_, rfl, by show 1 ≤ 10; decide, [("place", .int p)], fun h0 us MD hk r => ?_, fun d hd => h _ _ ⟨fr hd, ?_⟩⟩
      · obtain ⟨mA, pre, q1, q2, q3⟩ := pos_BadSchedule (w := w) T MD hp r
        exact ⟨mA, pre, q1, q2, fun h' _ => q3 h'⟩
      · rw [if_pos (by omega)]
        exact ⟨_, rfl, upd_same⟩
    obtain rfl : k = 28 := by omega
    refine ⟨_, rfl, h _ _ ⟨Same.refl H, ?_⟩⟩
    rw [if_neg (by omega), if_neg (by omega), if_neg (by omega), if_neg (by omega)]
end
end My

end
section
set_option Elab.async false
set_option linter.all false
set_option maxRecDepth 100000
set_option maxHeartbeats 4000000
namespace My
open PySem PySem.Spec PyProof.Rows L2
abbrev s_law_marks : Stmt := top 36
abbrev s_law_more_marks : Stmt := top 37
/-- of which of n classes, from the lo-th on, an error of the i-th kind is -/
def marks (lo n i : Nat) : List V := (List.range n).map fun j => V.bl (decide (i = lo + j))
def spMarks (C : Nat → Addr) (lo n : Nat) : SpE := fun D d H Q => ∃ i, i < 29 ∧ D = C i ∧ DOk H d ∧ ∀ H' p, Same H H' → H p = none → H' p = some (.lst (marks lo n i)) → Q (.ref p) H'
theorem sameU {H : Hp} {p : Addr} {o : HO} (hp : H p = none) : Same H (upd H p o) := fun b u e => by
  rw [upd_ne (ne_of_none e hp)]
  exact e
section
variable {P : Program} {w : World} {K : PySem.W.Frag} {mg : Str → Option Value} {base : Heap} {C fI : Nat → Addr}
theorem sc_law_marks : FnScope ["_law_e", "_law_found"] ["_law_e"] (defScope s_law_marks) := ⟨rfl, rfl, rfl, by decide +kernel, rfl, by decide +kernel, by decide +kernel⟩
theorem sc_law_more_marks : FnScope ["_law_e", "_law_found"] ["_law_e"] (defScope s_law_more_marks) := ⟨rfl, rfl, rfl, by decide +kernel, rfl, by decide +kernel, by decide +kernel⟩
theorem ok_marks {f : Addr} {fd : FuncData} (F : FnP K "_law_marks" s_law_marks f fd) (T : Cls P K mg C fI) (g_isinstance : mg "isinstance" = none) : FnE P w K mg base 2 f fd (spMarks C 0 13) := by
  refine fnE_of F sc_law_marks (F.bindsN fun _ _ _ _ _ _ us hl => match us, hl with | [_], _ => rfl) (fun cdv A outer s H a oe D d Q hr hz hf h => ⟨_,
    (pss_cons (ps_set (i := 1) sc_law_marks.nd rfl (Or.inl rfl) (pe_lst (pa_cons (pe_callB (call_isX List.mem_cons_self hz hf) (by rfl) g_isinstance (by decide +kernel) (pa_cons (pv 0) (pa_cons (pe_glob (v := .ref (C 0)) rfl (T.g 0 (by decide)) rfl) pa_nil))) (pa_cons (pe_callB (call_isX List.mem_cons_self hz hf) (by rfl) g_isinstance (by decide +kernel) (pa_cons (pv 0) (pa_cons (pe_glob (v := .ref (C 1)) rfl (T.g 1 (by decide)) rfl) pa_nil))) (pa_cons (pe_callB (call_isX List.mem_cons_self hz hf) (by rfl) g_isinstance (by decide +kernel) (pa_cons (pv 0) (pa_cons (pe_glob (v := .ref (C 2)) rfl (T.g 2 (by decide)) rfl) pa_nil))) (pa_cons (pe_callB (call_isX List.mem_cons_self hz hf) (by rfl) g_isinstance (by decide +kernel) (pa_cons (pv 0) (pa_cons (pe_glob (v := .ref (C 3)) rfl (T.g 3 (by decide)) rfl) pa_nil))) pa_nil))))))
    (pss_cons (ps_set (i := 1) sc_law_marks.nd rfl (Or.inl rfl) (pe_op op_cat (pv 1) (pe_lst (pa_cons (pe_callB (call_isX List.mem_cons_self hz hf) (by rfl) g_isinstance (by decide +kernel) (pa_cons (pv 0) (pa_cons (pe_glob (v := .ref (C 4)) rfl (T.g 4 (by decide)) rfl) pa_nil))) (pa_cons (pe_callB (call_isX List.mem_cons_self hz hf) (by rfl) g_isinstance (by decide +kernel) (pa_cons (pv 0) (pa_cons (pe_glob (v := .ref (C 5)) rfl (T.g 5 (by decide)) rfl) pa_nil))) (pa_cons (pe_callB (call_isX List.mem_cons_self hz hf) (by rfl) g_isinstance (by decide +kernel) (pa_cons (pv 0) (pa_cons (pe_glob (v := .ref (C 6)) rfl (T.g 6 (by decide)) rfl) pa_nil))) pa_nil))))))
    (pss_cons (ps_set (i := 1) sc_law_marks.nd rfl (Or.inl rfl) (pe_op op_cat (pv 1) (pe_lst (pa_cons (pe_callB (call_isX List.mem_cons_self hz hf) (by rfl) g_isinstance (by decide +kernel) (pa_cons (pv 0) (pa_cons (pe_glob (v := .ref (C 7)) rfl (T.g 7 (by decide)) rfl) pa_nil))) (pa_cons (pe_callB (call_isX List.mem_cons_self hz hf) (by rfl) g_isinstance (by decide +kernel) (pa_cons (pv 0) (pa_cons (pe_glob (v := .ref (C 8)) rfl (T.g 8 (by decide)) rfl) pa_nil))) (pa_cons (pe_callB (call_isX List.mem_cons_self hz hf) (by rfl) g_isinstance (by decide +kernel) (pa_cons (pv 0) (pa_cons (pe_glob (v := .ref (C 9)) rfl (T.g 9 (by decide)) rfl) pa_nil))) pa_nil))))))
    (pss_one (ps_ret (pe_op op_cat (pv 1) (pe_lst (pa_cons (pe_callB (call_isX List.mem_cons_self hz hf) (by rfl) g_isinstance (by decide +kernel) (pa_cons (pv 0) (pa_cons (pe_glob (v := .ref (C 10)) rfl (T.g 10 (by decide)) rfl) pa_nil))) (pa_cons (pe_callB (call_isX List.mem_cons_self hz hf) (by rfl) g_isinstance (by decide +kernel) (pa_cons (pv 0) (pa_cons (pe_glob (v := .ref (C 11)) rfl (T.g 11 (by decide)) rfl) pa_nil))) (pa_cons (pe_callB (call_isX List.mem_cons_self hz hf) (by rfl) g_isinstance (by decide +kernel) (pa_cons (pv 0) (pa_cons (pe_glob (v := .ref (C 12)) rfl (T.g 12 (by decide)) rfl) pa_nil))) pa_nil)))))))))), ?_⟩)
  obtain ⟨i, hi, rfl, hd, h⟩ := h
  refine ⟨_, rfl, C i, _, _, _, rfl, T.ec i hi, rfl, fun u e => e, T.kit i 0 hi (by decide), hd, ?_⟩
  refine ⟨_, rfl, C i, _, _, _, rfl, T.ec i hi, rfl, fun u e => e, T.kit i 1 hi (by decide), hd, ?_⟩
  refine ⟨_, rfl, C i, _, _, _, rfl, T.ec i hi, rfl, fun u e => e, T.kit i 2 hi (by decide), hd, ?_⟩
  refine ⟨_, rfl, C i, _, _, _, rfl, T.ec i hi, rfl, fun u e => e, T.kit i 3 hi (by decide), hd, ?_⟩
  refine ⟨(by show 4 ≤ sizeLine; decide), fun p0 np0 => ?_⟩
  have s0 := sameU (o := .lst [V.bl (decide (i = 0)), V.bl (decide (i = 1)), V.bl (decide (i = 2)), V.bl (decide (i = 3))]) np0
  have l0 : (upd H p0 (.lst [V.bl (decide (i = 0)), V.bl (decide (i = 1)), V.bl (decide (i = 2)), V.bl (decide (i = 3))])) p0 = some (.lst [V.bl (decide (i = 0)), V.bl (decide (i = 1)), V.bl (decide (i = 2)), V.bl (decide (i = 3))]) := upd_same
  generalize upd H p0 (.lst [V.bl (decide (i = 0)), V.bl (decide (i = 1)), V.bl (decide (i = 2)), V.bl (decide (i = 3))]) = H1 at s0 l0 ⊢
  have hd1 := hd.mono s0
  have f1 : Same H H1 := s0
  refine ⟨_, rfl, ?_⟩
  refine ⟨_, rfl, C i, _, _, _, rfl, T.ec i hi, rfl, fun u e => e, T.kit i 4 hi (by decide), hd1, ?_⟩
  refine ⟨_, rfl, C i, _, _, _, rfl, T.ec i hi, rfl, fun u e => e, T.kit i 5 hi (by decide), hd1, ?_⟩
  refine ⟨_, rfl, C i, _, _, _, rfl, T.ec i hi, rfl, fun u e => e, T.kit i 6 hi (by decide), hd1, ?_⟩
  refine ⟨(by show 3 ≤ sizeLine; decide), fun p1 np1 => ?_⟩
  have t1 := sameU (o := .lst [V.bl (decide (i = 4)), V.bl (decide (i = 5)), V.bl (decide (i = 6))]) np1
  refine ⟨_, _, _, _, rfl, rfl, t1 _ _ l0, upd_same, (by show 7 ≤ sizeLine; decide), fun r1 nr1 => ?_⟩
  have u1 := t1.trans (sameU (o := .lst ([V.bl (decide (i = 0)), V.bl (decide (i = 1)), V.bl (decide (i = 2)), V.bl (decide (i = 3))] ++ [V.bl (decide (i = 4)), V.bl (decide (i = 5)), V.bl (decide (i = 6))])) nr1)
  have l1 : (upd (upd H1 p1 (.lst [V.bl (decide (i = 4)), V.bl (decide (i = 5)), V.bl (decide (i = 6))])) r1 (.lst ([V.bl (decide (i = 0)), V.bl (decide (i = 1)), V.bl (decide (i = 2)), V.bl (decide (i = 3))] ++ [V.bl (decide (i = 4)), V.bl (decide (i = 5)), V.bl (decide (i = 6))]))) r1 = some (.lst ([V.bl (decide (i = 0)), V.bl (decide (i = 1)), V.bl (decide (i = 2)), V.bl (decide (i = 3))] ++ [V.bl (decide (i = 4)), V.bl (decide (i = 5)), V.bl (decide (i = 6))])) := upd_same
  generalize upd (upd H1 p1 (.lst [V.bl (decide (i = 4)), V.bl (decide (i = 5)), V.bl (decide (i = 6))])) r1 (.lst ([V.bl (decide (i = 0)), V.bl (decide (i = 1)), V.bl (decide (i = 2)), V.bl (decide (i = 3))] ++ [V.bl (decide (i = 4)), V.bl (decide (i = 5)), V.bl (decide (i = 6))])) = H2 at u1 l1 ⊢
  have hd2 := hd1.mono u1
  have f2 : Same H H2 := f1.trans u1
  refine ⟨_, rfl, ?_⟩
  refine ⟨_, rfl, C i, _, _, _, rfl, T.ec i hi, rfl, fun u e => e, T.kit i 7 hi (by decide), hd2, ?_⟩
  refine ⟨_, rfl, C i, _, _, _, rfl, T.ec i hi, rfl, fun u e => e, T.kit i 8 hi (by decide), hd2, ?_⟩
  refine ⟨_, rfl, C i, _, _, _, rfl, T.ec i hi, rfl, fun u e => e, T.kit i 9 hi (by decide), hd2, ?_⟩
  refine ⟨(by show 3 ≤ sizeLine; decide), fun p2 np2 => ?_⟩
  have t2 := sameU (o := .lst [V.bl (decide (i = 7)), V.bl (decide (i = 8)), V.bl (decide (i = 9))]) np2
  refine ⟨_, _, _, _, rfl, rfl, t2 _ _ l1, upd_same, (by show 10 ≤ sizeLine; decide), fun r2 nr2 => ?_⟩
  have u2 := t2.trans (sameU (o := .lst (([V.bl (decide (i = 0)), V.bl (decide (i = 1)), V.bl (decide (i = 2)), V.bl (decide (i = 3))] ++ [V.bl (decide (i = 4)), V.bl (decide (i = 5)), V.bl (decide (i = 6))]) ++ [V.bl (decide (i = 7)), V.bl (decide (i = 8)), V.bl (decide (i = 9))])) nr2)
  have l2 : (upd (upd H2 p2 (.lst [V.bl (decide (i = 7)), V.bl (decide (i = 8)), V.bl (decide (i = 9))])) r2 (.lst (([V.bl (decide (i = 0)), V.bl (decide (i = 1)), V.bl (decide (i = 2)), V.bl (decide (i = 3))] ++ [V.bl (decide (i = 4)), V.bl (decide (i = 5)), V.bl (decide (i = 6))]) ++ [V.bl (decide (i = 7)), V.bl (decide (i = 8)), V.bl (decide (i = 9))]))) r2 = some (.lst (([V.bl (decide (i = 0)), V.bl (decide (i = 1)), V.bl (decide (i = 2)), V.bl (decide (i = 3))] ++ [V.bl (decide (i = 4)), V.bl (decide (i = 5)), V.bl (decide (i = 6))]) ++ [V.bl (decide (i = 7)), V.bl (decide (i = 8)), V.bl (decide (i = 9))])) := upd_same
  generalize upd (upd H2 p2 (.lst [V.bl (decide (i = 7)), V.bl (decide (i = 8)), V.bl (decide (i = 9))])) r2 (.lst (([V.bl (decide (i = 0)), V.bl (decide (i = 1)), V.bl (decide (i = 2)), V.bl (decide (i = 3))] ++ [V.bl (decide (i = 4)), V.bl (decide (i = 5)), V.bl (decide (i = 6))]) ++ [V.bl (decide (i = 7)), V.bl (decide (i = 8)), V.bl (decide (i = 9))])) = H3 at u2 l2 ⊢
  have hd3 := hd2.mono u2
  have f3 : Same H H3 := f2.trans u2
  refine ⟨_, rfl, ?_⟩
  refine ⟨_, rfl, C i, _, _, _, rfl, T.ec i hi, rfl, fun u e => e, T.kit i 10 hi (by decide), hd3, ?_⟩
  refine ⟨_, rfl, C i, _, _, _, rfl, T.ec i hi, rfl, fun u e => e, T.kit i 11 hi (by decide), hd3, ?_⟩
  refine ⟨_, rfl, C i, _, _, _, rfl, T.ec i hi, rfl, fun u e => e, T.kit i 12 hi (by decide), hd3, ?_⟩
  refine ⟨(by show 3 ≤ sizeLine; decide), fun p3 np3 => ?_⟩
  have t3 := sameU (o := .lst [V.bl (decide (i = 10)), V.bl (decide (i = 11)), V.bl (decide (i = 12))]) np3
  refine ⟨_, _, _, _, rfl, rfl, t3 _ _ l2, upd_same, (by show 13 ≤ sizeLine; decide), fun r3 nr3 => ?_⟩
  exact h _ r3 (f3.trans (t3.trans (sameU nr3))) (f3.free (t3.free nr3)) (by rw [upd_same]; rfl)
theorem ok_more_marks {f : Addr} {fd : FuncData} (F : FnP K "_law_more_marks" s_law_more_marks f fd) (T : Cls P K mg C fI) (g_isinstance : mg "isinstance" = none) : FnE P w K mg base 2 f fd (spMarks C 13 15) := by
  refine fnE_of F sc_law_more_marks (F.bindsN fun _ _ _ _ _ _ us hl => match us, hl with | [_], _ => rfl) (fun cdv A outer s H a oe D d Q hr hz hf h => ⟨_,
    (pss_cons (ps_set (i := 1) sc_law_more_marks.nd rfl (Or.inl rfl) (pe_lst (pa_cons (pe_callB (call_isX List.mem_cons_self hz hf) (by rfl) g_isinstance (by decide +kernel) (pa_cons (pv 0) (pa_cons (pe_glob (v := .ref (C 13)) rfl (T.g 13 (by decide)) rfl) pa_nil))) (pa_cons (pe_callB (call_isX List.mem_cons_self hz hf) (by rfl) g_isinstance (by decide +kernel) (pa_cons (pv 0) (pa_cons (pe_glob (v := .ref (C 14)) rfl (T.g 14 (by decide)) rfl) pa_nil))) (pa_cons (pe_callB (call_isX List.mem_cons_self hz hf) (by rfl) g_isinstance (by decide +kernel) (pa_cons (pv 0) (pa_cons (pe_glob (v := .ref (C 15)) rfl (T.g 15 (by decide)) rfl) pa_nil))) (pa_cons (pe_callB (call_isX List.mem_cons_self hz hf) (by rfl) g_isinstance (by decide +kernel) (pa_cons (pv 0) (pa_cons (pe_glob (v := .ref (C 16)) rfl (T.g 16 (by decide)) rfl) pa_nil))) pa_nil))))))
    (pss_cons (ps_set (i := 1) sc_law_more_marks.nd rfl (Or.inl rfl) (pe_op op_cat (pv 1) (pe_lst (pa_cons (pe_callB (call_isX List.mem_cons_self hz hf) (by rfl) g_isinstance (by decide +kernel) (pa_cons (pv 0) (pa_cons (pe_glob (v := .ref (C 17)) rfl (T.g 17 (by decide)) rfl) pa_nil))) (pa_cons (pe_callB (call_isX List.mem_cons_self hz hf) (by rfl) g_isinstance (by decide +kernel) (pa_cons (pv 0) (pa_cons (pe_glob (v := .ref (C 18)) rfl (T.g 18 (by decide)) rfl) pa_nil))) (pa_cons (pe_callB (call_isX List.mem_cons_self hz hf) (by rfl) g_isinstance (by decide +kernel) (pa_cons (pv 0) (pa_cons (pe_glob (v := .ref (C 19)) rfl (T.g 19 (by decide)) rfl) pa_nil))) pa_nil))))))
    (pss_cons (ps_set (i := 1) sc_law_more_marks.nd rfl (Or.inl rfl) (pe_op op_cat (pv 1) (pe_lst (pa_cons (pe_callB (call_isX List.mem_cons_self hz hf) (by rfl) g_isinstance (by decide +kernel) (pa_cons (pv 0) (pa_cons (pe_glob (v := .ref (C 20)) rfl (T.g 20 (by decide)) rfl) pa_nil))) (pa_cons (pe_callB (call_isX List.mem_cons_self hz hf) (by rfl) g_isinstance (by decide +kernel) (pa_cons (pv 0) (pa_cons (pe_glob (v := .ref (C 21)) rfl (T.g 21 (by decide)) rfl) pa_nil))) (pa_cons (pe_callB (call_isX List.mem_cons_self hz hf) (by rfl) g_isinstance (by decide +kernel) (pa_cons (pv 0) (pa_cons (pe_glob (v := .ref (C 22)) rfl (T.g 22 (by decide)) rfl) pa_nil))) pa_nil))))))
    (pss_cons (ps_set (i := 1) sc_law_more_marks.nd rfl (Or.inl rfl) (pe_op op_cat (pv 1) (pe_lst (pa_cons (pe_callB (call_isX List.mem_cons_self hz hf) (by rfl) g_isinstance (by decide +kernel) (pa_cons (pv 0) (pa_cons (pe_glob (v := .ref (C 23)) rfl (T.g 23 (by decide)) rfl) pa_nil))) (pa_cons (pe_callB (call_isX List.mem_cons_self hz hf) (by rfl) g_isinstance (by decide +kernel) (pa_cons (pv 0) (pa_cons (pe_glob (v := .ref (C 24)) rfl (T.g 24 (by decide)) rfl) pa_nil))) (pa_cons (pe_callB (call_isX List.mem_cons_self hz hf) (by rfl) g_isinstance (by decide +kernel) (pa_cons (pv 0) (pa_cons (pe_glob (v := .ref (C 25)) rfl (T.g 25 (by decide)) rfl) pa_nil))) pa_nil))))))
    (pss_one (ps_ret (pe_op op_cat (pv 1) (pe_lst (pa_cons (pe_callB (call_isX List.mem_cons_self hz hf) (by rfl) g_isinstance (by decide +kernel) (pa_cons (pv 0) (pa_cons (pe_glob (v := .ref (C 26)) rfl (T.g 26 (by decide)) rfl) pa_nil))) (pa_cons (pe_callB (call_isX List.mem_cons_self hz hf) (by rfl) g_isinstance (by decide +kernel) (pa_cons (pv 0) (pa_cons (pe_glob (v := .ref (C 27)) rfl (T.g 27 (by decide)) rfl) pa_nil))) pa_nil)))))))))), ?_⟩)
  obtain ⟨i, hi, rfl, hd, h⟩ := h
  refine ⟨_, rfl, C i, _, _, _, rfl, T.ec i hi, rfl, fun u e => e, T.kit i 13 hi (by decide), hd, ?_⟩
  refine ⟨_, rfl, C i, _, _, _, rfl, T.ec i hi, rfl, fun u e => e, T.kit i 14 hi (by decide), hd, ?_⟩
  refine ⟨_, rfl, C i, _, _, _, rfl, T.ec i hi, rfl, fun u e => e, T.kit i 15 hi (by decide), hd, ?_⟩
  refine ⟨_, rfl, C i, _, _, _, rfl, T.ec i hi, rfl, fun u e => e, T.kit i 16 hi (by decide), hd, ?_⟩
  refine ⟨(by show 4 ≤ sizeLine; decide), fun p0 np0 => ?_⟩
  have s0 := sameU (o := .lst [V.bl (decide (i = 13)), V.bl (decide (i = 14)), V.bl (decide (i = 15)), V.bl (decide (i = 16))]) np0
  have l0 : (upd H p0 (.lst [V.bl (decide (i = 13)), V.bl (decide (i = 14)), V.bl (decide (i = 15)), V.bl (decide (i = 16))])) p0 = some (.lst [V.bl (decide (i = 13)), V.bl (decide (i = 14)), V.bl (decide (i = 15)), V.bl (decide (i = 16))]) := upd_same
  generalize upd H p0 (.lst [V.bl (decide (i = 13)), V.bl (decide (i = 14)), V.bl (decide (i = 15)), V.bl (decide (i = 16))]) = H1 at s0 l0 ⊢
  have hd1 := hd.mono s0
  have f1 : Same H H1 := s0
  refine ⟨_, rfl, ?_⟩
  refine ⟨_, rfl, C i, _, _, _, rfl, T.ec i hi, rfl, fun u e => e, T.kit i 17 hi (by decide), hd1, ?_⟩
  refine ⟨_, rfl, C i, _, _, _, rfl, T.ec i hi, rfl, fun u e => e, T.kit i 18 hi (by decide), hd1, ?_⟩
  refine ⟨_, rfl, C i, _, _, _, rfl, T.ec i hi, rfl, fun u e => e, T.kit i 19 hi (by decide), hd1, ?_⟩
  refine ⟨(by show 3 ≤ sizeLine; decide), fun p1 np1 => ?_⟩
  have t1 := sameU (o := .lst [V.bl (decide (i = 17)), V.bl (decide (i = 18)), V.bl (decide (i = 19))]) np1
  refine ⟨_, _, _, _, rfl, rfl, t1 _ _ l0, upd_same, (by show 7 ≤ sizeLine; decide), fun r1 nr1 => ?_⟩
  have u1 := t1.trans (sameU (o := .lst ([V.bl (decide (i = 13)), V.bl (decide (i = 14)), V.bl (decide (i = 15)), V.bl (decide (i = 16))] ++ [V.bl (decide (i = 17)), V.bl (decide (i = 18)), V.bl (decide (i = 19))])) nr1)
  have l1 : (upd (upd H1 p1 (.lst [V.bl (decide (i = 17)), V.bl (decide (i = 18)), V.bl (decide (i = 19))])) r1 (.lst ([V.bl (decide (i = 13)), V.bl (decide (i = 14)), V.bl (decide (i = 15)), V.bl (decide (i = 16))] ++ [V.bl (decide (i = 17)), V.bl (decide (i = 18)), V.bl (decide (i = 19))]))) r1 = some (.lst ([V.bl (decide (i = 13)), V.bl (decide (i = 14)), V.bl (decide (i = 15)), V.bl (decide (i = 16))] ++ [V.bl (decide (i = 17)), V.bl (decide (i = 18)), V.bl (decide (i = 19))])) := upd_same
  generalize upd (upd H1 p1 (.lst [V.bl (decide (i = 17)), V.bl (decide (i = 18)), V.bl (decide (i = 19))])) r1 (.lst ([V.bl (decide (i = 13)), V.bl (decide (i = 14)), V.bl (decide (i = 15)), V.bl (decide (i = 16))] ++ [V.bl (decide (i = 17)), V.bl (decide (i = 18)), V.bl (decide (i = 19))])) = H2 at u1 l1 ⊢
  have hd2 := hd1.mono u1
  have f2 : Same H H2 := f1.trans u1
  refine ⟨_, rfl, ?_⟩
  refine ⟨_, rfl, C i, _, _, _, rfl, T.ec i hi, rfl, fun u e => e, T.kit i 20 hi (by decide), hd2, ?_⟩
  refine ⟨_, rfl, C i, _, _, _, rfl, T.ec i hi, rfl, fun u e => e, T.kit i 21 hi (by decide), hd2, ?_⟩
  refine ⟨_, rfl, C i, _, _, _, rfl, T.ec i hi, rfl, fun u e => e, T.kit i 22 hi (by decide), hd2, ?_⟩
  refine ⟨(by show 3 ≤ sizeLine; decide), fun p2 np2 => ?_⟩
  have t2 := sameU (o := .lst [V.bl (decide (i = 20)), V.bl (decide (i = 21)), V.bl (decide (i = 22))]) np2
  refine ⟨_, _, _, _, rfl, rfl, t2 _ _ l1, upd_same, (by show 10 ≤ sizeLine; decide), fun r2 nr2 => ?_⟩
  have u2 := t2.trans (sameU (o := .lst (([V.bl (decide (i = 13)), V.bl (decide (i = 14)), V.bl (decide (i = 15)), V.bl (decide (i = 16))] ++ [V.bl (decide (i = 17)), V.bl (decide (i = 18)), V.bl (decide (i = 19))]) ++ [V.bl (decide (i = 20)), V.bl (decide (i = 21)), V.bl (decide (i = 22))])) nr2)
  have l2 : (upd (upd H2 p2 (.lst [V.bl (decide (i = 20)), V.bl (decide (i = 21)), V.bl (decide (i = 22))])) r2 (.lst (([V.bl (decide (i = 13)), V.bl (decide (i = 14)), V.bl (decide (i = 15)), V.bl (decide (i = 16))] ++ [V.bl (decide (i = 17)), V.bl (decide (i = 18)), V.bl (decide (i = 19))]) ++ [V.bl (decide (i = 20)), V.bl (decide (i = 21)), V.bl (decide (i = 22))]))) r2 = some (.lst (([V.bl (decide (i = 13)), V.bl (decide (i = 14)), V.bl (decide (i = 15)), V.bl (decide (i = 16))] ++ [V.bl (decide (i = 17)), V.bl (decide (i = 18)), V.bl (decide (i = 19))]) ++ [V.bl (decide (i = 20)), V.bl (decide (i = 21)), V.bl (decide (i = 22))])) := upd_same
  generalize upd (upd H2 p2 (.lst [V.bl (decide (i = 20)), V.bl (decide (i = 21)), V.bl (decide (i = 22))])) r2 (.lst (([V.bl (decide (i = 13)), V.bl (decide (i = 14)), V.bl (decide (i = 15)), V.bl (decide (i = 16))] ++ [V.bl (decide (i = 17)), V.bl (decide (i = 18)), V.bl (decide (i = 19))]) ++ [V.bl (decide (i = 20)), V.bl (decide (i = 21)), V.bl (decide (i = 22))])) = H3 at u2 l2 ⊢
  have hd3 := hd2.mono u2
  have f3 : Same H H3 := f2.trans u2
  refine ⟨_, rfl, ?_⟩
  refine ⟨_, rfl, C i, _, _, _, rfl, T.ec i hi, rfl, fun u e => e, T.kit i 23 hi (by decide), hd3, ?_⟩
  refine ⟨_, rfl, C i, _, _, _, rfl, T.ec i hi, rfl, fun u e => e, T.kit i 24 hi (by decide), hd3, ?_⟩
  refine ⟨_, rfl, C i, _, _, _, rfl, T.ec i hi, rfl, fun u e => e, T.kit i 25 hi (by decide), hd3, ?_⟩
  refine ⟨(by show 3 ≤ sizeLine; decide), fun p3 np3 => ?_⟩
  have t3 := sameU (o := .lst [V.bl (decide (i = 23)), V.bl (decide (i = 24)), V.bl (decide (i = 25))]) np3
  refine ⟨_, _, _, _, rfl, rfl, t3 _ _ l2, upd_same, (by show 13 ≤ sizeLine; decide), fun r3 nr3 => ?_⟩
  have u3 := t3.trans (sameU (o := .lst ((([V.bl (decide (i = 13)), V.bl (decide (i = 14)), V.bl (decide (i = 15)), V.bl (decide (i = 16))] ++ [V.bl (decide (i = 17)), V.bl (decide (i = 18)), V.bl (decide (i = 19))]) ++ [V.bl (decide (i = 20)), V.bl (decide (i = 21)), V.bl (decide (i = 22))]) ++ [V.bl (decide (i = 23)), V.bl (decide (i = 24)), V.bl (decide (i = 25))])) nr3)
  have l3 : (upd (upd H3 p3 (.lst [V.bl (decide (i = 23)), V.bl (decide (i = 24)), V.bl (decide (i = 25))])) r3 (.lst ((([V.bl (decide (i = 13)), V.bl (decide (i = 14)), V.bl (decide (i = 15)), V.bl (decide (i = 16))] ++ [V.bl (decide (i = 17)), V.bl (decide (i = 18)), V.bl (decide (i = 19))]) ++ [V.bl (decide (i = 20)), V.bl (decide (i = 21)), V.bl (decide (i = 22))]) ++ [V.bl (decide (i = 23)), V.bl (decide (i = 24)), V.bl (decide (i = 25))]))) r3 = some (.lst ((([V.bl (decide (i = 13)), V.bl (decide (i = 14)), V.bl (decide (i = 15)), V.bl (decide (i = 16))] ++ [V.bl (decide (i = 17)), V.bl (decide (i = 18)), V.bl (decide (i = 19))]) ++ [V.bl (decide (i = 20)), V.bl (decide (i = 21)), V.bl (decide (i = 22))]) ++ [V.bl (decide (i = 23)), V.bl (decide (i = 24)), V.bl (decide (i = 25))])) := upd_same
  generalize upd (upd H3 p3 (.lst [V.bl (decide (i = 23)), V.bl (decide (i = 24)), V.bl (decide (i = 25))])) r3 (.lst ((([V.bl (decide (i = 13)), V.bl (decide (i = 14)), V.bl (decide (i = 15)), V.bl (decide (i = 16))] ++ [V.bl (decide (i = 17)), V.bl (decide (i = 18)), V.bl (decide (i = 19))]) ++ [V.bl (decide (i = 20)), V.bl (decide (i = 21)), V.bl (decide (i = 22))]) ++ [V.bl (decide (i = 23)), V.bl (decide (i = 24)), V.bl (decide (i = 25))])) = H4 at u3 l3 ⊢
  have hd4 := hd3.mono u3
  have f4 : Same H H4 := f3.trans u3
  refine ⟨_, rfl, ?_⟩
  refine ⟨_, rfl, C i, _, _, _, rfl, T.ec i hi, rfl, fun u e => e, T.kit i 26 hi (by decide), hd4, ?_⟩
  refine ⟨_, rfl, C i, _, _, _, rfl, T.ec i hi, rfl, fun u e => e, T.kit i 27 hi (by decide), hd4, ?_⟩
  refine ⟨(by show 2 ≤ sizeLine; decide), fun p4 np4 => ?_⟩
  have t4 := sameU (o := .lst [V.bl (decide (i = 26)), V.bl (decide (i = 27))]) np4
  refine ⟨_, _, _, _, rfl, rfl, t4 _ _ l3, upd_same, (by show 15 ≤ sizeLine; decide), fun r4 nr4 => ?_⟩
  exact h _ r4 (f4.trans (t4.trans (sameU nr4))) (f4.free (t4.free nr4)) (by rw [upd_same]; rfl)
end
end My

end
section
set_option Elab.async false
set_option linter.all false
set_option maxRecDepth 100000
set_option maxHeartbeats 4000000
namespace My
open PySem PySem.Spec PyProof.Rows L2
abbrev s_law_right : Stmt := top 38
def spRight : Sp := fun vs H Q _ => ∃ (k : Nat) (t : Str) (p o : Int), vs = [.int (k : Int), .str t, .int p, .int o] ∧ k < 29 ∧ p.natAbs < 2 ^ 30 ∧ o.natAbs < 2 ^ 30 ∧ ∀ H', Same H H' → Q (.bl true) H'
section
variable {P : Program} {w : World} {K : PySem.W.Frag} {mg : Str → Option Value} {base : Heap} {C fI : Nat → Addr}
theorem sc_law_right : FnScope ["_law_kind", "_law_text", "_law_place", "_law_other", "_law_found", "_law_kept", "_law_e", "_law_k"] ["_law_kind", "_law_text", "_law_place", "_law_other"] (defScope s_law_right) := ⟨rfl, rfl, rfl, by decide +kernel, rfl, by decide +kernel, by decide +kernel⟩
/-- what ok_right leans on -/
structure RightTxt (P : Program) (w : World) (K : PySem.W.Frag) (mg : Str → Option Value) (base : Heap) (C : Nat → Addr) (f1 f2 f3 f4 f5 : Addr) (d1 d2 d3 d4 d5 : FuncData) : Prop where
  G1 : FnOk P w K mg base (L2.CX P w) 3 f1 d1 ["_law_kind", "_law_text"] (spRaise C 0 11)
  G2 : FnOk P w K mg base (L2.CX P w) 3 f2 d2 ["_law_kind", "_law_text"] (spRaise C 11 22)
  G3 : FnOk P w K mg base (L2.CX P w) 4 f3 d3 ["_law_kind", "_law_text", "_law_place", "_law_other"] (spLast C)
  G4 : FnE P w K mg base 2 f4 d4 (spMarks C 0 13)
  G5 : FnE P w K mg base 2 f5 d5 (spMarks C 13 15)
  g1 : mg "_law_raise" = some (.ref f1)
  g2 : mg "_law_raise_more" = some (.ref f2)
  g3 : mg "_law_raise_last" = some (.ref f3)
  g4 : mg "_law_marks" = some (.ref f4)
  g5 : mg "_law_more_marks" = some (.ref f5)
  k1 : PySem.W.keepIn K (.ref f1) = true
  k2 : PySem.W.keepIn K (.ref f2) = true
  k3 : PySem.W.keepIn K (.ref f3) = true
  k4 : PySem.W.keepIn K (.ref f4) = true
  k5 : PySem.W.keepIn K (.ref f5) = true
  b1 : Binds K d1 ["_law_kind", "_law_text"] []
  b2 : Binds K d2 ["_law_kind", "_law_text"] []
  b3 : Binds K d3 ["_law_kind", "_law_text", "_law_place", "_law_other"] []
  g_isinstance : mg "isinstance" = none
  g_ValueError : mg "ValueError" = none
  g_range : mg "range" = none
theorem op_in_seqK {X : Cx} {K : PySem.W.Frag} (h : X.K = K) : OpR X (compareOp .In) (rIn K false) := by subst h; exact op_in_seq
theorem op_eqDK {X : Cx} {K : PySem.W.Frag} (h : X.K = K) (hu : X.A.units + 64 < cLine) : OpR X (compareOp .Eq) (rEqD K) := by subst h; exact op_eqD hu
theorem pe_xgK {X : Cx} {K : PySem.W.Frag} {a : Addr} {oe : Obj} {cls : Value} {d : Option Addr} {e : Expr} {te : TE} {pos : Pos} {n : Str} (h : X.K = K) (hp : (a, oe) ∈ X.pn) (hz : Zc cls d oe) (hf : ∃ vs, oe.data = .fields vs) (he : PE X e te) (hb : attributeBase e n X.env (eval e X.env) = eval e X.env := by rfl) :
    PE X (.Attribute e n pos) (tXg K a cls d n te) := by subst h; exact pe_xg hp hz hf he hb
theorem call_isXK {X : Cx} {K : PySem.W.Frag} {a : Addr} {cls : Value} {d : Option Addr} {oe : Obj} (h : X.K = K) (hp : (a, oe) ∈ X.pn) (hz : Zc cls d oe) (hf : ∃ vs, oe.data = .fields vs) : CallR X (.builtin "isinstance") (rIsX K cls a d) := by subst h; exact call_isX hp hz hf
theorem calls3 {W : WX} {D : Ends} {σ : L2.St} {H : Hp} {k : Nat} {t : Str} {p o : Int} {l e x y : Option V} (hσ : σ = [some (.int (k : Int)), some (.str t), some (.int p), some (.int o), l, e, x, y]) (hk : k < 29) (hp : p.natAbs < 2 ^ 30) (ho : o.natAbs < 2 ^ 30)
    (h : ∀ d H', Left k p o H d H' → W (.ref (C k)) d σ H') : tSeq (tDrop (tCallS (spRaise C 0 11) (WE W) (tCons (tVar 0) (tCons (tVar 1) tNil)))) (tSeq (tDrop (tCallS (spRaise C 11 22) (WE W) (tCons (tVar 0) (tCons (tVar 1) tNil)))) (tDrop (tCallS (spLast C) (WE W) (tCons (tVar 0) (tCons (tVar 1) (tCons (tVar 2) (tCons (tVar 3) tNil))))))) D σ H := by
  subst hσ
  have bare : k < 22 → Left k p o H none H := fun hl => ⟨Same.refl H, by rw [if_neg (by omega), if_neg (by omega), if_neg (by omega), if_neg (by omega)]⟩
  refine ⟨_, rfl, _, rfl, k, t, rfl, fun q => h none H (bare (by omega)), fun n1 => ?_⟩
  refine ⟨_, rfl, _, rfl, k, t, rfl, fun q => h none H (bare (by omega)), fun n2 => ?_⟩
  exact ⟨_, rfl, _, rfl, _, rfl, _, rfl, k, t, p, o, rfl, by omega, hk, hp, ho, h⟩
theorem inV3 {k : Nat} (a b c : Nat) : inV (.int (k : Int)) [.int (a : Int), .int (b : Int), .int (c : Int)] = decide (k = a ∨ k = b ∨ k = c) := by
  show (((a : Int) == (k : Int)) || (((b : Int) == (k : Int)) || (((c : Int) == (k : Int)) || false))) = _
  by_cases h : k = a ∨ k = b ∨ k = c
  · rw [decide_eq_true h]
    rcases h with h | h | h <;> subst h <;> simp
  · rw [decide_eq_false h]
    have h1 : ((a : Int) == (k : Int)) = false := beq_eq_false_iff_ne.mpr (by omega)
    have h2 : ((b : Int) == (k : Int)) = false := beq_eq_false_iff_ne.mpr (by omega)
    have h3 : ((c : Int) == (k : Int)) = false := beq_eq_false_iff_ne.mpr (by omega)
    rw [h1, h2, h3]
    rfl
theorem marks_all {k : Nat} : marks 0 13 k ++ marks 13 15 k = (List.range 28).map fun j => V.bl (decide (k = j)) := by
  have e : ∀ j : Nat, decide (k = 0 + j) = decide (k = j) := fun j => by rw [Nat.zero_add]
  show [_, _, _, _, _, _, _, _, _, _, _, _, _, _, _, _, _, _, _, _, _, _, _, _, _, _, _, _] = [_, _, _, _, _, _, _, _, _, _, _, _, _, _, _, _, _, _, _, _, _, _, _, _, _, _, _, _]
  simp only [Nat.zero_add]
theorem dp_bools {K : PySem.W.Frag} {H : Hp} : ∀ bs : List Bool, DpAll K H (bs.map V.bl) (bs.map PyData.bool)
  | [] => .nil
  | b :: bs => .cons (.bl b) (dp_bools bs)
theorem eqv_bools : ∀ bs : List Bool, PyData.eqv (.list (bs.map PyData.bool)) (.list (bs.map PyData.bool)) = true
  | [] => rfl
  | b :: bs => by
    have h := eqv_bools bs
    show ((b == b) && PyData.eqvAll (bs.map PyData.bool) (bs.map PyData.bool)) = true
    rw [beq_self_eq_true, Bool.true_and]
    exact h
theorem tyes {σ : L2.St} {H : Hp} {A B : Hp → Prop} (h : A H) : tYes σ H (fun b H3 => if b = true then A H3 else B H3) := iteT (A := A H) (B := B H) h
theorem hrH {k : Nat} {A : Around} (h : Room (k + 4) A) (hd : Option Value) : L2H.RoomH 2 (A.mark hd) := ⟨(h.mono (j := 2) (by omega)).dp, (h.mono (j := 2) (by omega)).un⟩
theorem ok_right {f f1 f2 f3 f4 f5 : Addr} {fd d1 d2 d3 d4 d5 : FuncData} (F : FnP K "_law_right" s_law_right f fd) (T : Cls P K mg C fI) (R : RightTxt P w K mg base C f1 f2 f3 f4 f5 d1 d2 d3 d4 d5) :
    FnOk P w K mg base CX0 7 f fd ["_law_kind", "_law_text", "_law_place", "_law_other"] spRight := by
  refine F.ok sc_law_right (fun vs H Q E h => ?_) (fun cdv A outer s H vs Q E hr h => ⟨_, PSs.nox
    (pss_cons (ps_par (i := 4) (j := 5) (by rfl) sc_law_right.nd rfl rfl (by decide) rfl rfl (pa_cons (pe_lst pa_nil) (pa_cons pe_bl pa_nil)) (by rfl))
    (pss_cons (ps_try_as (i := 6) (Wout := fun _ _ _ _ => False) rfl rfl sc_law_right.nd rfl rfl ⟨rfl, by decide, Or.inl (T.g 28 (by decide))⟩ takes0
       (fun W pn xe tk _ => (pss_cons (ps_expr (by exact (pe_callS R.G1 (hr.mono (by decide)) rfl R.g1 R.k1 R.b1 (fun σ => passAt tk σ) (pa_cons (pv 0) (pa_cons (pv 1) pa_nil))))) (pss_cons (ps_expr (by exact (pe_callS R.G2 (hr.mono (by decide)) rfl R.g2 R.k2 R.b2 (fun σ => passAt tk σ) (pa_cons (pv 0) (pa_cons (pv 1) pa_nil))))) (pss_one (ps_expr (by exact (pe_callS R.G3 (hr.mono (by decide)) rfl R.g3 R.k3 R.b3 (fun σ => passAt tk σ) (pa_cons (pv 0) (pa_cons (pv 1) (pa_cons (pv 2) (pa_cons (pv 3) pa_nil)))))))))))
       (fun a oe cls d pn hz hf => (pss_cons (by exact (ps_set (i := 4) sc_law_right.nd rfl (Or.inl rfl) (pe_op op_cat (pe_callE R.G4 (hrH (k := 2) hr _) List.mem_cons_self hz hf rfl R.g4 R.k4 (pv 6)) (pe_callE R.G5 (hrH (k := 2) hr _) List.mem_cons_self hz hf rfl R.g5 R.k5 (pv 6)))))
          (C8.pss_cut (by exact (ps_if (pt_cmpR (op_in_seqK (K := K) rfl) (pv 0) (pe_tup (pa_cons pe_int (pa_cons pe_int (pa_cons pe_int pa_nil)))) (by rfl)) (pss_one (ps_set (i := 5) sc_law_right.nd rfl (Or.inl rfl) (pe_cmpR op_eq (by exact (pe_xgK (K := K) rfl List.mem_cons_self hz hf (pv 6))) (pv 2) (nomark _)))) pss_nil))
          (C8.pss_cut (by exact (ps_if (pt_cmpR op_eq (pv 0) pe_int (nomark _)) (pss_one (ps_set (i := 5) sc_law_right.nd rfl (Or.inl rfl) (pe_cmpR (op_eqDK (K := K) rfl hr.units) (by exact (pe_xgK (K := K) rfl List.mem_cons_self hz hf (pv 6))) (pe_tup (pa_cons (pv 2) (pa_cons (pv 3) pa_nil))) (nomark _)))) pss_nil))
          (C8.pss_cut (by exact (ps_if (pt_cmpR op_eq (pv 0) pe_int (nomark _)) (pss_one (ps_set (i := 5) sc_law_right.nd rfl (Or.inl rfl) (pe_cmpR op_eq (by exact (pe_xgK (K := K) rfl List.mem_cons_self hz hf (pv 6))) (pv 2) (nomark _)))) pss_nil))
          (C8.pss_cut (by exact (ps_if (pt_cmpR op_eq (pv 0) pe_int (nomark _)) (pss_one (ps_set (i := 5) sc_law_right.nd rfl (Or.inl rfl) (pe_and (pe_cmpR op_eq (by exact (pe_xgK (K := K) rfl List.mem_cons_self hz hf (pv 6))) (pv 2) (nomark _)) (pe_one (pe_cmpR op_eq (by exact (pe_xgK (K := K) rfl List.mem_cons_self hz hf (pv 6))) (pv 3) (nomark _)))))) pss_nil))
          (pss_one (by exact (ps_set (i := 5) sc_law_right.nd rfl (Or.inl rfl) (pe_and (pv 5) (pe_one (pe_callB (call_isXK (K := K) rfl List.mem_cons_self hz hf) (by rfl) R.g_isinstance (by decide +kernel) (pa_cons (pv 6) (pa_cons (pe_bltn (v := .ty "ValueError") (u := .type "ValueError") (by rfl) R.g_ValueError (by decide +kernel) rfl) pa_nil)))))))))))))))
    (pss_one (ps_ret (pe_and (pv 5) (pe_one (pe_cmpR (op_eqD hr.units) (pv 4) (pe_lc (own := [("_law_k", 7)]) rfl sc_law_right.nd (pi_range1 (by rfl) R.g_range (pa_cons pe_int pa_nil)) (blkOk_by (own := [("_law_k", 7)]) (N := ["_law_kind", "_law_text", "_law_place", "_law_other", "_law_found", "_law_kept", "_law_e", "_law_k"]) (sc := defScope s_law_right) (by decide +kernel)) (fun _ _ _ _ _ => by exact (pg_name (i := 7) sc_law_right.nd rfl (Or.inl rfl))) (fun _ _ _ _ _ => by exact pts_nil) (fun _ _ _ _ _ => by exact (pe_cmpR op_eq (pv 7) (pv 0) (nomark _)))) (nomark _)))))))), ?_⟩)
  · obtain ⟨k, t, p, o, rfl, _⟩ := h
    rfl
  · obtain ⟨k, t, p, o, rfl, hk, hp, ho, h⟩ := h
    refine ⟨(by show 0 ≤ sizeLine; decide), fun pl npl => ⟨_, _, rfl, ?_⟩⟩
    have s0 := sameU (o := .lst []) npl
    generalize upd H pl (.lst []) = H0 at s0 ⊢
    refine calls3 rfl hk hp ho fun d H1 hL => ?_
    refine ⟨true, T.em k hk, fun _ a na => ?_, fun z => by cases z⟩
    have s1 := s0.trans hL.1
    have hd : DOk H1 d := fun dd e => by
      have h2 := hL.2
      split at h2
      · obtain ⟨d2, e2, q⟩ := h2
        cases e.symm.trans e2
        exact ⟨_, q⟩
      · split at h2
        · obtain ⟨d2, t2, e2, q, _⟩ := h2
          cases e.symm.trans e2
          exact ⟨_, q⟩
        · split at h2
          · obtain ⟨d2, e2, q⟩ := h2
            cases e.symm.trans e2
            exact ⟨_, q⟩
          · split at h2
            · obtain ⟨d2, e2, q⟩ := h2
              cases e.symm.trans e2
              exact ⟨_, q⟩
            · cases e.symm.trans h2
    refine ⟨_, rfl, rfl, _, rfl, k, hk, rfl, hd, fun H2 p1 s2 np1 l1 => ?_⟩
    refine ⟨_, rfl, rfl, _, rfl, k, hk, rfl, hd.mono s2, fun H3 p2 s3 np2 l2 => ?_⟩
    refine ⟨_, _, _, _, rfl, rfl, s3 _ _ l1, l2, ?sz, fun r nr => ?_⟩
    case sz =>
      show 28 ≤ sizeLine
      decide
    have l3 : (upd H3 r (.lst (marks 0 13 k ++ marks 13 15 k))) r = some (.lst (marks 0 13 k ++ marks 13 15 k)) := upd_same
    have s4 : Same H1 (upd H3 r (.lst (marks 0 13 k ++ marks 13 15 k))) := s2.trans (s3.trans (sameU nr))
    generalize upd H3 r (.lst (marks 0 13 k ++ marks 13 15 k)) = H4 at l3 s4 ⊢
    -- place
    refine ⟨fun σ' H5 => σ' = [some (.int (k : Int)), some (.str t), some (.int p), some (.int o), some (.ref r), some (.bl true), some (.ref a), none] ∧ Same H4 H5, ?_, ?_⟩
    · refine ⟨_, rfl, (by show 3 ≤ sizeLine; decide), fun q nq => ⟨q, _, rfl, .inr (SqT.of upd_same), rfl, rfl, _, rfl, ?_⟩⟩
      show if (inV (.int (k : Int)) [.int ((22 : Nat) : Int), .int ((26 : Nat) : Int), .int ((27 : Nat) : Int)]) = true then _ else _
      rw [inV3]
      have s5 := sameU (H := H4) (o := .tup [.int 22, .int 26, .int 27]) nq
      refine ite2 (fun e => ?_) (fun e => ⟨rfl, s5⟩)
      have e := of_decide_eq_true e
      have h2 := hL.2
      rw [if_pos e] at h2
      obtain ⟨dd, e2, q2⟩ := h2
      have hno : PySem.W.findIn K (.ref (C k)) "place" = some none := by
        rcases e with e | e | e <;> subst e
        · exact T.s22.noN _ (by decide)
        · exact T.s26.noN _ (by decide)
        · exact T.s27.noN _ (by decide)
      refine ⟨_, rfl, rfl, _, rfl, T.xf k hk, hno, dd, _, _, e2, s5 _ _ (s4 _ _ q2), rfl, _, rfl, rfl, ?_⟩
      rw [decide_eq_true rfl]
      exact ⟨rfl, s5⟩
    rintro _ H5 ⟨rfl, s5⟩
    -- where
    refine ⟨fun σ' H6 => σ' = [some (.int (k : Int)), some (.str t), some (.int p), some (.int o), some (.ref r), some (.bl true), some (.ref a), none] ∧ Same H5 H6, ?_, ?_⟩
    · refine ⟨_, rfl, rfl, _, rfl, ?_⟩
      refine ite2 (fun e => ?_) (fun e => ⟨rfl, Same.refl H5⟩)
      have e : k = 23 := by
        have := V.int.inj (of_decide_eq_true e)
        omega
      have h2 := hL.2
      rw [if_neg (by omega), if_pos e] at h2
      obtain ⟨dd, t2, e2, q2, q3⟩ := h2
      have hno : PySem.W.findIn K (.ref (C k)) "where" = some none := by
        subst e
        exact T.s23.noN _ (by decide)
      refine ⟨_, rfl, rfl, _, rfl, T.xf k hk, hno, dd, _, _, e2, s5 _ _ (s4 _ _ q2), rfl, ?_⟩
      refine ⟨_, rfl, _, rfl, (by show 2 ≤ sizeLine; decide), fun q nq => ?_⟩
      have s6 := sameU (H := H5) (o := .tup [.int p, .int o]) nq
      refine ⟨.tuple [.int p, .int o], .tuple [.int p, .int o], .tup (SqT.of (s6 _ _ (s5 _ _ (s4 _ _ q3)))) (.cons (.int _) (.cons (.int _) .nil)), .tup (SqT.of upd_same) (.cons (.int _) (.cons (.int _) .nil)), rfl, rfl, ?_⟩
      have ev : PyData.eqv (.tuple [.int p, .int o]) (.tuple [.int p, .int o]) = true := by
        show ((p == p) && ((o == o) && true)) = true
        rw [beq_self_eq_true, beq_self_eq_true]
        rfl
      rw [ev]
      exact ⟨rfl, s6⟩
    rintro _ H6 ⟨rfl, s6⟩
    -- row
    refine ⟨fun σ' H7 => σ' = [some (.int (k : Int)), some (.str t), some (.int p), some (.int o), some (.ref r), some (.bl true), some (.ref a), none] ∧ Same H6 H7, ?_, ?_⟩
    · refine ⟨_, rfl, rfl, _, rfl, ?_⟩
      refine ite2 (fun e => ?_) (fun e => ⟨rfl, Same.refl H6⟩)
      have e : k = 24 := by
        have := V.int.inj (of_decide_eq_true e)
        omega
      have h2 := hL.2
      rw [if_neg (by omega), if_neg (by omega), if_pos e] at h2
      obtain ⟨dd, e2, q2⟩ := h2
      have hno : PySem.W.findIn K (.ref (C k)) "row" = some none := by
        subst e
        exact T.s24.noN _ (by decide)
      refine ⟨_, rfl, rfl, _, rfl, T.xf k hk, hno, dd, _, _, e2, s6 _ _ (s5 _ _ (s4 _ _ q2)), rfl, _, rfl, rfl, ?_⟩
      rw [decide_eq_true rfl]
      exact ⟨rfl, Same.refl H6⟩
    rintro _ H7 ⟨rfl, s7⟩
    -- body, place
    refine ⟨fun σ' H8 => σ' = [some (.int (k : Int)), some (.str t), some (.int p), some (.int o), some (.ref r), some (.bl true), some (.ref a), none] ∧ Same H7 H8, ?_, ?_⟩
    · refine ⟨_, rfl, rfl, _, rfl, ?_⟩
      refine ite2 (fun e => ?_) (fun e => ⟨rfl, Same.refl H7⟩)
      have e : k = 25 := by
        have := V.int.inj (of_decide_eq_true e)
        omega
      have h2 := hL.2
      rw [if_neg (by omega), if_neg (by omega), if_neg (by omega), if_pos e] at h2
      obtain ⟨dd, e2, q2⟩ := h2
      have hno : PySem.W.findIn K (.ref (C k)) "place" = some none := by
        subst e
        exact T.s25.noN _ (by decide)
      have hno2 : PySem.W.findIn K (.ref (C k)) "body" = some none := by
        subst e
        exact T.s25.noN _ (by decide)
      have q8 := s7 _ _ (s6 _ _ (s5 _ _ (s4 _ _ q2)))
      refine ⟨_, rfl, rfl, _, rfl, T.xf k hk, hno2, dd, _, _, e2, q8, rfl, _, rfl, rfl, _, rfl, ?_⟩
      rw [decide_eq_true rfl]
      refine iteT ⟨_, rfl, rfl, _, rfl, T.xf k hk, hno, dd, _, _, e2, q8, rfl, _, rfl, rfl, ?_⟩
      rw [decide_eq_true rfl]
      exact ⟨rfl, Same.refl H7⟩
    rintro _ H8 ⟨rfl, s8⟩
    -- kept and isinstance(e, ValueError)
    have s9 : Same H4 H8 := s5.trans (s6.trans (s7.trans s8))
    refine ⟨_, rfl, true, rfl, iteT ⟨_, rfl, C k, _, _, _, rfl, T.ec k hk, rfl, fun u e => e, T.kitV k hk, hd.mono (s4.trans s9), ?_⟩⟩
    -- behind the try
    refine ⟨_, rfl, true, rfl, iteT ⟨_, rfl, 28, rfl, by decide, by decide, fun Dn nD => ?_⟩⟩
    have sD := sameU (o := .lst []) nD
    refine lc_range (lo := 0) (n := 28) (fun i H' => Same H8 H' ∧ H' Dn = some (.lst ((List.range i).map fun j : Nat => V.bl (decide (V.int (0 + (j : Int)) = V.int (k : Int)))))) ⟨sD, upd_same⟩ ?hs ?hd
    case hs =>
      intro i H' hi R
      refine ⟨rfl, tyes ?_⟩
      refine ⟨_, rfl, _, rfl, rfl, _, R.2, ?_, fun b u e => ?_, ?_⟩
      · rw [List.length_map, List.length_range]
        exact Nat.lt_of_lt_of_le hi (by decide)
      · rw [upd_ne (ne_of_none e nD)]
        exact R.1 _ _ e
      · rw [upd_same, List.range_succ, List.map_append]
        rfl
    case hd =>
      intro H9 R
      have lf := R.1 _ _ (s9 _ _ l3)
      rw [marks_all] at lf
      have e1 : ((List.range 28).map fun j => V.bl (decide (k = j))) = ((List.range 28).map fun j => decide (k = j)).map V.bl := by rw [List.map_map]; rfl
      have e2 : ((List.range 28).map fun j : Nat => V.bl (decide (V.int (0 + (j : Int)) = V.int (k : Int)))) = ((List.range 28).map fun j => decide (k = j)).map V.bl := by
        rw [List.map_map]
        refine List.map_congr_left fun j _ => ?_
        show V.bl _ = V.bl _
        congr 1
        refine decide_eq_decide.mpr ⟨fun h => ?_, fun h => ?_⟩
        · have := V.int.inj h
          omega
        · rw [h]
          congr 1
          omega
      rw [e1] at lf
      have lg := R.2
      rw [e2] at lg
      refine ⟨_, _, .lst (SqL.of lf) (dp_bools _), .lst (SqL.of lg) (dp_bools _), ?_, ?_, ?_⟩
      · rfl
      · rfl
      · rw [eqv_bools]
        exact h _ (s1.trans (s4.trans (s9.trans R.1)))
end
end My

end
section
set_option Elab.async false
set_option linter.all false
set_option maxRecDepth 100000
set_option maxHeartbeats 4000000
namespace My
open PySem PySem.Spec PyProof.Rows L2
abbrev s_law_named_right : Stmt := top 39
def spNamed : Sp := fun vs H Q _ => ∃ (p o : Int), vs = [.int p, .int o] ∧ p.natAbs < 2 ^ 30 ∧ o.natAbs < 2 ^ 30 ∧ ∀ H', Same H H' → Q (.bl true) H'
section
variable {P : Program} {w : World} {K : PySem.W.Frag} {mg : Str → Option Value} {base : Heap} {C fI : Nat → Addr}
theorem sc_law_named_right : FnScope ["_law_place", "_law_other", "_law_codes"] ["_law_place", "_law_other"] (defScope s_law_named_right) := ⟨rfl, rfl, rfl, by decide +kernel, rfl, by decide +kernel, by decide +kernel⟩
theorem eqv_ints : ∀ ns : List Int, PyData.eqvAll (ns.map PyData.int) (ns.map PyData.int) = true
  | [] => rfl
  | n :: ns => by
    show ((n == n) && PyData.eqvAll (ns.map PyData.int) (ns.map PyData.int)) = true
    rw [beq_self_eq_true, Bool.true_and]
    exact eqv_ints ns
/-- two new objects -/
theorem sameE {H : Hp} {d e : Addr} {o u : HO} (hd : H d = none) (he : H e = none) (hne : d ≠ e) : Same H (upd (upd H d o) e u) := fun b x q => by
  rw [upd_ne (ne_of_none q he), upd_ne (ne_of_none q hd)]
  exact q
theorem ok_named {f : Addr} {fd : FuncData} (F : FnP K "_law_named_right" s_law_named_right f fd) (T : Cls P K mg C fI) : FnOk P w K mg base CX0 4 f fd ["_law_place", "_law_other"] spNamed := by
  refine F.ok sc_law_named_right (fun vs H Q E h => ?_) (fun cdv A outer s H vs Q E hr h => ⟨_, PSs.nox
    (pss_cons (ps_if (pt_cmpR (op_neD hr.units) (pe_lst (pa_cons (pe_exF (pe_iniK T.s22 (T.g 22 (by decide)) hr (pk_cons (pv 0) pk_nil))) (pa_cons (pe_exF (pe_iniK T.s26 (T.g 26 (by decide)) hr (pk_cons (pv 0) pk_nil))) (pa_cons (pe_exF (pe_iniK T.s27 (T.g 27 (by decide)) hr (pk_cons (pv 0) pk_nil))) pa_nil)))) (pe_op op_rep (pe_lst (pa_cons (pv 0) pa_nil)) pe_int) (nomark _)) (pss_one (ps_ret pe_bl)) pss_nil)
    (pss_cons (ps_if (PW.pt (pw_or (pt_cmpR (op_neD hr.units) (pe_exF (pe_iniK T.s23 (T.g 23 (by decide)) hr (pk_cons (pe_tup (pa_cons (pv 0) pa_nil)) pk_nil))) (pe_tup (pa_cons (pv 0) pa_nil)) (nomark _)) (pw_or1 (pt_cmpR op_ne (pe_exF (pe_iniK T.s24 (T.g 24 (by decide)) hr (pk_cons (pv 0) pk_nil))) (pv 0) (nomark _))))) (pss_one (ps_ret pe_bl)) pss_nil)
    (pss_cons (ps_set (i := 2) sc_law_named_right.nd rfl (Or.inl rfl) (pe_iniK T.s25 (T.g 25 (by decide)) hr (pk_cons (pv 1) (pk_cons (pv 0) pk_nil))))
    (pss_one (ps_ret (pe_and (pe_cmpR op_eq (pe_exF (pv 2)) (pv 0) (nomark _)) (pe_one (pe_cmpR op_eq (pe_exF (pv 2)) (pv 1) (nomark _))))))))), ?_⟩)
  · obtain ⟨p, o, rfl, _⟩ := h
    rfl
  · obtain ⟨p, o, rfl, hp, ho, h⟩ := h
    refine ⟨_, rfl, [("place", .int p)], fun h0 us MD hk r => ?_, fun d0 e0 nd0 ne0 dn0 => ?_⟩
    · obtain ⟨mA, pre, q1, q2, q3⟩ := kw_BadSource (w := w) T MD hp r
      exact ⟨mA, pre, q1, q2, fun h' _ => q3 h'⟩
    have t0 := sameE (o := .xd [("place", .int p)]) (u := exo e0 (C 22) (some d0)) nd0 ne0 dn0
    refine ⟨e0, C 22, d0, _, _, rfl, upd_same, by rw [upd_ne dn0]; exact upd_same, rfl, T.xf 22 (by decide), T.s22.noN _ (by decide), ?_⟩
    generalize upd (upd H d0 (.xd [("place", .int p)])) e0 (exo e0 (C 22) (some d0)) = H1 at t0 ⊢
    refine ⟨_, rfl, [("place", .int p)], fun h0 us MD hk r => ?_, fun d1 e1 nd1 ne1 dn1 => ?_⟩
    · obtain ⟨mA, pre, q1, q2, q3⟩ := kw_BadLog (w := w) T MD hp r
      exact ⟨mA, pre, q1, q2, fun h' _ => q3 h'⟩
    have t1 := sameE (o := .xd [("place", .int p)]) (u := exo e1 (C 26) (some d1)) nd1 ne1 dn1
    refine ⟨e1, C 26, d1, _, _, rfl, upd_same, by rw [upd_ne dn1]; exact upd_same, rfl, T.xf 26 (by decide), T.s26.noN _ (by decide), ?_⟩
    generalize upd (upd H1 d1 (.xd [("place", .int p)])) e1 (exo e1 (C 26) (some d1)) = H2 at t1 ⊢
    refine ⟨_, rfl, [("place", .int p)], fun h0 us MD hk r => ?_, fun d2 e2 nd2 ne2 dn2 => ?_⟩
    · obtain ⟨mA, pre, q1, q2, q3⟩ := kw_BadSchedule (w := w) T MD hp r
      exact ⟨mA, pre, q1, q2, fun h' _ => q3 h'⟩
    have t2 := sameE (o := .xd [("place", .int p)]) (u := exo e2 (C 27) (some d2)) nd2 ne2 dn2
    refine ⟨e2, C 27, d2, _, _, rfl, upd_same, by rw [upd_ne dn2]; exact upd_same, rfl, T.xf 27 (by decide), T.s27.noN _ (by decide), ?_⟩
    generalize upd (upd H2 d2 (.xd [("place", .int p)])) e2 (exo e2 (C 27) (some d2)) = H3 at t2 ⊢
    refine ⟨(by show 3 ≤ sizeLine; decide), fun l1 nl1 => ?_⟩
    have u1 := sameU (H := H3) (o := .lst [.int p, .int p, .int p]) nl1
    refine ⟨_, rfl, (by show 1 ≤ sizeLine; decide), fun l2 nl2 => ?_⟩
    have u2 := sameU (H := upd H3 l1 (.lst [.int p, .int p, .int p])) (o := .lst [.int p]) nl2
    refine ⟨_, _, _, rfl, rfl, upd_same, by decide, by decide, (by show 3 ≤ sizeLine; decide), fun l3 nl3 => ?_⟩
    have u3 := sameU (o := .lst (List.replicate (Int.toNat 3) ([V.int p])).flatten) nl3
    refine ⟨.list ([p, p, p].map PyData.int), .list ([p, p, p].map PyData.int), .lst (SqL.of (u3 _ _ (u2 _ _ upd_same))) (.cons (.int _) (.cons (.int _) (.cons (.int _) .nil))), .lst (SqL.of upd_same) (.cons (.int _) (.cons (.int _) (.cons (.int _) .nil))), rfl, rfl, _, rfl, ?_⟩
    rw [show PyData.eqv (.list ([p, p, p].map PyData.int)) (.list ([p, p, p].map PyData.int)) = true from eqv_ints [p, p, p]]
    refine iteF ?_
    have s3 : Same H _ := t0.trans (t1.trans (t2.trans (u1.trans (u2.trans u3))))
    generalize upd (upd (upd H3 l1 _) l2 _) l3 _ = H4 at s3 ⊢
    -- where, row
    refine ⟨_, rfl, (by show 1 ≤ sizeLine; decide), fun q1 nq1 => ?_⟩
    have v1 := sameU (H := H4) (o := .tup [.int p]) nq1
    refine ⟨[("where", .ref q1)], fun h0 us MD hk r => kw_BadProgram (ns := [p]) T MD hk upd_same (fun n hn => by rw [List.mem_singleton.mp hn]; exact hp) (by show 1 ≤ 10; decide) r, fun d e nd ne dn => ?_⟩
    have v2 := sameE (o := .xd [("where", .ref q1)]) (u := exo e (C 23) (some d)) nd ne dn
    refine ⟨e, C 23, d, _, _, rfl, upd_same, by rw [upd_ne dn]; exact upd_same, rfl, T.xf 23 (by decide), T.s23.noN _ (by decide), ?_⟩
    refine ⟨_, rfl, (by show 1 ≤ sizeLine; decide), fun q2 nq2 => ?_⟩
    have v3 := sameU (o := .tup [.int p]) nq2
    refine ⟨.tuple ([p].map PyData.int), .tuple ([p].map PyData.int), .tup (SqT.of (v3 _ _ (v2 _ _ upd_same))) (.cons (.int _) .nil), .tup (SqT.of upd_same) (.cons (.int _) .nil), rfl, rfl, _, rfl, ?_⟩
    rw [show PyData.eqv (.tuple ([p].map PyData.int)) (.tuple ([p].map PyData.int)) = true from eqv_ints [p]]
    refine iteF ?_
    have s4 : Same H _ := s3.trans (v1.trans (v2.trans v3))
    generalize upd (upd (upd (upd H4 q1 _) d _) e _) q2 _ = H5 at s4 ⊢
    refine ⟨_, rfl, [("row", .int p)], fun h0 us MD hk r => ?_, fun d2 e2 nd2 ne2 dn2 => ?_⟩
    · obtain ⟨mA, pre, q1, q2, q3⟩ := kw_BadText (w := w) T MD hp r
      exact ⟨mA, pre, q1, q2, fun h' _ => q3 h'⟩
    have v4 := sameE (o := .xd [("row", .int p)]) (u := exo e2 (C 24) (some d2)) nd2 ne2 dn2
    refine ⟨e2, C 24, d2, _, _, rfl, upd_same, by rw [upd_ne dn2]; exact upd_same, rfl, T.xf 24 (by decide), T.s24.noN _ (by decide), ?_⟩
    refine ⟨_, rfl, rfl, _, rfl, ?_⟩
    rw [decide_eq_true rfl]
    refine iteF ?_
    have s5 : Same H _ := s4.trans v4
    generalize upd (upd H5 d2 _) e2 _ = H6 at s5 ⊢
    -- body, place
    refine ⟨_, rfl, _, rfl, [("place", .int o), ("body", .int p)], fun h0 us MD hk r => ?_, fun d3 e3 nd3 ne3 dn3 => ?_⟩
    · obtain ⟨mA, pre, q1, q2, q3⟩ := kw_BadCodes (w := w) T MD hp ho r
      exact ⟨mA, pre, q1, q2, fun h' _ => q3 h'⟩
    have v5 := sameE (o := .xd [("place", .int o), ("body", .int p)]) (u := exo e3 (C 25) (some d3)) nd3 ne3 dn3
    refine ⟨_, rfl, e3, C 25, d3, _, _, rfl, upd_same, by rw [upd_ne dn3]; exact upd_same, rfl, T.xf 25 (by decide), T.s25.noN _ (by decide), ?_⟩
    refine ⟨_, rfl, rfl, _, rfl, ?_⟩
    rw [decide_eq_true rfl]
    refine iteT ⟨_, rfl, e3, C 25, d3, _, _, rfl, upd_same, by rw [upd_ne dn3]; exact upd_same, rfl, T.xf 25 (by decide), T.s25.noN _ (by decide), ?_⟩
    refine ⟨_, rfl, rfl, ?_⟩
    rw [decide_eq_true rfl]
    exact h _ (s5.trans v5)
end
end My

end
section
set_option Elab.async false
set_option linter.all false
set_option maxRecDepth 100000
set_option maxHeartbeats 4000000
namespace My
open PySem PySem.Spec PyProof.Rows L2
abbrev s_law : Stmt := top 40
def spLaw (K : PySem.W.Frag) : Sp := fun vs H Q _ => ∃ (a : Addr) (ns : List Int), vs = [.ref a] ∧ SqL K H a (ns.map V.int) ∧ ns.length ≤ 63 ∧ ∀ H', Q (.bl true) H'
section
variable {P : Program} {w : World} {K : PySem.W.Frag} {mg : Str → Option Value} {base : Heap}
theorem sc_law : FnScope ["_law_script", "_law_bag_here", "_law_text", "_law_place", "_law_other", "_law_kind"] ["_law_script"] (defScope s_law) := ⟨rfl, rfl, rfl, by decide +kernel, rfl, by decide +kernel, by decide +kernel⟩
theorem ok_law {f fB fT fN fR : Addr} {fd fdB fdT fdN fdR : FuncData} (F : FnP K "law" s_law f fd)
    (G_law_bag : FnOk P w K mg base CX0 2 fB fdB ["_law_script", "_law_k"] (spBag K)) (g_law_bag : mg "_law_bag" = some (.ref fB)) (k_law_bag : PySem.W.keepIn K (.ref fB) = true) (b_law_bag : Binds K fdB ["_law_script", "_law_k"] [])
    (G_law_take : FnOk P w K mg base CX0 2 fT fdT ["_law_bag_here", "_law_many"] spTake) (g_law_take : mg "_law_take" = some (.ref fT)) (k_law_take : PySem.W.keepIn K (.ref fT) = true) (b_law_take : Binds K fdT ["_law_bag_here", "_law_many"] [])
    (G_law_named_right : FnOk P w K mg base CX0 4 fN fdN ["_law_place", "_law_other"] spNamed) (g_law_named_right : mg "_law_named_right" = some (.ref fN)) (k_law_named_right : PySem.W.keepIn K (.ref fN) = true) (b_law_named_right : Binds K fdN ["_law_place", "_law_other"] [])
    (G_law_right : FnOk P w K mg base CX0 7 fR fdR ["_law_kind", "_law_text", "_law_place", "_law_other"] spRight) (g_law_right : mg "_law_right" = some (.ref fR)) (k_law_right : PySem.W.keepIn K (.ref fR) = true) (b_law_right : Binds K fdR ["_law_kind", "_law_text", "_law_place", "_law_other"] [])
    (g_all : mg "all" = none) (g_range : mg "range" = none) :
    FnOk P w K mg base CX0 12 f fd ["_law_script"] (spLaw K) := by
  refine F.ok sc_law (fun vs H Q E h => ?_) (fun cdv A outer s H vs Q E hr h => ⟨_, PSs.nox
    (pss_cons (ps_set (i := 1) sc_law.nd rfl (Or.inl rfl) (pe_call G_law_bag (hr.mono (by decide)) rfl g_law_bag k_law_bag b_law_bag .nil pass0 (pa_cons (pv 0) (pa_cons pe_int pa_nil))))
      (pss_cons (ps_set (i := 2) sc_law.nd rfl (Or.inr rfl) (pe_ix ix_list (pe_lst (pa_cons pe_str (pa_cons pe_str (pa_cons pe_str (pa_cons pe_str pa_nil))))) (pe_call G_law_take (hr.mono (by decide)) rfl g_law_take k_law_take b_law_take .nil pass0 (pa_cons (pv 1) (pa_cons pe_int pa_nil))) (fun _ _ => rfl)))
      (pss_cons (ps_asg (pe_tup (pa_cons (pe_op op_sub (pe_call G_law_take (hr.mono (by decide)) rfl g_law_take k_law_take b_law_take .nil pass0 (pa_cons (pv 1) (pa_cons (pe_op op_add (pe_op op_pow pe_int pe_int) pe_int) pa_nil))) pe_int) (pa_cons (pe_op op_sub (pe_call G_law_take (hr.mono (by decide)) rfl g_law_take k_law_take b_law_take .nil pass0 (pa_cons (pv 1) (pa_cons (pe_op op_add (pe_op op_pow pe_int pe_int) pe_int) pa_nil))) pe_int) pa_nil))) (pg_tup rfl (pgs_cons (pg_name (i := 3) sc_law.nd rfl (Or.inr rfl)) (pgs_cons (pg_name (i := 4) sc_law.nd rfl (Or.inr rfl)) pgs_nil))))
      (pss_cons (ps_if (pt_not (pt_val (pe_call G_law_named_right (hr.mono (by decide)) rfl g_law_named_right k_law_named_right b_law_named_right .nil pass0 (pa_cons (pv 3) (pa_cons (pv 4) pa_nil))))) (pss_one (ps_ret pe_bl)) pss_nil)
      (pss_one (ps_ret (pe_callB (cr_all rfl) (by rfl) g_all (by decide +kernel) (pa_cons (pe_lc (own := [("_law_kind", 5)]) rfl sc_law.nd (pi_range1 (by rfl) g_range (pa_cons pe_int pa_nil)) (blkOk_by (own := [("_law_kind", 5)]) (N := ["_law_script", "_law_bag_here", "_law_text", "_law_place", "_law_other", "_law_kind"]) (sc := defScope s_law) (by decide +kernel)) (fun _ _ _ _ _ => by (exact (pg_name (i := 5) sc_law.nd rfl (Or.inl rfl)))) (fun _ _ _ _ _ => by exact pts_nil) (fun _ _ _ _ _ => by exact (pe_call G_law_right (hr.mono (by decide)) rfl g_law_right k_law_right b_law_right .nil pass0 (pa_cons (pv 5) (pa_cons (pv 2) (pa_cons (pv 3) (pa_cons (pv 4) pa_nil))))))) pa_nil)))))))), ?_⟩)
  · obtain ⟨a, ns, rfl, _⟩ := h
    rfl
  · obtain ⟨a, ns, rfl, hS, hn, q⟩ := h
    refine ⟨_, rfl, a, ns, 0, rfl, hS, by decide, by omega, fun H2 pb x y z s2 np hp hB => ?_⟩
    refine ⟨(by show 4 ≤ sizeLine; decide), fun l nl => ?_⟩
    have hl : ∀ u : HO, (upd H2 l u) pb = some (.lst [.int x, .int y, .int z]) := fun u => by rw [upd_ne (ne_of_none hp nl)]; exact hp
    refine ⟨_, rfl, pb, 10000, x, y, z, 4, rfl, hl _, hB, by decide, by decide, by decide, fun r x1 y1 z1 r0 r1 hB1 => ?_⟩
    obtain ⟨j, rfl⟩ : ∃ j : Nat, r = (j : Int) := ⟨r.toNat, by omega⟩
    obtain ⟨t, ht⟩ : ∃ t : Str, ([.str (Str.ofString "a"), .str (Str.ofString "some words"), .str (Str.ofString ""), .str (Str.ofString "two: rows")] : List V)[j]? = some (.str t) := by
      have hj : j < 4 := by omega
      match j, hj with
      | 0, _ => exact ⟨_, rfl⟩
      | 1, _ => exact ⟨_, rfl⟩
      | 2, _ => exact ⟨_, rfl⟩
      | 3, _ => exact ⟨_, rfl⟩
    have hne : l ≠ pb := (ne_of_none hp nl).symm
    refine ⟨_, _, _, _, rfl, rfl, SqL.of ((upd_ne hne).trans upd_same), atI_nat ht, ?_⟩
    generalize hH3 : upd (upd H2 l _) pb (.lst [.int x1, .int y1, .int z1]) = H3
    have hp3 : H3 pb = some (.lst [.int x1, .int y1, .int z1]) := by rw [← hH3]; exact upd_same
    clear hH3
    refine ⟨_, rfl, _, _, rfl, rfl, ⟨by decide, by decide, by decide⟩, _, _, rfl, rfl, pb, 10001, x1, y1, z1, _, rfl, hp3, hB1, by decide, by decide, by decide, fun p' x2 y2 z2 p0 p1 hB2 => ⟨_, _, rfl, rfl, ?_⟩⟩
    refine ⟨_, rfl, _, _, rfl, rfl, ⟨by decide, by decide, by decide⟩, _, _, rfl, rfl, pb, 10002, x2, y2, z2, _, rfl, upd_same, hB2, by decide, by decide, by decide, fun o' x3 y3 z3 o0 o1 hB3 => ⟨_, _, rfl, rfl, ?_⟩⟩
    have p1 : p' < 1000002 := p1
    have o1 : o' < 1000002 := o1
    refine ⟨(by show 2 ≤ sizeLine; decide), fun tp ntp => ⟨tp, _, rfl, SqT.of upd_same, rfl, ?_⟩⟩
    refine ⟨_, _, rfl, _, _, rfl, rfl, ?_⟩
    refine ⟨_, rfl, _, rfl, _, _, rfl, by omega, by omega, fun H4 s4 => ⟨true, rfl, iteF ?_⟩⟩
    refine ⟨_, rfl, by decide, by decide, fun Dn nD => ?_⟩
    refine lc_range (lo := 0) (n := 29) (fun i H' => H' Dn = some (.lst ((List.replicate i true).map V.bl))) upd_same ?hs ?hd
    case hs =>
      intro i H' hi R
      refine ⟨rfl, tyes ?_⟩
      refine ⟨_, rfl, _, rfl, _, rfl, _, rfl, i, t, p' - 1, o' - 1, by show [V.int (0 + (i : Int)), V.str t, V.int (p' - 1), V.int (o' - 1)] = _; rw [Int.zero_add], hi, by omega, by omega, fun H5 s5 => ?_⟩
      refine ⟨_, s5 _ _ R, ?_, ?_⟩
      · rw [List.length_map, List.length_replicate]
        exact Nat.lt_of_lt_of_le hi (by decide)
      · rw [upd_same, List.replicate_succ', List.map_append]
        rfl
    case hd =>
      intro H' R
      refine ⟨_, List.replicate 29 true, rfl, SqL.of R, ?_⟩
      exact q _
end
end My

end
section
set_option Elab.async false
set_option linter.all false
set_option maxRecDepth 100000
set_option maxHeartbeats 0
namespace My
open PySem PySem.Spec PyProof.Rows PySem.HandSPX L2
/-! ### BadSource's class object and its __init__ -/
def clsB (K : PySem.W.Frag) (C : Addr) : Bool := match K.lookup C with
  | some ⟨.type "type", _, .cls cd, sl⟩ => (match cd.mro, sl.toList with
    | .ref C' :: bm, [_, _, _, _, some (.builtin n), _] => C' == C && n == "ValueError.__new__" && !cd.hasDel && cd.hasDict && refsVE bm && decide (PySem.W.alongIn K "__init__" bm = some (some (.builtin "ValueError.__init__")))
    | _, _ => false)
  | _ => false
theorem clsB_ok {K : PySem.W.Frag} {C : Addr} (q : clsB K C = true) : ∃ nm q N bs bm sn sub ab col dd k0 k1 k2 k3 k5, K.lookup C = some (excClassObj nm q C N bs bm true sn sub ab col dd k0 k1 k2 k3 k5 "ValueError.__new__") ∧ refsVE bm = true ∧ PySem.W.alongIn K "__init__" bm = some (some (.builtin "ValueError.__init__")) := by
  unfold clsB at q
  split at q
  · rename_i dd cd sl ho
    split at q
    · rename_i C' bm k0 k1 k2 k3 n k5 hm hs
      simp only [Bool.and_eq_true, beq_iff_eq, Bool.not_eq_true', decide_eq_true_iff] at q
      obtain ⟨⟨⟨⟨⟨rfl, rfl⟩, hdel⟩, hdict⟩, hre⟩, hal⟩ := q
      obtain ⟨nm, bs, mro, ns, qn, hd, sn, sub, ab, col, del⟩ := cd
      dsimp only at hm hdel hdict
      subst hm hdel hdict
      have hsl : sl = #[k0, k1, k2, k3, some (.builtin "ValueError.__new__"), k5] := by
        obtain ⟨l⟩ := sl
        simp only at hs
        rw [hs]
      subst hsl
      exact ⟨nm, qn, ns, bs, bm, sn, sub, ab, col, dd, k0, k1, k2, k3, k5, ho, hre, hal⟩
    · cases q
  · cases q
abbrev IniV : Type := Option (Str × Str × Arguments × FuncBody × Scope × Addr × Value × Value × Addr)
def iniW (K : PySem.W.Frag) (fI : Addr) : IniV := match K.lookup fI with
  | some ⟨_, _, .func fd, _⟩ => some (fd.name, fd.qualname, fd.params, fd.body, fd.scope, fd.globals, fd.defaults, fd.kwdefaults, fd.builtins)
  | _ => none
def iniVal (i : Nat) (qual : Str) : IniV := some ("__init__", qual, defArgs (PySem.SupY.ini i), .stmts (defBody (PySem.SupY.ini i)), defScope (PySem.SupY.ini i), mainGlobals, .none, .none, builtinsNs)
def iniB (K : PySem.W.Frag) (qual : Str) (C fI : Addr) (file : Str) : Bool := match K.lookup fI with
  | some ⟨_, _, .func fd, _⟩ => (match fd.closure, fd.code with
    | [(x, cc)], .ref cda => decide (x = "__class__") && (match K.lookup cc with
        | some ⟨_, _, .cell (some (.ref D)), _⟩ => D == C
        | _ => false) && PySem.W.codeIn K (.ref cda) qual && (match K.lookup cda with
        | some ⟨_, _, .fields vs, _⟩ => (match (vs : Array Value)[2]? with
          | some (Value.str f _) => file == f
          | _ => false)
        | _ => false)
    | _, _ => false)
  | _ => false
theorem iniB_ok {K : PySem.W.Frag} {i : Nat} {qual : Str} {C fI : Addr} {file : Str} (h : iniB K qual C fI file = true) (e : iniW K fI = iniVal i qual) :
    ∃ (oc doc pm ct : Value) (od an : Option Addr) (osl : Array (Option Value)) (cda cc : Addr) (ccl cl : Value) (cdd cld : Option Addr) (ccs csl : Array (Option Value)) (vs : Array Value) (f2 : Str) (tf : Tok),
    K.lookup fI = some ⟨oc, od, .func (PySem.W.ksFn "__init__" qual (defArgs (PySem.SupY.ini i)) (defBody (PySem.SupY.ini i)) (defScope (PySem.SupY.ini i)) .none .none doc pm an (.ref cda) ct cc), osl⟩ ∧ PySem.W.codeIn K (.ref cda) qual = true ∧
    K.lookup cda = some ⟨ccl, cdd, .fields vs, ccs⟩ ∧ vs[2]? = some (.str f2 tf) ∧ (file == f2) = true ∧ K.lookup cc = some ⟨cl, cld, .cell (some (.ref C)), csl⟩ := by
  unfold iniB at h
  unfold iniW iniVal at e
  split at h
  · rename_i oc od fd osl ho
    rw [ho] at e
    have e := Option.some.inj e
    split at h
    · rename_i x cc cda hcl hcd
      simp only [Bool.and_eq_true, decide_eq_true_iff] at h
      obtain ⟨⟨⟨rfl, h2⟩, h3⟩, h4⟩ := h
      split at h2
      · rename_i cl cld D csl hcc
        have hD : D = C := beq_iff_eq.mp h2
        subst hD
        split at h4
        · rename_i ccl cdd vs ccs hca
          split at h4
          · rename_i f2 tf hv
            obtain ⟨nm, qn, pr, bd, sc, gl, clo, df, kd, dc, pmo, ano, cod, clt, blt⟩ := fd
            simp only [Prod.mk.injEq] at e
            dsimp only at hcl hcd
            obtain ⟨rfl, rfl, rfl, rfl, rfl, rfl, rfl, rfl, rfl⟩ := e
            subst hcl hcd
            exact ⟨oc, dc, pmo, clt, od, ano, osl, cda, cc, ccl, cl, cdd, cld, ccs, csl, vs, f2, tf, ho, h3, hca, hv, h4, hcc⟩
          · cases h4
        · cases h4
      · cases h2
    · cases h
  · cases h
end My

end
section
set_option Elab.async false
set_option linter.all false
set_option maxRecDepth 100000
set_option maxHeartbeats 0
namespace My
open PySem PySem.Spec PyProof.Rows PySem.HandSPX L2
/-! ### what the top leaves -/
def df0 : He.DefD := ⟨("_law_bag", none), "_law_bag", "_law_bag", defArgs s_law_bag, defBody s_law_bag, defScope s_law_bag, [], []⟩
def df1 : He.DefD := ⟨("_law_take", none), "_law_take", "_law_take", defArgs s_law_take, defBody s_law_take, defScope s_law_take, [], []⟩
def df2 : He.DefD := ⟨("_law_raise", none), "_law_raise", "_law_raise", defArgs s_law_raise, defBody s_law_raise, defScope s_law_raise, [], []⟩
def df3 : He.DefD := ⟨("_law_raise_more", none), "_law_raise_more", "_law_raise_more", defArgs s_law_raise_more, defBody s_law_raise_more, defScope s_law_raise_more, [], []⟩
def df4 : He.DefD := ⟨("_law_raise_last", none), "_law_raise_last", "_law_raise_last", defArgs s_law_raise_last, defBody s_law_raise_last, defScope s_law_raise_last, [], []⟩
def df5 : He.DefD := ⟨("_law_marks", none), "_law_marks", "_law_marks", defArgs s_law_marks, defBody s_law_marks, defScope s_law_marks, [], []⟩
def df6 : He.DefD := ⟨("_law_more_marks", none), "_law_more_marks", "_law_more_marks", defArgs s_law_more_marks, defBody s_law_more_marks, defScope s_law_more_marks, [], []⟩
def df7 : He.DefD := ⟨("_law_right", none), "_law_right", "_law_right", defArgs s_law_right, defBody s_law_right, defScope s_law_right, [], []⟩
def df8 : He.DefD := ⟨("_law_named_right", none), "_law_named_right", "_law_named_right", defArgs s_law_named_right, defBody s_law_named_right, defScope s_law_named_right, [], []⟩
def df9 : He.DefD := ⟨("law", none), "law", "law", defArgs s_law, defBody s_law, defScope s_law, [], []⟩
def fnL : List He.DefD := [df0, df1, df2, df3, df4, df5, df6, df7, df8, df9]
def faL : List He.Fa := [.glo "_law_bag", .glo "_law_take", .glo "_law_raise", .glo "_law_raise_more", .glo "_law_raise_last", .glo "_law_marks", .glo "_law_more_marks", .glo "_law_right", .glo "_law_named_right", .glo "law"] ++ [.glo "BadTree", .glo "BadName", .glo "NoName", .glo "Clash", .glo "BadClass", .glo "BadSelector", .glo "NoMethod", .glo "BadFields", .glo "BadParent", .glo "BadCount", .glo "BadMade", .glo "BadPlaces", .glo "NotSound", .glo "BadWorld", .glo "NoObject", .glo "Busy", .glo "Late", .glo "BadNumber", .glo "NotThat", .glo "NothingToUndo", .glo "TooMany", .glo "BadCommand", .glo "BadSource", .glo "BadProgram", .glo "BadText", .glo "BadCodes", .glo "BadLog", .glo "BadSchedule", .glo "TalkError"] ++ [.free "int", .free "sum", .free "len", .free "max", .free "isinstance", .free "ValueError", .free "range", .free "all", .free "super"]
abbrev P0 : Program := (PySem.Challenge.rw_imagetalk_k00_error_classes).prog
def cK (K : PySem.W.Frag) (i : Nat) : Addr := He.ga K (CN.getD i "")
def fK (K : PySem.W.Frag) (i : Nat) : Addr := He.ma K (cK K i) "__init__"
/-- what holds of each class -/
def oneB (K : PySem.W.Frag) (i : Nat) : Bool :=
  PySem.W.keepIn K (.ref (cK K i)) && (decide (PySem.W.subIn K (.ref (cK K i)) (.type "BaseException") = some true) && (decide (PySem.W.typeIn K (.ref (cK K i)) = some (.type "type")) && (xfB K (cK K i) &&
  (He.eqO (PySem.W.findIn K (.ref (cK K i)) "__class__") (some (some (.builtin "object.__class__"))) && (decide (PySem.W.mroIn K (cK K i) (.type "object") = some true) && (decide (PySem.W.exmOne K (.ref (cK K i)) (.ref (cK K 28)) = some true) &&
  (decide (PySem.W.kitOne K (.ref (cK K i)) (.type "ValueError") = some true) && (((decide (i < 22) || decide (i = 28)) == false) || PySem.W.excIn K (cK K i) veB "ValueError.__new__"))))))))
def kitB2 (K : PySem.W.Frag) (i : Nat) : Bool := (List.range 28).all fun j => decide (PySem.W.kitOne K (.ref (cK K i)) (.ref (cK K j)) = some (decide (i = j)))
/-- what holds of those with fields -/
def iniB2 (K : PySem.W.Frag) (i : Nat) (qual : Str) (fs : List Str) : Bool :=
  clsB K (cK K i) && (iniB K qual (cK K i) (fK K i) P0.main.file && (He.eqO (PySem.W.findIn K (.ref (cK K i)) "__setattr__") (some (some (.builtin "object.__setattr__"))) && (fs.all (fun f => He.eqO (PySem.W.findIn K (.ref (cK K i)) f) (some none)) &&
  (He.eqO (PySem.W.findIn K (.ref (cK K i)) "__init__") (some (some (.ref (fK K i)))) && (decide (PySem.W.typeIn K (.ref (fK K i)) = some (.type "function")) && (decide (PySem.W.subIn K (.ref (cK K i)) (.type "ValueError") = some true) && decide (PySem.W.mroIn K (cK K i) (.ref (cK K i)) = some true)))))))
def gen1 (K : PySem.W.Frag) : Bool := He.eqO (PySem.W.nsIn K cStatics "thirdparty.any") (some none) && (He.eqO (PySem.W.specialIn K (.builtin "object.__class__") "__get__") (some (some (.builtin "getset_descriptor.__get__"))) && decide (PySem.W.takesIn K (.builtin "object.__class__") = some true))
def allB (K : PySem.W.Frag) : Bool := gen1 K && ((List.range 29).all (oneB K) && ((List.range 29).all (kitB2 K) && (iniB2 K 22 "BadSource.__init__" ["place"] && (iniB2 K 23 "BadProgram.__init__" ["where"] && (iniB2 K 24 "BadText.__init__" ["row"] && (iniB2 K 25 "BadCodes.__init__" ["body", "place"] && (iniB2 K 26 "BadLog.__init__" ["place"] && (iniB2 K 27 "BadSchedule.__init__" ["place"]))))))))
abbrev HV : Type := He.AlD × Bool × List IniV
def obsS (K : PySem.W.Frag) : HV := (He.obsD faL fnL K, allB K, [iniW K (fK K 22), iniW K (fK K 23), iniW K (fK K 24), iniW K (fK K 25), iniW K (fK K 26), iniW K (fK K 27)])
def valS : HV := (He.valD fnL, true, [iniVal 2 "BadSource.__init__", iniVal 7 "BadProgram.__init__", iniVal 15 "BadText.__init__", iniVal 17 "BadCodes.__init__", iniVal 25 "BadLog.__init__", iniVal 27 "BadSchedule.__init__"])
def obsG (g : Addr → Option Obj) : HV := obsS (He.frG g (cStatics :: He.asD g 4))
abbrev hk : PySem.W.Hook where
  α := HV
  obs := fun s => obsG s.heap.get?
  val := fun _ => valS
  says := fun _ h => ∃ K : PySem.W.Frag, K.In h ∧ obsS K = valS
  of := fun _ _ e => ⟨_, He.frG_in, e⟩
  keeps := fun _ _ _ ⟨K, hK, c⟩ k => ⟨K, PySem.W.Frag.In.keeps hK k, c⟩
def ob (s : PySem.W.SharedT) : HV := obsG (HandSHeadRun.getT s)
theorem ob_eq (s : PySem.W.SharedT) : ob s = hk.obs s.abs := by
  have e : HandSHeadRun.getT s = s.abs.heap.get? := funext (HandSHeadRun.getT_eq s)
  unfold ob
  rw [e]
abbrev R : PySem.W.OpenRow := PySem.W.OpenLaw.row PySem.Challenge.rw_imagetalk_k00_error_classes
def loose : List Str := (["TalkError", "BadSource", "BadTree", "BadName", "NoName", "Clash", "BadProgram", "BadClass", "BadSelector", "NoMethod", "BadFields", "BadParent"] : List Str) ++ (["BadCount", "BadMade", "BadText", "BadPlaces", "BadCodes", "NotSound", "BadWorld", "NoObject", "Busy", "Late", "BadNumber", "NotThat"] : List Str) ++ (["BadLog", "NothingToUndo", "BadSchedule", "TooMany", "BadCommand", "_law_bag", "_law_take", "_law_raise", "_law_raise_more", "_law_raise_last", "_law_marks", "_law_more_marks"] : List Str) ++ (["_law_right", "_law_named_right"] : List Str)
end My

end
section
set_option Elab.async false
set_option linter.all false
set_option maxRecDepth 100000
set_option maxHeartbeats 0
namespace My
open PySem PySem.Spec PyProof.Rows PySem.HandSPX L2
theorem run (w : World) : HandSHeadRun.RunEq R (PySem.W.view R.prog [40]) hk ob 20000 loose w := by
  intro os
  kernel_rfl
end My

end
section
set_option Elab.async false
set_option linter.all false
set_option maxRecDepth 100000
set_option maxHeartbeats 0
namespace My
open PySem PySem.Spec PyProof.Rows PySem.HandSPX L2
theorem all_range {n : Nat} {p : Nat → Bool} (h : (List.range n).all p = true) {i : Nat} (hi : i < n) : p i = true := List.all_eq_true.mp h i (List.mem_range.mpr hi)
theorem one_ok {K : PySem.W.Frag} {i : Nat} (h : oneB K i = true) :
    PySem.W.keepIn K (.ref (cK K i)) = true ∧ PySem.W.subIn K (.ref (cK K i)) (.type "BaseException") = some true ∧ PySem.W.typeIn K (.ref (cK K i)) = some (.type "type") ∧ XfC K (cK K i) ∧
    PySem.W.findIn K (.ref (cK K i)) "__class__" = some (some (.builtin "object.__class__")) ∧ PySem.W.mroIn K (cK K i) (.type "object") = some true ∧ PySem.W.exmOne K (.ref (cK K i)) (.ref (cK K 28)) = some true ∧ PySem.W.kitOne K (.ref (cK K i)) (.type "ValueError") = some true ∧
    (i < 22 ∨ i = 28 → PySem.W.excIn K (cK K i) veB "ValueError.__new__" = true) := by
  unfold oneB at h
  obtain ⟨h1, h⟩ := He.ba h
  obtain ⟨h2, h⟩ := He.ba h
  obtain ⟨h3, h⟩ := He.ba h
  obtain ⟨h4, h⟩ := He.ba h
  obtain ⟨h5, h⟩ := He.ba h
  obtain ⟨h6, h⟩ := He.ba h
  obtain ⟨h7, h⟩ := He.ba h
  obtain ⟨h8, h9⟩ := He.ba h
  refine ⟨h1, of_decide_eq_true h2, of_decide_eq_true h3, xfB_ok h4, He.eqO_ok h5, of_decide_eq_true h6, of_decide_eq_true h7, of_decide_eq_true h8, fun hi => ?_⟩
  rcases Bool.or_eq_true_iff.mp h9 with h | h
  · have e : (decide (i < 22) || decide (i = 28)) = true := by
      rcases hi with hi | hi
      · rw [decide_eq_true hi, Bool.true_or]
      · rw [decide_eq_true hi, Bool.or_true]
    rw [e] at h
    cases h
  · exact h
theorem ini_ok {K : PySem.W.Frag} {mg : Str → Option Value} {i t : Nat} {qual : Str} {fs : List Str} (hi : i < 29) (h : iniB2 K i qual fs = true) (o : oneB K i = true) (e : iniW K (fK K i) = iniVal t qual) (g_super : mg "super" = none) (tp : PySem.W.nsIn K cStatics "thirdparty.any" = some none) :
    PySem.SupY.SupTxt P0 K mg t qual fs (cK K i) (fK K i) := by
  obtain ⟨k1, k2, k3, _⟩ := one_ok o
  unfold iniB2 at h
  obtain ⟨s1, h⟩ := He.ba h
  obtain ⟨s2, h⟩ := He.ba h
  obtain ⟨s3, h⟩ := He.ba h
  obtain ⟨s4, h⟩ := He.ba h
  obtain ⟨s5, h⟩ := He.ba h
  obtain ⟨s6, h⟩ := He.ba h
  obtain ⟨s7, s8⟩ := He.ba h
  exact { kC := k1, exC := k2, tyC := k3, cls := clsB_ok s1, sa := He.eqO_ok s3, noN := fun f hf => He.eqO_ok (List.all_eq_true.mp s4 f hf), iC := He.eqO_ok s5, tC := of_decide_eq_true s6, noS := g_super, tp := tp, subVE := of_decide_eq_true s7, mroC := of_decide_eq_true s8, top := by kernel_rfl, fn := iniB_ok s2 e }
theorem facts {w : World} {K : PySem.W.Frag} {h : Heap} {mg : Str → Option Value} {f : Addr} (X : K.In h) (G : h.Ns mainGlobals mg) (hfa : mg ("law" : Str) = some (.ref f)) (c : obsS K = valS) :
    ∃ fd : FuncData, (∀ (s : Shared) (v : Value), BindsTo s fd ⟨[v], []⟩ [("_law_script", v)]) ∧ ∀ base : Heap, K.In base → base.Ns mainGlobals mg → FnOk P0 w K mg base CX0 12 f fd ["_law_script"] (spLaw K) := by
  have c1 : He.SaysD faL fnL K := congrArg (fun z : HV => z.1) c
  have c2 : allB K = true := congrArg (fun z : HV => z.2.1) c
  have c3 : [iniW K (fK K 22), iniW K (fK K 23), iniW K (fK K 24), iniW K (fK K 25), iniW K (fK K 26), iniW K (fK K 27)] = [iniVal 2 "BadSource.__init__", iniVal 7 "BadProgram.__init__", iniVal 15 "BadText.__init__", iniVal 17 "BadCodes.__init__", iniVal 25 "BadLog.__init__", iniVal 27 "BadSchedule.__init__"] := congrArg (fun z : HV => z.2.2) c
  obtain ⟨fd0, F0⟩ := c1.def_ 0 (d := df0) rfl
  have g0 : mg "_law_bag" = some (.ref (He.ga K "_law_bag")) := He.glo_ok X G (c1.fact 0 (f := .glo "_law_bag") rfl)
  obtain ⟨fd1, F1⟩ := c1.def_ 1 (d := df1) rfl
  have g1 : mg "_law_take" = some (.ref (He.ga K "_law_take")) := He.glo_ok X G (c1.fact 1 (f := .glo "_law_take") rfl)
  obtain ⟨fd2, F2⟩ := c1.def_ 2 (d := df2) rfl
  have g2 : mg "_law_raise" = some (.ref (He.ga K "_law_raise")) := He.glo_ok X G (c1.fact 2 (f := .glo "_law_raise") rfl)
  obtain ⟨fd3, F3⟩ := c1.def_ 3 (d := df3) rfl
  have g3 : mg "_law_raise_more" = some (.ref (He.ga K "_law_raise_more")) := He.glo_ok X G (c1.fact 3 (f := .glo "_law_raise_more") rfl)
  obtain ⟨fd4, F4⟩ := c1.def_ 4 (d := df4) rfl
  have g4 : mg "_law_raise_last" = some (.ref (He.ga K "_law_raise_last")) := He.glo_ok X G (c1.fact 4 (f := .glo "_law_raise_last") rfl)
  obtain ⟨fd5, F5⟩ := c1.def_ 5 (d := df5) rfl
  have g5 : mg "_law_marks" = some (.ref (He.ga K "_law_marks")) := He.glo_ok X G (c1.fact 5 (f := .glo "_law_marks") rfl)
  obtain ⟨fd6, F6⟩ := c1.def_ 6 (d := df6) rfl
  have g6 : mg "_law_more_marks" = some (.ref (He.ga K "_law_more_marks")) := He.glo_ok X G (c1.fact 6 (f := .glo "_law_more_marks") rfl)
  obtain ⟨fd7, F7⟩ := c1.def_ 7 (d := df7) rfl
  have g7 : mg "_law_right" = some (.ref (He.ga K "_law_right")) := He.glo_ok X G (c1.fact 7 (f := .glo "_law_right") rfl)
  obtain ⟨fd8, F8⟩ := c1.def_ 8 (d := df8) rfl
  have g8 : mg "_law_named_right" = some (.ref (He.ga K "_law_named_right")) := He.glo_ok X G (c1.fact 8 (f := .glo "_law_named_right") rfl)
  obtain ⟨fd9, F9⟩ := c1.def_ 9 (d := df9) rfl
  have g9 : mg "law" = some (.ref (He.ga K "law")) := He.glo_ok X G (c1.fact 9 (f := .glo "law") rfl)
  have q0 : mg "BadTree" = some (.ref (He.ga K "BadTree")) := He.glo_ok X G (c1.fact 10 (f := .glo "BadTree") rfl)
  have q1 : mg "BadName" = some (.ref (He.ga K "BadName")) := He.glo_ok X G (c1.fact 11 (f := .glo "BadName") rfl)
  have q2 : mg "NoName" = some (.ref (He.ga K "NoName")) := He.glo_ok X G (c1.fact 12 (f := .glo "NoName") rfl)
  have q3 : mg "Clash" = some (.ref (He.ga K "Clash")) := He.glo_ok X G (c1.fact 13 (f := .glo "Clash") rfl)
  have q4 : mg "BadClass" = some (.ref (He.ga K "BadClass")) := He.glo_ok X G (c1.fact 14 (f := .glo "BadClass") rfl)
  have q5 : mg "BadSelector" = some (.ref (He.ga K "BadSelector")) := He.glo_ok X G (c1.fact 15 (f := .glo "BadSelector") rfl)
  have q6 : mg "NoMethod" = some (.ref (He.ga K "NoMethod")) := He.glo_ok X G (c1.fact 16 (f := .glo "NoMethod") rfl)
  have q7 : mg "BadFields" = some (.ref (He.ga K "BadFields")) := He.glo_ok X G (c1.fact 17 (f := .glo "BadFields") rfl)
  have q8 : mg "BadParent" = some (.ref (He.ga K "BadParent")) := He.glo_ok X G (c1.fact 18 (f := .glo "BadParent") rfl)
  have q9 : mg "BadCount" = some (.ref (He.ga K "BadCount")) := He.glo_ok X G (c1.fact 19 (f := .glo "BadCount") rfl)
  have q10 : mg "BadMade" = some (.ref (He.ga K "BadMade")) := He.glo_ok X G (c1.fact 20 (f := .glo "BadMade") rfl)
  have q11 : mg "BadPlaces" = some (.ref (He.ga K "BadPlaces")) := He.glo_ok X G (c1.fact 21 (f := .glo "BadPlaces") rfl)
  have q12 : mg "NotSound" = some (.ref (He.ga K "NotSound")) := He.glo_ok X G (c1.fact 22 (f := .glo "NotSound") rfl)
  have q13 : mg "BadWorld" = some (.ref (He.ga K "BadWorld")) := He.glo_ok X G (c1.fact 23 (f := .glo "BadWorld") rfl)
  have q14 : mg "NoObject" = some (.ref (He.ga K "NoObject")) := He.glo_ok X G (c1.fact 24 (f := .glo "NoObject") rfl)
  have q15 : mg "Busy" = some (.ref (He.ga K "Busy")) := He.glo_ok X G (c1.fact 25 (f := .glo "Busy") rfl)
  have q16 : mg "Late" = some (.ref (He.ga K "Late")) := He.glo_ok X G (c1.fact 26 (f := .glo "Late") rfl)
  have q17 : mg "BadNumber" = some (.ref (He.ga K "BadNumber")) := He.glo_ok X G (c1.fact 27 (f := .glo "BadNumber") rfl)
  have q18 : mg "NotThat" = some (.ref (He.ga K "NotThat")) := He.glo_ok X G (c1.fact 28 (f := .glo "NotThat") rfl)
  have q19 : mg "NothingToUndo" = some (.ref (He.ga K "NothingToUndo")) := He.glo_ok X G (c1.fact 29 (f := .glo "NothingToUndo") rfl)
  have q20 : mg "TooMany" = some (.ref (He.ga K "TooMany")) := He.glo_ok X G (c1.fact 30 (f := .glo "TooMany") rfl)
  have q21 : mg "BadCommand" = some (.ref (He.ga K "BadCommand")) := He.glo_ok X G (c1.fact 31 (f := .glo "BadCommand") rfl)
  have q22 : mg "BadSource" = some (.ref (He.ga K "BadSource")) := He.glo_ok X G (c1.fact 32 (f := .glo "BadSource") rfl)
  have q23 : mg "BadProgram" = some (.ref (He.ga K "BadProgram")) := He.glo_ok X G (c1.fact 33 (f := .glo "BadProgram") rfl)
  have q24 : mg "BadText" = some (.ref (He.ga K "BadText")) := He.glo_ok X G (c1.fact 34 (f := .glo "BadText") rfl)
  have q25 : mg "BadCodes" = some (.ref (He.ga K "BadCodes")) := He.glo_ok X G (c1.fact 35 (f := .glo "BadCodes") rfl)
  have q26 : mg "BadLog" = some (.ref (He.ga K "BadLog")) := He.glo_ok X G (c1.fact 36 (f := .glo "BadLog") rfl)
  have q27 : mg "BadSchedule" = some (.ref (He.ga K "BadSchedule")) := He.glo_ok X G (c1.fact 37 (f := .glo "BadSchedule") rfl)
  have q28 : mg "TalkError" = some (.ref (He.ga K "TalkError")) := He.glo_ok X G (c1.fact 38 (f := .glo "TalkError") rfl)
  have g_int : mg "int" = none := He.free_ok X G (c1.fact 39 (f := .free "int") rfl)
  have g_sum : mg "sum" = none := He.free_ok X G (c1.fact 40 (f := .free "sum") rfl)
  have g_len : mg "len" = none := He.free_ok X G (c1.fact 41 (f := .free "len") rfl)
  have g_max : mg "max" = none := He.free_ok X G (c1.fact 42 (f := .free "max") rfl)
  have g_isinstance : mg "isinstance" = none := He.free_ok X G (c1.fact 43 (f := .free "isinstance") rfl)
  have g_ValueError : mg "ValueError" = none := He.free_ok X G (c1.fact 44 (f := .free "ValueError") rfl)
  have g_range : mg "range" = none := He.free_ok X G (c1.fact 45 (f := .free "range") rfl)
  have g_all : mg "all" = none := He.free_ok X G (c1.fact 46 (f := .free "all") rfl)
  have g_super : mg "super" = none := He.free_ok X G (c1.fact 47 (f := .free "super") rfl)
  unfold allB at c2
  obtain ⟨a1, c2⟩ := He.ba c2
  obtain ⟨a2, c2⟩ := He.ba c2
  obtain ⟨a3, c2⟩ := He.ba c2
  unfold gen1 at a1
  obtain ⟨tp, a1⟩ := He.ba a1
  obtain ⟨hn, ht⟩ := He.ba a1
  have tp := He.eqO_ok tp
  have hn := He.eqO_ok hn
  have ht := of_decide_eq_true ht
  obtain ⟨i22, c2⟩ := He.ba c2
  obtain ⟨i23, c2⟩ := He.ba c2
  obtain ⟨i24, c2⟩ := He.ba c2
  obtain ⟨i25, c2⟩ := He.ba c2
  obtain ⟨i26, c2⟩ := He.ba c2
  have i27 := c2
  injection c3 with w22 c3
  injection c3 with w23 c3
  injection c3 with w24 c3
  injection c3 with w25 c3
  injection c3 with w26 c3
  injection c3 with w27 c3
  have T : Cls P0 K mg (cK K) (fK K) :=
    { g := fun i hi => by
        match i, hi with
        | 0, _ => exact q0
        | 1, _ => exact q1
        | 2, _ => exact q2
        | 3, _ => exact q3
        | 4, _ => exact q4
        | 5, _ => exact q5
        | 6, _ => exact q6
        | 7, _ => exact q7
        | 8, _ => exact q8
        | 9, _ => exact q9
        | 10, _ => exact q10
        | 11, _ => exact q11
        | 12, _ => exact q12
        | 13, _ => exact q13
        | 14, _ => exact q14
        | 15, _ => exact q15
        | 16, _ => exact q16
        | 17, _ => exact q17
        | 18, _ => exact q18
        | 19, _ => exact q19
        | 20, _ => exact q20
        | 21, _ => exact q21
        | 22, _ => exact q22
        | 23, _ => exact q23
        | 24, _ => exact q24
        | 25, _ => exact q25
        | 26, _ => exact q26
        | 27, _ => exact q27
        | 28, _ => exact q28
        | n + 29, hi => exact absurd hi (by omega)
      kp := fun i hi => (one_ok (all_range a2 hi)).1
      be := fun i hi => (one_ok (all_range a2 hi)).2.1
      ty := fun i hi => (one_ok (all_range a2 hi)).2.2.1
      xf := fun i hi => (one_ok (all_range a2 hi)).2.2.2.1
      em := fun i hi => (one_ok (all_range a2 hi)).2.2.2.2.2.2.1
      kitV := fun i hi => (one_ok (all_range a2 hi)).2.2.2.2.2.2.2.1
      ex := fun i hi => (one_ok (all_range a2 (show i < 29 by omega))).2.2.2.2.2.2.2.2 hi
      kit := fun i j hi hj => of_decide_eq_true (all_range (all_range a3 hi) hj)
      ec := fun i hi => by
        obtain ⟨_, k2, _, k4, k5, k6, _⟩ := one_ok (all_range a2 hi)
        exact ⟨k4.ga, k4.gg, k2, k4.hdC, k5, hn, ht, k6⟩
      s22 := ini_ok (by decide) i22 (all_range a2 (by decide)) w22 g_super tp
      s23 := ini_ok (by decide) i23 (all_range a2 (by decide)) w23 g_super tp
      s24 := ini_ok (by decide) i24 (all_range a2 (by decide)) w24 g_super tp
      s25 := ini_ok (by decide) i25 (all_range a2 (by decide)) w25 g_super tp
      s26 := ini_ok (by decide) i26 (all_range a2 (by decide)) w26 g_super tp
      s27 := ini_ok (by decide) i27 (all_range a2 (by decide)) w27 g_super tp }
  clear c2 c3
  have e := hfa.symm.trans g9
  cases e
  have bl := FunD.bindsA (ps := ["_law_script"]) F9 fun _ _ _ _ _ _ us hl => match us, hl with | [_], _ => rfl
  refine ⟨fd9, fun s v => bl s [v] rfl, fun base _ _ => ?_⟩
  have b0 : Binds K fd0 ["_law_script", "_law_k"] [] := F0.bindsN fun _ _ _ _ _ _ us hl => match us, hl with | [_, _], _ => rfl
  have b1 : Binds K fd1 ["_law_bag_here", "_law_many"] [] := F1.bindsN fun _ _ _ _ _ _ us hl => match us, hl with | [_, _], _ => rfl
  have b2 : Binds K fd2 ["_law_kind", "_law_text"] [] := F2.bindsN fun _ _ _ _ _ _ us hl => match us, hl with | [_, _], _ => rfl
  have b3 : Binds K fd3 ["_law_kind", "_law_text"] [] := F3.bindsN fun _ _ _ _ _ _ us hl => match us, hl with | [_, _], _ => rfl
  have b4 : Binds K fd4 ["_law_kind", "_law_text", "_law_place", "_law_other"] [] := F4.bindsN fun _ _ _ _ _ _ us hl => match us, hl with | [_, _, _, _], _ => rfl
  have b7 : Binds K fd7 ["_law_kind", "_law_text", "_law_place", "_law_other"] [] := F7.bindsN fun _ _ _ _ _ _ us hl => match us, hl with | [_, _, _, _], _ => rfl
  have b8 : Binds K fd8 ["_law_place", "_law_other"] [] := F8.bindsN fun _ _ _ _ _ _ us hl => match us, hl with | [_, _], _ => rfl
  have R : RightTxt P0 w K mg base (cK K) (He.ga K "_law_raise") (He.ga K "_law_raise_more") (He.ga K "_law_raise_last") (He.ga K "_law_marks") (He.ga K "_law_more_marks") fd2 fd3 fd4 fd5 fd6 :=
    { G1 := ok_raise F2 T, G2 := ok_raise_more F3 T, G3 := ok_raise_last F4 T, G4 := ok_marks F5 T g_isinstance, G5 := ok_more_marks F6 T g_isinstance, g1 := g2, g2 := g3, g3 := g4, g4 := g5, g5 := g6, k1 := F2.kp, k2 := F3.kp, k3 := F4.kp, k4 := F5.kp, k5 := F6.kp, b1 := b2, b2 := b3, b3 := b4, g_isinstance := g_isinstance, g_ValueError := g_ValueError, g_range := g_range }
  exact ok_law F9 (ok_bag F0 g_int g_sum g_len g_max) g0 F0.kp b0 (ok_take F1 g_int) g1 F1.kp b1 (ok_named F8 T) g8 F8.kp b8 (ok_right F7 T R) g7 F7.kp b7 g_all g_range
end My

end
section
set_option Elab.async false
set_option linter.all false
set_option maxRecDepth 100000
set_option maxHeartbeats 0
open PySem PySem.W PySem.Calls PyProof.Rows
theorem PySem.Challenge.cw_imagetalk_k00_error_classes_holds : PySem.Challenge.rw_imagetalk_k00_error_classes.Holds := by
  w_on; o_law
  refine HandSHeadRun.head_any (r := OpenLaw.row PySem.Challenge.rw_imagetalk_k00_error_classes) (q := view (OpenLaw.row PySem.Challenge.rw_imagetalk_k00_error_classes).prog [40]) (H := My.hk) (ob := My.ob) (M := 20000) (loose := My.loose) (d := HandSHeadRun.topDef (OpenLaw.row PySem.Challenge.rw_imagetalk_k00_error_classes).prog 40) (kwd := []) My.ob_eq
    (by kernel_rfl) (fun s => by kernel_rfl) My.run (by kernel_rfl) (by kernel_rfl) (by kernel_rfl) (by rfl) (by first | assumption | decide +kernel) (by decide +kernel) ⟨rfl, rfl, rfl, rfl, rfl, by decide +kernel⟩ ?hw ?hc
  case hw => w_witness2
  case hc =>
    refine L2.walk_ofE (l := PySem.Challenge.rw_imagetalk_k00_error_classes) (n := 63) (k := 12) (x := "_law_script") (CX := L2.CX0) rfl (by decide) (by kernel_rfl) ⟨rfl, by decide, by decide⟩ ?F (fun _ _ _ _ z => z)
    intro w mg fa h Y G hmg0
    obtain ⟨K, KX, c⟩ := Y
    have hmg : mg ("law" : PySem.Str) = some (.ref fa) := by
      have e : (HandSHeadRun.topDef (OpenLaw.row PySem.Challenge.rw_imagetalk_k00_error_classes).prog 40).name = ("law" : PySem.Str) := by kernel_rfl
      rw [← e]
      exact hmg0
    obtain ⟨fd, hb, hF⟩ := My.facts (w := w) KX G hmg c
    exact ⟨K, fd, My.spLaw K, KX, hb, fun H a ns hl _ hS => ⟨a, ns, rfl, hS, hl, fun _ => rfl⟩, hF⟩

end
