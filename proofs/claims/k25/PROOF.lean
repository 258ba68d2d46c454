import PyProof.Rows.All
import Wide.All
import OpenK.AllK
import Wide.FinOn
import PySem.Challenge.RW_maypoint_k25_whole_rings_and_orders
import HandS.ForExc
import HandS.ForMost
import HandS.Wide
import HandS.TupAny
import HandS.IsInst
import HandS.Zip
import HandS.Walk
import HandS.Flow
import HandS.Lambda
import HandS.ExcCtx
import KE.KNest
import HandS.TupLe
import HandS.IntHex
import HandS.Style
import HandS.Deep
import HandS.More
import HandS.Base
import HandS.Call
import HandS.SortInts
import HandS.StrMore
import PyProof.Rows.SortShellAny
import PyProof.Rows.StrPadFill
import PyProof.Rows.StrPadWhole
import PyProof.StrOps2
import PyProof.EnumFor
import PyProof.EnumMake
import PyProof.Draws
import PyProof.WalksMore
import KE.DataFind
import HandS.TupSets
import PyProof.SetRoads
import HandS.ExcIs
import KE.KExcIs
import HandS.HotCalls
import HandS.Rev
import KE.SortData
import HandS.WordsDict
import HandS.DictComp
import HandS.MakeKwOnly
import HandS.SortRule
import HandS.EndTab
import KE.KNestM
import HandS.Conv
import HandS.DictTup
import HandS.TupLen
import HandS.NoneIn
import KE.KSortTupAny
import HandS.SetBool
import HandS.Strs
set_option Elab.async false
set_option linter.all false
set_option maxRecDepth 100000
/- words -/
set_option hygiene false
local macro_rules
  | `(tactic| array_get_dec) => `(tactic| ((try dsimp only); (repeat (first | simp  only [rVar, rC, rBin, rUn, rTst, rChn, rTru, rAnd, rOr, rNot, rAndV, rOrV, rNotV, rIf, rNil, rCons, rTup, rLst, rFn, rCall, rCallK, rSl, rPrt, rNoP, rMt, gNm, q_gN, q_gC, q_gTp, q_gTl, q_inI, q_rep, gSb, rNext, rDrop, rRet, rRetN, rBrk, rCnt, rIfS, rSet, rPar, rFor, iSeq, iLst, iRg1, iRg2, iZp, iEn, iStrD, rLc, rYes, q_isi2, q_i2N, q_i2B, q_i2I, q_i2S, q_i2T, q_i2L, q_j2N, q_j2B, q_j2I, q_j2S, q_j2T, q_j2L, q_gt2, q_gtT, q_en, q_int2, q_strD, q_rev, q_ixo, q_ext2, q_extT, q_in, q_ins, q_pop, q_any, En.x, wipeD, start', List.getElem?_cons_zero, List.getElem?_cons_succ, List.set_cons_zero, List.set_cons_succ, List.map_cons, List.map_nil, List.length_cons, List.length_nil, List.cons_append, List.nil_append, List.replicate_succ, List.replicate_zero, id, q_asB, q_asI, q_add, q_addS, q_addT, q_addL, q_int, q_sub, q_mul, q_fdiv, q_mod, q_pow, q_neg, q_le, q_ge, q_gt, q_lt, q_ltT, q_isN, q_isB, q_isBi, q_isBs, q_isBn, q_isBt, q_isnt, n_non, n_bl, n_int, n_str, n_tup, n_ref, q_eq, q_eqS, q_eqB, q_ixT, q_ixK, q_ixL, q_ixS, q_slT, q_slL, q_slS, q_set, q_lenT, q_lenK, q_lenS, q_lenL, q_abs, q_intF, q_max, q_min, q_tupT, q_tupL, q_lstT, q_lstL, q_app, q_ext, q_joinL, q_stw, q_seq, q_lst, q_rng, q_rng2, q_zpT, q_zpL, q_truN, q_truB, q_truI, q_truT, q_truL, t_non, t_bl, t_int, t_str, t_tup, q_isiN, q_isiB, q_isiI, q_isiS, q_isiT, i_NoneType_int, i_NoneType_bool, i_NoneType_tuple, i_NoneType_list, i_NoneType_str, i_bool_int, i_bool_bool, i_bool_tuple, i_bool_list, i_bool_str, i_int_int, i_int_bool, i_int_tuple, i_int_list, i_int_str, i_str_int, i_str_bool, i_str_tuple, i_str_list, i_str_str, i_tuple_int, i_tuple_bool, i_tuple_tuple, i_tuple_list, i_tuple_str, i_list_int, i_list_bool, i_list_tuple, i_list_list, i_list_str, i_dict_int, i_dict_bool, i_dict_tuple, i_dict_list, i_dict_str, up_same, g_02, g_02', g_01, g_11, at_0, at_1, ix_0, ix_1, Option.some.injEq, HQ.lst.injEq, exists_eq_left', exists_eq_left, exists_and_left, exists_eq', exists_eq, decide_eq_true_eq, if_true, if_false, ite_true, ite_false, Bool.false_eq_true, reduceIte, reduceCtorEq, Bool.not_true, Bool.not_false, Nat.zero_add, Nat.reduceAdd, Nat.reduceSub, Nat.reduceLeDiff, Nat.reduceLT, Int.reduceLT, Int.reduceLE, Int.reduceEq, Int.reduceNe, Nat.reduceEqDiff, Int.reduceToNat, Int.reducePow, Int.reduceMul, Int.reduceAdd, Int.reduceSub, Int.reduceNeg, and_true, true_and, decide_true, decide_false, rFld, rSetF, rMet, rMetX, rMake, rBy, Y.rIsE, rCallX, rRaise, rTryAs, rTryOnly, rGd, q_fld, q_sfld, q_met, q_isntB, iEnX, iEn4, e4_t, e4_s, e4_k, e4_r, v_t, v_s, q_lset, q_remD, rNv, a_i, a_s, a_t, a_r, a_k, m_T, m_F, v_r, v_k, lg_r, lg_k, t_t, t_r, t_k, l_t, l_r, l_k, s_t, s_s, s_r, s_k, o_1, j_1, y_1, y_2, y_3, z_tt, z_r, z_k, e_1, k_ii, k_ss, k_bb, k_nn, k_tt, k_r, k_k, n_t, n_r, n_k, u_ii, u_si, lj_1, rLstF, rLcF, rFz, rSlM, iZp3, iEn3, eqvAll_nil, pds_emp, iAny, sq_k, sq_r, ls_t, or_false, false_or, fz_r, fz_k, fz_t, fz_n, fz_b, fz_s, q_lstK, q_truK, t_kl, q_isiK, iRevY, rv_r, rv_k, rv_t, rAug, q_i2K, q_j2K, q_srtB, at_2, at_3, q_strF, rPar3, g_03a, g_03b, g_03c, g_03d, g_03e, g_03f, rSS, rTryL, exL, k_min1, k_ixi, k_tupR, k_lr, q_inTd, k_srtI, k_popT, rMetXK, rKin, rKat, rLockT, rLockTE, rGet1, rGet2, rDel, rPop2, rTNew, iKysT, k_isD, k_keysT, k_lstT, k_lenT, gTk, rLam, rAsk, rCallXK, q_ext3, q_ext3T, q_ext3K, rDc, rDNew, gDk, rLock, rLockE, iKys, iVls, iIts, k_inS, k_inI, k_getS, k_getI, k_setS, k_setI, rMetK, rMakeK, q_srtTx, k_srt, k_len, k_keys, k_vals, k_items] | dsimp only | refine hKN _ _ (rSeq_gen fun KN hKN => ?_) | refine rSeq_gen fun KN hKN => ?_ | refine hKN _ _ ?_))))
local macro_rules
  | `(tactic| sizeOf_list_dec) => `(tactic| (repeat (first | simp  only [rVar, rC, rBin, rUn, rTst, rChn, rTru, rAnd, rOr, rNot, rAndV, rOrV, rNotV, rIf, rNil, rCons, rTup, rLst, rFn, rCall, rCallK, rSl, rPrt, rNoP, rMt, gNm, q_gN, q_gC, q_gTp, q_gTl, q_inI, q_rep, gSb, rNext, rDrop, rRet, rRetN, rBrk, rCnt, rIfS, rSet, rPar, rFor, iSeq, iLst, iRg1, iRg2, iZp, iEn, iStrD, rLc, rYes, q_isi2, q_i2N, q_i2B, q_i2I, q_i2S, q_i2T, q_i2L, q_j2N, q_j2B, q_j2I, q_j2S, q_j2T, q_j2L, q_gt2, q_gtT, q_en, q_int2, q_strD, q_rev, q_ixo, q_ext2, q_extT, q_in, q_ins, q_pop, q_any, En.x, wipeD, start', List.getElem?_cons_zero, List.getElem?_cons_succ, List.set_cons_zero, List.set_cons_succ, List.map_cons, List.map_nil, List.length_cons, List.length_nil, List.cons_append, List.nil_append, List.replicate_succ, List.replicate_zero, id, q_asB, q_asI, q_add, q_addS, q_addT, q_addL, q_int, q_sub, q_mul, q_fdiv, q_mod, q_pow, q_neg, q_le, q_ge, q_gt, q_lt, q_ltT, q_isN, q_isB, q_isBi, q_isBs, q_isBn, q_isBt, q_isnt, n_non, n_bl, n_int, n_str, n_tup, n_ref, q_eq, q_eqS, q_eqB, q_ixT, q_ixK, q_ixL, q_ixS, q_slT, q_slL, q_slS, q_set, q_lenT, q_lenK, q_lenS, q_lenL, q_abs, q_intF, q_max, q_min, q_tupT, q_tupL, q_lstT, q_lstL, q_app, q_ext, q_joinL, q_stw, q_seq, q_lst, q_rng, q_rng2, q_zpT, q_zpL, q_truN, q_truB, q_truI, q_truT, q_truL, t_non, t_bl, t_int, t_str, t_tup, q_isiN, q_isiB, q_isiI, q_isiS, q_isiT, i_NoneType_int, i_NoneType_bool, i_NoneType_tuple, i_NoneType_list, i_NoneType_str, i_bool_int, i_bool_bool, i_bool_tuple, i_bool_list, i_bool_str, i_int_int, i_int_bool, i_int_tuple, i_int_list, i_int_str, i_str_int, i_str_bool, i_str_tuple, i_str_list, i_str_str, i_tuple_int, i_tuple_bool, i_tuple_tuple, i_tuple_list, i_tuple_str, i_list_int, i_list_bool, i_list_tuple, i_list_list, i_list_str, i_dict_int, i_dict_bool, i_dict_tuple, i_dict_list, i_dict_str, up_same, g_02, g_02', g_01, g_11, at_0, at_1, ix_0, ix_1, Option.some.injEq, HQ.lst.injEq, exists_eq_left', exists_eq_left, exists_and_left, exists_eq', exists_eq, decide_eq_true_eq, if_true, if_false, ite_true, ite_false, Bool.false_eq_true, reduceIte, reduceCtorEq, Bool.not_true, Bool.not_false, Nat.zero_add, Nat.reduceAdd, Nat.reduceSub, Nat.reduceLeDiff, Nat.reduceLT, Int.reduceLT, Int.reduceLE, Int.reduceEq, Int.reduceNe, Nat.reduceEqDiff, Int.reduceToNat, Int.reducePow, Int.reduceMul, Int.reduceAdd, Int.reduceSub, Int.reduceNeg, and_true, true_and, decide_true, decide_false, rFld, rSetF, rMet, rMetX, rMake, rBy, Y.rIsE, rCallX, rRaise, rTryAs, rTryOnly, rGd, q_fld, q_sfld, q_met, q_isntB, iEnX, iEn4, e4_t, e4_s, e4_k, e4_r, v_t, v_s, q_lset, q_remD, rNv, a_i, a_s, a_t, a_r, a_k, m_T, m_F, v_r, v_k, lg_r, lg_k, t_t, t_r, t_k, l_t, l_r, l_k, s_t, s_s, s_r, s_k, o_1, j_1, y_1, y_2, y_3, z_tt, z_r, z_k, e_1, k_ii, k_ss, k_bb, k_nn, k_tt, k_r, k_k, n_t, n_r, n_k, u_ii, u_si, lj_1, rLstF, rLcF, rFz, rSlM, iZp3, iEn3, eqvAll_nil, pds_emp, iAny, sq_k, sq_r, ls_t, or_false, false_or, fz_r, fz_k, fz_t, fz_n, fz_b, fz_s, q_lstK, q_truK, t_kl, q_isiK, iRevY, rv_r, rv_k, rv_t, rAug, q_i2K, q_j2K, q_srtB, at_2, at_3, q_strF, rPar3, g_03a, g_03b, g_03c, g_03d, g_03e, g_03f, rSS, rTryL, exL, k_min1, k_ixi, k_tupR, k_lr, q_inTd, k_srtI, k_popT, rMetXK, rKin, rKat, rLockT, rLockTE, rGet1, rGet2, rDel, rPop2, rTNew, iKysT, k_isD, k_keysT, k_lstT, k_lenT, gTk, rLam, rAsk, rCallXK, q_ext3, q_ext3T, q_ext3K, rDc, rDNew, gDk, rLock, rLockE, iKys, iVls, iIts, k_inS, k_inI, k_getS, k_getI, k_setS, k_setI, rMetK, rMakeK, q_srtTx, k_srt, k_len, k_keys, k_vals, k_items] | dsimp only)))
set_option hygiene true
/- end of words -/
namespace Y
open PySem PySem.Spec PyProof.Rows L2

/-! ### data: tuples are values here -/
inductive D where
  | non | bl (b : Bool) | int (i : Int) | str (s : Str) | tup (xs : List D) | ref (a : Addr) | ty (n : String) | kl (xs : List D) | cl (n : String)
/-- what may be written, and the script -/
inductive HQ where
  | lst (xs : List D) | ins (n : String) (fs : List (Str × D)) | dk (kvs : List (Key × D)) | dt (kvs : List (List Key × D)) | fk (o : Obj) (ys : List (Key × V)) (kvs : List (Key × D)) | ft (o : Obj) (ys : List (List Key × V)) (kvs : List (List Key × D)) | exd (fs : List (Str × D)) | tb (q : Str) | co (q : Str) (vs : List (Option V)) (ds : List (Option D))
abbrev Hq := Addr → Option HQ
def up (S : Hq) (a : Addr) (o : HQ) : Hq := fun b => if b = a then some o else S b
theorem up_same {S : Hq} {a : Addr} {o : HQ} : up S a o a = some o := if_pos rfl
theorem up_ne {S : Hq} {a b : Addr} {o : HQ} (h : b ≠ a) : up S a o b = S b := if_neg h

/-- a list that nobody can write: the script -/
def SqF (K : PySem.W.Frag) (H : Hp) (a : Addr) (xs : List V) : Prop :=
  (∃ o, H a = some (.frz o (.lst xs))) ∨
    ∃ (o : Obj) (its : Array Value) (n : Nat), K.lookup a = some o ∧ o.cls = .type "list" ∧ o.dict = none ∧ o.data = .seq its n ∧ its.size ≤ sizeLine ∧ Vals xs its.toList
/-- a tuple; if it is not empty, it stands here as a tuple (so it may be a key) -/
def SqM (K : PySem.W.Frag) (H : Hp) (a : Addr) (xs : List V) : Prop := SqT K H a xs ∧ (xs ≠ [] → H a = some (.tup xs))
theorem SqM.new {K : PySem.W.Frag} {H : Hp} {a : Addr} {xs : List V} (h : H a = some (.tup xs)) : SqM K H a xs := ⟨.inl (.inl h), fun _ => h⟩
instance {K : PySem.W.Frag} {H : Hp} {a : Addr} {xs : List V} : Coe (SqM K H a xs) (SqT K H a xs) := ⟨And.left⟩
theorem SqF.sql {K : PySem.W.Frag} {H : Hp} {a : Addr} {xs : List V} (h : SqF K H a xs) : SqL K H a xs := h.elim (fun h => .inl (.inr h)) .inr
/-- the class of this name stands at C -/
def CN (K : PySem.W.Frag) (n : String) (C : Addr) : Prop := PySem.W.nsIn K mainGlobals (Str.ofString n) = some (some (.ref C))
theorem CN.inj {K : PySem.W.Frag} {n : String} {C C' : Addr} (h : CN K n C) (h' : CN K n C') : C = C' := by unfold CN at h h'; rw [h] at h'; cases h'; rfl
mutual
inductive DV (K : PySem.W.Frag) (H : Hp) : D → V → Prop
  | non : DV K H .non .non
  | bl (b : Bool) : DV K H (.bl b) (.bl b)
  | int (i : Int) : DV K H (.int i) (.int i)
  | str (s : Str) : DV K H (.str s) (.str s)
  | ref (a : Addr) : DV K H (.ref a) (.ref a)
  | ty (n : String) : DV K H (.ty n) (.ty n)
  | tup {a : Addr} {xs : List V} {ds : List D} : SqM K H a xs → DVs K H ds xs → DV K H (.tup ds) (.ref a)
  | kl {a : Addr} {xs : List V} {ds : List D} : SqF K H a xs → DVs K H ds xs → DV K H (.kl ds) (.ref a)
  | cl {n : String} {C : Addr} : CN K n C → DV K H (.cl n) (.ref C)
inductive DVs (K : PySem.W.Frag) (H : Hp) : List D → List V → Prop
  | nil : DVs K H [] []
  | cons {d : D} {v : V} {ds : List D} {vs : List V} : DV K H d v → DVs K H ds vs → DVs K H (d :: ds) (v :: vs)
end
inductive Fls (K : PySem.W.Frag) (H : Hp) : List (Str × D) → List (Str × V) → Prop
  | nil : Fls K H [] []
  | cons {f : Str} {d : D} {v : V} {ds : List (Str × D)} {vs : List (Str × V)} : DV K H d v → Fls K H ds vs → Fls K H ((f, d) :: ds) ((f, v) :: vs)
inductive Dc {κ : Type} (K : PySem.W.Frag) (H : Hp) : List (κ × D) → List (κ × V) → Prop
  | nil : Dc K H [] []
  | cons {k : κ} {d : D} {v : V} {ds : List (κ × D)} {vs : List (κ × V)} : DV K H d v → Dc K H ds vs → Dc K H ((k, d) :: ds) ((k, v) :: vs)

abbrev Sg := List (Option D)
structure RS (K : PySem.W.Frag) (H : Hp) (σ' : Sg) (σ : L2.St) : Prop where
  len : σ'.length = σ.length
  get : ∀ (i : Nat) d, σ'[i]? = some (some d) → ∃ v, σ[i]? = some (some v) ∧ DV K H d v
/-- the name of a lambda that the def x makes -/
def lamN (x : Str) : Str := (x ++ ".<locals>.") ++ "<lambda>"
/-- the codes that the table at a tells bear the name q, and are not tracked -/
def TbS (S : Hq) (H : Hp) (a : Addr) (q : Str) : Prop := ∃ ps : Array Value, H a = some (.tbl ps) ∧ PySem.TriplesOk ps.toList ∧ ∀ (pos : Pos) (cv : Value), PySem.codeAmong pos ps.toList = some cv → ∃ c, cv = .ref c ∧ H c = some (LamX.CodeO c q) ∧ S c = none
def RO (K : PySem.W.Frag) (S : Hq) (H : Hp) (a : Addr) : HQ → Prop
  | .lst ds => ∃ xs, H a = some (.lst xs) ∧ DVs K H ds xs
  | .ins n fs => ∃ C dx ys, CN K n C ∧ H a = some (.ins C dx ys) ∧ Fls K H fs ys
  | .dk kvs => ∃ ys, H a = some (.dK ys) ∧ Dc K H kvs ys
  | .dt kvs => ∃ ys, H a = some (.dT ys) ∧ Dc K H kvs ys
  | .fk o ys kvs => H a = some (.frz o (.dK ys)) ∧ Dc K H kvs ys
  | .ft o ys kvs => H a = some (.frz o (.dT ys)) ∧ Dc K H kvs ys
  | .exd fs => ∃ ys, H a = some (.xd ys) ∧ Fls K H fs ys
  | .tb x => (∃ c, PySem.W.tabIn K x = some (c, a)) ∧ TbS S H a (lamN x)
  | .co q vs ds => H a = some (LamX.CodeO a q) ∧ RS K H ds vs
def RH (K : PySem.W.Frag) (S : Hq) (H : Hp) : Prop := ∀ a o, S a = some o → RO K S H a o
/-- what is tracked below and not here stands as it stood -/
def Fr (S : Hq) (H : Hp) (S' : Hq) (H' : Hp) : Prop := ∀ a o, H a = some o → S a = none → H' a = some o ∧ S' a = none
theorem Fr.refl {S : Hq} {H : Hp} : Fr S H S H := fun _ _ e n => ⟨e, n⟩
theorem Fr.trans {S S1 S2 : Hq} {H H1 H2 : Hp} (x : Fr S H S1 H1) (y : Fr S1 H1 S2 H2) : Fr S H S2 H2 := fun a o e n => y a o (x a o e n).1 (x a o e n).2
structure Tle (K : PySem.W.Frag) (H H' : Hp) : Prop where
  t : ∀ a xs, SqT K H a xs → SqT K H' a xs
  f : ∀ a xs, SqF K H a xs → SqF K H' a xs
  m : ∀ a xs, H a = some (.tup xs) → H' a = some (.tup xs)
theorem Tle.s {K : PySem.W.Frag} {H H' : Hp} (t : Tle K H H') {a : Addr} {xs : List V} (h : SqM K H a xs) : SqM K H' a xs := ⟨t.t _ _ h.1, fun n => t.m _ _ (h.2 n)⟩
theorem Tle.refl {K : PySem.W.Frag} {H : Hp} : Tle K H H := ⟨fun _ _ h => h, fun _ _ h => h, fun _ _ h => h⟩
section
variable {K : PySem.W.Frag} {S S' : Hq} {H H' : Hp} {a : Addr}
theorem Fr.tle (r : RH K S H) (f : Fr S H S' H') : Tle K H H' := by
  have un : ∀ {a : Addr} {o : HO}, H a = some o → (∀ xs, o ≠ .lst xs) → (∀ C d fs, o ≠ .ins C d fs) → (∀ k, o ≠ .dK k) → (∀ k, o ≠ .dT k) → (∀ k, o ≠ .xd k) → (∀ b k, o ≠ .frz b (.dK k)) → (∀ b k, o ≠ .frz b (.dT k)) → (∀ k, o ≠ .tbl k) → (∀ b q, o ≠ LamX.CodeO b q) → S a = none := fun {a o} h n1 n2 n3 n4 n5 n6 n7 n8 n9 => by
    cases e : S a with
    | none => rfl
    | some u =>
      have q := r a u e
      cases u with
      | lst ds => obtain ⟨xs, q, _⟩ := q; rw [h] at q; exact absurd (Option.some.inj q) (n1 _)
      | ins C fs => obtain ⟨_, dx, ys, _, q, _⟩ := q; rw [h] at q; exact absurd (Option.some.inj q) (n2 _ _ _)
      | dk kvs => obtain ⟨ys, q, _⟩ := q; rw [h] at q; exact absurd (Option.some.inj q) (n3 _)
      | dt kvs => obtain ⟨ys, q, _⟩ := q; rw [h] at q; exact absurd (Option.some.inj q) (n4 _)
      | fk b ys kvs => have q := q.1; rw [h] at q; exact absurd (Option.some.inj q) (n6 _ _)
      | ft b ys kvs => have q := q.1; rw [h] at q; exact absurd (Option.some.inj q) (n7 _ _)
      | exd fs => obtain ⟨ys, q, _⟩ := q; rw [h] at q; exact absurd (Option.some.inj q) (n5 _)
      | tb z => obtain ⟨_, ps, q, _⟩ := q; rw [h] at q; exact absurd (Option.some.inj q) (n8 _)
      | co z vs ds => have q := q.1; rw [h] at q; exact absurd (Option.some.inj q) (n9 _ _)
  refine ⟨fun a xs h => ?_, fun a xs h => ?_, fun a xs h => (f a _ h (un h (fun _ z => by cases z) (fun _ _ _ z => by cases z) (fun _ z => by cases z) (fun _ z => by cases z) (fun _ z => by cases z) (fun _ _ z => by cases z) (fun _ _ z => by cases z) (fun _ z => by cases z) (fun _ _ z => by cases z))).1⟩
  · rcases h with (h | ⟨o, h⟩) | h
    · exact .inl (.inl (f a _ h (un h (fun _ z => by cases z) (fun _ _ _ z => by cases z) (fun _ z => by cases z) (fun _ z => by cases z) (fun _ z => by cases z) (fun _ _ z => by cases z) (fun _ _ z => by cases z) (fun _ z => by cases z) (fun _ _ z => by cases z))).1)
    · exact .inl (.inr ⟨o, (f a _ h (un h (fun _ z => by cases z) (fun _ _ _ z => by cases z) (fun _ z => by cases z) (fun _ z => by cases z) (fun _ z => by cases z) (fun _ _ z => by cases z) (fun _ _ z => by cases z) (fun _ z => by cases z) (fun _ _ z => by cases z))).1⟩)
    · exact .inr h
  · rcases h with ⟨o, h⟩ | h
    · exact .inl ⟨o, (f a _ h (un h (fun _ z => by cases z) (fun _ _ _ z => by cases z) (fun _ z => by cases z) (fun _ z => by cases z) (fun _ z => by cases z) (fun _ _ z => by cases z) (fun _ _ z => by cases z) (fun _ z => by cases z) (fun _ _ z => by cases z))).1⟩
    · exact .inr h
mutual
theorem DV.mono (t : Tle K H H') : ∀ (d : D) (v : V), DV K H d v → DV K H' d v
  | .non, _, h => by cases h; exact .non
  | .bl _, _, h => by cases h; exact .bl _
  | .int _, _, h => by cases h; exact .int _
  | .str _, _, h => by cases h; exact .str _
  | .ref _, _, h => by cases h; exact .ref _
  | .ty _, _, h => by cases h; exact .ty _
  | .tup ds, _, h => by cases h with | tup s r => exact .tup (t.s s) (DVs.mono t ds _ r)
  | .kl ds, _, h => by cases h with | kl s r => exact .kl (t.f _ _ s) (DVs.mono t ds _ r)
  | .cl n, _, h => by cases h with | cl c => exact .cl c
theorem DVs.mono (t : Tle K H H') : ∀ (ds : List D) (vs : List V), DVs K H ds vs → DVs K H' ds vs
  | [], _, h => by cases h; exact .nil
  | d :: ds, _, h => by cases h with | cons x r => exact .cons (DV.mono t d _ x) (DVs.mono t ds _ r)
end

theorem Fls.mono (t : Tle K H H') : ∀ {ds : List (Str × D)} {vs : List (Str × V)}, Fls K H ds vs → Fls K H' ds vs
  | _, _, .nil => .nil
  | _, _, .cons x r => .cons (DV.mono t _ _ x) (Fls.mono t r)
theorem Dc.mono {κ : Type} (t : Tle K H H') : ∀ {ds : List (κ × D)} {vs : List (κ × V)}, Dc K H ds vs → Dc K H' ds vs
  | _, _, .nil => .nil
  | _, _, .cons x r => .cons (DV.mono t _ _ x) (Dc.mono t r)
theorem RS.mono (t : Tle K H H') {σ' : Sg} {σ : L2.St} (x : RS K H σ' σ) : RS K H' σ' σ :=
  ⟨x.len, fun i d e => let ⟨v, q, r⟩ := x.get i d e; ⟨v, q, DV.mono t _ _ r⟩⟩
theorem RO.stay (t : Tle K H H') (f : ∀ c q, H c = some (LamX.CodeO c q) → S c = none → H' c = some (LamX.CodeO c q) ∧ S' c = none) {o : HQ} (x : RO K S H a o) (e : H' a = H a) : RO K S' H' a o := by
  cases o with
  | lst ds => obtain ⟨xs, q, r⟩ := x; exact ⟨xs, e.trans q, DVs.mono t _ _ r⟩
  | ins n fs => obtain ⟨C, dx, ys, c, q, r⟩ := x; exact ⟨C, dx, ys, c, e.trans q, r.mono t⟩
  | dk kvs => obtain ⟨ys, q, r⟩ := x; exact ⟨ys, e.trans q, r.mono t⟩
  | dt kvs => obtain ⟨ys, q, r⟩ := x; exact ⟨ys, e.trans q, r.mono t⟩
  | fk b ys kvs => exact ⟨e.trans x.1, x.2.mono t⟩
  | ft b ys kvs => exact ⟨e.trans x.1, x.2.mono t⟩
  | exd fs => obtain ⟨ys, q, r⟩ := x; exact ⟨ys, e.trans q, r.mono t⟩
  | tb z =>
    obtain ⟨h0, ps, q, h1, h2⟩ := x
    refine ⟨h0, ps, e.trans q, h1, fun pos cv h => ?_⟩
    obtain ⟨c, e1, e2, e3⟩ := h2 pos cv h
    exact ⟨c, e1, (f c _ e2 e3).1, (f c _ e2 e3).2⟩
  | co z vs ds => exact ⟨e.trans x.1, x.2.mono t⟩
theorem RS.set {σ' : Sg} {σ : L2.St} (x : RS K H σ' σ) {d : D} {v : V} (r : DV K H d v) (i : Nat) : RS K H (σ'.set i (some d)) (σ.set i (some v)) := by
  refine ⟨by simp [x.len], fun j e h => ?_⟩
  by_cases c : i = j
  · subst c
    by_cases hi : i < σ'.length
    · rw [List.getElem?_set_self hi] at h
      cases h
      exact ⟨v, by rw [List.getElem?_set_self (by rw [← x.len]; exact hi)], r⟩
    · rw [List.getElem?_eq_none (by simpa using hi)] at h
      cases h
  · rw [List.getElem?_set_ne c] at h
    obtain ⟨w, q, r'⟩ := x.get j e h
    exact ⟨w, by rw [List.getElem?_set_ne c]; exact q, r'⟩
theorem RH.fresh (r : RH K S H) (h : H a = none) : S a = none := by
  cases e : S a with
  | none => rfl
  | some o =>
    have q := r a o e
    cases o with
    | lst ds => obtain ⟨xs, q, _⟩ := q; rw [h] at q; cases q
    | ins n fs => obtain ⟨_, dx, ys, _, q, _⟩ := q; rw [h] at q; cases q
    | dk kvs => obtain ⟨ys, q, _⟩ := q; rw [h] at q; cases q
    | dt kvs => obtain ⟨ys, q, _⟩ := q; rw [h] at q; cases q
    | fk b ys kvs => have q := q.1; rw [h] at q; cases q
    | ft b ys kvs => have q := q.1; rw [h] at q; cases q
    | exd fs => obtain ⟨ys, q, _⟩ := q; rw [h] at q; cases q
    | tb z => obtain ⟨_, ps, q, _⟩ := q; rw [h] at q; cases q
    | co z vs ds => have q := q.1; rw [h] at q; cases q
/-- a new thing below that is not tracked here -/
theorem Fr.new (r : RH K S H) {o : HO} (h : H a = none) : Fr S H S (upd H a o) := fun b u e n => ⟨by rw [upd_ne (ne_of_none e h)]; exact e, n⟩
theorem RH.new (r : RH K S H) {o : HO} (h : H a = none) : RH K S (upd H a o) := fun b u e => by
  have hb : b ≠ a := fun z => by rw [z, r.fresh h] at e; cases e
  exact (r b u e).stay ((Fr.new r h).tle r) (fun c q => Fr.new r h c _) (upd_ne hb)
/-- a new thing, tracked here too -/
theorem Fr.new2 (r : RH K S H) {o : HO} {q : HQ} (h : H a = none) : Fr S H (up S a q) (upd H a o) := fun b u e n =>
  have hb : b ≠ a := ne_of_none e h
  ⟨by rw [upd_ne hb]; exact e, by rw [up_ne hb]; exact n⟩
theorem RH.new2 (r : RH K S H) {o : HO} {q : HQ} (h : H a = none) (ok : RO K (up S a q) (upd H a o) a q) : RH K (up S a q) (upd H a o) := fun b u e => by
  by_cases hb : b = a
  · subst hb; rw [up_same] at e; cases e; exact ok
  · rw [up_ne hb] at e
    exact (r b u e).stay ((Fr.new r h).tle r) (fun c q => Fr.new2 r h c _) (upd_ne hb)
/-- a tracked thing is written -/
theorem Fr.put {o : HO} {q u : HQ} (h : S a = some u) : Fr S H (up S a q) (upd H a o) := fun b v e n =>
  have hb : b ≠ a := fun z => by rw [z, h] at n; cases n
  ⟨by rw [upd_ne hb]; exact e, by rw [up_ne hb]; exact n⟩
theorem RH.put (r : RH K S H) {o : HO} {q u : HQ} (h : S a = some u) (ok : RO K (up S a q) (upd H a o) a q) : RH K (up S a q) (upd H a o) := fun b v e => by
  by_cases hb : b = a
  · subst hb; rw [up_same] at e; cases e; exact ok
  · rw [up_ne hb] at e
    exact (r b v e).stay ((Fr.put (q := q) h).tle r) (fun c z => Fr.put h c _) (upd_ne hb)
theorem RH.putTle (r : RH K S H) {o : HO} {u : HQ} (h : S a = some u) : Tle K H (upd H a o) := (Fr.put (q := u) h).tle r
theorem DVs.length : ∀ {ds : List D} {vs : List V}, DVs K H ds vs → ds.length = vs.length
  | _, _, .nil => rfl
  | _, _, .cons _ r => congrArg (· + 1) (DVs.length r)
theorem DVs.app : ∀ {ds es : List D} {vs ws : List V}, DVs K H ds vs → DVs K H es ws → DVs K H (ds ++ es) (vs ++ ws)
  | _, _, _, _, .nil, s => s
  | _, _, _, _, .cons x r, s => .cons x (DVs.app r s)
theorem DVs.get : ∀ {ds : List D} {vs : List V} {i : Nat} {d : D}, DVs K H ds vs → ds[i]? = some d → ∃ v, vs[i]? = some v ∧ DV K H d v
  | _, _, _, _, .nil, e => by simp at e
  | _, _, 0, _, .cons x r, e => by simp at e; subst e; exact ⟨_, rfl, x⟩
  | _, _, i + 1, _, .cons x r, e => by
    rw [List.getElem?_cons_succ] at e ⊢
    exact DVs.get r e
theorem DVs.set : ∀ {ds : List D} {vs : List V} {d : D} {v : V} (i : Nat), DVs K H ds vs → DV K H d v → DVs K H (ds.set i d) (vs.set i v)
  | _, _, _, _, _, .nil, _ => .nil
  | _, _, _, _, 0, .cons x r, y => .cons y r
  | _, _, _, _, i + 1, .cons x r, y => .cons x (DVs.set i r y)
theorem DVs.drop : ∀ {ds : List D} {vs : List V} (i : Nat), DVs K H ds vs → DVs K H (ds.drop i) (vs.drop i)
  | _, _, 0, r => r
  | _, _, _ + 1, .nil => .nil
  | _, _, i + 1, .cons _ r => DVs.drop i r
theorem DVs.take : ∀ {ds : List D} {vs : List V} (i : Nat), DVs K H ds vs → DVs K H (ds.take i) (vs.take i)
  | _, _, 0, _ => .nil
  | _, _, _ + 1, .nil => .nil
  | _, _, i + 1, .cons x r => .cons x (DVs.take i r)
end

/-! ### the judgements -/
abbrev Qv := D → Hq → Prop
abbrev Xw := String → List (Str × D) → Hq → Prop
abbrev RE := Sg → Hq → Qv → Xw → Prop
abbrev RT := Sg → Hq → (Bool → Hq → Prop) → Xw → Prop
abbrev RA := Sg → Hq → (List D → Hq → Prop) → Xw → Prop
structure En where
  nx : Sg → Hq → Prop
  rt : Qv
  bk : Sg → Hq → Prop := fun _ _ => False
  ct : Sg → Hq → Prop := fun _ _ => False
  ex : String → List (Str × D) → Sg → Hq → Prop := fun _ _ _ _ => False
abbrev RSt := En → Sg → Hq → Prop
def XOk (K : PySem.W.Frag) (H : Hp) (d : Addr) (fs : List (Str × D)) : Prop := ∃ ys, H d = some (.xd ys) ∧ Fls K H fs ys
/-- what follows here gives what follows below -/
def QI (K : PySem.W.Frag) (S : Hq) (H : Hp) (Q' : Qv) (Q : VK) : Prop := ∀ d S' v H', Fr S H S' H' → RH K S' H' → DV K H' d v → Q' d S' → Q v H'
def QT (K : PySem.W.Frag) (S : Hq) (H : Hp) (Q' : Bool → Hq → Prop) (Q : Bool → Hp → Prop) : Prop := ∀ b S' H', Fr S H S' H' → RH K S' H' → Q' b S' → Q b H'
def QA (K : PySem.W.Frag) (S : Hq) (H : Hp) (Q' : List D → Hq → Prop) (Q : List V → Hp → Prop) : Prop := ∀ d S' v H', Fr S H S' H' → RH K S' H' → DVs K H' d v → Q' d S' → Q v H'
/-- the error's own dict is a new one -/
def Nw (S : Hq) (H : Hp) (S' : Hq) (d : Addr) : Prop := (∀ o, H d = some o → S d ≠ none) ∧ S' d = none
theorem Nw.go {S S1 S2 : Hq} {H H1 : Hp} {d : Addr} (f : Fr S H S1 H1) (n : Nw S1 H1 S2 d) : Nw S H S2 d := ⟨fun o e z => n.1 o (f d o e z).1 (f d o e z).2, n.2⟩
def XI (K : PySem.W.Frag) (S : Hq) (H : Hp) (E' : Xw) (E : XK) : Prop := ∀ n C fs S' H' d, CN K n C → Fr S H S' H' → RH K S' H' → XOk K H' d fs → Nw S H S' d → E' n fs S' → E (.ref C) (some d) H'
def SI (K : PySem.W.Frag) (S : Hq) (H : Hp) (N' : Sg → Hq → Prop) (N : L2.St → Hp → Prop) : Prop := ∀ σ' S' σ H', Fr S H S' H' → RH K S' H' → RS K H' σ' σ → N' σ' S' → N σ H'
structure DI (K : PySem.W.Frag) (W : WX) (S : Hq) (H : Hp) (D' : En) (D : Ends) : Prop where
  nx : SI K S H D'.nx D.nx
  rt : QI K S H D'.rt D.rt
  bk : SI K S H D'.bk D.bk
  ct : SI K S H D'.ct D.ct
  ex : ∀ n C fs σ' S' σ H' d, CN K n C → Fr S H S' H' → RH K S' H' → RS K H' σ' σ → XOk K H' d fs → Nw S H S' d → D'.ex n fs σ' S' → W (.ref C) (some d) σ H'
section
variable {K : PySem.W.Frag} {S S' : Hq} {H H' : Hp} {W : WX}
theorem QI.go {Q' : Qv} {Q : VK} (x : QI K S H Q' Q) (f : Fr S H S' H') : QI K S' H' Q' Q := fun d S2 v H2 f2 => x d S2 v H2 (f.trans f2)
theorem QT.go {Q' : Bool → Hq → Prop} {Q : Bool → Hp → Prop} (x : QT K S H Q' Q) (f : Fr S H S' H') : QT K S' H' Q' Q := fun d S2 H2 f2 => x d S2 H2 (f.trans f2)
theorem QA.go {Q' : List D → Hq → Prop} {Q : List V → Hp → Prop} (x : QA K S H Q' Q) (f : Fr S H S' H') : QA K S' H' Q' Q := fun d S2 v H2 f2 => x d S2 v H2 (f.trans f2)
theorem XI.go {E' : Xw} {E : XK} (x : XI K S H E' E) (f : Fr S H S' H') : XI K S' H' E' E := fun n C fs S2 H2 d c f2 rh ok nw => x n C fs S2 H2 d c (f.trans f2) rh ok (nw.go f)
theorem SI.go {N' : Sg → Hq → Prop} {N : L2.St → Hp → Prop} (x : SI K S H N' N) (f : Fr S H S' H') : SI K S' H' N' N := fun σ' S2 σ H2 f2 => x σ' S2 σ H2 (f.trans f2)
theorem DI.go {D' : En} {D : Ends} (x : DI K W S H D' D) (f : Fr S H S' H') : DI K W S' H' D' D :=
  ⟨x.nx.go f, x.rt.go f, x.bk.go f, x.ct.go f, fun n C fs σ' S2 σ H2 d c f2 rh rs ok nw => x.ex n C fs σ' S2 σ H2 d c (f.trans f2) rh rs ok (nw.go f)⟩
end
abbrev wx (W : WX) (σ : L2.St) : XK := fun c d H => W c d σ H
structure EV (X : Cx) (W : WX) (e : Expr) (t : RE) : Prop where
  ex : ∃ T, PE X e T ∧ ∀ (σ : L2.St) (σ' : Sg) (H : Hp) (S : Hq) (Q : VK) (Q' : Qv) (E' : Xw), RS X.K H σ' σ → RH X.K S H → t σ' S Q' E' → QI X.K S H Q' Q → XI X.K S H E' (wx W σ) → T σ H Q
structure ET (X : Cx) (W : WX) (e : Expr) (t : RT) : Prop where
  ex : ∃ T, PT X e T ∧ ∀ (σ : L2.St) (σ' : Sg) (H : Hp) (S : Hq) (Q : Bool → Hp → Prop) (Q' : Bool → Hq → Prop) (E' : Xw), RS X.K H σ' σ → RH X.K S H → t σ' S Q' E' → QT X.K S H Q' Q → XI X.K S H E' (wx W σ) → T σ H Q
structure EW (X : Cx) (W : WX) (e : Expr) (t : RT) : Prop where
  ex : ∃ T, PW X e T ∧ ∀ (σ : L2.St) (σ' : Sg) (H : Hp) (S : Hq) (Q : Bool → Hp → Prop) (Q' : Bool → Hq → Prop) (E' : Xw), RS X.K H σ' σ → RH X.K S H → t σ' S Q' E' → QT X.K S H Q' Q → XI X.K S H E' (wx W σ) → T σ H Q
structure EA (X : Cx) (W : WX) (es : List Expr) (t : RA) : Prop where
  ex : ∃ T, PA X es T ∧ ∀ (σ : L2.St) (σ' : Sg) (H : Hp) (S : Hq) (Q : List V → Hp → Prop) (Q' : List D → Hq → Prop) (E' : Xw), RS X.K H σ' σ → RH X.K S H → t σ' S Q' E' → QA X.K S H Q' Q → XI X.K S H E' (wx W σ) → T σ H Q
structure ES (X : Cx) (W : WX) (st : Stmt) (t : RSt) : Prop where
  ex : ∃ T, PS X st T ∧ ∀ (σ : L2.St) (σ' : Sg) (H : Hp) (S : Hq) (D : Ends) (D' : En), RS X.K H σ' σ → RH X.K S H → t D' σ' S → DI X.K W S H D' D → T D σ H
structure EB (X : Cx) (W : WX) (st : List Stmt) (t : RSt) : Prop where
  ex : ∃ T, PSs X st T ∧ ∀ (σ : L2.St) (σ' : Sg) (H : Hp) (S : Hq) (D : Ends) (D' : En), RS X.K H σ' σ → RH X.K S H → t D' σ' S → DI X.K W S H D' D → T D σ H
end Y
namespace Y
open PySem PySem.Spec PyProof.Rows L2
abbrev R2q := D → D → Hq → Qv → Prop
theorem big_le {n : Nat} (h : n ≤ 1000000) : n ≤ sizeLine := Nat.le_trans h (by rw [sizeLine_eq]; decide)
theorem big_lt {n : Nat} (h : n < 1000000) : n < sizeLine := Nat.lt_of_lt_of_le h (by rw [sizeLine_eq]; decide)
abbrev LsR (S : Hq) (a : Addr) (xs : List D) : Prop := S a = some (.lst xs)
section
variable {K : PySem.W.Frag} {S : Hq} {H : Hp} {Q' : Qv} {Q : VK} {d : D} {v : V} {p a : Addr} {ds es : List D} {xs : List V}
theorem QI.here (q : QI K S H Q' Q) (r : RH K S H) (x : DV K H d v) (h : Q' d S) : Q v H := q d S v H Fr.refl r x h
theorem QI.newL (q : QI K S H Q' Q) (r : RH K S H) (hp : H p = none) (x : DVs K H ds xs) (h : Q' (.ref p) (up S p (.lst ds))) : Q (.ref p) (upd H p (.lst xs)) :=
  q _ _ _ _ (Fr.new2 r hp) (r.new2 (q := .lst ds) hp ⟨xs, upd_same, DVs.mono ((Fr.new r hp).tle r) _ _ x⟩) (.ref p) h
theorem QI.newT (q : QI K S H Q' Q) (r : RH K S H) (hp : H p = none) (x : DVs K H ds xs) (h : Q' (.tup ds) S) : Q (.ref p) (upd H p (.tup xs)) :=
  q _ _ _ _ (Fr.new r hp) (r.new hp) (.tup (.new upd_same) (DVs.mono ((Fr.new r hp).tle r) _ _ x)) h
theorem QI.putL (q : QI K S H Q' Q) (r : RH K S H) {es : List D} (hp : S p = some (.lst es)) (x : DVs K H ds xs) (y : DV K H d v) (h : Q' d (up S p (.lst ds))) : Q v (upd H p (.lst xs)) :=
  have t : Tle K H (upd H p (.lst xs)) := r.putTle hp
  q _ _ _ _ (Fr.put hp) (r.put (q := .lst ds) hp ⟨xs, upd_same, DVs.mono t _ _ x⟩) (DV.mono t _ _ y) h
theorem RH.sql (r : RH K S H) (h : LsR S a ds) : ∃ xs, SqL K H a xs ∧ DVs K H ds xs := by
  obtain ⟨xs, e, x⟩ := r a _ h; exact ⟨xs, .inl (.inl e), x⟩
theorem RH.lst (r : RH K S H) (h : S a = some (.lst ds)) : ∃ xs, H a = some (.lst xs) ∧ DVs K H ds xs := r a _ h
end
theorem opr_or {X : Cx} {f : Value → Value → Sem Value} {r r' : R2} (h : OpR X f r) (h' : OpR X f r') : OpR X f (fun x y H Q => r x y H Q ∨ r' x y H Q) := by
  intro pins s σ H x y v u Q I rx ry q
  rcases q with q | q
  · exact h pins s σ H x y v u Q I rx ry q
  · exact h' pins s σ H x y v u Q I rx ry q
theorem callr_or {X : Cx} {f : Value} {r r' : List V → Hp → VK → Prop} (h : CallR X f r) (h' : CallR X f r') : CallR X f (fun xs H Q => r xs H Q ∨ r' xs H Q) := by
  intro pins s σ H xs us Q I rx q
  rcases q with q | q
  · exact h pins s σ H xs us Q I rx q
  · exact h' pins s σ H xs us Q I rx q
def Lift2 (K : PySem.W.Frag) (f : R2q) (r : R2) : Prop := ∀ x y S H Q' Q v u, RH K S H → DV K H x v → DV K H y u → f x y S Q' → QI K S H Q' Q → r v u H Q

/-! ### names, constants -/
def asB (x : D) (f : Bool → Prop) : Prop := match x with | .bl k => f k | _ => False
def asI (x : D) (f : Int → Prop) : Prop := match x with | .int k => f k | _ => False
def rVar (i : Nat) : RE := fun σ S Q _ => match σ[i]? with | some (some d) => Q d S | _ => False
def rC (d : D) : RE := fun _ S Q _ => Q d S
def rBin (f : R2q) (ra rb : RE) : RE := fun σ S Q E => ra σ S (fun x S1 => rb σ S1 (fun y S2 => f x y S2 Q) E) E
def rUn (f : D → Hq → Qv → Prop) (ra : RE) : RE := fun σ S Q E => ra σ S (fun x S1 => f x S1 Q) E
section
variable {X : Cx} {W : WX} {a b c : Expr} {ra rb rc : RE} {pos : Pos}
theorem ev_var (i : Nat) {x : Str} (hN : X.N[i]? = some x := by rfl) (hv : Vis X.env.scope x := by first | exact Or.inl rfl | exact Or.inr (Or.inl rfl) | exact Or.inr (Or.inr rfl)) (hd : (x == ("__debug__" : Str)) = false := by decide)
    (hcd : (x == ("__classdict__" : Str)) = false := by decide) : EV X W (.Name x pos) (rVar i) := by
  refine ⟨_, pe_var hN hv hd hcd, fun σ σ' H S Q Q' E' rs rh h q _ => ?_⟩
  unfold rVar at h
  split at h
  · rename_i d e
    obtain ⟨v, e', r⟩ := rs.get i d e
    exact ⟨v, e', q.here rh r h⟩
  · exact h.elim
theorem ev_int {i : Int} {j} : EV X W (.Constant (.int i) j pos) (rC (.int i)) := ⟨_, pe_int, fun σ σ' H S Q Q' E' rs rh h q _ => q.here rh (.int i) h⟩
theorem ev_bl {i : Bool} {j} : EV X W (.Constant (.bool i) j pos) (rC (.bl i)) := ⟨_, pe_bl, fun σ σ' H S Q Q' E' rs rh h q _ => q.here rh (.bl i) h⟩
theorem ev_non {j} : EV X W (.Constant .none j pos) (rC .non) := ⟨_, pe_non, fun σ σ' H S Q Q' E' rs rh h q _ => q.here rh .non h⟩
theorem ev_str {i : Str} {j} : EV X W (.Constant (.str i) j pos) (rC (.str i)) := ⟨_, pe_str, fun σ σ' H S Q Q' E' rs rh h q _ => q.here rh (.str i) h⟩
/-- a module's constant -/
theorem ev_glob {x : Str} {d : D} {v : V} {u : Value} (hg : Gl X x) (hm : X.mg x = some u) (r : RelV v u) (dv : ∀ H, DV X.K H d v) (hd : (x == ("__debug__" : Str)) = false := by decide) : EV X W (.Name x pos) (rC d) :=
  ⟨_, pe_glob hg hm r hd, fun σ σ' H S Q Q' E' rs rh h q _ => q.here rh (dv H) h⟩
theorem ev_bin {op : Operator} {f : R2q} {r : R2} (ho : OpR X (binaryOp op) r) (hl : Lift2 X.K f r) (ha : EV X W a ra) (hb : EV X W b rb) : EV X W (.BinOp a op b pos) (rBin f ra rb) := by
  obtain ⟨Ta, pa, la⟩ := ha.ex
  obtain ⟨Tb, pb, lb⟩ := hb.ex
  refine ⟨_, pe_op ho pa pb, fun σ σ' H S Q Q' E' rs rh h q xi => ?_⟩
  refine la σ σ' H S _ _ E' rs rh h (fun d S1 v H1 f1 rh1 dv h1 => ?_) xi
  refine lb σ σ' H1 S1 _ _ E' (rs.mono (f1.tle rh)) rh1 h1 (fun e S2 u H2 f2 rh2 du h2 => ?_) (xi.go f1)
  exact hl _ _ _ _ _ _ _ _ rh2 (DV.mono (f2.tle rh1) _ _ dv) du h2 (q.go (f1.trans f2))
theorem ev_cmp {op : CmpOp} {f : R2q} {r : R2} (ho : OpR X (compareOp op) r) (hl : Lift2 X.K f r) (ha : EV X W a ra) (hb : EV X W b rb) (hm : behindInMarks op b = false := by first | rfl | exact nomark _) : EV X W (.Compare a [op] [b] pos) (rBin f ra rb) := by
  obtain ⟨Ta, pa, la⟩ := ha.ex
  obtain ⟨Tb, pb, lb⟩ := hb.ex
  refine ⟨_, pe_cmpR ho pa pb hm, fun σ σ' H S Q Q' E' rs rh h q xi => ?_⟩
  refine la σ σ' H S _ _ E' rs rh h (fun d S1 v H1 f1 rh1 dv h1 => ?_) xi
  refine lb σ σ' H1 S1 _ _ E' (rs.mono (f1.tle rh)) rh1 h1 (fun e S2 u H2 f2 rh2 du h2 => ?_) (xi.go f1)
  exact hl _ _ _ _ _ _ _ _ rh2 (DV.mono (f2.tle rh1) _ _ dv) du h2 (q.go (f1.trans f2))
/-- a test: the value must be a bool -/
def rTst (r : RE) : RT := fun σ S Q E => r σ S (fun x S1 => asB x fun k => Q k S1) E
theorem et_cmp {op : CmpOp} {f : R2q} {r : R2} (ho : OpR X (compareOp op) r) (hl : Lift2 X.K f r) (ha : EV X W a ra) (hb : EV X W b rb) (hm : behindInMarks op b = false := by first | rfl | exact nomark _) : ET X W (.Compare a [op] [b] pos) (rTst (rBin f ra rb)) := by
  obtain ⟨Ta, pa, la⟩ := ha.ex
  obtain ⟨Tb, pb, lb⟩ := hb.ex
  refine ⟨_, pt_cmpR ho pa pb hm, fun σ σ' H S Q Q' E' rs rh h q xi => ?_⟩
  refine la σ σ' H S _ _ E' rs rh h (fun d S1 v H1 f1 rh1 dv h1 => ?_) xi
  refine lb σ σ' H1 S1 _ _ E' (rs.mono (f1.tle rh)) rh1 h1 (fun e S2 u H2 f2 rh2 du h2 => ?_) (xi.go f1)
  refine hl _ _ _ _ _ _ _ _ rh2 (DV.mono (f2.tle rh1) _ _ dv) du h2 fun z S3 w H3 f3 rh3 dz h3 => ?_
  cases z <;> try exact h3.elim
  cases dz
  exact ⟨_, rfl, q _ _ _ ((f1.trans f2).trans f3) rh3 h3⟩
def rChn (f f' : R2q) (ra rb rc : RE) : RE := fun σ S Q E => ra σ S (fun x S1 => rb σ S1 (fun y S2 => f x y S2 (fun z S3 => asB z fun k => if k = true then rc σ S3 (fun w S4 => f' y w S4 Q) E else Q (.bl false) S3)) E) E
theorem ev_chn {op op' : CmpOp} {f f' : R2q} {r r' : R2} (ho : OpR X (compareOp op) r) (hl : Lift2 X.K f r) (ho' : OpR X (compareOp op') r') (hl' : Lift2 X.K f' r') (ha : EV X W a ra) (hb : EV X W b rb) (hc : EV X W c rc)
    (hm : lastMarks [op, op'] [b, c] = false := by with_unfolding_all rfl) : EV X W (.Compare a [op, op'] [b, c] pos) (rChn f f' ra rb rc) := by
  obtain ⟨Ta, pa, la⟩ := ha.ex
  obtain ⟨Tb, pb, lb⟩ := hb.ex
  obtain ⟨Tc, pc, lc⟩ := hc.ex
  refine ⟨_, pe_chain ho ho' pa pb pc hm, fun σ σ' H S Q Q' E' rs rh h q xi => ?_⟩
  refine la σ σ' H S _ _ E' rs rh h (fun d S1 v H1 f1 rh1 dv h1 => ?_) xi
  refine lb σ σ' H1 S1 _ _ E' (rs.mono (f1.tle rh)) rh1 h1 (fun e S2 u H2 f2 rh2 du h2 => ?_) (xi.go f1)
  refine hl _ _ _ _ _ _ _ _ rh2 (DV.mono (f2.tle rh1) _ _ dv) du h2 fun z S3 w H3 f3 rh3 dz h3 => ?_
  cases z <;> try exact h3.elim
  rename_i k
  cases dz
  refine ⟨k, rfl, ?_⟩
  have f03 := (f1.trans f2).trans f3
  cases k with
  | false => exact q _ _ _ _ f03 rh3 (.bl false) h3
  | true =>
    refine lc σ σ' H3 S3 _ _ E' (rs.mono (f03.tle rh)) rh3 h3 (fun e4 S4 u4 H4 f4 rh4 du4 h4 => ?_) (xi.go f03)
    exact hl' _ _ _ _ _ _ _ _ rh4 (DV.mono ((f3.trans f4).tle rh2) _ _ du) du4 h4 (q.go (f03.trans f4))
theorem et_chn {op op' : CmpOp} {f f' : R2q} {r r' : R2} (ho : OpR X (compareOp op) r) (hl : Lift2 X.K f r) (ho' : OpR X (compareOp op') r') (hl' : Lift2 X.K f' r') (ha : EV X W a ra) (hb : EV X W b rb) (hc : EV X W c rc)
    (hm : lastMarks [op, op'] [b, c] = false := by with_unfolding_all rfl) : ET X W (.Compare a [op, op'] [b, c] pos) (rTst (rChn f f' ra rb rc)) := by
  obtain ⟨Ta, pa, la⟩ := ha.ex
  obtain ⟨Tb, pb, lb⟩ := hb.ex
  obtain ⟨Tc, pc, lc⟩ := hc.ex
  refine ⟨_, pt_chain ho ho' pa pb pc hm, fun σ σ' H S Q Q' E' rs rh h q xi => ?_⟩
  refine la σ σ' H S _ _ E' rs rh h (fun d S1 v H1 f1 rh1 dv h1 => ?_) xi
  refine lb σ σ' H1 S1 _ _ E' (rs.mono (f1.tle rh)) rh1 h1 (fun e S2 u H2 f2 rh2 du h2 => ?_) (xi.go f1)
  refine hl _ _ _ _ _ _ _ _ rh2 (DV.mono (f2.tle rh1) _ _ dv) du h2 fun z S3 w H3 f3 rh3 dz h3 => ?_
  cases z <;> try exact h3.elim
  rename_i k
  cases dz
  refine ⟨k, rfl, ?_⟩
  have f03 := (f1.trans f2).trans f3
  cases k with
  | false => exact ⟨_, rfl, q _ _ _ f03 rh3 h3⟩
  | true =>
    refine lc σ σ' H3 S3 _ _ E' (rs.mono (f03.tle rh)) rh3 h3 (fun e4 S4 u4 H4 f4 rh4 du4 h4 => ?_) (xi.go f03)
    refine hl' _ _ _ _ _ _ _ _ rh4 (DV.mono ((f3.trans f4).tle rh2) _ _ du) du4 h4 fun z5 S5 w5 H5 f5 rh5 dz5 h5 => ?_
    cases z5 <;> try exact h5.elim
    cases dz5
    exact ⟨_, rfl, q _ _ _ ((f03.trans f4).trans f5) rh5 h5⟩
theorem et_val {r : RE} (h : EV X W a r) (he : ∀ whole, isTrue a X.env whole = (do let v ← whole; standAt a.pos; holding [v] (truthy v)) := by intro _; rfl) : ET X W a (rTst r) := by
  obtain ⟨T, p, l⟩ := h.ex
  refine ⟨_, pt_val p he, fun σ σ' H S Q Q' E' rs rh h q xi => ?_⟩
  refine l σ σ' H S _ _ E' rs rh h (fun d S1 v H1 f1 rh1 dv h1 => ?_) xi
  cases d <;> try exact h1.elim
  cases dv
  exact ⟨_, rfl, q _ _ _ f1 rh1 h1⟩
/-- truth of any value -/
def truD (x : D) (S : Hq) (Q : Bool → Prop) : Prop := match x with
  | .non => Q false | .bl b => Q b | .int i => Q (i != 0)
  | .str y => y.length ≤ 1000000 ∧ Q ((y.length : Int) != 0)
  | .tup xs => Q (!xs.isEmpty)
  | .ref a => ∃ xs, LsR S a xs ∧ Q (!xs.isEmpty)
  | .kl xs => Q (!xs.isEmpty)
  | _ => False
def rTru (r : RE) : RT := fun σ S Q E => r σ S (fun x S1 => truD x S1 (fun k => Q k S1)) E
theorem DVs.emp {K : PySem.W.Frag} {H : Hp} {ds : List D} {vs : List V} (x : DVs K H ds vs) : ds.isEmpty = vs.isEmpty := by cases x <;> rfl
theorem et_tru {r : RE} (h : EV X W a r) (he : ∀ whole, isTrue a X.env whole = (do let v ← whole; standAt a.pos; holding [v] (truthy v)) := by intro _; rfl) : ET X W a (rTru r) := by
  obtain ⟨T, p, l⟩ := h.ex
  refine ⟨_, pt_truth p he, fun σ σ' H S Q Q' E' rs rh h q xi => ?_⟩
  refine l σ σ' H S _ _ E' rs rh h (fun d S1 v H1 f1 rh1 dv h1 => ?_) xi
  cases d with
  | non => cases dv; exact ⟨_, rfl, q _ _ _ f1 rh1 h1⟩
  | bl => cases dv; exact ⟨_, rfl, q _ _ _ f1 rh1 h1⟩
  | int => cases dv; exact ⟨_, rfl, q _ _ _ f1 rh1 h1⟩
  | str => cases dv; exact ⟨_, ⟨big_le h1.1, rfl⟩, q _ _ _ f1 rh1 h1.2⟩
  | tup ds => cases dv with | tup s r => exact ⟨_, .inr (.inl ⟨_, s, rfl⟩), q _ _ _ f1 rh1 (by rw [← r.emp]; exact h1)⟩
  | kl ds => cases dv with | kl s r => exact ⟨_, .inl ⟨_, s.sql, rfl⟩, q _ _ _ f1 rh1 (by rw [← r.emp]; exact h1)⟩
  | ref b =>
    cases dv
    obtain ⟨xs, e, h1⟩ := h1
    obtain ⟨ys, s, r⟩ := rh1.sql e
    exact ⟨_, .inl ⟨ys, s, rfl⟩, q _ _ _ f1 rh1 (by rw [← r.emp]; exact h1)⟩
  | ty => exact h1.elim
  | cl => exact h1.elim

/-! ### and, or, not -/
variable {rest : List Expr} {ta tb : RT}
def rAnd (t u : RT) : RT := fun σ S Q E => t σ S (fun c S1 => if c = true then u σ S1 Q E else Q false S1) E
def rOr (t u : RT) : RT := fun σ S Q E => t σ S (fun c S1 => if c = true then Q true S1 else u σ S1 Q E) E
def rNot (t : RT) : RT := fun σ S Q E => t σ S (fun c S1 => Q (!c) S1) E
theorem ew_and1 (h : ET X W a ta) : EW X W (.BoolOp .And [a] pos) ta := let ⟨T, p, l⟩ := h.ex; ⟨T, pw_and1 p, l⟩
theorem ew_or1 (h : ET X W a ta) : EW X W (.BoolOp .Or [a] pos) ta := let ⟨T, p, l⟩ := h.ex; ⟨T, pw_or1 p, l⟩
theorem ew_and (ha : ET X W a ta) (hb : EW X W (.BoolOp .And (b :: rest) pos) tb) : EW X W (.BoolOp .And (a :: b :: rest) pos) (rAnd ta tb) := by
  obtain ⟨Ta, pa, la⟩ := ha.ex
  obtain ⟨Tb, pb, lb⟩ := hb.ex
  refine ⟨_, pw_and pa pb, fun σ σ' H S Q Q' E' rs rh h q xi => ?_⟩
  refine la σ σ' H S _ _ E' rs rh h (fun d S1 H1 f1 rh1 h1 => ?_) xi
  cases d with
  | true => exact lb σ σ' H1 S1 _ _ E' (rs.mono (f1.tle rh)) rh1 h1 (q.go f1) (xi.go f1)
  | false => exact q _ _ _ f1 rh1 h1
theorem ew_or (ha : ET X W a ta) (hb : EW X W (.BoolOp .Or (b :: rest) pos) tb) : EW X W (.BoolOp .Or (a :: b :: rest) pos) (rOr ta tb) := by
  obtain ⟨Ta, pa, la⟩ := ha.ex
  obtain ⟨Tb, pb, lb⟩ := hb.ex
  refine ⟨_, pw_or pa pb, fun σ σ' H S Q Q' E' rs rh h q xi => ?_⟩
  refine la σ σ' H S _ _ E' rs rh h (fun d S1 H1 f1 rh1 h1 => ?_) xi
  cases d with
  | false => exact lb σ σ' H1 S1 _ _ E' (rs.mono (f1.tle rh)) rh1 h1 (q.go f1) (xi.go f1)
  | true => exact q _ _ _ f1 rh1 h1
theorem et_ew (h : EW X W a ta) : ET X W a ta := let ⟨T, p, l⟩ := h.ex; ⟨T, p.pt, l⟩
theorem et_not (ha : ET X W a ta) : ET X W (.UnaryOp .Not a pos) (rNot ta) := by
  obtain ⟨Ta, pa, la⟩ := ha.ex
  exact ⟨_, pt_not pa, fun σ σ' H S Q Q' E' rs rh h q xi => la σ σ' H S _ _ E' rs rh h (fun d S1 H1 f1 rh1 h1 => q _ _ _ f1 rh1 h1) xi⟩
/-- .. as values -/
def rAndV (t u : RE) : RE := fun σ S Q E => t σ S (fun x S1 => asB x fun c => if c = true then u σ S1 Q E else Q (.bl false) S1) E
def rOrV (t u : RE) : RE := fun σ S Q E => t σ S (fun x S1 => asB x fun c => if c = true then Q (.bl true) S1 else u σ S1 Q E) E
def rNotV (t : RE) : RE := fun σ S Q E => t σ S (fun x S1 => asB x fun c => Q (.bl (!c)) S1) E
theorem ev_one {op} (h : EV X W a ra) : EV X W (.BoolOp op [a] pos) ra := let ⟨T, p, l⟩ := h.ex; ⟨T, pe_one p, l⟩
theorem ev_and (ha : EV X W a ra) (hb : EV X W (.BoolOp .And (b :: rest) pos) rb) : EV X W (.BoolOp .And (a :: b :: rest) pos) (rAndV ra rb) := by
  obtain ⟨Ta, pa, la⟩ := ha.ex
  obtain ⟨Tb, pb, lb⟩ := hb.ex
  refine ⟨_, pe_and pa pb, fun σ σ' H S Q Q' E' rs rh h q xi => ?_⟩
  refine la σ σ' H S _ _ E' rs rh h (fun d S1 v H1 f1 rh1 dv h1 => ?_) xi
  cases d <;> try exact h1.elim
  rename_i k
  cases dv
  refine ⟨k, rfl, ?_⟩
  cases k with
  | true => exact lb σ σ' H1 S1 _ _ E' (rs.mono (f1.tle rh)) rh1 h1 (q.go f1) (xi.go f1)
  | false => exact q _ _ _ _ f1 rh1 (.bl false) h1
theorem ev_or (ha : EV X W a ra) (hb : EV X W (.BoolOp .Or (b :: rest) pos) rb) : EV X W (.BoolOp .Or (a :: b :: rest) pos) (rOrV ra rb) := by
  obtain ⟨Ta, pa, la⟩ := ha.ex
  obtain ⟨Tb, pb, lb⟩ := hb.ex
  refine ⟨_, pe_or pa pb, fun σ σ' H S Q Q' E' rs rh h q xi => ?_⟩
  refine la σ σ' H S _ _ E' rs rh h (fun d S1 v H1 f1 rh1 dv h1 => ?_) xi
  cases d <;> try exact h1.elim
  rename_i k
  cases dv
  refine ⟨k, rfl, ?_⟩
  cases k with
  | false => exact lb σ σ' H1 S1 _ _ E' (rs.mono (f1.tle rh)) rh1 h1 (q.go f1) (xi.go f1)
  | true => exact q _ _ _ _ f1 rh1 (.bl true) h1
theorem ev_not (ha : EV X W a ra) : EV X W (.UnaryOp .Not a pos) (rNotV ra) := by
  obtain ⟨Ta, pa, la⟩ := ha.ex
  refine ⟨_, L2.pe_not pa, fun σ σ' H S Q Q' E' rs rh h q xi => ?_⟩
  refine la σ σ' H S _ _ E' rs rh h (fun d S1 v H1 f1 rh1 dv h1 => ?_) xi
  cases d <;> try exact h1.elim
  cases dv
  exact ⟨_, rfl, q _ _ _ _ f1 rh1 (.bl _) h1⟩
def rIf (t : RT) (ra rb : RE) : RE := fun σ S Q E => t σ S (fun c S1 => if c = true then ra σ S1 Q E else rb σ S1 Q E) E
theorem ev_if (hc : ET X W c ta) (ha : EV X W a ra) (hb : EV X W b rb) : EV X W (.IfExp c a b pos) (rIf ta ra rb) := by
  obtain ⟨Tc, pc, lc⟩ := hc.ex
  obtain ⟨Ta, pa, la⟩ := ha.ex
  obtain ⟨Tb, pb, lb⟩ := hb.ex
  refine ⟨_, pe_ifExp pc pa pb, fun σ σ' H S Q Q' E' rs rh h q xi => ?_⟩
  refine lc σ σ' H S _ _ E' rs rh h (fun d S1 H1 f1 rh1 h1 => ?_) xi
  cases d with
  | true => exact la σ σ' H1 S1 _ _ E' (rs.mono (f1.tle rh)) rh1 h1 (q.go f1) (xi.go f1)
  | false => exact lb σ σ' H1 S1 _ _ E' (rs.mono (f1.tle rh)) rh1 h1 (q.go f1) (xi.go f1)

/-! ### rows of arguments, displays -/
variable {es : List Expr} {rs' : RA}
def rNil : RA := fun _ S Q _ => Q [] S
def rCons (ra : RE) (rr : RA) : RA := fun σ S Q E => ra σ S (fun x S1 => rr σ S1 (fun xs S2 => Q (x :: xs) S2) E) E
theorem ea_nil : EA X W [] rNil := ⟨_, pa_nil, fun σ σ' H S Q Q' E' rs rh h q xi => q _ _ _ _ Fr.refl rh .nil h⟩
theorem ea_cons (ha : EV X W a ra) (hr : EA X W es rs') (hs : starEach (a :: es) X.env = (false, eval a X.env) :: starEach es X.env := by rfl) : EA X W (a :: es) (rCons ra rs') := by
  obtain ⟨Ta, pa, la⟩ := ha.ex
  obtain ⟨Tr, pr, lr⟩ := hr.ex
  refine ⟨_, pa_cons pa pr hs, fun σ σ' H S Q Q' E' rs rh h q xi => ?_⟩
  refine la σ σ' H S _ _ E' rs rh h (fun d S1 v H1 f1 rh1 dv h1 => ?_) xi
  refine lr σ σ' H1 S1 _ _ E' (rs.mono (f1.tle rh)) rh1 h1 (fun e S2 u H2 f2 rh2 du h2 => ?_) (xi.go f1)
  exact q _ _ _ _ (f1.trans f2) rh2 (.cons (DV.mono (f2.tle rh1) _ _ dv) du) h2
def rTup (r : RA) : RE := fun σ S Q E => r σ S (fun xs S1 => xs.length ≤ 1000000 ∧ Q (.tup xs) S1) E
def rLst (r : RA) : RE := fun σ S Q E => r σ S (fun xs S1 => xs.length ≤ 1000000 ∧ ∀ p, S1 p = none → Q (.ref p) (up S1 p (.lst xs))) E
theorem ev_tup {k} (h : EA X W es rs') : EV X W (.Tuple es k pos) (rTup rs') := by
  obtain ⟨T, p, l⟩ := h.ex
  refine ⟨_, pe_tup p, fun σ σ' H S Q Q' E' rs rh h q xi => ?_⟩
  refine l σ σ' H S _ _ E' rs rh h (fun d S1 v H1 f1 rh1 dv h1 => ⟨by rw [← dv.length]; exact big_le h1.1, fun p hp => ?_⟩) xi
  exact (q.go f1).newT rh1 hp dv h1.2
theorem ev_lst (h : EA X W es rs') : EV X W (.List es pos) (rLst rs') := by
  obtain ⟨T, p, l⟩ := h.ex
  refine ⟨_, pe_lst p, fun σ σ' H S Q Q' E' rs rh h q xi => ?_⟩
  refine l σ σ' H S _ _ E' rs rh h (fun d S1 v H1 f1 rh1 dv h1 => ⟨by rw [← dv.length]; exact big_le h1.1, fun p hp => ?_⟩) xi
  exact (q.go f1).newL rh1 hp dv (h1.2 p (rh1.fresh hp))
end
end Y
namespace Y
open PySem PySem.Spec PyProof.Rows L2

/-! ### operators, by what their sides are -/
def addD : R2q := fun x y S Q => match x, y with
  | .int i, .int j => Q (.int (i + j)) S
  | .str a, .str b => a.length + b.length ≤ 1000000 ∧ Q (.str (a ++ b)) S
  | .tup xs, .tup ys => xs.length + ys.length ≤ 1000000 ∧ Q (.tup (xs ++ ys)) S
  | .ref a, .ref b => ∃ xs ys, S a = some (.lst xs) ∧ S b = some (.lst ys) ∧ xs.length + ys.length ≤ 1000000 ∧ ∀ p, S p = none → Q (.ref p) (up S p (.lst (xs ++ ys)))
  | _, _ => False
def intD (C : Int → Int → Prop) (g : Int → Int → D) : R2q := fun x y S Q => match x, y with
  | .int i, .int j => C i j ∧ Q (g i j) S
  | _, _ => False
def CDiv' (_ j : Int) : Prop := 0 < j ∧ j < 2 ^ 64
def CMul' (i j : Int) : Prop := (-(2 ^ 64) < i ∧ i < 2 ^ 64) ∨ (-(2 ^ 64) < j ∧ j < 2 ^ 64)
def CPow' (i j : Int) : Prop := 0 ≤ j ∧ j ≤ 1000000 ∧ -(2 ^ 32) < i ∧ i < 2 ^ 32
def subD : R2q := fun x y S Q => match x, y with | .int i, .int j => Q (.int (i - j)) S | _, _ => False
def mulD : R2q := intD CMul' fun i j => .int (i * j)
def fdivD : R2q := intD CDiv' fun i j => .int (i / j)
def modD : R2q := intD (fun _ j => 0 < j) fun i j => .int (i % j)
def powD : R2q := intD CPow' fun i j => .int (i ^ j.toNat)
def andD : R2q := intD (fun _ _ => True) fun i j => .int (Builtin.bitAnd i j)
theorem CDiv'.ok {i j : Int} (h : CDiv' i j) : CDivW i j := wide_div (b := 64) h.1 (by have := h.1; have := h.2; omega) (by decide) (by decide)
theorem CPow'.ok {i j : Int} (h : CPow' i j) : CPow i j := ⟨h.1, h.2.1, by have := h.2.2.1; have := h.2.2.2; omega⟩
section
variable {X : Cx} {K : PySem.W.Frag}
theorem op_addU : OpR X (binaryOp .Add) (fun x y H Q => (rI0 (fun i j => .int (i + j)) x y H Q) ∨ (∃ i j, x = .str i ∧ y = .str j ∧ i.length + j.length ≤ sizeLine ∧ Q (.str (i ++ j)) H) ∨ rCatA X.K x y H Q ∨ rCat x y H Q) :=
  opr_or op_add (opr_or op_add_str (opr_or op_catA op_cat))
theorem lf_add : Lift2 X.K addD (fun x y H Q => (rI0 (fun i j => .int (i + j)) x y H Q) ∨ (∃ i j, x = .str i ∧ y = .str j ∧ i.length + j.length ≤ sizeLine ∧ Q (.str (i ++ j)) H) ∨ rCatA X.K x y H Q ∨ rCat x y H Q) := by
  intro x y S H Q' Q v u rh dx dy h q
  cases x <;> cases y <;> try exact h.elim
  · cases dx; cases dy; exact .inl ⟨_, _, rfl, rfl, q.here rh (.int _) h⟩
  · cases dx; cases dy; exact .inr (.inl ⟨_, _, rfl, rfl, big_le h.1, q.here rh (.str _) h.2⟩)
  · rename_i xs ys
    cases dx with | tup s1 r1 =>
    cases dy with | tup s2 r2 =>
    refine .inr (.inr (.inl ⟨_, _, _, _, rfl, rfl, s1.1, s2.1, by rw [← r1.length, ← r2.length]; exact big_le h.1, fun e => ?_, fun n e => ?_, fun n m p hp => ?_⟩))
    · subst e; cases r1; exact q.here rh (.tup s2 r2) h.2
    · subst e; cases r2; exact q.here rh (.tup s1 r1) (by have := h.2; rw [List.append_nil] at this; exact this)
    · exact q.newT rh hp (r1.app r2) h.2
  · cases dx; cases dy
    obtain ⟨xs, ys, e1, e2, hz, h⟩ := h
    obtain ⟨vs, g1, r1⟩ := rh.lst e1
    obtain ⟨us, g2, r2⟩ := rh.lst e2
    exact .inr (.inr (.inr ⟨_, _, _, _, rfl, rfl, g1, g2, by rw [← r1.length, ← r2.length]; exact big_le hz, fun p hp => q.newL rh hp (r1.app r2) (h p (rh.fresh hp))⟩))
theorem lf_int {C C' : Int → Int → Prop} {g : Int → Int → D} {g' : Int → Int → V} (hc : ∀ i j, C i j → C' i j) (hg : ∀ H i j, DV K H (g i j) (g' i j)) : Lift2 K (intD C g) (rI C' g') := by
  intro x y S H Q' Q v u rh dx dy h q
  cases x <;> cases y <;> try exact h.elim
  cases dx; cases dy
  exact ⟨_, _, rfl, rfl, hc _ _ h.1, q.here rh (hg _ _ _) h.2⟩
theorem lf_int0 {f : R2q} {g : Int → Int → D} {g' : Int → Int → V} (hf : ∀ x y S Q, f x y S Q → ∃ i j, x = .int i ∧ y = .int j ∧ Q (g i j) S) (hg : ∀ H i j, DV K H (g i j) (g' i j)) : Lift2 K f (rI0 g') := by
  intro x y S H Q' Q v u rh dx dy h q
  obtain ⟨i, j, rfl, rfl, h'⟩ := hf x y S Q' h
  clear h
  cases dx; cases dy
  exact ⟨_, _, rfl, rfl, q.here rh (hg _ _ _) h'⟩
theorem lf_sub : Lift2 K subD (rI0 fun i j => .int (i - j)) := lf_int0 (g := fun i j => .int (i - j)) (fun x y S Q h => by cases x <;> cases y <;> first | exact h.elim | exact ⟨_, _, rfl, rfl, h⟩) fun _ _ _ => .int _
theorem lf_mul : Lift2 K mulD (rI CMul fun i j => .int (i * j)) := lf_int (fun _ _ h => h) fun _ _ _ => .int _
theorem lf_fdiv : Lift2 K fdivD (rI CDivW fun i j => .int (i / j)) := lf_int (fun _ _ h => h.ok) fun _ _ _ => .int _
theorem lf_mod : Lift2 K modD (rI (fun _ j => 0 < j) fun i j => .int (i % j)) := lf_int (fun _ _ h => h) fun _ _ _ => .int _
theorem lf_pow : Lift2 K powD (rI CPow fun i j => .int (i ^ j.toNat)) := lf_int (fun _ _ h => h.ok) fun _ _ _ => .int _
theorem lf_and : Lift2 K andD (rI0 fun i j => .int (Builtin.bitAnd i j)) := lf_int0 (g := fun i j => .int (Builtin.bitAnd i j)) (fun x y S Q h => by cases x <;> cases y <;> first | exact h.elim | exact ⟨_, _, rfl, rfl, h.2⟩) fun _ _ _ => .int _
end
/-! ### comparisons -/
def leD : R2q := fun x y S Q => match x, y with | .int i, .int j => Q (.bl (decide (i ≤ j))) S | _, _ => False
def geD : R2q := fun x y S Q => match x, y with | .int i, .int j => Q (.bl (decide (j ≤ i))) S | _, _ => False
def gtD : R2q := fun x y S Q => match x, y with | .int i, .int j => Q (.bl (decide (j < i))) S | _, _ => False
def ltD : R2q := fun x y S Q => match x, y with
  | .int i, .int j => Q (.bl (decide (i < j))) S
  | .tup xs, .tup ys => ∃ ns ms, xs = ns.map D.int ∧ ys = ms.map D.int ∧ Q (.bl (HT.lexLt ns ms)) S
  | _, _ => False
def isN : D → Bool | .non => true | _ => false
def isD : R2q := fun x y S Q => match y with
  | .non => Q (.bl (isN x)) S
  | .bl b => match x with
    | .bl a => Q (.bl (decide (a = b))) S
    | .ty _ => False
    | _ => Q (.bl false) S
  | _ => False
def isntD : R2q := fun x y S Q => isD x y S (fun z S1 => asB z fun b => Q (.bl (!b)) S1)
mutual
def pd : D → PyData
  | .non => .none | .bl b => .bool b | .int i => .int i | .str s => .str s | .tup xs => .tuple (pds xs) | .ref _ => .none | .ty _ => .none | .kl xs => .list (pds xs) | .cl _ => .none
def pds : List D → List PyData
  | [] => []
  | d :: ds => pd d :: pds ds
end
mutual
def pur : D → Bool
  | .tup xs => purs xs | .ref _ => false | .ty _ => false | .kl xs => purs xs | .cl _ => false | _ => true
def purs : List D → Bool
  | [] => true
  | d :: ds => pur d && purs ds
end
def okE (d : D) : Prop := pur d = true ∧ SeqAt.shaped (pd d) = true
/-- == of what is no tuple and no list, at once -/
def eqS : D → D → Option Bool
  | .non, .non => some true | .non, .int _ => some false | .int _, .non => some false | .non, .bl _ => some false | .bl _, .non => some false | .non, .str _ => some false | .str _, .non => some false
  | .int i, .int j => some (decide (i = j)) | .bl i, .bl j => some (decide (i = j)) | .str i, .str j => some (decide (i = j))
  | .int _, .str _ => some false | .str _, .int _ => some false | .bl _, .str _ => some false | .str _, .bl _ => some false
  | _, _ => none
def eqD (g : Bool → Bool) : R2q := fun x y S Q => match eqS x y with
  | some b => Q (.bl (g b)) S
  | none => match x, y with
    | .ref a, .ref b => ∃ xs ys, LsR S a xs ∧ LsR S b ys ∧ okE (.tup xs) ∧ okE (.tup ys) ∧ Q (.bl (g (PyData.eqvAll (pds xs) (pds ys)))) S
    | _, _ => okE x ∧ okE y ∧ Q (.bl (g (PyData.eqv (pd x) (pd y)))) S
section
variable {X : Cx} {K : PySem.W.Frag} {H : Hp}
mutual
theorem DV.dp : ∀ (d : D) (v : V), pur d = true → DV K H d v → Dp K H v (pd d)
  | .non, _, _, h => by cases h; exact .non
  | .bl _, _, _, h => by cases h; exact .bl _
  | .int _, _, _, h => by cases h; exact .int _
  | .str _, _, _, h => by cases h; exact .str _
  | .ref _, _, p, _ => by simp [pur] at p
  | .ty _, _, p, _ => by simp [pur] at p
  | .kl ds, _, p, h => by cases h with | kl s r => exact .lst s.sql (DVs.dp ds _ (by simpa [pur] using p) r)
  | .cl _, _, p, _ => by simp [pur] at p
  | .tup ds, _, p, h => by cases h with | tup s r => exact .tup s (DVs.dp ds _ (by simpa [pur] using p) r)
theorem DVs.dp : ∀ (ds : List D) (vs : List V), purs ds = true → DVs K H ds vs → DpAll K H vs (pds ds)
  | [], _, _, h => by cases h; exact .nil
  | d :: ds, _, p, h => by
    cases h with | cons x r =>
    rw [purs, Bool.and_eq_true] at p
    exact .cons (DV.dp d _ p.1 x) (DVs.dp ds _ p.2 r)
end
def rEqU (K : PySem.W.Frag) : R2 := fun x y H Q => rEq x y H Q ∨ rEqD K x y H Q
def rNeU (K : PySem.W.Frag) : R2 := fun x y H Q => rNe x y H Q ∨ rNeD K x y H Q
theorem op_eqU (hu : X.A.units + 64 < cLine) : OpR X (compareOp .Eq) (rEqU X.K) := opr_or op_eq (op_eqD hu)
theorem op_neU (hu : X.A.units + 64 < cLine) : OpR X (compareOp .NotEq) (rNeU X.K) := opr_or op_ne (op_neD hu)
theorem eqS_of {x y : D} {v u : V} {b : Bool} (e : eqS x y = some b) (dx : DV K H x v) (dy : DV K H y u) : scal v u = true ∧ decide (v = u) = b := by
  cases x <;> cases y <;> simp [eqS] at e <;> cases dx <;> cases dy <;> subst e <;> refine ⟨rfl, ?_⟩ <;> simp
theorem shaped_list {ds : List PyData} : SeqAt.shaped (.list ds) = SeqAt.shaped (.tuple ds) := by
  unfold SeqAt.shaped
  have e1 : PyData.canLay0 (.list ds) = PyData.canLay0 (.tuple ds) := by simp [PyData.canLay0]
  have e2 : PyData.depth (.list ds) = PyData.depth (.tuple ds) := by simp [PyData.depth]
  rw [e1, e2]
theorem lf_eq : Lift2 K (eqD id) (rEqU K) := by
  intro x y S H Q' Q v u rh dx dy h q
  unfold eqD at h
  split at h
  · rename_i b e
    obtain ⟨s, d⟩ := eqS_of e dx dy
    exact .inl ⟨s, by rw [d]; exact q.here rh (.bl _) h⟩
  · split at h
    · cases dx; cases dy
      obtain ⟨xs, ys, e1, e2, ⟨p1, s1⟩, ⟨p2, s2⟩, h⟩ := h
      obtain ⟨vs, g1, r1⟩ := rh.sql e1
      obtain ⟨us, g2, r2⟩ := rh.sql e2
      refine .inr ⟨.list (pds xs), .list (pds ys), .lst g1 (DVs.dp _ _ (by simpa [pur] using p1) r1), .lst g2 (DVs.dp _ _ (by simpa [pur] using p2) r2), ?_, ?_, ?_⟩
      · rw [shaped_list]; simpa [pd] using s1
      · rw [shaped_list]; simpa [pd] using s2
      · exact q.here rh (.bl _) (by simpa [PyData.eqv] using h)
    · obtain ⟨⟨p1, s1⟩, ⟨p2, s2⟩, h⟩ := h
      exact .inr ⟨_, _, DV.dp _ _ p1 dx, DV.dp _ _ p2 dy, s1, s2, q.here rh (.bl _) h⟩
theorem lf_ne : Lift2 K (eqD not) (rNeU K) := by
  intro x y S H Q' Q v u rh dx dy h q
  unfold eqD at h
  split at h
  · rename_i b e
    obtain ⟨s, d⟩ := eqS_of e dx dy
    exact .inl ⟨s, by rw [d]; exact q.here rh (.bl _) h⟩
  · split at h
    · cases dx; cases dy
      obtain ⟨xs, ys, e1, e2, ⟨p1, s1⟩, ⟨p2, s2⟩, h⟩ := h
      obtain ⟨vs, g1, r1⟩ := rh.sql e1
      obtain ⟨us, g2, r2⟩ := rh.sql e2
      refine .inr ⟨.list (pds xs), .list (pds ys), .lst g1 (DVs.dp _ _ (by simpa [pur] using p1) r1), .lst g2 (DVs.dp _ _ (by simpa [pur] using p2) r2), ?_, ?_, ?_⟩
      · rw [shaped_list]; simpa [pd] using s1
      · rw [shaped_list]; simpa [pd] using s2
      · exact q.here rh (.bl _) (by simpa [PyData.eqv] using h)
    · obtain ⟨⟨p1, s1⟩, ⟨p2, s2⟩, h⟩ := h
      exact .inr ⟨_, _, DV.dp _ _ p1 dx, DV.dp _ _ p2 dy, s1, s2, q.here rh (.bl _) h⟩
theorem lf_le : Lift2 K leD (rI0 fun i j => .bl (decide (i ≤ j))) := lf_int0 (g := fun i j => .bl (decide (i ≤ j))) (fun x y S Q h => by cases x <;> cases y <;> first | exact h.elim | exact ⟨_, _, rfl, rfl, h⟩) fun _ _ _ => .bl _
theorem lf_ge : Lift2 K geD (rI0 fun i j => .bl (decide (j ≤ i))) := lf_int0 (g := fun i j => .bl (decide (j ≤ i))) (fun x y S Q h => by cases x <;> cases y <;> first | exact h.elim | exact ⟨_, _, rfl, rfl, h⟩) fun _ _ _ => .bl _
theorem lf_gt : Lift2 K gtD (rI0 fun i j => .bl (decide (j < i))) := lf_int0 (g := fun i j => .bl (decide (j < i))) (fun x y S Q h => by cases x <;> cases y <;> first | exact h.elim | exact ⟨_, _, rfl, rfl, h⟩) fun _ _ _ => .bl _
theorem DVs.ints : ∀ {ns : List Int} {vs : List V}, DVs K H (ns.map D.int) vs → vs = ns.map V.int
  | [], _, .nil => rfl
  | _ :: _, _, .cons x r => by cases x; rw [DVs.ints r]; rfl
theorem DVs.ofInts : ∀ {ns : List Int}, DVs K H (ns.map D.int) (ns.map V.int)
  | [] => .nil
  | _ :: _ => .cons (.int _) DVs.ofInts
def rLtU (K : PySem.W.Frag) : R2 := fun x y H Q => rI0 (fun i j => .bl (decide (i < j))) x y H Q ∨ rLtT K x y H Q
theorem op_ltU (hu : X.A.units < cLine) : OpR X (compareOp .Lt) (rLtU X.K) := opr_or op_lt (op_ltT hu)
theorem lf_lt : Lift2 K ltD (rLtU K) := by
  intro x y S H Q' Q v u rh dx dy h q
  cases x <;> cases y <;> try exact h.elim
  · cases dx; cases dy; exact .inl ⟨_, _, rfl, rfl, q.here rh (.bl _) h⟩
  · obtain ⟨ns, ms, rfl, rfl, h⟩ := h
    cases dx with | tup s1 r1 =>
    cases dy with | tup s2 r2 =>
    rw [r1.ints] at s1
    rw [r2.ints] at s2
    exact .inr ⟨_, _, ns, ms, rfl, rfl, s1, s2, q.here rh (.bl _) h⟩
/-- is None, is True, is False -/
def rIsU : R2 := fun x y H Q => (y = .non ∧ Q (.bl (decide (x = .non))) H) ∨ ∃ b, y = .bl b ∧ (∀ n, x ≠ .ty n) ∧ Q (.bl (decide (x = .bl b))) H
def rIsntU : R2 := fun x y H Q => (y = .non ∧ Q (.bl (!decide (x = .non))) H) ∨ ∃ b, y = .bl b ∧ (∀ n, x ≠ .ty n) ∧ Q (.bl (!decide (x = .bl b))) H
theorem is_bl_any {x : V} {v : Value} {b : Bool} (r : RelV x v) (n : ∀ n, x ≠ .ty n) : plainIs v (.bool b) = true ∧ (v == Value.bool b) = decide (x = .bl b) := by
  cases x with
  | non => cases r; exact ⟨rfl, rfl⟩
  | bl a => cases r; refine ⟨rfl, ?_⟩; cases a <;> cases b <;> rfl
  | int _ => obtain ⟨t, rfl⟩ := r; exact ⟨rfl, rfl⟩
  | str _ => obtain ⟨t, rfl⟩ := r; exact ⟨rfl, rfl⟩
  | byt _ => obtain ⟨t, rfl⟩ := r; exact ⟨rfl, rfl⟩
  | flt _ => obtain ⟨t, rfl⟩ := r; exact ⟨rfl, rfl⟩
  | ref _ => cases r; exact ⟨rfl, rfl⟩
  | ty m => exact absurd rfl (n m)
theorem op_isU : OpR X (compareOp .Is) rIsU := by
  intro pins s σ H x y v u Q I rx ry h
  rcases h with h | ⟨b, rfl, n, h⟩
  · exact op_isN pins s σ H x y v u Q I rx ry h
  · cases ry
    obtain ⟨p, e⟩ := is_bl_any (b := b) rx n
    exact wpAny_is_plain p (fin_bl I h e.symm)
theorem op_isntU : OpR X (compareOp .IsNot) rIsntU := by
  intro pins s σ H x y v u Q I rx ry h
  rcases h with h | ⟨b, rfl, n, h⟩
  · exact op_notN pins s σ H x y v u Q I rx ry h
  · cases ry
    obtain ⟨p, e⟩ := is_bl_any (b := b) rx n
    exact wpAny_isNot_plain p (fin_bl I h (by rw [e]))
theorem isN_of {d : D} {v : V} (h : DV K H d v) : decide (v = .non) = isN d := by cases h <;> rfl
theorem lf_is : Lift2 K isD rIsU := by
  intro x y S H Q' Q v u rh dx dy h q
  cases y with
  | non => cases dy; exact .inl ⟨rfl, by rw [isN_of dx]; exact q.here rh (.bl _) h⟩
  | bl b =>
    cases dy
    refine .inr ⟨b, rfl, fun n e => ?_, ?_⟩
    · subst e; cases dx; exact h.elim
    · have e : ∀ a : Bool, decide (V.bl a = V.bl b) = decide (a = b) := fun a => by simp
      cases dx <;> first | exact h.elim | exact q.here rh (.bl _) h | (rw [e]; exact q.here rh (.bl _) h)
  | _ => exact h.elim
theorem lf_isnt : Lift2 K isntD rIsntU := by
  intro x y S H Q' Q v u rh dx dy h q
  cases y with
  | non => cases dy; exact .inl ⟨rfl, by rw [isN_of dx]; exact q.here rh (.bl _) h⟩
  | bl b =>
    cases dy
    refine .inr ⟨b, rfl, fun n e => ?_, ?_⟩
    · subst e; cases dx; exact h.elim
    · have e : ∀ a : Bool, decide (V.bl a = V.bl b) = decide (a = b) := fun a => by simp
      cases dx <;> first | exact h.elim | exact q.here rh (.bl _) h | (rw [e]; exact q.here rh (.bl _) h)
  | _ => exact h.elim
end
/-! ### items, slices -/
def ixD : R2q := fun x y S Q => match x, y with
  | .tup xs, .int i => ∃ d, atI xs i = some d ∧ Q d S
  | .kl xs, .int i => ∃ d, atI xs i = some d ∧ Q d S
  | .ref a, .int i => ∃ xs d, LsR S a xs ∧ atI xs i = some d ∧ Q d S
  | .str z, .int i => ∃ c, z.length ≤ 1000000 ∧ atI z.cps.toList i = some c ∧ Q (.str ⟨#[c]⟩) S
  | _, _ => False
def cutL {α : Type} (xs : List α) (lo hi : Option Int) : List α := (xs.drop (HT.sIx xs.length 0 lo)).take (HT.sIx xs.length xs.length hi - HT.sIx xs.length 0 lo)
def slD (x : D) (lo hi : Option Int) (S : Hq) (Q : Qv) : Prop := match x with
  | .tup xs => Q (.tup (cutL xs lo hi)) S
  | .ref a => ∃ xs, LsR S a xs ∧ ∀ p, S p = none → Q (.ref p) (up S p (.lst (cutL xs lo hi)))
  | .str z => z.length ≤ 1000000 ∧ Q (.str (cutS z lo hi)) S
  | _ => False
section
variable {X : Cx} {K : PySem.W.Frag} {H : Hp} {W : WX} {a b : Expr} {ra rb : RE} {pos p2 : Pos}
theorem DVs.atI {ds : List D} {vs : List V} {i : Int} {d : D} (r : DVs K H ds vs) (e : atI ds i = some d) : ∃ v, atI vs i = some v ∧ DV K H d v := by
  unfold L2.atI at e ⊢
  rw [← r.length]
  cases h : ixN ds.length i with
  | none => rw [h] at e; cases e
  | some j =>
    rw [h] at e
    exact r.get (i := j) e
theorem lf_ix : Lift2 K ixD (rIx K) := by
  intro x y S H Q' Q v u rh dx dy h q
  cases y <;> cases x <;> try exact h.elim
  · cases dx; cases dy; obtain ⟨c, h1, h2, h⟩ := h; exact .inr (.inr ⟨_, _, c, rfl, rfl, big_le h1, h2, q.here rh (.str _) h⟩)
  · cases dy
    cases dx with | tup s r =>
    obtain ⟨d, e, h⟩ := h
    obtain ⟨w, e', dw⟩ := r.atI e
    exact .inr (.inl ⟨_, _, _, w, rfl, rfl, s, e', q.here rh dw h⟩)
  · cases dx; cases dy
    obtain ⟨xs, d, l, e, h⟩ := h
    obtain ⟨ys, s, r⟩ := rh.sql l
    obtain ⟨w, e', dw⟩ := r.atI e
    exact .inl ⟨_, _, _, w, rfl, rfl, s, e', q.here rh dw h⟩
  · cases dy
    cases dx with | kl s r =>
    obtain ⟨d, e, h⟩ := h
    obtain ⟨w, e', dw⟩ := r.atI e
    exact .inl ⟨_, _, _, w, rfl, rfl, s.sql, e', q.here rh dw h⟩
theorem ev_ix (ha : EV X W a ra) (hb : EV X W b rb) (hs : PlainIx b := by exact fun _ _ => rfl) : EV X W (.Subscript a b pos) (rBin ixD ra rb) := by
  obtain ⟨Ta, pa, la⟩ := ha.ex
  obtain ⟨Tb, pb, lb⟩ := hb.ex
  refine ⟨_, pe_ix ix_seq pa pb hs, fun σ σ' H S Q Q' E' rs rh h q xi => ?_⟩
  refine la σ σ' H S _ _ E' rs rh h (fun d S1 v H1 f1 rh1 dv h1 => ?_) xi
  refine lb σ σ' H1 S1 _ _ E' (rs.mono (f1.tle rh)) rh1 h1 (fun e S2 u H2 f2 rh2 du h2 => ?_) (xi.go f1)
  exact lf_ix _ _ _ _ _ _ _ _ rh2 (DV.mono (f2.tle rh1) _ _ dv) du h2 (q.go (f1.trans f2))
/-- a part of a slice -/
abbrev RO' := Sg → Hq → (Option Int → Hq → Prop) → Xw → Prop
structure EO (X : Cx) (W : WX) (e : Option Expr) (t : RO') : Prop where
  ex : ∃ T, PO X e T ∧ ∀ (σ : L2.St) (σ' : Sg) (H : Hp) (S : Hq) (Q : Option Int → Hp → Prop) (Q' : Option Int → Hq → Prop) (E' : Xw), RS X.K H σ' σ → RH X.K S H → t σ' S Q' E' → (∀ o S' H', Fr S H S' H' → RH X.K S' H' → Q' o S' → Q o H') → XI X.K S H E' (wx W σ) → T σ H Q
def rNoP : RO' := fun _ S Q _ => Q none S
def rPrt (r : RE) : RO' := fun σ S Q E => r σ S (fun x S1 => asI x fun i => Q (some i) S1) E
theorem eo_none : EO X W none rNoP := ⟨_, po_none, fun σ σ' H S Q Q' E' rs rh h q xi => q _ _ _ Fr.refl rh h⟩
theorem eo_some (h : EV X W a ra) : EO X W (some a) (rPrt ra) := by
  obtain ⟨T, p, l⟩ := h.ex
  refine ⟨_, po_some p, fun σ σ' H S Q Q' E' rs rh h q xi => ?_⟩
  refine l σ σ' H S _ _ E' rs rh h (fun d S1 v H1 f1 rh1 dv h1 => ?_) xi
  cases d <;> try exact h1.elim
  cases dv
  exact ⟨_, rfl, q _ _ _ f1 rh1 h1⟩
def rSl (ra : RE) (rl ru : RO') : RE := fun σ S Q E => ra σ S (fun x S1 => rl σ S1 (fun l S2 => ru σ S2 (fun u S3 => slD x l u S3 Q) E) E) E
theorem cut_len {ds : List D} {vs : List V} (r : DVs K H ds vs) (lo hi : Option Int) : DVs K H (cutL ds lo hi) (cutV vs lo hi) := by
  unfold cutL cutV
  rw [← r.length]
  exact (r.drop _).take _
def rSlU (K : PySem.W.Frag) : V → Option Int → Option Int → Hp → VK → Prop := fun x lo hi H Q => rSlA K x lo hi H Q ∨ rSlL K x lo hi H Q ∨ rSlS x lo hi H Q
theorem sl_U : SlR X (rSlU X.K) := SlR.or sl_tupA (SlR.or sl_list sl_str)
theorem cutL_whole {α : Type} {xs : List α} {lo hi : Option Int} (h : HT.sIx xs.length 0 lo = 0 ∧ HT.sIx xs.length xs.length hi = xs.length) : cutL xs lo hi = xs := by
  unfold cutL
  rw [h.1, h.2]
  simp
theorem ev_sl {lo hi : Option Expr} {rl ru : RO'} (ha : EV X W a ra) (hl : EO X W lo rl) (hu : EO X W hi ru) : EV X W (.Subscript a (.Slice lo hi none p2) pos) (rSl ra rl ru) := by
  obtain ⟨Ta, pa, la⟩ := ha.ex
  obtain ⟨Tl, pl, ll⟩ := hl.ex
  obtain ⟨Tu, pu, lu⟩ := hu.ex
  refine ⟨_, pe_slice sl_U pa pl pu, fun σ σ' H S Q Q' E' rs rh h q xi => ?_⟩
  refine la σ σ' H S _ _ E' rs rh h (fun d S1 v H1 f1 rh1 dv h1 => ?_) xi
  refine ll σ σ' H1 S1 _ _ E' (rs.mono (f1.tle rh)) rh1 h1 (fun o S2 H2 f2 rh2 h2 => ?_) (xi.go f1)
  refine lu σ σ' H2 S2 _ _ E' (rs.mono ((f1.trans f2).tle rh)) rh2 h2 (fun o' S3 H3 f3 rh3 h3 => ?_) (xi.go (f1.trans f2))
  have dv3 := DV.mono ((f2.trans f3).tle rh1) _ _ dv
  have q3 := q.go ((f1.trans f2).trans f3)
  cases d <;> try exact h3.elim
  · cases dv3; exact .inr (.inr ⟨_, rfl, big_le h3.1, q3.here rh3 (.str _) h3.2⟩)
  · cases dv3 with | tup s r =>
    refine .inl ⟨_, _, rfl, s, fun w => ?_, fun w p hp => q3.newT rh3 hp (cut_len r o o') h3⟩
    have e := cutL_whole (lo := o) (hi := o') (by rw [r.length]; exact w)
    have h4 : Q' (.tup (cutL _ o o')) S3 := h3
    rw [e] at h4
    exact q3.here rh3 (.tup s r) h4
  · cases dv3
    obtain ⟨xs, l, h3⟩ := h3
    obtain ⟨ys, s, r⟩ := rh3.sql l
    exact .inr (.inl ⟨_, _, rfl, s, fun p hp => q3.newL rh3 hp (cut_len r o o') (h3 p (rh3.fresh hp))⟩)
end
end Y
namespace Y
open PySem PySem.Spec PyProof.Rows L2

/-! ### the reading as one below -/
def dnE (K : PySem.W.Frag) (W : WX) (t : RE) : TE := fun σ H Q => ∃ σ' S Q' E', RS K H σ' σ ∧ RH K S H ∧ t σ' S Q' E' ∧ QI K S H Q' Q ∧ XI K S H E' (wx W σ)
def dnT (K : PySem.W.Frag) (W : WX) (t : RT) : TT := fun σ H Q => ∃ σ' S Q' E', RS K H σ' σ ∧ RH K S H ∧ t σ' S Q' E' ∧ QT K S H Q' Q ∧ XI K S H E' (wx W σ)
def dnB (K : PySem.W.Frag) (W : WX) (t : RSt) : TS := fun D σ H => ∃ σ' S D', RS K H σ' σ ∧ RH K S H ∧ t D' σ' S ∧ DI K W S H D' D
section
variable {X : Cx} {W : WX} {e : Expr}
theorem EV.pe {t : RE} (h : EV X W e t) : PE X e (dnE X.K W t) := by
  obtain ⟨T, p, l⟩ := h.ex
  exact ⟨fun pins s σ H Q I ⟨σ', S, Q', E', a, b, c, d, x⟩ => p.run pins s σ H Q I (l σ σ' H S Q Q' E' a b c d x)⟩
theorem ET.pe {t : RT} (h : ET X W e t) : PT X e (dnT X.K W t) := by
  obtain ⟨T, p, l⟩ := h.ex
  exact ⟨fun pins s σ H Q I ⟨σ', S, Q', E', a, b, c, d, x⟩ => p.run pins s σ H Q I (l σ σ' H S Q Q' E' a b c d x)⟩
theorem EB.pe {st : List Stmt} {t : RSt} (h : EB X W st t) : PSs X st (dnB X.K W t) := by
  obtain ⟨T, p, l⟩ := h.ex
  exact ⟨fun pins s σ H D I ⟨σ', S, D', a, b, c, d⟩ => p.run pins s σ H D I (l σ σ' H S D D' a b c d)⟩
end

/-! ### calls -/
abbrev Sq := List D → Hq → Qv → Xw → Prop
def NoX : Xw := fun _ _ _ => False
theorem XI.no {K : PySem.W.Frag} {S : Hq} {H : Hp} {E : XK} : XI K S H NoX E := fun _ _ _ _ _ _ _ _ _ _ _ z => z.elim
def dn (K : PySem.W.Frag) (sp : Sq) : Sp := fun vs H Q E => ∃ ds S Q' E', DVs K H ds vs ∧ RH K S H ∧ sp ds S Q' E' ∧ QI K S H Q' Q ∧ XI K S H E' E
def LiftC (K : PySem.W.Frag) (f : List D → Hq → Qv → Prop) (r : List V → Hp → VK → Prop) : Prop := ∀ ds S H Q' Q vs, RH K S H → DVs K H ds vs → f ds S Q' → QI K S H Q' Q → r vs H Q
def rFn (f : List D → Hq → Qv → Prop) (ra : RA) : RE := fun σ S Q E => ra σ S (fun ds S1 => f ds S1 Q) E
def rCall (sp : Sq) (ra : RA) : RE := fun σ S Q E => ra σ S (fun ds S1 => sp ds S1 Q NoX) E
section
variable {X : Cx} {W : WX} {x : Str} {e : Expr} {es : List Expr} {ra : RA} {p pos : Pos} {f : List D → Hq → Qv → Prop} {r : List V → Hp → VK → Prop}
theorem ev_cB {id : String} (hc : CallR X (.builtin id) r) (hl : LiftC X.K f r) (hm : X.mg x = none) (ha : EA X W (e :: es) ra) (hg : Gl X x := by rfl) (hv : bootBuiltins x = some (.builtin id) := by decide +kernel)
    (hn : x ≠ "__name__" := by decide) (hd : (x == ("__debug__" : Str)) = false := by decide) (he : starEach (e :: es) X.env = (false, eval e X.env) :: starEach es X.env := by rfl)
    (hpl : (backTo pos (starEach es X.env)).any (·.1) = false := by rfl) : EV X W (.Call (.Name x p) (e :: es) [] pos) (rFn f ra) := by
  obtain ⟨Ta, pa, la⟩ := ha.ex
  refine ⟨_, pe_callB hc hg hm hv pa hn hd he hpl, fun σ σ' H S Q Q' E' rs rh h q xi => ?_⟩
  exact la σ σ' H S _ _ E' rs rh h (fun d S1 v H1 f1 rh1 dv h1 => hl _ _ _ _ _ _ rh1 dv h1 (q.go f1)) xi
theorem ev_cT {T : String} (hc : CallR X (.type T) r) (hl : LiftC X.K f r) (hm : X.mg x = none) (ha : EA X W (e :: es) ra) (hg : Gl X x := by rfl) (hv : bootBuiltins x = some (.type T) := by decide +kernel)
    (hn : x ≠ "__name__" := by decide) (hd : (x == ("__debug__" : Str)) = false := by decide) (he : starEach (e :: es) X.env = (false, eval e X.env) :: starEach es X.env := by rfl)
    (hpl : (backTo pos (starEach es X.env)).any (·.1) = false := by rfl) : EV X W (.Call (.Name x p) (e :: es) [] pos) (rFn f ra) := by
  obtain ⟨Ta, pa, la⟩ := ha.ex
  refine ⟨_, pe_callTy hc hg hm hv pa hn hd he hpl, fun σ σ' H S Q Q' E' rs rh h q xi => ?_⟩
  exact la σ σ' H S _ _ E' rs rh h (fun d S1 v H1 f1 rh1 dv h1 => hl _ _ _ _ _ _ rh1 dv h1 (q.go f1)) xi
/-- a built-in type as a value -/
theorem ev_ty {n : String} (hm : X.mg x = none) (hg : Gl X x := by rfl) (hv : bootBuiltins x = some (.type n) := by decide +kernel) (hn : x ≠ "__name__" := by decide) (hd : (x == ("__debug__" : Str)) = false := by decide) : EV X W (.Name x pos) (rC (.ty n)) :=
  ⟨_, pe_bltn (v := .ty n) hg hm hv rfl hn hd, fun σ σ' H S Q Q' E' rs rh h q xi => q.here rh (.ty n) h⟩
variable {k : Nat} {fa : Addr} {fd : FuncData} {ps : List Str} {sp : Sq}
theorem ev_call (F : FnOk X.prog X.w X.K X.mg X.base CX0 k fa fd ps (dn X.K sp)) (hr : Room k X.A) (hm : X.mg x = some (.ref fa)) (hk : PySem.W.keepIn X.K (.ref fa) = true) (hb : Binds X.K fd ps [])
    (ha : EA X W (e :: es) ra) (hg : Gl X x := by rfl) (hdb : (x == ("__debug__" : Str)) = false := by decide) (he : starEach (e :: es) X.env = (false, eval e X.env) :: starEach es X.env := by rfl) (hpl : (backTo pos (starEach es X.env)).any (·.1) = false := by rfl) :
    EV X W (.Call (.Name x p) (e :: es) [] pos) (rCall sp ra) := by
  obtain ⟨Ta, pa, la⟩ := ha.ex
  refine ⟨_, pe_call (E := fun _ _ _ => False) F hr hg hm hk hb .nil pass0 pa hdb he hpl, fun σ σ' H S Q Q' E' rs rh h q xi => ?_⟩
  refine la σ σ' H S _ _ E' rs rh h (fun d S1 v H1 f1 rh1 dv h1 => ?_) xi
  rw [List.append_nil]
  exact ⟨d, S1, Q', NoX, dv, rh1, h1, q.go f1, XI.no⟩
theorem ev_call0 (F : FnOk X.prog X.w X.K X.mg X.base CX0 k fa fd ps (dn X.K sp)) (hr : Room k X.A) (hm : X.mg x = some (.ref fa)) (hk : PySem.W.keepIn X.K (.ref fa) = true) (hb : Binds X.K fd ps [])
    (hg : Gl X x := by rfl) (hdb : (x == ("__debug__" : Str)) = false := by decide) : EV X W (.Call (.Name x p) [] [] pos) (rCall sp rNil) := by
  refine ⟨_, pe_call0 (E := fun _ _ _ => False) F hr hg hm hk hb .nil pass0 hdb, fun σ σ' H S Q Q' E' rs rh h q xi => ?_⟩
  exact ⟨[], S, Q', NoX, .nil, rh, h, q, XI.no⟩
/-! ### arguments by name: π tells, for each parameter, its place among (positional ++ named) -/
structure EK (X : Cx) (W : WX) (kws : List Keyword) (t : RA) : Prop where
  ex : ∃ T, PK X kws T ∧ ∀ (σ : L2.St) (σ' : Sg) (H : Hp) (S : Hq) (Q : List V → Hp → Prop) (Q' : List D → Hq → Prop) (E' : Xw), RS X.K H σ' σ → RH X.K S H → t σ' S Q' E' → QA X.K S H Q' Q → XI X.K S H E' (wx W σ) → T σ H Q
theorem ek_nil : EK X W [] rNil := ⟨_, pk_nil, fun σ σ' H S Q Q' E' rs rh h q xi => q _ _ _ _ Fr.refl rh .nil h⟩
theorem ek_cons {a : Expr} {kws : List Keyword} {nm : Option Str} {kpos : Pos} {r1 : RE} {rr : RA} (ha : EV X W a r1) (hr : EK X W kws rr) : EK X W (⟨nm, a, kpos⟩ :: kws) (rCons r1 rr) := by
  obtain ⟨Ta, pa, la⟩ := ha.ex
  obtain ⟨Tr, pr, lr⟩ := hr.ex
  refine ⟨_, pk_cons pa pr, fun σ σ' H S Q Q' E' rs rh h q xi => ?_⟩
  refine la σ σ' H S _ _ E' rs rh h (fun d S1 v H1 f1 rh1 dv h1 => ?_) xi
  refine lr σ σ' H1 S1 _ _ E' (rs.mono (f1.tle rh)) rh1 h1 (fun e S2 u H2 f2 rh2 du h2 => ?_) (xi.go f1)
  exact q _ _ _ _ (f1.trans f2) rh2 (.cons (DV.mono (f2.tle rh1) _ _ dv) du) h2
def pick {α : Type} (π : List Nat) (xs : List α) : List α := π.filterMap fun i => xs[i]?
theorem DVs.pick {K : PySem.W.Frag} {H : Hp} (π : List Nat) {ds : List D} {vs : List V} (r : DVs K H ds vs) : DVs K H (Y.pick π ds) (Y.pick π vs) := by
  induction π with
  | nil => exact .nil
  | cons i π ih =>
    unfold Y.pick at ih ⊢
    rw [List.filterMap_cons, List.filterMap_cons]
    cases e : ds[i]? with
    | none =>
      have e' : vs[i]? = none := List.getElem?_eq_none_iff.mpr (by rw [← r.length]; exact List.getElem?_eq_none_iff.mp e)
      rw [e']
      exact ih
    | some d =>
      obtain ⟨v, e', dv⟩ := r.get e
      rw [e']
      exact .cons dv ih
theorem Vals.pick (π : List Nat) {vs : List V} {us : List Value} (r : Vals vs us) : Vals (Y.pick π vs) (Y.pick π us) := by
  induction π with
  | nil => exact .nil
  | cons i π ih =>
    unfold Y.pick at ih ⊢
    rw [List.filterMap_cons, List.filterMap_cons]
    cases e : vs[i]? with
    | none =>
      rw [Vals.none_of r e]
      exact ih
    | some d =>
      obtain ⟨v, e', dv⟩ := Vals.get r e
      rw [e']
      exact .cons dv ih
def gk {α : Type} (n m : Nat) (π : List Nat) (us ws : List α) : List α := if us.length = n ∧ ws.length = m then pick π (us ++ ws) else []
theorem DVs.gk {K : PySem.W.Frag} {H : Hp} {n m : Nat} {π : List Nat} {ds es : List D} {vs us : List V} (r : DVs K H ds vs) (r2 : DVs K H es us) : DVs K H (Y.gk n m π ds es) (Y.gk n m π vs us) := by
  unfold Y.gk
  rw [← r.length, ← r2.length]
  split
  · exact (r.app r2).pick π
  · exact .nil
def rCallK (sp : Sq) (n m : Nat) (π : List Nat) (ra rk : RA) : RE := fun σ S Q E => ra σ S (fun ds S1 => rk σ S1 (fun es S2 => sp (gk n m π ds es) S2 Q NoX) E) E
abbrev KBn' (K : PySem.W.Frag) (fd : FuncData) (ps ks : List Str) (n m : Nat) (π : List Nat) : Prop := KBinds K fd ps ks (gk n m π) (gk n m π)
theorem kb_mk {K : PySem.W.Frag} {x qual : Str} {st : Stmt} {f : Addr} {fd : FuncData} {ps ks : List Str} {n m : Nat} {π : List Nat} (F : Fun K x qual st f fd) (hne : ps ≠ [])
    (h : ∀ (kV doc pm : Value) (an : Option Addr) (cdv ct : Value) (us ws : List Value), us.length = n → ws.length = m → bindArgs (PySem.W.fnOf x qual (defArgs st) (defBody st) (defScope st) .none kV doc pm an cdv ct) ⟨us, ks.zip ws⟩ = pure (ps.zip (pick π (us ++ ws)))) : KBn' K fd ps ks n m π := by
  obtain ⟨oc, od, kV, doc, pm, an, cdv, ct, osl, rfl, lk, hcd⟩ := F.ex
  refine ⟨fun s us ws _ hl => ?_, fun {vs us zs ws} r r2 => ?_⟩
  · by_cases c : us.length = n ∧ ws.length = m
    · have e : gk n m π us ws = pick π (us ++ ws) := if_pos c
      rw [e]
      exact .of_eq (h kV doc pm an cdv ct us ws c.1 c.2)
    · have e : gk n m π us ws = [] := if_neg c
      rw [e] at hl
      exact absurd (List.eq_nil_of_length_eq_zero hl.symm) hne
  · unfold gk
    rw [← r.length, ← r2.length]
    split
    · exact Vals.pick π (Vals.append r r2)
    · exact .nil
theorem ev_callK {kws : List Keyword} {ks : List Str} {n m : Nat} {π : List Nat} {rk : RA} (F : FnOk X.prog X.w X.K X.mg X.base CX0 k fa fd ps (dn X.K sp)) (hr : Room k X.A) (hm : X.mg x = some (.ref fa)) (hk : PySem.W.keepIn X.K (.ref fa) = true) (hb : KBn' X.K fd ps ks n m π)
    (ha : EA X W (e :: es) ra) (hkw : EK X W kws rk) (hg : Gl X x := by rfl) (hall : (backToKw pos (keywordEach kws X.env)).all (·.1.isSome) = true := by rfl) (hks : (backToKw pos (keywordEach kws X.env)).filterMap (·.1) = ks := by rfl)
    (hdb : (x == ("__debug__" : Str)) = false := by decide) (he : starEach (e :: es) X.env = (false, eval e X.env) :: starEach es X.env := by rfl)
    (hpl : ((backTo pos (starEach (e :: es) X.env)).any (·.1) || (backToKw pos (keywordEach kws X.env)).any (·.1.isNone)) = false := by rfl) :
    EV X W (.Call (.Name x p) (e :: es) kws pos) (rCallK sp n m π ra rk) := by
  obtain ⟨Ta, pa, la⟩ := ha.ex
  obtain ⟨Tk, pk, lk⟩ := hkw.ex
  refine ⟨_, pe_callK (E := fun _ _ _ => False) F hr hg hm hk hb pass0 pa pk hall hks hdb he hpl, fun σ σ' H S Q Q' E' rs rh h q xi => ?_⟩
  refine la σ σ' H S _ _ E' rs rh h (fun d S1 v H1 f1 rh1 dv h1 => ?_) xi
  refine lk σ σ' H1 S1 _ _ E' (rs.mono (f1.tle rh)) rh1 h1 (fun e S2 u H2 f2 rh2 du h2 => ?_) (xi.go f1)
  exact ⟨_, S2, Q', NoX, DVs.gk (DVs.mono (f2.tle rh1) _ _ dv) du, rh2, h2, q.go (f1.trans f2), XI.no⟩
theorem ev_callK0 {kws : List Keyword} {ks : List Str} {n m : Nat} {π : List Nat} {rk : RA} (F : FnOk X.prog X.w X.K X.mg X.base CX0 k fa fd ps (dn X.K sp)) (hr : Room k X.A) (hm : X.mg x = some (.ref fa)) (hk : PySem.W.keepIn X.K (.ref fa) = true) (hb : KBn' X.K fd ps ks n m π)
    (hkw : EK X W kws rk) (hg : Gl X x := by rfl) (hall : (backToKw pos (keywordEach kws X.env)).all (·.1.isSome) = true := by rfl) (hks : (backToKw pos (keywordEach kws X.env)).filterMap (·.1) = ks := by rfl)
    (hdb : (x == ("__debug__" : Str)) = false := by decide)
    (hpl : ((backTo pos (starEach [] X.env)).any (·.1) || (backToKw pos (keywordEach kws X.env)).any (·.1.isNone)) = false := by rfl) :
    EV X W (.Call (.Name x p) [] kws pos) (rCallK sp n m π rNil rk) := by
  obtain ⟨Tk, pk, lk⟩ := hkw.ex
  refine ⟨tCallK (dn X.K sp) (gk n m π) (fun _ _ _ => False) tNil Tk, ⟨fun pins s σ H Q I h => ?_⟩, fun σ σ' H S Q Q' E' rs rh h q xi => ?_⟩
  · refine wpAny_Call_Name_kw (ld_glob I hg hm ?_ hdb)
    refine PySem.W.callWith_KW0 (h₀ := X.base) I.ok.mod.kin hk hall (thn (pk.run pos pins s σ H _ I h) fun ws s2 ⟨zs, H2, I2, rz, q2⟩ => ⟨I2.kIn, ?_⟩) hpl
    rw [hks]
    exact run_fnk F hr hb pass0 I2 .nil rz q2
  · refine lk σ σ' H S _ _ E' rs rh h (fun e S2 u H2 f2 rh2 du h2 => ?_) xi
    exact ⟨_, S2, Q', NoX, DVs.gk .nil du, rh2, h2, q.go f2, XI.no⟩
def negD (x : D) (S : Hq) (Q : Qv) : Prop := match x with | .int i => Q (.int (-i)) S | _ => False
theorem ev_neg {r1 : RE} (h : EV X W e r1) : EV X W (.UnaryOp .USub e pos) (rUn negD r1) := by
  obtain ⟨T, p, l⟩ := h.ex
  refine ⟨_, pe_un un_neg p, fun σ σ' H S Q Q' E' rs rh h q xi => ?_⟩
  refine l σ σ' H S _ _ E' rs rh h (fun d S1 v H1 f1 rh1 dv h1 => ?_) xi
  cases d <;> try exact h1.elim
  cases dv
  exact ⟨_, rfl, q _ _ _ _ f1 rh1 (.int _) h1⟩
end

/-! ### built-ins -/
def lenD (ds : List D) (S : Hq) (Q : Qv) : Prop := match ds with
  | [.tup xs] => Q (.int xs.length) S
  | [.kl xs] => Q (.int xs.length) S
  | [.str z] => z.length ≤ 1000000 ∧ Q (.int z.length) S
  | [.ref a] => ∃ xs, LsR S a xs ∧ Q (.int xs.length) S
  | _ => False
def absD (ds : List D) (S : Hq) (Q : Qv) : Prop := match ds with | [.int i] => Q (.int (if i < 0 then -i else i)) S | _ => False
def intF (ds : List D) (S : Hq) (Q : Qv) : Prop := match ds with | [.int i] => Q (.int i) S | [.bl k] => Q (.int (if k then 1 else 0)) S | _ => False
def maxD (ds : List D) (S : Hq) (Q : Qv) : Prop := match ds with | [.int i, .int j] => Q (.int (if j > i then j else i)) S | _ => False
def minD (ds : List D) (S : Hq) (Q : Qv) : Prop := match ds with | [.int i, .int j] => Q (.int (if j < i then j else i)) S | _ => False
def tupF (ds : List D) (S : Hq) (Q : Qv) : Prop := match ds with
  | [.tup xs] => Q (.tup xs) S
  | [.ref a] => ∃ xs, LsR S a xs ∧ Q (.tup xs) S
  | _ => False
def lstF (ds : List D) (S : Hq) (Q : Qv) : Prop := match ds with
  | [.tup xs] => ∀ p, S p = none → Q (.ref p) (up S p (.lst xs))
  | [.ref a] => ∃ xs, LsR S a xs ∧ ∀ p, S p = none → Q (.ref p) (up S p (.lst xs))
  | _ => False
/-- the type's name -/
def tyN (x : D) (S : Hq) : Option String := match x with
  | .non => some "NoneType" | .bl _ => some "bool" | .int _ => some "int" | .str _ => some "str" | .tup _ => some "tuple"
  | .ref a => match S a with | some (.lst _) => some "list"  | some (.dk _) => some "dict" | some (.dt _) => some "dict" | _ => none
  | .ty _ => none
  | .kl _ => some "list"
  | .cl _ => none
def isiB (t n : String) : Option Bool :=
  if n = "int" then some (t == "int" || t == "bool") else if n = "bool" then some (t == "bool") else if n = "tuple" then some (t == "tuple") else if n = "list" then some (t == "list") else if n = "str" then some (t == "str") else none
def isiR (t n : String) (S : Hq) (Q : Qv) : Prop := match isiB t n with | some b => Q (.bl b) S | none => False
def isiD (ds : List D) (S : Hq) (Q : Qv) : Prop := match ds with
  | [x, .ty n] => match tyN x S with | some t => isiR t n S Q | none => False
  | _ => False
theorem isiB_kit {t n : String} {b : Bool} (ht : t = "NoneType" ∨ t = "bool" ∨ t = "int" ∨ t = "str" ∨ t = "tuple" ∨ t = "list" ∨ t = "dict") (h : isiB t n = some b) : kitB t n = some b := by
  unfold isiB at h
  split at h
  · rename_i e; subst e; rcases ht with e | e | e | e | e | e | e <;> subst e <;> (cases h; decide +kernel)
  · split at h
    · rename_i e; subst e; rcases ht with e | e | e | e | e | e | e <;> subst e <;> (cases h; decide +kernel)
    · split at h
      · rename_i e; subst e; rcases ht with e | e | e | e | e | e | e <;> subst e <;> (cases h; decide +kernel)
      · split at h
        · rename_i e; subst e; rcases ht with e | e | e | e | e | e | e <;> subst e <;> (cases h; decide +kernel)
        · split at h
          · rename_i e; subst e; rcases ht with e | e | e | e | e | e | e <;> subst e <;> (cases h; decide +kernel)
          · cases h
section
variable {X : Cx} {K : PySem.W.Frag} {S : Hq} {H : Hp}
theorem TyX.ofSqT {a : Addr} {xs : List V} (h : SqT K H a xs) : TyX K H (.ref a) (.type "tuple") := by
  rcases h with (h | ⟨o, h⟩) | ⟨o, its, n, hk, hc, _⟩
  · exact .base (.tup h)
  · exact .fTuple h
  · exact .kTuple hk hc
theorem tyN_of {x : D} {v : V} {t : String} (rh : RH K S H) (d : DV K H x v) (e : tyN x S = some t) : TyX K H v (.type t) ∧ (t = "NoneType" ∨ t = "bool" ∨ t = "int" ∨ t = "str" ∨ t = "tuple" ∨ t = "list" ∨ t = "dict") := by
  cases d with
  | non => cases e; exact ⟨.base .non, by simp⟩
  | bl => cases e; exact ⟨.base (.bl _), by simp⟩
  | int => cases e; exact ⟨.base (.int _), by simp⟩
  | str => cases e; exact ⟨.base (.str _), by simp⟩
  | tup s r => cases e; exact ⟨TyX.ofSqT s.1, by simp⟩
  | ty => cases e
  | cl => cases e
  | kl s r =>
    cases e
    refine ⟨?_, by simp⟩
    rcases s with ⟨o, s⟩ | ⟨o, its, n, hk, hc, _⟩
    · exact .base (.frz s)
    · exact .kList hk hc
  | ref a =>
    unfold tyN at e
    simp only at e
    cases g : S a with
    | none => rw [g] at e; cases e
    | some o =>
      have q := rh a o g
      rw [g] at e
      cases o with
      | lst xs => cases e; obtain ⟨ys, q, _⟩ := q; exact ⟨.base (.lst q), by simp⟩
      | ins C fs => cases e
      | exd fs => cases e
      | dk kvs => cases e; obtain ⟨ys, q, _⟩ := q; exact ⟨.base (.dK q), by simp⟩
      | dt kvs => cases e; obtain ⟨ys, q, _⟩ := q; exact ⟨.base (.dT q), by simp⟩
      | fk => cases e
      | ft => cases e
      | tb => cases e
      | co => cases e
theorem lc_isi : LiftC K isiD (rIsi K) := by
  intro ds S H Q' Q vs rh dv h q
  match ds, dv with
  | [x, .ty n], .cons d1 (.cons d2 .nil) =>
    cases d2
    have h : (match tyN x S with | some t => isiR t n S Q' | none => False) := h
    split at h
    · rename_i t et
      unfold isiR at h
      split at h
      · rename_i b eb
        obtain ⟨ty, ts⟩ := tyN_of rh d1 et
        exact ⟨_, _, _, _, b, rfl, .ty n, ty, kit_ty (isiB_kit ts eb), q.here rh (.bl _) h⟩
      · exact h.elim
    · exact h.elim
theorem cr_len : CallR X (.builtin "len") (fun xs H Q => (∃ p ys, xs = [.ref p] ∧ (SqL X.K H p ys ∨ SqT X.K H p ys) ∧ Q (.int ys.length) H) ∨ (∃ z, xs = [.str z] ∧ z.length ≤ sizeLine ∧ Q (.int z.length) H)) := callr_or call_len_seq call_len_str
theorem lc_len : LiftC K lenD (fun xs H Q => (∃ p ys, xs = [.ref p] ∧ (SqL K H p ys ∨ SqT K H p ys) ∧ Q (.int ys.length) H) ∨ (∃ z, xs = [.str z] ∧ z.length ≤ sizeLine ∧ Q (.int z.length) H)) := by
  intro ds S H Q' Q vs rh dv h q
  match ds, dv, h with
  | [.tup xs], .cons (.tup s r) .nil, h => exact .inl ⟨_, _, rfl, .inr s, by rw [← r.length]; exact q.here rh (.int _) h⟩
  | [.kl xs], .cons (.kl s r) .nil, h => exact .inl ⟨_, _, rfl, .inl s.sql, by rw [← r.length]; exact q.here rh (.int _) h⟩
  | [.str z], .cons (.str _) .nil, h => exact .inr ⟨z, rfl, big_le h.1, q.here rh (.int _) h.2⟩
  | [.ref a], .cons (.ref _) .nil, h =>
    obtain ⟨xs, l, h⟩ := h
    obtain ⟨ys, s, r⟩ := rh.sql l
    exact .inl ⟨_, _, rfl, .inl s, by rw [← r.length]; exact q.here rh (.int _) h⟩
theorem lc_abs : LiftC K absD (fun xs H Q => ∃ i, xs = [.int i] ∧ Q (.int (if i < 0 then -i else i)) H) := by
  intro ds S H Q' Q vs rh dv h q
  match ds, dv, h with
  | [.int i], .cons (.int _) .nil, h => exact ⟨_, rfl, q.here rh (.int _) h⟩
theorem lc_int : LiftC K intF (fun xs H Q => (∃ i, xs = [.int i] ∧ Q (.int i) H) ∨ ∃ k, xs = [.bl k] ∧ Q (.int (if k then 1 else 0)) H) := by
  intro ds S H Q' Q vs rh dv h q
  match ds, dv, h with
  | [.int i], .cons (.int _) .nil, h => exact .inl ⟨_, rfl, q.here rh (.int _) h⟩
  | [.bl i], .cons (.bl _) .nil, h => exact .inr ⟨_, rfl, q.here rh (.int _) h⟩
theorem lc_max : LiftC K maxD (fun xs H Q => ∃ i j, xs = [.int i, .int j] ∧ Q (.int (if j > i then j else i)) H) := by
  intro ds S H Q' Q vs rh dv h q
  match ds, dv, h with
  | [.int i, .int j], .cons (.int _) (.cons (.int _) .nil), h => exact ⟨_, _, rfl, q.here rh (.int _) h⟩
theorem lc_min : LiftC K minD (fun xs H Q => ∃ i j, xs = [.int i, .int j] ∧ Q (.int (if j < i then j else i)) H) := by
  intro ds S H Q' Q vs rh dv h q
  match ds, dv, h with
  | [.int i, .int j], .cons (.int _) (.cons (.int _) .nil), h => exact ⟨_, _, rfl, q.here rh (.int _) h⟩
theorem lc_tup : LiftC K tupF (fun xs H Q => ∃ p ys, xs = [.ref p] ∧ ((SqL K H p ys ∧ ∀ l, H l = none → Q (.ref l) (upd H l (.tup ys))) ∨ (SqT K H p ys ∧ Q (.ref p) H))) := by
  intro ds S H Q' Q vs rh dv h q
  match ds, dv, h with
  | [.tup xs], .cons (.tup s r) .nil, h => exact ⟨_, _, rfl, .inr ⟨s.1, q.here rh (.tup s r) h⟩⟩
  | [.ref a], .cons (.ref _) .nil, h =>
    obtain ⟨xs, l, h⟩ := h
    obtain ⟨ys, s, r⟩ := rh.sql l
    exact ⟨_, _, rfl, .inl ⟨s, fun p hp => q.newT rh hp r h⟩⟩
theorem lc_list : LiftC K lstF (fun xs H Q => ∃ p ys, xs = [.ref p] ∧ (SqL K H p ys ∨ SqT K H p ys) ∧ ∀ l, H l = none → Q (.ref l) (upd H l (.lst ys))) := by
  intro ds S H Q' Q vs rh dv h q
  match ds, dv, h with
  | [.tup xs], .cons (.tup s r) .nil, h => exact ⟨_, _, rfl, .inr s, fun p hp => q.newL rh hp r (h p (rh.fresh hp))⟩
  | [.ref a], .cons (.ref _) .nil, h =>
    obtain ⟨xs, l, h⟩ := h
    obtain ⟨ys, s, r⟩ := rh.sql l
    exact ⟨_, _, rfl, .inl s, fun p hp => q.newL rh hp r (h p (rh.fresh hp))⟩
end

/-! ### methods of built-in types -/
def rMt (T : String) (f : D → List D → Hq → Qv → Prop) (ro : RE) (ra : RA) : RE := fun σ S Q E => ro σ S (fun x S1 => tyN x S1 = some T ∧ ra σ S1 (fun ds S2 => f x ds S2 Q) E) E
def LiftM (K : PySem.W.Frag) (f : D → List D → Hq → Qv → Prop) (r : V → List V → Hp → VK → Prop) : Prop := ∀ x ds S H Q' Q v vs, RH K S H → DV K H x v → DVs K H ds vs → f x ds S Q' → QI K S H Q' Q → r v vs H Q
section
variable {X : Cx} {K : PySem.W.Frag} {S : Hq} {H : Hp} {W : WX}
theorem tyV_of {x : D} {v : V} {T : String} (rh : RH K S H) (d : DV K H x v) (hT : T = "list" ∨ T = "str" ∨ T = "dict") (e : tyN x S = some T) : tyV K T v H := by
  cases d with
  | str => cases e; rfl
  | ref a =>
    unfold tyN at e
    simp only at e
    cases g : S a with
    | none => rw [g] at e; cases e
    | some o =>
      have q := rh a o g
      rw [g] at e
      cases o with
      | lst xs => cases e; obtain ⟨ys, q, _⟩ := q; exact .inl ⟨rfl, ys, .inl (.inl q)⟩
      | ins C fs => cases e
      | exd fs => cases e
      | dk kvs => cases e; obtain ⟨ys, q, _⟩ := q; exact .inr (.inr (.inl ⟨rfl, .inl ⟨ys, q⟩⟩))
      | dt kvs => cases e; obtain ⟨ys, q, _⟩ := q; exact .inr (.inr (.inl ⟨rfl, .inr ⟨ys, q⟩⟩))
      | fk => cases e
      | ft => cases e
      | tb => cases e
      | co => cases e
  | non => cases e; rcases hT with e | e | e <;> simp at e
  | bl => cases e; rcases hT with e | e | e <;> simp at e
  | int => cases e; rcases hT with e | e | e <;> simp at e
  | tup => cases e; rcases hT with e | e | e <;> simp at e
  | ty => cases e
  | cl => cases e
  | kl s r => cases e; exact .inl ⟨rfl, _, s.sql⟩
variable {o e : Expr} {es : List Expr} {ro : RE} {ra : RA} {name : Str} {apos cpos : Pos} {T id : String} {f : D → List D → Hq → Qv → Prop} {r : V → List V → Hp → VK → Prop}
theorem ev_mt (pa : PlainAttrs T) (slot : Slot T name id) (hty : typeOf (.builtin id) = pure (.type "method_descriptor")) (hT : T = "list" ∨ T = "str" ∨ T = "dict") (hm : MtR X id r) (hl : LiftM X.K f r) (ho : EV X W o ro) (ha : EA X W (e :: es) ra)
    (hbase : attributeBase o name X.env (eval o X.env) = eval o X.env := by rfl)
    (hfew : ((backTo cpos (starEach (e :: es) X.env)).all (fun x => !x.1) && (backToKw cpos (keywordEach [] X.env)).all (fun x => x.1.isSome)
      && decide ((e :: es).length + ([] : List Keyword).length + (if ([] : List Keyword).isEmpty then 0 else 1) < 30)) = true := by rfl)
    (hline : (apos.endLine == cpos.line) = true := by rfl) (hs : starEach (e :: es) X.env = (false, eval e X.env) :: starEach es X.env := by rfl) (hplain : (backTo cpos (starEach es X.env)).any (·.1) = false := by rfl) :
    EV X W (.Call (.Attribute o name apos) (e :: es) [] cpos) (rMt T f ro ra) := by
  obtain ⟨To, po, lo⟩ := ho.ex
  obtain ⟨Ta, paa, la⟩ := ha.ex
  refine ⟨_, pe_bm pa slot hty hm po paa hbase hfew hline hs hplain, fun σ σ' H S Q Q' E' rs rh h q xi => ?_⟩
  refine lo σ σ' H S _ _ E' rs rh h (fun d S1 v H1 f1 rh1 dv h1 => ⟨tyV_of rh1 dv hT h1.1, ?_⟩) xi
  refine la σ σ' H1 S1 _ _ E' (rs.mono (f1.tle rh)) rh1 h1.2 (fun e S2 u H2 f2 rh2 du h2 => ?_) (xi.go f1)
  exact hl _ _ _ _ _ _ _ _ rh2 (DV.mono (f2.tle rh1) _ _ dv) du h2 (q.go (f1.trans f2))
theorem ev_mt0 (pa : PlainAttrs T) (slot : Slot T name id) (hty : typeOf (.builtin id) = pure (.type "method_descriptor")) (hT : T = "list" ∨ T = "str" ∨ T = "dict") (hm : MtR X id r) (hl : LiftM X.K f r) (ho : EV X W o ro)
    (hbase : attributeBase o name X.env (eval o X.env) = eval o X.env := by rfl) (hline : (apos.endLine == cpos.line) = true := by rfl) : EV X W (.Call (.Attribute o name apos) [] [] cpos) (rMt T f ro rNil) := by
  obtain ⟨To, po, lo⟩ := ho.ex
  refine ⟨_, pe_bm0 pa slot hty hm po hbase hline, fun σ σ' H S Q Q' E' rs rh h q xi => ?_⟩
  refine lo σ σ' H S _ _ E' rs rh h (fun d S1 v H1 f1 rh1 dv h1 => ⟨tyV_of rh1 dv hT h1.1, ?_⟩) xi
  exact hl _ _ _ _ _ _ _ _ rh1 dv .nil h1.2 (q.go f1)
def appD (x : D) (ds : List D) (S : Hq) (Q : Qv) : Prop := match x, ds with
  | .ref a, [y] => ∃ xs, S a = some (.lst xs) ∧ xs.length < 1000000 ∧ Q .non (up S a (.lst (xs ++ [y])))
  | _, _ => False
theorem lm_app : LiftM K appD rAppend := by
  intro x ds S H Q' Q v vs rh dx dv h q
  match x, ds, dx, dv, h with
  | .ref a, [y], .ref _, .cons d .nil, h =>
    obtain ⟨xs, e, hz, h⟩ := h
    obtain ⟨ys, g, r⟩ := rh.lst e
    exact ⟨_, ys, _, rfl, rfl, g, by rw [← r.length]; exact big_lt hz, q.putL rh e (r.app (.cons d .nil)) .non h⟩
def extD (x : D) (ds : List D) (S : Hq) (Q : Qv) : Prop := match x, ds with
  | .ref a, [.ref b] => ∃ xs ys, S a = some (.lst xs) ∧ S b = some (.lst ys) ∧ xs.length + ys.length ≤ 1000000 ∧ Q .non (up S a (.lst (xs ++ ys)))
  | _, _ => False
theorem lm_ext : LiftM K extD rExtend := by
  intro x ds S H Q' Q v vs rh dx dv h q
  match x, ds, dx, dv, h with
  | .ref a, [.ref b], .ref _, .cons (.ref _) .nil, h =>
    obtain ⟨xs, ys, e, e2, hz, h⟩ := h
    obtain ⟨us, g, r⟩ := rh.lst e
    obtain ⟨ws, g2, r2⟩ := rh.lst e2
    exact ⟨_, _, us, ws, rfl, rfl, g, g2, by rw [← r.length, ← r2.length]; exact big_le hz, q.putL rh e (r.app r2) .non h⟩
/-- texts -/
def strsD : List D → Option (List Str)
  | [] => some []
  | .str z :: r => (strsD r).map (z :: ·)
  | _ :: _ => none
theorem strsD_of : ∀ {ds : List D} {zs : List Str} {vs : List V}, strsD ds = some zs → DVs K H ds vs → vs = zs.map V.str
  | [], _, _, e, h => by cases h; cases e; rfl
  | .str z :: r, _, _, e, h => by
    cases h with | cons a b =>
    cases a
    unfold strsD at e
    cases g : strsD r with
    | none => rw [g] at e; cases e
    | some l => rw [g] at e; cases e; rw [strsD_of g b]; rfl
  | .non :: _, _, _, e, _ => by cases e
  | .bl _ :: _, _, _, e, _ => by cases e
  | .int _ :: _, _, _, e, _ => by cases e
  | .tup _ :: _, _, _, e, _ => by cases e
  | .ref _ :: _, _, _, e, _ => by cases e
  | .ty _ :: _, _, _, e, _ => by cases e
  | .kl _ :: _, _, _, e, _ => by cases e
  | .cl _ :: _, _, _, e, _ => by cases e
def joinD (x : D) (ds : List D) (S : Hq) (Q : Qv) : Prop := match x, ds with
  | .str z, [.ref a] => ∃ xs zs, LsR S a xs ∧ strsD xs = some zs ∧ (zs.map (·.length)).sum + zs.length * z.length ≤ 1000000 ∧ Q (.str (Txt.join z zs)) S
  | .str z, [.tup xs] => ∃ zs, strsD xs = some zs ∧ (zs.map (·.length)).sum + zs.length * z.length ≤ 1000000 ∧ Q (.str (Txt.join z zs)) S
  | _, _ => False
theorem lm_join : LiftM X.K joinD (fun x xs H Q => ∃ a p, ∃ ys : List Str, x = .str a ∧ xs = [.ref p] ∧ (SqL X.K H p (ys.map V.str) ∨ SqT X.K H p (ys.map V.str)) ∧
    (ys.map (·.length)).sum + ys.length * a.length ≤ 16777216 ∧ Q (.str (Txt.join a ys)) H) := by
  intro x ds S H Q' Q v vs rh dx dv h q
  match x, ds, dx, dv, h with
  | .str z, [.ref a], .str _, .cons (.ref _) .nil, h =>
    obtain ⟨xs, zs, l, e, hz, h⟩ := h
    obtain ⟨ys, s, r⟩ := rh.sql l
    rw [strsD_of e r] at s
    exact ⟨_, _, zs, rfl, rfl, .inl s, Nat.le_trans hz (by decide), q.here rh (.str _) h⟩
  | .str z, [.tup xs], .str _, .cons (.tup s r) .nil, h =>
    obtain ⟨zs, e, hz, h⟩ := h
    rw [strsD_of e r] at s
    exact ⟨_, _, zs, rfl, rfl, .inr s, Nat.le_trans hz (by decide), q.here rh (.str _) h⟩
def stwD (x : D) (ds : List D) (S : Hq) (Q : Qv) : Prop := match x, ds with
  | .str a, [.str b] => Q (.bl (Txt.startswith a b)) S
  | _, _ => False
theorem lm_stw : LiftM K stwD (fun x xs H Q => ∃ a b, x = .str a ∧ xs = [.str b] ∧ Q (.bl (Txt.startswith a b)) H) := by
  intro x ds S H Q' Q v vs rh dx dv h q
  match x, ds, dx, dv, h with
  | .str a, [.str b], .str _, .cons (.str _) .nil, h => exact ⟨a, b, rfl, rfl, q.here rh (.bl _) h⟩
end
end Y
namespace Y
open PySem PySem.Spec PyProof.Rows L2

/-! ### targets -/
abbrev RG := D → Sg → Hq → (Sg → Hq → Prop) → Xw → Prop
abbrev RGs := List D → Sg → Hq → (Sg → Hq → Prop) → Xw → Prop
def SI' (K : PySem.W.Frag) (S : Hq) (H : Hp) (N' : Sg → Hq → Prop) (N : L2.St → Hp → Prop) : Prop := SI K S H N' N
structure EG (X : Cx) (W : WX) (tg : Expr) (t : RG) : Prop where
  ex : ∃ T, PG X tg T ∧ ∀ (σ : L2.St) (σ' : Sg) (H : Hp) (S : Hq) (d : D) (v : V) (N : L2.St → Hp → Prop) (N' : Sg → Hq → Prop) (E' : Xw), RS X.K H σ' σ → RH X.K S H → DV X.K H d v → t d σ' S N' E' → SI X.K S H N' N → XI X.K S H E' (wx W σ) → T v σ H N
structure EGs (X : Cx) (W : WX) (tg : List Expr) (t : RGs) : Prop where
  ex : ∃ T, PGs X tg T ∧ ∀ (σ : L2.St) (σ' : Sg) (H : Hp) (S : Hq) (d : List D) (v : List V) (N : L2.St → Hp → Prop) (N' : Sg → Hq → Prop), RS X.K H σ' σ → RH X.K S H → DVs X.K H d v → t d σ' S N' NoX → SI X.K S H N' N → T v σ H N
def gNm (i : Nat) : RG := fun d σ S N _ => N (σ.set i (some d)) S
def gNils : RGs := fun ds σ S N _ => match ds with | [] => N σ S | _ => False
def gConss (g : RG) (r : RGs) : RGs := fun ds σ S N E => match ds with | d :: ds => g d σ S (fun σ1 S1 => r ds σ1 S1 N E) E | _ => False
def gTp (n : Nat) (r : RGs) : RG := fun d σ S N _ => match d with | .tup ds => ds.length = n ∧ r ds σ S N NoX | _ => False
section
variable {X : Cx} {W : WX} {pos : Pos}
theorem eg_nm (i : Nat) {x : Str} (hN : X.N.Nodup) (hi : X.N[i]? = some x := by rfl) (hx : Loc X.env.scope x := by first | exact .inl rfl | exact .inr rfl) (hf : X.fn x = true ∨ X.env.scope.names.lookup x = some .local := by first | exact .inl rfl | exact .inr rfl | assumption) : EG X W (.Name x pos) (gNm i) :=
  ⟨_, pg_name hN hi hx hf, fun σ σ' H S d v N N' E' rs rh dv h n x => n _ _ _ _ Fr.refl rh (rs.set dv i) h⟩
theorem egs_nil : EGs X W [] gNils := by
  refine ⟨_, pgs_nil, fun σ σ' H S d v N N' rs rh dv h n => ?_⟩
  cases dv with
  | nil => exact ⟨rfl, n _ _ _ _ Fr.refl rh rs h⟩
  | cons _ _ => exact h.elim
theorem egs_cons {e : Expr} {es : List Expr} {g : RG} {r : RGs} (h1 : EG X W e g) (h2 : EGs X W es r) (hs : (assignEach (e :: es) X.env).map (·.2) = assign e X.env :: (assignEach es X.env).map (·.2) := by rfl) : EGs X W (e :: es) (gConss g r) := by
  obtain ⟨T1, p1, l1⟩ := h1.ex
  obtain ⟨T2, p2, l2⟩ := h2.ex
  refine ⟨_, pgs_cons p1 p2 hs, fun σ σ' H S d v N N' rs rh dv h n => ?_⟩
  cases dv with
  | nil => exact h.elim
  | cons x r =>
    refine ⟨_, _, rfl, l1 σ σ' H S _ _ _ _ NoX rs rh x h (fun σ1' S1 σ1 H1 f1 rh1 rs1 h1 => ?_) XI.no⟩
    exact l2 σ1 σ1' H1 S1 _ _ _ _ rs1 rh1 (DVs.mono (f1.tle rh) _ _ r) h1 (n.go f1)
theorem eg_tp {es : List Expr} {k : Nat} {r : RGs} {n : Nat} (hc : X.calm = true) (h : EGs X W es r) (hn : (assignEach es X.env).length = n := by rfl) (hst : (assignEach es X.env).findIdx? (·.1) = none := by rfl) : EG X W (.Tuple es k pos) (gTp n r) := by
  obtain ⟨T, p, l⟩ := h.ex
  refine ⟨_, pg_tup hc p hn hst, fun σ σ' H S d v N N' E' rs rh dv h nn x => ?_⟩
  cases dv with
  | tup s r => exact ⟨_, _, rfl, s, by rw [← r.length]; exact h.1, l σ σ' H S _ _ N N' rs rh r h.2 nn⟩
  | _ => exact h.elim
def setD (o i d : D) (S : Hq) (Q : Hq → Prop) : Prop := match o, i with
  | .ref a, .int k => ∃ xs j, S a = some (.lst xs) ∧ ixN xs.length k = some j ∧ Q (up S a (.lst (xs.set j d)))
  | _, _ => False
def gSb (ro ri : RE) : RG := fun d σ S N E => ro σ S (fun o S1 => ri σ S1 (fun i S2 => setD o i d S2 (fun S3 => N σ S3)) E) E
theorem eg_sb {o i : Expr} {ro ri : RE} (ho : EV X W o ro) (hi : EV X W i ri)
    (ha : ∀ v, assign (.Subscript o i pos) X.env v = (do
      let ov ← holding [v] (eval o X.env)
      let iv ← holding [v, ov] (eval i X.env)
      standAt pos
      holding [v, ov, iv] (setItem ov iv v)
      release [v, ov, iv] []) := by intro _; rfl) : EG X W (.Subscript o i pos) (gSb ro ri) := by
  obtain ⟨To, po, lo⟩ := ho.ex
  obtain ⟨Ti, pi, li⟩ := hi.ex
  refine ⟨_, pg_sub po pi set_list ha, fun σ σ' H S d v N N' E' rs rh dv h n x => ?_⟩
  refine lo σ σ' H S _ _ E' rs rh h (fun o S1 ov H1 f1 rh1 do1 h1 => ?_) x
  refine li σ σ' H1 S1 _ _ E' (rs.mono (f1.tle rh)) rh1 h1 (fun i S2 iv H2 f2 rh2 di h2 => ?_) (x.go f1)
  cases o <;> cases i <;> try exact h2.elim
  cases do1; cases di
  obtain ⟨xs, j, e, ix, h2⟩ := h2
  obtain ⟨ys, g, r⟩ := rh2.lst e
  have f12 := f1.trans f2
  have dv2 := DV.mono (f12.tle rh) _ _ dv
  have t : Tle X.K H2 (upd H2 _ (.lst (ys.set j v))) := rh2.putTle (o := .lst (ys.set j v)) e
  have f3 := Fr.put (H := H2) (o := .lst (ys.set j v)) (q := .lst (xs.set j d)) e
  exact ⟨_, ys, _, j, rfl, rfl, g, by rw [← r.length]; exact ix, n _ _ _ _ (f12.trans f3) (rh2.put (q := .lst (xs.set j d)) e ⟨_, upd_same, DVs.mono t _ _ (r.set j dv2)⟩) (rs.mono ((f12.trans f3).tle rh)) h2⟩
end

/-! ### statements -/
def En.x (D : En) (σ : Sg) : Xw := fun C fs S => D.ex C fs σ S
def rNext : RSt := fun D σ S => D.nx σ S
def rSeq (t u : RSt) : RSt := fun D σ S => t { D with nx := u D } σ S
def rDrop (r : RE) : RSt := fun D σ S => r σ S (fun _ S1 => D.nx σ S1) (D.x σ)
def rRet (r : RE) : RSt := fun D σ S => r σ S D.rt (D.x σ)
def rRetN : RSt := fun D _ S => D.rt .non S
def rBrk : RSt := fun D σ S => D.bk σ S
def rCnt : RSt := fun D σ S => D.ct σ S
def rIfS (c : RT) (t u : RSt) : RSt := fun D σ S => c σ S (fun b S1 => if b = true then t D σ S1 else u D σ S1) (D.x σ)
def rSet (r : RE) (g : RG) : RSt := fun D σ S => r σ S (fun d S1 => g d σ S1 D.nx (D.x σ)) (D.x σ)
section
variable {X : Cx} {W : WX} {st : Stmt} {rest : List Stmt} {t u : RSt} {e : Expr} {r : RE} {pos : Pos}
theorem DI.xi {K : PySem.W.Frag} {S : Hq} {H : Hp} {D' : En} {D : Ends} {σ' : Sg} {σ : L2.St} (d : DI K W S H D' D) (rh : RH K S H) (rs : RS K H σ' σ) : XI K S H (D'.x σ') (wx W σ) := fun n C fs S' H' dd c f rh' x nw h => d.ex n C fs σ' S' σ H' dd c f rh' (rs.mono (f.tle rh)) x nw h
theorem eb_nil : EB X W [] rNext := ⟨_, pss_nil, fun σ σ' H S D D' rs rh h d => d.nx _ _ _ _ Fr.refl rh rs h⟩
theorem eb_cons (h1 : ES X W st t) (h2 : EB X W rest u) : EB X W (st :: rest) (rSeq t u) := by
  obtain ⟨T1, p1, l1⟩ := h1.ex
  obtain ⟨T2, p2, l2⟩ := h2.ex
  refine ⟨_, pss_cons p1 p2, fun σ σ' H S D D' rs rh h d => ?_⟩
  refine l1 σ σ' H S _ { D' with nx := u D' } rs rh h ⟨fun σ1' S1 σ1 H1 f1 rh1 rs1 h1 => ?_, d.rt, d.bk, d.ct, d.ex⟩
  exact l2 σ1 σ1' H1 S1 D D' rs1 rh1 h1 (d.go f1)
theorem eb_one (h1 : ES X W st t) : EB X W [st] t := let ⟨T, p, l⟩ := h1.ex; ⟨T, pss_one p, l⟩
theorem es_pass : ES X W (.Pass pos) rNext := ⟨_, ps_pass, fun σ σ' H S D D' rs rh h d => d.nx _ _ _ _ Fr.refl rh rs h⟩
theorem es_brk : ES X W (.Break pos) rBrk := ⟨_, ps_break, fun σ σ' H S D D' rs rh h d => d.bk _ _ _ _ Fr.refl rh rs h⟩
theorem es_cnt : ES X W (.Continue pos) rCnt := ⟨_, ps_continue, fun σ σ' H S D D' rs rh h d => d.ct _ _ _ _ Fr.refl rh rs h⟩
theorem es_expr (h : EV X W e r) (hs : swapsWith e none pos.line X.env = pure false := by rfl) : ES X W (.Expr e pos) (rDrop r) := by
  obtain ⟨T, p, l⟩ := h.ex
  refine ⟨_, ps_expr p hs, fun σ σ' H S D D' rs rh h d => ?_⟩
  exact l σ σ' H S _ _ _ rs rh h (fun _ S1 v H1 f1 rh1 dv h1 => d.nx _ _ _ _ f1 rh1 (rs.mono (f1.tle rh)) h1) (d.xi rh rs)
theorem es_ret (h : EV X W e r) : ES X W (.Return (some e) pos) (rRet r) := by
  obtain ⟨T, p, l⟩ := h.ex
  refine ⟨_, ps_ret p, fun σ σ' H S D D' rs rh h d => ?_⟩
  exact l σ σ' H S _ _ _ rs rh h d.rt (d.xi rh rs)
theorem es_retN : ES X W (.Return none pos) rRetN := ⟨_, ps_retN, fun σ σ' H S D D' rs rh h d => d.rt.here rh .non h⟩
theorem es_if {c : Expr} {a b : List Stmt} {tc : RT} (hc : ET X W c tc) (ha : EB X W a t) (hb : EB X W b u) : ES X W (.If c a b pos) (rIfS tc t u) := by
  obtain ⟨Tc, pc, lc⟩ := hc.ex
  obtain ⟨Ta, pa, la⟩ := ha.ex
  obtain ⟨Tb, pb, lb⟩ := hb.ex
  refine ⟨_, ps_if pc pa pb, fun σ σ' H S D D' rs rh h d => ?_⟩
  refine lc σ σ' H S _ _ _ rs rh h (fun b S1 H1 f1 rh1 h1 => ?_) (d.xi rh rs)
  cases b with
  | true => exact la σ σ' H1 S1 D D' (rs.mono (f1.tle rh)) rh1 h1 (d.go f1)
  | false => exact lb σ σ' H1 S1 D D' (rs.mono (f1.tle rh)) rh1 h1 (d.go f1)
theorem es_set (i : Nat) {x : Str} {pos' : Pos} (hN : X.N.Nodup) (he : EV X W e r) (hi : X.N[i]? = some x := by rfl) (hx : Loc X.env.scope x := by first | exact .inl rfl | exact .inr rfl) (hs : swapsWith e (some (.Name x pos')) pos.line X.env = pure false := by rfl)
    (hf : X.fn x = true ∨ X.env.scope.names.lookup x = some .local := by first | exact .inl rfl | exact .inr rfl | assumption) : ES X W (.Assign [.Name x pos'] e pos) (rSet r (gNm i)) := by
  obtain ⟨T, p, l⟩ := he.ex
  refine ⟨_, L2.ps_set hN hi hx p hs hf, fun σ σ' H S D D' rs rh h d => ?_⟩
  exact l σ σ' H S _ _ _ rs rh h (fun _ S1 v H1 f1 rh1 dv h1 => d.nx _ _ _ _ f1 rh1 ((rs.mono (f1.tle rh)).set dv i) h1) (d.xi rh rs)
theorem es_asg {tg : Expr} {g : RG} (he : EV X W e r) (hg : EG X W tg g) (hs : swapsWithSole [tg] e pos.line X.env = pure false := by rfl) (hw : swappedStores [tg] e X.env = pure none := by rfl)
    (h1 : (assignEach [tg] X.env).map (·.2) = [assign tg X.env] := by rfl) : ES X W (.Assign [tg] e pos) (rSet r g) := by
  obtain ⟨T, p, l⟩ := he.ex
  obtain ⟨Tg, pg, lg⟩ := hg.ex
  refine ⟨_, ps_asg p pg hs hw h1, fun σ σ' H S D D' rs rh h d => ?_⟩
  refine l σ σ' H S _ _ _ rs rh h (fun _ S1 v H1 f1 rh1 dv h1 => ?_) (d.xi rh rs)
  exact lg σ σ' H1 S1 _ _ _ _ _ (rs.mono (f1.tle rh)) rh1 dv h1 (d.go f1).nx ((d.xi rh rs).go f1)

def rPar (i j : Nat) (ra : RA) : RSt := fun D σ S => ra σ S (fun ds S1 => match ds with | [x, y] => D.nx ((σ.set i (some x)).set j (some y)) S1 | _ => False) (D.x σ)
theorem es_par {i j : Nat} {x y : Str} {a b : Expr} {ra : RA} {px py pt : Pos} {kt k2 pt2} (hc : X.calm = true) (hN : X.N.Nodup) (hij : i ≠ j) (ha : EA X W [a, b] ra) (hi : X.N[i]? = some x := by rfl) (hj : X.N[j]? = some y := by rfl)
    (hx : X.env.scope.names.lookup x = some .local := by rfl) (hy : X.env.scope.names.lookup y = some .local := by rfl)
    (hw : swappedStores [.Tuple [.Name x px, .Name y py] kt pt] (.Tuple [a, b] k2 pt2) X.env = pure (some [x, y]) := by rfl)
    (hs : swapsWithSole [.Tuple [.Name x px, .Name y py] kt pt] (.Tuple [a, b] k2 pt2) pos.line X.env = pure false := by rfl) :
    ES X W (.Assign [.Tuple [.Name x px, .Name y py] kt pt] (.Tuple [a, b] k2 pt2) pos) (rPar i j ra) := by
  obtain ⟨T, p, l⟩ := ha.ex
  refine ⟨_, ps_par hc hN hi hj hij hx hy p hw hs, fun σ σ' H S D D' rs rh h d => ?_⟩
  refine l σ σ' H S _ _ _ rs rh h (fun ds S1 v H1 f1 rh1 dv h1 => ?_) (d.xi rh rs)
  match ds, dv, h1 with
  | [x, y], .cons dx (.cons dy .nil), h1 => exact ⟨_, _, rfl, d.nx _ _ _ _ f1 rh1 (((rs.mono (f1.tle rh)).set dx i).set dy j) h1⟩
/-! ### what is walked -/
structure ItOk (K : PySem.W.Frag) (S1 : Hq) (H1 : Hp) (J : It) (xs : List D) (g : Hq → Prop) : Prop where
  stop : ∀ S H, Fr S1 H1 S H → RH K S H → g S → J.stop xs.length H
  go : ∀ (i : Nat) x S H, xs[i]? = some x → Fr S1 H1 S H → RH K S H → g S → J.go i H
  yld : ∀ (i : Nat) x S H v H', xs[i]? = some x → Fr S1 H1 S H → RH K S H → g S → J.yld i H v H' → Fr S H S H' ∧ RH K S H' ∧ DV K H' x v
abbrev RI := Sg → Hq → (List D → (Hq → Prop) → Hq → Prop) → Xw → Prop
structure EI (X : Cx) (W : WX) (tg it : Expr) (t : RI) : Prop where
  ex : ∃ wi, PI X tg it wi ∧ ∀ (σ : L2.St) (σ' : Sg) (H : Hp) (S : Hq) (R : It → Hp → Prop) (R' : List D → (Hq → Prop) → Hq → Prop) (E' : Xw), RS X.K H σ' σ → RH X.K S H → t σ' S R' E' →
    (∀ J xs g S' H', Fr S H S' H' → RH X.K S' H' → ItOk X.K S' H' J xs g → R' xs g S' → R J H') → XI X.K S H E' (wx W σ) → wi σ H R
/-- the turns over what is left -/
def loopP (gd : Hq → Prop) (g : RG) (tb : RSt) : List D → RSt
  | [] => fun D σ S => gd S ∧ D.nx σ S
  | x :: r => fun D σ S => gd S ∧ g x σ S (fun σ2 S2 => tb { D with nx := loopP gd g tb r D, ct := loopP gd g tb r D, bk := D.nx } σ2 S2) (D.x σ)
def rFor (ri : RI) (g : RG) (tb : RSt) : RSt := fun D σ S => ri σ S (fun xs gd S1 => loopP gd g tb xs D σ S1) (D.x σ)
theorem es_for {tg it : Expr} {body : List Stmt} {ri : RI} {g : RG} {tb : RSt} (hp : PassesOwn (model X.prog X.w) X.A X.env X.xe) (hc : X.calm = true) (hi : EI X W tg it ri) (hg : EG X W tg g) (hb : EB X W body tb)
    (hs : ∀ x, foldedSetIterable it X.env x = pure x := by intro _; rfl) : ES X W (.For tg it body [] pos) (rFor ri g tb) := by
  obtain ⟨wi, pi, li⟩ := hi.ex
  obtain ⟨Tg, pg, lg⟩ := hg.ex
  obtain ⟨Tb, pb, lb⟩ := hb.ex
  refine ⟨_, ps_for hp hc pi pg pb hs, fun σ σ' H S D D' rs rh h d => ?_⟩
  refine li σ σ' H S _ _ _ rs rh h (fun J xs gd S1 H1 f1 rh1 ok h1 => ?_) (d.xi rh rs)
  refine ⟨fun i m σ2 H2 => ∃ σ2' S2, i + m = xs.length ∧ Fr S1 H1 S2 H2 ∧ RS X.K H2 σ2' σ2 ∧ RH X.K S2 H2 ∧ loopP gd g tb (xs.drop i) D' σ2' S2, ⟨xs.length, σ', S1, by omega, Fr.refl, rs.mono (f1.tle rh), rh1, by simpa using h1⟩, ?_⟩
  rintro i m σ2 H2 ⟨σ2', S2, em, f2, rs2, rh2, h2⟩
  have d2 := d.go (f1.trans f2)
  by_cases hi : i < xs.length
  · obtain ⟨x, hx⟩ : ∃ x, xs[i]? = some x := ⟨_, List.getElem?_eq_getElem hi⟩
    have hd : xs.drop i = x :: xs.drop (i + 1) := by
      rw [List.drop_eq_getElem_cons hi]
      rw [List.getElem?_eq_getElem hi] at hx
      rw [Option.some.inj hx]
    rw [hd] at h2
    obtain ⟨gd2, h2⟩ := h2
    refine .inr ⟨ok.go i x S2 H2 hx f2 rh2 gd2, fun σ3 H3 => ∃ σ3' S3, Fr S1 H1 S3 H3 ∧ RS X.K H3 σ3' σ3 ∧ RH X.K S3 H3 ∧ loopP gd g tb (xs.drop (i + 1)) D' σ3' S3, fun σ3 H3 ⟨σ3', S3, f3, rs3, rh3, h3⟩ => ⟨m - 1, by omega, σ3', S3, by omega, f3, rs3, rh3, h3⟩, fun v H3 hy => ?_⟩
    obtain ⟨f3, rh3, dv⟩ := ok.yld i x S2 H2 v H3 hx f2 rh2 gd2 hy
    have rs3 := rs2.mono (f3.tle rh2)
    refine lg σ2 σ2' H3 S2 x v _ _ _ rs3 rh3 dv h2 (fun σ4' S4 σ4 H4 f4 rh4 rs4 h4 => ?_) ((d2.go f3).xi rh3 rs3)
    have d4 := d2.go (f3.trans f4)
    have f24 := f2.trans (f3.trans f4)
    refine lb σ4 σ4' H4 S4 _ _ rs4 rh4 h4 ⟨fun σ5' S5 σ5 H5 f5 rh5 rs5 h5 => ⟨σ5', S5, f24.trans f5, rs5, rh5, h5⟩, d4.rt, d4.nx, fun σ5' S5 σ5 H5 f5 rh5 rs5 h5 => ⟨σ5', S5, f24.trans f5, rs5, rh5, h5⟩, d4.ex⟩
  · have hn : xs.drop i = [] := List.drop_eq_nil_of_le (by omega)
    rw [hn] at h2
    have ei : i = xs.length := by omega
    subst ei
    exact .inl ⟨ok.stop S2 H2 f2 rh2 h2.1, d2.nx _ _ _ _ Fr.refl rh2 rs2 h2.2⟩
def rWhile (c : RT) (tb : RSt) : RSt := fun D σ S => ∃ P : Nat → Sg → Hq → Prop, (∃ m, P m σ S) ∧ ∀ m σ S, P m σ S →
  c σ S (fun b S1 => if b = true then tb { D with nx := fun σ' S' => ∃ m', m' < m ∧ P m' σ' S', ct := fun σ' S' => ∃ m', m' < m ∧ P m' σ' S', bk := D.nx } σ S1 else D.nx σ S1) (D.x σ)
theorem es_while {c : Expr} {body : List Stmt} {tc : RT} {tb : RSt} (hp : PassesOwn (model X.prog X.w) X.A X.env X.xe) (hc : ET X W c tc) (hb : EB X W body tb) : ES X W (.While c body [] pos) (rWhile tc tb) := by
  obtain ⟨Tc, pc, lc⟩ := hc.ex
  obtain ⟨Tb, pb, lb⟩ := hb.ex
  refine ⟨_, ps_while hp pc pb, fun σ σ' H S D D' rs rh h d => ?_⟩
  obtain ⟨P, ⟨m0, h0⟩, hP⟩ := h
  refine ⟨fun m σ2 H2 => ∃ σ2' S2, Fr S H S2 H2 ∧ RS X.K H2 σ2' σ2 ∧ RH X.K S2 H2 ∧ P m σ2' S2, ⟨m0, σ', S, Fr.refl, rs, rh, h0⟩, ?_⟩
  rintro m σ2 H2 ⟨σ2', S2, f2, rs2, rh2, h2⟩
  have d2 := d.go f2
  refine lc σ2 σ2' H2 S2 _ _ _ rs2 rh2 (hP m σ2' S2 h2) (fun b S3 H3 f3 rh3 h3 => ?_) (d2.xi rh2 rs2)
  have d3 := d2.go f3
  have rs3 := rs2.mono (f3.tle rh2)
  cases b with
  | false => exact d3.nx _ _ _ _ Fr.refl rh3 rs3 h3
  | true =>
    refine ⟨fun σ4 H4 => ∃ σ4' S4, Fr S H S4 H4 ∧ RS X.K H4 σ4' σ4 ∧ RH X.K S4 H4 ∧ ∃ m', m' < m ∧ P m' σ4' S4, fun σ4 H4 ⟨σ4', S4, f4, rs4, rh4, m', lm, h4⟩ => ⟨m', lm, σ4', S4, f4, rs4, rh4, h4⟩, ?_⟩
    have f23 := f2.trans f3
    exact lb σ2 σ2' H3 S3 _ _ rs3 rh3 h3 ⟨fun σ5' S5 σ5 H5 f5 rh5 rs5 h5 => ⟨σ5', S5, f23.trans f5, rs5, rh5, h5⟩, d3.rt, d3.nx, fun σ5' S5 σ5 H5 f5 rh5 rs5 h5 => ⟨σ5', S5, f23.trans f5, rs5, rh5, h5⟩, d3.ex⟩
/-! sources -/
def seqD (x : D) (S1 : Hq) (R : List D → (Hq → Prop) → Hq → Prop) : Prop := match x with
  | .tup xs => R xs (fun _ => True) S1
  | _ => False
def lstD (x : D) (S1 : Hq) (R : List D → (Hq → Prop) → Hq → Prop) : Prop := match x with
  | .ref a => ∃ xs, LsR S1 a xs ∧ R xs (fun S => LsR S a xs) S1
  | .kl xs => R xs (fun _ => True) S1
  | _ => False
def iSeq (r : RE) : RI := fun σ S R E => r σ S (fun x S1 => seqD x S1 R) E
def iLst (r : RE) : RI := fun σ S R E => r σ S (fun x S1 => lstD x S1 R) E
theorem it_tup {K : PySem.W.Frag} {S1 : Hq} {H1 : Hp} {a : Addr} {xs : List D} {vs : List V} (rh1 : RH K S1 H1) (s : SqT K H1 a vs) (r : DVs K H1 xs vs) : ItOk K S1 H1 (Itt K a) xs (fun _ => True) :=
  ⟨fun S H f rh _ => ⟨vs, (f.tle rh1).t _ _ s, by rw [r.length]; exact Nat.le_refl _⟩,
   fun i x S H hx f rh _ => let ⟨v, hv, _⟩ := r.get hx; ⟨vs, v, (f.tle rh1).t _ _ s, hv⟩,
   fun i x S H v H' hx f rh _ hy => by
    obtain ⟨rfl, hy⟩ := hy
    obtain ⟨w, hw, dw⟩ := r.get hx
    have e := hy vs ((f.tle rh1).t _ _ s)
    rw [hw] at e; cases e
    exact ⟨Fr.refl, rh, DV.mono (f.tle rh1) _ _ dw⟩⟩
theorem it_lst {K : PySem.W.Frag} {S1 : Hq} {H1 : Hp} {a : Addr} {xs : List D} : ItOk K S1 H1 (Itl K a) xs (fun S => LsR S a xs) :=
  ⟨fun S H f rh g => let ⟨vs, s, r⟩ := rh.sql g; ⟨vs, s, by rw [r.length]; exact Nat.le_refl _⟩,
   fun i x S H hx f rh g => let ⟨vs, s, r⟩ := rh.sql g; let ⟨v, hv, _⟩ := r.get hx; ⟨vs, v, s, hv⟩,
   fun i x S H v H' hx f rh g hy => by
    obtain ⟨rfl, hy⟩ := hy
    obtain ⟨vs, s, r⟩ := rh.sql g
    obtain ⟨w, hw, dw⟩ := r.get hx
    have e := hy vs s
    rw [hw] at e; cases e
    exact ⟨Fr.refl, rh, dw⟩⟩
theorem it_kl {K : PySem.W.Frag} {S1 : Hq} {H1 : Hp} {a : Addr} {xs : List D} {vs : List V} (rh1 : RH K S1 H1) (s : SqF K H1 a vs) (r : DVs K H1 xs vs) : ItOk K S1 H1 (Itl K a) xs (fun _ => True) :=
  ⟨fun S H f rh _ => ⟨vs, ((f.tle rh1).f _ _ s).sql, by rw [r.length]; exact Nat.le_refl _⟩,
   fun i x S H hx f rh _ => let ⟨v, hv, _⟩ := r.get hx; ⟨vs, v, ((f.tle rh1).f _ _ s).sql, hv⟩,
   fun i x S H v H' hx f rh _ hy => by
    obtain ⟨rfl, hy⟩ := hy
    obtain ⟨w, hw, dw⟩ := r.get hx
    have e := hy vs ((f.tle rh1).f _ _ s).sql
    rw [hw] at e; cases e
    exact ⟨Fr.refl, rh, DV.mono (f.tle rh1) _ _ dw⟩⟩
theorem ei_seq {tg : Expr} (h : EV X W e r) : EI X W tg e (iSeq r) := by
  obtain ⟨T, p, l⟩ := h.ex
  refine ⟨_, pi_tup p, fun σ σ' H S R R' E' rs rh h q xi => ?_⟩
  refine l σ σ' H S _ _ _ rs rh h (fun x S1 v H1 f1 rh1 dv h1 => ?_) xi
  cases dv with
  | tup s r => exact ⟨_, rfl, ⟨_, s.1⟩, q _ _ _ _ _ f1 rh1 (it_tup rh1 s r) h1⟩
  | _ => exact h1.elim
theorem ei_lst {tg : Expr} (h : EV X W e r) : EI X W tg e (iLst r) := by
  obtain ⟨T, p, l⟩ := h.ex
  refine ⟨_, pi_list p, fun σ σ' H S R R' E' rs rh h q xi => ?_⟩
  refine l σ σ' H S _ _ _ rs rh h (fun x S1 v H1 f1 rh1 dv h1 => ?_) xi
  cases dv with
  | ref a =>
    obtain ⟨xs, g, h1⟩ := h1
    obtain ⟨vs, s, r⟩ := rh1.sql g
    exact ⟨_, rfl, ⟨_, s⟩, q _ _ _ _ _ f1 rh1 it_lst h1⟩
  | kl s r => exact ⟨_, rfl, ⟨_, s.sql⟩, q _ _ _ _ _ f1 rh1 (it_kl rh1 s r) h1⟩
  | _ => exact h1.elim
def rangeD (lo : Int) (n : Nat) : List D := (List.range n).map fun (i : Nat) => D.int (lo + i)
theorem rangeD_get {lo : Int} {n i : Nat} {x : D} (h : (rangeD lo n)[i]? = some x) : i < n ∧ x = .int (lo + i) := by
  unfold rangeD at h
  rw [List.getElem?_map] at h
  by_cases hi : i < n
  · rw [List.getElem?_range hi] at h; exact ⟨hi, (Option.some.inj h).symm⟩
  · rw [List.getElem?_eq_none (by simpa using hi)] at h; cases h
theorem rangeD_len {lo : Int} {n : Nat} : (rangeD lo n).length = n := by simp [rangeD]
theorem it_rng {K : PySem.W.Frag} {S1 : Hq} {H1 : Hp} {lo : Int} {n : Nat} : ItOk K S1 H1 (Itr lo n) (rangeD lo n) (fun _ => True) :=
  ⟨fun S H f rh _ => by rw [rangeD_len]; exact Nat.le_refl _, fun i x S H hx f rh _ => (rangeD_get hx).1, fun i x S H v H' hx f rh _ hy => by
    obtain ⟨rfl, rfl⟩ := hy
    rw [(rangeD_get hx).2]
    exact ⟨Fr.refl, rh, .int _⟩⟩
def rngD (ds : List D) (S1 : Hq) (R : List D → (Hq → Prop) → Hq → Prop) : Prop := match ds with
  | [.int j] => (-(2 ^ 62) ≤ j ∧ j < 2 ^ 62) ∧ R (rangeD 0 j.toNat) (fun _ => True) S1
  | _ => False
def rng2D (ds : List D) (S1 : Hq) (R : List D → (Hq → Prop) → Hq → Prop) : Prop := match ds with
  | [.int i, .int j] => (-(2 ^ 62) ≤ i ∧ i < 2 ^ 62 ∧ -(2 ^ 62) ≤ j ∧ j < 2 ^ 62) ∧ R (rangeD i (j - i).toNat) (fun _ => True) S1
  | _ => False
def iRg1 (ra : RA) : RI := fun σ S R E => ra σ S (fun ds S1 => rngD ds S1 R) E
def iRg2 (ra : RA) : RI := fun σ S R E => ra σ S (fun ds S1 => rng2D ds S1 R) E
theorem ei_rg1 {tg a : Expr} {ra : RA} {p : Pos} (hm : X.mg "range" = none) (ha : EA X W [a] ra) (hg : Gl X "range" := by rfl) (hs : starEach [a] X.env = [(false, eval a X.env)] := by rfl) : EI X W tg (.Call (.Name "range" p) [a] [] pos) (iRg1 ra) := by
  obtain ⟨T, pp, l⟩ := ha.ex
  refine ⟨_, pi_range1 hg hm pp hs, fun σ σ' H S R R' E' rs rh h q xi => ?_⟩
  refine l σ σ' H S _ _ _ rs rh h (fun ds S1 v H1 f1 rh1 dv h1 => ?_) xi
  match ds, dv, h1 with
  | [.int j], .cons (.int _) .nil, h1 => exact ⟨j, rfl, h1.1.1, h1.1.2, q _ _ _ _ _ f1 rh1 it_rng h1.2⟩
theorem ei_rg2 {tg a b : Expr} {ra : RA} {p : Pos} (hm : X.mg "range" = none) (ha : EA X W [a, b] ra) (hg : Gl X "range" := by rfl) (hs : starEach [a, b] X.env = [(false, eval a X.env), (false, eval b X.env)] := by rfl) (hs2 : starEach [b] X.env = [(false, eval b X.env)] := by rfl) :
    EI X W tg (.Call (.Name "range" p) [a, b] [] pos) (iRg2 ra) := by
  obtain ⟨T, pp, l⟩ := ha.ex
  refine ⟨_, pi_range2 hg hm pp hs hs2, fun σ σ' H S R R' E' rs rh h q xi => ?_⟩
  refine l σ σ' H S _ _ _ rs rh h (fun ds S1 v H1 f1 rh1 dv h1 => ?_) xi
  match ds, dv, h1 with
  | [.int i, .int j], .cons (.int _) (.cons (.int _) .nil), h1 => exact ⟨i, j, rfl, h1.1, q _ _ _ _ _ f1 rh1 it_rng h1.2⟩
/-- zip of two -/
def zipD : List D → List D → List D
  | x :: xs, y :: ys => .tup [x, y] :: zipD xs ys
  | _, _ => []
theorem zipD_get : ∀ {xs ys : List D} {i : Nat} {z : D}, (zipD xs ys)[i]? = some z → ∃ x y, xs[i]? = some x ∧ ys[i]? = some y ∧ z = .tup [x, y]
  | x :: xs, y :: ys, 0, z, h => ⟨x, y, rfl, rfl, (Option.some.inj h).symm⟩
  | x :: xs, y :: ys, i + 1, z, h => by
    obtain ⟨a, b, p, q, r⟩ := zipD_get (xs := xs) (ys := ys) (i := i) (by simpa [zipD] using h)
    exact ⟨a, b, by simpa using p, by simpa using q, r⟩
  | [], _, _, _, h => by simp [zipD] at h
  | _ :: _, [], _, _, h => by simp [zipD] at h
theorem zipD_len : ∀ {xs ys : List D}, (zipD xs ys).length = min xs.length ys.length
  | x :: xs, y :: ys => by simp only [zipD, List.length_cons, zipD_len]; omega
  | [], _ => by simp [zipD]
  | _ :: _, [] => by simp [zipD]
theorem it_zipT {K : PySem.W.Frag} {S1 : Hq} {H1 : Hp} {a b : Addr} {xs ys : List D} {vs us : List V} (rh1 : RH K S1 H1) (s : SqT K H1 a vs) (r : DVs K H1 xs vs) (s2 : SqT K H1 b us) (r2 : DVs K H1 ys us) : ItOk K S1 H1 (RZ.ItzT K a b) (zipD xs ys) (fun _ => True) := by
  refine ⟨fun S H f rh _ => ⟨vs, us, (f.tle rh1).t _ _ s, (f.tle rh1).t _ _ s2, by rw [zipD_len, ← r.length, ← r2.length]; omega⟩, fun i x S H hx f rh _ => ?_, fun i x S H v H' hx f rh _ hy => ?_⟩
  · obtain ⟨x1, y1, h1, h2, _⟩ := zipD_get hx
    obtain ⟨v, hv, _⟩ := r.get h1
    obtain ⟨u, hu, _⟩ := r2.get h2
    exact ⟨vs, us, v, u, (f.tle rh1).t _ _ s, (f.tle rh1).t _ _ s2, hv, hu⟩
  · obtain ⟨x1, y1, h1, h2, rfl⟩ := zipD_get hx
    obtain ⟨v', hv, dv⟩ := r.get h1
    obtain ⟨u', hu, du⟩ := r2.get h2
    obtain ⟨T, x2, y2, rfl, hT, rfl, e1, e2⟩ := hy
    have e1 := e1 vs ((f.tle rh1).t _ _ s)
    have e2 := e2 us ((f.tle rh1).t _ _ s2)
    rw [hv] at e1; cases e1
    rw [hu] at e2; cases e2
    have t := (f.tle rh1)
    have f' := Fr.new (o := .tup [v', u']) rh hT
    exact ⟨f', rh.new hT, .tup (.new upd_same) (.cons (DV.mono (f'.tle rh) _ _ (DV.mono t _ _ dv)) (.cons (DV.mono (f'.tle rh) _ _ (DV.mono t _ _ du)) .nil))⟩
theorem it_zipL {K : PySem.W.Frag} {S1 : Hq} {H1 : Hp} {a b : Addr} {xs ys : List D} : ItOk K S1 H1 (Itz K a b) (zipD xs ys) (fun S => LsR S a xs ∧ LsR S b ys) := by
  refine ⟨fun S H f rh g => ?_, fun i x S H hx f rh g => ?_, fun i x S H v H' hx f rh g hy => ?_⟩
  · obtain ⟨vs, s, r⟩ := rh.sql g.1
    obtain ⟨us, s2, r2⟩ := rh.sql g.2
    exact ⟨vs, us, s, s2, by rw [zipD_len, ← r.length, ← r2.length]; omega⟩
  · obtain ⟨vs, s, r⟩ := rh.sql g.1
    obtain ⟨us, s2, r2⟩ := rh.sql g.2
    obtain ⟨x1, y1, h1, h2, _⟩ := zipD_get hx
    obtain ⟨v, hv, _⟩ := r.get h1
    obtain ⟨u, hu, _⟩ := r2.get h2
    exact ⟨vs, us, v, u, s, s2, hv, hu⟩
  · obtain ⟨vs, s, r⟩ := rh.sql g.1
    obtain ⟨us, s2, r2⟩ := rh.sql g.2
    obtain ⟨x1, y1, h1, h2, rfl⟩ := zipD_get hx
    obtain ⟨v', hv, dv⟩ := r.get h1
    obtain ⟨u', hu, du⟩ := r2.get h2
    obtain ⟨T, x2, y2, rfl, hT, rfl, e1, e2⟩ := hy
    have e1 := e1 vs s
    have e2 := e2 us s2
    rw [hv] at e1; cases e1
    rw [hu] at e2; cases e2
    have f' := Fr.new (o := .tup [v', u']) rh hT
    exact ⟨f', rh.new hT, .tup (.new upd_same) (.cons (DV.mono (f'.tle rh) _ _ dv) (.cons (DV.mono (f'.tle rh) _ _ du) .nil))⟩
end
end Y
namespace Y
open PySem PySem.Spec PyProof.Rows L2
def zpD (ds : List D) (S1 : Hq) (R : List D → (Hq → Prop) → Hq → Prop) : Prop := match ds with
  | [.tup xs, .tup ys] => R (zipD xs ys) (fun _ => True) S1
  | [.ref a, .ref b] => ∃ xs ys, LsR S1 a xs ∧ LsR S1 b ys ∧ R (zipD xs ys) (fun S => LsR S a xs ∧ LsR S b ys) S1
  | _ => False
def iZp (ra : RA) : RI := fun σ S R E => ra σ S (fun ds S1 => zpD ds S1 R) E
section
variable {X : Cx} {W : WX} {e e2 : Expr} {r : RE} {pos : Pos}
theorem ei_zip {ra : RA} {p tpos : Pos} {elts : List Expr} {kk : Nat} (hm : X.mg "zip" = none) (ha : EA X W [e, e2] ra) (hg : Gl X "zip" := by rfl)
    (hs : starEach [e, e2] X.env = (false, eval e X.env) :: starEach [e2] X.env := by rfl) (hs2 : (backTo pos (starEach [e2] X.env)).any (·.1) = false := by rfl) :
    EI X W (.Tuple elts kk tpos) (.Call (.Name "zip" p) [e, e2] [] pos) (iZp ra) := by
  obtain ⟨T, pp, l⟩ := ha.ex
  refine ⟨_, RZ.pi_zipA hg hm pp hs hs2, fun σ σ' H S R R' E' rs rh h q xi => ?_⟩
  refine l σ σ' H S _ _ _ rs rh h (fun ds S1 v H1 f1 rh1 dv h1 => ?_) xi
  match ds, dv, h1 with
  | [.tup xs, .tup ys], .cons (.tup s r) (.cons (.tup s2 r2) .nil), h1 => exact ⟨_, _, _, _, rfl, .inr ⟨s.1, s2.1, q _ _ _ _ _ f1 rh1 (it_zipT rh1 s r s2 r2) h1⟩⟩
  | [.ref a, .ref b], .cons (.ref _) (.cons (.ref _) .nil), h1 =>
    obtain ⟨xs, ys, g, g2, h1⟩ := h1
    obtain ⟨vs, s, r⟩ := rh1.sql g
    obtain ⟨us, s2, r2⟩ := rh1.sql g2
    exact ⟨_, _, _, _, rfl, .inl ⟨s, s2, q _ _ _ _ _ f1 rh1 it_zipL h1⟩⟩

/-! ### comprehensions -/
def wipeD (σ : Sg) : List Nat → Sg
  | [] => σ
  | v :: vs => (wipeD σ vs).set v none
theorem RS.wipe {K : PySem.W.Frag} {H : Hp} {σ' : Sg} {σ : L2.St} (x : RS K H σ' σ) : ∀ vs : List Nat, RS K H (wipeD σ' vs) (L2.wipe σ vs)
  | [] => x
  | v :: vs => by
    have ih := RS.wipe x vs
    refine ⟨by simp [wipeD, L2.wipe, ih.len], fun i d e => ?_⟩
    unfold wipeD at e
    unfold L2.wipe
    by_cases c : v = i
    · subst c
      by_cases hi : v < (wipeD σ' vs).length
      · rw [List.getElem?_set_self hi] at e; cases e
      · rw [List.getElem?_eq_none (by simpa using hi)] at e; cases e
    · rw [List.getElem?_set_ne c] at e ⊢
      exact ih.get i d e
/-- a test ahead of an element -/
structure EP1 (X : Cx) (W : WX) (ifs : List Expr) (t : RT) : Prop where
  ex : ∃ T, PTs X ifs T ∧ ∀ (σ : L2.St) (σ' : Sg) (H : Hp) (S : Hq) (Q : Bool → Hp → Prop) (Q' : Bool → Hq → Prop) (E' : Xw), RS X.K H σ' σ → RH X.K S H → t σ' S Q' E' → QT X.K S H Q' Q → XI X.K S H E' (wx W σ) → T σ H Q
def rYes : RT := fun _ S Q _ => Q true S
theorem ep_nil : EP1 X W [] rYes := ⟨_, pts_nil, fun σ σ' H S Q Q' E' rs rh h q xi => q _ _ _ Fr.refl rh h⟩
theorem ep_one {c : Expr} {t : RT} (h : ET X W c t) : EP1 X W [c] t := let ⟨T, p, l⟩ := h.ex; ⟨T, pts_one p, l⟩
theorem EP1.pe {ifs : List Expr} {t : RT} (h : EP1 X W ifs t) : PTs X ifs (dnT X.K W t) := by
  obtain ⟨T, p, l⟩ := h.ex
  exact ⟨fun pins s σ H Q I ⟨σ', S, Q', E', a, b, c, d, x⟩ => p.run pins s σ H Q I (l σ σ' H S Q Q' E' a b c d x)⟩
abbrev W0 : WX := fun _ _ _ _ => False
/-- the elements, one by one; vs: the slots of the comprehension's own names -/
def lcP (gd : Hq → Prop) (g : RG) (tt : RT) (te : RE) (vs : List Nat) (σ : Sg) (Q : List D → Hq → Prop) : List D → List D → Hq → Prop
  | [], acc, S => gd S ∧ Q acc S
  | x :: r, acc, S => gd S ∧ g x (wipeD σ vs) S (fun σ2 S2 => tt σ2 S2 (fun b S3 => if b = true then te σ2 S3 (fun y S4 => acc.length < 1000000 ∧ lcP gd g tt te vs σ Q r (acc ++ [y]) S4) NoX else lcP gd g tt te vs σ Q r acc S3) NoX) NoX
def rLc (ri : RI) (g : RG) (tt : RT) (te : RE) (vs : List Nat) : RE := fun σ S Q E => ri σ S (fun xs gd S1 => lcP gd g tt te vs σ (fun acc S2 => ∀ p, S2 p = none → Q (.ref p) (up S2 p (.lst acc))) xs [] S1) E
/-- targets that keep to their slots -/
structure Keeps (T : TG) (g : RG) (vs : List Nat) (K : PySem.W.Frag) : Prop where
  to : ∀ (σ : L2.St) (σ' : Sg) (H : Hp) (S : Hq) (d : D) (v : V) (N : L2.St → Hp → Prop) (N' : Sg → Hq → Prop), RS K H σ' (L2.wipe σ vs) → RH K S H → DV K H d v → g d σ' S N' NoX → (∀ σ2' σ2, L2.wipe σ2 vs = L2.wipe σ vs → RS K H σ2' σ2 → N' σ2' S → N σ2 H) → T v (L2.wipe σ vs) H N
theorem wipe1 (σ : L2.St) (i : Nat) (x : Option V) : (((σ.set i none).set i x).set i none : L2.St) = σ.set i none := by
  rw [List.set_set, List.set_set]
theorem keeps_nm {i : Nat} {K : PySem.W.Frag} : Keeps (gName i) (gNm i) [i] K :=
  ⟨fun σ σ' H S d v N N' rs rh dv h n => n _ _ (wipe1 σ i _) (rs.set dv i) h⟩
theorem lc_run {K : PySem.W.Frag} {W : WX} {J : It} {gd : Hq → Prop} {T : TG} {g : RG} {tt : RT} {te : RE} {vs : List Nat} {σ : L2.St} {σ' : Sg} {S1 : Hq} {H1 : Hp} {xs : List D} {Q : VK} {Q' : Qv} (kp : Keeps T g vs K)
    (rs : RS K H1 σ' σ) (rh : RH K S1 H1) (ok : ItOk K S1 H1 J xs gd) (q : QI K S1 H1 Q' Q) (h : lcP gd g tt te vs σ' (fun acc S2 => ∀ p, S2 p = none → Q' (.ref p) (up S2 p (.lst acc))) xs [] S1) :
    ∀ Dd, H1 Dd = none → ∃ W : Nat → Nat → Hp → Prop, (∃ m, W 0 m (upd H1 Dd (.lst []))) ∧ ∀ i m H, W i m H →
      (J.stop i H ∧ Q (.ref Dd) H) ∨ (J.go i H ∧ ∃ Nx : Hp → Prop, (∀ H', Nx H' → ∃ m', m' < m ∧ W (i + 1) m' H') ∧ ∀ x H', J.yld i H x H' → T x (L2.wipe σ vs) H' fun σ2 H2 => L2.wipe σ2 vs = L2.wipe σ vs ∧ dnT K W0 tt σ2 H2 fun b H3 =>
        if b = true then dnE K W0 te σ2 H3 fun y H4 => ∃ acc, H4 Dd = some (.lst acc) ∧ acc.length < sizeLine ∧ Nx (upd H4 Dd (.lst (acc ++ [y]))) else Nx H3) := by
  intro Dd hD
  have fD : Fr S1 H1 S1 (upd H1 Dd (.lst [])) := Fr.new rh hD
  refine ⟨fun i m H => ∃ S acc acc', i + m = xs.length ∧ Fr S1 H1 S H ∧ RH K S H ∧ H Dd = some (.lst acc) ∧ S Dd = none ∧ DVs K H acc' acc ∧ lcP gd g tt te vs σ' (fun acc S2 => ∀ p, S2 p = none → Q' (.ref p) (up S2 p (.lst acc))) (xs.drop i) acc' S,
    ⟨xs.length, S1, [], [], by omega, fD, rh.new hD, upd_same, rh.fresh hD, .nil, by simpa using h⟩, ?_⟩
  rintro i m H ⟨S, acc, acc', em, f, rh2, eD, nD, da, h⟩
  by_cases hi : i < xs.length
  · obtain ⟨x, hx⟩ : ∃ x, xs[i]? = some x := ⟨_, List.getElem?_eq_getElem hi⟩
    have hd : xs.drop i = x :: xs.drop (i + 1) := by
      rw [List.drop_eq_getElem_cons hi]
      rw [List.getElem?_eq_getElem hi] at hx
      rw [Option.some.inj hx]
    rw [hd] at h
    obtain ⟨g2, h⟩ := h
    refine .inr ⟨ok.go i x S H hx f rh2 g2, fun H => ∃ S acc acc', Fr S1 H1 S H ∧ RH K S H ∧ H Dd = some (.lst acc) ∧ S Dd = none ∧ DVs K H acc' acc ∧ lcP gd g tt te vs σ' (fun acc S2 => ∀ p, S2 p = none → Q' (.ref p) (up S2 p (.lst acc))) (xs.drop (i + 1)) acc' S,
      fun H ⟨S, acc, acc', a, b, c, d, e, f⟩ => ⟨m - 1, by omega, S, acc, acc', by omega, a, b, c, d, e, f⟩, fun v H3 hy => ?_⟩
    obtain ⟨f3, rh3, dv⟩ := ok.yld i x S H v H3 hx f rh2 g2 hy
    have f03 := f.trans f3
    obtain ⟨eD3, nD3⟩ := f3 Dd _ eD nD
    refine kp.to σ (wipeD σ' vs) H3 S x v _ _ ((rs.mono (f03.tle rh)).wipe vs) rh3 dv h fun σ2' σ2 ew rs2 h2 => ⟨ew, σ2', S, _, NoX, rs2, rh3, h2, fun b S4 H4 f4 rh4 h4 => ?_, XI.no⟩
    have f04 := f03.trans f4
    obtain ⟨eD4, nD4⟩ := f4 Dd _ eD3 nD3
    have da4 := DVs.mono ((f3.trans f4).tle rh2) _ _ da
    cases b with
    | false => exact ⟨S4, acc, acc', f04, rh4, eD4, nD4, da4, h4⟩
    | true =>
      refine ⟨σ2', S4, _, NoX, rs2.mono (f4.tle rh3), rh4, h4, fun y S5 u H5 f5 rh5 dy h5 => ?_, XI.no⟩
      obtain ⟨eD5, nD5⟩ := f5 Dd _ eD4 nD4
      have da5 := DVs.mono (f5.tle rh4) _ _ da4
      refine ⟨acc, eD5, by rw [← da5.length]; exact big_lt h5.1, S5, acc ++ [u], acc' ++ [y], ?_, ?_, upd_same, nD5, ?_, h5.2⟩
      · intro b o e n
        obtain ⟨e', n'⟩ := (f04.trans f5) b o e n
        have hb : b ≠ Dd := fun z => by rw [z, hD] at e; cases e
        exact ⟨by rw [upd_ne hb]; exact e', n'⟩
      all_goals
        have t : Tle K H5 (upd H5 Dd (.lst (acc ++ [u]))) := by
          refine ⟨fun a xs hq => ?_, fun a xs hq => ?_, fun a xs hq => by rw [upd_ne (fun z => by rw [z, eD5] at hq; cases hq)]; exact hq⟩
          · rcases hq with (hq | ⟨o, hq⟩) | hq
            · exact .inl (.inl (by rw [upd_ne (fun z => by rw [z, eD5] at hq; cases hq)]; exact hq))
            · exact .inl (.inr ⟨o, by rw [upd_ne (fun z => by rw [z, eD5] at hq; cases hq)]; exact hq⟩)
            · exact .inr hq
          · rcases hq with ⟨o, hq⟩ | hq
            · exact .inl ⟨o, by rw [upd_ne (fun z => by rw [z, eD5] at hq; cases hq)]; exact hq⟩
            · exact .inr hq
      · intro b o e
        have hb : b ≠ Dd := fun z => by rw [z, nD5] at e; cases e
        exact (rh5 b o e).stay t (fun c q e n => ⟨by rw [upd_ne (fun z => by rw [z, eD5] at e; cases e)]; exact e, n⟩) (upd_ne hb)
      · exact DVs.mono t _ _ (da5.app (.cons dy .nil))
  · have hn : xs.drop i = [] := List.drop_eq_nil_of_le (by omega)
    rw [hn] at h
    have ei : i = xs.length := by omega
    subst ei
    refine .inl ⟨ok.stop S H f rh2 h.1, ?_⟩
    -- the list is tracked from now on
    have r2 : RH K (up S Dd (.lst acc')) H := fun b o e => by
      by_cases hb : b = Dd
      · subst hb; rw [up_same] at e; cases e; exact ⟨acc, eD, da⟩
      · rw [up_ne hb] at e
        exact (rh2 b o e).stay Tle.refl (fun c q e n => ⟨e, by rw [up_ne (fun z => by rw [z, eD] at e; cases e)]; exact n⟩) rfl
    refine q (.ref Dd) _ _ _ (fun b o e n => ?_) r2 (.ref Dd) (h.2 Dd nD)
    obtain ⟨e', n'⟩ := f b o e n
    have hb : b ≠ Dd := fun z => by rw [z, hD] at e; cases e
    exact ⟨e', by rw [up_ne hb]; exact n'⟩
theorem ev_lc (i : Nat) {x : Str} {xp : Pos} {elt it : Expr} {ifs : List Expr} {scope : Scope} {ri : RI} {tt : RT} {te : RE} (hc : X.calm = true) (hN : X.N.Nodup) (hi : EI X W (.Name x xp) it ri) (ok : BlkOk X.N X.env.scope scope [(x, i)])
    (hg : ∀ (s : Shared) (H : Hp) (C : Addr) (cl : List (Str × Addr)) (fp : List Addr), PG (X.blk s H scope (compEnvC scope cl C X.env) fp) (.Name x xp) (gName i))
    (ht : ∀ (s : Shared) (H : Hp) (C : Addr) (cl : List (Str × Addr)) (fp : List Addr), EP1 (X.blk s H scope (compEnvC scope cl C X.env) fp) W0 ifs tt)
    (he : ∀ (s : Shared) (H : Hp) (C : Addr) (cl : List (Str × Addr)) (fp : List Addr), EV (X.blk s H scope (compEnvC scope cl C X.env) fp) W0 elt te) (hs : ∀ x, foldedSetIterable it X.env x = pure x := by intro _; rfl) :
    EV X W (.ListComp elt [⟨.Name x xp, it, ifs, 0⟩] scope pos) (rLc ri (gNm i) tt te [i]) := by
  obtain ⟨wi, pi, li⟩ := hi.ex
  refine ⟨_, pe_lc (tt := dnT X.K W0 tt) (te := dnE X.K W0 te) hc hN pi ok hg (fun s H C cl fp => (ht s H C cl fp).pe) (fun s H C cl fp => (he s H C cl fp).pe) hs, fun σ σ' H S Q Q' E' rs rh h q xi => ?_⟩
  exact li σ σ' H S _ _ _ rs rh h (fun J xs gd S1 H1 f1 rh1 ok h1 => lc_run (W := W) keeps_nm (rs.mono (f1.tle rh)) rh1 ok (q.go f1) h1) xi
theorem es_setLc (j i : Nat) {y : Str} {py spos : Pos} {x : Str} {xp : Pos} {elt it : Expr} {ifs : List Expr} {scope : Scope} {ri : RI} {tt : RT} {te : RE} (hc : X.calm = true) (hN : X.N.Nodup) (hi : EI X W (.Name x xp) it ri) (ok : BlkOk X.N X.env.scope scope [(x, i)])
    (hg : ∀ (s : Shared) (H : Hp) (C : Addr) (cl : List (Str × Addr)) (fp : List Addr), PG (X.blk s H scope (compEnvC scope cl C X.env) fp) (.Name x xp) (gName i))
    (ht : ∀ (s : Shared) (H : Hp) (C : Addr) (cl : List (Str × Addr)) (fp : List Addr), EP1 (X.blk s H scope (compEnvC scope cl C X.env) fp) W0 ifs tt)
    (he : ∀ (s : Shared) (H : Hp) (C : Addr) (cl : List (Str × Addr)) (fp : List Addr), EV (X.blk s H scope (compEnvC scope cl C X.env) fp) W0 elt te)
    (hsw : swapsWith (.ListComp elt [⟨.Name x xp, it, ifs, 0⟩] scope pos) (some (.Name y py)) spos.line X.env = pure true) (hy : X.N[j]? = some y := by rfl) (hyl : X.env.scope.names.lookup y = some .local := by rfl) (hs : ∀ x, foldedSetIterable it X.env x = pure x := by intro _; rfl) :
    ES X W (.Assign [.Name y py] (.ListComp elt [⟨.Name x xp, it, ifs, 0⟩] scope pos) spos) (rSet (rLc ri (gNm i) tt te [i]) (gNm j)) := by
  obtain ⟨wi, pi, li⟩ := hi.ex
  refine ⟨_, ps_setLc (tt := dnT X.K W0 tt) (te := dnE X.K W0 te) hc hN hy hyl hsw pi ok hg (fun s H C cl fp => (ht s H C cl fp).pe) (fun s H C cl fp => (he s H C cl fp).pe) hs, fun σ σ' H S D D' rs rh h d => ?_⟩
  refine li σ σ' H S _ _ _ rs rh h (fun J xs gd S1 H1 f1 rh1 ok h1 => ?_) (d.xi rh rs)
  refine lc_run (W := W) (Q := fun v H1 => gName j v σ H1 D.nx) (Q' := fun d S1 => gNm j d σ' S1 D'.nx (D'.x σ')) keeps_nm (rs.mono (f1.tle rh)) rh1 ok ?_ h1
  intro dd S2 v H2 f2 rh2 dv h2
  exact d.nx _ _ _ _ (f1.trans f2) rh2 ((rs.mono ((f1.trans f2).tle rh)).set dv j) h2
end

/-! ### a def -/
def start' (n : Nat) (ds : List D) : Sg := ds.map some ++ List.replicate (n - ds.length) none
section
variable {P : Program} {w : World} {K : PySem.W.Frag} {mg : Str → Option Value} {base : Heap}
theorem rs_start {H : Hp} {ds : List D} {vs : List V} (N : List Str) (r : DVs K H ds vs) : RS K H (start' N.length ds) (L2.start N vs) := by
  refine ⟨by simp [start', L2.start, r.length], fun i d e => ?_⟩
  unfold start' at e
  unfold L2.start
  by_cases hi : i < ds.length
  · rw [List.getElem?_append_left (by simpa using hi), List.getElem?_map] at e
    cases g : ds[i]? with
    | none => rw [g] at e; cases e
    | some d' =>
      rw [g] at e
      cases e
      obtain ⟨v, hv, dv⟩ := r.get g
      exact ⟨v, by rw [List.getElem?_append_left (by rw [List.length_map, ← r.length]; exact hi), List.getElem?_map, hv]; rfl, dv⟩
  · rw [List.getElem?_append_right (by simpa using hi)] at e
    have := List.mem_of_getElem? e
    rw [List.mem_replicate] at this
    cases this.2
theorem fn_ok {x qual : Str} {st : Stmt} {f : Addr} {fd : FuncData} {N ps : List Str} {k : Nat} {sp : Sq} {t : RSt} (F : Fun K x qual st f fd) (Sc : FnScope N ps (defScope st)) (len : ∀ ds S Q E, sp ds S Q E → ds.length = ps.length)
    (hb : ∀ (cdv : Value) (A : Around) (outer : List Env) (s : Shared) (H : Hp) (E : XK), Room k (A.deeper (envOfC qual (defScope st) s.heap.objs.size f cdv)) → EB (cxOf CX0 P w K mg base N qual (defScope st) f cdv A outer s H E).nox W0 (defBody st) t)
    (pure' : ∀ ds S Q, sp ds S Q NoX → t { nx := fun _ S => Q .non S, rt := Q } (start' N.length ds) S)
    (nox : ∀ ds S Q E, sp ds S Q E → sp ds S Q NoX) : FnOk P w K mg base CX0 (k + 1) f fd ps (dn K sp) := by
  refine F.ok Sc (fun vs H Q E h => ?_) (fun cdv A outer s H vs Q E hr h => ?_)
  · obtain ⟨ds, S, Q', E', dv, _, h, _⟩ := h
    rw [← dv.length]
    exact len _ _ _ _ h
  · obtain ⟨ds, S, Q', E', dv, rh, h, q, xi⟩ := h
    obtain ⟨T, p, l⟩ := (hb cdv A outer s H E hr).ex
    refine ⟨T, p, ?_⟩
    refine l _ (start' N.length ds) H S _ { nx := fun _ S => Q' .non S, rt := Q' } (rs_start N dv) rh (pure' _ _ _ (nox _ _ _ _ h)) ⟨fun σ' S' σ H' f rh' rs h' => ?_, q, fun _ _ _ _ _ _ _ z => z.elim, fun _ _ _ _ _ _ _ z => z.elim, fun _ _ _ _ _ _ _ _ _ _ _ _ _ _ z => z.elim⟩
    exact q _ _ _ _ f rh' .non h'
end
end Y
namespace Y
open PySem PySem.Spec PyProof.Rows L2
/-! ### what an operator gives where its sides are known -/
section
variable {i j : Int} {a b : Str} {xs ys : List D} {p q : Addr} {S : Hq} {Q : Qv} {c d : Bool} {x y : D} {C : Int → Int → Prop} {g : Int → Int → D} {R : List D → (Hq → Prop) → Hq → Prop}
theorem q_asB {f : Bool → Prop} : asB (.bl c) f = f c := rfl
theorem q_asI {f : Int → Prop} : asI (.int i) f = f i := rfl
theorem q_add : addD (.int i) (.int j) S Q = Q (.int (i + j)) S := rfl
theorem q_addS : addD (.str a) (.str b) S Q = (a.length + b.length ≤ 1000000 ∧ Q (.str (a ++ b)) S) := rfl
theorem q_addT : addD (.tup xs) (.tup ys) S Q = (xs.length + ys.length ≤ 1000000 ∧ Q (.tup (xs ++ ys)) S) := rfl
theorem q_addL : addD (.ref p) (.ref q) S Q = (∃ xs ys, S p = some (.lst xs) ∧ S q = some (.lst ys) ∧ xs.length + ys.length ≤ 1000000 ∧ ∀ p, S p = none → Q (.ref p) (up S p (.lst (xs ++ ys)))) := rfl
theorem q_int : intD C g (.int i) (.int j) S Q = (C i j ∧ Q (g i j) S) := rfl
theorem q_sub : subD (.int i) (.int j) S Q = Q (.int (i - j)) S := rfl
theorem q_mul : mulD (.int i) (.int j) S Q = (CMul' i j ∧ Q (.int (i * j)) S) := rfl
theorem q_fdiv : fdivD (.int i) (.int j) S Q = (CDiv' i j ∧ Q (.int (i / j)) S) := rfl
theorem q_mod : modD (.int i) (.int j) S Q = (0 < j ∧ Q (.int (i % j)) S) := rfl
theorem q_pow : powD (.int i) (.int j) S Q = (CPow' i j ∧ Q (.int (i ^ j.toNat)) S) := rfl
theorem q_neg : negD (.int i) S Q = Q (.int (-i)) S := rfl
theorem q_le : leD (.int i) (.int j) S Q = Q (.bl (decide (i ≤ j))) S := rfl
theorem q_ge : geD (.int i) (.int j) S Q = Q (.bl (decide (j ≤ i))) S := rfl
theorem q_gt : gtD (.int i) (.int j) S Q = Q (.bl (decide (j < i))) S := rfl
theorem q_lt : ltD (.int i) (.int j) S Q = Q (.bl (decide (i < j))) S := rfl
theorem q_ltT : ltD (.tup xs) (.tup ys) S Q = (∃ ns ms, xs = ns.map D.int ∧ ys = ms.map D.int ∧ Q (.bl (HT.lexLt ns ms)) S) := rfl
theorem q_isN : isD x .non S Q = Q (.bl (isN x)) S := rfl
theorem q_isB : isD (.bl c) (.bl d) S Q = Q (.bl (decide (c = d))) S := rfl
theorem q_isBi : isD (.int i) (.bl d) S Q = Q (.bl false) S := rfl
theorem q_isBs : isD (.str a) (.bl d) S Q = Q (.bl false) S := rfl
theorem q_isBn : isD .non (.bl d) S Q = Q (.bl false) S := rfl
theorem q_isBt : isD (.tup xs) (.bl d) S Q = Q (.bl false) S := rfl
theorem q_isnt : isntD x .non S Q = Q (.bl (!isN x)) S := rfl
theorem n_non : isN .non = true := rfl
theorem n_bl : isN (.bl c) = false := rfl
theorem n_int : isN (.int i) = false := rfl
theorem n_str : isN (.str a) = false := rfl
theorem n_tup : isN (.tup xs) = false := rfl
theorem n_ref : isN (.ref p) = false := rfl
theorem q_eq {f : Bool → Bool} : eqD f (.int i) (.int j) S Q = Q (.bl (f (decide (i = j)))) S := rfl
theorem q_eqS {f : Bool → Bool} : eqD f (.str a) (.str b) S Q = Q (.bl (f (decide (a = b)))) S := rfl
theorem q_eqB {f : Bool → Bool} : eqD f (.bl c) (.bl d) S Q = Q (.bl (f (decide (c = d)))) S := rfl
theorem q_eqT {f : Bool → Bool} : eqD f (.tup xs) (.tup ys) S Q = (okE (.tup xs) ∧ okE (.tup ys) ∧ Q (.bl (f (PyData.eqv (pd (.tup xs)) (pd (.tup ys))))) S) := rfl
theorem q_ixT : ixD (.tup xs) (.int i) S Q = (∃ d, atI xs i = some d ∧ Q d S) := rfl
theorem q_ixK : ixD (.kl xs) (.int i) S Q = (∃ d, atI xs i = some d ∧ Q d S) := rfl
theorem q_ixL : ixD (.ref p) (.int i) S Q = (∃ xs d, S p = some (.lst xs) ∧ atI xs i = some d ∧ Q d S) := rfl
theorem q_ixS : ixD (.str a) (.int i) S Q = (∃ c, a.length ≤ 1000000 ∧ atI a.cps.toList i = some c ∧ Q (.str ⟨#[c]⟩) S) := rfl
theorem q_slT {l u : Option Int} : slD (.tup xs) l u S Q = Q (.tup (cutL xs l u)) S := rfl
theorem q_slL {l u : Option Int} : slD (.ref p) l u S Q = (∃ xs, S p = some (.lst xs) ∧ ∀ p, S p = none → Q (.ref p) (up S p (.lst (cutL xs l u)))) := rfl
theorem q_slS {l u : Option Int} : slD (.str a) l u S Q = (a.length ≤ 1000000 ∧ Q (.str (cutS a l u)) S) := rfl
theorem q_set {N : Hq → Prop} : setD (.ref p) (.int i) x S N = (∃ xs j, S p = some (.lst xs) ∧ ixN xs.length i = some j ∧ N (up S p (.lst (xs.set j x)))) := rfl
theorem q_lenT : lenD [.tup xs] S Q = Q (.int xs.length) S := rfl
theorem q_lenK : lenD [.kl xs] S Q = Q (.int xs.length) S := rfl
theorem q_lenS : lenD [.str a] S Q = (a.length ≤ 1000000 ∧ Q (.int a.length) S) := rfl
theorem q_lenL : lenD [.ref p] S Q = (∃ xs, S p = some (.lst xs) ∧ Q (.int xs.length) S) := rfl
theorem q_abs : absD [.int i] S Q = Q (.int (if i < 0 then -i else i)) S := rfl
theorem q_intF : intF [.int i] S Q = Q (.int i) S := rfl
theorem q_max : maxD [.int i, .int j] S Q = Q (.int (if j > i then j else i)) S := rfl
theorem q_min : minD [.int i, .int j] S Q = Q (.int (if j < i then j else i)) S := rfl
theorem q_tupT : tupF [.tup xs] S Q = Q (.tup xs) S := rfl
theorem q_tupL : tupF [.ref p] S Q = (∃ xs, S p = some (.lst xs) ∧ Q (.tup xs) S) := rfl
theorem q_lstT : lstF [.tup xs] S Q = (∀ p, S p = none → Q (.ref p) (up S p (.lst xs))) := rfl
theorem q_lstL : lstF [.ref p] S Q = (∃ xs, S p = some (.lst xs) ∧ ∀ p, S p = none → Q (.ref p) (up S p (.lst xs))) := rfl
theorem q_app : appD (.ref p) [x] S Q = (∃ xs, S p = some (.lst xs) ∧ xs.length < 1000000 ∧ Q .non (up S p (.lst (xs ++ [x])))) := rfl
theorem q_ext : extD (.ref p) [.ref q] S Q = (∃ xs ys, S p = some (.lst xs) ∧ S q = some (.lst ys) ∧ xs.length + ys.length ≤ 1000000 ∧ Q .non (up S p (.lst (xs ++ ys)))) := rfl
theorem q_joinL : joinD (.str a) [.ref p] S Q = (∃ xs zs, S p = some (.lst xs) ∧ strsD xs = some zs ∧ (zs.map (·.length)).sum + zs.length * a.length ≤ 1000000 ∧ Q (.str (Txt.join a zs)) S) := rfl
theorem q_stw : stwD (.str a) [.str b] S Q = Q (.bl (Txt.startswith a b)) S := rfl
theorem q_seq : seqD (.tup xs) S R = R xs (fun _ => True) S := rfl
theorem q_lst : lstD (.ref p) S R = (∃ xs, S p = some (.lst xs) ∧ R xs (fun S => S p = some (.lst xs)) S) := rfl
theorem q_rng : rngD [.int j] S R = ((-(2 ^ 62) ≤ j ∧ j < 2 ^ 62) ∧ R (rangeD 0 j.toNat) (fun _ => True) S) := rfl
theorem q_rng2 : rng2D [.int i, .int j] S R = ((-(2 ^ 62) ≤ i ∧ i < 2 ^ 62 ∧ -(2 ^ 62) ≤ j ∧ j < 2 ^ 62) ∧ R (rangeD i (j - i).toNat) (fun _ => True) S) := rfl
theorem q_zpT : zpD [.tup xs, .tup ys] S R = R (zipD xs ys) (fun _ => True) S := rfl
theorem q_zpL : zpD [.ref p, .ref q] S R = (∃ xs ys, S p = some (.lst xs) ∧ S q = some (.lst ys) ∧ R (zipD xs ys) (fun S => S p = some (.lst xs) ∧ S q = some (.lst ys)) S) := rfl
theorem q_truN {f : Bool → Prop} : truD .non S f = f false := rfl
theorem q_truB {f : Bool → Prop} : truD (.bl c) S f = f c := rfl
theorem q_truI {f : Bool → Prop} : truD (.int i) S f = f (i != 0) := rfl
theorem q_truT {f : Bool → Prop} : truD (.tup xs) S f = f (!xs.isEmpty) := rfl
theorem q_truL {f : Bool → Prop} : truD (.ref p) S f = (∃ xs, S p = some (.lst xs) ∧ f (!xs.isEmpty)) := rfl
theorem t_non : tyN .non S = some "NoneType" := rfl
theorem t_bl : tyN (.bl c) S = some "bool" := rfl
theorem t_int : tyN (.int i) S = some "int" := rfl
theorem t_str : tyN (.str a) S = some "str" := rfl
theorem t_tup : tyN (.tup xs) S = some "tuple" := rfl
theorem t_lst (h : S p = some (.lst xs)) : tyN (.ref p) S = some "list" := by simp only [tyN, h]
theorem q_isi {t n : String} (h : tyN x S = some t) : isiD [x, .ty n] S Q = isiR t n S Q := by simp only [isiD, h]
theorem q_isiN {n : String} : isiD [.non, .ty n] S Q = isiR "NoneType" n S Q := rfl
theorem q_isiB {n : String} : isiD [.bl c, .ty n] S Q = isiR "bool" n S Q := rfl
theorem q_isiI {n : String} : isiD [.int i, .ty n] S Q = isiR "int" n S Q := rfl
theorem q_isiS {n : String} : isiD [.str a, .ty n] S Q = isiR "str" n S Q := rfl
theorem q_isiT {n : String} : isiD [.tup xs, .ty n] S Q = isiR "tuple" n S Q := rfl
theorem q_isiL {n : String} (h : S p = some (.lst xs)) : isiD [.ref p, .ty n] S Q = isiR "list" n S Q := by simp only [isiD, t_lst h]
theorem i_NoneType_int : isiR "NoneType" "int" S Q = Q (.bl false) S := rfl
theorem i_NoneType_bool : isiR "NoneType" "bool" S Q = Q (.bl false) S := rfl
theorem i_NoneType_tuple : isiR "NoneType" "tuple" S Q = Q (.bl false) S := rfl
theorem i_NoneType_list : isiR "NoneType" "list" S Q = Q (.bl false) S := rfl
theorem i_NoneType_str : isiR "NoneType" "str" S Q = Q (.bl false) S := rfl
theorem i_bool_int : isiR "bool" "int" S Q = Q (.bl true) S := rfl
theorem i_bool_bool : isiR "bool" "bool" S Q = Q (.bl true) S := rfl
theorem i_bool_tuple : isiR "bool" "tuple" S Q = Q (.bl false) S := rfl
theorem i_bool_list : isiR "bool" "list" S Q = Q (.bl false) S := rfl
theorem i_bool_str : isiR "bool" "str" S Q = Q (.bl false) S := rfl
theorem i_int_int : isiR "int" "int" S Q = Q (.bl true) S := rfl
theorem i_int_bool : isiR "int" "bool" S Q = Q (.bl false) S := rfl
theorem i_int_tuple : isiR "int" "tuple" S Q = Q (.bl false) S := rfl
theorem i_int_list : isiR "int" "list" S Q = Q (.bl false) S := rfl
theorem i_int_str : isiR "int" "str" S Q = Q (.bl false) S := rfl
theorem i_str_int : isiR "str" "int" S Q = Q (.bl false) S := rfl
theorem i_str_bool : isiR "str" "bool" S Q = Q (.bl false) S := rfl
theorem i_str_tuple : isiR "str" "tuple" S Q = Q (.bl false) S := rfl
theorem i_str_list : isiR "str" "list" S Q = Q (.bl false) S := rfl
theorem i_str_str : isiR "str" "str" S Q = Q (.bl true) S := rfl
theorem i_tuple_int : isiR "tuple" "int" S Q = Q (.bl false) S := rfl
theorem i_tuple_bool : isiR "tuple" "bool" S Q = Q (.bl false) S := rfl
theorem i_tuple_tuple : isiR "tuple" "tuple" S Q = Q (.bl true) S := rfl
theorem i_tuple_list : isiR "tuple" "list" S Q = Q (.bl false) S := rfl
theorem i_tuple_str : isiR "tuple" "str" S Q = Q (.bl false) S := rfl
theorem i_list_int : isiR "list" "int" S Q = Q (.bl false) S := rfl
theorem i_list_bool : isiR "list" "bool" S Q = Q (.bl false) S := rfl
theorem i_list_tuple : isiR "list" "tuple" S Q = Q (.bl false) S := rfl
theorem i_list_list : isiR "list" "list" S Q = Q (.bl true) S := rfl
theorem i_list_str : isiR "list" "str" S Q = Q (.bl false) S := rfl
theorem i_dict_int : isiR "dict" "int" S Q = Q (.bl false) S := rfl
theorem i_dict_bool : isiR "dict" "bool" S Q = Q (.bl false) S := rfl
theorem i_dict_tuple : isiR "dict" "tuple" S Q = Q (.bl false) S := rfl
theorem i_dict_list : isiR "dict" "list" S Q = Q (.bl false) S := rfl
theorem i_dict_str : isiR "dict" "str" S Q = Q (.bl false) S := rfl
theorem q_gTp {n : Nat} {r : RGs} {σ : Sg} {N : Sg → Hq → Prop} {E : Xw} : gTp n r (.tup xs) σ S N E = (xs.length = n ∧ r xs σ S N NoX) := rfl
theorem q_gC {g : RG} {r : RGs} {σ : Sg} {N : Sg → Hq → Prop} {E : Xw} : gConss g r (x :: xs) σ S N E = g x σ S (fun σ1 S1 => r xs σ1 S1 N E) E := rfl
theorem q_gN {σ : Sg} {N : Sg → Hq → Prop} {E : Xw} : gNils [] σ S N E = N σ S := rfl
theorem g_02 {α : Type} {a b : α} : gk 0 2 [0, 1] [] [a, b] = [a, b] := rfl
theorem g_02' {α : Type} {a b : α} : gk 0 2 [1, 0] [] [a, b] = [b, a] := rfl
theorem g_01 {α : Type} {a : α} : gk 0 1 [0] [] [a] = [a] := rfl
theorem g_11 {α : Type} {a b : α} : gk 1 1 [0, 1] [a] [b] = [a, b] := rfl
theorem at_0 {α : Type} {x : α} {r : List α} : atI (x :: r) 0 = some x := by
  refine atI_nat (j := 0) ?_
  rfl
theorem at_1 {α : Type} {x y : α} {r : List α} : atI (x :: y :: r) 1 = some y := by
  refine atI_nat (j := 1) ?_
  rfl
theorem ix_0 {n : Nat} : ixN (n + 1) 0 = some 0 := by unfold ixN; simp
theorem ix_1 {n : Nat} : ixN (n + 2) 1 = some 1 := by
  unfold ixN
  have h : (1 : Int) < ((n + 2 : Nat) : Int) := by omega
  rw [if_pos (by decide), if_pos h]; rfl
end
/-! ### the box, and what stands beside it -/
def Bx (S : Hq) (b : Addr) : Prop := ∃ g s : Int, S b = some (.lst [.int g, .int s])
/-- all but b stands as it stood (new things may have come) -/
structure Nx (b : Addr) (S S' : Hq) : Prop where
  bx : Bx S' b
  old : ∀ a o, a ≠ b → S a = some o → S' a = some o
theorem up_get {S : Hq} {p a : Addr} {q o : HQ} (hp : S p = none) (h : S a = some o) : up S p q a = some o := by
  rw [up_ne (fun z => by rw [z, hp] at h; cases h)]; exact h
theorem Nx.get {b a : Addr} {S S' : Hq} {o : HQ} (n : Nx b S S') (ne : a ≠ b) (h : S a = some o) : S' a = some o := n.old a o ne h
theorem ne_get {S : Hq} {a p : Addr} {o : HQ} (h : S a = some o) (hp : S p = none) : a ≠ p := fun z => by rw [z, hp] at h; cases h
theorem Nx.refl {b : Addr} {S : Hq} (h : Bx S b) : Nx b S S := ⟨h, fun _ _ _ h => h⟩
theorem Nx.trans {b : Addr} {S S1 S2 : Hq} (x : Nx b S S1) (y : Nx b S1 S2) : Nx b S S2 := ⟨y.bx, fun a o ne h => y.old a o ne (x.old a o ne h)⟩
theorem Bx.up {b p : Addr} {S : Hq} {q : HQ} (h : Bx S b) (hp : S p = none) : Bx (up S p q) b := let ⟨g, s, e⟩ := h; ⟨g, s, up_get hp e⟩
theorem Nx.new {b p : Addr} {S : Hq} {q : HQ} (h : Bx S b) (hp : S p = none) : Nx b S (up S p q) := ⟨h.up hp, fun _ _ _ h => up_get hp h⟩
theorem Bx.ne {b p : Addr} {S : Hq} (h : Bx S b) (hp : S p = none) : p ≠ b := fun z => by obtain ⟨g, s, e⟩ := h; rw [z, e] at hp; cases hp
theorem Nx.put {b : Addr} {S : Hq} {g s : Int} : Nx b S (up S b (.lst [.int g, .int s])) := ⟨⟨g, s, up_same⟩, fun a o ne h => by rw [up_ne ne]; exact h⟩
theorem up_up {S : Hq} {a : Addr} {o u : HQ} : up (up S a o) a u = up S a u := by funext b; unfold up; split <;> rfl
/-- a list of one's own is written: what stands beside stands -/
theorem Bx.put {b p : Addr} {S : Hq} {q : HQ} (h : Bx S b) (ne : p ≠ b) : Bx (Y.up S p q) b := let ⟨g, s, e⟩ := h; ⟨g, s, by rw [up_ne (Ne.symm ne)]; exact e⟩
theorem law_in {K : PySem.W.Frag} {H : Hp} {Q : VK} {E : XK} {a : Addr} {ns : List Int} {sp : Sq} (ok : ∀ (ns : List Int) (S : Hq) (Q' : Qv), ns.length ≤ 63 → (∀ S', Q' (.bl true) S') → sp [.kl (ns.map D.int)] S Q' NoX) (hl : ns.length ≤ 63) (ho : Only H) (hS : SqL K H a (ns.map V.int)) (q : ∀ H', Q (.bl true) H') : dn K sp [.ref a] H Q E := by
  have hF : SqF K H a (ns.map V.int) := by
    rcases hS with (h | h) | h
    · rcases ho a with z | ⟨o, xs, z⟩
      · rw [z] at h; cases h
      · rw [z] at h; cases h
    · exact .inl h
    · exact .inr h
  exact ⟨[.kl (ns.map D.int)], fun _ => none, fun d _ => d = .bl true, NoX, .cons (.kl hF DVs.ofInts) .nil, fun b o e => (by cases e), ok ns _ _ hl (fun _ => rfl), fun d S' v H' f r dv h => by subst h; cases dv; exact q H', XI.no⟩
end Y
namespace Y
open PySem PySem.Spec PyProof.Rows L2
theorem at_in {α : Type} {xs : List α} {i : Int} (h0 : 0 ≤ i) (h1 : i < xs.length) : ∃ d, d ∈ xs ∧ atI xs i = some d ∧ xs[i.toNat]? = some d := by
  obtain ⟨j, rfl⟩ := Int.eq_ofNat_of_zero_le h0
  have hn : j < xs.length := by omega
  exact ⟨xs[j], List.getElem_mem hn, atI_nat (List.getElem?_eq_getElem hn), List.getElem?_eq_getElem hn⟩
theorem at_ints {ns : List Int} {i : Int} (h0 : 0 ≤ i) (h1 : i < ns.length) : ∃ n, n ∈ ns ∧ atI (ns.map D.int) i = some (.int n) ∧ ns[i.toNat]? = some n := by
  obtain ⟨j, rfl⟩ := Int.eq_ofNat_of_zero_le h0
  have hn : j < ns.length := by omega
  exact ⟨ns[j], List.getElem_mem hn, atI_nat (by rw [List.getElem?_map, List.getElem?_eq_getElem hn]; rfl), List.getElem?_eq_getElem hn⟩
theorem cm_r {i j : Int} (h1 : -(2 ^ 64) < j) (h2 : j < 2 ^ 64) : CMul' i j := .inr ⟨h1, h2⟩
theorem cm_l {i j : Int} (h1 : -(2 ^ 64) < i) (h2 : i < 2 ^ 64) : CMul' i j := .inl ⟨h1, h2⟩
theorem mem_ints {l : List Int} {d : D} (h : d ∈ l.map D.int) : ∃ i, i ∈ l ∧ d = .int i := by
  obtain ⟨i, h1, h2⟩ := List.mem_map.mp h; exact ⟨i, h1, h2.symm⟩
theorem ix_in {n : Nat} {i : Int} (h0 : 0 ≤ i) (h1 : i < n) : ixN n i = some i.toNat := by
  unfold ixN; rw [if_pos h0, if_pos h1]
/-- elements that are drawn: each keeps I and has P -/
theorem lc_draw {gd : Hq → Prop} {te : RE} {i : Nat} {σ : Sg} {Qf : List D → Hq → Prop} (I : Hq → Prop) (P : D → Prop) (hg : ∀ S, I S → gd S) : ∀ (xs acc : List D) (S : Hq),
    (∀ x ∈ xs, ∀ (S : Hq) (Q : Qv), I S → (∀ y S', P y → I S' → Q y S') → te ((wipeD σ [i]).set i (some x)) S Q NoX) →
    acc.length + xs.length ≤ 1000000 → (∀ y ∈ acc, P y) → I S → (∀ acc' S', acc'.length = acc.length + xs.length → (∀ y ∈ acc', P y) → I S' → Qf acc' S') → lcP gd (gNm i) rYes te [i] σ Qf xs acc S
  | [], acc, S, _, _, ha, hi, k => ⟨hg S hi, k acc S (by simp) ha hi⟩
  | x :: r, acc, S, h, hz, ha, hi, k => by
    refine ⟨hg S hi, ?_⟩
    show te ((wipeD σ [i]).set i (some x)) S (fun y S4 => acc.length < 1000000 ∧ lcP gd (gNm i) rYes te [i] σ Qf r (acc ++ [y]) S4) NoX
    refine h x (by simp) S _ hi (fun y S4 py i4 => ⟨by simp at hz; omega, ?_⟩)
    refine lc_draw I P hg r (acc ++ [y]) S4 (fun x hx => h x (by simp [hx])) (by simp at hz ⊢; omega) (fun z hz => ?_) i4 (fun acc' S' hl hp hi' => k acc' S' (by simp at hl ⊢; omega) hp hi')
    rcases List.mem_append.mp hz with hz | hz
    · exact ha z hz
    · rw [List.mem_singleton] at hz; subst hz; exact py
end Y
namespace Y
open PySem PySem.Spec PyProof.Rows L2
theorem ints_of : ∀ {ds : List D}, (∀ y ∈ ds, ∃ i, y = D.int i) → ∃ is : List Int, ds = is.map D.int
  | [], _ => ⟨[], rfl⟩
  | d :: ds, h => by
    obtain ⟨i, rfl⟩ := h d (by simp)
    obtain ⟨is, rfl⟩ := ints_of (ds := ds) fun y hy => h y (by simp [hy])
    exact ⟨i :: is, rfl⟩
theorem cutL_map {α β : Type} (f : α → β) (xs : List α) (lo hi : Option Int) : cutL (xs.map f) lo hi = (cutL xs lo hi).map f := by
  unfold cutL; rw [List.length_map, List.map_take, List.map_drop]
theorem cutL_to {α : Type} (xs : List α) {k : Int} (h : 0 ≤ k) : cutL xs none (some k) = xs.take k.toNat := by
  obtain ⟨j, rfl⟩ := Int.eq_ofNat_of_zero_le h
  unfold cutL
  rw [HT.sIx_none, HT.sIx_nat, Int.toNat_natCast, List.drop_zero, Nat.sub_zero]
  by_cases c : j ≤ xs.length
  · rw [Nat.min_eq_left c]
  · rw [Nat.min_eq_right (by omega), List.take_length, List.take_of_length_le (by omega)]
theorem cutL_from {α : Type} (xs : List α) {k : Int} (h : 0 ≤ k) : cutL xs (some k) none = xs.drop k.toNat := by
  obtain ⟨j, rfl⟩ := Int.eq_ofNat_of_zero_le h
  unfold cutL
  rw [HT.sIx_none, HT.sIx_nat, Int.toNat_natCast]
  by_cases c : j ≤ xs.length
  · rw [Nat.min_eq_left c, List.take_of_length_le (by simp)]
  · rw [Nat.min_eq_right (by omega), List.drop_length, List.drop_of_length_le (by omega)]; simp
/-- a loop by its turn's number -/
theorem loop_idx {gd : Hq → Prop} {g : RG} {tb : RSt} {D0 : En} {xs : List D} {σ : Sg} {S : Hq} (P : Nat → Sg → Hq → Prop) (hg : ∀ i σ S, i ≤ xs.length → P i σ S → gd S)
    (hs : ∀ i x σ S, xs[i]? = some x → P i σ S → ∀ N : Sg → Hq → Prop, (∀ σ' S', P (i + 1) σ' S' → N σ' S') → g x σ S (fun σ2 S2 => tb { D0 with nx := N, ct := N, bk := D0.nx } σ2 S2) (D0.x σ))
    (hd : ∀ σ S, P xs.length σ S → D0.nx σ S) (h0 : P 0 σ S) : loopP gd g tb xs D0 σ S := by
  have key : ∀ (l : List D) (i : Nat) (σ : Sg) (S : Hq), i + l.length = xs.length → (∀ j, l[j]? = xs[i + j]?) → P i σ S → loopP gd g tb l D0 σ S := by
    intro l
    induction l with
    | nil =>
      intro i σ S hl _ hp
      have e : i = xs.length := by simpa using hl
      subst e
      exact ⟨hg _ _ _ (Nat.le_refl _) hp, hd σ S hp⟩
    | cons x r ih =>
      intro i σ S hl hj hp
      have hlr : i + r.length + 1 = xs.length := by rw [List.length_cons] at hl; omega
      refine ⟨hg _ _ _ (by omega) hp, ?_⟩
      refine hs i x σ S (by have := hj 0; simpa using this.symm) hp (loopP gd g tb r D0) fun σ' S' hp' => ?_
      exact ih (i + 1) σ' S' (by omega) (fun j => by have := hj (j + 1); rw [List.getElem?_cons_succ] at this; rw [this]; congr 1; omega) hp'
  exact key xs 0 σ S (by omega) (fun j => by rw [Nat.zero_add]) h0
/-- data for which == of the law's kind is True -/
def Pn : Nat → D → Prop
  | 0, _ => False
  | n + 1, d => match d with
    | .tup xs => xs.length ≤ 100000 ∧ ∀ x ∈ xs, Pn n x
    | .non => True | .bl _ => True | .int _ => True | .str _ => True
    | _ => False
def ofO : Option (List Int) → D
  | none => .non
  | some ns => .tup (ns.map D.int)
def blw : Option (List Int) → Option (List Int) → Bool
  | none, _ => false
  | some _, none => true
  | some a, some b => HT.lexLt a b
theorem Pn_ofO {n : Nat} {o : Option (List Int)} (h : ∀ ns, o = some ns → ns.length ≤ 100000) : Pn (n + 2) (ofO o) := by
  cases o with
  | none => trivial
  | some ns =>
    refine ⟨by rw [List.length_map]; exact h ns rfl, fun x hx => ?_⟩
    obtain ⟨i, _, rfl⟩ := mem_ints hx
    trivial
/-- numbers as the law draws them -/
def Fig (ns : List Int) : Prop := ∃ h m l, ns = h :: (m ++ [l]) ∧ 0 ≤ h ∧ 0 ≤ l ∧ l < 32 ∧ m.length ≤ 13
theorem lex_same {xs : List Int} : HT.lexLt xs xs = false := by
  induction xs with
  | nil => rfl
  | cons x r ih => rw [HT.lexLt_cons, if_pos rfl, ih]
def keyO (z : Str) : Option (List Int) → Option (List Int)
  | none => none
  | some ns => some ((6 - (z.length : Int)) :: ns)
def lst_of (os : List (Option (List Int))) : Option (List Int) := os.foldl (fun acc x => if blw x acc then x else acc) none
end Y
namespace Y
open PySem PySem.Spec PyProof.Rows L2
/-! ### > of tuples of ints -/
theorem ints_at : ∀ {us : List Value} {ns : List Int}, IntsAre us ns → ∀ {j : Nat} {v : Value}, us[j]? = some v → ∃ n t, v = .int n t ∧ ns[j]? = some n
  | _, _, .nil, _, _, h => by simp at h
  | _, _, .cons a t r, 0, v, h => by
    rw [List.getElem?_cons_zero] at h; cases h
    exact ⟨_, _, rfl, rfl⟩
  | _, _, .cons a t r, j + 1, v, h => by
    rw [List.getElem?_cons_succ] at h
    obtain ⟨n, t, e, g⟩ := ints_at r h
    exact ⟨n, t, e, by rw [List.getElem?_cons_succ]; exact g⟩
theorem ints_len : ∀ {us : List Value} {ns : List Int}, IntsAre us ns → us.length = ns.length
  | _, _, .nil => rfl
  | _, _, .cons a t r => congrArg (· + 1) (ints_len r)
def gtE (ns ms : List Int) (j : Nat) : Bool := decide (ns.getD j 0 = ms.getD j 0)
def gtR (ns ms : List Int) (j : Nat) : Bool := decide (ms.getD j 0 < ns.getD j 0)
theorem lexAt_gt (ns ms : List Int) : ∀ (k i : Nat), k = min (ns.length - i) (ms.length - i) → i ≤ min ns.length ms.length → Ob.lexAt (gtE ns ms) (gtR ns ms) (decide (ns.length > ms.length)) i k = HT.lexLt (ms.drop i) (ns.drop i)
  | 0, i, h, hi => by
    rw [Ob.lexAt_zero]
    by_cases c : i < ms.length
    · have e : ns.drop i = [] := List.drop_eq_nil_of_le (by omega)
      rw [e, List.drop_eq_getElem_cons c, HT.lexLt_cons_nil]
      exact decide_eq_false (by omega)
    · have e : ms.drop i = [] := List.drop_eq_nil_of_le (by omega)
      rw [e]
      by_cases c2 : i < ns.length
      · rw [List.drop_eq_getElem_cons c2, HT.lexLt_nil_cons]
        exact decide_eq_true (by omega)
      · have e : ns.drop i = [] := List.drop_eq_nil_of_le (by omega)
        rw [e, HT.lexLt_nil_nil]
        exact decide_eq_false (by omega)
  | k + 1, i, h, hi => by
    have h1 : i < ns.length := by omega
    have h2 : i < ms.length := by omega
    rw [Ob.lexAt_succ, lexAt_gt ns ms k (i + 1) (by omega) (by omega), List.drop_eq_getElem_cons h1, List.drop_eq_getElem_cons h2, HT.lexLt_cons]
    have e1 : ns.getD i 0 = ns[i] := by simp [List.getD, List.getElem?_eq_getElem h1]
    have e2 : ms.getD i 0 = ms[i] := by simp [List.getD, List.getElem?_eq_getElem h2]
    unfold gtE gtR
    rw [e1, e2]
    by_cases c : ns[i] = ms[i]
    · rw [if_pos (by simpa using c), if_pos c.symm]
    · rw [if_neg (by simpa using c), if_neg (fun z => c z.symm)]
def rGtT (K : PySem.W.Frag) : R2 := fun x y H Q => ∃ (a b : Addr) (ns ms : List Int), x = .ref a ∧ y = .ref b ∧ SqT K H a (ns.map V.int) ∧ SqT K H b (ms.map V.int) ∧ Q (.bl (HT.lexLt ms ns)) H
section
variable {X : Cx} {K : PySem.W.Frag}
theorem op_gtT (hu : X.A.units < cLine) : OpR X (compareOp .Gt) (rGtT X.K) := by
  intro pins s σ H x y v u Q I rx ry h
  obtain ⟨a, b, ns, ms, rfl, rfl, ha, hb, q⟩ := h
  cases rx
  cases ry
  obtain ⟨its, r1, p1, _⟩ := I.tuple ha
  obtain ⟨its2, r2, p2, _⟩ := I.tuple hb
  have i1 : IntsAre its ns := intsAre_of r1
  have i2 : IntsAre its2 ms := intsAre_of r2
  have key := Ob.RcOp.tuples_gt (A := X.A) (s := s) (l := a) (b := b) (items := its.toArray) (items2 := its2.toArray) (e := gtE ns ms) (r := gtR ns ms) p1 p2 hu
    (fun j h1 h2 => by
      obtain ⟨n, t, e, g⟩ := ints_at i1 (j := j) (v := its.toArray[j]) (by simp)
      obtain ⟨m, u, e', g'⟩ := ints_at i2 (j := j) (v := its2.toArray[j]) (by simp)
      rw [e, e']
      obtain ⟨c, hc, hcc⟩ := HT.eqAt_int X.A.in1 s n t m u
      have : c = gtE ns ms j := by
        unfold gtE
        simp only [List.getD, g, g', Option.getD_some]
        cases c
        · exact (decide_eq_false (fun z => by have := hcc.mpr z; cases this)).symm
        · exact (decide_eq_true (hcc.mp rfl)).symm
      rw [← this]; exact hc)
    (fun j h1 h2 _ => by
      obtain ⟨n, t, e, g⟩ := ints_at i1 (j := j) (v := its.toArray[j]) (by simp)
      obtain ⟨m, u, e', g'⟩ := ints_at i2 (j := j) (v := its2.toArray[j]) (by simp)
      rw [e, e']
      have : gtR ns ms j = decide (m < n) := by unfold gtR; simp only [List.getD, g, g', Option.getD_some]
      rw [this]
      exact Ob.RcOp.gt_int n m t u)
  have e : Ob.lexAt (gtE ns ms) (gtR ns ms) (decide (its.toArray.size > its2.toArray.size)) 0 (min its.toArray.size its2.toArray.size) = HT.lexLt ms ns := by
    rw [List.size_toArray, List.size_toArray, ints_len i1, ints_len i2]
    exact lexAt_gt ns ms _ 0 rfl (Nat.zero_le _)
  rw [e] at key
  exact key _ _ _ _ ⟨.bl (HT.lexLt ms ns), H, I, rfl, q⟩
def gtD2 : R2q := fun x y S Q => match x, y with
  | .int i, .int j => Q (.bl (decide (j < i))) S
  | .tup xs, .tup ys => ∃ ns ms, xs = ns.map D.int ∧ ys = ms.map D.int ∧ Q (.bl (HT.lexLt ms ns)) S
  | _, _ => False
def rGtU (K : PySem.W.Frag) : R2 := fun x y H Q => rI0 (fun i j => .bl (decide (j < i))) x y H Q ∨ rGtT K x y H Q
theorem op_gtU (hu : X.A.units < cLine) : OpR X (compareOp .Gt) (rGtU X.K) := opr_or op_gt (op_gtT hu)
theorem lf_gt2 : Lift2 K gtD2 (rGtU K) := by
  intro x y S H Q' Q v u rh dx dy h q
  cases x <;> cases y <;> try exact h.elim
  · cases dx; cases dy; exact .inl ⟨_, _, rfl, rfl, q.here rh (.bl _) h⟩
  · obtain ⟨ns, ms, rfl, rfl, h⟩ := h
    cases dx with | tup s1 r1 =>
    cases dy with | tup s2 r2 =>
    rw [r1.ints] at s1
    rw [r2.ints] at s2
    exact .inr ⟨_, _, ns, ms, rfl, rfl, s1, s2, q.here rh (.bl _) h⟩
end
section
variable {S : Hq} {Q : Qv} {i j : Int} {xs ys : List D}
theorem q_gt2 : gtD2 (.int i) (.int j) S Q = Q (.bl (decide (j < i))) S := rfl
theorem q_gtT : gtD2 (.tup xs) (.tup ys) S Q = (∃ ns ms, xs = ns.map D.int ∧ ys = ms.map D.int ∧ Q (.bl (HT.lexLt ms ns)) S) := rfl
end
/-! ### isinstance of a row of types -/
def isiAll (t : String) : List D → Option Bool
  | [] => some false
  | .ty n :: r => match isiB t n, isiAll t r with | some b, some c => some (b || c) | _, _ => none
  | _ => none
def isi2D (ds : List D) (S : Hq) (Q : Qv) : Prop := match ds with
  | [x, .tup cs] => match tyN x S with | some t => (match isiAll t cs with | some b => Q (.bl b) S | none => False) | none => False
  | _ => isiD ds S Q
def rIsiS (K : PySem.W.Frag) : List V → Hp → VK → Prop := fun xs H Q => ∃ (x : V) (tp : Addr) (cs : List V) (t : Value) (us : List Value) (b : Bool), xs = [x, .ref tp] ∧ SqT K H tp cs ∧ Paired ClsV cs us ∧ TyX K H x t ∧ PySem.W.kitAny K t us = some b ∧ Q (.bl b) H
section
variable {X : Cx} {K : PySem.W.Frag} {H : Hp} {S : Hq}
theorem call_isiS : CallR X (.builtin "isinstance") (rIsiS X.K) := by
  intro pins s σ H xs us Q I r h
  obtain ⟨x, tp, cs, t, ws, b, rfl, hT, k, ty, e, q⟩ := h
  obtain ⟨u1, u2, rfl, r1, r2⟩ := vals2 r
  cases (show u2 = Value.ref tp from r2)
  obtain ⟨P, Z, p, hx⟩ := kit_of I r1 ty
  obtain ⟨its, rv, ht, _⟩ := I.tuple hT
  have e3 := ClsV.all k rv
  subst e3
  obtain ⟨⟨oc, odd, dt, sl⟩, h1, h2, n, h3⟩ := ht
  simp only at h2 h3
  subst h2 h3
  exact PySem.W.kia_tup Z I.kIn p h1 e hx fun tk => ⟨.bl b, H, I.tok tk, rfl, q⟩
theorem isiAll_kit {t : String} (ht : t = "NoneType" ∨ t = "bool" ∨ t = "int" ∨ t = "str" ∨ t = "tuple" ∨ t = "list" ∨ t = "dict") : ∀ {ds : List D} {vs : List V} {b : Bool}, isiAll t ds = some b → DVs K H ds vs → ∃ us, Paired ClsV vs us ∧ PySem.W.kitAny K (.type t) us = some b
  | [], _, _, h, .nil => by cases h; exact ⟨[], .nil, kitAny_nil⟩
  | .ty n :: r, _, b, h, .cons (.ty _) dr => by
    unfold isiAll at h
    split at h
    · rename_i c d ec ed
      cases h
      obtain ⟨us, p, k⟩ := isiAll_kit ht ed dr
      refine ⟨_, .cons (.ty n) p, kitAny_cons (b := c) (kit_ty (isiB_kit ht ec)) (fun z => ?_) (fun z => ?_)⟩
      · rw [z, Bool.false_or]; exact k
      · rw [z, Bool.true_or]
    · cases h
  | .non :: _, _, _, h, _ => by cases h
  | .bl _ :: _, _, _, h, _ => by cases h
  | .int _ :: _, _, _, h, _ => by cases h
  | .str _ :: _, _, _, h, _ => by cases h
  | .tup _ :: _, _, _, h, _ => by cases h
  | .ref _ :: _, _, _, h, _ => by cases h
  | .kl _ :: _, _, _, h, _ => by cases h
  | .cl _ :: _, _, _, h, _ => by cases h
theorem lc_isi2 : LiftC K isi2D (fun xs H Q => rIsi K xs H Q ∨ rIsiS K xs H Q) := by
  intro ds S H Q' Q vs rh dv h q
  unfold isi2D at h
  split at h
  · rename_i x cs
    split at h
    · rename_i t et
      split at h
      · rename_i b eb
        match vs, dv with
        | [_, _], .cons d1 (.cons (.tup sq dc) .nil) =>
          obtain ⟨ty, ts⟩ := tyN_of rh d1 et
          obtain ⟨us, p, k⟩ := isiAll_kit ts eb dc
          exact .inr ⟨_, _, _, _, us, b, rfl, sq, p, ty, k, q.here rh (.bl _) h⟩
      · exact h.elim
    · exact h.elim
  · exact .inl (lc_isi _ _ _ _ _ _ rh dv h q)
theorem call_isi2 : CallR X (.builtin "isinstance") (fun xs H Q => rIsi X.K xs H Q ∨ rIsiS X.K xs H Q) := by
  intro pins s σ H xs us Q I r h
  rcases h with h | h
  · exact call_isi _ _ _ _ _ _ _ I r h
  · exact call_isiS _ _ _ _ _ _ _ I r h
end
section
variable {S : Hq} {Q : Qv} {n a b : String} {x : D} {p : Addr} {xs : List D} {z : Str} {i : Int} {c : Bool}
theorem q_isi2 : isi2D [x, .ty n] S Q = isiD [x, .ty n] S Q := by cases x <;> rfl
theorem q_i2N : isi2D [.non, .tup [.ty "tuple", .ty "list"]] S Q = Q (.bl false) S := rfl
theorem q_i2B : isi2D [.bl c, .tup [.ty "tuple", .ty "list"]] S Q = Q (.bl false) S := rfl
theorem q_i2I : isi2D [.int i, .tup [.ty "tuple", .ty "list"]] S Q = Q (.bl false) S := rfl
theorem q_i2S : isi2D [.str z, .tup [.ty "tuple", .ty "list"]] S Q = Q (.bl false) S := rfl
theorem q_i2T : isi2D [.tup xs, .tup [.ty "tuple", .ty "list"]] S Q = Q (.bl true) S := rfl
theorem q_i2L (h : S p = some (.lst xs)) : isi2D [.ref p, .tup [.ty "tuple", .ty "list"]] S Q = Q (.bl true) S := by
  simp only [isi2D, t_lst h]; rfl
theorem q_j2N : isi2D [.non, .tup [.ty "list", .ty "tuple"]] S Q = Q (.bl false) S := rfl
theorem q_j2B : isi2D [.bl c, .tup [.ty "list", .ty "tuple"]] S Q = Q (.bl false) S := rfl
theorem q_j2I : isi2D [.int i, .tup [.ty "list", .ty "tuple"]] S Q = Q (.bl false) S := rfl
theorem q_j2S : isi2D [.str z, .tup [.ty "list", .ty "tuple"]] S Q = Q (.bl false) S := rfl
theorem q_j2T : isi2D [.tup xs, .tup [.ty "list", .ty "tuple"]] S Q = Q (.bl true) S := rfl
theorem q_j2L (h : S p = some (.lst xs)) : isi2D [.ref p, .tup [.ty "list", .ty "tuple"]] S Q = Q (.bl true) S := by
  simp only [isi2D, t_lst h]; rfl
end
/-! ### enumerate -/
def enumD (xs : List D) : List D := zipD (rangeD 0 xs.length) xs
theorem enumD_len {xs : List D} : (enumD xs).length = xs.length := by unfold enumD; rw [zipD_len, rangeD_len]; omega
theorem enumD_get {xs : List D} {i : Nat} {z : D} (h : (enumD xs)[i]? = some z) : ∃ x, xs[i]? = some x ∧ z = .tup [.int (i : Int), x] := by
  obtain ⟨a, b, h1, h2, rfl⟩ := zipD_get h
  obtain ⟨_, rfl⟩ := rangeD_get h1
  exact ⟨b, h2, by rw [Int.zero_add]⟩
def enD (ds : List D) (S1 : Hq) (R : List D → (Hq → Prop) → Hq → Prop) : Prop := match ds with
  | [.ref a] => ∃ xs, LsR S1 a xs ∧ R (enumD xs) (fun S => LsR S a xs) S1
  | _ => False
def iEn (ra : RA) : RI := fun σ S R E => ra σ S (fun ds S1 => enD ds S1 R) E
theorem it_enum {K : PySem.W.Frag} {S1 : Hq} {H1 : Hp} {a : Addr} {xs : List D} : ItOk K S1 H1 (Ite K a) (enumD xs) (fun S => LsR S a xs) := by
  refine ⟨fun S H f rh g => ?_, fun i x S H hx f rh g => ?_, fun i x S H v H' hx f rh g hy => ?_⟩
  · obtain ⟨vs, s, r⟩ := rh.sql g
    exact ⟨vs, s, by rw [enumD_len, r.length]; exact Nat.le_refl _⟩
  · obtain ⟨vs, s, r⟩ := rh.sql g
    obtain ⟨y, hy, _⟩ := enumD_get hx
    obtain ⟨v, hv, _⟩ := r.get hy
    exact ⟨vs, v, s, hv⟩
  · obtain ⟨vs, s, r⟩ := rh.sql g
    obtain ⟨y, hxy, rfl⟩ := enumD_get hx
    obtain ⟨v', hv, dv⟩ := r.get hxy
    obtain ⟨T, x2, rfl, hT, rfl, e1⟩ := hy
    have e1 := e1 vs s
    rw [hv] at e1; cases e1
    have f' := Fr.new (o := .tup [.int (i : Int), v']) rh hT
    exact ⟨f', rh.new hT, .tup (.new upd_same) (.cons (.int _) (.cons (DV.mono (f'.tle rh) _ _ dv) .nil))⟩
section
variable {X : Cx} {W : WX} {e e2 : Expr} {r : RE} {pos : Pos}
theorem ei_enum {ra : RA} {p tpos : Pos} {elts : List Expr} {kk : Nat} (hm : X.mg "enumerate" = none) (ha : EA X W [e] ra) (hg : Gl X "enumerate" := by rfl)
    (hs : starEach [e] X.env = [(false, eval e X.env)] := by rfl) : EI X W (.Tuple elts kk tpos) (.Call (.Name "enumerate" p) [e] [] pos) (iEn ra) := by
  obtain ⟨T, pp, l⟩ := ha.ex
  refine ⟨_, pi_enum hg hm pp hs, fun σ σ' H S R R' E' rs rh h q xi => ?_⟩
  refine l σ σ' H S _ _ _ rs rh h (fun ds S1 v H1 f1 rh1 dv h1 => ?_) xi
  match ds, dv, h1 with
  | [.ref a], .cons (.ref _) .nil, h1 =>
    obtain ⟨xs, g, h1⟩ := h1
    obtain ⟨vs, s, r⟩ := rh1.sql g
    exact ⟨_, vs, rfl, s, q _ _ _ _ _ f1 rh1 it_enum h1⟩
end
section
variable {S : Hq} {p : Addr} {R : List D → (Hq → Prop) → Hq → Prop}
theorem q_en : enD [.ref p] S R = (∃ xs, S p = some (.lst xs) ∧ R (enumD xs) (fun S => S p = some (.lst xs)) S) := rfl
end
/-! ### targets in comprehensions -/
theorem wipe_len {σ : L2.St} : ∀ {vs : List Nat}, (L2.wipe σ vs).length = σ.length
  | [] => rfl
  | v :: vs => by unfold L2.wipe; rw [List.length_set, wipe_len]
theorem wipe_get {σ : L2.St} {i : Nat} : ∀ {vs : List Nat}, (L2.wipe σ vs)[i]? = if i ∈ vs then (σ[i]?).map (fun _ => none) else σ[i]?
  | [] => (if_neg (List.not_mem_nil)).symm
  | v :: vs => by
    unfold L2.wipe
    rw [List.getElem?_set, wipe_len]
    by_cases c : v = i
    · subst c
      rw [if_pos rfl, if_pos (show v ∈ v :: vs from List.mem_cons_self)]
      by_cases l : v < σ.length
      · rw [if_pos l, List.getElem?_eq_getElem l]; rfl
      · rw [if_neg l, List.getElem?_eq_none (by omega)]; rfl
    · rw [if_neg c, wipe_get (vs := vs)]
      by_cases m : i ∈ vs
      · rw [if_pos m, if_pos (List.mem_cons_of_mem _ m)]
      · rw [if_neg m, if_neg (fun z => by rcases List.mem_cons.mp z with z | z; exact c z.symm; exact m z)]
theorem wipe_wipe {σ : L2.St} {vs : List Nat} : L2.wipe (L2.wipe σ vs) vs = L2.wipe σ vs := by
  apply List.ext_getElem?
  intro i
  rw [wipe_get, wipe_get]
  by_cases m : i ∈ vs
  · simp only [if_pos m, Option.map_map]; rfl
  · simp only [if_neg m]
theorem wipe_set {σ : L2.St} {vs : List Nat} {i : Nat} {x : Option V} (m : i ∈ vs) : L2.wipe (σ.set i x) vs = L2.wipe σ vs := by
  apply List.ext_getElem?
  intro j
  rw [wipe_get, wipe_get, List.getElem?_set]
  by_cases c : i = j
  · subst c
    rw [if_pos m, if_pos m, if_pos rfl]
    by_cases l : i < σ.length
    · rw [if_pos l, List.getElem?_eq_getElem l]; rfl
    · rw [if_neg l, List.getElem?_eq_none (by omega)]
  · rw [if_neg c]
structure Kp (T : TG) (g : RG) (vs : List Nat) (K : PySem.W.Frag) : Prop where
  to : ∀ (σ : L2.St) (σ' : Sg) (H : Hp) (S : Hq) (d : D) (v : V) (N : L2.St → Hp → Prop) (N' : Sg → Hq → Prop), RS K H σ' σ → RH K S H → DV K H d v → g d σ' S N' NoX → (∀ σ2' σ2, L2.wipe σ2 vs = L2.wipe σ vs → RS K H σ2' σ2 → N' σ2' S → N σ2 H) → T v σ H N
structure Kps (T : TGs) (g : RGs) (vs : List Nat) (K : PySem.W.Frag) : Prop where
  to : ∀ (σ : L2.St) (σ' : Sg) (H : Hp) (S : Hq) (d : List D) (v : List V) (N : L2.St → Hp → Prop) (N' : Sg → Hq → Prop), RS K H σ' σ → RH K S H → DVs K H d v → g d σ' S N' NoX → (∀ σ2' σ2, L2.wipe σ2 vs = L2.wipe σ vs → RS K H σ2' σ2 → N' σ2' S → N σ2 H) → T v σ H N
section
variable {K : PySem.W.Frag} {vs : List Nat}
theorem kp_nm {i : Nat} (m : i ∈ vs := by decide) : Kp (gName i) (gNm i) vs K := ⟨fun σ σ' H S d v N N' rs rh dv h n => n _ _ (wipe_set m) (rs.set dv i) h⟩
theorem kps_nil : Kps gNil gNils vs K := ⟨fun σ σ' H S d v N N' rs rh dv h n => by
  cases dv with
  | nil => exact ⟨rfl, n _ _ rfl rs h⟩
  | cons _ _ => exact h.elim⟩
theorem kps_cons {T : TG} {g : RG} {Ts : TGs} {gs : RGs} (h1 : Kp T g vs K) (h2 : Kps Ts gs vs K) : Kps (gCons T Ts) (gConss g gs) vs K := ⟨fun σ σ' H S d v N N' rs rh dv h n => by
  cases dv with
  | nil => exact h.elim
  | cons x r => exact ⟨_, _, rfl, h1.to σ σ' H S _ _ _ _ rs rh x h fun σ2' σ2 e rs2 h2' => h2.to σ2 σ2' H S _ _ _ _ rs2 rh r h2' fun σ3' σ3 e3 rs3 h3 => n _ _ (e3.trans e) rs3 h3⟩⟩
theorem kp_tp {Ts : TGs} {gs : RGs} {n : Nat} (h : Kps Ts gs vs K) : Kp (gTup K n Ts) (gTp n gs) vs K := ⟨fun σ σ' H S d v N N' rs rh dv hh nn => by
  cases dv with
  | tup s r => exact ⟨_, _, rfl, s, by rw [← r.length]; exact hh.1, h.to σ σ' H S _ _ N N' rs rh r hh.2 nn⟩
  | _ => exact hh.elim⟩
theorem Kp.keeps {T : TG} {g : RG} (h : Kp T g vs K) : Keeps T g vs K := ⟨fun σ σ' H S d v N N' rs rh dv hh n => h.to (L2.wipe σ vs) σ' H S d v N N' rs rh dv hh fun σ2' σ2 e rs2 h2 => n σ2' σ2 (by rw [e, wipe_wipe]) rs2 h2⟩
end
section
variable {X : Cx} {W : WX} {pos : Pos}
theorem ev_lcT {tg elt it : Expr} {ifs : List Expr} {scope : Scope} {ri : RI} {G : TG} {g : RG} {tt : RT} {te : RE} {own : List (Str × Nat)} (hc : X.calm = true) (hN : X.N.Nodup) (hi : EI X W tg it ri) (ok : BlkOk X.N X.env.scope scope own) (kp : Keeps G g (own.map (·.2)) X.K)
    (hg : ∀ (s : Shared) (H : Hp) (C : Addr) (cl : List (Str × Addr)) (fp : List Addr), PG (X.blk s H scope (compEnvC scope cl C X.env) fp) tg G)
    (ht : ∀ (s : Shared) (H : Hp) (C : Addr) (cl : List (Str × Addr)) (fp : List Addr), EP1 (X.blk s H scope (compEnvC scope cl C X.env) fp) W0 ifs tt)
    (he : ∀ (s : Shared) (H : Hp) (C : Addr) (cl : List (Str × Addr)) (fp : List Addr), EV (X.blk s H scope (compEnvC scope cl C X.env) fp) W0 elt te) (hs : ∀ x, foldedSetIterable it X.env x = pure x := by intro _; rfl) :
    EV X W (.ListComp elt [⟨tg, it, ifs, 0⟩] scope pos) (rLc ri g tt te (own.map (·.2))) := by
  obtain ⟨wi, pi, li⟩ := hi.ex
  refine ⟨_, pe_lc (tt := dnT X.K W0 tt) (te := dnE X.K W0 te) hc hN pi ok hg (fun s H C cl fp => (ht s H C cl fp).pe) (fun s H C cl fp => (he s H C cl fp).pe) hs, fun σ σ' H S Q Q' E' rs rh h q xi => ?_⟩
  exact li σ σ' H S _ _ _ rs rh h (fun J xs gd S1 H1 f1 rh1 ok h1 => lc_run (W := W) kp (rs.mono (f1.tle rh)) rh1 ok (q.go f1) h1) xi
theorem es_setLcT (j : Nat) {y : Str} {py spos : Pos} {tg elt it : Expr} {ifs : List Expr} {scope : Scope} {ri : RI} {G : TG} {g : RG} {tt : RT} {te : RE} {own : List (Str × Nat)} (hc : X.calm = true) (hN : X.N.Nodup) (hi : EI X W tg it ri) (ok : BlkOk X.N X.env.scope scope own) (kp : Keeps G g (own.map (·.2)) X.K)
    (hg : ∀ (s : Shared) (H : Hp) (C : Addr) (cl : List (Str × Addr)) (fp : List Addr), PG (X.blk s H scope (compEnvC scope cl C X.env) fp) tg G)
    (ht : ∀ (s : Shared) (H : Hp) (C : Addr) (cl : List (Str × Addr)) (fp : List Addr), EP1 (X.blk s H scope (compEnvC scope cl C X.env) fp) W0 ifs tt)
    (he : ∀ (s : Shared) (H : Hp) (C : Addr) (cl : List (Str × Addr)) (fp : List Addr), EV (X.blk s H scope (compEnvC scope cl C X.env) fp) W0 elt te)
    (hsw : swapsWith (.ListComp elt [⟨tg, it, ifs, 0⟩] scope pos) (some (.Name y py)) spos.line X.env = pure true) (hy : X.N[j]? = some y := by rfl) (hyl : X.env.scope.names.lookup y = some .local := by rfl) (hs : ∀ x, foldedSetIterable it X.env x = pure x := by intro _; rfl) :
    ES X W (.Assign [.Name y py] (.ListComp elt [⟨tg, it, ifs, 0⟩] scope pos) spos) (rSet (rLc ri g tt te (own.map (·.2))) (gNm j)) := by
  obtain ⟨wi, pi, li⟩ := hi.ex
  refine ⟨_, ps_setLc (tt := dnT X.K W0 tt) (te := dnE X.K W0 te) hc hN hy hyl hsw pi ok hg (fun s H C cl fp => (ht s H C cl fp).pe) (fun s H C cl fp => (he s H C cl fp).pe) hs, fun σ σ' H S D D' rs rh h d => ?_⟩
  refine li σ σ' H S _ _ _ rs rh h (fun J xs gd S1 H1 f1 rh1 ok h1 => ?_) (d.xi rh rs)
  refine lc_run (W := W) (Q := fun v H1 => gName j v σ H1 D.nx) (Q' := fun d S1 => gNm j d σ' S1 D'.nx (D'.x σ')) kp (rs.mono (f1.tle rh)) rh1 ok ?_ h1
  intro dd S2 v H2 f2 rh2 dv h2
  exact d.nx _ _ _ _ (f1.trans f2) rh2 ((rs.mono ((f1.trans f2).tle rh)).set dv j) h2
end
end Y
namespace Y
open PySem PySem.Spec PyProof.Rows L2
/-! ### int(t, 2) -/
namespace Bi
open PySem.NumText PySem.Calls
def Is (c : Nat) : Prop := c = 48 ∨ c = 49
def num (l : List Nat) : Nat := l.foldl (fun a c => a * 2 + (c - 48)) 0
theorem hex {c : Nat} (h : Is c) : Hx.IsHex c := by unfold Is at h; unfold Hx.IsHex; omega
theorem hexs {l : List Nat} (h : ∀ c ∈ l, Is c) : ∀ c ∈ l, Hx.IsHex c := fun c m => hex (h c m)
theorem step2 {ds : Array Nat} {b : Bool} {c : Nat} (h : Is c) : NumText.step 2 (ds, b) c = some (ds.push (c - 48), true) := by
  rcases h with rfl | rfl <;> rfl
theorem fold2 : ∀ (l : List Nat) (ds : Array Nat), (∀ c ∈ l, Is c) → l.foldlM (NumText.step 2) (ds, true) = some (l.foldl (fun a c => a.push (c - 48)) ds, true)
  | [], _, _ => rfl
  | c :: l, ds, h => by
    rw [List.foldlM_cons, step2 (h c List.mem_cons_self)]
    exact fold2 l _ fun d m => h d (List.mem_cons_of_mem _ m)
theorem digits2 {l : List Nat} (h : ∀ c ∈ l, Is c) (n : l ≠ []) : digits? 2 l = some (l.foldl (fun a c => a.push (c - 48)) #[]) := by
  match l, n with
  | c :: l, _ =>
    unfold digits?
    rw [List.foldlM_cons, step2 (h c List.mem_cons_self)]
    show (l.foldlM (NumText.step 2) ((#[] : Array Nat).push (c - 48), true)).bind _ = _
    rw [fold2 l _ fun d m => h d (List.mem_cons_of_mem _ m)]
    rfl
theorem push2 : ∀ (l : List Nat) (ds : Array Nat), (l.foldl (fun a c => a.push (c - 48)) ds).foldl (fun a d => a * 2 + d) 0 = l.foldl (fun a c => a * 2 + (c - 48)) (ds.foldl (fun a d => a * 2 + d) 0)
  | [], _ => rfl
  | c :: l, ds => by
    rw [List.foldl_cons, push2 l (ds.push (c - 48)), List.foldl_cons, Array.foldl_push]
theorem based2 : ∀ {l : List Nat}, (∀ c ∈ l, Is c) → based 2 l = (2, false, l)
  | [], _ => rfl
  | [a], h => by rcases h a List.mem_cons_self with rfl | rfl <;> rfl
  | a :: c :: r, h => by
    rcases h a List.mem_cons_self with rfl | rfl <;> rcases h c (List.mem_cons_of_mem _ List.mem_cons_self) with rfl | rfl <;> rfl
theorem read2 {l : List Nat} (h : ∀ c ∈ l, Is c) (n : l ≠ []) : (int_private% "readNumeral") 0 2 l = (int_private% "Numeral.value") ((num l : Nat) : Int) := by
  have hr := hexs (l := l.reverse) fun c m => h c (List.mem_reverse.mp m)
  refine (readNumeral_eq 0 2 l).trans ?_
  rw [Hx.dropB (hexs h), Hx.signH (hexs h)]
  show judge 0 false (based 2 l).1 (based 2 l).2.1 (digits? (based 2 l).1 (((based 2 l).2.2.reverse.dropWhile blank).reverse)) = _
  rw [based2 h]
  show judge 0 false 2 false (digits? 2 ((l.reverse.dropWhile blank).reverse)) = _
  rw [Hx.dropB hr, List.reverse_reverse, digits2 h n]
  show (int_private% "Numeral.value") (((l.foldl (fun a c => a.push (c - 48)) (#[] : Array Nat)).foldl (fun a d => a * 2 + d) 0 : Nat) : Int) = _
  have z : (#[] : Array Nat).foldl (fun a d => a * 2 + d) 0 = 0 := by first | rfl | simp
  rw [push2, z] <;> rfl
set_option maxHeartbeats 4000000 in
theorem gives2 {x : PySem.Str} {u t : Tok} (hl : x.length ≤ 640) (h : ∀ c ∈ x.cps.toList, Is c) (n : x.cps.toList ≠ []) : Gives (Builtin.«int.__new__» ⟨[.type "int", .str x u, .int 2 t], []⟩) (.int ((num x.cps.toList : Nat) : Int)) :=
  .of_wp fun M A E s Q hQ => by
    obtain ⟨hp, g, d, tk, os⟩ := s
    have f1 := F.conv_sub_int; have f2 := F.madeHere_int; have f6 : typeOf (.str x u) = pure (.type "str") := rfl
    obtain ⟨e1, e2⟩ := Hx.seen_hex (hexs h)
    have hk : Hx.Hid ((numSeenOf x).length ≤ 640 ∧ (int_private% "readNumeral") 0 2 (numSeenOf x) = (int_private% "Numeral.value") ((num x.cps.toList : Nat) : Int) ∧ ((numSeenOf x).length == (numTextOf x).length) = true) := by
      refine ⟨?_, ?_, ?_⟩
      · rw [e2, Array.length_toList]; exact hl
      · rw [e2]; exact read2 h n
      · rw [e1, e2]; exact beq_self_eq_true _
    clear e1 e2 hl n h
    repeat (any_goals (first
      | assumption
      | ((with_reducible show wpAny _ _ ((int_private% "intFromText") _ _ _) _ _ _); refine Hx.wp_textB hk.out.1 hk.out.2.1 hk.out.2.2 ?_)
      | wp_step))
    all_goals (first | exact ⟨_, rfl, hQ⟩ | skip)
theorem call2 {prog : Program} {w : World} {A : Around} {E : Value → Shared → Prop} {s : Shared} {Q : Value → Shared → Prop} {x : PySem.Str} {u t : Tok} (hl : x.length ≤ 640) (h : ∀ c ∈ x.cps.toList, Is c) (n : x.cps.toList ≠ [])
    (hQ : Q (.int ((num x.cps.toList : Nat) : Int) s.toks) { s with toks := s.toks + 1 }) : wpAny (model prog w) A (call (.type "int") [.str x u, .int 2 t]) Q E s :=
  callType_new F.called_int F.newNe_int (Hx.typeCall_int_2 _ _) (Hx.newCall_int_2 _ _) (fun obj => F.initArgs_range_2 obj _ _) F.entry_int_new (gives2 hl h n).meets (show (Made.int ((num x.cps.toList : Nat) : Int)).post _ s from ⟨rfl, hQ⟩)
end Bi
/-- int(d) or int(t, 2) -/
def int2F (ds : List D) (S : Hq) (Q : Qv) : Prop := match ds with
  | [.str z, .int 2] => z.cps.toList ≠ [] ∧ z.length ≤ 640 ∧ (∀ c ∈ z.cps.toList, Bi.Is c) ∧ Q (.int ((Bi.num z.cps.toList : Nat) : Int)) S
  | _ => False
section
variable {X : Cx} {K : PySem.W.Frag}
theorem call_int2b : CallR X (.type "int") (fun xs H Q => ∃ z : Str, xs = [.str z, .int 2] ∧ z.cps.toList ≠ [] ∧ z.length ≤ 640 ∧ (∀ c ∈ z.cps.toList, Bi.Is c) ∧ Q (.int ((Bi.num z.cps.toList : Nat) : Int)) H) := by
  intro pins s σ H xs us Q I r h
  obtain ⟨z, rfl, n, hl, hx, q⟩ := h
  obtain ⟨u, w', rfl, r1, r2⟩ := vals2 r
  obtain ⟨t1, rfl⟩ := r1
  obtain ⟨t2, rfl⟩ := r2
  exact Bi.call2 hl hx n ⟨.int ((Bi.num z.cps.toList : Nat) : Int), H, I.tok _, ⟨_, rfl⟩, q⟩
theorem lc_int2 : LiftC K int2F (fun xs H Q => ∃ z : Str, xs = [.str z, .int 2] ∧ z.cps.toList ≠ [] ∧ z.length ≤ 640 ∧ (∀ c ∈ z.cps.toList, Bi.Is c) ∧ Q (.int ((Bi.num z.cps.toList : Nat) : Int)) H) := by
  intro ds S H Q' Q vs rh dv h q
  unfold int2F at h
  split at h
  · rename_i z
    match vs, dv with
    | [_, _], .cons (.str _) (.cons (.int _) .nil) => exact ⟨z, rfl, h.1, h.2.1, h.2.2.1, q.here rh (.int _) h.2.2.2⟩
  · exact h.elim
end
/-! ### for c in a text -/
def signsD (z : Str) : List D := z.cps.toList.map fun c => .str ⟨#[c]⟩
def strD (x : D) (S1 : Hq) (R : List D → (Hq → Prop) → Hq → Prop) : Prop := match x with
  | .str z => R (signsD z) (fun _ => True) S1
  | _ => False
def iStrD (r : RE) : RI := fun σ S R E => r σ S (fun x S1 => strD x S1 R) E
theorem it_str {K : PySem.W.Frag} {S1 : Hq} {H1 : Hp} {z : Str} : ItOk K S1 H1 (Its z) (signsD z) (fun _ => True) := by
  refine ⟨fun S H f rh _ => ?_, fun i x S H hx f rh _ => ?_, fun i x S H v H' hx f rh _ hy => ?_⟩
  · show z.cps.size ≤ _
    unfold signsD; rw [List.length_map, Array.length_toList]; exact Nat.le_refl _
  · have := (List.getElem?_eq_some_iff.mp hx).1
    unfold signsD at this
    rw [List.length_map, Array.length_toList] at this
    exact this
  · obtain ⟨rfl, c, hc, rfl⟩ := hy
    unfold signsD at hx
    rw [List.getElem?_map, Array.getElem?_toList, hc] at hx
    cases hx
    exact ⟨Fr.refl, rh, .str _⟩
section
variable {X : Cx} {W : WX} {e : Expr} {r : RE} {pos : Pos}
theorem ei_str {tg : Expr} (h : EV X W e r) : EI X W tg e (iStrD r) := by
  obtain ⟨T, p, l⟩ := h.ex
  refine ⟨_, pi_str p, fun σ σ' H S R R' E' rs rh h q xi => ?_⟩
  refine l σ σ' H S _ _ _ rs rh h (fun x S1 v H1 f1 rh1 dv h1 => ?_) xi
  cases dv with
  | str z => exact ⟨z, rfl, q _ _ _ _ _ f1 rh1 it_str h1⟩
  | _ => exact h1.elim
/-! ### xs[::-1] -/
def revD (x : D) (S : Hq) (Q : Qv) : Prop := match x with
  | .ref a => ∃ xs, LsR S a xs ∧ ∀ p, S p = none → Q (.ref p) (up S p (.lst xs.reverse))
  | _ => False
theorem DVs.rev {K : PySem.W.Frag} {H : Hp} : ∀ {ds : List D} {vs : List V}, DVs K H ds vs → DVs K H ds.reverse vs.reverse
  | _, _, .nil => .nil
  | _, _, .cons x r => by rw [List.reverse_cons, List.reverse_cons]; exact (DVs.rev r).app (.cons x .nil)
theorem ev_rev {k : Nat} {p1 p2 p3 : Pos} (h : EV X W e r) : EV X W (.Subscript e (.Slice none none (some (.UnaryOp .USub (.Constant (.int 1) k p1) p2)) p3) pos) (rUn revD r) := by
  obtain ⟨T, p, l⟩ := h.ex
  refine ⟨_, pe_revL p, fun σ σ' H S Q Q' E' rs rh h q xi => ?_⟩
  refine l σ σ' H S _ _ _ rs rh h (fun x S1 v H1 f1 rh1 dv h1 => ?_) xi
  cases dv with
  | ref a =>
    obtain ⟨xs, g, h1⟩ := h1
    obtain ⟨vs, s, r⟩ := rh1.sql g
    refine ⟨a, vs, rfl, s, fun p hp => ?_⟩
    exact (q.go f1).newL rh1 hp (DVs.rev r) (h1 p (rh1.fresh hp))
  | _ => exact h1.elim
end
/-! ### xs.index(t) of texts -/
def ixoD (x : D) (ds : List D) (S : Hq) (Q : Qv) : Prop := match x, ds with
  | .ref a, [.str z] => ∃ (zs : List Str) (j : Nat), LsR S a (zs.map D.str) ∧ zs[j]? = some z ∧ (∀ m, m < j → zs[m]? ≠ some z) ∧ Q (.int j) S
  | _, _ => False
theorem DVs.txts {K : PySem.W.Frag} {H : Hp} : ∀ {zs : List Str} {vs : List V}, DVs K H (zs.map D.str) vs → vs = zs.map V.str
  | [], _, .nil => rfl
  | _ :: _, _, .cons x r => by cases x; rw [DVs.txts r]; rfl
theorem lm_ixo {K : PySem.W.Frag} : LiftM K ixoD (rIndex K) := by
  intro x ds S H Q' Q v vs rh dx dv h q
  match x, ds, dx, dv, h with
  | .ref a, [.str z], .ref _, .cons (.str _) .nil, h =>
    obtain ⟨zs, j, l, e, n, h⟩ := h
    obtain ⟨ys, s, r⟩ := rh.sql l
    rw [DVs.txts r] at s
    refine ⟨a, _, .str z, j, .str z, rfl, rfl, s, rfl, ?_, by rw [List.getElem?_map, e]; rfl, ?_, fun m z' hm hz => ?_, q.here rh (.int _) h⟩
    · rw [List.all_eq_true]; intro y hy; obtain ⟨t, _, rfl⟩ := List.mem_map.mp hy; rfl
    · simp [eqV]
    · rw [List.getElem?_map] at hz
      cases g : zs[m]? with
      | none => rw [g] at hz; cases hz
      | some t =>
        rw [g] at hz; cases hz
        have : t ≠ z := fun c => n m hm (by rw [g, c])
        simp [eqV, this]
end Y
namespace Y
open PySem PySem.Spec PyProof.Rows L2
section
variable {S : Hq} {Q : Qv} {z : Str} {p : Addr} {xs : List D} {R : List D → (Hq → Prop) → Hq → Prop}
theorem q_int2 : int2F [.str z, .int 2] S Q = (z.cps.toList ≠ [] ∧ z.length ≤ 640 ∧ (∀ c ∈ z.cps.toList, Bi.Is c) ∧ Q (.int ((Bi.num z.cps.toList : Nat) : Int)) S) := rfl
theorem q_strD : strD (.str z) S R = R (signsD z) (fun _ => True) S := rfl
theorem q_rev (h : S p = some (.lst xs)) : revD (.ref p) S Q = (∀ q, S q = none → Q (.ref q) (up S q (.lst xs.reverse))) := by
  unfold revD LsR
  simp only [h, Option.some.injEq, HQ.lst.injEq, exists_eq_left']
theorem q_ixo : ixoD (.ref p) [.str z] S Q = (∃ (zs : List Str) (j : Nat), S p = some (.lst (zs.map D.str)) ∧ zs[j]? = some z ∧ (∀ m, m < j → zs[m]? ≠ some z) ∧ Q (.int j) S) := rfl
end
end Y
/-! ### xs.extend(t) -/
namespace Y
open PySem PySem.Spec PyProof.Rows L2
section
open PySem.AutoSeq1
theorem ext_tup {l b : Addr} {xs ys : Array Value} {n m : Nat} {dd : Option Addr} {sl : Array (Option Value)} (h0 : ¬(!xs.isEmpty && Builtin.List.listTooLong (xs.size + ys.size)) = true) (h1 : xs.size ≤ sizeLine) (h2 : (xs ++ ys).size ≤ sizeLine + 1) :
    Meets (Builtin.«list.extend» ⟨[.ref l, .ref b], []⟩) (fun _ R s => s.heap.get? l = some { cls := .type "list", dict := none, data := .seq xs n, slots := #[] } ∧ s.heap.get? b = some ⟨.type "tuple", dd, .seq ys m, sl⟩ ∧ R (.ok (.ret .none)) { s with heap := s.heap.update l (Obj.mapSeq (· ++ ys)), toks := s.toks }) :=
  .of_wp fun prog w A R s ⟨hl, hb, h⟩ => by
    obtain ⟨hp, g, d, tk, os⟩ := s
    have f1 := idx_int
    have f2 := AutoSeq1.sub_tuple_tuple; have f3 := AutoSeq1.sub_list_list; have f4 := AutoSeq1.sub_tuple_list
    have f5 := AutoSeq1.sub_list_tuple
    wp_walk using (wpAny_updateSeq hl rfl (hz := h1) (_hz' := h2)), wpAny_loadPart' hb, wpAny_loadPart' hl
    exact ⟨_, rfl, h⟩
end
def rExtT (K : PySem.W.Frag) : V → List V → Hp → VK → Prop := fun x vs H Q => ∃ (l b : Addr) (xs zs : List V), x = .ref l ∧ vs = [.ref b] ∧ H l = some (.lst xs) ∧ SqT K H b zs ∧ xs.length + zs.length ≤ sizeLine ∧ Q .non (upd H l (.lst (xs ++ zs)))
section
variable {X : Cx} {K : PySem.W.Frag}
theorem mt_extT : MtM X "list.extend" (rExtT X.K) := by
  intro pins s σ H x vs v us Q I rx rv h
  obtain ⟨l, b, xs, zs, rfl, rfl, hH, hB, hz, q⟩ := h
  cases rx
  obtain ⟨u, rfl, ru⟩ := rv.one
  cases ru
  obtain ⟨z, its, n, r, hl, e⟩ := I.lstM hH
  obtain ⟨its2, r2, ⟨⟨oc, od, dt, sl⟩, g, c, m, dq⟩, _⟩ := I.tuple hB
  simp only at c dq
  subst c dq
  have n1 := r.length; have n2 := r2.length
  have hsz : its.toArray.size + its2.toArray.size ≤ sizeLine := by rw [List.size_toArray, List.size_toArray]; omega
  have long : ¬(!its.toArray.isEmpty && Builtin.List.listTooLong (its.toArray.size + its2.toArray.size)) = true := by rw [notLongL hsz, Bool.and_false]; exact Bool.false_ne_true
  refine call_meets F.slot_list_extend ⟨_, e, rfl⟩ F.entry_list_extend (F.args_list_extend_2 _ _) (ext_tup (n := n) long (by omega) (by rw [Array.size_append]; omega)) ⟨e, g, .non, _, I.lset (its' := its ++ its2) hH e (by simp) (r.append r2) ?_, rfl, q⟩
  rw [List.length_append]; omega
theorem mt_ext2 : MtM X "list.extend" (fun x vs H Q => rExtend x vs H Q ∨ rExtT X.K x vs H Q) := by
  intro pins s σ H x vs v us Q I rx rv h
  rcases h with h | h
  · exact mt_extend _ _ _ _ _ _ _ _ _ I rx rv h
  · exact mt_extT _ _ _ _ _ _ _ _ _ I rx rv h
def extD2 (x : D) (ds : List D) (S : Hq) (Q : Qv) : Prop := match x, ds with
  | .ref a, [.tup ys] => ∃ xs, S a = some (.lst xs) ∧ xs.length + ys.length ≤ 1000000 ∧ Q .non (up S a (.lst (xs ++ ys)))
  | x, ds => extD x ds S Q
theorem lm_ext2 : LiftM K extD2 (fun x vs H Q => rExtend x vs H Q ∨ rExtT K x vs H Q) := by
  intro x ds S H Q' Q v vs rh dx dv h q
  unfold extD2 at h
  split at h
  · rename_i a ys
    match v, vs, dx, dv with
    | _, _, .ref _, .cons (.tup sq dy) .nil =>
      obtain ⟨xs, e, hz, h⟩ := h
      obtain ⟨us, g, r⟩ := rh.lst e
      exact .inr ⟨_, _, us, _, rfl, rfl, g, sq, by rw [← r.length, ← dy.length]; exact big_le hz, q.putL rh e (r.app dy) .non h⟩
  · exact .inl (lm_ext _ _ _ _ _ _ _ _ rh dx dv h q)
end
theorem q_ext2 {S : Hq} {Q : Qv} {p q : Addr} : extD2 (.ref p) [.ref q] S Q = extD (.ref p) [.ref q] S Q := rfl
theorem q_extT {S : Hq} {Q : Qv} {p : Addr} {ys : List D} : extD2 (.ref p) [.tup ys] S Q = (∃ xs, S p = some (.lst xs) ∧ xs.length + ys.length ≤ 1000000 ∧ Q .non (up S p (.lst (xs ++ ys)))) := rfl
end Y
namespace Y
open PySem PySem.Spec PyProof.Rows L2
/-! ### in, not in, of a list of plain data -/
theorem units65 {k : Nat} {A : Around} (hr : Room k A) : A.units + 65 < cLine := by have := hr.un; omega
def inD2 (g : Bool → Bool) : R2q := fun x y S Q => match y with
  | .ref a => ∃ ys, LsR S a ys ∧ okE x ∧ okE (.tup ys) ∧ Q (.bl (g ((pds ys).any fun z => PyData.eqv z (pd x)))) S
  | _ => False
section
variable {X : Cx} {K : PySem.W.Frag}
theorem lf_in : Lift2 K (inD2 id) (rInD K) := by
  intro x y S H Q' Q v u rh dx dy h q
  cases dy with
  | ref a =>
    obtain ⟨ys, e, ⟨p1, s1⟩, ⟨p2, s2⟩, h⟩ := h
    obtain ⟨us, g, r⟩ := rh.sql e
    exact ⟨pd x, pds ys, DV.dp _ _ p1 dx, .lst g (DVs.dp _ _ (by simpa [pur] using p2) r), s1, by rw [shaped_list]; simpa [pd] using s2, q.here rh (.bl _) h⟩
  | _ => exact h.elim
theorem lf_notIn : Lift2 K (inD2 not) (rNotInD K) := by
  intro x y S H Q' Q v u rh dx dy h q
  cases dy with
  | ref a =>
    obtain ⟨ys, e, ⟨p1, s1⟩, ⟨p2, s2⟩, h⟩ := h
    obtain ⟨us, g, r⟩ := rh.sql e
    exact ⟨pd x, pds ys, DV.dp _ _ p1 dx, .lst g (DVs.dp _ _ (by simpa [pur] using p2) r), s1, by rw [shaped_list]; simpa [pd] using s2, q.here rh (.bl _) h⟩
  | _ => exact h.elim
/-! ### insert, pop(i) -/
theorem DVs.takeN {H : Hp} : ∀ {ds : List D} {vs : List V} (n : Nat), DVs K H ds vs → DVs K H (ds.take n) (vs.take n)
  | _, _, 0, _ => by rw [List.take_zero, List.take_zero]; exact .nil
  | _, _, n + 1, .nil => .nil
  | _, _, n + 1, .cons x r => .cons x (DVs.takeN n r)
theorem DVs.dropN {H : Hp} : ∀ {ds : List D} {vs : List V} (n : Nat), DVs K H ds vs → DVs K H (ds.drop n) (vs.drop n)
  | _, _, 0, h => h
  | _, _, n + 1, .nil => .nil
  | _, _, n + 1, .cons x r => DVs.dropN n r
theorem DVs.cutN {H : Hp} : ∀ {ds : List D} {vs : List V} (n : Nat), DVs K H ds vs → DVs K H (ds.eraseIdx n) (vs.eraseIdx n)
  | _, _, _, .nil => .nil
  | _, _, 0, .cons x r => r
  | _, _, n + 1, .cons x r => .cons x (DVs.cutN n r)
def insD (x : D) (ds : List D) (S : Hq) (Q : Qv) : Prop := match x, ds with
  | .ref a, [.int i, y] => ∃ xs, S a = some (.lst xs) ∧ xs.length < 1000000 ∧ 0 ≤ i ∧ i < 2 ^ 62 ∧ Q .non (up S a (.lst (xs.take i.toNat ++ [y] ++ xs.drop i.toNat)))
  | _, _ => False
def rIns : V → List V → Hp → VK → Prop := fun x vs H Q => ∃ (l : Addr) (xs : List V) (i : Int) (y : V), x = .ref l ∧ vs = [.int i, y] ∧ H l = some (.lst xs) ∧ xs.length < sizeLine ∧ 0 ≤ i ∧ i < 2 ^ 63 ∧ Q .non (upd H l (.lst (xs.take i.toNat ++ [y] ++ xs.drop i.toNat)))
theorem mt_ins : MtR X "list.insert" rIns := mt_insert
theorem lm_ins : LiftM K insD rIns := by
  intro x ds S H Q' Q v vs rh dx dv h q
  match x, ds, dx, dv, h with
  | .ref a, [.int i, y], .ref _, .cons (.int _) (.cons d .nil), h =>
    obtain ⟨xs, e, hz, h0, h1, h⟩ := h
    obtain ⟨ys, g, r⟩ := rh.lst e
    exact ⟨_, ys, i, _, rfl, rfl, g, by rw [← r.length]; exact big_lt hz, h0, by omega, q.putL rh e (((r.takeN _).app (.cons d .nil)).app (r.dropN _)) .non h⟩
def popD (x : D) (ds : List D) (S : Hq) (Q : Qv) : Prop := match x, ds with
  | .ref a, [.int i] => ∃ xs y, S a = some (.lst xs) ∧ 0 ≤ i ∧ i < 2 ^ 62 ∧ xs[i.toNat]? = some y ∧ Q y (up S a (.lst (xs.eraseIdx i.toNat)))
  | _, _ => False
theorem lm_pop : LiftM K popD rPopAt := by
  intro x ds S H Q' Q v vs rh dx dv h q
  match x, ds, dx, dv, h with
  | .ref a, [.int i], .ref _, .cons (.int _) .nil, h =>
    obtain ⟨xs, y, e, h0, h1, hy, h⟩ := h
    obtain ⟨ys, g, r⟩ := rh.lst e
    obtain ⟨w, hw, dw⟩ := r.get hy
    have hl : i.toNat < ys.length := (List.getElem?_eq_some_iff.mp hw).1
    refine ⟨_, ys, i, i.toNat, w, rfl, rfl, g, by omega, by omega, ?_, hw, q.putL rh e (r.cutN _) dw h⟩
    obtain ⟨j, rfl⟩ := Int.eq_ofNat_of_zero_le h0
    rw [Int.toNat_natCast] at hl
    unfold seqIndex?
    simp
    omega
end
end Y
namespace Y
open PySem PySem.Spec PyProof.Rows L2
section
variable {S : Hq} {Q : Qv} {p : Addr} {x y : D} {i : Int}
theorem q_in {g : Bool → Bool} : inD2 g x (.ref p) S Q = (∃ ys, S p = some (.lst ys) ∧ okE x ∧ okE (.tup ys) ∧ Q (.bl (g ((pds ys).any fun z => PyData.eqv z (pd x)))) S) := rfl
theorem q_ins : insD (.ref p) [.int i, y] S Q = (∃ xs, S p = some (.lst xs) ∧ xs.length < 1000000 ∧ 0 ≤ i ∧ i < 2 ^ 62 ∧ Q .non (up S p (.lst (xs.take i.toNat ++ [y] ++ xs.drop i.toNat)))) := rfl
theorem q_pop : popD (.ref p) [.int i] S Q = (∃ xs y, S p = some (.lst xs) ∧ 0 ≤ i ∧ i < 2 ^ 62 ∧ xs[i.toNat]? = some y ∧ Q y (up S p (.lst (xs.eraseIdx i.toNat)))) := rfl
end
end Y
/-! ### any of a list of bools -/
namespace Y
open PySem PySem.Spec PyProof.Rows L2
def anyD (ds : List D) (S : Hq) (Q : Qv) : Prop := match ds with
  | [.ref a] => ∃ bs : List Bool, LsR S a (bs.map D.bl) ∧ Q (.bl (bs.any id)) S
  | _ => False
theorem DVs.bools {K : PySem.W.Frag} {H : Hp} : ∀ {bs : List Bool} {vs : List V}, DVs K H (bs.map D.bl) vs → vs = bs.map V.bl
  | [], _, .nil => rfl
  | _ :: _, _, .cons x r => by cases x; rw [DVs.bools r]; rfl
theorem lc_any {K : PySem.W.Frag} : LiftC K anyD (rAny K) := by
  intro ds S H Q' Q vs rh dv h q
  match ds, vs, dv, h with
  | [.ref a], _, .cons (.ref _) .nil, h =>
    obtain ⟨bs, l, h⟩ := h
    obtain ⟨us, s, r⟩ := rh.sql l
    rw [DVs.bools r] at s
    exact ⟨_, bs, rfl, s, q.here rh (.bl _) h⟩
theorem q_any {S : Hq} {Q : Qv} {p : Addr} : anyD [.ref p] S Q = (∃ bs : List Bool, S p = some (.lst (bs.map D.bl)) ∧ Q (.bl (bs.any id)) S) := rfl
end Y
namespace L2
open PySem PySem.Spec PyProof.Rows
theorem Mut.get {P : Program} {w : World} {H : Hp} {h : Heap} {a : Addr} {u : HO} (m : Mut (some u)) (x : ObjOk P w H h a u) : ∃ o, h.get? a = some o := by
  cases u <;> try exact m.elim
  · obtain ⟨_, its, n, _, ho⟩ := x; exact ⟨_, ho⟩
  · obtain ⟨_, _, vs, _, o, es, ep, ho, _⟩ := x; exact ⟨_, ho⟩
  · obtain ⟨_, _, xs, _, o, es, ep, ho, _⟩ := x; exact ⟨_, ho⟩
  · obtain ⟨o, es, ep, t, ho, _⟩ := x; exact ⟨_, ho⟩
  · obtain ⟨_, _, _, ho, _⟩ := x; exact ⟨_, ho⟩
  · obtain ⟨_, ho, _⟩ := x; exact ho
theorem HOk.frzU {P : Program} {w : World} {H : Hp} {h : Heap} {a : Addr} {w0 : HO} {o : Obj} (x : HOk P w H h) (m : Mut (some w0)) (e : H a = some w0) (ho : h.get? a = some o) : HOk P w (upd H a (.frz o w0)) h := fun b u q => by
  have nown : ∀ c y, H c = some (.own y) → c ≠ a := fun c y r z => by subst z; rw [e] at r; cases r; exact m
  have ntup : ∀ c ys, H c = some (.tup ys) → c ≠ a := fun c ys r z => by subst z; rw [e] at r; cases r; exact m
  have st : ∀ {b : Addr} {u : HO}, ObjOk P w H h b u → ObjOk P w (upd H a (.frz o w0)) h b u := fun y => y.stay (fun c v _ r => r) (fun c r => by rw [upd_ne (nown c _ r)]; exact r) fun c ys r => by rw [upd_ne (ntup c ys r)]; exact r
  by_cases hb : b = a
  · subst hb; rw [upd_same] at q; cases q
    exact ⟨ho, st (x b _ e)⟩
  · rw [upd_ne hb] at q
    exact st (x b u q)
theorem Inv.frzU {X : Cx} {pins : List (Addr × Obj)} {σ : List (Option V)} {H : Hp} {s : Shared} {a : Addr} {w0 : HO} (I : Inv X pins σ H s) (m : Mut (some w0)) (e : H a = some w0) : ∃ o, Inv X pins σ (upd H a (.frz o w0)) s := by
  obtain ⟨ob, ho⟩ := m.get (I.hok a _ e)
  refine ⟨ob, ?_⟩
  have hne : ∀ b u, H b = some u → ¬ Mut (some u) → b ≠ a := fun b u q k z => by subst z; rw [e] at q; cases q; exact k m
  have h0 : ∀ b, H b = none → b ≠ a := fun b q z => by subst z; rw [e] at q; cases q
  exact I.un (t' := s.toks) (h' := s.heap) (H' := upd H a (.frz ob w0)) ⟨fun b o q _ _ _ => q, fun b o q _ _ _ => ⟨o.slots, q⟩, fun b o _ n _ => by rw [upd_ne (h0 b n)]; exact n, fun b o q _ => ⟨o, q⟩, fun b ys q => by rw [upd_ne (hne b _ q fun z => z)]; exact q,
    fun b o u q => by rw [upd_ne (hne b _ q fun z => z)]; exact q, fun b ps q => ⟨#[], by rw [upd_ne (hne b _ q fun z => z), q]; simp⟩⟩ (I.hok.frzU m e ho)
/-- a list is let be: read from now on, never written -/
def fzV (Q : VK) : VK := fun v H => Q v H ∨ ∃ a u, Mut (some u) ∧ H a = some u ∧ ∀ o, Q v (upd H a (.frz o u))
theorem EP.fz {X : Cx} {pins : List (Addr × Obj)} {σ : St} {Q : VK} {u : Value} {s : Shared} (h : EP X pins σ (fzV Q) u s) : EP X pins σ Q u s := by
  obtain ⟨v, H, I, r, q | ⟨a, u, m, e, q⟩⟩ := h
  · exact ⟨v, H, I, r, q⟩
  · obtain ⟨o, I'⟩ := I.frzU m e
    exact ⟨_, _, I', r, q o⟩
theorem pe_fz {X : Cx} {e : Expr} {t : TE} (h : PE X e t) : PE X e (fun σ H Q => t σ H (fzV Q)) := ⟨fun pins s σ H Q I k => thn (h.run pins s σ H _ I k) fun _ _ q => q.fz⟩
def fzS (N : St → Hp → Prop) : St → Hp → Prop := fun σ H => N σ H ∨ ∃ a u, Mut (some u) ∧ H a = some u ∧ ∀ o, N σ (upd H a (.frz o u))
theorem ps_fz {X : Cx} {st : Stmt} {t : TS} (h : PS X st t) : PS X st (fun D σ H => t { D with nx := fzS D.nx } σ H) := ⟨fun pins s σ H D I k => thn (h.run pins s σ H _ I k) fun f s' q => by
  cases f with
  | next =>
    obtain ⟨σ', H', I', q | ⟨a, u, m, e, q⟩⟩ := q
    · exact ⟨σ', H', I', q⟩
    · obtain ⟨o, I2⟩ := I'.frzU m e
      exact ⟨σ', _, I2, q o⟩
  | brk => exact q
  | cont => exact q
  | ret u => exact q⟩
end L2
/-! ### lists that are let be -/
namespace Y
open PySem PySem.Spec PyProof.Rows L2
def rm (S : Hq) (p : Addr) : Hq := fun b => if b = p then none else S b
theorem rm_same {S : Hq} {p : Addr} : rm S p p = none := if_pos rfl
theorem rm_ne {S : Hq} {p b : Addr} (h : b ≠ p) : rm S p b = S b := if_neg h
theorem rm_up {S : Hq} {p : Addr} {o : HQ} (h : S p = none) : rm (up S p o) p = S := by
  funext b; unfold rm up; split
  · rename_i e; rw [e, h]
  · rfl
def fzD (x : D) (S : Hq) (Q : Qv) : Prop := match x with
  | .ref p => ∃ xs, S p = some (.lst xs) ∧ Q (.kl xs) (rm S p)
  | x => Q x S
/-- a new list, which may be written; one that is let be -/
abbrev Nw2 := List D → Hq → Qv → Prop
def nwT : Nw2 := fun xs S Q => ∀ p, S p = none → Q (.ref p) (up S p (.lst xs))
def nwF : Nw2 := fun xs S Q => Q (.kl xs) S
theorem nw_fz {xs : List D} {S : Hq} {Q : Qv} (h : nwF xs S Q) : nwT xs S (fun x S1 => fzD x S1 Q) := fun p hp => ⟨xs, up_same, by rw [rm_up hp]; exact h⟩
section
variable {K : PySem.W.Frag} {S : Hq} {H : Hp} {Q' : Qv} {Q : VK}
theorem RH.frz (rh : RH K S H) {p : Addr} {o : Obj} {xs : List D} {vs : List V} (e : S p = some (.lst xs)) : Fr S H (rm S p) (upd H p (.frz o (.lst vs))) ∧ RH K (rm S p) (upd H p (.frz o (.lst vs))) := by
  have f : Fr S H (rm S p) (upd H p (.frz o (.lst vs))) := fun a u h n => by
    have ne : a ≠ p := fun z => by rw [z, e] at n; cases n
    exact ⟨by rw [upd_ne ne]; exact h, by rw [rm_ne ne]; exact n⟩
  refine ⟨f, fun b u h => ?_⟩
  have ne : b ≠ p := fun z => by rw [z, rm_same] at h; cases h
  rw [rm_ne ne] at h
  exact (rh b u h).stay (f.tle rh) (fun c q => f c _) (upd_ne ne)
theorem QI.fz (q : QI K S H Q' Q) : QI K S H (fun x S1 => fzD x S1 Q') (fzV Q) := by
  intro d S1 v H1 f rh dv h
  cases d with
  | ref p =>
    cases dv
    obtain ⟨xs, e, h⟩ := h
    obtain ⟨vs, e', r⟩ := rh.lst e
    refine .inr ⟨p, .lst vs, trivial, e', fun o => ?_⟩
    obtain ⟨f2, rh2⟩ := rh.frz (o := o) (vs := vs) e
    exact q (.kl xs) _ _ _ (f.trans f2) rh2 (.kl (.inl ⟨o, upd_same⟩) (DVs.mono (f2.tle rh) _ _ r)) h
  | _ => exact .inl (q _ _ _ _ f rh dv h)
end
section
variable {X : Cx}
theorem opr_fz {f : Value → Value → Sem Value} {r : R2} (h : OpR X f r) : OpR X f (fun x y H Q => r x y H (fzV Q)) := fun pins s σ H x y v u Q I rx ry q => thn (h pins s σ H x y v u _ I rx ry q) fun _ _ q => q.fz
theorem callr_fz {f : Value} {r : List V → Hp → VK → Prop} (h : CallR X f r) : CallR X f (fun xs H Q => r xs H (fzV Q)) := fun pins s σ H xs us Q I rx q => thn (h pins s σ H xs us _ I rx q) fun _ _ q => q.fz
theorem slr_fz {r : V → Option Int → Option Int → Hp → VK → Prop} (h : SlR X r) : SlR X (fun x lo hi H Q => r x lo hi H (fzV Q)) := fun pins s σ H x v vl vu lo hi sl Q I rx hs pl pu q =>
  let ⟨T, id, a, b, c⟩ := h pins s σ H x v vl vu lo hi sl _ I rx hs pl pu q
  ⟨T, id, a, b, thn c fun _ _ q => q.fz⟩
theorem lift2_fz {K : PySem.W.Frag} {f g : R2q} {r : R2} (h : Lift2 K f r) (hg : ∀ x y S Q, g x y S Q → f x y S (fun z S1 => fzD z S1 Q)) : Lift2 K g (fun x y H Q => r x y H (fzV Q)) := fun x y S H Q' Q v u rh dx dy k q => h x y S H _ _ v u rh dx dy (hg _ _ _ _ k) q.fz
theorem liftc_fz {K : PySem.W.Frag} {f g : List D → Hq → Qv → Prop} {r : List V → Hp → VK → Prop} (h : LiftC K f r) (hg : ∀ ds S Q, g ds S Q → f ds S (fun z S1 => fzD z S1 Q)) : LiftC K g (fun xs H Q => r xs H (fzV Q)) := fun ds S H Q' Q vs rh dv k q => h ds S H _ _ vs rh dv (hg _ _ _ k) q.fz
end
section
variable {X : Cx} {W : WX} {e : Expr} {t : RE} {pos : Pos}
/-- an expression's list is let be -/
def rFz (t : RE) : RE := fun σ S Q E => t σ S (fun x S1 => fzD x S1 Q) E
theorem ev_fz (h : EV X W e t) : EV X W e (rFz t) := by
  obtain ⟨T, p, l⟩ := h.ex
  exact ⟨_, pe_fz p, fun σ σ' H S Q Q' E' rs rh h q xi => l σ σ' H S _ _ E' rs rh h q.fz xi⟩
def rLstF (r : RA) : RE := fun σ S Q E => r σ S (fun xs S1 => xs.length ≤ 1000000 ∧ Q (.kl xs) S1) E
theorem ev_lstF {es : List Expr} {rs' : RA} (h : EA X W es rs') : EV X W (.List es pos) (rLstF rs') := by
  obtain ⟨T, p, l⟩ := h.ex
  refine ⟨_, pe_fz (pe_lst p), fun σ σ' H S Q Q' E' rs rh h q xi => ?_⟩
  refine l σ σ' H S _ _ E' rs rh h (fun d S1 v H1 f1 rh1 dv h1 => ⟨by rw [← dv.length]; exact big_le h1.1, fun p hp => ?_⟩) xi
  exact (q.go f1).fz.newL rh1 hp dv (nw_fz h1.2 p (rh1.fresh hp))
end
end Y
namespace Y
open PySem PySem.Spec PyProof.Rows L2
theorem lc_runG {K : PySem.W.Frag} {W : WX} {J : It} {gd : Hq → Prop} {T : TG} {g : RG} {tt : RT} {te : RE} {vs : List Nat} {σ : L2.St} {σ' : Sg} {S1 : Hq} {H1 : Hp} {xs : List D} {Q : VK} {Q' : Qv} {QF : List D → Hq → Prop} (fin : ∀ acc' S, QF acc' S → ∀ p, S p = none → Q' (.ref p) (up S p (.lst acc'))) (kp : Keeps T g vs K)
    (rs : RS K H1 σ' σ) (rh : RH K S1 H1) (ok : ItOk K S1 H1 J xs gd) (q : QI K S1 H1 Q' Q) (h : lcP gd g tt te vs σ' QF xs [] S1) :
    ∀ Dd, H1 Dd = none → ∃ W : Nat → Nat → Hp → Prop, (∃ m, W 0 m (upd H1 Dd (.lst []))) ∧ ∀ i m H, W i m H →
      (J.stop i H ∧ Q (.ref Dd) H) ∨ (J.go i H ∧ ∃ Nx : Hp → Prop, (∀ H', Nx H' → ∃ m', m' < m ∧ W (i + 1) m' H') ∧ ∀ x H', J.yld i H x H' → T x (L2.wipe σ vs) H' fun σ2 H2 => L2.wipe σ2 vs = L2.wipe σ vs ∧ dnT K W0 tt σ2 H2 fun b H3 =>
        if b = true then dnE K W0 te σ2 H3 fun y H4 => ∃ acc, H4 Dd = some (.lst acc) ∧ acc.length < sizeLine ∧ Nx (upd H4 Dd (.lst (acc ++ [y]))) else Nx H3) := by
  intro Dd hD
  have fD : Fr S1 H1 S1 (upd H1 Dd (.lst [])) := Fr.new rh hD
  refine ⟨fun i m H => ∃ S acc acc', i + m = xs.length ∧ Fr S1 H1 S H ∧ RH K S H ∧ H Dd = some (.lst acc) ∧ S Dd = none ∧ DVs K H acc' acc ∧ lcP gd g tt te vs σ' QF (xs.drop i) acc' S,
    ⟨xs.length, S1, [], [], by omega, fD, rh.new hD, upd_same, rh.fresh hD, .nil, by simpa using h⟩, ?_⟩
  rintro i m H ⟨S, acc, acc', em, f, rh2, eD, nD, da, h⟩
  by_cases hi : i < xs.length
  · obtain ⟨x, hx⟩ : ∃ x, xs[i]? = some x := ⟨_, List.getElem?_eq_getElem hi⟩
    have hd : xs.drop i = x :: xs.drop (i + 1) := by
      rw [List.drop_eq_getElem_cons hi]
      rw [List.getElem?_eq_getElem hi] at hx
      rw [Option.some.inj hx]
    rw [hd] at h
    obtain ⟨g2, h⟩ := h
    refine .inr ⟨ok.go i x S H hx f rh2 g2, fun H => ∃ S acc acc', Fr S1 H1 S H ∧ RH K S H ∧ H Dd = some (.lst acc) ∧ S Dd = none ∧ DVs K H acc' acc ∧ lcP gd g tt te vs σ' QF (xs.drop (i + 1)) acc' S,
      fun H ⟨S, acc, acc', a, b, c, d, e, f⟩ => ⟨m - 1, by omega, S, acc, acc', by omega, a, b, c, d, e, f⟩, fun v H3 hy => ?_⟩
    obtain ⟨f3, rh3, dv⟩ := ok.yld i x S H v H3 hx f rh2 g2 hy
    have f03 := f.trans f3
    obtain ⟨eD3, nD3⟩ := f3 Dd _ eD nD
    refine kp.to σ (wipeD σ' vs) H3 S x v _ _ ((rs.mono (f03.tle rh)).wipe vs) rh3 dv h fun σ2' σ2 ew rs2 h2 => ⟨ew, σ2', S, _, NoX, rs2, rh3, h2, fun b S4 H4 f4 rh4 h4 => ?_, XI.no⟩
    have f04 := f03.trans f4
    obtain ⟨eD4, nD4⟩ := f4 Dd _ eD3 nD3
    have da4 := DVs.mono ((f3.trans f4).tle rh2) _ _ da
    cases b with
    | false => exact ⟨S4, acc, acc', f04, rh4, eD4, nD4, da4, h4⟩
    | true =>
      refine ⟨σ2', S4, _, NoX, rs2.mono (f4.tle rh3), rh4, h4, fun y S5 u H5 f5 rh5 dy h5 => ?_, XI.no⟩
      obtain ⟨eD5, nD5⟩ := f5 Dd _ eD4 nD4
      have da5 := DVs.mono (f5.tle rh4) _ _ da4
      refine ⟨acc, eD5, by rw [← da5.length]; exact big_lt h5.1, S5, acc ++ [u], acc' ++ [y], ?_, ?_, upd_same, nD5, ?_, h5.2⟩
      · intro b o e n
        obtain ⟨e', n'⟩ := (f04.trans f5) b o e n
        have hb : b ≠ Dd := fun z => by rw [z, hD] at e; cases e
        exact ⟨by rw [upd_ne hb]; exact e', n'⟩
      all_goals
        have t : Tle K H5 (upd H5 Dd (.lst (acc ++ [u]))) := by
          refine ⟨fun a xs hq => ?_, fun a xs hq => ?_, fun a xs hq => by rw [upd_ne (fun z => by rw [z, eD5] at hq; cases hq)]; exact hq⟩
          · rcases hq with (hq | ⟨o, hq⟩) | hq
            · exact .inl (.inl (by rw [upd_ne (fun z => by rw [z, eD5] at hq; cases hq)]; exact hq))
            · exact .inl (.inr ⟨o, by rw [upd_ne (fun z => by rw [z, eD5] at hq; cases hq)]; exact hq⟩)
            · exact .inr hq
          · rcases hq with ⟨o, hq⟩ | hq
            · exact .inl ⟨o, by rw [upd_ne (fun z => by rw [z, eD5] at hq; cases hq)]; exact hq⟩
            · exact .inr hq
      · intro b o e
        have hb : b ≠ Dd := fun z => by rw [z, nD5] at e; cases e
        exact (rh5 b o e).stay t (fun c q e n => ⟨by rw [upd_ne (fun z => by rw [z, eD5] at e; cases e)]; exact e, n⟩) (upd_ne hb)
      · exact DVs.mono t _ _ (da5.app (.cons dy .nil))
  · have hn : xs.drop i = [] := List.drop_eq_nil_of_le (by omega)
    rw [hn] at h
    have ei : i = xs.length := by omega
    subst ei
    refine .inl ⟨ok.stop S H f rh2 h.1, ?_⟩
    -- the list is tracked from now on
    have r2 : RH K (up S Dd (.lst acc')) H := fun b o e => by
      by_cases hb : b = Dd
      · subst hb; rw [up_same] at e; cases e; exact ⟨acc, eD, da⟩
      · rw [up_ne hb] at e
        exact (rh2 b o e).stay Tle.refl (fun c q e n => ⟨e, by rw [up_ne (fun z => by rw [z, eD] at e; cases e)]; exact n⟩) rfl
    refine q (.ref Dd) _ _ _ (fun b o e n => ?_) r2 (.ref Dd) (fin _ _ h.2 Dd nD)
    obtain ⟨e', n'⟩ := f b o e n
    have hb : b ≠ Dd := fun z => by rw [z, hD] at e; cases e
    exact ⟨e', by rw [up_ne hb]; exact n'⟩
def rLcF (ri : RI) (g : RG) (tt : RT) (te : RE) (vs : List Nat) : RE := fun σ S Q E => ri σ S (fun xs gd S1 => lcP gd g tt te vs σ (fun acc S2 => Q (.kl acc) S2) xs [] S1) E
section
variable {X : Cx} {W : WX} {pos : Pos}
theorem ev_lcF (i : Nat) {x : Str} {xp : Pos} {elt it : Expr} {ifs : List Expr} {scope : Scope} {ri : RI} {tt : RT} {te : RE} (hc : X.calm = true) (hN : X.N.Nodup) (hi : EI X W (.Name x xp) it ri) (ok : BlkOk X.N X.env.scope scope [(x, i)])
    (hg : ∀ (s : Shared) (H : Hp) (C : Addr) (cl : List (Str × Addr)) (fp : List Addr), PG (X.blk s H scope (compEnvC scope cl C X.env) fp) (.Name x xp) (gName i))
    (ht : ∀ (s : Shared) (H : Hp) (C : Addr) (cl : List (Str × Addr)) (fp : List Addr), EP1 (X.blk s H scope (compEnvC scope cl C X.env) fp) W0 ifs tt)
    (he : ∀ (s : Shared) (H : Hp) (C : Addr) (cl : List (Str × Addr)) (fp : List Addr), EV (X.blk s H scope (compEnvC scope cl C X.env) fp) W0 elt te) (hs : ∀ x, foldedSetIterable it X.env x = pure x := by intro _; rfl) :
    EV X W (.ListComp elt [⟨.Name x xp, it, ifs, 0⟩] scope pos) (rLcF ri (gNm i) tt te [i]) := by
  obtain ⟨wi, pi, li⟩ := hi.ex
  refine ⟨_, pe_fz (pe_lc (tt := dnT X.K W0 tt) (te := dnE X.K W0 te) hc hN pi ok hg (fun s H C cl fp => (ht s H C cl fp).pe) (fun s H C cl fp => (he s H C cl fp).pe) hs), fun σ σ' H S Q Q' E' rs rh h q xi => ?_⟩
  exact li σ σ' H S _ _ _ rs rh h (fun J xs gd S1 H1 f1 rh1 ok h1 => lc_runG (W := W) (Q' := fun x S1 => fzD x S1 Q') (fun _ _ z => nw_fz z) keeps_nm (rs.mono (f1.tle rh)) rh1 ok (q.go f1).fz h1) xi
theorem es_setLcF (j i : Nat) {y : Str} {py spos : Pos} {x : Str} {xp : Pos} {elt it : Expr} {ifs : List Expr} {scope : Scope} {ri : RI} {tt : RT} {te : RE} (hc : X.calm = true) (hN : X.N.Nodup) (hi : EI X W (.Name x xp) it ri) (ok : BlkOk X.N X.env.scope scope [(x, i)])
    (hg : ∀ (s : Shared) (H : Hp) (C : Addr) (cl : List (Str × Addr)) (fp : List Addr), PG (X.blk s H scope (compEnvC scope cl C X.env) fp) (.Name x xp) (gName i))
    (ht : ∀ (s : Shared) (H : Hp) (C : Addr) (cl : List (Str × Addr)) (fp : List Addr), EP1 (X.blk s H scope (compEnvC scope cl C X.env) fp) W0 ifs tt)
    (he : ∀ (s : Shared) (H : Hp) (C : Addr) (cl : List (Str × Addr)) (fp : List Addr), EV (X.blk s H scope (compEnvC scope cl C X.env) fp) W0 elt te)
    (hsw : swapsWith (.ListComp elt [⟨.Name x xp, it, ifs, 0⟩] scope pos) (some (.Name y py)) spos.line X.env = pure true) (hy : X.N[j]? = some y := by rfl) (hyl : X.env.scope.names.lookup y = some .local := by rfl) (hs : ∀ x, foldedSetIterable it X.env x = pure x := by intro _; rfl) :
    ES X W (.Assign [.Name y py] (.ListComp elt [⟨.Name x xp, it, ifs, 0⟩] scope pos) spos) (rSet (rLcF ri (gNm i) tt te [i]) (gNm j)) := by
  obtain ⟨wi, pi, li⟩ := hi.ex
  refine ⟨_, ps_fz (ps_setLc (tt := dnT X.K W0 tt) (te := dnE X.K W0 te) hc hN hy hyl hsw pi ok hg (fun s H C cl fp => (ht s H C cl fp).pe) (fun s H C cl fp => (he s H C cl fp).pe) hs), fun σ σ' H S D D' rs rh h d => ?_⟩
  refine li σ σ' H S _ _ _ rs rh h (fun J xs gd S1 H1 f1 rh1 ok h1 => ?_) (d.xi rh rs)
  refine lc_runG (W := W) (Q := fun v H1 => gName j v σ H1 (fzS D.nx)) (Q' := fun d S1 => fzD d S1 (fun d S1 => gNm j d σ' S1 D'.nx (D'.x σ'))) (fun _ _ z => nw_fz z) keeps_nm (rs.mono (f1.tle rh)) rh1 ok ?_ h1
  intro dd S2 v H2 f2 rh2 dv h2
  have n0 : Tle X.K H H2 := (f1.trans f2).tle rh
  cases dd with
  | ref p =>
    cases dv
    obtain ⟨xs, e, h2⟩ := h2
    obtain ⟨vs, e', r⟩ := rh2.lst e
    refine .inr ⟨p, .lst vs, trivial, e', fun o => ?_⟩
    obtain ⟨f3, rh3⟩ := rh2.frz (o := o) (vs := vs) e
    exact d.nx _ _ _ _ ((f1.trans f2).trans f3) rh3 ((rs.mono (((f1.trans f2).trans f3).tle rh)).set (.kl (.inl ⟨o, upd_same⟩) (DVs.mono (f3.tle rh2) _ _ r)) j) h2
  | _ => exact .inl (d.nx _ _ _ _ (f1.trans f2) rh2 ((rs.mono ((f1.trans f2).tle rh)).set dv j) h2)
theorem ev_lcTF {tg elt it : Expr} {ifs : List Expr} {scope : Scope} {ri : RI} {G : TG} {g : RG} {tt : RT} {te : RE} {own : List (Str × Nat)} (hc : X.calm = true) (hN : X.N.Nodup) (hi : EI X W tg it ri) (ok : BlkOk X.N X.env.scope scope own) (kp : Keeps G g (own.map (·.2)) X.K)
    (hg : ∀ (s : Shared) (H : Hp) (C : Addr) (cl : List (Str × Addr)) (fp : List Addr), PG (X.blk s H scope (compEnvC scope cl C X.env) fp) tg G)
    (ht : ∀ (s : Shared) (H : Hp) (C : Addr) (cl : List (Str × Addr)) (fp : List Addr), EP1 (X.blk s H scope (compEnvC scope cl C X.env) fp) W0 ifs tt)
    (he : ∀ (s : Shared) (H : Hp) (C : Addr) (cl : List (Str × Addr)) (fp : List Addr), EV (X.blk s H scope (compEnvC scope cl C X.env) fp) W0 elt te) (hs : ∀ x, foldedSetIterable it X.env x = pure x := by intro _; rfl) :
    EV X W (.ListComp elt [⟨tg, it, ifs, 0⟩] scope pos) (rLcF ri g tt te (own.map (·.2))) := by
  obtain ⟨wi, pi, li⟩ := hi.ex
  refine ⟨_, pe_fz (pe_lc (tt := dnT X.K W0 tt) (te := dnE X.K W0 te) hc hN pi ok hg (fun s H C cl fp => (ht s H C cl fp).pe) (fun s H C cl fp => (he s H C cl fp).pe) hs), fun σ σ' H S Q Q' E' rs rh h q xi => ?_⟩
  exact li σ σ' H S _ _ _ rs rh h (fun J xs gd S1 H1 f1 rh1 ok h1 => lc_runG (W := W) (Q' := fun x S1 => fzD x S1 Q') (fun _ _ z => nw_fz z) kp (rs.mono (f1.tle rh)) rh1 ok (q.go f1).fz h1) xi
theorem es_setLcTF (j : Nat) {y : Str} {py spos : Pos} {tg elt it : Expr} {ifs : List Expr} {scope : Scope} {ri : RI} {G : TG} {g : RG} {tt : RT} {te : RE} {own : List (Str × Nat)} (hc : X.calm = true) (hN : X.N.Nodup) (hi : EI X W tg it ri) (ok : BlkOk X.N X.env.scope scope own) (kp : Keeps G g (own.map (·.2)) X.K)
    (hg : ∀ (s : Shared) (H : Hp) (C : Addr) (cl : List (Str × Addr)) (fp : List Addr), PG (X.blk s H scope (compEnvC scope cl C X.env) fp) tg G)
    (ht : ∀ (s : Shared) (H : Hp) (C : Addr) (cl : List (Str × Addr)) (fp : List Addr), EP1 (X.blk s H scope (compEnvC scope cl C X.env) fp) W0 ifs tt)
    (he : ∀ (s : Shared) (H : Hp) (C : Addr) (cl : List (Str × Addr)) (fp : List Addr), EV (X.blk s H scope (compEnvC scope cl C X.env) fp) W0 elt te)
    (hsw : swapsWith (.ListComp elt [⟨tg, it, ifs, 0⟩] scope pos) (some (.Name y py)) spos.line X.env = pure true) (hy : X.N[j]? = some y := by rfl) (hyl : X.env.scope.names.lookup y = some .local := by rfl) (hs : ∀ x, foldedSetIterable it X.env x = pure x := by intro _; rfl) :
    ES X W (.Assign [.Name y py] (.ListComp elt [⟨tg, it, ifs, 0⟩] scope pos) spos) (rSet (rLcF ri g tt te (own.map (·.2))) (gNm j)) := by
  obtain ⟨wi, pi, li⟩ := hi.ex
  refine ⟨_, ps_fz (ps_setLc (tt := dnT X.K W0 tt) (te := dnE X.K W0 te) hc hN hy hyl hsw pi ok hg (fun s H C cl fp => (ht s H C cl fp).pe) (fun s H C cl fp => (he s H C cl fp).pe) hs), fun σ σ' H S D D' rs rh h d => ?_⟩
  refine li σ σ' H S _ _ _ rs rh h (fun J xs gd S1 H1 f1 rh1 ok h1 => ?_) (d.xi rh rs)
  refine lc_runG (W := W) (Q := fun v H1 => gName j v σ H1 (fzS D.nx)) (Q' := fun d S1 => fzD d S1 (fun d S1 => gNm j d σ' S1 D'.nx (D'.x σ'))) (fun _ _ z => nw_fz z) kp (rs.mono (f1.tle rh)) rh1 ok ?_ h1
  intro dd S2 v H2 f2 rh2 dv h2
  have n0 : Tle X.K H H2 := (f1.trans f2).tle rh
  cases dd with
  | ref p =>
    cases dv
    obtain ⟨xs, e, h2⟩ := h2
    obtain ⟨vs, e', r⟩ := rh2.lst e
    refine .inr ⟨p, .lst vs, trivial, e', fun o => ?_⟩
    obtain ⟨f3, rh3⟩ := rh2.frz (o := o) (vs := vs) e
    exact d.nx _ _ _ _ ((f1.trans f2).trans f3) rh3 ((rs.mono (((f1.trans f2).trans f3).tle rh)).set (.kl (.inl ⟨o, upd_same⟩) (DVs.mono (f3.tle rh2) _ _ r)) j) h2
  | _ => exact .inl (d.nx _ _ _ _ (f1.trans f2) rh2 ((rs.mono ((f1.trans f2).tle rh)).set dv j) h2)
end
end Y
/-! ### lists, written ones or let be: by what they hold -/
namespace Y
open PySem PySem.Spec PyProof.Rows L2
def lsv (x : D) (S : Hq) (R : List D → Prop) : Prop := match x with | .ref a => ∃ xs, S a = some (.lst xs) ∧ R xs | .kl xs => R xs | _ => False
def lsg (x : D) (xs : List D) : Hq → Prop := match x with | .ref a => fun S => S a = some (.lst xs) | _ => fun _ => True
structure LsK (K : PySem.W.Frag) (S1 : Hq) (H1 : Hp) (a : Addr) (xs : List D) (g : Hq → Prop) : Prop where
  at_ : ∀ S H, Fr S1 H1 S H → RH K S H → g S → ∃ vs, SqL K H a vs ∧ DVs K H xs vs
section
variable {K : PySem.W.Frag} {S : Hq} {H : Hp} {x : D} {v : V} {R : List D → Prop}
theorem RH.lsv (rh : RH K S H) (dv : DV K H x v) (h : lsv x S R) : ∃ a ds vs, v = .ref a ∧ SqL K H a vs ∧ DVs K H ds vs ∧ R ds ∧ LsK K S H a ds (lsg x ds) ∧ lsg x ds S := by
  cases dv with
  | ref a =>
    obtain ⟨xs, e, h⟩ := h
    obtain ⟨vs, s, r⟩ := rh.sql e
    exact ⟨a, xs, vs, rfl, s, r, h, ⟨fun S' H' f rh' g => rh'.sql g⟩, e⟩
  | kl s r => exact ⟨_, _, _, rfl, s.sql, r, h, ⟨fun S' H' f rh' g => ⟨_, ((f.tle rh).f _ _ s).sql, DVs.mono (f.tle rh) _ _ r⟩⟩, trivial⟩
  | _ => exact h.elim
end
section
variable {S : Hq} {R : List D → Prop} {p : Addr} {xs : List D}
theorem v_r : lsv (.ref p) S R = (∃ xs, S p = some (.lst xs) ∧ R xs) := rfl
theorem v_k : lsv (.kl xs) S R = R xs := rfl
theorem lg_r : lsg (.ref p) xs = fun S => S p = some (.lst xs) := rfl
theorem lg_k {ys : List D} : lsg (.kl ys) xs = fun _ => True := rfl
end
/-! ### list + list -/
section
open PySem.AutoSeq1
theorem add_any {l b : Addr} {xs ys : Array Value} {n m : Nat} {sl sk : Array (Option Value)} (hz : xs.size + ys.size ≤ sizeLine) :
    Meets (Builtin.«list.__add__» ⟨[.ref l, .ref b], []⟩) (fun _ R s => s.heap.get? l = some ⟨.type "list", none, .seq xs n, sl⟩ ∧ s.heap.get? b = some ⟨.type "list", none, .seq ys m, sk⟩ ∧ R (.ok (.ret (Value.ref s.heap.objs.size))) { s with heap := s.heap.push { cls := Value.type "list", data := Data.seq (xs ++ ys) }, toks := s.toks }) :=
  .of_wp fun prog w A R s ⟨hl, hb, h⟩ => by
    obtain ⟨hp, g, d, tk, os⟩ := s
    have f1 := idx_int
    have f2 := AutoSeq1.sub_tuple_tuple; have f3 := AutoSeq1.sub_list_list; have f4 := AutoSeq1.sub_tuple_list
    have f5 := AutoSeq1.sub_list_tuple
    wp_walk using wpAny_loadPart' hl, wpAny_loadPart' hb
    exact ⟨_, rfl, h⟩
end
def rCatL (K : PySem.W.Frag) : R2 := fun x y H Q => ∃ l b xs zs, x = .ref l ∧ y = .ref b ∧ SqL K H l xs ∧ SqL K H b zs ∧ xs.length + zs.length ≤ sizeLine ∧ ∀ p, H p = none → Q (.ref p) (upd H p (.lst (xs ++ zs)))
theorem op_catL {X : Cx} : OpR X (binaryOp .Add) (rCatL X.K) := by
  intro pins s σ H x y v u Q I rx ry h
  obtain ⟨l, b, xs, zs, rfl, rfl, hH, hB, hz, q⟩ := h
  cases rx
  cases ry
  obtain ⟨its, r, ⟨⟨oc, od, dt, sl⟩, n, e, c, d0, dq⟩, hl⟩ := I.list hH
  obtain ⟨its2, r2, ⟨⟨oc2, od2, dt2, sl2⟩, n2, e2, c2, d2, dq2⟩, hl2⟩ := I.list hB
  simp only at c d0 dq c2 d2 dq2
  subst c d0 dq c2 d2 dq2
  have n1 := r.length; have n2' := r2.length
  refine concat_meets ⟨_, e, rfl⟩ ⟨_, e2, rfl⟩ noFill_list_add seq_list_add F.slot_list_add F.entry_list_add (F.args_list_add_2 _ _) (add_any (by rw [List.size_toArray, List.size_toArray]; omega)) ⟨e, e2, ?_⟩
  have ea : its.toArray ++ its2.toArray = (its ++ its2).toArray := by simp
  rw [ea]
  exact ⟨.ref _, _, I.lnew (t' := s.toks) (r.append r2) (by rw [List.length_append]; omega), rfl, q _ I.fresh⟩
def addM (m : Nw2) : R2q := fun x y S Q => match x, y with
  | .int i, .int j => Q (.int (i + j)) S
  | .str a, .str b => a.length + b.length ≤ 1000000 ∧ Q (.str (a ++ b)) S
  | .tup xs, .tup ys => xs.length + ys.length ≤ 1000000 ∧ Q (.tup (xs ++ ys)) S
  | x, y => lsv x S fun xs => lsv y S fun ys => xs.length + ys.length ≤ 1000000 ∧ m (xs ++ ys) S Q
def rAddU (K : PySem.W.Frag) : R2 := fun x y H Q => (rI0 (fun i j => .int (i + j)) x y H Q) ∨ (∃ i j, x = .str i ∧ y = .str j ∧ i.length + j.length ≤ sizeLine ∧ Q (.str (i ++ j)) H) ∨ rCatA K x y H Q ∨ rCatL K x y H Q
section
variable {X : Cx} {K : PySem.W.Frag}
theorem op_addT : OpR X (binaryOp .Add) (rAddU X.K) := opr_or op_add (opr_or op_add_str (opr_or op_catA op_catL))
theorem op_addF : OpR X (binaryOp .Add) (fun x y H Q => rAddU X.K x y H (fzV Q)) := opr_fz op_addT
theorem lf_addT : Lift2 K (addM nwT) (rAddU K) := by
  intro x y S H Q' Q v u rh dx dy h q
  have fin : (lsv x S fun xs => lsv y S fun ys => xs.length + ys.length ≤ 1000000 ∧ nwT (xs ++ ys) S Q') → rAddU K v u H Q := fun h => by
    obtain ⟨a, xs, vs, rfl, s, r, h, _⟩ := rh.lsv dx h
    obtain ⟨b, ys, us, rfl, s2, r2, h, _⟩ := rh.lsv dy h
    exact .inr (.inr (.inr ⟨a, b, vs, us, rfl, rfl, s, s2, by rw [← r.length, ← r2.length]; exact big_le h.1, fun p hp => q.newL rh hp (r.app r2) (h.2 p (rh.fresh hp))⟩))
  cases x with
  | int i => cases y with
    | int j => cases dx; cases dy; exact .inl ⟨_, _, rfl, rfl, q.here rh (.int _) h⟩
    | _ => exact h.elim
  | str z => cases y with
    | str j => cases dx; cases dy; exact .inr (.inl ⟨_, _, rfl, rfl, big_le h.1, q.here rh (.str _) h.2⟩)
    | _ => exact h.elim
  | tup xs => cases y with
    | tup ys =>
      cases dx with | tup s1 r1 =>
      cases dy with | tup s2 r2 =>
      refine .inr (.inr (.inl ⟨_, _, _, _, rfl, rfl, s1, s2.1, by rw [← r1.length, ← r2.length]; exact big_le h.1, fun e => ?_, fun n e => ?_, fun n m p hp => ?_⟩))
      · subst e; cases r1; exact q.here rh (.tup s2 r2) h.2
      · subst e; cases r2; exact q.here rh (.tup s1 r1) (by have := h.2; rw [List.append_nil] at this; exact this)
      · exact q.newT rh hp (r1.app r2) h.2
    | _ => exact h.elim
  | ref a => exact fin (by cases y <;> exact h)
  | kl xs => exact fin (by cases y <;> exact h)
  | _ => exact (by cases y <;> exact h.elim)
theorem lsv_mono {x : D} {S : Hq} {R R' : List D → Prop} (h : lsv x S R) (f : ∀ xs, R xs → R' xs) : lsv x S R' := by
  cases x with
  | ref a => obtain ⟨xs, e, h⟩ := h; exact ⟨xs, e, f _ h⟩
  | kl xs => exact f _ h
  | _ => exact h.elim
theorem fz_int {i : Int} {S : Hq} {Q : Qv} : fzD (.int i) S Q = Q (.int i) S := rfl
theorem lf_addF : Lift2 K (addM nwF) (fun x y H Q => rAddU K x y H (fzV Q)) := lift2_fz lf_addT fun x y S Q h => by
  have fin : (lsv x S fun xs => lsv y S fun ys => xs.length + ys.length ≤ 1000000 ∧ nwF (xs ++ ys) S Q) → (lsv x S fun xs => lsv y S fun ys => xs.length + ys.length ≤ 1000000 ∧ nwT (xs ++ ys) S (fun z S1 => fzD z S1 Q)) :=
    fun h => lsv_mono h fun xs h => lsv_mono h fun ys h => ⟨h.1, nw_fz h.2⟩
  cases x <;> cases y <;> first | exact h | exact fin h
end
section
variable {S : Hq} {Q : Qv} {m : Nw2} {i j : Int} {a b : Str} {xs ys : List D} {p q : Addr} {x y : D}
theorem a_i : addM m (.int i) (.int j) S Q = Q (.int (i + j)) S := rfl
theorem a_s : addM m (.str a) (.str b) S Q = (a.length + b.length ≤ 1000000 ∧ Q (.str (a ++ b)) S) := rfl
theorem a_t : addM m (.tup xs) (.tup ys) S Q = (xs.length + ys.length ≤ 1000000 ∧ Q (.tup (xs ++ ys)) S) := rfl
theorem a_r : addM m (.ref p) y S Q = lsv (.ref p) S fun xs => lsv y S fun ys => xs.length + ys.length ≤ 1000000 ∧ m (xs ++ ys) S Q := by cases y <;> rfl
theorem a_k : addM m (.kl xs) y S Q = lsv y S fun ys => xs.length + ys.length ≤ 1000000 ∧ m (xs ++ ys) S Q := by cases y <;> rfl
theorem m_T : nwT xs S Q = (∀ p, S p = none → Q (.ref p) (up S p (.lst xs))) := rfl
theorem m_F : nwF xs S Q = Q (.kl xs) S := rfl
end
/-! ### tuple(x), list(x) -/
def tupF3 (ds : List D) (S : Hq) (Q : Qv) : Prop := match ds with
  | [.tup xs] => Q (.tup xs) S
  | [x] => lsv x S fun xs => Q (.tup xs) S
  | _ => False
def lstM (m : Nw2) (ds : List D) (S : Hq) (Q : Qv) : Prop := match ds with
  | [.tup xs] => m xs S Q
  | [x] => lsv x S fun xs => m xs S Q
  | _ => False
def rTupOf (K : PySem.W.Frag) : List V → Hp → VK → Prop := fun xs H Q => ∃ p ys, xs = [.ref p] ∧ ((SqL K H p ys ∧ ∀ l, H l = none → Q (.ref l) (upd H l (.tup ys))) ∨ (SqT K H p ys ∧ Q (.ref p) H))
def rLstOf (K : PySem.W.Frag) : List V → Hp → VK → Prop := fun xs H Q => ∃ p ys, xs = [.ref p] ∧ (SqL K H p ys ∨ SqT K H p ys) ∧ ∀ l, H l = none → Q (.ref l) (upd H l (.lst ys))
section
variable {X : Cx} {K : PySem.W.Frag}
theorem cr_tup3 : CallR X (.type "tuple") (rTupOf X.K) := call_tuple_of
theorem cr_lstT : CallR X (.type "list") (rLstOf X.K) := call_list_of
theorem cr_lstF : CallR X (.type "list") (fun xs H Q => rLstOf X.K xs H (fzV Q)) := callr_fz cr_lstT
theorem lc_tup3 : LiftC K tupF3 (rTupOf K) := by
  intro ds S H Q' Q vs rh dv h q
  rcases ds with _ | ⟨x, _ | ⟨y, r⟩⟩
  · exact h.elim
  · cases dv with | @cons _ v _ _ dx t =>
    cases t
    have fin : (lsv x S fun xs => Q' (.tup xs) S) → rTupOf K [v] H Q := fun h => by
      obtain ⟨a, xs, vs, rfl, s, r, h, _⟩ := rh.lsv dx h
      exact ⟨a, vs, rfl, .inl ⟨s, fun p hp => q.newT rh hp r h⟩⟩
    cases x with
    | tup xs => cases dx with | tup s r => exact ⟨_, _, rfl, .inr ⟨s.1, q.here rh (.tup s r) h⟩⟩
    | _ => exact fin h
  · exact (show False from by cases x <;> exact h).elim
theorem lc_lstT : LiftC K (lstM nwT) (rLstOf K) := by
  intro ds S H Q' Q vs rh dv h q
  rcases ds with _ | ⟨x, _ | ⟨y, r⟩⟩
  · exact h.elim
  · cases dv with | @cons _ v _ _ dx t =>
    cases t
    have fin : (lsv x S fun xs => nwT xs S Q') → rLstOf K [v] H Q := fun h => by
      obtain ⟨a, xs, vs, rfl, s, r, h, _⟩ := rh.lsv dx h
      exact ⟨a, vs, rfl, .inl s, fun p hp => q.newL rh hp r (h p (rh.fresh hp))⟩
    cases x with
    | tup xs => cases dx with | tup s r => exact ⟨_, _, rfl, .inr s, fun p hp => q.newL rh hp r (h p (rh.fresh hp))⟩
    | _ => exact fin h
  · exact (show False from by cases x <;> exact h).elim
theorem lc_lstF : LiftC K (lstM nwF) (fun xs H Q => rLstOf K xs H (fzV Q)) := liftc_fz lc_lstT fun ds S Q h => by
  match ds with
  | [] => exact h.elim
  | [x] =>
    cases x with
    | tup xs => exact nw_fz h
    | ref a => exact lsv_mono (x := .ref a) h fun _ h => nw_fz h
    | kl a => exact nw_fz h
    | _ => exact h.elim
  | x :: _ :: _ => exact (show False from by cases x <;> exact h).elim
end
section
variable {S : Hq} {Q : Qv} {m : Nw2} {xs : List D} {p : Addr}
theorem t_t : tupF3 [.tup xs] S Q = Q (.tup xs) S := rfl
theorem t_r : tupF3 [.ref p] S Q = ∃ xs, S p = some (.lst xs) ∧ Q (.tup xs) S := rfl
theorem t_k : tupF3 [.kl xs] S Q = Q (.tup xs) S := rfl
theorem l_t : lstM m [.tup xs] S Q = m xs S Q := rfl
theorem l_r : lstM m [.ref p] S Q = ∃ xs, S p = some (.lst xs) ∧ m xs S Q := rfl
theorem l_k : lstM m [.kl xs] S Q = m xs S Q := rfl
end
/-! ### slices -/
def slM (m : Nw2) (x : D) (lo hi : Option Int) (S : Hq) (Q : Qv) : Prop := match x with
  | .tup xs => Q (.tup (cutL xs lo hi)) S
  | .str z => z.length ≤ 1000000 ∧ Q (.str (cutS z lo hi)) S
  | x => lsv x S fun xs => m (cutL xs lo hi) S Q
def rSlM (m : Nw2) (ra : RE) (rl ru : RO') : RE := fun σ S Q E => ra σ S (fun x S1 => rl σ S1 (fun l S2 => ru σ S2 (fun u S3 => slM m x l u S3 Q) E) E) E
section
variable {X : Cx} {W : WX} {a : Expr} {ra : RE} {pos p2 : Pos} {lo hi : Option Expr} {rl ru : RO'}
theorem sl_lift {K : PySem.W.Frag} {S : Hq} {H : Hp} {Q' : Qv} {Q : VK} {d : D} {v : V} {o o' : Option Int} (rh : RH K S H) (dv : DV K H d v) (q : QI K S H Q' Q) (h : slM nwT d o o' S Q') : rSlU K v o o' H Q := by
  have fin : (lsv d S fun xs => nwT (cutL xs o o') S Q') → rSlU K v o o' H Q := fun h => by
    obtain ⟨a, xs, vs, rfl, s, r, h, _⟩ := rh.lsv dv h
    exact .inr (.inl ⟨a, vs, rfl, s, fun p hp => q.newL rh hp (cut_len r o o') (h p (rh.fresh hp))⟩)
  cases d with
  | str z => cases dv; exact .inr (.inr ⟨_, rfl, big_le h.1, q.here rh (.str _) h.2⟩)
  | tup xs =>
    cases dv with | tup s r =>
    refine .inl ⟨_, _, rfl, s, fun w => ?_, fun w p hp => q.newT rh hp (cut_len r o o') h⟩
    have e := cutL_whole (lo := o) (hi := o') (by rw [r.length]; exact w)
    have h4 : Q' (.tup (cutL _ o o')) S := h
    rw [e] at h4
    exact q.here rh (.tup s r) h4
  | _ => exact fin h
theorem ev_slT (ha : EV X W a ra) (hl : EO X W lo rl) (hu : EO X W hi ru) : EV X W (.Subscript a (.Slice lo hi none p2) pos) (rSlM nwT ra rl ru) := by
  obtain ⟨Ta, pa, la⟩ := ha.ex
  obtain ⟨Tl, pl, ll⟩ := hl.ex
  obtain ⟨Tu, pu, lu⟩ := hu.ex
  refine ⟨_, pe_slice sl_U pa pl pu, fun σ σ' H S Q Q' E' rs rh h q xi => ?_⟩
  refine la σ σ' H S _ _ E' rs rh h (fun d S1 v H1 f1 rh1 dv h1 => ?_) xi
  refine ll σ σ' H1 S1 _ _ E' (rs.mono (f1.tle rh)) rh1 h1 (fun o S2 H2 f2 rh2 h2 => ?_) (xi.go f1)
  refine lu σ σ' H2 S2 _ _ E' (rs.mono ((f1.trans f2).tle rh)) rh2 h2 (fun o' S3 H3 f3 rh3 h3 => ?_) (xi.go (f1.trans f2))
  exact sl_lift rh3 (DV.mono ((f2.trans f3).tle rh1) _ _ dv) (q.go ((f1.trans f2).trans f3)) h3
theorem ev_slF (ha : EV X W a ra) (hl : EO X W lo rl) (hu : EO X W hi ru) : EV X W (.Subscript a (.Slice lo hi none p2) pos) (rSlM nwF ra rl ru) := by
  obtain ⟨Ta, pa, la⟩ := ha.ex
  obtain ⟨Tl, pl, ll⟩ := hl.ex
  obtain ⟨Tu, pu, lu⟩ := hu.ex
  refine ⟨_, pe_fz (pe_slice sl_U pa pl pu), fun σ σ' H S Q Q' E' rs rh h q xi => ?_⟩
  refine la σ σ' H S _ _ E' rs rh h (fun d S1 v H1 f1 rh1 dv h1 => ?_) xi
  refine ll σ σ' H1 S1 _ _ E' (rs.mono (f1.tle rh)) rh1 h1 (fun o S2 H2 f2 rh2 h2 => ?_) (xi.go f1)
  refine lu σ σ' H2 S2 _ _ E' (rs.mono ((f1.trans f2).tle rh)) rh2 h2 (fun o' S3 H3 f3 rh3 h3 => ?_) (xi.go (f1.trans f2))
  refine sl_lift rh3 (DV.mono ((f2.trans f3).tle rh1) _ _ dv) (q.go ((f1.trans f2).trans f3)).fz ?_
  cases d with
  | tup xs => exact h3
  | str z => exact h3
  | ref a => exact lsv_mono (x := .ref a) h3 fun _ h => nw_fz h
  | kl xs => exact nw_fz h3
  | _ => exact h3.elim
end
section
variable {S : Hq} {Q : Qv} {m : Nw2} {xs : List D} {p : Addr} {l u : Option Int} {z : Str}
theorem s_t : slM m (.tup xs) l u S Q = Q (.tup (cutL xs l u)) S := rfl
theorem s_s : slM m (.str z) l u S Q = (z.length ≤ 1000000 ∧ Q (.str (cutS z l u)) S) := rfl
theorem s_r : slM m (.ref p) l u S Q = ∃ xs, S p = some (.lst xs) ∧ m (cutL xs l u) S Q := rfl
theorem s_k : slM m (.kl xs) l u S Q = m (cutL xs l u) S Q := rfl
end
end Y
namespace Y
open PySem PySem.Spec PyProof.Rows L2
/-! ### sorted of texts, of ints -/
def rSortedSA (K : PySem.W.Frag) : List V → Hp → VK → Prop := fun vs H Q => ∃ (a : Addr) (xs : List Str), vs = [V.ref a] ∧ SqL K H a (xs.map V.str) ∧
  ∀ (ys : List Str) (p : Addr), ys.Perm xs → sortedS ys = true → H p = none → Q (.ref p) (upd H p (.lst (ys.map V.str)))
theorem cr_sortedSA {X : Cx} : CallR X (.builtin "sorted") (rSortedSA X.K) := by
  intro pins s σ H vs us Q I r h
  obtain ⟨a, xs, rfl, hs, q⟩ := h
  obtain ⟨its, rv, hl, hz⟩ := I.list hs
  rw [Vals.ref1 r]
  have hlen0 := rv.length
  rw [List.length_map] at hlen0
  refine PyProof.Rows.sorted_strsAny hl.isList rv.strs (by rw [← hlen0]; rw [List.length_map] at hz; exact hz) fun out ys h1 h2 h3 => ?_
  obtain ⟨ep, he'⟩ := PyProof.Rows.sortedAll_at s.heap its out
  have hlen : (ys.map V.str).length ≤ sizeLine := by rw [List.length_map, h2.length_eq]; rw [List.length_map] at hz; exact hz
  exact ⟨.ref _, upd H (s.heap.objs.size + 1) (.lst (ys.map V.str)), I.laid (t' := s.toks) (fun _ _ => PyProof.Rows.sortedAll_old) (Nat.le_succ _) ⟨hlen, out.toList, ep, vals_of_strs h1, he'⟩, rfl, q ys _ h2 h3 (I.hok.fresh (Nat.le_succ _))⟩
def srtM (m : Nw2) (ds : List D) (S : Hq) (Q : Qv) : Prop := match ds with
  | [x] => lsv x S fun xs => (∃ ns : List Int, xs = ns.map D.int ∧ ∀ ns' : List Int, ns'.Perm ns → ns'.Pairwise (· ≤ ·) → m (ns'.map D.int) S Q) ∨ (∃ zs : List Str, xs = zs.map D.str ∧ ∀ zs' : List Str, zs'.Perm zs → sortedS zs' = true → m (zs'.map D.str) S Q)
  | _ => False
theorem DVs.ofTxts {K : PySem.W.Frag} {H : Hp} : ∀ {zs : List Str}, DVs K H (zs.map D.str) (zs.map V.str)
  | [] => .nil
  | _ :: _ => .cons (.str _) DVs.ofTxts
def rSrtU (K : PySem.W.Frag) : List V → Hp → VK → Prop := fun xs H Q => rSortedI K xs H Q ∨ rSortedSA K xs H Q
section
variable {X : Cx} {K : PySem.W.Frag}
theorem cr_srtT : CallR X (.builtin "sorted") (rSrtU X.K) := callr_or cr_sortedI cr_sortedSA
theorem cr_srtF : CallR X (.builtin "sorted") (fun xs H Q => rSrtU X.K xs H (fzV Q)) := callr_fz cr_srtT
theorem lc_srtT : LiftC K (srtM nwT) (rSrtU K) := by
  intro ds S H Q' Q vs rh dv h q
  rcases ds with _ | ⟨x, _ | ⟨y, r⟩⟩
  · exact h.elim
  · cases dv with | @cons _ v _ _ dx t =>
    cases t
    obtain ⟨a, xs, vs, rfl, s, r, h, _⟩ := rh.lsv dx h
    rcases h with ⟨ns, rfl, h⟩ | ⟨zs, rfl, h⟩
    · rw [r.ints] at s
      exact .inl ⟨a, ns, rfl, s, fun ns' p hp hw hn => q.newL rh hn DVs.ofInts (h ns' hp hw p (rh.fresh hn))⟩
    · rw [DVs.txts r] at s
      exact .inr ⟨a, zs, rfl, s, fun ns' p hp hw hn => q.newL rh hn DVs.ofTxts (h ns' hp hw p (rh.fresh hn))⟩
  · exact h.elim
theorem lc_srtF : LiftC K (srtM nwF) (fun xs H Q => rSrtU K xs H (fzV Q)) := liftc_fz lc_srtT fun ds S Q h => by
  rcases ds with _ | ⟨x, _ | ⟨y, r⟩⟩
  · exact h.elim
  · refine lsv_mono h fun xs h => ?_
    rcases h with ⟨ns, e, h⟩ | ⟨zs, e, h⟩
    · exact .inl ⟨ns, e, fun a b c => nw_fz (h a b c)⟩
    · exact .inr ⟨zs, e, fun a b c => nw_fz (h a b c)⟩
  · exact h.elim
end
section
variable {S : Hq} {Q : Qv} {m : Nw2} {xs : List D} {p : Addr} {x : D}
theorem o_1 : srtM m [x] S Q = lsv x S fun xs => (∃ ns : List Int, xs = ns.map D.int ∧ ∀ ns' : List Int, ns'.Perm ns → ns'.Pairwise (· ≤ ·) → m (ns'.map D.int) S Q) ∨ (∃ zs : List Str, xs = zs.map D.str ∧ ∀ zs' : List Str, zs'.Perm zs → sortedS zs' = true → m (zs'.map D.str) S Q) := rfl
end
/-! ### join, any, all, sum -/
def joinD3 (x : D) (ds : List D) (S : Hq) (Q : Qv) : Prop := match x, ds with
  | .str z, [y] => lsv y S fun xs => ∃ zs, strsD xs = some zs ∧ (zs.map (·.length)).sum + zs.length * z.length ≤ 1000000 ∧ Q (.str (Txt.join z zs)) S
  | _, _ => False
theorem lm_join3 {X : Cx} : LiftM X.K joinD3 (fun x xs H Q => ∃ a p, ∃ ys : List Str, x = .str a ∧ xs = [.ref p] ∧ (SqL X.K H p (ys.map V.str) ∨ SqT X.K H p (ys.map V.str)) ∧
    (ys.map (·.length)).sum + ys.length * a.length ≤ 16777216 ∧ Q (.str (Txt.join a ys)) H) := by
  intro x ds S H Q' Q v vs rh dx dv h q
  cases x with
  | str z =>
    rcases ds with _ | ⟨y, _ | ⟨_, _⟩⟩
    · exact h.elim
    · cases dv with | @cons _ u _ _ dy t =>
      cases t; cases dx
      obtain ⟨a, xs, vs, rfl, s, r, ⟨zs, e, hz, h⟩, _⟩ := rh.lsv dy h
      rw [strsD_of e r] at s
      exact ⟨_, _, zs, rfl, rfl, .inl s, Nat.le_trans hz (by decide), q.here rh (.str _) h⟩
    · exact h.elim
  | _ => exact h.elim
def anyD3 (ds : List D) (S : Hq) (Q : Qv) : Prop := match ds with
  | [x] => lsv x S fun xs => ∃ bs : List Bool, xs = bs.map D.bl ∧ Q (.bl (bs.any id)) S
  | _ => False
def allD3 (ds : List D) (S : Hq) (Q : Qv) : Prop := match ds with
  | [x] => lsv x S fun xs => ∃ bs : List Bool, xs = bs.map D.bl ∧ Q (.bl (bs.all id)) S
  | _ => False
def sumD3 (ds : List D) (S : Hq) (Q : Qv) : Prop := match ds with
  | [x] => lsv x S fun xs => ∃ ns : List Int, xs = ns.map D.int ∧ Q (.int ns.sum) S
  | _ => False
section
variable {K : PySem.W.Frag}
theorem lc_any3 : LiftC K anyD3 (rAny K) := by
  intro ds S H Q' Q vs rh dv h q
  rcases ds with _ | ⟨x, _ | ⟨y, r⟩⟩
  · exact h.elim
  · cases dv with | @cons _ v _ _ dx t =>
    cases t
    obtain ⟨a, xs, vs, rfl, s, r, ⟨bs, rfl, h⟩, _⟩ := rh.lsv dx h
    rw [DVs.bools r] at s
    exact ⟨_, bs, rfl, s, q.here rh (.bl _) h⟩
  · exact h.elim
theorem lc_all3 : LiftC K allD3 (rAll K) := by
  intro ds S H Q' Q vs rh dv h q
  rcases ds with _ | ⟨x, _ | ⟨y, r⟩⟩
  · exact h.elim
  · cases dv with | @cons _ v _ _ dx t =>
    cases t
    obtain ⟨a, xs, vs, rfl, s, r, ⟨bs, rfl, h⟩, _⟩ := rh.lsv dx h
    rw [DVs.bools r] at s
    exact ⟨_, bs, rfl, s, q.here rh (.bl _) h⟩
  · exact h.elim
theorem lc_sum3 : LiftC K sumD3 (rSum K) := by
  intro ds S H Q' Q vs rh dv h q
  rcases ds with _ | ⟨x, _ | ⟨y, r⟩⟩
  · exact h.elim
  · cases dv with | @cons _ v _ _ dx t =>
    cases t
    obtain ⟨a, xs, vs, rfl, s, r, ⟨ns, rfl, h⟩, _⟩ := rh.lsv dx h
    rw [r.ints] at s
    exact ⟨_, ns, rfl, s, q.here rh (.int _) h⟩
  · exact h.elim
end
section
variable {S : Hq} {Q : Qv} {x : D} {z : Str}
theorem j_1 : joinD3 (.str z) [x] S Q = lsv x S fun xs => ∃ zs, strsD xs = some zs ∧ (zs.map (·.length)).sum + zs.length * z.length ≤ 1000000 ∧ Q (.str (Txt.join z zs)) S := rfl
theorem y_1 : anyD3 [x] S Q = lsv x S fun xs => ∃ bs : List Bool, xs = bs.map D.bl ∧ Q (.bl (bs.any id)) S := rfl
theorem y_2 : allD3 [x] S Q = lsv x S fun xs => ∃ bs : List Bool, xs = bs.map D.bl ∧ Q (.bl (bs.all id)) S := rfl
theorem y_3 : sumD3 [x] S Q = lsv x S fun xs => ∃ ns : List Int, xs = ns.map D.int ∧ Q (.int ns.sum) S := rfl
end
/-! ### zip, enumerate -/
theorem it_zipG {K : PySem.W.Frag} {S1 : Hq} {H1 : Hp} {a b : Addr} {xs ys : List D} {g g2 : Hq → Prop} (k : LsK K S1 H1 a xs g) (k2 : LsK K S1 H1 b ys g2) : ItOk K S1 H1 (Itz K a b) (zipD xs ys) (fun S => g S ∧ g2 S) := by
  refine ⟨fun S H f rh g => ?_, fun i x S H hx f rh g => ?_, fun i x S H v H' hx f rh g hy => ?_⟩
  · obtain ⟨vs, s, r⟩ := k.at_ S H f rh g.1
    obtain ⟨us, s2, r2⟩ := k2.at_ S H f rh g.2
    exact ⟨vs, us, s, s2, by rw [zipD_len, ← r.length, ← r2.length]; omega⟩
  · obtain ⟨vs, s, r⟩ := k.at_ S H f rh g.1
    obtain ⟨us, s2, r2⟩ := k2.at_ S H f rh g.2
    obtain ⟨x1, y1, h1, h2, _⟩ := zipD_get hx
    obtain ⟨v, hv, _⟩ := r.get h1
    obtain ⟨u, hu, _⟩ := r2.get h2
    exact ⟨vs, us, v, u, s, s2, hv, hu⟩
  · obtain ⟨vs, s, r⟩ := k.at_ S H f rh g.1
    obtain ⟨us, s2, r2⟩ := k2.at_ S H f rh g.2
    obtain ⟨x1, y1, h1, h2, rfl⟩ := zipD_get hx
    obtain ⟨v', hv, dv⟩ := r.get h1
    obtain ⟨u', hu, du⟩ := r2.get h2
    obtain ⟨T, x2, y2, rfl, hT, rfl, e1, e2⟩ := hy
    have e1 := e1 vs s
    have e2 := e2 us s2
    rw [hv] at e1; cases e1
    rw [hu] at e2; cases e2
    have f' := Fr.new (o := .tup [v', u']) rh hT
    exact ⟨f', rh.new hT, .tup (.new upd_same) (.cons (DV.mono (f'.tle rh) _ _ dv) (.cons (DV.mono (f'.tle rh) _ _ du) .nil))⟩
def zpD3 (ds : List D) (S1 : Hq) (R : List D → (Hq → Prop) → Hq → Prop) : Prop := match ds with
  | [.tup xs, .tup ys] => R (zipD xs ys) (fun _ => True) S1
  | [x, y] => lsv x S1 fun xs => lsv y S1 fun ys => R (zipD xs ys) (fun S => lsg x xs S ∧ lsg y ys S) S1
  | _ => False
def iZp3 (ra : RA) : RI := fun σ S R E => ra σ S (fun ds S1 => zpD3 ds S1 R) E
theorem it_enumG {K : PySem.W.Frag} {S1 : Hq} {H1 : Hp} {a : Addr} {xs : List D} {g : Hq → Prop} (k : LsK K S1 H1 a xs g) : ItOk K S1 H1 (Ite K a) (enumD xs) g := by
  refine ⟨fun S H f rh g => ?_, fun i x S H hx f rh g => ?_, fun i x S H v H' hx f rh g hy => ?_⟩
  · obtain ⟨vs, s, r⟩ := k.at_ S H f rh g
    exact ⟨vs, s, by rw [enumD_len, r.length]; exact Nat.le_refl _⟩
  · obtain ⟨vs, s, r⟩ := k.at_ S H f rh g
    obtain ⟨y, hy, _⟩ := enumD_get hx
    obtain ⟨v, hv, _⟩ := r.get hy
    exact ⟨vs, v, s, hv⟩
  · obtain ⟨vs, s, r⟩ := k.at_ S H f rh g
    obtain ⟨y, hxy, rfl⟩ := enumD_get hx
    obtain ⟨v', hv, dv⟩ := r.get hxy
    obtain ⟨T, x2, rfl, hT, rfl, e1⟩ := hy
    have e1 := e1 vs s
    rw [hv] at e1; cases e1
    have f' := Fr.new (o := .tup [.int (i : Int), v']) rh hT
    exact ⟨f', rh.new hT, .tup (.new upd_same) (.cons (.int _) (.cons (DV.mono (f'.tle rh) _ _ dv) .nil))⟩
def enD3 (ds : List D) (S1 : Hq) (R : List D → (Hq → Prop) → Hq → Prop) : Prop := match ds with
  | [x] => lsv x S1 fun xs => R (enumD xs) (lsg x xs) S1
  | _ => False
def iEn3 (ra : RA) : RI := fun σ S R E => ra σ S (fun ds S1 => enD3 ds S1 R) E
section
variable {X : Cx} {W : WX} {e e2 : Expr} {r : RE} {pos : Pos}
theorem ei_zip3 {ra : RA} {p tpos : Pos} {elts : List Expr} {kk : Nat} (hm : X.mg "zip" = none) (ha : EA X W [e, e2] ra) (hg : Gl X "zip" := by rfl)
    (hs : starEach [e, e2] X.env = (false, eval e X.env) :: starEach [e2] X.env := by rfl) (hs2 : (backTo pos (starEach [e2] X.env)).any (·.1) = false := by rfl) :
    EI X W (.Tuple elts kk tpos) (.Call (.Name "zip" p) [e, e2] [] pos) (iZp3 ra) := by
  obtain ⟨T, pp, l⟩ := ha.ex
  refine ⟨_, RZ.pi_zipA hg hm pp hs hs2, fun σ σ' H S R R' E' rs rh h q xi => ?_⟩
  refine l σ σ' H S _ _ _ rs rh h (fun ds S1 v H1 f1 rh1 dv h1 => ?_) xi
  rcases ds with _ | ⟨x, _ | ⟨y, _ | ⟨_, _⟩⟩⟩
  · exact h1.elim
  · exact (show False from by cases x <;> exact h1).elim
  · cases dv with | @cons _ vx _ _ dx t =>
    cases t with | @cons _ vy _ _ dy t =>
    cases t
    have fin : (lsv x S1 fun xs => lsv y S1 fun ys => R' (zipD xs ys) (fun S => lsg x xs S ∧ lsg y ys S) S1) → ∃ a b xs ys, [vx, vy] = [V.ref a, V.ref b] ∧ ((SqL X.K H1 a xs ∧ SqL X.K H1 b ys ∧ R (Itz X.K a b) H1) ∨ (SqT X.K H1 a xs ∧ SqT X.K H1 b ys ∧ R (RZ.ItzT X.K a b) H1)) := fun h => by
      obtain ⟨a, xs, vs, rfl, s, r, h, k, _⟩ := rh1.lsv dx h
      obtain ⟨b, ys, us, rfl, s2, r2, h, k2, _⟩ := rh1.lsv dy h
      exact ⟨a, b, vs, us, rfl, .inl ⟨s, s2, q _ _ _ _ _ f1 rh1 (it_zipG k k2) h⟩⟩
    cases x with
    | tup xs => cases y with
      | tup ys =>
        cases dx with | tup s r =>
        cases dy with | tup s2 r2 => exact ⟨_, _, _, _, rfl, .inr ⟨s.1, s2.1, q _ _ _ _ _ f1 rh1 (it_zipT rh1 s r s2 r2) h1⟩⟩
      | _ => exact h1.elim
    | ref a => exact fin (by cases y <;> exact h1)
    | kl a => exact fin (by cases y <;> exact h1)
    | _ => exact (show False from by cases y <;> exact h1).elim
  · exact (show False from by cases x <;> cases y <;> exact h1).elim
theorem ei_enum3 {ra : RA} {p tpos : Pos} {elts : List Expr} {kk : Nat} (hm : X.mg "enumerate" = none) (ha : EA X W [e] ra) (hg : Gl X "enumerate" := by rfl)
    (hs : starEach [e] X.env = [(false, eval e X.env)] := by rfl) : EI X W (.Tuple elts kk tpos) (.Call (.Name "enumerate" p) [e] [] pos) (iEn3 ra) := by
  obtain ⟨T, pp, l⟩ := ha.ex
  refine ⟨_, pi_enum hg hm pp hs, fun σ σ' H S R R' E' rs rh h q xi => ?_⟩
  refine l σ σ' H S _ _ _ rs rh h (fun ds S1 v H1 f1 rh1 dv h1 => ?_) xi
  rcases ds with _ | ⟨x, _ | ⟨_, _⟩⟩
  · exact h1.elim
  · cases dv with | @cons _ vx _ _ dx t =>
    cases t
    obtain ⟨a, xs, vs, rfl, s, r, h, k, _⟩ := rh1.lsv dx h1
    exact ⟨_, vs, rfl, s, q _ _ _ _ _ f1 rh1 (it_enumG k) h⟩
  · exact h1.elim
end
section
variable {S : Hq} {x y : D} {xs ys : List D} {R : List D → (Hq → Prop) → Hq → Prop} {p q : Addr}
theorem z_tt : zpD3 [.tup xs, .tup ys] S R = R (zipD xs ys) (fun _ => True) S := rfl
theorem z_r : zpD3 [.ref p, y] S R = lsv (.ref p) S fun xs => lsv y S fun ys => R (zipD xs ys) (fun S => lsg (.ref p) xs S ∧ lsg y ys S) S := by cases y <;> rfl
theorem z_k : zpD3 [.kl xs, y] S R = lsv y S fun ys => R (zipD xs ys) (fun S => True ∧ lsg y ys S) S := by cases y <;> rfl
theorem e_1 : enD3 [x] S R = lsv x S fun xs => R (enumD xs) (lsg x xs) S := rfl
end
end Y
namespace Y
open PySem PySem.Spec PyProof.Rows L2
/-! ### ==, != -/
def eqD3 (g : Bool → Bool) : R2q := fun x y S Q => match eqS x y with
  | some b => Q (.bl (g b)) S
  | none => match x, y with
    | .tup xs, .tup ys => okE (.tup xs) ∧ okE (.tup ys) ∧ Q (.bl (g (PyData.eqv (pd (.tup xs)) (pd (.tup ys))))) S
    | .non, .tup ys => okE (.tup ys) ∧ Q (.bl (g (PyData.eqv .none (pd (.tup ys))))) S
    | .tup ys, .non => okE (.tup ys) ∧ Q (.bl (g (PyData.eqv (pd (.tup ys)) .none))) S
    | .int i, .tup ys => okE (.int i) ∧ okE (.tup ys) ∧ Q (.bl (g (PyData.eqv (pd (.int i)) (pd (.tup ys))))) S
    | x, y => lsv x S fun xs => lsv y S fun ys => okE (.tup xs) ∧ okE (.tup ys) ∧ Q (.bl (g (PyData.eqvAll (pds xs) (pds ys)))) S
section
variable {X : Cx} {K : PySem.W.Frag} {S : Hq} {H : Hp}
theorem okNon : okE .non := ⟨rfl, by decide +kernel⟩
theorem eqL {g : Bool → Bool} {x y : D} {v u : V} {Q' : Qv} {Q : VK} (rh : RH K S H) (dx : DV K H x v) (dy : DV K H y u) (q : QI K S H Q' Q) (h : lsv x S fun xs => lsv y S fun ys => okE (.tup xs) ∧ okE (.tup ys) ∧ Q' (.bl (g (PyData.eqvAll (pds xs) (pds ys)))) S) :
    ∃ d e, Dp K H v d ∧ Dp K H u e ∧ SeqAt.shaped d = true ∧ SeqAt.shaped e = true ∧ Q (.bl (g (PyData.eqv d e))) H := by
  obtain ⟨a, xs, vs, rfl, s1, r1, h, _⟩ := rh.lsv dx h
  obtain ⟨b, ys, us, rfl, s2, r2, ⟨⟨p1, t1⟩, ⟨p2, t2⟩, h⟩, _⟩ := rh.lsv dy h
  refine ⟨.list (pds xs), .list (pds ys), .lst s1 (DVs.dp _ _ (by simpa [pur] using p1) r1), .lst s2 (DVs.dp _ _ (by simpa [pur] using p2) r2), ?_, ?_, ?_⟩
  · rw [shaped_list]; simpa [pd] using t1
  · rw [shaped_list]; simpa [pd] using t2
  · exact q.here rh (.bl _) (by simpa [PyData.eqv] using h)
theorem eqG {g : Bool → Bool} {x y : D} {v u : V} {Q' : Qv} {Q : VK} (rh : RH K S H) (dx : DV K H x v) (dy : DV K H y u) (q : QI K S H Q' Q) (h : eqD3 g x y S Q') :
    (scal v u = true ∧ Q (.bl (g (decide (v = u)))) H) ∨ ∃ d e, Dp K H v d ∧ Dp K H u e ∧ SeqAt.shaped d = true ∧ SeqAt.shaped e = true ∧ Q (.bl (g (PyData.eqv d e))) H := by
  unfold eqD3 at h
  split at h
  · rename_i b e
    obtain ⟨s, d⟩ := eqS_of e dx dy
    exact .inl ⟨s, by rw [d]; exact q.here rh (.bl _) h⟩
  · split at h
    · obtain ⟨⟨p1, s1⟩, ⟨p2, s2⟩, h⟩ := h
      exact .inr ⟨_, _, DV.dp _ _ p1 dx, DV.dp _ _ p2 dy, s1, s2, q.here rh (.bl _) h⟩
    · obtain ⟨⟨p2, s2⟩, h⟩ := h
      exact .inr ⟨_, _, DV.dp _ _ okNon.1 dx, DV.dp _ _ p2 dy, okNon.2, s2, q.here rh (.bl _) h⟩
    · obtain ⟨⟨p2, s2⟩, h⟩ := h
      exact .inr ⟨_, _, DV.dp _ _ p2 dx, DV.dp _ _ okNon.1 dy, s2, okNon.2, q.here rh (.bl _) h⟩
    · obtain ⟨⟨p1, s1⟩, ⟨p2, s2⟩, h⟩ := h
      exact .inr ⟨_, _, DV.dp _ _ p1 dx, DV.dp _ _ p2 dy, s1, s2, q.here rh (.bl _) h⟩
    · exact .inr (eqL rh dx dy q h)
theorem lf_eq3 : Lift2 K (eqD3 id) (rEqU K) := by
  intro x y S H Q' Q v u rh dx dy h q
  rcases eqG rh dx dy q h with h | ⟨d, e, a, b, c, f, h⟩
  · exact .inl h
  · exact .inr ⟨d, e, a, b, c, f, h⟩
theorem lf_ne3 : Lift2 K (eqD3 not) (rNeU K) := by
  intro x y S H Q' Q v u rh dx dy h q
  rcases eqG rh dx dy q h with h | ⟨d, e, a, b, c, f, h⟩
  · exact .inl h
  · exact .inr ⟨d, e, a, b, c, f, h⟩
end
section
variable {S : Hq} {Q : Qv} {g : Bool → Bool} {i j : Int} {a b : Str} {c d : Bool} {xs ys : List D} {p q : Addr} {x y : D}
theorem k_ii : eqD3 g (.int i) (.int j) S Q = Q (.bl (g (decide (i = j)))) S := rfl
theorem k_ss : eqD3 g (.str a) (.str b) S Q = Q (.bl (g (decide (a = b)))) S := rfl
theorem k_bb : eqD3 g (.bl c) (.bl d) S Q = Q (.bl (g (decide (c = d)))) S := rfl
theorem k_nn : eqD3 g .non .non S Q = Q (.bl (g true)) S := rfl
theorem k_tt : eqD3 g (.tup xs) (.tup ys) S Q = (okE (.tup xs) ∧ okE (.tup ys) ∧ Q (.bl (g (PyData.eqv (pd (.tup xs)) (pd (.tup ys))))) S) := rfl
theorem k_r : eqD3 g (.ref p) y S Q = lsv (.ref p) S fun xs => lsv y S fun ys => okE (.tup xs) ∧ okE (.tup ys) ∧ Q (.bl (g (PyData.eqvAll (pds xs) (pds ys)))) S := by cases y <;> rfl
theorem k_k : eqD3 g (.kl xs) y S Q = lsv y S fun ys => okE (.tup xs) ∧ okE (.tup ys) ∧ Q (.bl (g (PyData.eqvAll (pds xs) (pds ys)))) S := by cases y <;> rfl
theorem eqvAll_nil {ds : List PyData} : PyData.eqvAll ds [] = ds.isEmpty := by cases ds <;> rfl
theorem pds_emp {ds : List D} : (pds ds).isEmpty = ds.isEmpty := by cases ds <;> rfl
end
/-! ### in, not in -/
def inS (x : D) (ys : List D) : Option Bool := match ys with
  | [] => some false
  | y :: r => match eqS y x, inS x r with | some a, some b => some (a || b) | _, _ => none
def inD3 (g : Bool → Bool) : R2q := fun x y S Q => match y with
  | .tup ys => ∃ b, ys ≠ [] ∧ inS x ys = some b ∧ Q (.bl (g b)) S
  | y => lsv y S fun ys => okE x ∧ okE (.tup ys) ∧ Q (.bl (g ((pds ys).any fun z => PyData.eqv z (pd x)))) S
def rInU (K : PySem.W.Frag) : R2 := fun x y H Q => rIn K false x y H Q ∨ rInD K x y H Q
def rNotInU (K : PySem.W.Frag) : R2 := fun x y H Q => rIn K true x y H Q ∨ rNotInD K x y H Q
section
variable {X : Cx} {K : PySem.W.Frag} {S : Hq} {H : Hp}
theorem op_in3 (hu : X.A.units + 65 < cLine) : OpR X (compareOp .In) (rInU X.K) := opr_or op_in_seq (op_inD hu)
theorem op_notIn3 (hu : X.A.units + 65 < cLine) : OpR X (compareOp .NotIn) (rNotInU X.K) := opr_or op_notIn_seq (op_notInD hu)
theorem eqS_V {x y : D} {v u : V} {b : Bool} (e : eqS x y = some b) (dx : DV K H x v) (dy : DV K H y u) : flatV v = true ∧ flatV u = true ∧ eqV v u = b := by
  cases x <;> cases y <;> simp [eqS] at e <;> cases dx <;> cases dy <;> subst e <;> refine ⟨rfl, rfl, ?_⟩ <;> simp [eqV] <;> rfl
theorem inS_V {x : D} {v : V} (dx : DV K H x v) : ∀ {ys : List D} {us : List V} {b : Bool}, inS x ys = some b → DVs K H ys us → us.all flatV = true ∧ inV v us = b ∧ (us ≠ [] → flatV v = true)
  | _, _, _, e, .nil => by cases e; exact ⟨rfl, rfl, fun z => absurd rfl z⟩
  | _, _, _, e, .cons dy r => by
    unfold inS at e
    split at e
    · rename_i a b e1 e2
      cases e
      obtain ⟨f1, f2, f3⟩ := eqS_V e1 dy dx
      obtain ⟨g1, g2, _⟩ := inS_V dx e2 r
      refine ⟨by rw [List.all_cons, f1, g1]; rfl, ?_, fun _ => f2⟩
      unfold inV at g2 ⊢
      rw [List.any_cons, f3, g2]
    · cases e
theorem lf_in3 : Lift2 K (inD3 id) (rInU K) := by
  intro x y S H Q' Q v u rh dx dy h q
  have fin : (lsv y S fun ys => okE x ∧ okE (.tup ys) ∧ Q' (.bl (id ((pds ys).any fun z => PyData.eqv z (pd x)))) S) → rInU K v u H Q := fun h => by
    obtain ⟨a, ys, us, rfl, s, r, ⟨⟨p1, s1⟩, ⟨p2, s2⟩, h⟩, _⟩ := rh.lsv dy h
    exact .inr ⟨pd x, pds ys, DV.dp _ _ p1 dx, .lst s (DVs.dp _ _ (by simpa [pur] using p2) r), s1, by rw [shaped_list]; simpa [pd] using s2, q.here rh (.bl _) h⟩
  cases y with
  | tup ys =>
    cases dy with | tup s r =>
    obtain ⟨b, ne, e, h⟩ := h
    obtain ⟨f1, f2, f3⟩ := inS_V dx e r
    refine .inl ⟨_, _, rfl, .inr s, f3 (by cases r with | nil => exact absurd rfl ne | cons _ _ => simp), f1, by simp only [Bool.false_eq_true, if_false]; rw [f2]; exact q.here rh (.bl _) h⟩
  | _ => exact fin h
theorem lf_notIn3 : Lift2 K (inD3 not) (rNotInU K) := by
  intro x y S H Q' Q v u rh dx dy h q
  have fin : (lsv y S fun ys => okE x ∧ okE (.tup ys) ∧ Q' (.bl (not ((pds ys).any fun z => PyData.eqv z (pd x)))) S) → rNotInU K v u H Q := fun h => by
    obtain ⟨a, ys, us, rfl, s, r, ⟨⟨p1, s1⟩, ⟨p2, s2⟩, h⟩, _⟩ := rh.lsv dy h
    exact .inr ⟨pd x, pds ys, DV.dp _ _ p1 dx, .lst s (DVs.dp _ _ (by simpa [pur] using p2) r), s1, by rw [shaped_list]; simpa [pd] using s2, q.here rh (.bl _) h⟩
  cases y with
  | tup ys =>
    cases dy with | tup s r =>
    obtain ⟨b, ne, e, h⟩ := h
    obtain ⟨f1, f2, f3⟩ := inS_V dx e r
    refine .inl ⟨_, _, rfl, .inr s, f3 (by cases r with | nil => exact absurd rfl ne | cons _ _ => simp), f1, by simp only [if_true]; rw [f2]; exact q.here rh (.bl _) h⟩
  | _ => exact fin h
end
section
variable {S : Hq} {Q : Qv} {g : Bool → Bool} {xs : List D} {p : Addr} {x : D}
theorem n_t : inD3 g x (.tup xs) S Q = ∃ b, xs ≠ [] ∧ inS x xs = some b ∧ Q (.bl (g b)) S := rfl
theorem n_r : inD3 g x (.ref p) S Q = ∃ ys, S p = some (.lst ys) ∧ okE x ∧ okE (.tup ys) ∧ Q (.bl (g ((pds ys).any fun z => PyData.eqv z (pd x)))) S := rfl
theorem n_k : inD3 g x (.kl xs) S Q = (okE x ∧ okE (.tup xs) ∧ Q (.bl (g ((pds xs).any fun z => PyData.eqv z (pd x)))) S) := rfl
theorem is_s {z : Str} : inS x [.str z] = match eqS (.str z) x with | some a => some (a || false) | none => none := by
  unfold inS; cases eqS (.str z) x <;> rfl
theorem is_c {z : Str} {y : D} {r : List D} : inS (.str z) (y :: r) = (match eqS y (.str z), inS (.str z) r with | some a, some b => some (a || b) | _, _ => none) := rfl
theorem is_n : inS x [] = some false := rfl
theorem es_ss {a b : Str} : eqS (.str a) (.str b) = some (decide (a = b)) := rfl
theorem es_ii {a b : Int} : eqS (.int a) (.int b) = some (decide (a = b)) := rfl
end
/-! ### text * int, ljust with a sign -/
def repS (z : Str) (n : Int) : Str := ⟨(List.replicate n.toNat z.cps.toList).flatten.toArray⟩
theorem fold_app (z : Array Nat) : ∀ (n : Nat) (a : Array Nat), (List.replicate n z).foldl (· ++ ·) a = a ++ (List.replicate n z.toList).flatten.toArray
  | 0, a => by simp
  | n + 1, a => by
    rw [List.replicate_succ, List.foldl_cons, fold_app z n, List.replicate_succ, List.flatten_cons]
    apply Array.ext'
    simp
theorem op_mulS {X : Cx} : OpR X (binaryOp .Mult) (fun x y H Q => ∃ z n, x = .str z ∧ y = .int n ∧ z.length = 1 ∧ -1000 ≤ n ∧ n ≤ 1000 ∧ Q (.str (repS z n)) H) := by
  intro pins s σ H x y v u Q I rx ry h
  obtain ⟨z, n, rfl, rfl, hz, h0, h1, q⟩ := h
  obtain ⟨t, rfl⟩ := rx
  obtain ⟨t2, rfl⟩ := ry
  refine PySem.P.mul_str (by simp; omega) (fun a b => ?_) (fun a b => ?_) ?_
  · rw [hz]
    have : n ≤ 1000 := h1
    have : (2 ^ 63 - 1) / n ≥ (2 ^ 63 - 1) / 1000 := by
      apply Int.le_of_lt_add_one
      have hn : 0 < n := by omega
      have := Int.ediv_mul_le (2 ^ 63 - 1) (by omega : n ≠ 0)
      rw [← Int.not_le]
      intro c
      have e1 := Int.lt_ediv_add_one_mul_self (2 ^ 63 - 1) hn
      have e2 : ((2 ^ 63 - 1) / n + 1) * n ≤ ((2 ^ 63 - 1) / 1000) * n := Int.mul_le_mul_of_nonneg_right c (by omega)
      have e3 : ((2 ^ 63 - 1) / 1000 : Int) * n ≤ ((2 ^ 63 - 1) / 1000) * 1000 := Int.mul_le_mul_of_nonneg_left h1 (by decide)
      have e4 : ((2 ^ 63 - 1) / 1000 : Int) * 1000 ≤ 2 ^ 63 - 1 := by decide
      omega
    have e5 : ((2 ^ 63 - 1) / 1000 : Int) ≥ 1 := by decide
    omega
  · rw [hz]
    have : n.toNat ≤ 1000 := by omega
    unfold Builtin.Str.tooLong
    have := sizeLine_eq
    rw [sizeLine_eq]
    simp
    omega
  · have fold : (⟨(List.replicate n.toNat z.cps).foldl (· ++ ·) #[]⟩ : Str) = repS z n := by
      rw [fold_app]; unfold repS; simp
    have len : (repS z n).length ≤ sizeLine := by
      have : n.toNat ≤ 1000 := by omega
      have h2 : z.cps.toList.length = 1 := by simpa [Str.length] using hz
      unfold repS Str.length
      simp [h2]
      rw [sizeLine_eq]; omega
    by_cases c : n < 1
    · rw [if_pos c]
      have e : repS z n = Str.empty := by
        have e : n.toNat = 0 := by omega
        unfold repS
        rw [e]
        rfl
      rw [e] at q
      exact ⟨by decide, .str Str.empty, H, I.tok _, ⟨_, rfl⟩, q⟩
    · rw [if_neg c]
      by_cases d : (n == 1 || z.length == 0) = true
      · rw [if_pos d]
        have e : n = 1 := by simp [hz] at d; exact d
        have e2 : repS z n = z := by subst e; unfold repS; simp
        rw [e2] at q
        exact ⟨.str z, H, I.tok _, ⟨_, rfl⟩, q⟩
      · rw [if_neg d, fold]
        exact ⟨by first | exact len | (unfold Builtin.Str.tooLong; simp; exact len) | trace_state, .str (repS z n), H, I.tok _, ⟨_, rfl⟩, q⟩
def mulM : R2q := fun x y S Q => match x, y with
  | .int i, .int j => CMul' i j ∧ Q (.int (i * j)) S
  | .str z, .int n => z.length = 1 ∧ -1000 ≤ n ∧ n ≤ 1000 ∧ Q (.str (repS z n)) S
  | _, _ => False
def rMulU : R2 := fun x y H Q => rI CMul (fun i j => .int (i * j)) x y H Q ∨ (∃ z n, x = .str z ∧ y = .int n ∧ z.length = 1 ∧ -1000 ≤ n ∧ n ≤ 1000 ∧ Q (.str (repS z n)) H)
theorem op_mul3 {X : Cx} : OpR X (binaryOp .Mult) rMulU := opr_or op_mul op_mulS
theorem lf_mul3 {K : PySem.W.Frag} : Lift2 K mulM rMulU := by
  intro x y S H Q' Q v u rh dx dy h q
  cases x <;> cases y <;> try exact h.elim
  · exact .inl (lf_mul _ _ S H Q' Q v u rh dx dy h q)
  · cases dx; cases dy
    obtain ⟨a, b, c, h⟩ := h
    exact .inr ⟨_, _, rfl, rfl, a, b, c, q.here rh (.str _) h⟩
section
variable {S : Hq} {Q : Qv} {i j : Int} {z : Str}
theorem u_ii : mulM (.int i) (.int j) S Q = (CMul' i j ∧ Q (.int (i * j)) S) := rfl
theorem u_si : mulM (.str z) (.int i) S Q = (z.length = 1 ∧ -1000 ≤ i ∧ i ≤ 1000 ∧ Q (.str (repS z i)) S) := rfl
end
def ljD (x : D) (ds : List D) (S : Hq) (Q : Qv) : Prop := match x, ds with
  | .str z, [.int i, .str f] => 0 ≤ i ∧ i ≤ 1000 ∧ f.length = 1 ∧ Q (.str (Txt.ljustF z i (f.cps.getD 0 0))) S
  | _, _ => False
def rLj : V → List V → Hp → VK → Prop := fun x xs H Q => ∃ (a f : Str) (i : Int), x = .str a ∧ xs = [.int i, .str f] ∧ PadOk i = true ∧ f.length = 1 ∧ Q (.str (Txt.ljustF a i (f.cps.getD 0 0))) H
theorem mt_lj {X : Cx} : MtR X "str.ljust" rLj := by
  intro pins s σ H x xs v us Q I rx rs h
  obtain ⟨a, f, i, rfl, rfl, hc, hf, h⟩ := h
  obtain ⟨t, rfl⟩ := rx
  cases rs with
  | cons r1 rs =>
    cases rs with
    | cons r2 rs =>
      cases rs
      obtain ⟨u, rfl⟩ := r1
      obtain ⟨w, rfl⟩ := r2
      exact ljust_fill hc hf fun t' k => ⟨.str (Txt.ljustF a i (f.cps.getD 0 0)), H, I.tok k, ⟨t', rfl⟩, h⟩
theorem lm_lj {K : PySem.W.Frag} : LiftM K ljD rLj := by
  intro x ds S H Q' Q v vs rh dx dv h q
  match x, ds, dx, dv, h with
  | .str z, [.int i, .str f], .str _, .cons (.int _) (.cons (.str _) .nil), h =>
    obtain ⟨h0, h1, hf, h⟩ := h
    refine ⟨z, f, i, rfl, rfl, ?_, hf, q.here rh (.str _) h⟩
    unfold PadOk Builtin.Str.tooLong fitsSsize
    rw [sizeLine_eq]
    simp
    omega
theorem lj_1 {S : Hq} {Q : Qv} {z f : Str} {i : Int} : ljD (.str z) [.int i, .str f] S Q = (0 ≤ i ∧ i ≤ 1000 ∧ f.length = 1 ∧ Q (.str (Txt.ljustF z i (f.cps.getD 0 0))) S) := rfl
end Y
namespace Y
open PySem PySem.Spec PyProof.Rows L2
section
variable {S : Hq} {Q : Qv} {p : Addr} {xs : List D} {i : Int} {b : Bool} {z : Str}
theorem fz_r : fzD (.ref p) S Q = ∃ xs, S p = some (.lst xs) ∧ Q (.kl xs) (rm S p) := rfl
theorem fz_k : fzD (.kl xs) S Q = Q (.kl xs) S := rfl
theorem fz_t : fzD (.tup xs) S Q = Q (.tup xs) S := rfl
theorem fz_n : fzD .non S Q = Q .non S := rfl
theorem fz_b : fzD (.bl b) S Q = Q (.bl b) S := rfl
theorem fz_s : fzD (.str z) S Q = Q (.str z) S := rfl
theorem q_lstK {xs : List D} {S : Hq} {R : List D → (Hq → Prop) → Hq → Prop} : lstD (.kl xs) S R = R xs (fun _ => True) S := rfl
theorem q_truK {f : Bool → Prop} : truD (.kl xs) S f = f (!xs.isEmpty) := rfl
theorem t_kl : tyN (.kl xs) S = some "list" := rfl
theorem q_isiK {n : String} : isiD [.kl xs, .ty n] S Q = isiR "list" n S Q := rfl
end
theorem Nx.rm {b p : Addr} {S S' : Hq} (n : Nx b S S') (hp : S p = none) (ne : p ≠ b) : Nx b S (Y.rm S' p) :=
  ⟨let ⟨g, s, e⟩ := n.bx; ⟨g, s, by rw [rm_ne (Ne.symm ne)]; exact e⟩, fun a o na h => by rw [rm_ne (ne_get h hp)]; exact n.old a o na h⟩
end Y
/-! ### a source that is a tuple or a list -/
namespace Y
open PySem PySem.Spec PyProof.Rows L2
theorem pi_or {X : Cx} {tg e : Expr} {a b : TI} (h : PI X tg e a) (h2 : PI X tg e b) : PI X tg e (fun σ H R => a σ H R ∨ b σ H R) := ⟨fun pins s σ H R I k => by
  rcases k with k | k
  · exact h.run pins s σ H R I k
  · exact h2.run pins s σ H R I k⟩
theorem ei_or {X : Cx} {W : WX} {tg e : Expr} {r s : RI} (h : EI X W tg e r) (h2 : EI X W tg e s) : EI X W tg e (fun σ S R E => r σ S R E ∨ s σ S R E) := by
  obtain ⟨wi, p, l⟩ := h.ex
  obtain ⟨wi2, p2, l2⟩ := h2.ex
  refine ⟨_, pi_or p p2, fun σ σ' H S R R' E' rs rh h q xi => ?_⟩
  rcases h with h | h
  · exact .inl (l σ σ' H S R R' E' rs rh h q xi)
  · exact .inr (l2 σ σ' H S R R' E' rs rh h q xi)
def iAny (r : RE) : RI := fun σ S R E => iSeq r σ S R E ∨ iLst r σ S R E
theorem ei_any {X : Cx} {W : WX} {tg e : Expr} {r : RE} (h : EV X W e r) : EI X W tg e (iAny r) := ei_or (ei_seq h) (ei_lst h)
section
variable {S : Hq} {xs : List D} {p : Addr} {R : List D → (Hq → Prop) → Hq → Prop}
theorem sq_k : seqD (.kl xs) S R = False := rfl
theorem sq_r : seqD (.ref p) S R = False := rfl
theorem ls_t : lstD (.tup xs) S R = False := rfl
end
/-! ### texts of 0 and 1 -/
def bit (b : Bool) : Nat := if b then 49 else 48
def tx (w : List Bool) : Str := ⟨(w.map bit).toArray⟩
def sx (w : List Bool) : D := .str (tx w)
theorem tx_list {w : List Bool} : (tx w).cps.toList = w.map bit := by unfold tx; simp
theorem tx_len {w : List Bool} : (tx w).length = w.length := by unfold tx Str.length; simp
theorem bit_inj {a b : Bool} (h : bit a = bit b) : a = b := by cases a <;> cases b <;> simp [bit] at h ⊢
theorem map_bit_inj : ∀ {a b : List Bool}, a.map bit = b.map bit → a = b
  | [], [], _ => rfl
  | [], _ :: _, h => by simp at h
  | _ :: _, [], h => by simp at h
  | x :: a, y :: b, h => by
    simp only [List.map_cons, List.cons.injEq] at h
    rw [bit_inj h.1, map_bit_inj h.2]
theorem str_ext {a b : Str} (h : a.cps.toList = b.cps.toList) : a = b := by cases a; cases b; simp only at h; congr 1; exact Array.ext' h
theorem tx_inj {a b : List Bool} : tx a = tx b ↔ a = b := ⟨fun h => map_bit_inj (by rw [← tx_list, ← tx_list, h]), fun h => by rw [h]⟩
theorem tx_app {a b : List Bool} : tx a ++ tx b = tx (a ++ b) := by
  apply str_ext
  show ((tx a).cps ++ (tx b).cps).toList = _
  rw [Array.toList_append, tx_list, tx_list, tx_list, List.map_append]
theorem tx_0 : Str.ofString "0" = tx [false] := by decide +kernel
theorem tx_1 : Str.ofString "1" = tx [true] := by decide +kernel
theorem tx_e : Str.ofString "" = tx [] := by decide +kernel
theorem pre_map : ∀ {a b : List Bool}, ((a.map bit).take b.length == b.map bit) = (decide (b.length ≤ a.length) && b.isPrefixOf a || (decide (a.length < b.length) && (a.map bit == b.map bit)))
  | a, [] => by simp
  | [], y :: b => by simp
  | x :: a, y :: b => by
    have ih := @pre_map a b
    simp only [List.map_cons, List.length_cons, List.take_succ_cons, List.isPrefixOf]
    have e1 : (bit x :: List.take b.length (List.map bit a) == bit y :: List.map bit b) = ((bit x == bit y) && (List.take b.length (List.map bit a) == List.map bit b)) := rfl
    have e2 : (bit x :: List.map bit a == bit y :: List.map bit b) = ((bit x == bit y) && (List.map bit a == List.map bit b)) := rfl
    rw [e1, e2, ih]
    have e3 : (bit x == bit y) = (y == x) := by cases x <;> cases y <;> rfl
    rw [e3]
    have h1 : decide (b.length + 1 ≤ a.length + 1) = decide (b.length ≤ a.length) := by simp
    have h2 : decide (a.length + 1 < b.length + 1) = decide (a.length < b.length) := by simp
    rw [h1, h2]
    cases (y == x) <;> simp
theorem tx_sw {a b : List Bool} : Txt.startswith (tx a) (tx b) = b.isPrefixOf a := by
  unfold Txt.startswith
  rw [PySem.StrLaws.subAt_eq, tx_len, tx_len, tx_list, tx_list, List.drop_zero, pre_map]
  by_cases h : b.length ≤ a.length
  · have : ¬ a.length < b.length := by omega
    simp [h, this]
  · have h2 : b.isPrefixOf a = false := by
      cases e : b.isPrefixOf a with
      | false => rfl
      | true => exact absurd (List.IsPrefix.length_le (List.isPrefixOf_iff_prefix.mp e)) h
    simp [h2]; omega
theorem cutS_to {z : Str} {k : Int} (h : 0 ≤ k) : cutS z none (some k) = ⟨(z.cps.toList.take k.toNat).toArray⟩ := by
  obtain ⟨j, rfl⟩ := Int.eq_ofNat_of_zero_le h
  unfold cutS
  have e : z.length = z.cps.toList.length := by unfold Str.length; simp
  rw [e, HT.sIx_none, HT.sIx_nat, List.drop_zero, Nat.sub_zero, Int.toNat_natCast]
  by_cases c : j ≤ z.cps.toList.length
  · rw [Nat.min_eq_left c]
  · rw [Nat.min_eq_right (by omega), List.take_length, List.take_of_length_le (by omega)]
theorem cutS_from {z : Str} {k : Int} (h : 0 ≤ k) : cutS z (some k) none = ⟨(z.cps.toList.drop k.toNat).toArray⟩ := by
  obtain ⟨j, rfl⟩ := Int.eq_ofNat_of_zero_le h
  unfold cutS
  have e : z.length = z.cps.toList.length := by unfold Str.length; simp
  rw [e, HT.sIx_none, HT.sIx_nat, Int.toNat_natCast]
  by_cases c : j ≤ z.cps.toList.length
  · rw [Nat.min_eq_left c, List.take_of_length_le (by simp)]
  · rw [Nat.min_eq_right (by omega), List.drop_length, List.drop_of_length_le (by omega)]; simp
theorem tx_cut {w : List Bool} {k : Int} (h : 0 ≤ k) : cutS (tx w) none (some k) = tx (w.take k.toNat) := by
  rw [cutS_to h, tx_list]; unfold tx; rw [List.map_take]
theorem tx_cutN {w : List Bool} {k : Nat} : cutS (tx w) none (some (k : Int)) = tx (w.take k) := by rw [tx_cut (by omega)]; simp
theorem tx_drop {w : List Bool} {k : Int} (h : 0 ≤ k) : cutS (tx w) (some k) none = tx (w.drop k.toNat) := by
  rw [cutS_from h, tx_list]; unfold tx; rw [List.map_drop]
theorem tx_join : ∀ {ws : List (List Bool)}, Txt.join (tx []) (ws.map tx) = tx ws.flatten := by
  intro ws
  unfold Txt.join
  rw [PySem.StrLaws.glued_eq_join]
  induction ws with
  | nil => rfl
  | cons w r ih =>
    cases r with
    | nil => simp [Str.join]
    | cons w2 r =>
      rw [List.map_cons, List.map_cons, Str.join, ← List.map_cons, ih, tx_app, tx_app]
      · simp
      · simp
theorem tx_lj {w : List Bool} {k : Int} : Txt.ljustF (tx w) k 48 = tx (w ++ List.replicate (k.toNat - w.length) false) := by
  apply str_ext
  rw [ljustF_list, tx_list, tx_list, tx_len, List.map_append, List.map_replicate]
  rfl
theorem tx_rep {n : Int} : repS (tx [false]) n = tx (List.replicate n.toNat false) := by
  unfold repS
  rw [tx_list]
  apply str_ext
  rw [tx_list, List.map_replicate]
  show (List.replicate n.toNat [bit false]).flatten.toArray.toList = _
  simp
theorem strs_sx : ∀ {ws : List (List Bool)}, strsD (ws.map sx) = some (ws.map tx)
  | [] => rfl
  | w :: r => by rw [List.map_cons]; show (strsD (r.map sx)).map _ = _; rw [strs_sx]; rfl
/-- all texts of n signs, in their order -/
def allW : Nat → List (List Bool)
  | 0 => [[]]
  | n + 1 => (allW n).map (false :: ·) ++ (allW n).map (true :: ·)
theorem allW_len : ∀ {n : Nat} {w : List Bool}, w ∈ allW n ↔ w.length = n
  | 0, w => by unfold allW; simp
  | n + 1, w => by
    unfold allW
    rw [List.mem_append, List.mem_map, List.mem_map]
    constructor
    · rintro (⟨v, h, rfl⟩ | ⟨v, h, rfl⟩) <;> rw [List.length_cons, allW_len.mp h]
    · intro h
      cases w with
      | nil => simp at h
      | cons b v =>
        have hv : v ∈ allW n := allW_len.mpr (by simpa using h)
        cases b
        · exact .inl ⟨v, hv, rfl⟩
        · exact .inr ⟨v, hv, rfl⟩
end Y
namespace Y
open PySem PySem.Spec PyProof.Rows L2
/-! ### comprehensions that keep all as it is -/
theorem lc_gen {α : Type} {gd : Hq → Prop} {g : RG} {tt : RT} {te : RE} {vs : List Nat} {σ : Sg} {Qf : List D → Hq → Prop} {S : Hq} (e : α → D) (τ : α → Sg) (f : α → Bool) (k : α → D) (hg : gd S) : ∀ (ws : List α) (acc : List D),
    (∀ a ∈ ws, ∀ N : Sg → Hq → Prop, N (τ a) S → g (e a) (wipeD σ vs) S N NoX) →
    (∀ a ∈ ws, ∀ Q : Bool → Hq → Prop, Q (f a) S → tt (τ a) S Q NoX) → (∀ a ∈ ws, f a = true → ∀ Q : Qv, Q (k a) S → te (τ a) S Q NoX) → acc.length + ws.length ≤ 1000000 →
    Qf (acc ++ (ws.filter f).map k) S → lcP gd g tt te vs σ Qf (ws.map e) acc S
  | [], acc, _, _, _, _, q => ⟨hg, by simpa using q⟩
  | a :: r, acc, h0, h1, h2, hz, q => by
    refine ⟨hg, ?_⟩
    refine h0 a (by simp) _ ?_
    refine h1 a (by simp) _ ?_
    by_cases c : f a = true
    · rw [if_pos c]
      refine h2 a (by simp) c _ ⟨by simp at hz; omega, ?_⟩
      refine lc_gen e τ f k hg r _ (fun b m => h0 b (by simp [m])) (fun b m => h1 b (by simp [m])) (fun b m => h2 b (by simp [m])) (by simp at hz ⊢; omega) ?_
      rw [List.filter_cons_of_pos c] at q
      simpa using q
    · rw [if_neg c]
      refine lc_gen e τ f k hg r _ (fun b m => h0 b (by simp [m])) (fun b m => h1 b (by simp [m])) (fun b m => h2 b (by simp [m])) (by simp at hz ⊢; omega) ?_
      rw [List.filter_cons_of_neg c] at q
      exact q
/-- one name -/
theorem lc_ft {α : Type} {gd : Hq → Prop} {tt : RT} {te : RE} {i : Nat} {σ : Sg} {Qf : List D → Hq → Prop} {S : Hq} (e : α → D) (f : α → Bool) (k : α → D) (hg : gd S) (ws : List α)
    (h1 : ∀ a ∈ ws, ∀ Q : Bool → Hq → Prop, Q (f a) S → tt ((wipeD σ [i]).set i (some (e a))) S Q NoX) (h2 : ∀ a ∈ ws, f a = true → ∀ Q : Qv, Q (k a) S → te ((wipeD σ [i]).set i (some (e a))) S Q NoX) (hz : ws.length ≤ 1000000)
    (q : Qf ((ws.filter f).map k) S) : lcP gd (gNm i) tt te [i] σ Qf (ws.map e) [] S :=
  lc_gen e (fun a => (wipeD σ [i]).set i (some (e a))) f k hg ws [] (fun _ _ _ n => n) h1 h2 (by simpa using hz) (by simpa using q)
/-- one name, no test -/
theorem lc_mp {α : Type} {gd : Hq → Prop} {te : RE} {i : Nat} {σ : Sg} {Qf : List D → Hq → Prop} {S : Hq} (e : α → D) (k : α → D) (hg : gd S) (ws : List α)
    (h2 : ∀ a ∈ ws, ∀ Q : Qv, Q (k a) S → te ((wipeD σ [i]).set i (some (e a))) S Q NoX) (hz : ws.length ≤ 1000000)
    (q : Qf (ws.map k) S) : lcP gd (gNm i) rYes te [i] σ Qf (ws.map e) [] S :=
  lc_ft e (fun _ => true) k hg ws (fun _ _ _ q => q) (fun a m _ => h2 a m) hz (by rw [List.filter_eq_self.mpr (fun _ _ => rfl)]; exact q)
/-! ### plain data without bools -/
inductive Nb : Nat → D → Prop
  | non {n : Nat} : Nb n .non
  | int {n : Nat} (i : Int) : Nb n (.int i)
  | str {n : Nat} (z : Str) (h : PyData.strOk z = true) : Nb n (.str z)
  | tup {n : Nat} {xs : List D} (h : ∀ x ∈ xs, Nb n x) : Nb (n + 1) (.tup xs)
theorem Nb.pur {n : Nat} {d : D} (h : Nb n d) : pur d = true := by
  induction h with
  | non => rfl
  | int i => rfl
  | str z h => rfl
  | @tup n xs h ih =>
    show purs xs = true
    clear h
    induction xs with
    | nil => rfl
    | cons a r ih2 => show (Y.pur a && purs r) = true; rw [ih a (by simp), ih2 fun x m => ih x (by simp [m])]; rfl
theorem Nb.lay {n : Nat} {d : D} (h : Nb n d) : (pd d).canLay0 = true ∧ (pd d).depth ≤ n := by
  induction h with
  | non => exact ⟨by simp [pd, PyData.canLay0], by simp [pd, PyData.depth]⟩
  | int i => exact ⟨by simp [pd, PyData.canLay0], by simp [pd, PyData.depth]⟩
  | str z h => exact ⟨by simpa [pd, PyData.canLay0] using h, by simp [pd, PyData.depth]⟩
  | @tup n xs h ih =>
    have key : PyData.canLayAll0 (pds xs) = true ∧ PyData.depthAll (pds xs) ≤ n := by
      clear h
      induction xs with
      | nil => exact ⟨rfl, Nat.zero_le _⟩
      | cons a r ih2 =>
        obtain ⟨h1, h2⟩ := ih a (by simp)
        obtain ⟨h3, h4⟩ := ih2 fun x m => ih x (by simp [m])
        refine ⟨?_, ?_⟩
        · show ((pd a).canLay0 && PyData.canLayAll0 (pds r)) = true
          rw [h1, h3]; rfl
        · show max ((pd a).depth) (PyData.depthAll (pds r)) ≤ n
          omega
    obtain ⟨a, b⟩ := key
    exact ⟨by simpa [pd, PyData.canLay0] using a, by simp only [pd, PyData.depth]; omega⟩
theorem Nb.ok {n : Nat} {d : D} (h : Nb n d) (hn : n ≤ 64) : okE d := ⟨h.pur, by
  obtain ⟨a, b⟩ := h.lay
  unfold SeqAt.shaped
  rw [a]
  simpa using Nat.le_trans b hn⟩
theorem Nb.eqv {n m : Nat} {x y : D} (h : Nb n x) (h2 : Nb m y) : PyData.eqv (pd x) (pd y) = true ↔ x = y := by
  induction h generalizing m y with
  | non => cases h2 <;> simp [pd, PyData.eqv]
  | int i => cases h2 <;> simp [pd, PyData.eqv]
  | str z h => cases h2 <;> simp [pd, PyData.eqv]
  | @tup n xs h ih =>
    cases h2 with
    | non => simp [pd, PyData.eqv]
    | int i => simp [pd, PyData.eqv]
    | str z h => simp [pd, PyData.eqv]
    | @tup m ys h2 =>
      have e : PyData.eqv (pd (.tup xs)) (pd (.tup ys)) = PyData.eqvAll (pds xs) (pds ys) := by simp [pd, PyData.eqv]
      rw [e, D.tup.injEq]
      clear e h
      induction xs generalizing ys with
      | nil => cases ys <;> simp [pds, PyData.eqvAll]
      | cons a r ih2 =>
        cases ys with
        | nil => simp [pds, PyData.eqvAll]
        | cons b s =>
          show (PyData.eqv (pd a) (pd b) && PyData.eqvAll (pds r) (pds s)) = true ↔ _
          have k1 := ih a (by simp) (h2 b (by simp))
          have k2 : PyData.eqvAll (pds r) (pds s) = true ↔ r = s := ih2 (fun x hx => ih x (List.mem_cons_of_mem _ hx)) (fun x hx => h2 x (List.mem_cons_of_mem _ hx))
          rw [Bool.and_eq_true, k1, k2, List.cons.injEq]
theorem Nb.eqvAll {n m : Nat} {xs ys : List D} (h : ∀ x ∈ xs, Nb n x) (h2 : ∀ x ∈ ys, Nb m x) : PyData.eqvAll (pds xs) (pds ys) = true ↔ xs = ys := by
  have k := Nb.eqv (Nb.tup h) (Nb.tup h2)
  have e : PyData.eqv (pd (.tup xs)) (pd (.tup ys)) = PyData.eqvAll (pds xs) (pds ys) := by simp [pd, PyData.eqv]
  rw [e, D.tup.injEq] at k
  exact k
theorem Nb.any {n m : Nat} {ys : List D} {x : D} (h : ∀ y ∈ ys, Nb n y) (h2 : Nb m x) : ((pds ys).any fun z => PyData.eqv z (pd x)) = true ↔ x ∈ ys := by
  induction ys with
  | nil => simp [pds]
  | cons a r ih =>
    show (PyData.eqv (pd a) (pd x) || ((pds r).any fun z => PyData.eqv z (pd x))) = true ↔ _
    rw [Bool.or_eq_true, Nb.eqv (h a (by simp)) h2, ih fun y m => h y (by simp [m]), List.mem_cons]
    constructor
    · rintro (e | e)
      · exact .inl e.symm
      · exact .inr e
    · rintro (e | e)
      · exact .inl e.symm
      · exact .inr e
theorem tx_ok {w : List Bool} : PyData.strOk (tx w) = true := by
  unfold PyData.strOk
  rw [Array.all_eq_true']
  intro x hx
  have : x ∈ (tx w).cps.toList := Array.mem_toList_iff.mpr hx
  rw [tx_list] at this
  obtain ⟨b, _, rfl⟩ := List.mem_map.mp this
  cases b <;> decide
theorem Nb_sx {n : Nat} {w : List Bool} : Nb n (sx w) := .str _ tx_ok
theorem Nb_ints {n : Nat} {ns : List Int} : Nb (n + 1) (.tup (ns.map D.int)) := .tup fun x hx => by
  obtain ⟨i, _, rfl⟩ := List.mem_map.mp hx
  exact .int i
end Y
namespace Y
open PySem PySem.Spec PyProof.Rows L2
theorem ltc_iff : ∀ {a b : List Nat}, ltCps a b = true ↔ a < b
  | [], [] => by simp [ltCps]
  | [], _ :: _ => by simp [ltCps]
  | _ :: _, [] => by simp [ltCps]
  | x :: a, y :: b => by
    unfold ltCps
    rw [Bool.or_eq_true, Bool.and_eq_true, decide_eq_true_eq, beq_iff_eq, ltc_iff, List.cons_lt_cons_iff]
theorem leS_of : ∀ {x : Str} {l : List Str}, risingS x l = true → ∀ y ∈ l, ¬ y.cps.toList < x.cps.toList
  | x, [], _, y, h => by simp at h
  | x, z :: r, h, y, hy => by
    unfold risingS at h
    rw [Bool.and_eq_true, Bool.not_eq_true', Bool.eq_false_iff] at h
    have h1 : ¬ z.cps.toList < x.cps.toList := fun c => h.1 (ltc_iff.mpr c)
    rcases List.mem_cons.mp hy with rfl | hy
    · exact h1
    · have h2 := leS_of h.2 y hy
      rw [List.not_lt] at h1 h2 ⊢
      exact List.le_trans h1 h2
theorem sortedS_pw : ∀ {l : List Str}, sortedS l = true → l.Pairwise (fun a b => ¬ b.cps.toList < a.cps.toList)
  | [], _ => .nil
  | x :: r, h => .cons (fun y hy => leS_of h y hy) (by
    cases r with
    | nil => exact .nil
    | cons z r =>
      refine sortedS_pw (l := z :: r) ?_
      have h : risingS x (z :: r) = true := h
      unfold risingS at h
      rw [Bool.and_eq_true] at h
      exact h.2)
theorem sortedS_same {a b : List Str} (hp : a.Perm b) (ha : sortedS a = true) (hb : sortedS b = true) : a = b :=
  List.Perm.eq_of_pairwise (le := fun a b : Str => ¬ b.cps.toList < a.cps.toList) (fun x y _ _ h1 h2 => str_ext (List.le_antisymm (List.not_lt.mp h1) (List.not_lt.mp h2))) (sortedS_pw ha) (sortedS_pw hb) hp
end Y
namespace Y
open PySem PySem.Spec PyProof.Rows L2
theorem rSeq_eq {t u : RSt} {D : En} {σ : Sg} {S : Hq} : rSeq t u D σ S = t { D with nx := u D } σ S := rfl
/-- what holds between two statements -/
theorem rSeq_cut {t u : RSt} {D : En} {σ : Sg} {S : Hq} (M : Sg → Hq → Prop) (h2 : ∀ σ S, M σ S → u D σ S) (h1 : ∀ K : Sg → Hq → Prop, (∀ σ S, M σ S → K σ S) → t { D with nx := K } σ S) : rSeq t u D σ S := h1 _ h2
theorem eraseIdx_map' {α β : Type} (f : α → β) : ∀ (l : List α) (i : Nat), (l.map f).eraseIdx i = (l.eraseIdx i).map f
  | [], _ => rfl
  | _ :: _, 0 => rfl
  | a :: r, i + 1 => by rw [List.map_cons, List.eraseIdx_cons_succ, List.eraseIdx_cons_succ, List.map_cons, eraseIdx_map']
end Y
namespace Y
open PySem PySem.Spec PyProof.Rows L2
theorem cut_nx {t : RSt} {D : En} {σ : Sg} {S : Hq} (M : Sg → Hq → Prop) (h2 : ∀ σ S, M σ S → D.nx σ S) (h1 : ∀ K : Sg → Hq → Prop, (∀ σ S, M σ S → K σ S) → t { D with nx := K } σ S) : t D σ S := h1 _ h2
end Y
/-! ### enumerate, whatever it goes over -/
namespace Y.En2
open PySem PyProof.Rows
/-- what an enumerate object draws from -/
structure Inn (prog : Program) (w : World) (it : Addr) (P : Heap → Nat → Prop) (itm : Nat → Option (Tok → Value)) (tk : Nat) (Ap : Addr → Prop) : Prop where
  item : ∀ (A : Around) (E : Value → Shared → Prop) (s : Shared) (i : Nat) (f : Tok → Value) (Q : Value → Shared → Prop), P s.heap i → itm i = some f → (∀ g, P g (i + 1) → Heap.SameBut it s.heap g → Q (f s.toks) { s with heap := g, toks := s.toks + tk }) → wpAny (model prog w) A (Builtin.SmallTypes.nextOf (.ref it)) Q E s
  done : ∀ (A : Around) (E : Value → Shared → Prop) (s : Shared) (i : Nat) (Q : Value → Shared → Prop), A.handled = none → P s.heap i → itm i = none → (∀ g x, Heap.ExtBut it s.heap g → (∃ o, g.get? x = some o ∧ o.cls = .type "StopIteration") → E (.ref x) { s with heap := g }) → wpAny (model prog w) A (Builtin.SmallTypes.nextOf (.ref it)) Q E s
  ext : ∀ (h g : Heap) (b : Addr) (i : Nat), P h i → Heap.ExtBut b h g → it ≠ b → Ap b → P g i
  psh : ∀ (h : Heap) (o : Obj) (i : Nat), P h i → P (h.push o) i
section
variable {prog : Program} {w : World} {A : Around} {E : Value → Shared → Prop}
theorem step {e it : Addr} {P : Heap → Nat → Prop} {itm : Nat → Option (Tok → Value)} {tk : Nat} {Ap : Addr → Prop} (N : Inn prog w it P itm tk Ap) (ap : Ap e) {i : Nat} {f : Tok → Value} {old : Value} {s : Shared} {Q : Option Value → Shared → Prop} (he : IsEnum s.heap e it i old) (hP : P s.heap i) (hf : itm i = some f) (ne : e ≠ it)
    (k : ∀ g, IsEnumOut g e it ((i : Int) + 1) (f s.toks) s.heap.objs.size → P g (i + 1) → g.get? s.heap.objs.size = some { cls := .type "tuple", data := .seq #[.int i (s.toks + tk), f s.toks] } → g.objs.size = s.heap.objs.size + 1 →
      (∀ b o, b ≠ e → b ≠ it → s.heap.get? b = some o → g.get? b = some o) → Q (some (.ref s.heap.objs.size)) { s with heap := g, toks := s.toks + tk + 1 }) :
    wpAny (model prog w) A (pyNext (.ref e)) Q E s := by
  have T : s.TypeIs (.ref e) "enumerate" := ⟨_, he, rfl⟩
  unfold pyNext
  refine wpAny_bind (wpAny_attempt (wpAny_callSpecial?_slot (name := Str.ofString "__next__") T F.slot_enumerate_next (wpAny_call_entry F.slot_enumerate_next T F.entry_enumerate_next ?_ (F.args_enumerate_next_1 _))))
  obtain ⟨h0, gs, d, tz, os⟩ := s
  show wpAny _ _ (field (.ref e) 2 >>= _) _ _ ⟨h0, gs, d, tz, os⟩
  refine wpAny_bind (wpAny_field he rfl (x := .ref it) rfl (wpAny_bind (N.item _ _ _ i f _ hP hf fun g1 p1 sb1 => ?_)))
  have sb1' : Heap.SameBut it h0 g1 := sb1
  have e1 : IsEnum g1 e it i old := (sb1'.2 e ne).trans he
  show wpAny _ _ (field (.ref e) 3 >>= _) _ _ ⟨g1, gs, d, tz + tk, os⟩
  refine wpAny_bind (wpAny_field e1 rfl (x := rawInt i) rfl ?_)
  show wpAny _ _ (field (.ref e) 4 >>= _) _ _ ⟨g1, gs, d, tz + tk, os⟩
  refine wpAny_bind (wpAny_field e1 rfl (x := .none) rfl ?_)
  show wpAny _ _ (mkInt i >>= _) _ _ ⟨g1, gs, d, tz + tk, os⟩
  refine wpAny_bind (wpAny_mkInt ?_)
  show wpAny _ _ (setField (.ref e) 3 (rawInt ((i : Int) + 1)) >>= _) _ _ ⟨g1, gs, d, tz + tk + 1, os⟩
  refine wpAny_bind (wpAny_setField_rec e1 (by simp) fun g2 e2 sb2 => ?_)
  have sb2' : Heap.SameBut e g1 g2 := sb2
  have e2' : IsEnum g2 e it ((i : Int) + 1) old := e2
  show wpAny _ _ (setField (.ref e) 4 .none >>= _) _ _ ⟨g2, gs, d, tz + tk + 1, os⟩
  refine wpAny_bind (wpAny_setField_rec e2' (by simp) fun g3 e3 sb3 => ?_)
  have sb3' : Heap.SameBut e g2 g3 := sb3
  have e3' : IsEnum g3 e it ((i : Int) + 1) old := e3
  show wpAny _ _ (newTuple [.int i (tz + tk), f tz] >>= _) _ _ ⟨g3, gs, d, tz + tk + 1, os⟩
  refine wpAny_bind (wpAny_newTuple ?_)
  have z3 : g3.objs.size = h0.objs.size := by rw [sb3'.1, sb2'.1, sb1'.1]
  have el : e < h0.objs.size := Heap.lt_size he
  have p3 : P g3 (i + 1) := N.ext _ _ _ _ (N.ext _ _ _ _ p1 sb2'.extBut (Ne.symm ne) ap) sb3'.extBut (Ne.symm ne) ap
  have keep : ∀ b o, b ≠ e → b ≠ it → h0.get? b = some o → g3.get? b = some o := fun b o n1 n2 q => sb3'.extBut b o n1 (sb2'.extBut b o n1 (sb1'.extBut b o n2 q))
  generalize hg4 : g3.push { cls := .type "tuple", data := .seq #[.int i (tz + tk), f tz] } = g4
  have e4 : IsEnum g4 e it ((i : Int) + 1) old := by rw [← hg4]; exact Heap.get?_push_of_some _ e3'
  have t4 : g4.get? h0.objs.size = some { cls := .type "tuple", data := .seq #[.int i (tz + tk), f tz] } := by rw [← hg4, ← z3]; exact Heap.get?_push_size _ rfl
  have z4 : g4.objs.size = h0.objs.size + 1 := by rw [← hg4, Heap.size_push, z3]
  have p4 : P g4 (i + 1) := by rw [← hg4]; exact N.psh _ _ _ p3
  have keep4 : ∀ b o, b ≠ e → b ≠ it → h0.get? b = some o → g4.get? b = some o := fun b o n1 n2 q => by rw [← hg4]; exact Heap.get?_push_of_some _ (keep b o n1 n2 q)
  show wpAny _ _ (Builtin.SmallTypes.ownedTupleIsFree (.ref e) >>= _) _ _ ⟨g4, gs, d, tz + tk + 1, os⟩
  rw [z3]
  refine wpAny_bind ?_
  unfold Builtin.SmallTypes.ownedTupleIsFree
  refine wpAny_bind (wpAny_field e4 rfl (x := .none) rfl (wpAny_pure ?_))
  simp only [if_true]
  refine wpAny_bind (wpAny_rule (wpAny_bind (wpAny_field e4 rfl (x := old) rfl ?_)))
  refine wpAny_bind (wpAny_setField_rec e4 (by simp) fun g5 e5 sb5 => ?_)
  have sb5' : Heap.SameBut e g4 g5 := sb5
  have e5' : IsEnum g5 e it ((i : Int) + 1) (f tz) := e5
  show wpAny _ _ (Builtin.SmallTypes.ownedTupleHandOut (.ref e) (.ref h0.objs.size) >>= _) _ _ ⟨g5, gs, d, tz + tk + 1, os⟩
  refine wpAny_bind ?_
  unfold Builtin.SmallTypes.ownedTupleHandOut
  refine wpAny_bind (wpAny_setField_rec e5' (by simp) fun g6 e6 sb6 => ?_)
  have sb6' : Heap.SameBut e g5 g6 := sb6
  have e6' : IsEnumOut g6 e it ((i : Int) + 1) (f tz) h0.objs.size := e6
  refine wpAny_setField_rec e6' (by simp) fun g7 e7 sb7 => ?_
  have sb7' : Heap.SameBut e g6 g7 := sb7
  have e7' : IsEnumOut g7 e it ((i : Int) + 1) (f tz) h0.objs.size := e7
  have up3 : ∀ b o, b ≠ e → g4.get? b = some o → g7.get? b = some o := fun b o n q => sb7'.extBut b o n (sb6'.extBut b o n (sb5'.extBut b o n q))
  refine wpAny_bind (wpAny_letGo (wpAny_pure ⟨_, rfl, wpAny_pure (k g7 e7' ?_ ?_ ?_ ?_)⟩))
  · exact N.ext _ _ _ _ (N.ext _ _ _ _ (N.ext _ _ _ _ p4 sb5'.extBut (Ne.symm ne) ap) sb6'.extBut (Ne.symm ne) ap) sb7'.extBut (Ne.symm ne) ap
  · exact up3 _ _ (Nat.ne_of_gt el) t4
  · rw [sb7'.1, sb6'.1, sb5'.1, z4]
  · exact fun b o n1 n2 q => up3 b o n1 (keep4 b o n1 n2 q)
theorem stop {e it : Addr} {P : Heap → Nat → Prop} {itm : Nat → Option (Tok → Value)} {tk : Nat} {Ap : Addr → Prop} (N : Inn prog w it P itm tk Ap) (ap : Ap e) {i : Nat} {old : Value} {s : Shared} {Q : Option Value → Shared → Prop} (hh : A.handled = none) (he : IsEnum s.heap e it i old) (hP : P s.heap i) (hf : itm i = none)
    (k : ∀ g, Heap.ExtBut it s.heap g → Q none { s with heap := g }) : wpAny (model prog w) A (pyNext (.ref e)) Q E s := by
  have T : s.TypeIs (.ref e) "enumerate" := ⟨_, he, rfl⟩
  unfold pyNext
  refine wpAny_bind (wpAny_attempt (wpAny_callSpecial?_slot (name := Str.ofString "__next__") T F.slot_enumerate_next (wpAny_call_entry F.slot_enumerate_next T F.entry_enumerate_next ?_ (F.args_enumerate_next_1 _))))
  show wpAny _ _ (field (.ref e) 2 >>= _) _ _ s
  refine wpAny_bind (wpAny_field he rfl (x := .ref it) rfl (wpAny_bind (N.done _ _ _ i _ hh hP hf fun g x eb so => ?_)))
  obtain ⟨o, ho, hc⟩ := so
  exact wpAny_bind (wpAny_isInstance (T := "StopIteration") (b := true) ⟨o, ho, hc⟩ isSubtype_stop (wpAny_pure (k _ eb)))
end
/-! a tuple -/
theorem inn_tup {prog : Program} {w : World} {it t : Addr} {ys : Array Value} (hne : t ≠ it) : Inn prog w it (fun h i => h.IsTupleIter it t i ∧ h.IsTuple t ys) (fun i => (ys[i]?).map fun v _ => v) 0 (fun b => t ≠ b) where
  item := fun A E s i f Q hP hf k => by
    obtain ⟨hit, ht⟩ := hP
    cases hx : ys[i]? with
    | none => rw [hx] at hf; cases hf
    | some x =>
      rw [hx] at hf; cases hf
      obtain ⟨o, ho, hc, hd⟩ := id hit
      obtain ⟨ot, hot, ct, nt, dt⟩ := id ht
      unfold Builtin.SmallTypes.nextOf
      refine wpAny_bind (wpAny_callSpecial?_slot (name := Str.ofString "__next__") hit.typeIs F.slot_tuple_iterator_next (wpAny_call_entry F.slot_tuple_iterator_next hit.typeIs F.entry_tuple_iterator_next ?_ (F.args_tuple_iterator_next_1 _)))
      show wpAny _ _ (field (.ref it) 0 >>= _) _ _ s
      refine wpAny_bind (wpAny_field ho hd (x := .ref t) rfl ?_)
      show wpAny _ _ (if (Value.ref t == Value.none) = true then _ else _) _ _ s
      rw [if_neg (show ¬ ((Value.ref t == Value.none) = true) by simp)]
      show wpAny _ _ (field (.ref it) 1 >>= _) _ _ s
      refine wpAny_bind (wpAny_field ho hd (x := .int i 0) rfl ?_)
      show wpAny _ _ (seqItems? (.ref t) >>= _) _ _ s
      refine wpAny_bind (wpAny_seqItems hot dt ?_)
      simp only [Int.toNat_natCast, hx]
      refine wpAny_bind (wpAny_setField ho hd (by simp) (wpAny_pure ⟨x, rfl, wpAny_pure (k _ ⟨?_, ?_⟩ (Heap.SameBut.update ..))⟩))
      · refine ⟨_, Heap.get?_update_self _ ho (Obj.isFreed_of_fields (Obj.data_mapFields hd _)), (Obj.cls_mapFields ..).trans hc, ?_⟩
        rw [Obj.data_mapFields hd]; simp [rawInt]
      · exact ht.extBut (Heap.SameBut.extBut (Heap.SameBut.update ..)) hne
  done := fun A E s i Q hh hP hf k => by
    obtain ⟨hit, ht⟩ := hP
    have hx : ys[i]? = none := by
      cases hx : ys[i]? with
      | none => rfl
      | some x => rw [hx] at hf; cases hf
    obtain ⟨o, ho, hc, hd⟩ := id hit
    obtain ⟨ot, hot, ct, nt, dt⟩ := id ht
    unfold Builtin.SmallTypes.nextOf
    refine wpAny_bind (wpAny_callSpecial?_slot (name := Str.ofString "__next__") hit.typeIs F.slot_tuple_iterator_next (wpAny_call_entry F.slot_tuple_iterator_next hit.typeIs F.entry_tuple_iterator_next ?_ (F.args_tuple_iterator_next_1 _)))
    show wpAny _ _ (field (.ref it) 0 >>= _) _ _ s
    refine wpAny_bind (wpAny_field ho hd (x := .ref t) rfl ?_)
    show wpAny _ _ (if (Value.ref t == Value.none) = true then _ else _) _ _ s
    rw [if_neg (show ¬ ((Value.ref t == Value.none) = true) by simp)]
    show wpAny _ _ (field (.ref it) 1 >>= _) _ _ s
    refine wpAny_bind (wpAny_field ho hd (x := .int i 0) rfl ?_)
    show wpAny _ _ (seqItems? (.ref t) >>= _) _ _ s
    refine wpAny_bind (wpAny_seqItems hot dt ?_)
    simp only [Int.toNat_natCast, hx]
    refine wpAny_bind (wpAny_rule (wpAny_bind (wpAny_setField ho hd (by simp) ?_)))
    show wpAny _ _ (newExc (.type "StopIteration") [] >>= _) _ _ _
    refine wpAny_bind ?_
    simp only [newExc, newTuple]
    refine wpAny_bind (wpAny_newObj_type ?_ (by size_fits))
    refine wpAny_bind (m := firstArgMember _ _) (wpAny_of_eq (a := Value.none) (by first | (simp only [firstArgMember]; rfl) | rfl) ?_)
    refine wpAny_newObj_type ?_ (by size_fits)
    simp only [raiseNew]
    refine wpAny_bind (wpAny_handled ?_)
    have hh' : A.in1.handled = none := hh
    first | rw [hh'] | rw [hh]
    exact wpAny_bind (wpAny_pure (wpAny_throw (k _ _ (((Heap.SameBut.update ..).extBut.push _).push _) ⟨_, Heap.get?_push_size _ rfl, rfl⟩)))
  ext := fun h g b i hP eb ne ap => ⟨hP.1.extBut eb ne, hP.2.extBut eb ap⟩
  psh := fun h o i hP => ⟨let ⟨o', a, b⟩ := hP.1; ⟨o', Heap.get?_push_of_some _ a, b⟩, hP.2.push _⟩
/-! a text -/
theorem inn_str {prog : Program} {w : World} {it : Addr} {x : Str} {t : Tok} : Inn prog w it (fun h i => h.IsStrIter it (strIterType x) x t i) (fun i => (x.cps[i]?).map fun c k => .str ⟨#[c]⟩ k) 1 (fun _ => True) where
  item := fun A E s i f Q hP hf k => by
    cases hx : x.cps[i]? with
    | none => rw [hx] at hf; cases hf
    | some c =>
      rw [hx] at hf; cases hf
      cases ha : x.cps.all (· < 128) with
      | true =>
        have e : strIterType x = "str_ascii_iterator" := by unfold strIterType; rw [ha]; rfl
        rw [e] at hP k
        exact wpAny_nextOf_ascii_item hP hx k
      | false =>
        have e : strIterType x = "str_iterator" := by unfold strIterType; rw [ha]; rfl
        rw [e] at hP k
        exact wpAny_nextOf_wide_item hP hx k
  done := fun A E s i Q hh hP hf k => by
    have hx : x.cps[i]? = none := by
      cases hx : x.cps[i]? with
      | none => rfl
      | some x => rw [hx] at hf; cases hf
    cases ha : x.cps.all (· < 128) with
    | true =>
      have e : strIterType x = "str_ascii_iterator" := by unfold strIterType; rw [ha]; rfl
      rw [e] at hP
      exact wpAny_nextOf_ascii_end hh hP hx k
    | false =>
      have e : strIterType x = "str_iterator" := by unfold strIterType; rw [ha]; rfl
      rw [e] at hP
      exact wpAny_nextOf_wide_end hh hP hx k
  ext := fun h g b i hP eb ne _ => hP.extBut eb ne
  psh := fun h o i hP => let ⟨o', a, b⟩ := hP; ⟨o', Heap.get?_push_of_some _ a, b⟩
section
variable {prog : Program} {w : World} {A : Around} {E : Value → Shared → Prop} {s : Shared}
open AutoSeq1 (wpAny_loadPart')
theorem new_tup (t : Addr) (ys : Array Value) (n : Nat) (dc : Option Addr) (sl : Array (Option Value)) : Meets (Builtin.«enumerate.__new__» ⟨[.type "enumerate", .ref t], []⟩) (fun _ R s => s.heap.get? t = some ⟨.type "tuple", dc, .seq ys n, sl⟩ ∧
    R (.ok (.ret (.ref (s.heap.push { cls := .type "tuple_iterator", data := .fields #[.ref t, .int 0 0] }).objs.size))) { s with heap := (s.heap.push { cls := .type "tuple_iterator", data := .fields #[.ref t, .int 0 0] }).push { cls := .type "enumerate", data := .fields #[.none, .bool false, .ref s.heap.objs.size, rawInt 0, .none, .none] } }) :=
  .of_wp fun prog w A R s ⟨ht, h⟩ => by
    obtain ⟨hp, g, d, tk, os⟩ := s
    have hsub := sub_enumerate
    have hT : Heap.IsTuple (Shared.heap ⟨hp, g, d, tk, os⟩) t ys := ⟨_, ht, rfl, n, rfl⟩
    wp_walk using wpAny_loadPart' ht
    refine wpAny_stack_any fun st => wpAny_pure ?_
    split
    · rename_i c _ _ _ _ _
      cases (c == Value.type "enumerate") <;> (wp_walk using wpAny_loadPart' ht, wpAny_pyIter_tuple hT; exact ⟨_, rfl, h⟩)
    · wp_walk using wpAny_loadPart' ht, wpAny_pyIter_tuple hT
      exact ⟨_, rfl, h⟩
theorem call_tup {t : Addr} {ys : Array Value} {Q : Value → Shared → Prop} (hT : s.heap.IsTuple t ys)
    (h : ∀ g, IsEnum g (s.heap.objs.size + 1) s.heap.objs.size 0 .none → g.IsTupleIter s.heap.objs.size t 0 → g.objs.size = s.heap.objs.size + 2 → (∀ b o, s.heap.get? b = some o → g.get? b = some o) → Q (.ref (s.heap.objs.size + 1)) { s with heap := g }) :
    wpAny (model prog w) A (call (.type "enumerate") [.ref t]) Q E s := by
  obtain ⟨⟨c, dc, dt, sl⟩, ht, hc, n, hd⟩ := hT
  have hc : c = .type "tuple" := hc
  have hd : dt = .seq ys n := hd
  subst hc hd
  have hz : (s.heap.push { cls := .type "tuple_iterator", data := .fields #[.ref t, .int 0 0] }).objs.size = s.heap.objs.size + 1 := Heap.size_push ..
  refine callType_new F.called_enumerate (by decide) (F.typeCall_enumerate_1 _) (F.newCall_enumerate_1 _) (fun obj => F.args_object_init_2 obj _) F.entry_enumerate_new (new_tup t ys n dc sl) ⟨ht, ?_⟩
  show _ ∧ _
  rw [hz]
  generalize hg : (s.heap.push { cls := .type "tuple_iterator", data := .fields #[.ref t, .int 0 0] }) = g0 at hz
  have he : IsEnum (g0.push { cls := .type "enumerate", data := .fields #[.none, .bool false, .ref s.heap.objs.size, rawInt 0, .none, .none] }) (s.heap.objs.size + 1) s.heap.objs.size 0 .none := by
    have q := Heap.get?_push_size g0 (o := { cls := .type "enumerate", data := .fields #[.none, .bool false, .ref s.heap.objs.size, rawInt 0, .none, .none] }) rfl
    rw [hz] at q; exact q
  refine ⟨⟨_, he, rfl⟩, h _ he ⟨_, Heap.get?_push_of_some _ (by rw [← hg]; exact Heap.get?_push_size _ rfl), rfl, rfl⟩ (by rw [Heap.size_push, hz]) fun b o x => Heap.get?_push_of_some _ (by rw [← hg]; exact Heap.get?_push_of_some _ x)⟩
end
end Y.En2
namespace Y
open PySem PySem.Spec PyProof.Rows L2 Y.En2
def Iet (K : PySem.W.Frag) (a : Addr) : It := ⟨fun i H => ∃ (xs : List V) (x : V), SqT K H a xs ∧ xs[i]? = some x, fun i H v H' => ∃ T x, v = .ref T ∧ H T = none ∧ H' = upd H T (.tup [.int (i : Nat), x]) ∧ ∀ xs, SqT K H a xs → xs[i]? = some x, fun i H => ∃ xs : List V, SqT K H a xs ∧ xs.length ≤ i⟩
def Ies (z : Str) : It := ⟨fun i _ => i < z.length, fun i H v H' => ∃ T c, z.cps[i]? = some c ∧ v = .ref T ∧ H T = none ∧ H' = upd H T (.tup [.int (i : Nat), .str ⟨#[c]⟩]), fun i _ => z.length ≤ i⟩
section
variable {P : Program} {w : World} {K : PySem.W.Frag} {elts : List Expr} {kk : Nat} {tpos : Pos}
/-- the step of either -/
theorem turn_item {X : Cx} {i : Nat} {pins : List (Addr × Obj)} {s : Shared} {σ : L2.St} {H : Hp} {E : Value → Shared → Prop} {e it : Addr} {Pn : Heap → Nat → Prop} {itm : Nat → Option (Tok → Value)} {tk : Nat} {Ap : Addr → Prop} {old : Value} {f : Tok → Value} {x : V} {tn : Heap → Prop} {yl : V → Hp → Prop}
    (N : Inn X.prog X.w it Pn itm tk Ap) (hne : e ≠ it) (ap : Ap e) (I : L2.Inv X pins σ H s) (hf : ∀ b ∈ [e, it], FpOk X pins H b) (he : IsEnum s.heap e it ((i : Nat) : Int) old) (hP : Pn s.heap i) (hx : itm i = some f) (rx : RelV x (f s.toks)) (hel : e < s.heap.objs.size) (hil : it < s.heap.objs.size)
    (htn : ∀ g, (∃ o, IsEnum g e it (((i + 1 : Nat) : Nat) : Int) o) → Pn g (i + 1) → tn g) (hy : ∀ T, H T = none → yl (.ref T) (upd H T (.tup [.int (i : Nat), x]))) :
    wpAny (model X.prog X.w) X.A (pyNext (.ref e)) (fun r s1 => ∃ u, r = some u ∧ wpAny (model X.prog X.w) X.A (letOwnedTupleGo (.Tuple elts kk tpos) (.ref e) u) (fun _ s2 => ∃ x H', L2.Inv X pins σ H' s2 ∧ RelV x u ∧ yl x H' ∧ tn s2.heap ∧ ∀ b ∈ [e, it], H' b = none) E s1) E s := by
  refine step N ap he hP hx hne fun g ho p1 hT hsz hk => ?_
  refine ⟨_, rfl, wpAny_letOwnedTupleGo_enum (s := { s with heap := g, toks := s.toks + tk + 1 }) ho fun g2 he2 sb => ?_⟩
  have hT2 : g2.get? s.heap.objs.size = some { cls := .type "tuple", data := .seq #[.int i (s.toks + tk), f s.toks] } := (sb.2 _ (Nat.ne_of_gt hel)).trans hT
  have new : ObjOk X.prog X.w (upd H s.heap.objs.size (.tup [.int (i : Nat), x])) g2 s.heap.objs.size (.tup [.int (i : Nat), x]) :=
    ⟨by show 2 ≤ sizeLine; decide, [.int i (s.toks + tk), f s.toks], .cons ⟨_, rfl⟩ (.cons rx .nil), ⟨_, hT2, rfl, _, rfl⟩⟩
  have I1 : L2.Inv X pins σ (upd H s.heap.objs.size (.tup [.int (i : Nat), x])) { s with heap := g2, toks := s.toks + tk + 1 } := by
    refine I.turnedNew (ch := [e, it]) (fun b ob hb q => ?_) hf (Nat.le_refl _) new
    have n1 : b ≠ e := fun z => hb (by simp [z])
    have n2 : b ≠ it := fun z => hb (by simp [z])
    exact (sb.2 b n1).trans (hk b ob n1 n2 q)
  have fr : H s.heap.objs.size = none := I.hok.fresh (Nat.le_refl _)
  refine ⟨.ref s.heap.objs.size, _, I1, rfl, hy _ fr, htn _ ⟨f s.toks, ?_⟩ (N.ext _ _ _ _ p1 sb.extBut (Ne.symm hne) ap), fun b hb => ?_⟩
  · have e1 : ((i + 1 : Nat) : Int) = (i : Int) + 1 := by omega
    rw [e1]; exact he2
  · have hb' : b < s.heap.objs.size := by
      rcases (show b = e ∨ b = it by simpa using hb) with z | z
      · rw [z]; exact hel
      · rw [z]; exact hil
    rw [upd_ne (Nat.ne_of_lt hb')]
    exact (hf b hb).1
theorem turn_et (a e it : Addr) : Turn P w K (.Tuple elts kk tpos) (Iet K a) [e, it] e (fun i h => (∃ old, IsEnum h e it ((i : Nat) : Int) old) ∧ h.IsTupleIter it a i ∧ e ≠ it) where
  mem := by simp
  obj := fun i h st b hb => by
    obtain ⟨⟨old, he⟩, ⟨o, ho, hc, hd⟩, _⟩ := st
    rcases (show b = e ∨ b = it by simpa using hb) with z | z
    · rw [z]; exact ⟨_, he, fun v q => nomatch q⟩
    · rw [z]; exact ⟨o, ho, fun v q => by rw [hd] at q; cases q⟩
  keep := fun i h g st k => let ⟨⟨old, he⟩, hi, hne⟩ := st; ⟨⟨old, k e (by simp) _ he⟩, hi.at fun o q => k it (by simp) o q, hne⟩
  item := by
    intro X hP hw hK hc i pins s σ H E I hf st hg
    subst hP hw hK
    obtain ⟨⟨old, he⟩, hit, hne⟩ := st
    obtain ⟨xs, x, hq, hx⟩ := hg
    obtain ⟨its, rv, p, hz⟩ := I.tuple hq
    obtain ⟨u, hu, ru⟩ := rv.get hx
    obtain ⟨o, ho, hco, n, hd⟩ := id p
    have ap : a ≠ e := fun z => by rw [z] at ho; rw [he] at ho; cases ho; simp at hco
    have ap2 : a ≠ it := fun z => by obtain ⟨o2, h2, c2, _⟩ := id hit; rw [z] at ho; rw [h2] at ho; cases ho; rw [c2] at hco; simp at hco
    refine turn_item (tn := fun h => (∃ old, IsEnum h e it ((i + 1 : Nat) : Int) old) ∧ h.IsTupleIter it a (i + 1) ∧ e ≠ it) (yl := fun x H' => (Iet X.K a).yld i H x H') (inn_tup (t := a) (ys := its.toArray) ap2) hne ap I hf he ⟨hit, ⟨o, ho, hco, n, hd⟩⟩ (f := fun _ => u) (by simp [hu]) ru (Heap.lt_size he) (let ⟨_, q, _⟩ := hit; Heap.lt_size q) (fun g h1 h2 => ⟨h1, h2.1, hne⟩) fun T hT => ⟨T, x, rfl, hT, rfl, fun ys hy => by rw [I.tuple_inj hy hq]; exact hx⟩
  done := by
    intro X hP hw hK hc i pins s σ H E I hf st hg
    subst hP hw hK
    obtain ⟨⟨old, he⟩, hit, hne⟩ := st
    obtain ⟨xs, hq, hx⟩ := hg
    obtain ⟨its, rv, p, hz⟩ := I.tuple hq
    obtain ⟨o, ho, hco, n, hd⟩ := id p
    have ap : a ≠ e := fun z => by rw [z] at ho; rw [he] at ho; cases ho; simp at hco
    have ap2 : a ≠ it := fun z => by obtain ⟨o2, h2, c2, _⟩ := id hit; rw [z] at ho; rw [h2] at ho; cases ho; rw [c2] at hco; simp at hco
    obtain ⟨f0, f1, f2, f3, f4, f5⟩ := hf it (by simp)
    have hl := rv.length
    exact En2.stop (inn_tup (t := a) (ys := its.toArray) ap2) ap (I.ok.hd hc) he ⟨hit, ⟨o, ho, hco, n, hd⟩⟩ (by simp; omega) fun g eb => ⟨rfl, I.turned (t' := s.toks) (fun b o hb q => eb b o hb q) f0 f1 f3 f4 f5⟩
  self := fun A i s Q E st h => let ⟨⟨_, he⟩, _⟩ := st; wpAny_pyIter_enum he h
theorem turn_es {z : Str} {t : Tok} (e it : Addr) : Turn P w K (.Tuple elts kk tpos) (Ies z) [e, it] e (fun i h => (∃ old, IsEnum h e it ((i : Nat) : Int) old) ∧ h.IsStrIter it (strIterType z) z t i ∧ e ≠ it) where
  mem := by simp
  obj := fun i h st b hb => by
    obtain ⟨⟨old, he⟩, ⟨o, ho, hc, hd⟩, _⟩ := st
    rcases (show b = e ∨ b = it by simpa using hb) with z | z
    · rw [z]; exact ⟨_, he, fun v q => nomatch q⟩
    · rw [z]; exact ⟨o, ho, fun v q => by rw [hd] at q; cases q⟩
  keep := fun i h g st k => let ⟨⟨old, he⟩, ⟨o, ho, r⟩, hne⟩ := st; ⟨⟨old, k e (by simp) _ he⟩, ⟨o, k it (by simp) o ho, r⟩, hne⟩
  item := by
    intro X hP hw hK hc i pins s σ H E I hf st hg
    subst hP hw hK
    obtain ⟨⟨old, he⟩, hit, hne⟩ := st
    have hi : i < z.cps.size := hg
    have hx : z.cps[i]? = some z.cps[i] := by simp [hi]
    refine turn_item (tn := fun h => (∃ old, IsEnum h e it ((i + 1 : Nat) : Int) old) ∧ h.IsStrIter it (strIterType z) z t (i + 1) ∧ e ≠ it) (yl := fun x H' => (Ies z).yld i H x H') (inn_str (x := z) (t := t)) hne trivial I hf he hit (f := fun k => .str ⟨#[z.cps[i]]⟩ k) (x := .str ⟨#[z.cps[i]]⟩) (by rw [hx]; rfl) ⟨_, rfl⟩ (Heap.lt_size he) (let ⟨_, q, _⟩ := hit; Heap.lt_size q) (fun g h1 h2 => ⟨h1, h2, hne⟩) fun T hT => ⟨T, _, hx, rfl, hT, rfl⟩
  done := by
    intro X hP hw hK hc i pins s σ H E I hf st hg
    subst hP hw hK
    obtain ⟨⟨old, he⟩, hit, hne⟩ := st
    obtain ⟨f0, f1, f2, f3, f4, f5⟩ := hf it (by simp)
    have hg : z.cps.size ≤ i := hg
    exact En2.stop (inn_str (x := z) (t := t)) trivial (I.ok.hd hc) he hit (by simp [hg]) fun g eb => ⟨rfl, I.turned (t' := s.toks) (fun b o hb q => eb b o hb q) f0 f1 f3 f4 f5⟩
  self := fun A i s Q E st h => let ⟨⟨_, he⟩, _⟩ := st; wpAny_pyIter_enum he h
end
def iEnT (K : PySem.W.Frag) (ta : TA) : TI := fun σ H R => ta σ H fun vs H1 => (∃ a xs, vs = [.ref a] ∧ SqT K H1 a xs ∧ R (Iet K a) H1) ∨ (∃ z, vs = [.str z] ∧ R (Ies z) H1)
theorem pi_enT {X : Cx} {e : Expr} {ta : TA} {p pos tpos : Pos} {elts : List Expr} {kk : Nat} (hg : Gl X "enumerate") (hm : X.mg "enumerate" = none) (ha : PA X [e] ta) (hs : starEach [e] X.env = [(false, eval e X.env)] := by rfl) : PI X (.Tuple elts kk tpos) (.Call (.Name "enumerate" p) [e] [] pos) (iEnT X.K ta) := by
  refine ⟨fun pins s σ H R I h => Call_ (ld_blt I hg hm boot_enumerate (PyProof.Rows.callWith_type1 (thn (ha.run pos pins s σ H _ I h) fun us s1 ⟨vs, H1, I1, r1, q1⟩ => ?_) hs rfl))⟩
  have fp : ∀ {h' : Heap} {b : Addr}, b ∈ [s1.heap.objs.size + 1, s1.heap.objs.size] → FpOk X pins H1 b := fun {h' b} hb => by
    have hle : s1.heap.objs.size ≤ b := by
      rcases (show b = s1.heap.objs.size + 1 ∨ b = s1.heap.objs.size by simpa using hb) with z | z
      · rw [z]; exact Nat.le_add_right _ _
      · rw [z]; exact Nat.le_refl _
    exact I1.fpOk hle (I1.hok.fresh hle)
  rcases q1 with ⟨a, xs, rfl, hq, q⟩ | ⟨z, rfl, q⟩
  · cases r1 with
    | cons r rr =>
      cases rr
      cases r
      obtain ⟨its, rv, p', hz⟩ := I1.tuple hq
      refine En2.call_tup (show s1.heap.IsTuple a its.toArray from p') fun g he hit hsz hk => wpAny_pyIter_enum he ?_
      have I2 : L2.Inv X pins σ H1 { s1 with heap := g } := I1.kept (t' := s1.toks) hk
      exact ⟨_, [s1.heap.objs.size + 1, s1.heap.objs.size], _, _, H1, rfl, I2, turn_et a _ _, ⟨⟨.none, he⟩, hit, Nat.succ_ne_self _⟩, fun b hb => fp (h' := g) hb, q⟩
  · cases r1 with
    | cons r rr =>
      cases rr
      obtain ⟨t, rfl⟩ := r
      refine call_enumerate_str fun g he hit hsz hk => wpAny_pyIter_enum he ?_
      have I2 : L2.Inv X pins σ H1 { s1 with heap := g } := I1.kept (t' := s1.toks) hk
      exact ⟨_, [s1.heap.objs.size + 1, s1.heap.objs.size], _, _, H1, rfl, I2, turn_es (t := t) _ _, ⟨⟨.none, he⟩, hit, Nat.succ_ne_self _⟩, fun b hb => fp (h' := g) hb, q⟩
/-! the layer's -/
theorem it_et {K : PySem.W.Frag} {S1 : Hq} {H1 : Hp} {a : Addr} {xs : List D} {vs : List V} (rh1 : RH K S1 H1) (s : SqT K H1 a vs) (r : DVs K H1 xs vs) : ItOk K S1 H1 (Iet K a) (enumD xs) (fun _ => True) := by
  refine ⟨fun S H f rh _ => ⟨vs, (f.tle rh1).t _ _ s, by rw [enumD_len, r.length]; exact Nat.le_refl _⟩, fun i x S H hx f rh _ => ?_, fun i x S H v H' hx f rh _ hy => ?_⟩
  · obtain ⟨y, hy, _⟩ := enumD_get hx
    obtain ⟨v, hv, _⟩ := r.get hy
    exact ⟨vs, v, (f.tle rh1).t _ _ s, hv⟩
  · obtain ⟨y, hxy, rfl⟩ := enumD_get hx
    obtain ⟨v', hv, dv⟩ := r.get hxy
    obtain ⟨T, x2, rfl, hT, rfl, e1⟩ := hy
    have e1 := e1 vs ((f.tle rh1).t _ _ s)
    rw [hv] at e1; cases e1
    have f' := Fr.new (o := .tup [.int (i : Int), v']) rh hT
    exact ⟨f', rh.new hT, .tup (.new upd_same) (.cons (.int _) (.cons (DV.mono (f'.tle rh) _ _ (DV.mono (f.tle rh1) _ _ dv)) .nil))⟩
theorem signsD_get {z : Str} {i : Nat} {y : D} (h : (signsD z)[i]? = some y) : ∃ c, z.cps[i]? = some c ∧ y = .str ⟨#[c]⟩ := by
  unfold signsD at h
  rw [List.getElem?_map] at h
  cases e : z.cps.toList[i]? with
  | none => rw [e] at h; cases h
  | some c => rw [e] at h; cases h; exact ⟨c, by simpa using e, rfl⟩
theorem signsD_len {z : Str} : (signsD z).length = z.length := by unfold signsD Str.length; simp
theorem it_es {K : PySem.W.Frag} {S1 : Hq} {H1 : Hp} {z : Str} : ItOk K S1 H1 (Ies z) (enumD (signsD z)) (fun _ => True) := by
  refine ⟨fun S H f rh _ => by rw [enumD_len, signsD_len]; exact Nat.le_refl _, fun i x S H hx f rh _ => ?_, fun i x S H v H' hx f rh _ hy => ?_⟩
  · obtain ⟨y, hy, _⟩ := enumD_get hx
    have := (List.getElem?_eq_some_iff.mp hy).1
    rw [signsD_len] at this
    exact this
  · obtain ⟨y, hxy, rfl⟩ := enumD_get hx
    obtain ⟨c, hc, rfl⟩ := signsD_get hxy
    obtain ⟨T, c2, hc2, rfl, hT, rfl⟩ := hy
    rw [hc] at hc2; cases hc2
    have f' := Fr.new (o := .tup [.int (i : Int), .str ⟨#[c]⟩]) rh hT
    exact ⟨f', rh.new hT, .tup (.new upd_same) (.cons (.int _) (.cons (.str _) .nil))⟩
def enDT (ds : List D) (S1 : Hq) (R : List D → (Hq → Prop) → Hq → Prop) : Prop := match ds with
  | [.tup xs] => R (enumD xs) (fun _ => True) S1
  | [.str z] => R (enumD (signsD z)) (fun _ => True) S1
  | _ => False
def iEn4 (ra : RA) : RI := fun σ S R E => ra σ S (fun ds S1 => enDT ds S1 R) E
section
variable {X : Cx} {W : WX} {e : Expr} {pos : Pos}
theorem ei_en4 {ra : RA} {p tpos : Pos} {elts : List Expr} {kk : Nat} (hm : X.mg "enumerate" = none) (ha : EA X W [e] ra) (hg : Gl X "enumerate" := by rfl) (hs : starEach [e] X.env = [(false, eval e X.env)] := by rfl) : EI X W (.Tuple elts kk tpos) (.Call (.Name "enumerate" p) [e] [] pos) (iEn4 ra) := by
  obtain ⟨T, pp, l⟩ := ha.ex
  refine ⟨_, pi_enT hg hm pp hs, fun σ σ' H S R R' E' rs rh h q xi => ?_⟩
  refine l σ σ' H S _ _ _ rs rh h (fun ds S1 v H1 f1 rh1 dv h1 => ?_) xi
  match ds, dv, h1 with
  | [.tup xs], .cons (.tup s r) .nil, h1 => exact .inl ⟨_, _, rfl, s.1, q _ _ _ _ _ f1 rh1 (it_et rh1 s r) h1⟩
  | [.str z], .cons (.str _) .nil, h1 => exact .inr ⟨_, rfl, q _ _ _ _ _ f1 rh1 it_es h1⟩
end
section
variable {S : Hq} {xs : List D} {z : Str} {R : List D → (Hq → Prop) → Hq → Prop}
theorem e4_t : enDT [.tup xs] S R = R (enumD xs) (fun _ => True) S := rfl
theorem e4_s : enDT [.str z] S R = R (enumD (signsD z)) (fun _ => True) S := rfl
end
end Y
namespace Y
open PySem PySem.Spec PyProof.Rows L2 SeqAt
/-! ### xs.remove(x), plain data -/
def rRemD (K : PySem.W.Frag) : V → List V → Hp → VK → Prop := fun x vs H Q => ∃ (l : Addr) (xs : List V) (y : V) (d : PyData) (ds : List PyData) (j : Nat), x = .ref l ∧ vs = [y] ∧ H l = some (.lst xs) ∧ Dp K H y d ∧ DpAll K H xs ds ∧ PyData.plainAll ds = true ∧ d.plain = true ∧ d.depth ≤ 60 ∧ dataPlace ds d = some j ∧ Q .non (upd H l (.lst (xs.eraseIdx j)))
theorem mt_remD {X : Cx} (hu : X.A.units + 65 < cLine) : MtR X "list.remove" (rRemD X.K) := by
  intro pins s σ H x vs v us Q I rx rv h
  obtain ⟨l, xs, y, d, ds, j, rfl, rfl, hH, hy, hxs, pa, pd, hd, hp, q⟩ := h
  cases rx
  obtain ⟨u, rfl, ru⟩ := Vals.one rv
  obtain ⟨z, its, n, r, hl, e⟩ := I.lstM hH
  obtain ⟨as, r1⟩ := Dp.reads I d y u hy ru
  obtain ⟨bs, r2⟩ := Dp.readsAll I ds xs its hxs r
  have hlen := r.length
  have isl : s.heap.IsList l its.toArray := ⟨_, e, rfl, n, rfl⟩
  refine remove_list_data isl (by simpa using r2) r1 pa pd (by omega) hp (by rw [List.size_toArray]; omega) ?_
  refine ⟨.non, _, I.lset (its' := its.eraseIdx j) (t' := s.toks) hH e ?_ (r.eraseIdx j) ?_, rfl, q⟩
  · show its.toArray.eraseIdxIfInBounds j = (its.eraseIdx j).toArray
    rw [List.eraseIdxIfInBounds_toArray]
  · have := List.length_eraseIdx_le xs j
    omega
def remD3 (x : D) (ds : List D) (S : Hq) (Q : Qv) : Prop := match x, ds with
  | .ref a, [y] => ∃ xs n j, S a = some (.lst xs) ∧ n ≤ 50 ∧ Nb n y ∧ (∀ x ∈ xs, Nb n x) ∧ xs[j]? = some y ∧ (∀ m, m < j → xs[m]? ≠ some y) ∧ Q .non (up S a (.lst (xs.eraseIdx j)))
  | _, _ => False
theorem Nb.plain {n : Nat} {d : D} (h : Nb n d) : (pd d).plain = true := by
  induction h with
  | non => rfl
  | int i => rfl
  | str z h => rfl
  | @tup n xs h ih =>
    have key : ∀ l : List D, (∀ x ∈ l, (pd x).plain = true) → PyData.plainAll (pds l) = true := by
      intro l
      induction l with
      | nil => intro _; rfl
      | cons a r ih2 => intro h; show ((pd a).plain && PyData.plainAll (pds r)) = true; rw [h a (by simp), ih2 fun x m => h x (by simp [m])]; rfl
    have := key xs ih
    simpa [pd, PyData.plain] using this
theorem Nb.plainAll {n : Nat} {l : List D} (h : ∀ x ∈ l, Nb n x) : PyData.plainAll (pds l) = true := by
  have := (Nb.tup h).plain
  simpa [pd, PyData.plain] using this
theorem Nb.purs {n : Nat} {l : List D} (h : ∀ x ∈ l, Nb n x) : purs l = true := by
  have := (Nb.tup h).pur
  simpa [Y.pur] using this
theorem place_of {n : Nat} {y : D} (hy : Nb n y) : ∀ {xs : List D} {j : Nat}, (∀ x ∈ xs, Nb n x) → xs[j]? = some y → (∀ m, m < j → xs[m]? ≠ some y) → dataPlace (pds xs) (pd y) = some j
  | [], _, _, h, _ => by simp at h
  | a :: r, 0, hx, h, _ => by
    simp at h; subst h
    show List.findIdx? (fun y_1 => PyData.eqv y_1 (pd a)) (pd a :: pds r) = some 0
    rw [List.findIdx?_cons, (Nb.eqv (hx a (by simp)) (hx a (by simp))).mpr rfl]; rfl
  | a :: r, j + 1, hx, h, hn => by
    have ih := place_of hy (xs := r) (j := j) (fun x m => hx x (by simp [m])) (by simpa using h) fun m hm => by have := hn (m + 1) (by omega); simpa using this
    have ne : PyData.eqv (pd a) (pd y) = false := by
      rw [Bool.eq_false_iff]
      intro c
      have := (Nb.eqv (hx a (by simp)) hy).mp c
      exact hn 0 (by omega) (by simp [this])
    show List.findIdx? (fun y_1 => PyData.eqv y_1 (pd y)) (pd a :: pds r) = some (j + 1)
    rw [List.findIdx?_cons, ne]
    have ih : List.findIdx? (fun y_1 => PyData.eqv y_1 (pd y)) (pds r) = some j := ih
    simp [ih]
theorem DVs.erase {K : PySem.W.Frag} {H : Hp} {ds : List D} {vs : List V} (n : Nat) (r : DVs K H ds vs) : DVs K H (ds.eraseIdx n) (vs.eraseIdx n) := DVs.cutN n r
theorem lm_remD {K : PySem.W.Frag} : LiftM K remD3 (rRemD K) := by
  intro x ds S H Q' Q v vs rh dx dv h q
  match x, ds, dx, dv, h with
  | .ref a, [y], .ref _, .cons d .nil, h =>
    obtain ⟨xs, n, j, e, hn, hy, hxs, hj, hno, h⟩ := h
    obtain ⟨ys, g, r⟩ := rh.lst e
    exact ⟨_, ys, _, _, _, j, rfl, rfl, g, DV.dp _ _ hy.pur d, DVs.dp _ _ (Nb.purs hxs) r, Nb.plainAll hxs, hy.plain, by have := hy.lay.2; omega, place_of hy hxs hj hno, q.putL rh e (r.erase j) .non h⟩
/-! ### len(set(xs)), tuples of ints -/
def tLenSetT (K : PySem.W.Frag) (ta : TE) : TE := fun σ H Q => ta σ H fun x H1 => ∃ (l : Addr) (ks : List (Addr × List Int)), x = .ref l ∧ SqL K H1 l (ks.map fun p => V.ref p.1) ∧ (∀ p ∈ ks, SqT K H1 p.1 (p.2.map V.int)) ∧ ks.length < 64 ∧ (ks.map (·.2)).Nodup ∧ Q (.int (ks.length : Nat)) H1
theorem pe_lenSetT {X : Cx} {a : Expr} {ta : TE} {p p2 q pos : Pos} (hu : X.A.units + 64 < cLine) (hg : Gl X "len") (hm : X.mg "len" = none) (hg2 : Gl X "set") (hm2 : X.mg "set" = none) (ha : PE X a ta) (hc : X.calm = true := by rfl)
    (na : starEach [a] X.env = (false, eval a X.env) :: starEach [] X.env := by rfl) : PE X (.Call (.Name "len" p) [.Call (.Name "set" p2) [a] [] q] [] pos) (tLenSetT X.K ta) := by
  refine ⟨fun pins s σ H Q I h => Call_ (ld_blt I hg hm boot_len (PyProof.Rows.callWith_builtin1 (PyProof.Rows.args_cons ?_ rfl) rfl rfl))⟩
  refine Call_ (ld_blt I hg2 hm2 boot_set (PyProof.Rows.callWith_type1 (PyProof.Rows.args_cons (thn (ha.run pins s σ H _ I h) fun v s1 ⟨x, H1, I1, r1, q1⟩ => PyProof.Rows.args_nil ?_) na) na rfl))
  obtain ⟨l, ks, rfl, hl, hk, hf, hnd, q1⟩ := q1
  cases r1
  obtain ⟨its, rv, pl, hz⟩ := I1.list hl
  refine call_set_tups (P := X.prog) (w := X.w) ks (I1.ok.hd hc) pl.isList (by simpa using refs_of_vals rv) (fun p hp => I1.isT (hk p hp)) hf (by omega) fun h' tk L es ep t R g k => PyProof.Rows.args_nil ?_
  have hlen : es.size = ks.length := by
    have e1 : es.size = L.length := by
      have q := congrArg List.length R.rows
      unfold rowsOf at q
      simpa using q
    have e2 : (L.map (·.2)).Perm (ks.map (·.2)) := by
      refine (List.perm_ext_iff_of_nodup R.nd hnd).mpr fun y => ⟨fun m => ?_, fun m => ?_⟩
      · obtain ⟨p, hp, rfl⟩ := List.mem_map.mp m
        exact List.mem_map.mpr ⟨p, List.mem_of_mem_take (g.sub p hp), rfl⟩
      · obtain ⟨p, hp, rfl⟩ := List.mem_map.mp m
        exact g.all p (by rw [List.take_length]; exact hp)
    have e3 := e2.length_eq
    rw [List.length_map, List.length_map] at e3
    omega
  obtain ⟨o, ho, hex, hd⟩ := R.ob
  have fits : t.fits es.size = true := SetTR.fits (s := { s1 with heap := h', toks := tk }) R
  refine call_len_set ho hex hd fits (by omega) ⟨.int ks.length, H1, ?_, ⟨_, by rw [hlen]⟩, q1⟩
  exact (I1.kept (t' := tk) k).tok _
def lsetD (x : D) (S : Hq) (Q : Qv) : Prop := lsv x S fun xs => ∃ ks : List (List Int), xs = ks.map (fun k => D.tup (k.map D.int)) ∧ ks.length < 64 ∧ ks.Nodup ∧ Q (.int (ks.length : Nat)) S
theorem DVs.tupI {K : PySem.W.Frag} {H : Hp} : ∀ {ks : List (List Int)} {vs : List V}, DVs K H (ks.map (fun k => D.tup (k.map D.int))) vs → ∃ ps : List (Addr × List Int), vs = ps.map (fun p => V.ref p.1) ∧ ps.map (·.2) = ks ∧ ∀ p ∈ ps, SqT K H p.1 (p.2.map V.int)
  | [], _, .nil => ⟨[], rfl, rfl, by simp⟩
  | k :: ks, _, .cons x r => by
    obtain ⟨ps, rfl, e, h⟩ := DVs.tupI r
    cases x with
    | tup s t =>
      rw [t.ints] at s
      exact ⟨(_, k) :: ps, rfl, by simp [e], fun p m => by
        rcases List.mem_cons.mp m with rfl | m
        · exact s.1
        · exact h p m⟩
theorem ev_lset {X : Cx} {W : WX} {a : Expr} {ra : RE} {p p2 q pos : Pos} (hu : X.A.units + 64 < cLine) (hm : X.mg "len" = none) (hm2 : X.mg "set" = none) (ha : EV X W a ra) (hc : X.calm = true) (hg : Gl X "len" := by rfl) (hg2 : Gl X "set" := by rfl)
    (na : starEach [a] X.env = (false, eval a X.env) :: starEach [] X.env := by rfl) : EV X W (.Call (.Name "len" p) [.Call (.Name "set" p2) [a] [] q] [] pos) (rUn lsetD ra) := by
  obtain ⟨T, pa, la⟩ := ha.ex
  refine ⟨_, pe_lenSetT hu hg hm hg2 hm2 pa hc na, fun σ σ' H S Q Q' E' rs rh h qq xi => ?_⟩
  refine la σ σ' H S _ _ E' rs rh h (fun x S1 v H1 f1 rh1 dv h1 => ?_) xi
  obtain ⟨a, xs, vs, rfl, s, r, ⟨ks, rfl, hl, hn, h1⟩, _⟩ := rh1.lsv dv h1
  obtain ⟨ps, rfl, e, hp⟩ := DVs.tupI r
  have el : ps.length = ks.length := by rw [← e, List.length_map]
  exact ⟨a, ps, rfl, s, hp, by omega, by rw [e]; exact hn, by rw [el]; exact qq _ _ _ _ f1 rh1 (.int _) h1⟩
theorem q_lset {x : D} {S : Hq} {Q : Qv} : lsetD x S Q = lsv x S fun xs => ∃ ks : List (List Int), xs = ks.map (fun k => D.tup (k.map D.int)) ∧ ks.length < 64 ∧ ks.Nodup ∧ Q (.int (ks.length : Nat)) S := rfl
theorem q_remD {p : Addr} {y : D} {S : Hq} {Q : Qv} : remD3 (.ref p) [y] S Q = ∃ xs n j, S p = some (.lst xs) ∧ n ≤ 50 ∧ Nb n y ∧ (∀ x ∈ xs, Nb n x) ∧ xs[j]? = some y ∧ (∀ m, m < j → xs[m]? ≠ some y) ∧ Q .non (up S p (.lst (xs.eraseIdx j))) := rfl
/-! ### what is never come to; enumerate of anything -/
def rNv : RSt := fun _ _ _ => False
theorem es_nv {X : Cx} {W : WX} {st : Stmt} : ES X W st rNv := ⟨fun _ _ _ => False, ⟨fun _ _ _ _ _ _ h => h.elim⟩, fun _ _ _ _ _ _ _ _ h _ => h.elim⟩
def iEnX (ra : RA) : RI := fun σ S R E => iEn3 ra σ S R E ∨ iEn4 ra σ S R E
theorem ei_enX {X : Cx} {W : WX} {e : Expr} {pos : Pos} {ra : RA} {p tpos : Pos} {elts : List Expr} {kk : Nat} (hm : X.mg "enumerate" = none) (ha : EA X W [e] ra) (hg : Gl X "enumerate" := by rfl) (hs : starEach [e] X.env = [(false, eval e X.env)] := by rfl) : EI X W (.Tuple elts kk tpos) (.Call (.Name "enumerate" p) [e] [] pos) (iEnX ra) := ei_or (ei_enum3 hm ha hg hs) (ei_en4 hm ha hg hs)
section
variable {S : Hq} {xs : List D} {z : Str} {p : Addr} {R : List D → (Hq → Prop) → Hq → Prop} {T : List D → Prop}
theorem v_t : lsv (.tup xs) S T = False := rfl
theorem v_s : lsv (.str z) S T = False := rfl
theorem e4_k : enDT [.kl xs] S R = False := rfl
theorem e4_r : enDT [.ref p] S R = False := rfl
end
end Y
namespace Y
open PySem PySem.Spec PyProof.Rows L2
section
variable {S : Hq} {Q : Qv} {c d : Bool} {z : Str} {i : Int} {xs : List D}
theorem q_isntB : isntD (.bl c) (.bl d) S Q = Q (.bl (!decide (c = d))) S := rfl
end
def Ls (S : Hq) (x : D) (xs : List D) : Prop := x = .kl xs ∨ ∃ a, x = .ref a ∧ S a = some (.lst xs)
/-- all that stands here stands there -/
def Ex (S S' : Hq) : Prop := ∀ a o, S a = some o → S' a = some o
theorem Ex.refl {S : Hq} : Ex S S := fun _ _ h => h
theorem Ex.up {S : Hq} {p : Addr} {o : HQ} (hp : S p = none) : Ex S (up S p o) := fun _ _ h => up_get hp h
theorem Ex.trans {S S1 S2 : Hq} (a : Ex S S1) (b : Ex S1 S2) : Ex S S2 := fun x o h => b x o (a x o h)
theorem Ls.src {S : Hq} {x : D} {xs : List D} {R : List D → (Hq → Prop) → Hq → Prop} (h : Ls S x xs) (k : ∀ g : Hq → Prop, (∀ S', Ex S S' → g S') → R xs g S) : lstD x S R := by
  rcases h with rfl | ⟨a, rfl, e⟩
  · exact k _ fun _ _ => trivial
  · exact ⟨xs, e, k _ fun S' h => h a _ e⟩
theorem Ls.lsv {S : Hq} {x : D} {xs : List D} {R : List D → Prop} (h : Ls S x xs) (k : R xs) : lsv x S R := by
  rcases h with rfl | ⟨a, rfl, e⟩
  · exact k
  · exact ⟨xs, e, k⟩
theorem Ls.len {S : Hq} {x : D} {xs : List D} {Q : Qv} (h : Ls S x xs) (k : Q (.int xs.length) S) : lenD [x] S Q := by
  rcases h with rfl | ⟨a, rfl, e⟩
  · exact k
  · exact ⟨xs, e, k⟩
theorem Ls.ex {S S' : Hq} {x : D} {xs : List D} (h : Ls S x xs) (e : Ex S S') : Ls S' x xs := h.imp id fun ⟨a, b, c⟩ => ⟨a, b, e a _ c⟩
end Y
set_option maxHeartbeats 2000000
namespace PySem
namespace LA
open PySem.W PySem.Calls PyProof.Rows PySem.HandSPX
/-! ### the text of __init__ -/
def iA (p1 p2 : Pos) : Arguments := { posonlyargs := [], args := [{ arg := "self", annotation := none, pos := p1 }, { arg := "at", annotation := none, pos := p2 }], vararg := none, kwonlyargs := [], kw_defaults := [], kwarg := none, defaults := [] }
def iB (q1 q2 q3 q4 : Pos) : List Stmt := [.Assign [.Attribute (.Name "self" q1) "at" q2] (.Name "at" q3) q4]
def iS : Scope := { kind := .function, names := [(PySem.Str.ofString "self", .local), (PySem.Str.ofString "at", .local)], isGenerator := false, isCoroutine := false, more := [] }
/-- what the written part says of Low, at C, and of its __init__, at fI -/
structure LowTxt (K : Frag) (mg : Str → Option Value) (nX qX : Str) (C fI : Addr) : Prop where
  gC : mg nX = some (.ref C)
  cls : ∃ nm q N bs bm sn sub ab col dd k0 k1 k2 k3 k5, K.lookup C = some (excClassObj nm q C N bs bm true sn sub ab col dd k0 k1 k2 k3 k5 "ValueError.__new__") ∧ refsVE bm = true
  sa : findIn K (.ref C) "__setattr__" = some (some (.builtin "object.__setattr__"))
  ga : findIn K (.ref C) "__getattribute__" = some (some (.builtin "BaseException.__getattribute__"))
  gg : findIn K (.ref C) "__getattr__" = some none
  noN : findIn K (.ref C) "at" = some none
  iC : findIn K (.ref C) "__init__" = some (some (.ref fI))
  tC : typeIn K (.ref fI) = some (.type "function")
  kC : keepIn K (.ref C) = true
  exC : subIn K (.ref C) (.type "BaseException") = some true
  tyC : typeIn K (.ref C) = some (.type "type")
  hdC : hasDictIn K C = true
  te : exmOne K (.ref C) (.ref C) = some true
  fn : ∃ (oc : Value) (od : Option Addr) (doc pm : Value) (an : Option Addr) (cdv ct : Value) (osl : Array (Option Value)) (p1 p2 q1 q2 q3 q4 : Pos),
    K.lookup fI = some ⟨oc, od, .func (fnOf "__init__" qX (iA p1 p2) (iB q1 q2 q3 q4) iS .none .none doc pm an cdv ct), osl⟩ ∧ codeIn K cdv qX = true
theorem one_size (v : Value) : [v].length ≤ sizeLine := by
  rw [sizeLine_eq]
  exact (by decide : 1 ≤ 16777216)
theorem kept_but {K : Frag} {h h' : Heap} {x : Addr} (X : K.In h) (hx : K.lookup x = none) (k : ∀ b o, b ≠ x → h.get? b = some o → h'.get? b = some o) : K.In h' := fun a o e =>
  k a o (fun z => by rw [z, hx] at e; cases e) (X a o e)
theorem ldC {M : Model} {s : Shared} {name : Str} {scope : Scope} {L a : Addr} {cd : Value} {m : Str → Option Value} {x : Str} {pos : Pos} {v : Value} {Q : Value → Shared → Prop} {A : Around} {E : Value → Shared → Prop} (hn : s.heap.Ns L m) (hv : m x = some v) (h : Q v s)
    (hk : scope.kind = .function := by rfl) (hl : (envOfC name scope L a cd).kindOf x = some .local := by rfl) (hd : (x == ("__debug__" : Str)) = false := by decide) :
    wpAny M A (eval (.Name x pos) (envOfC name scope L a cd)) Q E s := wpAny_Name (wpAny_loadName_local hk hl hn hv h) hd
/-- what __init__ leaves of a fresh exception at x -/
structure InitEnd (h h' : Heap) (x C dx t1 : Addr) (v : Value) : Prop where
  keep : ∀ b o, b ≠ x → h.get? b = some o → h'.get? b = some o
  obj : h'.get? x = some { cls := .ref C, dict := some dx, data := .fields #[.ref t1, .none, .none, .none, .bool false, .none] }
  dbig : h.objs.size ≤ dx
  dne : dx ≠ x
  ns : h'.Ns1 dx (fun y => if y = "at" then some v else none)
/-- a made Low -/
structure OwnMade (h h' : Heap) (e C d : Addr) (v : Value) : Prop where
  keep : ∀ b o, h.get? b = some o → h'.get? b = some o
  new : h.objs.size ≤ e
  obj : ∃ oe vs, h'.get? e = some oe ∧ oe.cls = .ref C ∧ oe.dict = some d ∧ oe.data = .fields vs ∧ vs[1]? = some .none ∧ vs[2]? = some .none
  dbig : h.objs.size ≤ d
  dne : d ≠ e
  ns : h'.Ns1 d (fun y => if y = "at" then some v else none)
section
variable {prog : Program} {w : World} {A : Around} {E : Value → Shared → Prop} {R : Result → Shared → Prop} {s : Shared} {K : Frag} {mg : Str → Option Value} {nX qX : Str} {C fI : Addr}
theorem low_init (T : LowTxt K mg nX qX C fI) {x t0 : Addr} {v : Value} (X : K.In s.heap) (hlim : s.heap.NoLimit) (hx : s.heap.get? x = some (excO C t0)) (hnx : K.lookup x = none) (hroom : A.depth < recursionLimit)
    (hq : ∀ h' tk dx, InitEnd s.heap h' x C dx t0 v → R (.ok (.ret .none)) { s with heap := h', toks := tk }) :
    codeAny (model prog w) A (.call (.ref fI) ⟨[.ref x, v], []⟩) R s := by
  obtain ⟨oc, od, doc, pm, an, cdv, ct, osl, p1, p2, q1, q2, q3, q4, ho, hcd⟩ := T.fn
  obtain ⟨nm, q, N, bs, bm, sn, sub, ab, col, dd, k0, k1, k2, k3, k5, hC, hbm⟩ := T.cls
  have hcl : clsIn K C = some { name := nm, bases := bs, mro := .ref C :: bm, ns := N, qualname := q, hasDict := true, slotNames := sn, subclasses := sub, abstract := ab, collection := col, hasDel := false } := by unfold clsIn; rw [hC] <;> rfl
  refine Att.call_fn (binds := [("self", .ref x), ("at", v)]) X hlim ho hcd hroom (BindsTo.of_eq (by first | rfl | with_unfolding_all rfl)) (by first | rfl | decide | with_unfolding_all rfl) (fun s₁ IC => ?_) rfl rfl rfl
  obtain ⟨h₁, tk₁, rfl⟩ := IC.toInCall.same
  have k : ∀ b o, s.heap.get? b = some o → h₁.get? b = some o := IC.toInCall.keep
  have hn := IC.toInCall.ns
  have hxL : s.heap.objs.size ≠ x := Nat.ne_of_gt (Heap.lt_size hx)
  have X₁ : K.In h₁ := X.keeps k
  have hx₁ := k _ _ hx
  -- self.by = by
  show wpAny _ _ (execs _ _) _ _ _
  refine wpAny_execs_cons (plainObj_wpAny_Assign_Attribute ?_)
  refine ldC (v := v) hn (by first | rfl | with_unfolding_all rfl | kernel_rfl) (ldC (v := .ref x) hn (by first | rfl | with_unfolding_all rfl | kernel_rfl) ?_)
  refine set_plain X₁ (ox := excO C t0) (od := none) ⟨hx₁, rfl, rfl, trivial⟩ T.sa ?_
  refine exc_osa X₁ hx₁ hcl (show refsVE (.ref C :: bm) = true from hbm) rfl T.noN (fun h₃ tk₃ dx k₃ dn dne hx₃ hn₃ => ?_)
  show wpAny _ _ (execs _ _) _ _ _
  have z : s.heap.objs.size < h₁.objs.size := hn.lt
  exact wpAny_execs_nil (hq h₃ tk₃ dx ⟨fun b o hb e => k₃ b o hb (k b o e), hx₃, Nat.le_of_lt (Nat.lt_of_lt_of_le z dn), dne, hn₃⟩)
theorem low_made (T : LowTxt K mg nX qX C fI) {v : Value} (X : K.In s.heap) (hlim : s.heap.NoLimit) (hroom : A.depth + 1 < recursionLimit)
    (hq : ∀ h' tk e d, OwnMade s.heap h' e C d v → R (.ok (.ret (.ref e))) { s with heap := h', toks := tk }) :
    codeAny (model prog w) A (.call (.ref C) ⟨[v], []⟩) R s := by
  obtain ⟨nm, q, N, bs, bm, sn, sub, ab, col, dd, k0, k1, k2, k3, k5, hC, hbm⟩ := T.cls
  obtain ⟨hp, g, dr, tk, os⟩ := s
  have k : ∀ b o, hp.get? b = some o → ((hp.push (kdv_tup [v])).push (excO C hp.objs.size)).get? b = some o := fun b o e => Heap.get?_push_of_some _ (Heap.get?_push_of_some _ e)
  have hget : ((hp.push (kdv_tup [v])).push (excO C hp.objs.size)).get? (hp.objs.size + 1) = some (excO C hp.objs.size) := by heap_get
  have hnx : K.lookup (hp.objs.size + 1) = none := by
    cases e : K.lookup (hp.objs.size + 1) with
    | none => rfl
    | some o =>
      have z : hp.get? (hp.objs.size + 1) = some o := X _ _ e
      exact absurd (Nat.lt_of_succ_lt (Heap.lt_size z)) (Nat.lt_irrefl _)
  refine call_own F.excBase_ValueError (fun X => refsVE_contains X bm hbm) (X _ _ hC) (looks_findIn X T.iC) (fun self => bind_fn X self T.tC) (one_size v) ?_
  refine low_init (s := ⟨(hp.push (kdv_tup [v])).push (excO C hp.objs.size), g, dr, tk, os⟩) T (X.keeps k) (hlim.keeps k) hget hnx ?_ fun h' tk' dx ⟨k', hx, dn, dne, hns⟩ => ?_
  · show A.depth + 1 < recursionLimit
    exact hroom
  · have old : ∀ b o, hp.get? b = some o → h'.get? b = some o := fun b o e => k' b o (Nat.ne_of_lt (Nat.lt_succ_of_lt (Heap.lt_size e))) (k b o e)
    have z : hp.objs.size + 1 + 1 ≤ dx := by
      first
        | (simpa only [Heap.size_push] using dn)
        | exact dn
        | (have q := dn; rw [Heap.size_push, Heap.size_push] at q; exact q)
    exact ⟨rfl, hq h' tk' (hp.objs.size + 1) dx ⟨old, Nat.le_succ _, ⟨_, _, hx, rfl, rfl, rfl, rfl, rfl⟩, Nat.le_trans (Nat.le_trans (Nat.le_succ _) (Nat.le_succ _)) z, dne, hns⟩⟩
end
end LA
end PySem
namespace L2
open PySem PySem.Spec PyProof.Rows
theorem relO_low_LA {v : V} {v' : Value} (r : RelV v v') (f : Str) : RelO (List.lookup f [(("at" : Str), v)]) (if f = "at" then some v' else none) := by
  by_cases hw : f = "at"
  · subst hw
    rw [if_pos rfl]
    have q : List.lookup ("at" : Str) [(("at" : Str), v)] = some v := by simp [List.lookup]
    rw [q]
    exact r
  · rw [if_neg hw]
    have qw : (f == ("at" : Str)) = false := by simpa using hw
    have q2 : List.lookup f [(("at" : Str), v)] = none := by simp [List.lookup, qw]
    rw [q2]
    trivial
section
variable {X : Cx} {nX qX : Str} {C fI : Addr}
/-- Low(e) -/
def tMkLow_LA (C : Addr) (ta : TA) : St → Hp → XK → Prop := fun σ H Q => ta σ H fun vs H1 => ∃ v, vs = [v] ∧ ∀ d, H1 d = none → Q (.ref C) (some d) (upd H1 d (.xd [(("at" : Str), v)]))
theorem pmk_low_LA {a : Expr} {ta : TA} {p pos : Pos} {k : Nat} (T : PySem.LA.LowTxt X.K X.mg nX qX C fI) (hr : Room k X.A) (ha : PA X [a] ta) (hdb : (nX == ("__debug__" : Str)) = false) (hg : Gl X nX := by rfl)
    (he : starEach (a :: []) X.env = (false, eval a X.env) :: starEach [] X.env := by rfl) (hpl : (backTo pos (starEach [] X.env)).any (·.1) = false := by rfl) :
    L2N.PMk X (.Call (.Name nX p) [a] [] pos) (tMkLow_LA C ta) := by
  intro pins s σ H Q I h
  refine wpAny_Call_Name_kw (ld_glob I hg T.gC ?_ hdb)
  refine PySem.W.callWith_K (h₀ := X.base) I.ok.mod.kin T.kC (thn (ha.run pos pins s σ H _ I h) fun us s1 hh => ?_) he hpl
  obtain ⟨vs, H1, I1, r1, v, ev, q1⟩ := hh
  subst ev
  refine ⟨I1.kIn, ?_⟩
  cases r1 with
  | cons rv rn =>
    rename_i v' us'
    cases rn
    show wpAny _ _ (call (.ref C) [v']) _ _ _
    have hlim := I1.nolimit
    obtain ⟨hp, g, dr, tk, os⟩ := s1
    refine wpAny_call (PySem.LA.low_made T I1.kIn hlim (by have := hr.dp; omega) fun h' tk' e d M => ?_)
    show L2N.MkP X pins σ Q (.ref e) ⟨h', g, dr, tk', os⟩
    obtain ⟨oe, fv, hoe, hc, hd, hdat, h1, h2⟩ := M.obj
    have hns := M.ns
    obtain ⟨G', g1, g2⟩ := restrict h' fun b => decide (b ≠ e)
    have gk : ∀ b, b ≠ e → G'.get? b = h'.get? b := fun b hb => g1 b (decide_eq_true hb)
    have ge : G'.get? e = none := g2 e (by simp)
    have old : ∀ b o, hp.get? b = some o → G'.get? b = some o := fun b o q => (gk b (Nat.ne_of_lt (Nat.lt_of_lt_of_le (Heap.lt_size q) M.new))).trans (M.keep b o q)
    have ob : ObjOk X.prog X.w (upd H1 d (.xd [(("at" : Str), v)])) G' d (.xd [(("at" : Str), v)]) :=
      ⟨_, hns.at (fun o q => (gk d M.dne).trans q), fun f => relO_low_LA rv f⟩
    have J : Inv X pins σ (upd H1 d (.xd [(("at" : Str), v)])) ⟨G', g, dr, tk', os⟩ := I1.laid (t' := tk') old M.dbig ob
    refine ⟨e, oe, fv, ⟨G', g, dr, tk', os⟩, _, .ref C, some d, rfl, J, fun b o q => ?_, ge, hoe, ⟨hc, hd, fun vs e => by rw [hdat] at e; cases e; exact h2⟩, hdat, h1, ?_, rfl, I1.bare, raises_own T.exC T.tyC, q1 d (I1.hok.fresh M.dbig)⟩
    · by_cases hb : b = e
      · have q' : G'.get? b = some o := q
        rw [hb, ge] at q'; cases q'
      · exact (gk b hb).symm.trans q
    · rw [upd_ne (Ne.symm M.dne)]
      exact I1.hok.fresh M.new
/-- raise Low(e) -/
def tRaiseLow_LA (C : Addr) (W : WX) (ta : TA) : TS := fun _ σ H => tMkLow_LA C ta σ H fun cls d H' => W cls d σ H'
theorem ps_raiseLow_LA {a : Expr} {ta : TA} {W : WX} {p pos pos2 : Pos} {k : Nat} (hc : X.calm = true) (T : PySem.LA.LowTxt X.K X.mg nX qX C fI) (hr : Room k X.A) (tk : L2N.Takes X W) (ha : PA X [a] ta) (hdb : (nX == ("__debug__" : Str)) = false) (hg : Gl X nX := by rfl)
    (he : starEach (a :: []) X.env = (false, eval a X.env) :: starEach [] X.env := by rfl) (hpl : (backTo pos (starEach [] X.env)).any (·.1) = false := by rfl) :
    PS X (.Raise (some (.Call (.Name nX p) [a] [] pos)) none pos2) (tRaiseLow_LA C W ta) := L2N.ps_raise hc tk (pmk_low_LA T hr ha hdb hg he hpl)
/-- low.by, low the exception that the suite holds (at a; its class cls, its dict d) -/
def tByLow_LA (C : Addr) (a : Addr) (cls : Value) (d : Option Addr) (te : TE) : TE := fun σ H Q => te σ H fun x H1 => x = .ref a ∧ cls = .ref C ∧ ∃ (dd : Addr) (v : V), d = some dd ∧ H1 dd = some (.xd [(("at" : Str), v)]) ∧ Q v H1
theorem pe_byLow_LA {a : Addr} {oe : Obj} {cls : Value} {d : Option Addr} {pn : List (Addr × Obj)} {e : Expr} {te : TE} {pos : Pos} (T : PySem.LA.LowTxt X.K X.mg nX qX C fI) (hz : Zc cls d oe) (hf : ∃ vs, oe.data = .fields vs) (he : PE (X.suite a ((a, oe) :: pn)) e te)
    (hb : attributeBase e "at" X.env (eval e X.env) = eval e X.env := by rfl) :
    PE (X.suite a ((a, oe) :: pn)) (.Attribute e "at" pos) (tByLow_LA C a cls d te) := by
  refine ⟨fun pins s σ H Q I h => ?_⟩
  refine attr_of hb (thn (he.run pins s σ H _ I h) fun u s1 hh => ?_)
  obtain ⟨x, H1, I1, rx, ex, ec, dd, v, ed, ea, q⟩ := hh
  subst ex
  obtain rfl : u = Value.ref a := rx
  subst ec
  subst ed
  obtain ⟨ha, _⟩ := I1.pin (a, oe) (List.mem_append_left _ List.mem_cons_self)
  obtain ⟨vs, hd⟩ := hf
  have hx : ObjOk X.prog X.w H1 s1.heap dd (.xd [(("at" : Str), v)]) := I1.hok dd _ ea
  obtain ⟨mA, hns, hr⟩ := hx
  obtain ⟨od, ho, hl⟩ := lookIn_ns hns
  have l : List.lookup ("at" : Str) [(("at" : Str), v)] = some v := by simp [List.lookup]
  obtain ⟨u, hu, ru⟩ := RelO.some_of (v := v) (o := mA "at") (by rw [← l]; exact hr "at")
  have J : PySem.W.InstAt s1.heap a oe C (some od) := ⟨ha, hz.1, by unfold PySem.W.notCls; rw [hd] <;> rfl, by rw [hz.2]; exact ho⟩
  exact HandSPX.exc_get I1.kIn J T.ga T.gg T.exC (PySem.W.findObj_own T.hdC T.noN rfl (by rw [hl, hu])) (handed_of ru) ⟨v, H1, I1.tok _, ru, q⟩
end
end L2


namespace PySem
namespace LV
open PySem.W PySem.Calls PyProof.Rows PySem.HandSPX
/-! ### the text of __init__ -/
def iA (p1 p2 : Pos) : Arguments := { posonlyargs := [], args := [{ arg := "self", annotation := none, pos := p1 }, { arg := "value", annotation := none, pos := p2 }], vararg := none, kwonlyargs := [], kw_defaults := [], kwarg := none, defaults := [] }
def iB (q1 q2 q3 q4 : Pos) : List Stmt := [.Assign [.Attribute (.Name "self" q1) "value" q2] (.Name "value" q3) q4]
def iS : Scope := { kind := .function, names := [(PySem.Str.ofString "self", .local), (PySem.Str.ofString "value", .local)], isGenerator := false, isCoroutine := false, more := [] }
/-- what the written part says of Low, at C, and of its __init__, at fI -/
structure LowTxt (K : Frag) (mg : Str → Option Value) (nX qX : Str) (C fI : Addr) : Prop where
  gC : mg nX = some (.ref C)
  cls : ∃ nm q N bs bm sn sub ab col dd k0 k1 k2 k3 k5, K.lookup C = some (excClassObj nm q C N bs bm true sn sub ab col dd k0 k1 k2 k3 k5 "ValueError.__new__") ∧ refsVE bm = true
  sa : findIn K (.ref C) "__setattr__" = some (some (.builtin "object.__setattr__"))
  ga : findIn K (.ref C) "__getattribute__" = some (some (.builtin "BaseException.__getattribute__"))
  gg : findIn K (.ref C) "__getattr__" = some none
  noN : findIn K (.ref C) "value" = some none
  iC : findIn K (.ref C) "__init__" = some (some (.ref fI))
  tC : typeIn K (.ref fI) = some (.type "function")
  kC : keepIn K (.ref C) = true
  exC : subIn K (.ref C) (.type "BaseException") = some true
  tyC : typeIn K (.ref C) = some (.type "type")
  hdC : hasDictIn K C = true
  te : exmOne K (.ref C) (.ref C) = some true
  fn : ∃ (oc : Value) (od : Option Addr) (doc pm : Value) (an : Option Addr) (cdv ct : Value) (osl : Array (Option Value)) (p1 p2 q1 q2 q3 q4 : Pos),
    K.lookup fI = some ⟨oc, od, .func (fnOf "__init__" qX (iA p1 p2) (iB q1 q2 q3 q4) iS .none .none doc pm an cdv ct), osl⟩ ∧ codeIn K cdv qX = true
theorem one_size (v : Value) : [v].length ≤ sizeLine := by
  rw [sizeLine_eq]
  exact (by decide : 1 ≤ 16777216)
theorem kept_but {K : Frag} {h h' : Heap} {x : Addr} (X : K.In h) (hx : K.lookup x = none) (k : ∀ b o, b ≠ x → h.get? b = some o → h'.get? b = some o) : K.In h' := fun a o e =>
  k a o (fun z => by rw [z, hx] at e; cases e) (X a o e)
theorem ldC {M : Model} {s : Shared} {name : Str} {scope : Scope} {L a : Addr} {cd : Value} {m : Str → Option Value} {x : Str} {pos : Pos} {v : Value} {Q : Value → Shared → Prop} {A : Around} {E : Value → Shared → Prop} (hn : s.heap.Ns L m) (hv : m x = some v) (h : Q v s)
    (hk : scope.kind = .function := by rfl) (hl : (envOfC name scope L a cd).kindOf x = some .local := by rfl) (hd : (x == ("__debug__" : Str)) = false := by decide) :
    wpAny M A (eval (.Name x pos) (envOfC name scope L a cd)) Q E s := wpAny_Name (wpAny_loadName_local hk hl hn hv h) hd
/-- what __init__ leaves of a fresh exception at x -/
structure InitEnd (h h' : Heap) (x C dx t1 : Addr) (v : Value) : Prop where
  keep : ∀ b o, b ≠ x → h.get? b = some o → h'.get? b = some o
  obj : h'.get? x = some { cls := .ref C, dict := some dx, data := .fields #[.ref t1, .none, .none, .none, .bool false, .none] }
  dbig : h.objs.size ≤ dx
  dne : dx ≠ x
  ns : h'.Ns1 dx (fun y => if y = "value" then some v else none)
/-- a made Low -/
structure OwnMade (h h' : Heap) (e C d : Addr) (v : Value) : Prop where
  keep : ∀ b o, h.get? b = some o → h'.get? b = some o
  new : h.objs.size ≤ e
  obj : ∃ oe vs, h'.get? e = some oe ∧ oe.cls = .ref C ∧ oe.dict = some d ∧ oe.data = .fields vs ∧ vs[1]? = some .none ∧ vs[2]? = some .none
  dbig : h.objs.size ≤ d
  dne : d ≠ e
  ns : h'.Ns1 d (fun y => if y = "value" then some v else none)
section
variable {prog : Program} {w : World} {A : Around} {E : Value → Shared → Prop} {R : Result → Shared → Prop} {s : Shared} {K : Frag} {mg : Str → Option Value} {nX qX : Str} {C fI : Addr}
theorem low_init (T : LowTxt K mg nX qX C fI) {x t0 : Addr} {v : Value} (X : K.In s.heap) (hlim : s.heap.NoLimit) (hx : s.heap.get? x = some (excO C t0)) (hnx : K.lookup x = none) (hroom : A.depth < recursionLimit)
    (hq : ∀ h' tk dx, InitEnd s.heap h' x C dx t0 v → R (.ok (.ret .none)) { s with heap := h', toks := tk }) :
    codeAny (model prog w) A (.call (.ref fI) ⟨[.ref x, v], []⟩) R s := by
  obtain ⟨oc, od, doc, pm, an, cdv, ct, osl, p1, p2, q1, q2, q3, q4, ho, hcd⟩ := T.fn
  obtain ⟨nm, q, N, bs, bm, sn, sub, ab, col, dd, k0, k1, k2, k3, k5, hC, hbm⟩ := T.cls
  have hcl : clsIn K C = some { name := nm, bases := bs, mro := .ref C :: bm, ns := N, qualname := q, hasDict := true, slotNames := sn, subclasses := sub, abstract := ab, collection := col, hasDel := false } := by unfold clsIn; rw [hC] <;> rfl
  refine Att.call_fn (binds := [("self", .ref x), ("value", v)]) X hlim ho hcd hroom (BindsTo.of_eq (by first | rfl | with_unfolding_all rfl)) (by first | rfl | decide | with_unfolding_all rfl) (fun s₁ IC => ?_) rfl rfl rfl
  obtain ⟨h₁, tk₁, rfl⟩ := IC.toInCall.same
  have k : ∀ b o, s.heap.get? b = some o → h₁.get? b = some o := IC.toInCall.keep
  have hn := IC.toInCall.ns
  have hxL : s.heap.objs.size ≠ x := Nat.ne_of_gt (Heap.lt_size hx)
  have X₁ : K.In h₁ := X.keeps k
  have hx₁ := k _ _ hx
  -- self.by = by
  show wpAny _ _ (execs _ _) _ _ _
  refine wpAny_execs_cons (plainObj_wpAny_Assign_Attribute ?_)
  refine ldC (v := v) hn (by first | rfl | with_unfolding_all rfl | kernel_rfl) (ldC (v := .ref x) hn (by first | rfl | with_unfolding_all rfl | kernel_rfl) ?_)
  refine set_plain X₁ (ox := excO C t0) (od := none) ⟨hx₁, rfl, rfl, trivial⟩ T.sa ?_
  refine exc_osa X₁ hx₁ hcl (show refsVE (.ref C :: bm) = true from hbm) rfl T.noN (fun h₃ tk₃ dx k₃ dn dne hx₃ hn₃ => ?_)
  show wpAny _ _ (execs _ _) _ _ _
  have z : s.heap.objs.size < h₁.objs.size := hn.lt
  exact wpAny_execs_nil (hq h₃ tk₃ dx ⟨fun b o hb e => k₃ b o hb (k b o e), hx₃, Nat.le_of_lt (Nat.lt_of_lt_of_le z dn), dne, hn₃⟩)
theorem low_made (T : LowTxt K mg nX qX C fI) {v : Value} (X : K.In s.heap) (hlim : s.heap.NoLimit) (hroom : A.depth + 1 < recursionLimit)
    (hq : ∀ h' tk e d, OwnMade s.heap h' e C d v → R (.ok (.ret (.ref e))) { s with heap := h', toks := tk }) :
    codeAny (model prog w) A (.call (.ref C) ⟨[v], []⟩) R s := by
  obtain ⟨nm, q, N, bs, bm, sn, sub, ab, col, dd, k0, k1, k2, k3, k5, hC, hbm⟩ := T.cls
  obtain ⟨hp, g, dr, tk, os⟩ := s
  have k : ∀ b o, hp.get? b = some o → ((hp.push (kdv_tup [v])).push (excO C hp.objs.size)).get? b = some o := fun b o e => Heap.get?_push_of_some _ (Heap.get?_push_of_some _ e)
  have hget : ((hp.push (kdv_tup [v])).push (excO C hp.objs.size)).get? (hp.objs.size + 1) = some (excO C hp.objs.size) := by heap_get
  have hnx : K.lookup (hp.objs.size + 1) = none := by
    cases e : K.lookup (hp.objs.size + 1) with
    | none => rfl
    | some o =>
      have z : hp.get? (hp.objs.size + 1) = some o := X _ _ e
      exact absurd (Nat.lt_of_succ_lt (Heap.lt_size z)) (Nat.lt_irrefl _)
  refine call_own F.excBase_ValueError (fun X => refsVE_contains X bm hbm) (X _ _ hC) (looks_findIn X T.iC) (fun self => bind_fn X self T.tC) (one_size v) ?_
  refine low_init (s := ⟨(hp.push (kdv_tup [v])).push (excO C hp.objs.size), g, dr, tk, os⟩) T (X.keeps k) (hlim.keeps k) hget hnx ?_ fun h' tk' dx ⟨k', hx, dn, dne, hns⟩ => ?_
  · show A.depth + 1 < recursionLimit
    exact hroom
  · have old : ∀ b o, hp.get? b = some o → h'.get? b = some o := fun b o e => k' b o (Nat.ne_of_lt (Nat.lt_succ_of_lt (Heap.lt_size e))) (k b o e)
    have z : hp.objs.size + 1 + 1 ≤ dx := by
      first
        | (simpa only [Heap.size_push] using dn)
        | exact dn
        | (have q := dn; rw [Heap.size_push, Heap.size_push] at q; exact q)
    exact ⟨rfl, hq h' tk' (hp.objs.size + 1) dx ⟨old, Nat.le_succ _, ⟨_, _, hx, rfl, rfl, rfl, rfl, rfl⟩, Nat.le_trans (Nat.le_trans (Nat.le_succ _) (Nat.le_succ _)) z, dne, hns⟩⟩
end
end LV
end PySem
namespace L2
open PySem PySem.Spec PyProof.Rows
theorem relO_low_LV {v : V} {v' : Value} (r : RelV v v') (f : Str) : RelO (List.lookup f [(("value" : Str), v)]) (if f = "value" then some v' else none) := by
  by_cases hw : f = "value"
  · subst hw
    rw [if_pos rfl]
    have q : List.lookup ("value" : Str) [(("value" : Str), v)] = some v := by simp [List.lookup]
    rw [q]
    exact r
  · rw [if_neg hw]
    have qw : (f == ("value" : Str)) = false := by simpa using hw
    have q2 : List.lookup f [(("value" : Str), v)] = none := by simp [List.lookup, qw]
    rw [q2]
    trivial
section
variable {X : Cx} {nX qX : Str} {C fI : Addr}
/-- Low(e) -/
def tMkLow_LV (C : Addr) (ta : TA) : St → Hp → XK → Prop := fun σ H Q => ta σ H fun vs H1 => ∃ v, vs = [v] ∧ ∀ d, H1 d = none → Q (.ref C) (some d) (upd H1 d (.xd [(("value" : Str), v)]))
theorem pmk_low_LV {a : Expr} {ta : TA} {p pos : Pos} {k : Nat} (T : PySem.LV.LowTxt X.K X.mg nX qX C fI) (hr : Room k X.A) (ha : PA X [a] ta) (hdb : (nX == ("__debug__" : Str)) = false) (hg : Gl X nX := by rfl)
    (he : starEach (a :: []) X.env = (false, eval a X.env) :: starEach [] X.env := by rfl) (hpl : (backTo pos (starEach [] X.env)).any (·.1) = false := by rfl) :
    L2N.PMk X (.Call (.Name nX p) [a] [] pos) (tMkLow_LV C ta) := by
  intro pins s σ H Q I h
  refine wpAny_Call_Name_kw (ld_glob I hg T.gC ?_ hdb)
  refine PySem.W.callWith_K (h₀ := X.base) I.ok.mod.kin T.kC (thn (ha.run pos pins s σ H _ I h) fun us s1 hh => ?_) he hpl
  obtain ⟨vs, H1, I1, r1, v, ev, q1⟩ := hh
  subst ev
  refine ⟨I1.kIn, ?_⟩
  cases r1 with
  | cons rv rn =>
    rename_i v' us'
    cases rn
    show wpAny _ _ (call (.ref C) [v']) _ _ _
    have hlim := I1.nolimit
    obtain ⟨hp, g, dr, tk, os⟩ := s1
    refine wpAny_call (PySem.LV.low_made T I1.kIn hlim (by have := hr.dp; omega) fun h' tk' e d M => ?_)
    show L2N.MkP X pins σ Q (.ref e) ⟨h', g, dr, tk', os⟩
    obtain ⟨oe, fv, hoe, hc, hd, hdat, h1, h2⟩ := M.obj
    have hns := M.ns
    obtain ⟨G', g1, g2⟩ := restrict h' fun b => decide (b ≠ e)
    have gk : ∀ b, b ≠ e → G'.get? b = h'.get? b := fun b hb => g1 b (decide_eq_true hb)
    have ge : G'.get? e = none := g2 e (by simp)
    have old : ∀ b o, hp.get? b = some o → G'.get? b = some o := fun b o q => (gk b (Nat.ne_of_lt (Nat.lt_of_lt_of_le (Heap.lt_size q) M.new))).trans (M.keep b o q)
    have ob : ObjOk X.prog X.w (upd H1 d (.xd [(("value" : Str), v)])) G' d (.xd [(("value" : Str), v)]) :=
      ⟨_, hns.at (fun o q => (gk d M.dne).trans q), fun f => relO_low_LV rv f⟩
    have J : Inv X pins σ (upd H1 d (.xd [(("value" : Str), v)])) ⟨G', g, dr, tk', os⟩ := I1.laid (t' := tk') old M.dbig ob
    refine ⟨e, oe, fv, ⟨G', g, dr, tk', os⟩, _, .ref C, some d, rfl, J, fun b o q => ?_, ge, hoe, ⟨hc, hd, fun vs e => by rw [hdat] at e; cases e; exact h2⟩, hdat, h1, ?_, rfl, I1.bare, raises_own T.exC T.tyC, q1 d (I1.hok.fresh M.dbig)⟩
    · by_cases hb : b = e
      · have q' : G'.get? b = some o := q
        rw [hb, ge] at q'; cases q'
      · exact (gk b hb).symm.trans q
    · rw [upd_ne (Ne.symm M.dne)]
      exact I1.hok.fresh M.new
/-- raise Low(e) -/
def tRaiseLow_LV (C : Addr) (W : WX) (ta : TA) : TS := fun _ σ H => tMkLow_LV C ta σ H fun cls d H' => W cls d σ H'
theorem ps_raiseLow_LV {a : Expr} {ta : TA} {W : WX} {p pos pos2 : Pos} {k : Nat} (hc : X.calm = true) (T : PySem.LV.LowTxt X.K X.mg nX qX C fI) (hr : Room k X.A) (tk : L2N.Takes X W) (ha : PA X [a] ta) (hdb : (nX == ("__debug__" : Str)) = false) (hg : Gl X nX := by rfl)
    (he : starEach (a :: []) X.env = (false, eval a X.env) :: starEach [] X.env := by rfl) (hpl : (backTo pos (starEach [] X.env)).any (·.1) = false := by rfl) :
    PS X (.Raise (some (.Call (.Name nX p) [a] [] pos)) none pos2) (tRaiseLow_LV C W ta) := L2N.ps_raise hc tk (pmk_low_LV T hr ha hdb hg he hpl)
/-- low.by, low the exception that the suite holds (at a; its class cls, its dict d) -/
def tByLow_LV (C : Addr) (a : Addr) (cls : Value) (d : Option Addr) (te : TE) : TE := fun σ H Q => te σ H fun x H1 => x = .ref a ∧ cls = .ref C ∧ ∃ (dd : Addr) (v : V), d = some dd ∧ H1 dd = some (.xd [(("value" : Str), v)]) ∧ Q v H1
theorem pe_byLow_LV {a : Addr} {oe : Obj} {cls : Value} {d : Option Addr} {pn : List (Addr × Obj)} {e : Expr} {te : TE} {pos : Pos} (T : PySem.LV.LowTxt X.K X.mg nX qX C fI) (hz : Zc cls d oe) (hf : ∃ vs, oe.data = .fields vs) (he : PE (X.suite a ((a, oe) :: pn)) e te)
    (hb : attributeBase e "value" X.env (eval e X.env) = eval e X.env := by rfl) :
    PE (X.suite a ((a, oe) :: pn)) (.Attribute e "value" pos) (tByLow_LV C a cls d te) := by
  refine ⟨fun pins s σ H Q I h => ?_⟩
  refine attr_of hb (thn (he.run pins s σ H _ I h) fun u s1 hh => ?_)
  obtain ⟨x, H1, I1, rx, ex, ec, dd, v, ed, ea, q⟩ := hh
  subst ex
  obtain rfl : u = Value.ref a := rx
  subst ec
  subst ed
  obtain ⟨ha, _⟩ := I1.pin (a, oe) (List.mem_append_left _ List.mem_cons_self)
  obtain ⟨vs, hd⟩ := hf
  have hx : ObjOk X.prog X.w H1 s1.heap dd (.xd [(("value" : Str), v)]) := I1.hok dd _ ea
  obtain ⟨mA, hns, hr⟩ := hx
  obtain ⟨od, ho, hl⟩ := lookIn_ns hns
  have l : List.lookup ("value" : Str) [(("value" : Str), v)] = some v := by simp [List.lookup]
  obtain ⟨u, hu, ru⟩ := RelO.some_of (v := v) (o := mA "value") (by rw [← l]; exact hr "value")
  have J : PySem.W.InstAt s1.heap a oe C (some od) := ⟨ha, hz.1, by unfold PySem.W.notCls; rw [hd] <;> rfl, by rw [hz.2]; exact ho⟩
  exact HandSPX.exc_get I1.kIn J T.ga T.gg T.exC (PySem.W.findObj_own T.hdC T.noN rfl (by rw [hl, hu])) (handed_of ru) ⟨v, H1, I1.tok _, ru, q⟩
end
end L2

namespace Y
open PySem PySem.Spec PyProof.Rows L2
/-! ### errors -/
def rRaise (n : String) (F : Str) (ra : RA) : RSt := fun D σ S => ra σ S (fun ds S1 => match ds with | [x] => D.ex n [(F, x)] σ S1 | _ => False) (D.x σ)
def rNever : RSt := fun _ _ _ => False
def rCallX (sp : Sq) (ra : RA) : RE := fun σ S Q E => ra σ S (fun ds S1 => sp ds S1 Q E) E
section
variable {X : Cx} {W : WX} {e a : Expr} {es : List Expr} {ra : RA} {x : Str} {p pos pos2 : Pos} {n : String} {qX : Str} {C fI : Addr} {k : Nat}
theorem es_never {st : Stmt} : ES X W st rNever := ⟨_, ps_never, fun _ _ _ _ _ _ _ _ h _ => h.elim⟩
theorem es_raiseA (T : PySem.LA.LowTxt X.K X.mg (Str.ofString n) qX C fI) (cn : CN X.K n C) (hc : X.calm = true) (hr : Room k X.A) (tk : L2N.Takes X W) (ha : EA X W [a] ra) (hdb : ((Str.ofString n) == ("__debug__" : Str)) = false := by decide) (hg : Gl X (Str.ofString n) := by rfl)
    (he : starEach (a :: []) X.env = (false, eval a X.env) :: starEach [] X.env := by rfl) (hpl : (backTo pos (starEach [] X.env)).any (·.1) = false := by rfl) :
    ES X W (.Raise (some (.Call (.Name (Str.ofString n) p) [a] [] pos)) none pos2) (rRaise n "at" ra) := by
  obtain ⟨Ta, pa, la⟩ := ha.ex
  refine ⟨_, ps_raiseLow_LA hc T hr tk pa hdb hg he hpl, fun σ σ' H S D D' rs rh h d => ?_⟩
  refine la σ σ' H S _ _ _ rs rh h (fun ds S1 v H1 f1 rh1 dv h1 => ?_) (d.xi rh rs)
  match ds, dv, h1 with
  | [x], .cons (v := v) dx .nil, h1 =>
    refine ⟨v, rfl, fun dd hd => ?_⟩
    have f2 : Fr S1 H1 S1 (upd H1 dd (.xd [(("at" : Str), v)])) := Fr.new rh1 hd
    have t2 := f2.tle rh1
    refine d.ex n C _ _ S1 σ _ dd cn (f1.trans f2) (rh1.new hd) (rs.mono ((f1.trans f2).tle rh)) ⟨_, upd_same, .cons (DV.mono t2 _ _ dx) .nil⟩ ⟨fun o e z => ?_, rh1.fresh hd⟩ h1
    have := (f1 dd o e z).1
    rw [hd] at this; cases this
theorem es_raiseV (T : PySem.LV.LowTxt X.K X.mg (Str.ofString n) qX C fI) (cn : CN X.K n C) (hc : X.calm = true) (hr : Room k X.A) (tk : L2N.Takes X W) (ha : EA X W [a] ra) (hdb : ((Str.ofString n) == ("__debug__" : Str)) = false := by decide) (hg : Gl X (Str.ofString n) := by rfl)
    (he : starEach (a :: []) X.env = (false, eval a X.env) :: starEach [] X.env := by rfl) (hpl : (backTo pos (starEach [] X.env)).any (·.1) = false := by rfl) :
    ES X W (.Raise (some (.Call (.Name (Str.ofString n) p) [a] [] pos)) none pos2) (rRaise n "value" ra) := by
  obtain ⟨Ta, pa, la⟩ := ha.ex
  refine ⟨_, ps_raiseLow_LV hc T hr tk pa hdb hg he hpl, fun σ σ' H S D D' rs rh h d => ?_⟩
  refine la σ σ' H S _ _ _ rs rh h (fun ds S1 v H1 f1 rh1 dv h1 => ?_) (d.xi rh rs)
  match ds, dv, h1 with
  | [x], .cons (v := v) dx .nil, h1 =>
    refine ⟨v, rfl, fun dd hd => ?_⟩
    have f2 : Fr S1 H1 S1 (upd H1 dd (.xd [(("value" : Str), v)])) := Fr.new rh1 hd
    have t2 := f2.tle rh1
    refine d.ex n C _ _ S1 σ _ dd cn (f1.trans f2) (rh1.new hd) (rs.mono ((f1.trans f2).tle rh)) ⟨_, upd_same, .cons (DV.mono t2 _ _ dx) .nil⟩ ⟨fun o e z => ?_, rh1.fresh hd⟩ h1
    have := (f1 dd o e z).1
    rw [hd] at this; cases this
/-- a def that may raise is called -/
theorem ev_callX {fa : Addr} {fd : FuncData} {ps : List Str} {sp : Sq} (F : FnOk X.prog X.w X.K X.mg X.base (L2N.CX X.prog X.w) k fa fd ps (dn X.K sp)) (hr : Room k X.A) (tk : L2N.Takes X W) (hm : X.mg x = some (.ref fa)) (hk : PySem.W.keepIn X.K (.ref fa) = true) (hb : Binds X.K fd ps [])
    (ha : EA X W (e :: es) ra) (hg : Gl X x := by rfl) (hdb : (x == ("__debug__" : Str)) = false := by decide) (he : starEach (e :: es) X.env = (false, eval e X.env) :: starEach es X.env := by rfl) (hpl : (backTo pos (starEach es X.env)).any (·.1) = false := by rfl) :
    EV X W (.Call (.Name x p) (e :: es) [] pos) (rCallX sp ra) := by
  obtain ⟨Ta, pa, la⟩ := ha.ex
  refine ⟨_, pe_callS F hr hg hm hk hb (fun σ => L2N.passAt tk σ) pa hdb he hpl, fun σ σ' H S Q Q' E' rs rh h q xi => ?_⟩
  refine la σ σ' H S _ _ E' rs rh h (fun d S1 v H1 f1 rh1 dv h1 => ?_) xi
  exact ⟨d, S1, Q', E', dv, rh1, h1, q.go f1, xi.go f1⟩
end
theorem Fun.okC {CX : CXT} {P : Program} {w : World} {K : PySem.W.Frag} {mg : Str → Option Value} {base : Heap} {x qual : Str} {st : Stmt} {f : Addr} {fd : FuncData} {N ps : List Str} {k : Nat} {sp : Sp} (F : Fun K x qual st f fd) (S : FnScope N ps (defScope st)) (len : ∀ vs H Q E, sp vs H Q E → vs.length = ps.length)
    (hbody : ∀ (cdv : Value) (A : Around) (outer : List Env) (s : Shared) (H : Hp) (vs : List V) (Q : VK) (E : XK), Room k (A.deeper (envOfC qual (defScope st) s.heap.objs.size f cdv)) → sp vs H Q E →
      ∃ t, PSs (cxOf CX P w K mg base N qual (defScope st) f cdv A outer s H E) (defBody st) t ∧ t { nx := fun _ H' => Q .non H', rt := Q } (L2.start N vs) H) : FnOk P w K mg base CX (k + 1) f fd ps sp := by
  obtain ⟨oc, od, kV, doc, pm, an, cdv, ct, osl, rfl, lk, hcd⟩ := F.ex
  exact fn_of lk hcd S len fun A outer s H vs Q E hr hsp => hbody cdv A outer s H vs Q E hr hsp
section
variable {P : Program} {w : World} {K : PySem.W.Frag} {mg : Str → Option Value} {base : Heap}
/-- a def that may raise -/
theorem fn_okX {x qual : Str} {st : Stmt} {f : Addr} {fd : FuncData} {N ps : List Str} {k : Nat} {sp : Sq} {t : RSt} (F : Fun K x qual st f fd) (Sc : FnScope N ps (defScope st)) (len : ∀ ds S Q E, sp ds S Q E → ds.length = ps.length)
    (hb : ∀ (cdv : Value) (A : Around) (outer : List Env) (s : Shared) (H : Hp) (E : XK), Room k (A.deeper (envOfC qual (defScope st) s.heap.objs.size f cdv)) → L2N.Takes (cxOf (L2N.CX P w) P w K mg base N qual (defScope st) f cdv A outer s H E) (fun cls d _ H => E cls d H) →
      EB (cxOf (L2N.CX P w) P w K mg base N qual (defScope st) f cdv A outer s H E) (fun cls d _ H => E cls d H) (defBody st) t)
    (pure' : ∀ ds S Q E, sp ds S Q E → t { nx := fun _ S => Q .non S, rt := Q, ex := fun n fs _ S => E n fs S } (start' N.length ds) S) : FnOk P w K mg base (L2N.CX P w) (k + 1) f fd ps (dn K sp) := by
  refine Y.Fun.okC F Sc (fun vs H Q E h => ?_) (fun cdv A outer s H vs Q E hr h => ?_)
  · obtain ⟨ds, S, Q', E', dv, _, h, _⟩ := h
    rw [← dv.length]
    exact len _ _ _ _ h
  · obtain ⟨ds, S, Q', E', dv, rh, h, q, xi⟩ := h
    obtain ⟨T, p, l⟩ := (hb cdv A outer s H E hr (L2N.takes_of rfl rfl rfl rfl)).ex
    refine ⟨T, p, ?_⟩
    refine l _ (start' N.length ds) H S _ _ (rs_start N dv) rh (pure' _ _ _ _ h) ⟨fun σ' S' σ H' f rh' rs h' => ?_, q, fun _ _ _ _ _ _ _ z => z.elim, fun _ _ _ _ _ _ _ z => z.elim, fun n C fs σ' S' σ H' d c f rh' rs' ok nw h' => xi n C fs S' H' d c f rh' ok nw h'⟩
    exact q _ _ _ _ f rh' .non h'
end
/-! ### try .. except -/
theorem RS.setN {K : PySem.W.Frag} {H : Hp} {σ' : Sg} {σ : L2.St} (x : RS K H σ' σ) (i : Nat) : RS K H (σ'.set i none) (σ.set i none) := RS.wipe x [i]
/-- D's ends, behind a suite whose name's slot i is forgotten -/
def En.wip (D : En) (i : Nat) : En := { nx := fun σ S => D.nx (σ.set i none) S, rt := D.rt, bk := fun σ S => D.bk (σ.set i none) S, ct := fun σ S => D.ct (σ.set i none) S, ex := fun _ _ _ _ => False }
/-- m: the class that the clause names; is: what is one of it -/
def rTryAs (m : String → Option Bool) (i : Nat) (rb : RSt) (rs : String → Addr → Addr → RSt) : RSt := fun D σ S =>
  rb { D with ex := fun n fs σ1 S1 => ∃ b, m n = some b ∧ (b = true → ∀ a dd, S1 dd = none → a ≠ dd → rs n a dd (D.wip i) (σ1.set i (some (.ref a))) (up S1 dd (.exd fs))) ∧ (b = false → D.ex n fs σ1 S1) } σ S
def rTryOnly (m : String → Option Bool) (rb : RSt) (rs : String → RSt) : RSt := fun D σ S =>
  rb { D with ex := fun n fs σ1 S1 => ∃ b, m n = some b ∧ (b = true → rs n { D with ex := fun _ _ _ _ => False } σ1 S1) ∧ (b = false → D.ex n fs σ1 S1) } σ S
/-- the except clause tells a class by m -/
def MOk (K : PySem.W.Frag) (c : Value) (m : String → Option Bool) : Prop := ∀ n C b, CN K n C → m n = some b → PySem.W.exmOne K (.ref C) c = some b
section
variable {X : Cx} {Wout : WX} {n x : Str} {c : Value} {body suite : List Stmt} {b₀ : Stmt} {pos pos' np : Pos} {rb : RSt} {rs : String → Addr → Addr → RSt} {m : String → Option Bool} {i : Nat}
theorem Fr.exd {S S' : Hq} {H H' : Hp} {d : Addr} {fs : List (Str × D)} (f : Fr S H S' H') (nw : Nw S H S' d) : Fr S H (up S' d (.exd fs)) H' := fun b o e z => by
  obtain ⟨e', z'⟩ := f b o e z
  have hb : b ≠ d := fun q => by subst q; exact nw.1 o e z
  exact ⟨e', by rw [up_ne hb]; exact z'⟩
theorem RH.exd {K : PySem.W.Frag} {S : Hq} {H : Hp} {d : Addr} {fs : List (Str × D)} (r : RH K S H) (ok : XOk K H d fs) : RH K (up S d (.exd fs)) H := fun b o e => by
  by_cases hb : b = d
  · subst hb; rw [up_same] at e; cases e; exact ok
  · rw [up_ne hb] at e
    obtain ⟨ys, hd, _⟩ := ok
    exact (r b o e).stay Tle.refl (fun c q e n => ⟨e, by rw [up_ne (fun z => by rw [z, hd] at e; cases e)]; exact n⟩) rfl
theorem es_tryAs (hs : X.stack = X.env :: X.outer) (hf : X.env.frame = some X.env.locals) (hN : X.N.Nodup) (hi : X.N[i]? = some n) (hln : X.env.kindOf n = some .local) (hc : Names X x c) (tk : L2N.Takes X Wout) (mo : MOk X.K c m)
    (hb : ∀ (W : WX) (pn : List (Addr × Obj)) (xe : Value → Shared → Prop), L2N.Takes (X.tr pn xe) W → PassesOwn (model X.prog X.w) X.A X.env xe → EB (X.tr pn xe) W body rb)
    (hsu : ∀ (cn : String) (C a : Addr) (oe : Obj) (d : Addr) (pn : List (Addr × Obj)), CN X.K cn C → L2N.Zn (.ref C) (some d) oe → (∃ vs, oe.data = .fields vs) → EB (X.suite a ((a, oe) :: pn)) W0 (b₀ :: suite) (rs cn a d)) :
    ES X Wout (.Try body [.ExceptHandler (some (.Name x np)) (some n) (b₀ :: suite) pos'] [] [] pos) (rTryAs m i rb rs) := by
  refine ⟨_, L2N.ps_try_as (tb := fun W => dnB X.K W rb) (ts := fun a cls d => fun D σ H => ∃ cn C dd, cls = .ref C ∧ d = some dd ∧ CN X.K cn C ∧ dnB X.K W0 (rs cn a dd) D σ H) (Wout := Wout) hs hf hN hi hln hc tk (fun W pn xe tk' po => (hb W pn xe tk' po).pe) (fun a oe cls d pn hz hf => ⟨fun pins s σ H D I h => ?_⟩), fun σ σ' H S D D' rs' rh h d => ?_⟩
  · obtain ⟨cn, C, dd, rfl, rfl, cc, h⟩ := h
    exact (hsu cn C a oe dd pn cc hz hf).pe.run pins s σ H D I h
  · refine ⟨σ', S, _, rs', rh, h, d.nx, d.rt, d.bk, d.ct, fun cn C fs σ1' S1 σ1 H1 dd cc f1 rh1 rs1 ok nw h1 => ?_⟩
    obtain ⟨b, eb, h2, h3⟩ := h1
    refine ⟨b, mo cn C b cc eb, fun hb' a ha => ?_, fun hb' => d.ex cn C fs σ1' S1 σ1 H1 dd cc f1 rh1 rs1 ok nw (h3 hb')⟩
    have had : a ≠ dd := fun z => by obtain ⟨ys, q, _⟩ := ok; rw [z, q] at ha; cases ha
    have f2 := f1.exd (fs := fs) nw
    have d2 := d.go f2
    refine ⟨cn, C, dd, rfl, rfl, cc, _, _, _, rs1.set (.ref a) i, rh1.exd ok, h2 hb' a dd nw.2 had, ⟨fun σ2' S2 σ2 H2 f3 rh2 rs2 h => d2.nx _ _ _ _ f3 rh2 (rs2.setN i) h, d2.rt, fun σ2' S2 σ2 H2 f3 rh2 rs2 h => d2.bk _ _ _ _ f3 rh2 (rs2.setN i) h, fun σ2' S2 σ2 H2 f3 rh2 rs2 h => d2.ct _ _ _ _ f3 rh2 (rs2.setN i) h, fun _ _ _ _ _ _ _ _ _ _ _ _ _ _ z => z.elim⟩⟩
theorem es_tryOnly {rs : String → RSt} (hs : X.stack = X.env :: X.outer) (hf : X.env.frame = some X.env.locals) (hc : Names X x c) (tk : L2N.Takes X Wout) (mo : MOk X.K c m)
    (hb : ∀ (W : WX) (pn : List (Addr × Obj)) (xe : Value → Shared → Prop), L2N.Takes (X.tr pn xe) W → PassesOwn (model X.prog X.w) X.A X.env xe → EB (X.tr pn xe) W body rb)
    (hsu : ∀ (cn : String) (C a : Addr) (oe : Obj) (d : Addr) (pn : List (Addr × Obj)), CN X.K cn C → L2N.Zn (.ref C) (some d) oe → (∃ vs, oe.data = .fields vs) → EB (X.suite a ((a, oe) :: pn)) W0 (b₀ :: suite) (rs cn)) :
    ES X Wout (.Try body [.ExceptHandler (some (.Name x np)) none (b₀ :: suite) pos'] [] [] pos) (rTryOnly m rb rs) := by
  refine ⟨_, L2N.ps_try_many (tb := fun W => dnB X.K W rb) (l := [(c, fun a cls d => fun D σ H => ∃ cn C dd, cls = .ref C ∧ d = some dd ∧ CN X.K cn C ∧ dnB X.K W0 (rs cn) D σ H)]) (Wout := Wout) hs hf tk (fun W pn xe tk' po => (hb W pn xe tk' po).pe) (.cons hc (fun a oe cls d pn hz hf => ⟨fun pins s σ H D I h => ?_⟩) .nil), fun σ σ' H S D D' rs' rh h d => ?_⟩
  · obtain ⟨cn, C, dd, rfl, rfl, cc, h⟩ := h
    exact (hsu cn C a oe dd pn cc hz hf).pe.run pins s σ H D I h
  · refine ⟨σ', S, _, rs', rh, h, d.nx, d.rt, d.bk, d.ct, fun cn C fs σ1' S1 σ1 H1 dd cc f1 rh1 rs1 ok nw h1 => ?_⟩
    obtain ⟨b, eb, h2, h3⟩ := h1
    refine ⟨b, mo cn C b cc eb, fun hb' a ha => ?_, fun hb' => d.ex cn C fs σ1' S1 σ1 H1 dd cc f1 rh1 rs1 ok nw (h3 hb')⟩
    have d2 := d.go f1
    exact ⟨cn, C, dd, rfl, rfl, cc, _, _, _, rs1, rh1, h2 hb', ⟨d2.nx, d2.rt, d2.bk, d2.ct, fun _ _ _ _ _ _ _ _ _ _ _ _ _ _ z => z.elim⟩⟩
end
/-! ### defs that are called within a suite -/
theorem hot_suite {X : Cx} {a : Addr} {oe : Obj} {cls : Value} {d : Option Addr} {pn : List (Addr × Obj)} (hz : L2N.Zn cls d oe) (hf : ∃ vs, oe.data = .fields vs) : L2H.HotC (X.suite a ((a, oe) :: pn)) :=
  ⟨(a, oe), ⟨rfl, hf.elim fun vs e => ⟨vs, e, hz.2.2 vs e⟩⟩, List.mem_cons_self⟩
theorem RoomH.mono' {j k : Nat} {A : Around} (r : L2H.RoomH k A) (h : j ≤ k) : L2H.RoomH j A := r.mono h
theorem fn_okH {P : Program} {w : World} {K : PySem.W.Frag} {mg : Str → Option Value} {base : Heap} {x qual : Str} {st : Stmt} {f : Addr} {fd : FuncData} {N ps : List Str} {k : Nat} {sp : Sq} {t : RSt} (F : Fun K x qual st f fd) (Sc : FnScope N ps (defScope st)) (len : ∀ ds S Q E, sp ds S Q E → ds.length = ps.length)
    (hb : ∀ (cdv : Value) (A : Around) (outer : List Env) (s : Shared) (H : Hp) (E : XK) (p : Addr × Obj), L2H.Hot1 A p → L2H.RoomH k (A.deeper (envOfC qual (defScope st) s.heap.objs.size f cdv)) →
      EB (L2H.cxH CX0 P w K mg base N qual (defScope st) f cdv A outer s H E p) W0 (defBody st) t)
    (pure' : ∀ ds S Q, sp ds S Q NoX → t { nx := fun _ S => Q .non S, rt := Q } (start' N.length ds) S) (nx : ∀ ds S Q E, sp ds S Q E → sp ds S Q NoX) : L2H.FnH P w K mg base CX0 (k + 1) f fd ps (dn K sp) := by
  obtain ⟨oc, od, kV, doc, pm, an, cdv, ct, osl, rfl, lk, hcd⟩ := F.ex
  refine L2H.fn_ofH lk hcd Sc (fun vs H Q E h => ?_) (fun A outer s H vs Q E p hot hr h => ?_)
  · obtain ⟨ds, S, Q', E', dv, _, h, _⟩ := h
    rw [← dv.length]
    exact len _ _ _ _ h
  · obtain ⟨ds, S, Q', E', dv, rh, h, q, xi⟩ := h
    obtain ⟨T, p, l⟩ := (hb cdv A outer s H E p hot hr).ex
    refine ⟨T, p, ?_⟩
    refine l _ (start' N.length ds) H S _ _ (rs_start N dv) rh (pure' _ _ _ (nx _ _ _ _ h)) ⟨fun σ' S' σ H' f rh' rs h' => ?_, q, fun _ _ _ _ _ _ _ z => z.elim, fun _ _ _ _ _ _ _ z => z.elim, fun _ _ _ _ _ _ _ _ _ _ _ _ _ _ z => z.elim⟩
    exact q _ _ _ _ f rh' .non h'
/-- .. is called -/
theorem ev_callH {X : Cx} {W : WX} {k : Nat} {x : Str} {fa : Addr} {fd : FuncData} {ps : List Str} {sp : Sq} {e : Expr} {es : List Expr} {ra : RA} {p pos : Pos} (F : L2H.FnH X.prog X.w X.K X.mg X.base CX0 k fa fd ps (dn X.K sp)) (hr : L2H.RoomH k X.A) (hc : L2H.HotC X) (hm : X.mg x = some (.ref fa)) (hk : PySem.W.keepIn X.K (.ref fa) = true) (hb : Binds X.K fd ps [])
    (ha : EA X W (e :: es) ra) (hg : Gl X x := by rfl) (hdb : (x == ("__debug__" : Str)) = false := by decide) (he : starEach (e :: es) X.env = (false, eval e X.env) :: starEach es X.env := by rfl) (hpl : (backTo pos (starEach es X.env)).any (·.1) = false := by rfl) :
    EV X W (.Call (.Name x p) (e :: es) [] pos) (rCall sp ra) := by
  obtain ⟨Ta, pa, la⟩ := ha.ex
  refine ⟨_, L2H.pe_callH (E := fun _ _ _ _ => False) F hr hc hg hm hk hb (fun σ _ _ _ _ _ _ c => False.elim c) pa hdb he hpl, fun σ σ' H S Q Q' E' rs rh h q xi => ?_⟩
  refine la σ σ' H S _ _ E' rs rh h (fun d S1 v H1 f1 rh1 dv h1 => ?_) xi
  exact ⟨d, S1, Q', NoX, dv, rh1, h1, q.go f1, XI.no⟩
end Y
set_option maxHeartbeats 2000000
namespace Y
open PySem PySem.Spec PyProof.Rows L2
/-! ### own objects -/
structure Kc (K : PySem.W.Frag) (n : String) (C : Addr) : Prop where
  cn : CN K n C
  cls : Cls K C
def putD (f : Str) (v : D) : List (Str × D) → List (Str × D)
  | [] => [(f, v)]
  | (g, x) :: r => if g = f then (g, v) :: r else (g, x) :: putD f v r
def fldD (n : String) (f : Str) (x : D) (S : Hq) (Q : Qv) : Prop := match x with
  | .ref a => ∃ fs d, S a = some (.ins n fs) ∧ fs.lookup f = some d ∧ Q d S
  | _ => False
def sfldD (n : String) (f : Str) (x y : D) (S : Hq) (N : Hq → Prop) : Prop := match x with
  | .ref a => ∃ fs, S a = some (.ins n fs) ∧ fs.length < 100 ∧ N (up S a (.ins n (putD f y fs)))
  | _ => False
def metD (n : String) (m : Str) (x : D) (S : Hq) (N : Prop) : Prop := match x with
  | .ref a => ∃ fs, S a = some (.ins n fs) ∧ fs.lookup m = none ∧ N
  | _ => False
def rFld (n : String) (f : Str) (ro : RE) : RE := fun σ S Q E => ro σ S (fun x S1 => fldD n f x S1 Q) E
def rSetF (n : String) (f : Str) (rv ro : RE) : RSt := fun D σ S => rv σ S (fun y S1 => ro σ S1 (fun x S2 => sfldD n f x y S2 (fun S3 => D.nx σ S3)) (D.x σ)) (D.x σ)
def rMet (n : String) (m : Str) (sp : Sq) (ro : RE) (ra : RA) : RE := fun σ S Q E => ro σ S (fun x S1 => metD n m x S1 (ra σ S1 (fun ds S2 => sp (x :: ds) S2 Q NoX) E)) E
def rMetX (n : String) (m : Str) (sp : Sq) (ro : RE) (ra : RA) : RE := fun σ S Q E => ro σ S (fun x S1 => metD n m x S1 (ra σ S1 (fun ds S2 => sp (x :: ds) S2 Q E) E)) E
def rMake (n : String) (sp : Sq) (ra : RA) : RE := fun σ S Q E => ra σ S (fun ds S1 => ∀ a, S1 a = none → sp (.ref a :: ds) (up S1 a (.ins n [])) (fun v S2 => v = .non ∧ Q (.ref a) S2) NoX) E
section
variable {X : Cx} {W : WX} {K : PySem.W.Frag} {H : Hp} {S : Hq}
theorem Fls.lookup {f : Str} : ∀ {fs : List (Str × D)} {ys : List (Str × V)}, Fls K H fs ys → ∀ {d : D}, fs.lookup f = some d → ∃ v, ys.lookup f = some v ∧ DV K H d v
  | _, _, .nil, _, e => by simp at e
  | (g, x) :: fs, (_, y) :: ys, .cons r t, d, e => by
    rw [List.lookup_cons] at e ⊢
    cases hb : f == g with
    | true => rw [hb] at e; cases e; exact ⟨y, rfl, r⟩
    | false => rw [hb] at e; exact Fls.lookup t e
theorem Fls.lookupN {f : Str} : ∀ {fs : List (Str × D)} {ys : List (Str × V)}, Fls K H fs ys → fs.lookup f = none → ys.lookup f = none
  | _, _, .nil, _ => rfl
  | (g, x) :: fs, (_, y) :: ys, .cons r t, e => by
    rw [List.lookup_cons] at e ⊢
    cases hb : f == g with
    | true => rw [hb] at e; cases e
    | false => rw [hb] at e; exact Fls.lookupN t e
theorem Fls.put {f : Str} {d : D} {v : V} (h : DV K H d v) : ∀ {fs : List (Str × D)} {ys : List (Str × V)}, Fls K H fs ys → Fls K H (putD f d fs) (putF f v ys)
  | _, _, .nil => .cons h .nil
  | (g, x) :: fs, (_, y) :: ys, .cons r t => by
    unfold putD putF
    by_cases c : g = f
    · rw [if_pos c, if_pos c]; exact .cons h t
    · rw [if_neg c, if_neg c]; exact .cons r (Fls.put h t)
theorem Fls.length : ∀ {fs : List (Str × D)} {ys : List (Str × V)}, Fls K H fs ys → fs.length = ys.length
  | _, _, .nil => rfl
  | _, _, .cons _ t => congrArg (· + 1) (Fls.length t)
variable {o e : Expr} {es : List Expr} {ro rv : RE} {ra : RA} {n : String} {C f : Addr} {k : Nat} {fd : FuncData} {ps : List Str} {sp : Sq} {F m : Str} {pos apos pos' : Pos}
theorem ev_fld (kc : Kc X.K n C) (na : NoAttr X.K C F) (ho : EV X W o ro) (hb : attributeBase o F X.env (eval o X.env) = eval o X.env := by rfl) : EV X W (.Attribute o F pos) (rFld n F ro) := by
  obtain ⟨T, p, l⟩ := ho.ex
  refine ⟨_, pe_fld p hb, fun σ σ' H S Q Q' E' rs rh h q xi => ?_⟩
  refine l σ σ' H S _ _ _ rs rh h (fun x S1 v H1 f1 rh1 dv h1 => ?_) xi
  cases dv with
  | ref a =>
    obtain ⟨fs, d, e, le, h1⟩ := h1
    obtain ⟨C', dx, ys, cn, g, r⟩ := rh1 a _ e
    cases cn.inj kc.cn
    obtain ⟨w, hw, dw⟩ := r.lookup le
    exact ⟨a, _, dx, ys, w, rfl, g, kc.cls, na, hw, (q.go f1).here rh1 dw h1⟩
  | _ => exact h1.elim
theorem es_fld {value : Expr} (kc : Kc X.K n C) (na : NoAttr X.K C F) (hv : EV X W value rv) (ho : EV X W o ro) (hs : swapsWith value (some (.Attribute o F pos')) pos.line X.env = pure false := by rfl) : ES X W (.Assign [.Attribute o F pos'] value pos) (rSetF n F rv ro) := by
  obtain ⟨T, p, l⟩ := ho.ex
  obtain ⟨Tv, pv, lv⟩ := hv.ex
  refine ⟨_, ps_fld p pv hs, fun σ σ' H S D D' rs rh h d => ?_⟩
  refine lv σ σ' H S _ _ _ rs rh h (fun y S1 u H1 f1 rh1 du h1 => ?_) (d.xi rh rs)
  refine l σ σ' H1 S1 _ _ _ (rs.mono (f1.tle rh)) rh1 h1 (fun x S2 v H2 f2 rh2 dv h2 => ?_) ((d.xi rh rs).go f1)
  cases dv with
  | ref a =>
    obtain ⟨fs, e, le, h2⟩ := h2
    obtain ⟨C', dx, ys, cn, g, r⟩ := rh2 a _ e
    cases cn.inj kc.cn
    have t : Tle X.K H2 (upd H2 a (.ins C dx (putF F u ys))) := rh2.putTle e
    have f3 := Fr.put (H := H2) (o := .ins C dx (putF F u ys)) (q := .ins n (putD F y fs)) e
    refine ⟨a, _, dx, ys, rfl, g, kc.cls, na, by rw [← r.length]; omega, ?_⟩
    refine d.nx _ _ _ _ ((f1.trans f2).trans f3) (rh2.put (q := .ins n (putD F y fs)) e ⟨_, dx, _, cn, upd_same, ?_⟩) (rs.mono (((f1.trans f2).trans f3).tle rh)) h2
    exact (r.put (DV.mono (f2.tle rh1) _ _ du)).mono t
  | _ => exact h2.elim
theorem ev_met {pl : Sem Bool} (kc : Kc X.K n C) (hm : Meth X.K C m f) (G : FnOk X.prog X.w X.K X.mg X.base CX0 k f fd ps (dn X.K sp)) (hr : Room k X.A) (hb : Binds X.K fd ps []) (ho : EV X W o ro) (ha : EA X W (e :: es) ra)
    (hst : starEach (e :: es) X.env = (false, eval e X.env) :: starEach es X.env := by rfl) (hpl : (backTo pos (starEach es X.env)).any (·.1) = false := by rfl)
    (ht : eval (.Call (.Attribute o m apos) (e :: es) [] pos) X.env = (do
      let ov ← eval o X.env
      standAt apos.atName
      let (f, first) ← holding [ov] (getMethod ov m pl)
      callWith pos f first (backTo pos (starEach (e :: es) X.env)) (backToKw pos (keywordEach [] X.env))) := by rfl) : EV X W (.Call (.Attribute o m apos) (e :: es) [] pos) (rMet n m sp ro ra) := by
  obtain ⟨T, p, l⟩ := ho.ex
  obtain ⟨Ta, pa, la⟩ := ha.ex
  refine ⟨_, pe_meth (E := fun _ _ _ => False) p kc.cls hm G hr hb .nil pass0 pa hst hpl ht, fun σ σ' H S Q Q' E' rs rh h q xi => ?_⟩
  refine l σ σ' H S _ _ _ rs rh h (fun x S1 v H1 f1 rh1 dv h1 => ?_) xi
  cases dv with
  | ref a =>
    obtain ⟨fs, e, le, h1⟩ := h1
    obtain ⟨C', dx, ys, cn, g, r⟩ := rh1 a _ e
    cases cn.inj kc.cn
    refine ⟨a, dx, ys, rfl, g, r.lookupN le, ?_⟩
    refine la σ σ' H1 S1 _ _ _ (rs.mono (f1.tle rh)) rh1 h1 (fun ds S2 vs H2 f2 rh2 dv h2 => ?_) (xi.go f1)
    rw [List.append_nil]
    exact ⟨_, S2, Q', NoX, .cons (.ref a) dv, rh2, h2, q.go (f1.trans f2), XI.no⟩
  | _ => exact h1.elim
theorem ev_met0 {pl : Sem Bool} (kc : Kc X.K n C) (hm : Meth X.K C m f) (G : FnOk X.prog X.w X.K X.mg X.base CX0 k f fd ps (dn X.K sp)) (hr : Room k X.A) (hb : Binds X.K fd ps []) (ho : EV X W o ro)
    (ht : eval (.Call (.Attribute o m apos) [] [] pos) X.env = (do
      let ov ← eval o X.env
      standAt apos.atName
      let (f, first) ← holding [ov] (getMethod ov m pl)
      callWith pos f first (backTo pos (starEach [] X.env)) (backToKw pos (keywordEach [] X.env))) := by rfl) : EV X W (.Call (.Attribute o m apos) [] [] pos) (rMet n m sp ro rNil) := by
  obtain ⟨T, p, l⟩ := ho.ex
  refine ⟨_, pe_meth0 (E := fun _ _ _ => False) p kc.cls hm G hr hb .nil pass0 ht, fun σ σ' H S Q Q' E' rs rh h q xi => ?_⟩
  refine l σ σ' H S _ _ _ rs rh h (fun x S1 v H1 f1 rh1 dv h1 => ?_) xi
  cases dv with
  | ref a =>
    obtain ⟨fs, e, le, h1⟩ := h1
    obtain ⟨C', dx, ys, cn, g, r⟩ := rh1 a _ e
    cases cn.inj kc.cn
    exact ⟨a, dx, ys, rfl, g, r.lookupN le, _, S1, Q', NoX, .cons (.ref a) .nil, rh1, h1, q.go f1, XI.no⟩
  | _ => exact h1.elim
/-- .. of a method that may raise -/
def tMethS (C : Addr) (m : Str) (sp : Sp) (W : WX) (ta : TE) (t : TA) : TE := fun σ H Q => ta σ H fun x H1 => ∃ a dx fs, x = .ref a ∧ H1 a = some (.ins C dx fs) ∧ fs.lookup m = none ∧
  t σ H1 fun vs H2 => sp (x :: vs) H2 Q (WE W σ)
theorem ev_metX {pl : Sem Bool} (kc : Kc X.K n C) (hm : Meth X.K C m f) (G : FnOk X.prog X.w X.K X.mg X.base (L2N.CX X.prog X.w) k f fd ps (dn X.K sp)) (hr : Room k X.A) (tk : L2N.Takes X W) (hb : Binds X.K fd ps []) (ho : EV X W o ro) (ha : EA X W (e :: es) ra)
    (hst : starEach (e :: es) X.env = (false, eval e X.env) :: starEach es X.env := by rfl) (hpl : (backTo pos (starEach es X.env)).any (·.1) = false := by rfl)
    (ht : eval (.Call (.Attribute o m apos) (e :: es) [] pos) X.env = (do
      let ov ← eval o X.env
      standAt apos.atName
      let (f, first) ← holding [ov] (getMethod ov m pl)
      callWith pos f first (backTo pos (starEach (e :: es) X.env)) (backToKw pos (keywordEach [] X.env))) := by rfl) : EV X W (.Call (.Attribute o m apos) (e :: es) [] pos) (rMetX n m sp ro ra) := by
  obtain ⟨T, p, l⟩ := ho.ex
  obtain ⟨Ta, pa, la⟩ := ha.ex
  refine ⟨tMethS C m (dn X.K sp) W T Ta, ⟨fun pins s σ H Q I h => ?_⟩, fun σ σ' H S Q Q' E' rs rh h q xi => ?_⟩
  · refine PySem.W.methodCall_KW (pl := pl) (thn (p.run pins s σ H _ I h) fun u s1 ⟨x, H1, I1, rx, a, dx, fs, ex, ea, l, q⟩ => ?_) ht
    subst ex
    obtain rfl : u = Value.ref a := rx
    refine getmeth_ok I1 ea kc.cls hm l ?_
    refine PySem.W.callWith_K (first := [.ref a]) (h₀ := X.base) I.ok.mod.kin hm.kp (thn (pa.run pos pins s1 σ H1 _ I1 q) fun us s2 ⟨vs, H2, I2, r, q2⟩ => ⟨I2.kIn, ?_⟩) hst hpl
    exact run_fnS (us := .ref a :: us) (vs := .ref a :: vs) (E := WE W) G hr hb (L2N.passAt tk σ) I2 (.cons rfl r) q2
  · refine l σ σ' H S _ _ _ rs rh h (fun x S1 v H1 f1 rh1 dv h1 => ?_) xi
    cases dv with
    | ref a =>
      obtain ⟨fs, e, le, h1⟩ := h1
      obtain ⟨C', dx, ys, cn, g, r⟩ := rh1 a _ e
      cases cn.inj kc.cn
      refine ⟨a, dx, ys, rfl, g, r.lookupN le, ?_⟩
      refine la σ σ' H1 S1 _ _ _ (rs.mono (f1.tle rh)) rh1 h1 (fun ds S2 vs H2 f2 rh2 dv h2 => ?_) (xi.go f1)
      exact ⟨_, S2, Q', E', .cons (.ref a) dv, rh2, h2, q.go (f1.trans f2), xi.go (f1.trans f2)⟩
    | _ => exact h1.elim
/-- an object is made -/
theorem rh_make {S : Hq} {H : Hp} {a dx : Addr} (rh : RH K S H) (cn : CN K n C) (ha : H a = none) (hd : H dx = none) (ne : dx ≠ a) : Fr S H (up S a (.ins n [])) (upd (upd H dx (.own a)) a (.ins C dx [])) ∧ RH K (up S a (.ins n [])) (upd (upd H dx (.own a)) a (.ins C dx [])) := by
  have r1 := rh.new (o := .own a) hd
  have f1 := Fr.new (o := .own a) rh hd
  have ha1 : upd H dx (.own a) a = none := by rw [upd_ne (Ne.symm ne)]; exact ha
  exact ⟨f1.trans (Fr.new2 r1 ha1), r1.new2 (q := .ins n []) ha1 ⟨C, dx, [], cn, upd_same, .nil⟩⟩
theorem ev_make0 (kc : Kc X.K n C) (M : Mk X.K C f) (G : FnOk X.prog X.w X.K X.mg X.base CX0 k f fd ps (dn X.K sp)) (hr : Room (k + 1) X.A) (hm : X.mg (Str.ofString n) = some (.ref C)) (hb : Binds X.K fd ps []) {p : Pos} (hg : Gl X (Str.ofString n) := by rfl)
    (hdb : ((Str.ofString n) == ("__debug__" : Str)) = false := by decide) : EV X W (.Call (.Name (Str.ofString n) p) [] [] pos) (rMake n sp rNil) := by
  refine ⟨_, pe_make0 (E := fun _ _ _ => False) M G hr hg hm hb .nil pass0 hdb, fun σ σ' H S Q Q' E' rs rh h q xi => ?_⟩
  intro x dx hx hdx ne
  obtain ⟨f1, r1⟩ := rh_make rh kc.cn hx hdx ne
  refine ⟨[.ref x], _, _, NoX, .cons (.ref x) .nil, r1, h x (rh.fresh hx), fun d S' v H' f2 rh2 dv h2 => ?_, XI.no⟩
  obtain ⟨rfl, h2⟩ := h2
  cases dv
  exact ⟨rfl, q _ _ _ _ (f1.trans f2) rh2 (.ref x) h2⟩
theorem ev_make (kc : Kc X.K n C) (M : Mk X.K C f) (G : FnOk X.prog X.w X.K X.mg X.base CX0 k f fd ps (dn X.K sp)) (hr : Room (k + 1) X.A) (hm : X.mg (Str.ofString n) = some (.ref C)) (hb : Binds X.K fd ps []) {p : Pos} (ha : EA X W (e :: es) ra) (hg : Gl X (Str.ofString n) := by rfl)
    (hdb : ((Str.ofString n) == ("__debug__" : Str)) = false := by decide) (he : starEach (e :: es) X.env = (false, eval e X.env) :: starEach es X.env := by rfl) (hpl : (backTo pos (starEach es X.env)).any (·.1) = false := by rfl) : EV X W (.Call (.Name (Str.ofString n) p) (e :: es) [] pos) (rMake n sp ra) := by
  obtain ⟨Ta, pa, la⟩ := ha.ex
  refine ⟨_, pe_make (E := fun _ _ _ => False) M G hr hg hm hb .nil pass0 pa hdb he hpl, fun σ σ' H S Q Q' E' rs rh h q xi => ?_⟩
  refine la σ σ' H S _ _ _ rs rh h (fun ds S1 vs H1 f0 rh1 dv h1 => ?_) xi
  intro x dx hx hdx ne
  obtain ⟨f1, r1⟩ := rh_make rh1 kc.cn hx hdx ne
  rw [List.append_nil]
  refine ⟨.ref x :: ds, _, _, NoX, .cons (.ref x) (DVs.mono (f1.tle rh1) _ _ dv), r1, h1 x (rh1.fresh hx), fun d S' v H' f2 rh2 dv h2 => ?_, XI.no⟩
  obtain ⟨rfl, h2⟩ := h2
  cases dv
  exact ⟨rfl, q _ _ _ _ ((f0.trans f1).trans f2) rh2 (.ref x) h2⟩
end

/-! ### the error that a suite holds -/
def rBy (n0 : String) (F : Str) (cn : String) (a dd : Addr) (ro : RE) : RE := fun σ S Q E => ro σ S (fun x S1 => x = .ref a ∧ cn = n0 ∧ ∃ d, S1 dd = some (.exd [(F, d)]) ∧ Q d S1) E
/-- isinstance of it: t tells, for (class of the error, class asked, is it an own one) -/
abbrev Tb := List (String × String × Bool × Bool)
def tbF (t : Tb) (cn : String) (m : String) (own : Bool) : Option Bool := (t.find? fun q => q.1 == cn && q.2.1 == m && q.2.2.1 == own).map (·.2.2.2)
def isxF (t : Tb) (cn : String) : D → Option Bool
  | .cl m => tbF t cn m true
  | .ty m => tbF t cn m false
  | _ => none
def isxAll (t : Tb) (cn : String) : List D → Option Bool
  | [] => some false
  | d :: r => match isxF t cn d with | none => none | some b => if b = true then some true else isxAll t cn r
def isxD (t : Tb) (cn : String) : D → Option Bool
  | .tup ds => isxAll t cn ds
  | d => isxF t cn d
def rIsE (t : Tb) (cn : String) (a dd : Addr) (ra : RA) : RE := fun σ S Q E => ra σ S (fun ds S1 => match ds with
  | [x, c] => x = .ref a ∧ (∃ fs, S1 dd = some (.exd fs)) ∧ ∃ b, isxD t cn c = some b ∧ Q (.bl b) S1
  | _ => False) E
/-- an own class as a value -/
def ClIs (K : PySem.W.Frag) (m : String) (own : Bool) (v : Value) : Prop := if own = true then ∃ C, CN K m C ∧ v = .ref C else v = .type m
def TbOk (K : PySem.W.Frag) (t : Tb) : Prop := ∀ cn m own b, (cn, m, own, b) ∈ t → ∀ C v, CN K cn C → ClIs K m own v → PySem.W.kitOne K (.ref C) v = some b
structure ExcD (K : PySem.W.Frag) (D : Addr) : Prop where
  hg : PySem.W.findIn K (.ref D) "__getattribute__" = some (some (.builtin "BaseException.__getattribute__"))
  hk : PySem.W.findIn K (.ref D) "__getattr__" = some none
  hs : PySem.W.subIn K (.ref D) (.type "BaseException") = some true
  hd : PySem.W.hasDictIn K D = true
  hc : (PySem.W.clsIn K D).isSome = true
  ha : PySem.W.findIn K (.ref D) "__class__" = some (some (.builtin "object.__class__"))
  hn : PySem.W.specialIn K (.builtin "object.__class__") "__get__" = some (some (.builtin "getset_descriptor.__get__"))
  ht : PySem.W.takesIn K (.builtin "object.__class__") = some true
  hm : PySem.W.mroIn K D (.type "object") = some true
section
variable {X : Cx} {W : WX} {o e : Expr} {es : List Expr} {ro : RE} {ra : RA} {cn n0 : String} {C fI a dd : Addr} {oe : Obj} {pn : List (Addr × Obj)} {qX : Str} {pos : Pos}
theorem ev_byA (T : PySem.LA.LowTxt X.K X.mg (Str.ofString n0) qX C fI) (c0 : CN X.K n0 C) {C' : Addr} (cc : CN X.K cn C') (hz : Zc (.ref C') (some dd) oe) (hf : ∃ vs, oe.data = .fields vs) (ho : EV (X.suite a ((a, oe) :: pn)) W o ro) (hb : attributeBase o "at" X.env (eval o X.env) = eval o X.env := by rfl) :
    EV (X.suite a ((a, oe) :: pn)) W (.Attribute o "at" pos) (rBy n0 "at" cn a dd ro) := by
  obtain ⟨To, po, lo⟩ := ho.ex
  refine ⟨_, pe_byLow_LA T hz hf po hb, fun σ σ' H S Q Q' E' rs rh h q xi => ?_⟩
  refine lo σ σ' H S _ _ _ rs rh h (fun x S1 v H1 f1 rh1 dv h1 => ?_) xi
  obtain ⟨rfl, rfl, d, e, h1⟩ := h1
  cases dv
  cases c0.inj cc
  obtain ⟨ys, g, r⟩ := rh1 dd _ e
  cases r with | cons dx r =>
  cases r
  exact ⟨rfl, rfl, dd, _, rfl, g, (q.go f1).here rh1 dx h1⟩
theorem ev_byV (T : PySem.LV.LowTxt X.K X.mg (Str.ofString n0) qX C fI) (c0 : CN X.K n0 C) {C' : Addr} (cc : CN X.K cn C') (hz : Zc (.ref C') (some dd) oe) (hf : ∃ vs, oe.data = .fields vs) (ho : EV (X.suite a ((a, oe) :: pn)) W o ro) (hb : attributeBase o "value" X.env (eval o X.env) = eval o X.env := by rfl) :
    EV (X.suite a ((a, oe) :: pn)) W (.Attribute o "value" pos) (rBy n0 "value" cn a dd ro) := by
  obtain ⟨To, po, lo⟩ := ho.ex
  refine ⟨_, pe_byLow_LV T hz hf po hb, fun σ σ' H S Q Q' E' rs rh h q xi => ?_⟩
  refine lo σ σ' H S _ _ _ rs rh h (fun x S1 v H1 f1 rh1 dv h1 => ?_) xi
  obtain ⟨rfl, rfl, d, e, h1⟩ := h1
  cases dv
  cases c0.inj cc
  obtain ⟨ys, g, r⟩ := rh1 dd _ e
  cases r with | cons dx r =>
  cases r
  exact ⟨rfl, rfl, dd, _, rfl, g, (q.go f1).here rh1 dx h1⟩
theorem isxF_kit {K : PySem.W.Frag} {H : Hp} {t : Tb} {d : D} {v : V} {u : Value} {b : Bool} (ok : TbOk K t) (cc : CN K cn C) (h : isxF t cn d = some b) (dv : DV K H d v) (r : RelV v u) : PySem.W.kitOne K (.ref C) u = some b := by
  have key : ∀ (m : String) (own : Bool), tbF t cn m own = some b → (cn, m, own, b) ∈ t := fun m own e => by
    unfold tbF at e
    cases g : t.find? (fun q => q.1 == cn && q.2.1 == m && q.2.2.1 == own) with
    | none => rw [g] at e; cases e
    | some q =>
      rw [g] at e
      have hp := List.find?_some g
      have hm := List.mem_of_find?_eq_some g
      obtain ⟨q1, q2, q3, q4⟩ := q
      simp only [Bool.and_eq_true, beq_iff_eq] at hp
      obtain ⟨⟨rfl, rfl⟩, rfl⟩ := hp
      cases e
      exact hm
  cases dv with
  | cl c =>
    cases r
    exact ok _ _ _ _ (key _ _ h) C _ cc ⟨_, c, rfl⟩
  | ty m =>
    obtain rfl : u = Value.type m := r
    exact ok _ _ _ _ (key _ _ h) C _ cc rfl
  | _ => cases h
theorem isxAll_kit {K : PySem.W.Frag} {H : Hp} {t : Tb} {b : Bool} (ok : TbOk K t) (cc : CN K cn C) : ∀ {ds : List D} {vs : List V} {us : List Value}, isxAll t cn ds = some b → DVs K H ds vs → Vals vs us → PySem.W.kitAny K (.ref C) us = some b
  | [], _, _, h, .nil, .nil => by cases h; exact kitAny_nil
  | d :: ds, _, _, h, .cons dx dr, .cons r rr => by
    unfold isxAll at h
    split at h
    · cases h
    · rename_i b1 e1
      refine kitAny_cons (isxF_kit ok cc e1 dx r) (fun eb => ?_) (fun eb => ?_)
      · rw [eb, if_neg Bool.false_ne_true] at h
        exact isxAll_kit ok cc h dr rr
      · rw [eb, if_pos rfl] at h
        cases h; rfl
theorem call_isx {t : Tb} (ok : TbOk X.K t) (cc : CN X.K cn C) (ed : ExcD X.K C) (hz : Zc (.ref C) (some dd) oe) (hf : ∃ vs, oe.data = .fields vs) :
    CallR (X.suite a ((a, oe) :: pn)) (.builtin "isinstance") (fun xs H Q => ∃ d c b fs, xs = [.ref a, c] ∧ DV X.K H d c ∧ isxD t cn d = some b ∧ H dd = some (.xd fs) ∧ Q (.bl b) H) := by
  intro pins s σ H xs us Q I r h
  obtain ⟨d, c, b, fs, rfl, dv, e, hdd, q⟩ := h
  obtain ⟨u1, u2, rfl, r1, r2⟩ := vals2 r
  cases r1
  obtain ⟨hget, _⟩ := I.pin (a, oe) (List.mem_append.mpr (.inl List.mem_cons_self))
  obtain ⟨vs, hv⟩ := hf
  have hx : ObjOk X.prog X.w H s.heap dd (.xd fs) := I.hok dd _ hdd
  obtain ⟨mA, hns, hr⟩ := hx
  obtain ⟨od, ho, hl⟩ := lookIn_ns hns
  have J : PySem.W.InstAt s.heap a oe C (some od) := ⟨hget, hz.1, by unfold PySem.W.notCls; rw [hv] <;> rfl, by rw [hz.2]; exact ho⟩
  have Z := PySem.W.kitx_exc (x := a) (ox := oe) (od := some od) ed.hc ed.hg ed.hk ed.hs ed.ha ed.hn ed.ht ed.hm
  have fin : ∀ tk, EP (X.suite a ((a, oe) :: pn)) pins σ Q (.bool b) { s with toks := tk } := fun tk => ⟨.bl b, H, I.tok tk, rfl, q⟩
  cases d with
  | tup ds =>
    cases dv with | tup sq rr =>
    cases (show u2 = Value.ref _ from r2)
    obtain ⟨its, rv, ht, _⟩ := I.tuple sq.1
    obtain ⟨⟨oc, odd, dt, sl⟩, h1, h2, n, h3⟩ := ht
    simp only at h2 h3
    subst h2 h3
    exact PySem.W.kia_tup Z I.kIn J h1 (isxAll_kit ok cc e rr rv) (fun z => nomatch z) fin
  | cl m => exact PySem.W.kia_one Z I.kIn J (isxF_kit ok cc (show isxF t cn (.cl m) = some b from e) dv r2) (fun z => nomatch z) fin
  | ty m => exact PySem.W.kia_one Z I.kIn J (isxF_kit ok cc (show isxF t cn (.ty m) = some b from e) dv r2) (fun z => nomatch z) fin
  | _ => cases e
theorem ev_isE {x : Str} {p : Pos} {t : Tb} (ok : TbOk X.K t) (cc : CN X.K cn C) (ed : ExcD X.K C) (hz : Zc (.ref C) (some dd) oe) (hf : ∃ vs, oe.data = .fields vs) (hm : X.mg "isinstance" = none) (ha : EA (X.suite a ((a, oe) :: pn)) W (e :: es) ra) (hg : Gl X "isinstance" := by rfl)
    (he : starEach (e :: es) X.env = (false, eval e X.env) :: starEach es X.env := by rfl) (hpl : (backTo pos (starEach es X.env)).any (·.1) = false := by rfl) : EV (X.suite a ((a, oe) :: pn)) W (.Call (.Name "isinstance" p) (e :: es) [] pos) (rIsE t cn a dd ra) := by
  obtain ⟨Ta, pa, la⟩ := ha.ex
  refine ⟨_, pe_callB (call_isx ok cc ed hz hf) hg hm (by decide +kernel) pa (by decide) (by decide) he hpl, fun σ σ' H S Q Q' E' rs rh h q xi => ?_⟩
  refine la σ σ' H S _ _ _ rs rh h (fun ds S1 vs H1 f1 rh1 dv h1 => ?_) xi
  match ds, dv, h1 with
  | [x, c], .cons dx (.cons dc .nil), h1 =>
    obtain ⟨rfl, ⟨fs, ef⟩, b, eb, h1⟩ := h1
    cases dx
    obtain ⟨ys, g, _⟩ := rh1 dd _ ef
    exact ⟨c, _, b, ys, rfl, dc, eb, g, (q.go f1).here rh1 (.bl b) h1⟩
/-- an own class as a value -/
theorem ev_cl {n : String} {C : Addr} (cn : CN X.K n C) (hm : X.mg (Str.ofString n) = some (.ref C)) (hg : Gl X (Str.ofString n) := by rfl) (hd : ((Str.ofString n) == ("__debug__" : Str)) = false := by decide) : EV X W (.Name (Str.ofString n) pos) (rC (.cl n)) :=
  ⟨_, pe_glob (v := .ref C) hg hm rfl hd, fun σ σ' H S Q Q' E' rs rh h q _ => q.here rh (.cl cn) h⟩
end
end Y
set_option maxHeartbeats 2000000
namespace Y
open PySem PySem.Spec PyProof.Rows L2
/-! ### words for texts with classes -/
theorem tk00 {X : Cx} : L2N.Takes X W0 := fun _ _ x => by
  obtain ⟨_, _, _, _, _, _, _, _, _, _, _, _, _, _, _, _, z⟩ := x
  exact z.elim
section
variable {n m : String} {f : Str} {a dd : Addr} {S : Hq} {Q : Qv} {N : Hq → Prop} {P : Prop} {y : D} {t : Tb} {cn : String}
theorem q_fld : fldD n f (.ref a) S Q = ∃ fs d, S a = some (.ins n fs) ∧ fs.lookup f = some d ∧ Q d S := rfl
theorem q_sfld : sfldD n f (.ref a) y S N = ∃ fs, S a = some (.ins n fs) ∧ fs.length < 100 ∧ N (up S a (.ins n (putD f y fs))) := rfl
theorem q_met : metD n f (.ref a) S P = ∃ fs, S a = some (.ins n fs) ∧ fs.lookup f = none ∧ P := rfl
end
/-- the classes that a clause takes -/
def mL : List (String × Bool) → String → Option Bool
  | [], _ => none
  | (n, b) :: r, x => if x = n then some b else mL r x
theorem mok_nil {K : PySem.W.Frag} {c : Value} : MOk K c (mL []) := fun _ _ _ _ h => by cases h
theorem mok_cons {K : PySem.W.Frag} {c : Value} {n : String} {b : Bool} {C : Addr} {l : List (String × Bool)} (cn : CN K n C) (e : PySem.W.exmOne K (.ref C) c = some b) (r : MOk K c (mL l)) : MOk K c (mL ((n, b) :: l)) := fun x C' b' cn' h => by
  unfold mL at h
  split at h
  · rename_i q
    subst q
    cases h
    cases cn.inj cn'
    exact e
  · exact r x C' b' cn' h
theorem tb_nil {K : PySem.W.Frag} : TbOk K [] := fun _ _ _ _ h => by cases h
theorem tb_own {K : PySem.W.Frag} {t : Tb} {cn m : String} {b : Bool} {C D : Addr} (c1 : CN K cn C) (c2 : CN K m D) (e : PySem.W.kitOne K (.ref C) (.ref D) = some b) (r : TbOk K t) : TbOk K ((cn, m, true, b) :: t) := fun x y o b' h C' v c1' h' => by
  rcases List.mem_cons.mp h with z | z
  · cases z
    cases c1.inj c1'
    obtain ⟨D', c2', rfl⟩ := (show ClIs K m true v from h')
    cases c2.inj c2'
    exact e
  · exact r x y o b' z C' v c1' h'
theorem tb_ty {K : PySem.W.Frag} {t : Tb} {cn m : String} {b : Bool} {C : Addr} (c1 : CN K cn C) (e : PySem.W.kitOne K (.ref C) (.type m) = some b) (r : TbOk K t) : TbOk K ((cn, m, false, b) :: t) := fun x y o b' h C' v c1' h' => by
  rcases List.mem_cons.mp h with z | z
  · cases z
    cases c1.inj c1'
    have h' : v = .type m := h'
    subst h'
    exact e
  · exact r x y o b' z C' v c1' h'
/-- a suite for errors of one class -/
def rGd (p : Prop) (r : RSt) : RSt := fun D σ S => p ∧ r D σ S
theorem eb_gd {X : Cx} {W : WX} {b : List Stmt} {p : Prop} {r : RSt} (h : p → EB X W b r) : EB X W b (rGd p r) := by
  by_cases hp : p
  · obtain ⟨T, pe, l⟩ := (h hp).ex
    exact ⟨⟨T, pe, fun σ σ' H S D D' rs rh q d => l σ σ' H S D D' rs rh q.2 d⟩⟩
  · exact ⟨⟨fun _ _ _ => False, ⟨fun _ _ _ _ _ _ z => z.elim⟩, fun _ _ _ _ _ _ _ _ q _ => absurd q.1 hp⟩⟩
theorem ed_of {K : PySem.W.Frag} {n cn : String} {C0 C : Addr} (c0 : CN K n C0) (x : ExcD K C0) (e : cn = n) (cc : CN K cn C) : ExcD K C := by subst e; cases c0.inj cc; exact x
theorem hotP {X : Cx} {p : Addr × Obj} (h : L2H.Hot1 X.A p) (e : X.pn = [p]) : L2H.HotC X := ⟨p, h, by rw [e]; exact List.mem_cons_self⟩
theorem RoomH.units {k : Nat} {A : Around} (r : L2H.RoomH k A) : A.units + 64 < cLine := by have := r.un; omega
theorem units65H {k : Nat} {A : Around} (r : L2H.RoomH k A) : A.units + 65 < cLine := by have := r.un; omega
end Y
namespace L2H
open PySem PySem.Spec PyProof.Rows
theorem RoomH.units {k : Nat} {A : Around} (r : RoomH k A) : A.units + 64 < cLine := by have := r.un; omega
theorem RoomH.units0 {k : Nat} {A : Around} (r : RoomH k A) : A.units < cLine := by have := r.un; omega
end L2H
namespace Y
open PySem PySem.Spec PyProof.Rows L2
/-- statements that are never come to -/
theorem eb_nvs {X : Cx} {W : WX} {b : List Stmt} : EB X W b rNv := ⟨⟨fun _ _ _ => False, ⟨fun _ _ _ _ _ _ z => z.elim⟩, fun _ _ _ _ _ _ _ _ q _ => q.elim⟩⟩
end Y
namespace Y
open PySem PySem.Spec PyProof.Rows L2
theorem exm_of {K : PySem.W.Frag} {t : Value} {S : Addr} {b : Bool} (h1 : PySem.W.subIn K (.ref S) (.type "BaseException") = some true) (h2 : PySem.W.isClsIn K S = true) (h3 : PySem.W.typeIn K (.ref S) = some (.type "type")) (h4 : PySem.W.subIn K t (.ref S) = some b) :
    PySem.W.exmOne K t (.ref S) = some b := by
  have e1 : (PySem.W.subIn K (.ref S) (.type "BaseException") == some true) = true := by rw [h1] <;> rfl
  have e2 : ((PySem.W.clsIn K S).isSome && PySem.W.typeIn K (.ref S) == some (.type "type")) = true := by
    have h2' : (PySem.W.clsIn K S).isSome = true := h2
    rw [h2', h3] <;> rfl
  show (if (PySem.W.subIn K (.ref S) (.type "BaseException") == some true) = true then (if ((PySem.W.clsIn K S).isSome && PySem.W.typeIn K (.ref S) == some (.type "type")) = true then PySem.W.subIn K t (.ref S) else none) else none) = some b
  rw [if_pos e1, if_pos e2]
  exact h4
theorem kit_of {K : PySem.W.Frag} {C S : Addr} {b : Bool} (h2 : PySem.W.isClsIn K S = true) (h3 : PySem.W.typeIn K (.ref S) = some (.type "type")) (h4 : PySem.W.subIn K (.ref C) (.ref S) = some b) (h5 : PySem.W.subIn K (.ref C) (.ref C) = some true) :
    PySem.W.kitOne K (.ref C) (.ref S) = some b := by
  unfold PySem.W.kitOne
  by_cases c : (Value.ref C == Value.ref S) = true
  · rw [if_pos c]
    have e : C = S := by
      have := beq_iff_eq.mp c
      cases this; rfl
    subst e
    rw [h5] at h4; cases h4; rfl
  · rw [if_neg c]
    have e2 : ((PySem.W.clsIn K S).isSome && PySem.W.typeIn K (.ref S) == some (.type "type")) = true := by
      have h2' : (PySem.W.clsIn K S).isSome = true := h2
      rw [h2', h3] <;> rfl
    show (if ((PySem.W.clsIn K S).isSome && PySem.W.typeIn K (.ref S) == some (.type "type")) = true then PySem.W.subIn K (.ref C) (.ref S) else none) = some b
    rw [if_pos e2]
    exact h4
end Y
namespace Y
open PySem PySem.Spec PyProof.Rows L2
theorem room_suite {X : Cx} {a : Addr} {pn : List (Addr × Obj)} {j k : Nat} (hr : Room k X.A) (h : j ≤ k) : L2H.RoomH j (X.suite a pn).A := L2H.RoomH.mono (k := k) ⟨hr.dp, hr.un⟩ h
end Y
set_option maxHeartbeats 2000000
namespace Y
open PySem PySem.Spec PyProof.Rows L2
/-! ### reversed, while -/
theorem rev_at {xs : List D} {i : Nat} {x : D} (h : xs.reverse[i]? = some x) : xs[xs.length - 1 - i]? = some x ∧ i < xs.length := by
  have hi : i < xs.reverse.length := by
    rcases Nat.lt_or_ge i xs.reverse.length with h1 | h1
    · exact h1
    · rw [List.getElem?_eq_none h1] at h; cases h
  rw [List.length_reverse] at hi
  rw [List.getElem?_reverse hi] at h
  exact ⟨h, hi⟩
theorem it_rtup {K : PySem.W.Frag} {S1 : Hq} {H1 : Hp} {a : Addr} {xs : List D} {vs : List V} (rh1 : RH K S1 H1) (s : SqT K H1 a vs) (r : DVs K H1 xs vs) : ItOk K S1 H1 (RT.ItvT K a vs.length) xs.reverse (fun _ => True) :=
  ⟨fun S H f rh _ => by show vs.length ≤ xs.reverse.length; rw [List.length_reverse, r.length]; exact Nat.le_refl _,
   fun i x S H hx f rh _ => by
    obtain ⟨hx, hi⟩ := rev_at hx
    obtain ⟨v, hv, _⟩ := r.get hx
    exact ⟨by rw [← r.length]; exact hi, vs, v, (f.tle rh1).t _ _ s, by rw [← r.length]; exact hv⟩,
   fun i x S H v H' hx f rh _ hy => by
    obtain ⟨rfl, hy⟩ := hy
    obtain ⟨hx, hi⟩ := rev_at hx
    obtain ⟨w, hw, dw⟩ := r.get hx
    have e := hy vs ((f.tle rh1).t _ _ s)
    rw [← r.length, hw] at e; cases e
    exact ⟨Fr.refl, rh, DV.mono (f.tle rh1) _ _ dw⟩⟩
theorem it_rlst {K : PySem.W.Frag} {S1 : Hq} {H1 : Hp} {a : Addr} {xs : List D} {n : Nat} (hn : n = xs.length) : ItOk K S1 H1 (Itv K a n) xs.reverse (fun S => LsR S a xs) :=
  ⟨fun S H f rh g => by show n ≤ xs.reverse.length; rw [List.length_reverse, hn]; exact Nat.le_refl _,
   fun i x S H hx f rh g => by
    obtain ⟨vs, s, r⟩ := rh.sql g
    obtain ⟨hx, hi⟩ := rev_at hx
    obtain ⟨v, hv, _⟩ := r.get hx
    exact ⟨by rw [hn]; exact hi, vs, v, s, by rw [hn]; exact hv⟩,
   fun i x S H v H' hx f rh g hy => by
    obtain ⟨rfl, hy⟩ := hy
    obtain ⟨vs, s, r⟩ := rh.sql g
    obtain ⟨hx, hi⟩ := rev_at hx
    obtain ⟨w, hw, dw⟩ := r.get hx
    have e := hy vs s
    rw [hn, hw] at e; cases e
    exact ⟨Fr.refl, rh, dw⟩⟩
theorem it_rkl {K : PySem.W.Frag} {S1 : Hq} {H1 : Hp} {a : Addr} {xs : List D} {vs : List V} (rh1 : RH K S1 H1) (s : SqF K H1 a vs) (r : DVs K H1 xs vs) : ItOk K S1 H1 (Itv K a vs.length) xs.reverse (fun _ => True) :=
  ⟨fun S H f rh _ => by show vs.length ≤ xs.reverse.length; rw [List.length_reverse, r.length]; exact Nat.le_refl _,
   fun i x S H hx f rh _ => by
    obtain ⟨hx, hi⟩ := rev_at hx
    obtain ⟨v, hv, _⟩ := r.get hx
    exact ⟨by rw [← r.length]; exact hi, vs, v, ((f.tle rh1).f _ _ s).sql, by rw [← r.length]; exact hv⟩,
   fun i x S H v H' hx f rh _ hy => by
    obtain ⟨rfl, hy⟩ := hy
    obtain ⟨hx, hi⟩ := rev_at hx
    obtain ⟨w, hw, dw⟩ := r.get hx
    have e := hy vs ((f.tle rh1).f _ _ s).sql
    rw [← r.length, hw] at e; cases e
    exact ⟨Fr.refl, rh, DV.mono (f.tle rh1) _ _ dw⟩⟩
def revsD (x : D) (S1 : Hq) (R : List D → (Hq → Prop) → Hq → Prop) : Prop := match x with
  | .ref a => ∃ xs, LsR S1 a xs ∧ R xs.reverse (fun S => LsR S a xs) S1
  | .kl xs => R xs.reverse (fun _ => True) S1
  | .tup xs => R xs.reverse (fun _ => True) S1
  | _ => False
def iRevY (r : RE) : RI := fun σ S R E => r σ S (fun x S1 => revsD x S1 R) E
theorem ei_revY {X : Cx} {W : WX} {tg e : Expr} {r : RE} {p pos : Pos} (hm : X.mg "reversed" = none) (h : EV X W e r) (hg : Gl X "reversed" := by rfl) (hs : starEach [e] X.env = (false, eval e X.env) :: starEach [] X.env := by rfl) : EI X W tg (.Call (.Name "reversed" p) [e] [] pos) (iRevY r) := by
  obtain ⟨T, pe, l⟩ := h.ex
  refine ⟨_, RT.pi_revA hg hm pe hs, fun σ σ' H S R R' E' rs rh h q xi => ?_⟩
  refine l σ σ' H S _ _ _ rs rh h (fun x S1 v H1 f1 rh1 dv h1 => ?_) xi
  cases x with
  | ref a =>
    cases dv
    obtain ⟨xs, hl, h1⟩ := h1
    obtain ⟨vs, s, r⟩ := rh1.sql hl
    exact ⟨_, vs, rfl, .inl ⟨s, q _ _ _ _ _ f1 rh1 (it_rlst r.length.symm) h1⟩⟩
  | kl xs =>
    cases dv with
    | kl s r => exact ⟨_, _, rfl, .inl ⟨s.sql, q _ _ _ _ _ f1 rh1 (it_rkl rh1 s r) h1⟩⟩
  | tup xs =>
    cases dv with
    | tup s r => exact ⟨_, _, rfl, .inr ⟨s, q _ _ _ _ _ f1 rh1 (it_rtup rh1 s r) h1⟩⟩
  | _ => exact h1.elim
theorem rv_r {p : Addr} {S : Hq} {R : List D → (Hq → Prop) → Hq → Prop} : revsD (.ref p) S R = ∃ xs, S p = some (.lst xs) ∧ R xs.reverse (fun S => S p = some (.lst xs)) S := rfl
theorem rv_k {xs : List D} {S : Hq} {R : List D → (Hq → Prop) → Hq → Prop} : revsD (.kl xs) S R = R xs.reverse (fun _ => True) S := rfl
theorem rv_t {xs : List D} {S : Hq} {R : List D → (Hq → Prop) → Hq → Prop} : revsD (.tup xs) S R = R xs.reverse (fun _ => True) S := rfl
theorem whl {c : RT} {tb : RSt} {D0 : En} {σ : Sg} {S : Hq} (P : Nat → Sg → Hq → Prop) (m : Nat) (h0 : P m σ S)
    (hs : ∀ m σ S, P m σ S → c σ S (fun b S1 => if b = true then tb { D0 with nx := fun σ' S' => ∃ m', m' < m ∧ P m' σ' S', ct := fun σ' S' => ∃ m', m' < m ∧ P m' σ' S', bk := D0.nx } σ S1 else D0.nx σ S1) (D0.x σ)) : rWhile c tb D0 σ S := ⟨P, ⟨m, h0⟩, hs⟩
/-- what follows a statement, kept out of sight -/
theorem rSeq_gen {t u : RSt} {D : En} {σ : Sg} {S : Hq} (h : ∀ N : Sg → Hq → Prop, (∀ σ S, u D σ S → N σ S) → t { D with nx := N } σ S) : rSeq t u D σ S := h _ fun _ _ h => h
def rPar3 (i j k : Nat) (ra : RA) : RSt := fun D σ S => ra σ S (fun ds S1 => match ds with | [x, y, z] => D.nx (((σ.set i (some x)).set j (some y)).set k (some z)) S1 | _ => False) (D.x σ)
theorem es_par3 {X : Cx} {W : WX} {pos : Pos} {i j k : Nat} {x y z : Str} {a b c : Expr} {ra : RA} {px py pz pt : Pos} {kt k2 pt2} (hc : X.calm = true) (hN : X.N.Nodup) (hij : i ≠ j) (hik : i ≠ k) (hjk : j ≠ k) (ha : EA X W [a, b, c] ra) (hi : X.N[i]? = some x := by rfl) (hj : X.N[j]? = some y := by rfl) (hk : X.N[k]? = some z := by rfl)
    (hx : X.env.scope.names.lookup x = some .local := by rfl) (hy : X.env.scope.names.lookup y = some .local := by rfl) (hz : X.env.scope.names.lookup z = some .local := by rfl)
    (hw : swappedStores [.Tuple [.Name x px, .Name y py, .Name z pz] kt pt] (.Tuple [a, b, c] k2 pt2) X.env = pure (some [x, y, z]) := by rfl)
    (hs : swapsWithSole [.Tuple [.Name x px, .Name y py, .Name z pz] kt pt] (.Tuple [a, b, c] k2 pt2) pos.line X.env = pure false := by rfl) :
    ES X W (.Assign [.Tuple [.Name x px, .Name y py, .Name z pz] kt pt] (.Tuple [a, b, c] k2 pt2) pos) (rPar3 i j k ra) := by
  obtain ⟨T, p, l⟩ := ha.ex
  refine ⟨_, ps_par3 hc hN hi hj hk hij hik hjk hx hy hz p hw hs, fun σ σ' H S D D' rs rh h d => ?_⟩
  refine l σ σ' H S _ _ _ rs rh h (fun ds S1 v H1 f1 rh1 dv h1 => ?_) (d.xi rh rs)
  match ds, dv, h1 with
  | [x, y, z], .cons dx (.cons dy (.cons dz .nil)), h1 => exact ⟨_, _, _, rfl, d.nx _ _ _ _ f1 rh1 ((((rs.mono (f1.tle rh)).set dx i).set dy j).set dz k) h1⟩
/-- a test of two that are joined: the way of no is walked once -/
theorem ite_and {c d : Prop} [Decidable c] [Decidable d] {A B : Prop} (h1 : c → d → A) (h2 : (¬ c ∨ ¬ d) → B) : if c then (if d then A else B) else B := by
  by_cases x : c
  · rw [if_pos x]
    by_cases y : d
    · rw [if_pos y]; exact h1 x y
    · rw [if_neg y]; exact h2 (.inr y)
  · rw [if_neg x]; exact h2 (.inl x)
theorem ite_or {c d : Prop} [Decidable c] [Decidable d] {A B : Prop} (h1 : (c ∨ d) → A) (h2 : ¬ c → ¬ d → B) : if c then A else (if d then A else B) := by
  by_cases x : c
  · rw [if_pos x]; exact h1 (.inl x)
  · rw [if_neg x]
    by_cases y : d
    · rw [if_pos y]; exact h1 (.inr y)
    · rw [if_neg y]; exact h2 x y
theorem kitT_of {K : PySem.W.Frag} {C : Addr} {m : String} {b : Bool} (h1 : PySem.W.kitMeta m = true) (h2 : PySem.W.subIn K (.ref C) (.type m) = some b) : PySem.W.kitOne K (.ref C) (.type m) = some b := by
  unfold PySem.W.kitOne
  have e : ¬ ((Value.ref C == Value.type m) = true) := fun z => by cases beq_iff_eq.mp z
  rw [if_neg e]
  show (if PySem.W.kitMeta m = true then PySem.W.subIn K (.ref C) (.type m) else none) = some b
  rw [if_pos h1]; exact h2
example : PySem.W.kitMeta "ValueError" = true := by decide +kernel
/-! ### any value -/
inductive Av : Nat → D → Prop
  | non {n : Nat} : Av n .non
  | bl {n : Nat} (b : Bool) : Av n (.bl b)
  | int {n : Nat} (i : Int) : Av n (.int i)
  | str {n : Nat} (z : Str) (h : PyData.strOk z = true) : Av n (.str z)
  | tup {n : Nat} {xs : List D} (hl : xs.length ≤ 100000) (h : ∀ x ∈ xs, Av n x) : Av (n + 1) (.tup xs)
  | kl {n : Nat} {xs : List D} (hl : xs.length ≤ 100000) (h : ∀ x ∈ xs, Av n x) : Av (n + 1) (.kl xs)
theorem Av.up {n : Nat} {d : D} (h : Av n d) : ∀ m, n ≤ m → Av m d := by
  induction h with
  | non => exact fun _ _ => .non
  | bl b => exact fun _ _ => .bl b
  | int i => exact fun _ _ => .int i
  | str z h => exact fun _ _ => .str z h
  | @tup n xs hl h ih =>
    intro m hm
    obtain ⟨m, rfl⟩ : ∃ k, m = k + 1 := ⟨m - 1, by omega⟩
    exact .tup hl fun x hx => ih x hx m (by omega)
  | @kl n xs hl h ih =>
    intro m hm
    obtain ⟨m, rfl⟩ : ∃ k, m = k + 1 := ⟨m - 1, by omega⟩
    exact .kl hl fun x hx => ih x hx m (by omega)
theorem Av.len {n : Nat} {xs : List D} (h : Av n (.tup xs)) : xs.length ≤ 100000 := by cases h with | tup hl _ => exact hl
theorem Av.mem {n : Nat} {xs : List D} (h : Av n (.tup xs)) : ∀ x ∈ xs, Av n x := by cases h with | tup _ h => exact fun x hx => (h x hx).up _ (by omega)
theorem Av.t0 {n : Nat} : Av (n + 1) (.tup []) := .tup (by simp) (by simp)
theorem Av.t1 {n : Nat} {x : D} (h : Av n x) : Av (n + 1) (.tup [x]) := .tup (by simp) (by simpa using h)
theorem Av.t2 {n : Nat} {x y : D} (h : Av n x) (h2 : Av n y) : Av (n + 1) (.tup [x, y]) := .tup (by simp) (by simpa using ⟨h, h2⟩)
theorem Av.t3 {n : Nat} {x y z : D} (h : Av n x) (h2 : Av n y) (h3 : Av n z) : Av (n + 1) (.tup [x, y, z]) := .tup (by simp) (by simpa using ⟨h, h2, h3⟩)
theorem Av.t4 {n : Nat} {x y z u : D} (h : Av n x) (h2 : Av n y) (h3 : Av n z) (h4 : Av n u) : Av (n + 1) (.tup [x, y, z, u]) := .tup (by simp) (by simpa using ⟨h, h2, h3, h4⟩)
theorem Av.k0 {n : Nat} : Av (n + 1) (.kl []) := .kl (by simp) (by simp)
theorem Av.k2 {n : Nat} {x y : D} (h : Av n x) (h2 : Av n y) : Av (n + 1) (.kl [x, y]) := .kl (by simp) (by simpa using ⟨h, h2⟩)
theorem Av.k3 {n : Nat} {x y z : D} (h : Av n x) (h2 : Av n y) (h3 : Av n z) : Av (n + 1) (.kl [x, y, z]) := .kl (by simp) (by simpa using ⟨h, h2, h3⟩)
theorem purs_of {xs : List D} (h : ∀ x ∈ xs, pur x = true) : purs xs = true := by
  induction xs with
  | nil => rfl
  | cons a r ih => show (Y.pur a && purs r) = true; rw [h a (by simp), ih fun x m => h x (by simp [m])]; rfl
theorem lay_of {n : Nat} {xs : List D} (h : ∀ x ∈ xs, (pd x).canLay0 = true ∧ (pd x).depth ≤ n) : PyData.canLayAll0 (pds xs) = true ∧ PyData.depthAll (pds xs) ≤ n := by
  induction xs with
  | nil => exact ⟨rfl, Nat.zero_le _⟩
  | cons a r ih2 =>
    obtain ⟨h1, h2⟩ := h a (by simp)
    obtain ⟨h3, h4⟩ := ih2 fun x m => h x (by simp [m])
    refine ⟨?_, ?_⟩
    · show ((pd a).canLay0 && PyData.canLayAll0 (pds r)) = true
      rw [h1, h3]; rfl
    · show max ((pd a).depth) (PyData.depthAll (pds r)) ≤ n
      omega
theorem Av.pur {n : Nat} {d : D} (h : Av n d) : pur d = true := by
  induction h with
  | tup hl h ih => exact purs_of ih
  | kl hl h ih => exact purs_of ih
  | _ => rfl
theorem Av.lay {n : Nat} {d : D} (h : Av n d) : (pd d).canLay0 = true ∧ (pd d).depth ≤ n := by
  induction h with
  | non => exact ⟨by simp [pd, PyData.canLay0], by simp [pd, PyData.depth]⟩
  | bl b => exact ⟨by simp [pd, PyData.canLay0], by simp [pd, PyData.depth]⟩
  | int i => exact ⟨by simp [pd, PyData.canLay0], by simp [pd, PyData.depth]⟩
  | str z h => exact ⟨by simpa [pd, PyData.canLay0] using h, by simp [pd, PyData.depth]⟩
  | @tup n xs hl h ih =>
    obtain ⟨a, b⟩ := lay_of ih
    exact ⟨by simpa [pd, PyData.canLay0] using a, by simp only [pd, PyData.depth]; omega⟩
  | @kl n xs hl h ih =>
    obtain ⟨a, b⟩ := lay_of ih
    exact ⟨by simpa [pd, PyData.canLay0] using a, by simp only [pd, PyData.depth]; omega⟩
theorem Av.ok {n : Nat} {d : D} (h : Av n d) (hn : n ≤ 64) : okE d := ⟨h.pur, by
  obtain ⟨a, b⟩ := h.lay
  unfold SeqAt.shaped
  rw [a]
  simpa using Nat.le_trans b hn⟩
theorem eqv_emp {xs : List D} : PyData.eqv (pd (.tup xs)) (pd (.tup [])) = xs.isEmpty := by
  show PyData.eqv (.tuple (pds xs)) (.tuple []) = _
  simp only [PyData.eqv]
  rw [eqvAll_nil, pds_emp]
theorem strOk_of (s : String) : PyData.strOk (Str.ofString s) = true := by
  rw [Str.ofString_eq_toList]
  unfold PyData.strOk
  rw [Array.all_eq_true']
  intro x hx
  have hx : x ∈ s.toList.map Char.toNat := by simpa using hx
  obtain ⟨c, _, rfl⟩ := List.mem_map.mp hx
  have : c.toNat < 0x110000 := by
    rcases c.valid with h | h
    · exact Nat.lt_trans h (by decide)
    · exact h.2
  exact decide_eq_true this
/-- str of a whole number -/
def strFn (ds : List D) (S : Hq) (Q : Qv) : Prop := match ds with | [.int i] => i.natAbs.log2 < 1920 ∧ Q (.str (toString i)) S | _ => False
theorem lc_strF {K : PySem.W.Frag} : LiftC K strFn (fun xs H Q => ∃ i, xs = [.int i] ∧ i.natAbs.log2 < 1920 ∧ Q (.str (toString i)) H) := by
  intro ds S H Q' Q vs rh dv h q
  match ds, dv, h with
  | [.int i], .cons (.int _) .nil, h => exact ⟨_, rfl, h.1, q.here rh (.str _) h.2⟩
theorem q_strF {i : Int} {S : Hq} {Q : Qv} : strFn [.int i] S Q = (i.natAbs.log2 < 1920 ∧ Q (.str (toString i)) S) := rfl
theorem lc_fd {gd : Hq → Prop} {tt : RT} {te : RE} {i : Nat} {σ : Sg} {Qf : List D → Hq → Prop} {S : Hq} (f : D → Bool) (k : D → D) (hg : gd S) (ws : List D)
    (h1 : ∀ a ∈ ws, ∀ Q : Bool → Hq → Prop, Q (f a) S → tt ((wipeD σ [i]).set i (some a)) S Q NoX) (h2 : ∀ a ∈ ws, f a = true → ∀ Q : Qv, Q (k a) S → te ((wipeD σ [i]).set i (some a)) S Q NoX) (hz : ws.length ≤ 1000000)
    (q : Qf ((ws.filter f).map k) S) : lcP gd (gNm i) tt te [i] σ Qf ws [] S := by
  have := lc_ft (α := D) (gd := gd) (tt := tt) (te := te) (i := i) (σ := σ) (Qf := Qf) id f k hg ws h1 h2 hz q
  rwa [List.map_id] at this
def isIb : D → Bool
  | .int _ => true
  | _ => false
theorem isIb_iff {d : D} : isIb d = true ↔ ∃ i, d = .int i := by cases d <;> simp [isIb]
theorem at_2 {α : Type} {x y z : α} {r : List α} : atI (x :: y :: z :: r) 2 = some z := atI_nat (j := 2) rfl
theorem at_3 {α : Type} {x y z u : α} {r : List α} : atI (x :: y :: z :: u :: r) 3 = some u := atI_nat (j := 3) rfl
theorem log_small {i : Int} (h1 : i.natAbs < 2 ^ 70) : i.natAbs.log2 < 1920 := by
  by_cases c : i.natAbs = 0
  · rw [c]; decide
  · exact Nat.lt_of_lt_of_le ((Nat.log2_lt c).mpr h1) (by decide)
/-- a comprehension without a test, over plain values, that changes nothing -/
theorem lc_all {te : RE} {i : Nat} {σ : Sg} {Qf : List D → Hq → Prop} {S : Hq} {gd : Hq → Prop} (P : D → Prop) (hg : gd S) (xs : List D)
    (h : ∀ x ∈ xs, ∀ (Q : Qv), (∀ y, P y → Q y S) → te ((wipeD σ [i]).set i (some x)) S Q NoX) (hz : xs.length ≤ 1000000)
    (k : ∀ acc, acc.length = xs.length → (∀ y ∈ acc, P y) → Qf acc S) : lcP gd (gNm i) rYes te [i] σ Qf xs [] S :=
  lc_draw (fun S' => S' = S) P (fun _ h => h ▸ hg) xs [] S (fun x hx S' Q hi q => by subst hi; exact h x hx Q fun y hy => q y _ hy rfl) (by simpa using hz) (by simp) rfl
    (fun acc S' hl hp hi => by subst hi; exact k acc (by simpa using hl) hp)
theorem cutL_mem {α : Type} {xs : List α} {lo hi : Option Int} {x : α} (h : x ∈ cutL xs lo hi) : x ∈ xs := by unfold cutL at h; exact List.mem_of_mem_drop (List.mem_of_mem_take h)
theorem cutL_len {α : Type} {xs : List α} {lo hi : Option Int} : (cutL xs lo hi).length ≤ xs.length := by unfold cutL; rw [List.length_take, List.length_drop]; omega
theorem g_03a {α : Type} {a b c : α} : gk 0 3 [2, 1, 0] [] [a, b, c] = [c, b, a] := rfl
theorem g_03b {α : Type} {a b c : α} : gk 0 3 [0, 1, 2] [] [a, b, c] = [a, b, c] := rfl
theorem g_03c {α : Type} {a b c : α} : gk 0 3 [1, 2, 0] [] [a, b, c] = [b, c, a] := rfl
theorem g_03d {α : Type} {a b c : α} : gk 0 3 [2, 0, 1] [] [a, b, c] = [c, a, b] := rfl
theorem g_03e {α : Type} {a b c : α} : gk 0 3 [1, 0, 2] [] [a, b, c] = [b, a, c] := rfl
theorem g_03f {α : Type} {a b c : α} : gk 0 3 [0, 2, 1] [] [a, b, c] = [a, c, b] := rfl
theorem Nx.ofEx {b : Addr} {S S' : Hq} (h : Bx S b) (e : Ex S S') : Nx b S S' := ⟨let ⟨g, s, h⟩ := h; ⟨g, s, e _ _ h⟩, fun a o _ h => e a o h⟩
/-- name op= an int -/
def rAug (i : Nat) (f : Int → Int → Int) (r : RE) : RSt := fun D σ S => match σ[i]? with
  | some (some (.int a)) => r σ S (fun y S1 => asI y fun b => D.nx (σ.set i (some (.int (f a b)))) S1) (D.x σ)
  | _ => False
theorem es_aug {X : Cx} {W : WX} {e : Expr} {r : RE} {pos : Pos} {op : Operator} {f : Int → Int → Int} (i : Nat) {x : Str} {pos' : Pos} (ho : PIp X op (ipI f)) (hN : X.N.Nodup) (he : EV X W e r) (hi : X.N[i]? = some x := by rfl) (hx : Loc X.env.scope x := by first | exact .inl rfl | exact .inr rfl)
    (hf : X.fn x = true ∨ X.env.scope.names.lookup x = some .local := by first | exact .inl rfl | exact .inr rfl | assumption) : ES X W (.AugAssign (.Name x pos') op e pos) (rAug i f r) := by
  obtain ⟨T, p, l⟩ := he.ex
  refine ⟨_, ps_aug hN hi hx p ho hf, fun σ σ' H S D D' rs rh h d => ?_⟩
  unfold rAug at h
  split at h
  · rename_i a e
    obtain ⟨v, e', dv⟩ := rs.get i _ e
    cases dv
    refine ⟨_, e', l σ σ' H S _ _ _ rs rh h (fun y S1 u H1 f1 rh1 du h1 => ?_) (d.xi rh rs)⟩
    cases y <;> try exact h1.elim
    cases du
    exact ⟨_, _, rfl, rfl, d.nx _ _ _ _ f1 rh1 ((rs.mono (f1.tle rh)).set (.int _) i) h1⟩
  · exact h.elim
end Y
set_option maxHeartbeats 2000000
namespace Y
open PySem PySem.Spec PyProof.Rows L2
/-! ### sorted of bools -/
def sortB (bs : List Bool) : List Bool := bs.mergeSort (PySem.W.dataLe false fun b => .bool b)
def rSortedB (K : PySem.W.Frag) : List V → Hp → VK → Prop := fun vs H Q => ∃ (a : Addr) (bs : List Bool), vs = [V.ref a] ∧ SqL K H a (bs.map V.bl) ∧ ∀ p, H p = none → Q (.ref p) (upd H p (.lst ((sortB bs).map V.bl)))
theorem each_bl : ∀ {bs : List Bool} {its : List Value}, Vals (bs.map V.bl) its → PySem.W.EachIs (fun (v : Value) (b : Bool) => v = .bool b) its bs
  | [], _, r => by
    have r : Vals [] _ := r
    cases r; exact .nil
  | b :: bs, _, r => by
    have r : Vals (V.bl b :: bs.map V.bl) _ := r
    cases r with
    | cons h t => exact .cons h (each_bl t)
theorem vals_bl : ∀ {bs : List Bool} {its : List Value}, PySem.W.EachIs (fun (v : Value) (b : Bool) => v = .bool b) its bs → Vals (bs.map V.bl) its
  | _, _, .nil => .nil
  | _, _, .cons h t => .cons h (vals_bl t)
theorem cr_sortedB {X : Cx} (hu : X.A.units + 64 < cLine) : CallR X (.builtin "sorted") (rSortedB X.K) := by
  intro pins s σ H vs us Q I r h
  obtain ⟨a, bs, rfl, hs, q⟩ := h
  obtain ⟨its, rv, hl, hz⟩ := I.list hs
  rw [Vals.ref1 r]
  have he := each_bl rv
  have hlen0 := rv.length
  rw [List.length_map] at hlen0
  refine PySem.W.sorted_data (enc := fun b => .bool b) hl.isList he (he.mono fun v b e => ⟨[], by rw [e]; exact .bool b⟩) (.of fun _ _ => by simp [PySem.W.alike]) (.others fun _ => ⟨by simp, by simp⟩)
    (by rw [List.length_map] at hz; exact hz) (fun b _ => by simp only [PyData.depth]; omega) fun out h1 h2 => ?_
  obtain ⟨ep, he'⟩ := PyProof.Rows.sortedAll_at s.heap its out.toArray
  have hlen : ((sortB bs).map V.bl).length ≤ sizeLine := by
    rw [List.length_map]
    unfold sortB
    rw [List.length_mergeSort]
    rw [List.length_map] at hz; exact hz
  exact ⟨.ref _, upd H (s.heap.objs.size + 1) (.lst ((sortB bs).map V.bl)), I.laid (t' := s.toks) (fun _ _ => PyProof.Rows.sortedAll_old) (Nat.le_succ _) ⟨hlen, out, ep, vals_bl h2, he'⟩, rfl, q _ (I.hok.fresh (Nat.le_succ _))⟩
def srtBM (m : Nw2) (ds : List D) (S : Hq) (Q : Qv) : Prop := match ds with
  | [x] => lsv x S fun xs => ∃ bs : List Bool, xs = bs.map D.bl ∧ m ((sortB bs).map D.bl) S Q
  | _ => False
theorem DVs.ofBls {K : PySem.W.Frag} {H : Hp} : ∀ {zs : List Bool}, DVs K H (zs.map D.bl) (zs.map V.bl)
  | [] => .nil
  | _ :: _ => .cons (.bl _) DVs.ofBls
theorem DVs.bls {K : PySem.W.Frag} {H : Hp} : ∀ {bs : List Bool} {vs : List V}, DVs K H (bs.map D.bl) vs → vs = bs.map V.bl
  | [], _, .nil => rfl
  | b :: bs, _, .cons x r => by
    cases x
    rw [DVs.bls r]; rfl
theorem lc_srtBT {K : PySem.W.Frag} : LiftC K (srtBM nwT) (rSortedB K) := by
  intro ds S H Q' Q vs rh dv h q
  rcases ds with _ | ⟨x, _ | ⟨y, r⟩⟩
  · exact h.elim
  · cases dv with | @cons _ v _ _ dx t =>
    cases t
    obtain ⟨a, xs, vs, rfl, s, r, h, _⟩ := rh.lsv dx h
    obtain ⟨bs, rfl, h⟩ := h
    rw [DVs.bls r] at s
    exact ⟨a, bs, rfl, s, fun p hn => q.newL rh hn DVs.ofBls (h p (rh.fresh hn))⟩
  · exact h.elim
theorem cr_srtBF {X : Cx} (hu : X.A.units + 64 < cLine) : CallR X (.builtin "sorted") (fun xs H Q => rSortedB X.K xs H (fzV Q)) := callr_fz (cr_sortedB hu)
theorem lc_srtBF {K : PySem.W.Frag} : LiftC K (srtBM nwF) (fun xs H Q => rSortedB K xs H (fzV Q)) := liftc_fz lc_srtBT fun ds S Q h => by
  rcases ds with _ | ⟨x, _ | ⟨y, r⟩⟩
  · exact h.elim
  · refine lsv_mono h fun xs h => ?_
    obtain ⟨bs, e, h⟩ := h
    exact ⟨bs, e, nw_fz h⟩
  · exact h.elim
theorem q_srtB {m : Nw2} {x : D} {S : Hq} {Q : Qv} : srtBM m [x] S Q = lsv x S fun xs => ∃ bs : List Bool, xs = bs.map D.bl ∧ m ((sortB bs).map D.bl) S Q := rfl
theorem dataLe_bl (a b : Bool) : PySem.W.dataLe false (fun b => PyData.bool b) a b = (!a || b) := by
  rw [PySem.W.dataLe_eq]
  cases a <;> cases b <;> simp [PySem.W.dataLt, PySem.W.keyToks] <;> decide +kernel
theorem sortB_tf {a b : Bool} (h : a ≠ b) : sortB [a, b] = [false, true] := by
  have e : PySem.W.dataLe false (fun b => PyData.bool b) = fun a b => (!a || b) := by funext a b; exact dataLe_bl a b
  unfold sortB
  rw [e]
  cases a <;> cases b <;> first | exact absurd rfl h | simp [List.mergeSort, List.MergeSort.Internal.splitInTwo, List.merge]
theorem q_i2K {xs : List D} {S : Hq} {Q : Qv} : isi2D [.kl xs, .tup [.ty "tuple", .ty "list"]] S Q = Q (.bl true) S := rfl
theorem q_j2K {xs : List D} {S : Hq} {Q : Qv} : isi2D [.kl xs, .tup [.ty "list", .ty "tuple"]] S Q = Q (.bl true) S := rfl
theorem zipD_zip : ∀ (xs ys : List D), zipD xs ys = (xs.zip ys).map fun p => .tup [p.1, p.2]
  | [], [] => rfl
  | [], _ :: _ => rfl
  | _ :: _, [] => rfl
  | x :: xs, y :: ys => by rw [List.zip_cons_cons, List.map_cons, ← zipD_zip]; rfl
/-! ### comprehensions of which nothing is taken, while things change -/
theorem lc_none {gd : Hq → Prop} {tt : RT} {te : RE} {i : Nat} {σ : Sg} {Qf : List D → Hq → Prop} (I : Nat → Hq → Prop) (hg : ∀ j S, I j S → gd S) : ∀ (xs : List D) (k : Nat) (S : Hq),
    (∀ j x S, xs[j]? = some x → I (k + j) S → ∀ Q : Bool → Hq → Prop, (∀ S', I (k + j + 1) S' → Q false S') → tt ((wipeD σ [i]).set i (some x)) S Q NoX) → I k S → (∀ S', I (k + xs.length) S' → Qf [] S') → lcP gd (gNm i) tt te [i] σ Qf xs [] S
  | [], k, S, _, hi, q => ⟨hg k S hi, q S hi⟩
  | x :: r, k, S, h, hi, q => by
    refine ⟨hg k S hi, ?_⟩
    refine h 0 x S rfl hi _ fun S' hi' => ?_
    rw [if_neg (by decide)]
    refine lc_none I hg r (k + 1) S' (fun j y S hx hi => ?_) hi' (fun S' hi => ?_)
    · have := h (j + 1) y S hx
      rw [show k + 1 + j = k + (j + 1) by omega] at hi ⊢
      exact this hi
    · exact q S' (by rw [List.length_cons, show k + (r.length + 1) = k + 1 + r.length by omega]; exact hi)
theorem lc_mapS {α : Type} {gd : Hq → Prop} {te : RE} {i : Nat} {σ : Sg} {Qf : List D → Hq → Prop} (I : Hq → Prop) (hg : ∀ S, I S → gd S) (e k : α → D) : ∀ (ws : List α) (acc : List D) (S : Hq),
    (∀ x ∈ ws, ∀ (S : Hq) (Q : Qv), I S → (∀ S', I S' → Q (k x) S') → te ((wipeD σ [i]).set i (some (e x))) S Q NoX) → acc.length + ws.length ≤ 1000000 → I S → (∀ S', I S' → Qf (acc ++ ws.map k) S') → lcP gd (gNm i) rYes te [i] σ Qf (ws.map e) acc S
  | [], acc, S, _, _, hi, q => ⟨hg S hi, by simpa using q S hi⟩
  | x :: r, acc, S, h, hz, hi, q => by
    refine ⟨hg S hi, ?_⟩
    show te ((wipeD σ [i]).set i (some (e x))) S (fun y S4 => acc.length < 1000000 ∧ lcP gd (gNm i) rYes te [i] σ Qf (r.map e) (acc ++ [y]) S4) NoX
    refine h x (by simp) S _ hi fun S' hi' => ⟨by simp at hz; omega, ?_⟩
    exact lc_mapS I hg e k r (acc ++ [k x]) S' (fun y hy => h y (by simp [hy])) (by simp at hz ⊢; omega) hi' (fun S2 hi2 => by simpa using q S2 hi2)
end Y
namespace Y
open PySem PySem.Spec PyProof.Rows L2
/-! ### dicts whose keys are numbers and texts -/
def kD : Key → D
  | .inl i => .int i
  | .inr x => .str x
def keyD : D → Option Key
  | .int i => some (.inl i)
  | .str x => some (.inr x)
  | _ => none
theorem keyD_kD (k : Key) : keyD (kD k) = some k := by cases k <;> rfl
section
variable {κ : Type} [DecidableEq κ]
def valQ (kvs : List (κ × D)) (k : κ) : Option D := (kvs.find? fun kv => decide (kv.1 = k)).map (·.2)
def putQ (kvs : List (κ × D)) (k : κ) (v : D) : List (κ × D) :=
  if (kvs.any fun kv => decide (kv.1 = k)) = true then kvs.map (fun kv => if kv.1 = k then (kv.1, v) else kv) else kvs ++ [(k, v)]
def delQ (kvs : List (κ × D)) (k : κ) : List (κ × D) := kvs.filter fun kv => decide (kv.1 ≠ k)
theorem valQ_nil {k : κ} : valQ ([] : List (κ × D)) k = none := rfl
theorem valQ_pos {p : κ × D} {r : List (κ × D)} {k : κ} (e : p.1 = k) : valQ (p :: r) k = some p.2 := by simp [valQ, List.find?_cons, e]
theorem valQ_neg {p : κ × D} {r : List (κ × D)} {k : κ} (e : ¬ p.1 = k) : valQ (p :: r) k = valQ r k := by simp [valQ, List.find?_cons, e]
theorem valQ_any (k : κ) : ∀ kvs : List (κ × D), (kvs.any fun kv => decide (kv.1 = k)) = (valQ kvs k).isSome
  | [] => rfl
  | p :: r => by
    by_cases e : p.1 = k
    · rw [valQ_pos e, List.any_cons, decide_eq_true e]; rfl
    · rw [valQ_neg e, List.any_cons, decide_eq_false e, Bool.false_or]; exact valQ_any k r
theorem putQ_new {kvs : List (κ × D)} {k : κ} {v : D} (h : k ∉ kvs.map (·.1)) : putQ kvs k v = kvs ++ [(k, v)] := by
  unfold putQ
  rw [if_neg]
  intro z
  obtain ⟨p, hp, e⟩ := List.any_eq_true.mp z
  exact h (List.mem_map.mpr ⟨p, hp, of_decide_eq_true e⟩)
theorem valQ_of_mem {kvs : List (κ × D)} {p : κ × D} (hn : (kvs.map (·.1)).Nodup) (h : p ∈ kvs) : valQ kvs p.1 = some p.2 := by
  induction kvs with
  | nil => cases h
  | cons q r ih =>
    rw [List.map_cons, List.nodup_cons] at hn
    rcases List.mem_cons.mp h with rfl | h
    · exact valQ_pos rfl
    · rw [valQ_neg (fun z => hn.1 (by rw [z]; exact List.mem_map_of_mem h))]
      exact ih hn.2 h
theorem valQ_none {kvs : List (κ × D)} {k : κ} (h : k ∉ kvs.map (·.1)) : valQ kvs k = none := by
  induction kvs with
  | nil => rfl
  | cons q r ih =>
    rw [List.map_cons] at h
    rw [valQ_neg (fun z => h (by rw [z]; exact List.mem_cons_self))]
    exact ih fun z => h (List.mem_cons_of_mem _ z)
section
variable {K : PySem.W.Frag} {H : Hp} {ds : List (κ × D)} {vs : List (κ × V)}
theorem Dc.length : ∀ {ds : List (κ × D)} {vs : List (κ × V)}, Dc K H ds vs → ds.length = vs.length
  | _, _, .nil => rfl
  | _, _, .cons _ r => congrArg (· + 1) (Dc.length r)
theorem Dc.keys : ∀ {ds : List (κ × D)} {vs : List (κ × V)}, Dc K H ds vs → ds.map (·.1) = vs.map (·.1)
  | _, _, .nil => rfl
  | _, _, .cons _ r => by rw [List.map_cons, List.map_cons, Dc.keys r]
theorem Dc.app : ∀ {ds es : List (κ × D)} {vs ws : List (κ × V)}, Dc K H ds vs → Dc K H es ws → Dc K H (ds ++ es) (vs ++ ws)
  | _, _, _, _, .nil, s => s
  | _, _, _, _, .cons x r, s => .cons x (Dc.app r s)
theorem Dc.any (k : κ) : ∀ {ds : List (κ × D)} {vs : List (κ × V)}, Dc K H ds vs → (ds.any fun kv => decide (kv.1 = k)) = (vs.any fun kv => decide (kv.1 = k))
  | _, _, .nil => rfl
  | _, _, .cons _ r => by rw [List.any_cons, List.any_cons, Dc.any k r]
theorem Dc.val (k : κ) : ∀ {ds : List (κ × D)} {vs : List (κ × V)}, Dc K H ds vs → (valQ ds k = none ∧ valV vs k = none) ∨ ∃ d v, valQ ds k = some d ∧ valV vs k = some v ∧ DV K H d v
  | _, _, .nil => .inl ⟨rfl, rfl⟩
  | (k', d) :: _, (_, v) :: _, .cons x r => by
    by_cases e : k' = k
    · exact .inr ⟨d, v, valQ_pos e, valV_pos e, x⟩
    · rw [valQ_neg (show ¬ (k', d).1 = k from e), valV_neg (show ¬ (k', v).1 = k from e)]
      exact Dc.val k r
theorem Dc.repl (k : κ) {d : D} {v : V} (y : DV K H d v) : ∀ {ds : List (κ × D)} {vs : List (κ × V)}, Dc K H ds vs → Dc K H (ds.map fun kv => if kv.1 = k then (kv.1, d) else kv) (vs.map fun kv => if kv.1 = k then (kv.1, v) else kv)
  | _, _, .nil => .nil
  | (k', d') :: _, (_, v') :: _, .cons x r => by
    rw [List.map_cons, List.map_cons]
    by_cases e : k' = k
    · rw [if_pos (show (k', d').1 = k from e), if_pos (show (k', v').1 = k from e)]; exact .cons y (Dc.repl k y r)
    · rw [if_neg (show ¬ (k', d').1 = k from e), if_neg (show ¬ (k', v').1 = k from e)]; exact .cons x (Dc.repl k y r)
theorem Dc.put (k : κ) {d : D} {v : V} (y : DV K H d v) (r : Dc K H ds vs) : Dc K H (putQ ds k d) (L2.putK vs k v) := by
  unfold putQ L2.putK
  rw [r.any k]
  by_cases q : (vs.any fun kv => decide (kv.1 = k)) = true
  · rw [if_pos q, if_pos q]; exact Dc.repl k y r
  · rw [if_neg q, if_neg q]; exact Dc.app r (.cons y .nil)
theorem Dc.del (k : κ) : ∀ {ds : List (κ × D)} {vs : List (κ × V)}, Dc K H ds vs → Dc K H (delQ ds k) (dropK vs k)
  | _, _, .nil => .nil
  | (k', d) :: ds, (_, v) :: vs, .cons x r => by
    have ih := Dc.del k r
    unfold delQ dropK at ih ⊢
    by_cases e : k' = k
    · rw [List.filter_cons_of_neg (by simp [e]), List.filter_cons_of_neg (by simp [e])]; exact ih
    · rw [List.filter_cons_of_pos (by simp [e]), List.filter_cons_of_pos (by simp [e])]; exact .cons x ih
end
end

section
variable {X : Cx} {K : PySem.W.Frag} {S : Hq} {H : Hp} {W : WX} {a b : Expr} {ra rb : RE} {pos : Pos}
theorem DV.ofKey {y : D} {v : V} {k : Key} (e : keyD y = some k) (d : DV K H y v) : v = kV k := by
  cases d <;> cases e <;> rfl
/-- the dict at a holds these, in this order; it may be locked -/
def GtK (S : Hq) (a : Addr) (kvs : List (Key × D)) : Prop := S a = some (.dk kvs) ∨ ∃ o ys, S a = some (.fk o ys kvs)
theorem RH.gtK {a : Addr} {kvs : List (Key × D)} (rh : RH K S H) (h : GtK S a kvs) : ∃ ys, Rd H a (.dK ys) ∧ Dc K H kvs ys := by
  rcases h with h | ⟨o, ys, h⟩
  · obtain ⟨ys, hy, r⟩ := rh _ _ h; exact ⟨ys, .inl hy, r⟩
  · obtain ⟨hy, r⟩ := rh _ _ h; exact ⟨ys, .inr ⟨o, hy⟩, r⟩
/-- y in d, y not in d -/
def inK (f : Bool → Bool) : R2q := fun y x S Q => match x, keyD y with
  | .ref a, some k => ∃ kvs, GtK S a kvs ∧ Q (.bl (f (valQ kvs k).isSome)) S
  | _, _ => False
def rInDk (f : Bool → Bool) : R2 := fun y x H Q => ∃ a o, x = .ref a ∧ DGet H a y o ∧ Q (.bl (f o.isSome)) H
theorem op_inK (hu : X.A.units + 1 < cLine) : OpR X (compareOp .In) (rInDk id) := by
  intro pins s σ H x y v u Q I rx ry h
  obtain ⟨a, o, rfl, g, q⟩ := h
  cases ry
  exact d_in hu I g rx fun s3 I3 => ⟨.bl o.isSome, H, I3, rfl, q⟩
theorem op_notInK (hu : X.A.units + 1 < cLine) : OpR X (compareOp .NotIn) (rInDk not) := by
  intro pins s σ H x y v u Q I rx ry h
  obtain ⟨a, o, rfl, g, q⟩ := h
  cases ry
  exact d_notIn hu I g rx fun s3 I3 => ⟨.bl (!o.isSome), H, I3, rfl, q⟩
theorem lf_inK {f : Bool → Bool} : Lift2 K (inK f) (rInDk f) := by
  intro x y S H Q' Q v u rh dx dy h q
  cases y <;> try exact h.elim
  rename_i a
  cases dy
  cases e : keyD x with
  | none => unfold inK at h; rw [e] at h; exact h.elim
  | some k =>
    unfold inK at h; rw [e] at h
    obtain ⟨kvs, es, h⟩ := h
    obtain ⟨ys, hy, r⟩ := rh.gtK es
    obtain rfl := DV.ofKey e dx
    refine ⟨a, valV ys k, rfl, .inl ⟨ys, k, hy, rfl, rfl⟩, q.here rh (.bl _) ?_⟩
    rcases r.val k with ⟨e1, e2⟩ | ⟨d, w, e1, e2, _⟩ <;> (rw [e1] at h; rw [e2]; exact h)
/-- d[y], there -/
def getK : R2q := fun x y S Q => match x, keyD y with
  | .ref a, some k => ∃ kvs d, GtK S a kvs ∧ valQ kvs k = some d ∧ Q d S
  | _, _ => False
theorem ev_dget (hu : X.A.units + 1 < cLine) (ha : EV X W a ra) (hb : EV X W b rb) (hs : NoSl b := by exact fun _ _ => rfl) : EV X W (.Subscript a b pos) (rBin getK ra rb) := by
  obtain ⟨Ta, pa, la⟩ := ha.ex
  obtain ⟨Tb, pb, lb⟩ := hb.ex
  refine ⟨_, pe_dget hu pa pb hs, fun σ σ' H S Q Q' E' rs rh h q xi => ?_⟩
  refine la σ σ' H S _ _ E' rs rh h (fun d S1 v H1 f1 rh1 dv h1 => ?_) xi
  refine lb σ σ' H1 S1 _ _ E' (rs.mono (f1.tle rh)) rh1 h1 (fun e S2 u H2 f2 rh2 du h2 => ?_) (xi.go f1)
  have dv := DV.mono (f2.tle rh1) _ _ dv
  cases d <;> try exact h2.elim
  cases dv
  rename_i a
  cases e' : keyD e with
  | none => unfold getK at h2; rw [e'] at h2; exact h2.elim
  | some k =>
    unfold getK at h2; rw [e'] at h2
    obtain ⟨kvs, d, es, ev, h2⟩ := h2
    obtain ⟨ys, hy, r⟩ := rh2.gtK es
    obtain rfl := DV.ofKey e' du
    rcases r.val k with ⟨e1, _⟩ | ⟨d', w, e1, e2, dw⟩
    · rw [e1] at ev; cases ev
    · rw [e1] at ev; cases ev
      exact ⟨a, w, rfl, by rw [← e2]; exact .inl ⟨ys, k, hy, rfl, rfl⟩, (q.go (f1.trans f2)).here rh2 dw h2⟩
/-- d[y] = v -/
def setK (o i d : D) (S : Hq) (Q : Hq → Prop) : Prop := match o, keyD i with
  | .ref a, some k => ∃ kvs, S a = some (.dk kvs) ∧ kvs.length < 1000000 ∧ Q (up S a (.dk (putQ kvs k d)))
  | _, _ => False
def gDk (ro ri : RE) : RG := fun d σ S N E => ro σ S (fun o S1 => ri σ S1 (fun i S2 => setK o i d S2 (fun S3 => N σ S3)) E) E
def rSetDk : TSet := fun x y v H Q => ∃ a H4, x = .ref a ∧ DPut H a y v H4 ∧ Q H4
theorem set_dk (hu : X.A.units + 1 < cLine) : PSet X rSetDk := by
  intro pins s σ H o i v ov iv u Q I ro ri rv h
  obtain ⟨a, H4, rfl, g, q⟩ := h
  obtain rfl : ov = Value.ref a := ro
  exact d_setItem hu I g ri rv fun s4 I4 => ⟨H4, I4, q⟩
theorem eg_dk {o i : Expr} {ro ri : RE} (hu : X.A.units + 1 < cLine) (ho : EV X W o ro) (hi : EV X W i ri)
    (ha : ∀ v, assign (.Subscript o i pos) X.env v = (do
      let ov ← holding [v] (eval o X.env)
      let iv ← holding [v, ov] (eval i X.env)
      standAt pos
      holding [v, ov, iv] (setItem ov iv v)
      release [v, ov, iv] []) := by intro _; rfl) : EG X W (.Subscript o i pos) (gDk ro ri) := by
  obtain ⟨To, po, lo⟩ := ho.ex
  obtain ⟨Ti, pi, li⟩ := hi.ex
  refine ⟨_, pg_sub po pi (set_dk hu) ha, fun σ σ' H S d v N N' E' rs rh dv h n x => ?_⟩
  refine lo σ σ' H S _ _ E' rs rh h (fun o S1 ov H1 f1 rh1 do1 h1 => ?_) x
  refine li σ σ' H1 S1 _ _ E' (rs.mono (f1.tle rh)) rh1 h1 (fun i S2 iv H2 f2 rh2 di h2 => ?_) (x.go f1)
  have do1 := DV.mono (f2.tle rh1) _ _ do1
  cases o <;> try exact h2.elim
  cases do1
  rename_i a
  cases e' : keyD i with
  | none => unfold setK at h2; rw [e'] at h2; exact h2.elim
  | some k =>
    unfold setK at h2; rw [e'] at h2
    obtain ⟨kvs, es, hl, h2⟩ := h2
    obtain ⟨ys, hy, r⟩ := rh2 _ _ es
    obtain rfl := DV.ofKey e' di
    have f12 := f1.trans f2
    have hl' : ys.length < sizeLine := by rw [← r.length, sizeLine_eq]; omega
    have tle := RH.putTle rh2 (o := .dK (L2.putK ys k v)) es
    have dv2 := DV.mono tle _ _ (DV.mono (f12.tle rh) _ _ dv)
    have fr : Fr S2 H2 (up S2 a (.dk (putQ kvs k d))) (upd H2 a (.dK (L2.putK ys k v))) := Fr.put es
    refine ⟨a, _, rfl, DPut.k hy hl', n _ _ _ _ (f12.trans fr) (RH.put rh2 es ⟨_, upd_same, (r.mono tle).put k dv2⟩) ((rs.mono (f12.tle rh)).mono tle) h2⟩
/-- {} -/
def rDNew : RE := fun _ S Q _ => ∀ p, S p = none → Q (.ref p) (up S p (.dk []))
theorem ev_dnew : EV X W (.Dict [] [] pos) rDNew := by
  refine ⟨_, pe_dnewK, fun σ σ' H S Q Q' E' rs rh h q xi => fun p hp => ?_⟩
  exact q _ _ _ _ (Fr.new2 rh hp) (RH.new2 (q := .dk []) rh hp ⟨[], upd_same, .nil⟩) (.ref p) (h p (rh.fresh hp))
theorem k_inS {x : Str} {a : Addr} {f : Bool → Bool} {Q : Qv} : inK f (.str x) (.ref a) S Q = (∃ kvs, GtK S a kvs ∧ Q (.bl (f (valQ kvs (.inr x)).isSome)) S) := rfl
theorem k_inI {x : Int} {a : Addr} {f : Bool → Bool} {Q : Qv} : inK f (.int x) (.ref a) S Q = (∃ kvs, GtK S a kvs ∧ Q (.bl (f (valQ kvs (.inl x)).isSome)) S) := rfl
theorem k_getS {x : Str} {a : Addr} {Q : Qv} : getK (.ref a) (.str x) S Q = (∃ kvs d, GtK S a kvs ∧ valQ kvs (.inr x) = some d ∧ Q d S) := rfl
theorem k_getI {x : Int} {a : Addr} {Q : Qv} : getK (.ref a) (.int x) S Q = (∃ kvs d, GtK S a kvs ∧ valQ kvs (.inl x) = some d ∧ Q d S) := rfl
theorem k_setS {x : Str} {a : Addr} {d : D} {Q : Hq → Prop} : setK (.ref a) (.str x) d S Q = (∃ kvs, S a = some (.dk kvs) ∧ kvs.length < 1000000 ∧ Q (up S a (.dk (putQ kvs (.inr x) d)))) := rfl
theorem k_setI {x : Int} {a : Addr} {d : D} {Q : Hq → Prop} : setK (.ref a) (.int x) d S Q = (∃ kvs, S a = some (.dk kvs) ∧ kvs.length < 1000000 ∧ Q (up S a (.dk (putQ kvs (.inl x) d)))) := rfl
end
end Y
namespace Y
open PySem PySem.Spec PyProof.Rows L2
/-! ### a dict is locked while it is walked -/
/-- the statement runs while the dict at d is locked; which dict, the proof says -/
def rLock (t : RSt) : RSt := fun D σ S => ∃ d kvs, S d = some (.dk kvs) ∧ ∀ od ys, t ⟨fun σ' S' => S' d = some (.fk od ys kvs) ∧ D.nx σ' (up S' d (.dk kvs)), fun v S' => S' d = some (.fk od ys kvs) ∧ D.rt v (up S' d (.dk kvs)), fun σ' S' => S' d = some (.fk od ys kvs) ∧ D.bk σ' (up S' d (.dk kvs)), fun σ' S' => S' d = some (.fk od ys kvs) ∧ D.ct σ' (up S' d (.dk kvs)), D.ex⟩ σ (up S d (.fk od ys kvs))
def rLockE (r : RE) : RE := fun σ S Q E => ∃ d kvs, S d = some (.dk kvs) ∧ ∀ od ys, r σ (up S d (.fk od ys kvs)) (fun v S' => S' d = some (.fk od ys kvs) ∧ Q v (up S' d (.dk kvs))) E
section
variable {X : Cx} {K : PySem.W.Frag} {S : Hq} {H : Hp} {W : WX}
theorem lock_on {a : Addr} {kvs : List (Key × D)} {ys : List (Key × V)} (rh : RH K S H) (e : S a = some (.dk kvs)) (r : Dc K H kvs ys) (od : Obj) :
    Fr S H (up S a (.fk od ys kvs)) (upd H a (.frz od (.dK ys))) ∧ RH K (up S a (.fk od ys kvs)) (upd H a (.frz od (.dK ys))) ∧ Tle K H (upd H a (.frz od (.dK ys))) :=
  have t := RH.putTle rh (o := .frz od (.dK ys)) e
  ⟨Fr.put e, RH.put rh e ⟨upd_same, r.mono t⟩, t⟩
theorem lock_off {a : Addr} {kvs : List (Key × D)} {ys : List (Key × V)} {od : Obj} {S' : Hq} {H' : Hp} (e0 : S a = some (.dk kvs)) (f : Fr (up S a (.fk od ys kvs)) (upd H a (.frz od (.dK ys))) S' H') (rh : RH K S' H') (e : S' a = some (.fk od ys kvs)) :
    H' a = some (.frz od (.dK ys)) ∧ Fr S H (up S' a (.dk kvs)) (upd H' a (.dK ys)) ∧ RH K (up S' a (.dk kvs)) (upd H' a (.dK ys)) ∧ Tle K H' (upd H' a (.dK ys)) := by
  obtain ⟨hy, r⟩ := rh _ _ e
  have t := RH.putTle rh (o := .dK ys) e
  refine ⟨hy, fun b o hb nb => ?_, RH.put rh e ⟨ys, upd_same, r.mono t⟩, t⟩
  have hba : b ≠ a := fun z => by rw [z, e0] at nb; cases nb
  obtain ⟨h1, h2⟩ := f b o (by rw [upd_ne hba]; exact hb) (by rw [up_ne hba]; exact nb)
  exact ⟨by rw [upd_ne hba]; exact h1, by rw [up_ne hba]; exact h2⟩
theorem es_lock {st : Stmt} {t : RSt} (h : ES X W st t) : ES X W st (rLock t) := by
  obtain ⟨T, p, l⟩ := h.ex
  refine ⟨_, ps_lock p, fun σ σ' H S D D' rs rh h d => ?_⟩
  obtain ⟨a, kvs, e, h⟩ := h
  obtain ⟨ys, hy, r⟩ := rh _ _ e
  refine ⟨a, .dK ys, hy, trivial, fun od => ?_⟩
  obtain ⟨f1, rh1, t1⟩ := lock_on rh e r od
  refine l σ σ' _ _ _ _ (rs.mono t1) rh1 (h od ys) ⟨?_, ?_, ?_, ?_, ?_⟩
  · exact fun σ2' S2 σ2 H2 f2 rh2 rs2 h2 => let ⟨b1, b2, b3, b4⟩ := lock_off e f2 rh2 h2.1; ⟨b1, d.nx _ _ _ _ b2 b3 (rs2.mono b4) h2.2⟩
  · exact fun x S2 v H2 f2 rh2 dv h2 => let ⟨b1, b2, b3, b4⟩ := lock_off e f2 rh2 h2.1; ⟨b1, d.rt _ _ _ _ b2 b3 (DV.mono b4 _ _ dv) h2.2⟩
  · exact fun σ2' S2 σ2 H2 f2 rh2 rs2 h2 => let ⟨b1, b2, b3, b4⟩ := lock_off e f2 rh2 h2.1; ⟨b1, d.bk _ _ _ _ b2 b3 (rs2.mono b4) h2.2⟩
  · exact fun σ2' S2 σ2 H2 f2 rh2 rs2 h2 => let ⟨b1, b2, b3, b4⟩ := lock_off e f2 rh2 h2.1; ⟨b1, d.ct _ _ _ _ b2 b3 (rs2.mono b4) h2.2⟩
  · exact fun n C fs σ2' S2 σ2 H2 x c f2 rh2 rs2 ok nw h2 => d.ex n C fs σ2' S2 σ2 H2 x c (f1.trans f2) rh2 rs2 ok (nw.go f1) h2
theorem ev_lock {e : Expr} {r : RE} (h : EV X W e r) : EV X W e (rLockE r) := by
  obtain ⟨T, p, l⟩ := h.ex
  refine ⟨_, pe_lock p, fun σ σ' H S Q Q' E' rs rh h q xi => ?_⟩
  obtain ⟨a, kvs, e, h⟩ := h
  obtain ⟨ys, hy, r⟩ := rh _ _ e
  refine ⟨a, .dK ys, hy, trivial, fun od => ?_⟩
  obtain ⟨f1, rh1, t1⟩ := lock_on rh e r od
  refine l σ σ' _ _ _ _ _ (rs.mono t1) rh1 (h od ys) (fun x S2 v H2 f2 rh2 dv h2 => ?_) (xi.go f1)
  obtain ⟨b1, b2, b3, b4⟩ := lock_off e f2 rh2 h2.1
  exact ⟨b1, q _ _ _ _ b2 b3 (DV.mono b4 _ _ dv) h2.2⟩
/-! walks -/
def keysD (x : D) (S1 : Hq) (R : List D → (Hq → Prop) → Hq → Prop) : Prop := match x with
  | .ref a => ∃ o ys kvs, S1 a = some (.fk o ys kvs) ∧ R (kvs.map fun p => kD p.1) (fun S => S a = some (.fk o ys kvs)) S1
  | _ => False
def valsD (x : D) (S1 : Hq) (R : List D → (Hq → Prop) → Hq → Prop) : Prop := match x with
  | .ref a => ∃ o ys kvs, S1 a = some (.fk o ys kvs) ∧ R (kvs.map fun p => p.2) (fun S => S a = some (.fk o ys kvs)) S1
  | _ => False
def itemD (x : D) (S1 : Hq) (R : List D → (Hq → Prop) → Hq → Prop) : Prop := match x with
  | .ref a => ∃ o ys kvs, S1 a = some (.fk o ys kvs) ∧ R (kvs.map fun p => .tup [kD p.1, p.2]) (fun S => S a = some (.fk o ys kvs)) S1
  | _ => False
def iKys (r : RE) : RI := fun σ S R E => r σ S (fun x S1 => keysD x S1 R) E
def iVls (r : RE) : RI := fun σ S R E => r σ S (fun x S1 => valsD x S1 R) E
def iIts (r : RE) : RI := fun σ S R E => r σ S (fun x S1 => itemD x S1 R) E
theorem DV.kD {k : Key} : DV K H (kD k) (kV k) := by cases k <;> constructor
theorem Dc.at {κ : Type} {H : Hp} : ∀ {ds : List (κ × D)} {vs : List (κ × V)} {i : Nat} {k : κ} {v : V}, Dc K H ds vs → vs[i]? = some (k, v) → ∃ d, ds[i]? = some (k, d) ∧ DV K H d v
  | _, _, _, _, _, .nil, e => by simp at e
  | _, _, 0, _, _, .cons x r, e => by simp at e; obtain ⟨rfl, rfl⟩ := e; exact ⟨_, rfl, x⟩
  | _, _, i + 1, _, _, .cons x r, e => by rw [List.getElem?_cons_succ] at e ⊢; exact Dc.at r e
theorem it_keys {S1 : Hq} {H1 : Hp} {a : Addr} {o : Obj} {ys : List (Key × V)} {kvs : List (Key × D)} : ItOk K S1 H1 (Itk a o ys) (kvs.map fun p => kD p.1) (fun S => S a = some (.fk o ys kvs)) :=
  ⟨fun S H f rh g => ⟨(rh _ _ g).1, by rw [List.length_map, (rh _ _ g).2.length]; exact Nat.le_refl _⟩,
   fun i x S H hx f rh g => ⟨(rh _ _ g).1, by
    rw [← (rh _ _ g).2.length]
    have := (List.getElem?_eq_some_iff.mp hx).1
    rwa [List.length_map] at this⟩,
   fun i x S H v H' hx f rh g hy => by
    obtain ⟨rfl, k, w, e, rfl⟩ := hy
    obtain ⟨d, e2, _⟩ := (rh _ _ g).2.at e
    rw [List.getElem?_map, e2] at hx
    cases hx
    exact ⟨Fr.refl, rh, DV.kD⟩⟩
theorem it_vals {S1 : Hq} {H1 : Hp} {a : Addr} {o : Obj} {ys : List (Key × V)} {kvs : List (Key × D)} : ItOk K S1 H1 (Itd a o ys) (kvs.map fun p => p.2) (fun S => S a = some (.fk o ys kvs)) :=
  ⟨fun S H f rh g => ⟨(rh _ _ g).1, by rw [List.length_map, (rh _ _ g).2.length]; exact Nat.le_refl _⟩,
   fun i x S H hx f rh g => ⟨(rh _ _ g).1, by
    rw [← (rh _ _ g).2.length]
    have := (List.getElem?_eq_some_iff.mp hx).1
    rwa [List.length_map] at this⟩,
   fun i x S H v H' hx f rh g hy => by
    obtain ⟨rfl, k, e⟩ := hy
    obtain ⟨d, e2, dw⟩ := (rh _ _ g).2.at e
    rw [List.getElem?_map, e2] at hx
    cases hx
    exact ⟨Fr.refl, rh, dw⟩⟩
theorem it_items {S1 : Hq} {H1 : Hp} {a : Addr} {o : Obj} {ys : List (Key × V)} {kvs : List (Key × D)} : ItOk K S1 H1 (Iti a o ys) (kvs.map fun p => .tup [kD p.1, p.2]) (fun S => S a = some (.fk o ys kvs)) :=
  ⟨fun S H f rh g => ⟨(rh _ _ g).1, by rw [List.length_map, (rh _ _ g).2.length]; exact Nat.le_refl _⟩,
   fun i x S H hx f rh g => ⟨(rh _ _ g).1, by
    rw [← (rh _ _ g).2.length]
    have := (List.getElem?_eq_some_iff.mp hx).1
    rwa [List.length_map] at this⟩,
   fun i x S H v H' hx f rh g hy => by
    obtain ⟨T, k, w, e, rfl, hT, rfl⟩ := hy
    obtain ⟨d, e2, dw⟩ := (rh _ _ g).2.at e
    rw [List.getElem?_map, e2] at hx
    cases hx
    have f2 : Fr S H S (upd H T (.tup [kV k, w])) := Fr.new rh hT
    exact ⟨f2, RH.new rh hT, .tup (.new upd_same) (.cons DV.kD (.cons (DV.mono (f2.tle rh) _ _ dw) .nil))⟩⟩
theorem ei_keys {tg e : Expr} {r : RE} (h : EV X W e r) : EI X W tg e (iKys r) := by
  obtain ⟨T, p, l⟩ := h.ex
  refine ⟨_, pi_keys p, fun σ σ' H S R R' E' rs rh h q xi => ?_⟩
  refine l σ σ' H S _ _ _ rs rh h (fun x S1 v H1 f1 rh1 dv h1 => ?_) xi
  cases dv with
  | ref a =>
    obtain ⟨o, ys, kvs, g, h1⟩ := h1
    exact ⟨a, o, rfl, .inl ⟨ys, (rh1 _ _ g).1, q _ _ _ _ _ f1 rh1 it_keys h1⟩⟩
  | _ => exact h1.elim
theorem ei_vals {tg e : Expr} {apos cpos : Pos} {r : RE} (h : EV X W e r) (hbase : attributeBase e "values" X.env (eval e X.env) = eval e X.env := by rfl) (hline : (apos.endLine == cpos.line) = true := by rfl) : EI X W tg (.Call (.Attribute e "values" apos) [] [] cpos) (iVls r) := by
  obtain ⟨T, p, l⟩ := h.ex
  refine ⟨_, pi_values p hbase hline, fun σ σ' H S R R' E' rs rh h q xi => ?_⟩
  refine l σ σ' H S _ _ _ rs rh h (fun x S1 v H1 f1 rh1 dv h1 => ?_) xi
  cases dv with
  | ref a =>
    obtain ⟨o, ys, kvs, g, h1⟩ := h1
    exact ⟨a, o, ys, rfl, (rh1 _ _ g).1, q _ _ _ _ _ f1 rh1 it_vals h1⟩
  | _ => exact h1.elim
theorem ei_items {elts : List Expr} {kk : Nat} {tpos : Pos} {e : Expr} {apos cpos : Pos} {r : RE} (h : EV X W e r) (hbase : attributeBase e "items" X.env (eval e X.env) = eval e X.env := by rfl) (hline : (apos.endLine == cpos.line) = true := by rfl) : EI X W (.Tuple elts kk tpos) (.Call (.Attribute e "items" apos) [] [] cpos) (iIts r) := by
  obtain ⟨T, p, l⟩ := h.ex
  refine ⟨_, pi_items p hbase hline, fun σ σ' H S R R' E' rs rh h q xi => ?_⟩
  refine l σ σ' H S _ _ _ rs rh h (fun x S1 v H1 f1 rh1 dv h1 => ?_) xi
  cases dv with
  | ref a =>
    obtain ⟨o, ys, kvs, g, h1⟩ := h1
    exact ⟨a, o, ys, rfl, (rh1 _ _ g).1, q _ _ _ _ _ f1 rh1 it_items h1⟩
  | _ => exact h1.elim
end
end Y
namespace Y
open PySem PySem.Spec PyProof.Rows L2
/-! ### comprehensions of dicts -/
def dcP (gd : Hq → Prop) (g : RG) (tt : RT) (tk tv : RE) (vs : List Nat) (σ : Sg) (Q : List (Key × D) → Hq → Prop) : List D → List (Key × D) → Hq → Prop
  | [], acc, S => gd S ∧ Q acc S
  | x :: r, acc, S => gd S ∧ g x (wipeD σ vs) S (fun σ2 S2 => tt σ2 S2 (fun b S3 => if b = true then tk σ2 S3 (fun y S4 => tv σ2 S4 (fun z S5 => ∃ k, keyD y = some k ∧ acc.length < 1000000 ∧ dcP gd g tt tk tv vs σ Q r (putQ acc k z) S5) NoX) NoX else dcP gd g tt tk tv vs σ Q r acc S3) NoX) NoX
def rDc (ri : RI) (g : RG) (tt : RT) (tk tv : RE) (vs : List Nat) : RE := fun σ S Q E => ri σ S (fun xs gd S1 => dcP gd g tt tk tv vs σ (fun acc S2 => ∀ p, S2 p = none → Q (.ref p) (up S2 p (.dk acc))) xs [] S1) E
theorem dc_run {K : PySem.W.Frag} {W : WX} {J : It} {gd : Hq → Prop} {T : TG} {g : RG} {tt : RT} {tk tv : RE} {vs : List Nat} {σ : L2.St} {σ' : Sg} {S1 : Hq} {H1 : Hp} {xs : List D} {Q : VK} {Q' : Qv} (kp : Keeps T g vs K)
    (rs : RS K H1 σ' σ) (rh : RH K S1 H1) (ok : ItOk K S1 H1 J xs gd) (q : QI K S1 H1 Q' Q) (h : dcP gd g tt tk tv vs σ' (fun acc S2 => ∀ p, S2 p = none → Q' (.ref p) (up S2 p (.dk acc))) xs [] S1) :
    ∀ Dd, H1 Dd = none → ∃ W : Nat → Nat → Hp → Prop, (∃ m, W 0 m (upd H1 Dd (.dK []))) ∧ ∀ i m H, W i m H →
      (J.stop i H ∧ Q (.ref Dd) H) ∨ (J.go i H ∧ ∃ Nx : Hp → Prop, (∀ H', Nx H' → ∃ m', m' < m ∧ W (i + 1) m' H') ∧ ∀ x H', J.yld i H x H' → T x (L2.wipe σ vs) H' fun σ2 H2 => L2.wipe σ2 vs = L2.wipe σ vs ∧ dnT K W0 tt σ2 H2 fun b H3 =>
        if b = true then dnE K W0 tk σ2 H3 fun y H4 => dnE K W0 tv σ2 H4 fun z H5 => ∃ kvs k, y = kV k ∧ H5 Dd = some (.dK kvs) ∧ kvs.length < sizeLine ∧ Nx (upd H5 Dd (.dK (L2.putK kvs k z))) else Nx H3) := by
  intro Dd hD
  have fD : Fr S1 H1 S1 (upd H1 Dd (.dK [])) := Fr.new rh hD
  refine ⟨fun i m H => ∃ S acc acc', i + m = xs.length ∧ Fr S1 H1 S H ∧ RH K S H ∧ H Dd = some (.dK acc) ∧ S Dd = none ∧ Dc K H acc' acc ∧ dcP gd g tt tk tv vs σ' (fun acc S2 => ∀ p, S2 p = none → Q' (.ref p) (up S2 p (.dk acc))) (xs.drop i) acc' S,
    ⟨xs.length, S1, [], [], by omega, fD, rh.new hD, upd_same, rh.fresh hD, .nil, by simpa using h⟩, ?_⟩
  rintro i m H ⟨S, acc, acc', em, f, rh2, eD, nD, da, h⟩
  by_cases hi : i < xs.length
  · obtain ⟨x, hx⟩ : ∃ x, xs[i]? = some x := ⟨_, List.getElem?_eq_getElem hi⟩
    have hd : xs.drop i = x :: xs.drop (i + 1) := by
      rw [List.drop_eq_getElem_cons hi]
      rw [List.getElem?_eq_getElem hi] at hx
      rw [Option.some.inj hx]
    rw [hd] at h
    obtain ⟨g2, h⟩ := h
    refine .inr ⟨ok.go i x S H hx f rh2 g2, fun H => ∃ S acc acc', Fr S1 H1 S H ∧ RH K S H ∧ H Dd = some (.dK acc) ∧ S Dd = none ∧ Dc K H acc' acc ∧ dcP gd g tt tk tv vs σ' (fun acc S2 => ∀ p, S2 p = none → Q' (.ref p) (up S2 p (.dk acc))) (xs.drop (i + 1)) acc' S,
      fun H ⟨S, acc, acc', a, b, c, d, e, f⟩ => ⟨m - 1, by omega, S, acc, acc', by omega, a, b, c, d, e, f⟩, fun v H3 hy => ?_⟩
    obtain ⟨f3, rh3, dv⟩ := ok.yld i x S H v H3 hx f rh2 g2 hy
    have f03 := f.trans f3
    obtain ⟨eD3, nD3⟩ := f3 Dd _ eD nD
    refine kp.to σ (wipeD σ' vs) H3 S x v _ _ ((rs.mono (f03.tle rh)).wipe vs) rh3 dv h fun σ2' σ2 ew rs2 h2 => ⟨ew, σ2', S, _, NoX, rs2, rh3, h2, fun b S4 H4 f4 rh4 h4 => ?_, XI.no⟩
    have f04 := f03.trans f4
    obtain ⟨eD4, nD4⟩ := f4 Dd _ eD3 nD3
    have da4 := da.mono ((f3.trans f4).tle rh2)
    cases b with
    | false => exact ⟨S4, acc, acc', f04, rh4, eD4, nD4, da4, h4⟩
    | true =>
      refine ⟨σ2', S4, _, NoX, rs2.mono (f4.tle rh3), rh4, h4, fun y S5 u H5 f5 rh5 dy h5 => ?_, XI.no⟩
      obtain ⟨eD5, nD5⟩ := f5 Dd _ eD4 nD4
      have da5 := da4.mono (f5.tle rh4)
      refine ⟨σ2', S5, _, NoX, rs2.mono ((f4.trans f5).tle rh3), rh5, h5, fun z S6 w H6 f6 rh6 dz h6 => ?_, XI.no⟩
      obtain ⟨eD6, nD6⟩ := f6 Dd _ eD5 nD5
      have da6 := da5.mono (f6.tle rh5)
      obtain ⟨k, ek, hl, h6⟩ := h6
      have dy := DV.mono (f6.tle rh5) _ _ dy
      obtain rfl := DV.ofKey ek dy
      refine ⟨acc, k, rfl, eD6, by rw [← da6.length, sizeLine_eq]; omega, S6, L2.putK acc k w, putQ acc' k z, ?_, ?_, upd_same, nD6, ?_, h6⟩
      · intro b o e n
        obtain ⟨e', n'⟩ := ((f04.trans f5).trans f6) b o e n
        have hb : b ≠ Dd := fun z => by rw [z, hD] at e; cases e
        exact ⟨by rw [upd_ne hb]; exact e', n'⟩
      all_goals
        have t : Tle K H6 (upd H6 Dd (.dK (L2.putK acc k w))) := by
          refine ⟨fun a xs hq => ?_, fun a xs hq => ?_, fun a xs hq => by rw [upd_ne (fun z => by rw [z, eD6] at hq; cases hq)]; exact hq⟩
          · rcases hq with (hq | ⟨o, hq⟩) | hq
            · exact .inl (.inl (by rw [upd_ne (fun z => by rw [z, eD6] at hq; cases hq)]; exact hq))
            · exact .inl (.inr ⟨o, by rw [upd_ne (fun z => by rw [z, eD6] at hq; cases hq)]; exact hq⟩)
            · exact .inr hq
          · rcases hq with ⟨o, hq⟩ | hq
            · exact .inl ⟨o, by rw [upd_ne (fun z => by rw [z, eD6] at hq; cases hq)]; exact hq⟩
            · exact .inr hq
      · intro b o e
        have hb : b ≠ Dd := fun z => by rw [z, nD6] at e; cases e
        exact (rh6 b o e).stay t (fun c q e n => ⟨by rw [upd_ne (fun z => by rw [z, eD6] at e; cases e)]; exact e, n⟩) (upd_ne hb)
      · exact (da6.put k dz).mono t
  · have hn : xs.drop i = [] := List.drop_eq_nil_of_le (by omega)
    rw [hn] at h
    have ei : i = xs.length := by omega
    subst ei
    refine .inl ⟨ok.stop S H f rh2 h.1, ?_⟩
    have r2 : RH K (up S Dd (.dk acc')) H := fun b o e => by
      by_cases hb : b = Dd
      · subst hb; rw [up_same] at e; cases e; exact ⟨acc, eD, da⟩
      · rw [up_ne hb] at e
        exact (rh2 b o e).stay Tle.refl (fun c q e n => ⟨e, by rw [up_ne (fun z => by rw [z, eD] at e; cases e)]; exact n⟩) rfl
    refine q (.ref Dd) _ _ _ (fun b o e n => ?_) r2 (.ref Dd) (h.2 Dd nD)
    obtain ⟨e', n'⟩ := f b o e n
    have hb : b ≠ Dd := fun z => by rw [z, hD] at e; cases e
    exact ⟨e', by rw [up_ne hb]; exact n'⟩
section
variable {X : Cx} {W : WX} {pos : Pos}
theorem ev_dcT {tg kx vx it : Expr} {ifs : List Expr} {scope : Scope} {ri : RI} {G : TG} {g : RG} {tt : RT} {tk tv : RE} {own : List (Str × Nat)} (hc : X.calm = true) (hN : X.N.Nodup) (hi : EI X W tg it ri) (ok : BlkOk X.N X.env.scope scope own) (kp : Keeps G g (own.map (·.2)) X.K)
    (hg : ∀ (s : Shared) (H : Hp) (C : Addr) (cl : List (Str × Addr)) (fp : List Addr), PG (X.blk s H scope (compEnvC scope cl C X.env) fp) tg G)
    (ht : ∀ (s : Shared) (H : Hp) (C : Addr) (cl : List (Str × Addr)) (fp : List Addr), EP1 (X.blk s H scope (compEnvC scope cl C X.env) fp) W0 ifs tt)
    (hk : ∀ (s : Shared) (H : Hp) (C : Addr) (cl : List (Str × Addr)) (fp : List Addr), EV (X.blk s H scope (compEnvC scope cl C X.env) fp) W0 kx tk)
    (he : ∀ (s : Shared) (H : Hp) (C : Addr) (cl : List (Str × Addr)) (fp : List Addr), EV (X.blk s H scope (compEnvC scope cl C X.env) fp) W0 vx tv) (hs : ∀ x, foldedSetIterable it X.env x = pure x := by intro _; rfl) :
    EV X W (.DictComp kx vx [⟨tg, it, ifs, 0⟩] scope pos) (rDc ri g tt tk tv (own.map (·.2))) := by
  obtain ⟨wi, pi, li⟩ := hi.ex
  refine ⟨_, pe_dc (tt := dnT X.K W0 tt) (tk := dnE X.K W0 tk) (tv := dnE X.K W0 tv) hc hN pi ok hg (fun s H C cl fp => (ht s H C cl fp).pe) (fun s H C cl fp => (hk s H C cl fp).pe) (fun s H C cl fp => (he s H C cl fp).pe) hs, fun σ σ' H S Q Q' E' rs rh h q xi => ?_⟩
  exact li σ σ' H S _ _ _ rs rh h (fun J xs gd S1 H1 f1 rh1 ok h1 => dc_run (W := W) kp (rs.mono (f1.tle rh)) rh1 ok (q.go f1) h1) xi
end
/-- nothing changes while the pairs are made -/
theorem dc_pure {α : Type} {gd : Hq → Prop} {g : RG} {tt : RT} {tk tv : RE} {vs : List Nat} {σ : Sg} {Qf : List (Key × D) → Hq → Prop} {S : Hq} (e : α → D) (τ : α → Sg) (k : α → Key) (d : α → D) (hg : gd S) : ∀ (ws : List α) (acc : List (Key × D)),
    (∀ a ∈ ws, ∀ N : Sg → Hq → Prop, N (τ a) S → g (e a) (wipeD σ vs) S N NoX) →
    (∀ a ∈ ws, ∀ Q : Bool → Hq → Prop, Q true S → tt (τ a) S Q NoX) → (∀ a ∈ ws, ∀ Q : Qv, Q (kD (k a)) S → tk (τ a) S Q NoX) → (∀ a ∈ ws, ∀ Q : Qv, Q (d a) S → tv (τ a) S Q NoX) →
    (∀ a ∈ ws, k a ∉ acc.map (·.1)) → (ws.map k).Nodup → acc.length + ws.length ≤ 1000000 →
    Qf (acc ++ ws.map fun a => (k a, d a)) S → dcP gd g tt tk tv vs σ Qf (ws.map e) acc S
  | [], acc, _, _, _, _, _, _, _, q => ⟨hg, by simpa using q⟩
  | a :: r, acc, h0, h1, h2, h3, hn, hd, hz, q => by
    rw [List.map_cons, List.nodup_cons] at hd
    refine ⟨hg, h0 a (by simp) _ (h1 a (by simp) _ ?_)⟩
    rw [if_pos rfl]
    refine h2 a (by simp) _ (h3 a (by simp) _ ⟨k a, keyD_kD _, by simp at hz; omega, ?_⟩)
    rw [putQ_new (hn a (by simp))]
    refine dc_pure e τ k d hg r _ (fun b m => h0 b (by simp [m])) (fun b m => h1 b (by simp [m])) (fun b m => h2 b (by simp [m])) (fun b m => h3 b (by simp [m])) (fun b m => ?_) hd.2 (by simp at hz ⊢; omega) (by simpa using q)
    rw [List.map_append, List.mem_append]
    rintro (h | h)
    · exact hn b (by simp [m]) h
    · simp at h
      exact hd.1 (by rw [← h]; exact List.mem_map_of_mem m)
end Y
namespace Y
open PySem PySem.Spec PyProof.Rows L2
/-! ### sorted of a dict whose keys are texts, however many; len and list of a dict -/
def rSortedK : List V → Hp → VK → Prop := fun vs H Q => ∃ (a : Addr) (kvs : List (Key × V)) (zs : List Str), vs = [V.ref a] ∧ Rd H a (.dK kvs) ∧ kvs.map (·.1) = zs.map Sum.inr ∧
  ∀ (ys : List Str) (p : Addr), ys.Perm zs → sortedS ys = true → H p = none → Q (.ref p) (upd H p (.lst (ys.map V.str)))
theorem strs_of_keys {X : Cx} {acc : List Value} {vs : List (Key × Value)} {zs : List Str} (hz : vs.map (·.1) = zs.map Sum.inr) (hl : acc.length = vs.length)
    (h : ∀ (j : Nat) (v : Value), acc[j]? = some v → ∃ k x, vs[j]? = some (k, x) ∧ (mixKind X.prog X.w).is k v = true) : StrsAre acc zs := by
  have hzl : vs.length = zs.length := by simpa using congrArg List.length hz
  refine strs_at (hl.trans hzl) fun j v e => ?_
  obtain ⟨k, x, e1, e2⟩ := h j v e
  have e3 : (zs.map Sum.inr : List Key)[j]? = some k := by rw [← hz, List.getElem?_map, e1]; rfl
  rw [List.getElem?_map] at e3
  obtain ⟨y, ey, rfl⟩ := Option.map_eq_some_iff.mp e3
  obtain ⟨t, ev⟩ := Value.isStrOf_shape (x := y) (v := v) e2
  exact ⟨y, t, ey, ev⟩
theorem cr_sortedK {X : Cx} (hcm : X.calm = true) : CallR X (.builtin "sorted") rSortedK := by
  intro pins s σ H xs us Q I r q
  obtain ⟨a, kvs, zs, rfl, hd, hks, q⟩ := q
  rw [Vals.ref1 r]
  obtain ⟨hsz, lo, vs, rel, dd⟩ := dk_rd I.hok hd
  obtain ⟨ep, hat⟩ := dd.dictAt
  have hz : vs.map (·.1) = zs.map Sum.inr := by rw [← hks]; exact rel.keys.symm
  have hvl : vs.length = zs.length := by simpa using congrArg List.length hz
  have hvz : vs.length ≤ sizeLine := by rw [← rel.length]; exact hsz
  refine Calls.call_function_entry PyProof.Rows.kind_sorted PyProof.Rows.plain_sorted PyProof.Rows.entry_sorted (PyProof.Rows.args_sorted1 _) ?_
  unfold Builtin.«sorted»
  refine wpAny_bind (wpAny_pure ?_)
  refine wpAny_bind (PySem.W.kdu_collect (A := X.A.in1) (PySem.W.kdl_dict (knd := mixKind X.prog X.w) (kvs := vs) (ep := ep) lo) (I.ok.hd hcm) hat hvz fun g tk acc hk hacc => ?_)
  have hS : StrsAre acc.toList zs := strs_of_keys (X := X) hz (by rw [Array.length_toList, hacc.1]) fun j v e => hacc.2 j v (by rw [← Array.getElem?_toList]; exact e)
  have hal : acc.toList.length ≤ sizeLine := by rw [Array.length_toList, hacc.1]; exact hvz
  have I1 : Inv X pins σ H { s with heap := g, toks := tk } := I.kept hk
  refine wpAny_bind (wpAny_newList ?_ hal)
  have hL : (g.push (seqObj "list" acc.toList.toArray 0)).get? g.objs.size = some (seqObj "list" acc.toList.toArray 0) := Heap.get?_push_size _ rfl
  refine wpAny_bind (wpAny_holding (wpAny_call_entry PyProof.Rows.slot_list_sort ⟨_, hL, rfl⟩ PyProof.Rows.entry_list_sort
    (list_sort_treeKAny strKind_oneLt hL hS.keysOf (fun v₁ v₂ rest e => keyKind_strs (by rw [← e]; exact hS)) hal fun st' hp hs => ⟨_, rfl, ?_⟩) (PyProof.Rows.args_list_sort _)))
  obtain ⟨ys, g1, g2, g3⟩ := sorted_out_str hS hp hs
  obtain ⟨eq, heq⟩ := PyProof.Rows.sortedHeap_at (vs := acc.toList) (out := (arrOf st').map (·.2)) hL
  have hyl : (ys.map V.str).length ≤ sizeLine := by rw [List.length_map, g2.length_eq, ← hvl]; exact hvz
  have ok : ObjOk X.prog X.w (upd H g.objs.size (.lst (ys.map V.str))) _ g.objs.size (.lst (ys.map V.str)) := ⟨hyl, ((arrOf st').map (·.2)).toList, eq, vals_of_strs g1, by rw [Array.toArray_toList]; exact heq⟩
  refine wpAny_pure ⟨_, rfl, .ref g.objs.size, upd H g.objs.size (.lst (ys.map V.str)), I1.laid (t' := tk) (fun b u e => ?_) (Nat.le_refl _) ok, rfl, q ys _ g2 g3 (I1.hok.fresh (Nat.le_refl _))⟩
  have hb : b < g.objs.size := Heap.lt_size e
  rw [PyProof.Rows.sortedHeap_old (Nat.ne_of_lt hb) (by rw [size_push']; exact Nat.lt_succ_of_lt hb)]
  exact Heap.get?_push_of_some _ e
def srtKM (m : Nw2) (ds : List D) (S : Hq) (Q : Qv) : Prop := match ds with
  | [.ref a] => ∃ (kvs : List (Key × D)) (zs : List Str), GtK S a kvs ∧ kvs.map (·.1) = zs.map Sum.inr ∧ ∀ ys : List Str, ys.Perm zs → sortedS ys = true → m (ys.map D.str) S Q
  | _ => False
section
variable {X : Cx} {K : PySem.W.Frag} {S : Hq} {H : Hp}
theorem lc_srtKT : LiftC K (srtKM nwT) rSortedK := by
  intro ds S H Q' Q vs rh dv h q
  rcases ds with _ | ⟨x, _ | ⟨y, r⟩⟩
  · exact h.elim
  · cases dv with | @cons _ v _ _ dx t =>
    cases t
    cases x <;> try exact h.elim
    cases dx
    obtain ⟨kvs, zs, g, e, h⟩ := h
    obtain ⟨ys, rd, r⟩ := rh.gtK g
    exact ⟨_, ys, zs, rfl, rd, by rw [← r.keys]; exact e, fun ws p hp hs hn => q.newL rh hn DVs.ofTxts (h ws hp hs p (rh.fresh hn))⟩
  · cases x <;> exact h.elim
theorem cr_srtKF (hcm : X.calm = true) : CallR X (.builtin "sorted") (fun xs H Q => rSortedK xs H (fzV Q)) := callr_fz (cr_sortedK hcm)
theorem lc_srtKF : LiftC K (srtKM nwF) (fun xs H Q => rSortedK xs H (fzV Q)) := liftc_fz lc_srtKT fun ds S Q h => by
  rcases ds with _ | ⟨x, _ | ⟨y, r⟩⟩
  · exact h.elim
  · cases x <;> try exact h.elim
    obtain ⟨kvs, zs, g, e, h⟩ := h
    exact ⟨kvs, zs, g, e, fun ys hp hs => nw_fz (h ys hp hs)⟩
  · cases x <;> exact h.elim
theorem k_srt {m : Nw2} {a : Addr} {Q : Qv} : srtKM m [.ref a] S Q = (∃ (kvs : List (Key × D)) (zs : List Str), GtK S a kvs ∧ kvs.map (·.1) = zs.map Sum.inr ∧ ∀ ys : List Str, ys.Perm zs → sortedS ys = true → m (ys.map D.str) S Q) := rfl
theorem units1 {k : Nat} {A : Around} (hr : Room k A) : A.units + 1 < cLine := by have := hr.un; omega
theorem k_keys {a : Addr} {R : List D → (Hq → Prop) → Hq → Prop} : keysD (.ref a) S R = (∃ o ys kvs, S a = some (.fk o ys kvs) ∧ R (kvs.map fun p => kD p.1) (fun S => S a = some (.fk o ys kvs)) S) := rfl
theorem k_vals {a : Addr} {R : List D → (Hq → Prop) → Hq → Prop} : valsD (.ref a) S R = (∃ o ys kvs, S a = some (.fk o ys kvs) ∧ R (kvs.map fun p => p.2) (fun S => S a = some (.fk o ys kvs)) S) := rfl
theorem k_items {a : Addr} {R : List D → (Hq → Prop) → Hq → Prop} : itemD (.ref a) S R = (∃ o ys kvs, S a = some (.fk o ys kvs) ∧ R (kvs.map fun p => .tup [kD p.1, p.2]) (fun S => S a = some (.fk o ys kvs)) S) := rfl
/-- len of a dict -/
def lenKD (ds : List D) (S : Hq) (Q : Qv) : Prop := match ds with
  | [.ref a] => ∃ kvs, S a = some (.dk kvs) ∧ Q (.int kvs.length) S
  | _ => False
theorem lc_lenK : LiftC K lenKD (fun xs H Q => ∃ a kvs, xs = [V.ref a] ∧ H a = some (.dK kvs) ∧ Q (.int kvs.length) H) := by
  intro ds S H Q' Q vs rh dv h q
  rcases ds with _ | ⟨x, _ | ⟨y, r⟩⟩
  · exact h.elim
  · cases dv with | @cons _ v _ _ dx t =>
    cases t
    cases x <;> try exact h.elim
    cases dx
    obtain ⟨kvs, g, h⟩ := h
    obtain ⟨ys, rd, r⟩ := rh _ _ g
    exact ⟨_, ys, rfl, rd, by rw [← r.length]; exact q.here rh (.int _) h⟩
  · cases x <;> exact h.elim
theorem k_len {a : Addr} {Q : Qv} : lenKD [.ref a] S Q = (∃ kvs, S a = some (.dk kvs) ∧ Q (.int kvs.length) S) := rfl
end
end Y
namespace Y
open PySem PySem.Spec PyProof.Rows L2
/-! ### comprehensions that draw -/
/-- each element with something drawn for it -/
theorem lc_pairs {α β : Type} {gd : Hq → Prop} {te : RE} {i : Nat} {σ : Sg} {Qf : List D → Hq → Prop} (e : α → D) (f : α × β → D) (I : Hq → Prop) (hg : ∀ S, I S → gd S) : ∀ (ws : List α) (acc : List D) (S : Hq),
    (∀ w ∈ ws, ∀ (S : Hq) (Q : Qv), I S → (∀ o S', I S' → Q (f (w, o)) S') → te ((wipeD σ [i]).set i (some (e w))) S Q NoX) → acc.length + ws.length ≤ 1000000 → I S →
    (∀ (rs : List (α × β)) S', rs.map (·.1) = ws → I S' → Qf (acc ++ rs.map f) S') → lcP gd (gNm i) rYes te [i] σ Qf (ws.map e) acc S
  | [], acc, S, _, _, hi, k => ⟨hg S hi, by simpa using k [] S rfl hi⟩
  | w :: r, acc, S, h, hz, hi, k => by
    refine ⟨hg S hi, ?_⟩
    show te ((wipeD σ [i]).set i (some (e w))) S (fun y S4 => acc.length < 1000000 ∧ lcP gd (gNm i) rYes te [i] σ Qf (r.map e) (acc ++ [y]) S4) NoX
    refine h w (by simp) S _ hi fun o S4 i4 => ⟨by simp at hz; omega, ?_⟩
    refine lc_pairs e f I hg r (acc ++ [f (w, o)]) S4 (fun x hx => h x (by simp [hx])) (by simp at hz ⊢; omega) i4 fun rs S' hr hi' => ?_
    have := k ((w, o) :: rs) S' (by rw [List.map_cons, hr]) hi'
    rw [List.append_assoc]
    exact this
/-- some of the elements, as it is drawn -/
theorem lc_some {α : Type} {gd : Hq → Prop} {tt : RT} {te : RE} {i : Nat} {σ : Sg} {Qf : List D → Hq → Prop} (e : α → D) (I : Hq → Prop) (hg : ∀ S, I S → gd S) : ∀ (ws : List α) (as : List α) (S : Hq),
    (∀ w ∈ ws, ∀ (S : Hq) (Q : Bool → Hq → Prop), I S → (∀ b S', I S' → Q b S') → tt ((wipeD σ [i]).set i (some (e w))) S Q NoX) →
    (∀ w ∈ ws, ∀ (S : Hq) (Q : Qv), I S → Q (e w) S → te ((wipeD σ [i]).set i (some (e w))) S Q NoX) → as.length + ws.length ≤ 1000000 → I S →
    (∀ (ys : List α) S', ys.Sublist ws → I S' → Qf ((as ++ ys).map e) S') → lcP gd (gNm i) tt te [i] σ Qf (ws.map e) (as.map e) S
  | [], as, S, _, _, _, hi, k => ⟨hg S hi, by simpa using k [] S (.refl _) hi⟩
  | w :: r, as, S, h, h2, hz, hi, k => by
    refine ⟨hg S hi, ?_⟩
    refine h w (by simp) S _ hi fun b S3 i3 => ?_
    cases b with
    | false =>
      rw [if_neg (by simp)]
      exact lc_some e I hg r as S3 (fun x hx => h x (by simp [hx])) (fun x hx => h2 x (by simp [hx])) (by simp at hz; omega) i3 fun ys S' hy hi' => k ys S' (hy.cons w) hi'
    | true =>
      rw [if_pos rfl]
      refine h2 w (by simp) S3 _ i3 ⟨by simp at hz ⊢; omega, ?_⟩
      rw [show as.map e ++ [e w] = (as ++ [w]).map e by simp]
      refine lc_some e I hg r (as ++ [w]) S3 (fun x hx => h x (by simp [hx])) (fun x hx => h2 x (by simp [hx])) (by simp at hz ⊢; omega) i3 fun ys S' hy hi' => ?_
      rw [List.append_assoc]
      exact k (w :: ys) S' (hy.cons_cons w) hi'
end Y
namespace Y
open PySem PySem.Spec PyProof.Rows L2
/-! ### makings with named arguments alone -/
theorem KBn'.kbn {K : PySem.W.Frag} {fd : FuncData} {ps ks : List Str} {n m : Nat} {π : List Nat} (h : KBn' K fd ps ks n m π) (hm : ks.length = m) (hp : ∀ us ws : List Value, us.length = n → ws.length = m → (gk n m π us ws).length = ps.length) : KBn K fd ps n ks (gk n m π) (gk n m π) :=
  ⟨fun s us ws hk h1 h2 => h.to s us ws hk (hp us ws h1 (by rw [h2, hm])), h.rel⟩
def rMakeK (nm : String) (sp : Sq) (m : Nat) (π : List Nat) (rk : RA) : RE := fun σ S Q E => rk σ S (fun es S1 => es.length = m ∧ ∀ a, S1 a = none → sp (gk 1 m π [.ref a] es) (up S1 a (.ins nm [])) (fun v S2 => v = .non ∧ Q (.ref a) S2) NoX) E
section
variable {X : Cx} {W : WX} {pos : Pos} {nm : String} {C f : Addr} {k : Nat} {fd : FuncData} {ps : List Str} {sp : Sq}
theorem ev_makeK0 {kws : List Keyword} {ks : List Str} {m : Nat} {π : List Nat} {rk : RA} (kc : Kc X.K nm C) (M : Mk X.K C f) (G : FnOk X.prog X.w X.K X.mg X.base CX0 k f fd ps (dn X.K sp)) (hr : Room (k + 1) X.A) (hm : X.mg (Str.ofString nm) = some (.ref C)) (hb : KBn' X.K fd ps ks 1 m π) (hkm : ks.length = m)
    (hp : ∀ us ws : List Value, us.length = 1 → ws.length = m → (gk 1 m π us ws).length = ps.length) {p : Pos} (hkw : EK X W kws rk) (hg : Gl X (Str.ofString nm) := by rfl)
    (hall : (backToKw pos (keywordEach kws X.env)).all (·.1.isSome) = true := by rfl) (hks : (backToKw pos (keywordEach kws X.env)).filterMap (·.1) = ks := by rfl) (hdb : ((Str.ofString nm) == ("__debug__" : Str)) = false := by decide)
    (hpl : ((backTo pos (starEach [] X.env)).any (·.1) || (backToKw pos (keywordEach kws X.env)).any (·.1.isNone)) = false := by rfl) : EV X W (.Call (.Name (Str.ofString nm) p) [] kws pos) (rMakeK nm sp m π rk) := by
  obtain ⟨Tk, pk, lk⟩ := hkw.ex
  refine ⟨_, pe_makeK0 (E := fun _ _ _ => False) M G hr hg hm (hb.kbn hkm hp) pass0 pk hall hks hdb hpl, fun σ σ' H S Q Q' E' rs rh h q xi => ?_⟩
  refine lk σ σ' H S _ _ E' rs rh h (fun es S1 zs H1 f0 rh1 dz h1 => ?_) xi
  obtain ⟨hl, h1⟩ := h1
  refine ⟨rfl, by rw [← dz.length, hl, hkm], fun x dx hx hdx ne => ?_⟩
  obtain ⟨f1, r1⟩ := rh_make rh1 kc.cn hx hdx ne
  refine ⟨_, _, _, NoX, DVs.gk (.cons (.ref x) .nil) (DVs.mono (f1.tle rh1) _ _ dz), r1, h1 x (rh1.fresh hx), fun d S' v H' f2 rh2 dv h2 => ?_, XI.no⟩
  obtain ⟨rfl, h2⟩ := h2
  cases dv
  exact ⟨rfl, q _ _ _ _ ((f0.trans f1).trans f2) rh2 (.ref x) h2⟩
end
end Y
namespace SrtO
open PySem PySem.Spec PyProof.Rows PyProof
/-! ### sorted of rows whose first is a text, no two of them the same -/
def IsTx (h : Heap) (v : Value) (x : PySem.Str) : Prop := ∃ a o t rest n, v = .ref a ∧ h.get? a = some o ∧ o.cls = .type "tuple" ∧ o.data = .seq (Value.str x t :: rest).toArray n
theorem IsTx.keeps {h h' : Heap} {v : Value} {x : PySem.Str} (p : IsTx h v x) (k : ∀ b o, h.get? b = some o → o.cls = .type "tuple" → h'.get? b = some o) : IsTx h' v x := by
  obtain ⟨a, o, t, u, n, e, ho, hc, hd⟩ := p
  exact ⟨a, o, t, u, n, e, k _ _ ho hc, hc, hd⟩
theorem IsTx.uniq {h : Heap} {v : Value} {x y : PySem.Str} (p : IsTx h v x) (q : IsTx h v y) : x = y := by
  obtain ⟨a, o, t, u, n, rfl, ho, hc, hd⟩ := p
  obtain ⟨a', o', t', u', n', e, ho', hc', hd'⟩ := q
  cases e
  rw [ho] at ho'; cases ho'
  rw [hd] at hd'
  injection hd' with h1 h2
  have h3 := congrArg Array.toList h1
  simp at h3
  exact h3.1.1
def txLt (k : Value → PySem.Str) (v u : Value) : Bool := decide ((k v).cps.toList < (k u).cps.toList)
theorem swo_tx (k : Value → PySem.Str) : Swo (txLt k) := by
  refine ⟨fun x y h => ?_, fun x y z h1 h2 => ?_⟩
  · have a := of_decide_eq_true h
    exact decide_eq_false (fun b => List.lt_irrefl _ (List.lt_trans a b))
  · have a := of_decide_eq_false h1
    have b := of_decide_eq_false h2
    refine decide_eq_false ?_
    rw [List.not_lt] at a b ⊢
    exact List.le_trans a b
section
variable {prog : Program} {w : World} {A : Around} {s : Shared} {E : Value → Shared → Prop}
theorem kat_same {b fin : Bool} {Q : Bool → Shared → Prop} : ∀ (l : List Value) (i : Nat), Q fin s → PySem.W.KatLex prog w A b fin Q (l.zip l) i s
  | [], _, h => h
  | v :: l, i, h => PySem.W.kat_cons (SeqAt.EqAt.same v prog w _ _ (PySem.W.kat_yes (kat_same l (i + 1) h)))
theorem tx_cmp {vs : List Value} {k : Value → PySem.Str} (hp : ∀ v ∈ vs, IsTx s.heap v (k v)) (hi : ∀ v ∈ vs, ∀ u ∈ vs, k v = k u → v = u) : Cmp prog w A s (tuples' true) (fun p => p.1 ∈ vs) (lt2 (txLt k)) := by
  intro p q hm hm'
  show wpAny (model prog w) A (keyLt' (tuples' true) p.1 q.1) (fun r s' => s' = s ∧ r = txLt k p.1 q.1) (fun _ _ => False) s
  by_cases e : k p.1 = k q.1
  · have e2 := hi _ hm _ hm' e
    rw [← e2]
    obtain ⟨a, o, t, rest, n, ev, ho, hc, hd⟩ := hp _ hm
    have hz : txLt k p.1 p.1 = false := (swo_tx k).refl _
    rw [hz]
    rw [ev]
    refine PySem.W.kat_lt ho hd ho hd ?_
    exact kat_same _ 0 ⟨rfl, by simp⟩
  · have h1 := hp _ hm
    have h2 := hp _ hm'
    unfold txLt
    generalize k p.1 = x at h1 e ⊢
    generalize k q.1 = y at h2 e ⊢
    obtain ⟨a, o, t, rest, n, ev, ho, hc, hd⟩ := h1
    obtain ⟨a', o', t', rest', n', ev', ho', hc', hd'⟩ := h2
    rw [ev, ev']
    refine PySem.W.kat_lt ho hd ho' hd' ?_
    show PySem.W.KatLex prog w A true _ _ ((.str x t, .str y t') :: rest.zip rest') 0 s
    refine PySem.W.kat_cons (SeqAt.EqAt.str_str x t y t' prog w _ _ ?_)
    refine PySem.W.kat_go (fun e1 => ?_) (fun e1 => ?_)
    · exact absurd (by simpa using e1) e
    · exact PySem.W.kat_no (oneLt_str ⟨rfl, rfl⟩)
theorem tx_firsts {h : Heap} : ∀ {vs : List Value}, (∀ v ∈ vs, ∃ x, IsTx h v x) → ∃ fs : List Value, PySem.W.KatTups h vs fs ∧ fs.length = vs.length ∧ ∀ f ∈ fs, ∃ x t, f = Value.str x t
  | [], _ => ⟨[], PySem.W.KatTups.nil, rfl, fun _ hm => by simp at hm⟩
  | v :: vs, hp => by
    obtain ⟨fs, h1, h2, h3⟩ := tx_firsts (vs := vs) fun v' hm => hp v' (List.mem_cons_of_mem _ hm)
    obtain ⟨x, a, o, t, u, n, e, ho, hc, hd⟩ := hp v (List.mem_cons_self ..)
    subst e
    refine ⟨.str x t :: fs, PySem.W.KatTups.cons ho hc hd (by simp) h1, by rw [List.length_cons, List.length_cons, h2], fun f hm => ?_⟩
    rcases List.mem_cons.mp hm with rfl | hm
    · exact ⟨x, t, rfl⟩
    · exact h3 f hm
theorem tx_sortableO {a : Addr} {vs : List Value} {k : Value → PySem.Str} (h0 : 0 < vs.length) (hp : ∀ v ∈ vs, IsTx s.heap v (k v)) (hi : ∀ v ∈ vs, ∀ u ∈ vs, k v = k u → v = u) (ha : ∀ o, s.heap.get? a = some o → o.cls ≠ .type "tuple") : SortableO prog w A s a vs (txLt k) := by
  intro h' keep
  have hp' : ∀ v ∈ vs, IsTx h' v (k v) := fun v hm => (hp v hm).keeps fun b o e c => keep b o (fun z => by subst z; exact ha o e c) e
  obtain ⟨fs, h1, h2, h3⟩ := tx_firsts fun v hm => ⟨_, hp' v hm⟩
  refine ⟨tuples' true, fun Q E hq => ?_, tx_cmp hp' hi⟩
  refine PySem.W.kat_kind (T := .type "str") h1 (by omega) (fun f hm => ?_) (by rfl) ?_
  · obtain ⟨x, t, rfl⟩ := h3 f hm
    exact PySem.W.Looks.now
  · have e : (Value.type "str" != Value.type "tuple") = true := by first | decide +kernel | rfl | decide
    rw [e]
    exact hq
theorem sorted_txO {l : Addr} {vs : List Value} {k : Value → PySem.Str} {Q : Value → Shared → Prop} (hl : s.heap.IsList l vs.toArray) (hz : vs.length ≤ sizeLine) (hp : ∀ v ∈ vs, IsTx s.heap v (k v)) (hi : ∀ v ∈ vs, ∀ u ∈ vs, k v = k u → v = u)
    (h : ∀ (h' : Heap) (d : Addr) (out : List Value), Srtd (txLt k) out → out.Perm vs → (∀ b o, s.heap.get? b = some o → h'.get? b = some o) → s.heap.objs.size ≤ d → (∃ n, h'.get? d = some (seqObj "list" out.toArray n)) → Q (.ref d) { s with heap := h' }) :
    wpAny (model prog w) A (call (.builtin "sorted") [.ref l]) Q E s := by
  refine sorted_ord (swo_tx k) hl hz (fun h2 h₁ a ha kk => ?_) fun out hs hb => ?_
  · refine tx_sortableO (s := { s with heap := h₁ }) (by omega) (fun v hm => (hp v hm).keeps fun b o e _ => (kk b o e).2) hi fun o e => ?_
    have e' : some o = some (seqObj "list" vs.toArray 0) := e.symm.trans ha
    cases e'
    intro c
    exact absurd (Value.type.inj c) (by decide)
  · exact h _ _ out hs hb.perm (fun b o e => sortedAll_old e) (Nat.le_succ _) (sortedAll_at s.heap vs out.toArray)
end
end SrtO
namespace Y
open PySem PySem.Spec PyProof.Rows L2
theorem permI {α β : Type} {f : α → β} : ∀ {ys zs : List β}, ys.Perm zs → ∀ l : List α, zs = l.map f → ∃ l' : List α, l'.Perm l ∧ l'.map f = ys
  | _, _, .nil, l, e => ⟨l, .refl _, e.symm⟩
  | _, _, .cons x h, [], e => by cases e
  | _, _, .cons x h, a :: l, e => by
    rw [List.map_cons] at e
    injection e with e1 e2
    obtain ⟨l', p, q⟩ := permI h l e2
    exact ⟨a :: l', p.cons a, by rw [List.map_cons, q, e1]⟩
  | _, _, .swap x y l0, [], e => by cases e
  | _, _, .swap x y l0, [a], e => by rw [List.map_cons] at e; injection e with e1 e2; cases e2
  | _, _, .swap x y l0, a :: b :: l, e => by
    rw [List.map_cons, List.map_cons] at e
    injection e with e1 e2
    injection e2 with e2 e3
    exact ⟨b :: a :: l, .swap a b l, by rw [List.map_cons, List.map_cons, e1, e2, e3]⟩
  | _, _, .trans h1 h2, l, e => by
    obtain ⟨l2, p2, q2⟩ := permI h2 l e
    obtain ⟨l1, p1, q1⟩ := permI h1 l2 q2.symm
    exact ⟨l1, p1.trans p2, q1⟩
theorem sortedS_of : ∀ {l : List Str}, l.Pairwise (fun a b => ¬ b.cps.toList < a.cps.toList) → sortedS l = true
  | [], _ => rfl
  | x :: r, .cons h t => by
    have ih := sortedS_of t
    cases r with
    | nil => rfl
    | cons z r =>
      show risingS x (z :: r) = true
      unfold risingS
      rw [Bool.and_eq_true]
      refine ⟨?_, ih⟩
      have := h z (by simp)
      rw [Bool.not_eq_true', Bool.eq_false_iff]
      exact fun c => this (ltc_iff.mp c)
def rSortedTx (K : PySem.W.Frag) : List V → Hp → VK → Prop := fun vs H Q => ∃ (a : Addr) (rs : List (V × Str)), vs = [V.ref a] ∧ SqL K H a (rs.map (·.1)) ∧ (∀ r ∈ rs, ∃ t rest, r.1 = V.ref t ∧ SqT K H t (V.str r.2 :: rest)) ∧ (rs.map (·.2)).Nodup ∧
  ∀ (rs' : List (V × Str)) (p : Addr), rs'.Perm rs → sortedS (rs'.map (·.2)) = true → H p = none → Q (.ref p) (upd H p (.lst (rs'.map (·.1))))
def txK (rs : List (V × Str)) (u : Value) : Str := ((rs.find? fun r => decide (r.1 = backV u)).map (·.2)).getD (tx [])
theorem nodup_inj {α β : Type} {f : α → β} : ∀ {l : List α}, (l.map f).Nodup → ∀ {x y : α}, x ∈ l → y ∈ l → f x = f y → x = y
  | a :: l, h, x, y, hx, hy, e => by
    rw [List.map_cons, List.nodup_cons] at h
    rcases List.mem_cons.mp hx with h1 | h1
    · rcases List.mem_cons.mp hy with h2 | h2
      · rw [h1, h2]
      · exact absurd (by rw [← h1, e]; exact List.mem_map_of_mem h2) h.1
    · rcases List.mem_cons.mp hy with h2 | h2
      · exact absurd (by rw [← h2, ← e]; exact List.mem_map_of_mem h1) h.1
      · exact nodup_inj h.2 h1 h2 e
theorem cr_sortedTx {X : Cx} : CallR X (.builtin "sorted") (rSortedTx X.K) := by
  intro pins s σ H vs us Q I r h
  obtain ⟨a, rs, rfl, hs, hx, hn, q⟩ := h
  obtain ⟨its, rv, hl, hz⟩ := I.list hs
  obtain ⟨u, rfl, ru⟩ := vals1 r
  obtain rfl : u = Value.ref a := ru
  obtain ⟨e1, e2⟩ := refs_back rv fun x m => by
    obtain ⟨r, hr, rfl⟩ := List.mem_map.mp m
    obtain ⟨t, _, e, _⟩ := hx r hr
    exact ⟨t, e⟩
  have htx : ∀ r ∈ rs, ∀ u ∈ its, r.1 = backV u → SrtO.IsTx s.heap u r.2 := fun r hr u hu e => by
    obtain ⟨t, rest, et, ht⟩ := hx r hr
    obtain ⟨b, rfl⟩ := e2 u hu
    rw [et] at e
    cases e
    obtain ⟨its2, r2, ⟨o, ho, hc, n, hd⟩, _⟩ := I.tuple ht
    cases its2 with
    | nil => cases r2
    | cons v vr =>
      cases r2 with
      | cons h1 h2 =>
        obtain ⟨t1, rfl⟩ := h1
        exact ⟨t, o, t1, vr, n, rfl, ho, hc, hd⟩
  have hfind : ∀ u ∈ its, ∃ r ∈ rs, r.1 = backV u ∧ txK rs u = r.2 := fun u hu => by
    have hm : backV u ∈ rs.map (·.1) := by rw [e1]; exact List.mem_map_of_mem hu
    obtain ⟨r, hr, e⟩ := List.mem_map.mp hm
    cases hf : rs.find? fun r => decide (r.1 = backV u) with
    | none => exact absurd e (by simpa using List.find?_eq_none.mp hf r hr)
    | some r0 =>
      refine ⟨r0, List.mem_of_find?_eq_some hf, by simpa using List.find?_some hf, ?_⟩
      unfold txK
      rw [hf]; rfl
  refine SrtO.sorted_txO (k := txK rs) hl.isList (by rw [← rv.length]; exact hz) (fun v hv => ?_) (fun v hv u hu e => ?_) fun h' d out h1 h2 kp hd hn => ?_
  · obtain ⟨r, hr, e, ek⟩ := hfind v hv
    rw [ek]
    exact htx r hr v hv e
  · obtain ⟨r, hr, e3, ek⟩ := hfind v hv
    obtain ⟨r', hr', e3', ek'⟩ := hfind u hu
    rw [ek, ek'] at e
    have := nodup_inj hn hr hr' e
    rw [this, e3'] at e3
    obtain ⟨b, rfl⟩ := e2 v hv
    obtain ⟨b', rfl⟩ := e2 u hu
    cases e3; rfl
  · have h3 : ∀ u ∈ out, ∃ a, u = Value.ref a := fun u hu => e2 u (h2.mem_iff.mp hu)
    obtain ⟨n, hn⟩ := hn
    obtain ⟨rs', hp, he⟩ := permI (f := fun r : V × Str => r.1) (ys := out.map backV) (zs := its.map backV) (h2.map _) rs e1.symm
    have hl2 : (rs'.map (·.1)).length ≤ sizeLine := by rw [List.length_map, hp.length_eq]; rw [List.length_map] at hz; exact hz
    refine ⟨.ref d, upd H d (.lst (rs'.map (·.1))), I.laid (t' := s.toks) kp hd ⟨hl2, out, n, by rw [he]; exact vals_back h3, hn⟩, rfl, q rs' d hp ?_ (I.hok.fresh hd)⟩
    have key : ∀ (os : List Value) (qs : List (V × Str)), (∀ u ∈ os, u ∈ its) → (∀ r ∈ qs, r ∈ rs) → qs.map (·.1) = os.map backV → qs.map (·.2) = os.map (txK rs) := by
      intro os
      induction os with
      | nil => intro qs _ _ e; cases qs <;> simp at e ⊢
      | cons u os ih =>
        intro qs ho hq e
        cases qs with
        | nil => simp at e
        | cons r qs =>
          rw [List.map_cons, List.map_cons] at e
          injection e with ea eb
          rw [List.map_cons, List.map_cons, ih qs (fun v hv => ho v (List.mem_cons_of_mem _ hv)) (fun v hv => hq v (List.mem_cons_of_mem _ hv)) eb]
          congr 1
          obtain ⟨r0, hr0, e3, ek⟩ := hfind u (ho u List.mem_cons_self)
          rw [ek]
          exact (htx r (hq r List.mem_cons_self) u (ho u List.mem_cons_self) ea).uniq (htx r0 hr0 u (ho u List.mem_cons_self) e3)
    rw [key out rs' (fun u hu => h2.mem_iff.mp hu) (fun r hr => hp.mem_iff.mp hr) he]
    refine sortedS_of (List.pairwise_map.mpr (List.Pairwise.imp (fun h => ?_) h1))
    exact of_decide_eq_false h
/-- rows: a text, then others -/
def rwsD (rs : List (Str × List D)) : List D := rs.map fun r => .tup (.str r.1 :: r.2)
def srtTM (m : Nw2) (ds : List D) (S : Hq) (Q : Qv) : Prop := match ds with
  | [x] => lsv x S fun xs => ∃ rs : List (Str × List D), xs = rwsD rs ∧ (rs.map (·.1)).Nodup ∧ ∀ rs' : List (Str × List D), rs'.Perm rs → sortedS (rs'.map (·.1)) = true → m (rwsD rs') S Q
  | _ => False
theorem rws_vs {K : PySem.W.Frag} {H : Hp} : ∀ {rs : List (Str × List D)} {vs : List V}, DVs K H (rwsD rs) vs → ∃ qs : List ((V × Str) × (Str × List D)), vs = qs.map (fun q => q.1.1) ∧ rs = qs.map (·.2) ∧ ∀ q ∈ qs, q.1.2 = q.2.1 ∧ DV K H (.tup (.str q.2.1 :: q.2.2)) q.1.1 ∧ ∃ t rest, q.1.1 = V.ref t ∧ SqT K H t (V.str q.1.2 :: rest)
  | [], _, .nil => ⟨[], rfl, rfl, fun _ h => by simp at h⟩
  | r :: rs, _, .cons (v := v) x t => by
    obtain ⟨qs, e1, e2, h⟩ := rws_vs t
    refine ⟨((v, r.1), r) :: qs, by rw [e1]; rfl, by rw [e2]; rfl, fun q hq => ?_⟩
    rcases List.mem_cons.mp hq with rfl | hq
    · refine ⟨rfl, x, ?_⟩
      cases x with
      | tup s d =>
        cases d with
        | cons d1 d2 =>
          cases d1
          exact ⟨_, _, rfl, s.1⟩
    · exact h q hq
theorem rws_dv {K : PySem.W.Frag} {H : Hp} : ∀ {qs : List ((V × Str) × (Str × List D))}, (∀ q ∈ qs, DV K H (.tup (.str q.2.1 :: q.2.2)) q.1.1) → DVs K H (rwsD (qs.map (·.2))) (qs.map fun q => q.1.1)
  | [], _ => .nil
  | q :: qs, h => .cons (h q List.mem_cons_self) (rws_dv fun x hx => h x (List.mem_cons_of_mem _ hx))
theorem lc_srtTT {K : PySem.W.Frag} : LiftC K (srtTM nwT) (rSortedTx K) := by
  intro ds S H Q' Q vs rh dv h q
  rcases ds with _ | ⟨x, _ | ⟨y, r⟩⟩
  · exact h.elim
  · cases dv with | @cons _ v _ _ dx t =>
    cases t
    obtain ⟨a, xs, vs, rfl, s, r, h, _⟩ := rh.lsv dx h
    obtain ⟨rs, rfl, hn, h⟩ := h
    obtain ⟨qs, rfl, rfl, hq⟩ := rws_vs r
    have e12 : (qs.map (·.1)).map (·.2) = (qs.map (·.2)).map (·.1) := by
      rw [List.map_map, List.map_map]
      exact List.map_congr_left fun q hm => (hq q hm).1
    refine ⟨a, qs.map (·.1), rfl, by rw [List.map_map]; exact s, fun r hr => ?_, by rw [e12]; exact hn, fun rs' p hp hs hne => ?_⟩
    · obtain ⟨q, hm, rfl⟩ := List.mem_map.mp hr
      exact (hq q hm).2.2
    · obtain ⟨qs', hp', rfl⟩ := permI hp qs rfl
      have hq' : ∀ q ∈ qs', q.1.2 = q.2.1 ∧ DV K H (.tup (.str q.2.1 :: q.2.2)) q.1.1 := fun q hm => ⟨(hq q (hp'.mem_iff.mp hm)).1, (hq q (hp'.mem_iff.mp hm)).2.1⟩
      have e12' : (qs'.map (·.1)).map (·.2) = (qs'.map (·.2)).map (·.1) := by
        rw [List.map_map, List.map_map]
        exact List.map_congr_left fun q hm => (hq' q hm).1
      have := q.newL rh hne (rws_dv fun q hm => (hq' q hm).2) (h (qs'.map (·.2)) (hp'.map _) (by rw [← e12']; exact hs) p (rh.fresh hne))
      rw [List.map_map]
      exact this
  · exact h.elim
theorem cr_srtTT {X : Cx} : CallR X (.builtin "sorted") (rSortedTx X.K) := cr_sortedTx
theorem cr_srtTF {X : Cx} : CallR X (.builtin "sorted") (fun xs H Q => rSortedTx X.K xs H (fzV Q)) := callr_fz cr_sortedTx
theorem lc_srtTF {K : PySem.W.Frag} : LiftC K (srtTM nwF) (fun xs H Q => rSortedTx K xs H (fzV Q)) := liftc_fz lc_srtTT fun ds S Q h => by
  rcases ds with _ | ⟨x, _ | ⟨y, r⟩⟩
  · exact h.elim
  · refine lsv_mono h fun xs h => ?_
    obtain ⟨rs, e, n, h⟩ := h
    exact ⟨rs, e, n, fun a b c => nw_fz (h a b c)⟩
  · exact h.elim
theorem q_srtTx {m : Nw2} {x : D} {S : Hq} {Q : Qv} : srtTM m [x] S Q = lsv x S fun xs => ∃ rs : List (Str × List D), xs = rwsD rs ∧ (rs.map (·.1)).Nodup ∧ ∀ rs' : List (Str × List D), rs'.Perm rs → sortedS (rs'.map (·.1)) = true → m (rwsD rs') S Q := rfl
/-! ### methods called with named arguments -/
def rMetK (nm : String) (m : Str) (sp : Sq) (n mm : Nat) (π : List Nat) (ro : RE) (ra rk : RA) : RE := fun σ S Q E => ro σ S (fun x S1 => metD nm m x S1 (ra σ S1 (fun ds S2 => rk σ S2 (fun es S3 => sp (gk n mm π (x :: ds) es) S3 Q NoX) E) E)) E
section
variable {X : Cx} {W : WX} {pos apos : Pos} {nm : String} {C f : Addr} {k : Nat} {fd : FuncData} {ps ks : List Str} {sp : Sq} {o : Expr} {m : Str} {kws : List Keyword} {n mm : Nat} {π : List Nat} {ro : RE} {rk : RA}
def tMethK0 (C : Addr) (m : Str) (sp : Sp) (gV : List V → List V → List V) (E : XK) (ta : TE) (tk : TA) : TE := fun σ H Q => ta σ H fun x H1 => ∃ a dx fs, x = .ref a ∧ H1 a = some (.ins C dx fs) ∧ fs.lookup m = none ∧
  tk σ H1 fun zs H2 => sp (gV [x] zs) H2 Q E
theorem pe_methK0 {CX : CXT} {spv : Sp} {E : XK} {ta : TE} {tk : TA} {g : List Value → List Value → List Value} {gV : List V → List V → List V} {pl : Sem Bool} (he : PE X o ta) (c : Cls X.K C) (hm : Meth X.K C m f) (F : FnOk X.prog X.w X.K X.mg X.base CX k f fd ps spv) (hr : Room k X.A) (hb : KBinds X.K fd ps ks g gV) (hx : Passes CX X E) (hkw : PK X kws tk)
    (hall : (backToKw pos (keywordEach kws X.env)).all (·.1.isSome) = true := by rfl) (hks : (backToKw pos (keywordEach kws X.env)).filterMap (·.1) = ks := by rfl)
    (hpl : ((backTo pos (starEach [] X.env)).any (·.1) || (backToKw pos (keywordEach kws X.env)).any (·.1.isNone)) = false := by rfl)
    (ht : eval (.Call (.Attribute o m apos) [] kws pos) X.env = (do
      let ov ← eval o X.env
      standAt apos.atName
      let (f, first) ← holding [ov] (getMethod ov m pl)
      callWith pos f first (backTo pos (starEach [] X.env)) (backToKw pos (keywordEach kws X.env))) := by rfl) :
    PE X (.Call (.Attribute o m apos) [] kws pos) (tMethK0 C m spv gV E ta tk) := by
  refine ⟨fun pins s σ H Q I h => ?_⟩
  refine PySem.W.methodCall_KW (pl := pl) (thn (he.run pins s σ H _ I h) fun u s1 ⟨x, H1, I1, rx, a, dx, fs, ex, ea, l, q⟩ => ?_) ht
  subst ex
  obtain rfl : u = Value.ref a := rx
  refine getmeth_ok I1 ea c hm l ?_
  refine PySem.W.callWith_KW0 (first := [.ref a]) (h₀ := X.base) I1.ok.mod.kin hm.kp hall (thn (hkw.run pos pins s1 σ H1 _ I1 q) fun ws s2 ⟨zs, H2, I2, rz, q2⟩ => ⟨I2.kIn, ?_⟩) hpl
  rw [hks]
  exact run_fnk (us := [.ref a]) (vs := [.ref a]) F hr hb hx I2 (.cons rfl .nil) rz q2
theorem ev_metK0 {pl : Sem Bool} (kc : Kc X.K nm C) (hm : Meth X.K C m f) (G : FnOk X.prog X.w X.K X.mg X.base CX0 k f fd ps (dn X.K sp)) (hr : Room k X.A) (hb : KBn' X.K fd ps ks n mm π) (ho : EV X W o ro) (hkw : EK X W kws rk)
    (hall : (backToKw pos (keywordEach kws X.env)).all (·.1.isSome) = true := by rfl) (hks : (backToKw pos (keywordEach kws X.env)).filterMap (·.1) = ks := by rfl)
    (hpl : ((backTo pos (starEach [] X.env)).any (·.1) || (backToKw pos (keywordEach kws X.env)).any (·.1.isNone)) = false := by rfl)
    (ht : eval (.Call (.Attribute o m apos) [] kws pos) X.env = (do
      let ov ← eval o X.env
      standAt apos.atName
      let (f, first) ← holding [ov] (getMethod ov m pl)
      callWith pos f first (backTo pos (starEach [] X.env)) (backToKw pos (keywordEach kws X.env))) := by rfl) : EV X W (.Call (.Attribute o m apos) [] kws pos) (rMetK nm m sp n mm π ro rNil rk) := by
  obtain ⟨T, p, l⟩ := ho.ex
  obtain ⟨Tk, pk, lk⟩ := hkw.ex
  refine ⟨_, pe_methK0 (E := fun _ _ _ => False) p kc.cls hm G hr hb pass0 pk hall hks hpl ht, fun σ σ' H S Q Q' E' rs rh h q xi => ?_⟩
  refine l σ σ' H S _ _ _ rs rh h (fun x S1 v H1 f1 rh1 dv h1 => ?_) xi
  cases dv with
  | ref a =>
    obtain ⟨fs, e, le, h1⟩ := h1
    obtain ⟨C', dx, ys, cn, g, r⟩ := rh1 a _ e
    cases cn.inj kc.cn
    refine ⟨a, dx, ys, rfl, g, r.lookupN le, ?_⟩
    refine lk σ σ' H1 S1 _ _ _ (rs.mono (f1.tle rh)) rh1 h1 (fun es S2 zs H2 f2 rh2 dz h2 => ?_) (xi.go f1)
    exact ⟨_, S2, Q', NoX, DVs.gk (.cons (.ref a) .nil) dz, rh2, h2, q.go (f1.trans f2), XI.no⟩
  | _ => exact h1.elim
end
end Y
set_option maxHeartbeats 2000000
namespace Y
open PySem PySem.Spec PyProof.Rows L2 LamX
/-! ### a lambda is made -/
section
variable {X : Cx} {pins : List (Addr × Obj)} {σ : L2.St} {H : Hp} {s : Shared}
/-- what the table tells, bears the name; each of it is of the old table, or new -/
def TbG (ps : Array Value) (H H1 : Hp) (P : Addr) (q : Str) : Prop := ∃ ps1 : Array Value, H1 P = some (.tbl ps1) ∧ TriplesOk ps1.toList ∧ ∀ (pos : Pos) (cv : Value), codeAmong pos ps1.toList = some cv →
  ∃ c, cv = .ref c ∧ H1 c = some (CodeO c q) ∧ (H c = none ∨ ∃ pos' : Pos, codeAmong pos' ps.toList = some (.ref c))
theorem lam_mk {c P : Addr} {q : Str} {params : Arguments} {body : Expr} {scope : Scope} {pos : Pos} {E Q : Value → Shared → Prop} {ps : Array Value} (I : Inv X pins σ H s) (TB : TabB X.base X.mg c P) (hcode : X.env.code = .ref c) (eq : X.env.qual ++ "<lambda>" = q)
    (hP : H P = some (.tbl ps)) (ht : TriplesOk ps.toList) (ha : ∀ (pos : Pos) (cv : Value), codeAmong pos ps.toList = some cv → ∃ c, cv = .ref c ∧ H c = some (CodeO c q)) (hdef : defaultsOf params X.env = ([], [])) (hfree : ∀ y ∈ scope.names, y.2 = .free → ∃ c, X.env.cells.lookup y.1 = some c)
    (h : ∀ (f d : Addr) (pm ctv : Value) (H1 : Hp) (s1 : Shared), Inv X pins σ H1 s1 → (∀ b o, b ≠ P → H b = some o → H1 b = some o) → TbG ps H H1 P q →
      s1.heap.get? f = some (PySem.W.kla_obj "<lambda>" q params body scope (cloFrom X.env.cells scope.names []) pm d ctv) → H1 f = none → H f = none → f ∉ frs X.stack → H1 d = some (CodeO d q) → (H d = none ∨ ∃ pos' : Pos, codeAmong pos' ps.toList = some (.ref d)) → Q (.ref f) s1) :
    wpAny (model X.prog X.w) X.A (eval (.Lambda params body scope pos) X.env) Q E s := by
  subst eq
  have glob := I.mod.glob.keeps I.bk
  have hd := TB.code.keeps I.bk
  have bi := TB.bm.keeps I.bk
  have off : ∀ f, s.heap.objs.size ≤ f → f ∉ frs X.stack := fun f hf z => by
    rcases List.mem_cons.mp (I.stkSub _ z) with e | e
    · exact absurd I.lt (by rw [← e]; exact Nat.not_lt.mpr hf)
    · exact I.nofs hf e
  have hP2 := I.hok P _ hP
  refine PySem.W.kla_eval hdef ?_
  cases hc : codeAmong pos ps.toList with
  | some v =>
    obtain ⟨d, rfl, hd1⟩ := ha pos v hc
    refine PySem.W.kla_makeFunctionHit (mg := X.mg) (c := c) (P := P) (ps := ps) (closure_ok hfree) I.ok.glob glob hcode hd hP2 ht hc bi fun ctv g tk hx hsz => ?_
    refine h g.objs.size d ((X.mg "__name__").getD .none) ctv H _ (I.kept fun b o e => Heap.get?_push_of_some _ (hx b o e)) (fun _ _ _ e => e) ⟨ps, hP, ht, fun p v hv => ?_⟩ (Heap.get?_push_size _ rfl) (I.hok.fresh hsz) (I.hok.fresh hsz) (off _ hsz) hd1 (.inr ⟨pos, hc⟩)
    obtain ⟨b, rfl, hb⟩ := ha p v hv
    exact ⟨b, rfl, hb, .inr ⟨p, hv⟩⟩
  | none =>
    refine PySem.W.kla_makeFunction (mg := X.mg) (c := c) (P := P) (ps := ps) (closure_ok hfree) I.ok.glob glob hcode hd hP2 ht hc TB.gP bi fun d ctv g tk hx hge hlt hrec htb => ?_
    obtain ⟨d2, oc, vs, t, ed, hoc, hdt, hv⟩ := hrec
    cases ed
    have hsz : s.heap.objs.size ≤ g.objs.size := Nat.le_trans hge (Nat.le_of_lt hlt)
    have hn : H d = none := I.hok.fresh hge
    have ne : P ≠ d := ne_of_none hP hn
    have J := inv_table (t' := tk) (q := X.env.qual ++ "<lambda>") (more := #[rawInt pos.line, rawInt pos.col, .ref d]) (h' := g.push (PySem.W.kla_obj "<lambda>" (X.env.qual ++ "<lambda>") params body scope (cloFrom X.env.cells scope.names []) ((X.mg "__name__").getD .none) d ctv)) I hP
      (fun b o nb e => Heap.get?_push_of_some _ (hx b o nb e)) (Heap.get?_push_of_some _ htb) hge ⟨oc, vs, t, Heap.get?_push_of_some _ hoc, hdt, hv⟩
    have kp : ∀ b o, b ≠ P → H b = some o → upd (upd H P (.tbl (ps ++ #[rawInt pos.line, rawInt pos.col, .ref d]))) d (CodeO d (X.env.qual ++ "<lambda>")) b = some o := fun b o nb e => by
      rw [upd_ne (ne_of_none e hn), upd_ne nb]; exact e
    have eL : (ps ++ #[rawInt pos.line, rawInt pos.col, .ref d]).toList = ps.toList ++ [rawInt pos.line, rawInt pos.col, .ref d] := by simp
    refine h g.objs.size d ((X.mg "__name__").getD .none) ctv _ _ J kp ⟨_, by rw [upd_ne ne, upd_same], by rw [eL]; exact PySem.TriplesOk_snoc _ _ _ _ ht, fun p v hv => ?_⟩ (Heap.get?_push_size _ rfl) ?_ (I.hok.fresh hsz) (off _ hsz) upd_same (.inl hn)
    · rw [eL] at hv
      rcases among_app _ ht hv with z | z
      · obtain ⟨b, rfl, hb⟩ := ha p v z
        exact ⟨b, rfl, kp _ _ (fun z => by rw [z, hP] at hb; cases hb) hb, .inr ⟨p, z⟩⟩
      · exact ⟨d, z, upd_same, .inl hn⟩
    · have n1 : g.objs.size ≠ d := Nat.ne_of_gt hlt
      have n2 : g.objs.size ≠ P := Nat.ne_of_gt (Nat.lt_of_lt_of_le (Heap.lt_size hP2) hsz)
      rw [upd_ne n1, upd_ne n2]
      exact I.hok.fresh hsz
end
/-! ### the lambda's context, where errors may leave it -/
def lamX (X : Cx) (A : Around) (outer : List Env) (s : Shared) (H : Hp) (E : XK) (scope : Scope) (f d : Addr) : Cx :=
  (lamCx X A outer s H E scope f d).tr [] fun e s1 => wpAny (model X.prog X.w) (A.deeper (lamEnv X scope s.heap.objs.size f d)) (leaving (lamEnv X scope s.heap.objs.size f d) e) (fun _ s2 => L2N.CX X.prog X.w outer H s E e s2) (fun e2 s2 => L2N.CX X.prog X.w outer H s E e2 s2) s1
theorem lamX_takes {X : Cx} {A : Around} {outer : List Env} {s : Shared} {H : Hp} {E : XK} {scope : Scope} {f d : Addr} : L2N.Takes (lamX X A outer s H E scope f d) (fun cls a _ H => E cls a H) := L2N.takes_of rfl rfl rfl rfl
theorem lamX_inv {X : Cx} {A : Around} {outer : List Env} {s s1 : Shared} {H H1 : Hp} {E : XK} {scope : Scope} {f d : Addr} {σ : L2.St} (I : Inv (lamCx X A outer s H E scope f d) [] σ H1 s1) : Inv (lamX X A outer s H E scope f d) [] σ H1 s1 :=
  ⟨I.ok.toTry _ _, I.os, I.bare, I.base, I.loc, I.cell, I.free, I.freeC, I.pin, I.hok, I.len⟩
/-- the thunk that the def got is called: d is its code, σ0' the frame in which it was made -/
abbrev Th := Hq → Qv → Xw → Prop
def rAsk (f d : Addr) (o : HQ) (th : Th) : RE := fun σ S Q E => σ[0]? = some (some (.ref f)) ∧ S d = some o ∧ th S Q E
section
variable {X : Cx} {pins : List (Addr × Obj)} {σ : L2.St} {H : Hp} {s : Shared}
theorem ev_ask {Ng : List Str} {qg : Str} {sg : Scope} {g f d : Addr} {cdg pm ctv : Value} {q : Str} {params : Arguments} {body : Expr} {scope : Scope} {k : Nat} {a : Str} {σ' : Sg} {r : RE}
    (I : Inv X pins σ H s) (L : LamS X.env.scope scope) (eq : X.env.qual ++ "<lambda>" = q) (hf : s.heap.get? f = some (PySem.W.kla_obj "<lambda>" q params body scope (cloFrom X.env.cells scope.names []) pm d ctv)) (hfn : H f = none) (hfr : f ∉ frs X.stack)
    (hbind : bindArgs (PySem.W.kla_fn "<lambda>" q params body scope (cloFrom X.env.cells scope.names []) pm (.ref d) ctv) ⟨[], []⟩ = pure [])
    (hr : Room (k + 1) (X.A.deeper (envOfC qg sg s.heap.objs.size g cdg)))
    (hbody : ∀ (A : Around) (outer : List Env) (s : Shared) (H : Hp) (E : XK), Room k (A.deeper (lamEnv X scope s.heap.objs.size f d)) → EV (lamX X A outer s H E scope f d) (fun cls a _ H => E cls a H) body r)
    (hN : Ng[0]? = some a) (hv : Vis sg a) (hd : (a == ("__debug__" : Str)) = false) (hcd : (a == ("__classdict__" : Str)) = false)
    (W : WX) (pn : List (Addr × Obj)) (xe : Value → Shared → Prop) (p1 p2 : Pos) (tk : L2N.Takes ((cxOf CX0 X.prog X.w X.K X.mg X.base Ng qg sg g cdg X.A X.stack s H E0).tr pn xe) W) :
    EV ((cxOf CX0 X.prog X.w X.K X.mg X.base Ng qg sg g cdg X.A X.stack s H E0).tr pn xe) W (.Call (.Name a p1) [] [] p2) (rAsk f d (.co q σ σ') fun S Q E => r σ' S Q E) := by
  subst eq
  refine ⟨fun σZ HZ Q => σZ[0]? = some (some (.ref f)) ∧ HZ d = some (CodeO d (X.env.qual ++ "<lambda>")) ∧ ∃ S Q' E', RS X.K HZ σ' σ ∧ RH X.K S HZ ∧ r σ' S Q' E' ∧ QI X.K S HZ Q' Q ∧ XI X.K S HZ E' (wx W σZ), ⟨fun pinsZ sZ σZ HZ Q IZ h => ?_⟩, fun σZ σZ' HZ S Q Q' E' rs rh h q xi => ?_⟩
  · obtain ⟨hs, hc, S, Q', E', rs, rh, hr1, qi, xi⟩ := h
    refine wpAny_Call_Name_kw (thn ((pe_var (pos := p1) (i := 0) hN hv hd hcd).run pinsZ sZ σZ HZ (fun v H1 => v = .ref f ∧ H1 = HZ) IZ ⟨.ref f, hs, rfl, rfl⟩) fun u s1 ⟨v, H1, I1, r1, q1⟩ => ?_)
    obtain ⟨rfl, rfl⟩ := q1
    obtain rfl : u = Value.ref f := r1
    have of1 := I1.base.keep f _ hf hfn hfr (fun z => nomatch (show f ∈ ([] : List Addr) from z))
    refine PySem.W.callWith_F0 ⟨_, _, _, _, of1⟩ ?_
    have un : Un (frs X.stack) [] H H1 s.heap s1.heap := I1.base
    obtain ⟨⟨oc, vs, t, hoc, hdc, hvc⟩, _, _⟩ := I1.hok d _ hc
    have rc : codeAny (model X.prog X.w) (X.A.deeper (envOfC qg sg s.heap.objs.size g cdg)) (.call (.ref f) ⟨[], []⟩) (CR (L2N.CX X.prog X.w) (envOfC qg sg s.heap.objs.size g cdg :: X.stack) X.prog X.w H1 s1 Q (wx W σZ)) s1 := by
      refine PySem.W.kla_callFunE hr.depth of1 rfl L.co L.gen rfl ⟨d, oc, vs, t, rfl, hoc, hdc, hvc⟩ ?_
      rw [hbind]
      refine wpAny_pure (wpAny_newFunctionEnv (fun y hy => (L.own y hy).2) (fun y hy => absurd hy (by simp)) (fun h1 hns hsb => ⟨I1.nolimit.fresh _ hsb, ?_⟩) L.kind)
      show codeAny _ _ (.expr body (lamEnv X scope s1.heap.objs.size f d)) _ _
      have kp : ∀ b o, s1.heap.get? b = some o → h1.get? b = some o := fun b o e => hsb.extBut b o (Nat.ne_of_lt (Heap.lt_size e)) (Heap.get?_push_of_some _ e)
      have J := lamX_inv (f := f) (d := d) (lam_start2 (E := wx W σZ) (tk := s1.toks + ([] : List (Str × Value)).length) I L I1.env0 hr.hd un hns kp)
      obtain ⟨T, p, l⟩ := (hbody (X.A.deeper (envOfC qg sg s.heap.objs.size g cdg)) (envOfC qg sg s.heap.objs.size g cdg :: X.stack) s1 H1 (wx W σZ) (hr.deeper _)).ex
      refine PySem.W.kla_codeExpr (wpAny_mono (p.run [] _ _ H1 Q J (l σ σ' H1 S Q Q' E' rs rh hr1 qi xi)) (fun v s2 hq => ?_) fun e s2 hq => hq)
      obtain ⟨w2, H2, J2, rv, hq⟩ := hq
      exact ⟨w2, H2, J2.os, J2.bare, J2.base, J2.hok, rv, hq⟩
    have hx := L2N.passAt tk σZ
    refine wpAny_call (codeAny_mono rc fun r s2 hq => ?_)
    cases r with
    | error e => exact hx pinsZ H1 s1 e s2 I1 hq
    | ok fl =>
      cases fl with
      | ret u => exact I1.after hq
      | next => exact False.elim hq
      | brk => exact False.elim hq
      | cont => exact False.elim hq
  · obtain ⟨h0, h1, h2⟩ := h
    obtain ⟨v, e, dv⟩ := rs.get 0 _ h0
    cases dv
    obtain ⟨hc, rs2⟩ := rh d _ h1
    exact ⟨e, hc, S, Q', E', rs2, rh, h2, q, xi⟩
end
/-! ### a def that gets a lambda is called -/
def enter (S : Hq) (d : Addr) (o : HQ) : Hq := fun b => if b = d then some o else match S b with | some (.tb _) => none | u => u
def leaveL (S S1 : Hq) (d : Addr) : Hq := fun b => if b = d then none else match S b with | some (.tb q) => some (.tb q) | _ => S1 b
theorem enter_same {S : Hq} {d : Addr} {o : HQ} : enter S d o d = some o := if_pos rfl
theorem enter_get {S : Hq} {d a : Addr} {o u : HQ} (hd : S d = none) (e : S a = some u) (n : ∀ q, u ≠ .tb q) : enter S d o a = some u := by
  have ne : a ≠ d := fun z => by rw [z, hd] at e; cases e
  unfold enter
  rw [if_neg ne, e]
  cases u <;> first | rfl | exact absurd rfl (n _)
theorem leave_enter {S : Hq} {d : Addr} {o : HQ} (hd : S d = none) : leaveL S (enter S d o) d = S := by
  funext b
  unfold leaveL enter
  by_cases e : b = d
  · rw [if_pos e, e, hd]
  · rw [if_neg e, if_neg e]
    cases S b with
    | none => rfl
    | some u => cases u <;> rfl
theorem RO.any {K : PySem.W.Frag} {S S' : Hq} {H : Hp} {a : Addr} {u : HQ} (n : ∀ q, u ≠ .tb q) (x : RO K S H a u) : RO K S' H a u := by
  cases u <;> first | exact x | exact absurd rfl (n _)
/-- x(lambda: ..), in the def of the name y -/
def rLam (y : Str) (sp : Addr → Addr → HQ → Th → Hq → Qv → Prop) (r : RE) : RE := fun σ S Q E => (∃ P, S P = some (.tb y)) ∧ ∀ (f d : Addr) (vs : L2.St), S f = none → S d = none → f ≠ d →
  sp f d (.co (lamN y) vs σ) (fun S Q E => r σ S Q E) (enter S d (.co (lamN y) vs σ)) fun x S1 => S1 d = some (.co (lamN y) vs σ) ∧ Q x (leaveL S S1 d)
section
variable {K : PySem.W.Frag} {S S' : Hq} {H H1 H' : Hp} {P d : Addr} {q : Str} {ps : Array Value} {σ' : Sg} {σ : L2.St}
theorem tb_tle (hP : H P = some (.tbl ps)) (kp : ∀ b o, b ≠ P → H b = some o → H1 b = some o) : Tle K H H1 := by
  have ne : ∀ {b : Addr} {o : HO}, H b = some o → (∀ x, o ≠ .tbl x) → b ≠ P := fun {b o} e n z => by rw [z, hP] at e; exact n ps (Option.some.inj e).symm
  refine ⟨fun a xs h => ?_, fun a xs h => ?_, fun a xs h => kp _ _ (ne h (fun _ z => by cases z)) h⟩
  · rcases h with (h | ⟨o, h⟩) | h
    · exact .inl (.inl (kp _ _ (ne h (fun _ z => by cases z)) h))
    · exact .inl (.inr ⟨o, kp _ _ (ne h (fun _ z => by cases z)) h⟩)
    · exact .inr h
  · rcases h with ⟨o, h⟩ | h
    · exact .inl ⟨o, kp _ _ (ne h (fun _ z => by cases z)) h⟩
    · exact .inr h
theorem tb_rh {y : Str} (ey : lamN y = q) (rh : RH K S H) (hSP : S P = some (.tb y)) (hP : H P = some (.tbl ps)) (kp : ∀ b o, b ≠ P → H b = some o → H1 b = some o) (tg : TbG ps H H1 P q) (ha : ∀ (pos : Pos) (cv : Value), codeAmong pos ps.toList = some cv → ∃ c, cv = .ref c ∧ H c = some (CodeO c q) ∧ S c = none) : RH K S H1 := fun b o e => by
  by_cases hb : b = P
  · subst hb
    have h0 := (rh b _ hSP).1
    rw [hSP] at e; cases e
    subst ey
    obtain ⟨ps1, h1, h2, h3⟩ := tg
    refine ⟨h0, ps1, h1, h2, fun pos cv h => ?_⟩
    obtain ⟨c, rfl, hc, z | ⟨p, z⟩⟩ := h3 pos cv h
    · exact ⟨c, rfl, hc, rh.fresh z⟩
    · obtain ⟨c2, e2, _, n⟩ := ha p _ z
      cases e2
      exact ⟨c, rfl, hc, n⟩
  · cases hH : H b with
    | none => rw [rh.fresh hH] at e; cases e
    | some u => exact (rh b o e).stay (tb_tle hP kp) (fun c q' hc n => ⟨kp c _ (fun z => by rw [z, hP] at hc; cases hc) hc, n⟩) (by rw [hH]; exact kp b u hb hH)
theorem enter_rh (rh : RH K S H1) (hc : H1 d = some (CodeO d q)) (rs : RS K H1 σ' σ) : RH K (enter S d (.co q σ σ')) H1 := fun b o e => by
  unfold enter at e
  by_cases hb : b = d
  · rw [if_pos hb] at e; cases e; subst hb; exact ⟨hc, rs⟩
  · rw [if_neg hb] at e
    cases hS : S b with
    | none => rw [hS] at e; cases e
    | some u =>
      have hu : ∀ z, u ≠ .tb z := fun z e2 => by rw [hS, e2] at e; cases e
      have e3 : some u = some o := by rw [hS] at e; cases u <;> first | exact e | exact absurd rfl (hu _)
      cases e3
      exact RO.any hu (rh b _ hS)
theorem leave_fr (hSd : S d = none) (hc : H1 d = some (CodeO d q)) (f : Fr (enter S d (.co q σ σ')) H1 S' H') (rh' : RH K S' H') (e' : S' d = some (.co q σ σ')) : Fr S H1 (leaveL S S' d) H' := fun b o e n => by
  by_cases hb : b = d
  · subst hb
    rw [hc] at e; cases e
    exact ⟨(rh' b _ e').1, if_pos rfl⟩
  · obtain ⟨h1, h2⟩ := f b o e (by unfold enter; rw [if_neg hb, n])
    refine ⟨h1, ?_⟩
    unfold leaveL
    rw [if_neg hb, n]; exact h2
theorem leave_rh (rh : RH K S H1) (hSd : S d = none) (hc : H1 d = some (CodeO d q)) (f : Fr (enter S d (.co q σ σ')) H1 S' H') (rh' : RH K S' H') (e' : S' d = some (.co q σ σ')) : RH K (leaveL S S' d) H' := fun b u e => by
  have hc' : H' d = H1 d := by rw [hc]; exact (rh' d _ e').1
  have fr := leave_fr hSd hc f rh' e'
  by_cases hb : b = d
  · unfold leaveL at e; rw [if_pos hb] at e; cases e
  have ent : S b = none ∨ (∃ z, S b = some (.tb z)) → enter S d (.co q σ σ') b = none := fun h => by
    unfold enter; rw [if_neg hb]
    rcases h with h | ⟨z, h⟩ <;> rw [h]
  by_cases ht : ∃ z, S b = some (.tb z)
  · obtain ⟨z, hS⟩ := ht
    have e2 : u = .tb z := by unfold leaveL at e; rw [if_neg hb, hS] at e; cases e; rfl
    subst e2
    obtain ⟨h0, ps2, h1, h2, h3⟩ := rh b _ hS
    refine ⟨h0, ps2, (f b _ h1 (ent (.inr ⟨z, hS⟩))).1, h2, fun pos cv h => ?_⟩
    obtain ⟨c, e3, e4, e5⟩ := h3 pos cv h
    exact ⟨c, e3, (fr c _ e4 e5).1, (fr c _ e4 e5).2⟩
  · have e2 : S' b = some u := by
      unfold leaveL at e; rw [if_neg hb] at e
      cases hS : S b with
      | none => rw [hS] at e; exact e
      | some v => rw [hS] at e; cases v <;> first | exact e | exact absurd ⟨_, hS⟩ ht
    have x := rh' b u e2
    by_cases hu : ∃ z, u = .tb z
    · obtain ⟨z, rfl⟩ := hu
      obtain ⟨h0, ps2, h1, h2, h3⟩ := x
      refine ⟨h0, ps2, h1, h2, fun pos cv h => ?_⟩
      obtain ⟨c, e3, e4, e5⟩ := h3 pos cv h
      refine ⟨c, e3, e4, ?_⟩
      unfold leaveL
      by_cases hcd : c = d
      · rw [if_pos hcd]
      · rw [if_neg hcd]
        cases hS : S c with
        | none => exact e5
        | some v =>
          cases v with
          | tb z2 =>
            obtain ⟨_, ps3, k1, _⟩ := rh c _ hS
            have := (f c _ k1 (by unfold enter; rw [if_neg hcd, hS])).1
            rw [e4] at this; cases this
          | _ => exact e5
    · exact RO.any (fun z e3 => hu ⟨z, e3⟩) x
end
theorem ev_lamcall {X : Cx} {W : WX} {P c g : Addr} {x a y : Str} {k : Nat} {st : Stmt} {fd : FuncData} {Ng : List Str} {params : Arguments} {body : Expr} {scope : Scope} {r : RE} {sp : Addr → Addr → HQ → Th → Hq → Qv → Prop} {rd : Addr → Addr → HQ → Th → RSt} {p lpos pos : Pos}
    (hm : X.mg x = some (.ref g)) (hk : PySem.W.keepIn X.K (.ref g) = true) (F : Fun X.K x x st g fd) (hb : Binds X.K fd [a] []) (Sg : FnScope Ng [a] (defScope st)) (hNg : Ng[0]? = some a) (hva : Vis (defScope st) a)
    (hG : ∀ (cdv : Value) (A : Around) (outer : List Env) (s : Shared) (H : Hp) (f d : Addr) (o : HQ) (th : Th), Room (k + 1) (A.deeper (envOfC x (defScope st) s.heap.objs.size g cdv)) →
      (∀ (W : WX) (pn : List (Addr × Obj)) (xe : Value → Shared → Prop) (p1 p2 : Pos), L2N.Takes ((cxOf CX0 X.prog X.w X.K X.mg X.base Ng x (defScope st) g cdv A outer s H E0).tr pn xe) W → EV ((cxOf CX0 X.prog X.w X.K X.mg X.base Ng x (defScope st) g cdv A outer s H E0).tr pn xe) W (.Call (.Name a p1) [] [] p2) (rAsk f d o th)) →
      EB (cxOf CX0 X.prog X.w X.K X.mg X.base Ng x (defScope st) g cdv A outer s H E0).nox W0 (defBody st) (rd f d o th))
    (pure' : ∀ f d o th S Q, sp f d o th S Q → rd f d o th { nx := fun _ S => Q .non S, rt := Q } (start' Ng.length [.ref f]) S)
    (TB : TabB X.base X.mg c P) (hti : PySem.W.tabIn X.K y = some (c, P)) (hcode : X.env.code = .ref c) (eq : X.env.qual ++ "<lambda>" = lamN y) (hr : Room (k + 2) X.A) (L : LamS X.env.scope scope)
    (hbody : ∀ (A : Around) (outer : List Env) (s : Shared) (H : Hp) (E : XK) (f d : Addr), Room k (A.deeper (lamEnv X scope s.heap.objs.size f d)) → EV (lamX X A outer s H E scope f d) (fun cls a _ H => E cls a H) body r)
    (hg : Gl X x := by rfl) (hdef : defaultsOf params X.env = ([], []) := by rfl)
    (hbind : ∀ (q : Str) (cl : List (Str × Addr)) (pm cv ctv : Value), bindArgs (PySem.W.kla_fn "<lambda>" q params body scope cl pm cv ctv) ⟨[], []⟩ = pure [] := by intro _ _ _ _ _; rfl)
    (hdb : (x == ("__debug__" : Str)) = false := by decide) (hd : (a == ("__debug__" : Str)) = false := by decide) (hcd : (a == ("__classdict__" : Str)) = false := by decide) :
    EV X W (.Call (.Name x p) [.Lambda params body scope lpos] [] pos) (rLam y sp r) := by
  obtain ⟨oc, od, kV, doc, pm, an, cdv, ct, osl, rfl, lk, hcdv⟩ := F.ex
  refine ⟨fun σ H Q => ∃ σ' S Q' E', RS X.K H σ' σ ∧ RH X.K S H ∧ rLam y sp r σ' S Q' E' ∧ QI X.K S H Q' Q, ⟨fun pins s σ H Q I h => ?_⟩, fun σ σ' H S Q Q' E' rs rh h q xi => ⟨σ', S, Q', E', rs, rh, h, q⟩⟩
  obtain ⟨σ', S, Q', E', rs, rh, ⟨⟨P', hSP⟩, hsp⟩, qi⟩ := h
  obtain ⟨⟨c', hti'⟩, ps, hP, ht, ha⟩ := rh P' _ hSP
  rw [hti] at hti'; cases hti'
  refine wpAny_Call_Name_kw (ld_glob I hg hm ?_ hdb)
  refine PySem.W.callWith_K (h₀ := X.base) I.ok.mod.kin hk ?_ (by rfl) (by rfl)
  show wpAny _ _ (spliced ((false, eval (.Lambda params body scope lpos) X.env) :: backTo pos (starEach [] X.env))) _ _ s
  refine Calls.spliced_cons (lam_mk I TB hcode eq hP ht (fun pos cv h => let ⟨c, e1, e2, _⟩ := ha pos cv h; ⟨c, e1, e2⟩) hdef (L.has I.ok) fun f d pm' ctv H1 s1 I1 kp tg hf hfn hf0 hfr hd1 hdo => ?_)
  refine Calls.spliced_nil ⟨I1.kIn, ?_⟩
  have hSd : S d = none := by
    rcases hdo with z | ⟨p', z⟩
    · exact rh.fresh z
    · obtain ⟨c, e, _, n⟩ := ha p' _ z
      cases e; exact n
  have hSf : S f = none := rh.fresh hf0
  have hfd : f ≠ d := fun z => by rw [z, hd1] at hfn; cases hfn
  have rs1 := rs.mono (tb_tle (K := X.K) hP kp)
  have rh1 := tb_rh rfl rh hSP hP kp tg ha
  have rh2 := enter_rh rh1 hd1 rs1
  have fr0 : Fr S H S H1 := fun b o e n => ⟨kp b o (fun z => by rw [z, hSP] at n; cases n) e, n⟩
  have rc : codeAny (model X.prog X.w) X.A (.call (.ref g) ⟨[.ref f], []⟩) (CR CX0 X.stack X.prog X.w H1 s1 Q E0) s1 := by
    refine run_ofS (N := Ng) (ps := [a]) (us := [.ref f]) (vs := [.ref f]) lk hcdv Sg hr I1.env0 (hb s1 [.ref f] I1.kIn rfl) (.cons rfl .nil) rfl fun hr' => ?_
    obtain ⟨T, p, l⟩ := (hG cdv X.A X.stack s1 H1 f d (.co (lamN y) σ σ') (fun S Q E => r σ' S Q E) hr' (fun W pn xe p1 p2 tk => ev_ask I1 L eq hf hfn hfr (hbind _ _ _ _ _) hr' (fun A outer s H E hr2 => hbody A outer s H E f d hr2) hNg hva hd hcd W pn xe p1 p2 tk)).ex
    refine ⟨T, p.nox, ?_⟩
    refine l _ (start' Ng.length [.ref f]) H1 _ _ { nx := fun _ S1 => S1 d = some (.co (lamN y) σ σ') ∧ Q' .non (leaveL S S1 d), rt := fun x S1 => S1 d = some (.co (lamN y) σ σ') ∧ Q' x (leaveL S S1 d) } (rs_start Ng (.cons (.ref f) .nil)) rh2 (pure' _ _ _ _ _ _ (hsp f d σ hSf hSd hfd)) ⟨fun σ2' S2 σ2 H2 f2 rh2' rs2 h2 => ?_, fun x S2 v H2 f2 rh2' dv h2 => ?_, fun _ _ _ _ _ _ _ z => z.elim, fun _ _ _ _ _ _ _ z => z.elim, fun _ _ _ _ _ _ _ _ _ _ _ _ _ _ z => z.elim⟩
    · exact qi _ _ _ _ (fr0.trans (leave_fr hSd hd1 f2 rh2' h2.1)) (leave_rh rh1 hSd hd1 f2 rh2' h2.1) .non h2.2
    · exact qi _ _ _ _ (fr0.trans (leave_fr hSd hd1 f2 rh2' h2.1)) (leave_rh rh1 hSd hd1 f2 rh2' h2.1) dv h2.2
  refine wpAny_call (codeAny_mono rc fun r s2 hq => ?_)
  cases r with
  | error e => exact (show False from hq).elim
  | ok fl =>
    cases fl with
    | ret u => exact I1.after hq
    | next => exact False.elim hq
    | brk => exact False.elim hq
    | cont => exact False.elim hq
end Y
set_option maxHeartbeats 2000000
namespace Y
open PySem PySem.Spec PyProof.Rows L2 LamX
/-! ### a def whose code object is known: it makes lambdas -/
def FunL (K : PySem.W.Frag) (x qual : Str) (st : Stmt) (f : Addr) (fd : FuncData) (c : Addr) : Prop :=
  ∃ (oc : Value) (od : Option Addr) (kV doc pm : Value) (an : Option Addr) (ct : Value) (osl : Array (Option Value)), fd = PySem.W.fnOf x qual (defArgs st) (defBody st) (defScope st) .none kV doc pm an (.ref c) ct ∧
    K.lookup f = some ⟨oc, od, .func (PySem.W.fnOf x qual (defArgs st) (defBody st) (defScope st) .none kV doc pm an (.ref c) ct), osl⟩ ∧ PySem.W.codeIn K (.ref c) qual = true
section
variable {P : Program} {w : World} {K : PySem.W.Frag} {mg : Str → Option Value} {base : Heap}
theorem fn_okL {x qual : Str} {st : Stmt} {f c : Addr} {fd : FuncData} {N ps : List Str} {k : Nat} {sp : Sq} {t : RSt} (F : FunL K x qual st f fd c) (Sc : FnScope N ps (defScope st)) (len : ∀ ds S Q E, sp ds S Q E → ds.length = ps.length)
    (hb : ∀ (A : Around) (outer : List Env) (s : Shared) (H : Hp) (E : XK), Room k (A.deeper (envOfC qual (defScope st) s.heap.objs.size f (.ref c))) → EB (cxOf CX0 P w K mg base N qual (defScope st) f (.ref c) A outer s H E).nox W0 (defBody st) t)
    (pure' : ∀ ds S Q, sp ds S Q NoX → t { nx := fun _ S => Q .non S, rt := Q } (start' N.length ds) S)
    (nox : ∀ ds S Q E, sp ds S Q E → sp ds S Q NoX) : FnOk P w K mg base CX0 (k + 1) f fd ps (dn K sp) := by
  obtain ⟨oc, od, kV, doc, pm, an, ct, osl, rfl, lk, hcd⟩ := F
  refine fn_of lk hcd Sc (fun vs H Q E h => ?_) (fun A outer s H vs Q E hr h => ?_)
  · obtain ⟨ds, S, Q', E', dv, _, h, _⟩ := h
    rw [← dv.length]
    exact len _ _ _ _ h
  · obtain ⟨ds, S, Q', E', dv, rh, h, q, xi⟩ := h
    obtain ⟨T, p, l⟩ := (hb A outer s H E hr).ex
    refine ⟨T, p.nox, ?_⟩
    refine l _ (start' N.length ds) H S _ { nx := fun _ S => Q' .non S, rt := Q' } (rs_start N dv) rh (pure' _ _ _ (nox _ _ _ _ h)) ⟨fun σ' S' σ H' f rh' rs h' => ?_, q, fun _ _ _ _ _ _ _ z => z.elim, fun _ _ _ _ _ _ _ z => z.elim, fun _ _ _ _ _ _ _ _ _ _ _ _ _ _ z => z.elim⟩
    exact q _ _ _ _ f rh' .non h'
/-- what is tracked may be let be ahead of a call -/
theorem fn_fz {k : Nat} {f : Addr} {fd : FuncData} {ps : List Str} {sp : Sp} (F : FnOk P w K mg base CX0 k f fd ps sp) :
    FnOk P w K mg base CX0 k f fd ps (fun vs H Q E => sp vs H Q E ∨ ∃ a u, vs.length = ps.length ∧ Mut (some u) ∧ H a = some u ∧ ∀ o, sp vs (upd H a (.frz o u)) Q E) := by
  refine ⟨fun vs H Q E h => ?_, fun A outer s H args us vs Q E hr e0 hb r h => ?_⟩
  · rcases h with h | ⟨_, _, h, _⟩
    · exact F.len _ _ _ _ h
    · exact h
  · rcases h with h | ⟨a, u, _, m, e, h⟩
    · exact F.run A outer s H args us vs Q E hr e0 hb r h
    · obtain ⟨ob, ho⟩ := m.get (e0.hok a _ e)
      have h0 : ∀ b, H b = none → b ≠ a := fun b q z => by subst z; rw [e] at q; cases q
      have hne : ∀ b v, H b = some v → ¬ Mut (some v) → b ≠ a := fun b v q k z => by subst z; rw [e] at q; cases q; exact k m
      have e1 : Env0 P w K mg base A outer s (upd H a (.frz ob u)) := ⟨e0.frames, e0.mod, fun b o q => ⟨(e0.bs b o q).1, by rw [upd_ne (h0 b (e0.bs b o q).2)]; exact (e0.bs b o q).2⟩, e0.bsz, e0.funs, fun b hb => by rw [upd_ne (h0 b (e0.frf b hb))]; exact e0.frf b hb, e0.hok.frzU m e ho, e0.bare⟩
      have un : Un (frs outer) [] H (upd H a (.frz ob u)) s.heap s.heap := ⟨fun b o q _ _ _ => q, fun b o q _ _ _ => ⟨o.slots, q⟩, fun b o _ n _ => by rw [upd_ne (h0 b n)]; exact n, fun b o q _ => ⟨o, q⟩, fun b ys q => by rw [upd_ne (hne b _ q fun z => z)]; exact q,
        fun b o v q => by rw [upd_ne (hne b _ q fun z => z)]; exact q, fun b ps q => ⟨#[], by rw [upd_ne (hne b _ q fun z => z), q]; simp⟩⟩
      refine codeAny_mono (F.run A outer s _ args us vs Q E hr e1 hb r (h ob)) fun r s' hq => ?_
      cases r with
      | error e => exact hq
      | ok fl =>
        cases fl with
        | ret z =>
          obtain ⟨v, H2, h1, h2, h3, h4, h5, h6⟩ := hq
          exact ⟨v, H2, h1, h2, un.trans h3, h4, h5, h6⟩
        | next => exact hq.elim
        | brk => exact hq.elim
        | cont => exact hq.elim
end
def rCallXK (sp : Sq) (n m : Nat) (π : List Nat) (rk : RA) : RE := fun σ S Q E => rk σ S (fun es S1 => sp (gk n m π [] es) S1 Q E) E
/-- a def that may raise is called with named arguments alone -/
theorem ev_callXK0 {X : Cx} {W : WX} {x : Str} {p pos : Pos} {k : Nat} {fa : Addr} {fd : FuncData} {ps ks : List Str} {n m : Nat} {π : List Nat} {sp : Sq} {kws : List Keyword} {rk : RA} (F : FnOk X.prog X.w X.K X.mg X.base (L2N.CX X.prog X.w) k fa fd ps (dn X.K sp)) (hr : Room k X.A) (tk : L2N.Takes X W) (hm : X.mg x = some (.ref fa)) (hk : PySem.W.keepIn X.K (.ref fa) = true) (hb : KBn' X.K fd ps ks n m π) (hkw : EK X W kws rk)
    (hg : Gl X x := by rfl) (hall : (backToKw pos (keywordEach kws X.env)).all (·.1.isSome) = true := by rfl) (hks : (backToKw pos (keywordEach kws X.env)).filterMap (·.1) = ks := by rfl)
    (hdb : (x == ("__debug__" : Str)) = false := by decide) (hpl : ((backTo pos (starEach [] X.env)).any (·.1) || (backToKw pos (keywordEach kws X.env)).any (·.1.isNone)) = false := by rfl) :
    EV X W (.Call (.Name x p) [] kws pos) (rCallXK sp n m π rk) := by
  obtain ⟨Tk, pk, lk⟩ := hkw.ex
  refine ⟨fun σ H Q => Tk σ H fun zs H1 => dn X.K sp (gk n m π [] zs) H1 Q (wx W σ), ⟨fun pins s σ H Q I h => ?_⟩, fun σ σ' H S Q Q' E' rs rh h q xi => ?_⟩
  · refine wpAny_Call_Name_kw (ld_glob I hg hm ?_ hdb)
    refine PySem.W.callWith_KW0 (h₀ := X.base) I.ok.mod.kin hk hall (thn (pk.run pos pins s σ H _ I h) fun ws s1 ⟨zs, H1, I1, rz, hz⟩ => ⟨I1.kIn, ?_⟩) hpl
    rw [hks]
    have rl := hb.rel (.nil : Vals [] []) rz
    have ln : (gk n m π [] ws).length = ps.length := by rw [← rl.length]; exact F.len _ _ _ _ hz
    have go := F.run X.A X.stack s1 H1 ⟨[], ks.zip ws⟩ (gk n m π [] ws) (gk n m π [] zs) Q (wx W σ) hr I1.env0 (hb.to s1 [] ws I1.kIn ln) rl hz
    refine wpAny_call (codeAny_mono go fun r s2 hq => ?_)
    match r, hq with
    | .error e, hq => exact L2N.passAt tk σ pins H1 s1 e s2 I1 hq
    | .ok (.ret u), hq => exact I1.after hq
    | .ok .next, hq => exact False.elim hq
    | .ok .brk, hq => exact False.elim hq
    | .ok .cont, hq => exact False.elim hq
  · refine lk σ σ' H S _ _ E' rs rh h (fun es S1 zs H1 f1 rh1 dz h1 => ?_) xi
    exact ⟨_, S1, Q', E', DVs.gk .nil dz, rh1, h1, q.go f1, xi.go f1⟩
/-- at the start the tables of the defs of these names are tracked, nothing else -/
def S0 (L : List (Addr × Str)) : Hq := fun b => (L.lookup b).map HQ.tb
theorem lk_mem : ∀ {L : List (Addr × Str)} {b : Addr} {x : Str}, L.lookup b = some x → (b, x) ∈ L
  | [], _, _, h => by cases h
  | (c, y) :: L, b, x, h => by
    rw [List.lookup_cons] at h
    by_cases e : b = c
    · subst e
      rw [show (b == b) = true from beq_self_eq_true b] at h
      cases h; exact List.mem_cons_self
    · rw [show (b == c) = false from beq_eq_false_iff_ne.mpr e] at h
      exact List.mem_cons_of_mem _ (lk_mem h)
theorem s0_rh {K : PySem.W.Frag} {H : Hp} {L : List (Addr × Str)} (hT : ∀ p ∈ L, H p.1 = some (.tbl #[])) (hn : ∀ p ∈ L, ∃ c, PySem.W.tabIn K p.2 = some (c, p.1)) : RH K (S0 L) H := fun b o e => by
  unfold S0 at e
  cases hl : L.lookup b with
  | none => rw [hl] at e; cases e
  | some x =>
    rw [hl] at e; cases e
    have hm : (b, x) ∈ L := lk_mem hl
    refine ⟨hn _ hm, #[], hT _ hm, True.intro, fun pos cv hc => ?_⟩
    simp [codeAmong] at hc
theorem law_inT {K : PySem.W.Frag} {H : Hp} {Q : VK} {E : XK} {a : Addr} {ns : List Int} {sp : Sq} {L : List (Addr × Str)} (ok : ∀ (ns : List Int) (Q' : Qv), ns.length ≤ 63 → (∀ S', Q' (.bl true) S') → sp [.kl (ns.map D.int)] (S0 L) Q' NoX) (hl : ns.length ≤ 63) (hT : ∀ p ∈ L, H p.1 = some (.tbl #[])) (hn : ∀ p ∈ L, ∃ c, PySem.W.tabIn K p.2 = some (c, p.1))
    (hS : SqL K H a (ns.map V.int)) (q : ∀ H', Q (.bl true) H') : dn K sp [.ref a] H Q E ∨ ∃ b u, ([V.ref a] : List V).length = 1 ∧ Mut (some u) ∧ H b = some u ∧ ∀ o, dn K sp [.ref a] (upd H b (.frz o u)) Q E := by
  have fin : ∀ {H : Hp}, (∀ p ∈ L, H p.1 = some (.tbl #[])) → SqF K H a (ns.map V.int) → dn K sp [.ref a] H Q E := fun {H} hT hF =>
    ⟨[.kl (ns.map D.int)], S0 L, fun d _ => d = .bl true, NoX, .cons (.kl hF DVs.ofInts) .nil, s0_rh hT hn, ok ns _ hl (fun _ => rfl), fun d S' v H' f r dv h => by subst h; cases dv; exact q H', XI.no⟩
  rcases hS with (h | h) | h
  · refine .inr ⟨a, .lst (ns.map V.int), rfl, trivial, h, fun o => fin (fun p hp => ?_) (.inl ⟨o, upd_same⟩)⟩
    rw [upd_ne (fun z => by have := hT p hp; rw [z, h] at this; cases this)]
    exact hT p hp
  · exact .inl (fin hT (.inl h))
  · exact .inl (fin hT (.inr h))
/-- the end, with the tables of the defs that make lambdas -/
theorem walk_tabs {l : PySem.W.OpenLaw} {n k : Nat} {q : Program} {loose : List Str} {XP : (Str → Option Value) → Heap → Prop} {YP : World → Heap → Prop} {d : DefRec} {K : Params → PySem.W.Frag} {CX : World → CXT} {x : Str}
    (hn : l.most = some n) (hn2 : n ≤ sizeLine) (hdf : d.params.defaults = []) (hr : Room k callerA) (hY : ∀ (w : World) (h : Heap), YP w h → (K w.params).In h)
    (F : ∀ (w : World) (mg : Str → Option Value) (fa : Addr) (h : Heap), YP w h → (K w.params).In h → h.Ns mainGlobals mg → mg d.name = some (.ref fa) →
      (∀ (y : Str) (c P : Addr), ((recsOf q).any fun e => e.name == y) = true → PySem.W.tabIn (K w.params) y = some (c, P) → PySem.W.CodeHd h c P ∧ h.get? P = some { cls := .none, data := .fields #[] }) → LawAtS l w (K w.params) (CX w) k n x mg fa h)
    (hCX : ∀ (w : World) (H : Hp) (s : Shared) (e : Value) (s' : Shared), CX w [] H s (fun _ _ _ => False) e s' → False) :
    PySem.W.WalkO q loose XP YP l.row.toRowW d [] (fun f vs => PySem.call f vs) := by
  refine Att.attach_callB hn hdf fun w s₀ s₁ mg mb fa o pm cd doc a vs ns G Y ho hd hcd hmg hobj hints hlen hbits hg => ?_
  have KX := hY w _ Y
  obtain ⟨fd, cs, sp, hT, nT, C, hb, hsp, hF⟩ := F w mg fa _ Y KX G.T.g hmg fun y c P hy ht => by
    cases hf : (recsOf q).find? (fun e => e.name == y) with
    | none =>
      rw [List.find?_eq_none] at hf
      obtain ⟨e, he, h2⟩ := List.any_eq_true.mp hy
      exact absurd h2 (hf e he)
    | some e => exact PySem.W.tab_of G.T KX hf ht
  exact law_callTs KX G.T.g G.T.b G.T.builtins G.T.nolimit hg hT nT C G.T.bmain hobj hints (Nat.le_trans hlen hn2) hr hF hb (fun H hH hS => hsp H a ns hlen hbits hH hS) fun H e s' => hCX w H s₁ e s'
end Y
namespace Y
open PySem PySem.Spec PyProof.Rows L2
theorem leave_ex {S S1 : Hq} {d : Addr} {o : HQ} (hd : S d = none) (ex : Ex (enter S d o) S1) : Ex S (leaveL S S1 d) := fun a u h => by
  have ne : a ≠ d := fun z => by rw [z, hd] at h; cases h
  unfold leaveL
  rw [if_neg ne, h]
  cases u <;> first | rfl | exact ex _ _ (enter_get hd h (fun q z => by cases z))
end Y
/-! ### xs.extend(l), l a list that is let be -/
namespace Y
open PySem PySem.Spec PyProof.Rows L2
section
open PySem.AutoSeq1
theorem ext_lst {l b : Addr} {xs ys : Array Value} {n m : Nat} {sl : Array (Option Value)} (h0 : ¬(!xs.isEmpty && Builtin.List.listTooLong (xs.size + ys.size)) = true) (h1 : xs.size ≤ sizeLine) (h2 : (xs ++ ys).size ≤ sizeLine + 1) :
    Meets (Builtin.«list.extend» ⟨[.ref l, .ref b], []⟩) (fun _ R s => s.heap.get? l = some { cls := .type "list", dict := none, data := .seq xs n, slots := #[] } ∧ s.heap.get? b = some ⟨.type "list", none, .seq ys m, sl⟩ ∧ R (.ok (.ret .none)) { s with heap := s.heap.update l (Obj.mapSeq (· ++ ys)), toks := s.toks }) :=
  .of_wp fun prog w A R s ⟨hl, hb, h⟩ => by
    obtain ⟨hp, g, d, tk, os⟩ := s
    have f1 := idx_int
    have f2 := AutoSeq1.sub_tuple_tuple; have f3 := AutoSeq1.sub_list_list; have f4 := AutoSeq1.sub_tuple_list
    have f5 := AutoSeq1.sub_list_tuple
    wp_walk using (wpAny_updateSeq hl rfl (hz := h1) (_hz' := h2)), wpAny_loadPart' hb, wpAny_loadPart' hl
    exact ⟨_, rfl, h⟩
end
def rExtF (K : PySem.W.Frag) : V → List V → Hp → VK → Prop := fun x vs H Q => ∃ (l b : Addr) (xs zs : List V), x = .ref l ∧ vs = [.ref b] ∧ H l = some (.lst xs) ∧ SqF K H b zs ∧ xs.length + zs.length ≤ sizeLine ∧ Q .non (upd H l (.lst (xs ++ zs)))
section
variable {X : Cx} {K : PySem.W.Frag}
theorem mt_extF : MtM X "list.extend" (rExtF X.K) := by
  intro pins s σ H x vs v us Q I rx rv h
  obtain ⟨l, b, xs, zs, rfl, rfl, hH, hB, hz, q⟩ := h
  cases rx
  obtain ⟨u, rfl, ru⟩ := rv.one
  cases ru
  obtain ⟨z, its, n, r, hl, e⟩ := I.lstM hH
  obtain ⟨its2, r2, ⟨⟨oc, od, dt, sl⟩, m, g, c, c2, dq⟩, _⟩ := I.list hB.sql
  simp only at c c2 dq
  subst c c2 dq
  have n1 := r.length; have n2 := r2.length
  have hsz : its.toArray.size + its2.toArray.size ≤ sizeLine := by rw [List.size_toArray, List.size_toArray]; omega
  have long : ¬(!its.toArray.isEmpty && Builtin.List.listTooLong (its.toArray.size + its2.toArray.size)) = true := by rw [notLongL hsz, Bool.and_false]; exact Bool.false_ne_true
  refine call_meets F.slot_list_extend ⟨_, e, rfl⟩ F.entry_list_extend (F.args_list_extend_2 _ _) (ext_lst (n := n) long (by omega) (by rw [Array.size_append]; omega)) ⟨e, g, .non, _, I.lset (its' := its ++ its2) hH e (by simp) (r.append r2) ?_, rfl, q⟩
  rw [List.length_append]; omega
theorem mt_ext3 : MtM X "list.extend" (fun x vs H Q => (rExtend x vs H Q ∨ rExtT X.K x vs H Q) ∨ rExtF X.K x vs H Q) := by
  intro pins s σ H x vs v us Q I rx rv h
  rcases h with h | h
  · exact mt_ext2 _ _ _ _ _ _ _ _ _ I rx rv h
  · exact mt_extF _ _ _ _ _ _ _ _ _ I rx rv h
def extD3 (x : D) (ds : List D) (S : Hq) (Q : Qv) : Prop := match x, ds with
  | .ref a, [.kl ys] => ∃ xs, S a = some (.lst xs) ∧ xs.length + ys.length ≤ 1000000 ∧ Q .non (up S a (.lst (xs ++ ys)))
  | x, ds => extD2 x ds S Q
theorem lm_ext3 : LiftM K extD3 (fun x vs H Q => (rExtend x vs H Q ∨ rExtT K x vs H Q) ∨ rExtF K x vs H Q) := by
  intro x ds S H Q' Q v vs rh dx dv h q
  unfold extD3 at h
  split at h
  · rename_i a ys
    match v, vs, dx, dv with
    | _, _, .ref _, .cons (.kl sq dy) .nil =>
      obtain ⟨xs, e, hz, h⟩ := h
      obtain ⟨us, g, r⟩ := rh.lst e
      exact .inr ⟨_, _, us, _, rfl, rfl, g, sq, by rw [← r.length, ← dy.length]; exact big_le hz, q.putL rh e (r.app dy) .non h⟩
  · exact .inl (lm_ext2 _ _ _ _ _ _ _ _ rh dx dv h q)
theorem q_ext3 {S : Hq} {Q : Qv} {p q : Addr} : extD3 (.ref p) [.ref q] S Q = extD (.ref p) [.ref q] S Q := rfl
theorem q_ext3T {S : Hq} {Q : Qv} {p : Addr} {ys : List D} : extD3 (.ref p) [.tup ys] S Q = (∃ xs, S p = some (.lst xs) ∧ xs.length + ys.length ≤ 1000000 ∧ Q .non (up S p (.lst (xs ++ ys)))) := rfl
theorem q_ext3K {S : Hq} {Q : Qv} {p : Addr} {ys : List D} : extD3 (.ref p) [.kl ys] S Q = (∃ xs, S p = some (.lst xs) ∧ xs.length + ys.length ≤ 1000000 ∧ Q .non (up S p (.lst (xs ++ ys)))) := rfl
end
end Y
namespace Y
open PySem PySem.Spec PyProof.Rows L2
/-! ### dicts whose keys are tuples of numbers and texts -/
def keyLD : List D → Option (List Key)
  | [] => some []
  | d :: r => match keyD d, keyLD r with
    | some k, some ks => some (k :: ks)
    | _, _ => none
def tkeyD : D → Option (List Key)
  | .tup (x :: r) => keyLD (x :: r)
  | _ => none
/-- the key as a datum -/
def tD (ks : List Key) : D := .tup (ks.map kD)
theorem keyLD_kD : ∀ ks : List Key, keyLD (ks.map kD) = some ks
  | [] => rfl
  | k :: ks => by rw [List.map_cons]; unfold keyLD; rw [keyD_kD, keyLD_kD ks]
theorem tkeyD_tD {ks : List Key} (h : ks ≠ []) : tkeyD (tD ks) = some ks := by
  cases ks with
  | nil => exact absurd rfl h
  | cons k ks => exact keyLD_kD (k :: ks)
section
variable {X : Cx} {K : PySem.W.Frag} {S : Hq} {H : Hp} {W : WX}
theorem DVs.ofKeys : ∀ {ds : List D} {vs : List V} {ks : List Key}, DVs K H ds vs → keyLD ds = some ks → vs = ks.map kV
  | _, _, _, .nil, e => by cases e; rfl
  | d :: ds, v :: vs, ks, .cons x r, e => by
    unfold keyLD at e
    cases e1 : keyD d with
    | none => rw [e1] at e; cases e
    | some k =>
      cases e2 : keyLD ds with
      | none => rw [e1, e2] at e; cases e
      | some ks' =>
        rw [e1, e2] at e; cases e
        rw [DV.ofKey e1 x, DVs.ofKeys r e2]; rfl
theorem DVs.kDs : ∀ {ks : List Key}, DVs K H (ks.map kD) (ks.map kV)
  | [] => .nil
  | _ :: _ => .cons DV.kD DVs.kDs
theorem DV.ofTKey {d : D} {v : V} {ks : List Key} (x : DV K H d v) (e : tkeyD d = some ks) : ∃ b, v = .ref b ∧ H b = some (.tup (ks.map kV)) := by
  cases x with
  | @tup a xs ds s r =>
    cases ds with
    | nil => cases e
    | cons d ds =>
      have e3 : keyLD (d :: ds) = some ks := e
      have h := DVs.ofKeys r e3
      refine ⟨a, rfl, ?_⟩
      rw [← h]
      refine s.2 fun z => ?_
      rw [z] at r; cases r
  | _ => cases e
/-- the dict at a holds these, in this order; it may be locked -/
def GtT (S : Hq) (a : Addr) (kvs : List (List Key × D)) : Prop := S a = some (.dt kvs) ∨ ∃ o ys, S a = some (.ft o ys kvs)
theorem RH.gtT {a : Addr} {kvs : List (List Key × D)} (rh : RH K S H) (h : GtT S a kvs) : ∃ ys, Rd H a (.dT ys) ∧ Dc K H kvs ys := by
  rcases h with h | ⟨o, ys, h⟩
  · obtain ⟨ys, hy, r⟩ := rh _ _ h; exact ⟨ys, .inl hy, r⟩
  · obtain ⟨hy, r⟩ := rh _ _ h; exact ⟨ys, .inr ⟨o, hy⟩, r⟩
/-- y in d -/
def inT (f : Bool → Bool) : R2q := fun y x S Q => match x, tkeyD y with
  | .ref a, some k => ∃ kvs, GtT S a kvs ∧ Q (.bl (f (valQ kvs k).isSome)) S
  | _, _ => False
theorem lf_inT {f : Bool → Bool} : Lift2 K (inT f) (rInDk f) := by
  intro x y S H Q' Q v u rh dx dy h q
  cases y <;> try exact h.elim
  rename_i a
  cases dy
  cases e : tkeyD x with
  | none => unfold inT at h; rw [e] at h; exact h.elim
  | some k =>
    unfold inT at h; rw [e] at h
    obtain ⟨kvs, es, h⟩ := h
    obtain ⟨ys, hy, r⟩ := rh.gtT es
    obtain ⟨b, rfl, hb⟩ := DV.ofTKey dx e
    refine ⟨a, valV ys k, rfl, .inr ⟨ys, k, b, hy, rfl, hb, rfl⟩, q.here rh (.bl _) ?_⟩
    rcases r.val k with ⟨e1, e2⟩ | ⟨d, w, e1, e2, _⟩ <;> (rw [e1] at h; rw [e2]; exact h)
/-- d[y], there -/
def getT : R2q := fun x y S Q => match x, tkeyD y with
  | .ref a, some k => ∃ kvs d, GtT S a kvs ∧ valQ kvs k = some d ∧ Q d S
  | _, _ => False
variable {a b : Expr} {ra rb : RE} {pos : Pos}
theorem ev_tget (hu : X.A.units + 1 < cLine) (ha : EV X W a ra) (hb : EV X W b rb) (hs : NoSl b := by exact fun _ _ => rfl) : EV X W (.Subscript a b pos) (rBin getT ra rb) := by
  obtain ⟨Ta, pa, la⟩ := ha.ex
  obtain ⟨Tb, pb, lb⟩ := hb.ex
  refine ⟨_, pe_dget hu pa pb hs, fun σ σ' H S Q Q' E' rs rh h q xi => ?_⟩
  refine la σ σ' H S _ _ E' rs rh h (fun d S1 v H1 f1 rh1 dv h1 => ?_) xi
  refine lb σ σ' H1 S1 _ _ E' (rs.mono (f1.tle rh)) rh1 h1 (fun e S2 u H2 f2 rh2 du h2 => ?_) (xi.go f1)
  have dv := DV.mono (f2.tle rh1) _ _ dv
  cases d <;> try exact h2.elim
  cases dv
  rename_i a
  cases e' : tkeyD e with
  | none => unfold getT at h2; rw [e'] at h2; exact h2.elim
  | some k =>
    unfold getT at h2; rw [e'] at h2
    obtain ⟨kvs, d, es, ev, h2⟩ := h2
    obtain ⟨ys, hy, r⟩ := rh2.gtT es
    obtain ⟨b, rfl, hb⟩ := DV.ofTKey du e'
    rcases r.val k with ⟨e1, _⟩ | ⟨d', w, e1, e2, dw⟩
    · rw [e1] at ev; cases ev
    · rw [e1] at ev; cases ev
      exact ⟨a, w, rfl, by rw [← e2]; exact .inr ⟨ys, k, b, hy, rfl, hb, rfl⟩, (q.go (f1.trans f2)).here rh2 dw h2⟩
/-- d[y] = v -/
def setT (o i d : D) (S : Hq) (Q : Hq → Prop) : Prop := match o, tkeyD i with
  | .ref a, some k => ∃ kvs, S a = some (.dt kvs) ∧ kvs.length < 1000000 ∧ Q (up S a (.dt (putQ kvs k d)))
  | _, _ => False
def gTk (ro ri : RE) : RG := fun d σ S N E => ro σ S (fun o S1 => ri σ S1 (fun i S2 => setT o i d S2 (fun S3 => N σ S3)) E) E
theorem eg_tk {o i : Expr} {ro ri : RE} (hu : X.A.units + 1 < cLine) (ho : EV X W o ro) (hi : EV X W i ri)
    (ha : ∀ v, assign (.Subscript o i pos) X.env v = (do
      let ov ← holding [v] (eval o X.env)
      let iv ← holding [v, ov] (eval i X.env)
      standAt pos
      holding [v, ov, iv] (setItem ov iv v)
      release [v, ov, iv] []) := by intro _; rfl) : EG X W (.Subscript o i pos) (gTk ro ri) := by
  obtain ⟨To, po, lo⟩ := ho.ex
  obtain ⟨Ti, pi, li⟩ := hi.ex
  refine ⟨_, pg_sub po pi (set_dk hu) ha, fun σ σ' H S d v N N' E' rs rh dv h n x => ?_⟩
  refine lo σ σ' H S _ _ E' rs rh h (fun o S1 ov H1 f1 rh1 do1 h1 => ?_) x
  refine li σ σ' H1 S1 _ _ E' (rs.mono (f1.tle rh)) rh1 h1 (fun i S2 iv H2 f2 rh2 di h2 => ?_) (x.go f1)
  have do1 := DV.mono (f2.tle rh1) _ _ do1
  cases o <;> try exact h2.elim
  cases do1
  rename_i a
  cases e' : tkeyD i with
  | none => unfold setT at h2; rw [e'] at h2; exact h2.elim
  | some k =>
    unfold setT at h2; rw [e'] at h2
    obtain ⟨kvs, es, hl, h2⟩ := h2
    obtain ⟨ys, hy, r⟩ := rh2 _ _ es
    obtain ⟨b, rfl, hb⟩ := DV.ofTKey di e'
    have f12 := f1.trans f2
    have hl' : ys.length < sizeLine := by rw [← r.length, sizeLine_eq]; omega
    have tle := RH.putTle rh2 (o := .dT (L2.putK ys k v)) es
    have dv2 := DV.mono tle _ _ (DV.mono (f12.tle rh) _ _ dv)
    have fr : Fr S2 H2 (up S2 a (.dt (putQ kvs k d))) (upd H2 a (.dT (L2.putK ys k v))) := Fr.put es
    refine ⟨a, _, rfl, DPut.t hy hb hl', n _ _ _ _ (f12.trans fr) (RH.put rh2 es ⟨_, upd_same, (r.mono tle).put k dv2⟩) ((rs.mono (f12.tle rh)).mono tle) h2⟩
/-- {}, its keys tuples -/
def rTNew : RE := fun _ S Q _ => ∀ p, S p = none → Q (.ref p) (up S p (.dt []))
theorem ev_tnew : EV X W (.Dict [] [] pos) rTNew := by
  refine ⟨_, pe_dnewT, fun σ σ' H S Q Q' E' rs rh h q xi => fun p hp => ?_⟩
  exact q _ _ _ _ (Fr.new2 rh hp) (RH.new2 (q := .dt []) rh hp ⟨[], upd_same, .nil⟩) (.ref p) (h p (rh.fresh hp))
/-- for k in d -/
def keysTD (x : D) (S1 : Hq) (R : List D → (Hq → Prop) → Hq → Prop) : Prop := match x with
  | .ref a => ∃ o ys kvs, S1 a = some (.ft o ys kvs) ∧ R (kvs.map fun p => tD p.1) (fun S => S a = some (.ft o ys kvs)) S1
  | _ => False
def iKysT (r : RE) : RI := fun σ S R E => r σ S (fun x S1 => keysTD x S1 R) E
theorem DV.tDm {H : Hp} {ks : List Key} {b : Addr} (h : H b = some (.tup (ks.map kV))) : DV K H (tD ks) (.ref b) := .tup (.new h) DVs.kDs
theorem it_keysT {S1 : Hq} {H1 : Hp} {a : Addr} {o : Obj} {ys : List (List Key × V)} {kvs : List (List Key × D)} : ItOk K S1 H1 (Itkt a o ys) (kvs.map fun p => tD p.1) (fun S => S a = some (.ft o ys kvs)) :=
  ⟨fun S H f rh g => ⟨(rh _ _ g).1, by rw [List.length_map, (rh _ _ g).2.length]; exact Nat.le_refl _⟩,
   fun i x S H hx f rh g => ⟨(rh _ _ g).1, by
    rw [← (rh _ _ g).2.length]
    have := (List.getElem?_eq_some_iff.mp hx).1
    rwa [List.length_map] at this⟩,
   fun i x S H v H' hx f rh g hy => by
    obtain ⟨rfl, k, w, b, e, rfl, hb⟩ := hy
    obtain ⟨d, e2, _⟩ := (rh _ _ g).2.at e
    rw [List.getElem?_map, e2] at hx
    cases hx
    exact ⟨Fr.refl, rh, .tDm hb⟩⟩
theorem ei_keysT {tg e : Expr} {r : RE} (h : EV X W e r) : EI X W tg e (iKysT r) := by
  obtain ⟨T, p, l⟩ := h.ex
  refine ⟨_, pi_keys p, fun σ σ' H S R R' E' rs rh h q xi => ?_⟩
  refine l σ σ' H S _ _ _ rs rh h (fun x S1 v H1 f1 rh1 dv h1 => ?_) xi
  cases dv with
  | ref a =>
    obtain ⟨o, ys, kvs, g, h1⟩ := h1
    exact ⟨a, o, rfl, .inr ⟨ys, (rh1 _ _ g).1, q _ _ _ _ _ f1 rh1 it_keysT h1⟩⟩
  | _ => exact h1.elim
/-- list(d) -/
def lstTM (m : Nw2) (ds : List D) (S : Hq) (Q : Qv) : Prop := match ds with
  | [.ref a] => ∃ kvs, GtT S a kvs ∧ m (kvs.map fun p => tD p.1) S Q
  | _ => False
theorem keys_dvs : ∀ {kvs : List (List Key × D)} {ys : List (List Key × V)} {bs : List Addr}, Dc K H kvs ys → IsKeys H ys bs → DVs K H (kvs.map fun p => tD p.1) (bs.map V.ref)
  | _, _, _, .nil, i => by cases i; exact .nil
  | _, _, _, .cons x r, i => by
    cases i with
    | cons h t => exact .cons (.tDm h) (keys_dvs r t)
def rListT : List V → Hp → VK → Prop := fun xs H Q => ∃ d kvs, xs = [V.ref d] ∧ Rd H d (.dT kvs) ∧ ∀ p bs, H p = none → IsKeys H kvs bs → Q (.ref p) (upd H p (.lst (bs.map V.ref)))
theorem lc_lstTT : LiftC K (lstTM nwT) rListT := by
  intro ds S H Q' Q vs rh dv h q
  rcases ds with _ | ⟨x, _ | ⟨y, r⟩⟩
  · exact h.elim
  · cases dv with | @cons _ v _ _ dx t =>
    cases t
    cases x <;> try exact h.elim
    cases dx
    obtain ⟨kvs, g, h⟩ := h
    obtain ⟨ys, rd, r⟩ := rh.gtT g
    exact ⟨_, ys, rfl, rd, fun p bs hn ik => q.newL rh hn (keys_dvs r ik) (h p (rh.fresh hn))⟩
  · cases x <;> exact h.elim
theorem cr_lstTT (hc : X.calm = true) : CallR X (.type "list") rListT := call_list_dT hc
theorem cr_lstTF (hc : X.calm = true) : CallR X (.type "list") (fun xs H Q => rListT xs H (fzV Q)) := callr_fz (call_list_dT hc)
theorem lc_lstTF : LiftC K (lstTM nwF) (fun xs H Q => rListT xs H (fzV Q)) := liftc_fz lc_lstTT fun ds S Q h => by
  rcases ds with _ | ⟨x, _ | ⟨y, r⟩⟩
  · exact h.elim
  · cases x <;> try exact h.elim
    obtain ⟨kvs, g, h⟩ := h
    exact ⟨kvs, g, nw_fz h⟩
  · cases x <;> exact h.elim
/-- len(d) -/
def lenTD (ds : List D) (S : Hq) (Q : Qv) : Prop := match ds with
  | [.ref a] => ∃ kvs, S a = some (.dt kvs) ∧ Q (.int kvs.length) S
  | _ => False
theorem lc_lenT : LiftC K lenTD rLenT := by
  intro ds S H Q' Q vs rh dv h q
  rcases ds with _ | ⟨x, _ | ⟨y, r⟩⟩
  · exact h.elim
  · cases dv with | @cons _ v _ _ dx t =>
    cases t
    cases x <;> try exact h.elim
    cases dx
    obtain ⟨kvs, g, h⟩ := h
    obtain ⟨ys, rd, r⟩ := rh _ _ g
    exact ⟨_, ys, rfl, rd, by rw [← r.length]; exact q.here rh (.int _) h⟩
  · cases x <;> exact h.elim
/-! ### d.get(k), d.get(k, x), d.pop(k, x), del d[k] -/
/-- what a dict of either kind holds at y -/
def atD (x y : D) (S : Hq) (N : Option D → Prop) : Prop := match x with
  | .ref a => (∃ k kvs, keyD y = some k ∧ GtK S a kvs ∧ N (valQ kvs k)) ∨ ∃ k kvs, tkeyD y = some k ∧ GtT S a kvs ∧ N (valQ kvs k)
  | _ => False
def isDD (x : D) (S : Hq) : Prop := match x with
  | .ref a => (∃ kvs, GtK S a kvs) ∨ ∃ kvs, GtT S a kvs
  | _ => False
theorem RH.isD {a : Addr} (rh : RH K S H) (h : isDD (.ref a) S) : IsD H a := by
  rcases h with ⟨kvs, h⟩ | ⟨kvs, h⟩
  · obtain ⟨ys, h, _⟩ := rh.gtK h; exact .inl ⟨ys, h⟩
  · obtain ⟨ys, h, _⟩ := rh.gtT h; exact .inr ⟨ys, h⟩
theorem RH.atD {a : Addr} {y : D} {u : V} {N : Option D → Prop} (rh : RH K S H) (dy : DV K H y u) (h : Y.atD (.ref a) y S N) : ∃ o o', DGet H a u o ∧ N o' ∧ ((o = none ∧ o' = none) ∨ ∃ d v, o' = some d ∧ o = some v ∧ DV K H d v) := by
  rcases h with ⟨k, kvs, e, g, n⟩ | ⟨k, kvs, e, g, n⟩
  · obtain ⟨ys, hy, r⟩ := rh.gtK g
    obtain rfl := DV.ofKey e dy
    refine ⟨valV ys k, valQ kvs k, .inl ⟨ys, k, hy, rfl, rfl⟩, n, ?_⟩
    rcases r.val k with ⟨e1, e2⟩ | ⟨d, w, e1, e2, dw⟩
    · exact .inl ⟨e2, e1⟩
    · exact .inr ⟨d, w, e1, e2, dw⟩
  · obtain ⟨ys, hy, r⟩ := rh.gtT g
    obtain ⟨b, rfl, hb⟩ := DV.ofTKey dy e
    refine ⟨valV ys k, valQ kvs k, .inr ⟨ys, k, b, hy, rfl, hb, rfl⟩, n, ?_⟩
    rcases r.val k with ⟨e1, e2⟩ | ⟨d, w, e1, e2, dw⟩
    · exact .inl ⟨e2, e1⟩
    · exact .inr ⟨d, w, e1, e2, dw⟩
variable {o e f : Expr} {apos cpos : Pos} {ro re rf : RE}
def rGet1 (ro re : RE) : RE := fun σ S Q E => ro σ S (fun x S1 => isDD x S1 ∧ re σ S1 (fun y S2 => atD x y S2 fun o => Q (o.getD .non) S2) E) E
theorem ev_get1 (hu : X.A.units + 1 < cLine) (ho : EV X W o ro) (he : EV X W e re) (m : M1 X o "get" apos e cpos := by exact ⟨rfl, rfl, rfl, rfl⟩) : EV X W (.Call (.Attribute o "get" apos) [e] [] cpos) (rGet1 ro re) := by
  obtain ⟨To, po, lo⟩ := ho.ex
  obtain ⟨Te, pe, le⟩ := he.ex
  refine ⟨_, pe_dget1 hu po pe m, fun σ σ' H S Q Q' E' rs rh h q xi => ?_⟩
  refine lo σ σ' H S _ _ E' rs rh h (fun x S1 v H1 f1 rh1 dv h1 => ?_) xi
  obtain ⟨hd, h1⟩ := h1
  cases x <;> try exact hd.elim
  rename_i a
  cases dv
  refine ⟨a, rfl, rh1.isD hd, ?_⟩
  refine le σ σ' H1 S1 _ _ E' (rs.mono (f1.tle rh)) rh1 h1 (fun y S2 u H2 f2 rh2 dy h2 => ?_) (xi.go f1)
  obtain ⟨o, o', g, n, rel⟩ := rh2.atD dy h2
  refine ⟨o, g, ?_⟩
  rcases rel with ⟨rfl, rfl⟩ | ⟨d, w, rfl, rfl, dw⟩
  · exact (q.go (f1.trans f2)).here rh2 .non n
  · exact (q.go (f1.trans f2)).here rh2 dw n
def rGet2 (ro re rf : RE) : RE := fun σ S Q E => ro σ S (fun x S1 => isDD x S1 ∧ re σ S1 (fun y S2 => rf σ S2 (fun z S3 => atD x y S3 fun o => Q (o.getD z) S3) E) E) E
theorem ev_get2 (hu : X.A.units + 1 < cLine) (ho : EV X W o ro) (he : EV X W e re) (hf : EV X W f rf) (m : M2 X o "get" apos e f cpos := by exact ⟨rfl, rfl, rfl, rfl⟩) : EV X W (.Call (.Attribute o "get" apos) [e, f] [] cpos) (rGet2 ro re rf) := by
  obtain ⟨To, po, lo⟩ := ho.ex
  obtain ⟨Te, pe, le⟩ := he.ex
  obtain ⟨Tf, pf, lf⟩ := hf.ex
  refine ⟨_, pe_dget2 hu po pe pf m, fun σ σ' H S Q Q' E' rs rh h q xi => ?_⟩
  refine lo σ σ' H S _ _ E' rs rh h (fun x S1 v H1 f1 rh1 dv h1 => ?_) xi
  obtain ⟨hd, h1⟩ := h1
  cases x <;> try exact hd.elim
  rename_i a
  cases dv
  refine ⟨a, rfl, rh1.isD hd, ?_⟩
  refine le σ σ' H1 S1 _ _ E' (rs.mono (f1.tle rh)) rh1 h1 (fun y S2 u H2 f2 rh2 dy h2 => ?_) (xi.go f1)
  refine lf σ σ' H2 S2 _ _ E' (rs.mono ((f1.trans f2).tle rh)) rh2 h2 (fun z S3 w H3 f3 rh3 dz h3 => ?_) (xi.go (f1.trans f2))
  obtain ⟨o, o', g, n, rel⟩ := rh3.atD (DV.mono (f3.tle rh2) _ _ dy) h3
  refine ⟨o, g, ?_⟩
  rcases rel with ⟨rfl, rfl⟩ | ⟨d, w, rfl, rfl, dw⟩
  · exact (q.go ((f1.trans f2).trans f3)).here rh3 dz n
  · exact (q.go ((f1.trans f2).trans f3)).here rh3 dw n
/-- del d[k], there -/
def rDel (ro re : RE) : RSt := fun D σ S => ro σ S (fun x S1 => re σ S1 (fun y S2 => match x with
  | .ref a => ∃ k kvs, keyD y = some k ∧ S2 a = some (.dk kvs) ∧ (valQ kvs k).isSome = true ∧ D.nx σ (up S2 a (.dk (delQ kvs k)))
  | _ => False) (D.x σ)) (D.x σ)
theorem es_del {tpos : Pos} (ho : EV X W o ro) (he : EV X W e re) : ES X W (.Delete [.Subscript o e tpos] pos) (rDel ro re) := by
  obtain ⟨To, po, lo⟩ := ho.ex
  obtain ⟨Te, pe, le⟩ := he.ex
  refine ⟨_, ps_ddel po pe, fun σ σ' H S D D' rs rh h d => ?_⟩
  refine lo σ σ' H S _ _ _ rs rh h (fun x S1 v H1 f1 rh1 dv h1 => ?_) (d.xi rh rs)
  refine le σ σ' H1 S1 _ _ _ (rs.mono (f1.tle rh)) rh1 h1 (fun y S2 u H2 f2 rh2 dy h2 => ?_) ((d.xi rh rs).go f1)
  have dv := DV.mono (f2.tle rh1) _ _ dv
  cases x <;> try exact h2.elim
  cases dv
  obtain ⟨k, kvs, e, g, hs, n⟩ := h2
  obtain ⟨ys, hy, r⟩ := rh2 _ _ g
  obtain rfl := DV.ofKey e dy
  have tle := RH.putTle rh2 (o := .dK (dropK ys k)) g
  refine ⟨_, ys, k, rfl, hy, rfl, ?_, ?_⟩
  · rcases r.val k with ⟨e1, e2⟩ | ⟨d, w, e1, e2, dw⟩
    · rw [e1] at hs; cases hs
    · rw [e2]; rfl
  · exact d.nx _ _ _ _ ((f1.trans f2).trans (Fr.put (q := .dk (delQ kvs k)) g)) (RH.put (q := .dk (delQ kvs k)) rh2 g ⟨_, upd_same, (r.mono tle).del k⟩) ((rs.mono ((f1.trans f2).tle rh)).mono tle) n
/-- d.pop(k, x), k a number or a text -/
def rPop2 (ro re rf : RE) : RE := fun σ S Q E => ro σ S (fun x S1 => isDD x S1 ∧ re σ S1 (fun y S2 => rf σ S2 (fun z S3 => match x with
  | .ref a => ∃ k kvs, keyD y = some k ∧ S3 a = some (.dk kvs) ∧ (∀ d, valQ kvs k = some d → Q d (up S3 a (.dk (delQ kvs k)))) ∧ (valQ kvs k = none → Q z S3)
  | _ => False) E) E) E
theorem ev_pop2 (ho : EV X W o ro) (he : EV X W e re) (hf : EV X W f rf) (m : M2 X o "pop" apos e f cpos := by exact ⟨rfl, rfl, rfl, rfl⟩) : EV X W (.Call (.Attribute o "pop" apos) [e, f] [] cpos) (rPop2 ro re rf) := by
  obtain ⟨To, po, lo⟩ := ho.ex
  obtain ⟨Te, pe, le⟩ := he.ex
  obtain ⟨Tf, pf, lf⟩ := hf.ex
  refine ⟨_, pe_dpop2 po pe pf m, fun σ σ' H S Q Q' E' rs rh h q xi => ?_⟩
  refine lo σ σ' H S _ _ E' rs rh h (fun x S1 v H1 f1 rh1 dv h1 => ?_) xi
  obtain ⟨hd, h1⟩ := h1
  cases x <;> try exact hd.elim
  rename_i a
  cases dv
  refine ⟨a, rfl, rh1.isD hd, ?_⟩
  refine le σ σ' H1 S1 _ _ E' (rs.mono (f1.tle rh)) rh1 h1 (fun y S2 u H2 f2 rh2 dy h2 => ?_) (xi.go f1)
  refine lf σ σ' H2 S2 _ _ E' (rs.mono ((f1.trans f2).tle rh)) rh2 h2 (fun z S3 w H3 f3 rh3 dz h3 => ?_) (xi.go (f1.trans f2))
  obtain ⟨k, kvs, e, g, h1, h2⟩ := h3
  obtain ⟨ys, hy, r⟩ := rh3 _ _ g
  obtain rfl := DV.ofKey e (DV.mono (f3.tle rh2) _ _ dy)
  have tle := RH.putTle rh3 (o := .dK (dropK ys k)) g
  have f123 := (f1.trans f2).trans f3
  refine ⟨ys, k, hy, rfl, fun v hv => ?_, fun hv => ?_⟩
  · rcases r.val k with ⟨e1, e2⟩ | ⟨d, w, e1, e2, dw⟩
    · rw [e2] at hv; cases hv
    · rw [e2] at hv; cases hv
      exact q _ _ _ _ (f123.trans (Fr.put (q := .dk (delQ kvs k)) g)) (RH.put (q := .dk (delQ kvs k)) rh3 g ⟨_, upd_same, (r.mono tle).del k⟩) (DV.mono tle _ _ dw) (h1 d e1)
  · rcases r.val k with ⟨e1, e2⟩ | ⟨d, w, e1, e2, dw⟩
    · exact (q.go f123).here rh3 dz (h2 e1)
    · rw [e2] at hv; cases hv
theorem k_isD {a : Addr} : isDD (.ref a) S = ((∃ kvs, GtK S a kvs) ∨ ∃ kvs, GtT S a kvs) := rfl
theorem k_keysT {a : Addr} {R : List D → (Hq → Prop) → Hq → Prop} : keysTD (.ref a) S R = (∃ o ys kvs, S a = some (.ft o ys kvs) ∧ R (kvs.map fun p => tD p.1) (fun S => S a = some (.ft o ys kvs)) S) := rfl
theorem k_lstT {m : Nw2} {a : Addr} {Q : Qv} : lstTM m [.ref a] S Q = (∃ kvs, GtT S a kvs ∧ m (kvs.map fun p => tD p.1) S Q) := rfl
theorem k_lenT {a : Addr} {Q : Qv} : lenTD [.ref a] S Q = (∃ kvs, S a = some (.dt kvs) ∧ Q (.int kvs.length) S) := rfl
end
end Y
namespace Y
open PySem PySem.Spec PyProof.Rows L2
section
variable {S : Hq} {a : Addr} {y d : D} {ks : List Key}
theorem k_getT {Q : Qv} (h : tkeyD y = some ks) : getT (.ref a) y S Q = (∃ kvs d, GtT S a kvs ∧ valQ kvs ks = some d ∧ Q d S) := by unfold getT; simp only [h]
theorem k_inT {f : Bool → Bool} {Q : Qv} (h : tkeyD y = some ks) : inT f y (.ref a) S Q = (∃ kvs, GtT S a kvs ∧ Q (.bl (f (valQ kvs ks).isSome)) S) := by unfold inT; simp only [h]
theorem k_setT {Q : Hq → Prop} (h : tkeyD y = some ks) : setT (.ref a) y d S Q = (∃ kvs, S a = some (.dt kvs) ∧ kvs.length < 1000000 ∧ Q (up S a (.dt (putQ kvs ks d)))) := by unfold setT; simp only [h]
theorem at_K {N : Option D → Prop} {k : Key} {kvs : List (Key × D)} (h : keyD y = some k) (g : GtK S a kvs) (n : N (valQ kvs k)) : atD (.ref a) y S N := .inl ⟨k, kvs, h, g, n⟩
theorem at_T {N : Option D → Prop} {kvs : List (List Key × D)} (h : tkeyD y = some ks) (g : GtT S a kvs) (n : N (valQ kvs ks)) : atD (.ref a) y S N := .inr ⟨ks, kvs, h, g, n⟩
end
end Y
namespace Y
open PySem PySem.Spec PyProof.Rows L2 DT
/-! ### a dict with tuple keys is locked while it is walked -/
def rLockT (t : RSt) : RSt := fun D σ S => ∃ d kvs, S d = some (.dt kvs) ∧ ∀ od ys, t ⟨fun σ' S' => S' d = some (.ft od ys kvs) ∧ D.nx σ' (up S' d (.dt kvs)), fun v S' => S' d = some (.ft od ys kvs) ∧ D.rt v (up S' d (.dt kvs)), fun σ' S' => S' d = some (.ft od ys kvs) ∧ D.bk σ' (up S' d (.dt kvs)), fun σ' S' => S' d = some (.ft od ys kvs) ∧ D.ct σ' (up S' d (.dt kvs)), D.ex⟩ σ (up S d (.ft od ys kvs))
def rLockTE (r : RE) : RE := fun σ S Q E => ∃ d kvs, S d = some (.dt kvs) ∧ ∀ od ys, r σ (up S d (.ft od ys kvs)) (fun v S' => S' d = some (.ft od ys kvs) ∧ Q v (up S' d (.dt kvs))) E
section
variable {X : Cx} {K : PySem.W.Frag} {S : Hq} {H : Hp} {W : WX}
theorem lockT_on {a : Addr} {kvs : List (List Key × D)} {ys : List (List Key × V)} (rh : RH K S H) (e : S a = some (.dt kvs)) (r : Dc K H kvs ys) (od : Obj) :
    Fr S H (up S a (.ft od ys kvs)) (upd H a (.frz od (.dT ys))) ∧ RH K (up S a (.ft od ys kvs)) (upd H a (.frz od (.dT ys))) ∧ Tle K H (upd H a (.frz od (.dT ys))) :=
  have t := RH.putTle rh (o := .frz od (.dT ys)) e
  ⟨Fr.put e, RH.put rh e ⟨upd_same, r.mono t⟩, t⟩
theorem lockT_off {a : Addr} {kvs : List (List Key × D)} {ys : List (List Key × V)} {od : Obj} {S' : Hq} {H' : Hp} (e0 : S a = some (.dt kvs)) (f : Fr (up S a (.ft od ys kvs)) (upd H a (.frz od (.dT ys))) S' H') (rh : RH K S' H') (e : S' a = some (.ft od ys kvs)) :
    H' a = some (.frz od (.dT ys)) ∧ Fr S H (up S' a (.dt kvs)) (upd H' a (.dT ys)) ∧ RH K (up S' a (.dt kvs)) (upd H' a (.dT ys)) ∧ Tle K H' (upd H' a (.dT ys)) := by
  obtain ⟨hy, r⟩ := rh _ _ e
  have t := RH.putTle rh (o := .dT ys) e
  refine ⟨hy, fun b o hb nb => ?_, RH.put rh e ⟨ys, upd_same, r.mono t⟩, t⟩
  have hba : b ≠ a := fun z => by rw [z, e0] at nb; cases nb
  obtain ⟨h1, h2⟩ := f b o (by rw [upd_ne hba]; exact hb) (by rw [up_ne hba]; exact nb)
  exact ⟨by rw [upd_ne hba]; exact h1, by rw [up_ne hba]; exact h2⟩
theorem es_lockT {st : Stmt} {t : RSt} (h : ES X W st t) : ES X W st (rLockT t) := by
  obtain ⟨T, p, l⟩ := h.ex
  refine ⟨_, ps_lock p, fun σ σ' H S D D' rs rh h d => ?_⟩
  obtain ⟨a, kvs, e, h⟩ := h
  obtain ⟨ys, hy, r⟩ := rh _ _ e
  refine ⟨a, .dT ys, hy, trivial, fun od => ?_⟩
  obtain ⟨f1, rh1, t1⟩ := lockT_on rh e r od
  refine l σ σ' _ _ _ _ (rs.mono t1) rh1 (h od ys) ⟨?_, ?_, ?_, ?_, ?_⟩
  · exact fun σ2' S2 σ2 H2 f2 rh2 rs2 h2 => let ⟨b1, b2, b3, b4⟩ := lockT_off e f2 rh2 h2.1; ⟨b1, d.nx _ _ _ _ b2 b3 (rs2.mono b4) h2.2⟩
  · exact fun x S2 v H2 f2 rh2 dv h2 => let ⟨b1, b2, b3, b4⟩ := lockT_off e f2 rh2 h2.1; ⟨b1, d.rt _ _ _ _ b2 b3 (DV.mono b4 _ _ dv) h2.2⟩
  · exact fun σ2' S2 σ2 H2 f2 rh2 rs2 h2 => let ⟨b1, b2, b3, b4⟩ := lockT_off e f2 rh2 h2.1; ⟨b1, d.bk _ _ _ _ b2 b3 (rs2.mono b4) h2.2⟩
  · exact fun σ2' S2 σ2 H2 f2 rh2 rs2 h2 => let ⟨b1, b2, b3, b4⟩ := lockT_off e f2 rh2 h2.1; ⟨b1, d.ct _ _ _ _ b2 b3 (rs2.mono b4) h2.2⟩
  · exact fun n C fs σ2' S2 σ2 H2 x c f2 rh2 rs2 ok nw h2 => d.ex n C fs σ2' S2 σ2 H2 x c (f1.trans f2) rh2 rs2 ok (nw.go f1) h2
theorem ev_lockT {e : Expr} {r : RE} (h : EV X W e r) : EV X W e (rLockTE r) := by
  obtain ⟨T, p, l⟩ := h.ex
  refine ⟨_, pe_lock p, fun σ σ' H S Q Q' E' rs rh h q xi => ?_⟩
  obtain ⟨a, kvs, e, h⟩ := h
  obtain ⟨ys, hy, r⟩ := rh _ _ e
  refine ⟨a, .dT ys, hy, trivial, fun od => ?_⟩
  obtain ⟨f1, rh1, t1⟩ := lockT_on rh e r od
  refine l σ σ' _ _ _ _ _ (rs.mono t1) rh1 (h od ys) (fun x S2 v H2 f2 rh2 dv h2 => ?_) (xi.go f1)
  obtain ⟨b1, b2, b3, b4⟩ := lockT_off e f2 rh2 h2.1
  exact ⟨b1, q _ _ _ _ b2 b3 (DV.mono b4 _ _ dv) h2.2⟩
end
/-! ### d.pop(k), k a tuple that is there -/
section
variable {κ : Type} [DecidableEq κ] {prog : Program} {w : World} {knd : HeapKind prog w κ}
theorem meets_popT {d b : Addr} {k : κ} :
    MeetsIn prog w (Builtin.«dict.pop» ⟨[.ref d, .ref b], []⟩) (fun A R s => ∃ xs p, knd.room A.in1 ∧ knd.is s.heap k b ∧ s.heap.DictOfH knd d xs ∧ xs.length ≤ sizeLine ∧ atKey xs k = some p ∧
      ∀ h' tk, h'.DictOfH knd d (DT.dropH xs k) → Heap.SameBut d s.heap h' → R (.ok (.ret p.2)) { s with heap := h', toks := tk }) := by
  refine .of_wp fun A R s hyp => ?_
  obtain ⟨xs, p0, room, key, m, sz, there, fin⟩ := hyp
  obtain ⟨o, es, ep, ho, hc, hdat, he, his, hn⟩ := id m
  have ne : es.isEmpty = false := by
    cases q : es.isEmpty with
    | false => rfl
    | true =>
      have z : es = #[] := by simpa using q
      rw [z] at he
      cases xs with
      | nil => cases there
      | cons x r => simp at he
  have part : (keyPart (Value.ref b)).isSome = false := rfl
  unfold Builtin.«dict.pop»
  refine wpAny_bind ?_
  unfold Builtin.Dict.keyAndDefault
  refine wpAny_bind (wpAny_notOrdered_dict m.typeIs ?_)
  show wpAny _ _ (pure (d, Value.ref b, none)) _ _ s
  refine wpAny_pure ?_
  simp only [part, Bool.false_eq_true, if_false]
  refine wpAny_bind (wpAny_dictEntries ho hdat (wpAny_bind (wpAny_pure ?_)))
  simp only [ne, Bool.false_eq_true, if_false]
  refine wpAny_bind (DT.takeH room key m sz (fun no => by rw [there] at no; cases no) fun p e at2 val h' m' same => ?_)
  rw [there] at at2
  cases at2
  simp only [Option.isNone_some, Bool.false_eq_true, if_false]
  exact wpAny_bind (wpAny_letGo (wpAny_pure ⟨e.val, rfl, by rw [val]; exact fin h' _ m' same⟩))
end
def rPopT1 : V → List V → Hp → VK → Prop := fun x xs H Q => ∃ (a : Addr) (kvs : List (List Key × V)) (k : List Key) (b : Addr) (v : V), x = .ref a ∧ xs = [.ref b] ∧ H a = some (.dT kvs) ∧ H b = some (.tup (k.map kV)) ∧ valV kvs k = some v ∧ Q v (upd H a (.dT (dropK kvs k)))
def popTD (x : D) (ds : List D) (S : Hq) (Q : Qv) : Prop := match x, ds with
  | .ref a, [y] => ∃ k kvs v, tkeyD y = some k ∧ S a = some (.dt kvs) ∧ valQ kvs k = some v ∧ Q v (up S a (.dt (delQ kvs k)))
  | _, _ => False
theorem tyN_dt {S : Hq} {a : Addr} {kvs : List (List Key × D)} (h : S a = some (.dt kvs)) : tyN (.ref a) S = some "dict" := by
  unfold tyN; simp only [h]
section
variable {X : Cx} {K : PySem.W.Frag} {S : Hq} {H : Hp} {W : WX}
theorem mt_popT1 (hu : X.A.units + 1 < cLine) : MtR X "dict.pop" rPopT1 := by
  rintro pins s σ H x xs v us Q I rx rxs ⟨a, kvs, k, b, v0, rfl, rfl, ha, hb, ev, q⟩
  cases rx
  obtain ⟨u, rfl, ru⟩ := Vals.one rxs
  cases ru
  obtain ⟨z, hd, ys, rel, dd⟩ := dt_of I.hok ha
  have hz : ys.length ≤ sizeLine := by rw [← Paired.length rel]; exact z
  have rk := rel.val k
  rw [ev] at rk
  obtain ⟨p, ep, rv⟩ : ∃ p, atKey ys k = some p ∧ RelV v0 p.2 := by
    cases e : atKey ys k with
    | none => rw [e] at rk; exact (show False from rk).elim
    | some p => rw [e] at rk; exact ⟨p, rfl, rk⟩
  refine call_meetsIn PySem.F.slot_dict_pop dd.typeIs PySem.F.entry_dict_pop (PySem.F.args_dict_pop_2 _ _) (meets_popT (knd := tupleKind (mixKind X.prog X.w)) (k := k))
    ⟨ys, p, tupleKind_room_in1 hu, key_of I.hok hb, dd, hz, ep, fun h' tk dd' hs => ?_⟩
  obtain ⟨o, es, n, hq, g2, g3, g4, _, g5⟩ := dd'
  have nw : Inv X pins σ (upd H a (.dT (dropK kvs k))) { s with heap := h', toks := tk } := by
    refine d_write I (by rw [ha]; exact True.intro) hs ⟨o, hq⟩ ⟨Nat.le_trans (dropK_le kvs k) z, hd, _, (L2.DX.KT_drop k rel).keeps fun c zs ec => ?_, o, es, n, hq, g2, g3, g4, g5⟩
    rw [upd_ne (ne_of ec ha (fun z => nomatch z))]
    exact ec
  exact (⟨v0, _, nw, rv, q⟩ : EP X pins σ Q p.2 _)
theorem lm_popT : LiftM K popTD rPopT1 := by
  intro x ds S H Q' Q v vs rh dx dv h q
  match x, ds, dx, dv, h with
  | .ref a, [y], .ref _, .cons (v := u) dy .nil, h =>
    obtain ⟨k, kvs, d, ek, g, hv, h⟩ := h
    obtain ⟨ys, hy, r⟩ := rh _ _ g
    obtain ⟨b, rfl, hb⟩ := DV.ofTKey dy ek
    have tle := RH.putTle rh (o := .dT (dropK ys k)) g
    rcases r.val k with ⟨e1, _⟩ | ⟨d', w, e1, e2, dw⟩
    · rw [e1] at hv; cases hv
    · rw [e1] at hv; cases hv
      exact ⟨a, ys, k, b, w, rfl, rfl, hy, hb, e2, q _ _ _ _ (Fr.put (q := .dt (delQ kvs k)) g) (RH.put (q := .dt (delQ kvs k)) rh g ⟨_, upd_same, (r.mono tle).del k⟩) (DV.mono tle _ _ dw) h⟩
end
/-! ### a module's own dict, its keys texts -/
def lookS (ks : List (Str × D)) (z : Str) : Option D := (ks.find? fun p => p.1 == z).map (·.2)
inductive KEs (P : Params) : List DictEntry → List (Str × D) → Prop where
  | nil : KEs P [] []
  | int {x : Str} {t : Tok} {i : Int} {t' : Tok} {e : DictEntry} {es : List DictEntry} {ks : List (Str × D)} (k : e.key = .str x t) (h : e.hash = PyData.keyHash P x) (v : e.val = .int i t') (r : KEs P es ks) : KEs P (e :: es) ((x, .int i) :: ks)
  | str {x : Str} {t : Tok} {i : Str} {t' : Tok} {e : DictEntry} {es : List DictEntry} {ks : List (Str × D)} (k : e.key = .str x t) (h : e.hash = PyData.keyHash P x) (v : e.val = .str i t') (r : KEs P es ks) : KEs P (e :: es) ((x, .str i) :: ks)
def KDt (K : PySem.W.Frag) (w : World) (d : Addr) (ks : List (Str × D)) : Prop := ∃ es n, K.lookup d = some ⟨.type "dict", none, .dict es n, #[]⟩ ∧ KEs w.params es.toList ks ∧ (d == sysModules) = false
theorem KEs.lit {P : Params} : ∀ {es : List DictEntry} {ks : List (Str × D)}, KEs P es ks → PySem.W.KeysLit P es
  | _, _, .nil => trivial
  | _, _, .int k h _ r => ⟨⟨_, _, k, h⟩, r.lit⟩
  | _, _, .str k h _ r => ⟨⟨_, _, k, h⟩, r.lit⟩
theorem isStr_at {z x : Str} {t : Tok} {e : DictEntry} (k : e.key = .str x t) : e.key.isStr z = (x == z) := by rw [k]; rfl
theorem KEs.noRef {P : Params} : ∀ {es : List DictEntry} {ks : List (Str × D)}, KEs P es ks → es.any (·.refKey) = false
  | _, _, .nil => rfl
  | _, _, .int k _ _ r => by
    rw [List.any_cons, r.noRef]
    unfold DictEntry.refKey; rw [k]; rfl
  | _, _, .str k _ _ r => by
    rw [List.any_cons, r.noRef]
    unfold DictEntry.refKey; rw [k]; rfl
theorem KEs.find {P : Params} (z : Str) : ∀ {es : List DictEntry} {ks : List (Str × D)}, KEs P es ks → (lookS ks z = none ∧ es.find? (·.key.isStr z) = none) ∨ ∃ d e v, lookS ks z = some d ∧ es.find? (·.key.isStr z) = some e ∧ L2.RelV v e.val ∧ ∀ K H, DV K H d v
  | _, _, .nil => .inl ⟨rfl, rfl⟩
  | _, _, .int (x := x) (i := i) (t' := t') (e := e) (ks := ks) k _ v r => by
    have q := isStr_at (z := z) k
    cases c : x == z with
    | true => exact .inr ⟨.int i, e, .int i, by unfold lookS; rw [List.find?_cons]; simp only [c, Option.map_some], by rw [List.find?_cons, q, c], by rw [v]; exact ⟨t', rfl⟩, fun _ _ => .int i⟩
    | false =>
      have a : lookS ((x, .int i) :: ks) z = lookS ks z := by unfold lookS; rw [List.find?_cons]; simp only [c]
      rw [a, List.find?_cons, q, c]
      exact r.find z
  | _, _, .str (x := x) (i := i) (t' := t') (e := e) (ks := ks) k _ v r => by
    have q := isStr_at (z := z) k
    cases c : x == z with
    | true => exact .inr ⟨.str i, e, .str i, by unfold lookS; rw [List.find?_cons]; simp only [c, Option.map_some], by rw [List.find?_cons, q, c], by rw [v]; exact ⟨t', rfl⟩, fun _ _ => .str i⟩
    | false =>
      have a : lookS ((x, .str i) :: ks) z = lookS ks z := by unfold lookS; rw [List.find?_cons]; simp only [c]
      rw [a, List.find?_cons, q, c]
      exact r.find z
theorem kd_mk {K : PySem.W.Frag} {h : Heap} {w : World} {mg : Str → Option Value} {x : Str} {d : Addr} {es : Array DictEntry} {n : Nat} {ks : List (Str × D)} (KX : K.In h) (c : mg x = some (.ref d)) (l : K.lookup d = some ⟨.type "dict", none, .dict es n, #[]⟩) (r : KEs w.params es.toList ks) (z : (d == sysModules) = false) : ∃ d, mg x = some (.ref d) ∧ KDt K w d ks := ⟨d, c, es, n, l, r, z⟩
theorem KDt.ns {K : PySem.W.Frag} {w : World} {d : Addr} {ks : List (Str × D)} (h : KDt K w d ks) (z : Str) : (lookS ks z = none ∧ PySem.W.nsIn K d z = some none) ∨ ∃ x u v, lookS ks z = some x ∧ PySem.W.nsIn K d z = some (some u) ∧ L2.RelV v u ∧ ∀ K H, DV K H x v := by
  obtain ⟨es, n, e, q, _⟩ := h
  unfold PySem.W.nsIn
  rw [e]
  rcases q.find z with ⟨a, b⟩ | ⟨x, e2, v, a, b, c, f⟩
  · exact .inl ⟨a, by simp only [b, q.noRef, Bool.false_eq_true, if_false]⟩
  · exact .inr ⟨x, e2.val, v, a, by simp only [b], c, f⟩
section
variable {X : Cx} {W : WX} {a : Expr} {ra : RE} {pos p' : Pos} {x : Str} {d : Addr} {ks : List (Str × D)}
/-- e in d, d a module's dict -/
def rKin (f : Bool → Bool) (ks : List (Str × D)) (ra : RE) : RE := fun σ S Q E => ra σ S (fun y S1 => ∃ z, y = .str z ∧ Q (.bl (f (lookS ks z).isSome)) S1) E
theorem ev_kin (hg : Gl X x) (hm : X.mg x = some (.ref d)) (h : KDt X.K X.w d ks) (ha : EV X W a ra) (hd : (x == ("__debug__" : Str)) = false := by decide) : EV X W (.Compare a [.In] [.Name x p'] pos) (rKin id ks ra) := by
  obtain ⟨Ta, pa, la⟩ := ha.ex
  obtain ⟨es, n, e1, e2, e3⟩ := id h
  refine ⟨_, pe_cmpR (op_in_kd ⟨e1, e2.lit, e3⟩) pa (pe_glob (v := .ref d) hg hm rfl hd) rfl, fun σ σ' H S Q Q' E' rs rh hh q xi => ?_⟩
  refine la σ σ' H S _ _ E' rs rh hh (fun y S1 v H1 f1 rh1 dv h1 => ?_) xi
  obtain ⟨z, rfl, h1⟩ := h1
  cases dv
  rcases h.ns z with ⟨b1, b2⟩ | ⟨x2, u, v, b1, b2, _⟩ <;> (rw [b1] at h1; exact ⟨z, _, rfl, rfl, b2, (q.go f1).here rh1 (.bl _) h1⟩)
theorem ev_knin (hg : Gl X x) (hm : X.mg x = some (.ref d)) (h : KDt X.K X.w d ks) (ha : EV X W a ra) (hd : (x == ("__debug__" : Str)) = false := by decide) : EV X W (.Compare a [.NotIn] [.Name x p'] pos) (rKin not ks ra) := by
  obtain ⟨Ta, pa, la⟩ := ha.ex
  obtain ⟨es, n, e1, e2, e3⟩ := id h
  refine ⟨_, pe_cmpR (op_notIn_kd ⟨e1, e2.lit, e3⟩) pa (pe_glob (v := .ref d) hg hm rfl hd) rfl, fun σ σ' H S Q Q' E' rs rh hh q xi => ?_⟩
  refine la σ σ' H S _ _ E' rs rh hh (fun y S1 v H1 f1 rh1 dv h1 => ?_) xi
  obtain ⟨z, rfl, h1⟩ := h1
  cases dv
  rcases h.ns z with ⟨b1, b2⟩ | ⟨x2, u, v, b1, b2, _⟩ <;> (rw [b1] at h1; exact ⟨z, _, rfl, rfl, b2, (q.go f1).here rh1 (.bl _) h1⟩)
theorem et_kin (hg : Gl X x) (hm : X.mg x = some (.ref d)) (h : KDt X.K X.w d ks) (ha : EV X W a ra) (hd : (x == ("__debug__" : Str)) = false := by decide) : ET X W (.Compare a [.In] [.Name x p'] pos) (rTst (rKin id ks ra)) := by
  obtain ⟨Ta, pa, la⟩ := ha.ex
  obtain ⟨es, n, e1, e2, e3⟩ := id h
  refine ⟨_, pt_cmpR (op_in_kd ⟨e1, e2.lit, e3⟩) pa (pe_glob (v := .ref d) hg hm rfl hd) rfl, fun σ σ' H S Q Q' E' rs rh hh q xi => ?_⟩
  refine la σ σ' H S _ _ E' rs rh hh (fun y S1 v H1 f1 rh1 dv h1 => ?_) xi
  obtain ⟨z, rfl, h1⟩ := h1
  cases dv
  rcases h.ns z with ⟨b1, b2⟩ | ⟨x2, u, v, b1, b2, _⟩ <;> (rw [b1] at h1; exact ⟨z, _, rfl, rfl, b2, _, rfl, q _ _ _ f1 rh1 h1⟩)
theorem et_knin (hg : Gl X x) (hm : X.mg x = some (.ref d)) (h : KDt X.K X.w d ks) (ha : EV X W a ra) (hd : (x == ("__debug__" : Str)) = false := by decide) : ET X W (.Compare a [.NotIn] [.Name x p'] pos) (rTst (rKin not ks ra)) := by
  obtain ⟨Ta, pa, la⟩ := ha.ex
  obtain ⟨es, n, e1, e2, e3⟩ := id h
  refine ⟨_, pt_cmpR (op_notIn_kd ⟨e1, e2.lit, e3⟩) pa (pe_glob (v := .ref d) hg hm rfl hd) rfl, fun σ σ' H S Q Q' E' rs rh hh q xi => ?_⟩
  refine la σ σ' H S _ _ E' rs rh hh (fun y S1 v H1 f1 rh1 dv h1 => ?_) xi
  obtain ⟨z, rfl, h1⟩ := h1
  cases dv
  rcases h.ns z with ⟨b1, b2⟩ | ⟨x2, u, v, b1, b2, _⟩ <;> (rw [b1] at h1; exact ⟨z, _, rfl, rfl, b2, _, rfl, q _ _ _ f1 rh1 h1⟩)
/-- d[e], there -/
def rKat (ks : List (Str × D)) (ra : RE) : RE := fun σ S Q E => ra σ S (fun y S1 => ∃ z v, y = .str z ∧ lookS ks z = some v ∧ Q v S1) E
theorem ev_kat (hg : Gl X x) (hm : X.mg x = some (.ref d)) (h : KDt X.K X.w d ks) (ha : EV X W a ra) (hs : PlainIx a := by exact fun _ _ => rfl) (hd : (x == ("__debug__" : Str)) = false := by decide) : EV X W (.Subscript (.Name x p') a pos) (rKat ks ra) := by
  obtain ⟨Ta, pa, la⟩ := ha.ex
  obtain ⟨es, n, e1, e2, e3⟩ := id h
  refine ⟨_, pe_ix ix_kdict (pe_glob (v := .ref d) hg hm rfl hd) pa hs, fun σ σ' H S Q Q' E' rs rh hh q xi => ?_⟩
  refine la σ σ' H S _ _ E' rs rh hh (fun y S1 v H1 f1 rh1 dv h1 => ?_) xi
  obtain ⟨z, y2, rfl, hl, h1⟩ := h1
  cases dv
  rcases h.ns z with ⟨b1, _⟩ | ⟨x2, u, v, b1, b2, b3, b4⟩
  · rw [b1] at hl; cases hl
  · rw [b1] at hl; cases hl
    exact ⟨d, z, v, rfl, rfl, ⟨es, n, u, e1, e2.lit, b2, b3⟩, (q.go f1).here rh1 (b4 _ _) h1⟩
end
/-! ### a method that may raise, called with named arguments alone -/
def rMetXK (nm : String) (m : Str) (sp : Sq) (n mm : Nat) (π : List Nat) (ro : RE) (ra rk : RA) : RE := fun σ S Q E => ro σ S (fun x S1 => metD nm m x S1 (ra σ S1 (fun ds S2 => rk σ S2 (fun es S3 => sp (gk n mm π (x :: ds) es) S3 Q E) E) E)) E
section
variable {X : Cx} {W : WX} {pos apos : Pos} {nm : String} {C f : Addr} {k : Nat} {fd : FuncData} {ps ks : List Str} {sp : Sq} {o : Expr} {m : Str} {kws : List Keyword} {n mm : Nat} {π : List Nat} {ro : RE} {rk : RA}
theorem ev_metXK0 {pl : Sem Bool} (kc : Kc X.K nm C) (hm : Meth X.K C m f) (G : FnOk X.prog X.w X.K X.mg X.base (L2N.CX X.prog X.w) k f fd ps (dn X.K sp)) (hr : Room k X.A) (tk : L2N.Takes X W) (hb : KBn' X.K fd ps ks n mm π) (ho : EV X W o ro) (hkw : EK X W kws rk)
    (hall : (backToKw pos (keywordEach kws X.env)).all (·.1.isSome) = true := by rfl) (hks : (backToKw pos (keywordEach kws X.env)).filterMap (·.1) = ks := by rfl)
    (hpl : ((backTo pos (starEach [] X.env)).any (·.1) || (backToKw pos (keywordEach kws X.env)).any (·.1.isNone)) = false := by rfl)
    (ht : eval (.Call (.Attribute o m apos) [] kws pos) X.env = (do
      let ov ← eval o X.env
      standAt apos.atName
      let (f, first) ← holding [ov] (getMethod ov m pl)
      callWith pos f first (backTo pos (starEach [] X.env)) (backToKw pos (keywordEach kws X.env))) := by rfl) : EV X W (.Call (.Attribute o m apos) [] kws pos) (rMetXK nm m sp n mm π ro rNil rk) := by
  obtain ⟨T, p, l⟩ := ho.ex
  obtain ⟨Tk, pk, lk⟩ := hkw.ex
  refine ⟨fun σ H Q => T σ H fun x H1 => ∃ a dx fs, x = .ref a ∧ H1 a = some (.ins C dx fs) ∧ fs.lookup m = none ∧ Tk σ H1 fun zs H2 => dn X.K sp (gk n mm π [x] zs) H2 Q (wx W σ), ⟨fun pins s σ H Q I h => ?_⟩, fun σ σ' H S Q Q' E' rs rh h q xi => ?_⟩
  · refine PySem.W.methodCall_KW (pl := pl) (thn (p.run pins s σ H _ I h) fun u s1 ⟨x, H1, I1, rx, a, dx, fs, ex, ea, l, q⟩ => ?_) ht
    subst ex
    obtain rfl : u = Value.ref a := rx
    refine getmeth_ok I1 ea kc.cls hm l ?_
    refine PySem.W.callWith_KW0 (first := [.ref a]) (h₀ := X.base) I1.ok.mod.kin hm.kp hall (thn (pk.run pos pins s1 σ H1 _ I1 q) fun ws s2 ⟨zs, H2, I2, rz, q2⟩ => ⟨I2.kIn, ?_⟩) hpl
    rw [hks]
    have rl := hb.rel (.cons rfl .nil : Vals [.ref a] [.ref a]) rz
    have ln : (gk n mm π [.ref a] ws).length = ps.length := by rw [← rl.length]; exact G.len _ _ _ _ q2
    have go := G.run X.A X.stack s2 H2 ⟨[.ref a], ks.zip ws⟩ (gk n mm π [.ref a] ws) (gk n mm π [.ref a] zs) Q (wx W σ) hr I2.env0 (hb.to s2 [.ref a] ws I2.kIn ln) rl q2
    refine wpAny_call (codeAny_mono go fun r s3 hq => ?_)
    match r, hq with
    | .error e, hq => exact L2N.passAt tk σ pins H2 s2 e s3 I2 hq
    | .ok (.ret u), hq => exact I2.after hq
    | .ok .next, hq => exact False.elim hq
    | .ok .brk, hq => exact False.elim hq
    | .ok .cont, hq => exact False.elim hq
  · refine l σ σ' H S _ _ _ rs rh h (fun x S1 v H1 f1 rh1 dv h1 => ?_) xi
    cases dv with
    | ref a =>
      obtain ⟨fs, e, le, h1⟩ := h1
      obtain ⟨C', dx, ys, cn, g, r⟩ := rh1 a _ e
      cases cn.inj kc.cn
      refine ⟨a, dx, ys, rfl, g, r.lookupN le, ?_⟩
      refine lk σ σ' H1 S1 _ _ _ (rs.mono (f1.tle rh)) rh1 h1 (fun es S2 zs H2 f2 rh2 dz h2 => ?_) (xi.go f1)
      exact ⟨_, S2, Q', E', DVs.gk (.cons (.ref a) .nil) dz, rh2, h2, q.go (f1.trans f2), xi.go (f1.trans f2)⟩
    | _ => exact h1.elim
end
/-! ### sorted(d), the keys numbers -/
def rSortedI : List V → Hp → VK → Prop := fun xs H Q => ∃ (a : Addr) (kvs : List (Key × V)) (ks : List Int), xs = [V.ref a] ∧ Rd H a (.dK kvs) ∧ kvs.map (·.1) = ks.map Sum.inl ∧ ks.length < 64 ∧
  ∀ (ys : List Int) (p : Addr), ys.Perm ks → ys.Pairwise (· ≤ ·) → H p = none → Q (.ref p) (upd H p (.lst (ys.map V.int)))
def srtIM (m : Nw2) (ds : List D) (S : Hq) (Q : Qv) : Prop := match ds with
  | [.ref a] => ∃ (kvs : List (Key × D)) (zs : List Int), GtK S a kvs ∧ kvs.map (·.1) = zs.map Sum.inl ∧ zs.length < 64 ∧ ∀ ys : List Int, ys.Perm zs → ys.Pairwise (· ≤ ·) → m (ys.map D.int) S Q
  | _ => False
section
variable {X : Cx} {K : PySem.W.Frag} {S : Hq} {H : Hp}
theorem cr_srtIT (hcm : X.calm = true) : CallR X (.builtin "sorted") rSortedI := L2.call_sortedDI hcm
theorem lc_srtIT : LiftC K (srtIM nwT) rSortedI := by
  intro ds S H Q' Q vs rh dv h q
  rcases ds with _ | ⟨x, _ | ⟨y, r⟩⟩
  · exact h.elim
  · cases dv with | @cons _ v _ _ dx t =>
    cases t
    cases x <;> try exact h.elim
    cases dx
    obtain ⟨kvs, zs, g, e, lz, h⟩ := h
    obtain ⟨ys, rd, r⟩ := rh.gtK g
    exact ⟨_, ys, zs, rfl, rd, by rw [← r.keys]; exact e, lz, fun ws p hp hs hn => q.newL rh hn DVs.ofInts (h ws hp hs p (rh.fresh hn))⟩
  · cases x <;> exact h.elim
theorem cr_srtIF (hcm : X.calm = true) : CallR X (.builtin "sorted") (fun xs H Q => rSortedI xs H (fzV Q)) := callr_fz (cr_srtIT hcm)
theorem lc_srtIF : LiftC K (srtIM nwF) (fun xs H Q => rSortedI xs H (fzV Q)) := liftc_fz lc_srtIT fun ds S Q h => by
  rcases ds with _ | ⟨x, _ | ⟨y, r⟩⟩
  · exact h.elim
  · cases x <;> try exact h.elim
    obtain ⟨kvs, zs, g, e, lz, h⟩ := h
    exact ⟨kvs, zs, g, e, lz, fun ys hp hs => nw_fz (h ys hp hs)⟩
  · cases x <;> exact h.elim
theorem k_srtI {m : Nw2} {a : Addr} {Q : Qv} : srtIM m [.ref a] S Q = (∃ (kvs : List (Key × D)) (zs : List Int), GtK S a kvs ∧ kvs.map (·.1) = zs.map Sum.inl ∧ zs.length < 64 ∧ ∀ ys : List Int, ys.Perm zs → ys.Pairwise (· ≤ ·) → m (ys.map D.int) S Q) := rfl
theorem k_popT {a : Addr} {y : D} {Q : Qv} : popTD (.ref a) [y] S Q = (∃ k kvs v, tkeyD y = some k ∧ S a = some (.dt kvs) ∧ valQ kvs k = some v ∧ Q v (up S a (.dt (delQ kvs k)))) := rfl
end
end Y
namespace Y
open PySem PySem.Spec PyProof.Rows L2
/-! ### a list let be is unpacked into names -/
def gTl (n : Nat) (r : RGs) : RG := fun d σ S N _ => match d with | .kl ds => ds.length = n ∧ r ds σ S N NoX | _ => False
section
variable {X : Cx} {W : WX} {pos : Pos}
theorem eg_tl {es : List Expr} {k : Nat} {r : RGs} {n : Nat} (hc : X.calm = true) (h : EGs X W es r) (hn : (assignEach es X.env).length = n := by rfl) (hst : (assignEach es X.env).findIdx? (·.1) = none := by rfl) : EG X W (.Tuple es k pos) (gTl n r) := by
  obtain ⟨T, p, l⟩ := h.ex
  refine ⟨_, pg_unl hc p hn hst, fun σ σ' H S d v N N' E' rs rh dv h nn x => ?_⟩
  cases dv with
  | kl s r => exact ⟨_, _, rfl, s.sql, by rw [← r.length]; exact h.1, l σ σ' H S _ _ N N' rs rh r h.2 nn⟩
  | _ => exact h.elim
theorem q_gTl {n : Nat} {r : RGs} {xs : List D} {σ : Sg} {S : Hq} {N : Sg → Hq → Prop} {E : Xw} : gTl n r (.kl xs) σ S N E = (xs.length = n ∧ r xs σ S N NoX) := rfl
end
/-! ### x in a tuple that may be empty, x no tuple and no list -/
def inDt (g : Bool → Bool) : R2q := fun x y S Q => match y with
  | .tup ys => ∃ b, (eqS x x).isSome = true ∧ inS x ys = some b ∧ Q (.bl (g b)) S
  | _ => False
section
variable {K : PySem.W.Frag}
theorem lf_inDt : Lift2 K (inDt id) (rInU K) := by
  intro x y S H Q' Q v u rh dx dy h q
  cases y with
  | tup ys =>
    cases dy with | tup s r =>
    obtain ⟨b, fx, e, h⟩ := h
    obtain ⟨f1, f2, _⟩ := inS_V dx e r
    obtain ⟨b2, e2⟩ := Option.isSome_iff_exists.mp fx
    exact .inl ⟨_, _, rfl, .inr s, (eqS_V e2 dx dx).1, f1, by simp only [Bool.false_eq_true, if_false]; rw [f2]; exact q.here rh (.bl _) h⟩
  | _ => exact h.elim
theorem lf_notInDt : Lift2 K (inDt not) (rNotInU K) := by
  intro x y S H Q' Q v u rh dx dy h q
  cases y with
  | tup ys =>
    cases dy with | tup s r =>
    obtain ⟨b, fx, e, h⟩ := h
    obtain ⟨f1, f2, _⟩ := inS_V dx e r
    obtain ⟨b2, e2⟩ := Option.isSome_iff_exists.mp fx
    exact .inl ⟨_, _, rfl, .inr s, (eqS_V e2 dx dx).1, f1, by simp only [if_true]; rw [f2]; exact q.here rh (.bl _) h⟩
  | _ => exact h.elim
theorem inS_ints {m : Int} : ∀ {xs : List Int}, inS (.int m) (xs.map D.int) = some (decide (m ∈ xs))
  | [] => rfl
  | y :: r => by
    rw [List.map_cons]; unfold inS
    rw [inS_ints (xs := r)]
    show some (decide (y = m) || decide (m ∈ r)) = _
    congr 1
    rw [Bool.eq_iff_iff, Bool.or_eq_true, decide_eq_true_eq, decide_eq_true_eq, decide_eq_true_eq, List.mem_cons]
    exact or_congr eq_comm Iff.rfl
theorem q_inI {g : Bool → Bool} {m : Int} {xs : List Int} {S : Hq} {Q : Qv} : inDt g (.int m) (.tup (xs.map D.int)) S Q = Q (.bl (g (decide (m ∈ xs)))) S := by
  show (∃ b, (eqS (D.int m) (D.int m)).isSome = true ∧ inS (D.int m) (xs.map D.int) = some b ∧ Q (D.bl (g b)) S) = _
  rw [inS_ints]
  apply propext
  constructor
  · rintro ⟨b, _, e, h⟩; cases e; exact h
  · exact fun h => ⟨_, rfl, rfl, h⟩
end
end Y
set_option maxHeartbeats 2000000
namespace Y
open PySem PySem.Spec PyProof.Rows L2
/-! ### a def that gets the error which a suite holds -/
/-- what it promises, for an error of class cn at a, its fields at dd -/
structure FnE (P : Program) (w : World) (K : PySem.W.Frag) (mg : Str → Option Value) (base : Heap) (k : Nat) (f : Addr) (fd : FuncData) (ps : List Str) (sp : String → Addr → Addr → Sq) : Prop where
  len : ∀ cn a dd ds S Q E, sp cn a dd ds S Q E → ds.length = ps.length
  go : ∀ (A : Around) (outer : List Env) (s : Shared) (H : Hp) (args : Args) (us : List Value) (vs : List V) (Q : VK) (E : XK) (cn : String) (a dd C : Addr) (oe : Obj),
    CN K cn C → L2N.Zn (.ref C) (some dd) oe → (∃ fs, oe.data = .fields fs) → L2H.RoomH k A → L2H.Hot1 A (a, oe) → L2H.PinOk outer H s (a, oe) →
    Env0 P w K mg base A outer s H → BindsTo s fd args (ps.zip us) → Vals vs us → dn K (sp cn a dd) vs H Q E → codeAny (model P w) A (.call (.ref f) args) (CR CX0 outer P w H s Q E) s
/-- the body's context: a suite that holds the error -/
abbrev cxE (P : Program) (w : World) (K : PySem.W.Frag) (mg : Str → Option Value) (base : Heap) (N : List Str) (qual : Str) (scope : Scope) (f : Addr) (cd : Value) (A : Around) (outer : List Env) (s : Shared) (H : Hp) (E : XK) (a : Addr) (oe : Obj) : Cx :=
  (L2H.cxH CX0 P w K mg base N qual scope f cd A outer s H E (a, oe)).suite a ((a, oe) :: [(a, oe)])
theorem mark_same {A : Around} {v : Value} {env : Env} (h : A.handled = some v) : (A.deeper env).mark (some v) = A.deeper env := by
  obtain ⟨hd, d, fr, g, u⟩ := A
  simp only at h
  subst h
  rfl
section
variable {P : Program} {w : World} {K : PySem.W.Frag} {mg : Str → Option Value} {base : Heap} {x qual : Str} {st : Stmt} {f : Addr} {fd : FuncData} {N ps : List Str} {k : Nat} {sp : String → Addr → Addr → Sq} {t : String → Addr → Addr → RSt}
theorem fn_okE (F : Fun K x qual st f fd) (Sc : FnScope N ps (defScope st)) (len : ∀ cn a dd ds S Q E, sp cn a dd ds S Q E → ds.length = ps.length)
    (hb : ∀ (cdv : Value) (A : Around) (outer : List Env) (s : Shared) (H : Hp) (E : XK) (cn : String) (C a dd : Addr) (oe : Obj), CN K cn C → L2N.Zn (.ref C) (some dd) oe → (∃ fs, oe.data = .fields fs) → L2H.RoomH k (A.deeper (envOfC qual (defScope st) s.heap.objs.size f cdv)) →
      EB (cxE P w K mg base N qual (defScope st) f cdv A outer s H E a oe) W0 (defBody st) (t cn a dd))
    (pure' : ∀ cn a dd ds S Q, sp cn a dd ds S Q NoX → t cn a dd { nx := fun _ S => Q .non S, rt := Q } (start' N.length ds) S) (nx : ∀ cn a dd ds S Q E, sp cn a dd ds S Q E → sp cn a dd ds S Q NoX) : FnE P w K mg base (k + 1) f fd ps sp := by
  obtain ⟨oc, od, kV, doc, pm, an, cdv, ct, osl, rfl, lk, hcd⟩ := F.ex
  refine ⟨len, fun A outer s H args us vs Q E cn a dd C oe cc hz hf hr hot pin e0 hbt rv hsp => ?_⟩
  obtain ⟨ds, S, Q', E', dv, rh, h, q, xi⟩ := hsp
  have ln : vs.length = ps.length := dv.length.symm.trans (len _ _ _ _ _ _ _ h)
  have kin : K.In s.heap := e0.mod.kin.keeps fun c o e => (e0.bs c o e).1
  have nol : s.heap.NoLimit := e0.mod.nolimit.keeps fun c o e => (e0.bs c o e).1
  refine codeAny_call_function hr.depth (kin _ _ lk) rfl Sc.co Sc.gen rfl (PySem.W.codeRec_of kin hcd) (hbt _ _ _ _ ?_)
  refine wpAny_newFunctionEnv_cells Sc.kind (fun ⟨n, v⟩ hy => ?_) (fun env he s1 xx => ?_)
  · exact (Sc.par n (List.of_mem_zip hy).1).imp id fun c => ⟨c, PySem.W.cellsFrom_some _ _ _ (.inl c)⟩
  · subst he
    refine ⟨nol.keeps xx.toInCall.keep, codeAny_func ?_⟩
    have I := L2H.inv_startH (CX := CX0) (qual := qual) (f := f) (cd := cdv) (E := E) Sc pin e0 ln rv xx
    have pin1 := I.pin (a, oe) (List.mem_append_left _ (List.mem_singleton_self _))
    obtain ⟨fs, hfs⟩ := hf
    have I2 := I.suite pin1.1 hfs pin1.2.1 pin1.2.2.1 pin1.2.2.2.1
    obtain ⟨T, pp, l⟩ := (hb cdv A outer s H E cn C a dd oe cc hz ⟨fs, hfs⟩ (hr.deeper _)).ex
    have hq := l (L2.start N vs) (start' N.length ds) H S { nx := fun _ H' => Q .non H', rt := Q } _ (rs_start N dv) rh (pure' _ _ _ _ _ _ (nx _ _ _ _ _ _ _ h))
      ⟨fun σ' S' σ H' f rh' rs h' => q _ _ _ _ f rh' .non h', q, fun _ _ _ _ _ _ _ z => z.elim, fun _ _ _ _ _ _ _ z => z.elim, fun _ _ _ _ _ _ _ _ _ _ _ _ _ _ z => z.elim⟩
    have R := pp.run [] s1 _ H _ I2 hq
    rw [show (cxE P w K mg base N qual (defScope st) f cdv A outer s H E a oe).A = A.deeper (envOfC qual (defScope st) s.heap.objs.size f cdv) from mark_same hot.1] at R
    refine wpAny_mono R (fun fl s' hs => ?_) fun e s' hs => hs.elim
    have fin : ∀ {σ' : L2.St} {H' : Hp} {v : V} {u : Value}, Inv (cxE P w K mg base N qual (defScope st) f cdv A outer s H E a oe) [] σ' H' s' → RelV v u → Q v H' → CE outer P w H s Q u s' :=
      fun J rv q => ⟨_, _, J.os, J.bare, J.base, J.hok, rv, q⟩
    cases fl with
    | ret u => obtain ⟨v, σ', H', J, rv, q⟩ := hs; exact fin J rv q
    | next => obtain ⟨σ', H', J, q⟩ := hs; exact fin (v := V.non) (u := Value.none) J rfl q
    | brk => exact hs.elim fun _ z => z.elim fun _ z => z.2.elim
    | cont => exact hs.elim fun _ z => z.elim fun _ z => z.2.elim
end
section
variable {X : Cx} {W : WX} {k : Nat} {x : Str} {fa : Addr} {fd : FuncData} {ps : List Str} {sp : String → Addr → Addr → Sq} {e : Expr} {es : List Expr} {ra : RA} {p pos : Pos} {cn : String} {a dd C : Addr} {oe : Obj} {pn : List (Addr × Obj)}
theorem ev_callE (F : FnE X.prog X.w X.K X.mg X.base k fa fd ps sp) (hr : L2H.RoomH k (X.suite a ((a, oe) :: pn)).A) (cc : CN X.K cn C) (hz : L2N.Zn (.ref C) (some dd) oe) (hf : ∃ fs, oe.data = .fields fs) (hm : X.mg x = some (.ref fa)) (hk : PySem.W.keepIn X.K (.ref fa) = true) (hb : Binds X.K fd ps [])
    (ha : EA (X.suite a ((a, oe) :: pn)) W (e :: es) ra) (hg : Gl X x := by rfl) (hdb : (x == ("__debug__" : Str)) = false := by decide) (he : starEach (e :: es) X.env = (false, eval e X.env) :: starEach es X.env := by rfl) (hpl : (backTo pos (starEach es X.env)).any (·.1) = false := by rfl) :
    EV (X.suite a ((a, oe) :: pn)) W (.Call (.Name x p) (e :: es) [] pos) (rCall (sp cn a dd) ra) := by
  obtain ⟨Ta, pa, la⟩ := ha.ex
  refine ⟨fun σ H Q => Ta σ H fun vs H1 => dn X.K (sp cn a dd) vs H1 Q E0, ⟨fun pins s σ H Q I h => ?_⟩, fun σ σ' H S Q Q' E' rs rh h q xi => ?_⟩
  · refine wpAny_Call_Name_kw (ld_glob (X := X.suite a ((a, oe) :: pn)) I hg hm ?_ hdb)
    refine PySem.W.callWith_K (h₀ := X.base) I.ok.mod.kin hk (thn (pa.run pos pins s σ H _ I h) fun us s1 ⟨vs, H1, I1, r, q⟩ => ⟨I1.kIn, ?_⟩) he hpl
    obtain ⟨fs, hfs⟩ := hf
    have ln : us.length = ps.length := by
      obtain ⟨ds, _, _, _, dv, _, h, _⟩ := q
      rw [← r.length, ← dv.length]
      exact F.len _ _ _ _ _ _ _ h
    have b := hb s1 us I1.kIn (by rw [List.append_nil]; exact ln)
    rw [List.append_nil] at b
    have P1 := I1.pin (a, oe) (List.mem_append_left _ List.mem_cons_self)
    have pin : L2H.PinOk (X.suite a ((a, oe) :: pn)).stack H1 s1 (a, oe) := ⟨P1.1, P1.2.1, fun z => (List.mem_cons.mp (I1.stkSub a z)).elim P1.2.2.1 P1.2.2.2.1, P1.2.2.2.2⟩
    refine wpAny_call (codeAny_mono (F.go _ _ s1 H1 ⟨us, []⟩ us vs Q E0 cn a dd C oe cc hz ⟨fs, hfs⟩ hr ⟨rfl, fs, hfs, hz.2.2 fs hfs⟩ pin I1.env0 b r q) fun r s' hq => ?_)
    match r, hq with
    | .ok (.ret u), hq => exact I1.after hq
    | .ok .next, hq => exact False.elim hq
    | .ok .brk, hq => exact False.elim hq
    | .ok .cont, hq => exact False.elim hq
    | .error e, hq => exact False.elim hq
  · refine la σ σ' H S _ _ E' rs rh h (fun d S1 v H1 f1 rh1 dv h1 => ?_) xi
    exact ⟨d, S1, Q', NoX, dv, rh1, h1, q.go f1, XI.no⟩
end
/-! ### a list that is made there, times a number -/
def repM (m : Nw2) : R2q := fun x y S Q => match x, y with
  | .ref a, .int k => ∃ xs, S a = some (.lst xs) ∧ xs.length ≤ 1000 ∧ 0 ≤ k ∧ k ≤ 1000 ∧ m (List.replicate k.toNat xs).flatten S Q
  | _, _ => False
section
variable {X : Cx} {K : PySem.W.Frag} {H : Hp}
theorem DVs.rep {ds : List D} {vs : List V} (r : DVs K H ds vs) : ∀ n : Nat, DVs K H (List.replicate n ds).flatten (List.replicate n vs).flatten
  | 0 => .nil
  | n + 1 => by
    rw [List.replicate_succ, List.replicate_succ, List.flatten_cons, List.flatten_cons]
    exact r.app (DVs.rep r n)
theorem op_repT : OpR X (binaryOp .Mult) rRep := op_rep
theorem op_repF : OpR X (binaryOp .Mult) (fun x y H Q => rRep x y H (fzV Q)) := opr_fz op_rep
theorem lf_repT : Lift2 K (repM nwT) rRep := by
  intro x y S H Q' Q v u rh dx dy h q
  cases x <;> cases y <;> try exact h.elim
  rename_i a k
  cases dx; cases dy
  obtain ⟨xs, e, l, k0, k1, h⟩ := h
  obtain ⟨ys, g, r⟩ := rh.lst e
  have hl : ys.length ≤ 1000 := by rw [← r.length]; exact l
  have hk : k.toNat ≤ 1000 := by omega
  have hm : ys.length * k.toNat ≤ 1000 * 1000 := Nat.mul_le_mul hl hk
  exact ⟨a, k, ys, rfl, rfl, g, by omega, by omega, by rw [sizeLine_eq]; omega, fun p hp => q.newL rh hp (r.rep k.toNat) (h p (rh.fresh hp))⟩
theorem lf_repF : Lift2 K (repM nwF) (fun x y H Q => rRep x y H (fzV Q)) := lift2_fz lf_repT fun x y S Q h => by
  cases x <;> cases y <;> try exact h.elim
  obtain ⟨xs, e, l, k0, k1, h⟩ := h
  exact ⟨xs, e, l, k0, k1, nw_fz h⟩
theorem q_rep {m : Nw2} {a : Addr} {k : Int} {S : Hq} {Q : Qv} : repM m (.ref a) (.int k) S Q = (∃ xs, S a = some (.lst xs) ∧ xs.length ≤ 1000 ∧ 0 ≤ k ∧ k ≤ 1000 ∧ m (List.replicate k.toNat xs).flatten S Q) := rfl
end
end Y
namespace SrtO
open PySem PySem.Spec PyProof.Rows PyProof
/-! ### sorted of a dict whose keys are tuples of numbers and texts, of one shape -/
abbrev Itm := Int ⊕ List Nat
def kyB (a b : List Itm) : Bool := (listOrd itemOrd).blt a b
def KTup (h : Heap) (shape : Nat → Bool) (v : Value) (l : List Itm) : Prop := ∃ b o xs n f, v = .ref b ∧ h.get? b = some o ∧ o.cls = .type "tuple" ∧ o.data = .seq xs n ∧ tupItems shape 0 xs.toList = some l ∧ xs[0]? = some f ∧
  (shape 0 = false → ∃ k t, f = Value.int k t) ∧ (shape 0 = true → ∃ x t, f = Value.str x t)
theorem KTup.keeps {h h' : Heap} {shape : Nat → Bool} {v : Value} {l : List Itm} (p : KTup h shape v l) (k : ∀ b o, h.get? b = some o → o.cls = .type "tuple" → h'.get? b = some o) : KTup h' shape v l := by
  obtain ⟨b, o, xs, n, f, e, ho, hc, r⟩ := p
  exact ⟨b, o, xs, n, f, e, k _ _ ho hc, hc, r⟩
theorem KTup.key {h : Heap} {shape : Nat → Bool} {v : Value} {l : List Itm} (p : KTup h shape v l) : tupKey h shape v = some l := by
  obtain ⟨b, o, xs, n, f, rfl, ho, hc, hd, hi, _⟩ := p
  unfold tupKey
  simp only [ho, hd, hi]
theorem swo_ky (k : Value → List Itm) : Swo fun v u => kyB (k v) (k u) := by
  refine ⟨fun x y h => ?_, fun x y z h1 h2 => ?_⟩
  · cases c : kyB (k y) (k x) with
    | false => rfl
    | true =>
      have := (listOrd itemOrd).trans _ _ _ h c
      rw [(listOrd itemOrd).irrefl] at this; cases this
  · show kyB (k z) (k x) = false
    have h1 : kyB (k y) (k x) = false := h1
    have h2 : kyB (k z) (k y) = false := h2
    unfold kyB at h1 h2 ⊢
    cases c : (listOrd itemOrd).blt (k z) (k x) with
    | false => rfl
    | true =>
      rcases (listOrd itemOrd).negTrans _ (k y) _ c with e | e
      · rw [e] at h2; cases h2
      · rw [e] at h1; cases h1
section
variable {prog : Program} {w : World} {A : Around} {s : Shared} {E : Value → Shared → Prop}
theorem kt_tups {h : Heap} {shape : Nat → Bool} {k : Value → List Itm} : ∀ {vs : List Value}, (∀ v ∈ vs, KTup h shape v (k v)) → ∃ fs, TupsOf h shape vs fs ∧ fs.length = vs.length
  | [], _ => ⟨[], .nil, rfl⟩
  | v :: vs, hp => by
    obtain ⟨fs, h1, h2⟩ := kt_tups (vs := vs) fun v' hm => hp v' (List.mem_cons_of_mem _ hm)
    obtain ⟨b, o, xs, n, f, e, ho, hc, hd, _, hf, r⟩ := hp v List.mem_cons_self
    exact ⟨f :: fs, .cons ⟨b, o, xs, n, e, ho, hc, hd, hf, r⟩ h1, by rw [List.length_cons, List.length_cons, h2]⟩
theorem kt_sortable {a : Addr} {vs : List Value} {shape : Nat → Bool} {k : Value → List Itm} (h0 : 0 < vs.length) (hp : ∀ v ∈ vs, KTup s.heap shape v (k v)) (ha : ∀ o, s.heap.get? a = some o → o.cls ≠ .type "tuple") : SortableO prog w A s a vs (fun v u => kyB (k v) (k u)) := by
  intro h' keep
  have hp' : ∀ v ∈ vs, KTup h' shape v (k v) := fun v hm => (hp v hm).keeps fun b o e c => keep b o (fun z => by subst z; exact ha o e c) e
  obtain ⟨fs, h1, h2⟩ := kt_tups hp'
  refine ⟨tuples' true, fun Q E hq => tup_kind (s := { s with heap := h' }) (by omega) h1 hq, fun p q hm hm' => ?_⟩
  exact tup_ltAt (s := { s with heap := h' }) true _ _ _ _ (k p.1) (k q.1) (hp' _ hm).key (hp' _ hm').key ⟨rfl, rfl⟩
end
end SrtO
namespace Y
open PySem PySem.Spec PyProof.Rows L2 SrtO
def itm : Key → Itm
  | .inl i => .inl i
  | .inr z => .inr z.cps.toList
def kyL (a b : List Key) : Bool := kyB (a.map itm) (b.map itm)
theorem itm_inj {a b : Key} (h : itm a = itm b) : a = b := by
  cases a <;> cases b
  · injection h with h; rw [h]
  · cases h
  · cases h
  · rename_i x y
    injection h with h
    congr 1
    cases x; cases y
    congr 1
    exact Array.toList_inj.mp h
theorem itms_inj : ∀ {a b : List Key}, a.map itm = b.map itm → a = b
  | [], [], _ => rfl
  | [], _ :: _, h => by cases h
  | _ :: _, [], h => by cases h
  | x :: a, y :: b, h => by
    rw [List.map_cons, List.map_cons] at h
    injection h with h1 h2
    rw [itm_inj h1, itms_inj h2]
theorem kyL_anti {a b : List Key} (h : kyL a b = false) (g : kyL b a = false) : a = b := itms_inj ((listOrd itemOrd).total _ _ h g)
theorem kyL_same {x : Key} {a b : List Key} : kyL (x :: a) (x :: b) = kyL a b := lex_self (O := itemOrd) _ _ _
/-- the kind of each part -/
def okSh (sh : Nat → Bool) : Nat → List Key → Prop
  | _, [] => True
  | i, .inl _ :: r => sh i = false ∧ okSh sh (i + 1) r
  | i, .inr _ :: r => sh i = true ∧ okSh sh (i + 1) r
theorem sh_items {sh : Nat → Bool} : ∀ {i : Nat} {k : List Key} {vs : List Value}, okSh sh i k → Vals (k.map kV) vs → tupItems sh i vs = some (k.map itm)
  | _, [], _, _, .nil => rfl
  | i, .inl n :: r, _, h, .cons a t => by
    obtain ⟨tk, rfl⟩ := a
    obtain ⟨h1, h2⟩ := h
    show (if sh i = true then none else (tupItems sh (i + 1) _).map (Sum.inl n :: ·)) = _
    rw [h1, if_neg Bool.false_ne_true, sh_items h2 t]; rfl
  | i, .inr z :: r, _, h, .cons a t => by
    obtain ⟨tk, rfl⟩ := a
    obtain ⟨h1, h2⟩ := h
    show (if sh i = true then (tupItems sh (i + 1) _).map (Sum.inr z.cps.toList :: ·) else none) = _
    rw [h1, if_pos rfl, sh_items h2 t]; rfl
theorem sh_first {sh : Nat → Bool} : ∀ {k : List Key} {vs : List Value}, k ≠ [] → okSh sh 0 k → Vals (k.map kV) vs → ∃ f, vs[0]? = some f ∧ (sh 0 = false → ∃ n t, f = Value.int n t) ∧ (sh 0 = true → ∃ x t, f = Value.str x t)
  | [], _, n, _, _ => absurd rfl n
  | .inl n :: r, _, _, h, .cons a t => by
    obtain ⟨tk, rfl⟩ := a
    exact ⟨_, rfl, fun _ => ⟨n, tk, rfl⟩, fun z => by rw [h.1] at z; cases z⟩
  | .inr z :: r, _, _, h, .cons a t => by
    obtain ⟨tk, rfl⟩ := a
    exact ⟨_, rfl, fun q => (by rw [h.1] at q; cases q), fun _ => ⟨z, tk, rfl⟩⟩
def rSortedKT : List V → Hp → VK → Prop := fun vs H Q => ∃ (d : Addr) (kvs : List (List Key × V)) (sh : Nat → Bool), vs = [V.ref d] ∧ Rd H d (.dT kvs) ∧ (∀ p ∈ kvs, p.1 ≠ [] ∧ okSh sh 0 p.1) ∧
  ∀ (qs : List (List Key × Addr)) (p : Addr), (qs.map (·.1)).Perm (kvs.map (·.1)) → qs.Pairwise (fun x y => kyL y.1 x.1 = false) → (∀ q ∈ qs, H q.2 = some (.tup (q.1.map kV))) → H p = none → Q (.ref p) (upd H p (.lst (qs.map fun q => V.ref q.2)))
abbrev KEn := List Key × Addr × Value
def kfV (ks : List KEn) : Value → List Itm
  | .ref b => ((ks.find? fun x => decide (x.2.1 = b)).map fun x => x.1.map itm).getD []
  | _ => []
theorem kVm_inj : ∀ {a b : List Key}, a.map kV = b.map kV → a = b
  | [], [], _ => rfl
  | [], _ :: _, h => by cases h
  | _ :: _, [], h => by cases h
  | x :: a, y :: b, h => by
    rw [List.map_cons, List.map_cons] at h
    injection h with h1 h2
    rw [kV_inj h1, kVm_inj h2]
theorem pair_mem {H : Hp} : ∀ {kvs : List (List Key × V)} {ks : List KEn}, KT H kvs ks → kvs.map (·.1) = ks.map (·.1) ∧ ∀ x ∈ ks, H x.2.1 = some (.tup (x.1.map kV)) ∧ x.1 ∈ kvs.map (·.1)
  | _, _, .nil => ⟨rfl, fun _ h => by cases h⟩
  | _, _, .cons (a := p) (b := q) h t => by
    obtain ⟨e1, e2⟩ := pair_mem t
    obtain ⟨h1, h2, _⟩ := h
    refine ⟨by rw [List.map_cons, List.map_cons, e1, h1], fun x hx => ?_⟩
    rcases List.mem_cons.mp hx with rfl | hx
    · exact ⟨h1 ▸ h2, by rw [List.map_cons, h1]; exact List.mem_cons_self⟩
    · exact ⟨(e2 x hx).1, List.mem_cons_of_mem _ (e2 x hx).2⟩
theorem kfV_at {H : Hp} {ks : List KEn} (h : ∀ x ∈ ks, H x.2.1 = some (.tup (x.1.map kV))) {x : KEn} (hx : x ∈ ks) : kfV ks (.ref x.2.1) = x.1.map itm := by
  rw [show kfV ks (.ref x.2.1) = ((ks.find? fun y => decide (y.2.1 = x.2.1)).map fun y => y.1.map itm).getD [] from rfl]
  cases e : ks.find? (fun y => decide (y.2.1 = x.2.1)) with
  | none => exact absurd (List.find?_eq_none.mp e x hx) (by simp)
  | some y =>
    have h1 := List.find?_some e
    rw [decide_eq_true_eq] at h1
    have h2 := h y (List.mem_of_find?_eq_some e)
    rw [h1, h x hx] at h2
    have h3 : x.1.map kV = y.1.map kV := by injection h2 with h2; injection h2
    rw [kVm_inj h3]; rfl
section
variable {X : Cx}
theorem cr_sortedKT (hc : X.calm = true) : CallR X (.builtin "sorted") rSortedKT := by
  intro pins s σ H xs us Q I r h
  obtain ⟨d, kvs, sh, rfl, hd, hsh, q⟩ := h
  obtain ⟨u, rfl, rx⟩ := r.one
  cases rx
  obtain ⟨z, hs, ks, pr, o, es, ep, ho, hx, hdt, he, _⟩ := show ObjOk X.prog X.w H s.heap d (.dT kvs) from hd.ok I.hok
  have n1 : es.size = ks.length := size_of_entries he
  have n2 : kvs.length = ks.length := Paired.length pr
  obtain ⟨p1, p2⟩ := pair_mem pr
  refine Calls.call_function_entry kind_sorted plain_sorted entry_sorted (args_sorted1 _) ?_
  unfold Builtin.«sorted»
  refine wpAny_bind (m := checkCount "sorted" 1 1 _) (wpAny_pure ?_)
  refine wpAny_bind (PySem.W.kdu_collect (A := X.A.in1) (kdl_raw hs hx hdt) (I.ok.hd hc) ho (by omega) fun h' tk acc kp it => ?_)
  have ea : acc.toList = ks.map fun x => Value.ref x.2.1 := by
    refine List.ext_getElem? fun j => ?_
    rw [List.getElem?_map]
    cases hj : acc.toList[j]? with
    | none =>
      have := List.getElem?_eq_none_iff.mp hj
      rw [Array.length_toList, it.1] at this
      rw [List.getElem?_eq_none (by omega)]; rfl
    | some v =>
      obtain ⟨en, hen, rfl⟩ := it.2 j v (by rw [← Array.getElem?_toList]; exact hj)
      have qe := entry_at he j
      rw [hen] at qe
      cases hb : ks[j]? with
      | none => rw [hb] at qe; cases qe
      | some b => rw [hb] at qe; rw [Option.some.inj qe]; rfl
  have hz : acc.toList.length ≤ sizeLine := by rw [ea, List.length_map]; omega
  have I1 : Inv X pins σ H { s with heap := h', toks := tk } := I.kept kp
  have htup : ∀ v ∈ acc.toList, KTup h' sh v (kfV ks v) := fun v hv => by
    rw [ea] at hv
    obtain ⟨x, hx, rfl⟩ := List.mem_map.mp hv
    obtain ⟨g1, g2⟩ := p2 x hx
    obtain ⟨y, hy, ey⟩ := List.mem_map.mp g2
    obtain ⟨nn, ok⟩ := hsh y hy
    rw [ey] at nn ok
    obtain ⟨its, rv, ⟨ob, hob, hcl, n, hdat⟩, _⟩ := I1.tuple (.inl (.inl g1))
    obtain ⟨f, f1, f2, f3⟩ := sh_first nn ok rv
    rw [kfV_at (fun x hx => (p2 x hx).1) hx]
    exact ⟨x.2.1, ob, its.toArray, n, f, rfl, hob, hcl, hdat, sh_items ok rv, by simpa using f1, f2, f3⟩
  refine wpAny_bind (wpAny_newList ?_ hz)
  have at0 : (h'.push (seqObj "list" acc.toList.toArray 0)).get? h'.objs.size = some (seqObj "list" acc.toList.toArray 0) := Heap.get?_push_size _ rfl
  have ht2 : ∀ v ∈ acc.toList, KTup (h'.push (seqObj "list" acc.toList.toArray 0)) sh v (kfV ks v) := fun v hv => (htup v hv).keeps fun b u e _ => Heap.get?_push_of_some _ e
  have noT : ∀ u, (h'.push (seqObj "list" acc.toList.toArray 0)).get? h'.objs.size = some u → u.cls ≠ .type "tuple" := fun u e c => by
    rw [at0] at e; cases e
    exact absurd (Value.type.inj c) (by decide)
  show wpAny _ _ _ _ _ { s with heap := h'.push (seqObj "list" acc.toList.toArray 0), toks := tk }
  refine wpAny_bind (wpAny_holding (wpAny_call_entry slot_list_sort ⟨_, at0, rfl⟩ entry_list_sort (list_sort_ord (s := { s with heap := h'.push (seqObj "list" acc.toList.toArray 0), toks := tk }) (swo_ky (kfV ks)) at0 hz
    (fun h2 => kt_sortable (by omega) ht2 noT) fun out g1 g2 => ⟨_, rfl, ?_⟩) (args_list_sort _)))
  obtain ⟨ep2, at2⟩ := sortedHeap_at (vs := acc.toList) (out := out.toArray) at0
  have pm : out.Perm (ks.map fun x => Value.ref x.2.1) := by rw [← ea]; exact g2.perm
  obtain ⟨ks', pk, rfl⟩ := permI (f := fun x : KEn => Value.ref x.2.1) pm ks rfl
  have mem' : ∀ x ∈ ks', x ∈ ks := fun x hx => pk.mem_iff.mp hx
  have hl' : (((ks'.map fun x => (x.1, x.2.1)).map fun q => V.ref q.2)).length ≤ sizeLine := by rw [List.length_map, List.length_map, pk.length_eq]; omega
  have rv : Vals ((ks'.map fun x => (x.1, x.2.1)).map fun q => V.ref q.2) (ks'.map fun x => Value.ref x.2.1) := by
    have := vals_refs (ks'.map fun x => x.2.1)
    rw [List.map_map, List.map_map] at this
    rw [List.map_map]; exact this
  refine wpAny_pure ⟨_, rfl, .ref h'.objs.size, upd H h'.objs.size (.lst ((ks'.map fun x => (x.1, x.2.1)).map fun q => V.ref q.2)), I1.laid (t' := tk) (fun b u e => ?_) (Nat.le_refl _) ⟨hl', _, ep2, rv, at2⟩, rfl, q _ _ ?_ ?_ ?_ (I1.hok.fresh (Nat.le_refl _))⟩
  · have lt := Heap.lt_size e
    rw [sortedHeap_old (Nat.ne_of_lt lt) (by rw [size_push']; exact Nat.lt_succ_of_lt lt)]
    exact Heap.get?_push_of_some _ e
  · rw [p1, List.map_map]; exact pk.map _
  · rw [List.pairwise_map]
    have g1 : (ks'.map fun x => Value.ref x.2.1).Pairwise fun v u => kyB (kfV ks u) (kfV ks v) = false := g1
    rw [List.pairwise_map] at g1
    refine List.Pairwise.imp_of_mem (fun {x y} hx hy h => ?_) g1
    rw [kfV_at (fun x hx => (p2 x hx).1) (mem' x hx), kfV_at (fun x hx => (p2 x hx).1) (mem' y hy)] at h
    exact h
  · intro w hw
    obtain ⟨x, hx, rfl⟩ := List.mem_map.mp hw
    exact (p2 x (mem' x hx)).1
end
def srtYM (m : Nw2) (ds : List D) (S : Hq) (Q : Qv) : Prop := match ds with
  | [.ref a] => ∃ (kvs : List (List Key × D)) (sh : Nat → Bool), GtT S a kvs ∧ (∀ p ∈ kvs, p.1 ≠ [] ∧ okSh sh 0 p.1) ∧ ∀ ks : List (List Key), ks.Perm (kvs.map (·.1)) → ks.Pairwise (fun x y => kyL y x = false) → m (ks.map tD) S Q
  | _ => False
section
variable {X : Cx} {K : PySem.W.Frag} {S : Hq} {H : Hp}
theorem keys_dv : ∀ {qs : List (List Key × Addr)}, (∀ q ∈ qs, H q.2 = some (.tup (q.1.map kV))) → DVs K H ((qs.map (·.1)).map tD) (qs.map fun q => V.ref q.2)
  | [], _ => .nil
  | q :: qs, h => .cons (.tDm (h q List.mem_cons_self)) (keys_dv fun x hx => h x (List.mem_cons_of_mem _ hx))
theorem lc_srtYT : LiftC K (srtYM nwT) rSortedKT := by
  intro ds S H Q' Q vs rh dv h q
  rcases ds with _ | ⟨x, _ | ⟨y, r⟩⟩
  · exact h.elim
  · cases dv with | @cons _ v _ _ dx t =>
    cases t
    cases x <;> try exact h.elim
    cases dx
    obtain ⟨kvs, sh, g, hs, h⟩ := h
    obtain ⟨ys, rd, r⟩ := rh.gtT g
    have hk : ∀ k ∈ ys.map (·.1), k ≠ [] ∧ okSh sh 0 k := fun k hk => by
      rw [← r.keys] at hk
      obtain ⟨p, hp, rfl⟩ := List.mem_map.mp hk
      exact hs p hp
    exact ⟨_, ys, sh, rfl, rd, fun p hp => hk _ (List.mem_map_of_mem hp), fun qs p h1 h2 h3 hn => q.newL rh hn (keys_dv h3) (h (qs.map (·.1)) (by rw [r.keys]; exact h1) (List.pairwise_map.mpr h2) p (rh.fresh hn))⟩
  · cases x <;> exact h.elim
theorem cr_srtYT (hc : X.calm = true) : CallR X (.builtin "sorted") rSortedKT := cr_sortedKT hc
theorem cr_srtYF (hc : X.calm = true) : CallR X (.builtin "sorted") (fun xs H Q => rSortedKT xs H (fzV Q)) := callr_fz (cr_sortedKT hc)
theorem lc_srtYF : LiftC K (srtYM nwF) (fun xs H Q => rSortedKT xs H (fzV Q)) := liftc_fz lc_srtYT fun ds S Q h => by
  rcases ds with _ | ⟨x, _ | ⟨y, r⟩⟩
  · exact h.elim
  · cases x <;> try exact h.elim
    obtain ⟨kvs, sh, g, hs, h⟩ := h
    exact ⟨kvs, sh, g, hs, fun ks hp hs => nw_fz (h ks hp hs)⟩
  · cases x <;> exact h.elim
theorem k_srtY {m : Nw2} {a : Addr} {Q : Qv} : srtYM m [.ref a] S Q = (∃ (kvs : List (List Key × D)) (sh : Nat → Bool), GtT S a kvs ∧ (∀ p ∈ kvs, p.1 ≠ [] ∧ okSh sh 0 p.1) ∧ ∀ ks : List (List Key), ks.Perm (kvs.map (·.1)) → ks.Pairwise (fun x y => kyL y x = false) → m (ks.map tD) S Q) := rfl
end
end Y
set_option maxHeartbeats 2000000
set_option pp.maxSteps 200
namespace Y
open PySem PySem.Spec PyProof.Rows L2
/-! ### comprehensions of dicts of either kind of keys -/
section
variable {X : Cx}
theorem dput_run {pins : List (Addr × Obj)} {σ : L2.St} {H H' : Hp} {s : Shared} {E : Value → Shared → Prop} {a : Addr} {y v : V} {u r : Value} {Q : Unit → Shared → Prop} (hu : X.A.units < cLine) (I : Inv X pins σ H s) (g : DPut H a y v H') (ry : RelV y u) (rv : RelV v r)
    (h : ∀ s', Inv X pins σ H' s' → Q () s') : wpAny (model X.prog X.w) X.A (dictSet a u r) Q E s := by
  rcases g with ⟨kvs, k, e, rfl, l, rfl⟩ | ⟨kvs, k, b, e, rfl, eb, l, rfl⟩
  · exact d_dictSet I e l ry rv h
  · cases (show u = Value.ref b from ry)
    obtain ⟨z, hd, xs, rel, dd⟩ := dt_of I.hok e
    have n1 : xs.length ≤ sizeLine := (by rw [← Paired.length rel]; exact z)
    have n2 : (putK kvs k v).length ≤ sizeLine := by have := length_putK kvs k v; omega
    refine wpAny_dictSet_heap (hsz := n1) (show (tupleKind (mixKind X.prog X.w)).room X.A from hu) (key_of I.hok eb) dd fun hp ⟨q, es, ep, hq, c2, c3, c4, _, c5⟩ sb => h _ ?_
    refine d_write I (by rw [e]; exact True.intro) sb ⟨q, hq⟩ ⟨n2, hd, _, (rel.put k eb rv).keeps fun c ys ec => ?_, q, es, ep, hq, c2, c3, c4, c5⟩
    exact (upd_ne (ne_of ec e (fun z => nomatch z))).trans ec
/-- what the comprehension does; O0: the new dict, empty -/
def tDx (O0 : HO) (wi : TI) (g : TG) (tt : TT) (tk tv : TE) (vs : List Nat) : TE := fun σ H Q => wi σ H fun J H1 => ∀ D, H1 D = none → ∃ W : Nat → Nat → Hp → Prop, (∃ m, W 0 m (upd H1 D O0)) ∧ ∀ i m H, W i m H →
  (J.stop i H ∧ Q (.ref D) H) ∨ (J.go i H ∧ ∃ Nx : Hp → Prop, (∀ G, Nx G → ∃ m', m' < m ∧ W (i + 1) m' G) ∧ ∀ x G, J.yld i H x G → g x (wipe σ vs) G fun σ2 G2 => wipe σ2 vs = wipe σ vs ∧
    tt σ2 G2 fun b G3 => if b = true then tk σ2 G3 fun y G4 => tv σ2 G4 fun z G5 => ∃ G6, DPut G5 D y z G6 ∧ Nx G6 else Nx G3)
theorem pe_dx {O0 : HO} (hO : O0 = .dK [] ∨ O0 = .dT []) {kx vx tg it : Expr} {ifs : List Expr} {scope : Scope} {own : List (Str × Nat)} {pos : Pos} {wi : TI} {g : TG} {tt : TT} {tk tv : TE} (hu : X.A.units < cLine) (hc : X.calm = true) (hN : X.N.Nodup) (hi : PI X tg it wi) (ok : BlkOk X.N X.env.scope scope own)
    (hg : ∀ (s : Shared) (H : Hp) (C : Addr) (cl : List (Str × Addr)) (fp : List Addr), PG (X.blk s H scope (compEnvC scope cl C X.env) fp) tg g)
    (ht : ∀ (s : Shared) (H : Hp) (C : Addr) (cl : List (Str × Addr)) (fp : List Addr), PTs (X.blk s H scope (compEnvC scope cl C X.env) fp) ifs tt)
    (hk : ∀ (s : Shared) (H : Hp) (C : Addr) (cl : List (Str × Addr)) (fp : List Addr), PE (X.blk s H scope (compEnvC scope cl C X.env) fp) kx tk)
    (he : ∀ (s : Shared) (H : Hp) (C : Addr) (cl : List (Str × Addr)) (fp : List Addr), PE (X.blk s H scope (compEnvC scope cl C X.env) fp) vx tv)
    (hs : ∀ x, foldedSetIterable it X.env x = pure x := by intro _; rfl) :
    PE X (.DictComp kx vx [⟨tg, it, ifs, 0⟩] scope pos) (tDx O0 wi g tt tk tv (own.map (·.2))) := by
  refine ⟨fun pins s σ H Q I h => ?_⟩
  rw [arm_eval_DictComp]
  have free : ∀ y ∈ scope.names, y.2 = .free → ∃ c, X.env.cells.lookup y.1 = some c := fun y hy e => I.ok.has _ ((ok.free y hy e).imp id id)
  refine wpAny_comprehension_free rfl hs (closure_ok free) ok.kind (fun y hy e => by rw [ok.uniq y hy, e]) (thn (hi.run pins s σ H _ I h) fun xv u1 hx => thn hx fun itv u2 h2 => ?_)
  obtain ⟨ia, fp, tn, J, G2, rfl, I2, T, st2, f2, q⟩ := h2
  obtain ⟨D, hD⟩ : ∃ D, D = u2.heap.objs.size := ⟨_, rfl⟩
  have nD : G2 D = none := I2.hok.fresh (by rw [hD]; exact Nat.le_refl _)
  obtain ⟨W, ⟨m0, w0⟩, turn⟩ := q D nD
  have I3 : Inv X pins σ (upd G2 D O0) { u2 with heap := u2.heap.push { cls := .type "dict", data := .dict #[] } } := by
    refine I2.laid (t' := u2.toks) (fun b o e => Heap.get?_push_of_some _ e) (by rw [hD]; exact Nat.le_refl _) ?_
    rcases hO with rfl | rfl
    · rw [hD]; exact dk_empty u2.heap I2.big
    · rw [hD]; exact dt_empty u2.heap I2.big
  refine wpAny_newObj_type (newEnv_comp ?_)
  rw [← hD]
  obtain ⟨u3, hu3⟩ : ∃ u3 : Shared, u3 = { u2 with heap := u2.heap.push { cls := .type "dict", data := .dict #[] } } := ⟨_, rfl⟩
  rw [← hu3] at I3
  have hp3 : u3.heap = u2.heap.push { cls := .type "dict", data := .dict #[] } := by rw [hu3]
  obtain ⟨G3, hG3⟩ : ∃ G3, G3 = upd G2 D O0 := ⟨_, rfl⟩
  rw [← hG3] at I3 w0
  have small : ∀ b ∈ fp, b < u2.heap.objs.size := fun b hb => let ⟨o, e, _⟩ := T.obj _ _ st2 b hb; Heap.lt_size e
  have f3 : ∀ b ∈ fp, FpOk X pins G3 b ∧ b < u3.heap.objs.size := fun b hb => by
    have lt := small b hb
    refine ⟨⟨?_, (f2 b hb).2⟩, ?_⟩
    · rw [hG3, upd_ne (by rw [hD]; exact Nat.ne_of_lt lt)]; exact (f2 b hb).1
    · rw [hp3, Heap.size_push]; exact Nat.lt_succ_of_lt lt
  have st3 : tn 0 u3.heap := T.keep _ _ _ st2 fun b _ o e => by rw [hp3]; exact Heap.get?_push_of_some _ e
  have I4 := block_start I3 ok hN f3
  obtain ⟨ce, hce⟩ : ∃ ce, ce = compEnvC scope (cellsFrom (u3.heap.objs.size + 1) scope.names (cloFrom X.env.cells scope.names [])) u3.heap.objs.size X.env := ⟨_, rfl⟩
  have pg := hg u3 G3 u3.heap.objs.size (cellsFrom (u3.heap.objs.size + 1) scope.names (cloFrom X.env.cells scope.names [])) fp
  have pt := ht u3 G3 u3.heap.objs.size (cellsFrom (u3.heap.objs.size + 1) scope.names (cloFrom X.env.cells scope.names [])) fp
  have pk := hk u3 G3 u3.heap.objs.size (cellsFrom (u3.heap.objs.size + 1) scope.names (cloFrom X.env.cells scope.names [])) fp
  have pv := he u3 G3 u3.heap.objs.size (cellsFrom (u3.heap.objs.size + 1) scope.names (cloFrom X.env.cells scope.names [])) fp
  rw [← hce] at I4 pg pt pk pv
  have cL : ce.locals = u3.heap.objs.size := by rw [hce]; rfl
  obtain ⟨u4, hu4⟩ : ∃ u4 : Shared, u4 = { u3 with heap := pushCells (u3.heap.push { cls := .type "dict", data := .dict #[] }) scope.names } := ⟨_, rfl⟩
  rw [← hu4] at I4
  have st4 : tn 0 u4.heap := T.keep _ _ _ st3 fun b _ o e => by rw [hu4]; exact pushCells_keeps _ _ _ _ (Heap.get?_push_of_some _ e)
  have nfp : ∀ b ∈ fp, G3 b = none := fun b hb => (f3 b hb).1.1
  have apart : ∀ {τ : L2.St} {G : Hp} {u : Shared}, Inv (X.blk u3 G3 scope ce fp) [] τ G u → (∀ b ∈ fp, G b = none) → ∀ b ∈ fp, FpOk (X.blk u3 G3 scope ce fp) [] G b := fun J n b hb =>
    ⟨n b hb, (J.ok.exf b hb).1, J.ok.exfs b hb, .inl hb, fun y c e => (J.ok.exf b hb).2 y c e, fun p hp => absurd (show p ∈ ([] : List (Addr × Obj)) ++ [] from hp) (by simp)⟩
  have loop : ∀ R : Result → Shared → Prop, (∀ u' m G, Inv X pins σ G u' → Q (.ref D) G → u'.heap.Ns u3.heap.objs.size m → FpOk X pins G u3.heap.objs.size → R (.ok .next) u') →
      codeAny (model X.prog X.w) X.A (.compLoop (.DictComp kx vx [⟨tg, it, ifs, 0⟩] scope pos) 0 (.ref ia) (.ref D) ce) R u4 := by
    intro R done
    refine compLoop_anyD (fun n u => ∃ i G, Inv (X.blk u3 G3 scope ce fp) [] (wipe σ (own.map (·.2))) G u ∧ tn i u.heap ∧ (∀ b ∈ fp, G b = none) ∧ W i n G) ?_ m0 ⟨0, G3, I4, st4, nfp, w0⟩
    rintro n u5 ⟨i, G5, I5, st5, n5, w5⟩
    rcases turn i n G5 w5 with ⟨stop, qq⟩ | ⟨go, Nx, hNx, step⟩
    · refine thnF (T.done (X.blk u3 G3 scope ce fp) rfl rfl rfl hc i [] u5 _ G5 (fun _ _ => False) I5 (apart I5 n5) st5 stop) fun r u6 ⟨hr, I6⟩ => ?_
      cases hr
      have back : Inv X pins σ G5 u6 := I3.call' (ch := fp) I6.os I6.base I6.hok I6.bare fun b hb => let ⟨⟨_, a1, a2, a3, a4, a5⟩, _⟩ := f3 b hb; ⟨a3, a1, a4, a5⟩
      have none3 : G5 u3.heap.objs.size = none := cL ▸ (show G5 ce.locals = none from I6.free)
      obtain ⟨m, hn, _⟩ := I6.loc
      exact done u6 m G5 back qq (cL ▸ (show u6.heap.Ns ce.locals m from hn)) (I3.fpOk (Nat.le_refl _) none3)
    · refine thnF (T.item (X.blk u3 G3 scope ce fp) rfl rfl rfl hc i [] u5 _ G5 (fun _ _ => False) I5 (apart I5 n5) st5 go) fun r u6 ⟨v, hr, h6⟩ => ?_
      cases hr
      refine thnF h6 fun _ u7 ⟨x, G7, I7, r7, y7, st7, n7⟩ => ?_
      refine thnF (pg.run _ u7 _ G7 x v _ (I7.pinned (apart I7 n7) (T.obj _ _ st7)) r7 (step x G7 y7)) fun _ u8 ⟨σ8, G8, I8, hw8, q8⟩ => ?_
      refine thnF (pt.run _ u8 σ8 G8 _ I8 q8) fun b u9 ⟨G9, I9, q9⟩ => ?_
      have turnEnd : ∀ {u : Shared} {G : Hp}, Inv (X.blk u3 G3 scope ce fp) ([] ++ pinsAt fp u7.heap) σ8 G u → Nx G → ∃ m, m < n ∧ ∃ i G, Inv (X.blk u3 G3 scope ce fp) [] (wipe σ (own.map (·.2))) G u ∧ tn i u.heap ∧ (∀ b ∈ fp, G b = none) ∧ W i m G := by
        intro u G J nx
        obtain ⟨m', lt, w'⟩ := hNx G nx
        have at7 : ∀ b ∈ fp, ∀ o, u7.heap.get? b = some o → u.heap.get? b = some o ∧ G b = none := fun b hb o e => by
          obtain ⟨z1, z2, _⟩ := J.pin (b, o) (List.mem_append_right _ (List.mem_append_right _ (mem_pinsAt hb e)))
          exact ⟨z1, z2⟩
        refine ⟨m', lt, i + 1, G, (J.unpinned (pins := [])).weak (by rw [← hw8, wipe_length]) (fun j y e => (wipe_some (hw8 ▸ e)).1), T.keep _ _ _ st7 fun b hb o e => (at7 b hb o e).1, fun b hb => ?_, w'⟩
        obtain ⟨o, e, _⟩ := T.obj _ _ st7 b hb
        exact (at7 b hb o e).2
      cases b with
      | false => exact turnEnd I9 (by simpa using q9)
      | true =>
        simp only [if_true] at q9 ⊢
        refine thnF (pk.run _ u9 σ8 G9 _ I9 q9) fun y' u10 ⟨yk, G10, I10, r10, q10⟩ => ?_
        refine thnF (pv.run _ u10 σ8 G10 _ I10 q10) fun z' u11 ⟨yv, G11, I11, r11, G12, put, nx⟩ => ?_
        exact dput_run (X := X.blk u3 G3 scope ce fp) hu I11 put r10 r11 fun u12 I12 => turnEnd I12 nx
  cases hce; cases hu4; cases hu3
  have fin := loop _ (fun u' m G J qq hn f => show compPost (model X.prog X.w) X.A X.xe none (EP X pins σ Q) (.ref D) _ (.ok .next) u' from ⟨m, hn, fun h' sb => by
    obtain ⟨f0, f1, f2, f3, f4, f5⟩ := f
    exact ⟨.ref D, G, J.turned (t' := u'.toks) (fun b o hb e => (sb.2 b hb).trans e) f0 f1 f3 f4 f5, rfl, qq⟩⟩)
  exact codeAny_compStart_dict fin (T.self X.A 0 _ _ _ st4 fin)
end
/-! ### .. their keys tuples -/
def dcPT (gd : Hq → Prop) (g : RG) (tt : RT) (tk tv : RE) (vs : List Nat) (σ : Sg) (Q : List (List Key × D) → Hq → Prop) : List D → List (List Key × D) → Hq → Prop
  | [], acc, S => gd S ∧ Q acc S
  | x :: r, acc, S => gd S ∧ g x (wipeD σ vs) S (fun σ2 S2 => tt σ2 S2 (fun b S3 => if b = true then tk σ2 S3 (fun y S4 => tv σ2 S4 (fun z S5 => ∃ k, tkeyD y = some k ∧ acc.length < 1000000 ∧ dcPT gd g tt tk tv vs σ Q r (putQ acc k z) S5) NoX) NoX else dcPT gd g tt tk tv vs σ Q r acc S3) NoX) NoX
def rDcT (ri : RI) (g : RG) (tt : RT) (tk tv : RE) (vs : List Nat) : RE := fun σ S Q E => ri σ S (fun xs gd S1 => dcPT gd g tt tk tv vs σ (fun acc S2 => ∀ p, S2 p = none → Q (.ref p) (up S2 p (.dt acc))) xs [] S1) E
theorem dc_runT {K : PySem.W.Frag} {W : WX} {J : It} {gd : Hq → Prop} {T : TG} {g : RG} {tt : RT} {tk tv : RE} {vs : List Nat} {σ : L2.St} {σ' : Sg} {S1 : Hq} {H1 : Hp} {xs : List D} {Q : VK} {Q' : Qv} (kp : Keeps T g vs K)
    (rs : RS K H1 σ' σ) (rh : RH K S1 H1) (ok : ItOk K S1 H1 J xs gd) (q : QI K S1 H1 Q' Q) (h : dcPT gd g tt tk tv vs σ' (fun acc S2 => ∀ p, S2 p = none → Q' (.ref p) (up S2 p (.dt acc))) xs [] S1) :
    ∀ Dd, H1 Dd = none → ∃ W : Nat → Nat → Hp → Prop, (∃ m, W 0 m (upd H1 Dd (.dT []))) ∧ ∀ i m H, W i m H →
      (J.stop i H ∧ Q (.ref Dd) H) ∨ (J.go i H ∧ ∃ Nx : Hp → Prop, (∀ H', Nx H' → ∃ m', m' < m ∧ W (i + 1) m' H') ∧ ∀ x H', J.yld i H x H' → T x (L2.wipe σ vs) H' fun σ2 H2 => L2.wipe σ2 vs = L2.wipe σ vs ∧ dnT K W0 tt σ2 H2 fun b H3 =>
        if b = true then dnE K W0 tk σ2 H3 fun y H4 => dnE K W0 tv σ2 H4 fun z H5 => ∃ H6, DPut H5 Dd y z H6 ∧ Nx H6 else Nx H3) := by
  intro Dd hD
  have fD : Fr S1 H1 S1 (upd H1 Dd (.dT [])) := Fr.new rh hD
  refine ⟨fun i m H => ∃ S acc acc', i + m = xs.length ∧ Fr S1 H1 S H ∧ RH K S H ∧ H Dd = some (.dT acc) ∧ S Dd = none ∧ Dc K H acc' acc ∧ dcPT gd g tt tk tv vs σ' (fun acc S2 => ∀ p, S2 p = none → Q' (.ref p) (up S2 p (.dt acc))) (xs.drop i) acc' S,
    ⟨xs.length, S1, [], [], by omega, fD, rh.new hD, upd_same, rh.fresh hD, .nil, by simpa using h⟩, ?_⟩
  rintro i m H ⟨S, acc, acc', em, f, rh2, eD, nD, da, h⟩
  by_cases hi : i < xs.length
  · obtain ⟨x, hx⟩ : ∃ x, xs[i]? = some x := ⟨_, List.getElem?_eq_getElem hi⟩
    have hd : xs.drop i = x :: xs.drop (i + 1) := by
      rw [List.drop_eq_getElem_cons hi]
      rw [List.getElem?_eq_getElem hi] at hx
      rw [Option.some.inj hx]
    rw [hd] at h
    obtain ⟨g2, h⟩ := h
    refine .inr ⟨ok.go i x S H hx f rh2 g2, fun H => ∃ S acc acc', Fr S1 H1 S H ∧ RH K S H ∧ H Dd = some (.dT acc) ∧ S Dd = none ∧ Dc K H acc' acc ∧ dcPT gd g tt tk tv vs σ' (fun acc S2 => ∀ p, S2 p = none → Q' (.ref p) (up S2 p (.dt acc))) (xs.drop (i + 1)) acc' S,
      fun H ⟨S, acc, acc', a, b, c, d, e, f⟩ => ⟨m - 1, by omega, S, acc, acc', by omega, a, b, c, d, e, f⟩, fun v H3 hy => ?_⟩
    obtain ⟨f3, rh3, dv⟩ := ok.yld i x S H v H3 hx f rh2 g2 hy
    have f03 := f.trans f3
    obtain ⟨eD3, nD3⟩ := f3 Dd _ eD nD
    refine kp.to σ (wipeD σ' vs) H3 S x v _ _ ((rs.mono (f03.tle rh)).wipe vs) rh3 dv h fun σ2' σ2 ew rs2 h2 => ⟨ew, σ2', S, _, NoX, rs2, rh3, h2, fun b S4 H4 f4 rh4 h4 => ?_, XI.no⟩
    have f04 := f03.trans f4
    obtain ⟨eD4, nD4⟩ := f4 Dd _ eD3 nD3
    have da4 := da.mono ((f3.trans f4).tle rh2)
    cases b with
    | false => exact ⟨S4, acc, acc', f04, rh4, eD4, nD4, da4, h4⟩
    | true =>
      refine ⟨σ2', S4, _, NoX, rs2.mono (f4.tle rh3), rh4, h4, fun y S5 u H5 f5 rh5 dy h5 => ?_, XI.no⟩
      obtain ⟨eD5, nD5⟩ := f5 Dd _ eD4 nD4
      have da5 := da4.mono (f5.tle rh4)
      refine ⟨σ2', S5, _, NoX, rs2.mono ((f4.trans f5).tle rh3), rh5, h5, fun z S6 w H6 f6 rh6 dz h6 => ?_, XI.no⟩
      obtain ⟨eD6, nD6⟩ := f6 Dd _ eD5 nD5
      have da6 := da5.mono (f6.tle rh5)
      obtain ⟨k, ek, hl, h6⟩ := h6
      have dy := DV.mono (f6.tle rh5) _ _ dy
      obtain ⟨bk, rfl, hbk⟩ := DV.ofTKey dy ek
      refine ⟨_, DPut.t eD6 hbk (by rw [← da6.length, sizeLine_eq]; omega), S6, L2.putK acc k w, putQ acc' k z, ?_, ?_, upd_same, nD6, ?_, h6⟩
      · intro b o e n
        obtain ⟨e', n'⟩ := ((f04.trans f5).trans f6) b o e n
        have hb : b ≠ Dd := fun z => by rw [z, hD] at e; cases e
        exact ⟨by rw [upd_ne hb]; exact e', n'⟩
      all_goals
        have t : Tle K H6 (upd H6 Dd (.dT (L2.putK acc k w))) := by
          refine ⟨fun a xs hq => ?_, fun a xs hq => ?_, fun a xs hq => by rw [upd_ne (fun z => by rw [z, eD6] at hq; cases hq)]; exact hq⟩
          · rcases hq with (hq | ⟨o, hq⟩) | hq
            · exact .inl (.inl (by rw [upd_ne (fun z => by rw [z, eD6] at hq; cases hq)]; exact hq))
            · exact .inl (.inr ⟨o, by rw [upd_ne (fun z => by rw [z, eD6] at hq; cases hq)]; exact hq⟩)
            · exact .inr hq
          · rcases hq with ⟨o, hq⟩ | hq
            · exact .inl ⟨o, by rw [upd_ne (fun z => by rw [z, eD6] at hq; cases hq)]; exact hq⟩
            · exact .inr hq
      · intro b o e
        have hb : b ≠ Dd := fun z => by rw [z, nD6] at e; cases e
        exact (rh6 b o e).stay t (fun c q e n => ⟨by rw [upd_ne (fun z => by rw [z, eD6] at e; cases e)]; exact e, n⟩) (upd_ne hb)
      · exact (da6.put k dz).mono t
  · have hn : xs.drop i = [] := List.drop_eq_nil_of_le (by omega)
    rw [hn] at h
    have ei : i = xs.length := by omega
    subst ei
    refine .inl ⟨ok.stop S H f rh2 h.1, ?_⟩
    have r2 : RH K (up S Dd (.dt acc')) H := fun b o e => by
      by_cases hb : b = Dd
      · subst hb; rw [up_same] at e; cases e; exact ⟨acc, eD, da⟩
      · rw [up_ne hb] at e
        exact (rh2 b o e).stay Tle.refl (fun c q e n => ⟨e, by rw [up_ne (fun z => by rw [z, eD] at e; cases e)]; exact n⟩) rfl
    refine q (.ref Dd) _ _ _ (fun b o e n => ?_) r2 (.ref Dd) (h.2 Dd nD)
    obtain ⟨e', n'⟩ := f b o e n
    have hb : b ≠ Dd := fun z => by rw [z, hD] at e; cases e
    exact ⟨e', by rw [up_ne hb]; exact n'⟩
section
variable {X : Cx} {W : WX} {pos : Pos}
theorem ev_dcTT {tg kx vx it : Expr} {ifs : List Expr} {scope : Scope} {ri : RI} {G : TG} {g : RG} {tt : RT} {tk tv : RE} {own : List (Str × Nat)} (hu : X.A.units < cLine) (hc : X.calm = true) (hN : X.N.Nodup) (hi : EI X W tg it ri) (ok : BlkOk X.N X.env.scope scope own) (kp : Keeps G g (own.map (·.2)) X.K)
    (hg : ∀ (s : Shared) (H : Hp) (C : Addr) (cl : List (Str × Addr)) (fp : List Addr), PG (X.blk s H scope (compEnvC scope cl C X.env) fp) tg G)
    (ht : ∀ (s : Shared) (H : Hp) (C : Addr) (cl : List (Str × Addr)) (fp : List Addr), EP1 (X.blk s H scope (compEnvC scope cl C X.env) fp) W0 ifs tt)
    (hk : ∀ (s : Shared) (H : Hp) (C : Addr) (cl : List (Str × Addr)) (fp : List Addr), EV (X.blk s H scope (compEnvC scope cl C X.env) fp) W0 kx tk)
    (he : ∀ (s : Shared) (H : Hp) (C : Addr) (cl : List (Str × Addr)) (fp : List Addr), EV (X.blk s H scope (compEnvC scope cl C X.env) fp) W0 vx tv) (hs : ∀ x, foldedSetIterable it X.env x = pure x := by intro _; rfl) :
    EV X W (.DictComp kx vx [⟨tg, it, ifs, 0⟩] scope pos) (rDcT ri g tt tk tv (own.map (·.2))) := by
  obtain ⟨wi, pi, li⟩ := hi.ex
  refine ⟨_, pe_dx (O0 := .dT []) (.inr rfl) (tt := dnT X.K W0 tt) (tk := dnE X.K W0 tk) (tv := dnE X.K W0 tv) hu hc hN pi ok hg (fun s H C cl fp => (ht s H C cl fp).pe) (fun s H C cl fp => (hk s H C cl fp).pe) (fun s H C cl fp => (he s H C cl fp).pe) hs, fun σ σ' H S Q Q' E' rs rh h q xi => ?_⟩
  exact li σ σ' H S _ _ _ rs rh h (fun J xs gd S1 H1 f1 rh1 ok h1 => dc_runT (W := W) kp (rs.mono (f1.tle rh)) rh1 ok (q.go f1) h1) xi
end
end Y
set_option maxHeartbeats 2000000
set_option pp.maxSteps 200
namespace Y
open PySem PySem.Spec PyProof.Rows L2
/-! ### sets of numbers, from two clauses -/
section
variable {prog : Program} {w : World} {A : Around} {R : Result → Shared → Prop} {u : Shared} {k ta ia tb ib : Expr} {fa fb : List Expr} {scope : Scope} {pos : Pos} {it acc : Value} {env : Env}
theorem sc2_turnA : compTurn (.SetComp k [⟨ta, ia, fa, 0⟩, ⟨tb, ib, fb, 0⟩] scope pos) 0 it acc env = (do
      standAt ia.pos
      match ← pyNext it with
      | none => pure (.done .next)
      | some v =>
        letOwnedTupleGo ta it v
        assign ta env v
        let mut good := true
        for c in fa do
          if good then good ← isTrue c env (eval c env)
        if good then
          let y ← eval ib env
          standAt ib.pos
          let y ← foldedSetIterable ib env y
          let _ ← runOwn (.compStart (.SetComp k [⟨ta, ia, fa, 0⟩, ⟨tb, ib, fb, 0⟩] scope pos) 1 (← holding [y] (pyIter y)) acc env) env
        again (.compLoop (.SetComp k [⟨ta, ia, fa, 0⟩, ⟨tb, ib, fb, 0⟩] scope pos) 0 it acc env)) := by rfl
theorem sc2_turnB : compTurn (.SetComp k [⟨ta, ia, fa, 0⟩, ⟨tb, ib, fb, 0⟩] scope pos) 1 it acc env = (do
      standAt ib.pos
      match ← pyNext it with
      | none => pure (.done .next)
      | some v =>
        letOwnedTupleGo tb it v
        assign tb env v
        let mut good := true
        for c in fb do
          if good then good ← isTrue c env (eval c env)
        if good then
          (do let y ← eval k env; standAt k.pos; let _ ← call (.builtin "set.add") [acc, y])
        again (.compLoop (.SetComp k [⟨ta, ia, fa, 0⟩, ⟨tb, ib, fb, 0⟩] scope pos) 1 it acc env)) := by rfl
/-- the first clause's turns -/
theorem sc2_outer (hs : ∀ x, foldedSetIterable ib env x = pure x) (J : Nat → Shared → Prop)
    (turn : ∀ n u, J n u → wpAny (model prog w) A (pyNext it) (fun r u1 => match r with
      | none => R (.ok .next) u1
      | some v => wpAny (model prog w) A (letOwnedTupleGo ta it v) (fun _ u2 => wpAny (model prog w) A (assign ta env v) (fun _ u3 =>
          wpAny (model prog w) A (forIn fa true fun c r => if r = true then do let ok ← isTrue c env (eval c env); pure (ForInStep.yield ok) else pure (ForInStep.yield r)) (fun ok u4 =>
            if ok = true then wpAny (model prog w) A (eval ib env) (fun y u5 => wpAny (model prog w) A (pyIter y) (fun jt u6 =>
              codeAny (model prog w) A (.compStart (.SetComp k [⟨ta, ia, fa, 0⟩, ⟨tb, ib, fb, 0⟩] scope pos) 1 jt acc env) (fun r u' => match r with
                | .ok _ => ∃ m, m < n ∧ J m u'
                | .error _ => False) u6) (notedBy (model prog w) A env fun e u' => R (.error e) u') u5) (notedBy (model prog w) A env fun e u' => R (.error e) u') u4
            else ∃ m, m < n ∧ J m u4) (notedBy (model prog w) A env fun e u' => R (.error e) u') u3) (notedBy (model prog w) A env fun e u' => R (.error e) u') u2) (notedBy (model prog w) A env fun e u' => R (.error e) u') u1) (notedBy (model prog w) A env fun e u' => R (.error e) u') u)
    (n : Nat) (h : J n u) :
    codeAny (model prog w) A (.compLoop (.SetComp k [⟨ta, ia, fa, 0⟩, ⟨tb, ib, fb, 0⟩] scope pos) 0 it acc env) R u := by
  refine codeAny_loop rfl J (fun n u hJ => ?_) n h
  show wpAny _ A ((compTurn (.SetComp k [⟨ta, ia, fa, 0⟩, ⟨tb, ib, fb, 0⟩] scope pos) 0 it acc env).onRaise (fun x => do noteFrame x env; theTreesLotGoes x)) _ _ u
  refine wpAny_noted ?_
  rw [sc2_turnA]
  refine wpAny_bind (wpAny_standAt (wpAny_bind (thn (turn n u hJ) fun r u1 h1 => ?_)))
  rcases r with _ | v
  · exact wpAny_pure h1
  refine wpAny_bind (thn h1 fun _ u2 h2 => wpAny_bind (thn h2 fun _ u3 h3 => wpAny_bind (thn h3 fun ok u4 h4 => ?_)))
  cases ok with
  | false => exact wpAny_pure ⟨rfl, h4⟩
  | true =>
    refine wpAny_bind (thn h4 fun y u5 h5 => wpAny_bind (wpAny_standAt (wpAny_bind (wpAny_of_eq (hs y) (wpAny_bind (wpAny_holding (thn h5 fun jt u6 h6 => ?_)))))))
    refine wpAny_bind (wpAny_runOwn ?_)
    rw [Around.mark_none]
    refine codeAny_mono h6 fun r u' hr => ?_
    cases r with
    | error e => exact False.elim hr
    | ok f =>
      first
        | exact wpAny_pure ⟨rfl, hr⟩
        | exact wpAny_bind (wpAny_pure (wpAny_pure ⟨rfl, hr⟩))
/-- the second's -/
theorem sc2_inner (J : Nat → Shared → Prop)
    (turn : ∀ n u, J n u → wpAny (model prog w) A (pyNext it) (fun r u1 => match r with
      | none => R (.ok .next) u1
      | some v => wpAny (model prog w) A (letOwnedTupleGo tb it v) (fun _ u2 => wpAny (model prog w) A (assign tb env v) (fun _ u3 =>
          wpAny (model prog w) A (forIn fb true fun c r => if r = true then do let ok ← isTrue c env (eval c env); pure (ForInStep.yield ok) else pure (ForInStep.yield r)) (fun ok u4 =>
            if ok = true then wpAny (model prog w) A (eval k env) (fun y u5 =>
              wpAny (model prog w) A (call (.builtin "set.add") [acc, y]) (fun _ u6 => ∃ m, m < n ∧ J m u6) (notedBy (model prog w) A env fun e u' => R (.error e) u') u5) (notedBy (model prog w) A env fun e u' => R (.error e) u') u4
            else ∃ m, m < n ∧ J m u4) (notedBy (model prog w) A env fun e u' => R (.error e) u') u3) (notedBy (model prog w) A env fun e u' => R (.error e) u') u2) (notedBy (model prog w) A env fun e u' => R (.error e) u') u1) (notedBy (model prog w) A env fun e u' => R (.error e) u') u)
    (n : Nat) (h : J n u) :
    codeAny (model prog w) A (.compLoop (.SetComp k [⟨ta, ia, fa, 0⟩, ⟨tb, ib, fb, 0⟩] scope pos) 1 it acc env) R u := by
  refine codeAny_loop rfl J (fun n u hJ => ?_) n h
  show wpAny _ A ((compTurn (.SetComp k [⟨ta, ia, fa, 0⟩, ⟨tb, ib, fb, 0⟩] scope pos) 1 it acc env).onRaise (fun x => do noteFrame x env; theTreesLotGoes x)) _ _ u
  refine wpAny_noted ?_
  rw [sc2_turnB]
  refine wpAny_bind (wpAny_standAt (wpAny_bind (thn (turn n u hJ) fun r u1 h1 => ?_)))
  rcases r with _ | v
  · exact wpAny_pure h1
  refine wpAny_bind (thn h1 fun _ u2 h2 => wpAny_bind (thn h2 fun _ u3 h3 => wpAny_bind (thn h3 fun ok u4 h4 => ?_)))
  cases ok with
  | false => exact wpAny_pure ⟨rfl, h4⟩
  | true => exact wpAny_bind (wpAny_bind (thn h4 fun y u5 h5 => wpAny_bind (wpAny_standAt (wpAny_bind (thn h5 fun _ u6 h6 => wpAny_pure (wpAny_pure ⟨rfl, h6⟩))))))
/-- where the second begins -/
theorem sc2_begin (h0 : codeAny (model prog w) A (.compLoop (.SetComp k [⟨ta, ia, fa, 0⟩, ⟨tb, ib, fb, 0⟩] scope pos) 1 it acc env) R u)
    (h : wpAny (model prog w) A (pyIter it) (fun jt u' => codeAny (model prog w) A (.compLoop (.SetComp k [⟨ta, ia, fa, 0⟩, ⟨tb, ib, fb, 0⟩] scope pos) 1 jt acc env) R u')
      (notedBy (model prog w) A env fun x u' => R (.error x) u') u) :
    codeAny (model prog w) A (.compStart (.SetComp k [⟨ta, ia, fa, 0⟩, ⟨tb, ib, fb, 0⟩] scope pos) 1 it acc env) R u := by
  refine codeAny_of_tree ?_
  show wpAny _ _ ((compStart (.SetComp k [⟨ta, ia, fa, 0⟩, ⟨tb, ib, fb, 0⟩] scope pos) 1 it acc env).onRaise (fun x => do noteFrame x env; standAt theWindowsPlace)) _ _ u
  refine wpAny_notedAt ?_
  unfold compStart
  show wpAny _ _ (ask >>= _) _ _ u
  refine wpAny_bind (wpAny_askSetting (wpAny_ite ?_))
  split
  · first
      | exact wpAny_pure (And.intro rfl h0)
      | exact wpAny_bind (wpAny_pure (wpAny_pure (And.intro rfl h0)))
  · refine wpAny_bind (wpAny_rule ?_)
    first
      | exact wpAny_bind (wpAny_standAt (wpAny_bind (thn h fun jt u' h' => wpAny_pure (And.intro rfl h'))))
      | (show wpAny _ _ (standAt ib.pos >>= _) _ _ u; exact wpAny_bind (wpAny_standAt (wpAny_bind (thn h fun jt u' h' => wpAny_pure (And.intro rfl h')))))
end
section
variable {X : Cx}
/-- a number is put into the set -/
theorem sput_run {pins : List (Addr × Obj)} {σ : L2.St} {H : Hp} {s : Shared} {E : Value → Shared → Prop} {a : Addr} {c : Int} {S : Int → Bool} {n : Nat} {y : V} {u : Value} {Q : Value → Shared → Prop} (I : Inv X pins σ H s) (ha : H a = some (SetO X.w a S n)) (room : n + 1 < scanBound) (ey : y = .int c) (r : RelV y u)
    (h : ∀ s', Inv X pins σ (upd H a (SetO X.w a (fun j => S j || decide (j = c)) (if S c = true then n else n + 1))) s' → Q .none s') : wpAny (model X.prog X.w) X.A (call (.builtin "set.add") [.ref a, u]) Q E s := by
  subst ey
  obtain ⟨tk, rfl⟩ := r
  refine setR_add (setO_get I ha) room fun hp sb new => h _ ?_
  exact I.write (e := a) (t' := s.toks + 1) (by rw [ha]; trivial) (.inl rfl) (fun b o hb ho => (sb.2 b hb).trans ho) (let ⟨o, _, _, _, ho, _⟩ := new; ⟨o, ho⟩) (setO_new new)
/-- {k for ta in ia if .. for tb in ib if ..}, k a number -/
def tSc2 (w : World) (wa : TI) (ga : TG) (ca : TT) (wb : TI) (gb : TG) (cb : TT) (tk : TE) (vs ws : List Nat) : TE := fun σ H Q => wa σ H fun J H1 => ∀ D, H1 D = none → ∃ W : Nat → Nat → Hp → Prop, (∃ m, W 0 m (upd H1 D (SetO w D (fun _ => false) 0))) ∧ ∀ i m H, W i m H →
  (J.stop i H ∧ Q (.ref D) H) ∨ (J.go i H ∧ ∃ Nx : Hp → Prop, (∀ G, Nx G → ∃ m', m' < m ∧ W (i + 1) m' G) ∧ ∀ x G, J.yld i H x G → ga x (wipe σ vs) G fun σ2 G2 => wipe σ2 vs = wipe σ vs ∧ ca σ2 G2 fun b G3 =>
    if b = true then wb σ2 G3 fun L G4 => ∃ V : Nat → Nat → Hp → Prop, (∃ m, V 0 m G4) ∧ ∀ j l G, V j l G →
      (L.stop j G ∧ Nx G) ∨ (L.go j G ∧ ∃ Ny : Hp → Prop, (∀ G', Ny G' → ∃ l', l' < l ∧ V (j + 1) l' G') ∧ ∀ x G', L.yld j G x G' → gb x (wipe σ2 ws) G' fun σ3 G5 => wipe σ3 ws = wipe σ2 ws ∧ cb σ3 G5 fun b G6 =>
        if b = true then tk σ3 G6 fun y G7 => ∃ (c : Int) (S : Int → Bool) (n : Nat), y = .int c ∧ G7 D = some (SetO w D S n) ∧ n + 1 < scanBound ∧ Ny (upd G7 D (SetO w D (fun j => S j || decide (j = c)) (if S c = true then n else n + 1))) else Ny G6)
    else Nx G3)
theorem pe_sc2 {k ta ia tb ib : Expr} {fa fb : List Expr} {scope : Scope} {own : List (Str × Nat)} {ws : List Nat} {pos : Pos} {wa wb : TI} {ga gb : TG} {ca cb : TT} {tk : TE} (hc : X.calm = true) (hN : X.N.Nodup) (hi : PI X ta ia wa) (ok : BlkOk X.N X.env.scope scope own) (hv : ∀ i ∈ ws, i ∈ own.map (·.2))
    (hga : ∀ (s : Shared) (H : Hp) (C : Addr) (cl : List (Str × Addr)) (fp : List Addr), PG (X.blk s H scope (compEnvC scope cl C X.env) fp) ta ga)
    (hca : ∀ (s : Shared) (H : Hp) (C : Addr) (cl : List (Str × Addr)) (fp : List Addr), PTs (X.blk s H scope (compEnvC scope cl C X.env) fp) fa ca)
    (hib : ∀ (s : Shared) (H : Hp) (C : Addr) (cl : List (Str × Addr)) (fp : List Addr), PI (X.blk s H scope (compEnvC scope cl C X.env) fp) tb ib wb)
    (hgb : ∀ (s : Shared) (H : Hp) (C : Addr) (cl : List (Str × Addr)) (fp : List Addr), PG (X.blk s H scope (compEnvC scope cl C X.env) fp) tb gb)
    (hcb : ∀ (s : Shared) (H : Hp) (C : Addr) (cl : List (Str × Addr)) (fp : List Addr), PTs (X.blk s H scope (compEnvC scope cl C X.env) fp) fb cb)
    (hk : ∀ (s : Shared) (H : Hp) (C : Addr) (cl : List (Str × Addr)) (fp : List Addr), PE (X.blk s H scope (compEnvC scope cl C X.env) fp) k tk)
    (hs : ∀ x, foldedSetIterable ia X.env x = pure x := by intro _; rfl) (hs1 : ∀ env x, foldedSetIterable ib env x = pure x := by intro _ _; rfl) :
    PE X (.SetComp k [⟨ta, ia, fa, 0⟩, ⟨tb, ib, fb, 0⟩] scope pos) (tSc2 X.w wa ga ca wb gb cb tk (own.map (·.2)) ws) := by
  refine ⟨fun pins s σ H Q I h => ?_⟩
  rw [PpSet.eval_SetComp]
  have free : ∀ y ∈ scope.names, y.2 = .free → ∃ c, X.env.cells.lookup y.1 = some c := fun y hy e => I.ok.has _ ((ok.free y hy e).imp id id)
  refine wpAny_comprehension_free rfl hs (closure_ok free) ok.kind (fun y hy e => by rw [ok.uniq y hy, e]) (thn (hi.run pins s σ H _ I h) fun xv u1 hx => thn hx fun itv u2 h2 => ?_)
  obtain ⟨ia', fp, tn, J, G2, rfl, I2, T, st2, f2, q⟩ := h2
  obtain ⟨D, hD⟩ : ∃ D, D = u2.heap.objs.size := ⟨_, rfl⟩
  have nD : G2 D = none := I2.hok.fresh (by rw [hD]; exact Nat.le_refl _)
  obtain ⟨W, ⟨m0, w0⟩, turn⟩ := q D nD
  have I3 : Inv X pins σ (upd G2 D (SetO X.w D (fun _ => false) 0)) { u2 with heap := u2.heap.push { cls := .type "set", dict := none, data := .set #[] 0 (.fresh 0 0 (!X.w.params.followText "set-order")) } } := by
    refine I2.laid (t' := u2.toks) (fun b o e => Heap.get?_push_of_some _ e) (by rw [hD]; exact Nat.le_refl _) ?_
    rw [hD]
    exact setO_new (setR_fresh X.w)
  refine PpSet.newSet_ok (newEnv_comp ?_)
  rw [← hD]
  obtain ⟨u3, hu3⟩ : ∃ u3 : Shared, u3 = { u2 with heap := u2.heap.push { cls := .type "set", dict := none, data := .set #[] 0 (.fresh 0 0 (!X.w.params.followText "set-order")) } } := ⟨_, rfl⟩
  rw [← hu3] at I3
  have hp3 : u3.heap = u2.heap.push { cls := .type "set", dict := none, data := .set #[] 0 (.fresh 0 0 (!X.w.params.followText "set-order")) } := by rw [hu3]
  obtain ⟨G3, hG3⟩ : ∃ G3, G3 = upd G2 D (SetO X.w D (fun _ => false) 0) := ⟨_, rfl⟩
  rw [← hG3] at I3 w0
  have small : ∀ b ∈ fp, b < u2.heap.objs.size := fun b hb => let ⟨o, e, _⟩ := T.obj _ _ st2 b hb; Heap.lt_size e
  have f3 : ∀ b ∈ fp, FpOk X pins G3 b ∧ b < u3.heap.objs.size := fun b hb => by
    have lt := small b hb
    refine ⟨⟨?_, (f2 b hb).2⟩, ?_⟩
    · rw [hG3, upd_ne (by rw [hD]; exact Nat.ne_of_lt lt)]; exact (f2 b hb).1
    · rw [hp3, Heap.size_push]; exact Nat.lt_succ_of_lt lt
  have st3 : tn 0 u3.heap := T.keep _ _ _ st2 fun b _ o e => by rw [hp3]; exact Heap.get?_push_of_some _ e
  have I4 := block_start I3 ok hN f3
  obtain ⟨ce, hce⟩ : ∃ ce, ce = compEnvC scope (cellsFrom (u3.heap.objs.size + 1) scope.names (cloFrom X.env.cells scope.names [])) u3.heap.objs.size X.env := ⟨_, rfl⟩
  have pga := hga u3 G3 u3.heap.objs.size (cellsFrom (u3.heap.objs.size + 1) scope.names (cloFrom X.env.cells scope.names [])) fp
  have pca := hca u3 G3 u3.heap.objs.size (cellsFrom (u3.heap.objs.size + 1) scope.names (cloFrom X.env.cells scope.names [])) fp
  have pib := hib u3 G3 u3.heap.objs.size (cellsFrom (u3.heap.objs.size + 1) scope.names (cloFrom X.env.cells scope.names [])) fp
  have pgb := hgb u3 G3 u3.heap.objs.size (cellsFrom (u3.heap.objs.size + 1) scope.names (cloFrom X.env.cells scope.names [])) fp
  have pcb := hcb u3 G3 u3.heap.objs.size (cellsFrom (u3.heap.objs.size + 1) scope.names (cloFrom X.env.cells scope.names [])) fp
  have pk := hk u3 G3 u3.heap.objs.size (cellsFrom (u3.heap.objs.size + 1) scope.names (cloFrom X.env.cells scope.names [])) fp
  rw [← hce] at I4 pga pca pib pgb pcb pk
  have cL : ce.locals = u3.heap.objs.size := by rw [hce]; rfl
  obtain ⟨u4, hu4⟩ : ∃ u4 : Shared, u4 = { u3 with heap := pushCells (u3.heap.push { cls := .type "dict", data := .dict #[] }) scope.names } := ⟨_, rfl⟩
  rw [← hu4] at I4
  have st4 : tn 0 u4.heap := T.keep _ _ _ st3 fun b _ o e => by rw [hu4]; exact pushCells_keeps _ _ _ _ (Heap.get?_push_of_some _ e)
  have nfp : ∀ b ∈ fp, G3 b = none := fun b hb => (f3 b hb).1.1
  have apart : ∀ {τ : L2.St} {G : Hp} {u : Shared}, Inv (X.blk u3 G3 scope ce fp) [] τ G u → (∀ b ∈ fp, G b = none) → ∀ b ∈ fp, FpOk (X.blk u3 G3 scope ce fp) [] G b := fun J n b hb =>
    ⟨n b hb, (J.ok.exf b hb).1, J.ok.exfs b hb, .inl hb, fun y c e => (J.ok.exf b hb).2 y c e, fun p hp => absurd (show p ∈ ([] : List (Addr × Obj)) ++ [] from hp) (by simp)⟩
  have loop : ∀ R : Result → Shared → Prop, (∀ u' m G, Inv X pins σ G u' → Q (.ref D) G → u'.heap.Ns u3.heap.objs.size m → FpOk X pins G u3.heap.objs.size → R (.ok .next) u') →
      codeAny (model X.prog X.w) X.A (.compLoop (.SetComp k [⟨ta, ia, fa, 0⟩, ⟨tb, ib, fb, 0⟩] scope pos) 0 (.ref ia') (.ref D) ce) R u4 := by
    intro R done
    refine sc2_outer (hs1 ce) (fun n u => ∃ i G, Inv (X.blk u3 G3 scope ce fp) [] (wipe σ (own.map (·.2))) G u ∧ tn i u.heap ∧ (∀ b ∈ fp, G b = none) ∧ W i n G) ?_ m0 ⟨0, G3, I4, st4, nfp, w0⟩
    rintro n u5 ⟨i, G5, I5, st5, n5, w5⟩
    rcases turn i n G5 w5 with ⟨stop, qq⟩ | ⟨go, Nx, hNx, step⟩
    · refine thnF (T.done (X.blk u3 G3 scope ce fp) rfl rfl rfl hc i [] u5 _ G5 (fun _ _ => False) I5 (apart I5 n5) st5 stop) fun r u6 ⟨hr, I6⟩ => ?_
      cases hr
      have back : Inv X pins σ G5 u6 := I3.call' (ch := fp) I6.os I6.base I6.hok I6.bare fun b hb => let ⟨⟨_, a1, a2, a3, a4, a5⟩, _⟩ := f3 b hb; ⟨a3, a1, a4, a5⟩
      have none3 : G5 u3.heap.objs.size = none := cL ▸ (show G5 ce.locals = none from I6.free)
      obtain ⟨m, hn, _⟩ := I6.loc
      exact done u6 m G5 back qq (cL ▸ (show u6.heap.Ns ce.locals m from hn)) (I3.fpOk (Nat.le_refl _) none3)
    · refine thnF (T.item (X.blk u3 G3 scope ce fp) rfl rfl rfl hc i [] u5 _ G5 (fun _ _ => False) I5 (apart I5 n5) st5 go) fun r u6 ⟨v, hr, h6⟩ => ?_
      cases hr
      refine thnF h6 fun _ u7 ⟨x, G7, I7, r7, y7, st7, n7⟩ => ?_
      refine thnF (pga.run _ u7 _ G7 x v _ (I7.pinned (apart I7 n7) (T.obj _ _ st7)) r7 (step x G7 y7)) fun _ u8 ⟨σ8, G8, I8, hw8, q8⟩ => ?_
      refine thnF (pca.run _ u8 σ8 G8 _ I8 q8) fun b u9 ⟨G9, I9, q9⟩ => ?_
      have turnEnd : ∀ {τ : L2.St} {u : Shared} {G : Hp}, Inv (X.blk u3 G3 scope ce fp) ([] ++ pinsAt fp u7.heap) τ G u → (wipe σ (own.map (·.2))).length = τ.length → (∀ (j : Nat) y, (wipe σ (own.map (·.2)))[j]? = some (some y) → τ[j]? = some (some y)) → Nx G →
          ∃ m, m < n ∧ ∃ i G, Inv (X.blk u3 G3 scope ce fp) [] (wipe σ (own.map (·.2))) G u ∧ tn i u.heap ∧ (∀ b ∈ fp, G b = none) ∧ W i m G := by
        intro τ u G J hl hg nx
        obtain ⟨m', lt, w'⟩ := hNx G nx
        have at7 : ∀ b ∈ fp, ∀ o, u7.heap.get? b = some o → u.heap.get? b = some o ∧ G b = none := fun b hb o e => by
          obtain ⟨z1, z2, _⟩ := J.pin (b, o) (List.mem_append_right _ (List.mem_append_right _ (mem_pinsAt hb e)))
          exact ⟨z1, z2⟩
        refine ⟨m', lt, i + 1, G, (J.unpinned (pins := [])).weak hl hg, T.keep _ _ _ st7 fun b hb o e => (at7 b hb o e).1, fun b hb => ?_, w'⟩
        obtain ⟨o, e, _⟩ := T.obj _ _ st7 b hb
        exact (at7 b hb o e).2
      have len8 : (wipe σ (own.map (·.2))).length = σ8.length := by rw [← hw8, wipe_length]
      have at8 : ∀ (j : Nat) y, (wipe σ (own.map (·.2)))[j]? = some (some y) → σ8[j]? = some (some y) := fun j y e => (wipe_some (hw8 ▸ e)).1
      cases b with
      | false => exact turnEnd I9 len8 at8 (by simpa using q9)
      | true =>
        simp only [if_true] at q9 ⊢
        refine thnF (pib.run _ u9 σ8 G9 _ I9 q9) fun yv u10 hy => thnF hy fun jtv u11 h11 => ?_
        obtain ⟨ja, gp, tm, L, G11, rfl, I11, T1, st11, f11, V, ⟨l0, v0⟩, turnB⟩ := h11
        have apart1 : ∀ {G : Hp}, (∀ b ∈ gp, G b = none) → ∀ b ∈ gp, FpOk (X.blk u3 G3 scope ce fp) ([] ++ pinsAt fp u7.heap) G b := fun n b hb => ⟨n b hb, (f11 b hb).2⟩
        have at9 : ∀ (j : Nat) y, (wipe σ (own.map (·.2)))[j]? = some (some y) → (wipe σ8 ws)[j]? = some (some y) := fun j y e => by
          obtain ⟨e1, e2⟩ := wipe_some (hw8 ▸ e)
          rw [wipe_out fun z => e2 (hv j z)]
          exact e1
        have loopB : codeAny (model X.prog X.w) X.A (.compLoop (.SetComp k [⟨ta, ia, fa, 0⟩, ⟨tb, ib, fb, 0⟩] scope pos) 1 (.ref ja) (.ref D) ce)
            (fun r u' => match r with
              | .ok _ => ∃ m, m < n ∧ ∃ i G, Inv (X.blk u3 G3 scope ce fp) [] (wipe σ (own.map (·.2))) G u' ∧ tn i u'.heap ∧ (∀ b ∈ fp, G b = none) ∧ W i m G
              | .error _ => False) u11 := by
          refine sc2_inner (fun l u => ∃ j G, Inv (X.blk u3 G3 scope ce fp) ([] ++ pinsAt fp u7.heap) (wipe σ8 ws) G u ∧ tm j u.heap ∧ (∀ b ∈ gp, G b = none) ∧ V j l G) ?_ l0 ⟨0, G11, I11.weak (wipe_length _ _) (fun j y e => (wipe_some e).1), st11, fun b hb => (f11 b hb).1, v0⟩
          rintro l u12 ⟨j, G12, I12, st12, n12, v12⟩
          rcases turnB j l G12 v12 with ⟨stopB, nx⟩ | ⟨goB, Ny, hNy, stepB⟩
          · refine thnF (T1.done (X.blk u3 G3 scope ce fp) rfl rfl rfl hc j _ u12 (wipe σ8 ws) G12 (fun _ _ => False) I12 (apart1 n12) st12 stopB) fun r u13 ⟨hr, I13⟩ => ?_
            cases hr
            exact turnEnd I13 (len8.trans (wipe_length σ8 ws).symm) at9 nx
          · refine thnF (T1.item (X.blk u3 G3 scope ce fp) rfl rfl rfl hc j _ u12 (wipe σ8 ws) G12 (fun _ _ => False) I12 (apart1 n12) st12 goB) fun r u13 ⟨v1, hr, h13⟩ => ?_
            cases hr
            refine thnF h13 fun _ u14 ⟨x1, G14, I14, r14, y14, st14, n14⟩ => ?_
            refine thnF (pgb.run _ u14 (wipe σ8 ws) G14 x1 v1 _ (I14.pinned (apart1 n14) (T1.obj _ _ st14)) r14 (stepB x1 G14 y14)) fun _ u15 ⟨σ15, G15, I15, hw15, q15⟩ => ?_
            refine thnF (pcb.run _ u15 σ15 G15 _ I15 q15) fun b1 u16 ⟨G16, I16, q16⟩ => ?_
            have turnEndB : ∀ {u : Shared} {G : Hp}, Inv (X.blk u3 G3 scope ce fp) (([] ++ pinsAt fp u7.heap) ++ pinsAt gp u14.heap) σ15 G u → Ny G → ∃ m, m < l ∧ ∃ j G, Inv (X.blk u3 G3 scope ce fp) ([] ++ pinsAt fp u7.heap) (wipe σ8 ws) G u ∧ tm j u.heap ∧ (∀ b ∈ gp, G b = none) ∧ V j m G := by
              intro u G K ny
              obtain ⟨m', lt, w'⟩ := hNy G ny
              have at14 : ∀ b ∈ gp, ∀ o, u14.heap.get? b = some o → u.heap.get? b = some o ∧ G b = none := fun b hb o e => by
                obtain ⟨z1, z2, _⟩ := K.pin (b, o) (List.mem_append_right _ (List.mem_append_right _ (mem_pinsAt hb e)))
                exact ⟨z1, z2⟩
              refine ⟨m', lt, j + 1, G, K.unpinned.weak (by rw [← hw15, wipe_length]) (fun j y e => (wipe_some (hw15 ▸ e)).1), T1.keep _ _ _ st14 fun b hb o e => (at14 b hb o e).1, fun b hb => ?_, w'⟩
              obtain ⟨o, e, _⟩ := T1.obj _ _ st14 b hb
              exact (at14 b hb o e).2
            cases b1 with
            | false => exact turnEndB I16 (by simpa using q16)
            | true =>
              simp only [if_true] at q16 ⊢
              refine thnF (pk.run _ u16 σ15 G16 _ I16 q16) fun z u17 ⟨yk, G17, I17, r17, c, S0, n0, ey, hD17, room, nx⟩ => ?_
              exact sput_run (X := X.blk u3 G3 scope ce fp) I17 hD17 room ey r17 fun u18 I18 => turnEndB I18 nx
        exact sc2_begin loopB (T1.self X.A 0 _ _ _ st11 loopB)
  cases hce; cases hu4; cases hu3
  have fin := loop _ (fun u' m G J qq hn f => show compPost (model X.prog X.w) X.A X.xe none (EP X pins σ Q) (.ref D) _ (.ok .next) u' from ⟨m, hn, fun h' sb => by
    obtain ⟨f0, f1, f2, f3, f4, f5⟩ := f
    exact ⟨.ref D, G, J.turned (t' := u'.toks) (fun b o hb e => (sb.2 b hb).trans e) f0 f1 f3 f4 f5, rfl, qq⟩⟩)
  exact PpSet.codeAny_compStart_set fin (T.self X.A 0 _ _ _ st4 fin)
end
end Y
set_option maxHeartbeats 2000000
set_option pp.maxSteps 200
namespace Y
open PySem PySem.Spec PyProof.Rows L2
/-! ### sorted({k for .. for ..}), here -/
/-- a number that is in already comes in no second time -/
def insI (k : Int) (acc : List Int) : List Int := if k ∈ acc then acc else acc ++ [k]
theorem mem_insI {k j : Int} {acc : List Int} : j ∈ insI k acc ↔ j ∈ acc ∨ j = k := by
  unfold insI
  split
  · exact ⟨.inl, fun h => h.elim id fun e => e ▸ ‹_›⟩
  · simp
theorem nodup_insI {k : Int} {acc : List Int} (h : acc.Nodup) : (insI k acc).Nodup := by
  unfold insI
  split
  · exact h
  · rw [List.nodup_append]
    exact ⟨h, by simp, fun a m b mb => by rcases List.mem_singleton.mp mb with rfl; exact fun e => ‹¬_› (e ▸ m)⟩
def scI (g : RG) (tt : RT) (te : RE) (vs : List Nat) (σ : Sg) (Q : List Int → Hq → Prop) : List D → List Int → Hq → Prop
  | [], acc, S => Q acc S
  | x :: r, acc, S => g x (wipeD σ vs) S (fun σ2 S2 => tt σ2 S2 (fun b S3 => if b = true then te σ2 S3 (fun y S4 => ∃ k, y = .int k ∧ acc.length < 1000 ∧ scI g tt te vs σ Q r (insI k acc) S4) NoX else scI g tt te vs σ Q r acc S3) NoX) NoX
/-- ys are the parts of the tuple d -/
def tupI (d : D) (P : List D → Prop) : Prop := match d with
  | .tup ys => P ys
  | _ => False
def scO (gd : Hq → Prop) (g : RG) (tt : RT) (rb : RE) (gb : RG) (tb : RT) (te : RE) (vs ws : List Nat) (σ : Sg) (Q : List Int → Hq → Prop) : List D → List Int → Hq → Prop
  | [], acc, S => gd S ∧ Q acc S
  | x :: r, acc, S => gd S ∧ g x (wipeD σ vs) S (fun σ2 S2 => tt σ2 S2 (fun b S3 => if b = true then rb σ2 S3 (fun d S4 => tupI d fun ys => scI gb tb te ws σ2 (fun acc S5 => scO gd g tt rb gb tb te vs ws σ Q r acc S5) ys acc S4) NoX else scO gd g tt rb gb tb te vs ws σ Q r acc S3) NoX) NoX
def rSS (m : Nw2) (ra : RI) (g : RG) (tt : RT) (rb : RE) (gb : RG) (tb : RT) (te : RE) (vs ws : List Nat) : RE := fun σ S Q E => ra σ S (fun xs gd S1 => scO gd g tt rb gb tb te vs ws σ (fun acc S2 => acc.length < 64 ∧ ∀ ns : List Int, ns.Pairwise (· < ·) → (∀ k, k ∈ ns ↔ k ∈ acc) → m (ns.map D.int) S2 Q) xs [] S1) E
/-- the set as it stands -/
def SetL (w : World) (a : Addr) (acc : List Int) : HO := SetO w a (fun j => decide (j ∈ acc)) acc.length
theorem setL_ins {w : World} {a : Addr} {acc : List Int} {k : Int} : SetO w a (fun j => decide (j ∈ acc) || decide (j = k)) (if decide (k ∈ acc) = true then acc.length else acc.length + 1) = SetL w a (insI k acc) := by
  unfold SetL
  have e1 : (fun j => decide (j ∈ acc) || decide (j = k)) = fun j => decide (j ∈ insI k acc) := by
    funext j
    rw [← Bool.decide_or]
    exact decide_eq_decide.mpr mem_insI.symm
  rw [e1]
  congr 1
  unfold insI
  by_cases h : k ∈ acc <;> simp [h]
theorem setL_code {w : World} {a : Addr} {acc : List Int} {q : Str} : SetL w a acc ≠ LamX.CodeO a q := by
  intro e
  unfold SetL SetO LamX.CodeO at e
  have e := HO.ext.inj e
  have hg : ({ objs := Array.replicate (a + 1) { cls := .none, data := .fields #[.none, .str q 0] } } : Heap).get? a = some { cls := .none, data := .fields #[.none, .str q 0] } := by
    simp [Heap.get?]
  have k := (congrFun e ({ objs := Array.replicate (a + 1) { cls := .none, data := .fields #[.none, .str q 0] } } : Heap)).mpr ⟨_, _, 0, hg, rfl, rfl⟩
  obtain ⟨o, es, ep, t, ho, _, hd, _⟩ := k
  rw [hg] at ho
  cases ho
  cases hd
/-- an object of one's own kind hides nothing that is read here -/
theorem tle_ext {K : PySem.W.Frag} {w : World} {H : Hp} {a : Addr} {acc : List Int} {o : HO} (e : H a = some (SetL w a acc)) : Tle K H (upd H a o) := by
  unfold SetL SetO at e
  refine ⟨fun b xs hq => ?_, fun b xs hq => ?_, fun b xs hq => by rw [upd_ne (fun z => by rw [z, e] at hq; cases hq)]; exact hq⟩
  · rcases hq with (hq | ⟨o, hq⟩) | hq
    · exact .inl (.inl (by rw [upd_ne (fun z => by rw [z, e] at hq; cases hq)]; exact hq))
    · exact .inl (.inr ⟨o, by rw [upd_ne (fun z => by rw [z, e] at hq; cases hq)]; exact hq⟩)
    · exact .inr hq
  · rcases hq with ⟨o, hq⟩ | hq
    · exact .inl ⟨o, by rw [upd_ne (fun z => by rw [z, e] at hq; cases hq)]; exact hq⟩
    · exact .inr hq
theorem rh_ext {K : PySem.W.Frag} {w : World} {S : Hq} {H : Hp} {a : Addr} {acc acc' : List Int} (rh : RH K S H) (e : H a = some (SetL w a acc)) (n : S a = none) : RH K S (upd H a (SetL w a acc')) := fun b o q => by
  have hb : b ≠ a := fun z => by rw [z, n] at q; cases q
  refine (rh b o q).stay (tle_ext e) (fun c q e' n' => ⟨by rw [upd_ne (fun z => by subst z; rw [e] at e'; exact setL_code (Option.some.inj e'))]; exact e', n'⟩) (upd_ne hb)
section
variable {K : PySem.W.Frag} {wd : World}
/-- the inner turns -/
theorem sc_in {T : TG} {g : RG} {tt : RT} {te : RE} {ws : List Nat} {σ : L2.St} {σ' : Sg} {S0 S1 : Hq} {H0 H1 : Hp} {xs : List D} {vs : List V} {a : Addr} {acc : List Int} {Dd : Addr} {Nx : Hp → Prop} {Q' : List Int → Hq → Prop} (kp : Keeps T g ws K)
    (hD : H0 Dd = none) (f0 : Fr S0 H0 S1 H1) (rs : RS K H1 σ' σ) (rh : RH K S1 H1) (eD1 : H1 Dd = some (SetL wd Dd acc)) (nD1 : S1 Dd = none) (sq : SqT K H1 a vs) (dv : DVs K H1 xs vs) (h : scI g tt te ws σ' Q' xs acc S1)
    (fin : ∀ S H acc, Fr S0 H0 S H → RH K S H → H Dd = some (SetL wd Dd acc) → S Dd = none → Q' acc S → Nx H) :
    ∃ V : Nat → Nat → Hp → Prop, (∃ m, V 0 m H1) ∧ ∀ j l G, V j l G →
      ((Itt K a).stop j G ∧ Nx G) ∨ ((Itt K a).go j G ∧ ∃ Ny : Hp → Prop, (∀ G', Ny G' → ∃ l', l' < l ∧ V (j + 1) l' G') ∧ ∀ x G', (Itt K a).yld j G x G' → T x (L2.wipe σ ws) G' fun σ3 G5 => L2.wipe σ3 ws = L2.wipe σ ws ∧ dnT K W0 tt σ3 G5 fun b G6 =>
        if b = true then dnE K W0 te σ3 G6 fun y G7 => ∃ (c : Int) (S : Int → Bool) (n : Nat), y = .int c ∧ G7 Dd = some (SetO wd Dd S n) ∧ n + 1 < scanBound ∧ Ny (upd G7 Dd (SetO wd Dd (fun j => S j || decide (j = c)) (if S c = true then n else n + 1))) else Ny G6) := by
  have lxv : xs.length = vs.length := dv.length
  refine ⟨fun j m G => ∃ S acc, j + m = xs.length ∧ Fr S0 H0 S G ∧ RH K S G ∧ G Dd = some (SetL wd Dd acc) ∧ S Dd = none ∧ RS K G σ' σ ∧ SqT K G a vs ∧ DVs K G xs vs ∧ scI g tt te ws σ' Q' (xs.drop j) acc S,
    ⟨xs.length, S1, acc, by omega, f0, rh, eD1, nD1, rs, sq, dv, by simpa using h⟩, ?_⟩
  rintro j m G ⟨S, acc, em, f, rh2, eD, nD, rs2, sq2, dv2, h⟩
  by_cases hi : j < xs.length
  · obtain ⟨x, hx⟩ : ∃ x, xs[j]? = some x := ⟨_, List.getElem?_eq_getElem hi⟩
    have hd : xs.drop j = x :: xs.drop (j + 1) := by
      rw [List.drop_eq_getElem_cons hi]
      rw [List.getElem?_eq_getElem hi] at hx
      rw [Option.some.inj hx]
    rw [hd] at h
    obtain ⟨v, hv, dx⟩ : ∃ v, vs[j]? = some v ∧ DV K G x v := dv2.get hx
    refine .inr ⟨⟨vs, v, sq2, hv⟩, fun G => ∃ S acc, Fr S0 H0 S G ∧ RH K S G ∧ G Dd = some (SetL wd Dd acc) ∧ S Dd = none ∧ RS K G σ' σ ∧ SqT K G a vs ∧ DVs K G xs vs ∧ scI g tt te ws σ' Q' (xs.drop (j + 1)) acc S,
      fun G ⟨S, acc, a1, a2, a3, a4, a5, a6, a7, a8⟩ => ⟨m - 1, by omega, S, acc, by omega, a1, a2, a3, a4, a5, a6, a7, a8⟩, fun y G' hy => ?_⟩
    obtain ⟨rfl, hy⟩ := hy
    cases (Option.some.inj ((hy vs sq2).symm.trans hv))
    refine kp.to σ (wipeD σ' ws) G' S x v _ _ (rs2.wipe ws) rh2 dx h fun σ2' σ2 ew rsn h2 => ⟨ew, σ2', S, _, NoX, rsn, rh2, h2, fun b S4 H4 f4 rh4 h4 => ?_, XI.no⟩
    obtain ⟨eD4, nD4⟩ := f4 Dd _ eD nD
    have t4 := f4.tle rh2
    cases b with
    | false => exact ⟨S4, acc, f.trans f4, rh4, eD4, nD4, rs2.mono t4, t4.t _ _ sq2, DVs.mono t4 _ _ dv2, h4⟩
    | true =>
      refine ⟨σ2', S4, _, NoX, rsn.mono t4, rh4, h4, fun z S5 u H5 f5 rh5 dz h5 => ?_, XI.no⟩
      obtain ⟨eD5, nD5⟩ := f5 Dd _ eD4 nD4
      obtain ⟨k, rfl, lk, h5⟩ := h5
      cases dz
      refine ⟨k, _, _, rfl, eD5, by unfold scanBound; omega, S5, insI k acc, ?_⟩
      rw [setL_ins]
      have t5 := (f4.trans f5).tle rh2
      have tx : Tle K H5 (upd H5 Dd (SetL wd Dd (insI k acc))) := tle_ext eD5
      refine ⟨fun b o e n => ?_, rh_ext rh5 eD5 nD5, upd_same, nD5, (rs2.mono t5).mono tx, tx.t _ _ (t5.t _ _ sq2), DVs.mono tx _ _ (DVs.mono t5 _ _ dv2), h5⟩
      obtain ⟨e', n'⟩ := ((f.trans f4).trans f5) b o e n
      have hb : b ≠ Dd := fun z => by rw [z, hD] at e; cases e
      exact ⟨by rw [upd_ne hb]; exact e', n'⟩
  · have hn : xs.drop j = [] := List.drop_eq_nil_of_le (by omega)
    rw [hn] at h
    exact .inl ⟨⟨vs, sq2, by omega⟩, fin S G acc f rh2 eD nD h⟩
/-- the outer ones -/
theorem sc_out {J : It} {gd : Hq → Prop} {T TB : TG} {g gb : RG} {tt tb : RT} {rb : RE} {te : RE} {vs ws : List Nat} {σ : L2.St} {σ' : Sg} {S1 : Hq} {H1 : Hp} {xs : List D} {Q : VK} {Q' : List Int → Hq → Prop} (kp : Keeps T g vs K) (kb : Keeps TB gb ws K)
    (rs : RS K H1 σ' σ) (rh : RH K S1 H1) (ok : ItOk K S1 H1 J xs gd) (h : scO gd g tt rb gb tb te vs ws σ' Q' xs [] S1)
    (fin : ∀ Dd S H acc, Fr S1 H1 S H → RH K S H → H Dd = some (SetL wd Dd acc) → S Dd = none → Q' acc S → Q (.ref Dd) H) :
    ∀ Dd, H1 Dd = none → ∃ W : Nat → Nat → Hp → Prop, (∃ m, W 0 m (upd H1 Dd (SetO wd Dd (fun _ => false) 0))) ∧ ∀ i m H, W i m H →
      (J.stop i H ∧ Q (.ref Dd) H) ∨ (J.go i H ∧ ∃ Nx : Hp → Prop, (∀ G, Nx G → ∃ m', m' < m ∧ W (i + 1) m' G) ∧ ∀ x G, J.yld i H x G → T x (L2.wipe σ vs) G fun σ2 G2 => L2.wipe σ2 vs = L2.wipe σ vs ∧ dnT K W0 tt σ2 G2 fun b G3 =>
        if b = true then iTup K (dnE K W0 rb) σ2 G3 fun L G4 => ∃ V : Nat → Nat → Hp → Prop, (∃ m, V 0 m G4) ∧ ∀ j l G, V j l G →
          (L.stop j G ∧ Nx G) ∨ (L.go j G ∧ ∃ Ny : Hp → Prop, (∀ G', Ny G' → ∃ l', l' < l ∧ V (j + 1) l' G') ∧ ∀ x G', L.yld j G x G' → TB x (L2.wipe σ2 ws) G' fun σ3 G5 => L2.wipe σ3 ws = L2.wipe σ2 ws ∧ dnT K W0 tb σ3 G5 fun b G6 =>
            if b = true then dnE K W0 te σ3 G6 fun y G7 => ∃ (c : Int) (S : Int → Bool) (n : Nat), y = .int c ∧ G7 Dd = some (SetO wd Dd S n) ∧ n + 1 < scanBound ∧ Ny (upd G7 Dd (SetO wd Dd (fun j => S j || decide (j = c)) (if S c = true then n else n + 1))) else Ny G6)
        else Nx G3) := by
  intro Dd hD
  have e0 : SetO wd Dd (fun _ => false) 0 = SetL wd Dd [] := by unfold SetL; simp
  rw [e0]
  refine ⟨fun i m H => ∃ S acc, i + m = xs.length ∧ Fr S1 H1 S H ∧ RH K S H ∧ H Dd = some (SetL wd Dd acc) ∧ S Dd = none ∧ scO gd g tt rb gb tb te vs ws σ' Q' (xs.drop i) acc S,
    ⟨xs.length, S1, [], by omega, Fr.new rh hD, rh.new hD, upd_same, rh.fresh hD, by simpa using h⟩, ?_⟩
  rintro i m H ⟨S, acc, em, f, rh2, eD, nD, h⟩
  by_cases hi : i < xs.length
  · obtain ⟨x, hx⟩ : ∃ x, xs[i]? = some x := ⟨_, List.getElem?_eq_getElem hi⟩
    have hd : xs.drop i = x :: xs.drop (i + 1) := by
      rw [List.drop_eq_getElem_cons hi]
      rw [List.getElem?_eq_getElem hi] at hx
      rw [Option.some.inj hx]
    rw [hd] at h
    obtain ⟨g2, h⟩ := h
    refine .inr ⟨ok.go i x S H hx f rh2 g2, fun H => ∃ S acc, Fr S1 H1 S H ∧ RH K S H ∧ H Dd = some (SetL wd Dd acc) ∧ S Dd = none ∧ scO gd g tt rb gb tb te vs ws σ' Q' (xs.drop (i + 1)) acc S,
      fun G ⟨S, acc, a, b, c, d, e⟩ => ⟨m - 1, by omega, S, acc, by omega, a, b, c, d, e⟩, fun v H3 hy => ?_⟩
    obtain ⟨f3, rh3, dv⟩ := ok.yld i x S H v H3 hx f rh2 g2 hy
    have f03 := f.trans f3
    obtain ⟨eD3, nD3⟩ := f3 Dd _ eD nD
    refine kp.to σ (wipeD σ' vs) H3 S x v _ _ ((RS.mono (f03.tle rh) rs).wipe vs) rh3 dv h fun σ2' σ2 ew rs2 h2 => ⟨ew, σ2', S, _, NoX, rs2, rh3, h2, fun b S4 H4 f4 rh4 h4 => ?_, XI.no⟩
    have f04 := f03.trans f4
    obtain ⟨eD4, nD4⟩ := f4 Dd _ eD3 nD3
    have rs4 := rs2.mono (f4.tle rh3)
    cases b with
    | false => exact ⟨S4, acc, f04, rh4, eD4, nD4, h4⟩
    | true =>
      refine ⟨σ2', S4, _, NoX, rs4, rh4, h4, fun d S5 u H5 f5 rh5 dd h5 => ?_, XI.no⟩
      obtain ⟨eD5, nD5⟩ := f5 Dd _ eD4 nD4
      cases d with
      | tup ys =>
        cases dd with | tup s r =>
        refine ⟨_, rfl, ⟨_, s.1⟩, ?_⟩
        exact sc_in kb hD (f04.trans f5) (rs4.mono (f5.tle rh4)) rh5 eD5 nD5 s.1 r h5 fun S H acc a b c d e => ⟨S, acc, a, b, c, d, e⟩
      | _ => exact h5.elim
  · have hn : xs.drop i = [] := List.drop_eq_nil_of_le (by omega)
    rw [hn] at h
    have ei : i = xs.length := by omega
    subst ei
    exact .inl ⟨ok.stop S H f rh2 h.1, fin Dd S H acc f rh2 eD nD h.2⟩
end
/-- what a way of keeping a new list owes -/
def Lays (K : PySem.W.Frag) (m : Nw2) (fz : VK → VK) : Prop := ∀ (ds : List D) (xs : List V) (S : Hq) (H : Hp) (Q' : Qv) (Q : VK) (p : Addr), QI K S H Q' Q → RH K S H → H p = none → DVs K H ds xs → m ds S Q' → fz Q (.ref p) (upd H p (.lst xs))
theorem laysT {K : PySem.W.Frag} : Lays K nwT id := fun ds xs S H Q' Q p q rh hn dv h => q.newL rh hn dv (h p (rh.fresh hn))
theorem laysF {K : PySem.W.Frag} : Lays K nwF fzV := fun ds xs S H Q' Q p q rh hn dv h => q.fz.newL rh hn dv (nw_fz h p (rh.fresh hn))
section
variable {X : Cx} {W : WX} {pos spos : Pos}
theorem ev_ssG {m : Nw2} {fz : VK → VK} (lay : Lays X.K m fz) (hcr : CallR X (.builtin "sorted") (fun xs H Q => rSortedSet X.w xs H (fz Q))) {x : Str} {p : Pos} {k ta ia tb ib : Expr} {fa fb : List Expr} {scope : Scope} {own : List (Str × Nat)} {ws : List Nat} {ra : RI} {Ga Gb : TG} {g gb : RG} {tt tt1 : RT} {rb te : RE}
    (hx : x = "sorted") (hm : X.mg x = none) (hc : X.calm = true) (hN : X.N.Nodup) (hi : EI X W ta ia ra) (ok : BlkOk X.N X.env.scope scope own) (hv : ∀ i ∈ ws, i ∈ own.map (·.2)) (kp : Keeps Ga g (own.map (·.2)) X.K) (kb : Keeps Gb gb ws X.K)
    (hga : ∀ (s : Shared) (H : Hp) (C : Addr) (cl : List (Str × Addr)) (fp : List Addr), PG (X.blk s H scope (compEnvC scope cl C X.env) fp) ta Ga)
    (hca : ∀ (s : Shared) (H : Hp) (C : Addr) (cl : List (Str × Addr)) (fp : List Addr), EP1 (X.blk s H scope (compEnvC scope cl C X.env) fp) W0 fa tt)
    (hib : ∀ (s : Shared) (H : Hp) (C : Addr) (cl : List (Str × Addr)) (fp : List Addr), EV (X.blk s H scope (compEnvC scope cl C X.env) fp) W0 ib rb)
    (hgb : ∀ (s : Shared) (H : Hp) (C : Addr) (cl : List (Str × Addr)) (fp : List Addr), PG (X.blk s H scope (compEnvC scope cl C X.env) fp) tb Gb)
    (hcb : ∀ (s : Shared) (H : Hp) (C : Addr) (cl : List (Str × Addr)) (fp : List Addr), EP1 (X.blk s H scope (compEnvC scope cl C X.env) fp) W0 fb tt1)
    (hk : ∀ (s : Shared) (H : Hp) (C : Addr) (cl : List (Str × Addr)) (fp : List Addr), EV (X.blk s H scope (compEnvC scope cl C X.env) fp) W0 k te)
    (hs : ∀ x, foldedSetIterable ia X.env x = pure x := by intro _; rfl) (hs1 : ∀ env x, foldedSetIterable ib env x = pure x := by intro _ _; rfl)
    (hg : Gl X x := by rfl)
    (he : starEach [.SetComp k [⟨ta, ia, fa, 0⟩, ⟨tb, ib, fb, 0⟩] scope spos] X.env = (false, eval (.SetComp k [⟨ta, ia, fa, 0⟩, ⟨tb, ib, fb, 0⟩] scope spos) X.env) :: starEach [] X.env := by rfl) (hpl : (backTo pos (starEach [] X.env)).any (·.1) = false := by rfl) :
    EV X W (.Call (.Name x p) [.SetComp k [⟨ta, ia, fa, 0⟩, ⟨tb, ib, fb, 0⟩] scope spos] [] pos) (rSS m ra g tt rb gb tt1 te (own.map (·.2)) ws) := by
  subst hx
  obtain ⟨wi, pi, li⟩ := hi.ex
  refine ⟨_, pe_callB hcr hg hm (by decide +kernel) (pa_cons (pe_sc2 (ca := dnT X.K W0 tt) (cb := dnT X.K W0 tt1) (tk := dnE X.K W0 te) (wb := iTup X.K (dnE X.K W0 rb)) hc hN pi ok hv hga (fun s H C cl fp => (hca s H C cl fp).pe) (fun s H C cl fp => pi_tup (hib s H C cl fp).pe) hgb (fun s H C cl fp => (hcb s H C cl fp).pe) (fun s H C cl fp => (hk s H C cl fp).pe) hs hs1) pa_nil he) (by decide) (by decide) he hpl, fun σ σ' H S Q Q' E' rs rh h q xi => ?_⟩
  refine li σ σ' H S _ _ _ rs rh h (fun J xs gd S1 H1 f1 rh1 okI h1 => ?_) xi
  refine sc_out (wd := X.w) (Q := fun y G => rSortedSet X.w [y] G (fz Q)) kp kb (rs.mono (f1.tle rh)) rh1 okI h1 fun Dd S2 H2 acc f2 rh2 eD nD h2 => ?_
  refine ⟨Dd, _, acc.length, rfl, eD, h2.1, fun ns p hp hk _ hn => ?_⟩
  exact lay _ _ _ _ _ _ p (q.go (f1.trans f2)) rh2 hn DVs.ofInts (h2.2 ns hp fun k => (hk k).trans (by simp))
end
theorem cr_ssT {X : Cx} (hc : X.calm = true) : CallR X (.builtin "sorted") (fun xs H Q => rSortedSet X.w xs H (id Q)) := cr_sortedSet hc
theorem cr_ssF {X : Cx} (hc : X.calm = true) : CallR X (.builtin "sorted") (fun xs H Q => rSortedSet X.w xs H (fzV Q)) := callr_fz (cr_sortedSet hc)
/-! ### all the numbers of rows of numbers -/
theorem len_sub : ∀ {acc U : List Int}, acc.Nodup → (∀ k ∈ acc, k ∈ U) → acc.length ≤ U.length
  | [], _, _, _ => Nat.zero_le _
  | a :: acc, U, h, s => by
    rw [List.nodup_cons] at h
    have hm := s a (by simp)
    have := len_sub (acc := acc) (U := U.erase a) h.2 fun k m => (List.mem_erase_of_ne (fun e : k = a => h.1 (by rw [← e]; exact m))).mpr (s k (by simp [m]))
    rw [List.length_erase_of_mem hm] at this
    have := List.length_pos_of_mem hm
    simp
    omega
theorem sc_nums {j : Nat} {σ : Sg} {Q : List Int → Hq → Prop} {S : Hq} {U : List Int} (hj : j < σ.length) (hU : U.length < 1000) : ∀ (zs acc : List Int), acc.Nodup → (∀ k ∈ acc, k ∈ U) → (∀ k ∈ zs, k ∈ U) →
    (∀ acc', acc'.Nodup → (∀ k ∈ acc', k ∈ U) → (∀ k, k ∈ acc' ↔ k ∈ acc ∨ k ∈ zs) → Q acc' S) → scI (gNm j) rYes (rVar j) [j] σ Q (zs.map D.int) acc S
  | [], acc, nd, sb, _, q => q acc nd sb (by simp)
  | z :: zs, acc, nd, sb, sz, q => by
    have hv : ((wipeD σ [j]).set j (some (D.int z)))[j]? = some (some (.int z)) := by
      rw [List.getElem?_set_self (by simpa [wipeD] using hj)]
    simp only [List.map_cons, scI, gNm, rYes, rVar, if_true, hv]
    refine ⟨z, rfl, ?_, ?_⟩
    · have := len_sub nd sb; omega
    · refine sc_nums hj hU zs _ (nodup_insI nd) (fun k m => (mem_insI.mp m).elim (sb k) fun e => e ▸ sz z (by simp)) (fun k m => sz k (by simp [m])) fun acc' n s h => q acc' n s fun k => ?_
      rw [h k, mem_insI, List.mem_cons]
      constructor
      · rintro ((a | a) | a)
        · exact .inl a
        · exact .inr (.inl a)
        · exact .inr (.inr a)
      · rintro (a | a | a)
        · exact .inl (.inl a)
        · exact .inl (.inr a)
        · exact .inr a
theorem ss_nums {gd : Hq → Prop} {i j : Nat} {σ : Sg} {Q : List Int → Hq → Prop} {S : Hq} {U : List Int} (hg : gd S) (hi : i < σ.length) (hj : j < σ.length) (ij : i ≠ j) (hU : U.length < 1000) : ∀ (zss : List (List Int)) (acc : List Int), acc.Nodup → (∀ k ∈ acc, k ∈ U) → (∀ zs ∈ zss, ∀ k ∈ zs, k ∈ U) →
    (∀ acc', acc'.Nodup → (∀ k ∈ acc', k ∈ U) → (∀ k, k ∈ acc' ↔ k ∈ acc ∨ ∃ zs ∈ zss, k ∈ zs) → Q acc' S) → scO gd (gNm i) rYes (rVar i) (gNm j) rYes (rVar j) [i, j] [j] σ Q (zss.map fun zs => .tup (zs.map D.int)) acc S
  | [], acc, nd, sb, _, q => ⟨hg, q acc nd sb (by simp)⟩
  | zs :: zss, acc, nd, sb, sz, q => by
    refine ⟨hg, ?_⟩
    have hv : ((wipeD σ [i, j]).set i (some (D.tup (zs.map D.int))))[i]? = some (some (.tup (zs.map D.int))) := by
      rw [List.getElem?_set_self (by simpa [wipeD] using hi)]
    simp only [gNm, rYes, rVar, if_true, hv, tupI]
    refine sc_nums (U := U) (by simpa [wipeD] using hj) hU zs acc nd sb (sz zs (by simp)) fun a1 n1 s1 h1 => ?_
    refine ss_nums hg hi hj ij hU zss a1 n1 s1 (fun zs' m => sz zs' (by simp [m])) fun a2 n2 s2 h2 => q a2 n2 s2 fun k => ?_
    rw [h2 k, h1 k]
    simp only [List.mem_cons, exists_eq_or_imp]
    exact or_assoc
/-- the whole reading -/
theorem ss_ok {P : List Int → Hq → Prop} {gd : Hq → Prop} {i j : Nat} {σ : Sg} {S : Hq} {U : List Int} (zss : List (List Int)) (hg : gd S) (hi : i < σ.length) (hj : j < σ.length) (ij : i ≠ j) (hU : U.length < 64) (sz : ∀ zs ∈ zss, ∀ k ∈ zs, k ∈ U)
    (q : ∀ ns : List Int, ns.Pairwise (· < ·) → (∀ k, k ∈ ns ↔ ∃ zs ∈ zss, k ∈ zs) → P ns S) :
    scO gd (gNm i) rYes (rVar i) (gNm j) rYes (rVar j) [i, j] [j] σ (fun acc S2 => acc.length < 64 ∧ ∀ ns : List Int, ns.Pairwise (· < ·) → (∀ k, k ∈ ns ↔ k ∈ acc) → P ns S2) (zss.map fun zs => .tup (zs.map D.int)) [] S :=
  ss_nums hg hi hj ij (by omega) zss [] List.nodup_nil (by simp) sz fun acc nd sb h => ⟨by have := len_sub nd sb; omega, fun ns hp hk => q ns hp fun k => by rw [hk k, h k]; simp⟩
/-- rows that rise strictly and have the same members are the same -/
theorem ris_ext : ∀ {xs ys : List Int}, xs.Pairwise (· < ·) → ys.Pairwise (· < ·) → (∀ k, k ∈ xs ↔ k ∈ ys) → xs = ys
  | [], [], _, _, _ => rfl
  | [], y :: ys, _, _, h => absurd ((h y).mpr (by simp)) (by simp)
  | x :: xs, [], _, _, h => absurd ((h x).mp (by simp)) (by simp)
  | x :: xs, y :: ys, hx, hy, h => by
    rw [List.pairwise_cons] at hx hy
    have e : x = y := by
      rcases List.mem_cons.mp ((h x).mp (by simp)) with e | m
      · exact e
      rcases List.mem_cons.mp ((h y).mpr (by simp)) with e | m'
      · exact e.symm
      have := hy.1 x m
      have := hx.1 y m'
      omega
    subst e
    rw [ris_ext hx.2 hy.2 fun k => ?_]
    have hk := h k
    simp only [List.mem_cons] at hk
    constructor
    · intro m
      rcases hk.mp (.inr m) with e | m'
      · subst e; exact absurd (hx.1 _ m) (by omega)
      · exact m'
    · intro m
      rcases hk.mpr (.inr m) with e | m'
      · subst e; exact absurd (hy.1 _ m) (by omega)
      · exact m'
end Y
set_option maxHeartbeats 2000000
set_option pp.maxSteps 200
namespace Y
open PySem PySem.Spec PyProof.Rows L2
/-! ### several except clauses, with names or without -/
/-- a clause's suite: the slot of its name, if it has one -/
def segT (o : Option Nat) (ts : Addr → Value → Option Addr → TS) (a : Addr) (cls : Value) (d : Option Addr) : TS := fun D σ H => match o with
  | none => ts a cls d D σ H
  | some i => ts a cls d { nx := fun τ G => D.nx (τ.set i none) G, rt := D.rt, bk := fun τ G => D.bk (τ.set i none) G, ct := fun τ G => D.ct (τ.set i none) G } (σ.set i (some (.ref a))) H
def wSeg (K : PySem.W.Frag) (Wout : WX) (D : Ends) : List (Value × Option Nat × (Addr → Value → Option Addr → TS)) → WX
  | [] => Wout
  | (c, o, ts) :: r => fun cls d σ H => ∃ b, PySem.W.exmOne K cls c = some b ∧ (b = true → ∀ a, H a = none → segT o ts a cls d D σ H) ∧ (b = false → wSeg K Wout D r cls d σ H)
/-- a clause's name and its slot -/
def NmOk (X : Cx) : Option Nat → Option Str → Prop
  | none, none => True
  | some i, some n => X.N[i]? = some n ∧ X.env.kindOf n = some .local
  | _, _ => False
inductive Segs (X : Cx) : List ExceptHandler → List (Value × Option Nat × (Addr → Value → Option Addr → TS)) → Prop
  | nil : Segs X [] []
  | cons {x : Str} {c : Value} {o : Option Nat} {n : Option Str} {ts : Addr → Value → Option Addr → TS} {k : Stmt} {ks : List Stmt} {p q : Pos} {hs : List ExceptHandler} {l : List (Value × Option Nat × (Addr → Value → Option Addr → TS))} (hc : Names X x c) (nm : NmOk X o n)
      (hk : ∀ (a : Addr) (oe : Obj) (cls : Value) (d : Option Addr) (pn : List (Addr × Obj)), L2N.Zn cls d oe → (∃ vs, oe.data = .fields vs) → PSs (X.suite a ((a, oe) :: pn)) (k :: ks) (ts a cls d)) (r : Segs X hs l) :
      Segs X (.ExceptHandler (some (.Name x p)) n (k :: ks) q :: hs) ((c, o, ts) :: l)
section
variable {X : Cx} {body : List Stmt} {hd : ExceptHandler} {hs : List ExceptHandler} {l : List (Value × Option Nat × (Addr → Value → Option Addr → TS))} {pos : Pos} {tb : WX → TS} {Wout : WX}
theorem ps_segs (hst : X.stack = X.env :: X.outer) (hfm : X.env.frame = some X.env.locals) (hN : X.N.Nodup) (tk : L2N.Takes X Wout)
    (hb : ∀ (W : WX) (pn : List (Addr × Obj)) (xe : Value → Shared → Prop), L2N.Takes (X.tr pn xe) W → PassesOwn (model X.prog X.w) X.A X.env xe → PSs (X.tr pn xe) body (tb W))
    (hl : Segs X (hd :: hs) l) : PS X (.Try body (hd :: hs) [] [] pos) (fun D σ H => tb (wSeg X.K Wout D l) D σ H) := by
  refine ⟨fun pins s σ H D I h => ?_⟩
  have good := I.ok
  have frs' : X.A.frames = some (X.env :: X.outer) := by rw [good.frames, hst]
  refine wpAny_Try_except ?_
  refine wpAny_mono ((hb (wSeg X.K Wout D l) (X.pn ++ pins) (fun e u1 => wpAny (model X.prog X.w) X.A (noteFrame e X.env) (fun _ u2 => wpAny (model X.prog X.w) X.A (setFlight e none) (fun _ u3 =>
    wpAny (model X.prog X.w) X.A (handleBy e X.env (hd :: hs)) (SP X pins D) X.xe u3) X.xe u2) X.xe u1) (fun v u' xx => ?_) PassesOwn.looking).run [] s σ H D (I.toTry _) h) (fun f u1 ended => ?_) (fun _ _ z => z)
  · obtain ⟨a, B, sI, pins', τ, G, cls, d, rfl, J', nb, rise, sky, na, os, ag, wish⟩ := xx
    have J : Inv X pins τ G sI := J'.ofTry good
    have sky1 : Sky B (X.env :: X.outer) a (L2N.Zn cls d) X.env.locals u'.heap := by rw [← hst]; exact sky
    show wpAny (model X.prog X.w) X.A (noteFrame (.ref a) X.env) _ _ _
    refine L2N.Sky.land L2N.Zn.steady frs' hfm sky1 fun k3 fall3 rise3 => ?_
    have J3 : Inv X pins τ G { u' with heap := k3 } := J.landed nb fall3.1 (rise.trans rise3) os ag
    obtain ⟨oe3, vs3, at3, zn3, dt3⟩ := fall3.there
    have off : ∀ {k : Heap} {ob : Obj} {vs : Array Value}, k.FunFrames B (X.env :: X.outer) → k.get? a = some ob → ob.data = .fields vs → a ∉ frs (X.env :: X.outer) := by
      intro k ob vs ff e dt m
      obtain ⟨_, ob', e', none'⟩ := ff.mem m
      cases e.symm.trans e'
      exact none' _ dt
    have off3 := off fall3.2.2.1 at3 dt3
    have offL : a ≠ X.env.locals := fun z => off3 (List.mem_filterMap.mpr ⟨X.env, List.mem_cons_self, by rw [hfm, z]⟩)
    have offF : a ∉ X.fs := fun m => by
      obtain ⟨e, me, q⟩ := List.mem_filterMap.mp m
      exact off3 (List.mem_filterMap.mpr ⟨e, List.mem_cons_of_mem _ me, q⟩)
    have T3 := J3.suite at3 dt3 na offL offF
    have each : ∀ {gs : List ExceptHandler} {m : List (Value × Option Nat × (Addr → Value → Option Addr → TS))}, Segs X gs m → wSeg X.K Wout D m cls d τ G →
        wpAny (model X.prog X.w) X.A (handleBy (.ref a) X.env gs) (SP X pins D) X.xe { u' with heap := k3 } := by
      intro gs m hm
      induction hm with
      | nil =>
        intro w
        refine wpAny_handleBy_nil ?_
        obtain ⟨_, _, _, oe, vs, T, oT, ts', he, hz, hdt, h1, hr⟩ := id fall3
        unfold PySem.passOn
        refine wpAny_bind (wpAny_field he hdt h1 ?_)
        rw [if_neg (show ¬ ((Value.ref T == Value.none) = true) from by simp)]
        have up : wpAny (model X.prog X.w) X.A (setFlight (.ref a) X.env.frame) (fun _ u4 => wpAny (model X.prog X.w) X.A (throw (.ref a) : Sem Flow) (SP X pins D) X.xe u4) X.xe { u' with heap := k3 } := by
          rw [hfm]
          refine HandSPX.setFlight_upZ fall3 fun k4 hk4 rise4 => wpAny_throw (tk _ _ ?_)
          exact ⟨a, B, sI, pins, τ, G, cls, d, rfl, J, nb, (rise.trans rise3).trans rise4, .inr (.inr (by rw [hst]; exact hk4)), na, os, ag, w⟩
        first
          | exact wpAny_bind up
          | exact wpAny_bind (wpAny_pure (wpAny_bind up))
      | @cons x c o n ts k ks p q gs2 m2 hc nm hk r ih =>
        rintro ⟨b, is, yes, no⟩
        refine wpAny_handleBy_cons (codeAny_handlers_test ?_) (by intro z; cases z)
        have lo : PySem.W.Looks (model X.prog X.w) k3 (typeOf (.ref a)) cls := fun A Q E s k q => wpAny_typeOf_ref (k _ _ at3) (by rw [zn3.1]; exact q)
        have lm := PySem.W.exm_one (M := model X.prog X.w) (J3.kIn) lo is
        have named : ∀ {Q : Value → Shared → Prop} {E : Value → Shared → Prop}, Q c { u' with heap := k3 } → wpAny (model X.prog X.w) (X.A.mark (some (.ref a))) (eval (.Name x p) X.env) Q E { u' with heap := k3 } := by
          intro Q E q
          rcases hc with ⟨hg, hdb, hm | ⟨hm, hv, hnn⟩⟩
          · exact ld_glob (X := X.suite a ((a, oe3) :: (X.pn ++ pins))) T3 hg hm q hdb
          · exact ld_blt (X := X.suite a ((a, oe3) :: (X.pn ++ pins))) T3 hg hm hv q hnn hdb
        refine named (lm.here ?_)
        cases b with
        | false =>
          show wpAny _ X.A (handleBy (.ref a) X.env gs2) _ _ _
          exact ih (no rfl)
        | true =>
          rcases o with _ | i <;> rcases n with _ | n <;> try exact nm.elim
          · refine codeAny_handlers_suite (HandSPX.lands_againZ fall3 fun k4 fall4 rise4 => ?_)
            have J4 : Inv X pins τ G { u' with heap := k4 } := J.landed nb fall4.1 ((rise.trans rise3).trans rise4) os ag
            obtain ⟨oe4, vs4, at4, zn4, dt4⟩ := fall4.there
            refine wpAny_mono ((hk a oe4 cls d (X.pn ++ pins) zn4 ⟨_, dt4⟩).run [] _ _ G _ (J4.suite at4 dt4 na offL offF) (yes rfl a na)) (fun f u6 ended => ?_) (fun _ _ z => z.elim)
            cases f with
            | next => exact let ⟨_, _, K, q⟩ := ended; ⟨_, _, K.unsuite good, q⟩
            | brk => exact let ⟨_, _, K, q⟩ := ended; ⟨_, _, K.unsuite good, q⟩
            | cont => exact let ⟨_, _, K, q⟩ := ended; ⟨_, _, K.unsuite good, q⟩
            | ret u => exact let ⟨_, _, _, K, r, q⟩ := ended; ⟨_, _, _, K.unsuite good, r, q⟩
          · obtain ⟨ni, nl⟩ := nm
            refine codeAny_handlers_suite_as (HandSPX.lands_againZ fall3 fun k4 fall4 rise4 => ?_)
            have J4 : Inv X pins τ G { u' with heap := k4 } := J.landed nb fall4.1 ((rise.trans rise3).trans rise4) os ag
            obtain ⟨oe4, vs4, at4, zn4, dt4⟩ := fall4.there
            refine store_ok (X := X.suite a ((a, oe4) :: (X.pn ++ pins))) (v := .ref a) (J4.suite at4 dt4 na offL offF) hN ni (.inl nl) rfl (fun u5 T5 => ?_) (.inr nl)
            refine wpAny_mono ((hk a oe4 cls d (X.pn ++ pins) zn4 ⟨_, dt4⟩).run [] u5 _ G _ T5 (yes rfl a na)) (fun f u6 ended => ?_) (fun _ _ z => z.elim)
            have gone : ∀ {τ6 : L2.St} {G6 : Hp} {Q : Shared → Prop}, Inv (X.suite a ((a, oe4) :: (X.pn ++ pins))) [] τ6 G6 u6 → (∀ u7, Inv X pins (τ6.set i none) G6 u7 → Q u7) →
                wpAny (model X.prog X.w) X.A (do bindName X.env n .none; unbindBehindTheSuite X.env n q) (fun _ u7 => Q u7) X.xe u6 := fun {τ6 G6 Q} K hq => gone_ok (K.unsuite good) hN ni nl hq
            cases f with
            | next => exact let ⟨_, _, K, q⟩ := ended; gone K fun u7 K7 => ⟨_, _, K7, q⟩
            | brk => exact let ⟨_, _, K, q⟩ := ended; gone K fun u7 K7 => ⟨_, _, K7, q⟩
            | cont => exact let ⟨_, _, K, q⟩ := ended; gone K fun u7 K7 => ⟨_, _, K7, q⟩
            | ret u => exact let ⟨_, _, _, K, r, q⟩ := ended; gone K fun u7 K7 => ⟨_, _, _, K7, r, q⟩
    exact each hl wish
  · cases f with
    | next => exact let ⟨_, _, K, q⟩ := ended; wpAny_execs_nil ⟨_, _, K.ofTry good, q⟩
    | brk => exact let ⟨_, _, K, q⟩ := ended; ⟨_, _, K.ofTry good, q⟩
    | cont => exact let ⟨_, _, K, q⟩ := ended; ⟨_, _, K.ofTry good, q⟩
    | ret u => exact let ⟨_, _, _, K, r, q⟩ := ended; ⟨_, _, _, K.ofTry good, r, q⟩
end
abbrev RH1 := (String → Option Bool) × Option Nat × (String → Addr → Addr → RSt)
/-- what the clauses make of an error, one after the other -/
def exL (D' : En) : List RH1 → String → List (Str × D) → Sg → Hq → Prop
  | [] => D'.ex
  | (m, o, rs) :: r => fun n fs σ S => ∃ b, m n = some b ∧ (b = true → ∀ a dd, S dd = none → a ≠ dd → (match o with
      | none => rs n a dd { D' with ex := fun _ _ _ _ => False } σ S
      | some i => rs n a dd (D'.wip i) (σ.set i (some (.ref a))) (up S dd (.exd fs)))) ∧ (b = false → exL D' r n fs σ S)
def rTryL (l : List RH1) (rb : RSt) : RSt := fun D σ S => rb { D with ex := exL D l } σ S
inductive EHs (X : Cx) : List ExceptHandler → List RH1 → Prop
  | nil : EHs X [] []
  | cons {x : Str} {c : Value} {m : String → Option Bool} {o : Option Nat} {n : Option Str} {rs : String → Addr → Addr → RSt} {k : Stmt} {ks : List Stmt} {p q : Pos} {hs : List ExceptHandler} {l : List RH1} (hc : Names X x c) (mo : MOk X.K c m) (nm : NmOk X o n)
      (hk : ∀ (cn : String) (C a : Addr) (oe : Obj) (d : Addr) (pn : List (Addr × Obj)), CN X.K cn C → L2N.Zn (.ref C) (some d) oe → (∃ vs, oe.data = .fields vs) → EB (X.suite a ((a, oe) :: pn)) W0 (k :: ks) (rs cn a d)) (r : EHs X hs l) :
      EHs X (.ExceptHandler (some (.Name x p)) n (k :: ks) q :: hs) ((m, o, rs) :: l)
section
variable {X : Cx} {Wout : WX} {body : List Stmt} {hd : ExceptHandler} {hs : List ExceptHandler} {l : List RH1} {pos : Pos} {rb : RSt}
theorem EHs.segs (h : EHs X hs l) : ∃ sg, Segs X hs sg ∧ ∀ (Z : Ends) (D' : En) (S : Hq) (H : Hp) (cn : String) (C : Addr) (fs : List (Str × D)) (σ1' : Sg) (S1 : Hq) (σ1 : L2.St) (H1 : Hp) (dd : Addr), DI X.K Wout S H D' Z → CN X.K cn C → Fr S H S1 H1 → RH X.K S1 H1 → RS X.K H1 σ1' σ1 → XOk X.K H1 dd fs → Nw S H S1 dd →
    exL D' l cn fs σ1' S1 → wSeg X.K Wout Z sg (.ref C) (some dd) σ1 H1 := by
  induction h with
  | nil => exact ⟨[], .nil, fun D D' S H cn C fs σ1' S1 σ1 H1 dd d cc f1 rh1 rs1 ok nw h => d.ex cn C fs σ1' S1 σ1 H1 dd cc f1 rh1 rs1 ok nw h⟩
  | @cons x c m o n rs k ks p q hs l hc mo nm hk r ih =>
    obtain ⟨sg, hsg, nxt⟩ := ih
    refine ⟨(c, o, fun a cls d => fun D σ H => ∃ cn C dd, cls = .ref C ∧ d = some dd ∧ CN X.K cn C ∧ dnB X.K W0 (rs cn a dd) D σ H) :: sg, .cons hc nm (fun a oe cls d pn hz hf => ⟨fun pins s σ H D I h => ?_⟩) hsg, ?_⟩
    · obtain ⟨cn, C, dd, rfl, rfl, cc, h⟩ := h
      exact (hk cn C a oe dd pn cc hz hf).pe.run pins s σ H D I h
    · intro D D' S H cn C fs σ1' S1 σ1 H1 dd d cc f1 rh1 rs1 ok nw h1
      obtain ⟨b, eb, h2, h3⟩ := h1
      refine ⟨b, mo cn C b cc eb, fun hb' a ha => ?_, fun hb' => nxt D D' S H cn C fs σ1' S1 σ1 H1 dd d cc f1 rh1 rs1 ok nw (h3 hb')⟩
      have had : a ≠ dd := fun z => by obtain ⟨ys, q, _⟩ := ok; rw [z, q] at ha; cases ha
      have h2 := h2 hb' a dd nw.2 had
      cases o with
      | none =>
        have d2 := d.go f1
        exact ⟨cn, C, dd, rfl, rfl, cc, _, _, _, rs1, rh1, h2, ⟨d2.nx, d2.rt, d2.bk, d2.ct, fun _ _ _ _ _ _ _ _ _ _ _ _ _ _ z => z.elim⟩⟩
      | some i =>
        have d2 := d.go (f1.exd (fs := fs) nw)
        exact ⟨cn, C, dd, rfl, rfl, cc, _, _, _, rs1.set (.ref a) i, rh1.exd ok, h2, ⟨fun σ2' S2 σ2 H2 f3 rh2 rs2 h => d2.nx _ _ _ _ f3 rh2 (rs2.setN i) h, d2.rt, fun σ2' S2 σ2 H2 f3 rh2 rs2 h => d2.bk _ _ _ _ f3 rh2 (rs2.setN i) h, fun σ2' S2 σ2 H2 f3 rh2 rs2 h => d2.ct _ _ _ _ f3 rh2 (rs2.setN i) h, fun _ _ _ _ _ _ _ _ _ _ _ _ _ _ z => z.elim⟩⟩
theorem es_tryL (hst : X.stack = X.env :: X.outer) (hf : X.env.frame = some X.env.locals) (hN : X.N.Nodup) (tk : L2N.Takes X Wout)
    (hb : ∀ (W : WX) (pn : List (Addr × Obj)) (xe : Value → Shared → Prop), L2N.Takes (X.tr pn xe) W → PassesOwn (model X.prog X.w) X.A X.env xe → EB (X.tr pn xe) W body rb)
    (hl : EHs X (hd :: hs) l) : ES X Wout (.Try body (hd :: hs) [] [] pos) (rTryL l rb) := by
  obtain ⟨sg, hsg, go⟩ := hl.segs (Wout := Wout)
  refine ⟨_, ps_segs (tb := fun W => dnB X.K W rb) (Wout := Wout) hst hf hN tk (fun W pn xe tk' po => (hb W pn xe tk' po).pe) hsg, fun σ σ' H S D D' rs' rh h d => ?_⟩
  exact ⟨σ', S, _, rs', rh, h, d.nx, d.rt, d.bk, d.ct, fun cn C fs σ1' S1 σ1 H1 dd cc f1 rh1 rs1 ok nw h1 => go D D' S H cn C fs σ1' S1 σ1 H1 dd d cc f1 rh1 rs1 ok nw h1⟩
end
end Y
set_option maxHeartbeats 2000000
set_option pp.maxSteps 200
namespace Y
open PySem PySem.Spec PyProof.Rows L2
/-! ### min of a list of numbers -/
def minD1 (ds : List D) (S : Hq) (Q : Qv) : Prop := match ds with
  | [x] => lsv x S fun xs => ∃ ns : List Int, xs = ns.map D.int ∧ 0 < ns.length ∧ ∀ m, m ∈ ns → (∀ y ∈ ns, m ≤ y) → Q (.int m) S
  | _ => False
theorem lc_min1 {K : PySem.W.Frag} : LiftC K minD1 (rMin K) := by
  intro ds S H Q' Q vs rh dv h q
  rcases ds with _ | ⟨x, _ | ⟨y, r⟩⟩
  · exact h.elim
  · cases dv with | @cons _ v _ _ dx t =>
    cases t
    obtain ⟨a, xs, vs, rfl, s, r, ⟨ns, rfl, l, h⟩, _⟩ := rh.lsv dx h
    rw [r.ints] at s
    exact ⟨_, ns, rfl, s, l, fun m hm hy => q.here rh (.int _) (h m hm hy)⟩
  · exact h.elim
/-! ### xs.index(k) of numbers -/
def ixiD (x : D) (ds : List D) (S : Hq) (Q : Qv) : Prop := match ds with
  | [.int z] => lsv x S fun xs => ∃ (zs : List Int) (j : Nat), xs = zs.map D.int ∧ zs[j]? = some z ∧ (∀ m, m < j → zs[m]? ≠ some z) ∧ Q (.int j) S
  | _ => False
theorem lm_ixi {K : PySem.W.Frag} : LiftM K ixiD (rIndex K) := by
  intro x ds S H Q' Q v vs rh dx dv h q
  match ds, dv, h with
  | [.int z], .cons (.int _) .nil, h =>
    obtain ⟨a, xs, ws, rfl, s, r, ⟨zs, j, rfl, e, n, h⟩, _⟩ := rh.lsv dx h
    rw [r.ints] at s
    refine ⟨a, _, .int z, j, .int z, rfl, rfl, s, rfl, ?_, by rw [List.getElem?_map, e]; rfl, ?_, fun m z' hm hz => ?_, q.here rh (.int _) h⟩
    · rw [List.all_eq_true]; intro y hy; obtain ⟨t, _, rfl⟩ := List.mem_map.mp hy; rfl
    · simp [eqV]
    · rw [List.getElem?_map] at hz
      cases g : zs[m]? with
      | none => rw [g] at hz; cases hz
      | some t =>
        rw [g] at hz; cases hz
        have : t ≠ z := fun c => n m hm (by rw [g, c])
        simp [eqV, this]
/-! ### tuple(reversed(xs)), xs a list -/
def tupRD (x : D) (S : Hq) (Q : Qv) : Prop := lsv x S fun xs => Q (.tup xs.reverse) S
section
variable {X : Cx} {W : WX} {S : Hq} {Q : Qv} {x : D}
theorem ev_tupRev {e : Expr} {re : RE} {p p2 pos pos2 : Pos} (hc : X.calm = true) (hm : X.mg "tuple" = none) (hm2 : X.mg "reversed" = none) (he : EV X W e re) (hg : Gl X "tuple" := by rfl) (hg2 : Gl X "reversed" := by rfl)
    (hs : starEach [e] X.env = (false, eval e X.env) :: starEach [] X.env := by rfl)
    (hs2 : starEach [.Call (.Name "reversed" p2) [e] [] pos2] X.env = (false, eval (.Call (.Name "reversed" p2) [e] [] pos2) X.env) :: starEach [] X.env := by rfl) :
    EV X W (.Call (.Name "tuple" p) [.Call (.Name "reversed" p2) [e] [] pos2] [] pos) (rUn tupRD re) := by
  obtain ⟨T, pe, l⟩ := he.ex
  refine ⟨_, RT.pe_tupRev hc hg hm hg2 hm2 pe hs hs2, fun σ σ' H S Q Q' E' rs rh h q xi => ?_⟩
  refine l σ σ' H S _ _ E' rs rh h (fun x S1 v H1 f1 rh1 dv h1 => ?_) xi
  obtain ⟨a, xs, vs, rfl, s, r, h2, _⟩ := rh1.lsv dv h1
  exact ⟨a, vs, rfl, s, fun p hp => (q.go f1).newT rh1 hp r.rev h2⟩
theorem k_min1 : minD1 [x] S Q = lsv x S fun xs => ∃ ns : List Int, xs = ns.map D.int ∧ 0 < ns.length ∧ ∀ m, m ∈ ns → (∀ y ∈ ns, m ≤ y) → Q (.int m) S := rfl
theorem k_ixi {z : Int} : ixiD x [.int z] S Q = lsv x S fun xs => ∃ (zs : List Int) (j : Nat), xs = zs.map D.int ∧ zs[j]? = some z ∧ (∀ m, m < j → zs[m]? ≠ some z) ∧ Q (.int j) S := rfl
theorem k_tupR : tupRD x S Q = lsv x S fun xs => Q (.tup xs.reverse) S := rfl
/-! ### list(range(n)) -/
def lrD (m : Nw2) (x : D) (S : Hq) (Q : Qv) : Prop := match x with
  | .int n => 0 ≤ n ∧ n ≤ 16777216 ∧ m ((List.range n.toNat).map fun k : Nat => D.int k) S Q
  | _ => False
theorem DVs.rg {K : PySem.W.Frag} {H : Hp} {n : Int} : DVs K H ((List.range n.toNat).map fun k : Nat => D.int k) (rgV 0 n) := by
  have e : (List.range n.toNat).map (fun k : Nat => D.int k) = ((List.range n.toNat).map fun k : Nat => (k : Int)).map D.int := by rw [List.map_map]; rfl
  have e2 : rgV 0 n = ((List.range n.toNat).map fun k : Nat => (k : Int)).map V.int := by
    unfold rgV
    rw [List.map_map]
    simp
  rw [e, e2]
  exact DVs.ofInts
theorem ev_lrG {m : Nw2} {fz : VK → VK} {e : Expr} {re : RE} {p p2 pos pos2 : Pos} (lay : Lays X.K m fz) (hz : ∀ (e : Expr) (t : TE), PE X e t → PE X e (fun σ H Q => t σ H (fz Q))) (hc : X.calm = true) (hm : X.mg "list" = none) (hm2 : X.mg "range" = none) (he : EV X W e re) (hg : Gl X "list" := by rfl) (hg2 : Gl X "range" := by rfl)
    (hs : starEach [e] X.env = (false, eval e X.env) :: starEach [] X.env := by rfl)
    (hs2 : starEach [.Call (.Name "range" p2) [e] [] pos2] X.env = (false, eval (.Call (.Name "range" p2) [e] [] pos2) X.env) :: starEach [] X.env := by rfl) :
    EV X W (.Call (.Name "list" p) [.Call (.Name "range" p2) [e] [] pos2] [] pos) (rUn (lrD m) re) := by
  obtain ⟨T, pe, l⟩ := he.ex
  refine ⟨_, hz _ _ (pe_listRg hc hg hm (prg_1 hg2 hm2 pe hs) hs2), fun σ σ' H S Q Q' E' rs rh h q xi => ?_⟩
  refine l σ σ' H S _ _ E' rs rh h (fun x S1 v H1 f1 rh1 dv h1 => ?_) xi
  cases x with
  | int n =>
    cases dv
    obtain ⟨h0, hn, h2⟩ := h1
    exact ⟨n, rfl, RgOk.of_le (by omega) hn (by omega) h0, fun p hp => lay _ _ _ _ _ _ p (q.go f1) rh1 hp DVs.rg h2⟩
  | _ => exact h1.elim
theorem fzT (e : Expr) (t : TE) (h : PE X e t) : PE X e (fun σ H Q => t σ H (id Q)) := h
theorem fzF (e : Expr) (t : TE) (h : PE X e t) : PE X e (fun σ H Q => t σ H (fzV Q)) := pe_fz h
theorem k_lr {m : Nw2} {n : Int} : lrD m (.int n) S Q = (0 ≤ n ∧ n ≤ 16777216 ∧ m ((List.range n.toNat).map fun k : Nat => D.int k) S Q) := rfl
end
end Y
set_option maxHeartbeats 2000000
set_option pp.maxSteps 200
namespace Y
open PySem PySem.Spec PyProof.Rows L2
/-! ### x in a tuple, its parts of any depth -/
def rInTD (K : PySem.W.Frag) (g : Bool → Bool) : R2 := fun x y H Q => ∃ d ds, Dp K H x d ∧ Dp K H y (.tuple ds) ∧ SeqAt.shaped d = true ∧ SeqAt.shaped (.tuple ds) = true ∧ Q (.bl (g (ds.any fun z => PyData.eqv z d))) H
def inTd (g : Bool → Bool) : R2q := fun x y S Q => match y with
  | .tup ys => okE x ∧ okE (.tup ys) ∧ Q (.bl (g ((pds ys).any fun z => PyData.eqv z (pd x)))) S
  | _ => False
section
variable {X : Cx} {K : PySem.W.Frag}
theorem room_tup {d : PyData} {ds : List PyData} {u : Nat} (h : SeqAt.shaped d = true) (hu : u + 65 < cLine) : u + 1 + min (PyData.depthAll ds) d.depth < cLine := by
  have : d.depth ≤ 64 := by
    unfold SeqAt.shaped at h
    simp only [Bool.and_eq_true, decide_eq_true_eq] at h
    exact h.2
  have := Nat.min_le_right (PyData.depthAll ds) d.depth
  omega
theorem op_inTD (hu : X.A.units + 65 < cLine) : OpR X (compareOp .In) (rInTD X.K id) := by
  intro pins s σ H x y v u Q I rx ry h
  obtain ⟨d, ds, hd, he, sd, se, q⟩ := h
  obtain ⟨as, ra⟩ := Dp.reads I d x v hd rx
  obtain ⟨bs, rb⟩ := Dp.reads I (.tuple ds) y u he ry
  exact SeqAt.in_tuple_reads rb ra (SeqAt.canLay_of_shaped se) (SeqAt.canLay_of_shaped sd) (room_tup sd hu) ⟨.bl _, H, I, rfl, q⟩
theorem op_notInTD (hu : X.A.units + 65 < cLine) : OpR X (compareOp .NotIn) (rInTD X.K not) := by
  intro pins s σ H x y v u Q I rx ry h
  obtain ⟨d, ds, hd, he, sd, se, q⟩ := h
  obtain ⟨as, ra⟩ := Dp.reads I d x v hd rx
  obtain ⟨bs, rb⟩ := Dp.reads I (.tuple ds) y u he ry
  exact SeqAt.notIn_tuple_reads rb ra (SeqAt.canLay_of_shaped se) (SeqAt.canLay_of_shaped sd) (room_tup sd hu) ⟨.bl _, H, I, rfl, q⟩
theorem lf_inTd {g : Bool → Bool} : Lift2 K (inTd g) (rInTD K g) := by
  intro x y S H Q' Q v u rh dx dy h q
  cases y with
  | tup ys =>
    obtain ⟨⟨p1, s1⟩, ⟨p2, s2⟩, h⟩ := h
    have e := DV.dp _ _ p2 dy
    exact ⟨pd x, pds ys, DV.dp _ _ p1 dx, by simpa [pd] using e, s1, by simpa [pd] using s2, q.here rh (.bl _) h⟩
  | _ => exact h.elim
theorem q_inTd {g : Bool → Bool} {x : D} {ys : List D} {S : Hq} {Q : Qv} : inTd g x (.tup ys) S Q = (okE x ∧ okE (.tup ys) ∧ Q (.bl (g ((pds ys).any fun z => PyData.eqv z (pd x)))) S) := rfl
end
end Y
namespace K25
open PySem PySem.Spec PyProof.Rows L2 Y

/-- a row that one is drawn of -/
def Itm (S : Hq) (b : Addr) (x : D) (xs : List D) : Prop := x = .kl xs ∨ x = .tup xs ∨ ∃ a, x = .ref a ∧ a ≠ b ∧ S a = some (.lst xs)
def p2 (p : Int × Int) : D := .tup [.int p.1, .int p.2]
def prD (ps : List (Int × Int)) : D := .tup (ps.map p2)
/-- who leads to a name, of those that are left -/
def ldr (ps : List (Int × Int)) (left : List Int) (nm : Int) : List Int := (ps.filter fun p => decide (p.2 = nm) && decide (p.1 ∈ left)).map (·.1)
def fre (ps : List (Int × Int)) (left : List Int) : List Int := left.filter fun n => (ldr ps left n).isEmpty
def ordr (ps : List (Int × Int)) : Nat → List Int → List Int → List Int × List Int
  | 0, left, o => (o, left)
  | n + 1, left, o => match fre ps left with
    | [] => (o, left)
    | x :: _ => ordr ps n (left.filter fun y => decide (y ≠ x)) (o ++ [x])
def insS (k : Int) : List Int → List Int
  | [] => [k]
  | x :: xs => if k < x then k :: x :: xs else if k = x then x :: xs else x :: insS k xs
def nms (ps : List (Int × Int)) : List Int := (ps.flatMap fun p => [p.1, p.2]).foldr insS []
def ordd (ps : List (Int × Int)) : List Int × List Int := ordr ps (nms ps).length (nms ps) []
def Ps : Nat → D → Prop
  | 0, _ => False
  | n + 1, d => match d with
    | .tup xs => xs.length ≤ 100000 ∧ ∀ x ∈ xs, Ps n x
    | .non => True | .int _ => True | .str _ => True
    | _ => False
def RingOk (ps : List (Int × Int)) (r : List Int) : Prop := 2 ≤ r.length ∧ r.length ≤ 64 ∧ r.Nodup ∧ (∀ i a b, r[i]? = some a → r[i + 1]? = some b → (a, b) ∈ ps) ∧ ∀ a b, r[r.length - 1]? = some a → r[0]? = some b → (a, b) ∈ ps
def TbC (S : Hq) : Prop := ∃ P, S P = some (.tb "_law_asked")
def Pk (ps : List (Int × Int)) : Prop := ps.length ≤ 1000 ∧ (nms ps).length < 64 ∧ ∀ p ∈ ps, p.1 ≠ p.2
/-- pairs of two unlike names of 32 -/
def Gp (p : Int × Int) : Prop := 0 ≤ p.1 ∧ p.1 < 32 ∧ 0 ≤ p.2 ∧ p.2 < 32 ∧ p.1 ≠ p.2
/-- the first so many unlike ones -/
def oncs (n : Nat) : List (Int × Int) → List (Int × Int) → List (Int × Int)
  | [], acc => acc
  | p :: r, acc => oncs n r (if p ∉ acc ∧ acc.length < n then acc ++ [p] else acc)
def onci (n : Nat) : List Int → List Int → List Int
  | [], acc => acc
  | p :: r, acc => onci n r (if p ∉ acc ∧ acc.length < n then acc ++ [p] else acc)

def sp_leaders : Sq := fun ds S Q _ => ∃ (ps : List (Int × Int)) (left : List Int) (nm : Int), ds = [prD ps, .kl (left.map D.int), .int nm] ∧ ps.length ≤ 1000 ∧ left.length ≤ 1000 ∧ Q (.kl ((ldr ps left nm).map D.int)) S
theorem ln_leaders : ∀ ds S Q E, sp_leaders ds S Q E → ds.length = 3 := by rintro _ _ _ _ ⟨p, l, n, rfl, _⟩; rfl
theorem nx_leaders : ∀ ds S Q E, sp_leaders ds S Q E → sp_leaders ds S Q NoX := fun _ _ _ _ h => h
theorem leaders_of {ps : List (Int × Int)} {left : List Int} {nm : Int} {S : Hq} {Q : Qv} (hp : ps.length ≤ 1000) (hl : left.length ≤ 1000) (q : Q (.kl ((ldr ps left nm).map D.int)) S) : sp_leaders [prD ps, .kl (left.map D.int), .int nm] S Q NoX := ⟨ps, left, nm, rfl, hp, hl, q⟩

def rd_leaders : RSt :=
 (rRet (rLcF (iSeq (rVar 0)) (gTp 2 (gConss (gNm 3) (gConss (gNm 4) gNils))) (rAnd (rTst (rBin (eqD3 id) (rVar 4) (rVar 2))) (rTst (rBin (inD3 id) (rVar 3) (rVar 1)))) (rVar 3) [3, 4]))

def sp_ordered : Sq := fun ds S Q _ => ∃ (ps : List (Int × Int)), ds = [prD ps] ∧ ps.length ≤ 1000 ∧ (nms ps).length < 64 ∧ Q (.tup [.kl ((ordd ps).1.map D.int), .kl ((ordd ps).2.map D.int)]) S
theorem ln_ordered : ∀ ds S Q E, sp_ordered ds S Q E → ds.length = 1 := by rintro _ _ _ _ ⟨p, rfl, _⟩; rfl
theorem nx_ordered : ∀ ds S Q E, sp_ordered ds S Q E → sp_ordered ds S Q NoX := fun _ _ _ _ h => h
theorem ordered_of {ps : List (Int × Int)} {S : Hq} {Q : Qv} (hp : ps.length ≤ 1000) (hl : (nms ps).length < 64) (q : Q (.tup [.kl ((ordd ps).1.map D.int), .kl ((ordd ps).2.map D.int)]) S) : sp_ordered [prD ps] S Q NoX := ⟨ps, rfl, hp, hl, q⟩

def rd_ordered : RSt :=
 (rSeq (rSet (rSS nwF (iSeq (rVar 0)) (gNm 5) rYes (rVar 5) (gNm 4) rYes (rVar 4) [5, 4] [4]) (gNm 1))
 (rSeq (rSet (rLst rNil) (gNm 2))
 (rSeq (rSet (rLcF (iLst (rVar 1)) (gNm 4) (rNot (rTru (rCall sp_leaders (rCons (rVar 0) (rCons (rVar 1) (rCons (rVar 4) rNil)))))) (rVar 4) [4]) (gNm 3))
 (rSeq (rWhile (rTru (rVar 3))
 (rSeq (rDrop (rMt "list" appD (rVar 2) (rCons (rBin ixD (rVar 3) (rC (.int 0))) rNil)))
 (rSeq (rSet (rLcF (iLst (rVar 1)) (gNm 4) (rTst (rBin (eqD3 not) (rVar 4) (rBin ixD (rVar 3) (rC (.int 0))))) (rVar 4) [4]) (gNm 1))
 (rSet (rLcF (iLst (rVar 1)) (gNm 4) (rNot (rTru (rCall sp_leaders (rCons (rVar 0) (rCons (rVar 1) (rCons (rVar 4) rNil)))))) (rVar 4) [4]) (gNm 3)))))
 (rRet (rTup (rCons (rFz (rVar 2)) (rCons (rVar 1) rNil))))))))

theorem ordr_end {ps : List (Int × Int)} : ∀ {n : Nat} {left o : List Int}, left.length ≤ n → fre ps (ordr ps n left o).2 = []
  | 0, left, o, h => by
    have : left = [] := List.length_eq_zero_iff.mp (by omega)
    subst this
    rfl
  | n + 1, left, o, h => by
    unfold ordr
    split
    · assumption
    · rename_i x r hf
      have hx : x ∈ left := (List.mem_filter.mp (show x ∈ fre ps left by rw [hf]; simp)).1
      have hlt : (left.filter fun y => decide (y ≠ x)).length < left.length := List.length_filter_lt_length_iff_exists.mpr ⟨x, hx, by simp⟩
      exact ordr_end (by omega)
theorem ordr_sub {ps : List (Int × Int)} : ∀ {n : Nat} {left o : List Int}, (ordr ps n left o).2.Sublist left
  | 0, left, o => .refl _
  | n + 1, left, o => by
    unfold ordr
    split
    · exact .refl _
    · exact (ordr_sub (n := n)).trans List.filter_sublist
theorem led {ps : List (Int × Int)} {left : List Int} (h : fre ps left = []) {x : Int} (hx : x ∈ left) : ∃ y ys, ldr ps left x = y :: ys ∧ y ∈ left ∧ (y, x) ∈ ps := by
  have := List.filter_eq_nil_iff.mp h x hx
  cases e : ldr ps left x with
  | nil => rw [e] at this; simp at this
  | cons y ys =>
    have m : y ∈ ldr ps left x := by rw [e]; simp
    unfold ldr at m
    obtain ⟨p, mp, rfl⟩ := List.mem_map.mp m
    obtain ⟨mp, c⟩ := List.mem_filter.mp mp
    simp only [Bool.and_eq_true, decide_eq_true_eq] at c
    refine ⟨p.1, ys, rfl, c.2, ?_⟩
    rw [← c.1]
    exact mp
def sp_ring_in : Sq := fun ds S Q _ => ∃ (ps : List (Int × Int)), ds = [prD ps] ∧ Pk ps ∧ ((ordd ps).2 = [] → Q .non S) ∧ ((ordd ps).2 ≠ [] → ∀ r S', RingOk ps r → Ex S S' → Q (.tup (r.map D.int)) S')
theorem ln_ring_in : ∀ ds S Q E, sp_ring_in ds S Q E → ds.length = 1 := by rintro _ _ _ _ ⟨p, rfl, _⟩; rfl
theorem nx_ring_in : ∀ ds S Q E, sp_ring_in ds S Q E → sp_ring_in ds S Q NoX := fun _ _ _ _ h => h
theorem ring_of {ps : List (Int × Int)} {S : Hq} {Q : Qv} (hp : Pk ps) (q : (ordd ps).2 = [] → Q .non S) (q2 : (ordd ps).2 ≠ [] → ∀ r S', RingOk ps r → Ex S S' → Q (.tup (r.map D.int)) S') : sp_ring_in [prD ps] S Q NoX := ⟨ps, rfl, hp, q, q2⟩
theorem ring_mk {ps : List (Int × Int)} {l : List Int} {z : Int} (h1 : l.length ≤ 64) (nd : l.Nodup) (ch : ∀ i a b, l[i]? = some a → l[i + 1]? = some b → (b, a) ∈ ps) (h0 : l[0]? = some z) (hz : ∀ b, l[l.length - 1]? = some b → (z, b) ∈ ps) (ns : ∀ p ∈ ps, p.1 ≠ p.2) : RingOk ps l.reverse := by
  have hpos : 0 < l.length := by
    rcases Nat.eq_zero_or_pos l.length with e | e
    · rw [List.length_eq_zero_iff.mp e] at h0; cases h0
    · exact e
  have h2 : 2 ≤ l.length := by
    rcases Nat.lt_or_ge l.length 2 with h | h
    · have e : l.length - 1 = 0 := by omega
      have := hz z (by rw [e]; exact h0)
      exact absurd rfl (ns _ this)
    · exact h
  refine ⟨by rw [List.length_reverse]; exact h2, by rw [List.length_reverse]; exact h1, List.pairwise_reverse.mpr (nd.imp fun h e => h e.symm), fun i a b ha hb => ?_, fun a b ha hb => ?_⟩
  · have hi : i + 1 < l.length := by
      have := (List.getElem?_eq_some_iff.mp hb).1
      rwa [List.length_reverse] at this
    rw [List.getElem?_reverse (by omega)] at ha hb
    exact ch (l.length - 1 - (i + 1)) b a hb (by rw [show l.length - 1 - (i + 1) + 1 = l.length - 1 - i by omega]; exact ha)
  · rw [List.length_reverse, List.getElem?_reverse (by omega)] at ha
    rw [List.getElem?_reverse (by omega)] at hb
    rw [show l.length - 1 - (l.length - 1) = 0 by omega, h0] at ha
    cases ha
    exact hz b (by simpa using hb)

def rd_ring_in : RSt :=
 (rSeq (rSet (rBin ixD (rCall sp_ordered (rCons (rVar 0) rNil)) (rC (.int 1))) (gNm 1))
 (rSeq (rIfS (rNot (rTru (rVar 1)))
 (rRet (rC .non))
 rNext)
 (rSeq (rSet (rLst (rCons (rBin ixD (rVar 1) (rC (.int 0))) rNil)) (gNm 2))
 (rSeq (rSet (rBin ixD (rCall sp_leaders (rCons (rVar 0) (rCons (rVar 1) (rCons (rBin ixD (rVar 1) (rC (.int 0))) rNil)))) (rC (.int 0))) (gNm 3))
 (rSeq (rWhile (rTst (rBin (inD3 not) (rVar 3) (rVar 2)))
 (rSeq (rDrop (rMt "list" appD (rVar 2) (rCons (rVar 3) rNil)))
 (rSet (rBin ixD (rCall sp_leaders (rCons (rVar 0) (rCons (rVar 1) (rCons (rVar 3) rNil)))) (rC (.int 0))) (gNm 3))))
 (rSeq (rSet (rSlM nwF (rVar 2) (rPrt (rMt "list" ixiD (rVar 2) (rCons (rVar 3) rNil))) rNoP) (gNm 4))
 (rRet (rUn tupRD (rVar 4)))))))))

def sp_law_like (n : Nat) : Sq := fun ds S Q _ => ∃ d, ds = [d, d] ∧ Ps n d ∧ Q (.bl true) S
theorem ln_law_like : ∀ n ds S Q E, sp_law_like n ds S Q E → ds.length = 2 := by rintro _ _ _ _ _ ⟨b, rfl, _⟩; rfl
theorem nx_law_like : ∀ n ds S Q E, sp_law_like n ds S Q E → sp_law_like n ds S Q NoX := fun _ _ _ _ _ h => h
theorem zr_law_like : ∀ ds S Q E, sp_law_like 0 ds S Q E → False := by rintro _ _ _ _ ⟨b, rfl, h, _⟩; exact h

def rd_law_like (self : Sq) : RSt :=
 (rSeq (rIfS (rTst (rBin isD (rVar 1) (rC .non)))
 (rRet (rBin isD (rVar 0) (rC .non)))
 rNext)
 (rSeq (rIfS (rTst (rFn isi2D (rCons (rVar 1) (rCons (rC (.ty "tuple")) rNil))))
 (rSeq (rIfS (rOr (rNot (rTst (rFn isi2D (rCons (rVar 0) (rCons (rC (.ty "tuple")) rNil))))) (rTst (rBin (eqD3 not) (rFn lenD (rCons (rVar 0) rNil)) (rFn lenD (rCons (rVar 1) rNil)))))
 (rRet (rC (.bl false)))
 rNext)
 (rRet (rBin (eqD3 id) (rFn lenD (rCons (rLcF (iRg1 (rCons (rFn lenD (rCons (rVar 1) rNil)) rNil)) (gNm 2) (rNot (rTst (rCall self (rCons (rBin ixD (rVar 0) (rVar 2)) (rCons (rBin ixD (rVar 1) (rVar 2)) rNil))))) (rVar 2) [2]) rNil)) (rC (.int 0)))))
 rNext)
 (rSeq (rIfS (rTst (rFn isi2D (rCons (rVar 1) (rCons (rC (.ty "str")) rNil))))
 (rRet (rAndV (rFn isi2D (rCons (rVar 0) (rCons (rC (.ty "str")) rNil))) (rBin (eqD3 id) (rVar 0) (rVar 1))))
 rNext)
 (rSeq (rIfS (rOr (rTst (rFn isi2D (rCons (rVar 1) (rCons (rC (.ty "bool")) rNil)))) (rTst (rFn isi2D (rCons (rVar 0) (rCons (rC (.ty "bool")) rNil)))))
 (rRet (rAndV (rFn isi2D (rCons (rVar 1) (rCons (rC (.ty "bool")) rNil))) (rAndV (rFn isi2D (rCons (rVar 0) (rCons (rC (.ty "bool")) rNil))) (rBin (eqD3 id) (rVar 0) (rVar 1)))))
 rNext)
 (rRet (rAndV (rFn isi2D (rCons (rVar 1) (rCons (rC (.ty "int")) rNil))) (rAndV (rFn isi2D (rCons (rVar 0) (rCons (rC (.ty "int")) rNil))) (rBin (eqD3 id) (rVar 0) (rVar 1)))))))))

def sp_hand_order : Sq := fun ds S Q E => ∃ (ps : List (Int × Int)), ds = [prD ps] ∧ ps.length ≤ 1000 ∧ (nms ps).length < 64 ∧ ((ordd ps).2 = [] → Q (.tup ((ordd ps).1.map D.int)) S) ∧ ((ordd ps).2 ≠ [] → E "Refused" [("value", prD ps)] S)
theorem ln_hand_order : ∀ ds S Q E, sp_hand_order ds S Q E → ds.length = 1 := by rintro _ _ _ _ ⟨p, rfl, _⟩; rfl

def rd_hand_order : RSt :=
 (rSeq (rSet (rCall sp_ordered (rCons (rVar 0) rNil)) (gTp 2 (gConss (gNm 1) (gConss (gNm 2) gNils))))
 (rSeq (rIfS (rTru (rVar 2))
 (rRaise "Refused" "value" (rCons (rVar 0) rNil))
 rNext)
 (rRet (rFn tupF3 (rCons (rVar 1) rNil)))))

def sp_law_take : Sq := fun ds S Q _ => ∃ b n, ds = [.ref b, .int n] ∧ Bx S b ∧ 0 < n ∧ n < 2 ^ 63 ∧ ∀ r S', 0 ≤ r → r < n → Nx b S S' → Q (.int r) S'
theorem ln_law_take : ∀ ds S Q E, sp_law_take ds S Q E → ds.length = 2 := by rintro _ _ _ _ ⟨b, n, rfl, _⟩; rfl
theorem nx_law_take : ∀ ds S Q E, sp_law_take ds S Q E → sp_law_take ds S Q NoX := fun _ _ _ _ h => h
theorem take_of {b : Addr} {n : Int} {S : Hq} {Q : Qv} (hb : Bx S b) (h0 : 0 < n) (h1 : n < 2 ^ 63) (q : ∀ r S', 0 ≤ r → r < n → Nx b S S' → Q (.int r) S') : sp_law_take [.ref b, .int n] S Q NoX := ⟨b, n, rfl, hb, h0, h1, q⟩

def rd_law_take : RSt :=
 (rSeq (rIfS (rTst (rBin gtD2 (rBin ixD (rVar 0) (rC (.int 0))) (rC (.int 0))))
 (rSeq (rSet (rBin modD (rFn intF (rCons (rBin ixD (rVar 0) (rC (.int 0))) rNil)) (rVar 1)) (gNm 3))
 (rSeq (rSet (rBin fdivD (rBin ixD (rVar 0) (rC (.int 0))) (rVar 1)) (gSb (rVar 0) (rC (.int 0))))
 (rRet (rVar 3))))
 rNext)
 (rSeq (rSet (rBin modD (rFn intF (rCons (rBin (addM nwF) (rBin mulM (rBin ixD (rVar 0) (rC (.int 1))) (rC (.int 40692))) (rC (.int 97))) rNil)) (rC (.int 2147483399))) (gNm 2))
 (rSeq (rSet (rBin (addM nwF) (rBin modD (rFn intF (rCons (rBin (addM nwF) (rBin mulM (rVar 2) (rC (.int 40014))) (rC (.int 11))) rNil)) (rC (.int 2147483587))) (rC (.int 1))) (gSb (rVar 0) (rC (.int 1))))
 (rRet (rBin modD (rFn intF (rCons (rBin fdivD (rBin (addM nwF) (rBin mulM (rVar 2) (rC (.int 2147483629))) (rBin ixD (rVar 0) (rC (.int 1)))) (rC (.int 8209))) rNil)) (rVar 1))))))

def sp_law_mixed : Sq := fun ds S Q _ => ∃ (b : Addr) (x : D) (xs : List D), ds = [.ref b, x] ∧ Bx S b ∧ (x = .kl xs ∨ ∃ a, x = .ref a ∧ a ≠ b ∧ S a = some (.lst xs)) ∧ xs.length ≤ 1000 ∧ ∀ (ys : List D) S', ys.Perm xs → Nx b S S' → Q (.kl ys) S'
theorem ln_law_mixed : ∀ ds S Q E, sp_law_mixed ds S Q E → ds.length = 2 := by rintro _ _ _ _ ⟨b, x, xs, rfl, _⟩; rfl
theorem nx_law_mixed : ∀ ds S Q E, sp_law_mixed ds S Q E → sp_law_mixed ds S Q NoX := fun _ _ _ _ h => h

def rd_law_mixed : RSt :=
 (rSeq (rPar 3 4 (rCons (rFn (lstM nwT) (rCons (rVar 1) rNil)) (rCons (rLst rNil) rNil)))
 (rSeq (rFor (iRg1 (rCons (rFn lenD (rCons (rVar 1) rNil)) rNil)) (gNm 2)
 (rDrop (rMt "list" appD (rVar 4) (rCons (rMt "list" popD (rVar 3) (rCons (rCall sp_law_take (rCons (rVar 0) (rCons (rFn lenD (rCons (rVar 3) rNil)) rNil))) rNil)) rNil))))
 (rRet (rFz (rVar 4)))))

def sp_law_some : Sq := fun ds S Q _ => ∃ (b : Addr) (most many : Nat), ds = [.ref b, .int most, .int many] ∧ Bx S b ∧ most ≤ 40 ∧ many ≤ most ∧ ∀ (ys : List Int) S', ys.length = many → ys.Nodup → (∀ y ∈ ys, 0 ≤ y ∧ y < most) → Nx b S S' → Q (.kl (ys.map D.int)) S'
theorem ln_law_some : ∀ ds S Q E, sp_law_some ds S Q E → ds.length = 3 := by rintro _ _ _ _ ⟨b, m, n, rfl, _⟩; rfl
theorem nx_law_some : ∀ ds S Q E, sp_law_some ds S Q E → sp_law_some ds S Q NoX := fun _ _ _ _ h => h

def rd_law_some : RSt :=
 (rSeq (rPar 4 5 (rCons (rUn (lrD nwT) (rVar 1)) (rCons (rLst rNil) rNil)))
 (rSeq (rFor (iRg1 (rCons (rVar 2) rNil)) (gNm 3)
 (rDrop (rMt "list" appD (rVar 5) (rCons (rMt "list" popD (rVar 4) (rCons (rCall sp_law_take (rCons (rVar 0) (rCons (rFn lenD (rCons (rVar 4) rNil)) rNil))) rNil)) rNil))))
 (rRet (rFn (srtM nwF) (rCons (rVar 5) rNil)))))

def sp_law_pick : Sq := fun ds S Q _ => ∃ b x xs, ds = [.ref b, x] ∧ Bx S b ∧ Itm S b x xs ∧ 0 < xs.length ∧ xs.length < 1000000 ∧ ∀ d S', d ∈ xs → Nx b S S' → Q d S'
theorem ln_law_pick : ∀ ds S Q E, sp_law_pick ds S Q E → ds.length = 2 := by rintro _ _ _ _ ⟨b, a, xs, rfl, _⟩; rfl
theorem nx_law_pick : ∀ ds S Q E, sp_law_pick ds S Q E → sp_law_pick ds S Q NoX := fun _ _ _ _ h => h
theorem pick_of {b : Addr} {xs : List D} {S : Hq} {Q : Qv} (hb : Bx S b) (h0 : 0 < xs.length) (h1 : xs.length < 1000000) (q : ∀ d S', d ∈ xs → Nx b S S' → Q d S') : sp_law_pick [.ref b, .kl xs] S Q NoX := ⟨b, _, xs, rfl, hb, .inl rfl, h0, h1, q⟩
theorem pickR_of {b a : Addr} {xs : List D} {S : Hq} {Q : Qv} (hb : Bx S b) (ne : a ≠ b) (ha : S a = some (.lst xs)) (h0 : 0 < xs.length) (h1 : xs.length < 1000000) (q : ∀ d S', d ∈ xs → Nx b S S' → Q d S') : sp_law_pick [.ref b, .ref a] S Q NoX := ⟨b, _, xs, rfl, hb, .inr (.inr ⟨a, rfl, ne, ha⟩), h0, h1, q⟩

def rd_law_pick : RSt :=
 (rRet (rBin ixD (rVar 1) (rCall sp_law_take (rCons (rVar 0) (rCons (rFn lenD (rCons (rVar 1) rNil)) rNil)))))

def sp_law_once : Sq := fun ds S Q _ => (∃ (ps : List (Int × Int)) (n : Nat), ds = [.kl (ps.map p2), .int n] ∧ ps.length ≤ 1000 ∧ Q (.kl ((oncs n ps []).map p2)) S) ∨ ∃ (ps : List Int) (n : Nat), ds = [.kl (ps.map D.int), .int n] ∧ ps.length ≤ 1000 ∧ Q (.kl ((onci n ps []).map D.int)) S
theorem ln_law_once : ∀ ds S Q E, sp_law_once ds S Q E → ds.length = 2 := by rintro _ _ _ _ (⟨b, xs, rfl, _⟩ | ⟨b, xs, rfl, _⟩) <;> rfl
theorem nx_law_once : ∀ ds S Q E, sp_law_once ds S Q E → sp_law_once ds S Q NoX := fun _ _ _ _ h => h

def rd_law_once : RSt :=
 (rSeq (rSet (rLst rNil) (gNm 2))
 (rSeq (rFor (iAny (rVar 0)) (gNm 3)
 (rIfS (rAnd (rTst (rBin (inD3 not) (rVar 3) (rVar 2))) (rTst (rBin ltD (rFn lenD (rCons (rVar 2) rNil)) (rVar 1))))
 (rDrop (rMt "list" appD (rVar 2) (rCons (rVar 3) rNil)))
 rNext))
 (rRet (rFz (rVar 2)))))

def sp_law_pairs : Sq := fun ds S Q _ => ∃ b, ds = [.ref b] ∧ Bx S b ∧ ∀ ps S', ps.length ≤ 60 → (∀ p ∈ ps, Gp p) → Nx b S S' → Q (prD ps) S'
theorem ln_law_pairs : ∀ ds S Q E, sp_law_pairs ds S Q E → ds.length = 1 := by rintro _ _ _ _ ⟨d, rfl, _⟩; rfl
theorem nx_law_pairs : ∀ ds S Q E, sp_law_pairs ds S Q E → sp_law_pairs ds S Q NoX := fun _ _ _ _ h => h

def rd_law_pairs : RSt :=
 (rSeq (rSet (rCall sp_law_mixed (rCons (rVar 0) (rCons (rCall sp_law_some (rCons (rVar 0) (rCons (rC (.int 32)) (rCons (rBin (addM nwF) (rC (.int 2)) (rCall sp_law_take (rCons (rVar 0) (rCons (rC (.int 11)) rNil)))) rNil)))) rNil))) (gNm 1))
 (rSeq (rPar3 3 4 5 (rCons (rFn lenD (rCons (rVar 1) rNil)) (rCons (rCall sp_law_take (rCons (rVar 0) (rCons (rC (.int 5)) rNil))) (rCons (rLst rNil) rNil))))
 (rSeq (rFor (iRg1 (rCons (rCall sp_law_pick (rCons (rVar 0) (rCons (rLstF (rCons (rC (.int 0)) (rCons (rC (.int 3)) (rCons (rC (.int 9)) (rCons (rC (.int 20)) (rCons (rC (.int 50)) rNil)))))) rNil))) rNil)) (gNm 2)
 (rSeq (rSet (rCall sp_law_some (rCons (rVar 0) (rCons (rVar 3) (rCons (rC (.int 2)) rNil)))) (gNm 6))
 (rDrop (rMt "list" appD (rVar 5) (rCons (rTup (rCons (rBin ixD (rVar 1) (rBin ixD (rVar 6) (rC (.int 0)))) (rCons (rBin ixD (rVar 1) (rBin ixD (rVar 6) (rC (.int 1)))) rNil))) rNil)))))
 (rSeq (rIfS (rTst (rBin (eqD3 id) (rVar 4) (rC (.int 1))))
 (rSeq (rSet (rCall sp_law_some (rCons (rVar 0) (rCons (rVar 3) (rCons (rC (.int 2)) rNil)))) (gNm 6))
 (rDrop (rMt "list" appD (rVar 5) (rCons (rTup (rCons (rBin ixD (rVar 1) (rBin ixD (rVar 6) (rC (.int 1)))) (rCons (rBin ixD (rVar 1) (rBin ixD (rVar 6) (rC (.int 0)))) rNil))) rNil))))
 rNext)
 (rSeq (rIfS (rTst (rBin (eqD3 id) (rVar 4) (rC (.int 2))))
 (rSeq (rSet (rSlM nwF (rCall sp_law_mixed (rCons (rVar 0) (rCons (rVar 1) rNil))) rNoP (rPrt (rBin (addM nwF) (rC (.int 2)) (rCall sp_law_take (rCons (rVar 0) (rCons (rBin subD (rVar 3) (rC (.int 1))) rNil)))))) (gNm 7))
 (rSet (rBin (addM nwT) (rBin (addM nwF) (rVar 5) (rLcF (iRg1 (rCons (rBin subD (rFn lenD (rCons (rVar 7) rNil)) (rC (.int 1))) rNil)) (gNm 8) rYes (rTup (rCons (rBin ixD (rVar 7) (rVar 8)) (rCons (rBin ixD (rVar 7) (rBin (addM nwF) (rVar 8) (rC (.int 1)))) rNil))) [8])) (rLstF (rCons (rTup (rCons (rBin ixD (rVar 7) (rUn negD (rC (.int 1)))) (rCons (rBin ixD (rVar 7) (rC (.int 0))) rNil))) rNil))) (gNm 5)))
 rNext)
 (rSeq (rIfS (rTst (rBin (eqD3 id) (rVar 4) (rC (.int 3))))
 (rSet (rBin (addM nwT) (rVar 5) (rLcF (iLst (rLcF (iRg1 (rCons (rBin (addM nwF) (rC (.int 1)) (rCall sp_law_take (rCons (rVar 0) (rCons (rC (.int 9)) rNil)))) rNil)) (gNm 2) rYes (rCall sp_law_some (rCons (rVar 0) (rCons (rC (.int 32)) (rCons (rC (.int 2)) rNil)))) [2])) (gNm 6) rYes (rTup (rCons (rBin ixD (rVar 6) (rC (.int 1))) (rCons (rBin ixD (rVar 6) (rC (.int 0))) rNil))) [6])) (gNm 5))
 rNext)
 (rRet (rFn tupF3 (rCons (rCall sp_law_once (rCons (rCall sp_law_mixed (rCons (rVar 0) (rCons (rVar 5) rNil))) (rCons (rC (.int 60)) rNil))) rNil)))))))))

def sp_law_box : Sq := fun ds S Q _ => ∃ (ns : List Int) (k : Int), ds = [.kl (ns.map D.int), .int k] ∧ ns.length ≤ 63 ∧ 0 ≤ k ∧ k < 1000 ∧ ∀ p g s, S p = none → Q (.ref p) (up S p (.lst [.int g, .int s]))
theorem ln_law_box : ∀ ds S Q E, sp_law_box ds S Q E → ds.length = 2 := by rintro _ _ _ _ ⟨b, n, rfl, _⟩; rfl
theorem nx_law_box : ∀ ds S Q E, sp_law_box ds S Q E → sp_law_box ds S Q NoX := fun _ _ _ _ h => h

def rd_law_box : RSt :=
 (rSeq (rSet (rBin (addM nwF) (rBin mulM (rC (.int 8311)) (rVar 1)) (rC (.int 2909))) (gNm 2))
 (rSeq (rIfS (rTst (rBin ltD (rVar 1) (rFn lenD (rCons (rVar 0) rNil))))
 (rSet (rFn absD (rCons (rFn intF (rCons (rBin ixD (rVar 0) (rVar 1)) rNil)) rNil)) (gNm 2))
 (rIfS (rTst (rBin gtD2 (rFn lenD (rCons (rVar 0) rNil)) (rC (.int 0))))
 (rSet (rBin (addM nwF) (rVar 2) (rBin mulM (rBin modD (rFn intF (rCons (rFn absD (rCons (rFn intF (rCons (rBin ixD (rVar 0) (rBin modD (rFn intF (rCons (rVar 1) rNil)) (rFn lenD (rCons (rVar 0) rNil)))) rNil)) rNil)) rNil)) (rC (.int 2147483587))) (rC (.int 54727)))) (gNm 2))
 rNext))
 (rSeq (rSet (rIf (rTst (rBin geD (rVar 2) (rBin powD (rC (.int 10)) (rC (.int 18))))) (rVar 2) (rC (.int 0))) (gNm 3))
 (rRet (rLst (rCons (rVar 3) (rCons (rBin (addM nwF) (rBin modD (rFn intF (rCons (rBin (addM nwF) (rBin mulM (rBin modD (rFn intF (rCons (rVar 2) rNil)) (rC (.int 2147483587))) (rC (.int 69069))) (rBin mulM (rC (.int 2909)) (rVar 1))) rNil)) (rC (.int 2147483587))) (rC (.int 1))) rNil)))))))

theorem fre_mem {ps : List (Int × Int)} {L A : List Int} (h : ∀ k, k ∈ L ↔ k ∈ A) {n : Int} : n ∈ L.filter (fun n => decide (n ∉ (ps.filter fun p => decide (p.1 ∈ L)).map (·.2))) ↔ n ∈ fre ps A := by
  unfold fre
  rw [List.mem_filter, List.mem_filter, h n, decide_eq_true_eq, List.isEmpty_iff]
  have e : n ∉ (ps.filter fun p => decide (p.1 ∈ L)).map (·.2) ↔ ldr ps A n = [] := by
    unfold ldr
    rw [List.map_eq_nil_iff, List.filter_eq_nil_iff]
    constructor
    · intro hn p mp c
      simp only [Bool.and_eq_true, decide_eq_true_eq] at c
      exact hn (List.mem_map.mpr ⟨p, List.mem_filter.mpr ⟨mp, by simpa using (h p.1).mpr c.2⟩, c.1⟩)
    · intro hn m
      obtain ⟨p, mp, rfl⟩ := List.mem_map.mp m
      obtain ⟨mp, c⟩ := List.mem_filter.mp mp
      exact hn p mp (by simpa using (h p.1).mp (by simpa using c))
  rw [e]
theorem fre_ris {ps : List (Int × Int)} {A : List Int} (h : A.Pairwise (· < ·)) : (fre ps A).Pairwise (· < ·) := h.sublist List.filter_sublist
theorem fre_min {ps : List (Int × Int)} {A r : List Int} {x m : Int} (h : A.Pairwise (· < ·)) (e : fre ps A = x :: r) (hm : m ∈ fre ps A) (ml : ∀ y ∈ fre ps A, m ≤ y) : m = x := by
  have h1 := ml x (by rw [e]; simp)
  rw [e] at hm
  rcases List.mem_cons.mp hm with h2 | h2
  · exact h2
  · have := fre_ris (ps := ps) h
    rw [e, List.pairwise_cons] at this
    have := this.1 m h2
    omega
def sp_law_least_order : Sq := fun ds S Q _ => ∃ (ps : List (Int × Int)), ds = [prD ps] ∧ Pk ps ∧ ((ordd ps).2 = [] → ∀ S', Ex S S' → Q (.tup ((ordd ps).1.map D.int)) S') ∧ ((ordd ps).2 ≠ [] → ∀ S', Ex S S' → Q .non S')
theorem ln_law_least_order : ∀ ds S Q E, sp_law_least_order ds S Q E → ds.length = 1 := by rintro _ _ _ _ ⟨b, rfl, _⟩; rfl
theorem nx_law_least_order : ∀ ds S Q E, sp_law_least_order ds S Q E → sp_law_least_order ds S Q NoX := fun _ _ _ _ h => h

def rd_law_least_order : RSt :=
 (rSeq (rSet (rTup (rCons (rLst rNil) (rCons (rLst rNil) rNil))) (gTp 2 (gConss (gNm 3) (gConss (gNm 4) gNils))))
 (rSeq (rFor (iSeq (rVar 0)) (gNm 1)
 (rSet (rBin (addM nwT) (rVar 3) (rLcF (iSeq (rVar 1)) (gNm 7) (rTst (rBin (inD3 not) (rVar 7) (rVar 3))) (rVar 7) [7])) (gNm 3)))
 (rSeq (rFor (iRg1 (rCons (rFn lenD (rCons (rVar 3) rNil)) rNil)) (gNm 2)
 (rSeq (rSet (rLcF (iSeq (rVar 0)) (gNm 1) (rTst (rBin (inD3 id) (rBin ixD (rVar 1) (rC (.int 0))) (rVar 3))) (rBin ixD (rVar 1) (rC (.int 1))) [1]) (gNm 5))
 (rSeq (rSet (rLcF (iLst (rVar 3)) (gNm 7) (rTst (rBin (inD3 not) (rVar 7) (rVar 5))) (rVar 7) [7]) (gNm 6))
 (rSeq (rIfS (rTst (rBin (eqD3 id) (rVar 6) (rLstF rNil)))
 (rRet (rC .non))
 rNext)
 (rSeq (rDrop (rMt "list" appD (rVar 4) (rCons (rFn minD1 (rCons (rVar 6) rNil)) rNil)))
 (rDrop (rMt "list" remD3 (rVar 3) (rCons (rFn minD1 (rCons (rVar 6) rNil)) rNil))))))))
 (rRet (rFn tupF3 (rCons (rVar 4) rNil))))))

theorem onci_nd {n : Nat} : ∀ {r acc : List Int}, (acc ++ r).Nodup → acc.length + r.length ≤ n → onci n r acc = acc ++ r
  | [], acc, _, _ => by rw [List.append_nil]; rfl
  | x :: r, acc, h, hl => by
    have hx : x ∉ acc := fun m => (List.nodup_append.mp h).2.2 x m x (by simp) rfl
    show onci n r (if x ∉ acc ∧ acc.length < n then acc ++ [x] else acc) = _
    rw [List.length_cons] at hl
    rw [if_pos ⟨hx, by omega⟩, onci_nd (by rw [List.append_assoc]; exact h) (by simp; omega), List.append_assoc]
    rfl
def sp_law_is_ring : Sq := fun ds S Q _ => ∃ (ps : List (Int × Int)) (r : List Int), ds = [prD ps, .tup (r.map D.int)] ∧ ps.length ≤ 1000 ∧ RingOk ps r ∧ Q (.bl true) S
theorem ln_law_is_ring : ∀ ds S Q E, sp_law_is_ring ds S Q E → ds.length = 2 := by rintro _ _ _ _ ⟨b, xs, rfl, _⟩; rfl
theorem nx_law_is_ring : ∀ ds S Q E, sp_law_is_ring ds S Q E → sp_law_is_ring ds S Q NoX := fun _ _ _ _ h => h

def rd_law_is_ring : RSt :=
 (rSeq (rIfS (rOr (rNot (rTst (rFn isi2D (rCons (rVar 1) (rCons (rC (.ty "tuple")) rNil))))) (rTst (rBin ltD (rFn lenD (rCons (rVar 1) rNil)) (rC (.int 2)))))
 (rRet (rC (.bl false)))
 rNext)
 (rSeq (rSet (rLcF (iSeq (rVar 1)) (gNm 3) (rAnd (rTst (rFn isi2D (rCons (rVar 3) (rCons (rC (.ty "int")) rNil)))) (rNot (rTst (rFn isi2D (rCons (rVar 3) (rCons (rC (.ty "bool")) rNil)))))) (rVar 3) [3]) (gNm 2))
 (rSeq (rIfS (rOr (rTst (rBin (eqD3 not) (rFn lenD (rCons (rVar 2) rNil)) (rFn lenD (rCons (rVar 1) rNil)))) (rTst (rBin (eqD3 not) (rFn lenD (rCons (rCall sp_law_once (rCons (rVar 2) (rCons (rFn lenD (rCons (rVar 2) rNil)) rNil))) rNil)) (rFn lenD (rCons (rVar 2) rNil)))))
 (rRet (rC (.bl false)))
 rNext)
 (rRet (rBin (eqD3 id) (rLcF (iRg1 (rCons (rFn lenD (rCons (rVar 1) rNil)) rNil)) (gNm 4) (rTst (rBin (inTd not) (rTup (rCons (rBin ixD (rVar 1) (rBin subD (rVar 4) (rC (.int 1)))) (rCons (rBin ixD (rVar 1) (rVar 4)) rNil))) (rVar 0))) (rVar 4) [4]) (rLstF rNil))))))

def rd_law_refused (f d : Addr) (o : HQ) (th : Th) : RSt :=
 (rSeq (rTryL (((mL [("Refused", false)]), none, (fun cn a dd => (rRet (rC .non)))) :: (((mL [("Refused", true)]), (some 1), (fun cn a dd => rGd (cn = "Refused") (rRet (rTup (rCons (rC (.str (Str.ofString "refused"))) (rCons (rBy "Refused" "value" cn a dd (rVar 1)) rNil)))))) :: [])) (rDrop (rAsk f d o th)))
 (rRet (rC .non)))

def sp_law_refused (f d : Addr) (o : HQ) (th : Th) (S : Hq) (Q : Qv) : Prop := rd_law_refused f d o th { nx := fun _ S => Q .non S, rt := Q } (start' 2 [.ref f]) S

theorem ordr_len {ps : List (Int × Int)} : ∀ {n : Nat} {left o : List Int}, (ordr ps n left o).1.length ≤ o.length + n
  | 0, left, o => Nat.le_refl _
  | n + 1, left, o => by
    unfold ordr
    split
    · show o.length ≤ _; omega
    · rename_i x r hf
      have := ordr_len (ps := ps) (n := n) (left := left.filter fun y => decide (y ≠ x)) (o := o ++ [x])
      rw [List.length_append, List.length_singleton] at this
      omega
def sp_law_asked : Sq := fun ds S Q _ => ∃ ps, ds = [prD ps] ∧ Pk ps ∧ TbC S ∧ ∀ S', Ex S S' → Q (.bl true) S'
theorem ln_law_asked : ∀ ds S Q E, sp_law_asked ds S Q E → ds.length = 1 := by rintro _ _ _ _ ⟨d, rfl, _⟩; rfl
theorem nx_law_asked : ∀ ds S Q E, sp_law_asked ds S Q E → sp_law_asked ds S Q NoX := fun _ _ _ _ h => h

def rd_law_asked : RSt :=
 (rSeq (rPar 1 2 (rCons (rCall sp_law_least_order (rCons (rVar 0) rNil)) (rCons (rCall sp_ring_in (rCons (rVar 0) rNil)) rNil)))
 (rSeq (rIfS (rTst (rBin isntD (rVar 1) (rC .non)))
 (rSeq (rIfS (rOr (rTst (rBin isntD (rVar 2) (rC .non))) (rTst (rBin isntD (rCallK sp_ring_in 0 1 [0] rNil (rCons (rVar 0) rNil)) (rC .non))))
 (rRet (rC (.bl false)))
 rNext)
 (rRet (rCall (sp_law_like 4) (rCons (rTup (rCons (rCallX sp_hand_order (rCons (rVar 0) rNil)) (rCons (rCallXK sp_hand_order 0 1 [0] (rCons (rVar 0) rNil)) rNil))) (rCons (rTup (rCons (rVar 1) (rCons (rVar 1) rNil))) rNil)))))
 rNext)
 (rSeq (rIfS (rOr (rNot (rTst (rCall sp_law_is_ring (rCons (rVar 0) (rCons (rVar 2) rNil))))) (rNot (rTst (rCall sp_law_is_ring (rCons (rVar 0) (rCons (rCallK sp_ring_in 0 1 [0] rNil (rCons (rVar 0) rNil)) rNil))))))
 (rRet (rC (.bl false)))
 rNext)
 (rRet (rCall (sp_law_like 4) (rCons (rLam "_law_asked" sp_law_refused (rCallX sp_hand_order (rCons (rVar 0) rNil))) (rCons (rTup (rCons (rC (.str (Str.ofString "refused"))) (rCons (rVar 0) rNil))) rNil)))))))

def sp_law : Sq := fun ds S Q _ => ∃ ns : List Int, ds = [.kl (ns.map D.int)] ∧ ns.length ≤ 63 ∧ TbC S ∧ ∀ S', Q (.bl true) S'
theorem ln_law : ∀ ds S Q E, sp_law ds S Q E → ds.length = 1 := by rintro _ _ _ _ ⟨b, rfl, _⟩; rfl
theorem nx_law : ∀ ds S Q E, sp_law ds S Q E → sp_law ds S Q NoX := fun _ _ _ _ h => h
theorem law_ok {P : Addr} : ∀ (ns : List Int) (Q' : Qv), ns.length ≤ 63 → (∀ S', Q' (.bl true) S') → sp_law [.kl (ns.map D.int)] (S0 [(P, "_law_asked")]) Q' NoX := fun ns Q h k => ⟨ns, rfl, h, ⟨P, by unfold S0; rw [List.lookup_cons, show (P == P) = true from beq_self_eq_true P]; rfl⟩, k⟩

def rd_law : RSt :=
 (rSeq (rIfS (rOr (rTst (rBin isntD (rCall sp_ring_in (rCons (rTup rNil) rNil)) (rC .non))) (rNot (rTst (rCall (sp_law_like 4) (rCons (rCallX sp_hand_order (rCons (rTup rNil) rNil)) (rCons (rTup rNil) rNil))))))
 (rRet (rC (.bl false)))
 rNext)
 (rSeq (rTryAs (mL [("Refused", true)]) 1 (rSeq (rDrop (rCallX sp_hand_order (rCons (rTup (rCons (rTup (rCons (rC (.int 3)) (rCons (rC (.int 1)) rNil))) (rCons (rTup (rCons (rC (.int 1)) (rCons (rC (.int 3)) rNil))) rNil))) rNil)))
 (rRet (rC (.bl false)))) (fun cn a dd => rGd (cn = "Refused") (rIfS (rOr (rTst (Y.rIsE [("Refused", "BadDeed", true, false), ("Refused", "Refused", true, true), ("Refused", "ValueError", false, true)] cn a dd (rCons (rVar 1) (rCons (rC (.cl "BadDeed")) rNil)))) (rOr (rNot (rTst (Y.rIsE [("Refused", "BadDeed", true, false), ("Refused", "Refused", true, true), ("Refused", "ValueError", false, true)] cn a dd (rCons (rVar 1) (rCons (rC (.cl "Refused")) rNil))))) (rNot (rTst (Y.rIsE [("Refused", "BadDeed", true, false), ("Refused", "Refused", true, true), ("Refused", "ValueError", false, true)] cn a dd (rCons (rVar 1) (rCons (rC (.ty "ValueError")) rNil)))))))
 (rRet (rC (.bl false)))
 rNext)))
 (rSeq (rFor (iRg1 (rCons (rFn maxD (rCons (rC (.int 3)) (rCons (rFn minD (rCons (rFn lenD (rCons (rVar 0) rNil)) (rCons (rC (.int 6)) rNil))) rNil))) rNil)) (gNm 2)
 (rSeq (rSet (rCall sp_law_pairs (rCons (rCall sp_law_box (rCons (rVar 0) (rCons (rVar 2) rNil))) rNil)) (gNm 3))
 (rIfS (rOr (rNot (rTst (rCall sp_law_asked (rCons (rVar 3) rNil)))) (rOr (rNot (rTst (rCall sp_law_asked (rCons (rSlM nwF (rVar 3) (rPrt (rC (.int 1))) rNoP) rNil)))) (rNot (rTst (rCall sp_law_asked (rCons (rVar 3) rNil))))))
 (rRet (rC (.bl false)))
 rNext)))
 (rRet (rC (.bl true))))))

end K25
namespace K25
open PySem PySem.Spec PyProof.Rows L2 Y
theorem map_eraseI {α β : Type} {f : α → β} : ∀ (l : List α) (i : Nat), (l.map f).eraseIdx i = (l.eraseIdx i).map f
  | [], _ => rfl
  | _ :: _, 0 => rfl
  | a :: l, i + 1 => by
    show f a :: (l.map f).eraseIdx i = f a :: (l.eraseIdx i).map f
    rw [map_eraseI l i]
theorem perm_pop {α : Type} {y : α} : ∀ {ls : List α} {j : Nat}, ls[j]? = some y → (y :: ls.eraseIdx j).Perm ls
  | [], _, h => by simp at h
  | a :: r, 0, h => by simp at h; subst h; exact .refl _
  | a :: r, j + 1, h => by
    rw [List.getElem?_cons_succ] at h
    rw [List.eraseIdx_cons_succ]
    exact (List.Perm.swap a y _).trans ((perm_pop h).cons a)
theorem Nb_is {xs : List Int} {n : Nat} : ∀ x ∈ xs.map D.int, Nb n x := fun x hx => by
  obtain ⟨i, _, rfl⟩ := List.mem_map.mp hx; exact .int i
theorem in_ints {xs : List Int} {x : Int} : ((pds (xs.map D.int)).any fun z => PyData.eqv z (pd (.int x))) = decide (x ∈ xs) := by
  rw [Bool.eq_iff_iff, Nb.any (n := 0) (m := 0) Nb_is (.int x), decide_eq_true_eq]
  constructor
  · intro h; obtain ⟨y, hy, e⟩ := List.mem_map.mp h; cases e; exact hy
  · intro h; exact List.mem_map.mpr ⟨x, h, rfl⟩
theorem ok_int {x : Int} : okE (.int x) := Nb.ok (n := 0) (.int x) (by decide)
theorem ok_ints {xs : List Int} : okE (.tup (xs.map D.int)) := Nb.ok (n := 1) (.tup Nb_is) (by decide)
theorem Nb_prs {ps : List (Int × Int)} : ∀ x ∈ ps.map p2, Nb 1 x := fun x m => by
  obtain ⟨p, _, rfl⟩ := List.mem_map.mp m
  exact .tup fun y my => by
    rcases List.mem_cons.mp my with rfl | my
    · exact .int _
    · rcases List.mem_cons.mp my with rfl | my
      · exact .int _
      · cases my
theorem p2_inj {p q : Int × Int} (h : p2 p = p2 q) : p = q := by
  obtain ⟨a, b⟩ := p
  obtain ⟨c, d⟩ := q
  unfold p2 at h
  cases h
  rfl
theorem in_prs {ps : List (Int × Int)} {p : Int × Int} : ((pds (ps.map p2)).any fun z => PyData.eqv z (pd (p2 p))) = decide (p ∈ ps) := by
  rw [Bool.eq_iff_iff, Nb.any (n := 1) (m := 1) Nb_prs (Nb_prs (ps := [p]) _ (by simp)), decide_eq_true_eq]
  constructor
  · intro h; obtain ⟨y, hy, e⟩ := List.mem_map.mp h; exact p2_inj e ▸ hy
  · intro h; exact List.mem_map.mpr ⟨p, h, rfl⟩
theorem ok_pr {p : Int × Int} : okE (p2 p) := Nb.ok (n := 1) (Nb_prs (ps := [p]) _ (by simp)) (by decide)
theorem ok_prs {ps : List (Int × Int)} : okE (.tup (ps.map p2)) := Nb.ok (n := 2) (.tup Nb_prs) (by decide)
theorem mem_insS {k j : Int} : ∀ {xs : List Int}, j ∈ insS k xs ↔ j = k ∨ j ∈ xs
  | [] => by simp [insS]
  | x :: xs => by
    unfold insS
    split
    · simp
    split
    · rename_i h
      subst h
      simp
    · rw [List.mem_cons, mem_insS, List.mem_cons]
      constructor
      · rintro (a | a | a)
        · exact .inr (.inl a)
        · exact .inl a
        · exact .inr (.inr a)
      · rintro (a | a | a)
        · exact .inr (.inl a)
        · exact .inl a
        · exact .inr (.inr a)
theorem ris_insS {k : Int} : ∀ {xs : List Int}, xs.Pairwise (· < ·) → (insS k xs).Pairwise (· < ·)
  | [], _ => by simp [insS]
  | x :: xs, h => by
    unfold insS
    split
    · rename_i c
      rw [List.pairwise_cons]
      refine ⟨fun y m => ?_, h⟩
      rcases List.mem_cons.mp m with e | m
      · omega
      · have := (List.pairwise_cons.mp h).1 y m; omega
    split
    · exact h
    · rename_i c c2
      rw [List.pairwise_cons] at h ⊢
      refine ⟨fun y m => ?_, ris_insS h.2⟩
      rcases mem_insS.mp m with e | m
      · omega
      · exact h.1 y m
theorem ris_fold : ∀ (ks : List Int), (ks.foldr insS []).Pairwise (· < ·)
  | [] => .nil
  | k :: ks => ris_insS (ris_fold ks)
theorem mem_fold {j : Int} : ∀ {ks : List Int}, j ∈ ks.foldr insS [] ↔ j ∈ ks
  | [] => by simp
  | k :: ks => by rw [List.foldr_cons, mem_insS, mem_fold, List.mem_cons]
theorem ris_nms {ps : List (Int × Int)} : (nms ps).Pairwise (· < ·) := ris_fold _
theorem mem_nms {ps : List (Int × Int)} {j : Int} : j ∈ nms ps ↔ ∃ p ∈ ps, j = p.1 ∨ j = p.2 := by
  unfold nms
  rw [mem_fold, List.mem_flatMap]
  constructor
  · rintro ⟨p, m, h⟩
    exact ⟨p, m, by simpa using h⟩
  · rintro ⟨p, m, h⟩
    exact ⟨p, m, by simpa using h⟩
theorem nd_ris {xs : List Int} (h : xs.Pairwise (· < ·)) : xs.Nodup := h.imp fun h e => by omega
theorem ldr_len {ps : List (Int × Int)} {left : List Int} {nm : Int} : (ldr ps left nm).length ≤ ps.length := by
  unfold ldr
  rw [List.length_map]
  exact List.length_filter_le _ _
theorem oncs_sub {n : Nat} : ∀ {ps acc : List (Int × Int)} {p : Int × Int}, p ∈ oncs n ps acc → p ∈ ps ∨ p ∈ acc
  | [], acc, p, h => .inr h
  | x :: r, acc, p, h => by
    rcases oncs_sub (show p ∈ oncs n r (if x ∉ acc ∧ acc.length < n then acc ++ [x] else acc) from h) with h | h
    · exact .inl (List.mem_cons_of_mem _ h)
    · split at h
      · rcases List.mem_append.mp h with h | h
        · exact .inr h
        · rw [List.mem_singleton.mp h]; exact .inl (by simp)
      · exact .inr h
theorem oncs_len {n : Nat} : ∀ {ps acc : List (Int × Int)}, acc.length ≤ n → (oncs n ps acc).length ≤ n
  | [], acc, h => h
  | x :: r, acc, h => by
    show (oncs n r (if x ∉ acc ∧ acc.length < n then acc ++ [x] else acc)).length ≤ n
    refine oncs_len ?_
    split
    · rename_i c; rw [List.length_append, List.length_singleton]; omega
    · exact h
theorem pk_of {ps : List (Int × Int)} (hl : ps.length ≤ 60) (h : ∀ p ∈ ps, Gp p) : Pk ps := by
  refine ⟨by omega, ?_, fun p m => (h p m).2.2.2.2⟩
  have : (nms ps).length ≤ ((List.range 32).map fun k : Nat => (k : Int)).length := len_sub (nd_ris ris_nms) fun k m => by
    obtain ⟨p, mp, e⟩ := mem_nms.mp m
    have g := h p mp
    unfold Gp at g
    refine List.mem_map.mpr ⟨k.toNat, List.mem_range.mpr ?_, ?_⟩ <;> rcases e with rfl | rfl <;> omega
  rw [List.length_map, List.length_range] at this
  omega
theorem perm_inv {α : Type} {f : α → D} (g : D → α) (hg : ∀ a, g (f a) = a) {ms : List D} {ys : List α} (h : ms.Perm (ys.map f)) : ∃ zs : List α, ms = zs.map f ∧ zs.Perm ys := by
  refine ⟨ms.map g, ?_, ?_⟩
  · rw [List.map_map]
    have : ∀ x ∈ ms, (f ∘ g) x = x := fun x m => by
      obtain ⟨y, _, rfl⟩ := List.mem_map.mp (h.mem_iff.mp m)
      show f (g (f y)) = f y
      rw [hg]
    exact ((List.map_congr_left this).trans (List.map_id' ms)).symm
  · have := h.map g
    rw [List.map_map, show (g ∘ f) = id from funext hg, List.map_id] at this
    exact this
def toI : D → Int | .int i => i | _ => 0
def toP : D → Int × Int | .tup [.int a, .int b] => (a, b) | _ => (0, 0)
theorem gp_names {zs : List Int} (nd : zs.Nodup) (rng : ∀ y ∈ zs, 0 ≤ y ∧ y < 32) {i j : Nat} {a b : Int} (hi : zs[i]? = some a) (hj : zs[j]? = some b) (ne : i ≠ j) : Gp (a, b) := by
  have h1 := rng a (List.mem_of_getElem? hi)
  have h2 := rng b (List.mem_of_getElem? hj)
  refine ⟨h1.1, h1.2, h2.1, h2.2, fun e => ne ?_⟩
  have e : a = b := e
  exact (List.getElem?_inj (List.getElem?_eq_some_iff.mp hi).1 nd).mp (by rw [hi, hj, e])
theorem two_pl {zs pl : List Int} (h : pl.length = 2) (nd : pl.Nodup) (r : ∀ y ∈ pl, 0 ≤ y ∧ y < zs.length) : ∃ u v : Nat, u < zs.length ∧ v < zs.length ∧ u ≠ v ∧ pl = [(u : Int), (v : Int)] ∧ ∃ a c, zs[u]? = some a ∧ zs[v]? = some c := by
  match pl, h with
  | [x, y], _ =>
    have hx := r x (by simp)
    have hy := r y (by simp)
    obtain ⟨u, rfl⟩ := Int.eq_ofNat_of_zero_le hx.1
    obtain ⟨v, rfl⟩ := Int.eq_ofNat_of_zero_le hy.1
    refine ⟨u, v, by omega, by omega, fun e => ?_, rfl, _, _, List.getElem?_eq_getElem (by omega), List.getElem?_eq_getElem (by omega)⟩
    subst e
    simp at nd
theorem ex_list {α β : Type} {f : α → β} {G : α → Prop} : ∀ (acc : List β), (∀ d ∈ acc, ∃ x, d = f x ∧ G x) → ∃ ws : List α, acc = ws.map f ∧ ∀ x ∈ ws, G x
  | [], _ => ⟨[], rfl, by simp⟩
  | d :: acc, h => by
    obtain ⟨x, rfl, g⟩ := h d (by simp)
    obtain ⟨ws, rfl, hw⟩ := ex_list acc fun d m => h d (by simp [m])
    exact ⟨x :: ws, rfl, fun y m => by
      rcases List.mem_cons.mp m with rfl | m
      · exact g
      · exact hw y m⟩
end K25
namespace K25
open PySem PySem.Spec PyProof.Rows L2 Y
theorem pu_leaders : ∀ ds S Q, sp_leaders ds S Q NoX → rd_leaders { nx := fun _ S => Q .non S, rt := Q } (start' 5 ds) S := by
  rintro _ S Q ⟨ps, left, nm, rfl, hp, hl, k⟩
  unfold rd_leaders prD
  array_get_dec
  refine lc_gen p2 (fun p => [some (.tup (ps.map p2)), some (.kl (left.map D.int)), some (.int nm), some (.int p.1), some (.int p.2)]) (fun p => decide (p.2 = nm) && decide (p.1 ∈ left)) (fun p => .int p.1) trivial ps [] (fun p _ N q => ?_) (fun p _ Q q => ?_) (fun p _ _ Q q => ?_) (by simp; omega) ?_
  · unfold p2
    sizeOf_list_dec
    exact q
  · sizeOf_list_dec
    split
    · rename_i h
      refine ⟨ok_int, ok_ints, ?_⟩
      rw [in_ints]
      simpa [h] using q
    · rename_i h
      simpa [h] using q
  · sizeOf_list_dec
    exact q
  · unfold ldr at k
    rw [List.nil_append]
    rw [List.map_map] at k
    exact k
end K25
namespace K25
open PySem PySem.Spec PyProof.Rows L2 Y
theorem pu_ordered : ∀ ds S Q, sp_ordered ds S Q NoX → rd_ordered { nx := fun _ S => Q .non S, rt := Q } (start' 6 ds) S := by
  rintro _ S Q ⟨ps, rfl, hp, hl, k⟩
  unfold rd_ordered prD
  array_get_dec
  have e0 : ps.map p2 = (ps.map fun p => [p.1, p.2]).map fun zs => D.tup (zs.map D.int) := by rw [List.map_map]; rfl
  rw [e0]
  refine ss_ok (i := 5) (j := 4) (U := nms ps) (ps.map fun p => [p.1, p.2]) ?_ ?_ ?_ ?_ hl (fun zs m z mz => ?_) fun ns hr hm => ?_
  · trivial
  · simp
  · simp
  · decide
  · obtain ⟨p, mp, rfl⟩ := List.mem_map.mp m
    exact mem_nms.mpr ⟨p, mp, by simpa using mz⟩
  have en : ns = nms ps := ris_ext hr ris_nms fun j => by
    rw [hm j, mem_nms]
    constructor
    · rintro ⟨zs, m, mz⟩
      obtain ⟨p, mp, rfl⟩ := List.mem_map.mp m
      exact ⟨p, mp, by simpa using mz⟩
    · rintro ⟨p, mp, h⟩
      exact ⟨_, List.mem_map.mpr ⟨p, mp, rfl⟩, by simpa using h⟩
  subst en
  rw [← e0]
  clear hr hm e0
  array_get_dec
  intro q hq
  array_get_dec
  refine lc_ft D.int (fun n => (ldr ps (nms ps) n).isEmpty) D.int trivial (nms ps) (fun n _ Q h => ?_) (fun n _ _ Q h => ?_) (by omega) ?_
  · sizeOf_list_dec
    refine leaders_of hp (by omega) ?_
    sizeOf_list_dec
    rw [List.isEmpty_map, Bool.not_not]
    exact h
  · sizeOf_list_dec
    exact h
  array_get_dec
  refine whl (fun m σ S' => ∃ (left o : List Int) (a b : Option D), S' = up S q (.lst (o.map D.int)) ∧ left.length ≤ m ∧ o.length + m ≤ 64 ∧ ordr ps m left o = ordd ps ∧ σ = [some (.tup (ps.map p2)), some (.kl (left.map D.int)), some (.ref q), some (.kl ((fre ps left).map D.int)), a, b]) (nms ps).length ⟨nms ps, [], _, _, rfl, Nat.le_refl _, by simp; omega, rfl, rfl⟩ ?_
  rintro m σ S' ⟨left, o, a, b, rfl, hm, ho, hor, rfl⟩
  sizeOf_list_dec
  rw [List.isEmpty_map]
  cases hf : fre ps left with
  | nil =>
    array_get_dec
    rw [rm_up hq]
    have e : ordr ps m left o = (o, left) := by
      cases m with
      | zero => rfl
      | succ m => simp only [ordr, hf]
    rw [← hor, e] at k
    exact k
  | cons x r =>
    have hx : x ∈ left := (List.mem_filter.mp (show x ∈ fre ps left by rw [hf]; simp)).1
    have hlt : (left.filter fun y => decide (y ≠ x)).length < left.length := by
      refine List.length_filter_lt_length_iff_exists.mpr ⟨x, hx, by simp⟩
    have hpos := List.length_pos_of_mem hx
    obtain ⟨m, rfl⟩ : ∃ j, m = j + 1 := ⟨m - 1, by omega⟩
    simp only [ordr, hf] at hor
    rw [if_pos (show (!(x :: r).isEmpty) = true from rfl)]
    array_get_dec
    refine ⟨t_lst up_same, by simp; omega, ?_⟩
    rw [up_up]
    array_get_dec
    refine lc_ft D.int (fun y => decide (y ≠ x)) D.int trivial left (fun n _ Q h => ?_) (fun n _ _ Q h => ?_) (by omega) ?_
    · sizeOf_list_dec
      rw [decide_not] at h
      exact h
    · sizeOf_list_dec
      exact h
    array_get_dec
    refine lc_ft D.int (fun n => (ldr ps (left.filter fun y => decide (y ≠ x)) n).isEmpty) D.int trivial (left.filter fun y => decide (y ≠ x)) (fun n _ Q h => ?_) (fun n _ _ Q h => ?_) (by omega) ?_
    · sizeOf_list_dec
      refine leaders_of hp (by omega) ?_
      sizeOf_list_dec
      rw [List.isEmpty_map, Bool.not_not]
      exact h
    · sizeOf_list_dec
      exact h
    array_get_dec
    refine ⟨m, by omega, left.filter fun y => decide (y ≠ x), o ++ [x], ?_, by omega, by simp; omega, hor, _, _, rfl⟩
    rw [List.map_append]; rfl
end K25
namespace K25
open PySem PySem.Spec PyProof.Rows L2 Y
theorem pu_ring_in : ∀ ds S Q, sp_ring_in ds S Q NoX → rd_ring_in { nx := fun _ S => Q .non S, rt := Q } (start' 5 ds) S := by
  rintro _ S Q ⟨ps, rfl, ⟨hp, hl, ns⟩, k, k2⟩
  unfold rd_ring_in
  array_get_dec
  refine ordered_of hp hl ?_
  array_get_dec
  have hend : fre ps (ordd ps).2 = [] := ordr_end (Nat.le_refl _)
  have hsub : (ordd ps).2.length ≤ (nms ps).length := (ordr_sub (ps := ps) (n := (nms ps).length) (left := nms ps) (o := [])).length_le
  generalize (ordd ps).2 = left at k k2 hend hsub
  rw [List.isEmpty_map, Bool.not_not]
  cases left with
  | nil => exact k rfl
  | cons x0 r0 =>
  have k2 := k2 (by simp)
  rw [if_neg (by simp)]
  clear k
  obtain ⟨y, ys, el, hy, hpy⟩ := led hend (show x0 ∈ x0 :: r0 by simp)
  have a0 : atI ((x0 :: r0).map D.int) 0 = some (.int x0) := atI_nat (j := 0) rfl
  have hx0 : x0 ∈ x0 :: r0 := by simp
  generalize x0 :: r0 = left at hend hsub el hy a0 hx0
  array_get_dec
  refine ⟨_, a0, fun q hq => ?_⟩
  array_get_dec
  refine ⟨_, a0, leaders_of hp (by omega) ?_⟩
  rw [el]
  array_get_dec
  refine whl (fun m σ S' => ∃ (back : List Int) (z : Int), ∃ u_ring : Option D, S' = up S q (.lst (back.map D.int)) ∧ back.length + m = left.length ∧ back.Nodup ∧ (∀ x ∈ back, x ∈ left) ∧ (∀ i a b, back[i]? = some a → back[i + 1]? = some b → (b, a) ∈ ps) ∧ 0 < back.length ∧ z ∈ left ∧ (∀ b, back[back.length - 1]? = some b → (z, b) ∈ ps) ∧ σ = [some (prD ps), some (.kl (left.map D.int)), some (.ref q), some (.int z), u_ring]) (left.length - 1) ⟨[x0], y, _, rfl, ?_, by simp, ?_, ?_, by simp, hy, ?_, rfl⟩ ?_
  · have := List.length_pos_of_mem hx0
    simp
    omega
  · intro x m
    rcases List.mem_cons.mp m with rfl | m
    · exact hx0
    · cases m
  · intro i a b _ h
    simp at h
  · intro b h
    cases h
    exact hpy
  rintro m σ S' ⟨back, z, z1, rfl, hlen, nd, sub, ch, pos, hz, hlast, rfl⟩
  sizeOf_list_dec
  refine ⟨ok_int, ok_ints, ?_⟩
  rw [in_ints]
  by_cases hzb : z ∈ back
  · rw [if_neg (by simp [hzb])]
    obtain ⟨j, hj⟩ := List.getElem?_of_mem hzb
    have hjl : j < back.length := (List.getElem?_eq_some_iff.mp hj).1
    have hmin : ∀ m, m < j → back[m]? ≠ some z := fun m hm e => by
      have := (List.getElem?_inj (by omega) nd).mp (e.trans hj.symm)
      omega
    array_get_dec
    refine ⟨t_lst up_same, back, rfl, j, hj, hmin, ?_⟩
    array_get_dec
    have ec : cutL (back.map D.int) (some (j : Int)) none = (back.drop j).map D.int := by
      rw [cutL_from _ (Int.natCast_nonneg j), Int.toNat_natCast, List.map_drop]
    rw [ec, ← List.map_reverse]
    refine k2 _ _ (ring_mk (z := z) ?_ (nd.sublist (List.drop_sublist _ _)) (fun i a b ha hb => ?_) ?_ (fun b hb => ?_) ns) (Ex.up hq)
    · have := len_sub nd sub
      rw [List.length_drop]; omega
    · rw [List.getElem?_drop] at ha hb
      exact ch (j + i) a b ha (by rw [show j + i + 1 = j + (i + 1) by omega]; exact hb)
    · rw [List.getElem?_drop]; exact hj
    · rw [List.length_drop, List.getElem?_drop] at hb
      exact hlast b (by rw [show back.length - 1 = j + (back.length - j - 1) by omega]; exact hb)
  · rw [if_pos (by simp [hzb])]
    have ndz : (back ++ [z]).Nodup := by
      rw [List.nodup_append]
      exact ⟨nd, by simp, fun a m b mb => by rcases List.mem_singleton.mp mb with rfl; exact fun e => hzb (e ▸ m)⟩
    have subz : ∀ x ∈ back ++ [z], x ∈ left := fun x m => by
      rcases List.mem_append.mp m with m | m
      · exact sub x m
      · rw [List.mem_singleton.mp m]; exact hz
    have hlt := len_sub ndz subz
    rw [List.length_append, List.length_singleton] at hlt
    obtain ⟨y2, ys2, el2, hy2, hp2⟩ := led hend hz
    array_get_dec
    refine ⟨t_lst up_same, by simp; omega, ?_⟩
    rw [up_up]
    array_get_dec
    refine leaders_of hp (by omega) ?_
    rw [el2]
    array_get_dec
    refine ⟨m - 1, by omega, back ++ [z], by rw [List.map_append]; rfl, by simp; omega, ndz, subz, fun i a b ha hb => ?_, by simp, y2, hy2, fun b hb => ?_, _, rfl⟩
    · have hi := (List.getElem?_eq_some_iff.mp hb).1
      rw [List.length_append, List.length_singleton] at hi
      rw [List.getElem?_append_left (by omega)] at ha
      rcases Nat.lt_or_ge (i + 1) back.length with c | c
      · rw [List.getElem?_append_left c] at hb
        exact ch i a b ha hb
      · rw [List.getElem?_append_right c, show i + 1 - back.length = 0 by omega] at hb
        cases hb
        exact hlast a (by rw [show back.length - 1 = i by omega]; exact ha)
    · rw [List.length_append, List.length_singleton, List.getElem?_append_right (by omega), show back.length + 1 - 1 - back.length = 0 by omega] at hb
      cases hb
      exact hp2
end K25
namespace K25
open PySem PySem.Spec PyProof.Rows L2 Y
theorem pu_law_like : ∀ n ds S Q, sp_law_like (n + 1) ds S Q NoX → rd_law_like (sp_law_like n) { nx := fun _ S => Q .non S, rt := Q } (start' 3 ds) S := by
  rintro n _ S Q ⟨d, rfl, hp, k⟩
  unfold rd_law_like
  cases d with
  | tup xs =>
    have hl := hp.1
    (try dsimp only); (repeat (first | rw [rSeq_eq] | simp -implicitDefEqProofs only [rVar, rC, rBin, rUn, rTst, rChn, rTru, rAnd, rOr, rNot, rAndV, rOrV, rNotV, rIf, rNil, rCons, rTup, rLst, rFn, rCall, rCallK, rSl, rPrt, rNoP, rMt, gNm, q_gN, q_gC, q_gTp, q_gTl, q_inI, q_rep, gSb, rNext, rDrop, rRet, rRetN, rBrk, rCnt, rIfS, rSet, rPar, rFor, iSeq, iLst, iRg1, iRg2, iZp, iEn, iStrD, rLc, rYes, q_isi2, q_i2N, q_i2B, q_i2I, q_i2S, q_i2T, q_i2L, q_j2N, q_j2B, q_j2I, q_j2S, q_j2T, q_j2L, q_gt2, q_gtT, q_en, q_int2, q_strD, q_rev, q_ixo, q_ext2, q_extT, q_in, q_ins, q_pop, q_any, En.x, wipeD, start', List.getElem?_cons_zero, List.getElem?_cons_succ, List.set_cons_zero, List.set_cons_succ, List.map_cons, List.map_nil, List.length_cons, List.length_nil, List.cons_append, List.nil_append, List.replicate_succ, List.replicate_zero, id, q_asB, q_asI, q_add, q_addS, q_addT, q_addL, q_int, q_sub, q_mul, q_fdiv, q_mod, q_pow, q_neg, q_le, q_ge, q_gt, q_lt, q_ltT, q_isN, q_isB, q_isBi, q_isBs, q_isBn, q_isBt, q_isnt, n_non, n_bl, n_int, n_str, n_tup, n_ref, q_eq, q_eqS, q_eqB, q_ixT, q_ixK, q_ixL, q_ixS, q_slT, q_slL, q_slS, q_set, q_lenT, q_lenK, q_lenS, q_lenL, q_abs, q_intF, q_max, q_min, q_tupT, q_tupL, q_lstT, q_lstL, q_app, q_ext, q_joinL, q_stw, q_seq, q_lst, q_rng, q_rng2, q_zpT, q_zpL, q_truN, q_truB, q_truI, q_truT, q_truL, t_non, t_bl, t_int, t_str, t_tup, q_isiN, q_isiB, q_isiI, q_isiS, q_isiT, i_NoneType_int, i_NoneType_bool, i_NoneType_tuple, i_NoneType_list, i_NoneType_str, i_bool_int, i_bool_bool, i_bool_tuple, i_bool_list, i_bool_str, i_int_int, i_int_bool, i_int_tuple, i_int_list, i_int_str, i_str_int, i_str_bool, i_str_tuple, i_str_list, i_str_str, i_tuple_int, i_tuple_bool, i_tuple_tuple, i_tuple_list, i_tuple_str, i_list_int, i_list_bool, i_list_tuple, i_list_list, i_list_str, i_dict_int, i_dict_bool, i_dict_tuple, i_dict_list, i_dict_str, up_same, g_02, g_02', g_01, g_11, at_0, at_1, ix_0, ix_1, Option.some.injEq, HQ.lst.injEq, exists_eq_left', exists_eq_left, exists_and_left, exists_eq', exists_eq, decide_eq_true_eq, if_true, if_false, ite_true, ite_false, Bool.false_eq_true, reduceIte, reduceCtorEq, Bool.not_true, Bool.not_false, Nat.zero_add, Nat.reduceAdd, Nat.reduceSub, Nat.reduceLeDiff, Nat.reduceLT, Int.reduceLT, Int.reduceLE, Int.reduceEq, Int.reduceNe, Nat.reduceEqDiff, Int.reduceToNat, Int.reducePow, Int.reduceMul, Int.reduceAdd, Int.reduceSub, Int.reduceNeg, and_true, true_and, decide_true, decide_false, rFld, rSetF, rMet, rMetX, rMake, rBy, Y.rIsE, rCallX, rRaise, rTryAs, rTryOnly, rGd, q_fld, q_sfld, q_met, q_isntB, iEnX, iEn4, e4_t, e4_s, e4_k, e4_r, v_t, v_s, q_lset, q_remD, rNv, a_i, a_s, a_t, a_r, a_k, m_T, m_F, v_r, v_k, lg_r, lg_k, t_t, t_r, t_k, l_t, l_r, l_k, s_t, s_s, s_r, s_k, o_1, j_1, y_1, y_2, y_3, z_tt, z_r, z_k, e_1, k_ii, k_ss, k_bb, k_nn, k_tt, k_r, k_k, n_t, n_r, n_k, u_ii, u_si, lj_1, rLstF, rLcF, rFz, rSlM, iZp3, iEn3, eqvAll_nil, pds_emp, iAny, sq_k, sq_r, ls_t, or_false, false_or, fz_r, fz_k, fz_t, fz_n, fz_b, fz_s, q_lstK, q_truK, t_kl, q_isiK, iRevY, rv_r, rv_k, rv_t, rAug, q_i2K, q_j2K, q_srtB, at_2, at_3, q_strF, rPar3, g_03a, g_03b, g_03c, g_03d, g_03e, g_03f, rSS, rTryL, exL, k_min1, k_ixi, k_tupR, k_lr, q_inTd, k_srtI, k_popT, rMetXK, rKin, rKat, rLockT, rLockTE, rGet1, rGet2, rDel, rPop2, rTNew, iKysT, k_isD, k_keysT, k_lstT, k_lenT, gTk, rLam, rAsk, rCallXK, q_ext3, q_ext3T, q_ext3K, rDc, rDNew, gDk, rLock, rLockE, iKys, iVls, iIts, k_inS, k_inI, k_getS, k_getI, k_setS, k_setI, rMetK, rMakeK, q_srtTx, k_srt, k_len, k_keys, k_vals, k_items]))
    refine ⟨⟨by omega, by omega⟩, ?_⟩
    refine lc_ft (fun k : Nat => D.int (0 + k)) (fun _ => false) (fun _ => .bl true) trivial (List.range xs.length) (fun j hj Q q => ?_) (fun _ _ z => by cases z) (by rw [List.length_range]; omega) ?_
    · have hj := List.mem_range.mp hj
      have hx : atI xs ((0 : Int) + j) = some xs[j] := by rw [Int.zero_add]; exact atI_nat (List.getElem?_eq_getElem hj)
      sizeOf_list_dec
      refine ⟨_, hx, _, hx, _, rfl, hp.2 _ (List.getElem_mem hj), q⟩
    · rw [List.filter_eq_nil_iff.mpr (by simp)]
      sizeOf_list_dec
      exact k
  | non => simp -implicitDefEqProofs only [rVar, rC, rBin, rUn, rTst, rChn, rTru, rAnd, rOr, rNot, rAndV, rOrV, rNotV, rIf, rNil, rCons, rTup, rLst, rFn, rCall, rCallK, rSl, rPrt, rNoP, rMt, gNm, q_gN, q_gC, q_gTp, q_gTl, q_inI, q_rep, gSb, rNext, rSeq, rDrop, rRet, rRetN, rBrk, rCnt, rIfS, rSet, rPar, rFor, iSeq, iLst, iRg1, iRg2, iZp, iEn, iStrD, rLc, rYes, q_isi2, q_i2N, q_i2B, q_i2I, q_i2S, q_i2T, q_i2L, q_j2N, q_j2B, q_j2I, q_j2S, q_j2T, q_j2L, q_gt2, q_gtT, q_en, q_int2, q_strD, q_rev, q_ixo, q_ext2, q_extT, q_in, q_ins, q_pop, q_any, En.x, wipeD, start', List.getElem?_cons_zero, List.getElem?_cons_succ, List.set_cons_zero, List.set_cons_succ, List.map_cons, List.map_nil, List.length_cons, List.length_nil, List.cons_append, List.nil_append, List.replicate_succ, List.replicate_zero, id, q_asB, q_asI, q_add, q_addS, q_addT, q_addL, q_int, q_sub, q_mul, q_fdiv, q_mod, q_pow, q_neg, q_le, q_ge, q_gt, q_lt, q_ltT, q_isN, q_isB, q_isBi, q_isBs, q_isBn, q_isBt, q_isnt, n_non, n_bl, n_int, n_str, n_tup, n_ref, q_eq, q_eqS, q_eqB, q_ixT, q_ixK, q_ixL, q_ixS, q_slT, q_slL, q_slS, q_set, q_lenT, q_lenK, q_lenS, q_lenL, q_abs, q_intF, q_max, q_min, q_tupT, q_tupL, q_lstT, q_lstL, q_app, q_ext, q_joinL, q_stw, q_seq, q_lst, q_rng, q_rng2, q_zpT, q_zpL, q_truN, q_truB, q_truI, q_truT, q_truL, t_non, t_bl, t_int, t_str, t_tup, q_isiN, q_isiB, q_isiI, q_isiS, q_isiT, i_NoneType_int, i_NoneType_bool, i_NoneType_tuple, i_NoneType_list, i_NoneType_str, i_bool_int, i_bool_bool, i_bool_tuple, i_bool_list, i_bool_str, i_int_int, i_int_bool, i_int_tuple, i_int_list, i_int_str, i_str_int, i_str_bool, i_str_tuple, i_str_list, i_str_str, i_tuple_int, i_tuple_bool, i_tuple_tuple, i_tuple_list, i_tuple_str, i_list_int, i_list_bool, i_list_tuple, i_list_list, i_list_str, i_dict_int, i_dict_bool, i_dict_tuple, i_dict_list, i_dict_str, up_same, g_02, g_02', g_01, g_11, at_0, at_1, ix_0, ix_1, Option.some.injEq, HQ.lst.injEq, exists_eq_left', exists_eq_left, exists_and_left, exists_eq', exists_eq, decide_eq_true_eq, if_true, if_false, ite_true, ite_false, Bool.false_eq_true, reduceIte, reduceCtorEq, Bool.not_true, Bool.not_false, Nat.zero_add, Nat.reduceAdd, Nat.reduceSub, Nat.reduceLeDiff, Nat.reduceLT, Int.reduceLT, Int.reduceLE, Int.reduceEq, Int.reduceNe, Nat.reduceEqDiff, Int.reduceToNat, Int.reducePow, Int.reduceMul, Int.reduceAdd, Int.reduceSub, Int.reduceNeg, and_true, true_and, decide_true, decide_false, rFld, rSetF, rMet, rMetX, rMake, rBy, Y.rIsE, rCallX, rRaise, rTryAs, rTryOnly, rGd, q_fld, q_sfld, q_met, q_isntB, iEnX, iEn4, e4_t, e4_s, e4_k, e4_r, v_t, v_s, q_lset, q_remD, rNv, a_i, a_s, a_t, a_r, a_k, m_T, m_F, v_r, v_k, lg_r, lg_k, t_t, t_r, t_k, l_t, l_r, l_k, s_t, s_s, s_r, s_k, o_1, j_1, y_1, y_2, y_3, z_tt, z_r, z_k, e_1, k_ii, k_ss, k_bb, k_nn, k_tt, k_r, k_k, n_t, n_r, n_k, u_ii, u_si, lj_1, rLstF, rLcF, rFz, rSlM, iZp3, iEn3, eqvAll_nil, pds_emp, iAny, sq_k, sq_r, ls_t, or_false, false_or, fz_r, fz_k, fz_t, fz_n, fz_b, fz_s, q_lstK, q_truK, t_kl, q_isiK, iRevY, rv_r, rv_k, rv_t, rAug, q_i2K, q_j2K, q_srtB, at_2, at_3, q_strF, rPar3, g_03a, g_03b, g_03c, g_03d, g_03e, g_03f, rSS, rTryL, exL, k_min1, k_ixi, k_tupR, k_lr, q_inTd, k_srtI, k_popT, rMetXK, rKin, rKat, rLockT, rLockTE, rGet1, rGet2, rDel, rPop2, rTNew, iKysT, k_isD, k_keysT, k_lstT, k_lenT, gTk, rLam, rAsk, rCallXK, q_ext3, q_ext3T, q_ext3K, rDc, rDNew, gDk, rLock, rLockE, iKys, iVls, iIts, k_inS, k_inI, k_getS, k_getI, k_setS, k_setI, rMetK, rMakeK, q_srtTx, k_srt, k_len, k_keys, k_vals, k_items]; exact k
  | int i => simp -implicitDefEqProofs only [rVar, rC, rBin, rUn, rTst, rChn, rTru, rAnd, rOr, rNot, rAndV, rOrV, rNotV, rIf, rNil, rCons, rTup, rLst, rFn, rCall, rCallK, rSl, rPrt, rNoP, rMt, gNm, q_gN, q_gC, q_gTp, q_gTl, q_inI, q_rep, gSb, rNext, rSeq, rDrop, rRet, rRetN, rBrk, rCnt, rIfS, rSet, rPar, rFor, iSeq, iLst, iRg1, iRg2, iZp, iEn, iStrD, rLc, rYes, q_isi2, q_i2N, q_i2B, q_i2I, q_i2S, q_i2T, q_i2L, q_j2N, q_j2B, q_j2I, q_j2S, q_j2T, q_j2L, q_gt2, q_gtT, q_en, q_int2, q_strD, q_rev, q_ixo, q_ext2, q_extT, q_in, q_ins, q_pop, q_any, En.x, wipeD, start', List.getElem?_cons_zero, List.getElem?_cons_succ, List.set_cons_zero, List.set_cons_succ, List.map_cons, List.map_nil, List.length_cons, List.length_nil, List.cons_append, List.nil_append, List.replicate_succ, List.replicate_zero, id, q_asB, q_asI, q_add, q_addS, q_addT, q_addL, q_int, q_sub, q_mul, q_fdiv, q_mod, q_pow, q_neg, q_le, q_ge, q_gt, q_lt, q_ltT, q_isN, q_isB, q_isBi, q_isBs, q_isBn, q_isBt, q_isnt, n_non, n_bl, n_int, n_str, n_tup, n_ref, q_eq, q_eqS, q_eqB, q_ixT, q_ixK, q_ixL, q_ixS, q_slT, q_slL, q_slS, q_set, q_lenT, q_lenK, q_lenS, q_lenL, q_abs, q_intF, q_max, q_min, q_tupT, q_tupL, q_lstT, q_lstL, q_app, q_ext, q_joinL, q_stw, q_seq, q_lst, q_rng, q_rng2, q_zpT, q_zpL, q_truN, q_truB, q_truI, q_truT, q_truL, t_non, t_bl, t_int, t_str, t_tup, q_isiN, q_isiB, q_isiI, q_isiS, q_isiT, i_NoneType_int, i_NoneType_bool, i_NoneType_tuple, i_NoneType_list, i_NoneType_str, i_bool_int, i_bool_bool, i_bool_tuple, i_bool_list, i_bool_str, i_int_int, i_int_bool, i_int_tuple, i_int_list, i_int_str, i_str_int, i_str_bool, i_str_tuple, i_str_list, i_str_str, i_tuple_int, i_tuple_bool, i_tuple_tuple, i_tuple_list, i_tuple_str, i_list_int, i_list_bool, i_list_tuple, i_list_list, i_list_str, i_dict_int, i_dict_bool, i_dict_tuple, i_dict_list, i_dict_str, up_same, g_02, g_02', g_01, g_11, at_0, at_1, ix_0, ix_1, Option.some.injEq, HQ.lst.injEq, exists_eq_left', exists_eq_left, exists_and_left, exists_eq', exists_eq, decide_eq_true_eq, if_true, if_false, ite_true, ite_false, Bool.false_eq_true, reduceIte, reduceCtorEq, Bool.not_true, Bool.not_false, Nat.zero_add, Nat.reduceAdd, Nat.reduceSub, Nat.reduceLeDiff, Nat.reduceLT, Int.reduceLT, Int.reduceLE, Int.reduceEq, Int.reduceNe, Nat.reduceEqDiff, Int.reduceToNat, Int.reducePow, Int.reduceMul, Int.reduceAdd, Int.reduceSub, Int.reduceNeg, and_true, true_and, decide_true, decide_false, rFld, rSetF, rMet, rMetX, rMake, rBy, Y.rIsE, rCallX, rRaise, rTryAs, rTryOnly, rGd, q_fld, q_sfld, q_met, q_isntB, iEnX, iEn4, e4_t, e4_s, e4_k, e4_r, v_t, v_s, q_lset, q_remD, rNv, a_i, a_s, a_t, a_r, a_k, m_T, m_F, v_r, v_k, lg_r, lg_k, t_t, t_r, t_k, l_t, l_r, l_k, s_t, s_s, s_r, s_k, o_1, j_1, y_1, y_2, y_3, z_tt, z_r, z_k, e_1, k_ii, k_ss, k_bb, k_nn, k_tt, k_r, k_k, n_t, n_r, n_k, u_ii, u_si, lj_1, rLstF, rLcF, rFz, rSlM, iZp3, iEn3, eqvAll_nil, pds_emp, iAny, sq_k, sq_r, ls_t, or_false, false_or, fz_r, fz_k, fz_t, fz_n, fz_b, fz_s, q_lstK, q_truK, t_kl, q_isiK, iRevY, rv_r, rv_k, rv_t, rAug, q_i2K, q_j2K, q_srtB, at_2, at_3, q_strF, rPar3, g_03a, g_03b, g_03c, g_03d, g_03e, g_03f, rSS, rTryL, exL, k_min1, k_ixi, k_tupR, k_lr, q_inTd, k_srtI, k_popT, rMetXK, rKin, rKat, rLockT, rLockTE, rGet1, rGet2, rDel, rPop2, rTNew, iKysT, k_isD, k_keysT, k_lstT, k_lenT, gTk, rLam, rAsk, rCallXK, q_ext3, q_ext3T, q_ext3K, rDc, rDNew, gDk, rLock, rLockE, iKys, iVls, iIts, k_inS, k_inI, k_getS, k_getI, k_setS, k_setI, rMetK, rMakeK, q_srtTx, k_srt, k_len, k_keys, k_vals, k_items]; exact k
  | str z => simp -implicitDefEqProofs only [rVar, rC, rBin, rUn, rTst, rChn, rTru, rAnd, rOr, rNot, rAndV, rOrV, rNotV, rIf, rNil, rCons, rTup, rLst, rFn, rCall, rCallK, rSl, rPrt, rNoP, rMt, gNm, q_gN, q_gC, q_gTp, q_gTl, q_inI, q_rep, gSb, rNext, rSeq, rDrop, rRet, rRetN, rBrk, rCnt, rIfS, rSet, rPar, rFor, iSeq, iLst, iRg1, iRg2, iZp, iEn, iStrD, rLc, rYes, q_isi2, q_i2N, q_i2B, q_i2I, q_i2S, q_i2T, q_i2L, q_j2N, q_j2B, q_j2I, q_j2S, q_j2T, q_j2L, q_gt2, q_gtT, q_en, q_int2, q_strD, q_rev, q_ixo, q_ext2, q_extT, q_in, q_ins, q_pop, q_any, En.x, wipeD, start', List.getElem?_cons_zero, List.getElem?_cons_succ, List.set_cons_zero, List.set_cons_succ, List.map_cons, List.map_nil, List.length_cons, List.length_nil, List.cons_append, List.nil_append, List.replicate_succ, List.replicate_zero, id, q_asB, q_asI, q_add, q_addS, q_addT, q_addL, q_int, q_sub, q_mul, q_fdiv, q_mod, q_pow, q_neg, q_le, q_ge, q_gt, q_lt, q_ltT, q_isN, q_isB, q_isBi, q_isBs, q_isBn, q_isBt, q_isnt, n_non, n_bl, n_int, n_str, n_tup, n_ref, q_eq, q_eqS, q_eqB, q_ixT, q_ixK, q_ixL, q_ixS, q_slT, q_slL, q_slS, q_set, q_lenT, q_lenK, q_lenS, q_lenL, q_abs, q_intF, q_max, q_min, q_tupT, q_tupL, q_lstT, q_lstL, q_app, q_ext, q_joinL, q_stw, q_seq, q_lst, q_rng, q_rng2, q_zpT, q_zpL, q_truN, q_truB, q_truI, q_truT, q_truL, t_non, t_bl, t_int, t_str, t_tup, q_isiN, q_isiB, q_isiI, q_isiS, q_isiT, i_NoneType_int, i_NoneType_bool, i_NoneType_tuple, i_NoneType_list, i_NoneType_str, i_bool_int, i_bool_bool, i_bool_tuple, i_bool_list, i_bool_str, i_int_int, i_int_bool, i_int_tuple, i_int_list, i_int_str, i_str_int, i_str_bool, i_str_tuple, i_str_list, i_str_str, i_tuple_int, i_tuple_bool, i_tuple_tuple, i_tuple_list, i_tuple_str, i_list_int, i_list_bool, i_list_tuple, i_list_list, i_list_str, i_dict_int, i_dict_bool, i_dict_tuple, i_dict_list, i_dict_str, up_same, g_02, g_02', g_01, g_11, at_0, at_1, ix_0, ix_1, Option.some.injEq, HQ.lst.injEq, exists_eq_left', exists_eq_left, exists_and_left, exists_eq', exists_eq, decide_eq_true_eq, if_true, if_false, ite_true, ite_false, Bool.false_eq_true, reduceIte, reduceCtorEq, Bool.not_true, Bool.not_false, Nat.zero_add, Nat.reduceAdd, Nat.reduceSub, Nat.reduceLeDiff, Nat.reduceLT, Int.reduceLT, Int.reduceLE, Int.reduceEq, Int.reduceNe, Nat.reduceEqDiff, Int.reduceToNat, Int.reducePow, Int.reduceMul, Int.reduceAdd, Int.reduceSub, Int.reduceNeg, and_true, true_and, decide_true, decide_false, rFld, rSetF, rMet, rMetX, rMake, rBy, Y.rIsE, rCallX, rRaise, rTryAs, rTryOnly, rGd, q_fld, q_sfld, q_met, q_isntB, iEnX, iEn4, e4_t, e4_s, e4_k, e4_r, v_t, v_s, q_lset, q_remD, rNv, a_i, a_s, a_t, a_r, a_k, m_T, m_F, v_r, v_k, lg_r, lg_k, t_t, t_r, t_k, l_t, l_r, l_k, s_t, s_s, s_r, s_k, o_1, j_1, y_1, y_2, y_3, z_tt, z_r, z_k, e_1, k_ii, k_ss, k_bb, k_nn, k_tt, k_r, k_k, n_t, n_r, n_k, u_ii, u_si, lj_1, rLstF, rLcF, rFz, rSlM, iZp3, iEn3, eqvAll_nil, pds_emp, iAny, sq_k, sq_r, ls_t, or_false, false_or, fz_r, fz_k, fz_t, fz_n, fz_b, fz_s, q_lstK, q_truK, t_kl, q_isiK, iRevY, rv_r, rv_k, rv_t, rAug, q_i2K, q_j2K, q_srtB, at_2, at_3, q_strF, rPar3, g_03a, g_03b, g_03c, g_03d, g_03e, g_03f, rSS, rTryL, exL, k_min1, k_ixi, k_tupR, k_lr, q_inTd, k_srtI, k_popT, rMetXK, rKin, rKat, rLockT, rLockTE, rGet1, rGet2, rDel, rPop2, rTNew, iKysT, k_isD, k_keysT, k_lstT, k_lenT, gTk, rLam, rAsk, rCallXK, q_ext3, q_ext3T, q_ext3K, rDc, rDNew, gDk, rLock, rLockE, iKys, iVls, iIts, k_inS, k_inI, k_getS, k_getI, k_setS, k_setI, rMetK, rMakeK, q_srtTx, k_srt, k_len, k_keys, k_vals, k_items]; exact k
  | _ => exact hp.elim
end K25
namespace K25
open PySem PySem.Spec PyProof.Rows L2 Y
theorem pu_hand_order : ∀ ds S Q E, sp_hand_order ds S Q E → rd_hand_order { nx := fun _ S => Q .non S, rt := Q, ex := fun n fs _ S => E n fs S } (start' 3 ds) S := by
  rintro _ S Q E ⟨ps, rfl, hp, hl, k, ke⟩
  unfold rd_hand_order
  array_get_dec
  refine ordered_of hp hl ?_
  array_get_dec
  cases h : (ordd ps).2 with
  | nil =>
    array_get_dec
    exact k h
  | cons x r =>
    array_get_dec
    exact ke (by rw [h]; simp)
end K25
namespace K25
open PySem PySem.Spec PyProof.Rows L2 Y
theorem pu_law_take : ∀ ds S Q, sp_law_take ds S Q NoX → rd_law_take { nx := fun _ S => Q .non S, rt := Q } (start' 4 ds) S := by
  rintro _ S Q ⟨b, n, rfl, ⟨g, s, hb⟩, hn, hn2, k⟩
  unfold rd_law_take
  simp -implicitDefEqProofs only [rVar, rC, rBin, rUn, rTst, rChn, rTru, rAnd, rOr, rNot, rAndV, rOrV, rNotV, rIf, rNil, rCons, rTup, rLst, rFn, rCall, rCallK, rSl, rPrt, rNoP, rMt, gNm, q_gN, q_gC, q_gTp, q_gTl, q_inI, q_rep, gSb, rNext, rSeq, rDrop, rRet, rRetN, rBrk, rCnt, rIfS, rSet, rPar, rFor, iSeq, iLst, iRg1, iRg2, iZp, iEn, iStrD, rLc, rYes, q_isi2, q_i2N, q_i2B, q_i2I, q_i2S, q_i2T, q_i2L, q_j2N, q_j2B, q_j2I, q_j2S, q_j2T, q_j2L, q_gt2, q_gtT, q_en, q_int2, q_strD, q_rev, q_ixo, q_ext2, q_extT, q_in, q_ins, q_pop, q_any, En.x, wipeD, start', List.getElem?_cons_zero, List.getElem?_cons_succ, List.set_cons_zero, List.set_cons_succ, List.map_cons, List.map_nil, List.length_cons, List.length_nil, List.cons_append, List.nil_append, List.replicate_succ, List.replicate_zero, id, q_asB, q_asI, q_add, q_addS, q_addT, q_addL, q_int, q_sub, q_mul, q_fdiv, q_mod, q_pow, q_neg, q_le, q_ge, q_gt, q_lt, q_ltT, q_isN, q_isB, q_isBi, q_isBs, q_isBn, q_isBt, q_isnt, n_non, n_bl, n_int, n_str, n_tup, n_ref, q_eq, q_eqS, q_eqB, q_ixT, q_ixK, q_ixL, q_ixS, q_slT, q_slL, q_slS, q_set, q_lenT, q_lenK, q_lenS, q_lenL, q_abs, q_intF, q_max, q_min, q_tupT, q_tupL, q_lstT, q_lstL, q_app, q_ext, q_joinL, q_stw, q_seq, q_lst, q_rng, q_rng2, q_zpT, q_zpL, q_truN, q_truB, q_truI, q_truT, q_truL, t_non, t_bl, t_int, t_str, t_tup, q_isiN, q_isiB, q_isiI, q_isiS, q_isiT, i_NoneType_int, i_NoneType_bool, i_NoneType_tuple, i_NoneType_list, i_NoneType_str, i_bool_int, i_bool_bool, i_bool_tuple, i_bool_list, i_bool_str, i_int_int, i_int_bool, i_int_tuple, i_int_list, i_int_str, i_str_int, i_str_bool, i_str_tuple, i_str_list, i_str_str, i_tuple_int, i_tuple_bool, i_tuple_tuple, i_tuple_list, i_tuple_str, i_list_int, i_list_bool, i_list_tuple, i_list_list, i_list_str, i_dict_int, i_dict_bool, i_dict_tuple, i_dict_list, i_dict_str, up_same, g_02, g_02', g_01, g_11, at_0, at_1, ix_0, ix_1, Option.some.injEq, HQ.lst.injEq, exists_eq_left', exists_eq_left, exists_and_left, exists_eq', exists_eq, decide_eq_true_eq, if_true, if_false, ite_true, ite_false, Bool.false_eq_true, reduceIte, reduceCtorEq, Bool.not_true, Bool.not_false, Nat.zero_add, Nat.reduceAdd, Nat.reduceSub, Nat.reduceLeDiff, Nat.reduceLT, Int.reduceLT, Int.reduceLE, Int.reduceEq, Int.reduceNe, Nat.reduceEqDiff, Int.reduceToNat, Int.reducePow, Int.reduceMul, Int.reduceAdd, Int.reduceSub, Int.reduceNeg, and_true, true_and, decide_true, decide_false, rFld, rSetF, rMet, rMetX, rMake, rBy, Y.rIsE, rCallX, rRaise, rTryAs, rTryOnly, rGd, q_fld, q_sfld, q_met, q_isntB, iEnX, iEn4, e4_t, e4_s, e4_k, e4_r, v_t, v_s, q_lset, q_remD, rNv, a_i, a_s, a_t, a_r, a_k, m_T, m_F, v_r, v_k, lg_r, lg_k, t_t, t_r, t_k, l_t, l_r, l_k, s_t, s_s, s_r, s_k, o_1, j_1, y_1, y_2, y_3, z_tt, z_r, z_k, e_1, k_ii, k_ss, k_bb, k_nn, k_tt, k_r, k_k, n_t, n_r, n_k, u_ii, u_si, lj_1, rLstF, rLcF, rFz, rSlM, iZp3, iEn3, eqvAll_nil, pds_emp, iAny, sq_k, sq_r, ls_t, or_false, false_or, fz_r, fz_k, fz_t, fz_n, fz_b, fz_s, q_lstK, q_truK, t_kl, q_isiK, iRevY, rv_r, rv_k, rv_t, rAug, q_i2K, q_j2K, q_srtB, at_2, at_3, q_strF, rPar3, g_03a, g_03b, g_03c, g_03d, g_03e, g_03f, rSS, rTryL, exL, k_min1, k_ixi, k_tupR, k_lr, q_inTd, k_srtI, k_popT, rMetXK, rKin, rKat, rLockT, rLockTE, rGet1, rGet2, rDel, rPop2, rTNew, iKysT, k_isD, k_keysT, k_lstT, k_lenT, gTk, rLam, rAsk, rCallXK, q_ext3, q_ext3T, q_ext3K, rDc, rDNew, gDk, rLock, rLockE, iKys, iVls, iIts, k_inS, k_inI, k_getS, k_getI, k_setS, k_setI, rMetK, rMakeK, q_srtTx, k_srt, k_len, k_keys, k_vals, k_items, hb, up_same, hn]
  split
  · exact ⟨⟨hn, by omega⟩, k _ _ (Int.emod_nonneg _ (by omega)) (Int.emod_lt_of_pos _ hn) .put⟩
  · exact ⟨cm_r (by decide) (by decide), cm_r (by decide) (by decide), cm_r (by decide) (by decide), ⟨by decide, by decide⟩, k _ _ (Int.emod_nonneg _ (by omega)) (Int.emod_lt_of_pos _ hn) .put⟩
end K25
namespace K25
open PySem PySem.Spec PyProof.Rows L2 Y
theorem pu_law_mixed : ∀ ds S Q, sp_law_mixed ds S Q NoX → rd_law_mixed { nx := fun _ S => Q .non S, rt := Q } (start' 5 ds) S := by
  rintro _ S Q ⟨b, x, xs, rfl, hb, hx, hl, k⟩
  unfold rd_law_mixed
  rcases hx with rfl | ⟨a, rfl, hab, ha⟩
  · array_get_dec
    intro p hp q hq
    have hpb : p ≠ b := hb.ne hp
    have b2 := hb.up (q := .lst xs) hp
    have hqb : q ≠ b := b2.ne hq
    have hpq : p ≠ q := fun z => by rw [← z, up_same] at hq; cases hq
    have hqS : S q = none := by rw [up_ne (Ne.symm hpq)] at hq; exact hq
    have h1 : up (up S p (.lst xs)) q (.lst []) p = some (.lst xs) := by rw [up_ne hpq, up_same]
    have h2 : up (up S p (.lst xs)) q (.lst []) q = some (.lst []) := up_same
    have n0 : Nx b S (up (up S p (.lst xs)) q (.lst [])) := (Nx.new hb hp).trans (Nx.new b2 hq)
    generalize up (up S p (.lst xs)) q (.lst []) = S1 at h1 h2 n0
    clear b2 hq
    array_get_dec
    refine ⟨⟨by omega, by omega⟩, ?_⟩
    refine loop_idx (fun i σ S' => ∃ (fs ls : List D), ∃ u_turn : Option D, S' p = some (.lst ls) ∧ S' q = some (.lst fs) ∧ (fs ++ ls).Perm xs ∧ ls.length + i = xs.length ∧ Nx b S S' ∧ σ = [some (.ref b), some (.kl xs), u_turn, some (.ref p), some (.ref q)]) (fun _ _ _ _ _ => trivial) (fun i x σ S' hx hi N hN => ?_) (fun σ S' hi => ?_) ⟨[], xs, _, h1, h2, by simp, by simp, n0, rfl⟩
    · obtain ⟨fs, ls, z, g1, g2, hperm, hlen, nx, rfl⟩ := hi
      obtain ⟨hj, rfl⟩ := rangeD_get hx
      have hj : i < xs.length := by omega
      array_get_dec
      refine ⟨t_lst g2, t_lst g1, _, g1, ?_⟩
      refine take_of nx.bx (by omega) (by omega) fun t S2 t0 t1 n2 => ?_
      obtain ⟨j, rfl⟩ := Int.eq_ofNat_of_zero_le t0
      have hjl : j < ls.length := by omega
      have g1 := n2.get hpb g1
      have g2 := n2.get hqb g2
      have nx := nx.trans n2
      clear n2
      sizeOf_list_dec
      refine ⟨ls, g1, by omega, by omega, ls[j], by rw [Int.toNat_natCast]; exact List.getElem?_eq_getElem hjl, ?_⟩
      rw [Int.toNat_natCast]
      have hfl : fs.length ≤ 1000 := by
        have := hperm.length_eq
        rw [List.length_append] at this
        omega
      refine ⟨fs, by rw [up_ne (Ne.symm hpq)]; exact g2, by omega, ?_⟩
      have keep : ∀ {S' : Hq} {a : Addr} {o : HQ}, a ≠ b → S a = none → Nx b S S' → Nx b S (up S' a o) := fun {S' a o} hab hn n => ⟨n.bx.put hab, fun c u ne h => by rw [up_ne (fun z => by rw [z, hn] at h; cases h)]; exact n.old c u ne h⟩
      refine hN _ _ ⟨fs ++ [ls[j]], ls.eraseIdx j, _, by rw [up_ne hpq, up_same], up_same, ?_, ?_, keep hqb hqS (keep hpb hp nx), rfl⟩
      · rw [List.append_assoc]
        exact ((perm_pop (List.getElem?_eq_getElem hjl)).append_left fs).trans hperm
      · rw [List.length_eraseIdx_of_lt hjl]; omega
    · obtain ⟨fs, ls, z, g1, g2, hperm, hlen, nx, rfl⟩ := hi
      rw [rangeD_len] at hlen
      have : ls = [] := List.length_eq_zero_iff.mp (by omega)
      subst this
      rw [List.append_nil] at hperm
      array_get_dec
      refine ⟨_, g2, ?_⟩
      refine k fs _ hperm ⟨?_, fun a o ne h => ?_⟩
      · obtain ⟨g, s, hbb⟩ := nx.bx
        exact ⟨g, s, by rw [rm_ne (Ne.symm hqb)]; exact hbb⟩
      · rw [rm_ne (fun z => by rw [z, hqS] at h; cases h)]
        exact nx.old a o ne h
  · array_get_dec
    refine ⟨_, ha, fun p hp q hq => ?_⟩
    have hpb : p ≠ b := hb.ne hp
    have b2 := hb.up (q := .lst xs) hp
    have hqb : q ≠ b := b2.ne hq
    have hpq : p ≠ q := fun z => by rw [← z, up_same] at hq; cases hq
    have hqS : S q = none := by rw [up_ne (Ne.symm hpq)] at hq; exact hq
    have h1 : up (up S p (.lst xs)) q (.lst []) p = some (.lst xs) := by rw [up_ne hpq, up_same]
    have h2 : up (up S p (.lst xs)) q (.lst []) q = some (.lst []) := up_same
    have n0 : Nx b S (up (up S p (.lst xs)) q (.lst [])) := (Nx.new hb hp).trans (Nx.new b2 hq)
    have ha1 := n0.get hab ha
    generalize up (up S p (.lst xs)) q (.lst []) = S1 at h1 h2 n0 ha1
    clear b2 hq
    array_get_dec
    refine ⟨_, ha1, ⟨by omega, by omega⟩, ?_⟩
    refine loop_idx (fun i σ S' => ∃ (fs ls : List D), ∃ u_turn : Option D, S' p = some (.lst ls) ∧ S' q = some (.lst fs) ∧ (fs ++ ls).Perm xs ∧ ls.length + i = xs.length ∧ Nx b S S' ∧ σ = [some (.ref b), some (.ref a), u_turn, some (.ref p), some (.ref q)]) (fun _ _ _ _ _ => trivial) (fun i x σ S' hx hi N hN => ?_) (fun σ S' hi => ?_) ⟨[], xs, _, h1, h2, by simp, by simp, n0, rfl⟩
    · obtain ⟨fs, ls, z, g1, g2, hperm, hlen, nx, rfl⟩ := hi
      obtain ⟨hj, rfl⟩ := rangeD_get hx
      have hj : i < xs.length := by omega
      array_get_dec
      refine ⟨t_lst g2, t_lst g1, _, g1, ?_⟩
      refine take_of nx.bx (by omega) (by omega) fun t S2 t0 t1 n2 => ?_
      obtain ⟨j, rfl⟩ := Int.eq_ofNat_of_zero_le t0
      have hjl : j < ls.length := by omega
      have g1 := n2.get hpb g1
      have g2 := n2.get hqb g2
      have nx := nx.trans n2
      clear n2
      sizeOf_list_dec
      refine ⟨ls, g1, by omega, by omega, ls[j], by rw [Int.toNat_natCast]; exact List.getElem?_eq_getElem hjl, ?_⟩
      rw [Int.toNat_natCast]
      have hfl : fs.length ≤ 1000 := by
        have := hperm.length_eq
        rw [List.length_append] at this
        omega
      refine ⟨fs, by rw [up_ne (Ne.symm hpq)]; exact g2, by omega, ?_⟩
      have keep : ∀ {S' : Hq} {a : Addr} {o : HQ}, a ≠ b → S a = none → Nx b S S' → Nx b S (up S' a o) := fun {S' a o} hab hn n => ⟨n.bx.put hab, fun c u ne h => by rw [up_ne (fun z => by rw [z, hn] at h; cases h)]; exact n.old c u ne h⟩
      refine hN _ _ ⟨fs ++ [ls[j]], ls.eraseIdx j, _, by rw [up_ne hpq, up_same], up_same, ?_, ?_, keep hqb hqS (keep hpb hp nx), rfl⟩
      · rw [List.append_assoc]
        exact ((perm_pop (List.getElem?_eq_getElem hjl)).append_left fs).trans hperm
      · rw [List.length_eraseIdx_of_lt hjl]; omega
    · obtain ⟨fs, ls, z, g1, g2, hperm, hlen, nx, rfl⟩ := hi
      rw [rangeD_len] at hlen
      have : ls = [] := List.length_eq_zero_iff.mp (by omega)
      subst this
      rw [List.append_nil] at hperm
      array_get_dec
      refine ⟨_, g2, ?_⟩
      refine k fs _ hperm ⟨?_, fun a o ne h => ?_⟩
      · obtain ⟨g, s, hbb⟩ := nx.bx
        exact ⟨g, s, by rw [rm_ne (Ne.symm hqb)]; exact hbb⟩
      · rw [rm_ne (fun z => by rw [z, hqS] at h; cases h)]
        exact nx.old a o ne h
end K25
namespace K25
open PySem PySem.Spec PyProof.Rows L2 Y
theorem pu_law_some : ∀ ds S Q, sp_law_some ds S Q NoX → rd_law_some { nx := fun _ S => Q .non S, rt := Q } (start' 6 ds) S := by
  rintro _ S Q ⟨b, most, many, rfl, hb, hl, hm, k⟩
  unfold rd_law_some
  array_get_dec
  refine ⟨by omega, by omega, fun p hp q hq => ?_⟩
  rw [Int.toNat_natCast] at *
  have ez : ((List.range most).map fun k : Nat => D.int k) = ((List.range most).map fun k : Nat => (k : Int)).map D.int := by rw [List.map_map]; rfl
  have nz : ((List.range most).map fun k : Nat => (k : Int)).Nodup := List.Pairwise.map _ (fun a b h e => h (Int.ofNat.inj e)) List.nodup_range
  have mz : ∀ y ∈ (List.range most).map fun k : Nat => (k : Int), 0 ≤ y ∧ y < most := fun y m => by
    obtain ⟨j, hj, rfl⟩ := List.mem_map.mp m
    have := List.mem_range.mp hj
    omega
  have lz : ((List.range most).map fun k : Nat => (k : Int)).length = most := by simp
  rw [ez] at hq ⊢
  clear ez
  generalize ((List.range most).map fun k : Nat => (k : Int)) = xs at hq nz mz lz
  have hpb : p ≠ b := hb.ne hp
  have b2 := hb.up (q := .lst (xs.map D.int)) hp
  have hqb : q ≠ b := b2.ne hq
  have hpq : p ≠ q := fun z => by rw [← z, up_same] at hq; cases hq
  have hqS : S q = none := by rw [up_ne (Ne.symm hpq)] at hq; exact hq
  have h1 : up (up S p (.lst (xs.map D.int))) q (.lst []) p = some (.lst (xs.map D.int)) := by rw [up_ne hpq, up_same]
  have h2 : up (up S p (.lst (xs.map D.int))) q (.lst []) q = some (.lst []) := up_same
  have n0 : Nx b S (up (up S p (.lst (xs.map D.int))) q (.lst [])) := (Nx.new hb hp).trans (Nx.new b2 hq)
  generalize up (up S p (.lst (xs.map D.int))) q (.lst []) = S1 at h1 h2 n0
  clear b2 hq
  array_get_dec
  refine ⟨⟨by omega, by omega⟩, ?_⟩
  refine loop_idx (fun i σ S' => ∃ (fs ls : List Int), ∃ u_turn : Option D, S' p = some (.lst (ls.map D.int)) ∧ S' q = some (.lst (fs.map D.int)) ∧ (fs ++ ls).Perm xs ∧ fs.length = i ∧ Nx b S S' ∧ σ = [some (.ref b), some (.int most), some (.int many), u_turn, some (.ref p), some (.ref q)]) (fun _ _ _ _ _ => trivial) (fun i x σ S' hx hi N hN => ?_) (fun σ S' hi => ?_) ⟨[], xs, _, h1, h2, by simp, by simp, n0, rfl⟩
  · obtain ⟨fs, ls, z, g1, g2, hperm, hlen, nx, rfl⟩ := hi
    obtain ⟨hj, rfl⟩ := rangeD_get hx
    have hj : i < many := by omega
    have hle := hperm.length_eq
    rw [List.length_append] at hle
    array_get_dec
    refine ⟨t_lst g2, t_lst g1, _, g1, ?_⟩
    rw [List.length_map]
    refine take_of nx.bx (by omega) (by omega) fun t S2 t0 t1 n2 => ?_
    obtain ⟨j, rfl⟩ := Int.eq_ofNat_of_zero_le t0
    have hjl : j < ls.length := by omega
    have g1 := n2.get hpb g1
    have g2 := n2.get hqb g2
    have nx := nx.trans n2
    clear n2
    sizeOf_list_dec
    refine ⟨ls.map D.int, g1, by omega, by omega, .int ls[j], by rw [Int.toNat_natCast, List.getElem?_map, List.getElem?_eq_getElem hjl]; rfl, ?_⟩
    rw [Int.toNat_natCast]
    refine ⟨fs.map D.int, by rw [up_ne (Ne.symm hpq)]; exact g2, by rw [List.length_map]; omega, ?_⟩
    have keep : ∀ {S' : Hq} {a : Addr} {o : HQ}, a ≠ b → S a = none → Nx b S S' → Nx b S (up S' a o) := fun {S' a o} hab hn n => ⟨n.bx.put hab, fun c u ne h => by rw [up_ne (fun z => by rw [z, hn] at h; cases h)]; exact n.old c u ne h⟩
    have map_er : ∀ (l : List Int) (i : Nat), (l.map D.int).eraseIdx i = (l.eraseIdx i).map D.int := map_eraseI
    refine hN _ _ ⟨fs ++ [ls[j]], ls.eraseIdx j, _, by rw [up_ne hpq, up_same, map_er], by rw [up_same, List.map_append]; rfl, ?_, ?_, keep hqb hqS (keep hpb hp nx), rfl⟩
    · rw [List.append_assoc]
      exact ((perm_pop (List.getElem?_eq_getElem hjl)).append_left fs).trans hperm
    · simp; omega
  · obtain ⟨fs, ls, z, g1, g2, hperm, hlen, nx, rfl⟩ := hi
    rw [rangeD_len] at hlen
    array_get_dec
    refine ⟨_, g2, .inl ⟨fs, rfl, fun ns hpn hs => k ns S' ?_ ?_ (fun y m => mz y (hperm.mem_iff.mp (List.mem_append_left _ (hpn.mem_iff.mp m)))) nx⟩⟩
    · rw [hpn.length_eq]; omega
    · exact hpn.nodup_iff.mpr (List.nodup_append.mp (hperm.nodup_iff.mpr nz)).1
end K25
namespace K25
open PySem PySem.Spec PyProof.Rows L2 Y
theorem pu_law_pick : ∀ ds S Q, sp_law_pick ds S Q NoX → rd_law_pick { nx := fun _ S => Q .non S, rt := Q } (start' 2 ds) S := by
  rintro _ S Q ⟨b, x, xs, rfl, hb, hx, h0, h1, k⟩
  unfold rd_law_pick
  rcases hx with rfl | rfl | ⟨a, rfl, ne, ha⟩
  · simp -implicitDefEqProofs only [rVar, rC, rBin, rUn, rTst, rChn, rTru, rAnd, rOr, rNot, rAndV, rOrV, rNotV, rIf, rNil, rCons, rTup, rLst, rFn, rCall, rCallK, rSl, rPrt, rNoP, rMt, gNm, q_gN, q_gC, q_gTp, q_gTl, q_inI, q_rep, gSb, rNext, rSeq, rDrop, rRet, rRetN, rBrk, rCnt, rIfS, rSet, rPar, rFor, iSeq, iLst, iRg1, iRg2, iZp, iEn, iStrD, rLc, rYes, q_isi2, q_i2N, q_i2B, q_i2I, q_i2S, q_i2T, q_i2L, q_j2N, q_j2B, q_j2I, q_j2S, q_j2T, q_j2L, q_gt2, q_gtT, q_en, q_int2, q_strD, q_rev, q_ixo, q_ext2, q_extT, q_in, q_ins, q_pop, q_any, En.x, wipeD, start', List.getElem?_cons_zero, List.getElem?_cons_succ, List.set_cons_zero, List.set_cons_succ, List.map_cons, List.map_nil, List.length_cons, List.length_nil, List.cons_append, List.nil_append, List.replicate_succ, List.replicate_zero, id, q_asB, q_asI, q_add, q_addS, q_addT, q_addL, q_int, q_sub, q_mul, q_fdiv, q_mod, q_pow, q_neg, q_le, q_ge, q_gt, q_lt, q_ltT, q_isN, q_isB, q_isBi, q_isBs, q_isBn, q_isBt, q_isnt, n_non, n_bl, n_int, n_str, n_tup, n_ref, q_eq, q_eqS, q_eqB, q_ixT, q_ixK, q_ixL, q_ixS, q_slT, q_slL, q_slS, q_set, q_lenT, q_lenK, q_lenS, q_lenL, q_abs, q_intF, q_max, q_min, q_tupT, q_tupL, q_lstT, q_lstL, q_app, q_ext, q_joinL, q_stw, q_seq, q_lst, q_rng, q_rng2, q_zpT, q_zpL, q_truN, q_truB, q_truI, q_truT, q_truL, t_non, t_bl, t_int, t_str, t_tup, q_isiN, q_isiB, q_isiI, q_isiS, q_isiT, i_NoneType_int, i_NoneType_bool, i_NoneType_tuple, i_NoneType_list, i_NoneType_str, i_bool_int, i_bool_bool, i_bool_tuple, i_bool_list, i_bool_str, i_int_int, i_int_bool, i_int_tuple, i_int_list, i_int_str, i_str_int, i_str_bool, i_str_tuple, i_str_list, i_str_str, i_tuple_int, i_tuple_bool, i_tuple_tuple, i_tuple_list, i_tuple_str, i_list_int, i_list_bool, i_list_tuple, i_list_list, i_list_str, i_dict_int, i_dict_bool, i_dict_tuple, i_dict_list, i_dict_str, up_same, g_02, g_02', g_01, g_11, at_0, at_1, ix_0, ix_1, Option.some.injEq, HQ.lst.injEq, exists_eq_left', exists_eq_left, exists_and_left, exists_eq', exists_eq, decide_eq_true_eq, if_true, if_false, ite_true, ite_false, Bool.false_eq_true, reduceIte, reduceCtorEq, Bool.not_true, Bool.not_false, Nat.zero_add, Nat.reduceAdd, Nat.reduceSub, Nat.reduceLeDiff, Nat.reduceLT, Int.reduceLT, Int.reduceLE, Int.reduceEq, Int.reduceNe, Nat.reduceEqDiff, Int.reduceToNat, Int.reducePow, Int.reduceMul, Int.reduceAdd, Int.reduceSub, Int.reduceNeg, and_true, true_and, decide_true, decide_false, rFld, rSetF, rMet, rMetX, rMake, rBy, Y.rIsE, rCallX, rRaise, rTryAs, rTryOnly, rGd, q_fld, q_sfld, q_met, q_isntB, iEnX, iEn4, e4_t, e4_s, e4_k, e4_r, v_t, v_s, q_lset, q_remD, rNv, a_i, a_s, a_t, a_r, a_k, m_T, m_F, v_r, v_k, lg_r, lg_k, t_t, t_r, t_k, l_t, l_r, l_k, s_t, s_s, s_r, s_k, o_1, j_1, y_1, y_2, y_3, z_tt, z_r, z_k, e_1, k_ii, k_ss, k_bb, k_nn, k_tt, k_r, k_k, n_t, n_r, n_k, u_ii, u_si, lj_1, rLstF, rLcF, rFz, rSlM, iZp3, iEn3, eqvAll_nil, pds_emp, iAny, sq_k, sq_r, ls_t, or_false, false_or, fz_r, fz_k, fz_t, fz_n, fz_b, fz_s, q_lstK, q_truK, t_kl, q_isiK, iRevY, rv_r, rv_k, rv_t, rAug, q_i2K, q_j2K, q_srtB, at_2, at_3, q_strF, rPar3, g_03a, g_03b, g_03c, g_03d, g_03e, g_03f, rSS, rTryL, exL, k_min1, k_ixi, k_tupR, k_lr, q_inTd, k_srtI, k_popT, rMetXK, rKin, rKat, rLockT, rLockTE, rGet1, rGet2, rDel, rPop2, rTNew, iKysT, k_isD, k_keysT, k_lstT, k_lenT, gTk, rLam, rAsk, rCallXK, q_ext3, q_ext3T, q_ext3K, rDc, rDNew, gDk, rLock, rLockE, iKys, iVls, iIts, k_inS, k_inI, k_getS, k_getI, k_setS, k_setI, rMetK, rMakeK, q_srtTx, k_srt, k_len, k_keys, k_vals, k_items]
    refine take_of hb (by omega) (by omega) fun r S' hr0 hr1 n => ?_
    obtain ⟨d, hd, e, _⟩ := at_in hr0 hr1
    simp -implicitDefEqProofs only [rVar, rC, rBin, rUn, rTst, rChn, rTru, rAnd, rOr, rNot, rAndV, rOrV, rNotV, rIf, rNil, rCons, rTup, rLst, rFn, rCall, rCallK, rSl, rPrt, rNoP, rMt, gNm, q_gN, q_gC, q_gTp, q_gTl, q_inI, q_rep, gSb, rNext, rSeq, rDrop, rRet, rRetN, rBrk, rCnt, rIfS, rSet, rPar, rFor, iSeq, iLst, iRg1, iRg2, iZp, iEn, iStrD, rLc, rYes, q_isi2, q_i2N, q_i2B, q_i2I, q_i2S, q_i2T, q_i2L, q_j2N, q_j2B, q_j2I, q_j2S, q_j2T, q_j2L, q_gt2, q_gtT, q_en, q_int2, q_strD, q_rev, q_ixo, q_ext2, q_extT, q_in, q_ins, q_pop, q_any, En.x, wipeD, start', List.getElem?_cons_zero, List.getElem?_cons_succ, List.set_cons_zero, List.set_cons_succ, List.map_cons, List.map_nil, List.length_cons, List.length_nil, List.cons_append, List.nil_append, List.replicate_succ, List.replicate_zero, id, q_asB, q_asI, q_add, q_addS, q_addT, q_addL, q_int, q_sub, q_mul, q_fdiv, q_mod, q_pow, q_neg, q_le, q_ge, q_gt, q_lt, q_ltT, q_isN, q_isB, q_isBi, q_isBs, q_isBn, q_isBt, q_isnt, n_non, n_bl, n_int, n_str, n_tup, n_ref, q_eq, q_eqS, q_eqB, q_ixT, q_ixK, q_ixL, q_ixS, q_slT, q_slL, q_slS, q_set, q_lenT, q_lenK, q_lenS, q_lenL, q_abs, q_intF, q_max, q_min, q_tupT, q_tupL, q_lstT, q_lstL, q_app, q_ext, q_joinL, q_stw, q_seq, q_lst, q_rng, q_rng2, q_zpT, q_zpL, q_truN, q_truB, q_truI, q_truT, q_truL, t_non, t_bl, t_int, t_str, t_tup, q_isiN, q_isiB, q_isiI, q_isiS, q_isiT, i_NoneType_int, i_NoneType_bool, i_NoneType_tuple, i_NoneType_list, i_NoneType_str, i_bool_int, i_bool_bool, i_bool_tuple, i_bool_list, i_bool_str, i_int_int, i_int_bool, i_int_tuple, i_int_list, i_int_str, i_str_int, i_str_bool, i_str_tuple, i_str_list, i_str_str, i_tuple_int, i_tuple_bool, i_tuple_tuple, i_tuple_list, i_tuple_str, i_list_int, i_list_bool, i_list_tuple, i_list_list, i_list_str, i_dict_int, i_dict_bool, i_dict_tuple, i_dict_list, i_dict_str, up_same, g_02, g_02', g_01, g_11, at_0, at_1, ix_0, ix_1, Option.some.injEq, HQ.lst.injEq, exists_eq_left', exists_eq_left, exists_and_left, exists_eq', exists_eq, decide_eq_true_eq, if_true, if_false, ite_true, ite_false, Bool.false_eq_true, reduceIte, reduceCtorEq, Bool.not_true, Bool.not_false, Nat.zero_add, Nat.reduceAdd, Nat.reduceSub, Nat.reduceLeDiff, Nat.reduceLT, Int.reduceLT, Int.reduceLE, Int.reduceEq, Int.reduceNe, Nat.reduceEqDiff, Int.reduceToNat, Int.reducePow, Int.reduceMul, Int.reduceAdd, Int.reduceSub, Int.reduceNeg, and_true, true_and, decide_true, decide_false, rFld, rSetF, rMet, rMetX, rMake, rBy, Y.rIsE, rCallX, rRaise, rTryAs, rTryOnly, rGd, q_fld, q_sfld, q_met, q_isntB, iEnX, iEn4, e4_t, e4_s, e4_k, e4_r, v_t, v_s, q_lset, q_remD, rNv, a_i, a_s, a_t, a_r, a_k, m_T, m_F, v_r, v_k, lg_r, lg_k, t_t, t_r, t_k, l_t, l_r, l_k, s_t, s_s, s_r, s_k, o_1, j_1, y_1, y_2, y_3, z_tt, z_r, z_k, e_1, k_ii, k_ss, k_bb, k_nn, k_tt, k_r, k_k, n_t, n_r, n_k, u_ii, u_si, lj_1, rLstF, rLcF, rFz, rSlM, iZp3, iEn3, eqvAll_nil, pds_emp, iAny, sq_k, sq_r, ls_t, or_false, false_or, fz_r, fz_k, fz_t, fz_n, fz_b, fz_s, q_lstK, q_truK, t_kl, q_isiK, iRevY, rv_r, rv_k, rv_t, rAug, q_i2K, q_j2K, q_srtB, at_2, at_3, q_strF, rPar3, g_03a, g_03b, g_03c, g_03d, g_03e, g_03f, rSS, rTryL, exL, k_min1, k_ixi, k_tupR, k_lr, q_inTd, k_srtI, k_popT, rMetXK, rKin, rKat, rLockT, rLockTE, rGet1, rGet2, rDel, rPop2, rTNew, iKysT, k_isD, k_keysT, k_lstT, k_lenT, gTk, rLam, rAsk, rCallXK, q_ext3, q_ext3T, q_ext3K, rDc, rDNew, gDk, rLock, rLockE, iKys, iVls, iIts, k_inS, k_inI, k_getS, k_getI, k_setS, k_setI, rMetK, rMakeK, q_srtTx, k_srt, k_len, k_keys, k_vals, k_items, e]
    exact k d S' hd n
  · simp -implicitDefEqProofs only [rVar, rC, rBin, rUn, rTst, rChn, rTru, rAnd, rOr, rNot, rAndV, rOrV, rNotV, rIf, rNil, rCons, rTup, rLst, rFn, rCall, rCallK, rSl, rPrt, rNoP, rMt, gNm, q_gN, q_gC, q_gTp, q_gTl, q_inI, q_rep, gSb, rNext, rSeq, rDrop, rRet, rRetN, rBrk, rCnt, rIfS, rSet, rPar, rFor, iSeq, iLst, iRg1, iRg2, iZp, iEn, iStrD, rLc, rYes, q_isi2, q_i2N, q_i2B, q_i2I, q_i2S, q_i2T, q_i2L, q_j2N, q_j2B, q_j2I, q_j2S, q_j2T, q_j2L, q_gt2, q_gtT, q_en, q_int2, q_strD, q_rev, q_ixo, q_ext2, q_extT, q_in, q_ins, q_pop, q_any, En.x, wipeD, start', List.getElem?_cons_zero, List.getElem?_cons_succ, List.set_cons_zero, List.set_cons_succ, List.map_cons, List.map_nil, List.length_cons, List.length_nil, List.cons_append, List.nil_append, List.replicate_succ, List.replicate_zero, id, q_asB, q_asI, q_add, q_addS, q_addT, q_addL, q_int, q_sub, q_mul, q_fdiv, q_mod, q_pow, q_neg, q_le, q_ge, q_gt, q_lt, q_ltT, q_isN, q_isB, q_isBi, q_isBs, q_isBn, q_isBt, q_isnt, n_non, n_bl, n_int, n_str, n_tup, n_ref, q_eq, q_eqS, q_eqB, q_ixT, q_ixK, q_ixL, q_ixS, q_slT, q_slL, q_slS, q_set, q_lenT, q_lenK, q_lenS, q_lenL, q_abs, q_intF, q_max, q_min, q_tupT, q_tupL, q_lstT, q_lstL, q_app, q_ext, q_joinL, q_stw, q_seq, q_lst, q_rng, q_rng2, q_zpT, q_zpL, q_truN, q_truB, q_truI, q_truT, q_truL, t_non, t_bl, t_int, t_str, t_tup, q_isiN, q_isiB, q_isiI, q_isiS, q_isiT, i_NoneType_int, i_NoneType_bool, i_NoneType_tuple, i_NoneType_list, i_NoneType_str, i_bool_int, i_bool_bool, i_bool_tuple, i_bool_list, i_bool_str, i_int_int, i_int_bool, i_int_tuple, i_int_list, i_int_str, i_str_int, i_str_bool, i_str_tuple, i_str_list, i_str_str, i_tuple_int, i_tuple_bool, i_tuple_tuple, i_tuple_list, i_tuple_str, i_list_int, i_list_bool, i_list_tuple, i_list_list, i_list_str, i_dict_int, i_dict_bool, i_dict_tuple, i_dict_list, i_dict_str, up_same, g_02, g_02', g_01, g_11, at_0, at_1, ix_0, ix_1, Option.some.injEq, HQ.lst.injEq, exists_eq_left', exists_eq_left, exists_and_left, exists_eq', exists_eq, decide_eq_true_eq, if_true, if_false, ite_true, ite_false, Bool.false_eq_true, reduceIte, reduceCtorEq, Bool.not_true, Bool.not_false, Nat.zero_add, Nat.reduceAdd, Nat.reduceSub, Nat.reduceLeDiff, Nat.reduceLT, Int.reduceLT, Int.reduceLE, Int.reduceEq, Int.reduceNe, Nat.reduceEqDiff, Int.reduceToNat, Int.reducePow, Int.reduceMul, Int.reduceAdd, Int.reduceSub, Int.reduceNeg, and_true, true_and, decide_true, decide_false, rFld, rSetF, rMet, rMetX, rMake, rBy, Y.rIsE, rCallX, rRaise, rTryAs, rTryOnly, rGd, q_fld, q_sfld, q_met, q_isntB, iEnX, iEn4, e4_t, e4_s, e4_k, e4_r, v_t, v_s, q_lset, q_remD, rNv, a_i, a_s, a_t, a_r, a_k, m_T, m_F, v_r, v_k, lg_r, lg_k, t_t, t_r, t_k, l_t, l_r, l_k, s_t, s_s, s_r, s_k, o_1, j_1, y_1, y_2, y_3, z_tt, z_r, z_k, e_1, k_ii, k_ss, k_bb, k_nn, k_tt, k_r, k_k, n_t, n_r, n_k, u_ii, u_si, lj_1, rLstF, rLcF, rFz, rSlM, iZp3, iEn3, eqvAll_nil, pds_emp, iAny, sq_k, sq_r, ls_t, or_false, false_or, fz_r, fz_k, fz_t, fz_n, fz_b, fz_s, q_lstK, q_truK, t_kl, q_isiK, iRevY, rv_r, rv_k, rv_t, rAug, q_i2K, q_j2K, q_srtB, at_2, at_3, q_strF, rPar3, g_03a, g_03b, g_03c, g_03d, g_03e, g_03f, rSS, rTryL, exL, k_min1, k_ixi, k_tupR, k_lr, q_inTd, k_srtI, k_popT, rMetXK, rKin, rKat, rLockT, rLockTE, rGet1, rGet2, rDel, rPop2, rTNew, iKysT, k_isD, k_keysT, k_lstT, k_lenT, gTk, rLam, rAsk, rCallXK, q_ext3, q_ext3T, q_ext3K, rDc, rDNew, gDk, rLock, rLockE, iKys, iVls, iIts, k_inS, k_inI, k_getS, k_getI, k_setS, k_setI, rMetK, rMakeK, q_srtTx, k_srt, k_len, k_keys, k_vals, k_items]
    refine take_of hb (by omega) (by omega) fun r S' hr0 hr1 n => ?_
    obtain ⟨d, hd, e, _⟩ := at_in hr0 hr1
    simp -implicitDefEqProofs only [rVar, rC, rBin, rUn, rTst, rChn, rTru, rAnd, rOr, rNot, rAndV, rOrV, rNotV, rIf, rNil, rCons, rTup, rLst, rFn, rCall, rCallK, rSl, rPrt, rNoP, rMt, gNm, q_gN, q_gC, q_gTp, q_gTl, q_inI, q_rep, gSb, rNext, rSeq, rDrop, rRet, rRetN, rBrk, rCnt, rIfS, rSet, rPar, rFor, iSeq, iLst, iRg1, iRg2, iZp, iEn, iStrD, rLc, rYes, q_isi2, q_i2N, q_i2B, q_i2I, q_i2S, q_i2T, q_i2L, q_j2N, q_j2B, q_j2I, q_j2S, q_j2T, q_j2L, q_gt2, q_gtT, q_en, q_int2, q_strD, q_rev, q_ixo, q_ext2, q_extT, q_in, q_ins, q_pop, q_any, En.x, wipeD, start', List.getElem?_cons_zero, List.getElem?_cons_succ, List.set_cons_zero, List.set_cons_succ, List.map_cons, List.map_nil, List.length_cons, List.length_nil, List.cons_append, List.nil_append, List.replicate_succ, List.replicate_zero, id, q_asB, q_asI, q_add, q_addS, q_addT, q_addL, q_int, q_sub, q_mul, q_fdiv, q_mod, q_pow, q_neg, q_le, q_ge, q_gt, q_lt, q_ltT, q_isN, q_isB, q_isBi, q_isBs, q_isBn, q_isBt, q_isnt, n_non, n_bl, n_int, n_str, n_tup, n_ref, q_eq, q_eqS, q_eqB, q_ixT, q_ixK, q_ixL, q_ixS, q_slT, q_slL, q_slS, q_set, q_lenT, q_lenK, q_lenS, q_lenL, q_abs, q_intF, q_max, q_min, q_tupT, q_tupL, q_lstT, q_lstL, q_app, q_ext, q_joinL, q_stw, q_seq, q_lst, q_rng, q_rng2, q_zpT, q_zpL, q_truN, q_truB, q_truI, q_truT, q_truL, t_non, t_bl, t_int, t_str, t_tup, q_isiN, q_isiB, q_isiI, q_isiS, q_isiT, i_NoneType_int, i_NoneType_bool, i_NoneType_tuple, i_NoneType_list, i_NoneType_str, i_bool_int, i_bool_bool, i_bool_tuple, i_bool_list, i_bool_str, i_int_int, i_int_bool, i_int_tuple, i_int_list, i_int_str, i_str_int, i_str_bool, i_str_tuple, i_str_list, i_str_str, i_tuple_int, i_tuple_bool, i_tuple_tuple, i_tuple_list, i_tuple_str, i_list_int, i_list_bool, i_list_tuple, i_list_list, i_list_str, i_dict_int, i_dict_bool, i_dict_tuple, i_dict_list, i_dict_str, up_same, g_02, g_02', g_01, g_11, at_0, at_1, ix_0, ix_1, Option.some.injEq, HQ.lst.injEq, exists_eq_left', exists_eq_left, exists_and_left, exists_eq', exists_eq, decide_eq_true_eq, if_true, if_false, ite_true, ite_false, Bool.false_eq_true, reduceIte, reduceCtorEq, Bool.not_true, Bool.not_false, Nat.zero_add, Nat.reduceAdd, Nat.reduceSub, Nat.reduceLeDiff, Nat.reduceLT, Int.reduceLT, Int.reduceLE, Int.reduceEq, Int.reduceNe, Nat.reduceEqDiff, Int.reduceToNat, Int.reducePow, Int.reduceMul, Int.reduceAdd, Int.reduceSub, Int.reduceNeg, and_true, true_and, decide_true, decide_false, rFld, rSetF, rMet, rMetX, rMake, rBy, Y.rIsE, rCallX, rRaise, rTryAs, rTryOnly, rGd, q_fld, q_sfld, q_met, q_isntB, iEnX, iEn4, e4_t, e4_s, e4_k, e4_r, v_t, v_s, q_lset, q_remD, rNv, a_i, a_s, a_t, a_r, a_k, m_T, m_F, v_r, v_k, lg_r, lg_k, t_t, t_r, t_k, l_t, l_r, l_k, s_t, s_s, s_r, s_k, o_1, j_1, y_1, y_2, y_3, z_tt, z_r, z_k, e_1, k_ii, k_ss, k_bb, k_nn, k_tt, k_r, k_k, n_t, n_r, n_k, u_ii, u_si, lj_1, rLstF, rLcF, rFz, rSlM, iZp3, iEn3, eqvAll_nil, pds_emp, iAny, sq_k, sq_r, ls_t, or_false, false_or, fz_r, fz_k, fz_t, fz_n, fz_b, fz_s, q_lstK, q_truK, t_kl, q_isiK, iRevY, rv_r, rv_k, rv_t, rAug, q_i2K, q_j2K, q_srtB, at_2, at_3, q_strF, rPar3, g_03a, g_03b, g_03c, g_03d, g_03e, g_03f, rSS, rTryL, exL, k_min1, k_ixi, k_tupR, k_lr, q_inTd, k_srtI, k_popT, rMetXK, rKin, rKat, rLockT, rLockTE, rGet1, rGet2, rDel, rPop2, rTNew, iKysT, k_isD, k_keysT, k_lstT, k_lenT, gTk, rLam, rAsk, rCallXK, q_ext3, q_ext3T, q_ext3K, rDc, rDNew, gDk, rLock, rLockE, iKys, iVls, iIts, k_inS, k_inI, k_getS, k_getI, k_setS, k_setI, rMetK, rMakeK, q_srtTx, k_srt, k_len, k_keys, k_vals, k_items, e]
    exact k d S' hd n
  · simp -implicitDefEqProofs only [rVar, rC, rBin, rUn, rTst, rChn, rTru, rAnd, rOr, rNot, rAndV, rOrV, rNotV, rIf, rNil, rCons, rTup, rLst, rFn, rCall, rCallK, rSl, rPrt, rNoP, rMt, gNm, q_gN, q_gC, q_gTp, q_gTl, q_inI, q_rep, gSb, rNext, rSeq, rDrop, rRet, rRetN, rBrk, rCnt, rIfS, rSet, rPar, rFor, iSeq, iLst, iRg1, iRg2, iZp, iEn, iStrD, rLc, rYes, q_isi2, q_i2N, q_i2B, q_i2I, q_i2S, q_i2T, q_i2L, q_j2N, q_j2B, q_j2I, q_j2S, q_j2T, q_j2L, q_gt2, q_gtT, q_en, q_int2, q_strD, q_rev, q_ixo, q_ext2, q_extT, q_in, q_ins, q_pop, q_any, En.x, wipeD, start', List.getElem?_cons_zero, List.getElem?_cons_succ, List.set_cons_zero, List.set_cons_succ, List.map_cons, List.map_nil, List.length_cons, List.length_nil, List.cons_append, List.nil_append, List.replicate_succ, List.replicate_zero, id, q_asB, q_asI, q_add, q_addS, q_addT, q_addL, q_int, q_sub, q_mul, q_fdiv, q_mod, q_pow, q_neg, q_le, q_ge, q_gt, q_lt, q_ltT, q_isN, q_isB, q_isBi, q_isBs, q_isBn, q_isBt, q_isnt, n_non, n_bl, n_int, n_str, n_tup, n_ref, q_eq, q_eqS, q_eqB, q_ixT, q_ixK, q_ixL, q_ixS, q_slT, q_slL, q_slS, q_set, q_lenT, q_lenK, q_lenS, q_lenL, q_abs, q_intF, q_max, q_min, q_tupT, q_tupL, q_lstT, q_lstL, q_app, q_ext, q_joinL, q_stw, q_seq, q_lst, q_rng, q_rng2, q_zpT, q_zpL, q_truN, q_truB, q_truI, q_truT, q_truL, t_non, t_bl, t_int, t_str, t_tup, q_isiN, q_isiB, q_isiI, q_isiS, q_isiT, i_NoneType_int, i_NoneType_bool, i_NoneType_tuple, i_NoneType_list, i_NoneType_str, i_bool_int, i_bool_bool, i_bool_tuple, i_bool_list, i_bool_str, i_int_int, i_int_bool, i_int_tuple, i_int_list, i_int_str, i_str_int, i_str_bool, i_str_tuple, i_str_list, i_str_str, i_tuple_int, i_tuple_bool, i_tuple_tuple, i_tuple_list, i_tuple_str, i_list_int, i_list_bool, i_list_tuple, i_list_list, i_list_str, i_dict_int, i_dict_bool, i_dict_tuple, i_dict_list, i_dict_str, up_same, g_02, g_02', g_01, g_11, at_0, at_1, ix_0, ix_1, Option.some.injEq, HQ.lst.injEq, exists_eq_left', exists_eq_left, exists_and_left, exists_eq', exists_eq, decide_eq_true_eq, if_true, if_false, ite_true, ite_false, Bool.false_eq_true, reduceIte, reduceCtorEq, Bool.not_true, Bool.not_false, Nat.zero_add, Nat.reduceAdd, Nat.reduceSub, Nat.reduceLeDiff, Nat.reduceLT, Int.reduceLT, Int.reduceLE, Int.reduceEq, Int.reduceNe, Nat.reduceEqDiff, Int.reduceToNat, Int.reducePow, Int.reduceMul, Int.reduceAdd, Int.reduceSub, Int.reduceNeg, and_true, true_and, decide_true, decide_false, rFld, rSetF, rMet, rMetX, rMake, rBy, Y.rIsE, rCallX, rRaise, rTryAs, rTryOnly, rGd, q_fld, q_sfld, q_met, q_isntB, iEnX, iEn4, e4_t, e4_s, e4_k, e4_r, v_t, v_s, q_lset, q_remD, rNv, a_i, a_s, a_t, a_r, a_k, m_T, m_F, v_r, v_k, lg_r, lg_k, t_t, t_r, t_k, l_t, l_r, l_k, s_t, s_s, s_r, s_k, o_1, j_1, y_1, y_2, y_3, z_tt, z_r, z_k, e_1, k_ii, k_ss, k_bb, k_nn, k_tt, k_r, k_k, n_t, n_r, n_k, u_ii, u_si, lj_1, rLstF, rLcF, rFz, rSlM, iZp3, iEn3, eqvAll_nil, pds_emp, iAny, sq_k, sq_r, ls_t, or_false, false_or, fz_r, fz_k, fz_t, fz_n, fz_b, fz_s, q_lstK, q_truK, t_kl, q_isiK, iRevY, rv_r, rv_k, rv_t, rAug, q_i2K, q_j2K, q_srtB, at_2, at_3, q_strF, rPar3, g_03a, g_03b, g_03c, g_03d, g_03e, g_03f, rSS, rTryL, exL, k_min1, k_ixi, k_tupR, k_lr, q_inTd, k_srtI, k_popT, rMetXK, rKin, rKat, rLockT, rLockTE, rGet1, rGet2, rDel, rPop2, rTNew, iKysT, k_isD, k_keysT, k_lstT, k_lenT, gTk, rLam, rAsk, rCallXK, q_ext3, q_ext3T, q_ext3K, rDc, rDNew, gDk, rLock, rLockE, iKys, iVls, iIts, k_inS, k_inI, k_getS, k_getI, k_setS, k_setI, rMetK, rMakeK, q_srtTx, k_srt, k_len, k_keys, k_vals, k_items, ha]
    refine take_of hb (by omega) (by omega) fun r S' hr0 hr1 n => ?_
    obtain ⟨d, hd, e, _⟩ := at_in hr0 hr1
    simp -implicitDefEqProofs only [rVar, rC, rBin, rUn, rTst, rChn, rTru, rAnd, rOr, rNot, rAndV, rOrV, rNotV, rIf, rNil, rCons, rTup, rLst, rFn, rCall, rCallK, rSl, rPrt, rNoP, rMt, gNm, q_gN, q_gC, q_gTp, q_gTl, q_inI, q_rep, gSb, rNext, rSeq, rDrop, rRet, rRetN, rBrk, rCnt, rIfS, rSet, rPar, rFor, iSeq, iLst, iRg1, iRg2, iZp, iEn, iStrD, rLc, rYes, q_isi2, q_i2N, q_i2B, q_i2I, q_i2S, q_i2T, q_i2L, q_j2N, q_j2B, q_j2I, q_j2S, q_j2T, q_j2L, q_gt2, q_gtT, q_en, q_int2, q_strD, q_rev, q_ixo, q_ext2, q_extT, q_in, q_ins, q_pop, q_any, En.x, wipeD, start', List.getElem?_cons_zero, List.getElem?_cons_succ, List.set_cons_zero, List.set_cons_succ, List.map_cons, List.map_nil, List.length_cons, List.length_nil, List.cons_append, List.nil_append, List.replicate_succ, List.replicate_zero, id, q_asB, q_asI, q_add, q_addS, q_addT, q_addL, q_int, q_sub, q_mul, q_fdiv, q_mod, q_pow, q_neg, q_le, q_ge, q_gt, q_lt, q_ltT, q_isN, q_isB, q_isBi, q_isBs, q_isBn, q_isBt, q_isnt, n_non, n_bl, n_int, n_str, n_tup, n_ref, q_eq, q_eqS, q_eqB, q_ixT, q_ixK, q_ixL, q_ixS, q_slT, q_slL, q_slS, q_set, q_lenT, q_lenK, q_lenS, q_lenL, q_abs, q_intF, q_max, q_min, q_tupT, q_tupL, q_lstT, q_lstL, q_app, q_ext, q_joinL, q_stw, q_seq, q_lst, q_rng, q_rng2, q_zpT, q_zpL, q_truN, q_truB, q_truI, q_truT, q_truL, t_non, t_bl, t_int, t_str, t_tup, q_isiN, q_isiB, q_isiI, q_isiS, q_isiT, i_NoneType_int, i_NoneType_bool, i_NoneType_tuple, i_NoneType_list, i_NoneType_str, i_bool_int, i_bool_bool, i_bool_tuple, i_bool_list, i_bool_str, i_int_int, i_int_bool, i_int_tuple, i_int_list, i_int_str, i_str_int, i_str_bool, i_str_tuple, i_str_list, i_str_str, i_tuple_int, i_tuple_bool, i_tuple_tuple, i_tuple_list, i_tuple_str, i_list_int, i_list_bool, i_list_tuple, i_list_list, i_list_str, i_dict_int, i_dict_bool, i_dict_tuple, i_dict_list, i_dict_str, up_same, g_02, g_02', g_01, g_11, at_0, at_1, ix_0, ix_1, Option.some.injEq, HQ.lst.injEq, exists_eq_left', exists_eq_left, exists_and_left, exists_eq', exists_eq, decide_eq_true_eq, if_true, if_false, ite_true, ite_false, Bool.false_eq_true, reduceIte, reduceCtorEq, Bool.not_true, Bool.not_false, Nat.zero_add, Nat.reduceAdd, Nat.reduceSub, Nat.reduceLeDiff, Nat.reduceLT, Int.reduceLT, Int.reduceLE, Int.reduceEq, Int.reduceNe, Nat.reduceEqDiff, Int.reduceToNat, Int.reducePow, Int.reduceMul, Int.reduceAdd, Int.reduceSub, Int.reduceNeg, and_true, true_and, decide_true, decide_false, rFld, rSetF, rMet, rMetX, rMake, rBy, Y.rIsE, rCallX, rRaise, rTryAs, rTryOnly, rGd, q_fld, q_sfld, q_met, q_isntB, iEnX, iEn4, e4_t, e4_s, e4_k, e4_r, v_t, v_s, q_lset, q_remD, rNv, a_i, a_s, a_t, a_r, a_k, m_T, m_F, v_r, v_k, lg_r, lg_k, t_t, t_r, t_k, l_t, l_r, l_k, s_t, s_s, s_r, s_k, o_1, j_1, y_1, y_2, y_3, z_tt, z_r, z_k, e_1, k_ii, k_ss, k_bb, k_nn, k_tt, k_r, k_k, n_t, n_r, n_k, u_ii, u_si, lj_1, rLstF, rLcF, rFz, rSlM, iZp3, iEn3, eqvAll_nil, pds_emp, iAny, sq_k, sq_r, ls_t, or_false, false_or, fz_r, fz_k, fz_t, fz_n, fz_b, fz_s, q_lstK, q_truK, t_kl, q_isiK, iRevY, rv_r, rv_k, rv_t, rAug, q_i2K, q_j2K, q_srtB, at_2, at_3, q_strF, rPar3, g_03a, g_03b, g_03c, g_03d, g_03e, g_03f, rSS, rTryL, exL, k_min1, k_ixi, k_tupR, k_lr, q_inTd, k_srtI, k_popT, rMetXK, rKin, rKat, rLockT, rLockTE, rGet1, rGet2, rDel, rPop2, rTNew, iKysT, k_isD, k_keysT, k_lstT, k_lenT, gTk, rLam, rAsk, rCallXK, q_ext3, q_ext3T, q_ext3K, rDc, rDNew, gDk, rLock, rLockE, iKys, iVls, iIts, k_inS, k_inI, k_getS, k_getI, k_setS, k_setI, rMetK, rMakeK, q_srtTx, k_srt, k_len, k_keys, k_vals, k_items, n.get ne ha, e]
    exact k d S' hd n
end K25
namespace K25
open PySem PySem.Spec PyProof.Rows L2 Y
theorem pu_law_once : ∀ ds S Q, sp_law_once ds S Q NoX → rd_law_once { nx := fun _ S => Q .non S, rt := Q } (start' 4 ds) S := by
  rintro _ S Q (⟨ps, n, rfl, hl, k⟩ | ⟨ps, n, rfl, hl, k⟩) <;> unfold rd_law_once
  · array_get_dec
    intro q hq
    array_get_dec
    refine loop_idx (fun i σ S' => ∃ acc : List (Int × Int), ∃ u_one : Option D, S' = up S q (.lst (acc.map p2)) ∧ acc.length ≤ i ∧ oncs n (ps.drop i) acc = oncs n ps [] ∧ σ = [some (.kl (ps.map p2)), some (.int n), some (.ref q), u_one]) (fun _ _ _ _ _ => trivial) (fun i x σ S' hx hi N hN => ?_) (fun σ S' hi => ?_) ⟨[], _, rfl, Nat.zero_le _, rfl, rfl⟩
    · obtain ⟨acc, z, rfl, hlen, hacc, rfl⟩ := hi
      rw [List.getElem?_map] at hx
      cases hpi : ps[i]? with
      | none => rw [hpi] at hx; cases hx
      | some p =>
      rw [hpi] at hx
      cases hx
      have hi := (List.getElem?_eq_some_iff.mp hpi).1
      have hd : ps.drop i = p :: ps.drop (i + 1) := by
        rw [List.drop_eq_getElem_cons hi]
        rw [List.getElem?_eq_getElem hi] at hpi
        rw [Option.some.inj hpi]
      rw [hd] at hacc
      have hacc : oncs n (ps.drop (i + 1)) (if p ∉ acc ∧ acc.length < n then acc ++ [p] else acc) = oncs n ps [] := hacc
      array_get_dec
      refine ⟨ok_pr, ok_prs, ?_⟩
      rw [in_prs]
      have end0 : ¬ (p ∉ acc ∧ acc.length < n) → N [some (.kl (ps.map p2)), some (.int n), some (.ref q), some (p2 p)] (up S q (.lst (acc.map p2))) := fun c => by
        rw [if_neg c] at hacc
        exact hN _ _ ⟨acc, _, rfl, by omega, hacc, rfl⟩
      by_cases c1 : p ∈ acc
      · rw [if_neg (by simp [c1])]
        exact end0 (by simp [c1])
      · rw [if_pos (by simp [c1])]
        by_cases c2 : acc.length < n
        · rw [if_pos (by rw [List.length_map]; omega)]
          refine ⟨t_lst up_same, by rw [List.length_map]; omega, ?_⟩
          rw [up_up]
          rw [if_pos ⟨c1, c2⟩] at hacc
          exact hN _ _ ⟨acc ++ [p], _, by rw [List.map_append]; rfl, by simp; omega, hacc, rfl⟩
        · rw [if_neg (by rw [List.length_map]; omega)]
          exact end0 fun c => c2 c.2
    · obtain ⟨acc, z, rfl, hlen, hacc, rfl⟩ := hi
      rw [List.length_map, List.drop_length] at hacc
      have hacc : acc = oncs n ps [] := hacc
      rw [← hacc] at k
      array_get_dec
      rw [rm_up hq]
      exact k
  · array_get_dec
    intro q hq
    array_get_dec
    refine loop_idx (fun i σ S' => ∃ acc : List Int, ∃ u_one : Option D, S' = up S q (.lst (acc.map D.int)) ∧ acc.length ≤ i ∧ onci n (ps.drop i) acc = onci n ps [] ∧ σ = [some (.kl (ps.map D.int)), some (.int n), some (.ref q), u_one]) (fun _ _ _ _ _ => trivial) (fun i x σ S' hx hi N hN => ?_) (fun σ S' hi => ?_) ⟨[], _, rfl, Nat.zero_le _, rfl, rfl⟩
    · obtain ⟨acc, z, rfl, hlen, hacc, rfl⟩ := hi
      rw [List.getElem?_map] at hx
      cases hpi : ps[i]? with
      | none => rw [hpi] at hx; cases hx
      | some p =>
      rw [hpi] at hx
      cases hx
      have hi := (List.getElem?_eq_some_iff.mp hpi).1
      have hd : ps.drop i = p :: ps.drop (i + 1) := by
        rw [List.drop_eq_getElem_cons hi]
        rw [List.getElem?_eq_getElem hi] at hpi
        rw [Option.some.inj hpi]
      rw [hd] at hacc
      have hacc : onci n (ps.drop (i + 1)) (if p ∉ acc ∧ acc.length < n then acc ++ [p] else acc) = onci n ps [] := hacc
      array_get_dec
      refine ⟨ok_int, ok_ints, ?_⟩
      rw [in_ints]
      have end0 : ¬ (p ∉ acc ∧ acc.length < n) → N [some (.kl (ps.map D.int)), some (.int n), some (.ref q), some (D.int p)] (up S q (.lst (acc.map D.int))) := fun c => by
        rw [if_neg c] at hacc
        exact hN _ _ ⟨acc, _, rfl, by omega, hacc, rfl⟩
      by_cases c1 : p ∈ acc
      · rw [if_neg (by simp [c1])]
        exact end0 (by simp [c1])
      · rw [if_pos (by simp [c1])]
        by_cases c2 : acc.length < n
        · rw [if_pos (by rw [List.length_map]; omega)]
          refine ⟨t_lst up_same, by rw [List.length_map]; omega, ?_⟩
          rw [up_up]
          rw [if_pos ⟨c1, c2⟩] at hacc
          exact hN _ _ ⟨acc ++ [p], _, by rw [List.map_append]; rfl, by simp; omega, hacc, rfl⟩
        · rw [if_neg (by rw [List.length_map]; omega)]
          exact end0 fun c => c2 c.2
    · obtain ⟨acc, z, rfl, hlen, hacc, rfl⟩ := hi
      rw [List.length_map, List.drop_length] at hacc
      have hacc : acc = onci n ps [] := hacc
      rw [← hacc] at k
      array_get_dec
      rw [rm_up hq]
      exact k
end K25
namespace K25
open PySem PySem.Spec PyProof.Rows L2 Y
theorem pu_law_pairs : ∀ ds S Q, sp_law_pairs ds S Q NoX → rd_law_pairs { nx := fun _ S => Q .non S, rt := Q } (start' 9 ds) S := by
  rintro _ S Q ⟨b, rfl, bx, k⟩
  unfold rd_law_pairs
  array_get_dec
  refine take_of bx (by decide) (by decide) fun t S1 t0 t1 n1 => ?_
  obtain ⟨t, rfl⟩ := Int.eq_ofNat_of_zero_le t0
  sizeOf_list_dec
  refine ⟨b, 32, 2 + t, rfl, n1.bx, by decide, by omega, fun ys S2 hlen nd rng n2 => ?_⟩
  refine ⟨b, _, _, rfl, n2.bx, .inl rfl, by rw [List.length_map]; omega, fun ms S3 hpm n3 => ?_⟩
  obtain ⟨zs, rfl, hpz⟩ := perm_inv toI (fun _ => rfl) hpm
  have nd : zs.Nodup := hpz.nodup_iff.mpr nd
  have rng : ∀ y ∈ zs, 0 ≤ y ∧ y < 32 := fun y m => rng y (hpz.mem_iff.mp m)
  have hlen : zs.length = 2 + t := hpz.length_eq.trans hlen
  have n0 := (n1.trans n2).trans n3
  clear hpm hpz n1 n2 n3
  array_get_dec
  rw [List.length_map]
  refine take_of n0.bx (by decide) (by decide) fun kd S4 k0 k1 n4 => ?_
  have n0 := n0.trans n4
  clear n4
  array_get_dec
  intro q hq
  have hqb : q ≠ b := n0.bx.ne hq
  have hq0 : S q = none := by
    cases e : S q with
    | none => rfl
    | some o => rw [n0.old q o hqb e] at hq; cases hq
  have g2 : up S4 q (.lst []) q = some (.lst []) := up_same
  have n0 := n0.trans (Nx.new (q := .lst []) n0.bx hq)
  generalize up S4 q (.lst []) = S5 at g2 n0
  clear hq
  array_get_dec
  refine pick_of n0.bx (by decide) (by decide) fun d S6 hd n6 => ?_
  have g2 := n6.get hqb g2
  have n0 := n0.trans n6
  clear n6
  obtain ⟨n, rfl, hn⟩ : ∃ n : Nat, d = .int n ∧ n ≤ 50 := by
    simp only [List.mem_cons, List.not_mem_nil, or_false] at hd
    rcases hd with rfl | rfl | rfl | rfl | rfl
    · exact ⟨0, rfl, by decide⟩
    · exact ⟨3, rfl, by decide⟩
    · exact ⟨9, rfl, by decide⟩
    · exact ⟨20, rfl, by decide⟩
    · exact ⟨50, rfl, by decide⟩
  clear hd
  have keep : ∀ {S' : Hq} {a : Addr} {o : HQ}, a ≠ b → S a = none → Nx b S S' → Nx b S (up S' a o) := fun {S' a o} hab hn n => ⟨n.bx.put hab, fun c u ne h => by rw [up_ne (fun z => by rw [z, hn] at h; cases h)]; exact n.old c u ne h⟩
  sizeOf_list_dec
  refine ⟨⟨by omega, by omega⟩, ?_⟩
  refine loop_idx (fun i σ S' => ∃ ps : List (Int × Int), ∃ u_turn u_places : Option D, S' q = some (.lst (ps.map p2)) ∧ (∀ p ∈ ps, Gp p) ∧ ps.length ≤ i ∧ Nx b S S' ∧ σ = [some (.ref b), some (.kl (zs.map D.int)), u_turn, some (.int zs.length), some (.int kd), some (.ref q), u_places, none, none]) (fun _ _ _ _ _ => trivial) (fun i x σ S' hx hi N hN => ?_) (fun σ S' hi => ?_) ⟨[], _, _, g2, by simp, by simp, n0, rfl⟩
  · clear g2 n0
    obtain ⟨ps, z1, z2, g2, hg, hlp, n0, rfl⟩ := hi
    obtain ⟨hj, rfl⟩ := rangeD_get hx
    array_get_dec
    refine ⟨b, zs.length, 2, rfl, n0.bx, by omega, by omega, fun pl S7 hpl ndp rp n7 => ?_⟩
    have g2 := n7.get hqb g2
    have n0 := n0.trans n7
    obtain ⟨u, v, hu, hv, huv, rfl, a, c, ha, hc⟩ := two_pl (zs := zs) hpl ndp rp
    have gac := gp_names nd rng ha hc huv
    have iu : atI (zs.map D.int) (u : Int) = some (.int a) := atI_nat (by rw [List.getElem?_map, ha]; rfl)
    have iv : atI (zs.map D.int) (v : Int) = some (.int c) := atI_nat (by rw [List.getElem?_map, hc]; rfl)
    array_get_dec
    refine ⟨t_lst g2, _, iu, _, iv, _, g2, by rw [List.length_map]; omega, ?_⟩
    refine hN _ _ ⟨ps ++ [(a, c)], _, _, by rw [up_same, List.map_append]; rfl, fun p m => ?_, by simp; omega, keep hqb hq0 n0, rfl⟩
    rcases List.mem_append.mp m with m | m
    · exact hg p m
    · rw [List.mem_singleton.mp m]; exact gac
  · clear g2 n0
    obtain ⟨ps, z1, z2, g2, hg, hlp, n0, rfl⟩ := hi
    rw [rangeD_len] at hlp
    array_get_dec
    have go1 : ∀ (ps : List (Int × Int)) (S' : Hq) (z1 z2 : Option D), S' q = some (.lst (ps.map p2)) → (∀ p ∈ ps, Gp p) → ps.length ≤ 51 → Nx b S S' → KN [some (.ref b), some (.kl (zs.map D.int)), z1, some (.int zs.length), some (.int kd), some (.ref q), z2, none, none] S' := by
      clear g2 hg hlp n0 ps z1 z2
      intro ps S' z1 z2 g2 hg hlp n0
      array_get_dec
      have go2 : ∀ (q : Addr) (ps : List (Int × Int)) (S' : Hq) (z1 z2 z3 z4 : Option D), q ≠ b → S q = none → S' q = some (.lst (ps.map p2)) → (∀ p ∈ ps, Gp p) → ps.length ≤ 100 → Nx b S S' → KN [some (.ref b), some (.kl (zs.map D.int)), z1, some (.int zs.length), some (.int kd), some (.ref q), z2, z3, z4] S' := by
        clear g2 hg hlp n0 ps z1 z2
        intro q ps S' z1 z2 z3 z4 hqb hq0 g2 hg hlp n0
        array_get_dec
        have go3 : ∀ (q : Addr) (ps : List (Int × Int)) (S' : Hq) (z1 z2 z3 z4 : Option D), q ≠ b → S' q = some (.lst (ps.map p2)) → (∀ p ∈ ps, Gp p) → ps.length ≤ 200 → Nx b S S' → KN [some (.ref b), some (.kl (zs.map D.int)), z1, some (.int zs.length), some (.int kd), some (.ref q), z2, z3, z4] S' := by
          clear g2 hg hlp n0 ps z1 z2
          intro q ps S' z1 z2 z3 z4 hqb g2 hg hlp n0
          array_get_dec
          refine ⟨b, _, _, rfl, n0.bx, .inr ⟨q, rfl, hqb, g2⟩, by rw [List.length_map]; omega, fun ms S7 hpm n7 => ?_⟩
          obtain ⟨qs, rfl, hpq⟩ := perm_inv toP (fun _ => rfl) hpm
          refine .inl ⟨qs, 60, rfl, by rw [hpq.length_eq]; omega, ?_⟩
          sizeOf_list_dec
          refine k _ _ (oncs_len (by simp)) (fun x m => ?_) (n0.trans n7)
          rcases oncs_sub m with m | m
          · exact hg x (hpq.mem_iff.mp m)
          · cases m
        split
        · refine take_of n0.bx (by decide) (by decide) fun w S8 w0 w1 n8 => ?_
          obtain ⟨w, rfl⟩ := Int.eq_ofNat_of_zero_le w0
          have g2 := n8.get hqb g2
          have n0 := n0.trans n8
          sizeOf_list_dec
          refine ⟨⟨by omega, by omega⟩, ?_⟩
          refine lc_draw (fun S' => Nx b S S' ∧ S' q = some (.lst (ps.map p2))) (fun d => ∃ x : Int × Int, d = .kl [.int x.1, .int x.2] ∧ Gp x) (fun _ _ => trivial) _ _ _ (fun x _ S' Q' hi h => ?_) (by rw [rangeD_len]; simp; omega) (by simp) ⟨n0, g2⟩ (fun acc S9 hla ha hi => ?_)
          · obtain ⟨n0, g2⟩ := hi
            sizeOf_list_dec
            refine ⟨b, 32, 2, rfl, n0.bx, by decide, by decide, fun pl S7 hpl ndp rp n7 => ?_⟩
            obtain ⟨x, y, rfl⟩ : ∃ x y, pl = [x, y] := by
              match pl, hpl with
              | [x, y], _ => exact ⟨x, y, rfl⟩
            refine h _ _ ⟨(x, y), rfl, ?_⟩ ⟨n0.trans n7, n7.get hqb g2⟩
            have hx := rp x (by simp)
            have hy := rp y (by simp)
            exact ⟨hx.1, hx.2, hy.1, hy.2, by simpa using ndp⟩
          · obtain ⟨n0, g2⟩ := hi
            obtain ⟨ws, rfl, hw⟩ := ex_list (f := fun x : Int × Int => D.kl [.int x.1, .int x.2]) acc ha
            rw [List.length_map, rangeD_len] at hla
            refine lc_mp (fun x : Int × Int => D.kl [.int x.1, .int x.2]) (fun x => p2 (x.2, x.1)) trivial ws (fun x _ Q h => ?_) (by simp at hla; omega) ?_
            · sizeOf_list_dec
              exact h
            have e4 : ws.map (fun x => p2 (x.2, x.1)) = (ws.map fun x => (x.2, x.1)).map p2 := by rw [List.map_map]; rfl
            rw [e4]
            have hwl : ws.length ≤ 20 := by simp at hla; omega
            refine ⟨_, g2, by simp; omega, fun p hp => ?_⟩
            rw [← List.map_append]
            have hpb : p ≠ b := n0.bx.ne hp
            have hp0 : S p = none := by
              cases e : S p with
              | none => rfl
              | some o => rw [n0.old p o hpb e] at hp; cases hp
            refine go3 p _ _ _ _ _ _ hpb up_same (fun x m => ?_) (by simp; omega) (keep hpb hp0 n0)
            rcases List.mem_append.mp m with m | m
            · exact hg x m
            · obtain ⟨y, my, rfl⟩ := List.mem_map.mp m
              have g := hw y my
              exact ⟨g.2.2.1, g.2.2.2.1, g.1, g.2.1, fun e => g.2.2.2.2 e.symm⟩
        · exact go3 q ps S' z1 z2 z3 z4 hqb g2 hg (by omega) n0
      split
      · array_get_dec
        refine ⟨b, _, _, rfl, n0.bx, .inl rfl, by rw [List.length_map]; omega, fun ms S7 hpm n7 => ?_⟩
        have g2 := n7.get hqb g2
        have n0 := n0.trans n7
        obtain ⟨rs, rfl, hpr⟩ := perm_inv toI (fun _ => rfl) hpm
        array_get_dec
        have hlr : rs.length = 2 + t := hpr.length_eq.trans hlen
        refine take_of n0.bx (by omega) (by omega) fun w S8 w0 w1 n8 => ?_
        obtain ⟨w, rfl⟩ := Int.eq_ofNat_of_zero_le w0
        have g2 := n8.get hqb g2
        have n0 := n0.trans n8
        have hcl : cutL (rs.map D.int) none (some (2 + (w : Int))) = (rs.take (2 + w)).map D.int := by
          rw [cutL_to _ (by omega), List.map_take, show (2 + (w : Int)).toNat = 2 + w by omega]
        have hll : (rs.take (2 + w)).length = 2 + w := by rw [List.length_take]; omega
        have ndt : (rs.take (2 + w)).Nodup := (hpr.nodup_iff.mpr nd).sublist (List.take_sublist _ _)
        have rgt : ∀ y ∈ rs.take (2 + w), 0 ≤ y ∧ y < 32 := fun y m => rng y (hpr.mem_iff.mp (List.mem_of_mem_take m))
        sizeOf_list_dec
        rw [hcl]
        generalize rs.take (2 + w) = row at hll ndt rgt
        array_get_dec
        rw [List.length_map]
        refine ⟨⟨by omega, by omega⟩, ?_⟩
        have gat : ∀ j, j < row.length → row[j]? = some (row.getD j 0) := fun j hj => by
          rw [List.getD_eq_getElem?_getD, List.getElem?_eq_getElem hj]; rfl
        have gia : ∀ j : Nat, j < row.length → atI (row.map D.int) (j : Int) = some (.int (row.getD j 0)) := fun j hj => atI_nat (by rw [List.getElem?_map, gat j hj]; rfl)
        refine lc_ft (fun j : Nat => D.int (0 + j)) (fun _ => true) (fun j => p2 (row.getD j 0, row.getD (j + 1) 0)) trivial (List.range ((row.length : Int) - 1).toNat) (fun j _ Q h => h) (fun j hj _ Q h => ?_) (by rw [List.length_range]; omega) ?_
        · have hj := List.mem_range.mp hj
          sizeOf_list_dec
          have e1 := gia j (by omega)
          have e2 := gia (j + 1) (by omega)
          refine ⟨_, by rw [Int.zero_add]; exact e1, _, by rw [Int.zero_add]; exact e2, h⟩
        rw [List.filter_eq_self.mpr (fun _ _ => rfl)]
        have eE : (List.range ((row.length : Int) - 1).toNat).map (fun j => p2 (row.getD j 0, row.getD (j + 1) 0)) = ((List.range ((row.length : Int) - 1).toNat).map fun j => (row.getD j 0, row.getD (j + 1) 0)).map p2 := by rw [List.map_map]; rfl
        rw [eE]
        have ix : atI (row.map D.int) (-1) = some (.int (row.getD (row.length - 1) 0)) := by
          have ix : ixN (row.map D.int).length (-1) = some (row.length - 1) := by
            rw [List.length_map]
            unfold ixN
            rw [if_neg (by decide), if_pos (by omega)]
            congr 1
            omega
          show (ixN (row.map D.int).length (-1)).bind (fun j => (row.map D.int)[j]?) = _
          rw [ix]
          show (row.map D.int)[row.length - 1]? = _
          rw [List.getElem?_map, gat _ (by omega)]
          rfl
        have i0 := gia 0 (by omega)
        refine ⟨_, g2, by simp; omega, _, ix, _, i0, by simp; omega, fun p hp => ?_⟩
        have hpb : p ≠ b := n0.bx.ne hp
        have hp0 : S p = none := by
          cases e : S p with
          | none => rfl
          | some o => rw [n0.old p o hpb e] at hp; cases hp
        have e3 : ps.map p2 ++ ((List.range ((row.length : Int) - 1).toNat).map fun j => (row.getD j 0, row.getD (j + 1) 0)).map p2 ++ [D.tup [.int (row.getD (row.length - 1) 0), .int (row.getD 0 0)]] = (ps ++ ((List.range ((row.length : Int) - 1).toNat).map fun j => (row.getD j 0, row.getD (j + 1) 0)) ++ [(row.getD (row.length - 1) 0, row.getD 0 0)]).map p2 := by
          rw [List.map_append, List.map_append]; rfl
        rw [e3]
        refine go2 p _ _ _ _ _ _ hpb hp0 up_same (fun x m => ?_) (by simp; omega) (keep hpb hp0 n0)
        rcases List.mem_append.mp m with m | m
        · rcases List.mem_append.mp m with m | m
          · exact hg x m
          · obtain ⟨j, mj, rfl⟩ := List.mem_map.mp m
            have := List.mem_range.mp mj
            exact gp_names ndt rgt (gat j (by omega)) (gat (j + 1) (by omega)) (by omega)
        · rw [List.mem_singleton.mp m]
          exact gp_names ndt rgt (gat _ (by omega)) (gat 0 (by omega)) (by omega)
      · exact go2 q ps S' z1 z2 _ _ hqb hq0 g2 hg (by omega) n0
    split
    · array_get_dec
      refine ⟨b, zs.length, 2, rfl, n0.bx, by omega, by omega, fun pl S7 hpl ndp rp n7 => ?_⟩
      have g2 := n7.get hqb g2
      have n0 := n0.trans n7
      obtain ⟨u, v, hu, hv, huv, rfl, a, c, ha, hc⟩ := two_pl (zs := zs) hpl ndp rp
      have gac := gp_names nd rng hc ha (Ne.symm huv)
      have iu : atI (zs.map D.int) (u : Int) = some (.int a) := atI_nat (by rw [List.getElem?_map, ha]; rfl)
      have iv : atI (zs.map D.int) (v : Int) = some (.int c) := atI_nat (by rw [List.getElem?_map, hc]; rfl)
      array_get_dec
      refine ⟨t_lst g2, _, iv, _, iu, _, g2, by rw [List.length_map]; omega, ?_⟩
      refine go1 (ps ++ [(c, a)]) _ _ _ (by rw [up_same, List.map_append]; rfl) (fun p m => ?_) (by simp; omega) (keep hqb hq0 n0)
      rcases List.mem_append.mp m with m | m
      · exact hg p m
      · rw [List.mem_singleton.mp m]; exact gac
    · exact go1 ps S' z1 z2 g2 hg (by omega) n0
end K25
namespace K25
open PySem PySem.Spec PyProof.Rows L2 Y
theorem pu_law_box : ∀ ds S Q, sp_law_box ds S Q NoX → rd_law_box { nx := fun _ S => Q .non S, rt := Q } (start' 4 ds) S := by
  rintro _ S Q ⟨ns, k, rfl, hl, hk0, hk1, q⟩
  unfold rd_law_box
  simp -implicitDefEqProofs only [rVar, rC, rBin, rUn, rTst, rChn, rTru, rAnd, rOr, rNot, rAndV, rOrV, rNotV, rIf, rNil, rCons, rTup, rLst, rFn, rCall, rCallK, rSl, rPrt, rNoP, rMt, gNm, q_gN, q_gC, q_gTp, q_gTl, q_inI, q_rep, gSb, rNext, rSeq, rDrop, rRet, rRetN, rBrk, rCnt, rIfS, rSet, rPar, rFor, iSeq, iLst, iRg1, iRg2, iZp, iEn, iStrD, rLc, rYes, q_isi2, q_i2N, q_i2B, q_i2I, q_i2S, q_i2T, q_i2L, q_j2N, q_j2B, q_j2I, q_j2S, q_j2T, q_j2L, q_gt2, q_gtT, q_en, q_int2, q_strD, q_rev, q_ixo, q_ext2, q_extT, q_in, q_ins, q_pop, q_any, En.x, wipeD, start', List.getElem?_cons_zero, List.getElem?_cons_succ, List.set_cons_zero, List.set_cons_succ, List.map_cons, List.map_nil, List.length_cons, List.length_nil, List.cons_append, List.nil_append, List.replicate_succ, List.replicate_zero, id, q_asB, q_asI, q_add, q_addS, q_addT, q_addL, q_int, q_sub, q_mul, q_fdiv, q_mod, q_pow, q_neg, q_le, q_ge, q_gt, q_lt, q_ltT, q_isN, q_isB, q_isBi, q_isBs, q_isBn, q_isBt, q_isnt, n_non, n_bl, n_int, n_str, n_tup, n_ref, q_eq, q_eqS, q_eqB, q_ixT, q_ixK, q_ixL, q_ixS, q_slT, q_slL, q_slS, q_set, q_lenT, q_lenK, q_lenS, q_lenL, q_abs, q_intF, q_max, q_min, q_tupT, q_tupL, q_lstT, q_lstL, q_app, q_ext, q_joinL, q_stw, q_seq, q_lst, q_rng, q_rng2, q_zpT, q_zpL, q_truN, q_truB, q_truI, q_truT, q_truL, t_non, t_bl, t_int, t_str, t_tup, q_isiN, q_isiB, q_isiI, q_isiS, q_isiT, i_NoneType_int, i_NoneType_bool, i_NoneType_tuple, i_NoneType_list, i_NoneType_str, i_bool_int, i_bool_bool, i_bool_tuple, i_bool_list, i_bool_str, i_int_int, i_int_bool, i_int_tuple, i_int_list, i_int_str, i_str_int, i_str_bool, i_str_tuple, i_str_list, i_str_str, i_tuple_int, i_tuple_bool, i_tuple_tuple, i_tuple_list, i_tuple_str, i_list_int, i_list_bool, i_list_tuple, i_list_list, i_list_str, i_dict_int, i_dict_bool, i_dict_tuple, i_dict_list, i_dict_str, up_same, g_02, g_02', g_01, g_11, at_0, at_1, ix_0, ix_1, Option.some.injEq, HQ.lst.injEq, exists_eq_left', exists_eq_left, exists_and_left, exists_eq', exists_eq, decide_eq_true_eq, if_true, if_false, ite_true, ite_false, Bool.false_eq_true, reduceIte, reduceCtorEq, Bool.not_true, Bool.not_false, Nat.zero_add, Nat.reduceAdd, Nat.reduceSub, Nat.reduceLeDiff, Nat.reduceLT, Int.reduceLT, Int.reduceLE, Int.reduceEq, Int.reduceNe, Nat.reduceEqDiff, Int.reduceToNat, Int.reducePow, Int.reduceMul, Int.reduceAdd, Int.reduceSub, Int.reduceNeg, and_true, true_and, decide_true, decide_false, rFld, rSetF, rMet, rMetX, rMake, rBy, Y.rIsE, rCallX, rRaise, rTryAs, rTryOnly, rGd, q_fld, q_sfld, q_met, q_isntB, iEnX, iEn4, e4_t, e4_s, e4_k, e4_r, v_t, v_s, q_lset, q_remD, rNv, a_i, a_s, a_t, a_r, a_k, m_T, m_F, v_r, v_k, lg_r, lg_k, t_t, t_r, t_k, l_t, l_r, l_k, s_t, s_s, s_r, s_k, o_1, j_1, y_1, y_2, y_3, z_tt, z_r, z_k, e_1, k_ii, k_ss, k_bb, k_nn, k_tt, k_r, k_k, n_t, n_r, n_k, u_ii, u_si, lj_1, rLstF, rLcF, rFz, rSlM, iZp3, iEn3, eqvAll_nil, pds_emp, iAny, sq_k, sq_r, ls_t, or_false, false_or, fz_r, fz_k, fz_t, fz_n, fz_b, fz_s, q_lstK, q_truK, t_kl, q_isiK, iRevY, rv_r, rv_k, rv_t, rAug, q_i2K, q_j2K, q_srtB, at_2, at_3, q_strF, rPar3, g_03a, g_03b, g_03c, g_03d, g_03e, g_03f, rSS, rTryL, exL, k_min1, k_ixi, k_tupR, k_lr, q_inTd, k_srtI, k_popT, rMetXK, rKin, rKat, rLockT, rLockTE, rGet1, rGet2, rDel, rPop2, rTNew, iKysT, k_isD, k_keysT, k_lstT, k_lenT, gTk, rLam, rAsk, rCallXK, q_ext3, q_ext3T, q_ext3K, rDc, rDNew, gDk, rLock, rLockE, iKys, iVls, iIts, k_inS, k_inI, k_getS, k_getI, k_setS, k_setI, rMetK, rMakeK, q_srtTx, k_srt, k_len, k_keys, k_vals, k_items, List.length_map]
  have hn : (0 : Int) ≤ ns.length := by omega
  refine ⟨cm_l (by decide) (by decide), ?_⟩
  split
  · rename_i h
    obtain ⟨n, _, e, _⟩ := at_ints hk0 h
    simp -implicitDefEqProofs only [rVar, rC, rBin, rUn, rTst, rChn, rTru, rAnd, rOr, rNot, rAndV, rOrV, rNotV, rIf, rNil, rCons, rTup, rLst, rFn, rCall, rCallK, rSl, rPrt, rNoP, rMt, gNm, q_gN, q_gC, q_gTp, q_gTl, q_inI, q_rep, gSb, rNext, rSeq, rDrop, rRet, rRetN, rBrk, rCnt, rIfS, rSet, rPar, rFor, iSeq, iLst, iRg1, iRg2, iZp, iEn, iStrD, rLc, rYes, q_isi2, q_i2N, q_i2B, q_i2I, q_i2S, q_i2T, q_i2L, q_j2N, q_j2B, q_j2I, q_j2S, q_j2T, q_j2L, q_gt2, q_gtT, q_en, q_int2, q_strD, q_rev, q_ixo, q_ext2, q_extT, q_in, q_ins, q_pop, q_any, En.x, wipeD, start', List.getElem?_cons_zero, List.getElem?_cons_succ, List.set_cons_zero, List.set_cons_succ, List.map_cons, List.map_nil, List.length_cons, List.length_nil, List.cons_append, List.nil_append, List.replicate_succ, List.replicate_zero, id, q_asB, q_asI, q_add, q_addS, q_addT, q_addL, q_int, q_sub, q_mul, q_fdiv, q_mod, q_pow, q_neg, q_le, q_ge, q_gt, q_lt, q_ltT, q_isN, q_isB, q_isBi, q_isBs, q_isBn, q_isBt, q_isnt, n_non, n_bl, n_int, n_str, n_tup, n_ref, q_eq, q_eqS, q_eqB, q_ixT, q_ixK, q_ixL, q_ixS, q_slT, q_slL, q_slS, q_set, q_lenT, q_lenK, q_lenS, q_lenL, q_abs, q_intF, q_max, q_min, q_tupT, q_tupL, q_lstT, q_lstL, q_app, q_ext, q_joinL, q_stw, q_seq, q_lst, q_rng, q_rng2, q_zpT, q_zpL, q_truN, q_truB, q_truI, q_truT, q_truL, t_non, t_bl, t_int, t_str, t_tup, q_isiN, q_isiB, q_isiI, q_isiS, q_isiT, i_NoneType_int, i_NoneType_bool, i_NoneType_tuple, i_NoneType_list, i_NoneType_str, i_bool_int, i_bool_bool, i_bool_tuple, i_bool_list, i_bool_str, i_int_int, i_int_bool, i_int_tuple, i_int_list, i_int_str, i_str_int, i_str_bool, i_str_tuple, i_str_list, i_str_str, i_tuple_int, i_tuple_bool, i_tuple_tuple, i_tuple_list, i_tuple_str, i_list_int, i_list_bool, i_list_tuple, i_list_list, i_list_str, i_dict_int, i_dict_bool, i_dict_tuple, i_dict_list, i_dict_str, up_same, g_02, g_02', g_01, g_11, at_0, at_1, ix_0, ix_1, Option.some.injEq, HQ.lst.injEq, exists_eq_left', exists_eq_left, exists_and_left, exists_eq', exists_eq, decide_eq_true_eq, if_true, if_false, ite_true, ite_false, Bool.false_eq_true, reduceIte, reduceCtorEq, Bool.not_true, Bool.not_false, Nat.zero_add, Nat.reduceAdd, Nat.reduceSub, Nat.reduceLeDiff, Nat.reduceLT, Int.reduceLT, Int.reduceLE, Int.reduceEq, Int.reduceNe, Nat.reduceEqDiff, Int.reduceToNat, Int.reducePow, Int.reduceMul, Int.reduceAdd, Int.reduceSub, Int.reduceNeg, and_true, true_and, decide_true, decide_false, rFld, rSetF, rMet, rMetX, rMake, rBy, Y.rIsE, rCallX, rRaise, rTryAs, rTryOnly, rGd, q_fld, q_sfld, q_met, q_isntB, iEnX, iEn4, e4_t, e4_s, e4_k, e4_r, v_t, v_s, q_lset, q_remD, rNv, a_i, a_s, a_t, a_r, a_k, m_T, m_F, v_r, v_k, lg_r, lg_k, t_t, t_r, t_k, l_t, l_r, l_k, s_t, s_s, s_r, s_k, o_1, j_1, y_1, y_2, y_3, z_tt, z_r, z_k, e_1, k_ii, k_ss, k_bb, k_nn, k_tt, k_r, k_k, n_t, n_r, n_k, u_ii, u_si, lj_1, rLstF, rLcF, rFz, rSlM, iZp3, iEn3, eqvAll_nil, pds_emp, iAny, sq_k, sq_r, ls_t, or_false, false_or, fz_r, fz_k, fz_t, fz_n, fz_b, fz_s, q_lstK, q_truK, t_kl, q_isiK, iRevY, rv_r, rv_k, rv_t, rAug, q_i2K, q_j2K, q_srtB, at_2, at_3, q_strF, rPar3, g_03a, g_03b, g_03c, g_03d, g_03e, g_03f, rSS, rTryL, exL, k_min1, k_ixi, k_tupR, k_lr, q_inTd, k_srtI, k_popT, rMetXK, rKin, rKat, rLockT, rLockTE, rGet1, rGet2, rDel, rPop2, rTNew, iKysT, k_isD, k_keysT, k_lstT, k_lenT, gTk, rLam, rAsk, rCallXK, q_ext3, q_ext3T, q_ext3K, rDc, rDNew, gDk, rLock, rLockE, iKys, iVls, iIts, k_inS, k_inI, k_getS, k_getI, k_setS, k_setI, rMetK, rMakeK, q_srtTx, k_srt, k_len, k_keys, k_vals, k_items, e]
    refine ⟨⟨by decide, by decide, by decide, by decide⟩, ?_⟩
    (repeat' split) <;> exact ⟨cm_r (by decide) (by decide), cm_l (by decide) (by decide), fun p hp => q p _ _ hp⟩
  · split
    · rename_i h
      obtain ⟨n, _, e, _⟩ := at_ints (Int.emod_nonneg k (by omega)) (Int.emod_lt_of_pos k h)
      refine ⟨h, ?_⟩
      simp -implicitDefEqProofs only [rVar, rC, rBin, rUn, rTst, rChn, rTru, rAnd, rOr, rNot, rAndV, rOrV, rNotV, rIf, rNil, rCons, rTup, rLst, rFn, rCall, rCallK, rSl, rPrt, rNoP, rMt, gNm, q_gN, q_gC, q_gTp, q_gTl, q_inI, q_rep, gSb, rNext, rSeq, rDrop, rRet, rRetN, rBrk, rCnt, rIfS, rSet, rPar, rFor, iSeq, iLst, iRg1, iRg2, iZp, iEn, iStrD, rLc, rYes, q_isi2, q_i2N, q_i2B, q_i2I, q_i2S, q_i2T, q_i2L, q_j2N, q_j2B, q_j2I, q_j2S, q_j2T, q_j2L, q_gt2, q_gtT, q_en, q_int2, q_strD, q_rev, q_ixo, q_ext2, q_extT, q_in, q_ins, q_pop, q_any, En.x, wipeD, start', List.getElem?_cons_zero, List.getElem?_cons_succ, List.set_cons_zero, List.set_cons_succ, List.map_cons, List.map_nil, List.length_cons, List.length_nil, List.cons_append, List.nil_append, List.replicate_succ, List.replicate_zero, id, q_asB, q_asI, q_add, q_addS, q_addT, q_addL, q_int, q_sub, q_mul, q_fdiv, q_mod, q_pow, q_neg, q_le, q_ge, q_gt, q_lt, q_ltT, q_isN, q_isB, q_isBi, q_isBs, q_isBn, q_isBt, q_isnt, n_non, n_bl, n_int, n_str, n_tup, n_ref, q_eq, q_eqS, q_eqB, q_ixT, q_ixK, q_ixL, q_ixS, q_slT, q_slL, q_slS, q_set, q_lenT, q_lenK, q_lenS, q_lenL, q_abs, q_intF, q_max, q_min, q_tupT, q_tupL, q_lstT, q_lstL, q_app, q_ext, q_joinL, q_stw, q_seq, q_lst, q_rng, q_rng2, q_zpT, q_zpL, q_truN, q_truB, q_truI, q_truT, q_truL, t_non, t_bl, t_int, t_str, t_tup, q_isiN, q_isiB, q_isiI, q_isiS, q_isiT, i_NoneType_int, i_NoneType_bool, i_NoneType_tuple, i_NoneType_list, i_NoneType_str, i_bool_int, i_bool_bool, i_bool_tuple, i_bool_list, i_bool_str, i_int_int, i_int_bool, i_int_tuple, i_int_list, i_int_str, i_str_int, i_str_bool, i_str_tuple, i_str_list, i_str_str, i_tuple_int, i_tuple_bool, i_tuple_tuple, i_tuple_list, i_tuple_str, i_list_int, i_list_bool, i_list_tuple, i_list_list, i_list_str, i_dict_int, i_dict_bool, i_dict_tuple, i_dict_list, i_dict_str, up_same, g_02, g_02', g_01, g_11, at_0, at_1, ix_0, ix_1, Option.some.injEq, HQ.lst.injEq, exists_eq_left', exists_eq_left, exists_and_left, exists_eq', exists_eq, decide_eq_true_eq, if_true, if_false, ite_true, ite_false, Bool.false_eq_true, reduceIte, reduceCtorEq, Bool.not_true, Bool.not_false, Nat.zero_add, Nat.reduceAdd, Nat.reduceSub, Nat.reduceLeDiff, Nat.reduceLT, Int.reduceLT, Int.reduceLE, Int.reduceEq, Int.reduceNe, Nat.reduceEqDiff, Int.reduceToNat, Int.reducePow, Int.reduceMul, Int.reduceAdd, Int.reduceSub, Int.reduceNeg, and_true, true_and, decide_true, decide_false, rFld, rSetF, rMet, rMetX, rMake, rBy, Y.rIsE, rCallX, rRaise, rTryAs, rTryOnly, rGd, q_fld, q_sfld, q_met, q_isntB, iEnX, iEn4, e4_t, e4_s, e4_k, e4_r, v_t, v_s, q_lset, q_remD, rNv, a_i, a_s, a_t, a_r, a_k, m_T, m_F, v_r, v_k, lg_r, lg_k, t_t, t_r, t_k, l_t, l_r, l_k, s_t, s_s, s_r, s_k, o_1, j_1, y_1, y_2, y_3, z_tt, z_r, z_k, e_1, k_ii, k_ss, k_bb, k_nn, k_tt, k_r, k_k, n_t, n_r, n_k, u_ii, u_si, lj_1, rLstF, rLcF, rFz, rSlM, iZp3, iEn3, eqvAll_nil, pds_emp, iAny, sq_k, sq_r, ls_t, or_false, false_or, fz_r, fz_k, fz_t, fz_n, fz_b, fz_s, q_lstK, q_truK, t_kl, q_isiK, iRevY, rv_r, rv_k, rv_t, rAug, q_i2K, q_j2K, q_srtB, at_2, at_3, q_strF, rPar3, g_03a, g_03b, g_03c, g_03d, g_03e, g_03f, rSS, rTryL, exL, k_min1, k_ixi, k_tupR, k_lr, q_inTd, k_srtI, k_popT, rMetXK, rKin, rKat, rLockT, rLockTE, rGet1, rGet2, rDel, rPop2, rTNew, iKysT, k_isD, k_keysT, k_lstT, k_lenT, gTk, rLam, rAsk, rCallXK, q_ext3, q_ext3T, q_ext3K, rDc, rDNew, gDk, rLock, rLockE, iKys, iVls, iIts, k_inS, k_inI, k_getS, k_getI, k_setS, k_setI, rMetK, rMakeK, q_srtTx, k_srt, k_len, k_keys, k_vals, k_items, e]
      refine ⟨cm_r (by decide) (by decide), ⟨by decide, by decide, by decide, by decide⟩, ?_⟩
      (repeat' split) <;> exact ⟨cm_r (by decide) (by decide), cm_l (by decide) (by decide), fun p hp => q p _ _ hp⟩
    · refine ⟨⟨by decide, by decide, by decide, by decide⟩, ?_⟩
      (repeat' split) <;> exact ⟨cm_r (by decide) (by decide), cm_l (by decide) (by decide), fun p hp => q p _ _ hp⟩
end K25
namespace K25
open PySem PySem.Spec PyProof.Rows L2 Y
theorem pu_law_least_order : ∀ ds S Q, sp_law_least_order ds S Q NoX → rd_law_least_order { nx := fun _ S => Q .non S, rt := Q } (start' 8 ds) S := by
  rintro _ S Q ⟨ps, rfl, ⟨hp, hl, ns⟩, k, k2⟩
  unfold rd_law_least_order prD
  array_get_dec
  intro p0 hp0 q hq0
  have hqS : S q = none := by
    cases e : S q with
    | none => rfl
    | some o => rw [up_get hp0 e] at hq0; cases hq0
  have hpq : p0 ≠ q := fun z => by rw [← z, up_same] at hq0; cases hq0
  have ex0 : Ex S (up (up S p0 (.lst [])) q (.lst [])) := (Ex.up hp0).trans (Ex.up hq0)
  have g1 : up (up S p0 (.lst [])) q (.lst []) p0 = some (.lst []) := by rw [up_ne hpq, up_same]
  have g2 : up (up S p0 (.lst [])) q (.lst []) q = some (.lst []) := up_same
  generalize up (up S p0 (.lst [])) q (.lst []) = S0 at ex0 g1 g2
  clear hq0
  array_get_dec
  refine loop_idx (fun i σ S' => ∃ (L : List Int) (p : Addr), ∃ u_pair u_name : Option D, Ex S S' ∧ S' p = some (.lst (L.map D.int)) ∧ p ≠ q ∧ S p = none ∧ S' q = some (.lst []) ∧ L.Nodup ∧ (∀ k, k ∈ L ↔ ∃ x ∈ ps.take i, k = x.1 ∨ k = x.2) ∧ σ = [some (.tup (ps.map p2)), u_pair, none, some (.ref p), some (.ref q), none, none, u_name]) (fun _ _ _ _ _ => trivial) (fun i x σ S' hx hi N hN => ?_) (fun σ S' hi => ?_) ⟨[], p0, _, _, ex0, g1, hpq, hp0, g2, List.nodup_nil, by simp, rfl⟩
  · obtain ⟨L, p, z1, z2, ex, h1, ne, hpS, h2, nd, hm, rfl⟩ := hi
    rw [List.getElem?_map] at hx
    cases hpi : ps[i]? with
    | none => rw [hpi] at hx; cases hx
    | some y =>
    rw [hpi] at hx
    obtain rfl : D.tup ([y.1, y.2].map D.int) = x := Option.some.inj hx
    have yps : y ∈ ps := List.mem_of_getElem? hpi
    have hle : L.length ≤ (nms ps).length := len_sub nd fun k m => by
      obtain ⟨x, mx, h⟩ := (hm k).mp m
      exact mem_nms.mpr ⟨x, List.mem_of_mem_take mx, h⟩
    array_get_dec
    refine lc_ft D.int (fun z => decide (z ∉ L)) D.int trivial [y.1, y.2] (fun z m Q h => ?_) (fun z _ _ Q h => ?_) (by simp) ?_
    · sizeOf_list_dec
      refine ⟨_, h1, ok_int, ok_ints, ?_⟩
      rw [in_ints, ← decide_not]
      exact h
    · sizeOf_list_dec
      exact h
    sizeOf_list_dec
    have hfl : ([y.1, y.2].filter fun z => decide (z ∉ L)).length ≤ 2 := List.length_filter_le _ _
    refine ⟨_, h1, by rw [List.length_map, List.length_map]; omega, fun p' hp' => ?_⟩
    have hpS' : S p' = none := by
      cases e : S p' with
      | none => rfl
      | some o => rw [ex _ _ e] at hp'; cases hp'
    have hne : q ≠ p' := fun z => by rw [← z, h2] at hp'; cases hp'
    rw [← List.map_append]
    refine hN _ _ ⟨L ++ [y.1, y.2].filter fun z => decide (z ∉ L), p', _, _, ex.trans (Ex.up hp'), up_same, Ne.symm hne, hpS', by rw [up_ne hne]; exact h2, ?_, fun k => ?_, rfl⟩
    · rw [List.nodup_append]
      refine ⟨nd, List.Pairwise.filter _ (by simpa using ns y yps), fun a m b mb e => ?_⟩
      have := (List.mem_filter.mp mb).2
      rw [decide_eq_true_eq] at this
      exact this (e ▸ m)
    · rw [List.mem_append, hm k, List.mem_filter, List.take_succ, hpi]
      simp only [Option.toList_some, List.mem_append, List.mem_singleton]
      constructor
      · rintro (⟨x, mx, h⟩ | ⟨m, _⟩)
        · exact ⟨x, .inl mx, h⟩
        · exact ⟨y, .inr rfl, by simpa using m⟩
      · rintro ⟨x, mx | rfl, h⟩
        · exact .inl ⟨x, mx, h⟩
        · by_cases c : k ∈ L
          · exact .inl ((hm k).mp c)
          · exact .inr ⟨by simpa using h, by simpa using c⟩
  · obtain ⟨L, p, z1, z2, ex, h1, ne, hpS, h2, nd, hm, rfl⟩ := hi
    rw [List.length_map, List.take_length] at hm
    have hn : ∀ k, k ∈ L ↔ k ∈ nms ps := fun k => by rw [hm k, mem_nms]
    have hL : L.length = (nms ps).length := Nat.le_antisymm (len_sub nd fun k m => (hn k).mp m) (len_sub (nd_ris ris_nms) fun k m => (hn k).mpr m)
    array_get_dec
    refine ⟨_, h1, ⟨by omega, by rw [List.length_map]; omega⟩, ?_⟩
    rw [List.length_map, Int.toNat_natCast]
    refine loop_idx (fun i σ S' => ∃ (L A o : List Int), ∃ u_pair u_turn u_barred u_free u_name : Option D, Ex S S' ∧ S' p = some (.lst (L.map D.int)) ∧ S' q = some (.lst (o.map D.int)) ∧ L.Nodup ∧ A.Pairwise (· < ·) ∧ (∀ k, k ∈ L ↔ k ∈ A) ∧ L.length + i = (nms ps).length ∧ o.length = i ∧ ordr ps ((nms ps).length - i) A o = ordd ps ∧ σ = [some (.tup (ps.map p2)), u_pair, u_turn, some (.ref p), some (.ref q), u_barred, u_free, u_name]) (fun _ _ _ _ _ => trivial) (fun i x σ S' hx hi N hN => ?_) (fun σ S' hi => ?_) ⟨L, nms ps, [], _, _, _, _, _, ex, h1, h2, nd, ris_nms, hn, by omega, rfl, rfl, rfl⟩
    · obtain ⟨L, A, o, z1, z2, z3, z4, z5, ex, h1, h2, nd, ra, hla, hlen, ho, hor, rfl⟩ := hi
      obtain ⟨hj, rfl⟩ := rangeD_get hx
      have hi : i < (nms ps).length := by omega
      array_get_dec
      refine lc_gen p2 (fun x => [some (.tup (ps.map p2)), some (p2 x), some (.int (0 + i)), some (.ref p), some (.ref q), z3, z4, z5]) (fun x => decide (x.1 ∈ L)) (fun x => .int x.2) trivial ps [] (fun x _ N q => ?_) (fun x _ Q q => ?_) (fun x _ _ Q q => ?_) (by simp; omega) ?_
      · sizeOf_list_dec
        exact q
      · unfold p2
        sizeOf_list_dec
        refine ⟨_, h1, ok_int, ok_ints, ?_⟩
        rw [in_ints]
        exact q
      · unfold p2
        sizeOf_list_dec
        exact q
      rw [List.nil_append]
      have eB : (ps.filter fun x => decide (x.1 ∈ L)).map (fun x => D.int x.2) = ((ps.filter fun x => decide (x.1 ∈ L)).map (·.2)).map D.int := by rw [List.map_map]; rfl
      rw [eB]
      have hfm := fun n => fre_mem (ps := ps) hla (n := n)
      generalize (ps.filter fun x => decide (x.1 ∈ L)).map (·.2) = B at hfm
      clear eB
      array_get_dec
      refine ⟨_, h1, ?_⟩
      refine lc_ft D.int (fun n => decide (n ∉ B)) D.int h1 L (fun n _ Q h => ?_) (fun n _ _ Q h => ?_) (by omega) ?_
      · sizeOf_list_dec
        refine ⟨ok_int, ok_ints, ?_⟩
        rw [in_ints, ← decide_not]
        exact h
      · sizeOf_list_dec
        exact h
      generalize (L.filter fun n => decide (n ∉ B)) = F at hfm
      have hle : L.length ≤ 64 := by omega
      array_get_dec
      refine ⟨ok_ints, ok_ints (xs := []), ?_⟩
      have e0 : PyData.eqvAll (pds (F.map D.int)) (pds []) = F.isEmpty := by rw [show pds [] = [] from rfl, eqvAll_nil, pds_emp, List.isEmpty_map]
      rw [e0]
      obtain ⟨j, hj⟩ : ∃ j, (nms ps).length - i = j + 1 := ⟨(nms ps).length - i - 1, by omega⟩
      rw [hj] at hor
      cases hf : fre ps A with
      | nil =>
        have eF : F = [] := List.eq_nil_iff_forall_not_mem.mpr fun a m => by
          have := (hfm a).mp m
          rw [hf] at this; cases this
        rw [eF, if_pos (show ([] : List Int).isEmpty = true from rfl)]
        refine k2 ?_ S' ex
        simp only [ordr, hf] at hor
        rw [← hor]
        intro e
        obtain ⟨z, hz⟩ := List.exists_mem_of_length_pos (show 0 < L.length by omega)
        have := (hla z).mp hz
        rw [show A = [] from e] at this
        cases this
      | cons x r =>
        have hxF : x ∈ F := (hfm x).mpr (by rw [hf]; simp)
        have hFp := List.length_pos_of_mem hxF
        have hxL : x ∈ L := (hla x).mpr (List.mem_filter.mp (show x ∈ fre ps A by rw [hf]; simp)).1
        have hmin : ∀ m, m ∈ F → (∀ y ∈ F, m ≤ y) → m = x := fun m hm hy => fre_min ra hf ((hfm m).mp hm) fun y my => hy y ((hfm y).mpr my)
        rw [if_neg (by rw [List.isEmpty_iff]; exact fun e => by rw [e] at hFp; cases hFp)]
        array_get_dec
        refine ⟨t_lst h2, F, rfl, hFp, fun m hm hy => ⟨_, h2, by rw [List.length_map]; omega, ?_⟩⟩
        rw [hmin m hm hy]
        array_get_dec
        refine ⟨t_lst (by rw [up_ne ne]; exact h1), F, rfl, hFp, fun m2 hm2 hy2 => ?_⟩
        rw [hmin m2 hm2 hy2]
        obtain ⟨l, hl'⟩ := List.getElem?_of_mem hxL
        have hll : l < L.length := (List.getElem?_eq_some_iff.mp hl').1
        have hpm := perm_pop hl'
        have ndp := List.nodup_cons.mp (hpm.nodup_iff.mpr nd)
        simp only [ordr, hf] at hor
        sizeOf_list_dec
        refine ⟨_, by rw [up_ne ne]; exact h1, 0, by omega, .int _, Nb_is, l, by rw [List.getElem?_map, hl']; rfl, fun m3 hm3 e => ?_, ?_⟩
        · rw [List.getElem?_map] at e
          cases e3 : L[m3]? with
          | none => rw [e3] at e; cases e
          | some z =>
            rw [e3] at e
            cases e
            have := (List.getElem?_inj (by omega) nd).mp (e3.trans hl'.symm)
            omega
        · refine hN _ _ ⟨L.eraseIdx l, A.filter fun y => decide (y ≠ x), o ++ [x], _, _, _, _, _, fun c u h => ?_, by rw [up_same, map_eraseI], by rw [up_ne (Ne.symm ne), up_same, List.map_append]; rfl, ndp.2, ra.sublist List.filter_sublist, fun c => ?_, ?_, ?_, ?_, rfl⟩
          · rw [up_ne (fun z => by rw [z, hpS] at h; cases h), up_ne (fun z => by rw [z, hqS] at h; cases h)]
            exact ex c u h
          · have hc := hpm.mem_iff (a := c)
            rw [List.mem_cons, hla c] at hc
            rw [List.mem_filter, decide_eq_true_eq, ← hc]
            constructor
            · intro m
              exact ⟨.inr m, fun e => ndp.1 (e ▸ m)⟩
            · rintro ⟨h | h, h'⟩
              · exact absurd h h'
              · exact h
          · rw [List.length_eraseIdx_of_lt hll]; omega
          · simp; omega
          · rw [show (nms ps).length - (i + 1) = j by omega]
            exact hor
    · obtain ⟨L, A, o, z1, z2, z3, z4, z5, ex, h1, h2, nd, ra, hla, hlen, ho, hor, rfl⟩ := hi
      rw [rangeD_len] at hlen hor
      rw [hL] at hlen
      have e : L = [] := List.length_eq_zero_iff.mp (by omega)
      have eA : A = [] := List.eq_nil_iff_forall_not_mem.mpr fun a m => by
        have := (hla a).mpr m
        rw [e] at this; cases this
      rw [hL, Nat.sub_self] at hor
      rw [eA] at hor
      have hor : (o, []) = ordd ps := hor
      rw [← hor] at k
      array_get_dec
      refine ⟨_, h2, ?_⟩
      exact k rfl S' ex
end K25
namespace K25
open PySem PySem.Spec PyProof.Rows L2 Y
theorem pu_law_is_ring : ∀ ds S Q, sp_law_is_ring ds S Q NoX → rd_law_is_ring { nx := fun _ S => Q .non S, rt := Q } (start' 5 ds) S := by
  rintro _ S Q ⟨ps, r, rfl, hp, ⟨h2, h64, nd, ch, wrap⟩, k⟩
  unfold rd_law_is_ring prD
  array_get_dec
  rw [List.length_map, if_neg (by omega)]
  array_get_dec
  refine lc_ft D.int (fun _ => true) D.int trivial r (fun n _ Q h => ?_) (fun n _ _ Q h => ?_) (by omega) ?_
  · sizeOf_list_dec
    exact h
  · sizeOf_list_dec
    exact h
  rw [List.filter_eq_self.mpr (fun _ _ => rfl)]
  array_get_dec
  rw [List.length_map]
  refine .inr ⟨r, r.length, rfl, by omega, ?_⟩
  rw [onci_nd (acc := []) (by simpa using nd) (by simp), List.nil_append]
  sizeOf_list_dec
  rw [List.length_map]
  simp only [decide_true, Bool.not_true, Bool.false_eq_true, if_false]
  array_get_dec
  refine ⟨⟨by omega, by rw [List.length_map]; omega⟩, ?_⟩
  refine lc_ft (fun k : Nat => D.int (0 + k)) (fun _ => false) (fun k => D.int k) trivial (List.range (r.map D.int).length) (fun j hj Q h => ?_) (fun _ _ z => by cases z) (by rw [List.length_range, List.length_map]; omega) ?_
  · have hj := List.mem_range.mp hj
    rw [List.length_map] at hj
    have hb : atI (r.map D.int) ((0 : Int) + j) = some (.int r[j]) := by rw [Int.zero_add]; exact atI_nat (by rw [List.getElem?_map, List.getElem?_eq_getElem hj]; rfl)
    have ha : ∃ a, atI (r.map D.int) ((0 : Int) + j - 1) = some (.int a) ∧ (a, r[j]) ∈ ps := by
      rcases Nat.eq_zero_or_pos j with rfl | hj0
      · obtain ⟨a, e⟩ : ∃ a, r[r.length - 1]? = some a := ⟨_, List.getElem?_eq_getElem (by omega)⟩
        refine ⟨a, ?_, wrap a _ e (List.getElem?_eq_getElem (by omega))⟩
        have ix : ixN (r.map D.int).length (-1) = some (r.length - 1) := by
          rw [List.length_map]
          unfold ixN
          rw [if_neg (by decide), if_pos (by omega)]
          congr 1
          omega
        show (ixN (r.map D.int).length (-1)).bind (fun j => (r.map D.int)[j]?) = _
        rw [ix]
        show (r.map D.int)[r.length - 1]? = _
        rw [List.getElem?_map, e]
        rfl
      · refine ⟨r[j - 1], ?_, ch (j - 1) _ _ (List.getElem?_eq_getElem (by omega)) (by rw [show j - 1 + 1 = j by omega]; exact List.getElem?_eq_getElem hj)⟩
        rw [show (0 : Int) + j - 1 = ((j - 1 : Nat) : Int) by omega]
        exact atI_nat (by rw [List.getElem?_map, List.getElem?_eq_getElem (by omega)]; rfl)
    obtain ⟨a, ha, hab⟩ := ha
    sizeOf_list_dec
    refine ⟨_, ha, _, hb, ?_⟩
    have e := in_prs (ps := ps) (p := (a, r[j]))
    unfold p2 at e
    refine ⟨ok_pr (p := (a, r[j])), ok_prs, ?_⟩
    rw [show ((pds (ps.map p2)).any fun z => PyData.eqv z (pd (D.tup [D.int a, D.int r[j]]))) = decide ((a, r[j]) ∈ ps) from in_prs (p := (a, r[j])), decide_eq_true hab]
    exact h
  rw [List.filter_eq_nil_iff.mpr (by simp)]
  exact ⟨ok_ints (xs := []), ok_ints (xs := []), k⟩
end K25
namespace K25
open PySem PySem.Spec PyProof.Rows L2 Y
theorem pu_law_refused : ∀ f d o th S Q, sp_law_refused f d o th S Q → rd_law_refused f d o th { nx := fun _ S => Q .non S, rt := Q } (start' 2 [.ref f]) S := by
  intro _ _ _ _ _ _ h
  exact h
end K25
namespace K25
open PySem PySem.Spec PyProof.Rows L2 Y
theorem pu_law_asked : ∀ ds S Q, sp_law_asked ds S Q NoX → rd_law_asked { nx := fun _ S => Q .non S, rt := Q } (start' 3 ds) S := by
  rintro _ S Q ⟨ps, rfl, pk, ht, k⟩
  unfold rd_law_asked
  have heard : ∀ (f e : Addr) (o : HQ) (th : Th) (S : Hq) (Q : Qv), S e = some o → (∀ (Q1 : Qv) (E1 : Xw), E1 "Refused" [("value", prD ps)] S → th S Q1 E1) →
      (∀ dd, S dd = none → Q (.tup [.str (Str.ofString "refused"), prD ps]) (up S dd (.exd [("value", prD ps)]))) → sp_law_refused f e o th S Q := by
    clear ht k
    intro f e o th S Q he hth ke
    unfold sp_law_refused rd_law_refused
    (try dsimp only); rw [rSeq_eq]; try simp -implicitDefEqProofs only [rVar, rC, rBin, rUn, rTst, rChn, rTru, rAnd, rOr, rNot, rAndV, rOrV, rNotV, rIf, rNil, rCons, rTup, rLst, rFn, rCall, rCallK, rSl, rPrt, rNoP, rMt, gNm, q_gN, q_gC, q_gTp, q_gTl, q_inI, q_rep, gSb, rNext, rDrop, rRet, rRetN, rBrk, rCnt, rIfS, rSet, rPar, rFor, iSeq, iLst, iRg1, iRg2, iZp, iEn, iStrD, rLc, rYes, q_isi2, q_i2N, q_i2B, q_i2I, q_i2S, q_i2T, q_i2L, q_j2N, q_j2B, q_j2I, q_j2S, q_j2T, q_j2L, q_gt2, q_gtT, q_en, q_int2, q_strD, q_rev, q_ixo, q_ext2, q_extT, q_in, q_ins, q_pop, q_any, En.x, wipeD, start', List.getElem?_cons_zero, List.getElem?_cons_succ, List.set_cons_zero, List.set_cons_succ, List.map_cons, List.map_nil, List.length_cons, List.length_nil, List.cons_append, List.nil_append, List.replicate_succ, List.replicate_zero, id, q_asB, q_asI, q_add, q_addS, q_addT, q_addL, q_int, q_sub, q_mul, q_fdiv, q_mod, q_pow, q_neg, q_le, q_ge, q_gt, q_lt, q_ltT, q_isN, q_isB, q_isBi, q_isBs, q_isBn, q_isBt, q_isnt, n_non, n_bl, n_int, n_str, n_tup, n_ref, q_eq, q_eqS, q_eqB, q_ixT, q_ixK, q_ixL, q_ixS, q_slT, q_slL, q_slS, q_set, q_lenT, q_lenK, q_lenS, q_lenL, q_abs, q_intF, q_max, q_min, q_tupT, q_tupL, q_lstT, q_lstL, q_app, q_ext, q_joinL, q_stw, q_seq, q_lst, q_rng, q_rng2, q_zpT, q_zpL, q_truN, q_truB, q_truI, q_truT, q_truL, t_non, t_bl, t_int, t_str, t_tup, q_isiN, q_isiB, q_isiI, q_isiS, q_isiT, i_NoneType_int, i_NoneType_bool, i_NoneType_tuple, i_NoneType_list, i_NoneType_str, i_bool_int, i_bool_bool, i_bool_tuple, i_bool_list, i_bool_str, i_int_int, i_int_bool, i_int_tuple, i_int_list, i_int_str, i_str_int, i_str_bool, i_str_tuple, i_str_list, i_str_str, i_tuple_int, i_tuple_bool, i_tuple_tuple, i_tuple_list, i_tuple_str, i_list_int, i_list_bool, i_list_tuple, i_list_list, i_list_str, i_dict_int, i_dict_bool, i_dict_tuple, i_dict_list, i_dict_str, up_same, g_02, g_02', g_01, g_11, at_0, at_1, ix_0, ix_1, Option.some.injEq, HQ.lst.injEq, exists_eq_left', exists_eq_left, exists_and_left, exists_eq', exists_eq, decide_eq_true_eq, if_true, if_false, ite_true, ite_false, Bool.false_eq_true, reduceIte, reduceCtorEq, Bool.not_true, Bool.not_false, Nat.zero_add, Nat.reduceAdd, Nat.reduceSub, Nat.reduceLeDiff, Nat.reduceLT, Int.reduceLT, Int.reduceLE, Int.reduceEq, Int.reduceNe, Nat.reduceEqDiff, Int.reduceToNat, Int.reducePow, Int.reduceMul, Int.reduceAdd, Int.reduceSub, Int.reduceNeg, and_true, true_and, decide_true, decide_false, rFld, rSetF, rMet, rMetX, rMake, rBy, Y.rIsE, rCallX, rRaise, rTryAs, rTryOnly, rGd, q_fld, q_sfld, q_met, q_isntB, iEnX, iEn4, e4_t, e4_s, e4_k, e4_r, v_t, v_s, q_lset, q_remD, rNv, a_i, a_s, a_t, a_r, a_k, m_T, m_F, v_r, v_k, lg_r, lg_k, t_t, t_r, t_k, l_t, l_r, l_k, s_t, s_s, s_r, s_k, o_1, j_1, y_1, y_2, y_3, z_tt, z_r, z_k, e_1, k_ii, k_ss, k_bb, k_nn, k_tt, k_r, k_k, n_t, n_r, n_k, u_ii, u_si, lj_1, rLstF, rLcF, rFz, rSlM, iZp3, iEn3, eqvAll_nil, pds_emp, iAny, sq_k, sq_r, ls_t, or_false, false_or, fz_r, fz_k, fz_t, fz_n, fz_b, fz_s, q_lstK, q_truK, t_kl, q_isiK, iRevY, rv_r, rv_k, rv_t, rAug, q_i2K, q_j2K, q_srtB, at_2, at_3, q_strF, rPar3, g_03a, g_03b, g_03c, g_03d, g_03e, g_03f, rSS, rTryL, exL, k_min1, k_ixi, k_tupR, k_lr, q_inTd, k_srtI, k_popT, rMetXK, rKin, rKat, rLockT, rLockTE, rGet1, rGet2, rDel, rPop2, rTNew, iKysT, k_isD, k_keysT, k_lstT, k_lenT, gTk, rLam, rAsk, rCallXK, q_ext3, q_ext3T, q_ext3K, rDc, rDNew, gDk, rLock, rLockE, iKys, iVls, iIts, k_inS, k_inI, k_getS, k_getI, k_setS, k_setI, rMetK, rMakeK, q_srtTx, k_srt, k_len, k_keys, k_vals, k_items]
    refine ⟨he, hth _ _ ?_⟩
    refine ⟨false, rfl, (fun z => by cases z), fun _ => ⟨true, rfl, fun _ a dd hdd hne => ?_, fun z => by cases z⟩⟩
    exact ⟨rfl, rfl, rfl, _, rfl, ke dd hdd⟩
  have psI : ∀ os : List Int, os.length ≤ 100000 → Ps 3 (.tup (os.map D.int)) := fun os h => ⟨by rw [List.length_map]; exact h, fun x hx => by
    obtain ⟨z, _, rfl⟩ := List.mem_map.mp hx
    trivial⟩
  have psP : Ps 3 (prD ps) := ⟨by rw [List.length_map]; have := pk.1; omega, fun x hx => by
    obtain ⟨z, _, rfl⟩ := List.mem_map.mp hx
    refine ⟨by simp, fun y hy => ?_⟩
    simp only [List.mem_cons, List.not_mem_nil, or_false] at hy
    rcases hy with rfl | rfl <;> trivial⟩
  array_get_dec
  refine ⟨ps, rfl, pk, fun h1 S1 ex1 => ?_, fun h1 S1 ex1 => ?_⟩
  · refine ring_of pk (fun _ => ?_) (fun c => absurd h1 c)
    array_get_dec
    refine ring_of pk (fun _ => ?_) (fun c => absurd h1 c)
    array_get_dec
    refine ⟨ps, rfl, pk.1, pk.2.1, fun _ => ?_, fun c => absurd h1 c⟩
    refine ⟨ps, rfl, pk.1, pk.2.1, fun _ => ?_, fun c => absurd h1 c⟩
    sizeOf_list_dec
    have hz := psI (ordd ps).1 (by
      have := ordr_len (ps := ps) (n := (nms ps).length) (left := nms ps) (o := [])
      have h2 := pk.2.1
      have : (ordd ps).1.length ≤ 0 + (nms ps).length := this
      omega)
    refine ⟨_, rfl, ⟨by simp, fun x hx => ?_⟩, k S1 ex1⟩
    simp only [List.mem_cons, List.not_mem_nil, or_false] at hx
    rcases hx with rfl | rfl <;> exact hz
  · refine ring_of pk (fun c => absurd c h1) fun _ r S2 hr ex2 => ?_
    array_get_dec
    refine ⟨ps, r, rfl, pk.1, hr, ?_⟩
    sizeOf_list_dec
    refine ring_of pk (fun c => absurd c h1) fun _ r3 S3 hr3 ex3 => ?_
    sizeOf_list_dec
    refine ⟨ps, r3, rfl, pk.1, hr3, ?_⟩
    array_get_dec
    have ex := (ex1.trans ex2).trans ex3
    refine ⟨?_, fun f e vs g1 g2 g3 => ?_⟩
    · obtain ⟨P, h⟩ := ht
      exact ⟨P, ex _ _ h⟩
    refine heard f e _ _ _ _ enter_same (fun Q1 E1 q => ⟨ps, rfl, pk.1, pk.2.1, fun c => absurd c h1, fun _ => q⟩) fun dd hdd => ?_
    have hde : dd ≠ e := fun z => by rw [z, enter_same] at hdd; cases hdd
    refine ⟨by rw [up_ne (Ne.symm hde)]; exact enter_same, ?_⟩
    have exN := leave_ex g2 (Ex.up (o := .exd [("value", prD ps)]) hdd)
    refine ⟨_, rfl, ⟨by simp, fun x hx => ?_⟩, k _ (ex.trans exN)⟩
    simp only [List.mem_cons, List.not_mem_nil, or_false] at hx
    rcases hx with rfl | rfl
    · trivial
    · exact psP
end K25
namespace K25
open PySem PySem.Spec PyProof.Rows L2 Y
theorem pu_law : ∀ ds S Q, sp_law ds S Q NoX → rd_law { nx := fun _ S => Q .non S, rt := Q } (start' 4 ds) S := by
  rintro _ S Q ⟨ns, rfl, hl, ht, k⟩
  unfold rd_law
  array_get_dec
  have pk0 : Pk [] := ⟨by simp, by decide, by simp⟩
  refine ring_of (ps := []) pk0 (fun _ => ?_) (fun c => absurd rfl c)
  sizeOf_list_dec
  refine ⟨[], rfl, by simp, by decide, fun _ => ?_, fun c => absurd rfl c⟩
  refine ⟨_, rfl, ⟨by decide, fun x m => by cases m⟩, ?_⟩
  array_get_dec
  rename_i KT hKT
  refine ⟨[(3, 1), (1, 3)], rfl, by decide, by decide, fun c => absurd c (by decide), fun _ => ?_⟩
  sizeOf_list_dec
  refine ⟨true, rfl, fun _ a dd hdd hne => ?_, fun z => by cases z⟩
  refine ⟨⟨_, rfl⟩, false, rfl, ?_⟩
  rw [if_neg (by decide)]
  refine ⟨⟨_, rfl⟩, true, rfl, ?_⟩
  rw [if_neg (by decide)]
  refine ⟨⟨_, rfl⟩, true, rfl, ?_⟩
  rw [if_neg (by decide)]
  obtain ⟨P, ht⟩ := ht
  have ht : up S dd (.exd [("value", prD [(3, 1), (1, 3)])]) P = some (.tb (Str.ofString "_law_asked")) := up_get hdd ht
  generalize up S dd (.exd [("value", prD [(3, 1), (1, 3)])]) = S1 at ht
  clear hdd hne
  refine hKT _ _ ?_
  array_get_dec
  rw [List.length_map]
  generalize hM : (if (if (6 : Int) < ns.length then (6 : Int) else ns.length) > 3 then (if (6 : Int) < ns.length then (6 : Int) else ns.length) else 3) = M
  have hM1 : 0 ≤ M ∧ M ≤ 8 := by subst hM; (repeat' split) <;> omega
  clear hM
  refine ⟨⟨by omega, by omega⟩, ?_⟩
  refine loop_idx (fun i σ S' => ∃ u_k u_pairs : Option D, S' P = some (.tb (Str.ofString "_law_asked")) ∧ σ = [some (.kl (ns.map D.int)), none, u_k, u_pairs]) (fun _ _ _ _ _ => trivial) (fun i x σ S' hx hp N hN => ?_) (fun σ S' hp => ?_) ⟨_, _, ht, rfl⟩
  · clear ht
    obtain ⟨z1, z2, ht, rfl⟩ := hp
    obtain ⟨hi, rfl⟩ := rangeD_get hx
    array_get_dec
    refine ⟨ns, _, rfl, hl, by omega, by omega, fun b g s hb => ?_⟩
    have bx0 : Bx (up S' b (.lst [.int g, .int s])) b := ⟨g, s, up_same⟩
    have hPb : P ≠ b := fun z => by rw [z, hb] at ht; cases ht
    have ht : up S' b (.lst [.int g, .int s]) P = some (.tb (Str.ofString "_law_asked")) := by rw [up_ne hPb]; exact ht
    generalize up S' b (.lst [.int g, .int s]) = S2 at bx0 ht ⊢
    refine ⟨b, rfl, bx0, fun ps S3 hl3 hg n3 => ?_⟩
    have ht := n3.get hPb ht
    array_get_dec
    refine ⟨ps, rfl, pk_of hl3 hg, ⟨P, ht⟩, fun S4 ex4 => ?_⟩
    have ht := ex4 _ _ ht
    sizeOf_list_dec
    have ec : cutL (ps.map p2) (some 1) none = (ps.drop 1).map p2 := by
      rw [cutL_from _ (by decide), List.map_drop]
      rfl
    unfold prD
    sizeOf_list_dec
    rw [ec]
    refine ⟨ps.drop 1, rfl, pk_of (by rw [List.length_drop]; omega) (fun p m => hg p (List.mem_of_mem_drop m)), ⟨P, ht⟩, fun S5 ex5 => ?_⟩
    have ht := ex5 _ _ ht
    sizeOf_list_dec
    refine ⟨ps, rfl, pk_of hl3 hg, ⟨P, ht⟩, fun S6 ex6 => ?_⟩
    sizeOf_list_dec
    exact hN _ _ ⟨_, _, ex6 _ _ ht, rfl⟩
  · obtain ⟨z1, z2, _, rfl⟩ := hp
    array_get_dec
    exact k S'
end K25
namespace K25
open PySem PySem.Spec PyProof.Rows L2 Y

def topS (i : Nat) : Stmt := PySem.Challenge.pw_maypoint_k25_whole_rings_and_orders.main.body.getD i (.Pass ⟨0, 0, 0, 0⟩)

abbrev s_leaders : Stmt := topS 5
theorem sc_leaders : FnScope ["pairs", "left", "name", "one", "other"] ["pairs", "left", "name"] (defScope s_leaders) := ⟨rfl, rfl, rfl, by decide +kernel, rfl, by decide +kernel, by decide +kernel⟩

abbrev s_ordered : Stmt := topS 6
theorem sc_ordered : FnScope ["pairs", "left", "order", "free", "name", "pair"] ["pairs"] (defScope s_ordered) := ⟨rfl, rfl, rfl, by decide +kernel, rfl, by decide +kernel, by decide +kernel⟩

abbrev s_ring_in : Stmt := topS 7
theorem sc_ring_in : FnScope ["pairs", "left", "back", "leader", "ring"] ["pairs"] (defScope s_ring_in) := ⟨rfl, rfl, rfl, by decide +kernel, rfl, by decide +kernel, by decide +kernel⟩

abbrev s_law_like : Stmt := topS 13
theorem sc_law_like : FnScope ["told", "due", "at"] ["told", "due"] (defScope s_law_like) := ⟨rfl, rfl, rfl, by decide +kernel, rfl, by decide +kernel, by decide +kernel⟩

abbrev s_hand_order : Stmt := topS 8
theorem sc_hand_order : FnScope ["pairs", "order", "left"] ["pairs"] (defScope s_hand_order) := ⟨rfl, rfl, rfl, by decide +kernel, rfl, by decide +kernel, by decide +kernel⟩

abbrev s_law_take : Stmt := topS 11
theorem sc_law_take : FnScope ["box", "many", "raw", "digit"] ["box", "many"] (defScope s_law_take) := ⟨rfl, rfl, rfl, by decide +kernel, rfl, by decide +kernel, by decide +kernel⟩

abbrev s_law_mixed : Stmt := topS 15
theorem sc_law_mixed : FnScope ["box", "row", "turn", "left", "found"] ["box", "row"] (defScope s_law_mixed) := ⟨rfl, rfl, rfl, by decide +kernel, rfl, by decide +kernel, by decide +kernel⟩

abbrev s_law_some : Stmt := topS 14
theorem sc_law_some : FnScope ["box", "most", "many", "turn", "left", "found"] ["box", "most", "many"] (defScope s_law_some) := ⟨rfl, rfl, rfl, by decide +kernel, rfl, by decide +kernel, by decide +kernel⟩

abbrev s_law_pick : Stmt := topS 12
theorem sc_law_pick : FnScope ["box", "some"] ["box", "some"] (defScope s_law_pick) := ⟨rfl, rfl, rfl, by decide +kernel, rfl, by decide +kernel, by decide +kernel⟩

abbrev s_law_once : Stmt := topS 16
theorem sc_law_once : FnScope ["row", "most", "found", "one"] ["row", "most"] (defScope s_law_once) := ⟨rfl, rfl, rfl, by decide +kernel, rfl, by decide +kernel, by decide +kernel⟩

abbrev s_law_pairs : Stmt := topS 17
theorem sc_law_pairs : FnScope ["box", "names", "turn", "many", "kind", "found", "places", "row", "at"] ["box"] (defScope s_law_pairs) := ⟨rfl, rfl, rfl, by decide +kernel, rfl, by decide +kernel, by decide +kernel⟩

abbrev s_law_box : Stmt := topS 10
theorem sc_law_box : FnScope ["script", "k", "cell", "great"] ["script", "k"] (defScope s_law_box) := ⟨rfl, rfl, rfl, by decide +kernel, rfl, by decide +kernel, by decide +kernel⟩

abbrev s_law_least_order : Stmt := topS 18
theorem sc_law_least_order : FnScope ["pairs", "pair", "turn", "left", "found", "barred", "free", "name"] ["pairs"] (defScope s_law_least_order) := ⟨rfl, rfl, rfl, by decide +kernel, rfl, by decide +kernel, by decide +kernel⟩

abbrev s_law_is_ring : Stmt := topS 19
theorem sc_law_is_ring : FnScope ["pairs", "ring", "names", "name", "at"] ["pairs", "ring"] (defScope s_law_is_ring) := ⟨rfl, rfl, rfl, by decide +kernel, rfl, by decide +kernel, by decide +kernel⟩

abbrev s_law_refused : Stmt := topS 20
theorem sc_law_refused : FnScope ["ask", "fault"] ["ask"] (defScope s_law_refused) := ⟨rfl, rfl, rfl, by decide +kernel, rfl, by decide +kernel, by decide +kernel⟩

abbrev s_law_asked : Stmt := topS 21
theorem sc_law_asked : FnScope ["pairs", "due", "ring"] ["pairs"] (defScope s_law_asked) := ⟨rfl, rfl, rfl, by decide +kernel, rfl, by decide +kernel, by decide +kernel⟩

abbrev s_law : Stmt := topS 22
theorem sc_law : FnScope ["script", "fault", "k", "pairs"] ["script"] (defScope s_law) := ⟨rfl, rfl, rfl, by decide +kernel, rfl, by decide +kernel, by decide +kernel⟩

structure Df (K : PySem.W.Frag) (mg : Str → Option Value) (x : Str) (st : Stmt) (f : Addr) (fd : FuncData) (ps : List Str) : Prop where
  fn : Fun K x x st f fd
  g : mg x = some (.ref f)
  b : Binds K fd ps []

theorem df_mk {K : PySem.W.Frag} {h : Heap} {mg : Str → Option Value} {x : Str} {st : Stmt} {f : Addr} {oc : Value} {od an : Option Addr} {osl : Array (Option Value)} {kV doc pm cdv ct : Value} {ps : List Str} (X : K.In h) (G : h.Ns mainGlobals mg) (a : PySem.W.nsIn K mainGlobals x = some (some (.ref f)))
  (l : K.lookup f = some ⟨oc, od, .func (PySem.W.fnOf x x (defArgs st) (defBody st) (defScope st) .none kV doc pm an cdv ct), osl⟩) (c : PySem.W.codeIn K cdv x = true) (k : PySem.W.keepIn K (.ref f) = true)
  (hb : ∀ (kV doc pm : Value) (an : Option Addr) (cdv ct : Value) (us : List Value), us.length = ps.length → bindArgs (PySem.W.fnOf x x (defArgs st) (defBody st) (defScope st) .none kV doc pm an cdv ct) ⟨us, []⟩ = pure (ps.zip us)) :
  Df K mg x st f (PySem.W.fnOf x x (defArgs st) (defBody st) (defScope st) .none kV doc pm an cdv ct) ps :=
  ⟨fun_mk l c k, PySem.W.mg_of X G a, (fun_mk l c k).binds hb⟩

structure Dm (K : PySem.W.Frag) (C : Addr) (x qual : Str) (st : Stmt) (f : Addr) (fd : FuncData) (ps : List Str) : Prop where
  fn : Fun K x qual st f fd
  m : Meth K C x f
  b : Binds K fd ps []
structure Di (K : PySem.W.Frag) (C : Addr) (qual : Str) (st : Stmt) (f : Addr) (fd : FuncData) (ps : List Str) : Prop where
  fn : Fun K "__init__" qual st f fd
  made : Mk K C f
  b : Binds K fd ps []

structure Ck (K : PySem.W.Frag) (mg : Str → Option Value) (n : String) (C : Addr) : Prop where
  g : mg (Str.ofString n) = some (.ref C)
  cn : CN K n C

theorem ck_mk {K : PySem.W.Frag} {h : Heap} {mg : Str → Option Value} {n : String} {C : Addr} (X : K.In h) (G : h.Ns mainGlobals mg) (a : PySem.W.nsIn K mainGlobals (Str.ofString n) = some (some (.ref C))) : Ck K mg n C := ⟨PySem.W.mg_of X G a, a⟩

section
variable {K : PySem.W.Frag} {mg : Str → Option Value} {n : String} {C : Addr} (q : Ck K mg n C)
include q

theorem kc_mk (pg : PySem.W.plainGet K C Str.empty = true) (hd : PySem.W.hasDictIn K C = true) (po : PySem.W.plainOver K C = true) (sa : PySem.W.findIn K (.ref C) "__setattr__" = some (some (.builtin "object.__setattr__"))) : Kc K n C := ⟨q.cn, ⟨pg, hd, po, sa⟩⟩

theorem na_mk {f : Str} (z : PySem.W.findIn K (.ref C) f = some none) : NoAttr K C f := z

theorem mo_mk {l : List (String × Bool)} (h : MOk K (.ref C) (mL l)) : MOk K (.ref C) (mL l) := h

theorem ed_mk (h1 : PySem.W.findIn K (.ref C) "__getattribute__" = some (some (.builtin "BaseException.__getattribute__"))) (h2 : PySem.W.findIn K (.ref C) "__getattr__" = some none) (h3 : PySem.W.subIn K (.ref C) (.type "BaseException") = some true) (h4 : PySem.W.hasDictIn K C = true) (h5 : PySem.W.isClsIn K C = true) (h6 : PySem.W.findIn K (.ref C) "__class__" = some (some (.builtin "object.__class__"))) (h7 : PySem.W.specialIn K (.builtin "object.__class__") "__get__" = some (some (.builtin "getset_descriptor.__get__"))) (h8 : PySem.W.takesIn K (.builtin "object.__class__") = some true) (h9 : PySem.W.mroIn K C (.type "object") = some true) : ExcD K C := ⟨h1, h2, h3, h4, h5, h6, h7, h8, h9⟩

theorem le_mk_LV {st : Stmt} {p1 p2 q1 q2 q3 q4 : Pos} {nm qn qX : Str} {N : Addr} {bs bm : List Value} {sn : List Str} {sub : List Value} {ab : Bool} {col : Option Bool} {dd : Option Addr} {m0 m1 m2 m3 m5 : Option Value} {f1 : Addr} {od an : Option Addr} {sl : Array (Option Value)} {oc dc pm cd ct : Value}
  (xL : K.lookup C = some (excClassObj nm qn C N bs bm true sn sub ab col dd m0 m1 m2 m3 m5 "ValueError.__new__")) (hb : PySem.HandSPX.refsVE bm = true) (sa : PySem.W.findIn K (.ref C) "__setattr__" = some (some (.builtin "object.__setattr__"))) (ga : PySem.W.findIn K (.ref C) "__getattribute__" = some (some (.builtin "BaseException.__getattribute__"))) (gg : PySem.W.findIn K (.ref C) "__getattr__" = some none) (nb : PySem.W.findIn K (.ref C) "value" = some none)
  (a1 : PySem.W.findIn K (.ref C) "__init__" = some (some (.ref f1))) (t1 : PySem.W.typeIn K (.ref f1) = some (.type "function")) (hA : defArgs st = PySem.LV.iA p1 p2) (hB : defBody st = PySem.LV.iB q1 q2 q3 q4) (hS : defScope st = PySem.LV.iS) (l1 : K.lookup f1 = some ⟨oc, od, .func (PySem.W.fnOf "__init__" qX (defArgs st) (defBody st) (defScope st) .none .none dc pm an cd ct), sl⟩) (c1 : PySem.W.codeIn K cd qX = true)
  (kC : PySem.W.keepIn K (.ref C) = true) (eC : PySem.W.subIn K (.ref C) (.type "BaseException") = some true) (tC : PySem.W.typeIn K (.ref C) = some (.type "type")) (hC : PySem.W.hasDictIn K C = true) (te : PySem.W.exmOne K (.ref C) (.ref C) = some true) : PySem.LV.LowTxt K mg (Str.ofString n) qX C f1 := by
  rw [hA, hB, hS] at l1
  exact { gC := q.g, cls := ⟨nm, qn, N, bs, bm, sn, sub, ab, col, dd, m0, m1, m2, m3, m5, xL, hb⟩, sa := sa, ga := ga, gg := gg, noN := nb, iC := a1, tC := t1, kC := kC, exC := eC, tyC := tC, hdC := hC, te := te, fn := ⟨_, _, _, _, _, _, _, _, _, _, _, _, _, _, l1, c1⟩ }

end

theorem dm_mk {K : PySem.W.Frag} {mg : Str → Option Value} {n : String} {x qual : Str} {st : Stmt} {f C : Addr} {oc : Value} {od an : Option Addr} {osl : Array (Option Value)} {kV doc pm cdv ct : Value} {ps : List Str} (q : Ck K mg n C) (a : PySem.W.findIn K (.ref C) x = some (some (.ref f))) (i : PySem.W.isFn K (.ref f) = true) (l : K.lookup f = some ⟨oc, od, .func (PySem.W.fnOf x qual (defArgs st) (defBody st) (defScope st) .none kV doc pm an cdv ct), osl⟩) (c : PySem.W.codeIn K cdv qual = true) (k : PySem.W.keepIn K (.ref f) = true)
  (hb : ∀ (kV doc pm : Value) (an : Option Addr) (cdv ct : Value) (us : List Value), us.length = ps.length → bindArgs (PySem.W.fnOf x qual (defArgs st) (defBody st) (defScope st) .none kV doc pm an cdv ct) ⟨us, []⟩ = pure (ps.zip us)) : Dm K C x qual st f (PySem.W.fnOf x qual (defArgs st) (defBody st) (defScope st) .none kV doc pm an cdv ct) ps := have F := fun_mk (st := st) l c k
  ⟨F, ⟨a, i, k⟩, Binds.all (hb kV doc pm an cdv ct)⟩

theorem di_mk {K : PySem.W.Frag} {qual : Str} {st : Stmt} {f C : Addr} {fd : FuncData} {ps : List Str} (d : Dm K C "__init__" qual st f fd ps) (m : PySem.W.makesIn K C = true) (k : PySem.W.keepIn K (.ref C) = true) : Di K C qual st f fd ps := ⟨d.fn, ⟨m, d.m.at_, d.m.fn, k⟩, d.b⟩

structure Tx (K : PySem.W.Frag) (mg : Str → Option Value) (base : Heap) where
  C_BadDeed : Addr
  g_BadDeed : mg "BadDeed" = some (.ref C_BadDeed)
  cn_BadDeed : CN K "BadDeed" C_BadDeed
  C_OwnError : Addr
  g_OwnError : mg "OwnError" = some (.ref C_OwnError)
  cn_OwnError : CN K "OwnError" C_OwnError
  C_Refused : Addr
  g_Refused : mg "Refused" = some (.ref C_Refused)
  cn_Refused : CN K "Refused" C_Refused
  fI_Refused : Addr
  low_Refused : PySem.LV.LowTxt K mg "Refused" "Refused.__init__" C_Refused fI_Refused
  x_Refused : ExcD K C_Refused
  mo_BadDeed : MOk K (.ref C_BadDeed) (mL [("Refused", false)])
  mo_OwnError : MOk K (.ref C_OwnError) (mL [("Refused", true)])
  mo_Refused : MOk K (.ref C_Refused) (mL [("Refused", true)])
  tb : TbOk K [("Refused", "BadDeed", true, false), ("Refused", "Refused", true, true), ("Refused", "ValueError", false, true)]
  f_leaders : Addr
  fd_leaders : FuncData
  d_leaders : Df K mg "leaders" s_leaders f_leaders fd_leaders ["pairs", "left", "name"]
  f_ordered : Addr
  fd_ordered : FuncData
  d_ordered : Df K mg "ordered" s_ordered f_ordered fd_ordered ["pairs"]
  f_ring_in : Addr
  fd_ring_in : FuncData
  d_ring_in : Df K mg "ring_in" s_ring_in f_ring_in fd_ring_in ["pairs"]
  f_law_like : Addr
  fd_law_like : FuncData
  d_law_like : Df K mg "_law_like" s_law_like f_law_like fd_law_like ["told", "due"]
  f_hand_order : Addr
  fd_hand_order : FuncData
  d_hand_order : Df K mg "hand_order" s_hand_order f_hand_order fd_hand_order ["pairs"]
  f_law_take : Addr
  fd_law_take : FuncData
  d_law_take : Df K mg "_law_take" s_law_take f_law_take fd_law_take ["box", "many"]
  f_law_mixed : Addr
  fd_law_mixed : FuncData
  d_law_mixed : Df K mg "_law_mixed" s_law_mixed f_law_mixed fd_law_mixed ["box", "row"]
  f_law_some : Addr
  fd_law_some : FuncData
  d_law_some : Df K mg "_law_some" s_law_some f_law_some fd_law_some ["box", "most", "many"]
  f_law_pick : Addr
  fd_law_pick : FuncData
  d_law_pick : Df K mg "_law_pick" s_law_pick f_law_pick fd_law_pick ["box", "some"]
  f_law_once : Addr
  fd_law_once : FuncData
  d_law_once : Df K mg "_law_once" s_law_once f_law_once fd_law_once ["row", "most"]
  f_law_pairs : Addr
  fd_law_pairs : FuncData
  d_law_pairs : Df K mg "_law_pairs" s_law_pairs f_law_pairs fd_law_pairs ["box"]
  f_law_box : Addr
  fd_law_box : FuncData
  d_law_box : Df K mg "_law_box" s_law_box f_law_box fd_law_box ["script", "k"]
  f_law_least_order : Addr
  fd_law_least_order : FuncData
  d_law_least_order : Df K mg "_law_least_order" s_law_least_order f_law_least_order fd_law_least_order ["pairs"]
  f_law_is_ring : Addr
  fd_law_is_ring : FuncData
  d_law_is_ring : Df K mg "_law_is_ring" s_law_is_ring f_law_is_ring fd_law_is_ring ["pairs", "ring"]
  f_law_refused : Addr
  fd_law_refused : FuncData
  d_law_refused : Df K mg "_law_refused" s_law_refused f_law_refused fd_law_refused ["ask"]
  f_law_asked : Addr
  fd_law_asked : FuncData
  d_law_asked : Df K mg "_law_asked" s_law_asked f_law_asked fd_law_asked ["pairs"]
  cc_law_asked : Addr
  pp_law_asked : Addr
  fl_law_asked : FunL K "_law_asked" "_law_asked" s_law_asked f_law_asked fd_law_asked cc_law_asked
  ti_law_asked : PySem.W.tabIn K "_law_asked" = some (cc_law_asked, pp_law_asked)
  tb_law_asked : LamX.TabB base mg cc_law_asked pp_law_asked
  f_law : Addr
  fd_law : FuncData
  d_law : Df K mg "law" s_law f_law fd_law ["script"]
  m_ValueError : mg "ValueError" = none
  m_abs : mg "abs" = none
  m_bool : mg "bool" = none
  m_int : mg "int" = none
  m_isinstance : mg "isinstance" = none
  m_len : mg "len" = none
  m_list : mg "list" = none
  m_max : mg "max" = none
  m_min : mg "min" = none
  m_range : mg "range" = none
  m_reversed : mg "reversed" = none
  m_sorted : mg "sorted" = none
  m_str : mg "str" = none
  m_tuple : mg "tuple" = none
  kb_hand_order_0_pairs : KBn' K fd_hand_order ["pairs"] ["pairs"] 0 1 [0]
  kb_ring_in_0_pairs : KBn' K fd_ring_in ["pairs"] ["pairs"] 0 1 [0]

section
variable {P : Program} {w : World} {K : PySem.W.Frag} {mg : Str → Option Value} {base : Heap}

theorem ok_leaders (T : Tx K mg base) : FnOk P w K mg base CX0 1 T.f_leaders T.fd_leaders ["pairs", "left", "name"] (dn K sp_leaders) :=
  fn_ok T.d_leaders.fn sc_leaders ln_leaders (fun cdv A outer s H E hr => 
 (eb_one (es_ret (ev_lcTF (own := [("one", 3), ("other", 4)]) rfl sc_leaders.nd (ei_seq (ev_var 0)) (blkOk_by (N := ["pairs", "left", "name", "one", "other"]) (sc := defScope s_leaders) (by decide +kernel)) ((kp_tp (kps_cons (kp_nm (i := 3)) (kps_cons (kp_nm (i := 4)) kps_nil))) : Kp _ _ [3, 4] _).keeps (fun _ _ _ _ _ => (pg_tup rfl (pgs_cons (pg_name (i := 3) sc_leaders.nd rfl (Or.inl rfl)) (pgs_cons (pg_name (i := 4) sc_leaders.nd rfl (Or.inl rfl)) pgs_nil rfl) rfl) rfl rfl)) (fun _ _ _ _ _ => (ep_one (et_ew (ew_and (et_cmp (op_eqU hr.units) lf_eq3 (ev_var 4) (ev_var 2)) (ew_and1 (et_cmp (op_in3 (units65 hr)) lf_in3 (ev_var 3) (ev_var 1))))))) (fun _ _ _ _ _ => (ev_var 3)))))) pu_leaders nx_leaders

theorem ok_ordered (T : Tx K mg base) : FnOk P w K mg base CX0 2 T.f_ordered T.fd_ordered ["pairs"] (dn K sp_ordered) :=
  fn_ok T.d_ordered.fn sc_ordered ln_ordered (fun cdv A outer s H E hr => 
 (eb_cons (es_set 1 sc_ordered.nd (ev_ssG laysF (cr_ssF rfl) (own := [("pair", 5), ("name", 4)]) (ws := [4]) rfl T.m_sorted rfl sc_ordered.nd (ei_seq (ev_var 0)) (blkOk_by (N := ["pairs", "left", "order", "free", "name", "pair"]) (sc := defScope s_ordered) (by decide +kernel)) (by decide) ((kp_nm (i := 5)) : Kp _ _ [5, 4] _).keeps ((kp_nm (i := 4)) : Kp _ _ [4] _).keeps (fun _ _ _ _ _ => (pg_name (i := 5) sc_ordered.nd rfl (Or.inl rfl))) (fun _ _ _ _ _ => ep_nil) (fun _ _ _ _ _ => (ev_var 5)) (fun _ _ _ _ _ => (pg_name (i := 4) sc_ordered.nd rfl (Or.inl rfl))) (fun _ _ _ _ _ => ep_nil) (fun _ _ _ _ _ => (ev_var 4))))
 (eb_cons (es_set 2 sc_ordered.nd (ev_lst ea_nil))
 (eb_cons (es_set 3 sc_ordered.nd (ev_lcF 4 rfl sc_ordered.nd (ei_lst (ev_var 1)) (blkOk_by (N := ["pairs", "left", "order", "free", "name", "pair"]) (sc := defScope s_ordered) (by decide +kernel)) (fun _ _ _ _ _ => pg_name (i := 4) sc_ordered.nd rfl (Or.inl rfl)) (fun _ _ _ _ _ => (ep_one (et_not (et_tru (ev_call (ok_leaders T) (hr.mono (by decide)) T.d_leaders.g T.d_leaders.fn.kp T.d_leaders.b (ea_cons (ev_var 0) (ea_cons (ev_var 1) (ea_cons (ev_var 4) ea_nil)))))))) (fun _ _ _ _ _ => (ev_var 4))))
 (eb_cons (es_while PassesOwn.never (et_tru (ev_var 3))
 (eb_cons (es_expr (ev_mt PySem.F.plainAttrs_list PySem.F.slot_list_append PySem.F.type_list_append (.inl rfl) mt_append lm_app (ev_var 2) (ea_cons (ev_ix (ev_var 3) ev_int) ea_nil)))
 (eb_cons (es_set 1 sc_ordered.nd (ev_lcF 4 rfl sc_ordered.nd (ei_lst (ev_var 1)) (blkOk_by (N := ["pairs", "left", "order", "free", "name", "pair"]) (sc := defScope s_ordered) (by decide +kernel)) (fun _ _ _ _ _ => pg_name (i := 4) sc_ordered.nd rfl (Or.inl rfl)) (fun _ _ _ _ _ => (ep_one (et_cmp (op_neU hr.units) lf_ne3 (ev_var 4) (ev_ix (ev_var 3) ev_int)))) (fun _ _ _ _ _ => (ev_var 4))))
 (eb_one (es_set 3 sc_ordered.nd (ev_lcF 4 rfl sc_ordered.nd (ei_lst (ev_var 1)) (blkOk_by (N := ["pairs", "left", "order", "free", "name", "pair"]) (sc := defScope s_ordered) (by decide +kernel)) (fun _ _ _ _ _ => pg_name (i := 4) sc_ordered.nd rfl (Or.inl rfl)) (fun _ _ _ _ _ => (ep_one (et_not (et_tru (ev_call (ok_leaders T) (hr.mono (by decide)) T.d_leaders.g T.d_leaders.fn.kp T.d_leaders.b (ea_cons (ev_var 0) (ea_cons (ev_var 1) (ea_cons (ev_var 4) ea_nil)))))))) (fun _ _ _ _ _ => (ev_var 4))))))))
 (eb_one (es_ret (ev_tup (ea_cons (ev_fz (ev_var 2)) (ea_cons (ev_var 1) ea_nil)))))))))) pu_ordered nx_ordered

theorem ok_ring_in (T : Tx K mg base) : FnOk P w K mg base CX0 3 T.f_ring_in T.fd_ring_in ["pairs"] (dn K sp_ring_in) :=
  fn_ok T.d_ring_in.fn sc_ring_in ln_ring_in (fun cdv A outer s H E hr => 
 (eb_cons (es_set 1 sc_ring_in.nd (ev_ix (ev_call (ok_ordered T) (hr.mono (by decide)) T.d_ordered.g T.d_ordered.fn.kp T.d_ordered.b (ea_cons (ev_var 0) ea_nil)) ev_int))
 (eb_cons (es_if (et_not (et_tru (ev_var 1)))
 (eb_one (es_ret ev_non))
 eb_nil)
 (eb_cons (es_set 2 sc_ring_in.nd (ev_lst (ea_cons (ev_ix (ev_var 1) ev_int) ea_nil)))
 (eb_cons (es_set 3 sc_ring_in.nd (ev_ix (ev_call (ok_leaders T) (hr.mono (by decide)) T.d_leaders.g T.d_leaders.fn.kp T.d_leaders.b (ea_cons (ev_var 0) (ea_cons (ev_var 1) (ea_cons (ev_ix (ev_var 1) ev_int) ea_nil)))) ev_int))
 (eb_cons (es_while PassesOwn.never (et_cmp (op_notIn3 (units65 hr)) lf_notIn3 (ev_var 3) (ev_var 2))
 (eb_cons (es_expr (ev_mt PySem.F.plainAttrs_list PySem.F.slot_list_append PySem.F.type_list_append (.inl rfl) mt_append lm_app (ev_var 2) (ea_cons (ev_var 3) ea_nil)))
 (eb_one (es_set 3 sc_ring_in.nd (ev_ix (ev_call (ok_leaders T) (hr.mono (by decide)) T.d_leaders.g T.d_leaders.fn.kp T.d_leaders.b (ea_cons (ev_var 0) (ea_cons (ev_var 1) (ea_cons (ev_var 3) ea_nil)))) ev_int)))))
 (eb_cons (es_set 4 sc_ring_in.nd (ev_slF (ev_var 2) (eo_some (ev_mt PySem.F.plainAttrs_list PySem.F.slot_list_index PySem.F.type_list_index (.inl rfl) mt_index lm_ixi (ev_var 2) (ea_cons (ev_var 3) ea_nil))) eo_none))
 (eb_one (es_ret (ev_tupRev rfl T.m_tuple T.m_reversed (ev_var 4))))))))))) pu_ring_in nx_ring_in

theorem ok_law_like (T : Tx K mg base) : ∀ n, FnOk P w K mg base CX0 (0 + n) T.f_law_like T.fd_law_like ["told", "due"] (dn K (sp_law_like n))
  | 0 => ⟨fun vs H Q E h => by obtain ⟨ds, S, Q', E', _, _, h, _⟩ := h; exact (zr_law_like _ _ _ _ h).elim, fun _ _ _ _ _ _ _ _ _ _ _ _ _ h => by obtain ⟨ds, S, Q', E', _, _, h, _⟩ := h; exact (zr_law_like _ _ _ _ h).elim⟩
  | n + 1 => by
    have ih := ok_law_like T n
    exact fn_ok T.d_law_like.fn sc_law_like (fun ds S Q E h => ln_law_like _ ds S Q E h) (fun cdv A outer s H E hr => 
 (eb_cons (es_if (et_cmp op_isU lf_is (ev_var 1) ev_non)
 (eb_one (es_ret (ev_cmp op_isU lf_is (ev_var 0) ev_non)))
 eb_nil)
 (eb_cons (es_if (et_val (ev_cB call_isi2 lc_isi2 T.m_isinstance (ea_cons (ev_var 1) (ea_cons (ev_ty T.m_tuple) ea_nil))))
 (eb_cons (es_if (et_ew (ew_or (et_not (et_val (ev_cB call_isi2 lc_isi2 T.m_isinstance (ea_cons (ev_var 0) (ea_cons (ev_ty T.m_tuple) ea_nil))))) (ew_or1 (et_cmp (op_neU hr.units) lf_ne3 (ev_cB cr_len lc_len T.m_len (ea_cons (ev_var 0) ea_nil)) (ev_cB cr_len lc_len T.m_len (ea_cons (ev_var 1) ea_nil))))))
 (eb_one (es_ret ev_bl))
 eb_nil)
 (eb_one (es_ret (ev_cmp (op_eqU hr.units) lf_eq3 (ev_cB cr_len lc_len T.m_len (ea_cons (ev_lcF 2 rfl sc_law_like.nd (ei_rg1 T.m_range (ea_cons (ev_cB cr_len lc_len T.m_len (ea_cons (ev_var 1) ea_nil)) ea_nil)) (blkOk_by (N := ["told", "due", "at"]) (sc := defScope s_law_like) (by decide +kernel)) (fun _ _ _ _ _ => pg_name (i := 2) sc_law_like.nd rfl (Or.inl rfl)) (fun _ _ _ _ _ => (ep_one (et_not (et_val (ev_call ih (hr.mono (Nat.le_refl _)) T.d_law_like.g T.d_law_like.fn.kp T.d_law_like.b (ea_cons (ev_ix (ev_var 0) (ev_var 2)) (ea_cons (ev_ix (ev_var 1) (ev_var 2)) ea_nil))))))) (fun _ _ _ _ _ => (ev_var 2))) ea_nil)) ev_int))))
 eb_nil)
 (eb_cons (es_if (et_val (ev_cB call_isi2 lc_isi2 T.m_isinstance (ea_cons (ev_var 1) (ea_cons (ev_ty T.m_str) ea_nil))))
 (eb_one (es_ret (ev_and (ev_cB call_isi2 lc_isi2 T.m_isinstance (ea_cons (ev_var 0) (ea_cons (ev_ty T.m_str) ea_nil))) (ev_one (ev_cmp (op_eqU hr.units) lf_eq3 (ev_var 0) (ev_var 1))))))
 eb_nil)
 (eb_cons (es_if (et_ew (ew_or (et_val (ev_cB call_isi2 lc_isi2 T.m_isinstance (ea_cons (ev_var 1) (ea_cons (ev_ty T.m_bool) ea_nil)))) (ew_or1 (et_val (ev_cB call_isi2 lc_isi2 T.m_isinstance (ea_cons (ev_var 0) (ea_cons (ev_ty T.m_bool) ea_nil)))))))
 (eb_one (es_ret (ev_and (ev_cB call_isi2 lc_isi2 T.m_isinstance (ea_cons (ev_var 1) (ea_cons (ev_ty T.m_bool) ea_nil))) (ev_and (ev_cB call_isi2 lc_isi2 T.m_isinstance (ea_cons (ev_var 0) (ea_cons (ev_ty T.m_bool) ea_nil))) (ev_one (ev_cmp (op_eqU hr.units) lf_eq3 (ev_var 0) (ev_var 1)))))))
 eb_nil)
 (eb_one (es_ret (ev_and (ev_cB call_isi2 lc_isi2 T.m_isinstance (ea_cons (ev_var 1) (ea_cons (ev_ty T.m_int) ea_nil))) (ev_and (ev_cB call_isi2 lc_isi2 T.m_isinstance (ea_cons (ev_var 0) (ea_cons (ev_ty T.m_int) ea_nil))) (ev_one (ev_cmp (op_eqU hr.units) lf_eq3 (ev_var 0) (ev_var 1)))))))))))) (pu_law_like n) (nx_law_like (n + 1))

theorem ok_hand_order (T : Tx K mg base) : FnOk P w K mg base (L2N.CX P w) 3 T.f_hand_order T.fd_hand_order ["pairs"] (dn K sp_hand_order) :=
  fn_okX T.d_hand_order.fn sc_hand_order ln_hand_order (fun cdv A outer s H E hr tk => 
 (eb_cons (es_asg (ev_call (ok_ordered T) (hr.mono (by decide)) T.d_ordered.g T.d_ordered.fn.kp T.d_ordered.b (ea_cons (ev_var 0) ea_nil)) (eg_tp rfl (egs_cons (eg_nm 1 sc_hand_order.nd) (egs_cons (eg_nm 2 sc_hand_order.nd) egs_nil))))
 (eb_cons (es_if (et_tru (ev_var 2))
 (eb_one (es_raiseV T.low_Refused T.cn_Refused rfl hr tk (ea_cons (ev_var 0) ea_nil)))
 eb_nil)
 (eb_one (es_ret (ev_cT cr_tup3 lc_tup3 T.m_tuple (ea_cons (ev_var 1) ea_nil))))))) pu_hand_order

theorem ok_law_take (T : Tx K mg base) : FnOk P w K mg base CX0 1 T.f_law_take T.fd_law_take ["box", "many"] (dn K sp_law_take) :=
  fn_ok T.d_law_take.fn sc_law_take ln_law_take (fun cdv A outer s H E hr => 
 (eb_cons (es_if (et_cmp (op_gtU hr.units0) lf_gt2 (ev_ix (ev_var 0) ev_int) ev_int)
 (eb_cons (es_set 3 sc_law_take.nd (ev_bin op_mod lf_mod (ev_cT call_int1 lc_int T.m_int (ea_cons (ev_ix (ev_var 0) ev_int) ea_nil)) (ev_var 1)))
 (eb_cons (es_asg (ev_bin op_fdivW lf_fdiv (ev_ix (ev_var 0) ev_int) (ev_var 1)) (eg_sb (ev_var 0) ev_int))
 (eb_one (es_ret (ev_var 3)))))
 eb_nil)
 (eb_cons (es_set 2 sc_law_take.nd (ev_bin op_mod lf_mod (ev_cT call_int1 lc_int T.m_int (ea_cons (ev_bin op_addF lf_addF (ev_bin op_mul3 lf_mul3 (ev_ix (ev_var 0) ev_int) ev_int) ev_int) ea_nil)) ev_int))
 (eb_cons (es_asg (ev_bin op_addF lf_addF (ev_bin op_mod lf_mod (ev_cT call_int1 lc_int T.m_int (ea_cons (ev_bin op_addF lf_addF (ev_bin op_mul3 lf_mul3 (ev_var 2) ev_int) ev_int) ea_nil)) ev_int) ev_int) (eg_sb (ev_var 0) ev_int))
 (eb_one (es_ret (ev_bin op_mod lf_mod (ev_cT call_int1 lc_int T.m_int (ea_cons (ev_bin op_fdivW lf_fdiv (ev_bin op_addF lf_addF (ev_bin op_mul3 lf_mul3 (ev_var 2) ev_int) (ev_ix (ev_var 0) ev_int)) ev_int) ea_nil)) (ev_var 1)))))))) pu_law_take nx_law_take

theorem ok_law_mixed (T : Tx K mg base) : FnOk P w K mg base CX0 2 T.f_law_mixed T.fd_law_mixed ["box", "row"] (dn K sp_law_mixed) :=
  fn_ok T.d_law_mixed.fn sc_law_mixed ln_law_mixed (fun cdv A outer s H E hr => 
 (eb_cons (es_par (i := 3) (j := 4) rfl sc_law_mixed.nd (by decide) (ea_cons (ev_cT cr_lstT lc_lstT T.m_list (ea_cons (ev_var 1) ea_nil)) (ea_cons (ev_lst ea_nil) ea_nil)))
 (eb_cons (es_for PassesOwn.never rfl (ei_rg1 T.m_range (ea_cons (ev_cB cr_len lc_len T.m_len (ea_cons (ev_var 1) ea_nil)) ea_nil)) (eg_nm 2 sc_law_mixed.nd)
 (eb_one (es_expr (ev_mt PySem.F.plainAttrs_list PySem.F.slot_list_append PySem.F.type_list_append (.inl rfl) mt_append lm_app (ev_var 4) (ea_cons (ev_mt PySem.F.plainAttrs_list PySem.F.slot_list_pop PySem.F.type_list_pop (.inl rfl) mt_popAt lm_pop (ev_var 3) (ea_cons (ev_call (ok_law_take T) (hr.mono (by decide)) T.d_law_take.g T.d_law_take.fn.kp T.d_law_take.b (ea_cons (ev_var 0) (ea_cons (ev_cB cr_len lc_len T.m_len (ea_cons (ev_var 3) ea_nil)) ea_nil))) ea_nil)) ea_nil)))))
 (eb_one (es_ret (ev_fz (ev_var 4))))))) pu_law_mixed nx_law_mixed

theorem ok_law_some (T : Tx K mg base) : FnOk P w K mg base CX0 2 T.f_law_some T.fd_law_some ["box", "most", "many"] (dn K sp_law_some) :=
  fn_ok T.d_law_some.fn sc_law_some ln_law_some (fun cdv A outer s H E hr => 
 (eb_cons (es_par (i := 4) (j := 5) rfl sc_law_some.nd (by decide) (ea_cons (ev_lrG laysT fzT rfl T.m_list T.m_range (ev_var 1)) (ea_cons (ev_lst ea_nil) ea_nil)))
 (eb_cons (es_for PassesOwn.never rfl (ei_rg1 T.m_range (ea_cons (ev_var 2) ea_nil)) (eg_nm 3 sc_law_some.nd)
 (eb_one (es_expr (ev_mt PySem.F.plainAttrs_list PySem.F.slot_list_append PySem.F.type_list_append (.inl rfl) mt_append lm_app (ev_var 5) (ea_cons (ev_mt PySem.F.plainAttrs_list PySem.F.slot_list_pop PySem.F.type_list_pop (.inl rfl) mt_popAt lm_pop (ev_var 4) (ea_cons (ev_call (ok_law_take T) (hr.mono (by decide)) T.d_law_take.g T.d_law_take.fn.kp T.d_law_take.b (ea_cons (ev_var 0) (ea_cons (ev_cB cr_len lc_len T.m_len (ea_cons (ev_var 4) ea_nil)) ea_nil))) ea_nil)) ea_nil)))))
 (eb_one (es_ret (ev_cB cr_srtF lc_srtF T.m_sorted (ea_cons (ev_var 5) ea_nil))))))) pu_law_some nx_law_some

theorem ok_law_pick (T : Tx K mg base) : FnOk P w K mg base CX0 2 T.f_law_pick T.fd_law_pick ["box", "some"] (dn K sp_law_pick) :=
  fn_ok T.d_law_pick.fn sc_law_pick ln_law_pick (fun cdv A outer s H E hr => 
 (eb_one (es_ret (ev_ix (ev_var 1) (ev_call (ok_law_take T) (hr.mono (by decide)) T.d_law_take.g T.d_law_take.fn.kp T.d_law_take.b (ea_cons (ev_var 0) (ea_cons (ev_cB cr_len lc_len T.m_len (ea_cons (ev_var 1) ea_nil)) ea_nil))))))) pu_law_pick nx_law_pick

theorem ok_law_once (T : Tx K mg base) : FnOk P w K mg base CX0 1 T.f_law_once T.fd_law_once ["row", "most"] (dn K sp_law_once) :=
  fn_ok T.d_law_once.fn sc_law_once ln_law_once (fun cdv A outer s H E hr => 
 (eb_cons (es_set 2 sc_law_once.nd (ev_lst ea_nil))
 (eb_cons (es_for PassesOwn.never rfl (ei_any (ev_var 0)) (eg_nm 3 sc_law_once.nd)
 (eb_one (es_if (et_ew (ew_and (et_cmp (op_notIn3 (units65 hr)) lf_notIn3 (ev_var 3) (ev_var 2)) (ew_and1 (et_cmp (op_ltU hr.units0) lf_lt (ev_cB cr_len lc_len T.m_len (ea_cons (ev_var 2) ea_nil)) (ev_var 1)))))
 (eb_one (es_expr (ev_mt PySem.F.plainAttrs_list PySem.F.slot_list_append PySem.F.type_list_append (.inl rfl) mt_append lm_app (ev_var 2) (ea_cons (ev_var 3) ea_nil))))
 eb_nil)))
 (eb_one (es_ret (ev_fz (ev_var 2))))))) pu_law_once nx_law_once

theorem ok_law_pairs (T : Tx K mg base) : FnOk P w K mg base CX0 3 T.f_law_pairs T.fd_law_pairs ["box"] (dn K sp_law_pairs) :=
  fn_ok T.d_law_pairs.fn sc_law_pairs ln_law_pairs (fun cdv A outer s H E hr => 
 (eb_cons (es_set 1 sc_law_pairs.nd (ev_call (ok_law_mixed T) (hr.mono (by decide)) T.d_law_mixed.g T.d_law_mixed.fn.kp T.d_law_mixed.b (ea_cons (ev_var 0) (ea_cons (ev_call (ok_law_some T) (hr.mono (by decide)) T.d_law_some.g T.d_law_some.fn.kp T.d_law_some.b (ea_cons (ev_var 0) (ea_cons ev_int (ea_cons (ev_bin op_addF lf_addF ev_int (ev_call (ok_law_take T) (hr.mono (by decide)) T.d_law_take.g T.d_law_take.fn.kp T.d_law_take.b (ea_cons (ev_var 0) (ea_cons ev_int ea_nil)))) ea_nil)))) ea_nil))))
 (eb_cons (es_par3 (i := 3) (j := 4) (k := 5) rfl sc_law_pairs.nd (by decide) (by decide) (by decide) (ea_cons (ev_cB cr_len lc_len T.m_len (ea_cons (ev_var 1) ea_nil)) (ea_cons (ev_call (ok_law_take T) (hr.mono (by decide)) T.d_law_take.g T.d_law_take.fn.kp T.d_law_take.b (ea_cons (ev_var 0) (ea_cons ev_int ea_nil))) (ea_cons (ev_lst ea_nil) ea_nil))))
 (eb_cons (es_for PassesOwn.never rfl (ei_rg1 T.m_range (ea_cons (ev_call (ok_law_pick T) (hr.mono (by decide)) T.d_law_pick.g T.d_law_pick.fn.kp T.d_law_pick.b (ea_cons (ev_var 0) (ea_cons (ev_lstF (ea_cons ev_int (ea_cons ev_int (ea_cons ev_int (ea_cons ev_int (ea_cons ev_int ea_nil)))))) ea_nil))) ea_nil)) (eg_nm 2 sc_law_pairs.nd)
 (eb_cons (es_set 6 sc_law_pairs.nd (ev_call (ok_law_some T) (hr.mono (by decide)) T.d_law_some.g T.d_law_some.fn.kp T.d_law_some.b (ea_cons (ev_var 0) (ea_cons (ev_var 3) (ea_cons ev_int ea_nil)))))
 (eb_one (es_expr (ev_mt PySem.F.plainAttrs_list PySem.F.slot_list_append PySem.F.type_list_append (.inl rfl) mt_append lm_app (ev_var 5) (ea_cons (ev_tup (ea_cons (ev_ix (ev_var 1) (ev_ix (ev_var 6) ev_int)) (ea_cons (ev_ix (ev_var 1) (ev_ix (ev_var 6) ev_int)) ea_nil))) ea_nil))))))
 (eb_cons (es_if (et_cmp (op_eqU hr.units) lf_eq3 (ev_var 4) ev_int)
 (eb_cons (es_set 6 sc_law_pairs.nd (ev_call (ok_law_some T) (hr.mono (by decide)) T.d_law_some.g T.d_law_some.fn.kp T.d_law_some.b (ea_cons (ev_var 0) (ea_cons (ev_var 3) (ea_cons ev_int ea_nil)))))
 (eb_one (es_expr (ev_mt PySem.F.plainAttrs_list PySem.F.slot_list_append PySem.F.type_list_append (.inl rfl) mt_append lm_app (ev_var 5) (ea_cons (ev_tup (ea_cons (ev_ix (ev_var 1) (ev_ix (ev_var 6) ev_int)) (ea_cons (ev_ix (ev_var 1) (ev_ix (ev_var 6) ev_int)) ea_nil))) ea_nil)))))
 eb_nil)
 (eb_cons (es_if (et_cmp (op_eqU hr.units) lf_eq3 (ev_var 4) ev_int)
 (eb_cons (es_set 7 sc_law_pairs.nd (ev_slF (ev_call (ok_law_mixed T) (hr.mono (by decide)) T.d_law_mixed.g T.d_law_mixed.fn.kp T.d_law_mixed.b (ea_cons (ev_var 0) (ea_cons (ev_var 1) ea_nil))) eo_none (eo_some (ev_bin op_addF lf_addF ev_int (ev_call (ok_law_take T) (hr.mono (by decide)) T.d_law_take.g T.d_law_take.fn.kp T.d_law_take.b (ea_cons (ev_var 0) (ea_cons (ev_bin op_sub lf_sub (ev_var 3) ev_int) ea_nil)))))))
 (eb_one (es_set 5 sc_law_pairs.nd (ev_bin op_addT lf_addT (ev_bin op_addF lf_addF (ev_var 5) (ev_lcF 8 rfl sc_law_pairs.nd (ei_rg1 T.m_range (ea_cons (ev_bin op_sub lf_sub (ev_cB cr_len lc_len T.m_len (ea_cons (ev_var 7) ea_nil)) ev_int) ea_nil)) (blkOk_by (N := ["box", "names", "turn", "many", "kind", "found", "places", "row", "at"]) (sc := defScope s_law_pairs) (by decide +kernel)) (fun _ _ _ _ _ => pg_name (i := 8) sc_law_pairs.nd rfl (Or.inl rfl)) (fun _ _ _ _ _ => ep_nil) (fun _ _ _ _ _ => (ev_tup (ea_cons (ev_ix (ev_var 7) (ev_var 8)) (ea_cons (ev_ix (ev_var 7) (ev_bin op_addF lf_addF (ev_var 8) ev_int)) ea_nil)))))) (ev_lstF (ea_cons (ev_tup (ea_cons (ev_ix (ev_var 7) (ev_neg ev_int)) (ea_cons (ev_ix (ev_var 7) ev_int) ea_nil))) ea_nil))))))
 eb_nil)
 (eb_cons (es_if (et_cmp (op_eqU hr.units) lf_eq3 (ev_var 4) ev_int)
 (eb_one (es_set 5 sc_law_pairs.nd (ev_bin op_addT lf_addT (ev_var 5) (ev_lcF 6 rfl sc_law_pairs.nd (ei_lst (ev_lcF 2 rfl sc_law_pairs.nd (ei_rg1 T.m_range (ea_cons (ev_bin op_addF lf_addF ev_int (ev_call (ok_law_take T) (hr.mono (by decide)) T.d_law_take.g T.d_law_take.fn.kp T.d_law_take.b (ea_cons (ev_var 0) (ea_cons ev_int ea_nil)))) ea_nil)) (blkOk_by (N := ["box", "names", "turn", "many", "kind", "found", "places", "row", "at"]) (sc := defScope s_law_pairs) (by decide +kernel)) (fun _ _ _ _ _ => pg_name (i := 2) sc_law_pairs.nd rfl (Or.inl rfl)) (fun _ _ _ _ _ => ep_nil) (fun _ _ _ _ _ => (ev_call (ok_law_some T) (hr.mono (by decide)) T.d_law_some.g T.d_law_some.fn.kp T.d_law_some.b (ea_cons (ev_var 0) (ea_cons ev_int (ea_cons ev_int ea_nil))))))) (blkOk_by (N := ["box", "names", "turn", "many", "kind", "found", "places", "row", "at"]) (sc := defScope s_law_pairs) (by decide +kernel)) (fun _ _ _ _ _ => pg_name (i := 6) sc_law_pairs.nd rfl (Or.inl rfl)) (fun _ _ _ _ _ => ep_nil) (fun _ _ _ _ _ => (ev_tup (ea_cons (ev_ix (ev_var 6) ev_int) (ea_cons (ev_ix (ev_var 6) ev_int) ea_nil))))))))
 eb_nil)
 (eb_one (es_ret (ev_cT cr_tup3 lc_tup3 T.m_tuple (ea_cons (ev_call (ok_law_once T) (hr.mono (by decide)) T.d_law_once.g T.d_law_once.fn.kp T.d_law_once.b (ea_cons (ev_call (ok_law_mixed T) (hr.mono (by decide)) T.d_law_mixed.g T.d_law_mixed.fn.kp T.d_law_mixed.b (ea_cons (ev_var 0) (ea_cons (ev_var 5) ea_nil))) (ea_cons ev_int ea_nil))) ea_nil))))))))))) pu_law_pairs nx_law_pairs

theorem ok_law_box (T : Tx K mg base) : FnOk P w K mg base CX0 1 T.f_law_box T.fd_law_box ["script", "k"] (dn K sp_law_box) :=
  fn_ok T.d_law_box.fn sc_law_box ln_law_box (fun cdv A outer s H E hr => 
 (eb_cons (es_set 2 sc_law_box.nd (ev_bin op_addF lf_addF (ev_bin op_mul3 lf_mul3 ev_int (ev_var 1)) ev_int))
 (eb_cons (es_if (et_cmp (op_ltU hr.units0) lf_lt (ev_var 1) (ev_cB cr_len lc_len T.m_len (ea_cons (ev_var 0) ea_nil)))
 (eb_one (es_set 2 sc_law_box.nd (ev_cB call_abs lc_abs T.m_abs (ea_cons (ev_cT call_int1 lc_int T.m_int (ea_cons (ev_ix (ev_var 0) (ev_var 1)) ea_nil)) ea_nil))))
 (eb_one (es_if (et_cmp (op_gtU hr.units0) lf_gt2 (ev_cB cr_len lc_len T.m_len (ea_cons (ev_var 0) ea_nil)) ev_int)
 (eb_one (es_set 2 sc_law_box.nd (ev_bin op_addF lf_addF (ev_var 2) (ev_bin op_mul3 lf_mul3 (ev_bin op_mod lf_mod (ev_cT call_int1 lc_int T.m_int (ea_cons (ev_cB call_abs lc_abs T.m_abs (ea_cons (ev_cT call_int1 lc_int T.m_int (ea_cons (ev_ix (ev_var 0) (ev_bin op_mod lf_mod (ev_cT call_int1 lc_int T.m_int (ea_cons (ev_var 1) ea_nil)) (ev_cB cr_len lc_len T.m_len (ea_cons (ev_var 0) ea_nil)))) ea_nil)) ea_nil)) ea_nil)) ev_int) ev_int))))
 eb_nil)))
 (eb_cons (es_set 3 sc_law_box.nd (ev_if (et_cmp op_ge lf_ge (ev_var 2) (ev_bin op_pow lf_pow ev_int ev_int)) (ev_var 2) ev_int))
 (eb_one (es_ret (ev_lst (ea_cons (ev_var 3) (ea_cons (ev_bin op_addF lf_addF (ev_bin op_mod lf_mod (ev_cT call_int1 lc_int T.m_int (ea_cons (ev_bin op_addF lf_addF (ev_bin op_mul3 lf_mul3 (ev_bin op_mod lf_mod (ev_cT call_int1 lc_int T.m_int (ea_cons (ev_var 2) ea_nil)) ev_int) ev_int) (ev_bin op_mul3 lf_mul3 ev_int (ev_var 1))) ea_nil)) ev_int) ev_int) ea_nil))))))))) pu_law_box nx_law_box

theorem ok_law_least_order (T : Tx K mg base) : FnOk P w K mg base CX0 1 T.f_law_least_order T.fd_law_least_order ["pairs"] (dn K sp_law_least_order) :=
  fn_ok T.d_law_least_order.fn sc_law_least_order ln_law_least_order (fun cdv A outer s H E hr => 
 (eb_cons (es_asg (ev_tup (ea_cons (ev_lst ea_nil) (ea_cons (ev_lst ea_nil) ea_nil))) (eg_tp rfl (egs_cons (eg_nm 3 sc_law_least_order.nd) (egs_cons (eg_nm 4 sc_law_least_order.nd) egs_nil))))
 (eb_cons (es_for PassesOwn.never rfl (ei_seq (ev_var 0)) (eg_nm 1 sc_law_least_order.nd)
 (eb_one (es_set 3 sc_law_least_order.nd (ev_bin op_addT lf_addT (ev_var 3) (ev_lcF 7 rfl sc_law_least_order.nd (ei_seq (ev_var 1)) (blkOk_by (N := ["pairs", "pair", "turn", "left", "found", "barred", "free", "name"]) (sc := defScope s_law_least_order) (by decide +kernel)) (fun _ _ _ _ _ => pg_name (i := 7) sc_law_least_order.nd rfl (Or.inl rfl)) (fun _ _ _ _ _ => (ep_one (et_cmp (op_notIn3 (units65 hr)) lf_notIn3 (ev_var 7) (ev_var 3)))) (fun _ _ _ _ _ => (ev_var 7)))))))
 (eb_cons (es_for PassesOwn.never rfl (ei_rg1 T.m_range (ea_cons (ev_cB cr_len lc_len T.m_len (ea_cons (ev_var 3) ea_nil)) ea_nil)) (eg_nm 2 sc_law_least_order.nd)
 (eb_cons (es_set 5 sc_law_least_order.nd (ev_lcF 1 rfl sc_law_least_order.nd (ei_seq (ev_var 0)) (blkOk_by (N := ["pairs", "pair", "turn", "left", "found", "barred", "free", "name"]) (sc := defScope s_law_least_order) (by decide +kernel)) (fun _ _ _ _ _ => pg_name (i := 1) sc_law_least_order.nd rfl (Or.inl rfl)) (fun _ _ _ _ _ => (ep_one (et_cmp (op_in3 (units65 hr)) lf_in3 (ev_ix (ev_var 1) ev_int) (ev_var 3)))) (fun _ _ _ _ _ => (ev_ix (ev_var 1) ev_int))))
 (eb_cons (es_setLcF 6 7 rfl sc_law_least_order.nd (ei_lst (ev_var 3)) (blkOk_by (N := ["pairs", "pair", "turn", "left", "found", "barred", "free", "name"]) (sc := defScope s_law_least_order) (by decide +kernel)) (fun _ _ _ _ _ => pg_name (i := 7) sc_law_least_order.nd rfl (Or.inl rfl)) (fun _ _ _ _ _ => (ep_one (et_cmp (op_notIn3 (units65 hr)) lf_notIn3 (ev_var 7) (ev_var 5)))) (fun _ _ _ _ _ => (ev_var 7)) (sw_true rfl rfl rfl (by decide +kernel)))
 (eb_cons (es_if (et_cmp (op_eqU hr.units) lf_eq3 (ev_var 6) (ev_lstF ea_nil))
 (eb_one (es_ret ev_non))
 eb_nil)
 (eb_cons (es_expr (ev_mt PySem.F.plainAttrs_list PySem.F.slot_list_append PySem.F.type_list_append (.inl rfl) mt_append lm_app (ev_var 4) (ea_cons (ev_cB (cr_min rfl) lc_min1 T.m_min (ea_cons (ev_var 6) ea_nil)) ea_nil)))
 (eb_one (es_expr (ev_mt PySem.F.plainAttrs_list PySem.F.slot_list_remove PySem.F.type_list_remove (.inl rfl) (mt_remD (units65 hr)) lm_remD (ev_var 3) (ea_cons (ev_cB (cr_min rfl) lc_min1 T.m_min (ea_cons (ev_var 6) ea_nil)) ea_nil)))))))))
 (eb_one (es_ret (ev_cT cr_tup3 lc_tup3 T.m_tuple (ea_cons (ev_var 4) ea_nil)))))))) pu_law_least_order nx_law_least_order

theorem ok_law_is_ring (T : Tx K mg base) : FnOk P w K mg base CX0 2 T.f_law_is_ring T.fd_law_is_ring ["pairs", "ring"] (dn K sp_law_is_ring) :=
  fn_ok T.d_law_is_ring.fn sc_law_is_ring ln_law_is_ring (fun cdv A outer s H E hr => 
 (eb_cons (es_if (et_ew (ew_or (et_not (et_val (ev_cB call_isi2 lc_isi2 T.m_isinstance (ea_cons (ev_var 1) (ea_cons (ev_ty T.m_tuple) ea_nil))))) (ew_or1 (et_cmp (op_ltU hr.units0) lf_lt (ev_cB cr_len lc_len T.m_len (ea_cons (ev_var 1) ea_nil)) ev_int))))
 (eb_one (es_ret ev_bl))
 eb_nil)
 (eb_cons (es_setLcF 2 3 rfl sc_law_is_ring.nd (ei_seq (ev_var 1)) (blkOk_by (N := ["pairs", "ring", "names", "name", "at"]) (sc := defScope s_law_is_ring) (by decide +kernel)) (fun _ _ _ _ _ => pg_name (i := 3) sc_law_is_ring.nd rfl (Or.inl rfl)) (fun _ _ _ _ _ => (ep_one (et_ew (ew_and (et_val (ev_cB call_isi2 lc_isi2 T.m_isinstance (ea_cons (ev_var 3) (ea_cons (ev_ty T.m_int) ea_nil)))) (ew_and1 (et_not (et_val (ev_cB call_isi2 lc_isi2 T.m_isinstance (ea_cons (ev_var 3) (ea_cons (ev_ty T.m_bool) ea_nil)))))))))) (fun _ _ _ _ _ => (ev_var 3)) (sw_true rfl rfl rfl (by decide +kernel)))
 (eb_cons (es_if (et_ew (ew_or (et_cmp (op_neU hr.units) lf_ne3 (ev_cB cr_len lc_len T.m_len (ea_cons (ev_var 2) ea_nil)) (ev_cB cr_len lc_len T.m_len (ea_cons (ev_var 1) ea_nil))) (ew_or1 (et_cmp (op_neU hr.units) lf_ne3 (ev_cB cr_len lc_len T.m_len (ea_cons (ev_call (ok_law_once T) (hr.mono (by decide)) T.d_law_once.g T.d_law_once.fn.kp T.d_law_once.b (ea_cons (ev_var 2) (ea_cons (ev_cB cr_len lc_len T.m_len (ea_cons (ev_var 2) ea_nil)) ea_nil))) ea_nil)) (ev_cB cr_len lc_len T.m_len (ea_cons (ev_var 2) ea_nil))))))
 (eb_one (es_ret ev_bl))
 eb_nil)
 (eb_one (es_ret (ev_cmp (op_eqU hr.units) lf_eq3 (ev_lcF 4 rfl sc_law_is_ring.nd (ei_rg1 T.m_range (ea_cons (ev_cB cr_len lc_len T.m_len (ea_cons (ev_var 1) ea_nil)) ea_nil)) (blkOk_by (N := ["pairs", "ring", "names", "name", "at"]) (sc := defScope s_law_is_ring) (by decide +kernel)) (fun _ _ _ _ _ => pg_name (i := 4) sc_law_is_ring.nd rfl (Or.inl rfl)) (fun _ _ _ _ _ => (ep_one (et_cmp (op_notInTD (units65 hr)) lf_inTd (ev_tup (ea_cons (ev_ix (ev_var 1) (ev_bin op_sub lf_sub (ev_var 4) ev_int)) (ea_cons (ev_ix (ev_var 1) (ev_var 4)) ea_nil))) (ev_var 0)))) (fun _ _ _ _ _ => (ev_var 4))) (ev_lstF ea_nil)))))))) pu_law_is_ring nx_law_is_ring

theorem hg_law_refused (T : Tx K mg base) : ∀ (cdv : Value) (A : Around) (outer : List Env) (s : Shared) (H : Hp) (f d : Addr) (o : HQ) (th : Th), Room 1 (A.deeper (envOfC "_law_refused" (defScope s_law_refused) s.heap.objs.size T.f_law_refused cdv)) →
  (∀ (W : WX) (pn : List (Addr × Obj)) (xe : Value → Shared → Prop) (p1 p2 : Pos), L2N.Takes ((cxOf CX0 P w K mg base ["ask", "fault"] "_law_refused" (defScope s_law_refused) T.f_law_refused cdv A outer s H E0).tr pn xe) W → EV ((cxOf CX0 P w K mg base ["ask", "fault"] "_law_refused" (defScope s_law_refused) T.f_law_refused cdv A outer s H E0).tr pn xe) W (.Call (.Name "ask" p1) [] [] p2) (rAsk f d o th)) →
  EB (cxOf CX0 P w K mg base ["ask", "fault"] "_law_refused" (defScope s_law_refused) T.f_law_refused cdv A outer s H E0).nox W0 (defBody s_law_refused) (rd_law_refused f d o th) :=
  fun cdv A outer s H f d o th hr act => 
 (eb_cons (es_tryL rfl rfl sc_law_refused.nd tk00 (fun W pn xe tk' po =>
 (eb_one (es_expr (act _ _ _ _ _ tk')))) (.cons (m := (mL [("Refused", false)])) (o := none) (rs := (fun cn a dd => (rRet (rC .non)))) ⟨rfl, by decide, .inl T.g_BadDeed⟩ T.mo_BadDeed trivial (fun cn C a oe dd pn cc hz hf =>
 (eb_one (es_ret ev_non))) (.cons (m := (mL [("Refused", true)])) (o := (some 1)) (rs := (fun cn a dd => rGd (cn = "Refused") (rRet (rTup (rCons (rC (.str (Str.ofString "refused"))) (rCons (rBy "Refused" "value" cn a dd (rVar 1)) rNil)))))) ⟨rfl, by decide, .inl T.g_Refused⟩ T.mo_Refused ⟨rfl, rfl⟩ (fun cn C a oe dd pn cc hz hf => eb_gd fun hcn =>
 (eb_one (es_ret (ev_tup (ea_cons ev_str (ea_cons (ev_byV T.low_Refused T.cn_Refused cc hz.zc hf (ev_var 1)) ea_nil)))))) .nil)))
 (eb_one (es_ret ev_non)))

theorem ok_law_asked (T : Tx K mg base) : FnOk P w K mg base CX0 7 T.f_law_asked T.fd_law_asked ["pairs"] (dn K sp_law_asked) :=
  fn_okL T.fl_law_asked sc_law_asked ln_law_asked (fun A outer s H E hr => 
 (eb_cons (es_par (i := 1) (j := 2) rfl sc_law_asked.nd (by decide) (ea_cons (ev_call (ok_law_least_order T) (hr.mono (by decide)) T.d_law_least_order.g T.d_law_least_order.fn.kp T.d_law_least_order.b (ea_cons (ev_var 0) ea_nil)) (ea_cons (ev_call (ok_ring_in T) (hr.mono (by decide)) T.d_ring_in.g T.d_ring_in.fn.kp T.d_ring_in.b (ea_cons (ev_var 0) ea_nil)) ea_nil)))
 (eb_cons (es_if (et_cmp op_isntU lf_isnt (ev_var 1) ev_non)
 (eb_cons (es_if (et_ew (ew_or (et_cmp op_isntU lf_isnt (ev_var 2) ev_non) (ew_or1 (et_cmp op_isntU lf_isnt (ev_callK0 (ok_ring_in T) (hr.mono (by decide)) T.d_ring_in.g T.d_ring_in.fn.kp T.kb_ring_in_0_pairs (ek_cons (ev_var 0) ek_nil)) ev_non))))
 (eb_one (es_ret ev_bl))
 eb_nil)
 (eb_one (es_ret (ev_call (ok_law_like T 4) (hr.mono (by decide)) T.d_law_like.g T.d_law_like.fn.kp T.d_law_like.b (ea_cons (ev_tup (ea_cons (ev_callX (ok_hand_order T) (hr.mono (by decide)) tk00 T.d_hand_order.g T.d_hand_order.fn.kp T.d_hand_order.b (ea_cons (ev_var 0) ea_nil)) (ea_cons (ev_callXK0 (ok_hand_order T) (hr.mono (by decide)) tk00 T.d_hand_order.g T.d_hand_order.fn.kp T.kb_hand_order_0_pairs (ek_cons (ev_var 0) ek_nil)) ea_nil))) (ea_cons (ev_tup (ea_cons (ev_var 1) (ea_cons (ev_var 1) ea_nil))) ea_nil))))))
 eb_nil)
 (eb_cons (es_if (et_ew (ew_or (et_not (et_val (ev_call (ok_law_is_ring T) (hr.mono (by decide)) T.d_law_is_ring.g T.d_law_is_ring.fn.kp T.d_law_is_ring.b (ea_cons (ev_var 0) (ea_cons (ev_var 2) ea_nil))))) (ew_or1 (et_not (et_val (ev_call (ok_law_is_ring T) (hr.mono (by decide)) T.d_law_is_ring.g T.d_law_is_ring.fn.kp T.d_law_is_ring.b (ea_cons (ev_var 0) (ea_cons (ev_callK0 (ok_ring_in T) (hr.mono (by decide)) T.d_ring_in.g T.d_ring_in.fn.kp T.kb_ring_in_0_pairs (ek_cons (ev_var 0) ek_nil)) ea_nil))))))))
 (eb_one (es_ret ev_bl))
 eb_nil)
 (eb_one (es_ret (ev_call (ok_law_like T 4) (hr.mono (by decide)) T.d_law_like.g T.d_law_like.fn.kp T.d_law_like.b (ea_cons (ev_lamcall (y := "_law_asked") (k := 4) T.d_law_refused.g T.d_law_refused.fn.kp T.d_law_refused.fn T.d_law_refused.b sc_law_refused rfl (Or.inl rfl) (fun cdv A outer s H f d o th hr act => hg_law_refused T cdv A outer s H f d o th (hr.mono (by decide)) act) pu_law_refused T.tb_law_asked T.ti_law_asked rfl rfl (hr.mono (by decide)) (LamX.lamS_by (by show LamX.lamSB (defScope s_law_asked) _ = true; decide +kernel)) (fun A outer s H E f d hr => (ev_callX (ok_hand_order T) (hr.mono (by decide)) lamX_takes T.d_hand_order.g T.d_hand_order.fn.kp T.d_hand_order.b (ea_cons (ev_var 0) ea_nil)))) (ea_cons (ev_tup (ea_cons ev_str (ea_cons (ev_var 0) ea_nil))) ea_nil))))))))) pu_law_asked nx_law_asked

theorem ok_law (T : Tx K mg base) : FnOk P w K mg base CX0 8 T.f_law T.fd_law ["script"] (dn K sp_law) :=
  fn_ok T.d_law.fn sc_law ln_law (fun cdv A outer s H E hr => 
 (eb_cons (es_if (et_ew (ew_or (et_cmp op_isntU lf_isnt (ev_call (ok_ring_in T) (hr.mono (by decide)) T.d_ring_in.g T.d_ring_in.fn.kp T.d_ring_in.b (ea_cons (ev_tup ea_nil) ea_nil)) ev_non) (ew_or1 (et_not (et_val (ev_call (ok_law_like T 4) (hr.mono (by decide)) T.d_law_like.g T.d_law_like.fn.kp T.d_law_like.b (ea_cons (ev_callX (ok_hand_order T) (hr.mono (by decide)) tk00 T.d_hand_order.g T.d_hand_order.fn.kp T.d_hand_order.b (ea_cons (ev_tup ea_nil) ea_nil)) (ea_cons (ev_tup ea_nil) ea_nil))))))))
 (eb_one (es_ret ev_bl))
 eb_nil)
 (eb_cons (es_tryAs (m := (mL [("Refused", true)])) (i := 1) (rs := fun cn a dd => rGd (cn = "Refused") (rIfS (rOr (rTst (Y.rIsE [("Refused", "BadDeed", true, false), ("Refused", "Refused", true, true), ("Refused", "ValueError", false, true)] cn a dd (rCons (rVar 1) (rCons (rC (.cl "BadDeed")) rNil)))) (rOr (rNot (rTst (Y.rIsE [("Refused", "BadDeed", true, false), ("Refused", "Refused", true, true), ("Refused", "ValueError", false, true)] cn a dd (rCons (rVar 1) (rCons (rC (.cl "Refused")) rNil))))) (rNot (rTst (Y.rIsE [("Refused", "BadDeed", true, false), ("Refused", "Refused", true, true), ("Refused", "ValueError", false, true)] cn a dd (rCons (rVar 1) (rCons (rC (.ty "ValueError")) rNil)))))))
 (rRet (rC (.bl false)))
 rNext)) rfl rfl sc_law.nd rfl rfl ⟨rfl, by decide, .inl T.g_OwnError⟩ tk00 T.mo_OwnError (fun W pn xe tk' po =>
 (eb_cons (es_expr (ev_callX (ok_hand_order T) (hr.mono (by decide)) tk' T.d_hand_order.g T.d_hand_order.fn.kp T.d_hand_order.b (ea_cons (ev_tup (ea_cons (ev_tup (ea_cons ev_int (ea_cons ev_int ea_nil))) (ea_cons (ev_tup (ea_cons ev_int (ea_cons ev_int ea_nil))) ea_nil))) ea_nil)))
 (eb_one (es_ret ev_bl)))) (fun cn C a oe dd pn cc hz hf => eb_gd fun hcn =>
 (eb_one (es_if (et_ew (ew_or (et_val (ev_isE (x := "isinstance") T.tb cc (ed_of T.cn_Refused T.x_Refused hcn cc) hz.zc hf T.m_isinstance (ea_cons (ev_var 1) (ea_cons (ev_cl T.cn_BadDeed T.g_BadDeed) ea_nil)))) (ew_or (et_not (et_val (ev_isE (x := "isinstance") T.tb cc (ed_of T.cn_Refused T.x_Refused hcn cc) hz.zc hf T.m_isinstance (ea_cons (ev_var 1) (ea_cons (ev_cl T.cn_Refused T.g_Refused) ea_nil))))) (ew_or1 (et_not (et_val (ev_isE (x := "isinstance") T.tb cc (ed_of T.cn_Refused T.x_Refused hcn cc) hz.zc hf T.m_isinstance (ea_cons (ev_var 1) (ea_cons (ev_ty T.m_ValueError) ea_nil)))))))))
 (eb_one (es_ret ev_bl))
 eb_nil))))
 (eb_cons (es_for PassesOwn.never rfl (ei_rg1 T.m_range (ea_cons (ev_cB (call_max2 rfl) lc_max T.m_max (ea_cons ev_int (ea_cons (ev_cB (call_min2 rfl) lc_min T.m_min (ea_cons (ev_cB cr_len lc_len T.m_len (ea_cons (ev_var 0) ea_nil)) (ea_cons ev_int ea_nil))) ea_nil))) ea_nil)) (eg_nm 2 sc_law.nd)
 (eb_cons (es_set 3 sc_law.nd (ev_call (ok_law_pairs T) (hr.mono (by decide)) T.d_law_pairs.g T.d_law_pairs.fn.kp T.d_law_pairs.b (ea_cons (ev_call (ok_law_box T) (hr.mono (by decide)) T.d_law_box.g T.d_law_box.fn.kp T.d_law_box.b (ea_cons (ev_var 0) (ea_cons (ev_var 2) ea_nil))) ea_nil)))
 (eb_one (es_if (et_ew (ew_or (et_not (et_val (ev_call (ok_law_asked T) (hr.mono (by decide)) T.d_law_asked.g T.d_law_asked.fn.kp T.d_law_asked.b (ea_cons (ev_var 3) ea_nil)))) (ew_or (et_not (et_val (ev_call (ok_law_asked T) (hr.mono (by decide)) T.d_law_asked.g T.d_law_asked.fn.kp T.d_law_asked.b (ea_cons (ev_slF (ev_var 3) (eo_some ev_int) eo_none) ea_nil)))) (ew_or1 (et_not (et_val (ev_call (ok_law_asked T) (hr.mono (by decide)) T.d_law_asked.g T.d_law_asked.fn.kp T.d_law_asked.b (ea_cons (ev_var 3) ea_nil))))))))
 (eb_one (es_ret ev_bl))
 eb_nil))))
 (eb_one (es_ret ev_bl)))))) pu_law nx_law

end


theorem fl_mk {K : PySem.W.Frag} {x qual : Str} {st : Stmt} {f c : Addr} {fd : FuncData} (F : Fun K x qual st f fd) (e : fd.code = .ref c) : FunL K x qual st f fd c := by
  obtain ⟨oc, od, kV, doc, pm, an, cdv, ct, osl, rfl, lk, hcd⟩ := F.ex
  cases (show cdv = .ref c from e)
  exact ⟨oc, od, kV, doc, pm, an, ct, osl, rfl, lk, hcd⟩

theorem ti_mk {K : PySem.W.Frag} {x : Str} {st : Stmt} {f c P : Addr} {fd : FuncData} {e : Value} {dd : Option Addr} {vs : Array Value} {sl : Array (Option Value)} (q : FunL K x x st f fd c) (a : PySem.W.nsIn K mainGlobals x = some (some (.ref f))) (l : K.lookup c = some ⟨e, dd, .fields vs, sl⟩) (v : vs[11]? = some (.ref P)) (z : K.lookup P = none) : PySem.W.tabIn K x = some (c, P) ∧ K.lookup P = none := by
  refine ⟨?_, z⟩
  obtain ⟨oc, od, kV, doc, pm, an, ct, osl, rfl, lk, hcd⟩ := q
  unfold PySem.W.tabIn
  rw [a]; dsimp only; rw [lk]; dsimp only [PySem.W.fnOf]; rw [l]; dsimp only; rw [v]

theorem tm_mk {K : PySem.W.Frag} {h : Heap} {x : Str} {c P : Addr} {ts : List Addr} (t : PySem.W.tabIn K x = some (c, P) ∧ K.lookup P = none) (y : ∀ P ∈ ts, h.get? P = some (PySem.W.tabObj #[])) (m : P ∈ ts) : h.get? P = some { cls := .none, data := .fields #[] } := y P m

theorem cd_mk {K : PySem.W.Frag} {h : Heap} {x : Str} {c P : Addr} (X : K.In h) (t : PySem.W.tabIn K x = some (c, P) ∧ K.lookup P = none) (e : PySem.W.codeHdIn K c P = true) : PySem.W.CodeHd h c P := PySem.W.codeHd_of_K X e

end K25

open PySem PySem.W PyProof.Rows
set_option maxHeartbeats 0 in
theorem PySem.Challenge.cw_maypoint_k25_whole_rings_and_orders_holds : PySem.Challenge.rw_maypoint_k25_whole_rings_and_orders.Holds := by
  w_on; o_law; k_head; (case hw => w_witness2)
  k_fill
  refine LamX.walk_ofTs (l := PySem.Challenge.rw_maypoint_k25_whole_rings_and_orders) (n := 63) (k := 8) (x := "script") (CX := fun _ => L2.CX0) rfl (by decide) rfl ⟨rfl, by decide, by decide⟩ (fun w h Y => PySem.W.km_in_of Y) ?F (fun _ _ _ _ _ h => h)
  case F =>
    intro w mg fa h YY KX G hmg
    refine' (fun q_BadDeed => ?_) (K25.ck_mk (n := "BadDeed") KX G ?a)
    (case a => k_is)

    refine' (fun q_OwnError => ?_) (K25.ck_mk (n := "OwnError") KX G ?a)
    (case a => k_is)

    refine' (fun q_Refused => ?_) (K25.ck_mk (n := "Refused") KX G ?a)
    (case a => k_is)

    refine' (fun low_Refused => ?_) (K25.le_mk_LV (st := L2.inClass (K25.topS 3) 0) (qX := "Refused.__init__") q_Refused ?xL ?hb ?sa ?ga ?gg ?nb ?a1 ?t1 ?hA ?hB ?hS ?l1 ?c1 ?kC ?eC ?tC ?hC (Y.exm_of ?te1 ?te2 ?te3 ?te4))
    (case xL => k_is); (case hb => first | rfl | decide +kernel | k_is); (case sa => k_is); (case ga => k_is); (case gg => k_is); (case nb => k_is); (case a1 => k_is); (case t1 => k_is); (case hA => rfl); (case hB => rfl); (case hS => rfl); (case l1 => k_is); (case c1 => k_is); (case kC => k_is); (case eC => k_is); (case tC => k_is); (case hC => k_is); (case te1 => k_is); (case te2 => k_is); (case te3 => k_is); (case te4 => first | rfl | k_is)

    refine' (fun x_Refused => ?_) (K25.ed_mk q_Refused ?h1 ?h2 ?h3 ?h4 ?h5 ?h6 ?h7 ?h8 ?h9)
    (case h1 => k_is); (case h2 => k_is); (case h3 => k_is); (case h4 => k_is); (case h5 => k_is); (case h6 => k_is); (case h7 => k_is); (case h8 => k_is); (case h9 => k_is)

    refine' (fun mo_BadDeed => ?_) (K25.mo_mk q_BadDeed (Y.mok_cons (n := "Refused") (b := false) q_Refused.cn (Y.exm_of ?xa0 ?xb0 ?xc0 ?xd0) Y.mok_nil))
    (case xa0 => k_is); (case xb0 => k_is); (case xc0 => k_is); (case xd0 => first | rfl | k_is)

    refine' (fun mo_OwnError => ?_) (K25.mo_mk q_OwnError (Y.mok_cons (n := "Refused") (b := true) q_Refused.cn (Y.exm_of ?xa0 ?xb0 ?xc0 ?xd0) Y.mok_nil))
    (case xa0 => k_is); (case xb0 => k_is); (case xc0 => k_is); (case xd0 => first | rfl | k_is)

    refine' (fun mo_Refused => ?_) (K25.mo_mk q_Refused (Y.mok_cons (n := "Refused") (b := true) q_Refused.cn (Y.exm_of ?xa0 ?xb0 ?xc0 ?xd0) Y.mok_nil))
    (case xa0 => k_is); (case xb0 => k_is); (case xc0 => k_is); (case xd0 => first | rfl | k_is)

    refine' (fun tb => ?_) (Y.tb_own (cn := "Refused") (m := "BadDeed") (b := false) q_Refused.cn q_BadDeed.cn (Y.kit_of ?xa0 ?xb0 ?xc0 ?xd0) (Y.tb_own (cn := "Refused") (m := "Refused") (b := true) q_Refused.cn q_Refused.cn (Y.kit_of ?xa1 ?xb1 ?xc1 ?xd1) (Y.tb_ty (cn := "Refused") (m := "ValueError") (b := true) q_Refused.cn (Y.kitT_of (by decide +kernel) ?xa2) Y.tb_nil)))
    (case xa0 => k_is); (case xb0 => k_is); (case xc0 => first | rfl | k_is); (case xd0 => first | rfl | k_is); (case xa1 => k_is); (case xb1 => k_is); (case xc1 => first | rfl | k_is); (case xd1 => first | rfl | k_is); (case xa2 => k_is)

    refine' (fun d_leaders => ?_) (K25.df_mk (x := "leaders") (st := K25.s_leaders) (ps := ["pairs", "left", "name"]) KX G ?a ?l ?c ?k (fun _ _ _ _ _ _ us hl => match us, hl with | [_, _, _], _ => rfl))
    (case a => k_is); (case l => k_is); (case c => k_is); (case k => k_is)

    refine' (fun d_ordered => ?_) (K25.df_mk (x := "ordered") (st := K25.s_ordered) (ps := ["pairs"]) KX G ?a ?l ?c ?k (fun _ _ _ _ _ _ us hl => match us, hl with | [_], _ => rfl))
    (case a => k_is); (case l => k_is); (case c => k_is); (case k => k_is)

    refine' (fun d_ring_in => ?_) (K25.df_mk (x := "ring_in") (st := K25.s_ring_in) (ps := ["pairs"]) KX G ?a ?l ?c ?k (fun _ _ _ _ _ _ us hl => match us, hl with | [_], _ => rfl))
    (case a => k_is); (case l => k_is); (case c => k_is); (case k => k_is)

    refine' (fun d_law_like => ?_) (K25.df_mk (x := "_law_like") (st := K25.s_law_like) (ps := ["told", "due"]) KX G ?a ?l ?c ?k (fun _ _ _ _ _ _ us hl => match us, hl with | [_, _], _ => rfl))
    (case a => k_is); (case l => k_is); (case c => k_is); (case k => k_is)

    refine' (fun d_hand_order => ?_) (K25.df_mk (x := "hand_order") (st := K25.s_hand_order) (ps := ["pairs"]) KX G ?a ?l ?c ?k (fun _ _ _ _ _ _ us hl => match us, hl with | [_], _ => rfl))
    (case a => k_is); (case l => k_is); (case c => k_is); (case k => k_is)

    refine' (fun d_law_take => ?_) (K25.df_mk (x := "_law_take") (st := K25.s_law_take) (ps := ["box", "many"]) KX G ?a ?l ?c ?k (fun _ _ _ _ _ _ us hl => match us, hl with | [_, _], _ => rfl))
    (case a => k_is); (case l => k_is); (case c => k_is); (case k => k_is)

    refine' (fun d_law_mixed => ?_) (K25.df_mk (x := "_law_mixed") (st := K25.s_law_mixed) (ps := ["box", "row"]) KX G ?a ?l ?c ?k (fun _ _ _ _ _ _ us hl => match us, hl with | [_, _], _ => rfl))
    (case a => k_is); (case l => k_is); (case c => k_is); (case k => k_is)

    refine' (fun d_law_some => ?_) (K25.df_mk (x := "_law_some") (st := K25.s_law_some) (ps := ["box", "most", "many"]) KX G ?a ?l ?c ?k (fun _ _ _ _ _ _ us hl => match us, hl with | [_, _, _], _ => rfl))
    (case a => k_is); (case l => k_is); (case c => k_is); (case k => k_is)

    refine' (fun d_law_pick => ?_) (K25.df_mk (x := "_law_pick") (st := K25.s_law_pick) (ps := ["box", "some"]) KX G ?a ?l ?c ?k (fun _ _ _ _ _ _ us hl => match us, hl with | [_, _], _ => rfl))
    (case a => k_is); (case l => k_is); (case c => k_is); (case k => k_is)

    refine' (fun d_law_once => ?_) (K25.df_mk (x := "_law_once") (st := K25.s_law_once) (ps := ["row", "most"]) KX G ?a ?l ?c ?k (fun _ _ _ _ _ _ us hl => match us, hl with | [_, _], _ => rfl))
    (case a => k_is); (case l => k_is); (case c => k_is); (case k => k_is)

    refine' (fun d_law_pairs => ?_) (K25.df_mk (x := "_law_pairs") (st := K25.s_law_pairs) (ps := ["box"]) KX G ?a ?l ?c ?k (fun _ _ _ _ _ _ us hl => match us, hl with | [_], _ => rfl))
    (case a => k_is); (case l => k_is); (case c => k_is); (case k => k_is)

    refine' (fun d_law_box => ?_) (K25.df_mk (x := "_law_box") (st := K25.s_law_box) (ps := ["script", "k"]) KX G ?a ?l ?c ?k (fun _ _ _ _ _ _ us hl => match us, hl with | [_, _], _ => rfl))
    (case a => k_is); (case l => k_is); (case c => k_is); (case k => k_is)

    refine' (fun d_law_least_order => ?_) (K25.df_mk (x := "_law_least_order") (st := K25.s_law_least_order) (ps := ["pairs"]) KX G ?a ?l ?c ?k (fun _ _ _ _ _ _ us hl => match us, hl with | [_], _ => rfl))
    (case a => k_is); (case l => k_is); (case c => k_is); (case k => k_is)

    refine' (fun d_law_is_ring => ?_) (K25.df_mk (x := "_law_is_ring") (st := K25.s_law_is_ring) (ps := ["pairs", "ring"]) KX G ?a ?l ?c ?k (fun _ _ _ _ _ _ us hl => match us, hl with | [_, _], _ => rfl))
    (case a => k_is); (case l => k_is); (case c => k_is); (case k => k_is)

    refine' (fun d_law_refused => ?_) (K25.df_mk (x := "_law_refused") (st := K25.s_law_refused) (ps := ["ask"]) KX G ?a ?l ?c ?k (fun _ _ _ _ _ _ us hl => match us, hl with | [_], _ => rfl))
    (case a => k_is); (case l => k_is); (case c => k_is); (case k => k_is)

    refine' (fun d_law_asked => ?_) (K25.df_mk (x := "_law_asked") (st := K25.s_law_asked) (ps := ["pairs"]) KX G ?a ?l ?c ?k (fun _ _ _ _ _ _ us hl => match us, hl with | [_], _ => rfl))
    (case a => k_is); (case l => k_is); (case c => k_is); (case k => k_is)

    refine' (fun d_law => ?_) (K25.df_mk (x := "law") (st := K25.s_law) (ps := ["script"]) KX G ?a ?l ?c ?k (fun _ _ _ _ _ _ us hl => match us, hl with | [_], _ => rfl))
    (case a => k_is); (case l => k_is); (case c => k_is); (case k => k_is)

    refine' (fun fl_law_asked => ?_) (K25.fl_mk d_law_asked.fn ?e)
    (case e => exact rfl)

    refine' (fun ti_law_asked => ?_) (K25.ti_mk fl_law_asked ?a ?l ?v ?z)
    (case a => k_is); (case l => k_is); (case v => first | rfl | k_is); (case z => first | k_is | kernel_rfl)

    refine' (fun m_ValueError => ?_) (PySem.W.mg_none_of KX G (n := "ValueError") ?z)
    (case z => k_is)

    refine' (fun m_abs => ?_) (PySem.W.mg_none_of KX G (n := "abs") ?z)
    (case z => k_is)

    refine' (fun m_bool => ?_) (PySem.W.mg_none_of KX G (n := "bool") ?z)
    (case z => k_is)

    refine' (fun m_int => ?_) (PySem.W.mg_none_of KX G (n := "int") ?z)
    (case z => k_is)

    refine' (fun m_isinstance => ?_) (PySem.W.mg_none_of KX G (n := "isinstance") ?z)
    (case z => k_is)

    refine' (fun m_len => ?_) (PySem.W.mg_none_of KX G (n := "len") ?z)
    (case z => k_is)

    refine' (fun m_list => ?_) (PySem.W.mg_none_of KX G (n := "list") ?z)
    (case z => k_is)

    refine' (fun m_max => ?_) (PySem.W.mg_none_of KX G (n := "max") ?z)
    (case z => k_is)

    refine' (fun m_min => ?_) (PySem.W.mg_none_of KX G (n := "min") ?z)
    (case z => k_is)

    refine' (fun m_range => ?_) (PySem.W.mg_none_of KX G (n := "range") ?z)
    (case z => k_is)

    refine' (fun m_reversed => ?_) (PySem.W.mg_none_of KX G (n := "reversed") ?z)
    (case z => k_is)

    refine' (fun m_sorted => ?_) (PySem.W.mg_none_of KX G (n := "sorted") ?z)
    (case z => k_is)

    refine' (fun m_str => ?_) (PySem.W.mg_none_of KX G (n := "str") ?z)
    (case z => k_is)

    refine' (fun m_tuple => ?_) (PySem.W.mg_none_of KX G (n := "tuple") ?z)
    (case z => k_is)

    have kb_hand_order_0_pairs := Y.kb_mk (ps := ["pairs"]) (ks := ["pairs"]) (n := 0) (m := 1) (π := [0]) d_hand_order.fn (by simp) (fun _ _ _ _ _ _ us ws h1 h2 => match us, ws, h1, h2 with | [], [_], _, _ => by first | rfl | with_unfolding_all rfl)

    have kb_ring_in_0_pairs := Y.kb_mk (ps := ["pairs"]) (ks := ["pairs"]) (n := 0) (m := 1) (π := [0]) d_ring_in.fn (by simp) (fun _ _ _ _ _ _ us ws h1 h2 => match us, ws, h1, h2 with | [], [_], _, _ => by first | rfl | with_unfolding_all rfl)

    refine' (fun cd_law_asked => ?_) (K25.cd_mk KX ti_law_asked ?e)
    (case e => kernel_rfl)

    refine' (fun tm_law_asked => ?_) (K25.tm_mk ti_law_asked (PySem.W.km_tabs_of YY) ?m)
    (case m => first | decide | simp)

    have e := hmg.symm.trans d_law.g
    cases e

    refine ⟨_, [(_, _)], _, by intro p hp; simp only [List.mem_cons, List.not_mem_nil, or_false] at hp; subst hp; exact tm_law_asked, by intro p hp; simp only [List.mem_cons, List.not_mem_nil, or_false] at hp; subst hp; exact ti_law_asked.2, by intro p hp; simp only [List.mem_cons, List.not_mem_nil, or_false] at hp; subst hp; exact cd_law_asked, ?b, ?hs, fun base _ _ TB => Y.fn_fz (K25.ok_law (⟨_, q_BadDeed.g, q_BadDeed.cn, _, q_OwnError.g, q_OwnError.cn, _, q_Refused.g, q_Refused.cn, _, low_Refused, x_Refused, mo_BadDeed, mo_OwnError, mo_Refused, tb, _, _, d_leaders, _, _, d_ordered, _, _, d_ring_in, _, _, d_law_like, _, _, d_hand_order, _, _, d_law_take, _, _, d_law_mixed, _, _, d_law_some, _, _, d_law_pick, _, _, d_law_once, _, _, d_law_pairs, _, _, d_law_box, _, _, d_law_least_order, _, _, d_law_is_ring, _, _, d_law_refused, _, _, d_law_asked, _, _, fl_law_asked, ti_law_asked.1, TB (_, _) (by first | exact List.mem_cons_self | exact List.mem_cons_of_mem _ List.mem_cons_self | exact List.mem_cons_of_mem _ (List.mem_cons_of_mem _ List.mem_cons_self) | exact List.mem_cons_of_mem _ (List.mem_cons_of_mem _ (List.mem_cons_of_mem _ List.mem_cons_self))), _, _, d_law, m_ValueError, m_abs, m_bool, m_int, m_isinstance, m_len, m_list, m_max, m_min, m_range, m_reversed, m_sorted, m_str, m_tuple, kb_hand_order_0_pairs, kb_ring_in_0_pairs⟩ : K25.Tx _ mg base))⟩
    · exact fun s v => .of_eq rfl
    · exact fun H a ns hl hb hT hS => Y.law_inT (L := [(_, "_law_asked")]) K25.law_ok hl (fun p hp => by simp only [List.mem_cons, List.not_mem_nil, or_false] at hp; subst hp <;> exact hT (_, _) (by first | exact List.mem_cons_self | exact List.mem_cons_of_mem _ List.mem_cons_self | exact List.mem_cons_of_mem _ (List.mem_cons_of_mem _ List.mem_cons_self) | exact List.mem_cons_of_mem _ (List.mem_cons_of_mem _ (List.mem_cons_of_mem _ List.mem_cons_self)))) (by intro p hp; simp only [List.mem_cons, List.not_mem_nil, or_false] at hp; subst hp; exact ⟨_, ti_law_asked.1⟩) hS (fun _ => rfl)
