import PyProof.Rows.All
import Wide.All
import OpenK.AllK
import Wide.FinOn
import PySem.Challenge.RW_maypoint_k01_numbers_and_what_is_none
import HandS.ForExc
import HandS.ForMost
import HandS.Wide
import HandS.TupAny
import HandS.IsInst
import HandS.Zip
import HandS.Walk
import HandS.Flow
import HandS.Lambda
import HandS.ExcCtx
import KE.KNest
import HandS.TupLe
import HandS.IntHex
import HandS.Style
import HandS.Deep
import HandS.More
import HandS.Base
import HandS.Call
import HandS.SortInts
import HandS.StrMore
import PyProof.Rows.SortShellAny
import PyProof.Rows.StrPadFill
import PyProof.Rows.StrPadWhole
import PyProof.StrOps2
import PyProof.EnumFor
import PyProof.EnumMake
import PyProof.Draws
import PyProof.WalksMore
import KE.DataFind
import HandS.TupSets
import PyProof.SetRoads
import HandS.ExcIs
import KE.KExcIs
import HandS.HotCalls
import HandS.Rev
import KE.SortData
import HandS.WordsDict
import HandS.DictComp
import HandS.MakeKwOnly
import HandS.SortRule
import HandS.EndTab
import KE.KNestM
set_option Elab.async false
set_option linter.all false
set_option maxRecDepth 100000
/- words -/
set_option hygiene false
local macro_rules
  | `(tactic| array_get_dec) => `(tactic| ((try dsimp only); (repeat (first | simp  only [rVar, rC, rBin, rUn, rTst, rChn, rTru, rAnd, rOr, rNot, rAndV, rOrV, rNotV, rIf, rNil, rCons, rTup, rLst, rFn, rCall, rCallK, rSl, rPrt, rNoP, rMt, gNm, q_gN, q_gC, q_gTp, gSb, rNext, rDrop, rRet, rRetN, rBrk, rCnt, rIfS, rSet, rPar, rFor, iSeq, iLst, iRg1, iRg2, iZp, iEn, iStrD, rLc, rYes, q_isi2, q_i2N, q_i2B, q_i2I, q_i2S, q_i2T, q_i2L, q_j2N, q_j2B, q_j2I, q_j2S, q_j2T, q_j2L, q_gt2, q_gtT, q_en, q_int2, q_strD, q_rev, q_ixo, q_ext2, q_extT, q_in, q_ins, q_pop, q_any, En.x, wipeD, start', List.getElem?_cons_zero, List.getElem?_cons_succ, List.set_cons_zero, List.set_cons_succ, List.map_cons, List.map_nil, List.length_cons, List.length_nil, List.cons_append, List.nil_append, List.replicate_succ, List.replicate_zero, id, q_asB, q_asI, q_add, q_addS, q_addT, q_addL, q_int, q_sub, q_mul, q_fdiv, q_mod, q_pow, q_neg, q_le, q_ge, q_gt, q_lt, q_ltT, q_isN, q_isB, q_isBi, q_isBs, q_isBn, q_isBt, q_isnt, n_non, n_bl, n_int, n_str, n_tup, n_ref, q_eq, q_eqS, q_eqB, q_ixT, q_ixK, q_ixL, q_ixS, q_slT, q_slL, q_slS, q_set, q_lenT, q_lenK, q_lenS, q_lenL, q_abs, q_intF, q_max, q_min, q_tupT, q_tupL, q_lstT, q_lstL, q_app, q_ext, q_joinL, q_stw, q_seq, q_lst, q_rng, q_rng2, q_zpT, q_zpL, q_truN, q_truB, q_truI, q_truT, q_truL, t_non, t_bl, t_int, t_str, t_tup, q_isiN, q_isiB, q_isiI, q_isiS, q_isiT, i_NoneType_int, i_NoneType_bool, i_NoneType_tuple, i_NoneType_list, i_NoneType_str, i_bool_int, i_bool_bool, i_bool_tuple, i_bool_list, i_bool_str, i_int_int, i_int_bool, i_int_tuple, i_int_list, i_int_str, i_str_int, i_str_bool, i_str_tuple, i_str_list, i_str_str, i_tuple_int, i_tuple_bool, i_tuple_tuple, i_tuple_list, i_tuple_str, i_list_int, i_list_bool, i_list_tuple, i_list_list, i_list_str, i_dict_int, i_dict_bool, i_dict_tuple, i_dict_list, i_dict_str, up_same, g_02, g_02', g_01, g_11, at_0, at_1, ix_0, ix_1, Option.some.injEq, HQ.lst.injEq, exists_eq_left', exists_eq_left, exists_and_left, exists_eq', exists_eq, decide_eq_true_eq, if_true, if_false, ite_true, ite_false, Bool.false_eq_true, reduceIte, reduceCtorEq, Bool.not_true, Bool.not_false, Nat.zero_add, Nat.reduceAdd, Nat.reduceSub, Nat.reduceLeDiff, Nat.reduceLT, Int.reduceLT, Int.reduceLE, Int.reduceEq, Int.reduceNe, Nat.reduceEqDiff, Int.reduceToNat, Int.reducePow, Int.reduceMul, Int.reduceAdd, Int.reduceSub, Int.reduceNeg, and_true, true_and, decide_true, decide_false, rFld, rSetF, rMet, rMetX, rMake, rBy, Y.rIsE, rCallX, rRaise, rTryAs, rTryOnly, rGd, q_fld, q_sfld, q_met, q_isntB, iEnX, iEn4, e4_t, e4_s, e4_k, e4_r, v_t, v_s, q_lset, q_remD, rNv, a_i, a_s, a_t, a_r, a_k, m_T, m_F, v_r, v_k, lg_r, lg_k, t_t, t_r, t_k, l_t, l_r, l_k, s_t, s_s, s_r, s_k, o_1, j_1, y_1, y_2, y_3, z_tt, z_r, z_k, e_1, k_ii, k_ss, k_bb, k_nn, k_tt, k_r, k_k, n_t, n_r, n_k, u_ii, u_si, lj_1, rLstF, rLcF, rFz, rSlM, iZp3, iEn3, eqvAll_nil, pds_emp, iAny, sq_k, sq_r, ls_t, or_false, false_or, fz_r, fz_k, fz_t, fz_n, fz_b, fz_s, q_lstK, q_truK, t_kl, q_isiK, iRevY, rv_r, rv_k, rv_t, rAug, q_i2K, q_j2K, q_srtB, at_2, at_3, q_strF, rPar3, g_03a, g_03b, g_03c, g_03d, g_03e, g_03f, rLam, rAsk, rCallXK, q_ext3, q_ext3T, q_ext3K, rDc, rDNew, gDk, rLock, rLockE, iKys, iVls, iIts, k_inS, k_inI, k_getS, k_getI, k_setS, k_setI, rMetK, rMakeK, q_srtTx, k_srt, k_len, k_keys, k_vals, k_items] | dsimp only | refine hKN _ _ (rSeq_gen fun KN hKN => ?_) | refine rSeq_gen fun KN hKN => ?_ | refine hKN _ _ ?_))))
local macro_rules
  | `(tactic| sizeOf_list_dec) => `(tactic| (repeat (first | simp  only [rVar, rC, rBin, rUn, rTst, rChn, rTru, rAnd, rOr, rNot, rAndV, rOrV, rNotV, rIf, rNil, rCons, rTup, rLst, rFn, rCall, rCallK, rSl, rPrt, rNoP, rMt, gNm, q_gN, q_gC, q_gTp, gSb, rNext, rDrop, rRet, rRetN, rBrk, rCnt, rIfS, rSet, rPar, rFor, iSeq, iLst, iRg1, iRg2, iZp, iEn, iStrD, rLc, rYes, q_isi2, q_i2N, q_i2B, q_i2I, q_i2S, q_i2T, q_i2L, q_j2N, q_j2B, q_j2I, q_j2S, q_j2T, q_j2L, q_gt2, q_gtT, q_en, q_int2, q_strD, q_rev, q_ixo, q_ext2, q_extT, q_in, q_ins, q_pop, q_any, En.x, wipeD, start', List.getElem?_cons_zero, List.getElem?_cons_succ, List.set_cons_zero, List.set_cons_succ, List.map_cons, List.map_nil, List.length_cons, List.length_nil, List.cons_append, List.nil_append, List.replicate_succ, List.replicate_zero, id, q_asB, q_asI, q_add, q_addS, q_addT, q_addL, q_int, q_sub, q_mul, q_fdiv, q_mod, q_pow, q_neg, q_le, q_ge, q_gt, q_lt, q_ltT, q_isN, q_isB, q_isBi, q_isBs, q_isBn, q_isBt, q_isnt, n_non, n_bl, n_int, n_str, n_tup, n_ref, q_eq, q_eqS, q_eqB, q_ixT, q_ixK, q_ixL, q_ixS, q_slT, q_slL, q_slS, q_set, q_lenT, q_lenK, q_lenS, q_lenL, q_abs, q_intF, q_max, q_min, q_tupT, q_tupL, q_lstT, q_lstL, q_app, q_ext, q_joinL, q_stw, q_seq, q_lst, q_rng, q_rng2, q_zpT, q_zpL, q_truN, q_truB, q_truI, q_truT, q_truL, t_non, t_bl, t_int, t_str, t_tup, q_isiN, q_isiB, q_isiI, q_isiS, q_isiT, i_NoneType_int, i_NoneType_bool, i_NoneType_tuple, i_NoneType_list, i_NoneType_str, i_bool_int, i_bool_bool, i_bool_tuple, i_bool_list, i_bool_str, i_int_int, i_int_bool, i_int_tuple, i_int_list, i_int_str, i_str_int, i_str_bool, i_str_tuple, i_str_list, i_str_str, i_tuple_int, i_tuple_bool, i_tuple_tuple, i_tuple_list, i_tuple_str, i_list_int, i_list_bool, i_list_tuple, i_list_list, i_list_str, i_dict_int, i_dict_bool, i_dict_tuple, i_dict_list, i_dict_str, up_same, g_02, g_02', g_01, g_11, at_0, at_1, ix_0, ix_1, Option.some.injEq, HQ.lst.injEq, exists_eq_left', exists_eq_left, exists_and_left, exists_eq', exists_eq, decide_eq_true_eq, if_true, if_false, ite_true, ite_false, Bool.false_eq_true, reduceIte, reduceCtorEq, Bool.not_true, Bool.not_false, Nat.zero_add, Nat.reduceAdd, Nat.reduceSub, Nat.reduceLeDiff, Nat.reduceLT, Int.reduceLT, Int.reduceLE, Int.reduceEq, Int.reduceNe, Nat.reduceEqDiff, Int.reduceToNat, Int.reducePow, Int.reduceMul, Int.reduceAdd, Int.reduceSub, Int.reduceNeg, and_true, true_and, decide_true, decide_false, rFld, rSetF, rMet, rMetX, rMake, rBy, Y.rIsE, rCallX, rRaise, rTryAs, rTryOnly, rGd, q_fld, q_sfld, q_met, q_isntB, iEnX, iEn4, e4_t, e4_s, e4_k, e4_r, v_t, v_s, q_lset, q_remD, rNv, a_i, a_s, a_t, a_r, a_k, m_T, m_F, v_r, v_k, lg_r, lg_k, t_t, t_r, t_k, l_t, l_r, l_k, s_t, s_s, s_r, s_k, o_1, j_1, y_1, y_2, y_3, z_tt, z_r, z_k, e_1, k_ii, k_ss, k_bb, k_nn, k_tt, k_r, k_k, n_t, n_r, n_k, u_ii, u_si, lj_1, rLstF, rLcF, rFz, rSlM, iZp3, iEn3, eqvAll_nil, pds_emp, iAny, sq_k, sq_r, ls_t, or_false, false_or, fz_r, fz_k, fz_t, fz_n, fz_b, fz_s, q_lstK, q_truK, t_kl, q_isiK, iRevY, rv_r, rv_k, rv_t, rAug, q_i2K, q_j2K, q_srtB, at_2, at_3, q_strF, rPar3, g_03a, g_03b, g_03c, g_03d, g_03e, g_03f, rLam, rAsk, rCallXK, q_ext3, q_ext3T, q_ext3K, rDc, rDNew, gDk, rLock, rLockE, iKys, iVls, iIts, k_inS, k_inI, k_getS, k_getI, k_setS, k_setI, rMetK, rMakeK, q_srtTx, k_srt, k_len, k_keys, k_vals, k_items] | dsimp only)))
set_option hygiene true
/- end of words -/
namespace Y
open PySem PySem.Spec PyProof.Rows L2

/-! ### data: tuples are values here -/
inductive D where
  | non | bl (b : Bool) | int (i : Int) | str (s : Str) | tup (xs : List D) | ref (a : Addr) | ty (n : String) | kl (xs : List D) | cl (n : String)
/-- what may be written, and the script -/
inductive HQ where
  | lst (xs : List D) | ins (n : String) (fs : List (Str × D)) | dk (kvs : List (Key × D)) | dt (kvs : List (List Key × D)) | fk (o : Obj) (ys : List (Key × V)) (kvs : List (Key × D)) | ft (o : Obj) (ys : List (List Key × V)) (kvs : List (List Key × D)) | exd (fs : List (Str × D)) | tb (q : Str) | co (q : Str) (vs : List (Option V)) (ds : List (Option D))
abbrev Hq := Addr → Option HQ
def up (S : Hq) (a : Addr) (o : HQ) : Hq := fun b => if b = a then some o else S b
theorem up_same {S : Hq} {a : Addr} {o : HQ} : up S a o a = some o := if_pos rfl
theorem up_ne {S : Hq} {a b : Addr} {o : HQ} (h : b ≠ a) : up S a o b = S b := if_neg h

/-- a list that nobody can write: the script -/
def SqF (K : PySem.W.Frag) (H : Hp) (a : Addr) (xs : List V) : Prop :=
  (∃ o, H a = some (.frz o (.lst xs))) ∨
    ∃ (o : Obj) (its : Array Value) (n : Nat), K.lookup a = some o ∧ o.cls = .type "list" ∧ o.dict = none ∧ o.data = .seq its n ∧ its.size ≤ sizeLine ∧ Vals xs its.toList
theorem SqF.sql {K : PySem.W.Frag} {H : Hp} {a : Addr} {xs : List V} (h : SqF K H a xs) : SqL K H a xs := h.elim (fun h => .inl (.inr h)) .inr
/-- the class of this name stands at C -/
def CN (K : PySem.W.Frag) (n : String) (C : Addr) : Prop := PySem.W.nsIn K mainGlobals (Str.ofString n) = some (some (.ref C))
theorem CN.inj {K : PySem.W.Frag} {n : String} {C C' : Addr} (h : CN K n C) (h' : CN K n C') : C = C' := by unfold CN at h h'; rw [h] at h'; cases h'; rfl
mutual
inductive DV (K : PySem.W.Frag) (H : Hp) : D → V → Prop
  | non : DV K H .non .non
  | bl (b : Bool) : DV K H (.bl b) (.bl b)
  | int (i : Int) : DV K H (.int i) (.int i)
  | str (s : Str) : DV K H (.str s) (.str s)
  | ref (a : Addr) : DV K H (.ref a) (.ref a)
  | ty (n : String) : DV K H (.ty n) (.ty n)
  | tup {a : Addr} {xs : List V} {ds : List D} : SqT K H a xs → DVs K H ds xs → DV K H (.tup ds) (.ref a)
  | kl {a : Addr} {xs : List V} {ds : List D} : SqF K H a xs → DVs K H ds xs → DV K H (.kl ds) (.ref a)
  | cl {n : String} {C : Addr} : CN K n C → DV K H (.cl n) (.ref C)
inductive DVs (K : PySem.W.Frag) (H : Hp) : List D → List V → Prop
  | nil : DVs K H [] []
  | cons {d : D} {v : V} {ds : List D} {vs : List V} : DV K H d v → DVs K H ds vs → DVs K H (d :: ds) (v :: vs)
end
inductive Fls (K : PySem.W.Frag) (H : Hp) : List (Str × D) → List (Str × V) → Prop
  | nil : Fls K H [] []
  | cons {f : Str} {d : D} {v : V} {ds : List (Str × D)} {vs : List (Str × V)} : DV K H d v → Fls K H ds vs → Fls K H ((f, d) :: ds) ((f, v) :: vs)
inductive Dc {κ : Type} (K : PySem.W.Frag) (H : Hp) : List (κ × D) → List (κ × V) → Prop
  | nil : Dc K H [] []
  | cons {k : κ} {d : D} {v : V} {ds : List (κ × D)} {vs : List (κ × V)} : DV K H d v → Dc K H ds vs → Dc K H ((k, d) :: ds) ((k, v) :: vs)

abbrev Sg := List (Option D)
structure RS (K : PySem.W.Frag) (H : Hp) (σ' : Sg) (σ : L2.St) : Prop where
  len : σ'.length = σ.length
  get : ∀ (i : Nat) d, σ'[i]? = some (some d) → ∃ v, σ[i]? = some (some v) ∧ DV K H d v
/-- the name of a lambda that the def x makes -/
def lamN (x : Str) : Str := (x ++ ".<locals>.") ++ "<lambda>"
/-- the codes that the table at a tells bear the name q, and are not tracked -/
def TbS (S : Hq) (H : Hp) (a : Addr) (q : Str) : Prop := ∃ ps : Array Value, H a = some (.tbl ps) ∧ PySem.TriplesOk ps.toList ∧ ∀ (pos : Pos) (cv : Value), PySem.codeAmong pos ps.toList = some cv → ∃ c, cv = .ref c ∧ H c = some (LamX.CodeO c q) ∧ S c = none
def RO (K : PySem.W.Frag) (S : Hq) (H : Hp) (a : Addr) : HQ → Prop
  | .lst ds => ∃ xs, H a = some (.lst xs) ∧ DVs K H ds xs
  | .ins n fs => ∃ C dx ys, CN K n C ∧ H a = some (.ins C dx ys) ∧ Fls K H fs ys
  | .dk kvs => ∃ ys, H a = some (.dK ys) ∧ Dc K H kvs ys
  | .dt kvs => ∃ ys, H a = some (.dT ys) ∧ Dc K H kvs ys
  | .fk o ys kvs => H a = some (.frz o (.dK ys)) ∧ Dc K H kvs ys
  | .ft o ys kvs => H a = some (.frz o (.dT ys)) ∧ Dc K H kvs ys
  | .exd fs => ∃ ys, H a = some (.xd ys) ∧ Fls K H fs ys
  | .tb x => (∃ c, PySem.W.tabIn K x = some (c, a)) ∧ TbS S H a (lamN x)
  | .co q vs ds => H a = some (LamX.CodeO a q) ∧ RS K H ds vs
def RH (K : PySem.W.Frag) (S : Hq) (H : Hp) : Prop := ∀ a o, S a = some o → RO K S H a o
/-- what is tracked below and not here stands as it stood -/
def Fr (S : Hq) (H : Hp) (S' : Hq) (H' : Hp) : Prop := ∀ a o, H a = some o → S a = none → H' a = some o ∧ S' a = none
theorem Fr.refl {S : Hq} {H : Hp} : Fr S H S H := fun _ _ e n => ⟨e, n⟩
theorem Fr.trans {S S1 S2 : Hq} {H H1 H2 : Hp} (x : Fr S H S1 H1) (y : Fr S1 H1 S2 H2) : Fr S H S2 H2 := fun a o e n => y a o (x a o e n).1 (x a o e n).2
structure Tle (K : PySem.W.Frag) (H H' : Hp) : Prop where
  t : ∀ a xs, SqT K H a xs → SqT K H' a xs
  f : ∀ a xs, SqF K H a xs → SqF K H' a xs
section
variable {K : PySem.W.Frag} {S S' : Hq} {H H' : Hp} {a : Addr}
theorem Fr.tle (r : RH K S H) (f : Fr S H S' H') : Tle K H H' := by
  have un : ∀ {a : Addr} {o : HO}, H a = some o → (∀ xs, o ≠ .lst xs) → (∀ C d fs, o ≠ .ins C d fs) → (∀ k, o ≠ .dK k) → (∀ k, o ≠ .dT k) → (∀ k, o ≠ .xd k) → (∀ b k, o ≠ .frz b (.dK k)) → (∀ b k, o ≠ .frz b (.dT k)) → (∀ k, o ≠ .tbl k) → (∀ b q, o ≠ LamX.CodeO b q) → S a = none := fun {a o} h n1 n2 n3 n4 n5 n6 n7 n8 n9 => by
    cases e : S a with
    | none => rfl
    | some u =>
      have q := r a u e
      cases u with
      | lst ds => obtain ⟨xs, q, _⟩ := q; rw [h] at q; exact absurd (Option.some.inj q) (n1 _)
      | ins C fs => obtain ⟨_, dx, ys, _, q, _⟩ := q; rw [h] at q; exact absurd (Option.some.inj q) (n2 _ _ _)
      | dk kvs => obtain ⟨ys, q, _⟩ := q; rw [h] at q; exact absurd (Option.some.inj q) (n3 _)
      | dt kvs => obtain ⟨ys, q, _⟩ := q; rw [h] at q; exact absurd (Option.some.inj q) (n4 _)
      | fk b ys kvs => have q := q.1; rw [h] at q; exact absurd (Option.some.inj q) (n6 _ _)
      | ft b ys kvs => have q := q.1; rw [h] at q; exact absurd (Option.some.inj q) (n7 _ _)
      | exd fs => obtain ⟨ys, q, _⟩ := q; rw [h] at q; exact absurd (Option.some.inj q) (n5 _)
      | tb z => obtain ⟨_, ps, q, _⟩ := q; rw [h] at q; exact absurd (Option.some.inj q) (n8 _)
      | co z vs ds => have q := q.1; rw [h] at q; exact absurd (Option.some.inj q) (n9 _ _)
  refine ⟨fun a xs h => ?_, fun a xs h => ?_⟩
  · rcases h with (h | ⟨o, h⟩) | h
    · exact .inl (.inl (f a _ h (un h (fun _ z => by cases z) (fun _ _ _ z => by cases z) (fun _ z => by cases z) (fun _ z => by cases z) (fun _ z => by cases z) (fun _ _ z => by cases z) (fun _ _ z => by cases z) (fun _ z => by cases z) (fun _ _ z => by cases z))).1)
    · exact .inl (.inr ⟨o, (f a _ h (un h (fun _ z => by cases z) (fun _ _ _ z => by cases z) (fun _ z => by cases z) (fun _ z => by cases z) (fun _ z => by cases z) (fun _ _ z => by cases z) (fun _ _ z => by cases z) (fun _ z => by cases z) (fun _ _ z => by cases z))).1⟩)
    · exact .inr h
  · rcases h with ⟨o, h⟩ | h
    · exact .inl ⟨o, (f a _ h (un h (fun _ z => by cases z) (fun _ _ _ z => by cases z) (fun _ z => by cases z) (fun _ z => by cases z) (fun _ z => by cases z) (fun _ _ z => by cases z) (fun _ _ z => by cases z) (fun _ z => by cases z) (fun _ _ z => by cases z))).1⟩
    · exact .inr h
mutual
theorem DV.mono (t : Tle K H H') : ∀ (d : D) (v : V), DV K H d v → DV K H' d v
  | .non, _, h => by cases h; exact .non
  | .bl _, _, h => by cases h; exact .bl _
  | .int _, _, h => by cases h; exact .int _
  | .str _, _, h => by cases h; exact .str _
  | .ref _, _, h => by cases h; exact .ref _
  | .ty _, _, h => by cases h; exact .ty _
  | .tup ds, _, h => by cases h with | tup s r => exact .tup (t.t _ _ s) (DVs.mono t ds _ r)
  | .kl ds, _, h => by cases h with | kl s r => exact .kl (t.f _ _ s) (DVs.mono t ds _ r)
  | .cl n, _, h => by cases h with | cl c => exact .cl c
theorem DVs.mono (t : Tle K H H') : ∀ (ds : List D) (vs : List V), DVs K H ds vs → DVs K H' ds vs
  | [], _, h => by cases h; exact .nil
  | d :: ds, _, h => by cases h with | cons x r => exact .cons (DV.mono t d _ x) (DVs.mono t ds _ r)
end

theorem Fls.mono (t : Tle K H H') : ∀ {ds : List (Str × D)} {vs : List (Str × V)}, Fls K H ds vs → Fls K H' ds vs
  | _, _, .nil => .nil
  | _, _, .cons x r => .cons (DV.mono t _ _ x) (Fls.mono t r)
theorem Dc.mono {κ : Type} (t : Tle K H H') : ∀ {ds : List (κ × D)} {vs : List (κ × V)}, Dc K H ds vs → Dc K H' ds vs
  | _, _, .nil => .nil
  | _, _, .cons x r => .cons (DV.mono t _ _ x) (Dc.mono t r)
theorem RS.mono (t : Tle K H H') {σ' : Sg} {σ : L2.St} (x : RS K H σ' σ) : RS K H' σ' σ :=
  ⟨x.len, fun i d e => let ⟨v, q, r⟩ := x.get i d e; ⟨v, q, DV.mono t _ _ r⟩⟩
theorem RO.stay (t : Tle K H H') (f : ∀ c q, H c = some (LamX.CodeO c q) → S c = none → H' c = some (LamX.CodeO c q) ∧ S' c = none) {o : HQ} (x : RO K S H a o) (e : H' a = H a) : RO K S' H' a o := by
  cases o with
  | lst ds => obtain ⟨xs, q, r⟩ := x; exact ⟨xs, e.trans q, DVs.mono t _ _ r⟩
  | ins n fs => obtain ⟨C, dx, ys, c, q, r⟩ := x; exact ⟨C, dx, ys, c, e.trans q, r.mono t⟩
  | dk kvs => obtain ⟨ys, q, r⟩ := x; exact ⟨ys, e.trans q, r.mono t⟩
  | dt kvs => obtain ⟨ys, q, r⟩ := x; exact ⟨ys, e.trans q, r.mono t⟩
  | fk b ys kvs => exact ⟨e.trans x.1, x.2.mono t⟩
  | ft b ys kvs => exact ⟨e.trans x.1, x.2.mono t⟩
  | exd fs => obtain ⟨ys, q, r⟩ := x; exact ⟨ys, e.trans q, r.mono t⟩
  | tb z =>
    obtain ⟨h0, ps, q, h1, h2⟩ := x
    refine ⟨h0, ps, e.trans q, h1, fun pos cv h => ?_⟩
    obtain ⟨c, e1, e2, e3⟩ := h2 pos cv h
    exact ⟨c, e1, (f c _ e2 e3).1, (f c _ e2 e3).2⟩
  | co z vs ds => exact ⟨e.trans x.1, x.2.mono t⟩
theorem RS.set {σ' : Sg} {σ : L2.St} (x : RS K H σ' σ) {d : D} {v : V} (r : DV K H d v) (i : Nat) : RS K H (σ'.set i (some d)) (σ.set i (some v)) := by
  refine ⟨by simp [x.len], fun j e h => ?_⟩
  by_cases c : i = j
  · subst c
    by_cases hi : i < σ'.length
    · rw [List.getElem?_set_self hi] at h
      cases h
      exact ⟨v, by rw [List.getElem?_set_self (by rw [← x.len]; exact hi)], r⟩
    · rw [List.getElem?_eq_none (by simpa using hi)] at h
      cases h
  · rw [List.getElem?_set_ne c] at h
    obtain ⟨w, q, r'⟩ := x.get j e h
    exact ⟨w, by rw [List.getElem?_set_ne c]; exact q, r'⟩
theorem RH.fresh (r : RH K S H) (h : H a = none) : S a = none := by
  cases e : S a with
  | none => rfl
  | some o =>
    have q := r a o e
    cases o with
    | lst ds => obtain ⟨xs, q, _⟩ := q; rw [h] at q; cases q
    | ins n fs => obtain ⟨_, dx, ys, _, q, _⟩ := q; rw [h] at q; cases q
    | dk kvs => obtain ⟨ys, q, _⟩ := q; rw [h] at q; cases q
    | dt kvs => obtain ⟨ys, q, _⟩ := q; rw [h] at q; cases q
    | fk b ys kvs => have q := q.1; rw [h] at q; cases q
    | ft b ys kvs => have q := q.1; rw [h] at q; cases q
    | exd fs => obtain ⟨ys, q, _⟩ := q; rw [h] at q; cases q
    | tb z => obtain ⟨_, ps, q, _⟩ := q; rw [h] at q; cases q
    | co z vs ds => have q := q.1; rw [h] at q; cases q
/-- a new thing below that is not tracked here -/
theorem Fr.new (r : RH K S H) {o : HO} (h : H a = none) : Fr S H S (upd H a o) := fun b u e n => ⟨by rw [upd_ne (ne_of_none e h)]; exact e, n⟩
theorem RH.new (r : RH K S H) {o : HO} (h : H a = none) : RH K S (upd H a o) := fun b u e => by
  have hb : b ≠ a := fun z => by rw [z, r.fresh h] at e; cases e
  exact (r b u e).stay ((Fr.new r h).tle r) (fun c q => Fr.new r h c _) (upd_ne hb)
/-- a new thing, tracked here too -/
theorem Fr.new2 (r : RH K S H) {o : HO} {q : HQ} (h : H a = none) : Fr S H (up S a q) (upd H a o) := fun b u e n =>
  have hb : b ≠ a := ne_of_none e h
  ⟨by rw [upd_ne hb]; exact e, by rw [up_ne hb]; exact n⟩
theorem RH.new2 (r : RH K S H) {o : HO} {q : HQ} (h : H a = none) (ok : RO K (up S a q) (upd H a o) a q) : RH K (up S a q) (upd H a o) := fun b u e => by
  by_cases hb : b = a
  · subst hb; rw [up_same] at e; cases e; exact ok
  · rw [up_ne hb] at e
    exact (r b u e).stay ((Fr.new r h).tle r) (fun c q => Fr.new2 r h c _) (upd_ne hb)
/-- a tracked thing is written -/
theorem Fr.put {o : HO} {q u : HQ} (h : S a = some u) : Fr S H (up S a q) (upd H a o) := fun b v e n =>
  have hb : b ≠ a := fun z => by rw [z, h] at n; cases n
  ⟨by rw [upd_ne hb]; exact e, by rw [up_ne hb]; exact n⟩
theorem RH.put (r : RH K S H) {o : HO} {q u : HQ} (h : S a = some u) (ok : RO K (up S a q) (upd H a o) a q) : RH K (up S a q) (upd H a o) := fun b v e => by
  by_cases hb : b = a
  · subst hb; rw [up_same] at e; cases e; exact ok
  · rw [up_ne hb] at e
    exact (r b v e).stay ((Fr.put (q := q) h).tle r) (fun c z => Fr.put h c _) (upd_ne hb)
theorem RH.putTle (r : RH K S H) {o : HO} {u : HQ} (h : S a = some u) : Tle K H (upd H a o) := (Fr.put (q := u) h).tle r
theorem DVs.length : ∀ {ds : List D} {vs : List V}, DVs K H ds vs → ds.length = vs.length
  | _, _, .nil => rfl
  | _, _, .cons _ r => congrArg (· + 1) (DVs.length r)
theorem DVs.app : ∀ {ds es : List D} {vs ws : List V}, DVs K H ds vs → DVs K H es ws → DVs K H (ds ++ es) (vs ++ ws)
  | _, _, _, _, .nil, s => s
  | _, _, _, _, .cons x r, s => .cons x (DVs.app r s)
theorem DVs.get : ∀ {ds : List D} {vs : List V} {i : Nat} {d : D}, DVs K H ds vs → ds[i]? = some d → ∃ v, vs[i]? = some v ∧ DV K H d v
  | _, _, _, _, .nil, e => by simp at e
  | _, _, 0, _, .cons x r, e => by simp at e; subst e; exact ⟨_, rfl, x⟩
  | _, _, i + 1, _, .cons x r, e => by
    rw [List.getElem?_cons_succ] at e ⊢
    exact DVs.get r e
theorem DVs.set : ∀ {ds : List D} {vs : List V} {d : D} {v : V} (i : Nat), DVs K H ds vs → DV K H d v → DVs K H (ds.set i d) (vs.set i v)
  | _, _, _, _, _, .nil, _ => .nil
  | _, _, _, _, 0, .cons x r, y => .cons y r
  | _, _, _, _, i + 1, .cons x r, y => .cons x (DVs.set i r y)
theorem DVs.drop : ∀ {ds : List D} {vs : List V} (i : Nat), DVs K H ds vs → DVs K H (ds.drop i) (vs.drop i)
  | _, _, 0, r => r
  | _, _, _ + 1, .nil => .nil
  | _, _, i + 1, .cons _ r => DVs.drop i r
theorem DVs.take : ∀ {ds : List D} {vs : List V} (i : Nat), DVs K H ds vs → DVs K H (ds.take i) (vs.take i)
  | _, _, 0, _ => .nil
  | _, _, _ + 1, .nil => .nil
  | _, _, i + 1, .cons x r => .cons x (DVs.take i r)
end

/-! ### the judgements -/
abbrev Qv := D → Hq → Prop
abbrev Xw := String → List (Str × D) → Hq → Prop
abbrev RE := Sg → Hq → Qv → Xw → Prop
abbrev RT := Sg → Hq → (Bool → Hq → Prop) → Xw → Prop
abbrev RA := Sg → Hq → (List D → Hq → Prop) → Xw → Prop
structure En where
  nx : Sg → Hq → Prop
  rt : Qv
  bk : Sg → Hq → Prop := fun _ _ => False
  ct : Sg → Hq → Prop := fun _ _ => False
  ex : String → List (Str × D) → Sg → Hq → Prop := fun _ _ _ _ => False
abbrev RSt := En → Sg → Hq → Prop
def XOk (K : PySem.W.Frag) (H : Hp) (d : Addr) (fs : List (Str × D)) : Prop := ∃ ys, H d = some (.xd ys) ∧ Fls K H fs ys
/-- what follows here gives what follows below -/
def QI (K : PySem.W.Frag) (S : Hq) (H : Hp) (Q' : Qv) (Q : VK) : Prop := ∀ d S' v H', Fr S H S' H' → RH K S' H' → DV K H' d v → Q' d S' → Q v H'
def QT (K : PySem.W.Frag) (S : Hq) (H : Hp) (Q' : Bool → Hq → Prop) (Q : Bool → Hp → Prop) : Prop := ∀ b S' H', Fr S H S' H' → RH K S' H' → Q' b S' → Q b H'
def QA (K : PySem.W.Frag) (S : Hq) (H : Hp) (Q' : List D → Hq → Prop) (Q : List V → Hp → Prop) : Prop := ∀ d S' v H', Fr S H S' H' → RH K S' H' → DVs K H' d v → Q' d S' → Q v H'
/-- the error's own dict is a new one -/
def Nw (S : Hq) (H : Hp) (S' : Hq) (d : Addr) : Prop := (∀ o, H d = some o → S d ≠ none) ∧ S' d = none
theorem Nw.go {S S1 S2 : Hq} {H H1 : Hp} {d : Addr} (f : Fr S H S1 H1) (n : Nw S1 H1 S2 d) : Nw S H S2 d := ⟨fun o e z => n.1 o (f d o e z).1 (f d o e z).2, n.2⟩
def XI (K : PySem.W.Frag) (S : Hq) (H : Hp) (E' : Xw) (E : XK) : Prop := ∀ n C fs S' H' d, CN K n C → Fr S H S' H' → RH K S' H' → XOk K H' d fs → Nw S H S' d → E' n fs S' → E (.ref C) (some d) H'
def SI (K : PySem.W.Frag) (S : Hq) (H : Hp) (N' : Sg → Hq → Prop) (N : L2.St → Hp → Prop) : Prop := ∀ σ' S' σ H', Fr S H S' H' → RH K S' H' → RS K H' σ' σ → N' σ' S' → N σ H'
structure DI (K : PySem.W.Frag) (W : WX) (S : Hq) (H : Hp) (D' : En) (D : Ends) : Prop where
  nx : SI K S H D'.nx D.nx
  rt : QI K S H D'.rt D.rt
  bk : SI K S H D'.bk D.bk
  ct : SI K S H D'.ct D.ct
  ex : ∀ n C fs σ' S' σ H' d, CN K n C → Fr S H S' H' → RH K S' H' → RS K H' σ' σ → XOk K H' d fs → Nw S H S' d → D'.ex n fs σ' S' → W (.ref C) (some d) σ H'
section
variable {K : PySem.W.Frag} {S S' : Hq} {H H' : Hp} {W : WX}
theorem QI.go {Q' : Qv} {Q : VK} (x : QI K S H Q' Q) (f : Fr S H S' H') : QI K S' H' Q' Q := fun d S2 v H2 f2 => x d S2 v H2 (f.trans f2)
theorem QT.go {Q' : Bool → Hq → Prop} {Q : Bool → Hp → Prop} (x : QT K S H Q' Q) (f : Fr S H S' H') : QT K S' H' Q' Q := fun d S2 H2 f2 => x d S2 H2 (f.trans f2)
theorem QA.go {Q' : List D → Hq → Prop} {Q : List V → Hp → Prop} (x : QA K S H Q' Q) (f : Fr S H S' H') : QA K S' H' Q' Q := fun d S2 v H2 f2 => x d S2 v H2 (f.trans f2)
theorem XI.go {E' : Xw} {E : XK} (x : XI K S H E' E) (f : Fr S H S' H') : XI K S' H' E' E := fun n C fs S2 H2 d c f2 rh ok nw => x n C fs S2 H2 d c (f.trans f2) rh ok (nw.go f)
theorem SI.go {N' : Sg → Hq → Prop} {N : L2.St → Hp → Prop} (x : SI K S H N' N) (f : Fr S H S' H') : SI K S' H' N' N := fun σ' S2 σ H2 f2 => x σ' S2 σ H2 (f.trans f2)
theorem DI.go {D' : En} {D : Ends} (x : DI K W S H D' D) (f : Fr S H S' H') : DI K W S' H' D' D :=
  ⟨x.nx.go f, x.rt.go f, x.bk.go f, x.ct.go f, fun n C fs σ' S2 σ H2 d c f2 rh rs ok nw => x.ex n C fs σ' S2 σ H2 d c (f.trans f2) rh rs ok (nw.go f)⟩
end
abbrev wx (W : WX) (σ : L2.St) : XK := fun c d H => W c d σ H
structure EV (X : Cx) (W : WX) (e : Expr) (t : RE) : Prop where
  ex : ∃ T, PE X e T ∧ ∀ (σ : L2.St) (σ' : Sg) (H : Hp) (S : Hq) (Q : VK) (Q' : Qv) (E' : Xw), RS X.K H σ' σ → RH X.K S H → t σ' S Q' E' → QI X.K S H Q' Q → XI X.K S H E' (wx W σ) → T σ H Q
structure ET (X : Cx) (W : WX) (e : Expr) (t : RT) : Prop where
  ex : ∃ T, PT X e T ∧ ∀ (σ : L2.St) (σ' : Sg) (H : Hp) (S : Hq) (Q : Bool → Hp → Prop) (Q' : Bool → Hq → Prop) (E' : Xw), RS X.K H σ' σ → RH X.K S H → t σ' S Q' E' → QT X.K S H Q' Q → XI X.K S H E' (wx W σ) → T σ H Q
structure EW (X : Cx) (W : WX) (e : Expr) (t : RT) : Prop where
  ex : ∃ T, PW X e T ∧ ∀ (σ : L2.St) (σ' : Sg) (H : Hp) (S : Hq) (Q : Bool → Hp → Prop) (Q' : Bool → Hq → Prop) (E' : Xw), RS X.K H σ' σ → RH X.K S H → t σ' S Q' E' → QT X.K S H Q' Q → XI X.K S H E' (wx W σ) → T σ H Q
structure EA (X : Cx) (W : WX) (es : List Expr) (t : RA) : Prop where
  ex : ∃ T, PA X es T ∧ ∀ (σ : L2.St) (σ' : Sg) (H : Hp) (S : Hq) (Q : List V → Hp → Prop) (Q' : List D → Hq → Prop) (E' : Xw), RS X.K H σ' σ → RH X.K S H → t σ' S Q' E' → QA X.K S H Q' Q → XI X.K S H E' (wx W σ) → T σ H Q
structure ES (X : Cx) (W : WX) (st : Stmt) (t : RSt) : Prop where
  ex : ∃ T, PS X st T ∧ ∀ (σ : L2.St) (σ' : Sg) (H : Hp) (S : Hq) (D : Ends) (D' : En), RS X.K H σ' σ → RH X.K S H → t D' σ' S → DI X.K W S H D' D → T D σ H
structure EB (X : Cx) (W : WX) (st : List Stmt) (t : RSt) : Prop where
  ex : ∃ T, PSs X st T ∧ ∀ (σ : L2.St) (σ' : Sg) (H : Hp) (S : Hq) (D : Ends) (D' : En), RS X.K H σ' σ → RH X.K S H → t D' σ' S → DI X.K W S H D' D → T D σ H
end Y
namespace Y
open PySem PySem.Spec PyProof.Rows L2
abbrev R2q := D → D → Hq → Qv → Prop
theorem big_le {n : Nat} (h : n ≤ 1000000) : n ≤ sizeLine := Nat.le_trans h (by rw [sizeLine_eq]; decide)
theorem big_lt {n : Nat} (h : n < 1000000) : n < sizeLine := Nat.lt_of_lt_of_le h (by rw [sizeLine_eq]; decide)
abbrev LsR (S : Hq) (a : Addr) (xs : List D) : Prop := S a = some (.lst xs)
section
variable {K : PySem.W.Frag} {S : Hq} {H : Hp} {Q' : Qv} {Q : VK} {d : D} {v : V} {p a : Addr} {ds es : List D} {xs : List V}
theorem QI.here (q : QI K S H Q' Q) (r : RH K S H) (x : DV K H d v) (h : Q' d S) : Q v H := q d S v H Fr.refl r x h
theorem QI.newL (q : QI K S H Q' Q) (r : RH K S H) (hp : H p = none) (x : DVs K H ds xs) (h : Q' (.ref p) (up S p (.lst ds))) : Q (.ref p) (upd H p (.lst xs)) :=
  q _ _ _ _ (Fr.new2 r hp) (r.new2 (q := .lst ds) hp ⟨xs, upd_same, DVs.mono ((Fr.new r hp).tle r) _ _ x⟩) (.ref p) h
theorem QI.newT (q : QI K S H Q' Q) (r : RH K S H) (hp : H p = none) (x : DVs K H ds xs) (h : Q' (.tup ds) S) : Q (.ref p) (upd H p (.tup xs)) :=
  q _ _ _ _ (Fr.new r hp) (r.new hp) (.tup (.inl (.inl upd_same)) (DVs.mono ((Fr.new r hp).tle r) _ _ x)) h
theorem QI.putL (q : QI K S H Q' Q) (r : RH K S H) {es : List D} (hp : S p = some (.lst es)) (x : DVs K H ds xs) (y : DV K H d v) (h : Q' d (up S p (.lst ds))) : Q v (upd H p (.lst xs)) :=
  have t : Tle K H (upd H p (.lst xs)) := r.putTle hp
  q _ _ _ _ (Fr.put hp) (r.put (q := .lst ds) hp ⟨xs, upd_same, DVs.mono t _ _ x⟩) (DV.mono t _ _ y) h
theorem RH.sql (r : RH K S H) (h : LsR S a ds) : ∃ xs, SqL K H a xs ∧ DVs K H ds xs := by
  obtain ⟨xs, e, x⟩ := r a _ h; exact ⟨xs, .inl (.inl e), x⟩
theorem RH.lst (r : RH K S H) (h : S a = some (.lst ds)) : ∃ xs, H a = some (.lst xs) ∧ DVs K H ds xs := r a _ h
end
theorem opr_or {X : Cx} {f : Value → Value → Sem Value} {r r' : R2} (h : OpR X f r) (h' : OpR X f r') : OpR X f (fun x y H Q => r x y H Q ∨ r' x y H Q) := by
  intro pins s σ H x y v u Q I rx ry q
  rcases q with q | q
  · exact h pins s σ H x y v u Q I rx ry q
  · exact h' pins s σ H x y v u Q I rx ry q
theorem callr_or {X : Cx} {f : Value} {r r' : List V → Hp → VK → Prop} (h : CallR X f r) (h' : CallR X f r') : CallR X f (fun xs H Q => r xs H Q ∨ r' xs H Q) := by
  intro pins s σ H xs us Q I rx q
  rcases q with q | q
  · exact h pins s σ H xs us Q I rx q
  · exact h' pins s σ H xs us Q I rx q
def Lift2 (K : PySem.W.Frag) (f : R2q) (r : R2) : Prop := ∀ x y S H Q' Q v u, RH K S H → DV K H x v → DV K H y u → f x y S Q' → QI K S H Q' Q → r v u H Q

/-! ### names, constants -/
def asB (x : D) (f : Bool → Prop) : Prop := match x with | .bl k => f k | _ => False
def asI (x : D) (f : Int → Prop) : Prop := match x with | .int k => f k | _ => False
def rVar (i : Nat) : RE := fun σ S Q _ => match σ[i]? with | some (some d) => Q d S | _ => False
def rC (d : D) : RE := fun _ S Q _ => Q d S
def rBin (f : R2q) (ra rb : RE) : RE := fun σ S Q E => ra σ S (fun x S1 => rb σ S1 (fun y S2 => f x y S2 Q) E) E
def rUn (f : D → Hq → Qv → Prop) (ra : RE) : RE := fun σ S Q E => ra σ S (fun x S1 => f x S1 Q) E
section
variable {X : Cx} {W : WX} {a b c : Expr} {ra rb rc : RE} {pos : Pos}
theorem ev_var (i : Nat) {x : Str} (hN : X.N[i]? = some x := by rfl) (hv : Vis X.env.scope x := by first | exact Or.inl rfl | exact Or.inr (Or.inl rfl) | exact Or.inr (Or.inr rfl)) (hd : (x == ("__debug__" : Str)) = false := by decide)
    (hcd : (x == ("__classdict__" : Str)) = false := by decide) : EV X W (.Name x pos) (rVar i) := by
  refine ⟨_, pe_var hN hv hd hcd, fun σ σ' H S Q Q' E' rs rh h q _ => ?_⟩
  unfold rVar at h
  split at h
  · rename_i d e
    obtain ⟨v, e', r⟩ := rs.get i d e
    exact ⟨v, e', q.here rh r h⟩
  · exact h.elim
theorem ev_int {i : Int} {j} : EV X W (.Constant (.int i) j pos) (rC (.int i)) := ⟨_, pe_int, fun σ σ' H S Q Q' E' rs rh h q _ => q.here rh (.int i) h⟩
theorem ev_bl {i : Bool} {j} : EV X W (.Constant (.bool i) j pos) (rC (.bl i)) := ⟨_, pe_bl, fun σ σ' H S Q Q' E' rs rh h q _ => q.here rh (.bl i) h⟩
theorem ev_non {j} : EV X W (.Constant .none j pos) (rC .non) := ⟨_, pe_non, fun σ σ' H S Q Q' E' rs rh h q _ => q.here rh .non h⟩
theorem ev_str {i : Str} {j} : EV X W (.Constant (.str i) j pos) (rC (.str i)) := ⟨_, pe_str, fun σ σ' H S Q Q' E' rs rh h q _ => q.here rh (.str i) h⟩
/-- a module's constant -/
theorem ev_glob {x : Str} {d : D} {v : V} {u : Value} (hg : Gl X x) (hm : X.mg x = some u) (r : RelV v u) (dv : ∀ H, DV X.K H d v) (hd : (x == ("__debug__" : Str)) = false := by decide) : EV X W (.Name x pos) (rC d) :=
  ⟨_, pe_glob hg hm r hd, fun σ σ' H S Q Q' E' rs rh h q _ => q.here rh (dv H) h⟩
theorem ev_bin {op : Operator} {f : R2q} {r : R2} (ho : OpR X (binaryOp op) r) (hl : Lift2 X.K f r) (ha : EV X W a ra) (hb : EV X W b rb) : EV X W (.BinOp a op b pos) (rBin f ra rb) := by
  obtain ⟨Ta, pa, la⟩ := ha.ex
  obtain ⟨Tb, pb, lb⟩ := hb.ex
  refine ⟨_, pe_op ho pa pb, fun σ σ' H S Q Q' E' rs rh h q xi => ?_⟩
  refine la σ σ' H S _ _ E' rs rh h (fun d S1 v H1 f1 rh1 dv h1 => ?_) xi
  refine lb σ σ' H1 S1 _ _ E' (rs.mono (f1.tle rh)) rh1 h1 (fun e S2 u H2 f2 rh2 du h2 => ?_) (xi.go f1)
  exact hl _ _ _ _ _ _ _ _ rh2 (DV.mono (f2.tle rh1) _ _ dv) du h2 (q.go (f1.trans f2))
theorem ev_cmp {op : CmpOp} {f : R2q} {r : R2} (ho : OpR X (compareOp op) r) (hl : Lift2 X.K f r) (ha : EV X W a ra) (hb : EV X W b rb) (hm : behindInMarks op b = false := by first | rfl | exact nomark _) : EV X W (.Compare a [op] [b] pos) (rBin f ra rb) := by
  obtain ⟨Ta, pa, la⟩ := ha.ex
  obtain ⟨Tb, pb, lb⟩ := hb.ex
  refine ⟨_, pe_cmpR ho pa pb hm, fun σ σ' H S Q Q' E' rs rh h q xi => ?_⟩
  refine la σ σ' H S _ _ E' rs rh h (fun d S1 v H1 f1 rh1 dv h1 => ?_) xi
  refine lb σ σ' H1 S1 _ _ E' (rs.mono (f1.tle rh)) rh1 h1 (fun e S2 u H2 f2 rh2 du h2 => ?_) (xi.go f1)
  exact hl _ _ _ _ _ _ _ _ rh2 (DV.mono (f2.tle rh1) _ _ dv) du h2 (q.go (f1.trans f2))
/-- a test: the value must be a bool -/
def rTst (r : RE) : RT := fun σ S Q E => r σ S (fun x S1 => asB x fun k => Q k S1) E
theorem et_cmp {op : CmpOp} {f : R2q} {r : R2} (ho : OpR X (compareOp op) r) (hl : Lift2 X.K f r) (ha : EV X W a ra) (hb : EV X W b rb) (hm : behindInMarks op b = false := by first | rfl | exact nomark _) : ET X W (.Compare a [op] [b] pos) (rTst (rBin f ra rb)) := by
  obtain ⟨Ta, pa, la⟩ := ha.ex
  obtain ⟨Tb, pb, lb⟩ := hb.ex
  refine ⟨_, pt_cmpR ho pa pb hm, fun σ σ' H S Q Q' E' rs rh h q xi => ?_⟩
  refine la σ σ' H S _ _ E' rs rh h (fun d S1 v H1 f1 rh1 dv h1 => ?_) xi
  refine lb σ σ' H1 S1 _ _ E' (rs.mono (f1.tle rh)) rh1 h1 (fun e S2 u H2 f2 rh2 du h2 => ?_) (xi.go f1)
  refine hl _ _ _ _ _ _ _ _ rh2 (DV.mono (f2.tle rh1) _ _ dv) du h2 fun z S3 w H3 f3 rh3 dz h3 => ?_
  cases z <;> try exact h3.elim
  cases dz
  exact ⟨_, rfl, q _ _ _ ((f1.trans f2).trans f3) rh3 h3⟩
def rChn (f f' : R2q) (ra rb rc : RE) : RE := fun σ S Q E => ra σ S (fun x S1 => rb σ S1 (fun y S2 => f x y S2 (fun z S3 => asB z fun k => if k = true then rc σ S3 (fun w S4 => f' y w S4 Q) E else Q (.bl false) S3)) E) E
theorem ev_chn {op op' : CmpOp} {f f' : R2q} {r r' : R2} (ho : OpR X (compareOp op) r) (hl : Lift2 X.K f r) (ho' : OpR X (compareOp op') r') (hl' : Lift2 X.K f' r') (ha : EV X W a ra) (hb : EV X W b rb) (hc : EV X W c rc)
    (hm : lastMarks [op, op'] [b, c] = false := by with_unfolding_all rfl) : EV X W (.Compare a [op, op'] [b, c] pos) (rChn f f' ra rb rc) := by
  obtain ⟨Ta, pa, la⟩ := ha.ex
  obtain ⟨Tb, pb, lb⟩ := hb.ex
  obtain ⟨Tc, pc, lc⟩ := hc.ex
  refine ⟨_, pe_chain ho ho' pa pb pc hm, fun σ σ' H S Q Q' E' rs rh h q xi => ?_⟩
  refine la σ σ' H S _ _ E' rs rh h (fun d S1 v H1 f1 rh1 dv h1 => ?_) xi
  refine lb σ σ' H1 S1 _ _ E' (rs.mono (f1.tle rh)) rh1 h1 (fun e S2 u H2 f2 rh2 du h2 => ?_) (xi.go f1)
  refine hl _ _ _ _ _ _ _ _ rh2 (DV.mono (f2.tle rh1) _ _ dv) du h2 fun z S3 w H3 f3 rh3 dz h3 => ?_
  cases z <;> try exact h3.elim
  rename_i k
  cases dz
  refine ⟨k, rfl, ?_⟩
  have f03 := (f1.trans f2).trans f3
  cases k with
  | false => exact q _ _ _ _ f03 rh3 (.bl false) h3
  | true =>
    refine lc σ σ' H3 S3 _ _ E' (rs.mono (f03.tle rh)) rh3 h3 (fun e4 S4 u4 H4 f4 rh4 du4 h4 => ?_) (xi.go f03)
    exact hl' _ _ _ _ _ _ _ _ rh4 (DV.mono ((f3.trans f4).tle rh2) _ _ du) du4 h4 (q.go (f03.trans f4))
theorem et_chn {op op' : CmpOp} {f f' : R2q} {r r' : R2} (ho : OpR X (compareOp op) r) (hl : Lift2 X.K f r) (ho' : OpR X (compareOp op') r') (hl' : Lift2 X.K f' r') (ha : EV X W a ra) (hb : EV X W b rb) (hc : EV X W c rc)
    (hm : lastMarks [op, op'] [b, c] = false := by with_unfolding_all rfl) : ET X W (.Compare a [op, op'] [b, c] pos) (rTst (rChn f f' ra rb rc)) := by
  obtain ⟨Ta, pa, la⟩ := ha.ex
  obtain ⟨Tb, pb, lb⟩ := hb.ex
  obtain ⟨Tc, pc, lc⟩ := hc.ex
  refine ⟨_, pt_chain ho ho' pa pb pc hm, fun σ σ' H S Q Q' E' rs rh h q xi => ?_⟩
  refine la σ σ' H S _ _ E' rs rh h (fun d S1 v H1 f1 rh1 dv h1 => ?_) xi
  refine lb σ σ' H1 S1 _ _ E' (rs.mono (f1.tle rh)) rh1 h1 (fun e S2 u H2 f2 rh2 du h2 => ?_) (xi.go f1)
  refine hl _ _ _ _ _ _ _ _ rh2 (DV.mono (f2.tle rh1) _ _ dv) du h2 fun z S3 w H3 f3 rh3 dz h3 => ?_
  cases z <;> try exact h3.elim
  rename_i k
  cases dz
  refine ⟨k, rfl, ?_⟩
  have f03 := (f1.trans f2).trans f3
  cases k with
  | false => exact ⟨_, rfl, q _ _ _ f03 rh3 h3⟩
  | true =>
    refine lc σ σ' H3 S3 _ _ E' (rs.mono (f03.tle rh)) rh3 h3 (fun e4 S4 u4 H4 f4 rh4 du4 h4 => ?_) (xi.go f03)
    refine hl' _ _ _ _ _ _ _ _ rh4 (DV.mono ((f3.trans f4).tle rh2) _ _ du) du4 h4 fun z5 S5 w5 H5 f5 rh5 dz5 h5 => ?_
    cases z5 <;> try exact h5.elim
    cases dz5
    exact ⟨_, rfl, q _ _ _ ((f03.trans f4).trans f5) rh5 h5⟩
theorem et_val {r : RE} (h : EV X W a r) (he : ∀ whole, isTrue a X.env whole = (do let v ← whole; standAt a.pos; holding [v] (truthy v)) := by intro _; rfl) : ET X W a (rTst r) := by
  obtain ⟨T, p, l⟩ := h.ex
  refine ⟨_, pt_val p he, fun σ σ' H S Q Q' E' rs rh h q xi => ?_⟩
  refine l σ σ' H S _ _ E' rs rh h (fun d S1 v H1 f1 rh1 dv h1 => ?_) xi
  cases d <;> try exact h1.elim
  cases dv
  exact ⟨_, rfl, q _ _ _ f1 rh1 h1⟩
/-- truth of any value -/
def truD (x : D) (S : Hq) (Q : Bool → Prop) : Prop := match x with
  | .non => Q false | .bl b => Q b | .int i => Q (i != 0)
  | .str y => y.length ≤ 1000000 ∧ Q ((y.length : Int) != 0)
  | .tup xs => Q (!xs.isEmpty)
  | .ref a => ∃ xs, LsR S a xs ∧ Q (!xs.isEmpty)
  | .kl xs => Q (!xs.isEmpty)
  | _ => False
def rTru (r : RE) : RT := fun σ S Q E => r σ S (fun x S1 => truD x S1 (fun k => Q k S1)) E
theorem DVs.emp {K : PySem.W.Frag} {H : Hp} {ds : List D} {vs : List V} (x : DVs K H ds vs) : ds.isEmpty = vs.isEmpty := by cases x <;> rfl
theorem et_tru {r : RE} (h : EV X W a r) (he : ∀ whole, isTrue a X.env whole = (do let v ← whole; standAt a.pos; holding [v] (truthy v)) := by intro _; rfl) : ET X W a (rTru r) := by
  obtain ⟨T, p, l⟩ := h.ex
  refine ⟨_, pt_truth p he, fun σ σ' H S Q Q' E' rs rh h q xi => ?_⟩
  refine l σ σ' H S _ _ E' rs rh h (fun d S1 v H1 f1 rh1 dv h1 => ?_) xi
  cases d with
  | non => cases dv; exact ⟨_, rfl, q _ _ _ f1 rh1 h1⟩
  | bl => cases dv; exact ⟨_, rfl, q _ _ _ f1 rh1 h1⟩
  | int => cases dv; exact ⟨_, rfl, q _ _ _ f1 rh1 h1⟩
  | str => cases dv; exact ⟨_, ⟨big_le h1.1, rfl⟩, q _ _ _ f1 rh1 h1.2⟩
  | tup ds => cases dv with | tup s r => exact ⟨_, .inr (.inl ⟨_, s, rfl⟩), q _ _ _ f1 rh1 (by rw [← r.emp]; exact h1)⟩
  | kl ds => cases dv with | kl s r => exact ⟨_, .inl ⟨_, s.sql, rfl⟩, q _ _ _ f1 rh1 (by rw [← r.emp]; exact h1)⟩
  | ref b =>
    cases dv
    obtain ⟨xs, e, h1⟩ := h1
    obtain ⟨ys, s, r⟩ := rh1.sql e
    exact ⟨_, .inl ⟨ys, s, rfl⟩, q _ _ _ f1 rh1 (by rw [← r.emp]; exact h1)⟩
  | ty => exact h1.elim
  | cl => exact h1.elim

/-! ### and, or, not -/
variable {rest : List Expr} {ta tb : RT}
def rAnd (t u : RT) : RT := fun σ S Q E => t σ S (fun c S1 => if c = true then u σ S1 Q E else Q false S1) E
def rOr (t u : RT) : RT := fun σ S Q E => t σ S (fun c S1 => if c = true then Q true S1 else u σ S1 Q E) E
def rNot (t : RT) : RT := fun σ S Q E => t σ S (fun c S1 => Q (!c) S1) E
theorem ew_and1 (h : ET X W a ta) : EW X W (.BoolOp .And [a] pos) ta := let ⟨T, p, l⟩ := h.ex; ⟨T, pw_and1 p, l⟩
theorem ew_or1 (h : ET X W a ta) : EW X W (.BoolOp .Or [a] pos) ta := let ⟨T, p, l⟩ := h.ex; ⟨T, pw_or1 p, l⟩
theorem ew_and (ha : ET X W a ta) (hb : EW X W (.BoolOp .And (b :: rest) pos) tb) : EW X W (.BoolOp .And (a :: b :: rest) pos) (rAnd ta tb) := by
  obtain ⟨Ta, pa, la⟩ := ha.ex
  obtain ⟨Tb, pb, lb⟩ := hb.ex
  refine ⟨_, pw_and pa pb, fun σ σ' H S Q Q' E' rs rh h q xi => ?_⟩
  refine la σ σ' H S _ _ E' rs rh h (fun d S1 H1 f1 rh1 h1 => ?_) xi
  cases d with
  | true => exact lb σ σ' H1 S1 _ _ E' (rs.mono (f1.tle rh)) rh1 h1 (q.go f1) (xi.go f1)
  | false => exact q _ _ _ f1 rh1 h1
theorem ew_or (ha : ET X W a ta) (hb : EW X W (.BoolOp .Or (b :: rest) pos) tb) : EW X W (.BoolOp .Or (a :: b :: rest) pos) (rOr ta tb) := by
  obtain ⟨Ta, pa, la⟩ := ha.ex
  obtain ⟨Tb, pb, lb⟩ := hb.ex
  refine ⟨_, pw_or pa pb, fun σ σ' H S Q Q' E' rs rh h q xi => ?_⟩
  refine la σ σ' H S _ _ E' rs rh h (fun d S1 H1 f1 rh1 h1 => ?_) xi
  cases d with
  | false => exact lb σ σ' H1 S1 _ _ E' (rs.mono (f1.tle rh)) rh1 h1 (q.go f1) (xi.go f1)
  | true => exact q _ _ _ f1 rh1 h1
theorem et_ew (h : EW X W a ta) : ET X W a ta := let ⟨T, p, l⟩ := h.ex; ⟨T, p.pt, l⟩
theorem et_not (ha : ET X W a ta) : ET X W (.UnaryOp .Not a pos) (rNot ta) := by
  obtain ⟨Ta, pa, la⟩ := ha.ex
  exact ⟨_, pt_not pa, fun σ σ' H S Q Q' E' rs rh h q xi => la σ σ' H S _ _ E' rs rh h (fun d S1 H1 f1 rh1 h1 => q _ _ _ f1 rh1 h1) xi⟩
/-- .. as values -/
def rAndV (t u : RE) : RE := fun σ S Q E => t σ S (fun x S1 => asB x fun c => if c = true then u σ S1 Q E else Q (.bl false) S1) E
def rOrV (t u : RE) : RE := fun σ S Q E => t σ S (fun x S1 => asB x fun c => if c = true then Q (.bl true) S1 else u σ S1 Q E) E
def rNotV (t : RE) : RE := fun σ S Q E => t σ S (fun x S1 => asB x fun c => Q (.bl (!c)) S1) E
theorem ev_one {op} (h : EV X W a ra) : EV X W (.BoolOp op [a] pos) ra := let ⟨T, p, l⟩ := h.ex; ⟨T, pe_one p, l⟩
theorem ev_and (ha : EV X W a ra) (hb : EV X W (.BoolOp .And (b :: rest) pos) rb) : EV X W (.BoolOp .And (a :: b :: rest) pos) (rAndV ra rb) := by
  obtain ⟨Ta, pa, la⟩ := ha.ex
  obtain ⟨Tb, pb, lb⟩ := hb.ex
  refine ⟨_, pe_and pa pb, fun σ σ' H S Q Q' E' rs rh h q xi => ?_⟩
  refine la σ σ' H S _ _ E' rs rh h (fun d S1 v H1 f1 rh1 dv h1 => ?_) xi
  cases d <;> try exact h1.elim
  rename_i k
  cases dv
  refine ⟨k, rfl, ?_⟩
  cases k with
  | true => exact lb σ σ' H1 S1 _ _ E' (rs.mono (f1.tle rh)) rh1 h1 (q.go f1) (xi.go f1)
  | false => exact q _ _ _ _ f1 rh1 (.bl false) h1
theorem ev_or (ha : EV X W a ra) (hb : EV X W (.BoolOp .Or (b :: rest) pos) rb) : EV X W (.BoolOp .Or (a :: b :: rest) pos) (rOrV ra rb) := by
  obtain ⟨Ta, pa, la⟩ := ha.ex
  obtain ⟨Tb, pb, lb⟩ := hb.ex
  refine ⟨_, pe_or pa pb, fun σ σ' H S Q Q' E' rs rh h q xi => ?_⟩
  refine la σ σ' H S _ _ E' rs rh h (fun d S1 v H1 f1 rh1 dv h1 => ?_) xi
  cases d <;> try exact h1.elim
  rename_i k
  cases dv
  refine ⟨k, rfl, ?_⟩
  cases k with
  | false => exact lb σ σ' H1 S1 _ _ E' (rs.mono (f1.tle rh)) rh1 h1 (q.go f1) (xi.go f1)
  | true => exact q _ _ _ _ f1 rh1 (.bl true) h1
theorem ev_not (ha : EV X W a ra) : EV X W (.UnaryOp .Not a pos) (rNotV ra) := by
  obtain ⟨Ta, pa, la⟩ := ha.ex
  refine ⟨_, L2.pe_not pa, fun σ σ' H S Q Q' E' rs rh h q xi => ?_⟩
  refine la σ σ' H S _ _ E' rs rh h (fun d S1 v H1 f1 rh1 dv h1 => ?_) xi
  cases d <;> try exact h1.elim
  cases dv
  exact ⟨_, rfl, q _ _ _ _ f1 rh1 (.bl _) h1⟩
def rIf (t : RT) (ra rb : RE) : RE := fun σ S Q E => t σ S (fun c S1 => if c = true then ra σ S1 Q E else rb σ S1 Q E) E
theorem ev_if (hc : ET X W c ta) (ha : EV X W a ra) (hb : EV X W b rb) : EV X W (.IfExp c a b pos) (rIf ta ra rb) := by
  obtain ⟨Tc, pc, lc⟩ := hc.ex
  obtain ⟨Ta, pa, la⟩ := ha.ex
  obtain ⟨Tb, pb, lb⟩ := hb.ex
  refine ⟨_, pe_ifExp pc pa pb, fun σ σ' H S Q Q' E' rs rh h q xi => ?_⟩
  refine lc σ σ' H S _ _ E' rs rh h (fun d S1 H1 f1 rh1 h1 => ?_) xi
  cases d with
  | true => exact la σ σ' H1 S1 _ _ E' (rs.mono (f1.tle rh)) rh1 h1 (q.go f1) (xi.go f1)
  | false => exact lb σ σ' H1 S1 _ _ E' (rs.mono (f1.tle rh)) rh1 h1 (q.go f1) (xi.go f1)

/-! ### rows of arguments, displays -/
variable {es : List Expr} {rs' : RA}
def rNil : RA := fun _ S Q _ => Q [] S
def rCons (ra : RE) (rr : RA) : RA := fun σ S Q E => ra σ S (fun x S1 => rr σ S1 (fun xs S2 => Q (x :: xs) S2) E) E
theorem ea_nil : EA X W [] rNil := ⟨_, pa_nil, fun σ σ' H S Q Q' E' rs rh h q xi => q _ _ _ _ Fr.refl rh .nil h⟩
theorem ea_cons (ha : EV X W a ra) (hr : EA X W es rs') (hs : starEach (a :: es) X.env = (false, eval a X.env) :: starEach es X.env := by rfl) : EA X W (a :: es) (rCons ra rs') := by
  obtain ⟨Ta, pa, la⟩ := ha.ex
  obtain ⟨Tr, pr, lr⟩ := hr.ex
  refine ⟨_, pa_cons pa pr hs, fun σ σ' H S Q Q' E' rs rh h q xi => ?_⟩
  refine la σ σ' H S _ _ E' rs rh h (fun d S1 v H1 f1 rh1 dv h1 => ?_) xi
  refine lr σ σ' H1 S1 _ _ E' (rs.mono (f1.tle rh)) rh1 h1 (fun e S2 u H2 f2 rh2 du h2 => ?_) (xi.go f1)
  exact q _ _ _ _ (f1.trans f2) rh2 (.cons (DV.mono (f2.tle rh1) _ _ dv) du) h2
def rTup (r : RA) : RE := fun σ S Q E => r σ S (fun xs S1 => xs.length ≤ 1000000 ∧ Q (.tup xs) S1) E
def rLst (r : RA) : RE := fun σ S Q E => r σ S (fun xs S1 => xs.length ≤ 1000000 ∧ ∀ p, S1 p = none → Q (.ref p) (up S1 p (.lst xs))) E
theorem ev_tup {k} (h : EA X W es rs') : EV X W (.Tuple es k pos) (rTup rs') := by
  obtain ⟨T, p, l⟩ := h.ex
  refine ⟨_, pe_tup p, fun σ σ' H S Q Q' E' rs rh h q xi => ?_⟩
  refine l σ σ' H S _ _ E' rs rh h (fun d S1 v H1 f1 rh1 dv h1 => ⟨by rw [← dv.length]; exact big_le h1.1, fun p hp => ?_⟩) xi
  exact (q.go f1).newT rh1 hp dv h1.2
theorem ev_lst (h : EA X W es rs') : EV X W (.List es pos) (rLst rs') := by
  obtain ⟨T, p, l⟩ := h.ex
  refine ⟨_, pe_lst p, fun σ σ' H S Q Q' E' rs rh h q xi => ?_⟩
  refine l σ σ' H S _ _ E' rs rh h (fun d S1 v H1 f1 rh1 dv h1 => ⟨by rw [← dv.length]; exact big_le h1.1, fun p hp => ?_⟩) xi
  exact (q.go f1).newL rh1 hp dv (h1.2 p (rh1.fresh hp))
end
end Y
namespace Y
open PySem PySem.Spec PyProof.Rows L2

/-! ### operators, by what their sides are -/
def addD : R2q := fun x y S Q => match x, y with
  | .int i, .int j => Q (.int (i + j)) S
  | .str a, .str b => a.length + b.length ≤ 1000000 ∧ Q (.str (a ++ b)) S
  | .tup xs, .tup ys => xs.length + ys.length ≤ 1000000 ∧ Q (.tup (xs ++ ys)) S
  | .ref a, .ref b => ∃ xs ys, S a = some (.lst xs) ∧ S b = some (.lst ys) ∧ xs.length + ys.length ≤ 1000000 ∧ ∀ p, S p = none → Q (.ref p) (up S p (.lst (xs ++ ys)))
  | _, _ => False
def intD (C : Int → Int → Prop) (g : Int → Int → D) : R2q := fun x y S Q => match x, y with
  | .int i, .int j => C i j ∧ Q (g i j) S
  | _, _ => False
def CDiv' (_ j : Int) : Prop := 0 < j ∧ j < 2 ^ 64
def CMul' (i j : Int) : Prop := (-(2 ^ 64) < i ∧ i < 2 ^ 64) ∨ (-(2 ^ 64) < j ∧ j < 2 ^ 64)
def CPow' (i j : Int) : Prop := 0 ≤ j ∧ j ≤ 1000000 ∧ -(2 ^ 32) < i ∧ i < 2 ^ 32
def subD : R2q := fun x y S Q => match x, y with | .int i, .int j => Q (.int (i - j)) S | _, _ => False
def mulD : R2q := intD CMul' fun i j => .int (i * j)
def fdivD : R2q := intD CDiv' fun i j => .int (i / j)
def modD : R2q := intD (fun _ j => 0 < j) fun i j => .int (i % j)
def powD : R2q := intD CPow' fun i j => .int (i ^ j.toNat)
def andD : R2q := intD (fun _ _ => True) fun i j => .int (Builtin.bitAnd i j)
theorem CDiv'.ok {i j : Int} (h : CDiv' i j) : CDivW i j := wide_div (b := 64) h.1 (by have := h.1; have := h.2; omega) (by decide) (by decide)
theorem CPow'.ok {i j : Int} (h : CPow' i j) : CPow i j := ⟨h.1, h.2.1, by have := h.2.2.1; have := h.2.2.2; omega⟩
section
variable {X : Cx} {K : PySem.W.Frag}
theorem op_addU : OpR X (binaryOp .Add) (fun x y H Q => (rI0 (fun i j => .int (i + j)) x y H Q) ∨ (∃ i j, x = .str i ∧ y = .str j ∧ i.length + j.length ≤ sizeLine ∧ Q (.str (i ++ j)) H) ∨ rCatA X.K x y H Q ∨ rCat x y H Q) :=
  opr_or op_add (opr_or op_add_str (opr_or op_catA op_cat))
theorem lf_add : Lift2 X.K addD (fun x y H Q => (rI0 (fun i j => .int (i + j)) x y H Q) ∨ (∃ i j, x = .str i ∧ y = .str j ∧ i.length + j.length ≤ sizeLine ∧ Q (.str (i ++ j)) H) ∨ rCatA X.K x y H Q ∨ rCat x y H Q) := by
  intro x y S H Q' Q v u rh dx dy h q
  cases x <;> cases y <;> try exact h.elim
  · cases dx; cases dy; exact .inl ⟨_, _, rfl, rfl, q.here rh (.int _) h⟩
  · cases dx; cases dy; exact .inr (.inl ⟨_, _, rfl, rfl, big_le h.1, q.here rh (.str _) h.2⟩)
  · rename_i xs ys
    cases dx with | tup s1 r1 =>
    cases dy with | tup s2 r2 =>
    refine .inr (.inr (.inl ⟨_, _, _, _, rfl, rfl, s1, s2, by rw [← r1.length, ← r2.length]; exact big_le h.1, fun e => ?_, fun n e => ?_, fun n m p hp => ?_⟩))
    · subst e; cases r1; exact q.here rh (.tup s2 r2) h.2
    · subst e; cases r2; exact q.here rh (.tup s1 r1) (by have := h.2; rw [List.append_nil] at this; exact this)
    · exact q.newT rh hp (r1.app r2) h.2
  · cases dx; cases dy
    obtain ⟨xs, ys, e1, e2, hz, h⟩ := h
    obtain ⟨vs, g1, r1⟩ := rh.lst e1
    obtain ⟨us, g2, r2⟩ := rh.lst e2
    exact .inr (.inr (.inr ⟨_, _, _, _, rfl, rfl, g1, g2, by rw [← r1.length, ← r2.length]; exact big_le hz, fun p hp => q.newL rh hp (r1.app r2) (h p (rh.fresh hp))⟩))
theorem lf_int {C C' : Int → Int → Prop} {g : Int → Int → D} {g' : Int → Int → V} (hc : ∀ i j, C i j → C' i j) (hg : ∀ H i j, DV K H (g i j) (g' i j)) : Lift2 K (intD C g) (rI C' g') := by
  intro x y S H Q' Q v u rh dx dy h q
  cases x <;> cases y <;> try exact h.elim
  cases dx; cases dy
  exact ⟨_, _, rfl, rfl, hc _ _ h.1, q.here rh (hg _ _ _) h.2⟩
theorem lf_int0 {f : R2q} {g : Int → Int → D} {g' : Int → Int → V} (hf : ∀ x y S Q, f x y S Q → ∃ i j, x = .int i ∧ y = .int j ∧ Q (g i j) S) (hg : ∀ H i j, DV K H (g i j) (g' i j)) : Lift2 K f (rI0 g') := by
  intro x y S H Q' Q v u rh dx dy h q
  obtain ⟨i, j, rfl, rfl, h'⟩ := hf x y S Q' h
  clear h
  cases dx; cases dy
  exact ⟨_, _, rfl, rfl, q.here rh (hg _ _ _) h'⟩
theorem lf_sub : Lift2 K subD (rI0 fun i j => .int (i - j)) := lf_int0 (g := fun i j => .int (i - j)) (fun x y S Q h => by cases x <;> cases y <;> first | exact h.elim | exact ⟨_, _, rfl, rfl, h⟩) fun _ _ _ => .int _
theorem lf_mul : Lift2 K mulD (rI CMul fun i j => .int (i * j)) := lf_int (fun _ _ h => h) fun _ _ _ => .int _
theorem lf_fdiv : Lift2 K fdivD (rI CDivW fun i j => .int (i / j)) := lf_int (fun _ _ h => h.ok) fun _ _ _ => .int _
theorem lf_mod : Lift2 K modD (rI (fun _ j => 0 < j) fun i j => .int (i % j)) := lf_int (fun _ _ h => h) fun _ _ _ => .int _
theorem lf_pow : Lift2 K powD (rI CPow fun i j => .int (i ^ j.toNat)) := lf_int (fun _ _ h => h.ok) fun _ _ _ => .int _
theorem lf_and : Lift2 K andD (rI0 fun i j => .int (Builtin.bitAnd i j)) := lf_int0 (g := fun i j => .int (Builtin.bitAnd i j)) (fun x y S Q h => by cases x <;> cases y <;> first | exact h.elim | exact ⟨_, _, rfl, rfl, h.2⟩) fun _ _ _ => .int _
end
/-! ### comparisons -/
def leD : R2q := fun x y S Q => match x, y with | .int i, .int j => Q (.bl (decide (i ≤ j))) S | _, _ => False
def geD : R2q := fun x y S Q => match x, y with | .int i, .int j => Q (.bl (decide (j ≤ i))) S | _, _ => False
def gtD : R2q := fun x y S Q => match x, y with | .int i, .int j => Q (.bl (decide (j < i))) S | _, _ => False
def ltD : R2q := fun x y S Q => match x, y with
  | .int i, .int j => Q (.bl (decide (i < j))) S
  | .tup xs, .tup ys => ∃ ns ms, xs = ns.map D.int ∧ ys = ms.map D.int ∧ Q (.bl (HT.lexLt ns ms)) S
  | _, _ => False
def isN : D → Bool | .non => true | _ => false
def isD : R2q := fun x y S Q => match y with
  | .non => Q (.bl (isN x)) S
  | .bl b => match x with
    | .bl a => Q (.bl (decide (a = b))) S
    | .ty _ => False
    | _ => Q (.bl false) S
  | _ => False
def isntD : R2q := fun x y S Q => isD x y S (fun z S1 => asB z fun b => Q (.bl (!b)) S1)
mutual
def pd : D → PyData
  | .non => .none | .bl b => .bool b | .int i => .int i | .str s => .str s | .tup xs => .tuple (pds xs) | .ref _ => .none | .ty _ => .none | .kl xs => .list (pds xs) | .cl _ => .none
def pds : List D → List PyData
  | [] => []
  | d :: ds => pd d :: pds ds
end
mutual
def pur : D → Bool
  | .tup xs => purs xs | .ref _ => false | .ty _ => false | .kl xs => purs xs | .cl _ => false | _ => true
def purs : List D → Bool
  | [] => true
  | d :: ds => pur d && purs ds
end
def okE (d : D) : Prop := pur d = true ∧ SeqAt.shaped (pd d) = true
/-- == of what is no tuple and no list, at once -/
def eqS : D → D → Option Bool
  | .non, .non => some true | .non, .int _ => some false | .int _, .non => some false | .non, .bl _ => some false | .bl _, .non => some false | .non, .str _ => some false | .str _, .non => some false
  | .int i, .int j => some (decide (i = j)) | .bl i, .bl j => some (decide (i = j)) | .str i, .str j => some (decide (i = j))
  | .int _, .str _ => some false | .str _, .int _ => some false | .bl _, .str _ => some false | .str _, .bl _ => some false
  | _, _ => none
def eqD (g : Bool → Bool) : R2q := fun x y S Q => match eqS x y with
  | some b => Q (.bl (g b)) S
  | none => match x, y with
    | .ref a, .ref b => ∃ xs ys, LsR S a xs ∧ LsR S b ys ∧ okE (.tup xs) ∧ okE (.tup ys) ∧ Q (.bl (g (PyData.eqvAll (pds xs) (pds ys)))) S
    | _, _ => okE x ∧ okE y ∧ Q (.bl (g (PyData.eqv (pd x) (pd y)))) S
section
variable {X : Cx} {K : PySem.W.Frag} {H : Hp}
mutual
theorem DV.dp : ∀ (d : D) (v : V), pur d = true → DV K H d v → Dp K H v (pd d)
  | .non, _, _, h => by cases h; exact .non
  | .bl _, _, _, h => by cases h; exact .bl _
  | .int _, _, _, h => by cases h; exact .int _
  | .str _, _, _, h => by cases h; exact .str _
  | .ref _, _, p, _ => by simp [pur] at p
  | .ty _, _, p, _ => by simp [pur] at p
  | .kl ds, _, p, h => by cases h with | kl s r => exact .lst s.sql (DVs.dp ds _ (by simpa [pur] using p) r)
  | .cl _, _, p, _ => by simp [pur] at p
  | .tup ds, _, p, h => by cases h with | tup s r => exact .tup s (DVs.dp ds _ (by simpa [pur] using p) r)
theorem DVs.dp : ∀ (ds : List D) (vs : List V), purs ds = true → DVs K H ds vs → DpAll K H vs (pds ds)
  | [], _, _, h => by cases h; exact .nil
  | d :: ds, _, p, h => by
    cases h with | cons x r =>
    rw [purs, Bool.and_eq_true] at p
    exact .cons (DV.dp d _ p.1 x) (DVs.dp ds _ p.2 r)
end
def rEqU (K : PySem.W.Frag) : R2 := fun x y H Q => rEq x y H Q ∨ rEqD K x y H Q
def rNeU (K : PySem.W.Frag) : R2 := fun x y H Q => rNe x y H Q ∨ rNeD K x y H Q
theorem op_eqU (hu : X.A.units + 64 < cLine) : OpR X (compareOp .Eq) (rEqU X.K) := opr_or op_eq (op_eqD hu)
theorem op_neU (hu : X.A.units + 64 < cLine) : OpR X (compareOp .NotEq) (rNeU X.K) := opr_or op_ne (op_neD hu)
theorem eqS_of {x y : D} {v u : V} {b : Bool} (e : eqS x y = some b) (dx : DV K H x v) (dy : DV K H y u) : scal v u = true ∧ decide (v = u) = b := by
  cases x <;> cases y <;> simp [eqS] at e <;> cases dx <;> cases dy <;> subst e <;> refine ⟨rfl, ?_⟩ <;> simp
theorem shaped_list {ds : List PyData} : SeqAt.shaped (.list ds) = SeqAt.shaped (.tuple ds) := by
  unfold SeqAt.shaped
  have e1 : PyData.canLay0 (.list ds) = PyData.canLay0 (.tuple ds) := by simp [PyData.canLay0]
  have e2 : PyData.depth (.list ds) = PyData.depth (.tuple ds) := by simp [PyData.depth]
  rw [e1, e2]
theorem lf_eq : Lift2 K (eqD id) (rEqU K) := by
  intro x y S H Q' Q v u rh dx dy h q
  unfold eqD at h
  split at h
  · rename_i b e
    obtain ⟨s, d⟩ := eqS_of e dx dy
    exact .inl ⟨s, by rw [d]; exact q.here rh (.bl _) h⟩
  · split at h
    · cases dx; cases dy
      obtain ⟨xs, ys, e1, e2, ⟨p1, s1⟩, ⟨p2, s2⟩, h⟩ := h
      obtain ⟨vs, g1, r1⟩ := rh.sql e1
      obtain ⟨us, g2, r2⟩ := rh.sql e2
      refine .inr ⟨.list (pds xs), .list (pds ys), .lst g1 (DVs.dp _ _ (by simpa [pur] using p1) r1), .lst g2 (DVs.dp _ _ (by simpa [pur] using p2) r2), ?_, ?_, ?_⟩
      · rw [shaped_list]; simpa [pd] using s1
      · rw [shaped_list]; simpa [pd] using s2
      · exact q.here rh (.bl _) (by simpa [PyData.eqv] using h)
    · obtain ⟨⟨p1, s1⟩, ⟨p2, s2⟩, h⟩ := h
      exact .inr ⟨_, _, DV.dp _ _ p1 dx, DV.dp _ _ p2 dy, s1, s2, q.here rh (.bl _) h⟩
theorem lf_ne : Lift2 K (eqD not) (rNeU K) := by
  intro x y S H Q' Q v u rh dx dy h q
  unfold eqD at h
  split at h
  · rename_i b e
    obtain ⟨s, d⟩ := eqS_of e dx dy
    exact .inl ⟨s, by rw [d]; exact q.here rh (.bl _) h⟩
  · split at h
    · cases dx; cases dy
      obtain ⟨xs, ys, e1, e2, ⟨p1, s1⟩, ⟨p2, s2⟩, h⟩ := h
      obtain ⟨vs, g1, r1⟩ := rh.sql e1
      obtain ⟨us, g2, r2⟩ := rh.sql e2
      refine .inr ⟨.list (pds xs), .list (pds ys), .lst g1 (DVs.dp _ _ (by simpa [pur] using p1) r1), .lst g2 (DVs.dp _ _ (by simpa [pur] using p2) r2), ?_, ?_, ?_⟩
      · rw [shaped_list]; simpa [pd] using s1
      · rw [shaped_list]; simpa [pd] using s2
      · exact q.here rh (.bl _) (by simpa [PyData.eqv] using h)
    · obtain ⟨⟨p1, s1⟩, ⟨p2, s2⟩, h⟩ := h
      exact .inr ⟨_, _, DV.dp _ _ p1 dx, DV.dp _ _ p2 dy, s1, s2, q.here rh (.bl _) h⟩
theorem lf_le : Lift2 K leD (rI0 fun i j => .bl (decide (i ≤ j))) := lf_int0 (g := fun i j => .bl (decide (i ≤ j))) (fun x y S Q h => by cases x <;> cases y <;> first | exact h.elim | exact ⟨_, _, rfl, rfl, h⟩) fun _ _ _ => .bl _
theorem lf_ge : Lift2 K geD (rI0 fun i j => .bl (decide (j ≤ i))) := lf_int0 (g := fun i j => .bl (decide (j ≤ i))) (fun x y S Q h => by cases x <;> cases y <;> first | exact h.elim | exact ⟨_, _, rfl, rfl, h⟩) fun _ _ _ => .bl _
theorem lf_gt : Lift2 K gtD (rI0 fun i j => .bl (decide (j < i))) := lf_int0 (g := fun i j => .bl (decide (j < i))) (fun x y S Q h => by cases x <;> cases y <;> first | exact h.elim | exact ⟨_, _, rfl, rfl, h⟩) fun _ _ _ => .bl _
theorem DVs.ints : ∀ {ns : List Int} {vs : List V}, DVs K H (ns.map D.int) vs → vs = ns.map V.int
  | [], _, .nil => rfl
  | _ :: _, _, .cons x r => by cases x; rw [DVs.ints r]; rfl
theorem DVs.ofInts : ∀ {ns : List Int}, DVs K H (ns.map D.int) (ns.map V.int)
  | [] => .nil
  | _ :: _ => .cons (.int _) DVs.ofInts
def rLtU (K : PySem.W.Frag) : R2 := fun x y H Q => rI0 (fun i j => .bl (decide (i < j))) x y H Q ∨ rLtT K x y H Q
theorem op_ltU (hu : X.A.units < cLine) : OpR X (compareOp .Lt) (rLtU X.K) := opr_or op_lt (op_ltT hu)
theorem lf_lt : Lift2 K ltD (rLtU K) := by
  intro x y S H Q' Q v u rh dx dy h q
  cases x <;> cases y <;> try exact h.elim
  · cases dx; cases dy; exact .inl ⟨_, _, rfl, rfl, q.here rh (.bl _) h⟩
  · obtain ⟨ns, ms, rfl, rfl, h⟩ := h
    cases dx with | tup s1 r1 =>
    cases dy with | tup s2 r2 =>
    rw [r1.ints] at s1
    rw [r2.ints] at s2
    exact .inr ⟨_, _, ns, ms, rfl, rfl, s1, s2, q.here rh (.bl _) h⟩
/-- is None, is True, is False -/
def rIsU : R2 := fun x y H Q => (y = .non ∧ Q (.bl (decide (x = .non))) H) ∨ ∃ b, y = .bl b ∧ (∀ n, x ≠ .ty n) ∧ Q (.bl (decide (x = .bl b))) H
def rIsntU : R2 := fun x y H Q => (y = .non ∧ Q (.bl (!decide (x = .non))) H) ∨ ∃ b, y = .bl b ∧ (∀ n, x ≠ .ty n) ∧ Q (.bl (!decide (x = .bl b))) H
theorem is_bl_any {x : V} {v : Value} {b : Bool} (r : RelV x v) (n : ∀ n, x ≠ .ty n) : plainIs v (.bool b) = true ∧ (v == Value.bool b) = decide (x = .bl b) := by
  cases x with
  | non => cases r; exact ⟨rfl, rfl⟩
  | bl a => cases r; refine ⟨rfl, ?_⟩; cases a <;> cases b <;> rfl
  | int _ => obtain ⟨t, rfl⟩ := r; exact ⟨rfl, rfl⟩
  | str _ => obtain ⟨t, rfl⟩ := r; exact ⟨rfl, rfl⟩
  | byt _ => obtain ⟨t, rfl⟩ := r; exact ⟨rfl, rfl⟩
  | flt _ => obtain ⟨t, rfl⟩ := r; exact ⟨rfl, rfl⟩
  | ref _ => cases r; exact ⟨rfl, rfl⟩
  | ty m => exact absurd rfl (n m)
theorem op_isU : OpR X (compareOp .Is) rIsU := by
  intro pins s σ H x y v u Q I rx ry h
  rcases h with h | ⟨b, rfl, n, h⟩
  · exact op_isN pins s σ H x y v u Q I rx ry h
  · cases ry
    obtain ⟨p, e⟩ := is_bl_any (b := b) rx n
    exact wpAny_is_plain p (fin_bl I h e.symm)
theorem op_isntU : OpR X (compareOp .IsNot) rIsntU := by
  intro pins s σ H x y v u Q I rx ry h
  rcases h with h | ⟨b, rfl, n, h⟩
  · exact op_notN pins s σ H x y v u Q I rx ry h
  · cases ry
    obtain ⟨p, e⟩ := is_bl_any (b := b) rx n
    exact wpAny_isNot_plain p (fin_bl I h (by rw [e]))
theorem isN_of {d : D} {v : V} (h : DV K H d v) : decide (v = .non) = isN d := by cases h <;> rfl
theorem lf_is : Lift2 K isD rIsU := by
  intro x y S H Q' Q v u rh dx dy h q
  cases y with
  | non => cases dy; exact .inl ⟨rfl, by rw [isN_of dx]; exact q.here rh (.bl _) h⟩
  | bl b =>
    cases dy
    refine .inr ⟨b, rfl, fun n e => ?_, ?_⟩
    · subst e; cases dx; exact h.elim
    · have e : ∀ a : Bool, decide (V.bl a = V.bl b) = decide (a = b) := fun a => by simp
      cases dx <;> first | exact h.elim | exact q.here rh (.bl _) h | (rw [e]; exact q.here rh (.bl _) h)
  | _ => exact h.elim
theorem lf_isnt : Lift2 K isntD rIsntU := by
  intro x y S H Q' Q v u rh dx dy h q
  cases y with
  | non => cases dy; exact .inl ⟨rfl, by rw [isN_of dx]; exact q.here rh (.bl _) h⟩
  | bl b =>
    cases dy
    refine .inr ⟨b, rfl, fun n e => ?_, ?_⟩
    · subst e; cases dx; exact h.elim
    · have e : ∀ a : Bool, decide (V.bl a = V.bl b) = decide (a = b) := fun a => by simp
      cases dx <;> first | exact h.elim | exact q.here rh (.bl _) h | (rw [e]; exact q.here rh (.bl _) h)
  | _ => exact h.elim
end
/-! ### items, slices -/
def ixD : R2q := fun x y S Q => match x, y with
  | .tup xs, .int i => ∃ d, atI xs i = some d ∧ Q d S
  | .kl xs, .int i => ∃ d, atI xs i = some d ∧ Q d S
  | .ref a, .int i => ∃ xs d, LsR S a xs ∧ atI xs i = some d ∧ Q d S
  | .str z, .int i => ∃ c, z.length ≤ 1000000 ∧ atI z.cps.toList i = some c ∧ Q (.str ⟨#[c]⟩) S
  | _, _ => False
def cutL {α : Type} (xs : List α) (lo hi : Option Int) : List α := (xs.drop (HT.sIx xs.length 0 lo)).take (HT.sIx xs.length xs.length hi - HT.sIx xs.length 0 lo)
def slD (x : D) (lo hi : Option Int) (S : Hq) (Q : Qv) : Prop := match x with
  | .tup xs => Q (.tup (cutL xs lo hi)) S
  | .ref a => ∃ xs, LsR S a xs ∧ ∀ p, S p = none → Q (.ref p) (up S p (.lst (cutL xs lo hi)))
  | .str z => z.length ≤ 1000000 ∧ Q (.str (cutS z lo hi)) S
  | _ => False
section
variable {X : Cx} {K : PySem.W.Frag} {H : Hp} {W : WX} {a b : Expr} {ra rb : RE} {pos p2 : Pos}
theorem DVs.atI {ds : List D} {vs : List V} {i : Int} {d : D} (r : DVs K H ds vs) (e : atI ds i = some d) : ∃ v, atI vs i = some v ∧ DV K H d v := by
  unfold L2.atI at e ⊢
  rw [← r.length]
  cases h : ixN ds.length i with
  | none => rw [h] at e; cases e
  | some j =>
    rw [h] at e
    exact r.get (i := j) e
theorem lf_ix : Lift2 K ixD (rIx K) := by
  intro x y S H Q' Q v u rh dx dy h q
  cases y <;> cases x <;> try exact h.elim
  · cases dx; cases dy; obtain ⟨c, h1, h2, h⟩ := h; exact .inr (.inr ⟨_, _, c, rfl, rfl, big_le h1, h2, q.here rh (.str _) h⟩)
  · cases dy
    cases dx with | tup s r =>
    obtain ⟨d, e, h⟩ := h
    obtain ⟨w, e', dw⟩ := r.atI e
    exact .inr (.inl ⟨_, _, _, w, rfl, rfl, s, e', q.here rh dw h⟩)
  · cases dx; cases dy
    obtain ⟨xs, d, l, e, h⟩ := h
    obtain ⟨ys, s, r⟩ := rh.sql l
    obtain ⟨w, e', dw⟩ := r.atI e
    exact .inl ⟨_, _, _, w, rfl, rfl, s, e', q.here rh dw h⟩
  · cases dy
    cases dx with | kl s r =>
    obtain ⟨d, e, h⟩ := h
    obtain ⟨w, e', dw⟩ := r.atI e
    exact .inl ⟨_, _, _, w, rfl, rfl, s.sql, e', q.here rh dw h⟩
theorem ev_ix (ha : EV X W a ra) (hb : EV X W b rb) (hs : PlainIx b := by exact fun _ _ => rfl) : EV X W (.Subscript a b pos) (rBin ixD ra rb) := by
  obtain ⟨Ta, pa, la⟩ := ha.ex
  obtain ⟨Tb, pb, lb⟩ := hb.ex
  refine ⟨_, pe_ix ix_seq pa pb hs, fun σ σ' H S Q Q' E' rs rh h q xi => ?_⟩
  refine la σ σ' H S _ _ E' rs rh h (fun d S1 v H1 f1 rh1 dv h1 => ?_) xi
  refine lb σ σ' H1 S1 _ _ E' (rs.mono (f1.tle rh)) rh1 h1 (fun e S2 u H2 f2 rh2 du h2 => ?_) (xi.go f1)
  exact lf_ix _ _ _ _ _ _ _ _ rh2 (DV.mono (f2.tle rh1) _ _ dv) du h2 (q.go (f1.trans f2))
/-- a part of a slice -/
abbrev RO' := Sg → Hq → (Option Int → Hq → Prop) → Xw → Prop
structure EO (X : Cx) (W : WX) (e : Option Expr) (t : RO') : Prop where
  ex : ∃ T, PO X e T ∧ ∀ (σ : L2.St) (σ' : Sg) (H : Hp) (S : Hq) (Q : Option Int → Hp → Prop) (Q' : Option Int → Hq → Prop) (E' : Xw), RS X.K H σ' σ → RH X.K S H → t σ' S Q' E' → (∀ o S' H', Fr S H S' H' → RH X.K S' H' → Q' o S' → Q o H') → XI X.K S H E' (wx W σ) → T σ H Q
def rNoP : RO' := fun _ S Q _ => Q none S
def rPrt (r : RE) : RO' := fun σ S Q E => r σ S (fun x S1 => asI x fun i => Q (some i) S1) E
theorem eo_none : EO X W none rNoP := ⟨_, po_none, fun σ σ' H S Q Q' E' rs rh h q xi => q _ _ _ Fr.refl rh h⟩
theorem eo_some (h : EV X W a ra) : EO X W (some a) (rPrt ra) := by
  obtain ⟨T, p, l⟩ := h.ex
  refine ⟨_, po_some p, fun σ σ' H S Q Q' E' rs rh h q xi => ?_⟩
  refine l σ σ' H S _ _ E' rs rh h (fun d S1 v H1 f1 rh1 dv h1 => ?_) xi
  cases d <;> try exact h1.elim
  cases dv
  exact ⟨_, rfl, q _ _ _ f1 rh1 h1⟩
def rSl (ra : RE) (rl ru : RO') : RE := fun σ S Q E => ra σ S (fun x S1 => rl σ S1 (fun l S2 => ru σ S2 (fun u S3 => slD x l u S3 Q) E) E) E
theorem cut_len {ds : List D} {vs : List V} (r : DVs K H ds vs) (lo hi : Option Int) : DVs K H (cutL ds lo hi) (cutV vs lo hi) := by
  unfold cutL cutV
  rw [← r.length]
  exact (r.drop _).take _
def rSlU (K : PySem.W.Frag) : V → Option Int → Option Int → Hp → VK → Prop := fun x lo hi H Q => rSlA K x lo hi H Q ∨ rSlL K x lo hi H Q ∨ rSlS x lo hi H Q
theorem sl_U : SlR X (rSlU X.K) := SlR.or sl_tupA (SlR.or sl_list sl_str)
theorem cutL_whole {α : Type} {xs : List α} {lo hi : Option Int} (h : HT.sIx xs.length 0 lo = 0 ∧ HT.sIx xs.length xs.length hi = xs.length) : cutL xs lo hi = xs := by
  unfold cutL
  rw [h.1, h.2]
  simp
theorem ev_sl {lo hi : Option Expr} {rl ru : RO'} (ha : EV X W a ra) (hl : EO X W lo rl) (hu : EO X W hi ru) : EV X W (.Subscript a (.Slice lo hi none p2) pos) (rSl ra rl ru) := by
  obtain ⟨Ta, pa, la⟩ := ha.ex
  obtain ⟨Tl, pl, ll⟩ := hl.ex
  obtain ⟨Tu, pu, lu⟩ := hu.ex
  refine ⟨_, pe_slice sl_U pa pl pu, fun σ σ' H S Q Q' E' rs rh h q xi => ?_⟩
  refine la σ σ' H S _ _ E' rs rh h (fun d S1 v H1 f1 rh1 dv h1 => ?_) xi
  refine ll σ σ' H1 S1 _ _ E' (rs.mono (f1.tle rh)) rh1 h1 (fun o S2 H2 f2 rh2 h2 => ?_) (xi.go f1)
  refine lu σ σ' H2 S2 _ _ E' (rs.mono ((f1.trans f2).tle rh)) rh2 h2 (fun o' S3 H3 f3 rh3 h3 => ?_) (xi.go (f1.trans f2))
  have dv3 := DV.mono ((f2.trans f3).tle rh1) _ _ dv
  have q3 := q.go ((f1.trans f2).trans f3)
  cases d <;> try exact h3.elim
  · cases dv3; exact .inr (.inr ⟨_, rfl, big_le h3.1, q3.here rh3 (.str _) h3.2⟩)
  · cases dv3 with | tup s r =>
    refine .inl ⟨_, _, rfl, s, fun w => ?_, fun w p hp => q3.newT rh3 hp (cut_len r o o') h3⟩
    have e := cutL_whole (lo := o) (hi := o') (by rw [r.length]; exact w)
    have h4 : Q' (.tup (cutL _ o o')) S3 := h3
    rw [e] at h4
    exact q3.here rh3 (.tup s r) h4
  · cases dv3
    obtain ⟨xs, l, h3⟩ := h3
    obtain ⟨ys, s, r⟩ := rh3.sql l
    exact .inr (.inl ⟨_, _, rfl, s, fun p hp => q3.newL rh3 hp (cut_len r o o') (h3 p (rh3.fresh hp))⟩)
end
end Y
namespace Y
open PySem PySem.Spec PyProof.Rows L2

/-! ### the reading as one below -/
def dnE (K : PySem.W.Frag) (W : WX) (t : RE) : TE := fun σ H Q => ∃ σ' S Q' E', RS K H σ' σ ∧ RH K S H ∧ t σ' S Q' E' ∧ QI K S H Q' Q ∧ XI K S H E' (wx W σ)
def dnT (K : PySem.W.Frag) (W : WX) (t : RT) : TT := fun σ H Q => ∃ σ' S Q' E', RS K H σ' σ ∧ RH K S H ∧ t σ' S Q' E' ∧ QT K S H Q' Q ∧ XI K S H E' (wx W σ)
def dnB (K : PySem.W.Frag) (W : WX) (t : RSt) : TS := fun D σ H => ∃ σ' S D', RS K H σ' σ ∧ RH K S H ∧ t D' σ' S ∧ DI K W S H D' D
section
variable {X : Cx} {W : WX} {e : Expr}
theorem EV.pe {t : RE} (h : EV X W e t) : PE X e (dnE X.K W t) := by
  obtain ⟨T, p, l⟩ := h.ex
  exact ⟨fun pins s σ H Q I ⟨σ', S, Q', E', a, b, c, d, x⟩ => p.run pins s σ H Q I (l σ σ' H S Q Q' E' a b c d x)⟩
theorem ET.pe {t : RT} (h : ET X W e t) : PT X e (dnT X.K W t) := by
  obtain ⟨T, p, l⟩ := h.ex
  exact ⟨fun pins s σ H Q I ⟨σ', S, Q', E', a, b, c, d, x⟩ => p.run pins s σ H Q I (l σ σ' H S Q Q' E' a b c d x)⟩
theorem EB.pe {st : List Stmt} {t : RSt} (h : EB X W st t) : PSs X st (dnB X.K W t) := by
  obtain ⟨T, p, l⟩ := h.ex
  exact ⟨fun pins s σ H D I ⟨σ', S, D', a, b, c, d⟩ => p.run pins s σ H D I (l σ σ' H S D D' a b c d)⟩
end

/-! ### calls -/
abbrev Sq := List D → Hq → Qv → Xw → Prop
def NoX : Xw := fun _ _ _ => False
theorem XI.no {K : PySem.W.Frag} {S : Hq} {H : Hp} {E : XK} : XI K S H NoX E := fun _ _ _ _ _ _ _ _ _ _ _ z => z.elim
def dn (K : PySem.W.Frag) (sp : Sq) : Sp := fun vs H Q E => ∃ ds S Q' E', DVs K H ds vs ∧ RH K S H ∧ sp ds S Q' E' ∧ QI K S H Q' Q ∧ XI K S H E' E
def LiftC (K : PySem.W.Frag) (f : List D → Hq → Qv → Prop) (r : List V → Hp → VK → Prop) : Prop := ∀ ds S H Q' Q vs, RH K S H → DVs K H ds vs → f ds S Q' → QI K S H Q' Q → r vs H Q
def rFn (f : List D → Hq → Qv → Prop) (ra : RA) : RE := fun σ S Q E => ra σ S (fun ds S1 => f ds S1 Q) E
def rCall (sp : Sq) (ra : RA) : RE := fun σ S Q E => ra σ S (fun ds S1 => sp ds S1 Q NoX) E
section
variable {X : Cx} {W : WX} {x : Str} {e : Expr} {es : List Expr} {ra : RA} {p pos : Pos} {f : List D → Hq → Qv → Prop} {r : List V → Hp → VK → Prop}
theorem ev_cB {id : String} (hc : CallR X (.builtin id) r) (hl : LiftC X.K f r) (hm : X.mg x = none) (ha : EA X W (e :: es) ra) (hg : Gl X x := by rfl) (hv : bootBuiltins x = some (.builtin id) := by decide +kernel)
    (hn : x ≠ "__name__" := by decide) (hd : (x == ("__debug__" : Str)) = false := by decide) (he : starEach (e :: es) X.env = (false, eval e X.env) :: starEach es X.env := by rfl)
    (hpl : (backTo pos (starEach es X.env)).any (·.1) = false := by rfl) : EV X W (.Call (.Name x p) (e :: es) [] pos) (rFn f ra) := by
  obtain ⟨Ta, pa, la⟩ := ha.ex
  refine ⟨_, pe_callB hc hg hm hv pa hn hd he hpl, fun σ σ' H S Q Q' E' rs rh h q xi => ?_⟩
  exact la σ σ' H S _ _ E' rs rh h (fun d S1 v H1 f1 rh1 dv h1 => hl _ _ _ _ _ _ rh1 dv h1 (q.go f1)) xi
theorem ev_cT {T : String} (hc : CallR X (.type T) r) (hl : LiftC X.K f r) (hm : X.mg x = none) (ha : EA X W (e :: es) ra) (hg : Gl X x := by rfl) (hv : bootBuiltins x = some (.type T) := by decide +kernel)
    (hn : x ≠ "__name__" := by decide) (hd : (x == ("__debug__" : Str)) = false := by decide) (he : starEach (e :: es) X.env = (false, eval e X.env) :: starEach es X.env := by rfl)
    (hpl : (backTo pos (starEach es X.env)).any (·.1) = false := by rfl) : EV X W (.Call (.Name x p) (e :: es) [] pos) (rFn f ra) := by
  obtain ⟨Ta, pa, la⟩ := ha.ex
  refine ⟨_, pe_callTy hc hg hm hv pa hn hd he hpl, fun σ σ' H S Q Q' E' rs rh h q xi => ?_⟩
  exact la σ σ' H S _ _ E' rs rh h (fun d S1 v H1 f1 rh1 dv h1 => hl _ _ _ _ _ _ rh1 dv h1 (q.go f1)) xi
/-- a built-in type as a value -/
theorem ev_ty {n : String} (hm : X.mg x = none) (hg : Gl X x := by rfl) (hv : bootBuiltins x = some (.type n) := by decide +kernel) (hn : x ≠ "__name__" := by decide) (hd : (x == ("__debug__" : Str)) = false := by decide) : EV X W (.Name x pos) (rC (.ty n)) :=
  ⟨_, pe_bltn (v := .ty n) hg hm hv rfl hn hd, fun σ σ' H S Q Q' E' rs rh h q xi => q.here rh (.ty n) h⟩
variable {k : Nat} {fa : Addr} {fd : FuncData} {ps : List Str} {sp : Sq}
theorem ev_call (F : FnOk X.prog X.w X.K X.mg X.base CX0 k fa fd ps (dn X.K sp)) (hr : Room k X.A) (hm : X.mg x = some (.ref fa)) (hk : PySem.W.keepIn X.K (.ref fa) = true) (hb : Binds X.K fd ps [])
    (ha : EA X W (e :: es) ra) (hg : Gl X x := by rfl) (hdb : (x == ("__debug__" : Str)) = false := by decide) (he : starEach (e :: es) X.env = (false, eval e X.env) :: starEach es X.env := by rfl) (hpl : (backTo pos (starEach es X.env)).any (·.1) = false := by rfl) :
    EV X W (.Call (.Name x p) (e :: es) [] pos) (rCall sp ra) := by
  obtain ⟨Ta, pa, la⟩ := ha.ex
  refine ⟨_, pe_call (E := fun _ _ _ => False) F hr hg hm hk hb .nil pass0 pa hdb he hpl, fun σ σ' H S Q Q' E' rs rh h q xi => ?_⟩
  refine la σ σ' H S _ _ E' rs rh h (fun d S1 v H1 f1 rh1 dv h1 => ?_) xi
  rw [List.append_nil]
  exact ⟨d, S1, Q', NoX, dv, rh1, h1, q.go f1, XI.no⟩
theorem ev_call0 (F : FnOk X.prog X.w X.K X.mg X.base CX0 k fa fd ps (dn X.K sp)) (hr : Room k X.A) (hm : X.mg x = some (.ref fa)) (hk : PySem.W.keepIn X.K (.ref fa) = true) (hb : Binds X.K fd ps [])
    (hg : Gl X x := by rfl) (hdb : (x == ("__debug__" : Str)) = false := by decide) : EV X W (.Call (.Name x p) [] [] pos) (rCall sp rNil) := by
  refine ⟨_, pe_call0 (E := fun _ _ _ => False) F hr hg hm hk hb .nil pass0 hdb, fun σ σ' H S Q Q' E' rs rh h q xi => ?_⟩
  exact ⟨[], S, Q', NoX, .nil, rh, h, q, XI.no⟩
/-! ### arguments by name: π tells, for each parameter, its place among (positional ++ named) -/
structure EK (X : Cx) (W : WX) (kws : List Keyword) (t : RA) : Prop where
  ex : ∃ T, PK X kws T ∧ ∀ (σ : L2.St) (σ' : Sg) (H : Hp) (S : Hq) (Q : List V → Hp → Prop) (Q' : List D → Hq → Prop) (E' : Xw), RS X.K H σ' σ → RH X.K S H → t σ' S Q' E' → QA X.K S H Q' Q → XI X.K S H E' (wx W σ) → T σ H Q
theorem ek_nil : EK X W [] rNil := ⟨_, pk_nil, fun σ σ' H S Q Q' E' rs rh h q xi => q _ _ _ _ Fr.refl rh .nil h⟩
theorem ek_cons {a : Expr} {kws : List Keyword} {nm : Option Str} {kpos : Pos} {r1 : RE} {rr : RA} (ha : EV X W a r1) (hr : EK X W kws rr) : EK X W (⟨nm, a, kpos⟩ :: kws) (rCons r1 rr) := by
  obtain ⟨Ta, pa, la⟩ := ha.ex
  obtain ⟨Tr, pr, lr⟩ := hr.ex
  refine ⟨_, pk_cons pa pr, fun σ σ' H S Q Q' E' rs rh h q xi => ?_⟩
  refine la σ σ' H S _ _ E' rs rh h (fun d S1 v H1 f1 rh1 dv h1 => ?_) xi
  refine lr σ σ' H1 S1 _ _ E' (rs.mono (f1.tle rh)) rh1 h1 (fun e S2 u H2 f2 rh2 du h2 => ?_) (xi.go f1)
  exact q _ _ _ _ (f1.trans f2) rh2 (.cons (DV.mono (f2.tle rh1) _ _ dv) du) h2
def pick {α : Type} (π : List Nat) (xs : List α) : List α := π.filterMap fun i => xs[i]?
theorem DVs.pick {K : PySem.W.Frag} {H : Hp} (π : List Nat) {ds : List D} {vs : List V} (r : DVs K H ds vs) : DVs K H (Y.pick π ds) (Y.pick π vs) := by
  induction π with
  | nil => exact .nil
  | cons i π ih =>
    unfold Y.pick at ih ⊢
    rw [List.filterMap_cons, List.filterMap_cons]
    cases e : ds[i]? with
    | none =>
      have e' : vs[i]? = none := List.getElem?_eq_none_iff.mpr (by rw [← r.length]; exact List.getElem?_eq_none_iff.mp e)
      rw [e']
      exact ih
    | some d =>
      obtain ⟨v, e', dv⟩ := r.get e
      rw [e']
      exact .cons dv ih
theorem Vals.pick (π : List Nat) {vs : List V} {us : List Value} (r : Vals vs us) : Vals (Y.pick π vs) (Y.pick π us) := by
  induction π with
  | nil => exact .nil
  | cons i π ih =>
    unfold Y.pick at ih ⊢
    rw [List.filterMap_cons, List.filterMap_cons]
    cases e : vs[i]? with
    | none =>
      rw [Vals.none_of r e]
      exact ih
    | some d =>
      obtain ⟨v, e', dv⟩ := Vals.get r e
      rw [e']
      exact .cons dv ih
def gk {α : Type} (n m : Nat) (π : List Nat) (us ws : List α) : List α := if us.length = n ∧ ws.length = m then pick π (us ++ ws) else []
theorem DVs.gk {K : PySem.W.Frag} {H : Hp} {n m : Nat} {π : List Nat} {ds es : List D} {vs us : List V} (r : DVs K H ds vs) (r2 : DVs K H es us) : DVs K H (Y.gk n m π ds es) (Y.gk n m π vs us) := by
  unfold Y.gk
  rw [← r.length, ← r2.length]
  split
  · exact (r.app r2).pick π
  · exact .nil
def rCallK (sp : Sq) (n m : Nat) (π : List Nat) (ra rk : RA) : RE := fun σ S Q E => ra σ S (fun ds S1 => rk σ S1 (fun es S2 => sp (gk n m π ds es) S2 Q NoX) E) E
abbrev KBn' (K : PySem.W.Frag) (fd : FuncData) (ps ks : List Str) (n m : Nat) (π : List Nat) : Prop := KBinds K fd ps ks (gk n m π) (gk n m π)
theorem kb_mk {K : PySem.W.Frag} {x qual : Str} {st : Stmt} {f : Addr} {fd : FuncData} {ps ks : List Str} {n m : Nat} {π : List Nat} (F : Fun K x qual st f fd) (hne : ps ≠ [])
    (h : ∀ (kV doc pm : Value) (an : Option Addr) (cdv ct : Value) (us ws : List Value), us.length = n → ws.length = m → bindArgs (PySem.W.fnOf x qual (defArgs st) (defBody st) (defScope st) .none kV doc pm an cdv ct) ⟨us, ks.zip ws⟩ = pure (ps.zip (pick π (us ++ ws)))) : KBn' K fd ps ks n m π := by
  obtain ⟨oc, od, kV, doc, pm, an, cdv, ct, osl, rfl, lk, hcd⟩ := F.ex
  refine ⟨fun s us ws _ hl => ?_, fun {vs us zs ws} r r2 => ?_⟩
  · by_cases c : us.length = n ∧ ws.length = m
    · have e : gk n m π us ws = pick π (us ++ ws) := if_pos c
      rw [e]
      exact .of_eq (h kV doc pm an cdv ct us ws c.1 c.2)
    · have e : gk n m π us ws = [] := if_neg c
      rw [e] at hl
      exact absurd (List.eq_nil_of_length_eq_zero hl.symm) hne
  · unfold gk
    rw [← r.length, ← r2.length]
    split
    · exact Vals.pick π (Vals.append r r2)
    · exact .nil
theorem ev_callK {kws : List Keyword} {ks : List Str} {n m : Nat} {π : List Nat} {rk : RA} (F : FnOk X.prog X.w X.K X.mg X.base CX0 k fa fd ps (dn X.K sp)) (hr : Room k X.A) (hm : X.mg x = some (.ref fa)) (hk : PySem.W.keepIn X.K (.ref fa) = true) (hb : KBn' X.K fd ps ks n m π)
    (ha : EA X W (e :: es) ra) (hkw : EK X W kws rk) (hg : Gl X x := by rfl) (hall : (backToKw pos (keywordEach kws X.env)).all (·.1.isSome) = true := by rfl) (hks : (backToKw pos (keywordEach kws X.env)).filterMap (·.1) = ks := by rfl)
    (hdb : (x == ("__debug__" : Str)) = false := by decide) (he : starEach (e :: es) X.env = (false, eval e X.env) :: starEach es X.env := by rfl)
    (hpl : ((backTo pos (starEach (e :: es) X.env)).any (·.1) || (backToKw pos (keywordEach kws X.env)).any (·.1.isNone)) = false := by rfl) :
    EV X W (.Call (.Name x p) (e :: es) kws pos) (rCallK sp n m π ra rk) := by
  obtain ⟨Ta, pa, la⟩ := ha.ex
  obtain ⟨Tk, pk, lk⟩ := hkw.ex
  refine ⟨_, pe_callK (E := fun _ _ _ => False) F hr hg hm hk hb pass0 pa pk hall hks hdb he hpl, fun σ σ' H S Q Q' E' rs rh h q xi => ?_⟩
  refine la σ σ' H S _ _ E' rs rh h (fun d S1 v H1 f1 rh1 dv h1 => ?_) xi
  refine lk σ σ' H1 S1 _ _ E' (rs.mono (f1.tle rh)) rh1 h1 (fun e S2 u H2 f2 rh2 du h2 => ?_) (xi.go f1)
  exact ⟨_, S2, Q', NoX, DVs.gk (DVs.mono (f2.tle rh1) _ _ dv) du, rh2, h2, q.go (f1.trans f2), XI.no⟩
theorem ev_callK0 {kws : List Keyword} {ks : List Str} {n m : Nat} {π : List Nat} {rk : RA} (F : FnOk X.prog X.w X.K X.mg X.base CX0 k fa fd ps (dn X.K sp)) (hr : Room k X.A) (hm : X.mg x = some (.ref fa)) (hk : PySem.W.keepIn X.K (.ref fa) = true) (hb : KBn' X.K fd ps ks n m π)
    (hkw : EK X W kws rk) (hg : Gl X x := by rfl) (hall : (backToKw pos (keywordEach kws X.env)).all (·.1.isSome) = true := by rfl) (hks : (backToKw pos (keywordEach kws X.env)).filterMap (·.1) = ks := by rfl)
    (hdb : (x == ("__debug__" : Str)) = false := by decide)
    (hpl : ((backTo pos (starEach [] X.env)).any (·.1) || (backToKw pos (keywordEach kws X.env)).any (·.1.isNone)) = false := by rfl) :
    EV X W (.Call (.Name x p) [] kws pos) (rCallK sp n m π rNil rk) := by
  obtain ⟨Tk, pk, lk⟩ := hkw.ex
  refine ⟨tCallK (dn X.K sp) (gk n m π) (fun _ _ _ => False) tNil Tk, ⟨fun pins s σ H Q I h => ?_⟩, fun σ σ' H S Q Q' E' rs rh h q xi => ?_⟩
  · refine wpAny_Call_Name_kw (ld_glob I hg hm ?_ hdb)
    refine PySem.W.callWith_KW0 (h₀ := X.base) I.ok.mod.kin hk hall (thn (pk.run pos pins s σ H _ I h) fun ws s2 ⟨zs, H2, I2, rz, q2⟩ => ⟨I2.kIn, ?_⟩) hpl
    rw [hks]
    exact run_fnk F hr hb pass0 I2 .nil rz q2
  · refine lk σ σ' H S _ _ E' rs rh h (fun e S2 u H2 f2 rh2 du h2 => ?_) xi
    exact ⟨_, S2, Q', NoX, DVs.gk .nil du, rh2, h2, q.go f2, XI.no⟩
def negD (x : D) (S : Hq) (Q : Qv) : Prop := match x with | .int i => Q (.int (-i)) S | _ => False
theorem ev_neg {r1 : RE} (h : EV X W e r1) : EV X W (.UnaryOp .USub e pos) (rUn negD r1) := by
  obtain ⟨T, p, l⟩ := h.ex
  refine ⟨_, pe_un un_neg p, fun σ σ' H S Q Q' E' rs rh h q xi => ?_⟩
  refine l σ σ' H S _ _ E' rs rh h (fun d S1 v H1 f1 rh1 dv h1 => ?_) xi
  cases d <;> try exact h1.elim
  cases dv
  exact ⟨_, rfl, q _ _ _ _ f1 rh1 (.int _) h1⟩
end

/-! ### built-ins -/
def lenD (ds : List D) (S : Hq) (Q : Qv) : Prop := match ds with
  | [.tup xs] => Q (.int xs.length) S
  | [.kl xs] => Q (.int xs.length) S
  | [.str z] => z.length ≤ 1000000 ∧ Q (.int z.length) S
  | [.ref a] => ∃ xs, LsR S a xs ∧ Q (.int xs.length) S
  | _ => False
def absD (ds : List D) (S : Hq) (Q : Qv) : Prop := match ds with | [.int i] => Q (.int (if i < 0 then -i else i)) S | _ => False
def intF (ds : List D) (S : Hq) (Q : Qv) : Prop := match ds with | [.int i] => Q (.int i) S | [.bl k] => Q (.int (if k then 1 else 0)) S | _ => False
def maxD (ds : List D) (S : Hq) (Q : Qv) : Prop := match ds with | [.int i, .int j] => Q (.int (if j > i then j else i)) S | _ => False
def minD (ds : List D) (S : Hq) (Q : Qv) : Prop := match ds with | [.int i, .int j] => Q (.int (if j < i then j else i)) S | _ => False
def tupF (ds : List D) (S : Hq) (Q : Qv) : Prop := match ds with
  | [.tup xs] => Q (.tup xs) S
  | [.ref a] => ∃ xs, LsR S a xs ∧ Q (.tup xs) S
  | _ => False
def lstF (ds : List D) (S : Hq) (Q : Qv) : Prop := match ds with
  | [.tup xs] => ∀ p, S p = none → Q (.ref p) (up S p (.lst xs))
  | [.ref a] => ∃ xs, LsR S a xs ∧ ∀ p, S p = none → Q (.ref p) (up S p (.lst xs))
  | _ => False
/-- the type's name -/
def tyN (x : D) (S : Hq) : Option String := match x with
  | .non => some "NoneType" | .bl _ => some "bool" | .int _ => some "int" | .str _ => some "str" | .tup _ => some "tuple"
  | .ref a => match S a with | some (.lst _) => some "list"  | some (.dk _) => some "dict" | some (.dt _) => some "dict" | _ => none
  | .ty _ => none
  | .kl _ => some "list"
  | .cl _ => none
def isiB (t n : String) : Option Bool :=
  if n = "int" then some (t == "int" || t == "bool") else if n = "bool" then some (t == "bool") else if n = "tuple" then some (t == "tuple") else if n = "list" then some (t == "list") else if n = "str" then some (t == "str") else none
def isiR (t n : String) (S : Hq) (Q : Qv) : Prop := match isiB t n with | some b => Q (.bl b) S | none => False
def isiD (ds : List D) (S : Hq) (Q : Qv) : Prop := match ds with
  | [x, .ty n] => match tyN x S with | some t => isiR t n S Q | none => False
  | _ => False
theorem isiB_kit {t n : String} {b : Bool} (ht : t = "NoneType" ∨ t = "bool" ∨ t = "int" ∨ t = "str" ∨ t = "tuple" ∨ t = "list" ∨ t = "dict") (h : isiB t n = some b) : kitB t n = some b := by
  unfold isiB at h
  split at h
  · rename_i e; subst e; rcases ht with e | e | e | e | e | e | e <;> subst e <;> (cases h; decide +kernel)
  · split at h
    · rename_i e; subst e; rcases ht with e | e | e | e | e | e | e <;> subst e <;> (cases h; decide +kernel)
    · split at h
      · rename_i e; subst e; rcases ht with e | e | e | e | e | e | e <;> subst e <;> (cases h; decide +kernel)
      · split at h
        · rename_i e; subst e; rcases ht with e | e | e | e | e | e | e <;> subst e <;> (cases h; decide +kernel)
        · split at h
          · rename_i e; subst e; rcases ht with e | e | e | e | e | e | e <;> subst e <;> (cases h; decide +kernel)
          · cases h
section
variable {X : Cx} {K : PySem.W.Frag} {S : Hq} {H : Hp}
theorem TyX.ofSqT {a : Addr} {xs : List V} (h : SqT K H a xs) : TyX K H (.ref a) (.type "tuple") := by
  rcases h with (h | ⟨o, h⟩) | ⟨o, its, n, hk, hc, _⟩
  · exact .base (.tup h)
  · exact .fTuple h
  · exact .kTuple hk hc
theorem tyN_of {x : D} {v : V} {t : String} (rh : RH K S H) (d : DV K H x v) (e : tyN x S = some t) : TyX K H v (.type t) ∧ (t = "NoneType" ∨ t = "bool" ∨ t = "int" ∨ t = "str" ∨ t = "tuple" ∨ t = "list" ∨ t = "dict") := by
  cases d with
  | non => cases e; exact ⟨.base .non, by simp⟩
  | bl => cases e; exact ⟨.base (.bl _), by simp⟩
  | int => cases e; exact ⟨.base (.int _), by simp⟩
  | str => cases e; exact ⟨.base (.str _), by simp⟩
  | tup s r => cases e; exact ⟨TyX.ofSqT s, by simp⟩
  | ty => cases e
  | cl => cases e
  | kl s r =>
    cases e
    refine ⟨?_, by simp⟩
    rcases s with ⟨o, s⟩ | ⟨o, its, n, hk, hc, _⟩
    · exact .base (.frz s)
    · exact .kList hk hc
  | ref a =>
    unfold tyN at e
    simp only at e
    cases g : S a with
    | none => rw [g] at e; cases e
    | some o =>
      have q := rh a o g
      rw [g] at e
      cases o with
      | lst xs => cases e; obtain ⟨ys, q, _⟩ := q; exact ⟨.base (.lst q), by simp⟩
      | ins C fs => cases e
      | exd fs => cases e
      | dk kvs => cases e; obtain ⟨ys, q, _⟩ := q; exact ⟨.base (.dK q), by simp⟩
      | dt kvs => cases e; obtain ⟨ys, q, _⟩ := q; exact ⟨.base (.dT q), by simp⟩
      | fk => cases e
      | ft => cases e
      | tb => cases e
      | co => cases e
theorem lc_isi : LiftC K isiD (rIsi K) := by
  intro ds S H Q' Q vs rh dv h q
  match ds, dv with
  | [x, .ty n], .cons d1 (.cons d2 .nil) =>
    cases d2
    have h : (match tyN x S with | some t => isiR t n S Q' | none => False) := h
    split at h
    · rename_i t et
      unfold isiR at h
      split at h
      · rename_i b eb
        obtain ⟨ty, ts⟩ := tyN_of rh d1 et
        exact ⟨_, _, _, _, b, rfl, .ty n, ty, kit_ty (isiB_kit ts eb), q.here rh (.bl _) h⟩
      · exact h.elim
    · exact h.elim
theorem cr_len : CallR X (.builtin "len") (fun xs H Q => (∃ p ys, xs = [.ref p] ∧ (SqL X.K H p ys ∨ SqT X.K H p ys) ∧ Q (.int ys.length) H) ∨ (∃ z, xs = [.str z] ∧ z.length ≤ sizeLine ∧ Q (.int z.length) H)) := callr_or call_len_seq call_len_str
theorem lc_len : LiftC K lenD (fun xs H Q => (∃ p ys, xs = [.ref p] ∧ (SqL K H p ys ∨ SqT K H p ys) ∧ Q (.int ys.length) H) ∨ (∃ z, xs = [.str z] ∧ z.length ≤ sizeLine ∧ Q (.int z.length) H)) := by
  intro ds S H Q' Q vs rh dv h q
  match ds, dv, h with
  | [.tup xs], .cons (.tup s r) .nil, h => exact .inl ⟨_, _, rfl, .inr s, by rw [← r.length]; exact q.here rh (.int _) h⟩
  | [.kl xs], .cons (.kl s r) .nil, h => exact .inl ⟨_, _, rfl, .inl s.sql, by rw [← r.length]; exact q.here rh (.int _) h⟩
  | [.str z], .cons (.str _) .nil, h => exact .inr ⟨z, rfl, big_le h.1, q.here rh (.int _) h.2⟩
  | [.ref a], .cons (.ref _) .nil, h =>
    obtain ⟨xs, l, h⟩ := h
    obtain ⟨ys, s, r⟩ := rh.sql l
    exact .inl ⟨_, _, rfl, .inl s, by rw [← r.length]; exact q.here rh (.int _) h⟩
theorem lc_abs : LiftC K absD (fun xs H Q => ∃ i, xs = [.int i] ∧ Q (.int (if i < 0 then -i else i)) H) := by
  intro ds S H Q' Q vs rh dv h q
  match ds, dv, h with
  | [.int i], .cons (.int _) .nil, h => exact ⟨_, rfl, q.here rh (.int _) h⟩
theorem lc_int : LiftC K intF (fun xs H Q => (∃ i, xs = [.int i] ∧ Q (.int i) H) ∨ ∃ k, xs = [.bl k] ∧ Q (.int (if k then 1 else 0)) H) := by
  intro ds S H Q' Q vs rh dv h q
  match ds, dv, h with
  | [.int i], .cons (.int _) .nil, h => exact .inl ⟨_, rfl, q.here rh (.int _) h⟩
  | [.bl i], .cons (.bl _) .nil, h => exact .inr ⟨_, rfl, q.here rh (.int _) h⟩
theorem lc_max : LiftC K maxD (fun xs H Q => ∃ i j, xs = [.int i, .int j] ∧ Q (.int (if j > i then j else i)) H) := by
  intro ds S H Q' Q vs rh dv h q
  match ds, dv, h with
  | [.int i, .int j], .cons (.int _) (.cons (.int _) .nil), h => exact ⟨_, _, rfl, q.here rh (.int _) h⟩
theorem lc_min : LiftC K minD (fun xs H Q => ∃ i j, xs = [.int i, .int j] ∧ Q (.int (if j < i then j else i)) H) := by
  intro ds S H Q' Q vs rh dv h q
  match ds, dv, h with
  | [.int i, .int j], .cons (.int _) (.cons (.int _) .nil), h => exact ⟨_, _, rfl, q.here rh (.int _) h⟩
theorem lc_tup : LiftC K tupF (fun xs H Q => ∃ p ys, xs = [.ref p] ∧ ((SqL K H p ys ∧ ∀ l, H l = none → Q (.ref l) (upd H l (.tup ys))) ∨ (SqT K H p ys ∧ Q (.ref p) H))) := by
  intro ds S H Q' Q vs rh dv h q
  match ds, dv, h with
  | [.tup xs], .cons (.tup s r) .nil, h => exact ⟨_, _, rfl, .inr ⟨s, q.here rh (.tup s r) h⟩⟩
  | [.ref a], .cons (.ref _) .nil, h =>
    obtain ⟨xs, l, h⟩ := h
    obtain ⟨ys, s, r⟩ := rh.sql l
    exact ⟨_, _, rfl, .inl ⟨s, fun p hp => q.newT rh hp r h⟩⟩
theorem lc_list : LiftC K lstF (fun xs H Q => ∃ p ys, xs = [.ref p] ∧ (SqL K H p ys ∨ SqT K H p ys) ∧ ∀ l, H l = none → Q (.ref l) (upd H l (.lst ys))) := by
  intro ds S H Q' Q vs rh dv h q
  match ds, dv, h with
  | [.tup xs], .cons (.tup s r) .nil, h => exact ⟨_, _, rfl, .inr s, fun p hp => q.newL rh hp r (h p (rh.fresh hp))⟩
  | [.ref a], .cons (.ref _) .nil, h =>
    obtain ⟨xs, l, h⟩ := h
    obtain ⟨ys, s, r⟩ := rh.sql l
    exact ⟨_, _, rfl, .inl s, fun p hp => q.newL rh hp r (h p (rh.fresh hp))⟩
end

/-! ### methods of built-in types -/
def rMt (T : String) (f : D → List D → Hq → Qv → Prop) (ro : RE) (ra : RA) : RE := fun σ S Q E => ro σ S (fun x S1 => tyN x S1 = some T ∧ ra σ S1 (fun ds S2 => f x ds S2 Q) E) E
def LiftM (K : PySem.W.Frag) (f : D → List D → Hq → Qv → Prop) (r : V → List V → Hp → VK → Prop) : Prop := ∀ x ds S H Q' Q v vs, RH K S H → DV K H x v → DVs K H ds vs → f x ds S Q' → QI K S H Q' Q → r v vs H Q
section
variable {X : Cx} {K : PySem.W.Frag} {S : Hq} {H : Hp} {W : WX}
theorem tyV_of {x : D} {v : V} {T : String} (rh : RH K S H) (d : DV K H x v) (hT : T = "list" ∨ T = "str" ∨ T = "dict") (e : tyN x S = some T) : tyV K T v H := by
  cases d with
  | str => cases e; rfl
  | ref a =>
    unfold tyN at e
    simp only at e
    cases g : S a with
    | none => rw [g] at e; cases e
    | some o =>
      have q := rh a o g
      rw [g] at e
      cases o with
      | lst xs => cases e; obtain ⟨ys, q, _⟩ := q; exact .inl ⟨rfl, ys, .inl (.inl q)⟩
      | ins C fs => cases e
      | exd fs => cases e
      | dk kvs => cases e; obtain ⟨ys, q, _⟩ := q; exact .inr (.inr (.inl ⟨rfl, .inl ⟨ys, q⟩⟩))
      | dt kvs => cases e; obtain ⟨ys, q, _⟩ := q; exact .inr (.inr (.inl ⟨rfl, .inr ⟨ys, q⟩⟩))
      | fk => cases e
      | ft => cases e
      | tb => cases e
      | co => cases e
  | non => cases e; rcases hT with e | e | e <;> simp at e
  | bl => cases e; rcases hT with e | e | e <;> simp at e
  | int => cases e; rcases hT with e | e | e <;> simp at e
  | tup => cases e; rcases hT with e | e | e <;> simp at e
  | ty => cases e
  | cl => cases e
  | kl s r => cases e; exact .inl ⟨rfl, _, s.sql⟩
variable {o e : Expr} {es : List Expr} {ro : RE} {ra : RA} {name : Str} {apos cpos : Pos} {T id : String} {f : D → List D → Hq → Qv → Prop} {r : V → List V → Hp → VK → Prop}
theorem ev_mt (pa : PlainAttrs T) (slot : Slot T name id) (hty : typeOf (.builtin id) = pure (.type "method_descriptor")) (hT : T = "list" ∨ T = "str" ∨ T = "dict") (hm : MtR X id r) (hl : LiftM X.K f r) (ho : EV X W o ro) (ha : EA X W (e :: es) ra)
    (hbase : attributeBase o name X.env (eval o X.env) = eval o X.env := by rfl)
    (hfew : ((backTo cpos (starEach (e :: es) X.env)).all (fun x => !x.1) && (backToKw cpos (keywordEach [] X.env)).all (fun x => x.1.isSome)
      && decide ((e :: es).length + ([] : List Keyword).length + (if ([] : List Keyword).isEmpty then 0 else 1) < 30)) = true := by rfl)
    (hline : (apos.endLine == cpos.line) = true := by rfl) (hs : starEach (e :: es) X.env = (false, eval e X.env) :: starEach es X.env := by rfl) (hplain : (backTo cpos (starEach es X.env)).any (·.1) = false := by rfl) :
    EV X W (.Call (.Attribute o name apos) (e :: es) [] cpos) (rMt T f ro ra) := by
  obtain ⟨To, po, lo⟩ := ho.ex
  obtain ⟨Ta, paa, la⟩ := ha.ex
  refine ⟨_, pe_bm pa slot hty hm po paa hbase hfew hline hs hplain, fun σ σ' H S Q Q' E' rs rh h q xi => ?_⟩
  refine lo σ σ' H S _ _ E' rs rh h (fun d S1 v H1 f1 rh1 dv h1 => ⟨tyV_of rh1 dv hT h1.1, ?_⟩) xi
  refine la σ σ' H1 S1 _ _ E' (rs.mono (f1.tle rh)) rh1 h1.2 (fun e S2 u H2 f2 rh2 du h2 => ?_) (xi.go f1)
  exact hl _ _ _ _ _ _ _ _ rh2 (DV.mono (f2.tle rh1) _ _ dv) du h2 (q.go (f1.trans f2))
theorem ev_mt0 (pa : PlainAttrs T) (slot : Slot T name id) (hty : typeOf (.builtin id) = pure (.type "method_descriptor")) (hT : T = "list" ∨ T = "str" ∨ T = "dict") (hm : MtR X id r) (hl : LiftM X.K f r) (ho : EV X W o ro)
    (hbase : attributeBase o name X.env (eval o X.env) = eval o X.env := by rfl) (hline : (apos.endLine == cpos.line) = true := by rfl) : EV X W (.Call (.Attribute o name apos) [] [] cpos) (rMt T f ro rNil) := by
  obtain ⟨To, po, lo⟩ := ho.ex
  refine ⟨_, pe_bm0 pa slot hty hm po hbase hline, fun σ σ' H S Q Q' E' rs rh h q xi => ?_⟩
  refine lo σ σ' H S _ _ E' rs rh h (fun d S1 v H1 f1 rh1 dv h1 => ⟨tyV_of rh1 dv hT h1.1, ?_⟩) xi
  exact hl _ _ _ _ _ _ _ _ rh1 dv .nil h1.2 (q.go f1)
def appD (x : D) (ds : List D) (S : Hq) (Q : Qv) : Prop := match x, ds with
  | .ref a, [y] => ∃ xs, S a = some (.lst xs) ∧ xs.length < 1000000 ∧ Q .non (up S a (.lst (xs ++ [y])))
  | _, _ => False
theorem lm_app : LiftM K appD rAppend := by
  intro x ds S H Q' Q v vs rh dx dv h q
  match x, ds, dx, dv, h with
  | .ref a, [y], .ref _, .cons d .nil, h =>
    obtain ⟨xs, e, hz, h⟩ := h
    obtain ⟨ys, g, r⟩ := rh.lst e
    exact ⟨_, ys, _, rfl, rfl, g, by rw [← r.length]; exact big_lt hz, q.putL rh e (r.app (.cons d .nil)) .non h⟩
def extD (x : D) (ds : List D) (S : Hq) (Q : Qv) : Prop := match x, ds with
  | .ref a, [.ref b] => ∃ xs ys, S a = some (.lst xs) ∧ S b = some (.lst ys) ∧ xs.length + ys.length ≤ 1000000 ∧ Q .non (up S a (.lst (xs ++ ys)))
  | _, _ => False
theorem lm_ext : LiftM K extD rExtend := by
  intro x ds S H Q' Q v vs rh dx dv h q
  match x, ds, dx, dv, h with
  | .ref a, [.ref b], .ref _, .cons (.ref _) .nil, h =>
    obtain ⟨xs, ys, e, e2, hz, h⟩ := h
    obtain ⟨us, g, r⟩ := rh.lst e
    obtain ⟨ws, g2, r2⟩ := rh.lst e2
    exact ⟨_, _, us, ws, rfl, rfl, g, g2, by rw [← r.length, ← r2.length]; exact big_le hz, q.putL rh e (r.app r2) .non h⟩
/-- texts -/
def strsD : List D → Option (List Str)
  | [] => some []
  | .str z :: r => (strsD r).map (z :: ·)
  | _ :: _ => none
theorem strsD_of : ∀ {ds : List D} {zs : List Str} {vs : List V}, strsD ds = some zs → DVs K H ds vs → vs = zs.map V.str
  | [], _, _, e, h => by cases h; cases e; rfl
  | .str z :: r, _, _, e, h => by
    cases h with | cons a b =>
    cases a
    unfold strsD at e
    cases g : strsD r with
    | none => rw [g] at e; cases e
    | some l => rw [g] at e; cases e; rw [strsD_of g b]; rfl
  | .non :: _, _, _, e, _ => by cases e
  | .bl _ :: _, _, _, e, _ => by cases e
  | .int _ :: _, _, _, e, _ => by cases e
  | .tup _ :: _, _, _, e, _ => by cases e
  | .ref _ :: _, _, _, e, _ => by cases e
  | .ty _ :: _, _, _, e, _ => by cases e
  | .kl _ :: _, _, _, e, _ => by cases e
  | .cl _ :: _, _, _, e, _ => by cases e
def joinD (x : D) (ds : List D) (S : Hq) (Q : Qv) : Prop := match x, ds with
  | .str z, [.ref a] => ∃ xs zs, LsR S a xs ∧ strsD xs = some zs ∧ (zs.map (·.length)).sum + zs.length * z.length ≤ 1000000 ∧ Q (.str (Txt.join z zs)) S
  | .str z, [.tup xs] => ∃ zs, strsD xs = some zs ∧ (zs.map (·.length)).sum + zs.length * z.length ≤ 1000000 ∧ Q (.str (Txt.join z zs)) S
  | _, _ => False
theorem lm_join : LiftM X.K joinD (fun x xs H Q => ∃ a p, ∃ ys : List Str, x = .str a ∧ xs = [.ref p] ∧ (SqL X.K H p (ys.map V.str) ∨ SqT X.K H p (ys.map V.str)) ∧
    (ys.map (·.length)).sum + ys.length * a.length ≤ 16777216 ∧ Q (.str (Txt.join a ys)) H) := by
  intro x ds S H Q' Q v vs rh dx dv h q
  match x, ds, dx, dv, h with
  | .str z, [.ref a], .str _, .cons (.ref _) .nil, h =>
    obtain ⟨xs, zs, l, e, hz, h⟩ := h
    obtain ⟨ys, s, r⟩ := rh.sql l
    rw [strsD_of e r] at s
    exact ⟨_, _, zs, rfl, rfl, .inl s, Nat.le_trans hz (by decide), q.here rh (.str _) h⟩
  | .str z, [.tup xs], .str _, .cons (.tup s r) .nil, h =>
    obtain ⟨zs, e, hz, h⟩ := h
    rw [strsD_of e r] at s
    exact ⟨_, _, zs, rfl, rfl, .inr s, Nat.le_trans hz (by decide), q.here rh (.str _) h⟩
def stwD (x : D) (ds : List D) (S : Hq) (Q : Qv) : Prop := match x, ds with
  | .str a, [.str b] => Q (.bl (Txt.startswith a b)) S
  | _, _ => False
theorem lm_stw : LiftM K stwD (fun x xs H Q => ∃ a b, x = .str a ∧ xs = [.str b] ∧ Q (.bl (Txt.startswith a b)) H) := by
  intro x ds S H Q' Q v vs rh dx dv h q
  match x, ds, dx, dv, h with
  | .str a, [.str b], .str _, .cons (.str _) .nil, h => exact ⟨a, b, rfl, rfl, q.here rh (.bl _) h⟩
end
end Y
namespace Y
open PySem PySem.Spec PyProof.Rows L2

/-! ### targets -/
abbrev RG := D → Sg → Hq → (Sg → Hq → Prop) → Xw → Prop
abbrev RGs := List D → Sg → Hq → (Sg → Hq → Prop) → Xw → Prop
def SI' (K : PySem.W.Frag) (S : Hq) (H : Hp) (N' : Sg → Hq → Prop) (N : L2.St → Hp → Prop) : Prop := SI K S H N' N
structure EG (X : Cx) (W : WX) (tg : Expr) (t : RG) : Prop where
  ex : ∃ T, PG X tg T ∧ ∀ (σ : L2.St) (σ' : Sg) (H : Hp) (S : Hq) (d : D) (v : V) (N : L2.St → Hp → Prop) (N' : Sg → Hq → Prop) (E' : Xw), RS X.K H σ' σ → RH X.K S H → DV X.K H d v → t d σ' S N' E' → SI X.K S H N' N → XI X.K S H E' (wx W σ) → T v σ H N
structure EGs (X : Cx) (W : WX) (tg : List Expr) (t : RGs) : Prop where
  ex : ∃ T, PGs X tg T ∧ ∀ (σ : L2.St) (σ' : Sg) (H : Hp) (S : Hq) (d : List D) (v : List V) (N : L2.St → Hp → Prop) (N' : Sg → Hq → Prop), RS X.K H σ' σ → RH X.K S H → DVs X.K H d v → t d σ' S N' NoX → SI X.K S H N' N → T v σ H N
def gNm (i : Nat) : RG := fun d σ S N _ => N (σ.set i (some d)) S
def gNils : RGs := fun ds σ S N _ => match ds with | [] => N σ S | _ => False
def gConss (g : RG) (r : RGs) : RGs := fun ds σ S N E => match ds with | d :: ds => g d σ S (fun σ1 S1 => r ds σ1 S1 N E) E | _ => False
def gTp (n : Nat) (r : RGs) : RG := fun d σ S N _ => match d with | .tup ds => ds.length = n ∧ r ds σ S N NoX | _ => False
section
variable {X : Cx} {W : WX} {pos : Pos}
theorem eg_nm (i : Nat) {x : Str} (hN : X.N.Nodup) (hi : X.N[i]? = some x := by rfl) (hx : Loc X.env.scope x := by first | exact .inl rfl | exact .inr rfl) (hf : X.fn x = true ∨ X.env.scope.names.lookup x = some .local := by first | exact .inl rfl | exact .inr rfl | assumption) : EG X W (.Name x pos) (gNm i) :=
  ⟨_, pg_name hN hi hx hf, fun σ σ' H S d v N N' E' rs rh dv h n x => n _ _ _ _ Fr.refl rh (rs.set dv i) h⟩
theorem egs_nil : EGs X W [] gNils := by
  refine ⟨_, pgs_nil, fun σ σ' H S d v N N' rs rh dv h n => ?_⟩
  cases dv with
  | nil => exact ⟨rfl, n _ _ _ _ Fr.refl rh rs h⟩
  | cons _ _ => exact h.elim
theorem egs_cons {e : Expr} {es : List Expr} {g : RG} {r : RGs} (h1 : EG X W e g) (h2 : EGs X W es r) (hs : (assignEach (e :: es) X.env).map (·.2) = assign e X.env :: (assignEach es X.env).map (·.2) := by rfl) : EGs X W (e :: es) (gConss g r) := by
  obtain ⟨T1, p1, l1⟩ := h1.ex
  obtain ⟨T2, p2, l2⟩ := h2.ex
  refine ⟨_, pgs_cons p1 p2 hs, fun σ σ' H S d v N N' rs rh dv h n => ?_⟩
  cases dv with
  | nil => exact h.elim
  | cons x r =>
    refine ⟨_, _, rfl, l1 σ σ' H S _ _ _ _ NoX rs rh x h (fun σ1' S1 σ1 H1 f1 rh1 rs1 h1 => ?_) XI.no⟩
    exact l2 σ1 σ1' H1 S1 _ _ _ _ rs1 rh1 (DVs.mono (f1.tle rh) _ _ r) h1 (n.go f1)
theorem eg_tp {es : List Expr} {k : Nat} {r : RGs} {n : Nat} (hc : X.calm = true) (h : EGs X W es r) (hn : (assignEach es X.env).length = n := by rfl) (hst : (assignEach es X.env).findIdx? (·.1) = none := by rfl) : EG X W (.Tuple es k pos) (gTp n r) := by
  obtain ⟨T, p, l⟩ := h.ex
  refine ⟨_, pg_tup hc p hn hst, fun σ σ' H S d v N N' E' rs rh dv h nn x => ?_⟩
  cases dv with
  | tup s r => exact ⟨_, _, rfl, s, by rw [← r.length]; exact h.1, l σ σ' H S _ _ N N' rs rh r h.2 nn⟩
  | _ => exact h.elim
def setD (o i d : D) (S : Hq) (Q : Hq → Prop) : Prop := match o, i with
  | .ref a, .int k => ∃ xs j, S a = some (.lst xs) ∧ ixN xs.length k = some j ∧ Q (up S a (.lst (xs.set j d)))
  | _, _ => False
def gSb (ro ri : RE) : RG := fun d σ S N E => ro σ S (fun o S1 => ri σ S1 (fun i S2 => setD o i d S2 (fun S3 => N σ S3)) E) E
theorem eg_sb {o i : Expr} {ro ri : RE} (ho : EV X W o ro) (hi : EV X W i ri)
    (ha : ∀ v, assign (.Subscript o i pos) X.env v = (do
      let ov ← holding [v] (eval o X.env)
      let iv ← holding [v, ov] (eval i X.env)
      standAt pos
      holding [v, ov, iv] (setItem ov iv v)
      release [v, ov, iv] []) := by intro _; rfl) : EG X W (.Subscript o i pos) (gSb ro ri) := by
  obtain ⟨To, po, lo⟩ := ho.ex
  obtain ⟨Ti, pi, li⟩ := hi.ex
  refine ⟨_, pg_sub po pi set_list ha, fun σ σ' H S d v N N' E' rs rh dv h n x => ?_⟩
  refine lo σ σ' H S _ _ E' rs rh h (fun o S1 ov H1 f1 rh1 do1 h1 => ?_) x
  refine li σ σ' H1 S1 _ _ E' (rs.mono (f1.tle rh)) rh1 h1 (fun i S2 iv H2 f2 rh2 di h2 => ?_) (x.go f1)
  cases o <;> cases i <;> try exact h2.elim
  cases do1; cases di
  obtain ⟨xs, j, e, ix, h2⟩ := h2
  obtain ⟨ys, g, r⟩ := rh2.lst e
  have f12 := f1.trans f2
  have dv2 := DV.mono (f12.tle rh) _ _ dv
  have t : Tle X.K H2 (upd H2 _ (.lst (ys.set j v))) := rh2.putTle (o := .lst (ys.set j v)) e
  have f3 := Fr.put (H := H2) (o := .lst (ys.set j v)) (q := .lst (xs.set j d)) e
  exact ⟨_, ys, _, j, rfl, rfl, g, by rw [← r.length]; exact ix, n _ _ _ _ (f12.trans f3) (rh2.put (q := .lst (xs.set j d)) e ⟨_, upd_same, DVs.mono t _ _ (r.set j dv2)⟩) (rs.mono ((f12.trans f3).tle rh)) h2⟩
end

/-! ### statements -/
def En.x (D : En) (σ : Sg) : Xw := fun C fs S => D.ex C fs σ S
def rNext : RSt := fun D σ S => D.nx σ S
def rSeq (t u : RSt) : RSt := fun D σ S => t { D with nx := u D } σ S
def rDrop (r : RE) : RSt := fun D σ S => r σ S (fun _ S1 => D.nx σ S1) (D.x σ)
def rRet (r : RE) : RSt := fun D σ S => r σ S D.rt (D.x σ)
def rRetN : RSt := fun D _ S => D.rt .non S
def rBrk : RSt := fun D σ S => D.bk σ S
def rCnt : RSt := fun D σ S => D.ct σ S
def rIfS (c : RT) (t u : RSt) : RSt := fun D σ S => c σ S (fun b S1 => if b = true then t D σ S1 else u D σ S1) (D.x σ)
def rSet (r : RE) (g : RG) : RSt := fun D σ S => r σ S (fun d S1 => g d σ S1 D.nx (D.x σ)) (D.x σ)
section
variable {X : Cx} {W : WX} {st : Stmt} {rest : List Stmt} {t u : RSt} {e : Expr} {r : RE} {pos : Pos}
theorem DI.xi {K : PySem.W.Frag} {S : Hq} {H : Hp} {D' : En} {D : Ends} {σ' : Sg} {σ : L2.St} (d : DI K W S H D' D) (rh : RH K S H) (rs : RS K H σ' σ) : XI K S H (D'.x σ') (wx W σ) := fun n C fs S' H' dd c f rh' x nw h => d.ex n C fs σ' S' σ H' dd c f rh' (rs.mono (f.tle rh)) x nw h
theorem eb_nil : EB X W [] rNext := ⟨_, pss_nil, fun σ σ' H S D D' rs rh h d => d.nx _ _ _ _ Fr.refl rh rs h⟩
theorem eb_cons (h1 : ES X W st t) (h2 : EB X W rest u) : EB X W (st :: rest) (rSeq t u) := by
  obtain ⟨T1, p1, l1⟩ := h1.ex
  obtain ⟨T2, p2, l2⟩ := h2.ex
  refine ⟨_, pss_cons p1 p2, fun σ σ' H S D D' rs rh h d => ?_⟩
  refine l1 σ σ' H S _ { D' with nx := u D' } rs rh h ⟨fun σ1' S1 σ1 H1 f1 rh1 rs1 h1 => ?_, d.rt, d.bk, d.ct, d.ex⟩
  exact l2 σ1 σ1' H1 S1 D D' rs1 rh1 h1 (d.go f1)
theorem eb_one (h1 : ES X W st t) : EB X W [st] t := let ⟨T, p, l⟩ := h1.ex; ⟨T, pss_one p, l⟩
theorem es_pass : ES X W (.Pass pos) rNext := ⟨_, ps_pass, fun σ σ' H S D D' rs rh h d => d.nx _ _ _ _ Fr.refl rh rs h⟩
theorem es_brk : ES X W (.Break pos) rBrk := ⟨_, ps_break, fun σ σ' H S D D' rs rh h d => d.bk _ _ _ _ Fr.refl rh rs h⟩
theorem es_cnt : ES X W (.Continue pos) rCnt := ⟨_, ps_continue, fun σ σ' H S D D' rs rh h d => d.ct _ _ _ _ Fr.refl rh rs h⟩
theorem es_expr (h : EV X W e r) (hs : swapsWith e none pos.line X.env = pure false := by rfl) : ES X W (.Expr e pos) (rDrop r) := by
  obtain ⟨T, p, l⟩ := h.ex
  refine ⟨_, ps_expr p hs, fun σ σ' H S D D' rs rh h d => ?_⟩
  exact l σ σ' H S _ _ _ rs rh h (fun _ S1 v H1 f1 rh1 dv h1 => d.nx _ _ _ _ f1 rh1 (rs.mono (f1.tle rh)) h1) (d.xi rh rs)
theorem es_ret (h : EV X W e r) : ES X W (.Return (some e) pos) (rRet r) := by
  obtain ⟨T, p, l⟩ := h.ex
  refine ⟨_, ps_ret p, fun σ σ' H S D D' rs rh h d => ?_⟩
  exact l σ σ' H S _ _ _ rs rh h d.rt (d.xi rh rs)
theorem es_retN : ES X W (.Return none pos) rRetN := ⟨_, ps_retN, fun σ σ' H S D D' rs rh h d => d.rt.here rh .non h⟩
theorem es_if {c : Expr} {a b : List Stmt} {tc : RT} (hc : ET X W c tc) (ha : EB X W a t) (hb : EB X W b u) : ES X W (.If c a b pos) (rIfS tc t u) := by
  obtain ⟨Tc, pc, lc⟩ := hc.ex
  obtain ⟨Ta, pa, la⟩ := ha.ex
  obtain ⟨Tb, pb, lb⟩ := hb.ex
  refine ⟨_, ps_if pc pa pb, fun σ σ' H S D D' rs rh h d => ?_⟩
  refine lc σ σ' H S _ _ _ rs rh h (fun b S1 H1 f1 rh1 h1 => ?_) (d.xi rh rs)
  cases b with
  | true => exact la σ σ' H1 S1 D D' (rs.mono (f1.tle rh)) rh1 h1 (d.go f1)
  | false => exact lb σ σ' H1 S1 D D' (rs.mono (f1.tle rh)) rh1 h1 (d.go f1)
theorem es_set (i : Nat) {x : Str} {pos' : Pos} (hN : X.N.Nodup) (he : EV X W e r) (hi : X.N[i]? = some x := by rfl) (hx : Loc X.env.scope x := by first | exact .inl rfl | exact .inr rfl) (hs : swapsWith e (some (.Name x pos')) pos.line X.env = pure false := by rfl)
    (hf : X.fn x = true ∨ X.env.scope.names.lookup x = some .local := by first | exact .inl rfl | exact .inr rfl | assumption) : ES X W (.Assign [.Name x pos'] e pos) (rSet r (gNm i)) := by
  obtain ⟨T, p, l⟩ := he.ex
  refine ⟨_, L2.ps_set hN hi hx p hs hf, fun σ σ' H S D D' rs rh h d => ?_⟩
  exact l σ σ' H S _ _ _ rs rh h (fun _ S1 v H1 f1 rh1 dv h1 => d.nx _ _ _ _ f1 rh1 ((rs.mono (f1.tle rh)).set dv i) h1) (d.xi rh rs)
theorem es_asg {tg : Expr} {g : RG} (he : EV X W e r) (hg : EG X W tg g) (hs : swapsWithSole [tg] e pos.line X.env = pure false := by rfl) (hw : swappedStores [tg] e X.env = pure none := by rfl)
    (h1 : (assignEach [tg] X.env).map (·.2) = [assign tg X.env] := by rfl) : ES X W (.Assign [tg] e pos) (rSet r g) := by
  obtain ⟨T, p, l⟩ := he.ex
  obtain ⟨Tg, pg, lg⟩ := hg.ex
  refine ⟨_, ps_asg p pg hs hw h1, fun σ σ' H S D D' rs rh h d => ?_⟩
  refine l σ σ' H S _ _ _ rs rh h (fun _ S1 v H1 f1 rh1 dv h1 => ?_) (d.xi rh rs)
  exact lg σ σ' H1 S1 _ _ _ _ _ (rs.mono (f1.tle rh)) rh1 dv h1 (d.go f1).nx ((d.xi rh rs).go f1)

def rPar (i j : Nat) (ra : RA) : RSt := fun D σ S => ra σ S (fun ds S1 => match ds with | [x, y] => D.nx ((σ.set i (some x)).set j (some y)) S1 | _ => False) (D.x σ)
theorem es_par {i j : Nat} {x y : Str} {a b : Expr} {ra : RA} {px py pt : Pos} {kt k2 pt2} (hc : X.calm = true) (hN : X.N.Nodup) (hij : i ≠ j) (ha : EA X W [a, b] ra) (hi : X.N[i]? = some x := by rfl) (hj : X.N[j]? = some y := by rfl)
    (hx : X.env.scope.names.lookup x = some .local := by rfl) (hy : X.env.scope.names.lookup y = some .local := by rfl)
    (hw : swappedStores [.Tuple [.Name x px, .Name y py] kt pt] (.Tuple [a, b] k2 pt2) X.env = pure (some [x, y]) := by rfl)
    (hs : swapsWithSole [.Tuple [.Name x px, .Name y py] kt pt] (.Tuple [a, b] k2 pt2) pos.line X.env = pure false := by rfl) :
    ES X W (.Assign [.Tuple [.Name x px, .Name y py] kt pt] (.Tuple [a, b] k2 pt2) pos) (rPar i j ra) := by
  obtain ⟨T, p, l⟩ := ha.ex
  refine ⟨_, ps_par hc hN hi hj hij hx hy p hw hs, fun σ σ' H S D D' rs rh h d => ?_⟩
  refine l σ σ' H S _ _ _ rs rh h (fun ds S1 v H1 f1 rh1 dv h1 => ?_) (d.xi rh rs)
  match ds, dv, h1 with
  | [x, y], .cons dx (.cons dy .nil), h1 => exact ⟨_, _, rfl, d.nx _ _ _ _ f1 rh1 (((rs.mono (f1.tle rh)).set dx i).set dy j) h1⟩
/-! ### what is walked -/
structure ItOk (K : PySem.W.Frag) (S1 : Hq) (H1 : Hp) (J : It) (xs : List D) (g : Hq → Prop) : Prop where
  stop : ∀ S H, Fr S1 H1 S H → RH K S H → g S → J.stop xs.length H
  go : ∀ (i : Nat) x S H, xs[i]? = some x → Fr S1 H1 S H → RH K S H → g S → J.go i H
  yld : ∀ (i : Nat) x S H v H', xs[i]? = some x → Fr S1 H1 S H → RH K S H → g S → J.yld i H v H' → Fr S H S H' ∧ RH K S H' ∧ DV K H' x v
abbrev RI := Sg → Hq → (List D → (Hq → Prop) → Hq → Prop) → Xw → Prop
structure EI (X : Cx) (W : WX) (tg it : Expr) (t : RI) : Prop where
  ex : ∃ wi, PI X tg it wi ∧ ∀ (σ : L2.St) (σ' : Sg) (H : Hp) (S : Hq) (R : It → Hp → Prop) (R' : List D → (Hq → Prop) → Hq → Prop) (E' : Xw), RS X.K H σ' σ → RH X.K S H → t σ' S R' E' →
    (∀ J xs g S' H', Fr S H S' H' → RH X.K S' H' → ItOk X.K S' H' J xs g → R' xs g S' → R J H') → XI X.K S H E' (wx W σ) → wi σ H R
/-- the turns over what is left -/
def loopP (gd : Hq → Prop) (g : RG) (tb : RSt) : List D → RSt
  | [] => fun D σ S => gd S ∧ D.nx σ S
  | x :: r => fun D σ S => gd S ∧ g x σ S (fun σ2 S2 => tb { D with nx := loopP gd g tb r D, ct := loopP gd g tb r D, bk := D.nx } σ2 S2) (D.x σ)
def rFor (ri : RI) (g : RG) (tb : RSt) : RSt := fun D σ S => ri σ S (fun xs gd S1 => loopP gd g tb xs D σ S1) (D.x σ)
theorem es_for {tg it : Expr} {body : List Stmt} {ri : RI} {g : RG} {tb : RSt} (hp : PassesOwn (model X.prog X.w) X.A X.env X.xe) (hc : X.calm = true) (hi : EI X W tg it ri) (hg : EG X W tg g) (hb : EB X W body tb)
    (hs : ∀ x, foldedSetIterable it X.env x = pure x := by intro _; rfl) : ES X W (.For tg it body [] pos) (rFor ri g tb) := by
  obtain ⟨wi, pi, li⟩ := hi.ex
  obtain ⟨Tg, pg, lg⟩ := hg.ex
  obtain ⟨Tb, pb, lb⟩ := hb.ex
  refine ⟨_, ps_for hp hc pi pg pb hs, fun σ σ' H S D D' rs rh h d => ?_⟩
  refine li σ σ' H S _ _ _ rs rh h (fun J xs gd S1 H1 f1 rh1 ok h1 => ?_) (d.xi rh rs)
  refine ⟨fun i m σ2 H2 => ∃ σ2' S2, i + m = xs.length ∧ Fr S1 H1 S2 H2 ∧ RS X.K H2 σ2' σ2 ∧ RH X.K S2 H2 ∧ loopP gd g tb (xs.drop i) D' σ2' S2, ⟨xs.length, σ', S1, by omega, Fr.refl, rs.mono (f1.tle rh), rh1, by simpa using h1⟩, ?_⟩
  rintro i m σ2 H2 ⟨σ2', S2, em, f2, rs2, rh2, h2⟩
  have d2 := d.go (f1.trans f2)
  by_cases hi : i < xs.length
  · obtain ⟨x, hx⟩ : ∃ x, xs[i]? = some x := ⟨_, List.getElem?_eq_getElem hi⟩
    have hd : xs.drop i = x :: xs.drop (i + 1) := by
      rw [List.drop_eq_getElem_cons hi]
      rw [List.getElem?_eq_getElem hi] at hx
      rw [Option.some.inj hx]
    rw [hd] at h2
    obtain ⟨gd2, h2⟩ := h2
    refine .inr ⟨ok.go i x S2 H2 hx f2 rh2 gd2, fun σ3 H3 => ∃ σ3' S3, Fr S1 H1 S3 H3 ∧ RS X.K H3 σ3' σ3 ∧ RH X.K S3 H3 ∧ loopP gd g tb (xs.drop (i + 1)) D' σ3' S3, fun σ3 H3 ⟨σ3', S3, f3, rs3, rh3, h3⟩ => ⟨m - 1, by omega, σ3', S3, by omega, f3, rs3, rh3, h3⟩, fun v H3 hy => ?_⟩
    obtain ⟨f3, rh3, dv⟩ := ok.yld i x S2 H2 v H3 hx f2 rh2 gd2 hy
    have rs3 := rs2.mono (f3.tle rh2)
    refine lg σ2 σ2' H3 S2 x v _ _ _ rs3 rh3 dv h2 (fun σ4' S4 σ4 H4 f4 rh4 rs4 h4 => ?_) ((d2.go f3).xi rh3 rs3)
    have d4 := d2.go (f3.trans f4)
    have f24 := f2.trans (f3.trans f4)
    refine lb σ4 σ4' H4 S4 _ _ rs4 rh4 h4 ⟨fun σ5' S5 σ5 H5 f5 rh5 rs5 h5 => ⟨σ5', S5, f24.trans f5, rs5, rh5, h5⟩, d4.rt, d4.nx, fun σ5' S5 σ5 H5 f5 rh5 rs5 h5 => ⟨σ5', S5, f24.trans f5, rs5, rh5, h5⟩, d4.ex⟩
  · have hn : xs.drop i = [] := List.drop_eq_nil_of_le (by omega)
    rw [hn] at h2
    have ei : i = xs.length := by omega
    subst ei
    exact .inl ⟨ok.stop S2 H2 f2 rh2 h2.1, d2.nx _ _ _ _ Fr.refl rh2 rs2 h2.2⟩
def rWhile (c : RT) (tb : RSt) : RSt := fun D σ S => ∃ P : Nat → Sg → Hq → Prop, (∃ m, P m σ S) ∧ ∀ m σ S, P m σ S →
  c σ S (fun b S1 => if b = true then tb { D with nx := fun σ' S' => ∃ m', m' < m ∧ P m' σ' S', ct := fun σ' S' => ∃ m', m' < m ∧ P m' σ' S', bk := D.nx } σ S1 else D.nx σ S1) (D.x σ)
theorem es_while {c : Expr} {body : List Stmt} {tc : RT} {tb : RSt} (hp : PassesOwn (model X.prog X.w) X.A X.env X.xe) (hc : ET X W c tc) (hb : EB X W body tb) : ES X W (.While c body [] pos) (rWhile tc tb) := by
  obtain ⟨Tc, pc, lc⟩ := hc.ex
  obtain ⟨Tb, pb, lb⟩ := hb.ex
  refine ⟨_, ps_while hp pc pb, fun σ σ' H S D D' rs rh h d => ?_⟩
  obtain ⟨P, ⟨m0, h0⟩, hP⟩ := h
  refine ⟨fun m σ2 H2 => ∃ σ2' S2, Fr S H S2 H2 ∧ RS X.K H2 σ2' σ2 ∧ RH X.K S2 H2 ∧ P m σ2' S2, ⟨m0, σ', S, Fr.refl, rs, rh, h0⟩, ?_⟩
  rintro m σ2 H2 ⟨σ2', S2, f2, rs2, rh2, h2⟩
  have d2 := d.go f2
  refine lc σ2 σ2' H2 S2 _ _ _ rs2 rh2 (hP m σ2' S2 h2) (fun b S3 H3 f3 rh3 h3 => ?_) (d2.xi rh2 rs2)
  have d3 := d2.go f3
  have rs3 := rs2.mono (f3.tle rh2)
  cases b with
  | false => exact d3.nx _ _ _ _ Fr.refl rh3 rs3 h3
  | true =>
    refine ⟨fun σ4 H4 => ∃ σ4' S4, Fr S H S4 H4 ∧ RS X.K H4 σ4' σ4 ∧ RH X.K S4 H4 ∧ ∃ m', m' < m ∧ P m' σ4' S4, fun σ4 H4 ⟨σ4', S4, f4, rs4, rh4, m', lm, h4⟩ => ⟨m', lm, σ4', S4, f4, rs4, rh4, h4⟩, ?_⟩
    have f23 := f2.trans f3
    exact lb σ2 σ2' H3 S3 _ _ rs3 rh3 h3 ⟨fun σ5' S5 σ5 H5 f5 rh5 rs5 h5 => ⟨σ5', S5, f23.trans f5, rs5, rh5, h5⟩, d3.rt, d3.nx, fun σ5' S5 σ5 H5 f5 rh5 rs5 h5 => ⟨σ5', S5, f23.trans f5, rs5, rh5, h5⟩, d3.ex⟩
/-! sources -/
def seqD (x : D) (S1 : Hq) (R : List D → (Hq → Prop) → Hq → Prop) : Prop := match x with
  | .tup xs => R xs (fun _ => True) S1
  | _ => False
def lstD (x : D) (S1 : Hq) (R : List D → (Hq → Prop) → Hq → Prop) : Prop := match x with
  | .ref a => ∃ xs, LsR S1 a xs ∧ R xs (fun S => LsR S a xs) S1
  | .kl xs => R xs (fun _ => True) S1
  | _ => False
def iSeq (r : RE) : RI := fun σ S R E => r σ S (fun x S1 => seqD x S1 R) E
def iLst (r : RE) : RI := fun σ S R E => r σ S (fun x S1 => lstD x S1 R) E
theorem it_tup {K : PySem.W.Frag} {S1 : Hq} {H1 : Hp} {a : Addr} {xs : List D} {vs : List V} (rh1 : RH K S1 H1) (s : SqT K H1 a vs) (r : DVs K H1 xs vs) : ItOk K S1 H1 (Itt K a) xs (fun _ => True) :=
  ⟨fun S H f rh _ => ⟨vs, (f.tle rh1).t _ _ s, by rw [r.length]; exact Nat.le_refl _⟩,
   fun i x S H hx f rh _ => let ⟨v, hv, _⟩ := r.get hx; ⟨vs, v, (f.tle rh1).t _ _ s, hv⟩,
   fun i x S H v H' hx f rh _ hy => by
    obtain ⟨rfl, hy⟩ := hy
    obtain ⟨w, hw, dw⟩ := r.get hx
    have e := hy vs ((f.tle rh1).t _ _ s)
    rw [hw] at e; cases e
    exact ⟨Fr.refl, rh, DV.mono (f.tle rh1) _ _ dw⟩⟩
theorem it_lst {K : PySem.W.Frag} {S1 : Hq} {H1 : Hp} {a : Addr} {xs : List D} : ItOk K S1 H1 (Itl K a) xs (fun S => LsR S a xs) :=
  ⟨fun S H f rh g => let ⟨vs, s, r⟩ := rh.sql g; ⟨vs, s, by rw [r.length]; exact Nat.le_refl _⟩,
   fun i x S H hx f rh g => let ⟨vs, s, r⟩ := rh.sql g; let ⟨v, hv, _⟩ := r.get hx; ⟨vs, v, s, hv⟩,
   fun i x S H v H' hx f rh g hy => by
    obtain ⟨rfl, hy⟩ := hy
    obtain ⟨vs, s, r⟩ := rh.sql g
    obtain ⟨w, hw, dw⟩ := r.get hx
    have e := hy vs s
    rw [hw] at e; cases e
    exact ⟨Fr.refl, rh, dw⟩⟩
theorem it_kl {K : PySem.W.Frag} {S1 : Hq} {H1 : Hp} {a : Addr} {xs : List D} {vs : List V} (rh1 : RH K S1 H1) (s : SqF K H1 a vs) (r : DVs K H1 xs vs) : ItOk K S1 H1 (Itl K a) xs (fun _ => True) :=
  ⟨fun S H f rh _ => ⟨vs, ((f.tle rh1).f _ _ s).sql, by rw [r.length]; exact Nat.le_refl _⟩,
   fun i x S H hx f rh _ => let ⟨v, hv, _⟩ := r.get hx; ⟨vs, v, ((f.tle rh1).f _ _ s).sql, hv⟩,
   fun i x S H v H' hx f rh _ hy => by
    obtain ⟨rfl, hy⟩ := hy
    obtain ⟨w, hw, dw⟩ := r.get hx
    have e := hy vs ((f.tle rh1).f _ _ s).sql
    rw [hw] at e; cases e
    exact ⟨Fr.refl, rh, DV.mono (f.tle rh1) _ _ dw⟩⟩
theorem ei_seq {tg : Expr} (h : EV X W e r) : EI X W tg e (iSeq r) := by
  obtain ⟨T, p, l⟩ := h.ex
  refine ⟨_, pi_tup p, fun σ σ' H S R R' E' rs rh h q xi => ?_⟩
  refine l σ σ' H S _ _ _ rs rh h (fun x S1 v H1 f1 rh1 dv h1 => ?_) xi
  cases dv with
  | tup s r => exact ⟨_, rfl, ⟨_, s⟩, q _ _ _ _ _ f1 rh1 (it_tup rh1 s r) h1⟩
  | _ => exact h1.elim
theorem ei_lst {tg : Expr} (h : EV X W e r) : EI X W tg e (iLst r) := by
  obtain ⟨T, p, l⟩ := h.ex
  refine ⟨_, pi_list p, fun σ σ' H S R R' E' rs rh h q xi => ?_⟩
  refine l σ σ' H S _ _ _ rs rh h (fun x S1 v H1 f1 rh1 dv h1 => ?_) xi
  cases dv with
  | ref a =>
    obtain ⟨xs, g, h1⟩ := h1
    obtain ⟨vs, s, r⟩ := rh1.sql g
    exact ⟨_, rfl, ⟨_, s⟩, q _ _ _ _ _ f1 rh1 it_lst h1⟩
  | kl s r => exact ⟨_, rfl, ⟨_, s.sql⟩, q _ _ _ _ _ f1 rh1 (it_kl rh1 s r) h1⟩
  | _ => exact h1.elim
def rangeD (lo : Int) (n : Nat) : List D := (List.range n).map fun (i : Nat) => D.int (lo + i)
theorem rangeD_get {lo : Int} {n i : Nat} {x : D} (h : (rangeD lo n)[i]? = some x) : i < n ∧ x = .int (lo + i) := by
  unfold rangeD at h
  rw [List.getElem?_map] at h
  by_cases hi : i < n
  · rw [List.getElem?_range hi] at h; exact ⟨hi, (Option.some.inj h).symm⟩
  · rw [List.getElem?_eq_none (by simpa using hi)] at h; cases h
theorem rangeD_len {lo : Int} {n : Nat} : (rangeD lo n).length = n := by simp [rangeD]
theorem it_rng {K : PySem.W.Frag} {S1 : Hq} {H1 : Hp} {lo : Int} {n : Nat} : ItOk K S1 H1 (Itr lo n) (rangeD lo n) (fun _ => True) :=
  ⟨fun S H f rh _ => by rw [rangeD_len]; exact Nat.le_refl _, fun i x S H hx f rh _ => (rangeD_get hx).1, fun i x S H v H' hx f rh _ hy => by
    obtain ⟨rfl, rfl⟩ := hy
    rw [(rangeD_get hx).2]
    exact ⟨Fr.refl, rh, .int _⟩⟩
def rngD (ds : List D) (S1 : Hq) (R : List D → (Hq → Prop) → Hq → Prop) : Prop := match ds with
  | [.int j] => (-(2 ^ 62) ≤ j ∧ j < 2 ^ 62) ∧ R (rangeD 0 j.toNat) (fun _ => True) S1
  | _ => False
def rng2D (ds : List D) (S1 : Hq) (R : List D → (Hq → Prop) → Hq → Prop) : Prop := match ds with
  | [.int i, .int j] => (-(2 ^ 62) ≤ i ∧ i < 2 ^ 62 ∧ -(2 ^ 62) ≤ j ∧ j < 2 ^ 62) ∧ R (rangeD i (j - i).toNat) (fun _ => True) S1
  | _ => False
def iRg1 (ra : RA) : RI := fun σ S R E => ra σ S (fun ds S1 => rngD ds S1 R) E
def iRg2 (ra : RA) : RI := fun σ S R E => ra σ S (fun ds S1 => rng2D ds S1 R) E
theorem ei_rg1 {tg a : Expr} {ra : RA} {p : Pos} (hm : X.mg "range" = none) (ha : EA X W [a] ra) (hg : Gl X "range" := by rfl) (hs : starEach [a] X.env = [(false, eval a X.env)] := by rfl) : EI X W tg (.Call (.Name "range" p) [a] [] pos) (iRg1 ra) := by
  obtain ⟨T, pp, l⟩ := ha.ex
  refine ⟨_, pi_range1 hg hm pp hs, fun σ σ' H S R R' E' rs rh h q xi => ?_⟩
  refine l σ σ' H S _ _ _ rs rh h (fun ds S1 v H1 f1 rh1 dv h1 => ?_) xi
  match ds, dv, h1 with
  | [.int j], .cons (.int _) .nil, h1 => exact ⟨j, rfl, h1.1.1, h1.1.2, q _ _ _ _ _ f1 rh1 it_rng h1.2⟩
theorem ei_rg2 {tg a b : Expr} {ra : RA} {p : Pos} (hm : X.mg "range" = none) (ha : EA X W [a, b] ra) (hg : Gl X "range" := by rfl) (hs : starEach [a, b] X.env = [(false, eval a X.env), (false, eval b X.env)] := by rfl) (hs2 : starEach [b] X.env = [(false, eval b X.env)] := by rfl) :
    EI X W tg (.Call (.Name "range" p) [a, b] [] pos) (iRg2 ra) := by
  obtain ⟨T, pp, l⟩ := ha.ex
  refine ⟨_, pi_range2 hg hm pp hs hs2, fun σ σ' H S R R' E' rs rh h q xi => ?_⟩
  refine l σ σ' H S _ _ _ rs rh h (fun ds S1 v H1 f1 rh1 dv h1 => ?_) xi
  match ds, dv, h1 with
  | [.int i, .int j], .cons (.int _) (.cons (.int _) .nil), h1 => exact ⟨i, j, rfl, h1.1, q _ _ _ _ _ f1 rh1 it_rng h1.2⟩
/-- zip of two -/
def zipD : List D → List D → List D
  | x :: xs, y :: ys => .tup [x, y] :: zipD xs ys
  | _, _ => []
theorem zipD_get : ∀ {xs ys : List D} {i : Nat} {z : D}, (zipD xs ys)[i]? = some z → ∃ x y, xs[i]? = some x ∧ ys[i]? = some y ∧ z = .tup [x, y]
  | x :: xs, y :: ys, 0, z, h => ⟨x, y, rfl, rfl, (Option.some.inj h).symm⟩
  | x :: xs, y :: ys, i + 1, z, h => by
    obtain ⟨a, b, p, q, r⟩ := zipD_get (xs := xs) (ys := ys) (i := i) (by simpa [zipD] using h)
    exact ⟨a, b, by simpa using p, by simpa using q, r⟩
  | [], _, _, _, h => by simp [zipD] at h
  | _ :: _, [], _, _, h => by simp [zipD] at h
theorem zipD_len : ∀ {xs ys : List D}, (zipD xs ys).length = min xs.length ys.length
  | x :: xs, y :: ys => by simp only [zipD, List.length_cons, zipD_len]; omega
  | [], _ => by simp [zipD]
  | _ :: _, [] => by simp [zipD]
theorem it_zipT {K : PySem.W.Frag} {S1 : Hq} {H1 : Hp} {a b : Addr} {xs ys : List D} {vs us : List V} (rh1 : RH K S1 H1) (s : SqT K H1 a vs) (r : DVs K H1 xs vs) (s2 : SqT K H1 b us) (r2 : DVs K H1 ys us) : ItOk K S1 H1 (RZ.ItzT K a b) (zipD xs ys) (fun _ => True) := by
  refine ⟨fun S H f rh _ => ⟨vs, us, (f.tle rh1).t _ _ s, (f.tle rh1).t _ _ s2, by rw [zipD_len, ← r.length, ← r2.length]; omega⟩, fun i x S H hx f rh _ => ?_, fun i x S H v H' hx f rh _ hy => ?_⟩
  · obtain ⟨x1, y1, h1, h2, _⟩ := zipD_get hx
    obtain ⟨v, hv, _⟩ := r.get h1
    obtain ⟨u, hu, _⟩ := r2.get h2
    exact ⟨vs, us, v, u, (f.tle rh1).t _ _ s, (f.tle rh1).t _ _ s2, hv, hu⟩
  · obtain ⟨x1, y1, h1, h2, rfl⟩ := zipD_get hx
    obtain ⟨v', hv, dv⟩ := r.get h1
    obtain ⟨u', hu, du⟩ := r2.get h2
    obtain ⟨T, x2, y2, rfl, hT, rfl, e1, e2⟩ := hy
    have e1 := e1 vs ((f.tle rh1).t _ _ s)
    have e2 := e2 us ((f.tle rh1).t _ _ s2)
    rw [hv] at e1; cases e1
    rw [hu] at e2; cases e2
    have t := (f.tle rh1)
    have f' := Fr.new (o := .tup [v', u']) rh hT
    exact ⟨f', rh.new hT, .tup (.inl (.inl upd_same)) (.cons (DV.mono (f'.tle rh) _ _ (DV.mono t _ _ dv)) (.cons (DV.mono (f'.tle rh) _ _ (DV.mono t _ _ du)) .nil))⟩
theorem it_zipL {K : PySem.W.Frag} {S1 : Hq} {H1 : Hp} {a b : Addr} {xs ys : List D} : ItOk K S1 H1 (Itz K a b) (zipD xs ys) (fun S => LsR S a xs ∧ LsR S b ys) := by
  refine ⟨fun S H f rh g => ?_, fun i x S H hx f rh g => ?_, fun i x S H v H' hx f rh g hy => ?_⟩
  · obtain ⟨vs, s, r⟩ := rh.sql g.1
    obtain ⟨us, s2, r2⟩ := rh.sql g.2
    exact ⟨vs, us, s, s2, by rw [zipD_len, ← r.length, ← r2.length]; omega⟩
  · obtain ⟨vs, s, r⟩ := rh.sql g.1
    obtain ⟨us, s2, r2⟩ := rh.sql g.2
    obtain ⟨x1, y1, h1, h2, _⟩ := zipD_get hx
    obtain ⟨v, hv, _⟩ := r.get h1
    obtain ⟨u, hu, _⟩ := r2.get h2
    exact ⟨vs, us, v, u, s, s2, hv, hu⟩
  · obtain ⟨vs, s, r⟩ := rh.sql g.1
    obtain ⟨us, s2, r2⟩ := rh.sql g.2
    obtain ⟨x1, y1, h1, h2, rfl⟩ := zipD_get hx
    obtain ⟨v', hv, dv⟩ := r.get h1
    obtain ⟨u', hu, du⟩ := r2.get h2
    obtain ⟨T, x2, y2, rfl, hT, rfl, e1, e2⟩ := hy
    have e1 := e1 vs s
    have e2 := e2 us s2
    rw [hv] at e1; cases e1
    rw [hu] at e2; cases e2
    have f' := Fr.new (o := .tup [v', u']) rh hT
    exact ⟨f', rh.new hT, .tup (.inl (.inl upd_same)) (.cons (DV.mono (f'.tle rh) _ _ dv) (.cons (DV.mono (f'.tle rh) _ _ du) .nil))⟩
end
end Y
namespace Y
open PySem PySem.Spec PyProof.Rows L2
def zpD (ds : List D) (S1 : Hq) (R : List D → (Hq → Prop) → Hq → Prop) : Prop := match ds with
  | [.tup xs, .tup ys] => R (zipD xs ys) (fun _ => True) S1
  | [.ref a, .ref b] => ∃ xs ys, LsR S1 a xs ∧ LsR S1 b ys ∧ R (zipD xs ys) (fun S => LsR S a xs ∧ LsR S b ys) S1
  | _ => False
def iZp (ra : RA) : RI := fun σ S R E => ra σ S (fun ds S1 => zpD ds S1 R) E
section
variable {X : Cx} {W : WX} {e e2 : Expr} {r : RE} {pos : Pos}
theorem ei_zip {ra : RA} {p tpos : Pos} {elts : List Expr} {kk : Nat} (hm : X.mg "zip" = none) (ha : EA X W [e, e2] ra) (hg : Gl X "zip" := by rfl)
    (hs : starEach [e, e2] X.env = (false, eval e X.env) :: starEach [e2] X.env := by rfl) (hs2 : (backTo pos (starEach [e2] X.env)).any (·.1) = false := by rfl) :
    EI X W (.Tuple elts kk tpos) (.Call (.Name "zip" p) [e, e2] [] pos) (iZp ra) := by
  obtain ⟨T, pp, l⟩ := ha.ex
  refine ⟨_, RZ.pi_zipA hg hm pp hs hs2, fun σ σ' H S R R' E' rs rh h q xi => ?_⟩
  refine l σ σ' H S _ _ _ rs rh h (fun ds S1 v H1 f1 rh1 dv h1 => ?_) xi
  match ds, dv, h1 with
  | [.tup xs, .tup ys], .cons (.tup s r) (.cons (.tup s2 r2) .nil), h1 => exact ⟨_, _, _, _, rfl, .inr ⟨s, s2, q _ _ _ _ _ f1 rh1 (it_zipT rh1 s r s2 r2) h1⟩⟩
  | [.ref a, .ref b], .cons (.ref _) (.cons (.ref _) .nil), h1 =>
    obtain ⟨xs, ys, g, g2, h1⟩ := h1
    obtain ⟨vs, s, r⟩ := rh1.sql g
    obtain ⟨us, s2, r2⟩ := rh1.sql g2
    exact ⟨_, _, _, _, rfl, .inl ⟨s, s2, q _ _ _ _ _ f1 rh1 it_zipL h1⟩⟩

/-! ### comprehensions -/
def wipeD (σ : Sg) : List Nat → Sg
  | [] => σ
  | v :: vs => (wipeD σ vs).set v none
theorem RS.wipe {K : PySem.W.Frag} {H : Hp} {σ' : Sg} {σ : L2.St} (x : RS K H σ' σ) : ∀ vs : List Nat, RS K H (wipeD σ' vs) (L2.wipe σ vs)
  | [] => x
  | v :: vs => by
    have ih := RS.wipe x vs
    refine ⟨by simp [wipeD, L2.wipe, ih.len], fun i d e => ?_⟩
    unfold wipeD at e
    unfold L2.wipe
    by_cases c : v = i
    · subst c
      by_cases hi : v < (wipeD σ' vs).length
      · rw [List.getElem?_set_self hi] at e; cases e
      · rw [List.getElem?_eq_none (by simpa using hi)] at e; cases e
    · rw [List.getElem?_set_ne c] at e ⊢
      exact ih.get i d e
/-- a test ahead of an element -/
structure EP1 (X : Cx) (W : WX) (ifs : List Expr) (t : RT) : Prop where
  ex : ∃ T, PTs X ifs T ∧ ∀ (σ : L2.St) (σ' : Sg) (H : Hp) (S : Hq) (Q : Bool → Hp → Prop) (Q' : Bool → Hq → Prop) (E' : Xw), RS X.K H σ' σ → RH X.K S H → t σ' S Q' E' → QT X.K S H Q' Q → XI X.K S H E' (wx W σ) → T σ H Q
def rYes : RT := fun _ S Q _ => Q true S
theorem ep_nil : EP1 X W [] rYes := ⟨_, pts_nil, fun σ σ' H S Q Q' E' rs rh h q xi => q _ _ _ Fr.refl rh h⟩
theorem ep_one {c : Expr} {t : RT} (h : ET X W c t) : EP1 X W [c] t := let ⟨T, p, l⟩ := h.ex; ⟨T, pts_one p, l⟩
theorem EP1.pe {ifs : List Expr} {t : RT} (h : EP1 X W ifs t) : PTs X ifs (dnT X.K W t) := by
  obtain ⟨T, p, l⟩ := h.ex
  exact ⟨fun pins s σ H Q I ⟨σ', S, Q', E', a, b, c, d, x⟩ => p.run pins s σ H Q I (l σ σ' H S Q Q' E' a b c d x)⟩
abbrev W0 : WX := fun _ _ _ _ => False
/-- the elements, one by one; vs: the slots of the comprehension's own names -/
def lcP (gd : Hq → Prop) (g : RG) (tt : RT) (te : RE) (vs : List Nat) (σ : Sg) (Q : List D → Hq → Prop) : List D → List D → Hq → Prop
  | [], acc, S => gd S ∧ Q acc S
  | x :: r, acc, S => gd S ∧ g x (wipeD σ vs) S (fun σ2 S2 => tt σ2 S2 (fun b S3 => if b = true then te σ2 S3 (fun y S4 => acc.length < 1000000 ∧ lcP gd g tt te vs σ Q r (acc ++ [y]) S4) NoX else lcP gd g tt te vs σ Q r acc S3) NoX) NoX
def rLc (ri : RI) (g : RG) (tt : RT) (te : RE) (vs : List Nat) : RE := fun σ S Q E => ri σ S (fun xs gd S1 => lcP gd g tt te vs σ (fun acc S2 => ∀ p, S2 p = none → Q (.ref p) (up S2 p (.lst acc))) xs [] S1) E
/-- targets that keep to their slots -/
structure Keeps (T : TG) (g : RG) (vs : List Nat) (K : PySem.W.Frag) : Prop where
  to : ∀ (σ : L2.St) (σ' : Sg) (H : Hp) (S : Hq) (d : D) (v : V) (N : L2.St → Hp → Prop) (N' : Sg → Hq → Prop), RS K H σ' (L2.wipe σ vs) → RH K S H → DV K H d v → g d σ' S N' NoX → (∀ σ2' σ2, L2.wipe σ2 vs = L2.wipe σ vs → RS K H σ2' σ2 → N' σ2' S → N σ2 H) → T v (L2.wipe σ vs) H N
theorem wipe1 (σ : L2.St) (i : Nat) (x : Option V) : (((σ.set i none).set i x).set i none : L2.St) = σ.set i none := by
  rw [List.set_set, List.set_set]
theorem keeps_nm {i : Nat} {K : PySem.W.Frag} : Keeps (gName i) (gNm i) [i] K :=
  ⟨fun σ σ' H S d v N N' rs rh dv h n => n _ _ (wipe1 σ i _) (rs.set dv i) h⟩
theorem lc_run {K : PySem.W.Frag} {W : WX} {J : It} {gd : Hq → Prop} {T : TG} {g : RG} {tt : RT} {te : RE} {vs : List Nat} {σ : L2.St} {σ' : Sg} {S1 : Hq} {H1 : Hp} {xs : List D} {Q : VK} {Q' : Qv} (kp : Keeps T g vs K)
    (rs : RS K H1 σ' σ) (rh : RH K S1 H1) (ok : ItOk K S1 H1 J xs gd) (q : QI K S1 H1 Q' Q) (h : lcP gd g tt te vs σ' (fun acc S2 => ∀ p, S2 p = none → Q' (.ref p) (up S2 p (.lst acc))) xs [] S1) :
    ∀ Dd, H1 Dd = none → ∃ W : Nat → Nat → Hp → Prop, (∃ m, W 0 m (upd H1 Dd (.lst []))) ∧ ∀ i m H, W i m H →
      (J.stop i H ∧ Q (.ref Dd) H) ∨ (J.go i H ∧ ∃ Nx : Hp → Prop, (∀ H', Nx H' → ∃ m', m' < m ∧ W (i + 1) m' H') ∧ ∀ x H', J.yld i H x H' → T x (L2.wipe σ vs) H' fun σ2 H2 => L2.wipe σ2 vs = L2.wipe σ vs ∧ dnT K W0 tt σ2 H2 fun b H3 =>
        if b = true then dnE K W0 te σ2 H3 fun y H4 => ∃ acc, H4 Dd = some (.lst acc) ∧ acc.length < sizeLine ∧ Nx (upd H4 Dd (.lst (acc ++ [y]))) else Nx H3) := by
  intro Dd hD
  have fD : Fr S1 H1 S1 (upd H1 Dd (.lst [])) := Fr.new rh hD
  refine ⟨fun i m H => ∃ S acc acc', i + m = xs.length ∧ Fr S1 H1 S H ∧ RH K S H ∧ H Dd = some (.lst acc) ∧ S Dd = none ∧ DVs K H acc' acc ∧ lcP gd g tt te vs σ' (fun acc S2 => ∀ p, S2 p = none → Q' (.ref p) (up S2 p (.lst acc))) (xs.drop i) acc' S,
    ⟨xs.length, S1, [], [], by omega, fD, rh.new hD, upd_same, rh.fresh hD, .nil, by simpa using h⟩, ?_⟩
  rintro i m H ⟨S, acc, acc', em, f, rh2, eD, nD, da, h⟩
  by_cases hi : i < xs.length
  · obtain ⟨x, hx⟩ : ∃ x, xs[i]? = some x := ⟨_, List.getElem?_eq_getElem hi⟩
    have hd : xs.drop i = x :: xs.drop (i + 1) := by
      rw [List.drop_eq_getElem_cons hi]
      rw [List.getElem?_eq_getElem hi] at hx
      rw [Option.some.inj hx]
    rw [hd] at h
    obtain ⟨g2, h⟩ := h
    refine .inr ⟨ok.go i x S H hx f rh2 g2, fun H => ∃ S acc acc', Fr S1 H1 S H ∧ RH K S H ∧ H Dd = some (.lst acc) ∧ S Dd = none ∧ DVs K H acc' acc ∧ lcP gd g tt te vs σ' (fun acc S2 => ∀ p, S2 p = none → Q' (.ref p) (up S2 p (.lst acc))) (xs.drop (i + 1)) acc' S,
      fun H ⟨S, acc, acc', a, b, c, d, e, f⟩ => ⟨m - 1, by omega, S, acc, acc', by omega, a, b, c, d, e, f⟩, fun v H3 hy => ?_⟩
    obtain ⟨f3, rh3, dv⟩ := ok.yld i x S H v H3 hx f rh2 g2 hy
    have f03 := f.trans f3
    obtain ⟨eD3, nD3⟩ := f3 Dd _ eD nD
    refine kp.to σ (wipeD σ' vs) H3 S x v _ _ ((rs.mono (f03.tle rh)).wipe vs) rh3 dv h fun σ2' σ2 ew rs2 h2 => ⟨ew, σ2', S, _, NoX, rs2, rh3, h2, fun b S4 H4 f4 rh4 h4 => ?_, XI.no⟩
    have f04 := f03.trans f4
    obtain ⟨eD4, nD4⟩ := f4 Dd _ eD3 nD3
    have da4 := DVs.mono ((f3.trans f4).tle rh2) _ _ da
    cases b with
    | false => exact ⟨S4, acc, acc', f04, rh4, eD4, nD4, da4, h4⟩
    | true =>
      refine ⟨σ2', S4, _, NoX, rs2.mono (f4.tle rh3), rh4, h4, fun y S5 u H5 f5 rh5 dy h5 => ?_, XI.no⟩
      obtain ⟨eD5, nD5⟩ := f5 Dd _ eD4 nD4
      have da5 := DVs.mono (f5.tle rh4) _ _ da4
      refine ⟨acc, eD5, by rw [← da5.length]; exact big_lt h5.1, S5, acc ++ [u], acc' ++ [y], ?_, ?_, upd_same, nD5, ?_, h5.2⟩
      · intro b o e n
        obtain ⟨e', n'⟩ := (f04.trans f5) b o e n
        have hb : b ≠ Dd := fun z => by rw [z, hD] at e; cases e
        exact ⟨by rw [upd_ne hb]; exact e', n'⟩
      all_goals
        have t : Tle K H5 (upd H5 Dd (.lst (acc ++ [u]))) := by
          refine ⟨fun a xs hq => ?_, fun a xs hq => ?_⟩
          · rcases hq with (hq | ⟨o, hq⟩) | hq
            · exact .inl (.inl (by rw [upd_ne (fun z => by rw [z, eD5] at hq; cases hq)]; exact hq))
            · exact .inl (.inr ⟨o, by rw [upd_ne (fun z => by rw [z, eD5] at hq; cases hq)]; exact hq⟩)
            · exact .inr hq
          · rcases hq with ⟨o, hq⟩ | hq
            · exact .inl ⟨o, by rw [upd_ne (fun z => by rw [z, eD5] at hq; cases hq)]; exact hq⟩
            · exact .inr hq
      · intro b o e
        have hb : b ≠ Dd := fun z => by rw [z, nD5] at e; cases e
        exact (rh5 b o e).stay t (fun c q e n => ⟨by rw [upd_ne (fun z => by rw [z, eD5] at e; cases e)]; exact e, n⟩) (upd_ne hb)
      · exact DVs.mono t _ _ (da5.app (.cons dy .nil))
  · have hn : xs.drop i = [] := List.drop_eq_nil_of_le (by omega)
    rw [hn] at h
    have ei : i = xs.length := by omega
    subst ei
    refine .inl ⟨ok.stop S H f rh2 h.1, ?_⟩
    -- the list is tracked from now on
    have r2 : RH K (up S Dd (.lst acc')) H := fun b o e => by
      by_cases hb : b = Dd
      · subst hb; rw [up_same] at e; cases e; exact ⟨acc, eD, da⟩
      · rw [up_ne hb] at e
        exact (rh2 b o e).stay ⟨fun _ _ h => h, fun _ _ h => h⟩ (fun c q e n => ⟨e, by rw [up_ne (fun z => by rw [z, eD] at e; cases e)]; exact n⟩) rfl
    refine q (.ref Dd) _ _ _ (fun b o e n => ?_) r2 (.ref Dd) (h.2 Dd nD)
    obtain ⟨e', n'⟩ := f b o e n
    have hb : b ≠ Dd := fun z => by rw [z, hD] at e; cases e
    exact ⟨e', by rw [up_ne hb]; exact n'⟩
theorem ev_lc (i : Nat) {x : Str} {xp : Pos} {elt it : Expr} {ifs : List Expr} {scope : Scope} {ri : RI} {tt : RT} {te : RE} (hc : X.calm = true) (hN : X.N.Nodup) (hi : EI X W (.Name x xp) it ri) (ok : BlkOk X.N X.env.scope scope [(x, i)])
    (hg : ∀ (s : Shared) (H : Hp) (C : Addr) (cl : List (Str × Addr)) (fp : List Addr), PG (X.blk s H scope (compEnvC scope cl C X.env) fp) (.Name x xp) (gName i))
    (ht : ∀ (s : Shared) (H : Hp) (C : Addr) (cl : List (Str × Addr)) (fp : List Addr), EP1 (X.blk s H scope (compEnvC scope cl C X.env) fp) W0 ifs tt)
    (he : ∀ (s : Shared) (H : Hp) (C : Addr) (cl : List (Str × Addr)) (fp : List Addr), EV (X.blk s H scope (compEnvC scope cl C X.env) fp) W0 elt te) (hs : ∀ x, foldedSetIterable it X.env x = pure x := by intro _; rfl) :
    EV X W (.ListComp elt [⟨.Name x xp, it, ifs, 0⟩] scope pos) (rLc ri (gNm i) tt te [i]) := by
  obtain ⟨wi, pi, li⟩ := hi.ex
  refine ⟨_, pe_lc (tt := dnT X.K W0 tt) (te := dnE X.K W0 te) hc hN pi ok hg (fun s H C cl fp => (ht s H C cl fp).pe) (fun s H C cl fp => (he s H C cl fp).pe) hs, fun σ σ' H S Q Q' E' rs rh h q xi => ?_⟩
  exact li σ σ' H S _ _ _ rs rh h (fun J xs gd S1 H1 f1 rh1 ok h1 => lc_run (W := W) keeps_nm (rs.mono (f1.tle rh)) rh1 ok (q.go f1) h1) xi
theorem es_setLc (j i : Nat) {y : Str} {py spos : Pos} {x : Str} {xp : Pos} {elt it : Expr} {ifs : List Expr} {scope : Scope} {ri : RI} {tt : RT} {te : RE} (hc : X.calm = true) (hN : X.N.Nodup) (hi : EI X W (.Name x xp) it ri) (ok : BlkOk X.N X.env.scope scope [(x, i)])
    (hg : ∀ (s : Shared) (H : Hp) (C : Addr) (cl : List (Str × Addr)) (fp : List Addr), PG (X.blk s H scope (compEnvC scope cl C X.env) fp) (.Name x xp) (gName i))
    (ht : ∀ (s : Shared) (H : Hp) (C : Addr) (cl : List (Str × Addr)) (fp : List Addr), EP1 (X.blk s H scope (compEnvC scope cl C X.env) fp) W0 ifs tt)
    (he : ∀ (s : Shared) (H : Hp) (C : Addr) (cl : List (Str × Addr)) (fp : List Addr), EV (X.blk s H scope (compEnvC scope cl C X.env) fp) W0 elt te)
    (hsw : swapsWith (.ListComp elt [⟨.Name x xp, it, ifs, 0⟩] scope pos) (some (.Name y py)) spos.line X.env = pure true) (hy : X.N[j]? = some y := by rfl) (hyl : X.env.scope.names.lookup y = some .local := by rfl) (hs : ∀ x, foldedSetIterable it X.env x = pure x := by intro _; rfl) :
    ES X W (.Assign [.Name y py] (.ListComp elt [⟨.Name x xp, it, ifs, 0⟩] scope pos) spos) (rSet (rLc ri (gNm i) tt te [i]) (gNm j)) := by
  obtain ⟨wi, pi, li⟩ := hi.ex
  refine ⟨_, ps_setLc (tt := dnT X.K W0 tt) (te := dnE X.K W0 te) hc hN hy hyl hsw pi ok hg (fun s H C cl fp => (ht s H C cl fp).pe) (fun s H C cl fp => (he s H C cl fp).pe) hs, fun σ σ' H S D D' rs rh h d => ?_⟩
  refine li σ σ' H S _ _ _ rs rh h (fun J xs gd S1 H1 f1 rh1 ok h1 => ?_) (d.xi rh rs)
  refine lc_run (W := W) (Q := fun v H1 => gName j v σ H1 D.nx) (Q' := fun d S1 => gNm j d σ' S1 D'.nx (D'.x σ')) keeps_nm (rs.mono (f1.tle rh)) rh1 ok ?_ h1
  intro dd S2 v H2 f2 rh2 dv h2
  exact d.nx _ _ _ _ (f1.trans f2) rh2 ((rs.mono ((f1.trans f2).tle rh)).set dv j) h2
end

/-! ### a def -/
def start' (n : Nat) (ds : List D) : Sg := ds.map some ++ List.replicate (n - ds.length) none
section
variable {P : Program} {w : World} {K : PySem.W.Frag} {mg : Str → Option Value} {base : Heap}
theorem rs_start {H : Hp} {ds : List D} {vs : List V} (N : List Str) (r : DVs K H ds vs) : RS K H (start' N.length ds) (L2.start N vs) := by
  refine ⟨by simp [start', L2.start, r.length], fun i d e => ?_⟩
  unfold start' at e
  unfold L2.start
  by_cases hi : i < ds.length
  · rw [List.getElem?_append_left (by simpa using hi), List.getElem?_map] at e
    cases g : ds[i]? with
    | none => rw [g] at e; cases e
    | some d' =>
      rw [g] at e
      cases e
      obtain ⟨v, hv, dv⟩ := r.get g
      exact ⟨v, by rw [List.getElem?_append_left (by rw [List.length_map, ← r.length]; exact hi), List.getElem?_map, hv]; rfl, dv⟩
  · rw [List.getElem?_append_right (by simpa using hi)] at e
    have := List.mem_of_getElem? e
    rw [List.mem_replicate] at this
    cases this.2
theorem fn_ok {x qual : Str} {st : Stmt} {f : Addr} {fd : FuncData} {N ps : List Str} {k : Nat} {sp : Sq} {t : RSt} (F : Fun K x qual st f fd) (Sc : FnScope N ps (defScope st)) (len : ∀ ds S Q E, sp ds S Q E → ds.length = ps.length)
    (hb : ∀ (cdv : Value) (A : Around) (outer : List Env) (s : Shared) (H : Hp) (E : XK), Room k (A.deeper (envOfC qual (defScope st) s.heap.objs.size f cdv)) → EB (cxOf CX0 P w K mg base N qual (defScope st) f cdv A outer s H E).nox W0 (defBody st) t)
    (pure' : ∀ ds S Q, sp ds S Q NoX → t { nx := fun _ S => Q .non S, rt := Q } (start' N.length ds) S)
    (nox : ∀ ds S Q E, sp ds S Q E → sp ds S Q NoX) : FnOk P w K mg base CX0 (k + 1) f fd ps (dn K sp) := by
  refine F.ok Sc (fun vs H Q E h => ?_) (fun cdv A outer s H vs Q E hr h => ?_)
  · obtain ⟨ds, S, Q', E', dv, _, h, _⟩ := h
    rw [← dv.length]
    exact len _ _ _ _ h
  · obtain ⟨ds, S, Q', E', dv, rh, h, q, xi⟩ := h
    obtain ⟨T, p, l⟩ := (hb cdv A outer s H E hr).ex
    refine ⟨T, p, ?_⟩
    refine l _ (start' N.length ds) H S _ { nx := fun _ S => Q' .non S, rt := Q' } (rs_start N dv) rh (pure' _ _ _ (nox _ _ _ _ h)) ⟨fun σ' S' σ H' f rh' rs h' => ?_, q, fun _ _ _ _ _ _ _ z => z.elim, fun _ _ _ _ _ _ _ z => z.elim, fun _ _ _ _ _ _ _ _ _ _ _ _ _ _ z => z.elim⟩
    exact q _ _ _ _ f rh' .non h'
end
end Y
namespace Y
open PySem PySem.Spec PyProof.Rows L2
/-! ### what an operator gives where its sides are known -/
section
variable {i j : Int} {a b : Str} {xs ys : List D} {p q : Addr} {S : Hq} {Q : Qv} {c d : Bool} {x y : D} {C : Int → Int → Prop} {g : Int → Int → D} {R : List D → (Hq → Prop) → Hq → Prop}
theorem q_asB {f : Bool → Prop} : asB (.bl c) f = f c := rfl
theorem q_asI {f : Int → Prop} : asI (.int i) f = f i := rfl
theorem q_add : addD (.int i) (.int j) S Q = Q (.int (i + j)) S := rfl
theorem q_addS : addD (.str a) (.str b) S Q = (a.length + b.length ≤ 1000000 ∧ Q (.str (a ++ b)) S) := rfl
theorem q_addT : addD (.tup xs) (.tup ys) S Q = (xs.length + ys.length ≤ 1000000 ∧ Q (.tup (xs ++ ys)) S) := rfl
theorem q_addL : addD (.ref p) (.ref q) S Q = (∃ xs ys, S p = some (.lst xs) ∧ S q = some (.lst ys) ∧ xs.length + ys.length ≤ 1000000 ∧ ∀ p, S p = none → Q (.ref p) (up S p (.lst (xs ++ ys)))) := rfl
theorem q_int : intD C g (.int i) (.int j) S Q = (C i j ∧ Q (g i j) S) := rfl
theorem q_sub : subD (.int i) (.int j) S Q = Q (.int (i - j)) S := rfl
theorem q_mul : mulD (.int i) (.int j) S Q = (CMul' i j ∧ Q (.int (i * j)) S) := rfl
theorem q_fdiv : fdivD (.int i) (.int j) S Q = (CDiv' i j ∧ Q (.int (i / j)) S) := rfl
theorem q_mod : modD (.int i) (.int j) S Q = (0 < j ∧ Q (.int (i % j)) S) := rfl
theorem q_pow : powD (.int i) (.int j) S Q = (CPow' i j ∧ Q (.int (i ^ j.toNat)) S) := rfl
theorem q_neg : negD (.int i) S Q = Q (.int (-i)) S := rfl
theorem q_le : leD (.int i) (.int j) S Q = Q (.bl (decide (i ≤ j))) S := rfl
theorem q_ge : geD (.int i) (.int j) S Q = Q (.bl (decide (j ≤ i))) S := rfl
theorem q_gt : gtD (.int i) (.int j) S Q = Q (.bl (decide (j < i))) S := rfl
theorem q_lt : ltD (.int i) (.int j) S Q = Q (.bl (decide (i < j))) S := rfl
theorem q_ltT : ltD (.tup xs) (.tup ys) S Q = (∃ ns ms, xs = ns.map D.int ∧ ys = ms.map D.int ∧ Q (.bl (HT.lexLt ns ms)) S) := rfl
theorem q_isN : isD x .non S Q = Q (.bl (isN x)) S := rfl
theorem q_isB : isD (.bl c) (.bl d) S Q = Q (.bl (decide (c = d))) S := rfl
theorem q_isBi : isD (.int i) (.bl d) S Q = Q (.bl false) S := rfl
theorem q_isBs : isD (.str a) (.bl d) S Q = Q (.bl false) S := rfl
theorem q_isBn : isD .non (.bl d) S Q = Q (.bl false) S := rfl
theorem q_isBt : isD (.tup xs) (.bl d) S Q = Q (.bl false) S := rfl
theorem q_isnt : isntD x .non S Q = Q (.bl (!isN x)) S := rfl
theorem n_non : isN .non = true := rfl
theorem n_bl : isN (.bl c) = false := rfl
theorem n_int : isN (.int i) = false := rfl
theorem n_str : isN (.str a) = false := rfl
theorem n_tup : isN (.tup xs) = false := rfl
theorem n_ref : isN (.ref p) = false := rfl
theorem q_eq {f : Bool → Bool} : eqD f (.int i) (.int j) S Q = Q (.bl (f (decide (i = j)))) S := rfl
theorem q_eqS {f : Bool → Bool} : eqD f (.str a) (.str b) S Q = Q (.bl (f (decide (a = b)))) S := rfl
theorem q_eqB {f : Bool → Bool} : eqD f (.bl c) (.bl d) S Q = Q (.bl (f (decide (c = d)))) S := rfl
theorem q_eqT {f : Bool → Bool} : eqD f (.tup xs) (.tup ys) S Q = (okE (.tup xs) ∧ okE (.tup ys) ∧ Q (.bl (f (PyData.eqv (pd (.tup xs)) (pd (.tup ys))))) S) := rfl
theorem q_ixT : ixD (.tup xs) (.int i) S Q = (∃ d, atI xs i = some d ∧ Q d S) := rfl
theorem q_ixK : ixD (.kl xs) (.int i) S Q = (∃ d, atI xs i = some d ∧ Q d S) := rfl
theorem q_ixL : ixD (.ref p) (.int i) S Q = (∃ xs d, S p = some (.lst xs) ∧ atI xs i = some d ∧ Q d S) := rfl
theorem q_ixS : ixD (.str a) (.int i) S Q = (∃ c, a.length ≤ 1000000 ∧ atI a.cps.toList i = some c ∧ Q (.str ⟨#[c]⟩) S) := rfl
theorem q_slT {l u : Option Int} : slD (.tup xs) l u S Q = Q (.tup (cutL xs l u)) S := rfl
theorem q_slL {l u : Option Int} : slD (.ref p) l u S Q = (∃ xs, S p = some (.lst xs) ∧ ∀ p, S p = none → Q (.ref p) (up S p (.lst (cutL xs l u)))) := rfl
theorem q_slS {l u : Option Int} : slD (.str a) l u S Q = (a.length ≤ 1000000 ∧ Q (.str (cutS a l u)) S) := rfl
theorem q_set {N : Hq → Prop} : setD (.ref p) (.int i) x S N = (∃ xs j, S p = some (.lst xs) ∧ ixN xs.length i = some j ∧ N (up S p (.lst (xs.set j x)))) := rfl
theorem q_lenT : lenD [.tup xs] S Q = Q (.int xs.length) S := rfl
theorem q_lenK : lenD [.kl xs] S Q = Q (.int xs.length) S := rfl
theorem q_lenS : lenD [.str a] S Q = (a.length ≤ 1000000 ∧ Q (.int a.length) S) := rfl
theorem q_lenL : lenD [.ref p] S Q = (∃ xs, S p = some (.lst xs) ∧ Q (.int xs.length) S) := rfl
theorem q_abs : absD [.int i] S Q = Q (.int (if i < 0 then -i else i)) S := rfl
theorem q_intF : intF [.int i] S Q = Q (.int i) S := rfl
theorem q_max : maxD [.int i, .int j] S Q = Q (.int (if j > i then j else i)) S := rfl
theorem q_min : minD [.int i, .int j] S Q = Q (.int (if j < i then j else i)) S := rfl
theorem q_tupT : tupF [.tup xs] S Q = Q (.tup xs) S := rfl
theorem q_tupL : tupF [.ref p] S Q = (∃ xs, S p = some (.lst xs) ∧ Q (.tup xs) S) := rfl
theorem q_lstT : lstF [.tup xs] S Q = (∀ p, S p = none → Q (.ref p) (up S p (.lst xs))) := rfl
theorem q_lstL : lstF [.ref p] S Q = (∃ xs, S p = some (.lst xs) ∧ ∀ p, S p = none → Q (.ref p) (up S p (.lst xs))) := rfl
theorem q_app : appD (.ref p) [x] S Q = (∃ xs, S p = some (.lst xs) ∧ xs.length < 1000000 ∧ Q .non (up S p (.lst (xs ++ [x])))) := rfl
theorem q_ext : extD (.ref p) [.ref q] S Q = (∃ xs ys, S p = some (.lst xs) ∧ S q = some (.lst ys) ∧ xs.length + ys.length ≤ 1000000 ∧ Q .non (up S p (.lst (xs ++ ys)))) := rfl
theorem q_joinL : joinD (.str a) [.ref p] S Q = (∃ xs zs, S p = some (.lst xs) ∧ strsD xs = some zs ∧ (zs.map (·.length)).sum + zs.length * a.length ≤ 1000000 ∧ Q (.str (Txt.join a zs)) S) := rfl
theorem q_stw : stwD (.str a) [.str b] S Q = Q (.bl (Txt.startswith a b)) S := rfl
theorem q_seq : seqD (.tup xs) S R = R xs (fun _ => True) S := rfl
theorem q_lst : lstD (.ref p) S R = (∃ xs, S p = some (.lst xs) ∧ R xs (fun S => S p = some (.lst xs)) S) := rfl
theorem q_rng : rngD [.int j] S R = ((-(2 ^ 62) ≤ j ∧ j < 2 ^ 62) ∧ R (rangeD 0 j.toNat) (fun _ => True) S) := rfl
theorem q_rng2 : rng2D [.int i, .int j] S R = ((-(2 ^ 62) ≤ i ∧ i < 2 ^ 62 ∧ -(2 ^ 62) ≤ j ∧ j < 2 ^ 62) ∧ R (rangeD i (j - i).toNat) (fun _ => True) S) := rfl
theorem q_zpT : zpD [.tup xs, .tup ys] S R = R (zipD xs ys) (fun _ => True) S := rfl
theorem q_zpL : zpD [.ref p, .ref q] S R = (∃ xs ys, S p = some (.lst xs) ∧ S q = some (.lst ys) ∧ R (zipD xs ys) (fun S => S p = some (.lst xs) ∧ S q = some (.lst ys)) S) := rfl
theorem q_truN {f : Bool → Prop} : truD .non S f = f false := rfl
theorem q_truB {f : Bool → Prop} : truD (.bl c) S f = f c := rfl
theorem q_truI {f : Bool → Prop} : truD (.int i) S f = f (i != 0) := rfl
theorem q_truT {f : Bool → Prop} : truD (.tup xs) S f = f (!xs.isEmpty) := rfl
theorem q_truL {f : Bool → Prop} : truD (.ref p) S f = (∃ xs, S p = some (.lst xs) ∧ f (!xs.isEmpty)) := rfl
theorem t_non : tyN .non S = some "NoneType" := rfl
theorem t_bl : tyN (.bl c) S = some "bool" := rfl
theorem t_int : tyN (.int i) S = some "int" := rfl
theorem t_str : tyN (.str a) S = some "str" := rfl
theorem t_tup : tyN (.tup xs) S = some "tuple" := rfl
theorem t_lst (h : S p = some (.lst xs)) : tyN (.ref p) S = some "list" := by simp only [tyN, h]
theorem q_isi {t n : String} (h : tyN x S = some t) : isiD [x, .ty n] S Q = isiR t n S Q := by simp only [isiD, h]
theorem q_isiN {n : String} : isiD [.non, .ty n] S Q = isiR "NoneType" n S Q := rfl
theorem q_isiB {n : String} : isiD [.bl c, .ty n] S Q = isiR "bool" n S Q := rfl
theorem q_isiI {n : String} : isiD [.int i, .ty n] S Q = isiR "int" n S Q := rfl
theorem q_isiS {n : String} : isiD [.str a, .ty n] S Q = isiR "str" n S Q := rfl
theorem q_isiT {n : String} : isiD [.tup xs, .ty n] S Q = isiR "tuple" n S Q := rfl
theorem q_isiL {n : String} (h : S p = some (.lst xs)) : isiD [.ref p, .ty n] S Q = isiR "list" n S Q := by simp only [isiD, t_lst h]
theorem i_NoneType_int : isiR "NoneType" "int" S Q = Q (.bl false) S := rfl
theorem i_NoneType_bool : isiR "NoneType" "bool" S Q = Q (.bl false) S := rfl
theorem i_NoneType_tuple : isiR "NoneType" "tuple" S Q = Q (.bl false) S := rfl
theorem i_NoneType_list : isiR "NoneType" "list" S Q = Q (.bl false) S := rfl
theorem i_NoneType_str : isiR "NoneType" "str" S Q = Q (.bl false) S := rfl
theorem i_bool_int : isiR "bool" "int" S Q = Q (.bl true) S := rfl
theorem i_bool_bool : isiR "bool" "bool" S Q = Q (.bl true) S := rfl
theorem i_bool_tuple : isiR "bool" "tuple" S Q = Q (.bl false) S := rfl
theorem i_bool_list : isiR "bool" "list" S Q = Q (.bl false) S := rfl
theorem i_bool_str : isiR "bool" "str" S Q = Q (.bl false) S := rfl
theorem i_int_int : isiR "int" "int" S Q = Q (.bl true) S := rfl
theorem i_int_bool : isiR "int" "bool" S Q = Q (.bl false) S := rfl
theorem i_int_tuple : isiR "int" "tuple" S Q = Q (.bl false) S := rfl
theorem i_int_list : isiR "int" "list" S Q = Q (.bl false) S := rfl
theorem i_int_str : isiR "int" "str" S Q = Q (.bl false) S := rfl
theorem i_str_int : isiR "str" "int" S Q = Q (.bl false) S := rfl
theorem i_str_bool : isiR "str" "bool" S Q = Q (.bl false) S := rfl
theorem i_str_tuple : isiR "str" "tuple" S Q = Q (.bl false) S := rfl
theorem i_str_list : isiR "str" "list" S Q = Q (.bl false) S := rfl
theorem i_str_str : isiR "str" "str" S Q = Q (.bl true) S := rfl
theorem i_tuple_int : isiR "tuple" "int" S Q = Q (.bl false) S := rfl
theorem i_tuple_bool : isiR "tuple" "bool" S Q = Q (.bl false) S := rfl
theorem i_tuple_tuple : isiR "tuple" "tuple" S Q = Q (.bl true) S := rfl
theorem i_tuple_list : isiR "tuple" "list" S Q = Q (.bl false) S := rfl
theorem i_tuple_str : isiR "tuple" "str" S Q = Q (.bl false) S := rfl
theorem i_list_int : isiR "list" "int" S Q = Q (.bl false) S := rfl
theorem i_list_bool : isiR "list" "bool" S Q = Q (.bl false) S := rfl
theorem i_list_tuple : isiR "list" "tuple" S Q = Q (.bl false) S := rfl
theorem i_list_list : isiR "list" "list" S Q = Q (.bl true) S := rfl
theorem i_list_str : isiR "list" "str" S Q = Q (.bl false) S := rfl
theorem i_dict_int : isiR "dict" "int" S Q = Q (.bl false) S := rfl
theorem i_dict_bool : isiR "dict" "bool" S Q = Q (.bl false) S := rfl
theorem i_dict_tuple : isiR "dict" "tuple" S Q = Q (.bl false) S := rfl
theorem i_dict_list : isiR "dict" "list" S Q = Q (.bl false) S := rfl
theorem i_dict_str : isiR "dict" "str" S Q = Q (.bl false) S := rfl
theorem q_gTp {n : Nat} {r : RGs} {σ : Sg} {N : Sg → Hq → Prop} {E : Xw} : gTp n r (.tup xs) σ S N E = (xs.length = n ∧ r xs σ S N NoX) := rfl
theorem q_gC {g : RG} {r : RGs} {σ : Sg} {N : Sg → Hq → Prop} {E : Xw} : gConss g r (x :: xs) σ S N E = g x σ S (fun σ1 S1 => r xs σ1 S1 N E) E := rfl
theorem q_gN {σ : Sg} {N : Sg → Hq → Prop} {E : Xw} : gNils [] σ S N E = N σ S := rfl
theorem g_02 {α : Type} {a b : α} : gk 0 2 [0, 1] [] [a, b] = [a, b] := rfl
theorem g_02' {α : Type} {a b : α} : gk 0 2 [1, 0] [] [a, b] = [b, a] := rfl
theorem g_01 {α : Type} {a : α} : gk 0 1 [0] [] [a] = [a] := rfl
theorem g_11 {α : Type} {a b : α} : gk 1 1 [0, 1] [a] [b] = [a, b] := rfl
theorem at_0 {α : Type} {x : α} {r : List α} : atI (x :: r) 0 = some x := by
  refine atI_nat (j := 0) ?_
  rfl
theorem at_1 {α : Type} {x y : α} {r : List α} : atI (x :: y :: r) 1 = some y := by
  refine atI_nat (j := 1) ?_
  rfl
theorem ix_0 {n : Nat} : ixN (n + 1) 0 = some 0 := by unfold ixN; simp
theorem ix_1 {n : Nat} : ixN (n + 2) 1 = some 1 := by
  unfold ixN
  have h : (1 : Int) < ((n + 2 : Nat) : Int) := by omega
  rw [if_pos (by decide), if_pos h]; rfl
end
/-! ### the box, and what stands beside it -/
def Bx (S : Hq) (b : Addr) : Prop := ∃ g s : Int, S b = some (.lst [.int g, .int s])
/-- all but b stands as it stood (new things may have come) -/
structure Nx (b : Addr) (S S' : Hq) : Prop where
  bx : Bx S' b
  old : ∀ a o, a ≠ b → S a = some o → S' a = some o
theorem up_get {S : Hq} {p a : Addr} {q o : HQ} (hp : S p = none) (h : S a = some o) : up S p q a = some o := by
  rw [up_ne (fun z => by rw [z, hp] at h; cases h)]; exact h
theorem Nx.get {b a : Addr} {S S' : Hq} {o : HQ} (n : Nx b S S') (ne : a ≠ b) (h : S a = some o) : S' a = some o := n.old a o ne h
theorem ne_get {S : Hq} {a p : Addr} {o : HQ} (h : S a = some o) (hp : S p = none) : a ≠ p := fun z => by rw [z, hp] at h; cases h
theorem Nx.refl {b : Addr} {S : Hq} (h : Bx S b) : Nx b S S := ⟨h, fun _ _ _ h => h⟩
theorem Nx.trans {b : Addr} {S S1 S2 : Hq} (x : Nx b S S1) (y : Nx b S1 S2) : Nx b S S2 := ⟨y.bx, fun a o ne h => y.old a o ne (x.old a o ne h)⟩
theorem Bx.up {b p : Addr} {S : Hq} {q : HQ} (h : Bx S b) (hp : S p = none) : Bx (up S p q) b := let ⟨g, s, e⟩ := h; ⟨g, s, up_get hp e⟩
theorem Nx.new {b p : Addr} {S : Hq} {q : HQ} (h : Bx S b) (hp : S p = none) : Nx b S (up S p q) := ⟨h.up hp, fun _ _ _ h => up_get hp h⟩
theorem Bx.ne {b p : Addr} {S : Hq} (h : Bx S b) (hp : S p = none) : p ≠ b := fun z => by obtain ⟨g, s, e⟩ := h; rw [z, e] at hp; cases hp
theorem Nx.put {b : Addr} {S : Hq} {g s : Int} : Nx b S (up S b (.lst [.int g, .int s])) := ⟨⟨g, s, up_same⟩, fun a o ne h => by rw [up_ne ne]; exact h⟩
theorem up_up {S : Hq} {a : Addr} {o u : HQ} : up (up S a o) a u = up S a u := by funext b; unfold up; split <;> rfl
/-- a list of one's own is written: what stands beside stands -/
theorem Bx.put {b p : Addr} {S : Hq} {q : HQ} (h : Bx S b) (ne : p ≠ b) : Bx (Y.up S p q) b := let ⟨g, s, e⟩ := h; ⟨g, s, by rw [up_ne (Ne.symm ne)]; exact e⟩
theorem law_in {K : PySem.W.Frag} {H : Hp} {Q : VK} {E : XK} {a : Addr} {ns : List Int} {sp : Sq} (ok : ∀ (ns : List Int) (S : Hq) (Q' : Qv), ns.length ≤ 63 → (∀ S', Q' (.bl true) S') → sp [.kl (ns.map D.int)] S Q' NoX) (hl : ns.length ≤ 63) (ho : Only H) (hS : SqL K H a (ns.map V.int)) (q : ∀ H', Q (.bl true) H') : dn K sp [.ref a] H Q E := by
  have hF : SqF K H a (ns.map V.int) := by
    rcases hS with (h | h) | h
    · rcases ho a with z | ⟨o, xs, z⟩
      · rw [z] at h; cases h
      · rw [z] at h; cases h
    · exact .inl h
    · exact .inr h
  exact ⟨[.kl (ns.map D.int)], fun _ => none, fun d _ => d = .bl true, NoX, .cons (.kl hF DVs.ofInts) .nil, fun b o e => (by cases e), ok ns _ _ hl (fun _ => rfl), fun d S' v H' f r dv h => by subst h; cases dv; exact q H', XI.no⟩
end Y
namespace Y
open PySem PySem.Spec PyProof.Rows L2
theorem at_in {α : Type} {xs : List α} {i : Int} (h0 : 0 ≤ i) (h1 : i < xs.length) : ∃ d, d ∈ xs ∧ atI xs i = some d ∧ xs[i.toNat]? = some d := by
  obtain ⟨j, rfl⟩ := Int.eq_ofNat_of_zero_le h0
  have hn : j < xs.length := by omega
  exact ⟨xs[j], List.getElem_mem hn, atI_nat (List.getElem?_eq_getElem hn), List.getElem?_eq_getElem hn⟩
theorem at_ints {ns : List Int} {i : Int} (h0 : 0 ≤ i) (h1 : i < ns.length) : ∃ n, n ∈ ns ∧ atI (ns.map D.int) i = some (.int n) ∧ ns[i.toNat]? = some n := by
  obtain ⟨j, rfl⟩ := Int.eq_ofNat_of_zero_le h0
  have hn : j < ns.length := by omega
  exact ⟨ns[j], List.getElem_mem hn, atI_nat (by rw [List.getElem?_map, List.getElem?_eq_getElem hn]; rfl), List.getElem?_eq_getElem hn⟩
theorem cm_r {i j : Int} (h1 : -(2 ^ 64) < j) (h2 : j < 2 ^ 64) : CMul' i j := .inr ⟨h1, h2⟩
theorem cm_l {i j : Int} (h1 : -(2 ^ 64) < i) (h2 : i < 2 ^ 64) : CMul' i j := .inl ⟨h1, h2⟩
theorem mem_ints {l : List Int} {d : D} (h : d ∈ l.map D.int) : ∃ i, i ∈ l ∧ d = .int i := by
  obtain ⟨i, h1, h2⟩ := List.mem_map.mp h; exact ⟨i, h1, h2.symm⟩
theorem ix_in {n : Nat} {i : Int} (h0 : 0 ≤ i) (h1 : i < n) : ixN n i = some i.toNat := by
  unfold ixN; rw [if_pos h0, if_pos h1]
/-- elements that are drawn: each keeps I and has P -/
theorem lc_draw {gd : Hq → Prop} {te : RE} {i : Nat} {σ : Sg} {Qf : List D → Hq → Prop} (I : Hq → Prop) (P : D → Prop) (hg : ∀ S, I S → gd S) : ∀ (xs acc : List D) (S : Hq),
    (∀ x ∈ xs, ∀ (S : Hq) (Q : Qv), I S → (∀ y S', P y → I S' → Q y S') → te ((wipeD σ [i]).set i (some x)) S Q NoX) →
    acc.length + xs.length ≤ 1000000 → (∀ y ∈ acc, P y) → I S → (∀ acc' S', acc'.length = acc.length + xs.length → (∀ y ∈ acc', P y) → I S' → Qf acc' S') → lcP gd (gNm i) rYes te [i] σ Qf xs acc S
  | [], acc, S, _, _, ha, hi, k => ⟨hg S hi, k acc S (by simp) ha hi⟩
  | x :: r, acc, S, h, hz, ha, hi, k => by
    refine ⟨hg S hi, ?_⟩
    show te ((wipeD σ [i]).set i (some x)) S (fun y S4 => acc.length < 1000000 ∧ lcP gd (gNm i) rYes te [i] σ Qf r (acc ++ [y]) S4) NoX
    refine h x (by simp) S _ hi (fun y S4 py i4 => ⟨by simp at hz; omega, ?_⟩)
    refine lc_draw I P hg r (acc ++ [y]) S4 (fun x hx => h x (by simp [hx])) (by simp at hz ⊢; omega) (fun z hz => ?_) i4 (fun acc' S' hl hp hi' => k acc' S' (by simp at hl ⊢; omega) hp hi')
    rcases List.mem_append.mp hz with hz | hz
    · exact ha z hz
    · rw [List.mem_singleton] at hz; subst hz; exact py
end Y
namespace Y
open PySem PySem.Spec PyProof.Rows L2
theorem ints_of : ∀ {ds : List D}, (∀ y ∈ ds, ∃ i, y = D.int i) → ∃ is : List Int, ds = is.map D.int
  | [], _ => ⟨[], rfl⟩
  | d :: ds, h => by
    obtain ⟨i, rfl⟩ := h d (by simp)
    obtain ⟨is, rfl⟩ := ints_of (ds := ds) fun y hy => h y (by simp [hy])
    exact ⟨i :: is, rfl⟩
theorem cutL_map {α β : Type} (f : α → β) (xs : List α) (lo hi : Option Int) : cutL (xs.map f) lo hi = (cutL xs lo hi).map f := by
  unfold cutL; rw [List.length_map, List.map_take, List.map_drop]
theorem cutL_to {α : Type} (xs : List α) {k : Int} (h : 0 ≤ k) : cutL xs none (some k) = xs.take k.toNat := by
  obtain ⟨j, rfl⟩ := Int.eq_ofNat_of_zero_le h
  unfold cutL
  rw [HT.sIx_none, HT.sIx_nat, Int.toNat_natCast, List.drop_zero, Nat.sub_zero]
  by_cases c : j ≤ xs.length
  · rw [Nat.min_eq_left c]
  · rw [Nat.min_eq_right (by omega), List.take_length, List.take_of_length_le (by omega)]
theorem cutL_from {α : Type} (xs : List α) {k : Int} (h : 0 ≤ k) : cutL xs (some k) none = xs.drop k.toNat := by
  obtain ⟨j, rfl⟩ := Int.eq_ofNat_of_zero_le h
  unfold cutL
  rw [HT.sIx_none, HT.sIx_nat, Int.toNat_natCast]
  by_cases c : j ≤ xs.length
  · rw [Nat.min_eq_left c, List.take_of_length_le (by simp)]
  · rw [Nat.min_eq_right (by omega), List.drop_length, List.drop_of_length_le (by omega)]; simp
/-- a loop by its turn's number -/
theorem loop_idx {gd : Hq → Prop} {g : RG} {tb : RSt} {D0 : En} {xs : List D} {σ : Sg} {S : Hq} (P : Nat → Sg → Hq → Prop) (hg : ∀ i σ S, i ≤ xs.length → P i σ S → gd S)
    (hs : ∀ i x σ S, xs[i]? = some x → P i σ S → ∀ N : Sg → Hq → Prop, (∀ σ' S', P (i + 1) σ' S' → N σ' S') → g x σ S (fun σ2 S2 => tb { D0 with nx := N, ct := N, bk := D0.nx } σ2 S2) (D0.x σ))
    (hd : ∀ σ S, P xs.length σ S → D0.nx σ S) (h0 : P 0 σ S) : loopP gd g tb xs D0 σ S := by
  have key : ∀ (l : List D) (i : Nat) (σ : Sg) (S : Hq), i + l.length = xs.length → (∀ j, l[j]? = xs[i + j]?) → P i σ S → loopP gd g tb l D0 σ S := by
    intro l
    induction l with
    | nil =>
      intro i σ S hl _ hp
      have e : i = xs.length := by simpa using hl
      subst e
      exact ⟨hg _ _ _ (Nat.le_refl _) hp, hd σ S hp⟩
    | cons x r ih =>
      intro i σ S hl hj hp
      have hlr : i + r.length + 1 = xs.length := by rw [List.length_cons] at hl; omega
      refine ⟨hg _ _ _ (by omega) hp, ?_⟩
      refine hs i x σ S (by have := hj 0; simpa using this.symm) hp (loopP gd g tb r D0) fun σ' S' hp' => ?_
      exact ih (i + 1) σ' S' (by omega) (fun j => by have := hj (j + 1); rw [List.getElem?_cons_succ] at this; rw [this]; congr 1; omega) hp'
  exact key xs 0 σ S (by omega) (fun j => by rw [Nat.zero_add]) h0
/-- data for which == of the law's kind is True -/
def Pn : Nat → D → Prop
  | 0, _ => False
  | n + 1, d => match d with
    | .tup xs => xs.length ≤ 100000 ∧ ∀ x ∈ xs, Pn n x
    | .non => True | .bl _ => True | .int _ => True | .str _ => True
    | _ => False
def ofO : Option (List Int) → D
  | none => .non
  | some ns => .tup (ns.map D.int)
def blw : Option (List Int) → Option (List Int) → Bool
  | none, _ => false
  | some _, none => true
  | some a, some b => HT.lexLt a b
theorem Pn_ofO {n : Nat} {o : Option (List Int)} (h : ∀ ns, o = some ns → ns.length ≤ 100000) : Pn (n + 2) (ofO o) := by
  cases o with
  | none => trivial
  | some ns =>
    refine ⟨by rw [List.length_map]; exact h ns rfl, fun x hx => ?_⟩
    obtain ⟨i, _, rfl⟩ := mem_ints hx
    trivial
/-- numbers as the law draws them -/
def Fig (ns : List Int) : Prop := ∃ h m l, ns = h :: (m ++ [l]) ∧ 0 ≤ h ∧ 0 ≤ l ∧ l < 32 ∧ m.length ≤ 13
theorem lex_same {xs : List Int} : HT.lexLt xs xs = false := by
  induction xs with
  | nil => rfl
  | cons x r ih => rw [HT.lexLt_cons, if_pos rfl, ih]
def keyO (z : Str) : Option (List Int) → Option (List Int)
  | none => none
  | some ns => some ((6 - (z.length : Int)) :: ns)
def lst_of (os : List (Option (List Int))) : Option (List Int) := os.foldl (fun acc x => if blw x acc then x else acc) none
end Y
namespace Y
open PySem PySem.Spec PyProof.Rows L2
/-! ### > of tuples of ints -/
theorem ints_at : ∀ {us : List Value} {ns : List Int}, IntsAre us ns → ∀ {j : Nat} {v : Value}, us[j]? = some v → ∃ n t, v = .int n t ∧ ns[j]? = some n
  | _, _, .nil, _, _, h => by simp at h
  | _, _, .cons a t r, 0, v, h => by
    rw [List.getElem?_cons_zero] at h; cases h
    exact ⟨_, _, rfl, rfl⟩
  | _, _, .cons a t r, j + 1, v, h => by
    rw [List.getElem?_cons_succ] at h
    obtain ⟨n, t, e, g⟩ := ints_at r h
    exact ⟨n, t, e, by rw [List.getElem?_cons_succ]; exact g⟩
theorem ints_len : ∀ {us : List Value} {ns : List Int}, IntsAre us ns → us.length = ns.length
  | _, _, .nil => rfl
  | _, _, .cons a t r => congrArg (· + 1) (ints_len r)
def gtE (ns ms : List Int) (j : Nat) : Bool := decide (ns.getD j 0 = ms.getD j 0)
def gtR (ns ms : List Int) (j : Nat) : Bool := decide (ms.getD j 0 < ns.getD j 0)
theorem lexAt_gt (ns ms : List Int) : ∀ (k i : Nat), k = min (ns.length - i) (ms.length - i) → i ≤ min ns.length ms.length → Ob.lexAt (gtE ns ms) (gtR ns ms) (decide (ns.length > ms.length)) i k = HT.lexLt (ms.drop i) (ns.drop i)
  | 0, i, h, hi => by
    rw [Ob.lexAt_zero]
    by_cases c : i < ms.length
    · have e : ns.drop i = [] := List.drop_eq_nil_of_le (by omega)
      rw [e, List.drop_eq_getElem_cons c, HT.lexLt_cons_nil]
      exact decide_eq_false (by omega)
    · have e : ms.drop i = [] := List.drop_eq_nil_of_le (by omega)
      rw [e]
      by_cases c2 : i < ns.length
      · rw [List.drop_eq_getElem_cons c2, HT.lexLt_nil_cons]
        exact decide_eq_true (by omega)
      · have e : ns.drop i = [] := List.drop_eq_nil_of_le (by omega)
        rw [e, HT.lexLt_nil_nil]
        exact decide_eq_false (by omega)
  | k + 1, i, h, hi => by
    have h1 : i < ns.length := by omega
    have h2 : i < ms.length := by omega
    rw [Ob.lexAt_succ, lexAt_gt ns ms k (i + 1) (by omega) (by omega), List.drop_eq_getElem_cons h1, List.drop_eq_getElem_cons h2, HT.lexLt_cons]
    have e1 : ns.getD i 0 = ns[i] := by simp [List.getD, List.getElem?_eq_getElem h1]
    have e2 : ms.getD i 0 = ms[i] := by simp [List.getD, List.getElem?_eq_getElem h2]
    unfold gtE gtR
    rw [e1, e2]
    by_cases c : ns[i] = ms[i]
    · rw [if_pos (by simpa using c), if_pos c.symm]
    · rw [if_neg (by simpa using c), if_neg (fun z => c z.symm)]
def rGtT (K : PySem.W.Frag) : R2 := fun x y H Q => ∃ (a b : Addr) (ns ms : List Int), x = .ref a ∧ y = .ref b ∧ SqT K H a (ns.map V.int) ∧ SqT K H b (ms.map V.int) ∧ Q (.bl (HT.lexLt ms ns)) H
section
variable {X : Cx} {K : PySem.W.Frag}
theorem op_gtT (hu : X.A.units < cLine) : OpR X (compareOp .Gt) (rGtT X.K) := by
  intro pins s σ H x y v u Q I rx ry h
  obtain ⟨a, b, ns, ms, rfl, rfl, ha, hb, q⟩ := h
  cases rx
  cases ry
  obtain ⟨its, r1, p1, _⟩ := I.tuple ha
  obtain ⟨its2, r2, p2, _⟩ := I.tuple hb
  have i1 : IntsAre its ns := intsAre_of r1
  have i2 : IntsAre its2 ms := intsAre_of r2
  have key := Ob.RcOp.tuples_gt (A := X.A) (s := s) (l := a) (b := b) (items := its.toArray) (items2 := its2.toArray) (e := gtE ns ms) (r := gtR ns ms) p1 p2 hu
    (fun j h1 h2 => by
      obtain ⟨n, t, e, g⟩ := ints_at i1 (j := j) (v := its.toArray[j]) (by simp)
      obtain ⟨m, u, e', g'⟩ := ints_at i2 (j := j) (v := its2.toArray[j]) (by simp)
      rw [e, e']
      obtain ⟨c, hc, hcc⟩ := HT.eqAt_int X.A.in1 s n t m u
      have : c = gtE ns ms j := by
        unfold gtE
        simp only [List.getD, g, g', Option.getD_some]
        cases c
        · exact (decide_eq_false (fun z => by have := hcc.mpr z; cases this)).symm
        · exact (decide_eq_true (hcc.mp rfl)).symm
      rw [← this]; exact hc)
    (fun j h1 h2 _ => by
      obtain ⟨n, t, e, g⟩ := ints_at i1 (j := j) (v := its.toArray[j]) (by simp)
      obtain ⟨m, u, e', g'⟩ := ints_at i2 (j := j) (v := its2.toArray[j]) (by simp)
      rw [e, e']
      have : gtR ns ms j = decide (m < n) := by unfold gtR; simp only [List.getD, g, g', Option.getD_some]
      rw [this]
      exact Ob.RcOp.gt_int n m t u)
  have e : Ob.lexAt (gtE ns ms) (gtR ns ms) (decide (its.toArray.size > its2.toArray.size)) 0 (min its.toArray.size its2.toArray.size) = HT.lexLt ms ns := by
    rw [List.size_toArray, List.size_toArray, ints_len i1, ints_len i2]
    exact lexAt_gt ns ms _ 0 rfl (Nat.zero_le _)
  rw [e] at key
  exact key _ _ _ _ ⟨.bl (HT.lexLt ms ns), H, I, rfl, q⟩
def gtD2 : R2q := fun x y S Q => match x, y with
  | .int i, .int j => Q (.bl (decide (j < i))) S
  | .tup xs, .tup ys => ∃ ns ms, xs = ns.map D.int ∧ ys = ms.map D.int ∧ Q (.bl (HT.lexLt ms ns)) S
  | _, _ => False
def rGtU (K : PySem.W.Frag) : R2 := fun x y H Q => rI0 (fun i j => .bl (decide (j < i))) x y H Q ∨ rGtT K x y H Q
theorem op_gtU (hu : X.A.units < cLine) : OpR X (compareOp .Gt) (rGtU X.K) := opr_or op_gt (op_gtT hu)
theorem lf_gt2 : Lift2 K gtD2 (rGtU K) := by
  intro x y S H Q' Q v u rh dx dy h q
  cases x <;> cases y <;> try exact h.elim
  · cases dx; cases dy; exact .inl ⟨_, _, rfl, rfl, q.here rh (.bl _) h⟩
  · obtain ⟨ns, ms, rfl, rfl, h⟩ := h
    cases dx with | tup s1 r1 =>
    cases dy with | tup s2 r2 =>
    rw [r1.ints] at s1
    rw [r2.ints] at s2
    exact .inr ⟨_, _, ns, ms, rfl, rfl, s1, s2, q.here rh (.bl _) h⟩
end
section
variable {S : Hq} {Q : Qv} {i j : Int} {xs ys : List D}
theorem q_gt2 : gtD2 (.int i) (.int j) S Q = Q (.bl (decide (j < i))) S := rfl
theorem q_gtT : gtD2 (.tup xs) (.tup ys) S Q = (∃ ns ms, xs = ns.map D.int ∧ ys = ms.map D.int ∧ Q (.bl (HT.lexLt ms ns)) S) := rfl
end
/-! ### isinstance of a row of types -/
def isiAll (t : String) : List D → Option Bool
  | [] => some false
  | .ty n :: r => match isiB t n, isiAll t r with | some b, some c => some (b || c) | _, _ => none
  | _ => none
def isi2D (ds : List D) (S : Hq) (Q : Qv) : Prop := match ds with
  | [x, .tup cs] => match tyN x S with | some t => (match isiAll t cs with | some b => Q (.bl b) S | none => False) | none => False
  | _ => isiD ds S Q
def rIsiS (K : PySem.W.Frag) : List V → Hp → VK → Prop := fun xs H Q => ∃ (x : V) (tp : Addr) (cs : List V) (t : Value) (us : List Value) (b : Bool), xs = [x, .ref tp] ∧ SqT K H tp cs ∧ Paired ClsV cs us ∧ TyX K H x t ∧ PySem.W.kitAny K t us = some b ∧ Q (.bl b) H
section
variable {X : Cx} {K : PySem.W.Frag} {H : Hp} {S : Hq}
theorem call_isiS : CallR X (.builtin "isinstance") (rIsiS X.K) := by
  intro pins s σ H xs us Q I r h
  obtain ⟨x, tp, cs, t, ws, b, rfl, hT, k, ty, e, q⟩ := h
  obtain ⟨u1, u2, rfl, r1, r2⟩ := vals2 r
  cases (show u2 = Value.ref tp from r2)
  obtain ⟨P, Z, p, hx⟩ := kit_of I r1 ty
  obtain ⟨its, rv, ht, _⟩ := I.tuple hT
  have e3 := ClsV.all k rv
  subst e3
  obtain ⟨⟨oc, odd, dt, sl⟩, h1, h2, n, h3⟩ := ht
  simp only at h2 h3
  subst h2 h3
  exact PySem.W.kia_tup Z I.kIn p h1 e hx fun tk => ⟨.bl b, H, I.tok tk, rfl, q⟩
theorem isiAll_kit {t : String} (ht : t = "NoneType" ∨ t = "bool" ∨ t = "int" ∨ t = "str" ∨ t = "tuple" ∨ t = "list" ∨ t = "dict") : ∀ {ds : List D} {vs : List V} {b : Bool}, isiAll t ds = some b → DVs K H ds vs → ∃ us, Paired ClsV vs us ∧ PySem.W.kitAny K (.type t) us = some b
  | [], _, _, h, .nil => by cases h; exact ⟨[], .nil, kitAny_nil⟩
  | .ty n :: r, _, b, h, .cons (.ty _) dr => by
    unfold isiAll at h
    split at h
    · rename_i c d ec ed
      cases h
      obtain ⟨us, p, k⟩ := isiAll_kit ht ed dr
      refine ⟨_, .cons (.ty n) p, kitAny_cons (b := c) (kit_ty (isiB_kit ht ec)) (fun z => ?_) (fun z => ?_)⟩
      · rw [z, Bool.false_or]; exact k
      · rw [z, Bool.true_or]
    · cases h
  | .non :: _, _, _, h, _ => by cases h
  | .bl _ :: _, _, _, h, _ => by cases h
  | .int _ :: _, _, _, h, _ => by cases h
  | .str _ :: _, _, _, h, _ => by cases h
  | .tup _ :: _, _, _, h, _ => by cases h
  | .ref _ :: _, _, _, h, _ => by cases h
  | .kl _ :: _, _, _, h, _ => by cases h
  | .cl _ :: _, _, _, h, _ => by cases h
theorem lc_isi2 : LiftC K isi2D (fun xs H Q => rIsi K xs H Q ∨ rIsiS K xs H Q) := by
  intro ds S H Q' Q vs rh dv h q
  unfold isi2D at h
  split at h
  · rename_i x cs
    split at h
    · rename_i t et
      split at h
      · rename_i b eb
        match vs, dv with
        | [_, _], .cons d1 (.cons (.tup sq dc) .nil) =>
          obtain ⟨ty, ts⟩ := tyN_of rh d1 et
          obtain ⟨us, p, k⟩ := isiAll_kit ts eb dc
          exact .inr ⟨_, _, _, _, us, b, rfl, sq, p, ty, k, q.here rh (.bl _) h⟩
      · exact h.elim
    · exact h.elim
  · exact .inl (lc_isi _ _ _ _ _ _ rh dv h q)
theorem call_isi2 : CallR X (.builtin "isinstance") (fun xs H Q => rIsi X.K xs H Q ∨ rIsiS X.K xs H Q) := by
  intro pins s σ H xs us Q I r h
  rcases h with h | h
  · exact call_isi _ _ _ _ _ _ _ I r h
  · exact call_isiS _ _ _ _ _ _ _ I r h
end
section
variable {S : Hq} {Q : Qv} {n a b : String} {x : D} {p : Addr} {xs : List D} {z : Str} {i : Int} {c : Bool}
theorem q_isi2 : isi2D [x, .ty n] S Q = isiD [x, .ty n] S Q := by cases x <;> rfl
theorem q_i2N : isi2D [.non, .tup [.ty "tuple", .ty "list"]] S Q = Q (.bl false) S := rfl
theorem q_i2B : isi2D [.bl c, .tup [.ty "tuple", .ty "list"]] S Q = Q (.bl false) S := rfl
theorem q_i2I : isi2D [.int i, .tup [.ty "tuple", .ty "list"]] S Q = Q (.bl false) S := rfl
theorem q_i2S : isi2D [.str z, .tup [.ty "tuple", .ty "list"]] S Q = Q (.bl false) S := rfl
theorem q_i2T : isi2D [.tup xs, .tup [.ty "tuple", .ty "list"]] S Q = Q (.bl true) S := rfl
theorem q_i2L (h : S p = some (.lst xs)) : isi2D [.ref p, .tup [.ty "tuple", .ty "list"]] S Q = Q (.bl true) S := by
  simp only [isi2D, t_lst h]; rfl
theorem q_j2N : isi2D [.non, .tup [.ty "list", .ty "tuple"]] S Q = Q (.bl false) S := rfl
theorem q_j2B : isi2D [.bl c, .tup [.ty "list", .ty "tuple"]] S Q = Q (.bl false) S := rfl
theorem q_j2I : isi2D [.int i, .tup [.ty "list", .ty "tuple"]] S Q = Q (.bl false) S := rfl
theorem q_j2S : isi2D [.str z, .tup [.ty "list", .ty "tuple"]] S Q = Q (.bl false) S := rfl
theorem q_j2T : isi2D [.tup xs, .tup [.ty "list", .ty "tuple"]] S Q = Q (.bl true) S := rfl
theorem q_j2L (h : S p = some (.lst xs)) : isi2D [.ref p, .tup [.ty "list", .ty "tuple"]] S Q = Q (.bl true) S := by
  simp only [isi2D, t_lst h]; rfl
end
/-! ### enumerate -/
def enumD (xs : List D) : List D := zipD (rangeD 0 xs.length) xs
theorem enumD_len {xs : List D} : (enumD xs).length = xs.length := by unfold enumD; rw [zipD_len, rangeD_len]; omega
theorem enumD_get {xs : List D} {i : Nat} {z : D} (h : (enumD xs)[i]? = some z) : ∃ x, xs[i]? = some x ∧ z = .tup [.int (i : Int), x] := by
  obtain ⟨a, b, h1, h2, rfl⟩ := zipD_get h
  obtain ⟨_, rfl⟩ := rangeD_get h1
  exact ⟨b, h2, by rw [Int.zero_add]⟩
def enD (ds : List D) (S1 : Hq) (R : List D → (Hq → Prop) → Hq → Prop) : Prop := match ds with
  | [.ref a] => ∃ xs, LsR S1 a xs ∧ R (enumD xs) (fun S => LsR S a xs) S1
  | _ => False
def iEn (ra : RA) : RI := fun σ S R E => ra σ S (fun ds S1 => enD ds S1 R) E
theorem it_enum {K : PySem.W.Frag} {S1 : Hq} {H1 : Hp} {a : Addr} {xs : List D} : ItOk K S1 H1 (Ite K a) (enumD xs) (fun S => LsR S a xs) := by
  refine ⟨fun S H f rh g => ?_, fun i x S H hx f rh g => ?_, fun i x S H v H' hx f rh g hy => ?_⟩
  · obtain ⟨vs, s, r⟩ := rh.sql g
    exact ⟨vs, s, by rw [enumD_len, r.length]; exact Nat.le_refl _⟩
  · obtain ⟨vs, s, r⟩ := rh.sql g
    obtain ⟨y, hy, _⟩ := enumD_get hx
    obtain ⟨v, hv, _⟩ := r.get hy
    exact ⟨vs, v, s, hv⟩
  · obtain ⟨vs, s, r⟩ := rh.sql g
    obtain ⟨y, hxy, rfl⟩ := enumD_get hx
    obtain ⟨v', hv, dv⟩ := r.get hxy
    obtain ⟨T, x2, rfl, hT, rfl, e1⟩ := hy
    have e1 := e1 vs s
    rw [hv] at e1; cases e1
    have f' := Fr.new (o := .tup [.int (i : Int), v']) rh hT
    exact ⟨f', rh.new hT, .tup (.inl (.inl upd_same)) (.cons (.int _) (.cons (DV.mono (f'.tle rh) _ _ dv) .nil))⟩
section
variable {X : Cx} {W : WX} {e e2 : Expr} {r : RE} {pos : Pos}
theorem ei_enum {ra : RA} {p tpos : Pos} {elts : List Expr} {kk : Nat} (hm : X.mg "enumerate" = none) (ha : EA X W [e] ra) (hg : Gl X "enumerate" := by rfl)
    (hs : starEach [e] X.env = [(false, eval e X.env)] := by rfl) : EI X W (.Tuple elts kk tpos) (.Call (.Name "enumerate" p) [e] [] pos) (iEn ra) := by
  obtain ⟨T, pp, l⟩ := ha.ex
  refine ⟨_, pi_enum hg hm pp hs, fun σ σ' H S R R' E' rs rh h q xi => ?_⟩
  refine l σ σ' H S _ _ _ rs rh h (fun ds S1 v H1 f1 rh1 dv h1 => ?_) xi
  match ds, dv, h1 with
  | [.ref a], .cons (.ref _) .nil, h1 =>
    obtain ⟨xs, g, h1⟩ := h1
    obtain ⟨vs, s, r⟩ := rh1.sql g
    exact ⟨_, vs, rfl, s, q _ _ _ _ _ f1 rh1 it_enum h1⟩
end
section
variable {S : Hq} {p : Addr} {R : List D → (Hq → Prop) → Hq → Prop}
theorem q_en : enD [.ref p] S R = (∃ xs, S p = some (.lst xs) ∧ R (enumD xs) (fun S => S p = some (.lst xs)) S) := rfl
end
/-! ### targets in comprehensions -/
theorem wipe_len {σ : L2.St} : ∀ {vs : List Nat}, (L2.wipe σ vs).length = σ.length
  | [] => rfl
  | v :: vs => by unfold L2.wipe; rw [List.length_set, wipe_len]
theorem wipe_get {σ : L2.St} {i : Nat} : ∀ {vs : List Nat}, (L2.wipe σ vs)[i]? = if i ∈ vs then (σ[i]?).map (fun _ => none) else σ[i]?
  | [] => (if_neg (List.not_mem_nil)).symm
  | v :: vs => by
    unfold L2.wipe
    rw [List.getElem?_set, wipe_len]
    by_cases c : v = i
    · subst c
      rw [if_pos rfl, if_pos (show v ∈ v :: vs from List.mem_cons_self)]
      by_cases l : v < σ.length
      · rw [if_pos l, List.getElem?_eq_getElem l]; rfl
      · rw [if_neg l, List.getElem?_eq_none (by omega)]; rfl
    · rw [if_neg c, wipe_get (vs := vs)]
      by_cases m : i ∈ vs
      · rw [if_pos m, if_pos (List.mem_cons_of_mem _ m)]
      · rw [if_neg m, if_neg (fun z => by rcases List.mem_cons.mp z with z | z; exact c z.symm; exact m z)]
theorem wipe_wipe {σ : L2.St} {vs : List Nat} : L2.wipe (L2.wipe σ vs) vs = L2.wipe σ vs := by
  apply List.ext_getElem?
  intro i
  rw [wipe_get, wipe_get]
  by_cases m : i ∈ vs
  · simp only [if_pos m, Option.map_map]; rfl
  · simp only [if_neg m]
theorem wipe_set {σ : L2.St} {vs : List Nat} {i : Nat} {x : Option V} (m : i ∈ vs) : L2.wipe (σ.set i x) vs = L2.wipe σ vs := by
  apply List.ext_getElem?
  intro j
  rw [wipe_get, wipe_get, List.getElem?_set]
  by_cases c : i = j
  · subst c
    rw [if_pos m, if_pos m, if_pos rfl]
    by_cases l : i < σ.length
    · rw [if_pos l, List.getElem?_eq_getElem l]; rfl
    · rw [if_neg l, List.getElem?_eq_none (by omega)]
  · rw [if_neg c]
structure Kp (T : TG) (g : RG) (vs : List Nat) (K : PySem.W.Frag) : Prop where
  to : ∀ (σ : L2.St) (σ' : Sg) (H : Hp) (S : Hq) (d : D) (v : V) (N : L2.St → Hp → Prop) (N' : Sg → Hq → Prop), RS K H σ' σ → RH K S H → DV K H d v → g d σ' S N' NoX → (∀ σ2' σ2, L2.wipe σ2 vs = L2.wipe σ vs → RS K H σ2' σ2 → N' σ2' S → N σ2 H) → T v σ H N
structure Kps (T : TGs) (g : RGs) (vs : List Nat) (K : PySem.W.Frag) : Prop where
  to : ∀ (σ : L2.St) (σ' : Sg) (H : Hp) (S : Hq) (d : List D) (v : List V) (N : L2.St → Hp → Prop) (N' : Sg → Hq → Prop), RS K H σ' σ → RH K S H → DVs K H d v → g d σ' S N' NoX → (∀ σ2' σ2, L2.wipe σ2 vs = L2.wipe σ vs → RS K H σ2' σ2 → N' σ2' S → N σ2 H) → T v σ H N
section
variable {K : PySem.W.Frag} {vs : List Nat}
theorem kp_nm {i : Nat} (m : i ∈ vs := by decide) : Kp (gName i) (gNm i) vs K := ⟨fun σ σ' H S d v N N' rs rh dv h n => n _ _ (wipe_set m) (rs.set dv i) h⟩
theorem kps_nil : Kps gNil gNils vs K := ⟨fun σ σ' H S d v N N' rs rh dv h n => by
  cases dv with
  | nil => exact ⟨rfl, n _ _ rfl rs h⟩
  | cons _ _ => exact h.elim⟩
theorem kps_cons {T : TG} {g : RG} {Ts : TGs} {gs : RGs} (h1 : Kp T g vs K) (h2 : Kps Ts gs vs K) : Kps (gCons T Ts) (gConss g gs) vs K := ⟨fun σ σ' H S d v N N' rs rh dv h n => by
  cases dv with
  | nil => exact h.elim
  | cons x r => exact ⟨_, _, rfl, h1.to σ σ' H S _ _ _ _ rs rh x h fun σ2' σ2 e rs2 h2' => h2.to σ2 σ2' H S _ _ _ _ rs2 rh r h2' fun σ3' σ3 e3 rs3 h3 => n _ _ (e3.trans e) rs3 h3⟩⟩
theorem kp_tp {Ts : TGs} {gs : RGs} {n : Nat} (h : Kps Ts gs vs K) : Kp (gTup K n Ts) (gTp n gs) vs K := ⟨fun σ σ' H S d v N N' rs rh dv hh nn => by
  cases dv with
  | tup s r => exact ⟨_, _, rfl, s, by rw [← r.length]; exact hh.1, h.to σ σ' H S _ _ N N' rs rh r hh.2 nn⟩
  | _ => exact hh.elim⟩
theorem Kp.keeps {T : TG} {g : RG} (h : Kp T g vs K) : Keeps T g vs K := ⟨fun σ σ' H S d v N N' rs rh dv hh n => h.to (L2.wipe σ vs) σ' H S d v N N' rs rh dv hh fun σ2' σ2 e rs2 h2 => n σ2' σ2 (by rw [e, wipe_wipe]) rs2 h2⟩
end
section
variable {X : Cx} {W : WX} {pos : Pos}
theorem ev_lcT {tg elt it : Expr} {ifs : List Expr} {scope : Scope} {ri : RI} {G : TG} {g : RG} {tt : RT} {te : RE} {own : List (Str × Nat)} (hc : X.calm = true) (hN : X.N.Nodup) (hi : EI X W tg it ri) (ok : BlkOk X.N X.env.scope scope own) (kp : Keeps G g (own.map (·.2)) X.K)
    (hg : ∀ (s : Shared) (H : Hp) (C : Addr) (cl : List (Str × Addr)) (fp : List Addr), PG (X.blk s H scope (compEnvC scope cl C X.env) fp) tg G)
    (ht : ∀ (s : Shared) (H : Hp) (C : Addr) (cl : List (Str × Addr)) (fp : List Addr), EP1 (X.blk s H scope (compEnvC scope cl C X.env) fp) W0 ifs tt)
    (he : ∀ (s : Shared) (H : Hp) (C : Addr) (cl : List (Str × Addr)) (fp : List Addr), EV (X.blk s H scope (compEnvC scope cl C X.env) fp) W0 elt te) (hs : ∀ x, foldedSetIterable it X.env x = pure x := by intro _; rfl) :
    EV X W (.ListComp elt [⟨tg, it, ifs, 0⟩] scope pos) (rLc ri g tt te (own.map (·.2))) := by
  obtain ⟨wi, pi, li⟩ := hi.ex
  refine ⟨_, pe_lc (tt := dnT X.K W0 tt) (te := dnE X.K W0 te) hc hN pi ok hg (fun s H C cl fp => (ht s H C cl fp).pe) (fun s H C cl fp => (he s H C cl fp).pe) hs, fun σ σ' H S Q Q' E' rs rh h q xi => ?_⟩
  exact li σ σ' H S _ _ _ rs rh h (fun J xs gd S1 H1 f1 rh1 ok h1 => lc_run (W := W) kp (rs.mono (f1.tle rh)) rh1 ok (q.go f1) h1) xi
theorem es_setLcT (j : Nat) {y : Str} {py spos : Pos} {tg elt it : Expr} {ifs : List Expr} {scope : Scope} {ri : RI} {G : TG} {g : RG} {tt : RT} {te : RE} {own : List (Str × Nat)} (hc : X.calm = true) (hN : X.N.Nodup) (hi : EI X W tg it ri) (ok : BlkOk X.N X.env.scope scope own) (kp : Keeps G g (own.map (·.2)) X.K)
    (hg : ∀ (s : Shared) (H : Hp) (C : Addr) (cl : List (Str × Addr)) (fp : List Addr), PG (X.blk s H scope (compEnvC scope cl C X.env) fp) tg G)
    (ht : ∀ (s : Shared) (H : Hp) (C : Addr) (cl : List (Str × Addr)) (fp : List Addr), EP1 (X.blk s H scope (compEnvC scope cl C X.env) fp) W0 ifs tt)
    (he : ∀ (s : Shared) (H : Hp) (C : Addr) (cl : List (Str × Addr)) (fp : List Addr), EV (X.blk s H scope (compEnvC scope cl C X.env) fp) W0 elt te)
    (hsw : swapsWith (.ListComp elt [⟨tg, it, ifs, 0⟩] scope pos) (some (.Name y py)) spos.line X.env = pure true) (hy : X.N[j]? = some y := by rfl) (hyl : X.env.scope.names.lookup y = some .local := by rfl) (hs : ∀ x, foldedSetIterable it X.env x = pure x := by intro _; rfl) :
    ES X W (.Assign [.Name y py] (.ListComp elt [⟨tg, it, ifs, 0⟩] scope pos) spos) (rSet (rLc ri g tt te (own.map (·.2))) (gNm j)) := by
  obtain ⟨wi, pi, li⟩ := hi.ex
  refine ⟨_, ps_setLc (tt := dnT X.K W0 tt) (te := dnE X.K W0 te) hc hN hy hyl hsw pi ok hg (fun s H C cl fp => (ht s H C cl fp).pe) (fun s H C cl fp => (he s H C cl fp).pe) hs, fun σ σ' H S D D' rs rh h d => ?_⟩
  refine li σ σ' H S _ _ _ rs rh h (fun J xs gd S1 H1 f1 rh1 ok h1 => ?_) (d.xi rh rs)
  refine lc_run (W := W) (Q := fun v H1 => gName j v σ H1 D.nx) (Q' := fun d S1 => gNm j d σ' S1 D'.nx (D'.x σ')) kp (rs.mono (f1.tle rh)) rh1 ok ?_ h1
  intro dd S2 v H2 f2 rh2 dv h2
  exact d.nx _ _ _ _ (f1.trans f2) rh2 ((rs.mono ((f1.trans f2).tle rh)).set dv j) h2
end
end Y
namespace Y
open PySem PySem.Spec PyProof.Rows L2
/-! ### int(t, 2) -/
namespace Bi
open PySem.NumText PySem.Calls
def Is (c : Nat) : Prop := c = 48 ∨ c = 49
def num (l : List Nat) : Nat := l.foldl (fun a c => a * 2 + (c - 48)) 0
theorem hex {c : Nat} (h : Is c) : Hx.IsHex c := by unfold Is at h; unfold Hx.IsHex; omega
theorem hexs {l : List Nat} (h : ∀ c ∈ l, Is c) : ∀ c ∈ l, Hx.IsHex c := fun c m => hex (h c m)
theorem step2 {ds : Array Nat} {b : Bool} {c : Nat} (h : Is c) : NumText.step 2 (ds, b) c = some (ds.push (c - 48), true) := by
  rcases h with rfl | rfl <;> rfl
theorem fold2 : ∀ (l : List Nat) (ds : Array Nat), (∀ c ∈ l, Is c) → l.foldlM (NumText.step 2) (ds, true) = some (l.foldl (fun a c => a.push (c - 48)) ds, true)
  | [], _, _ => rfl
  | c :: l, ds, h => by
    rw [List.foldlM_cons, step2 (h c List.mem_cons_self)]
    exact fold2 l _ fun d m => h d (List.mem_cons_of_mem _ m)
theorem digits2 {l : List Nat} (h : ∀ c ∈ l, Is c) (n : l ≠ []) : digits? 2 l = some (l.foldl (fun a c => a.push (c - 48)) #[]) := by
  match l, n with
  | c :: l, _ =>
    unfold digits?
    rw [List.foldlM_cons, step2 (h c List.mem_cons_self)]
    show (l.foldlM (NumText.step 2) ((#[] : Array Nat).push (c - 48), true)).bind _ = _
    rw [fold2 l _ fun d m => h d (List.mem_cons_of_mem _ m)]
    rfl
theorem push2 : ∀ (l : List Nat) (ds : Array Nat), (l.foldl (fun a c => a.push (c - 48)) ds).foldl (fun a d => a * 2 + d) 0 = l.foldl (fun a c => a * 2 + (c - 48)) (ds.foldl (fun a d => a * 2 + d) 0)
  | [], _ => rfl
  | c :: l, ds => by
    rw [List.foldl_cons, push2 l (ds.push (c - 48)), List.foldl_cons, Array.foldl_push]
theorem based2 : ∀ {l : List Nat}, (∀ c ∈ l, Is c) → based 2 l = (2, false, l)
  | [], _ => rfl
  | [a], h => by rcases h a List.mem_cons_self with rfl | rfl <;> rfl
  | a :: c :: r, h => by
    rcases h a List.mem_cons_self with rfl | rfl <;> rcases h c (List.mem_cons_of_mem _ List.mem_cons_self) with rfl | rfl <;> rfl
theorem read2 {l : List Nat} (h : ∀ c ∈ l, Is c) (n : l ≠ []) : (int_private% "readNumeral") 0 2 l = (int_private% "Numeral.value") ((num l : Nat) : Int) := by
  have hr := hexs (l := l.reverse) fun c m => h c (List.mem_reverse.mp m)
  refine (readNumeral_eq 0 2 l).trans ?_
  rw [Hx.dropB (hexs h), Hx.signH (hexs h)]
  show judge 0 false (based 2 l).1 (based 2 l).2.1 (digits? (based 2 l).1 (((based 2 l).2.2.reverse.dropWhile blank).reverse)) = _
  rw [based2 h]
  show judge 0 false 2 false (digits? 2 ((l.reverse.dropWhile blank).reverse)) = _
  rw [Hx.dropB hr, List.reverse_reverse, digits2 h n]
  show (int_private% "Numeral.value") (((l.foldl (fun a c => a.push (c - 48)) (#[] : Array Nat)).foldl (fun a d => a * 2 + d) 0 : Nat) : Int) = _
  have z : (#[] : Array Nat).foldl (fun a d => a * 2 + d) 0 = 0 := by first | rfl | simp
  rw [push2, z] <;> rfl
set_option maxHeartbeats 4000000 in
theorem gives2 {x : PySem.Str} {u t : Tok} (hl : x.length ≤ 640) (h : ∀ c ∈ x.cps.toList, Is c) (n : x.cps.toList ≠ []) : Gives (Builtin.«int.__new__» ⟨[.type "int", .str x u, .int 2 t], []⟩) (.int ((num x.cps.toList : Nat) : Int)) :=
  .of_wp fun M A E s Q hQ => by
    obtain ⟨hp, g, d, tk, os⟩ := s
    have f1 := F.conv_sub_int; have f2 := F.madeHere_int; have f6 : typeOf (.str x u) = pure (.type "str") := rfl
    obtain ⟨e1, e2⟩ := Hx.seen_hex (hexs h)
    have hk : Hx.Hid ((numSeenOf x).length ≤ 640 ∧ (int_private% "readNumeral") 0 2 (numSeenOf x) = (int_private% "Numeral.value") ((num x.cps.toList : Nat) : Int) ∧ ((numSeenOf x).length == (numTextOf x).length) = true) := by
      refine ⟨?_, ?_, ?_⟩
      · rw [e2, Array.length_toList]; exact hl
      · rw [e2]; exact read2 h n
      · rw [e1, e2]; exact beq_self_eq_true _
    clear e1 e2 hl n h
    repeat (any_goals (first
      | assumption
      | ((with_reducible show wpAny _ _ ((int_private% "intFromText") _ _ _) _ _ _); refine Hx.wp_textB hk.out.1 hk.out.2.1 hk.out.2.2 ?_)
      | wp_step))
    all_goals (first | exact ⟨_, rfl, hQ⟩ | skip)
theorem call2 {prog : Program} {w : World} {A : Around} {E : Value → Shared → Prop} {s : Shared} {Q : Value → Shared → Prop} {x : PySem.Str} {u t : Tok} (hl : x.length ≤ 640) (h : ∀ c ∈ x.cps.toList, Is c) (n : x.cps.toList ≠ [])
    (hQ : Q (.int ((num x.cps.toList : Nat) : Int) s.toks) { s with toks := s.toks + 1 }) : wpAny (model prog w) A (call (.type "int") [.str x u, .int 2 t]) Q E s :=
  callType_new F.called_int F.newNe_int (Hx.typeCall_int_2 _ _) (Hx.newCall_int_2 _ _) (fun obj => F.initArgs_range_2 obj _ _) F.entry_int_new (gives2 hl h n).meets (show (Made.int ((num x.cps.toList : Nat) : Int)).post _ s from ⟨rfl, hQ⟩)
end Bi
/-- int(d) or int(t, 2) -/
def int2F (ds : List D) (S : Hq) (Q : Qv) : Prop := match ds with
  | [.str z, .int 2] => z.cps.toList ≠ [] ∧ z.length ≤ 640 ∧ (∀ c ∈ z.cps.toList, Bi.Is c) ∧ Q (.int ((Bi.num z.cps.toList : Nat) : Int)) S
  | _ => False
section
variable {X : Cx} {K : PySem.W.Frag}
theorem call_int2b : CallR X (.type "int") (fun xs H Q => ∃ z : Str, xs = [.str z, .int 2] ∧ z.cps.toList ≠ [] ∧ z.length ≤ 640 ∧ (∀ c ∈ z.cps.toList, Bi.Is c) ∧ Q (.int ((Bi.num z.cps.toList : Nat) : Int)) H) := by
  intro pins s σ H xs us Q I r h
  obtain ⟨z, rfl, n, hl, hx, q⟩ := h
  obtain ⟨u, w', rfl, r1, r2⟩ := vals2 r
  obtain ⟨t1, rfl⟩ := r1
  obtain ⟨t2, rfl⟩ := r2
  exact Bi.call2 hl hx n ⟨.int ((Bi.num z.cps.toList : Nat) : Int), H, I.tok _, ⟨_, rfl⟩, q⟩
theorem lc_int2 : LiftC K int2F (fun xs H Q => ∃ z : Str, xs = [.str z, .int 2] ∧ z.cps.toList ≠ [] ∧ z.length ≤ 640 ∧ (∀ c ∈ z.cps.toList, Bi.Is c) ∧ Q (.int ((Bi.num z.cps.toList : Nat) : Int)) H) := by
  intro ds S H Q' Q vs rh dv h q
  unfold int2F at h
  split at h
  · rename_i z
    match vs, dv with
    | [_, _], .cons (.str _) (.cons (.int _) .nil) => exact ⟨z, rfl, h.1, h.2.1, h.2.2.1, q.here rh (.int _) h.2.2.2⟩
  · exact h.elim
end
/-! ### for c in a text -/
def signsD (z : Str) : List D := z.cps.toList.map fun c => .str ⟨#[c]⟩
def strD (x : D) (S1 : Hq) (R : List D → (Hq → Prop) → Hq → Prop) : Prop := match x with
  | .str z => R (signsD z) (fun _ => True) S1
  | _ => False
def iStrD (r : RE) : RI := fun σ S R E => r σ S (fun x S1 => strD x S1 R) E
theorem it_str {K : PySem.W.Frag} {S1 : Hq} {H1 : Hp} {z : Str} : ItOk K S1 H1 (Its z) (signsD z) (fun _ => True) := by
  refine ⟨fun S H f rh _ => ?_, fun i x S H hx f rh _ => ?_, fun i x S H v H' hx f rh _ hy => ?_⟩
  · show z.cps.size ≤ _
    unfold signsD; rw [List.length_map, Array.length_toList]; exact Nat.le_refl _
  · have := (List.getElem?_eq_some_iff.mp hx).1
    unfold signsD at this
    rw [List.length_map, Array.length_toList] at this
    exact this
  · obtain ⟨rfl, c, hc, rfl⟩ := hy
    unfold signsD at hx
    rw [List.getElem?_map, Array.getElem?_toList, hc] at hx
    cases hx
    exact ⟨Fr.refl, rh, .str _⟩
section
variable {X : Cx} {W : WX} {e : Expr} {r : RE} {pos : Pos}
theorem ei_str {tg : Expr} (h : EV X W e r) : EI X W tg e (iStrD r) := by
  obtain ⟨T, p, l⟩ := h.ex
  refine ⟨_, pi_str p, fun σ σ' H S R R' E' rs rh h q xi => ?_⟩
  refine l σ σ' H S _ _ _ rs rh h (fun x S1 v H1 f1 rh1 dv h1 => ?_) xi
  cases dv with
  | str z => exact ⟨z, rfl, q _ _ _ _ _ f1 rh1 it_str h1⟩
  | _ => exact h1.elim
/-! ### xs[::-1] -/
def revD (x : D) (S : Hq) (Q : Qv) : Prop := match x with
  | .ref a => ∃ xs, LsR S a xs ∧ ∀ p, S p = none → Q (.ref p) (up S p (.lst xs.reverse))
  | _ => False
theorem DVs.rev {K : PySem.W.Frag} {H : Hp} : ∀ {ds : List D} {vs : List V}, DVs K H ds vs → DVs K H ds.reverse vs.reverse
  | _, _, .nil => .nil
  | _, _, .cons x r => by rw [List.reverse_cons, List.reverse_cons]; exact (DVs.rev r).app (.cons x .nil)
theorem ev_rev {k : Nat} {p1 p2 p3 : Pos} (h : EV X W e r) : EV X W (.Subscript e (.Slice none none (some (.UnaryOp .USub (.Constant (.int 1) k p1) p2)) p3) pos) (rUn revD r) := by
  obtain ⟨T, p, l⟩ := h.ex
  refine ⟨_, pe_revL p, fun σ σ' H S Q Q' E' rs rh h q xi => ?_⟩
  refine l σ σ' H S _ _ _ rs rh h (fun x S1 v H1 f1 rh1 dv h1 => ?_) xi
  cases dv with
  | ref a =>
    obtain ⟨xs, g, h1⟩ := h1
    obtain ⟨vs, s, r⟩ := rh1.sql g
    refine ⟨a, vs, rfl, s, fun p hp => ?_⟩
    exact (q.go f1).newL rh1 hp (DVs.rev r) (h1 p (rh1.fresh hp))
  | _ => exact h1.elim
end
/-! ### xs.index(t) of texts -/
def ixoD (x : D) (ds : List D) (S : Hq) (Q : Qv) : Prop := match x, ds with
  | .ref a, [.str z] => ∃ (zs : List Str) (j : Nat), LsR S a (zs.map D.str) ∧ zs[j]? = some z ∧ (∀ m, m < j → zs[m]? ≠ some z) ∧ Q (.int j) S
  | _, _ => False
theorem DVs.txts {K : PySem.W.Frag} {H : Hp} : ∀ {zs : List Str} {vs : List V}, DVs K H (zs.map D.str) vs → vs = zs.map V.str
  | [], _, .nil => rfl
  | _ :: _, _, .cons x r => by cases x; rw [DVs.txts r]; rfl
theorem lm_ixo {K : PySem.W.Frag} : LiftM K ixoD (rIndex K) := by
  intro x ds S H Q' Q v vs rh dx dv h q
  match x, ds, dx, dv, h with
  | .ref a, [.str z], .ref _, .cons (.str _) .nil, h =>
    obtain ⟨zs, j, l, e, n, h⟩ := h
    obtain ⟨ys, s, r⟩ := rh.sql l
    rw [DVs.txts r] at s
    refine ⟨a, _, .str z, j, .str z, rfl, rfl, s, rfl, ?_, by rw [List.getElem?_map, e]; rfl, ?_, fun m z' hm hz => ?_, q.here rh (.int _) h⟩
    · rw [List.all_eq_true]; intro y hy; obtain ⟨t, _, rfl⟩ := List.mem_map.mp hy; rfl
    · simp [eqV]
    · rw [List.getElem?_map] at hz
      cases g : zs[m]? with
      | none => rw [g] at hz; cases hz
      | some t =>
        rw [g] at hz; cases hz
        have : t ≠ z := fun c => n m hm (by rw [g, c])
        simp [eqV, this]
end Y
namespace Y
open PySem PySem.Spec PyProof.Rows L2
section
variable {S : Hq} {Q : Qv} {z : Str} {p : Addr} {xs : List D} {R : List D → (Hq → Prop) → Hq → Prop}
theorem q_int2 : int2F [.str z, .int 2] S Q = (z.cps.toList ≠ [] ∧ z.length ≤ 640 ∧ (∀ c ∈ z.cps.toList, Bi.Is c) ∧ Q (.int ((Bi.num z.cps.toList : Nat) : Int)) S) := rfl
theorem q_strD : strD (.str z) S R = R (signsD z) (fun _ => True) S := rfl
theorem q_rev (h : S p = some (.lst xs)) : revD (.ref p) S Q = (∀ q, S q = none → Q (.ref q) (up S q (.lst xs.reverse))) := by
  unfold revD LsR
  simp only [h, Option.some.injEq, HQ.lst.injEq, exists_eq_left']
theorem q_ixo : ixoD (.ref p) [.str z] S Q = (∃ (zs : List Str) (j : Nat), S p = some (.lst (zs.map D.str)) ∧ zs[j]? = some z ∧ (∀ m, m < j → zs[m]? ≠ some z) ∧ Q (.int j) S) := rfl
end
end Y
/-! ### xs.extend(t) -/
namespace Y
open PySem PySem.Spec PyProof.Rows L2
section
open PySem.AutoSeq1
theorem ext_tup {l b : Addr} {xs ys : Array Value} {n m : Nat} {dd : Option Addr} {sl : Array (Option Value)} (h0 : ¬(!xs.isEmpty && Builtin.List.listTooLong (xs.size + ys.size)) = true) (h1 : xs.size ≤ sizeLine) (h2 : (xs ++ ys).size ≤ sizeLine + 1) :
    Meets (Builtin.«list.extend» ⟨[.ref l, .ref b], []⟩) (fun _ R s => s.heap.get? l = some { cls := .type "list", dict := none, data := .seq xs n, slots := #[] } ∧ s.heap.get? b = some ⟨.type "tuple", dd, .seq ys m, sl⟩ ∧ R (.ok (.ret .none)) { s with heap := s.heap.update l (Obj.mapSeq (· ++ ys)), toks := s.toks }) :=
  .of_wp fun prog w A R s ⟨hl, hb, h⟩ => by
    obtain ⟨hp, g, d, tk, os⟩ := s
    have f1 := idx_int
    have f2 := AutoSeq1.sub_tuple_tuple; have f3 := AutoSeq1.sub_list_list; have f4 := AutoSeq1.sub_tuple_list
    have f5 := AutoSeq1.sub_list_tuple
    wp_walk using (wpAny_updateSeq hl rfl (hz := h1) (_hz' := h2)), wpAny_loadPart' hb, wpAny_loadPart' hl
    exact ⟨_, rfl, h⟩
end
def rExtT (K : PySem.W.Frag) : V → List V → Hp → VK → Prop := fun x vs H Q => ∃ (l b : Addr) (xs zs : List V), x = .ref l ∧ vs = [.ref b] ∧ H l = some (.lst xs) ∧ SqT K H b zs ∧ xs.length + zs.length ≤ sizeLine ∧ Q .non (upd H l (.lst (xs ++ zs)))
section
variable {X : Cx} {K : PySem.W.Frag}
theorem mt_extT : MtM X "list.extend" (rExtT X.K) := by
  intro pins s σ H x vs v us Q I rx rv h
  obtain ⟨l, b, xs, zs, rfl, rfl, hH, hB, hz, q⟩ := h
  cases rx
  obtain ⟨u, rfl, ru⟩ := rv.one
  cases ru
  obtain ⟨z, its, n, r, hl, e⟩ := I.lstM hH
  obtain ⟨its2, r2, ⟨⟨oc, od, dt, sl⟩, g, c, m, dq⟩, _⟩ := I.tuple hB
  simp only at c dq
  subst c dq
  have n1 := r.length; have n2 := r2.length
  have hsz : its.toArray.size + its2.toArray.size ≤ sizeLine := by rw [List.size_toArray, List.size_toArray]; omega
  have long : ¬(!its.toArray.isEmpty && Builtin.List.listTooLong (its.toArray.size + its2.toArray.size)) = true := by rw [notLongL hsz, Bool.and_false]; exact Bool.false_ne_true
  refine call_meets F.slot_list_extend ⟨_, e, rfl⟩ F.entry_list_extend (F.args_list_extend_2 _ _) (ext_tup (n := n) long (by omega) (by rw [Array.size_append]; omega)) ⟨e, g, .non, _, I.lset (its' := its ++ its2) hH e (by simp) (r.append r2) ?_, rfl, q⟩
  rw [List.length_append]; omega
theorem mt_ext2 : MtM X "list.extend" (fun x vs H Q => rExtend x vs H Q ∨ rExtT X.K x vs H Q) := by
  intro pins s σ H x vs v us Q I rx rv h
  rcases h with h | h
  · exact mt_extend _ _ _ _ _ _ _ _ _ I rx rv h
  · exact mt_extT _ _ _ _ _ _ _ _ _ I rx rv h
def extD2 (x : D) (ds : List D) (S : Hq) (Q : Qv) : Prop := match x, ds with
  | .ref a, [.tup ys] => ∃ xs, S a = some (.lst xs) ∧ xs.length + ys.length ≤ 1000000 ∧ Q .non (up S a (.lst (xs ++ ys)))
  | x, ds => extD x ds S Q
theorem lm_ext2 : LiftM K extD2 (fun x vs H Q => rExtend x vs H Q ∨ rExtT K x vs H Q) := by
  intro x ds S H Q' Q v vs rh dx dv h q
  unfold extD2 at h
  split at h
  · rename_i a ys
    match v, vs, dx, dv with
    | _, _, .ref _, .cons (.tup sq dy) .nil =>
      obtain ⟨xs, e, hz, h⟩ := h
      obtain ⟨us, g, r⟩ := rh.lst e
      exact .inr ⟨_, _, us, _, rfl, rfl, g, sq, by rw [← r.length, ← dy.length]; exact big_le hz, q.putL rh e (r.app dy) .non h⟩
  · exact .inl (lm_ext _ _ _ _ _ _ _ _ rh dx dv h q)
end
theorem q_ext2 {S : Hq} {Q : Qv} {p q : Addr} : extD2 (.ref p) [.ref q] S Q = extD (.ref p) [.ref q] S Q := rfl
theorem q_extT {S : Hq} {Q : Qv} {p : Addr} {ys : List D} : extD2 (.ref p) [.tup ys] S Q = (∃ xs, S p = some (.lst xs) ∧ xs.length + ys.length ≤ 1000000 ∧ Q .non (up S p (.lst (xs ++ ys)))) := rfl
end Y
namespace Y
open PySem PySem.Spec PyProof.Rows L2
/-! ### in, not in, of a list of plain data -/
theorem units65 {k : Nat} {A : Around} (hr : Room k A) : A.units + 65 < cLine := by have := hr.un; omega
def inD2 (g : Bool → Bool) : R2q := fun x y S Q => match y with
  | .ref a => ∃ ys, LsR S a ys ∧ okE x ∧ okE (.tup ys) ∧ Q (.bl (g ((pds ys).any fun z => PyData.eqv z (pd x)))) S
  | _ => False
section
variable {X : Cx} {K : PySem.W.Frag}
theorem lf_in : Lift2 K (inD2 id) (rInD K) := by
  intro x y S H Q' Q v u rh dx dy h q
  cases dy with
  | ref a =>
    obtain ⟨ys, e, ⟨p1, s1⟩, ⟨p2, s2⟩, h⟩ := h
    obtain ⟨us, g, r⟩ := rh.sql e
    exact ⟨pd x, pds ys, DV.dp _ _ p1 dx, .lst g (DVs.dp _ _ (by simpa [pur] using p2) r), s1, by rw [shaped_list]; simpa [pd] using s2, q.here rh (.bl _) h⟩
  | _ => exact h.elim
theorem lf_notIn : Lift2 K (inD2 not) (rNotInD K) := by
  intro x y S H Q' Q v u rh dx dy h q
  cases dy with
  | ref a =>
    obtain ⟨ys, e, ⟨p1, s1⟩, ⟨p2, s2⟩, h⟩ := h
    obtain ⟨us, g, r⟩ := rh.sql e
    exact ⟨pd x, pds ys, DV.dp _ _ p1 dx, .lst g (DVs.dp _ _ (by simpa [pur] using p2) r), s1, by rw [shaped_list]; simpa [pd] using s2, q.here rh (.bl _) h⟩
  | _ => exact h.elim
/-! ### insert, pop(i) -/
theorem DVs.takeN {H : Hp} : ∀ {ds : List D} {vs : List V} (n : Nat), DVs K H ds vs → DVs K H (ds.take n) (vs.take n)
  | _, _, 0, _ => by rw [List.take_zero, List.take_zero]; exact .nil
  | _, _, n + 1, .nil => .nil
  | _, _, n + 1, .cons x r => .cons x (DVs.takeN n r)
theorem DVs.dropN {H : Hp} : ∀ {ds : List D} {vs : List V} (n : Nat), DVs K H ds vs → DVs K H (ds.drop n) (vs.drop n)
  | _, _, 0, h => h
  | _, _, n + 1, .nil => .nil
  | _, _, n + 1, .cons x r => DVs.dropN n r
theorem DVs.cutN {H : Hp} : ∀ {ds : List D} {vs : List V} (n : Nat), DVs K H ds vs → DVs K H (ds.eraseIdx n) (vs.eraseIdx n)
  | _, _, _, .nil => .nil
  | _, _, 0, .cons x r => r
  | _, _, n + 1, .cons x r => .cons x (DVs.cutN n r)
def insD (x : D) (ds : List D) (S : Hq) (Q : Qv) : Prop := match x, ds with
  | .ref a, [.int i, y] => ∃ xs, S a = some (.lst xs) ∧ xs.length < 1000000 ∧ 0 ≤ i ∧ i < 2 ^ 62 ∧ Q .non (up S a (.lst (xs.take i.toNat ++ [y] ++ xs.drop i.toNat)))
  | _, _ => False
def rIns : V → List V → Hp → VK → Prop := fun x vs H Q => ∃ (l : Addr) (xs : List V) (i : Int) (y : V), x = .ref l ∧ vs = [.int i, y] ∧ H l = some (.lst xs) ∧ xs.length < sizeLine ∧ 0 ≤ i ∧ i < 2 ^ 63 ∧ Q .non (upd H l (.lst (xs.take i.toNat ++ [y] ++ xs.drop i.toNat)))
theorem mt_ins : MtR X "list.insert" rIns := mt_insert
theorem lm_ins : LiftM K insD rIns := by
  intro x ds S H Q' Q v vs rh dx dv h q
  match x, ds, dx, dv, h with
  | .ref a, [.int i, y], .ref _, .cons (.int _) (.cons d .nil), h =>
    obtain ⟨xs, e, hz, h0, h1, h⟩ := h
    obtain ⟨ys, g, r⟩ := rh.lst e
    exact ⟨_, ys, i, _, rfl, rfl, g, by rw [← r.length]; exact big_lt hz, h0, by omega, q.putL rh e (((r.takeN _).app (.cons d .nil)).app (r.dropN _)) .non h⟩
def popD (x : D) (ds : List D) (S : Hq) (Q : Qv) : Prop := match x, ds with
  | .ref a, [.int i] => ∃ xs y, S a = some (.lst xs) ∧ 0 ≤ i ∧ i < 2 ^ 62 ∧ xs[i.toNat]? = some y ∧ Q y (up S a (.lst (xs.eraseIdx i.toNat)))
  | _, _ => False
theorem lm_pop : LiftM K popD rPopAt := by
  intro x ds S H Q' Q v vs rh dx dv h q
  match x, ds, dx, dv, h with
  | .ref a, [.int i], .ref _, .cons (.int _) .nil, h =>
    obtain ⟨xs, y, e, h0, h1, hy, h⟩ := h
    obtain ⟨ys, g, r⟩ := rh.lst e
    obtain ⟨w, hw, dw⟩ := r.get hy
    have hl : i.toNat < ys.length := (List.getElem?_eq_some_iff.mp hw).1
    refine ⟨_, ys, i, i.toNat, w, rfl, rfl, g, by omega, by omega, ?_, hw, q.putL rh e (r.cutN _) dw h⟩
    obtain ⟨j, rfl⟩ := Int.eq_ofNat_of_zero_le h0
    rw [Int.toNat_natCast] at hl
    unfold seqIndex?
    simp
    omega
end
end Y
namespace Y
open PySem PySem.Spec PyProof.Rows L2
section
variable {S : Hq} {Q : Qv} {p : Addr} {x y : D} {i : Int}
theorem q_in {g : Bool → Bool} : inD2 g x (.ref p) S Q = (∃ ys, S p = some (.lst ys) ∧ okE x ∧ okE (.tup ys) ∧ Q (.bl (g ((pds ys).any fun z => PyData.eqv z (pd x)))) S) := rfl
theorem q_ins : insD (.ref p) [.int i, y] S Q = (∃ xs, S p = some (.lst xs) ∧ xs.length < 1000000 ∧ 0 ≤ i ∧ i < 2 ^ 62 ∧ Q .non (up S p (.lst (xs.take i.toNat ++ [y] ++ xs.drop i.toNat)))) := rfl
theorem q_pop : popD (.ref p) [.int i] S Q = (∃ xs y, S p = some (.lst xs) ∧ 0 ≤ i ∧ i < 2 ^ 62 ∧ xs[i.toNat]? = some y ∧ Q y (up S p (.lst (xs.eraseIdx i.toNat)))) := rfl
end
end Y
/-! ### any of a list of bools -/
namespace Y
open PySem PySem.Spec PyProof.Rows L2
def anyD (ds : List D) (S : Hq) (Q : Qv) : Prop := match ds with
  | [.ref a] => ∃ bs : List Bool, LsR S a (bs.map D.bl) ∧ Q (.bl (bs.any id)) S
  | _ => False
theorem DVs.bools {K : PySem.W.Frag} {H : Hp} : ∀ {bs : List Bool} {vs : List V}, DVs K H (bs.map D.bl) vs → vs = bs.map V.bl
  | [], _, .nil => rfl
  | _ :: _, _, .cons x r => by cases x; rw [DVs.bools r]; rfl
theorem lc_any {K : PySem.W.Frag} : LiftC K anyD (rAny K) := by
  intro ds S H Q' Q vs rh dv h q
  match ds, vs, dv, h with
  | [.ref a], _, .cons (.ref _) .nil, h =>
    obtain ⟨bs, l, h⟩ := h
    obtain ⟨us, s, r⟩ := rh.sql l
    rw [DVs.bools r] at s
    exact ⟨_, bs, rfl, s, q.here rh (.bl _) h⟩
theorem q_any {S : Hq} {Q : Qv} {p : Addr} : anyD [.ref p] S Q = (∃ bs : List Bool, S p = some (.lst (bs.map D.bl)) ∧ Q (.bl (bs.any id)) S) := rfl
end Y
namespace L2
open PySem PySem.Spec PyProof.Rows
theorem Mut.get {P : Program} {w : World} {H : Hp} {h : Heap} {a : Addr} {u : HO} (m : Mut (some u)) (x : ObjOk P w H h a u) : ∃ o, h.get? a = some o := by
  cases u <;> try exact m.elim
  · obtain ⟨_, its, n, _, ho⟩ := x; exact ⟨_, ho⟩
  · obtain ⟨_, _, vs, _, o, es, ep, ho, _⟩ := x; exact ⟨_, ho⟩
  · obtain ⟨_, _, xs, _, o, es, ep, ho, _⟩ := x; exact ⟨_, ho⟩
  · obtain ⟨o, es, ep, t, ho, _⟩ := x; exact ⟨_, ho⟩
  · obtain ⟨_, _, _, ho, _⟩ := x; exact ⟨_, ho⟩
  · obtain ⟨_, ho, _⟩ := x; exact ho
theorem HOk.frzU {P : Program} {w : World} {H : Hp} {h : Heap} {a : Addr} {w0 : HO} {o : Obj} (x : HOk P w H h) (m : Mut (some w0)) (e : H a = some w0) (ho : h.get? a = some o) : HOk P w (upd H a (.frz o w0)) h := fun b u q => by
  have nown : ∀ c y, H c = some (.own y) → c ≠ a := fun c y r z => by subst z; rw [e] at r; cases r; exact m
  have ntup : ∀ c ys, H c = some (.tup ys) → c ≠ a := fun c ys r z => by subst z; rw [e] at r; cases r; exact m
  have st : ∀ {b : Addr} {u : HO}, ObjOk P w H h b u → ObjOk P w (upd H a (.frz o w0)) h b u := fun y => y.stay (fun c v _ r => r) (fun c r => by rw [upd_ne (nown c _ r)]; exact r) fun c ys r => by rw [upd_ne (ntup c ys r)]; exact r
  by_cases hb : b = a
  · subst hb; rw [upd_same] at q; cases q
    exact ⟨ho, st (x b _ e)⟩
  · rw [upd_ne hb] at q
    exact st (x b u q)
theorem Inv.frzU {X : Cx} {pins : List (Addr × Obj)} {σ : List (Option V)} {H : Hp} {s : Shared} {a : Addr} {w0 : HO} (I : Inv X pins σ H s) (m : Mut (some w0)) (e : H a = some w0) : ∃ o, Inv X pins σ (upd H a (.frz o w0)) s := by
  obtain ⟨ob, ho⟩ := m.get (I.hok a _ e)
  refine ⟨ob, ?_⟩
  have hne : ∀ b u, H b = some u → ¬ Mut (some u) → b ≠ a := fun b u q k z => by subst z; rw [e] at q; cases q; exact k m
  have h0 : ∀ b, H b = none → b ≠ a := fun b q z => by subst z; rw [e] at q; cases q
  exact I.un (t' := s.toks) (h' := s.heap) (H' := upd H a (.frz ob w0)) ⟨fun b o q _ _ _ => q, fun b o q _ _ _ => ⟨o.slots, q⟩, fun b o _ n _ => by rw [upd_ne (h0 b n)]; exact n, fun b o q _ => ⟨o, q⟩, fun b ys q => by rw [upd_ne (hne b _ q fun z => z)]; exact q,
    fun b o u q => by rw [upd_ne (hne b _ q fun z => z)]; exact q, fun b ps q => ⟨#[], by rw [upd_ne (hne b _ q fun z => z), q]; simp⟩⟩ (I.hok.frzU m e ho)
/-- a list is let be: read from now on, never written -/
def fzV (Q : VK) : VK := fun v H => Q v H ∨ ∃ a u, Mut (some u) ∧ H a = some u ∧ ∀ o, Q v (upd H a (.frz o u))
theorem EP.fz {X : Cx} {pins : List (Addr × Obj)} {σ : St} {Q : VK} {u : Value} {s : Shared} (h : EP X pins σ (fzV Q) u s) : EP X pins σ Q u s := by
  obtain ⟨v, H, I, r, q | ⟨a, u, m, e, q⟩⟩ := h
  · exact ⟨v, H, I, r, q⟩
  · obtain ⟨o, I'⟩ := I.frzU m e
    exact ⟨_, _, I', r, q o⟩
theorem pe_fz {X : Cx} {e : Expr} {t : TE} (h : PE X e t) : PE X e (fun σ H Q => t σ H (fzV Q)) := ⟨fun pins s σ H Q I k => thn (h.run pins s σ H _ I k) fun _ _ q => q.fz⟩
def fzS (N : St → Hp → Prop) : St → Hp → Prop := fun σ H => N σ H ∨ ∃ a u, Mut (some u) ∧ H a = some u ∧ ∀ o, N σ (upd H a (.frz o u))
theorem ps_fz {X : Cx} {st : Stmt} {t : TS} (h : PS X st t) : PS X st (fun D σ H => t { D with nx := fzS D.nx } σ H) := ⟨fun pins s σ H D I k => thn (h.run pins s σ H _ I k) fun f s' q => by
  cases f with
  | next =>
    obtain ⟨σ', H', I', q | ⟨a, u, m, e, q⟩⟩ := q
    · exact ⟨σ', H', I', q⟩
    · obtain ⟨o, I2⟩ := I'.frzU m e
      exact ⟨σ', _, I2, q o⟩
  | brk => exact q
  | cont => exact q
  | ret u => exact q⟩
end L2
/-! ### lists that are let be -/
namespace Y
open PySem PySem.Spec PyProof.Rows L2
def rm (S : Hq) (p : Addr) : Hq := fun b => if b = p then none else S b
theorem rm_same {S : Hq} {p : Addr} : rm S p p = none := if_pos rfl
theorem rm_ne {S : Hq} {p b : Addr} (h : b ≠ p) : rm S p b = S b := if_neg h
theorem rm_up {S : Hq} {p : Addr} {o : HQ} (h : S p = none) : rm (up S p o) p = S := by
  funext b; unfold rm up; split
  · rename_i e; rw [e, h]
  · rfl
def fzD (x : D) (S : Hq) (Q : Qv) : Prop := match x with
  | .ref p => ∃ xs, S p = some (.lst xs) ∧ Q (.kl xs) (rm S p)
  | x => Q x S
/-- a new list, which may be written; one that is let be -/
abbrev Nw2 := List D → Hq → Qv → Prop
def nwT : Nw2 := fun xs S Q => ∀ p, S p = none → Q (.ref p) (up S p (.lst xs))
def nwF : Nw2 := fun xs S Q => Q (.kl xs) S
theorem nw_fz {xs : List D} {S : Hq} {Q : Qv} (h : nwF xs S Q) : nwT xs S (fun x S1 => fzD x S1 Q) := fun p hp => ⟨xs, up_same, by rw [rm_up hp]; exact h⟩
section
variable {K : PySem.W.Frag} {S : Hq} {H : Hp} {Q' : Qv} {Q : VK}
theorem RH.frz (rh : RH K S H) {p : Addr} {o : Obj} {xs : List D} {vs : List V} (e : S p = some (.lst xs)) : Fr S H (rm S p) (upd H p (.frz o (.lst vs))) ∧ RH K (rm S p) (upd H p (.frz o (.lst vs))) := by
  have f : Fr S H (rm S p) (upd H p (.frz o (.lst vs))) := fun a u h n => by
    have ne : a ≠ p := fun z => by rw [z, e] at n; cases n
    exact ⟨by rw [upd_ne ne]; exact h, by rw [rm_ne ne]; exact n⟩
  refine ⟨f, fun b u h => ?_⟩
  have ne : b ≠ p := fun z => by rw [z, rm_same] at h; cases h
  rw [rm_ne ne] at h
  exact (rh b u h).stay (f.tle rh) (fun c q => f c _) (upd_ne ne)
theorem QI.fz (q : QI K S H Q' Q) : QI K S H (fun x S1 => fzD x S1 Q') (fzV Q) := by
  intro d S1 v H1 f rh dv h
  cases d with
  | ref p =>
    cases dv
    obtain ⟨xs, e, h⟩ := h
    obtain ⟨vs, e', r⟩ := rh.lst e
    refine .inr ⟨p, .lst vs, trivial, e', fun o => ?_⟩
    obtain ⟨f2, rh2⟩ := rh.frz (o := o) (vs := vs) e
    exact q (.kl xs) _ _ _ (f.trans f2) rh2 (.kl (.inl ⟨o, upd_same⟩) (DVs.mono (f2.tle rh) _ _ r)) h
  | _ => exact .inl (q _ _ _ _ f rh dv h)
end
section
variable {X : Cx}
theorem opr_fz {f : Value → Value → Sem Value} {r : R2} (h : OpR X f r) : OpR X f (fun x y H Q => r x y H (fzV Q)) := fun pins s σ H x y v u Q I rx ry q => thn (h pins s σ H x y v u _ I rx ry q) fun _ _ q => q.fz
theorem callr_fz {f : Value} {r : List V → Hp → VK → Prop} (h : CallR X f r) : CallR X f (fun xs H Q => r xs H (fzV Q)) := fun pins s σ H xs us Q I rx q => thn (h pins s σ H xs us _ I rx q) fun _ _ q => q.fz
theorem slr_fz {r : V → Option Int → Option Int → Hp → VK → Prop} (h : SlR X r) : SlR X (fun x lo hi H Q => r x lo hi H (fzV Q)) := fun pins s σ H x v vl vu lo hi sl Q I rx hs pl pu q =>
  let ⟨T, id, a, b, c⟩ := h pins s σ H x v vl vu lo hi sl _ I rx hs pl pu q
  ⟨T, id, a, b, thn c fun _ _ q => q.fz⟩
theorem lift2_fz {K : PySem.W.Frag} {f g : R2q} {r : R2} (h : Lift2 K f r) (hg : ∀ x y S Q, g x y S Q → f x y S (fun z S1 => fzD z S1 Q)) : Lift2 K g (fun x y H Q => r x y H (fzV Q)) := fun x y S H Q' Q v u rh dx dy k q => h x y S H _ _ v u rh dx dy (hg _ _ _ _ k) q.fz
theorem liftc_fz {K : PySem.W.Frag} {f g : List D → Hq → Qv → Prop} {r : List V → Hp → VK → Prop} (h : LiftC K f r) (hg : ∀ ds S Q, g ds S Q → f ds S (fun z S1 => fzD z S1 Q)) : LiftC K g (fun xs H Q => r xs H (fzV Q)) := fun ds S H Q' Q vs rh dv k q => h ds S H _ _ vs rh dv (hg _ _ _ k) q.fz
end
section
variable {X : Cx} {W : WX} {e : Expr} {t : RE} {pos : Pos}
/-- an expression's list is let be -/
def rFz (t : RE) : RE := fun σ S Q E => t σ S (fun x S1 => fzD x S1 Q) E
theorem ev_fz (h : EV X W e t) : EV X W e (rFz t) := by
  obtain ⟨T, p, l⟩ := h.ex
  exact ⟨_, pe_fz p, fun σ σ' H S Q Q' E' rs rh h q xi => l σ σ' H S _ _ E' rs rh h q.fz xi⟩
def rLstF (r : RA) : RE := fun σ S Q E => r σ S (fun xs S1 => xs.length ≤ 1000000 ∧ Q (.kl xs) S1) E
theorem ev_lstF {es : List Expr} {rs' : RA} (h : EA X W es rs') : EV X W (.List es pos) (rLstF rs') := by
  obtain ⟨T, p, l⟩ := h.ex
  refine ⟨_, pe_fz (pe_lst p), fun σ σ' H S Q Q' E' rs rh h q xi => ?_⟩
  refine l σ σ' H S _ _ E' rs rh h (fun d S1 v H1 f1 rh1 dv h1 => ⟨by rw [← dv.length]; exact big_le h1.1, fun p hp => ?_⟩) xi
  exact (q.go f1).fz.newL rh1 hp dv (nw_fz h1.2 p (rh1.fresh hp))
end
end Y
namespace Y
open PySem PySem.Spec PyProof.Rows L2
theorem lc_runG {K : PySem.W.Frag} {W : WX} {J : It} {gd : Hq → Prop} {T : TG} {g : RG} {tt : RT} {te : RE} {vs : List Nat} {σ : L2.St} {σ' : Sg} {S1 : Hq} {H1 : Hp} {xs : List D} {Q : VK} {Q' : Qv} {QF : List D → Hq → Prop} (fin : ∀ acc' S, QF acc' S → ∀ p, S p = none → Q' (.ref p) (up S p (.lst acc'))) (kp : Keeps T g vs K)
    (rs : RS K H1 σ' σ) (rh : RH K S1 H1) (ok : ItOk K S1 H1 J xs gd) (q : QI K S1 H1 Q' Q) (h : lcP gd g tt te vs σ' QF xs [] S1) :
    ∀ Dd, H1 Dd = none → ∃ W : Nat → Nat → Hp → Prop, (∃ m, W 0 m (upd H1 Dd (.lst []))) ∧ ∀ i m H, W i m H →
      (J.stop i H ∧ Q (.ref Dd) H) ∨ (J.go i H ∧ ∃ Nx : Hp → Prop, (∀ H', Nx H' → ∃ m', m' < m ∧ W (i + 1) m' H') ∧ ∀ x H', J.yld i H x H' → T x (L2.wipe σ vs) H' fun σ2 H2 => L2.wipe σ2 vs = L2.wipe σ vs ∧ dnT K W0 tt σ2 H2 fun b H3 =>
        if b = true then dnE K W0 te σ2 H3 fun y H4 => ∃ acc, H4 Dd = some (.lst acc) ∧ acc.length < sizeLine ∧ Nx (upd H4 Dd (.lst (acc ++ [y]))) else Nx H3) := by
  intro Dd hD
  have fD : Fr S1 H1 S1 (upd H1 Dd (.lst [])) := Fr.new rh hD
  refine ⟨fun i m H => ∃ S acc acc', i + m = xs.length ∧ Fr S1 H1 S H ∧ RH K S H ∧ H Dd = some (.lst acc) ∧ S Dd = none ∧ DVs K H acc' acc ∧ lcP gd g tt te vs σ' QF (xs.drop i) acc' S,
    ⟨xs.length, S1, [], [], by omega, fD, rh.new hD, upd_same, rh.fresh hD, .nil, by simpa using h⟩, ?_⟩
  rintro i m H ⟨S, acc, acc', em, f, rh2, eD, nD, da, h⟩
  by_cases hi : i < xs.length
  · obtain ⟨x, hx⟩ : ∃ x, xs[i]? = some x := ⟨_, List.getElem?_eq_getElem hi⟩
    have hd : xs.drop i = x :: xs.drop (i + 1) := by
      rw [List.drop_eq_getElem_cons hi]
      rw [List.getElem?_eq_getElem hi] at hx
      rw [Option.some.inj hx]
    rw [hd] at h
    obtain ⟨g2, h⟩ := h
    refine .inr ⟨ok.go i x S H hx f rh2 g2, fun H => ∃ S acc acc', Fr S1 H1 S H ∧ RH K S H ∧ H Dd = some (.lst acc) ∧ S Dd = none ∧ DVs K H acc' acc ∧ lcP gd g tt te vs σ' QF (xs.drop (i + 1)) acc' S,
      fun H ⟨S, acc, acc', a, b, c, d, e, f⟩ => ⟨m - 1, by omega, S, acc, acc', by omega, a, b, c, d, e, f⟩, fun v H3 hy => ?_⟩
    obtain ⟨f3, rh3, dv⟩ := ok.yld i x S H v H3 hx f rh2 g2 hy
    have f03 := f.trans f3
    obtain ⟨eD3, nD3⟩ := f3 Dd _ eD nD
    refine kp.to σ (wipeD σ' vs) H3 S x v _ _ ((rs.mono (f03.tle rh)).wipe vs) rh3 dv h fun σ2' σ2 ew rs2 h2 => ⟨ew, σ2', S, _, NoX, rs2, rh3, h2, fun b S4 H4 f4 rh4 h4 => ?_, XI.no⟩
    have f04 := f03.trans f4
    obtain ⟨eD4, nD4⟩ := f4 Dd _ eD3 nD3
    have da4 := DVs.mono ((f3.trans f4).tle rh2) _ _ da
    cases b with
    | false => exact ⟨S4, acc, acc', f04, rh4, eD4, nD4, da4, h4⟩
    | true =>
      refine ⟨σ2', S4, _, NoX, rs2.mono (f4.tle rh3), rh4, h4, fun y S5 u H5 f5 rh5 dy h5 => ?_, XI.no⟩
      obtain ⟨eD5, nD5⟩ := f5 Dd _ eD4 nD4
      have da5 := DVs.mono (f5.tle rh4) _ _ da4
      refine ⟨acc, eD5, by rw [← da5.length]; exact big_lt h5.1, S5, acc ++ [u], acc' ++ [y], ?_, ?_, upd_same, nD5, ?_, h5.2⟩
      · intro b o e n
        obtain ⟨e', n'⟩ := (f04.trans f5) b o e n
        have hb : b ≠ Dd := fun z => by rw [z, hD] at e; cases e
        exact ⟨by rw [upd_ne hb]; exact e', n'⟩
      all_goals
        have t : Tle K H5 (upd H5 Dd (.lst (acc ++ [u]))) := by
          refine ⟨fun a xs hq => ?_, fun a xs hq => ?_⟩
          · rcases hq with (hq | ⟨o, hq⟩) | hq
            · exact .inl (.inl (by rw [upd_ne (fun z => by rw [z, eD5] at hq; cases hq)]; exact hq))
            · exact .inl (.inr ⟨o, by rw [upd_ne (fun z => by rw [z, eD5] at hq; cases hq)]; exact hq⟩)
            · exact .inr hq
          · rcases hq with ⟨o, hq⟩ | hq
            · exact .inl ⟨o, by rw [upd_ne (fun z => by rw [z, eD5] at hq; cases hq)]; exact hq⟩
            · exact .inr hq
      · intro b o e
        have hb : b ≠ Dd := fun z => by rw [z, nD5] at e; cases e
        exact (rh5 b o e).stay t (fun c q e n => ⟨by rw [upd_ne (fun z => by rw [z, eD5] at e; cases e)]; exact e, n⟩) (upd_ne hb)
      · exact DVs.mono t _ _ (da5.app (.cons dy .nil))
  · have hn : xs.drop i = [] := List.drop_eq_nil_of_le (by omega)
    rw [hn] at h
    have ei : i = xs.length := by omega
    subst ei
    refine .inl ⟨ok.stop S H f rh2 h.1, ?_⟩
    -- the list is tracked from now on
    have r2 : RH K (up S Dd (.lst acc')) H := fun b o e => by
      by_cases hb : b = Dd
      · subst hb; rw [up_same] at e; cases e; exact ⟨acc, eD, da⟩
      · rw [up_ne hb] at e
        exact (rh2 b o e).stay ⟨fun _ _ h => h, fun _ _ h => h⟩ (fun c q e n => ⟨e, by rw [up_ne (fun z => by rw [z, eD] at e; cases e)]; exact n⟩) rfl
    refine q (.ref Dd) _ _ _ (fun b o e n => ?_) r2 (.ref Dd) (fin _ _ h.2 Dd nD)
    obtain ⟨e', n'⟩ := f b o e n
    have hb : b ≠ Dd := fun z => by rw [z, hD] at e; cases e
    exact ⟨e', by rw [up_ne hb]; exact n'⟩
def rLcF (ri : RI) (g : RG) (tt : RT) (te : RE) (vs : List Nat) : RE := fun σ S Q E => ri σ S (fun xs gd S1 => lcP gd g tt te vs σ (fun acc S2 => Q (.kl acc) S2) xs [] S1) E
section
variable {X : Cx} {W : WX} {pos : Pos}
theorem ev_lcF (i : Nat) {x : Str} {xp : Pos} {elt it : Expr} {ifs : List Expr} {scope : Scope} {ri : RI} {tt : RT} {te : RE} (hc : X.calm = true) (hN : X.N.Nodup) (hi : EI X W (.Name x xp) it ri) (ok : BlkOk X.N X.env.scope scope [(x, i)])
    (hg : ∀ (s : Shared) (H : Hp) (C : Addr) (cl : List (Str × Addr)) (fp : List Addr), PG (X.blk s H scope (compEnvC scope cl C X.env) fp) (.Name x xp) (gName i))
    (ht : ∀ (s : Shared) (H : Hp) (C : Addr) (cl : List (Str × Addr)) (fp : List Addr), EP1 (X.blk s H scope (compEnvC scope cl C X.env) fp) W0 ifs tt)
    (he : ∀ (s : Shared) (H : Hp) (C : Addr) (cl : List (Str × Addr)) (fp : List Addr), EV (X.blk s H scope (compEnvC scope cl C X.env) fp) W0 elt te) (hs : ∀ x, foldedSetIterable it X.env x = pure x := by intro _; rfl) :
    EV X W (.ListComp elt [⟨.Name x xp, it, ifs, 0⟩] scope pos) (rLcF ri (gNm i) tt te [i]) := by
  obtain ⟨wi, pi, li⟩ := hi.ex
  refine ⟨_, pe_fz (pe_lc (tt := dnT X.K W0 tt) (te := dnE X.K W0 te) hc hN pi ok hg (fun s H C cl fp => (ht s H C cl fp).pe) (fun s H C cl fp => (he s H C cl fp).pe) hs), fun σ σ' H S Q Q' E' rs rh h q xi => ?_⟩
  exact li σ σ' H S _ _ _ rs rh h (fun J xs gd S1 H1 f1 rh1 ok h1 => lc_runG (W := W) (Q' := fun x S1 => fzD x S1 Q') (fun _ _ z => nw_fz z) keeps_nm (rs.mono (f1.tle rh)) rh1 ok (q.go f1).fz h1) xi
theorem es_setLcF (j i : Nat) {y : Str} {py spos : Pos} {x : Str} {xp : Pos} {elt it : Expr} {ifs : List Expr} {scope : Scope} {ri : RI} {tt : RT} {te : RE} (hc : X.calm = true) (hN : X.N.Nodup) (hi : EI X W (.Name x xp) it ri) (ok : BlkOk X.N X.env.scope scope [(x, i)])
    (hg : ∀ (s : Shared) (H : Hp) (C : Addr) (cl : List (Str × Addr)) (fp : List Addr), PG (X.blk s H scope (compEnvC scope cl C X.env) fp) (.Name x xp) (gName i))
    (ht : ∀ (s : Shared) (H : Hp) (C : Addr) (cl : List (Str × Addr)) (fp : List Addr), EP1 (X.blk s H scope (compEnvC scope cl C X.env) fp) W0 ifs tt)
    (he : ∀ (s : Shared) (H : Hp) (C : Addr) (cl : List (Str × Addr)) (fp : List Addr), EV (X.blk s H scope (compEnvC scope cl C X.env) fp) W0 elt te)
    (hsw : swapsWith (.ListComp elt [⟨.Name x xp, it, ifs, 0⟩] scope pos) (some (.Name y py)) spos.line X.env = pure true) (hy : X.N[j]? = some y := by rfl) (hyl : X.env.scope.names.lookup y = some .local := by rfl) (hs : ∀ x, foldedSetIterable it X.env x = pure x := by intro _; rfl) :
    ES X W (.Assign [.Name y py] (.ListComp elt [⟨.Name x xp, it, ifs, 0⟩] scope pos) spos) (rSet (rLcF ri (gNm i) tt te [i]) (gNm j)) := by
  obtain ⟨wi, pi, li⟩ := hi.ex
  refine ⟨_, ps_fz (ps_setLc (tt := dnT X.K W0 tt) (te := dnE X.K W0 te) hc hN hy hyl hsw pi ok hg (fun s H C cl fp => (ht s H C cl fp).pe) (fun s H C cl fp => (he s H C cl fp).pe) hs), fun σ σ' H S D D' rs rh h d => ?_⟩
  refine li σ σ' H S _ _ _ rs rh h (fun J xs gd S1 H1 f1 rh1 ok h1 => ?_) (d.xi rh rs)
  refine lc_runG (W := W) (Q := fun v H1 => gName j v σ H1 (fzS D.nx)) (Q' := fun d S1 => fzD d S1 (fun d S1 => gNm j d σ' S1 D'.nx (D'.x σ'))) (fun _ _ z => nw_fz z) keeps_nm (rs.mono (f1.tle rh)) rh1 ok ?_ h1
  intro dd S2 v H2 f2 rh2 dv h2
  have n0 : Tle X.K H H2 := (f1.trans f2).tle rh
  cases dd with
  | ref p =>
    cases dv
    obtain ⟨xs, e, h2⟩ := h2
    obtain ⟨vs, e', r⟩ := rh2.lst e
    refine .inr ⟨p, .lst vs, trivial, e', fun o => ?_⟩
    obtain ⟨f3, rh3⟩ := rh2.frz (o := o) (vs := vs) e
    exact d.nx _ _ _ _ ((f1.trans f2).trans f3) rh3 ((rs.mono (((f1.trans f2).trans f3).tle rh)).set (.kl (.inl ⟨o, upd_same⟩) (DVs.mono (f3.tle rh2) _ _ r)) j) h2
  | _ => exact .inl (d.nx _ _ _ _ (f1.trans f2) rh2 ((rs.mono ((f1.trans f2).tle rh)).set dv j) h2)
theorem ev_lcTF {tg elt it : Expr} {ifs : List Expr} {scope : Scope} {ri : RI} {G : TG} {g : RG} {tt : RT} {te : RE} {own : List (Str × Nat)} (hc : X.calm = true) (hN : X.N.Nodup) (hi : EI X W tg it ri) (ok : BlkOk X.N X.env.scope scope own) (kp : Keeps G g (own.map (·.2)) X.K)
    (hg : ∀ (s : Shared) (H : Hp) (C : Addr) (cl : List (Str × Addr)) (fp : List Addr), PG (X.blk s H scope (compEnvC scope cl C X.env) fp) tg G)
    (ht : ∀ (s : Shared) (H : Hp) (C : Addr) (cl : List (Str × Addr)) (fp : List Addr), EP1 (X.blk s H scope (compEnvC scope cl C X.env) fp) W0 ifs tt)
    (he : ∀ (s : Shared) (H : Hp) (C : Addr) (cl : List (Str × Addr)) (fp : List Addr), EV (X.blk s H scope (compEnvC scope cl C X.env) fp) W0 elt te) (hs : ∀ x, foldedSetIterable it X.env x = pure x := by intro _; rfl) :
    EV X W (.ListComp elt [⟨tg, it, ifs, 0⟩] scope pos) (rLcF ri g tt te (own.map (·.2))) := by
  obtain ⟨wi, pi, li⟩ := hi.ex
  refine ⟨_, pe_fz (pe_lc (tt := dnT X.K W0 tt) (te := dnE X.K W0 te) hc hN pi ok hg (fun s H C cl fp => (ht s H C cl fp).pe) (fun s H C cl fp => (he s H C cl fp).pe) hs), fun σ σ' H S Q Q' E' rs rh h q xi => ?_⟩
  exact li σ σ' H S _ _ _ rs rh h (fun J xs gd S1 H1 f1 rh1 ok h1 => lc_runG (W := W) (Q' := fun x S1 => fzD x S1 Q') (fun _ _ z => nw_fz z) kp (rs.mono (f1.tle rh)) rh1 ok (q.go f1).fz h1) xi
theorem es_setLcTF (j : Nat) {y : Str} {py spos : Pos} {tg elt it : Expr} {ifs : List Expr} {scope : Scope} {ri : RI} {G : TG} {g : RG} {tt : RT} {te : RE} {own : List (Str × Nat)} (hc : X.calm = true) (hN : X.N.Nodup) (hi : EI X W tg it ri) (ok : BlkOk X.N X.env.scope scope own) (kp : Keeps G g (own.map (·.2)) X.K)
    (hg : ∀ (s : Shared) (H : Hp) (C : Addr) (cl : List (Str × Addr)) (fp : List Addr), PG (X.blk s H scope (compEnvC scope cl C X.env) fp) tg G)
    (ht : ∀ (s : Shared) (H : Hp) (C : Addr) (cl : List (Str × Addr)) (fp : List Addr), EP1 (X.blk s H scope (compEnvC scope cl C X.env) fp) W0 ifs tt)
    (he : ∀ (s : Shared) (H : Hp) (C : Addr) (cl : List (Str × Addr)) (fp : List Addr), EV (X.blk s H scope (compEnvC scope cl C X.env) fp) W0 elt te)
    (hsw : swapsWith (.ListComp elt [⟨tg, it, ifs, 0⟩] scope pos) (some (.Name y py)) spos.line X.env = pure true) (hy : X.N[j]? = some y := by rfl) (hyl : X.env.scope.names.lookup y = some .local := by rfl) (hs : ∀ x, foldedSetIterable it X.env x = pure x := by intro _; rfl) :
    ES X W (.Assign [.Name y py] (.ListComp elt [⟨tg, it, ifs, 0⟩] scope pos) spos) (rSet (rLcF ri g tt te (own.map (·.2))) (gNm j)) := by
  obtain ⟨wi, pi, li⟩ := hi.ex
  refine ⟨_, ps_fz (ps_setLc (tt := dnT X.K W0 tt) (te := dnE X.K W0 te) hc hN hy hyl hsw pi ok hg (fun s H C cl fp => (ht s H C cl fp).pe) (fun s H C cl fp => (he s H C cl fp).pe) hs), fun σ σ' H S D D' rs rh h d => ?_⟩
  refine li σ σ' H S _ _ _ rs rh h (fun J xs gd S1 H1 f1 rh1 ok h1 => ?_) (d.xi rh rs)
  refine lc_runG (W := W) (Q := fun v H1 => gName j v σ H1 (fzS D.nx)) (Q' := fun d S1 => fzD d S1 (fun d S1 => gNm j d σ' S1 D'.nx (D'.x σ'))) (fun _ _ z => nw_fz z) kp (rs.mono (f1.tle rh)) rh1 ok ?_ h1
  intro dd S2 v H2 f2 rh2 dv h2
  have n0 : Tle X.K H H2 := (f1.trans f2).tle rh
  cases dd with
  | ref p =>
    cases dv
    obtain ⟨xs, e, h2⟩ := h2
    obtain ⟨vs, e', r⟩ := rh2.lst e
    refine .inr ⟨p, .lst vs, trivial, e', fun o => ?_⟩
    obtain ⟨f3, rh3⟩ := rh2.frz (o := o) (vs := vs) e
    exact d.nx _ _ _ _ ((f1.trans f2).trans f3) rh3 ((rs.mono (((f1.trans f2).trans f3).tle rh)).set (.kl (.inl ⟨o, upd_same⟩) (DVs.mono (f3.tle rh2) _ _ r)) j) h2
  | _ => exact .inl (d.nx _ _ _ _ (f1.trans f2) rh2 ((rs.mono ((f1.trans f2).tle rh)).set dv j) h2)
end
end Y
/-! ### lists, written ones or let be: by what they hold -/
namespace Y
open PySem PySem.Spec PyProof.Rows L2
def lsv (x : D) (S : Hq) (R : List D → Prop) : Prop := match x with | .ref a => ∃ xs, S a = some (.lst xs) ∧ R xs | .kl xs => R xs | _ => False
def lsg (x : D) (xs : List D) : Hq → Prop := match x with | .ref a => fun S => S a = some (.lst xs) | _ => fun _ => True
structure LsK (K : PySem.W.Frag) (S1 : Hq) (H1 : Hp) (a : Addr) (xs : List D) (g : Hq → Prop) : Prop where
  at_ : ∀ S H, Fr S1 H1 S H → RH K S H → g S → ∃ vs, SqL K H a vs ∧ DVs K H xs vs
section
variable {K : PySem.W.Frag} {S : Hq} {H : Hp} {x : D} {v : V} {R : List D → Prop}
theorem RH.lsv (rh : RH K S H) (dv : DV K H x v) (h : lsv x S R) : ∃ a ds vs, v = .ref a ∧ SqL K H a vs ∧ DVs K H ds vs ∧ R ds ∧ LsK K S H a ds (lsg x ds) ∧ lsg x ds S := by
  cases dv with
  | ref a =>
    obtain ⟨xs, e, h⟩ := h
    obtain ⟨vs, s, r⟩ := rh.sql e
    exact ⟨a, xs, vs, rfl, s, r, h, ⟨fun S' H' f rh' g => rh'.sql g⟩, e⟩
  | kl s r => exact ⟨_, _, _, rfl, s.sql, r, h, ⟨fun S' H' f rh' g => ⟨_, ((f.tle rh).f _ _ s).sql, DVs.mono (f.tle rh) _ _ r⟩⟩, trivial⟩
  | _ => exact h.elim
end
section
variable {S : Hq} {R : List D → Prop} {p : Addr} {xs : List D}
theorem v_r : lsv (.ref p) S R = (∃ xs, S p = some (.lst xs) ∧ R xs) := rfl
theorem v_k : lsv (.kl xs) S R = R xs := rfl
theorem lg_r : lsg (.ref p) xs = fun S => S p = some (.lst xs) := rfl
theorem lg_k {ys : List D} : lsg (.kl ys) xs = fun _ => True := rfl
end
/-! ### list + list -/
section
open PySem.AutoSeq1
theorem add_any {l b : Addr} {xs ys : Array Value} {n m : Nat} {sl sk : Array (Option Value)} (hz : xs.size + ys.size ≤ sizeLine) :
    Meets (Builtin.«list.__add__» ⟨[.ref l, .ref b], []⟩) (fun _ R s => s.heap.get? l = some ⟨.type "list", none, .seq xs n, sl⟩ ∧ s.heap.get? b = some ⟨.type "list", none, .seq ys m, sk⟩ ∧ R (.ok (.ret (Value.ref s.heap.objs.size))) { s with heap := s.heap.push { cls := Value.type "list", data := Data.seq (xs ++ ys) }, toks := s.toks }) :=
  .of_wp fun prog w A R s ⟨hl, hb, h⟩ => by
    obtain ⟨hp, g, d, tk, os⟩ := s
    have f1 := idx_int
    have f2 := AutoSeq1.sub_tuple_tuple; have f3 := AutoSeq1.sub_list_list; have f4 := AutoSeq1.sub_tuple_list
    have f5 := AutoSeq1.sub_list_tuple
    wp_walk using wpAny_loadPart' hl, wpAny_loadPart' hb
    exact ⟨_, rfl, h⟩
end
def rCatL (K : PySem.W.Frag) : R2 := fun x y H Q => ∃ l b xs zs, x = .ref l ∧ y = .ref b ∧ SqL K H l xs ∧ SqL K H b zs ∧ xs.length + zs.length ≤ sizeLine ∧ ∀ p, H p = none → Q (.ref p) (upd H p (.lst (xs ++ zs)))
theorem op_catL {X : Cx} : OpR X (binaryOp .Add) (rCatL X.K) := by
  intro pins s σ H x y v u Q I rx ry h
  obtain ⟨l, b, xs, zs, rfl, rfl, hH, hB, hz, q⟩ := h
  cases rx
  cases ry
  obtain ⟨its, r, ⟨⟨oc, od, dt, sl⟩, n, e, c, d0, dq⟩, hl⟩ := I.list hH
  obtain ⟨its2, r2, ⟨⟨oc2, od2, dt2, sl2⟩, n2, e2, c2, d2, dq2⟩, hl2⟩ := I.list hB
  simp only at c d0 dq c2 d2 dq2
  subst c d0 dq c2 d2 dq2
  have n1 := r.length; have n2' := r2.length
  refine concat_meets ⟨_, e, rfl⟩ ⟨_, e2, rfl⟩ noFill_list_add seq_list_add F.slot_list_add F.entry_list_add (F.args_list_add_2 _ _) (add_any (by rw [List.size_toArray, List.size_toArray]; omega)) ⟨e, e2, ?_⟩
  have ea : its.toArray ++ its2.toArray = (its ++ its2).toArray := by simp
  rw [ea]
  exact ⟨.ref _, _, I.lnew (t' := s.toks) (r.append r2) (by rw [List.length_append]; omega), rfl, q _ I.fresh⟩
def addM (m : Nw2) : R2q := fun x y S Q => match x, y with
  | .int i, .int j => Q (.int (i + j)) S
  | .str a, .str b => a.length + b.length ≤ 1000000 ∧ Q (.str (a ++ b)) S
  | .tup xs, .tup ys => xs.length + ys.length ≤ 1000000 ∧ Q (.tup (xs ++ ys)) S
  | x, y => lsv x S fun xs => lsv y S fun ys => xs.length + ys.length ≤ 1000000 ∧ m (xs ++ ys) S Q
def rAddU (K : PySem.W.Frag) : R2 := fun x y H Q => (rI0 (fun i j => .int (i + j)) x y H Q) ∨ (∃ i j, x = .str i ∧ y = .str j ∧ i.length + j.length ≤ sizeLine ∧ Q (.str (i ++ j)) H) ∨ rCatA K x y H Q ∨ rCatL K x y H Q
section
variable {X : Cx} {K : PySem.W.Frag}
theorem op_addT : OpR X (binaryOp .Add) (rAddU X.K) := opr_or op_add (opr_or op_add_str (opr_or op_catA op_catL))
theorem op_addF : OpR X (binaryOp .Add) (fun x y H Q => rAddU X.K x y H (fzV Q)) := opr_fz op_addT
theorem lf_addT : Lift2 K (addM nwT) (rAddU K) := by
  intro x y S H Q' Q v u rh dx dy h q
  have fin : (lsv x S fun xs => lsv y S fun ys => xs.length + ys.length ≤ 1000000 ∧ nwT (xs ++ ys) S Q') → rAddU K v u H Q := fun h => by
    obtain ⟨a, xs, vs, rfl, s, r, h, _⟩ := rh.lsv dx h
    obtain ⟨b, ys, us, rfl, s2, r2, h, _⟩ := rh.lsv dy h
    exact .inr (.inr (.inr ⟨a, b, vs, us, rfl, rfl, s, s2, by rw [← r.length, ← r2.length]; exact big_le h.1, fun p hp => q.newL rh hp (r.app r2) (h.2 p (rh.fresh hp))⟩))
  cases x with
  | int i => cases y with
    | int j => cases dx; cases dy; exact .inl ⟨_, _, rfl, rfl, q.here rh (.int _) h⟩
    | _ => exact h.elim
  | str z => cases y with
    | str j => cases dx; cases dy; exact .inr (.inl ⟨_, _, rfl, rfl, big_le h.1, q.here rh (.str _) h.2⟩)
    | _ => exact h.elim
  | tup xs => cases y with
    | tup ys =>
      cases dx with | tup s1 r1 =>
      cases dy with | tup s2 r2 =>
      refine .inr (.inr (.inl ⟨_, _, _, _, rfl, rfl, s1, s2, by rw [← r1.length, ← r2.length]; exact big_le h.1, fun e => ?_, fun n e => ?_, fun n m p hp => ?_⟩))
      · subst e; cases r1; exact q.here rh (.tup s2 r2) h.2
      · subst e; cases r2; exact q.here rh (.tup s1 r1) (by have := h.2; rw [List.append_nil] at this; exact this)
      · exact q.newT rh hp (r1.app r2) h.2
    | _ => exact h.elim
  | ref a => exact fin (by cases y <;> exact h)
  | kl xs => exact fin (by cases y <;> exact h)
  | _ => exact (by cases y <;> exact h.elim)
theorem lsv_mono {x : D} {S : Hq} {R R' : List D → Prop} (h : lsv x S R) (f : ∀ xs, R xs → R' xs) : lsv x S R' := by
  cases x with
  | ref a => obtain ⟨xs, e, h⟩ := h; exact ⟨xs, e, f _ h⟩
  | kl xs => exact f _ h
  | _ => exact h.elim
theorem fz_int {i : Int} {S : Hq} {Q : Qv} : fzD (.int i) S Q = Q (.int i) S := rfl
theorem lf_addF : Lift2 K (addM nwF) (fun x y H Q => rAddU K x y H (fzV Q)) := lift2_fz lf_addT fun x y S Q h => by
  have fin : (lsv x S fun xs => lsv y S fun ys => xs.length + ys.length ≤ 1000000 ∧ nwF (xs ++ ys) S Q) → (lsv x S fun xs => lsv y S fun ys => xs.length + ys.length ≤ 1000000 ∧ nwT (xs ++ ys) S (fun z S1 => fzD z S1 Q)) :=
    fun h => lsv_mono h fun xs h => lsv_mono h fun ys h => ⟨h.1, nw_fz h.2⟩
  cases x <;> cases y <;> first | exact h | exact fin h
end
section
variable {S : Hq} {Q : Qv} {m : Nw2} {i j : Int} {a b : Str} {xs ys : List D} {p q : Addr} {x y : D}
theorem a_i : addM m (.int i) (.int j) S Q = Q (.int (i + j)) S := rfl
theorem a_s : addM m (.str a) (.str b) S Q = (a.length + b.length ≤ 1000000 ∧ Q (.str (a ++ b)) S) := rfl
theorem a_t : addM m (.tup xs) (.tup ys) S Q = (xs.length + ys.length ≤ 1000000 ∧ Q (.tup (xs ++ ys)) S) := rfl
theorem a_r : addM m (.ref p) y S Q = lsv (.ref p) S fun xs => lsv y S fun ys => xs.length + ys.length ≤ 1000000 ∧ m (xs ++ ys) S Q := by cases y <;> rfl
theorem a_k : addM m (.kl xs) y S Q = lsv y S fun ys => xs.length + ys.length ≤ 1000000 ∧ m (xs ++ ys) S Q := by cases y <;> rfl
theorem m_T : nwT xs S Q = (∀ p, S p = none → Q (.ref p) (up S p (.lst xs))) := rfl
theorem m_F : nwF xs S Q = Q (.kl xs) S := rfl
end
/-! ### tuple(x), list(x) -/
def tupF3 (ds : List D) (S : Hq) (Q : Qv) : Prop := match ds with
  | [.tup xs] => Q (.tup xs) S
  | [x] => lsv x S fun xs => Q (.tup xs) S
  | _ => False
def lstM (m : Nw2) (ds : List D) (S : Hq) (Q : Qv) : Prop := match ds with
  | [.tup xs] => m xs S Q
  | [x] => lsv x S fun xs => m xs S Q
  | _ => False
def rTupOf (K : PySem.W.Frag) : List V → Hp → VK → Prop := fun xs H Q => ∃ p ys, xs = [.ref p] ∧ ((SqL K H p ys ∧ ∀ l, H l = none → Q (.ref l) (upd H l (.tup ys))) ∨ (SqT K H p ys ∧ Q (.ref p) H))
def rLstOf (K : PySem.W.Frag) : List V → Hp → VK → Prop := fun xs H Q => ∃ p ys, xs = [.ref p] ∧ (SqL K H p ys ∨ SqT K H p ys) ∧ ∀ l, H l = none → Q (.ref l) (upd H l (.lst ys))
section
variable {X : Cx} {K : PySem.W.Frag}
theorem cr_tup3 : CallR X (.type "tuple") (rTupOf X.K) := call_tuple_of
theorem cr_lstT : CallR X (.type "list") (rLstOf X.K) := call_list_of
theorem cr_lstF : CallR X (.type "list") (fun xs H Q => rLstOf X.K xs H (fzV Q)) := callr_fz cr_lstT
theorem lc_tup3 : LiftC K tupF3 (rTupOf K) := by
  intro ds S H Q' Q vs rh dv h q
  rcases ds with _ | ⟨x, _ | ⟨y, r⟩⟩
  · exact h.elim
  · cases dv with | @cons _ v _ _ dx t =>
    cases t
    have fin : (lsv x S fun xs => Q' (.tup xs) S) → rTupOf K [v] H Q := fun h => by
      obtain ⟨a, xs, vs, rfl, s, r, h, _⟩ := rh.lsv dx h
      exact ⟨a, vs, rfl, .inl ⟨s, fun p hp => q.newT rh hp r h⟩⟩
    cases x with
    | tup xs => cases dx with | tup s r => exact ⟨_, _, rfl, .inr ⟨s, q.here rh (.tup s r) h⟩⟩
    | _ => exact fin h
  · exact (show False from by cases x <;> exact h).elim
theorem lc_lstT : LiftC K (lstM nwT) (rLstOf K) := by
  intro ds S H Q' Q vs rh dv h q
  rcases ds with _ | ⟨x, _ | ⟨y, r⟩⟩
  · exact h.elim
  · cases dv with | @cons _ v _ _ dx t =>
    cases t
    have fin : (lsv x S fun xs => nwT xs S Q') → rLstOf K [v] H Q := fun h => by
      obtain ⟨a, xs, vs, rfl, s, r, h, _⟩ := rh.lsv dx h
      exact ⟨a, vs, rfl, .inl s, fun p hp => q.newL rh hp r (h p (rh.fresh hp))⟩
    cases x with
    | tup xs => cases dx with | tup s r => exact ⟨_, _, rfl, .inr s, fun p hp => q.newL rh hp r (h p (rh.fresh hp))⟩
    | _ => exact fin h
  · exact (show False from by cases x <;> exact h).elim
theorem lc_lstF : LiftC K (lstM nwF) (fun xs H Q => rLstOf K xs H (fzV Q)) := liftc_fz lc_lstT fun ds S Q h => by
  match ds with
  | [] => exact h.elim
  | [x] =>
    cases x with
    | tup xs => exact nw_fz h
    | ref a => exact lsv_mono (x := .ref a) h fun _ h => nw_fz h
    | kl a => exact nw_fz h
    | _ => exact h.elim
  | x :: _ :: _ => exact (show False from by cases x <;> exact h).elim
end
section
variable {S : Hq} {Q : Qv} {m : Nw2} {xs : List D} {p : Addr}
theorem t_t : tupF3 [.tup xs] S Q = Q (.tup xs) S := rfl
theorem t_r : tupF3 [.ref p] S Q = ∃ xs, S p = some (.lst xs) ∧ Q (.tup xs) S := rfl
theorem t_k : tupF3 [.kl xs] S Q = Q (.tup xs) S := rfl
theorem l_t : lstM m [.tup xs] S Q = m xs S Q := rfl
theorem l_r : lstM m [.ref p] S Q = ∃ xs, S p = some (.lst xs) ∧ m xs S Q := rfl
theorem l_k : lstM m [.kl xs] S Q = m xs S Q := rfl
end
/-! ### slices -/
def slM (m : Nw2) (x : D) (lo hi : Option Int) (S : Hq) (Q : Qv) : Prop := match x with
  | .tup xs => Q (.tup (cutL xs lo hi)) S
  | .str z => z.length ≤ 1000000 ∧ Q (.str (cutS z lo hi)) S
  | x => lsv x S fun xs => m (cutL xs lo hi) S Q
def rSlM (m : Nw2) (ra : RE) (rl ru : RO') : RE := fun σ S Q E => ra σ S (fun x S1 => rl σ S1 (fun l S2 => ru σ S2 (fun u S3 => slM m x l u S3 Q) E) E) E
section
variable {X : Cx} {W : WX} {a : Expr} {ra : RE} {pos p2 : Pos} {lo hi : Option Expr} {rl ru : RO'}
theorem sl_lift {K : PySem.W.Frag} {S : Hq} {H : Hp} {Q' : Qv} {Q : VK} {d : D} {v : V} {o o' : Option Int} (rh : RH K S H) (dv : DV K H d v) (q : QI K S H Q' Q) (h : slM nwT d o o' S Q') : rSlU K v o o' H Q := by
  have fin : (lsv d S fun xs => nwT (cutL xs o o') S Q') → rSlU K v o o' H Q := fun h => by
    obtain ⟨a, xs, vs, rfl, s, r, h, _⟩ := rh.lsv dv h
    exact .inr (.inl ⟨a, vs, rfl, s, fun p hp => q.newL rh hp (cut_len r o o') (h p (rh.fresh hp))⟩)
  cases d with
  | str z => cases dv; exact .inr (.inr ⟨_, rfl, big_le h.1, q.here rh (.str _) h.2⟩)
  | tup xs =>
    cases dv with | tup s r =>
    refine .inl ⟨_, _, rfl, s, fun w => ?_, fun w p hp => q.newT rh hp (cut_len r o o') h⟩
    have e := cutL_whole (lo := o) (hi := o') (by rw [r.length]; exact w)
    have h4 : Q' (.tup (cutL _ o o')) S := h
    rw [e] at h4
    exact q.here rh (.tup s r) h4
  | _ => exact fin h
theorem ev_slT (ha : EV X W a ra) (hl : EO X W lo rl) (hu : EO X W hi ru) : EV X W (.Subscript a (.Slice lo hi none p2) pos) (rSlM nwT ra rl ru) := by
  obtain ⟨Ta, pa, la⟩ := ha.ex
  obtain ⟨Tl, pl, ll⟩ := hl.ex
  obtain ⟨Tu, pu, lu⟩ := hu.ex
  refine ⟨_, pe_slice sl_U pa pl pu, fun σ σ' H S Q Q' E' rs rh h q xi => ?_⟩
  refine la σ σ' H S _ _ E' rs rh h (fun d S1 v H1 f1 rh1 dv h1 => ?_) xi
  refine ll σ σ' H1 S1 _ _ E' (rs.mono (f1.tle rh)) rh1 h1 (fun o S2 H2 f2 rh2 h2 => ?_) (xi.go f1)
  refine lu σ σ' H2 S2 _ _ E' (rs.mono ((f1.trans f2).tle rh)) rh2 h2 (fun o' S3 H3 f3 rh3 h3 => ?_) (xi.go (f1.trans f2))
  exact sl_lift rh3 (DV.mono ((f2.trans f3).tle rh1) _ _ dv) (q.go ((f1.trans f2).trans f3)) h3
theorem ev_slF (ha : EV X W a ra) (hl : EO X W lo rl) (hu : EO X W hi ru) : EV X W (.Subscript a (.Slice lo hi none p2) pos) (rSlM nwF ra rl ru) := by
  obtain ⟨Ta, pa, la⟩ := ha.ex
  obtain ⟨Tl, pl, ll⟩ := hl.ex
  obtain ⟨Tu, pu, lu⟩ := hu.ex
  refine ⟨_, pe_fz (pe_slice sl_U pa pl pu), fun σ σ' H S Q Q' E' rs rh h q xi => ?_⟩
  refine la σ σ' H S _ _ E' rs rh h (fun d S1 v H1 f1 rh1 dv h1 => ?_) xi
  refine ll σ σ' H1 S1 _ _ E' (rs.mono (f1.tle rh)) rh1 h1 (fun o S2 H2 f2 rh2 h2 => ?_) (xi.go f1)
  refine lu σ σ' H2 S2 _ _ E' (rs.mono ((f1.trans f2).tle rh)) rh2 h2 (fun o' S3 H3 f3 rh3 h3 => ?_) (xi.go (f1.trans f2))
  refine sl_lift rh3 (DV.mono ((f2.trans f3).tle rh1) _ _ dv) (q.go ((f1.trans f2).trans f3)).fz ?_
  cases d with
  | tup xs => exact h3
  | str z => exact h3
  | ref a => exact lsv_mono (x := .ref a) h3 fun _ h => nw_fz h
  | kl xs => exact nw_fz h3
  | _ => exact h3.elim
end
section
variable {S : Hq} {Q : Qv} {m : Nw2} {xs : List D} {p : Addr} {l u : Option Int} {z : Str}
theorem s_t : slM m (.tup xs) l u S Q = Q (.tup (cutL xs l u)) S := rfl
theorem s_s : slM m (.str z) l u S Q = (z.length ≤ 1000000 ∧ Q (.str (cutS z l u)) S) := rfl
theorem s_r : slM m (.ref p) l u S Q = ∃ xs, S p = some (.lst xs) ∧ m (cutL xs l u) S Q := rfl
theorem s_k : slM m (.kl xs) l u S Q = m (cutL xs l u) S Q := rfl
end
end Y
namespace Y
open PySem PySem.Spec PyProof.Rows L2
/-! ### sorted of texts, of ints -/
def rSortedSA (K : PySem.W.Frag) : List V → Hp → VK → Prop := fun vs H Q => ∃ (a : Addr) (xs : List Str), vs = [V.ref a] ∧ SqL K H a (xs.map V.str) ∧
  ∀ (ys : List Str) (p : Addr), ys.Perm xs → sortedS ys = true → H p = none → Q (.ref p) (upd H p (.lst (ys.map V.str)))
theorem cr_sortedSA {X : Cx} : CallR X (.builtin "sorted") (rSortedSA X.K) := by
  intro pins s σ H vs us Q I r h
  obtain ⟨a, xs, rfl, hs, q⟩ := h
  obtain ⟨its, rv, hl, hz⟩ := I.list hs
  rw [Vals.ref1 r]
  have hlen0 := rv.length
  rw [List.length_map] at hlen0
  refine PyProof.Rows.sorted_strsAny hl.isList rv.strs (by rw [← hlen0]; rw [List.length_map] at hz; exact hz) fun out ys h1 h2 h3 => ?_
  obtain ⟨ep, he'⟩ := PyProof.Rows.sortedAll_at s.heap its out
  have hlen : (ys.map V.str).length ≤ sizeLine := by rw [List.length_map, h2.length_eq]; rw [List.length_map] at hz; exact hz
  exact ⟨.ref _, upd H (s.heap.objs.size + 1) (.lst (ys.map V.str)), I.laid (t' := s.toks) (fun _ _ => PyProof.Rows.sortedAll_old) (Nat.le_succ _) ⟨hlen, out.toList, ep, vals_of_strs h1, he'⟩, rfl, q ys _ h2 h3 (I.hok.fresh (Nat.le_succ _))⟩
def srtM (m : Nw2) (ds : List D) (S : Hq) (Q : Qv) : Prop := match ds with
  | [x] => lsv x S fun xs => (∃ ns : List Int, xs = ns.map D.int ∧ ∀ ns' : List Int, ns'.Perm ns → ns'.Pairwise (· ≤ ·) → m (ns'.map D.int) S Q) ∨ (∃ zs : List Str, xs = zs.map D.str ∧ ∀ zs' : List Str, zs'.Perm zs → sortedS zs' = true → m (zs'.map D.str) S Q)
  | _ => False
theorem DVs.ofTxts {K : PySem.W.Frag} {H : Hp} : ∀ {zs : List Str}, DVs K H (zs.map D.str) (zs.map V.str)
  | [] => .nil
  | _ :: _ => .cons (.str _) DVs.ofTxts
def rSrtU (K : PySem.W.Frag) : List V → Hp → VK → Prop := fun xs H Q => rSortedI K xs H Q ∨ rSortedSA K xs H Q
section
variable {X : Cx} {K : PySem.W.Frag}
theorem cr_srtT : CallR X (.builtin "sorted") (rSrtU X.K) := callr_or cr_sortedI cr_sortedSA
theorem cr_srtF : CallR X (.builtin "sorted") (fun xs H Q => rSrtU X.K xs H (fzV Q)) := callr_fz cr_srtT
theorem lc_srtT : LiftC K (srtM nwT) (rSrtU K) := by
  intro ds S H Q' Q vs rh dv h q
  rcases ds with _ | ⟨x, _ | ⟨y, r⟩⟩
  · exact h.elim
  · cases dv with | @cons _ v _ _ dx t =>
    cases t
    obtain ⟨a, xs, vs, rfl, s, r, h, _⟩ := rh.lsv dx h
    rcases h with ⟨ns, rfl, h⟩ | ⟨zs, rfl, h⟩
    · rw [r.ints] at s
      exact .inl ⟨a, ns, rfl, s, fun ns' p hp hw hn => q.newL rh hn DVs.ofInts (h ns' hp hw p (rh.fresh hn))⟩
    · rw [DVs.txts r] at s
      exact .inr ⟨a, zs, rfl, s, fun ns' p hp hw hn => q.newL rh hn DVs.ofTxts (h ns' hp hw p (rh.fresh hn))⟩
  · exact h.elim
theorem lc_srtF : LiftC K (srtM nwF) (fun xs H Q => rSrtU K xs H (fzV Q)) := liftc_fz lc_srtT fun ds S Q h => by
  rcases ds with _ | ⟨x, _ | ⟨y, r⟩⟩
  · exact h.elim
  · refine lsv_mono h fun xs h => ?_
    rcases h with ⟨ns, e, h⟩ | ⟨zs, e, h⟩
    · exact .inl ⟨ns, e, fun a b c => nw_fz (h a b c)⟩
    · exact .inr ⟨zs, e, fun a b c => nw_fz (h a b c)⟩
  · exact h.elim
end
section
variable {S : Hq} {Q : Qv} {m : Nw2} {xs : List D} {p : Addr} {x : D}
theorem o_1 : srtM m [x] S Q = lsv x S fun xs => (∃ ns : List Int, xs = ns.map D.int ∧ ∀ ns' : List Int, ns'.Perm ns → ns'.Pairwise (· ≤ ·) → m (ns'.map D.int) S Q) ∨ (∃ zs : List Str, xs = zs.map D.str ∧ ∀ zs' : List Str, zs'.Perm zs → sortedS zs' = true → m (zs'.map D.str) S Q) := rfl
end
/-! ### join, any, all, sum -/
def joinD3 (x : D) (ds : List D) (S : Hq) (Q : Qv) : Prop := match x, ds with
  | .str z, [y] => lsv y S fun xs => ∃ zs, strsD xs = some zs ∧ (zs.map (·.length)).sum + zs.length * z.length ≤ 1000000 ∧ Q (.str (Txt.join z zs)) S
  | _, _ => False
theorem lm_join3 {X : Cx} : LiftM X.K joinD3 (fun x xs H Q => ∃ a p, ∃ ys : List Str, x = .str a ∧ xs = [.ref p] ∧ (SqL X.K H p (ys.map V.str) ∨ SqT X.K H p (ys.map V.str)) ∧
    (ys.map (·.length)).sum + ys.length * a.length ≤ 16777216 ∧ Q (.str (Txt.join a ys)) H) := by
  intro x ds S H Q' Q v vs rh dx dv h q
  cases x with
  | str z =>
    rcases ds with _ | ⟨y, _ | ⟨_, _⟩⟩
    · exact h.elim
    · cases dv with | @cons _ u _ _ dy t =>
      cases t; cases dx
      obtain ⟨a, xs, vs, rfl, s, r, ⟨zs, e, hz, h⟩, _⟩ := rh.lsv dy h
      rw [strsD_of e r] at s
      exact ⟨_, _, zs, rfl, rfl, .inl s, Nat.le_trans hz (by decide), q.here rh (.str _) h⟩
    · exact h.elim
  | _ => exact h.elim
def anyD3 (ds : List D) (S : Hq) (Q : Qv) : Prop := match ds with
  | [x] => lsv x S fun xs => ∃ bs : List Bool, xs = bs.map D.bl ∧ Q (.bl (bs.any id)) S
  | _ => False
def allD3 (ds : List D) (S : Hq) (Q : Qv) : Prop := match ds with
  | [x] => lsv x S fun xs => ∃ bs : List Bool, xs = bs.map D.bl ∧ Q (.bl (bs.all id)) S
  | _ => False
def sumD3 (ds : List D) (S : Hq) (Q : Qv) : Prop := match ds with
  | [x] => lsv x S fun xs => ∃ ns : List Int, xs = ns.map D.int ∧ Q (.int ns.sum) S
  | _ => False
section
variable {K : PySem.W.Frag}
theorem lc_any3 : LiftC K anyD3 (rAny K) := by
  intro ds S H Q' Q vs rh dv h q
  rcases ds with _ | ⟨x, _ | ⟨y, r⟩⟩
  · exact h.elim
  · cases dv with | @cons _ v _ _ dx t =>
    cases t
    obtain ⟨a, xs, vs, rfl, s, r, ⟨bs, rfl, h⟩, _⟩ := rh.lsv dx h
    rw [DVs.bools r] at s
    exact ⟨_, bs, rfl, s, q.here rh (.bl _) h⟩
  · exact h.elim
theorem lc_all3 : LiftC K allD3 (rAll K) := by
  intro ds S H Q' Q vs rh dv h q
  rcases ds with _ | ⟨x, _ | ⟨y, r⟩⟩
  · exact h.elim
  · cases dv with | @cons _ v _ _ dx t =>
    cases t
    obtain ⟨a, xs, vs, rfl, s, r, ⟨bs, rfl, h⟩, _⟩ := rh.lsv dx h
    rw [DVs.bools r] at s
    exact ⟨_, bs, rfl, s, q.here rh (.bl _) h⟩
  · exact h.elim
theorem lc_sum3 : LiftC K sumD3 (rSum K) := by
  intro ds S H Q' Q vs rh dv h q
  rcases ds with _ | ⟨x, _ | ⟨y, r⟩⟩
  · exact h.elim
  · cases dv with | @cons _ v _ _ dx t =>
    cases t
    obtain ⟨a, xs, vs, rfl, s, r, ⟨ns, rfl, h⟩, _⟩ := rh.lsv dx h
    rw [r.ints] at s
    exact ⟨_, ns, rfl, s, q.here rh (.int _) h⟩
  · exact h.elim
end
section
variable {S : Hq} {Q : Qv} {x : D} {z : Str}
theorem j_1 : joinD3 (.str z) [x] S Q = lsv x S fun xs => ∃ zs, strsD xs = some zs ∧ (zs.map (·.length)).sum + zs.length * z.length ≤ 1000000 ∧ Q (.str (Txt.join z zs)) S := rfl
theorem y_1 : anyD3 [x] S Q = lsv x S fun xs => ∃ bs : List Bool, xs = bs.map D.bl ∧ Q (.bl (bs.any id)) S := rfl
theorem y_2 : allD3 [x] S Q = lsv x S fun xs => ∃ bs : List Bool, xs = bs.map D.bl ∧ Q (.bl (bs.all id)) S := rfl
theorem y_3 : sumD3 [x] S Q = lsv x S fun xs => ∃ ns : List Int, xs = ns.map D.int ∧ Q (.int ns.sum) S := rfl
end
/-! ### zip, enumerate -/
theorem it_zipG {K : PySem.W.Frag} {S1 : Hq} {H1 : Hp} {a b : Addr} {xs ys : List D} {g g2 : Hq → Prop} (k : LsK K S1 H1 a xs g) (k2 : LsK K S1 H1 b ys g2) : ItOk K S1 H1 (Itz K a b) (zipD xs ys) (fun S => g S ∧ g2 S) := by
  refine ⟨fun S H f rh g => ?_, fun i x S H hx f rh g => ?_, fun i x S H v H' hx f rh g hy => ?_⟩
  · obtain ⟨vs, s, r⟩ := k.at_ S H f rh g.1
    obtain ⟨us, s2, r2⟩ := k2.at_ S H f rh g.2
    exact ⟨vs, us, s, s2, by rw [zipD_len, ← r.length, ← r2.length]; omega⟩
  · obtain ⟨vs, s, r⟩ := k.at_ S H f rh g.1
    obtain ⟨us, s2, r2⟩ := k2.at_ S H f rh g.2
    obtain ⟨x1, y1, h1, h2, _⟩ := zipD_get hx
    obtain ⟨v, hv, _⟩ := r.get h1
    obtain ⟨u, hu, _⟩ := r2.get h2
    exact ⟨vs, us, v, u, s, s2, hv, hu⟩
  · obtain ⟨vs, s, r⟩ := k.at_ S H f rh g.1
    obtain ⟨us, s2, r2⟩ := k2.at_ S H f rh g.2
    obtain ⟨x1, y1, h1, h2, rfl⟩ := zipD_get hx
    obtain ⟨v', hv, dv⟩ := r.get h1
    obtain ⟨u', hu, du⟩ := r2.get h2
    obtain ⟨T, x2, y2, rfl, hT, rfl, e1, e2⟩ := hy
    have e1 := e1 vs s
    have e2 := e2 us s2
    rw [hv] at e1; cases e1
    rw [hu] at e2; cases e2
    have f' := Fr.new (o := .tup [v', u']) rh hT
    exact ⟨f', rh.new hT, .tup (.inl (.inl upd_same)) (.cons (DV.mono (f'.tle rh) _ _ dv) (.cons (DV.mono (f'.tle rh) _ _ du) .nil))⟩
def zpD3 (ds : List D) (S1 : Hq) (R : List D → (Hq → Prop) → Hq → Prop) : Prop := match ds with
  | [.tup xs, .tup ys] => R (zipD xs ys) (fun _ => True) S1
  | [x, y] => lsv x S1 fun xs => lsv y S1 fun ys => R (zipD xs ys) (fun S => lsg x xs S ∧ lsg y ys S) S1
  | _ => False
def iZp3 (ra : RA) : RI := fun σ S R E => ra σ S (fun ds S1 => zpD3 ds S1 R) E
theorem it_enumG {K : PySem.W.Frag} {S1 : Hq} {H1 : Hp} {a : Addr} {xs : List D} {g : Hq → Prop} (k : LsK K S1 H1 a xs g) : ItOk K S1 H1 (Ite K a) (enumD xs) g := by
  refine ⟨fun S H f rh g => ?_, fun i x S H hx f rh g => ?_, fun i x S H v H' hx f rh g hy => ?_⟩
  · obtain ⟨vs, s, r⟩ := k.at_ S H f rh g
    exact ⟨vs, s, by rw [enumD_len, r.length]; exact Nat.le_refl _⟩
  · obtain ⟨vs, s, r⟩ := k.at_ S H f rh g
    obtain ⟨y, hy, _⟩ := enumD_get hx
    obtain ⟨v, hv, _⟩ := r.get hy
    exact ⟨vs, v, s, hv⟩
  · obtain ⟨vs, s, r⟩ := k.at_ S H f rh g
    obtain ⟨y, hxy, rfl⟩ := enumD_get hx
    obtain ⟨v', hv, dv⟩ := r.get hxy
    obtain ⟨T, x2, rfl, hT, rfl, e1⟩ := hy
    have e1 := e1 vs s
    rw [hv] at e1; cases e1
    have f' := Fr.new (o := .tup [.int (i : Int), v']) rh hT
    exact ⟨f', rh.new hT, .tup (.inl (.inl upd_same)) (.cons (.int _) (.cons (DV.mono (f'.tle rh) _ _ dv) .nil))⟩
def enD3 (ds : List D) (S1 : Hq) (R : List D → (Hq → Prop) → Hq → Prop) : Prop := match ds with
  | [x] => lsv x S1 fun xs => R (enumD xs) (lsg x xs) S1
  | _ => False
def iEn3 (ra : RA) : RI := fun σ S R E => ra σ S (fun ds S1 => enD3 ds S1 R) E
section
variable {X : Cx} {W : WX} {e e2 : Expr} {r : RE} {pos : Pos}
theorem ei_zip3 {ra : RA} {p tpos : Pos} {elts : List Expr} {kk : Nat} (hm : X.mg "zip" = none) (ha : EA X W [e, e2] ra) (hg : Gl X "zip" := by rfl)
    (hs : starEach [e, e2] X.env = (false, eval e X.env) :: starEach [e2] X.env := by rfl) (hs2 : (backTo pos (starEach [e2] X.env)).any (·.1) = false := by rfl) :
    EI X W (.Tuple elts kk tpos) (.Call (.Name "zip" p) [e, e2] [] pos) (iZp3 ra) := by
  obtain ⟨T, pp, l⟩ := ha.ex
  refine ⟨_, RZ.pi_zipA hg hm pp hs hs2, fun σ σ' H S R R' E' rs rh h q xi => ?_⟩
  refine l σ σ' H S _ _ _ rs rh h (fun ds S1 v H1 f1 rh1 dv h1 => ?_) xi
  rcases ds with _ | ⟨x, _ | ⟨y, _ | ⟨_, _⟩⟩⟩
  · exact h1.elim
  · exact (show False from by cases x <;> exact h1).elim
  · cases dv with | @cons _ vx _ _ dx t =>
    cases t with | @cons _ vy _ _ dy t =>
    cases t
    have fin : (lsv x S1 fun xs => lsv y S1 fun ys => R' (zipD xs ys) (fun S => lsg x xs S ∧ lsg y ys S) S1) → ∃ a b xs ys, [vx, vy] = [V.ref a, V.ref b] ∧ ((SqL X.K H1 a xs ∧ SqL X.K H1 b ys ∧ R (Itz X.K a b) H1) ∨ (SqT X.K H1 a xs ∧ SqT X.K H1 b ys ∧ R (RZ.ItzT X.K a b) H1)) := fun h => by
      obtain ⟨a, xs, vs, rfl, s, r, h, k, _⟩ := rh1.lsv dx h
      obtain ⟨b, ys, us, rfl, s2, r2, h, k2, _⟩ := rh1.lsv dy h
      exact ⟨a, b, vs, us, rfl, .inl ⟨s, s2, q _ _ _ _ _ f1 rh1 (it_zipG k k2) h⟩⟩
    cases x with
    | tup xs => cases y with
      | tup ys =>
        cases dx with | tup s r =>
        cases dy with | tup s2 r2 => exact ⟨_, _, _, _, rfl, .inr ⟨s, s2, q _ _ _ _ _ f1 rh1 (it_zipT rh1 s r s2 r2) h1⟩⟩
      | _ => exact h1.elim
    | ref a => exact fin (by cases y <;> exact h1)
    | kl a => exact fin (by cases y <;> exact h1)
    | _ => exact (show False from by cases y <;> exact h1).elim
  · exact (show False from by cases x <;> cases y <;> exact h1).elim
theorem ei_enum3 {ra : RA} {p tpos : Pos} {elts : List Expr} {kk : Nat} (hm : X.mg "enumerate" = none) (ha : EA X W [e] ra) (hg : Gl X "enumerate" := by rfl)
    (hs : starEach [e] X.env = [(false, eval e X.env)] := by rfl) : EI X W (.Tuple elts kk tpos) (.Call (.Name "enumerate" p) [e] [] pos) (iEn3 ra) := by
  obtain ⟨T, pp, l⟩ := ha.ex
  refine ⟨_, pi_enum hg hm pp hs, fun σ σ' H S R R' E' rs rh h q xi => ?_⟩
  refine l σ σ' H S _ _ _ rs rh h (fun ds S1 v H1 f1 rh1 dv h1 => ?_) xi
  rcases ds with _ | ⟨x, _ | ⟨_, _⟩⟩
  · exact h1.elim
  · cases dv with | @cons _ vx _ _ dx t =>
    cases t
    obtain ⟨a, xs, vs, rfl, s, r, h, k, _⟩ := rh1.lsv dx h1
    exact ⟨_, vs, rfl, s, q _ _ _ _ _ f1 rh1 (it_enumG k) h⟩
  · exact h1.elim
end
section
variable {S : Hq} {x y : D} {xs ys : List D} {R : List D → (Hq → Prop) → Hq → Prop} {p q : Addr}
theorem z_tt : zpD3 [.tup xs, .tup ys] S R = R (zipD xs ys) (fun _ => True) S := rfl
theorem z_r : zpD3 [.ref p, y] S R = lsv (.ref p) S fun xs => lsv y S fun ys => R (zipD xs ys) (fun S => lsg (.ref p) xs S ∧ lsg y ys S) S := by cases y <;> rfl
theorem z_k : zpD3 [.kl xs, y] S R = lsv y S fun ys => R (zipD xs ys) (fun S => True ∧ lsg y ys S) S := by cases y <;> rfl
theorem e_1 : enD3 [x] S R = lsv x S fun xs => R (enumD xs) (lsg x xs) S := rfl
end
end Y
namespace Y
open PySem PySem.Spec PyProof.Rows L2
/-! ### ==, != -/
def eqD3 (g : Bool → Bool) : R2q := fun x y S Q => match eqS x y with
  | some b => Q (.bl (g b)) S
  | none => match x, y with
    | .tup xs, .tup ys => okE (.tup xs) ∧ okE (.tup ys) ∧ Q (.bl (g (PyData.eqv (pd (.tup xs)) (pd (.tup ys))))) S
    | .non, .tup ys => okE (.tup ys) ∧ Q (.bl (g (PyData.eqv .none (pd (.tup ys))))) S
    | .tup ys, .non => okE (.tup ys) ∧ Q (.bl (g (PyData.eqv (pd (.tup ys)) .none))) S
    | .int i, .tup ys => okE (.int i) ∧ okE (.tup ys) ∧ Q (.bl (g (PyData.eqv (pd (.int i)) (pd (.tup ys))))) S
    | x, y => lsv x S fun xs => lsv y S fun ys => okE (.tup xs) ∧ okE (.tup ys) ∧ Q (.bl (g (PyData.eqvAll (pds xs) (pds ys)))) S
section
variable {X : Cx} {K : PySem.W.Frag} {S : Hq} {H : Hp}
theorem okNon : okE .non := ⟨rfl, by decide +kernel⟩
theorem eqL {g : Bool → Bool} {x y : D} {v u : V} {Q' : Qv} {Q : VK} (rh : RH K S H) (dx : DV K H x v) (dy : DV K H y u) (q : QI K S H Q' Q) (h : lsv x S fun xs => lsv y S fun ys => okE (.tup xs) ∧ okE (.tup ys) ∧ Q' (.bl (g (PyData.eqvAll (pds xs) (pds ys)))) S) :
    ∃ d e, Dp K H v d ∧ Dp K H u e ∧ SeqAt.shaped d = true ∧ SeqAt.shaped e = true ∧ Q (.bl (g (PyData.eqv d e))) H := by
  obtain ⟨a, xs, vs, rfl, s1, r1, h, _⟩ := rh.lsv dx h
  obtain ⟨b, ys, us, rfl, s2, r2, ⟨⟨p1, t1⟩, ⟨p2, t2⟩, h⟩, _⟩ := rh.lsv dy h
  refine ⟨.list (pds xs), .list (pds ys), .lst s1 (DVs.dp _ _ (by simpa [pur] using p1) r1), .lst s2 (DVs.dp _ _ (by simpa [pur] using p2) r2), ?_, ?_, ?_⟩
  · rw [shaped_list]; simpa [pd] using t1
  · rw [shaped_list]; simpa [pd] using t2
  · exact q.here rh (.bl _) (by simpa [PyData.eqv] using h)
theorem eqG {g : Bool → Bool} {x y : D} {v u : V} {Q' : Qv} {Q : VK} (rh : RH K S H) (dx : DV K H x v) (dy : DV K H y u) (q : QI K S H Q' Q) (h : eqD3 g x y S Q') :
    (scal v u = true ∧ Q (.bl (g (decide (v = u)))) H) ∨ ∃ d e, Dp K H v d ∧ Dp K H u e ∧ SeqAt.shaped d = true ∧ SeqAt.shaped e = true ∧ Q (.bl (g (PyData.eqv d e))) H := by
  unfold eqD3 at h
  split at h
  · rename_i b e
    obtain ⟨s, d⟩ := eqS_of e dx dy
    exact .inl ⟨s, by rw [d]; exact q.here rh (.bl _) h⟩
  · split at h
    · obtain ⟨⟨p1, s1⟩, ⟨p2, s2⟩, h⟩ := h
      exact .inr ⟨_, _, DV.dp _ _ p1 dx, DV.dp _ _ p2 dy, s1, s2, q.here rh (.bl _) h⟩
    · obtain ⟨⟨p2, s2⟩, h⟩ := h
      exact .inr ⟨_, _, DV.dp _ _ okNon.1 dx, DV.dp _ _ p2 dy, okNon.2, s2, q.here rh (.bl _) h⟩
    · obtain ⟨⟨p2, s2⟩, h⟩ := h
      exact .inr ⟨_, _, DV.dp _ _ p2 dx, DV.dp _ _ okNon.1 dy, s2, okNon.2, q.here rh (.bl _) h⟩
    · obtain ⟨⟨p1, s1⟩, ⟨p2, s2⟩, h⟩ := h
      exact .inr ⟨_, _, DV.dp _ _ p1 dx, DV.dp _ _ p2 dy, s1, s2, q.here rh (.bl _) h⟩
    · exact .inr (eqL rh dx dy q h)
theorem lf_eq3 : Lift2 K (eqD3 id) (rEqU K) := by
  intro x y S H Q' Q v u rh dx dy h q
  rcases eqG rh dx dy q h with h | ⟨d, e, a, b, c, f, h⟩
  · exact .inl h
  · exact .inr ⟨d, e, a, b, c, f, h⟩
theorem lf_ne3 : Lift2 K (eqD3 not) (rNeU K) := by
  intro x y S H Q' Q v u rh dx dy h q
  rcases eqG rh dx dy q h with h | ⟨d, e, a, b, c, f, h⟩
  · exact .inl h
  · exact .inr ⟨d, e, a, b, c, f, h⟩
end
section
variable {S : Hq} {Q : Qv} {g : Bool → Bool} {i j : Int} {a b : Str} {c d : Bool} {xs ys : List D} {p q : Addr} {x y : D}
theorem k_ii : eqD3 g (.int i) (.int j) S Q = Q (.bl (g (decide (i = j)))) S := rfl
theorem k_ss : eqD3 g (.str a) (.str b) S Q = Q (.bl (g (decide (a = b)))) S := rfl
theorem k_bb : eqD3 g (.bl c) (.bl d) S Q = Q (.bl (g (decide (c = d)))) S := rfl
theorem k_nn : eqD3 g .non .non S Q = Q (.bl (g true)) S := rfl
theorem k_tt : eqD3 g (.tup xs) (.tup ys) S Q = (okE (.tup xs) ∧ okE (.tup ys) ∧ Q (.bl (g (PyData.eqv (pd (.tup xs)) (pd (.tup ys))))) S) := rfl
theorem k_r : eqD3 g (.ref p) y S Q = lsv (.ref p) S fun xs => lsv y S fun ys => okE (.tup xs) ∧ okE (.tup ys) ∧ Q (.bl (g (PyData.eqvAll (pds xs) (pds ys)))) S := by cases y <;> rfl
theorem k_k : eqD3 g (.kl xs) y S Q = lsv y S fun ys => okE (.tup xs) ∧ okE (.tup ys) ∧ Q (.bl (g (PyData.eqvAll (pds xs) (pds ys)))) S := by cases y <;> rfl
theorem eqvAll_nil {ds : List PyData} : PyData.eqvAll ds [] = ds.isEmpty := by cases ds <;> rfl
theorem pds_emp {ds : List D} : (pds ds).isEmpty = ds.isEmpty := by cases ds <;> rfl
end
/-! ### in, not in -/
def inS (x : D) (ys : List D) : Option Bool := match ys with
  | [] => some false
  | y :: r => match eqS y x, inS x r with | some a, some b => some (a || b) | _, _ => none
def inD3 (g : Bool → Bool) : R2q := fun x y S Q => match y with
  | .tup ys => ∃ b, ys ≠ [] ∧ inS x ys = some b ∧ Q (.bl (g b)) S
  | y => lsv y S fun ys => okE x ∧ okE (.tup ys) ∧ Q (.bl (g ((pds ys).any fun z => PyData.eqv z (pd x)))) S
def rInU (K : PySem.W.Frag) : R2 := fun x y H Q => rIn K false x y H Q ∨ rInD K x y H Q
def rNotInU (K : PySem.W.Frag) : R2 := fun x y H Q => rIn K true x y H Q ∨ rNotInD K x y H Q
section
variable {X : Cx} {K : PySem.W.Frag} {S : Hq} {H : Hp}
theorem op_in3 (hu : X.A.units + 65 < cLine) : OpR X (compareOp .In) (rInU X.K) := opr_or op_in_seq (op_inD hu)
theorem op_notIn3 (hu : X.A.units + 65 < cLine) : OpR X (compareOp .NotIn) (rNotInU X.K) := opr_or op_notIn_seq (op_notInD hu)
theorem eqS_V {x y : D} {v u : V} {b : Bool} (e : eqS x y = some b) (dx : DV K H x v) (dy : DV K H y u) : flatV v = true ∧ flatV u = true ∧ eqV v u = b := by
  cases x <;> cases y <;> simp [eqS] at e <;> cases dx <;> cases dy <;> subst e <;> refine ⟨rfl, rfl, ?_⟩ <;> simp [eqV] <;> rfl
theorem inS_V {x : D} {v : V} (dx : DV K H x v) : ∀ {ys : List D} {us : List V} {b : Bool}, inS x ys = some b → DVs K H ys us → us.all flatV = true ∧ inV v us = b ∧ (us ≠ [] → flatV v = true)
  | _, _, _, e, .nil => by cases e; exact ⟨rfl, rfl, fun z => absurd rfl z⟩
  | _, _, _, e, .cons dy r => by
    unfold inS at e
    split at e
    · rename_i a b e1 e2
      cases e
      obtain ⟨f1, f2, f3⟩ := eqS_V e1 dy dx
      obtain ⟨g1, g2, _⟩ := inS_V dx e2 r
      refine ⟨by rw [List.all_cons, f1, g1]; rfl, ?_, fun _ => f2⟩
      unfold inV at g2 ⊢
      rw [List.any_cons, f3, g2]
    · cases e
theorem lf_in3 : Lift2 K (inD3 id) (rInU K) := by
  intro x y S H Q' Q v u rh dx dy h q
  have fin : (lsv y S fun ys => okE x ∧ okE (.tup ys) ∧ Q' (.bl (id ((pds ys).any fun z => PyData.eqv z (pd x)))) S) → rInU K v u H Q := fun h => by
    obtain ⟨a, ys, us, rfl, s, r, ⟨⟨p1, s1⟩, ⟨p2, s2⟩, h⟩, _⟩ := rh.lsv dy h
    exact .inr ⟨pd x, pds ys, DV.dp _ _ p1 dx, .lst s (DVs.dp _ _ (by simpa [pur] using p2) r), s1, by rw [shaped_list]; simpa [pd] using s2, q.here rh (.bl _) h⟩
  cases y with
  | tup ys =>
    cases dy with | tup s r =>
    obtain ⟨b, ne, e, h⟩ := h
    obtain ⟨f1, f2, f3⟩ := inS_V dx e r
    refine .inl ⟨_, _, rfl, .inr s, f3 (by cases r with | nil => exact absurd rfl ne | cons _ _ => simp), f1, by simp only [Bool.false_eq_true, if_false]; rw [f2]; exact q.here rh (.bl _) h⟩
  | _ => exact fin h
theorem lf_notIn3 : Lift2 K (inD3 not) (rNotInU K) := by
  intro x y S H Q' Q v u rh dx dy h q
  have fin : (lsv y S fun ys => okE x ∧ okE (.tup ys) ∧ Q' (.bl (not ((pds ys).any fun z => PyData.eqv z (pd x)))) S) → rNotInU K v u H Q := fun h => by
    obtain ⟨a, ys, us, rfl, s, r, ⟨⟨p1, s1⟩, ⟨p2, s2⟩, h⟩, _⟩ := rh.lsv dy h
    exact .inr ⟨pd x, pds ys, DV.dp _ _ p1 dx, .lst s (DVs.dp _ _ (by simpa [pur] using p2) r), s1, by rw [shaped_list]; simpa [pd] using s2, q.here rh (.bl _) h⟩
  cases y with
  | tup ys =>
    cases dy with | tup s r =>
    obtain ⟨b, ne, e, h⟩ := h
    obtain ⟨f1, f2, f3⟩ := inS_V dx e r
    refine .inl ⟨_, _, rfl, .inr s, f3 (by cases r with | nil => exact absurd rfl ne | cons _ _ => simp), f1, by simp only [if_true]; rw [f2]; exact q.here rh (.bl _) h⟩
  | _ => exact fin h
end
section
variable {S : Hq} {Q : Qv} {g : Bool → Bool} {xs : List D} {p : Addr} {x : D}
theorem n_t : inD3 g x (.tup xs) S Q = ∃ b, xs ≠ [] ∧ inS x xs = some b ∧ Q (.bl (g b)) S := rfl
theorem n_r : inD3 g x (.ref p) S Q = ∃ ys, S p = some (.lst ys) ∧ okE x ∧ okE (.tup ys) ∧ Q (.bl (g ((pds ys).any fun z => PyData.eqv z (pd x)))) S := rfl
theorem n_k : inD3 g x (.kl xs) S Q = (okE x ∧ okE (.tup xs) ∧ Q (.bl (g ((pds xs).any fun z => PyData.eqv z (pd x)))) S) := rfl
theorem is_s {z : Str} : inS x [.str z] = match eqS (.str z) x with | some a => some (a || false) | none => none := by
  unfold inS; cases eqS (.str z) x <;> rfl
theorem is_c {z : Str} {y : D} {r : List D} : inS (.str z) (y :: r) = (match eqS y (.str z), inS (.str z) r with | some a, some b => some (a || b) | _, _ => none) := rfl
theorem is_n : inS x [] = some false := rfl
theorem es_ss {a b : Str} : eqS (.str a) (.str b) = some (decide (a = b)) := rfl
theorem es_ii {a b : Int} : eqS (.int a) (.int b) = some (decide (a = b)) := rfl
end
/-! ### text * int, ljust with a sign -/
def repS (z : Str) (n : Int) : Str := ⟨(List.replicate n.toNat z.cps.toList).flatten.toArray⟩
theorem fold_app (z : Array Nat) : ∀ (n : Nat) (a : Array Nat), (List.replicate n z).foldl (· ++ ·) a = a ++ (List.replicate n z.toList).flatten.toArray
  | 0, a => by simp
  | n + 1, a => by
    rw [List.replicate_succ, List.foldl_cons, fold_app z n, List.replicate_succ, List.flatten_cons]
    apply Array.ext'
    simp
theorem op_mulS {X : Cx} : OpR X (binaryOp .Mult) (fun x y H Q => ∃ z n, x = .str z ∧ y = .int n ∧ z.length = 1 ∧ -1000 ≤ n ∧ n ≤ 1000 ∧ Q (.str (repS z n)) H) := by
  intro pins s σ H x y v u Q I rx ry h
  obtain ⟨z, n, rfl, rfl, hz, h0, h1, q⟩ := h
  obtain ⟨t, rfl⟩ := rx
  obtain ⟨t2, rfl⟩ := ry
  refine PySem.P.mul_str (by simp; omega) (fun a b => ?_) (fun a b => ?_) ?_
  · rw [hz]
    have : n ≤ 1000 := h1
    have : (2 ^ 63 - 1) / n ≥ (2 ^ 63 - 1) / 1000 := by
      apply Int.le_of_lt_add_one
      have hn : 0 < n := by omega
      have := Int.ediv_mul_le (2 ^ 63 - 1) (by omega : n ≠ 0)
      rw [← Int.not_le]
      intro c
      have e1 := Int.lt_ediv_add_one_mul_self (2 ^ 63 - 1) hn
      have e2 : ((2 ^ 63 - 1) / n + 1) * n ≤ ((2 ^ 63 - 1) / 1000) * n := Int.mul_le_mul_of_nonneg_right c (by omega)
      have e3 : ((2 ^ 63 - 1) / 1000 : Int) * n ≤ ((2 ^ 63 - 1) / 1000) * 1000 := Int.mul_le_mul_of_nonneg_left h1 (by decide)
      have e4 : ((2 ^ 63 - 1) / 1000 : Int) * 1000 ≤ 2 ^ 63 - 1 := by decide
      omega
    have e5 : ((2 ^ 63 - 1) / 1000 : Int) ≥ 1 := by decide
    omega
  · rw [hz]
    have : n.toNat ≤ 1000 := by omega
    unfold Builtin.Str.tooLong
    have := sizeLine_eq
    rw [sizeLine_eq]
    simp
    omega
  · have fold : (⟨(List.replicate n.toNat z.cps).foldl (· ++ ·) #[]⟩ : Str) = repS z n := by
      rw [fold_app]; unfold repS; simp
    have len : (repS z n).length ≤ sizeLine := by
      have : n.toNat ≤ 1000 := by omega
      have h2 : z.cps.toList.length = 1 := by simpa [Str.length] using hz
      unfold repS Str.length
      simp [h2]
      rw [sizeLine_eq]; omega
    by_cases c : n < 1
    · rw [if_pos c]
      have e : repS z n = Str.empty := by
        have e : n.toNat = 0 := by omega
        unfold repS
        rw [e]
        rfl
      rw [e] at q
      exact ⟨by decide, .str Str.empty, H, I.tok _, ⟨_, rfl⟩, q⟩
    · rw [if_neg c]
      by_cases d : (n == 1 || z.length == 0) = true
      · rw [if_pos d]
        have e : n = 1 := by simp [hz] at d; exact d
        have e2 : repS z n = z := by subst e; unfold repS; simp
        rw [e2] at q
        exact ⟨.str z, H, I.tok _, ⟨_, rfl⟩, q⟩
      · rw [if_neg d, fold]
        exact ⟨by first | exact len | (unfold Builtin.Str.tooLong; simp; exact len) | trace_state, .str (repS z n), H, I.tok _, ⟨_, rfl⟩, q⟩
def mulM : R2q := fun x y S Q => match x, y with
  | .int i, .int j => CMul' i j ∧ Q (.int (i * j)) S
  | .str z, .int n => z.length = 1 ∧ -1000 ≤ n ∧ n ≤ 1000 ∧ Q (.str (repS z n)) S
  | _, _ => False
def rMulU : R2 := fun x y H Q => rI CMul (fun i j => .int (i * j)) x y H Q ∨ (∃ z n, x = .str z ∧ y = .int n ∧ z.length = 1 ∧ -1000 ≤ n ∧ n ≤ 1000 ∧ Q (.str (repS z n)) H)
theorem op_mul3 {X : Cx} : OpR X (binaryOp .Mult) rMulU := opr_or op_mul op_mulS
theorem lf_mul3 {K : PySem.W.Frag} : Lift2 K mulM rMulU := by
  intro x y S H Q' Q v u rh dx dy h q
  cases x <;> cases y <;> try exact h.elim
  · exact .inl (lf_mul _ _ S H Q' Q v u rh dx dy h q)
  · cases dx; cases dy
    obtain ⟨a, b, c, h⟩ := h
    exact .inr ⟨_, _, rfl, rfl, a, b, c, q.here rh (.str _) h⟩
section
variable {S : Hq} {Q : Qv} {i j : Int} {z : Str}
theorem u_ii : mulM (.int i) (.int j) S Q = (CMul' i j ∧ Q (.int (i * j)) S) := rfl
theorem u_si : mulM (.str z) (.int i) S Q = (z.length = 1 ∧ -1000 ≤ i ∧ i ≤ 1000 ∧ Q (.str (repS z i)) S) := rfl
end
def ljD (x : D) (ds : List D) (S : Hq) (Q : Qv) : Prop := match x, ds with
  | .str z, [.int i, .str f] => 0 ≤ i ∧ i ≤ 1000 ∧ f.length = 1 ∧ Q (.str (Txt.ljustF z i (f.cps.getD 0 0))) S
  | _, _ => False
def rLj : V → List V → Hp → VK → Prop := fun x xs H Q => ∃ (a f : Str) (i : Int), x = .str a ∧ xs = [.int i, .str f] ∧ PadOk i = true ∧ f.length = 1 ∧ Q (.str (Txt.ljustF a i (f.cps.getD 0 0))) H
theorem mt_lj {X : Cx} : MtR X "str.ljust" rLj := by
  intro pins s σ H x xs v us Q I rx rs h
  obtain ⟨a, f, i, rfl, rfl, hc, hf, h⟩ := h
  obtain ⟨t, rfl⟩ := rx
  cases rs with
  | cons r1 rs =>
    cases rs with
    | cons r2 rs =>
      cases rs
      obtain ⟨u, rfl⟩ := r1
      obtain ⟨w, rfl⟩ := r2
      exact ljust_fill hc hf fun t' k => ⟨.str (Txt.ljustF a i (f.cps.getD 0 0)), H, I.tok k, ⟨t', rfl⟩, h⟩
theorem lm_lj {K : PySem.W.Frag} : LiftM K ljD rLj := by
  intro x ds S H Q' Q v vs rh dx dv h q
  match x, ds, dx, dv, h with
  | .str z, [.int i, .str f], .str _, .cons (.int _) (.cons (.str _) .nil), h =>
    obtain ⟨h0, h1, hf, h⟩ := h
    refine ⟨z, f, i, rfl, rfl, ?_, hf, q.here rh (.str _) h⟩
    unfold PadOk Builtin.Str.tooLong fitsSsize
    rw [sizeLine_eq]
    simp
    omega
theorem lj_1 {S : Hq} {Q : Qv} {z f : Str} {i : Int} : ljD (.str z) [.int i, .str f] S Q = (0 ≤ i ∧ i ≤ 1000 ∧ f.length = 1 ∧ Q (.str (Txt.ljustF z i (f.cps.getD 0 0))) S) := rfl
end Y
namespace Y
open PySem PySem.Spec PyProof.Rows L2
section
variable {S : Hq} {Q : Qv} {p : Addr} {xs : List D} {i : Int} {b : Bool} {z : Str}
theorem fz_r : fzD (.ref p) S Q = ∃ xs, S p = some (.lst xs) ∧ Q (.kl xs) (rm S p) := rfl
theorem fz_k : fzD (.kl xs) S Q = Q (.kl xs) S := rfl
theorem fz_t : fzD (.tup xs) S Q = Q (.tup xs) S := rfl
theorem fz_n : fzD .non S Q = Q .non S := rfl
theorem fz_b : fzD (.bl b) S Q = Q (.bl b) S := rfl
theorem fz_s : fzD (.str z) S Q = Q (.str z) S := rfl
theorem q_lstK {xs : List D} {S : Hq} {R : List D → (Hq → Prop) → Hq → Prop} : lstD (.kl xs) S R = R xs (fun _ => True) S := rfl
theorem q_truK {f : Bool → Prop} : truD (.kl xs) S f = f (!xs.isEmpty) := rfl
theorem t_kl : tyN (.kl xs) S = some "list" := rfl
theorem q_isiK {n : String} : isiD [.kl xs, .ty n] S Q = isiR "list" n S Q := rfl
end
theorem Nx.rm {b p : Addr} {S S' : Hq} (n : Nx b S S') (hp : S p = none) (ne : p ≠ b) : Nx b S (Y.rm S' p) :=
  ⟨let ⟨g, s, e⟩ := n.bx; ⟨g, s, by rw [rm_ne (Ne.symm ne)]; exact e⟩, fun a o na h => by rw [rm_ne (ne_get h hp)]; exact n.old a o na h⟩
end Y
/-! ### a source that is a tuple or a list -/
namespace Y
open PySem PySem.Spec PyProof.Rows L2
theorem pi_or {X : Cx} {tg e : Expr} {a b : TI} (h : PI X tg e a) (h2 : PI X tg e b) : PI X tg e (fun σ H R => a σ H R ∨ b σ H R) := ⟨fun pins s σ H R I k => by
  rcases k with k | k
  · exact h.run pins s σ H R I k
  · exact h2.run pins s σ H R I k⟩
theorem ei_or {X : Cx} {W : WX} {tg e : Expr} {r s : RI} (h : EI X W tg e r) (h2 : EI X W tg e s) : EI X W tg e (fun σ S R E => r σ S R E ∨ s σ S R E) := by
  obtain ⟨wi, p, l⟩ := h.ex
  obtain ⟨wi2, p2, l2⟩ := h2.ex
  refine ⟨_, pi_or p p2, fun σ σ' H S R R' E' rs rh h q xi => ?_⟩
  rcases h with h | h
  · exact .inl (l σ σ' H S R R' E' rs rh h q xi)
  · exact .inr (l2 σ σ' H S R R' E' rs rh h q xi)
def iAny (r : RE) : RI := fun σ S R E => iSeq r σ S R E ∨ iLst r σ S R E
theorem ei_any {X : Cx} {W : WX} {tg e : Expr} {r : RE} (h : EV X W e r) : EI X W tg e (iAny r) := ei_or (ei_seq h) (ei_lst h)
section
variable {S : Hq} {xs : List D} {p : Addr} {R : List D → (Hq → Prop) → Hq → Prop}
theorem sq_k : seqD (.kl xs) S R = False := rfl
theorem sq_r : seqD (.ref p) S R = False := rfl
theorem ls_t : lstD (.tup xs) S R = False := rfl
end
/-! ### texts of 0 and 1 -/
def bit (b : Bool) : Nat := if b then 49 else 48
def tx (w : List Bool) : Str := ⟨(w.map bit).toArray⟩
def sx (w : List Bool) : D := .str (tx w)
theorem tx_list {w : List Bool} : (tx w).cps.toList = w.map bit := by unfold tx; simp
theorem tx_len {w : List Bool} : (tx w).length = w.length := by unfold tx Str.length; simp
theorem bit_inj {a b : Bool} (h : bit a = bit b) : a = b := by cases a <;> cases b <;> simp [bit] at h ⊢
theorem map_bit_inj : ∀ {a b : List Bool}, a.map bit = b.map bit → a = b
  | [], [], _ => rfl
  | [], _ :: _, h => by simp at h
  | _ :: _, [], h => by simp at h
  | x :: a, y :: b, h => by
    simp only [List.map_cons, List.cons.injEq] at h
    rw [bit_inj h.1, map_bit_inj h.2]
theorem str_ext {a b : Str} (h : a.cps.toList = b.cps.toList) : a = b := by cases a; cases b; simp only at h; congr 1; exact Array.ext' h
theorem tx_inj {a b : List Bool} : tx a = tx b ↔ a = b := ⟨fun h => map_bit_inj (by rw [← tx_list, ← tx_list, h]), fun h => by rw [h]⟩
theorem tx_app {a b : List Bool} : tx a ++ tx b = tx (a ++ b) := by
  apply str_ext
  show ((tx a).cps ++ (tx b).cps).toList = _
  rw [Array.toList_append, tx_list, tx_list, tx_list, List.map_append]
theorem tx_0 : Str.ofString "0" = tx [false] := by decide +kernel
theorem tx_1 : Str.ofString "1" = tx [true] := by decide +kernel
theorem tx_e : Str.ofString "" = tx [] := by decide +kernel
theorem pre_map : ∀ {a b : List Bool}, ((a.map bit).take b.length == b.map bit) = (decide (b.length ≤ a.length) && b.isPrefixOf a || (decide (a.length < b.length) && (a.map bit == b.map bit)))
  | a, [] => by simp
  | [], y :: b => by simp
  | x :: a, y :: b => by
    have ih := @pre_map a b
    simp only [List.map_cons, List.length_cons, List.take_succ_cons, List.isPrefixOf]
    have e1 : (bit x :: List.take b.length (List.map bit a) == bit y :: List.map bit b) = ((bit x == bit y) && (List.take b.length (List.map bit a) == List.map bit b)) := rfl
    have e2 : (bit x :: List.map bit a == bit y :: List.map bit b) = ((bit x == bit y) && (List.map bit a == List.map bit b)) := rfl
    rw [e1, e2, ih]
    have e3 : (bit x == bit y) = (y == x) := by cases x <;> cases y <;> rfl
    rw [e3]
    have h1 : decide (b.length + 1 ≤ a.length + 1) = decide (b.length ≤ a.length) := by simp
    have h2 : decide (a.length + 1 < b.length + 1) = decide (a.length < b.length) := by simp
    rw [h1, h2]
    cases (y == x) <;> simp
theorem tx_sw {a b : List Bool} : Txt.startswith (tx a) (tx b) = b.isPrefixOf a := by
  unfold Txt.startswith
  rw [PySem.StrLaws.subAt_eq, tx_len, tx_len, tx_list, tx_list, List.drop_zero, pre_map]
  by_cases h : b.length ≤ a.length
  · have : ¬ a.length < b.length := by omega
    simp [h, this]
  · have h2 : b.isPrefixOf a = false := by
      cases e : b.isPrefixOf a with
      | false => rfl
      | true => exact absurd (List.IsPrefix.length_le (List.isPrefixOf_iff_prefix.mp e)) h
    simp [h2]; omega
theorem cutS_to {z : Str} {k : Int} (h : 0 ≤ k) : cutS z none (some k) = ⟨(z.cps.toList.take k.toNat).toArray⟩ := by
  obtain ⟨j, rfl⟩ := Int.eq_ofNat_of_zero_le h
  unfold cutS
  have e : z.length = z.cps.toList.length := by unfold Str.length; simp
  rw [e, HT.sIx_none, HT.sIx_nat, List.drop_zero, Nat.sub_zero, Int.toNat_natCast]
  by_cases c : j ≤ z.cps.toList.length
  · rw [Nat.min_eq_left c]
  · rw [Nat.min_eq_right (by omega), List.take_length, List.take_of_length_le (by omega)]
theorem cutS_from {z : Str} {k : Int} (h : 0 ≤ k) : cutS z (some k) none = ⟨(z.cps.toList.drop k.toNat).toArray⟩ := by
  obtain ⟨j, rfl⟩ := Int.eq_ofNat_of_zero_le h
  unfold cutS
  have e : z.length = z.cps.toList.length := by unfold Str.length; simp
  rw [e, HT.sIx_none, HT.sIx_nat, Int.toNat_natCast]
  by_cases c : j ≤ z.cps.toList.length
  · rw [Nat.min_eq_left c, List.take_of_length_le (by simp)]
  · rw [Nat.min_eq_right (by omega), List.drop_length, List.drop_of_length_le (by omega)]; simp
theorem tx_cut {w : List Bool} {k : Int} (h : 0 ≤ k) : cutS (tx w) none (some k) = tx (w.take k.toNat) := by
  rw [cutS_to h, tx_list]; unfold tx; rw [List.map_take]
theorem tx_cutN {w : List Bool} {k : Nat} : cutS (tx w) none (some (k : Int)) = tx (w.take k) := by rw [tx_cut (by omega)]; simp
theorem tx_drop {w : List Bool} {k : Int} (h : 0 ≤ k) : cutS (tx w) (some k) none = tx (w.drop k.toNat) := by
  rw [cutS_from h, tx_list]; unfold tx; rw [List.map_drop]
theorem tx_join : ∀ {ws : List (List Bool)}, Txt.join (tx []) (ws.map tx) = tx ws.flatten := by
  intro ws
  unfold Txt.join
  rw [PySem.StrLaws.glued_eq_join]
  induction ws with
  | nil => rfl
  | cons w r ih =>
    cases r with
    | nil => simp [Str.join]
    | cons w2 r =>
      rw [List.map_cons, List.map_cons, Str.join, ← List.map_cons, ih, tx_app, tx_app]
      · simp
      · simp
theorem tx_lj {w : List Bool} {k : Int} : Txt.ljustF (tx w) k 48 = tx (w ++ List.replicate (k.toNat - w.length) false) := by
  apply str_ext
  rw [ljustF_list, tx_list, tx_list, tx_len, List.map_append, List.map_replicate]
  rfl
theorem tx_rep {n : Int} : repS (tx [false]) n = tx (List.replicate n.toNat false) := by
  unfold repS
  rw [tx_list]
  apply str_ext
  rw [tx_list, List.map_replicate]
  show (List.replicate n.toNat [bit false]).flatten.toArray.toList = _
  simp
theorem strs_sx : ∀ {ws : List (List Bool)}, strsD (ws.map sx) = some (ws.map tx)
  | [] => rfl
  | w :: r => by rw [List.map_cons]; show (strsD (r.map sx)).map _ = _; rw [strs_sx]; rfl
/-- all texts of n signs, in their order -/
def allW : Nat → List (List Bool)
  | 0 => [[]]
  | n + 1 => (allW n).map (false :: ·) ++ (allW n).map (true :: ·)
theorem allW_len : ∀ {n : Nat} {w : List Bool}, w ∈ allW n ↔ w.length = n
  | 0, w => by unfold allW; simp
  | n + 1, w => by
    unfold allW
    rw [List.mem_append, List.mem_map, List.mem_map]
    constructor
    · rintro (⟨v, h, rfl⟩ | ⟨v, h, rfl⟩) <;> rw [List.length_cons, allW_len.mp h]
    · intro h
      cases w with
      | nil => simp at h
      | cons b v =>
        have hv : v ∈ allW n := allW_len.mpr (by simpa using h)
        cases b
        · exact .inl ⟨v, hv, rfl⟩
        · exact .inr ⟨v, hv, rfl⟩
end Y
namespace Y
open PySem PySem.Spec PyProof.Rows L2
/-! ### comprehensions that keep all as it is -/
theorem lc_gen {α : Type} {gd : Hq → Prop} {g : RG} {tt : RT} {te : RE} {vs : List Nat} {σ : Sg} {Qf : List D → Hq → Prop} {S : Hq} (e : α → D) (τ : α → Sg) (f : α → Bool) (k : α → D) (hg : gd S) : ∀ (ws : List α) (acc : List D),
    (∀ a ∈ ws, ∀ N : Sg → Hq → Prop, N (τ a) S → g (e a) (wipeD σ vs) S N NoX) →
    (∀ a ∈ ws, ∀ Q : Bool → Hq → Prop, Q (f a) S → tt (τ a) S Q NoX) → (∀ a ∈ ws, f a = true → ∀ Q : Qv, Q (k a) S → te (τ a) S Q NoX) → acc.length + ws.length ≤ 1000000 →
    Qf (acc ++ (ws.filter f).map k) S → lcP gd g tt te vs σ Qf (ws.map e) acc S
  | [], acc, _, _, _, _, q => ⟨hg, by simpa using q⟩
  | a :: r, acc, h0, h1, h2, hz, q => by
    refine ⟨hg, ?_⟩
    refine h0 a (by simp) _ ?_
    refine h1 a (by simp) _ ?_
    by_cases c : f a = true
    · rw [if_pos c]
      refine h2 a (by simp) c _ ⟨by simp at hz; omega, ?_⟩
      refine lc_gen e τ f k hg r _ (fun b m => h0 b (by simp [m])) (fun b m => h1 b (by simp [m])) (fun b m => h2 b (by simp [m])) (by simp at hz ⊢; omega) ?_
      rw [List.filter_cons_of_pos c] at q
      simpa using q
    · rw [if_neg c]
      refine lc_gen e τ f k hg r _ (fun b m => h0 b (by simp [m])) (fun b m => h1 b (by simp [m])) (fun b m => h2 b (by simp [m])) (by simp at hz ⊢; omega) ?_
      rw [List.filter_cons_of_neg c] at q
      exact q
/-- one name -/
theorem lc_ft {α : Type} {gd : Hq → Prop} {tt : RT} {te : RE} {i : Nat} {σ : Sg} {Qf : List D → Hq → Prop} {S : Hq} (e : α → D) (f : α → Bool) (k : α → D) (hg : gd S) (ws : List α)
    (h1 : ∀ a ∈ ws, ∀ Q : Bool → Hq → Prop, Q (f a) S → tt ((wipeD σ [i]).set i (some (e a))) S Q NoX) (h2 : ∀ a ∈ ws, f a = true → ∀ Q : Qv, Q (k a) S → te ((wipeD σ [i]).set i (some (e a))) S Q NoX) (hz : ws.length ≤ 1000000)
    (q : Qf ((ws.filter f).map k) S) : lcP gd (gNm i) tt te [i] σ Qf (ws.map e) [] S :=
  lc_gen e (fun a => (wipeD σ [i]).set i (some (e a))) f k hg ws [] (fun _ _ _ n => n) h1 h2 (by simpa using hz) (by simpa using q)
/-- one name, no test -/
theorem lc_mp {α : Type} {gd : Hq → Prop} {te : RE} {i : Nat} {σ : Sg} {Qf : List D → Hq → Prop} {S : Hq} (e : α → D) (k : α → D) (hg : gd S) (ws : List α)
    (h2 : ∀ a ∈ ws, ∀ Q : Qv, Q (k a) S → te ((wipeD σ [i]).set i (some (e a))) S Q NoX) (hz : ws.length ≤ 1000000)
    (q : Qf (ws.map k) S) : lcP gd (gNm i) rYes te [i] σ Qf (ws.map e) [] S :=
  lc_ft e (fun _ => true) k hg ws (fun _ _ _ q => q) (fun a m _ => h2 a m) hz (by rw [List.filter_eq_self.mpr (fun _ _ => rfl)]; exact q)
/-! ### plain data without bools -/
inductive Nb : Nat → D → Prop
  | non {n : Nat} : Nb n .non
  | int {n : Nat} (i : Int) : Nb n (.int i)
  | str {n : Nat} (z : Str) (h : PyData.strOk z = true) : Nb n (.str z)
  | tup {n : Nat} {xs : List D} (h : ∀ x ∈ xs, Nb n x) : Nb (n + 1) (.tup xs)
theorem Nb.pur {n : Nat} {d : D} (h : Nb n d) : pur d = true := by
  induction h with
  | non => rfl
  | int i => rfl
  | str z h => rfl
  | @tup n xs h ih =>
    show purs xs = true
    clear h
    induction xs with
    | nil => rfl
    | cons a r ih2 => show (Y.pur a && purs r) = true; rw [ih a (by simp), ih2 fun x m => ih x (by simp [m])]; rfl
theorem Nb.lay {n : Nat} {d : D} (h : Nb n d) : (pd d).canLay0 = true ∧ (pd d).depth ≤ n := by
  induction h with
  | non => exact ⟨by simp [pd, PyData.canLay0], by simp [pd, PyData.depth]⟩
  | int i => exact ⟨by simp [pd, PyData.canLay0], by simp [pd, PyData.depth]⟩
  | str z h => exact ⟨by simpa [pd, PyData.canLay0] using h, by simp [pd, PyData.depth]⟩
  | @tup n xs h ih =>
    have key : PyData.canLayAll0 (pds xs) = true ∧ PyData.depthAll (pds xs) ≤ n := by
      clear h
      induction xs with
      | nil => exact ⟨rfl, Nat.zero_le _⟩
      | cons a r ih2 =>
        obtain ⟨h1, h2⟩ := ih a (by simp)
        obtain ⟨h3, h4⟩ := ih2 fun x m => ih x (by simp [m])
        refine ⟨?_, ?_⟩
        · show ((pd a).canLay0 && PyData.canLayAll0 (pds r)) = true
          rw [h1, h3]; rfl
        · show max ((pd a).depth) (PyData.depthAll (pds r)) ≤ n
          omega
    obtain ⟨a, b⟩ := key
    exact ⟨by simpa [pd, PyData.canLay0] using a, by simp only [pd, PyData.depth]; omega⟩
theorem Nb.ok {n : Nat} {d : D} (h : Nb n d) (hn : n ≤ 64) : okE d := ⟨h.pur, by
  obtain ⟨a, b⟩ := h.lay
  unfold SeqAt.shaped
  rw [a]
  simpa using Nat.le_trans b hn⟩
theorem Nb.eqv {n m : Nat} {x y : D} (h : Nb n x) (h2 : Nb m y) : PyData.eqv (pd x) (pd y) = true ↔ x = y := by
  induction h generalizing m y with
  | non => cases h2 <;> simp [pd, PyData.eqv]
  | int i => cases h2 <;> simp [pd, PyData.eqv]
  | str z h => cases h2 <;> simp [pd, PyData.eqv]
  | @tup n xs h ih =>
    cases h2 with
    | non => simp [pd, PyData.eqv]
    | int i => simp [pd, PyData.eqv]
    | str z h => simp [pd, PyData.eqv]
    | @tup m ys h2 =>
      have e : PyData.eqv (pd (.tup xs)) (pd (.tup ys)) = PyData.eqvAll (pds xs) (pds ys) := by simp [pd, PyData.eqv]
      rw [e, D.tup.injEq]
      clear e h
      induction xs generalizing ys with
      | nil => cases ys <;> simp [pds, PyData.eqvAll]
      | cons a r ih2 =>
        cases ys with
        | nil => simp [pds, PyData.eqvAll]
        | cons b s =>
          show (PyData.eqv (pd a) (pd b) && PyData.eqvAll (pds r) (pds s)) = true ↔ _
          have k1 := ih a (by simp) (h2 b (by simp))
          have k2 : PyData.eqvAll (pds r) (pds s) = true ↔ r = s := ih2 (fun x hx => ih x (List.mem_cons_of_mem _ hx)) (fun x hx => h2 x (List.mem_cons_of_mem _ hx))
          rw [Bool.and_eq_true, k1, k2, List.cons.injEq]
theorem Nb.eqvAll {n m : Nat} {xs ys : List D} (h : ∀ x ∈ xs, Nb n x) (h2 : ∀ x ∈ ys, Nb m x) : PyData.eqvAll (pds xs) (pds ys) = true ↔ xs = ys := by
  have k := Nb.eqv (Nb.tup h) (Nb.tup h2)
  have e : PyData.eqv (pd (.tup xs)) (pd (.tup ys)) = PyData.eqvAll (pds xs) (pds ys) := by simp [pd, PyData.eqv]
  rw [e, D.tup.injEq] at k
  exact k
theorem Nb.any {n m : Nat} {ys : List D} {x : D} (h : ∀ y ∈ ys, Nb n y) (h2 : Nb m x) : ((pds ys).any fun z => PyData.eqv z (pd x)) = true ↔ x ∈ ys := by
  induction ys with
  | nil => simp [pds]
  | cons a r ih =>
    show (PyData.eqv (pd a) (pd x) || ((pds r).any fun z => PyData.eqv z (pd x))) = true ↔ _
    rw [Bool.or_eq_true, Nb.eqv (h a (by simp)) h2, ih fun y m => h y (by simp [m]), List.mem_cons]
    constructor
    · rintro (e | e)
      · exact .inl e.symm
      · exact .inr e
    · rintro (e | e)
      · exact .inl e.symm
      · exact .inr e
theorem tx_ok {w : List Bool} : PyData.strOk (tx w) = true := by
  unfold PyData.strOk
  rw [Array.all_eq_true']
  intro x hx
  have : x ∈ (tx w).cps.toList := Array.mem_toList_iff.mpr hx
  rw [tx_list] at this
  obtain ⟨b, _, rfl⟩ := List.mem_map.mp this
  cases b <;> decide
theorem Nb_sx {n : Nat} {w : List Bool} : Nb n (sx w) := .str _ tx_ok
theorem Nb_ints {n : Nat} {ns : List Int} : Nb (n + 1) (.tup (ns.map D.int)) := .tup fun x hx => by
  obtain ⟨i, _, rfl⟩ := List.mem_map.mp hx
  exact .int i
end Y
namespace Y
open PySem PySem.Spec PyProof.Rows L2
theorem ltc_iff : ∀ {a b : List Nat}, ltCps a b = true ↔ a < b
  | [], [] => by simp [ltCps]
  | [], _ :: _ => by simp [ltCps]
  | _ :: _, [] => by simp [ltCps]
  | x :: a, y :: b => by
    unfold ltCps
    rw [Bool.or_eq_true, Bool.and_eq_true, decide_eq_true_eq, beq_iff_eq, ltc_iff, List.cons_lt_cons_iff]
theorem leS_of : ∀ {x : Str} {l : List Str}, risingS x l = true → ∀ y ∈ l, ¬ y.cps.toList < x.cps.toList
  | x, [], _, y, h => by simp at h
  | x, z :: r, h, y, hy => by
    unfold risingS at h
    rw [Bool.and_eq_true, Bool.not_eq_true', Bool.eq_false_iff] at h
    have h1 : ¬ z.cps.toList < x.cps.toList := fun c => h.1 (ltc_iff.mpr c)
    rcases List.mem_cons.mp hy with rfl | hy
    · exact h1
    · have h2 := leS_of h.2 y hy
      rw [List.not_lt] at h1 h2 ⊢
      exact List.le_trans h1 h2
theorem sortedS_pw : ∀ {l : List Str}, sortedS l = true → l.Pairwise (fun a b => ¬ b.cps.toList < a.cps.toList)
  | [], _ => .nil
  | x :: r, h => .cons (fun y hy => leS_of h y hy) (by
    cases r with
    | nil => exact .nil
    | cons z r =>
      refine sortedS_pw (l := z :: r) ?_
      have h : risingS x (z :: r) = true := h
      unfold risingS at h
      rw [Bool.and_eq_true] at h
      exact h.2)
theorem sortedS_same {a b : List Str} (hp : a.Perm b) (ha : sortedS a = true) (hb : sortedS b = true) : a = b :=
  List.Perm.eq_of_pairwise (le := fun a b : Str => ¬ b.cps.toList < a.cps.toList) (fun x y _ _ h1 h2 => str_ext (List.le_antisymm (List.not_lt.mp h1) (List.not_lt.mp h2))) (sortedS_pw ha) (sortedS_pw hb) hp
end Y
namespace Y
open PySem PySem.Spec PyProof.Rows L2
theorem rSeq_eq {t u : RSt} {D : En} {σ : Sg} {S : Hq} : rSeq t u D σ S = t { D with nx := u D } σ S := rfl
/-- what holds between two statements -/
theorem rSeq_cut {t u : RSt} {D : En} {σ : Sg} {S : Hq} (M : Sg → Hq → Prop) (h2 : ∀ σ S, M σ S → u D σ S) (h1 : ∀ K : Sg → Hq → Prop, (∀ σ S, M σ S → K σ S) → t { D with nx := K } σ S) : rSeq t u D σ S := h1 _ h2
theorem eraseIdx_map' {α β : Type} (f : α → β) : ∀ (l : List α) (i : Nat), (l.map f).eraseIdx i = (l.eraseIdx i).map f
  | [], _ => rfl
  | _ :: _, 0 => rfl
  | a :: r, i + 1 => by rw [List.map_cons, List.eraseIdx_cons_succ, List.eraseIdx_cons_succ, List.map_cons, eraseIdx_map']
end Y
namespace Y
open PySem PySem.Spec PyProof.Rows L2
theorem cut_nx {t : RSt} {D : En} {σ : Sg} {S : Hq} (M : Sg → Hq → Prop) (h2 : ∀ σ S, M σ S → D.nx σ S) (h1 : ∀ K : Sg → Hq → Prop, (∀ σ S, M σ S → K σ S) → t { D with nx := K } σ S) : t D σ S := h1 _ h2
end Y
/-! ### enumerate, whatever it goes over -/
namespace Y.En2
open PySem PyProof.Rows
/-- what an enumerate object draws from -/
structure Inn (prog : Program) (w : World) (it : Addr) (P : Heap → Nat → Prop) (itm : Nat → Option (Tok → Value)) (tk : Nat) (Ap : Addr → Prop) : Prop where
  item : ∀ (A : Around) (E : Value → Shared → Prop) (s : Shared) (i : Nat) (f : Tok → Value) (Q : Value → Shared → Prop), P s.heap i → itm i = some f → (∀ g, P g (i + 1) → Heap.SameBut it s.heap g → Q (f s.toks) { s with heap := g, toks := s.toks + tk }) → wpAny (model prog w) A (Builtin.SmallTypes.nextOf (.ref it)) Q E s
  done : ∀ (A : Around) (E : Value → Shared → Prop) (s : Shared) (i : Nat) (Q : Value → Shared → Prop), A.handled = none → P s.heap i → itm i = none → (∀ g x, Heap.ExtBut it s.heap g → (∃ o, g.get? x = some o ∧ o.cls = .type "StopIteration") → E (.ref x) { s with heap := g }) → wpAny (model prog w) A (Builtin.SmallTypes.nextOf (.ref it)) Q E s
  ext : ∀ (h g : Heap) (b : Addr) (i : Nat), P h i → Heap.ExtBut b h g → it ≠ b → Ap b → P g i
  psh : ∀ (h : Heap) (o : Obj) (i : Nat), P h i → P (h.push o) i
section
variable {prog : Program} {w : World} {A : Around} {E : Value → Shared → Prop}
theorem step {e it : Addr} {P : Heap → Nat → Prop} {itm : Nat → Option (Tok → Value)} {tk : Nat} {Ap : Addr → Prop} (N : Inn prog w it P itm tk Ap) (ap : Ap e) {i : Nat} {f : Tok → Value} {old : Value} {s : Shared} {Q : Option Value → Shared → Prop} (he : IsEnum s.heap e it i old) (hP : P s.heap i) (hf : itm i = some f) (ne : e ≠ it)
    (k : ∀ g, IsEnumOut g e it ((i : Int) + 1) (f s.toks) s.heap.objs.size → P g (i + 1) → g.get? s.heap.objs.size = some { cls := .type "tuple", data := .seq #[.int i (s.toks + tk), f s.toks] } → g.objs.size = s.heap.objs.size + 1 →
      (∀ b o, b ≠ e → b ≠ it → s.heap.get? b = some o → g.get? b = some o) → Q (some (.ref s.heap.objs.size)) { s with heap := g, toks := s.toks + tk + 1 }) :
    wpAny (model prog w) A (pyNext (.ref e)) Q E s := by
  have T : s.TypeIs (.ref e) "enumerate" := ⟨_, he, rfl⟩
  unfold pyNext
  refine wpAny_bind (wpAny_attempt (wpAny_callSpecial?_slot (name := Str.ofString "__next__") T F.slot_enumerate_next (wpAny_call_entry F.slot_enumerate_next T F.entry_enumerate_next ?_ (F.args_enumerate_next_1 _))))
  obtain ⟨h0, gs, d, tz, os⟩ := s
  show wpAny _ _ (field (.ref e) 2 >>= _) _ _ ⟨h0, gs, d, tz, os⟩
  refine wpAny_bind (wpAny_field he rfl (x := .ref it) rfl (wpAny_bind (N.item _ _ _ i f _ hP hf fun g1 p1 sb1 => ?_)))
  have sb1' : Heap.SameBut it h0 g1 := sb1
  have e1 : IsEnum g1 e it i old := (sb1'.2 e ne).trans he
  show wpAny _ _ (field (.ref e) 3 >>= _) _ _ ⟨g1, gs, d, tz + tk, os⟩
  refine wpAny_bind (wpAny_field e1 rfl (x := rawInt i) rfl ?_)
  show wpAny _ _ (field (.ref e) 4 >>= _) _ _ ⟨g1, gs, d, tz + tk, os⟩
  refine wpAny_bind (wpAny_field e1 rfl (x := .none) rfl ?_)
  show wpAny _ _ (mkInt i >>= _) _ _ ⟨g1, gs, d, tz + tk, os⟩
  refine wpAny_bind (wpAny_mkInt ?_)
  show wpAny _ _ (setField (.ref e) 3 (rawInt ((i : Int) + 1)) >>= _) _ _ ⟨g1, gs, d, tz + tk + 1, os⟩
  refine wpAny_bind (wpAny_setField_rec e1 (by simp) fun g2 e2 sb2 => ?_)
  have sb2' : Heap.SameBut e g1 g2 := sb2
  have e2' : IsEnum g2 e it ((i : Int) + 1) old := e2
  show wpAny _ _ (setField (.ref e) 4 .none >>= _) _ _ ⟨g2, gs, d, tz + tk + 1, os⟩
  refine wpAny_bind (wpAny_setField_rec e2' (by simp) fun g3 e3 sb3 => ?_)
  have sb3' : Heap.SameBut e g2 g3 := sb3
  have e3' : IsEnum g3 e it ((i : Int) + 1) old := e3
  show wpAny _ _ (newTuple [.int i (tz + tk), f tz] >>= _) _ _ ⟨g3, gs, d, tz + tk + 1, os⟩
  refine wpAny_bind (wpAny_newTuple ?_)
  have z3 : g3.objs.size = h0.objs.size := by rw [sb3'.1, sb2'.1, sb1'.1]
  have el : e < h0.objs.size := Heap.lt_size he
  have p3 : P g3 (i + 1) := N.ext _ _ _ _ (N.ext _ _ _ _ p1 sb2'.extBut (Ne.symm ne) ap) sb3'.extBut (Ne.symm ne) ap
  have keep : ∀ b o, b ≠ e → b ≠ it → h0.get? b = some o → g3.get? b = some o := fun b o n1 n2 q => sb3'.extBut b o n1 (sb2'.extBut b o n1 (sb1'.extBut b o n2 q))
  generalize hg4 : g3.push { cls := .type "tuple", data := .seq #[.int i (tz + tk), f tz] } = g4
  have e4 : IsEnum g4 e it ((i : Int) + 1) old := by rw [← hg4]; exact Heap.get?_push_of_some _ e3'
  have t4 : g4.get? h0.objs.size = some { cls := .type "tuple", data := .seq #[.int i (tz + tk), f tz] } := by rw [← hg4, ← z3]; exact Heap.get?_push_size _ rfl
  have z4 : g4.objs.size = h0.objs.size + 1 := by rw [← hg4, Heap.size_push, z3]
  have p4 : P g4 (i + 1) := by rw [← hg4]; exact N.psh _ _ _ p3
  have keep4 : ∀ b o, b ≠ e → b ≠ it → h0.get? b = some o → g4.get? b = some o := fun b o n1 n2 q => by rw [← hg4]; exact Heap.get?_push_of_some _ (keep b o n1 n2 q)
  show wpAny _ _ (Builtin.SmallTypes.ownedTupleIsFree (.ref e) >>= _) _ _ ⟨g4, gs, d, tz + tk + 1, os⟩
  rw [z3]
  refine wpAny_bind ?_
  unfold Builtin.SmallTypes.ownedTupleIsFree
  refine wpAny_bind (wpAny_field e4 rfl (x := .none) rfl (wpAny_pure ?_))
  simp only [if_true]
  refine wpAny_bind (wpAny_rule (wpAny_bind (wpAny_field e4 rfl (x := old) rfl ?_)))
  refine wpAny_bind (wpAny_setField_rec e4 (by simp) fun g5 e5 sb5 => ?_)
  have sb5' : Heap.SameBut e g4 g5 := sb5
  have e5' : IsEnum g5 e it ((i : Int) + 1) (f tz) := e5
  show wpAny _ _ (Builtin.SmallTypes.ownedTupleHandOut (.ref e) (.ref h0.objs.size) >>= _) _ _ ⟨g5, gs, d, tz + tk + 1, os⟩
  refine wpAny_bind ?_
  unfold Builtin.SmallTypes.ownedTupleHandOut
  refine wpAny_bind (wpAny_setField_rec e5' (by simp) fun g6 e6 sb6 => ?_)
  have sb6' : Heap.SameBut e g5 g6 := sb6
  have e6' : IsEnumOut g6 e it ((i : Int) + 1) (f tz) h0.objs.size := e6
  refine wpAny_setField_rec e6' (by simp) fun g7 e7 sb7 => ?_
  have sb7' : Heap.SameBut e g6 g7 := sb7
  have e7' : IsEnumOut g7 e it ((i : Int) + 1) (f tz) h0.objs.size := e7
  have up3 : ∀ b o, b ≠ e → g4.get? b = some o → g7.get? b = some o := fun b o n q => sb7'.extBut b o n (sb6'.extBut b o n (sb5'.extBut b o n q))
  refine wpAny_bind (wpAny_letGo (wpAny_pure ⟨_, rfl, wpAny_pure (k g7 e7' ?_ ?_ ?_ ?_)⟩))
  · exact N.ext _ _ _ _ (N.ext _ _ _ _ (N.ext _ _ _ _ p4 sb5'.extBut (Ne.symm ne) ap) sb6'.extBut (Ne.symm ne) ap) sb7'.extBut (Ne.symm ne) ap
  · exact up3 _ _ (Nat.ne_of_gt el) t4
  · rw [sb7'.1, sb6'.1, sb5'.1, z4]
  · exact fun b o n1 n2 q => up3 b o n1 (keep4 b o n1 n2 q)
theorem stop {e it : Addr} {P : Heap → Nat → Prop} {itm : Nat → Option (Tok → Value)} {tk : Nat} {Ap : Addr → Prop} (N : Inn prog w it P itm tk Ap) (ap : Ap e) {i : Nat} {old : Value} {s : Shared} {Q : Option Value → Shared → Prop} (hh : A.handled = none) (he : IsEnum s.heap e it i old) (hP : P s.heap i) (hf : itm i = none)
    (k : ∀ g, Heap.ExtBut it s.heap g → Q none { s with heap := g }) : wpAny (model prog w) A (pyNext (.ref e)) Q E s := by
  have T : s.TypeIs (.ref e) "enumerate" := ⟨_, he, rfl⟩
  unfold pyNext
  refine wpAny_bind (wpAny_attempt (wpAny_callSpecial?_slot (name := Str.ofString "__next__") T F.slot_enumerate_next (wpAny_call_entry F.slot_enumerate_next T F.entry_enumerate_next ?_ (F.args_enumerate_next_1 _))))
  show wpAny _ _ (field (.ref e) 2 >>= _) _ _ s
  refine wpAny_bind (wpAny_field he rfl (x := .ref it) rfl (wpAny_bind (N.done _ _ _ i _ hh hP hf fun g x eb so => ?_)))
  obtain ⟨o, ho, hc⟩ := so
  exact wpAny_bind (wpAny_isInstance (T := "StopIteration") (b := true) ⟨o, ho, hc⟩ isSubtype_stop (wpAny_pure (k _ eb)))
end
/-! a tuple -/
theorem inn_tup {prog : Program} {w : World} {it t : Addr} {ys : Array Value} (hne : t ≠ it) : Inn prog w it (fun h i => h.IsTupleIter it t i ∧ h.IsTuple t ys) (fun i => (ys[i]?).map fun v _ => v) 0 (fun b => t ≠ b) where
  item := fun A E s i f Q hP hf k => by
    obtain ⟨hit, ht⟩ := hP
    cases hx : ys[i]? with
    | none => rw [hx] at hf; cases hf
    | some x =>
      rw [hx] at hf; cases hf
      obtain ⟨o, ho, hc, hd⟩ := id hit
      obtain ⟨ot, hot, ct, nt, dt⟩ := id ht
      unfold Builtin.SmallTypes.nextOf
      refine wpAny_bind (wpAny_callSpecial?_slot (name := Str.ofString "__next__") hit.typeIs F.slot_tuple_iterator_next (wpAny_call_entry F.slot_tuple_iterator_next hit.typeIs F.entry_tuple_iterator_next ?_ (F.args_tuple_iterator_next_1 _)))
      show wpAny _ _ (field (.ref it) 0 >>= _) _ _ s
      refine wpAny_bind (wpAny_field ho hd (x := .ref t) rfl ?_)
      show wpAny _ _ (if (Value.ref t == Value.none) = true then _ else _) _ _ s
      rw [if_neg (show ¬ ((Value.ref t == Value.none) = true) by simp)]
      show wpAny _ _ (field (.ref it) 1 >>= _) _ _ s
      refine wpAny_bind (wpAny_field ho hd (x := .int i 0) rfl ?_)
      show wpAny _ _ (seqItems? (.ref t) >>= _) _ _ s
      refine wpAny_bind (wpAny_seqItems hot dt ?_)
      simp only [Int.toNat_natCast, hx]
      refine wpAny_bind (wpAny_setField ho hd (by simp) (wpAny_pure ⟨x, rfl, wpAny_pure (k _ ⟨?_, ?_⟩ (Heap.SameBut.update ..))⟩))
      · refine ⟨_, Heap.get?_update_self _ ho (Obj.isFreed_of_fields (Obj.data_mapFields hd _)), (Obj.cls_mapFields ..).trans hc, ?_⟩
        rw [Obj.data_mapFields hd]; simp [rawInt]
      · exact ht.extBut (Heap.SameBut.extBut (Heap.SameBut.update ..)) hne
  done := fun A E s i Q hh hP hf k => by
    obtain ⟨hit, ht⟩ := hP
    have hx : ys[i]? = none := by
      cases hx : ys[i]? with
      | none => rfl
      | some x => rw [hx] at hf; cases hf
    obtain ⟨o, ho, hc, hd⟩ := id hit
    obtain ⟨ot, hot, ct, nt, dt⟩ := id ht
    unfold Builtin.SmallTypes.nextOf
    refine wpAny_bind (wpAny_callSpecial?_slot (name := Str.ofString "__next__") hit.typeIs F.slot_tuple_iterator_next (wpAny_call_entry F.slot_tuple_iterator_next hit.typeIs F.entry_tuple_iterator_next ?_ (F.args_tuple_iterator_next_1 _)))
    show wpAny _ _ (field (.ref it) 0 >>= _) _ _ s
    refine wpAny_bind (wpAny_field ho hd (x := .ref t) rfl ?_)
    show wpAny _ _ (if (Value.ref t == Value.none) = true then _ else _) _ _ s
    rw [if_neg (show ¬ ((Value.ref t == Value.none) = true) by simp)]
    show wpAny _ _ (field (.ref it) 1 >>= _) _ _ s
    refine wpAny_bind (wpAny_field ho hd (x := .int i 0) rfl ?_)
    show wpAny _ _ (seqItems? (.ref t) >>= _) _ _ s
    refine wpAny_bind (wpAny_seqItems hot dt ?_)
    simp only [Int.toNat_natCast, hx]
    refine wpAny_bind (wpAny_rule (wpAny_bind (wpAny_setField ho hd (by simp) ?_)))
    show wpAny _ _ (newExc (.type "StopIteration") [] >>= _) _ _ _
    refine wpAny_bind ?_
    simp only [newExc, newTuple]
    refine wpAny_bind (wpAny_newObj_type ?_ (by size_fits))
    refine wpAny_bind (m := firstArgMember _ _) (wpAny_of_eq (a := Value.none) (by first | (simp only [firstArgMember]; rfl) | rfl) ?_)
    refine wpAny_newObj_type ?_ (by size_fits)
    simp only [raiseNew]
    refine wpAny_bind (wpAny_handled ?_)
    have hh' : A.in1.handled = none := hh
    first | rw [hh'] | rw [hh]
    exact wpAny_bind (wpAny_pure (wpAny_throw (k _ _ (((Heap.SameBut.update ..).extBut.push _).push _) ⟨_, Heap.get?_push_size _ rfl, rfl⟩)))
  ext := fun h g b i hP eb ne ap => ⟨hP.1.extBut eb ne, hP.2.extBut eb ap⟩
  psh := fun h o i hP => ⟨let ⟨o', a, b⟩ := hP.1; ⟨o', Heap.get?_push_of_some _ a, b⟩, hP.2.push _⟩
/-! a text -/
theorem inn_str {prog : Program} {w : World} {it : Addr} {x : Str} {t : Tok} : Inn prog w it (fun h i => h.IsStrIter it (strIterType x) x t i) (fun i => (x.cps[i]?).map fun c k => .str ⟨#[c]⟩ k) 1 (fun _ => True) where
  item := fun A E s i f Q hP hf k => by
    cases hx : x.cps[i]? with
    | none => rw [hx] at hf; cases hf
    | some c =>
      rw [hx] at hf; cases hf
      cases ha : x.cps.all (· < 128) with
      | true =>
        have e : strIterType x = "str_ascii_iterator" := by unfold strIterType; rw [ha]; rfl
        rw [e] at hP k
        exact wpAny_nextOf_ascii_item hP hx k
      | false =>
        have e : strIterType x = "str_iterator" := by unfold strIterType; rw [ha]; rfl
        rw [e] at hP k
        exact wpAny_nextOf_wide_item hP hx k
  done := fun A E s i Q hh hP hf k => by
    have hx : x.cps[i]? = none := by
      cases hx : x.cps[i]? with
      | none => rfl
      | some x => rw [hx] at hf; cases hf
    cases ha : x.cps.all (· < 128) with
    | true =>
      have e : strIterType x = "str_ascii_iterator" := by unfold strIterType; rw [ha]; rfl
      rw [e] at hP
      exact wpAny_nextOf_ascii_end hh hP hx k
    | false =>
      have e : strIterType x = "str_iterator" := by unfold strIterType; rw [ha]; rfl
      rw [e] at hP
      exact wpAny_nextOf_wide_end hh hP hx k
  ext := fun h g b i hP eb ne _ => hP.extBut eb ne
  psh := fun h o i hP => let ⟨o', a, b⟩ := hP; ⟨o', Heap.get?_push_of_some _ a, b⟩
section
variable {prog : Program} {w : World} {A : Around} {E : Value → Shared → Prop} {s : Shared}
open AutoSeq1 (wpAny_loadPart')
theorem new_tup (t : Addr) (ys : Array Value) (n : Nat) (dc : Option Addr) (sl : Array (Option Value)) : Meets (Builtin.«enumerate.__new__» ⟨[.type "enumerate", .ref t], []⟩) (fun _ R s => s.heap.get? t = some ⟨.type "tuple", dc, .seq ys n, sl⟩ ∧
    R (.ok (.ret (.ref (s.heap.push { cls := .type "tuple_iterator", data := .fields #[.ref t, .int 0 0] }).objs.size))) { s with heap := (s.heap.push { cls := .type "tuple_iterator", data := .fields #[.ref t, .int 0 0] }).push { cls := .type "enumerate", data := .fields #[.none, .bool false, .ref s.heap.objs.size, rawInt 0, .none, .none] } }) :=
  .of_wp fun prog w A R s ⟨ht, h⟩ => by
    obtain ⟨hp, g, d, tk, os⟩ := s
    have hsub := sub_enumerate
    have hT : Heap.IsTuple (Shared.heap ⟨hp, g, d, tk, os⟩) t ys := ⟨_, ht, rfl, n, rfl⟩
    wp_walk using wpAny_loadPart' ht
    refine wpAny_stack_any fun st => wpAny_pure ?_
    split
    · rename_i c _ _ _ _ _
      cases (c == Value.type "enumerate") <;> (wp_walk using wpAny_loadPart' ht, wpAny_pyIter_tuple hT; exact ⟨_, rfl, h⟩)
    · wp_walk using wpAny_loadPart' ht, wpAny_pyIter_tuple hT
      exact ⟨_, rfl, h⟩
theorem call_tup {t : Addr} {ys : Array Value} {Q : Value → Shared → Prop} (hT : s.heap.IsTuple t ys)
    (h : ∀ g, IsEnum g (s.heap.objs.size + 1) s.heap.objs.size 0 .none → g.IsTupleIter s.heap.objs.size t 0 → g.objs.size = s.heap.objs.size + 2 → (∀ b o, s.heap.get? b = some o → g.get? b = some o) → Q (.ref (s.heap.objs.size + 1)) { s with heap := g }) :
    wpAny (model prog w) A (call (.type "enumerate") [.ref t]) Q E s := by
  obtain ⟨⟨c, dc, dt, sl⟩, ht, hc, n, hd⟩ := hT
  have hc : c = .type "tuple" := hc
  have hd : dt = .seq ys n := hd
  subst hc hd
  have hz : (s.heap.push { cls := .type "tuple_iterator", data := .fields #[.ref t, .int 0 0] }).objs.size = s.heap.objs.size + 1 := Heap.size_push ..
  refine callType_new F.called_enumerate (by decide) (F.typeCall_enumerate_1 _) (F.newCall_enumerate_1 _) (fun obj => F.args_object_init_2 obj _) F.entry_enumerate_new (new_tup t ys n dc sl) ⟨ht, ?_⟩
  show _ ∧ _
  rw [hz]
  generalize hg : (s.heap.push { cls := .type "tuple_iterator", data := .fields #[.ref t, .int 0 0] }) = g0 at hz
  have he : IsEnum (g0.push { cls := .type "enumerate", data := .fields #[.none, .bool false, .ref s.heap.objs.size, rawInt 0, .none, .none] }) (s.heap.objs.size + 1) s.heap.objs.size 0 .none := by
    have q := Heap.get?_push_size g0 (o := { cls := .type "enumerate", data := .fields #[.none, .bool false, .ref s.heap.objs.size, rawInt 0, .none, .none] }) rfl
    rw [hz] at q; exact q
  refine ⟨⟨_, he, rfl⟩, h _ he ⟨_, Heap.get?_push_of_some _ (by rw [← hg]; exact Heap.get?_push_size _ rfl), rfl, rfl⟩ (by rw [Heap.size_push, hz]) fun b o x => Heap.get?_push_of_some _ (by rw [← hg]; exact Heap.get?_push_of_some _ x)⟩
end
end Y.En2
namespace Y
open PySem PySem.Spec PyProof.Rows L2 Y.En2
def Iet (K : PySem.W.Frag) (a : Addr) : It := ⟨fun i H => ∃ (xs : List V) (x : V), SqT K H a xs ∧ xs[i]? = some x, fun i H v H' => ∃ T x, v = .ref T ∧ H T = none ∧ H' = upd H T (.tup [.int (i : Nat), x]) ∧ ∀ xs, SqT K H a xs → xs[i]? = some x, fun i H => ∃ xs : List V, SqT K H a xs ∧ xs.length ≤ i⟩
def Ies (z : Str) : It := ⟨fun i _ => i < z.length, fun i H v H' => ∃ T c, z.cps[i]? = some c ∧ v = .ref T ∧ H T = none ∧ H' = upd H T (.tup [.int (i : Nat), .str ⟨#[c]⟩]), fun i _ => z.length ≤ i⟩
section
variable {P : Program} {w : World} {K : PySem.W.Frag} {elts : List Expr} {kk : Nat} {tpos : Pos}
/-- the step of either -/
theorem turn_item {X : Cx} {i : Nat} {pins : List (Addr × Obj)} {s : Shared} {σ : L2.St} {H : Hp} {E : Value → Shared → Prop} {e it : Addr} {Pn : Heap → Nat → Prop} {itm : Nat → Option (Tok → Value)} {tk : Nat} {Ap : Addr → Prop} {old : Value} {f : Tok → Value} {x : V} {tn : Heap → Prop} {yl : V → Hp → Prop}
    (N : Inn X.prog X.w it Pn itm tk Ap) (hne : e ≠ it) (ap : Ap e) (I : L2.Inv X pins σ H s) (hf : ∀ b ∈ [e, it], FpOk X pins H b) (he : IsEnum s.heap e it ((i : Nat) : Int) old) (hP : Pn s.heap i) (hx : itm i = some f) (rx : RelV x (f s.toks)) (hel : e < s.heap.objs.size) (hil : it < s.heap.objs.size)
    (htn : ∀ g, (∃ o, IsEnum g e it (((i + 1 : Nat) : Nat) : Int) o) → Pn g (i + 1) → tn g) (hy : ∀ T, H T = none → yl (.ref T) (upd H T (.tup [.int (i : Nat), x]))) :
    wpAny (model X.prog X.w) X.A (pyNext (.ref e)) (fun r s1 => ∃ u, r = some u ∧ wpAny (model X.prog X.w) X.A (letOwnedTupleGo (.Tuple elts kk tpos) (.ref e) u) (fun _ s2 => ∃ x H', L2.Inv X pins σ H' s2 ∧ RelV x u ∧ yl x H' ∧ tn s2.heap ∧ ∀ b ∈ [e, it], H' b = none) E s1) E s := by
  refine step N ap he hP hx hne fun g ho p1 hT hsz hk => ?_
  refine ⟨_, rfl, wpAny_letOwnedTupleGo_enum (s := { s with heap := g, toks := s.toks + tk + 1 }) ho fun g2 he2 sb => ?_⟩
  have hT2 : g2.get? s.heap.objs.size = some { cls := .type "tuple", data := .seq #[.int i (s.toks + tk), f s.toks] } := (sb.2 _ (Nat.ne_of_gt hel)).trans hT
  have new : ObjOk X.prog X.w (upd H s.heap.objs.size (.tup [.int (i : Nat), x])) g2 s.heap.objs.size (.tup [.int (i : Nat), x]) :=
    ⟨by show 2 ≤ sizeLine; decide, [.int i (s.toks + tk), f s.toks], .cons ⟨_, rfl⟩ (.cons rx .nil), ⟨_, hT2, rfl, _, rfl⟩⟩
  have I1 : L2.Inv X pins σ (upd H s.heap.objs.size (.tup [.int (i : Nat), x])) { s with heap := g2, toks := s.toks + tk + 1 } := by
    refine I.turnedNew (ch := [e, it]) (fun b ob hb q => ?_) hf (Nat.le_refl _) new
    have n1 : b ≠ e := fun z => hb (by simp [z])
    have n2 : b ≠ it := fun z => hb (by simp [z])
    exact (sb.2 b n1).trans (hk b ob n1 n2 q)
  have fr : H s.heap.objs.size = none := I.hok.fresh (Nat.le_refl _)
  refine ⟨.ref s.heap.objs.size, _, I1, rfl, hy _ fr, htn _ ⟨f s.toks, ?_⟩ (N.ext _ _ _ _ p1 sb.extBut (Ne.symm hne) ap), fun b hb => ?_⟩
  · have e1 : ((i + 1 : Nat) : Int) = (i : Int) + 1 := by omega
    rw [e1]; exact he2
  · have hb' : b < s.heap.objs.size := by
      rcases (show b = e ∨ b = it by simpa using hb) with z | z
      · rw [z]; exact hel
      · rw [z]; exact hil
    rw [upd_ne (Nat.ne_of_lt hb')]
    exact (hf b hb).1
theorem turn_et (a e it : Addr) : Turn P w K (.Tuple elts kk tpos) (Iet K a) [e, it] e (fun i h => (∃ old, IsEnum h e it ((i : Nat) : Int) old) ∧ h.IsTupleIter it a i ∧ e ≠ it) where
  mem := by simp
  obj := fun i h st b hb => by
    obtain ⟨⟨old, he⟩, ⟨o, ho, hc, hd⟩, _⟩ := st
    rcases (show b = e ∨ b = it by simpa using hb) with z | z
    · rw [z]; exact ⟨_, he, fun v q => nomatch q⟩
    · rw [z]; exact ⟨o, ho, fun v q => by rw [hd] at q; cases q⟩
  keep := fun i h g st k => let ⟨⟨old, he⟩, hi, hne⟩ := st; ⟨⟨old, k e (by simp) _ he⟩, hi.at fun o q => k it (by simp) o q, hne⟩
  item := by
    intro X hP hw hK hc i pins s σ H E I hf st hg
    subst hP hw hK
    obtain ⟨⟨old, he⟩, hit, hne⟩ := st
    obtain ⟨xs, x, hq, hx⟩ := hg
    obtain ⟨its, rv, p, hz⟩ := I.tuple hq
    obtain ⟨u, hu, ru⟩ := rv.get hx
    obtain ⟨o, ho, hco, n, hd⟩ := id p
    have ap : a ≠ e := fun z => by rw [z] at ho; rw [he] at ho; cases ho; simp at hco
    have ap2 : a ≠ it := fun z => by obtain ⟨o2, h2, c2, _⟩ := id hit; rw [z] at ho; rw [h2] at ho; cases ho; rw [c2] at hco; simp at hco
    refine turn_item (tn := fun h => (∃ old, IsEnum h e it ((i + 1 : Nat) : Int) old) ∧ h.IsTupleIter it a (i + 1) ∧ e ≠ it) (yl := fun x H' => (Iet X.K a).yld i H x H') (inn_tup (t := a) (ys := its.toArray) ap2) hne ap I hf he ⟨hit, ⟨o, ho, hco, n, hd⟩⟩ (f := fun _ => u) (by simp [hu]) ru (Heap.lt_size he) (let ⟨_, q, _⟩ := hit; Heap.lt_size q) (fun g h1 h2 => ⟨h1, h2.1, hne⟩) fun T hT => ⟨T, x, rfl, hT, rfl, fun ys hy => by rw [I.tuple_inj hy hq]; exact hx⟩
  done := by
    intro X hP hw hK hc i pins s σ H E I hf st hg
    subst hP hw hK
    obtain ⟨⟨old, he⟩, hit, hne⟩ := st
    obtain ⟨xs, hq, hx⟩ := hg
    obtain ⟨its, rv, p, hz⟩ := I.tuple hq
    obtain ⟨o, ho, hco, n, hd⟩ := id p
    have ap : a ≠ e := fun z => by rw [z] at ho; rw [he] at ho; cases ho; simp at hco
    have ap2 : a ≠ it := fun z => by obtain ⟨o2, h2, c2, _⟩ := id hit; rw [z] at ho; rw [h2] at ho; cases ho; rw [c2] at hco; simp at hco
    obtain ⟨f0, f1, f2, f3, f4, f5⟩ := hf it (by simp)
    have hl := rv.length
    exact En2.stop (inn_tup (t := a) (ys := its.toArray) ap2) ap (I.ok.hd hc) he ⟨hit, ⟨o, ho, hco, n, hd⟩⟩ (by simp; omega) fun g eb => ⟨rfl, I.turned (t' := s.toks) (fun b o hb q => eb b o hb q) f0 f1 f3 f4 f5⟩
  self := fun A i s Q E st h => let ⟨⟨_, he⟩, _⟩ := st; wpAny_pyIter_enum he h
theorem turn_es {z : Str} {t : Tok} (e it : Addr) : Turn P w K (.Tuple elts kk tpos) (Ies z) [e, it] e (fun i h => (∃ old, IsEnum h e it ((i : Nat) : Int) old) ∧ h.IsStrIter it (strIterType z) z t i ∧ e ≠ it) where
  mem := by simp
  obj := fun i h st b hb => by
    obtain ⟨⟨old, he⟩, ⟨o, ho, hc, hd⟩, _⟩ := st
    rcases (show b = e ∨ b = it by simpa using hb) with z | z
    · rw [z]; exact ⟨_, he, fun v q => nomatch q⟩
    · rw [z]; exact ⟨o, ho, fun v q => by rw [hd] at q; cases q⟩
  keep := fun i h g st k => let ⟨⟨old, he⟩, ⟨o, ho, r⟩, hne⟩ := st; ⟨⟨old, k e (by simp) _ he⟩, ⟨o, k it (by simp) o ho, r⟩, hne⟩
  item := by
    intro X hP hw hK hc i pins s σ H E I hf st hg
    subst hP hw hK
    obtain ⟨⟨old, he⟩, hit, hne⟩ := st
    have hi : i < z.cps.size := hg
    have hx : z.cps[i]? = some z.cps[i] := by simp [hi]
    refine turn_item (tn := fun h => (∃ old, IsEnum h e it ((i + 1 : Nat) : Int) old) ∧ h.IsStrIter it (strIterType z) z t (i + 1) ∧ e ≠ it) (yl := fun x H' => (Ies z).yld i H x H') (inn_str (x := z) (t := t)) hne trivial I hf he hit (f := fun k => .str ⟨#[z.cps[i]]⟩ k) (x := .str ⟨#[z.cps[i]]⟩) (by rw [hx]; rfl) ⟨_, rfl⟩ (Heap.lt_size he) (let ⟨_, q, _⟩ := hit; Heap.lt_size q) (fun g h1 h2 => ⟨h1, h2, hne⟩) fun T hT => ⟨T, _, hx, rfl, hT, rfl⟩
  done := by
    intro X hP hw hK hc i pins s σ H E I hf st hg
    subst hP hw hK
    obtain ⟨⟨old, he⟩, hit, hne⟩ := st
    obtain ⟨f0, f1, f2, f3, f4, f5⟩ := hf it (by simp)
    have hg : z.cps.size ≤ i := hg
    exact En2.stop (inn_str (x := z) (t := t)) trivial (I.ok.hd hc) he hit (by simp [hg]) fun g eb => ⟨rfl, I.turned (t' := s.toks) (fun b o hb q => eb b o hb q) f0 f1 f3 f4 f5⟩
  self := fun A i s Q E st h => let ⟨⟨_, he⟩, _⟩ := st; wpAny_pyIter_enum he h
end
def iEnT (K : PySem.W.Frag) (ta : TA) : TI := fun σ H R => ta σ H fun vs H1 => (∃ a xs, vs = [.ref a] ∧ SqT K H1 a xs ∧ R (Iet K a) H1) ∨ (∃ z, vs = [.str z] ∧ R (Ies z) H1)
theorem pi_enT {X : Cx} {e : Expr} {ta : TA} {p pos tpos : Pos} {elts : List Expr} {kk : Nat} (hg : Gl X "enumerate") (hm : X.mg "enumerate" = none) (ha : PA X [e] ta) (hs : starEach [e] X.env = [(false, eval e X.env)] := by rfl) : PI X (.Tuple elts kk tpos) (.Call (.Name "enumerate" p) [e] [] pos) (iEnT X.K ta) := by
  refine ⟨fun pins s σ H R I h => Call_ (ld_blt I hg hm boot_enumerate (PyProof.Rows.callWith_type1 (thn (ha.run pos pins s σ H _ I h) fun us s1 ⟨vs, H1, I1, r1, q1⟩ => ?_) hs rfl))⟩
  have fp : ∀ {h' : Heap} {b : Addr}, b ∈ [s1.heap.objs.size + 1, s1.heap.objs.size] → FpOk X pins H1 b := fun {h' b} hb => by
    have hle : s1.heap.objs.size ≤ b := by
      rcases (show b = s1.heap.objs.size + 1 ∨ b = s1.heap.objs.size by simpa using hb) with z | z
      · rw [z]; exact Nat.le_add_right _ _
      · rw [z]; exact Nat.le_refl _
    exact I1.fpOk hle (I1.hok.fresh hle)
  rcases q1 with ⟨a, xs, rfl, hq, q⟩ | ⟨z, rfl, q⟩
  · cases r1 with
    | cons r rr =>
      cases rr
      cases r
      obtain ⟨its, rv, p', hz⟩ := I1.tuple hq
      refine En2.call_tup (show s1.heap.IsTuple a its.toArray from p') fun g he hit hsz hk => wpAny_pyIter_enum he ?_
      have I2 : L2.Inv X pins σ H1 { s1 with heap := g } := I1.kept (t' := s1.toks) hk
      exact ⟨_, [s1.heap.objs.size + 1, s1.heap.objs.size], _, _, H1, rfl, I2, turn_et a _ _, ⟨⟨.none, he⟩, hit, Nat.succ_ne_self _⟩, fun b hb => fp (h' := g) hb, q⟩
  · cases r1 with
    | cons r rr =>
      cases rr
      obtain ⟨t, rfl⟩ := r
      refine call_enumerate_str fun g he hit hsz hk => wpAny_pyIter_enum he ?_
      have I2 : L2.Inv X pins σ H1 { s1 with heap := g } := I1.kept (t' := s1.toks) hk
      exact ⟨_, [s1.heap.objs.size + 1, s1.heap.objs.size], _, _, H1, rfl, I2, turn_es (t := t) _ _, ⟨⟨.none, he⟩, hit, Nat.succ_ne_self _⟩, fun b hb => fp (h' := g) hb, q⟩
/-! the layer's -/
theorem it_et {K : PySem.W.Frag} {S1 : Hq} {H1 : Hp} {a : Addr} {xs : List D} {vs : List V} (rh1 : RH K S1 H1) (s : SqT K H1 a vs) (r : DVs K H1 xs vs) : ItOk K S1 H1 (Iet K a) (enumD xs) (fun _ => True) := by
  refine ⟨fun S H f rh _ => ⟨vs, (f.tle rh1).t _ _ s, by rw [enumD_len, r.length]; exact Nat.le_refl _⟩, fun i x S H hx f rh _ => ?_, fun i x S H v H' hx f rh _ hy => ?_⟩
  · obtain ⟨y, hy, _⟩ := enumD_get hx
    obtain ⟨v, hv, _⟩ := r.get hy
    exact ⟨vs, v, (f.tle rh1).t _ _ s, hv⟩
  · obtain ⟨y, hxy, rfl⟩ := enumD_get hx
    obtain ⟨v', hv, dv⟩ := r.get hxy
    obtain ⟨T, x2, rfl, hT, rfl, e1⟩ := hy
    have e1 := e1 vs ((f.tle rh1).t _ _ s)
    rw [hv] at e1; cases e1
    have f' := Fr.new (o := .tup [.int (i : Int), v']) rh hT
    exact ⟨f', rh.new hT, .tup (.inl (.inl upd_same)) (.cons (.int _) (.cons (DV.mono (f'.tle rh) _ _ (DV.mono (f.tle rh1) _ _ dv)) .nil))⟩
theorem signsD_get {z : Str} {i : Nat} {y : D} (h : (signsD z)[i]? = some y) : ∃ c, z.cps[i]? = some c ∧ y = .str ⟨#[c]⟩ := by
  unfold signsD at h
  rw [List.getElem?_map] at h
  cases e : z.cps.toList[i]? with
  | none => rw [e] at h; cases h
  | some c => rw [e] at h; cases h; exact ⟨c, by simpa using e, rfl⟩
theorem signsD_len {z : Str} : (signsD z).length = z.length := by unfold signsD Str.length; simp
theorem it_es {K : PySem.W.Frag} {S1 : Hq} {H1 : Hp} {z : Str} : ItOk K S1 H1 (Ies z) (enumD (signsD z)) (fun _ => True) := by
  refine ⟨fun S H f rh _ => by rw [enumD_len, signsD_len]; exact Nat.le_refl _, fun i x S H hx f rh _ => ?_, fun i x S H v H' hx f rh _ hy => ?_⟩
  · obtain ⟨y, hy, _⟩ := enumD_get hx
    have := (List.getElem?_eq_some_iff.mp hy).1
    rw [signsD_len] at this
    exact this
  · obtain ⟨y, hxy, rfl⟩ := enumD_get hx
    obtain ⟨c, hc, rfl⟩ := signsD_get hxy
    obtain ⟨T, c2, hc2, rfl, hT, rfl⟩ := hy
    rw [hc] at hc2; cases hc2
    have f' := Fr.new (o := .tup [.int (i : Int), .str ⟨#[c]⟩]) rh hT
    exact ⟨f', rh.new hT, .tup (.inl (.inl upd_same)) (.cons (.int _) (.cons (.str _) .nil))⟩
def enDT (ds : List D) (S1 : Hq) (R : List D → (Hq → Prop) → Hq → Prop) : Prop := match ds with
  | [.tup xs] => R (enumD xs) (fun _ => True) S1
  | [.str z] => R (enumD (signsD z)) (fun _ => True) S1
  | _ => False
def iEn4 (ra : RA) : RI := fun σ S R E => ra σ S (fun ds S1 => enDT ds S1 R) E
section
variable {X : Cx} {W : WX} {e : Expr} {pos : Pos}
theorem ei_en4 {ra : RA} {p tpos : Pos} {elts : List Expr} {kk : Nat} (hm : X.mg "enumerate" = none) (ha : EA X W [e] ra) (hg : Gl X "enumerate" := by rfl) (hs : starEach [e] X.env = [(false, eval e X.env)] := by rfl) : EI X W (.Tuple elts kk tpos) (.Call (.Name "enumerate" p) [e] [] pos) (iEn4 ra) := by
  obtain ⟨T, pp, l⟩ := ha.ex
  refine ⟨_, pi_enT hg hm pp hs, fun σ σ' H S R R' E' rs rh h q xi => ?_⟩
  refine l σ σ' H S _ _ _ rs rh h (fun ds S1 v H1 f1 rh1 dv h1 => ?_) xi
  match ds, dv, h1 with
  | [.tup xs], .cons (.tup s r) .nil, h1 => exact .inl ⟨_, _, rfl, s, q _ _ _ _ _ f1 rh1 (it_et rh1 s r) h1⟩
  | [.str z], .cons (.str _) .nil, h1 => exact .inr ⟨_, rfl, q _ _ _ _ _ f1 rh1 it_es h1⟩
end
section
variable {S : Hq} {xs : List D} {z : Str} {R : List D → (Hq → Prop) → Hq → Prop}
theorem e4_t : enDT [.tup xs] S R = R (enumD xs) (fun _ => True) S := rfl
theorem e4_s : enDT [.str z] S R = R (enumD (signsD z)) (fun _ => True) S := rfl
end
end Y
namespace Y
open PySem PySem.Spec PyProof.Rows L2 SeqAt
/-! ### xs.remove(x), plain data -/
def rRemD (K : PySem.W.Frag) : V → List V → Hp → VK → Prop := fun x vs H Q => ∃ (l : Addr) (xs : List V) (y : V) (d : PyData) (ds : List PyData) (j : Nat), x = .ref l ∧ vs = [y] ∧ H l = some (.lst xs) ∧ Dp K H y d ∧ DpAll K H xs ds ∧ PyData.plainAll ds = true ∧ d.plain = true ∧ d.depth ≤ 60 ∧ dataPlace ds d = some j ∧ Q .non (upd H l (.lst (xs.eraseIdx j)))
theorem mt_remD {X : Cx} (hu : X.A.units + 65 < cLine) : MtR X "list.remove" (rRemD X.K) := by
  intro pins s σ H x vs v us Q I rx rv h
  obtain ⟨l, xs, y, d, ds, j, rfl, rfl, hH, hy, hxs, pa, pd, hd, hp, q⟩ := h
  cases rx
  obtain ⟨u, rfl, ru⟩ := Vals.one rv
  obtain ⟨z, its, n, r, hl, e⟩ := I.lstM hH
  obtain ⟨as, r1⟩ := Dp.reads I d y u hy ru
  obtain ⟨bs, r2⟩ := Dp.readsAll I ds xs its hxs r
  have hlen := r.length
  have isl : s.heap.IsList l its.toArray := ⟨_, e, rfl, n, rfl⟩
  refine remove_list_data isl (by simpa using r2) r1 pa pd (by omega) hp (by rw [List.size_toArray]; omega) ?_
  refine ⟨.non, _, I.lset (its' := its.eraseIdx j) (t' := s.toks) hH e ?_ (r.eraseIdx j) ?_, rfl, q⟩
  · show its.toArray.eraseIdxIfInBounds j = (its.eraseIdx j).toArray
    rw [List.eraseIdxIfInBounds_toArray]
  · have := List.length_eraseIdx_le xs j
    omega
def remD3 (x : D) (ds : List D) (S : Hq) (Q : Qv) : Prop := match x, ds with
  | .ref a, [y] => ∃ xs n j, S a = some (.lst xs) ∧ n ≤ 50 ∧ Nb n y ∧ (∀ x ∈ xs, Nb n x) ∧ xs[j]? = some y ∧ (∀ m, m < j → xs[m]? ≠ some y) ∧ Q .non (up S a (.lst (xs.eraseIdx j)))
  | _, _ => False
theorem Nb.plain {n : Nat} {d : D} (h : Nb n d) : (pd d).plain = true := by
  induction h with
  | non => rfl
  | int i => rfl
  | str z h => rfl
  | @tup n xs h ih =>
    have key : ∀ l : List D, (∀ x ∈ l, (pd x).plain = true) → PyData.plainAll (pds l) = true := by
      intro l
      induction l with
      | nil => intro _; rfl
      | cons a r ih2 => intro h; show ((pd a).plain && PyData.plainAll (pds r)) = true; rw [h a (by simp), ih2 fun x m => h x (by simp [m])]; rfl
    have := key xs ih
    simpa [pd, PyData.plain] using this
theorem Nb.plainAll {n : Nat} {l : List D} (h : ∀ x ∈ l, Nb n x) : PyData.plainAll (pds l) = true := by
  have := (Nb.tup h).plain
  simpa [pd, PyData.plain] using this
theorem Nb.purs {n : Nat} {l : List D} (h : ∀ x ∈ l, Nb n x) : purs l = true := by
  have := (Nb.tup h).pur
  simpa [Y.pur] using this
theorem place_of {n : Nat} {y : D} (hy : Nb n y) : ∀ {xs : List D} {j : Nat}, (∀ x ∈ xs, Nb n x) → xs[j]? = some y → (∀ m, m < j → xs[m]? ≠ some y) → dataPlace (pds xs) (pd y) = some j
  | [], _, _, h, _ => by simp at h
  | a :: r, 0, hx, h, _ => by
    simp at h; subst h
    show List.findIdx? (fun y_1 => PyData.eqv y_1 (pd a)) (pd a :: pds r) = some 0
    rw [List.findIdx?_cons, (Nb.eqv (hx a (by simp)) (hx a (by simp))).mpr rfl]; rfl
  | a :: r, j + 1, hx, h, hn => by
    have ih := place_of hy (xs := r) (j := j) (fun x m => hx x (by simp [m])) (by simpa using h) fun m hm => by have := hn (m + 1) (by omega); simpa using this
    have ne : PyData.eqv (pd a) (pd y) = false := by
      rw [Bool.eq_false_iff]
      intro c
      have := (Nb.eqv (hx a (by simp)) hy).mp c
      exact hn 0 (by omega) (by simp [this])
    show List.findIdx? (fun y_1 => PyData.eqv y_1 (pd y)) (pd a :: pds r) = some (j + 1)
    rw [List.findIdx?_cons, ne]
    have ih : List.findIdx? (fun y_1 => PyData.eqv y_1 (pd y)) (pds r) = some j := ih
    simp [ih]
theorem DVs.erase {K : PySem.W.Frag} {H : Hp} {ds : List D} {vs : List V} (n : Nat) (r : DVs K H ds vs) : DVs K H (ds.eraseIdx n) (vs.eraseIdx n) := DVs.cutN n r
theorem lm_remD {K : PySem.W.Frag} : LiftM K remD3 (rRemD K) := by
  intro x ds S H Q' Q v vs rh dx dv h q
  match x, ds, dx, dv, h with
  | .ref a, [y], .ref _, .cons d .nil, h =>
    obtain ⟨xs, n, j, e, hn, hy, hxs, hj, hno, h⟩ := h
    obtain ⟨ys, g, r⟩ := rh.lst e
    exact ⟨_, ys, _, _, _, j, rfl, rfl, g, DV.dp _ _ hy.pur d, DVs.dp _ _ (Nb.purs hxs) r, Nb.plainAll hxs, hy.plain, by have := hy.lay.2; omega, place_of hy hxs hj hno, q.putL rh e (r.erase j) .non h⟩
/-! ### len(set(xs)), tuples of ints -/
def tLenSetT (K : PySem.W.Frag) (ta : TE) : TE := fun σ H Q => ta σ H fun x H1 => ∃ (l : Addr) (ks : List (Addr × List Int)), x = .ref l ∧ SqL K H1 l (ks.map fun p => V.ref p.1) ∧ (∀ p ∈ ks, SqT K H1 p.1 (p.2.map V.int)) ∧ ks.length < 64 ∧ (ks.map (·.2)).Nodup ∧ Q (.int (ks.length : Nat)) H1
theorem pe_lenSetT {X : Cx} {a : Expr} {ta : TE} {p p2 q pos : Pos} (hu : X.A.units + 64 < cLine) (hg : Gl X "len") (hm : X.mg "len" = none) (hg2 : Gl X "set") (hm2 : X.mg "set" = none) (ha : PE X a ta) (hc : X.calm = true := by rfl)
    (na : starEach [a] X.env = (false, eval a X.env) :: starEach [] X.env := by rfl) : PE X (.Call (.Name "len" p) [.Call (.Name "set" p2) [a] [] q] [] pos) (tLenSetT X.K ta) := by
  refine ⟨fun pins s σ H Q I h => Call_ (ld_blt I hg hm boot_len (PyProof.Rows.callWith_builtin1 (PyProof.Rows.args_cons ?_ rfl) rfl rfl))⟩
  refine Call_ (ld_blt I hg2 hm2 boot_set (PyProof.Rows.callWith_type1 (PyProof.Rows.args_cons (thn (ha.run pins s σ H _ I h) fun v s1 ⟨x, H1, I1, r1, q1⟩ => PyProof.Rows.args_nil ?_) na) na rfl))
  obtain ⟨l, ks, rfl, hl, hk, hf, hnd, q1⟩ := q1
  cases r1
  obtain ⟨its, rv, pl, hz⟩ := I1.list hl
  refine call_set_tups (P := X.prog) (w := X.w) ks (I1.ok.hd hc) pl.isList (by simpa using refs_of_vals rv) (fun p hp => I1.isT (hk p hp)) hf (by omega) fun h' tk L es ep t R g k => PyProof.Rows.args_nil ?_
  have hlen : es.size = ks.length := by
    have e1 : es.size = L.length := by
      have q := congrArg List.length R.rows
      unfold rowsOf at q
      simpa using q
    have e2 : (L.map (·.2)).Perm (ks.map (·.2)) := by
      refine (List.perm_ext_iff_of_nodup R.nd hnd).mpr fun y => ⟨fun m => ?_, fun m => ?_⟩
      · obtain ⟨p, hp, rfl⟩ := List.mem_map.mp m
        exact List.mem_map.mpr ⟨p, List.mem_of_mem_take (g.sub p hp), rfl⟩
      · obtain ⟨p, hp, rfl⟩ := List.mem_map.mp m
        exact g.all p (by rw [List.take_length]; exact hp)
    have e3 := e2.length_eq
    rw [List.length_map, List.length_map] at e3
    omega
  obtain ⟨o, ho, hex, hd⟩ := R.ob
  have fits : t.fits es.size = true := SetTR.fits (s := { s1 with heap := h', toks := tk }) R
  refine call_len_set ho hex hd fits (by omega) ⟨.int ks.length, H1, ?_, ⟨_, by rw [hlen]⟩, q1⟩
  exact (I1.kept (t' := tk) k).tok _
def lsetD (x : D) (S : Hq) (Q : Qv) : Prop := lsv x S fun xs => ∃ ks : List (List Int), xs = ks.map (fun k => D.tup (k.map D.int)) ∧ ks.length < 64 ∧ ks.Nodup ∧ Q (.int (ks.length : Nat)) S
theorem DVs.tupI {K : PySem.W.Frag} {H : Hp} : ∀ {ks : List (List Int)} {vs : List V}, DVs K H (ks.map (fun k => D.tup (k.map D.int))) vs → ∃ ps : List (Addr × List Int), vs = ps.map (fun p => V.ref p.1) ∧ ps.map (·.2) = ks ∧ ∀ p ∈ ps, SqT K H p.1 (p.2.map V.int)
  | [], _, .nil => ⟨[], rfl, rfl, by simp⟩
  | k :: ks, _, .cons x r => by
    obtain ⟨ps, rfl, e, h⟩ := DVs.tupI r
    cases x with
    | tup s t =>
      rw [t.ints] at s
      exact ⟨(_, k) :: ps, rfl, by simp [e], fun p m => by
        rcases List.mem_cons.mp m with rfl | m
        · exact s
        · exact h p m⟩
theorem ev_lset {X : Cx} {W : WX} {a : Expr} {ra : RE} {p p2 q pos : Pos} (hu : X.A.units + 64 < cLine) (hm : X.mg "len" = none) (hm2 : X.mg "set" = none) (ha : EV X W a ra) (hc : X.calm = true) (hg : Gl X "len" := by rfl) (hg2 : Gl X "set" := by rfl)
    (na : starEach [a] X.env = (false, eval a X.env) :: starEach [] X.env := by rfl) : EV X W (.Call (.Name "len" p) [.Call (.Name "set" p2) [a] [] q] [] pos) (rUn lsetD ra) := by
  obtain ⟨T, pa, la⟩ := ha.ex
  refine ⟨_, pe_lenSetT hu hg hm hg2 hm2 pa hc na, fun σ σ' H S Q Q' E' rs rh h qq xi => ?_⟩
  refine la σ σ' H S _ _ E' rs rh h (fun x S1 v H1 f1 rh1 dv h1 => ?_) xi
  obtain ⟨a, xs, vs, rfl, s, r, ⟨ks, rfl, hl, hn, h1⟩, _⟩ := rh1.lsv dv h1
  obtain ⟨ps, rfl, e, hp⟩ := DVs.tupI r
  have el : ps.length = ks.length := by rw [← e, List.length_map]
  exact ⟨a, ps, rfl, s, hp, by omega, by rw [e]; exact hn, by rw [el]; exact qq _ _ _ _ f1 rh1 (.int _) h1⟩
theorem q_lset {x : D} {S : Hq} {Q : Qv} : lsetD x S Q = lsv x S fun xs => ∃ ks : List (List Int), xs = ks.map (fun k => D.tup (k.map D.int)) ∧ ks.length < 64 ∧ ks.Nodup ∧ Q (.int (ks.length : Nat)) S := rfl
theorem q_remD {p : Addr} {y : D} {S : Hq} {Q : Qv} : remD3 (.ref p) [y] S Q = ∃ xs n j, S p = some (.lst xs) ∧ n ≤ 50 ∧ Nb n y ∧ (∀ x ∈ xs, Nb n x) ∧ xs[j]? = some y ∧ (∀ m, m < j → xs[m]? ≠ some y) ∧ Q .non (up S p (.lst (xs.eraseIdx j))) := rfl
/-! ### what is never come to; enumerate of anything -/
def rNv : RSt := fun _ _ _ => False
theorem es_nv {X : Cx} {W : WX} {st : Stmt} : ES X W st rNv := ⟨fun _ _ _ => False, ⟨fun _ _ _ _ _ _ h => h.elim⟩, fun _ _ _ _ _ _ _ _ h _ => h.elim⟩
def iEnX (ra : RA) : RI := fun σ S R E => iEn3 ra σ S R E ∨ iEn4 ra σ S R E
theorem ei_enX {X : Cx} {W : WX} {e : Expr} {pos : Pos} {ra : RA} {p tpos : Pos} {elts : List Expr} {kk : Nat} (hm : X.mg "enumerate" = none) (ha : EA X W [e] ra) (hg : Gl X "enumerate" := by rfl) (hs : starEach [e] X.env = [(false, eval e X.env)] := by rfl) : EI X W (.Tuple elts kk tpos) (.Call (.Name "enumerate" p) [e] [] pos) (iEnX ra) := ei_or (ei_enum3 hm ha hg hs) (ei_en4 hm ha hg hs)
section
variable {S : Hq} {xs : List D} {z : Str} {p : Addr} {R : List D → (Hq → Prop) → Hq → Prop} {T : List D → Prop}
theorem v_t : lsv (.tup xs) S T = False := rfl
theorem v_s : lsv (.str z) S T = False := rfl
theorem e4_k : enDT [.kl xs] S R = False := rfl
theorem e4_r : enDT [.ref p] S R = False := rfl
end
end Y
namespace Y
open PySem PySem.Spec PyProof.Rows L2
section
variable {S : Hq} {Q : Qv} {c d : Bool} {z : Str} {i : Int} {xs : List D}
theorem q_isntB : isntD (.bl c) (.bl d) S Q = Q (.bl (!decide (c = d))) S := rfl
end
def Ls (S : Hq) (x : D) (xs : List D) : Prop := x = .kl xs ∨ ∃ a, x = .ref a ∧ S a = some (.lst xs)
/-- all that stands here stands there -/
def Ex (S S' : Hq) : Prop := ∀ a o, S a = some o → S' a = some o
theorem Ex.refl {S : Hq} : Ex S S := fun _ _ h => h
theorem Ex.up {S : Hq} {p : Addr} {o : HQ} (hp : S p = none) : Ex S (up S p o) := fun _ _ h => up_get hp h
theorem Ex.trans {S S1 S2 : Hq} (a : Ex S S1) (b : Ex S1 S2) : Ex S S2 := fun x o h => b x o (a x o h)
theorem Ls.src {S : Hq} {x : D} {xs : List D} {R : List D → (Hq → Prop) → Hq → Prop} (h : Ls S x xs) (k : ∀ g : Hq → Prop, (∀ S', Ex S S' → g S') → R xs g S) : lstD x S R := by
  rcases h with rfl | ⟨a, rfl, e⟩
  · exact k _ fun _ _ => trivial
  · exact ⟨xs, e, k _ fun S' h => h a _ e⟩
theorem Ls.lsv {S : Hq} {x : D} {xs : List D} {R : List D → Prop} (h : Ls S x xs) (k : R xs) : lsv x S R := by
  rcases h with rfl | ⟨a, rfl, e⟩
  · exact k
  · exact ⟨xs, e, k⟩
theorem Ls.len {S : Hq} {x : D} {xs : List D} {Q : Qv} (h : Ls S x xs) (k : Q (.int xs.length) S) : lenD [x] S Q := by
  rcases h with rfl | ⟨a, rfl, e⟩
  · exact k
  · exact ⟨xs, e, k⟩
theorem Ls.ex {S S' : Hq} {x : D} {xs : List D} (h : Ls S x xs) (e : Ex S S') : Ls S' x xs := h.imp id fun ⟨a, b, c⟩ => ⟨a, b, e a _ c⟩
end Y
set_option maxHeartbeats 2000000
namespace PySem
namespace LA
open PySem.W PySem.Calls PyProof.Rows PySem.HandSPX
/-! ### the text of __init__ -/
def iA (p1 p2 : Pos) : Arguments := { posonlyargs := [], args := [{ arg := "self", annotation := none, pos := p1 }, { arg := "at", annotation := none, pos := p2 }], vararg := none, kwonlyargs := [], kw_defaults := [], kwarg := none, defaults := [] }
def iB (q1 q2 q3 q4 : Pos) : List Stmt := [.Assign [.Attribute (.Name "self" q1) "at" q2] (.Name "at" q3) q4]
def iS : Scope := { kind := .function, names := [(PySem.Str.ofString "self", .local), (PySem.Str.ofString "at", .local)], isGenerator := false, isCoroutine := false, more := [] }
/-- what the written part says of Low, at C, and of its __init__, at fI -/
structure LowTxt (K : Frag) (mg : Str → Option Value) (nX qX : Str) (C fI : Addr) : Prop where
  gC : mg nX = some (.ref C)
  cls : ∃ nm q N bs bm sn sub ab col dd k0 k1 k2 k3 k5, K.lookup C = some (excClassObj nm q C N bs bm true sn sub ab col dd k0 k1 k2 k3 k5 "ValueError.__new__") ∧ refsVE bm = true
  sa : findIn K (.ref C) "__setattr__" = some (some (.builtin "object.__setattr__"))
  ga : findIn K (.ref C) "__getattribute__" = some (some (.builtin "BaseException.__getattribute__"))
  gg : findIn K (.ref C) "__getattr__" = some none
  noN : findIn K (.ref C) "at" = some none
  iC : findIn K (.ref C) "__init__" = some (some (.ref fI))
  tC : typeIn K (.ref fI) = some (.type "function")
  kC : keepIn K (.ref C) = true
  exC : subIn K (.ref C) (.type "BaseException") = some true
  tyC : typeIn K (.ref C) = some (.type "type")
  hdC : hasDictIn K C = true
  te : exmOne K (.ref C) (.ref C) = some true
  fn : ∃ (oc : Value) (od : Option Addr) (doc pm : Value) (an : Option Addr) (cdv ct : Value) (osl : Array (Option Value)) (p1 p2 q1 q2 q3 q4 : Pos),
    K.lookup fI = some ⟨oc, od, .func (fnOf "__init__" qX (iA p1 p2) (iB q1 q2 q3 q4) iS .none .none doc pm an cdv ct), osl⟩ ∧ codeIn K cdv qX = true
theorem one_size (v : Value) : [v].length ≤ sizeLine := by
  rw [sizeLine_eq]
  exact (by decide : 1 ≤ 16777216)
theorem kept_but {K : Frag} {h h' : Heap} {x : Addr} (X : K.In h) (hx : K.lookup x = none) (k : ∀ b o, b ≠ x → h.get? b = some o → h'.get? b = some o) : K.In h' := fun a o e =>
  k a o (fun z => by rw [z, hx] at e; cases e) (X a o e)
theorem ldC {M : Model} {s : Shared} {name : Str} {scope : Scope} {L a : Addr} {cd : Value} {m : Str → Option Value} {x : Str} {pos : Pos} {v : Value} {Q : Value → Shared → Prop} {A : Around} {E : Value → Shared → Prop} (hn : s.heap.Ns L m) (hv : m x = some v) (h : Q v s)
    (hk : scope.kind = .function := by rfl) (hl : (envOfC name scope L a cd).kindOf x = some .local := by rfl) (hd : (x == ("__debug__" : Str)) = false := by decide) :
    wpAny M A (eval (.Name x pos) (envOfC name scope L a cd)) Q E s := wpAny_Name (wpAny_loadName_local hk hl hn hv h) hd
/-- what __init__ leaves of a fresh exception at x -/
structure InitEnd (h h' : Heap) (x C dx t1 : Addr) (v : Value) : Prop where
  keep : ∀ b o, b ≠ x → h.get? b = some o → h'.get? b = some o
  obj : h'.get? x = some { cls := .ref C, dict := some dx, data := .fields #[.ref t1, .none, .none, .none, .bool false, .none] }
  dbig : h.objs.size ≤ dx
  dne : dx ≠ x
  ns : h'.Ns1 dx (fun y => if y = "at" then some v else none)
/-- a made Low -/
structure OwnMade (h h' : Heap) (e C d : Addr) (v : Value) : Prop where
  keep : ∀ b o, h.get? b = some o → h'.get? b = some o
  new : h.objs.size ≤ e
  obj : ∃ oe vs, h'.get? e = some oe ∧ oe.cls = .ref C ∧ oe.dict = some d ∧ oe.data = .fields vs ∧ vs[1]? = some .none ∧ vs[2]? = some .none
  dbig : h.objs.size ≤ d
  dne : d ≠ e
  ns : h'.Ns1 d (fun y => if y = "at" then some v else none)
section
variable {prog : Program} {w : World} {A : Around} {E : Value → Shared → Prop} {R : Result → Shared → Prop} {s : Shared} {K : Frag} {mg : Str → Option Value} {nX qX : Str} {C fI : Addr}
theorem low_init (T : LowTxt K mg nX qX C fI) {x t0 : Addr} {v : Value} (X : K.In s.heap) (hlim : s.heap.NoLimit) (hx : s.heap.get? x = some (excO C t0)) (hnx : K.lookup x = none) (hroom : A.depth < recursionLimit)
    (hq : ∀ h' tk dx, InitEnd s.heap h' x C dx t0 v → R (.ok (.ret .none)) { s with heap := h', toks := tk }) :
    codeAny (model prog w) A (.call (.ref fI) ⟨[.ref x, v], []⟩) R s := by
  obtain ⟨oc, od, doc, pm, an, cdv, ct, osl, p1, p2, q1, q2, q3, q4, ho, hcd⟩ := T.fn
  obtain ⟨nm, q, N, bs, bm, sn, sub, ab, col, dd, k0, k1, k2, k3, k5, hC, hbm⟩ := T.cls
  have hcl : clsIn K C = some { name := nm, bases := bs, mro := .ref C :: bm, ns := N, qualname := q, hasDict := true, slotNames := sn, subclasses := sub, abstract := ab, collection := col, hasDel := false } := by unfold clsIn; rw [hC] <;> rfl
  refine Att.call_fn (binds := [("self", .ref x), ("at", v)]) X hlim ho hcd hroom (BindsTo.of_eq (by first | rfl | with_unfolding_all rfl)) (by first | rfl | decide | with_unfolding_all rfl) (fun s₁ IC => ?_) rfl rfl rfl
  obtain ⟨h₁, tk₁, rfl⟩ := IC.toInCall.same
  have k : ∀ b o, s.heap.get? b = some o → h₁.get? b = some o := IC.toInCall.keep
  have hn := IC.toInCall.ns
  have hxL : s.heap.objs.size ≠ x := Nat.ne_of_gt (Heap.lt_size hx)
  have X₁ : K.In h₁ := X.keeps k
  have hx₁ := k _ _ hx
  -- self.by = by
  show wpAny _ _ (execs _ _) _ _ _
  refine wpAny_execs_cons (plainObj_wpAny_Assign_Attribute ?_)
  refine ldC (v := v) hn (by first | rfl | with_unfolding_all rfl | kernel_rfl) (ldC (v := .ref x) hn (by first | rfl | with_unfolding_all rfl | kernel_rfl) ?_)
  refine set_plain X₁ (ox := excO C t0) (od := none) ⟨hx₁, rfl, rfl, trivial⟩ T.sa ?_
  refine exc_osa X₁ hx₁ hcl (show refsVE (.ref C :: bm) = true from hbm) rfl T.noN (fun h₃ tk₃ dx k₃ dn dne hx₃ hn₃ => ?_)
  show wpAny _ _ (execs _ _) _ _ _
  have z : s.heap.objs.size < h₁.objs.size := hn.lt
  exact wpAny_execs_nil (hq h₃ tk₃ dx ⟨fun b o hb e => k₃ b o hb (k b o e), hx₃, Nat.le_of_lt (Nat.lt_of_lt_of_le z dn), dne, hn₃⟩)
theorem low_made (T : LowTxt K mg nX qX C fI) {v : Value} (X : K.In s.heap) (hlim : s.heap.NoLimit) (hroom : A.depth + 1 < recursionLimit)
    (hq : ∀ h' tk e d, OwnMade s.heap h' e C d v → R (.ok (.ret (.ref e))) { s with heap := h', toks := tk }) :
    codeAny (model prog w) A (.call (.ref C) ⟨[v], []⟩) R s := by
  obtain ⟨nm, q, N, bs, bm, sn, sub, ab, col, dd, k0, k1, k2, k3, k5, hC, hbm⟩ := T.cls
  obtain ⟨hp, g, dr, tk, os⟩ := s
  have k : ∀ b o, hp.get? b = some o → ((hp.push (kdv_tup [v])).push (excO C hp.objs.size)).get? b = some o := fun b o e => Heap.get?_push_of_some _ (Heap.get?_push_of_some _ e)
  have hget : ((hp.push (kdv_tup [v])).push (excO C hp.objs.size)).get? (hp.objs.size + 1) = some (excO C hp.objs.size) := by heap_get
  have hnx : K.lookup (hp.objs.size + 1) = none := by
    cases e : K.lookup (hp.objs.size + 1) with
    | none => rfl
    | some o =>
      have z : hp.get? (hp.objs.size + 1) = some o := X _ _ e
      exact absurd (Nat.lt_of_succ_lt (Heap.lt_size z)) (Nat.lt_irrefl _)
  refine call_own F.excBase_ValueError (fun X => refsVE_contains X bm hbm) (X _ _ hC) (looks_findIn X T.iC) (fun self => bind_fn X self T.tC) (one_size v) ?_
  refine low_init (s := ⟨(hp.push (kdv_tup [v])).push (excO C hp.objs.size), g, dr, tk, os⟩) T (X.keeps k) (hlim.keeps k) hget hnx ?_ fun h' tk' dx ⟨k', hx, dn, dne, hns⟩ => ?_
  · show A.depth + 1 < recursionLimit
    exact hroom
  · have old : ∀ b o, hp.get? b = some o → h'.get? b = some o := fun b o e => k' b o (Nat.ne_of_lt (Nat.lt_succ_of_lt (Heap.lt_size e))) (k b o e)
    have z : hp.objs.size + 1 + 1 ≤ dx := by
      first
        | (simpa only [Heap.size_push] using dn)
        | exact dn
        | (have q := dn; rw [Heap.size_push, Heap.size_push] at q; exact q)
    exact ⟨rfl, hq h' tk' (hp.objs.size + 1) dx ⟨old, Nat.le_succ _, ⟨_, _, hx, rfl, rfl, rfl, rfl, rfl⟩, Nat.le_trans (Nat.le_trans (Nat.le_succ _) (Nat.le_succ _)) z, dne, hns⟩⟩
end
end LA
end PySem
namespace L2
open PySem PySem.Spec PyProof.Rows
theorem relO_low_LA {v : V} {v' : Value} (r : RelV v v') (f : Str) : RelO (List.lookup f [(("at" : Str), v)]) (if f = "at" then some v' else none) := by
  by_cases hw : f = "at"
  · subst hw
    rw [if_pos rfl]
    have q : List.lookup ("at" : Str) [(("at" : Str), v)] = some v := by simp [List.lookup]
    rw [q]
    exact r
  · rw [if_neg hw]
    have qw : (f == ("at" : Str)) = false := by simpa using hw
    have q2 : List.lookup f [(("at" : Str), v)] = none := by simp [List.lookup, qw]
    rw [q2]
    trivial
section
variable {X : Cx} {nX qX : Str} {C fI : Addr}
/-- Low(e) -/
def tMkLow_LA (C : Addr) (ta : TA) : St → Hp → XK → Prop := fun σ H Q => ta σ H fun vs H1 => ∃ v, vs = [v] ∧ ∀ d, H1 d = none → Q (.ref C) (some d) (upd H1 d (.xd [(("at" : Str), v)]))
theorem pmk_low_LA {a : Expr} {ta : TA} {p pos : Pos} {k : Nat} (T : PySem.LA.LowTxt X.K X.mg nX qX C fI) (hr : Room k X.A) (ha : PA X [a] ta) (hdb : (nX == ("__debug__" : Str)) = false) (hg : Gl X nX := by rfl)
    (he : starEach (a :: []) X.env = (false, eval a X.env) :: starEach [] X.env := by rfl) (hpl : (backTo pos (starEach [] X.env)).any (·.1) = false := by rfl) :
    L2N.PMk X (.Call (.Name nX p) [a] [] pos) (tMkLow_LA C ta) := by
  intro pins s σ H Q I h
  refine wpAny_Call_Name_kw (ld_glob I hg T.gC ?_ hdb)
  refine PySem.W.callWith_K (h₀ := X.base) I.ok.mod.kin T.kC (thn (ha.run pos pins s σ H _ I h) fun us s1 hh => ?_) he hpl
  obtain ⟨vs, H1, I1, r1, v, ev, q1⟩ := hh
  subst ev
  refine ⟨I1.kIn, ?_⟩
  cases r1 with
  | cons rv rn =>
    rename_i v' us'
    cases rn
    show wpAny _ _ (call (.ref C) [v']) _ _ _
    have hlim := I1.nolimit
    obtain ⟨hp, g, dr, tk, os⟩ := s1
    refine wpAny_call (PySem.LA.low_made T I1.kIn hlim (by have := hr.dp; omega) fun h' tk' e d M => ?_)
    show L2N.MkP X pins σ Q (.ref e) ⟨h', g, dr, tk', os⟩
    obtain ⟨oe, fv, hoe, hc, hd, hdat, h1, h2⟩ := M.obj
    have hns := M.ns
    obtain ⟨G', g1, g2⟩ := restrict h' fun b => decide (b ≠ e)
    have gk : ∀ b, b ≠ e → G'.get? b = h'.get? b := fun b hb => g1 b (decide_eq_true hb)
    have ge : G'.get? e = none := g2 e (by simp)
    have old : ∀ b o, hp.get? b = some o → G'.get? b = some o := fun b o q => (gk b (Nat.ne_of_lt (Nat.lt_of_lt_of_le (Heap.lt_size q) M.new))).trans (M.keep b o q)
    have ob : ObjOk X.prog X.w (upd H1 d (.xd [(("at" : Str), v)])) G' d (.xd [(("at" : Str), v)]) :=
      ⟨_, hns.at (fun o q => (gk d M.dne).trans q), fun f => relO_low_LA rv f⟩
    have J : Inv X pins σ (upd H1 d (.xd [(("at" : Str), v)])) ⟨G', g, dr, tk', os⟩ := I1.laid (t' := tk') old M.dbig ob
    refine ⟨e, oe, fv, ⟨G', g, dr, tk', os⟩, _, .ref C, some d, rfl, J, fun b o q => ?_, ge, hoe, ⟨hc, hd, fun vs e => by rw [hdat] at e; cases e; exact h2⟩, hdat, h1, ?_, rfl, I1.bare, raises_own T.exC T.tyC, q1 d (I1.hok.fresh M.dbig)⟩
    · by_cases hb : b = e
      · have q' : G'.get? b = some o := q
        rw [hb, ge] at q'; cases q'
      · exact (gk b hb).symm.trans q
    · rw [upd_ne (Ne.symm M.dne)]
      exact I1.hok.fresh M.new
/-- raise Low(e) -/
def tRaiseLow_LA (C : Addr) (W : WX) (ta : TA) : TS := fun _ σ H => tMkLow_LA C ta σ H fun cls d H' => W cls d σ H'
theorem ps_raiseLow_LA {a : Expr} {ta : TA} {W : WX} {p pos pos2 : Pos} {k : Nat} (hc : X.calm = true) (T : PySem.LA.LowTxt X.K X.mg nX qX C fI) (hr : Room k X.A) (tk : L2N.Takes X W) (ha : PA X [a] ta) (hdb : (nX == ("__debug__" : Str)) = false) (hg : Gl X nX := by rfl)
    (he : starEach (a :: []) X.env = (false, eval a X.env) :: starEach [] X.env := by rfl) (hpl : (backTo pos (starEach [] X.env)).any (·.1) = false := by rfl) :
    PS X (.Raise (some (.Call (.Name nX p) [a] [] pos)) none pos2) (tRaiseLow_LA C W ta) := L2N.ps_raise hc tk (pmk_low_LA T hr ha hdb hg he hpl)
/-- low.by, low the exception that the suite holds (at a; its class cls, its dict d) -/
def tByLow_LA (C : Addr) (a : Addr) (cls : Value) (d : Option Addr) (te : TE) : TE := fun σ H Q => te σ H fun x H1 => x = .ref a ∧ cls = .ref C ∧ ∃ (dd : Addr) (v : V), d = some dd ∧ H1 dd = some (.xd [(("at" : Str), v)]) ∧ Q v H1
theorem pe_byLow_LA {a : Addr} {oe : Obj} {cls : Value} {d : Option Addr} {pn : List (Addr × Obj)} {e : Expr} {te : TE} {pos : Pos} (T : PySem.LA.LowTxt X.K X.mg nX qX C fI) (hz : Zc cls d oe) (hf : ∃ vs, oe.data = .fields vs) (he : PE (X.suite a ((a, oe) :: pn)) e te)
    (hb : attributeBase e "at" X.env (eval e X.env) = eval e X.env := by rfl) :
    PE (X.suite a ((a, oe) :: pn)) (.Attribute e "at" pos) (tByLow_LA C a cls d te) := by
  refine ⟨fun pins s σ H Q I h => ?_⟩
  refine attr_of hb (thn (he.run pins s σ H _ I h) fun u s1 hh => ?_)
  obtain ⟨x, H1, I1, rx, ex, ec, dd, v, ed, ea, q⟩ := hh
  subst ex
  obtain rfl : u = Value.ref a := rx
  subst ec
  subst ed
  obtain ⟨ha, _⟩ := I1.pin (a, oe) (List.mem_append_left _ List.mem_cons_self)
  obtain ⟨vs, hd⟩ := hf
  have hx : ObjOk X.prog X.w H1 s1.heap dd (.xd [(("at" : Str), v)]) := I1.hok dd _ ea
  obtain ⟨mA, hns, hr⟩ := hx
  obtain ⟨od, ho, hl⟩ := lookIn_ns hns
  have l : List.lookup ("at" : Str) [(("at" : Str), v)] = some v := by simp [List.lookup]
  obtain ⟨u, hu, ru⟩ := RelO.some_of (v := v) (o := mA "at") (by rw [← l]; exact hr "at")
  have J : PySem.W.InstAt s1.heap a oe C (some od) := ⟨ha, hz.1, by unfold PySem.W.notCls; rw [hd] <;> rfl, by rw [hz.2]; exact ho⟩
  exact HandSPX.exc_get I1.kIn J T.ga T.gg T.exC (PySem.W.findObj_own T.hdC T.noN rfl (by rw [hl, hu])) (handed_of ru) ⟨v, H1, I1.tok _, ru, q⟩
end
end L2


namespace PySem
namespace LV
open PySem.W PySem.Calls PyProof.Rows PySem.HandSPX
/-! ### the text of __init__ -/
def iA (p1 p2 : Pos) : Arguments := { posonlyargs := [], args := [{ arg := "self", annotation := none, pos := p1 }, { arg := "value", annotation := none, pos := p2 }], vararg := none, kwonlyargs := [], kw_defaults := [], kwarg := none, defaults := [] }
def iB (q1 q2 q3 q4 : Pos) : List Stmt := [.Assign [.Attribute (.Name "self" q1) "value" q2] (.Name "value" q3) q4]
def iS : Scope := { kind := .function, names := [(PySem.Str.ofString "self", .local), (PySem.Str.ofString "value", .local)], isGenerator := false, isCoroutine := false, more := [] }
/-- what the written part says of Low, at C, and of its __init__, at fI -/
structure LowTxt (K : Frag) (mg : Str → Option Value) (nX qX : Str) (C fI : Addr) : Prop where
  gC : mg nX = some (.ref C)
  cls : ∃ nm q N bs bm sn sub ab col dd k0 k1 k2 k3 k5, K.lookup C = some (excClassObj nm q C N bs bm true sn sub ab col dd k0 k1 k2 k3 k5 "ValueError.__new__") ∧ refsVE bm = true
  sa : findIn K (.ref C) "__setattr__" = some (some (.builtin "object.__setattr__"))
  ga : findIn K (.ref C) "__getattribute__" = some (some (.builtin "BaseException.__getattribute__"))
  gg : findIn K (.ref C) "__getattr__" = some none
  noN : findIn K (.ref C) "value" = some none
  iC : findIn K (.ref C) "__init__" = some (some (.ref fI))
  tC : typeIn K (.ref fI) = some (.type "function")
  kC : keepIn K (.ref C) = true
  exC : subIn K (.ref C) (.type "BaseException") = some true
  tyC : typeIn K (.ref C) = some (.type "type")
  hdC : hasDictIn K C = true
  te : exmOne K (.ref C) (.ref C) = some true
  fn : ∃ (oc : Value) (od : Option Addr) (doc pm : Value) (an : Option Addr) (cdv ct : Value) (osl : Array (Option Value)) (p1 p2 q1 q2 q3 q4 : Pos),
    K.lookup fI = some ⟨oc, od, .func (fnOf "__init__" qX (iA p1 p2) (iB q1 q2 q3 q4) iS .none .none doc pm an cdv ct), osl⟩ ∧ codeIn K cdv qX = true
theorem one_size (v : Value) : [v].length ≤ sizeLine := by
  rw [sizeLine_eq]
  exact (by decide : 1 ≤ 16777216)
theorem kept_but {K : Frag} {h h' : Heap} {x : Addr} (X : K.In h) (hx : K.lookup x = none) (k : ∀ b o, b ≠ x → h.get? b = some o → h'.get? b = some o) : K.In h' := fun a o e =>
  k a o (fun z => by rw [z, hx] at e; cases e) (X a o e)
theorem ldC {M : Model} {s : Shared} {name : Str} {scope : Scope} {L a : Addr} {cd : Value} {m : Str → Option Value} {x : Str} {pos : Pos} {v : Value} {Q : Value → Shared → Prop} {A : Around} {E : Value → Shared → Prop} (hn : s.heap.Ns L m) (hv : m x = some v) (h : Q v s)
    (hk : scope.kind = .function := by rfl) (hl : (envOfC name scope L a cd).kindOf x = some .local := by rfl) (hd : (x == ("__debug__" : Str)) = false := by decide) :
    wpAny M A (eval (.Name x pos) (envOfC name scope L a cd)) Q E s := wpAny_Name (wpAny_loadName_local hk hl hn hv h) hd
/-- what __init__ leaves of a fresh exception at x -/
structure InitEnd (h h' : Heap) (x C dx t1 : Addr) (v : Value) : Prop where
  keep : ∀ b o, b ≠ x → h.get? b = some o → h'.get? b = some o
  obj : h'.get? x = some { cls := .ref C, dict := some dx, data := .fields #[.ref t1, .none, .none, .none, .bool false, .none] }
  dbig : h.objs.size ≤ dx
  dne : dx ≠ x
  ns : h'.Ns1 dx (fun y => if y = "value" then some v else none)
/-- a made Low -/
structure OwnMade (h h' : Heap) (e C d : Addr) (v : Value) : Prop where
  keep : ∀ b o, h.get? b = some o → h'.get? b = some o
  new : h.objs.size ≤ e
  obj : ∃ oe vs, h'.get? e = some oe ∧ oe.cls = .ref C ∧ oe.dict = some d ∧ oe.data = .fields vs ∧ vs[1]? = some .none ∧ vs[2]? = some .none
  dbig : h.objs.size ≤ d
  dne : d ≠ e
  ns : h'.Ns1 d (fun y => if y = "value" then some v else none)
section
variable {prog : Program} {w : World} {A : Around} {E : Value → Shared → Prop} {R : Result → Shared → Prop} {s : Shared} {K : Frag} {mg : Str → Option Value} {nX qX : Str} {C fI : Addr}
theorem low_init (T : LowTxt K mg nX qX C fI) {x t0 : Addr} {v : Value} (X : K.In s.heap) (hlim : s.heap.NoLimit) (hx : s.heap.get? x = some (excO C t0)) (hnx : K.lookup x = none) (hroom : A.depth < recursionLimit)
    (hq : ∀ h' tk dx, InitEnd s.heap h' x C dx t0 v → R (.ok (.ret .none)) { s with heap := h', toks := tk }) :
    codeAny (model prog w) A (.call (.ref fI) ⟨[.ref x, v], []⟩) R s := by
  obtain ⟨oc, od, doc, pm, an, cdv, ct, osl, p1, p2, q1, q2, q3, q4, ho, hcd⟩ := T.fn
  obtain ⟨nm, q, N, bs, bm, sn, sub, ab, col, dd, k0, k1, k2, k3, k5, hC, hbm⟩ := T.cls
  have hcl : clsIn K C = some { name := nm, bases := bs, mro := .ref C :: bm, ns := N, qualname := q, hasDict := true, slotNames := sn, subclasses := sub, abstract := ab, collection := col, hasDel := false } := by unfold clsIn; rw [hC] <;> rfl
  refine Att.call_fn (binds := [("self", .ref x), ("value", v)]) X hlim ho hcd hroom (BindsTo.of_eq (by first | rfl | with_unfolding_all rfl)) (by first | rfl | decide | with_unfolding_all rfl) (fun s₁ IC => ?_) rfl rfl rfl
  obtain ⟨h₁, tk₁, rfl⟩ := IC.toInCall.same
  have k : ∀ b o, s.heap.get? b = some o → h₁.get? b = some o := IC.toInCall.keep
  have hn := IC.toInCall.ns
  have hxL : s.heap.objs.size ≠ x := Nat.ne_of_gt (Heap.lt_size hx)
  have X₁ : K.In h₁ := X.keeps k
  have hx₁ := k _ _ hx
  -- self.by = by
  show wpAny _ _ (execs _ _) _ _ _
  refine wpAny_execs_cons (plainObj_wpAny_Assign_Attribute ?_)
  refine ldC (v := v) hn (by first | rfl | with_unfolding_all rfl | kernel_rfl) (ldC (v := .ref x) hn (by first | rfl | with_unfolding_all rfl | kernel_rfl) ?_)
  refine set_plain X₁ (ox := excO C t0) (od := none) ⟨hx₁, rfl, rfl, trivial⟩ T.sa ?_
  refine exc_osa X₁ hx₁ hcl (show refsVE (.ref C :: bm) = true from hbm) rfl T.noN (fun h₃ tk₃ dx k₃ dn dne hx₃ hn₃ => ?_)
  show wpAny _ _ (execs _ _) _ _ _
  have z : s.heap.objs.size < h₁.objs.size := hn.lt
  exact wpAny_execs_nil (hq h₃ tk₃ dx ⟨fun b o hb e => k₃ b o hb (k b o e), hx₃, Nat.le_of_lt (Nat.lt_of_lt_of_le z dn), dne, hn₃⟩)
theorem low_made (T : LowTxt K mg nX qX C fI) {v : Value} (X : K.In s.heap) (hlim : s.heap.NoLimit) (hroom : A.depth + 1 < recursionLimit)
    (hq : ∀ h' tk e d, OwnMade s.heap h' e C d v → R (.ok (.ret (.ref e))) { s with heap := h', toks := tk }) :
    codeAny (model prog w) A (.call (.ref C) ⟨[v], []⟩) R s := by
  obtain ⟨nm, q, N, bs, bm, sn, sub, ab, col, dd, k0, k1, k2, k3, k5, hC, hbm⟩ := T.cls
  obtain ⟨hp, g, dr, tk, os⟩ := s
  have k : ∀ b o, hp.get? b = some o → ((hp.push (kdv_tup [v])).push (excO C hp.objs.size)).get? b = some o := fun b o e => Heap.get?_push_of_some _ (Heap.get?_push_of_some _ e)
  have hget : ((hp.push (kdv_tup [v])).push (excO C hp.objs.size)).get? (hp.objs.size + 1) = some (excO C hp.objs.size) := by heap_get
  have hnx : K.lookup (hp.objs.size + 1) = none := by
    cases e : K.lookup (hp.objs.size + 1) with
    | none => rfl
    | some o =>
      have z : hp.get? (hp.objs.size + 1) = some o := X _ _ e
      exact absurd (Nat.lt_of_succ_lt (Heap.lt_size z)) (Nat.lt_irrefl _)
  refine call_own F.excBase_ValueError (fun X => refsVE_contains X bm hbm) (X _ _ hC) (looks_findIn X T.iC) (fun self => bind_fn X self T.tC) (one_size v) ?_
  refine low_init (s := ⟨(hp.push (kdv_tup [v])).push (excO C hp.objs.size), g, dr, tk, os⟩) T (X.keeps k) (hlim.keeps k) hget hnx ?_ fun h' tk' dx ⟨k', hx, dn, dne, hns⟩ => ?_
  · show A.depth + 1 < recursionLimit
    exact hroom
  · have old : ∀ b o, hp.get? b = some o → h'.get? b = some o := fun b o e => k' b o (Nat.ne_of_lt (Nat.lt_succ_of_lt (Heap.lt_size e))) (k b o e)
    have z : hp.objs.size + 1 + 1 ≤ dx := by
      first
        | (simpa only [Heap.size_push] using dn)
        | exact dn
        | (have q := dn; rw [Heap.size_push, Heap.size_push] at q; exact q)
    exact ⟨rfl, hq h' tk' (hp.objs.size + 1) dx ⟨old, Nat.le_succ _, ⟨_, _, hx, rfl, rfl, rfl, rfl, rfl⟩, Nat.le_trans (Nat.le_trans (Nat.le_succ _) (Nat.le_succ _)) z, dne, hns⟩⟩
end
end LV
end PySem
namespace L2
open PySem PySem.Spec PyProof.Rows
theorem relO_low_LV {v : V} {v' : Value} (r : RelV v v') (f : Str) : RelO (List.lookup f [(("value" : Str), v)]) (if f = "value" then some v' else none) := by
  by_cases hw : f = "value"
  · subst hw
    rw [if_pos rfl]
    have q : List.lookup ("value" : Str) [(("value" : Str), v)] = some v := by simp [List.lookup]
    rw [q]
    exact r
  · rw [if_neg hw]
    have qw : (f == ("value" : Str)) = false := by simpa using hw
    have q2 : List.lookup f [(("value" : Str), v)] = none := by simp [List.lookup, qw]
    rw [q2]
    trivial
section
variable {X : Cx} {nX qX : Str} {C fI : Addr}
/-- Low(e) -/
def tMkLow_LV (C : Addr) (ta : TA) : St → Hp → XK → Prop := fun σ H Q => ta σ H fun vs H1 => ∃ v, vs = [v] ∧ ∀ d, H1 d = none → Q (.ref C) (some d) (upd H1 d (.xd [(("value" : Str), v)]))
theorem pmk_low_LV {a : Expr} {ta : TA} {p pos : Pos} {k : Nat} (T : PySem.LV.LowTxt X.K X.mg nX qX C fI) (hr : Room k X.A) (ha : PA X [a] ta) (hdb : (nX == ("__debug__" : Str)) = false) (hg : Gl X nX := by rfl)
    (he : starEach (a :: []) X.env = (false, eval a X.env) :: starEach [] X.env := by rfl) (hpl : (backTo pos (starEach [] X.env)).any (·.1) = false := by rfl) :
    L2N.PMk X (.Call (.Name nX p) [a] [] pos) (tMkLow_LV C ta) := by
  intro pins s σ H Q I h
  refine wpAny_Call_Name_kw (ld_glob I hg T.gC ?_ hdb)
  refine PySem.W.callWith_K (h₀ := X.base) I.ok.mod.kin T.kC (thn (ha.run pos pins s σ H _ I h) fun us s1 hh => ?_) he hpl
  obtain ⟨vs, H1, I1, r1, v, ev, q1⟩ := hh
  subst ev
  refine ⟨I1.kIn, ?_⟩
  cases r1 with
  | cons rv rn =>
    rename_i v' us'
    cases rn
    show wpAny _ _ (call (.ref C) [v']) _ _ _
    have hlim := I1.nolimit
    obtain ⟨hp, g, dr, tk, os⟩ := s1
    refine wpAny_call (PySem.LV.low_made T I1.kIn hlim (by have := hr.dp; omega) fun h' tk' e d M => ?_)
    show L2N.MkP X pins σ Q (.ref e) ⟨h', g, dr, tk', os⟩
    obtain ⟨oe, fv, hoe, hc, hd, hdat, h1, h2⟩ := M.obj
    have hns := M.ns
    obtain ⟨G', g1, g2⟩ := restrict h' fun b => decide (b ≠ e)
    have gk : ∀ b, b ≠ e → G'.get? b = h'.get? b := fun b hb => g1 b (decide_eq_true hb)
    have ge : G'.get? e = none := g2 e (by simp)
    have old : ∀ b o, hp.get? b = some o → G'.get? b = some o := fun b o q => (gk b (Nat.ne_of_lt (Nat.lt_of_lt_of_le (Heap.lt_size q) M.new))).trans (M.keep b o q)
    have ob : ObjOk X.prog X.w (upd H1 d (.xd [(("value" : Str), v)])) G' d (.xd [(("value" : Str), v)]) :=
      ⟨_, hns.at (fun o q => (gk d M.dne).trans q), fun f => relO_low_LV rv f⟩
    have J : Inv X pins σ (upd H1 d (.xd [(("value" : Str), v)])) ⟨G', g, dr, tk', os⟩ := I1.laid (t' := tk') old M.dbig ob
    refine ⟨e, oe, fv, ⟨G', g, dr, tk', os⟩, _, .ref C, some d, rfl, J, fun b o q => ?_, ge, hoe, ⟨hc, hd, fun vs e => by rw [hdat] at e; cases e; exact h2⟩, hdat, h1, ?_, rfl, I1.bare, raises_own T.exC T.tyC, q1 d (I1.hok.fresh M.dbig)⟩
    · by_cases hb : b = e
      · have q' : G'.get? b = some o := q
        rw [hb, ge] at q'; cases q'
      · exact (gk b hb).symm.trans q
    · rw [upd_ne (Ne.symm M.dne)]
      exact I1.hok.fresh M.new
/-- raise Low(e) -/
def tRaiseLow_LV (C : Addr) (W : WX) (ta : TA) : TS := fun _ σ H => tMkLow_LV C ta σ H fun cls d H' => W cls d σ H'
theorem ps_raiseLow_LV {a : Expr} {ta : TA} {W : WX} {p pos pos2 : Pos} {k : Nat} (hc : X.calm = true) (T : PySem.LV.LowTxt X.K X.mg nX qX C fI) (hr : Room k X.A) (tk : L2N.Takes X W) (ha : PA X [a] ta) (hdb : (nX == ("__debug__" : Str)) = false) (hg : Gl X nX := by rfl)
    (he : starEach (a :: []) X.env = (false, eval a X.env) :: starEach [] X.env := by rfl) (hpl : (backTo pos (starEach [] X.env)).any (·.1) = false := by rfl) :
    PS X (.Raise (some (.Call (.Name nX p) [a] [] pos)) none pos2) (tRaiseLow_LV C W ta) := L2N.ps_raise hc tk (pmk_low_LV T hr ha hdb hg he hpl)
/-- low.by, low the exception that the suite holds (at a; its class cls, its dict d) -/
def tByLow_LV (C : Addr) (a : Addr) (cls : Value) (d : Option Addr) (te : TE) : TE := fun σ H Q => te σ H fun x H1 => x = .ref a ∧ cls = .ref C ∧ ∃ (dd : Addr) (v : V), d = some dd ∧ H1 dd = some (.xd [(("value" : Str), v)]) ∧ Q v H1
theorem pe_byLow_LV {a : Addr} {oe : Obj} {cls : Value} {d : Option Addr} {pn : List (Addr × Obj)} {e : Expr} {te : TE} {pos : Pos} (T : PySem.LV.LowTxt X.K X.mg nX qX C fI) (hz : Zc cls d oe) (hf : ∃ vs, oe.data = .fields vs) (he : PE (X.suite a ((a, oe) :: pn)) e te)
    (hb : attributeBase e "value" X.env (eval e X.env) = eval e X.env := by rfl) :
    PE (X.suite a ((a, oe) :: pn)) (.Attribute e "value" pos) (tByLow_LV C a cls d te) := by
  refine ⟨fun pins s σ H Q I h => ?_⟩
  refine attr_of hb (thn (he.run pins s σ H _ I h) fun u s1 hh => ?_)
  obtain ⟨x, H1, I1, rx, ex, ec, dd, v, ed, ea, q⟩ := hh
  subst ex
  obtain rfl : u = Value.ref a := rx
  subst ec
  subst ed
  obtain ⟨ha, _⟩ := I1.pin (a, oe) (List.mem_append_left _ List.mem_cons_self)
  obtain ⟨vs, hd⟩ := hf
  have hx : ObjOk X.prog X.w H1 s1.heap dd (.xd [(("value" : Str), v)]) := I1.hok dd _ ea
  obtain ⟨mA, hns, hr⟩ := hx
  obtain ⟨od, ho, hl⟩ := lookIn_ns hns
  have l : List.lookup ("value" : Str) [(("value" : Str), v)] = some v := by simp [List.lookup]
  obtain ⟨u, hu, ru⟩ := RelO.some_of (v := v) (o := mA "value") (by rw [← l]; exact hr "value")
  have J : PySem.W.InstAt s1.heap a oe C (some od) := ⟨ha, hz.1, by unfold PySem.W.notCls; rw [hd] <;> rfl, by rw [hz.2]; exact ho⟩
  exact HandSPX.exc_get I1.kIn J T.ga T.gg T.exC (PySem.W.findObj_own T.hdC T.noN rfl (by rw [hl, hu])) (handed_of ru) ⟨v, H1, I1.tok _, ru, q⟩
end
end L2

namespace Y
open PySem PySem.Spec PyProof.Rows L2
/-! ### errors -/
def rRaise (n : String) (F : Str) (ra : RA) : RSt := fun D σ S => ra σ S (fun ds S1 => match ds with | [x] => D.ex n [(F, x)] σ S1 | _ => False) (D.x σ)
def rNever : RSt := fun _ _ _ => False
def rCallX (sp : Sq) (ra : RA) : RE := fun σ S Q E => ra σ S (fun ds S1 => sp ds S1 Q E) E
section
variable {X : Cx} {W : WX} {e a : Expr} {es : List Expr} {ra : RA} {x : Str} {p pos pos2 : Pos} {n : String} {qX : Str} {C fI : Addr} {k : Nat}
theorem es_never {st : Stmt} : ES X W st rNever := ⟨_, ps_never, fun _ _ _ _ _ _ _ _ h _ => h.elim⟩
theorem es_raiseA (T : PySem.LA.LowTxt X.K X.mg (Str.ofString n) qX C fI) (cn : CN X.K n C) (hc : X.calm = true) (hr : Room k X.A) (tk : L2N.Takes X W) (ha : EA X W [a] ra) (hdb : ((Str.ofString n) == ("__debug__" : Str)) = false := by decide) (hg : Gl X (Str.ofString n) := by rfl)
    (he : starEach (a :: []) X.env = (false, eval a X.env) :: starEach [] X.env := by rfl) (hpl : (backTo pos (starEach [] X.env)).any (·.1) = false := by rfl) :
    ES X W (.Raise (some (.Call (.Name (Str.ofString n) p) [a] [] pos)) none pos2) (rRaise n "at" ra) := by
  obtain ⟨Ta, pa, la⟩ := ha.ex
  refine ⟨_, ps_raiseLow_LA hc T hr tk pa hdb hg he hpl, fun σ σ' H S D D' rs rh h d => ?_⟩
  refine la σ σ' H S _ _ _ rs rh h (fun ds S1 v H1 f1 rh1 dv h1 => ?_) (d.xi rh rs)
  match ds, dv, h1 with
  | [x], .cons (v := v) dx .nil, h1 =>
    refine ⟨v, rfl, fun dd hd => ?_⟩
    have f2 : Fr S1 H1 S1 (upd H1 dd (.xd [(("at" : Str), v)])) := Fr.new rh1 hd
    have t2 := f2.tle rh1
    refine d.ex n C _ _ S1 σ _ dd cn (f1.trans f2) (rh1.new hd) (rs.mono ((f1.trans f2).tle rh)) ⟨_, upd_same, .cons (DV.mono t2 _ _ dx) .nil⟩ ⟨fun o e z => ?_, rh1.fresh hd⟩ h1
    have := (f1 dd o e z).1
    rw [hd] at this; cases this
theorem es_raiseV (T : PySem.LV.LowTxt X.K X.mg (Str.ofString n) qX C fI) (cn : CN X.K n C) (hc : X.calm = true) (hr : Room k X.A) (tk : L2N.Takes X W) (ha : EA X W [a] ra) (hdb : ((Str.ofString n) == ("__debug__" : Str)) = false := by decide) (hg : Gl X (Str.ofString n) := by rfl)
    (he : starEach (a :: []) X.env = (false, eval a X.env) :: starEach [] X.env := by rfl) (hpl : (backTo pos (starEach [] X.env)).any (·.1) = false := by rfl) :
    ES X W (.Raise (some (.Call (.Name (Str.ofString n) p) [a] [] pos)) none pos2) (rRaise n "value" ra) := by
  obtain ⟨Ta, pa, la⟩ := ha.ex
  refine ⟨_, ps_raiseLow_LV hc T hr tk pa hdb hg he hpl, fun σ σ' H S D D' rs rh h d => ?_⟩
  refine la σ σ' H S _ _ _ rs rh h (fun ds S1 v H1 f1 rh1 dv h1 => ?_) (d.xi rh rs)
  match ds, dv, h1 with
  | [x], .cons (v := v) dx .nil, h1 =>
    refine ⟨v, rfl, fun dd hd => ?_⟩
    have f2 : Fr S1 H1 S1 (upd H1 dd (.xd [(("value" : Str), v)])) := Fr.new rh1 hd
    have t2 := f2.tle rh1
    refine d.ex n C _ _ S1 σ _ dd cn (f1.trans f2) (rh1.new hd) (rs.mono ((f1.trans f2).tle rh)) ⟨_, upd_same, .cons (DV.mono t2 _ _ dx) .nil⟩ ⟨fun o e z => ?_, rh1.fresh hd⟩ h1
    have := (f1 dd o e z).1
    rw [hd] at this; cases this
/-- a def that may raise is called -/
theorem ev_callX {fa : Addr} {fd : FuncData} {ps : List Str} {sp : Sq} (F : FnOk X.prog X.w X.K X.mg X.base (L2N.CX X.prog X.w) k fa fd ps (dn X.K sp)) (hr : Room k X.A) (tk : L2N.Takes X W) (hm : X.mg x = some (.ref fa)) (hk : PySem.W.keepIn X.K (.ref fa) = true) (hb : Binds X.K fd ps [])
    (ha : EA X W (e :: es) ra) (hg : Gl X x := by rfl) (hdb : (x == ("__debug__" : Str)) = false := by decide) (he : starEach (e :: es) X.env = (false, eval e X.env) :: starEach es X.env := by rfl) (hpl : (backTo pos (starEach es X.env)).any (·.1) = false := by rfl) :
    EV X W (.Call (.Name x p) (e :: es) [] pos) (rCallX sp ra) := by
  obtain ⟨Ta, pa, la⟩ := ha.ex
  refine ⟨_, pe_callS F hr hg hm hk hb (fun σ => L2N.passAt tk σ) pa hdb he hpl, fun σ σ' H S Q Q' E' rs rh h q xi => ?_⟩
  refine la σ σ' H S _ _ E' rs rh h (fun d S1 v H1 f1 rh1 dv h1 => ?_) xi
  exact ⟨d, S1, Q', E', dv, rh1, h1, q.go f1, xi.go f1⟩
end
theorem Fun.okC {CX : CXT} {P : Program} {w : World} {K : PySem.W.Frag} {mg : Str → Option Value} {base : Heap} {x qual : Str} {st : Stmt} {f : Addr} {fd : FuncData} {N ps : List Str} {k : Nat} {sp : Sp} (F : Fun K x qual st f fd) (S : FnScope N ps (defScope st)) (len : ∀ vs H Q E, sp vs H Q E → vs.length = ps.length)
    (hbody : ∀ (cdv : Value) (A : Around) (outer : List Env) (s : Shared) (H : Hp) (vs : List V) (Q : VK) (E : XK), Room k (A.deeper (envOfC qual (defScope st) s.heap.objs.size f cdv)) → sp vs H Q E →
      ∃ t, PSs (cxOf CX P w K mg base N qual (defScope st) f cdv A outer s H E) (defBody st) t ∧ t { nx := fun _ H' => Q .non H', rt := Q } (L2.start N vs) H) : FnOk P w K mg base CX (k + 1) f fd ps sp := by
  obtain ⟨oc, od, kV, doc, pm, an, cdv, ct, osl, rfl, lk, hcd⟩ := F.ex
  exact fn_of lk hcd S len fun A outer s H vs Q E hr hsp => hbody cdv A outer s H vs Q E hr hsp
section
variable {P : Program} {w : World} {K : PySem.W.Frag} {mg : Str → Option Value} {base : Heap}
/-- a def that may raise -/
theorem fn_okX {x qual : Str} {st : Stmt} {f : Addr} {fd : FuncData} {N ps : List Str} {k : Nat} {sp : Sq} {t : RSt} (F : Fun K x qual st f fd) (Sc : FnScope N ps (defScope st)) (len : ∀ ds S Q E, sp ds S Q E → ds.length = ps.length)
    (hb : ∀ (cdv : Value) (A : Around) (outer : List Env) (s : Shared) (H : Hp) (E : XK), Room k (A.deeper (envOfC qual (defScope st) s.heap.objs.size f cdv)) → L2N.Takes (cxOf (L2N.CX P w) P w K mg base N qual (defScope st) f cdv A outer s H E) (fun cls d _ H => E cls d H) →
      EB (cxOf (L2N.CX P w) P w K mg base N qual (defScope st) f cdv A outer s H E) (fun cls d _ H => E cls d H) (defBody st) t)
    (pure' : ∀ ds S Q E, sp ds S Q E → t { nx := fun _ S => Q .non S, rt := Q, ex := fun n fs _ S => E n fs S } (start' N.length ds) S) : FnOk P w K mg base (L2N.CX P w) (k + 1) f fd ps (dn K sp) := by
  refine Y.Fun.okC F Sc (fun vs H Q E h => ?_) (fun cdv A outer s H vs Q E hr h => ?_)
  · obtain ⟨ds, S, Q', E', dv, _, h, _⟩ := h
    rw [← dv.length]
    exact len _ _ _ _ h
  · obtain ⟨ds, S, Q', E', dv, rh, h, q, xi⟩ := h
    obtain ⟨T, p, l⟩ := (hb cdv A outer s H E hr (L2N.takes_of rfl rfl rfl rfl)).ex
    refine ⟨T, p, ?_⟩
    refine l _ (start' N.length ds) H S _ _ (rs_start N dv) rh (pure' _ _ _ _ h) ⟨fun σ' S' σ H' f rh' rs h' => ?_, q, fun _ _ _ _ _ _ _ z => z.elim, fun _ _ _ _ _ _ _ z => z.elim, fun n C fs σ' S' σ H' d c f rh' rs' ok nw h' => xi n C fs S' H' d c f rh' ok nw h'⟩
    exact q _ _ _ _ f rh' .non h'
end
/-! ### try .. except -/
theorem RS.setN {K : PySem.W.Frag} {H : Hp} {σ' : Sg} {σ : L2.St} (x : RS K H σ' σ) (i : Nat) : RS K H (σ'.set i none) (σ.set i none) := RS.wipe x [i]
/-- D's ends, behind a suite whose name's slot i is forgotten -/
def En.wip (D : En) (i : Nat) : En := { nx := fun σ S => D.nx (σ.set i none) S, rt := D.rt, bk := fun σ S => D.bk (σ.set i none) S, ct := fun σ S => D.ct (σ.set i none) S, ex := fun _ _ _ _ => False }
/-- m: the class that the clause names; is: what is one of it -/
def rTryAs (m : String → Option Bool) (i : Nat) (rb : RSt) (rs : String → Addr → Addr → RSt) : RSt := fun D σ S =>
  rb { D with ex := fun n fs σ1 S1 => ∃ b, m n = some b ∧ (b = true → ∀ a dd, S1 dd = none → a ≠ dd → rs n a dd (D.wip i) (σ1.set i (some (.ref a))) (up S1 dd (.exd fs))) ∧ (b = false → D.ex n fs σ1 S1) } σ S
def rTryOnly (m : String → Option Bool) (rb : RSt) (rs : String → RSt) : RSt := fun D σ S =>
  rb { D with ex := fun n fs σ1 S1 => ∃ b, m n = some b ∧ (b = true → rs n { D with ex := fun _ _ _ _ => False } σ1 S1) ∧ (b = false → D.ex n fs σ1 S1) } σ S
/-- the except clause tells a class by m -/
def MOk (K : PySem.W.Frag) (c : Value) (m : String → Option Bool) : Prop := ∀ n C b, CN K n C → m n = some b → PySem.W.exmOne K (.ref C) c = some b
section
variable {X : Cx} {Wout : WX} {n x : Str} {c : Value} {body suite : List Stmt} {b₀ : Stmt} {pos pos' np : Pos} {rb : RSt} {rs : String → Addr → Addr → RSt} {m : String → Option Bool} {i : Nat}
theorem Fr.exd {S S' : Hq} {H H' : Hp} {d : Addr} {fs : List (Str × D)} (f : Fr S H S' H') (nw : Nw S H S' d) : Fr S H (up S' d (.exd fs)) H' := fun b o e z => by
  obtain ⟨e', z'⟩ := f b o e z
  have hb : b ≠ d := fun q => by subst q; exact nw.1 o e z
  exact ⟨e', by rw [up_ne hb]; exact z'⟩
theorem RH.exd {K : PySem.W.Frag} {S : Hq} {H : Hp} {d : Addr} {fs : List (Str × D)} (r : RH K S H) (ok : XOk K H d fs) : RH K (up S d (.exd fs)) H := fun b o e => by
  by_cases hb : b = d
  · subst hb; rw [up_same] at e; cases e; exact ok
  · rw [up_ne hb] at e
    obtain ⟨ys, hd, _⟩ := ok
    exact (r b o e).stay ⟨fun _ _ h => h, fun _ _ h => h⟩ (fun c q e n => ⟨e, by rw [up_ne (fun z => by rw [z, hd] at e; cases e)]; exact n⟩) rfl
theorem es_tryAs (hs : X.stack = X.env :: X.outer) (hf : X.env.frame = some X.env.locals) (hN : X.N.Nodup) (hi : X.N[i]? = some n) (hln : X.env.kindOf n = some .local) (hc : Names X x c) (tk : L2N.Takes X Wout) (mo : MOk X.K c m)
    (hb : ∀ (W : WX) (pn : List (Addr × Obj)) (xe : Value → Shared → Prop), L2N.Takes (X.tr pn xe) W → PassesOwn (model X.prog X.w) X.A X.env xe → EB (X.tr pn xe) W body rb)
    (hsu : ∀ (cn : String) (C a : Addr) (oe : Obj) (d : Addr) (pn : List (Addr × Obj)), CN X.K cn C → L2N.Zn (.ref C) (some d) oe → (∃ vs, oe.data = .fields vs) → EB (X.suite a ((a, oe) :: pn)) W0 (b₀ :: suite) (rs cn a d)) :
    ES X Wout (.Try body [.ExceptHandler (some (.Name x np)) (some n) (b₀ :: suite) pos'] [] [] pos) (rTryAs m i rb rs) := by
  refine ⟨_, L2N.ps_try_as (tb := fun W => dnB X.K W rb) (ts := fun a cls d => fun D σ H => ∃ cn C dd, cls = .ref C ∧ d = some dd ∧ CN X.K cn C ∧ dnB X.K W0 (rs cn a dd) D σ H) (Wout := Wout) hs hf hN hi hln hc tk (fun W pn xe tk' po => (hb W pn xe tk' po).pe) (fun a oe cls d pn hz hf => ⟨fun pins s σ H D I h => ?_⟩), fun σ σ' H S D D' rs' rh h d => ?_⟩
  · obtain ⟨cn, C, dd, rfl, rfl, cc, h⟩ := h
    exact (hsu cn C a oe dd pn cc hz hf).pe.run pins s σ H D I h
  · refine ⟨σ', S, _, rs', rh, h, d.nx, d.rt, d.bk, d.ct, fun cn C fs σ1' S1 σ1 H1 dd cc f1 rh1 rs1 ok nw h1 => ?_⟩
    obtain ⟨b, eb, h2, h3⟩ := h1
    refine ⟨b, mo cn C b cc eb, fun hb' a ha => ?_, fun hb' => d.ex cn C fs σ1' S1 σ1 H1 dd cc f1 rh1 rs1 ok nw (h3 hb')⟩
    have had : a ≠ dd := fun z => by obtain ⟨ys, q, _⟩ := ok; rw [z, q] at ha; cases ha
    have f2 := f1.exd (fs := fs) nw
    have d2 := d.go f2
    refine ⟨cn, C, dd, rfl, rfl, cc, _, _, _, rs1.set (.ref a) i, rh1.exd ok, h2 hb' a dd nw.2 had, ⟨fun σ2' S2 σ2 H2 f3 rh2 rs2 h => d2.nx _ _ _ _ f3 rh2 (rs2.setN i) h, d2.rt, fun σ2' S2 σ2 H2 f3 rh2 rs2 h => d2.bk _ _ _ _ f3 rh2 (rs2.setN i) h, fun σ2' S2 σ2 H2 f3 rh2 rs2 h => d2.ct _ _ _ _ f3 rh2 (rs2.setN i) h, fun _ _ _ _ _ _ _ _ _ _ _ _ _ _ z => z.elim⟩⟩
theorem es_tryOnly {rs : String → RSt} (hs : X.stack = X.env :: X.outer) (hf : X.env.frame = some X.env.locals) (hc : Names X x c) (tk : L2N.Takes X Wout) (mo : MOk X.K c m)
    (hb : ∀ (W : WX) (pn : List (Addr × Obj)) (xe : Value → Shared → Prop), L2N.Takes (X.tr pn xe) W → PassesOwn (model X.prog X.w) X.A X.env xe → EB (X.tr pn xe) W body rb)
    (hsu : ∀ (cn : String) (C a : Addr) (oe : Obj) (d : Addr) (pn : List (Addr × Obj)), CN X.K cn C → L2N.Zn (.ref C) (some d) oe → (∃ vs, oe.data = .fields vs) → EB (X.suite a ((a, oe) :: pn)) W0 (b₀ :: suite) (rs cn)) :
    ES X Wout (.Try body [.ExceptHandler (some (.Name x np)) none (b₀ :: suite) pos'] [] [] pos) (rTryOnly m rb rs) := by
  refine ⟨_, L2N.ps_try_many (tb := fun W => dnB X.K W rb) (l := [(c, fun a cls d => fun D σ H => ∃ cn C dd, cls = .ref C ∧ d = some dd ∧ CN X.K cn C ∧ dnB X.K W0 (rs cn) D σ H)]) (Wout := Wout) hs hf tk (fun W pn xe tk' po => (hb W pn xe tk' po).pe) (.cons hc (fun a oe cls d pn hz hf => ⟨fun pins s σ H D I h => ?_⟩) .nil), fun σ σ' H S D D' rs' rh h d => ?_⟩
  · obtain ⟨cn, C, dd, rfl, rfl, cc, h⟩ := h
    exact (hsu cn C a oe dd pn cc hz hf).pe.run pins s σ H D I h
  · refine ⟨σ', S, _, rs', rh, h, d.nx, d.rt, d.bk, d.ct, fun cn C fs σ1' S1 σ1 H1 dd cc f1 rh1 rs1 ok nw h1 => ?_⟩
    obtain ⟨b, eb, h2, h3⟩ := h1
    refine ⟨b, mo cn C b cc eb, fun hb' a ha => ?_, fun hb' => d.ex cn C fs σ1' S1 σ1 H1 dd cc f1 rh1 rs1 ok nw (h3 hb')⟩
    have d2 := d.go f1
    exact ⟨cn, C, dd, rfl, rfl, cc, _, _, _, rs1, rh1, h2 hb', ⟨d2.nx, d2.rt, d2.bk, d2.ct, fun _ _ _ _ _ _ _ _ _ _ _ _ _ _ z => z.elim⟩⟩
end
/-! ### defs that are called within a suite -/
theorem hot_suite {X : Cx} {a : Addr} {oe : Obj} {cls : Value} {d : Option Addr} {pn : List (Addr × Obj)} (hz : L2N.Zn cls d oe) (hf : ∃ vs, oe.data = .fields vs) : L2H.HotC (X.suite a ((a, oe) :: pn)) :=
  ⟨(a, oe), ⟨rfl, hf.elim fun vs e => ⟨vs, e, hz.2.2 vs e⟩⟩, List.mem_cons_self⟩
theorem RoomH.mono' {j k : Nat} {A : Around} (r : L2H.RoomH k A) (h : j ≤ k) : L2H.RoomH j A := r.mono h
theorem fn_okH {P : Program} {w : World} {K : PySem.W.Frag} {mg : Str → Option Value} {base : Heap} {x qual : Str} {st : Stmt} {f : Addr} {fd : FuncData} {N ps : List Str} {k : Nat} {sp : Sq} {t : RSt} (F : Fun K x qual st f fd) (Sc : FnScope N ps (defScope st)) (len : ∀ ds S Q E, sp ds S Q E → ds.length = ps.length)
    (hb : ∀ (cdv : Value) (A : Around) (outer : List Env) (s : Shared) (H : Hp) (E : XK) (p : Addr × Obj), L2H.Hot1 A p → L2H.RoomH k (A.deeper (envOfC qual (defScope st) s.heap.objs.size f cdv)) →
      EB (L2H.cxH CX0 P w K mg base N qual (defScope st) f cdv A outer s H E p) W0 (defBody st) t)
    (pure' : ∀ ds S Q, sp ds S Q NoX → t { nx := fun _ S => Q .non S, rt := Q } (start' N.length ds) S) (nx : ∀ ds S Q E, sp ds S Q E → sp ds S Q NoX) : L2H.FnH P w K mg base CX0 (k + 1) f fd ps (dn K sp) := by
  obtain ⟨oc, od, kV, doc, pm, an, cdv, ct, osl, rfl, lk, hcd⟩ := F.ex
  refine L2H.fn_ofH lk hcd Sc (fun vs H Q E h => ?_) (fun A outer s H vs Q E p hot hr h => ?_)
  · obtain ⟨ds, S, Q', E', dv, _, h, _⟩ := h
    rw [← dv.length]
    exact len _ _ _ _ h
  · obtain ⟨ds, S, Q', E', dv, rh, h, q, xi⟩ := h
    obtain ⟨T, p, l⟩ := (hb cdv A outer s H E p hot hr).ex
    refine ⟨T, p, ?_⟩
    refine l _ (start' N.length ds) H S _ _ (rs_start N dv) rh (pure' _ _ _ (nx _ _ _ _ h)) ⟨fun σ' S' σ H' f rh' rs h' => ?_, q, fun _ _ _ _ _ _ _ z => z.elim, fun _ _ _ _ _ _ _ z => z.elim, fun _ _ _ _ _ _ _ _ _ _ _ _ _ _ z => z.elim⟩
    exact q _ _ _ _ f rh' .non h'
/-- .. is called -/
theorem ev_callH {X : Cx} {W : WX} {k : Nat} {x : Str} {fa : Addr} {fd : FuncData} {ps : List Str} {sp : Sq} {e : Expr} {es : List Expr} {ra : RA} {p pos : Pos} (F : L2H.FnH X.prog X.w X.K X.mg X.base CX0 k fa fd ps (dn X.K sp)) (hr : L2H.RoomH k X.A) (hc : L2H.HotC X) (hm : X.mg x = some (.ref fa)) (hk : PySem.W.keepIn X.K (.ref fa) = true) (hb : Binds X.K fd ps [])
    (ha : EA X W (e :: es) ra) (hg : Gl X x := by rfl) (hdb : (x == ("__debug__" : Str)) = false := by decide) (he : starEach (e :: es) X.env = (false, eval e X.env) :: starEach es X.env := by rfl) (hpl : (backTo pos (starEach es X.env)).any (·.1) = false := by rfl) :
    EV X W (.Call (.Name x p) (e :: es) [] pos) (rCall sp ra) := by
  obtain ⟨Ta, pa, la⟩ := ha.ex
  refine ⟨_, L2H.pe_callH (E := fun _ _ _ _ => False) F hr hc hg hm hk hb (fun σ _ _ _ _ _ _ c => False.elim c) pa hdb he hpl, fun σ σ' H S Q Q' E' rs rh h q xi => ?_⟩
  refine la σ σ' H S _ _ E' rs rh h (fun d S1 v H1 f1 rh1 dv h1 => ?_) xi
  exact ⟨d, S1, Q', NoX, dv, rh1, h1, q.go f1, XI.no⟩
end Y
set_option maxHeartbeats 2000000
namespace Y
open PySem PySem.Spec PyProof.Rows L2
/-! ### own objects -/
structure Kc (K : PySem.W.Frag) (n : String) (C : Addr) : Prop where
  cn : CN K n C
  cls : Cls K C
def putD (f : Str) (v : D) : List (Str × D) → List (Str × D)
  | [] => [(f, v)]
  | (g, x) :: r => if g = f then (g, v) :: r else (g, x) :: putD f v r
def fldD (n : String) (f : Str) (x : D) (S : Hq) (Q : Qv) : Prop := match x with
  | .ref a => ∃ fs d, S a = some (.ins n fs) ∧ fs.lookup f = some d ∧ Q d S
  | _ => False
def sfldD (n : String) (f : Str) (x y : D) (S : Hq) (N : Hq → Prop) : Prop := match x with
  | .ref a => ∃ fs, S a = some (.ins n fs) ∧ fs.length < 100 ∧ N (up S a (.ins n (putD f y fs)))
  | _ => False
def metD (n : String) (m : Str) (x : D) (S : Hq) (N : Prop) : Prop := match x with
  | .ref a => ∃ fs, S a = some (.ins n fs) ∧ fs.lookup m = none ∧ N
  | _ => False
def rFld (n : String) (f : Str) (ro : RE) : RE := fun σ S Q E => ro σ S (fun x S1 => fldD n f x S1 Q) E
def rSetF (n : String) (f : Str) (rv ro : RE) : RSt := fun D σ S => rv σ S (fun y S1 => ro σ S1 (fun x S2 => sfldD n f x y S2 (fun S3 => D.nx σ S3)) (D.x σ)) (D.x σ)
def rMet (n : String) (m : Str) (sp : Sq) (ro : RE) (ra : RA) : RE := fun σ S Q E => ro σ S (fun x S1 => metD n m x S1 (ra σ S1 (fun ds S2 => sp (x :: ds) S2 Q NoX) E)) E
def rMetX (n : String) (m : Str) (sp : Sq) (ro : RE) (ra : RA) : RE := fun σ S Q E => ro σ S (fun x S1 => metD n m x S1 (ra σ S1 (fun ds S2 => sp (x :: ds) S2 Q E) E)) E
def rMake (n : String) (sp : Sq) (ra : RA) : RE := fun σ S Q E => ra σ S (fun ds S1 => ∀ a, S1 a = none → sp (.ref a :: ds) (up S1 a (.ins n [])) (fun v S2 => v = .non ∧ Q (.ref a) S2) NoX) E
section
variable {X : Cx} {W : WX} {K : PySem.W.Frag} {H : Hp} {S : Hq}
theorem Fls.lookup {f : Str} : ∀ {fs : List (Str × D)} {ys : List (Str × V)}, Fls K H fs ys → ∀ {d : D}, fs.lookup f = some d → ∃ v, ys.lookup f = some v ∧ DV K H d v
  | _, _, .nil, _, e => by simp at e
  | (g, x) :: fs, (_, y) :: ys, .cons r t, d, e => by
    rw [List.lookup_cons] at e ⊢
    cases hb : f == g with
    | true => rw [hb] at e; cases e; exact ⟨y, rfl, r⟩
    | false => rw [hb] at e; exact Fls.lookup t e
theorem Fls.lookupN {f : Str} : ∀ {fs : List (Str × D)} {ys : List (Str × V)}, Fls K H fs ys → fs.lookup f = none → ys.lookup f = none
  | _, _, .nil, _ => rfl
  | (g, x) :: fs, (_, y) :: ys, .cons r t, e => by
    rw [List.lookup_cons] at e ⊢
    cases hb : f == g with
    | true => rw [hb] at e; cases e
    | false => rw [hb] at e; exact Fls.lookupN t e
theorem Fls.put {f : Str} {d : D} {v : V} (h : DV K H d v) : ∀ {fs : List (Str × D)} {ys : List (Str × V)}, Fls K H fs ys → Fls K H (putD f d fs) (putF f v ys)
  | _, _, .nil => .cons h .nil
  | (g, x) :: fs, (_, y) :: ys, .cons r t => by
    unfold putD putF
    by_cases c : g = f
    · rw [if_pos c, if_pos c]; exact .cons h t
    · rw [if_neg c, if_neg c]; exact .cons r (Fls.put h t)
theorem Fls.length : ∀ {fs : List (Str × D)} {ys : List (Str × V)}, Fls K H fs ys → fs.length = ys.length
  | _, _, .nil => rfl
  | _, _, .cons _ t => congrArg (· + 1) (Fls.length t)
variable {o e : Expr} {es : List Expr} {ro rv : RE} {ra : RA} {n : String} {C f : Addr} {k : Nat} {fd : FuncData} {ps : List Str} {sp : Sq} {F m : Str} {pos apos pos' : Pos}
theorem ev_fld (kc : Kc X.K n C) (na : NoAttr X.K C F) (ho : EV X W o ro) (hb : attributeBase o F X.env (eval o X.env) = eval o X.env := by rfl) : EV X W (.Attribute o F pos) (rFld n F ro) := by
  obtain ⟨T, p, l⟩ := ho.ex
  refine ⟨_, pe_fld p hb, fun σ σ' H S Q Q' E' rs rh h q xi => ?_⟩
  refine l σ σ' H S _ _ _ rs rh h (fun x S1 v H1 f1 rh1 dv h1 => ?_) xi
  cases dv with
  | ref a =>
    obtain ⟨fs, d, e, le, h1⟩ := h1
    obtain ⟨C', dx, ys, cn, g, r⟩ := rh1 a _ e
    cases cn.inj kc.cn
    obtain ⟨w, hw, dw⟩ := r.lookup le
    exact ⟨a, _, dx, ys, w, rfl, g, kc.cls, na, hw, (q.go f1).here rh1 dw h1⟩
  | _ => exact h1.elim
theorem es_fld {value : Expr} (kc : Kc X.K n C) (na : NoAttr X.K C F) (hv : EV X W value rv) (ho : EV X W o ro) (hs : swapsWith value (some (.Attribute o F pos')) pos.line X.env = pure false := by rfl) : ES X W (.Assign [.Attribute o F pos'] value pos) (rSetF n F rv ro) := by
  obtain ⟨T, p, l⟩ := ho.ex
  obtain ⟨Tv, pv, lv⟩ := hv.ex
  refine ⟨_, ps_fld p pv hs, fun σ σ' H S D D' rs rh h d => ?_⟩
  refine lv σ σ' H S _ _ _ rs rh h (fun y S1 u H1 f1 rh1 du h1 => ?_) (d.xi rh rs)
  refine l σ σ' H1 S1 _ _ _ (rs.mono (f1.tle rh)) rh1 h1 (fun x S2 v H2 f2 rh2 dv h2 => ?_) ((d.xi rh rs).go f1)
  cases dv with
  | ref a =>
    obtain ⟨fs, e, le, h2⟩ := h2
    obtain ⟨C', dx, ys, cn, g, r⟩ := rh2 a _ e
    cases cn.inj kc.cn
    have t : Tle X.K H2 (upd H2 a (.ins C dx (putF F u ys))) := rh2.putTle e
    have f3 := Fr.put (H := H2) (o := .ins C dx (putF F u ys)) (q := .ins n (putD F y fs)) e
    refine ⟨a, _, dx, ys, rfl, g, kc.cls, na, by rw [← r.length]; omega, ?_⟩
    refine d.nx _ _ _ _ ((f1.trans f2).trans f3) (rh2.put (q := .ins n (putD F y fs)) e ⟨_, dx, _, cn, upd_same, ?_⟩) (rs.mono (((f1.trans f2).trans f3).tle rh)) h2
    exact (r.put (DV.mono (f2.tle rh1) _ _ du)).mono t
  | _ => exact h2.elim
theorem ev_met {pl : Sem Bool} (kc : Kc X.K n C) (hm : Meth X.K C m f) (G : FnOk X.prog X.w X.K X.mg X.base CX0 k f fd ps (dn X.K sp)) (hr : Room k X.A) (hb : Binds X.K fd ps []) (ho : EV X W o ro) (ha : EA X W (e :: es) ra)
    (hst : starEach (e :: es) X.env = (false, eval e X.env) :: starEach es X.env := by rfl) (hpl : (backTo pos (starEach es X.env)).any (·.1) = false := by rfl)
    (ht : eval (.Call (.Attribute o m apos) (e :: es) [] pos) X.env = (do
      let ov ← eval o X.env
      standAt apos.atName
      let (f, first) ← holding [ov] (getMethod ov m pl)
      callWith pos f first (backTo pos (starEach (e :: es) X.env)) (backToKw pos (keywordEach [] X.env))) := by rfl) : EV X W (.Call (.Attribute o m apos) (e :: es) [] pos) (rMet n m sp ro ra) := by
  obtain ⟨T, p, l⟩ := ho.ex
  obtain ⟨Ta, pa, la⟩ := ha.ex
  refine ⟨_, pe_meth (E := fun _ _ _ => False) p kc.cls hm G hr hb .nil pass0 pa hst hpl ht, fun σ σ' H S Q Q' E' rs rh h q xi => ?_⟩
  refine l σ σ' H S _ _ _ rs rh h (fun x S1 v H1 f1 rh1 dv h1 => ?_) xi
  cases dv with
  | ref a =>
    obtain ⟨fs, e, le, h1⟩ := h1
    obtain ⟨C', dx, ys, cn, g, r⟩ := rh1 a _ e
    cases cn.inj kc.cn
    refine ⟨a, dx, ys, rfl, g, r.lookupN le, ?_⟩
    refine la σ σ' H1 S1 _ _ _ (rs.mono (f1.tle rh)) rh1 h1 (fun ds S2 vs H2 f2 rh2 dv h2 => ?_) (xi.go f1)
    rw [List.append_nil]
    exact ⟨_, S2, Q', NoX, .cons (.ref a) dv, rh2, h2, q.go (f1.trans f2), XI.no⟩
  | _ => exact h1.elim
theorem ev_met0 {pl : Sem Bool} (kc : Kc X.K n C) (hm : Meth X.K C m f) (G : FnOk X.prog X.w X.K X.mg X.base CX0 k f fd ps (dn X.K sp)) (hr : Room k X.A) (hb : Binds X.K fd ps []) (ho : EV X W o ro)
    (ht : eval (.Call (.Attribute o m apos) [] [] pos) X.env = (do
      let ov ← eval o X.env
      standAt apos.atName
      let (f, first) ← holding [ov] (getMethod ov m pl)
      callWith pos f first (backTo pos (starEach [] X.env)) (backToKw pos (keywordEach [] X.env))) := by rfl) : EV X W (.Call (.Attribute o m apos) [] [] pos) (rMet n m sp ro rNil) := by
  obtain ⟨T, p, l⟩ := ho.ex
  refine ⟨_, pe_meth0 (E := fun _ _ _ => False) p kc.cls hm G hr hb .nil pass0 ht, fun σ σ' H S Q Q' E' rs rh h q xi => ?_⟩
  refine l σ σ' H S _ _ _ rs rh h (fun x S1 v H1 f1 rh1 dv h1 => ?_) xi
  cases dv with
  | ref a =>
    obtain ⟨fs, e, le, h1⟩ := h1
    obtain ⟨C', dx, ys, cn, g, r⟩ := rh1 a _ e
    cases cn.inj kc.cn
    exact ⟨a, dx, ys, rfl, g, r.lookupN le, _, S1, Q', NoX, .cons (.ref a) .nil, rh1, h1, q.go f1, XI.no⟩
  | _ => exact h1.elim
/-- .. of a method that may raise -/
def tMethS (C : Addr) (m : Str) (sp : Sp) (W : WX) (ta : TE) (t : TA) : TE := fun σ H Q => ta σ H fun x H1 => ∃ a dx fs, x = .ref a ∧ H1 a = some (.ins C dx fs) ∧ fs.lookup m = none ∧
  t σ H1 fun vs H2 => sp (x :: vs) H2 Q (WE W σ)
theorem ev_metX {pl : Sem Bool} (kc : Kc X.K n C) (hm : Meth X.K C m f) (G : FnOk X.prog X.w X.K X.mg X.base (L2N.CX X.prog X.w) k f fd ps (dn X.K sp)) (hr : Room k X.A) (tk : L2N.Takes X W) (hb : Binds X.K fd ps []) (ho : EV X W o ro) (ha : EA X W (e :: es) ra)
    (hst : starEach (e :: es) X.env = (false, eval e X.env) :: starEach es X.env := by rfl) (hpl : (backTo pos (starEach es X.env)).any (·.1) = false := by rfl)
    (ht : eval (.Call (.Attribute o m apos) (e :: es) [] pos) X.env = (do
      let ov ← eval o X.env
      standAt apos.atName
      let (f, first) ← holding [ov] (getMethod ov m pl)
      callWith pos f first (backTo pos (starEach (e :: es) X.env)) (backToKw pos (keywordEach [] X.env))) := by rfl) : EV X W (.Call (.Attribute o m apos) (e :: es) [] pos) (rMetX n m sp ro ra) := by
  obtain ⟨T, p, l⟩ := ho.ex
  obtain ⟨Ta, pa, la⟩ := ha.ex
  refine ⟨tMethS C m (dn X.K sp) W T Ta, ⟨fun pins s σ H Q I h => ?_⟩, fun σ σ' H S Q Q' E' rs rh h q xi => ?_⟩
  · refine PySem.W.methodCall_KW (pl := pl) (thn (p.run pins s σ H _ I h) fun u s1 ⟨x, H1, I1, rx, a, dx, fs, ex, ea, l, q⟩ => ?_) ht
    subst ex
    obtain rfl : u = Value.ref a := rx
    refine getmeth_ok I1 ea kc.cls hm l ?_
    refine PySem.W.callWith_K (first := [.ref a]) (h₀ := X.base) I.ok.mod.kin hm.kp (thn (pa.run pos pins s1 σ H1 _ I1 q) fun us s2 ⟨vs, H2, I2, r, q2⟩ => ⟨I2.kIn, ?_⟩) hst hpl
    exact run_fnS (us := .ref a :: us) (vs := .ref a :: vs) (E := WE W) G hr hb (L2N.passAt tk σ) I2 (.cons rfl r) q2
  · refine l σ σ' H S _ _ _ rs rh h (fun x S1 v H1 f1 rh1 dv h1 => ?_) xi
    cases dv with
    | ref a =>
      obtain ⟨fs, e, le, h1⟩ := h1
      obtain ⟨C', dx, ys, cn, g, r⟩ := rh1 a _ e
      cases cn.inj kc.cn
      refine ⟨a, dx, ys, rfl, g, r.lookupN le, ?_⟩
      refine la σ σ' H1 S1 _ _ _ (rs.mono (f1.tle rh)) rh1 h1 (fun ds S2 vs H2 f2 rh2 dv h2 => ?_) (xi.go f1)
      exact ⟨_, S2, Q', E', .cons (.ref a) dv, rh2, h2, q.go (f1.trans f2), xi.go (f1.trans f2)⟩
    | _ => exact h1.elim
/-- an object is made -/
theorem rh_make {S : Hq} {H : Hp} {a dx : Addr} (rh : RH K S H) (cn : CN K n C) (ha : H a = none) (hd : H dx = none) (ne : dx ≠ a) : Fr S H (up S a (.ins n [])) (upd (upd H dx (.own a)) a (.ins C dx [])) ∧ RH K (up S a (.ins n [])) (upd (upd H dx (.own a)) a (.ins C dx [])) := by
  have r1 := rh.new (o := .own a) hd
  have f1 := Fr.new (o := .own a) rh hd
  have ha1 : upd H dx (.own a) a = none := by rw [upd_ne (Ne.symm ne)]; exact ha
  exact ⟨f1.trans (Fr.new2 r1 ha1), r1.new2 (q := .ins n []) ha1 ⟨C, dx, [], cn, upd_same, .nil⟩⟩
theorem ev_make0 (kc : Kc X.K n C) (M : Mk X.K C f) (G : FnOk X.prog X.w X.K X.mg X.base CX0 k f fd ps (dn X.K sp)) (hr : Room (k + 1) X.A) (hm : X.mg (Str.ofString n) = some (.ref C)) (hb : Binds X.K fd ps []) {p : Pos} (hg : Gl X (Str.ofString n) := by rfl)
    (hdb : ((Str.ofString n) == ("__debug__" : Str)) = false := by decide) : EV X W (.Call (.Name (Str.ofString n) p) [] [] pos) (rMake n sp rNil) := by
  refine ⟨_, pe_make0 (E := fun _ _ _ => False) M G hr hg hm hb .nil pass0 hdb, fun σ σ' H S Q Q' E' rs rh h q xi => ?_⟩
  intro x dx hx hdx ne
  obtain ⟨f1, r1⟩ := rh_make rh kc.cn hx hdx ne
  refine ⟨[.ref x], _, _, NoX, .cons (.ref x) .nil, r1, h x (rh.fresh hx), fun d S' v H' f2 rh2 dv h2 => ?_, XI.no⟩
  obtain ⟨rfl, h2⟩ := h2
  cases dv
  exact ⟨rfl, q _ _ _ _ (f1.trans f2) rh2 (.ref x) h2⟩
theorem ev_make (kc : Kc X.K n C) (M : Mk X.K C f) (G : FnOk X.prog X.w X.K X.mg X.base CX0 k f fd ps (dn X.K sp)) (hr : Room (k + 1) X.A) (hm : X.mg (Str.ofString n) = some (.ref C)) (hb : Binds X.K fd ps []) {p : Pos} (ha : EA X W (e :: es) ra) (hg : Gl X (Str.ofString n) := by rfl)
    (hdb : ((Str.ofString n) == ("__debug__" : Str)) = false := by decide) (he : starEach (e :: es) X.env = (false, eval e X.env) :: starEach es X.env := by rfl) (hpl : (backTo pos (starEach es X.env)).any (·.1) = false := by rfl) : EV X W (.Call (.Name (Str.ofString n) p) (e :: es) [] pos) (rMake n sp ra) := by
  obtain ⟨Ta, pa, la⟩ := ha.ex
  refine ⟨_, pe_make (E := fun _ _ _ => False) M G hr hg hm hb .nil pass0 pa hdb he hpl, fun σ σ' H S Q Q' E' rs rh h q xi => ?_⟩
  refine la σ σ' H S _ _ _ rs rh h (fun ds S1 vs H1 f0 rh1 dv h1 => ?_) xi
  intro x dx hx hdx ne
  obtain ⟨f1, r1⟩ := rh_make rh1 kc.cn hx hdx ne
  rw [List.append_nil]
  refine ⟨.ref x :: ds, _, _, NoX, .cons (.ref x) (DVs.mono (f1.tle rh1) _ _ dv), r1, h1 x (rh1.fresh hx), fun d S' v H' f2 rh2 dv h2 => ?_, XI.no⟩
  obtain ⟨rfl, h2⟩ := h2
  cases dv
  exact ⟨rfl, q _ _ _ _ ((f0.trans f1).trans f2) rh2 (.ref x) h2⟩
end

/-! ### the error that a suite holds -/
def rBy (n0 : String) (F : Str) (cn : String) (a dd : Addr) (ro : RE) : RE := fun σ S Q E => ro σ S (fun x S1 => x = .ref a ∧ cn = n0 ∧ ∃ d, S1 dd = some (.exd [(F, d)]) ∧ Q d S1) E
/-- isinstance of it: t tells, for (class of the error, class asked, is it an own one) -/
abbrev Tb := List (String × String × Bool × Bool)
def tbF (t : Tb) (cn : String) (m : String) (own : Bool) : Option Bool := (t.find? fun q => q.1 == cn && q.2.1 == m && q.2.2.1 == own).map (·.2.2.2)
def isxF (t : Tb) (cn : String) : D → Option Bool
  | .cl m => tbF t cn m true
  | .ty m => tbF t cn m false
  | _ => none
def isxAll (t : Tb) (cn : String) : List D → Option Bool
  | [] => some false
  | d :: r => match isxF t cn d with | none => none | some b => if b = true then some true else isxAll t cn r
def isxD (t : Tb) (cn : String) : D → Option Bool
  | .tup ds => isxAll t cn ds
  | d => isxF t cn d
def rIsE (t : Tb) (cn : String) (a dd : Addr) (ra : RA) : RE := fun σ S Q E => ra σ S (fun ds S1 => match ds with
  | [x, c] => x = .ref a ∧ (∃ fs, S1 dd = some (.exd fs)) ∧ ∃ b, isxD t cn c = some b ∧ Q (.bl b) S1
  | _ => False) E
/-- an own class as a value -/
def ClIs (K : PySem.W.Frag) (m : String) (own : Bool) (v : Value) : Prop := if own = true then ∃ C, CN K m C ∧ v = .ref C else v = .type m
def TbOk (K : PySem.W.Frag) (t : Tb) : Prop := ∀ cn m own b, (cn, m, own, b) ∈ t → ∀ C v, CN K cn C → ClIs K m own v → PySem.W.kitOne K (.ref C) v = some b
structure ExcD (K : PySem.W.Frag) (D : Addr) : Prop where
  hg : PySem.W.findIn K (.ref D) "__getattribute__" = some (some (.builtin "BaseException.__getattribute__"))
  hk : PySem.W.findIn K (.ref D) "__getattr__" = some none
  hs : PySem.W.subIn K (.ref D) (.type "BaseException") = some true
  hd : PySem.W.hasDictIn K D = true
  hc : (PySem.W.clsIn K D).isSome = true
  ha : PySem.W.findIn K (.ref D) "__class__" = some (some (.builtin "object.__class__"))
  hn : PySem.W.specialIn K (.builtin "object.__class__") "__get__" = some (some (.builtin "getset_descriptor.__get__"))
  ht : PySem.W.takesIn K (.builtin "object.__class__") = some true
  hm : PySem.W.mroIn K D (.type "object") = some true
section
variable {X : Cx} {W : WX} {o e : Expr} {es : List Expr} {ro : RE} {ra : RA} {cn n0 : String} {C fI a dd : Addr} {oe : Obj} {pn : List (Addr × Obj)} {qX : Str} {pos : Pos}
theorem ev_byA (T : PySem.LA.LowTxt X.K X.mg (Str.ofString n0) qX C fI) (c0 : CN X.K n0 C) {C' : Addr} (cc : CN X.K cn C') (hz : Zc (.ref C') (some dd) oe) (hf : ∃ vs, oe.data = .fields vs) (ho : EV (X.suite a ((a, oe) :: pn)) W o ro) (hb : attributeBase o "at" X.env (eval o X.env) = eval o X.env := by rfl) :
    EV (X.suite a ((a, oe) :: pn)) W (.Attribute o "at" pos) (rBy n0 "at" cn a dd ro) := by
  obtain ⟨To, po, lo⟩ := ho.ex
  refine ⟨_, pe_byLow_LA T hz hf po hb, fun σ σ' H S Q Q' E' rs rh h q xi => ?_⟩
  refine lo σ σ' H S _ _ _ rs rh h (fun x S1 v H1 f1 rh1 dv h1 => ?_) xi
  obtain ⟨rfl, rfl, d, e, h1⟩ := h1
  cases dv
  cases c0.inj cc
  obtain ⟨ys, g, r⟩ := rh1 dd _ e
  cases r with | cons dx r =>
  cases r
  exact ⟨rfl, rfl, dd, _, rfl, g, (q.go f1).here rh1 dx h1⟩
theorem ev_byV (T : PySem.LV.LowTxt X.K X.mg (Str.ofString n0) qX C fI) (c0 : CN X.K n0 C) {C' : Addr} (cc : CN X.K cn C') (hz : Zc (.ref C') (some dd) oe) (hf : ∃ vs, oe.data = .fields vs) (ho : EV (X.suite a ((a, oe) :: pn)) W o ro) (hb : attributeBase o "value" X.env (eval o X.env) = eval o X.env := by rfl) :
    EV (X.suite a ((a, oe) :: pn)) W (.Attribute o "value" pos) (rBy n0 "value" cn a dd ro) := by
  obtain ⟨To, po, lo⟩ := ho.ex
  refine ⟨_, pe_byLow_LV T hz hf po hb, fun σ σ' H S Q Q' E' rs rh h q xi => ?_⟩
  refine lo σ σ' H S _ _ _ rs rh h (fun x S1 v H1 f1 rh1 dv h1 => ?_) xi
  obtain ⟨rfl, rfl, d, e, h1⟩ := h1
  cases dv
  cases c0.inj cc
  obtain ⟨ys, g, r⟩ := rh1 dd _ e
  cases r with | cons dx r =>
  cases r
  exact ⟨rfl, rfl, dd, _, rfl, g, (q.go f1).here rh1 dx h1⟩
theorem isxF_kit {K : PySem.W.Frag} {H : Hp} {t : Tb} {d : D} {v : V} {u : Value} {b : Bool} (ok : TbOk K t) (cc : CN K cn C) (h : isxF t cn d = some b) (dv : DV K H d v) (r : RelV v u) : PySem.W.kitOne K (.ref C) u = some b := by
  have key : ∀ (m : String) (own : Bool), tbF t cn m own = some b → (cn, m, own, b) ∈ t := fun m own e => by
    unfold tbF at e
    cases g : t.find? (fun q => q.1 == cn && q.2.1 == m && q.2.2.1 == own) with
    | none => rw [g] at e; cases e
    | some q =>
      rw [g] at e
      have hp := List.find?_some g
      have hm := List.mem_of_find?_eq_some g
      obtain ⟨q1, q2, q3, q4⟩ := q
      simp only [Bool.and_eq_true, beq_iff_eq] at hp
      obtain ⟨⟨rfl, rfl⟩, rfl⟩ := hp
      cases e
      exact hm
  cases dv with
  | cl c =>
    cases r
    exact ok _ _ _ _ (key _ _ h) C _ cc ⟨_, c, rfl⟩
  | ty m =>
    obtain rfl : u = Value.type m := r
    exact ok _ _ _ _ (key _ _ h) C _ cc rfl
  | _ => cases h
theorem isxAll_kit {K : PySem.W.Frag} {H : Hp} {t : Tb} {b : Bool} (ok : TbOk K t) (cc : CN K cn C) : ∀ {ds : List D} {vs : List V} {us : List Value}, isxAll t cn ds = some b → DVs K H ds vs → Vals vs us → PySem.W.kitAny K (.ref C) us = some b
  | [], _, _, h, .nil, .nil => by cases h; exact kitAny_nil
  | d :: ds, _, _, h, .cons dx dr, .cons r rr => by
    unfold isxAll at h
    split at h
    · cases h
    · rename_i b1 e1
      refine kitAny_cons (isxF_kit ok cc e1 dx r) (fun eb => ?_) (fun eb => ?_)
      · rw [eb, if_neg Bool.false_ne_true] at h
        exact isxAll_kit ok cc h dr rr
      · rw [eb, if_pos rfl] at h
        cases h; rfl
theorem call_isx {t : Tb} (ok : TbOk X.K t) (cc : CN X.K cn C) (ed : ExcD X.K C) (hz : Zc (.ref C) (some dd) oe) (hf : ∃ vs, oe.data = .fields vs) :
    CallR (X.suite a ((a, oe) :: pn)) (.builtin "isinstance") (fun xs H Q => ∃ d c b fs, xs = [.ref a, c] ∧ DV X.K H d c ∧ isxD t cn d = some b ∧ H dd = some (.xd fs) ∧ Q (.bl b) H) := by
  intro pins s σ H xs us Q I r h
  obtain ⟨d, c, b, fs, rfl, dv, e, hdd, q⟩ := h
  obtain ⟨u1, u2, rfl, r1, r2⟩ := vals2 r
  cases r1
  obtain ⟨hget, _⟩ := I.pin (a, oe) (List.mem_append.mpr (.inl List.mem_cons_self))
  obtain ⟨vs, hv⟩ := hf
  have hx : ObjOk X.prog X.w H s.heap dd (.xd fs) := I.hok dd _ hdd
  obtain ⟨mA, hns, hr⟩ := hx
  obtain ⟨od, ho, hl⟩ := lookIn_ns hns
  have J : PySem.W.InstAt s.heap a oe C (some od) := ⟨hget, hz.1, by unfold PySem.W.notCls; rw [hv] <;> rfl, by rw [hz.2]; exact ho⟩
  have Z := PySem.W.kitx_exc (x := a) (ox := oe) (od := some od) ed.hc ed.hg ed.hk ed.hs ed.ha ed.hn ed.ht ed.hm
  have fin : ∀ tk, EP (X.suite a ((a, oe) :: pn)) pins σ Q (.bool b) { s with toks := tk } := fun tk => ⟨.bl b, H, I.tok tk, rfl, q⟩
  cases d with
  | tup ds =>
    cases dv with | tup sq rr =>
    cases (show u2 = Value.ref _ from r2)
    obtain ⟨its, rv, ht, _⟩ := I.tuple sq
    obtain ⟨⟨oc, odd, dt, sl⟩, h1, h2, n, h3⟩ := ht
    simp only at h2 h3
    subst h2 h3
    exact PySem.W.kia_tup Z I.kIn J h1 (isxAll_kit ok cc e rr rv) (fun z => nomatch z) fin
  | cl m => exact PySem.W.kia_one Z I.kIn J (isxF_kit ok cc (show isxF t cn (.cl m) = some b from e) dv r2) (fun z => nomatch z) fin
  | ty m => exact PySem.W.kia_one Z I.kIn J (isxF_kit ok cc (show isxF t cn (.ty m) = some b from e) dv r2) (fun z => nomatch z) fin
  | _ => cases e
theorem ev_isE {x : Str} {p : Pos} {t : Tb} (ok : TbOk X.K t) (cc : CN X.K cn C) (ed : ExcD X.K C) (hz : Zc (.ref C) (some dd) oe) (hf : ∃ vs, oe.data = .fields vs) (hm : X.mg "isinstance" = none) (ha : EA (X.suite a ((a, oe) :: pn)) W (e :: es) ra) (hg : Gl X "isinstance" := by rfl)
    (he : starEach (e :: es) X.env = (false, eval e X.env) :: starEach es X.env := by rfl) (hpl : (backTo pos (starEach es X.env)).any (·.1) = false := by rfl) : EV (X.suite a ((a, oe) :: pn)) W (.Call (.Name "isinstance" p) (e :: es) [] pos) (rIsE t cn a dd ra) := by
  obtain ⟨Ta, pa, la⟩ := ha.ex
  refine ⟨_, pe_callB (call_isx ok cc ed hz hf) hg hm (by decide +kernel) pa (by decide) (by decide) he hpl, fun σ σ' H S Q Q' E' rs rh h q xi => ?_⟩
  refine la σ σ' H S _ _ _ rs rh h (fun ds S1 vs H1 f1 rh1 dv h1 => ?_) xi
  match ds, dv, h1 with
  | [x, c], .cons dx (.cons dc .nil), h1 =>
    obtain ⟨rfl, ⟨fs, ef⟩, b, eb, h1⟩ := h1
    cases dx
    obtain ⟨ys, g, _⟩ := rh1 dd _ ef
    exact ⟨c, _, b, ys, rfl, dc, eb, g, (q.go f1).here rh1 (.bl b) h1⟩
/-- an own class as a value -/
theorem ev_cl {n : String} {C : Addr} (cn : CN X.K n C) (hm : X.mg (Str.ofString n) = some (.ref C)) (hg : Gl X (Str.ofString n) := by rfl) (hd : ((Str.ofString n) == ("__debug__" : Str)) = false := by decide) : EV X W (.Name (Str.ofString n) pos) (rC (.cl n)) :=
  ⟨_, pe_glob (v := .ref C) hg hm rfl hd, fun σ σ' H S Q Q' E' rs rh h q _ => q.here rh (.cl cn) h⟩
end
end Y
set_option maxHeartbeats 2000000
namespace Y
open PySem PySem.Spec PyProof.Rows L2
/-! ### words for texts with classes -/
theorem tk00 {X : Cx} : L2N.Takes X W0 := fun _ _ x => by
  obtain ⟨_, _, _, _, _, _, _, _, _, _, _, _, _, _, _, _, z⟩ := x
  exact z.elim
section
variable {n m : String} {f : Str} {a dd : Addr} {S : Hq} {Q : Qv} {N : Hq → Prop} {P : Prop} {y : D} {t : Tb} {cn : String}
theorem q_fld : fldD n f (.ref a) S Q = ∃ fs d, S a = some (.ins n fs) ∧ fs.lookup f = some d ∧ Q d S := rfl
theorem q_sfld : sfldD n f (.ref a) y S N = ∃ fs, S a = some (.ins n fs) ∧ fs.length < 100 ∧ N (up S a (.ins n (putD f y fs))) := rfl
theorem q_met : metD n f (.ref a) S P = ∃ fs, S a = some (.ins n fs) ∧ fs.lookup f = none ∧ P := rfl
end
/-- the classes that a clause takes -/
def mL : List (String × Bool) → String → Option Bool
  | [], _ => none
  | (n, b) :: r, x => if x = n then some b else mL r x
theorem mok_nil {K : PySem.W.Frag} {c : Value} : MOk K c (mL []) := fun _ _ _ _ h => by cases h
theorem mok_cons {K : PySem.W.Frag} {c : Value} {n : String} {b : Bool} {C : Addr} {l : List (String × Bool)} (cn : CN K n C) (e : PySem.W.exmOne K (.ref C) c = some b) (r : MOk K c (mL l)) : MOk K c (mL ((n, b) :: l)) := fun x C' b' cn' h => by
  unfold mL at h
  split at h
  · rename_i q
    subst q
    cases h
    cases cn.inj cn'
    exact e
  · exact r x C' b' cn' h
theorem tb_nil {K : PySem.W.Frag} : TbOk K [] := fun _ _ _ _ h => by cases h
theorem tb_own {K : PySem.W.Frag} {t : Tb} {cn m : String} {b : Bool} {C D : Addr} (c1 : CN K cn C) (c2 : CN K m D) (e : PySem.W.kitOne K (.ref C) (.ref D) = some b) (r : TbOk K t) : TbOk K ((cn, m, true, b) :: t) := fun x y o b' h C' v c1' h' => by
  rcases List.mem_cons.mp h with z | z
  · cases z
    cases c1.inj c1'
    obtain ⟨D', c2', rfl⟩ := (show ClIs K m true v from h')
    cases c2.inj c2'
    exact e
  · exact r x y o b' z C' v c1' h'
theorem tb_ty {K : PySem.W.Frag} {t : Tb} {cn m : String} {b : Bool} {C : Addr} (c1 : CN K cn C) (e : PySem.W.kitOne K (.ref C) (.type m) = some b) (r : TbOk K t) : TbOk K ((cn, m, false, b) :: t) := fun x y o b' h C' v c1' h' => by
  rcases List.mem_cons.mp h with z | z
  · cases z
    cases c1.inj c1'
    have h' : v = .type m := h'
    subst h'
    exact e
  · exact r x y o b' z C' v c1' h'
/-- a suite for errors of one class -/
def rGd (p : Prop) (r : RSt) : RSt := fun D σ S => p ∧ r D σ S
theorem eb_gd {X : Cx} {W : WX} {b : List Stmt} {p : Prop} {r : RSt} (h : p → EB X W b r) : EB X W b (rGd p r) := by
  by_cases hp : p
  · obtain ⟨T, pe, l⟩ := (h hp).ex
    exact ⟨⟨T, pe, fun σ σ' H S D D' rs rh q d => l σ σ' H S D D' rs rh q.2 d⟩⟩
  · exact ⟨⟨fun _ _ _ => False, ⟨fun _ _ _ _ _ _ z => z.elim⟩, fun _ _ _ _ _ _ _ _ q _ => absurd q.1 hp⟩⟩
theorem ed_of {K : PySem.W.Frag} {n cn : String} {C0 C : Addr} (c0 : CN K n C0) (x : ExcD K C0) (e : cn = n) (cc : CN K cn C) : ExcD K C := by subst e; cases c0.inj cc; exact x
theorem hotP {X : Cx} {p : Addr × Obj} (h : L2H.Hot1 X.A p) (e : X.pn = [p]) : L2H.HotC X := ⟨p, h, by rw [e]; exact List.mem_cons_self⟩
theorem RoomH.units {k : Nat} {A : Around} (r : L2H.RoomH k A) : A.units + 64 < cLine := by have := r.un; omega
theorem units65H {k : Nat} {A : Around} (r : L2H.RoomH k A) : A.units + 65 < cLine := by have := r.un; omega
end Y
namespace L2H
open PySem PySem.Spec PyProof.Rows
theorem RoomH.units {k : Nat} {A : Around} (r : RoomH k A) : A.units + 64 < cLine := by have := r.un; omega
theorem RoomH.units0 {k : Nat} {A : Around} (r : RoomH k A) : A.units < cLine := by have := r.un; omega
end L2H
namespace Y
open PySem PySem.Spec PyProof.Rows L2
/-- statements that are never come to -/
theorem eb_nvs {X : Cx} {W : WX} {b : List Stmt} : EB X W b rNv := ⟨⟨fun _ _ _ => False, ⟨fun _ _ _ _ _ _ z => z.elim⟩, fun _ _ _ _ _ _ _ _ q _ => q.elim⟩⟩
end Y
namespace Y
open PySem PySem.Spec PyProof.Rows L2
theorem exm_of {K : PySem.W.Frag} {t : Value} {S : Addr} {b : Bool} (h1 : PySem.W.subIn K (.ref S) (.type "BaseException") = some true) (h2 : PySem.W.isClsIn K S = true) (h3 : PySem.W.typeIn K (.ref S) = some (.type "type")) (h4 : PySem.W.subIn K t (.ref S) = some b) :
    PySem.W.exmOne K t (.ref S) = some b := by
  have e1 : (PySem.W.subIn K (.ref S) (.type "BaseException") == some true) = true := by rw [h1] <;> rfl
  have e2 : ((PySem.W.clsIn K S).isSome && PySem.W.typeIn K (.ref S) == some (.type "type")) = true := by
    have h2' : (PySem.W.clsIn K S).isSome = true := h2
    rw [h2', h3] <;> rfl
  show (if (PySem.W.subIn K (.ref S) (.type "BaseException") == some true) = true then (if ((PySem.W.clsIn K S).isSome && PySem.W.typeIn K (.ref S) == some (.type "type")) = true then PySem.W.subIn K t (.ref S) else none) else none) = some b
  rw [if_pos e1, if_pos e2]
  exact h4
theorem kit_of {K : PySem.W.Frag} {C S : Addr} {b : Bool} (h2 : PySem.W.isClsIn K S = true) (h3 : PySem.W.typeIn K (.ref S) = some (.type "type")) (h4 : PySem.W.subIn K (.ref C) (.ref S) = some b) (h5 : PySem.W.subIn K (.ref C) (.ref C) = some true) :
    PySem.W.kitOne K (.ref C) (.ref S) = some b := by
  unfold PySem.W.kitOne
  by_cases c : (Value.ref C == Value.ref S) = true
  · rw [if_pos c]
    have e : C = S := by
      have := beq_iff_eq.mp c
      cases this; rfl
    subst e
    rw [h5] at h4; cases h4; rfl
  · rw [if_neg c]
    have e2 : ((PySem.W.clsIn K S).isSome && PySem.W.typeIn K (.ref S) == some (.type "type")) = true := by
      have h2' : (PySem.W.clsIn K S).isSome = true := h2
      rw [h2', h3] <;> rfl
    show (if ((PySem.W.clsIn K S).isSome && PySem.W.typeIn K (.ref S) == some (.type "type")) = true then PySem.W.subIn K (.ref C) (.ref S) else none) = some b
    rw [if_pos e2]
    exact h4
end Y
namespace Y
open PySem PySem.Spec PyProof.Rows L2
theorem room_suite {X : Cx} {a : Addr} {pn : List (Addr × Obj)} {j k : Nat} (hr : Room k X.A) (h : j ≤ k) : L2H.RoomH j (X.suite a pn).A := L2H.RoomH.mono (k := k) ⟨hr.dp, hr.un⟩ h
end Y
set_option maxHeartbeats 2000000
namespace Y
open PySem PySem.Spec PyProof.Rows L2
/-! ### reversed, while -/
theorem rev_at {xs : List D} {i : Nat} {x : D} (h : xs.reverse[i]? = some x) : xs[xs.length - 1 - i]? = some x ∧ i < xs.length := by
  have hi : i < xs.reverse.length := by
    rcases Nat.lt_or_ge i xs.reverse.length with h1 | h1
    · exact h1
    · rw [List.getElem?_eq_none h1] at h; cases h
  rw [List.length_reverse] at hi
  rw [List.getElem?_reverse hi] at h
  exact ⟨h, hi⟩
theorem it_rtup {K : PySem.W.Frag} {S1 : Hq} {H1 : Hp} {a : Addr} {xs : List D} {vs : List V} (rh1 : RH K S1 H1) (s : SqT K H1 a vs) (r : DVs K H1 xs vs) : ItOk K S1 H1 (RT.ItvT K a vs.length) xs.reverse (fun _ => True) :=
  ⟨fun S H f rh _ => by show vs.length ≤ xs.reverse.length; rw [List.length_reverse, r.length]; exact Nat.le_refl _,
   fun i x S H hx f rh _ => by
    obtain ⟨hx, hi⟩ := rev_at hx
    obtain ⟨v, hv, _⟩ := r.get hx
    exact ⟨by rw [← r.length]; exact hi, vs, v, (f.tle rh1).t _ _ s, by rw [← r.length]; exact hv⟩,
   fun i x S H v H' hx f rh _ hy => by
    obtain ⟨rfl, hy⟩ := hy
    obtain ⟨hx, hi⟩ := rev_at hx
    obtain ⟨w, hw, dw⟩ := r.get hx
    have e := hy vs ((f.tle rh1).t _ _ s)
    rw [← r.length, hw] at e; cases e
    exact ⟨Fr.refl, rh, DV.mono (f.tle rh1) _ _ dw⟩⟩
theorem it_rlst {K : PySem.W.Frag} {S1 : Hq} {H1 : Hp} {a : Addr} {xs : List D} {n : Nat} (hn : n = xs.length) : ItOk K S1 H1 (Itv K a n) xs.reverse (fun S => LsR S a xs) :=
  ⟨fun S H f rh g => by show n ≤ xs.reverse.length; rw [List.length_reverse, hn]; exact Nat.le_refl _,
   fun i x S H hx f rh g => by
    obtain ⟨vs, s, r⟩ := rh.sql g
    obtain ⟨hx, hi⟩ := rev_at hx
    obtain ⟨v, hv, _⟩ := r.get hx
    exact ⟨by rw [hn]; exact hi, vs, v, s, by rw [hn]; exact hv⟩,
   fun i x S H v H' hx f rh g hy => by
    obtain ⟨rfl, hy⟩ := hy
    obtain ⟨vs, s, r⟩ := rh.sql g
    obtain ⟨hx, hi⟩ := rev_at hx
    obtain ⟨w, hw, dw⟩ := r.get hx
    have e := hy vs s
    rw [hn, hw] at e; cases e
    exact ⟨Fr.refl, rh, dw⟩⟩
theorem it_rkl {K : PySem.W.Frag} {S1 : Hq} {H1 : Hp} {a : Addr} {xs : List D} {vs : List V} (rh1 : RH K S1 H1) (s : SqF K H1 a vs) (r : DVs K H1 xs vs) : ItOk K S1 H1 (Itv K a vs.length) xs.reverse (fun _ => True) :=
  ⟨fun S H f rh _ => by show vs.length ≤ xs.reverse.length; rw [List.length_reverse, r.length]; exact Nat.le_refl _,
   fun i x S H hx f rh _ => by
    obtain ⟨hx, hi⟩ := rev_at hx
    obtain ⟨v, hv, _⟩ := r.get hx
    exact ⟨by rw [← r.length]; exact hi, vs, v, ((f.tle rh1).f _ _ s).sql, by rw [← r.length]; exact hv⟩,
   fun i x S H v H' hx f rh _ hy => by
    obtain ⟨rfl, hy⟩ := hy
    obtain ⟨hx, hi⟩ := rev_at hx
    obtain ⟨w, hw, dw⟩ := r.get hx
    have e := hy vs ((f.tle rh1).f _ _ s).sql
    rw [← r.length, hw] at e; cases e
    exact ⟨Fr.refl, rh, DV.mono (f.tle rh1) _ _ dw⟩⟩
def revsD (x : D) (S1 : Hq) (R : List D → (Hq → Prop) → Hq → Prop) : Prop := match x with
  | .ref a => ∃ xs, LsR S1 a xs ∧ R xs.reverse (fun S => LsR S a xs) S1
  | .kl xs => R xs.reverse (fun _ => True) S1
  | .tup xs => R xs.reverse (fun _ => True) S1
  | _ => False
def iRevY (r : RE) : RI := fun σ S R E => r σ S (fun x S1 => revsD x S1 R) E
theorem ei_revY {X : Cx} {W : WX} {tg e : Expr} {r : RE} {p pos : Pos} (hm : X.mg "reversed" = none) (h : EV X W e r) (hg : Gl X "reversed" := by rfl) (hs : starEach [e] X.env = (false, eval e X.env) :: starEach [] X.env := by rfl) : EI X W tg (.Call (.Name "reversed" p) [e] [] pos) (iRevY r) := by
  obtain ⟨T, pe, l⟩ := h.ex
  refine ⟨_, RT.pi_revA hg hm pe hs, fun σ σ' H S R R' E' rs rh h q xi => ?_⟩
  refine l σ σ' H S _ _ _ rs rh h (fun x S1 v H1 f1 rh1 dv h1 => ?_) xi
  cases x with
  | ref a =>
    cases dv
    obtain ⟨xs, hl, h1⟩ := h1
    obtain ⟨vs, s, r⟩ := rh1.sql hl
    exact ⟨_, vs, rfl, .inl ⟨s, q _ _ _ _ _ f1 rh1 (it_rlst r.length.symm) h1⟩⟩
  | kl xs =>
    cases dv with
    | kl s r => exact ⟨_, _, rfl, .inl ⟨s.sql, q _ _ _ _ _ f1 rh1 (it_rkl rh1 s r) h1⟩⟩
  | tup xs =>
    cases dv with
    | tup s r => exact ⟨_, _, rfl, .inr ⟨s, q _ _ _ _ _ f1 rh1 (it_rtup rh1 s r) h1⟩⟩
  | _ => exact h1.elim
theorem rv_r {p : Addr} {S : Hq} {R : List D → (Hq → Prop) → Hq → Prop} : revsD (.ref p) S R = ∃ xs, S p = some (.lst xs) ∧ R xs.reverse (fun S => S p = some (.lst xs)) S := rfl
theorem rv_k {xs : List D} {S : Hq} {R : List D → (Hq → Prop) → Hq → Prop} : revsD (.kl xs) S R = R xs.reverse (fun _ => True) S := rfl
theorem rv_t {xs : List D} {S : Hq} {R : List D → (Hq → Prop) → Hq → Prop} : revsD (.tup xs) S R = R xs.reverse (fun _ => True) S := rfl
theorem whl {c : RT} {tb : RSt} {D0 : En} {σ : Sg} {S : Hq} (P : Nat → Sg → Hq → Prop) (m : Nat) (h0 : P m σ S)
    (hs : ∀ m σ S, P m σ S → c σ S (fun b S1 => if b = true then tb { D0 with nx := fun σ' S' => ∃ m', m' < m ∧ P m' σ' S', ct := fun σ' S' => ∃ m', m' < m ∧ P m' σ' S', bk := D0.nx } σ S1 else D0.nx σ S1) (D0.x σ)) : rWhile c tb D0 σ S := ⟨P, ⟨m, h0⟩, hs⟩
/-- what follows a statement, kept out of sight -/
theorem rSeq_gen {t u : RSt} {D : En} {σ : Sg} {S : Hq} (h : ∀ N : Sg → Hq → Prop, (∀ σ S, u D σ S → N σ S) → t { D with nx := N } σ S) : rSeq t u D σ S := h _ fun _ _ h => h
def rPar3 (i j k : Nat) (ra : RA) : RSt := fun D σ S => ra σ S (fun ds S1 => match ds with | [x, y, z] => D.nx (((σ.set i (some x)).set j (some y)).set k (some z)) S1 | _ => False) (D.x σ)
theorem es_par3 {X : Cx} {W : WX} {pos : Pos} {i j k : Nat} {x y z : Str} {a b c : Expr} {ra : RA} {px py pz pt : Pos} {kt k2 pt2} (hc : X.calm = true) (hN : X.N.Nodup) (hij : i ≠ j) (hik : i ≠ k) (hjk : j ≠ k) (ha : EA X W [a, b, c] ra) (hi : X.N[i]? = some x := by rfl) (hj : X.N[j]? = some y := by rfl) (hk : X.N[k]? = some z := by rfl)
    (hx : X.env.scope.names.lookup x = some .local := by rfl) (hy : X.env.scope.names.lookup y = some .local := by rfl) (hz : X.env.scope.names.lookup z = some .local := by rfl)
    (hw : swappedStores [.Tuple [.Name x px, .Name y py, .Name z pz] kt pt] (.Tuple [a, b, c] k2 pt2) X.env = pure (some [x, y, z]) := by rfl)
    (hs : swapsWithSole [.Tuple [.Name x px, .Name y py, .Name z pz] kt pt] (.Tuple [a, b, c] k2 pt2) pos.line X.env = pure false := by rfl) :
    ES X W (.Assign [.Tuple [.Name x px, .Name y py, .Name z pz] kt pt] (.Tuple [a, b, c] k2 pt2) pos) (rPar3 i j k ra) := by
  obtain ⟨T, p, l⟩ := ha.ex
  refine ⟨_, ps_par3 hc hN hi hj hk hij hik hjk hx hy hz p hw hs, fun σ σ' H S D D' rs rh h d => ?_⟩
  refine l σ σ' H S _ _ _ rs rh h (fun ds S1 v H1 f1 rh1 dv h1 => ?_) (d.xi rh rs)
  match ds, dv, h1 with
  | [x, y, z], .cons dx (.cons dy (.cons dz .nil)), h1 => exact ⟨_, _, _, rfl, d.nx _ _ _ _ f1 rh1 ((((rs.mono (f1.tle rh)).set dx i).set dy j).set dz k) h1⟩
/-- a test of two that are joined: the way of no is walked once -/
theorem ite_and {c d : Prop} [Decidable c] [Decidable d] {A B : Prop} (h1 : c → d → A) (h2 : (¬ c ∨ ¬ d) → B) : if c then (if d then A else B) else B := by
  by_cases x : c
  · rw [if_pos x]
    by_cases y : d
    · rw [if_pos y]; exact h1 x y
    · rw [if_neg y]; exact h2 (.inr y)
  · rw [if_neg x]; exact h2 (.inl x)
theorem ite_or {c d : Prop} [Decidable c] [Decidable d] {A B : Prop} (h1 : (c ∨ d) → A) (h2 : ¬ c → ¬ d → B) : if c then A else (if d then A else B) := by
  by_cases x : c
  · rw [if_pos x]; exact h1 (.inl x)
  · rw [if_neg x]
    by_cases y : d
    · rw [if_pos y]; exact h1 (.inr y)
    · rw [if_neg y]; exact h2 x y
theorem kitT_of {K : PySem.W.Frag} {C : Addr} {m : String} {b : Bool} (h1 : PySem.W.kitMeta m = true) (h2 : PySem.W.subIn K (.ref C) (.type m) = some b) : PySem.W.kitOne K (.ref C) (.type m) = some b := by
  unfold PySem.W.kitOne
  have e : ¬ ((Value.ref C == Value.type m) = true) := fun z => by cases beq_iff_eq.mp z
  rw [if_neg e]
  show (if PySem.W.kitMeta m = true then PySem.W.subIn K (.ref C) (.type m) else none) = some b
  rw [if_pos h1]; exact h2
example : PySem.W.kitMeta "ValueError" = true := by decide +kernel
/-! ### any value -/
inductive Av : Nat → D → Prop
  | non {n : Nat} : Av n .non
  | bl {n : Nat} (b : Bool) : Av n (.bl b)
  | int {n : Nat} (i : Int) : Av n (.int i)
  | str {n : Nat} (z : Str) (h : PyData.strOk z = true) : Av n (.str z)
  | tup {n : Nat} {xs : List D} (hl : xs.length ≤ 100000) (h : ∀ x ∈ xs, Av n x) : Av (n + 1) (.tup xs)
  | kl {n : Nat} {xs : List D} (hl : xs.length ≤ 100000) (h : ∀ x ∈ xs, Av n x) : Av (n + 1) (.kl xs)
theorem Av.up {n : Nat} {d : D} (h : Av n d) : ∀ m, n ≤ m → Av m d := by
  induction h with
  | non => exact fun _ _ => .non
  | bl b => exact fun _ _ => .bl b
  | int i => exact fun _ _ => .int i
  | str z h => exact fun _ _ => .str z h
  | @tup n xs hl h ih =>
    intro m hm
    obtain ⟨m, rfl⟩ : ∃ k, m = k + 1 := ⟨m - 1, by omega⟩
    exact .tup hl fun x hx => ih x hx m (by omega)
  | @kl n xs hl h ih =>
    intro m hm
    obtain ⟨m, rfl⟩ : ∃ k, m = k + 1 := ⟨m - 1, by omega⟩
    exact .kl hl fun x hx => ih x hx m (by omega)
theorem Av.len {n : Nat} {xs : List D} (h : Av n (.tup xs)) : xs.length ≤ 100000 := by cases h with | tup hl _ => exact hl
theorem Av.mem {n : Nat} {xs : List D} (h : Av n (.tup xs)) : ∀ x ∈ xs, Av n x := by cases h with | tup _ h => exact fun x hx => (h x hx).up _ (by omega)
theorem Av.t0 {n : Nat} : Av (n + 1) (.tup []) := .tup (by simp) (by simp)
theorem Av.t1 {n : Nat} {x : D} (h : Av n x) : Av (n + 1) (.tup [x]) := .tup (by simp) (by simpa using h)
theorem Av.t2 {n : Nat} {x y : D} (h : Av n x) (h2 : Av n y) : Av (n + 1) (.tup [x, y]) := .tup (by simp) (by simpa using ⟨h, h2⟩)
theorem Av.t3 {n : Nat} {x y z : D} (h : Av n x) (h2 : Av n y) (h3 : Av n z) : Av (n + 1) (.tup [x, y, z]) := .tup (by simp) (by simpa using ⟨h, h2, h3⟩)
theorem Av.t4 {n : Nat} {x y z u : D} (h : Av n x) (h2 : Av n y) (h3 : Av n z) (h4 : Av n u) : Av (n + 1) (.tup [x, y, z, u]) := .tup (by simp) (by simpa using ⟨h, h2, h3, h4⟩)
theorem Av.k0 {n : Nat} : Av (n + 1) (.kl []) := .kl (by simp) (by simp)
theorem Av.k2 {n : Nat} {x y : D} (h : Av n x) (h2 : Av n y) : Av (n + 1) (.kl [x, y]) := .kl (by simp) (by simpa using ⟨h, h2⟩)
theorem Av.k3 {n : Nat} {x y z : D} (h : Av n x) (h2 : Av n y) (h3 : Av n z) : Av (n + 1) (.kl [x, y, z]) := .kl (by simp) (by simpa using ⟨h, h2, h3⟩)
theorem purs_of {xs : List D} (h : ∀ x ∈ xs, pur x = true) : purs xs = true := by
  induction xs with
  | nil => rfl
  | cons a r ih => show (Y.pur a && purs r) = true; rw [h a (by simp), ih fun x m => h x (by simp [m])]; rfl
theorem lay_of {n : Nat} {xs : List D} (h : ∀ x ∈ xs, (pd x).canLay0 = true ∧ (pd x).depth ≤ n) : PyData.canLayAll0 (pds xs) = true ∧ PyData.depthAll (pds xs) ≤ n := by
  induction xs with
  | nil => exact ⟨rfl, Nat.zero_le _⟩
  | cons a r ih2 =>
    obtain ⟨h1, h2⟩ := h a (by simp)
    obtain ⟨h3, h4⟩ := ih2 fun x m => h x (by simp [m])
    refine ⟨?_, ?_⟩
    · show ((pd a).canLay0 && PyData.canLayAll0 (pds r)) = true
      rw [h1, h3]; rfl
    · show max ((pd a).depth) (PyData.depthAll (pds r)) ≤ n
      omega
theorem Av.pur {n : Nat} {d : D} (h : Av n d) : pur d = true := by
  induction h with
  | tup hl h ih => exact purs_of ih
  | kl hl h ih => exact purs_of ih
  | _ => rfl
theorem Av.lay {n : Nat} {d : D} (h : Av n d) : (pd d).canLay0 = true ∧ (pd d).depth ≤ n := by
  induction h with
  | non => exact ⟨by simp [pd, PyData.canLay0], by simp [pd, PyData.depth]⟩
  | bl b => exact ⟨by simp [pd, PyData.canLay0], by simp [pd, PyData.depth]⟩
  | int i => exact ⟨by simp [pd, PyData.canLay0], by simp [pd, PyData.depth]⟩
  | str z h => exact ⟨by simpa [pd, PyData.canLay0] using h, by simp [pd, PyData.depth]⟩
  | @tup n xs hl h ih =>
    obtain ⟨a, b⟩ := lay_of ih
    exact ⟨by simpa [pd, PyData.canLay0] using a, by simp only [pd, PyData.depth]; omega⟩
  | @kl n xs hl h ih =>
    obtain ⟨a, b⟩ := lay_of ih
    exact ⟨by simpa [pd, PyData.canLay0] using a, by simp only [pd, PyData.depth]; omega⟩
theorem Av.ok {n : Nat} {d : D} (h : Av n d) (hn : n ≤ 64) : okE d := ⟨h.pur, by
  obtain ⟨a, b⟩ := h.lay
  unfold SeqAt.shaped
  rw [a]
  simpa using Nat.le_trans b hn⟩
theorem eqv_emp {xs : List D} : PyData.eqv (pd (.tup xs)) (pd (.tup [])) = xs.isEmpty := by
  show PyData.eqv (.tuple (pds xs)) (.tuple []) = _
  simp only [PyData.eqv]
  rw [eqvAll_nil, pds_emp]
theorem strOk_of (s : String) : PyData.strOk (Str.ofString s) = true := by
  rw [Str.ofString_eq_toList]
  unfold PyData.strOk
  rw [Array.all_eq_true']
  intro x hx
  have hx : x ∈ s.toList.map Char.toNat := by simpa using hx
  obtain ⟨c, _, rfl⟩ := List.mem_map.mp hx
  have : c.toNat < 0x110000 := by
    rcases c.valid with h | h
    · exact Nat.lt_trans h (by decide)
    · exact h.2
  exact decide_eq_true this
/-- str of a whole number -/
def strFn (ds : List D) (S : Hq) (Q : Qv) : Prop := match ds with | [.int i] => i.natAbs.log2 < 1920 ∧ Q (.str (toString i)) S | _ => False
theorem lc_strF {K : PySem.W.Frag} : LiftC K strFn (fun xs H Q => ∃ i, xs = [.int i] ∧ i.natAbs.log2 < 1920 ∧ Q (.str (toString i)) H) := by
  intro ds S H Q' Q vs rh dv h q
  match ds, dv, h with
  | [.int i], .cons (.int _) .nil, h => exact ⟨_, rfl, h.1, q.here rh (.str _) h.2⟩
theorem q_strF {i : Int} {S : Hq} {Q : Qv} : strFn [.int i] S Q = (i.natAbs.log2 < 1920 ∧ Q (.str (toString i)) S) := rfl
theorem lc_fd {gd : Hq → Prop} {tt : RT} {te : RE} {i : Nat} {σ : Sg} {Qf : List D → Hq → Prop} {S : Hq} (f : D → Bool) (k : D → D) (hg : gd S) (ws : List D)
    (h1 : ∀ a ∈ ws, ∀ Q : Bool → Hq → Prop, Q (f a) S → tt ((wipeD σ [i]).set i (some a)) S Q NoX) (h2 : ∀ a ∈ ws, f a = true → ∀ Q : Qv, Q (k a) S → te ((wipeD σ [i]).set i (some a)) S Q NoX) (hz : ws.length ≤ 1000000)
    (q : Qf ((ws.filter f).map k) S) : lcP gd (gNm i) tt te [i] σ Qf ws [] S := by
  have := lc_ft (α := D) (gd := gd) (tt := tt) (te := te) (i := i) (σ := σ) (Qf := Qf) id f k hg ws h1 h2 hz q
  rwa [List.map_id] at this
def isIb : D → Bool
  | .int _ => true
  | _ => false
theorem isIb_iff {d : D} : isIb d = true ↔ ∃ i, d = .int i := by cases d <;> simp [isIb]
theorem at_2 {α : Type} {x y z : α} {r : List α} : atI (x :: y :: z :: r) 2 = some z := atI_nat (j := 2) rfl
theorem at_3 {α : Type} {x y z u : α} {r : List α} : atI (x :: y :: z :: u :: r) 3 = some u := atI_nat (j := 3) rfl
theorem log_small {i : Int} (h1 : i.natAbs < 2 ^ 70) : i.natAbs.log2 < 1920 := by
  by_cases c : i.natAbs = 0
  · rw [c]; decide
  · exact Nat.lt_of_lt_of_le ((Nat.log2_lt c).mpr h1) (by decide)
/-- a comprehension without a test, over plain values, that changes nothing -/
theorem lc_all {te : RE} {i : Nat} {σ : Sg} {Qf : List D → Hq → Prop} {S : Hq} {gd : Hq → Prop} (P : D → Prop) (hg : gd S) (xs : List D)
    (h : ∀ x ∈ xs, ∀ (Q : Qv), (∀ y, P y → Q y S) → te ((wipeD σ [i]).set i (some x)) S Q NoX) (hz : xs.length ≤ 1000000)
    (k : ∀ acc, acc.length = xs.length → (∀ y ∈ acc, P y) → Qf acc S) : lcP gd (gNm i) rYes te [i] σ Qf xs [] S :=
  lc_draw (fun S' => S' = S) P (fun _ h => h ▸ hg) xs [] S (fun x hx S' Q hi q => by subst hi; exact h x hx Q fun y hy => q y _ hy rfl) (by simpa using hz) (by simp) rfl
    (fun acc S' hl hp hi => by subst hi; exact k acc (by simpa using hl) hp)
theorem cutL_mem {α : Type} {xs : List α} {lo hi : Option Int} {x : α} (h : x ∈ cutL xs lo hi) : x ∈ xs := by unfold cutL at h; exact List.mem_of_mem_drop (List.mem_of_mem_take h)
theorem cutL_len {α : Type} {xs : List α} {lo hi : Option Int} : (cutL xs lo hi).length ≤ xs.length := by unfold cutL; rw [List.length_take, List.length_drop]; omega
theorem g_03a {α : Type} {a b c : α} : gk 0 3 [2, 1, 0] [] [a, b, c] = [c, b, a] := rfl
theorem g_03b {α : Type} {a b c : α} : gk 0 3 [0, 1, 2] [] [a, b, c] = [a, b, c] := rfl
theorem g_03c {α : Type} {a b c : α} : gk 0 3 [1, 2, 0] [] [a, b, c] = [b, c, a] := rfl
theorem g_03d {α : Type} {a b c : α} : gk 0 3 [2, 0, 1] [] [a, b, c] = [c, a, b] := rfl
theorem g_03e {α : Type} {a b c : α} : gk 0 3 [1, 0, 2] [] [a, b, c] = [b, a, c] := rfl
theorem g_03f {α : Type} {a b c : α} : gk 0 3 [0, 2, 1] [] [a, b, c] = [a, c, b] := rfl
theorem Nx.ofEx {b : Addr} {S S' : Hq} (h : Bx S b) (e : Ex S S') : Nx b S S' := ⟨let ⟨g, s, h⟩ := h; ⟨g, s, e _ _ h⟩, fun a o _ h => e a o h⟩
/-- name op= an int -/
def rAug (i : Nat) (f : Int → Int → Int) (r : RE) : RSt := fun D σ S => match σ[i]? with
  | some (some (.int a)) => r σ S (fun y S1 => asI y fun b => D.nx (σ.set i (some (.int (f a b)))) S1) (D.x σ)
  | _ => False
theorem es_aug {X : Cx} {W : WX} {e : Expr} {r : RE} {pos : Pos} {op : Operator} {f : Int → Int → Int} (i : Nat) {x : Str} {pos' : Pos} (ho : PIp X op (ipI f)) (hN : X.N.Nodup) (he : EV X W e r) (hi : X.N[i]? = some x := by rfl) (hx : Loc X.env.scope x := by first | exact .inl rfl | exact .inr rfl)
    (hf : X.fn x = true ∨ X.env.scope.names.lookup x = some .local := by first | exact .inl rfl | exact .inr rfl | assumption) : ES X W (.AugAssign (.Name x pos') op e pos) (rAug i f r) := by
  obtain ⟨T, p, l⟩ := he.ex
  refine ⟨_, ps_aug hN hi hx p ho hf, fun σ σ' H S D D' rs rh h d => ?_⟩
  unfold rAug at h
  split at h
  · rename_i a e
    obtain ⟨v, e', dv⟩ := rs.get i _ e
    cases dv
    refine ⟨_, e', l σ σ' H S _ _ _ rs rh h (fun y S1 u H1 f1 rh1 du h1 => ?_) (d.xi rh rs)⟩
    cases y <;> try exact h1.elim
    cases du
    exact ⟨_, _, rfl, rfl, d.nx _ _ _ _ f1 rh1 ((rs.mono (f1.tle rh)).set (.int _) i) h1⟩
  · exact h.elim
end Y
set_option maxHeartbeats 2000000
namespace Y
open PySem PySem.Spec PyProof.Rows L2
/-! ### sorted of bools -/
def sortB (bs : List Bool) : List Bool := bs.mergeSort (PySem.W.dataLe false fun b => .bool b)
def rSortedB (K : PySem.W.Frag) : List V → Hp → VK → Prop := fun vs H Q => ∃ (a : Addr) (bs : List Bool), vs = [V.ref a] ∧ SqL K H a (bs.map V.bl) ∧ ∀ p, H p = none → Q (.ref p) (upd H p (.lst ((sortB bs).map V.bl)))
theorem each_bl : ∀ {bs : List Bool} {its : List Value}, Vals (bs.map V.bl) its → PySem.W.EachIs (fun (v : Value) (b : Bool) => v = .bool b) its bs
  | [], _, r => by
    have r : Vals [] _ := r
    cases r; exact .nil
  | b :: bs, _, r => by
    have r : Vals (V.bl b :: bs.map V.bl) _ := r
    cases r with
    | cons h t => exact .cons h (each_bl t)
theorem vals_bl : ∀ {bs : List Bool} {its : List Value}, PySem.W.EachIs (fun (v : Value) (b : Bool) => v = .bool b) its bs → Vals (bs.map V.bl) its
  | _, _, .nil => .nil
  | _, _, .cons h t => .cons h (vals_bl t)
theorem cr_sortedB {X : Cx} (hu : X.A.units + 64 < cLine) : CallR X (.builtin "sorted") (rSortedB X.K) := by
  intro pins s σ H vs us Q I r h
  obtain ⟨a, bs, rfl, hs, q⟩ := h
  obtain ⟨its, rv, hl, hz⟩ := I.list hs
  rw [Vals.ref1 r]
  have he := each_bl rv
  have hlen0 := rv.length
  rw [List.length_map] at hlen0
  refine PySem.W.sorted_data (enc := fun b => .bool b) hl.isList he (he.mono fun v b e => ⟨[], by rw [e]; exact .bool b⟩) (.of fun _ _ => by simp [PySem.W.alike]) (.others fun _ => ⟨by simp, by simp⟩)
    (by rw [List.length_map] at hz; exact hz) (fun b _ => by simp only [PyData.depth]; omega) fun out h1 h2 => ?_
  obtain ⟨ep, he'⟩ := PyProof.Rows.sortedAll_at s.heap its out.toArray
  have hlen : ((sortB bs).map V.bl).length ≤ sizeLine := by
    rw [List.length_map]
    unfold sortB
    rw [List.length_mergeSort]
    rw [List.length_map] at hz; exact hz
  exact ⟨.ref _, upd H (s.heap.objs.size + 1) (.lst ((sortB bs).map V.bl)), I.laid (t' := s.toks) (fun _ _ => PyProof.Rows.sortedAll_old) (Nat.le_succ _) ⟨hlen, out, ep, vals_bl h2, he'⟩, rfl, q _ (I.hok.fresh (Nat.le_succ _))⟩
def srtBM (m : Nw2) (ds : List D) (S : Hq) (Q : Qv) : Prop := match ds with
  | [x] => lsv x S fun xs => ∃ bs : List Bool, xs = bs.map D.bl ∧ m ((sortB bs).map D.bl) S Q
  | _ => False
theorem DVs.ofBls {K : PySem.W.Frag} {H : Hp} : ∀ {zs : List Bool}, DVs K H (zs.map D.bl) (zs.map V.bl)
  | [] => .nil
  | _ :: _ => .cons (.bl _) DVs.ofBls
theorem DVs.bls {K : PySem.W.Frag} {H : Hp} : ∀ {bs : List Bool} {vs : List V}, DVs K H (bs.map D.bl) vs → vs = bs.map V.bl
  | [], _, .nil => rfl
  | b :: bs, _, .cons x r => by
    cases x
    rw [DVs.bls r]; rfl
theorem lc_srtBT {K : PySem.W.Frag} : LiftC K (srtBM nwT) (rSortedB K) := by
  intro ds S H Q' Q vs rh dv h q
  rcases ds with _ | ⟨x, _ | ⟨y, r⟩⟩
  · exact h.elim
  · cases dv with | @cons _ v _ _ dx t =>
    cases t
    obtain ⟨a, xs, vs, rfl, s, r, h, _⟩ := rh.lsv dx h
    obtain ⟨bs, rfl, h⟩ := h
    rw [DVs.bls r] at s
    exact ⟨a, bs, rfl, s, fun p hn => q.newL rh hn DVs.ofBls (h p (rh.fresh hn))⟩
  · exact h.elim
theorem cr_srtBF {X : Cx} (hu : X.A.units + 64 < cLine) : CallR X (.builtin "sorted") (fun xs H Q => rSortedB X.K xs H (fzV Q)) := callr_fz (cr_sortedB hu)
theorem lc_srtBF {K : PySem.W.Frag} : LiftC K (srtBM nwF) (fun xs H Q => rSortedB K xs H (fzV Q)) := liftc_fz lc_srtBT fun ds S Q h => by
  rcases ds with _ | ⟨x, _ | ⟨y, r⟩⟩
  · exact h.elim
  · refine lsv_mono h fun xs h => ?_
    obtain ⟨bs, e, h⟩ := h
    exact ⟨bs, e, nw_fz h⟩
  · exact h.elim
theorem q_srtB {m : Nw2} {x : D} {S : Hq} {Q : Qv} : srtBM m [x] S Q = lsv x S fun xs => ∃ bs : List Bool, xs = bs.map D.bl ∧ m ((sortB bs).map D.bl) S Q := rfl
theorem dataLe_bl (a b : Bool) : PySem.W.dataLe false (fun b => PyData.bool b) a b = (!a || b) := by
  rw [PySem.W.dataLe_eq]
  cases a <;> cases b <;> simp [PySem.W.dataLt, PySem.W.keyToks] <;> decide +kernel
theorem sortB_tf {a b : Bool} (h : a ≠ b) : sortB [a, b] = [false, true] := by
  have e : PySem.W.dataLe false (fun b => PyData.bool b) = fun a b => (!a || b) := by funext a b; exact dataLe_bl a b
  unfold sortB
  rw [e]
  cases a <;> cases b <;> first | exact absurd rfl h | simp [List.mergeSort, List.MergeSort.Internal.splitInTwo, List.merge]
theorem q_i2K {xs : List D} {S : Hq} {Q : Qv} : isi2D [.kl xs, .tup [.ty "tuple", .ty "list"]] S Q = Q (.bl true) S := rfl
theorem q_j2K {xs : List D} {S : Hq} {Q : Qv} : isi2D [.kl xs, .tup [.ty "list", .ty "tuple"]] S Q = Q (.bl true) S := rfl
theorem zipD_zip : ∀ (xs ys : List D), zipD xs ys = (xs.zip ys).map fun p => .tup [p.1, p.2]
  | [], [] => rfl
  | [], _ :: _ => rfl
  | _ :: _, [] => rfl
  | x :: xs, y :: ys => by rw [List.zip_cons_cons, List.map_cons, ← zipD_zip]; rfl
/-! ### comprehensions of which nothing is taken, while things change -/
theorem lc_none {gd : Hq → Prop} {tt : RT} {te : RE} {i : Nat} {σ : Sg} {Qf : List D → Hq → Prop} (I : Nat → Hq → Prop) (hg : ∀ j S, I j S → gd S) : ∀ (xs : List D) (k : Nat) (S : Hq),
    (∀ j x S, xs[j]? = some x → I (k + j) S → ∀ Q : Bool → Hq → Prop, (∀ S', I (k + j + 1) S' → Q false S') → tt ((wipeD σ [i]).set i (some x)) S Q NoX) → I k S → (∀ S', I (k + xs.length) S' → Qf [] S') → lcP gd (gNm i) tt te [i] σ Qf xs [] S
  | [], k, S, _, hi, q => ⟨hg k S hi, q S hi⟩
  | x :: r, k, S, h, hi, q => by
    refine ⟨hg k S hi, ?_⟩
    refine h 0 x S rfl hi _ fun S' hi' => ?_
    rw [if_neg (by decide)]
    refine lc_none I hg r (k + 1) S' (fun j y S hx hi => ?_) hi' (fun S' hi => ?_)
    · have := h (j + 1) y S hx
      rw [show k + 1 + j = k + (j + 1) by omega] at hi ⊢
      exact this hi
    · exact q S' (by rw [List.length_cons, show k + (r.length + 1) = k + 1 + r.length by omega]; exact hi)
theorem lc_mapS {α : Type} {gd : Hq → Prop} {te : RE} {i : Nat} {σ : Sg} {Qf : List D → Hq → Prop} (I : Hq → Prop) (hg : ∀ S, I S → gd S) (e k : α → D) : ∀ (ws : List α) (acc : List D) (S : Hq),
    (∀ x ∈ ws, ∀ (S : Hq) (Q : Qv), I S → (∀ S', I S' → Q (k x) S') → te ((wipeD σ [i]).set i (some (e x))) S Q NoX) → acc.length + ws.length ≤ 1000000 → I S → (∀ S', I S' → Qf (acc ++ ws.map k) S') → lcP gd (gNm i) rYes te [i] σ Qf (ws.map e) acc S
  | [], acc, S, _, _, hi, q => ⟨hg S hi, by simpa using q S hi⟩
  | x :: r, acc, S, h, hz, hi, q => by
    refine ⟨hg S hi, ?_⟩
    show te ((wipeD σ [i]).set i (some (e x))) S (fun y S4 => acc.length < 1000000 ∧ lcP gd (gNm i) rYes te [i] σ Qf (r.map e) (acc ++ [y]) S4) NoX
    refine h x (by simp) S _ hi fun S' hi' => ⟨by simp at hz; omega, ?_⟩
    exact lc_mapS I hg e k r (acc ++ [k x]) S' (fun y hy => h y (by simp [hy])) (by simp at hz ⊢; omega) hi' (fun S2 hi2 => by simpa using q S2 hi2)
end Y
namespace Y
open PySem PySem.Spec PyProof.Rows L2
/-! ### dicts whose keys are numbers and texts -/
def kD : Key → D
  | .inl i => .int i
  | .inr x => .str x
def keyD : D → Option Key
  | .int i => some (.inl i)
  | .str x => some (.inr x)
  | _ => none
theorem keyD_kD (k : Key) : keyD (kD k) = some k := by cases k <;> rfl
section
variable {κ : Type} [DecidableEq κ]
def valQ (kvs : List (κ × D)) (k : κ) : Option D := (kvs.find? fun kv => decide (kv.1 = k)).map (·.2)
def putQ (kvs : List (κ × D)) (k : κ) (v : D) : List (κ × D) :=
  if (kvs.any fun kv => decide (kv.1 = k)) = true then kvs.map (fun kv => if kv.1 = k then (kv.1, v) else kv) else kvs ++ [(k, v)]
def delQ (kvs : List (κ × D)) (k : κ) : List (κ × D) := kvs.filter fun kv => decide (kv.1 ≠ k)
theorem valQ_nil {k : κ} : valQ ([] : List (κ × D)) k = none := rfl
theorem valQ_pos {p : κ × D} {r : List (κ × D)} {k : κ} (e : p.1 = k) : valQ (p :: r) k = some p.2 := by simp [valQ, List.find?_cons, e]
theorem valQ_neg {p : κ × D} {r : List (κ × D)} {k : κ} (e : ¬ p.1 = k) : valQ (p :: r) k = valQ r k := by simp [valQ, List.find?_cons, e]
theorem valQ_any (k : κ) : ∀ kvs : List (κ × D), (kvs.any fun kv => decide (kv.1 = k)) = (valQ kvs k).isSome
  | [] => rfl
  | p :: r => by
    by_cases e : p.1 = k
    · rw [valQ_pos e, List.any_cons, decide_eq_true e]; rfl
    · rw [valQ_neg e, List.any_cons, decide_eq_false e, Bool.false_or]; exact valQ_any k r
theorem putQ_new {kvs : List (κ × D)} {k : κ} {v : D} (h : k ∉ kvs.map (·.1)) : putQ kvs k v = kvs ++ [(k, v)] := by
  unfold putQ
  rw [if_neg]
  intro z
  obtain ⟨p, hp, e⟩ := List.any_eq_true.mp z
  exact h (List.mem_map.mpr ⟨p, hp, of_decide_eq_true e⟩)
theorem valQ_of_mem {kvs : List (κ × D)} {p : κ × D} (hn : (kvs.map (·.1)).Nodup) (h : p ∈ kvs) : valQ kvs p.1 = some p.2 := by
  induction kvs with
  | nil => cases h
  | cons q r ih =>
    rw [List.map_cons, List.nodup_cons] at hn
    rcases List.mem_cons.mp h with rfl | h
    · exact valQ_pos rfl
    · rw [valQ_neg (fun z => hn.1 (by rw [z]; exact List.mem_map_of_mem h))]
      exact ih hn.2 h
theorem valQ_none {kvs : List (κ × D)} {k : κ} (h : k ∉ kvs.map (·.1)) : valQ kvs k = none := by
  induction kvs with
  | nil => rfl
  | cons q r ih =>
    rw [List.map_cons] at h
    rw [valQ_neg (fun z => h (by rw [z]; exact List.mem_cons_self))]
    exact ih fun z => h (List.mem_cons_of_mem _ z)
section
variable {K : PySem.W.Frag} {H : Hp} {ds : List (κ × D)} {vs : List (κ × V)}
theorem Dc.length : ∀ {ds : List (κ × D)} {vs : List (κ × V)}, Dc K H ds vs → ds.length = vs.length
  | _, _, .nil => rfl
  | _, _, .cons _ r => congrArg (· + 1) (Dc.length r)
theorem Dc.keys : ∀ {ds : List (κ × D)} {vs : List (κ × V)}, Dc K H ds vs → ds.map (·.1) = vs.map (·.1)
  | _, _, .nil => rfl
  | _, _, .cons _ r => by rw [List.map_cons, List.map_cons, Dc.keys r]
theorem Dc.app : ∀ {ds es : List (κ × D)} {vs ws : List (κ × V)}, Dc K H ds vs → Dc K H es ws → Dc K H (ds ++ es) (vs ++ ws)
  | _, _, _, _, .nil, s => s
  | _, _, _, _, .cons x r, s => .cons x (Dc.app r s)
theorem Dc.any (k : κ) : ∀ {ds : List (κ × D)} {vs : List (κ × V)}, Dc K H ds vs → (ds.any fun kv => decide (kv.1 = k)) = (vs.any fun kv => decide (kv.1 = k))
  | _, _, .nil => rfl
  | _, _, .cons _ r => by rw [List.any_cons, List.any_cons, Dc.any k r]
theorem Dc.val (k : κ) : ∀ {ds : List (κ × D)} {vs : List (κ × V)}, Dc K H ds vs → (valQ ds k = none ∧ valV vs k = none) ∨ ∃ d v, valQ ds k = some d ∧ valV vs k = some v ∧ DV K H d v
  | _, _, .nil => .inl ⟨rfl, rfl⟩
  | (k', d) :: _, (_, v) :: _, .cons x r => by
    by_cases e : k' = k
    · exact .inr ⟨d, v, valQ_pos e, valV_pos e, x⟩
    · rw [valQ_neg (show ¬ (k', d).1 = k from e), valV_neg (show ¬ (k', v).1 = k from e)]
      exact Dc.val k r
theorem Dc.repl (k : κ) {d : D} {v : V} (y : DV K H d v) : ∀ {ds : List (κ × D)} {vs : List (κ × V)}, Dc K H ds vs → Dc K H (ds.map fun kv => if kv.1 = k then (kv.1, d) else kv) (vs.map fun kv => if kv.1 = k then (kv.1, v) else kv)
  | _, _, .nil => .nil
  | (k', d') :: _, (_, v') :: _, .cons x r => by
    rw [List.map_cons, List.map_cons]
    by_cases e : k' = k
    · rw [if_pos (show (k', d').1 = k from e), if_pos (show (k', v').1 = k from e)]; exact .cons y (Dc.repl k y r)
    · rw [if_neg (show ¬ (k', d').1 = k from e), if_neg (show ¬ (k', v').1 = k from e)]; exact .cons x (Dc.repl k y r)
theorem Dc.put (k : κ) {d : D} {v : V} (y : DV K H d v) (r : Dc K H ds vs) : Dc K H (putQ ds k d) (L2.putK vs k v) := by
  unfold putQ L2.putK
  rw [r.any k]
  by_cases q : (vs.any fun kv => decide (kv.1 = k)) = true
  · rw [if_pos q, if_pos q]; exact Dc.repl k y r
  · rw [if_neg q, if_neg q]; exact Dc.app r (.cons y .nil)
theorem Dc.del (k : κ) : ∀ {ds : List (κ × D)} {vs : List (κ × V)}, Dc K H ds vs → Dc K H (delQ ds k) (dropK vs k)
  | _, _, .nil => .nil
  | (k', d) :: ds, (_, v) :: vs, .cons x r => by
    have ih := Dc.del k r
    unfold delQ dropK at ih ⊢
    by_cases e : k' = k
    · rw [List.filter_cons_of_neg (by simp [e]), List.filter_cons_of_neg (by simp [e])]; exact ih
    · rw [List.filter_cons_of_pos (by simp [e]), List.filter_cons_of_pos (by simp [e])]; exact .cons x ih
end
end

section
variable {X : Cx} {K : PySem.W.Frag} {S : Hq} {H : Hp} {W : WX} {a b : Expr} {ra rb : RE} {pos : Pos}
theorem DV.ofKey {y : D} {v : V} {k : Key} (e : keyD y = some k) (d : DV K H y v) : v = kV k := by
  cases d <;> cases e <;> rfl
/-- the dict at a holds these, in this order; it may be locked -/
def GtK (S : Hq) (a : Addr) (kvs : List (Key × D)) : Prop := S a = some (.dk kvs) ∨ ∃ o ys, S a = some (.fk o ys kvs)
theorem RH.gtK {a : Addr} {kvs : List (Key × D)} (rh : RH K S H) (h : GtK S a kvs) : ∃ ys, Rd H a (.dK ys) ∧ Dc K H kvs ys := by
  rcases h with h | ⟨o, ys, h⟩
  · obtain ⟨ys, hy, r⟩ := rh _ _ h; exact ⟨ys, .inl hy, r⟩
  · obtain ⟨hy, r⟩ := rh _ _ h; exact ⟨ys, .inr ⟨o, hy⟩, r⟩
/-- y in d, y not in d -/
def inK (f : Bool → Bool) : R2q := fun y x S Q => match x, keyD y with
  | .ref a, some k => ∃ kvs, GtK S a kvs ∧ Q (.bl (f (valQ kvs k).isSome)) S
  | _, _ => False
def rInDk (f : Bool → Bool) : R2 := fun y x H Q => ∃ a o, x = .ref a ∧ DGet H a y o ∧ Q (.bl (f o.isSome)) H
theorem op_inK (hu : X.A.units + 1 < cLine) : OpR X (compareOp .In) (rInDk id) := by
  intro pins s σ H x y v u Q I rx ry h
  obtain ⟨a, o, rfl, g, q⟩ := h
  cases ry
  exact d_in hu I g rx fun s3 I3 => ⟨.bl o.isSome, H, I3, rfl, q⟩
theorem op_notInK (hu : X.A.units + 1 < cLine) : OpR X (compareOp .NotIn) (rInDk not) := by
  intro pins s σ H x y v u Q I rx ry h
  obtain ⟨a, o, rfl, g, q⟩ := h
  cases ry
  exact d_notIn hu I g rx fun s3 I3 => ⟨.bl (!o.isSome), H, I3, rfl, q⟩
theorem lf_inK {f : Bool → Bool} : Lift2 K (inK f) (rInDk f) := by
  intro x y S H Q' Q v u rh dx dy h q
  cases y <;> try exact h.elim
  rename_i a
  cases dy
  cases e : keyD x with
  | none => unfold inK at h; rw [e] at h; exact h.elim
  | some k =>
    unfold inK at h; rw [e] at h
    obtain ⟨kvs, es, h⟩ := h
    obtain ⟨ys, hy, r⟩ := rh.gtK es
    obtain rfl := DV.ofKey e dx
    refine ⟨a, valV ys k, rfl, .inl ⟨ys, k, hy, rfl, rfl⟩, q.here rh (.bl _) ?_⟩
    rcases r.val k with ⟨e1, e2⟩ | ⟨d, w, e1, e2, _⟩ <;> (rw [e1] at h; rw [e2]; exact h)
/-- d[y], there -/
def getK : R2q := fun x y S Q => match x, keyD y with
  | .ref a, some k => ∃ kvs d, GtK S a kvs ∧ valQ kvs k = some d ∧ Q d S
  | _, _ => False
theorem ev_dget (hu : X.A.units + 1 < cLine) (ha : EV X W a ra) (hb : EV X W b rb) (hs : NoSl b := by exact fun _ _ => rfl) : EV X W (.Subscript a b pos) (rBin getK ra rb) := by
  obtain ⟨Ta, pa, la⟩ := ha.ex
  obtain ⟨Tb, pb, lb⟩ := hb.ex
  refine ⟨_, pe_dget hu pa pb hs, fun σ σ' H S Q Q' E' rs rh h q xi => ?_⟩
  refine la σ σ' H S _ _ E' rs rh h (fun d S1 v H1 f1 rh1 dv h1 => ?_) xi
  refine lb σ σ' H1 S1 _ _ E' (rs.mono (f1.tle rh)) rh1 h1 (fun e S2 u H2 f2 rh2 du h2 => ?_) (xi.go f1)
  have dv := DV.mono (f2.tle rh1) _ _ dv
  cases d <;> try exact h2.elim
  cases dv
  rename_i a
  cases e' : keyD e with
  | none => unfold getK at h2; rw [e'] at h2; exact h2.elim
  | some k =>
    unfold getK at h2; rw [e'] at h2
    obtain ⟨kvs, d, es, ev, h2⟩ := h2
    obtain ⟨ys, hy, r⟩ := rh2.gtK es
    obtain rfl := DV.ofKey e' du
    rcases r.val k with ⟨e1, _⟩ | ⟨d', w, e1, e2, dw⟩
    · rw [e1] at ev; cases ev
    · rw [e1] at ev; cases ev
      exact ⟨a, w, rfl, by rw [← e2]; exact .inl ⟨ys, k, hy, rfl, rfl⟩, (q.go (f1.trans f2)).here rh2 dw h2⟩
/-- d[y] = v -/
def setK (o i d : D) (S : Hq) (Q : Hq → Prop) : Prop := match o, keyD i with
  | .ref a, some k => ∃ kvs, S a = some (.dk kvs) ∧ kvs.length < 1000000 ∧ Q (up S a (.dk (putQ kvs k d)))
  | _, _ => False
def gDk (ro ri : RE) : RG := fun d σ S N E => ro σ S (fun o S1 => ri σ S1 (fun i S2 => setK o i d S2 (fun S3 => N σ S3)) E) E
def rSetDk : TSet := fun x y v H Q => ∃ a H4, x = .ref a ∧ DPut H a y v H4 ∧ Q H4
theorem set_dk (hu : X.A.units + 1 < cLine) : PSet X rSetDk := by
  intro pins s σ H o i v ov iv u Q I ro ri rv h
  obtain ⟨a, H4, rfl, g, q⟩ := h
  obtain rfl : ov = Value.ref a := ro
  exact d_setItem hu I g ri rv fun s4 I4 => ⟨H4, I4, q⟩
theorem eg_dk {o i : Expr} {ro ri : RE} (hu : X.A.units + 1 < cLine) (ho : EV X W o ro) (hi : EV X W i ri)
    (ha : ∀ v, assign (.Subscript o i pos) X.env v = (do
      let ov ← holding [v] (eval o X.env)
      let iv ← holding [v, ov] (eval i X.env)
      standAt pos
      holding [v, ov, iv] (setItem ov iv v)
      release [v, ov, iv] []) := by intro _; rfl) : EG X W (.Subscript o i pos) (gDk ro ri) := by
  obtain ⟨To, po, lo⟩ := ho.ex
  obtain ⟨Ti, pi, li⟩ := hi.ex
  refine ⟨_, pg_sub po pi (set_dk hu) ha, fun σ σ' H S d v N N' E' rs rh dv h n x => ?_⟩
  refine lo σ σ' H S _ _ E' rs rh h (fun o S1 ov H1 f1 rh1 do1 h1 => ?_) x
  refine li σ σ' H1 S1 _ _ E' (rs.mono (f1.tle rh)) rh1 h1 (fun i S2 iv H2 f2 rh2 di h2 => ?_) (x.go f1)
  have do1 := DV.mono (f2.tle rh1) _ _ do1
  cases o <;> try exact h2.elim
  cases do1
  rename_i a
  cases e' : keyD i with
  | none => unfold setK at h2; rw [e'] at h2; exact h2.elim
  | some k =>
    unfold setK at h2; rw [e'] at h2
    obtain ⟨kvs, es, hl, h2⟩ := h2
    obtain ⟨ys, hy, r⟩ := rh2 _ _ es
    obtain rfl := DV.ofKey e' di
    have f12 := f1.trans f2
    have hl' : ys.length < sizeLine := by rw [← r.length, sizeLine_eq]; omega
    have tle := RH.putTle rh2 (o := .dK (L2.putK ys k v)) es
    have dv2 := DV.mono tle _ _ (DV.mono (f12.tle rh) _ _ dv)
    have fr : Fr S2 H2 (up S2 a (.dk (putQ kvs k d))) (upd H2 a (.dK (L2.putK ys k v))) := Fr.put es
    refine ⟨a, _, rfl, DPut.k hy hl', n _ _ _ _ (f12.trans fr) (RH.put rh2 es ⟨_, upd_same, (r.mono tle).put k dv2⟩) ((rs.mono (f12.tle rh)).mono tle) h2⟩
/-- {} -/
def rDNew : RE := fun _ S Q _ => ∀ p, S p = none → Q (.ref p) (up S p (.dk []))
theorem ev_dnew : EV X W (.Dict [] [] pos) rDNew := by
  refine ⟨_, pe_dnewK, fun σ σ' H S Q Q' E' rs rh h q xi => fun p hp => ?_⟩
  exact q _ _ _ _ (Fr.new2 rh hp) (RH.new2 (q := .dk []) rh hp ⟨[], upd_same, .nil⟩) (.ref p) (h p (rh.fresh hp))
theorem k_inS {x : Str} {a : Addr} {f : Bool → Bool} {Q : Qv} : inK f (.str x) (.ref a) S Q = (∃ kvs, GtK S a kvs ∧ Q (.bl (f (valQ kvs (.inr x)).isSome)) S) := rfl
theorem k_inI {x : Int} {a : Addr} {f : Bool → Bool} {Q : Qv} : inK f (.int x) (.ref a) S Q = (∃ kvs, GtK S a kvs ∧ Q (.bl (f (valQ kvs (.inl x)).isSome)) S) := rfl
theorem k_getS {x : Str} {a : Addr} {Q : Qv} : getK (.ref a) (.str x) S Q = (∃ kvs d, GtK S a kvs ∧ valQ kvs (.inr x) = some d ∧ Q d S) := rfl
theorem k_getI {x : Int} {a : Addr} {Q : Qv} : getK (.ref a) (.int x) S Q = (∃ kvs d, GtK S a kvs ∧ valQ kvs (.inl x) = some d ∧ Q d S) := rfl
theorem k_setS {x : Str} {a : Addr} {d : D} {Q : Hq → Prop} : setK (.ref a) (.str x) d S Q = (∃ kvs, S a = some (.dk kvs) ∧ kvs.length < 1000000 ∧ Q (up S a (.dk (putQ kvs (.inr x) d)))) := rfl
theorem k_setI {x : Int} {a : Addr} {d : D} {Q : Hq → Prop} : setK (.ref a) (.int x) d S Q = (∃ kvs, S a = some (.dk kvs) ∧ kvs.length < 1000000 ∧ Q (up S a (.dk (putQ kvs (.inl x) d)))) := rfl
end
end Y
namespace Y
open PySem PySem.Spec PyProof.Rows L2
/-! ### a dict is locked while it is walked -/
/-- the statement runs while the dict at d is locked; which dict, the proof says -/
def rLock (t : RSt) : RSt := fun D σ S => ∃ d kvs, S d = some (.dk kvs) ∧ ∀ od ys, t ⟨fun σ' S' => S' d = some (.fk od ys kvs) ∧ D.nx σ' (up S' d (.dk kvs)), fun v S' => S' d = some (.fk od ys kvs) ∧ D.rt v (up S' d (.dk kvs)), fun σ' S' => S' d = some (.fk od ys kvs) ∧ D.bk σ' (up S' d (.dk kvs)), fun σ' S' => S' d = some (.fk od ys kvs) ∧ D.ct σ' (up S' d (.dk kvs)), D.ex⟩ σ (up S d (.fk od ys kvs))
def rLockE (r : RE) : RE := fun σ S Q E => ∃ d kvs, S d = some (.dk kvs) ∧ ∀ od ys, r σ (up S d (.fk od ys kvs)) (fun v S' => S' d = some (.fk od ys kvs) ∧ Q v (up S' d (.dk kvs))) E
section
variable {X : Cx} {K : PySem.W.Frag} {S : Hq} {H : Hp} {W : WX}
theorem lock_on {a : Addr} {kvs : List (Key × D)} {ys : List (Key × V)} (rh : RH K S H) (e : S a = some (.dk kvs)) (r : Dc K H kvs ys) (od : Obj) :
    Fr S H (up S a (.fk od ys kvs)) (upd H a (.frz od (.dK ys))) ∧ RH K (up S a (.fk od ys kvs)) (upd H a (.frz od (.dK ys))) ∧ Tle K H (upd H a (.frz od (.dK ys))) :=
  have t := RH.putTle rh (o := .frz od (.dK ys)) e
  ⟨Fr.put e, RH.put rh e ⟨upd_same, r.mono t⟩, t⟩
theorem lock_off {a : Addr} {kvs : List (Key × D)} {ys : List (Key × V)} {od : Obj} {S' : Hq} {H' : Hp} (e0 : S a = some (.dk kvs)) (f : Fr (up S a (.fk od ys kvs)) (upd H a (.frz od (.dK ys))) S' H') (rh : RH K S' H') (e : S' a = some (.fk od ys kvs)) :
    H' a = some (.frz od (.dK ys)) ∧ Fr S H (up S' a (.dk kvs)) (upd H' a (.dK ys)) ∧ RH K (up S' a (.dk kvs)) (upd H' a (.dK ys)) ∧ Tle K H' (upd H' a (.dK ys)) := by
  obtain ⟨hy, r⟩ := rh _ _ e
  have t := RH.putTle rh (o := .dK ys) e
  refine ⟨hy, fun b o hb nb => ?_, RH.put rh e ⟨ys, upd_same, r.mono t⟩, t⟩
  have hba : b ≠ a := fun z => by rw [z, e0] at nb; cases nb
  obtain ⟨h1, h2⟩ := f b o (by rw [upd_ne hba]; exact hb) (by rw [up_ne hba]; exact nb)
  exact ⟨by rw [upd_ne hba]; exact h1, by rw [up_ne hba]; exact h2⟩
theorem es_lock {st : Stmt} {t : RSt} (h : ES X W st t) : ES X W st (rLock t) := by
  obtain ⟨T, p, l⟩ := h.ex
  refine ⟨_, ps_lock p, fun σ σ' H S D D' rs rh h d => ?_⟩
  obtain ⟨a, kvs, e, h⟩ := h
  obtain ⟨ys, hy, r⟩ := rh _ _ e
  refine ⟨a, .dK ys, hy, trivial, fun od => ?_⟩
  obtain ⟨f1, rh1, t1⟩ := lock_on rh e r od
  refine l σ σ' _ _ _ _ (rs.mono t1) rh1 (h od ys) ⟨?_, ?_, ?_, ?_, ?_⟩
  · exact fun σ2' S2 σ2 H2 f2 rh2 rs2 h2 => let ⟨b1, b2, b3, b4⟩ := lock_off e f2 rh2 h2.1; ⟨b1, d.nx _ _ _ _ b2 b3 (rs2.mono b4) h2.2⟩
  · exact fun x S2 v H2 f2 rh2 dv h2 => let ⟨b1, b2, b3, b4⟩ := lock_off e f2 rh2 h2.1; ⟨b1, d.rt _ _ _ _ b2 b3 (DV.mono b4 _ _ dv) h2.2⟩
  · exact fun σ2' S2 σ2 H2 f2 rh2 rs2 h2 => let ⟨b1, b2, b3, b4⟩ := lock_off e f2 rh2 h2.1; ⟨b1, d.bk _ _ _ _ b2 b3 (rs2.mono b4) h2.2⟩
  · exact fun σ2' S2 σ2 H2 f2 rh2 rs2 h2 => let ⟨b1, b2, b3, b4⟩ := lock_off e f2 rh2 h2.1; ⟨b1, d.ct _ _ _ _ b2 b3 (rs2.mono b4) h2.2⟩
  · exact fun n C fs σ2' S2 σ2 H2 x c f2 rh2 rs2 ok nw h2 => d.ex n C fs σ2' S2 σ2 H2 x c (f1.trans f2) rh2 rs2 ok (nw.go f1) h2
theorem ev_lock {e : Expr} {r : RE} (h : EV X W e r) : EV X W e (rLockE r) := by
  obtain ⟨T, p, l⟩ := h.ex
  refine ⟨_, pe_lock p, fun σ σ' H S Q Q' E' rs rh h q xi => ?_⟩
  obtain ⟨a, kvs, e, h⟩ := h
  obtain ⟨ys, hy, r⟩ := rh _ _ e
  refine ⟨a, .dK ys, hy, trivial, fun od => ?_⟩
  obtain ⟨f1, rh1, t1⟩ := lock_on rh e r od
  refine l σ σ' _ _ _ _ _ (rs.mono t1) rh1 (h od ys) (fun x S2 v H2 f2 rh2 dv h2 => ?_) (xi.go f1)
  obtain ⟨b1, b2, b3, b4⟩ := lock_off e f2 rh2 h2.1
  exact ⟨b1, q _ _ _ _ b2 b3 (DV.mono b4 _ _ dv) h2.2⟩
/-! walks -/
def keysD (x : D) (S1 : Hq) (R : List D → (Hq → Prop) → Hq → Prop) : Prop := match x with
  | .ref a => ∃ o ys kvs, S1 a = some (.fk o ys kvs) ∧ R (kvs.map fun p => kD p.1) (fun S => S a = some (.fk o ys kvs)) S1
  | _ => False
def valsD (x : D) (S1 : Hq) (R : List D → (Hq → Prop) → Hq → Prop) : Prop := match x with
  | .ref a => ∃ o ys kvs, S1 a = some (.fk o ys kvs) ∧ R (kvs.map fun p => p.2) (fun S => S a = some (.fk o ys kvs)) S1
  | _ => False
def itemD (x : D) (S1 : Hq) (R : List D → (Hq → Prop) → Hq → Prop) : Prop := match x with
  | .ref a => ∃ o ys kvs, S1 a = some (.fk o ys kvs) ∧ R (kvs.map fun p => .tup [kD p.1, p.2]) (fun S => S a = some (.fk o ys kvs)) S1
  | _ => False
def iKys (r : RE) : RI := fun σ S R E => r σ S (fun x S1 => keysD x S1 R) E
def iVls (r : RE) : RI := fun σ S R E => r σ S (fun x S1 => valsD x S1 R) E
def iIts (r : RE) : RI := fun σ S R E => r σ S (fun x S1 => itemD x S1 R) E
theorem DV.kD {k : Key} : DV K H (kD k) (kV k) := by cases k <;> constructor
theorem Dc.at {κ : Type} {H : Hp} : ∀ {ds : List (κ × D)} {vs : List (κ × V)} {i : Nat} {k : κ} {v : V}, Dc K H ds vs → vs[i]? = some (k, v) → ∃ d, ds[i]? = some (k, d) ∧ DV K H d v
  | _, _, _, _, _, .nil, e => by simp at e
  | _, _, 0, _, _, .cons x r, e => by simp at e; obtain ⟨rfl, rfl⟩ := e; exact ⟨_, rfl, x⟩
  | _, _, i + 1, _, _, .cons x r, e => by rw [List.getElem?_cons_succ] at e ⊢; exact Dc.at r e
theorem it_keys {S1 : Hq} {H1 : Hp} {a : Addr} {o : Obj} {ys : List (Key × V)} {kvs : List (Key × D)} : ItOk K S1 H1 (Itk a o ys) (kvs.map fun p => kD p.1) (fun S => S a = some (.fk o ys kvs)) :=
  ⟨fun S H f rh g => ⟨(rh _ _ g).1, by rw [List.length_map, (rh _ _ g).2.length]; exact Nat.le_refl _⟩,
   fun i x S H hx f rh g => ⟨(rh _ _ g).1, by
    rw [← (rh _ _ g).2.length]
    have := (List.getElem?_eq_some_iff.mp hx).1
    rwa [List.length_map] at this⟩,
   fun i x S H v H' hx f rh g hy => by
    obtain ⟨rfl, k, w, e, rfl⟩ := hy
    obtain ⟨d, e2, _⟩ := (rh _ _ g).2.at e
    rw [List.getElem?_map, e2] at hx
    cases hx
    exact ⟨Fr.refl, rh, DV.kD⟩⟩
theorem it_vals {S1 : Hq} {H1 : Hp} {a : Addr} {o : Obj} {ys : List (Key × V)} {kvs : List (Key × D)} : ItOk K S1 H1 (Itd a o ys) (kvs.map fun p => p.2) (fun S => S a = some (.fk o ys kvs)) :=
  ⟨fun S H f rh g => ⟨(rh _ _ g).1, by rw [List.length_map, (rh _ _ g).2.length]; exact Nat.le_refl _⟩,
   fun i x S H hx f rh g => ⟨(rh _ _ g).1, by
    rw [← (rh _ _ g).2.length]
    have := (List.getElem?_eq_some_iff.mp hx).1
    rwa [List.length_map] at this⟩,
   fun i x S H v H' hx f rh g hy => by
    obtain ⟨rfl, k, e⟩ := hy
    obtain ⟨d, e2, dw⟩ := (rh _ _ g).2.at e
    rw [List.getElem?_map, e2] at hx
    cases hx
    exact ⟨Fr.refl, rh, dw⟩⟩
theorem it_items {S1 : Hq} {H1 : Hp} {a : Addr} {o : Obj} {ys : List (Key × V)} {kvs : List (Key × D)} : ItOk K S1 H1 (Iti a o ys) (kvs.map fun p => .tup [kD p.1, p.2]) (fun S => S a = some (.fk o ys kvs)) :=
  ⟨fun S H f rh g => ⟨(rh _ _ g).1, by rw [List.length_map, (rh _ _ g).2.length]; exact Nat.le_refl _⟩,
   fun i x S H hx f rh g => ⟨(rh _ _ g).1, by
    rw [← (rh _ _ g).2.length]
    have := (List.getElem?_eq_some_iff.mp hx).1
    rwa [List.length_map] at this⟩,
   fun i x S H v H' hx f rh g hy => by
    obtain ⟨T, k, w, e, rfl, hT, rfl⟩ := hy
    obtain ⟨d, e2, dw⟩ := (rh _ _ g).2.at e
    rw [List.getElem?_map, e2] at hx
    cases hx
    have f2 : Fr S H S (upd H T (.tup [kV k, w])) := Fr.new rh hT
    exact ⟨f2, RH.new rh hT, .tup (.inl (.inl upd_same)) (.cons DV.kD (.cons (DV.mono (f2.tle rh) _ _ dw) .nil))⟩⟩
theorem ei_keys {tg e : Expr} {r : RE} (h : EV X W e r) : EI X W tg e (iKys r) := by
  obtain ⟨T, p, l⟩ := h.ex
  refine ⟨_, pi_keys p, fun σ σ' H S R R' E' rs rh h q xi => ?_⟩
  refine l σ σ' H S _ _ _ rs rh h (fun x S1 v H1 f1 rh1 dv h1 => ?_) xi
  cases dv with
  | ref a =>
    obtain ⟨o, ys, kvs, g, h1⟩ := h1
    exact ⟨a, o, rfl, .inl ⟨ys, (rh1 _ _ g).1, q _ _ _ _ _ f1 rh1 it_keys h1⟩⟩
  | _ => exact h1.elim
theorem ei_vals {tg e : Expr} {apos cpos : Pos} {r : RE} (h : EV X W e r) (hbase : attributeBase e "values" X.env (eval e X.env) = eval e X.env := by rfl) (hline : (apos.endLine == cpos.line) = true := by rfl) : EI X W tg (.Call (.Attribute e "values" apos) [] [] cpos) (iVls r) := by
  obtain ⟨T, p, l⟩ := h.ex
  refine ⟨_, pi_values p hbase hline, fun σ σ' H S R R' E' rs rh h q xi => ?_⟩
  refine l σ σ' H S _ _ _ rs rh h (fun x S1 v H1 f1 rh1 dv h1 => ?_) xi
  cases dv with
  | ref a =>
    obtain ⟨o, ys, kvs, g, h1⟩ := h1
    exact ⟨a, o, ys, rfl, (rh1 _ _ g).1, q _ _ _ _ _ f1 rh1 it_vals h1⟩
  | _ => exact h1.elim
theorem ei_items {elts : List Expr} {kk : Nat} {tpos : Pos} {e : Expr} {apos cpos : Pos} {r : RE} (h : EV X W e r) (hbase : attributeBase e "items" X.env (eval e X.env) = eval e X.env := by rfl) (hline : (apos.endLine == cpos.line) = true := by rfl) : EI X W (.Tuple elts kk tpos) (.Call (.Attribute e "items" apos) [] [] cpos) (iIts r) := by
  obtain ⟨T, p, l⟩ := h.ex
  refine ⟨_, pi_items p hbase hline, fun σ σ' H S R R' E' rs rh h q xi => ?_⟩
  refine l σ σ' H S _ _ _ rs rh h (fun x S1 v H1 f1 rh1 dv h1 => ?_) xi
  cases dv with
  | ref a =>
    obtain ⟨o, ys, kvs, g, h1⟩ := h1
    exact ⟨a, o, ys, rfl, (rh1 _ _ g).1, q _ _ _ _ _ f1 rh1 it_items h1⟩
  | _ => exact h1.elim
end
end Y
namespace Y
open PySem PySem.Spec PyProof.Rows L2
/-! ### comprehensions of dicts -/
def dcP (gd : Hq → Prop) (g : RG) (tt : RT) (tk tv : RE) (vs : List Nat) (σ : Sg) (Q : List (Key × D) → Hq → Prop) : List D → List (Key × D) → Hq → Prop
  | [], acc, S => gd S ∧ Q acc S
  | x :: r, acc, S => gd S ∧ g x (wipeD σ vs) S (fun σ2 S2 => tt σ2 S2 (fun b S3 => if b = true then tk σ2 S3 (fun y S4 => tv σ2 S4 (fun z S5 => ∃ k, keyD y = some k ∧ acc.length < 1000000 ∧ dcP gd g tt tk tv vs σ Q r (putQ acc k z) S5) NoX) NoX else dcP gd g tt tk tv vs σ Q r acc S3) NoX) NoX
def rDc (ri : RI) (g : RG) (tt : RT) (tk tv : RE) (vs : List Nat) : RE := fun σ S Q E => ri σ S (fun xs gd S1 => dcP gd g tt tk tv vs σ (fun acc S2 => ∀ p, S2 p = none → Q (.ref p) (up S2 p (.dk acc))) xs [] S1) E
theorem dc_run {K : PySem.W.Frag} {W : WX} {J : It} {gd : Hq → Prop} {T : TG} {g : RG} {tt : RT} {tk tv : RE} {vs : List Nat} {σ : L2.St} {σ' : Sg} {S1 : Hq} {H1 : Hp} {xs : List D} {Q : VK} {Q' : Qv} (kp : Keeps T g vs K)
    (rs : RS K H1 σ' σ) (rh : RH K S1 H1) (ok : ItOk K S1 H1 J xs gd) (q : QI K S1 H1 Q' Q) (h : dcP gd g tt tk tv vs σ' (fun acc S2 => ∀ p, S2 p = none → Q' (.ref p) (up S2 p (.dk acc))) xs [] S1) :
    ∀ Dd, H1 Dd = none → ∃ W : Nat → Nat → Hp → Prop, (∃ m, W 0 m (upd H1 Dd (.dK []))) ∧ ∀ i m H, W i m H →
      (J.stop i H ∧ Q (.ref Dd) H) ∨ (J.go i H ∧ ∃ Nx : Hp → Prop, (∀ H', Nx H' → ∃ m', m' < m ∧ W (i + 1) m' H') ∧ ∀ x H', J.yld i H x H' → T x (L2.wipe σ vs) H' fun σ2 H2 => L2.wipe σ2 vs = L2.wipe σ vs ∧ dnT K W0 tt σ2 H2 fun b H3 =>
        if b = true then dnE K W0 tk σ2 H3 fun y H4 => dnE K W0 tv σ2 H4 fun z H5 => ∃ kvs k, y = kV k ∧ H5 Dd = some (.dK kvs) ∧ kvs.length < sizeLine ∧ Nx (upd H5 Dd (.dK (L2.putK kvs k z))) else Nx H3) := by
  intro Dd hD
  have fD : Fr S1 H1 S1 (upd H1 Dd (.dK [])) := Fr.new rh hD
  refine ⟨fun i m H => ∃ S acc acc', i + m = xs.length ∧ Fr S1 H1 S H ∧ RH K S H ∧ H Dd = some (.dK acc) ∧ S Dd = none ∧ Dc K H acc' acc ∧ dcP gd g tt tk tv vs σ' (fun acc S2 => ∀ p, S2 p = none → Q' (.ref p) (up S2 p (.dk acc))) (xs.drop i) acc' S,
    ⟨xs.length, S1, [], [], by omega, fD, rh.new hD, upd_same, rh.fresh hD, .nil, by simpa using h⟩, ?_⟩
  rintro i m H ⟨S, acc, acc', em, f, rh2, eD, nD, da, h⟩
  by_cases hi : i < xs.length
  · obtain ⟨x, hx⟩ : ∃ x, xs[i]? = some x := ⟨_, List.getElem?_eq_getElem hi⟩
    have hd : xs.drop i = x :: xs.drop (i + 1) := by
      rw [List.drop_eq_getElem_cons hi]
      rw [List.getElem?_eq_getElem hi] at hx
      rw [Option.some.inj hx]
    rw [hd] at h
    obtain ⟨g2, h⟩ := h
    refine .inr ⟨ok.go i x S H hx f rh2 g2, fun H => ∃ S acc acc', Fr S1 H1 S H ∧ RH K S H ∧ H Dd = some (.dK acc) ∧ S Dd = none ∧ Dc K H acc' acc ∧ dcP gd g tt tk tv vs σ' (fun acc S2 => ∀ p, S2 p = none → Q' (.ref p) (up S2 p (.dk acc))) (xs.drop (i + 1)) acc' S,
      fun H ⟨S, acc, acc', a, b, c, d, e, f⟩ => ⟨m - 1, by omega, S, acc, acc', by omega, a, b, c, d, e, f⟩, fun v H3 hy => ?_⟩
    obtain ⟨f3, rh3, dv⟩ := ok.yld i x S H v H3 hx f rh2 g2 hy
    have f03 := f.trans f3
    obtain ⟨eD3, nD3⟩ := f3 Dd _ eD nD
    refine kp.to σ (wipeD σ' vs) H3 S x v _ _ ((rs.mono (f03.tle rh)).wipe vs) rh3 dv h fun σ2' σ2 ew rs2 h2 => ⟨ew, σ2', S, _, NoX, rs2, rh3, h2, fun b S4 H4 f4 rh4 h4 => ?_, XI.no⟩
    have f04 := f03.trans f4
    obtain ⟨eD4, nD4⟩ := f4 Dd _ eD3 nD3
    have da4 := da.mono ((f3.trans f4).tle rh2)
    cases b with
    | false => exact ⟨S4, acc, acc', f04, rh4, eD4, nD4, da4, h4⟩
    | true =>
      refine ⟨σ2', S4, _, NoX, rs2.mono (f4.tle rh3), rh4, h4, fun y S5 u H5 f5 rh5 dy h5 => ?_, XI.no⟩
      obtain ⟨eD5, nD5⟩ := f5 Dd _ eD4 nD4
      have da5 := da4.mono (f5.tle rh4)
      refine ⟨σ2', S5, _, NoX, rs2.mono ((f4.trans f5).tle rh3), rh5, h5, fun z S6 w H6 f6 rh6 dz h6 => ?_, XI.no⟩
      obtain ⟨eD6, nD6⟩ := f6 Dd _ eD5 nD5
      have da6 := da5.mono (f6.tle rh5)
      obtain ⟨k, ek, hl, h6⟩ := h6
      have dy := DV.mono (f6.tle rh5) _ _ dy
      obtain rfl := DV.ofKey ek dy
      refine ⟨acc, k, rfl, eD6, by rw [← da6.length, sizeLine_eq]; omega, S6, L2.putK acc k w, putQ acc' k z, ?_, ?_, upd_same, nD6, ?_, h6⟩
      · intro b o e n
        obtain ⟨e', n'⟩ := ((f04.trans f5).trans f6) b o e n
        have hb : b ≠ Dd := fun z => by rw [z, hD] at e; cases e
        exact ⟨by rw [upd_ne hb]; exact e', n'⟩
      all_goals
        have t : Tle K H6 (upd H6 Dd (.dK (L2.putK acc k w))) := by
          refine ⟨fun a xs hq => ?_, fun a xs hq => ?_⟩
          · rcases hq with (hq | ⟨o, hq⟩) | hq
            · exact .inl (.inl (by rw [upd_ne (fun z => by rw [z, eD6] at hq; cases hq)]; exact hq))
            · exact .inl (.inr ⟨o, by rw [upd_ne (fun z => by rw [z, eD6] at hq; cases hq)]; exact hq⟩)
            · exact .inr hq
          · rcases hq with ⟨o, hq⟩ | hq
            · exact .inl ⟨o, by rw [upd_ne (fun z => by rw [z, eD6] at hq; cases hq)]; exact hq⟩
            · exact .inr hq
      · intro b o e
        have hb : b ≠ Dd := fun z => by rw [z, nD6] at e; cases e
        exact (rh6 b o e).stay t (fun c q e n => ⟨by rw [upd_ne (fun z => by rw [z, eD6] at e; cases e)]; exact e, n⟩) (upd_ne hb)
      · exact (da6.put k dz).mono t
  · have hn : xs.drop i = [] := List.drop_eq_nil_of_le (by omega)
    rw [hn] at h
    have ei : i = xs.length := by omega
    subst ei
    refine .inl ⟨ok.stop S H f rh2 h.1, ?_⟩
    have r2 : RH K (up S Dd (.dk acc')) H := fun b o e => by
      by_cases hb : b = Dd
      · subst hb; rw [up_same] at e; cases e; exact ⟨acc, eD, da⟩
      · rw [up_ne hb] at e
        exact (rh2 b o e).stay ⟨fun _ _ h => h, fun _ _ h => h⟩ (fun c q e n => ⟨e, by rw [up_ne (fun z => by rw [z, eD] at e; cases e)]; exact n⟩) rfl
    refine q (.ref Dd) _ _ _ (fun b o e n => ?_) r2 (.ref Dd) (h.2 Dd nD)
    obtain ⟨e', n'⟩ := f b o e n
    have hb : b ≠ Dd := fun z => by rw [z, hD] at e; cases e
    exact ⟨e', by rw [up_ne hb]; exact n'⟩
section
variable {X : Cx} {W : WX} {pos : Pos}
theorem ev_dcT {tg kx vx it : Expr} {ifs : List Expr} {scope : Scope} {ri : RI} {G : TG} {g : RG} {tt : RT} {tk tv : RE} {own : List (Str × Nat)} (hc : X.calm = true) (hN : X.N.Nodup) (hi : EI X W tg it ri) (ok : BlkOk X.N X.env.scope scope own) (kp : Keeps G g (own.map (·.2)) X.K)
    (hg : ∀ (s : Shared) (H : Hp) (C : Addr) (cl : List (Str × Addr)) (fp : List Addr), PG (X.blk s H scope (compEnvC scope cl C X.env) fp) tg G)
    (ht : ∀ (s : Shared) (H : Hp) (C : Addr) (cl : List (Str × Addr)) (fp : List Addr), EP1 (X.blk s H scope (compEnvC scope cl C X.env) fp) W0 ifs tt)
    (hk : ∀ (s : Shared) (H : Hp) (C : Addr) (cl : List (Str × Addr)) (fp : List Addr), EV (X.blk s H scope (compEnvC scope cl C X.env) fp) W0 kx tk)
    (he : ∀ (s : Shared) (H : Hp) (C : Addr) (cl : List (Str × Addr)) (fp : List Addr), EV (X.blk s H scope (compEnvC scope cl C X.env) fp) W0 vx tv) (hs : ∀ x, foldedSetIterable it X.env x = pure x := by intro _; rfl) :
    EV X W (.DictComp kx vx [⟨tg, it, ifs, 0⟩] scope pos) (rDc ri g tt tk tv (own.map (·.2))) := by
  obtain ⟨wi, pi, li⟩ := hi.ex
  refine ⟨_, pe_dc (tt := dnT X.K W0 tt) (tk := dnE X.K W0 tk) (tv := dnE X.K W0 tv) hc hN pi ok hg (fun s H C cl fp => (ht s H C cl fp).pe) (fun s H C cl fp => (hk s H C cl fp).pe) (fun s H C cl fp => (he s H C cl fp).pe) hs, fun σ σ' H S Q Q' E' rs rh h q xi => ?_⟩
  exact li σ σ' H S _ _ _ rs rh h (fun J xs gd S1 H1 f1 rh1 ok h1 => dc_run (W := W) kp (rs.mono (f1.tle rh)) rh1 ok (q.go f1) h1) xi
end
/-- nothing changes while the pairs are made -/
theorem dc_pure {α : Type} {gd : Hq → Prop} {g : RG} {tt : RT} {tk tv : RE} {vs : List Nat} {σ : Sg} {Qf : List (Key × D) → Hq → Prop} {S : Hq} (e : α → D) (τ : α → Sg) (k : α → Key) (d : α → D) (hg : gd S) : ∀ (ws : List α) (acc : List (Key × D)),
    (∀ a ∈ ws, ∀ N : Sg → Hq → Prop, N (τ a) S → g (e a) (wipeD σ vs) S N NoX) →
    (∀ a ∈ ws, ∀ Q : Bool → Hq → Prop, Q true S → tt (τ a) S Q NoX) → (∀ a ∈ ws, ∀ Q : Qv, Q (kD (k a)) S → tk (τ a) S Q NoX) → (∀ a ∈ ws, ∀ Q : Qv, Q (d a) S → tv (τ a) S Q NoX) →
    (∀ a ∈ ws, k a ∉ acc.map (·.1)) → (ws.map k).Nodup → acc.length + ws.length ≤ 1000000 →
    Qf (acc ++ ws.map fun a => (k a, d a)) S → dcP gd g tt tk tv vs σ Qf (ws.map e) acc S
  | [], acc, _, _, _, _, _, _, _, q => ⟨hg, by simpa using q⟩
  | a :: r, acc, h0, h1, h2, h3, hn, hd, hz, q => by
    rw [List.map_cons, List.nodup_cons] at hd
    refine ⟨hg, h0 a (by simp) _ (h1 a (by simp) _ ?_)⟩
    rw [if_pos rfl]
    refine h2 a (by simp) _ (h3 a (by simp) _ ⟨k a, keyD_kD _, by simp at hz; omega, ?_⟩)
    rw [putQ_new (hn a (by simp))]
    refine dc_pure e τ k d hg r _ (fun b m => h0 b (by simp [m])) (fun b m => h1 b (by simp [m])) (fun b m => h2 b (by simp [m])) (fun b m => h3 b (by simp [m])) (fun b m => ?_) hd.2 (by simp at hz ⊢; omega) (by simpa using q)
    rw [List.map_append, List.mem_append]
    rintro (h | h)
    · exact hn b (by simp [m]) h
    · simp at h
      exact hd.1 (by rw [← h]; exact List.mem_map_of_mem m)
end Y
namespace Y
open PySem PySem.Spec PyProof.Rows L2
/-! ### sorted of a dict whose keys are texts, however many; len and list of a dict -/
def rSortedK : List V → Hp → VK → Prop := fun vs H Q => ∃ (a : Addr) (kvs : List (Key × V)) (zs : List Str), vs = [V.ref a] ∧ Rd H a (.dK kvs) ∧ kvs.map (·.1) = zs.map Sum.inr ∧
  ∀ (ys : List Str) (p : Addr), ys.Perm zs → sortedS ys = true → H p = none → Q (.ref p) (upd H p (.lst (ys.map V.str)))
theorem strs_of_keys {X : Cx} {acc : List Value} {vs : List (Key × Value)} {zs : List Str} (hz : vs.map (·.1) = zs.map Sum.inr) (hl : acc.length = vs.length)
    (h : ∀ (j : Nat) (v : Value), acc[j]? = some v → ∃ k x, vs[j]? = some (k, x) ∧ (mixKind X.prog X.w).is k v = true) : StrsAre acc zs := by
  have hzl : vs.length = zs.length := by simpa using congrArg List.length hz
  refine strs_at (hl.trans hzl) fun j v e => ?_
  obtain ⟨k, x, e1, e2⟩ := h j v e
  have e3 : (zs.map Sum.inr : List Key)[j]? = some k := by rw [← hz, List.getElem?_map, e1]; rfl
  rw [List.getElem?_map] at e3
  obtain ⟨y, ey, rfl⟩ := Option.map_eq_some_iff.mp e3
  obtain ⟨t, ev⟩ := Value.isStrOf_shape (x := y) (v := v) e2
  exact ⟨y, t, ey, ev⟩
theorem cr_sortedK {X : Cx} (hcm : X.calm = true) : CallR X (.builtin "sorted") rSortedK := by
  intro pins s σ H xs us Q I r q
  obtain ⟨a, kvs, zs, rfl, hd, hks, q⟩ := q
  rw [Vals.ref1 r]
  obtain ⟨hsz, lo, vs, rel, dd⟩ := dk_rd I.hok hd
  obtain ⟨ep, hat⟩ := dd.dictAt
  have hz : vs.map (·.1) = zs.map Sum.inr := by rw [← hks]; exact rel.keys.symm
  have hvl : vs.length = zs.length := by simpa using congrArg List.length hz
  have hvz : vs.length ≤ sizeLine := by rw [← rel.length]; exact hsz
  refine Calls.call_function_entry PyProof.Rows.kind_sorted PyProof.Rows.plain_sorted PyProof.Rows.entry_sorted (PyProof.Rows.args_sorted1 _) ?_
  unfold Builtin.«sorted»
  refine wpAny_bind (wpAny_pure ?_)
  refine wpAny_bind (PySem.W.kdu_collect (A := X.A.in1) (PySem.W.kdl_dict (knd := mixKind X.prog X.w) (kvs := vs) (ep := ep) lo) (I.ok.hd hcm) hat hvz fun g tk acc hk hacc => ?_)
  have hS : StrsAre acc.toList zs := strs_of_keys (X := X) hz (by rw [Array.length_toList, hacc.1]) fun j v e => hacc.2 j v (by rw [← Array.getElem?_toList]; exact e)
  have hal : acc.toList.length ≤ sizeLine := by rw [Array.length_toList, hacc.1]; exact hvz
  have I1 : Inv X pins σ H { s with heap := g, toks := tk } := I.kept hk
  refine wpAny_bind (wpAny_newList ?_ hal)
  have hL : (g.push (seqObj "list" acc.toList.toArray 0)).get? g.objs.size = some (seqObj "list" acc.toList.toArray 0) := Heap.get?_push_size _ rfl
  refine wpAny_bind (wpAny_holding (wpAny_call_entry PyProof.Rows.slot_list_sort ⟨_, hL, rfl⟩ PyProof.Rows.entry_list_sort
    (list_sort_treeKAny strKind_oneLt hL hS.keysOf (fun v₁ v₂ rest e => keyKind_strs (by rw [← e]; exact hS)) hal fun st' hp hs => ⟨_, rfl, ?_⟩) (PyProof.Rows.args_list_sort _)))
  obtain ⟨ys, g1, g2, g3⟩ := sorted_out_str hS hp hs
  obtain ⟨eq, heq⟩ := PyProof.Rows.sortedHeap_at (vs := acc.toList) (out := (arrOf st').map (·.2)) hL
  have hyl : (ys.map V.str).length ≤ sizeLine := by rw [List.length_map, g2.length_eq, ← hvl]; exact hvz
  have ok : ObjOk X.prog X.w (upd H g.objs.size (.lst (ys.map V.str))) _ g.objs.size (.lst (ys.map V.str)) := ⟨hyl, ((arrOf st').map (·.2)).toList, eq, vals_of_strs g1, by rw [Array.toArray_toList]; exact heq⟩
  refine wpAny_pure ⟨_, rfl, .ref g.objs.size, upd H g.objs.size (.lst (ys.map V.str)), I1.laid (t' := tk) (fun b u e => ?_) (Nat.le_refl _) ok, rfl, q ys _ g2 g3 (I1.hok.fresh (Nat.le_refl _))⟩
  have hb : b < g.objs.size := Heap.lt_size e
  rw [PyProof.Rows.sortedHeap_old (Nat.ne_of_lt hb) (by rw [size_push']; exact Nat.lt_succ_of_lt hb)]
  exact Heap.get?_push_of_some _ e
def srtKM (m : Nw2) (ds : List D) (S : Hq) (Q : Qv) : Prop := match ds with
  | [.ref a] => ∃ (kvs : List (Key × D)) (zs : List Str), GtK S a kvs ∧ kvs.map (·.1) = zs.map Sum.inr ∧ ∀ ys : List Str, ys.Perm zs → sortedS ys = true → m (ys.map D.str) S Q
  | _ => False
section
variable {X : Cx} {K : PySem.W.Frag} {S : Hq} {H : Hp}
theorem lc_srtKT : LiftC K (srtKM nwT) rSortedK := by
  intro ds S H Q' Q vs rh dv h q
  rcases ds with _ | ⟨x, _ | ⟨y, r⟩⟩
  · exact h.elim
  · cases dv with | @cons _ v _ _ dx t =>
    cases t
    cases x <;> try exact h.elim
    cases dx
    obtain ⟨kvs, zs, g, e, h⟩ := h
    obtain ⟨ys, rd, r⟩ := rh.gtK g
    exact ⟨_, ys, zs, rfl, rd, by rw [← r.keys]; exact e, fun ws p hp hs hn => q.newL rh hn DVs.ofTxts (h ws hp hs p (rh.fresh hn))⟩
  · cases x <;> exact h.elim
theorem cr_srtKF (hcm : X.calm = true) : CallR X (.builtin "sorted") (fun xs H Q => rSortedK xs H (fzV Q)) := callr_fz (cr_sortedK hcm)
theorem lc_srtKF : LiftC K (srtKM nwF) (fun xs H Q => rSortedK xs H (fzV Q)) := liftc_fz lc_srtKT fun ds S Q h => by
  rcases ds with _ | ⟨x, _ | ⟨y, r⟩⟩
  · exact h.elim
  · cases x <;> try exact h.elim
    obtain ⟨kvs, zs, g, e, h⟩ := h
    exact ⟨kvs, zs, g, e, fun ys hp hs => nw_fz (h ys hp hs)⟩
  · cases x <;> exact h.elim
theorem k_srt {m : Nw2} {a : Addr} {Q : Qv} : srtKM m [.ref a] S Q = (∃ (kvs : List (Key × D)) (zs : List Str), GtK S a kvs ∧ kvs.map (·.1) = zs.map Sum.inr ∧ ∀ ys : List Str, ys.Perm zs → sortedS ys = true → m (ys.map D.str) S Q) := rfl
theorem units1 {k : Nat} {A : Around} (hr : Room k A) : A.units + 1 < cLine := by have := hr.un; omega
theorem k_keys {a : Addr} {R : List D → (Hq → Prop) → Hq → Prop} : keysD (.ref a) S R = (∃ o ys kvs, S a = some (.fk o ys kvs) ∧ R (kvs.map fun p => kD p.1) (fun S => S a = some (.fk o ys kvs)) S) := rfl
theorem k_vals {a : Addr} {R : List D → (Hq → Prop) → Hq → Prop} : valsD (.ref a) S R = (∃ o ys kvs, S a = some (.fk o ys kvs) ∧ R (kvs.map fun p => p.2) (fun S => S a = some (.fk o ys kvs)) S) := rfl
theorem k_items {a : Addr} {R : List D → (Hq → Prop) → Hq → Prop} : itemD (.ref a) S R = (∃ o ys kvs, S a = some (.fk o ys kvs) ∧ R (kvs.map fun p => .tup [kD p.1, p.2]) (fun S => S a = some (.fk o ys kvs)) S) := rfl
/-- len of a dict -/
def lenKD (ds : List D) (S : Hq) (Q : Qv) : Prop := match ds with
  | [.ref a] => ∃ kvs, S a = some (.dk kvs) ∧ Q (.int kvs.length) S
  | _ => False
theorem lc_lenK : LiftC K lenKD (fun xs H Q => ∃ a kvs, xs = [V.ref a] ∧ H a = some (.dK kvs) ∧ Q (.int kvs.length) H) := by
  intro ds S H Q' Q vs rh dv h q
  rcases ds with _ | ⟨x, _ | ⟨y, r⟩⟩
  · exact h.elim
  · cases dv with | @cons _ v _ _ dx t =>
    cases t
    cases x <;> try exact h.elim
    cases dx
    obtain ⟨kvs, g, h⟩ := h
    obtain ⟨ys, rd, r⟩ := rh _ _ g
    exact ⟨_, ys, rfl, rd, by rw [← r.length]; exact q.here rh (.int _) h⟩
  · cases x <;> exact h.elim
theorem k_len {a : Addr} {Q : Qv} : lenKD [.ref a] S Q = (∃ kvs, S a = some (.dk kvs) ∧ Q (.int kvs.length) S) := rfl
end
end Y
namespace Y
open PySem PySem.Spec PyProof.Rows L2
/-! ### comprehensions that draw -/
/-- each element with something drawn for it -/
theorem lc_pairs {α β : Type} {gd : Hq → Prop} {te : RE} {i : Nat} {σ : Sg} {Qf : List D → Hq → Prop} (e : α → D) (f : α × β → D) (I : Hq → Prop) (hg : ∀ S, I S → gd S) : ∀ (ws : List α) (acc : List D) (S : Hq),
    (∀ w ∈ ws, ∀ (S : Hq) (Q : Qv), I S → (∀ o S', I S' → Q (f (w, o)) S') → te ((wipeD σ [i]).set i (some (e w))) S Q NoX) → acc.length + ws.length ≤ 1000000 → I S →
    (∀ (rs : List (α × β)) S', rs.map (·.1) = ws → I S' → Qf (acc ++ rs.map f) S') → lcP gd (gNm i) rYes te [i] σ Qf (ws.map e) acc S
  | [], acc, S, _, _, hi, k => ⟨hg S hi, by simpa using k [] S rfl hi⟩
  | w :: r, acc, S, h, hz, hi, k => by
    refine ⟨hg S hi, ?_⟩
    show te ((wipeD σ [i]).set i (some (e w))) S (fun y S4 => acc.length < 1000000 ∧ lcP gd (gNm i) rYes te [i] σ Qf (r.map e) (acc ++ [y]) S4) NoX
    refine h w (by simp) S _ hi fun o S4 i4 => ⟨by simp at hz; omega, ?_⟩
    refine lc_pairs e f I hg r (acc ++ [f (w, o)]) S4 (fun x hx => h x (by simp [hx])) (by simp at hz ⊢; omega) i4 fun rs S' hr hi' => ?_
    have := k ((w, o) :: rs) S' (by rw [List.map_cons, hr]) hi'
    rw [List.append_assoc]
    exact this
/-- some of the elements, as it is drawn -/
theorem lc_some {α : Type} {gd : Hq → Prop} {tt : RT} {te : RE} {i : Nat} {σ : Sg} {Qf : List D → Hq → Prop} (e : α → D) (I : Hq → Prop) (hg : ∀ S, I S → gd S) : ∀ (ws : List α) (as : List α) (S : Hq),
    (∀ w ∈ ws, ∀ (S : Hq) (Q : Bool → Hq → Prop), I S → (∀ b S', I S' → Q b S') → tt ((wipeD σ [i]).set i (some (e w))) S Q NoX) →
    (∀ w ∈ ws, ∀ (S : Hq) (Q : Qv), I S → Q (e w) S → te ((wipeD σ [i]).set i (some (e w))) S Q NoX) → as.length + ws.length ≤ 1000000 → I S →
    (∀ (ys : List α) S', ys.Sublist ws → I S' → Qf ((as ++ ys).map e) S') → lcP gd (gNm i) tt te [i] σ Qf (ws.map e) (as.map e) S
  | [], as, S, _, _, _, hi, k => ⟨hg S hi, by simpa using k [] S (.refl _) hi⟩
  | w :: r, as, S, h, h2, hz, hi, k => by
    refine ⟨hg S hi, ?_⟩
    refine h w (by simp) S _ hi fun b S3 i3 => ?_
    cases b with
    | false =>
      rw [if_neg (by simp)]
      exact lc_some e I hg r as S3 (fun x hx => h x (by simp [hx])) (fun x hx => h2 x (by simp [hx])) (by simp at hz; omega) i3 fun ys S' hy hi' => k ys S' (hy.cons w) hi'
    | true =>
      rw [if_pos rfl]
      refine h2 w (by simp) S3 _ i3 ⟨by simp at hz ⊢; omega, ?_⟩
      rw [show as.map e ++ [e w] = (as ++ [w]).map e by simp]
      refine lc_some e I hg r (as ++ [w]) S3 (fun x hx => h x (by simp [hx])) (fun x hx => h2 x (by simp [hx])) (by simp at hz ⊢; omega) i3 fun ys S' hy hi' => ?_
      rw [List.append_assoc]
      exact k (w :: ys) S' (hy.cons_cons w) hi'
end Y
namespace Y
open PySem PySem.Spec PyProof.Rows L2
/-! ### makings with named arguments alone -/
theorem KBn'.kbn {K : PySem.W.Frag} {fd : FuncData} {ps ks : List Str} {n m : Nat} {π : List Nat} (h : KBn' K fd ps ks n m π) (hm : ks.length = m) (hp : ∀ us ws : List Value, us.length = n → ws.length = m → (gk n m π us ws).length = ps.length) : KBn K fd ps n ks (gk n m π) (gk n m π) :=
  ⟨fun s us ws hk h1 h2 => h.to s us ws hk (hp us ws h1 (by rw [h2, hm])), h.rel⟩
def rMakeK (nm : String) (sp : Sq) (m : Nat) (π : List Nat) (rk : RA) : RE := fun σ S Q E => rk σ S (fun es S1 => es.length = m ∧ ∀ a, S1 a = none → sp (gk 1 m π [.ref a] es) (up S1 a (.ins nm [])) (fun v S2 => v = .non ∧ Q (.ref a) S2) NoX) E
section
variable {X : Cx} {W : WX} {pos : Pos} {nm : String} {C f : Addr} {k : Nat} {fd : FuncData} {ps : List Str} {sp : Sq}
theorem ev_makeK0 {kws : List Keyword} {ks : List Str} {m : Nat} {π : List Nat} {rk : RA} (kc : Kc X.K nm C) (M : Mk X.K C f) (G : FnOk X.prog X.w X.K X.mg X.base CX0 k f fd ps (dn X.K sp)) (hr : Room (k + 1) X.A) (hm : X.mg (Str.ofString nm) = some (.ref C)) (hb : KBn' X.K fd ps ks 1 m π) (hkm : ks.length = m)
    (hp : ∀ us ws : List Value, us.length = 1 → ws.length = m → (gk 1 m π us ws).length = ps.length) {p : Pos} (hkw : EK X W kws rk) (hg : Gl X (Str.ofString nm) := by rfl)
    (hall : (backToKw pos (keywordEach kws X.env)).all (·.1.isSome) = true := by rfl) (hks : (backToKw pos (keywordEach kws X.env)).filterMap (·.1) = ks := by rfl) (hdb : ((Str.ofString nm) == ("__debug__" : Str)) = false := by decide)
    (hpl : ((backTo pos (starEach [] X.env)).any (·.1) || (backToKw pos (keywordEach kws X.env)).any (·.1.isNone)) = false := by rfl) : EV X W (.Call (.Name (Str.ofString nm) p) [] kws pos) (rMakeK nm sp m π rk) := by
  obtain ⟨Tk, pk, lk⟩ := hkw.ex
  refine ⟨_, pe_makeK0 (E := fun _ _ _ => False) M G hr hg hm (hb.kbn hkm hp) pass0 pk hall hks hdb hpl, fun σ σ' H S Q Q' E' rs rh h q xi => ?_⟩
  refine lk σ σ' H S _ _ E' rs rh h (fun es S1 zs H1 f0 rh1 dz h1 => ?_) xi
  obtain ⟨hl, h1⟩ := h1
  refine ⟨rfl, by rw [← dz.length, hl, hkm], fun x dx hx hdx ne => ?_⟩
  obtain ⟨f1, r1⟩ := rh_make rh1 kc.cn hx hdx ne
  refine ⟨_, _, _, NoX, DVs.gk (.cons (.ref x) .nil) (DVs.mono (f1.tle rh1) _ _ dz), r1, h1 x (rh1.fresh hx), fun d S' v H' f2 rh2 dv h2 => ?_, XI.no⟩
  obtain ⟨rfl, h2⟩ := h2
  cases dv
  exact ⟨rfl, q _ _ _ _ ((f0.trans f1).trans f2) rh2 (.ref x) h2⟩
end
end Y
namespace SrtO
open PySem PySem.Spec PyProof.Rows PyProof
/-! ### sorted of rows whose first is a text, no two of them the same -/
def IsTx (h : Heap) (v : Value) (x : PySem.Str) : Prop := ∃ a o t rest n, v = .ref a ∧ h.get? a = some o ∧ o.cls = .type "tuple" ∧ o.data = .seq (Value.str x t :: rest).toArray n
theorem IsTx.keeps {h h' : Heap} {v : Value} {x : PySem.Str} (p : IsTx h v x) (k : ∀ b o, h.get? b = some o → o.cls = .type "tuple" → h'.get? b = some o) : IsTx h' v x := by
  obtain ⟨a, o, t, u, n, e, ho, hc, hd⟩ := p
  exact ⟨a, o, t, u, n, e, k _ _ ho hc, hc, hd⟩
theorem IsTx.uniq {h : Heap} {v : Value} {x y : PySem.Str} (p : IsTx h v x) (q : IsTx h v y) : x = y := by
  obtain ⟨a, o, t, u, n, rfl, ho, hc, hd⟩ := p
  obtain ⟨a', o', t', u', n', e, ho', hc', hd'⟩ := q
  cases e
  rw [ho] at ho'; cases ho'
  rw [hd] at hd'
  injection hd' with h1 h2
  have h3 := congrArg Array.toList h1
  simp at h3
  exact h3.1.1
def txLt (k : Value → PySem.Str) (v u : Value) : Bool := decide ((k v).cps.toList < (k u).cps.toList)
theorem swo_tx (k : Value → PySem.Str) : Swo (txLt k) := by
  refine ⟨fun x y h => ?_, fun x y z h1 h2 => ?_⟩
  · have a := of_decide_eq_true h
    exact decide_eq_false (fun b => List.lt_irrefl _ (List.lt_trans a b))
  · have a := of_decide_eq_false h1
    have b := of_decide_eq_false h2
    refine decide_eq_false ?_
    rw [List.not_lt] at a b ⊢
    exact List.le_trans a b
section
variable {prog : Program} {w : World} {A : Around} {s : Shared} {E : Value → Shared → Prop}
theorem kat_same {b fin : Bool} {Q : Bool → Shared → Prop} : ∀ (l : List Value) (i : Nat), Q fin s → PySem.W.KatLex prog w A b fin Q (l.zip l) i s
  | [], _, h => h
  | v :: l, i, h => PySem.W.kat_cons (SeqAt.EqAt.same v prog w _ _ (PySem.W.kat_yes (kat_same l (i + 1) h)))
theorem tx_cmp {vs : List Value} {k : Value → PySem.Str} (hp : ∀ v ∈ vs, IsTx s.heap v (k v)) (hi : ∀ v ∈ vs, ∀ u ∈ vs, k v = k u → v = u) : Cmp prog w A s (tuples' true) (fun p => p.1 ∈ vs) (lt2 (txLt k)) := by
  intro p q hm hm'
  show wpAny (model prog w) A (keyLt' (tuples' true) p.1 q.1) (fun r s' => s' = s ∧ r = txLt k p.1 q.1) (fun _ _ => False) s
  by_cases e : k p.1 = k q.1
  · have e2 := hi _ hm _ hm' e
    rw [← e2]
    obtain ⟨a, o, t, rest, n, ev, ho, hc, hd⟩ := hp _ hm
    have hz : txLt k p.1 p.1 = false := (swo_tx k).refl _
    rw [hz]
    rw [ev]
    refine PySem.W.kat_lt ho hd ho hd ?_
    exact kat_same _ 0 ⟨rfl, by simp⟩
  · have h1 := hp _ hm
    have h2 := hp _ hm'
    unfold txLt
    generalize k p.1 = x at h1 e ⊢
    generalize k q.1 = y at h2 e ⊢
    obtain ⟨a, o, t, rest, n, ev, ho, hc, hd⟩ := h1
    obtain ⟨a', o', t', rest', n', ev', ho', hc', hd'⟩ := h2
    rw [ev, ev']
    refine PySem.W.kat_lt ho hd ho' hd' ?_
    show PySem.W.KatLex prog w A true _ _ ((.str x t, .str y t') :: rest.zip rest') 0 s
    refine PySem.W.kat_cons (SeqAt.EqAt.str_str x t y t' prog w _ _ ?_)
    refine PySem.W.kat_go (fun e1 => ?_) (fun e1 => ?_)
    · exact absurd (by simpa using e1) e
    · exact PySem.W.kat_no (oneLt_str ⟨rfl, rfl⟩)
theorem tx_firsts {h : Heap} : ∀ {vs : List Value}, (∀ v ∈ vs, ∃ x, IsTx h v x) → ∃ fs : List Value, PySem.W.KatTups h vs fs ∧ fs.length = vs.length ∧ ∀ f ∈ fs, ∃ x t, f = Value.str x t
  | [], _ => ⟨[], PySem.W.KatTups.nil, rfl, fun _ hm => by simp at hm⟩
  | v :: vs, hp => by
    obtain ⟨fs, h1, h2, h3⟩ := tx_firsts (vs := vs) fun v' hm => hp v' (List.mem_cons_of_mem _ hm)
    obtain ⟨x, a, o, t, u, n, e, ho, hc, hd⟩ := hp v (List.mem_cons_self ..)
    subst e
    refine ⟨.str x t :: fs, PySem.W.KatTups.cons ho hc hd (by simp) h1, by rw [List.length_cons, List.length_cons, h2], fun f hm => ?_⟩
    rcases List.mem_cons.mp hm with rfl | hm
    · exact ⟨x, t, rfl⟩
    · exact h3 f hm
theorem tx_sortableO {a : Addr} {vs : List Value} {k : Value → PySem.Str} (h0 : 0 < vs.length) (hp : ∀ v ∈ vs, IsTx s.heap v (k v)) (hi : ∀ v ∈ vs, ∀ u ∈ vs, k v = k u → v = u) (ha : ∀ o, s.heap.get? a = some o → o.cls ≠ .type "tuple") : SortableO prog w A s a vs (txLt k) := by
  intro h' keep
  have hp' : ∀ v ∈ vs, IsTx h' v (k v) := fun v hm => (hp v hm).keeps fun b o e c => keep b o (fun z => by subst z; exact ha o e c) e
  obtain ⟨fs, h1, h2, h3⟩ := tx_firsts fun v hm => ⟨_, hp' v hm⟩
  refine ⟨tuples' true, fun Q E hq => ?_, tx_cmp hp' hi⟩
  refine PySem.W.kat_kind (T := .type "str") h1 (by omega) (fun f hm => ?_) (by rfl) ?_
  · obtain ⟨x, t, rfl⟩ := h3 f hm
    exact PySem.W.Looks.now
  · have e : (Value.type "str" != Value.type "tuple") = true := by first | decide +kernel | rfl | decide
    rw [e]
    exact hq
theorem sorted_txO {l : Addr} {vs : List Value} {k : Value → PySem.Str} {Q : Value → Shared → Prop} (hl : s.heap.IsList l vs.toArray) (hz : vs.length ≤ sizeLine) (hp : ∀ v ∈ vs, IsTx s.heap v (k v)) (hi : ∀ v ∈ vs, ∀ u ∈ vs, k v = k u → v = u)
    (h : ∀ (h' : Heap) (d : Addr) (out : List Value), Srtd (txLt k) out → out.Perm vs → (∀ b o, s.heap.get? b = some o → h'.get? b = some o) → s.heap.objs.size ≤ d → (∃ n, h'.get? d = some (seqObj "list" out.toArray n)) → Q (.ref d) { s with heap := h' }) :
    wpAny (model prog w) A (call (.builtin "sorted") [.ref l]) Q E s := by
  refine sorted_ord (swo_tx k) hl hz (fun h2 h₁ a ha kk => ?_) fun out hs hb => ?_
  · refine tx_sortableO (s := { s with heap := h₁ }) (by omega) (fun v hm => (hp v hm).keeps fun b o e _ => (kk b o e).2) hi fun o e => ?_
    have e' : some o = some (seqObj "list" vs.toArray 0) := e.symm.trans ha
    cases e'
    intro c
    exact absurd (Value.type.inj c) (by decide)
  · exact h _ _ out hs hb.perm (fun b o e => sortedAll_old e) (Nat.le_succ _) (sortedAll_at s.heap vs out.toArray)
end
end SrtO
namespace Y
open PySem PySem.Spec PyProof.Rows L2
theorem permI {α β : Type} {f : α → β} : ∀ {ys zs : List β}, ys.Perm zs → ∀ l : List α, zs = l.map f → ∃ l' : List α, l'.Perm l ∧ l'.map f = ys
  | _, _, .nil, l, e => ⟨l, .refl _, e.symm⟩
  | _, _, .cons x h, [], e => by cases e
  | _, _, .cons x h, a :: l, e => by
    rw [List.map_cons] at e
    injection e with e1 e2
    obtain ⟨l', p, q⟩ := permI h l e2
    exact ⟨a :: l', p.cons a, by rw [List.map_cons, q, e1]⟩
  | _, _, .swap x y l0, [], e => by cases e
  | _, _, .swap x y l0, [a], e => by rw [List.map_cons] at e; injection e with e1 e2; cases e2
  | _, _, .swap x y l0, a :: b :: l, e => by
    rw [List.map_cons, List.map_cons] at e
    injection e with e1 e2
    injection e2 with e2 e3
    exact ⟨b :: a :: l, .swap a b l, by rw [List.map_cons, List.map_cons, e1, e2, e3]⟩
  | _, _, .trans h1 h2, l, e => by
    obtain ⟨l2, p2, q2⟩ := permI h2 l e
    obtain ⟨l1, p1, q1⟩ := permI h1 l2 q2.symm
    exact ⟨l1, p1.trans p2, q1⟩
theorem sortedS_of : ∀ {l : List Str}, l.Pairwise (fun a b => ¬ b.cps.toList < a.cps.toList) → sortedS l = true
  | [], _ => rfl
  | x :: r, .cons h t => by
    have ih := sortedS_of t
    cases r with
    | nil => rfl
    | cons z r =>
      show risingS x (z :: r) = true
      unfold risingS
      rw [Bool.and_eq_true]
      refine ⟨?_, ih⟩
      have := h z (by simp)
      rw [Bool.not_eq_true', Bool.eq_false_iff]
      exact fun c => this (ltc_iff.mp c)
def rSortedTx (K : PySem.W.Frag) : List V → Hp → VK → Prop := fun vs H Q => ∃ (a : Addr) (rs : List (V × Str)), vs = [V.ref a] ∧ SqL K H a (rs.map (·.1)) ∧ (∀ r ∈ rs, ∃ t rest, r.1 = V.ref t ∧ SqT K H t (V.str r.2 :: rest)) ∧ (rs.map (·.2)).Nodup ∧
  ∀ (rs' : List (V × Str)) (p : Addr), rs'.Perm rs → sortedS (rs'.map (·.2)) = true → H p = none → Q (.ref p) (upd H p (.lst (rs'.map (·.1))))
def txK (rs : List (V × Str)) (u : Value) : Str := ((rs.find? fun r => decide (r.1 = backV u)).map (·.2)).getD (tx [])
theorem nodup_inj {α β : Type} {f : α → β} : ∀ {l : List α}, (l.map f).Nodup → ∀ {x y : α}, x ∈ l → y ∈ l → f x = f y → x = y
  | a :: l, h, x, y, hx, hy, e => by
    rw [List.map_cons, List.nodup_cons] at h
    rcases List.mem_cons.mp hx with h1 | h1
    · rcases List.mem_cons.mp hy with h2 | h2
      · rw [h1, h2]
      · exact absurd (by rw [← h1, e]; exact List.mem_map_of_mem h2) h.1
    · rcases List.mem_cons.mp hy with h2 | h2
      · exact absurd (by rw [← h2, ← e]; exact List.mem_map_of_mem h1) h.1
      · exact nodup_inj h.2 h1 h2 e
theorem cr_sortedTx {X : Cx} : CallR X (.builtin "sorted") (rSortedTx X.K) := by
  intro pins s σ H vs us Q I r h
  obtain ⟨a, rs, rfl, hs, hx, hn, q⟩ := h
  obtain ⟨its, rv, hl, hz⟩ := I.list hs
  obtain ⟨u, rfl, ru⟩ := vals1 r
  obtain rfl : u = Value.ref a := ru
  obtain ⟨e1, e2⟩ := refs_back rv fun x m => by
    obtain ⟨r, hr, rfl⟩ := List.mem_map.mp m
    obtain ⟨t, _, e, _⟩ := hx r hr
    exact ⟨t, e⟩
  have htx : ∀ r ∈ rs, ∀ u ∈ its, r.1 = backV u → SrtO.IsTx s.heap u r.2 := fun r hr u hu e => by
    obtain ⟨t, rest, et, ht⟩ := hx r hr
    obtain ⟨b, rfl⟩ := e2 u hu
    rw [et] at e
    cases e
    obtain ⟨its2, r2, ⟨o, ho, hc, n, hd⟩, _⟩ := I.tuple ht
    cases its2 with
    | nil => cases r2
    | cons v vr =>
      cases r2 with
      | cons h1 h2 =>
        obtain ⟨t1, rfl⟩ := h1
        exact ⟨t, o, t1, vr, n, rfl, ho, hc, hd⟩
  have hfind : ∀ u ∈ its, ∃ r ∈ rs, r.1 = backV u ∧ txK rs u = r.2 := fun u hu => by
    have hm : backV u ∈ rs.map (·.1) := by rw [e1]; exact List.mem_map_of_mem hu
    obtain ⟨r, hr, e⟩ := List.mem_map.mp hm
    cases hf : rs.find? fun r => decide (r.1 = backV u) with
    | none => exact absurd e (by simpa using List.find?_eq_none.mp hf r hr)
    | some r0 =>
      refine ⟨r0, List.mem_of_find?_eq_some hf, by simpa using List.find?_some hf, ?_⟩
      unfold txK
      rw [hf]; rfl
  refine SrtO.sorted_txO (k := txK rs) hl.isList (by rw [← rv.length]; exact hz) (fun v hv => ?_) (fun v hv u hu e => ?_) fun h' d out h1 h2 kp hd hn => ?_
  · obtain ⟨r, hr, e, ek⟩ := hfind v hv
    rw [ek]
    exact htx r hr v hv e
  · obtain ⟨r, hr, e3, ek⟩ := hfind v hv
    obtain ⟨r', hr', e3', ek'⟩ := hfind u hu
    rw [ek, ek'] at e
    have := nodup_inj hn hr hr' e
    rw [this, e3'] at e3
    obtain ⟨b, rfl⟩ := e2 v hv
    obtain ⟨b', rfl⟩ := e2 u hu
    cases e3; rfl
  · have h3 : ∀ u ∈ out, ∃ a, u = Value.ref a := fun u hu => e2 u (h2.mem_iff.mp hu)
    obtain ⟨n, hn⟩ := hn
    obtain ⟨rs', hp, he⟩ := permI (f := fun r : V × Str => r.1) (ys := out.map backV) (zs := its.map backV) (h2.map _) rs e1.symm
    have hl2 : (rs'.map (·.1)).length ≤ sizeLine := by rw [List.length_map, hp.length_eq]; rw [List.length_map] at hz; exact hz
    refine ⟨.ref d, upd H d (.lst (rs'.map (·.1))), I.laid (t' := s.toks) kp hd ⟨hl2, out, n, by rw [he]; exact vals_back h3, hn⟩, rfl, q rs' d hp ?_ (I.hok.fresh hd)⟩
    have key : ∀ (os : List Value) (qs : List (V × Str)), (∀ u ∈ os, u ∈ its) → (∀ r ∈ qs, r ∈ rs) → qs.map (·.1) = os.map backV → qs.map (·.2) = os.map (txK rs) := by
      intro os
      induction os with
      | nil => intro qs _ _ e; cases qs <;> simp at e ⊢
      | cons u os ih =>
        intro qs ho hq e
        cases qs with
        | nil => simp at e
        | cons r qs =>
          rw [List.map_cons, List.map_cons] at e
          injection e with ea eb
          rw [List.map_cons, List.map_cons, ih qs (fun v hv => ho v (List.mem_cons_of_mem _ hv)) (fun v hv => hq v (List.mem_cons_of_mem _ hv)) eb]
          congr 1
          obtain ⟨r0, hr0, e3, ek⟩ := hfind u (ho u List.mem_cons_self)
          rw [ek]
          exact (htx r (hq r List.mem_cons_self) u (ho u List.mem_cons_self) ea).uniq (htx r0 hr0 u (ho u List.mem_cons_self) e3)
    rw [key out rs' (fun u hu => h2.mem_iff.mp hu) (fun r hr => hp.mem_iff.mp hr) he]
    refine sortedS_of (List.pairwise_map.mpr (List.Pairwise.imp (fun h => ?_) h1))
    exact of_decide_eq_false h
/-- rows: a text, then others -/
def rwsD (rs : List (Str × List D)) : List D := rs.map fun r => .tup (.str r.1 :: r.2)
def srtTM (m : Nw2) (ds : List D) (S : Hq) (Q : Qv) : Prop := match ds with
  | [x] => lsv x S fun xs => ∃ rs : List (Str × List D), xs = rwsD rs ∧ (rs.map (·.1)).Nodup ∧ ∀ rs' : List (Str × List D), rs'.Perm rs → sortedS (rs'.map (·.1)) = true → m (rwsD rs') S Q
  | _ => False
theorem rws_vs {K : PySem.W.Frag} {H : Hp} : ∀ {rs : List (Str × List D)} {vs : List V}, DVs K H (rwsD rs) vs → ∃ qs : List ((V × Str) × (Str × List D)), vs = qs.map (fun q => q.1.1) ∧ rs = qs.map (·.2) ∧ ∀ q ∈ qs, q.1.2 = q.2.1 ∧ DV K H (.tup (.str q.2.1 :: q.2.2)) q.1.1 ∧ ∃ t rest, q.1.1 = V.ref t ∧ SqT K H t (V.str q.1.2 :: rest)
  | [], _, .nil => ⟨[], rfl, rfl, fun _ h => by simp at h⟩
  | r :: rs, _, .cons (v := v) x t => by
    obtain ⟨qs, e1, e2, h⟩ := rws_vs t
    refine ⟨((v, r.1), r) :: qs, by rw [e1]; rfl, by rw [e2]; rfl, fun q hq => ?_⟩
    rcases List.mem_cons.mp hq with rfl | hq
    · refine ⟨rfl, x, ?_⟩
      cases x with
      | tup s d =>
        cases d with
        | cons d1 d2 =>
          cases d1
          exact ⟨_, _, rfl, s⟩
    · exact h q hq
theorem rws_dv {K : PySem.W.Frag} {H : Hp} : ∀ {qs : List ((V × Str) × (Str × List D))}, (∀ q ∈ qs, DV K H (.tup (.str q.2.1 :: q.2.2)) q.1.1) → DVs K H (rwsD (qs.map (·.2))) (qs.map fun q => q.1.1)
  | [], _ => .nil
  | q :: qs, h => .cons (h q List.mem_cons_self) (rws_dv fun x hx => h x (List.mem_cons_of_mem _ hx))
theorem lc_srtTT {K : PySem.W.Frag} : LiftC K (srtTM nwT) (rSortedTx K) := by
  intro ds S H Q' Q vs rh dv h q
  rcases ds with _ | ⟨x, _ | ⟨y, r⟩⟩
  · exact h.elim
  · cases dv with | @cons _ v _ _ dx t =>
    cases t
    obtain ⟨a, xs, vs, rfl, s, r, h, _⟩ := rh.lsv dx h
    obtain ⟨rs, rfl, hn, h⟩ := h
    obtain ⟨qs, rfl, rfl, hq⟩ := rws_vs r
    have e12 : (qs.map (·.1)).map (·.2) = (qs.map (·.2)).map (·.1) := by
      rw [List.map_map, List.map_map]
      exact List.map_congr_left fun q hm => (hq q hm).1
    refine ⟨a, qs.map (·.1), rfl, by rw [List.map_map]; exact s, fun r hr => ?_, by rw [e12]; exact hn, fun rs' p hp hs hne => ?_⟩
    · obtain ⟨q, hm, rfl⟩ := List.mem_map.mp hr
      exact (hq q hm).2.2
    · obtain ⟨qs', hp', rfl⟩ := permI hp qs rfl
      have hq' : ∀ q ∈ qs', q.1.2 = q.2.1 ∧ DV K H (.tup (.str q.2.1 :: q.2.2)) q.1.1 := fun q hm => ⟨(hq q (hp'.mem_iff.mp hm)).1, (hq q (hp'.mem_iff.mp hm)).2.1⟩
      have e12' : (qs'.map (·.1)).map (·.2) = (qs'.map (·.2)).map (·.1) := by
        rw [List.map_map, List.map_map]
        exact List.map_congr_left fun q hm => (hq' q hm).1
      have := q.newL rh hne (rws_dv fun q hm => (hq' q hm).2) (h (qs'.map (·.2)) (hp'.map _) (by rw [← e12']; exact hs) p (rh.fresh hne))
      rw [List.map_map]
      exact this
  · exact h.elim
theorem cr_srtTT {X : Cx} : CallR X (.builtin "sorted") (rSortedTx X.K) := cr_sortedTx
theorem cr_srtTF {X : Cx} : CallR X (.builtin "sorted") (fun xs H Q => rSortedTx X.K xs H (fzV Q)) := callr_fz cr_sortedTx
theorem lc_srtTF {K : PySem.W.Frag} : LiftC K (srtTM nwF) (fun xs H Q => rSortedTx K xs H (fzV Q)) := liftc_fz lc_srtTT fun ds S Q h => by
  rcases ds with _ | ⟨x, _ | ⟨y, r⟩⟩
  · exact h.elim
  · refine lsv_mono h fun xs h => ?_
    obtain ⟨rs, e, n, h⟩ := h
    exact ⟨rs, e, n, fun a b c => nw_fz (h a b c)⟩
  · exact h.elim
theorem q_srtTx {m : Nw2} {x : D} {S : Hq} {Q : Qv} : srtTM m [x] S Q = lsv x S fun xs => ∃ rs : List (Str × List D), xs = rwsD rs ∧ (rs.map (·.1)).Nodup ∧ ∀ rs' : List (Str × List D), rs'.Perm rs → sortedS (rs'.map (·.1)) = true → m (rwsD rs') S Q := rfl
/-! ### methods called with named arguments -/
def rMetK (nm : String) (m : Str) (sp : Sq) (n mm : Nat) (π : List Nat) (ro : RE) (ra rk : RA) : RE := fun σ S Q E => ro σ S (fun x S1 => metD nm m x S1 (ra σ S1 (fun ds S2 => rk σ S2 (fun es S3 => sp (gk n mm π (x :: ds) es) S3 Q NoX) E) E)) E
section
variable {X : Cx} {W : WX} {pos apos : Pos} {nm : String} {C f : Addr} {k : Nat} {fd : FuncData} {ps ks : List Str} {sp : Sq} {o : Expr} {m : Str} {kws : List Keyword} {n mm : Nat} {π : List Nat} {ro : RE} {rk : RA}
def tMethK0 (C : Addr) (m : Str) (sp : Sp) (gV : List V → List V → List V) (E : XK) (ta : TE) (tk : TA) : TE := fun σ H Q => ta σ H fun x H1 => ∃ a dx fs, x = .ref a ∧ H1 a = some (.ins C dx fs) ∧ fs.lookup m = none ∧
  tk σ H1 fun zs H2 => sp (gV [x] zs) H2 Q E
theorem pe_methK0 {CX : CXT} {spv : Sp} {E : XK} {ta : TE} {tk : TA} {g : List Value → List Value → List Value} {gV : List V → List V → List V} {pl : Sem Bool} (he : PE X o ta) (c : Cls X.K C) (hm : Meth X.K C m f) (F : FnOk X.prog X.w X.K X.mg X.base CX k f fd ps spv) (hr : Room k X.A) (hb : KBinds X.K fd ps ks g gV) (hx : Passes CX X E) (hkw : PK X kws tk)
    (hall : (backToKw pos (keywordEach kws X.env)).all (·.1.isSome) = true := by rfl) (hks : (backToKw pos (keywordEach kws X.env)).filterMap (·.1) = ks := by rfl)
    (hpl : ((backTo pos (starEach [] X.env)).any (·.1) || (backToKw pos (keywordEach kws X.env)).any (·.1.isNone)) = false := by rfl)
    (ht : eval (.Call (.Attribute o m apos) [] kws pos) X.env = (do
      let ov ← eval o X.env
      standAt apos.atName
      let (f, first) ← holding [ov] (getMethod ov m pl)
      callWith pos f first (backTo pos (starEach [] X.env)) (backToKw pos (keywordEach kws X.env))) := by rfl) :
    PE X (.Call (.Attribute o m apos) [] kws pos) (tMethK0 C m spv gV E ta tk) := by
  refine ⟨fun pins s σ H Q I h => ?_⟩
  refine PySem.W.methodCall_KW (pl := pl) (thn (he.run pins s σ H _ I h) fun u s1 ⟨x, H1, I1, rx, a, dx, fs, ex, ea, l, q⟩ => ?_) ht
  subst ex
  obtain rfl : u = Value.ref a := rx
  refine getmeth_ok I1 ea c hm l ?_
  refine PySem.W.callWith_KW0 (first := [.ref a]) (h₀ := X.base) I1.ok.mod.kin hm.kp hall (thn (hkw.run pos pins s1 σ H1 _ I1 q) fun ws s2 ⟨zs, H2, I2, rz, q2⟩ => ⟨I2.kIn, ?_⟩) hpl
  rw [hks]
  exact run_fnk (us := [.ref a]) (vs := [.ref a]) F hr hb hx I2 (.cons rfl .nil) rz q2
theorem ev_metK0 {pl : Sem Bool} (kc : Kc X.K nm C) (hm : Meth X.K C m f) (G : FnOk X.prog X.w X.K X.mg X.base CX0 k f fd ps (dn X.K sp)) (hr : Room k X.A) (hb : KBn' X.K fd ps ks n mm π) (ho : EV X W o ro) (hkw : EK X W kws rk)
    (hall : (backToKw pos (keywordEach kws X.env)).all (·.1.isSome) = true := by rfl) (hks : (backToKw pos (keywordEach kws X.env)).filterMap (·.1) = ks := by rfl)
    (hpl : ((backTo pos (starEach [] X.env)).any (·.1) || (backToKw pos (keywordEach kws X.env)).any (·.1.isNone)) = false := by rfl)
    (ht : eval (.Call (.Attribute o m apos) [] kws pos) X.env = (do
      let ov ← eval o X.env
      standAt apos.atName
      let (f, first) ← holding [ov] (getMethod ov m pl)
      callWith pos f first (backTo pos (starEach [] X.env)) (backToKw pos (keywordEach kws X.env))) := by rfl) : EV X W (.Call (.Attribute o m apos) [] kws pos) (rMetK nm m sp n mm π ro rNil rk) := by
  obtain ⟨T, p, l⟩ := ho.ex
  obtain ⟨Tk, pk, lk⟩ := hkw.ex
  refine ⟨_, pe_methK0 (E := fun _ _ _ => False) p kc.cls hm G hr hb pass0 pk hall hks hpl ht, fun σ σ' H S Q Q' E' rs rh h q xi => ?_⟩
  refine l σ σ' H S _ _ _ rs rh h (fun x S1 v H1 f1 rh1 dv h1 => ?_) xi
  cases dv with
  | ref a =>
    obtain ⟨fs, e, le, h1⟩ := h1
    obtain ⟨C', dx, ys, cn, g, r⟩ := rh1 a _ e
    cases cn.inj kc.cn
    refine ⟨a, dx, ys, rfl, g, r.lookupN le, ?_⟩
    refine lk σ σ' H1 S1 _ _ _ (rs.mono (f1.tle rh)) rh1 h1 (fun es S2 zs H2 f2 rh2 dz h2 => ?_) (xi.go f1)
    exact ⟨_, S2, Q', NoX, DVs.gk (.cons (.ref a) .nil) dz, rh2, h2, q.go (f1.trans f2), XI.no⟩
  | _ => exact h1.elim
end
end Y
set_option maxHeartbeats 2000000
namespace Y
open PySem PySem.Spec PyProof.Rows L2 LamX
/-! ### a lambda is made -/
section
variable {X : Cx} {pins : List (Addr × Obj)} {σ : L2.St} {H : Hp} {s : Shared}
/-- what the table tells, bears the name; each of it is of the old table, or new -/
def TbG (ps : Array Value) (H H1 : Hp) (P : Addr) (q : Str) : Prop := ∃ ps1 : Array Value, H1 P = some (.tbl ps1) ∧ TriplesOk ps1.toList ∧ ∀ (pos : Pos) (cv : Value), codeAmong pos ps1.toList = some cv →
  ∃ c, cv = .ref c ∧ H1 c = some (CodeO c q) ∧ (H c = none ∨ ∃ pos' : Pos, codeAmong pos' ps.toList = some (.ref c))
theorem lam_mk {c P : Addr} {q : Str} {params : Arguments} {body : Expr} {scope : Scope} {pos : Pos} {E Q : Value → Shared → Prop} {ps : Array Value} (I : Inv X pins σ H s) (TB : TabB X.base X.mg c P) (hcode : X.env.code = .ref c) (eq : X.env.qual ++ "<lambda>" = q)
    (hP : H P = some (.tbl ps)) (ht : TriplesOk ps.toList) (ha : ∀ (pos : Pos) (cv : Value), codeAmong pos ps.toList = some cv → ∃ c, cv = .ref c ∧ H c = some (CodeO c q)) (hdef : defaultsOf params X.env = ([], [])) (hfree : ∀ y ∈ scope.names, y.2 = .free → ∃ c, X.env.cells.lookup y.1 = some c)
    (h : ∀ (f d : Addr) (pm ctv : Value) (H1 : Hp) (s1 : Shared), Inv X pins σ H1 s1 → (∀ b o, b ≠ P → H b = some o → H1 b = some o) → TbG ps H H1 P q →
      s1.heap.get? f = some (PySem.W.kla_obj "<lambda>" q params body scope (cloFrom X.env.cells scope.names []) pm d ctv) → H1 f = none → H f = none → f ∉ frs X.stack → H1 d = some (CodeO d q) → (H d = none ∨ ∃ pos' : Pos, codeAmong pos' ps.toList = some (.ref d)) → Q (.ref f) s1) :
    wpAny (model X.prog X.w) X.A (eval (.Lambda params body scope pos) X.env) Q E s := by
  subst eq
  have glob := I.mod.glob.keeps I.bk
  have hd := TB.code.keeps I.bk
  have bi := TB.bm.keeps I.bk
  have off : ∀ f, s.heap.objs.size ≤ f → f ∉ frs X.stack := fun f hf z => by
    rcases List.mem_cons.mp (I.stkSub _ z) with e | e
    · exact absurd I.lt (by rw [← e]; exact Nat.not_lt.mpr hf)
    · exact I.nofs hf e
  have hP2 := I.hok P _ hP
  refine PySem.W.kla_eval hdef ?_
  cases hc : codeAmong pos ps.toList with
  | some v =>
    obtain ⟨d, rfl, hd1⟩ := ha pos v hc
    refine PySem.W.kla_makeFunctionHit (mg := X.mg) (c := c) (P := P) (ps := ps) (closure_ok hfree) I.ok.glob glob hcode hd hP2 ht hc bi fun ctv g tk hx hsz => ?_
    refine h g.objs.size d ((X.mg "__name__").getD .none) ctv H _ (I.kept fun b o e => Heap.get?_push_of_some _ (hx b o e)) (fun _ _ _ e => e) ⟨ps, hP, ht, fun p v hv => ?_⟩ (Heap.get?_push_size _ rfl) (I.hok.fresh hsz) (I.hok.fresh hsz) (off _ hsz) hd1 (.inr ⟨pos, hc⟩)
    obtain ⟨b, rfl, hb⟩ := ha p v hv
    exact ⟨b, rfl, hb, .inr ⟨p, hv⟩⟩
  | none =>
    refine PySem.W.kla_makeFunction (mg := X.mg) (c := c) (P := P) (ps := ps) (closure_ok hfree) I.ok.glob glob hcode hd hP2 ht hc TB.gP bi fun d ctv g tk hx hge hlt hrec htb => ?_
    obtain ⟨d2, oc, vs, t, ed, hoc, hdt, hv⟩ := hrec
    cases ed
    have hsz : s.heap.objs.size ≤ g.objs.size := Nat.le_trans hge (Nat.le_of_lt hlt)
    have hn : H d = none := I.hok.fresh hge
    have ne : P ≠ d := ne_of_none hP hn
    have J := inv_table (t' := tk) (q := X.env.qual ++ "<lambda>") (more := #[rawInt pos.line, rawInt pos.col, .ref d]) (h' := g.push (PySem.W.kla_obj "<lambda>" (X.env.qual ++ "<lambda>") params body scope (cloFrom X.env.cells scope.names []) ((X.mg "__name__").getD .none) d ctv)) I hP
      (fun b o nb e => Heap.get?_push_of_some _ (hx b o nb e)) (Heap.get?_push_of_some _ htb) hge ⟨oc, vs, t, Heap.get?_push_of_some _ hoc, hdt, hv⟩
    have kp : ∀ b o, b ≠ P → H b = some o → upd (upd H P (.tbl (ps ++ #[rawInt pos.line, rawInt pos.col, .ref d]))) d (CodeO d (X.env.qual ++ "<lambda>")) b = some o := fun b o nb e => by
      rw [upd_ne (ne_of_none e hn), upd_ne nb]; exact e
    have eL : (ps ++ #[rawInt pos.line, rawInt pos.col, .ref d]).toList = ps.toList ++ [rawInt pos.line, rawInt pos.col, .ref d] := by simp
    refine h g.objs.size d ((X.mg "__name__").getD .none) ctv _ _ J kp ⟨_, by rw [upd_ne ne, upd_same], by rw [eL]; exact PySem.TriplesOk_snoc _ _ _ _ ht, fun p v hv => ?_⟩ (Heap.get?_push_size _ rfl) ?_ (I.hok.fresh hsz) (off _ hsz) upd_same (.inl hn)
    · rw [eL] at hv
      rcases among_app _ ht hv with z | z
      · obtain ⟨b, rfl, hb⟩ := ha p v z
        exact ⟨b, rfl, kp _ _ (fun z => by rw [z, hP] at hb; cases hb) hb, .inr ⟨p, z⟩⟩
      · exact ⟨d, z, upd_same, .inl hn⟩
    · have n1 : g.objs.size ≠ d := Nat.ne_of_gt hlt
      have n2 : g.objs.size ≠ P := Nat.ne_of_gt (Nat.lt_of_lt_of_le (Heap.lt_size hP2) hsz)
      rw [upd_ne n1, upd_ne n2]
      exact I.hok.fresh hsz
end
/-! ### the lambda's context, where errors may leave it -/
def lamX (X : Cx) (A : Around) (outer : List Env) (s : Shared) (H : Hp) (E : XK) (scope : Scope) (f d : Addr) : Cx :=
  (lamCx X A outer s H E scope f d).tr [] fun e s1 => wpAny (model X.prog X.w) (A.deeper (lamEnv X scope s.heap.objs.size f d)) (leaving (lamEnv X scope s.heap.objs.size f d) e) (fun _ s2 => L2N.CX X.prog X.w outer H s E e s2) (fun e2 s2 => L2N.CX X.prog X.w outer H s E e2 s2) s1
theorem lamX_takes {X : Cx} {A : Around} {outer : List Env} {s : Shared} {H : Hp} {E : XK} {scope : Scope} {f d : Addr} : L2N.Takes (lamX X A outer s H E scope f d) (fun cls a _ H => E cls a H) := L2N.takes_of rfl rfl rfl rfl
theorem lamX_inv {X : Cx} {A : Around} {outer : List Env} {s s1 : Shared} {H H1 : Hp} {E : XK} {scope : Scope} {f d : Addr} {σ : L2.St} (I : Inv (lamCx X A outer s H E scope f d) [] σ H1 s1) : Inv (lamX X A outer s H E scope f d) [] σ H1 s1 :=
  ⟨I.ok.toTry _ _, I.os, I.bare, I.base, I.loc, I.cell, I.free, I.freeC, I.pin, I.hok, I.len⟩
/-- the thunk that the def got is called: d is its code, σ0' the frame in which it was made -/
abbrev Th := Hq → Qv → Xw → Prop
def rAsk (f d : Addr) (o : HQ) (th : Th) : RE := fun σ S Q E => σ[0]? = some (some (.ref f)) ∧ S d = some o ∧ th S Q E
section
variable {X : Cx} {pins : List (Addr × Obj)} {σ : L2.St} {H : Hp} {s : Shared}
theorem ev_ask {Ng : List Str} {qg : Str} {sg : Scope} {g f d : Addr} {cdg pm ctv : Value} {q : Str} {params : Arguments} {body : Expr} {scope : Scope} {k : Nat} {a : Str} {σ' : Sg} {r : RE}
    (I : Inv X pins σ H s) (L : LamS X.env.scope scope) (eq : X.env.qual ++ "<lambda>" = q) (hf : s.heap.get? f = some (PySem.W.kla_obj "<lambda>" q params body scope (cloFrom X.env.cells scope.names []) pm d ctv)) (hfn : H f = none) (hfr : f ∉ frs X.stack)
    (hbind : bindArgs (PySem.W.kla_fn "<lambda>" q params body scope (cloFrom X.env.cells scope.names []) pm (.ref d) ctv) ⟨[], []⟩ = pure [])
    (hr : Room (k + 1) (X.A.deeper (envOfC qg sg s.heap.objs.size g cdg)))
    (hbody : ∀ (A : Around) (outer : List Env) (s : Shared) (H : Hp) (E : XK), Room k (A.deeper (lamEnv X scope s.heap.objs.size f d)) → EV (lamX X A outer s H E scope f d) (fun cls a _ H => E cls a H) body r)
    (hN : Ng[0]? = some a) (hv : Vis sg a) (hd : (a == ("__debug__" : Str)) = false) (hcd : (a == ("__classdict__" : Str)) = false)
    (W : WX) (pn : List (Addr × Obj)) (xe : Value → Shared → Prop) (p1 p2 : Pos) (tk : L2N.Takes ((cxOf CX0 X.prog X.w X.K X.mg X.base Ng qg sg g cdg X.A X.stack s H E0).tr pn xe) W) :
    EV ((cxOf CX0 X.prog X.w X.K X.mg X.base Ng qg sg g cdg X.A X.stack s H E0).tr pn xe) W (.Call (.Name a p1) [] [] p2) (rAsk f d (.co q σ σ') fun S Q E => r σ' S Q E) := by
  subst eq
  refine ⟨fun σZ HZ Q => σZ[0]? = some (some (.ref f)) ∧ HZ d = some (CodeO d (X.env.qual ++ "<lambda>")) ∧ ∃ S Q' E', RS X.K HZ σ' σ ∧ RH X.K S HZ ∧ r σ' S Q' E' ∧ QI X.K S HZ Q' Q ∧ XI X.K S HZ E' (wx W σZ), ⟨fun pinsZ sZ σZ HZ Q IZ h => ?_⟩, fun σZ σZ' HZ S Q Q' E' rs rh h q xi => ?_⟩
  · obtain ⟨hs, hc, S, Q', E', rs, rh, hr1, qi, xi⟩ := h
    refine wpAny_Call_Name_kw (thn ((pe_var (pos := p1) (i := 0) hN hv hd hcd).run pinsZ sZ σZ HZ (fun v H1 => v = .ref f ∧ H1 = HZ) IZ ⟨.ref f, hs, rfl, rfl⟩) fun u s1 ⟨v, H1, I1, r1, q1⟩ => ?_)
    obtain ⟨rfl, rfl⟩ := q1
    obtain rfl : u = Value.ref f := r1
    have of1 := I1.base.keep f _ hf hfn hfr (fun z => nomatch (show f ∈ ([] : List Addr) from z))
    refine PySem.W.callWith_F0 ⟨_, _, _, _, of1⟩ ?_
    have un : Un (frs X.stack) [] H H1 s.heap s1.heap := I1.base
    obtain ⟨⟨oc, vs, t, hoc, hdc, hvc⟩, _, _⟩ := I1.hok d _ hc
    have rc : codeAny (model X.prog X.w) (X.A.deeper (envOfC qg sg s.heap.objs.size g cdg)) (.call (.ref f) ⟨[], []⟩) (CR (L2N.CX X.prog X.w) (envOfC qg sg s.heap.objs.size g cdg :: X.stack) X.prog X.w H1 s1 Q (wx W σZ)) s1 := by
      refine PySem.W.kla_callFunE hr.depth of1 rfl L.co L.gen rfl ⟨d, oc, vs, t, rfl, hoc, hdc, hvc⟩ ?_
      rw [hbind]
      refine wpAny_pure (wpAny_newFunctionEnv (fun y hy => (L.own y hy).2) (fun y hy => absurd hy (by simp)) (fun h1 hns hsb => ⟨I1.nolimit.fresh _ hsb, ?_⟩) L.kind)
      show codeAny _ _ (.expr body (lamEnv X scope s1.heap.objs.size f d)) _ _
      have kp : ∀ b o, s1.heap.get? b = some o → h1.get? b = some o := fun b o e => hsb.extBut b o (Nat.ne_of_lt (Heap.lt_size e)) (Heap.get?_push_of_some _ e)
      have J := lamX_inv (f := f) (d := d) (lam_start2 (E := wx W σZ) (tk := s1.toks + ([] : List (Str × Value)).length) I L I1.env0 hr.hd un hns kp)
      obtain ⟨T, p, l⟩ := (hbody (X.A.deeper (envOfC qg sg s.heap.objs.size g cdg)) (envOfC qg sg s.heap.objs.size g cdg :: X.stack) s1 H1 (wx W σZ) (hr.deeper _)).ex
      refine PySem.W.kla_codeExpr (wpAny_mono (p.run [] _ _ H1 Q J (l σ σ' H1 S Q Q' E' rs rh hr1 qi xi)) (fun v s2 hq => ?_) fun e s2 hq => hq)
      obtain ⟨w2, H2, J2, rv, hq⟩ := hq
      exact ⟨w2, H2, J2.os, J2.bare, J2.base, J2.hok, rv, hq⟩
    have hx := L2N.passAt tk σZ
    refine wpAny_call (codeAny_mono rc fun r s2 hq => ?_)
    cases r with
    | error e => exact hx pinsZ H1 s1 e s2 I1 hq
    | ok fl =>
      cases fl with
      | ret u => exact I1.after hq
      | next => exact False.elim hq
      | brk => exact False.elim hq
      | cont => exact False.elim hq
  · obtain ⟨h0, h1, h2⟩ := h
    obtain ⟨v, e, dv⟩ := rs.get 0 _ h0
    cases dv
    obtain ⟨hc, rs2⟩ := rh d _ h1
    exact ⟨e, hc, S, Q', E', rs2, rh, h2, q, xi⟩
end
/-! ### a def that gets a lambda is called -/
def enter (S : Hq) (d : Addr) (o : HQ) : Hq := fun b => if b = d then some o else match S b with | some (.tb _) => none | u => u
def leaveL (S S1 : Hq) (d : Addr) : Hq := fun b => if b = d then none else match S b with | some (.tb q) => some (.tb q) | _ => S1 b
theorem enter_same {S : Hq} {d : Addr} {o : HQ} : enter S d o d = some o := if_pos rfl
theorem enter_get {S : Hq} {d a : Addr} {o u : HQ} (hd : S d = none) (e : S a = some u) (n : ∀ q, u ≠ .tb q) : enter S d o a = some u := by
  have ne : a ≠ d := fun z => by rw [z, hd] at e; cases e
  unfold enter
  rw [if_neg ne, e]
  cases u <;> first | rfl | exact absurd rfl (n _)
theorem leave_enter {S : Hq} {d : Addr} {o : HQ} (hd : S d = none) : leaveL S (enter S d o) d = S := by
  funext b
  unfold leaveL enter
  by_cases e : b = d
  · rw [if_pos e, e, hd]
  · rw [if_neg e, if_neg e]
    cases S b with
    | none => rfl
    | some u => cases u <;> rfl
theorem RO.any {K : PySem.W.Frag} {S S' : Hq} {H : Hp} {a : Addr} {u : HQ} (n : ∀ q, u ≠ .tb q) (x : RO K S H a u) : RO K S' H a u := by
  cases u <;> first | exact x | exact absurd rfl (n _)
/-- x(lambda: ..), in the def of the name y -/
def rLam (y : Str) (sp : Addr → Addr → HQ → Th → Hq → Qv → Prop) (r : RE) : RE := fun σ S Q E => (∃ P, S P = some (.tb y)) ∧ ∀ (f d : Addr) (vs : L2.St), S f = none → S d = none → f ≠ d →
  sp f d (.co (lamN y) vs σ) (fun S Q E => r σ S Q E) (enter S d (.co (lamN y) vs σ)) fun x S1 => S1 d = some (.co (lamN y) vs σ) ∧ Q x (leaveL S S1 d)
section
variable {K : PySem.W.Frag} {S S' : Hq} {H H1 H' : Hp} {P d : Addr} {q : Str} {ps : Array Value} {σ' : Sg} {σ : L2.St}
theorem tb_tle (hP : H P = some (.tbl ps)) (kp : ∀ b o, b ≠ P → H b = some o → H1 b = some o) : Tle K H H1 := by
  have ne : ∀ {b : Addr} {o : HO}, H b = some o → (∀ x, o ≠ .tbl x) → b ≠ P := fun {b o} e n z => by rw [z, hP] at e; exact n ps (Option.some.inj e).symm
  refine ⟨fun a xs h => ?_, fun a xs h => ?_⟩
  · rcases h with (h | ⟨o, h⟩) | h
    · exact .inl (.inl (kp _ _ (ne h (fun _ z => by cases z)) h))
    · exact .inl (.inr ⟨o, kp _ _ (ne h (fun _ z => by cases z)) h⟩)
    · exact .inr h
  · rcases h with ⟨o, h⟩ | h
    · exact .inl ⟨o, kp _ _ (ne h (fun _ z => by cases z)) h⟩
    · exact .inr h
theorem tb_rh {y : Str} (ey : lamN y = q) (rh : RH K S H) (hSP : S P = some (.tb y)) (hP : H P = some (.tbl ps)) (kp : ∀ b o, b ≠ P → H b = some o → H1 b = some o) (tg : TbG ps H H1 P q) (ha : ∀ (pos : Pos) (cv : Value), codeAmong pos ps.toList = some cv → ∃ c, cv = .ref c ∧ H c = some (CodeO c q) ∧ S c = none) : RH K S H1 := fun b o e => by
  by_cases hb : b = P
  · subst hb
    have h0 := (rh b _ hSP).1
    rw [hSP] at e; cases e
    subst ey
    obtain ⟨ps1, h1, h2, h3⟩ := tg
    refine ⟨h0, ps1, h1, h2, fun pos cv h => ?_⟩
    obtain ⟨c, rfl, hc, z | ⟨p, z⟩⟩ := h3 pos cv h
    · exact ⟨c, rfl, hc, rh.fresh z⟩
    · obtain ⟨c2, e2, _, n⟩ := ha p _ z
      cases e2
      exact ⟨c, rfl, hc, n⟩
  · cases hH : H b with
    | none => rw [rh.fresh hH] at e; cases e
    | some u => exact (rh b o e).stay (tb_tle hP kp) (fun c q' hc n => ⟨kp c _ (fun z => by rw [z, hP] at hc; cases hc) hc, n⟩) (by rw [hH]; exact kp b u hb hH)
theorem enter_rh (rh : RH K S H1) (hc : H1 d = some (CodeO d q)) (rs : RS K H1 σ' σ) : RH K (enter S d (.co q σ σ')) H1 := fun b o e => by
  unfold enter at e
  by_cases hb : b = d
  · rw [if_pos hb] at e; cases e; subst hb; exact ⟨hc, rs⟩
  · rw [if_neg hb] at e
    cases hS : S b with
    | none => rw [hS] at e; cases e
    | some u =>
      have hu : ∀ z, u ≠ .tb z := fun z e2 => by rw [hS, e2] at e; cases e
      have e3 : some u = some o := by rw [hS] at e; cases u <;> first | exact e | exact absurd rfl (hu _)
      cases e3
      exact RO.any hu (rh b _ hS)
theorem leave_fr (hSd : S d = none) (hc : H1 d = some (CodeO d q)) (f : Fr (enter S d (.co q σ σ')) H1 S' H') (rh' : RH K S' H') (e' : S' d = some (.co q σ σ')) : Fr S H1 (leaveL S S' d) H' := fun b o e n => by
  by_cases hb : b = d
  · subst hb
    rw [hc] at e; cases e
    exact ⟨(rh' b _ e').1, if_pos rfl⟩
  · obtain ⟨h1, h2⟩ := f b o e (by unfold enter; rw [if_neg hb, n])
    refine ⟨h1, ?_⟩
    unfold leaveL
    rw [if_neg hb, n]; exact h2
theorem leave_rh (rh : RH K S H1) (hSd : S d = none) (hc : H1 d = some (CodeO d q)) (f : Fr (enter S d (.co q σ σ')) H1 S' H') (rh' : RH K S' H') (e' : S' d = some (.co q σ σ')) : RH K (leaveL S S' d) H' := fun b u e => by
  have hc' : H' d = H1 d := by rw [hc]; exact (rh' d _ e').1
  have fr := leave_fr hSd hc f rh' e'
  by_cases hb : b = d
  · unfold leaveL at e; rw [if_pos hb] at e; cases e
  have ent : S b = none ∨ (∃ z, S b = some (.tb z)) → enter S d (.co q σ σ') b = none := fun h => by
    unfold enter; rw [if_neg hb]
    rcases h with h | ⟨z, h⟩ <;> rw [h]
  by_cases ht : ∃ z, S b = some (.tb z)
  · obtain ⟨z, hS⟩ := ht
    have e2 : u = .tb z := by unfold leaveL at e; rw [if_neg hb, hS] at e; cases e; rfl
    subst e2
    obtain ⟨h0, ps2, h1, h2, h3⟩ := rh b _ hS
    refine ⟨h0, ps2, (f b _ h1 (ent (.inr ⟨z, hS⟩))).1, h2, fun pos cv h => ?_⟩
    obtain ⟨c, e3, e4, e5⟩ := h3 pos cv h
    exact ⟨c, e3, (fr c _ e4 e5).1, (fr c _ e4 e5).2⟩
  · have e2 : S' b = some u := by
      unfold leaveL at e; rw [if_neg hb] at e
      cases hS : S b with
      | none => rw [hS] at e; exact e
      | some v => rw [hS] at e; cases v <;> first | exact e | exact absurd ⟨_, hS⟩ ht
    have x := rh' b u e2
    by_cases hu : ∃ z, u = .tb z
    · obtain ⟨z, rfl⟩ := hu
      obtain ⟨h0, ps2, h1, h2, h3⟩ := x
      refine ⟨h0, ps2, h1, h2, fun pos cv h => ?_⟩
      obtain ⟨c, e3, e4, e5⟩ := h3 pos cv h
      refine ⟨c, e3, e4, ?_⟩
      unfold leaveL
      by_cases hcd : c = d
      · rw [if_pos hcd]
      · rw [if_neg hcd]
        cases hS : S c with
        | none => exact e5
        | some v =>
          cases v with
          | tb z2 =>
            obtain ⟨_, ps3, k1, _⟩ := rh c _ hS
            have := (f c _ k1 (by unfold enter; rw [if_neg hcd, hS])).1
            rw [e4] at this; cases this
          | _ => exact e5
    · exact RO.any (fun z e3 => hu ⟨z, e3⟩) x
end
theorem ev_lamcall {X : Cx} {W : WX} {P c g : Addr} {x a y : Str} {k : Nat} {st : Stmt} {fd : FuncData} {Ng : List Str} {params : Arguments} {body : Expr} {scope : Scope} {r : RE} {sp : Addr → Addr → HQ → Th → Hq → Qv → Prop} {rd : Addr → Addr → HQ → Th → RSt} {p lpos pos : Pos}
    (hm : X.mg x = some (.ref g)) (hk : PySem.W.keepIn X.K (.ref g) = true) (F : Fun X.K x x st g fd) (hb : Binds X.K fd [a] []) (Sg : FnScope Ng [a] (defScope st)) (hNg : Ng[0]? = some a) (hva : Vis (defScope st) a)
    (hG : ∀ (cdv : Value) (A : Around) (outer : List Env) (s : Shared) (H : Hp) (f d : Addr) (o : HQ) (th : Th), Room (k + 1) (A.deeper (envOfC x (defScope st) s.heap.objs.size g cdv)) →
      (∀ (W : WX) (pn : List (Addr × Obj)) (xe : Value → Shared → Prop) (p1 p2 : Pos), L2N.Takes ((cxOf CX0 X.prog X.w X.K X.mg X.base Ng x (defScope st) g cdv A outer s H E0).tr pn xe) W → EV ((cxOf CX0 X.prog X.w X.K X.mg X.base Ng x (defScope st) g cdv A outer s H E0).tr pn xe) W (.Call (.Name a p1) [] [] p2) (rAsk f d o th)) →
      EB (cxOf CX0 X.prog X.w X.K X.mg X.base Ng x (defScope st) g cdv A outer s H E0).nox W0 (defBody st) (rd f d o th))
    (pure' : ∀ f d o th S Q, sp f d o th S Q → rd f d o th { nx := fun _ S => Q .non S, rt := Q } (start' Ng.length [.ref f]) S)
    (TB : TabB X.base X.mg c P) (hti : PySem.W.tabIn X.K y = some (c, P)) (hcode : X.env.code = .ref c) (eq : X.env.qual ++ "<lambda>" = lamN y) (hr : Room (k + 2) X.A) (L : LamS X.env.scope scope)
    (hbody : ∀ (A : Around) (outer : List Env) (s : Shared) (H : Hp) (E : XK) (f d : Addr), Room k (A.deeper (lamEnv X scope s.heap.objs.size f d)) → EV (lamX X A outer s H E scope f d) (fun cls a _ H => E cls a H) body r)
    (hg : Gl X x := by rfl) (hdef : defaultsOf params X.env = ([], []) := by rfl)
    (hbind : ∀ (q : Str) (cl : List (Str × Addr)) (pm cv ctv : Value), bindArgs (PySem.W.kla_fn "<lambda>" q params body scope cl pm cv ctv) ⟨[], []⟩ = pure [] := by intro _ _ _ _ _; rfl)
    (hdb : (x == ("__debug__" : Str)) = false := by decide) (hd : (a == ("__debug__" : Str)) = false := by decide) (hcd : (a == ("__classdict__" : Str)) = false := by decide) :
    EV X W (.Call (.Name x p) [.Lambda params body scope lpos] [] pos) (rLam y sp r) := by
  obtain ⟨oc, od, kV, doc, pm, an, cdv, ct, osl, rfl, lk, hcdv⟩ := F.ex
  refine ⟨fun σ H Q => ∃ σ' S Q' E', RS X.K H σ' σ ∧ RH X.K S H ∧ rLam y sp r σ' S Q' E' ∧ QI X.K S H Q' Q, ⟨fun pins s σ H Q I h => ?_⟩, fun σ σ' H S Q Q' E' rs rh h q xi => ⟨σ', S, Q', E', rs, rh, h, q⟩⟩
  obtain ⟨σ', S, Q', E', rs, rh, ⟨⟨P', hSP⟩, hsp⟩, qi⟩ := h
  obtain ⟨⟨c', hti'⟩, ps, hP, ht, ha⟩ := rh P' _ hSP
  rw [hti] at hti'; cases hti'
  refine wpAny_Call_Name_kw (ld_glob I hg hm ?_ hdb)
  refine PySem.W.callWith_K (h₀ := X.base) I.ok.mod.kin hk ?_ (by rfl) (by rfl)
  show wpAny _ _ (spliced ((false, eval (.Lambda params body scope lpos) X.env) :: backTo pos (starEach [] X.env))) _ _ s
  refine Calls.spliced_cons (lam_mk I TB hcode eq hP ht (fun pos cv h => let ⟨c, e1, e2, _⟩ := ha pos cv h; ⟨c, e1, e2⟩) hdef (L.has I.ok) fun f d pm' ctv H1 s1 I1 kp tg hf hfn hf0 hfr hd1 hdo => ?_)
  refine Calls.spliced_nil ⟨I1.kIn, ?_⟩
  have hSd : S d = none := by
    rcases hdo with z | ⟨p', z⟩
    · exact rh.fresh z
    · obtain ⟨c, e, _, n⟩ := ha p' _ z
      cases e; exact n
  have hSf : S f = none := rh.fresh hf0
  have hfd : f ≠ d := fun z => by rw [z, hd1] at hfn; cases hfn
  have rs1 := rs.mono (tb_tle (K := X.K) hP kp)
  have rh1 := tb_rh rfl rh hSP hP kp tg ha
  have rh2 := enter_rh rh1 hd1 rs1
  have fr0 : Fr S H S H1 := fun b o e n => ⟨kp b o (fun z => by rw [z, hSP] at n; cases n) e, n⟩
  have rc : codeAny (model X.prog X.w) X.A (.call (.ref g) ⟨[.ref f], []⟩) (CR CX0 X.stack X.prog X.w H1 s1 Q E0) s1 := by
    refine run_ofS (N := Ng) (ps := [a]) (us := [.ref f]) (vs := [.ref f]) lk hcdv Sg hr I1.env0 (hb s1 [.ref f] I1.kIn rfl) (.cons rfl .nil) rfl fun hr' => ?_
    obtain ⟨T, p, l⟩ := (hG cdv X.A X.stack s1 H1 f d (.co (lamN y) σ σ') (fun S Q E => r σ' S Q E) hr' (fun W pn xe p1 p2 tk => ev_ask I1 L eq hf hfn hfr (hbind _ _ _ _ _) hr' (fun A outer s H E hr2 => hbody A outer s H E f d hr2) hNg hva hd hcd W pn xe p1 p2 tk)).ex
    refine ⟨T, p.nox, ?_⟩
    refine l _ (start' Ng.length [.ref f]) H1 _ _ { nx := fun _ S1 => S1 d = some (.co (lamN y) σ σ') ∧ Q' .non (leaveL S S1 d), rt := fun x S1 => S1 d = some (.co (lamN y) σ σ') ∧ Q' x (leaveL S S1 d) } (rs_start Ng (.cons (.ref f) .nil)) rh2 (pure' _ _ _ _ _ _ (hsp f d σ hSf hSd hfd)) ⟨fun σ2' S2 σ2 H2 f2 rh2' rs2 h2 => ?_, fun x S2 v H2 f2 rh2' dv h2 => ?_, fun _ _ _ _ _ _ _ z => z.elim, fun _ _ _ _ _ _ _ z => z.elim, fun _ _ _ _ _ _ _ _ _ _ _ _ _ _ z => z.elim⟩
    · exact qi _ _ _ _ (fr0.trans (leave_fr hSd hd1 f2 rh2' h2.1)) (leave_rh rh1 hSd hd1 f2 rh2' h2.1) .non h2.2
    · exact qi _ _ _ _ (fr0.trans (leave_fr hSd hd1 f2 rh2' h2.1)) (leave_rh rh1 hSd hd1 f2 rh2' h2.1) dv h2.2
  refine wpAny_call (codeAny_mono rc fun r s2 hq => ?_)
  cases r with
  | error e => exact (show False from hq).elim
  | ok fl =>
    cases fl with
    | ret u => exact I1.after hq
    | next => exact False.elim hq
    | brk => exact False.elim hq
    | cont => exact False.elim hq
end Y
set_option maxHeartbeats 2000000
namespace Y
open PySem PySem.Spec PyProof.Rows L2 LamX
/-! ### a def whose code object is known: it makes lambdas -/
def FunL (K : PySem.W.Frag) (x qual : Str) (st : Stmt) (f : Addr) (fd : FuncData) (c : Addr) : Prop :=
  ∃ (oc : Value) (od : Option Addr) (kV doc pm : Value) (an : Option Addr) (ct : Value) (osl : Array (Option Value)), fd = PySem.W.fnOf x qual (defArgs st) (defBody st) (defScope st) .none kV doc pm an (.ref c) ct ∧
    K.lookup f = some ⟨oc, od, .func (PySem.W.fnOf x qual (defArgs st) (defBody st) (defScope st) .none kV doc pm an (.ref c) ct), osl⟩ ∧ PySem.W.codeIn K (.ref c) qual = true
section
variable {P : Program} {w : World} {K : PySem.W.Frag} {mg : Str → Option Value} {base : Heap}
theorem fn_okL {x qual : Str} {st : Stmt} {f c : Addr} {fd : FuncData} {N ps : List Str} {k : Nat} {sp : Sq} {t : RSt} (F : FunL K x qual st f fd c) (Sc : FnScope N ps (defScope st)) (len : ∀ ds S Q E, sp ds S Q E → ds.length = ps.length)
    (hb : ∀ (A : Around) (outer : List Env) (s : Shared) (H : Hp) (E : XK), Room k (A.deeper (envOfC qual (defScope st) s.heap.objs.size f (.ref c))) → EB (cxOf CX0 P w K mg base N qual (defScope st) f (.ref c) A outer s H E).nox W0 (defBody st) t)
    (pure' : ∀ ds S Q, sp ds S Q NoX → t { nx := fun _ S => Q .non S, rt := Q } (start' N.length ds) S)
    (nox : ∀ ds S Q E, sp ds S Q E → sp ds S Q NoX) : FnOk P w K mg base CX0 (k + 1) f fd ps (dn K sp) := by
  obtain ⟨oc, od, kV, doc, pm, an, ct, osl, rfl, lk, hcd⟩ := F
  refine fn_of lk hcd Sc (fun vs H Q E h => ?_) (fun A outer s H vs Q E hr h => ?_)
  · obtain ⟨ds, S, Q', E', dv, _, h, _⟩ := h
    rw [← dv.length]
    exact len _ _ _ _ h
  · obtain ⟨ds, S, Q', E', dv, rh, h, q, xi⟩ := h
    obtain ⟨T, p, l⟩ := (hb A outer s H E hr).ex
    refine ⟨T, p.nox, ?_⟩
    refine l _ (start' N.length ds) H S _ { nx := fun _ S => Q' .non S, rt := Q' } (rs_start N dv) rh (pure' _ _ _ (nox _ _ _ _ h)) ⟨fun σ' S' σ H' f rh' rs h' => ?_, q, fun _ _ _ _ _ _ _ z => z.elim, fun _ _ _ _ _ _ _ z => z.elim, fun _ _ _ _ _ _ _ _ _ _ _ _ _ _ z => z.elim⟩
    exact q _ _ _ _ f rh' .non h'
/-- what is tracked may be let be ahead of a call -/
theorem fn_fz {k : Nat} {f : Addr} {fd : FuncData} {ps : List Str} {sp : Sp} (F : FnOk P w K mg base CX0 k f fd ps sp) :
    FnOk P w K mg base CX0 k f fd ps (fun vs H Q E => sp vs H Q E ∨ ∃ a u, vs.length = ps.length ∧ Mut (some u) ∧ H a = some u ∧ ∀ o, sp vs (upd H a (.frz o u)) Q E) := by
  refine ⟨fun vs H Q E h => ?_, fun A outer s H args us vs Q E hr e0 hb r h => ?_⟩
  · rcases h with h | ⟨_, _, h, _⟩
    · exact F.len _ _ _ _ h
    · exact h
  · rcases h with h | ⟨a, u, _, m, e, h⟩
    · exact F.run A outer s H args us vs Q E hr e0 hb r h
    · obtain ⟨ob, ho⟩ := m.get (e0.hok a _ e)
      have h0 : ∀ b, H b = none → b ≠ a := fun b q z => by subst z; rw [e] at q; cases q
      have hne : ∀ b v, H b = some v → ¬ Mut (some v) → b ≠ a := fun b v q k z => by subst z; rw [e] at q; cases q; exact k m
      have e1 : Env0 P w K mg base A outer s (upd H a (.frz ob u)) := ⟨e0.frames, e0.mod, fun b o q => ⟨(e0.bs b o q).1, by rw [upd_ne (h0 b (e0.bs b o q).2)]; exact (e0.bs b o q).2⟩, e0.bsz, e0.funs, fun b hb => by rw [upd_ne (h0 b (e0.frf b hb))]; exact e0.frf b hb, e0.hok.frzU m e ho, e0.bare⟩
      have un : Un (frs outer) [] H (upd H a (.frz ob u)) s.heap s.heap := ⟨fun b o q _ _ _ => q, fun b o q _ _ _ => ⟨o.slots, q⟩, fun b o _ n _ => by rw [upd_ne (h0 b n)]; exact n, fun b o q _ => ⟨o, q⟩, fun b ys q => by rw [upd_ne (hne b _ q fun z => z)]; exact q,
        fun b o v q => by rw [upd_ne (hne b _ q fun z => z)]; exact q, fun b ps q => ⟨#[], by rw [upd_ne (hne b _ q fun z => z), q]; simp⟩⟩
      refine codeAny_mono (F.run A outer s _ args us vs Q E hr e1 hb r (h ob)) fun r s' hq => ?_
      cases r with
      | error e => exact hq
      | ok fl =>
        cases fl with
        | ret z =>
          obtain ⟨v, H2, h1, h2, h3, h4, h5, h6⟩ := hq
          exact ⟨v, H2, h1, h2, un.trans h3, h4, h5, h6⟩
        | next => exact hq.elim
        | brk => exact hq.elim
        | cont => exact hq.elim
end
def rCallXK (sp : Sq) (n m : Nat) (π : List Nat) (rk : RA) : RE := fun σ S Q E => rk σ S (fun es S1 => sp (gk n m π [] es) S1 Q E) E
/-- a def that may raise is called with named arguments alone -/
theorem ev_callXK0 {X : Cx} {W : WX} {x : Str} {p pos : Pos} {k : Nat} {fa : Addr} {fd : FuncData} {ps ks : List Str} {n m : Nat} {π : List Nat} {sp : Sq} {kws : List Keyword} {rk : RA} (F : FnOk X.prog X.w X.K X.mg X.base (L2N.CX X.prog X.w) k fa fd ps (dn X.K sp)) (hr : Room k X.A) (tk : L2N.Takes X W) (hm : X.mg x = some (.ref fa)) (hk : PySem.W.keepIn X.K (.ref fa) = true) (hb : KBn' X.K fd ps ks n m π) (hkw : EK X W kws rk)
    (hg : Gl X x := by rfl) (hall : (backToKw pos (keywordEach kws X.env)).all (·.1.isSome) = true := by rfl) (hks : (backToKw pos (keywordEach kws X.env)).filterMap (·.1) = ks := by rfl)
    (hdb : (x == ("__debug__" : Str)) = false := by decide) (hpl : ((backTo pos (starEach [] X.env)).any (·.1) || (backToKw pos (keywordEach kws X.env)).any (·.1.isNone)) = false := by rfl) :
    EV X W (.Call (.Name x p) [] kws pos) (rCallXK sp n m π rk) := by
  obtain ⟨Tk, pk, lk⟩ := hkw.ex
  refine ⟨fun σ H Q => Tk σ H fun zs H1 => dn X.K sp (gk n m π [] zs) H1 Q (wx W σ), ⟨fun pins s σ H Q I h => ?_⟩, fun σ σ' H S Q Q' E' rs rh h q xi => ?_⟩
  · refine wpAny_Call_Name_kw (ld_glob I hg hm ?_ hdb)
    refine PySem.W.callWith_KW0 (h₀ := X.base) I.ok.mod.kin hk hall (thn (pk.run pos pins s σ H _ I h) fun ws s1 ⟨zs, H1, I1, rz, hz⟩ => ⟨I1.kIn, ?_⟩) hpl
    rw [hks]
    have rl := hb.rel (.nil : Vals [] []) rz
    have ln : (gk n m π [] ws).length = ps.length := by rw [← rl.length]; exact F.len _ _ _ _ hz
    have go := F.run X.A X.stack s1 H1 ⟨[], ks.zip ws⟩ (gk n m π [] ws) (gk n m π [] zs) Q (wx W σ) hr I1.env0 (hb.to s1 [] ws I1.kIn ln) rl hz
    refine wpAny_call (codeAny_mono go fun r s2 hq => ?_)
    match r, hq with
    | .error e, hq => exact L2N.passAt tk σ pins H1 s1 e s2 I1 hq
    | .ok (.ret u), hq => exact I1.after hq
    | .ok .next, hq => exact False.elim hq
    | .ok .brk, hq => exact False.elim hq
    | .ok .cont, hq => exact False.elim hq
  · refine lk σ σ' H S _ _ E' rs rh h (fun es S1 zs H1 f1 rh1 dz h1 => ?_) xi
    exact ⟨_, S1, Q', E', DVs.gk .nil dz, rh1, h1, q.go f1, xi.go f1⟩
/-- at the start the tables of the defs of these names are tracked, nothing else -/
def S0 (L : List (Addr × Str)) : Hq := fun b => (L.lookup b).map HQ.tb
theorem lk_mem : ∀ {L : List (Addr × Str)} {b : Addr} {x : Str}, L.lookup b = some x → (b, x) ∈ L
  | [], _, _, h => by cases h
  | (c, y) :: L, b, x, h => by
    rw [List.lookup_cons] at h
    by_cases e : b = c
    · subst e
      rw [show (b == b) = true from beq_self_eq_true b] at h
      cases h; exact List.mem_cons_self
    · rw [show (b == c) = false from beq_eq_false_iff_ne.mpr e] at h
      exact List.mem_cons_of_mem _ (lk_mem h)
theorem s0_rh {K : PySem.W.Frag} {H : Hp} {L : List (Addr × Str)} (hT : ∀ p ∈ L, H p.1 = some (.tbl #[])) (hn : ∀ p ∈ L, ∃ c, PySem.W.tabIn K p.2 = some (c, p.1)) : RH K (S0 L) H := fun b o e => by
  unfold S0 at e
  cases hl : L.lookup b with
  | none => rw [hl] at e; cases e
  | some x =>
    rw [hl] at e; cases e
    have hm : (b, x) ∈ L := lk_mem hl
    refine ⟨hn _ hm, #[], hT _ hm, True.intro, fun pos cv hc => ?_⟩
    simp [codeAmong] at hc
theorem law_inT {K : PySem.W.Frag} {H : Hp} {Q : VK} {E : XK} {a : Addr} {ns : List Int} {sp : Sq} {L : List (Addr × Str)} (ok : ∀ (ns : List Int) (Q' : Qv), ns.length ≤ 63 → (∀ S', Q' (.bl true) S') → sp [.kl (ns.map D.int)] (S0 L) Q' NoX) (hl : ns.length ≤ 63) (hT : ∀ p ∈ L, H p.1 = some (.tbl #[])) (hn : ∀ p ∈ L, ∃ c, PySem.W.tabIn K p.2 = some (c, p.1))
    (hS : SqL K H a (ns.map V.int)) (q : ∀ H', Q (.bl true) H') : dn K sp [.ref a] H Q E ∨ ∃ b u, ([V.ref a] : List V).length = 1 ∧ Mut (some u) ∧ H b = some u ∧ ∀ o, dn K sp [.ref a] (upd H b (.frz o u)) Q E := by
  have fin : ∀ {H : Hp}, (∀ p ∈ L, H p.1 = some (.tbl #[])) → SqF K H a (ns.map V.int) → dn K sp [.ref a] H Q E := fun {H} hT hF =>
    ⟨[.kl (ns.map D.int)], S0 L, fun d _ => d = .bl true, NoX, .cons (.kl hF DVs.ofInts) .nil, s0_rh hT hn, ok ns _ hl (fun _ => rfl), fun d S' v H' f r dv h => by subst h; cases dv; exact q H', XI.no⟩
  rcases hS with (h | h) | h
  · refine .inr ⟨a, .lst (ns.map V.int), rfl, trivial, h, fun o => fin (fun p hp => ?_) (.inl ⟨o, upd_same⟩)⟩
    rw [upd_ne (fun z => by have := hT p hp; rw [z, h] at this; cases this)]
    exact hT p hp
  · exact .inl (fin hT (.inl h))
  · exact .inl (fin hT (.inr h))
/-- the end, with the tables of the defs that make lambdas -/
theorem walk_tabs {l : PySem.W.OpenLaw} {n k : Nat} {q : Program} {loose : List Str} {XP : (Str → Option Value) → Heap → Prop} {YP : World → Heap → Prop} {d : DefRec} {K : Params → PySem.W.Frag} {CX : World → CXT} {x : Str}
    (hn : l.most = some n) (hn2 : n ≤ sizeLine) (hdf : d.params.defaults = []) (hr : Room k callerA) (hY : ∀ (w : World) (h : Heap), YP w h → (K w.params).In h)
    (F : ∀ (w : World) (mg : Str → Option Value) (fa : Addr) (h : Heap), YP w h → (K w.params).In h → h.Ns mainGlobals mg → mg d.name = some (.ref fa) →
      (∀ (y : Str) (c P : Addr), ((recsOf q).any fun e => e.name == y) = true → PySem.W.tabIn (K w.params) y = some (c, P) → PySem.W.CodeHd h c P ∧ h.get? P = some { cls := .none, data := .fields #[] }) → LawAtS l w (K w.params) (CX w) k n x mg fa h)
    (hCX : ∀ (w : World) (H : Hp) (s : Shared) (e : Value) (s' : Shared), CX w [] H s (fun _ _ _ => False) e s' → False) :
    PySem.W.WalkO q loose XP YP l.row.toRowW d [] (fun f vs => PySem.call f vs) := by
  refine Att.attach_callB hn hdf fun w s₀ s₁ mg mb fa o pm cd doc a vs ns G Y ho hd hcd hmg hobj hints hlen hbits hg => ?_
  have KX := hY w _ Y
  obtain ⟨fd, cs, sp, hT, nT, C, hb, hsp, hF⟩ := F w mg fa _ Y KX G.T.g hmg fun y c P hy ht => by
    cases hf : (recsOf q).find? (fun e => e.name == y) with
    | none =>
      rw [List.find?_eq_none] at hf
      obtain ⟨e, he, h2⟩ := List.any_eq_true.mp hy
      exact absurd h2 (hf e he)
    | some e => exact PySem.W.tab_of G.T KX hf ht
  exact law_callTs KX G.T.g G.T.b G.T.builtins G.T.nolimit hg hT nT C G.T.bmain hobj hints (Nat.le_trans hlen hn2) hr hF hb (fun H hH hS => hsp H a ns hlen hbits hH hS) fun H e s' => hCX w H s₁ e s'
end Y
namespace Y
open PySem PySem.Spec PyProof.Rows L2
theorem leave_ex {S S1 : Hq} {d : Addr} {o : HQ} (hd : S d = none) (ex : Ex (enter S d o) S1) : Ex S (leaveL S S1 d) := fun a u h => by
  have ne : a ≠ d := fun z => by rw [z, hd] at h; cases h
  unfold leaveL
  rw [if_neg ne, h]
  cases u <;> first | rfl | exact ex _ _ (enter_get hd h (fun q z => by cases z))
end Y
/-! ### xs.extend(l), l a list that is let be -/
namespace Y
open PySem PySem.Spec PyProof.Rows L2
section
open PySem.AutoSeq1
theorem ext_lst {l b : Addr} {xs ys : Array Value} {n m : Nat} {sl : Array (Option Value)} (h0 : ¬(!xs.isEmpty && Builtin.List.listTooLong (xs.size + ys.size)) = true) (h1 : xs.size ≤ sizeLine) (h2 : (xs ++ ys).size ≤ sizeLine + 1) :
    Meets (Builtin.«list.extend» ⟨[.ref l, .ref b], []⟩) (fun _ R s => s.heap.get? l = some { cls := .type "list", dict := none, data := .seq xs n, slots := #[] } ∧ s.heap.get? b = some ⟨.type "list", none, .seq ys m, sl⟩ ∧ R (.ok (.ret .none)) { s with heap := s.heap.update l (Obj.mapSeq (· ++ ys)), toks := s.toks }) :=
  .of_wp fun prog w A R s ⟨hl, hb, h⟩ => by
    obtain ⟨hp, g, d, tk, os⟩ := s
    have f1 := idx_int
    have f2 := AutoSeq1.sub_tuple_tuple; have f3 := AutoSeq1.sub_list_list; have f4 := AutoSeq1.sub_tuple_list
    have f5 := AutoSeq1.sub_list_tuple
    wp_walk using (wpAny_updateSeq hl rfl (hz := h1) (_hz' := h2)), wpAny_loadPart' hb, wpAny_loadPart' hl
    exact ⟨_, rfl, h⟩
end
def rExtF (K : PySem.W.Frag) : V → List V → Hp → VK → Prop := fun x vs H Q => ∃ (l b : Addr) (xs zs : List V), x = .ref l ∧ vs = [.ref b] ∧ H l = some (.lst xs) ∧ SqF K H b zs ∧ xs.length + zs.length ≤ sizeLine ∧ Q .non (upd H l (.lst (xs ++ zs)))
section
variable {X : Cx} {K : PySem.W.Frag}
theorem mt_extF : MtM X "list.extend" (rExtF X.K) := by
  intro pins s σ H x vs v us Q I rx rv h
  obtain ⟨l, b, xs, zs, rfl, rfl, hH, hB, hz, q⟩ := h
  cases rx
  obtain ⟨u, rfl, ru⟩ := rv.one
  cases ru
  obtain ⟨z, its, n, r, hl, e⟩ := I.lstM hH
  obtain ⟨its2, r2, ⟨⟨oc, od, dt, sl⟩, m, g, c, c2, dq⟩, _⟩ := I.list hB.sql
  simp only at c c2 dq
  subst c c2 dq
  have n1 := r.length; have n2 := r2.length
  have hsz : its.toArray.size + its2.toArray.size ≤ sizeLine := by rw [List.size_toArray, List.size_toArray]; omega
  have long : ¬(!its.toArray.isEmpty && Builtin.List.listTooLong (its.toArray.size + its2.toArray.size)) = true := by rw [notLongL hsz, Bool.and_false]; exact Bool.false_ne_true
  refine call_meets F.slot_list_extend ⟨_, e, rfl⟩ F.entry_list_extend (F.args_list_extend_2 _ _) (ext_lst (n := n) long (by omega) (by rw [Array.size_append]; omega)) ⟨e, g, .non, _, I.lset (its' := its ++ its2) hH e (by simp) (r.append r2) ?_, rfl, q⟩
  rw [List.length_append]; omega
theorem mt_ext3 : MtM X "list.extend" (fun x vs H Q => (rExtend x vs H Q ∨ rExtT X.K x vs H Q) ∨ rExtF X.K x vs H Q) := by
  intro pins s σ H x vs v us Q I rx rv h
  rcases h with h | h
  · exact mt_ext2 _ _ _ _ _ _ _ _ _ I rx rv h
  · exact mt_extF _ _ _ _ _ _ _ _ _ I rx rv h
def extD3 (x : D) (ds : List D) (S : Hq) (Q : Qv) : Prop := match x, ds with
  | .ref a, [.kl ys] => ∃ xs, S a = some (.lst xs) ∧ xs.length + ys.length ≤ 1000000 ∧ Q .non (up S a (.lst (xs ++ ys)))
  | x, ds => extD2 x ds S Q
theorem lm_ext3 : LiftM K extD3 (fun x vs H Q => (rExtend x vs H Q ∨ rExtT K x vs H Q) ∨ rExtF K x vs H Q) := by
  intro x ds S H Q' Q v vs rh dx dv h q
  unfold extD3 at h
  split at h
  · rename_i a ys
    match v, vs, dx, dv with
    | _, _, .ref _, .cons (.kl sq dy) .nil =>
      obtain ⟨xs, e, hz, h⟩ := h
      obtain ⟨us, g, r⟩ := rh.lst e
      exact .inr ⟨_, _, us, _, rfl, rfl, g, sq, by rw [← r.length, ← dy.length]; exact big_le hz, q.putL rh e (r.app dy) .non h⟩
  · exact .inl (lm_ext2 _ _ _ _ _ _ _ _ rh dx dv h q)
theorem q_ext3 {S : Hq} {Q : Qv} {p q : Addr} : extD3 (.ref p) [.ref q] S Q = extD (.ref p) [.ref q] S Q := rfl
theorem q_ext3T {S : Hq} {Q : Qv} {p : Addr} {ys : List D} : extD3 (.ref p) [.tup ys] S Q = (∃ xs, S p = some (.lst xs) ∧ xs.length + ys.length ≤ 1000000 ∧ Q .non (up S p (.lst (xs ++ ys)))) := rfl
theorem q_ext3K {S : Hq} {Q : Qv} {p : Addr} {ys : List D} : extD3 (.ref p) [.kl ys] S Q = (∃ xs, S p = some (.lst xs) ∧ xs.length + ys.length ≤ 1000000 ∧ Q .non (up S p (.lst (xs ++ ys)))) := rfl
end
end Y
namespace K01
open PySem PySem.Spec PyProof.Rows L2 Y

/-- a row that one is drawn of -/
def Itm (S : Hq) (b : Addr) (x : D) (xs : List D) : Prop := x = .kl xs ∨ x = .tup xs ∨ ∃ a, x = .ref a ∧ a ≠ b ∧ S a = some (.lst xs)
def nm (ns : List Int) : D := .tup (ns.map D.int)
/-- numbers, with a bound of the length -/
def Num (k : Nat) (ns : List Int) : Prop := ∃ h m l, ns = h :: (m ++ [l]) ∧ 0 ≤ h ∧ 0 ≤ l ∧ l < 32 ∧ ns.length ≤ k
def srt (line : List (List Int)) : List (List Int) := line.foldl (fun acc one => acc.take (acc.filter fun two => !HT.lexLt one two).length ++ [one] ++ acc.drop (acc.filter fun two => !HT.lexLt one two).length) []
def btw (ns : List Int) : Option (List Int) → Int → List Int
  | none, name => [ns.getD 0 0 + 1, name]
  | some hs, name => if hs.take ns.length = ns then ns ++ [hs.getD ns.length 0 - 1, name] else ns ++ [0, name]
def isI : D → Bool
  | .int _ => true
  | _ => false
def toI : D → Int
  | .int i => i
  | _ => 0
/-- the fault of a value as a number -/
def nflT (xs : List D) : Option Int := if xs.length < 2 then some (-1) else match xs.findIdx? (fun x => !isI x) with
    | some i => some (i : Int)
    | none => if toI (xs.getD 0 .non) < 0 then some 0 else if 0 ≤ toI (xs.getD (xs.length - 1) .non) ∧ toI (xs.getD (xs.length - 1) .non) ≤ 31 then none else some ((xs.length : Int) - 1)
def nfl : D → Option Int
  | .tup xs => nflT xs
  | _ => some (-1)
def oI : Option Int → D
  | none => .non
  | some i => .int i
def TbC (S : Hq) : Prop := ∃ P, S P = some (.tb "_law_checked")

def sp_law_box : Sq := fun ds S Q _ => ∃ (ns : List Int) (k : Int), ds = [.kl (ns.map D.int), .int k] ∧ ns.length ≤ 63 ∧ 0 ≤ k ∧ k < 1000 ∧ ∀ p g s, S p = none → Q (.ref p) (up S p (.lst [.int g, .int s]))
theorem ln_law_box : ∀ ds S Q E, sp_law_box ds S Q E → ds.length = 2 := by rintro _ _ _ _ ⟨b, n, rfl, _⟩; rfl
theorem nx_law_box : ∀ ds S Q E, sp_law_box ds S Q E → sp_law_box ds S Q NoX := fun _ _ _ _ h => h

def rd_law_box : RSt :=
 (rSeq (rSet (rBin (addM nwF) (rBin mulM (rC (.int 17033)) (rVar 1)) (rC (.int 9203))) (gNm 2))
 (rSeq (rIfS (rTst (rBin ltD (rVar 1) (rFn lenD (rCons (rVar 0) rNil))))
 (rSet (rFn absD (rCons (rFn intF (rCons (rBin ixD (rVar 0) (rVar 1)) rNil)) rNil)) (gNm 2))
 (rIfS (rTst (rBin gtD2 (rFn lenD (rCons (rVar 0) rNil)) (rC (.int 0))))
 (rSet (rBin (addM nwF) (rVar 2) (rBin mulM (rBin modD (rFn intF (rCons (rFn absD (rCons (rFn intF (rCons (rBin ixD (rVar 0) (rBin modD (rFn intF (rCons (rVar 1) rNil)) (rFn lenD (rCons (rVar 0) rNil)))) rNil)) rNil)) rNil)) (rC (.int 2147483563))) (rC (.int 88001)))) (gNm 2))
 rNext))
 (rSeq (rSet (rIf (rTst (rBin geD (rVar 2) (rBin powD (rC (.int 10)) (rC (.int 18))))) (rVar 2) (rC (.int 0))) (gNm 3))
 (rRet (rLst (rCons (rVar 3) (rCons (rBin (addM nwF) (rBin modD (rFn intF (rCons (rBin (addM nwF) (rBin mulM (rBin modD (rFn intF (rCons (rVar 2) rNil)) (rC (.int 2147483563))) (rC (.int 54250003))) (rBin mulM (rC (.int 9203)) (rVar 1))) rNil)) (rC (.int 2147483563))) (rC (.int 1))) rNil)))))))

def sp_law_take : Sq := fun ds S Q _ => ∃ b n, ds = [.ref b, .int n] ∧ Bx S b ∧ 0 < n ∧ n < 2 ^ 63 ∧ ∀ r S', 0 ≤ r → r < n → Nx b S S' → Q (.int r) S'
theorem ln_law_take : ∀ ds S Q E, sp_law_take ds S Q E → ds.length = 2 := by rintro _ _ _ _ ⟨b, n, rfl, _⟩; rfl
theorem nx_law_take : ∀ ds S Q E, sp_law_take ds S Q E → sp_law_take ds S Q NoX := fun _ _ _ _ h => h
theorem take_of {b : Addr} {n : Int} {S : Hq} {Q : Qv} (hb : Bx S b) (h0 : 0 < n) (h1 : n < 2 ^ 63) (q : ∀ r S', 0 ≤ r → r < n → Nx b S S' → Q (.int r) S') : sp_law_take [.ref b, .int n] S Q NoX := ⟨b, n, rfl, hb, h0, h1, q⟩

def rd_law_take : RSt :=
 (rSeq (rIfS (rTst (rBin gtD2 (rBin ixD (rVar 0) (rC (.int 0))) (rC (.int 0))))
 (rSeq (rSet (rBin modD (rFn intF (rCons (rBin ixD (rVar 0) (rC (.int 0))) rNil)) (rVar 1)) (gNm 3))
 (rSeq (rSet (rBin fdivD (rBin ixD (rVar 0) (rC (.int 0))) (rVar 1)) (gSb (rVar 0) (rC (.int 0))))
 (rRet (rVar 3))))
 rNext)
 (rSeq (rSet (rBin modD (rFn intF (rCons (rBin (addM nwF) (rBin mulM (rBin ixD (rVar 0) (rC (.int 1))) (rC (.int 39373))) (rC (.int 101))) rNil)) (rC (.int 2147483647))) (gNm 2))
 (rSeq (rSet (rBin (addM nwF) (rBin modD (rFn intF (rCons (rBin (addM nwF) (rBin mulM (rVar 2) (rC (.int 40692))) (rC (.int 17))) rNil)) (rC (.int 2147483563))) (rC (.int 1))) (gSb (rVar 0) (rC (.int 1))))
 (rRet (rBin modD (rFn intF (rCons (rBin fdivD (rBin (addM nwF) (rBin mulM (rVar 2) (rC (.int 2147483629))) (rBin ixD (rVar 0) (rC (.int 1)))) (rC (.int 8233))) rNil)) (rVar 1))))))

def sp_law_pick : Sq := fun ds S Q _ => ∃ b x xs, ds = [.ref b, x] ∧ Bx S b ∧ Itm S b x xs ∧ 0 < xs.length ∧ xs.length < 1000000 ∧ ∀ d S', d ∈ xs → Nx b S S' → Q d S'
theorem ln_law_pick : ∀ ds S Q E, sp_law_pick ds S Q E → ds.length = 2 := by rintro _ _ _ _ ⟨b, a, xs, rfl, _⟩; rfl
theorem nx_law_pick : ∀ ds S Q E, sp_law_pick ds S Q E → sp_law_pick ds S Q NoX := fun _ _ _ _ h => h
theorem pick_of {b : Addr} {xs : List D} {S : Hq} {Q : Qv} (hb : Bx S b) (h0 : 0 < xs.length) (h1 : xs.length < 1000000) (q : ∀ d S', d ∈ xs → Nx b S S' → Q d S') : sp_law_pick [.ref b, .kl xs] S Q NoX := ⟨b, _, xs, rfl, hb, .inl rfl, h0, h1, q⟩
theorem pickR_of {b a : Addr} {xs : List D} {S : Hq} {Q : Qv} (hb : Bx S b) (ne : a ≠ b) (ha : S a = some (.lst xs)) (h0 : 0 < xs.length) (h1 : xs.length < 1000000) (q : ∀ d S', d ∈ xs → Nx b S S' → Q d S') : sp_law_pick [.ref b, .ref a] S Q NoX := ⟨b, _, xs, rfl, hb, .inr (.inr ⟨a, rfl, ne, ha⟩), h0, h1, q⟩

def rd_law_pick : RSt :=
 (rRet (rBin ixD (rVar 1) (rCall sp_law_take (rCons (rVar 0) (rCons (rFn lenD (rCons (rVar 1) rNil)) rNil)))))

def sp_law_entry : Sq := fun ds S Q _ => ∃ b, ds = [.ref b] ∧ Bx S b ∧ ∀ i S', Nx b S S' → Q (.int i) S'
theorem ln_law_entry : ∀ ds S Q E, sp_law_entry ds S Q E → ds.length = 1 := by rintro _ _ _ _ ⟨b, rfl, _⟩; rfl
theorem nx_law_entry : ∀ ds S Q E, sp_law_entry ds S Q E → sp_law_entry ds S Q NoX := fun _ _ _ _ h => h
theorem entry_of {b : Addr} {S : Hq} {Q : Qv} (hb : Bx S b) (q : ∀ i S', Nx b S S' → Q (.int i) S') : sp_law_entry [.ref b] S Q NoX := ⟨b, rfl, hb, q⟩

def rd_law_entry : RSt :=
 (rSeq (rSet (rCall sp_law_take (rCons (rVar 0) (rCons (rC (.int 6)) rNil))) (gNm 1))
 (rSeq (rIfS (rTst (rBin ltD (rVar 1) (rC (.int 3))))
 (rRet (rBin subD (rCall sp_law_take (rCons (rVar 0) (rCons (rC (.int 5)) rNil))) (rC (.int 2))))
 rNext)
 (rSeq (rIfS (rTst (rBin ltD (rVar 1) (rC (.int 5))))
 (rRet (rBin subD (rCall sp_law_take (rCons (rVar 0) (rCons (rBin (addM nwF) (rBin mulM (rC (.int 2)) (rBin powD (rC (.int 10)) (rC (.int 12)))) (rC (.int 1))) rNil))) (rBin powD (rC (.int 10)) (rC (.int 12)))))
 rNext)
 (rRet (rCall sp_law_pick (rCons (rVar 0) (rCons (rLstF (rCons (rBin powD (rC (.int 10)) (rC (.int 12))) (rCons (rBin subD (rC (.int 0)) (rBin powD (rC (.int 10)) (rC (.int 12)))) (rCons (rBin subD (rBin powD (rC (.int 10)) (rC (.int 12))) (rC (.int 1))) (rCons (rBin subD (rC (.int 0)) (rC (.int 1))) (rCons (rC (.int 31)) (rCons (rC (.int 32)) rNil))))))) rNil)))))))

def sp_law_figure : Sq := fun ds S Q _ => ∃ b, ds = [.ref b] ∧ Bx S b ∧ ∀ ns S', Num 15 ns → Nx b S S' → Q (nm ns) S'
theorem ln_law_figure : ∀ ds S Q E, sp_law_figure ds S Q E → ds.length = 1 := by rintro _ _ _ _ ⟨b, rfl, _⟩; rfl
theorem nx_law_figure : ∀ ds S Q E, sp_law_figure ds S Q E → sp_law_figure ds S Q NoX := fun _ _ _ _ h => h
theorem figure_of {b : Addr} {S : Hq} {Q : Qv} (hb : Bx S b) (q : ∀ ns S', Num 15 ns → Nx b S S' → Q (nm ns) S') : sp_law_figure [.ref b] S Q NoX := ⟨b, rfl, hb, q⟩

def rd_law_figure : RSt :=
 (rSeq (rSet (rCall sp_law_pick (rCons (rVar 0) (rCons (rLstF (rCons (rC (.int 1)) (rCons (rC (.int 1)) (rCons (rC (.int 1)) (rCons (rC (.int 2)) (rCons (rC (.int 2)) (rCons (rC (.int 3)) (rCons (rC (.int 4)) (rCons (rC (.int 7)) (rCons (rC (.int 9)) (rCons (rC (.int 11)) rNil))))))))))) rNil))) (gNm 1))
 (rSeq (rSet (rLc (iRg1 (rCons (rVar 1) rNil)) (gNm 3) rYes (rCall sp_law_entry (rCons (rVar 0) rNil)) [3]) (gNm 2))
 (rSeq (rSet (rFn absD (rCons (rBin ixD (rVar 2) (rC (.int 0))) rNil)) (gSb (rVar 2) (rC (.int 0))))
 (rRet (rFn tupF3 (rCons (rBin (addM nwF) (rVar 2) (rLstF (rCons (rCall sp_law_pick (rCons (rVar 0) (rCons (rLstF (rCons (rC (.int 0)) (rCons (rC (.int 31)) (rCons (rCall sp_law_take (rCons (rVar 0) (rCons (rC (.int 32)) rNil))) (rCons (rCall sp_law_take (rCons (rVar 0) (rCons (rC (.int 32)) rNil))) rNil))))) rNil))) rNil))) rNil))))))

def Ps : Nat → D → Prop
  | 0, _ => False
  | n + 1, d => match d with
    | .tup xs => xs.length ≤ 100000 ∧ ∀ x ∈ xs, Ps n x
    | .kl xs => xs.length ≤ 100000 ∧ ∀ x ∈ xs, Ps n x
    | .non => True | .bl _ => True | .int _ => True | .str _ => True
    | _ => False
def sp_law_same (n : Nat) : Sq := fun ds S Q _ => ∃ d, ds = [d, d] ∧ Ps n d ∧ Q (.bl true) S
theorem ln_law_same : ∀ n ds S Q E, sp_law_same n ds S Q E → ds.length = 2 := by rintro _ _ _ _ _ ⟨b, rfl, _⟩; rfl
theorem nx_law_same : ∀ n ds S Q E, sp_law_same n ds S Q E → sp_law_same n ds S Q NoX := fun _ _ _ _ _ h => h
theorem zr_law_same : ∀ ds S Q E, sp_law_same 0 ds S Q E → False := by rintro _ _ _ _ ⟨b, rfl, h, _⟩; exact h

def rd_law_same (self : Sq) : RSt :=
 (rSeq (rIfS (rOr (rTst (rFn isi2D (rCons (rVar 1) (rCons (rC (.ty "tuple")) rNil)))) (rTst (rFn isi2D (rCons (rVar 1) (rCons (rC (.ty "list")) rNil)))))
 (rSeq (rSet (rIf (rTst (rFn isi2D (rCons (rVar 1) (rCons (rC (.ty "tuple")) rNil)))) (rFn isi2D (rCons (rVar 0) (rCons (rC (.ty "tuple")) rNil))) (rFn isi2D (rCons (rVar 0) (rCons (rC (.ty "list")) rNil)))) (gNm 2))
 (rSeq (rIfS (rOr (rNot (rTru (rVar 2))) (rTst (rBin (eqD3 not) (rFn lenD (rCons (rVar 0) rNil)) (rFn lenD (rCons (rVar 1) rNil)))))
 (rRet (rC (.bl false)))
 rNext)
 (rSeq (rFor (iZp3 (rCons (rVar 0) (rCons (rVar 1) rNil))) (gTp 2 (gConss (gNm 3) (gConss (gNm 4) gNils)))
 (rIfS (rNot (rTst (rCall self (rCons (rVar 3) (rCons (rVar 4) rNil)))))
 (rRet (rC (.bl false)))
 rNext))
 (rRet (rC (.bl true))))))
 rNext)
 (rSeq (rIfS (rTst (rBin isD (rVar 1) (rC .non)))
 (rRet (rBin isD (rVar 0) (rC .non)))
 rNext)
 (rSeq (rIfS (rOr (rTst (rBin isD (rVar 1) (rC (.bl true)))) (rTst (rBin isD (rVar 1) (rC (.bl false)))))
 (rRet (rAndV (rFn isi2D (rCons (rVar 0) (rCons (rC (.ty "bool")) rNil))) (rBin (eqD3 id) (rVar 0) (rVar 1))))
 rNext)
 (rSeq (rIfS (rTst (rFn isi2D (rCons (rVar 1) (rCons (rC (.ty "int")) rNil))))
 (rRet (rAndV (rFn isi2D (rCons (rVar 0) (rCons (rC (.ty "int")) rNil))) (rAndV (rNotV (rFn isi2D (rCons (rVar 0) (rCons (rC (.ty "bool")) rNil)))) (rBin (eqD3 id) (rVar 0) (rVar 1)))))
 rNext)
 (rRet (rAndV (rFn isi2D (rCons (rVar 0) (rCons (rC (.ty "str")) rNil))) (rAndV (rFn isi2D (rCons (rVar 1) (rCons (rC (.ty "str")) rNil))) (rBin (eqD3 id) (rVar 0) (rVar 1)))))))))

def rd_law_heard (f d : Addr) (o : HQ) (th : Th) : RSt :=
 (rTryAs (mL [("BadNumber", true)]) 1 (rRet (rTup (rCons (rC (.str (Str.ofString "told"))) (rCons (rAsk f d o th) rNil)))) (fun cn a dd => rGd (cn = "BadNumber") (rSeq (rSet (Y.rIsE [("BadNumber", "BadDeed", true, false), ("BadNumber", "BadOctets", true, false), ("BadNumber", "BadPast", true, false), ("BadNumber", "BadRow", true, false), ("BadNumber", "BadRule", true, false), ("BadNumber", "BadStretch", true, false), ("BadNumber", "BadText", true, false), ("BadNumber", "OwnError", true, true), ("BadNumber", "Refused", true, false), ("BadNumber", "ValueError", false, true)] cn a dd (rCons (rVar 1) (rCons (rTup (rCons (rC (.cl "BadDeed")) (rCons (rC (.cl "BadOctets")) (rCons (rC (.cl "BadPast")) (rCons (rC (.cl "BadRow")) (rCons (rC (.cl "BadRule")) (rCons (rC (.cl "BadStretch")) (rCons (rC (.cl "BadText")) (rCons (rC (.cl "Refused")) rNil))))))))) rNil))) (gNm 2))
 (rRet (rTup (rCons (rC (.str (Str.ofString "none"))) (rCons (rBy "BadNumber" "at" cn a dd (rVar 1)) (rCons (Y.rIsE [("BadNumber", "BadDeed", true, false), ("BadNumber", "BadOctets", true, false), ("BadNumber", "BadPast", true, false), ("BadNumber", "BadRow", true, false), ("BadNumber", "BadRule", true, false), ("BadNumber", "BadStretch", true, false), ("BadNumber", "BadText", true, false), ("BadNumber", "OwnError", true, true), ("BadNumber", "Refused", true, false), ("BadNumber", "ValueError", false, true)] cn a dd (rCons (rVar 1) (rCons (rC (.cl "OwnError")) rNil))) (rCons (Y.rIsE [("BadNumber", "BadDeed", true, false), ("BadNumber", "BadOctets", true, false), ("BadNumber", "BadPast", true, false), ("BadNumber", "BadRow", true, false), ("BadNumber", "BadRule", true, false), ("BadNumber", "BadStretch", true, false), ("BadNumber", "BadText", true, false), ("BadNumber", "OwnError", true, true), ("BadNumber", "Refused", true, false), ("BadNumber", "ValueError", false, true)] cn a dd (rCons (rVar 1) (rCons (rC (.ty "ValueError")) rNil))) (rCons (rVar 2) rNil))))))))))

def sp_law_heard (f d : Addr) (o : HQ) (th : Th) (S : Hq) (Q : Qv) : Prop := rd_law_heard f d o th { nx := fun _ S => Q .non S, rt := Q } (start' 3 [.ref f]) S

def sp_is_whole : Sq := fun ds S Q _ => ∃ n d, ds = [d] ∧ Av n d ∧ Q (.bl (isI d)) S
theorem ln_is_whole : ∀ ds S Q E, sp_is_whole ds S Q E → ds.length = 1 := by rintro _ _ _ _ ⟨b, _, rfl, _⟩; rfl
theorem nx_is_whole : ∀ ds S Q E, sp_is_whole ds S Q E → sp_is_whole ds S Q NoX := fun _ _ _ _ h => h

def rd_is_whole : RSt :=
 (rRet (rAndV (rFn isi2D (rCons (rVar 0) (rCons (rC (.ty "int")) rNil))) (rNotV (rFn isi2D (rCons (rVar 0) (rCons (rC (.ty "bool")) rNil))))))

def sp_is_name : Sq := fun ds S Q _ => ∃ i, ds = [.int i] ∧ Q (.bl (decide (0 ≤ i ∧ i ≤ 31))) S
theorem ln_is_name : ∀ ds S Q E, sp_is_name ds S Q E → ds.length = 1 := by rintro _ _ _ _ ⟨b, rfl, _⟩; rfl
theorem nx_is_name : ∀ ds S Q E, sp_is_name ds S Q E → sp_is_name ds S Q NoX := fun _ _ _ _ h => h

def rd_is_name : RSt :=
 (rRet (rAndV (rCall sp_is_whole (rCons (rVar 0) rNil)) (rChn leD ltD (rC (.int 0)) (rVar 0) (rC (.int 32)))))

def sp_number_fault : Sq := fun ds S Q _ => ∃ n d, ds = [d] ∧ Av n d ∧ Q (oI (nfl d)) S
theorem ln_number_fault : ∀ ds S Q E, sp_number_fault ds S Q E → ds.length = 1 := by rintro _ _ _ _ ⟨b, _, rfl, _⟩; rfl
theorem nx_number_fault : ∀ ds S Q E, sp_number_fault ds S Q E → sp_number_fault ds S Q NoX := fun _ _ _ _ h => h

def rd_number_fault : RSt :=
 (rSeq (rIfS (rOr (rNot (rTst (rFn isi2D (rCons (rVar 0) (rCons (rC (.ty "tuple")) rNil))))) (rTst (rBin ltD (rFn lenD (rCons (rVar 0) rNil)) (rC (.int 2)))))
 (rRet (rUn negD (rC (.int 1))))
 rNext)
 (rSeq (rFor (iEnX (rCons (rVar 0) rNil)) (gTp 2 (gConss (gNm 1) (gConss (gNm 2) gNils)))
 (rIfS (rNot (rTst (rCall sp_is_whole (rCons (rVar 2) rNil))))
 (rRet (rVar 1))
 rNext))
 (rSeq (rIfS (rTst (rBin ltD (rBin ixD (rVar 0) (rC (.int 0))) (rC (.int 0))))
 (rRet (rC (.int 0)))
 rNext)
 (rSeq (rIfS (rNot (rTst (rCall sp_is_name (rCons (rBin ixD (rVar 0) (rUn negD (rC (.int 1)))) rNil))))
 (rRet (rBin subD (rFn lenD (rCons (rVar 0) rNil)) (rC (.int 1))))
 rNext)
 (rRet (rC .non))))))

def sp_check_number : Sq := fun ds S Q E => ∃ n d, ds = [d] ∧ Av n d ∧ (∀ i, nfl d = some i → E "BadNumber" [("at", .int i)] S) ∧ (nfl d = none → Q d S)
theorem ln_check_number : ∀ ds S Q E, sp_check_number ds S Q E → ds.length = 1 := by rintro _ _ _ _ ⟨n, d, rfl, _⟩; rfl

def rd_check_number : RSt :=
 (rSeq (rSet (rCall sp_number_fault (rCons (rVar 0) rNil)) (gNm 1))
 (rSeq (rIfS (rTst (rBin isntD (rVar 1) (rC .non)))
 (rRaise "BadNumber" "at" (rCons (rVar 1) rNil))
 rNext)
 (rRet (rVar 0))))

def sp_law_spoilt : Sq := fun ds S Q _ => ∃ b ns, ds = [.ref b, nm ns] ∧ Num 15 ns ∧ Bx S b ∧ ∀ d S', Av 5 d → Nx b S S' → Q d S'
theorem ln_law_spoilt : ∀ ds S Q E, sp_law_spoilt ds S Q E → ds.length = 2 := by rintro _ _ _ _ ⟨b, n, rfl, _⟩; rfl
theorem nx_law_spoilt : ∀ ds S Q E, sp_law_spoilt ds S Q E → sp_law_spoilt ds S Q NoX := fun _ _ _ _ h => h

def rd_law_spoilt : RSt :=
 (rSeq (rSet (rCall sp_law_pick (rCons (rVar 0) (rCons (rLstF (rCons (rC .non) (rCons (rC (.int 7)) (rCons (rC (.str (Str.ofString "5"))) (rCons (rC (.bl true)) (rCons (rLstF rNil) (rCons (rTup rNil) (rCons (rFn (lstM nwF) (rCons (rVar 1) rNil)) (rCons (rSlM nwF (rVar 1) rNoP (rPrt (rC (.int 1)))) (rCons (rTup (rCons (rVar 1) rNil)) (rCons (rC (.str (Str.ofString "number"))) (rCons (rTup (rCons (rTup (rCons (rC (.int 5)) (rCons (rC (.int 2)) rNil))) rNil)) (rCons (rLstF (rCons (rVar 1) rNil)) rNil))))))))))))) rNil))) (gNm 2))
 (rSeq (rIfS (rTst (rBin (eqD3 id) (rCall sp_law_take (rCons (rVar 0) (rCons (rC (.int 4)) rNil))) (rC (.int 0))))
 (rRet (rVar 2))
 rNext)
 (rSeq (rSet (rFn (lstM nwT) (rCons (rVar 1) rNil)) (gNm 3))
 (rSeq (rFor (iRg1 (rCons (rBin (addM nwF) (rC (.int 1)) (rCall sp_law_take (rCons (rVar 0) (rCons (rC (.int 2)) rNil)))) rNil)) (gNm 4)
 (rSeq (rSet (rCall sp_law_take (rCons (rVar 0) (rCons (rC (.int 4)) rNil))) (gNm 5))
 (rIfS (rTst (rBin (eqD3 id) (rVar 5) (rC (.int 0))))
 (rSet (rCall sp_law_pick (rCons (rVar 0) (rCons (rLstF (rCons (rC .non) (rCons (rC (.bl true)) (rCons (rC (.bl false)) (rCons (rC (.str (Str.ofString "1"))) (rCons (rTup (rCons (rC (.int 1)) rNil)) (rCons (rLstF (rCons (rC (.int 2)) rNil)) (rCons (rC (.str (Str.ofString ""))) (rCons (rTup rNil) (rCons (rC (.int 0)) rNil)))))))))) rNil))) (gSb (rVar 3) (rCall sp_law_take (rCons (rVar 0) (rCons (rFn lenD (rCons (rVar 3) rNil)) rNil)))))
 (rIfS (rTst (rBin (eqD3 id) (rVar 5) (rC (.int 1))))
 (rSet (rCall sp_law_pick (rCons (rVar 0) (rCons (rLstF (rCons (rBin subD (rC (.int 0)) (rC (.int 1))) (rCons (rBin subD (rC (.int 0)) (rBin powD (rC (.int 10)) (rC (.int 12)))) (rCons (rBin subD (rBin subD (rC (.int 0)) (rC (.int 1))) (rCall sp_law_take (rCons (rVar 0) (rCons (rC (.int 99)) rNil)))) rNil)))) rNil))) (gSb (rVar 3) (rC (.int 0))))
 (rIfS (rTst (rBin (eqD3 id) (rVar 5) (rC (.int 2))))
 (rSet (rCall sp_law_pick (rCons (rVar 0) (rCons (rLstF (rCons (rC (.int 32)) (rCons (rBin subD (rC (.int 0)) (rC (.int 1))) (rCons (rBin powD (rC (.int 10)) (rC (.int 12))) (rCons (rBin (addM nwF) (rC (.int 33)) (rCall sp_law_take (rCons (rVar 0) (rCons (rC (.int 999)) rNil)))) (rCons (rBin subD (rBin subD (rC (.int 0)) (rC (.int 2))) (rCall sp_law_take (rCons (rVar 0) (rCons (rC (.int 99)) rNil)))) rNil)))))) rNil))) (gSb (rVar 3) (rBin subD (rFn lenD (rCons (rVar 3) rNil)) (rC (.int 1)))))
 (rSet (rCall sp_law_pick (rCons (rVar 0) (rCons (rLstF (rCons (rC (.bl true)) (rCons (rC .non) (rCons (rC (.str (Str.ofString "0"))) (rCons (rTup (rCons (rC (.int 3)) rNil)) (rCons (rC (.int 31)) rNil)))))) rNil))) (gSb (rVar 3) (rBin subD (rFn lenD (rCons (rVar 3) rNil)) (rC (.int 1))))))))))
 (rRet (rFn tupF3 (rCons (rVar 3) rNil)))))))

def sp_law_fault : Sq := fun ds S Q _ => ∃ n d, ds = [d] ∧ Av n d ∧ Q (oI (nfl d)) S
theorem ln_law_fault : ∀ ds S Q E, sp_law_fault ds S Q E → ds.length = 1 := by rintro _ _ _ _ ⟨b, _, rfl, _⟩; rfl
theorem nx_law_fault : ∀ ds S Q E, sp_law_fault ds S Q E → sp_law_fault ds S Q NoX := fun _ _ _ _ h => h

def rd_law_fault : RSt :=
 (rSeq (rIfS (rOr (rNot (rTst (rFn isi2D (rCons (rVar 0) (rCons (rC (.ty "tuple")) rNil))))) (rTst (rBin ltD (rFn lenD (rCons (rVar 0) rNil)) (rC (.int 2)))))
 (rRet (rBin subD (rC (.int 0)) (rC (.int 1))))
 rNext)
 (rSeq (rFor (iRg1 (rCons (rFn lenD (rCons (rVar 0) rNil)) rNil)) (gNm 1)
 (rIfS (rOr (rNot (rTst (rFn isi2D (rCons (rBin ixD (rVar 0) (rVar 1)) (rCons (rC (.ty "int")) rNil))))) (rTst (rFn isi2D (rCons (rBin ixD (rVar 0) (rVar 1)) (rCons (rC (.ty "bool")) rNil)))))
 (rRet (rVar 1))
 rNext))
 (rSeq (rIfS (rTst (rBin ltD (rBin ixD (rVar 0) (rC (.int 0))) (rC (.int 0))))
 (rRet (rC (.int 0)))
 rNext)
 (rRet (rIf (rTst (rChn leD leD (rC (.int 0)) (rBin ixD (rVar 0) (rBin subD (rFn lenD (rCons (rVar 0) rNil)) (rC (.int 1)))) (rC (.int 31)))) (rC .non) (rBin subD (rFn lenD (rCons (rVar 0) rNil)) (rC (.int 1))))))))

def sp_law_checked : Sq := fun ds S Q _ => ∃ b, ds = [.ref b] ∧ Bx S b ∧ TbC S ∧ ∀ S', Nx b S S' → Q (.bl true) S'
theorem ln_law_checked : ∀ ds S Q E, sp_law_checked ds S Q E → ds.length = 1 := by rintro _ _ _ _ ⟨d, rfl, _⟩; rfl
theorem nx_law_checked : ∀ ds S Q E, sp_law_checked ds S Q E → sp_law_checked ds S Q NoX := fun _ _ _ _ h => h

def rd_law_checked : RSt :=
 (rSeq (rSet (rCall sp_law_figure (rCons (rVar 0) rNil)) (gNm 1))
 (rSeq (rIfS (rNot (rTst (rCall (sp_law_same 5) (rCons (rLam "_law_checked" sp_law_heard (rCallX sp_check_number (rCons (rVar 1) rNil))) (rCons (rTup (rCons (rC (.str (Str.ofString "told"))) (rCons (rVar 1) rNil))) rNil)))))
 (rRet (rC (.bl false)))
 rNext)
 (rSeq (rFor (iRg1 (rCons (rC (.int 4)) rNil)) (gNm 2)
 (rSeq (rSet (rCall sp_law_spoilt (rCons (rVar 0) (rCons (rVar 1) rNil))) (gNm 3))
 (rSeq (rSet (rCall sp_law_fault (rCons (rVar 3) rNil)) (gNm 4))
 (rSeq (rSet (rIf (rTst (rBin isD (rVar 4) (rC .non))) (rTup (rCons (rC (.str (Str.ofString "told"))) (rCons (rVar 3) rNil))) (rTup (rCons (rC (.str (Str.ofString "none"))) (rCons (rVar 4) (rCons (rC (.bl true)) (rCons (rC (.bl true)) (rCons (rC (.bl false)) rNil))))))) (gNm 5))
 (rIfS (rNot (rTst (rCall (sp_law_same 5) (rCons (rLam "_law_checked" sp_law_heard (rCallX sp_check_number (rCons (rVar 3) rNil))) (rCons (rVar 5) rNil)))))
 (rRet (rC (.bl false)))
 rNext)))))
 (rRet (rCall (sp_law_same 5) (rCons (rLam "_law_checked" sp_law_heard (rCallXK sp_check_number 0 1 [0] (rCons (rVar 1) rNil))) (rCons (rTup (rCons (rC (.str (Str.ofString "told"))) (rCons (rVar 1) rNil))) rNil)))))))

def sp_law_beside : Sq := fun ds S Q _ => ∃ b ns, ds = [.ref b, nm ns] ∧ Num 15 ns ∧ Bx S b ∧ ∀ ms S', Num 15 ms → Nx b S S' → Q (nm ms) S'
theorem ln_law_beside : ∀ ds S Q E, sp_law_beside ds S Q E → ds.length = 2 := by rintro _ _ _ _ ⟨b, n, rfl, _⟩; rfl
theorem nx_law_beside : ∀ ds S Q E, sp_law_beside ds S Q E → sp_law_beside ds S Q NoX := fun _ _ _ _ h => h
theorem beside_of {b : Addr} {ns : List Int} {S : Hq} {Q : Qv} (hf : Num 15 ns) (hb : Bx S b) (q : ∀ ns S', Num 15 ns → Nx b S S' → Q (nm ns) S') : sp_law_beside [.ref b, nm ns] S Q NoX := ⟨b, ns, rfl, hf, hb, q⟩

def rd_law_beside : RSt :=
 (rSeq (rSet (rCall sp_law_take (rCons (rVar 0) (rCons (rC (.int 6)) rNil))) (gNm 2))
 (rSeq (rSet (rFn (lstM nwT) (rCons (rVar 1) rNil)) (gNm 3))
 (rSeq (rIfS (rTst (rBin (eqD3 id) (rVar 2) (rC (.int 0))))
 (rRet (rFn tupF3 (rCons (rVar 3) rNil)))
 rNext)
 (rSeq (rIfS (rTst (rBin (eqD3 id) (rVar 2) (rC (.int 1))))
 (rRet (rFn tupF3 (rCons (rBin (addM nwF) (rBin (addM nwF) (rSlM nwF (rVar 3) rNoP (rPrt (rC (.int 11)))) (rLcF (iRg1 (rCons (rCall sp_law_take (rCons (rVar 0) (rCons (rC (.int 3)) rNil))) rNil)) (gNm 5) rYes (rCall sp_law_entry (rCons (rVar 0) rNil)) [5])) (rLstF (rCons (rCall sp_law_take (rCons (rVar 0) (rCons (rC (.int 32)) rNil))) rNil))) rNil)))
 rNext)
 (rSeq (rIfS (rTst (rBin (eqD3 id) (rVar 2) (rC (.int 2))))
 (rSeq (rSet (rCall sp_law_take (rCons (rVar 0) (rCons (rBin subD (rFn lenD (rCons (rVar 3) rNil)) (rC (.int 1))) rNil))) (gNm 4))
 (rSeq (rSet (rFn maxD (rCons (rIf (rTst (rBin (eqD3 id) (rVar 4) (rC (.int 0)))) (rC (.int 0)) (rBin subD (rC (.int 0)) (rBin powD (rC (.int 10)) (rC (.int 12))))) (rCons (rBin (addM nwF) (rBin ixD (rVar 3) (rVar 4)) (rCall sp_law_pick (rCons (rVar 0) (rCons (rLstF (rCons (rBin subD (rC (.int 0)) (rC (.int 1))) (rCons (rC (.int 1)) rNil))) rNil)))) rNil))) (gSb (rVar 3) (rVar 4)))
 (rRet (rFn tupF3 (rCons (rVar 3) rNil)))))
 rNext)
 (rSeq (rIfS (rTst (rBin (eqD3 id) (rVar 2) (rC (.int 3))))
 (rRet (rFn tupF3 (rCons (rBin (addM nwF) (rSlM nwF (rVar 3) rNoP (rPrt (rBin subD (rFn lenD (rCons (rVar 3) rNil)) (rC (.int 1))))) (rLstF (rCons (rCall sp_law_take (rCons (rVar 0) (rCons (rC (.int 32)) rNil))) rNil))) rNil)))
 rNext)
 (rSeq (rIfS (rTst (rBin (eqD3 id) (rVar 2) (rC (.int 4))))
 (rRet (rFn tupF3 (rCons (rBin (addM nwF) (rSlM nwF (rVar 3) rNoP (rPrt (rBin (addM nwF) (rC (.int 1)) (rCall sp_law_take (rCons (rVar 0) (rCons (rBin subD (rFn lenD (rCons (rVar 3) rNil)) (rC (.int 1))) rNil)))))) (rLstF (rCons (rCall sp_law_take (rCons (rVar 0) (rCons (rC (.int 32)) rNil))) rNil))) rNil)))
 rNext)
 (rRet (rCall sp_law_figure (rCons (rVar 0) rNil))))))))))

def sp_is_below : Sq := fun ds S Q _ => ∃ a b, ds = [ofO a, ofO b] ∧ Q (.bl (blw a b)) S
theorem ln_is_below : ∀ ds S Q E, sp_is_below ds S Q E → ds.length = 2 := by rintro _ _ _ _ ⟨b, n, rfl, _⟩; rfl
theorem nx_is_below : ∀ ds S Q E, sp_is_below ds S Q E → sp_is_below ds S Q NoX := fun _ _ _ _ h => h

def rd_is_below : RSt :=
 (rRet (rAndV (rBin isntD (rVar 0) (rC .non)) (rOrV (rBin isD (rVar 1) (rC .non)) (rBin ltD (rVar 0) (rVar 1)))))

def sp_law_less : Sq := fun ds S Q _ => ∃ ns ms : List Int, ds = [nm ns, nm ms] ∧ ns.length ≤ 1000 ∧ ms.length ≤ 1000 ∧ Q (.bl (HT.lexLt ns ms)) S
theorem ln_law_less : ∀ ds S Q E, sp_law_less ds S Q E → ds.length = 2 := by rintro _ _ _ _ ⟨b, n, rfl, _⟩; rfl
theorem nx_law_less : ∀ ds S Q E, sp_law_less ds S Q E → sp_law_less ds S Q NoX := fun _ _ _ _ h => h

def rd_law_less : RSt :=
 (rSeq (rFor (iRg1 (rCons (rFn minD (rCons (rFn lenD (rCons (rVar 0) rNil)) (rCons (rFn lenD (rCons (rVar 1) rNil)) rNil))) rNil)) (gNm 2)
 (rIfS (rTst (rBin (eqD3 not) (rBin ixD (rVar 0) (rVar 2)) (rBin ixD (rVar 1) (rVar 2))))
 (rRet (rBin ltD (rBin ixD (rVar 0) (rVar 2)) (rBin ixD (rVar 1) (rVar 2))))
 rNext))
 (rRet (rBin ltD (rFn lenD (rCons (rVar 0) rNil)) (rFn lenD (rCons (rVar 1) rNil)))))

def sp_law_under : Sq := fun ds S Q _ => ∃ a o : Option (List Int), ds = [ofO a, ofO o] ∧ (∀ hs, a = some hs → hs.length ≤ 1000) ∧ (∀ hs, o = some hs → hs.length ≤ 1000) ∧ Q (.bl (blw a o)) S
theorem ln_law_under : ∀ ds S Q E, sp_law_under ds S Q E → ds.length = 2 := by rintro _ _ _ _ ⟨b, n, rfl, _⟩; rfl
theorem nx_law_under : ∀ ds S Q E, sp_law_under ds S Q E → sp_law_under ds S Q NoX := fun _ _ _ _ h => h

def rd_law_under : RSt :=
 (rSeq (rIfS (rTst (rBin isD (rVar 0) (rC .non)))
 (rRet (rC (.bl false)))
 rNext)
 (rRet (rOrV (rBin isD (rVar 1) (rC .non)) (rCall sp_law_less (rCons (rVar 0) (rCons (rVar 1) rNil))))))

def sp_law_compared : Sq := fun ds S Q _ => ∃ b, ds = [.ref b] ∧ Bx S b ∧ ∀ S', Nx b S S' → Q (.bl true) S'
theorem ln_law_compared : ∀ ds S Q E, sp_law_compared ds S Q E → ds.length = 1 := by rintro _ _ _ _ ⟨d, rfl, _⟩; rfl
theorem nx_law_compared : ∀ ds S Q E, sp_law_compared ds S Q E → sp_law_compared ds S Q NoX := fun _ _ _ _ h => h

def rd_law_compared : RSt :=
 (rSeq (rSet (rCall sp_law_figure (rCons (rVar 0) rNil)) (gNm 1))
 (rSeq (rSet (rCall sp_law_beside (rCons (rVar 0) (rCons (rVar 1) rNil))) (gNm 2))
 (rSeq (rSet (rCall sp_law_take (rCons (rVar 0) (rCons (rC (.int 7)) rNil))) (gNm 3))
 (rSeq (rSet (rCall sp_law_pick (rCons (rVar 0) (rCons (rLstF (rCons (rVar 3) (rCons (rVar 3) (rCons (rCall sp_law_take (rCons (rVar 0) (rCons (rC (.int 7)) rNil))) rNil)))) rNil))) (gNm 4))
 (rSeq (rSet (rLst (rCons (rTup (rCons (rVar 1) (rCons (rVar 2) rNil))) (rCons (rTup (rCons (rVar 2) (rCons (rVar 1) rNil))) (rCons (rTup (rCons (rVar 1) (rCons (rVar 1) rNil))) (rCons (rTup (rCons (rVar 1) (rCons (rC .non) rNil))) (rCons (rTup (rCons (rC .non) (rCons (rVar 2) rNil))) (rCons (rTup (rCons (rC .non) (rCons (rC .non) rNil))) rNil))))))) (gNm 5))
 (rSeq (rDrop (rMt "list" extD3 (rVar 5) (rCons (rLstF (rCons (rTup (rCons (rBin (addM nwF) (rTup (rCons (rVar 3) rNil)) (rVar 1)) (rCons (rBin (addM nwF) (rTup (rCons (rVar 4) rNil)) (rVar 2)) rNil))) (rCons (rTup (rCons (rBin (addM nwF) (rTup (rCons (rVar 4) rNil)) (rVar 2)) (rCons (rBin (addM nwF) (rTup (rCons (rVar 3) rNil)) (rVar 1)) rNil))) (rCons (rTup (rCons (rBin (addM nwF) (rTup (rCons (rVar 3) rNil)) (rVar 1)) (rCons (rC .non) rNil))) rNil)))) rNil)))
 (rSeq (rFor (iLst (rVar 5)) (gTp 2 (gConss (gNm 6) (gConss (gNm 7) gNils)))
 (rIfS (rNot (rTst (rCall (sp_law_same 5) (rCons (rCall sp_is_below (rCons (rVar 6) (rCons (rVar 7) rNil))) (rCons (rCall sp_law_under (rCons (rVar 6) (rCons (rVar 7) rNil))) rNil)))))
 (rRet (rC (.bl false)))
 rNext))
 (rRet (rCall (sp_law_same 5) (rCons (rCallK sp_is_below 0 2 [1, 0] rNil (rCons (rVar 2) (rCons (rVar 1) rNil))) (rCons (rCall sp_law_under (rCons (rVar 1) (rCons (rVar 2) rNil))) rNil)))))))))))

def sp_least_of : Sq := fun ds S Q _ => ∃ os, ds = [.tup (os.map ofO)] ∧ Q (ofO (lst_of os)) S
theorem ln_least_of : ∀ ds S Q E, sp_least_of ds S Q E → ds.length = 1 := by rintro _ _ _ _ ⟨b, rfl, _⟩; rfl
theorem nx_least_of : ∀ ds S Q E, sp_least_of ds S Q E → sp_least_of ds S Q NoX := fun _ _ _ _ h => h

def rd_least_of : RSt :=
 (rSeq (rSet (rC .non) (gNm 1))
 (rSeq (rFor (iSeq (rVar 0)) (gNm 2)
 (rIfS (rTst (rCall sp_is_below (rCons (rVar 2) (rCons (rVar 1) rNil))))
 (rSet (rVar 2) (gNm 1))
 rNext))
 (rRet (rVar 1))))

def sp_law_leasts : Sq := fun ds S Q _ => ∃ b many, ds = [.ref b, .int many] ∧ Bx S b ∧ 0 ≤ many ∧ many ≤ 60 ∧ ∀ S', Nx b S S' → Q (.bl true) S'
theorem ln_law_leasts : ∀ ds S Q E, sp_law_leasts ds S Q E → ds.length = 2 := by rintro _ _ _ _ ⟨d, m, rfl, _⟩; rfl
theorem nx_law_leasts : ∀ ds S Q E, sp_law_leasts ds S Q E → sp_law_leasts ds S Q NoX := fun _ _ _ _ h => h

def rd_law_leasts : RSt :=
 (rSeq (rSet (rCall sp_law_figure (rCons (rVar 0) rNil)) (gNm 2))
 (rSeq (rSet (rLst rNil) (gNm 3))
 (rSeq (rFor (iRg1 (rCons (rVar 1) rNil)) (gNm 4)
 (rDrop (rMt "list" appD (rVar 3) (rCons (rIf (rTst (rBin (eqD3 id) (rCall sp_law_take (rCons (rVar 0) (rCons (rC (.int 3)) rNil))) (rC (.int 0)))) (rC .non) (rCall sp_law_beside (rCons (rVar 0) (rCons (rVar 2) rNil)))) rNil))))
 (rSeq (rSet (rC .non) (gNm 5))
 (rSeq (rFor (iLst (rVar 3)) (gNm 6)
 (rIfS (rTst (rCall sp_law_under (rCons (rVar 6) (rCons (rVar 5) rNil))))
 (rSet (rVar 6) (gNm 5))
 rNext))
 (rSeq (rSet (rFn tupF3 (rCons (rLcF (iLst (rVar 3)) (gNm 6) rYes (rC .non) [6]) rNil)) (gNm 7))
 (rRet (rAndV (rCall (sp_law_same 5) (rCons (rCall sp_least_of (rCons (rFn tupF3 (rCons (rVar 3) rNil)) rNil)) (rCons (rVar 5) rNil))) (rAndV (rBin isD (rCall sp_least_of (rCons (rVar 7) rNil)) (rC .non)) (rBin isD (rCallK sp_least_of 0 1 [0] rNil (rCons (rTup rNil) rNil)) (rC .non)))))))))))

def sp_law : Sq := fun ds S Q _ => ∃ ns : List Int, ds = [.kl (ns.map D.int)] ∧ ns.length ≤ 63 ∧ TbC S ∧ ∀ S', Q (.bl true) S'
theorem ln_law : ∀ ds S Q E, sp_law ds S Q E → ds.length = 1 := by rintro _ _ _ _ ⟨b, rfl, _⟩; rfl
theorem nx_law : ∀ ds S Q E, sp_law ds S Q E → sp_law ds S Q NoX := fun _ _ _ _ h => h
theorem law_ok {P : Addr} : ∀ (ns : List Int) (Q' : Qv), ns.length ≤ 63 → (∀ S', Q' (.bl true) S') → sp_law [.kl (ns.map D.int)] (S0 [(P, "_law_checked")]) Q' NoX := fun ns Q h k => ⟨ns, rfl, h, ⟨P, by unfold S0; rw [List.lookup_cons, show (P == P) = true from beq_self_eq_true P]; rfl⟩, k⟩

def rd_law : RSt :=
 (rSeq (rFor (iRg1 (rCons (rFn maxD (rCons (rC (.int 3)) (rCons (rFn minD (rCons (rFn lenD (rCons (rVar 0) rNil)) (rCons (rC (.int 8)) rNil))) rNil))) rNil)) (gNm 1)
 (rSeq (rSet (rCall sp_law_box (rCons (rVar 0) (rCons (rVar 1) rNil))) (gNm 2))
 (rSeq (rFor (iRg1 (rCons (rC (.int 3)) rNil)) (gNm 3)
 (rIfS (rOr (rNot (rTst (rCall sp_law_checked (rCons (rVar 2) rNil)))) (rOr (rNot (rTst (rCall sp_law_compared (rCons (rVar 2) rNil)))) (rNot (rTst (rCall sp_law_leasts (rCons (rVar 2) (rCons (rCall sp_law_take (rCons (rVar 2) (rCons (rC (.int 9)) rNil))) rNil)))))))
 (rRet (rC (.bl false)))
 rNext))
 (rIfS (rAnd (rTst (rBin (eqD3 id) (rVar 1) (rC (.int 0)))) (rNot (rTst (rCall sp_law_leasts (rCons (rVar 2) (rCons (rCall sp_law_pick (rCons (rVar 2) (rCons (rLstF (rCons (rC (.int 60)) (rCons (rC (.int 59)) (rCons (rC (.int 30)) rNil)))) rNil))) rNil))))))
 (rRet (rC (.bl false)))
 rNext))))
 (rRet (rC (.bl true))))

end K01
namespace K01
open PySem PySem.Spec PyProof.Rows L2 Y
theorem ints_inj : ∀ {a b : List Int}, a.map D.int = b.map D.int → a = b
  | [], [], _ => rfl
  | [], _ :: _, h => by simp at h
  | _ :: _, [], h => by simp at h
  | x :: a, y :: b, h => by
    simp only [List.map_cons, List.cons.injEq, D.int.injEq] at h
    rw [h.1, ints_inj h.2]
theorem at_last {ns : List Int} {h l : Int} {m : List Int} (e : ns = h :: (m ++ [l])) : atI (ns.map D.int) (-1) = some (.int l) := by
  subst e
  have hl : (List.map D.int (h :: (m ++ [l]))).length = m.length + 2 := by simp
  unfold atI
  have ix : ixN (List.map D.int (h :: (m ++ [l]))).length (-1) = some (m.length + 1) := by
    rw [hl]; unfold ixN
    rw [if_neg (by decide), if_pos (by omega)]
    congr 1; omega
  rw [ix]
  show (List.map D.int (h :: (m ++ [l])))[m.length + 1]? = _
  rw [List.getElem?_map, List.getElem?_cons_succ, List.getElem?_append_right (by omega)]
  simp
/-! the order -/
theorem lex_trans : ∀ {a b c : List Int}, HT.lexLt a b = true → HT.lexLt b c = true → HT.lexLt a c = true
  | [], _, [], h1, h2 => by
    rename_i b
    cases b with
    | nil => exact h2
    | cons x r => rw [HT.lexLt_cons_nil] at h2; cases h2
  | [], _, c :: cs, _, _ => HT.lexLt_nil_cons _ _
  | a :: as, [], _, h1, _ => by rw [HT.lexLt_cons_nil] at h1; cases h1
  | a :: as, b :: bs, [], _, h2 => by rw [HT.lexLt_cons_nil] at h2; cases h2
  | a :: as, b :: bs, c :: cs, h1, h2 => by
    rw [HT.lexLt_cons] at h1 h2 ⊢
    by_cases e1 : a = b
    · rw [if_pos e1] at h1
      by_cases e2 : b = c
      · rw [if_pos e2] at h2
        rw [if_pos (e1.trans e2)]
        exact lex_trans h1 h2
      · rw [if_neg e2] at h2
        subst e1
        rw [if_neg e2]; exact h2
    · rw [if_neg e1] at h1
      by_cases e2 : b = c
      · subst e2
        rw [if_neg e1]; exact h1
      · rw [if_neg e2] at h2
        have x1 := of_decide_eq_true h1
        have x2 := of_decide_eq_true h2
        rw [if_neg (by omega)]
        exact decide_eq_true (by omega)
theorem lex_tot : ∀ {a b : List Int}, HT.lexLt a b = false → HT.lexLt b a = false → a = b
  | [], [], _, _ => rfl
  | [], b :: bs, h1, _ => by rw [HT.lexLt_nil_cons] at h1; cases h1
  | a :: as, [], _, h2 => by rw [HT.lexLt_nil_cons] at h2; cases h2
  | a :: as, b :: bs, h1, h2 => by
    rw [HT.lexLt_cons] at h1 h2
    by_cases e : a = b
    · rw [if_pos e] at h1
      rw [if_pos e.symm] at h2
      rw [e, lex_tot h1 h2]
    · rw [if_neg e] at h1
      rw [if_neg (Ne.symm e)] at h2
      have := of_decide_eq_false h1
      have := of_decide_eq_false h2
      omega
theorem lex_asym {a b : List Int} (h : HT.lexLt a b = true) : HT.lexLt b a = false := by
  cases e : HT.lexLt b a with
  | false => rfl
  | true => have := lex_trans h e; rw [lex_same] at this; cases this
theorem lex_app : ∀ {a x : List Int}, x ≠ [] → HT.lexLt a (a ++ x) = true
  | [], [], h => absurd rfl h
  | [], y :: ys, _ => HT.lexLt_nil_cons _ _
  | a :: as, x, h => by rw [List.cons_append, HT.lexLt_cons, if_pos rfl]; exact lex_app h
theorem lex_pre : ∀ {a x y : List Int}, HT.lexLt (a ++ x) (a ++ y) = HT.lexLt x y
  | [], _, _ => rfl
  | a :: as, x, y => by rw [List.cons_append, List.cons_append, HT.lexLt_cons, if_pos rfl, lex_pre]
theorem lex_off : ∀ {a b x : List Int}, HT.lexLt a b = true → b.take a.length ≠ a → HT.lexLt (a ++ x) b = true
  | [], b, x, _, h => absurd (by simp) h
  | a :: as, [], x, h, _ => by rw [HT.lexLt_cons_nil] at h; cases h
  | a :: as, b :: bs, x, h, n => by
    rw [List.cons_append, HT.lexLt_cons]
    rw [HT.lexLt_cons] at h
    by_cases e : a = b
    · rw [if_pos e] at h ⊢
      refine lex_off h fun c => n ?_
      rw [List.length_cons, List.take_succ_cons, c, e]
    · rw [if_neg e] at h ⊢; exact h
theorem at_end {ns : List Int} {h l : Int} {m : List Int} (e : ns = h :: (m ++ [l])) : atI (ns.map D.int) ((ns.length : Int) - 1) = some (.int l) := by
  have hl : ns.length = m.length + 2 := by rw [e]; simp
  have e2 : ((ns.length : Int) - 1) = ((m.length + 1 : Nat) : Int) := by omega
  rw [e2]
  refine atI_nat ?_
  rw [e, List.getElem?_map, List.getElem?_cons_succ, List.getElem?_append_right (by omega)]
  simp
theorem srt_snoc {l : List (List Int)} {one : List Int} : srt (l ++ [one]) = (srt l).take ((srt l).filter fun two => !HT.lexLt one two).length ++ [one] ++ (srt l).drop ((srt l).filter fun two => !HT.lexLt one two).length := by
  unfold srt; rw [List.foldl_append]; rfl
theorem srt_perm : ∀ l : List (List Int), (srt l).Perm l := by
  have key : ∀ n (l : List (List Int)), l.length = n → (srt l).Perm l := by
    intro n
    induction n with
    | zero => intro l h; rw [List.length_eq_zero_iff.mp h]; exact .nil
    | succ n ih =>
      intro l h
      obtain ⟨l0, a, rfl⟩ : ∃ l0 a, l = l0 ++ [a] := ⟨l.dropLast, l.getLast (fun z => by rw [z] at h; simp at h), (List.dropLast_concat_getLast _).symm⟩
      have ih := ih l0 (by simpa using h)
      rw [srt_snoc]
      generalize ((srt l0).filter fun two => !HT.lexLt a two).length = k
      have p1 : (List.take k (srt l0) ++ [a] ++ List.drop k (srt l0)).Perm (a :: (List.take k (srt l0) ++ List.drop k (srt l0))) := by
        rw [List.append_assoc, List.singleton_append]; exact List.perm_middle
      rw [List.take_append_drop] at p1
      exact p1.trans ((List.Perm.cons a ih).trans (List.perm_append_singleton a l0).symm)
  exact fun l => key _ l rfl
theorem blw_same {o : Option (List Int)} : blw o o = false := by
  cases o with
  | none => rfl
  | some a => exact lex_same
theorem blw_trans : ∀ {a b c : Option (List Int)}, blw a b = true → blw b c = true → blw a c = true
  | none, _, _, h, _ => by cases h
  | some _, none, _, _, h => by cases h
  | some _, some _, none, _, _ => rfl
  | some _, some _, some _, h, g => lex_trans (show HT.lexLt _ _ = true from h) (show HT.lexLt _ _ = true from g)
theorem blw_tot : ∀ {a b : Option (List Int)}, blw a b = false → blw b a = false → a = b
  | none, none, _, _ => rfl
  | none, some _, _, h => by cases h
  | some _, none, h, _ => by cases h
  | some _, some _, h, g => by rw [lex_tot (show HT.lexLt _ _ = false from h) (show HT.lexLt _ _ = false from g)]
theorem lst_inv : ∀ (os : List (Option (List Int))) (acc : Option (List Int)), (os.foldl (fun acc x => if blw x acc then x else acc) acc = acc ∨ os.foldl (fun acc x => if blw x acc then x else acc) acc ∈ os) ∧ blw acc (os.foldl (fun acc x => if blw x acc then x else acc) acc) = false ∧ ∀ x ∈ os, blw x (os.foldl (fun acc x => if blw x acc then x else acc) acc) = false
  | [], acc => ⟨.inl rfl, blw_same, by simp⟩
  | o :: os, acc => by
    obtain ⟨a, b, c⟩ := lst_inv os (if blw o acc then o else acc)
    rw [List.foldl_cons]
    generalize os.foldl (fun acc x => if blw x acc then x else acc) (if blw o acc then o else acc) = r at a b c ⊢
    cases e : blw o acc with
    | true =>
      rw [e, if_pos rfl] at a b
      refine ⟨.inr (a.elim (fun z => by rw [z]; simp) fun z => by simp [z]), ?_, fun x hx => ?_⟩
      · cases d : blw acc r with
        | false => rfl
        | true => rw [blw_trans e d] at b; cases b
      · rcases List.mem_cons.mp hx with rfl | hx
        · exact b
        · exact c x hx
    | false =>
      rw [e] at a b
      simp only [Bool.false_eq_true, if_false] at a b
      refine ⟨a.imp id fun z => by simp [z], b, fun x hx => ?_⟩
      rcases List.mem_cons.mp hx with rfl | hx
      · cases d : blw x r with
        | false => rfl
        | true =>
          cases g : blw acc x with
          | true => rw [blw_trans g d] at b; cases b
          | false => rw [blw_tot e g] at d; rw [d] at b; cases b
      · exact c x hx
theorem lst_min {os : List (Option (List Int))} {m : Option (List Int)} (hm : m ∈ os) (h : ∀ x ∈ os, blw x m = false) : lst_of os = m := by
  obtain ⟨a, b, c⟩ := lst_inv os none
  unfold lst_of
  generalize os.foldl (fun acc x => if blw x acc then x else acc) none = r at a b c ⊢
  rcases a with rfl | a
  · have := c m hm
    cases m with
    | none => rfl
    | some _ => cases this
  · exact blw_tot (h _ a) (c _ hm)
theorem cut_at {α : Type} {p : α → Bool} : ∀ {l : List α}, l.Pairwise (fun a b => p b = true → p a = true) → (∀ x ∈ l.take (l.filter p).length, p x = true) ∧ ∀ x ∈ l.drop (l.filter p).length, p x = false
  | [], _ => ⟨by simp, by simp⟩
  | a :: r, h => by
    obtain ⟨h1, h2⟩ := List.pairwise_cons.mp h
    obtain ⟨i1, i2⟩ := cut_at h2
    cases e : p a with
    | true =>
      rw [List.filter_cons_of_pos e, List.length_cons, List.take_succ_cons, List.drop_succ_cons]
      exact ⟨fun x hx => (List.mem_cons.mp hx).elim (fun z => by rw [z]; exact e) (i1 x), i2⟩
    | false =>
      have e2 : (a :: r).filter p = [] := by
        refine List.filter_eq_nil_iff.mpr fun x hx => ?_
        rcases List.mem_cons.mp hx with rfl | hx
        · rw [e]; simp
        · intro z; rw [h1 x hx z] at e; cases e
      rw [e2]
      refine ⟨by simp, fun x hx => ?_⟩
      have := (List.filter_eq_nil_iff.mp e2) x hx
      simpa using this
def Srt (l : List (List Int)) : Prop := l.Pairwise fun a b => HT.lexLt b a = false
theorem lex_le {a b c : List Int} (h : HT.lexLt b a = false) (g : HT.lexLt c b = false) : HT.lexLt c a = false := by
  cases e : HT.lexLt c a with
  | false => rfl
  | true =>
    cases d : HT.lexLt a b with
    | true => rw [lex_trans e d] at g; cases g
    | false => rw [lex_tot h d] at g; rw [g] at e; cases e
theorem srt_srt : ∀ l : List (List Int), Srt (srt l) := by
  have key : ∀ n (l : List (List Int)), l.length = n → Srt (srt l) := by
    intro n
    induction n with
    | zero => intro l h; rw [List.length_eq_zero_iff.mp h]; exact .nil
    | succ n ih =>
      intro l h
      obtain ⟨l0, a, rfl⟩ : ∃ l0 a, l = l0 ++ [a] := ⟨l.dropLast, l.getLast (fun z => by rw [z] at h; simp at h), (List.dropLast_concat_getLast _).symm⟩
      have ih := ih l0 (by simpa using h)
      rw [srt_snoc]
      obtain ⟨c1, c2⟩ := cut_at (p := fun two => !HT.lexLt a two) (l := srt l0) (ih.imp fun {x y} h z => by
        simp only [Bool.not_eq_true'] at z ⊢
        exact lex_le h z)
      generalize ((srt l0).filter fun two => !HT.lexLt a two).length = k at c1 c2 ⊢
      have hs : Srt ((srt l0).take k ++ (srt l0).drop k) := by rw [List.take_append_drop]; exact ih
      obtain ⟨s1, s2, s3⟩ := List.pairwise_append.mp hs
      rw [List.append_assoc, List.singleton_append]
      refine List.pairwise_append.mpr ⟨s1, List.pairwise_cons.mpr ⟨fun y hy => ?_, s2⟩, fun x hx y hy => ?_⟩
      · have := c2 y hy
        simp only [Bool.not_eq_false'] at this
        exact lex_asym this
      · rcases List.mem_cons.mp hy with rfl | hy
        · simpa using c1 x hx
        · exact s3 x hx y hy
  exact fun l => key _ l rfl
theorem first_of {v : List Int} : ∀ {R : List (List Int)}, v ∈ R → ∃ j, R[j]? = some v ∧ (∀ m, m < j → R[m]? ≠ some v) ∧ (v :: R.eraseIdx j).Perm R
  | a :: r, h => by
    by_cases e : a = v
    · subst e
      exact ⟨0, rfl, fun m hm => absurd hm (by omega), .refl _⟩
    · obtain ⟨j, h1, h2, h3⟩ := first_of (R := r) ((List.mem_cons.mp h).resolve_left (Ne.symm e))
      refine ⟨j + 1, h1, fun m hm => ?_, (List.Perm.swap a v _).trans (h3.cons a)⟩
      cases m with
      | zero => intro z; exact e (by simpa using z)
      | succ m => exact h2 m (by omega)
theorem nm_inj {a b : List Int} (h : nm a = nm b) : a = b := by
  unfold nm at h; exact ints_inj (D.tup.inj h)
/-! numbers between -/
theorem btw_num {ns : List Int} {o : Option (List Int)} {name : Int} (hn : Num 500 ns) (h0 : 0 ≤ name) (h1 : name < 32) : Num 502 (btw ns o name) := by
  obtain ⟨h, m, l, rfl, a0, a1, a2, a3⟩ := hn
  cases o with
  | none => exact ⟨h + 1, [], name, rfl, by omega, h0, h1, by simp [btw]⟩
  | some hs =>
    show Num 502 (if _ then _ else _)
    split
    · exact ⟨h, m ++ [l] ++ [hs.getD (h :: (m ++ [l])).length 0 - 1], name, by simp, a0, h0, h1, by simp at a3 ⊢; omega⟩
    · exact ⟨h, m ++ [l] ++ [0], name, by simp, a0, h0, h1, by simp at a3 ⊢; omega⟩
theorem btw_last {ns : List Int} {o : Option (List Int)} {name : Int} : ∃ r, btw ns o name = r ++ [name] := by
  cases o with
  | none => exact ⟨[_], rfl⟩
  | some hs =>
    unfold btw
    dsimp only
    split
    · exact ⟨ns ++ [_], by rw [List.append_assoc]; rfl⟩
    · exact ⟨ns ++ [_], by rw [List.append_assoc]; rfl⟩
theorem btw_low {ns : List Int} {o : Option (List Int)} {name : Int} (hn : ns ≠ []) : HT.lexLt ns (btw ns o name) = true := by
  cases o with
  | none =>
    cases ns with
    | nil => exact absurd rfl hn
    | cons a r =>
      show HT.lexLt (a :: r) [a + 1, name] = true
      rw [HT.lexLt_cons, if_neg (by omega)]
      exact decide_eq_true (by omega)
  | some hs =>
    show HT.lexLt ns (if _ then _ else _) = true
    split <;> exact lex_app (by simp)
theorem btw_high {ns : List Int} {o : Option (List Int)} {name : Int} (hb : blw (some ns) o = true) : blw (some (btw ns o name)) o = true := by
  cases o with
  | none => rfl
  | some hs =>
    have hb : HT.lexLt ns hs = true := hb
    show HT.lexLt (if _ then _ else _) hs = true
    by_cases c : hs.take ns.length = ns
    · rw [if_pos c]
      have hlt : ns.length < hs.length := by
        rcases Nat.lt_or_ge ns.length hs.length with z | z
        · exact z
        · rw [List.take_of_length_le z] at c
          subst c
          rw [lex_same] at hb; cases hb
      obtain ⟨y, r, e, e2⟩ : ∃ y r, hs = ns ++ y :: r ∧ hs.getD ns.length 0 = y := by
        refine ⟨hs[ns.length], hs.drop (ns.length + 1), ?_, ?_⟩
        · rw [← List.drop_eq_getElem_cons hlt]
          conv => lhs; rw [← List.take_append_drop ns.length hs, c]
        · rw [List.getD_eq_getElem?_getD, List.getElem?_eq_getElem hlt]; rfl
      rw [e2, e]
      rw [lex_pre, HT.lexLt_cons, if_neg (by omega)]
      exact decide_eq_true (by omega)
    · rw [if_neg c]; exact lex_off hb c
theorem Num.le {k n : Nat} {ns : List Int} (h : Num k ns) (le : k ≤ n) : Num n ns := by
  obtain ⟨a, b, c, d, e, f, g, i⟩ := h
  exact ⟨a, b, c, d, e, f, g, by omega⟩
theorem Num.len {k : Nat} {ns : List Int} (h : Num k ns) : 2 ≤ ns.length ∧ ns.length ≤ k := by
  obtain ⟨a, b, c, rfl, e, f, g, i⟩ := h
  exact ⟨by simp, i⟩
def tlr (ns : List Int) (o : Option (List Int)) : List (List Int) := (List.range 32).map fun i => btw ns o (i : Nat)
theorem tlr_nodup {ns : List Int} {o : Option (List Int)} : (tlr ns o).Nodup := by
  unfold tlr
  refine List.pairwise_map.mpr (List.nodup_range.imp fun {a b} ne e => ne ?_)
  obtain ⟨r, h1⟩ := btw_last (ns := ns) (o := o) (name := (a : Nat))
  obtain ⟨r2, h2⟩ := btw_last (ns := ns) (o := o) (name := (b : Nat))
  have e : btw ns o (a : Nat) = btw ns o (b : Nat) := e
  rw [h1, h2] at e
  have := List.append_inj_right' e rfl
  simp at this
  omega
theorem tlr_mem {ns : List Int} {o : Option (List Int)} {v : List Int} (h : v ∈ tlr ns o) : ∃ i : Nat, i < 32 ∧ v = btw ns o (i : Nat) := by
  obtain ⟨i, hi, rfl⟩ := List.mem_map.mp h
  exact ⟨i, List.mem_range.mp hi, rfl⟩
theorem tlr_get {ns : List Int} {o : Option (List Int)} {i : Nat} (h : i < 32) : (tlr ns o)[i]? = some (btw ns o (i : Nat)) := by
  unfold tlr; rw [List.getElem?_map, List.getElem?_range h]; rfl
theorem Ps_nm {n : Nat} {ns : List Int} (h : ns.length ≤ 100000) : Ps (n + 2) (nm ns) := ⟨by rw [List.length_map]; exact h, fun x hx => by
  obtain ⟨i, _, rfl⟩ := List.mem_map.mp hx
  trivial⟩
theorem Ps_of {n : Nat} {o : Option (List Int)} (h : ∀ hs, o = some hs → hs.length ≤ 100000) : Ps (n + 2) (ofO o) := by
  cases o with
  | none => trivial
  | some hs => exact Ps_nm (h hs rfl)
theorem Ls.srcX {S S1 : Hq} {x : D} {xs : List D} {R : List D → (Hq → Prop) → Hq → Prop} (h : Ls S x xs) (e : Ex S S1) (k : ∀ g : Hq → Prop, (∀ S', Ex S S' → g S') → R xs g S1) : lstD x S1 R := by
  rcases h with rfl | ⟨a, rfl, h⟩
  · exact k _ fun _ _ => trivial
  · exact ⟨xs, e a _ h, k _ fun S' z => z a _ h⟩
theorem Ls.lstm {S : Hq} {x : D} {xs : List D} {m : Nw2} {Q : Qv} (h : Ls S x xs) (k : m xs S Q) : lstM m [x] S Q := by
  rcases h with rfl | ⟨a, rfl, e⟩
  · exact k
  · exact ⟨xs, e, k⟩
theorem ints_or : ∀ xs : List D, (∀ (j : Nat) (d : D), xs[j]? = some d → ∃ i, d = D.int i) → ∃ ns : List Int, xs = ns.map D.int
  | [], _ => ⟨[], rfl⟩
  | x :: r, h => by
    obtain ⟨i, rfl⟩ := h 0 x rfl
    obtain ⟨ns, rfl⟩ := ints_or r fun j d e => h (j + 1) d e
    exact ⟨i :: ns, rfl⟩
theorem ends {ns : List Int} (h : 2 ≤ ns.length) : ∃ a m l, ns = a :: (m ++ [l]) := by
  match ns, h with
  | a :: b :: r, _ =>
    have : (b :: r) ≠ [] := by simp
    refine ⟨a, (b :: r).dropLast, (b :: r).getLast this, ?_⟩
    rw [List.dropLast_concat_getLast]
theorem nfl_short {xs : List D} (h : xs.length < 2) : nfl (.tup xs) = some (-1) := if_pos h
theorem nfl_at {xs : List D} {i : Nat} {x : D} (h : 2 ≤ xs.length) (hx : xs[i]? = some x) (hb : isI x = false) (hm : ∀ m y, m < i → xs[m]? = some y → isI y = true) : nfl (.tup xs) = some (i : Int) := by
  show nflT xs = _
  unfold nflT
  obtain ⟨hi, e⟩ := List.getElem?_eq_some_iff.mp hx
  rw [if_neg (by omega), List.findIdx?_eq_some_iff_getElem.mpr ⟨hi, by rw [e, hb]; rfl, fun j hj => by rw [hm j _ hj (List.getElem?_eq_getElem (by omega))]; decide⟩]
theorem nfl_ints {ns : List Int} {a l : Int} {m : List Int} (e : ns = a :: (m ++ [l])) : nfl (.tup (ns.map D.int)) = if a < 0 then some 0 else if 0 ≤ l ∧ l ≤ 31 then none else some ((ns.length : Int) - 1) := by
  have hl : ns.length = m.length + 2 := by rw [e]; simp
  show nflT _ = _
  unfold nflT
  rw [List.length_map, if_neg (by omega), List.findIdx?_eq_none_iff.mpr fun x hx => by obtain ⟨i, _, rfl⟩ := List.mem_map.mp hx; rfl]
  have e0 : (ns.map D.int).getD 0 .non = .int a := by rw [e]; rfl
  have e1 : (ns.map D.int).getD (ns.length - 1) .non = .int l := by
    rw [hl, e, List.getD_eq_getElem?_getD, List.getElem?_map, show m.length + 2 - 1 = m.length + 1 by omega, List.getElem?_cons_succ, List.getElem?_append_right (by omega)]
    simp
  simp only [e0, e1, toI]
theorem nfl_none {d : D} (h : nfl d = none) : ∃ ns : List Int, d = .tup (ns.map D.int) := by
  cases d with
  | tup xs =>
    have h : nflT xs = none := h
    unfold nflT at h
    by_cases c : xs.length < 2
    · rw [if_pos c] at h; cases h
    · rw [if_neg c] at h
      cases hn : xs.findIdx? (fun x => !isI x) with
      | some i => rw [hn] at h; cases h
      | none =>
        obtain ⟨ns, rfl⟩ := ints_or xs fun j d e => by
          have := List.findIdx?_eq_none_iff.mp hn d (List.mem_of_getElem? e)
          cases d <;> simp [isI] at this ⊢
        exact ⟨ns, rfl⟩
  | _ => cases h
theorem fold_mem {hs : List Int} : ∀ (l : List (Option (List Int))) (acc : Option (List Int)), l.foldl (fun acc x => if blw x acc then x else acc) acc = some hs → acc = some hs ∨ some hs ∈ l
  | [], acc, h => .inl h
  | x :: r, acc, h => by
    rw [List.foldl_cons] at h
    rcases fold_mem r _ h with h | h
    · by_cases c : blw x acc = true
      · rw [if_pos c] at h; exact .inr (by rw [h]; exact List.mem_cons_self)
      · rw [if_neg c] at h; exact .inl h
    · exact .inr (List.mem_cons_of_mem _ h)
theorem lst_nones : ∀ (n : Nat), lst_of (List.replicate n none) = none := fun n => by
  cases h : lst_of (List.replicate n none) with
  | none => rfl
  | some hs =>
    rcases fold_mem _ _ h with z | z
    · cases z
    · have := List.eq_of_mem_replicate z; cases this
theorem nfl_num {ns : List Int} (h : Num 15 ns) : nfl (nm ns) = none := by
  obtain ⟨a, m, l, e, a0, l0, l1, _⟩ := h
  have := nfl_ints e
  rw [if_neg (by omega), if_pos (by omega)] at this
  exact this
end K01
namespace K01
open PySem PySem.Spec PyProof.Rows L2 Y
theorem pu_law_box : ∀ ds S Q, sp_law_box ds S Q NoX → rd_law_box { nx := fun _ S => Q .non S, rt := Q } (start' 4 ds) S := by
  rintro _ S Q ⟨ns, k, rfl, hl, hk0, hk1, q⟩
  unfold rd_law_box
  simp -implicitDefEqProofs only [rVar, rC, rBin, rUn, rTst, rChn, rTru, rAnd, rOr, rNot, rAndV, rOrV, rNotV, rIf, rNil, rCons, rTup, rLst, rFn, rCall, rCallK, rSl, rPrt, rNoP, rMt, gNm, q_gN, q_gC, q_gTp, gSb, rNext, rSeq, rDrop, rRet, rRetN, rBrk, rCnt, rIfS, rSet, rPar, rFor, iSeq, iLst, iRg1, iRg2, iZp, iEn, iStrD, rLc, rYes, q_isi2, q_i2N, q_i2B, q_i2I, q_i2S, q_i2T, q_i2L, q_j2N, q_j2B, q_j2I, q_j2S, q_j2T, q_j2L, q_gt2, q_gtT, q_en, q_int2, q_strD, q_rev, q_ixo, q_ext2, q_extT, q_in, q_ins, q_pop, q_any, En.x, wipeD, start', List.getElem?_cons_zero, List.getElem?_cons_succ, List.set_cons_zero, List.set_cons_succ, List.map_cons, List.map_nil, List.length_cons, List.length_nil, List.cons_append, List.nil_append, List.replicate_succ, List.replicate_zero, id, q_asB, q_asI, q_add, q_addS, q_addT, q_addL, q_int, q_sub, q_mul, q_fdiv, q_mod, q_pow, q_neg, q_le, q_ge, q_gt, q_lt, q_ltT, q_isN, q_isB, q_isBi, q_isBs, q_isBn, q_isBt, q_isnt, n_non, n_bl, n_int, n_str, n_tup, n_ref, q_eq, q_eqS, q_eqB, q_ixT, q_ixK, q_ixL, q_ixS, q_slT, q_slL, q_slS, q_set, q_lenT, q_lenK, q_lenS, q_lenL, q_abs, q_intF, q_max, q_min, q_tupT, q_tupL, q_lstT, q_lstL, q_app, q_ext, q_joinL, q_stw, q_seq, q_lst, q_rng, q_rng2, q_zpT, q_zpL, q_truN, q_truB, q_truI, q_truT, q_truL, t_non, t_bl, t_int, t_str, t_tup, q_isiN, q_isiB, q_isiI, q_isiS, q_isiT, i_NoneType_int, i_NoneType_bool, i_NoneType_tuple, i_NoneType_list, i_NoneType_str, i_bool_int, i_bool_bool, i_bool_tuple, i_bool_list, i_bool_str, i_int_int, i_int_bool, i_int_tuple, i_int_list, i_int_str, i_str_int, i_str_bool, i_str_tuple, i_str_list, i_str_str, i_tuple_int, i_tuple_bool, i_tuple_tuple, i_tuple_list, i_tuple_str, i_list_int, i_list_bool, i_list_tuple, i_list_list, i_list_str, i_dict_int, i_dict_bool, i_dict_tuple, i_dict_list, i_dict_str, up_same, g_02, g_02', g_01, g_11, at_0, at_1, ix_0, ix_1, Option.some.injEq, HQ.lst.injEq, exists_eq_left', exists_eq_left, exists_and_left, exists_eq', exists_eq, decide_eq_true_eq, if_true, if_false, ite_true, ite_false, Bool.false_eq_true, reduceIte, reduceCtorEq, Bool.not_true, Bool.not_false, Nat.zero_add, Nat.reduceAdd, Nat.reduceSub, Nat.reduceLeDiff, Nat.reduceLT, Int.reduceLT, Int.reduceLE, Int.reduceEq, Int.reduceNe, Nat.reduceEqDiff, Int.reduceToNat, Int.reducePow, Int.reduceMul, Int.reduceAdd, Int.reduceSub, Int.reduceNeg, and_true, true_and, decide_true, decide_false, rFld, rSetF, rMet, rMetX, rMake, rBy, Y.rIsE, rCallX, rRaise, rTryAs, rTryOnly, rGd, q_fld, q_sfld, q_met, q_isntB, iEnX, iEn4, e4_t, e4_s, e4_k, e4_r, v_t, v_s, q_lset, q_remD, rNv, a_i, a_s, a_t, a_r, a_k, m_T, m_F, v_r, v_k, lg_r, lg_k, t_t, t_r, t_k, l_t, l_r, l_k, s_t, s_s, s_r, s_k, o_1, j_1, y_1, y_2, y_3, z_tt, z_r, z_k, e_1, k_ii, k_ss, k_bb, k_nn, k_tt, k_r, k_k, n_t, n_r, n_k, u_ii, u_si, lj_1, rLstF, rLcF, rFz, rSlM, iZp3, iEn3, eqvAll_nil, pds_emp, iAny, sq_k, sq_r, ls_t, or_false, false_or, fz_r, fz_k, fz_t, fz_n, fz_b, fz_s, q_lstK, q_truK, t_kl, q_isiK, iRevY, rv_r, rv_k, rv_t, rAug, q_i2K, q_j2K, q_srtB, at_2, at_3, q_strF, rPar3, g_03a, g_03b, g_03c, g_03d, g_03e, g_03f, rLam, rAsk, rCallXK, q_ext3, q_ext3T, q_ext3K, rDc, rDNew, gDk, rLock, rLockE, iKys, iVls, iIts, k_inS, k_inI, k_getS, k_getI, k_setS, k_setI, rMetK, rMakeK, q_srtTx, k_srt, k_len, k_keys, k_vals, k_items, List.length_map]
  have hn : (0 : Int) ≤ ns.length := by omega
  refine ⟨cm_l (by decide) (by decide), ?_⟩
  split
  · rename_i h
    obtain ⟨n, _, e, _⟩ := at_ints hk0 h
    simp -implicitDefEqProofs only [rVar, rC, rBin, rUn, rTst, rChn, rTru, rAnd, rOr, rNot, rAndV, rOrV, rNotV, rIf, rNil, rCons, rTup, rLst, rFn, rCall, rCallK, rSl, rPrt, rNoP, rMt, gNm, q_gN, q_gC, q_gTp, gSb, rNext, rSeq, rDrop, rRet, rRetN, rBrk, rCnt, rIfS, rSet, rPar, rFor, iSeq, iLst, iRg1, iRg2, iZp, iEn, iStrD, rLc, rYes, q_isi2, q_i2N, q_i2B, q_i2I, q_i2S, q_i2T, q_i2L, q_j2N, q_j2B, q_j2I, q_j2S, q_j2T, q_j2L, q_gt2, q_gtT, q_en, q_int2, q_strD, q_rev, q_ixo, q_ext2, q_extT, q_in, q_ins, q_pop, q_any, En.x, wipeD, start', List.getElem?_cons_zero, List.getElem?_cons_succ, List.set_cons_zero, List.set_cons_succ, List.map_cons, List.map_nil, List.length_cons, List.length_nil, List.cons_append, List.nil_append, List.replicate_succ, List.replicate_zero, id, q_asB, q_asI, q_add, q_addS, q_addT, q_addL, q_int, q_sub, q_mul, q_fdiv, q_mod, q_pow, q_neg, q_le, q_ge, q_gt, q_lt, q_ltT, q_isN, q_isB, q_isBi, q_isBs, q_isBn, q_isBt, q_isnt, n_non, n_bl, n_int, n_str, n_tup, n_ref, q_eq, q_eqS, q_eqB, q_ixT, q_ixK, q_ixL, q_ixS, q_slT, q_slL, q_slS, q_set, q_lenT, q_lenK, q_lenS, q_lenL, q_abs, q_intF, q_max, q_min, q_tupT, q_tupL, q_lstT, q_lstL, q_app, q_ext, q_joinL, q_stw, q_seq, q_lst, q_rng, q_rng2, q_zpT, q_zpL, q_truN, q_truB, q_truI, q_truT, q_truL, t_non, t_bl, t_int, t_str, t_tup, q_isiN, q_isiB, q_isiI, q_isiS, q_isiT, i_NoneType_int, i_NoneType_bool, i_NoneType_tuple, i_NoneType_list, i_NoneType_str, i_bool_int, i_bool_bool, i_bool_tuple, i_bool_list, i_bool_str, i_int_int, i_int_bool, i_int_tuple, i_int_list, i_int_str, i_str_int, i_str_bool, i_str_tuple, i_str_list, i_str_str, i_tuple_int, i_tuple_bool, i_tuple_tuple, i_tuple_list, i_tuple_str, i_list_int, i_list_bool, i_list_tuple, i_list_list, i_list_str, i_dict_int, i_dict_bool, i_dict_tuple, i_dict_list, i_dict_str, up_same, g_02, g_02', g_01, g_11, at_0, at_1, ix_0, ix_1, Option.some.injEq, HQ.lst.injEq, exists_eq_left', exists_eq_left, exists_and_left, exists_eq', exists_eq, decide_eq_true_eq, if_true, if_false, ite_true, ite_false, Bool.false_eq_true, reduceIte, reduceCtorEq, Bool.not_true, Bool.not_false, Nat.zero_add, Nat.reduceAdd, Nat.reduceSub, Nat.reduceLeDiff, Nat.reduceLT, Int.reduceLT, Int.reduceLE, Int.reduceEq, Int.reduceNe, Nat.reduceEqDiff, Int.reduceToNat, Int.reducePow, Int.reduceMul, Int.reduceAdd, Int.reduceSub, Int.reduceNeg, and_true, true_and, decide_true, decide_false, rFld, rSetF, rMet, rMetX, rMake, rBy, Y.rIsE, rCallX, rRaise, rTryAs, rTryOnly, rGd, q_fld, q_sfld, q_met, q_isntB, iEnX, iEn4, e4_t, e4_s, e4_k, e4_r, v_t, v_s, q_lset, q_remD, rNv, a_i, a_s, a_t, a_r, a_k, m_T, m_F, v_r, v_k, lg_r, lg_k, t_t, t_r, t_k, l_t, l_r, l_k, s_t, s_s, s_r, s_k, o_1, j_1, y_1, y_2, y_3, z_tt, z_r, z_k, e_1, k_ii, k_ss, k_bb, k_nn, k_tt, k_r, k_k, n_t, n_r, n_k, u_ii, u_si, lj_1, rLstF, rLcF, rFz, rSlM, iZp3, iEn3, eqvAll_nil, pds_emp, iAny, sq_k, sq_r, ls_t, or_false, false_or, fz_r, fz_k, fz_t, fz_n, fz_b, fz_s, q_lstK, q_truK, t_kl, q_isiK, iRevY, rv_r, rv_k, rv_t, rAug, q_i2K, q_j2K, q_srtB, at_2, at_3, q_strF, rPar3, g_03a, g_03b, g_03c, g_03d, g_03e, g_03f, rLam, rAsk, rCallXK, q_ext3, q_ext3T, q_ext3K, rDc, rDNew, gDk, rLock, rLockE, iKys, iVls, iIts, k_inS, k_inI, k_getS, k_getI, k_setS, k_setI, rMetK, rMakeK, q_srtTx, k_srt, k_len, k_keys, k_vals, k_items, e]
    refine ⟨⟨by decide, by decide, by decide, by decide⟩, ?_⟩
    (repeat' split) <;> exact ⟨cm_r (by decide) (by decide), cm_l (by decide) (by decide), fun p hp => q p _ _ hp⟩
  · split
    · rename_i h
      obtain ⟨n, _, e, _⟩ := at_ints (Int.emod_nonneg k (by omega)) (Int.emod_lt_of_pos k h)
      refine ⟨h, ?_⟩
      simp -implicitDefEqProofs only [rVar, rC, rBin, rUn, rTst, rChn, rTru, rAnd, rOr, rNot, rAndV, rOrV, rNotV, rIf, rNil, rCons, rTup, rLst, rFn, rCall, rCallK, rSl, rPrt, rNoP, rMt, gNm, q_gN, q_gC, q_gTp, gSb, rNext, rSeq, rDrop, rRet, rRetN, rBrk, rCnt, rIfS, rSet, rPar, rFor, iSeq, iLst, iRg1, iRg2, iZp, iEn, iStrD, rLc, rYes, q_isi2, q_i2N, q_i2B, q_i2I, q_i2S, q_i2T, q_i2L, q_j2N, q_j2B, q_j2I, q_j2S, q_j2T, q_j2L, q_gt2, q_gtT, q_en, q_int2, q_strD, q_rev, q_ixo, q_ext2, q_extT, q_in, q_ins, q_pop, q_any, En.x, wipeD, start', List.getElem?_cons_zero, List.getElem?_cons_succ, List.set_cons_zero, List.set_cons_succ, List.map_cons, List.map_nil, List.length_cons, List.length_nil, List.cons_append, List.nil_append, List.replicate_succ, List.replicate_zero, id, q_asB, q_asI, q_add, q_addS, q_addT, q_addL, q_int, q_sub, q_mul, q_fdiv, q_mod, q_pow, q_neg, q_le, q_ge, q_gt, q_lt, q_ltT, q_isN, q_isB, q_isBi, q_isBs, q_isBn, q_isBt, q_isnt, n_non, n_bl, n_int, n_str, n_tup, n_ref, q_eq, q_eqS, q_eqB, q_ixT, q_ixK, q_ixL, q_ixS, q_slT, q_slL, q_slS, q_set, q_lenT, q_lenK, q_lenS, q_lenL, q_abs, q_intF, q_max, q_min, q_tupT, q_tupL, q_lstT, q_lstL, q_app, q_ext, q_joinL, q_stw, q_seq, q_lst, q_rng, q_rng2, q_zpT, q_zpL, q_truN, q_truB, q_truI, q_truT, q_truL, t_non, t_bl, t_int, t_str, t_tup, q_isiN, q_isiB, q_isiI, q_isiS, q_isiT, i_NoneType_int, i_NoneType_bool, i_NoneType_tuple, i_NoneType_list, i_NoneType_str, i_bool_int, i_bool_bool, i_bool_tuple, i_bool_list, i_bool_str, i_int_int, i_int_bool, i_int_tuple, i_int_list, i_int_str, i_str_int, i_str_bool, i_str_tuple, i_str_list, i_str_str, i_tuple_int, i_tuple_bool, i_tuple_tuple, i_tuple_list, i_tuple_str, i_list_int, i_list_bool, i_list_tuple, i_list_list, i_list_str, i_dict_int, i_dict_bool, i_dict_tuple, i_dict_list, i_dict_str, up_same, g_02, g_02', g_01, g_11, at_0, at_1, ix_0, ix_1, Option.some.injEq, HQ.lst.injEq, exists_eq_left', exists_eq_left, exists_and_left, exists_eq', exists_eq, decide_eq_true_eq, if_true, if_false, ite_true, ite_false, Bool.false_eq_true, reduceIte, reduceCtorEq, Bool.not_true, Bool.not_false, Nat.zero_add, Nat.reduceAdd, Nat.reduceSub, Nat.reduceLeDiff, Nat.reduceLT, Int.reduceLT, Int.reduceLE, Int.reduceEq, Int.reduceNe, Nat.reduceEqDiff, Int.reduceToNat, Int.reducePow, Int.reduceMul, Int.reduceAdd, Int.reduceSub, Int.reduceNeg, and_true, true_and, decide_true, decide_false, rFld, rSetF, rMet, rMetX, rMake, rBy, Y.rIsE, rCallX, rRaise, rTryAs, rTryOnly, rGd, q_fld, q_sfld, q_met, q_isntB, iEnX, iEn4, e4_t, e4_s, e4_k, e4_r, v_t, v_s, q_lset, q_remD, rNv, a_i, a_s, a_t, a_r, a_k, m_T, m_F, v_r, v_k, lg_r, lg_k, t_t, t_r, t_k, l_t, l_r, l_k, s_t, s_s, s_r, s_k, o_1, j_1, y_1, y_2, y_3, z_tt, z_r, z_k, e_1, k_ii, k_ss, k_bb, k_nn, k_tt, k_r, k_k, n_t, n_r, n_k, u_ii, u_si, lj_1, rLstF, rLcF, rFz, rSlM, iZp3, iEn3, eqvAll_nil, pds_emp, iAny, sq_k, sq_r, ls_t, or_false, false_or, fz_r, fz_k, fz_t, fz_n, fz_b, fz_s, q_lstK, q_truK, t_kl, q_isiK, iRevY, rv_r, rv_k, rv_t, rAug, q_i2K, q_j2K, q_srtB, at_2, at_3, q_strF, rPar3, g_03a, g_03b, g_03c, g_03d, g_03e, g_03f, rLam, rAsk, rCallXK, q_ext3, q_ext3T, q_ext3K, rDc, rDNew, gDk, rLock, rLockE, iKys, iVls, iIts, k_inS, k_inI, k_getS, k_getI, k_setS, k_setI, rMetK, rMakeK, q_srtTx, k_srt, k_len, k_keys, k_vals, k_items, e]
      refine ⟨cm_r (by decide) (by decide), ⟨by decide, by decide, by decide, by decide⟩, ?_⟩
      (repeat' split) <;> exact ⟨cm_r (by decide) (by decide), cm_l (by decide) (by decide), fun p hp => q p _ _ hp⟩
    · refine ⟨⟨by decide, by decide, by decide, by decide⟩, ?_⟩
      (repeat' split) <;> exact ⟨cm_r (by decide) (by decide), cm_l (by decide) (by decide), fun p hp => q p _ _ hp⟩
end K01
namespace K01
open PySem PySem.Spec PyProof.Rows L2 Y
theorem pu_law_take : ∀ ds S Q, sp_law_take ds S Q NoX → rd_law_take { nx := fun _ S => Q .non S, rt := Q } (start' 4 ds) S := by
  rintro _ S Q ⟨b, n, rfl, ⟨g, s, hb⟩, hn, hn2, k⟩
  unfold rd_law_take
  simp -implicitDefEqProofs only [rVar, rC, rBin, rUn, rTst, rChn, rTru, rAnd, rOr, rNot, rAndV, rOrV, rNotV, rIf, rNil, rCons, rTup, rLst, rFn, rCall, rCallK, rSl, rPrt, rNoP, rMt, gNm, q_gN, q_gC, q_gTp, gSb, rNext, rSeq, rDrop, rRet, rRetN, rBrk, rCnt, rIfS, rSet, rPar, rFor, iSeq, iLst, iRg1, iRg2, iZp, iEn, iStrD, rLc, rYes, q_isi2, q_i2N, q_i2B, q_i2I, q_i2S, q_i2T, q_i2L, q_j2N, q_j2B, q_j2I, q_j2S, q_j2T, q_j2L, q_gt2, q_gtT, q_en, q_int2, q_strD, q_rev, q_ixo, q_ext2, q_extT, q_in, q_ins, q_pop, q_any, En.x, wipeD, start', List.getElem?_cons_zero, List.getElem?_cons_succ, List.set_cons_zero, List.set_cons_succ, List.map_cons, List.map_nil, List.length_cons, List.length_nil, List.cons_append, List.nil_append, List.replicate_succ, List.replicate_zero, id, q_asB, q_asI, q_add, q_addS, q_addT, q_addL, q_int, q_sub, q_mul, q_fdiv, q_mod, q_pow, q_neg, q_le, q_ge, q_gt, q_lt, q_ltT, q_isN, q_isB, q_isBi, q_isBs, q_isBn, q_isBt, q_isnt, n_non, n_bl, n_int, n_str, n_tup, n_ref, q_eq, q_eqS, q_eqB, q_ixT, q_ixK, q_ixL, q_ixS, q_slT, q_slL, q_slS, q_set, q_lenT, q_lenK, q_lenS, q_lenL, q_abs, q_intF, q_max, q_min, q_tupT, q_tupL, q_lstT, q_lstL, q_app, q_ext, q_joinL, q_stw, q_seq, q_lst, q_rng, q_rng2, q_zpT, q_zpL, q_truN, q_truB, q_truI, q_truT, q_truL, t_non, t_bl, t_int, t_str, t_tup, q_isiN, q_isiB, q_isiI, q_isiS, q_isiT, i_NoneType_int, i_NoneType_bool, i_NoneType_tuple, i_NoneType_list, i_NoneType_str, i_bool_int, i_bool_bool, i_bool_tuple, i_bool_list, i_bool_str, i_int_int, i_int_bool, i_int_tuple, i_int_list, i_int_str, i_str_int, i_str_bool, i_str_tuple, i_str_list, i_str_str, i_tuple_int, i_tuple_bool, i_tuple_tuple, i_tuple_list, i_tuple_str, i_list_int, i_list_bool, i_list_tuple, i_list_list, i_list_str, i_dict_int, i_dict_bool, i_dict_tuple, i_dict_list, i_dict_str, up_same, g_02, g_02', g_01, g_11, at_0, at_1, ix_0, ix_1, Option.some.injEq, HQ.lst.injEq, exists_eq_left', exists_eq_left, exists_and_left, exists_eq', exists_eq, decide_eq_true_eq, if_true, if_false, ite_true, ite_false, Bool.false_eq_true, reduceIte, reduceCtorEq, Bool.not_true, Bool.not_false, Nat.zero_add, Nat.reduceAdd, Nat.reduceSub, Nat.reduceLeDiff, Nat.reduceLT, Int.reduceLT, Int.reduceLE, Int.reduceEq, Int.reduceNe, Nat.reduceEqDiff, Int.reduceToNat, Int.reducePow, Int.reduceMul, Int.reduceAdd, Int.reduceSub, Int.reduceNeg, and_true, true_and, decide_true, decide_false, rFld, rSetF, rMet, rMetX, rMake, rBy, Y.rIsE, rCallX, rRaise, rTryAs, rTryOnly, rGd, q_fld, q_sfld, q_met, q_isntB, iEnX, iEn4, e4_t, e4_s, e4_k, e4_r, v_t, v_s, q_lset, q_remD, rNv, a_i, a_s, a_t, a_r, a_k, m_T, m_F, v_r, v_k, lg_r, lg_k, t_t, t_r, t_k, l_t, l_r, l_k, s_t, s_s, s_r, s_k, o_1, j_1, y_1, y_2, y_3, z_tt, z_r, z_k, e_1, k_ii, k_ss, k_bb, k_nn, k_tt, k_r, k_k, n_t, n_r, n_k, u_ii, u_si, lj_1, rLstF, rLcF, rFz, rSlM, iZp3, iEn3, eqvAll_nil, pds_emp, iAny, sq_k, sq_r, ls_t, or_false, false_or, fz_r, fz_k, fz_t, fz_n, fz_b, fz_s, q_lstK, q_truK, t_kl, q_isiK, iRevY, rv_r, rv_k, rv_t, rAug, q_i2K, q_j2K, q_srtB, at_2, at_3, q_strF, rPar3, g_03a, g_03b, g_03c, g_03d, g_03e, g_03f, rLam, rAsk, rCallXK, q_ext3, q_ext3T, q_ext3K, rDc, rDNew, gDk, rLock, rLockE, iKys, iVls, iIts, k_inS, k_inI, k_getS, k_getI, k_setS, k_setI, rMetK, rMakeK, q_srtTx, k_srt, k_len, k_keys, k_vals, k_items, hb, up_same, hn]
  split
  · exact ⟨⟨hn, by omega⟩, k _ _ (Int.emod_nonneg _ (by omega)) (Int.emod_lt_of_pos _ hn) .put⟩
  · exact ⟨cm_r (by decide) (by decide), cm_r (by decide) (by decide), cm_r (by decide) (by decide), ⟨by decide, by decide⟩, k _ _ (Int.emod_nonneg _ (by omega)) (Int.emod_lt_of_pos _ hn) .put⟩
end K01
namespace K01
open PySem PySem.Spec PyProof.Rows L2 Y
theorem pu_law_pick : ∀ ds S Q, sp_law_pick ds S Q NoX → rd_law_pick { nx := fun _ S => Q .non S, rt := Q } (start' 2 ds) S := by
  rintro _ S Q ⟨b, x, xs, rfl, hb, hx, h0, h1, k⟩
  unfold rd_law_pick
  rcases hx with rfl | rfl | ⟨a, rfl, ne, ha⟩
  · simp -implicitDefEqProofs only [rVar, rC, rBin, rUn, rTst, rChn, rTru, rAnd, rOr, rNot, rAndV, rOrV, rNotV, rIf, rNil, rCons, rTup, rLst, rFn, rCall, rCallK, rSl, rPrt, rNoP, rMt, gNm, q_gN, q_gC, q_gTp, gSb, rNext, rSeq, rDrop, rRet, rRetN, rBrk, rCnt, rIfS, rSet, rPar, rFor, iSeq, iLst, iRg1, iRg2, iZp, iEn, iStrD, rLc, rYes, q_isi2, q_i2N, q_i2B, q_i2I, q_i2S, q_i2T, q_i2L, q_j2N, q_j2B, q_j2I, q_j2S, q_j2T, q_j2L, q_gt2, q_gtT, q_en, q_int2, q_strD, q_rev, q_ixo, q_ext2, q_extT, q_in, q_ins, q_pop, q_any, En.x, wipeD, start', List.getElem?_cons_zero, List.getElem?_cons_succ, List.set_cons_zero, List.set_cons_succ, List.map_cons, List.map_nil, List.length_cons, List.length_nil, List.cons_append, List.nil_append, List.replicate_succ, List.replicate_zero, id, q_asB, q_asI, q_add, q_addS, q_addT, q_addL, q_int, q_sub, q_mul, q_fdiv, q_mod, q_pow, q_neg, q_le, q_ge, q_gt, q_lt, q_ltT, q_isN, q_isB, q_isBi, q_isBs, q_isBn, q_isBt, q_isnt, n_non, n_bl, n_int, n_str, n_tup, n_ref, q_eq, q_eqS, q_eqB, q_ixT, q_ixK, q_ixL, q_ixS, q_slT, q_slL, q_slS, q_set, q_lenT, q_lenK, q_lenS, q_lenL, q_abs, q_intF, q_max, q_min, q_tupT, q_tupL, q_lstT, q_lstL, q_app, q_ext, q_joinL, q_stw, q_seq, q_lst, q_rng, q_rng2, q_zpT, q_zpL, q_truN, q_truB, q_truI, q_truT, q_truL, t_non, t_bl, t_int, t_str, t_tup, q_isiN, q_isiB, q_isiI, q_isiS, q_isiT, i_NoneType_int, i_NoneType_bool, i_NoneType_tuple, i_NoneType_list, i_NoneType_str, i_bool_int, i_bool_bool, i_bool_tuple, i_bool_list, i_bool_str, i_int_int, i_int_bool, i_int_tuple, i_int_list, i_int_str, i_str_int, i_str_bool, i_str_tuple, i_str_list, i_str_str, i_tuple_int, i_tuple_bool, i_tuple_tuple, i_tuple_list, i_tuple_str, i_list_int, i_list_bool, i_list_tuple, i_list_list, i_list_str, i_dict_int, i_dict_bool, i_dict_tuple, i_dict_list, i_dict_str, up_same, g_02, g_02', g_01, g_11, at_0, at_1, ix_0, ix_1, Option.some.injEq, HQ.lst.injEq, exists_eq_left', exists_eq_left, exists_and_left, exists_eq', exists_eq, decide_eq_true_eq, if_true, if_false, ite_true, ite_false, Bool.false_eq_true, reduceIte, reduceCtorEq, Bool.not_true, Bool.not_false, Nat.zero_add, Nat.reduceAdd, Nat.reduceSub, Nat.reduceLeDiff, Nat.reduceLT, Int.reduceLT, Int.reduceLE, Int.reduceEq, Int.reduceNe, Nat.reduceEqDiff, Int.reduceToNat, Int.reducePow, Int.reduceMul, Int.reduceAdd, Int.reduceSub, Int.reduceNeg, and_true, true_and, decide_true, decide_false, rFld, rSetF, rMet, rMetX, rMake, rBy, Y.rIsE, rCallX, rRaise, rTryAs, rTryOnly, rGd, q_fld, q_sfld, q_met, q_isntB, iEnX, iEn4, e4_t, e4_s, e4_k, e4_r, v_t, v_s, q_lset, q_remD, rNv, a_i, a_s, a_t, a_r, a_k, m_T, m_F, v_r, v_k, lg_r, lg_k, t_t, t_r, t_k, l_t, l_r, l_k, s_t, s_s, s_r, s_k, o_1, j_1, y_1, y_2, y_3, z_tt, z_r, z_k, e_1, k_ii, k_ss, k_bb, k_nn, k_tt, k_r, k_k, n_t, n_r, n_k, u_ii, u_si, lj_1, rLstF, rLcF, rFz, rSlM, iZp3, iEn3, eqvAll_nil, pds_emp, iAny, sq_k, sq_r, ls_t, or_false, false_or, fz_r, fz_k, fz_t, fz_n, fz_b, fz_s, q_lstK, q_truK, t_kl, q_isiK, iRevY, rv_r, rv_k, rv_t, rAug, q_i2K, q_j2K, q_srtB, at_2, at_3, q_strF, rPar3, g_03a, g_03b, g_03c, g_03d, g_03e, g_03f, rLam, rAsk, rCallXK, q_ext3, q_ext3T, q_ext3K, rDc, rDNew, gDk, rLock, rLockE, iKys, iVls, iIts, k_inS, k_inI, k_getS, k_getI, k_setS, k_setI, rMetK, rMakeK, q_srtTx, k_srt, k_len, k_keys, k_vals, k_items]
    refine take_of hb (by omega) (by omega) fun r S' hr0 hr1 n => ?_
    obtain ⟨d, hd, e, _⟩ := at_in hr0 hr1
    simp -implicitDefEqProofs only [rVar, rC, rBin, rUn, rTst, rChn, rTru, rAnd, rOr, rNot, rAndV, rOrV, rNotV, rIf, rNil, rCons, rTup, rLst, rFn, rCall, rCallK, rSl, rPrt, rNoP, rMt, gNm, q_gN, q_gC, q_gTp, gSb, rNext, rSeq, rDrop, rRet, rRetN, rBrk, rCnt, rIfS, rSet, rPar, rFor, iSeq, iLst, iRg1, iRg2, iZp, iEn, iStrD, rLc, rYes, q_isi2, q_i2N, q_i2B, q_i2I, q_i2S, q_i2T, q_i2L, q_j2N, q_j2B, q_j2I, q_j2S, q_j2T, q_j2L, q_gt2, q_gtT, q_en, q_int2, q_strD, q_rev, q_ixo, q_ext2, q_extT, q_in, q_ins, q_pop, q_any, En.x, wipeD, start', List.getElem?_cons_zero, List.getElem?_cons_succ, List.set_cons_zero, List.set_cons_succ, List.map_cons, List.map_nil, List.length_cons, List.length_nil, List.cons_append, List.nil_append, List.replicate_succ, List.replicate_zero, id, q_asB, q_asI, q_add, q_addS, q_addT, q_addL, q_int, q_sub, q_mul, q_fdiv, q_mod, q_pow, q_neg, q_le, q_ge, q_gt, q_lt, q_ltT, q_isN, q_isB, q_isBi, q_isBs, q_isBn, q_isBt, q_isnt, n_non, n_bl, n_int, n_str, n_tup, n_ref, q_eq, q_eqS, q_eqB, q_ixT, q_ixK, q_ixL, q_ixS, q_slT, q_slL, q_slS, q_set, q_lenT, q_lenK, q_lenS, q_lenL, q_abs, q_intF, q_max, q_min, q_tupT, q_tupL, q_lstT, q_lstL, q_app, q_ext, q_joinL, q_stw, q_seq, q_lst, q_rng, q_rng2, q_zpT, q_zpL, q_truN, q_truB, q_truI, q_truT, q_truL, t_non, t_bl, t_int, t_str, t_tup, q_isiN, q_isiB, q_isiI, q_isiS, q_isiT, i_NoneType_int, i_NoneType_bool, i_NoneType_tuple, i_NoneType_list, i_NoneType_str, i_bool_int, i_bool_bool, i_bool_tuple, i_bool_list, i_bool_str, i_int_int, i_int_bool, i_int_tuple, i_int_list, i_int_str, i_str_int, i_str_bool, i_str_tuple, i_str_list, i_str_str, i_tuple_int, i_tuple_bool, i_tuple_tuple, i_tuple_list, i_tuple_str, i_list_int, i_list_bool, i_list_tuple, i_list_list, i_list_str, i_dict_int, i_dict_bool, i_dict_tuple, i_dict_list, i_dict_str, up_same, g_02, g_02', g_01, g_11, at_0, at_1, ix_0, ix_1, Option.some.injEq, HQ.lst.injEq, exists_eq_left', exists_eq_left, exists_and_left, exists_eq', exists_eq, decide_eq_true_eq, if_true, if_false, ite_true, ite_false, Bool.false_eq_true, reduceIte, reduceCtorEq, Bool.not_true, Bool.not_false, Nat.zero_add, Nat.reduceAdd, Nat.reduceSub, Nat.reduceLeDiff, Nat.reduceLT, Int.reduceLT, Int.reduceLE, Int.reduceEq, Int.reduceNe, Nat.reduceEqDiff, Int.reduceToNat, Int.reducePow, Int.reduceMul, Int.reduceAdd, Int.reduceSub, Int.reduceNeg, and_true, true_and, decide_true, decide_false, rFld, rSetF, rMet, rMetX, rMake, rBy, Y.rIsE, rCallX, rRaise, rTryAs, rTryOnly, rGd, q_fld, q_sfld, q_met, q_isntB, iEnX, iEn4, e4_t, e4_s, e4_k, e4_r, v_t, v_s, q_lset, q_remD, rNv, a_i, a_s, a_t, a_r, a_k, m_T, m_F, v_r, v_k, lg_r, lg_k, t_t, t_r, t_k, l_t, l_r, l_k, s_t, s_s, s_r, s_k, o_1, j_1, y_1, y_2, y_3, z_tt, z_r, z_k, e_1, k_ii, k_ss, k_bb, k_nn, k_tt, k_r, k_k, n_t, n_r, n_k, u_ii, u_si, lj_1, rLstF, rLcF, rFz, rSlM, iZp3, iEn3, eqvAll_nil, pds_emp, iAny, sq_k, sq_r, ls_t, or_false, false_or, fz_r, fz_k, fz_t, fz_n, fz_b, fz_s, q_lstK, q_truK, t_kl, q_isiK, iRevY, rv_r, rv_k, rv_t, rAug, q_i2K, q_j2K, q_srtB, at_2, at_3, q_strF, rPar3, g_03a, g_03b, g_03c, g_03d, g_03e, g_03f, rLam, rAsk, rCallXK, q_ext3, q_ext3T, q_ext3K, rDc, rDNew, gDk, rLock, rLockE, iKys, iVls, iIts, k_inS, k_inI, k_getS, k_getI, k_setS, k_setI, rMetK, rMakeK, q_srtTx, k_srt, k_len, k_keys, k_vals, k_items, e]
    exact k d S' hd n
  · simp -implicitDefEqProofs only [rVar, rC, rBin, rUn, rTst, rChn, rTru, rAnd, rOr, rNot, rAndV, rOrV, rNotV, rIf, rNil, rCons, rTup, rLst, rFn, rCall, rCallK, rSl, rPrt, rNoP, rMt, gNm, q_gN, q_gC, q_gTp, gSb, rNext, rSeq, rDrop, rRet, rRetN, rBrk, rCnt, rIfS, rSet, rPar, rFor, iSeq, iLst, iRg1, iRg2, iZp, iEn, iStrD, rLc, rYes, q_isi2, q_i2N, q_i2B, q_i2I, q_i2S, q_i2T, q_i2L, q_j2N, q_j2B, q_j2I, q_j2S, q_j2T, q_j2L, q_gt2, q_gtT, q_en, q_int2, q_strD, q_rev, q_ixo, q_ext2, q_extT, q_in, q_ins, q_pop, q_any, En.x, wipeD, start', List.getElem?_cons_zero, List.getElem?_cons_succ, List.set_cons_zero, List.set_cons_succ, List.map_cons, List.map_nil, List.length_cons, List.length_nil, List.cons_append, List.nil_append, List.replicate_succ, List.replicate_zero, id, q_asB, q_asI, q_add, q_addS, q_addT, q_addL, q_int, q_sub, q_mul, q_fdiv, q_mod, q_pow, q_neg, q_le, q_ge, q_gt, q_lt, q_ltT, q_isN, q_isB, q_isBi, q_isBs, q_isBn, q_isBt, q_isnt, n_non, n_bl, n_int, n_str, n_tup, n_ref, q_eq, q_eqS, q_eqB, q_ixT, q_ixK, q_ixL, q_ixS, q_slT, q_slL, q_slS, q_set, q_lenT, q_lenK, q_lenS, q_lenL, q_abs, q_intF, q_max, q_min, q_tupT, q_tupL, q_lstT, q_lstL, q_app, q_ext, q_joinL, q_stw, q_seq, q_lst, q_rng, q_rng2, q_zpT, q_zpL, q_truN, q_truB, q_truI, q_truT, q_truL, t_non, t_bl, t_int, t_str, t_tup, q_isiN, q_isiB, q_isiI, q_isiS, q_isiT, i_NoneType_int, i_NoneType_bool, i_NoneType_tuple, i_NoneType_list, i_NoneType_str, i_bool_int, i_bool_bool, i_bool_tuple, i_bool_list, i_bool_str, i_int_int, i_int_bool, i_int_tuple, i_int_list, i_int_str, i_str_int, i_str_bool, i_str_tuple, i_str_list, i_str_str, i_tuple_int, i_tuple_bool, i_tuple_tuple, i_tuple_list, i_tuple_str, i_list_int, i_list_bool, i_list_tuple, i_list_list, i_list_str, i_dict_int, i_dict_bool, i_dict_tuple, i_dict_list, i_dict_str, up_same, g_02, g_02', g_01, g_11, at_0, at_1, ix_0, ix_1, Option.some.injEq, HQ.lst.injEq, exists_eq_left', exists_eq_left, exists_and_left, exists_eq', exists_eq, decide_eq_true_eq, if_true, if_false, ite_true, ite_false, Bool.false_eq_true, reduceIte, reduceCtorEq, Bool.not_true, Bool.not_false, Nat.zero_add, Nat.reduceAdd, Nat.reduceSub, Nat.reduceLeDiff, Nat.reduceLT, Int.reduceLT, Int.reduceLE, Int.reduceEq, Int.reduceNe, Nat.reduceEqDiff, Int.reduceToNat, Int.reducePow, Int.reduceMul, Int.reduceAdd, Int.reduceSub, Int.reduceNeg, and_true, true_and, decide_true, decide_false, rFld, rSetF, rMet, rMetX, rMake, rBy, Y.rIsE, rCallX, rRaise, rTryAs, rTryOnly, rGd, q_fld, q_sfld, q_met, q_isntB, iEnX, iEn4, e4_t, e4_s, e4_k, e4_r, v_t, v_s, q_lset, q_remD, rNv, a_i, a_s, a_t, a_r, a_k, m_T, m_F, v_r, v_k, lg_r, lg_k, t_t, t_r, t_k, l_t, l_r, l_k, s_t, s_s, s_r, s_k, o_1, j_1, y_1, y_2, y_3, z_tt, z_r, z_k, e_1, k_ii, k_ss, k_bb, k_nn, k_tt, k_r, k_k, n_t, n_r, n_k, u_ii, u_si, lj_1, rLstF, rLcF, rFz, rSlM, iZp3, iEn3, eqvAll_nil, pds_emp, iAny, sq_k, sq_r, ls_t, or_false, false_or, fz_r, fz_k, fz_t, fz_n, fz_b, fz_s, q_lstK, q_truK, t_kl, q_isiK, iRevY, rv_r, rv_k, rv_t, rAug, q_i2K, q_j2K, q_srtB, at_2, at_3, q_strF, rPar3, g_03a, g_03b, g_03c, g_03d, g_03e, g_03f, rLam, rAsk, rCallXK, q_ext3, q_ext3T, q_ext3K, rDc, rDNew, gDk, rLock, rLockE, iKys, iVls, iIts, k_inS, k_inI, k_getS, k_getI, k_setS, k_setI, rMetK, rMakeK, q_srtTx, k_srt, k_len, k_keys, k_vals, k_items]
    refine take_of hb (by omega) (by omega) fun r S' hr0 hr1 n => ?_
    obtain ⟨d, hd, e, _⟩ := at_in hr0 hr1
    simp -implicitDefEqProofs only [rVar, rC, rBin, rUn, rTst, rChn, rTru, rAnd, rOr, rNot, rAndV, rOrV, rNotV, rIf, rNil, rCons, rTup, rLst, rFn, rCall, rCallK, rSl, rPrt, rNoP, rMt, gNm, q_gN, q_gC, q_gTp, gSb, rNext, rSeq, rDrop, rRet, rRetN, rBrk, rCnt, rIfS, rSet, rPar, rFor, iSeq, iLst, iRg1, iRg2, iZp, iEn, iStrD, rLc, rYes, q_isi2, q_i2N, q_i2B, q_i2I, q_i2S, q_i2T, q_i2L, q_j2N, q_j2B, q_j2I, q_j2S, q_j2T, q_j2L, q_gt2, q_gtT, q_en, q_int2, q_strD, q_rev, q_ixo, q_ext2, q_extT, q_in, q_ins, q_pop, q_any, En.x, wipeD, start', List.getElem?_cons_zero, List.getElem?_cons_succ, List.set_cons_zero, List.set_cons_succ, List.map_cons, List.map_nil, List.length_cons, List.length_nil, List.cons_append, List.nil_append, List.replicate_succ, List.replicate_zero, id, q_asB, q_asI, q_add, q_addS, q_addT, q_addL, q_int, q_sub, q_mul, q_fdiv, q_mod, q_pow, q_neg, q_le, q_ge, q_gt, q_lt, q_ltT, q_isN, q_isB, q_isBi, q_isBs, q_isBn, q_isBt, q_isnt, n_non, n_bl, n_int, n_str, n_tup, n_ref, q_eq, q_eqS, q_eqB, q_ixT, q_ixK, q_ixL, q_ixS, q_slT, q_slL, q_slS, q_set, q_lenT, q_lenK, q_lenS, q_lenL, q_abs, q_intF, q_max, q_min, q_tupT, q_tupL, q_lstT, q_lstL, q_app, q_ext, q_joinL, q_stw, q_seq, q_lst, q_rng, q_rng2, q_zpT, q_zpL, q_truN, q_truB, q_truI, q_truT, q_truL, t_non, t_bl, t_int, t_str, t_tup, q_isiN, q_isiB, q_isiI, q_isiS, q_isiT, i_NoneType_int, i_NoneType_bool, i_NoneType_tuple, i_NoneType_list, i_NoneType_str, i_bool_int, i_bool_bool, i_bool_tuple, i_bool_list, i_bool_str, i_int_int, i_int_bool, i_int_tuple, i_int_list, i_int_str, i_str_int, i_str_bool, i_str_tuple, i_str_list, i_str_str, i_tuple_int, i_tuple_bool, i_tuple_tuple, i_tuple_list, i_tuple_str, i_list_int, i_list_bool, i_list_tuple, i_list_list, i_list_str, i_dict_int, i_dict_bool, i_dict_tuple, i_dict_list, i_dict_str, up_same, g_02, g_02', g_01, g_11, at_0, at_1, ix_0, ix_1, Option.some.injEq, HQ.lst.injEq, exists_eq_left', exists_eq_left, exists_and_left, exists_eq', exists_eq, decide_eq_true_eq, if_true, if_false, ite_true, ite_false, Bool.false_eq_true, reduceIte, reduceCtorEq, Bool.not_true, Bool.not_false, Nat.zero_add, Nat.reduceAdd, Nat.reduceSub, Nat.reduceLeDiff, Nat.reduceLT, Int.reduceLT, Int.reduceLE, Int.reduceEq, Int.reduceNe, Nat.reduceEqDiff, Int.reduceToNat, Int.reducePow, Int.reduceMul, Int.reduceAdd, Int.reduceSub, Int.reduceNeg, and_true, true_and, decide_true, decide_false, rFld, rSetF, rMet, rMetX, rMake, rBy, Y.rIsE, rCallX, rRaise, rTryAs, rTryOnly, rGd, q_fld, q_sfld, q_met, q_isntB, iEnX, iEn4, e4_t, e4_s, e4_k, e4_r, v_t, v_s, q_lset, q_remD, rNv, a_i, a_s, a_t, a_r, a_k, m_T, m_F, v_r, v_k, lg_r, lg_k, t_t, t_r, t_k, l_t, l_r, l_k, s_t, s_s, s_r, s_k, o_1, j_1, y_1, y_2, y_3, z_tt, z_r, z_k, e_1, k_ii, k_ss, k_bb, k_nn, k_tt, k_r, k_k, n_t, n_r, n_k, u_ii, u_si, lj_1, rLstF, rLcF, rFz, rSlM, iZp3, iEn3, eqvAll_nil, pds_emp, iAny, sq_k, sq_r, ls_t, or_false, false_or, fz_r, fz_k, fz_t, fz_n, fz_b, fz_s, q_lstK, q_truK, t_kl, q_isiK, iRevY, rv_r, rv_k, rv_t, rAug, q_i2K, q_j2K, q_srtB, at_2, at_3, q_strF, rPar3, g_03a, g_03b, g_03c, g_03d, g_03e, g_03f, rLam, rAsk, rCallXK, q_ext3, q_ext3T, q_ext3K, rDc, rDNew, gDk, rLock, rLockE, iKys, iVls, iIts, k_inS, k_inI, k_getS, k_getI, k_setS, k_setI, rMetK, rMakeK, q_srtTx, k_srt, k_len, k_keys, k_vals, k_items, e]
    exact k d S' hd n
  · simp -implicitDefEqProofs only [rVar, rC, rBin, rUn, rTst, rChn, rTru, rAnd, rOr, rNot, rAndV, rOrV, rNotV, rIf, rNil, rCons, rTup, rLst, rFn, rCall, rCallK, rSl, rPrt, rNoP, rMt, gNm, q_gN, q_gC, q_gTp, gSb, rNext, rSeq, rDrop, rRet, rRetN, rBrk, rCnt, rIfS, rSet, rPar, rFor, iSeq, iLst, iRg1, iRg2, iZp, iEn, iStrD, rLc, rYes, q_isi2, q_i2N, q_i2B, q_i2I, q_i2S, q_i2T, q_i2L, q_j2N, q_j2B, q_j2I, q_j2S, q_j2T, q_j2L, q_gt2, q_gtT, q_en, q_int2, q_strD, q_rev, q_ixo, q_ext2, q_extT, q_in, q_ins, q_pop, q_any, En.x, wipeD, start', List.getElem?_cons_zero, List.getElem?_cons_succ, List.set_cons_zero, List.set_cons_succ, List.map_cons, List.map_nil, List.length_cons, List.length_nil, List.cons_append, List.nil_append, List.replicate_succ, List.replicate_zero, id, q_asB, q_asI, q_add, q_addS, q_addT, q_addL, q_int, q_sub, q_mul, q_fdiv, q_mod, q_pow, q_neg, q_le, q_ge, q_gt, q_lt, q_ltT, q_isN, q_isB, q_isBi, q_isBs, q_isBn, q_isBt, q_isnt, n_non, n_bl, n_int, n_str, n_tup, n_ref, q_eq, q_eqS, q_eqB, q_ixT, q_ixK, q_ixL, q_ixS, q_slT, q_slL, q_slS, q_set, q_lenT, q_lenK, q_lenS, q_lenL, q_abs, q_intF, q_max, q_min, q_tupT, q_tupL, q_lstT, q_lstL, q_app, q_ext, q_joinL, q_stw, q_seq, q_lst, q_rng, q_rng2, q_zpT, q_zpL, q_truN, q_truB, q_truI, q_truT, q_truL, t_non, t_bl, t_int, t_str, t_tup, q_isiN, q_isiB, q_isiI, q_isiS, q_isiT, i_NoneType_int, i_NoneType_bool, i_NoneType_tuple, i_NoneType_list, i_NoneType_str, i_bool_int, i_bool_bool, i_bool_tuple, i_bool_list, i_bool_str, i_int_int, i_int_bool, i_int_tuple, i_int_list, i_int_str, i_str_int, i_str_bool, i_str_tuple, i_str_list, i_str_str, i_tuple_int, i_tuple_bool, i_tuple_tuple, i_tuple_list, i_tuple_str, i_list_int, i_list_bool, i_list_tuple, i_list_list, i_list_str, i_dict_int, i_dict_bool, i_dict_tuple, i_dict_list, i_dict_str, up_same, g_02, g_02', g_01, g_11, at_0, at_1, ix_0, ix_1, Option.some.injEq, HQ.lst.injEq, exists_eq_left', exists_eq_left, exists_and_left, exists_eq', exists_eq, decide_eq_true_eq, if_true, if_false, ite_true, ite_false, Bool.false_eq_true, reduceIte, reduceCtorEq, Bool.not_true, Bool.not_false, Nat.zero_add, Nat.reduceAdd, Nat.reduceSub, Nat.reduceLeDiff, Nat.reduceLT, Int.reduceLT, Int.reduceLE, Int.reduceEq, Int.reduceNe, Nat.reduceEqDiff, Int.reduceToNat, Int.reducePow, Int.reduceMul, Int.reduceAdd, Int.reduceSub, Int.reduceNeg, and_true, true_and, decide_true, decide_false, rFld, rSetF, rMet, rMetX, rMake, rBy, Y.rIsE, rCallX, rRaise, rTryAs, rTryOnly, rGd, q_fld, q_sfld, q_met, q_isntB, iEnX, iEn4, e4_t, e4_s, e4_k, e4_r, v_t, v_s, q_lset, q_remD, rNv, a_i, a_s, a_t, a_r, a_k, m_T, m_F, v_r, v_k, lg_r, lg_k, t_t, t_r, t_k, l_t, l_r, l_k, s_t, s_s, s_r, s_k, o_1, j_1, y_1, y_2, y_3, z_tt, z_r, z_k, e_1, k_ii, k_ss, k_bb, k_nn, k_tt, k_r, k_k, n_t, n_r, n_k, u_ii, u_si, lj_1, rLstF, rLcF, rFz, rSlM, iZp3, iEn3, eqvAll_nil, pds_emp, iAny, sq_k, sq_r, ls_t, or_false, false_or, fz_r, fz_k, fz_t, fz_n, fz_b, fz_s, q_lstK, q_truK, t_kl, q_isiK, iRevY, rv_r, rv_k, rv_t, rAug, q_i2K, q_j2K, q_srtB, at_2, at_3, q_strF, rPar3, g_03a, g_03b, g_03c, g_03d, g_03e, g_03f, rLam, rAsk, rCallXK, q_ext3, q_ext3T, q_ext3K, rDc, rDNew, gDk, rLock, rLockE, iKys, iVls, iIts, k_inS, k_inI, k_getS, k_getI, k_setS, k_setI, rMetK, rMakeK, q_srtTx, k_srt, k_len, k_keys, k_vals, k_items, ha]
    refine take_of hb (by omega) (by omega) fun r S' hr0 hr1 n => ?_
    obtain ⟨d, hd, e, _⟩ := at_in hr0 hr1
    simp -implicitDefEqProofs only [rVar, rC, rBin, rUn, rTst, rChn, rTru, rAnd, rOr, rNot, rAndV, rOrV, rNotV, rIf, rNil, rCons, rTup, rLst, rFn, rCall, rCallK, rSl, rPrt, rNoP, rMt, gNm, q_gN, q_gC, q_gTp, gSb, rNext, rSeq, rDrop, rRet, rRetN, rBrk, rCnt, rIfS, rSet, rPar, rFor, iSeq, iLst, iRg1, iRg2, iZp, iEn, iStrD, rLc, rYes, q_isi2, q_i2N, q_i2B, q_i2I, q_i2S, q_i2T, q_i2L, q_j2N, q_j2B, q_j2I, q_j2S, q_j2T, q_j2L, q_gt2, q_gtT, q_en, q_int2, q_strD, q_rev, q_ixo, q_ext2, q_extT, q_in, q_ins, q_pop, q_any, En.x, wipeD, start', List.getElem?_cons_zero, List.getElem?_cons_succ, List.set_cons_zero, List.set_cons_succ, List.map_cons, List.map_nil, List.length_cons, List.length_nil, List.cons_append, List.nil_append, List.replicate_succ, List.replicate_zero, id, q_asB, q_asI, q_add, q_addS, q_addT, q_addL, q_int, q_sub, q_mul, q_fdiv, q_mod, q_pow, q_neg, q_le, q_ge, q_gt, q_lt, q_ltT, q_isN, q_isB, q_isBi, q_isBs, q_isBn, q_isBt, q_isnt, n_non, n_bl, n_int, n_str, n_tup, n_ref, q_eq, q_eqS, q_eqB, q_ixT, q_ixK, q_ixL, q_ixS, q_slT, q_slL, q_slS, q_set, q_lenT, q_lenK, q_lenS, q_lenL, q_abs, q_intF, q_max, q_min, q_tupT, q_tupL, q_lstT, q_lstL, q_app, q_ext, q_joinL, q_stw, q_seq, q_lst, q_rng, q_rng2, q_zpT, q_zpL, q_truN, q_truB, q_truI, q_truT, q_truL, t_non, t_bl, t_int, t_str, t_tup, q_isiN, q_isiB, q_isiI, q_isiS, q_isiT, i_NoneType_int, i_NoneType_bool, i_NoneType_tuple, i_NoneType_list, i_NoneType_str, i_bool_int, i_bool_bool, i_bool_tuple, i_bool_list, i_bool_str, i_int_int, i_int_bool, i_int_tuple, i_int_list, i_int_str, i_str_int, i_str_bool, i_str_tuple, i_str_list, i_str_str, i_tuple_int, i_tuple_bool, i_tuple_tuple, i_tuple_list, i_tuple_str, i_list_int, i_list_bool, i_list_tuple, i_list_list, i_list_str, i_dict_int, i_dict_bool, i_dict_tuple, i_dict_list, i_dict_str, up_same, g_02, g_02', g_01, g_11, at_0, at_1, ix_0, ix_1, Option.some.injEq, HQ.lst.injEq, exists_eq_left', exists_eq_left, exists_and_left, exists_eq', exists_eq, decide_eq_true_eq, if_true, if_false, ite_true, ite_false, Bool.false_eq_true, reduceIte, reduceCtorEq, Bool.not_true, Bool.not_false, Nat.zero_add, Nat.reduceAdd, Nat.reduceSub, Nat.reduceLeDiff, Nat.reduceLT, Int.reduceLT, Int.reduceLE, Int.reduceEq, Int.reduceNe, Nat.reduceEqDiff, Int.reduceToNat, Int.reducePow, Int.reduceMul, Int.reduceAdd, Int.reduceSub, Int.reduceNeg, and_true, true_and, decide_true, decide_false, rFld, rSetF, rMet, rMetX, rMake, rBy, Y.rIsE, rCallX, rRaise, rTryAs, rTryOnly, rGd, q_fld, q_sfld, q_met, q_isntB, iEnX, iEn4, e4_t, e4_s, e4_k, e4_r, v_t, v_s, q_lset, q_remD, rNv, a_i, a_s, a_t, a_r, a_k, m_T, m_F, v_r, v_k, lg_r, lg_k, t_t, t_r, t_k, l_t, l_r, l_k, s_t, s_s, s_r, s_k, o_1, j_1, y_1, y_2, y_3, z_tt, z_r, z_k, e_1, k_ii, k_ss, k_bb, k_nn, k_tt, k_r, k_k, n_t, n_r, n_k, u_ii, u_si, lj_1, rLstF, rLcF, rFz, rSlM, iZp3, iEn3, eqvAll_nil, pds_emp, iAny, sq_k, sq_r, ls_t, or_false, false_or, fz_r, fz_k, fz_t, fz_n, fz_b, fz_s, q_lstK, q_truK, t_kl, q_isiK, iRevY, rv_r, rv_k, rv_t, rAug, q_i2K, q_j2K, q_srtB, at_2, at_3, q_strF, rPar3, g_03a, g_03b, g_03c, g_03d, g_03e, g_03f, rLam, rAsk, rCallXK, q_ext3, q_ext3T, q_ext3K, rDc, rDNew, gDk, rLock, rLockE, iKys, iVls, iIts, k_inS, k_inI, k_getS, k_getI, k_setS, k_setI, rMetK, rMakeK, q_srtTx, k_srt, k_len, k_keys, k_vals, k_items, n.get ne ha, e]
    exact k d S' hd n
end K01
namespace K01
open PySem PySem.Spec PyProof.Rows L2 Y
theorem pu_law_entry : ∀ ds S Q, sp_law_entry ds S Q NoX → rd_law_entry { nx := fun _ S => Q .non S, rt := Q } (start' 2 ds) S := by
  rintro _ S Q ⟨b, rfl, hb, k⟩
  unfold rd_law_entry
  (try dsimp only); (repeat (first | rw [rSeq_eq] | simp -implicitDefEqProofs only [rVar, rC, rBin, rUn, rTst, rChn, rTru, rAnd, rOr, rNot, rAndV, rOrV, rNotV, rIf, rNil, rCons, rTup, rLst, rFn, rCall, rCallK, rSl, rPrt, rNoP, rMt, gNm, q_gN, q_gC, q_gTp, gSb, rNext, rDrop, rRet, rRetN, rBrk, rCnt, rIfS, rSet, rPar, rFor, iSeq, iLst, iRg1, iRg2, iZp, iEn, iStrD, rLc, rYes, q_isi2, q_i2N, q_i2B, q_i2I, q_i2S, q_i2T, q_i2L, q_j2N, q_j2B, q_j2I, q_j2S, q_j2T, q_j2L, q_gt2, q_gtT, q_en, q_int2, q_strD, q_rev, q_ixo, q_ext2, q_extT, q_in, q_ins, q_pop, q_any, En.x, wipeD, start', List.getElem?_cons_zero, List.getElem?_cons_succ, List.set_cons_zero, List.set_cons_succ, List.map_cons, List.map_nil, List.length_cons, List.length_nil, List.cons_append, List.nil_append, List.replicate_succ, List.replicate_zero, id, q_asB, q_asI, q_add, q_addS, q_addT, q_addL, q_int, q_sub, q_mul, q_fdiv, q_mod, q_pow, q_neg, q_le, q_ge, q_gt, q_lt, q_ltT, q_isN, q_isB, q_isBi, q_isBs, q_isBn, q_isBt, q_isnt, n_non, n_bl, n_int, n_str, n_tup, n_ref, q_eq, q_eqS, q_eqB, q_ixT, q_ixK, q_ixL, q_ixS, q_slT, q_slL, q_slS, q_set, q_lenT, q_lenK, q_lenS, q_lenL, q_abs, q_intF, q_max, q_min, q_tupT, q_tupL, q_lstT, q_lstL, q_app, q_ext, q_joinL, q_stw, q_seq, q_lst, q_rng, q_rng2, q_zpT, q_zpL, q_truN, q_truB, q_truI, q_truT, q_truL, t_non, t_bl, t_int, t_str, t_tup, q_isiN, q_isiB, q_isiI, q_isiS, q_isiT, i_NoneType_int, i_NoneType_bool, i_NoneType_tuple, i_NoneType_list, i_NoneType_str, i_bool_int, i_bool_bool, i_bool_tuple, i_bool_list, i_bool_str, i_int_int, i_int_bool, i_int_tuple, i_int_list, i_int_str, i_str_int, i_str_bool, i_str_tuple, i_str_list, i_str_str, i_tuple_int, i_tuple_bool, i_tuple_tuple, i_tuple_list, i_tuple_str, i_list_int, i_list_bool, i_list_tuple, i_list_list, i_list_str, i_dict_int, i_dict_bool, i_dict_tuple, i_dict_list, i_dict_str, up_same, g_02, g_02', g_01, g_11, at_0, at_1, ix_0, ix_1, Option.some.injEq, HQ.lst.injEq, exists_eq_left', exists_eq_left, exists_and_left, exists_eq', exists_eq, decide_eq_true_eq, if_true, if_false, ite_true, ite_false, Bool.false_eq_true, reduceIte, reduceCtorEq, Bool.not_true, Bool.not_false, Nat.zero_add, Nat.reduceAdd, Nat.reduceSub, Nat.reduceLeDiff, Nat.reduceLT, Int.reduceLT, Int.reduceLE, Int.reduceEq, Int.reduceNe, Nat.reduceEqDiff, Int.reduceToNat, Int.reducePow, Int.reduceMul, Int.reduceAdd, Int.reduceSub, Int.reduceNeg, and_true, true_and, decide_true, decide_false, rFld, rSetF, rMet, rMetX, rMake, rBy, Y.rIsE, rCallX, rRaise, rTryAs, rTryOnly, rGd, q_fld, q_sfld, q_met, q_isntB, iEnX, iEn4, e4_t, e4_s, e4_k, e4_r, v_t, v_s, q_lset, q_remD, rNv, a_i, a_s, a_t, a_r, a_k, m_T, m_F, v_r, v_k, lg_r, lg_k, t_t, t_r, t_k, l_t, l_r, l_k, s_t, s_s, s_r, s_k, o_1, j_1, y_1, y_2, y_3, z_tt, z_r, z_k, e_1, k_ii, k_ss, k_bb, k_nn, k_tt, k_r, k_k, n_t, n_r, n_k, u_ii, u_si, lj_1, rLstF, rLcF, rFz, rSlM, iZp3, iEn3, eqvAll_nil, pds_emp, iAny, sq_k, sq_r, ls_t, or_false, false_or, fz_r, fz_k, fz_t, fz_n, fz_b, fz_s, q_lstK, q_truK, t_kl, q_isiK, iRevY, rv_r, rv_k, rv_t, rAug, q_i2K, q_j2K, q_srtB, at_2, at_3, q_strF, rPar3, g_03a, g_03b, g_03c, g_03d, g_03e, g_03f, rLam, rAsk, rCallXK, q_ext3, q_ext3T, q_ext3K, rDc, rDNew, gDk, rLock, rLockE, iKys, iVls, iIts, k_inS, k_inI, k_getS, k_getI, k_setS, k_setI, rMetK, rMakeK, q_srtTx, k_srt, k_len, k_keys, k_vals, k_items]))
  refine take_of hb (by decide) (by decide) fun r S1 _ _ n1 => ?_
  (try dsimp only); (repeat (first | rw [rSeq_eq] | simp -implicitDefEqProofs only [rVar, rC, rBin, rUn, rTst, rChn, rTru, rAnd, rOr, rNot, rAndV, rOrV, rNotV, rIf, rNil, rCons, rTup, rLst, rFn, rCall, rCallK, rSl, rPrt, rNoP, rMt, gNm, q_gN, q_gC, q_gTp, gSb, rNext, rDrop, rRet, rRetN, rBrk, rCnt, rIfS, rSet, rPar, rFor, iSeq, iLst, iRg1, iRg2, iZp, iEn, iStrD, rLc, rYes, q_isi2, q_i2N, q_i2B, q_i2I, q_i2S, q_i2T, q_i2L, q_j2N, q_j2B, q_j2I, q_j2S, q_j2T, q_j2L, q_gt2, q_gtT, q_en, q_int2, q_strD, q_rev, q_ixo, q_ext2, q_extT, q_in, q_ins, q_pop, q_any, En.x, wipeD, start', List.getElem?_cons_zero, List.getElem?_cons_succ, List.set_cons_zero, List.set_cons_succ, List.map_cons, List.map_nil, List.length_cons, List.length_nil, List.cons_append, List.nil_append, List.replicate_succ, List.replicate_zero, id, q_asB, q_asI, q_add, q_addS, q_addT, q_addL, q_int, q_sub, q_mul, q_fdiv, q_mod, q_pow, q_neg, q_le, q_ge, q_gt, q_lt, q_ltT, q_isN, q_isB, q_isBi, q_isBs, q_isBn, q_isBt, q_isnt, n_non, n_bl, n_int, n_str, n_tup, n_ref, q_eq, q_eqS, q_eqB, q_ixT, q_ixK, q_ixL, q_ixS, q_slT, q_slL, q_slS, q_set, q_lenT, q_lenK, q_lenS, q_lenL, q_abs, q_intF, q_max, q_min, q_tupT, q_tupL, q_lstT, q_lstL, q_app, q_ext, q_joinL, q_stw, q_seq, q_lst, q_rng, q_rng2, q_zpT, q_zpL, q_truN, q_truB, q_truI, q_truT, q_truL, t_non, t_bl, t_int, t_str, t_tup, q_isiN, q_isiB, q_isiI, q_isiS, q_isiT, i_NoneType_int, i_NoneType_bool, i_NoneType_tuple, i_NoneType_list, i_NoneType_str, i_bool_int, i_bool_bool, i_bool_tuple, i_bool_list, i_bool_str, i_int_int, i_int_bool, i_int_tuple, i_int_list, i_int_str, i_str_int, i_str_bool, i_str_tuple, i_str_list, i_str_str, i_tuple_int, i_tuple_bool, i_tuple_tuple, i_tuple_list, i_tuple_str, i_list_int, i_list_bool, i_list_tuple, i_list_list, i_list_str, i_dict_int, i_dict_bool, i_dict_tuple, i_dict_list, i_dict_str, up_same, g_02, g_02', g_01, g_11, at_0, at_1, ix_0, ix_1, Option.some.injEq, HQ.lst.injEq, exists_eq_left', exists_eq_left, exists_and_left, exists_eq', exists_eq, decide_eq_true_eq, if_true, if_false, ite_true, ite_false, Bool.false_eq_true, reduceIte, reduceCtorEq, Bool.not_true, Bool.not_false, Nat.zero_add, Nat.reduceAdd, Nat.reduceSub, Nat.reduceLeDiff, Nat.reduceLT, Int.reduceLT, Int.reduceLE, Int.reduceEq, Int.reduceNe, Nat.reduceEqDiff, Int.reduceToNat, Int.reducePow, Int.reduceMul, Int.reduceAdd, Int.reduceSub, Int.reduceNeg, and_true, true_and, decide_true, decide_false, rFld, rSetF, rMet, rMetX, rMake, rBy, Y.rIsE, rCallX, rRaise, rTryAs, rTryOnly, rGd, q_fld, q_sfld, q_met, q_isntB, iEnX, iEn4, e4_t, e4_s, e4_k, e4_r, v_t, v_s, q_lset, q_remD, rNv, a_i, a_s, a_t, a_r, a_k, m_T, m_F, v_r, v_k, lg_r, lg_k, t_t, t_r, t_k, l_t, l_r, l_k, s_t, s_s, s_r, s_k, o_1, j_1, y_1, y_2, y_3, z_tt, z_r, z_k, e_1, k_ii, k_ss, k_bb, k_nn, k_tt, k_r, k_k, n_t, n_r, n_k, u_ii, u_si, lj_1, rLstF, rLcF, rFz, rSlM, iZp3, iEn3, eqvAll_nil, pds_emp, iAny, sq_k, sq_r, ls_t, or_false, false_or, fz_r, fz_k, fz_t, fz_n, fz_b, fz_s, q_lstK, q_truK, t_kl, q_isiK, iRevY, rv_r, rv_k, rv_t, rAug, q_i2K, q_j2K, q_srtB, at_2, at_3, q_strF, rPar3, g_03a, g_03b, g_03c, g_03d, g_03e, g_03f, rLam, rAsk, rCallXK, q_ext3, q_ext3T, q_ext3K, rDc, rDNew, gDk, rLock, rLockE, iKys, iVls, iIts, k_inS, k_inI, k_getS, k_getI, k_setS, k_setI, rMetK, rMakeK, q_srtTx, k_srt, k_len, k_keys, k_vals, k_items]))
  split
  · (try dsimp only); (repeat (first | rw [rSeq_eq] | simp -implicitDefEqProofs only [rVar, rC, rBin, rUn, rTst, rChn, rTru, rAnd, rOr, rNot, rAndV, rOrV, rNotV, rIf, rNil, rCons, rTup, rLst, rFn, rCall, rCallK, rSl, rPrt, rNoP, rMt, gNm, q_gN, q_gC, q_gTp, gSb, rNext, rDrop, rRet, rRetN, rBrk, rCnt, rIfS, rSet, rPar, rFor, iSeq, iLst, iRg1, iRg2, iZp, iEn, iStrD, rLc, rYes, q_isi2, q_i2N, q_i2B, q_i2I, q_i2S, q_i2T, q_i2L, q_j2N, q_j2B, q_j2I, q_j2S, q_j2T, q_j2L, q_gt2, q_gtT, q_en, q_int2, q_strD, q_rev, q_ixo, q_ext2, q_extT, q_in, q_ins, q_pop, q_any, En.x, wipeD, start', List.getElem?_cons_zero, List.getElem?_cons_succ, List.set_cons_zero, List.set_cons_succ, List.map_cons, List.map_nil, List.length_cons, List.length_nil, List.cons_append, List.nil_append, List.replicate_succ, List.replicate_zero, id, q_asB, q_asI, q_add, q_addS, q_addT, q_addL, q_int, q_sub, q_mul, q_fdiv, q_mod, q_pow, q_neg, q_le, q_ge, q_gt, q_lt, q_ltT, q_isN, q_isB, q_isBi, q_isBs, q_isBn, q_isBt, q_isnt, n_non, n_bl, n_int, n_str, n_tup, n_ref, q_eq, q_eqS, q_eqB, q_ixT, q_ixK, q_ixL, q_ixS, q_slT, q_slL, q_slS, q_set, q_lenT, q_lenK, q_lenS, q_lenL, q_abs, q_intF, q_max, q_min, q_tupT, q_tupL, q_lstT, q_lstL, q_app, q_ext, q_joinL, q_stw, q_seq, q_lst, q_rng, q_rng2, q_zpT, q_zpL, q_truN, q_truB, q_truI, q_truT, q_truL, t_non, t_bl, t_int, t_str, t_tup, q_isiN, q_isiB, q_isiI, q_isiS, q_isiT, i_NoneType_int, i_NoneType_bool, i_NoneType_tuple, i_NoneType_list, i_NoneType_str, i_bool_int, i_bool_bool, i_bool_tuple, i_bool_list, i_bool_str, i_int_int, i_int_bool, i_int_tuple, i_int_list, i_int_str, i_str_int, i_str_bool, i_str_tuple, i_str_list, i_str_str, i_tuple_int, i_tuple_bool, i_tuple_tuple, i_tuple_list, i_tuple_str, i_list_int, i_list_bool, i_list_tuple, i_list_list, i_list_str, i_dict_int, i_dict_bool, i_dict_tuple, i_dict_list, i_dict_str, up_same, g_02, g_02', g_01, g_11, at_0, at_1, ix_0, ix_1, Option.some.injEq, HQ.lst.injEq, exists_eq_left', exists_eq_left, exists_and_left, exists_eq', exists_eq, decide_eq_true_eq, if_true, if_false, ite_true, ite_false, Bool.false_eq_true, reduceIte, reduceCtorEq, Bool.not_true, Bool.not_false, Nat.zero_add, Nat.reduceAdd, Nat.reduceSub, Nat.reduceLeDiff, Nat.reduceLT, Int.reduceLT, Int.reduceLE, Int.reduceEq, Int.reduceNe, Nat.reduceEqDiff, Int.reduceToNat, Int.reducePow, Int.reduceMul, Int.reduceAdd, Int.reduceSub, Int.reduceNeg, and_true, true_and, decide_true, decide_false, rFld, rSetF, rMet, rMetX, rMake, rBy, Y.rIsE, rCallX, rRaise, rTryAs, rTryOnly, rGd, q_fld, q_sfld, q_met, q_isntB, iEnX, iEn4, e4_t, e4_s, e4_k, e4_r, v_t, v_s, q_lset, q_remD, rNv, a_i, a_s, a_t, a_r, a_k, m_T, m_F, v_r, v_k, lg_r, lg_k, t_t, t_r, t_k, l_t, l_r, l_k, s_t, s_s, s_r, s_k, o_1, j_1, y_1, y_2, y_3, z_tt, z_r, z_k, e_1, k_ii, k_ss, k_bb, k_nn, k_tt, k_r, k_k, n_t, n_r, n_k, u_ii, u_si, lj_1, rLstF, rLcF, rFz, rSlM, iZp3, iEn3, eqvAll_nil, pds_emp, iAny, sq_k, sq_r, ls_t, or_false, false_or, fz_r, fz_k, fz_t, fz_n, fz_b, fz_s, q_lstK, q_truK, t_kl, q_isiK, iRevY, rv_r, rv_k, rv_t, rAug, q_i2K, q_j2K, q_srtB, at_2, at_3, q_strF, rPar3, g_03a, g_03b, g_03c, g_03d, g_03e, g_03f, rLam, rAsk, rCallXK, q_ext3, q_ext3T, q_ext3K, rDc, rDNew, gDk, rLock, rLockE, iKys, iVls, iIts, k_inS, k_inI, k_getS, k_getI, k_setS, k_setI, rMetK, rMakeK, q_srtTx, k_srt, k_len, k_keys, k_vals, k_items]))
    refine take_of n1.bx (by decide) (by decide) fun r S2 _ _ n2 => ?_
    (try dsimp only); (repeat (first | rw [rSeq_eq] | simp -implicitDefEqProofs only [rVar, rC, rBin, rUn, rTst, rChn, rTru, rAnd, rOr, rNot, rAndV, rOrV, rNotV, rIf, rNil, rCons, rTup, rLst, rFn, rCall, rCallK, rSl, rPrt, rNoP, rMt, gNm, q_gN, q_gC, q_gTp, gSb, rNext, rDrop, rRet, rRetN, rBrk, rCnt, rIfS, rSet, rPar, rFor, iSeq, iLst, iRg1, iRg2, iZp, iEn, iStrD, rLc, rYes, q_isi2, q_i2N, q_i2B, q_i2I, q_i2S, q_i2T, q_i2L, q_j2N, q_j2B, q_j2I, q_j2S, q_j2T, q_j2L, q_gt2, q_gtT, q_en, q_int2, q_strD, q_rev, q_ixo, q_ext2, q_extT, q_in, q_ins, q_pop, q_any, En.x, wipeD, start', List.getElem?_cons_zero, List.getElem?_cons_succ, List.set_cons_zero, List.set_cons_succ, List.map_cons, List.map_nil, List.length_cons, List.length_nil, List.cons_append, List.nil_append, List.replicate_succ, List.replicate_zero, id, q_asB, q_asI, q_add, q_addS, q_addT, q_addL, q_int, q_sub, q_mul, q_fdiv, q_mod, q_pow, q_neg, q_le, q_ge, q_gt, q_lt, q_ltT, q_isN, q_isB, q_isBi, q_isBs, q_isBn, q_isBt, q_isnt, n_non, n_bl, n_int, n_str, n_tup, n_ref, q_eq, q_eqS, q_eqB, q_ixT, q_ixK, q_ixL, q_ixS, q_slT, q_slL, q_slS, q_set, q_lenT, q_lenK, q_lenS, q_lenL, q_abs, q_intF, q_max, q_min, q_tupT, q_tupL, q_lstT, q_lstL, q_app, q_ext, q_joinL, q_stw, q_seq, q_lst, q_rng, q_rng2, q_zpT, q_zpL, q_truN, q_truB, q_truI, q_truT, q_truL, t_non, t_bl, t_int, t_str, t_tup, q_isiN, q_isiB, q_isiI, q_isiS, q_isiT, i_NoneType_int, i_NoneType_bool, i_NoneType_tuple, i_NoneType_list, i_NoneType_str, i_bool_int, i_bool_bool, i_bool_tuple, i_bool_list, i_bool_str, i_int_int, i_int_bool, i_int_tuple, i_int_list, i_int_str, i_str_int, i_str_bool, i_str_tuple, i_str_list, i_str_str, i_tuple_int, i_tuple_bool, i_tuple_tuple, i_tuple_list, i_tuple_str, i_list_int, i_list_bool, i_list_tuple, i_list_list, i_list_str, i_dict_int, i_dict_bool, i_dict_tuple, i_dict_list, i_dict_str, up_same, g_02, g_02', g_01, g_11, at_0, at_1, ix_0, ix_1, Option.some.injEq, HQ.lst.injEq, exists_eq_left', exists_eq_left, exists_and_left, exists_eq', exists_eq, decide_eq_true_eq, if_true, if_false, ite_true, ite_false, Bool.false_eq_true, reduceIte, reduceCtorEq, Bool.not_true, Bool.not_false, Nat.zero_add, Nat.reduceAdd, Nat.reduceSub, Nat.reduceLeDiff, Nat.reduceLT, Int.reduceLT, Int.reduceLE, Int.reduceEq, Int.reduceNe, Nat.reduceEqDiff, Int.reduceToNat, Int.reducePow, Int.reduceMul, Int.reduceAdd, Int.reduceSub, Int.reduceNeg, and_true, true_and, decide_true, decide_false, rFld, rSetF, rMet, rMetX, rMake, rBy, Y.rIsE, rCallX, rRaise, rTryAs, rTryOnly, rGd, q_fld, q_sfld, q_met, q_isntB, iEnX, iEn4, e4_t, e4_s, e4_k, e4_r, v_t, v_s, q_lset, q_remD, rNv, a_i, a_s, a_t, a_r, a_k, m_T, m_F, v_r, v_k, lg_r, lg_k, t_t, t_r, t_k, l_t, l_r, l_k, s_t, s_s, s_r, s_k, o_1, j_1, y_1, y_2, y_3, z_tt, z_r, z_k, e_1, k_ii, k_ss, k_bb, k_nn, k_tt, k_r, k_k, n_t, n_r, n_k, u_ii, u_si, lj_1, rLstF, rLcF, rFz, rSlM, iZp3, iEn3, eqvAll_nil, pds_emp, iAny, sq_k, sq_r, ls_t, or_false, false_or, fz_r, fz_k, fz_t, fz_n, fz_b, fz_s, q_lstK, q_truK, t_kl, q_isiK, iRevY, rv_r, rv_k, rv_t, rAug, q_i2K, q_j2K, q_srtB, at_2, at_3, q_strF, rPar3, g_03a, g_03b, g_03c, g_03d, g_03e, g_03f, rLam, rAsk, rCallXK, q_ext3, q_ext3T, q_ext3K, rDc, rDNew, gDk, rLock, rLockE, iKys, iVls, iIts, k_inS, k_inI, k_getS, k_getI, k_setS, k_setI, rMetK, rMakeK, q_srtTx, k_srt, k_len, k_keys, k_vals, k_items]))
    exact k _ _ (n1.trans n2)
  · (try dsimp only); (repeat (first | rw [rSeq_eq] | simp -implicitDefEqProofs only [rVar, rC, rBin, rUn, rTst, rChn, rTru, rAnd, rOr, rNot, rAndV, rOrV, rNotV, rIf, rNil, rCons, rTup, rLst, rFn, rCall, rCallK, rSl, rPrt, rNoP, rMt, gNm, q_gN, q_gC, q_gTp, gSb, rNext, rDrop, rRet, rRetN, rBrk, rCnt, rIfS, rSet, rPar, rFor, iSeq, iLst, iRg1, iRg2, iZp, iEn, iStrD, rLc, rYes, q_isi2, q_i2N, q_i2B, q_i2I, q_i2S, q_i2T, q_i2L, q_j2N, q_j2B, q_j2I, q_j2S, q_j2T, q_j2L, q_gt2, q_gtT, q_en, q_int2, q_strD, q_rev, q_ixo, q_ext2, q_extT, q_in, q_ins, q_pop, q_any, En.x, wipeD, start', List.getElem?_cons_zero, List.getElem?_cons_succ, List.set_cons_zero, List.set_cons_succ, List.map_cons, List.map_nil, List.length_cons, List.length_nil, List.cons_append, List.nil_append, List.replicate_succ, List.replicate_zero, id, q_asB, q_asI, q_add, q_addS, q_addT, q_addL, q_int, q_sub, q_mul, q_fdiv, q_mod, q_pow, q_neg, q_le, q_ge, q_gt, q_lt, q_ltT, q_isN, q_isB, q_isBi, q_isBs, q_isBn, q_isBt, q_isnt, n_non, n_bl, n_int, n_str, n_tup, n_ref, q_eq, q_eqS, q_eqB, q_ixT, q_ixK, q_ixL, q_ixS, q_slT, q_slL, q_slS, q_set, q_lenT, q_lenK, q_lenS, q_lenL, q_abs, q_intF, q_max, q_min, q_tupT, q_tupL, q_lstT, q_lstL, q_app, q_ext, q_joinL, q_stw, q_seq, q_lst, q_rng, q_rng2, q_zpT, q_zpL, q_truN, q_truB, q_truI, q_truT, q_truL, t_non, t_bl, t_int, t_str, t_tup, q_isiN, q_isiB, q_isiI, q_isiS, q_isiT, i_NoneType_int, i_NoneType_bool, i_NoneType_tuple, i_NoneType_list, i_NoneType_str, i_bool_int, i_bool_bool, i_bool_tuple, i_bool_list, i_bool_str, i_int_int, i_int_bool, i_int_tuple, i_int_list, i_int_str, i_str_int, i_str_bool, i_str_tuple, i_str_list, i_str_str, i_tuple_int, i_tuple_bool, i_tuple_tuple, i_tuple_list, i_tuple_str, i_list_int, i_list_bool, i_list_tuple, i_list_list, i_list_str, i_dict_int, i_dict_bool, i_dict_tuple, i_dict_list, i_dict_str, up_same, g_02, g_02', g_01, g_11, at_0, at_1, ix_0, ix_1, Option.some.injEq, HQ.lst.injEq, exists_eq_left', exists_eq_left, exists_and_left, exists_eq', exists_eq, decide_eq_true_eq, if_true, if_false, ite_true, ite_false, Bool.false_eq_true, reduceIte, reduceCtorEq, Bool.not_true, Bool.not_false, Nat.zero_add, Nat.reduceAdd, Nat.reduceSub, Nat.reduceLeDiff, Nat.reduceLT, Int.reduceLT, Int.reduceLE, Int.reduceEq, Int.reduceNe, Nat.reduceEqDiff, Int.reduceToNat, Int.reducePow, Int.reduceMul, Int.reduceAdd, Int.reduceSub, Int.reduceNeg, and_true, true_and, decide_true, decide_false, rFld, rSetF, rMet, rMetX, rMake, rBy, Y.rIsE, rCallX, rRaise, rTryAs, rTryOnly, rGd, q_fld, q_sfld, q_met, q_isntB, iEnX, iEn4, e4_t, e4_s, e4_k, e4_r, v_t, v_s, q_lset, q_remD, rNv, a_i, a_s, a_t, a_r, a_k, m_T, m_F, v_r, v_k, lg_r, lg_k, t_t, t_r, t_k, l_t, l_r, l_k, s_t, s_s, s_r, s_k, o_1, j_1, y_1, y_2, y_3, z_tt, z_r, z_k, e_1, k_ii, k_ss, k_bb, k_nn, k_tt, k_r, k_k, n_t, n_r, n_k, u_ii, u_si, lj_1, rLstF, rLcF, rFz, rSlM, iZp3, iEn3, eqvAll_nil, pds_emp, iAny, sq_k, sq_r, ls_t, or_false, false_or, fz_r, fz_k, fz_t, fz_n, fz_b, fz_s, q_lstK, q_truK, t_kl, q_isiK, iRevY, rv_r, rv_k, rv_t, rAug, q_i2K, q_j2K, q_srtB, at_2, at_3, q_strF, rPar3, g_03a, g_03b, g_03c, g_03d, g_03e, g_03f, rLam, rAsk, rCallXK, q_ext3, q_ext3T, q_ext3K, rDc, rDNew, gDk, rLock, rLockE, iKys, iVls, iIts, k_inS, k_inI, k_getS, k_getI, k_setS, k_setI, rMetK, rMakeK, q_srtTx, k_srt, k_len, k_keys, k_vals, k_items]))
    split
    · (try dsimp only); (repeat (first | rw [rSeq_eq] | simp -implicitDefEqProofs only [rVar, rC, rBin, rUn, rTst, rChn, rTru, rAnd, rOr, rNot, rAndV, rOrV, rNotV, rIf, rNil, rCons, rTup, rLst, rFn, rCall, rCallK, rSl, rPrt, rNoP, rMt, gNm, q_gN, q_gC, q_gTp, gSb, rNext, rDrop, rRet, rRetN, rBrk, rCnt, rIfS, rSet, rPar, rFor, iSeq, iLst, iRg1, iRg2, iZp, iEn, iStrD, rLc, rYes, q_isi2, q_i2N, q_i2B, q_i2I, q_i2S, q_i2T, q_i2L, q_j2N, q_j2B, q_j2I, q_j2S, q_j2T, q_j2L, q_gt2, q_gtT, q_en, q_int2, q_strD, q_rev, q_ixo, q_ext2, q_extT, q_in, q_ins, q_pop, q_any, En.x, wipeD, start', List.getElem?_cons_zero, List.getElem?_cons_succ, List.set_cons_zero, List.set_cons_succ, List.map_cons, List.map_nil, List.length_cons, List.length_nil, List.cons_append, List.nil_append, List.replicate_succ, List.replicate_zero, id, q_asB, q_asI, q_add, q_addS, q_addT, q_addL, q_int, q_sub, q_mul, q_fdiv, q_mod, q_pow, q_neg, q_le, q_ge, q_gt, q_lt, q_ltT, q_isN, q_isB, q_isBi, q_isBs, q_isBn, q_isBt, q_isnt, n_non, n_bl, n_int, n_str, n_tup, n_ref, q_eq, q_eqS, q_eqB, q_ixT, q_ixK, q_ixL, q_ixS, q_slT, q_slL, q_slS, q_set, q_lenT, q_lenK, q_lenS, q_lenL, q_abs, q_intF, q_max, q_min, q_tupT, q_tupL, q_lstT, q_lstL, q_app, q_ext, q_joinL, q_stw, q_seq, q_lst, q_rng, q_rng2, q_zpT, q_zpL, q_truN, q_truB, q_truI, q_truT, q_truL, t_non, t_bl, t_int, t_str, t_tup, q_isiN, q_isiB, q_isiI, q_isiS, q_isiT, i_NoneType_int, i_NoneType_bool, i_NoneType_tuple, i_NoneType_list, i_NoneType_str, i_bool_int, i_bool_bool, i_bool_tuple, i_bool_list, i_bool_str, i_int_int, i_int_bool, i_int_tuple, i_int_list, i_int_str, i_str_int, i_str_bool, i_str_tuple, i_str_list, i_str_str, i_tuple_int, i_tuple_bool, i_tuple_tuple, i_tuple_list, i_tuple_str, i_list_int, i_list_bool, i_list_tuple, i_list_list, i_list_str, i_dict_int, i_dict_bool, i_dict_tuple, i_dict_list, i_dict_str, up_same, g_02, g_02', g_01, g_11, at_0, at_1, ix_0, ix_1, Option.some.injEq, HQ.lst.injEq, exists_eq_left', exists_eq_left, exists_and_left, exists_eq', exists_eq, decide_eq_true_eq, if_true, if_false, ite_true, ite_false, Bool.false_eq_true, reduceIte, reduceCtorEq, Bool.not_true, Bool.not_false, Nat.zero_add, Nat.reduceAdd, Nat.reduceSub, Nat.reduceLeDiff, Nat.reduceLT, Int.reduceLT, Int.reduceLE, Int.reduceEq, Int.reduceNe, Nat.reduceEqDiff, Int.reduceToNat, Int.reducePow, Int.reduceMul, Int.reduceAdd, Int.reduceSub, Int.reduceNeg, and_true, true_and, decide_true, decide_false, rFld, rSetF, rMet, rMetX, rMake, rBy, Y.rIsE, rCallX, rRaise, rTryAs, rTryOnly, rGd, q_fld, q_sfld, q_met, q_isntB, iEnX, iEn4, e4_t, e4_s, e4_k, e4_r, v_t, v_s, q_lset, q_remD, rNv, a_i, a_s, a_t, a_r, a_k, m_T, m_F, v_r, v_k, lg_r, lg_k, t_t, t_r, t_k, l_t, l_r, l_k, s_t, s_s, s_r, s_k, o_1, j_1, y_1, y_2, y_3, z_tt, z_r, z_k, e_1, k_ii, k_ss, k_bb, k_nn, k_tt, k_r, k_k, n_t, n_r, n_k, u_ii, u_si, lj_1, rLstF, rLcF, rFz, rSlM, iZp3, iEn3, eqvAll_nil, pds_emp, iAny, sq_k, sq_r, ls_t, or_false, false_or, fz_r, fz_k, fz_t, fz_n, fz_b, fz_s, q_lstK, q_truK, t_kl, q_isiK, iRevY, rv_r, rv_k, rv_t, rAug, q_i2K, q_j2K, q_srtB, at_2, at_3, q_strF, rPar3, g_03a, g_03b, g_03c, g_03d, g_03e, g_03f, rLam, rAsk, rCallXK, q_ext3, q_ext3T, q_ext3K, rDc, rDNew, gDk, rLock, rLockE, iKys, iVls, iIts, k_inS, k_inI, k_getS, k_getI, k_setS, k_setI, rMetK, rMakeK, q_srtTx, k_srt, k_len, k_keys, k_vals, k_items]))
      refine ⟨⟨by decide, by decide, by decide, by decide⟩, cm_r (by decide) (by decide), take_of n1.bx (by decide) (by decide) fun r S2 _ _ n2 => ?_⟩
      (try dsimp only); (repeat (first | rw [rSeq_eq] | simp -implicitDefEqProofs only [rVar, rC, rBin, rUn, rTst, rChn, rTru, rAnd, rOr, rNot, rAndV, rOrV, rNotV, rIf, rNil, rCons, rTup, rLst, rFn, rCall, rCallK, rSl, rPrt, rNoP, rMt, gNm, q_gN, q_gC, q_gTp, gSb, rNext, rDrop, rRet, rRetN, rBrk, rCnt, rIfS, rSet, rPar, rFor, iSeq, iLst, iRg1, iRg2, iZp, iEn, iStrD, rLc, rYes, q_isi2, q_i2N, q_i2B, q_i2I, q_i2S, q_i2T, q_i2L, q_j2N, q_j2B, q_j2I, q_j2S, q_j2T, q_j2L, q_gt2, q_gtT, q_en, q_int2, q_strD, q_rev, q_ixo, q_ext2, q_extT, q_in, q_ins, q_pop, q_any, En.x, wipeD, start', List.getElem?_cons_zero, List.getElem?_cons_succ, List.set_cons_zero, List.set_cons_succ, List.map_cons, List.map_nil, List.length_cons, List.length_nil, List.cons_append, List.nil_append, List.replicate_succ, List.replicate_zero, id, q_asB, q_asI, q_add, q_addS, q_addT, q_addL, q_int, q_sub, q_mul, q_fdiv, q_mod, q_pow, q_neg, q_le, q_ge, q_gt, q_lt, q_ltT, q_isN, q_isB, q_isBi, q_isBs, q_isBn, q_isBt, q_isnt, n_non, n_bl, n_int, n_str, n_tup, n_ref, q_eq, q_eqS, q_eqB, q_ixT, q_ixK, q_ixL, q_ixS, q_slT, q_slL, q_slS, q_set, q_lenT, q_lenK, q_lenS, q_lenL, q_abs, q_intF, q_max, q_min, q_tupT, q_tupL, q_lstT, q_lstL, q_app, q_ext, q_joinL, q_stw, q_seq, q_lst, q_rng, q_rng2, q_zpT, q_zpL, q_truN, q_truB, q_truI, q_truT, q_truL, t_non, t_bl, t_int, t_str, t_tup, q_isiN, q_isiB, q_isiI, q_isiS, q_isiT, i_NoneType_int, i_NoneType_bool, i_NoneType_tuple, i_NoneType_list, i_NoneType_str, i_bool_int, i_bool_bool, i_bool_tuple, i_bool_list, i_bool_str, i_int_int, i_int_bool, i_int_tuple, i_int_list, i_int_str, i_str_int, i_str_bool, i_str_tuple, i_str_list, i_str_str, i_tuple_int, i_tuple_bool, i_tuple_tuple, i_tuple_list, i_tuple_str, i_list_int, i_list_bool, i_list_tuple, i_list_list, i_list_str, i_dict_int, i_dict_bool, i_dict_tuple, i_dict_list, i_dict_str, up_same, g_02, g_02', g_01, g_11, at_0, at_1, ix_0, ix_1, Option.some.injEq, HQ.lst.injEq, exists_eq_left', exists_eq_left, exists_and_left, exists_eq', exists_eq, decide_eq_true_eq, if_true, if_false, ite_true, ite_false, Bool.false_eq_true, reduceIte, reduceCtorEq, Bool.not_true, Bool.not_false, Nat.zero_add, Nat.reduceAdd, Nat.reduceSub, Nat.reduceLeDiff, Nat.reduceLT, Int.reduceLT, Int.reduceLE, Int.reduceEq, Int.reduceNe, Nat.reduceEqDiff, Int.reduceToNat, Int.reducePow, Int.reduceMul, Int.reduceAdd, Int.reduceSub, Int.reduceNeg, and_true, true_and, decide_true, decide_false, rFld, rSetF, rMet, rMetX, rMake, rBy, Y.rIsE, rCallX, rRaise, rTryAs, rTryOnly, rGd, q_fld, q_sfld, q_met, q_isntB, iEnX, iEn4, e4_t, e4_s, e4_k, e4_r, v_t, v_s, q_lset, q_remD, rNv, a_i, a_s, a_t, a_r, a_k, m_T, m_F, v_r, v_k, lg_r, lg_k, t_t, t_r, t_k, l_t, l_r, l_k, s_t, s_s, s_r, s_k, o_1, j_1, y_1, y_2, y_3, z_tt, z_r, z_k, e_1, k_ii, k_ss, k_bb, k_nn, k_tt, k_r, k_k, n_t, n_r, n_k, u_ii, u_si, lj_1, rLstF, rLcF, rFz, rSlM, iZp3, iEn3, eqvAll_nil, pds_emp, iAny, sq_k, sq_r, ls_t, or_false, false_or, fz_r, fz_k, fz_t, fz_n, fz_b, fz_s, q_lstK, q_truK, t_kl, q_isiK, iRevY, rv_r, rv_k, rv_t, rAug, q_i2K, q_j2K, q_srtB, at_2, at_3, q_strF, rPar3, g_03a, g_03b, g_03c, g_03d, g_03e, g_03f, rLam, rAsk, rCallXK, q_ext3, q_ext3T, q_ext3K, rDc, rDNew, gDk, rLock, rLockE, iKys, iVls, iIts, k_inS, k_inI, k_getS, k_getI, k_setS, k_setI, rMetK, rMakeK, q_srtTx, k_srt, k_len, k_keys, k_vals, k_items]))
      exact ⟨⟨by decide, by decide, by decide, by decide⟩, k _ _ (n1.trans n2)⟩
    · (try dsimp only); (repeat (first | rw [rSeq_eq] | simp -implicitDefEqProofs only [rVar, rC, rBin, rUn, rTst, rChn, rTru, rAnd, rOr, rNot, rAndV, rOrV, rNotV, rIf, rNil, rCons, rTup, rLst, rFn, rCall, rCallK, rSl, rPrt, rNoP, rMt, gNm, q_gN, q_gC, q_gTp, gSb, rNext, rDrop, rRet, rRetN, rBrk, rCnt, rIfS, rSet, rPar, rFor, iSeq, iLst, iRg1, iRg2, iZp, iEn, iStrD, rLc, rYes, q_isi2, q_i2N, q_i2B, q_i2I, q_i2S, q_i2T, q_i2L, q_j2N, q_j2B, q_j2I, q_j2S, q_j2T, q_j2L, q_gt2, q_gtT, q_en, q_int2, q_strD, q_rev, q_ixo, q_ext2, q_extT, q_in, q_ins, q_pop, q_any, En.x, wipeD, start', List.getElem?_cons_zero, List.getElem?_cons_succ, List.set_cons_zero, List.set_cons_succ, List.map_cons, List.map_nil, List.length_cons, List.length_nil, List.cons_append, List.nil_append, List.replicate_succ, List.replicate_zero, id, q_asB, q_asI, q_add, q_addS, q_addT, q_addL, q_int, q_sub, q_mul, q_fdiv, q_mod, q_pow, q_neg, q_le, q_ge, q_gt, q_lt, q_ltT, q_isN, q_isB, q_isBi, q_isBs, q_isBn, q_isBt, q_isnt, n_non, n_bl, n_int, n_str, n_tup, n_ref, q_eq, q_eqS, q_eqB, q_ixT, q_ixK, q_ixL, q_ixS, q_slT, q_slL, q_slS, q_set, q_lenT, q_lenK, q_lenS, q_lenL, q_abs, q_intF, q_max, q_min, q_tupT, q_tupL, q_lstT, q_lstL, q_app, q_ext, q_joinL, q_stw, q_seq, q_lst, q_rng, q_rng2, q_zpT, q_zpL, q_truN, q_truB, q_truI, q_truT, q_truL, t_non, t_bl, t_int, t_str, t_tup, q_isiN, q_isiB, q_isiI, q_isiS, q_isiT, i_NoneType_int, i_NoneType_bool, i_NoneType_tuple, i_NoneType_list, i_NoneType_str, i_bool_int, i_bool_bool, i_bool_tuple, i_bool_list, i_bool_str, i_int_int, i_int_bool, i_int_tuple, i_int_list, i_int_str, i_str_int, i_str_bool, i_str_tuple, i_str_list, i_str_str, i_tuple_int, i_tuple_bool, i_tuple_tuple, i_tuple_list, i_tuple_str, i_list_int, i_list_bool, i_list_tuple, i_list_list, i_list_str, i_dict_int, i_dict_bool, i_dict_tuple, i_dict_list, i_dict_str, up_same, g_02, g_02', g_01, g_11, at_0, at_1, ix_0, ix_1, Option.some.injEq, HQ.lst.injEq, exists_eq_left', exists_eq_left, exists_and_left, exists_eq', exists_eq, decide_eq_true_eq, if_true, if_false, ite_true, ite_false, Bool.false_eq_true, reduceIte, reduceCtorEq, Bool.not_true, Bool.not_false, Nat.zero_add, Nat.reduceAdd, Nat.reduceSub, Nat.reduceLeDiff, Nat.reduceLT, Int.reduceLT, Int.reduceLE, Int.reduceEq, Int.reduceNe, Nat.reduceEqDiff, Int.reduceToNat, Int.reducePow, Int.reduceMul, Int.reduceAdd, Int.reduceSub, Int.reduceNeg, and_true, true_and, decide_true, decide_false, rFld, rSetF, rMet, rMetX, rMake, rBy, Y.rIsE, rCallX, rRaise, rTryAs, rTryOnly, rGd, q_fld, q_sfld, q_met, q_isntB, iEnX, iEn4, e4_t, e4_s, e4_k, e4_r, v_t, v_s, q_lset, q_remD, rNv, a_i, a_s, a_t, a_r, a_k, m_T, m_F, v_r, v_k, lg_r, lg_k, t_t, t_r, t_k, l_t, l_r, l_k, s_t, s_s, s_r, s_k, o_1, j_1, y_1, y_2, y_3, z_tt, z_r, z_k, e_1, k_ii, k_ss, k_bb, k_nn, k_tt, k_r, k_k, n_t, n_r, n_k, u_ii, u_si, lj_1, rLstF, rLcF, rFz, rSlM, iZp3, iEn3, eqvAll_nil, pds_emp, iAny, sq_k, sq_r, ls_t, or_false, false_or, fz_r, fz_k, fz_t, fz_n, fz_b, fz_s, q_lstK, q_truK, t_kl, q_isiK, iRevY, rv_r, rv_k, rv_t, rAug, q_i2K, q_j2K, q_srtB, at_2, at_3, q_strF, rPar3, g_03a, g_03b, g_03c, g_03d, g_03e, g_03f, rLam, rAsk, rCallXK, q_ext3, q_ext3T, q_ext3K, rDc, rDNew, gDk, rLock, rLockE, iKys, iVls, iIts, k_inS, k_inI, k_getS, k_getI, k_setS, k_setI, rMetK, rMakeK, q_srtTx, k_srt, k_len, k_keys, k_vals, k_items]))
      (repeat refine And.intro ⟨by decide, by decide, by decide, by decide⟩ ?_)
      refine pick_of n1.bx (by decide) (by decide) fun d S2 hd n2 => ?_
      obtain ⟨i, _, rfl⟩ := mem_ints (l := [_, _, _, _, _, _]) hd
      exact k _ _ (n1.trans n2)
end K01
namespace K01
open PySem PySem.Spec PyProof.Rows L2 Y
theorem pu_law_figure : ∀ ds S Q, sp_law_figure ds S Q NoX → rd_law_figure { nx := fun _ S => Q .non S, rt := Q } (start' 4 ds) S := by
  rintro _ S Q ⟨b, rfl, hb, k⟩
  unfold rd_law_figure
  (try dsimp only); rw [rSeq_eq]; try simp -implicitDefEqProofs only [rVar, rC, rBin, rUn, rTst, rChn, rTru, rAnd, rOr, rNot, rAndV, rOrV, rNotV, rIf, rNil, rCons, rTup, rLst, rFn, rCall, rCallK, rSl, rPrt, rNoP, rMt, gNm, q_gN, q_gC, q_gTp, gSb, rNext, rDrop, rRet, rRetN, rBrk, rCnt, rIfS, rSet, rPar, rFor, iSeq, iLst, iRg1, iRg2, iZp, iEn, iStrD, rLc, rYes, q_isi2, q_i2N, q_i2B, q_i2I, q_i2S, q_i2T, q_i2L, q_j2N, q_j2B, q_j2I, q_j2S, q_j2T, q_j2L, q_gt2, q_gtT, q_en, q_int2, q_strD, q_rev, q_ixo, q_ext2, q_extT, q_in, q_ins, q_pop, q_any, En.x, wipeD, start', List.getElem?_cons_zero, List.getElem?_cons_succ, List.set_cons_zero, List.set_cons_succ, List.map_cons, List.map_nil, List.length_cons, List.length_nil, List.cons_append, List.nil_append, List.replicate_succ, List.replicate_zero, id, q_asB, q_asI, q_add, q_addS, q_addT, q_addL, q_int, q_sub, q_mul, q_fdiv, q_mod, q_pow, q_neg, q_le, q_ge, q_gt, q_lt, q_ltT, q_isN, q_isB, q_isBi, q_isBs, q_isBn, q_isBt, q_isnt, n_non, n_bl, n_int, n_str, n_tup, n_ref, q_eq, q_eqS, q_eqB, q_ixT, q_ixK, q_ixL, q_ixS, q_slT, q_slL, q_slS, q_set, q_lenT, q_lenK, q_lenS, q_lenL, q_abs, q_intF, q_max, q_min, q_tupT, q_tupL, q_lstT, q_lstL, q_app, q_ext, q_joinL, q_stw, q_seq, q_lst, q_rng, q_rng2, q_zpT, q_zpL, q_truN, q_truB, q_truI, q_truT, q_truL, t_non, t_bl, t_int, t_str, t_tup, q_isiN, q_isiB, q_isiI, q_isiS, q_isiT, i_NoneType_int, i_NoneType_bool, i_NoneType_tuple, i_NoneType_list, i_NoneType_str, i_bool_int, i_bool_bool, i_bool_tuple, i_bool_list, i_bool_str, i_int_int, i_int_bool, i_int_tuple, i_int_list, i_int_str, i_str_int, i_str_bool, i_str_tuple, i_str_list, i_str_str, i_tuple_int, i_tuple_bool, i_tuple_tuple, i_tuple_list, i_tuple_str, i_list_int, i_list_bool, i_list_tuple, i_list_list, i_list_str, i_dict_int, i_dict_bool, i_dict_tuple, i_dict_list, i_dict_str, up_same, g_02, g_02', g_01, g_11, at_0, at_1, ix_0, ix_1, Option.some.injEq, HQ.lst.injEq, exists_eq_left', exists_eq_left, exists_and_left, exists_eq', exists_eq, decide_eq_true_eq, if_true, if_false, ite_true, ite_false, Bool.false_eq_true, reduceIte, reduceCtorEq, Bool.not_true, Bool.not_false, Nat.zero_add, Nat.reduceAdd, Nat.reduceSub, Nat.reduceLeDiff, Nat.reduceLT, Int.reduceLT, Int.reduceLE, Int.reduceEq, Int.reduceNe, Nat.reduceEqDiff, Int.reduceToNat, Int.reducePow, Int.reduceMul, Int.reduceAdd, Int.reduceSub, Int.reduceNeg, and_true, true_and, decide_true, decide_false, rFld, rSetF, rMet, rMetX, rMake, rBy, Y.rIsE, rCallX, rRaise, rTryAs, rTryOnly, rGd, q_fld, q_sfld, q_met, q_isntB, iEnX, iEn4, e4_t, e4_s, e4_k, e4_r, v_t, v_s, q_lset, q_remD, rNv, a_i, a_s, a_t, a_r, a_k, m_T, m_F, v_r, v_k, lg_r, lg_k, t_t, t_r, t_k, l_t, l_r, l_k, s_t, s_s, s_r, s_k, o_1, j_1, y_1, y_2, y_3, z_tt, z_r, z_k, e_1, k_ii, k_ss, k_bb, k_nn, k_tt, k_r, k_k, n_t, n_r, n_k, u_ii, u_si, lj_1, rLstF, rLcF, rFz, rSlM, iZp3, iEn3, eqvAll_nil, pds_emp, iAny, sq_k, sq_r, ls_t, or_false, false_or, fz_r, fz_k, fz_t, fz_n, fz_b, fz_s, q_lstK, q_truK, t_kl, q_isiK, iRevY, rv_r, rv_k, rv_t, rAug, q_i2K, q_j2K, q_srtB, at_2, at_3, q_strF, rPar3, g_03a, g_03b, g_03c, g_03d, g_03e, g_03f, rLam, rAsk, rCallXK, q_ext3, q_ext3T, q_ext3K, rDc, rDNew, gDk, rLock, rLockE, iKys, iVls, iIts, k_inS, k_inI, k_getS, k_getI, k_setS, k_setI, rMetK, rMakeK, q_srtTx, k_srt, k_len, k_keys, k_vals, k_items]
  refine pick_of hb (by decide) (by decide) fun d S1 hd n1 => ?_
  obtain ⟨many, hm, rfl⟩ := mem_ints (l := [_, _, _, _, _, _, _, _, _, _]) hd
  have hm' : 1 ≤ many ∧ many ≤ 11 := by
    have : ∀ i ∈ ([1, 1, 1, 2, 2, 3, 4, 7, 9, 11] : List Int), 1 ≤ i ∧ i ≤ 11 := by decide
    exact this many hm
  (try dsimp only); rw [rSeq_eq]; try simp -implicitDefEqProofs only [rVar, rC, rBin, rUn, rTst, rChn, rTru, rAnd, rOr, rNot, rAndV, rOrV, rNotV, rIf, rNil, rCons, rTup, rLst, rFn, rCall, rCallK, rSl, rPrt, rNoP, rMt, gNm, q_gN, q_gC, q_gTp, gSb, rNext, rDrop, rRet, rRetN, rBrk, rCnt, rIfS, rSet, rPar, rFor, iSeq, iLst, iRg1, iRg2, iZp, iEn, iStrD, rLc, rYes, q_isi2, q_i2N, q_i2B, q_i2I, q_i2S, q_i2T, q_i2L, q_j2N, q_j2B, q_j2I, q_j2S, q_j2T, q_j2L, q_gt2, q_gtT, q_en, q_int2, q_strD, q_rev, q_ixo, q_ext2, q_extT, q_in, q_ins, q_pop, q_any, En.x, wipeD, start', List.getElem?_cons_zero, List.getElem?_cons_succ, List.set_cons_zero, List.set_cons_succ, List.map_cons, List.map_nil, List.length_cons, List.length_nil, List.cons_append, List.nil_append, List.replicate_succ, List.replicate_zero, id, q_asB, q_asI, q_add, q_addS, q_addT, q_addL, q_int, q_sub, q_mul, q_fdiv, q_mod, q_pow, q_neg, q_le, q_ge, q_gt, q_lt, q_ltT, q_isN, q_isB, q_isBi, q_isBs, q_isBn, q_isBt, q_isnt, n_non, n_bl, n_int, n_str, n_tup, n_ref, q_eq, q_eqS, q_eqB, q_ixT, q_ixK, q_ixL, q_ixS, q_slT, q_slL, q_slS, q_set, q_lenT, q_lenK, q_lenS, q_lenL, q_abs, q_intF, q_max, q_min, q_tupT, q_tupL, q_lstT, q_lstL, q_app, q_ext, q_joinL, q_stw, q_seq, q_lst, q_rng, q_rng2, q_zpT, q_zpL, q_truN, q_truB, q_truI, q_truT, q_truL, t_non, t_bl, t_int, t_str, t_tup, q_isiN, q_isiB, q_isiI, q_isiS, q_isiT, i_NoneType_int, i_NoneType_bool, i_NoneType_tuple, i_NoneType_list, i_NoneType_str, i_bool_int, i_bool_bool, i_bool_tuple, i_bool_list, i_bool_str, i_int_int, i_int_bool, i_int_tuple, i_int_list, i_int_str, i_str_int, i_str_bool, i_str_tuple, i_str_list, i_str_str, i_tuple_int, i_tuple_bool, i_tuple_tuple, i_tuple_list, i_tuple_str, i_list_int, i_list_bool, i_list_tuple, i_list_list, i_list_str, i_dict_int, i_dict_bool, i_dict_tuple, i_dict_list, i_dict_str, up_same, g_02, g_02', g_01, g_11, at_0, at_1, ix_0, ix_1, Option.some.injEq, HQ.lst.injEq, exists_eq_left', exists_eq_left, exists_and_left, exists_eq', exists_eq, decide_eq_true_eq, if_true, if_false, ite_true, ite_false, Bool.false_eq_true, reduceIte, reduceCtorEq, Bool.not_true, Bool.not_false, Nat.zero_add, Nat.reduceAdd, Nat.reduceSub, Nat.reduceLeDiff, Nat.reduceLT, Int.reduceLT, Int.reduceLE, Int.reduceEq, Int.reduceNe, Nat.reduceEqDiff, Int.reduceToNat, Int.reducePow, Int.reduceMul, Int.reduceAdd, Int.reduceSub, Int.reduceNeg, and_true, true_and, decide_true, decide_false, rFld, rSetF, rMet, rMetX, rMake, rBy, Y.rIsE, rCallX, rRaise, rTryAs, rTryOnly, rGd, q_fld, q_sfld, q_met, q_isntB, iEnX, iEn4, e4_t, e4_s, e4_k, e4_r, v_t, v_s, q_lset, q_remD, rNv, a_i, a_s, a_t, a_r, a_k, m_T, m_F, v_r, v_k, lg_r, lg_k, t_t, t_r, t_k, l_t, l_r, l_k, s_t, s_s, s_r, s_k, o_1, j_1, y_1, y_2, y_3, z_tt, z_r, z_k, e_1, k_ii, k_ss, k_bb, k_nn, k_tt, k_r, k_k, n_t, n_r, n_k, u_ii, u_si, lj_1, rLstF, rLcF, rFz, rSlM, iZp3, iEn3, eqvAll_nil, pds_emp, iAny, sq_k, sq_r, ls_t, or_false, false_or, fz_r, fz_k, fz_t, fz_n, fz_b, fz_s, q_lstK, q_truK, t_kl, q_isiK, iRevY, rv_r, rv_k, rv_t, rAug, q_i2K, q_j2K, q_srtB, at_2, at_3, q_strF, rPar3, g_03a, g_03b, g_03c, g_03d, g_03e, g_03f, rLam, rAsk, rCallXK, q_ext3, q_ext3T, q_ext3K, rDc, rDNew, gDk, rLock, rLockE, iKys, iVls, iIts, k_inS, k_inI, k_getS, k_getI, k_setS, k_setI, rMetK, rMakeK, q_srtTx, k_srt, k_len, k_keys, k_vals, k_items]
  refine ⟨⟨by omega, by omega⟩, ?_⟩
  refine lc_draw (fun S' => Nx b S1 S') (fun d => ∃ i, d = .int i) (fun _ _ => trivial) _ _ _ (fun x _ S' Q' hi q => ?_) (by rw [rangeD_len]; simp; omega) (by simp) (Nx.refl n1.bx) (fun acc S2 hl ha n2 => ?_)
  · (try dsimp only); (repeat (first | rw [rSeq_eq] | simp -implicitDefEqProofs only [rVar, rC, rBin, rUn, rTst, rChn, rTru, rAnd, rOr, rNot, rAndV, rOrV, rNotV, rIf, rNil, rCons, rTup, rLst, rFn, rCall, rCallK, rSl, rPrt, rNoP, rMt, gNm, q_gN, q_gC, q_gTp, gSb, rNext, rDrop, rRet, rRetN, rBrk, rCnt, rIfS, rSet, rPar, rFor, iSeq, iLst, iRg1, iRg2, iZp, iEn, iStrD, rLc, rYes, q_isi2, q_i2N, q_i2B, q_i2I, q_i2S, q_i2T, q_i2L, q_j2N, q_j2B, q_j2I, q_j2S, q_j2T, q_j2L, q_gt2, q_gtT, q_en, q_int2, q_strD, q_rev, q_ixo, q_ext2, q_extT, q_in, q_ins, q_pop, q_any, En.x, wipeD, start', List.getElem?_cons_zero, List.getElem?_cons_succ, List.set_cons_zero, List.set_cons_succ, List.map_cons, List.map_nil, List.length_cons, List.length_nil, List.cons_append, List.nil_append, List.replicate_succ, List.replicate_zero, id, q_asB, q_asI, q_add, q_addS, q_addT, q_addL, q_int, q_sub, q_mul, q_fdiv, q_mod, q_pow, q_neg, q_le, q_ge, q_gt, q_lt, q_ltT, q_isN, q_isB, q_isBi, q_isBs, q_isBn, q_isBt, q_isnt, n_non, n_bl, n_int, n_str, n_tup, n_ref, q_eq, q_eqS, q_eqB, q_ixT, q_ixK, q_ixL, q_ixS, q_slT, q_slL, q_slS, q_set, q_lenT, q_lenK, q_lenS, q_lenL, q_abs, q_intF, q_max, q_min, q_tupT, q_tupL, q_lstT, q_lstL, q_app, q_ext, q_joinL, q_stw, q_seq, q_lst, q_rng, q_rng2, q_zpT, q_zpL, q_truN, q_truB, q_truI, q_truT, q_truL, t_non, t_bl, t_int, t_str, t_tup, q_isiN, q_isiB, q_isiI, q_isiS, q_isiT, i_NoneType_int, i_NoneType_bool, i_NoneType_tuple, i_NoneType_list, i_NoneType_str, i_bool_int, i_bool_bool, i_bool_tuple, i_bool_list, i_bool_str, i_int_int, i_int_bool, i_int_tuple, i_int_list, i_int_str, i_str_int, i_str_bool, i_str_tuple, i_str_list, i_str_str, i_tuple_int, i_tuple_bool, i_tuple_tuple, i_tuple_list, i_tuple_str, i_list_int, i_list_bool, i_list_tuple, i_list_list, i_list_str, i_dict_int, i_dict_bool, i_dict_tuple, i_dict_list, i_dict_str, up_same, g_02, g_02', g_01, g_11, at_0, at_1, ix_0, ix_1, Option.some.injEq, HQ.lst.injEq, exists_eq_left', exists_eq_left, exists_and_left, exists_eq', exists_eq, decide_eq_true_eq, if_true, if_false, ite_true, ite_false, Bool.false_eq_true, reduceIte, reduceCtorEq, Bool.not_true, Bool.not_false, Nat.zero_add, Nat.reduceAdd, Nat.reduceSub, Nat.reduceLeDiff, Nat.reduceLT, Int.reduceLT, Int.reduceLE, Int.reduceEq, Int.reduceNe, Nat.reduceEqDiff, Int.reduceToNat, Int.reducePow, Int.reduceMul, Int.reduceAdd, Int.reduceSub, Int.reduceNeg, and_true, true_and, decide_true, decide_false, rFld, rSetF, rMet, rMetX, rMake, rBy, Y.rIsE, rCallX, rRaise, rTryAs, rTryOnly, rGd, q_fld, q_sfld, q_met, q_isntB, iEnX, iEn4, e4_t, e4_s, e4_k, e4_r, v_t, v_s, q_lset, q_remD, rNv, a_i, a_s, a_t, a_r, a_k, m_T, m_F, v_r, v_k, lg_r, lg_k, t_t, t_r, t_k, l_t, l_r, l_k, s_t, s_s, s_r, s_k, o_1, j_1, y_1, y_2, y_3, z_tt, z_r, z_k, e_1, k_ii, k_ss, k_bb, k_nn, k_tt, k_r, k_k, n_t, n_r, n_k, u_ii, u_si, lj_1, rLstF, rLcF, rFz, rSlM, iZp3, iEn3, eqvAll_nil, pds_emp, iAny, sq_k, sq_r, ls_t, or_false, false_or, fz_r, fz_k, fz_t, fz_n, fz_b, fz_s, q_lstK, q_truK, t_kl, q_isiK, iRevY, rv_r, rv_k, rv_t, rAug, q_i2K, q_j2K, q_srtB, at_2, at_3, q_strF, rPar3, g_03a, g_03b, g_03c, g_03d, g_03e, g_03f, rLam, rAsk, rCallXK, q_ext3, q_ext3T, q_ext3K, rDc, rDNew, gDk, rLock, rLockE, iKys, iVls, iIts, k_inS, k_inI, k_getS, k_getI, k_setS, k_setI, rMetK, rMakeK, q_srtTx, k_srt, k_len, k_keys, k_vals, k_items]))
    refine entry_of hi.bx fun i S'' n => q _ _ ⟨i, rfl⟩ (hi.trans n)
  rw [rangeD_len] at hl
  obtain ⟨is, rfl⟩ := ints_of ha
  rw [List.length_map] at hl
  simp only [List.length_nil] at hl
  cases is with
  | nil => simp at hl; omega
  | cons i0 is =>
    intro c hc
    have hcb : c ≠ b := n2.bx.ne hc
    have hlI : is.length + 1 = many.toNat := by simpa using hl
    have nS := n1.trans n2
    (try dsimp only); rw [rSeq_eq]; try simp -implicitDefEqProofs only [rVar, rC, rBin, rUn, rTst, rChn, rTru, rAnd, rOr, rNot, rAndV, rOrV, rNotV, rIf, rNil, rCons, rTup, rLst, rFn, rCall, rCallK, rSl, rPrt, rNoP, rMt, gNm, q_gN, q_gC, q_gTp, gSb, rNext, rDrop, rRet, rRetN, rBrk, rCnt, rIfS, rSet, rPar, rFor, iSeq, iLst, iRg1, iRg2, iZp, iEn, iStrD, rLc, rYes, q_isi2, q_i2N, q_i2B, q_i2I, q_i2S, q_i2T, q_i2L, q_j2N, q_j2B, q_j2I, q_j2S, q_j2T, q_j2L, q_gt2, q_gtT, q_en, q_int2, q_strD, q_rev, q_ixo, q_ext2, q_extT, q_in, q_ins, q_pop, q_any, En.x, wipeD, start', List.getElem?_cons_zero, List.getElem?_cons_succ, List.set_cons_zero, List.set_cons_succ, List.map_cons, List.map_nil, List.length_cons, List.length_nil, List.cons_append, List.nil_append, List.replicate_succ, List.replicate_zero, id, q_asB, q_asI, q_add, q_addS, q_addT, q_addL, q_int, q_sub, q_mul, q_fdiv, q_mod, q_pow, q_neg, q_le, q_ge, q_gt, q_lt, q_ltT, q_isN, q_isB, q_isBi, q_isBs, q_isBn, q_isBt, q_isnt, n_non, n_bl, n_int, n_str, n_tup, n_ref, q_eq, q_eqS, q_eqB, q_ixT, q_ixK, q_ixL, q_ixS, q_slT, q_slL, q_slS, q_set, q_lenT, q_lenK, q_lenS, q_lenL, q_abs, q_intF, q_max, q_min, q_tupT, q_tupL, q_lstT, q_lstL, q_app, q_ext, q_joinL, q_stw, q_seq, q_lst, q_rng, q_rng2, q_zpT, q_zpL, q_truN, q_truB, q_truI, q_truT, q_truL, t_non, t_bl, t_int, t_str, t_tup, q_isiN, q_isiB, q_isiI, q_isiS, q_isiT, i_NoneType_int, i_NoneType_bool, i_NoneType_tuple, i_NoneType_list, i_NoneType_str, i_bool_int, i_bool_bool, i_bool_tuple, i_bool_list, i_bool_str, i_int_int, i_int_bool, i_int_tuple, i_int_list, i_int_str, i_str_int, i_str_bool, i_str_tuple, i_str_list, i_str_str, i_tuple_int, i_tuple_bool, i_tuple_tuple, i_tuple_list, i_tuple_str, i_list_int, i_list_bool, i_list_tuple, i_list_list, i_list_str, i_dict_int, i_dict_bool, i_dict_tuple, i_dict_list, i_dict_str, up_same, g_02, g_02', g_01, g_11, at_0, at_1, ix_0, ix_1, Option.some.injEq, HQ.lst.injEq, exists_eq_left', exists_eq_left, exists_and_left, exists_eq', exists_eq, decide_eq_true_eq, if_true, if_false, ite_true, ite_false, Bool.false_eq_true, reduceIte, reduceCtorEq, Bool.not_true, Bool.not_false, Nat.zero_add, Nat.reduceAdd, Nat.reduceSub, Nat.reduceLeDiff, Nat.reduceLT, Int.reduceLT, Int.reduceLE, Int.reduceEq, Int.reduceNe, Nat.reduceEqDiff, Int.reduceToNat, Int.reducePow, Int.reduceMul, Int.reduceAdd, Int.reduceSub, Int.reduceNeg, and_true, true_and, decide_true, decide_false, rFld, rSetF, rMet, rMetX, rMake, rBy, Y.rIsE, rCallX, rRaise, rTryAs, rTryOnly, rGd, q_fld, q_sfld, q_met, q_isntB, iEnX, iEn4, e4_t, e4_s, e4_k, e4_r, v_t, v_s, q_lset, q_remD, rNv, a_i, a_s, a_t, a_r, a_k, m_T, m_F, v_r, v_k, lg_r, lg_k, t_t, t_r, t_k, l_t, l_r, l_k, s_t, s_s, s_r, s_k, o_1, j_1, y_1, y_2, y_3, z_tt, z_r, z_k, e_1, k_ii, k_ss, k_bb, k_nn, k_tt, k_r, k_k, n_t, n_r, n_k, u_ii, u_si, lj_1, rLstF, rLcF, rFz, rSlM, iZp3, iEn3, eqvAll_nil, pds_emp, iAny, sq_k, sq_r, ls_t, or_false, false_or, fz_r, fz_k, fz_t, fz_n, fz_b, fz_s, q_lstK, q_truK, t_kl, q_isiK, iRevY, rv_r, rv_k, rv_t, rAug, q_i2K, q_j2K, q_srtB, at_2, at_3, q_strF, rPar3, g_03a, g_03b, g_03c, g_03d, g_03e, g_03f, rLam, rAsk, rCallXK, q_ext3, q_ext3T, q_ext3K, rDc, rDNew, gDk, rLock, rLockE, iKys, iVls, iIts, k_inS, k_inI, k_getS, k_getI, k_setS, k_setI, rMetK, rMakeK, q_srtTx, k_srt, k_len, k_keys, k_vals, k_items]
    simp -implicitDefEqProofs only [rVar, rC, rBin, rUn, rTst, rChn, rTru, rAnd, rOr, rNot, rAndV, rOrV, rNotV, rIf, rNil, rCons, rTup, rLst, rFn, rCall, rCallK, rSl, rPrt, rNoP, rMt, gNm, q_gN, q_gC, q_gTp, gSb, rNext, rDrop, rRet, rRetN, rBrk, rCnt, rIfS, rSet, rPar, rFor, iSeq, iLst, iRg1, iRg2, iZp, iEn, iStrD, rLc, rYes, q_isi2, q_i2N, q_i2B, q_i2I, q_i2S, q_i2T, q_i2L, q_j2N, q_j2B, q_j2I, q_j2S, q_j2T, q_j2L, q_gt2, q_gtT, q_en, q_int2, q_strD, q_rev, q_ixo, q_ext2, q_extT, q_in, q_ins, q_pop, q_any, En.x, wipeD, start', List.getElem?_cons_zero, List.getElem?_cons_succ, List.set_cons_zero, List.set_cons_succ, List.map_cons, List.map_nil, List.length_cons, List.length_nil, List.cons_append, List.nil_append, List.replicate_succ, List.replicate_zero, id, q_asB, q_asI, q_add, q_addS, q_addT, q_addL, q_int, q_sub, q_mul, q_fdiv, q_mod, q_pow, q_neg, q_le, q_ge, q_gt, q_lt, q_ltT, q_isN, q_isB, q_isBi, q_isBs, q_isBn, q_isBt, q_isnt, n_non, n_bl, n_int, n_str, n_tup, n_ref, q_eq, q_eqS, q_eqB, q_ixT, q_ixK, q_ixL, q_ixS, q_slT, q_slL, q_slS, q_set, q_lenT, q_lenK, q_lenS, q_lenL, q_abs, q_intF, q_max, q_min, q_tupT, q_tupL, q_lstT, q_lstL, q_app, q_ext, q_joinL, q_stw, q_seq, q_lst, q_rng, q_rng2, q_zpT, q_zpL, q_truN, q_truB, q_truI, q_truT, q_truL, t_non, t_bl, t_int, t_str, t_tup, q_isiN, q_isiB, q_isiI, q_isiS, q_isiT, i_NoneType_int, i_NoneType_bool, i_NoneType_tuple, i_NoneType_list, i_NoneType_str, i_bool_int, i_bool_bool, i_bool_tuple, i_bool_list, i_bool_str, i_int_int, i_int_bool, i_int_tuple, i_int_list, i_int_str, i_str_int, i_str_bool, i_str_tuple, i_str_list, i_str_str, i_tuple_int, i_tuple_bool, i_tuple_tuple, i_tuple_list, i_tuple_str, i_list_int, i_list_bool, i_list_tuple, i_list_list, i_list_str, i_dict_int, i_dict_bool, i_dict_tuple, i_dict_list, i_dict_str, up_same, g_02, g_02', g_01, g_11, at_0, at_1, ix_0, ix_1, Option.some.injEq, HQ.lst.injEq, exists_eq_left', exists_eq_left, exists_and_left, exists_eq', exists_eq, decide_eq_true_eq, if_true, if_false, ite_true, ite_false, Bool.false_eq_true, reduceIte, reduceCtorEq, Bool.not_true, Bool.not_false, Nat.zero_add, Nat.reduceAdd, Nat.reduceSub, Nat.reduceLeDiff, Nat.reduceLT, Int.reduceLT, Int.reduceLE, Int.reduceEq, Int.reduceNe, Nat.reduceEqDiff, Int.reduceToNat, Int.reducePow, Int.reduceMul, Int.reduceAdd, Int.reduceSub, Int.reduceNeg, and_true, true_and, decide_true, decide_false, rFld, rSetF, rMet, rMetX, rMake, rBy, Y.rIsE, rCallX, rRaise, rTryAs, rTryOnly, rGd, q_fld, q_sfld, q_met, q_isntB, iEnX, iEn4, e4_t, e4_s, e4_k, e4_r, v_t, v_s, q_lset, q_remD, rNv, a_i, a_s, a_t, a_r, a_k, m_T, m_F, v_r, v_k, lg_r, lg_k, t_t, t_r, t_k, l_t, l_r, l_k, s_t, s_s, s_r, s_k, o_1, j_1, y_1, y_2, y_3, z_tt, z_r, z_k, e_1, k_ii, k_ss, k_bb, k_nn, k_tt, k_r, k_k, n_t, n_r, n_k, u_ii, u_si, lj_1, rLstF, rLcF, rFz, rSlM, iZp3, iEn3, eqvAll_nil, pds_emp, iAny, sq_k, sq_r, ls_t, or_false, false_or, fz_r, fz_k, fz_t, fz_n, fz_b, fz_s, q_lstK, q_truK, t_kl, q_isiK, iRevY, rv_r, rv_k, rv_t, rAug, q_i2K, q_j2K, q_srtB, at_2, at_3, q_strF, rPar3, g_03a, g_03b, g_03c, g_03d, g_03e, g_03f, rLam, rAsk, rCallXK, q_ext3, q_ext3T, q_ext3K, rDc, rDNew, gDk, rLock, rLockE, iKys, iVls, iIts, k_inS, k_inI, k_getS, k_getI, k_setS, k_setI, rMetK, rMakeK, q_srtTx, k_srt, k_len, k_keys, k_vals, k_items, up_same, up_up]
    have n3 : Nx b S (up S2 c (.lst (D.int (if i0 < 0 then -i0 else i0) :: List.map D.int is))) := nS.trans (Nx.new n2.bx hc)
    have hc3 : up S2 c (.lst (D.int (if i0 < 0 then -i0 else i0) :: List.map D.int is)) c = some (.lst (((if i0 < 0 then -i0 else i0) :: is).map D.int)) := up_same
    generalize up S2 c (.lst (D.int (if i0 < 0 then -i0 else i0) :: List.map D.int is)) = S3 at n3 hc3 ⊢
    (try dsimp only); (repeat (first | rw [rSeq_eq] | simp -implicitDefEqProofs only [rVar, rC, rBin, rUn, rTst, rChn, rTru, rAnd, rOr, rNot, rAndV, rOrV, rNotV, rIf, rNil, rCons, rTup, rLst, rFn, rCall, rCallK, rSl, rPrt, rNoP, rMt, gNm, q_gN, q_gC, q_gTp, gSb, rNext, rDrop, rRet, rRetN, rBrk, rCnt, rIfS, rSet, rPar, rFor, iSeq, iLst, iRg1, iRg2, iZp, iEn, iStrD, rLc, rYes, q_isi2, q_i2N, q_i2B, q_i2I, q_i2S, q_i2T, q_i2L, q_j2N, q_j2B, q_j2I, q_j2S, q_j2T, q_j2L, q_gt2, q_gtT, q_en, q_int2, q_strD, q_rev, q_ixo, q_ext2, q_extT, q_in, q_ins, q_pop, q_any, En.x, wipeD, start', List.getElem?_cons_zero, List.getElem?_cons_succ, List.set_cons_zero, List.set_cons_succ, List.map_cons, List.map_nil, List.length_cons, List.length_nil, List.cons_append, List.nil_append, List.replicate_succ, List.replicate_zero, id, q_asB, q_asI, q_add, q_addS, q_addT, q_addL, q_int, q_sub, q_mul, q_fdiv, q_mod, q_pow, q_neg, q_le, q_ge, q_gt, q_lt, q_ltT, q_isN, q_isB, q_isBi, q_isBs, q_isBn, q_isBt, q_isnt, n_non, n_bl, n_int, n_str, n_tup, n_ref, q_eq, q_eqS, q_eqB, q_ixT, q_ixK, q_ixL, q_ixS, q_slT, q_slL, q_slS, q_set, q_lenT, q_lenK, q_lenS, q_lenL, q_abs, q_intF, q_max, q_min, q_tupT, q_tupL, q_lstT, q_lstL, q_app, q_ext, q_joinL, q_stw, q_seq, q_lst, q_rng, q_rng2, q_zpT, q_zpL, q_truN, q_truB, q_truI, q_truT, q_truL, t_non, t_bl, t_int, t_str, t_tup, q_isiN, q_isiB, q_isiI, q_isiS, q_isiT, i_NoneType_int, i_NoneType_bool, i_NoneType_tuple, i_NoneType_list, i_NoneType_str, i_bool_int, i_bool_bool, i_bool_tuple, i_bool_list, i_bool_str, i_int_int, i_int_bool, i_int_tuple, i_int_list, i_int_str, i_str_int, i_str_bool, i_str_tuple, i_str_list, i_str_str, i_tuple_int, i_tuple_bool, i_tuple_tuple, i_tuple_list, i_tuple_str, i_list_int, i_list_bool, i_list_tuple, i_list_list, i_list_str, i_dict_int, i_dict_bool, i_dict_tuple, i_dict_list, i_dict_str, up_same, g_02, g_02', g_01, g_11, at_0, at_1, ix_0, ix_1, Option.some.injEq, HQ.lst.injEq, exists_eq_left', exists_eq_left, exists_and_left, exists_eq', exists_eq, decide_eq_true_eq, if_true, if_false, ite_true, ite_false, Bool.false_eq_true, reduceIte, reduceCtorEq, Bool.not_true, Bool.not_false, Nat.zero_add, Nat.reduceAdd, Nat.reduceSub, Nat.reduceLeDiff, Nat.reduceLT, Int.reduceLT, Int.reduceLE, Int.reduceEq, Int.reduceNe, Nat.reduceEqDiff, Int.reduceToNat, Int.reducePow, Int.reduceMul, Int.reduceAdd, Int.reduceSub, Int.reduceNeg, and_true, true_and, decide_true, decide_false, rFld, rSetF, rMet, rMetX, rMake, rBy, Y.rIsE, rCallX, rRaise, rTryAs, rTryOnly, rGd, q_fld, q_sfld, q_met, q_isntB, iEnX, iEn4, e4_t, e4_s, e4_k, e4_r, v_t, v_s, q_lset, q_remD, rNv, a_i, a_s, a_t, a_r, a_k, m_T, m_F, v_r, v_k, lg_r, lg_k, t_t, t_r, t_k, l_t, l_r, l_k, s_t, s_s, s_r, s_k, o_1, j_1, y_1, y_2, y_3, z_tt, z_r, z_k, e_1, k_ii, k_ss, k_bb, k_nn, k_tt, k_r, k_k, n_t, n_r, n_k, u_ii, u_si, lj_1, rLstF, rLcF, rFz, rSlM, iZp3, iEn3, eqvAll_nil, pds_emp, iAny, sq_k, sq_r, ls_t, or_false, false_or, fz_r, fz_k, fz_t, fz_n, fz_b, fz_s, q_lstK, q_truK, t_kl, q_isiK, iRevY, rv_r, rv_k, rv_t, rAug, q_i2K, q_j2K, q_srtB, at_2, at_3, q_strF, rPar3, g_03a, g_03b, g_03c, g_03d, g_03e, g_03f, rLam, rAsk, rCallXK, q_ext3, q_ext3T, q_ext3K, rDc, rDNew, gDk, rLock, rLockE, iKys, iVls, iIts, k_inS, k_inI, k_getS, k_getI, k_setS, k_setI, rMetK, rMakeK, q_srtTx, k_srt, k_len, k_keys, k_vals, k_items]))
    refine take_of n3.bx (by decide) (by decide) fun r1 S4 h1 h1' n4 => ?_
    (try dsimp only); (repeat (first | rw [rSeq_eq] | simp -implicitDefEqProofs only [rVar, rC, rBin, rUn, rTst, rChn, rTru, rAnd, rOr, rNot, rAndV, rOrV, rNotV, rIf, rNil, rCons, rTup, rLst, rFn, rCall, rCallK, rSl, rPrt, rNoP, rMt, gNm, q_gN, q_gC, q_gTp, gSb, rNext, rDrop, rRet, rRetN, rBrk, rCnt, rIfS, rSet, rPar, rFor, iSeq, iLst, iRg1, iRg2, iZp, iEn, iStrD, rLc, rYes, q_isi2, q_i2N, q_i2B, q_i2I, q_i2S, q_i2T, q_i2L, q_j2N, q_j2B, q_j2I, q_j2S, q_j2T, q_j2L, q_gt2, q_gtT, q_en, q_int2, q_strD, q_rev, q_ixo, q_ext2, q_extT, q_in, q_ins, q_pop, q_any, En.x, wipeD, start', List.getElem?_cons_zero, List.getElem?_cons_succ, List.set_cons_zero, List.set_cons_succ, List.map_cons, List.map_nil, List.length_cons, List.length_nil, List.cons_append, List.nil_append, List.replicate_succ, List.replicate_zero, id, q_asB, q_asI, q_add, q_addS, q_addT, q_addL, q_int, q_sub, q_mul, q_fdiv, q_mod, q_pow, q_neg, q_le, q_ge, q_gt, q_lt, q_ltT, q_isN, q_isB, q_isBi, q_isBs, q_isBn, q_isBt, q_isnt, n_non, n_bl, n_int, n_str, n_tup, n_ref, q_eq, q_eqS, q_eqB, q_ixT, q_ixK, q_ixL, q_ixS, q_slT, q_slL, q_slS, q_set, q_lenT, q_lenK, q_lenS, q_lenL, q_abs, q_intF, q_max, q_min, q_tupT, q_tupL, q_lstT, q_lstL, q_app, q_ext, q_joinL, q_stw, q_seq, q_lst, q_rng, q_rng2, q_zpT, q_zpL, q_truN, q_truB, q_truI, q_truT, q_truL, t_non, t_bl, t_int, t_str, t_tup, q_isiN, q_isiB, q_isiI, q_isiS, q_isiT, i_NoneType_int, i_NoneType_bool, i_NoneType_tuple, i_NoneType_list, i_NoneType_str, i_bool_int, i_bool_bool, i_bool_tuple, i_bool_list, i_bool_str, i_int_int, i_int_bool, i_int_tuple, i_int_list, i_int_str, i_str_int, i_str_bool, i_str_tuple, i_str_list, i_str_str, i_tuple_int, i_tuple_bool, i_tuple_tuple, i_tuple_list, i_tuple_str, i_list_int, i_list_bool, i_list_tuple, i_list_list, i_list_str, i_dict_int, i_dict_bool, i_dict_tuple, i_dict_list, i_dict_str, up_same, g_02, g_02', g_01, g_11, at_0, at_1, ix_0, ix_1, Option.some.injEq, HQ.lst.injEq, exists_eq_left', exists_eq_left, exists_and_left, exists_eq', exists_eq, decide_eq_true_eq, if_true, if_false, ite_true, ite_false, Bool.false_eq_true, reduceIte, reduceCtorEq, Bool.not_true, Bool.not_false, Nat.zero_add, Nat.reduceAdd, Nat.reduceSub, Nat.reduceLeDiff, Nat.reduceLT, Int.reduceLT, Int.reduceLE, Int.reduceEq, Int.reduceNe, Nat.reduceEqDiff, Int.reduceToNat, Int.reducePow, Int.reduceMul, Int.reduceAdd, Int.reduceSub, Int.reduceNeg, and_true, true_and, decide_true, decide_false, rFld, rSetF, rMet, rMetX, rMake, rBy, Y.rIsE, rCallX, rRaise, rTryAs, rTryOnly, rGd, q_fld, q_sfld, q_met, q_isntB, iEnX, iEn4, e4_t, e4_s, e4_k, e4_r, v_t, v_s, q_lset, q_remD, rNv, a_i, a_s, a_t, a_r, a_k, m_T, m_F, v_r, v_k, lg_r, lg_k, t_t, t_r, t_k, l_t, l_r, l_k, s_t, s_s, s_r, s_k, o_1, j_1, y_1, y_2, y_3, z_tt, z_r, z_k, e_1, k_ii, k_ss, k_bb, k_nn, k_tt, k_r, k_k, n_t, n_r, n_k, u_ii, u_si, lj_1, rLstF, rLcF, rFz, rSlM, iZp3, iEn3, eqvAll_nil, pds_emp, iAny, sq_k, sq_r, ls_t, or_false, false_or, fz_r, fz_k, fz_t, fz_n, fz_b, fz_s, q_lstK, q_truK, t_kl, q_isiK, iRevY, rv_r, rv_k, rv_t, rAug, q_i2K, q_j2K, q_srtB, at_2, at_3, q_strF, rPar3, g_03a, g_03b, g_03c, g_03d, g_03e, g_03f, rLam, rAsk, rCallXK, q_ext3, q_ext3T, q_ext3K, rDc, rDNew, gDk, rLock, rLockE, iKys, iVls, iIts, k_inS, k_inI, k_getS, k_getI, k_setS, k_setI, rMetK, rMakeK, q_srtTx, k_srt, k_len, k_keys, k_vals, k_items]))
    refine take_of n4.bx (by decide) (by decide) fun r2 S5 h2 h2' n5 => ?_
    (try dsimp only); (repeat (first | rw [rSeq_eq] | simp -implicitDefEqProofs only [rVar, rC, rBin, rUn, rTst, rChn, rTru, rAnd, rOr, rNot, rAndV, rOrV, rNotV, rIf, rNil, rCons, rTup, rLst, rFn, rCall, rCallK, rSl, rPrt, rNoP, rMt, gNm, q_gN, q_gC, q_gTp, gSb, rNext, rDrop, rRet, rRetN, rBrk, rCnt, rIfS, rSet, rPar, rFor, iSeq, iLst, iRg1, iRg2, iZp, iEn, iStrD, rLc, rYes, q_isi2, q_i2N, q_i2B, q_i2I, q_i2S, q_i2T, q_i2L, q_j2N, q_j2B, q_j2I, q_j2S, q_j2T, q_j2L, q_gt2, q_gtT, q_en, q_int2, q_strD, q_rev, q_ixo, q_ext2, q_extT, q_in, q_ins, q_pop, q_any, En.x, wipeD, start', List.getElem?_cons_zero, List.getElem?_cons_succ, List.set_cons_zero, List.set_cons_succ, List.map_cons, List.map_nil, List.length_cons, List.length_nil, List.cons_append, List.nil_append, List.replicate_succ, List.replicate_zero, id, q_asB, q_asI, q_add, q_addS, q_addT, q_addL, q_int, q_sub, q_mul, q_fdiv, q_mod, q_pow, q_neg, q_le, q_ge, q_gt, q_lt, q_ltT, q_isN, q_isB, q_isBi, q_isBs, q_isBn, q_isBt, q_isnt, n_non, n_bl, n_int, n_str, n_tup, n_ref, q_eq, q_eqS, q_eqB, q_ixT, q_ixK, q_ixL, q_ixS, q_slT, q_slL, q_slS, q_set, q_lenT, q_lenK, q_lenS, q_lenL, q_abs, q_intF, q_max, q_min, q_tupT, q_tupL, q_lstT, q_lstL, q_app, q_ext, q_joinL, q_stw, q_seq, q_lst, q_rng, q_rng2, q_zpT, q_zpL, q_truN, q_truB, q_truI, q_truT, q_truL, t_non, t_bl, t_int, t_str, t_tup, q_isiN, q_isiB, q_isiI, q_isiS, q_isiT, i_NoneType_int, i_NoneType_bool, i_NoneType_tuple, i_NoneType_list, i_NoneType_str, i_bool_int, i_bool_bool, i_bool_tuple, i_bool_list, i_bool_str, i_int_int, i_int_bool, i_int_tuple, i_int_list, i_int_str, i_str_int, i_str_bool, i_str_tuple, i_str_list, i_str_str, i_tuple_int, i_tuple_bool, i_tuple_tuple, i_tuple_list, i_tuple_str, i_list_int, i_list_bool, i_list_tuple, i_list_list, i_list_str, i_dict_int, i_dict_bool, i_dict_tuple, i_dict_list, i_dict_str, up_same, g_02, g_02', g_01, g_11, at_0, at_1, ix_0, ix_1, Option.some.injEq, HQ.lst.injEq, exists_eq_left', exists_eq_left, exists_and_left, exists_eq', exists_eq, decide_eq_true_eq, if_true, if_false, ite_true, ite_false, Bool.false_eq_true, reduceIte, reduceCtorEq, Bool.not_true, Bool.not_false, Nat.zero_add, Nat.reduceAdd, Nat.reduceSub, Nat.reduceLeDiff, Nat.reduceLT, Int.reduceLT, Int.reduceLE, Int.reduceEq, Int.reduceNe, Nat.reduceEqDiff, Int.reduceToNat, Int.reducePow, Int.reduceMul, Int.reduceAdd, Int.reduceSub, Int.reduceNeg, and_true, true_and, decide_true, decide_false, rFld, rSetF, rMet, rMetX, rMake, rBy, Y.rIsE, rCallX, rRaise, rTryAs, rTryOnly, rGd, q_fld, q_sfld, q_met, q_isntB, iEnX, iEn4, e4_t, e4_s, e4_k, e4_r, v_t, v_s, q_lset, q_remD, rNv, a_i, a_s, a_t, a_r, a_k, m_T, m_F, v_r, v_k, lg_r, lg_k, t_t, t_r, t_k, l_t, l_r, l_k, s_t, s_s, s_r, s_k, o_1, j_1, y_1, y_2, y_3, z_tt, z_r, z_k, e_1, k_ii, k_ss, k_bb, k_nn, k_tt, k_r, k_k, n_t, n_r, n_k, u_ii, u_si, lj_1, rLstF, rLcF, rFz, rSlM, iZp3, iEn3, eqvAll_nil, pds_emp, iAny, sq_k, sq_r, ls_t, or_false, false_or, fz_r, fz_k, fz_t, fz_n, fz_b, fz_s, q_lstK, q_truK, t_kl, q_isiK, iRevY, rv_r, rv_k, rv_t, rAug, q_i2K, q_j2K, q_srtB, at_2, at_3, q_strF, rPar3, g_03a, g_03b, g_03c, g_03d, g_03e, g_03f, rLam, rAsk, rCallXK, q_ext3, q_ext3T, q_ext3K, rDc, rDNew, gDk, rLock, rLockE, iKys, iVls, iIts, k_inS, k_inI, k_getS, k_getI, k_setS, k_setI, rMetK, rMakeK, q_srtTx, k_srt, k_len, k_keys, k_vals, k_items]))
    refine pick_of n5.bx (by simp) (by simp) fun d S6 hd6 n6 => ?_
    obtain ⟨l, hl6, rfl⟩ := mem_ints (l := [_, _, _, _]) hd6
    have hlast : 0 ≤ l ∧ l < 32 := by
      simp only [List.mem_cons, List.not_mem_nil, or_false] at hl6
      rcases hl6 with rfl | rfl | rfl | rfl <;> omega
    have hc6 := n6.get hcb (n5.get hcb (n4.get hcb hc3))
    simp -implicitDefEqProofs only [rVar, rC, rBin, rUn, rTst, rChn, rTru, rAnd, rOr, rNot, rAndV, rOrV, rNotV, rIf, rNil, rCons, rTup, rLst, rFn, rCall, rCallK, rSl, rPrt, rNoP, rMt, gNm, q_gN, q_gC, q_gTp, gSb, rNext, rDrop, rRet, rRetN, rBrk, rCnt, rIfS, rSet, rPar, rFor, iSeq, iLst, iRg1, iRg2, iZp, iEn, iStrD, rLc, rYes, q_isi2, q_i2N, q_i2B, q_i2I, q_i2S, q_i2T, q_i2L, q_j2N, q_j2B, q_j2I, q_j2S, q_j2T, q_j2L, q_gt2, q_gtT, q_en, q_int2, q_strD, q_rev, q_ixo, q_ext2, q_extT, q_in, q_ins, q_pop, q_any, En.x, wipeD, start', List.getElem?_cons_zero, List.getElem?_cons_succ, List.set_cons_zero, List.set_cons_succ, List.map_cons, List.map_nil, List.length_cons, List.length_nil, List.cons_append, List.nil_append, List.replicate_succ, List.replicate_zero, id, q_asB, q_asI, q_add, q_addS, q_addT, q_addL, q_int, q_sub, q_mul, q_fdiv, q_mod, q_pow, q_neg, q_le, q_ge, q_gt, q_lt, q_ltT, q_isN, q_isB, q_isBi, q_isBs, q_isBn, q_isBt, q_isnt, n_non, n_bl, n_int, n_str, n_tup, n_ref, q_eq, q_eqS, q_eqB, q_ixT, q_ixK, q_ixL, q_ixS, q_slT, q_slL, q_slS, q_set, q_lenT, q_lenK, q_lenS, q_lenL, q_abs, q_intF, q_max, q_min, q_tupT, q_tupL, q_lstT, q_lstL, q_app, q_ext, q_joinL, q_stw, q_seq, q_lst, q_rng, q_rng2, q_zpT, q_zpL, q_truN, q_truB, q_truI, q_truT, q_truL, t_non, t_bl, t_int, t_str, t_tup, q_isiN, q_isiB, q_isiI, q_isiS, q_isiT, i_NoneType_int, i_NoneType_bool, i_NoneType_tuple, i_NoneType_list, i_NoneType_str, i_bool_int, i_bool_bool, i_bool_tuple, i_bool_list, i_bool_str, i_int_int, i_int_bool, i_int_tuple, i_int_list, i_int_str, i_str_int, i_str_bool, i_str_tuple, i_str_list, i_str_str, i_tuple_int, i_tuple_bool, i_tuple_tuple, i_tuple_list, i_tuple_str, i_list_int, i_list_bool, i_list_tuple, i_list_list, i_list_str, i_dict_int, i_dict_bool, i_dict_tuple, i_dict_list, i_dict_str, up_same, g_02, g_02', g_01, g_11, at_0, at_1, ix_0, ix_1, Option.some.injEq, HQ.lst.injEq, exists_eq_left', exists_eq_left, exists_and_left, exists_eq', exists_eq, decide_eq_true_eq, if_true, if_false, ite_true, ite_false, Bool.false_eq_true, reduceIte, reduceCtorEq, Bool.not_true, Bool.not_false, Nat.zero_add, Nat.reduceAdd, Nat.reduceSub, Nat.reduceLeDiff, Nat.reduceLT, Int.reduceLT, Int.reduceLE, Int.reduceEq, Int.reduceNe, Nat.reduceEqDiff, Int.reduceToNat, Int.reducePow, Int.reduceMul, Int.reduceAdd, Int.reduceSub, Int.reduceNeg, and_true, true_and, decide_true, decide_false, rFld, rSetF, rMet, rMetX, rMake, rBy, Y.rIsE, rCallX, rRaise, rTryAs, rTryOnly, rGd, q_fld, q_sfld, q_met, q_isntB, iEnX, iEn4, e4_t, e4_s, e4_k, e4_r, v_t, v_s, q_lset, q_remD, rNv, a_i, a_s, a_t, a_r, a_k, m_T, m_F, v_r, v_k, lg_r, lg_k, t_t, t_r, t_k, l_t, l_r, l_k, s_t, s_s, s_r, s_k, o_1, j_1, y_1, y_2, y_3, z_tt, z_r, z_k, e_1, k_ii, k_ss, k_bb, k_nn, k_tt, k_r, k_k, n_t, n_r, n_k, u_ii, u_si, lj_1, rLstF, rLcF, rFz, rSlM, iZp3, iEn3, eqvAll_nil, pds_emp, iAny, sq_k, sq_r, ls_t, or_false, false_or, fz_r, fz_k, fz_t, fz_n, fz_b, fz_s, q_lstK, q_truK, t_kl, q_isiK, iRevY, rv_r, rv_k, rv_t, rAug, q_i2K, q_j2K, q_srtB, at_2, at_3, q_strF, rPar3, g_03a, g_03b, g_03c, g_03d, g_03e, g_03f, rLam, rAsk, rCallXK, q_ext3, q_ext3T, q_ext3K, rDc, rDNew, gDk, rLock, rLockE, iKys, iVls, iIts, k_inS, k_inI, k_getS, k_getI, k_setS, k_setI, rMetK, rMakeK, q_srtTx, k_srt, k_len, k_keys, k_vals, k_items, hc6]
    refine ⟨by simp; omega, ?_⟩
    have e : List.map D.int ((if i0 < 0 then -i0 else i0) :: is) ++ [D.int l] = List.map D.int ((if i0 < 0 then -i0 else i0) :: (is ++ [l])) := by simp
    simp -implicitDefEqProofs only [rVar, rC, rBin, rUn, rTst, rChn, rTru, rAnd, rOr, rNot, rAndV, rOrV, rNotV, rIf, rNil, rCons, rTup, rLst, rFn, rCall, rCallK, rSl, rPrt, rNoP, rMt, gNm, q_gN, q_gC, q_gTp, gSb, rNext, rDrop, rRet, rRetN, rBrk, rCnt, rIfS, rSet, rPar, rFor, iSeq, iLst, iRg1, iRg2, iZp, iEn, iStrD, rLc, rYes, q_isi2, q_i2N, q_i2B, q_i2I, q_i2S, q_i2T, q_i2L, q_j2N, q_j2B, q_j2I, q_j2S, q_j2T, q_j2L, q_gt2, q_gtT, q_en, q_int2, q_strD, q_rev, q_ixo, q_ext2, q_extT, q_in, q_ins, q_pop, q_any, En.x, wipeD, start', List.getElem?_cons_zero, List.getElem?_cons_succ, List.set_cons_zero, List.set_cons_succ, List.map_cons, List.map_nil, List.length_cons, List.length_nil, List.cons_append, List.nil_append, List.replicate_succ, List.replicate_zero, id, q_asB, q_asI, q_add, q_addS, q_addT, q_addL, q_int, q_sub, q_mul, q_fdiv, q_mod, q_pow, q_neg, q_le, q_ge, q_gt, q_lt, q_ltT, q_isN, q_isB, q_isBi, q_isBs, q_isBn, q_isBt, q_isnt, n_non, n_bl, n_int, n_str, n_tup, n_ref, q_eq, q_eqS, q_eqB, q_ixT, q_ixK, q_ixL, q_ixS, q_slT, q_slL, q_slS, q_set, q_lenT, q_lenK, q_lenS, q_lenL, q_abs, q_intF, q_max, q_min, q_tupT, q_tupL, q_lstT, q_lstL, q_app, q_ext, q_joinL, q_stw, q_seq, q_lst, q_rng, q_rng2, q_zpT, q_zpL, q_truN, q_truB, q_truI, q_truT, q_truL, t_non, t_bl, t_int, t_str, t_tup, q_isiN, q_isiB, q_isiI, q_isiS, q_isiT, i_NoneType_int, i_NoneType_bool, i_NoneType_tuple, i_NoneType_list, i_NoneType_str, i_bool_int, i_bool_bool, i_bool_tuple, i_bool_list, i_bool_str, i_int_int, i_int_bool, i_int_tuple, i_int_list, i_int_str, i_str_int, i_str_bool, i_str_tuple, i_str_list, i_str_str, i_tuple_int, i_tuple_bool, i_tuple_tuple, i_tuple_list, i_tuple_str, i_list_int, i_list_bool, i_list_tuple, i_list_list, i_list_str, i_dict_int, i_dict_bool, i_dict_tuple, i_dict_list, i_dict_str, up_same, g_02, g_02', g_01, g_11, at_0, at_1, ix_0, ix_1, Option.some.injEq, HQ.lst.injEq, exists_eq_left', exists_eq_left, exists_and_left, exists_eq', exists_eq, decide_eq_true_eq, if_true, if_false, ite_true, ite_false, Bool.false_eq_true, reduceIte, reduceCtorEq, Bool.not_true, Bool.not_false, Nat.zero_add, Nat.reduceAdd, Nat.reduceSub, Nat.reduceLeDiff, Nat.reduceLT, Int.reduceLT, Int.reduceLE, Int.reduceEq, Int.reduceNe, Nat.reduceEqDiff, Int.reduceToNat, Int.reducePow, Int.reduceMul, Int.reduceAdd, Int.reduceSub, Int.reduceNeg, and_true, true_and, decide_true, decide_false, rFld, rSetF, rMet, rMetX, rMake, rBy, Y.rIsE, rCallX, rRaise, rTryAs, rTryOnly, rGd, q_fld, q_sfld, q_met, q_isntB, iEnX, iEn4, e4_t, e4_s, e4_k, e4_r, v_t, v_s, q_lset, q_remD, rNv, a_i, a_s, a_t, a_r, a_k, m_T, m_F, v_r, v_k, lg_r, lg_k, t_t, t_r, t_k, l_t, l_r, l_k, s_t, s_s, s_r, s_k, o_1, j_1, y_1, y_2, y_3, z_tt, z_r, z_k, e_1, k_ii, k_ss, k_bb, k_nn, k_tt, k_r, k_k, n_t, n_r, n_k, u_ii, u_si, lj_1, rLstF, rLcF, rFz, rSlM, iZp3, iEn3, eqvAll_nil, pds_emp, iAny, sq_k, sq_r, ls_t, or_false, false_or, fz_r, fz_k, fz_t, fz_n, fz_b, fz_s, q_lstK, q_truK, t_kl, q_isiK, iRevY, rv_r, rv_k, rv_t, rAug, q_i2K, q_j2K, q_srtB, at_2, at_3, q_strF, rPar3, g_03a, g_03b, g_03c, g_03d, g_03e, g_03f, rLam, rAsk, rCallXK, q_ext3, q_ext3T, q_ext3K, rDc, rDNew, gDk, rLock, rLockE, iKys, iVls, iIts, k_inS, k_inI, k_getS, k_getI, k_setS, k_setI, rMetK, rMakeK, q_srtTx, k_srt, k_len, k_keys, k_vals, k_items] at e
    rw [e]
    exact k _ _ ⟨_, is, l, rfl, by split <;> omega, hlast.1, hlast.2, by simp; simp at hl; omega⟩ (((n3.trans n4).trans n5).trans n6)
end K01
namespace K01
open PySem PySem.Spec PyProof.Rows L2 Y
theorem pu_law_same : ∀ n ds S Q, sp_law_same (n + 1) ds S Q NoX → rd_law_same (sp_law_same n) { nx := fun _ S => Q .non S, rt := Q } (start' 5 ds) S := by
  rintro n _ S Q ⟨d, rfl, hp, k⟩
  unfold rd_law_same
  cases d with
  | tup xs =>
    simp -implicitDefEqProofs only [rVar, rC, rBin, rUn, rTst, rChn, rTru, rAnd, rOr, rNot, rAndV, rOrV, rNotV, rIf, rNil, rCons, rTup, rLst, rFn, rCall, rCallK, rSl, rPrt, rNoP, rMt, gNm, q_gN, q_gC, q_gTp, gSb, rNext, rSeq, rDrop, rRet, rRetN, rBrk, rCnt, rIfS, rSet, rPar, rFor, iSeq, iLst, iRg1, iRg2, iZp, iEn, iStrD, rLc, rYes, q_isi2, q_i2N, q_i2B, q_i2I, q_i2S, q_i2T, q_i2L, q_j2N, q_j2B, q_j2I, q_j2S, q_j2T, q_j2L, q_gt2, q_gtT, q_en, q_int2, q_strD, q_rev, q_ixo, q_ext2, q_extT, q_in, q_ins, q_pop, q_any, En.x, wipeD, start', List.getElem?_cons_zero, List.getElem?_cons_succ, List.set_cons_zero, List.set_cons_succ, List.map_cons, List.map_nil, List.length_cons, List.length_nil, List.cons_append, List.nil_append, List.replicate_succ, List.replicate_zero, id, q_asB, q_asI, q_add, q_addS, q_addT, q_addL, q_int, q_sub, q_mul, q_fdiv, q_mod, q_pow, q_neg, q_le, q_ge, q_gt, q_lt, q_ltT, q_isN, q_isB, q_isBi, q_isBs, q_isBn, q_isBt, q_isnt, n_non, n_bl, n_int, n_str, n_tup, n_ref, q_eq, q_eqS, q_eqB, q_ixT, q_ixK, q_ixL, q_ixS, q_slT, q_slL, q_slS, q_set, q_lenT, q_lenK, q_lenS, q_lenL, q_abs, q_intF, q_max, q_min, q_tupT, q_tupL, q_lstT, q_lstL, q_app, q_ext, q_joinL, q_stw, q_seq, q_lst, q_rng, q_rng2, q_zpT, q_zpL, q_truN, q_truB, q_truI, q_truT, q_truL, t_non, t_bl, t_int, t_str, t_tup, q_isiN, q_isiB, q_isiI, q_isiS, q_isiT, i_NoneType_int, i_NoneType_bool, i_NoneType_tuple, i_NoneType_list, i_NoneType_str, i_bool_int, i_bool_bool, i_bool_tuple, i_bool_list, i_bool_str, i_int_int, i_int_bool, i_int_tuple, i_int_list, i_int_str, i_str_int, i_str_bool, i_str_tuple, i_str_list, i_str_str, i_tuple_int, i_tuple_bool, i_tuple_tuple, i_tuple_list, i_tuple_str, i_list_int, i_list_bool, i_list_tuple, i_list_list, i_list_str, i_dict_int, i_dict_bool, i_dict_tuple, i_dict_list, i_dict_str, up_same, g_02, g_02', g_01, g_11, at_0, at_1, ix_0, ix_1, Option.some.injEq, HQ.lst.injEq, exists_eq_left', exists_eq_left, exists_and_left, exists_eq', exists_eq, decide_eq_true_eq, if_true, if_false, ite_true, ite_false, Bool.false_eq_true, reduceIte, reduceCtorEq, Bool.not_true, Bool.not_false, Nat.zero_add, Nat.reduceAdd, Nat.reduceSub, Nat.reduceLeDiff, Nat.reduceLT, Int.reduceLT, Int.reduceLE, Int.reduceEq, Int.reduceNe, Nat.reduceEqDiff, Int.reduceToNat, Int.reducePow, Int.reduceMul, Int.reduceAdd, Int.reduceSub, Int.reduceNeg, and_true, true_and, decide_true, decide_false, rFld, rSetF, rMet, rMetX, rMake, rBy, Y.rIsE, rCallX, rRaise, rTryAs, rTryOnly, rGd, q_fld, q_sfld, q_met, q_isntB, iEnX, iEn4, e4_t, e4_s, e4_k, e4_r, v_t, v_s, q_lset, q_remD, rNv, a_i, a_s, a_t, a_r, a_k, m_T, m_F, v_r, v_k, lg_r, lg_k, t_t, t_r, t_k, l_t, l_r, l_k, s_t, s_s, s_r, s_k, o_1, j_1, y_1, y_2, y_3, z_tt, z_r, z_k, e_1, k_ii, k_ss, k_bb, k_nn, k_tt, k_r, k_k, n_t, n_r, n_k, u_ii, u_si, lj_1, rLstF, rLcF, rFz, rSlM, iZp3, iEn3, eqvAll_nil, pds_emp, iAny, sq_k, sq_r, ls_t, or_false, false_or, fz_r, fz_k, fz_t, fz_n, fz_b, fz_s, q_lstK, q_truK, t_kl, q_isiK, iRevY, rv_r, rv_k, rv_t, rAug, q_i2K, q_j2K, q_srtB, at_2, at_3, q_strF, rPar3, g_03a, g_03b, g_03c, g_03d, g_03e, g_03f, rLam, rAsk, rCallXK, q_ext3, q_ext3T, q_ext3K, rDc, rDNew, gDk, rLock, rLockE, iKys, iVls, iIts, k_inS, k_inI, k_getS, k_getI, k_setS, k_setI, rMetK, rMakeK, q_srtTx, k_srt, k_len, k_keys, k_vals, k_items, bne_self_eq_false, ne_eq, not_true_eq_false, Bool.not_eq_true]
    refine loop_idx (fun i σ S' => S' = S ∧ ∃ y z w, σ = [some (.tup xs), some (.tup xs), y, z, w]) (fun _ _ _ _ _ => trivial) (fun i x σ S' hx hi N hN => ?_) (fun σ S' hi => ?_) ⟨rfl, _, _, _, rfl⟩
    · obtain ⟨rfl, y, z, w, rfl⟩ := hi
      obtain ⟨a, a', h1, h2, rfl⟩ := zipD_get hx
      rw [h1] at h2; cases h2
      simp -implicitDefEqProofs only [rVar, rC, rBin, rUn, rTst, rChn, rTru, rAnd, rOr, rNot, rAndV, rOrV, rNotV, rIf, rNil, rCons, rTup, rLst, rFn, rCall, rCallK, rSl, rPrt, rNoP, rMt, gNm, q_gN, q_gC, q_gTp, gSb, rNext, rSeq, rDrop, rRet, rRetN, rBrk, rCnt, rIfS, rSet, rPar, rFor, iSeq, iLst, iRg1, iRg2, iZp, iEn, iStrD, rLc, rYes, q_isi2, q_i2N, q_i2B, q_i2I, q_i2S, q_i2T, q_i2L, q_j2N, q_j2B, q_j2I, q_j2S, q_j2T, q_j2L, q_gt2, q_gtT, q_en, q_int2, q_strD, q_rev, q_ixo, q_ext2, q_extT, q_in, q_ins, q_pop, q_any, En.x, wipeD, start', List.getElem?_cons_zero, List.getElem?_cons_succ, List.set_cons_zero, List.set_cons_succ, List.map_cons, List.map_nil, List.length_cons, List.length_nil, List.cons_append, List.nil_append, List.replicate_succ, List.replicate_zero, id, q_asB, q_asI, q_add, q_addS, q_addT, q_addL, q_int, q_sub, q_mul, q_fdiv, q_mod, q_pow, q_neg, q_le, q_ge, q_gt, q_lt, q_ltT, q_isN, q_isB, q_isBi, q_isBs, q_isBn, q_isBt, q_isnt, n_non, n_bl, n_int, n_str, n_tup, n_ref, q_eq, q_eqS, q_eqB, q_ixT, q_ixK, q_ixL, q_ixS, q_slT, q_slL, q_slS, q_set, q_lenT, q_lenK, q_lenS, q_lenL, q_abs, q_intF, q_max, q_min, q_tupT, q_tupL, q_lstT, q_lstL, q_app, q_ext, q_joinL, q_stw, q_seq, q_lst, q_rng, q_rng2, q_zpT, q_zpL, q_truN, q_truB, q_truI, q_truT, q_truL, t_non, t_bl, t_int, t_str, t_tup, q_isiN, q_isiB, q_isiI, q_isiS, q_isiT, i_NoneType_int, i_NoneType_bool, i_NoneType_tuple, i_NoneType_list, i_NoneType_str, i_bool_int, i_bool_bool, i_bool_tuple, i_bool_list, i_bool_str, i_int_int, i_int_bool, i_int_tuple, i_int_list, i_int_str, i_str_int, i_str_bool, i_str_tuple, i_str_list, i_str_str, i_tuple_int, i_tuple_bool, i_tuple_tuple, i_tuple_list, i_tuple_str, i_list_int, i_list_bool, i_list_tuple, i_list_list, i_list_str, i_dict_int, i_dict_bool, i_dict_tuple, i_dict_list, i_dict_str, up_same, g_02, g_02', g_01, g_11, at_0, at_1, ix_0, ix_1, Option.some.injEq, HQ.lst.injEq, exists_eq_left', exists_eq_left, exists_and_left, exists_eq', exists_eq, decide_eq_true_eq, if_true, if_false, ite_true, ite_false, Bool.false_eq_true, reduceIte, reduceCtorEq, Bool.not_true, Bool.not_false, Nat.zero_add, Nat.reduceAdd, Nat.reduceSub, Nat.reduceLeDiff, Nat.reduceLT, Int.reduceLT, Int.reduceLE, Int.reduceEq, Int.reduceNe, Nat.reduceEqDiff, Int.reduceToNat, Int.reducePow, Int.reduceMul, Int.reduceAdd, Int.reduceSub, Int.reduceNeg, and_true, true_and, decide_true, decide_false, rFld, rSetF, rMet, rMetX, rMake, rBy, Y.rIsE, rCallX, rRaise, rTryAs, rTryOnly, rGd, q_fld, q_sfld, q_met, q_isntB, iEnX, iEn4, e4_t, e4_s, e4_k, e4_r, v_t, v_s, q_lset, q_remD, rNv, a_i, a_s, a_t, a_r, a_k, m_T, m_F, v_r, v_k, lg_r, lg_k, t_t, t_r, t_k, l_t, l_r, l_k, s_t, s_s, s_r, s_k, o_1, j_1, y_1, y_2, y_3, z_tt, z_r, z_k, e_1, k_ii, k_ss, k_bb, k_nn, k_tt, k_r, k_k, n_t, n_r, n_k, u_ii, u_si, lj_1, rLstF, rLcF, rFz, rSlM, iZp3, iEn3, eqvAll_nil, pds_emp, iAny, sq_k, sq_r, ls_t, or_false, false_or, fz_r, fz_k, fz_t, fz_n, fz_b, fz_s, q_lstK, q_truK, t_kl, q_isiK, iRevY, rv_r, rv_k, rv_t, rAug, q_i2K, q_j2K, q_srtB, at_2, at_3, q_strF, rPar3, g_03a, g_03b, g_03c, g_03d, g_03e, g_03f, rLam, rAsk, rCallXK, q_ext3, q_ext3T, q_ext3K, rDc, rDNew, gDk, rLock, rLockE, iKys, iVls, iIts, k_inS, k_inI, k_getS, k_getI, k_setS, k_setI, rMetK, rMakeK, q_srtTx, k_srt, k_len, k_keys, k_vals, k_items]
      refine ⟨a, rfl, hp.2 a (List.mem_of_getElem? h1), ?_⟩
      simp -implicitDefEqProofs only [rVar, rC, rBin, rUn, rTst, rChn, rTru, rAnd, rOr, rNot, rAndV, rOrV, rNotV, rIf, rNil, rCons, rTup, rLst, rFn, rCall, rCallK, rSl, rPrt, rNoP, rMt, gNm, q_gN, q_gC, q_gTp, gSb, rNext, rSeq, rDrop, rRet, rRetN, rBrk, rCnt, rIfS, rSet, rPar, rFor, iSeq, iLst, iRg1, iRg2, iZp, iEn, iStrD, rLc, rYes, q_isi2, q_i2N, q_i2B, q_i2I, q_i2S, q_i2T, q_i2L, q_j2N, q_j2B, q_j2I, q_j2S, q_j2T, q_j2L, q_gt2, q_gtT, q_en, q_int2, q_strD, q_rev, q_ixo, q_ext2, q_extT, q_in, q_ins, q_pop, q_any, En.x, wipeD, start', List.getElem?_cons_zero, List.getElem?_cons_succ, List.set_cons_zero, List.set_cons_succ, List.map_cons, List.map_nil, List.length_cons, List.length_nil, List.cons_append, List.nil_append, List.replicate_succ, List.replicate_zero, id, q_asB, q_asI, q_add, q_addS, q_addT, q_addL, q_int, q_sub, q_mul, q_fdiv, q_mod, q_pow, q_neg, q_le, q_ge, q_gt, q_lt, q_ltT, q_isN, q_isB, q_isBi, q_isBs, q_isBn, q_isBt, q_isnt, n_non, n_bl, n_int, n_str, n_tup, n_ref, q_eq, q_eqS, q_eqB, q_ixT, q_ixK, q_ixL, q_ixS, q_slT, q_slL, q_slS, q_set, q_lenT, q_lenK, q_lenS, q_lenL, q_abs, q_intF, q_max, q_min, q_tupT, q_tupL, q_lstT, q_lstL, q_app, q_ext, q_joinL, q_stw, q_seq, q_lst, q_rng, q_rng2, q_zpT, q_zpL, q_truN, q_truB, q_truI, q_truT, q_truL, t_non, t_bl, t_int, t_str, t_tup, q_isiN, q_isiB, q_isiI, q_isiS, q_isiT, i_NoneType_int, i_NoneType_bool, i_NoneType_tuple, i_NoneType_list, i_NoneType_str, i_bool_int, i_bool_bool, i_bool_tuple, i_bool_list, i_bool_str, i_int_int, i_int_bool, i_int_tuple, i_int_list, i_int_str, i_str_int, i_str_bool, i_str_tuple, i_str_list, i_str_str, i_tuple_int, i_tuple_bool, i_tuple_tuple, i_tuple_list, i_tuple_str, i_list_int, i_list_bool, i_list_tuple, i_list_list, i_list_str, i_dict_int, i_dict_bool, i_dict_tuple, i_dict_list, i_dict_str, up_same, g_02, g_02', g_01, g_11, at_0, at_1, ix_0, ix_1, Option.some.injEq, HQ.lst.injEq, exists_eq_left', exists_eq_left, exists_and_left, exists_eq', exists_eq, decide_eq_true_eq, if_true, if_false, ite_true, ite_false, Bool.false_eq_true, reduceIte, reduceCtorEq, Bool.not_true, Bool.not_false, Nat.zero_add, Nat.reduceAdd, Nat.reduceSub, Nat.reduceLeDiff, Nat.reduceLT, Int.reduceLT, Int.reduceLE, Int.reduceEq, Int.reduceNe, Nat.reduceEqDiff, Int.reduceToNat, Int.reducePow, Int.reduceMul, Int.reduceAdd, Int.reduceSub, Int.reduceNeg, and_true, true_and, decide_true, decide_false, rFld, rSetF, rMet, rMetX, rMake, rBy, Y.rIsE, rCallX, rRaise, rTryAs, rTryOnly, rGd, q_fld, q_sfld, q_met, q_isntB, iEnX, iEn4, e4_t, e4_s, e4_k, e4_r, v_t, v_s, q_lset, q_remD, rNv, a_i, a_s, a_t, a_r, a_k, m_T, m_F, v_r, v_k, lg_r, lg_k, t_t, t_r, t_k, l_t, l_r, l_k, s_t, s_s, s_r, s_k, o_1, j_1, y_1, y_2, y_3, z_tt, z_r, z_k, e_1, k_ii, k_ss, k_bb, k_nn, k_tt, k_r, k_k, n_t, n_r, n_k, u_ii, u_si, lj_1, rLstF, rLcF, rFz, rSlM, iZp3, iEn3, eqvAll_nil, pds_emp, iAny, sq_k, sq_r, ls_t, or_false, false_or, fz_r, fz_k, fz_t, fz_n, fz_b, fz_s, q_lstK, q_truK, t_kl, q_isiK, iRevY, rv_r, rv_k, rv_t, rAug, q_i2K, q_j2K, q_srtB, at_2, at_3, q_strF, rPar3, g_03a, g_03b, g_03c, g_03d, g_03e, g_03f, rLam, rAsk, rCallXK, q_ext3, q_ext3T, q_ext3K, rDc, rDNew, gDk, rLock, rLockE, iKys, iVls, iIts, k_inS, k_inI, k_getS, k_getI, k_setS, k_setI, rMetK, rMakeK, q_srtTx, k_srt, k_len, k_keys, k_vals, k_items]
      exact hN _ _ ⟨rfl, _, _, _, rfl⟩
    · obtain ⟨rfl, y, z, w, rfl⟩ := hi
      simp -implicitDefEqProofs only [rVar, rC, rBin, rUn, rTst, rChn, rTru, rAnd, rOr, rNot, rAndV, rOrV, rNotV, rIf, rNil, rCons, rTup, rLst, rFn, rCall, rCallK, rSl, rPrt, rNoP, rMt, gNm, q_gN, q_gC, q_gTp, gSb, rNext, rSeq, rDrop, rRet, rRetN, rBrk, rCnt, rIfS, rSet, rPar, rFor, iSeq, iLst, iRg1, iRg2, iZp, iEn, iStrD, rLc, rYes, q_isi2, q_i2N, q_i2B, q_i2I, q_i2S, q_i2T, q_i2L, q_j2N, q_j2B, q_j2I, q_j2S, q_j2T, q_j2L, q_gt2, q_gtT, q_en, q_int2, q_strD, q_rev, q_ixo, q_ext2, q_extT, q_in, q_ins, q_pop, q_any, En.x, wipeD, start', List.getElem?_cons_zero, List.getElem?_cons_succ, List.set_cons_zero, List.set_cons_succ, List.map_cons, List.map_nil, List.length_cons, List.length_nil, List.cons_append, List.nil_append, List.replicate_succ, List.replicate_zero, id, q_asB, q_asI, q_add, q_addS, q_addT, q_addL, q_int, q_sub, q_mul, q_fdiv, q_mod, q_pow, q_neg, q_le, q_ge, q_gt, q_lt, q_ltT, q_isN, q_isB, q_isBi, q_isBs, q_isBn, q_isBt, q_isnt, n_non, n_bl, n_int, n_str, n_tup, n_ref, q_eq, q_eqS, q_eqB, q_ixT, q_ixK, q_ixL, q_ixS, q_slT, q_slL, q_slS, q_set, q_lenT, q_lenK, q_lenS, q_lenL, q_abs, q_intF, q_max, q_min, q_tupT, q_tupL, q_lstT, q_lstL, q_app, q_ext, q_joinL, q_stw, q_seq, q_lst, q_rng, q_rng2, q_zpT, q_zpL, q_truN, q_truB, q_truI, q_truT, q_truL, t_non, t_bl, t_int, t_str, t_tup, q_isiN, q_isiB, q_isiI, q_isiS, q_isiT, i_NoneType_int, i_NoneType_bool, i_NoneType_tuple, i_NoneType_list, i_NoneType_str, i_bool_int, i_bool_bool, i_bool_tuple, i_bool_list, i_bool_str, i_int_int, i_int_bool, i_int_tuple, i_int_list, i_int_str, i_str_int, i_str_bool, i_str_tuple, i_str_list, i_str_str, i_tuple_int, i_tuple_bool, i_tuple_tuple, i_tuple_list, i_tuple_str, i_list_int, i_list_bool, i_list_tuple, i_list_list, i_list_str, i_dict_int, i_dict_bool, i_dict_tuple, i_dict_list, i_dict_str, up_same, g_02, g_02', g_01, g_11, at_0, at_1, ix_0, ix_1, Option.some.injEq, HQ.lst.injEq, exists_eq_left', exists_eq_left, exists_and_left, exists_eq', exists_eq, decide_eq_true_eq, if_true, if_false, ite_true, ite_false, Bool.false_eq_true, reduceIte, reduceCtorEq, Bool.not_true, Bool.not_false, Nat.zero_add, Nat.reduceAdd, Nat.reduceSub, Nat.reduceLeDiff, Nat.reduceLT, Int.reduceLT, Int.reduceLE, Int.reduceEq, Int.reduceNe, Nat.reduceEqDiff, Int.reduceToNat, Int.reducePow, Int.reduceMul, Int.reduceAdd, Int.reduceSub, Int.reduceNeg, and_true, true_and, decide_true, decide_false, rFld, rSetF, rMet, rMetX, rMake, rBy, Y.rIsE, rCallX, rRaise, rTryAs, rTryOnly, rGd, q_fld, q_sfld, q_met, q_isntB, iEnX, iEn4, e4_t, e4_s, e4_k, e4_r, v_t, v_s, q_lset, q_remD, rNv, a_i, a_s, a_t, a_r, a_k, m_T, m_F, v_r, v_k, lg_r, lg_k, t_t, t_r, t_k, l_t, l_r, l_k, s_t, s_s, s_r, s_k, o_1, j_1, y_1, y_2, y_3, z_tt, z_r, z_k, e_1, k_ii, k_ss, k_bb, k_nn, k_tt, k_r, k_k, n_t, n_r, n_k, u_ii, u_si, lj_1, rLstF, rLcF, rFz, rSlM, iZp3, iEn3, eqvAll_nil, pds_emp, iAny, sq_k, sq_r, ls_t, or_false, false_or, fz_r, fz_k, fz_t, fz_n, fz_b, fz_s, q_lstK, q_truK, t_kl, q_isiK, iRevY, rv_r, rv_k, rv_t, rAug, q_i2K, q_j2K, q_srtB, at_2, at_3, q_strF, rPar3, g_03a, g_03b, g_03c, g_03d, g_03e, g_03f, rLam, rAsk, rCallXK, q_ext3, q_ext3T, q_ext3K, rDc, rDNew, gDk, rLock, rLockE, iKys, iVls, iIts, k_inS, k_inI, k_getS, k_getI, k_setS, k_setI, rMetK, rMakeK, q_srtTx, k_srt, k_len, k_keys, k_vals, k_items]
      exact k
  | kl xs =>
    simp -implicitDefEqProofs only [rVar, rC, rBin, rUn, rTst, rChn, rTru, rAnd, rOr, rNot, rAndV, rOrV, rNotV, rIf, rNil, rCons, rTup, rLst, rFn, rCall, rCallK, rSl, rPrt, rNoP, rMt, gNm, q_gN, q_gC, q_gTp, gSb, rNext, rSeq, rDrop, rRet, rRetN, rBrk, rCnt, rIfS, rSet, rPar, rFor, iSeq, iLst, iRg1, iRg2, iZp, iEn, iStrD, rLc, rYes, q_isi2, q_i2N, q_i2B, q_i2I, q_i2S, q_i2T, q_i2L, q_j2N, q_j2B, q_j2I, q_j2S, q_j2T, q_j2L, q_gt2, q_gtT, q_en, q_int2, q_strD, q_rev, q_ixo, q_ext2, q_extT, q_in, q_ins, q_pop, q_any, En.x, wipeD, start', List.getElem?_cons_zero, List.getElem?_cons_succ, List.set_cons_zero, List.set_cons_succ, List.map_cons, List.map_nil, List.length_cons, List.length_nil, List.cons_append, List.nil_append, List.replicate_succ, List.replicate_zero, id, q_asB, q_asI, q_add, q_addS, q_addT, q_addL, q_int, q_sub, q_mul, q_fdiv, q_mod, q_pow, q_neg, q_le, q_ge, q_gt, q_lt, q_ltT, q_isN, q_isB, q_isBi, q_isBs, q_isBn, q_isBt, q_isnt, n_non, n_bl, n_int, n_str, n_tup, n_ref, q_eq, q_eqS, q_eqB, q_ixT, q_ixK, q_ixL, q_ixS, q_slT, q_slL, q_slS, q_set, q_lenT, q_lenK, q_lenS, q_lenL, q_abs, q_intF, q_max, q_min, q_tupT, q_tupL, q_lstT, q_lstL, q_app, q_ext, q_joinL, q_stw, q_seq, q_lst, q_rng, q_rng2, q_zpT, q_zpL, q_truN, q_truB, q_truI, q_truT, q_truL, t_non, t_bl, t_int, t_str, t_tup, q_isiN, q_isiB, q_isiI, q_isiS, q_isiT, i_NoneType_int, i_NoneType_bool, i_NoneType_tuple, i_NoneType_list, i_NoneType_str, i_bool_int, i_bool_bool, i_bool_tuple, i_bool_list, i_bool_str, i_int_int, i_int_bool, i_int_tuple, i_int_list, i_int_str, i_str_int, i_str_bool, i_str_tuple, i_str_list, i_str_str, i_tuple_int, i_tuple_bool, i_tuple_tuple, i_tuple_list, i_tuple_str, i_list_int, i_list_bool, i_list_tuple, i_list_list, i_list_str, i_dict_int, i_dict_bool, i_dict_tuple, i_dict_list, i_dict_str, up_same, g_02, g_02', g_01, g_11, at_0, at_1, ix_0, ix_1, Option.some.injEq, HQ.lst.injEq, exists_eq_left', exists_eq_left, exists_and_left, exists_eq', exists_eq, decide_eq_true_eq, if_true, if_false, ite_true, ite_false, Bool.false_eq_true, reduceIte, reduceCtorEq, Bool.not_true, Bool.not_false, Nat.zero_add, Nat.reduceAdd, Nat.reduceSub, Nat.reduceLeDiff, Nat.reduceLT, Int.reduceLT, Int.reduceLE, Int.reduceEq, Int.reduceNe, Nat.reduceEqDiff, Int.reduceToNat, Int.reducePow, Int.reduceMul, Int.reduceAdd, Int.reduceSub, Int.reduceNeg, and_true, true_and, decide_true, decide_false, rFld, rSetF, rMet, rMetX, rMake, rBy, Y.rIsE, rCallX, rRaise, rTryAs, rTryOnly, rGd, q_fld, q_sfld, q_met, q_isntB, iEnX, iEn4, e4_t, e4_s, e4_k, e4_r, v_t, v_s, q_lset, q_remD, rNv, a_i, a_s, a_t, a_r, a_k, m_T, m_F, v_r, v_k, lg_r, lg_k, t_t, t_r, t_k, l_t, l_r, l_k, s_t, s_s, s_r, s_k, o_1, j_1, y_1, y_2, y_3, z_tt, z_r, z_k, e_1, k_ii, k_ss, k_bb, k_nn, k_tt, k_r, k_k, n_t, n_r, n_k, u_ii, u_si, lj_1, rLstF, rLcF, rFz, rSlM, iZp3, iEn3, eqvAll_nil, pds_emp, iAny, sq_k, sq_r, ls_t, or_false, false_or, fz_r, fz_k, fz_t, fz_n, fz_b, fz_s, q_lstK, q_truK, t_kl, q_isiK, iRevY, rv_r, rv_k, rv_t, rAug, q_i2K, q_j2K, q_srtB, at_2, at_3, q_strF, rPar3, g_03a, g_03b, g_03c, g_03d, g_03e, g_03f, rLam, rAsk, rCallXK, q_ext3, q_ext3T, q_ext3K, rDc, rDNew, gDk, rLock, rLockE, iKys, iVls, iIts, k_inS, k_inI, k_getS, k_getI, k_setS, k_setI, rMetK, rMakeK, q_srtTx, k_srt, k_len, k_keys, k_vals, k_items, bne_self_eq_false, ne_eq, not_true_eq_false, Bool.not_eq_true]
    refine loop_idx (fun i σ S' => S' = S ∧ ∃ y z w, σ = [some (.kl xs), some (.kl xs), y, z, w]) (fun _ _ _ _ _ => by first | trivial | exact ⟨trivial, trivial⟩) (fun i x σ S' hx hi N hN => ?_) (fun σ S' hi => ?_) ⟨rfl, _, _, _, rfl⟩
    · obtain ⟨rfl, y, z, w, rfl⟩ := hi
      obtain ⟨a, a', h1, h2, rfl⟩ := zipD_get hx
      rw [h1] at h2; cases h2
      simp -implicitDefEqProofs only [rVar, rC, rBin, rUn, rTst, rChn, rTru, rAnd, rOr, rNot, rAndV, rOrV, rNotV, rIf, rNil, rCons, rTup, rLst, rFn, rCall, rCallK, rSl, rPrt, rNoP, rMt, gNm, q_gN, q_gC, q_gTp, gSb, rNext, rSeq, rDrop, rRet, rRetN, rBrk, rCnt, rIfS, rSet, rPar, rFor, iSeq, iLst, iRg1, iRg2, iZp, iEn, iStrD, rLc, rYes, q_isi2, q_i2N, q_i2B, q_i2I, q_i2S, q_i2T, q_i2L, q_j2N, q_j2B, q_j2I, q_j2S, q_j2T, q_j2L, q_gt2, q_gtT, q_en, q_int2, q_strD, q_rev, q_ixo, q_ext2, q_extT, q_in, q_ins, q_pop, q_any, En.x, wipeD, start', List.getElem?_cons_zero, List.getElem?_cons_succ, List.set_cons_zero, List.set_cons_succ, List.map_cons, List.map_nil, List.length_cons, List.length_nil, List.cons_append, List.nil_append, List.replicate_succ, List.replicate_zero, id, q_asB, q_asI, q_add, q_addS, q_addT, q_addL, q_int, q_sub, q_mul, q_fdiv, q_mod, q_pow, q_neg, q_le, q_ge, q_gt, q_lt, q_ltT, q_isN, q_isB, q_isBi, q_isBs, q_isBn, q_isBt, q_isnt, n_non, n_bl, n_int, n_str, n_tup, n_ref, q_eq, q_eqS, q_eqB, q_ixT, q_ixK, q_ixL, q_ixS, q_slT, q_slL, q_slS, q_set, q_lenT, q_lenK, q_lenS, q_lenL, q_abs, q_intF, q_max, q_min, q_tupT, q_tupL, q_lstT, q_lstL, q_app, q_ext, q_joinL, q_stw, q_seq, q_lst, q_rng, q_rng2, q_zpT, q_zpL, q_truN, q_truB, q_truI, q_truT, q_truL, t_non, t_bl, t_int, t_str, t_tup, q_isiN, q_isiB, q_isiI, q_isiS, q_isiT, i_NoneType_int, i_NoneType_bool, i_NoneType_tuple, i_NoneType_list, i_NoneType_str, i_bool_int, i_bool_bool, i_bool_tuple, i_bool_list, i_bool_str, i_int_int, i_int_bool, i_int_tuple, i_int_list, i_int_str, i_str_int, i_str_bool, i_str_tuple, i_str_list, i_str_str, i_tuple_int, i_tuple_bool, i_tuple_tuple, i_tuple_list, i_tuple_str, i_list_int, i_list_bool, i_list_tuple, i_list_list, i_list_str, i_dict_int, i_dict_bool, i_dict_tuple, i_dict_list, i_dict_str, up_same, g_02, g_02', g_01, g_11, at_0, at_1, ix_0, ix_1, Option.some.injEq, HQ.lst.injEq, exists_eq_left', exists_eq_left, exists_and_left, exists_eq', exists_eq, decide_eq_true_eq, if_true, if_false, ite_true, ite_false, Bool.false_eq_true, reduceIte, reduceCtorEq, Bool.not_true, Bool.not_false, Nat.zero_add, Nat.reduceAdd, Nat.reduceSub, Nat.reduceLeDiff, Nat.reduceLT, Int.reduceLT, Int.reduceLE, Int.reduceEq, Int.reduceNe, Nat.reduceEqDiff, Int.reduceToNat, Int.reducePow, Int.reduceMul, Int.reduceAdd, Int.reduceSub, Int.reduceNeg, and_true, true_and, decide_true, decide_false, rFld, rSetF, rMet, rMetX, rMake, rBy, Y.rIsE, rCallX, rRaise, rTryAs, rTryOnly, rGd, q_fld, q_sfld, q_met, q_isntB, iEnX, iEn4, e4_t, e4_s, e4_k, e4_r, v_t, v_s, q_lset, q_remD, rNv, a_i, a_s, a_t, a_r, a_k, m_T, m_F, v_r, v_k, lg_r, lg_k, t_t, t_r, t_k, l_t, l_r, l_k, s_t, s_s, s_r, s_k, o_1, j_1, y_1, y_2, y_3, z_tt, z_r, z_k, e_1, k_ii, k_ss, k_bb, k_nn, k_tt, k_r, k_k, n_t, n_r, n_k, u_ii, u_si, lj_1, rLstF, rLcF, rFz, rSlM, iZp3, iEn3, eqvAll_nil, pds_emp, iAny, sq_k, sq_r, ls_t, or_false, false_or, fz_r, fz_k, fz_t, fz_n, fz_b, fz_s, q_lstK, q_truK, t_kl, q_isiK, iRevY, rv_r, rv_k, rv_t, rAug, q_i2K, q_j2K, q_srtB, at_2, at_3, q_strF, rPar3, g_03a, g_03b, g_03c, g_03d, g_03e, g_03f, rLam, rAsk, rCallXK, q_ext3, q_ext3T, q_ext3K, rDc, rDNew, gDk, rLock, rLockE, iKys, iVls, iIts, k_inS, k_inI, k_getS, k_getI, k_setS, k_setI, rMetK, rMakeK, q_srtTx, k_srt, k_len, k_keys, k_vals, k_items]
      refine ⟨a, rfl, hp.2 a (List.mem_of_getElem? h1), ?_⟩
      simp -implicitDefEqProofs only [rVar, rC, rBin, rUn, rTst, rChn, rTru, rAnd, rOr, rNot, rAndV, rOrV, rNotV, rIf, rNil, rCons, rTup, rLst, rFn, rCall, rCallK, rSl, rPrt, rNoP, rMt, gNm, q_gN, q_gC, q_gTp, gSb, rNext, rSeq, rDrop, rRet, rRetN, rBrk, rCnt, rIfS, rSet, rPar, rFor, iSeq, iLst, iRg1, iRg2, iZp, iEn, iStrD, rLc, rYes, q_isi2, q_i2N, q_i2B, q_i2I, q_i2S, q_i2T, q_i2L, q_j2N, q_j2B, q_j2I, q_j2S, q_j2T, q_j2L, q_gt2, q_gtT, q_en, q_int2, q_strD, q_rev, q_ixo, q_ext2, q_extT, q_in, q_ins, q_pop, q_any, En.x, wipeD, start', List.getElem?_cons_zero, List.getElem?_cons_succ, List.set_cons_zero, List.set_cons_succ, List.map_cons, List.map_nil, List.length_cons, List.length_nil, List.cons_append, List.nil_append, List.replicate_succ, List.replicate_zero, id, q_asB, q_asI, q_add, q_addS, q_addT, q_addL, q_int, q_sub, q_mul, q_fdiv, q_mod, q_pow, q_neg, q_le, q_ge, q_gt, q_lt, q_ltT, q_isN, q_isB, q_isBi, q_isBs, q_isBn, q_isBt, q_isnt, n_non, n_bl, n_int, n_str, n_tup, n_ref, q_eq, q_eqS, q_eqB, q_ixT, q_ixK, q_ixL, q_ixS, q_slT, q_slL, q_slS, q_set, q_lenT, q_lenK, q_lenS, q_lenL, q_abs, q_intF, q_max, q_min, q_tupT, q_tupL, q_lstT, q_lstL, q_app, q_ext, q_joinL, q_stw, q_seq, q_lst, q_rng, q_rng2, q_zpT, q_zpL, q_truN, q_truB, q_truI, q_truT, q_truL, t_non, t_bl, t_int, t_str, t_tup, q_isiN, q_isiB, q_isiI, q_isiS, q_isiT, i_NoneType_int, i_NoneType_bool, i_NoneType_tuple, i_NoneType_list, i_NoneType_str, i_bool_int, i_bool_bool, i_bool_tuple, i_bool_list, i_bool_str, i_int_int, i_int_bool, i_int_tuple, i_int_list, i_int_str, i_str_int, i_str_bool, i_str_tuple, i_str_list, i_str_str, i_tuple_int, i_tuple_bool, i_tuple_tuple, i_tuple_list, i_tuple_str, i_list_int, i_list_bool, i_list_tuple, i_list_list, i_list_str, i_dict_int, i_dict_bool, i_dict_tuple, i_dict_list, i_dict_str, up_same, g_02, g_02', g_01, g_11, at_0, at_1, ix_0, ix_1, Option.some.injEq, HQ.lst.injEq, exists_eq_left', exists_eq_left, exists_and_left, exists_eq', exists_eq, decide_eq_true_eq, if_true, if_false, ite_true, ite_false, Bool.false_eq_true, reduceIte, reduceCtorEq, Bool.not_true, Bool.not_false, Nat.zero_add, Nat.reduceAdd, Nat.reduceSub, Nat.reduceLeDiff, Nat.reduceLT, Int.reduceLT, Int.reduceLE, Int.reduceEq, Int.reduceNe, Nat.reduceEqDiff, Int.reduceToNat, Int.reducePow, Int.reduceMul, Int.reduceAdd, Int.reduceSub, Int.reduceNeg, and_true, true_and, decide_true, decide_false, rFld, rSetF, rMet, rMetX, rMake, rBy, Y.rIsE, rCallX, rRaise, rTryAs, rTryOnly, rGd, q_fld, q_sfld, q_met, q_isntB, iEnX, iEn4, e4_t, e4_s, e4_k, e4_r, v_t, v_s, q_lset, q_remD, rNv, a_i, a_s, a_t, a_r, a_k, m_T, m_F, v_r, v_k, lg_r, lg_k, t_t, t_r, t_k, l_t, l_r, l_k, s_t, s_s, s_r, s_k, o_1, j_1, y_1, y_2, y_3, z_tt, z_r, z_k, e_1, k_ii, k_ss, k_bb, k_nn, k_tt, k_r, k_k, n_t, n_r, n_k, u_ii, u_si, lj_1, rLstF, rLcF, rFz, rSlM, iZp3, iEn3, eqvAll_nil, pds_emp, iAny, sq_k, sq_r, ls_t, or_false, false_or, fz_r, fz_k, fz_t, fz_n, fz_b, fz_s, q_lstK, q_truK, t_kl, q_isiK, iRevY, rv_r, rv_k, rv_t, rAug, q_i2K, q_j2K, q_srtB, at_2, at_3, q_strF, rPar3, g_03a, g_03b, g_03c, g_03d, g_03e, g_03f, rLam, rAsk, rCallXK, q_ext3, q_ext3T, q_ext3K, rDc, rDNew, gDk, rLock, rLockE, iKys, iVls, iIts, k_inS, k_inI, k_getS, k_getI, k_setS, k_setI, rMetK, rMakeK, q_srtTx, k_srt, k_len, k_keys, k_vals, k_items]
      exact hN _ _ ⟨rfl, _, _, _, rfl⟩
    · obtain ⟨rfl, y, z, w, rfl⟩ := hi
      simp -implicitDefEqProofs only [rVar, rC, rBin, rUn, rTst, rChn, rTru, rAnd, rOr, rNot, rAndV, rOrV, rNotV, rIf, rNil, rCons, rTup, rLst, rFn, rCall, rCallK, rSl, rPrt, rNoP, rMt, gNm, q_gN, q_gC, q_gTp, gSb, rNext, rSeq, rDrop, rRet, rRetN, rBrk, rCnt, rIfS, rSet, rPar, rFor, iSeq, iLst, iRg1, iRg2, iZp, iEn, iStrD, rLc, rYes, q_isi2, q_i2N, q_i2B, q_i2I, q_i2S, q_i2T, q_i2L, q_j2N, q_j2B, q_j2I, q_j2S, q_j2T, q_j2L, q_gt2, q_gtT, q_en, q_int2, q_strD, q_rev, q_ixo, q_ext2, q_extT, q_in, q_ins, q_pop, q_any, En.x, wipeD, start', List.getElem?_cons_zero, List.getElem?_cons_succ, List.set_cons_zero, List.set_cons_succ, List.map_cons, List.map_nil, List.length_cons, List.length_nil, List.cons_append, List.nil_append, List.replicate_succ, List.replicate_zero, id, q_asB, q_asI, q_add, q_addS, q_addT, q_addL, q_int, q_sub, q_mul, q_fdiv, q_mod, q_pow, q_neg, q_le, q_ge, q_gt, q_lt, q_ltT, q_isN, q_isB, q_isBi, q_isBs, q_isBn, q_isBt, q_isnt, n_non, n_bl, n_int, n_str, n_tup, n_ref, q_eq, q_eqS, q_eqB, q_ixT, q_ixK, q_ixL, q_ixS, q_slT, q_slL, q_slS, q_set, q_lenT, q_lenK, q_lenS, q_lenL, q_abs, q_intF, q_max, q_min, q_tupT, q_tupL, q_lstT, q_lstL, q_app, q_ext, q_joinL, q_stw, q_seq, q_lst, q_rng, q_rng2, q_zpT, q_zpL, q_truN, q_truB, q_truI, q_truT, q_truL, t_non, t_bl, t_int, t_str, t_tup, q_isiN, q_isiB, q_isiI, q_isiS, q_isiT, i_NoneType_int, i_NoneType_bool, i_NoneType_tuple, i_NoneType_list, i_NoneType_str, i_bool_int, i_bool_bool, i_bool_tuple, i_bool_list, i_bool_str, i_int_int, i_int_bool, i_int_tuple, i_int_list, i_int_str, i_str_int, i_str_bool, i_str_tuple, i_str_list, i_str_str, i_tuple_int, i_tuple_bool, i_tuple_tuple, i_tuple_list, i_tuple_str, i_list_int, i_list_bool, i_list_tuple, i_list_list, i_list_str, i_dict_int, i_dict_bool, i_dict_tuple, i_dict_list, i_dict_str, up_same, g_02, g_02', g_01, g_11, at_0, at_1, ix_0, ix_1, Option.some.injEq, HQ.lst.injEq, exists_eq_left', exists_eq_left, exists_and_left, exists_eq', exists_eq, decide_eq_true_eq, if_true, if_false, ite_true, ite_false, Bool.false_eq_true, reduceIte, reduceCtorEq, Bool.not_true, Bool.not_false, Nat.zero_add, Nat.reduceAdd, Nat.reduceSub, Nat.reduceLeDiff, Nat.reduceLT, Int.reduceLT, Int.reduceLE, Int.reduceEq, Int.reduceNe, Nat.reduceEqDiff, Int.reduceToNat, Int.reducePow, Int.reduceMul, Int.reduceAdd, Int.reduceSub, Int.reduceNeg, and_true, true_and, decide_true, decide_false, rFld, rSetF, rMet, rMetX, rMake, rBy, Y.rIsE, rCallX, rRaise, rTryAs, rTryOnly, rGd, q_fld, q_sfld, q_met, q_isntB, iEnX, iEn4, e4_t, e4_s, e4_k, e4_r, v_t, v_s, q_lset, q_remD, rNv, a_i, a_s, a_t, a_r, a_k, m_T, m_F, v_r, v_k, lg_r, lg_k, t_t, t_r, t_k, l_t, l_r, l_k, s_t, s_s, s_r, s_k, o_1, j_1, y_1, y_2, y_3, z_tt, z_r, z_k, e_1, k_ii, k_ss, k_bb, k_nn, k_tt, k_r, k_k, n_t, n_r, n_k, u_ii, u_si, lj_1, rLstF, rLcF, rFz, rSlM, iZp3, iEn3, eqvAll_nil, pds_emp, iAny, sq_k, sq_r, ls_t, or_false, false_or, fz_r, fz_k, fz_t, fz_n, fz_b, fz_s, q_lstK, q_truK, t_kl, q_isiK, iRevY, rv_r, rv_k, rv_t, rAug, q_i2K, q_j2K, q_srtB, at_2, at_3, q_strF, rPar3, g_03a, g_03b, g_03c, g_03d, g_03e, g_03f, rLam, rAsk, rCallXK, q_ext3, q_ext3T, q_ext3K, rDc, rDNew, gDk, rLock, rLockE, iKys, iVls, iIts, k_inS, k_inI, k_getS, k_getI, k_setS, k_setI, rMetK, rMakeK, q_srtTx, k_srt, k_len, k_keys, k_vals, k_items]
      exact k
  | non => simp -implicitDefEqProofs only [rVar, rC, rBin, rUn, rTst, rChn, rTru, rAnd, rOr, rNot, rAndV, rOrV, rNotV, rIf, rNil, rCons, rTup, rLst, rFn, rCall, rCallK, rSl, rPrt, rNoP, rMt, gNm, q_gN, q_gC, q_gTp, gSb, rNext, rSeq, rDrop, rRet, rRetN, rBrk, rCnt, rIfS, rSet, rPar, rFor, iSeq, iLst, iRg1, iRg2, iZp, iEn, iStrD, rLc, rYes, q_isi2, q_i2N, q_i2B, q_i2I, q_i2S, q_i2T, q_i2L, q_j2N, q_j2B, q_j2I, q_j2S, q_j2T, q_j2L, q_gt2, q_gtT, q_en, q_int2, q_strD, q_rev, q_ixo, q_ext2, q_extT, q_in, q_ins, q_pop, q_any, En.x, wipeD, start', List.getElem?_cons_zero, List.getElem?_cons_succ, List.set_cons_zero, List.set_cons_succ, List.map_cons, List.map_nil, List.length_cons, List.length_nil, List.cons_append, List.nil_append, List.replicate_succ, List.replicate_zero, id, q_asB, q_asI, q_add, q_addS, q_addT, q_addL, q_int, q_sub, q_mul, q_fdiv, q_mod, q_pow, q_neg, q_le, q_ge, q_gt, q_lt, q_ltT, q_isN, q_isB, q_isBi, q_isBs, q_isBn, q_isBt, q_isnt, n_non, n_bl, n_int, n_str, n_tup, n_ref, q_eq, q_eqS, q_eqB, q_ixT, q_ixK, q_ixL, q_ixS, q_slT, q_slL, q_slS, q_set, q_lenT, q_lenK, q_lenS, q_lenL, q_abs, q_intF, q_max, q_min, q_tupT, q_tupL, q_lstT, q_lstL, q_app, q_ext, q_joinL, q_stw, q_seq, q_lst, q_rng, q_rng2, q_zpT, q_zpL, q_truN, q_truB, q_truI, q_truT, q_truL, t_non, t_bl, t_int, t_str, t_tup, q_isiN, q_isiB, q_isiI, q_isiS, q_isiT, i_NoneType_int, i_NoneType_bool, i_NoneType_tuple, i_NoneType_list, i_NoneType_str, i_bool_int, i_bool_bool, i_bool_tuple, i_bool_list, i_bool_str, i_int_int, i_int_bool, i_int_tuple, i_int_list, i_int_str, i_str_int, i_str_bool, i_str_tuple, i_str_list, i_str_str, i_tuple_int, i_tuple_bool, i_tuple_tuple, i_tuple_list, i_tuple_str, i_list_int, i_list_bool, i_list_tuple, i_list_list, i_list_str, i_dict_int, i_dict_bool, i_dict_tuple, i_dict_list, i_dict_str, up_same, g_02, g_02', g_01, g_11, at_0, at_1, ix_0, ix_1, Option.some.injEq, HQ.lst.injEq, exists_eq_left', exists_eq_left, exists_and_left, exists_eq', exists_eq, decide_eq_true_eq, if_true, if_false, ite_true, ite_false, Bool.false_eq_true, reduceIte, reduceCtorEq, Bool.not_true, Bool.not_false, Nat.zero_add, Nat.reduceAdd, Nat.reduceSub, Nat.reduceLeDiff, Nat.reduceLT, Int.reduceLT, Int.reduceLE, Int.reduceEq, Int.reduceNe, Nat.reduceEqDiff, Int.reduceToNat, Int.reducePow, Int.reduceMul, Int.reduceAdd, Int.reduceSub, Int.reduceNeg, and_true, true_and, decide_true, decide_false, rFld, rSetF, rMet, rMetX, rMake, rBy, Y.rIsE, rCallX, rRaise, rTryAs, rTryOnly, rGd, q_fld, q_sfld, q_met, q_isntB, iEnX, iEn4, e4_t, e4_s, e4_k, e4_r, v_t, v_s, q_lset, q_remD, rNv, a_i, a_s, a_t, a_r, a_k, m_T, m_F, v_r, v_k, lg_r, lg_k, t_t, t_r, t_k, l_t, l_r, l_k, s_t, s_s, s_r, s_k, o_1, j_1, y_1, y_2, y_3, z_tt, z_r, z_k, e_1, k_ii, k_ss, k_bb, k_nn, k_tt, k_r, k_k, n_t, n_r, n_k, u_ii, u_si, lj_1, rLstF, rLcF, rFz, rSlM, iZp3, iEn3, eqvAll_nil, pds_emp, iAny, sq_k, sq_r, ls_t, or_false, false_or, fz_r, fz_k, fz_t, fz_n, fz_b, fz_s, q_lstK, q_truK, t_kl, q_isiK, iRevY, rv_r, rv_k, rv_t, rAug, q_i2K, q_j2K, q_srtB, at_2, at_3, q_strF, rPar3, g_03a, g_03b, g_03c, g_03d, g_03e, g_03f, rLam, rAsk, rCallXK, q_ext3, q_ext3T, q_ext3K, rDc, rDNew, gDk, rLock, rLockE, iKys, iVls, iIts, k_inS, k_inI, k_getS, k_getI, k_setS, k_setI, rMetK, rMakeK, q_srtTx, k_srt, k_len, k_keys, k_vals, k_items]; exact k
  | bl v => cases v <;> (simp -implicitDefEqProofs only [rVar, rC, rBin, rUn, rTst, rChn, rTru, rAnd, rOr, rNot, rAndV, rOrV, rNotV, rIf, rNil, rCons, rTup, rLst, rFn, rCall, rCallK, rSl, rPrt, rNoP, rMt, gNm, q_gN, q_gC, q_gTp, gSb, rNext, rSeq, rDrop, rRet, rRetN, rBrk, rCnt, rIfS, rSet, rPar, rFor, iSeq, iLst, iRg1, iRg2, iZp, iEn, iStrD, rLc, rYes, q_isi2, q_i2N, q_i2B, q_i2I, q_i2S, q_i2T, q_i2L, q_j2N, q_j2B, q_j2I, q_j2S, q_j2T, q_j2L, q_gt2, q_gtT, q_en, q_int2, q_strD, q_rev, q_ixo, q_ext2, q_extT, q_in, q_ins, q_pop, q_any, En.x, wipeD, start', List.getElem?_cons_zero, List.getElem?_cons_succ, List.set_cons_zero, List.set_cons_succ, List.map_cons, List.map_nil, List.length_cons, List.length_nil, List.cons_append, List.nil_append, List.replicate_succ, List.replicate_zero, id, q_asB, q_asI, q_add, q_addS, q_addT, q_addL, q_int, q_sub, q_mul, q_fdiv, q_mod, q_pow, q_neg, q_le, q_ge, q_gt, q_lt, q_ltT, q_isN, q_isB, q_isBi, q_isBs, q_isBn, q_isBt, q_isnt, n_non, n_bl, n_int, n_str, n_tup, n_ref, q_eq, q_eqS, q_eqB, q_ixT, q_ixK, q_ixL, q_ixS, q_slT, q_slL, q_slS, q_set, q_lenT, q_lenK, q_lenS, q_lenL, q_abs, q_intF, q_max, q_min, q_tupT, q_tupL, q_lstT, q_lstL, q_app, q_ext, q_joinL, q_stw, q_seq, q_lst, q_rng, q_rng2, q_zpT, q_zpL, q_truN, q_truB, q_truI, q_truT, q_truL, t_non, t_bl, t_int, t_str, t_tup, q_isiN, q_isiB, q_isiI, q_isiS, q_isiT, i_NoneType_int, i_NoneType_bool, i_NoneType_tuple, i_NoneType_list, i_NoneType_str, i_bool_int, i_bool_bool, i_bool_tuple, i_bool_list, i_bool_str, i_int_int, i_int_bool, i_int_tuple, i_int_list, i_int_str, i_str_int, i_str_bool, i_str_tuple, i_str_list, i_str_str, i_tuple_int, i_tuple_bool, i_tuple_tuple, i_tuple_list, i_tuple_str, i_list_int, i_list_bool, i_list_tuple, i_list_list, i_list_str, i_dict_int, i_dict_bool, i_dict_tuple, i_dict_list, i_dict_str, up_same, g_02, g_02', g_01, g_11, at_0, at_1, ix_0, ix_1, Option.some.injEq, HQ.lst.injEq, exists_eq_left', exists_eq_left, exists_and_left, exists_eq', exists_eq, decide_eq_true_eq, if_true, if_false, ite_true, ite_false, Bool.false_eq_true, reduceIte, reduceCtorEq, Bool.not_true, Bool.not_false, Nat.zero_add, Nat.reduceAdd, Nat.reduceSub, Nat.reduceLeDiff, Nat.reduceLT, Int.reduceLT, Int.reduceLE, Int.reduceEq, Int.reduceNe, Nat.reduceEqDiff, Int.reduceToNat, Int.reducePow, Int.reduceMul, Int.reduceAdd, Int.reduceSub, Int.reduceNeg, and_true, true_and, decide_true, decide_false, rFld, rSetF, rMet, rMetX, rMake, rBy, Y.rIsE, rCallX, rRaise, rTryAs, rTryOnly, rGd, q_fld, q_sfld, q_met, q_isntB, iEnX, iEn4, e4_t, e4_s, e4_k, e4_r, v_t, v_s, q_lset, q_remD, rNv, a_i, a_s, a_t, a_r, a_k, m_T, m_F, v_r, v_k, lg_r, lg_k, t_t, t_r, t_k, l_t, l_r, l_k, s_t, s_s, s_r, s_k, o_1, j_1, y_1, y_2, y_3, z_tt, z_r, z_k, e_1, k_ii, k_ss, k_bb, k_nn, k_tt, k_r, k_k, n_t, n_r, n_k, u_ii, u_si, lj_1, rLstF, rLcF, rFz, rSlM, iZp3, iEn3, eqvAll_nil, pds_emp, iAny, sq_k, sq_r, ls_t, or_false, false_or, fz_r, fz_k, fz_t, fz_n, fz_b, fz_s, q_lstK, q_truK, t_kl, q_isiK, iRevY, rv_r, rv_k, rv_t, rAug, q_i2K, q_j2K, q_srtB, at_2, at_3, q_strF, rPar3, g_03a, g_03b, g_03c, g_03d, g_03e, g_03f, rLam, rAsk, rCallXK, q_ext3, q_ext3T, q_ext3K, rDc, rDNew, gDk, rLock, rLockE, iKys, iVls, iIts, k_inS, k_inI, k_getS, k_getI, k_setS, k_setI, rMetK, rMakeK, q_srtTx, k_srt, k_len, k_keys, k_vals, k_items]; exact k)
  | int i => simp -implicitDefEqProofs only [rVar, rC, rBin, rUn, rTst, rChn, rTru, rAnd, rOr, rNot, rAndV, rOrV, rNotV, rIf, rNil, rCons, rTup, rLst, rFn, rCall, rCallK, rSl, rPrt, rNoP, rMt, gNm, q_gN, q_gC, q_gTp, gSb, rNext, rSeq, rDrop, rRet, rRetN, rBrk, rCnt, rIfS, rSet, rPar, rFor, iSeq, iLst, iRg1, iRg2, iZp, iEn, iStrD, rLc, rYes, q_isi2, q_i2N, q_i2B, q_i2I, q_i2S, q_i2T, q_i2L, q_j2N, q_j2B, q_j2I, q_j2S, q_j2T, q_j2L, q_gt2, q_gtT, q_en, q_int2, q_strD, q_rev, q_ixo, q_ext2, q_extT, q_in, q_ins, q_pop, q_any, En.x, wipeD, start', List.getElem?_cons_zero, List.getElem?_cons_succ, List.set_cons_zero, List.set_cons_succ, List.map_cons, List.map_nil, List.length_cons, List.length_nil, List.cons_append, List.nil_append, List.replicate_succ, List.replicate_zero, id, q_asB, q_asI, q_add, q_addS, q_addT, q_addL, q_int, q_sub, q_mul, q_fdiv, q_mod, q_pow, q_neg, q_le, q_ge, q_gt, q_lt, q_ltT, q_isN, q_isB, q_isBi, q_isBs, q_isBn, q_isBt, q_isnt, n_non, n_bl, n_int, n_str, n_tup, n_ref, q_eq, q_eqS, q_eqB, q_ixT, q_ixK, q_ixL, q_ixS, q_slT, q_slL, q_slS, q_set, q_lenT, q_lenK, q_lenS, q_lenL, q_abs, q_intF, q_max, q_min, q_tupT, q_tupL, q_lstT, q_lstL, q_app, q_ext, q_joinL, q_stw, q_seq, q_lst, q_rng, q_rng2, q_zpT, q_zpL, q_truN, q_truB, q_truI, q_truT, q_truL, t_non, t_bl, t_int, t_str, t_tup, q_isiN, q_isiB, q_isiI, q_isiS, q_isiT, i_NoneType_int, i_NoneType_bool, i_NoneType_tuple, i_NoneType_list, i_NoneType_str, i_bool_int, i_bool_bool, i_bool_tuple, i_bool_list, i_bool_str, i_int_int, i_int_bool, i_int_tuple, i_int_list, i_int_str, i_str_int, i_str_bool, i_str_tuple, i_str_list, i_str_str, i_tuple_int, i_tuple_bool, i_tuple_tuple, i_tuple_list, i_tuple_str, i_list_int, i_list_bool, i_list_tuple, i_list_list, i_list_str, i_dict_int, i_dict_bool, i_dict_tuple, i_dict_list, i_dict_str, up_same, g_02, g_02', g_01, g_11, at_0, at_1, ix_0, ix_1, Option.some.injEq, HQ.lst.injEq, exists_eq_left', exists_eq_left, exists_and_left, exists_eq', exists_eq, decide_eq_true_eq, if_true, if_false, ite_true, ite_false, Bool.false_eq_true, reduceIte, reduceCtorEq, Bool.not_true, Bool.not_false, Nat.zero_add, Nat.reduceAdd, Nat.reduceSub, Nat.reduceLeDiff, Nat.reduceLT, Int.reduceLT, Int.reduceLE, Int.reduceEq, Int.reduceNe, Nat.reduceEqDiff, Int.reduceToNat, Int.reducePow, Int.reduceMul, Int.reduceAdd, Int.reduceSub, Int.reduceNeg, and_true, true_and, decide_true, decide_false, rFld, rSetF, rMet, rMetX, rMake, rBy, Y.rIsE, rCallX, rRaise, rTryAs, rTryOnly, rGd, q_fld, q_sfld, q_met, q_isntB, iEnX, iEn4, e4_t, e4_s, e4_k, e4_r, v_t, v_s, q_lset, q_remD, rNv, a_i, a_s, a_t, a_r, a_k, m_T, m_F, v_r, v_k, lg_r, lg_k, t_t, t_r, t_k, l_t, l_r, l_k, s_t, s_s, s_r, s_k, o_1, j_1, y_1, y_2, y_3, z_tt, z_r, z_k, e_1, k_ii, k_ss, k_bb, k_nn, k_tt, k_r, k_k, n_t, n_r, n_k, u_ii, u_si, lj_1, rLstF, rLcF, rFz, rSlM, iZp3, iEn3, eqvAll_nil, pds_emp, iAny, sq_k, sq_r, ls_t, or_false, false_or, fz_r, fz_k, fz_t, fz_n, fz_b, fz_s, q_lstK, q_truK, t_kl, q_isiK, iRevY, rv_r, rv_k, rv_t, rAug, q_i2K, q_j2K, q_srtB, at_2, at_3, q_strF, rPar3, g_03a, g_03b, g_03c, g_03d, g_03e, g_03f, rLam, rAsk, rCallXK, q_ext3, q_ext3T, q_ext3K, rDc, rDNew, gDk, rLock, rLockE, iKys, iVls, iIts, k_inS, k_inI, k_getS, k_getI, k_setS, k_setI, rMetK, rMakeK, q_srtTx, k_srt, k_len, k_keys, k_vals, k_items]; exact k
  | str z => simp -implicitDefEqProofs only [rVar, rC, rBin, rUn, rTst, rChn, rTru, rAnd, rOr, rNot, rAndV, rOrV, rNotV, rIf, rNil, rCons, rTup, rLst, rFn, rCall, rCallK, rSl, rPrt, rNoP, rMt, gNm, q_gN, q_gC, q_gTp, gSb, rNext, rSeq, rDrop, rRet, rRetN, rBrk, rCnt, rIfS, rSet, rPar, rFor, iSeq, iLst, iRg1, iRg2, iZp, iEn, iStrD, rLc, rYes, q_isi2, q_i2N, q_i2B, q_i2I, q_i2S, q_i2T, q_i2L, q_j2N, q_j2B, q_j2I, q_j2S, q_j2T, q_j2L, q_gt2, q_gtT, q_en, q_int2, q_strD, q_rev, q_ixo, q_ext2, q_extT, q_in, q_ins, q_pop, q_any, En.x, wipeD, start', List.getElem?_cons_zero, List.getElem?_cons_succ, List.set_cons_zero, List.set_cons_succ, List.map_cons, List.map_nil, List.length_cons, List.length_nil, List.cons_append, List.nil_append, List.replicate_succ, List.replicate_zero, id, q_asB, q_asI, q_add, q_addS, q_addT, q_addL, q_int, q_sub, q_mul, q_fdiv, q_mod, q_pow, q_neg, q_le, q_ge, q_gt, q_lt, q_ltT, q_isN, q_isB, q_isBi, q_isBs, q_isBn, q_isBt, q_isnt, n_non, n_bl, n_int, n_str, n_tup, n_ref, q_eq, q_eqS, q_eqB, q_ixT, q_ixK, q_ixL, q_ixS, q_slT, q_slL, q_slS, q_set, q_lenT, q_lenK, q_lenS, q_lenL, q_abs, q_intF, q_max, q_min, q_tupT, q_tupL, q_lstT, q_lstL, q_app, q_ext, q_joinL, q_stw, q_seq, q_lst, q_rng, q_rng2, q_zpT, q_zpL, q_truN, q_truB, q_truI, q_truT, q_truL, t_non, t_bl, t_int, t_str, t_tup, q_isiN, q_isiB, q_isiI, q_isiS, q_isiT, i_NoneType_int, i_NoneType_bool, i_NoneType_tuple, i_NoneType_list, i_NoneType_str, i_bool_int, i_bool_bool, i_bool_tuple, i_bool_list, i_bool_str, i_int_int, i_int_bool, i_int_tuple, i_int_list, i_int_str, i_str_int, i_str_bool, i_str_tuple, i_str_list, i_str_str, i_tuple_int, i_tuple_bool, i_tuple_tuple, i_tuple_list, i_tuple_str, i_list_int, i_list_bool, i_list_tuple, i_list_list, i_list_str, i_dict_int, i_dict_bool, i_dict_tuple, i_dict_list, i_dict_str, up_same, g_02, g_02', g_01, g_11, at_0, at_1, ix_0, ix_1, Option.some.injEq, HQ.lst.injEq, exists_eq_left', exists_eq_left, exists_and_left, exists_eq', exists_eq, decide_eq_true_eq, if_true, if_false, ite_true, ite_false, Bool.false_eq_true, reduceIte, reduceCtorEq, Bool.not_true, Bool.not_false, Nat.zero_add, Nat.reduceAdd, Nat.reduceSub, Nat.reduceLeDiff, Nat.reduceLT, Int.reduceLT, Int.reduceLE, Int.reduceEq, Int.reduceNe, Nat.reduceEqDiff, Int.reduceToNat, Int.reducePow, Int.reduceMul, Int.reduceAdd, Int.reduceSub, Int.reduceNeg, and_true, true_and, decide_true, decide_false, rFld, rSetF, rMet, rMetX, rMake, rBy, Y.rIsE, rCallX, rRaise, rTryAs, rTryOnly, rGd, q_fld, q_sfld, q_met, q_isntB, iEnX, iEn4, e4_t, e4_s, e4_k, e4_r, v_t, v_s, q_lset, q_remD, rNv, a_i, a_s, a_t, a_r, a_k, m_T, m_F, v_r, v_k, lg_r, lg_k, t_t, t_r, t_k, l_t, l_r, l_k, s_t, s_s, s_r, s_k, o_1, j_1, y_1, y_2, y_3, z_tt, z_r, z_k, e_1, k_ii, k_ss, k_bb, k_nn, k_tt, k_r, k_k, n_t, n_r, n_k, u_ii, u_si, lj_1, rLstF, rLcF, rFz, rSlM, iZp3, iEn3, eqvAll_nil, pds_emp, iAny, sq_k, sq_r, ls_t, or_false, false_or, fz_r, fz_k, fz_t, fz_n, fz_b, fz_s, q_lstK, q_truK, t_kl, q_isiK, iRevY, rv_r, rv_k, rv_t, rAug, q_i2K, q_j2K, q_srtB, at_2, at_3, q_strF, rPar3, g_03a, g_03b, g_03c, g_03d, g_03e, g_03f, rLam, rAsk, rCallXK, q_ext3, q_ext3T, q_ext3K, rDc, rDNew, gDk, rLock, rLockE, iKys, iVls, iIts, k_inS, k_inI, k_getS, k_getI, k_setS, k_setI, rMetK, rMakeK, q_srtTx, k_srt, k_len, k_keys, k_vals, k_items]; exact k
  | _ => exact hp.elim
end K01
namespace K01
open PySem PySem.Spec PyProof.Rows L2 Y
theorem pu_law_heard : ∀ f d o th S Q, sp_law_heard f d o th S Q → rd_law_heard f d o th { nx := fun _ S => Q .non S, rt := Q } (start' 3 [.ref f]) S := by
  intro _ _ _ _ _ _ h
  exact h
end K01
namespace K01
open PySem PySem.Spec PyProof.Rows L2 Y
theorem pu_is_whole : ∀ ds S Q, sp_is_whole ds S Q NoX → rd_is_whole { nx := fun _ S => Q .non S, rt := Q } (start' 1 ds) S := by
  rintro _ S Q ⟨n, d, rfl, h, k⟩
  unfold rd_is_whole
  cases h <;> sizeOf_list_dec <;> exact k
end K01
namespace K01
open PySem PySem.Spec PyProof.Rows L2 Y
theorem pu_is_name : ∀ ds S Q, sp_is_name ds S Q NoX → rd_is_name { nx := fun _ S => Q .non S, rt := Q } (start' 1 ds) S := by
  rintro _ S Q ⟨i, rfl, k⟩
  unfold rd_is_name
  sizeOf_list_dec
  refine ⟨0, _, rfl, .int i, ?_⟩
  simp only [isI]
  sizeOf_list_dec
  by_cases c : 0 ≤ i
  · sizeOf_list_dec
    simp only [c, if_true]
    have e : decide (i < 32) = decide (0 ≤ i ∧ i ≤ 31) := by rw [Bool.eq_iff_iff, decide_eq_true_eq, decide_eq_true_eq]; omega
    rw [e]
    exact k
  · simp only [c, if_false]
    rw [decide_eq_false (fun h => c h.1)] at k
    exact k
end K01
namespace K01
open PySem PySem.Spec PyProof.Rows L2 Y
theorem pu_number_fault : ∀ ds S Q, sp_number_fault ds S Q NoX → rd_number_fault { nx := fun _ S => Q .non S, rt := Q } (start' 3 ds) S := by
  rintro _ S Q ⟨n, d, rfl, h, k⟩
  unfold rd_number_fault
  cases h with
  | @tup n xs hl h =>
    array_get_dec
    by_cases c : (xs.length : Int) < 2
    · simp only [c, if_true]
      rw [nfl_short (by omega)] at k
      exact k
    simp only [c, if_false]
    array_get_dec
    refine loop_idx (fun i σ S' => S' = S ∧ (∀ (j : Nat) (d : D), j < i → xs[j]? = some d → isI d = true) ∧ ∃ u_at u_entry : Option D, σ = [some (.tup xs), u_at, u_entry]) (fun _ _ _ _ _ => trivial) (fun i y σ S' hy hi N hN => ?_) (fun σ S' hi => ?_) ⟨rfl, fun j d h => absurd h (by omega), _, _, rfl⟩
    · obtain ⟨rfl, hI, z1, z2, rfl⟩ := hi
      obtain ⟨y', hy', rfl⟩ := enumD_get hy
      array_get_dec
      refine ⟨n, y', rfl, h y' (List.mem_of_getElem? hy'), ?_⟩
      cases hv : isI y' with
      | false =>
        sizeOf_list_dec
        rw [nfl_at (by omega) hy' hv hI] at k
        exact k
      | true =>
        sizeOf_list_dec
        refine hN _ _ ⟨rfl, fun j d hj e => ?_, _, _, rfl⟩
        rcases Nat.lt_or_ge j i with h1 | h1
        · exact hI j d h1 e
        · have : j = i := by omega
          rw [this, hy'] at e; cases e; exact hv
    · obtain ⟨rfl, hI, z1, z2, rfl⟩ := hi
      rw [enumD_len] at hI
      obtain ⟨ns, rfl⟩ := ints_or xs (fun j d e => by
        have := hI j d (by
          rcases Nat.lt_or_ge j xs.length with h1 | h1
          · exact h1
          · rw [List.getElem?_eq_none h1] at e; cases e) e
        cases d <;> simp [isI] at this ⊢)
      rw [List.length_map] at c
      obtain ⟨a, m, l, e⟩ := ends (ns := ns) (by omega)
      have e0 : atI (ns.map D.int) 0 = some (.int a) := by rw [e]; exact at_0
      have e1 := at_last e
      rw [nfl_ints e] at k
      array_get_dec
      refine ⟨_, e0, ?_⟩
      array_get_dec
      by_cases c0 : a < 0
      · simp only [c0, if_true] at k ⊢
        exact k
      simp only [c0, if_false] at k ⊢
      array_get_dec
      refine ⟨_, e1, l, rfl, ?_⟩
      by_cases c1 : 0 ≤ l ∧ l ≤ 31
      · rw [if_pos c1] at k
        rw [decide_eq_true c1]
        array_get_dec
        exact k
      · rw [if_neg c1] at k
        rw [decide_eq_false c1]
        array_get_dec
        rw [List.length_map]
        exact k
  | _ =>
    sizeOf_list_dec
    exact k
end K01
namespace K01
open PySem PySem.Spec PyProof.Rows L2 Y
theorem pu_check_number : ∀ ds S Q E, sp_check_number ds S Q E → rd_check_number { nx := fun _ S => Q .non S, rt := Q, ex := fun n fs _ S => E n fs S } (start' 2 ds) S := by
  rintro _ S Q E ⟨n, d, rfl, hv, kE, k⟩
  unfold rd_check_number
  array_get_dec
  refine ⟨n, d, rfl, hv, ?_⟩
  cases hf : nfl d with
  | none =>
    simp only [oI]
    array_get_dec
    exact k hf
  | some i =>
    simp only [oI]
    array_get_dec
    exact kE i hf
end K01
namespace K01
open PySem PySem.Spec PyProof.Rows L2 Y
theorem pu_law_spoilt : ∀ ds S Q, sp_law_spoilt ds S Q NoX → rd_law_spoilt { nx := fun _ S => Q .non S, rt := Q } (start' 6 ds) S := by
  rintro _ S Q ⟨b, ns, rfl, hn, hb, k⟩
  unfold rd_law_spoilt
  have avI : ∀ (n : Nat) (ms : List Int), ms.length ≤ 100000 → Av (n + 1) (.tup (ms.map D.int)) := fun n ms h => .tup (by rw [List.length_map]; exact h) fun x hx => by obtain ⟨i, _, rfl⟩ := List.mem_map.mp hx; exact .int _
  have avK : ∀ (n : Nat) (ms : List Int), ms.length ≤ 100000 → Av (n + 1) (.kl (ms.map D.int)) := fun n ms h => .kl (by rw [List.length_map]; exact h) fun x hx => by obtain ⟨i, _, rfl⟩ := List.mem_map.mp hx; exact .int _
  have hn15 : ns.length ≤ 15 := by obtain ⟨_, _, _, _, _, _, _, h⟩ := hn; exact h
  have hn2 : 2 ≤ ns.length := by obtain ⟨_, _, _, rfl, _⟩ := hn; simp
  simp only [nm]
  array_get_dec
  rw [cutL_map, cutL_to _ (by decide)]
  refine pick_of hb (by simp) (by simp) fun odd S1 hd n1 => ?_
  have ho : Av 5 odd := by
    simp only [List.mem_cons, List.not_mem_nil, or_false] at hd
    rcases hd with h | h | h | h | h | h | h | h | h | h | h | h <;> subst h
    · exact .non
    · exact .int _
    · exact .str _ (strOk_of _)
    · exact .bl _
    · exact .k0
    · exact .t0
    · exact avK _ _ (by omega)
    · exact avI _ _ (by rw [List.length_take]; omega)
    · exact .t1 (avI _ _ (by omega))
    · exact .str _ (strOk_of _)
    · exact .t1 (.t2 (.int _) (.int _))
    · exact .kl (by simp) fun x hx => by rw [List.mem_singleton.mp hx]; exact avI _ _ (by omega)
  clear hd
  array_get_dec
  refine take_of n1.bx (by decide) (by decide) fun u S2 _ _ n2 => ?_
  have nx := n1.trans n2
  sizeOf_list_dec
  by_cases c : u = 0
  · rw [if_pos c]
    exact k odd S2 ho nx
  rw [if_neg c]
  array_get_dec
  intro p hp
  have hpb : p ≠ b := nx.bx.ne hp
  have hpS : S p = none := by
    cases e : S p with
    | none => rfl
    | some u => rw [nx.old p u hpb e] at hp; cases hp
  have keep : ∀ {S' : Hq} {o : HQ}, Nx b S S' → Nx b S (up S' p o) := fun {S' o} n => ⟨n.bx.put hpb, fun c u ne h => by rw [up_ne (fun z => by rw [z, hpS] at h; cases h)]; exact n.old c u ne h⟩
  have g1 : up S2 p (.lst (ns.map D.int)) p = some (.lst (ns.map D.int)) := up_same
  have nx : Nx b S (up S2 p (.lst (ns.map D.int))) := nx.trans (Nx.new nx.bx hp)
  generalize up S2 p (.lst (ns.map D.int)) = S3 at g1 nx
  clear n1 n2
  array_get_dec
  refine take_of nx.bx (by decide) (by decide) fun t S4 t0 t1 n4 => ?_
  have g1 := n4.get hpb g1
  have nx := nx.trans n4
  clear n4
  sizeOf_list_dec
  refine ⟨⟨by omega, by omega⟩, ?_⟩
  have avC : ∀ (xs : List D) (i : Nat) (d : D), (∀ x ∈ xs, Av 4 x) → Av 4 d → ∀ x ∈ xs.set i d, Av 4 x := fun xs i d h hd x hx => by
    rcases List.mem_or_eq_of_mem_set hx with h1 | h1
    · exact h x h1
    · rw [h1]; exact hd
  refine loop_idx (fun i σ S' => ∃ xs : List D, ∃ u_turn u_way : Option D, xs.length = ns.length ∧ (∀ x ∈ xs, Av 4 x) ∧ S' p = some (.lst xs) ∧ Nx b S S' ∧ σ = [some (.ref b), some (.tup (ns.map D.int)), some (odd), some (.ref p), u_turn, u_way]) (fun _ _ _ _ _ => trivial) (fun i x σ S' hx hi N hN => ?_) (fun σ S' hi => ?_) ⟨_, _, _, by rw [List.length_map], fun x hx => by obtain ⟨i, _, rfl⟩ := List.mem_map.mp hx; exact .int _, g1, nx, rfl⟩
  · clear g1 nx
    obtain ⟨xs, z1, z2, hl, hx4, g, nx, rfl⟩ := hi
    obtain ⟨hi, rfl⟩ := rangeD_get hx
    array_get_dec
    refine take_of nx.bx (by decide) (by decide) fun way S5 _ _ n5 => ?_
    have g := n5.get hpb g
    have nx := nx.trans n5
    clear n5
    have fin : ∀ (S6 : Hq) (d : D) (x : Nat), Av 4 d → Nx b S S6 → N [some (.ref b), some (.tup (ns.map D.int)), some (odd), some (.ref p), some (.int (0 + (i : Int))), some (.int way)] (up S6 p (.lst (xs.set x d))) := fun S6 d x hd nx =>
      hN _ _ ⟨xs.set x d, _, _, by rw [List.length_set]; exact hl, avC xs x d hx4 hd, up_same, keep nx, rfl⟩
    have ixT : ∀ j : Int, 0 ≤ j → j < xs.length → ixN xs.length j = some j.toNat := fun j h0 h1 => by
      exact ix_in h0 h1
    array_get_dec
    by_cases c0 : way = 0
    · rw [if_pos c0]
      refine pick_of nx.bx (by simp) (by simp) fun d S6 hd n6 => ?_
      have hd : Av 4 d := by
        simp only [List.mem_cons, List.not_mem_nil, or_false] at hd
        rcases hd with h | h | h | h | h | h | h | h | h <;> subst h
        · exact .non
        · exact .bl _
        · exact .bl _
        · exact .str _ (strOk_of _)
        · exact .t1 (.int _)
        · exact .kl (by simp) fun x hx => by rw [List.mem_singleton.mp hx]; exact .int _
        · exact .str _ (strOk_of _)
        · exact .t0
        · exact .int _
      have g := n6.get hpb g
      have nx := nx.trans n6
      refine ⟨_, g, ?_⟩
      refine take_of nx.bx (by omega) (by omega) fun v S7 v0 v1 n7 => ?_
      have g := n7.get hpb g
      sizeOf_list_dec
      refine ⟨_, g, _, ixT v v0 (by omega), ?_⟩
      exact fin _ _ _ hd (nx.trans n7)
    rw [if_neg c0]
    by_cases c1 : way = 1
    · rw [if_pos c1]
      refine ⟨⟨by decide, by decide, by decide, by decide⟩, ?_⟩
      refine take_of nx.bx (by decide) (by decide) fun v S6 _ _ n6 => ?_
      have g := n6.get hpb g
      have nx := nx.trans n6
      sizeOf_list_dec
      refine pick_of nx.bx (by simp) (by simp) fun d S7 hd n7 => ?_
      obtain ⟨m, _, rfl⟩ := mem_ints (l := [_, _, _]) hd
      have g := n7.get hpb g
      refine ⟨_, g, _, ixT 0 (by decide) (by omega), ?_⟩
      exact fin _ _ _ (.int _) (nx.trans n7)
    rw [if_neg c1]
    by_cases c2 : way = 2
    · rw [if_pos c2]
      refine ⟨⟨by decide, by decide, by decide, by decide⟩, ?_⟩
      refine take_of nx.bx (by decide) (by decide) fun v S6 _ _ n6 => ?_
      have g := n6.get hpb g
      have nx := nx.trans n6
      sizeOf_list_dec
      refine take_of nx.bx (by decide) (by decide) fun v2 S8 _ _ n8 => ?_
      have g := n8.get hpb g
      have nx := nx.trans n8
      sizeOf_list_dec
      refine pick_of nx.bx (by simp) (by simp) fun d S7 hd n7 => ?_
      obtain ⟨m, _, rfl⟩ := mem_ints (l := [_, _, _, _, _]) hd
      have g := n7.get hpb g
      refine ⟨_, g, _, g, _, ixT _ (by omega) (by omega), ?_⟩
      exact fin _ _ _ (.int _) (nx.trans n7)
    rw [if_neg c2]
    refine pick_of nx.bx (by simp) (by simp) fun d S6 hd n6 => ?_
    have hd : Av 4 d := by
      simp only [List.mem_cons, List.not_mem_nil, or_false] at hd
      rcases hd with h | h | h | h | h <;> subst h
      · exact .bl _
      · exact .non
      · exact .str _ (strOk_of _)
      · exact .t1 (.int _)
      · exact .int _
    have g := n6.get hpb g
    refine ⟨_, g, _, g, _, ixT _ (by omega) (by omega), ?_⟩
    exact fin _ _ _ hd (nx.trans n6)
  · obtain ⟨xs, z1, z2, hl, hx4, g, nx, rfl⟩ := hi
    array_get_dec
    exact ⟨_, g, k _ _ (.tup (by omega) hx4) nx⟩
end K01
namespace K01
open PySem PySem.Spec PyProof.Rows L2 Y
theorem pu_law_fault : ∀ ds S Q, sp_law_fault ds S Q NoX → rd_law_fault { nx := fun _ S => Q .non S, rt := Q } (start' 2 ds) S := by
  rintro _ S Q ⟨n, d, rfl, h, k⟩
  unfold rd_law_fault
  cases h with
  | @tup n xs hl h =>
    array_get_dec
    by_cases c : (xs.length : Int) < 2
    · rw [if_pos c]
      rw [nfl_short (by omega)] at k
      exact k
    rw [if_neg c]
    array_get_dec
    refine ⟨⟨by omega, by omega⟩, ?_⟩
    rw [Int.toNat_natCast]
    refine loop_idx (fun i σ S' => S' = S ∧ (∀ (j : Nat) (d : D), j < i → xs[j]? = some d → isI d = true) ∧ ∃ u_spot : Option D, σ = [some (.tup xs), u_spot]) (fun _ _ _ _ _ => trivial) (fun i y σ S' hy hi N hN => ?_) (fun σ S' hi => ?_) ⟨rfl, fun j d h => absurd h (by omega), _, rfl⟩
    · obtain ⟨rfl, hI, z1, rfl⟩ := hi
      obtain ⟨hil, rfl⟩ := rangeD_get hy
      have hil : i < xs.length := by omega
      have hy' := List.getElem?_eq_getElem hil
      have hav := h xs[i] (List.getElem_mem hil)
      generalize xs[i] = y at hy' hav
      have hat : atI xs (0 + (i : Int)) = some y := by rw [Int.zero_add]; exact atI_nat hy'
      have bad : isI y = false → Q (.int (0 + (i : Int))) S' := fun hv => by
        rw [nfl_at (by omega) hy' hv hI] at k
        rw [Int.zero_add]
        exact k
      have good : isI y = true → N [some (.tup xs), some (.int (0 + (i : Int)))] S' := fun hv => by
        refine hN _ _ ⟨rfl, fun j d hj e => ?_, _, rfl⟩
        rcases Nat.lt_or_ge j i with h1 | h1
        · exact hI j d h1 e
        · have : j = i := by omega
          rw [this, hy'] at e; cases e; exact hv
      clear k
      cases hav with
      | int z =>
        array_get_dec
        refine ⟨_, hat, ?_⟩
        array_get_dec
        refine ⟨_, hat, ?_⟩
        array_get_dec
        exact good rfl
      | bl z =>
        array_get_dec
        refine ⟨_, hat, ?_⟩
        array_get_dec
        refine ⟨_, hat, ?_⟩
        array_get_dec
        exact bad rfl
      | _ =>
        array_get_dec
        refine ⟨_, hat, ?_⟩
        array_get_dec
        exact bad rfl
    · obtain ⟨rfl, hI, z1, rfl⟩ := hi
      rw [rangeD_len] at hI
      obtain ⟨ns, rfl⟩ := ints_or xs (fun j d e => by
        have := hI j d (by
          rcases Nat.lt_or_ge j xs.length with h1 | h1
          · exact h1
          · rw [List.getElem?_eq_none h1] at e; cases e) e
        cases d <;> simp [isI] at this ⊢)
      rw [List.length_map] at c
      obtain ⟨a, m, l, e⟩ := ends (ns := ns) (by omega)
      have e0 : atI (ns.map D.int) 0 = some (.int a) := by rw [e]; exact at_0
      have e1 := at_end e
      rw [nfl_ints e] at k
      array_get_dec
      refine ⟨_, e0, ?_⟩
      array_get_dec
      by_cases c0 : a < 0
      · simp only [c0, if_true] at k ⊢
        exact k
      simp only [c0, if_false] at k ⊢
      array_get_dec
      rw [List.length_map]
      refine ⟨_, e1, ?_⟩
      array_get_dec
      by_cases c1 : 0 ≤ l
      · by_cases c2 : l ≤ 31
        · simp only [c1, c2, and_self, if_true] at k ⊢
          exact k
        · simp only [c1, c2, and_false, if_true, if_false] at k ⊢
          exact k
      · simp only [c1, false_and, if_false] at k ⊢
        exact k
  | _ =>
    sizeOf_list_dec
    exact k
end K01
namespace K01
open PySem PySem.Spec PyProof.Rows L2 Y
theorem pu_law_checked : ∀ ds S Q, sp_law_checked ds S Q NoX → rd_law_checked { nx := fun _ S => Q .non S, rt := Q } (start' 6 ds) S := by
  rintro _ S Q ⟨b, rfl, hb, ⟨P, ht⟩, k⟩
  unfold rd_law_checked
  have heard : ∀ (d : D) (fl : Option Int) (f e : Addr) (o : HQ) (th : Th) (S : Hq) (Q : Qv), S e = some o → (∀ (Q1 : Qv) (E1 : Xw), (∀ i, fl = some i → E1 "BadNumber" [("at", .int i)] S) → (fl = none → Q1 d S) → th S Q1 E1) →
      (fl = none → Q (.tup [.str (Str.ofString "told"), d]) S) → (∀ i, fl = some i → ∀ dd, S dd = none → Q (.tup [.str (Str.ofString "none"), .int i, .bl true, .bl true, .bl false]) (up S dd (.exd [("at", .int i)]))) → sp_law_heard f e o th S Q := by
    clear ht k hb
    intro d fl f e o th S Q he hth kn ke
    unfold sp_law_heard rd_law_heard
    sizeOf_list_dec
    refine ⟨he, hth _ _ (fun i hi => ?_) (fun hn => kn hn)⟩
    sizeOf_list_dec
    refine ⟨true, rfl, fun _ a dd hdd hne => ?_, fun z => by cases z⟩
    array_get_dec
    refine ⟨⟨_, rfl⟩, false, rfl, ?_⟩
    array_get_dec
    exact ⟨_, rfl, ⟨_, rfl⟩, _, rfl, ⟨_, rfl⟩, _, rfl, ke i hi dd hdd⟩
  have psT : ∀ d : D, Av 5 d → nfl d = none → Ps 5 (.tup [.str (Str.ofString "told"), d]) := fun d hd h => by
    obtain ⟨ns, rfl⟩ := nfl_none h
    refine ⟨by simp, fun x hx => ?_⟩
    simp only [List.mem_cons, List.not_mem_nil, or_false] at hx
    rcases hx with rfl | rfl
    · trivial
    · refine ⟨hd.len, fun x hx => ?_⟩
      obtain ⟨j, _, rfl⟩ := List.mem_map.mp hx
      trivial
  have psN : ∀ i : Int, Ps 5 (.tup [.str (Str.ofString "none"), .int i, .bl true, .bl true, .bl false]) := fun i => ⟨by simp, fun x hx => by
    simp only [List.mem_cons, List.not_mem_nil, or_false] at hx
    rcases hx with rfl | rfl | rfl | rfl | rfl <;> trivial⟩
  have hPb : P ≠ b := fun z => by obtain ⟨g, s, h⟩ := hb; rw [← z, ht] at h; cases h
  have avN : ∀ ms : List Int, Num 15 ms → Av 5 (nm ms) := fun ms h => .tup (by rw [List.length_map]; obtain ⟨_, _, _, _, _, _, _, h⟩ := h; omega) fun x hx => by obtain ⟨i, _, rfl⟩ := List.mem_map.mp hx; exact .int _
  array_get_dec
  refine figure_of hb fun one S1 h1 n1 => ?_
  have av1 := avN one h1
  have nf1 := nfl_num h1
  have ht1 := n1.get hPb ht
  array_get_dec
  refine ⟨⟨P, ht1⟩, fun f e vs h1 h2 h3 => ?_⟩
  refine heard (nm one) (nfl (nm one)) f e _ _ _ _ enter_same (fun Q1 E1 g1 g2 => ⟨5, nm one, rfl, av1, g1, g2⟩) (fun hn => ⟨enter_same, ?_⟩) (fun i hi => by rw [nf1] at hi; cases hi)
  rw [leave_enter h2]
  refine ⟨_, rfl, psT _ av1 nf1, ?_⟩
  array_get_dec
  refine loop_idx (fun i σ S' => ∃ u_turn u_value u_place u_due : Option D, Nx b S S' ∧ σ = [some (.ref b), some (nm one), u_turn, u_value, u_place, u_due]) (fun _ _ _ _ _ => trivial) (fun i x σ S' hx hi N hN => ?_) (fun σ S' hi => ?_) ⟨_, _, _, _, n1, rfl⟩
  · obtain ⟨z1, z2, z3, z4, nx, rfl⟩ := hi
    array_get_dec
    refine ⟨b, one, rfl, by assumption, nx.bx, fun d S2 hd n2 => ?_⟩
    have nx := nx.trans n2
    array_get_dec
    refine ⟨5, d, rfl, hd, ?_⟩
    cases hf : nfl d with
    | none =>
      simp only [oI]
      array_get_dec
      refine ⟨⟨P, nx.get hPb ht⟩, fun f e vs h1 h2 h3 => ?_⟩
      refine heard d (nfl d) f e _ _ _ _ enter_same (fun Q1 E1 g1 g2 => ⟨5, d, rfl, hd, g1, g2⟩) (fun hn => ⟨enter_same, ?_⟩) (fun i hi => by rw [hf] at hi; cases hi)
      rw [leave_enter h2]
      refine ⟨_, rfl, psT _ hd hf, ?_⟩
      sizeOf_list_dec
      exact hN _ _ ⟨_, _, _, _, nx, rfl⟩
    | some i =>
      simp only [oI]
      array_get_dec
      refine ⟨⟨P, nx.get hPb ht⟩, fun f e vs h1 h2 h3 => ?_⟩
      refine heard d (nfl d) f e _ _ _ _ enter_same (fun Q1 E1 g1 g2 => ⟨5, d, rfl, hd, g1, g2⟩) (fun hn => by rw [hf] at hn; cases hn) (fun j hj dd hdd => ?_)
      rw [hf] at hj; cases hj
      have hde : dd ≠ e := fun z => by rw [z, enter_same] at hdd; cases hdd
      refine ⟨by rw [up_ne (Ne.symm hde)]; exact enter_same, ?_⟩
      have ex1 := leave_ex h2 (Ex.up (o := .exd [("at", .int i)]) hdd)
      generalize leaveL _ (up _ dd _) e = S3 at ex1 ⊢
      refine ⟨_, rfl, psN i, ?_⟩
      sizeOf_list_dec
      exact hN _ _ ⟨_, _, _, _, nx.trans (Nx.ofEx nx.bx ex1), rfl⟩
  · obtain ⟨z1, z2, z3, z4, nx, rfl⟩ := hi
    array_get_dec
    refine ⟨⟨P, nx.get hPb ht⟩, fun f e vs h1 h2 h3 => ?_⟩
    refine heard (nm one) (nfl (nm one)) f e _ _ _ _ enter_same (fun Q1 E1 g1 g2 => ⟨5, nm one, rfl, av1, g1, g2⟩) (fun hn => ⟨enter_same, ?_⟩) (fun i hi => by rw [nf1] at hi; cases hi)
    rw [leave_enter h2]
    exact ⟨_, rfl, psT _ av1 nf1, k _ nx⟩
end K01
namespace K01
open PySem PySem.Spec PyProof.Rows L2 Y
theorem pu_law_beside : ∀ ds S Q, sp_law_beside ds S Q NoX → rd_law_beside { nx := fun _ S => Q .non S, rt := Q } (start' 6 ds) S := by
  rintro _ S Q ⟨b, ns, rfl, hf, hb, k⟩
  obtain ⟨h, m, l, hN, hh, hl0, hl1, hm⟩ := id hf
  have hlen : ns.length = m.length + 2 := by rw [hN]; simp
  unfold rd_law_beside
  (try dsimp only); rw [rSeq_eq]; try simp -implicitDefEqProofs only [rVar, rC, rBin, rUn, rTst, rChn, rTru, rAnd, rOr, rNot, rAndV, rOrV, rNotV, rIf, rNil, rCons, rTup, rLst, rFn, rCall, rCallK, rSl, rPrt, rNoP, rMt, gNm, q_gN, q_gC, q_gTp, gSb, rNext, rDrop, rRet, rRetN, rBrk, rCnt, rIfS, rSet, rPar, rFor, iSeq, iLst, iRg1, iRg2, iZp, iEn, iStrD, rLc, rYes, q_isi2, q_i2N, q_i2B, q_i2I, q_i2S, q_i2T, q_i2L, q_j2N, q_j2B, q_j2I, q_j2S, q_j2T, q_j2L, q_gt2, q_gtT, q_en, q_int2, q_strD, q_rev, q_ixo, q_ext2, q_extT, q_in, q_ins, q_pop, q_any, En.x, wipeD, start', List.getElem?_cons_zero, List.getElem?_cons_succ, List.set_cons_zero, List.set_cons_succ, List.map_cons, List.map_nil, List.length_cons, List.length_nil, List.cons_append, List.nil_append, List.replicate_succ, List.replicate_zero, id, q_asB, q_asI, q_add, q_addS, q_addT, q_addL, q_int, q_sub, q_mul, q_fdiv, q_mod, q_pow, q_neg, q_le, q_ge, q_gt, q_lt, q_ltT, q_isN, q_isB, q_isBi, q_isBs, q_isBn, q_isBt, q_isnt, n_non, n_bl, n_int, n_str, n_tup, n_ref, q_eq, q_eqS, q_eqB, q_ixT, q_ixK, q_ixL, q_ixS, q_slT, q_slL, q_slS, q_set, q_lenT, q_lenK, q_lenS, q_lenL, q_abs, q_intF, q_max, q_min, q_tupT, q_tupL, q_lstT, q_lstL, q_app, q_ext, q_joinL, q_stw, q_seq, q_lst, q_rng, q_rng2, q_zpT, q_zpL, q_truN, q_truB, q_truI, q_truT, q_truL, t_non, t_bl, t_int, t_str, t_tup, q_isiN, q_isiB, q_isiI, q_isiS, q_isiT, i_NoneType_int, i_NoneType_bool, i_NoneType_tuple, i_NoneType_list, i_NoneType_str, i_bool_int, i_bool_bool, i_bool_tuple, i_bool_list, i_bool_str, i_int_int, i_int_bool, i_int_tuple, i_int_list, i_int_str, i_str_int, i_str_bool, i_str_tuple, i_str_list, i_str_str, i_tuple_int, i_tuple_bool, i_tuple_tuple, i_tuple_list, i_tuple_str, i_list_int, i_list_bool, i_list_tuple, i_list_list, i_list_str, i_dict_int, i_dict_bool, i_dict_tuple, i_dict_list, i_dict_str, up_same, g_02, g_02', g_01, g_11, at_0, at_1, ix_0, ix_1, Option.some.injEq, HQ.lst.injEq, exists_eq_left', exists_eq_left, exists_and_left, exists_eq', exists_eq, decide_eq_true_eq, if_true, if_false, ite_true, ite_false, Bool.false_eq_true, reduceIte, reduceCtorEq, Bool.not_true, Bool.not_false, Nat.zero_add, Nat.reduceAdd, Nat.reduceSub, Nat.reduceLeDiff, Nat.reduceLT, Int.reduceLT, Int.reduceLE, Int.reduceEq, Int.reduceNe, Nat.reduceEqDiff, Int.reduceToNat, Int.reducePow, Int.reduceMul, Int.reduceAdd, Int.reduceSub, Int.reduceNeg, and_true, true_and, decide_true, decide_false, rFld, rSetF, rMet, rMetX, rMake, rBy, Y.rIsE, rCallX, rRaise, rTryAs, rTryOnly, rGd, q_fld, q_sfld, q_met, q_isntB, iEnX, iEn4, e4_t, e4_s, e4_k, e4_r, v_t, v_s, q_lset, q_remD, rNv, a_i, a_s, a_t, a_r, a_k, m_T, m_F, v_r, v_k, lg_r, lg_k, t_t, t_r, t_k, l_t, l_r, l_k, s_t, s_s, s_r, s_k, o_1, j_1, y_1, y_2, y_3, z_tt, z_r, z_k, e_1, k_ii, k_ss, k_bb, k_nn, k_tt, k_r, k_k, n_t, n_r, n_k, u_ii, u_si, lj_1, rLstF, rLcF, rFz, rSlM, iZp3, iEn3, eqvAll_nil, pds_emp, iAny, sq_k, sq_r, ls_t, or_false, false_or, fz_r, fz_k, fz_t, fz_n, fz_b, fz_s, q_lstK, q_truK, t_kl, q_isiK, iRevY, rv_r, rv_k, rv_t, rAug, q_i2K, q_j2K, q_srtB, at_2, at_3, q_strF, rPar3, g_03a, g_03b, g_03c, g_03d, g_03e, g_03f, rLam, rAsk, rCallXK, q_ext3, q_ext3T, q_ext3K, rDc, rDNew, gDk, rLock, rLockE, iKys, iVls, iIts, k_inS, k_inI, k_getS, k_getI, k_setS, k_setI, rMetK, rMakeK, q_srtTx, k_srt, k_len, k_keys, k_vals, k_items]
  refine take_of hb (by decide) (by decide) fun way S1 hw0 hw1 n1 => ?_
  (try dsimp only); rw [rSeq_eq]; try simp -implicitDefEqProofs only [rVar, rC, rBin, rUn, rTst, rChn, rTru, rAnd, rOr, rNot, rAndV, rOrV, rNotV, rIf, rNil, rCons, rTup, rLst, rFn, rCall, rCallK, rSl, rPrt, rNoP, rMt, gNm, q_gN, q_gC, q_gTp, gSb, rNext, rDrop, rRet, rRetN, rBrk, rCnt, rIfS, rSet, rPar, rFor, iSeq, iLst, iRg1, iRg2, iZp, iEn, iStrD, rLc, rYes, q_isi2, q_i2N, q_i2B, q_i2I, q_i2S, q_i2T, q_i2L, q_j2N, q_j2B, q_j2I, q_j2S, q_j2T, q_j2L, q_gt2, q_gtT, q_en, q_int2, q_strD, q_rev, q_ixo, q_ext2, q_extT, q_in, q_ins, q_pop, q_any, En.x, wipeD, start', List.getElem?_cons_zero, List.getElem?_cons_succ, List.set_cons_zero, List.set_cons_succ, List.map_cons, List.map_nil, List.length_cons, List.length_nil, List.cons_append, List.nil_append, List.replicate_succ, List.replicate_zero, id, q_asB, q_asI, q_add, q_addS, q_addT, q_addL, q_int, q_sub, q_mul, q_fdiv, q_mod, q_pow, q_neg, q_le, q_ge, q_gt, q_lt, q_ltT, q_isN, q_isB, q_isBi, q_isBs, q_isBn, q_isBt, q_isnt, n_non, n_bl, n_int, n_str, n_tup, n_ref, q_eq, q_eqS, q_eqB, q_ixT, q_ixK, q_ixL, q_ixS, q_slT, q_slL, q_slS, q_set, q_lenT, q_lenK, q_lenS, q_lenL, q_abs, q_intF, q_max, q_min, q_tupT, q_tupL, q_lstT, q_lstL, q_app, q_ext, q_joinL, q_stw, q_seq, q_lst, q_rng, q_rng2, q_zpT, q_zpL, q_truN, q_truB, q_truI, q_truT, q_truL, t_non, t_bl, t_int, t_str, t_tup, q_isiN, q_isiB, q_isiI, q_isiS, q_isiT, i_NoneType_int, i_NoneType_bool, i_NoneType_tuple, i_NoneType_list, i_NoneType_str, i_bool_int, i_bool_bool, i_bool_tuple, i_bool_list, i_bool_str, i_int_int, i_int_bool, i_int_tuple, i_int_list, i_int_str, i_str_int, i_str_bool, i_str_tuple, i_str_list, i_str_str, i_tuple_int, i_tuple_bool, i_tuple_tuple, i_tuple_list, i_tuple_str, i_list_int, i_list_bool, i_list_tuple, i_list_list, i_list_str, i_dict_int, i_dict_bool, i_dict_tuple, i_dict_list, i_dict_str, up_same, g_02, g_02', g_01, g_11, at_0, at_1, ix_0, ix_1, Option.some.injEq, HQ.lst.injEq, exists_eq_left', exists_eq_left, exists_and_left, exists_eq', exists_eq, decide_eq_true_eq, if_true, if_false, ite_true, ite_false, Bool.false_eq_true, reduceIte, reduceCtorEq, Bool.not_true, Bool.not_false, Nat.zero_add, Nat.reduceAdd, Nat.reduceSub, Nat.reduceLeDiff, Nat.reduceLT, Int.reduceLT, Int.reduceLE, Int.reduceEq, Int.reduceNe, Nat.reduceEqDiff, Int.reduceToNat, Int.reducePow, Int.reduceMul, Int.reduceAdd, Int.reduceSub, Int.reduceNeg, and_true, true_and, decide_true, decide_false, rFld, rSetF, rMet, rMetX, rMake, rBy, Y.rIsE, rCallX, rRaise, rTryAs, rTryOnly, rGd, q_fld, q_sfld, q_met, q_isntB, iEnX, iEn4, e4_t, e4_s, e4_k, e4_r, v_t, v_s, q_lset, q_remD, rNv, a_i, a_s, a_t, a_r, a_k, m_T, m_F, v_r, v_k, lg_r, lg_k, t_t, t_r, t_k, l_t, l_r, l_k, s_t, s_s, s_r, s_k, o_1, j_1, y_1, y_2, y_3, z_tt, z_r, z_k, e_1, k_ii, k_ss, k_bb, k_nn, k_tt, k_r, k_k, n_t, n_r, n_k, u_ii, u_si, lj_1, rLstF, rLcF, rFz, rSlM, iZp3, iEn3, eqvAll_nil, pds_emp, iAny, sq_k, sq_r, ls_t, or_false, false_or, fz_r, fz_k, fz_t, fz_n, fz_b, fz_s, q_lstK, q_truK, t_kl, q_isiK, iRevY, rv_r, rv_k, rv_t, rAug, q_i2K, q_j2K, q_srtB, at_2, at_3, q_strF, rPar3, g_03a, g_03b, g_03c, g_03d, g_03e, g_03f, rLam, rAsk, rCallXK, q_ext3, q_ext3T, q_ext3K, rDc, rDNew, gDk, rLock, rLockE, iKys, iVls, iIts, k_inS, k_inI, k_getS, k_getI, k_setS, k_setI, rMetK, rMakeK, q_srtTx, k_srt, k_len, k_keys, k_vals, k_items]
  simp only [nm, rVar, rC, rBin, rUn, rTst, rChn, rTru, rAnd, rOr, rNot, rAndV, rOrV, rNotV, rIf, rNil, rCons, rTup, rLst, rFn, rCall, rCallK, rSl, rPrt, rNoP, rMt, gNm, q_gN, q_gC, q_gTp, gSb, rNext, rDrop, rRet, rRetN, rBrk, rCnt, rIfS, rSet, rPar, rFor, iSeq, iLst, iRg1, iRg2, iZp, iEn, iStrD, rLc, rYes, q_isi2, q_i2N, q_i2B, q_i2I, q_i2S, q_i2T, q_i2L, q_j2N, q_j2B, q_j2I, q_j2S, q_j2T, q_j2L, q_gt2, q_gtT, q_en, q_int2, q_strD, q_rev, q_ixo, q_ext2, q_extT, q_in, q_ins, q_pop, q_any, En.x, wipeD, start', List.getElem?_cons_zero, List.getElem?_cons_succ, List.set_cons_zero, List.set_cons_succ, List.map_cons, List.map_nil, List.length_cons, List.length_nil, List.cons_append, List.nil_append, List.replicate_succ, List.replicate_zero, id, q_asB, q_asI, q_add, q_addS, q_addT, q_addL, q_int, q_sub, q_mul, q_fdiv, q_mod, q_pow, q_neg, q_le, q_ge, q_gt, q_lt, q_ltT, q_isN, q_isB, q_isBi, q_isBs, q_isBn, q_isBt, q_isnt, n_non, n_bl, n_int, n_str, n_tup, n_ref, q_eq, q_eqS, q_eqB, q_ixT, q_ixK, q_ixL, q_ixS, q_slT, q_slL, q_slS, q_set, q_lenT, q_lenK, q_lenS, q_lenL, q_abs, q_intF, q_max, q_min, q_tupT, q_tupL, q_lstT, q_lstL, q_app, q_ext, q_joinL, q_stw, q_seq, q_lst, q_rng, q_rng2, q_zpT, q_zpL, q_truN, q_truB, q_truI, q_truT, q_truL, t_non, t_bl, t_int, t_str, t_tup, q_isiN, q_isiB, q_isiI, q_isiS, q_isiT, i_NoneType_int, i_NoneType_bool, i_NoneType_tuple, i_NoneType_list, i_NoneType_str, i_bool_int, i_bool_bool, i_bool_tuple, i_bool_list, i_bool_str, i_int_int, i_int_bool, i_int_tuple, i_int_list, i_int_str, i_str_int, i_str_bool, i_str_tuple, i_str_list, i_str_str, i_tuple_int, i_tuple_bool, i_tuple_tuple, i_tuple_list, i_tuple_str, i_list_int, i_list_bool, i_list_tuple, i_list_list, i_list_str, i_dict_int, i_dict_bool, i_dict_tuple, i_dict_list, i_dict_str, up_same, g_02, g_02', g_01, g_11, at_0, at_1, ix_0, ix_1, Option.some.injEq, HQ.lst.injEq, exists_eq_left', exists_eq_left, exists_and_left, exists_eq', exists_eq, decide_eq_true_eq, if_true, if_false, ite_true, ite_false, Bool.false_eq_true, reduceIte, reduceCtorEq, Bool.not_true, Bool.not_false, Nat.zero_add, Nat.reduceAdd, Nat.reduceSub, Nat.reduceLeDiff, Nat.reduceLT, Int.reduceLT, Int.reduceLE, Int.reduceEq, Int.reduceNe, Nat.reduceEqDiff, Int.reduceToNat, Int.reducePow, Int.reduceMul, Int.reduceAdd, Int.reduceSub, Int.reduceNeg, and_true, true_and, decide_true, decide_false, rFld, rSetF, rMet, rMetX, rMake, rBy, Y.rIsE, rCallX, rRaise, rTryAs, rTryOnly, rGd, q_fld, q_sfld, q_met, q_isntB, iEnX, iEn4, e4_t, e4_s, e4_k, e4_r, v_t, v_s, q_lset, q_remD, rNv, a_i, a_s, a_t, a_r, a_k, m_T, m_F, v_r, v_k, lg_r, lg_k, t_t, t_r, t_k, l_t, l_r, l_k, s_t, s_s, s_r, s_k, o_1, j_1, y_1, y_2, y_3, z_tt, z_r, z_k, e_1, k_ii, k_ss, k_bb, k_nn, k_tt, k_r, k_k, n_t, n_r, n_k, u_ii, u_si, lj_1, rLstF, rLcF, rFz, rSlM, iZp3, iEn3, eqvAll_nil, pds_emp, iAny, sq_k, sq_r, ls_t, or_false, false_or, fz_r, fz_k, fz_t, fz_n, fz_b, fz_s, q_lstK, q_truK, t_kl, q_isiK, iRevY, rv_r, rv_k, rv_t, rAug, q_i2K, q_j2K, q_srtB, at_2, at_3, q_strF, rPar3, g_03a, g_03b, g_03c, g_03d, g_03e, g_03f, rLam, rAsk, rCallXK, q_ext3, q_ext3T, q_ext3K, rDc, rDNew, gDk, rLock, rLockE, iKys, iVls, iIts, k_inS, k_inI, k_getS, k_getI, k_setS, k_setI, rMetK, rMakeK, q_srtTx, k_srt, k_len, k_keys, k_vals, k_items]
  intro c hc
  have hcb : c ≠ b := n1.bx.ne hc
  have n2 : Nx b S (up S1 c (.lst (List.map D.int ns))) := n1.trans (Nx.new n1.bx hc)
  have hc2 : up S1 c (.lst (List.map D.int ns)) c = some (.lst (List.map D.int ns)) := up_same
  generalize up S1 c (.lst (List.map D.int ns)) = S2 at n2 hc2 ⊢
  have mk : ∀ (r : List Int) (z : Int), 0 ≤ z → z < 32 → r.length ≤ 13 → Num 15 (h :: (r ++ [z])) := fun r z z0 z1 hr => ⟨h, r, z, rfl, hh, z0, z1, by simp; omega⟩
  have cut : ∀ {S3 : Hq} {n : Int} {z : Int}, 1 ≤ n → n ≤ ns.length - 1 → 0 ≤ z → z < 32 → Nx b S2 S3 → (cutL (ns.map D.int) none (some n)).length ≤ 999999 ∧ Q (.tup (cutL (ns.map D.int) none (some n) ++ [.int z])) S3 := fun {S3 n z} a1 a2 z0 z1 n3 => by
    rw [cutL_map, cutL_to _ (by omega)]
    obtain ⟨j, hj⟩ : ∃ j : Nat, n.toNat = j + 1 := ⟨n.toNat - 1, by omega⟩
    have e : ns.take n.toNat = h :: (m ++ [l]).take j := by rw [hj, hN, List.take_succ_cons]
    have hl : ((m ++ [l]).take j).length ≤ 13 := by rw [List.length_take]; omega
    rw [e]
    refine ⟨by simp at hl ⊢; omega, ?_⟩
    have := k _ _ (mk _ z z0 z1 hl) (n2.trans n3)
    simpa [nm] using this
  by_cases c0 : way = 0
  · subst c0
    (try dsimp only); (repeat (first | rw [rSeq_eq] | simp -implicitDefEqProofs only [rVar, rC, rBin, rUn, rTst, rChn, rTru, rAnd, rOr, rNot, rAndV, rOrV, rNotV, rIf, rNil, rCons, rTup, rLst, rFn, rCall, rCallK, rSl, rPrt, rNoP, rMt, gNm, q_gN, q_gC, q_gTp, gSb, rNext, rDrop, rRet, rRetN, rBrk, rCnt, rIfS, rSet, rPar, rFor, iSeq, iLst, iRg1, iRg2, iZp, iEn, iStrD, rLc, rYes, q_isi2, q_i2N, q_i2B, q_i2I, q_i2S, q_i2T, q_i2L, q_j2N, q_j2B, q_j2I, q_j2S, q_j2T, q_j2L, q_gt2, q_gtT, q_en, q_int2, q_strD, q_rev, q_ixo, q_ext2, q_extT, q_in, q_ins, q_pop, q_any, En.x, wipeD, start', List.getElem?_cons_zero, List.getElem?_cons_succ, List.set_cons_zero, List.set_cons_succ, List.map_cons, List.map_nil, List.length_cons, List.length_nil, List.cons_append, List.nil_append, List.replicate_succ, List.replicate_zero, id, q_asB, q_asI, q_add, q_addS, q_addT, q_addL, q_int, q_sub, q_mul, q_fdiv, q_mod, q_pow, q_neg, q_le, q_ge, q_gt, q_lt, q_ltT, q_isN, q_isB, q_isBi, q_isBs, q_isBn, q_isBt, q_isnt, n_non, n_bl, n_int, n_str, n_tup, n_ref, q_eq, q_eqS, q_eqB, q_ixT, q_ixK, q_ixL, q_ixS, q_slT, q_slL, q_slS, q_set, q_lenT, q_lenK, q_lenS, q_lenL, q_abs, q_intF, q_max, q_min, q_tupT, q_tupL, q_lstT, q_lstL, q_app, q_ext, q_joinL, q_stw, q_seq, q_lst, q_rng, q_rng2, q_zpT, q_zpL, q_truN, q_truB, q_truI, q_truT, q_truL, t_non, t_bl, t_int, t_str, t_tup, q_isiN, q_isiB, q_isiI, q_isiS, q_isiT, i_NoneType_int, i_NoneType_bool, i_NoneType_tuple, i_NoneType_list, i_NoneType_str, i_bool_int, i_bool_bool, i_bool_tuple, i_bool_list, i_bool_str, i_int_int, i_int_bool, i_int_tuple, i_int_list, i_int_str, i_str_int, i_str_bool, i_str_tuple, i_str_list, i_str_str, i_tuple_int, i_tuple_bool, i_tuple_tuple, i_tuple_list, i_tuple_str, i_list_int, i_list_bool, i_list_tuple, i_list_list, i_list_str, i_dict_int, i_dict_bool, i_dict_tuple, i_dict_list, i_dict_str, up_same, g_02, g_02', g_01, g_11, at_0, at_1, ix_0, ix_1, Option.some.injEq, HQ.lst.injEq, exists_eq_left', exists_eq_left, exists_and_left, exists_eq', exists_eq, decide_eq_true_eq, if_true, if_false, ite_true, ite_false, Bool.false_eq_true, reduceIte, reduceCtorEq, Bool.not_true, Bool.not_false, Nat.zero_add, Nat.reduceAdd, Nat.reduceSub, Nat.reduceLeDiff, Nat.reduceLT, Int.reduceLT, Int.reduceLE, Int.reduceEq, Int.reduceNe, Nat.reduceEqDiff, Int.reduceToNat, Int.reducePow, Int.reduceMul, Int.reduceAdd, Int.reduceSub, Int.reduceNeg, and_true, true_and, decide_true, decide_false, rFld, rSetF, rMet, rMetX, rMake, rBy, Y.rIsE, rCallX, rRaise, rTryAs, rTryOnly, rGd, q_fld, q_sfld, q_met, q_isntB, iEnX, iEn4, e4_t, e4_s, e4_k, e4_r, v_t, v_s, q_lset, q_remD, rNv, a_i, a_s, a_t, a_r, a_k, m_T, m_F, v_r, v_k, lg_r, lg_k, t_t, t_r, t_k, l_t, l_r, l_k, s_t, s_s, s_r, s_k, o_1, j_1, y_1, y_2, y_3, z_tt, z_r, z_k, e_1, k_ii, k_ss, k_bb, k_nn, k_tt, k_r, k_k, n_t, n_r, n_k, u_ii, u_si, lj_1, rLstF, rLcF, rFz, rSlM, iZp3, iEn3, eqvAll_nil, pds_emp, iAny, sq_k, sq_r, ls_t, or_false, false_or, fz_r, fz_k, fz_t, fz_n, fz_b, fz_s, q_lstK, q_truK, t_kl, q_isiK, iRevY, rv_r, rv_k, rv_t, rAug, q_i2K, q_j2K, q_srtB, at_2, at_3, q_strF, rPar3, g_03a, g_03b, g_03c, g_03d, g_03e, g_03f, rLam, rAsk, rCallXK, q_ext3, q_ext3T, q_ext3K, rDc, rDNew, gDk, rLock, rLockE, iKys, iVls, iIts, k_inS, k_inI, k_getS, k_getI, k_setS, k_setI, rMetK, rMakeK, q_srtTx, k_srt, k_len, k_keys, k_vals, k_items]))
    simp only [hc2, rVar, rC, rBin, rUn, rTst, rChn, rTru, rAnd, rOr, rNot, rAndV, rOrV, rNotV, rIf, rNil, rCons, rTup, rLst, rFn, rCall, rCallK, rSl, rPrt, rNoP, rMt, gNm, q_gN, q_gC, q_gTp, gSb, rNext, rDrop, rRet, rRetN, rBrk, rCnt, rIfS, rSet, rPar, rFor, iSeq, iLst, iRg1, iRg2, iZp, iEn, iStrD, rLc, rYes, q_isi2, q_i2N, q_i2B, q_i2I, q_i2S, q_i2T, q_i2L, q_j2N, q_j2B, q_j2I, q_j2S, q_j2T, q_j2L, q_gt2, q_gtT, q_en, q_int2, q_strD, q_rev, q_ixo, q_ext2, q_extT, q_in, q_ins, q_pop, q_any, En.x, wipeD, start', List.getElem?_cons_zero, List.getElem?_cons_succ, List.set_cons_zero, List.set_cons_succ, List.map_cons, List.map_nil, List.length_cons, List.length_nil, List.cons_append, List.nil_append, List.replicate_succ, List.replicate_zero, id, q_asB, q_asI, q_add, q_addS, q_addT, q_addL, q_int, q_sub, q_mul, q_fdiv, q_mod, q_pow, q_neg, q_le, q_ge, q_gt, q_lt, q_ltT, q_isN, q_isB, q_isBi, q_isBs, q_isBn, q_isBt, q_isnt, n_non, n_bl, n_int, n_str, n_tup, n_ref, q_eq, q_eqS, q_eqB, q_ixT, q_ixK, q_ixL, q_ixS, q_slT, q_slL, q_slS, q_set, q_lenT, q_lenK, q_lenS, q_lenL, q_abs, q_intF, q_max, q_min, q_tupT, q_tupL, q_lstT, q_lstL, q_app, q_ext, q_joinL, q_stw, q_seq, q_lst, q_rng, q_rng2, q_zpT, q_zpL, q_truN, q_truB, q_truI, q_truT, q_truL, t_non, t_bl, t_int, t_str, t_tup, q_isiN, q_isiB, q_isiI, q_isiS, q_isiT, i_NoneType_int, i_NoneType_bool, i_NoneType_tuple, i_NoneType_list, i_NoneType_str, i_bool_int, i_bool_bool, i_bool_tuple, i_bool_list, i_bool_str, i_int_int, i_int_bool, i_int_tuple, i_int_list, i_int_str, i_str_int, i_str_bool, i_str_tuple, i_str_list, i_str_str, i_tuple_int, i_tuple_bool, i_tuple_tuple, i_tuple_list, i_tuple_str, i_list_int, i_list_bool, i_list_tuple, i_list_list, i_list_str, i_dict_int, i_dict_bool, i_dict_tuple, i_dict_list, i_dict_str, up_same, g_02, g_02', g_01, g_11, at_0, at_1, ix_0, ix_1, Option.some.injEq, HQ.lst.injEq, exists_eq_left', exists_eq_left, exists_and_left, exists_eq', exists_eq, decide_eq_true_eq, if_true, if_false, ite_true, ite_false, Bool.false_eq_true, reduceIte, reduceCtorEq, Bool.not_true, Bool.not_false, Nat.zero_add, Nat.reduceAdd, Nat.reduceSub, Nat.reduceLeDiff, Nat.reduceLT, Int.reduceLT, Int.reduceLE, Int.reduceEq, Int.reduceNe, Nat.reduceEqDiff, Int.reduceToNat, Int.reducePow, Int.reduceMul, Int.reduceAdd, Int.reduceSub, Int.reduceNeg, and_true, true_and, decide_true, decide_false, rFld, rSetF, rMet, rMetX, rMake, rBy, Y.rIsE, rCallX, rRaise, rTryAs, rTryOnly, rGd, q_fld, q_sfld, q_met, q_isntB, iEnX, iEn4, e4_t, e4_s, e4_k, e4_r, v_t, v_s, q_lset, q_remD, rNv, a_i, a_s, a_t, a_r, a_k, m_T, m_F, v_r, v_k, lg_r, lg_k, t_t, t_r, t_k, l_t, l_r, l_k, s_t, s_s, s_r, s_k, o_1, j_1, y_1, y_2, y_3, z_tt, z_r, z_k, e_1, k_ii, k_ss, k_bb, k_nn, k_tt, k_r, k_k, n_t, n_r, n_k, u_ii, u_si, lj_1, rLstF, rLcF, rFz, rSlM, iZp3, iEn3, eqvAll_nil, pds_emp, iAny, sq_k, sq_r, ls_t, or_false, false_or, fz_r, fz_k, fz_t, fz_n, fz_b, fz_s, q_lstK, q_truK, t_kl, q_isiK, iRevY, rv_r, rv_k, rv_t, rAug, q_i2K, q_j2K, q_srtB, at_2, at_3, q_strF, rPar3, g_03a, g_03b, g_03c, g_03d, g_03e, g_03f, rLam, rAsk, rCallXK, q_ext3, q_ext3T, q_ext3K, rDc, rDNew, gDk, rLock, rLockE, iKys, iVls, iIts, k_inS, k_inI, k_getS, k_getI, k_setS, k_setI, rMetK, rMakeK, q_srtTx, k_srt, k_len, k_keys, k_vals, k_items]
    exact k _ _ hf n2
  by_cases c1 : way = 1
  · subst c1
    (try dsimp only); (repeat (first | rw [rSeq_eq] | simp -implicitDefEqProofs only [rVar, rC, rBin, rUn, rTst, rChn, rTru, rAnd, rOr, rNot, rAndV, rOrV, rNotV, rIf, rNil, rCons, rTup, rLst, rFn, rCall, rCallK, rSl, rPrt, rNoP, rMt, gNm, q_gN, q_gC, q_gTp, gSb, rNext, rDrop, rRet, rRetN, rBrk, rCnt, rIfS, rSet, rPar, rFor, iSeq, iLst, iRg1, iRg2, iZp, iEn, iStrD, rLc, rYes, q_isi2, q_i2N, q_i2B, q_i2I, q_i2S, q_i2T, q_i2L, q_j2N, q_j2B, q_j2I, q_j2S, q_j2T, q_j2L, q_gt2, q_gtT, q_en, q_int2, q_strD, q_rev, q_ixo, q_ext2, q_extT, q_in, q_ins, q_pop, q_any, En.x, wipeD, start', List.getElem?_cons_zero, List.getElem?_cons_succ, List.set_cons_zero, List.set_cons_succ, List.map_cons, List.map_nil, List.length_cons, List.length_nil, List.cons_append, List.nil_append, List.replicate_succ, List.replicate_zero, id, q_asB, q_asI, q_add, q_addS, q_addT, q_addL, q_int, q_sub, q_mul, q_fdiv, q_mod, q_pow, q_neg, q_le, q_ge, q_gt, q_lt, q_ltT, q_isN, q_isB, q_isBi, q_isBs, q_isBn, q_isBt, q_isnt, n_non, n_bl, n_int, n_str, n_tup, n_ref, q_eq, q_eqS, q_eqB, q_ixT, q_ixK, q_ixL, q_ixS, q_slT, q_slL, q_slS, q_set, q_lenT, q_lenK, q_lenS, q_lenL, q_abs, q_intF, q_max, q_min, q_tupT, q_tupL, q_lstT, q_lstL, q_app, q_ext, q_joinL, q_stw, q_seq, q_lst, q_rng, q_rng2, q_zpT, q_zpL, q_truN, q_truB, q_truI, q_truT, q_truL, t_non, t_bl, t_int, t_str, t_tup, q_isiN, q_isiB, q_isiI, q_isiS, q_isiT, i_NoneType_int, i_NoneType_bool, i_NoneType_tuple, i_NoneType_list, i_NoneType_str, i_bool_int, i_bool_bool, i_bool_tuple, i_bool_list, i_bool_str, i_int_int, i_int_bool, i_int_tuple, i_int_list, i_int_str, i_str_int, i_str_bool, i_str_tuple, i_str_list, i_str_str, i_tuple_int, i_tuple_bool, i_tuple_tuple, i_tuple_list, i_tuple_str, i_list_int, i_list_bool, i_list_tuple, i_list_list, i_list_str, i_dict_int, i_dict_bool, i_dict_tuple, i_dict_list, i_dict_str, up_same, g_02, g_02', g_01, g_11, at_0, at_1, ix_0, ix_1, Option.some.injEq, HQ.lst.injEq, exists_eq_left', exists_eq_left, exists_and_left, exists_eq', exists_eq, decide_eq_true_eq, if_true, if_false, ite_true, ite_false, Bool.false_eq_true, reduceIte, reduceCtorEq, Bool.not_true, Bool.not_false, Nat.zero_add, Nat.reduceAdd, Nat.reduceSub, Nat.reduceLeDiff, Nat.reduceLT, Int.reduceLT, Int.reduceLE, Int.reduceEq, Int.reduceNe, Nat.reduceEqDiff, Int.reduceToNat, Int.reducePow, Int.reduceMul, Int.reduceAdd, Int.reduceSub, Int.reduceNeg, and_true, true_and, decide_true, decide_false, rFld, rSetF, rMet, rMetX, rMake, rBy, Y.rIsE, rCallX, rRaise, rTryAs, rTryOnly, rGd, q_fld, q_sfld, q_met, q_isntB, iEnX, iEn4, e4_t, e4_s, e4_k, e4_r, v_t, v_s, q_lset, q_remD, rNv, a_i, a_s, a_t, a_r, a_k, m_T, m_F, v_r, v_k, lg_r, lg_k, t_t, t_r, t_k, l_t, l_r, l_k, s_t, s_s, s_r, s_k, o_1, j_1, y_1, y_2, y_3, z_tt, z_r, z_k, e_1, k_ii, k_ss, k_bb, k_nn, k_tt, k_r, k_k, n_t, n_r, n_k, u_ii, u_si, lj_1, rLstF, rLcF, rFz, rSlM, iZp3, iEn3, eqvAll_nil, pds_emp, iAny, sq_k, sq_r, ls_t, or_false, false_or, fz_r, fz_k, fz_t, fz_n, fz_b, fz_s, q_lstK, q_truK, t_kl, q_isiK, iRevY, rv_r, rv_k, rv_t, rAug, q_i2K, q_j2K, q_srtB, at_2, at_3, q_strF, rPar3, g_03a, g_03b, g_03c, g_03d, g_03e, g_03f, rLam, rAsk, rCallXK, q_ext3, q_ext3T, q_ext3K, rDc, rDNew, gDk, rLock, rLockE, iKys, iVls, iIts, k_inS, k_inI, k_getS, k_getI, k_setS, k_setI, rMetK, rMakeK, q_srtTx, k_srt, k_len, k_keys, k_vals, k_items]))
    refine ⟨_, hc2, take_of n2.bx (by decide) (by decide) fun r S3 hr0 hr1 n3 => ?_⟩
    simp -implicitDefEqProofs only [rVar, rC, rBin, rUn, rTst, rChn, rTru, rAnd, rOr, rNot, rAndV, rOrV, rNotV, rIf, rNil, rCons, rTup, rLst, rFn, rCall, rCallK, rSl, rPrt, rNoP, rMt, gNm, q_gN, q_gC, q_gTp, gSb, rNext, rDrop, rRet, rRetN, rBrk, rCnt, rIfS, rSet, rPar, rFor, iSeq, iLst, iRg1, iRg2, iZp, iEn, iStrD, rLc, rYes, q_isi2, q_i2N, q_i2B, q_i2I, q_i2S, q_i2T, q_i2L, q_j2N, q_j2B, q_j2I, q_j2S, q_j2T, q_j2L, q_gt2, q_gtT, q_en, q_int2, q_strD, q_rev, q_ixo, q_ext2, q_extT, q_in, q_ins, q_pop, q_any, En.x, wipeD, start', List.getElem?_cons_zero, List.getElem?_cons_succ, List.set_cons_zero, List.set_cons_succ, List.map_cons, List.map_nil, List.length_cons, List.length_nil, List.cons_append, List.nil_append, List.replicate_succ, List.replicate_zero, id, q_asB, q_asI, q_add, q_addS, q_addT, q_addL, q_int, q_sub, q_mul, q_fdiv, q_mod, q_pow, q_neg, q_le, q_ge, q_gt, q_lt, q_ltT, q_isN, q_isB, q_isBi, q_isBs, q_isBn, q_isBt, q_isnt, n_non, n_bl, n_int, n_str, n_tup, n_ref, q_eq, q_eqS, q_eqB, q_ixT, q_ixK, q_ixL, q_ixS, q_slT, q_slL, q_slS, q_set, q_lenT, q_lenK, q_lenS, q_lenL, q_abs, q_intF, q_max, q_min, q_tupT, q_tupL, q_lstT, q_lstL, q_app, q_ext, q_joinL, q_stw, q_seq, q_lst, q_rng, q_rng2, q_zpT, q_zpL, q_truN, q_truB, q_truI, q_truT, q_truL, t_non, t_bl, t_int, t_str, t_tup, q_isiN, q_isiB, q_isiI, q_isiS, q_isiT, i_NoneType_int, i_NoneType_bool, i_NoneType_tuple, i_NoneType_list, i_NoneType_str, i_bool_int, i_bool_bool, i_bool_tuple, i_bool_list, i_bool_str, i_int_int, i_int_bool, i_int_tuple, i_int_list, i_int_str, i_str_int, i_str_bool, i_str_tuple, i_str_list, i_str_str, i_tuple_int, i_tuple_bool, i_tuple_tuple, i_tuple_list, i_tuple_str, i_list_int, i_list_bool, i_list_tuple, i_list_list, i_list_str, i_dict_int, i_dict_bool, i_dict_tuple, i_dict_list, i_dict_str, up_same, g_02, g_02', g_01, g_11, at_0, at_1, ix_0, ix_1, Option.some.injEq, HQ.lst.injEq, exists_eq_left', exists_eq_left, exists_and_left, exists_eq', exists_eq, decide_eq_true_eq, if_true, if_false, ite_true, ite_false, Bool.false_eq_true, reduceIte, reduceCtorEq, Bool.not_true, Bool.not_false, Nat.zero_add, Nat.reduceAdd, Nat.reduceSub, Nat.reduceLeDiff, Nat.reduceLT, Int.reduceLT, Int.reduceLE, Int.reduceEq, Int.reduceNe, Nat.reduceEqDiff, Int.reduceToNat, Int.reducePow, Int.reduceMul, Int.reduceAdd, Int.reduceSub, Int.reduceNeg, and_true, true_and, decide_true, decide_false, rFld, rSetF, rMet, rMetX, rMake, rBy, Y.rIsE, rCallX, rRaise, rTryAs, rTryOnly, rGd, q_fld, q_sfld, q_met, q_isntB, iEnX, iEn4, e4_t, e4_s, e4_k, e4_r, v_t, v_s, q_lset, q_remD, rNv, a_i, a_s, a_t, a_r, a_k, m_T, m_F, v_r, v_k, lg_r, lg_k, t_t, t_r, t_k, l_t, l_r, l_k, s_t, s_s, s_r, s_k, o_1, j_1, y_1, y_2, y_3, z_tt, z_r, z_k, e_1, k_ii, k_ss, k_bb, k_nn, k_tt, k_r, k_k, n_t, n_r, n_k, u_ii, u_si, lj_1, rLstF, rLcF, rFz, rSlM, iZp3, iEn3, eqvAll_nil, pds_emp, iAny, sq_k, sq_r, ls_t, or_false, false_or, fz_r, fz_k, fz_t, fz_n, fz_b, fz_s, q_lstK, q_truK, t_kl, q_isiK, iRevY, rv_r, rv_k, rv_t, rAug, q_i2K, q_j2K, q_srtB, at_2, at_3, q_strF, rPar3, g_03a, g_03b, g_03c, g_03d, g_03e, g_03f, rLam, rAsk, rCallXK, q_ext3, q_ext3T, q_ext3K, rDc, rDNew, gDk, rLock, rLockE, iKys, iVls, iIts, k_inS, k_inI, k_getS, k_getI, k_setS, k_setI, rMetK, rMakeK, q_srtTx, k_srt, k_len, k_keys, k_vals, k_items]
    refine ⟨⟨by omega, by omega⟩, ?_⟩
    refine lc_draw (fun S' => Nx b S3 S') (fun d => ∃ i, d = .int i) (fun _ _ => trivial) _ _ _ (fun x _ S' Q' hi q => ?_) (by rw [rangeD_len]; simp; omega) (by simp) (Nx.refl n3.bx) (fun acc S4 hl ha n4 => ?_)
    · simp -implicitDefEqProofs only [rVar, rC, rBin, rUn, rTst, rChn, rTru, rAnd, rOr, rNot, rAndV, rOrV, rNotV, rIf, rNil, rCons, rTup, rLst, rFn, rCall, rCallK, rSl, rPrt, rNoP, rMt, gNm, q_gN, q_gC, q_gTp, gSb, rNext, rDrop, rRet, rRetN, rBrk, rCnt, rIfS, rSet, rPar, rFor, iSeq, iLst, iRg1, iRg2, iZp, iEn, iStrD, rLc, rYes, q_isi2, q_i2N, q_i2B, q_i2I, q_i2S, q_i2T, q_i2L, q_j2N, q_j2B, q_j2I, q_j2S, q_j2T, q_j2L, q_gt2, q_gtT, q_en, q_int2, q_strD, q_rev, q_ixo, q_ext2, q_extT, q_in, q_ins, q_pop, q_any, En.x, wipeD, start', List.getElem?_cons_zero, List.getElem?_cons_succ, List.set_cons_zero, List.set_cons_succ, List.map_cons, List.map_nil, List.length_cons, List.length_nil, List.cons_append, List.nil_append, List.replicate_succ, List.replicate_zero, id, q_asB, q_asI, q_add, q_addS, q_addT, q_addL, q_int, q_sub, q_mul, q_fdiv, q_mod, q_pow, q_neg, q_le, q_ge, q_gt, q_lt, q_ltT, q_isN, q_isB, q_isBi, q_isBs, q_isBn, q_isBt, q_isnt, n_non, n_bl, n_int, n_str, n_tup, n_ref, q_eq, q_eqS, q_eqB, q_ixT, q_ixK, q_ixL, q_ixS, q_slT, q_slL, q_slS, q_set, q_lenT, q_lenK, q_lenS, q_lenL, q_abs, q_intF, q_max, q_min, q_tupT, q_tupL, q_lstT, q_lstL, q_app, q_ext, q_joinL, q_stw, q_seq, q_lst, q_rng, q_rng2, q_zpT, q_zpL, q_truN, q_truB, q_truI, q_truT, q_truL, t_non, t_bl, t_int, t_str, t_tup, q_isiN, q_isiB, q_isiI, q_isiS, q_isiT, i_NoneType_int, i_NoneType_bool, i_NoneType_tuple, i_NoneType_list, i_NoneType_str, i_bool_int, i_bool_bool, i_bool_tuple, i_bool_list, i_bool_str, i_int_int, i_int_bool, i_int_tuple, i_int_list, i_int_str, i_str_int, i_str_bool, i_str_tuple, i_str_list, i_str_str, i_tuple_int, i_tuple_bool, i_tuple_tuple, i_tuple_list, i_tuple_str, i_list_int, i_list_bool, i_list_tuple, i_list_list, i_list_str, i_dict_int, i_dict_bool, i_dict_tuple, i_dict_list, i_dict_str, up_same, g_02, g_02', g_01, g_11, at_0, at_1, ix_0, ix_1, Option.some.injEq, HQ.lst.injEq, exists_eq_left', exists_eq_left, exists_and_left, exists_eq', exists_eq, decide_eq_true_eq, if_true, if_false, ite_true, ite_false, Bool.false_eq_true, reduceIte, reduceCtorEq, Bool.not_true, Bool.not_false, Nat.zero_add, Nat.reduceAdd, Nat.reduceSub, Nat.reduceLeDiff, Nat.reduceLT, Int.reduceLT, Int.reduceLE, Int.reduceEq, Int.reduceNe, Nat.reduceEqDiff, Int.reduceToNat, Int.reducePow, Int.reduceMul, Int.reduceAdd, Int.reduceSub, Int.reduceNeg, and_true, true_and, decide_true, decide_false, rFld, rSetF, rMet, rMetX, rMake, rBy, Y.rIsE, rCallX, rRaise, rTryAs, rTryOnly, rGd, q_fld, q_sfld, q_met, q_isntB, iEnX, iEn4, e4_t, e4_s, e4_k, e4_r, v_t, v_s, q_lset, q_remD, rNv, a_i, a_s, a_t, a_r, a_k, m_T, m_F, v_r, v_k, lg_r, lg_k, t_t, t_r, t_k, l_t, l_r, l_k, s_t, s_s, s_r, s_k, o_1, j_1, y_1, y_2, y_3, z_tt, z_r, z_k, e_1, k_ii, k_ss, k_bb, k_nn, k_tt, k_r, k_k, n_t, n_r, n_k, u_ii, u_si, lj_1, rLstF, rLcF, rFz, rSlM, iZp3, iEn3, eqvAll_nil, pds_emp, iAny, sq_k, sq_r, ls_t, or_false, false_or, fz_r, fz_k, fz_t, fz_n, fz_b, fz_s, q_lstK, q_truK, t_kl, q_isiK, iRevY, rv_r, rv_k, rv_t, rAug, q_i2K, q_j2K, q_srtB, at_2, at_3, q_strF, rPar3, g_03a, g_03b, g_03c, g_03d, g_03e, g_03f, rLam, rAsk, rCallXK, q_ext3, q_ext3T, q_ext3K, rDc, rDNew, gDk, rLock, rLockE, iKys, iVls, iIts, k_inS, k_inI, k_getS, k_getI, k_setS, k_setI, rMetK, rMakeK, q_srtTx, k_srt, k_len, k_keys, k_vals, k_items]
      refine entry_of hi.bx fun i S'' n => q _ _ ⟨i, rfl⟩ (hi.trans n)
    rw [rangeD_len] at hl
    obtain ⟨is, rfl⟩ := ints_of ha
    rw [List.length_map] at hl
    simp only [List.length_nil] at hl
    rw [cutL_map, cutL_to _ (by decide)]
    have e11 : List.take (Int.toNat 11) ns = h :: List.take 10 (m ++ [l]) := by rw [hN]; rfl
    rw [e11]
    have hlen10 : (List.take 10 (m ++ [l])).length ≤ 10 := by rw [List.length_take]; omega
    refine ⟨by simp at hlen10 ⊢; omega, take_of n4.bx (by decide) (by decide) fun z S5 z0 z1 n5 => ⟨by simp at hlen10 ⊢; omega, ?_⟩⟩
    have := k _ _ (mk (List.take 10 (m ++ [l]) ++ is) z z0 z1 (by rw [List.length_append]; omega)) (((n2.trans n3).trans n4).trans n5)
    simpa [nm] using this
  by_cases c2 : way = 2
  · subst c2
    (try dsimp only); (repeat (first | rw [rSeq_eq] | simp -implicitDefEqProofs only [rVar, rC, rBin, rUn, rTst, rChn, rTru, rAnd, rOr, rNot, rAndV, rOrV, rNotV, rIf, rNil, rCons, rTup, rLst, rFn, rCall, rCallK, rSl, rPrt, rNoP, rMt, gNm, q_gN, q_gC, q_gTp, gSb, rNext, rDrop, rRet, rRetN, rBrk, rCnt, rIfS, rSet, rPar, rFor, iSeq, iLst, iRg1, iRg2, iZp, iEn, iStrD, rLc, rYes, q_isi2, q_i2N, q_i2B, q_i2I, q_i2S, q_i2T, q_i2L, q_j2N, q_j2B, q_j2I, q_j2S, q_j2T, q_j2L, q_gt2, q_gtT, q_en, q_int2, q_strD, q_rev, q_ixo, q_ext2, q_extT, q_in, q_ins, q_pop, q_any, En.x, wipeD, start', List.getElem?_cons_zero, List.getElem?_cons_succ, List.set_cons_zero, List.set_cons_succ, List.map_cons, List.map_nil, List.length_cons, List.length_nil, List.cons_append, List.nil_append, List.replicate_succ, List.replicate_zero, id, q_asB, q_asI, q_add, q_addS, q_addT, q_addL, q_int, q_sub, q_mul, q_fdiv, q_mod, q_pow, q_neg, q_le, q_ge, q_gt, q_lt, q_ltT, q_isN, q_isB, q_isBi, q_isBs, q_isBn, q_isBt, q_isnt, n_non, n_bl, n_int, n_str, n_tup, n_ref, q_eq, q_eqS, q_eqB, q_ixT, q_ixK, q_ixL, q_ixS, q_slT, q_slL, q_slS, q_set, q_lenT, q_lenK, q_lenS, q_lenL, q_abs, q_intF, q_max, q_min, q_tupT, q_tupL, q_lstT, q_lstL, q_app, q_ext, q_joinL, q_stw, q_seq, q_lst, q_rng, q_rng2, q_zpT, q_zpL, q_truN, q_truB, q_truI, q_truT, q_truL, t_non, t_bl, t_int, t_str, t_tup, q_isiN, q_isiB, q_isiI, q_isiS, q_isiT, i_NoneType_int, i_NoneType_bool, i_NoneType_tuple, i_NoneType_list, i_NoneType_str, i_bool_int, i_bool_bool, i_bool_tuple, i_bool_list, i_bool_str, i_int_int, i_int_bool, i_int_tuple, i_int_list, i_int_str, i_str_int, i_str_bool, i_str_tuple, i_str_list, i_str_str, i_tuple_int, i_tuple_bool, i_tuple_tuple, i_tuple_list, i_tuple_str, i_list_int, i_list_bool, i_list_tuple, i_list_list, i_list_str, i_dict_int, i_dict_bool, i_dict_tuple, i_dict_list, i_dict_str, up_same, g_02, g_02', g_01, g_11, at_0, at_1, ix_0, ix_1, Option.some.injEq, HQ.lst.injEq, exists_eq_left', exists_eq_left, exists_and_left, exists_eq', exists_eq, decide_eq_true_eq, if_true, if_false, ite_true, ite_false, Bool.false_eq_true, reduceIte, reduceCtorEq, Bool.not_true, Bool.not_false, Nat.zero_add, Nat.reduceAdd, Nat.reduceSub, Nat.reduceLeDiff, Nat.reduceLT, Int.reduceLT, Int.reduceLE, Int.reduceEq, Int.reduceNe, Nat.reduceEqDiff, Int.reduceToNat, Int.reducePow, Int.reduceMul, Int.reduceAdd, Int.reduceSub, Int.reduceNeg, and_true, true_and, decide_true, decide_false, rFld, rSetF, rMet, rMetX, rMake, rBy, Y.rIsE, rCallX, rRaise, rTryAs, rTryOnly, rGd, q_fld, q_sfld, q_met, q_isntB, iEnX, iEn4, e4_t, e4_s, e4_k, e4_r, v_t, v_s, q_lset, q_remD, rNv, a_i, a_s, a_t, a_r, a_k, m_T, m_F, v_r, v_k, lg_r, lg_k, t_t, t_r, t_k, l_t, l_r, l_k, s_t, s_s, s_r, s_k, o_1, j_1, y_1, y_2, y_3, z_tt, z_r, z_k, e_1, k_ii, k_ss, k_bb, k_nn, k_tt, k_r, k_k, n_t, n_r, n_k, u_ii, u_si, lj_1, rLstF, rLcF, rFz, rSlM, iZp3, iEn3, eqvAll_nil, pds_emp, iAny, sq_k, sq_r, ls_t, or_false, false_or, fz_r, fz_k, fz_t, fz_n, fz_b, fz_s, q_lstK, q_truK, t_kl, q_isiK, iRevY, rv_r, rv_k, rv_t, rAug, q_i2K, q_j2K, q_srtB, at_2, at_3, q_strF, rPar3, g_03a, g_03b, g_03c, g_03d, g_03e, g_03f, rLam, rAsk, rCallXK, q_ext3, q_ext3T, q_ext3K, rDc, rDNew, gDk, rLock, rLockE, iKys, iVls, iIts, k_inS, k_inI, k_getS, k_getI, k_setS, k_setI, rMetK, rMakeK, q_srtTx, k_srt, k_len, k_keys, k_vals, k_items]))
    refine ⟨_, hc2, take_of n2.bx (by rw [List.length_map]; omega) (by rw [List.length_map]; omega) fun spot S3 hs0 hs1 n3 => ?_⟩
    rw [List.length_map] at hs1
    have hc3 := n3.get hcb hc2
    have n4 := n2.trans n3
    obtain ⟨x, _, ex, _⟩ := at_ints (ns := ns) hs0 (by omega)
    have fin : ∀ (v : Int) (S' : Hq), (spot = 0 → 0 ≤ v) → Nx b S3 S' → ∃ xs, S' c = some (HQ.lst xs) ∧ ∃ x_1, ixN xs.length spot = some x_1 ∧ Q (D.tup (xs.set x_1 (D.int v))) (up S' c (HQ.lst (xs.set x_1 (D.int v)))) := by
      intro v S' hv n5
      have hc5 := n5.get hcb hc3
      refine ⟨_, hc5, spot.toNat, ix_in hs0 (by rw [List.length_map]; omega), ?_⟩
      rw [← List.map_set]
      refine k _ _ ?_ ⟨(n4.trans n5).bx.put hcb, fun a o ne ha => ?_⟩
      · rw [hN]
        by_cases hz : spot = 0
        · subst hz
          exact ⟨v, m, l, rfl, hv rfl, hl0, hl1, by rw [← hN]; simpa using hm⟩
        · obtain ⟨j, hj⟩ : ∃ j : Nat, spot.toNat = j + 1 := ⟨spot.toNat - 1, by omega⟩
          rw [hj, List.set_cons_succ, List.set_append_left _ _ (by omega)]
          exact mk _ _ hl0 hl1 (by rw [List.length_set]; omega)
      · rw [up_ne (ne_get (n1.old a o ne ha) hc)]
        exact (n4.trans n5).old a o ne ha
    (try dsimp only); rw [rSeq_eq]; try simp -implicitDefEqProofs only [rVar, rC, rBin, rUn, rTst, rChn, rTru, rAnd, rOr, rNot, rAndV, rOrV, rNotV, rIf, rNil, rCons, rTup, rLst, rFn, rCall, rCallK, rSl, rPrt, rNoP, rMt, gNm, q_gN, q_gC, q_gTp, gSb, rNext, rDrop, rRet, rRetN, rBrk, rCnt, rIfS, rSet, rPar, rFor, iSeq, iLst, iRg1, iRg2, iZp, iEn, iStrD, rLc, rYes, q_isi2, q_i2N, q_i2B, q_i2I, q_i2S, q_i2T, q_i2L, q_j2N, q_j2B, q_j2I, q_j2S, q_j2T, q_j2L, q_gt2, q_gtT, q_en, q_int2, q_strD, q_rev, q_ixo, q_ext2, q_extT, q_in, q_ins, q_pop, q_any, En.x, wipeD, start', List.getElem?_cons_zero, List.getElem?_cons_succ, List.set_cons_zero, List.set_cons_succ, List.map_cons, List.map_nil, List.length_cons, List.length_nil, List.cons_append, List.nil_append, List.replicate_succ, List.replicate_zero, id, q_asB, q_asI, q_add, q_addS, q_addT, q_addL, q_int, q_sub, q_mul, q_fdiv, q_mod, q_pow, q_neg, q_le, q_ge, q_gt, q_lt, q_ltT, q_isN, q_isB, q_isBi, q_isBs, q_isBn, q_isBt, q_isnt, n_non, n_bl, n_int, n_str, n_tup, n_ref, q_eq, q_eqS, q_eqB, q_ixT, q_ixK, q_ixL, q_ixS, q_slT, q_slL, q_slS, q_set, q_lenT, q_lenK, q_lenS, q_lenL, q_abs, q_intF, q_max, q_min, q_tupT, q_tupL, q_lstT, q_lstL, q_app, q_ext, q_joinL, q_stw, q_seq, q_lst, q_rng, q_rng2, q_zpT, q_zpL, q_truN, q_truB, q_truI, q_truT, q_truL, t_non, t_bl, t_int, t_str, t_tup, q_isiN, q_isiB, q_isiI, q_isiS, q_isiT, i_NoneType_int, i_NoneType_bool, i_NoneType_tuple, i_NoneType_list, i_NoneType_str, i_bool_int, i_bool_bool, i_bool_tuple, i_bool_list, i_bool_str, i_int_int, i_int_bool, i_int_tuple, i_int_list, i_int_str, i_str_int, i_str_bool, i_str_tuple, i_str_list, i_str_str, i_tuple_int, i_tuple_bool, i_tuple_tuple, i_tuple_list, i_tuple_str, i_list_int, i_list_bool, i_list_tuple, i_list_list, i_list_str, i_dict_int, i_dict_bool, i_dict_tuple, i_dict_list, i_dict_str, up_same, g_02, g_02', g_01, g_11, at_0, at_1, ix_0, ix_1, Option.some.injEq, HQ.lst.injEq, exists_eq_left', exists_eq_left, exists_and_left, exists_eq', exists_eq, decide_eq_true_eq, if_true, if_false, ite_true, ite_false, Bool.false_eq_true, reduceIte, reduceCtorEq, Bool.not_true, Bool.not_false, Nat.zero_add, Nat.reduceAdd, Nat.reduceSub, Nat.reduceLeDiff, Nat.reduceLT, Int.reduceLT, Int.reduceLE, Int.reduceEq, Int.reduceNe, Nat.reduceEqDiff, Int.reduceToNat, Int.reducePow, Int.reduceMul, Int.reduceAdd, Int.reduceSub, Int.reduceNeg, and_true, true_and, decide_true, decide_false, rFld, rSetF, rMet, rMetX, rMake, rBy, Y.rIsE, rCallX, rRaise, rTryAs, rTryOnly, rGd, q_fld, q_sfld, q_met, q_isntB, iEnX, iEn4, e4_t, e4_s, e4_k, e4_r, v_t, v_s, q_lset, q_remD, rNv, a_i, a_s, a_t, a_r, a_k, m_T, m_F, v_r, v_k, lg_r, lg_k, t_t, t_r, t_k, l_t, l_r, l_k, s_t, s_s, s_r, s_k, o_1, j_1, y_1, y_2, y_3, z_tt, z_r, z_k, e_1, k_ii, k_ss, k_bb, k_nn, k_tt, k_r, k_k, n_t, n_r, n_k, u_ii, u_si, lj_1, rLstF, rLcF, rFz, rSlM, iZp3, iEn3, eqvAll_nil, pds_emp, iAny, sq_k, sq_r, ls_t, or_false, false_or, fz_r, fz_k, fz_t, fz_n, fz_b, fz_s, q_lstK, q_truK, t_kl, q_isiK, iRevY, rv_r, rv_k, rv_t, rAug, q_i2K, q_j2K, q_srtB, at_2, at_3, q_strF, rPar3, g_03a, g_03b, g_03c, g_03d, g_03e, g_03f, rLam, rAsk, rCallXK, q_ext3, q_ext3T, q_ext3K, rDc, rDNew, gDk, rLock, rLockE, iKys, iVls, iIts, k_inS, k_inI, k_getS, k_getI, k_setS, k_setI, rMetK, rMakeK, q_srtTx, k_srt, k_len, k_keys, k_vals, k_items]
    split
    · refine ⟨_, hc3, _, ex, pick_of n4.bx (by simp) (by simp) fun d S4 hd n5 => ?_⟩
      obtain ⟨g, _, rfl⟩ := mem_ints (l := [_, _]) hd
      simp -implicitDefEqProofs only [rVar, rC, rBin, rUn, rTst, rChn, rTru, rAnd, rOr, rNot, rAndV, rOrV, rNotV, rIf, rNil, rCons, rTup, rLst, rFn, rCall, rCallK, rSl, rPrt, rNoP, rMt, gNm, q_gN, q_gC, q_gTp, gSb, rNext, rDrop, rRet, rRetN, rBrk, rCnt, rIfS, rSet, rPar, rFor, iSeq, iLst, iRg1, iRg2, iZp, iEn, iStrD, rLc, rYes, q_isi2, q_i2N, q_i2B, q_i2I, q_i2S, q_i2T, q_i2L, q_j2N, q_j2B, q_j2I, q_j2S, q_j2T, q_j2L, q_gt2, q_gtT, q_en, q_int2, q_strD, q_rev, q_ixo, q_ext2, q_extT, q_in, q_ins, q_pop, q_any, En.x, wipeD, start', List.getElem?_cons_zero, List.getElem?_cons_succ, List.set_cons_zero, List.set_cons_succ, List.map_cons, List.map_nil, List.length_cons, List.length_nil, List.cons_append, List.nil_append, List.replicate_succ, List.replicate_zero, id, q_asB, q_asI, q_add, q_addS, q_addT, q_addL, q_int, q_sub, q_mul, q_fdiv, q_mod, q_pow, q_neg, q_le, q_ge, q_gt, q_lt, q_ltT, q_isN, q_isB, q_isBi, q_isBs, q_isBn, q_isBt, q_isnt, n_non, n_bl, n_int, n_str, n_tup, n_ref, q_eq, q_eqS, q_eqB, q_ixT, q_ixK, q_ixL, q_ixS, q_slT, q_slL, q_slS, q_set, q_lenT, q_lenK, q_lenS, q_lenL, q_abs, q_intF, q_max, q_min, q_tupT, q_tupL, q_lstT, q_lstL, q_app, q_ext, q_joinL, q_stw, q_seq, q_lst, q_rng, q_rng2, q_zpT, q_zpL, q_truN, q_truB, q_truI, q_truT, q_truL, t_non, t_bl, t_int, t_str, t_tup, q_isiN, q_isiB, q_isiI, q_isiS, q_isiT, i_NoneType_int, i_NoneType_bool, i_NoneType_tuple, i_NoneType_list, i_NoneType_str, i_bool_int, i_bool_bool, i_bool_tuple, i_bool_list, i_bool_str, i_int_int, i_int_bool, i_int_tuple, i_int_list, i_int_str, i_str_int, i_str_bool, i_str_tuple, i_str_list, i_str_str, i_tuple_int, i_tuple_bool, i_tuple_tuple, i_tuple_list, i_tuple_str, i_list_int, i_list_bool, i_list_tuple, i_list_list, i_list_str, i_dict_int, i_dict_bool, i_dict_tuple, i_dict_list, i_dict_str, up_same, g_02, g_02', g_01, g_11, at_0, at_1, ix_0, ix_1, Option.some.injEq, HQ.lst.injEq, exists_eq_left', exists_eq_left, exists_and_left, exists_eq', exists_eq, decide_eq_true_eq, if_true, if_false, ite_true, ite_false, Bool.false_eq_true, reduceIte, reduceCtorEq, Bool.not_true, Bool.not_false, Nat.zero_add, Nat.reduceAdd, Nat.reduceSub, Nat.reduceLeDiff, Nat.reduceLT, Int.reduceLT, Int.reduceLE, Int.reduceEq, Int.reduceNe, Nat.reduceEqDiff, Int.reduceToNat, Int.reducePow, Int.reduceMul, Int.reduceAdd, Int.reduceSub, Int.reduceNeg, and_true, true_and, decide_true, decide_false, rFld, rSetF, rMet, rMetX, rMake, rBy, Y.rIsE, rCallX, rRaise, rTryAs, rTryOnly, rGd, q_fld, q_sfld, q_met, q_isntB, iEnX, iEn4, e4_t, e4_s, e4_k, e4_r, v_t, v_s, q_lset, q_remD, rNv, a_i, a_s, a_t, a_r, a_k, m_T, m_F, v_r, v_k, lg_r, lg_k, t_t, t_r, t_k, l_t, l_r, l_k, s_t, s_s, s_r, s_k, o_1, j_1, y_1, y_2, y_3, z_tt, z_r, z_k, e_1, k_ii, k_ss, k_bb, k_nn, k_tt, k_r, k_k, n_t, n_r, n_k, u_ii, u_si, lj_1, rLstF, rLcF, rFz, rSlM, iZp3, iEn3, eqvAll_nil, pds_emp, iAny, sq_k, sq_r, ls_t, or_false, false_or, fz_r, fz_k, fz_t, fz_n, fz_b, fz_s, q_lstK, q_truK, t_kl, q_isiK, iRevY, rv_r, rv_k, rv_t, rAug, q_i2K, q_j2K, q_srtB, at_2, at_3, q_strF, rPar3, g_03a, g_03b, g_03c, g_03d, g_03e, g_03f, rLam, rAsk, rCallXK, q_ext3, q_ext3T, q_ext3K, rDc, rDNew, gDk, rLock, rLockE, iKys, iVls, iIts, k_inS, k_inI, k_getS, k_getI, k_setS, k_setI, rMetK, rMakeK, q_srtTx, k_srt, k_len, k_keys, k_vals, k_items]
      refine fin _ _ (fun _ => ?_) n5
      split <;> omega
    · rename_i hz
      refine ⟨⟨by decide, by decide, by decide, by decide⟩, _, hc3, _, ex, pick_of n4.bx (by simp) (by simp) fun d S4 hd n5 => ?_⟩
      obtain ⟨g, _, rfl⟩ := mem_ints (l := [_, _]) hd
      simp -implicitDefEqProofs only [rVar, rC, rBin, rUn, rTst, rChn, rTru, rAnd, rOr, rNot, rAndV, rOrV, rNotV, rIf, rNil, rCons, rTup, rLst, rFn, rCall, rCallK, rSl, rPrt, rNoP, rMt, gNm, q_gN, q_gC, q_gTp, gSb, rNext, rDrop, rRet, rRetN, rBrk, rCnt, rIfS, rSet, rPar, rFor, iSeq, iLst, iRg1, iRg2, iZp, iEn, iStrD, rLc, rYes, q_isi2, q_i2N, q_i2B, q_i2I, q_i2S, q_i2T, q_i2L, q_j2N, q_j2B, q_j2I, q_j2S, q_j2T, q_j2L, q_gt2, q_gtT, q_en, q_int2, q_strD, q_rev, q_ixo, q_ext2, q_extT, q_in, q_ins, q_pop, q_any, En.x, wipeD, start', List.getElem?_cons_zero, List.getElem?_cons_succ, List.set_cons_zero, List.set_cons_succ, List.map_cons, List.map_nil, List.length_cons, List.length_nil, List.cons_append, List.nil_append, List.replicate_succ, List.replicate_zero, id, q_asB, q_asI, q_add, q_addS, q_addT, q_addL, q_int, q_sub, q_mul, q_fdiv, q_mod, q_pow, q_neg, q_le, q_ge, q_gt, q_lt, q_ltT, q_isN, q_isB, q_isBi, q_isBs, q_isBn, q_isBt, q_isnt, n_non, n_bl, n_int, n_str, n_tup, n_ref, q_eq, q_eqS, q_eqB, q_ixT, q_ixK, q_ixL, q_ixS, q_slT, q_slL, q_slS, q_set, q_lenT, q_lenK, q_lenS, q_lenL, q_abs, q_intF, q_max, q_min, q_tupT, q_tupL, q_lstT, q_lstL, q_app, q_ext, q_joinL, q_stw, q_seq, q_lst, q_rng, q_rng2, q_zpT, q_zpL, q_truN, q_truB, q_truI, q_truT, q_truL, t_non, t_bl, t_int, t_str, t_tup, q_isiN, q_isiB, q_isiI, q_isiS, q_isiT, i_NoneType_int, i_NoneType_bool, i_NoneType_tuple, i_NoneType_list, i_NoneType_str, i_bool_int, i_bool_bool, i_bool_tuple, i_bool_list, i_bool_str, i_int_int, i_int_bool, i_int_tuple, i_int_list, i_int_str, i_str_int, i_str_bool, i_str_tuple, i_str_list, i_str_str, i_tuple_int, i_tuple_bool, i_tuple_tuple, i_tuple_list, i_tuple_str, i_list_int, i_list_bool, i_list_tuple, i_list_list, i_list_str, i_dict_int, i_dict_bool, i_dict_tuple, i_dict_list, i_dict_str, up_same, g_02, g_02', g_01, g_11, at_0, at_1, ix_0, ix_1, Option.some.injEq, HQ.lst.injEq, exists_eq_left', exists_eq_left, exists_and_left, exists_eq', exists_eq, decide_eq_true_eq, if_true, if_false, ite_true, ite_false, Bool.false_eq_true, reduceIte, reduceCtorEq, Bool.not_true, Bool.not_false, Nat.zero_add, Nat.reduceAdd, Nat.reduceSub, Nat.reduceLeDiff, Nat.reduceLT, Int.reduceLT, Int.reduceLE, Int.reduceEq, Int.reduceNe, Nat.reduceEqDiff, Int.reduceToNat, Int.reducePow, Int.reduceMul, Int.reduceAdd, Int.reduceSub, Int.reduceNeg, and_true, true_and, decide_true, decide_false, rFld, rSetF, rMet, rMetX, rMake, rBy, Y.rIsE, rCallX, rRaise, rTryAs, rTryOnly, rGd, q_fld, q_sfld, q_met, q_isntB, iEnX, iEn4, e4_t, e4_s, e4_k, e4_r, v_t, v_s, q_lset, q_remD, rNv, a_i, a_s, a_t, a_r, a_k, m_T, m_F, v_r, v_k, lg_r, lg_k, t_t, t_r, t_k, l_t, l_r, l_k, s_t, s_s, s_r, s_k, o_1, j_1, y_1, y_2, y_3, z_tt, z_r, z_k, e_1, k_ii, k_ss, k_bb, k_nn, k_tt, k_r, k_k, n_t, n_r, n_k, u_ii, u_si, lj_1, rLstF, rLcF, rFz, rSlM, iZp3, iEn3, eqvAll_nil, pds_emp, iAny, sq_k, sq_r, ls_t, or_false, false_or, fz_r, fz_k, fz_t, fz_n, fz_b, fz_s, q_lstK, q_truK, t_kl, q_isiK, iRevY, rv_r, rv_k, rv_t, rAug, q_i2K, q_j2K, q_srtB, at_2, at_3, q_strF, rPar3, g_03a, g_03b, g_03c, g_03d, g_03e, g_03f, rLam, rAsk, rCallXK, q_ext3, q_ext3T, q_ext3K, rDc, rDNew, gDk, rLock, rLockE, iKys, iVls, iIts, k_inS, k_inI, k_getS, k_getI, k_setS, k_setI, rMetK, rMakeK, q_srtTx, k_srt, k_len, k_keys, k_vals, k_items]
      exact fin _ _ (fun z => absurd z hz) n5
  by_cases c3 : way = 3
  · subst c3
    (try dsimp only); (repeat (first | rw [rSeq_eq] | simp -implicitDefEqProofs only [rVar, rC, rBin, rUn, rTst, rChn, rTru, rAnd, rOr, rNot, rAndV, rOrV, rNotV, rIf, rNil, rCons, rTup, rLst, rFn, rCall, rCallK, rSl, rPrt, rNoP, rMt, gNm, q_gN, q_gC, q_gTp, gSb, rNext, rDrop, rRet, rRetN, rBrk, rCnt, rIfS, rSet, rPar, rFor, iSeq, iLst, iRg1, iRg2, iZp, iEn, iStrD, rLc, rYes, q_isi2, q_i2N, q_i2B, q_i2I, q_i2S, q_i2T, q_i2L, q_j2N, q_j2B, q_j2I, q_j2S, q_j2T, q_j2L, q_gt2, q_gtT, q_en, q_int2, q_strD, q_rev, q_ixo, q_ext2, q_extT, q_in, q_ins, q_pop, q_any, En.x, wipeD, start', List.getElem?_cons_zero, List.getElem?_cons_succ, List.set_cons_zero, List.set_cons_succ, List.map_cons, List.map_nil, List.length_cons, List.length_nil, List.cons_append, List.nil_append, List.replicate_succ, List.replicate_zero, id, q_asB, q_asI, q_add, q_addS, q_addT, q_addL, q_int, q_sub, q_mul, q_fdiv, q_mod, q_pow, q_neg, q_le, q_ge, q_gt, q_lt, q_ltT, q_isN, q_isB, q_isBi, q_isBs, q_isBn, q_isBt, q_isnt, n_non, n_bl, n_int, n_str, n_tup, n_ref, q_eq, q_eqS, q_eqB, q_ixT, q_ixK, q_ixL, q_ixS, q_slT, q_slL, q_slS, q_set, q_lenT, q_lenK, q_lenS, q_lenL, q_abs, q_intF, q_max, q_min, q_tupT, q_tupL, q_lstT, q_lstL, q_app, q_ext, q_joinL, q_stw, q_seq, q_lst, q_rng, q_rng2, q_zpT, q_zpL, q_truN, q_truB, q_truI, q_truT, q_truL, t_non, t_bl, t_int, t_str, t_tup, q_isiN, q_isiB, q_isiI, q_isiS, q_isiT, i_NoneType_int, i_NoneType_bool, i_NoneType_tuple, i_NoneType_list, i_NoneType_str, i_bool_int, i_bool_bool, i_bool_tuple, i_bool_list, i_bool_str, i_int_int, i_int_bool, i_int_tuple, i_int_list, i_int_str, i_str_int, i_str_bool, i_str_tuple, i_str_list, i_str_str, i_tuple_int, i_tuple_bool, i_tuple_tuple, i_tuple_list, i_tuple_str, i_list_int, i_list_bool, i_list_tuple, i_list_list, i_list_str, i_dict_int, i_dict_bool, i_dict_tuple, i_dict_list, i_dict_str, up_same, g_02, g_02', g_01, g_11, at_0, at_1, ix_0, ix_1, Option.some.injEq, HQ.lst.injEq, exists_eq_left', exists_eq_left, exists_and_left, exists_eq', exists_eq, decide_eq_true_eq, if_true, if_false, ite_true, ite_false, Bool.false_eq_true, reduceIte, reduceCtorEq, Bool.not_true, Bool.not_false, Nat.zero_add, Nat.reduceAdd, Nat.reduceSub, Nat.reduceLeDiff, Nat.reduceLT, Int.reduceLT, Int.reduceLE, Int.reduceEq, Int.reduceNe, Nat.reduceEqDiff, Int.reduceToNat, Int.reducePow, Int.reduceMul, Int.reduceAdd, Int.reduceSub, Int.reduceNeg, and_true, true_and, decide_true, decide_false, rFld, rSetF, rMet, rMetX, rMake, rBy, Y.rIsE, rCallX, rRaise, rTryAs, rTryOnly, rGd, q_fld, q_sfld, q_met, q_isntB, iEnX, iEn4, e4_t, e4_s, e4_k, e4_r, v_t, v_s, q_lset, q_remD, rNv, a_i, a_s, a_t, a_r, a_k, m_T, m_F, v_r, v_k, lg_r, lg_k, t_t, t_r, t_k, l_t, l_r, l_k, s_t, s_s, s_r, s_k, o_1, j_1, y_1, y_2, y_3, z_tt, z_r, z_k, e_1, k_ii, k_ss, k_bb, k_nn, k_tt, k_r, k_k, n_t, n_r, n_k, u_ii, u_si, lj_1, rLstF, rLcF, rFz, rSlM, iZp3, iEn3, eqvAll_nil, pds_emp, iAny, sq_k, sq_r, ls_t, or_false, false_or, fz_r, fz_k, fz_t, fz_n, fz_b, fz_s, q_lstK, q_truK, t_kl, q_isiK, iRevY, rv_r, rv_k, rv_t, rAug, q_i2K, q_j2K, q_srtB, at_2, at_3, q_strF, rPar3, g_03a, g_03b, g_03c, g_03d, g_03e, g_03f, rLam, rAsk, rCallXK, q_ext3, q_ext3T, q_ext3K, rDc, rDNew, gDk, rLock, rLockE, iKys, iVls, iIts, k_inS, k_inI, k_getS, k_getI, k_setS, k_setI, rMetK, rMakeK, q_srtTx, k_srt, k_len, k_keys, k_vals, k_items]))
    refine ⟨_, hc2, _, hc2, take_of n2.bx (by decide) (by decide) fun z S3 z0 z1 n3 => ?_⟩
    exact cut (by rw [List.length_map]; omega) (by rw [List.length_map]; omega) z0 z1 n3
  by_cases c4 : way = 4
  · subst c4
    (try dsimp only); (repeat (first | rw [rSeq_eq] | simp -implicitDefEqProofs only [rVar, rC, rBin, rUn, rTst, rChn, rTru, rAnd, rOr, rNot, rAndV, rOrV, rNotV, rIf, rNil, rCons, rTup, rLst, rFn, rCall, rCallK, rSl, rPrt, rNoP, rMt, gNm, q_gN, q_gC, q_gTp, gSb, rNext, rDrop, rRet, rRetN, rBrk, rCnt, rIfS, rSet, rPar, rFor, iSeq, iLst, iRg1, iRg2, iZp, iEn, iStrD, rLc, rYes, q_isi2, q_i2N, q_i2B, q_i2I, q_i2S, q_i2T, q_i2L, q_j2N, q_j2B, q_j2I, q_j2S, q_j2T, q_j2L, q_gt2, q_gtT, q_en, q_int2, q_strD, q_rev, q_ixo, q_ext2, q_extT, q_in, q_ins, q_pop, q_any, En.x, wipeD, start', List.getElem?_cons_zero, List.getElem?_cons_succ, List.set_cons_zero, List.set_cons_succ, List.map_cons, List.map_nil, List.length_cons, List.length_nil, List.cons_append, List.nil_append, List.replicate_succ, List.replicate_zero, id, q_asB, q_asI, q_add, q_addS, q_addT, q_addL, q_int, q_sub, q_mul, q_fdiv, q_mod, q_pow, q_neg, q_le, q_ge, q_gt, q_lt, q_ltT, q_isN, q_isB, q_isBi, q_isBs, q_isBn, q_isBt, q_isnt, n_non, n_bl, n_int, n_str, n_tup, n_ref, q_eq, q_eqS, q_eqB, q_ixT, q_ixK, q_ixL, q_ixS, q_slT, q_slL, q_slS, q_set, q_lenT, q_lenK, q_lenS, q_lenL, q_abs, q_intF, q_max, q_min, q_tupT, q_tupL, q_lstT, q_lstL, q_app, q_ext, q_joinL, q_stw, q_seq, q_lst, q_rng, q_rng2, q_zpT, q_zpL, q_truN, q_truB, q_truI, q_truT, q_truL, t_non, t_bl, t_int, t_str, t_tup, q_isiN, q_isiB, q_isiI, q_isiS, q_isiT, i_NoneType_int, i_NoneType_bool, i_NoneType_tuple, i_NoneType_list, i_NoneType_str, i_bool_int, i_bool_bool, i_bool_tuple, i_bool_list, i_bool_str, i_int_int, i_int_bool, i_int_tuple, i_int_list, i_int_str, i_str_int, i_str_bool, i_str_tuple, i_str_list, i_str_str, i_tuple_int, i_tuple_bool, i_tuple_tuple, i_tuple_list, i_tuple_str, i_list_int, i_list_bool, i_list_tuple, i_list_list, i_list_str, i_dict_int, i_dict_bool, i_dict_tuple, i_dict_list, i_dict_str, up_same, g_02, g_02', g_01, g_11, at_0, at_1, ix_0, ix_1, Option.some.injEq, HQ.lst.injEq, exists_eq_left', exists_eq_left, exists_and_left, exists_eq', exists_eq, decide_eq_true_eq, if_true, if_false, ite_true, ite_false, Bool.false_eq_true, reduceIte, reduceCtorEq, Bool.not_true, Bool.not_false, Nat.zero_add, Nat.reduceAdd, Nat.reduceSub, Nat.reduceLeDiff, Nat.reduceLT, Int.reduceLT, Int.reduceLE, Int.reduceEq, Int.reduceNe, Nat.reduceEqDiff, Int.reduceToNat, Int.reducePow, Int.reduceMul, Int.reduceAdd, Int.reduceSub, Int.reduceNeg, and_true, true_and, decide_true, decide_false, rFld, rSetF, rMet, rMetX, rMake, rBy, Y.rIsE, rCallX, rRaise, rTryAs, rTryOnly, rGd, q_fld, q_sfld, q_met, q_isntB, iEnX, iEn4, e4_t, e4_s, e4_k, e4_r, v_t, v_s, q_lset, q_remD, rNv, a_i, a_s, a_t, a_r, a_k, m_T, m_F, v_r, v_k, lg_r, lg_k, t_t, t_r, t_k, l_t, l_r, l_k, s_t, s_s, s_r, s_k, o_1, j_1, y_1, y_2, y_3, z_tt, z_r, z_k, e_1, k_ii, k_ss, k_bb, k_nn, k_tt, k_r, k_k, n_t, n_r, n_k, u_ii, u_si, lj_1, rLstF, rLcF, rFz, rSlM, iZp3, iEn3, eqvAll_nil, pds_emp, iAny, sq_k, sq_r, ls_t, or_false, false_or, fz_r, fz_k, fz_t, fz_n, fz_b, fz_s, q_lstK, q_truK, t_kl, q_isiK, iRevY, rv_r, rv_k, rv_t, rAug, q_i2K, q_j2K, q_srtB, at_2, at_3, q_strF, rPar3, g_03a, g_03b, g_03c, g_03d, g_03e, g_03f, rLam, rAsk, rCallXK, q_ext3, q_ext3T, q_ext3K, rDc, rDNew, gDk, rLock, rLockE, iKys, iVls, iIts, k_inS, k_inI, k_getS, k_getI, k_setS, k_setI, rMetK, rMakeK, q_srtTx, k_srt, k_len, k_keys, k_vals, k_items]))
    refine ⟨_, hc2, take_of n2.bx (by rw [List.length_map]; omega) (by rw [List.length_map]; omega) fun r S3 hr0 hr1 n3 => ?_⟩
    rw [List.length_map] at hr1
    simp -implicitDefEqProofs only [rVar, rC, rBin, rUn, rTst, rChn, rTru, rAnd, rOr, rNot, rAndV, rOrV, rNotV, rIf, rNil, rCons, rTup, rLst, rFn, rCall, rCallK, rSl, rPrt, rNoP, rMt, gNm, q_gN, q_gC, q_gTp, gSb, rNext, rDrop, rRet, rRetN, rBrk, rCnt, rIfS, rSet, rPar, rFor, iSeq, iLst, iRg1, iRg2, iZp, iEn, iStrD, rLc, rYes, q_isi2, q_i2N, q_i2B, q_i2I, q_i2S, q_i2T, q_i2L, q_j2N, q_j2B, q_j2I, q_j2S, q_j2T, q_j2L, q_gt2, q_gtT, q_en, q_int2, q_strD, q_rev, q_ixo, q_ext2, q_extT, q_in, q_ins, q_pop, q_any, En.x, wipeD, start', List.getElem?_cons_zero, List.getElem?_cons_succ, List.set_cons_zero, List.set_cons_succ, List.map_cons, List.map_nil, List.length_cons, List.length_nil, List.cons_append, List.nil_append, List.replicate_succ, List.replicate_zero, id, q_asB, q_asI, q_add, q_addS, q_addT, q_addL, q_int, q_sub, q_mul, q_fdiv, q_mod, q_pow, q_neg, q_le, q_ge, q_gt, q_lt, q_ltT, q_isN, q_isB, q_isBi, q_isBs, q_isBn, q_isBt, q_isnt, n_non, n_bl, n_int, n_str, n_tup, n_ref, q_eq, q_eqS, q_eqB, q_ixT, q_ixK, q_ixL, q_ixS, q_slT, q_slL, q_slS, q_set, q_lenT, q_lenK, q_lenS, q_lenL, q_abs, q_intF, q_max, q_min, q_tupT, q_tupL, q_lstT, q_lstL, q_app, q_ext, q_joinL, q_stw, q_seq, q_lst, q_rng, q_rng2, q_zpT, q_zpL, q_truN, q_truB, q_truI, q_truT, q_truL, t_non, t_bl, t_int, t_str, t_tup, q_isiN, q_isiB, q_isiI, q_isiS, q_isiT, i_NoneType_int, i_NoneType_bool, i_NoneType_tuple, i_NoneType_list, i_NoneType_str, i_bool_int, i_bool_bool, i_bool_tuple, i_bool_list, i_bool_str, i_int_int, i_int_bool, i_int_tuple, i_int_list, i_int_str, i_str_int, i_str_bool, i_str_tuple, i_str_list, i_str_str, i_tuple_int, i_tuple_bool, i_tuple_tuple, i_tuple_list, i_tuple_str, i_list_int, i_list_bool, i_list_tuple, i_list_list, i_list_str, i_dict_int, i_dict_bool, i_dict_tuple, i_dict_list, i_dict_str, up_same, g_02, g_02', g_01, g_11, at_0, at_1, ix_0, ix_1, Option.some.injEq, HQ.lst.injEq, exists_eq_left', exists_eq_left, exists_and_left, exists_eq', exists_eq, decide_eq_true_eq, if_true, if_false, ite_true, ite_false, Bool.false_eq_true, reduceIte, reduceCtorEq, Bool.not_true, Bool.not_false, Nat.zero_add, Nat.reduceAdd, Nat.reduceSub, Nat.reduceLeDiff, Nat.reduceLT, Int.reduceLT, Int.reduceLE, Int.reduceEq, Int.reduceNe, Nat.reduceEqDiff, Int.reduceToNat, Int.reducePow, Int.reduceMul, Int.reduceAdd, Int.reduceSub, Int.reduceNeg, and_true, true_and, decide_true, decide_false, rFld, rSetF, rMet, rMetX, rMake, rBy, Y.rIsE, rCallX, rRaise, rTryAs, rTryOnly, rGd, q_fld, q_sfld, q_met, q_isntB, iEnX, iEn4, e4_t, e4_s, e4_k, e4_r, v_t, v_s, q_lset, q_remD, rNv, a_i, a_s, a_t, a_r, a_k, m_T, m_F, v_r, v_k, lg_r, lg_k, t_t, t_r, t_k, l_t, l_r, l_k, s_t, s_s, s_r, s_k, o_1, j_1, y_1, y_2, y_3, z_tt, z_r, z_k, e_1, k_ii, k_ss, k_bb, k_nn, k_tt, k_r, k_k, n_t, n_r, n_k, u_ii, u_si, lj_1, rLstF, rLcF, rFz, rSlM, iZp3, iEn3, eqvAll_nil, pds_emp, iAny, sq_k, sq_r, ls_t, or_false, false_or, fz_r, fz_k, fz_t, fz_n, fz_b, fz_s, q_lstK, q_truK, t_kl, q_isiK, iRevY, rv_r, rv_k, rv_t, rAug, q_i2K, q_j2K, q_srtB, at_2, at_3, q_strF, rPar3, g_03a, g_03b, g_03c, g_03d, g_03e, g_03f, rLam, rAsk, rCallXK, q_ext3, q_ext3T, q_ext3K, rDc, rDNew, gDk, rLock, rLockE, iKys, iVls, iIts, k_inS, k_inI, k_getS, k_getI, k_setS, k_setI, rMetK, rMakeK, q_srtTx, k_srt, k_len, k_keys, k_vals, k_items]
    refine ⟨_, n3.get hcb hc2, take_of n3.bx (by decide) (by decide) fun z S4 z0 z1 n4 => ?_⟩
    exact cut (by omega) (by omega) z0 z1 (n3.trans n4)
  simp only [c0, c1, c2, c3, c4, rVar, rC, rBin, rUn, rTst, rChn, rTru, rAnd, rOr, rNot, rAndV, rOrV, rNotV, rIf, rNil, rCons, rTup, rLst, rFn, rCall, rCallK, rSl, rPrt, rNoP, rMt, gNm, q_gN, q_gC, q_gTp, gSb, rNext, rSeq, rDrop, rRet, rRetN, rBrk, rCnt, rIfS, rSet, rPar, rFor, iSeq, iLst, iRg1, iRg2, iZp, iEn, iStrD, rLc, rYes, q_isi2, q_i2N, q_i2B, q_i2I, q_i2S, q_i2T, q_i2L, q_j2N, q_j2B, q_j2I, q_j2S, q_j2T, q_j2L, q_gt2, q_gtT, q_en, q_int2, q_strD, q_rev, q_ixo, q_ext2, q_extT, q_in, q_ins, q_pop, q_any, En.x, wipeD, start', List.getElem?_cons_zero, List.getElem?_cons_succ, List.set_cons_zero, List.set_cons_succ, List.map_cons, List.map_nil, List.length_cons, List.length_nil, List.cons_append, List.nil_append, List.replicate_succ, List.replicate_zero, id, q_asB, q_asI, q_add, q_addS, q_addT, q_addL, q_int, q_sub, q_mul, q_fdiv, q_mod, q_pow, q_neg, q_le, q_ge, q_gt, q_lt, q_ltT, q_isN, q_isB, q_isBi, q_isBs, q_isBn, q_isBt, q_isnt, n_non, n_bl, n_int, n_str, n_tup, n_ref, q_eq, q_eqS, q_eqB, q_ixT, q_ixK, q_ixL, q_ixS, q_slT, q_slL, q_slS, q_set, q_lenT, q_lenK, q_lenS, q_lenL, q_abs, q_intF, q_max, q_min, q_tupT, q_tupL, q_lstT, q_lstL, q_app, q_ext, q_joinL, q_stw, q_seq, q_lst, q_rng, q_rng2, q_zpT, q_zpL, q_truN, q_truB, q_truI, q_truT, q_truL, t_non, t_bl, t_int, t_str, t_tup, q_isiN, q_isiB, q_isiI, q_isiS, q_isiT, i_NoneType_int, i_NoneType_bool, i_NoneType_tuple, i_NoneType_list, i_NoneType_str, i_bool_int, i_bool_bool, i_bool_tuple, i_bool_list, i_bool_str, i_int_int, i_int_bool, i_int_tuple, i_int_list, i_int_str, i_str_int, i_str_bool, i_str_tuple, i_str_list, i_str_str, i_tuple_int, i_tuple_bool, i_tuple_tuple, i_tuple_list, i_tuple_str, i_list_int, i_list_bool, i_list_tuple, i_list_list, i_list_str, i_dict_int, i_dict_bool, i_dict_tuple, i_dict_list, i_dict_str, up_same, g_02, g_02', g_01, g_11, at_0, at_1, ix_0, ix_1, Option.some.injEq, HQ.lst.injEq, exists_eq_left', exists_eq_left, exists_and_left, exists_eq', exists_eq, decide_eq_true_eq, if_true, if_false, ite_true, ite_false, Bool.false_eq_true, reduceIte, reduceCtorEq, Bool.not_true, Bool.not_false, Nat.zero_add, Nat.reduceAdd, Nat.reduceSub, Nat.reduceLeDiff, Nat.reduceLT, Int.reduceLT, Int.reduceLE, Int.reduceEq, Int.reduceNe, Nat.reduceEqDiff, Int.reduceToNat, Int.reducePow, Int.reduceMul, Int.reduceAdd, Int.reduceSub, Int.reduceNeg, and_true, true_and, decide_true, decide_false, rFld, rSetF, rMet, rMetX, rMake, rBy, Y.rIsE, rCallX, rRaise, rTryAs, rTryOnly, rGd, q_fld, q_sfld, q_met, q_isntB, iEnX, iEn4, e4_t, e4_s, e4_k, e4_r, v_t, v_s, q_lset, q_remD, rNv, a_i, a_s, a_t, a_r, a_k, m_T, m_F, v_r, v_k, lg_r, lg_k, t_t, t_r, t_k, l_t, l_r, l_k, s_t, s_s, s_r, s_k, o_1, j_1, y_1, y_2, y_3, z_tt, z_r, z_k, e_1, k_ii, k_ss, k_bb, k_nn, k_tt, k_r, k_k, n_t, n_r, n_k, u_ii, u_si, lj_1, rLstF, rLcF, rFz, rSlM, iZp3, iEn3, eqvAll_nil, pds_emp, iAny, sq_k, sq_r, ls_t, or_false, false_or, fz_r, fz_k, fz_t, fz_n, fz_b, fz_s, q_lstK, q_truK, t_kl, q_isiK, iRevY, rv_r, rv_k, rv_t, rAug, q_i2K, q_j2K, q_srtB, at_2, at_3, q_strF, rPar3, g_03a, g_03b, g_03c, g_03d, g_03e, g_03f, rLam, rAsk, rCallXK, q_ext3, q_ext3T, q_ext3K, rDc, rDNew, gDk, rLock, rLockE, iKys, iVls, iIts, k_inS, k_inI, k_getS, k_getI, k_setS, k_setI, rMetK, rMakeK, q_srtTx, k_srt, k_len, k_keys, k_vals, k_items]
  exact figure_of n2.bx fun ms S' hm n3 => k _ _ hm (n2.trans n3)
end K01
namespace K01
open PySem PySem.Spec PyProof.Rows L2 Y
theorem pu_is_below : ∀ ds S Q, sp_is_below ds S Q NoX → rd_is_below { nx := fun _ S => Q .non S, rt := Q } (start' 2 ds) S := by
  rintro _ S Q ⟨a, b, rfl, k⟩
  unfold rd_is_below
  cases a with
  | none => simp -implicitDefEqProofs only [rVar, rC, rBin, rUn, rTst, rChn, rTru, rAnd, rOr, rNot, rAndV, rOrV, rNotV, rIf, rNil, rCons, rTup, rLst, rFn, rCall, rCallK, rSl, rPrt, rNoP, rMt, gNm, q_gN, q_gC, q_gTp, gSb, rNext, rSeq, rDrop, rRet, rRetN, rBrk, rCnt, rIfS, rSet, rPar, rFor, iSeq, iLst, iRg1, iRg2, iZp, iEn, iStrD, rLc, rYes, q_isi2, q_i2N, q_i2B, q_i2I, q_i2S, q_i2T, q_i2L, q_j2N, q_j2B, q_j2I, q_j2S, q_j2T, q_j2L, q_gt2, q_gtT, q_en, q_int2, q_strD, q_rev, q_ixo, q_ext2, q_extT, q_in, q_ins, q_pop, q_any, En.x, wipeD, start', List.getElem?_cons_zero, List.getElem?_cons_succ, List.set_cons_zero, List.set_cons_succ, List.map_cons, List.map_nil, List.length_cons, List.length_nil, List.cons_append, List.nil_append, List.replicate_succ, List.replicate_zero, id, q_asB, q_asI, q_add, q_addS, q_addT, q_addL, q_int, q_sub, q_mul, q_fdiv, q_mod, q_pow, q_neg, q_le, q_ge, q_gt, q_lt, q_ltT, q_isN, q_isB, q_isBi, q_isBs, q_isBn, q_isBt, q_isnt, n_non, n_bl, n_int, n_str, n_tup, n_ref, q_eq, q_eqS, q_eqB, q_ixT, q_ixK, q_ixL, q_ixS, q_slT, q_slL, q_slS, q_set, q_lenT, q_lenK, q_lenS, q_lenL, q_abs, q_intF, q_max, q_min, q_tupT, q_tupL, q_lstT, q_lstL, q_app, q_ext, q_joinL, q_stw, q_seq, q_lst, q_rng, q_rng2, q_zpT, q_zpL, q_truN, q_truB, q_truI, q_truT, q_truL, t_non, t_bl, t_int, t_str, t_tup, q_isiN, q_isiB, q_isiI, q_isiS, q_isiT, i_NoneType_int, i_NoneType_bool, i_NoneType_tuple, i_NoneType_list, i_NoneType_str, i_bool_int, i_bool_bool, i_bool_tuple, i_bool_list, i_bool_str, i_int_int, i_int_bool, i_int_tuple, i_int_list, i_int_str, i_str_int, i_str_bool, i_str_tuple, i_str_list, i_str_str, i_tuple_int, i_tuple_bool, i_tuple_tuple, i_tuple_list, i_tuple_str, i_list_int, i_list_bool, i_list_tuple, i_list_list, i_list_str, i_dict_int, i_dict_bool, i_dict_tuple, i_dict_list, i_dict_str, up_same, g_02, g_02', g_01, g_11, at_0, at_1, ix_0, ix_1, Option.some.injEq, HQ.lst.injEq, exists_eq_left', exists_eq_left, exists_and_left, exists_eq', exists_eq, decide_eq_true_eq, if_true, if_false, ite_true, ite_false, Bool.false_eq_true, reduceIte, reduceCtorEq, Bool.not_true, Bool.not_false, Nat.zero_add, Nat.reduceAdd, Nat.reduceSub, Nat.reduceLeDiff, Nat.reduceLT, Int.reduceLT, Int.reduceLE, Int.reduceEq, Int.reduceNe, Nat.reduceEqDiff, Int.reduceToNat, Int.reducePow, Int.reduceMul, Int.reduceAdd, Int.reduceSub, Int.reduceNeg, and_true, true_and, decide_true, decide_false, rFld, rSetF, rMet, rMetX, rMake, rBy, Y.rIsE, rCallX, rRaise, rTryAs, rTryOnly, rGd, q_fld, q_sfld, q_met, q_isntB, iEnX, iEn4, e4_t, e4_s, e4_k, e4_r, v_t, v_s, q_lset, q_remD, rNv, a_i, a_s, a_t, a_r, a_k, m_T, m_F, v_r, v_k, lg_r, lg_k, t_t, t_r, t_k, l_t, l_r, l_k, s_t, s_s, s_r, s_k, o_1, j_1, y_1, y_2, y_3, z_tt, z_r, z_k, e_1, k_ii, k_ss, k_bb, k_nn, k_tt, k_r, k_k, n_t, n_r, n_k, u_ii, u_si, lj_1, rLstF, rLcF, rFz, rSlM, iZp3, iEn3, eqvAll_nil, pds_emp, iAny, sq_k, sq_r, ls_t, or_false, false_or, fz_r, fz_k, fz_t, fz_n, fz_b, fz_s, q_lstK, q_truK, t_kl, q_isiK, iRevY, rv_r, rv_k, rv_t, rAug, q_i2K, q_j2K, q_srtB, at_2, at_3, q_strF, rPar3, g_03a, g_03b, g_03c, g_03d, g_03e, g_03f, rLam, rAsk, rCallXK, q_ext3, q_ext3T, q_ext3K, rDc, rDNew, gDk, rLock, rLockE, iKys, iVls, iIts, k_inS, k_inI, k_getS, k_getI, k_setS, k_setI, rMetK, rMakeK, q_srtTx, k_srt, k_len, k_keys, k_vals, k_items, ofO]; exact k
  | some a =>
    cases b with
    | none => simp -implicitDefEqProofs only [rVar, rC, rBin, rUn, rTst, rChn, rTru, rAnd, rOr, rNot, rAndV, rOrV, rNotV, rIf, rNil, rCons, rTup, rLst, rFn, rCall, rCallK, rSl, rPrt, rNoP, rMt, gNm, q_gN, q_gC, q_gTp, gSb, rNext, rSeq, rDrop, rRet, rRetN, rBrk, rCnt, rIfS, rSet, rPar, rFor, iSeq, iLst, iRg1, iRg2, iZp, iEn, iStrD, rLc, rYes, q_isi2, q_i2N, q_i2B, q_i2I, q_i2S, q_i2T, q_i2L, q_j2N, q_j2B, q_j2I, q_j2S, q_j2T, q_j2L, q_gt2, q_gtT, q_en, q_int2, q_strD, q_rev, q_ixo, q_ext2, q_extT, q_in, q_ins, q_pop, q_any, En.x, wipeD, start', List.getElem?_cons_zero, List.getElem?_cons_succ, List.set_cons_zero, List.set_cons_succ, List.map_cons, List.map_nil, List.length_cons, List.length_nil, List.cons_append, List.nil_append, List.replicate_succ, List.replicate_zero, id, q_asB, q_asI, q_add, q_addS, q_addT, q_addL, q_int, q_sub, q_mul, q_fdiv, q_mod, q_pow, q_neg, q_le, q_ge, q_gt, q_lt, q_ltT, q_isN, q_isB, q_isBi, q_isBs, q_isBn, q_isBt, q_isnt, n_non, n_bl, n_int, n_str, n_tup, n_ref, q_eq, q_eqS, q_eqB, q_ixT, q_ixK, q_ixL, q_ixS, q_slT, q_slL, q_slS, q_set, q_lenT, q_lenK, q_lenS, q_lenL, q_abs, q_intF, q_max, q_min, q_tupT, q_tupL, q_lstT, q_lstL, q_app, q_ext, q_joinL, q_stw, q_seq, q_lst, q_rng, q_rng2, q_zpT, q_zpL, q_truN, q_truB, q_truI, q_truT, q_truL, t_non, t_bl, t_int, t_str, t_tup, q_isiN, q_isiB, q_isiI, q_isiS, q_isiT, i_NoneType_int, i_NoneType_bool, i_NoneType_tuple, i_NoneType_list, i_NoneType_str, i_bool_int, i_bool_bool, i_bool_tuple, i_bool_list, i_bool_str, i_int_int, i_int_bool, i_int_tuple, i_int_list, i_int_str, i_str_int, i_str_bool, i_str_tuple, i_str_list, i_str_str, i_tuple_int, i_tuple_bool, i_tuple_tuple, i_tuple_list, i_tuple_str, i_list_int, i_list_bool, i_list_tuple, i_list_list, i_list_str, i_dict_int, i_dict_bool, i_dict_tuple, i_dict_list, i_dict_str, up_same, g_02, g_02', g_01, g_11, at_0, at_1, ix_0, ix_1, Option.some.injEq, HQ.lst.injEq, exists_eq_left', exists_eq_left, exists_and_left, exists_eq', exists_eq, decide_eq_true_eq, if_true, if_false, ite_true, ite_false, Bool.false_eq_true, reduceIte, reduceCtorEq, Bool.not_true, Bool.not_false, Nat.zero_add, Nat.reduceAdd, Nat.reduceSub, Nat.reduceLeDiff, Nat.reduceLT, Int.reduceLT, Int.reduceLE, Int.reduceEq, Int.reduceNe, Nat.reduceEqDiff, Int.reduceToNat, Int.reducePow, Int.reduceMul, Int.reduceAdd, Int.reduceSub, Int.reduceNeg, and_true, true_and, decide_true, decide_false, rFld, rSetF, rMet, rMetX, rMake, rBy, Y.rIsE, rCallX, rRaise, rTryAs, rTryOnly, rGd, q_fld, q_sfld, q_met, q_isntB, iEnX, iEn4, e4_t, e4_s, e4_k, e4_r, v_t, v_s, q_lset, q_remD, rNv, a_i, a_s, a_t, a_r, a_k, m_T, m_F, v_r, v_k, lg_r, lg_k, t_t, t_r, t_k, l_t, l_r, l_k, s_t, s_s, s_r, s_k, o_1, j_1, y_1, y_2, y_3, z_tt, z_r, z_k, e_1, k_ii, k_ss, k_bb, k_nn, k_tt, k_r, k_k, n_t, n_r, n_k, u_ii, u_si, lj_1, rLstF, rLcF, rFz, rSlM, iZp3, iEn3, eqvAll_nil, pds_emp, iAny, sq_k, sq_r, ls_t, or_false, false_or, fz_r, fz_k, fz_t, fz_n, fz_b, fz_s, q_lstK, q_truK, t_kl, q_isiK, iRevY, rv_r, rv_k, rv_t, rAug, q_i2K, q_j2K, q_srtB, at_2, at_3, q_strF, rPar3, g_03a, g_03b, g_03c, g_03d, g_03e, g_03f, rLam, rAsk, rCallXK, q_ext3, q_ext3T, q_ext3K, rDc, rDNew, gDk, rLock, rLockE, iKys, iVls, iIts, k_inS, k_inI, k_getS, k_getI, k_setS, k_setI, rMetK, rMakeK, q_srtTx, k_srt, k_len, k_keys, k_vals, k_items, ofO]; exact k
    | some b => simp -implicitDefEqProofs only [rVar, rC, rBin, rUn, rTst, rChn, rTru, rAnd, rOr, rNot, rAndV, rOrV, rNotV, rIf, rNil, rCons, rTup, rLst, rFn, rCall, rCallK, rSl, rPrt, rNoP, rMt, gNm, q_gN, q_gC, q_gTp, gSb, rNext, rSeq, rDrop, rRet, rRetN, rBrk, rCnt, rIfS, rSet, rPar, rFor, iSeq, iLst, iRg1, iRg2, iZp, iEn, iStrD, rLc, rYes, q_isi2, q_i2N, q_i2B, q_i2I, q_i2S, q_i2T, q_i2L, q_j2N, q_j2B, q_j2I, q_j2S, q_j2T, q_j2L, q_gt2, q_gtT, q_en, q_int2, q_strD, q_rev, q_ixo, q_ext2, q_extT, q_in, q_ins, q_pop, q_any, En.x, wipeD, start', List.getElem?_cons_zero, List.getElem?_cons_succ, List.set_cons_zero, List.set_cons_succ, List.map_cons, List.map_nil, List.length_cons, List.length_nil, List.cons_append, List.nil_append, List.replicate_succ, List.replicate_zero, id, q_asB, q_asI, q_add, q_addS, q_addT, q_addL, q_int, q_sub, q_mul, q_fdiv, q_mod, q_pow, q_neg, q_le, q_ge, q_gt, q_lt, q_ltT, q_isN, q_isB, q_isBi, q_isBs, q_isBn, q_isBt, q_isnt, n_non, n_bl, n_int, n_str, n_tup, n_ref, q_eq, q_eqS, q_eqB, q_ixT, q_ixK, q_ixL, q_ixS, q_slT, q_slL, q_slS, q_set, q_lenT, q_lenK, q_lenS, q_lenL, q_abs, q_intF, q_max, q_min, q_tupT, q_tupL, q_lstT, q_lstL, q_app, q_ext, q_joinL, q_stw, q_seq, q_lst, q_rng, q_rng2, q_zpT, q_zpL, q_truN, q_truB, q_truI, q_truT, q_truL, t_non, t_bl, t_int, t_str, t_tup, q_isiN, q_isiB, q_isiI, q_isiS, q_isiT, i_NoneType_int, i_NoneType_bool, i_NoneType_tuple, i_NoneType_list, i_NoneType_str, i_bool_int, i_bool_bool, i_bool_tuple, i_bool_list, i_bool_str, i_int_int, i_int_bool, i_int_tuple, i_int_list, i_int_str, i_str_int, i_str_bool, i_str_tuple, i_str_list, i_str_str, i_tuple_int, i_tuple_bool, i_tuple_tuple, i_tuple_list, i_tuple_str, i_list_int, i_list_bool, i_list_tuple, i_list_list, i_list_str, i_dict_int, i_dict_bool, i_dict_tuple, i_dict_list, i_dict_str, up_same, g_02, g_02', g_01, g_11, at_0, at_1, ix_0, ix_1, Option.some.injEq, HQ.lst.injEq, exists_eq_left', exists_eq_left, exists_and_left, exists_eq', exists_eq, decide_eq_true_eq, if_true, if_false, ite_true, ite_false, Bool.false_eq_true, reduceIte, reduceCtorEq, Bool.not_true, Bool.not_false, Nat.zero_add, Nat.reduceAdd, Nat.reduceSub, Nat.reduceLeDiff, Nat.reduceLT, Int.reduceLT, Int.reduceLE, Int.reduceEq, Int.reduceNe, Nat.reduceEqDiff, Int.reduceToNat, Int.reducePow, Int.reduceMul, Int.reduceAdd, Int.reduceSub, Int.reduceNeg, and_true, true_and, decide_true, decide_false, rFld, rSetF, rMet, rMetX, rMake, rBy, Y.rIsE, rCallX, rRaise, rTryAs, rTryOnly, rGd, q_fld, q_sfld, q_met, q_isntB, iEnX, iEn4, e4_t, e4_s, e4_k, e4_r, v_t, v_s, q_lset, q_remD, rNv, a_i, a_s, a_t, a_r, a_k, m_T, m_F, v_r, v_k, lg_r, lg_k, t_t, t_r, t_k, l_t, l_r, l_k, s_t, s_s, s_r, s_k, o_1, j_1, y_1, y_2, y_3, z_tt, z_r, z_k, e_1, k_ii, k_ss, k_bb, k_nn, k_tt, k_r, k_k, n_t, n_r, n_k, u_ii, u_si, lj_1, rLstF, rLcF, rFz, rSlM, iZp3, iEn3, eqvAll_nil, pds_emp, iAny, sq_k, sq_r, ls_t, or_false, false_or, fz_r, fz_k, fz_t, fz_n, fz_b, fz_s, q_lstK, q_truK, t_kl, q_isiK, iRevY, rv_r, rv_k, rv_t, rAug, q_i2K, q_j2K, q_srtB, at_2, at_3, q_strF, rPar3, g_03a, g_03b, g_03c, g_03d, g_03e, g_03f, rLam, rAsk, rCallXK, q_ext3, q_ext3T, q_ext3K, rDc, rDNew, gDk, rLock, rLockE, iKys, iVls, iIts, k_inS, k_inI, k_getS, k_getI, k_setS, k_setI, rMetK, rMakeK, q_srtTx, k_srt, k_len, k_keys, k_vals, k_items, ofO]; exact ⟨a, rfl, b, rfl, k⟩
end K01
namespace K01
open PySem PySem.Spec PyProof.Rows L2 Y
theorem pu_law_less : ∀ ds S Q, sp_law_less ds S Q NoX → rd_law_less { nx := fun _ S => Q .non S, rt := Q } (start' 3 ds) S := by
  rintro _ S Q ⟨ns, ms, rfl, hn, hm, k⟩
  unfold rd_law_less
  simp -implicitDefEqProofs only [rVar, rC, rBin, rUn, rTst, rChn, rTru, rAnd, rOr, rNot, rAndV, rOrV, rNotV, rIf, rNil, rCons, rTup, rLst, rFn, rCall, rCallK, rSl, rPrt, rNoP, rMt, gNm, q_gN, q_gC, q_gTp, gSb, rNext, rSeq, rDrop, rRet, rRetN, rBrk, rCnt, rIfS, rSet, rPar, rFor, iSeq, iLst, iRg1, iRg2, iZp, iEn, iStrD, rLc, rYes, q_isi2, q_i2N, q_i2B, q_i2I, q_i2S, q_i2T, q_i2L, q_j2N, q_j2B, q_j2I, q_j2S, q_j2T, q_j2L, q_gt2, q_gtT, q_en, q_int2, q_strD, q_rev, q_ixo, q_ext2, q_extT, q_in, q_ins, q_pop, q_any, En.x, wipeD, start', List.getElem?_cons_zero, List.getElem?_cons_succ, List.set_cons_zero, List.set_cons_succ, List.map_cons, List.map_nil, List.length_cons, List.length_nil, List.cons_append, List.nil_append, List.replicate_succ, List.replicate_zero, id, q_asB, q_asI, q_add, q_addS, q_addT, q_addL, q_int, q_sub, q_mul, q_fdiv, q_mod, q_pow, q_neg, q_le, q_ge, q_gt, q_lt, q_ltT, q_isN, q_isB, q_isBi, q_isBs, q_isBn, q_isBt, q_isnt, n_non, n_bl, n_int, n_str, n_tup, n_ref, q_eq, q_eqS, q_eqB, q_ixT, q_ixK, q_ixL, q_ixS, q_slT, q_slL, q_slS, q_set, q_lenT, q_lenK, q_lenS, q_lenL, q_abs, q_intF, q_max, q_min, q_tupT, q_tupL, q_lstT, q_lstL, q_app, q_ext, q_joinL, q_stw, q_seq, q_lst, q_rng, q_rng2, q_zpT, q_zpL, q_truN, q_truB, q_truI, q_truT, q_truL, t_non, t_bl, t_int, t_str, t_tup, q_isiN, q_isiB, q_isiI, q_isiS, q_isiT, i_NoneType_int, i_NoneType_bool, i_NoneType_tuple, i_NoneType_list, i_NoneType_str, i_bool_int, i_bool_bool, i_bool_tuple, i_bool_list, i_bool_str, i_int_int, i_int_bool, i_int_tuple, i_int_list, i_int_str, i_str_int, i_str_bool, i_str_tuple, i_str_list, i_str_str, i_tuple_int, i_tuple_bool, i_tuple_tuple, i_tuple_list, i_tuple_str, i_list_int, i_list_bool, i_list_tuple, i_list_list, i_list_str, i_dict_int, i_dict_bool, i_dict_tuple, i_dict_list, i_dict_str, up_same, g_02, g_02', g_01, g_11, at_0, at_1, ix_0, ix_1, Option.some.injEq, HQ.lst.injEq, exists_eq_left', exists_eq_left, exists_and_left, exists_eq', exists_eq, decide_eq_true_eq, if_true, if_false, ite_true, ite_false, Bool.false_eq_true, reduceIte, reduceCtorEq, Bool.not_true, Bool.not_false, Nat.zero_add, Nat.reduceAdd, Nat.reduceSub, Nat.reduceLeDiff, Nat.reduceLT, Int.reduceLT, Int.reduceLE, Int.reduceEq, Int.reduceNe, Nat.reduceEqDiff, Int.reduceToNat, Int.reducePow, Int.reduceMul, Int.reduceAdd, Int.reduceSub, Int.reduceNeg, and_true, true_and, decide_true, decide_false, rFld, rSetF, rMet, rMetX, rMake, rBy, Y.rIsE, rCallX, rRaise, rTryAs, rTryOnly, rGd, q_fld, q_sfld, q_met, q_isntB, iEnX, iEn4, e4_t, e4_s, e4_k, e4_r, v_t, v_s, q_lset, q_remD, rNv, a_i, a_s, a_t, a_r, a_k, m_T, m_F, v_r, v_k, lg_r, lg_k, t_t, t_r, t_k, l_t, l_r, l_k, s_t, s_s, s_r, s_k, o_1, j_1, y_1, y_2, y_3, z_tt, z_r, z_k, e_1, k_ii, k_ss, k_bb, k_nn, k_tt, k_r, k_k, n_t, n_r, n_k, u_ii, u_si, lj_1, rLstF, rLcF, rFz, rSlM, iZp3, iEn3, eqvAll_nil, pds_emp, iAny, sq_k, sq_r, ls_t, or_false, false_or, fz_r, fz_k, fz_t, fz_n, fz_b, fz_s, q_lstK, q_truK, t_kl, q_isiK, iRevY, rv_r, rv_k, rv_t, rAug, q_i2K, q_j2K, q_srtB, at_2, at_3, q_strF, rPar3, g_03a, g_03b, g_03c, g_03d, g_03e, g_03f, rLam, rAsk, rCallXK, q_ext3, q_ext3T, q_ext3K, rDc, rDNew, gDk, rLock, rLockE, iKys, iVls, iIts, k_inS, k_inI, k_getS, k_getI, k_setS, k_setI, rMetK, rMakeK, q_srtTx, k_srt, k_len, k_keys, k_vals, k_items, nm, List.length_map]
  refine ⟨⟨by split <;> omega, by split <;> omega⟩, ?_⟩
  have hmin : (if (ms.length : Int) < ns.length then (ms.length : Int) else ns.length).toNat = min ns.length ms.length := by split <;> omega
  rw [hmin]
  refine loop_idx (fun i σ S' => S' = S ∧ i ≤ min ns.length ms.length ∧ HT.lexLt (ns.drop i) (ms.drop i) = HT.lexLt ns ms ∧ ∃ y, σ = [some (.tup (ns.map D.int)), some (.tup (ms.map D.int)), y]) (fun _ _ _ _ _ => trivial) (fun i x σ S' hx hp N hN => ?_) (fun σ S' hp => ?_) ⟨rfl, by omega, rfl, none, rfl⟩
  · obtain ⟨rfl, _, e, y, rfl⟩ := hp
    obtain ⟨hi, rfl⟩ := rangeD_get hx
    have h1 : i < ns.length := by omega
    have h2 : i < ms.length := by omega
    have a1 : atI (ns.map D.int) (0 + (i : Int)) = some (.int ns[i]) := by rw [Int.zero_add]; exact atI_nat (by rw [List.getElem?_map, List.getElem?_eq_getElem h1]; rfl)
    have a2 : atI (ms.map D.int) (0 + (i : Int)) = some (.int ms[i]) := by rw [Int.zero_add]; exact atI_nat (by rw [List.getElem?_map, List.getElem?_eq_getElem h2]; rfl)
    rw [List.drop_eq_getElem_cons h1, List.drop_eq_getElem_cons h2, HT.lexLt_cons] at e
    simp -implicitDefEqProofs only [rVar, rC, rBin, rUn, rTst, rChn, rTru, rAnd, rOr, rNot, rAndV, rOrV, rNotV, rIf, rNil, rCons, rTup, rLst, rFn, rCall, rCallK, rSl, rPrt, rNoP, rMt, gNm, q_gN, q_gC, q_gTp, gSb, rNext, rSeq, rDrop, rRet, rRetN, rBrk, rCnt, rIfS, rSet, rPar, rFor, iSeq, iLst, iRg1, iRg2, iZp, iEn, iStrD, rLc, rYes, q_isi2, q_i2N, q_i2B, q_i2I, q_i2S, q_i2T, q_i2L, q_j2N, q_j2B, q_j2I, q_j2S, q_j2T, q_j2L, q_gt2, q_gtT, q_en, q_int2, q_strD, q_rev, q_ixo, q_ext2, q_extT, q_in, q_ins, q_pop, q_any, En.x, wipeD, start', List.getElem?_cons_zero, List.getElem?_cons_succ, List.set_cons_zero, List.set_cons_succ, List.map_cons, List.map_nil, List.length_cons, List.length_nil, List.cons_append, List.nil_append, List.replicate_succ, List.replicate_zero, id, q_asB, q_asI, q_add, q_addS, q_addT, q_addL, q_int, q_sub, q_mul, q_fdiv, q_mod, q_pow, q_neg, q_le, q_ge, q_gt, q_lt, q_ltT, q_isN, q_isB, q_isBi, q_isBs, q_isBn, q_isBt, q_isnt, n_non, n_bl, n_int, n_str, n_tup, n_ref, q_eq, q_eqS, q_eqB, q_ixT, q_ixK, q_ixL, q_ixS, q_slT, q_slL, q_slS, q_set, q_lenT, q_lenK, q_lenS, q_lenL, q_abs, q_intF, q_max, q_min, q_tupT, q_tupL, q_lstT, q_lstL, q_app, q_ext, q_joinL, q_stw, q_seq, q_lst, q_rng, q_rng2, q_zpT, q_zpL, q_truN, q_truB, q_truI, q_truT, q_truL, t_non, t_bl, t_int, t_str, t_tup, q_isiN, q_isiB, q_isiI, q_isiS, q_isiT, i_NoneType_int, i_NoneType_bool, i_NoneType_tuple, i_NoneType_list, i_NoneType_str, i_bool_int, i_bool_bool, i_bool_tuple, i_bool_list, i_bool_str, i_int_int, i_int_bool, i_int_tuple, i_int_list, i_int_str, i_str_int, i_str_bool, i_str_tuple, i_str_list, i_str_str, i_tuple_int, i_tuple_bool, i_tuple_tuple, i_tuple_list, i_tuple_str, i_list_int, i_list_bool, i_list_tuple, i_list_list, i_list_str, i_dict_int, i_dict_bool, i_dict_tuple, i_dict_list, i_dict_str, up_same, g_02, g_02', g_01, g_11, at_0, at_1, ix_0, ix_1, Option.some.injEq, HQ.lst.injEq, exists_eq_left', exists_eq_left, exists_and_left, exists_eq', exists_eq, decide_eq_true_eq, if_true, if_false, ite_true, ite_false, Bool.false_eq_true, reduceIte, reduceCtorEq, Bool.not_true, Bool.not_false, Nat.zero_add, Nat.reduceAdd, Nat.reduceSub, Nat.reduceLeDiff, Nat.reduceLT, Int.reduceLT, Int.reduceLE, Int.reduceEq, Int.reduceNe, Nat.reduceEqDiff, Int.reduceToNat, Int.reducePow, Int.reduceMul, Int.reduceAdd, Int.reduceSub, Int.reduceNeg, and_true, true_and, decide_true, decide_false, rFld, rSetF, rMet, rMetX, rMake, rBy, Y.rIsE, rCallX, rRaise, rTryAs, rTryOnly, rGd, q_fld, q_sfld, q_met, q_isntB, iEnX, iEn4, e4_t, e4_s, e4_k, e4_r, v_t, v_s, q_lset, q_remD, rNv, a_i, a_s, a_t, a_r, a_k, m_T, m_F, v_r, v_k, lg_r, lg_k, t_t, t_r, t_k, l_t, l_r, l_k, s_t, s_s, s_r, s_k, o_1, j_1, y_1, y_2, y_3, z_tt, z_r, z_k, e_1, k_ii, k_ss, k_bb, k_nn, k_tt, k_r, k_k, n_t, n_r, n_k, u_ii, u_si, lj_1, rLstF, rLcF, rFz, rSlM, iZp3, iEn3, eqvAll_nil, pds_emp, iAny, sq_k, sq_r, ls_t, or_false, false_or, fz_r, fz_k, fz_t, fz_n, fz_b, fz_s, q_lstK, q_truK, t_kl, q_isiK, iRevY, rv_r, rv_k, rv_t, rAug, q_i2K, q_j2K, q_srtB, at_2, at_3, q_strF, rPar3, g_03a, g_03b, g_03c, g_03d, g_03e, g_03f, rLam, rAsk, rCallXK, q_ext3, q_ext3T, q_ext3K, rDc, rDNew, gDk, rLock, rLockE, iKys, iVls, iIts, k_inS, k_inI, k_getS, k_getI, k_setS, k_setI, rMetK, rMakeK, q_srtTx, k_srt, k_len, k_keys, k_vals, k_items, a1, a2]
    by_cases c : ns[i] = ms[i]
    · rw [if_pos c] at e
      simp only [c, rVar, rC, rBin, rUn, rTst, rChn, rTru, rAnd, rOr, rNot, rAndV, rOrV, rNotV, rIf, rNil, rCons, rTup, rLst, rFn, rCall, rCallK, rSl, rPrt, rNoP, rMt, gNm, q_gN, q_gC, q_gTp, gSb, rNext, rSeq, rDrop, rRet, rRetN, rBrk, rCnt, rIfS, rSet, rPar, rFor, iSeq, iLst, iRg1, iRg2, iZp, iEn, iStrD, rLc, rYes, q_isi2, q_i2N, q_i2B, q_i2I, q_i2S, q_i2T, q_i2L, q_j2N, q_j2B, q_j2I, q_j2S, q_j2T, q_j2L, q_gt2, q_gtT, q_en, q_int2, q_strD, q_rev, q_ixo, q_ext2, q_extT, q_in, q_ins, q_pop, q_any, En.x, wipeD, start', List.getElem?_cons_zero, List.getElem?_cons_succ, List.set_cons_zero, List.set_cons_succ, List.map_cons, List.map_nil, List.length_cons, List.length_nil, List.cons_append, List.nil_append, List.replicate_succ, List.replicate_zero, id, q_asB, q_asI, q_add, q_addS, q_addT, q_addL, q_int, q_sub, q_mul, q_fdiv, q_mod, q_pow, q_neg, q_le, q_ge, q_gt, q_lt, q_ltT, q_isN, q_isB, q_isBi, q_isBs, q_isBn, q_isBt, q_isnt, n_non, n_bl, n_int, n_str, n_tup, n_ref, q_eq, q_eqS, q_eqB, q_ixT, q_ixK, q_ixL, q_ixS, q_slT, q_slL, q_slS, q_set, q_lenT, q_lenK, q_lenS, q_lenL, q_abs, q_intF, q_max, q_min, q_tupT, q_tupL, q_lstT, q_lstL, q_app, q_ext, q_joinL, q_stw, q_seq, q_lst, q_rng, q_rng2, q_zpT, q_zpL, q_truN, q_truB, q_truI, q_truT, q_truL, t_non, t_bl, t_int, t_str, t_tup, q_isiN, q_isiB, q_isiI, q_isiS, q_isiT, i_NoneType_int, i_NoneType_bool, i_NoneType_tuple, i_NoneType_list, i_NoneType_str, i_bool_int, i_bool_bool, i_bool_tuple, i_bool_list, i_bool_str, i_int_int, i_int_bool, i_int_tuple, i_int_list, i_int_str, i_str_int, i_str_bool, i_str_tuple, i_str_list, i_str_str, i_tuple_int, i_tuple_bool, i_tuple_tuple, i_tuple_list, i_tuple_str, i_list_int, i_list_bool, i_list_tuple, i_list_list, i_list_str, i_dict_int, i_dict_bool, i_dict_tuple, i_dict_list, i_dict_str, up_same, g_02, g_02', g_01, g_11, at_0, at_1, ix_0, ix_1, Option.some.injEq, HQ.lst.injEq, exists_eq_left', exists_eq_left, exists_and_left, exists_eq', exists_eq, decide_eq_true_eq, if_true, if_false, ite_true, ite_false, Bool.false_eq_true, reduceIte, reduceCtorEq, Bool.not_true, Bool.not_false, Nat.zero_add, Nat.reduceAdd, Nat.reduceSub, Nat.reduceLeDiff, Nat.reduceLT, Int.reduceLT, Int.reduceLE, Int.reduceEq, Int.reduceNe, Nat.reduceEqDiff, Int.reduceToNat, Int.reducePow, Int.reduceMul, Int.reduceAdd, Int.reduceSub, Int.reduceNeg, and_true, true_and, decide_true, decide_false, rFld, rSetF, rMet, rMetX, rMake, rBy, Y.rIsE, rCallX, rRaise, rTryAs, rTryOnly, rGd, q_fld, q_sfld, q_met, q_isntB, iEnX, iEn4, e4_t, e4_s, e4_k, e4_r, v_t, v_s, q_lset, q_remD, rNv, a_i, a_s, a_t, a_r, a_k, m_T, m_F, v_r, v_k, lg_r, lg_k, t_t, t_r, t_k, l_t, l_r, l_k, s_t, s_s, s_r, s_k, o_1, j_1, y_1, y_2, y_3, z_tt, z_r, z_k, e_1, k_ii, k_ss, k_bb, k_nn, k_tt, k_r, k_k, n_t, n_r, n_k, u_ii, u_si, lj_1, rLstF, rLcF, rFz, rSlM, iZp3, iEn3, eqvAll_nil, pds_emp, iAny, sq_k, sq_r, ls_t, or_false, false_or, fz_r, fz_k, fz_t, fz_n, fz_b, fz_s, q_lstK, q_truK, t_kl, q_isiK, iRevY, rv_r, rv_k, rv_t, rAug, q_i2K, q_j2K, q_srtB, at_2, at_3, q_strF, rPar3, g_03a, g_03b, g_03c, g_03d, g_03e, g_03f, rLam, rAsk, rCallXK, q_ext3, q_ext3T, q_ext3K, rDc, rDNew, gDk, rLock, rLockE, iKys, iVls, iIts, k_inS, k_inI, k_getS, k_getI, k_setS, k_setI, rMetK, rMakeK, q_srtTx, k_srt, k_len, k_keys, k_vals, k_items]
      exact hN _ _ ⟨rfl, by omega, e, _, rfl⟩
    · rw [if_neg c] at e
      simp only [c, rVar, rC, rBin, rUn, rTst, rChn, rTru, rAnd, rOr, rNot, rAndV, rOrV, rNotV, rIf, rNil, rCons, rTup, rLst, rFn, rCall, rCallK, rSl, rPrt, rNoP, rMt, gNm, q_gN, q_gC, q_gTp, gSb, rNext, rSeq, rDrop, rRet, rRetN, rBrk, rCnt, rIfS, rSet, rPar, rFor, iSeq, iLst, iRg1, iRg2, iZp, iEn, iStrD, rLc, rYes, q_isi2, q_i2N, q_i2B, q_i2I, q_i2S, q_i2T, q_i2L, q_j2N, q_j2B, q_j2I, q_j2S, q_j2T, q_j2L, q_gt2, q_gtT, q_en, q_int2, q_strD, q_rev, q_ixo, q_ext2, q_extT, q_in, q_ins, q_pop, q_any, En.x, wipeD, start', List.getElem?_cons_zero, List.getElem?_cons_succ, List.set_cons_zero, List.set_cons_succ, List.map_cons, List.map_nil, List.length_cons, List.length_nil, List.cons_append, List.nil_append, List.replicate_succ, List.replicate_zero, id, q_asB, q_asI, q_add, q_addS, q_addT, q_addL, q_int, q_sub, q_mul, q_fdiv, q_mod, q_pow, q_neg, q_le, q_ge, q_gt, q_lt, q_ltT, q_isN, q_isB, q_isBi, q_isBs, q_isBn, q_isBt, q_isnt, n_non, n_bl, n_int, n_str, n_tup, n_ref, q_eq, q_eqS, q_eqB, q_ixT, q_ixK, q_ixL, q_ixS, q_slT, q_slL, q_slS, q_set, q_lenT, q_lenK, q_lenS, q_lenL, q_abs, q_intF, q_max, q_min, q_tupT, q_tupL, q_lstT, q_lstL, q_app, q_ext, q_joinL, q_stw, q_seq, q_lst, q_rng, q_rng2, q_zpT, q_zpL, q_truN, q_truB, q_truI, q_truT, q_truL, t_non, t_bl, t_int, t_str, t_tup, q_isiN, q_isiB, q_isiI, q_isiS, q_isiT, i_NoneType_int, i_NoneType_bool, i_NoneType_tuple, i_NoneType_list, i_NoneType_str, i_bool_int, i_bool_bool, i_bool_tuple, i_bool_list, i_bool_str, i_int_int, i_int_bool, i_int_tuple, i_int_list, i_int_str, i_str_int, i_str_bool, i_str_tuple, i_str_list, i_str_str, i_tuple_int, i_tuple_bool, i_tuple_tuple, i_tuple_list, i_tuple_str, i_list_int, i_list_bool, i_list_tuple, i_list_list, i_list_str, i_dict_int, i_dict_bool, i_dict_tuple, i_dict_list, i_dict_str, up_same, g_02, g_02', g_01, g_11, at_0, at_1, ix_0, ix_1, Option.some.injEq, HQ.lst.injEq, exists_eq_left', exists_eq_left, exists_and_left, exists_eq', exists_eq, decide_eq_true_eq, if_true, if_false, ite_true, ite_false, Bool.false_eq_true, reduceIte, reduceCtorEq, Bool.not_true, Bool.not_false, Nat.zero_add, Nat.reduceAdd, Nat.reduceSub, Nat.reduceLeDiff, Nat.reduceLT, Int.reduceLT, Int.reduceLE, Int.reduceEq, Int.reduceNe, Nat.reduceEqDiff, Int.reduceToNat, Int.reducePow, Int.reduceMul, Int.reduceAdd, Int.reduceSub, Int.reduceNeg, and_true, true_and, decide_true, decide_false, rFld, rSetF, rMet, rMetX, rMake, rBy, Y.rIsE, rCallX, rRaise, rTryAs, rTryOnly, rGd, q_fld, q_sfld, q_met, q_isntB, iEnX, iEn4, e4_t, e4_s, e4_k, e4_r, v_t, v_s, q_lset, q_remD, rNv, a_i, a_s, a_t, a_r, a_k, m_T, m_F, v_r, v_k, lg_r, lg_k, t_t, t_r, t_k, l_t, l_r, l_k, s_t, s_s, s_r, s_k, o_1, j_1, y_1, y_2, y_3, z_tt, z_r, z_k, e_1, k_ii, k_ss, k_bb, k_nn, k_tt, k_r, k_k, n_t, n_r, n_k, u_ii, u_si, lj_1, rLstF, rLcF, rFz, rSlM, iZp3, iEn3, eqvAll_nil, pds_emp, iAny, sq_k, sq_r, ls_t, or_false, false_or, fz_r, fz_k, fz_t, fz_n, fz_b, fz_s, q_lstK, q_truK, t_kl, q_isiK, iRevY, rv_r, rv_k, rv_t, rAug, q_i2K, q_j2K, q_srtB, at_2, at_3, q_strF, rPar3, g_03a, g_03b, g_03c, g_03d, g_03e, g_03f, rLam, rAsk, rCallXK, q_ext3, q_ext3T, q_ext3K, rDc, rDNew, gDk, rLock, rLockE, iKys, iVls, iIts, k_inS, k_inI, k_getS, k_getI, k_setS, k_setI, rMetK, rMakeK, q_srtTx, k_srt, k_len, k_keys, k_vals, k_items]
      rw [e]; exact k
  · obtain ⟨rfl, _, e, y, rfl⟩ := hp
    rw [rangeD_len] at e
    simp -implicitDefEqProofs only [rVar, rC, rBin, rUn, rTst, rChn, rTru, rAnd, rOr, rNot, rAndV, rOrV, rNotV, rIf, rNil, rCons, rTup, rLst, rFn, rCall, rCallK, rSl, rPrt, rNoP, rMt, gNm, q_gN, q_gC, q_gTp, gSb, rNext, rSeq, rDrop, rRet, rRetN, rBrk, rCnt, rIfS, rSet, rPar, rFor, iSeq, iLst, iRg1, iRg2, iZp, iEn, iStrD, rLc, rYes, q_isi2, q_i2N, q_i2B, q_i2I, q_i2S, q_i2T, q_i2L, q_j2N, q_j2B, q_j2I, q_j2S, q_j2T, q_j2L, q_gt2, q_gtT, q_en, q_int2, q_strD, q_rev, q_ixo, q_ext2, q_extT, q_in, q_ins, q_pop, q_any, En.x, wipeD, start', List.getElem?_cons_zero, List.getElem?_cons_succ, List.set_cons_zero, List.set_cons_succ, List.map_cons, List.map_nil, List.length_cons, List.length_nil, List.cons_append, List.nil_append, List.replicate_succ, List.replicate_zero, id, q_asB, q_asI, q_add, q_addS, q_addT, q_addL, q_int, q_sub, q_mul, q_fdiv, q_mod, q_pow, q_neg, q_le, q_ge, q_gt, q_lt, q_ltT, q_isN, q_isB, q_isBi, q_isBs, q_isBn, q_isBt, q_isnt, n_non, n_bl, n_int, n_str, n_tup, n_ref, q_eq, q_eqS, q_eqB, q_ixT, q_ixK, q_ixL, q_ixS, q_slT, q_slL, q_slS, q_set, q_lenT, q_lenK, q_lenS, q_lenL, q_abs, q_intF, q_max, q_min, q_tupT, q_tupL, q_lstT, q_lstL, q_app, q_ext, q_joinL, q_stw, q_seq, q_lst, q_rng, q_rng2, q_zpT, q_zpL, q_truN, q_truB, q_truI, q_truT, q_truL, t_non, t_bl, t_int, t_str, t_tup, q_isiN, q_isiB, q_isiI, q_isiS, q_isiT, i_NoneType_int, i_NoneType_bool, i_NoneType_tuple, i_NoneType_list, i_NoneType_str, i_bool_int, i_bool_bool, i_bool_tuple, i_bool_list, i_bool_str, i_int_int, i_int_bool, i_int_tuple, i_int_list, i_int_str, i_str_int, i_str_bool, i_str_tuple, i_str_list, i_str_str, i_tuple_int, i_tuple_bool, i_tuple_tuple, i_tuple_list, i_tuple_str, i_list_int, i_list_bool, i_list_tuple, i_list_list, i_list_str, i_dict_int, i_dict_bool, i_dict_tuple, i_dict_list, i_dict_str, up_same, g_02, g_02', g_01, g_11, at_0, at_1, ix_0, ix_1, Option.some.injEq, HQ.lst.injEq, exists_eq_left', exists_eq_left, exists_and_left, exists_eq', exists_eq, decide_eq_true_eq, if_true, if_false, ite_true, ite_false, Bool.false_eq_true, reduceIte, reduceCtorEq, Bool.not_true, Bool.not_false, Nat.zero_add, Nat.reduceAdd, Nat.reduceSub, Nat.reduceLeDiff, Nat.reduceLT, Int.reduceLT, Int.reduceLE, Int.reduceEq, Int.reduceNe, Nat.reduceEqDiff, Int.reduceToNat, Int.reducePow, Int.reduceMul, Int.reduceAdd, Int.reduceSub, Int.reduceNeg, and_true, true_and, decide_true, decide_false, rFld, rSetF, rMet, rMetX, rMake, rBy, Y.rIsE, rCallX, rRaise, rTryAs, rTryOnly, rGd, q_fld, q_sfld, q_met, q_isntB, iEnX, iEn4, e4_t, e4_s, e4_k, e4_r, v_t, v_s, q_lset, q_remD, rNv, a_i, a_s, a_t, a_r, a_k, m_T, m_F, v_r, v_k, lg_r, lg_k, t_t, t_r, t_k, l_t, l_r, l_k, s_t, s_s, s_r, s_k, o_1, j_1, y_1, y_2, y_3, z_tt, z_r, z_k, e_1, k_ii, k_ss, k_bb, k_nn, k_tt, k_r, k_k, n_t, n_r, n_k, u_ii, u_si, lj_1, rLstF, rLcF, rFz, rSlM, iZp3, iEn3, eqvAll_nil, pds_emp, iAny, sq_k, sq_r, ls_t, or_false, false_or, fz_r, fz_k, fz_t, fz_n, fz_b, fz_s, q_lstK, q_truK, t_kl, q_isiK, iRevY, rv_r, rv_k, rv_t, rAug, q_i2K, q_j2K, q_srtB, at_2, at_3, q_strF, rPar3, g_03a, g_03b, g_03c, g_03d, g_03e, g_03f, rLam, rAsk, rCallXK, q_ext3, q_ext3T, q_ext3K, rDc, rDNew, gDk, rLock, rLockE, iKys, iVls, iIts, k_inS, k_inI, k_getS, k_getI, k_setS, k_setI, rMetK, rMakeK, q_srtTx, k_srt, k_len, k_keys, k_vals, k_items, List.length_map]
    have e2 : HT.lexLt ns ms = decide ((ns.length : Int) < ms.length) := by
      rw [← e]
      by_cases c : ns.length < ms.length
      · rw [Nat.min_eq_left (by omega), List.drop_length]
        cases hd : ms.drop ns.length with
        | nil => rw [List.drop_eq_nil_iff] at hd; omega
        | cons a r => rw [HT.lexLt_nil_cons]; exact (decide_eq_true (by omega)).symm
      · rw [Nat.min_eq_right (by omega), List.drop_length]
        rw [decide_eq_false (by omega)]
        cases hd : ns.drop ms.length with
        | nil => rfl
        | cons a r => exact HT.lexLt_cons_nil _ _
    rw [← e2]; exact k

end K01
namespace K01
open PySem PySem.Spec PyProof.Rows L2 Y
theorem pu_law_under : ∀ ds S Q, sp_law_under ds S Q NoX → rd_law_under { nx := fun _ S => Q .non S, rt := Q } (start' 2 ds) S := by
  rintro _ S Q ⟨a, o, rfl, ha, ho, k⟩
  unfold rd_law_under
  cases a with
  | none => simp -implicitDefEqProofs only [rVar, rC, rBin, rUn, rTst, rChn, rTru, rAnd, rOr, rNot, rAndV, rOrV, rNotV, rIf, rNil, rCons, rTup, rLst, rFn, rCall, rCallK, rSl, rPrt, rNoP, rMt, gNm, q_gN, q_gC, q_gTp, gSb, rNext, rSeq, rDrop, rRet, rRetN, rBrk, rCnt, rIfS, rSet, rPar, rFor, iSeq, iLst, iRg1, iRg2, iZp, iEn, iStrD, rLc, rYes, q_isi2, q_i2N, q_i2B, q_i2I, q_i2S, q_i2T, q_i2L, q_j2N, q_j2B, q_j2I, q_j2S, q_j2T, q_j2L, q_gt2, q_gtT, q_en, q_int2, q_strD, q_rev, q_ixo, q_ext2, q_extT, q_in, q_ins, q_pop, q_any, En.x, wipeD, start', List.getElem?_cons_zero, List.getElem?_cons_succ, List.set_cons_zero, List.set_cons_succ, List.map_cons, List.map_nil, List.length_cons, List.length_nil, List.cons_append, List.nil_append, List.replicate_succ, List.replicate_zero, id, q_asB, q_asI, q_add, q_addS, q_addT, q_addL, q_int, q_sub, q_mul, q_fdiv, q_mod, q_pow, q_neg, q_le, q_ge, q_gt, q_lt, q_ltT, q_isN, q_isB, q_isBi, q_isBs, q_isBn, q_isBt, q_isnt, n_non, n_bl, n_int, n_str, n_tup, n_ref, q_eq, q_eqS, q_eqB, q_ixT, q_ixK, q_ixL, q_ixS, q_slT, q_slL, q_slS, q_set, q_lenT, q_lenK, q_lenS, q_lenL, q_abs, q_intF, q_max, q_min, q_tupT, q_tupL, q_lstT, q_lstL, q_app, q_ext, q_joinL, q_stw, q_seq, q_lst, q_rng, q_rng2, q_zpT, q_zpL, q_truN, q_truB, q_truI, q_truT, q_truL, t_non, t_bl, t_int, t_str, t_tup, q_isiN, q_isiB, q_isiI, q_isiS, q_isiT, i_NoneType_int, i_NoneType_bool, i_NoneType_tuple, i_NoneType_list, i_NoneType_str, i_bool_int, i_bool_bool, i_bool_tuple, i_bool_list, i_bool_str, i_int_int, i_int_bool, i_int_tuple, i_int_list, i_int_str, i_str_int, i_str_bool, i_str_tuple, i_str_list, i_str_str, i_tuple_int, i_tuple_bool, i_tuple_tuple, i_tuple_list, i_tuple_str, i_list_int, i_list_bool, i_list_tuple, i_list_list, i_list_str, i_dict_int, i_dict_bool, i_dict_tuple, i_dict_list, i_dict_str, up_same, g_02, g_02', g_01, g_11, at_0, at_1, ix_0, ix_1, Option.some.injEq, HQ.lst.injEq, exists_eq_left', exists_eq_left, exists_and_left, exists_eq', exists_eq, decide_eq_true_eq, if_true, if_false, ite_true, ite_false, Bool.false_eq_true, reduceIte, reduceCtorEq, Bool.not_true, Bool.not_false, Nat.zero_add, Nat.reduceAdd, Nat.reduceSub, Nat.reduceLeDiff, Nat.reduceLT, Int.reduceLT, Int.reduceLE, Int.reduceEq, Int.reduceNe, Nat.reduceEqDiff, Int.reduceToNat, Int.reducePow, Int.reduceMul, Int.reduceAdd, Int.reduceSub, Int.reduceNeg, and_true, true_and, decide_true, decide_false, rFld, rSetF, rMet, rMetX, rMake, rBy, Y.rIsE, rCallX, rRaise, rTryAs, rTryOnly, rGd, q_fld, q_sfld, q_met, q_isntB, iEnX, iEn4, e4_t, e4_s, e4_k, e4_r, v_t, v_s, q_lset, q_remD, rNv, a_i, a_s, a_t, a_r, a_k, m_T, m_F, v_r, v_k, lg_r, lg_k, t_t, t_r, t_k, l_t, l_r, l_k, s_t, s_s, s_r, s_k, o_1, j_1, y_1, y_2, y_3, z_tt, z_r, z_k, e_1, k_ii, k_ss, k_bb, k_nn, k_tt, k_r, k_k, n_t, n_r, n_k, u_ii, u_si, lj_1, rLstF, rLcF, rFz, rSlM, iZp3, iEn3, eqvAll_nil, pds_emp, iAny, sq_k, sq_r, ls_t, or_false, false_or, fz_r, fz_k, fz_t, fz_n, fz_b, fz_s, q_lstK, q_truK, t_kl, q_isiK, iRevY, rv_r, rv_k, rv_t, rAug, q_i2K, q_j2K, q_srtB, at_2, at_3, q_strF, rPar3, g_03a, g_03b, g_03c, g_03d, g_03e, g_03f, rLam, rAsk, rCallXK, q_ext3, q_ext3T, q_ext3K, rDc, rDNew, gDk, rLock, rLockE, iKys, iVls, iIts, k_inS, k_inI, k_getS, k_getI, k_setS, k_setI, rMetK, rMakeK, q_srtTx, k_srt, k_len, k_keys, k_vals, k_items, ofO]; exact k
  | some ns =>
    cases o with
    | none => simp -implicitDefEqProofs only [rVar, rC, rBin, rUn, rTst, rChn, rTru, rAnd, rOr, rNot, rAndV, rOrV, rNotV, rIf, rNil, rCons, rTup, rLst, rFn, rCall, rCallK, rSl, rPrt, rNoP, rMt, gNm, q_gN, q_gC, q_gTp, gSb, rNext, rSeq, rDrop, rRet, rRetN, rBrk, rCnt, rIfS, rSet, rPar, rFor, iSeq, iLst, iRg1, iRg2, iZp, iEn, iStrD, rLc, rYes, q_isi2, q_i2N, q_i2B, q_i2I, q_i2S, q_i2T, q_i2L, q_j2N, q_j2B, q_j2I, q_j2S, q_j2T, q_j2L, q_gt2, q_gtT, q_en, q_int2, q_strD, q_rev, q_ixo, q_ext2, q_extT, q_in, q_ins, q_pop, q_any, En.x, wipeD, start', List.getElem?_cons_zero, List.getElem?_cons_succ, List.set_cons_zero, List.set_cons_succ, List.map_cons, List.map_nil, List.length_cons, List.length_nil, List.cons_append, List.nil_append, List.replicate_succ, List.replicate_zero, id, q_asB, q_asI, q_add, q_addS, q_addT, q_addL, q_int, q_sub, q_mul, q_fdiv, q_mod, q_pow, q_neg, q_le, q_ge, q_gt, q_lt, q_ltT, q_isN, q_isB, q_isBi, q_isBs, q_isBn, q_isBt, q_isnt, n_non, n_bl, n_int, n_str, n_tup, n_ref, q_eq, q_eqS, q_eqB, q_ixT, q_ixK, q_ixL, q_ixS, q_slT, q_slL, q_slS, q_set, q_lenT, q_lenK, q_lenS, q_lenL, q_abs, q_intF, q_max, q_min, q_tupT, q_tupL, q_lstT, q_lstL, q_app, q_ext, q_joinL, q_stw, q_seq, q_lst, q_rng, q_rng2, q_zpT, q_zpL, q_truN, q_truB, q_truI, q_truT, q_truL, t_non, t_bl, t_int, t_str, t_tup, q_isiN, q_isiB, q_isiI, q_isiS, q_isiT, i_NoneType_int, i_NoneType_bool, i_NoneType_tuple, i_NoneType_list, i_NoneType_str, i_bool_int, i_bool_bool, i_bool_tuple, i_bool_list, i_bool_str, i_int_int, i_int_bool, i_int_tuple, i_int_list, i_int_str, i_str_int, i_str_bool, i_str_tuple, i_str_list, i_str_str, i_tuple_int, i_tuple_bool, i_tuple_tuple, i_tuple_list, i_tuple_str, i_list_int, i_list_bool, i_list_tuple, i_list_list, i_list_str, i_dict_int, i_dict_bool, i_dict_tuple, i_dict_list, i_dict_str, up_same, g_02, g_02', g_01, g_11, at_0, at_1, ix_0, ix_1, Option.some.injEq, HQ.lst.injEq, exists_eq_left', exists_eq_left, exists_and_left, exists_eq', exists_eq, decide_eq_true_eq, if_true, if_false, ite_true, ite_false, Bool.false_eq_true, reduceIte, reduceCtorEq, Bool.not_true, Bool.not_false, Nat.zero_add, Nat.reduceAdd, Nat.reduceSub, Nat.reduceLeDiff, Nat.reduceLT, Int.reduceLT, Int.reduceLE, Int.reduceEq, Int.reduceNe, Nat.reduceEqDiff, Int.reduceToNat, Int.reducePow, Int.reduceMul, Int.reduceAdd, Int.reduceSub, Int.reduceNeg, and_true, true_and, decide_true, decide_false, rFld, rSetF, rMet, rMetX, rMake, rBy, Y.rIsE, rCallX, rRaise, rTryAs, rTryOnly, rGd, q_fld, q_sfld, q_met, q_isntB, iEnX, iEn4, e4_t, e4_s, e4_k, e4_r, v_t, v_s, q_lset, q_remD, rNv, a_i, a_s, a_t, a_r, a_k, m_T, m_F, v_r, v_k, lg_r, lg_k, t_t, t_r, t_k, l_t, l_r, l_k, s_t, s_s, s_r, s_k, o_1, j_1, y_1, y_2, y_3, z_tt, z_r, z_k, e_1, k_ii, k_ss, k_bb, k_nn, k_tt, k_r, k_k, n_t, n_r, n_k, u_ii, u_si, lj_1, rLstF, rLcF, rFz, rSlM, iZp3, iEn3, eqvAll_nil, pds_emp, iAny, sq_k, sq_r, ls_t, or_false, false_or, fz_r, fz_k, fz_t, fz_n, fz_b, fz_s, q_lstK, q_truK, t_kl, q_isiK, iRevY, rv_r, rv_k, rv_t, rAug, q_i2K, q_j2K, q_srtB, at_2, at_3, q_strF, rPar3, g_03a, g_03b, g_03c, g_03d, g_03e, g_03f, rLam, rAsk, rCallXK, q_ext3, q_ext3T, q_ext3K, rDc, rDNew, gDk, rLock, rLockE, iKys, iVls, iIts, k_inS, k_inI, k_getS, k_getI, k_setS, k_setI, rMetK, rMakeK, q_srtTx, k_srt, k_len, k_keys, k_vals, k_items, ofO]; exact k
    | some hs => simp -implicitDefEqProofs only [rVar, rC, rBin, rUn, rTst, rChn, rTru, rAnd, rOr, rNot, rAndV, rOrV, rNotV, rIf, rNil, rCons, rTup, rLst, rFn, rCall, rCallK, rSl, rPrt, rNoP, rMt, gNm, q_gN, q_gC, q_gTp, gSb, rNext, rSeq, rDrop, rRet, rRetN, rBrk, rCnt, rIfS, rSet, rPar, rFor, iSeq, iLst, iRg1, iRg2, iZp, iEn, iStrD, rLc, rYes, q_isi2, q_i2N, q_i2B, q_i2I, q_i2S, q_i2T, q_i2L, q_j2N, q_j2B, q_j2I, q_j2S, q_j2T, q_j2L, q_gt2, q_gtT, q_en, q_int2, q_strD, q_rev, q_ixo, q_ext2, q_extT, q_in, q_ins, q_pop, q_any, En.x, wipeD, start', List.getElem?_cons_zero, List.getElem?_cons_succ, List.set_cons_zero, List.set_cons_succ, List.map_cons, List.map_nil, List.length_cons, List.length_nil, List.cons_append, List.nil_append, List.replicate_succ, List.replicate_zero, id, q_asB, q_asI, q_add, q_addS, q_addT, q_addL, q_int, q_sub, q_mul, q_fdiv, q_mod, q_pow, q_neg, q_le, q_ge, q_gt, q_lt, q_ltT, q_isN, q_isB, q_isBi, q_isBs, q_isBn, q_isBt, q_isnt, n_non, n_bl, n_int, n_str, n_tup, n_ref, q_eq, q_eqS, q_eqB, q_ixT, q_ixK, q_ixL, q_ixS, q_slT, q_slL, q_slS, q_set, q_lenT, q_lenK, q_lenS, q_lenL, q_abs, q_intF, q_max, q_min, q_tupT, q_tupL, q_lstT, q_lstL, q_app, q_ext, q_joinL, q_stw, q_seq, q_lst, q_rng, q_rng2, q_zpT, q_zpL, q_truN, q_truB, q_truI, q_truT, q_truL, t_non, t_bl, t_int, t_str, t_tup, q_isiN, q_isiB, q_isiI, q_isiS, q_isiT, i_NoneType_int, i_NoneType_bool, i_NoneType_tuple, i_NoneType_list, i_NoneType_str, i_bool_int, i_bool_bool, i_bool_tuple, i_bool_list, i_bool_str, i_int_int, i_int_bool, i_int_tuple, i_int_list, i_int_str, i_str_int, i_str_bool, i_str_tuple, i_str_list, i_str_str, i_tuple_int, i_tuple_bool, i_tuple_tuple, i_tuple_list, i_tuple_str, i_list_int, i_list_bool, i_list_tuple, i_list_list, i_list_str, i_dict_int, i_dict_bool, i_dict_tuple, i_dict_list, i_dict_str, up_same, g_02, g_02', g_01, g_11, at_0, at_1, ix_0, ix_1, Option.some.injEq, HQ.lst.injEq, exists_eq_left', exists_eq_left, exists_and_left, exists_eq', exists_eq, decide_eq_true_eq, if_true, if_false, ite_true, ite_false, Bool.false_eq_true, reduceIte, reduceCtorEq, Bool.not_true, Bool.not_false, Nat.zero_add, Nat.reduceAdd, Nat.reduceSub, Nat.reduceLeDiff, Nat.reduceLT, Int.reduceLT, Int.reduceLE, Int.reduceEq, Int.reduceNe, Nat.reduceEqDiff, Int.reduceToNat, Int.reducePow, Int.reduceMul, Int.reduceAdd, Int.reduceSub, Int.reduceNeg, and_true, true_and, decide_true, decide_false, rFld, rSetF, rMet, rMetX, rMake, rBy, Y.rIsE, rCallX, rRaise, rTryAs, rTryOnly, rGd, q_fld, q_sfld, q_met, q_isntB, iEnX, iEn4, e4_t, e4_s, e4_k, e4_r, v_t, v_s, q_lset, q_remD, rNv, a_i, a_s, a_t, a_r, a_k, m_T, m_F, v_r, v_k, lg_r, lg_k, t_t, t_r, t_k, l_t, l_r, l_k, s_t, s_s, s_r, s_k, o_1, j_1, y_1, y_2, y_3, z_tt, z_r, z_k, e_1, k_ii, k_ss, k_bb, k_nn, k_tt, k_r, k_k, n_t, n_r, n_k, u_ii, u_si, lj_1, rLstF, rLcF, rFz, rSlM, iZp3, iEn3, eqvAll_nil, pds_emp, iAny, sq_k, sq_r, ls_t, or_false, false_or, fz_r, fz_k, fz_t, fz_n, fz_b, fz_s, q_lstK, q_truK, t_kl, q_isiK, iRevY, rv_r, rv_k, rv_t, rAug, q_i2K, q_j2K, q_srtB, at_2, at_3, q_strF, rPar3, g_03a, g_03b, g_03c, g_03d, g_03e, g_03f, rLam, rAsk, rCallXK, q_ext3, q_ext3T, q_ext3K, rDc, rDNew, gDk, rLock, rLockE, iKys, iVls, iIts, k_inS, k_inI, k_getS, k_getI, k_setS, k_setI, rMetK, rMakeK, q_srtTx, k_srt, k_len, k_keys, k_vals, k_items, ofO]; exact ⟨ns, hs, rfl, ha _ rfl, ho _ rfl, k⟩
end K01
namespace K01
open PySem PySem.Spec PyProof.Rows L2 Y
theorem pu_law_compared : ∀ ds S Q, sp_law_compared ds S Q NoX → rd_law_compared { nx := fun _ S => Q .non S, rt := Q } (start' 8 ds) S := by
  rintro _ S Q ⟨b, rfl, hb, k⟩
  unfold rd_law_compared
  array_get_dec
  refine figure_of hb fun one S1 h1 n1 => ?_
  array_get_dec
  refine beside_of h1 n1.bx fun two S2 h2 n2 => ?_
  array_get_dec
  refine take_of n2.bx (by decide) (by decide) fun lead S3 _ _ n3 => ?_
  array_get_dec
  refine take_of n3.bx (by decide) (by decide) fun u S4 _ _ n4 => ?_
  refine pick_of n4.bx (by simp) (by simp) fun d S5 hd n5 => ?_
  obtain ⟨other, _, rfl⟩ := mem_ints (l := [_, _, _]) hd
  have n := (((n1.trans n2).trans n3).trans n4).trans n5
  clear n1 n2 n3 n4 n5 hd
  array_get_dec
  intro p hp
  have hpb : p ≠ b := n.bx.ne hp
  have l1 : one.length ≤ 15 := by obtain ⟨_, _, _, _, _, _, _, h⟩ := h1; exact h
  have l2 : two.length ≤ 15 := by obtain ⟨_, _, _, _, _, _, _, h⟩ := h2; exact h
  have pD : ∀ a o : Option (List Int), D.tup [ofO a, ofO o] = (fun q : Option (List Int) × Option (List Int) => D.tup [ofO q.1, ofO q.2]) (a, o) := fun _ _ => rfl
  have g1 : up S5 p (.lst [D.tup [nm one, nm two], D.tup [nm two, nm one], D.tup [nm one, nm one], D.tup [nm one, D.non], D.tup [D.non, nm two], D.tup [D.non, D.non]]) p = some (.lst ([(some one, some two), (some two, some one), (some one, some one), (some one, none), (none, some two), (none, none)].map fun q : Option (List Int) × Option (List Int) => D.tup [ofO q.1, ofO q.2])) := up_same
  have nx : Nx b S (up S5 p (.lst [D.tup [nm one, nm two], D.tup [nm two, nm one], D.tup [nm one, nm one], D.tup [nm one, D.non], D.tup [D.non, nm two], D.tup [D.non, D.non]])) := n.trans (Nx.new n.bx hp)
  generalize up S5 p (.lst [D.tup [nm one, nm two], D.tup [nm two, nm one], D.tup [nm one, nm one], D.tup [nm one, D.non], D.tup [D.non, nm two], D.tup [D.non, D.non]]) = S6 at g1 nx
  simp only [nm]
  array_get_dec
  rw [List.length_map, List.length_map]
  refine ⟨t_lst g1, by omega, by omega, by omega, by omega, by omega, _, g1, by simp, ?_⟩
  have e : (([(some one, some two), (some two, some one), (some one, some one), (some one, none), (none, some two), (none, none)].map fun q : Option (List Int) × Option (List Int) => D.tup [ofO q.1, ofO q.2]) ++ [D.tup [D.tup (D.int lead :: List.map D.int one), D.tup (D.int other :: List.map D.int two)], D.tup [D.tup (D.int other :: List.map D.int two), D.tup (D.int lead :: List.map D.int one)], D.tup [D.tup (D.int lead :: List.map D.int one), D.non]]) = ([(some one, some two), (some two, some one), (some one, some one), (some one, none), (none, some two), (none, none), (some (lead :: one), some (other :: two)), (some (other :: two), some (lead :: one)), (some (lead :: one), none)].map fun q : Option (List Int) × Option (List Int) => D.tup [ofO q.1, ofO q.2]) := rfl
  rw [e]
  obtain ⟨PP, hPP, hb9, hl9⟩ : ∃ PP : List (Option (List Int) × Option (List Int)), [(some one, some two), (some two, some one), (some one, some one), (some one, none), (none, some two), (none, none), (some (lead :: one), some (other :: two)), (some (other :: two), some (lead :: one)), (some (lead :: one), none)] = PP ∧ PP.length = 9 ∧ ∀ q ∈ PP, (∀ hs, q.1 = some hs → hs.length ≤ 1000) ∧ (∀ hs, q.2 = some hs → hs.length ≤ 1000) := by
    refine ⟨_, rfl, rfl, fun q hq => ?_⟩
    simp only [List.mem_cons, List.not_mem_nil, or_false] at hq
    rcases hq with rfl | rfl | rfl | rfl | rfl | rfl | rfl | rfl | rfl <;> refine ⟨fun hs e => ?_, fun hs e => ?_⟩ <;> cases e <;> (try simp only [List.length_cons]) <;> omega
  rw [hPP]
  have g2 : up S6 p (.lst (PP.map fun q : Option (List Int) × Option (List Int) => D.tup [ofO q.1, ofO q.2])) p = some (.lst (PP.map fun q : Option (List Int) × Option (List Int) => D.tup [ofO q.1, ofO q.2])) := up_same
  have hpS : S p = none := by
    cases e : S p with
    | none => rfl
    | some u => rw [n.old p u hpb e] at hp; cases hp
  have nx : Nx b S (up S6 p (.lst (PP.map fun q : Option (List Int) × Option (List Int) => D.tup [ofO q.1, ofO q.2]))) := ⟨nx.bx.put hpb, fun c u ne h => by rw [up_ne (fun z => by rw [z, hpS] at h; cases h)]; exact nx.old c u ne h⟩
  generalize up S6 p (.lst (PP.map fun q : Option (List Int) × Option (List Int) => D.tup [ofO q.1, ofO q.2])) = S7 at g2 nx
  clear g1
  have e1 : D.tup (one.map D.int) = ofO (some one) := rfl
  have e2 : D.tup (two.map D.int) = ofO (some two) := rfl
  rw [e1, e2]
  array_get_dec
  refine ⟨_, g2, ?_⟩
  refine loop_idx (fun i σ S'' => S'' = S7 ∧ ∃ u_low u_high : Option D, σ = [some (.ref b), some (ofO (some one)), some (ofO (some two)), some (.int lead), some (.int other), some (.ref p), u_low, u_high]) (fun i σ S'' _ h => by rw [h.1]; exact g2) (fun i x σ S'' hx hi N hN => ?_) (fun σ S'' hi => ?_) ⟨rfl, _, _, rfl⟩
  · obtain ⟨rfl, z1, z2, rfl⟩ := hi
    rw [List.getElem?_map] at hx
    obtain ⟨⟨a, o⟩, hq, rfl⟩ := Option.map_eq_some_iff.mp hx
    obtain ⟨q1, q2⟩ := hl9 _ (List.mem_of_getElem? hq)
    array_get_dec
    refine ⟨a, o, rfl, ?_⟩
    refine ⟨a, o, rfl, q1, q2, ?_⟩
    refine ⟨_, rfl, trivial, ?_⟩
    sizeOf_list_dec
    exact hN _ _ ⟨rfl, _, _, rfl⟩
  · obtain ⟨rfl, z1, z2, rfl⟩ := hi
    array_get_dec
    refine ⟨some one, some two, rfl, ?_⟩
    refine ⟨some one, some two, rfl, fun hs e => by cases e; omega, fun hs e => by cases e; omega, ?_⟩
    exact ⟨_, rfl, trivial, k _ nx⟩
end K01
namespace K01
open PySem PySem.Spec PyProof.Rows L2 Y
theorem pu_least_of : ∀ ds S Q, sp_least_of ds S Q NoX → rd_least_of { nx := fun _ S => Q .non S, rt := Q } (start' 3 ds) S := by
  rintro _ S Q ⟨os, rfl, k⟩
  unfold rd_least_of
  simp -implicitDefEqProofs only [rVar, rC, rBin, rUn, rTst, rChn, rTru, rAnd, rOr, rNot, rAndV, rOrV, rNotV, rIf, rNil, rCons, rTup, rLst, rFn, rCall, rCallK, rSl, rPrt, rNoP, rMt, gNm, q_gN, q_gC, q_gTp, gSb, rNext, rSeq, rDrop, rRet, rRetN, rBrk, rCnt, rIfS, rSet, rPar, rFor, iSeq, iLst, iRg1, iRg2, iZp, iEn, iStrD, rLc, rYes, q_isi2, q_i2N, q_i2B, q_i2I, q_i2S, q_i2T, q_i2L, q_j2N, q_j2B, q_j2I, q_j2S, q_j2T, q_j2L, q_gt2, q_gtT, q_en, q_int2, q_strD, q_rev, q_ixo, q_ext2, q_extT, q_in, q_ins, q_pop, q_any, En.x, wipeD, start', List.getElem?_cons_zero, List.getElem?_cons_succ, List.set_cons_zero, List.set_cons_succ, List.map_cons, List.map_nil, List.length_cons, List.length_nil, List.cons_append, List.nil_append, List.replicate_succ, List.replicate_zero, id, q_asB, q_asI, q_add, q_addS, q_addT, q_addL, q_int, q_sub, q_mul, q_fdiv, q_mod, q_pow, q_neg, q_le, q_ge, q_gt, q_lt, q_ltT, q_isN, q_isB, q_isBi, q_isBs, q_isBn, q_isBt, q_isnt, n_non, n_bl, n_int, n_str, n_tup, n_ref, q_eq, q_eqS, q_eqB, q_ixT, q_ixK, q_ixL, q_ixS, q_slT, q_slL, q_slS, q_set, q_lenT, q_lenK, q_lenS, q_lenL, q_abs, q_intF, q_max, q_min, q_tupT, q_tupL, q_lstT, q_lstL, q_app, q_ext, q_joinL, q_stw, q_seq, q_lst, q_rng, q_rng2, q_zpT, q_zpL, q_truN, q_truB, q_truI, q_truT, q_truL, t_non, t_bl, t_int, t_str, t_tup, q_isiN, q_isiB, q_isiI, q_isiS, q_isiT, i_NoneType_int, i_NoneType_bool, i_NoneType_tuple, i_NoneType_list, i_NoneType_str, i_bool_int, i_bool_bool, i_bool_tuple, i_bool_list, i_bool_str, i_int_int, i_int_bool, i_int_tuple, i_int_list, i_int_str, i_str_int, i_str_bool, i_str_tuple, i_str_list, i_str_str, i_tuple_int, i_tuple_bool, i_tuple_tuple, i_tuple_list, i_tuple_str, i_list_int, i_list_bool, i_list_tuple, i_list_list, i_list_str, i_dict_int, i_dict_bool, i_dict_tuple, i_dict_list, i_dict_str, up_same, g_02, g_02', g_01, g_11, at_0, at_1, ix_0, ix_1, Option.some.injEq, HQ.lst.injEq, exists_eq_left', exists_eq_left, exists_and_left, exists_eq', exists_eq, decide_eq_true_eq, if_true, if_false, ite_true, ite_false, Bool.false_eq_true, reduceIte, reduceCtorEq, Bool.not_true, Bool.not_false, Nat.zero_add, Nat.reduceAdd, Nat.reduceSub, Nat.reduceLeDiff, Nat.reduceLT, Int.reduceLT, Int.reduceLE, Int.reduceEq, Int.reduceNe, Nat.reduceEqDiff, Int.reduceToNat, Int.reducePow, Int.reduceMul, Int.reduceAdd, Int.reduceSub, Int.reduceNeg, and_true, true_and, decide_true, decide_false, rFld, rSetF, rMet, rMetX, rMake, rBy, Y.rIsE, rCallX, rRaise, rTryAs, rTryOnly, rGd, q_fld, q_sfld, q_met, q_isntB, iEnX, iEn4, e4_t, e4_s, e4_k, e4_r, v_t, v_s, q_lset, q_remD, rNv, a_i, a_s, a_t, a_r, a_k, m_T, m_F, v_r, v_k, lg_r, lg_k, t_t, t_r, t_k, l_t, l_r, l_k, s_t, s_s, s_r, s_k, o_1, j_1, y_1, y_2, y_3, z_tt, z_r, z_k, e_1, k_ii, k_ss, k_bb, k_nn, k_tt, k_r, k_k, n_t, n_r, n_k, u_ii, u_si, lj_1, rLstF, rLcF, rFz, rSlM, iZp3, iEn3, eqvAll_nil, pds_emp, iAny, sq_k, sq_r, ls_t, or_false, false_or, fz_r, fz_k, fz_t, fz_n, fz_b, fz_s, q_lstK, q_truK, t_kl, q_isiK, iRevY, rv_r, rv_k, rv_t, rAug, q_i2K, q_j2K, q_srtB, at_2, at_3, q_strF, rPar3, g_03a, g_03b, g_03c, g_03d, g_03e, g_03f, rLam, rAsk, rCallXK, q_ext3, q_ext3T, q_ext3K, rDc, rDNew, gDk, rLock, rLockE, iKys, iVls, iIts, k_inS, k_inI, k_getS, k_getI, k_setS, k_setI, rMetK, rMakeK, q_srtTx, k_srt, k_len, k_keys, k_vals, k_items]
  refine loop_idx (fun i σ S' => S' = S ∧ ∃ y, σ = [some (.tup (os.map ofO)), some (ofO ((os.take i).foldl (fun acc x => if blw x acc then x else acc) none)), y]) (fun _ _ _ _ _ => trivial) (fun i x σ S' hx hp N hN => ?_) (fun σ S' hp => ?_) ⟨rfl, none, rfl⟩
  · obtain ⟨rfl, y, rfl⟩ := hp
    rw [List.getElem?_map] at hx
    cases ho : os[i]? with
    | none => rw [ho] at hx; cases hx
    | some o =>
      rw [ho] at hx
      cases hx
      simp -implicitDefEqProofs only [rVar, rC, rBin, rUn, rTst, rChn, rTru, rAnd, rOr, rNot, rAndV, rOrV, rNotV, rIf, rNil, rCons, rTup, rLst, rFn, rCall, rCallK, rSl, rPrt, rNoP, rMt, gNm, q_gN, q_gC, q_gTp, gSb, rNext, rSeq, rDrop, rRet, rRetN, rBrk, rCnt, rIfS, rSet, rPar, rFor, iSeq, iLst, iRg1, iRg2, iZp, iEn, iStrD, rLc, rYes, q_isi2, q_i2N, q_i2B, q_i2I, q_i2S, q_i2T, q_i2L, q_j2N, q_j2B, q_j2I, q_j2S, q_j2T, q_j2L, q_gt2, q_gtT, q_en, q_int2, q_strD, q_rev, q_ixo, q_ext2, q_extT, q_in, q_ins, q_pop, q_any, En.x, wipeD, start', List.getElem?_cons_zero, List.getElem?_cons_succ, List.set_cons_zero, List.set_cons_succ, List.map_cons, List.map_nil, List.length_cons, List.length_nil, List.cons_append, List.nil_append, List.replicate_succ, List.replicate_zero, id, q_asB, q_asI, q_add, q_addS, q_addT, q_addL, q_int, q_sub, q_mul, q_fdiv, q_mod, q_pow, q_neg, q_le, q_ge, q_gt, q_lt, q_ltT, q_isN, q_isB, q_isBi, q_isBs, q_isBn, q_isBt, q_isnt, n_non, n_bl, n_int, n_str, n_tup, n_ref, q_eq, q_eqS, q_eqB, q_ixT, q_ixK, q_ixL, q_ixS, q_slT, q_slL, q_slS, q_set, q_lenT, q_lenK, q_lenS, q_lenL, q_abs, q_intF, q_max, q_min, q_tupT, q_tupL, q_lstT, q_lstL, q_app, q_ext, q_joinL, q_stw, q_seq, q_lst, q_rng, q_rng2, q_zpT, q_zpL, q_truN, q_truB, q_truI, q_truT, q_truL, t_non, t_bl, t_int, t_str, t_tup, q_isiN, q_isiB, q_isiI, q_isiS, q_isiT, i_NoneType_int, i_NoneType_bool, i_NoneType_tuple, i_NoneType_list, i_NoneType_str, i_bool_int, i_bool_bool, i_bool_tuple, i_bool_list, i_bool_str, i_int_int, i_int_bool, i_int_tuple, i_int_list, i_int_str, i_str_int, i_str_bool, i_str_tuple, i_str_list, i_str_str, i_tuple_int, i_tuple_bool, i_tuple_tuple, i_tuple_list, i_tuple_str, i_list_int, i_list_bool, i_list_tuple, i_list_list, i_list_str, i_dict_int, i_dict_bool, i_dict_tuple, i_dict_list, i_dict_str, up_same, g_02, g_02', g_01, g_11, at_0, at_1, ix_0, ix_1, Option.some.injEq, HQ.lst.injEq, exists_eq_left', exists_eq_left, exists_and_left, exists_eq', exists_eq, decide_eq_true_eq, if_true, if_false, ite_true, ite_false, Bool.false_eq_true, reduceIte, reduceCtorEq, Bool.not_true, Bool.not_false, Nat.zero_add, Nat.reduceAdd, Nat.reduceSub, Nat.reduceLeDiff, Nat.reduceLT, Int.reduceLT, Int.reduceLE, Int.reduceEq, Int.reduceNe, Nat.reduceEqDiff, Int.reduceToNat, Int.reducePow, Int.reduceMul, Int.reduceAdd, Int.reduceSub, Int.reduceNeg, and_true, true_and, decide_true, decide_false, rFld, rSetF, rMet, rMetX, rMake, rBy, Y.rIsE, rCallX, rRaise, rTryAs, rTryOnly, rGd, q_fld, q_sfld, q_met, q_isntB, iEnX, iEn4, e4_t, e4_s, e4_k, e4_r, v_t, v_s, q_lset, q_remD, rNv, a_i, a_s, a_t, a_r, a_k, m_T, m_F, v_r, v_k, lg_r, lg_k, t_t, t_r, t_k, l_t, l_r, l_k, s_t, s_s, s_r, s_k, o_1, j_1, y_1, y_2, y_3, z_tt, z_r, z_k, e_1, k_ii, k_ss, k_bb, k_nn, k_tt, k_r, k_k, n_t, n_r, n_k, u_ii, u_si, lj_1, rLstF, rLcF, rFz, rSlM, iZp3, iEn3, eqvAll_nil, pds_emp, iAny, sq_k, sq_r, ls_t, or_false, false_or, fz_r, fz_k, fz_t, fz_n, fz_b, fz_s, q_lstK, q_truK, t_kl, q_isiK, iRevY, rv_r, rv_k, rv_t, rAug, q_i2K, q_j2K, q_srtB, at_2, at_3, q_strF, rPar3, g_03a, g_03b, g_03c, g_03d, g_03e, g_03f, rLam, rAsk, rCallXK, q_ext3, q_ext3T, q_ext3K, rDc, rDNew, gDk, rLock, rLockE, iKys, iVls, iIts, k_inS, k_inI, k_getS, k_getI, k_setS, k_setI, rMetK, rMakeK, q_srtTx, k_srt, k_len, k_keys, k_vals, k_items]
      refine ⟨o, _, rfl, ?_⟩
      have e : os.take (i + 1) = os.take i ++ [o] := by rw [List.take_add_one, ho]; rfl
      simp -implicitDefEqProofs only [rVar, rC, rBin, rUn, rTst, rChn, rTru, rAnd, rOr, rNot, rAndV, rOrV, rNotV, rIf, rNil, rCons, rTup, rLst, rFn, rCall, rCallK, rSl, rPrt, rNoP, rMt, gNm, q_gN, q_gC, q_gTp, gSb, rNext, rSeq, rDrop, rRet, rRetN, rBrk, rCnt, rIfS, rSet, rPar, rFor, iSeq, iLst, iRg1, iRg2, iZp, iEn, iStrD, rLc, rYes, q_isi2, q_i2N, q_i2B, q_i2I, q_i2S, q_i2T, q_i2L, q_j2N, q_j2B, q_j2I, q_j2S, q_j2T, q_j2L, q_gt2, q_gtT, q_en, q_int2, q_strD, q_rev, q_ixo, q_ext2, q_extT, q_in, q_ins, q_pop, q_any, En.x, wipeD, start', List.getElem?_cons_zero, List.getElem?_cons_succ, List.set_cons_zero, List.set_cons_succ, List.map_cons, List.map_nil, List.length_cons, List.length_nil, List.cons_append, List.nil_append, List.replicate_succ, List.replicate_zero, id, q_asB, q_asI, q_add, q_addS, q_addT, q_addL, q_int, q_sub, q_mul, q_fdiv, q_mod, q_pow, q_neg, q_le, q_ge, q_gt, q_lt, q_ltT, q_isN, q_isB, q_isBi, q_isBs, q_isBn, q_isBt, q_isnt, n_non, n_bl, n_int, n_str, n_tup, n_ref, q_eq, q_eqS, q_eqB, q_ixT, q_ixK, q_ixL, q_ixS, q_slT, q_slL, q_slS, q_set, q_lenT, q_lenK, q_lenS, q_lenL, q_abs, q_intF, q_max, q_min, q_tupT, q_tupL, q_lstT, q_lstL, q_app, q_ext, q_joinL, q_stw, q_seq, q_lst, q_rng, q_rng2, q_zpT, q_zpL, q_truN, q_truB, q_truI, q_truT, q_truL, t_non, t_bl, t_int, t_str, t_tup, q_isiN, q_isiB, q_isiI, q_isiS, q_isiT, i_NoneType_int, i_NoneType_bool, i_NoneType_tuple, i_NoneType_list, i_NoneType_str, i_bool_int, i_bool_bool, i_bool_tuple, i_bool_list, i_bool_str, i_int_int, i_int_bool, i_int_tuple, i_int_list, i_int_str, i_str_int, i_str_bool, i_str_tuple, i_str_list, i_str_str, i_tuple_int, i_tuple_bool, i_tuple_tuple, i_tuple_list, i_tuple_str, i_list_int, i_list_bool, i_list_tuple, i_list_list, i_list_str, i_dict_int, i_dict_bool, i_dict_tuple, i_dict_list, i_dict_str, up_same, g_02, g_02', g_01, g_11, at_0, at_1, ix_0, ix_1, Option.some.injEq, HQ.lst.injEq, exists_eq_left', exists_eq_left, exists_and_left, exists_eq', exists_eq, decide_eq_true_eq, if_true, if_false, ite_true, ite_false, Bool.false_eq_true, reduceIte, reduceCtorEq, Bool.not_true, Bool.not_false, Nat.zero_add, Nat.reduceAdd, Nat.reduceSub, Nat.reduceLeDiff, Nat.reduceLT, Int.reduceLT, Int.reduceLE, Int.reduceEq, Int.reduceNe, Nat.reduceEqDiff, Int.reduceToNat, Int.reducePow, Int.reduceMul, Int.reduceAdd, Int.reduceSub, Int.reduceNeg, and_true, true_and, decide_true, decide_false, rFld, rSetF, rMet, rMetX, rMake, rBy, Y.rIsE, rCallX, rRaise, rTryAs, rTryOnly, rGd, q_fld, q_sfld, q_met, q_isntB, iEnX, iEn4, e4_t, e4_s, e4_k, e4_r, v_t, v_s, q_lset, q_remD, rNv, a_i, a_s, a_t, a_r, a_k, m_T, m_F, v_r, v_k, lg_r, lg_k, t_t, t_r, t_k, l_t, l_r, l_k, s_t, s_s, s_r, s_k, o_1, j_1, y_1, y_2, y_3, z_tt, z_r, z_k, e_1, k_ii, k_ss, k_bb, k_nn, k_tt, k_r, k_k, n_t, n_r, n_k, u_ii, u_si, lj_1, rLstF, rLcF, rFz, rSlM, iZp3, iEn3, eqvAll_nil, pds_emp, iAny, sq_k, sq_r, ls_t, or_false, false_or, fz_r, fz_k, fz_t, fz_n, fz_b, fz_s, q_lstK, q_truK, t_kl, q_isiK, iRevY, rv_r, rv_k, rv_t, rAug, q_i2K, q_j2K, q_srtB, at_2, at_3, q_strF, rPar3, g_03a, g_03b, g_03c, g_03d, g_03e, g_03f, rLam, rAsk, rCallXK, q_ext3, q_ext3T, q_ext3K, rDc, rDNew, gDk, rLock, rLockE, iKys, iVls, iIts, k_inS, k_inI, k_getS, k_getI, k_setS, k_setI, rMetK, rMakeK, q_srtTx, k_srt, k_len, k_keys, k_vals, k_items]
      split
      · rename_i hb
        refine hN _ _ ⟨rfl, some (ofO o), ?_⟩
        rw [e, List.foldl_append, List.foldl_cons, List.foldl_nil, if_pos hb]
      · rename_i hb
        refine hN _ _ ⟨rfl, some (ofO o), ?_⟩
        rw [e, List.foldl_append, List.foldl_cons, List.foldl_nil, if_neg hb]
  · obtain ⟨rfl, y, rfl⟩ := hp
    rw [List.length_map, List.take_length]
    simp -implicitDefEqProofs only [rVar, rC, rBin, rUn, rTst, rChn, rTru, rAnd, rOr, rNot, rAndV, rOrV, rNotV, rIf, rNil, rCons, rTup, rLst, rFn, rCall, rCallK, rSl, rPrt, rNoP, rMt, gNm, q_gN, q_gC, q_gTp, gSb, rNext, rSeq, rDrop, rRet, rRetN, rBrk, rCnt, rIfS, rSet, rPar, rFor, iSeq, iLst, iRg1, iRg2, iZp, iEn, iStrD, rLc, rYes, q_isi2, q_i2N, q_i2B, q_i2I, q_i2S, q_i2T, q_i2L, q_j2N, q_j2B, q_j2I, q_j2S, q_j2T, q_j2L, q_gt2, q_gtT, q_en, q_int2, q_strD, q_rev, q_ixo, q_ext2, q_extT, q_in, q_ins, q_pop, q_any, En.x, wipeD, start', List.getElem?_cons_zero, List.getElem?_cons_succ, List.set_cons_zero, List.set_cons_succ, List.map_cons, List.map_nil, List.length_cons, List.length_nil, List.cons_append, List.nil_append, List.replicate_succ, List.replicate_zero, id, q_asB, q_asI, q_add, q_addS, q_addT, q_addL, q_int, q_sub, q_mul, q_fdiv, q_mod, q_pow, q_neg, q_le, q_ge, q_gt, q_lt, q_ltT, q_isN, q_isB, q_isBi, q_isBs, q_isBn, q_isBt, q_isnt, n_non, n_bl, n_int, n_str, n_tup, n_ref, q_eq, q_eqS, q_eqB, q_ixT, q_ixK, q_ixL, q_ixS, q_slT, q_slL, q_slS, q_set, q_lenT, q_lenK, q_lenS, q_lenL, q_abs, q_intF, q_max, q_min, q_tupT, q_tupL, q_lstT, q_lstL, q_app, q_ext, q_joinL, q_stw, q_seq, q_lst, q_rng, q_rng2, q_zpT, q_zpL, q_truN, q_truB, q_truI, q_truT, q_truL, t_non, t_bl, t_int, t_str, t_tup, q_isiN, q_isiB, q_isiI, q_isiS, q_isiT, i_NoneType_int, i_NoneType_bool, i_NoneType_tuple, i_NoneType_list, i_NoneType_str, i_bool_int, i_bool_bool, i_bool_tuple, i_bool_list, i_bool_str, i_int_int, i_int_bool, i_int_tuple, i_int_list, i_int_str, i_str_int, i_str_bool, i_str_tuple, i_str_list, i_str_str, i_tuple_int, i_tuple_bool, i_tuple_tuple, i_tuple_list, i_tuple_str, i_list_int, i_list_bool, i_list_tuple, i_list_list, i_list_str, i_dict_int, i_dict_bool, i_dict_tuple, i_dict_list, i_dict_str, up_same, g_02, g_02', g_01, g_11, at_0, at_1, ix_0, ix_1, Option.some.injEq, HQ.lst.injEq, exists_eq_left', exists_eq_left, exists_and_left, exists_eq', exists_eq, decide_eq_true_eq, if_true, if_false, ite_true, ite_false, Bool.false_eq_true, reduceIte, reduceCtorEq, Bool.not_true, Bool.not_false, Nat.zero_add, Nat.reduceAdd, Nat.reduceSub, Nat.reduceLeDiff, Nat.reduceLT, Int.reduceLT, Int.reduceLE, Int.reduceEq, Int.reduceNe, Nat.reduceEqDiff, Int.reduceToNat, Int.reducePow, Int.reduceMul, Int.reduceAdd, Int.reduceSub, Int.reduceNeg, and_true, true_and, decide_true, decide_false, rFld, rSetF, rMet, rMetX, rMake, rBy, Y.rIsE, rCallX, rRaise, rTryAs, rTryOnly, rGd, q_fld, q_sfld, q_met, q_isntB, iEnX, iEn4, e4_t, e4_s, e4_k, e4_r, v_t, v_s, q_lset, q_remD, rNv, a_i, a_s, a_t, a_r, a_k, m_T, m_F, v_r, v_k, lg_r, lg_k, t_t, t_r, t_k, l_t, l_r, l_k, s_t, s_s, s_r, s_k, o_1, j_1, y_1, y_2, y_3, z_tt, z_r, z_k, e_1, k_ii, k_ss, k_bb, k_nn, k_tt, k_r, k_k, n_t, n_r, n_k, u_ii, u_si, lj_1, rLstF, rLcF, rFz, rSlM, iZp3, iEn3, eqvAll_nil, pds_emp, iAny, sq_k, sq_r, ls_t, or_false, false_or, fz_r, fz_k, fz_t, fz_n, fz_b, fz_s, q_lstK, q_truK, t_kl, q_isiK, iRevY, rv_r, rv_k, rv_t, rAug, q_i2K, q_j2K, q_srtB, at_2, at_3, q_strF, rPar3, g_03a, g_03b, g_03c, g_03d, g_03e, g_03f, rLam, rAsk, rCallXK, q_ext3, q_ext3T, q_ext3K, rDc, rDNew, gDk, rLock, rLockE, iKys, iVls, iIts, k_inS, k_inI, k_getS, k_getI, k_setS, k_setI, rMetK, rMakeK, q_srtTx, k_srt, k_len, k_keys, k_vals, k_items]
    exact k
end K01
namespace K01
open PySem PySem.Spec PyProof.Rows L2 Y
theorem pu_law_leasts : ∀ ds S Q, sp_law_leasts ds S Q NoX → rd_law_leasts { nx := fun _ S => Q .non S, rt := Q } (start' 8 ds) S := by
  rintro _ S Q ⟨b, many, rfl, hb, m0, m1, k⟩
  unfold rd_law_leasts
  array_get_dec
  refine figure_of hb fun first S1 h1 n1 => ?_
  array_get_dec
  intro p hp
  have hpb : p ≠ b := n1.bx.ne hp
  have hpS : S p = none := by
    cases e : S p with
    | none => rfl
    | some u =>
      by_cases z : p = b
      · exact absurd z hpb
      · rw [n1.old p u z e] at hp; cases hp
  have g1 : up S1 p (.lst []) p = some (.lst (([] : List (Option (List Int))).map ofO)) := up_same
  have n2 : Nx b S (up S1 p (.lst [])) := n1.trans (Nx.new n1.bx hp)
  generalize up S1 p (.lst []) = S2 at g1 n2
  have keep : ∀ {S' : Hq} {o : HQ}, Nx b S S' → Nx b S (up S' p o) := fun {S' o} n => ⟨n.bx.put hpb, fun c u ne h => by rw [up_ne (fun z => by rw [z, hpS] at h; cases h)]; exact n.old c u ne h⟩
  array_get_dec
  refine ⟨⟨by omega, by omega⟩, ?_⟩
  refine loop_idx (fun i σ S' => ∃ os : List (Option (List Int)), ∃ u_turn u_due u_one : Option D, os.length = i ∧ (∀ o ∈ os, ∀ hs, o = some hs → hs.length ≤ 1000) ∧ S' p = some (.lst (os.map ofO)) ∧ Nx b S S' ∧ σ = [some (.ref b), some (.int many), some (nm first), some (.ref p), u_turn, u_due, u_one, none]) (fun _ _ _ _ _ => trivial) (fun i x σ S' hx hi N hN => ?_) (fun σ S' hi => ?_) ⟨[], _, _, _, rfl, by simp, g1, n2, rfl⟩
  · obtain ⟨os, z1, z2, z3, hl, ho, g, nx, rfl⟩ := hi
    obtain ⟨hi, rfl⟩ := rangeD_get hx
    array_get_dec
    refine ⟨t_lst g, ?_⟩
    refine take_of nx.bx (by decide) (by decide) fun u S3 _ _ n3 => ?_
    have g := n3.get hpb g
    have nx := nx.trans n3
    sizeOf_list_dec
    by_cases c : u = 0
    · rw [if_pos c]
      refine ⟨_, g, by rw [List.length_map]; omega, ?_⟩
      rw [show os.map ofO ++ [D.non] = (os ++ [none]).map ofO by rw [List.map_append]; rfl]
      refine hN _ _ ⟨os ++ [none], _, _, _, by rw [List.length_append, hl]; rfl, fun o h hs e => ?_, up_same, keep nx, rfl⟩
      rcases List.mem_append.mp h with h | h
      · exact ho o h hs e
      · rw [List.mem_singleton.mp h] at e; cases e
    · rw [if_neg c]
      refine beside_of h1 nx.bx fun ms S4 hm n4 => ?_
      have g := n4.get hpb g
      have nx := nx.trans n4
      sizeOf_list_dec
      refine ⟨_, g, by rw [List.length_map]; omega, ?_⟩
      rw [show os.map ofO ++ [nm ms] = (os ++ [some ms]).map ofO by rw [List.map_append]; rfl]
      refine hN _ _ ⟨os ++ [some ms], _, _, _, by rw [List.length_append, hl]; rfl, fun o h hs e => ?_, up_same, keep nx, rfl⟩
      rcases List.mem_append.mp h with h | h
      · exact ho o h hs e
      · rw [List.mem_singleton.mp h] at e; cases e
        obtain ⟨_, _, _, _, _, _, _, h⟩ := hm
        omega
  · obtain ⟨os, z1, z2, z3, hl, ho, g, nx, rfl⟩ := hi
    rw [rangeD_len] at hl
    clear g1 n2
    have fl : lst_of os = os.foldl (fun acc x => if blw x acc then x else acc) none := rfl
    array_get_dec
    refine ⟨_, g, ?_⟩
    refine loop_idx (fun i σ S'' => S'' = S' ∧ ∃ u_one : Option D, σ = [some (.ref b), some (.int many), some (nm first), some (.ref p), z1, some (ofO ((os.take i).foldl (fun acc x => if blw x acc then x else acc) none)), u_one, none]) (fun i σ S'' _ h => by rw [h.1]; exact g) (fun i x σ S'' hx hi N hN => ?_) (fun σ S'' hi => ?_) ⟨rfl, _, rfl⟩
    · obtain ⟨rfl, z4, rfl⟩ := hi
      rw [List.getElem?_map] at hx
      obtain ⟨o, hoi, rfl⟩ := Option.map_eq_some_iff.mp hx
      have e : os.take (i + 1) = os.take i ++ [o] := by rw [List.take_succ, hoi]; rfl
      have hd : ∀ hs, (os.take i).foldl (fun acc x => if blw x acc then x else acc) none = some hs → hs.length ≤ 1000 := by
        intro hs h
        rcases fold_mem _ _ h with z | z
        · cases z
        · exact ho _ (List.mem_of_mem_take z) hs rfl
      array_get_dec
      refine ⟨o, _, rfl, ho o (List.mem_of_getElem? hoi), hd, ?_⟩
      cases hb2 : blw o ((os.take i).foldl (fun acc x => if blw x acc then x else acc) none) with
      | true =>
        sizeOf_list_dec
        refine hN _ _ ⟨rfl, some (ofO o), ?_⟩
        rw [e, List.foldl_append, List.foldl_cons, List.foldl_nil, if_pos hb2]
      | false =>
        sizeOf_list_dec
        refine hN _ _ ⟨rfl, some (ofO o), ?_⟩
        rw [e, List.foldl_append, List.foldl_cons, List.foldl_nil, if_neg (by rw [hb2]; decide)]
    · obtain ⟨rfl, z4, rfl⟩ := hi
      rw [List.length_map, List.take_length, ← fl]
      have hd : ∀ hs, lst_of os = some hs → hs.length ≤ 1000 := by
        intro hs h
        rcases fold_mem _ _ h with z | z
        · cases z
        · exact ho _ z hs rfl
      array_get_dec
      refine ⟨_, g, ?_⟩
      refine lc_mp ofO (fun _ => D.non) g os (fun o _ Q q => by sizeOf_list_dec; exact q) (by omega) ?_
      array_get_dec
      refine ⟨_, g, os, rfl, ?_⟩
      refine ⟨_, rfl, ?_, ?_⟩
      · cases hlo : lst_of os with
        | none => trivial
        | some hs =>
          refine ⟨by rw [List.length_map]; have := hd hs hlo; omega, fun x hx => ?_⟩
          obtain ⟨j, _, rfl⟩ := List.mem_map.mp hx
          trivial
      sizeOf_list_dec
      refine ⟨List.replicate os.length none, by rw [List.map_replicate, List.map_const']; rfl, ?_⟩
      rw [lst_nones]
      simp only [ofO]
      sizeOf_list_dec
      refine ⟨[], rfl, ?_⟩
      exact k _ nx
end K01
namespace K01
open PySem PySem.Spec PyProof.Rows L2 Y
theorem pu_law : ∀ ds S Q, sp_law ds S Q NoX → rd_law { nx := fun _ S => Q .non S, rt := Q } (start' 4 ds) S := by
  rintro _ S Q ⟨ns, rfl, hl, ⟨P, ht⟩, k⟩
  unfold rd_law
  array_get_dec
  simp only [List.length_map]
  generalize hM : (if (if (8 : Int) < ns.length then (8 : Int) else ns.length) > 3 then (if (8 : Int) < ns.length then (8 : Int) else ns.length) else 3) = M
  have hM1 : 0 ≤ M ∧ M ≤ 8 := by subst hM; (repeat' split) <;> omega
  clear hM
  refine ⟨⟨by omega, by omega⟩, ?_⟩
  refine loop_idx (fun i σ S' => ∃ u_k u_box u_turn : Option D, S' P = some (.tb (Str.ofString "_law_checked")) ∧ σ = [some (.kl (ns.map D.int)), u_k, u_box, u_turn]) (fun _ _ _ _ _ => trivial) (fun i0 x σ S1 hx hp N hN => ?_) (fun σ S' hp => ?_) ⟨_, _, _, ht, rfl⟩
  rotate_left
  · obtain ⟨y1, y2, y3, _, rfl⟩ := hp
    array_get_dec
    exact k S'
  clear ht
  obtain ⟨y1, y2, y3, ht, rfl⟩ := hp
  obtain ⟨hi, rfl⟩ := rangeD_get hx
  array_get_dec
  refine ⟨ns, _, rfl, hl, by omega, by omega, fun b g s hb => ?_⟩
  have bx0 : Bx (up S1 b (.lst [.int g, .int s])) b := ⟨g, s, up_same⟩
  have hPb : P ≠ b := fun z => by rw [z, hb] at ht; cases ht
  have ht : up S1 b (.lst [.int g, .int s]) P = some (.tb (Str.ofString "_law_checked")) := by rw [up_ne hPb]; exact ht
  generalize up S1 b (.lst [.int g, .int s]) = S2 at bx0 ht ⊢
  array_get_dec
  refine loop_idx (fun j σ S' => ∃ u_turn : Option D, Bx S' b ∧ S' P = some (.tb (Str.ofString "_law_checked")) ∧ σ = [some (.kl (ns.map D.int)), some (.int (0 + (i0 : Int))), some (.ref b), u_turn]) (fun _ _ _ _ _ => trivial) (fun j x σ S' hx hp N2 hN2 => ?_) (fun σ S' hp => ?_) ⟨_, bx0, ht, rfl⟩
  · obtain ⟨z1, bx, ht, rfl⟩ := hp
    array_get_dec
    refine ⟨b, rfl, bx, ⟨P, ht⟩, fun S3 n3 => ?_⟩
    sizeOf_list_dec
    refine ⟨b, rfl, n3.bx, fun S4 n4 => ?_⟩
    sizeOf_list_dec
    refine take_of n4.bx (by decide) (by decide) fun m S5 _ _ n5 => ?_
    refine ⟨b, m, rfl, n5.bx, by omega, by omega, fun S6 n6 => ?_⟩
    sizeOf_list_dec
    exact hN2 _ _ ⟨_, n6.bx, n6.get hPb (n5.get hPb (n4.get hPb (n3.get hPb ht))), rfl⟩
  · clear bx0 ht
    obtain ⟨z1, bx, ht, rfl⟩ := hp
    array_get_dec
    by_cases c : (0 : Int) + (i0 : Int) = 0
    · rw [if_pos c]
      refine pick_of bx (by simp) (by simp) fun d S3 hd n3 => ?_
      obtain ⟨m, hm, rfl⟩ := mem_ints (l := [_, _, _]) hd
      have hm1 : 0 ≤ m ∧ m ≤ 60 := by
        have : ∀ i ∈ ([60, 59, 30] : List Int), 0 ≤ i ∧ i ≤ 60 := by decide
        exact this m hm
      refine ⟨b, m, rfl, n3.bx, hm1.1, hm1.2, fun S4 n4 => ?_⟩
      sizeOf_list_dec
      exact hN _ _ ⟨_, _, _, n4.get hPb (n3.get hPb ht), rfl⟩
    · rw [if_neg c]
      exact hN _ _ ⟨_, _, _, ht, rfl⟩
end K01
namespace K01
open PySem PySem.Spec PyProof.Rows L2 Y

def topS (i : Nat) : Stmt := PySem.Challenge.pw_maypoint_k01_numbers_and_what_is_none.main.body.getD i (.Pass ⟨0, 0, 0, 0⟩)

abbrev s_law_box : Stmt := topS 20
theorem sc_law_box : FnScope ["script", "k", "cell", "great"] ["script", "k"] (defScope s_law_box) := ⟨rfl, rfl, rfl, by decide +kernel, rfl, by decide +kernel, by decide +kernel⟩

abbrev s_law_take : Stmt := topS 21
theorem sc_law_take : FnScope ["box", "many", "raw", "digit"] ["box", "many"] (defScope s_law_take) := ⟨rfl, rfl, rfl, by decide +kernel, rfl, by decide +kernel, by decide +kernel⟩

abbrev s_law_pick : Stmt := topS 22
theorem sc_law_pick : FnScope ["box", "some"] ["box", "some"] (defScope s_law_pick) := ⟨rfl, rfl, rfl, by decide +kernel, rfl, by decide +kernel, by decide +kernel⟩

abbrev s_law_entry : Stmt := topS 23
theorem sc_law_entry : FnScope ["box", "way"] ["box"] (defScope s_law_entry) := ⟨rfl, rfl, rfl, by decide +kernel, rfl, by decide +kernel, by decide +kernel⟩

abbrev s_law_figure : Stmt := topS 24
theorem sc_law_figure : FnScope ["box", "many", "cells", "turn"] ["box"] (defScope s_law_figure) := ⟨rfl, rfl, rfl, by decide +kernel, rfl, by decide +kernel, by decide +kernel⟩

abbrev s_law_same : Stmt := topS 30
theorem sc_law_same : FnScope ["told", "due", "is_kind", "one", "other"] ["told", "due"] (defScope s_law_same) := ⟨rfl, rfl, rfl, by decide +kernel, rfl, by decide +kernel, by decide +kernel⟩

abbrev s_law_heard : Stmt := topS 31
theorem sc_law_heard : FnScope ["ask", "fault", "other"] ["ask"] (defScope s_law_heard) := ⟨rfl, rfl, rfl, by decide +kernel, rfl, by decide +kernel, by decide +kernel⟩

abbrev s_is_whole : Stmt := topS 13
theorem sc_is_whole : FnScope ["value"] ["value"] (defScope s_is_whole) := ⟨rfl, rfl, rfl, by decide +kernel, rfl, by decide +kernel, by decide +kernel⟩

abbrev s_is_name : Stmt := topS 14
theorem sc_is_name : FnScope ["value"] ["value"] (defScope s_is_name) := ⟨rfl, rfl, rfl, by decide +kernel, rfl, by decide +kernel, by decide +kernel⟩

abbrev s_number_fault : Stmt := topS 15
theorem sc_number_fault : FnScope ["value", "at", "entry"] ["value"] (defScope s_number_fault) := ⟨rfl, rfl, rfl, by decide +kernel, rfl, by decide +kernel, by decide +kernel⟩

abbrev s_check_number : Stmt := topS 16
theorem sc_check_number : FnScope ["value", "at"] ["value"] (defScope s_check_number) := ⟨rfl, rfl, rfl, by decide +kernel, rfl, by decide +kernel, by decide +kernel⟩

abbrev s_law_spoilt : Stmt := topS 28
theorem sc_law_spoilt : FnScope ["box", "one", "odd", "cells", "turn", "way"] ["box", "one"] (defScope s_law_spoilt) := ⟨rfl, rfl, rfl, by decide +kernel, rfl, by decide +kernel, by decide +kernel⟩

abbrev s_law_fault : Stmt := topS 29
theorem sc_law_fault : FnScope ["value", "spot"] ["value"] (defScope s_law_fault) := ⟨rfl, rfl, rfl, by decide +kernel, rfl, by decide +kernel, by decide +kernel⟩

abbrev s_law_checked : Stmt := topS 32
theorem sc_law_checked : FnScope ["box", "one", "turn", "value", "place", "due"] ["box"] (defScope s_law_checked) := ⟨rfl, rfl, rfl, by decide +kernel, rfl, by decide +kernel, by decide +kernel⟩

abbrev s_law_beside : Stmt := topS 25
theorem sc_law_beside : FnScope ["box", "one", "way", "cells", "spot", "turn"] ["box", "one"] (defScope s_law_beside) := ⟨rfl, rfl, rfl, by decide +kernel, rfl, by decide +kernel, by decide +kernel⟩

abbrev s_is_below : Stmt := topS 17
theorem sc_is_below : FnScope ["one", "two"] ["one", "two"] (defScope s_is_below) := ⟨rfl, rfl, rfl, by decide +kernel, rfl, by decide +kernel, by decide +kernel⟩

abbrev s_law_less : Stmt := topS 26
theorem sc_law_less : FnScope ["one", "two", "spot"] ["one", "two"] (defScope s_law_less) := ⟨rfl, rfl, rfl, by decide +kernel, rfl, by decide +kernel, by decide +kernel⟩

abbrev s_law_under : Stmt := topS 27
theorem sc_law_under : FnScope ["one", "two"] ["one", "two"] (defScope s_law_under) := ⟨rfl, rfl, rfl, by decide +kernel, rfl, by decide +kernel, by decide +kernel⟩

abbrev s_law_compared : Stmt := topS 33
theorem sc_law_compared : FnScope ["box", "one", "two", "lead", "other", "pairs", "low", "high"] ["box"] (defScope s_law_compared) := ⟨rfl, rfl, rfl, by decide +kernel, rfl, by decide +kernel, by decide +kernel⟩

abbrev s_least_of : Stmt := topS 18
theorem sc_least_of : FnScope ["row", "least", "entry"] ["row"] (defScope s_least_of) := ⟨rfl, rfl, rfl, by decide +kernel, rfl, by decide +kernel, by decide +kernel⟩

abbrev s_law_leasts : Stmt := topS 34
theorem sc_law_leasts : FnScope ["box", "many", "first", "line", "turn", "due", "one", "none"] ["box", "many"] (defScope s_law_leasts) := ⟨rfl, rfl, rfl, by decide +kernel, rfl, by decide +kernel, by decide +kernel⟩

abbrev s_law : Stmt := topS 35
theorem sc_law : FnScope ["script", "k", "box", "turn"] ["script"] (defScope s_law) := ⟨rfl, rfl, rfl, by decide +kernel, rfl, by decide +kernel, by decide +kernel⟩

structure Df (K : PySem.W.Frag) (mg : Str → Option Value) (x : Str) (st : Stmt) (f : Addr) (fd : FuncData) (ps : List Str) : Prop where
  fn : Fun K x x st f fd
  g : mg x = some (.ref f)
  b : Binds K fd ps []

theorem df_mk {K : PySem.W.Frag} {h : Heap} {mg : Str → Option Value} {x : Str} {st : Stmt} {f : Addr} {oc : Value} {od an : Option Addr} {osl : Array (Option Value)} {kV doc pm cdv ct : Value} {ps : List Str} (X : K.In h) (G : h.Ns mainGlobals mg) (a : PySem.W.nsIn K mainGlobals x = some (some (.ref f)))
  (l : K.lookup f = some ⟨oc, od, .func (PySem.W.fnOf x x (defArgs st) (defBody st) (defScope st) .none kV doc pm an cdv ct), osl⟩) (c : PySem.W.codeIn K cdv x = true) (k : PySem.W.keepIn K (.ref f) = true)
  (hb : ∀ (kV doc pm : Value) (an : Option Addr) (cdv ct : Value) (us : List Value), us.length = ps.length → bindArgs (PySem.W.fnOf x x (defArgs st) (defBody st) (defScope st) .none kV doc pm an cdv ct) ⟨us, []⟩ = pure (ps.zip us)) :
  Df K mg x st f (PySem.W.fnOf x x (defArgs st) (defBody st) (defScope st) .none kV doc pm an cdv ct) ps :=
  ⟨fun_mk l c k, PySem.W.mg_of X G a, (fun_mk l c k).binds hb⟩

structure Dm (K : PySem.W.Frag) (C : Addr) (x qual : Str) (st : Stmt) (f : Addr) (fd : FuncData) (ps : List Str) : Prop where
  fn : Fun K x qual st f fd
  m : Meth K C x f
  b : Binds K fd ps []
structure Di (K : PySem.W.Frag) (C : Addr) (qual : Str) (st : Stmt) (f : Addr) (fd : FuncData) (ps : List Str) : Prop where
  fn : Fun K "__init__" qual st f fd
  made : Mk K C f
  b : Binds K fd ps []

structure Ck (K : PySem.W.Frag) (mg : Str → Option Value) (n : String) (C : Addr) : Prop where
  g : mg (Str.ofString n) = some (.ref C)
  cn : CN K n C

theorem ck_mk {K : PySem.W.Frag} {h : Heap} {mg : Str → Option Value} {n : String} {C : Addr} (X : K.In h) (G : h.Ns mainGlobals mg) (a : PySem.W.nsIn K mainGlobals (Str.ofString n) = some (some (.ref C))) : Ck K mg n C := ⟨PySem.W.mg_of X G a, a⟩

section
variable {K : PySem.W.Frag} {mg : Str → Option Value} {n : String} {C : Addr} (q : Ck K mg n C)
include q

theorem kc_mk (pg : PySem.W.plainGet K C Str.empty = true) (hd : PySem.W.hasDictIn K C = true) (po : PySem.W.plainOver K C = true) (sa : PySem.W.findIn K (.ref C) "__setattr__" = some (some (.builtin "object.__setattr__"))) : Kc K n C := ⟨q.cn, ⟨pg, hd, po, sa⟩⟩

theorem na_mk {f : Str} (z : PySem.W.findIn K (.ref C) f = some none) : NoAttr K C f := z

theorem mo_mk {l : List (String × Bool)} (h : MOk K (.ref C) (mL l)) : MOk K (.ref C) (mL l) := h

theorem ed_mk (h1 : PySem.W.findIn K (.ref C) "__getattribute__" = some (some (.builtin "BaseException.__getattribute__"))) (h2 : PySem.W.findIn K (.ref C) "__getattr__" = some none) (h3 : PySem.W.subIn K (.ref C) (.type "BaseException") = some true) (h4 : PySem.W.hasDictIn K C = true) (h5 : PySem.W.isClsIn K C = true) (h6 : PySem.W.findIn K (.ref C) "__class__" = some (some (.builtin "object.__class__"))) (h7 : PySem.W.specialIn K (.builtin "object.__class__") "__get__" = some (some (.builtin "getset_descriptor.__get__"))) (h8 : PySem.W.takesIn K (.builtin "object.__class__") = some true) (h9 : PySem.W.mroIn K C (.type "object") = some true) : ExcD K C := ⟨h1, h2, h3, h4, h5, h6, h7, h8, h9⟩

theorem le_mk_LA {st : Stmt} {p1 p2 q1 q2 q3 q4 : Pos} {nm qn qX : Str} {N : Addr} {bs bm : List Value} {sn : List Str} {sub : List Value} {ab : Bool} {col : Option Bool} {dd : Option Addr} {m0 m1 m2 m3 m5 : Option Value} {f1 : Addr} {od an : Option Addr} {sl : Array (Option Value)} {oc dc pm cd ct : Value}
  (xL : K.lookup C = some (excClassObj nm qn C N bs bm true sn sub ab col dd m0 m1 m2 m3 m5 "ValueError.__new__")) (hb : PySem.HandSPX.refsVE bm = true) (sa : PySem.W.findIn K (.ref C) "__setattr__" = some (some (.builtin "object.__setattr__"))) (ga : PySem.W.findIn K (.ref C) "__getattribute__" = some (some (.builtin "BaseException.__getattribute__"))) (gg : PySem.W.findIn K (.ref C) "__getattr__" = some none) (nb : PySem.W.findIn K (.ref C) "at" = some none)
  (a1 : PySem.W.findIn K (.ref C) "__init__" = some (some (.ref f1))) (t1 : PySem.W.typeIn K (.ref f1) = some (.type "function")) (hA : defArgs st = PySem.LA.iA p1 p2) (hB : defBody st = PySem.LA.iB q1 q2 q3 q4) (hS : defScope st = PySem.LA.iS) (l1 : K.lookup f1 = some ⟨oc, od, .func (PySem.W.fnOf "__init__" qX (defArgs st) (defBody st) (defScope st) .none .none dc pm an cd ct), sl⟩) (c1 : PySem.W.codeIn K cd qX = true)
  (kC : PySem.W.keepIn K (.ref C) = true) (eC : PySem.W.subIn K (.ref C) (.type "BaseException") = some true) (tC : PySem.W.typeIn K (.ref C) = some (.type "type")) (hC : PySem.W.hasDictIn K C = true) (te : PySem.W.exmOne K (.ref C) (.ref C) = some true) : PySem.LA.LowTxt K mg (Str.ofString n) qX C f1 := by
  rw [hA, hB, hS] at l1
  exact { gC := q.g, cls := ⟨nm, qn, N, bs, bm, sn, sub, ab, col, dd, m0, m1, m2, m3, m5, xL, hb⟩, sa := sa, ga := ga, gg := gg, noN := nb, iC := a1, tC := t1, kC := kC, exC := eC, tyC := tC, hdC := hC, te := te, fn := ⟨_, _, _, _, _, _, _, _, _, _, _, _, _, _, l1, c1⟩ }

end

theorem dm_mk {K : PySem.W.Frag} {mg : Str → Option Value} {n : String} {x qual : Str} {st : Stmt} {f C : Addr} {oc : Value} {od an : Option Addr} {osl : Array (Option Value)} {kV doc pm cdv ct : Value} {ps : List Str} (q : Ck K mg n C) (a : PySem.W.findIn K (.ref C) x = some (some (.ref f))) (i : PySem.W.isFn K (.ref f) = true) (l : K.lookup f = some ⟨oc, od, .func (PySem.W.fnOf x qual (defArgs st) (defBody st) (defScope st) .none kV doc pm an cdv ct), osl⟩) (c : PySem.W.codeIn K cdv qual = true) (k : PySem.W.keepIn K (.ref f) = true)
  (hb : ∀ (kV doc pm : Value) (an : Option Addr) (cdv ct : Value) (us : List Value), us.length = ps.length → bindArgs (PySem.W.fnOf x qual (defArgs st) (defBody st) (defScope st) .none kV doc pm an cdv ct) ⟨us, []⟩ = pure (ps.zip us)) : Dm K C x qual st f (PySem.W.fnOf x qual (defArgs st) (defBody st) (defScope st) .none kV doc pm an cdv ct) ps := have F := fun_mk (st := st) l c k
  ⟨F, ⟨a, i, k⟩, Binds.all (hb kV doc pm an cdv ct)⟩

theorem di_mk {K : PySem.W.Frag} {qual : Str} {st : Stmt} {f C : Addr} {fd : FuncData} {ps : List Str} (d : Dm K C "__init__" qual st f fd ps) (m : PySem.W.makesIn K C = true) (k : PySem.W.keepIn K (.ref C) = true) : Di K C qual st f fd ps := ⟨d.fn, ⟨m, d.m.at_, d.m.fn, k⟩, d.b⟩

structure Tx (K : PySem.W.Frag) (mg : Str → Option Value) (base : Heap) where
  C_BadDeed : Addr
  g_BadDeed : mg "BadDeed" = some (.ref C_BadDeed)
  cn_BadDeed : CN K "BadDeed" C_BadDeed
  C_BadNumber : Addr
  g_BadNumber : mg "BadNumber" = some (.ref C_BadNumber)
  cn_BadNumber : CN K "BadNumber" C_BadNumber
  C_BadOctets : Addr
  g_BadOctets : mg "BadOctets" = some (.ref C_BadOctets)
  cn_BadOctets : CN K "BadOctets" C_BadOctets
  C_BadPast : Addr
  g_BadPast : mg "BadPast" = some (.ref C_BadPast)
  cn_BadPast : CN K "BadPast" C_BadPast
  C_BadRow : Addr
  g_BadRow : mg "BadRow" = some (.ref C_BadRow)
  cn_BadRow : CN K "BadRow" C_BadRow
  C_BadRule : Addr
  g_BadRule : mg "BadRule" = some (.ref C_BadRule)
  cn_BadRule : CN K "BadRule" C_BadRule
  C_BadStretch : Addr
  g_BadStretch : mg "BadStretch" = some (.ref C_BadStretch)
  cn_BadStretch : CN K "BadStretch" C_BadStretch
  C_BadText : Addr
  g_BadText : mg "BadText" = some (.ref C_BadText)
  cn_BadText : CN K "BadText" C_BadText
  C_OwnError : Addr
  g_OwnError : mg "OwnError" = some (.ref C_OwnError)
  cn_OwnError : CN K "OwnError" C_OwnError
  C_Refused : Addr
  g_Refused : mg "Refused" = some (.ref C_Refused)
  cn_Refused : CN K "Refused" C_Refused
  fI_BadNumber : Addr
  low_BadNumber : PySem.LA.LowTxt K mg "BadNumber" "BadNumber.__init__" C_BadNumber fI_BadNumber
  x_BadNumber : ExcD K C_BadNumber
  mo_BadNumber : MOk K (.ref C_BadNumber) (mL [("BadNumber", true)])
  tb : TbOk K [("BadNumber", "BadDeed", true, false), ("BadNumber", "BadOctets", true, false), ("BadNumber", "BadPast", true, false), ("BadNumber", "BadRow", true, false), ("BadNumber", "BadRule", true, false), ("BadNumber", "BadStretch", true, false), ("BadNumber", "BadText", true, false), ("BadNumber", "OwnError", true, true), ("BadNumber", "Refused", true, false), ("BadNumber", "ValueError", false, true)]
  f_law_box : Addr
  fd_law_box : FuncData
  d_law_box : Df K mg "_law_box" s_law_box f_law_box fd_law_box ["script", "k"]
  f_law_take : Addr
  fd_law_take : FuncData
  d_law_take : Df K mg "_law_take" s_law_take f_law_take fd_law_take ["box", "many"]
  f_law_pick : Addr
  fd_law_pick : FuncData
  d_law_pick : Df K mg "_law_pick" s_law_pick f_law_pick fd_law_pick ["box", "some"]
  f_law_entry : Addr
  fd_law_entry : FuncData
  d_law_entry : Df K mg "_law_entry" s_law_entry f_law_entry fd_law_entry ["box"]
  f_law_figure : Addr
  fd_law_figure : FuncData
  d_law_figure : Df K mg "_law_figure" s_law_figure f_law_figure fd_law_figure ["box"]
  f_law_same : Addr
  fd_law_same : FuncData
  d_law_same : Df K mg "_law_same" s_law_same f_law_same fd_law_same ["told", "due"]
  f_law_heard : Addr
  fd_law_heard : FuncData
  d_law_heard : Df K mg "_law_heard" s_law_heard f_law_heard fd_law_heard ["ask"]
  f_is_whole : Addr
  fd_is_whole : FuncData
  d_is_whole : Df K mg "is_whole" s_is_whole f_is_whole fd_is_whole ["value"]
  f_is_name : Addr
  fd_is_name : FuncData
  d_is_name : Df K mg "is_name" s_is_name f_is_name fd_is_name ["value"]
  f_number_fault : Addr
  fd_number_fault : FuncData
  d_number_fault : Df K mg "number_fault" s_number_fault f_number_fault fd_number_fault ["value"]
  f_check_number : Addr
  fd_check_number : FuncData
  d_check_number : Df K mg "check_number" s_check_number f_check_number fd_check_number ["value"]
  f_law_spoilt : Addr
  fd_law_spoilt : FuncData
  d_law_spoilt : Df K mg "_law_spoilt" s_law_spoilt f_law_spoilt fd_law_spoilt ["box", "one"]
  f_law_fault : Addr
  fd_law_fault : FuncData
  d_law_fault : Df K mg "_law_fault" s_law_fault f_law_fault fd_law_fault ["value"]
  f_law_checked : Addr
  fd_law_checked : FuncData
  d_law_checked : Df K mg "_law_checked" s_law_checked f_law_checked fd_law_checked ["box"]
  cc_law_checked : Addr
  pp_law_checked : Addr
  fl_law_checked : FunL K "_law_checked" "_law_checked" s_law_checked f_law_checked fd_law_checked cc_law_checked
  ti_law_checked : PySem.W.tabIn K "_law_checked" = some (cc_law_checked, pp_law_checked)
  tb_law_checked : LamX.TabB base mg cc_law_checked pp_law_checked
  f_law_beside : Addr
  fd_law_beside : FuncData
  d_law_beside : Df K mg "_law_beside" s_law_beside f_law_beside fd_law_beside ["box", "one"]
  f_is_below : Addr
  fd_is_below : FuncData
  d_is_below : Df K mg "is_below" s_is_below f_is_below fd_is_below ["one", "two"]
  f_law_less : Addr
  fd_law_less : FuncData
  d_law_less : Df K mg "_law_less" s_law_less f_law_less fd_law_less ["one", "two"]
  f_law_under : Addr
  fd_law_under : FuncData
  d_law_under : Df K mg "_law_under" s_law_under f_law_under fd_law_under ["one", "two"]
  f_law_compared : Addr
  fd_law_compared : FuncData
  d_law_compared : Df K mg "_law_compared" s_law_compared f_law_compared fd_law_compared ["box"]
  f_least_of : Addr
  fd_least_of : FuncData
  d_least_of : Df K mg "least_of" s_least_of f_least_of fd_least_of ["row"]
  f_law_leasts : Addr
  fd_law_leasts : FuncData
  d_law_leasts : Df K mg "_law_leasts" s_law_leasts f_law_leasts fd_law_leasts ["box", "many"]
  f_law : Addr
  fd_law : FuncData
  d_law : Df K mg "law" s_law f_law fd_law ["script"]
  m_ValueError : mg "ValueError" = none
  m_abs : mg "abs" = none
  m_bool : mg "bool" = none
  m_enumerate : mg "enumerate" = none
  m_int : mg "int" = none
  m_isinstance : mg "isinstance" = none
  m_len : mg "len" = none
  m_list : mg "list" = none
  m_max : mg "max" = none
  m_min : mg "min" = none
  m_range : mg "range" = none
  m_str : mg "str" = none
  m_tuple : mg "tuple" = none
  m_zip : mg "zip" = none
  c_NAMES : ∃ t, mg "NAMES" = some (.int 32 t)
  kb_check_number_0_value : KBn' K fd_check_number ["value"] ["value"] 0 1 [0]
  kb_is_below_0_two_one : KBn' K fd_is_below ["one", "two"] ["two", "one"] 0 2 [1, 0]
  kb_least_of_0_row : KBn' K fd_least_of ["row"] ["row"] 0 1 [0]

section
variable {P : Program} {w : World} {K : PySem.W.Frag} {mg : Str → Option Value} {base : Heap}

theorem ok_law_box (T : Tx K mg base) : FnOk P w K mg base CX0 1 T.f_law_box T.fd_law_box ["script", "k"] (dn K sp_law_box) :=
  fn_ok T.d_law_box.fn sc_law_box ln_law_box (fun cdv A outer s H E hr => 
 (eb_cons (es_set 2 sc_law_box.nd (ev_bin op_addF lf_addF (ev_bin op_mul3 lf_mul3 ev_int (ev_var 1)) ev_int))
 (eb_cons (es_if (et_cmp (op_ltU hr.units0) lf_lt (ev_var 1) (ev_cB cr_len lc_len T.m_len (ea_cons (ev_var 0) ea_nil)))
 (eb_one (es_set 2 sc_law_box.nd (ev_cB call_abs lc_abs T.m_abs (ea_cons (ev_cT call_int1 lc_int T.m_int (ea_cons (ev_ix (ev_var 0) (ev_var 1)) ea_nil)) ea_nil))))
 (eb_one (es_if (et_cmp (op_gtU hr.units0) lf_gt2 (ev_cB cr_len lc_len T.m_len (ea_cons (ev_var 0) ea_nil)) ev_int)
 (eb_one (es_set 2 sc_law_box.nd (ev_bin op_addF lf_addF (ev_var 2) (ev_bin op_mul3 lf_mul3 (ev_bin op_mod lf_mod (ev_cT call_int1 lc_int T.m_int (ea_cons (ev_cB call_abs lc_abs T.m_abs (ea_cons (ev_cT call_int1 lc_int T.m_int (ea_cons (ev_ix (ev_var 0) (ev_bin op_mod lf_mod (ev_cT call_int1 lc_int T.m_int (ea_cons (ev_var 1) ea_nil)) (ev_cB cr_len lc_len T.m_len (ea_cons (ev_var 0) ea_nil)))) ea_nil)) ea_nil)) ea_nil)) ev_int) ev_int))))
 eb_nil)))
 (eb_cons (es_set 3 sc_law_box.nd (ev_if (et_cmp op_ge lf_ge (ev_var 2) (ev_bin op_pow lf_pow ev_int ev_int)) (ev_var 2) ev_int))
 (eb_one (es_ret (ev_lst (ea_cons (ev_var 3) (ea_cons (ev_bin op_addF lf_addF (ev_bin op_mod lf_mod (ev_cT call_int1 lc_int T.m_int (ea_cons (ev_bin op_addF lf_addF (ev_bin op_mul3 lf_mul3 (ev_bin op_mod lf_mod (ev_cT call_int1 lc_int T.m_int (ea_cons (ev_var 2) ea_nil)) ev_int) ev_int) (ev_bin op_mul3 lf_mul3 ev_int (ev_var 1))) ea_nil)) ev_int) ev_int) ea_nil))))))))) pu_law_box nx_law_box

theorem ok_law_take (T : Tx K mg base) : FnOk P w K mg base CX0 1 T.f_law_take T.fd_law_take ["box", "many"] (dn K sp_law_take) :=
  fn_ok T.d_law_take.fn sc_law_take ln_law_take (fun cdv A outer s H E hr => 
 (eb_cons (es_if (et_cmp (op_gtU hr.units0) lf_gt2 (ev_ix (ev_var 0) ev_int) ev_int)
 (eb_cons (es_set 3 sc_law_take.nd (ev_bin op_mod lf_mod (ev_cT call_int1 lc_int T.m_int (ea_cons (ev_ix (ev_var 0) ev_int) ea_nil)) (ev_var 1)))
 (eb_cons (es_asg (ev_bin op_fdivW lf_fdiv (ev_ix (ev_var 0) ev_int) (ev_var 1)) (eg_sb (ev_var 0) ev_int))
 (eb_one (es_ret (ev_var 3)))))
 eb_nil)
 (eb_cons (es_set 2 sc_law_take.nd (ev_bin op_mod lf_mod (ev_cT call_int1 lc_int T.m_int (ea_cons (ev_bin op_addF lf_addF (ev_bin op_mul3 lf_mul3 (ev_ix (ev_var 0) ev_int) ev_int) ev_int) ea_nil)) ev_int))
 (eb_cons (es_asg (ev_bin op_addF lf_addF (ev_bin op_mod lf_mod (ev_cT call_int1 lc_int T.m_int (ea_cons (ev_bin op_addF lf_addF (ev_bin op_mul3 lf_mul3 (ev_var 2) ev_int) ev_int) ea_nil)) ev_int) ev_int) (eg_sb (ev_var 0) ev_int))
 (eb_one (es_ret (ev_bin op_mod lf_mod (ev_cT call_int1 lc_int T.m_int (ea_cons (ev_bin op_fdivW lf_fdiv (ev_bin op_addF lf_addF (ev_bin op_mul3 lf_mul3 (ev_var 2) ev_int) (ev_ix (ev_var 0) ev_int)) ev_int) ea_nil)) (ev_var 1)))))))) pu_law_take nx_law_take

theorem ok_law_pick (T : Tx K mg base) : FnOk P w K mg base CX0 2 T.f_law_pick T.fd_law_pick ["box", "some"] (dn K sp_law_pick) :=
  fn_ok T.d_law_pick.fn sc_law_pick ln_law_pick (fun cdv A outer s H E hr => 
 (eb_one (es_ret (ev_ix (ev_var 1) (ev_call (ok_law_take T) (hr.mono (by decide)) T.d_law_take.g T.d_law_take.fn.kp T.d_law_take.b (ea_cons (ev_var 0) (ea_cons (ev_cB cr_len lc_len T.m_len (ea_cons (ev_var 1) ea_nil)) ea_nil))))))) pu_law_pick nx_law_pick

theorem ok_law_entry (T : Tx K mg base) : FnOk P w K mg base CX0 3 T.f_law_entry T.fd_law_entry ["box"] (dn K sp_law_entry) :=
  fn_ok T.d_law_entry.fn sc_law_entry ln_law_entry (fun cdv A outer s H E hr => 
 (eb_cons (es_set 1 sc_law_entry.nd (ev_call (ok_law_take T) (hr.mono (by decide)) T.d_law_take.g T.d_law_take.fn.kp T.d_law_take.b (ea_cons (ev_var 0) (ea_cons ev_int ea_nil))))
 (eb_cons (es_if (et_cmp (op_ltU hr.units0) lf_lt (ev_var 1) ev_int)
 (eb_one (es_ret (ev_bin op_sub lf_sub (ev_call (ok_law_take T) (hr.mono (by decide)) T.d_law_take.g T.d_law_take.fn.kp T.d_law_take.b (ea_cons (ev_var 0) (ea_cons ev_int ea_nil))) ev_int)))
 eb_nil)
 (eb_cons (es_if (et_cmp (op_ltU hr.units0) lf_lt (ev_var 1) ev_int)
 (eb_one (es_ret (ev_bin op_sub lf_sub (ev_call (ok_law_take T) (hr.mono (by decide)) T.d_law_take.g T.d_law_take.fn.kp T.d_law_take.b (ea_cons (ev_var 0) (ea_cons (ev_bin op_addF lf_addF (ev_bin op_mul3 lf_mul3 ev_int (ev_bin op_pow lf_pow ev_int ev_int)) ev_int) ea_nil))) (ev_bin op_pow lf_pow ev_int ev_int))))
 eb_nil)
 (eb_one (es_ret (ev_call (ok_law_pick T) (hr.mono (by decide)) T.d_law_pick.g T.d_law_pick.fn.kp T.d_law_pick.b (ea_cons (ev_var 0) (ea_cons (ev_lstF (ea_cons (ev_bin op_pow lf_pow ev_int ev_int) (ea_cons (ev_bin op_sub lf_sub ev_int (ev_bin op_pow lf_pow ev_int ev_int)) (ea_cons (ev_bin op_sub lf_sub (ev_bin op_pow lf_pow ev_int ev_int) ev_int) (ea_cons (ev_bin op_sub lf_sub ev_int ev_int) (ea_cons ev_int (ea_cons ev_int ea_nil))))))) ea_nil))))))))) pu_law_entry nx_law_entry

theorem ok_law_figure (T : Tx K mg base) : FnOk P w K mg base CX0 4 T.f_law_figure T.fd_law_figure ["box"] (dn K sp_law_figure) :=
  fn_ok T.d_law_figure.fn sc_law_figure ln_law_figure (fun cdv A outer s H E hr => 
 (eb_cons (es_set 1 sc_law_figure.nd (ev_call (ok_law_pick T) (hr.mono (by decide)) T.d_law_pick.g T.d_law_pick.fn.kp T.d_law_pick.b (ea_cons (ev_var 0) (ea_cons (ev_lstF (ea_cons ev_int (ea_cons ev_int (ea_cons ev_int (ea_cons ev_int (ea_cons ev_int (ea_cons ev_int (ea_cons ev_int (ea_cons ev_int (ea_cons ev_int (ea_cons ev_int ea_nil))))))))))) ea_nil))))
 (eb_cons (es_setLc 2 3 rfl sc_law_figure.nd (ei_rg1 T.m_range (ea_cons (ev_var 1) ea_nil)) (blkOk_by (N := ["box", "many", "cells", "turn"]) (sc := defScope s_law_figure) (by decide +kernel)) (fun _ _ _ _ _ => pg_name (i := 3) sc_law_figure.nd rfl (Or.inl rfl)) (fun _ _ _ _ _ => ep_nil) (fun _ _ _ _ _ => (ev_call (ok_law_entry T) (hr.mono (by decide)) T.d_law_entry.g T.d_law_entry.fn.kp T.d_law_entry.b (ea_cons (ev_var 0) ea_nil))) (sw_true rfl rfl rfl (by decide +kernel)))
 (eb_cons (es_asg (ev_cB call_abs lc_abs T.m_abs (ea_cons (ev_ix (ev_var 2) ev_int) ea_nil)) (eg_sb (ev_var 2) ev_int))
 (eb_one (es_ret (ev_cT cr_tup3 lc_tup3 T.m_tuple (ea_cons (ev_bin op_addF lf_addF (ev_var 2) (ev_lstF (ea_cons (ev_call (ok_law_pick T) (hr.mono (by decide)) T.d_law_pick.g T.d_law_pick.fn.kp T.d_law_pick.b (ea_cons (ev_var 0) (ea_cons (ev_lstF (ea_cons ev_int (ea_cons ev_int (ea_cons (ev_call (ok_law_take T) (hr.mono (by decide)) T.d_law_take.g T.d_law_take.fn.kp T.d_law_take.b (ea_cons (ev_var 0) (ea_cons ev_int ea_nil))) (ea_cons (ev_call (ok_law_take T) (hr.mono (by decide)) T.d_law_take.g T.d_law_take.fn.kp T.d_law_take.b (ea_cons (ev_var 0) (ea_cons ev_int ea_nil))) ea_nil))))) ea_nil))) ea_nil))) ea_nil)))))))) pu_law_figure nx_law_figure

theorem ok_law_same (T : Tx K mg base) : ∀ n, FnOk P w K mg base CX0 (0 + n) T.f_law_same T.fd_law_same ["told", "due"] (dn K (sp_law_same n))
  | 0 => ⟨fun vs H Q E h => by obtain ⟨ds, S, Q', E', _, _, h, _⟩ := h; exact (zr_law_same _ _ _ _ h).elim, fun _ _ _ _ _ _ _ _ _ _ _ _ _ h => by obtain ⟨ds, S, Q', E', _, _, h, _⟩ := h; exact (zr_law_same _ _ _ _ h).elim⟩
  | n + 1 => by
    have ih := ok_law_same T n
    exact fn_ok T.d_law_same.fn sc_law_same (fun ds S Q E h => ln_law_same _ ds S Q E h) (fun cdv A outer s H E hr => 
 (eb_cons (es_if (et_ew (ew_or (et_val (ev_cB call_isi2 lc_isi2 T.m_isinstance (ea_cons (ev_var 1) (ea_cons (ev_ty T.m_tuple) ea_nil)))) (ew_or1 (et_val (ev_cB call_isi2 lc_isi2 T.m_isinstance (ea_cons (ev_var 1) (ea_cons (ev_ty T.m_list) ea_nil)))))))
 (eb_cons (es_set 2 sc_law_same.nd (ev_if (et_val (ev_cB call_isi2 lc_isi2 T.m_isinstance (ea_cons (ev_var 1) (ea_cons (ev_ty T.m_tuple) ea_nil)))) (ev_cB call_isi2 lc_isi2 T.m_isinstance (ea_cons (ev_var 0) (ea_cons (ev_ty T.m_tuple) ea_nil))) (ev_cB call_isi2 lc_isi2 T.m_isinstance (ea_cons (ev_var 0) (ea_cons (ev_ty T.m_list) ea_nil)))))
 (eb_cons (es_if (et_ew (ew_or (et_not (et_tru (ev_var 2))) (ew_or1 (et_cmp (op_neU hr.units) lf_ne3 (ev_cB cr_len lc_len T.m_len (ea_cons (ev_var 0) ea_nil)) (ev_cB cr_len lc_len T.m_len (ea_cons (ev_var 1) ea_nil))))))
 (eb_one (es_ret ev_bl))
 eb_nil)
 (eb_cons (es_for PassesOwn.never rfl (ei_zip3 T.m_zip (ea_cons (ev_var 0) (ea_cons (ev_var 1) ea_nil))) (eg_tp rfl (egs_cons (eg_nm 3 sc_law_same.nd) (egs_cons (eg_nm 4 sc_law_same.nd) egs_nil)))
 (eb_one (es_if (et_not (et_val (ev_call ih (hr.mono (Nat.le_refl _)) T.d_law_same.g T.d_law_same.fn.kp T.d_law_same.b (ea_cons (ev_var 3) (ea_cons (ev_var 4) ea_nil)))))
 (eb_one (es_ret ev_bl))
 eb_nil)))
 (eb_one (es_ret ev_bl)))))
 eb_nil)
 (eb_cons (es_if (et_cmp op_isU lf_is (ev_var 1) ev_non)
 (eb_one (es_ret (ev_cmp op_isU lf_is (ev_var 0) ev_non)))
 eb_nil)
 (eb_cons (es_if (et_ew (ew_or (et_cmp op_isU lf_is (ev_var 1) ev_bl) (ew_or1 (et_cmp op_isU lf_is (ev_var 1) ev_bl))))
 (eb_one (es_ret (ev_and (ev_cB call_isi2 lc_isi2 T.m_isinstance (ea_cons (ev_var 0) (ea_cons (ev_ty T.m_bool) ea_nil))) (ev_one (ev_cmp (op_eqU hr.units) lf_eq3 (ev_var 0) (ev_var 1))))))
 eb_nil)
 (eb_cons (es_if (et_val (ev_cB call_isi2 lc_isi2 T.m_isinstance (ea_cons (ev_var 1) (ea_cons (ev_ty T.m_int) ea_nil))))
 (eb_one (es_ret (ev_and (ev_cB call_isi2 lc_isi2 T.m_isinstance (ea_cons (ev_var 0) (ea_cons (ev_ty T.m_int) ea_nil))) (ev_and (ev_not (ev_cB call_isi2 lc_isi2 T.m_isinstance (ea_cons (ev_var 0) (ea_cons (ev_ty T.m_bool) ea_nil)))) (ev_one (ev_cmp (op_eqU hr.units) lf_eq3 (ev_var 0) (ev_var 1)))))))
 eb_nil)
 (eb_one (es_ret (ev_and (ev_cB call_isi2 lc_isi2 T.m_isinstance (ea_cons (ev_var 0) (ea_cons (ev_ty T.m_str) ea_nil))) (ev_and (ev_cB call_isi2 lc_isi2 T.m_isinstance (ea_cons (ev_var 1) (ea_cons (ev_ty T.m_str) ea_nil))) (ev_one (ev_cmp (op_eqU hr.units) lf_eq3 (ev_var 0) (ev_var 1)))))))))))) (pu_law_same n) (nx_law_same (n + 1))

theorem hg_law_heard (T : Tx K mg base) : ∀ (cdv : Value) (A : Around) (outer : List Env) (s : Shared) (H : Hp) (f d : Addr) (o : HQ) (th : Th), Room 1 (A.deeper (envOfC "_law_heard" (defScope s_law_heard) s.heap.objs.size T.f_law_heard cdv)) →
  (∀ (W : WX) (pn : List (Addr × Obj)) (xe : Value → Shared → Prop) (p1 p2 : Pos), L2N.Takes ((cxOf CX0 P w K mg base ["ask", "fault", "other"] "_law_heard" (defScope s_law_heard) T.f_law_heard cdv A outer s H E0).tr pn xe) W → EV ((cxOf CX0 P w K mg base ["ask", "fault", "other"] "_law_heard" (defScope s_law_heard) T.f_law_heard cdv A outer s H E0).tr pn xe) W (.Call (.Name "ask" p1) [] [] p2) (rAsk f d o th)) →
  EB (cxOf CX0 P w K mg base ["ask", "fault", "other"] "_law_heard" (defScope s_law_heard) T.f_law_heard cdv A outer s H E0).nox W0 (defBody s_law_heard) (rd_law_heard f d o th) :=
  fun cdv A outer s H f d o th hr act => 
 (eb_one (es_tryAs (m := (mL [("BadNumber", true)])) (i := 1) (rs := fun cn a dd => rGd (cn = "BadNumber") (rSeq (rSet (Y.rIsE [("BadNumber", "BadDeed", true, false), ("BadNumber", "BadOctets", true, false), ("BadNumber", "BadPast", true, false), ("BadNumber", "BadRow", true, false), ("BadNumber", "BadRule", true, false), ("BadNumber", "BadStretch", true, false), ("BadNumber", "BadText", true, false), ("BadNumber", "OwnError", true, true), ("BadNumber", "Refused", true, false), ("BadNumber", "ValueError", false, true)] cn a dd (rCons (rVar 1) (rCons (rTup (rCons (rC (.cl "BadDeed")) (rCons (rC (.cl "BadOctets")) (rCons (rC (.cl "BadPast")) (rCons (rC (.cl "BadRow")) (rCons (rC (.cl "BadRule")) (rCons (rC (.cl "BadStretch")) (rCons (rC (.cl "BadText")) (rCons (rC (.cl "Refused")) rNil))))))))) rNil))) (gNm 2))
 (rRet (rTup (rCons (rC (.str (Str.ofString "none"))) (rCons (rBy "BadNumber" "at" cn a dd (rVar 1)) (rCons (Y.rIsE [("BadNumber", "BadDeed", true, false), ("BadNumber", "BadOctets", true, false), ("BadNumber", "BadPast", true, false), ("BadNumber", "BadRow", true, false), ("BadNumber", "BadRule", true, false), ("BadNumber", "BadStretch", true, false), ("BadNumber", "BadText", true, false), ("BadNumber", "OwnError", true, true), ("BadNumber", "Refused", true, false), ("BadNumber", "ValueError", false, true)] cn a dd (rCons (rVar 1) (rCons (rC (.cl "OwnError")) rNil))) (rCons (Y.rIsE [("BadNumber", "BadDeed", true, false), ("BadNumber", "BadOctets", true, false), ("BadNumber", "BadPast", true, false), ("BadNumber", "BadRow", true, false), ("BadNumber", "BadRule", true, false), ("BadNumber", "BadStretch", true, false), ("BadNumber", "BadText", true, false), ("BadNumber", "OwnError", true, true), ("BadNumber", "Refused", true, false), ("BadNumber", "ValueError", false, true)] cn a dd (rCons (rVar 1) (rCons (rC (.ty "ValueError")) rNil))) (rCons (rVar 2) rNil))))))))) rfl rfl sc_law_heard.nd rfl rfl ⟨rfl, by decide, .inl T.g_BadNumber⟩ tk00 T.mo_BadNumber (fun W pn xe tk' po =>
 (eb_one (es_ret (ev_tup (ea_cons ev_str (ea_cons (act _ _ _ _ _ tk') ea_nil)))))) (fun cn C a oe dd pn cc hz hf => eb_gd fun hcn =>
 (eb_cons (es_set 2 sc_law_heard.nd (ev_isE (x := "isinstance") T.tb cc (ed_of T.cn_BadNumber T.x_BadNumber hcn cc) hz.zc hf T.m_isinstance (ea_cons (ev_var 1) (ea_cons (ev_tup (ea_cons (ev_cl T.cn_BadDeed T.g_BadDeed) (ea_cons (ev_cl T.cn_BadOctets T.g_BadOctets) (ea_cons (ev_cl T.cn_BadPast T.g_BadPast) (ea_cons (ev_cl T.cn_BadRow T.g_BadRow) (ea_cons (ev_cl T.cn_BadRule T.g_BadRule) (ea_cons (ev_cl T.cn_BadStretch T.g_BadStretch) (ea_cons (ev_cl T.cn_BadText T.g_BadText) (ea_cons (ev_cl T.cn_Refused T.g_Refused) ea_nil))))))))) ea_nil))))
 (eb_one (es_ret (ev_tup (ea_cons ev_str (ea_cons (ev_byA T.low_BadNumber T.cn_BadNumber cc hz.zc hf (ev_var 1)) (ea_cons (ev_isE (x := "isinstance") T.tb cc (ed_of T.cn_BadNumber T.x_BadNumber hcn cc) hz.zc hf T.m_isinstance (ea_cons (ev_var 1) (ea_cons (ev_cl T.cn_OwnError T.g_OwnError) ea_nil))) (ea_cons (ev_isE (x := "isinstance") T.tb cc (ed_of T.cn_BadNumber T.x_BadNumber hcn cc) hz.zc hf T.m_isinstance (ea_cons (ev_var 1) (ea_cons (ev_ty T.m_ValueError) ea_nil))) (ea_cons (ev_var 2) ea_nil))))))))))))

theorem ok_is_whole (T : Tx K mg base) : FnOk P w K mg base CX0 1 T.f_is_whole T.fd_is_whole ["value"] (dn K sp_is_whole) :=
  fn_ok T.d_is_whole.fn sc_is_whole ln_is_whole (fun cdv A outer s H E hr => 
 (eb_one (es_ret (ev_and (ev_cB call_isi2 lc_isi2 T.m_isinstance (ea_cons (ev_var 0) (ea_cons (ev_ty T.m_int) ea_nil))) (ev_one (ev_not (ev_cB call_isi2 lc_isi2 T.m_isinstance (ea_cons (ev_var 0) (ea_cons (ev_ty T.m_bool) ea_nil))))))))) pu_is_whole nx_is_whole

theorem ok_is_name (T : Tx K mg base) : FnOk P w K mg base CX0 2 T.f_is_name T.fd_is_name ["value"] (dn K sp_is_name) :=
  fn_ok T.d_is_name.fn sc_is_name ln_is_name (fun cdv A outer s H E hr => 
 (eb_one (es_ret (ev_and (ev_call (ok_is_whole T) (hr.mono (by decide)) T.d_is_whole.g T.d_is_whole.fn.kp T.d_is_whole.b (ea_cons (ev_var 0) ea_nil)) (ev_one (ev_chn op_le lf_le (op_ltU hr.units0) lf_lt ev_int (ev_var 0) (ev_glob (v := .int 32) (d := .int 32) (by rfl) T.c_NAMES.choose_spec ⟨_, rfl⟩ (fun _ => .int _)))))))) pu_is_name nx_is_name

theorem ok_number_fault (T : Tx K mg base) : FnOk P w K mg base CX0 3 T.f_number_fault T.fd_number_fault ["value"] (dn K sp_number_fault) :=
  fn_ok T.d_number_fault.fn sc_number_fault ln_number_fault (fun cdv A outer s H E hr => 
 (eb_cons (es_if (et_ew (ew_or (et_not (et_val (ev_cB call_isi2 lc_isi2 T.m_isinstance (ea_cons (ev_var 0) (ea_cons (ev_ty T.m_tuple) ea_nil))))) (ew_or1 (et_cmp (op_ltU hr.units0) lf_lt (ev_cB cr_len lc_len T.m_len (ea_cons (ev_var 0) ea_nil)) ev_int))))
 (eb_one (es_ret (ev_neg ev_int)))
 eb_nil)
 (eb_cons (es_for PassesOwn.never rfl (ei_enX T.m_enumerate (ea_cons (ev_var 0) ea_nil)) (eg_tp rfl (egs_cons (eg_nm 1 sc_number_fault.nd) (egs_cons (eg_nm 2 sc_number_fault.nd) egs_nil)))
 (eb_one (es_if (et_not (et_val (ev_call (ok_is_whole T) (hr.mono (by decide)) T.d_is_whole.g T.d_is_whole.fn.kp T.d_is_whole.b (ea_cons (ev_var 2) ea_nil))))
 (eb_one (es_ret (ev_var 1)))
 eb_nil)))
 (eb_cons (es_if (et_cmp (op_ltU hr.units0) lf_lt (ev_ix (ev_var 0) ev_int) ev_int)
 (eb_one (es_ret ev_int))
 eb_nil)
 (eb_cons (es_if (et_not (et_val (ev_call (ok_is_name T) (hr.mono (by decide)) T.d_is_name.g T.d_is_name.fn.kp T.d_is_name.b (ea_cons (ev_ix (ev_var 0) (ev_neg ev_int)) ea_nil))))
 (eb_one (es_ret (ev_bin op_sub lf_sub (ev_cB cr_len lc_len T.m_len (ea_cons (ev_var 0) ea_nil)) ev_int)))
 eb_nil)
 (eb_one (es_ret ev_non))))))) pu_number_fault nx_number_fault

theorem ok_check_number (T : Tx K mg base) : FnOk P w K mg base (L2N.CX P w) 4 T.f_check_number T.fd_check_number ["value"] (dn K sp_check_number) :=
  fn_okX T.d_check_number.fn sc_check_number ln_check_number (fun cdv A outer s H E hr tk => 
 (eb_cons (es_set 1 sc_check_number.nd (ev_call (ok_number_fault T) (hr.mono (by decide)) T.d_number_fault.g T.d_number_fault.fn.kp T.d_number_fault.b (ea_cons (ev_var 0) ea_nil)))
 (eb_cons (es_if (et_cmp op_isntU lf_isnt (ev_var 1) ev_non)
 (eb_one (es_raiseA T.low_BadNumber T.cn_BadNumber rfl hr tk (ea_cons (ev_var 1) ea_nil)))
 eb_nil)
 (eb_one (es_ret (ev_var 0)))))) pu_check_number

theorem ok_law_spoilt (T : Tx K mg base) : FnOk P w K mg base CX0 3 T.f_law_spoilt T.fd_law_spoilt ["box", "one"] (dn K sp_law_spoilt) :=
  fn_ok T.d_law_spoilt.fn sc_law_spoilt ln_law_spoilt (fun cdv A outer s H E hr => 
 (eb_cons (es_set 2 sc_law_spoilt.nd (ev_call (ok_law_pick T) (hr.mono (by decide)) T.d_law_pick.g T.d_law_pick.fn.kp T.d_law_pick.b (ea_cons (ev_var 0) (ea_cons (ev_lstF (ea_cons ev_non (ea_cons ev_int (ea_cons ev_str (ea_cons ev_bl (ea_cons (ev_lstF ea_nil) (ea_cons (ev_tup ea_nil) (ea_cons (ev_cT cr_lstF lc_lstF T.m_list (ea_cons (ev_var 1) ea_nil)) (ea_cons (ev_slF (ev_var 1) eo_none (eo_some ev_int)) (ea_cons (ev_tup (ea_cons (ev_var 1) ea_nil)) (ea_cons ev_str (ea_cons (ev_tup (ea_cons (ev_tup (ea_cons ev_int (ea_cons ev_int ea_nil))) ea_nil)) (ea_cons (ev_lstF (ea_cons (ev_var 1) ea_nil)) ea_nil))))))))))))) ea_nil))))
 (eb_cons (es_if (et_cmp (op_eqU hr.units) lf_eq3 (ev_call (ok_law_take T) (hr.mono (by decide)) T.d_law_take.g T.d_law_take.fn.kp T.d_law_take.b (ea_cons (ev_var 0) (ea_cons ev_int ea_nil))) ev_int)
 (eb_one (es_ret (ev_var 2)))
 eb_nil)
 (eb_cons (es_set 3 sc_law_spoilt.nd (ev_cT cr_lstT lc_lstT T.m_list (ea_cons (ev_var 1) ea_nil)))
 (eb_cons (es_for PassesOwn.never rfl (ei_rg1 T.m_range (ea_cons (ev_bin op_addF lf_addF ev_int (ev_call (ok_law_take T) (hr.mono (by decide)) T.d_law_take.g T.d_law_take.fn.kp T.d_law_take.b (ea_cons (ev_var 0) (ea_cons ev_int ea_nil)))) ea_nil)) (eg_nm 4 sc_law_spoilt.nd)
 (eb_cons (es_set 5 sc_law_spoilt.nd (ev_call (ok_law_take T) (hr.mono (by decide)) T.d_law_take.g T.d_law_take.fn.kp T.d_law_take.b (ea_cons (ev_var 0) (ea_cons ev_int ea_nil))))
 (eb_one (es_if (et_cmp (op_eqU hr.units) lf_eq3 (ev_var 5) ev_int)
 (eb_one (es_asg (ev_call (ok_law_pick T) (hr.mono (by decide)) T.d_law_pick.g T.d_law_pick.fn.kp T.d_law_pick.b (ea_cons (ev_var 0) (ea_cons (ev_lstF (ea_cons ev_non (ea_cons ev_bl (ea_cons ev_bl (ea_cons ev_str (ea_cons (ev_tup (ea_cons ev_int ea_nil)) (ea_cons (ev_lstF (ea_cons ev_int ea_nil)) (ea_cons ev_str (ea_cons (ev_tup ea_nil) (ea_cons ev_int ea_nil)))))))))) ea_nil))) (eg_sb (ev_var 3) (ev_call (ok_law_take T) (hr.mono (by decide)) T.d_law_take.g T.d_law_take.fn.kp T.d_law_take.b (ea_cons (ev_var 0) (ea_cons (ev_cB cr_len lc_len T.m_len (ea_cons (ev_var 3) ea_nil)) ea_nil))))))
 (eb_one (es_if (et_cmp (op_eqU hr.units) lf_eq3 (ev_var 5) ev_int)
 (eb_one (es_asg (ev_call (ok_law_pick T) (hr.mono (by decide)) T.d_law_pick.g T.d_law_pick.fn.kp T.d_law_pick.b (ea_cons (ev_var 0) (ea_cons (ev_lstF (ea_cons (ev_bin op_sub lf_sub ev_int ev_int) (ea_cons (ev_bin op_sub lf_sub ev_int (ev_bin op_pow lf_pow ev_int ev_int)) (ea_cons (ev_bin op_sub lf_sub (ev_bin op_sub lf_sub ev_int ev_int) (ev_call (ok_law_take T) (hr.mono (by decide)) T.d_law_take.g T.d_law_take.fn.kp T.d_law_take.b (ea_cons (ev_var 0) (ea_cons ev_int ea_nil)))) ea_nil)))) ea_nil))) (eg_sb (ev_var 3) ev_int)))
 (eb_one (es_if (et_cmp (op_eqU hr.units) lf_eq3 (ev_var 5) ev_int)
 (eb_one (es_asg (ev_call (ok_law_pick T) (hr.mono (by decide)) T.d_law_pick.g T.d_law_pick.fn.kp T.d_law_pick.b (ea_cons (ev_var 0) (ea_cons (ev_lstF (ea_cons ev_int (ea_cons (ev_bin op_sub lf_sub ev_int ev_int) (ea_cons (ev_bin op_pow lf_pow ev_int ev_int) (ea_cons (ev_bin op_addF lf_addF ev_int (ev_call (ok_law_take T) (hr.mono (by decide)) T.d_law_take.g T.d_law_take.fn.kp T.d_law_take.b (ea_cons (ev_var 0) (ea_cons ev_int ea_nil)))) (ea_cons (ev_bin op_sub lf_sub (ev_bin op_sub lf_sub ev_int ev_int) (ev_call (ok_law_take T) (hr.mono (by decide)) T.d_law_take.g T.d_law_take.fn.kp T.d_law_take.b (ea_cons (ev_var 0) (ea_cons ev_int ea_nil)))) ea_nil)))))) ea_nil))) (eg_sb (ev_var 3) (ev_bin op_sub lf_sub (ev_cB cr_len lc_len T.m_len (ea_cons (ev_var 3) ea_nil)) ev_int))))
 (eb_one (es_asg (ev_call (ok_law_pick T) (hr.mono (by decide)) T.d_law_pick.g T.d_law_pick.fn.kp T.d_law_pick.b (ea_cons (ev_var 0) (ea_cons (ev_lstF (ea_cons ev_bl (ea_cons ev_non (ea_cons ev_str (ea_cons (ev_tup (ea_cons ev_int ea_nil)) (ea_cons ev_int ea_nil)))))) ea_nil))) (eg_sb (ev_var 3) (ev_bin op_sub lf_sub (ev_cB cr_len lc_len T.m_len (ea_cons (ev_var 3) ea_nil)) ev_int))))))))))))
 (eb_one (es_ret (ev_cT cr_tup3 lc_tup3 T.m_tuple (ea_cons (ev_var 3) ea_nil))))))))) pu_law_spoilt nx_law_spoilt

theorem ok_law_fault (T : Tx K mg base) : FnOk P w K mg base CX0 1 T.f_law_fault T.fd_law_fault ["value"] (dn K sp_law_fault) :=
  fn_ok T.d_law_fault.fn sc_law_fault ln_law_fault (fun cdv A outer s H E hr => 
 (eb_cons (es_if (et_ew (ew_or (et_not (et_val (ev_cB call_isi2 lc_isi2 T.m_isinstance (ea_cons (ev_var 0) (ea_cons (ev_ty T.m_tuple) ea_nil))))) (ew_or1 (et_cmp (op_ltU hr.units0) lf_lt (ev_cB cr_len lc_len T.m_len (ea_cons (ev_var 0) ea_nil)) ev_int))))
 (eb_one (es_ret (ev_bin op_sub lf_sub ev_int ev_int)))
 eb_nil)
 (eb_cons (es_for PassesOwn.never rfl (ei_rg1 T.m_range (ea_cons (ev_cB cr_len lc_len T.m_len (ea_cons (ev_var 0) ea_nil)) ea_nil)) (eg_nm 1 sc_law_fault.nd)
 (eb_one (es_if (et_ew (ew_or (et_not (et_val (ev_cB call_isi2 lc_isi2 T.m_isinstance (ea_cons (ev_ix (ev_var 0) (ev_var 1)) (ea_cons (ev_ty T.m_int) ea_nil))))) (ew_or1 (et_val (ev_cB call_isi2 lc_isi2 T.m_isinstance (ea_cons (ev_ix (ev_var 0) (ev_var 1)) (ea_cons (ev_ty T.m_bool) ea_nil)))))))
 (eb_one (es_ret (ev_var 1)))
 eb_nil)))
 (eb_cons (es_if (et_cmp (op_ltU hr.units0) lf_lt (ev_ix (ev_var 0) ev_int) ev_int)
 (eb_one (es_ret ev_int))
 eb_nil)
 (eb_one (es_ret (ev_if (et_chn op_le lf_le op_le lf_le ev_int (ev_ix (ev_var 0) (ev_bin op_sub lf_sub (ev_cB cr_len lc_len T.m_len (ea_cons (ev_var 0) ea_nil)) ev_int)) ev_int) ev_non (ev_bin op_sub lf_sub (ev_cB cr_len lc_len T.m_len (ea_cons (ev_var 0) ea_nil)) ev_int)))))))) pu_law_fault nx_law_fault

theorem ok_law_checked (T : Tx K mg base) : FnOk P w K mg base CX0 8 T.f_law_checked T.fd_law_checked ["box"] (dn K sp_law_checked) :=
  fn_okL T.fl_law_checked sc_law_checked ln_law_checked (fun A outer s H E hr => 
 (eb_cons (es_set 1 sc_law_checked.nd (ev_call (ok_law_figure T) (hr.mono (by decide)) T.d_law_figure.g T.d_law_figure.fn.kp T.d_law_figure.b (ea_cons (ev_var 0) ea_nil)))
 (eb_cons (es_if (et_not (et_val (ev_call (ok_law_same T 5) (hr.mono (by decide)) T.d_law_same.g T.d_law_same.fn.kp T.d_law_same.b (ea_cons (ev_lamcall (y := "_law_checked") (k := 5) T.d_law_heard.g T.d_law_heard.fn.kp T.d_law_heard.fn T.d_law_heard.b sc_law_heard rfl (Or.inl rfl) (fun cdv A outer s H f d o th hr act => hg_law_heard T cdv A outer s H f d o th (hr.mono (by decide)) act) pu_law_heard T.tb_law_checked T.ti_law_checked rfl rfl (hr.mono (by decide)) (LamX.lamS_by (by show LamX.lamSB (defScope s_law_checked) _ = true; decide +kernel)) (fun A outer s H E f d hr => (ev_callX (ok_check_number T) (hr.mono (by decide)) lamX_takes T.d_check_number.g T.d_check_number.fn.kp T.d_check_number.b (ea_cons (ev_var 1) ea_nil)))) (ea_cons (ev_tup (ea_cons ev_str (ea_cons (ev_var 1) ea_nil))) ea_nil)))))
 (eb_one (es_ret ev_bl))
 eb_nil)
 (eb_cons (es_for PassesOwn.never rfl (ei_rg1 T.m_range (ea_cons ev_int ea_nil)) (eg_nm 2 sc_law_checked.nd)
 (eb_cons (es_set 3 sc_law_checked.nd (ev_call (ok_law_spoilt T) (hr.mono (by decide)) T.d_law_spoilt.g T.d_law_spoilt.fn.kp T.d_law_spoilt.b (ea_cons (ev_var 0) (ea_cons (ev_var 1) ea_nil))))
 (eb_cons (es_set 4 sc_law_checked.nd (ev_call (ok_law_fault T) (hr.mono (by decide)) T.d_law_fault.g T.d_law_fault.fn.kp T.d_law_fault.b (ea_cons (ev_var 3) ea_nil)))
 (eb_cons (es_set 5 sc_law_checked.nd (ev_if (et_cmp op_isU lf_is (ev_var 4) ev_non) (ev_tup (ea_cons ev_str (ea_cons (ev_var 3) ea_nil))) (ev_tup (ea_cons ev_str (ea_cons (ev_var 4) (ea_cons ev_bl (ea_cons ev_bl (ea_cons ev_bl ea_nil))))))))
 (eb_one (es_if (et_not (et_val (ev_call (ok_law_same T 5) (hr.mono (by decide)) T.d_law_same.g T.d_law_same.fn.kp T.d_law_same.b (ea_cons (ev_lamcall (y := "_law_checked") (k := 5) T.d_law_heard.g T.d_law_heard.fn.kp T.d_law_heard.fn T.d_law_heard.b sc_law_heard rfl (Or.inl rfl) (fun cdv A outer s H f d o th hr act => hg_law_heard T cdv A outer s H f d o th (hr.mono (by decide)) act) pu_law_heard T.tb_law_checked T.ti_law_checked rfl rfl (hr.mono (by decide)) (LamX.lamS_by (by show LamX.lamSB (defScope s_law_checked) _ = true; decide +kernel)) (fun A outer s H E f d hr => (ev_callX (ok_check_number T) (hr.mono (by decide)) lamX_takes T.d_check_number.g T.d_check_number.fn.kp T.d_check_number.b (ea_cons (ev_var 3) ea_nil)))) (ea_cons (ev_var 5) ea_nil)))))
 (eb_one (es_ret ev_bl))
 eb_nil))))))
 (eb_one (es_ret (ev_call (ok_law_same T 5) (hr.mono (by decide)) T.d_law_same.g T.d_law_same.fn.kp T.d_law_same.b (ea_cons (ev_lamcall (y := "_law_checked") (k := 5) T.d_law_heard.g T.d_law_heard.fn.kp T.d_law_heard.fn T.d_law_heard.b sc_law_heard rfl (Or.inl rfl) (fun cdv A outer s H f d o th hr act => hg_law_heard T cdv A outer s H f d o th (hr.mono (by decide)) act) pu_law_heard T.tb_law_checked T.ti_law_checked rfl rfl (hr.mono (by decide)) (LamX.lamS_by (by show LamX.lamSB (defScope s_law_checked) _ = true; decide +kernel)) (fun A outer s H E f d hr => (ev_callXK0 (ok_check_number T) (hr.mono (by decide)) lamX_takes T.d_check_number.g T.d_check_number.fn.kp T.kb_check_number_0_value (ek_cons (ev_var 1) ek_nil)))) (ea_cons (ev_tup (ea_cons ev_str (ea_cons (ev_var 1) ea_nil))) ea_nil))))))))) pu_law_checked nx_law_checked

theorem ok_law_beside (T : Tx K mg base) : FnOk P w K mg base CX0 5 T.f_law_beside T.fd_law_beside ["box", "one"] (dn K sp_law_beside) :=
  fn_ok T.d_law_beside.fn sc_law_beside ln_law_beside (fun cdv A outer s H E hr => 
 (eb_cons (es_set 2 sc_law_beside.nd (ev_call (ok_law_take T) (hr.mono (by decide)) T.d_law_take.g T.d_law_take.fn.kp T.d_law_take.b (ea_cons (ev_var 0) (ea_cons ev_int ea_nil))))
 (eb_cons (es_set 3 sc_law_beside.nd (ev_cT cr_lstT lc_lstT T.m_list (ea_cons (ev_var 1) ea_nil)))
 (eb_cons (es_if (et_cmp (op_eqU hr.units) lf_eq3 (ev_var 2) ev_int)
 (eb_one (es_ret (ev_cT cr_tup3 lc_tup3 T.m_tuple (ea_cons (ev_var 3) ea_nil))))
 eb_nil)
 (eb_cons (es_if (et_cmp (op_eqU hr.units) lf_eq3 (ev_var 2) ev_int)
 (eb_one (es_ret (ev_cT cr_tup3 lc_tup3 T.m_tuple (ea_cons (ev_bin op_addF lf_addF (ev_bin op_addF lf_addF (ev_slF (ev_var 3) eo_none (eo_some ev_int)) (ev_lcF 5 rfl sc_law_beside.nd (ei_rg1 T.m_range (ea_cons (ev_call (ok_law_take T) (hr.mono (by decide)) T.d_law_take.g T.d_law_take.fn.kp T.d_law_take.b (ea_cons (ev_var 0) (ea_cons ev_int ea_nil))) ea_nil)) (blkOk_by (N := ["box", "one", "way", "cells", "spot", "turn"]) (sc := defScope s_law_beside) (by decide +kernel)) (fun _ _ _ _ _ => pg_name (i := 5) sc_law_beside.nd rfl (Or.inl rfl)) (fun _ _ _ _ _ => ep_nil) (fun _ _ _ _ _ => (ev_call (ok_law_entry T) (hr.mono (by decide)) T.d_law_entry.g T.d_law_entry.fn.kp T.d_law_entry.b (ea_cons (ev_var 0) ea_nil))))) (ev_lstF (ea_cons (ev_call (ok_law_take T) (hr.mono (by decide)) T.d_law_take.g T.d_law_take.fn.kp T.d_law_take.b (ea_cons (ev_var 0) (ea_cons ev_int ea_nil))) ea_nil))) ea_nil))))
 eb_nil)
 (eb_cons (es_if (et_cmp (op_eqU hr.units) lf_eq3 (ev_var 2) ev_int)
 (eb_cons (es_set 4 sc_law_beside.nd (ev_call (ok_law_take T) (hr.mono (by decide)) T.d_law_take.g T.d_law_take.fn.kp T.d_law_take.b (ea_cons (ev_var 0) (ea_cons (ev_bin op_sub lf_sub (ev_cB cr_len lc_len T.m_len (ea_cons (ev_var 3) ea_nil)) ev_int) ea_nil))))
 (eb_cons (es_asg (ev_cB (call_max2 rfl) lc_max T.m_max (ea_cons (ev_if (et_cmp (op_eqU hr.units) lf_eq3 (ev_var 4) ev_int) ev_int (ev_bin op_sub lf_sub ev_int (ev_bin op_pow lf_pow ev_int ev_int))) (ea_cons (ev_bin op_addF lf_addF (ev_ix (ev_var 3) (ev_var 4)) (ev_call (ok_law_pick T) (hr.mono (by decide)) T.d_law_pick.g T.d_law_pick.fn.kp T.d_law_pick.b (ea_cons (ev_var 0) (ea_cons (ev_lstF (ea_cons (ev_bin op_sub lf_sub ev_int ev_int) (ea_cons ev_int ea_nil))) ea_nil)))) ea_nil))) (eg_sb (ev_var 3) (ev_var 4)))
 (eb_one (es_ret (ev_cT cr_tup3 lc_tup3 T.m_tuple (ea_cons (ev_var 3) ea_nil))))))
 eb_nil)
 (eb_cons (es_if (et_cmp (op_eqU hr.units) lf_eq3 (ev_var 2) ev_int)
 (eb_one (es_ret (ev_cT cr_tup3 lc_tup3 T.m_tuple (ea_cons (ev_bin op_addF lf_addF (ev_slF (ev_var 3) eo_none (eo_some (ev_bin op_sub lf_sub (ev_cB cr_len lc_len T.m_len (ea_cons (ev_var 3) ea_nil)) ev_int))) (ev_lstF (ea_cons (ev_call (ok_law_take T) (hr.mono (by decide)) T.d_law_take.g T.d_law_take.fn.kp T.d_law_take.b (ea_cons (ev_var 0) (ea_cons ev_int ea_nil))) ea_nil))) ea_nil))))
 eb_nil)
 (eb_cons (es_if (et_cmp (op_eqU hr.units) lf_eq3 (ev_var 2) ev_int)
 (eb_one (es_ret (ev_cT cr_tup3 lc_tup3 T.m_tuple (ea_cons (ev_bin op_addF lf_addF (ev_slF (ev_var 3) eo_none (eo_some (ev_bin op_addF lf_addF ev_int (ev_call (ok_law_take T) (hr.mono (by decide)) T.d_law_take.g T.d_law_take.fn.kp T.d_law_take.b (ea_cons (ev_var 0) (ea_cons (ev_bin op_sub lf_sub (ev_cB cr_len lc_len T.m_len (ea_cons (ev_var 3) ea_nil)) ev_int) ea_nil)))))) (ev_lstF (ea_cons (ev_call (ok_law_take T) (hr.mono (by decide)) T.d_law_take.g T.d_law_take.fn.kp T.d_law_take.b (ea_cons (ev_var 0) (ea_cons ev_int ea_nil))) ea_nil))) ea_nil))))
 eb_nil)
 (eb_one (es_ret (ev_call (ok_law_figure T) (hr.mono (by decide)) T.d_law_figure.g T.d_law_figure.fn.kp T.d_law_figure.b (ea_cons (ev_var 0) ea_nil)))))))))))) pu_law_beside nx_law_beside

theorem ok_is_below (T : Tx K mg base) : FnOk P w K mg base CX0 1 T.f_is_below T.fd_is_below ["one", "two"] (dn K sp_is_below) :=
  fn_ok T.d_is_below.fn sc_is_below ln_is_below (fun cdv A outer s H E hr => 
 (eb_one (es_ret (ev_and (ev_cmp op_isntU lf_isnt (ev_var 0) ev_non) (ev_one (ev_or (ev_cmp op_isU lf_is (ev_var 1) ev_non) (ev_one (ev_cmp (op_ltU hr.units0) lf_lt (ev_var 0) (ev_var 1))))))))) pu_is_below nx_is_below

theorem ok_law_less (T : Tx K mg base) : FnOk P w K mg base CX0 1 T.f_law_less T.fd_law_less ["one", "two"] (dn K sp_law_less) :=
  fn_ok T.d_law_less.fn sc_law_less ln_law_less (fun cdv A outer s H E hr => 
 (eb_cons (es_for PassesOwn.never rfl (ei_rg1 T.m_range (ea_cons (ev_cB (call_min2 rfl) lc_min T.m_min (ea_cons (ev_cB cr_len lc_len T.m_len (ea_cons (ev_var 0) ea_nil)) (ea_cons (ev_cB cr_len lc_len T.m_len (ea_cons (ev_var 1) ea_nil)) ea_nil))) ea_nil)) (eg_nm 2 sc_law_less.nd)
 (eb_one (es_if (et_cmp (op_neU hr.units) lf_ne3 (ev_ix (ev_var 0) (ev_var 2)) (ev_ix (ev_var 1) (ev_var 2)))
 (eb_one (es_ret (ev_cmp (op_ltU hr.units0) lf_lt (ev_ix (ev_var 0) (ev_var 2)) (ev_ix (ev_var 1) (ev_var 2)))))
 eb_nil)))
 (eb_one (es_ret (ev_cmp (op_ltU hr.units0) lf_lt (ev_cB cr_len lc_len T.m_len (ea_cons (ev_var 0) ea_nil)) (ev_cB cr_len lc_len T.m_len (ea_cons (ev_var 1) ea_nil))))))) pu_law_less nx_law_less

theorem ok_law_under (T : Tx K mg base) : FnOk P w K mg base CX0 2 T.f_law_under T.fd_law_under ["one", "two"] (dn K sp_law_under) :=
  fn_ok T.d_law_under.fn sc_law_under ln_law_under (fun cdv A outer s H E hr => 
 (eb_cons (es_if (et_cmp op_isU lf_is (ev_var 0) ev_non)
 (eb_one (es_ret ev_bl))
 eb_nil)
 (eb_one (es_ret (ev_or (ev_cmp op_isU lf_is (ev_var 1) ev_non) (ev_one (ev_call (ok_law_less T) (hr.mono (by decide)) T.d_law_less.g T.d_law_less.fn.kp T.d_law_less.b (ea_cons (ev_var 0) (ea_cons (ev_var 1) ea_nil))))))))) pu_law_under nx_law_under

theorem ok_law_compared (T : Tx K mg base) : FnOk P w K mg base CX0 6 T.f_law_compared T.fd_law_compared ["box"] (dn K sp_law_compared) :=
  fn_ok T.d_law_compared.fn sc_law_compared ln_law_compared (fun cdv A outer s H E hr => 
 (eb_cons (es_set 1 sc_law_compared.nd (ev_call (ok_law_figure T) (hr.mono (by decide)) T.d_law_figure.g T.d_law_figure.fn.kp T.d_law_figure.b (ea_cons (ev_var 0) ea_nil)))
 (eb_cons (es_set 2 sc_law_compared.nd (ev_call (ok_law_beside T) (hr.mono (by decide)) T.d_law_beside.g T.d_law_beside.fn.kp T.d_law_beside.b (ea_cons (ev_var 0) (ea_cons (ev_var 1) ea_nil))))
 (eb_cons (es_set 3 sc_law_compared.nd (ev_call (ok_law_take T) (hr.mono (by decide)) T.d_law_take.g T.d_law_take.fn.kp T.d_law_take.b (ea_cons (ev_var 0) (ea_cons ev_int ea_nil))))
 (eb_cons (es_set 4 sc_law_compared.nd (ev_call (ok_law_pick T) (hr.mono (by decide)) T.d_law_pick.g T.d_law_pick.fn.kp T.d_law_pick.b (ea_cons (ev_var 0) (ea_cons (ev_lstF (ea_cons (ev_var 3) (ea_cons (ev_var 3) (ea_cons (ev_call (ok_law_take T) (hr.mono (by decide)) T.d_law_take.g T.d_law_take.fn.kp T.d_law_take.b (ea_cons (ev_var 0) (ea_cons ev_int ea_nil))) ea_nil)))) ea_nil))))
 (eb_cons (es_set 5 sc_law_compared.nd (ev_lst (ea_cons (ev_tup (ea_cons (ev_var 1) (ea_cons (ev_var 2) ea_nil))) (ea_cons (ev_tup (ea_cons (ev_var 2) (ea_cons (ev_var 1) ea_nil))) (ea_cons (ev_tup (ea_cons (ev_var 1) (ea_cons (ev_var 1) ea_nil))) (ea_cons (ev_tup (ea_cons (ev_var 1) (ea_cons ev_non ea_nil))) (ea_cons (ev_tup (ea_cons ev_non (ea_cons (ev_var 2) ea_nil))) (ea_cons (ev_tup (ea_cons ev_non (ea_cons ev_non ea_nil))) ea_nil))))))))
 (eb_cons (es_expr (ev_mt PySem.F.plainAttrs_list PySem.F.slot_list_extend PySem.F.type_list_extend (.inl rfl) mt_ext3 lm_ext3 (ev_var 5) (ea_cons (ev_lstF (ea_cons (ev_tup (ea_cons (ev_bin op_addF lf_addF (ev_tup (ea_cons (ev_var 3) ea_nil)) (ev_var 1)) (ea_cons (ev_bin op_addF lf_addF (ev_tup (ea_cons (ev_var 4) ea_nil)) (ev_var 2)) ea_nil))) (ea_cons (ev_tup (ea_cons (ev_bin op_addF lf_addF (ev_tup (ea_cons (ev_var 4) ea_nil)) (ev_var 2)) (ea_cons (ev_bin op_addF lf_addF (ev_tup (ea_cons (ev_var 3) ea_nil)) (ev_var 1)) ea_nil))) (ea_cons (ev_tup (ea_cons (ev_bin op_addF lf_addF (ev_tup (ea_cons (ev_var 3) ea_nil)) (ev_var 1)) (ea_cons ev_non ea_nil))) ea_nil)))) ea_nil)))
 (eb_cons (es_for PassesOwn.never rfl (ei_lst (ev_var 5)) (eg_tp rfl (egs_cons (eg_nm 6 sc_law_compared.nd) (egs_cons (eg_nm 7 sc_law_compared.nd) egs_nil)))
 (eb_one (es_if (et_not (et_val (ev_call (ok_law_same T 5) (hr.mono (by decide)) T.d_law_same.g T.d_law_same.fn.kp T.d_law_same.b (ea_cons (ev_call (ok_is_below T) (hr.mono (by decide)) T.d_is_below.g T.d_is_below.fn.kp T.d_is_below.b (ea_cons (ev_var 6) (ea_cons (ev_var 7) ea_nil))) (ea_cons (ev_call (ok_law_under T) (hr.mono (by decide)) T.d_law_under.g T.d_law_under.fn.kp T.d_law_under.b (ea_cons (ev_var 6) (ea_cons (ev_var 7) ea_nil))) ea_nil)))))
 (eb_one (es_ret ev_bl))
 eb_nil)))
 (eb_one (es_ret (ev_call (ok_law_same T 5) (hr.mono (by decide)) T.d_law_same.g T.d_law_same.fn.kp T.d_law_same.b (ea_cons (ev_callK0 (ok_is_below T) (hr.mono (by decide)) T.d_is_below.g T.d_is_below.fn.kp T.kb_is_below_0_two_one (ek_cons (ev_var 2) (ek_cons (ev_var 1) ek_nil))) (ea_cons (ev_call (ok_law_under T) (hr.mono (by decide)) T.d_law_under.g T.d_law_under.fn.kp T.d_law_under.b (ea_cons (ev_var 1) (ea_cons (ev_var 2) ea_nil))) ea_nil))))))))))))) pu_law_compared nx_law_compared

theorem ok_least_of (T : Tx K mg base) : FnOk P w K mg base CX0 2 T.f_least_of T.fd_least_of ["row"] (dn K sp_least_of) :=
  fn_ok T.d_least_of.fn sc_least_of ln_least_of (fun cdv A outer s H E hr => 
 (eb_cons (es_set 1 sc_least_of.nd ev_non)
 (eb_cons (es_for PassesOwn.never rfl (ei_seq (ev_var 0)) (eg_nm 2 sc_least_of.nd)
 (eb_one (es_if (et_val (ev_call (ok_is_below T) (hr.mono (by decide)) T.d_is_below.g T.d_is_below.fn.kp T.d_is_below.b (ea_cons (ev_var 2) (ea_cons (ev_var 1) ea_nil))))
 (eb_one (es_set 1 sc_least_of.nd (ev_var 2)))
 eb_nil)))
 (eb_one (es_ret (ev_var 1)))))) pu_least_of nx_least_of

theorem ok_law_leasts (T : Tx K mg base) : FnOk P w K mg base CX0 6 T.f_law_leasts T.fd_law_leasts ["box", "many"] (dn K sp_law_leasts) :=
  fn_ok T.d_law_leasts.fn sc_law_leasts ln_law_leasts (fun cdv A outer s H E hr => 
 (eb_cons (es_set 2 sc_law_leasts.nd (ev_call (ok_law_figure T) (hr.mono (by decide)) T.d_law_figure.g T.d_law_figure.fn.kp T.d_law_figure.b (ea_cons (ev_var 0) ea_nil)))
 (eb_cons (es_set 3 sc_law_leasts.nd (ev_lst ea_nil))
 (eb_cons (es_for PassesOwn.never rfl (ei_rg1 T.m_range (ea_cons (ev_var 1) ea_nil)) (eg_nm 4 sc_law_leasts.nd)
 (eb_one (es_expr (ev_mt PySem.F.plainAttrs_list PySem.F.slot_list_append PySem.F.type_list_append (.inl rfl) mt_append lm_app (ev_var 3) (ea_cons (ev_if (et_cmp (op_eqU hr.units) lf_eq3 (ev_call (ok_law_take T) (hr.mono (by decide)) T.d_law_take.g T.d_law_take.fn.kp T.d_law_take.b (ea_cons (ev_var 0) (ea_cons ev_int ea_nil))) ev_int) ev_non (ev_call (ok_law_beside T) (hr.mono (by decide)) T.d_law_beside.g T.d_law_beside.fn.kp T.d_law_beside.b (ea_cons (ev_var 0) (ea_cons (ev_var 2) ea_nil)))) ea_nil)))))
 (eb_cons (es_set 5 sc_law_leasts.nd ev_non)
 (eb_cons (es_for PassesOwn.never rfl (ei_lst (ev_var 3)) (eg_nm 6 sc_law_leasts.nd)
 (eb_one (es_if (et_val (ev_call (ok_law_under T) (hr.mono (by decide)) T.d_law_under.g T.d_law_under.fn.kp T.d_law_under.b (ea_cons (ev_var 6) (ea_cons (ev_var 5) ea_nil))))
 (eb_one (es_set 5 sc_law_leasts.nd (ev_var 6)))
 eb_nil)))
 (eb_cons (es_set 7 sc_law_leasts.nd (ev_cT cr_tup3 lc_tup3 T.m_tuple (ea_cons (ev_lcF 6 rfl sc_law_leasts.nd (ei_lst (ev_var 3)) (blkOk_by (N := ["box", "many", "first", "line", "turn", "due", "one", "none"]) (sc := defScope s_law_leasts) (by decide +kernel)) (fun _ _ _ _ _ => pg_name (i := 6) sc_law_leasts.nd rfl (Or.inl rfl)) (fun _ _ _ _ _ => ep_nil) (fun _ _ _ _ _ => ev_non)) ea_nil)))
 (eb_one (es_ret (ev_and (ev_call (ok_law_same T 5) (hr.mono (by decide)) T.d_law_same.g T.d_law_same.fn.kp T.d_law_same.b (ea_cons (ev_call (ok_least_of T) (hr.mono (by decide)) T.d_least_of.g T.d_least_of.fn.kp T.d_least_of.b (ea_cons (ev_cT cr_tup3 lc_tup3 T.m_tuple (ea_cons (ev_var 3) ea_nil)) ea_nil)) (ea_cons (ev_var 5) ea_nil))) (ev_and (ev_cmp op_isU lf_is (ev_call (ok_least_of T) (hr.mono (by decide)) T.d_least_of.g T.d_least_of.fn.kp T.d_least_of.b (ea_cons (ev_var 7) ea_nil)) ev_non) (ev_one (ev_cmp op_isU lf_is (ev_callK0 (ok_least_of T) (hr.mono (by decide)) T.d_least_of.g T.d_least_of.fn.kp T.kb_least_of_0_row (ek_cons (ev_tup ea_nil) ek_nil)) ev_non))))))))))))) pu_law_leasts nx_law_leasts

theorem ok_law (T : Tx K mg base) : FnOk P w K mg base CX0 9 T.f_law T.fd_law ["script"] (dn K sp_law) :=
  fn_ok T.d_law.fn sc_law ln_law (fun cdv A outer s H E hr => 
 (eb_cons (es_for PassesOwn.never rfl (ei_rg1 T.m_range (ea_cons (ev_cB (call_max2 rfl) lc_max T.m_max (ea_cons ev_int (ea_cons (ev_cB (call_min2 rfl) lc_min T.m_min (ea_cons (ev_cB cr_len lc_len T.m_len (ea_cons (ev_var 0) ea_nil)) (ea_cons ev_int ea_nil))) ea_nil))) ea_nil)) (eg_nm 1 sc_law.nd)
 (eb_cons (es_set 2 sc_law.nd (ev_call (ok_law_box T) (hr.mono (by decide)) T.d_law_box.g T.d_law_box.fn.kp T.d_law_box.b (ea_cons (ev_var 0) (ea_cons (ev_var 1) ea_nil))))
 (eb_cons (es_for PassesOwn.never rfl (ei_rg1 T.m_range (ea_cons ev_int ea_nil)) (eg_nm 3 sc_law.nd)
 (eb_one (es_if (et_ew (ew_or (et_not (et_val (ev_call (ok_law_checked T) (hr.mono (by decide)) T.d_law_checked.g T.d_law_checked.fn.kp T.d_law_checked.b (ea_cons (ev_var 2) ea_nil)))) (ew_or (et_not (et_val (ev_call (ok_law_compared T) (hr.mono (by decide)) T.d_law_compared.g T.d_law_compared.fn.kp T.d_law_compared.b (ea_cons (ev_var 2) ea_nil)))) (ew_or1 (et_not (et_val (ev_call (ok_law_leasts T) (hr.mono (by decide)) T.d_law_leasts.g T.d_law_leasts.fn.kp T.d_law_leasts.b (ea_cons (ev_var 2) (ea_cons (ev_call (ok_law_take T) (hr.mono (by decide)) T.d_law_take.g T.d_law_take.fn.kp T.d_law_take.b (ea_cons (ev_var 2) (ea_cons ev_int ea_nil))) ea_nil)))))))))
 (eb_one (es_ret ev_bl))
 eb_nil)))
 (eb_one (es_if (et_ew (ew_and (et_cmp (op_eqU hr.units) lf_eq3 (ev_var 1) ev_int) (ew_and1 (et_not (et_val (ev_call (ok_law_leasts T) (hr.mono (by decide)) T.d_law_leasts.g T.d_law_leasts.fn.kp T.d_law_leasts.b (ea_cons (ev_var 2) (ea_cons (ev_call (ok_law_pick T) (hr.mono (by decide)) T.d_law_pick.g T.d_law_pick.fn.kp T.d_law_pick.b (ea_cons (ev_var 2) (ea_cons (ev_lstF (ea_cons ev_int (ea_cons ev_int (ea_cons ev_int ea_nil)))) ea_nil))) ea_nil))))))))
 (eb_one (es_ret ev_bl))
 eb_nil)))))
 (eb_one (es_ret ev_bl)))) pu_law nx_law

end


theorem fl_mk {K : PySem.W.Frag} {x qual : Str} {st : Stmt} {f c : Addr} {fd : FuncData} (F : Fun K x qual st f fd) (e : fd.code = .ref c) : FunL K x qual st f fd c := by
  obtain ⟨oc, od, kV, doc, pm, an, cdv, ct, osl, rfl, lk, hcd⟩ := F.ex
  cases (show cdv = .ref c from e)
  exact ⟨oc, od, kV, doc, pm, an, ct, osl, rfl, lk, hcd⟩

theorem ti_mk {K : PySem.W.Frag} {x : Str} {st : Stmt} {f c P : Addr} {fd : FuncData} {e : Value} {dd : Option Addr} {vs : Array Value} {sl : Array (Option Value)} (q : FunL K x x st f fd c) (a : PySem.W.nsIn K mainGlobals x = some (some (.ref f))) (l : K.lookup c = some ⟨e, dd, .fields vs, sl⟩) (v : vs[11]? = some (.ref P)) (z : K.lookup P = none) : PySem.W.tabIn K x = some (c, P) ∧ K.lookup P = none := by
  refine ⟨?_, z⟩
  obtain ⟨oc, od, kV, doc, pm, an, ct, osl, rfl, lk, hcd⟩ := q
  unfold PySem.W.tabIn
  rw [a]; dsimp only; rw [lk]; dsimp only [PySem.W.fnOf]; rw [l]; dsimp only; rw [v]

theorem tm_mk {K : PySem.W.Frag} {h : Heap} {x : Str} {c P : Addr} {ts : List Addr} (t : PySem.W.tabIn K x = some (c, P) ∧ K.lookup P = none) (y : ∀ P ∈ ts, h.get? P = some (PySem.W.tabObj #[])) (m : P ∈ ts) : h.get? P = some { cls := .none, data := .fields #[] } := y P m

theorem cd_mk {K : PySem.W.Frag} {h : Heap} {x : Str} {c P : Addr} (X : K.In h) (t : PySem.W.tabIn K x = some (c, P) ∧ K.lookup P = none) (e : PySem.W.codeHdIn K c P = true) : PySem.W.CodeHd h c P := PySem.W.codeHd_of_K X e

end K01

open PySem PySem.W PyProof.Rows
set_option maxHeartbeats 0 in
theorem PySem.Challenge.cw_maypoint_k01_numbers_and_what_is_none_holds : PySem.Challenge.rw_maypoint_k01_numbers_and_what_is_none.Holds := by
  w_on; o_law; k_head; (case hw => w_witness2)
  k_fill
  refine LamX.walk_ofTs (l := PySem.Challenge.rw_maypoint_k01_numbers_and_what_is_none) (n := 63) (k := 9) (x := "script") (CX := fun _ => L2.CX0) rfl (by decide) rfl ⟨rfl, by decide, by decide⟩ (fun w h Y => PySem.W.km_in_of Y) ?F (fun _ _ _ _ _ h => h)
  case F =>
    intro w mg fa h YY KX G hmg
    refine' (fun q_BadDeed => ?_) (K01.ck_mk (n := "BadDeed") KX G ?a)
    (case a => k_is)

    refine' (fun q_BadNumber => ?_) (K01.ck_mk (n := "BadNumber") KX G ?a)
    (case a => k_is)

    refine' (fun q_BadOctets => ?_) (K01.ck_mk (n := "BadOctets") KX G ?a)
    (case a => k_is)

    refine' (fun q_BadPast => ?_) (K01.ck_mk (n := "BadPast") KX G ?a)
    (case a => k_is)

    refine' (fun q_BadRow => ?_) (K01.ck_mk (n := "BadRow") KX G ?a)
    (case a => k_is)

    refine' (fun q_BadRule => ?_) (K01.ck_mk (n := "BadRule") KX G ?a)
    (case a => k_is)

    refine' (fun q_BadStretch => ?_) (K01.ck_mk (n := "BadStretch") KX G ?a)
    (case a => k_is)

    refine' (fun q_BadText => ?_) (K01.ck_mk (n := "BadText") KX G ?a)
    (case a => k_is)

    refine' (fun q_OwnError => ?_) (K01.ck_mk (n := "OwnError") KX G ?a)
    (case a => k_is)

    refine' (fun q_Refused => ?_) (K01.ck_mk (n := "Refused") KX G ?a)
    (case a => k_is)

    refine' (fun low_BadNumber => ?_) (K01.le_mk_LA (st := L2.inClass (K01.topS 2) 0) (qX := "BadNumber.__init__") q_BadNumber ?xL ?hb ?sa ?ga ?gg ?nb ?a1 ?t1 ?hA ?hB ?hS ?l1 ?c1 ?kC ?eC ?tC ?hC (Y.exm_of ?te1 ?te2 ?te3 ?te4))
    (case xL => k_is); (case hb => first | rfl | decide +kernel | k_is); (case sa => k_is); (case ga => k_is); (case gg => k_is); (case nb => k_is); (case a1 => k_is); (case t1 => k_is); (case hA => rfl); (case hB => rfl); (case hS => rfl); (case l1 => k_is); (case c1 => k_is); (case kC => k_is); (case eC => k_is); (case tC => k_is); (case hC => k_is); (case te1 => k_is); (case te2 => k_is); (case te3 => k_is); (case te4 => first | rfl | k_is)

    refine' (fun x_BadNumber => ?_) (K01.ed_mk q_BadNumber ?h1 ?h2 ?h3 ?h4 ?h5 ?h6 ?h7 ?h8 ?h9)
    (case h1 => k_is); (case h2 => k_is); (case h3 => k_is); (case h4 => k_is); (case h5 => k_is); (case h6 => k_is); (case h7 => k_is); (case h8 => k_is); (case h9 => k_is)

    refine' (fun mo_BadNumber => ?_) (K01.mo_mk q_BadNumber (Y.mok_cons (n := "BadNumber") (b := true) q_BadNumber.cn (Y.exm_of ?xa0 ?xb0 ?xc0 ?xd0) Y.mok_nil))
    (case xa0 => k_is); (case xb0 => k_is); (case xc0 => k_is); (case xd0 => first | rfl | k_is)

    refine' (fun tb => ?_) (Y.tb_own (cn := "BadNumber") (m := "BadDeed") (b := false) q_BadNumber.cn q_BadDeed.cn (Y.kit_of ?xa0 ?xb0 ?xc0 ?xd0) (Y.tb_own (cn := "BadNumber") (m := "BadOctets") (b := false) q_BadNumber.cn q_BadOctets.cn (Y.kit_of ?xa1 ?xb1 ?xc1 ?xd1) (Y.tb_own (cn := "BadNumber") (m := "BadPast") (b := false) q_BadNumber.cn q_BadPast.cn (Y.kit_of ?xa2 ?xb2 ?xc2 ?xd2) (Y.tb_own (cn := "BadNumber") (m := "BadRow") (b := false) q_BadNumber.cn q_BadRow.cn (Y.kit_of ?xa3 ?xb3 ?xc3 ?xd3) (Y.tb_own (cn := "BadNumber") (m := "BadRule") (b := false) q_BadNumber.cn q_BadRule.cn (Y.kit_of ?xa4 ?xb4 ?xc4 ?xd4) (Y.tb_own (cn := "BadNumber") (m := "BadStretch") (b := false) q_BadNumber.cn q_BadStretch.cn (Y.kit_of ?xa5 ?xb5 ?xc5 ?xd5) (Y.tb_own (cn := "BadNumber") (m := "BadText") (b := false) q_BadNumber.cn q_BadText.cn (Y.kit_of ?xa6 ?xb6 ?xc6 ?xd6) (Y.tb_own (cn := "BadNumber") (m := "OwnError") (b := true) q_BadNumber.cn q_OwnError.cn (Y.kit_of ?xa7 ?xb7 ?xc7 ?xd7) (Y.tb_own (cn := "BadNumber") (m := "Refused") (b := false) q_BadNumber.cn q_Refused.cn (Y.kit_of ?xa8 ?xb8 ?xc8 ?xd8) (Y.tb_ty (cn := "BadNumber") (m := "ValueError") (b := true) q_BadNumber.cn (Y.kitT_of (by decide +kernel) ?xa9) Y.tb_nil))))))))))
    (case xa0 => k_is); (case xb0 => k_is); (case xc0 => first | rfl | k_is); (case xd0 => first | rfl | k_is); (case xa1 => k_is); (case xb1 => k_is); (case xc1 => first | rfl | k_is); (case xd1 => first | rfl | k_is); (case xa2 => k_is); (case xb2 => k_is); (case xc2 => first | rfl | k_is); (case xd2 => first | rfl | k_is); (case xa3 => k_is); (case xb3 => k_is); (case xc3 => first | rfl | k_is); (case xd3 => first | rfl | k_is); (case xa4 => k_is); (case xb4 => k_is); (case xc4 => first | rfl | k_is); (case xd4 => first | rfl | k_is); (case xa5 => k_is); (case xb5 => k_is); (case xc5 => first | rfl | k_is); (case xd5 => first | rfl | k_is); (case xa6 => k_is); (case xb6 => k_is); (case xc6 => first | rfl | k_is); (case xd6 => first | rfl | k_is); (case xa7 => k_is); (case xb7 => k_is); (case xc7 => first | rfl | k_is); (case xd7 => first | rfl | k_is); (case xa8 => k_is); (case xb8 => k_is); (case xc8 => first | rfl | k_is); (case xd8 => first | rfl | k_is); (case xa9 => k_is)

    refine' (fun d_law_box => ?_) (K01.df_mk (x := "_law_box") (st := K01.s_law_box) (ps := ["script", "k"]) KX G ?a ?l ?c ?k (fun _ _ _ _ _ _ us hl => match us, hl with | [_, _], _ => rfl))
    (case a => k_is); (case l => k_is); (case c => k_is); (case k => k_is)

    refine' (fun d_law_take => ?_) (K01.df_mk (x := "_law_take") (st := K01.s_law_take) (ps := ["box", "many"]) KX G ?a ?l ?c ?k (fun _ _ _ _ _ _ us hl => match us, hl with | [_, _], _ => rfl))
    (case a => k_is); (case l => k_is); (case c => k_is); (case k => k_is)

    refine' (fun d_law_pick => ?_) (K01.df_mk (x := "_law_pick") (st := K01.s_law_pick) (ps := ["box", "some"]) KX G ?a ?l ?c ?k (fun _ _ _ _ _ _ us hl => match us, hl with | [_, _], _ => rfl))
    (case a => k_is); (case l => k_is); (case c => k_is); (case k => k_is)

    refine' (fun d_law_entry => ?_) (K01.df_mk (x := "_law_entry") (st := K01.s_law_entry) (ps := ["box"]) KX G ?a ?l ?c ?k (fun _ _ _ _ _ _ us hl => match us, hl with | [_], _ => rfl))
    (case a => k_is); (case l => k_is); (case c => k_is); (case k => k_is)

    refine' (fun d_law_figure => ?_) (K01.df_mk (x := "_law_figure") (st := K01.s_law_figure) (ps := ["box"]) KX G ?a ?l ?c ?k (fun _ _ _ _ _ _ us hl => match us, hl with | [_], _ => rfl))
    (case a => k_is); (case l => k_is); (case c => k_is); (case k => k_is)

    refine' (fun d_law_same => ?_) (K01.df_mk (x := "_law_same") (st := K01.s_law_same) (ps := ["told", "due"]) KX G ?a ?l ?c ?k (fun _ _ _ _ _ _ us hl => match us, hl with | [_, _], _ => rfl))
    (case a => k_is); (case l => k_is); (case c => k_is); (case k => k_is)

    refine' (fun d_law_heard => ?_) (K01.df_mk (x := "_law_heard") (st := K01.s_law_heard) (ps := ["ask"]) KX G ?a ?l ?c ?k (fun _ _ _ _ _ _ us hl => match us, hl with | [_], _ => rfl))
    (case a => k_is); (case l => k_is); (case c => k_is); (case k => k_is)

    refine' (fun d_is_whole => ?_) (K01.df_mk (x := "is_whole") (st := K01.s_is_whole) (ps := ["value"]) KX G ?a ?l ?c ?k (fun _ _ _ _ _ _ us hl => match us, hl with | [_], _ => rfl))
    (case a => k_is); (case l => k_is); (case c => k_is); (case k => k_is)

    refine' (fun d_is_name => ?_) (K01.df_mk (x := "is_name") (st := K01.s_is_name) (ps := ["value"]) KX G ?a ?l ?c ?k (fun _ _ _ _ _ _ us hl => match us, hl with | [_], _ => rfl))
    (case a => k_is); (case l => k_is); (case c => k_is); (case k => k_is)

    refine' (fun d_number_fault => ?_) (K01.df_mk (x := "number_fault") (st := K01.s_number_fault) (ps := ["value"]) KX G ?a ?l ?c ?k (fun _ _ _ _ _ _ us hl => match us, hl with | [_], _ => rfl))
    (case a => k_is); (case l => k_is); (case c => k_is); (case k => k_is)

    refine' (fun d_check_number => ?_) (K01.df_mk (x := "check_number") (st := K01.s_check_number) (ps := ["value"]) KX G ?a ?l ?c ?k (fun _ _ _ _ _ _ us hl => match us, hl with | [_], _ => rfl))
    (case a => k_is); (case l => k_is); (case c => k_is); (case k => k_is)

    refine' (fun d_law_spoilt => ?_) (K01.df_mk (x := "_law_spoilt") (st := K01.s_law_spoilt) (ps := ["box", "one"]) KX G ?a ?l ?c ?k (fun _ _ _ _ _ _ us hl => match us, hl with | [_, _], _ => rfl))
    (case a => k_is); (case l => k_is); (case c => k_is); (case k => k_is)

    refine' (fun d_law_fault => ?_) (K01.df_mk (x := "_law_fault") (st := K01.s_law_fault) (ps := ["value"]) KX G ?a ?l ?c ?k (fun _ _ _ _ _ _ us hl => match us, hl with | [_], _ => rfl))
    (case a => k_is); (case l => k_is); (case c => k_is); (case k => k_is)

    refine' (fun d_law_checked => ?_) (K01.df_mk (x := "_law_checked") (st := K01.s_law_checked) (ps := ["box"]) KX G ?a ?l ?c ?k (fun _ _ _ _ _ _ us hl => match us, hl with | [_], _ => rfl))
    (case a => k_is); (case l => k_is); (case c => k_is); (case k => k_is)

    refine' (fun d_law_beside => ?_) (K01.df_mk (x := "_law_beside") (st := K01.s_law_beside) (ps := ["box", "one"]) KX G ?a ?l ?c ?k (fun _ _ _ _ _ _ us hl => match us, hl with | [_, _], _ => rfl))
    (case a => k_is); (case l => k_is); (case c => k_is); (case k => k_is)

    refine' (fun d_is_below => ?_) (K01.df_mk (x := "is_below") (st := K01.s_is_below) (ps := ["one", "two"]) KX G ?a ?l ?c ?k (fun _ _ _ _ _ _ us hl => match us, hl with | [_, _], _ => rfl))
    (case a => k_is); (case l => k_is); (case c => k_is); (case k => k_is)

    refine' (fun d_law_less => ?_) (K01.df_mk (x := "_law_less") (st := K01.s_law_less) (ps := ["one", "two"]) KX G ?a ?l ?c ?k (fun _ _ _ _ _ _ us hl => match us, hl with | [_, _], _ => rfl))
    (case a => k_is); (case l => k_is); (case c => k_is); (case k => k_is)

    refine' (fun d_law_under => ?_) (K01.df_mk (x := "_law_under") (st := K01.s_law_under) (ps := ["one", "two"]) KX G ?a ?l ?c ?k (fun _ _ _ _ _ _ us hl => match us, hl with | [_, _], _ => rfl))
    (case a => k_is); (case l => k_is); (case c => k_is); (case k => k_is)

    refine' (fun d_law_compared => ?_) (K01.df_mk (x := "_law_compared") (st := K01.s_law_compared) (ps := ["box"]) KX G ?a ?l ?c ?k (fun _ _ _ _ _ _ us hl => match us, hl with | [_], _ => rfl))
    (case a => k_is); (case l => k_is); (case c => k_is); (case k => k_is)

    refine' (fun d_least_of => ?_) (K01.df_mk (x := "least_of") (st := K01.s_least_of) (ps := ["row"]) KX G ?a ?l ?c ?k (fun _ _ _ _ _ _ us hl => match us, hl with | [_], _ => rfl))
    (case a => k_is); (case l => k_is); (case c => k_is); (case k => k_is)

    refine' (fun d_law_leasts => ?_) (K01.df_mk (x := "_law_leasts") (st := K01.s_law_leasts) (ps := ["box", "many"]) KX G ?a ?l ?c ?k (fun _ _ _ _ _ _ us hl => match us, hl with | [_, _], _ => rfl))
    (case a => k_is); (case l => k_is); (case c => k_is); (case k => k_is)

    refine' (fun d_law => ?_) (K01.df_mk (x := "law") (st := K01.s_law) (ps := ["script"]) KX G ?a ?l ?c ?k (fun _ _ _ _ _ _ us hl => match us, hl with | [_], _ => rfl))
    (case a => k_is); (case l => k_is); (case c => k_is); (case k => k_is)

    refine' (fun fl_law_checked => ?_) (K01.fl_mk d_law_checked.fn ?e)
    (case e => exact rfl)

    refine' (fun ti_law_checked => ?_) (K01.ti_mk fl_law_checked ?a ?l ?v ?z)
    (case a => k_is); (case l => k_is); (case v => first | rfl | k_is); (case z => first | k_is | kernel_rfl)

    refine' (fun m_ValueError => ?_) (PySem.W.mg_none_of KX G (n := "ValueError") ?z)
    (case z => k_is)

    refine' (fun m_abs => ?_) (PySem.W.mg_none_of KX G (n := "abs") ?z)
    (case z => k_is)

    refine' (fun m_bool => ?_) (PySem.W.mg_none_of KX G (n := "bool") ?z)
    (case z => k_is)

    refine' (fun m_enumerate => ?_) (PySem.W.mg_none_of KX G (n := "enumerate") ?z)
    (case z => k_is)

    refine' (fun m_int => ?_) (PySem.W.mg_none_of KX G (n := "int") ?z)
    (case z => k_is)

    refine' (fun m_isinstance => ?_) (PySem.W.mg_none_of KX G (n := "isinstance") ?z)
    (case z => k_is)

    refine' (fun m_len => ?_) (PySem.W.mg_none_of KX G (n := "len") ?z)
    (case z => k_is)

    refine' (fun m_list => ?_) (PySem.W.mg_none_of KX G (n := "list") ?z)
    (case z => k_is)

    refine' (fun m_max => ?_) (PySem.W.mg_none_of KX G (n := "max") ?z)
    (case z => k_is)

    refine' (fun m_min => ?_) (PySem.W.mg_none_of KX G (n := "min") ?z)
    (case z => k_is)

    refine' (fun m_range => ?_) (PySem.W.mg_none_of KX G (n := "range") ?z)
    (case z => k_is)

    refine' (fun m_str => ?_) (PySem.W.mg_none_of KX G (n := "str") ?z)
    (case z => k_is)

    refine' (fun m_tuple => ?_) (PySem.W.mg_none_of KX G (n := "tuple") ?z)
    (case z => k_is)

    refine' (fun m_zip => ?_) (PySem.W.mg_none_of KX G (n := "zip") ?z)
    (case z => k_is)

    refine' (fun c_NAMES => ?_) (PySem.W.mg_of KX G (n := "NAMES") ?z)
    (case z => k_is)

    have kb_check_number_0_value := Y.kb_mk (ps := ["value"]) (ks := ["value"]) (n := 0) (m := 1) (π := [0]) d_check_number.fn (by simp) (fun _ _ _ _ _ _ us ws h1 h2 => match us, ws, h1, h2 with | [], [_], _, _ => by first | rfl | with_unfolding_all rfl)

    have kb_is_below_0_two_one := Y.kb_mk (ps := ["one", "two"]) (ks := ["two", "one"]) (n := 0) (m := 2) (π := [1, 0]) d_is_below.fn (by simp) (fun _ _ _ _ _ _ us ws h1 h2 => match us, ws, h1, h2 with | [], [_, _], _, _ => by first | rfl | with_unfolding_all rfl)

    have kb_least_of_0_row := Y.kb_mk (ps := ["row"]) (ks := ["row"]) (n := 0) (m := 1) (π := [0]) d_least_of.fn (by simp) (fun _ _ _ _ _ _ us ws h1 h2 => match us, ws, h1, h2 with | [], [_], _, _ => by first | rfl | with_unfolding_all rfl)

    refine' (fun cd_law_checked => ?_) (K01.cd_mk KX ti_law_checked ?e)
    (case e => kernel_rfl)

    refine' (fun tm_law_checked => ?_) (K01.tm_mk ti_law_checked (PySem.W.km_tabs_of YY) ?m)
    (case m => first | decide | simp)

    have e := hmg.symm.trans d_law.g
    cases e

    refine ⟨_, [(_, _)], _, by intro p hp; simp only [List.mem_cons, List.not_mem_nil, or_false] at hp; subst hp; exact tm_law_checked, by intro p hp; simp only [List.mem_cons, List.not_mem_nil, or_false] at hp; subst hp; exact ti_law_checked.2, by intro p hp; simp only [List.mem_cons, List.not_mem_nil, or_false] at hp; subst hp; exact cd_law_checked, ?b, ?hs, fun base _ _ TB => Y.fn_fz (K01.ok_law (⟨_, q_BadDeed.g, q_BadDeed.cn, _, q_BadNumber.g, q_BadNumber.cn, _, q_BadOctets.g, q_BadOctets.cn, _, q_BadPast.g, q_BadPast.cn, _, q_BadRow.g, q_BadRow.cn, _, q_BadRule.g, q_BadRule.cn, _, q_BadStretch.g, q_BadStretch.cn, _, q_BadText.g, q_BadText.cn, _, q_OwnError.g, q_OwnError.cn, _, q_Refused.g, q_Refused.cn, _, low_BadNumber, x_BadNumber, mo_BadNumber, tb, _, _, d_law_box, _, _, d_law_take, _, _, d_law_pick, _, _, d_law_entry, _, _, d_law_figure, _, _, d_law_same, _, _, d_law_heard, _, _, d_is_whole, _, _, d_is_name, _, _, d_number_fault, _, _, d_check_number, _, _, d_law_spoilt, _, _, d_law_fault, _, _, d_law_checked, _, _, fl_law_checked, ti_law_checked.1, TB (_, _) (by first | exact List.mem_cons_self | exact List.mem_cons_of_mem _ List.mem_cons_self | exact List.mem_cons_of_mem _ (List.mem_cons_of_mem _ List.mem_cons_self) | exact List.mem_cons_of_mem _ (List.mem_cons_of_mem _ (List.mem_cons_of_mem _ List.mem_cons_self))), _, _, d_law_beside, _, _, d_is_below, _, _, d_law_less, _, _, d_law_under, _, _, d_law_compared, _, _, d_least_of, _, _, d_law_leasts, _, _, d_law, m_ValueError, m_abs, m_bool, m_enumerate, m_int, m_isinstance, m_len, m_list, m_max, m_min, m_range, m_str, m_tuple, m_zip, ⟨_, c_NAMES⟩, kb_check_number_0_value, kb_is_below_0_two_one, kb_least_of_0_row⟩ : K01.Tx _ mg base))⟩
    · exact fun s v => .of_eq rfl
    · exact fun H a ns hl hb hT hS => Y.law_inT (L := [(_, "_law_checked")]) K01.law_ok hl (fun p hp => by simp only [List.mem_cons, List.not_mem_nil, or_false] at hp; subst hp <;> exact hT (_, _) (by first | exact List.mem_cons_self | exact List.mem_cons_of_mem _ List.mem_cons_self | exact List.mem_cons_of_mem _ (List.mem_cons_of_mem _ List.mem_cons_self) | exact List.mem_cons_of_mem _ (List.mem_cons_of_mem _ (List.mem_cons_of_mem _ List.mem_cons_self)))) (by intro p hp; simp only [List.mem_cons, List.not_mem_nil, or_false] at hp; subst hp; exact ⟨_, ti_law_checked.1⟩) hS (fun _ => rfl)
