import PyProof.Rows.All
import Wide.All
import OpenK.AllK
import Wide.FinOn
import Lean
import PyProof.EqAt
import PyProof.EqKinds
import PyProof.TupleCall
import PyProof.StationsW
import PyProof.ExcClass2
import PyProof.ExcBaseAll.ValueError
import PyProof.InstStoreFacts
import PyProof.RulesAs
import PyProof.NsDelKeeps
import PyProof.P3Eq
import PyProof.P3In
import PyProof.ReprRoads
import PyProof.StrWalks
import PyProof.ListRange
import PyProof.ListStr
import PyProof.ConsumeWalk
import PyProof.MinMaxWalk
import PyProof.NeData
import PyProof.SliceStr2
import PyProof.Rows.SortStr
import PyProof.Rows.StrJoin2
import PyProof.Rows.SeqMore
import PyProof.SeqI3
import PyProof.StrLawsIn
import PyProof.ListMulRoad
import PyProof.StrOps2
import PyProof.ReprBulk
import PySem.Challenge.RW_lostpost_k52_makers_and_words
import PyProof.Rows.SortShellK
import KE.KSortTup
import PyProof.Rows.SetFrom
import PyProof.CollectIter
import PyProof.CollectStr
import PyProof.FactsAll.set
import PySem.SetTable
import PyProof.SetScanFacts
import PyProof.TupleKey
import PyProof.IsRules
import PyProof.DictRoadsH
import KE.KDictOf
import PyProof.AttrMissHeap
import PyProof.DictWalks
import KE.KDictLaws
import PyProof.Rows.SortRuns
import PyProof.Draws
import KE.KRevIter
import PyProof.EnumStmt
import PyProof.JoinWalk
import KE.BitLaws
import PyProof.TupleOfSeq
import PyProof.StrCalls6
import PyProof.StrLawsReplace
import PyProof.ExcAttrAll.ValueError
import PyProof.ExcArgs
import KE.KIsAll
import PyProof.ZipIter
import PyProof.EnumIter
import KE.KItemsList
import PyProof.Rows.Range3
open PyProof.Rows renaming wpS_bind->G9, wpS_pure->GA, wpS_forRange->GG, SortSt->GW, failedOf->GX, wpS_mono->GY, wpS_modify->Ta, Keyed->Tc, SortKind->Tg, wpS_get->Th, listUpdate_at->Ti, size_push'->T0, get?_update_seq->TF, wpS_reverse->TQ, wpS_lift->TW, seqEpoch_at->Mj, entry_list_sort->Mk, getElem?_mirror_all->Mo, listItems_at->Mq, slot_list_sort->Mv, sortedHeap->Mw, AllBare->Mz, StrsAre->MB, entry_sorted->MD, envOfC->ME, plain_sorted->MG, sortedS->MI, subscriptTail_builtinR->MJ, getElem?_bubble->MM, args_list_sort->MQ, kind_sorted->MS, sortedHeap_old->MV, sortedHeap_at->Na, subscriptTail->Nb, args_sorted1->Ni, elem'_eq->Nl, risingS->Nm, kat_kind_eq->Nw, IntsAre->N0, general'->N7, mirror->N8, oneType'->N9
open PySem renaming wpAny_bind->G4, Value->G5, wpAny_pure->G6, PyData->G7, Shared->G8, Program->GB, starEach->GC, World->GD, sizeLine_eq->GE, Around->GF, wpAny_Call_Name_kw->GH, wpAny_newObj_type->GI, wpAny_setField_rec->GJ, wpAny_holding->GK, wpAny_call_entry->GL, wpAny_mono->GM, SetTable->GN, bootBuiltins->GO, compareOp->GP, rawInt->GQ, cellsFrom->GT, codeAny_builtin->GU, Scope->GV, wpAny_rule->GZ, wpAny_callSpecial?_slot->Tb, fits_of_scanBound->Td, foldedSetIterable->Te, pickOrder->Tf, swapsWith->Tj, backTo->Tk, wpAny_passesOwn->Tl, bindArgs->Tn, codeAny_mono->To, behindInMarks->Tq, plainId_quiet->Tr, wpAny_attempt->Tt, FuncData->Tu, NameKind->Tv, binaryOp->Tw, relayAll->Tz, sysModules->TB, wpAny_typeOf->TC, codeAmong->TH, wpAny_newList->TJ, builtinLookup_eq_fast->TK, wpAny_truthy_bool->TL, assignEach->TM, isSubtype_type->TN, Arguments->TR, ReadsAll->TU, attributeBase->TV, pushCells_keeps->TX, wpAny_specialOf->TY, builtinsNs->TZ, sliceBounds->Ma, wpAny_newTuple->Mb, wpAny_setState_of->Mc, wpAny_askSetting->Md, wpAny_isInstance->Me, codeAny->Mf, getItem->Mg, Reads->Mh, codeAny_extend_loopS->Mi, letOwnedTupleGo->Ml, typeLookup_type->Mm, wpAny_execs_nil->Mn, Keyword->Mp, setNext->Mr, spliced->Ms, newFunctionEnv->Mt, setAddHashedIn->Mu, wpAny_fieldsOf->Mx, wpAny_runValue->My, hashInt->M0, keywordEach->M1, wpAny_pyIter_list->M2, wpAny_pyIter_slot->M3, Paired->M4, filterMap_getElem?_range->M5, pyNext->M6, TriplesOk->M7, isSubtype->M8, noFill_tuple_add->M9, IsPart->MA, call_meets->MC, hashStr->MF, setAddHashed->MH, wpAny_call->MK, codeAny_of_tree->ML, wpAny_loadPart'->MN, codeAny_call_function->MO, weight_type_call_type->MP, codeAny_call_builtin->MR, pyIter->MT, slicePicked->MU, storeSet->MW, BindsTo->MX, valueAt->MY, seq_tuple_add->MZ, checkCount->Nc, typeLookup->Nf, ElemsOf->Ng, GenState->Nh, backToKw->Nj, concat_meets->Nk, assign->Nn, layNew->No, putSet_of->Np, seqIndex?->Nq, storeName->Nr, typeOf->Nt, Walks->Nu, atKey->Nv, wpAny_alloc->Ny, wpAny_field->Nz, newList->N1, Drawn->N4, bindC->N5, bindL->N6, setDrawn->NC
abbrev ND:=@if_pos
abbrev NE:=@if_neg
abbrev NF:=@of_decide_eq_true
abbrev NG:=@decide_eq_true_eq
abbrev NH:=@decide_eq_true
abbrev NI:=@decide_eq_false
abbrev NJ:=@if_false
abbrev NK:=@congrArg
abbrev NL:=@if_true
abbrev NM:=@beq_self_eq_true
abbrev NN:=@map_eq_pure_bind
abbrev NO:=@bne_self_eq_false
abbrev NP:=@beq_iff_eq
open Array renaming getElem?_eq_getElem->Qx, getElem?_toList->QG, length_toList->QW, getElem?_eq_none->ZL, toList_push->J4, getD_eq_getD_getElem?->JW, getElem?_eq_some_iff->Ya, toList_append->Yh, toList_setIfInBounds->Ve, all_eq_true'->Uu, toList->Gz
open Bool renaming and_eq_true->Qy, false_ne_true->Q6, false_eq_true->QM, not_eq_true'->ZO, eq_iff_iff->JO, not_eq_false'->Uy, and_false->Gi, or_false->Gq, not_true->Gr
open Char renaming toNat->V4
open Classical renaming byContradiction->Ye, em->UJ
open False renaming elim->ZG
open ForInStep renaming yield->JP
open Int renaming emod_lt_of_pos->Jy, toNat_of_nonneg->JD, emod_nonneg->JQ
open List renaming getElem?_eq_getElem->Qb, mem_cons_of_mem->Qe, length_map->Qf, getElem?_map->Qi, getD_eq_getElem?_getD->Qj, length_cons->Qk, length_append->Ql, mem_singleton->Qm, getElem?_eq_some_iff->Qn, mem_map->Qp, mem_cons->Qs, replicate->Qt, mem_cons_self->Qu, append_assoc->Qv, mem_of_getElem?->Qz, getElem?_eq_none->Q0, range->Q2, getElem?_set_self->Q3, size_toArray->Q5, mem_append->Q7, map_cons->Q8, getElem?_set_ne->QB, mem_append_left->QC, append_nil->QD, map_append->QE, mem_append_right->QF, getElem?_append_left->QO, nodup_cons->QQ, length_replicate->QR, getElem_of_mem->QT, getElem?_append_right->QU, length_set->QV, pairwise_iff_getElem->QX, length_take->QY, getElem?_replicate->QZ, length_range->Zb, map_map->Zd, mem_range->Zf, mem_filter->Zg, getElem_mem->Zi, take_succ_eq_append_getElem->Zj, not_mem_nil->Zk, mem_of_mem_take->Zm, take_length->Zn, cons_append->Zo, ext_getElem?->Zq, eq_nil_of_length_eq_zero->Zr, drop_eq_getElem_cons->Zu, getD->Z0, pairwise_cons->Z4, all_eq_true->Z8, lookup_cons_self->ZA, take_append_drop->ZB, nodup_append->ZE, foldl_append->ZF, length_drop->ZK, pairwise_map->ZP, getElem_range->ZR, lookup_cons->ZS, getElem?_range->Jc, find?_cons->Jd, length_singleton->Je, length_filter_le->Jf, mem_flatMap->Jj, length_erase_of_mem->Jm, length_eq_zero_iff->Jo, take_of_length_le->Jq, length_pos_of_mem->Jt, not_lt->Ju, drop_length->Jv, getElem?_drop->Jx, contains_iff_mem->Jz, nil_append->J2, mem_erase_of_ne->J5, pairwise_iff_forall_sublist->J8, flatMap_cons->J9, getElem?_cons_succ->JF, filter_cons->JG, lt_irrefl->JH, zip_cons_cons->JM, mem_iff_getElem?->JT, eq_nil_or_concat->JU, concat_eq_append->JV, mapM_toArray->JX, length->JY, drop_zero->JZ, ext_getElem->Yb, perm_middle->Yc, map_congr_left->Yg, mergeSort_perm->Yi, reverse_append->Yj, getElem?_take_of_lt->Yk, length_nil->Yn, foldl_cons->Yo, filter_append->Yq, eraseIdx_cons_succ->Yu, pairwise_mergeSort->Yv, findIdx?_eq_some_iff_getElem->Yx, drop_drop->Y2, eraseIdxIfInBounds_toArray->Y4, perm_append_comm->Y6, getElem_map->Y9, lt_trans->YC, length_eraseIdx->YD, mem_of_mem_drop->YF, of_mem_zip->YG, countP_eq_length_filter->YK, filterMap_cons->YM, flatMap_append->YO, map_nil->YQ, take_zero->Vc, getElem?_take->Vd, getElem?_zip_eq_some->Vf, findIdx?_eq_none_iff->Vg, zip_nil_left->Vj, map_take->Vr, zipIdxLE->Vu, sum_cons->Vw, le_antisymm->Vz, drop_eq_nil_of_le->V3, all_map->V8, singleton_sublist->VA, pairwise_lt_range->VB, getElem?_toArray->VG, take_eq_take_min->VH, set_append_right->VM, reverse_reverse->VX, drop_set_of_lt->Uc, perm_iff_count->Ud, lt_of_le_of_lt->Ue, take_succ_cons->Uf, filter_sublist->Ug, any_cons->Uh, map_drop->Ui, take_add->Ul, mem_filterMap->Um, zip_nil_right->U0, mem_mergeSort->U1, map_inj_right->U2, map_replicate->U3, take_sublist->U6, reverse_cons->U7, take_add_one->U9, map->UA, getElem_take->UG, getElem_drop->UH, getElem?_inj->UI, getElem_inj->UK, map_reverse->UQ, mem_reverse->UR, nodup_range->UT, all_toArray->UX, any_eq_true->UY, append_inj'->UZ, forIn_cons->Gb, range_succ->Gc, forIn_nil->Gk, take_succ->Gp
open List.Pairwise renaming nil->U8
open List.Perm renaming eq_of_pairwise->Vv, append_left->VI, swap->Gm, cons->Gn
open Nat renaming le_refl->Qg, ne_of_lt->Q1, lt_of_lt_of_le->QA, zero_le->QI, lt_succ_of_lt->QJ, le_trans->QN, lt_irrefl->QS, lt_succ_self->Zh, lt_or_ge->Zx, le_succ->ZN, le_of_lt->ZY, le_of_succ_le->ZZ, zero_add->JN, not_lt_zero->Yp, not_lt->Yr, ne_of_gt->Yy, toDigits->Y0, mul_le_mul->Y3, mul_le_mul_right->YE, sub_zero->YS, lt_of_le_of_lt->YY, lt_of_succ_lt->Vk, lt_trichotomy->Vl, le_of_not_lt->Vy, add_zero->V5, le_of_eq->V6, add_mul->VZ, lt_of_le_of_ne->Ut, add_sub_cancel->Uz, min_le_right->UM, le_add_right->UW
open Ne renaming symm->ZC
open Option renaming map_eq_some_iff->Q4, none->QP, isSome_iff_exists->ZQ, map_some->J1, isSome_some->Us, getD_none->UN, getD_some->UP
open Option.some renaming inj->Zp
open Prod renaming ext->Gh
open PyProof.Rows renaming slot_tuple_getitem->Zw, callWith_type1->ZD, callWith_builtin1->Jg
open PyProof.Rows.F renaming plain_set_update_loop->ZU, entry_set_update_loop->JI
open PyProof.Rows.IsTup renaming new->Gx
open PyProof.Rows.SortSt renaming mk'->V9
open PySem renaming Spec->Qh, mem_of_lookup->Zl, strKind->ZW, intKind->ZX, Builtin->YB, SetTable->VQ, call->Gj, Within->Gy
open PySem.Around renaming under_plainId->Zz, frames_deeper->VT, under_plain->Ux
open PySem.Builtin.Frozenset renaming updateFrom->YI, slot0->V0, newClass->Go
open PySem.Builtin.List renaming listLengthHint->Jr, listExtendWith->Js, listSameRef->JC, listTooLong->Ym, listUpdate->Yw, listTouch->V7
open PySem.Builtin.Slice renaming slicePlaces->J0, sliceAdjust->Yd, sliceApplied->YW
open PySem.Builtin.Str renaming occurrences->Zy, strSliceIndices->YR
open PySem.Builtin.Tuple renaming tupleExact->JB, tupleItemsOf->YX
open PySem.Calls renaming spliced_cons->Z1, spliced_nil->ZM, call_function_entry->Yf, Name_function_global->YV, callWith_builtin->V2, evalArgs_plain->VU
open PySem.Code renaming quiet_builtin->Uw
open PySem.F renaming called_set->Z3, plainAttrs_list->ZT, args_tuple_add_2->Yl, entry_tuple_add->Yt, slot_tuple_add->Yz, plain_list_iadd->Y1, slot_set_iter->YJ, plain_extend_loop->YN, slot_list_append->Vp, type_list_append->Vq, slot_list_extend->Vs, type_list_extend->Vt, slot_list_pop->VJ, type_list_pop->VL, entry_proto_collect->VN, plain_proto_collect->VO, sub_list_frozenset->VY, entry_type_call->UC, args_set_iter_1->UE, entry_list_iadd->UF, entry_list_pop->UO, typeCall_set_1->UU, entry_set_init->UV
open PySem.Heap renaming get?_push_of_some->Qc, get?_push_size->Qo, lt_size->Qq, size_push->Za, get?_update_ne->Z9, SameBut->ZI, size_update->Ji, get?_push_ne->J7, get?_update_other->JL, get?_update_self->JS, get?_none_of_le->VR
open PySem.Heap.Ns renaming new->G1
open PySem.ItemsOf renaming nil->Ga
open PySem.NameKind renaming free->QL, cell->Zc
open PySem.Obj renaming mapSeq->Zt
open PySem.Paired renaming length->Vo, snoc->G0
open PySem.PassesOwn renaming never->VD
open PySem.PyData renaming canLayAll0->Qw, eqv->Q9, canLay0->Z6, depthAll->Z7, eqvAll->ZV, depth->Ja, int->Jh, strOk->Jl, list->JJ, leavesShortAll->Y5, str->Y8, showable->YH, tuple->YT, showableAll->YZ, leavesShort->Va, bulkAll->VW, none->Ua, shown_int->US, shownAll->Gd, bool->G2
open PySem.SeqAt.ReadsAll renaming length->VP
open PySem.SetTable renaming below->QK, grown->Zv, has->YU, sizeAbove->Vb, insertAt->Vn, fits->Uj, orStandIn->Uv, layClean->UB, relaid->Ge, laid->Gs, slot->Gv
open PySem.SetTable.below renaming go->Jp
open PySem.SetTable.probe renaming go->Vm
open PySem.Shared renaming TypeIs->YA
open PySem.Str renaming empty->ZJ, ofString->Jk, length->Ur
open PySem.Value renaming type->Zs, ref->ZH, int->Jb, bool->JA, isStrOf->JR, isInt->Ys, none->Y7, isStrOf_shape->YL, isInt_shape->Vh, str->Vx
open PySem.W renaming Frag->Qa, mg_none_of->QH, nsIn->Ze, fnOf->Z2, kia_one->Z5, keepIn->Jn, codeIn->JE, cellsFrom_some->JK, methodObj->Vi, instObj->VC, OpenLaw->VE, lookIn->VS, mg_of->Uk, kitx_tuple->Uo, callWith_K->Uq, kitx_list->U4, kitx_dict->U5, plainGet->UL, findIn->Gf, kitOne->Gg, WalkO->Gu, tabIn->Gw
open PySem.pickOrder renaming go->UD
open StateT renaming run_pure->VF
open Sum renaming inr->V1, inl->Ub
open True renaming intro->Jw
set_option autoImplicit true
set_option relaxedAutoImplicit true
set_option Elab.async false
set_option linter.all false
set_option maxRecDepth 100000
local macro_rules|`(tactic|lia)=>`(tactic|first|with_reducible(first|assumption|exact Nat.le_refl _|exact Nat.zero_le _|exact Nat.le_of_lt ‹_›|exact Nat.le_succ_of_le ‹_›|exact Nat.lt_succ_of_lt ‹_›|exact Nat.lt_of_succ_lt ‹_›|exact Nat.lt_succ_of_le ‹_›|exact Nat.le_of_lt_succ ‹_›|exact Nat.pos_of_ne_zero ‹_›|exact Nat.ne_of_gt ‹_›|exact Nat.ne_of_lt ‹_›|exact Nat.le_of_not_lt ‹_›|exact Nat.lt_of_not_le ‹_›|exact Nat.succ_pos _|exact Nat.lt_succ_self _|exact Nat.lt_of_lt_of_le ‹_› ‹_›|exact Nat.lt_of_le_of_lt ‹_› ‹_›|exact Nat.le_trans ‹_› ‹_›)|grind -ring -linarith -ac -order -mbtc -ext -funext -funCC -etaStruct (ematch:=0) [-Prod]|cutsat)
local macro_rules|`(tactic|ac_rfl)=>`(tactic|(repeat infer_instance))
namespace L2
open PySem PySem.Spec PyProof.Rows
abbrev Key:=Sum Int Str
def zgw:Key->G5->Bool
 | .inl k,v=>Ys k v
 | .inr x,v=>JR x v
def keyH(w:GD):Key->Int
 | .inl k=>M0 k
 | .inr x=>MF w x
theorem zbe:∀{k:Key} {v:G5},zgw k v=true->(∃i t,k=Ub i/\v=Jb i t)\/(∃x t,k=V1 x/\v=Vx x t)
 | .inl i,v,h=>by
   obtain⟨t,e⟩:=Vh (k:=i) (v:=v) h;exact .inl ⟨i,t,rfl,e⟩
 | .inr x,v,h=>by
   obtain⟨t,e⟩:=YL (x:=x) (v:=v) h;exact .inr ⟨x,t,rfl,e⟩
theorem zs7(i:Int)(t:Tok):zgw (.inl i) (.int i t)=true:=by simp[zgw,Ys]
theorem zs1(x:Str)(t:Tok):zgw (.inr x) (.str x t)=true:=by simp[zgw,JR]
theorem z4a(a b:Int):decide ((Ub a:Key)=Ub b)=(a == b):=by
 by_cases e:a=b
 .subst e;simp
 .have h:¬(Ub a:Key)=Ub b:=λq=>e (Sum.inl.inj q);rw[NI h];exact(beq_eq_false_iff_ne.mpr e).symm
theorem z3w(a b:Str):decide ((V1 a:Key)=V1 b)=decide (a=b):=by
 by_cases e:a=b
 .subst e;simp
 .have h:¬(V1 a:Key)=V1 b:=λq=>e (Sum.inr.inj q);rw[NI h,NI e]
theorem z1c(a:Int)(b:Str):decide ((Ub a:Key)=V1 b)=false:=NI (λq=>nomatch q)
theorem z0h(a:Str)(b:Int):decide ((V1 a:Key)=Ub b)=false:=NI (λq=>nomatch q)
def za8(prog:GB)(w:GD):PySem.KeyKind prog w Key where
 is:=zgw
 hash:=keyH w
 inj:=λv a b ha hb=>by
  rcases zbe ha with ⟨i,t,rfl,rfl⟩|⟨x,t,rfl,rfl⟩
  .rcases zbe hb with ⟨j,u,rfl,e⟩|⟨y,u,rfl,e⟩
   .injection e with e1 _;rw[e1]
   .exact nomatch e
  .rcases zbe hb with ⟨j,u,rfl,e⟩|⟨y,u,rfl,e⟩
   .exact nomatch e
   .injection e with e1 _;rw[e1]
 byValue:=λk v h=>by
  rcases zbe h with ⟨i,t,rfl,rfl⟩|⟨x,t,rfl,rfl⟩ <;> rfl
 pyHash:=λhv h=>by
  rcases zbe hv with ⟨i,t,rfl,rfl⟩|⟨x,t,rfl,rfl⟩
  .exact wpAny_pyHash_int h
  .exact wpAny_pyHash_str h
 eqBool:=λhu hv h=>by
  rcases zbe hu with ⟨i,t,rfl,rfl⟩|⟨x,t,rfl,rfl⟩
  .rcases zbe hv with ⟨j,u,rfl,rfl⟩|⟨y,u,rfl,rfl⟩
   .rw[z4a] at h;exact wpAny_eqBool_int h
   .rw[z1c] at h;exact SeqAt.EqAt.int_str i t y u _ _ _ _ h
  .rcases zbe hv with ⟨j,u,rfl,rfl⟩|⟨y,u,rfl,rfl⟩
   .rw[z0h] at h;exact SeqAt.EqAt.str_int x t j u _ _ _ _ h
   .rw[z3w] at h;exact wpAny_eqBool_str h
 «strs»:=λk x t v h=>by
  rcases zbe h with ⟨i,u,rfl,e⟩|⟨y,u,rfl,e⟩
  .exact nomatch e
  .injection e with e1 _;subst e1;cases v <;> rfl
theorem zoi(prog:GB)(w:GD)(i:Int)(t:Tok):(za8 prog w).is (.inl i) (.int i t)=true:=zs7 i t
theorem zod(prog:GB)(w:GD)(x:Str)(t:Tok):(za8 prog w).is (.inr x) (.str x t)=true:=zs1 x t
inductive V where
 | non|bl (b:Bool)|int (i:Int)|str (x:Str)|byt (b:Array UInt8)|flt (b:UInt64)|ref (a:Addr)|ty (n:String)
 deriving DecidableEq
def RelV:V->G5->Prop
 | .non,u=>u=Y7
 | .bl b,u=>u=JA b
 | .int i,u=>∃t,u=Jb i t
 | .str x,u=>∃t,u=Vx x t
 | .byt b,u=>∃t,u=Value.bytes b t
 | .flt b,u=>∃t,u=Value.float b t
 | .ref a,u=>u=ZH a
 | .ty n,u=>u=Zs n
abbrev Vals:List V->List G5->Prop:=M4 RelV
theorem Vals.length(r:Vals xs us):xs.length=us.length:=Vo r
theorem Vals.get:∀{xs:List V} {us:List G5} {i:Nat} {x:V},Vals xs us->xs[i]? = some x->∃u,us[i]? = some u/\RelV x u
 | _,_,_,_,.nil,e=>by simp at e
 | _,_,0,_,.cons r _,e=>by simp at e;subst e;exact⟨_,rfl,r⟩
 | _,_,i+1,x,.cons _ t,e=>by
   obtain⟨u,h1,h2⟩:=Vals.get (i:=i) (x:=x) t (by simpa using e);exact⟨u,by simpa using h1,h2⟩
theorem Vals.append:∀{xs ys:List V} {us ws:List G5},Vals xs us->Vals ys ws->Vals (xs++ys) (us++ws)
 | _,_,_,_,.nil,s=>s
 | _,_,_,_,.cons r t,s=>.cons r (Vals.append t s)
theorem Vals.take:∀{xs:List V} {us:List G5} (n:Nat),Vals xs us->Vals (xs.take n) (us.take n)
 | _,_,0,_=>.nil
 | _,_,_+1,.nil=>.nil
 | _,_,n+1,.cons r t=>.cons r (Vals.take n t)
theorem Vals.drop:∀{xs:List V} {us:List G5} (n:Nat),Vals xs us->Vals (xs.drop n) (us.drop n)
 | _,_,0,r=>r
 | _,_,_+1,.nil=>.nil
 | _,_,n+1,.cons _ t=>Vals.drop n t
def RelO:Option V->Option G5->Prop
 | some v,some u=>RelV v u
 | none,none=>True
 | _,_=>False
def KV{κ:Type}:List (κ×V)->List (κ×G5)->Prop:=M4 λ(p:κ×V) (q:κ×G5)=>p.1=q.1/\RelV p.2 q.2
def kV:Key->V
 | .inl i=>.int i
 | .inr x=>.str x
inductive HO where
 | lst (xs:List V)
 | tup (xs:List V)
 | dK (kvs:List (Key×V))|dT (kvs:List (List Key×V))
 | set (S:Int->Bool) (n:Nat)
 | ins (C dx:Addr) (fs:List (Str×V))
 | own (x:Addr)
 | xd (fs:List (Str×V))
 | met (f x:Addr)
 | rng (lo hi:Int)
 | frz (o:Obj) (u:HO)
 | tbl (ps:Array G5)
 | cod (ps:Array G5) (qs:List (Pos×Str))
 | ext (φ:Heap->Prop)
abbrev Hp:=Addr->Option HO
def upd(H:Hp)(a:Addr)(o:HO):Hp:=λb=>if b=a then some o else H b
theorem zad: upd H a o a=some o:=by unfold upd;rw[ND rfl]
theorem zaa(h:b≠a):upd H a o b=H b:=by unfold upd;rw[NE h]
theorem z5m{H:Hp}{a b:Addr}{o u:HO}(h:H a=some o)(h':H b=some u)(d:o≠u):a≠b:=by
 intro e;subst e;rw[h] at h';exact d (Zp h')
theorem zas{H:Hp}{a b:Addr}{o:HO}(h:H a=some o)(h':H b=none):a≠b:=by
 intro e;subst e;rw[h] at h';cases h'
section
variable (P:GB)(w:GD)
def z6g(H:Hp)(cv:G5)(q:Str):Prop:=∃(c:Addr) (oc:Obj) (vs:Array G5) (t:Tok),cv = .ref c/\H c=some (.frz oc (.own 0))/\oc.data = .fields vs/\vs[1]? = some (.str q t)
def ObjOk(H:Hp)(h:Heap)(a:Addr):HO->Prop
 | .lst xs=>xs.length<=sizeLine/\∃(its:List G5) (n:Nat),Vals xs its/\h.get? a=some { cls:=.type "list",data:=.seq its.toArray n }
 | .tup xs=>xs.length<=sizeLine/\∃its:List G5,Vals xs its/\IsTup h a its.toArray
 | .dK kvs=>kvs.length<=sizeLine/\(a == TB)=false/\∃vs,KV kvs vs/\h.DictOf (za8 P w) a vs
 | .dT kvs=>kvs.length<=sizeLine/\(a == TB)=false/\∃xs:List (List Key×Addr×G5),
  M4 (λ(p:List Key×V) (q:List Key×Addr×G5)=>p.1=q.1/\H q.2.1=some (.tup (p.1.map kV))/\RelV p.2 q.2.2) kvs xs /\
  ∃o es ep,h.get? a=some o/\o.ExactDict/\o.data = .dict es ep/\es.toList=xs.map (entryOfKey (tupleKind (za8 P w)))/\(xs.map (·.1)).Nodup
 | .set S n=>h.SetOf (intKind P w) a S n
 | .ins C dx fs=>H dx=some (.own a)/\fs.length<=1000/\dx≠a/\h.get? a=some (VC C dx) /\
  ∃mA,h.Ns1 dx mA/\(∀f,RelO (fs.lookup f) (mA f))/\Gy mA (fs.map (·.1))
 | .own _=>∃o,h.get? a=some o
 | .xd fs=>∃mA,h.Ns1 a mA/\∀f,RelO (fs.lookup f) (mA f)
 | .rng lo hi=>∃t u v,h.get? a=some { cls:=.type "range",data:=.fields #[.int lo t,.int hi u,.int 1 v] }
 | .frz o u=>h.get? a=some o/\ObjOk H h a u
 | .tbl ps=>h.get? a=some { cls:=.none,data:=.fields ps }
 | .cod ps qs=>h.get? a=some { cls:=.none,data:=.fields ps }/\M7 ps.toList/\∀p∈qs,∀cv,TH p.1 ps.toList=some cv->z6g H cv p.2
 | .met f x=>h.get? a=some (Vi (.ref f) (.ref x))
 | .ext φ=>φ h/\(∃o,h.get? a=some o)/\∀h1 h2:Heap,φ h1->(∀o,h1.get? a=some o->h2.get? a=some o)->φ h2
def HOk(H:Hp)(h:Heap):Prop:=∀a o,H a=some o->ObjOk P w H h a o
end
section
variable {P:GB}{w:GD}{H H':Hp}{h h':Heap}{a:Addr}{o:HO}
theorem ObjOk.lt(x:ObjOk P w H h a o):a<h.objs.size:=by
 cases o with
 | lst xs=>obtain⟨_,_,_,_,e⟩:=x;exact Qq e
 | tup xs=>obtain⟨_,_,_,p⟩:=x;exact p.lt
 | dK kvs=>obtain⟨_,_,_,_,o,_,_,e,_⟩:=x;exact Qq e
 | dT kvs=>obtain⟨_,_,_,_,o,_,_,e,_⟩:=x;exact Qq e
 | set S n=>obtain⟨o,_,_,_,e,_⟩:=x;exact Qq e
 | ins C dx fs=>obtain⟨_,_,_,e,_⟩:=x;exact Qq e
 | own y=>obtain⟨_,e⟩:=x;exact Qq e
 | xd fs=>obtain⟨_,⟨_,_,_,e,_⟩,_⟩:=x;exact Qq e
 | rng lo hi=>obtain⟨_,_,_,e⟩:=x;exact Qq e
 | frz ob u=>obtain⟨e,_⟩:=x;exact Qq e
 | tbl ps=>exact Qq (show h.get? a=some _ from x)
 | cod ps qs=>exact Qq x.1
 | met f y=>exact Qq (show h.get? a=some _ from x)
 | ext φ=>obtain⟨_,⟨_,e⟩,_⟩:=x;exact Qq e
theorem Paired.mapP{α β:Type}{F G:α->β->Prop}:∀{l₁:List α} {l₂:List β},M4 F l₁ l₂->(∀a b,F a b->G a b)->M4 G l₁ l₂
 | _,_,.nil,_=>.nil
 | _,_,.cons r t,f=>.cons (f _ _ r) (Paired.mapP t f)
theorem ObjOk.stay(x:ObjOk P w H h a o)(k:∀b u,(b=a\/H b=some (.own a))->h.get? b=some u->h'.get? b=some u)
 (ho:∀b,H b=some (.own a)->H' b=some (.own a)) (ht:∀b xs,H b=some (.tup xs)->H' b=some (.tup xs)) (hf:∀b o,H b=some (.frz o (.own 0))->H' b=some (.frz o (.own 0))):ObjOk P w H' h' a o:=by
 induction o with
 | lst xs=>obtain⟨z,its,n,r,e⟩:=x;exact⟨z,its,n,r,k _ _ (.inl rfl) e⟩
 | tup xs=>obtain⟨z,its,r,ob,e,c⟩:=x;exact⟨z,its,r,ob,k _ _ (.inl rfl) e,c⟩
 | dK kvs=>obtain⟨z,y,vs,r,ob,es,ep,e,c⟩:=x;exact⟨z,y,vs,r,ob,es,ep,k _ _ (.inl rfl) e,c⟩
 | dT kvs=>
   obtain⟨z,y,xs,r,ob,es,ep,e,c⟩:=x;exact⟨z,y,xs,Paired.mapP r λp q z=>⟨z.1,ht _ _ z.2.1,z.2.2⟩,ob,es,ep,k _ _ (.inl rfl) e,c⟩
 | set S n=>obtain⟨ob,es,ep,t,e,c⟩:=x;exact⟨ob,es,ep,t,k _ _ (.inl rfl) e,c⟩
 | ins C dx fs=>
   obtain⟨d,z,ne,e,mA,⟨od,es,ep,e2,c⟩,r⟩:=x;exact⟨ho _ d,z,ne,k _ _ (.inl rfl) e,mA,⟨od,es,ep,k _ _ (.inr d) e2,c⟩,r⟩
 | own y=>obtain⟨ob,e⟩:=x;exact⟨ob,k _ _ (.inl rfl) e⟩
 | xd fs=>obtain⟨mA,⟨od,es,ep,e,c⟩,r⟩:=x;exact⟨mA,⟨od,es,ep,k _ _ (.inl rfl) e,c⟩,r⟩
 | rng lo hi=>obtain⟨t,u,v,e⟩:=x;exact⟨t,u,v,k _ _ (.inl rfl) e⟩
 | frz ob u ih=>obtain⟨e,q⟩:=x;exact⟨k _ _ (.inl rfl) e,ih q⟩
 | tbl ps=>
   have e:h.get? a=some { cls:=.none,data:=.fields ps }:=x;show h'.get? a=some { cls:=.none,data:=.fields ps };exact k a _ (.inl rfl) e
 | cod ps qs=>obtain⟨e,t,z⟩:=x;exact⟨k _ _ (.inl rfl) e,t,λp hp cv hc=>let ⟨c,oc,vs,tk,a1,a2,a3⟩:=z p hp cv hc;⟨c,oc,vs,tk,a1,hf _ _ a2,a3⟩⟩
 | met f y=>
   have e:h.get? a=some (Vi (.ref f) (.ref y)):=x;show h'.get? a=some (Vi (.ref f) (.ref y));exact k a _ (.inl rfl) e
 | ext φ=>obtain⟨p,⟨o,e⟩,st⟩:=x;exact⟨st _ _ p λo q=>k _ _ (.inl rfl) q,⟨o,k _ _ (.inl rfl) e⟩,st⟩
theorem HOk.lt(x:HOk P w H h)(e:H a=some o):a<h.objs.size:=(x a o e).lt
theorem HOk.fresh(x:HOk P w H h)(e:h.objs.size<=a):H a=none:=by
 cases q:H a with
 | none=>rfl
 | some u=>exact absurd (QA (x.lt q) e) (QS _)
theorem HOk.kept(x:HOk P w H h)(k:∀b u,h.get? b=some u->h'.get? b=some u):HOk P w H h':=λa o e=>
 (x a o e).stay (λb u _ q=>k b u q) (λ_ q=>q) (λ_ _ q=>q) λ_ _ q=>q
theorem HOk.laid(x:HOk P w H h)(k:∀b u,h.get? b=some u->h'.get? b=some u)(hp:h.objs.size<=a)(new:ObjOk P w (upd H a o) h' a o):HOk P w (upd H a o) h':=λb u e=>by
 have hn:=x.fresh hp
 by_cases hb:b=a
 .subst hb;rw[zad] at e;cases e;exact new
 .rw[zaa hb] at e;exact(x b u e).stay (λc v _ q=>k c v q) (λc q=>by rw[zaa (zas q hn)];exact q) (λc xs q=>by rw[zaa (zas q hn)];exact q) λc oc q=>by rw[zaa (zas q hn)];exact q
end
def Rd(H:Hp)(a:Addr)(u:HO):Prop:=H a=some u\/∃o,H a=some (.frz o u)
theorem Rd.ok(r:Rd H a u)(x:HOk P w H h):ObjOk P w H h a u:=by
 rcases r with r|⟨o,r⟩
 .exact x a u r
 .obtain⟨_,q⟩:=x a _ r;exact q
def Mut:Option HO->Prop
 | some (.lst _)=>True
 | some (.dK _)=>True
 | some (.dT _)=>True
 | some (.set _ _)=>True
 | some (.ins _ _ _)=>True
 | some (.ext _)=>True
 | _=>False
section
variable {P:GB}{w:GD}{H:Hp}{h h':Heap}{x e:Addr}{o':HO}
theorem HOk.write(ok:HOk P w H h)(mu:Mut (H x))(he:e=x\/H e=some (.own x))(k:∀b u,b≠e->h.get? b=some u->h'.get? b=some u)(heo:∃u,h'.get? e=some u)
 (new:ObjOk P w (upd H x o') h' x o'):HOk P w (upd H x o') h':=λb u q=>by
 have nown:∀c y,H c=some (.own y)->c≠x:=λc y r z=>by subst z;rw[r] at mu;exact mu
 have ntup:∀c xs,H c=some (.tup xs)->c≠x:=λc xs r z=>by subst z;rw[r] at mu;exact mu
 have nfrz:∀c oc u,H c=some (.frz oc u)->c≠x:=λc oc u r z=>by subst z;rw[r] at mu;exact mu
 by_cases hb:b=x
 .subst hb;rw[zad] at q;cases q;exact new
 .rw[zaa hb] at q
  by_cases hbe:b=e
  .have q':H b=some (.own x):=by
    rcases he with z|z
    .exact absurd (hbe.trans z) hb
    .rw[hbe];exact z
   rw[q] at q';cases q';obtain⟨v,hv⟩:=heo;exact⟨v,by rw[hbe];exact hv⟩
  .refine(ok b u q).stay (λc v hc r=>k c v ?_ r) (λc r=>by rw[zaa (nown c b r)];exact r) (λc xs r=>by rw[zaa (ntup c xs r)];exact r) λc oc r=>by rw[zaa (nfrz c oc _ r)];exact r
   rcases hc with rfl|hc
   .exact hbe
   .rintro rfl;rcases he with z|z
    .exact nown c b hc z
    .rw[hc] at z;cases z;exact hb rfl
end
structure Un(fs ex:List Addr)(H H':Hp)(h h':Heap):Prop where
 keep:∀b o,h.get? b=some o->H b=none->b ∉ fs->b ∉ ex->h'.get? b=some o
 slot:∀b o,h.get? b=some o->H b=none->b∈fs->b ∉ ex->∃sl,h'.get? b=some { o with slots:=sl }
 free:∀b o,h.get? b=some o->H b=none->b ∉ ex->H' b=none
 there:∀b o,h.get? b=some o->b ∉ ex->∃o',h'.get? b=some o'
 tups:∀b xs,H b=some (.tup xs)->H' b=some (.tup xs)
 frzs:∀b o u,H b=some (.frz o u)->H' b=some (.frz o u)
 tbls:∀b ps,H b=some (.tbl ps)->∃more,H' b=some (.tbl (ps++more))
section
variable {fs fs' ex ex':List Addr}{H H1 H2:Hp}{h h1 h2 h':Heap}{a x e:Addr}{o:HO}
theorem Un.any(u:Un fs ex H H1 h h1)(q:h.get? b=some ob)(n:H b=none)(hx:b ∉ ex):∃sl,h1.get? b=some { ob with slots:=sl }:=by
 by_cases hb:b∈fs
 .exact u.slot b ob q n hb hx
 .exact⟨ob.slots,u.keep b ob q n hb hx⟩
theorem Un.kept(k:∀b u,h.get? b=some u->h'.get? b=some u):Un fs ex H H h h' :=
 ⟨λb ob q _ _ _=>k b ob q,λb ob q _ _ _=>⟨ob.slots,k b ob q⟩,λ_ _ _ n _=>n,λb ob q _=>⟨ob,k b ob q⟩,λ_ _ q=>q,λ_ _ _ q=>q,λ_ ps q=>⟨#[],by rw[q];simp⟩⟩
theorem Un.refl:Un fs ex H H h h:=Un.kept λ_ _ q=>q
theorem Un.laid(k:∀b u,h.get? b=some u->h'.get? b=some u)(hp:h.objs.size<=a)(hn:H a=none):Un fs ex H (upd H a o) h h' where
 keep:=λb u q _ _ _=>k b u q
 slot:=λb u q _ _ _=>⟨u.slots,k b u q⟩
 free:=λb u q n _=>by rw[zaa (Q1 (QA (Qq q) hp))];exact n
 there:=λb u q _=>⟨u,k b u q⟩
 tups:=λb xs q=>by rw[zaa (zas q hn)];exact q
 frzs:=λb u xs q=>by rw[zaa (zas q hn)];exact q
 tbls:=λb ps q=>⟨#[],by rw[zaa (zas q hn),q];simp⟩
theorem Un.write(mu:Mut (H x))(he:e=x\/H e=some (.own x))(k:∀b u,b≠e->h.get? b=some u->h'.get? b=some u)(heo:∃u,h'.get? e=some u):Un fs ex H (upd H x o) h h':=by
 have hx:∀b,H b=none->b≠x:=λb n z=>by subst z;rw[n] at mu;exact mu
 have hb:∀b,H b=none->b≠e:=λb n z=>by
  subst z;rcases he with r|r
  .exact hx b n r
  .rw[n] at r;cases r
 have hm:∀b u,H b=some u->¬Mut (some u)->b≠x:=λb u q nm z=>by subst z;rw[q] at mu;exact nm mu
 refine⟨λb u q n _ _=>k b u (hb b n) q,λb u q n _ _=>⟨u.slots,k b u (hb b n) q⟩,λb u q n _=>by rw[zaa (hx b n)];exact n,λb u q _=>?_,
  λb xs q=>by rw[zaa (hm b _ q λz=>z)];exact q,λb u xs q=>by rw[zaa (hm b _ q λz=>z)];exact q,λb ps q=>⟨#[],by rw[zaa (hm b _ q λz=>z),q];simp⟩⟩
 by_cases hbe:b=e
 .subst hbe;exact heo
 .exact⟨u,k b u hbe q⟩
end
def trk(h:Heap)(H:Hp):List Addr:=(Q2 h.objs.size).filter λa=>(H a).isSome
def hidT(h:Heap)(H:Hp):Heap:=PySem.W.hideAll h (trk h H)
theorem zud(h:Heap)(H:Hp):(hidT h H).objs.size=h.objs.size:=PySem.W.hideAll_size _ _
theorem zu2(e:h.get? b=some o)(n:H b=none):(hidT h H).get? b=some o :=
 PySem.W.hideAll_get _ e λhm=>by
  have q:(H b).isSome=true:=(Zg.mp hm).2;rw[n] at q;simp at q
theorem zym(e:(hidT h H).get? b=some o):h.get? b=some o/\H b=none:=by
 have e':h.get? b=some o:=PySem.W.of_hideAll (trk h H) e;refine⟨e',?_⟩
 cases q:H b with
 | none=>rfl
 | some x=>
   have hm:b∈trk h H:=Zg.mpr ⟨Zf.mpr (Qq e'),by simp[q]⟩;have z:(hidT h H).get? b=none:=PySem.W.hideAll_none (trk h H) hm;rw[z] at e;cases e
structure Mod(K:Qa)(mg:Str->Option G5)(base:Heap):Prop where
 kin:K.In base
 glob:base.Ns mainGlobals mg
 blt:∃mb,base.Ns TZ mb/\∀x:Str,x ≠ "__name__" -> mb x=GO x
 nolimit:base.NoLimit
structure Cx where
 prog:GB
 w:GD
 K:Qa
 mg:Str->Option G5
 base:Heap
 A:GF
 N:List Str
 s₀:G8
 H₀:Hp
 env:Env
 outer:List Env
 stack:List Env
 ex:List Addr
 fn:Str->Bool
 calm:Bool
 pn:List (Addr×Obj)
 xe:G5->G8->Prop
def frs(l:List Env):List Addr:=l.filterMap (·.frame)
abbrev Cx.fs(X:Cx):List Addr:=frs X.outer
def Vis(sc:GV)(x:Str):Prop:=sc.names.lookup x=some .local\/sc.names.lookup x=some .cell\/sc.names.lookup x=some .free
def Loc(sc:GV)(x:Str):Prop:=sc.names.lookup x=some .local\/sc.names.lookup x=some .cell
def Look(env:Env)(h:Heap)(m:Str->Option G5)(x:Str)(u:G5):Prop :=
 (env.kindOf x=some .local/\m x=some u)\/((env.kindOf x=some .cell\/env.kindOf x=some .free)/\∃c,env.cells.lookup x=some c/\h.IsCell c (some u))
structure Cx.Ok(X:Cx):Prop where
 mod:Mod X.K X.mg X.base
 kind:X.env.scope.kind = .function
 glob:X.env.globals=mainGlobals
 blt:X.env.builtins=TZ
 above:X.s₀.heap.objs.size<=X.env.locals
 inj:∀x y c,X.env.cells.lookup x=some c->X.env.cells.lookup y=some c->x=y
 has:∀x,(X.env.kindOf x=some .cell\/X.env.kindOf x=some .free)->∃c,X.env.cells.lookup x=some c
 cab:∀x c,X.fn x=true->X.env.cells.lookup x=some c->X.s₀.heap.objs.size<=c
 hd:X.calm=true->X.A.handled=none
 frames:X.A.frames=some X.stack
 stk:X.stack=X.outer\/(X.stack=X.env::X.outer/\X.env.frame=some X.env.locals)
 exf:∀b∈X.ex,b≠X.env.locals/\∀x c,X.env.cells.lookup x=some c->c≠b
 bs:∀b o,X.base.get? b=some o->X.s₀.heap.get? b=some o/\X.H₀ b=none
 bsz:X.base.objs.size<=X.s₀.heap.objs.size
 noex:∀b o,X.base.get? b=some o->b ∉ X.ex
 exfs:∀b∈X.ex,b ∉ X.fs
 funs:X.s₀.heap.FunFrames X.base X.outer
 frf:∀b∈X.fs,X.H₀ b=none
structure Inv(X:Cx)(pins:List (Addr×Obj))(σ:List (Option V))(H:Hp)(s:G8):Prop where
 ok:X.Ok
 os:s.os=X.s₀.os
 bare:Mz s.gens
 base:Un X.fs X.ex X.H₀ H X.s₀.heap s.heap
 loc:∃m,s.heap.Ns X.env.locals m/\∀(i:Nat) (x:Str) (v:V),X.N[i]? = some x->σ[i]? = some (some v)->Vis X.env.scope x->∃u,RelV v u/\Look X.env s.heap m x u
 cell:∀x c,X.env.cells.lookup x=some c->∃v,s.heap.IsCell c v
 free:H X.env.locals=none
 freeC:∀x c,X.env.cells.lookup x=some c->H c=none
 pin:∀p∈X.pn++pins,s.heap.get? p.1=some p.2/\H p.1=none/\p.1≠X.env.locals/\p.1 ∉ X.fs/\∀v,p.2.data≠.cell v
 hok:HOk X.prog X.w H s.heap
 len:σ.length=X.N.length
section
variable {X:Cx}{pins:List (Addr×Obj)}{σ:List (Option V)}{H H':Hp}{s:G8}{h':Heap}
theorem Cx.Ok.nofr(ok:X.Ok)(e:X.base.get? b=some o):b ∉ X.fs:=λhb=>by
 have:=(ok.funs.mem hb).1;rw[e] at this;cases this
theorem Inv.bs(I:Inv X pins σ H s):∀b o,X.base.get? b=some o->s.heap.get? b=some o/\H b=none:=λb o e=>
 ⟨I.base.keep b o (I.ok.bs b o e).1 (I.ok.bs b o e).2 (I.ok.nofr e) (I.ok.noex b o e),I.base.free b o (I.ok.bs b o e).1 (I.ok.bs b o e).2 (I.ok.noex b o e)⟩
theorem Inv.bk(I:Inv X pins σ H s):∀b o,X.base.get? b=some o->s.heap.get? b=some o:=λb o e=>(I.bs b o e).1
theorem Inv.mod(I:Inv X pins σ H s):Mod X.K X.mg X.base:=I.ok.mod
theorem Inv.kIn(I:Inv X pins σ H s):X.K.In s.heap:=I.ok.mod.kin.keeps I.bk
theorem Inv.nolimit(I:Inv X pins σ H s):s.heap.NoLimit:=I.ok.mod.nolimit.keeps I.bk
theorem Inv.lt(I:Inv X pins σ H s):X.env.locals<s.heap.objs.size:=let ⟨_,hn,_⟩:=I.loc;hn.lt
theorem Inv.sz(I:Inv X pins σ H s):X.s₀.heap.objs.size<=s.heap.objs.size:=QN I.ok.above (ZY I.lt)
theorem Inv.nofs(I:Inv X pins σ H s)(h:s.heap.objs.size<=a):a ∉ X.fs:=λhb=>by
 obtain⟨_,o,ho,_⟩:=I.ok.funs.mem hb;exact absurd (QA (Qq ho) (QN I.sz h)) (QS _)
theorem Inv.cne(I:Inv X pins σ H s):∀x c,X.env.cells.lookup x=some c->c≠X.env.locals:=λx c e z=>by
 obtain⟨v,o,ho,hd⟩:=I.cell x c e;obtain⟨m,⟨o',es,ep,ho',hd',_⟩,_⟩:=I.loc;rw[z,ho'] at ho;cases ho;rw[hd'] at hd;cases hd
theorem Inv.funs(I:Inv X pins σ H s):s.heap.FunFrames X.base X.outer:=by
 have all:∀(l:List Env),(∀b∈frs l,b∈X.fs)->X.s₀.heap.FunFrames X.base l->s.heap.FunFrames X.base l:=by
  intro l
  induction l with
  | nil=>intro _ _;trivial
  | cons env r ih=>
    intro hs hl;obtain⟨hk,⟨L,o,hf,hn,ho,hd⟩,hr⟩:=hl;have hL:L∈X.fs:=hs L (by unfold frs;rw[YM,hf];exact Qu);obtain⟨sl,e⟩:=I.base.slot L o ho (I.ok.frf L hL) hL λz=>I.ok.exfs L z hL;exact⟨hk,⟨L,_,hf,hn,e,hd⟩,ih (λb hb=>hs b (by unfold frs;rw[YM,hf];exact Qe _ hb)) hr⟩
 exact all X.outer (λ_ hb=>hb) I.ok.funs
theorem Inv.stack(I:Inv X pins σ H s):s.heap.FunFrames X.base X.stack:=by
 rcases I.ok.stk with e|⟨e,hf⟩
 .rw[e];exact I.funs
 .rw[e];obtain⟨m,hn,_⟩:=I.loc;refine .cons (by rw[I.ok.kind];decide) hf hn ?_ I.funs;exact VR (QN I.ok.bsz I.ok.above)
theorem Inv.stkSub(I:Inv X pins σ H s):∀b∈frs X.stack,b∈X.env.locals::X.fs:=λb hb=>by
 rcases I.ok.stk with e|⟨e,hf⟩
 .rw[e] at hb;exact Qe _ hb
 .rw[e] at hb;unfold frs at hb;rw[YM,hf] at hb;exact hb
theorem Inv.stkFree(I:Inv X pins σ H s):∀b∈frs X.stack,H b=none:=λb hb=>by
 rcases Qs.mp (I.stkSub b hb) with e|hb
 .rw[e];exact I.free
 .obtain⟨_,o,ho,_⟩:=I.ok.funs.mem hb;exact I.base.free b o ho (I.ok.frf b hb) λz=>I.ok.exfs b z hb
theorem Inv.step{g':Array Nh}{t':Nat}{d':N4}{ch:List Addr}(I:Inv X pins σ H s)
 (hch:∀b∈ch,(b∈X.ex\/X.s₀.heap.objs.size<=b)/\b≠X.env.locals/\(∀x c,X.env.cells.lookup x=some c->c≠b)/\∀p∈X.pn++pins,p.1≠b)
 (keep:∀b o,b≠X.env.locals->b ∉ X.fs->b ∉ ch->s.heap.get? b=some o->H b=none->h'.get? b=some o)
 (slot:∀b o,b≠X.env.locals->b∈X.fs->b ∉ ch->s.heap.get? b=some o->H b=none->∃sl,h'.get? b=some { o with slots:=sl }) (free:∀b o,b ∉ ch->s.heap.get? b=some o->H b=none->H' b=none)
 (there:∀b o,b ∉ ch->s.heap.get? b=some o->∃o',h'.get? b=some o')
 (tups:∀b xs,H b=some (.tup xs)->H' b=some (.tup xs)) (frzs:∀b o u,H b=some (.frz o u)->H' b=some (.frz o u)) (tbls:∀b ps,H b=some (.tbl ps)->∃more,H' b=some (.tbl (ps++more)))
 (ns:∀m,s.heap.Ns X.env.locals m->h'.Ns X.env.locals m) (hok:HOk X.prog X.w H' h') (hg:Mz g') :
 Inv X pins σ H' { s with heap:=h',gens:=g',drawn:=d',toks:=t' }:=by
 have neL:∀b o,X.s₀.heap.get? b=some o->b≠X.env.locals:=λb o e=>Q1 (QA (Qq e) I.ok.above)
 have neC:∀b o,X.s₀.heap.get? b=some o->b ∉ X.ex->b ∉ ch:=λb o e hx hb=>by
  rcases(hch b hb).1 with z|z
  .exact hx z
  .exact absurd (QA (Qq e) z) (QS _)
 have cellK:∀x c,X.env.cells.lookup x=some c->∀v,s.heap.IsCell c v->h'.IsCell c v:=λx c e v ⟨o,ho,hd⟩=>by
  have nch:c ∉ ch:=λz=>(hch c z).2.2.1 x c e rfl
  by_cases hc:c∈X.fs
  .obtain⟨sl,q⟩:=slot c o (I.cne x c e) hc nch ho (I.freeC x c e);exact⟨_,q,hd⟩
  .exact⟨o,keep c o (I.cne x c e) hc nch ho (I.freeC x c e),hd⟩
 refine⟨I.ok,I.os,hg,⟨λb o e n hb hx=>?_,λb o e n hb hx=>?_,λb o e n hx=>?_,λb o e hx=>?_,λb xs e=>tups b xs (I.base.tups b xs e),λb o xs e=>frzs b o xs (I.base.frzs b o xs e),λb ps e=>?_⟩,?_,λx c e=>?_,?_,λx c e=>?_,λp hp=>?_,hok,I.len⟩
 .exact keep b o (neL b o e) hb (neC b o e hx) (I.base.keep b o e n hb hx) (I.base.free b o e n hx)
 .obtain⟨sl,e1⟩:=I.base.slot b o e n hb hx;obtain⟨sl',e2⟩:=slot b _ (neL b o e) hb (neC b o e hx) e1 (I.base.free b o e n hx);exact⟨sl',e2⟩
 .obtain⟨o',e1⟩:=I.base.there b o e hx;exact free b o' (neC b o e hx) e1 (I.base.free b o e n hx)
 .obtain⟨o',e1⟩:=I.base.there b o e hx;exact there b o' (neC b o e hx) e1
 .obtain⟨m1,e1⟩:=I.base.tbls b ps e;obtain⟨m2,e2⟩:=tbls b _ e1;exact⟨m1++m2,by rw[e2,Array.append_assoc]⟩
 .obtain⟨m,hn,hl⟩:=I.loc;refine⟨m,ns m hn,λi x v e1 e2 e3=>?_⟩;obtain⟨u,r,l⟩:=hl i x v e1 e2 e3;refine⟨u,r,?_⟩;rcases l with l|⟨k,c,e,z⟩
  .exact .inl l
  .exact .inr ⟨k,c,e,cellK x c e _ z⟩
 .obtain⟨v,z⟩:=I.cell x c e;exact⟨v,cellK x c e v z⟩
 .obtain⟨m,⟨o,_,_,ho,_⟩,_⟩:=I.loc;exact free _ o (λz=>(hch _ z).2.1 rfl) ho I.free
 .obtain⟨v,o,ho,hd⟩:=I.cell x c e;exact free c o (λz=>(hch c z).2.2.1 x c e rfl) ho (I.freeC x c e)
 .obtain⟨e,n,ne,nf,d⟩:=I.pin p hp;have nch:p.1 ∉ ch:=λz=>(hch p.1 z).2.2.2 p hp rfl;exact⟨keep p.1 p.2 ne nf nch e n,free p.1 p.2 nch e n,ne,nf,d⟩
theorem Inv.un{t':Nat}(I:Inv X pins σ H s)(u:Un X.fs [] H H' s.heap h')(hok:HOk X.prog X.w H' h'):Inv X pins σ H' { s with heap:=h',toks:=t' }:=by
 obtain⟨m,⟨o,es,ep,ho,r⟩,_⟩:=id I.loc;obtain⟨sl,hL⟩:=u.any ho I.free (by simp)
 exact I.step (g':=s.gens) (d':=s.drawn) (ch:=[]) (λ_ z=>nomatch z) (λb o _ hb _ e n=>u.keep b o e n hb (by simp)) (λb o _ hb _ e n=>u.slot b o e n hb (by simp)) (λb o _ e n=>u.free b o e n (by simp)) (λb o _ e=>u.there b o e (by simp)) u.tups u.frzs u.tbls (λm' hm=>by
  obtain⟨o',es',ep',ho',r'⟩:=hm;rw[ho] at ho';cases ho'
  exact⟨_,es',ep',hL,r'⟩) hok I.bare
theorem Inv.call{t':Nat}(I:Inv X pins σ H s)(u:Un (frs X.stack) ch H H' s.heap h')(hok:HOk X.prog X.w H' h')(hg:Mz g')
 (hch:∀b∈ch,(b∈X.ex\/X.s₀.heap.objs.size<=b)/\b≠X.env.locals/\(∀x c,X.env.cells.lookup x=some c->c≠b)/\∀p∈X.pn++pins,p.1≠b) :
 Inv X pins σ H' { s with heap:=h',gens:=g',drawn:=d',toks:=t' }:=by
 obtain⟨m,⟨o,es,ep,ho,r⟩,_⟩:=id I.loc;obtain⟨sl,hL⟩:=u.any ho I.free λz=>(hch _ z).2.1 rfl
 exact I.step (ch:=ch) hch (λb o hL hb hc e n=>u.keep b o e n (λz=>(Qs.mp (I.stkSub b z)).elim hL hb) hc) (λb o _ _ hc e n=>u.any e n hc) (λb o hc e n=>u.free b o e n hc) (λb o hc e=>u.there b o e hc) u.tups u.frzs u.tbls (λm' hm=>by
  obtain⟨o',es',ep',ho',r'⟩:=hm;rw[ho] at ho';cases ho'
  exact⟨_,es',ep',hL,r'⟩) hok hg
theorem Inv.turned{t':Nat}(I:Inv X pins σ H s)(k:∀b o,b≠it->s.heap.get? b=some o->h'.get? b=some o)(hn:H it=none)(hL:it≠X.env.locals)
 (h1:it∈X.ex\/X.s₀.heap.objs.size<=it) (h2:∀x c,X.env.cells.lookup x=some c->c≠it) (h3:∀p∈X.pn++pins,p.1≠it):Inv X pins σ H { s with heap:=h',toks:=t' }:=by
 have nit:∀b u,H b=some u->b≠it:=λb u e z=>by rw[z,hn] at e;cases e
 refine I.step (g':=s.gens) (d':=s.drawn) (ch:=[it]) (λb hb=>?_) (λb o _ _ hc e _=>k b o (λz=>hc (by simp[z])) e) (λb o _ _ hc e _=>⟨o.slots,k b o (λz=>hc (by simp[z])) e⟩) (λ_ _ _ _ n=>n)
  (λb o hc e=>⟨o,k b o (λz=>hc (by simp[z])) e⟩) (λ_ _ e=>e) (λ_ _ _ e=>e) (λb ps e=>⟨#[],by rw[e];simp⟩) (λm hm=>?_) (λb u e=>?_) I.bare
 .have e:b=it:=by simpa using hb
  subst e;exact⟨h1,hL,h2,h3⟩
 .obtain⟨o,es,ep,ho,r⟩:=hm;exact⟨o,es,ep,k _ o (ZC hL) ho,r⟩
 .refine(I.hok b u e).stay (λc v hc q=>k c v ?_ q) (λ_ q=>q) (λ_ _ q=>q) λ_ _ q=>q;rcases hc with z|z
  .rw[z];exact nit b u e
  .exact nit c _ z
theorem Inv.tok(I:Inv X pins σ H s)(t:Nat):Inv X pins σ H { s with toks:=t }:=I.un (h':=s.heap) (t':=t) Un.refl I.hok
theorem Inv.kept{t':Nat}(I:Inv X pins σ H s)(k:∀b u,s.heap.get? b=some u->h'.get? b=some u):Inv X pins σ H { s with heap:=h',toks:=t' }:=I.un (Un.kept k) (I.hok.kept k)
theorem Inv.laid{t':Nat}(I:Inv X pins σ H s)(k:∀b u,s.heap.get? b=some u->h'.get? b=some u)(hp:s.heap.objs.size<=a)(new:ObjOk X.prog X.w (upd H a o) h' a o):
 Inv X pins σ (upd H a o) { s with heap:=h',toks:=t' }:=I.un (Un.laid k hp (I.hok.fresh hp)) (I.hok.laid k hp new)
theorem Inv.write{t':Nat}(I:Inv X pins σ H s)(mu:Mut (H x))(he:e=x\/H e=some (.own x))(k:∀b u,b≠e->s.heap.get? b=some u->h'.get? b=some u)(heo:∃u,h'.get? e=some u)
 (new:ObjOk X.prog X.w (upd H x o) h' x o):Inv X pins σ (upd H x o) { s with heap:=h',toks:=t' }:=I.un (Un.write mu he k heo) (I.hok.write mu he k heo new)
theorem Inv.weak(I:Inv X pins σ H s)(hl:σ'.length=σ.length)(w:∀(i:Nat) v,σ'[i]? = some (some v)->σ[i]? = some (some v)):Inv X pins σ' H s :=
 ⟨I.ok,I.os,I.bare,I.base,let ⟨m,hn,hl'⟩:=I.loc;⟨m,hn,λi x v e1 e2 e3=>hl' i x v e1 (w i v e2) e3⟩,I.cell,I.free,I.freeC,I.pin,I.hok,hl.trans I.len⟩
theorem Inv.pins_of{pins':List (Addr×Obj)}(I:Inv X pins σ H s)(h:∀p∈pins',s.heap.get? p.1=some p.2/\H p.1=none/\p.1≠X.env.locals/\p.1 ∉ X.fs/\∀v,p.2.data≠.cell v):Inv X pins' σ H s :=
 ⟨I.ok,I.os,I.bare,I.base,I.loc,I.cell,I.free,I.freeC,λp hp=>(Q7.mp hp).elim (λz=>I.pin p (QC _ z)) (h p),I.hok,I.len⟩
theorem znq{N:List Str}(hN:N.Nodup){i j:Nat}{x:Str}(a:N[i]? = some x)(b:N[j]? = some x):i=j:=by
 obtain⟨h1,e1⟩:=Qn.mp a;obtain⟨h2,e2⟩:=Qn.mp b;exact(UK hN).mp (e1.trans e2.symm)
theorem zkp{i:Nat}(I:Inv X pins σ H s)(hN:X.N.Nodup)(hi:X.N[i]? = some x)(hx:Loc X.env.scope x)(r:RelV v u)
 (h:∀s',Inv X pins (σ.set i (some v)) H s'->(∃a,ZI a s.heap s'.heap/\(a=X.env.locals\/X.env.cells.lookup x=some a))->Q () s') (hf:X.fn x=true\/X.env.scope.names.lookup x=some .local:=by first|exact .inl rfl|exact .inr rfl|assumption):wpAny M A (Nr X.env x u) Q E s:=by
 obtain⟨m,hn,hl⟩:=id I.loc;have hcls:(X.env.scope.kind == .class || (X.env.scope.kind == .module && X.env.locals != X.env.globals))=false:=by rw[I.ok.kind];rfl
 have hiσ:i<σ.length:=by rw[I.len];exact(Qn.mp hi).1
 have cne:=I.cne
 have tracked:∀{a:Addr} {h':Heap},(∃o,s.heap.get? a=some o/\H a=none)->ZI a s.heap h'->HOk X.prog X.w H h':=λ{a h'} ha hs b ob e=>by
  obtain⟨_,_,hfree⟩:=ha;refine(I.hok b ob e).stay (λc w' hc q=>(hs.2 c ?_).trans q) (λ_ q=>q) (λ_ _ q=>q) λ_ _ q=>q;rintro rfl;rcases hc with rfl|hc
  .rw[hfree] at e;cases e
  .rw[hfree] at hc;cases hc
 rcases hx with hk|hk
 .refine wpAny_storeName_local hk hn (λh' hn' hs=>?_) hcls;obtain⟨oL,_,_,hoL,_⟩:=id hn;refine h _ ⟨I.ok,I.os,I.bare,⟨λb o e n hb hx=>?_,λb o e n hb hx=>?_,I.base.free,λb o e hx=>?_,I.base.tups,I.base.frzs,I.base.tbls⟩,⟨_,hn',λj y v' e1 e2 e3=>?_⟩,λy c e=>?_,I.free,I.freeC,λp hp=>?_,tracked ⟨oL,hoL,I.free⟩ hs,by simpa using I.len⟩ ⟨_,hs,.inl rfl⟩
  .exact(hs.2 b (Q1 (QA (Qq e) I.ok.above))).trans (I.base.keep b o e n hb hx)
  .obtain⟨sl,e1⟩:=I.base.slot b o e n hb hx;exact⟨sl,(hs.2 b (Q1 (QA (Qq e) I.ok.above))).trans e1⟩
  .obtain⟨o',e1⟩:=I.base.there b o e hx;exact⟨o',(hs.2 b (Q1 (QA (Qq e) I.ok.above))).trans e1⟩
  .by_cases hj:j=i
   .subst hj;rw[hi] at e1;cases e1;rw[Q3 hiσ] at e2;cases e2;exact⟨u,r,.inl ⟨hk,by simp⟩⟩
   .rw[QB (ZC hj)] at e2;obtain⟨u',r',q⟩:=hl j y v' e1 e2 e3;refine⟨u',r',?_⟩;rcases q with ⟨k,e⟩|⟨k,c,e,z⟩
    .refine .inl ⟨k,?_⟩;have:y≠x:=λe=>hj (znq hN e1 (e ▸ hi));simp[this,e]
    .exact .inr ⟨k,c,e,z.sameBut hs (cne y c e)⟩
  .obtain⟨w',z⟩:=I.cell y c e;exact⟨w',z.sameBut hs (cne y c e)⟩
  .obtain⟨e,n,ne,nf,d⟩:=I.pin p hp;exact⟨(hs.2 p.1 ne).trans e,n,ne,nf,d⟩
 .have hfn:X.fn x=true:=by
   rcases hf with z|z
   .exact z
   .rw[z] at hk;cases hk
  obtain⟨c,hc⟩:=I.ok.has x (.inl hk);obtain⟨w',z⟩:=I.cell x c hc;refine wpAny_storeName_cell I.ok.kind hk hc z (λh' hc' hs=>?_);obtain⟨oc,hoc,hocd⟩:=id z;refine h { s with heap:=h' } ⟨I.ok,I.os,I.bare,⟨λb o e n hb hx=>?_,λb o e n hb hx=>?_,I.base.free,λb o e hx=>?_,I.base.tups,I.base.frzs,I.base.tbls⟩,⟨m,hn.sameBut hs (ZC (cne x c hc)),λj y v' e1 e2 e3=>?_⟩,λy c' e=>?_,I.free,I.freeC,λp hp=>?_,tracked ⟨oc,hoc,I.freeC x c hc⟩ hs,by simpa using I.len⟩ ⟨c,hs,.inr hc⟩
  .exact(hs.2 b (Q1 (QA (Qq e) (I.ok.cab x c hfn hc)))).trans (I.base.keep b o e n hb hx)
  .obtain⟨sl,e1⟩:=I.base.slot b o e n hb hx;exact⟨sl,(hs.2 b (Q1 (QA (Qq e) (I.ok.cab x c hfn hc)))).trans e1⟩
  .obtain⟨o',e1⟩:=I.base.there b o e hx;exact⟨o',(hs.2 b (Q1 (QA (Qq e) (I.ok.cab x c hfn hc)))).trans e1⟩
  .by_cases hj:j=i
   .subst hj;rw[hi] at e1;cases e1;rw[Q3 hiσ] at e2;cases e2;exact⟨u,r,.inr ⟨.inl hk,c,hc,hc'⟩⟩
   .rw[QB (ZC hj)] at e2;obtain⟨u',r',q⟩:=hl j y v' e1 e2 e3;refine⟨u',r',?_⟩;rcases q with q|⟨k,c',e,z'⟩
    .exact .inl q
    .refine .inr ⟨k,c',e,z'.sameBut hs ?_⟩;rintro rfl;exact hj (znq hN e1 (I.ok.inj _ _ _ e hc ▸ hi))
  .by_cases hcc:c'=c
   .subst hcc;exact⟨_,hc'⟩
   .obtain⟨w2,z2⟩:=I.cell y c' e;exact⟨w2,z2.sameBut hs hcc⟩
  .obtain⟨e,n,ne,nf,d⟩:=I.pin p hp;refine⟨(hs.2 p.1 ?_).trans e,n,ne,nf,d⟩;intro q;rw[q,hoc] at e;have q':oc=p.2:=Zp e;exact d w' (by rw[<- q'];exact hocd)
theorem zed{i:Nat}(I:Inv X pins σ H s)(hN:X.N.Nodup)(hi:X.N[i]? = some x)(hx:Loc X.env.scope x)(r:RelV v u)
 (h:∀s',Inv X pins (σ.set i (some v)) H s'->Q () s') (hf:X.fn x=true\/X.env.scope.names.lookup x=some .local:=by first|exact .inl rfl|exact .inr rfl|assumption):wpAny M A (Nr X.env x u) Q E s :=
 zkp I hN hi hx r (λs' I' _=>h s' I') hf
theorem Inv.call'(I:Inv X pins σ H s)(ho:s'.os=s.os)(u:Un (frs X.stack) ch H H' s.heap s'.heap)(hok:HOk X.prog X.w H' s'.heap)(hg:Mz s'.gens)
 (hch:∀b∈ch,(b∈X.ex\/X.s₀.heap.objs.size<=b)/\b≠X.env.locals/\(∀x c,X.env.cells.lookup x=some c->c≠b)/\∀p∈X.pn++pins,p.1≠b):Inv X pins σ H' s':=by
 obtain⟨h',g',d',t',o'⟩:=s';have e:o'=s.os:=ho;subst e;exact I.call (g':=g') (t':=t') (d':=d') u hok hg hch
end
abbrev XK:=G5->Option Addr->Hp->Prop
abbrev St:=List (Option V)
abbrev VK:=V->Hp->Prop
abbrev TE:=St->Hp->VK->Prop
abbrev TT:=St->Hp->(Bool->Hp->Prop)->Prop
abbrev TA:=St->Hp->(List V->Hp->Prop)->Prop
structure Ends where
 nx:St->Hp->Prop
 rt:VK
 bk:St->Hp->Prop:=λ_ _=>False
 ct:St->Hp->Prop:=λ_ _=>False
abbrev TS:=Ends->St->Hp->Prop
def EP(X:Cx)(pins:List (Addr×Obj))(σ:St)(Q:VK)(u:G5)(s':G8):Prop:=∃v H',Inv X pins σ H' s'/\RelV v u/\Q v H'
def TP(X:Cx)(pins:List (Addr×Obj))(σ:St)(Q:Bool->Hp->Prop)(b:Bool)(s':G8):Prop:=∃H',Inv X pins σ H' s'/\Q b H'
def AP(X:Cx)(pins:List (Addr×Obj))(σ:St)(Q:List V->Hp->Prop)(us:List G5)(s':G8):Prop:=∃vs H',Inv X pins σ H' s'/\Vals vs us/\Q vs H'
def SP(X:Cx)(pins:List (Addr×Obj))(D:Ends)(f:Flow)(s':G8):Prop :=
 match f with
 | .next=>∃σ' H',Inv X pins σ' H' s'/\D.nx σ' H'
 | .brk=>∃σ' H',Inv X pins σ' H' s'/\D.bk σ' H'
 | .cont=>∃σ' H',Inv X pins σ' H' s'/\D.ct σ' H'
 | .ret u=>∃v σ' H',Inv X pins σ' H' s'/\RelV v u/\D.rt v H'
def PE(X:Cx)(e:Expr)(t:TE):Prop :=
 ∀(pins:List (Addr×Obj)) (s:G8) (σ:St) (H:Hp) (Q:VK),Inv X pins σ H s->t σ H Q->wpAny (model X.prog X.w) X.A (eval e X.env) (EP X pins σ Q) X.xe s
def PT(X:Cx)(e:Expr)(t:TT):Prop :=
 ∀(pins:List (Addr×Obj)) (s:G8) (σ:St) (H:Hp) (Q:Bool->Hp->Prop),Inv X pins σ H s->t σ H Q->wpAny (model X.prog X.w) X.A (isTrue e X.env (eval e X.env)) (TP X pins σ Q) X.xe s
def PW(X:Cx)(e:Expr)(t:TT):Prop :=
 ∀(whole:Sem G5) (pins:List (Addr×Obj)) (s:G8) (σ:St) (H:Hp) (Q:Bool->Hp->Prop),Inv X pins σ H s->t σ H Q->wpAny (model X.prog X.w) X.A (isTrue e X.env whole) (TP X pins σ Q) X.xe s
theorem PW.pt(h:PW X e t):PT X e t:=h _
def PA(X:Cx)(es:List Expr)(t:TA):Prop :=
 ∀(pos:Pos) (pins:List (Addr×Obj)) (s:G8) (σ:St) (H:Hp) (Q:List V->Hp->Prop),Inv X pins σ H s->t σ H Q->wpAny (model X.prog X.w) X.A (Ms (Tk pos (GC es X.env))) (AP X pins σ Q) X.xe s
def PS(X:Cx)(st:Stmt)(t:TS):Prop :=
 ∀(pins:List (Addr×Obj)) (s:G8) (σ:St) (H:Hp) (D:Ends),Inv X pins σ H s->t D σ H->wpAny (model X.prog X.w) X.A (exec st X.env) (SP X pins D) X.xe s
def PSs(X:Cx)(st:List Stmt)(t:TS):Prop :=
 ∀(pins:List (Addr×Obj)) (s:G8) (σ:St) (H:Hp) (D:Ends),Inv X pins σ H s->t D σ H->wpAny (model X.prog X.w) X.A (execs st X.env) (SP X pins D) X.xe s
theorem thn{α:Type}{t:Sem α}{Q Q':α->G8->Prop}(h:wpAny M A t Q E s)(hQ:∀a s,Q a s->Q' a s):wpAny M A t Q' E s:=GM h hQ λ_ _ x=>x
section
variable {X:Cx}
def tVar(i:Nat):TE:=λσ H Q=>∃v,σ[i]? = some (some v)/\Q v H
def tC(v:V):TE:=λ_ H Q=>Q v H
theorem zaf{i:Nat}(hN:X.N[i]? = some x)(hv:Vis X.env.scope x)(hd:(x == ("__debug__" : Str))=false:=by decide)(hcd:(x == ("__classdict__" : Str))=false:=by decide):PE X (.Name x pos) (tVar i):=by
 intro pins s σ H Q I h;obtain⟨v,e,h⟩:=h;obtain⟨m,hn,hl⟩:=I.loc;obtain⟨u,r,l⟩:=hl i x v hN e hv;have fin:EP X pins σ Q u s:=⟨v,H,I,r,h⟩;rcases l with ⟨hk,hm⟩|⟨hk,c,hc,hcell⟩
 .exact wpAny_Name (wpAny_loadName_local I.ok.kind hk hn hm fin) hd
 .rcases hk with hk|hk
  .exact wpAny_Name (wpAny_loadName_cell I.ok.kind hk hc hcell fin) hd
  .exact wpAny_Name (wpAny_loadName_free I.ok.kind hk hc hcell fin hcd) hd
theorem zau{i j pos}:PE X (.Constant (.int i) j pos) (tC (.int i)):=λ_ _ _ H _ I h=>wpAny_Constant_int ⟨.int i,H,I.tok _,⟨_,rfl⟩,h⟩
theorem z5l{b j pos}:PE X (.Constant (.bool b) j pos) (tC (.bl b)):=λ_ _ _ H _ I h=>Constant_bool ⟨.bl b,H,I,rfl,h⟩
theorem z2e{j pos}:PE X (.Constant .none j pos) (tC .non):=λ_ _ _ H _ I h=>Constant_none ⟨.non,H,I,rfl,h⟩
theorem zbs{x j pos}:PE X (.Constant (.str x) j pos) (tC (.str x)):=λ_ _ _ H _ I h=>Calls.Constant_str ⟨.str x,H,I.tok _,⟨_,rfl⟩,h⟩
def Gl(X:Cx)(x:Str):Prop:=X.env.kindOf x=some .globalImplicit
theorem zpm{pins:List (Addr×Obj)}(I:Inv X pins σ H s)(hg:Gl X x)(hm:X.mg x=some u)(h:Q u s)
 (hd:(x == ("__debug__" : Str))=false:=by decide):wpAny (model X.prog X.w) X.A (eval (.Name x pos) X.env) Q E s :=
 YV I.ok.kind hg (Calls.loadGlobal_global (by rw[I.ok.glob];exact I.mod.glob.keeps I.bk) hm h) hd
theorem zby{pins:List (Addr×Obj)}(I:Inv X pins σ H s)(hg:Gl X x)(hm:X.mg x=none)(hv:GO x=some u)(h:Q u s)
 (hn:x ≠ "__name__" := by decide) (hd:(x == ("__debug__" : Str))=false:=by decide):wpAny (model X.prog X.w) X.A (eval (.Name x pos) X.env) Q E s:=by
 obtain⟨mb,h1,h2⟩:=I.mod.blt;exact YV I.ok.kind hg (Calls.loadGlobal_builtin (by rw[I.ok.glob];exact I.mod.glob.keeps I.bk) hm (by rw[I.ok.blt];exact h1.keeps I.bk) ((h2 x hn).trans hv) h) hd
variable {a b:Expr}{ta tb:TE}{pos:Pos}
def tB(t:TE):TT:=λσ H Q=>t σ H λx H1=>∃c,x = .bl c/\Q c H1
theorem z3u(h:PE X e t)(he:∀whole,isTrue e X.env whole=(do let v <- whole;standAt e.pos;holding [v] (truthy v)):=by intro _;rfl):PT X e (tB t):=by
 intro pins s σ H Q I hw;refine isTrue_plain (thn (h pins s σ H _ I hw) λv s1 zz=>?_) (he _);obtain⟨x,H1,I1,r1,q1⟩:=zz;obtain⟨d,rfl,q⟩:=q1;cases r1;exact TL ⟨H1,I1,q⟩
variable {tA tB':TT}{rest:List Expr}
def tAnd(t u:TT):TT:=λσ H Q=>t σ H λc H1=>if c=true then u σ H1 Q else Q false H1
def tOr(t u:TT):TT:=λσ H Q=>t σ H λc H1=>if c=true then Q true H1 else u σ H1 Q
def tNot(t:TT):TT:=λσ H Q=>t σ H λc H1=>Q (!c) H1
theorem zox(ha:PT X a tA):PW X (.BoolOp .And [a] pos) tA:=by
 intro wh pins s σ H Q I h;refine isTrue_and (thn (ha pins s σ H Q I h) λc s1 e=>?_)
 cases c with
 | true=>exact isTrue_and_nil e
 | false=>exact e
theorem z1o(ha:PT X a tA):PW X (.BoolOp .Or [a] pos) tA:=by
 intro wh pins s σ H Q I h;refine isTrue_or (thn (ha pins s σ H Q I h) λc s1 e=>?_)
 cases c with
 | false=>exact isTrue_or_nil e
 | true=>exact e
theorem zsv(ha:PT X a tA)(hb:PW X (.BoolOp .And (b::rest) pos) tB'):PW X (.BoolOp .And (a::b::rest) pos) (tAnd tA tB'):=by
 intro wh pins s σ H Q I h;refine isTrue_and (thn (ha pins s σ H _ I h) λc s1 zz=>?_);obtain⟨H1,I1,q1⟩:=zz
 cases c with
 | true=>exact hb wh pins s1 σ H1 Q I1 q1
 | false=>exact⟨H1,I1,q1⟩
theorem z5n(ha:PT X a tA)(hb:PW X (.BoolOp .Or (b::rest) pos) tB'):PW X (.BoolOp .Or (a::b::rest) pos) (tOr tA tB'):=by
 intro wh pins s σ H Q I h;refine isTrue_or (thn (ha pins s σ H _ I h) λc s1 zz=>?_);obtain⟨H1,I1,q1⟩:=zz
 cases c with
 | true=>exact⟨H1,I1,q1⟩
 | false=>exact hb wh pins s1 σ H1 Q I1 q1
theorem z4c(ha:PT X a tA):PT X (.UnaryOp .Not a pos) (tNot tA):=by
 intro pins s σ H Q I h;exact isTrue_not (ha pins s σ H (λc H1=>Q (!c) H1) I h)
def tIf(t:TT)(ta tb:TE):TE:=λσ H Q=>t σ H λc H1=>if c=true then ta σ H1 Q else tb σ H1 Q
theorem zmu(hc:PT X c tA)(ha:PE X a ta)(hb:PE X b tb):PE X (.IfExp c a b pos) (tIf tA ta tb):=by
 intro pins s σ H Q I h;refine wpAny_IfExp (thn (hc pins s σ H _ I h) λd s1 zz=>?_);obtain⟨H1,I1,q1⟩:=zz
 cases d with
 | true=>exact ha pins s1 σ H1 Q I1 q1
 | false=>exact hb pins s1 σ H1 Q I1 q1
end
def SqL(K:Qa)(H:Hp)(a:Addr)(xs:List V):Prop :=
 Rd H a (.lst xs) \/
  ∃(o:Obj) (its:Array G5) (n:Nat),K.lookup a=some o/\o.cls = .type "list" /\ o.dict=none/\o.data = .seq its n/\its.size<=sizeLine/\Vals xs its.toList
def SqT(K:Qa)(H:Hp)(a:Addr)(xs:List V):Prop :=
 Rd H a (.tup xs) \/
  ∃(o:Obj) (its:Array G5) (n:Nat),K.lookup a=some o/\o.cls = .type "tuple" /\ o.data = .seq its n/\its.size<=sizeLine/\Vals xs its.toList
def absV:G5->Option V
 | .none=>some .non
 | .bool b=>some (.bl b)
 | .int i _=>some (.int i)
 | .str x _=>some (.str x)
 | .bytes b _=>some (.byt b)
 | .float b _=>some (.flt b)
 | .ref a=>some (.ref a)
 | .type n=>some (.ty n)
 | _=>none
theorem RelV.abs(r:RelV x u):absV u=some x:=by
 cases x with
 | non=>cases r;rfl
 | bl _=>cases r;rfl
 | int _=>obtain⟨t,rfl⟩:=r;rfl
 | str _=>obtain⟨t,rfl⟩:=r;rfl
 | byt _=>obtain⟨t,rfl⟩:=r;rfl
 | flt _=>obtain⟨t,rfl⟩:=r;rfl
 | ref _=>cases r;rfl
 | ty _=>cases r;rfl
theorem RelV.inj(r:RelV x u)(q:RelV y u):x=y:=Zp (r.abs.symm.trans q.abs)
theorem Vals.inj:∀{xs ys:List V} {us:List G5},Vals xs us->Vals ys us->xs=ys
 | _,_,_,.nil,.nil=>rfl
 | _,_,_,.cons r t,.cons r' t'=>by rw[r.inj r',Vals.inj t t']
section
variable {X:Cx}{pins:List (Addr×Obj)}{σ:St}{H:Hp}{s:G8}{a:Addr}{xs ys:List V}
theorem SqL.of{K:Qa}(h:H a=some (.lst xs)):SqL K H a xs:=.inl (.inl h)
theorem SqT.of{K:Qa}(h:H a=some (.tup xs)):SqT K H a xs:=.inl (.inl h)
theorem Inv.list(I:Inv X pins σ H s)(h:SqL X.K H a xs):∃its:List G5,Vals xs its/\PlainL s.heap a its.toArray/\xs.length<=sizeLine:=by
 rcases h with h|⟨o,its,n,hk,hc,hd,hs,hz,r⟩
 .obtain⟨z,its,n,r,e⟩:=h.ok I.hok;exact⟨its,r,⟨_,n,e,rfl,rfl,rfl⟩,z⟩
 .refine⟨its.toList,r,⟨o,n,I.kIn a o hk,hc,hd,by simpa using hs⟩,?_⟩;have e:=r.length;simp only[QW] at e;lia
theorem Inv.tuple(I:Inv X pins σ H s)(h:SqT X.K H a xs):∃its:List G5,Vals xs its/\IsTup s.heap a its.toArray/\xs.length<=sizeLine:=by
 rcases h with h|⟨o,its,n,hk,hc,hs,hz,r⟩
 .obtain⟨z,its,r,p⟩:=h.ok I.hok;exact⟨its,r,p,z⟩
 .refine⟨its.toList,r,⟨o,I.kIn a o hk,hc,n,by simpa using hs⟩,?_⟩;have e:=r.length;simp only[QW] at e;lia
theorem Inv.list_inj(I:Inv X pins σ H s)(h:SqL X.K H a xs)(h':SqL X.K H a ys):xs=ys:=by
 obtain⟨its,r,⟨o,n,e,_,_,d⟩,_⟩:=I.list h;obtain⟨its',r',⟨o',n',e',_,_,d'⟩,_⟩:=I.list h';rw[e] at e';cases e';rw[d] at d';injection d' with d1 _;have:its=its':=by simpa using NK Gz d1
 subst this;exact r.inj r'
theorem Inv.tuple_inj(I:Inv X pins σ H s)(h:SqT X.K H a xs)(h':SqT X.K H a ys):xs=ys:=by
 obtain⟨its,r,⟨o,e,_,n,d⟩,_⟩:=I.tuple h;obtain⟨its',r',⟨o',e',_,n',d'⟩,_⟩:=I.tuple h';rw[e] at e';cases e';rw[d] at d';injection d' with d1 _;have:its=its':=by simpa using NK Gz d1
 subst this;exact r.inj r'
end
abbrev Cx.wish(X:Cx)(E:G5->G8->Prop):Cx:={ X with xe:=E }
abbrev Cx.nox(X:Cx):Cx:=X.wish λ_ _=>False
theorem Cx.Ok.wish{X:Cx}(ok:X.Ok)(E:G5->G8->Prop):(X.wish E).Ok :=
 ⟨ok.mod,ok.kind,ok.glob,ok.blt,ok.above,ok.inj,ok.has,ok.cab,ok.hd,ok.frames,ok.stk,ok.exf,ok.bs,ok.bsz,ok.noex,ok.exfs,ok.funs,ok.frf⟩
theorem Cx.Ok.unwish{X:Cx}{E:G5->G8->Prop}(ok:(X.wish E).Ok):X.Ok :=
 ⟨ok.mod,ok.kind,ok.glob,ok.blt,ok.above,ok.inj,ok.has,ok.cab,ok.hd,ok.frames,ok.stk,ok.exf,ok.bs,ok.bsz,ok.noex,ok.exfs,ok.funs,ok.frf⟩
section
variable {X:Cx}{pins:List (Addr×Obj)}{σ:St}{H:Hp}{s:G8}{E:G5->G8->Prop}
theorem Inv.wish(I:Inv X pins σ H s)(E:G5->G8->Prop):Inv (X.wish E) pins σ H s:=⟨I.ok.wish E,I.os,I.bare,I.base,I.loc,I.cell,I.free,I.freeC,I.pin,I.hok,I.len⟩
theorem Inv.unwish(I:Inv (X.wish E) pins σ H s):Inv X pins σ H s:=⟨I.ok.unwish,I.os,I.bare,I.base,I.loc,I.cell,I.free,I.freeC,I.pin,I.hok,I.len⟩
theorem SP.unwish(h:SP (X.wish E) pins D f s'):SP X pins D f s':=by
 cases f with
 | next=>obtain⟨σ',H',I,q⟩:=h;exact⟨σ',H',I.unwish,q⟩
 | brk=>obtain⟨σ',H',I,q⟩:=h;exact⟨σ',H',I.unwish,q⟩
 | cont=>obtain⟨σ',H',I,q⟩:=h;exact⟨σ',H',I.unwish,q⟩
 | ret u=>obtain⟨v,σ',H',I,r,q⟩:=h;exact⟨v,σ',H',I.unwish,r,q⟩
theorem PSs.nox{st:List Stmt}{t:TS}(h:PSs X.nox st t):PSs X st t:=λpins s σ H D I hw=>
 GM (h pins s σ H D (I.wish _) hw) (λ_ _ q=>q.unwish) λ_ _ z=>ZG z
end
section
variable {X:Cx}{st:Stmt}{rest:List Stmt}{t u:TS}{e:Expr}{te:TE}{pos:Pos}
def zqv:TS:=λD σ H=>D.nx σ H
def tSeq(t u:TS):TS:=λD σ H=>t { D with nx:=u D } σ H
theorem zo0:PSs X [] zqv:=λ_ _ σ H _ I h=>Mn ⟨σ,H,I,h⟩
theorem za7(h1:PS X st t)(h2:PSs X rest u):PSs X (st::rest) (tSeq t u):=by
 intro pins s σ H D I h;refine wpAny_execs_cons (thn (h1 pins s σ H { D with nx:=u D } I h) λf s1 q=>?_)
 cases f with
 | next=>
   obtain⟨σ',H',I',q⟩:=q;exact h2 pins s1 σ' H' D I' q
 | ret v=>exact q
 | brk=>exact q
 | cont=>exact q
theorem zcm(h1:PS X st t):PSs X [st] t:=by
 intro pins s σ H D I h;refine wpAny_execs_cons (thn (h1 pins s σ H D I h) λf s1 q=>?_)
 cases f with
 | next=>exact Mn q
 | ret v=>exact q
 | brk=>exact q
 | cont=>exact q
theorem Inv.quiet{pins:List (Addr×Obj)}(I:Inv X pins σ H s):interactive X.env=false:=by simp[interactive,I.ok.kind]
def zdp(te:TE):TS:=λD σ H=>te σ H λ_ H1=>D.nx σ H1
theorem zg6(he:PE X e te)(hs:Tj e none pos.line X.env=pure false:=by rfl):PS X (.Expr e pos) (zdp te):=by
 intro pins s σ H D I h;exact wpAny_Expr_any (thn (he pins s σ H _ I h) λv s1 ⟨x,H1,I1,r1,q1⟩=>⟨σ,H1,I1,q1⟩) I.quiet hs
def tRet(te:TE):TS:=λD σ H=>te σ H D.rt
theorem zd7(he:PE X e te):PS X (.Return (some e) pos) (tRet te):=by
 intro pins s σ H D I h;exact wpAny_Return_some (thn (he pins s σ H _ I h) λv s1 ⟨x,H1,I1,r1,q1⟩=>⟨x,σ,H1,I1,r1,q1⟩)
def tIfS(c:TT)(t u:TS):TS:=λD σ H=>c σ H λb H1=>if b=true then t D σ H1 else u D σ H1
theorem zxd(hc:PT X c tc)(ha:PSs X a t)(hb:PSs X b u):PS X (.If c a b pos) (tIfS tc t u):=by
 intro pins s σ H D I h;refine wpAny_If (thn (hc pins s σ H _ I h) λd s1 zz=>?_);obtain⟨H1,I1,q1⟩:=zz
 cases d with
 | true=>exact ha pins s1 σ H1 D I1 q1
 | false=>exact hb pins s1 σ H1 D I1 q1
end
abbrev TG:=V->St->Hp->(St->Hp->Prop)->Prop
abbrev TGs:=List V->St->Hp->(St->Hp->Prop)->Prop
def PG(X:Cx)(target:Expr)(t:TG):Prop :=
 ∀(pins:List (Addr×Obj)) (s:G8) (σ:St) (H:Hp) (v:V) (u:G5) (Q:St->Hp->Prop),Inv X pins σ H s->RelV v u->t v σ H Q ->
   wpAny (model X.prog X.w) X.A (Nn target X.env u) (λ_ s'=>∃σ' H',Inv X pins σ' H' s'/\Q σ' H') X.xe s
def PGs(X:Cx)(ts:List Expr)(t:TGs):Prop :=
 ∀(pins:List (Addr×Obj)) (s:G8) (σ:St) (H:Hp) (vs:List V) (us:List G5) (Q:St->Hp->Prop),Inv X pins σ H s->Vals vs us->t vs σ H Q ->
   wpAny (model X.prog X.w) X.A (assignInOrder ((TM ts X.env).map (·.2)) us) (λ_ s'=>∃σ' H',Inv X pins σ' H' s'/\Q σ' H') X.xe s
section
variable {X:Cx}{pos:Pos}
def zax(i:Nat):TG:=λv σ H Q=>Q (σ.set i (some v)) H
theorem zdu{i:Nat}(hN:X.N.Nodup)(hi:X.N[i]? = some x)(hx:Loc X.env.scope x)(hf:X.fn x=true\/X.env.scope.names.lookup x=some .local:=by first|exact .inl rfl|exact .inr rfl|assumption):PG X (.Name x pos) (zax i):=by
 intro pins s σ H v u Q I r h;exact wpAny_assign_Name (zed I hN hi hx r (λs' I'=>⟨_,H,I',h⟩) hf)
def gNil:TGs:=λvs σ H Q=>vs = []/\Q σ H
def ziq(t:TG)(u:TGs):TGs:=λvs σ H Q=>∃v r,vs=v::r/\t v σ H λσ' H'=>u r σ' H' Q
theorem zy0:PGs X [] gNil:=by
 intro pins s σ H vs us Q I r h;obtain⟨e,h⟩:=h;subst e;cases r;exact assignInOrder_nil ⟨σ,H,I,h⟩
theorem zvn(h1:PG X e t)(h2:PGs X es u)
 (hs:(TM (e::es) X.env).map (·.2)=Nn e X.env::(TM es X.env).map (·.2):=by rfl):PGs X (e::es) (ziq t u):=by
 intro pins s σ H vs us Q I r h;obtain⟨v,vr,e1,h⟩:=h;subst e1
 cases r with
 | cons r rr=>
   rw[hs];refine assignInOrder_cons (thn (h1 pins s σ H _ _ _ I r h) λ_ s1 zz=>?_);obtain⟨σ1,H1,I1,q1⟩:=zz;exact h2 pins s1 σ1 H1 _ _ Q I1 rr q1
def gTup(K:Qa)(n:Nat)(t:TGs):TG:=λv σ H Q=>∃a xs,v = .ref a/\SqT K H a xs/\xs.length=n/\t xs σ H Q
theorem z1u{k:Nat}{n:Nat}(hc:X.calm=true)(h:PGs X es t)
 (hn:(TM es X.env).length=n:=by rfl) (hst:(TM es X.env).findIdx? (·.1)=none:=by rfl):PG X (.Tuple es k pos) (gTup X.K n t):=by
 intro pins s σ H v u Q I r hw;obtain⟨a,xs,e1,hq,hl,hw⟩:=hw;subst e1;cases r;obtain⟨its,rv,ht,hz⟩:=I.tuple hq;refine assign_Tuple_tuple (I.ok.hd hc) ht (by simp[hn,<- hl,rv.length]) hst λh' hx=>?_;have I1:Inv X pins σ H { s with heap:=h' }:=I.kept (t':=s.toks) λb o e=>hx b o (Q1 (Qq e)) e;exact h pins _ σ H xs _ Q I1 (by simpa using rv) hw
def tAsg(te:TE)(g:TG):TS:=λD σ H=>te σ H λx H1=>g x σ H1 D.nx
theorem zb6{i:Nat}{pos':Pos}(hN:X.N.Nodup)(hi:X.N[i]? = some x)(hx:Loc X.env.scope x)(he:PE X e te)(hs:Tj e (some (.Name x pos')) pos.line X.env=pure false:=by rfl)(hf:X.fn x=true\/X.env.scope.names.lookup x=some .local:=by first|exact .inl rfl|exact .inr rfl|assumption):
 PS X (.Assign [.Name x pos'] e pos) (tAsg te (zax i)):=by
 intro pins s σ H D I h;refine wpAny_Assign_Name (thn (he pins s σ H _ I h) λv s1 zz=>?_) hs;obtain⟨y,H1,I1,r1,q1⟩:=zz;exact zed I1 hN hi hx r1 (λs2 I2=>⟨_,H1,I2,q1⟩) hf
end
section
variable {X:Cx}{pos:Pos}
def znk(c:TT)(tb:TS):TS:=λD σ H=>∃W:Nat->St->Hp->Prop,(∃m,W m σ H)/\∀m σ H,W m σ H ->
 c σ H λb H1=>if b=true then ∃N:St->Hp->Prop,(∀σ' H',N σ' H'->∃m',m'<m/\W m' σ' H')/\tb { D with nx:=N,ct:=N,bk:=D.nx } σ H1 else D.nx σ H1
theorem znd{body:List Stmt}(hp:PassesOwn (model X.prog X.w) X.A X.env X.xe)(hc:PT X c tc)(hb:PSs X body tb):PS X (.While c body [] pos) (znk tc tb):=by
 intro pins s σ H D I h;obtain⟨W,⟨m0,w0⟩,turn⟩:=h;refine wpAny_While (codeAny_whileLoop (λn s'=>∃σ' H',Inv X pins σ' H' s'/\W n σ' H') ?_ m0 ⟨σ,H,I,w0⟩);rintro n s1 ⟨σ1,H1,I1,w1⟩;refine Tl hp (thn (hc pins s1 σ1 H1 _ I1 (turn n σ1 H1 w1)) λb s2 zz=>?_);obtain⟨H2,I2,q2⟩:=zz
 cases b with
 | true=>
   obtain⟨N,hN,q2⟩:=q2;rw[ND rfl];refine Tl hp (thn (hb pins s2 σ1 H2 _ I2 q2) λf s3 q3=>?_)
   cases f with
   | next=>
     obtain⟨σ3,H3,I3,n3⟩:=q3;obtain⟨m',hm,w3⟩:=hN σ3 H3 n3;exact⟨m',hm,σ3,H3,I3,w3⟩
   | cont=>
     obtain⟨σ3,H3,I3,n3⟩:=q3;obtain⟨m',hm,w3⟩:=hN σ3 H3 n3;exact⟨m',hm,σ3,H3,I3,w3⟩
   | brk=>exact q3
   | ret v=>exact q3
 | false=>
   rw[NE Q6];exact Mn ⟨σ1,H2,I2,q2⟩
end
structure It where
 go:Nat->Hp->Prop
 yld:Nat->Hp->V->Hp->Prop
 stop:Nat->Hp->Prop
def FpOk(X:Cx)(pins:List (Addr×Obj))(H:Hp)(b:Addr):Prop :=
 H b=none/\b≠X.env.locals/\b ∉ X.fs/\(b∈X.ex\/X.s₀.heap.objs.size<=b)/\(∀x c,X.env.cells.lookup x=some c->c≠b)/\∀p∈X.pn++pins,p.1≠b
theorem Inv.fpOk{pins:List (Addr×Obj)}(I:Inv X pins σ H s)(hb:s.heap.objs.size<=b)(hn:H' b=none):FpOk X pins H' b:=by
 refine⟨hn,Yy (QA I.lt hb),I.nofs hb,.inr (QN I.sz hb),λx c e z=>?_,λp hp z=>?_⟩
 .obtain⟨v,q⟩:=I.cell x c e;exact absurd (QA q.lt (by rw[z];exact hb)) (QS _)
 .exact absurd (QA (Qq (I.pin p hp).1) (by rw[z];exact hb)) (QS _)
structure Turn(P:GB)(w:GD)(K:Qa)(tg:Expr)(J:It)(fp:List Addr)(it:Addr)(tn:Nat->Heap->Prop):Prop where
 mem:it∈fp
 obj:∀i h,tn i h->∀b∈fp,∃o,h.get? b=some o/\∀v,o.data≠.cell v
 keep:∀i h h',tn i h->(∀b∈fp,∀o,h.get? b=some o->h'.get? b=some o)->tn i h'
 item:∀(X:Cx),X.prog=P->X.w=w->X.K=K->X.calm=true->∀(i:Nat) (pins:List (Addr×Obj)) (s:G8) (σ:St) (H:Hp) (E:G5->G8->Prop),Inv X pins σ H s->(∀b∈fp,FpOk X pins H b)->tn i s.heap->J.go i H ->
  wpAny (model P w) X.A (M6 (.ref it)) (λr s1=>∃u,r=some u /\
   wpAny (model P w) X.A (Ml tg (.ref it) u) (λ_ s2=>∃x H',Inv X pins σ H' s2/\RelV x u/\J.yld i H x H'/\tn (i+1) s2.heap/\∀b∈fp,H' b=none) E s1) E s
 done:∀(X:Cx),X.prog=P->X.w=w->X.K=K->X.calm=true->∀(i:Nat) (pins:List (Addr×Obj)) (s:G8) (σ:St) (H:Hp) (E:G5->G8->Prop),Inv X pins σ H s->(∀b∈fp,FpOk X pins H b)->tn i s.heap->J.stop i H ->
  wpAny (model P w) X.A (M6 (.ref it)) (λr s1=>r=none/\Inv X pins σ H s1) E s
 self:∀(A:GF) (i:Nat) (s:G8) (Q:G5->G8->Prop) (E:G5->G8->Prop),tn i s.heap->Q (.ref it) s->wpAny (model P w) A (MT (.ref it)) Q E s
abbrev TI:=St->Hp->(It->Hp->Prop)->Prop
def PIE(X:Cx)(pins:List (Addr×Obj))(σ:St)(tg:Expr)(R:It->Hp->Prop)(itv:G5)(s2:G8):Prop :=
 ∃(it:Addr) (fp:List Addr) (tn:Nat->Heap->Prop) (J:It) (H':Hp),itv = .ref it/\Inv X pins σ H' s2/\Turn X.prog X.w X.K tg J fp it tn/\tn 0 s2.heap/\(∀b∈fp,FpOk X pins H' b)/\R J H'
def PI(X:Cx)(tg iter:Expr)(wi:TI):Prop :=
 ∀(pins:List (Addr×Obj)) (s:G8) (σ:St) (H:Hp) (R:It->Hp->Prop),Inv X pins σ H s->wi σ H R ->
   wpAny (model X.prog X.w) X.A (eval iter X.env) (λv s1=>wpAny (model X.prog X.w) X.A (MT v) (PIE X pins σ tg R) X.xe s1) X.xe s
theorem zre(ho:s.heap.get? it=some o)(hc:o.cls = .type n)(hd:o.data = .fields vs)
 (hn:["enumerate", "zip", "dict_itemiterator", "dict_reverseitemiterator", "odict_iterator", "itertools.zip_longest", "itertools.pairwise"].contains n=false) (hQ:Q () s):wpAny M A (Ml tg (.ref it) u) Q E s:=by
 unfold Ml
 cases tg <;> first
  | exact G6 hQ
  | (cases u <;> first
   | exact G6 hQ
   | (refine G4 (wpAny_load ho ?_)
      rw[hc,hd];show wpAny M A (if(["enumerate", "zip", "dict_itemiterator", "dict_reverseitemiterator", "odict_iterator", "itertools.zip_longest", "itertools.pairwise"].contains n && vs[0]? == some (GQ _))=true then _ else _) Q E s;rw[NE (by intro h;rw[hn,Bool.false_and] at h;cases h)]
      exact G6 hQ))
def Itl(K:Qa)(a:Addr):It :=
 ⟨λi H=>∃xs x,SqL K H a xs/\xs[i]? = some x,λi H x H'=>H'=H/\∀xs,SqL K H a xs->xs[i]? = some x,λi H=>∃xs,SqL K H a xs/\xs.length<=i⟩
def Itt(K:Qa)(a:Addr):It :=
 ⟨λi H=>∃xs x,SqT K H a xs/\xs[i]? = some x,λi H x H'=>H'=H/\∀xs,SqT K H a xs->xs[i]? = some x,λi H=>∃xs,SqT K H a xs/\xs.length<=i⟩
def Itr(lo:Int)(n:Nat):It:=⟨λi _=>i<n,λi H x H'=>H'=H/\x = .int (lo+i),λi _=>n<=i⟩
theorem zr0{P:GB}{w:GD}{K:Qa}{tg:Expr}(a it:Addr):Turn P w K tg (Itl K a) [it] it (λi h=>h.IsListIter it a i) where
 mem:=by simp
 obj:=λi h st b hb=>by
  have e:b=it:=by simpa using hb
  subst e;obtain⟨o,e,c,d⟩:=st;exact⟨o,e,λv z=>by rw[d] at z;cases z⟩
 keep:=λi h h' st k=>st.at λo e=>k it (by simp) o e
 item:=by
  intro X hP hw hK hc i pins s σ H E I hf st hg;subst hP hw hK;obtain⟨xs,x,hq,hx⟩:=hg;obtain⟨its,rv,p,hz⟩:=I.list hq;obtain⟨u,hu,ru⟩:=rv.get hx;obtain⟨f0,f1,f2,f3,f4,f5⟩:=hf it (by simp);refine wpAny_pyNext_list_item st p.isList (x:=u) (by simpa using hu) λh' st' sb=>?_;have I1:Inv X pins σ H { s with heap:=h' }:=I.turned (t':=s.toks) (λb o hb e=>(sb.2 b hb).trans e) f0 f1 f3 f4 f5;obtain⟨o,e,c,d⟩:=id st';exact⟨u,rfl,zre (s:={ s with heap:=h' }) e c d (by decide) ⟨x,H,I1,ru,⟨rfl,λys hy=>by rw[I.list_inj hy hq];exact hx⟩,st',λb hb=>(hf b hb).1⟩⟩
 done:=by
  intro X hP hw hK hc i pins s σ H E I hf st hg;subst hP hw hK;obtain⟨xs,hq,hx⟩:=hg;obtain⟨its,rv,p,hz⟩:=I.list hq;obtain⟨f0,f1,f2,f3,f4,f5⟩:=hf it (by simp);have hl:=rv.length;exact wpAny_pyNext_list_end (I.ok.hd hc) st p.isList (by simp;lia) λh' eb=>⟨rfl,I.turned (t':=s.toks) (λb o hb e=>eb b o hb e) f0 f1 f3 f4 f5⟩
 self:=λ_ _ _ _ _ st h=>wpAny_pyIter_listiter st h
theorem zq2{P:GB}{w:GD}{K:Qa}{tg:Expr}(a it:Addr):Turn P w K tg (Itt K a) [it] it (λi h=>h.IsTupleIter it a i) where
 mem:=by simp
 obj:=λi h st b hb=>by
  have e:b=it:=by simpa using hb
  subst e;obtain⟨o,e,c,d⟩:=st;exact⟨o,e,λv z=>by rw[d] at z;cases z⟩
 keep:=λi h h' st k=>st.at λo e=>k it (by simp) o e
 item:=by
  intro X hP hw hK hc i pins s σ H E I hf st hg;subst hP hw hK;obtain⟨xs,x,hq,hx⟩:=hg;obtain⟨its,rv,p,hz⟩:=I.tuple hq;obtain⟨u,hu,ru⟩:=rv.get hx;obtain⟨f0,f1,f2,f3,f4,f5⟩:=hf it (by simp);refine wpAny_pyNext_tuple_item st (show s.heap.IsTuple a its.toArray from p) (x:=u) (by simpa using hu) λh' st' sb=>?_;have I1:Inv X pins σ H { s with heap:=h' }:=I.turned (t':=s.toks) (λb o hb e=>(sb.2 b hb).trans e) f0 f1 f3 f4 f5;obtain⟨o,e,c,d⟩:=id st';exact⟨u,rfl,zre (s:={ s with heap:=h' }) e c d (by decide) ⟨x,H,I1,ru,⟨rfl,λys hy=>by rw[I.tuple_inj hy hq];exact hx⟩,st',λb hb=>(hf b hb).1⟩⟩
 done:=by
  intro X hP hw hK hc i pins s σ H E I hf st hg;subst hP hw hK;obtain⟨xs,hq,hx⟩:=hg;obtain⟨its,rv,p,hz⟩:=I.tuple hq;obtain⟨f0,f1,f2,f3,f4,f5⟩:=hf it (by simp);have hl:=rv.length;exact wpAny_pyNext_tuple_end (I.ok.hd hc) st (show s.heap.IsTuple a its.toArray from p) (by simp;lia) λh' eb=>⟨rfl,I.turned (t':=s.toks) (λb o hb e=>eb b o hb e) f0 f1 f3 f4 f5⟩
 self:=λ_ _ _ _ _ st h=>wpAny_pyIter_tupleiter st h
theorem zp8{P:GB}{w:GD}{K:Qa}{tg:Expr}(it:Addr)(lo:Int)(n:Nat):Turn P w K tg (Itr lo n) [it] it (λi h=>IsRangeIter h it (lo+(i:Nat) * 1) ((n:Int)-(i:Nat)) 1) where
 mem:=by simp
 obj:=λi h st b hb=>by
  have e:b=it:=by simpa using hb
  subst e
  exact⟨_,st,λv z=>by
   have z':Data.fields _=Data.cell v:=z
   cases z'⟩
 keep:=λi h h' st k=>k it (by simp) _ st
 item:=by
  intro X hP hw hK hc i pins s σ H E I hf st hg;subst hP hw hK;obtain⟨f0,f1,f2,f3,f4,f5⟩:=hf it (by simp);have W:=Walks.range (prog:=X.prog) (w:=X.w) (I.ok.hd hc) it lo 1 n;refine W.item i s _ _ hg st λv h' tk hv st' kk=>?_;obtain⟨t,rfl⟩:=hv;have I1:Inv X pins σ H { s with heap:=h',toks:=tk }:=I.turned (λb o hb e=>kk b o (by simpa using hb) e) f0 f1 f3 f4 f5;refine⟨_,rfl,zre (s:={ s with heap:=h',toks:=tk }) (n := "range_iterator") st' rfl rfl (by decide) ⟨.int (lo+i),H,I1,⟨t,?_⟩,⟨rfl,rfl⟩,st',λb hb=>(hf b hb).1⟩⟩;rw[Int.mul_one]
 done:=by
  intro X hP hw hK hc i pins s σ H E I hf st hg;subst hP hw hK;obtain⟨f0,f1,f2,f3,f4,f5⟩:=hf it (by simp);exact wpAny_pyNext_range_end (I.ok.hd hc) st (by have:n<=i:=hg;lia) λh' eb=>⟨rfl,I.turned (t':=s.toks) (λb o hb e=>eb b o hb e) f0 f1 f3 f4 f5⟩
 self:=λ_ _ _ _ _ st h=>wpAny_pyIter_rangeiter st h
section
variable {X:Cx}{tg:Expr}
def zb0(K:Qa)(tl:TE):TI:=λσ H R=>tl σ H λx H1=>∃a,x = .ref a/\(∃xs,SqL K H1 a xs)/\R (Itl K a) H1
def iTup(K:Qa)(tl:TE):TI:=λσ H R=>tl σ H λx H1=>∃a,x = .ref a/\(∃xs,SqT K H1 a xs)/\R (Itt K a) H1
theorem zcz(hl:PE X l tl):PI X tg l (zb0 X.K tl):=by
 intro pins s σ H R I h;refine thn (hl pins s σ H _ I h) λv s1 zz=>?_;obtain⟨x,H1,I1,r1,q1⟩:=zz;obtain⟨a,e,⟨xs,hq⟩,q⟩:=q1;subst e;cases r1;obtain⟨its,rv,p,hz⟩:=I1.list hq;refine M2 p.isList ?_;refine⟨s1.heap.objs.size,[s1.heap.objs.size],_,_,H1,rfl,I1.kept (t':=s1.toks) λb o e=>Qc _ e,zr0 a _,⟨_,Qo _ rfl,rfl,rfl⟩,λb hb=>?_,q⟩;have e:b=s1.heap.objs.size:=by simpa using hb
 subst e;exact I1.fpOk (Qg _) (I1.hok.fresh (Qg _))
theorem z1w(hl:PE X l tl):PI X tg l (iTup X.K tl):=by
 intro pins s σ H R I h;refine thn (hl pins s σ H _ I h) λv s1 zz=>?_;obtain⟨x,H1,I1,r1,q1⟩:=zz;obtain⟨a,e,⟨xs,hq⟩,q⟩:=q1;subst e;cases r1;obtain⟨its,rv,p,hz⟩:=I1.tuple hq;refine wpAny_pyIter_tuple (show s1.heap.IsTuple a its.toArray from p) ?_;refine⟨s1.heap.objs.size,[s1.heap.objs.size],_,_,H1,rfl,I1.kept (t':=s1.toks) λb o e=>Qc _ e,zq2 a _,⟨_,Qo _ rfl,rfl,rfl⟩,λb hb=>?_,q⟩;have e:b=s1.heap.objs.size:=by simpa using hb
 subst e;exact I1.fpOk (Qg _) (I1.hok.fresh (Qg _))
theorem zuy{pins:List (Addr×Obj)}{R:It->Hp->Prop}{lo hi:Int}{tk:Nat}(I:Inv X pins σ H s)(h1:-(2 ^ 62)<=lo)(h2:lo<2 ^ 62)(h3:-(2 ^ 62)<=hi)(h4:hi<2 ^ 62)
 (q:R (Itr lo (hi-lo).toNat) H):wpAny (model X.prog X.w) X.A (MT (.ref s.heap.objs.size)) (PIE X pins σ tg R) E { s with heap:=s.heap.push { cls:=.type "range",data:=.fields #[.int lo t,.int hi u,.int 1 v] },toks:=tk }:=by
 refine wpAny_pyIter_range (IsRange.new ..) (small_one h1 h2 h3 h4) ?_;have I1:Inv X pins σ H { s with heap:=s.heap.push { cls:=.type "range",data:=.fields #[.int lo t,.int hi u,.int 1 v] },toks:=tk }:=I.kept λb o e=>Qc _ e
 refine⟨(s.heap.push { cls:=.type "range",data:=.fields #[.int lo t,.int hi u,.int 1 v] }).objs.size,[(s.heap.push { cls:=.type "range",data:=.fields #[.int lo t,.int hi u,.int 1 v] }).objs.size],_,_,H,rfl,
  I1.kept (t':=tk) λb o e=>Qc _ e,zp8 _ lo (hi-lo).toNat,?_,λb hb=>?_,q⟩
 .have e1:lo+((0:Nat):Int) * 1=lo:=by simp
  have e2:(((hi-lo).toNat:Nat):Int)-((0:Nat):Int)=Builtin.Range.rangeSize lo hi 1:=by rw[rangeSize_one];split <;> lia
  show IsRangeIter _ _ (lo+((0:Nat):Int) * 1) ((((hi-lo).toNat:Nat):Int)-((0:Nat):Int)) 1;rw[e1,e2];exact Qo _ rfl
 .have e:b=(s.heap.push { cls:=.type "range",data:=.fields #[.int lo t,.int hi u,.int 1 v] }).objs.size:=by simpa using hb
  subst e;exact I1.fpOk (Qg _) (I1.hok.fresh (Qg _))
def zqo(ta:TA):TI:=λσ H R=>ta σ H λvs H1=>∃j:Int,vs = [.int j]/\-(2 ^ 62)<=j/\j<2 ^ 62/\R (Itr 0 j.toNat) H1
theorem zk3(hg:Gl X "range")(hm:X.mg "range" = none)(ha:PA X [a] ta)(hs:GC [a] X.env = [(false,eval a X.env)]:=by rfl):PI X tg (.Call (.Name "range" p) [a] [] pos) (zqo ta):=by
 intro pins s σ H R I h;refine Call_ (zby I hg hm boot_range (ZD (thn (ha pos pins s σ H _ I h) λus s1 zz=>?_) hs rfl));obtain⟨vs,H1,I1,r1,q1⟩:=zz;obtain⟨j,e,q1,q2,q⟩:=q1;subst e
 cases r1 with
 | cons r rr=>
   cases rr;obtain⟨t,rfl⟩:=r;exact call_range_1 (zuy I1 (by lia) (by lia) q1 q2 (by simpa using q))
def tFor(wi:TI)(g:TG)(tb:TS):TS:=λD σ H=>wi σ H λJ H1=>∃W:Nat->Nat->St->Hp->Prop,(∃m,W 0 m σ H1)/\∀i m σ H,W i m σ H ->
 (J.stop i H/\D.nx σ H)\/(J.go i H/\∃N:St->Hp->Prop,(∀σ' H',N σ' H'->∃m',m'<m/\W (i+1) m' σ' H')/\∀x H',J.yld i H x H'->g x σ H' λσ2 H2=>tb { D with nx:=N,ct:=N,bk:=D.nx } σ2 H2)
def zgj(fp:List Addr)(h:Heap):List (Addr×Obj):=fp.filterMap λb=>(h.get? b).map λo=>(b,o)
theorem zdo(hb:b∈fp)(e:h.get? b=some o):(b,o)∈zgj fp h:=Um.mpr ⟨b,hb,by rw[e];rfl⟩
theorem ztt(hp:p∈zgj fp h):p.1∈fp/\h.get? p.1=some p.2:=by
 obtain⟨b,hb,e⟩:=Um.mp hp
 cases q:h.get? b with
 | none=>rw[q] at e;cases e
 | some o=>
   rw[q] at e;have e':(b,o)=p:=Zp e;subst e';exact⟨hb,q⟩
theorem Inv.pinned{pins:List (Addr×Obj)}(I:Inv X pins σ H s)(hf:∀b∈fp,FpOk X pins H b)(ho:∀b∈fp,∃o,s.heap.get? b=some o/\∀v,o.data≠.cell v):Inv X (pins++zgj fp s.heap) σ H s :=
 I.pins_of λp hp=>(Q7.mp hp).elim (λz=>I.pin p (QF _ z)) λz=>by
  obtain⟨hb,e⟩:=ztt z;obtain⟨f0,f1,f2,_⟩:=hf p.1 hb;obtain⟨o,e',d⟩:=ho p.1 hb;rw[e] at e';cases e';exact⟨e,f0,f1,f2,d⟩
theorem Inv.unpinned{pins:List (Addr×Obj)}(I:Inv X (pins++pl) σ H s):Inv X pins σ H s:=I.pins_of λp hp=>I.pin p (QF _ (QC _ hp))
theorem zr1{iter:Expr}{body:List Stmt}(hp:PassesOwn (model X.prog X.w) X.A X.env X.xe)(hc:X.calm=true)(hi:PI X tg iter wi)(hg:PG X tg g)(hb:PSs X body tb)
 (hs:∀x,Te iter X.env x=pure x:=by intro _;rfl):PS X (.For tg iter body [] pos) (tFor wi g tb):=by
 intro pins s σ H D I h;refine wpAny_For (thn (hi pins s σ H _ I h) λv s1 h1=>thn h1 λitv s2 h2=>?_) hs;obtain⟨it,fp,tn,J,H2,e,I2,T,st2,f2,W,⟨m0,w0⟩,turn⟩:=h2;subst e
 -- what stays true of the iterator's objects through the loop
 have stat:∀{H':Hp},(∀b∈fp,H' b=none)->∀b∈fp,FpOk X pins H' b:=λhn b hb=>⟨hn b hb,(f2 b hb).2⟩;refine codeAny_forLoop_any (λn s'=>∃i σ' H',Inv X pins σ' H' s'/\tn i s'.heap/\(∀b∈fp,H' b=none)/\W i n σ' H') ?_ m0 ⟨0,σ,H2,I2,st2,λb hb=>(f2 b hb).1,w0⟩;rintro n s3 ⟨i,σ3,H3,I3,st3,fr3,w3⟩;rcases turn i n σ3 H3 w3 with ⟨stop,qn⟩|⟨go,N,hN,step⟩
 .refine Tl hp (thn (T.done X rfl rfl rfl hc i pins s3 σ3 H3 X.xe I3 (stat fr3) st3 stop) λr s4 zz=>?_);obtain⟨hr,I4⟩:=zz;subst hr;exact Mn ⟨σ3,H3,I4,qn⟩
 .refine Tl hp (thn (T.item X rfl rfl rfl hc i pins s3 σ3 H3 X.xe I3 (stat fr3) st3 go) λr s4 zz=>?_);obtain⟨u,hr,h4⟩:=zz;subst hr;refine Tl hp (thn h4 λ_ s5 zz=>?_);obtain⟨x,H5,I5,r5,y5,st5,fr5⟩:=zz;have I5':=I5.pinned (stat fr5) (T.obj _ _ st5);refine Tl hp (thn (hg _ s5 σ3 H5 x u _ I5' r5 (step x H5 y5)) λ_ s6 zz=>?_);obtain⟨σ6,H6,I6,q6⟩:=zz;refine Tl hp (thn (hb _ s6 σ6 H6 _ I6 q6) λf s7 q7=>?_)
  have again:∀{σ7:St} {H7:Hp},Inv X (pins++zgj fp s5.heap) σ7 H7 s7->N σ7 H7->∃m,m<n/\∃i σ' H',Inv X pins σ' H' s7/\tn i s7.heap/\(∀b∈fp,H' b=none)/\W i m σ' H':=λ{σ7 H7} I7 n7=>by
   obtain⟨m',hm,w7⟩:=hN σ7 H7 n7;refine⟨m',hm,i+1,σ7,H7,I7.unpinned,T.keep _ _ _ st5 λb hb o e=>(I7.pin (b,o) (QF _ (QF _ (zdo hb e)))).1,λb hb=>?_,w7⟩;obtain⟨o,e,d⟩:=T.obj _ _ st5 b hb;exact(I7.pin (b,o) (QF _ (QF _ (zdo hb e)))).2.1
  cases f with
  | next=>obtain⟨σ7,H7,I7,n7⟩:=q7;exact again I7 n7
  | cont=>obtain⟨σ7,H7,I7,n7⟩:=q7;exact again I7 n7
  | brk=>obtain⟨σ7,H7,I7,q7⟩:=q7;exact⟨σ7,H7,I7.unpinned,q7⟩
  | ret v=>obtain⟨x7,σ7,H7,I7,r7,q7⟩:=q7;exact⟨x7,σ7,H7,I7.unpinned,r7,q7⟩
end
theorem zvd{K:Qa}{a:Addr}{xs:List V}{g:TG}{tb:TS}{D:Ends}{σ:St}{H:Hp}(Pv:Nat->St->Hp->Prop)(h0:Pv 0 σ H)(hl:∀i σ H,i<=xs.length->Pv i σ H->SqL K H a xs)
 (hs:∀i x σ H,xs[i]? = some x->Pv i σ H->g x σ H λσ2 H2=>tb { D with nx:=Pv (i+1),ct:=Pv (i+1),bk:=D.nx } σ2 H2) (hd:∀σ H,Pv xs.length σ H->D.nx σ H) :
 ∃W:Nat->Nat->St->Hp->Prop,(∃m,W 0 m σ H)/\∀i m σ H,W i m σ H ->
   ((Itl K a).stop i H/\D.nx σ H)\/((Itl K a).go i H/\∃N:St->Hp->Prop,(∀σ' H',N σ' H'->∃m',m'<m/\W (i+1) m' σ' H')/\∀x H',(Itl K a).yld i H x H'->g x σ H' λσ2 H2=>tb { D with nx:=N,ct:=N,bk:=D.nx } σ2 H2):=by
 refine⟨λi m σ H=>m=xs.length-i/\i<=xs.length/\Pv i σ H,⟨xs.length,by simp,QI _,h0⟩,?_⟩;rintro i m σ H ⟨rfl,hi,p⟩;have q:=hl i σ H hi p
 by_cases hlt:i<xs.length
 .refine .inr ⟨⟨xs,xs[i],q,by simp[hlt]⟩,Pv (i+1),λσ' H' p'=>⟨xs.length-(i+1),by lia,rfl,hlt,p'⟩,λx H' y=>?_⟩;obtain⟨e,y⟩:=y;subst e;exact hs i x σ _ (y xs q) p
 .have e:i=xs.length:=by lia
  subst e;exact .inl ⟨⟨xs,q,Qg _⟩,hd σ H p⟩
abbrev R2:=V->V->Hp->VK->Prop
def OpR(X:Cx)(f:G5->G5->Sem G5)(r:R2):Prop :=
 ∀(pins:List (Addr×Obj)) (s:G8) (σ:St) (H:Hp) (x y:V) (v u:G5) (Q:VK),Inv X pins σ H s->RelV x v->RelV y u->r x y H Q ->
   wpAny (model X.prog X.w) X.A (f v u) (EP X pins σ Q) X.xe s
def zcg(X:Cx)(f:G5)(r:List V->Hp->VK->Prop):Prop :=
 ∀(pins:List (Addr×Obj)) (s:G8) (σ:St) (H:Hp) (xs:List V) (us:List G5) (Q:VK),Inv X pins σ H s->Vals xs us->r xs H Q ->
   wpAny (model X.prog X.w) X.A (call f us) (EP X pins σ Q) X.xe s
def TruR(X:Cx)(r:V->Hp->(Bool->Hp->Prop)->Prop):Prop :=
 ∀(pins:List (Addr×Obj)) (s:G8) (σ:St) (H:Hp) (x:V) (v:G5) (Q:Bool->Hp->Prop),Inv X pins σ H s->RelV x v->r x H Q ->
   wpAny (model X.prog X.w) X.A (truthy v) (TP X pins σ Q) X.xe s
def tOp(r:R2)(ta tb:TE):TE:=λσ H Q=>ta σ H λx H1=>tb σ H1 λy H2=>r x y H2 Q
def rI(C:Int->Int->Prop)(g:Int->Int->V):R2:=λx y H Q=>∃i j,x = .int i/\y = .int j/\C i j/\Q (g i j) H
def rI0(g:Int->Int->V):R2:=λx y H Q=>∃i j,x = .int i/\y = .int j/\Q (g i j) H
section
variable {X:Cx}{a b c:Expr}{ta tb tc:TE}{pos:Pos}
theorem binT(ha:PE X a ta)(hb:PE X b tb){pins:List (Addr×Obj)}{s:G8}{σ:St}{H:Hp}{R:V->V->Hp->Prop}(I:Inv X pins σ H s)
 (h:ta σ H λx H1=>tb σ H1 λy H2=>R x y H2) {Q:G5->G8->Prop} {f:G5->G5->Sem G5}
 (hf:∀v u s2 x y H2,Inv X pins σ H2 s2->RelV x v->RelV y u->R x y H2->wpAny (model X.prog X.w) X.A (f v u) Q X.xe s2) :
 wpAny (model X.prog X.w) X.A (eval a X.env) (λv s₁=>wpAny (model X.prog X.w) X.A (eval b X.env) (λu s₂=>wpAny (model X.prog X.w) X.A (f v u) Q X.xe s₂) X.xe s₁) X.xe s:=by
 refine thn (ha pins s σ H _ I h) λv s1 zz=>?_;obtain⟨x,H1,I1,r1,q1⟩:=zz;refine thn (hb pins s1 σ H1 _ I1 q1) λu s2 zz=>?_;obtain⟨y,H2,I2,r2,q2⟩:=zz;exact hf v u s2 x y H2 I2 r1 r2 q2
theorem za4(ho:OpR X (Tw op) r)(ha:PE X a ta)(hb:PE X b tb):PE X (.BinOp a op b pos) (tOp r ta tb):=by
 intro pins s σ H Q I h;exact wpAny_BinOp (binT ha hb I h λv u s2 x y H2 I2 rx ry q=>ho pins s2 σ H2 x y v u Q I2 rx ry q)
theorem opI{f:G5->G5->Sem G5}{C:Int->Int->Prop}{g:Int->Int->Int}
 (rule:∀(i j:Int) (t u:Tok) (s:G8) (Q:G5->G8->Prop) (E:G5->G8->Prop),C i j->Q (.int (g i j) s.toks) { s with toks:=s.toks+1 }->wpAny (model X.prog X.w) X.A (f (.int i t) (.int j u)) Q E s) :
 OpR X f (rI C λi j=>.int (g i j)):=by
 intro pins s σ H x y v u Q I rx ry h;obtain⟨i,j,rfl,rfl,hc,q⟩:=h;obtain⟨t,rfl⟩:=rx;obtain⟨t',rfl⟩:=ry;exact rule i j t t' s _ _ hc ⟨.int (g i j),H,I.tok _,⟨_,rfl⟩,q⟩
theorem opI0{f:G5->G5->Sem G5}{g:Int->Int->Int}
 (rule:∀(i j:Int) (t u:Tok) (s:G8) (Q:G5->G8->Prop) (E:G5->G8->Prop),Q (.int (g i j) s.toks) { s with toks:=s.toks+1 }->wpAny (model X.prog X.w) X.A (f (.int i t) (.int j u)) Q E s) :
 OpR X f (rI0 λi j=>.int (g i j)):=by
 intro pins s σ H x y v u Q I rx ry h;obtain⟨i,j,rfl,rfl,q⟩:=h;obtain⟨t,rfl⟩:=rx;obtain⟨t',rfl⟩:=ry;exact rule i j t t' s _ _ ⟨.int (g i j),H,I.tok _,⟨_,rfl⟩,q⟩
theorem opB0{f:G5->G5->Sem G5}{g:Int->Int->Bool}
 (rule:∀(i j:Int) (t u:Tok) (s:G8) (Q:G5->G8->Prop) (E:G5->G8->Prop),Q (.bool (g i j)) s->wpAny (model X.prog X.w) X.A (f (.int i t) (.int j u)) Q E s) :
 OpR X f (rI0 λi j=>.bl (g i j)):=by
 intro pins s σ H x y v u Q I rx ry h;obtain⟨i,j,rfl,rfl,q⟩:=h;obtain⟨t,rfl⟩:=rx;obtain⟨t',rfl⟩:=ry;exact rule i j t t' s _ _ ⟨.bl (g i j),H,I,rfl,q⟩
def CDiv(i j:Int):Prop:=0<j/\j<1073741824
def CPow(i j:Int):Prop:=0<=j/\j<=1000000/\i.natAbs<2 ^ 64
def CMul(i j:Int):Prop:=(-(2 ^ 64)<i/\i<2 ^ 64)\/(-(2 ^ 64)<j/\j<2 ^ 64)
theorem CMul.ok{i j:Int}(h:CMul i j):IntMulOk i j:=by
 rcases h with ⟨h1,h2⟩|⟨h1,h2⟩
 .exact .of_left (intBits_le_64 h1 h2)
 .exact .of_right (intBits_le_64 h1 h2)
theorem op_add:OpR X (Tw .Add) (rI0 λi j=>.int (i+j)):=opI0 λ_ _ _ _ _ _ _ q=>add_int q
theorem z2r:OpR X (Tw .Sub) (rI0 λi j=>.int (i-j)):=opI0 λ_ _ _ _ _ _ _ q=>sub_int q
theorem ze5:OpR X (Tw .Mult) (rI CMul λi j=>.int (i * j)):=opI λ_ _ _ _ _ _ _ hc q=>mul_int q hc.ok
theorem zzs:OpR X (Tw .FloorDiv) (rI CDiv λi j=>.int (i / j)):=opI λi j _ _ _ _ _ hc q=>by
 have h1:(0:Int)<j:=hc.1;have h2:j<1073741824:=hc.2;exact floordiv_int (by lia) (by rw[Int.fdiv_eq_ediv_of_nonneg i (by lia)];exact q) (.inl (PyProof.noPylong_small (by lia)))
theorem zdb:OpR X (Tw .Mod) (rI (λ_ j=>0<j) λi j=>.int (i % j)):=opI λi j _ _ _ _ _ hc q=>by
 have h1:(0:Int)<j:=hc;exact mod_int' (by lia) (by rw[Int.fmod_eq_emod_of_nonneg i (by lia)];exact q)
theorem z2m:OpR X (Tw .Pow) (rI CPow λi j=>.int (i ^ j.toNat)):=opI λ_ _ _ _ _ _ _ hc q=>pow_int_small hc.1 hc.2.1 hc.2.2 q
end
def scal:V->V->Bool
 | .non,.non=>true | .non,.int _=>true | .int _,.non=>true | .non,.bl _=>true | .bl _,.non=>true | .non,.str _=>true | .str _,.non=>true
 | .int _,.int _=>true | .bl _,.bl _=>true | .str _,.str _=>true | .byt _,.byt _=>true
 | .int _,.str _=>true | .str _,.int _=>true | .bl _,.str _=>true | .str _,.bl _=>true
 | _,_=>false
def rEq:R2:=λx y H Q=>scal x y=true/\Q (.bl (decide (x=y))) H
theorem zyz{i j:Int}:decide (V.int i=V.int j)=(i == j):=by
 rw[JO];simp
theorem z3b{i j:Bool}:decide (V.bl i=V.bl j)=(i == j):=by
 rw[JO];simp
theorem z0c: decide (V.str i=V.str j)=(i == j):=by
 rw[JO];simp
theorem zyv: decide (V.byt i=V.byt j)=(i.toList == j.toList):=by
 rw[JO];cases i;cases j;simp
section
variable {X:Cx}{a b c:Expr}{ta tb tc:TE}{pos:Pos}
theorem zbg{pins:List (Addr×Obj)}{k k':Bool}(I:Inv X pins σ H s)(q:Q (.bl k) H)(e:k=k'):EP X pins σ Q (.bool k') s:=by
 subst e;exact⟨.bl k,H,I,rfl,q⟩
theorem z5a:OpR X (GP .Eq) rEq:=by
 intro pins s σ H x y v u Q I rx ry h;obtain⟨hs,q⟩:=h
 cases x with
 | non=>
   cases rx
   cases y with
   | non=>cases ry;exact PySem.EqNone.eq_none_none (zbg I q (by simp))
   | bl j=>cases ry;exact PySem.EqNone.eq_none_bool (zbg I q (by simp))
   | int j=>obtain⟨t',rfl⟩:=ry;exact PySem.EqNone.eq_none_int (zbg I q (by simp))
   | str j=>obtain⟨t',rfl⟩:=ry;exact PySem.EqNone.eq_none_str (zbg I q (by simp))
   | _=>exact absurd (show false=true from hs) Q6
 | bl i=>
   cases rx
   cases y with
   | non=>cases ry;exact PySem.EqNone.eq_bool_none (zbg I q (by simp))
   | bl j=>cases ry;exact eq_bool (zbg I q z3b)
   | str j=>obtain⟨t',rfl⟩:=ry;exact PySem.EqMixed.eq_bool_str (zbg I q (by simp))
   | _=>exact absurd (show false=true from hs) Q6
 | int i=>
   obtain⟨t,rfl⟩:=rx
   cases y with
   | non=>cases ry;exact PySem.EqNone.eq_int_none (zbg I q (by simp))
   | int j=>obtain⟨t',rfl⟩:=ry;exact eq_int (zbg I q zyz)
   | str j=>obtain⟨t',rfl⟩:=ry;exact PySem.EqMixed.eq_int_str (zbg I q (by simp))
   | _=>exact absurd (show false=true from hs) Q6
 | str i=>
   obtain⟨t,rfl⟩:=rx
   cases y with
   | non=>cases ry;exact PySem.EqNone.eq_str_none (zbg I q (by simp))
   | bl j=>cases ry;exact PySem.EqMixed.eq_str_bool (zbg I q (by simp))
   | int j=>obtain⟨t',rfl⟩:=ry;exact PySem.EqMixed.eq_str_int (zbg I q (by simp))
   | str j=>obtain⟨t',rfl⟩:=ry;exact eq_str (zbg I q z0c)
   | _=>exact absurd (show false=true from hs) Q6
 | byt i=>
   obtain⟨t,rfl⟩:=rx
   cases y with
   | byt j=>obtain⟨t',rfl⟩:=ry;exact PySem.W.eq_bytes (zbg I q zyv)
   | _=>exact absurd (show false=true from hs) Q6
 | _=>cases y <;> exact absurd (show false=true from hs) Q6
theorem z4i:OpR X (GP .Lt) (rI0 λi j=>.bl (decide (i<j))):=opB0 λ_ _ _ _ _ _ _ q=>lt_int q
theorem z5p:OpR X (GP .LtE) (rI0 λi j=>.bl (decide (i<=j))):=opB0 λ_ _ _ _ _ _ _ q=>le_int q
theorem zxa:OpR X (GP .Gt) (rI0 λi j=>.bl (decide (j<i))):=opB0 λ_ _ _ _ _ _ _ q=>gt_int q
theorem z4o:OpR X (GP .GtE) (rI0 λi j=>.bl (decide (j<=i))):=opB0 λ_ _ _ _ _ _ _ q=>ge_int q
theorem op_in_str:OpR X (GP .In) (λx y H Q=>∃i j,x = .str i/\y = .str j/\Q (.bl (!(Zy j i 0 j.length 1).isEmpty)) H):=by
 intro pins s σ H x y v u Q I rx ry h;obtain⟨i,j,rfl,rfl,q⟩:=h;obtain⟨t,rfl⟩:=rx;obtain⟨t',rfl⟩:=ry;exact in_str (zbg I q rfl)
theorem op_notin_str:OpR X (GP .NotIn) (λx y H Q=>∃i j,x = .str i/\y = .str j/\Q (.bl (!(!(Zy j i 0 j.length 1).isEmpty))) H):=by
 intro pins s σ H x y v u Q I rx ry h;obtain⟨i,j,rfl,rfl,q⟩:=h;obtain⟨t,rfl⟩:=rx;obtain⟨t',rfl⟩:=ry;exact notIn_str (zbg I q rfl)
theorem OpR.or(h:OpR X f r)(h':OpR X f r'):OpR X f (λx y H Q=>r x y H Q\/r' x y H Q):=by
 intro pins s σ H x y v u Q I rx ry q;rcases q with q|q
 .exact h pins s σ H x y v u Q I rx ry q
 .exact h' pins s σ H x y v u Q I rx ry q
theorem zdc(b:Expr)(h:op≠.In:=by decide)(h2:op≠.NotIn:=by decide):Tq op b=false:=by
 have e1:(op == CmpOp.In)=false:=by cases op <;> first|rfl|exact absurd rfl h
 have e2:(op == CmpOp.NotIn)=false:=by cases op <;> first|rfl|exact absurd rfl h2
 cases b <;> simp[Tq,e1,e2]
theorem zz7(ho:OpR X (GP op) r)(ha:PE X a ta)(hb:PE X b tb)(hm:Tq op b=false):PE X (.Compare a [op] [b] pos) (tOp r ta tb):=by
 intro pins s σ H Q I h;exact wpAny_Compare1 (binT ha hb I h λv u s2 x y H2 I2 rx ry q=>ho pins s2 σ H2 x y v u Q I2 rx ry q) hm
def zfw(t:TE):TT:=λσ H Q=>t σ H λx H'=>∃k,x = .bl k/\Q k H'
theorem ze7(ho:OpR X (GP op) r)(ha:PE X a ta)(hb:PE X b tb)(hm:Tq op b=false):PT X (.Compare a [op] [b] pos) (zfw (tOp r ta tb)):=by
 intro pins s σ H Q I h
 refine wpAny_isTrue_Compare1 (thn (ha pins s σ H _ I h) λv s1 ⟨x,H1,I1,r1,q1⟩=>thn (hb pins s1 σ H1 _ I1 q1) λu s2 ⟨y,H2,I2,r2,q2⟩=>
  thn (ho pins s2 σ H2 x y v u _ I2 r1 r2 q2) λc s3 ⟨z,H3,I3,r3,k,e,q3⟩=>?_) hm
 subst e;cases r3;exact TL ⟨H3,I3,q3⟩
def TruV(K:Qa)(x:V)(H:Hp)(k:Bool):Prop :=
 match x with
 | .non=>k=false
 | .bl b=>k=b
 | .int i=>k=(i != 0)
 | .str y=>y.length<=sizeLine/\k=((y.length:Int) != 0)
 | .byt y=>y.size<=sizeLine/\k=((y.size:Int) != 0)
 | .ref p=>(∃xs,SqL K H p xs/\k = !xs.isEmpty)\/(∃xs,SqT K H p xs/\k = !xs.isEmpty)\/∃kvs,H p=some (.dK kvs)/\k = !kvs.isEmpty
 | _=>False
theorem zp4{κ:Type}{kvs:List (κ×V)}{vs:List (κ×G5)}(r:KV kvs vs):(!vs.isEmpty) = !kvs.isEmpty:=by
 cases r <;> rfl
theorem ziz(r:Vals xs its):(!its.toArray.isEmpty) = !xs.isEmpty:=by
 cases r <;> simp
theorem zga:(sizeLine:Nat)<2 ^ 63:=by rw[GE];decide
theorem z3z:TruR X (λx H Q=>∃k,TruV X.K x H k/\Q k H):=by
 intro pins s σ H x v Q I rx h;obtain⟨k,e,q⟩:=h;have hl:=zga;have hs:sizeLine=16777216:=GE
 cases x with
 | non=>
   cases rx;have e':k=false:=e;subst e';exact truthy_none ⟨H,I,q⟩
 | bl b=>
   cases rx;have e':k=b:=e;subst e';exact TL ⟨H,I,q⟩
 | int i=>
   obtain⟨t,rfl⟩:=rx;have e':k=(i != 0):=e;subst e';exact PySem.P.truthy_int ⟨H,I,q⟩
 | str y=>
   obtain⟨t,rfl⟩:=rx;obtain⟨hy,e'⟩:y.length<=sizeLine/\k=((y.length:Int) != 0):=e;subst e';exact PySem.P.truthy_str (by lia) ⟨H,I.tok _,q⟩
 | byt y=>
   obtain⟨t,rfl⟩:=rx;obtain⟨hy,e'⟩:y.size<=sizeLine/\k=((y.size:Int) != 0):=e;subst e';exact PySem.W.truthy_bytes (by lia) ⟨H,I.tok _,q⟩
 | ref p=>
   cases rx;have e':(∃xs,SqL X.K H p xs/\k = !xs.isEmpty)\/(∃xs,SqT X.K H p xs/\k = !xs.isEmpty)\/∃kvs,H p=some (.dK kvs)/\k = !kvs.isEmpty:=e;rcases e' with ⟨xs,hx,e'⟩|⟨xs,hx,e'⟩|⟨kvs,hx,e'⟩
   .subst e';obtain⟨its,r,pl,hz⟩:=I.list hx;have hlen:=r.length;exact wpAny_truthy_list pl.isList (by simp only[Q5];lia) ⟨H,I.tok _,by rw[ziz r];exact q⟩
   .subst e';obtain⟨its,r,pl,hz⟩:=I.tuple hx;have hlen:=r.length;exact truthy_tuple pl (by simp only[Q5];lia) ⟨H,I.tok _,by rw[ziz r];exact q⟩
   .subst e';obtain⟨hz,hS,vs,r,m⟩:kvs.length<=sizeLine/\(p == TB)=false/\∃vs,KV kvs vs/\s.heap.DictOf (za8 X.prog X.w) p vs:=I.hok p _ hx;have hlen:kvs.length=vs.length:=Vo r;exact wpAny_truthy_dict hS m (by lia) ⟨H,I.tok _,by rw[zp4 r];exact q⟩
 | _=>exact(show False from e).elim
theorem zwh(ha:PE X a ta)(he:∀whole,isTrue a X.env whole=(do let v <- whole;standAt a.pos;holding [v] (truthy v))):
 PT X a (λσ H Q=>ta σ H λx H'=>∃k,TruV X.K x H' k/\Q k H'):=by
 intro pins s σ H Q I h;exact isTrue_plain (thn (ha pins s σ H _ I h) λv s1 ⟨x,H1,I1,r1,q1⟩=>z3z pins s1 σ H1 x v Q I1 r1 q1) (he _)
theorem op_add_str:OpR X (Tw .Add) (λx y H Q=>∃i j,x = .str i/\y = .str j/\i.length+j.length<=sizeLine/\Q (.str (i++j)) H):=by
 intro pins s σ H x y v u Q I rx ry h;obtain⟨i,j,rfl,rfl,hz,q⟩:=h;obtain⟨t,rfl⟩:=rx;obtain⟨t',rfl⟩:=ry;exact add_str (λt' tk=>⟨.str (i++j),H,I.tok _,⟨_,rfl⟩,q⟩) hz
theorem zxj(r:Vals [x] us):∃u,us = [u]/\RelV x u:=by
 cases r with
 | cons r1 r2=>cases r2;exact⟨_,rfl,r1⟩
theorem z5z(r:Vals [x,y] us):∃u w',us = [u,w']/\RelV x u/\RelV y w':=by
 cases r with
 | cons r1 r2=>
   cases r2 with
   | cons r3 r4=>cases r4;exact⟨_,_,rfl,r1,r3⟩
theorem zr6(hc:X.calm=true):zcg X (.builtin "max") (λxs H Q=>∃i j,xs = [.int i,.int j]/\Q (.int (if j > i then j else i)) H):=by
 intro pins s σ H xs us Q I r h;obtain⟨i,j,rfl,q⟩:=h;obtain⟨u,w',rfl,⟨t,rfl⟩,⟨t',rfl⟩⟩:=z5z r;refine max_two_ints (I.ok.hd hc) λh' tk k=>⟨_,H,I.kept k,?_,q⟩
 by_cases hj:j > i
 .rw[ND hj,ND hj];exact⟨_,rfl⟩
 .rw[NE hj,NE hj];exact⟨_,rfl⟩
def LenV(K:Qa)(x:V)(H:Hp)(n:Nat):Prop :=
 match x with
 | .str y=>y.length<=sizeLine/\n=y.length
 | .byt y=>y.size<=sizeLine/\n=y.size
 | .ref p=>(∃xs,SqL K H p xs/\n=xs.length)\/∃xs,SqT K H p xs/\n=xs.length
 | _=>False
theorem zhq:zcg X (.builtin "len") (λxs H Q=>∃x n,xs = [x]/\LenV X.K x H n/\Q (.int n) H):=by
 intro pins s σ H xs us Q I r h;obtain⟨x,n,rfl,e,q⟩:=h;obtain⟨u,rfl,rx⟩:=zxj r;have hl:=zga;have hs:sizeLine=16777216:=GE
 cases x with
 | str y=>
   obtain⟨t,rfl⟩:=rx;obtain⟨hy,e'⟩:y.length<=sizeLine/\n=y.length:=e;subst e';exact len_str (by lia) ⟨.int _,H,I.tok _,⟨_,rfl⟩,q⟩
 | byt y=>
   obtain⟨t,rfl⟩:=rx;obtain⟨hy,e'⟩:y.size<=sizeLine/\n=y.size:=e;subst e';exact PySem.W.len_bytes (by lia) ⟨.int _,H,I.tok _,⟨_,rfl⟩,q⟩
 | ref p=>
   cases rx;have e':(∃xs,SqL X.K H p xs/\n=xs.length)\/∃xs,SqT X.K H p xs/\n=xs.length:=e;rcases e' with ⟨xs,hx,e'⟩|⟨xs,hx,e'⟩
   .subst e';obtain⟨its,r',pl,hz⟩:=I.list hx;have hlen:=r'.length;exact Calls.call_len_list pl.isList (by simp only[Q5];lia) ⟨.int xs.length,H,I.tok _,⟨_,by simp only[Q5];rw[hlen]⟩,q⟩
   .subst e';obtain⟨its,r',pl,hz⟩:=I.tuple hx;have hlen:=r'.length;exact len_tuple pl (by simp only[Q5];lia) ⟨.int xs.length,H,I.tok _,⟨_,by simp only[Q5];rw[hlen]⟩,q⟩
 | _=>exact(show False from e).elim
end
structure ObjM(h:Heap)(x dx C:Addr)(mA:Str->Option G5):Prop where
 obj:h.get? x=some (VC C dx)
 ns:h.Ns1 dx mA
 ne:dx≠x
theorem zr2{h:Heap}{dx:Addr}{mA:Str->Option G5}(n:h.Ns1 dx mA):∃od,h.get? dx=some od/\∀name,VS name od=some (mA name):=by
 obtain⟨o,es,ep,ho,hd,hk,_,hm⟩:=n;refine⟨o,ho,λname=>?_⟩;have e:=hm name;unfold nsFind findBy at e;rw[<- Array.find?_toList] at e;unfold VS;rw[hd];dsimp only
 split
 .rename_i y q
  rw[q] at e;exact NK some e
 .rename_i q
  rw[q] at e
  have a:es.toList.any (·.refKey)=false:=by
   rw[List.any_eq_false];intro y hy;obtain⟨z,t,hkey⟩:=hk y (Array.mem_toList_iff.mp hy);simp[DictEntry.refKey,hkey]
  have a':¬es.toList.any (·.refKey)=true:=by rw[a];exact Q6
  rw[NE a'];exact NK some e
theorem ObjM.look(I:ObjM h x dx C mA):∃od,PySem.W.InstAt h x (VC C dx) C (some od)/\∀name,VS name od=some (mA name) :=
 let ⟨od,ho,hl⟩:=zr2 I.ns
 ⟨od,⟨I.obj,rfl,rfl,ho⟩,hl⟩
theorem RelO.some_of(r:RelO (some v) o):∃u,o=some u/\RelV v u:=by
 cases o with
 | none=>exact(show False from r).elim
 | some u=>exact⟨u,rfl,r⟩
section
variable {P:GB}{w:GD}{H H':Hp}{h h':Heap}{a C dx:Addr}{fs fs':List (Str×V)}
theorem zzk(hok:HOk P w H h)(e:H a=some (.ins C dx fs)):∃mA,ObjM h a dx C mA/\(∀f,RelO (fs.lookup f) (mA f))/\Gy mA (fs.map (·.1))/\fs.length<=1000/\H dx=some (.own a):=by
 obtain⟨d,z,ne,ob,mA,n,r,q⟩:=(show ObjOk P w H h a (.ins C dx fs) from hok a _ e);exact⟨mA,⟨ob,n,ne⟩,r,q,z,d⟩
end
structure Cls(K:Qa)(C:Addr):Prop where
 pg:UL K C ZJ=true
 hd:PySem.W.hasDictIn K C=true
 po:PySem.W.plainOver K C=true
 sa:Gf K (.ref C) "__setattr__" = some (some (.builtin "object.__setattr__"))
theorem Cls.get{K:Qa}{C:Addr}(c:Cls K C)(f:Str):UL K C f=true:=c.pg
section
variable {X:Cx}{pins:List (Addr×Obj)}{σ:St}{H:Hp}{s:G8}{A:GF}{E:G5->G8->Prop}{Q:G5->G8->Prop}{c:G5}{b:Bool}
inductive TyOf(K:Qa)(H:Hp):V->G5->Prop where
 | non:TyOf K H .non (.type "NoneType")
 | bl (x:Bool):TyOf K H (.bl x) (.type "bool")
 | int (i:Int):TyOf K H (.int i) (.type "int")
 | str (x:Str):TyOf K H (.str x) (.type "str")
 | flt (x:UInt64):TyOf K H (.flt x) (.type "float")
 | lst {a:Addr} {xs:List V} (e:H a=some (.lst xs)):TyOf K H (.ref a) (.type "list")
 | frz {a:Addr} {o:Obj} {xs:List V} (e:H a=some (.frz o (.lst xs))):TyOf K H (.ref a) (.type "list")
 | tup {a:Addr} {xs:List V} (e:H a=some (.tup xs)):TyOf K H (.ref a) (.type "tuple")
 | dK {a:Addr} {kvs:List (Key×V)} (e:H a=some (.dK kvs)):TyOf K H (.ref a) (.type "dict")
 | dT {a:Addr} {kvs:List (List Key×V)} (e:H a=some (.dT kvs)):TyOf K H (.ref a) (.type "dict")
 | ins {a C dx:Addr} {fs:List (Str×V)} (e:H a=some (.ins C dx fs)) (cl:Cls K C) (ha:Gf K (.ref C) "__class__" = some (some (.builtin "object.__class__")))
  (hn:PySem.W.specialIn K (.builtin "object.__class__") "__get__" = some (some (.builtin "getset_descriptor.__get__"))) (htk:PySem.W.takesIn K (.builtin "object.__class__")=some true)
  (hm:PySem.W.mroIn K C (.type "object")=some true):TyOf K H (.ref a) (.ref C)
theorem zda(I:Inv X pins σ H s)(rx:RelV x u)(ty:TyOf X.K H x t)(e:Gg X.K t c=some b)(h:∀tk,Q (.bool b) { s with toks:=tk }):
 wpAny (model X.prog X.w) A (call (.builtin "isinstance") [u,c]) Q E s:=by
 cases ty with
 | non=>cases (show u=Y7 from rx);exact Z5 PySem.W.kitx_none I.kIn Jw e (λz=>nomatch z) h
 | bl y=>cases (show u=JA y from rx);exact Z5 PySem.W.kitx_bool I.kIn Jw e (λz=>nomatch z) h
 | int i=>obtain⟨t,q⟩:=(show ∃t,u=Jb i t from rx);cases q;exact Z5 PySem.W.kitx_int I.kIn Jw e (λz=>nomatch z) h
 | str y=>obtain⟨t,q⟩:=(show ∃t,u=Vx y t from rx);cases q;exact Z5 PySem.W.kitx_str I.kIn Jw e (λz=>nomatch z) h
 | flt y=>obtain⟨t,q⟩:=(show ∃t,u=Value.float y t from rx);cases q;exact Z5 PySem.W.kitx_float I.kIn Jw e (λz=>nomatch z) h
 | @lst a xs ea=>
   cases (show u=ZH a from rx);obtain⟨_,_,n,_,h1⟩:=(show ObjOk X.prog X.w H s.heap a (.lst xs) from I.hok a _ ea);exact Z5 U4 I.kIn ⟨_,h1,rfl⟩ e (λz=>nomatch z) h
 | @frz a ob xs ea=>
   cases (show u=ZH a from rx);obtain⟨_,_,_,n,_,h1⟩:=(show ObjOk X.prog X.w H s.heap a (.frz ob (.lst xs)) from I.hok a _ ea);exact Z5 U4 I.kIn ⟨_,h1,rfl⟩ e (λz=>nomatch z) h
 | @tup a xs ea=>
   cases (show u=ZH a from rx);obtain⟨_,_,_,p⟩:=(show ObjOk X.prog X.w H s.heap a (.tup xs) from I.hok a _ ea);obtain⟨o,h1,h2,_⟩:=p;exact Z5 Uo I.kIn ⟨o,h1,h2⟩ e (λz=>nomatch z) h
 | @dK a kvs ea=>
   cases (show u=ZH a from rx);obtain⟨_,_,vs,_,p⟩:=(show ObjOk X.prog X.w H s.heap a (.dK kvs) from I.hok a _ ea);obtain⟨o,es,ep,h1,h2,_⟩:=p;exact Z5 U5 I.kIn ⟨o,h1,h2.1⟩ e (λz=>nomatch z) h
 | @dT a kvs ea=>
   cases (show u=ZH a from rx);obtain⟨_,_,xs,_,o,es,ep,h1,h2,_⟩:=(show ObjOk X.prog X.w H s.heap a (.dT kvs) from I.hok a _ ea);exact Z5 U5 I.kIn ⟨o,h1,h2.1⟩ e (λz=>nomatch z) h
 | @ins a C dx fs ea cl ha hn htk hm=>
   cases (show u=ZH a from rx);obtain⟨mA,O,_⟩:=zzk I.hok ea;obtain⟨od,J,_⟩:=O.look;exact Z5 (PySem.W.kitx_own (cl.get _) cl.hd ha hn htk hm) I.kIn J e (λz=>nomatch z) h
end
structure Room(k:Nat)(A:GF):Prop where
 hd:A.handled=none
 dp:A.depth+3 * k+5<recursionLimit
 un:A.units+16 * k+200<cLine
 gd:A.guards=some []
theorem Room.mono{j k:Nat}(r:Room k A)(h:j<=k):Room j A:=⟨r.hd,by have:=r.dp;lia,by have:=r.un;lia,r.gd⟩
theorem Room.deeper{k:Nat}(r:Room (k+1) A)(env:Env):Room k (A.deeper env) :=
 ⟨r.hd,by have:=r.dp;show A.depth+1+3 * k+5<_;lia,by have:=r.un;show A.units+3+16 * k+200<_;lia,r.gd⟩
theorem Room.depth{k:Nat}(r:Room k A):A.depth<recursionLimit:=by have:=r.dp;lia
theorem Room.units{k:Nat}(r:Room k A):A.units+64<cLine:=by have:=r.un;lia
def tNil:TA:=λ_ H Q=>Q [] H
def zao(ta:TE)(tr:TA):TA:=λσ H Q=>ta σ H λx H1=>tr σ H1 λxs H2=>Q (x::xs) H2
section
variable {X:Cx}{e:Expr}{es:List Expr}{te:TE}{t:TA}{pos:Pos}
theorem zbf:PA X [] tNil:=λ_ _ _ _ H Q I h=>ZM ⟨[],H,I,.nil,h⟩
theorem zaq(ha:PE X e te)(hr:PA X es t)(hs:GC (e::es) X.env=(false,eval e X.env)::GC es X.env:=by rfl):PA X (e::es) (zao te t):=by
 intro pos pins s σ H Q I h;rw[hs];show wpAny _ _ (Ms ((false,eval e X.env)::Tk pos (GC es X.env))) _ _ s;refine Z1 (thn (ha pins s σ H _ I h) λu s1 zz=>?_);obtain⟨x,H1,I1,r1,q1⟩:=zz;exact thn (hr pos pins s1 σ H1 _ I1 q1) λus s2 ⟨xs,H2,I2,r2,q2⟩=>⟨x::xs,H2,I2,.cons r1 r2,q2⟩
def tTup(t:TA):TE:=λσ H Q=>t σ H λxs H1=>xs.length<=sizeLine/\∀p,H1 p=none->Q (.ref p) (upd H1 p (.tup xs))
def tLst(t:TA):TE:=λσ H Q=>t σ H λxs H1=>xs.length<=sizeLine/\∀p,H1 p=none->Q (.ref p) (upd H1 p (.lst xs))
theorem z3v{x1}(h:PA X es t):PE X (.Tuple es x1 pos) (tTup t):=by
 intro pins s σ H Q I hq;refine wpAny_Tuple_spliced (thn (h pos pins s σ H _ I hq) λus s1 ⟨xs,H1,I1,r,z,q⟩=>⟨by rw[<- r.length];exact z,?_⟩);have hf:H1 s1.heap.objs.size=none:=I1.hok.fresh (Qg _);refine⟨.ref s1.heap.objs.size,upd H1 s1.heap.objs.size (.tup xs),I1.laid (t':=s1.toks) (λb u e=>Qc _ e) (Qg _) ?_,rfl,q _ hf⟩;exact⟨z,us,r,⟨_,Qo _ rfl,rfl,_,rfl⟩⟩
theorem zst(h:PA X es t):PE X (.List es pos) (tLst t):=by
 intro pins s σ H Q I hq;refine wpAny_List_spliced (thn (h pos pins s σ H _ I hq) λus s1 ⟨xs,H1,I1,r,z,q⟩=>⟨by rw[<- r.length];exact z,?_⟩);have hf:H1 s1.heap.objs.size=none:=I1.hok.fresh (Qg _);refine⟨.ref s1.heap.objs.size,upd H1 s1.heap.objs.size (.lst xs),I1.laid (t':=s1.toks) (λb u e=>Qc _ e) (Qg _) ?_,rfl,q _ hf⟩;exact⟨z,us,0,r,Qo _ rfl⟩
end
abbrev Sp:=List V->Hp->VK->XK->Prop
abbrev CXT:=List Env->Hp->G8->XK->G5->G8->Prop
structure Env0(P:GB)(w:GD)(K:Qa)(mg:Str->Option G5)(base:Heap)(A:GF)(outer:List Env)(s:G8)(H:Hp):Prop where
 frames:A.frames=some outer
 mod:Mod K mg base
 bs:∀b o,base.get? b=some o->s.heap.get? b=some o/\H b=none
 bsz:base.objs.size<=s.heap.objs.size
 funs:s.heap.FunFrames base outer
 frf:∀b∈frs outer,H b=none
 hok:HOk P w H s.heap
 bare:Mz s.gens
def CE(outer:List Env)(P:GB)(w:GD)(H:Hp)(s:G8)(Q:VK)(u:G5)(s':G8):Prop :=
 ∃v H',s'.os=s.os/\Mz s'.gens/\Un (frs outer) [] H H' s.heap s'.heap/\HOk P w H' s'.heap/\RelV v u/\Q v H'
def CR(CX:CXT)(outer:List Env)(P:GB)(w:GD)(H:Hp)(s:G8)(Q:VK)(E:XK)(r:Result)(s':G8):Prop :=
 match r with
 | .ok (.ret u)=>CE outer P w H s Q u s'
 | .ok _=>False
 | .error e=>CX outer H s E e s'
structure FnOk(P:GB)(w:GD)(K:Qa)(mg:Str->Option G5)(base:Heap)(CX:CXT)(k:Nat)(f:Addr)(fd:Tu)(ps:List Str)(sp:Sp):Prop where
 len:∀vs H Q E,sp vs H Q E->vs.length=ps.length
 run:∀(A:GF) (outer:List Env) (s:G8) (H:Hp) (args:Args) (us:List G5) (vs:List V) (Q:VK) (E:XK),Room k A->Env0 P w K mg base A outer s H->MX s fd args (ps.zip us)->Vals vs us->sp vs H Q E ->
  Mf (model P w) A (.call (.ref f) args) (CR CX outer P w H s Q E) s
theorem FnOk.mono{P:GB}{w:GD}{K:Qa}{mg:Str->Option G5}{base:Heap}{CX:CXT}{j k:Nat}{f:Addr}{fd:Tu}{ps:List Str}{sp:Sp}(F:FnOk P w K mg base CX j f fd ps sp)(h:j<=k):
 FnOk P w K mg base CX k f fd ps sp:=⟨F.len,λA outer s H args us vs Q E hr=>F.run A outer s H args us vs Q E (hr.mono h)⟩
section
variable {X:Cx}{pins:List (Addr×Obj)}{σ:St}{H:Hp}{s s':G8}
theorem Inv.env0(I:Inv X pins σ H s):Env0 X.prog X.w X.K X.mg X.base X.A X.stack s H :=
 ⟨I.ok.frames,I.ok.mod,I.bs,QN I.ok.bsz I.sz,I.stack,I.stkFree,I.hok,I.bare⟩
theorem Inv.after(I:Inv X pins σ H s)(h:CE X.stack X.prog X.w H s Q u s'):EP X pins σ Q u s':=by
 obtain⟨v,H',os,bare,un,hok,r,q⟩:=h;obtain⟨hh,g,d,t,os'⟩:=s';obtain rfl:os'=s.os:=os;exact⟨v,H',I.call (h':=hh) (g':=g) (d':=d) (t':=t) (ch:=[]) un hok bare (λb z=>absurd z (by simp)),r,q⟩
end
def zct(sp:Sp)(dvs:List V)(E:XK)(t:TA):TE:=λσ H Q=>t σ H λvs H1=>sp (vs++dvs) H1 Q E
def Binds(K:Qa)(fd:Tu)(ps:List Str)(ds:List G5):Prop :=
 ∀(s:G8) (us:List G5),K.In s.heap->(us++ds).length=ps.length->MX s fd ⟨us,[]⟩ (ps.zip (us++ds))
theorem Binds.all{K:Qa}{fd:Tu}{ps:List Str}(h:∀us:List G5,us.length=ps.length->Tn fd ⟨us,[]⟩=pure (ps.zip us)):Binds K fd ps []:=λs us _ hl=>by
 rw[QD] at hl ⊢;exact .of_eq (h us hl)
def zmc(CX:CXT)(X:Cx)(E:XK):Prop:=∀(pins:List (Addr×Obj)) (σ:St) (H:Hp) (s:G8) (e:G5) (s':G8),Inv X pins σ H s->CX X.stack H s E e s'->X.xe e s'
section
variable {X:Cx}{CX:CXT}{k:Nat}{f C:Addr}{fd:Tu}{ps:List Str}{sp:Sp}{dvs:List V}{ds:List G5}{E:XK}{x m:Str}{p pos apos:Pos}{e o:Expr}{es:List Expr}{ta:TE}{t:TA}
theorem z4g{pins:List (Addr×Obj)}(F:FnOk X.prog X.w X.K X.mg X.base CX k f fd ps sp)(hr:Room k X.A)(hb:Binds X.K fd ps ds)(hd:Vals dvs ds)(hx:zmc CX X E)
 (I:Inv X pins σ H s) (r:Vals vs us) (h:sp (vs++dvs) H Q E):wpAny (model X.prog X.w) X.A (call (.ref f) us) (EP X pins σ Q) X.xe s:=by
 have r2:Vals (vs++dvs) (us++ds):=r.append hd;have hl:(us++ds).length=ps.length:=by rw[<- r2.length];exact F.len _ _ _ _ h
 refine MK (To (F.run X.A X.stack s H ⟨us,[]⟩ (us++ds) (vs++dvs) Q E hr I.env0 (hb s us I.kIn hl) r2 h) λr s' hq=>?_)
 cases r with
 | error e=>exact hx pins σ H s e s' I hq
 | ok fl=>
   cases fl with
   | ret u=>exact I.after hq
   | next=>exact ZG hq
   | brk=>exact ZG hq
   | cont=>exact ZG hq
theorem zdw(F:FnOk X.prog X.w X.K X.mg X.base CX k f fd ps sp)(hr:Room k X.A)(hg:Gl X x)(hm:X.mg x=some (.ref f))(hk:Jn X.K (.ref f)=true)(hb:Binds X.K fd ps ds)(hd:Vals dvs ds)(hx:zmc CX X E)
 (ha:PA X (e::es) t) (hdb:(x == ("__debug__" : Str))=false:=by decide) (he:GC (e::es) X.env=(false,eval e X.env)::GC es X.env:=by rfl) (hpl:(Tk pos (GC es X.env)).any (·.1)=false:=by rfl) :
 PE X (.Call (.Name x p) (e::es) [] pos) (zct sp dvs E t):=by
 intro pins s σ H Q I h;refine GH (zpm I hg hm ?_ hdb);refine Uq (h₀:=X.base) I.ok.mod.kin hk (thn (ha pos pins s σ H _ I h) λus s1 ⟨vs,H1,I1,r,q⟩=>⟨I1.kIn,?_⟩) he hpl;exact z4g F hr hb hd hx I1 r q
end
structure FnScope(N P:List Str)(sc:GV):Prop where
 kind:sc.kind = .function
 co:sc.isCoroutine=false
 gen:sc.isGenerator=false
 nd:N.Nodup
 pre:N.take P.length=P
 par:∀x∈P,sc.names.lookup x=some .local\/sc.names.lookup x=some .cell
 nofree:∀y∈sc.names,y.2≠.free
theorem zkl{kindOf:Str->Option Tv}: ∀{binds:List (Str×G5)} {m:Str->Option G5},(∀v,(x,v) ∉ binds)->N6 kindOf binds m x=m x
 | [],_,_=>rfl
 | (n,v)::r,m,h=>by
   unfold N6;rw[zkl λw hw=>h w (Qe _ hw)]
   split
   .have:x≠n:=by rintro rfl;exact h v Qu
    simp[this]
   .rfl
theorem zko{kindOf:Str->Option Tv}: ∀{binds:List (Str×G5)} {m:Str->Option G5},(∀v,(x,v) ∉ binds)->N5 kindOf binds m x=m x
 | [],_,_=>rfl
 | (n,v)::r,m,h=>by
   unfold N5;rw[zko λw hw=>h w (Qe _ hw)]
   split
   .rfl
   .have:x≠n:=by rintro rfl;exact h v Qu
    simp[this]
theorem zkt{kindOf:Str->Option Tv}: ∀{P:List Str} {vs:List G5} {i:Nat} {m:Str->Option G5},P.Nodup->P[i]? = some x->vs[i]? = some v->kindOf x=some .local ->
 N6 kindOf (P.zip vs) m x=some v
 | [],_,_,_,_,h,_,_=>by simp at h
 | _::_,[],_,_,_,_,h,_=>by simp at h
 | p::P,w::vs,0,m,nd,h1,h2,hk=>by
   simp at h1 h2;subst h1;subst h2;show N6 kindOf ((p,w)::P.zip vs) m p=_;unfold N6;rw[zkl λv hv=>(QQ.mp nd).1 (YG hv).1,ND hk];simp
 | p::P,w::vs,i+1,m,nd,h1,h2,hk=>by
   show N6 kindOf ((p,w)::P.zip vs) m x=_;unfold N6;exact zkt (i:=i) (QQ.mp nd).2 (by simpa using h1) (by simpa using h2) hk
theorem zlf{kindOf:Str->Option Tv}: ∀{P:List Str} {vs:List G5} {i:Nat} {m:Str->Option G5},P.Nodup->P[i]? = some x->vs[i]? = some v->kindOf x≠some .local ->
 N5 kindOf (P.zip vs) m x=some v
 | [],_,_,_,_,h,_,_=>by simp at h
 | _::_,[],_,_,_,_,h,_=>by simp at h
 | p::P,w::vs,0,m,nd,h1,h2,hk=>by
   simp at h1 h2;subst h1;subst h2;show N5 kindOf ((p,w)::P.zip vs) m p=_;unfold N5;rw[zko λv hv=>(QQ.mp nd).1 (YG hv).1,NE hk];simp
 | p::P,w::vs,i+1,m,nd,h1,h2,hk=>by
   show N5 kindOf ((p,w)::P.zip vs) m x=_;unfold N5;exact zlf (i:=i) (QQ.mp nd).2 (by simpa using h1) (by simpa using h2) hk
def start(N:List Str)(vs:List V):St:=vs.map some++Qt (N.length-vs.length) none
def cxOf(CX:CXT)(P:GB)(w:GD)(K:Qa)(mg:Str->Option G5)(base:Heap)(N:List Str)(qual:Str)(scope:GV)(f:Addr)(cd:G5)(A:GF)(outer:List Env)(s:G8)(H:Hp)(E:XK):Cx where
 prog:=P
 w:=w
 K:=K
 mg:=mg
 base:=base
 A:=A.deeper (ME qual scope s.heap.objs.size f cd)
 N:=N
 s₀:=s
 H₀:=H
 env:=ME qual scope s.heap.objs.size f cd
 outer:=outer
 stack:=ME qual scope s.heap.objs.size f cd::outer
 ex:=[]
 calm:=true
 fn:=λ_=>true
 pn:=[]
 xe:=λe s'=>wpAny (model P w) (A.deeper (ME qual scope s.heap.objs.size f cd)) (leaving (ME qual scope s.heap.objs.size f cd) e) (λ_ s''=>CX outer H s E e s'') (λe' s''=>CX outer H s E e' s'') s'
theorem zh1{sc:GV}{n:Nat}{x:Str}(h:sc.names.lookup x=some .cell):∃c,(GT n sc.names []).lookup x=some c:=by
 have q:=JK sc.names n [] (.inl h);exact ZQ.mp q
theorem zrw{CX:CXT}{P:GB}{w:GD}{K:Qa}{mg:Str->Option G5}{base:Heap}{N ps:List Str}{qual:Str}{scope:GV}{f:Addr}{cd:G5}{A:GF}{outer:List Env}{s s1:G8}{H:Hp}{E:XK}{us:List G5}{vs:List V}
 (S:FnScope N ps scope) (hd:A.handled=none) (e0:Env0 P w K mg base A outer s H) (hl:vs.length=ps.length) (r:Vals vs us)
 (x:InCallC s s.heap.objs.size (N6 (ME qual scope s.heap.objs.size f cd).kindOf (ps.zip us) λ_=>none) (GT (s.heap.objs.size+1) scope.names []) (N5 (ME qual scope s.heap.objs.size f cd).kindOf (ps.zip us) λ_=>none) s1) :
 Inv (cxOf CX P w K mg base N qual scope f cd A outer s H E) [] (start N vs) H s1:=by
 have hpl:ps.length<=N.length:=by have:=NK JY S.pre;rw[QY] at this;lia
 obtain⟨h1,tk,rfl,hk⟩:=x.done;have noA:∀b:Addr,b ∉ (cxOf CX P w K mg base N qual scope f cd A outer s H E).ex:=λb z=>absurd (show b∈([]:List Addr) from z) (by simp)
 refine⟨⟨e0.mod,S.kind,rfl,rfl,Qg _,λy z c h1 h2=>?_,λy hy=>?_,λy c _ h=>?_,λ_=>hd,VT e0.frames,.inr ⟨rfl,rfl⟩,λb z=>absurd z (noA b),e0.bs,e0.bsz,λb _ _=>noA b,λb z=>absurd z (noA b),e0.funs,e0.frf⟩,
  rfl,e0.bare,Un.kept hk,⟨_,x.toInCall.ns,λi y v h1 h2 h3=>?_⟩,λy c h=>⟨_,x.cell y c h⟩,e0.hok.fresh (Qg _),λy c h=>?_,λp hp=>absurd (show p∈([]:List (Addr×Obj)) from hp) (by simp),e0.hok.kept hk,?_⟩
 .exact name_of_addr x.apart (Zl h1) (Zl h2)
 .have hy:scope.names.lookup y=some .cell\/scope.names.lookup y=some .free:=hy;rcases hy with hy|hy
  .exact zh1 hy
  .exact absurd rfl (S.nofree _ (Zl hy))
 .exact ZY (x.above y c (Zl h))
 .have hi:i<vs.length:=by
   unfold start at h2
   by_cases hi:i<vs.length
   .exact hi
   .rw[QU (by simpa using hi)] at h2;rw[QZ] at h2
    split at h2 <;> cases h2
  have ha:vs[i]? = some v:=by
   unfold start at h2;rw[QO (by simpa using hi),Qi] at h2
   cases e:vs[i]? with
   | none=>rw[e] at h2;cases h2
   | some a=>rw[e] at h2;cases h2;rfl
  obtain⟨u,hu,rv⟩:=r.get ha
  have hp:ps[i]? = some y:=by
   rw[<- S.pre,Yk (by lia)];exact h1
  have ndP:ps.Nodup:=by rw[<- S.pre];exact S.nd.sublist (U6 _ _)
  refine⟨u,rv,?_⟩;rcases S.par y (Qz hp) with k|k
  .exact .inl ⟨k,zkt ndP hp hu k⟩
  .obtain⟨c,e⟩:=zh1 (n:=s.heap.objs.size+1) k;refine .inr ⟨.inl k,c,e,?_⟩;have q:=x.cell y c e;rw[zlf ndP hp hu (by show scope.names.lookup y≠_;rw[k];decide)] at q;exact q
 .exact e0.hok.fresh (ZY (x.above y c (Zl h)))
 .unfold start;show _=N.length;rw[Ql,Qf,QR];lia
theorem zw8{CX:CXT}{P:GB}{w:GD}{K:Qa}{mg:Str->Option G5}{base:Heap}{k:Nat}{f:Addr}{name qual:Str}{params:TR}{body:List Stmt}{scope:GV}{dV kV doc pm cdv ct oc:G5}{an od:Option Addr}
 {osl:Array (Option G5)} {N ps:List Str} {sp:Sp} (lk:K.lookup f=some ⟨oc,od,.func (Z2 name qual params body scope dV kV doc pm an cdv ct),osl⟩) (hcd:JE K cdv qual=true) (S:FnScope N ps scope)
 (len:∀vs H Q E,sp vs H Q E->vs.length=ps.length)
 (hbody:∀(A:GF) (outer:List Env) (s:G8) (H:Hp) (vs:List V) (Q:VK) (E:XK),Room k (A.deeper (ME qual scope s.heap.objs.size f cdv))->sp vs H Q E ->
  ∃t,PSs (cxOf CX P w K mg base N qual scope f cdv A outer s H E) body t/\t { nx:=λ_ H'=>Q .non H',rt:=Q } (start N vs) H) :
 FnOk P w K mg base CX (k+1) f (Z2 name qual params body scope dV kV doc pm an cdv ct) ps sp:=by
 refine⟨len,λA outer s H args us vs Q E hr e0 hb r hsp=>?_⟩;have hl:=len _ _ _ _ hsp;have KX:K.In s.heap:=e0.mod.kin.keeps λb o e=>(e0.bs b o e).1;have lim:s.heap.NoLimit:=e0.mod.nolimit.keeps λb o e=>(e0.bs b o e).1
 have hkind:∀y∈ps.zip us,scope.names.lookup y.1=some .local\/(scope.names.lookup y.1=some .cell/\((GT (s.heap.objs.size+1) scope.names []).lookup y.1).isSome=true):=λ⟨n,v⟩ hy=>by
  rcases S.par n (YG hy).1 with q|q
  .exact .inl q
  .exact .inr ⟨q,JK _ _ _ (.inl q)⟩
 refine MO hr.depth (KX _ _ lk) rfl S.co S.gen rfl (PySem.W.codeRec_of KX hcd) (hb _ _ _ _ ?_);refine wpAny_newFunctionEnv_cells S.kind hkind λenv he s1 x=>?_;subst he;refine⟨lim.keeps x.toInCall.keep,codeAny_func ?_⟩;obtain⟨t,ht,hq⟩:=hbody A outer s H vs Q E (hr.deeper _) hsp;have I:Inv (cxOf CX P w K mg base N qual scope f cdv A outer s H E) [] (start N vs) H s1:=zrw S hr.hd e0 hl r x;refine GM (ht [] s1 (start N vs) H _ I hq) (λfl s' hs=>?_) λe s' hs=>hs
 have fin:∀{σ':St} {H':Hp} {v:V} {u:G5},Inv (cxOf CX P w K mg base N qual scope f cdv A outer s H E) [] σ' H' s'->RelV v u->Q v H'->CE outer P w H s Q u s' :=
  λ{σ' H' v u} J rv q=>⟨v,H',J.os,J.bare,J.base,J.hok,rv,q⟩
 cases fl with
 | ret u=>
   obtain⟨v,σ',H',J,rv,q⟩:=hs;exact fin J rv q
 | next=>
   obtain⟨σ',H',J,q⟩:=hs;exact fin (v:=V.non) (u:=Y7) J rfl q
 | brk=>
   obtain⟨_,_,_,q⟩:=hs;exact ZG q
 | cont=>
   obtain⟨_,_,_,q⟩:=hs;exact ZG q
section
variable {X:Cx}{x:Str}{p pos:Pos}{e:Expr}{es:List Expr}{t:TA}{id T:String}{r:List V->Hp->VK->Prop}
def tCB(r:List V->Hp->VK->Prop)(t:TA):TE:=λσ H Q=>t σ H λvs H1=>r vs H1 Q
theorem zd9(hc:zcg X (.builtin id) r)(hg:Gl X x)(hm:X.mg x=none)(hv:GO x=some (.builtin id))(ha:PA X (e::es) t)(hn:x ≠ "__name__" := by decide)(hdb:(x == ("__debug__" : Str))=false:=by decide)
 (he:GC (e::es) X.env=(false,eval e X.env)::GC es X.env:=by rfl) (hpl:(Tk pos (GC es X.env)).any (·.1)=false:=by rfl):PE X (.Call (.Name x p) (e::es) [] pos) (tCB r t):=by
 intro pins s σ H Q I h;refine GH (zby I hg hm hv ?_ hn hdb);exact Jg (thn (ha pos pins s σ H _ I h) λus s1 ⟨vs,H1,I1,r1,q1⟩=>hc pins s1 σ H1 vs us Q I1 r1 q1) he hpl
theorem zlg(hc:zcg X (.type T) r)(hg:Gl X x)(hm:X.mg x=none)(hv:GO x=some (.type T))(ha:PA X (e::es) t)(hn:x ≠ "__name__" := by decide)(hdb:(x == ("__debug__" : Str))=false:=by decide)
 (he:GC (e::es) X.env=(false,eval e X.env)::GC es X.env:=by rfl) (hpl:(Tk pos (GC es X.env)).any (·.1)=false:=by rfl):PE X (.Call (.Name x p) (e::es) [] pos) (tCB r t):=by
 intro pins s σ H Q I h;refine GH (zby I hg hm hv ?_ hn hdb);exact ZD (thn (ha pos pins s σ H _ I h) λus s1 ⟨vs,H1,I1,r1,q1⟩=>hc pins s1 σ H1 vs us Q I1 r1 q1) he hpl
end
end L2
namespace HT
open PySem PyProof.Rows
section
variable {prog:GB}{w:GD}{A:GF}{E:G5->G8->Prop}{s:G8}
theorem cat_tup(ht:IsTup s.heap t vs.toArray)(hb:IsTup s.heap b ws.toArray)(hv:vs≠[])
 (h1:ws = []->Q (.ref t) s) (h2:ws≠[]->Q (.ref s.heap.objs.size) { s with heap:=s.heap.push { cls:=.type "tuple",data:=.seq (vs++ws).toArray } })
 (hsz:vs.length+ws.length<=sizeLine):wpAny (model prog w) A (Tw .Add (.ref t) (.ref b)) Q E s:=by
 obtain⟨⟨cls,dd,data,sl⟩,ho,hc,n,hd⟩:=id ht;obtain⟨⟨cls2,dd2,data2,sl2⟩,ho2,hc2,n2,hd2⟩:=id hb;simp only at hc hd hc2 hd2;subst hc hd hc2 hd2;have e:vs.toArray++ws.toArray=(vs++ws).toArray:=by simp
 by_cases hw:ws = []
 .exact Nk ⟨_,ho,rfl⟩ ⟨_,ho2,rfl⟩ M9 MZ Yz Yt (Yl _ _)
   (tuple_addW1 t b vs.toArray ws.toArray n n2 dd dd2 sl sl2 (by simpa using hv) (by simp[hw])) ⟨ho,ho2,h1 hw⟩
 .refine Nk ⟨_,ho,rfl⟩ ⟨_,ho2,rfl⟩ M9 MZ Yz Yt (Yl _ _)
   (tuple_addW2 t b vs.toArray ws.toArray n n2 dd dd2 sl sl2 (by simpa using hv) (by simpa using hw) (by rw[Q5,Q5];exact hsz)) ⟨ho,ho2,?_⟩
  rw[e];exact h2 hw
def sIx(n d:Nat):Option Int->Nat
 | none=>d
 | some v=>if v<0 then(v+(n:Int)).toNat else min v.toNat n
theorem sIx_le(n d:Nat)(hd:d<=n)(o:Option Int):sIx n d o<=n:=by
 cases o with
 | none=>exact hd
 | some v=>
   show(if v<0 then(v+(n:Int)).toNat else min v.toNat n)<=n
   by_cases hv:v<0
   .rw[ND hv];lia
   .rw[NE hv];exact UM _ _
theorem clip_eq(v:Int)(n d:Nat):(if v<0 then max (v+(n:Int)) 0 else min v (n:Int))=((sIx n d (some v):Nat):Int):=by
 show(if v<0 then max (v+(n:Int)) 0 else min v (n:Int))=(((if v<0 then(v+(n:Int)).toNat else min v.toNat n):Nat):Int)
 by_cases hv:v<0
 .simp only[ND hv];lia
 .simp only[NE hv];lia
theorem zqz(lo hi:Option Int)(n:Nat):Yd lo hi 1 (n:Int)=(((sIx n 0 lo:Nat):Int),((sIx n n hi:Nat):Int)):=by
 have h1:¬((1:Int)<0):=by lia
 unfold Yd;simp only[h1,NJ];refine Gh ?_ ?_
 .cases lo with
  | none=>rfl
  | some v=>exact clip_eq v n 0
 .cases hi with
  | none=>rfl
  | some v=>exact clip_eq v n n
theorem zp9(i j:Nat):J0 (i:Int) (j:Int) 1=j-i:=by
 unfold J0;have h1:(1:Int) > 0:=by lia
 simp only[h1,NL,Int.ediv_one]
 split <;> lia
theorem ziw(p:MA v o)(h:Q o s):wpAny (model prog w) A (Builtin.Slice.slicePartIndex v) Q E s:=by
 cases p with
 | none=>exact slicePart_none h
 | int i t=>exact slicePart_int h
theorem sliceApplied_gen{sl:Addr}{vl vu:G5}{lo hi:Option Int}{n:Nat}{Q:Int×Int×Nat->G8->Prop}(hs:s.heap.IsSliceOf sl vl vu .none)(pl:MA vl lo)(pu:MA vu hi)
 (h:Q (((sIx n 0 lo:Nat):Int),1,sIx n n hi-sIx n 0 lo) s):wpAny (model prog w) A (YW (.ref sl) (pure (n:Int))) Q E s:=by
 obtain⟨os,hos,hcs,hds⟩:=id hs;unfold YW Builtin.Slice.sliceFields;refine G4 (G4 (Nz hos hds (x:=vl) rfl (G4 (Nz hos hds (x:=vu) rfl (G4 (Nz hos hds (x:=.none) rfl (G6 ?_)))))));refine G4 (slicePart_none ?_);show wpAny _ _ (if((1:Int) == 0)=true then _ else _) _ _ s;rw[NE (by decide)];refine G4 (ziw pl (G4 (ziw pu (G4 (G6 ?_)))));show wpAny _ _ (match Yd lo hi 1 (n:Int) with|(lo,hi)=>pure (lo,(1:Int),J0 lo hi 1)) _ _ s;rw[zqz lo hi n];show wpAny _ _ (pure (((sIx n 0 lo:Nat):Int),(1:Int),J0 ((sIx n 0 lo:Nat):Int) ((sIx n n hi:Nat):Int) 1)) _ _ s;rw[zp9];exact G6 h
theorem zwl(xs:Array G5)(i k:Nat):((Q2 k).filterMap λ(m:Nat)=>xs[((i:Int)+(m:Int) * 1).toNat]?).toArray=((xs.toList.drop i).take k).toArray:=by
 have e:(λ(m:Nat)=>xs[((i:Int)+(m:Int) * 1).toNat]?)=λm=>xs[i+m]?:=by
  funext m;have:((i:Int)+(m:Int) * 1).toNat=i+m:=by lia
  rw[this]
 rw[e];have:=pick_run xs i k;rw[List.filterMap_map] at this;have e2:((λx=>xs[x]?) ∘ λx=>i+x)=λm=>xs[i+m]?:=rfl;rw[e2] at this;rw[this]
theorem getItem_tuple_cut{t sl:Addr}{items:Array G5}{vl vu:G5}{lo hi:Option Int}{Q:G5->G8->Prop}(ht:IsTup s.heap t items)(hs:s.heap.IsSliceOf sl vl vu .none)(pl:MA vl lo)(pu:MA vu hi)
 (hw:¬(sIx items.size 0 lo=0/\sIx items.size items.size hi=items.size))
 (h:Q (.ref s.heap.objs.size) { s with heap:=s.heap.push { cls:=.type "tuple",data:=.seq ((items.toList.drop (sIx items.size 0 lo)).take (sIx items.size items.size hi-sIx items.size 0 lo)).toArray } })
 (hsz:items.size<=sizeLine):wpAny (model prog w) A (Mg (.ref t) (.ref sl)) Q E s:=by
 have htake:sizeOk (.seq ((items.toList.drop (sIx items.size 0 lo)).take (sIx items.size items.size hi-sIx items.size 0 lo)).toArray):=by
  show((items.toList.drop (sIx items.size 0 lo)).take (sIx items.size items.size hi-sIx items.size 0 lo)).toArray.size<=sizeLine;rw[Q5,QY,ZK,QW];lia
 have hj:sIx items.size items.size hi<=items.size:=sIx_le _ _ (Qg _) hi;obtain⟨os,hos,hcs,hds⟩:=id hs;have hTs:s.TypeIs (.ref sl) "slice" := ⟨os,hos,hcs⟩;unfold Mg
 try with_reducible refine GK ?_
 first|refine G4 (G6 ?_)|skip
 refine G4 (wpAny_sequenceKey ht.typeIs (by decide) ?_)
 refine G4 (Tb (name:=Jk "__getitem__") ht.typeIs Zw
  (GL Zw ht.typeIs entry_tuple_getitem ?_ (args_tuple_getitem _ _)))
 show wpAny _ _ (YX (.ref t) >>= _) _ _ s;refine G4 (tupleItemsOf_ ht ?_);refine G4 (TC hTs ?_);rw[ND (by decide)];refine G4 (sliceApplied_gen hs pl pu ?_)
 have hno:¬((((sIx items.size 0 lo:Nat):Int) == 0 && (1:Int) == 1 && (sIx items.size items.size hi-sIx items.size 0 lo) == items.size)=true):=by
  intro q;rw[Qy,Qy] at q;have q1:((sIx items.size 0 lo:Nat):Int)=0:=eq_of_beq q.1.1;have q2:sIx items.size items.size hi-sIx items.size 0 lo=items.size:=eq_of_beq q.2;exact hw ⟨by lia,by lia⟩
 show wpAny _ _ (if(((sIx items.size 0 lo:Nat):Int) == 0 && (1:Int) == 1 && (sIx items.size items.size hi-sIx items.size 0 lo) == items.size)=true then _ else _) _ _ s;rw[NE hno,zwl]
 first
  | exact G4 (m:=JB _) (GI (G6 ⟨_,rfl,G6 h⟩) htake)
  | exact G4 (m:=JB _) (GI (G4 (G6 (G6 ⟨_,rfl,G6 h⟩))) htake)
  | exact G4 (G4 (m:=JB _) (GI (G6 (G6 ⟨_,rfl,G6 h⟩)) htake))
  | exact G4 (G4 (m:=JB _) (GI (G6 ⟨_,rfl,G6 h⟩) htake))
end
end HT
namespace L2
open PySem PySem.Spec PyProof.Rows
abbrev TO:=St->Hp->(Option Int->Hp->Prop)->Prop
def PO(X:Cx)(e:Option Expr)(t:TO):Prop :=
 ∀(pins:List (Addr×Obj)) (s:G8) (σ:St) (H:Hp) (Q:Option Int->Hp->Prop),Inv X pins σ H s->t σ H Q ->
   wpAny (model X.prog X.w) X.A (evalPart e X.env) (λu s'=>∃o H',Inv X pins σ H' s'/\MA u o/\Q o H') X.xe s
def zpf:TO:=λ_ H Q=>Q none H
def zlz(t:TE):TO:=λσ H Q=>t σ H λx H1=>∃i,x = .int i/\Q (some i) H1
section
variable {X:Cx}{e:Expr}{te:TE}{lo hi:Option Expr}{tl th:TO}{pos p2:Pos}
theorem zyi:PO X none zpf:=by
 intro pins s σ H Q I h;rw[evalPart_none];exact G6 ⟨none,H,I,.none,h⟩
theorem zjw(h:PE X e te):PO X (some e) (zlz te):=by
 intro pins s σ H Q I hw;rw[evalPart_some];refine thn (h pins s σ H _ I hw) λu s1 zz=>?_;obtain⟨x,H1,I1,r1,q1⟩:=zz;obtain⟨i,rfl,q⟩:=q1;obtain⟨t,rfl⟩:=r1;exact⟨some i,H1,I1,.int i t,q⟩
def SlR(X:Cx)(r:V->Option Int->Option Int->Hp->VK->Prop):Prop :=
 ∀(pins:List (Addr×Obj)) (s:G8) (σ:St) (H:Hp) (x:V) (v vl vu:G5) (lo hi:Option Int) (sl:Addr) (Q:VK),Inv X pins σ H s->RelV x v->s.heap.IsSliceOf sl vl vu .none->MA vl lo->MA vu hi->r x lo hi H Q ->
   ∃T id,Nf (.type T) "__getitem__" = pure (some (.builtin id))/\s.TypeIs v T/\wpAny (model X.prog X.w) X.A (Mg v (.ref sl)) (EP X pins σ Q) X.xe s
theorem SlR.or(h:SlR X r)(h':SlR X r'):SlR X (λx lo hi H Q=>r x lo hi H Q\/r' x lo hi H Q):=by
 intro pins s σ H x v vl vu lo hi sl Q I rx hs pl pu q;rcases q with q|q
 .exact h pins s σ H x v vl vu lo hi sl Q I rx hs pl pu q
 .exact h' pins s σ H x v vl vu lo hi sl Q I rx hs pl pu q
def tSl(r:V->Option Int->Option Int->Hp->VK->Prop)(te:TE)(tl th:TO):TE:=λσ H Q=>te σ H λx H1=>tl σ H1 λl H2=>th σ H2 λu H3=>r x l u H3 Q
theorem zme(hr:SlR X r)(he:PE X e te)(hl:PO X lo tl)(hu:PO X hi th):PE X (.Subscript e (.Slice lo hi none p2) pos) (tSl r te tl th):=by
 intro pins s σ H Q I h;refine Subscript_ (thn (he pins s σ H _ I h) λv s1 zz=>?_);obtain⟨x,H1,I1,r1,q1⟩:=zz;refine wpAny_Slice (thn (hl pins s1 σ H1 _ I1 q1) λvl s2 ⟨l,H2,I2,pl,q2⟩=>thn (hu pins s2 σ H2 _ I2 q2) λvu s3 zz=>?_);obtain⟨u,H3,I3,pu,q3⟩:=zz;rw[evalPart_none];refine G6 ?_;have I4:Inv X pins σ H3 { s3 with heap:=s3.heap.push { cls:=.type "slice",data:=.fields #[vl,vu,.none] } }:=I3.kept (t':=s3.toks) λb ob q=>Qc _ q;obtain⟨T,id,hT,ht,hg⟩:=hr pins { s3 with heap:=s3.heap.push { cls:=.type "slice",data:=.fields #[vl,vu,.none] } } σ H3 x v vl vu l u s3.heap.objs.size Q I4 r1 (Heap.IsSliceOf.new ..) pl pu q3;show wpAny (model X.prog X.w) X.A (Nb e (.Slice lo hi none p2) v (.ref s3.heap.objs.size)) (EP X pins σ Q) X.xe { s3 with heap:=s3.heap.push { cls:=.type "slice",data:=.fields #[vl,vu,.none] } };exact tail_any (ops:=[.ref s3.heap.objs.size,v]) ht hT hg (by with_unfolding_all rfl)
def cutV(xs:List V)(lo hi:Option Int):List V:=(xs.drop (HT.sIx xs.length 0 lo)).take (HT.sIx xs.length xs.length hi-HT.sIx xs.length 0 lo)
theorem zhg(xs:List V)(lo hi:Option Int):(cutV xs lo hi).length<=xs.length:=by
 unfold cutV;rw[QY,ZK];lia
def rSlT(K:Qa):V->Option Int->Option Int->Hp->VK->Prop:=λx lo hi H Q=>∃a xs,x = .ref a/\SqT K H a xs /\
 ¬(HT.sIx xs.length 0 lo=0/\HT.sIx xs.length xs.length hi=xs.length)/\∀p,H p=none->Q (.ref p) (upd H p (.tup (cutV xs lo hi)))
theorem sl_tup:SlR X (rSlT X.K):=by
 intro pins s σ H x v vl vu lo hi sl Q I rx hs pl pu h;obtain⟨a,xs,rfl,hx,hw,q⟩:=h;cases rx;obtain⟨its,r,ht,hz⟩:=I.tuple hx;have hlen:its.toArray.size=xs.length:=by rw[Q5];exact r.length.symm
 refine⟨"tuple",_,Zw.lookup,ht.typeIs,?_⟩;refine HT.getItem_tuple_cut ht hs pl pu (by rw[hlen];exact hw) ?_ (by rw[hlen];exact hz);rw[hlen];refine⟨.ref s.heap.objs.size,_,I.laid (t':=s.toks) (o:=.tup (cutV xs lo hi)) (λb ob q=>Qc _ q) (Qg _) ?_,rfl,q _ (I.hok.fresh (Qg _))⟩;exact⟨QN (zhg xs lo hi) hz,_,(r.drop (HT.sIx xs.length 0 lo)).take (HT.sIx xs.length xs.length hi-HT.sIx xs.length 0 lo),Gx _ _⟩
def zxg(K:Qa):R2:=λx y H Q=>∃a b xs ys,x = .ref a/\y = .ref b/\SqT K H a xs/\SqT K H b ys/\xs≠[]/\xs.length+ys.length<=sizeLine /\
 (ys = []->Q (.ref a) H)/\(ys≠[]->∀p,H p=none->Q (.ref p) (upd H p (.tup (xs++ys))))
theorem Vals.nil_iff(r:Vals xs us):us = []↔xs = []:=by
 cases r with
 | nil=>simp
 | cons _ _=>simp
theorem op_catT:OpR X (Tw .Add) (zxg X.K):=by
 intro pins s σ H x y v u Q I rx ry h;obtain⟨a,b,xs,ys,rfl,rfl,ha,hb,hx,hz,q1,q2⟩:=h;cases rx;cases ry;obtain⟨its,r1,p1,_⟩:=I.tuple ha;obtain⟨its2,r2,p2,_⟩:=I.tuple hb;refine HT.cat_tup p1 p2 (λz=>hx (r1.nil_iff.mp z)) (λz=>⟨.ref a,H,I,rfl,q1 (r2.nil_iff.mp z)⟩) (λz=>?_) (by rw[<- r1.length,<- r2.length];exact hz);refine⟨.ref s.heap.objs.size,_,I.laid (t':=s.toks) (o:=.tup (xs++ys)) (λb ob q=>Qc _ q) (Qg _) ?_,rfl,q2 (λw=>z (r2.nil_iff.mpr w)) _ (I.hok.fresh (Qg _))⟩;exact⟨by rw[Ql];exact hz,_,r1.append r2,Gx _ _⟩
end
def ixN(n:Nat)(i:Int):Option Nat:=if 0<=i then(if i<n then some i.toNat else none) else if -(n:Int)<=i then some (i+n).toNat else none
def atI{α:Type}(xs:List α)(i:Int):Option α:=(ixN xs.length i).bind λj=>xs[j]?
theorem zxv{n:Nat}{i:Int}{j:Nat}(h:ixN n i=some j):Nq i n=some j/\j<n/\-(n:Int)<=i/\i<n:=by
 unfold ixN at h
 by_cases h0:0<=i
 .rw[ND h0] at h
  by_cases h1:i<n
  .rw[ND h1] at h;have e:i.toNat=j:=Zp h;exact⟨by rw[seqIndex_of h0 h1,e],by lia,by lia,h1⟩
  .rw[NE h1] at h;cases h
 .rw[NE h0] at h
  by_cases h1:-(n:Int)<=i
  .rw[ND h1] at h;have e:(i+n).toNat=j:=Zp h;exact⟨by rw[seqIndex_neg (by lia) h1,e],by lia,h1,by lia⟩
  .rw[NE h1] at h;cases h
theorem zj8{α:Type}{xs:List α}{i:Int}{v:α}(h:atI xs i=some v):∃j,Nq i xs.length=some j/\xs[j]? = some v/\j<xs.length/\-(xs.length:Int)<=i/\i<xs.length:=by
 unfold atI at h
 cases e:ixN xs.length i with
 | none=>rw[e] at h;cases h
 | some j=>
   rw[e] at h;obtain⟨h1,h2,h3,h4⟩:=zxv e;exact⟨j,h1,h,h2,h3,h4⟩
theorem zy5{α:Type}{xs:List α}{j:Nat}{v:α}(h:xs[j]? = some v):atI xs (j:Int)=some v:=by
 have hj:j<xs.length:=(Qn.mp h).1
 have e:ixN xs.length (j:Int)=some j:=by
  unfold ixN;rw[ND (by lia),ND (by lia)];simp
 unfold atI;rw[e];exact h
def zdz(b:Expr):Prop:=∀o i,subscripted b false o i=operate [o,i] (Mg o i)
def IxR(X:Cx)(r:R2):Prop :=
 ∀(value slice:Expr) (pins:List (Addr×Obj)) (s:G8) (σ:St) (H:Hp) (x y:V) (v u:G5) (Q:VK),Inv X pins σ H s->RelV x v->RelV y u->r x y H Q ->
   subscripted slice false v u=operate [v,u] (Mg v u)->wpAny (model X.prog X.w) X.A (Nb value slice v u) (EP X pins σ Q) X.xe s
def MtR(X:Cx)(id:String)(r:V->List V->Hp->VK->Prop):Prop :=
 ∀(pins:List (Addr×Obj)) (s:G8) (σ:St) (H:Hp) (x:V) (xs:List V) (v:G5) (us:List G5) (Q:VK),Inv X pins σ H s->RelV x v->Vals xs us->r x xs H Q ->
   wpAny (model X.prog X.w) X.A (call (.builtin id) (v::us)) (EP X pins σ Q) X.xe s
section
variable {X:Cx}{a b:Expr}{ta tb:TE}{pos:Pos}
theorem IxR.or(h:IxR X r)(h':IxR X r'):IxR X (λx y H Q=>r x y H Q\/r' x y H Q):=by
 intro value slice pins s σ H x y v u Q I rx ry q hs;rcases q with q|q
 .exact h value slice pins s σ H x y v u Q I rx ry q hs
 .exact h' value slice pins s σ H x y v u Q I rx ry q hs
theorem zi7(hr:IxR X r)(ha:PE X a ta)(hb:PE X b tb)(hs:zdz b):PE X (.Subscript a b pos) (tOp r ta tb):=by
 intro pins s σ H Q I h;exact Subscript_ (binT ha hb I h λv u s2 x y H2 I2 rx ry q=>hr a b pins s2 σ H2 x y v u Q I2 rx ry q (hs _ _))
def rIxL(K:Qa):R2:=λx y H Q=>∃p xs i v,x = .ref p/\y = .int i/\SqL K H p xs/\atI xs i=some v/\Q v H
def rIxT(K:Qa):R2:=λx y H Q=>∃p xs i v,x = .ref p/\y = .int i/\SqT K H p xs/\atI xs i=some v/\Q v H
def rIxS:R2:=λx y H Q=>∃z i c,x = .str z/\y = .int i/\z.length<=sizeLine/\atI z.cps.toList i=some c/\Q (.str ⟨#[c]⟩) H
theorem ix_list:IxR X (rIxL X.K):=by
 intro value slice pins s σ H x y v u Q I rx ry h hs;obtain⟨p,xs,i,z,rfl,rfl,hq,he,q⟩:=h;cases rx;obtain⟨t,rfl⟩:=ry;obtain⟨its,r,pl,hz⟩:=I.list hq;obtain⟨j,h1,h2,h3,h4,h5⟩:=zj8 he;obtain⟨w,ew,rw'⟩:=r.get h2;have hl:=r.length;have hn:=zga;have fin:EP X pins σ Q w s:=⟨z,H,I,rw',q⟩
 by_cases h0:0<=i
 .have hj:i.toNat=j:=by
   rw[seqIndex_of h0 h5] at h1;exact Zp h1
  exact item_listR pl.isList h0 (by lia) (by rw[hj];simpa using ew) fin hs
 .have hj:(i+(its.toArray.size:Int)).toNat=j:=by
   rw[seqIndex_neg (by lia) h4] at h1;rw[Q5,<- hl];exact Zp h1
  exact MJ (x:=w) pl.isList.typeIs slot_list_getitem.lookup
   (wpAny_getItem_list_neg (Q:=λr s'=>r=w/\EP X pins σ Q r s') pl.isList (by lia) (by rw[Q5] <;> lia) (by lia) (by rw[hj];simpa using ew) ⟨rfl,fin⟩) hs
theorem ix_tup:IxR X (rIxT X.K):=by
 intro value slice pins s σ H x y v u Q I rx ry h hs;obtain⟨p,xs,i,z,rfl,rfl,hq,he,q⟩:=h;cases rx;obtain⟨t,rfl⟩:=ry;obtain⟨its,r,pl,hz⟩:=I.tuple hq;obtain⟨j,h1,h2,h3,h4,h5⟩:=zj8 he;obtain⟨w,ew,rw'⟩:=r.get h2;have hl:=r.length;have hn:=zga;have fin:EP X pins σ Q w s:=⟨z,H,I,rw',q⟩
 exact MJ (x:=w) pl.typeIs slot_tuple_getitem.lookup
  (getItem_tuple (j:=j) (Q:=λr s'=>r=w/\EP X pins σ Q r s') pl (by lia) (by lia) (by rw[Q5,<- hl];exact h1) (by simpa using ew) ⟨rfl,fin⟩) hs
theorem z4e:IxR X rIxS:=by
 intro value slice pins s σ H x y v u Q I rx ry h hs;obtain⟨z,i,c,rfl,rfl,hz,he,q⟩:=h;obtain⟨t,rfl⟩:=rx;obtain⟨t',rfl⟩:=ry;obtain⟨j,h1,h2,h3,h4,h5⟩:=zj8 he;have hl:z.cps.toList.length=z.length:=by simp[Ur]
 rw[hl] at h1 h4 h5;have hn:=zga
 exact tail_any (typeIs_str s z t) slot_str_getitem.lookup (getItem_str (c:=c) (by
  have e1:decide (i < -(2 ^ 63:Int))=false:=NI (by lia);have e2:decide (i ≥ 2 ^ 63)=false:=NI (by lia)
  rw[e1,e2,Gq]) (by rw[h1];simpa using h2) ⟨.str ⟨#[c]⟩,H,I.tok _,⟨_,rfl⟩,q⟩) hs
def rIx(K:Qa):R2:=λx y H Q=>rIxL K x y H Q\/rIxT K x y H Q\/rIxS x y H Q
theorem zgc:IxR X (rIx X.K):=ix_list.or (ix_tup.or z4e)
theorem zni(lo hi:Option Int)(n:Nat):(Ma lo hi none n).1=((HT.sIx n 0 lo:Nat):Int)/\(Ma lo hi none n).2.1=((HT.sIx n n hi:Nat):Int)/\(Ma lo hi none n).2.2=1:=by
 refine⟨?_,?_,rfl⟩
 .cases lo with
  | none=>simp[Ma,HT.sIx]
  | some i=>
    simp only[Ma,HT.sIx,UN,show(1:Int) > 0 by decide,NL]
    by_cases h:i<0
    .simp only[h,NL] <;> lia
    .simp only[h,NJ] <;> lia
 .cases hi with
  | none=>simp[Ma,HT.sIx]
  | some i=>
    simp only[Ma,HT.sIx,UN,show(1:Int) > 0 by decide,NL]
    by_cases h:i<0
    .simp only[h,NL] <;> lia
    .simp only[h,NJ] <;> lia
theorem zlr(its:List G5)(lo hi:Option Int):slicePick its.toArray lo hi none=((its.drop (HT.sIx its.length 0 lo)).take (HT.sIx its.length its.length hi-HT.sIx its.length 0 lo)).toArray:=by
 obtain⟨h1,h2,h3⟩:=zni lo hi its.toArray.size;unfold slicePick;rw[h1,h2,h3];simp only[sliceRange_one,pick_run,Q5] <;> rfl
def rSlL(K:Qa):V->Option Int->Option Int->Hp->VK->Prop:=λx lo hi H Q=>∃a xs,x = .ref a/\SqL K H a xs/\∀p,H p=none->Q (.ref p) (upd H p (.lst (cutV xs lo hi)))
theorem sl_list:SlR X (rSlL X.K):=by
 intro pins s σ H x v vl vu lo hi sl Q I rx hs pl pu h;obtain⟨a,xs,rfl,hx,q⟩:=h;cases rx;obtain⟨its,r,ht,hz⟩:=I.list hx;have hlen:=r.length;refine⟨"list",_,slot_list_getitem.lookup,ht.isList.typeIs,?_⟩;refine wpAny_getItem_list_slice ht.isList hs pl pu .none (by simp) ?_ (by rw[Q5] <;> lia);rw[zlr,<- hlen];refine⟨.ref s.heap.objs.size,_,I.laid (t':=s.toks) (o:=.lst (cutV xs lo hi)) (λb ob q=>Qc _ q) (Qg _) ?_,rfl,q _ (I.hok.fresh (Qg _))⟩;exact⟨QN (zhg xs lo hi) hz,_,0,(r.drop (HT.sIx xs.length 0 lo)).take (HT.sIx xs.length xs.length hi-HT.sIx xs.length 0 lo),Qo _ rfl⟩
theorem zls:zcg X (.type "tuple") (λxs H Q=>∃p ys,xs = [.ref p]/\((SqL X.K H p ys/\∀l,H l=none->Q (.ref l) (upd H l (.tup ys)))\/(SqT X.K H p ys/\Q (.ref p) H))):=by
 intro pins s σ H xs us Q I r h;obtain⟨p,ys,rfl,h⟩:=h;obtain⟨u,rfl,rx⟩:=zxj r;cases rx;rcases h with ⟨hq,q⟩|⟨hq,q⟩
 .obtain⟨its,r',pl,hz⟩:=I.list hq;have hlen:=r'.length;refine call_tuple_list pl.isList (λh' kp=>?_) (by simp only[Q5] <;> lia);have I1:Inv X pins σ H { s with heap:=h' }:=I.kept (t':=s.toks) kp
  have I2:Inv X pins σ (upd H h'.objs.size (.tup ys)) { s with heap:=h'.push { cls:=.type "tuple",data:=.seq its.toArray } } :=
   I1.laid (t':=s.toks) (λb o e=>Qc _ e) (Qg _) (show ObjOk X.prog X.w _ _ _ (.tup ys) from⟨hz,its,r',Gx _ _⟩)
  exact⟨.ref h'.objs.size,_,I2,rfl,q _ (I1.hok.fresh (Qg _))⟩
 .obtain⟨its,r',pl,hz⟩:=I.tuple hq;exact call_tuple_same pl ⟨.ref p,H,I,rfl,q⟩
def tyV(K:Qa)(T:String)(x:V)(H:Hp):Prop:=match x with
 | .str _=>T = "str"
 | .int _=>T = "int"
 | .ref p=>(T = "list" /\ ∃xs,SqL K H p xs)\/(T = "tuple" /\ ∃o,K.lookup p=some o/\o.cls = .type "tuple" /\ o.dict=none) \/
  (T = "dict" /\ ((∃kvs,H p=some (.dK kvs))\/∃kvs,H p=some (.dT kvs)))\/(T = "set" /\ ∃S n,H p=some (.set S n))
 | _=>False
theorem zt4{pins:List (Addr×Obj)}(I:Inv X pins σ H s)(r:RelV x v)(ty:tyV X.K T x H):
 s.TypeIs v T/\∀a,v = .ref a->∃ob,s.heap.get? a=some ob/\ob.dict=none:=by
 cases x with
 | str z=>
   obtain⟨t,rfl⟩:=r;cases (show T = "str" from ty);exact⟨typeIs_str s z t,λ_ e=>nomatch e⟩
 | int i=>
   obtain⟨t,rfl⟩:=r;cases (show T = "int" from ty);exact⟨typeIs_int s i t,λ_ e=>nomatch e⟩
 | ref p=>
   cases r;rcases ty with ⟨rfl,xs,hq⟩|⟨rfl,o,hk,hc,hd⟩|⟨rfl,hk⟩|⟨rfl,S,n,hk⟩
   .obtain⟨its,_,pl,_⟩:=I.list hq;refine⟨pl.isList.typeIs,λa e=>?_⟩;cases e;obtain⟨o,n,e,c,hd,_⟩:=pl;exact⟨o,e,hd⟩
   .refine⟨⟨o,I.kIn p o hk,hc⟩,λa e=>?_⟩;cases e;exact⟨o,I.kIn _ o hk,hd⟩
   .have z:∃o,s.heap.get? p=some o/\o.ExactDict:=by
     rcases hk with ⟨kvs,hk⟩|⟨kvs,hk⟩
     .obtain⟨_,_,_,_,o,_,_,e,ex,_⟩:=I.hok p _ hk;exact⟨o,e,ex⟩
     .obtain⟨_,_,_,_,o,_,_,e,ex,_⟩:=I.hok p _ hk;exact⟨o,e,ex⟩
    obtain⟨o,e,ex⟩:=z;refine⟨⟨o,e,ex.1⟩,λa e2=>?_⟩;cases e2;exact⟨o,e,ex.2.1⟩
   .obtain⟨o,_,_,_,e,ex,_⟩:=I.hok p _ hk;refine⟨⟨o,e,ex.1⟩,λa e2=>?_⟩;cases e2;exact⟨o,e,ex.2.1⟩
 | _=>exact ZG ty
def tBM0(K:Qa)(T:String)(r:V->List V->Hp->VK->Prop)(to:TE):TE:=λσ H Q=>to σ H λx H1=>tyV K T x H1/\r x [] H1 Q
def tBM(K:Qa)(T:String)(r:V->List V->Hp->VK->Prop)(to:TE)(t:TA):TE:=λσ H Q=>to σ H λx H1=>tyV K T x H1/\t σ H1 λxs H2=>r x xs H2 Q
variable {o e:Expr}{es:List Expr}{to:TE}{t:TA}{name:Str}{apos cpos:Pos}{T id:String}{r:V->List V->Hp->VK->Prop}
theorem z3d(pa:PlainAttrs T)(slot:Slot T name id)(hty:Nt (.builtin id)=pure (.type "method_descriptor"))(hm:MtR X id r)(ho:PE X o to)
 (hbase:TV o name X.env (eval o X.env)=eval o X.env:=by rfl) (hline:(apos.endLine == cpos.line)=true:=by rfl):PE X (.Call (.Attribute o name apos) [] [] cpos) (tBM0 X.K T r to):=by
 intro pins s σ H Q I h;refine wpAny_Call_method0_late hbase hline (thn (ho pins s σ H _ I h) λv s1 zz=>?_);obtain⟨x,H1,I1,r1,ty,q1⟩:=zz;obtain⟨h1,h2⟩:=zt4 I1 r1 ty;exact⟨T,id,pa,slot,hty,h1,h2,V2 rfl (PySem.evalArgs_none (hm pins s1 σ H1 x [] v [] Q I1 r1 .nil q1))⟩
theorem zi1(pa:PlainAttrs T)(slot:Slot T name id)(hty:Nt (.builtin id)=pure (.type "method_descriptor"))(hm:MtR X id r)(ho:PE X o to)(ha:PA X (e::es) t)
 (hbase:TV o name X.env (eval o X.env)=eval o X.env:=by rfl)
 (hfew:((Tk cpos (GC (e::es) X.env)).all (λx=>!x.1) && (Nj cpos (M1 [] X.env)).all (λx=>x.1.isSome)
  && decide ((e::es).length+([]:List Mp).length+(if([]:List Mp).isEmpty then 0 else 1)<30))=true:=by rfl)
 (hline:(apos.endLine == cpos.line)=true:=by rfl) (hs:GC (e::es) X.env=(false,eval e X.env)::GC es X.env:=by rfl) (hplain:(Tk cpos (GC es X.env)).any (·.1)=false:=by rfl) :
 PE X (.Call (.Attribute o name apos) (e::es) [] cpos) (tBM X.K T r to t):=by
 intro pins s σ H Q I h;refine wpAny_Call_method_late hbase hfew hline rfl (thn (ho pins s σ H _ I h) λv s1 zz=>?_);obtain⟨x,H1,I1,r1,ty,q1⟩:=zz;obtain⟨h1,h2⟩:=zt4 I1 r1 ty;refine⟨T,id,pa,slot,hty,h1,h2,?_⟩;have hA:=ha cpos pins s1 σ H1 _ I1 q1;rw[hs] at hA ⊢;refine V2 (by show(false || (Tk cpos (GC es X.env)).any (·.1))=false;rw[hplain] <;> rfl) (VU ?_);exact thn hA λus s2 ⟨vs,H2,I2,r2,q2⟩=>hm pins s2 σ H2 x vs v us Q I2 r1 r2 q2
/- xs.append(e),list.index on a module's tuple .. are MtR facts of 06m -/
end
def MtM(X:Cx)(id:String)(r:V->List V->Hp->VK->Prop):Prop :=
 ∀(pins:List (Addr×Obj)) (s:G8) (σ:St) (H:Hp) (x:V) (xs:List V) (v:G5) (us:List G5) (Q:VK),Inv X pins σ H s->RelV x v->Vals xs us->r x xs H Q ->
   wpAny (model X.prog X.w) X.A (call (.builtin id) (v::us)) (EP X pins σ Q) X.xe s
theorem Vals.one:∀{x:V} {us:List G5},Vals [x] us->∃u,us = [u]/\RelV x u
 | _,_,h=>by
   cases h with
   | cons r t=>cases t;exact⟨_,rfl,r⟩
theorem Vals.zero:∀{us:List G5},Vals [] us->us = []
 | _,.nil=>rfl
theorem Vals.dropLast(h:Vals xs us):Vals xs.dropLast us.dropLast:=by
 induction h with
 | nil=>exact .nil
 | cons r t ih=>
   cases t with
   | nil=>exact .nil
   | cons q t'=>exact .cons r ih
theorem Vals.eraseIdx:∀{xs:List V} {us:List G5} (i:Nat),Vals xs us->Vals (xs.eraseIdx i) (us.eraseIdx i)
 | _,_,_,.nil=>.nil
 | _,_,0,.cons _ t=>t
 | _,_,i+1,.cons r t=>.cons r (Vals.eraseIdx i t)
theorem Vals.reverse(h:Vals xs us):Vals xs.reverse us.reverse:=by
 induction h with
 | nil=>exact .nil
 | cons r t ih=>rw[U7,U7];exact Vals.append ih (.cons r .nil)
theorem zqe{α:Type}(l:List α):l.eraseIdx (l.length-1)=l.dropLast:=by
 induction l with
 | nil=>rfl
 | cons a r ih=>
   cases r with
   | nil=>rfl
   | cons b r=>
     have e:(a::b::r).length-1=((b::r).length-1)+1:=by
      have h1:(a::b::r).length=r.length+2:=rfl;have h2:(b::r).length=r.length+1:=rfl;lia
     rw[e,Yu,ih]
     all_goals rfl
theorem zlb{α:Type}:∀(l:List α) (i:Nat),(l.eraseIdx i).length<=l.length
 | [],_=>Qg _
 | _::_,0=>ZN _
 | _::r,i+1=>Nat.succ_le_succ (zlb r i)
section
variable {X:Cx}{pins:List (Addr×Obj)}{σ:St}{H:Hp}{s:G8}{l b:Addr}{xs ys zs:List V}
theorem Inv.lset{its its':List G5}{n:Nat}{f:Array G5->Array G5}{t':Nat}(I:Inv X pins σ H s)(hH:H l=some (.lst xs))
 (e:s.heap.get? l=some { cls:=.type "list",data:=.seq its.toArray n }) (hf:f its.toArray=its'.toArray) (hv:Vals ys its') (hz:ys.length<=sizeLine) :
 Inv X pins σ (upd H l (.lst ys)) { s with heap:=s.heap.update l (Zt f),toks:=t' }:=by
 have q:=PySem.IsL.update e f;rw[hf] at q;refine I.write (x:=l) (e:=l) (by rw[hH];exact trivial) (.inl rfl) (λb' u hb hu=>(JL s.heap (Zt f) (ZC hb)).trans hu) ⟨_,q⟩ ?_;exact⟨hz,its',_,hv,q⟩
theorem Inv.lnew{t':Nat}(I:Inv X pins σ H s)(hv:Vals ys its)(hz:ys.length<=sizeLine):
 Inv X pins σ (upd H s.heap.objs.size (.lst ys)) { s with heap:=s.heap.push { cls:=.type "list",data:=.seq its.toArray },toks:=t' } :=
 I.laid (λ_ _ q=>Qc _ q) (Qg _) ⟨hz,its,0,hv,Qo _ rfl⟩
theorem Inv.fresh(I:Inv X pins σ H s):H s.heap.objs.size=none:=I.hok.fresh (Qg _)
theorem Inv.lstM(I:Inv X pins σ H s)(hH:H l=some (.lst xs)):xs.length<=sizeLine/\∃(its:List G5) (n:Nat),Vals xs its/\xs.length=its.length/\s.heap.get? l=some { cls:=.type "list",data:=.seq its.toArray n }:=by
 obtain⟨z,its,n,r,e⟩:=I.hok l _ hH;exact⟨z,its,n,r,r.length,e⟩
theorem zvl{n:Nat}(h:n<=sizeLine):Ym n=false:=by
 unfold Ym;exact NI (by lia)
end
section
variable {X:Cx}
def zds:V->List V->Hp->VK->Prop:=λx vs H Q=>∃l xs y,x = .ref l/\vs = [y]/\H l=some (.lst xs)/\xs.length<sizeLine/\Q .non (upd H l (.lst (xs ++ [y])))
theorem zku:MtM X "list.append" zds:=by
 intro pins s σ H x vs v us Q I rx rv h;obtain⟨l,xs,y,rfl,rfl,hH,hz,q⟩:=h;cases rx;obtain⟨u,rfl,ru⟩:=rv.one;obtain⟨z,its,n,r,hl,e⟩:=I.lstM hH;refine MC F.slot_list_append ⟨_,e,rfl⟩ F.entry_list_append (F.args_list_append_2 _ _) (PySem.list_append l its.toArray n u (by rw[Q5];lia)) ⟨e,?_⟩;refine⟨.non,_,I.lset (its':=its ++ [u]) hH e (by simp) (r.append (.cons ru .nil)) ?_,rfl,q⟩;rw[Ql,Je];lia
def zdv:V->List V->Hp->VK->Prop:=λx vs H Q=>∃l b xs zs,x = .ref l/\vs = [.ref b]/\H l=some (.lst xs)/\H b=some (.lst zs)/\xs.length+zs.length<=sizeLine/\Q .non (upd H l (.lst (xs++zs)))
theorem zta:MtM X "list.extend" zdv:=by
 intro pins s σ H x vs v us Q I rx rv h;obtain⟨l,b,xs,zs,rfl,rfl,hH,hB,hz,q⟩:=h;cases rx;obtain⟨u,rfl,ru⟩:=rv.one;cases ru;obtain⟨z,its,n,r,hl,e⟩:=I.lstM hH;obtain⟨z2,its2,n2,r2,hl2,e2⟩:=I.lstM hB;have hsz:its.toArray.size+its2.toArray.size<=sizeLine:=by rw[Q5,Q5];lia
 have hlong:¬(!its.toArray.isEmpty && Ym (its.toArray.size+its2.toArray.size))=true:=by
  rw[zvl hsz,Gi];exact Q6
 refine MC F.slot_list_extend ⟨_,e,rfl⟩ F.entry_list_extend (F.args_list_extend_2 _ _)
  (AutoSeq1.list_extend_list_list_0 l its.toArray n b its2.toArray n2 hlong (by rw[Q5];lia) (by lia)) ⟨e,e2,?_⟩
 refine⟨.non,_,I.lset (its':=its++its2) hH e (by simp) (r.append r2) ?_,rfl,q⟩;rw[Ql];lia
def rPop:V->List V->Hp->VK->Prop:=λx vs H Q=>∃l xs y,x = .ref l/\vs = []/\H l=some (.lst xs)/\xs[xs.length-1]? = some y/\Q y (upd H l (.lst xs.dropLast))
theorem z1p:MtM X "list.pop" rPop:=by
 intro pins s σ H x vs v us Q I rx rv h;obtain⟨l,xs,y,rfl,rfl,hH,hy,q⟩:=h;cases rx;have hus:=rv.zero;subst hus;obtain⟨z,its,n,r,hl,e⟩:=I.lstM hH;obtain⟨u,hu,ru⟩:=r.get hy
 have hy':its.toArray[its.toArray.size-1]? = some u:=by
  show its.toArray[its.length-1]? = some u;rw[<- QG,<- hl];exact hu
 refine MC F.slot_list_pop ⟨_,e,rfl⟩ UO (F.args_list_pop_1 _) (MeetsSeq.list_pop_last l its.toArray n u hy' (by rw[Q5];lia)) ⟨e,?_⟩;refine⟨y,_,I.lset (its':=its.dropLast) hH e ?_ r.dropLast ?_,ru,q⟩
 .show its.toArray.eraseIdxIfInBounds (its.toArray.size-1)=its.dropLast.toArray;rw[Q5,Y4,zqe]
 .rw[List.length_dropLast];lia
def zix:V->List V->Hp->VK->Prop:=λx vs H Q=>∃l xs i k y,x = .ref l/\vs = [.int i]/\H l=some (.lst xs)/\-(2 ^ 63)<=i/\i<2 ^ 63/\Nq i xs.length=some k/\xs[k]? = some y/\Q y (upd H l (.lst (xs.eraseIdx k)))
theorem zv9:MtM X "list.pop" zix:=by
 intro pins s σ H x vs v us Q I rx rv h;obtain⟨l,xs,i,k,y,rfl,rfl,hH,h1,h2,hk,hy,q⟩:=h;cases rx;obtain⟨u,rfl,ru⟩:=rv.one;obtain⟨t,rfl⟩:=ru;obtain⟨z,its,n,r,hl,e⟩:=I.lstM hH;obtain⟨w,hw,rw'⟩:=r.get hy
 refine MC F.slot_list_pop ⟨_,e,rfl⟩ UO (F.args_list_pop_2 _ _)
  (MeetsSeq.list_pop_at l its.toArray n i t k w (fitsIndex_both h1 h2) (by rw[Q5,<- hl];exact hk) (by rw[<- QG];exact hw) (by rw[Q5];lia)) ⟨e,?_⟩
 refine⟨y,_,I.lset (its':=its.eraseIdx k) hH e ?_ (r.eraseIdx k) ?_,rw',q⟩
 .show its.toArray.eraseIdxIfInBounds k=(its.eraseIdx k).toArray;rw[Y4]
 .have:=zlb xs k;lia
def rCat:R2:=λx y H Q=>∃l b xs zs,x = .ref l/\y = .ref b/\H l=some (.lst xs)/\H b=some (.lst zs)/\xs.length+zs.length<=sizeLine/\∀p,H p=none->Q (.ref p) (upd H p (.lst (xs++zs)))
theorem op_cat:OpR X (Tw .Add) rCat:=by
 intro pins s σ H x y v u Q I rx ry h;obtain⟨l,b,xs,zs,rfl,rfl,hH,hB,hz,q⟩:=h;cases rx;cases ry;obtain⟨z,its,n,r,hl,e⟩:=I.lstM hH;obtain⟨z2,its2,n2,r2,hl2,e2⟩:=I.lstM hB;refine PySem.P.add_list e e2 ?_ (by rw[Q5,Q5];lia);have ea:its.toArray++its2.toArray=(its++its2).toArray:=by simp
 rw[ea];exact⟨.ref _,_,I.lnew (t':=s.toks) (r.append r2) (by rw[Ql];lia),rfl,q _ I.fresh⟩
end
section
variable {κ:Type}[DecidableEq κ]
def valV(kvs:List (κ×V))(k:κ):Option V:=(kvs.find? λkv=>decide (kv.1=k)).map (·.2)
def putK(kvs:List (κ×V))(k:κ)(v:V):List (κ×V) :=
 if(kvs.any λkv=>decide (kv.1=k))=true then kvs.map (λkv=>if kv.1=k then(kv.1,v) else kv) else kvs ++ [(k,v)]
theorem zht{p:κ×V}{r:List (κ×V)}{k:κ}(e:p.1=k):valV (p::r) k=some p.2:=by simp[valV,Jd,e]
theorem zh9{p:κ×V}{r:List (κ×V)}{k:κ}(e:¬p.1=k):valV (p::r) k=valV r k:=by simp[valV,Jd,e]
theorem znf(k:κ):∀kvs:List (κ×V),(kvs.any λkv=>decide (kv.1=k))=(valV kvs k).isSome
 | []=>rfl
 | p::r=>by
   rw[Uh]
   by_cases e:p.1=k
   .simp only[zht e,NH e,Bool.true_or,Us]
   .rw[zh9 e,NI e,Bool.false_or];exact znf k r
theorem zet(kvs:List (κ×V))(k:κ)(v:V):(putK kvs k v).length<=kvs.length+1:=by
 unfold putK
 split
 .rw[Qf];lia
 .rw[Ql,Qk,Yn];lia
theorem RelO.isSome_eq(r:RelO o u):o.isSome=u.isSome:=by
 cases o with
 | none=>cases u with
   | none=>rfl
   | some _=>exact(show False from r).elim
 | some _=>cases u with
   | none=>exact(show False from r).elim
   | some _=>rfl
theorem KV.val(r:KV kvs vs)(k:κ):RelO (valV kvs k) (MY vs k):=by
 unfold KV at r
 induction r with
 | nil=>exact Jw
 | @cons p q ps qs h t ih=>
   obtain⟨h1,h2⟩:=h
   by_cases e:p.1=k
   .have e':q.1=k:=h1.symm.trans e;have b:MY (q::qs) k=some q.2:=by simp[MY,Jd,e']
    rw[zht e,b];exact h2
   .have e':¬q.1=k:=λz=>e (h1.trans z);have b:MY (q::qs) k=MY qs k:=by simp[MY,Jd,e']
    rw[zh9 e,b];exact ih
theorem KV.any(r:KV kvs vs)(k:κ):(kvs.any λkv=>decide (kv.1=k))=vs.any λkv=>decide (kv.1=k):=by
 unfold KV at r
 induction r with
 | nil=>rfl
 | cons h t ih=>rw[Uh,Uh,ih,h.1]
theorem KV.repl(r:KV kvs vs)(k:κ)(ry:RelV y u):
 KV (kvs.map λkv=>if kv.1=k then(kv.1,y) else kv) (vs.map λkv=>if kv.1=k then(kv.1,u) else kv):=by
 unfold KV at r ⊢
 induction r with
 | nil=>exact .nil
 | @cons p q ps qs h t ih=>
   rw[Q8,Q8];refine .cons ?_ ih;obtain⟨h1,h2⟩:=h
   by_cases e:p.1=k
   .rw[ND e,ND (h1.symm.trans e)];exact⟨h1,ry⟩
   .rw[NE e,NE (λz=>e (h1.trans z))];exact⟨h1,h2⟩
theorem KV.put(r:KV kvs vs)(k:κ)(ry:RelV y u):KV (putK kvs k y) (stored vs k u):=by
 unfold putK stored;rw[r.any k]
 by_cases e:(vs.any λkv=>decide (kv.1=k))=true
 .rw[ND e,ND e];exact r.repl k ry
 .rw[NE e,NE e];exact G0 r ⟨rfl,ry⟩
theorem KV.length(r:KV kvs vs):kvs.length=vs.length:=Vo r
end
theorem zl2(r:RelV (kV k) u):(za8 P w).is k u=true:=by
 cases k with
 | inl i=>obtain⟨t,e⟩:=(show ∃t,u=Jb i t from r);subst e;exact zoi P w i t
 | inr x=>obtain⟨t,e⟩:=(show ∃t,u=Vx x t from r);subst e;exact zod P w x t
theorem zki: ∀{ks:List Key} {us:List G5},Vals (ks.map kV) us->ItemsAre (za8 P w) ks us
 | [],_,r=>by rw[YQ] at r;cases r;exact .nil
 | k::ks,_,r=>by
   rw[Q8] at r
   cases r with
   | cons h t=>exact .cons (zl2 h) (zki t)
abbrev KT(H:Hp):List (List Key×V)->List (List Key×Addr×G5)->Prop:=M4 λp q=>p.1=q.1/\H q.2.1=some (.tup (p.1.map kV))/\RelV p.2 q.2.2
theorem KT.val(r:KT H kvs xs)(k:List Key):RelO (valV kvs k) ((Nv xs k).map (·.2)):=by
 induction r with
 | nil=>exact Jw
 | @cons p q ps qs h t ih=>
   obtain⟨h1,_,h2⟩:=h
   by_cases e:p.1=k
   .have e':q.1=k:=h1.symm.trans e;have b:Nv (q::qs) k=some q.2:=by simp[Nv,Jd,e']
    rw[zht e,b];exact h2
   .have e':¬q.1=k:=λz=>e (h1.trans z);have b:Nv (q::qs) k=Nv qs k:=by simp[Nv,Jd,e']
    rw[zh9 e,b];exact ih
theorem KT.repl(r:KT H kvs xs)(k:List Key)(ry:RelV y u):
 KT H (kvs.map λkv=>if kv.1=k then(kv.1,y) else kv) (xs.map (putAt k u)):=by
 induction r with
 | nil=>exact .nil
 | @cons p q ps qs h t ih=>
   rw[Q8,Q8];refine .cons ?_ ih;obtain⟨h1,h2,h3⟩:=h;unfold putAt
   by_cases e:p.1=k
   .rw[ND e,ND (h1.symm.trans e)];exact⟨h1,h2,ry⟩
   .rw[NE e,NE (λz=>e (h1.trans z))];exact⟨h1,h2,h3⟩
theorem KT.put(r:KT H kvs xs)(k:List Key)(hb:H b=some (.tup (k.map kV)))(ry:RelV y u):
 KT H (putK kvs k y) (storedH xs k b u):=by
 have e:(kvs.any λkv=>decide (kv.1=k))=(Nv xs k).isSome:=by
  rw[znf,(r.val k).isSome_eq,Option.isSome_map]
 unfold putK storedH;rw[e]
 by_cases q:(Nv xs k).isSome=true
 .rw[ND q,ND q];exact r.repl k ry
 .rw[NE q,NE q];exact G0 r ⟨rfl,hb,ry⟩
theorem KT.keeps(r:KT H kvs xs)(ht:∀b ys,H b=some (.tup ys)->H' b=some (.tup ys)):KT H' kvs xs :=
 Paired.mapP r λ_ _ z=>⟨z.1,ht _ _ z.2.1,z.2.2⟩
section
variable {P:GB}{w:GD}{H:Hp}{h:Heap}{a:Addr}
theorem zww(ok:HOk P w H h)(e:Rd H a u):ObjOk P w H h a u:=e.ok ok
theorem zrj(ok:HOk P w H h)(e:Rd H a (.dK kvs)):kvs.length<=sizeLine/\(a == TB)=false/\∃vs,KV kvs vs/\h.DictOf (za8 P w) a vs :=
 show ObjOk P w H h a (.dK kvs) from zww ok e
theorem zw5(ok:HOk P w H h)(e:H a=some (.dK kvs)):kvs.length<=sizeLine/\(a == TB)=false/\∃vs,KV kvs vs/\h.DictOf (za8 P w) a vs:=zrj ok (.inl e)
theorem zm4(ok:HOk P w H h)(e:H a=some (.tup (ks.map kV))):(tupleKind (za8 P w)).is h ks a:=by
 obtain⟨_,its,r,o,h1,h2,n,h3⟩:=(show ObjOk P w H h a (.tup (ks.map kV)) from ok a _ e);exact⟨o,its.toArray,n,h1,h2,h3,by simpa using zki r⟩
theorem zq3(ok:HOk P w H h)(e:Rd H a (.dT kvs)):kvs.length<=sizeLine/\(a == TB)=false /\
 ∃xs,KT H kvs xs/\h.DictOfH (tupleKind (za8 P w)) a xs:=by
 obtain⟨z,y,xs,r,o,es,ep,h1,h2,h3,h4,h5⟩:=(show ObjOk P w H h a (.dT kvs) from zww ok e);refine⟨z,y,xs,r,o,es,ep,h1,h2,h3,h4,λx hx=>?_,h5⟩
 have all:∀{l:List (List Key×V)} {m:List (List Key×Addr×G5)},KT H l m->∀x∈m,(tupleKind (za8 P w)).is h x.1 x.2.1:=by
  intro l m q
  induction q with
  | nil=>intro x hx;exact nomatch hx
  | @cons p q ps qs hq t ih=>
    intro x hx;rcases Qs.mp hx with e|hx
    .subst e;exact zm4 ok (by rw[<- hq.1];exact hq.2.1)
    .exact ih x hx
 exact all r x hx
theorem z4n(ok:HOk P w H h)(e:H a=some (.dT kvs)):kvs.length<=sizeLine/\(a == TB)=false /\
 ∃xs,KT H kvs xs/\h.DictOfH (tupleKind (za8 P w)) a xs:=zq3 ok (.inl e)
end
def DGet(H:Hp)(a:Addr)(y:V)(r:Option V):Prop :=
 (∃kvs k,Rd H a (.dK kvs)/\y=kV k/\r=valV kvs k)\/∃kvs k b,Rd H a (.dT kvs)/\y = .ref b/\H b=some (.tup (k.map kV))/\r=valV kvs k
def DPut(H:Hp)(a:Addr)(y v:V)(H':Hp):Prop :=
 (∃kvs k,H a=some (.dK kvs)/\y=kV k/\kvs.length<sizeLine/\H'=upd H a (.dK (putK kvs k v))) \/
 ∃kvs k b,H a=some (.dT kvs)/\y = .ref b/\H b=some (.tup (k.map kV))/\kvs.length<sizeLine/\H'=upd H a (.dT (putK kvs k v))
section
variable {X:Cx}{pins:List (Addr×Obj)}{σ:St}{H:Hp}{s:G8}{a:Addr}{y v:V}{u r:G5}{o:Option V}{A:GF}{E:G5->G8->Prop}
theorem Inv.big(I:Inv X pins σ H s):TB<s.heap.objs.size:=by
 have h:mainGlobals<s.heap.objs.size:=(I.mod.glob.keeps I.bk).lt;exact Nat.lt_trans (by decide) h
theorem zro(hu:A.units+1<cLine)(I:Inv X pins σ H s)(g:DGet H a y (some v))(ry:RelV y u)(h:∀w' s',Inv X pins σ H s'->RelV v w'->Q w' s'):
 wpAny (model X.prog X.w) A (Mg (.ref a) u) Q E s:=by
 rcases g with ⟨kvs,k,e,ey,l⟩|⟨kvs,k,b,e,ey,eb,l⟩
 .subst ey;obtain⟨z,hd,vs,rel,dd⟩:=zrj I.hok e;obtain⟨w',hw,rw'⟩:=RelO.some_of (v:=v) (o:=MY vs k) (by rw[l];exact rel.val k);exact wpAny_getItem_of (zl2 ry) dd.mapOf hw (h w' _ (I.tok _) rw')
 .subst ey;cases (show u=ZH b from ry);obtain⟨z,hd,xs,rel,dd⟩:=zq3 I.hok e;obtain⟨w',hw,rw'⟩:=RelO.some_of (v:=v) (o:=(Nv xs k).map (·.2)) (by rw[l];exact rel.val k);obtain⟨p,hp,hp2⟩:=Q4.mp hw;refine wpAny_getItem_heap (tupleKind_room_in1 hu) (zm4 I.hok eb) dd hp ?_;rw[hp2];exact h w' _ (I.tok _) rw'
theorem zj0{t':Nat}(I:Inv X pins σ H s)(mu:Mut (H a))(hs:ZI a s.heap h')(he:∃q,h'.get? a=some q)(new:ObjOk X.prog X.w (upd H a ob) h' a ob):
 Inv X pins σ (upd H a ob) { s with heap:=h',toks:=t' } :=
 I.write (x:=a) (e:=a) mu (.inl rfl) (λb q hb z=>(hs.2 b hb).trans z) he new
theorem zrn(z:kvs.length<=sizeLine)(hd:(a == TB)=false)(rel:KV kvs vs)(dd:h'.DictOf (za8 P w) a vs):
 ObjOk P w H' h' a (.dK kvs):=⟨z,hd,vs,rel,dd⟩
theorem zto(hu:A.units+1<cLine)(I:Inv X pins σ H s)(g:DPut H a y v H')(ry:RelV y u)(rv:RelV v r)(h:∀s',Inv X pins σ H' s'->Q () s'):
 wpAny (model X.prog X.w) A (setItem (.ref a) u r) Q E s:=by
 rcases g with ⟨kvs,k,e,ey,l,eH⟩|⟨kvs,k,b,e,ey,eb,l,eH⟩
 .subst ey eH;obtain⟨z,hd,vs,rel,dd⟩:=zw5 I.hok e;have hz:vs.length<=sizeLine:=by rw[<- rel.length];exact z
  have hl:(putK kvs k v).length<=sizeLine:=by have:=zet kvs k v;lia
  refine wpAny_setItem_pairs (hsz:=hz) (zl2 ry) dd λh' dd' hs=>h _ ?_;have he:∃q,h'.get? a=some q:=let ⟨q,_,_,hq,_⟩:=dd';⟨q,hq⟩
  exact zj0 I (by rw[e];exact Jw) hs he (zrn hl hd (rel.put k rv) dd')
 .subst ey eH;cases (show u=ZH b from ry);obtain⟨z,hd,xs,rel,dd⟩:=z4n I.hok e;have hz:xs.length<=sizeLine:=by rw[<- Vo rel];exact z
  have hl:(putK kvs k v).length<=sizeLine:=by have:=zet kvs k v;lia
  refine wpAny_setItem_heap (hsz:=hz) (tupleKind_room_in1 hu) (zm4 I.hok eb) dd λh' dd' hs=>h _ ?_;obtain⟨q,es,ep,hq,h2,h3,h4,_,h5⟩:=dd';refine zj0 I (by rw[e];exact Jw) hs ⟨q,hq⟩ ⟨hl,hd,_,(rel.put k eb rv).keeps λc ys ec=>?_,q,es,ep,hq,h2,h3,h4,h5⟩;rw[zaa (z5m ec e (λz=>nomatch z))];exact ec
end
def NoSl(i:Expr):Prop:=∀ov iv,subscripted i false ov iv=operate [ov,iv] (Mg ov iv)
theorem zxp{prog:GB}{w:GD}{A:GF}{E:G5->G8->Prop}{s:G8}{env:Env}{value slice:Expr}{pos:Pos}{T id:String}{Q:G5->G8->Prop}
 (hl:Nf (.type T) "__getitem__" = pure (some (.builtin id))) (hs:NoSl slice)
 (h:wpAny (model prog w) A (eval value env) (λo s₁=>wpAny (model prog w) A (eval slice env) (λi s₂=>s₂.TypeIs o T/\wpAny (model prog w) A (Mg o i) Q E s₂) E s₁) E s) :
 wpAny (model prog w) A (eval (.Subscript value slice pos) env) Q E s:=by
 refine Subscript_ (GM h (λo s₁ h₁=>GM h₁ (λi s₂ h₂=>?_) λ_ _ x=>x) λ_ _ x=>x);obtain⟨hT,h₂⟩:=h₂;unfold Nb;refine G4 ?_;rw[getitemInPython_of_ne hT.not_modules];refine G4 (TY hT hl ?_)
 have fin:wpAny (model prog w) A (subscripted slice false o i) (λr s₃=>wpAny (model prog w) A (letTemporaryGo value o r >>= λ_=>pure r) Q E s₃) E s₂:=by
  rw[hs o i];exact wpAny_operating (GM h₂ (λr s₃ h₃=>G4 (wpAny_letTemporaryGo (G6 h₃))) λ_ _ x=>x)
 first
  | exact G6 (G4 fin)
  | exact G4 (G6 (G4 fin))
  | exact G4 fin
theorem zoo{pins:List (Addr×Obj)}(I:Inv X pins σ H s)(g:DGet H a y o):s.TypeIs (.ref a) "dict" := by
 rcases g with ⟨kvs,k,e,_,_⟩|⟨kvs,k,b,e,_,_,_⟩
 .obtain⟨_,_,vs,_,dd⟩:=zrj I.hok e;exact dd.typeIs
 .obtain⟨_,_,xs,_,dd⟩:=zq3 I.hok e;exact dd.typeIs
def zxh(td ty:TE):TE:=λσ H Q=>td σ H λx H1=>ty σ H1 λy H2=>∃a v,x = .ref a/\DGet H2 a y (some v)/\Q v H2
def zlv(td ty tv:TE):TS:=λD σ H=>tv σ H λv H1=>td σ H1 λx H2=>ty σ H2 λy H3=>∃a H4,x = .ref a/\DPut H3 a y v H4/\D.nx σ H4
section
variable {X:Cx}{o i e value:Expr}{pos pos' tpos:Pos}{td ty tv:TE}
theorem zc1(hu:X.A.units+1<cLine)(ho:PE X o td)(hi:PE X i ty)(hs:NoSl i):PE X (.Subscript o i pos) (zxh td ty):=by
 intro pins s σ H Q I h;refine zxp PySem.F.slot_dict_getitem.lookup hs (thn (ho pins s σ H _ I h) λu s1 ⟨x,H1,I1,rx,q1⟩=>thn (hi pins s1 σ H1 _ I1 q1) λiv s2 zz=>?_);obtain⟨y,H2,I2,ry,a,v,ex,g,q2⟩:=zz;subst ex;obtain rfl:u=ZH a:=rx;exact⟨zoo I2 g,zro hu I2 g ry λw' s3 I3 rw'=>⟨v,H2,I3,rw',q2⟩⟩
theorem zjr(hu:X.A.units+1<cLine)(ho:PE X o td)(hi:PE X i ty)(hv:PE X value tv)(hs:Tj value (some (.Subscript o i pos')) pos.line X.env=pure false):
 PS X (.Assign [.Subscript o i pos'] value pos) (zlv td ty tv):=by
 intro pins s σ H D I h;refine wpAny_Assign_Subscript (thn (hv pins s σ H _ I h) λr s1 ⟨v,H1,I1,rv,q1⟩=>thn (ho pins s1 σ H1 _ I1 q1) λu s2 ⟨x,H2,I2,rx,q2⟩=>thn (hi pins s2 σ H2 _ I2 q2) λiv s3 zz=>?_) hs;obtain⟨y,H3,I3,ry,a,H4,ex,g,q3⟩:=zz;subst ex;obtain rfl:u=ZH a:=rx;exact zto hu I3 g ry rv λs4 I4=>⟨σ,H4,I4,q3⟩
end
theorem zuu(h:Heap)(hb:TB<h.objs.size):ObjOk P w H (h.push { cls:=.type "dict",data:=.dict #[] }) h.objs.size (.dK []) :=
 ⟨QI _,beq_eq_false_iff_ne.mpr (ZC (Q1 hb)),[],.nil,Heap.DictOf.new h⟩
def zmv:List (TE×TE)->St->Hp->(List (V×V)->Hp->Prop)->Prop
 | [],_,H,Q=>Q [] H
 | (tk,tv)::r,σ,H,Q=>tk σ H λx H1=>tv σ H1 λy H2=>zmv r σ H2 λps H3=>Q ((x,y)::ps) H3
abbrev VV:List (V×V)->List (G5×G5)->Prop:=M4 λp q=>RelV p.1 q.1/\RelV p.2 q.2
def PPs(X:Cx)(pos:Pos)(keys:List (Option Expr))(values:List Expr)(trs:List (TE×TE)):Prop :=
 ∀(pins:List (Addr×Obj)) (s:G8) (σ:St) (H:Hp) (Q:List (V×V)->Hp->Prop),Inv X pins σ H s->zmv trs σ H Q ->
   wpAny (model X.prog X.w) X.A (evalPairs (pairTrees keys values X.env pos)) (λvs s'=>∃ps H',Inv X pins σ H' s'/\VV ps vs/\Q ps H') X.xe s
theorem zx8: PPs X pos [] [] []:=λpins s σ H Q I h=>pairTrees_nil_walk ⟨[],H,I,.nil,h⟩
theorem zh6(hk:PE X k tk)(hv:PE X v tv)(hr:PPs X pos ks vs trs):
 PPs X pos (some k::ks) (v::vs) ((tk,tv)::trs):=λpins s σ H Q I h=>
 pairTrees_cons_walk (thn (hk pins s σ H _ I h) λu s1 ⟨x,H1,I1,rx,q1⟩=>thn (hv pins s1 σ H1 _ I1 q1) λw2 s2 ⟨y,H2,I2,ry,q2⟩=>
  thn (hr pins s2 σ H2 _ I2 q2) λws s3 ⟨ps,H3,I3,rel,q3⟩=>⟨(x,y)::ps,H3,I3,.cons ⟨rx,ry⟩ rel,q3⟩)
def zd3(kvs more:List (Key×V)):List (Key×V):=more.foldl (λacc kv=>putK acc kv.1 kv.2) kvs
theorem KV.merge:∀{more:List (Key×V)} {rs:List (Key×G5)} {kvs:List (Key×V)} {vs:List (Key×G5)},KV more rs->KV kvs vs->KV (zd3 kvs more) (merged vs rs):=by
 intro more rs kvs vs r;unfold KV at r
 induction r generalizing kvs vs with
 | nil=>intro q;exact q
 | @cons p q ps qs h t ih=>
   intro r0
   have e:KV (putK kvs p.1 p.2) (stored vs q.1 q.2):=by
    have:=r0.put p.1 h.2;rw[<- h.1];exact this
   exact ih e
theorem zf4:∀(more kvs:List (Key×V)),(zd3 kvs more).length<=kvs.length+more.length
 | [],kvs=>by show kvs.length<=kvs.length+0;lia
 | p::r,kvs=>by
   have h1:=zf4 r (putK kvs p.1 p.2);have h2:=zet kvs p.1 p.2;show(zd3 (putK kvs p.1 p.2) r).length<=_;rw[Qk];lia
theorem zi8: ∀{kvs:List (Key×V)} {ws:List (G5×G5)},VV (kvs.map λkv=>(kV kv.1,kv.2)) ws->∃rs,Carries (za8 P w) ws rs/\KV kvs rs
 | [],_,r=>by rw[YQ] at r;cases r;exact⟨[],Jw,.nil⟩
 | p::kvs,_,r=>by
   rw[Q8] at r
   cases r with
   | @cons a b as bs h t=>
     obtain⟨rs,c,q⟩:=zi8 (P:=P) (w:=w) t;obtain⟨b1,b2⟩:=b;exact⟨(p.1,b2)::rs,⟨zl2 h.1,rfl,c⟩,.cons ⟨rfl,h.2⟩ q⟩
def zwq(trs:List (TE×TE)):TE:=λσ H Q=>∀p,H p=none->zmv trs σ (upd H p (.dK [])) λps H2=>H2 p=some (.dK [])/\∃kvs:List (Key×V),ps=kvs.map (λkv=>(kV kv.1,kv.2))/\kvs.length<=15/\Q (.ref p) (upd H2 p (.dK (zd3 [] kvs)))
theorem zxx{keys:List (Option Expr)}{values:List Expr}(h:PPs X pos keys values trs)(hall:keys.all (·.isSome)=true)(hl:keys.length=values.length)(h0:keys≠[])
 (h15:keys.length<=15):PE X (.Dict keys values pos) (zwq trs):=by
 intro pins s σ H Q I q;have hn:=I.hok.fresh (Qg s.heap.objs.size);have I1:=I.laid (a:=s.heap.objs.size) (o:=.dK []) (h':=s.heap.push { cls:=.type "dict",data:=.dict #[] }) (t':=s.toks) (λ_ _ q=>Qc _ q) (Qg _) (zuu s.heap I.big);refine wpAny_Dict_walk (knd:=za8 X.prog X.w) hall hl h0 h15 (thn (h pins _ σ _ _ I1 (q _ hn)) λws s2 zz=>?_);obtain⟨ps,H2,I2,rel,e,kvs,ep,lk,q2⟩:=zz;subst ep;obtain⟨rs,c,rk⟩:=zi8 (P:=X.prog) (w:=X.w) rel;obtain⟨z,hd,vs0,r0,dd⟩:=zw5 I2.hok e;cases r0;refine⟨rs,c,dd,λh' dd' hs=>⟨.ref s.heap.objs.size,_,?_,rfl,q2⟩⟩
 have hz:(zd3 [] kvs).length<=sizeLine:=by
  have h1:=zf4 kvs [];rw[Yn] at h1;rw[GE];lia
 have he:∃q,h'.get? s.heap.objs.size=some q:=let ⟨q,_,_,hq,_⟩:=dd';⟨q,hq⟩
 exact zj0 I2 (by rw[e];exact Jw) hs he (zrn hz hd (rk.merge .nil) dd')
end L2
namespace Att
open PySem PySem.W PySem.Calls PyProof.Rows
theorem zih: ∀(ns:List Int) (vs:List G5),WellAll P h vs (ns.map WData.int)->N0 vs ns:=by
 intro ns
 induction ns with
 | nil=>
   intro vs w;rw[YQ] at w;cases w;exact .nil
 | cons n ns ih=>
   intro vs w;rw[Q8] at w
   cases w with
   | cons a b=>
     cases a;exact .cons _ _ (ih _ b)
theorem zti{l:OpenLaw}{n:Nat}(hn:l.most=some n){P:Params}{h:Heap}{args:List WData}{vals:List G5}
 (hpre:l.row.toRowW.claim.pre args=true) (hwl:WellAll P h vals args) :
 ∃a vs ns,vals = [ZH a]/\args = [WData.list (ns.map WData.int)]/\h.get? a=some { cls:=.type "list",data:=.seq vs.toArray }/\N0 vs ns/\ns.length<=n:=by
 have hsh:WShape.hasAll [] args [.list .int]=true:=(pre_splitW hpre).1;have hc:l.pre.holds [] { args:=args }=true:=(pre_splitW hpre).2;obtain⟨d,r,rfl,h1,h2⟩:=hasAllW_cons hsh;obtain rfl:=hasAllW_nil h2;obtain⟨xs,rfl,h3⟩:=hasW_list h1;obtain⟨ns,rfl⟩:=items_int h3
 have hlen:ns.length<=n:=by
  unfold OpenLaw.pre at hc
  have h4:(WTm.not (.lt (.lit (.int (n:Int))) (.len (.arg 0)))).holds [] { args:=[.list (ns.map .int)] }=true:=by
   have h4:=(holds_andW hc).1;rw[hn] at h4;exact h4
  have h5:=condW_of h4 (w_not (w_lt w_lit (w_len_list (w_arg rfl))));rw[Qf] at h5;refine Vy λq=>?_;have q':(n:Int)<((ns.length:Nat):Int):=by lia
  first
   | (rw[NH q'] at h5;exact absurd h5 (by decide))
   | (simp at h5;lia)
 cases hwl with
 | cons w1 w2=>
   cases w2
   cases w1 with
   | list ho hall=>exact⟨_,_,ns,rfl,rfl,ho,zih ns _ hall,hlen⟩
theorem zsw(l:OpenLaw)(args:List WData):l.row.toRowW.claim.post args (.bool true) args=true :=
 postW_of (r:=l.row.toRowW) (X:=(true == true))
  (show WShape.has [] (.bool true) .bool=true by first|rfl|decide|simp[WShape.has,WShape.arms,WShape.armsAll])
  (show(WTm.eq .res (.lit (.bool true))).value [] { args:=args,res:=some (.bool true),after:=args }=some (.bool (true == true)) from w_eq_bool (w_res rfl) w_lit) rfl
theorem attach_call{l:OpenLaw}{n:Nat}{q:GB}{loose:List Str}{XP:(Str->Option G5)->Heap->Prop}{YP:GD->Heap->Prop}{d:DefRec}
 (hn:l.most=some n) (hdf:d.params.defaults = [])
 (call:∀(w:GD) (s₀ s₁:G8) (mg mb:Str->Option G5) (fa:Addr) (o:Obj) (pm cd doc:G5) (a:Addr) (vs:List G5) (ns:List Int),
  Ground q loose [] XP w s₀ mg mb s₁.heap->YP w s₁.heap ->
  s₁.heap.get? fa=some o->o.data = .func (docDef d.name d.params d.body d.scope pm cd doc)->s₁.heap.CodeRec cd d.name->mg d.name=some (.ref fa) ->
  s₁.heap.get? a=some { cls:=.type "list",data:=.seq vs.toArray }->N0 vs ns->ns.length<=n->s₁.gens = #[] ->
  Mf (model l.prog w) callerA (.call (.ref fa) ⟨[.ref a],[]⟩) (λr s'=>r = .ok (.ret (.bool true))/\OldK s₁.heap s'.heap/\s'.os=s₁.os/\Mz s'.gens) s₁) :
 WalkO q loose XP YP l.row.toRowW d [] (λf vs=>Gj f vs):=by
 intro w s₀ s₁ mg mb G Y fa o pm cd doc dV kV ho hd hcd hD hmg hg args vals as hpre hlay hrd hwl hlo;obtain rfl:dV = .none:=Dflts.none hD hdf;obtain rfl:kV = .none:=Dflts.noKw hD;obtain⟨a,vs,ns,rfl,rfl,hobj,hints,hlen⟩:=zti hn hpre hwl;refine enter_call (To (call w s₀ s₁ mg mb fa o pm cd doc a vs ns G Y ho (fd_plain hd) hcd hmg hobj hints hlen hg) λr s' hq=>?_);obtain⟨rfl,h2,h3,h4⟩:=hq;exact⟨.inl ⟨.bool true,.bool true,[],rfl,λ_=>rfl,.bool true,zsw l _,λ_=>⟨U8,λ_ hm=>(nomatch hm)⟩⟩,h2,h3,h4⟩
end Att
namespace L2
open PySem PySem.Spec PyProof.Rows
theorem zk8:∀{vs:List G5} {ns:List Int},N0 vs ns->Vals (ns.map V.int) vs
 | _,_,.nil=>.nil
 | _,_,.cons n t h=>.cons ⟨t,rfl⟩ (zk8 h)
def zbk(s:Stmt):TR:=match s with
 | .FunctionDef _ a _ _ _ _ _ _ _ _=>a
 | _=>{ posonlyargs:=[],args:=[],vararg:=none,kwonlyargs:=[],kw_defaults:=[],kwarg:=none,defaults:=[] }
def zan(s:Stmt):List Stmt:=match s with
 | .FunctionDef _ _ b _ _ _ _ _ _ _=>b
 | _=>[]
def zab(s:Stmt):GV:=match s with
 | .FunctionDef _ _ _ _ _ _ sc _ _ _=>sc
 | _=>{ kind:=.function,names:=[],isGenerator:=false,isCoroutine:=false }
abbrev CX0:CXT:=λ_ _ _ _ _ _=>False
abbrev E0:XK:=λ_ _ _=>False
theorem zg1: zmc CX0 X E0:=λ_ _ _ _ _ _ _ h=>h.elim
structure Fun(K:Qa)(x qual:Str)(st:Stmt)(f:Addr)(fd:Tu):Prop where
 ex:∃(oc:G5) (od:Option Addr) (kV doc pm:G5) (an:Option Addr) (cdv ct:G5) (osl:Array (Option G5)),
  fd=Z2 x qual (zbk st) (zan st) (zab st) .none kV doc pm an cdv ct/\K.lookup f=some ⟨oc,od,.func fd,osl⟩/\JE K cdv qual=true
 kp:Jn K (.ref f)=true
section
variable {P:GB}{w:GD}{K:Qa}{mg:Str->Option G5}{base:Heap}
theorem Fun.ok{x qual:Str}{st:Stmt}{f:Addr}{fd:Tu}{N ps:List Str}{k:Nat}{sp:Sp}(F:Fun K x qual st f fd)(S:FnScope N ps (zab st))(len:∀vs H Q E,sp vs H Q E->vs.length=ps.length)
 (hbody:∀(cdv:G5) (A:GF) (outer:List Env) (s:G8) (H:Hp) (vs:List V) (Q:VK) (E:XK),Room k (A.deeper (ME qual (zab st) s.heap.objs.size f cdv))->sp vs H Q E ->
  ∃t,PSs (cxOf CX0 P w K mg base N qual (zab st) f cdv A outer s H E).nox (zan st) t/\t { nx:=λ_ H'=>Q .non H',rt:=Q } (start N vs) H):FnOk P w K mg base CX0 (k+1) f fd ps sp:=by
 obtain⟨oc,od,kV,doc,pm,an,cdv,ct,osl,rfl,lk,hcd⟩:=F.ex;refine zw8 lk hcd S len λA outer s H vs Q E hr hsp=>?_;obtain⟨t,h,q⟩:=hbody cdv A outer s H vs Q E hr hsp;exact⟨t,h.nox,q⟩
theorem Fun.binds{x qual:Str}{st:Stmt}{f:Addr}{fd:Tu}{ps:List Str}(F:Fun K x qual st f fd)
 (h:∀(kV doc pm:G5) (an:Option Addr) (cdv ct:G5) (us:List G5),us.length=ps.length->Tn (Z2 x qual (zbk st) (zan st) (zab st) .none kV doc pm an cdv ct) ⟨us,[]⟩=pure (ps.zip us)):Binds K fd ps []:=by
 obtain⟨oc,od,kV,doc,pm,an,cdv,ct,osl,rfl,lk,hcd⟩:=F.ex;exact .all (h kV doc pm an cdv ct)
theorem zrz{x qual:Str}{st:Stmt}{f:Addr}{oc:G5}{od an:Option Addr}{osl:Array (Option G5)}{kV doc pm cdv ct:G5}(l:K.lookup f=some ⟨oc,od,.func (Z2 x qual (zbk st) (zan st) (zab st) .none kV doc pm an cdv ct),osl⟩)
 (c:JE K cdv qual=true) (k:Jn K (.ref f)=true):Fun K x qual st f (Z2 x qual (zbk st) (zan st) (zab st) .none kV doc pm an cdv ct):=⟨⟨oc,od,kV,doc,pm,an,cdv,ct,osl,rfl,l,c⟩,k⟩
end
theorem zc4{k:Nat}(hr:Room k A):A.units+1<cLine:=YY (Nat.add_le_add_left (by decide:1<=64) _) hr.units
theorem iteF{A B:Prop}(h:B):if false=true then A else B:=by
 rw[NE Q6];exact h
theorem iteT{A B:Prop}(h:A):if true=true then A else B:=by
 rw[ND rfl];exact h
theorem ite2{c A B:Prop}[Decidable c](h1:c->A)(h2:¬c->B):if c then A else B:=by
 by_cases h:c
 .rw[ND h];exact h1 h
 .rw[NE h];exact h2 h
def Same(H H':Hp):Prop:=∀b o,H b=some o->H' b=some o
theorem Same.refl(H:Hp):Same H H:=λ_ _ h=>h
theorem Same.trans(a:Same H H1)(b:Same H1 H2):Same H H2:=λc o h=>b c o (a c o h)
theorem Same.free(e:Same H H')(h:H' l=QP):H l=QP:=by
 cases q:H l with
 | none=>rfl
 | some o=>
   rw[e l o q] at h;cases h
theorem Same.seq{K:Qa}{H H':Hp}{a:Addr}{xs:List V}(e:Same H H')(h:SqL K H a xs):SqL K H' a xs:=by
 rcases h with (h|⟨o,h⟩)|h
 .exact .inl (.inl (e _ _ h))
 .exact .inl (.inr ⟨o,e _ _ h⟩)
 .exact .inr h
end L2
set_option maxHeartbeats 4000000
namespace L3
open PySem PySem.Spec
open PyProof.Rows hiding St
open L2
theorem zqw{α β:Type}{l:List α}{f:α->β->Sem (ForInStep β)}(g:α->β->β):∀(c:β),(∀x∈l,∀c,f x c=pure (.yield (g x c)))->forIn l c f=pure (l.foldl (λc x=>g x c) c):=by
 induction l with
 | nil=>intro c _;rfl
 | cons x l ih=>
   intro c h;rw[Gb,h x Qu,pure_bind];exact ih (g x c) λy hy=>h y (Qe _ hy)
def clOf(ns:List (Str×Tv))(env:Env):List (Str×Addr):=ns.foldl (λcs x=>if x.2 == .free then(x.1,(env.cells.lookup x.1).getD 0)::cs else cs) []
theorem zie{scope:GV}(h:∀p∈scope.names,p.2 = .free->∃c,env.cells.lookup p.1=some c):closureFor scope env=pure (clOf scope.names env):=by
 simp only[closureFor];unfold clOf;rw[zqw (λ(x:Str×Tv) (cs:List (Str×Addr))=>if x.2 == .free then(x.1,(env.cells.lookup x.1).getD 0)::cs else cs)]
 .rfl
 .intro x hx c;obtain⟨n,k⟩:=x;dsimp only
  by_cases hk:k = .free
  .subst hk;obtain⟨a,ha⟩:=h _ hx rfl;have ha':env.cells.lookup n=some a:=ha;simp only[NM,NL,cellOf,ha',pure_bind,UP]
  .have hb:(k == QL)=false:=by simpa using hk
   simp only[hb,QM,NJ]
theorem zyo{env:Env}{x:Str}:∀(ns:List (Str×Tv)) (acc:List (Str×Addr)) (c:Addr),
 (ns.foldl (λcs y=>if y.2 == .free then(y.1,(env.cells.lookup y.1).getD 0)::cs else cs) acc).lookup x=some c->acc.lookup x=some c\/((x,QL)∈ns/\c=(env.cells.lookup x).getD 0):=by
 intro ns
 induction ns with
 | nil=>intro acc c h;exact .inl h
 | cons y r ih=>
   intro acc c h;obtain⟨n,k⟩:=y;rw[Yo] at h;rcases ih _ c h with h1|⟨h1,h2⟩
   .by_cases hk:k = .free
    .subst hk;simp only[NM,NL] at h1
     by_cases hx:x=n
     .subst hx;rw[ZA] at h1;cases h1;exact .inr ⟨Qu,rfl⟩
     .have hb:(x == n)=false:=by simpa using hx
      rw[ZS,hb] at h1;exact .inl h1
    .have hb:(k == QL)=false:=by simpa using hk
     simp only[hb,QM,NJ] at h1;exact .inl h1
   .exact .inr ⟨Qe _ h1,h2⟩
theorem zoj{env:Env}{x:Str}:∀(ns:List (Str×Tv)) (acc:List (Str×Addr)),(acc.lookup x).isSome=true\/(x,QL)∈ns ->
 ((ns.foldl (λcs y=>if y.2 == .free then(y.1,(env.cells.lookup y.1).getD 0)::cs else cs) acc).lookup x).isSome=true:=by
 intro ns
 induction ns with
 | nil => intro acc h;rcases h with h|h
          .exact h
          .exact absurd h (by simp)
 | cons y r ih=>
   intro acc h;obtain⟨n,k⟩:=y;rw[Yo];refine ih _ ?_
   by_cases hk:k = .free
   .subst hk;simp only[NM,NL]
    by_cases hx:x=n
    .subst hx;left;rw[ZA];rfl
    .have hb:(x == n)=false:=by simpa using hx
     rw[ZS,hb];rcases h with h|h
     .exact .inl h
     .rcases Qs.mp h with z|z
      .injection z with z1 _;exact absurd z1 hx
      .exact .inr z
   .have hb:(k == QL)=false:=by simpa using hk
    simp only[hb,QM,NJ];rcases h with h|h
    .exact .inl h
    .rcases Qs.mp h with z|z
     .injection z with _ z2;exact absurd z2.symm hk
     .exact .inr z
theorem zl6(h:(clOf ns env).lookup x=some c):(x,QL)∈ns/\c=(env.cells.lookup x).getD 0:=by
 rcases zyo ns [] c h with z|z
 .cases z
 .exact z
theorem zim(h:(x,QL)∈ns)(e:env.cells.lookup x=some c):(clOf ns env).lookup x=some c:=by
 obtain⟨d,hd⟩:=ZQ.mp (zoj (env:=env) ns [] (.inr h));have hd':(clOf ns env).lookup x=some d:=hd;rw[hd',(zl6 hd').2,e];rfl
theorem zcx{env:Env}{x:Str}:∀(names:List (Str×Tv)),
 (names.map λ(n,k)=>if(k == QL && env.scope.kind == .function && env.kindOf n == some .cell) then(n,Zc) else(n,k)).lookup x =
  (names.lookup x).map λk=>if(k == QL && env.scope.kind == .function && env.kindOf x == some .cell) then Zc else k
 | []=>rfl
 | (n,k)::r=>by
   have ih:=zcx (env:=env) (x:=x) r;show List.lookup x ((if(k == QL && env.scope.kind == .function && env.kindOf n == some .cell)=true then(n,Zc) else(n,k))::_)=_
   by_cases hx:x=n
   .subst hx
    by_cases hc:(k == QL && env.scope.kind == .function && env.kindOf x == some .cell)=true
    .rw[ND hc,ZA,ZA,J1,ND hc]
    .rw[NE hc,ZA,ZA,J1,NE hc]
   .have hb:(x == n)=false:=by simpa using hx
    by_cases hc:(k == QL && env.scope.kind == .function && env.kindOf n == some .cell)=true
    .rw[ND hc,ZS,hb,ZS,hb];exact ih
    .rw[NE hc,ZS,hb,ZS,hb];exact ih
theorem zg4: ∀(names:List (Str×Tv)) (h:Heap) (acc:List (Str×Addr)),(GT h.objs.size names acc).lookup x=some c ->
 acc.lookup x=some c\/((x,Zc)∈names/\h.objs.size<=c/\(pushCells h names).IsCell c none)
 | [],_,_,e=>.inl e
 | (n,k)::r,h,acc,e=>by
   unfold GT at e;unfold pushCells
   by_cases hk:k = .cell
   .subst hk;simp only[NM,NL] at e ⊢;rw[<- Za h { cls:=.type "cell",data:=.cell none }] at e;rcases zg4 r _ _ e with z|⟨z1,z2,z3⟩
    .by_cases hx:x=n
     .subst hx;rw[ZA] at z;cases z;exact .inr ⟨Qu,Qg _,⟨_,TX r _ _ _ (Qo _ rfl),rfl⟩⟩
     .have hb:(x == n)=false:=by simpa using hx
      rw[ZS,hb] at z;exact .inl z
    .rw[Za] at z2;exact .inr ⟨Qe _ z1,by lia,z3⟩
   .have hb:(k == Zc)=false:=by simpa using hk
    simp only[hb,QM,NJ] at e ⊢;rcases zg4 r h acc e with z|⟨z1,z2,z3⟩
    .exact .inl z
    .exact .inr ⟨Qe _ z1,z2,z3⟩
theorem zd8: ∀(names:List (Str×Tv)) (n:Nat) (acc:List (Str×Addr)),(x,Zc) ∉ names->(GT n names acc).lookup x=acc.lookup x
 | [],_,_,_=>rfl
 | (y,k)::r,n,acc,h=>by
   have hr:(x,Zc) ∉ r:=λz=>h (Qe _ z);unfold GT
   by_cases hk:k = .cell
   .subst hk;simp only[NM,NL]
    have hx:(x == y)=false:=by
     have:x≠y:=λz=>h (by rw[z];exact Qu);simpa using this
    rw[zd8 r _ _ hr,ZS,hx]
   .have hb:(k == Zc)=false:=by simpa using hk
    simp only[hb,QM,NJ];exact zd8 r n acc hr
theorem zgg:∀(names:List (Str×Tv)) (n:Nat) (acc:List (Str×Addr)),(∀x c,acc.lookup x=some c->c<n)->(∀x y c,acc.lookup x=some c->acc.lookup y=some c->x=y) ->
 ∀x y c,(GT n names acc).lookup x=some c->(GT n names acc).lookup y=some c->x=y
 | [],_,_,_,hi=>hi
 | (a,k)::r,n,acc,hb,hi=>by
   unfold GT
   by_cases hk:k = .cell
   .subst hk;simp only[NM,NL]
    have lk:∀x c,((a,n)::acc).lookup x=some c->(x=a/\c=n)\/(x≠a/\acc.lookup x=some c):=λx c e=>by
     by_cases hx:x=a
     .subst hx;rw[ZA] at e;cases e;exact .inl ⟨rfl,rfl⟩
     .have hz:(x == a)=false:=by simpa using hx
      rw[ZS,hz] at e;exact .inr ⟨hx,e⟩
    refine zgg r (n+1) _ (λx c e=>?_) λx y c e1 e2=>?_
    .rcases lk x c e with ⟨_,z⟩|⟨_,z⟩
     .rw[z];exact Zh _
     .exact QJ (hb x c z)
    .rcases lk x c e1 with ⟨z1,w1⟩|⟨z1,w1⟩ <;> rcases lk y c e2 with ⟨z2,w2⟩|⟨z2,w2⟩
     .rw[z1,z2]
     .exact absurd (hb y c w2) (by rw[w1];exact QS _)
     .exact absurd (hb x c w1) (by rw[w2];exact QS _)
     .exact hi x y c w1 w2
   .have hz:(k == Zc)=false:=by simpa using hk
    simp only[hz,QM,NJ];exact zgg r n acc hb hi
theorem zqg{scope:GV}{globals:Addr}{qual:Str}{code:G5}{builtins:Addr} 
 (h:∀h',h'.Ns s.heap.objs.size (λ_=>none)->(∀b o,s.heap.get? b=some o->h'.get? b=some o)->(∀x c,(GT (s.heap.objs.size+1) scope.names cl).lookup x=some c->cl.lookup x=some c\/((x,Zc)∈scope.names/\s.heap.objs.size+1<=c/\h'.IsCell c none)) ->
  Q (newEnv scope s.heap.objs.size globals (GT (s.heap.objs.size+1) scope.names cl) qual none code (some env) builtins) { s with heap:=h' }) :
 wpAny M A (Mt scope globals cl [] qual none code (some env) builtins) Q E s:=by
 simp only[Mt,Us,NL];refine G4 (Ny ?_);refine G4 (wpAny_layCells _ (λname kind cells=>by cases hkc:kind == Zc <;> simp[hkc]) _ _ _ _ ?_);rw[show({ s with heap:=s.heap.push { cls:=.type "dict",data:=.dict #[] } }:G8).heap.objs.size=s.heap.objs.size+1 from Za ..];rw[Gk];refine G4 (G6 (G6 (h _ ((G1 s.heap (.type "dict")).keeps (TX _ _)) (λb o e=>TX _ _ b o (Qc _ e)) λx c e=>?_)));have:=zg4 scope.names (s.heap.push { cls:=.type "dict",data:=.dict #[] }) cl (x:=x) (c:=c) (by rw[Za];exact e);rwa [Za] at this
def zbv(X:Cx)(scope:GV)(N':List Str)(C:Addr)(s:G8)(H:Hp)(ex:List Addr):Cx :=
 { X with N:=N',s₀:=s,H₀:=H,env:=compEnvC scope (GT (C+1) scope.names (clOf scope.names X.env)) C X.env,outer:=X.stack,stack:=X.stack,ex:=ex,fn:=λx=>scope.names.lookup x == some .cell,pn:=[],xe:=λ_ _=>False }
def zou(h:Nat)(N' N:List Str)(names sc:List (Str×Tv)):Bool :=
 decide (N'.length=h+N.length) && decide N'.Nodup
 && (names.all λp=>(p.2 != .cell || names.lookup p.1 == some .cell) && (p.2 != .local || names.lookup p.1 == some .local) && (p.2 != .free || (names.lookup p.1 == some .free && (sc.lookup p.1 == some .cell || sc.lookup p.1 == some .free))))
 && (((N'.drop h).zip N).all λp=>match names.lookup p.1 with|some .free=>p.1 == p.2|some .local=>false|some .cell=>false|_=>true)
structure ScopeOk(h:Nat)(N' N:List Str)(scope:GV)(sc:GV):Prop where
 kind:scope.kind = .function
 len:N'.length=h+N.length
 nd:N'.Nodup
 cell:∀y∈scope.names,y.2 = .cell->scope.names.lookup y.1=some .cell
 loc:∀y∈scope.names,y.2 = .local->scope.names.lookup y.1=some .local
 free:∀y∈scope.names,y.2 = .free->scope.names.lookup y.1=some .free/\(sc.names.lookup y.1=some .cell\/sc.names.lookup y.1=some .free)
 out:∀(i:Nat) (x:Str) (k:Tv),N'[h+i]? = some x->scope.names.lookup x=some k->(k = .local\/k = .cell\/k = .free)->N[i]? = some x/\k = .free
theorem ScopeOk.of{h:Nat}{scope:GV}(hk:scope.kind = .function)(e:zou h N' N scope.names sc.names=true):ScopeOk h N' N scope sc:=by
 unfold zou at e;simp only[Qy,NG,Z8] at e;obtain⟨⟨⟨e1,e2⟩,e3⟩,e4⟩:=e;refine⟨hk,e1,e2,λy hy z=>?_,λy hy z=>?_,λy hy z=>?_,λi x k hx hl hkk=>?_⟩
 .have:=e3 y hy;rw[z] at this;simpa using this
 .have:=e3 y hy;rw[z] at this;simpa using this
 .have:=e3 y hy;rw[z] at this;simpa using this
 .have h1:(N'.drop h)[i]? = some x:=by rw[Jx];exact hx
  have hi:i<N.length:=by
   obtain⟨z,_⟩:=Qn.mp hx;lia
  have h2:N[i]? = some N[i]:=Qb hi
  have hm:(x,N[i])∈(N'.drop h).zip N:=by
   refine Qz (i:=i) ?_;rw[Vf];exact⟨h1,h2⟩
  have q:=e4 _ hm;rw[hl] at q;rcases hkk with rfl|rfl|rfl
  .exact absurd q (by simp)
  .exact absurd q (by simp)
  .have q':x=N[i]:=by simpa using q
   exact⟨by rw[h2,<- q'],rfl⟩
def PF(X:Cx)(ifs:List Expr)(t:TT):Prop :=
 ∀(pins:List (Addr×Obj)) (s:G8) (σ:St) (H:Hp) (Q:Bool->Hp->Prop),Inv X pins σ H s->t σ H Q ->
   wpAny (model X.prog X.w) X.A (forIn ifs true λc r=>if r=true then do let ok <- isTrue c X.env (eval c X.env);pure (JP ok) else pure (JP r)) (TP X pins σ Q) X.xe s
def tYes:TT:=λ_ H Q=>Q true H
theorem zgi: PF X [] tYes:=λ_ _ _ H _ I h=>wpAny_tests_nil ⟨H,I,h⟩
theorem zse(h:PT X c t):PF X [c] t:=λpins s σ H Q I q=>wpAny_tests_one (h pins s σ H Q I q)
def OwnG(h:Nat)(g:TG):Prop:=∀v (σ:St) H Q,h<=σ.length->g v σ H Q->g v σ H λσ2 H2=>Q σ2 H2/\σ2.length=σ.length/\σ2.drop h=σ.drop h
theorem zd4{h i:Nat}(hi:i<h):OwnG h (zax i):=λv σ H Q hl q=>⟨q,by simp,by rw[Uc hi]⟩
def zi0(h:Nat)(g:TGs):Prop:=∀vs (σ:St) H Q,h<=σ.length->g vs σ H Q->g vs σ H λσ2 H2=>Q σ2 H2/\σ2.length=σ.length/\σ2.drop h=σ.drop h
theorem zz4{h:Nat}:zi0 h gNil:=λvs σ H Q _ q=>⟨q.1,q.2,rfl,rfl⟩
def MonG(g:TG):Prop:=∀v σ H (Q Q':St->Hp->Prop),(∀σ H,Q σ H->Q' σ H)->g v σ H Q->g v σ H Q'
def zi6(g:TGs):Prop:=∀v σ H (Q Q':St->Hp->Prop),(∀σ H,Q σ H->Q' σ H)->g v σ H Q->g v σ H Q'
theorem znu{i:Nat}:MonG (zax i):=λ_ _ _ _ _ h q=>h _ _ q
theorem zyf:zi6 gNil:=λ_ _ _ _ _ h q=>⟨q.1,h _ _ q.2⟩
theorem zwm(a:MonG g)(b:zi6 gs):zi6 (ziq g gs):=λvs σ H Q Q' h ⟨v,r,e,q⟩=>⟨v,r,e,a _ _ _ _ _ (λσ' H' z=>b _ _ _ _ _ h z) q⟩
theorem zv4{h:Nat}(m:MonG g)(m2:zi6 gs)(a:OwnG h g)(b:zi0 h gs):zi0 h (ziq g gs):=λvs σ H Q hl ⟨v,r,e,q⟩=>by
 refine⟨v,r,e,m _ _ _ _ _ (λσ' H' z=>?_) (a v σ H _ hl q)⟩;obtain⟨z1,z2,z3⟩:=z;exact m2 _ _ _ _ _ (λσ2 H2 ⟨y1,y2,y3⟩=>⟨y1,y2.trans z2,y3.trans z3⟩) (b r σ' H' Q (by lia) z1)
theorem z0a{K:Qa}{h n:Nat}{gs:TGs}(b:zi0 h gs):OwnG h (gTup K n gs):=λv σ H Q hl ⟨a,xs,e1,e2,e3,q⟩=>⟨a,xs,e1,e2,e3,b xs σ H Q hl q⟩
def zdl(h:Nat)(wi:TI)(g:TG)(tf:TT)(te:TE):TE:=λσ H Q=>wi σ H λJ H1=>∀D,H1 D=none->∃W:Nat->Nat->List V->Hp->Prop,(∃m,W 0 m [] (upd H1 D (.lst [])))/\∀i m ys H,W i m ys H ->
 H D=some (.lst ys)/\((J.stop i H/\Q (.ref D) H)\/(J.go i H/\∀x H',J.yld i H x H'->g x (Qt h none++σ) H' λσ2 H2=>tf σ2 H2 λc H3=>
   if c=true then te σ2 H3 λy H4=>H4 D=some (.lst ys)/\ys.length<sizeLine/\∃m',m'<m/\W (i+1) m' (ys ++ [y]) (upd H4 D (.lst (ys ++ [y]))) else ∃m',m'<m/\W (i+1) m' ys H3))
theorem zol{prog:GB}{R:Result->G8->Prop}{target iter:Expr}{scope:GV}(I:Nat->G8->Prop)
 (turn:∀n s,I n s->wpAny (model prog w) A (M6 it) (λr s₁=>match r with
  | none=>R (.ok .next) s₁
  | some v=>wpAny (model prog w) A (Ml target it v) (λ_ s₀=>wpAny (model prog w) A (Nn target env v) (λ_ s₂=>
   wpAny (model prog w) A (forIn ifs true λc r=>if r=true then do let ok <- isTrue c env (eval c env);pure (JP ok) else pure (JP r)) (λok s₃=>
    if ok=true then wpAny (model prog w) A (eval elt env) (λx s₄=>
     wpAny (model prog w) A (call (.builtin "list.append") [acc,x]) (λ_ s₅=>∃m,m<n/\I m s₅) (λ_ _=>False) s₄) (λ_ _=>False) s₃
    else ∃m,m<n/\I m s₃) (λ_ _=>False) s₂) (λ_ _=>False) s₀) (λ_ _=>False) s₁) (λ_ _=>False) s)
 (n:Nat) (h:I n s):Mf (model prog w) A (.compLoop (.ListComp elt [⟨target,iter,ifs,0⟩] scope pos) 0 it acc env) R s:=by
 refine codeAny_loop rfl I (λn s hI=>?_) n h;show wpAny _ A ((compTurn (.ListComp elt [⟨target,iter,ifs,0⟩] scope pos) 0 it acc env).onRaise (λx=>do noteFrame x env;theTreesLotGoes x)) _ _ s;refine wpAny_noted ?_;rw[compTurn_list];refine G4 (wpAny_standAt (G4 (GM (turn n s hI) (λr s₁ h₁=>?_) λ_ _ h'=>h'.elim)))
 cases r with
 | none=>exact G6 h₁
 | some v=>
   refine G4 (GM h₁ (λ_ s₀ h₀=>?_) λ_ _ h'=>h'.elim);refine G4 (GM h₀ (λ_ s₂ h₂=>G4 (GM h₂ (λok s₃ h₃=>?_) λ_ _ h'=>h'.elim)) λ_ _ h'=>h'.elim)
   cases ok with
   | false=>exact G6 ⟨rfl,h₃⟩
   | true=>
     exact G4 (G4 (GM h₃ (λx s₄ h₄=>G4 (GM h₄ (λ_ s₅ h₅=>G6 (G6 ⟨rfl,h₅⟩)) λ_ _ h'=>h'.elim)) λ_ _ h'=>h'.elim))
section
variable {X:Cx}{pins:List (Addr×Obj)}{σ:St}{H:Hp}{s:G8}
theorem ze2{h:Nat}{scope:GV}(I:Inv X pins σ H s)(S:ScopeOk h N' X.N scope X.env.scope):∀x c,(clOf scope.names X.env).lookup x=some c->X.env.cells.lookup x=some c:=λx c e=>by
 obtain⟨h1,h2⟩:=zl6 e;obtain⟨d,hd⟩:=I.ok.has x (S.free _ h1 rfl).2;rw[hd] at h2 ⊢;rw[h2];rfl
theorem zjo{h:Nat}{scope:GV}(S:ScopeOk h N' X.N scope X.env.scope)(hf:(x,QL)∈scope.names):(x,Zc) ∉ scope.names:=λz=>by
 have a:=(S.free _ hf rfl).1;have b:=S.cell _ z rfl;rw[show scope.names.lookup x=some .free from a] at b;cases b
theorem zjc{h:Nat}{scope:GV}(I:Inv X pins σ H s)(S:ScopeOk h N' X.N scope X.env.scope):∀x c,(GT (s.heap.objs.size+1) scope.names (clOf scope.names X.env)).lookup x=some c->X.env.cells.lookup x=some c\/((x,Zc)∈scope.names/\s.heap.objs.size+1<=c):=λx c e=>by
 have z:=zg4 scope.names (s.heap.push { cls:=.type "dict",data:=.dict #[] }) (clOf scope.names X.env) (x:=x) (c:=c) (by rw[Za];exact e);rw[Za] at z;rcases z with z|⟨z1,z2,_⟩
 .exact .inl (ze2 I S x c z)
 .exact .inr ⟨z1,z2⟩
theorem zqf{h:Nat}{scope:GV}(I:Inv X pins σ H s)(S:ScopeOk h N' X.N scope X.env.scope):∀x c,(clOf scope.names X.env).lookup x=some c->c<s.heap.objs.size+1:=λx c e=>by
 obtain⟨v,o,ho,_⟩:=I.cell x c (ze2 I S x c e);exact QJ (Qq ho)
theorem zzi{h:Nat}{scope:GV}(I:Inv X pins σ H s)(S:ScopeOk h N' X.N scope X.env.scope)(hf:∀b∈fp,FpOk X pins H b)(hlt:∀b∈fp,b<s.heap.objs.size):
 (zbv X scope N' s.heap.objs.size s H fp).Ok:=by
 have cl:=zjc I S;refine⟨I.ok.mod,?_,I.ok.glob,I.ok.blt,Qg _,zgg _ _ _ (zqf I S) λx y c e1 e2=>I.ok.inj x y c (ze2 I S x c e1) (ze2 I S y c e2),λx hx=>?_,λx c z e=>?_,I.ok.hd,I.ok.frames,.inl rfl,λb hb=>⟨Q1 (hlt b hb),λx c e=>(cl x c e).elim (λz=>(hf b hb).2.2.2.2.1 x c z) λz w=>QS _ (QA (hlt b hb) (ZZ (w ▸ z.2)))⟩,λb o e=>I.bs b o e,QN I.ok.bsz I.sz,λb o e hb=>?_,λb hb z=>?_,I.stack,I.stkFree⟩
 .exact S.kind
 .have hx':(relabel scope X.env).names.lookup x=some .cell\/(relabel scope X.env).names.lookup x=some .free:=hx;have e:=zcx (env:=X.env) (x:=x) scope.names
  have hl:scope.names.lookup x=some .free\/scope.names.lookup x=some .cell:=by
   cases q:scope.names.lookup x with
   | none=>rw[q] at e;rcases hx' with z|z <;> (have z':=e.symm.trans z;cases z')
   | some k=>
     rw[q,J1] at e
     by_cases hk:k = .free
     .rw[hk];exact .inl rfl
     .have hc:¬(k == QL && X.env.scope.kind == .function && X.env.kindOf x == some .cell)=true:=by
       have:(k == QL)=false:=by simpa using hk
       rw[this];simp
      rw[NE hc] at e;rcases hx' with z|z
      .have z':=e.symm.trans z;cases z';exact .inr rfl
      .have z':=e.symm.trans z;cases z';exact .inl rfl
  rcases hl with hl|hl
  .have hm:=Zl hl;obtain⟨c,hc⟩:=I.ok.has x (S.free _ hm rfl).2;exact⟨c,(zd8 _ _ _ (zjo S hm)).trans (zim hm hc)⟩
  .exact ZQ.mp (JK _ _ _ (.inl hl))
 .have z:(scope.names.lookup x == some Zc)=true:=z;have z:scope.names.lookup x=some .cell:=by simpa using z
  rcases zg4 scope.names (s.heap.push { cls:=.type "dict",data:=.dict #[] }) (clOf scope.names X.env) (x:=x) (c:=c) (by rw[Za];exact e) with w|⟨_,w,_⟩
  .exact absurd (Zl z) (zjo S (zl6 w).1)
  .rw[Za] at w;exact ZZ w
 .rcases(hf b hb).2.2.2.1 with z|z
  .exact I.ok.noex b o e z
  .exact absurd (QA (Qq (I.ok.bs b o e).1) z) (QS _)
 .obtain⟨_,f1,f2,_⟩:=hf b hb;rcases Qs.mp (I.stkSub b z) with q|q
  .exact f1 q
  .exact f2 q
theorem zqr{h:Nat}{scope:GV}{tk:Nat}(I:Inv X pins σ H s)(S:ScopeOk h N' X.N scope X.env.scope)(hf:∀b∈fp,FpOk X pins H b)(hlt:∀b∈fp,b<s.heap.objs.size)
 (hn:h'.Ns s.heap.objs.size λ_=>none) (kp:∀b o,s.heap.get? b=some o->h'.get? b=some o) (hcs:∀x c,(GT (s.heap.objs.size+1) scope.names (clOf scope.names X.env)).lookup x=some c->(clOf scope.names X.env).lookup x=some c\/((x,Zc)∈scope.names/\s.heap.objs.size+1<=c/\h'.IsCell c none)) :
 Inv (zbv X scope N' s.heap.objs.size s H fp) [] (Qt h none++σ) H { s with heap:=h',toks:=tk }:=by
 have ok:=zzi I S hf hlt;have cl:=ze2 I S;refine⟨ok,rfl,I.bare,Un.kept kp,⟨_,hn,λi x v e1 e2 e3=>?_⟩,λx c e=>?_,I.hok.fresh (Qg _),λx c e=>(hcs x c e).elim (λz=>I.freeC x c (cl x c z)) λz=>I.hok.fresh (ZZ z.2.1),λp hp=>absurd (show p∈([]:List (Addr×Obj)) from hp) (by simp),I.hok.kept kp,?_⟩
 .have e1:N'[i]? = some x:=e1
  by_cases hi:i<h
  .rw[QO (by simpa using hi),QZ,ND hi] at e2;cases e2
  .obtain⟨j,rfl⟩:∃j,i=h+j:=⟨i-h,by lia⟩;rw[QU (by simp),QR,Nat.add_sub_cancel_left] at e2;have e3:Vis (relabel scope X.env) x:=e3;have er:=zcx (env:=X.env) (x:=x) scope.names
   have hl:∃k,scope.names.lookup x=some k/\(k = .local\/k = .cell\/k = .free)/\(relabel scope X.env).names.lookup x=some (if(k == QL && X.env.scope.kind == .function && X.env.kindOf x == some .cell) then Zc else k):=by
    cases q:scope.names.lookup x with
    | none=>rw[q] at er;rcases e3 with z|z|z <;> (have z':=er.symm.trans z;cases z')
    | some k=>
      rw[q,J1] at er;refine⟨k,rfl,?_,er⟩
      by_cases hc:(k == QL && X.env.scope.kind == .function && X.env.kindOf x == some .cell)=true
      .simp only[Qy,NP] at hc;exact .inr (.inr hc.1.1)
      .rw[NE hc] at er;rcases e3 with z|z|z <;> (have z':=er.symm.trans z;cases z';simp)
   obtain⟨k,hk,hkk,hre⟩:=hl;obtain⟨hN,rfl⟩:=S.out j x k e1 hk hkk;have hm:=Zl hk;have hfr:=(S.free _ hm rfl).2;obtain⟨m,hnm,hlk⟩:=I.loc;obtain⟨u,ru,lk⟩:=hlk j x v hN e2 (by rcases hfr with z|z;exact .inr (.inl z);exact .inr (.inr z));refine⟨u,ru,?_⟩;rcases lk with ⟨hloc,_⟩|⟨hkd,c,hc,hcell⟩
   .have hloc:X.env.scope.names.lookup x=some .local:=hloc;rcases hfr with z|z <;> (rw[hloc] at z;cases z)
   .refine .inr ⟨?_,c,(zd8 _ _ _ (zjo S hm)).trans (zim hm hc),?_⟩
    .show(relabel scope X.env).names.lookup x=some .cell\/(relabel scope X.env).names.lookup x=some .free;rw[hre]
     split
     .exact .inl rfl
     .exact .inr rfl
    .obtain⟨o,ho,hd⟩:=hcell;exact⟨o,kp c o ho,hd⟩
 .rcases hcs x c e with z|z
  .obtain⟨v,o,ho,hd⟩:=I.cell x c (cl x c z);exact⟨v,o,kp c o ho,hd⟩
  .exact⟨_,z.2.2⟩
 .show(Qt h none++σ).length=N'.length;rw[Ql,QR,S.len,I.len]
theorem zve{h:Nat}{scope:GV}{pins':List (Addr×Obj)}(I:Inv X pins σ H s)(S:ScopeOk h N' X.N scope X.env.scope)(hf:∀b∈fp,FpOk X pins H b)
 (J:Inv (zbv X scope N' s.heap.objs.size s H fp) pins' σ' H' s') (hs:ZI s.heap.objs.size s'.heap h'):Inv X pins σ H' { s' with heap:=h' }:=by
 have ne:∀b o,s.heap.get? b=some o->b≠s.heap.objs.size:=λb o e=>Q1 (Qq e);have u:Un (frs X.stack) fp H H' s.heap s'.heap:=J.base;have hC:H' s.heap.objs.size=none:=J.free;obtain⟨m0,⟨oC,_,_,hoC,_⟩,_⟩:=id J.loc;refine I.call' (s':={ s' with heap:=h' }) (ch:=fp) J.os ⟨λb o e n hb hx=>(hs.2 b (ne b o e)).trans (u.keep b o e n hb hx),λb o e n hb hx=>?_,u.free,λb o e hx=>?_,u.tups,u.frzs,u.tbls⟩ (λb ob e=>?_) J.bare λb hb=>?_
 .obtain⟨sl,z⟩:=u.slot b o e n hb hx;exact⟨sl,(hs.2 b (ne b o e)).trans z⟩
 .obtain⟨o',z⟩:=u.there b o e hx;exact⟨o',(hs.2 b (ne b o e)).trans z⟩
 .refine(J.hok b ob e).stay (λc w' hc q=>(hs.2 c ?_).trans q) (λ_ q=>q) (λ_ _ q=>q) λ_ _ q=>q;rintro rfl;rcases hc with z|z
  .rw[<- z,hC] at e;cases e
  .rw[hC] at z;cases z
 .obtain⟨_,f1,_,f3,f4,f5⟩:=hf b hb;exact⟨f3,f1,f4,f5⟩
end
theorem zk5{iter:Expr}{scope:GV}{R:G5->G8->Prop}{pins:List (Addr×Obj)}(h:Nat)(S:ScopeOk h N' X.N scope X.env.scope)(hc:X.calm=true)(hi:PI X tg iter wi)
 (hg:∀C s H ex,PG (zbv X scope N' C s H ex) tg g) (ho:OwnG h g) (ht:∀C s H ex,PF (zbv X scope N' C s H ex) ifs tf) (he:∀C s H ex,PE (zbv X scope N' C s H ex) elt te)
 (hs:∀x,Te iter X.env x=pure x) (I:Inv X pins σ H s) (hq:zdl h wi g tf te σ H Q)
 (fin:∀(D:Addr) (H3 H5:Hp) (s3 s6:G8) m6 fl,Inv X pins σ H3 s3->(∀h7,ZI s3.heap.objs.size s6.heap h7->Inv X pins σ H5 { s6 with heap:=h7 })->H5 s3.heap.objs.size=none->s6.heap.Ns s3.heap.objs.size m6->Q (.ref D) H5->compPost (model X.prog X.w) X.A X.xe use R (.ref D) s3.heap.objs.size (.ok fl) s6) :
 wpAny (model X.prog X.w) X.A (comprehension (.ListComp elt [⟨tg,iter,ifs,0⟩] scope pos) scope X.env cp (N1 []) false (eval iter X.env) use) R X.xe s:=by
 refine wpAny_comprehension_free (use:=use) rfl hs (zie (env:=X.env) λp hp hk=>I.ok.has p.1 (S.free p hp hk).2) S.kind S.loc ?_;refine thn (hi pins s σ H _ I hq) λv s1 h1=>thn h1 λitv s2 h2=>?_;obtain⟨it,fp,tn,J,H2,rfl,I2,T,st2,f2,hq⟩:=h2;refine GI ?_ (by show 0<=sizeLine;exact QI _);have hD:H2 s2.heap.objs.size=none:=I2.hok.fresh (Qg _);have I3:Inv X pins σ (upd H2 s2.heap.objs.size (.lst [])) { s2 with heap:=s2.heap.push { cls:=.type "list",data:=.seq ([]:List G5).toArray },toks:=s2.toks }:=I2.lnew (t':=s2.toks) .nil (QI _);generalize hs3:({ s2 with heap:=s2.heap.push { cls:=.type "list",data:=.seq ([]:List G5).toArray },toks:=s2.toks }:G8)=s3 at I3;have hs3':({ s2 with heap:=s2.heap.push { cls:=.type "list",data:=.seq ([]:List G5).toArray } }:G8)=s3:=hs3;obtain⟨W,⟨m0,w0⟩,turn⟩:=hq s2.heap.objs.size hD
 have olt:∀b∈fp,b<s2.heap.objs.size:=λb hb=>by
  obtain⟨o,e,_⟩:=T.obj _ _ st2 b hb;exact Qq e
 have hsz:s3.heap.objs.size=s2.heap.objs.size+1:=by rw[<- hs3];exact Za ..
 have k23:∀b o,s2.heap.get? b=some o->s3.heap.get? b=some o:=λb o e=>by rw[<- hs3];exact Qc _ e
 have f3:∀b∈fp,FpOk X pins (upd H2 s2.heap.objs.size (.lst [])) b:=λb hb=>⟨by rw[zaa (Q1 (olt b hb))];exact(f2 b hb).1,(f2 b hb).2⟩;have lt3:∀b∈fp,b<s3.heap.objs.size:=λb hb=>by rw[hsz];exact QJ (olt b hb)
 refine zqg λh4 hn4 k34 cs4=>?_;have I4:=zqr (h':=h4) (tk:=s3.toks) I3 S f3 lt3 hn4 k34 cs4;have st4:tn 0 h4:=T.keep _ _ _ st2 λb hb o e=>k34 b o (k23 b o e);generalize hX:zbv X scope N' s3.heap.objs.size s3 (upd H2 s2.heap.objs.size (.lst [])) fp=X' at I4;have hA:X'.A=X.A:=by rw[<- hX];rfl
 -- the iterator's objects,in the block
 have fpX:∀{H':Hp} {pl:List (Addr×Obj)},(∀b∈fp,H' b=none)->pl = []->∀b∈fp,FpOk X' pl H' b:=λ{H' pl} hn0 hpl b hb=>by
  subst hpl;obtain⟨q0,q1,q2,q3,q4,q5⟩:=f3 b hb;subst hX;refine⟨hn0 b hb,Q1 (lt3 b hb),λz=>?_,.inl hb,λx c e=>(zjc I3 S x c e).elim (q4 x c) λz w=>QS _ (QA (lt3 b hb) (ZZ (w ▸ z.2))),λp hp=>absurd (show p∈([]:List (Addr×Obj)) from hp) (by simp)⟩;rcases Qs.mp (I3.stkSub b z) with z|z
  .exact q1 z
  .exact q2 z
 have hcX:X'.calm=true:=by rw[<- hX];exact hc
 have hR:∀s':G8,(∃(m:Nat) (i:Nat) (ys:List V) (H':Hp),Inv X' [] (Qt h none++σ) H' s'/\tn i s'.heap/\(∀b∈fp,H' b=none)/\W i m ys H')->True:=λ_ _=>trivial
 have loop:∀(sL:G8),(Inv X' [] (Qt h none++σ) (upd H2 s2.heap.objs.size (.lst [])) sL)->tn 0 sL.heap ->
  Mf (model X.prog X.w) X.A (.compLoop (.ListComp elt [⟨tg,iter,ifs,0⟩] scope pos) 0 (.ref it) (.ref s2.heap.objs.size) X'.env)
   (compPost (model X.prog X.w) X.A X.xe use R (.ref s2.heap.objs.size) s3.heap.objs.size) sL:=by
  intro sL IL stL;refine zol (λn s'=>∃i ys H',Inv X' [] (Qt h none++σ) H' s'/\tn i s'.heap/\(∀b∈fp,H' b=none)/\W i n ys H') ?_ m0 ⟨0,[],_,IL,stL,λb hb=>(f3 b hb).1,w0⟩;rintro n s5 ⟨i,ys,H5,I5,st5,fr5,w5⟩;obtain⟨hDy,hh⟩:=turn i n ys H5 w5;have eP:X'.prog=X.prog:=by rw[<- hX];rfl
  have eW:X'.w=X.w:=by rw[<- hX];rfl
  have eK:X'.K=X.K:=by rw[<- hX];rfl
  have eE:X'.xe=λ_ _=>False:=by rw[<- hX];rfl
  rcases hh with ⟨stop,qn⟩|⟨go,step⟩
  .have:=T.done X' eP eW eK hcX i [] s5 _ H5 (λ_ _=>False) I5 (fpX fr5 rfl) st5 stop;rw[hA] at this;refine thn this λr s6 zz=>?_;obtain⟨hr,I6⟩:=zz;subst hr;obtain⟨m6,hm6,_⟩:=id I6.loc;rw[<- hX] at hm6 I6;exact fin _ _ H5 s3 s6 m6 _ I3 (λh7 hs7=>zve I3 S f3 I6 hs7) I6.free hm6 qn
  .have:=T.item X' eP eW eK hcX i [] s5 _ H5 (λ_ _=>False) I5 (fpX fr5 rfl) st5 go;rw[hA] at this;refine thn this λr s6 zz=>?_;obtain⟨u,hr,h6⟩:=zz;subst hr;refine thn h6 λ_ s7 zz=>?_;obtain⟨x,H7,I7,r7,y7,st7,fr7⟩:=zz;have I7':=I7.pinned (fpX fr7 rfl) (T.obj _ _ st7)
   have back:∀{σ':St} {H':Hp} {s':G8},Inv X' ([]++zgj fp s7.heap) σ' H' s'->σ'.length=(Qt h none++σ:St).length->σ'.drop h=(Qt h none++σ:St).drop h ->
    Inv X' [] (Qt h none++σ) H' s'/\tn (i+1) s'.heap/\∀b∈fp,H' b=none:=by
    intro σ' H' s' I' hl hd;refine⟨I'.unpinned.weak hl.symm λj v e=>?_,T.keep _ _ _ st7 λb hb o e=>?_,λb hb=>?_⟩
    .by_cases hj:j<h
     .rw[QO (by simpa using hj),QZ,ND hj] at e;cases e
     .have e1:(σ'.drop h)[j-h]? = σ'[j]?:=by rw[Jx];congr 1;lia
      have e2:((Qt h none++σ:St).drop h)[j-h]? = (Qt h none++σ:St)[j]?:=by rw[Jx];congr 1;lia
      rw[<- e1,hd,e2];exact e
    .exact(I'.pin (b,o) (QF _ (QF _ (zdo hb e)))).1
    .obtain⟨o,e,_⟩:=T.obj _ _ st7 b hb;exact(I'.pin (b,o) (QF _ (QF _ (zdo hb e)))).2.1
   have hg':=hg s3.heap.objs.size s3 (upd H2 s2.heap.objs.size (.lst [])) fp;have ht':=ht s3.heap.objs.size s3 (upd H2 s2.heap.objs.size (.lst [])) fp;have he':=he s3.heap.objs.size s3 (upd H2 s2.heap.objs.size (.lst [])) fp;rw[hX] at hg' ht' he';have hl0:h<=(Qt h none++σ:St).length:=by simp
   have a1:=hg' _ s7 _ H7 x u _ I7' r7 (ho x _ H7 _ hl0 (step x H7 y7));rw[hA,eP,eW,eE] at a1;refine thn a1 λ_ s8 zz=>?_;obtain⟨σ8,H8,I8,q8,l8,d8⟩:=zz;have a2:=ht' _ s8 σ8 H8 _ I8 q8;rw[hA,eP,eW,eE] at a2;refine thn a2 λc s9 zz=>?_;obtain⟨H9,I9,q9⟩:=zz
   cases c with
   | false=>
     obtain⟨m',hm',w'⟩:=q9;obtain⟨b1,b2,b3⟩:=back I9 l8 d8;exact⟨m',hm',i+1,ys,H9,b1,b2,b3,w'⟩
   | true=>
     have a3:=he' _ s9 σ8 H9 _ I9 q9;rw[hA,eP,eW,eE] at a3;refine thn a3 λyv s10 zz=>?_;obtain⟨y,H10,I10,r10,hD10,hz10,m',hm',w'⟩:=zz;have a4:=zku (X:=X') _ s10 σ8 H10 (.ref s2.heap.objs.size) [y] (.ref s2.heap.objs.size) [yv] (λ_ Hz=>Hz=upd H10 s2.heap.objs.size (.lst (ys ++ [y]))) I10 rfl (.cons r10 .nil) ⟨_,ys,y,rfl,rfl,hD10,hz10,rfl⟩;rw[hA,eP,eW,eE] at a4;refine thn a4 λ_ s11 zz=>?_;obtain⟨_,H11,I11,_,e11⟩:=zz;subst e11;obtain⟨b1,b2,b3⟩:=back I11 l8 d8;exact⟨m',hm',i+1,ys ++ [y],_,b1,b2,b3,w'⟩
 have end_:=codeAny_compStart_list (prog:=X.prog) (w:=X.w) (A:=X.A) (R:=compPost (model X.prog X.w) X.A X.xe use R (.ref s2.heap.objs.size) s3.heap.objs.size) (elt:=elt) (target:=tg) (iter:=iter) (ifs:=ifs) (rest:=[]) (scope:=scope) (pos:=pos) (it:=.ref it) (acc:=.ref s2.heap.objs.size) (env:=X'.env)
  (loop _ I4 st4) (T.self _ 0 _ _ _ st4 (loop _ I4 st4))
 have hE:X'.env=compEnvC scope (GT (s3.heap.objs.size+1) scope.names (clOf scope.names X.env)) s3.heap.objs.size X.env:=by rw[<- hX];rfl
 rw[hE] at end_;exact end_
theorem zj1{iter:Expr}{scope:GV}(h:Nat)(S:ScopeOk h N' X.N scope X.env.scope)(hc:X.calm=true)(hi:PI X tg iter wi)
 (hg:∀C s H ex,PG (zbv X scope N' C s H ex) tg g) (ho:OwnG h g) (ht:∀C s H ex,PF (zbv X scope N' C s H ex) ifs tf) (he:∀C s H ex,PE (zbv X scope N' C s H ex) elt te)
 (hs:∀x,Te iter X.env x=pure x:=by intro _;rfl) :
 PE X (.ListComp elt [⟨tg,iter,ifs,0⟩] scope pos) (zdl h wi g tf te):=by
 intro pins s σ H Q I hq;rw[eval_ListComp];exact zk5 h S hc hi hg ho ht he hs I hq λD H3 H5 s3 s6 m6 fl I3 bk hC hm qn=>⟨m6,hm,λh7 hs7=>⟨.ref D,H5,bk h7 hs7,rfl,qn⟩⟩
theorem zfc{iter:Expr}{scope:GV}{spos:Pos}{n0:Nat}(hN0:X.N.Nodup)(hi0:X.N[n0]? = some x0)(hx0:X.env.scope.names.lookup x0=some .local)(hsw:Tj (.ListComp elt [⟨tg,iter,ifs,0⟩] scope pos) (some (.Name x0 py)) spos.line X.env=pure true)(h:Nat)(S:ScopeOk h N' X.N scope X.env.scope)(hc:X.calm=true)(hi:PI X tg iter wi)
 (hg:∀C s H ex,PG (zbv X scope N' C s H ex) tg g) (ho:OwnG h g) (ht:∀C s H ex,PF (zbv X scope N' C s H ex) ifs tf) (he:∀C s H ex,PE (zbv X scope N' C s H ex) elt te)
 (hs:∀x,Te iter X.env x=pure x:=by intro _;rfl) :
 PS X (.Assign [.Name x0 py] (.ListComp elt [⟨tg,iter,ifs,0⟩] scope pos) spos) (tAsg (zdl h wi g tf te) (zax n0)):=by
 intro pins s σ H DD I hq;rw[exec_Assign_Name_used _ _ _ _ hsw];refine G4 (wpAny_standAt (G4 ?_));show wpAny _ X.A (do let _ <- comprehension (.ListComp elt [⟨tg,iter,ifs,0⟩] scope pos) scope X.env _ (N1 []) false (eval iter X.env) (some (Nn (.Name x0 py) X.env))) _ _ s;refine G4 (GM (zk5 (use:=some (Nn (.Name x0 py) X.env)) (R:=λ_ s'=>SP X pins DD .next s') h S hc hi hg ho ht he hs I hq λD H3 H5 s3 s6 m6 fl I3 bk hC hm qn=>?_) (λ_ s' hq=>G6 (G6 hq)) λ_ _ e=>e);have J6:Inv X pins σ H5 s6:=bk _ (Heap.SameBut.refl ..);have neL:s3.heap.objs.size≠X.env.locals:=Yy I3.lt
 have neC:∀x c,X.env.cells.lookup x=some c->c≠s3.heap.objs.size:=λx c e=>by
  obtain⟨v,z⟩:=I3.cell x c e;exact Q1 z.lt
 show wpAny (model X.prog X.w) X.A (Nn (.Name x0 py) X.env (.ref D)) _ _ s6;refine wpAny_assign_Name (zkp (v:=.ref D) J6 hN0 hi0 (.inl hx0) rfl (λs7 I7 zz=>?_) (.inr hx0));obtain⟨a,hsb,ha⟩:=zz
 have hac:s3.heap.objs.size≠a:=by
  rcases ha with rfl|ha
  .exact neL
  .exact ZC (neC _ _ ha)
 refine⟨m6,hm.sameBut hsb hac,λh8 hs8=>⟨_,H5,I7.turned (t':=s7.toks) (it:=s3.heap.objs.size) (λb o hb e=>(hs8.2 b hb).trans e) hC neL (.inr I3.sz) neC (λp hp=>?_),qn⟩⟩;exact Q1 (Qq (I3.pin p hp).1)
def chA(_:G5):Prop:=False
end L3
namespace L3
open PySem PySem.Spec PySem.Calls
open PyProof.Rows hiding St
open L2
section
variable {X:Cx}{pins:List (Addr×Obj)}{σ:St}{H:Hp}{s:G8}{a:Addr}
def XR(a C dx:Addr):HO:=.ext λh=>∃o vs,h.get? a=some o/\o.cls = .ref C/\o.dict=some dx/\o.data = .fields vs/\(vs[2]? = some .none\/chA (.ref C))
end
mutual
inductive Is(K:Qa)(F:Addr->Prop)(H:Hp):V->G7->Prop
 | none:Is K F H .non .none
 | bool (b):Is K F H (.bl b) (.bool b)
 | int (i):Is K F H (.int i) (.int i)
 | str (x):Is K F H (.str x) (.str x)
 | list {a xs ds}:F a->H a=some (.lst xs)->IsAll K F H xs ds->Is K F H (.ref a) (.list ds)
 | tuple {a xs ds}:SqT K H a xs->IsAll K F H xs ds->Is K F H (.ref a) (.tuple ds)
inductive IsAll(K:Qa)(F:Addr->Prop)(H:Hp):List V->List G7->Prop
 | nil:IsAll K F H [] []
 | cons {v vs d ds}:Is K F H v d->IsAll K F H vs ds->IsAll K F H (v::vs) (d::ds)
end
section
variable {K:Qa}{F F':Addr->Prop}{H H':Hp}
mutual
theorem Is.to(hL:∀a xs,F a->H a=some (.lst xs)->F' a/\H' a=some (.lst xs))(hT:∀a xs,SqT K H a xs->SqT K H' a xs):∀{v d},Is K F H v d->Is K F' H' v d
 | _,_,.none=>.none
 | _,_,.bool b=>.bool b
 | _,_,.int i=>.int i
 | _,_,.str x=>.str x
 | _,_,.list f q r=>.list (hL _ _ f q).1 (hL _ _ f q).2 (IsAll.to hL hT r)
 | _,_,.tuple q r=>.tuple (hT _ _ q) (IsAll.to hL hT r)
theorem IsAll.to(hL:∀a xs,F a->H a=some (.lst xs)->F' a/\H' a=some (.lst xs))(hT:∀a xs,SqT K H a xs->SqT K H' a xs):∀{vs ds},IsAll K F H vs ds->IsAll K F' H' vs ds
 | _,_,.nil=>.nil
 | _,_,.cons r t=>.cons (Is.to hL hT r) (IsAll.to hL hT t)
end
theorem IsAll.length:∀{vs ds},IsAll K F H vs ds->vs.length=ds.length
 | _,_,.nil=>rfl
 | _,_,.cons _ t=>by rw[Qk,Qk,IsAll.length t]
theorem IsAll.get:∀{vs ds} {i:Nat} {d},IsAll K F H vs ds->ds[i]? = some d->∃v,vs[i]? = some v/\Is K F H v d
 | _,_,_,_,.nil,e=>by simp at e
 | _,_,0,_,.cons r _,e=>by simp at e;subst e;exact⟨_,rfl,r⟩
 | _,_,i+1,d,.cons _ t,e=>by
   obtain⟨v,h1,h2⟩:=IsAll.get (i:=i) (d:=d) t (by simpa using e);exact⟨v,by simpa using h1,h2⟩
theorem IsAll.append:∀{vs ds ws es},IsAll K F H vs ds->IsAll K F H ws es->IsAll K F H (vs++ws) (ds++es)
 | _,_,_,_,.nil,s=>s
 | _,_,_,_,.cons r t,s=>.cons r (IsAll.append t s)
theorem IsAll.snoc{vs ds v d}(h:IsAll K F H vs ds)(r:Is K F H v d):IsAll K F H (vs ++ [v]) (ds ++ [d]):=h.append (.cons r .nil)
theorem IsAll.take:∀{vs ds} (n:Nat),IsAll K F H vs ds->IsAll K F H (vs.take n) (ds.take n)
 | _,_,0,_=>.nil
 | _,_,_+1,.nil=>.nil
 | _,_,n+1,.cons r t=>.cons r (IsAll.take n t)
theorem IsAll.drop:∀{vs ds} (n:Nat),IsAll K F H vs ds->IsAll K F H (vs.drop n) (ds.drop n)
 | _,_,0,r=>r
 | _,_,_+1,.nil=>.nil
 | _,_,n+1,.cons _ t=>IsAll.drop n t
end
def SameB(M:Addr->Prop)(H H':Hp):Prop:=∀a o,H a=some o->¬M a->H' a=some o
theorem SameB.refl(M:Addr->Prop)(H:Hp):SameB M H H:=λ_ _ h _=>h
theorem SameB.trans(a:SameB M H H1)(b:SameB M H1 H2):SameB M H H2:=λc o h n=>b c o (a c o h n) n
theorem SameB.of(s:Same H H'):SameB M H H':=λa o h _=>s a o h
theorem SameB.free(e:SameB M H H')(hm:¬M l)(h:H' l=QP):H l=QP:=by
 cases q:H l with
 | none=>rfl
 | some o=>rw[e l o q hm] at h;cases h
def TupStay(H H':Hp):Prop:=∀a u,(∃xs,u=HO.tup xs\/∃o,u=HO.frz o (.tup xs))->H a=some u->H' a=some u
theorem SqT.stay{K:Qa}{H H':Hp}{a:Addr}{xs:List V}(e:TupStay H H')(h:SqT K H a xs):SqT K H' a xs:=by
 rcases h with (h|⟨o,h⟩)|h
 .exact .inl (.inl (e _ _ ⟨xs,.inl rfl⟩ h))
 .exact .inl (.inr ⟨o,e _ _ ⟨xs,.inr ⟨o,rfl⟩⟩ h⟩)
 .exact .inr h
structure Ob where
 M:Addr->Prop
 P:Hp->Prop
 v:V
structure Ob.Ok(O:Ob):Prop where
 loc:∀H H',(∀a,O.M a->H' a=H a)->O.P H->O.P H'
 mutb:∀H a o,O.P H->H a=some o->O.M a->(∀xs,o≠.tup xs)/\∀q u,o≠.frz q u
 here:∀H a,O.P H->O.M a->∃o,H a=some o
theorem Ob.Ok.grow{O:Ob}(ok:O.Ok)(H H':Hp)(s:Same H H')(p:O.P H):O.P H':=ok.loc H H' (λa m=>by
 obtain⟨o,e⟩:=ok.here H a p m
 rw[e,s a o e]) p
def Ob.plus(O:Ob)(D:Addr)(u:HO):Ob:=⟨λa=>O.M a\/a=D,λH=>O.P H/\H D=some u,O.v⟩
theorem Ob.Ok.plus{O:Ob}(ok:O.Ok)(D:Addr)(xs:List V):(O.plus D (.lst xs)).Ok :=
 ⟨λH H' e p=>⟨ok.loc H H' (λa m=>e a (.inl m)) p.1,(e D (.inr rfl)).trans p.2⟩,
  λH a o p e m=>by
   rcases m with m|rfl
   .exact ok.mutb H a o p.1 e m
   .rw[p.2] at e;cases e;exact⟨λ_ h=>(by cases h),λ_ _ h=>(by cases h)⟩,
  λH a p m=>by
   rcases m with m|rfl
   .exact ok.here H a p.1 m
   .exact⟨_,p.2⟩⟩
structure Stp(O:Ob)(H H':Hp):Prop where
 s:SameB O.M H H'
 p:O.P H->O.P H'
 t:TupStay H H'
theorem Stp.refl(O:Ob)(H:Hp):Stp O H H:=⟨.refl _ _,λh=>h,λ_ _ _ h=>h⟩
theorem Stp.trans(a:Stp O H H1)(b:Stp O H1 H2):Stp O H H2:=⟨a.s.trans b.s,λh=>b.p (a.p h),λc u hu h=>b.t c u hu (a.t c u hu h)⟩
theorem Stp.same(ok:O.Ok)(s:Same H H'):Stp O H H':=⟨.of s,ok.grow H H' s,λa u _ h=>s a u h⟩
theorem same_new(h:H p=none)(o:HO):Same H (upd H p o):=λb u q=>by rw[zaa (zas q h)];exact q
theorem Stp.new{O:Ob}(ok:O.Ok){H:Hp}{p:Addr}(h:H p=none)(o:HO):Stp O H (upd H p o):=.same ok (same_new h o)
section
variable {K:Qa}{O:Ob}{F F':Addr->Prop}{H H':Hp}{v:V}{d:G7}
theorem Is.stp(s:Stp O H H')(hF:∀a,F a->F' a)(hM:∀a,F a->¬O.M a)(h:Is K F H v d):Is K F' H' v d :=
 h.to (λa xs f q=>⟨hF a f,s.s a _ q (hM a f)⟩) λa xs q=>SqT.stay (h:=q) s.t
theorem IsAll.stp(s:Stp O H H')(hF:∀a,F a->F' a)(hM:∀a,F a->¬O.M a)(h:IsAll K F H vs ds):IsAll K F' H' vs ds :=
 h.to (λa xs f q=>⟨hF a f,s.s a _ q (hM a f)⟩) λa xs q=>SqT.stay (h:=q) s.t
theorem Is.weak(h:Is K F H v d)(hF:∀a,F a->F' a):Is K F' H v d:=h.to (λa xs f q=>⟨hF a f,q⟩) λa xs q=>q
theorem IsAll.weak(h:IsAll K F H vs ds)(hF:∀a,F a->F' a):IsAll K F' H vs ds:=h.to (λa xs f q=>⟨hF a f,q⟩) λa xs q=>q
end
mutual
def flat:G7->Bool
 | .none=>true
 | .bool _=>true
 | .int _=>true
 | .str _=>true
 | .tuple ds=>flats ds
 | _=>false
def flats:List G7->Bool
 | []=>true
 | d::ds=>flat d && flats ds
end
theorem flats_iff:∀{ds:List G7},flats ds=true↔∀d∈ds,flat d=true
 | []=>by simp[flats]
 | d::ds=>by rw[flats,Qy,flats_iff];simp
mutual
theorem Is.flat{K:Qa}{F F':Addr->Prop}{H H':Hp}(t:TupStay H H'):∀{v d},Is K F H v d->L3.flat d=true->Is K F' H' v d
 | _,_,.none,_=>.none
 | _,_,.bool b,_=>.bool b
 | _,_,.int i,_=>.int i
 | _,_,.str x,_=>.str x
 | _,_,.list _ _ _,h=>by simp[L3.flat] at h
 | _,_,.tuple q r,h=>.tuple (SqT.stay t q) (IsAll.flats t r (by simpa[L3.flat] using h))
theorem IsAll.flats{K:Qa}{F F':Addr->Prop}{H H':Hp}(t:TupStay H H'):∀{vs ds},IsAll K F H vs ds->L3.flats ds=true->IsAll K F' H' vs ds
 | _,_,.nil,_=>.nil
 | _,_,.cons r s,h=>by
   rw[L3.flats,Qy] at h;exact .cons (Is.flat t r h.1) (IsAll.flats t s h.2)
end
theorem TupStay.refl(H:Hp):TupStay H H:=λ_ _ _ h=>h
section
variable {X:Cx}{pins:List (Addr×Obj)}{σ:St}{H:Hp}{s:G8}{F:Addr->Prop}
mutual
theorem Is.reads(I:Inv X pins σ H s):∀{v d} {u:G5},Is X.K F H v d->RelV v u->∃as,Mh s.heap u d as
 | _,_,_,.none,r=>by cases r;exact⟨_,.none⟩
 | _,_,_,.bool b,r=>by cases r;exact⟨_,.bool b⟩
 | _,_,_,.int i,r=>by obtain⟨t,rfl⟩:=r;exact⟨_,.int i t⟩
 | _,_,_,.str x,r=>by obtain⟨t,rfl⟩:=r;exact⟨_,.str x t⟩
 | _,_,_,.list f q rs,r=>by
   cases r;obtain⟨its,rv,⟨o,n,e,c,_,dt⟩,_⟩:=I.list (.of q);obtain⟨as,ra⟩:=IsAll.reads I rs rv;exact⟨_,.list e c dt (by simpa using ra)⟩
 | _,_,_,.tuple q rs,r=>by
   cases r;obtain⟨its,rv,⟨o,e,c,n,dt⟩,_⟩:=I.tuple q;obtain⟨as,ra⟩:=IsAll.reads I rs rv;exact⟨_,.tuple e c dt (by simpa using ra)⟩
theorem IsAll.reads(I:Inv X pins σ H s):∀{vs ds} {us:List G5},IsAll X.K F H vs ds->Vals vs us->∃as,TU s.heap us ds as
 | _,_,_,.nil,r=>by cases r;exact⟨_,.nil⟩
 | _,_,_,.cons h t,r=>by
   cases r with
   | cons r1 r2=>
     obtain⟨as,ra⟩:=Is.reads I h r1;obtain⟨bs,rb⟩:=IsAll.reads I t r2;exact⟨_,.cons ra rb⟩
end
end
def IsS(K:Qa)(F:Addr->Prop)(H:Hp)(v:V)(n:Nat):Prop:=∃a xs,v = .ref a/\xs.length=n/\((F a/\Rd H a (.lst xs))\/∀H',SqL K H' a xs)
theorem IsS.to{K:Qa}{F F':Addr->Prop}{H H':Hp}{v:V}{n:Nat}(hL:∀a u,F a->H a=some u->F' a/\H' a=some u)(h:IsS K F H v n):IsS K F' H' v n:=by
 obtain⟨a,xs,e,l,⟨f,q|⟨o,q⟩⟩|q⟩:=h
 .exact⟨a,xs,e,l,.inl ⟨(hL a _ f q).1,.inl (hL a _ f q).2⟩⟩
 .exact⟨a,xs,e,l,.inl ⟨(hL a _ f q).1,.inr ⟨o,(hL a _ f q).2⟩⟩⟩
 .exact⟨a,xs,e,l,.inr q⟩
def DkAt(H:Hp)(v:V)(a:Addr)(ks:List Str):Prop:=v = .ref a/\∃kvs,H a=some (.dK kvs)/\kvs.map (·.1)=ks.map V1
theorem DkAt.to(h:DkAt H v a ks)(e:∀u,H a=some u->H' a=some u):DkAt H' v a ks:=let ⟨h1,kvs,h2,h3⟩:=h;⟨h1,kvs,e _ h2,h3⟩
inductive R where
 | o (d:G7)
 | n (ds:List G7)
def R.d:R->G7
 | .o d=>d
 | .n ds=>.list ds
structure Thg where
 R:Qa->(Addr->Prop)->(Addr->Prop)->Hp->V->Prop
 to:∀{K:Qa} {F F' W W':Addr->Prop} {H H':Hp} {v:V},(∀a u,F a->H a=some u->F' a/\H' a=some u)->(∀a u,W a->H a=some u->W' a/\H' a=some u)->TupStay H H'->R K F W H v->R K F' W' H' v
inductive DV where
 | im (d:G7)
 | own (ds:List G7)
 | ob
 | scr (n:Nat)
 | dct (ks:List Str)
   | gen (f:Addr->List V->HO) (ds:List G7)
   | rd (f:Addr->List V->HO) (ds:List G7)
   | exc (C:Addr) (ns:List Str) (ds:List G7)
   | thg (T:Thg)
   | thr (T:Thg)
abbrev DSt:=List (Option DV)
abbrev DE:=DSt->(R->Prop)->Prop
abbrev DT:=DSt->(Bool->Prop)->Prop
abbrev DA:=DSt->(List G7->Prop)->Prop
def unM(O:Ob):Addr->Prop:=λa=>¬O.M a
def ExAt(F:Addr->Prop)(H:Hp)(v:V)(C:Addr)(ns:List Str)(xs:List V):Prop:=∃a dx,v = .ref a/\F a/\F dx/\H a=some (XR a C dx)/\H dx=some (.xd (ns.zip xs))/\xs.length=ns.length
theorem ExAt.to(hL:∀a u,F a->H a=some u->F' a/\H' a=some u)(h:ExAt F H v C ns xs):ExAt F' H' v C ns xs:=by
 obtain⟨a,dx,e,f1,f2,q1,q2,l⟩:=h;exact⟨a,dx,e,(hL a _ f1 q1).1,(hL dx _ f2 q2).1,(hL a _ f1 q1).2,(hL dx _ f2 q2).2,l⟩
def SeenV(K:Qa)(O:Ob)(H:Hp)(v:V):DV->Prop
 | .im d=>Is K (unM O) H v d
 | .own ds=>Is K (unM O) H v (.list ds)
 | .ob=>v=O.v
 | .scr n=>IsS K (unM O) H v n
 | .dct ks=>∃a,¬O.M a/\DkAt H v a ks
 | .gen f ds=>∃a xs,v = .ref a/\¬O.M a/\H a=some (f a xs)/\IsAll K (unM O) H xs ds
 | .rd f ds=>∃a xs,v = .ref a/\¬O.M a/\H a=some (f a xs)/\IsAll K (unM O) H xs ds
 | .exc C ns ds=>∃xs,ExAt (unM O) H v C ns xs/\IsAll K (unM O) H xs ds
 | .thg T=>∃W:Addr->Prop,(∀a,W a->¬O.M a/\∃o,H a=some o)/\T.R K (unM O) W H v
 | .thr T=>∃W:Addr->Prop,(∀a,W a->¬O.M a/\∃o,H a=some o)/\T.R K (unM O) W H v
structure Seen(K:Qa)(O:Ob)(H:Hp)(σ:St)(ρ:DSt):Prop where
 ok:O.Ok
 p:O.P H
 at_:∀(i:Nat) r,ρ[i]? = some (some r)->∃v,σ[i]? = some (some v)/\SeenV K O H v r
 len:ρ.length=σ.length
theorem SeenV.stp{K:Qa}{O:Ob}{H H':Hp}{v:V}{r:DV}(s:Stp O H H')(h:SeenV K O H v r):SeenV K O H' v r:=by
 cases r with
 | im d=>exact Is.stp s (λ_ f=>f) (λ_ f=>f) h
 | own ds=>exact Is.stp s (λ_ f=>f) (λ_ f=>f) h
 | ob=>exact h
 | scr n=>exact IsS.to (λa u f q=>⟨f,s.s a u q f⟩) h
 | dct ks=>obtain⟨a,n,h⟩:=h;exact⟨a,n,h.to λu q=>s.s a u q n⟩
 | gen f ds=>obtain⟨a,xs,e,n,q,z⟩:=h;exact⟨a,xs,e,n,s.s a _ q n,IsAll.stp s (λ_ f=>f) (λ_ f=>f) z⟩
 | rd f ds=>obtain⟨a,xs,e,n,q,z⟩:=h;exact⟨a,xs,e,n,s.s a _ q n,IsAll.stp s (λ_ f=>f) (λ_ f=>f) z⟩
 | exc C ns ds=>obtain⟨xs,e,z⟩:=h;exact⟨xs,e.to λa u f q=>⟨f,s.s a u q f⟩,IsAll.stp s (λ_ f=>f) (λ_ f=>f) z⟩
 | thg T=>obtain⟨W,hw,z⟩:=h;exact⟨W,λa w=>⟨(hw a w).1,let ⟨o,e⟩:=(hw a w).2;⟨o,s.s a o e (hw a w).1⟩⟩,T.to (λa u f q=>⟨f,s.s a u q f⟩) (λa u w q=>⟨w,s.s a u q (hw a w).1⟩) s.t z⟩
 | thr T=>obtain⟨W,hw,z⟩:=h;exact⟨W,λa w=>⟨(hw a w).1,let ⟨o,e⟩:=(hw a w).2;⟨o,s.s a o e (hw a w).1⟩⟩,T.to (λa u f q=>⟨f,s.s a u q f⟩) (λa u w q=>⟨w,s.s a u q (hw a w).1⟩) s.t z⟩
theorem Seen.stp{K:Qa}{O:Ob}{H H':Hp}{σ:St}{ρ:DSt}(S:Seen K O H σ ρ)(s:Stp O H H'):Seen K O H' σ ρ :=
 ⟨S.ok,s.p S.p,λi r e=>let ⟨v,h1,h2⟩:=S.at_ i r e;⟨v,h1,h2.stp s⟩,S.len⟩
def Out(K:Qa)(O:Ob)(H H':Hp)(v:V):R->Prop
 | .o d=>Is K (unM O) H' v d
 | .n ds=>∃a xs,v = .ref a/\H a=none/\H' a=some (.lst xs)/\IsAll K (unM O) H' xs ds
theorem Out.is{K:Qa}{O:Ob}{H H':Hp}{v:V}{r:R}(ok:O.Ok)(p:O.P H)(h:Out K O H H' v r):Is K (unM O) H' v r.d:=by
 cases r with
 | o d=>exact h
 | n ds=>
   obtain⟨a,xs,rfl,hn,e,q⟩:=h;exact .list (λm=>by obtain⟨o,z⟩:=ok.here H a p m;rw[hn] at z;cases z) e q
def ED(K:Qa)(O:Ob)(t:TE)(f:DE):Prop :=
 ∀(σ:St) (H:Hp) (ρ:DSt) (Q:VK) (Qd:R->Prop),Seen K O H σ ρ->f ρ Qd->(∀v H' r,Stp O H H'->Out K O H H' v r->Qd r->Q v H')->t σ H Q
def TD(K:Qa)(O:Ob)(t:TT)(f:DT):Prop :=
 ∀(σ:St) (H:Hp) (ρ:DSt) (Q:Bool->Hp->Prop) (Qd:Bool->Prop),Seen K O H σ ρ->f ρ Qd->(∀b H',Stp O H H'->Qd b->Q b H')->t σ H Q
def AD(K:Qa)(O:Ob)(t:TA)(f:DA):Prop :=
 ∀(σ:St) (H:Hp) (ρ:DSt) (Q:List V->Hp->Prop) (Qd:List G7->Prop),Seen K O H σ ρ->f ρ Qd->(∀vs H' ds,Stp O H H'->IsAll K (unM O) H' vs ds->Qd ds->Q vs H')->t σ H Q
section
variable {K:Qa}{O:Ob}
def cD(d:G7):DE:=λ_ Q=>Q (.o d)
theorem z1q{i:Int}:ED K O (tC (.int i)) (cD (.int i)):=λσ H ρ Q Qd S h k=>k _ H (.o (.int i)) (.refl _ _) (Is.int i) h
theorem z1h: ED K O (tC (.str x)) (cD (.str x)):=λσ H ρ Q Qd S h k=>k _ H (.o (.str x)) (.refl _ _) (Is.str x) h
theorem z4s{b:Bool}:ED K O (tC (.bl b)) (cD (.bool b)):=λσ H ρ Q Qd S h k=>k _ H (.o (.bool b)) (.refl _ _) (Is.bool b) h
theorem z0s:ED K O (tC .non) (cD .none):=λσ H ρ Q Qd S h k=>k _ H (.o .none) (.refl _ _) Is.none h
def seeR:DV->Option G7
 | .im d=>some d
 | .own ds=>some (.list ds)
 | .ob=>none
 | .scr _=>none
 | .dct _=>none
 | .gen _ _=>none
 | .rd _ _=>none
 | .exc _ _ _=>none
 | .thg _=>none
 | .thr _=>none
def vD(i:Nat):DE:=λρ Q=>∃r d,ρ[i]? = some (some r)/\seeR r=some d/\Q (.o d)
theorem z3r{i:Nat}:ED K O (tVar i) (vD i):=λσ H ρ Q Qd S h k=>by
 obtain⟨r,d,e,e2,h⟩:=h;obtain⟨v,hv,sv⟩:=S.at_ i r e;refine⟨v,hv,k _ H _ (.refl _ _) ?_ h⟩
 cases r with
 | im d'=>cases e2;exact sv
 | own ds=>cases e2;exact sv
 | ob=>cases e2
 | scr n=>cases e2
 | dct ks=>cases e2
 | gen f ds=>cases e2
 | rd f ds=>cases e2
 | exc C ns ds=>cases e2
 | thg T=>cases e2
 | thr T=>cases e2
def OpD(K:Qa)(O:Ob)(r:R2)(f:G7->G7->(R->Prop)->Prop):Prop :=
 ∀(H:Hp) (x y:V) (d e:G7) (Q:VK) (Qd:R->Prop),O.Ok->O.P H->Is K (unM O) H x d->Is K (unM O) H y e->f d e Qd->(∀v H' r,Stp O H H'->Out K O H H' v r->Qd r->Q v H')->r x y H Q
theorem Out.ahead(ok:O.Ok)(p:O.P H)(s1:Stp O H H1)(h:Out K O H1 H2 v r):Out K O H H2 v r:=by
 cases r with
 | o d=>exact h
 | n ds=>
   obtain⟨a,xs,rfl,hn,e,q⟩:=h;have m:¬O.M a:=λm=>by obtain⟨o,z⟩:=ok.here H1 a (s1.p p) m;rw[hn] at z;cases z
   exact⟨a,xs,rfl,s1.s.free m hn,e,q⟩
def opDE(f:G7->G7->(R->Prop)->Prop)(fa fb:DE):DE:=λρ Q=>fa ρ λa=>fb ρ λb=>f a.d b.d Q
theorem zlu(hr:OpD K O r f)(ha:ED K O ta fa)(hb:ED K O tb fb):ED K O (tOp r ta tb) (opDE f fa fb):=λσ H ρ Q Qd S h k=>by
 refine ha σ H ρ _ _ S h λv H1 a s1 o1 h1=>?_;refine hb σ H1 ρ _ _ (S.stp s1) h1 λw H2 b s2 o2 h2=>?_;have p1:=s1.p S.p;refine hr H2 v w a.d b.d _ _ S.ok (s2.p p1) (Is.stp s2 (λ_ f=>f) (λ_ f=>f) (o1.is S.ok S.p)) (o2.is S.ok p1) h2 λz H3 c s3 o3 h3=>?_;exact k z H3 c ((s1.trans s2).trans s3) (Out.ahead S.ok S.p (s1.trans s2) o3) h3
def fn2(F:G7->G7->Option R):G7->G7->(R->Prop)->Prop:=λa b Q=>∃r,F a b=some r/\Q r
def bD(f:DE):DT:=λρ Q=>f ρ λr=>∃b,r.d = .bool b/\Q b
theorem z0n(h:ED K O t f):TD K O (zfw t) (bD f):=λσ H ρ Q Qd S hf k=>by
 refine h σ H ρ _ _ S hf λv H1 r s1 o1 zz=>?_;obtain⟨b,e,q⟩:=zz;have i:=o1.is S.ok S.p;rw[e] at i;cases i;exact⟨b,rfl,k b H1 s1 q⟩
theorem zzv(h:ED K O t f):TD K O (tB t) (bD f):=λσ H ρ Q Qd S hf k=>by
 refine h σ H ρ _ _ S hf λv H1 r s1 o1 zz=>?_;obtain⟨b,e,q⟩:=zz;have i:=o1.is S.ok S.p;rw[e] at i;cases i;exact⟨b,rfl,k b H1 s1 q⟩
def andT(f g:DT):DT:=λρ Q=>f ρ λb=>if b=true then g ρ Q else Q false
def orT(f g:DT):DT:=λρ Q=>f ρ λb=>if b=true then Q true else g ρ Q
def notT(f:DT):DT:=λρ Q=>f ρ λb=>Q (!b)
theorem z2i(h:TD K O t f)(h':TD K O u g):TD K O (tAnd t u) (andT f g):=λσ H ρ Q Qd S hf k=>by
 refine h σ H ρ _ _ S hf λb H1 s1 q=>?_
 cases b with
 | true=>exact h' σ H1 ρ _ _ (S.stp s1) q λc H2 s2 q2=>k c H2 (s1.trans s2) q2
 | false=>exact k false H1 s1 q
theorem z4j(h:TD K O t f)(h':TD K O u g):TD K O (tOr t u) (orT f g):=λσ H ρ Q Qd S hf k=>by
 refine h σ H ρ _ _ S hf λb H1 s1 q=>?_
 cases b with
 | false=>exact h' σ H1 ρ _ _ (S.stp s1) q λc H2 s2 q2=>k c H2 (s1.trans s2) q2
 | true=>exact k true H1 s1 q
theorem z1k(h:TD K O t f):TD K O (tNot t) (notT f):=λσ H ρ Q Qd S hf k=>h σ H ρ _ _ S hf λb H1 s1 q=>k (!b) H1 s1 q
def aNil:DA:=λ_ Q=>Q []
def zp5(f:DE)(g:DA):DA:=λρ Q=>f ρ λr=>g ρ λds=>Q (r.d::ds)
theorem z2k:AD K O tNil aNil:=λσ H ρ Q Qd S h k=>k [] H [] (.refl _ _) .nil h
theorem zyd(h:ED K O t f)(h':AD K O u g):AD K O (zao t u) (zp5 f g):=λσ H ρ Q Qd S hf k=>by
 refine h σ H ρ _ _ S hf λv H1 r s1 o1 q=>?_;refine h' σ H1 ρ _ _ (S.stp s1) q λvs H2 ds s2 o2 q2=>?_;exact k (v::vs) H2 (r.d::ds) (s1.trans s2) (.cons (Is.stp s2 (λ_ f=>f) (λ_ f=>f) (o1.is S.ok S.p)) o2) q2
def tupD(g:DA):DE:=λρ Q=>g ρ λds=>ds.length<=sizeLine/\Q (.o (.tuple ds))
def lstD(g:DA):DE:=λρ Q=>g ρ λds=>ds.length<=sizeLine/\Q (.n ds)
theorem z0j(h:AD K O u g):ED K O (tTup u) (tupD g):=λσ H ρ Q Qd S hf k=>by
 refine h σ H ρ _ _ S hf λvs H1 ds s1 o1 ⟨z,q⟩=>⟨by rw[o1.length];exact z,λp hp=>?_⟩;have s2:Stp O H1 (upd H1 p (.tup vs)):=.new S.ok hp _;exact k _ _ (.o (.tuple ds)) (s1.trans s2) (.tuple (.of zad) (o1.stp s2 (λ_ f=>f) (λ_ f=>f))) q
theorem z3f(h:AD K O u g):ED K O (tLst u) (lstD g):=λσ H ρ Q Qd S hf k=>by
 refine h σ H ρ _ _ S hf λvs H1 ds s1 o1 ⟨z,q⟩=>⟨by rw[o1.length];exact z,λp hp=>?_⟩;have s2:Stp O H1 (upd H1 p (.lst vs)):=.new S.ok hp _;have m:¬O.M p:=λm=>by obtain⟨o,z⟩:=S.ok.here H1 p (s1.p S.p) m;rw[hp] at z;cases z
 exact k _ _ (.n ds) (s1.trans s2) ⟨p,vs,rfl,s1.s.free m hp,zad,o1.stp s2 (λ_ f=>f) (λ_ f=>f)⟩ q
def zeg(K:Qa)(O:Ob)(r:List V->Hp->VK->Prop)(f:List G7->(R->Prop)->Prop):Prop :=
 ∀(H:Hp) (vs:List V) (ds:List G7) (Q:VK) (Qd:R->Prop),O.Ok->O.P H->IsAll K (unM O) H vs ds->f ds Qd->(∀v H' r,Stp O H H'->Out K O H H' v r->Qd r->Q v H')->r vs H Q
def zcv(f:List G7->(R->Prop)->Prop)(g:DA):DE:=λρ Q=>g ρ λds=>f ds Q
theorem zm3(hr:zeg K O r f)(h:AD K O u g):ED K O (tCB r u) (zcv f g):=λσ H ρ Q Qd S hf k=>by
 refine h σ H ρ _ _ S hf λvs H1 ds s1 o1 q=>?_;exact hr H1 vs ds _ _ S.ok (s1.p S.p) o1 q λv H2 r s2 o2 q2=>k v H2 r (s1.trans s2) (o2.ahead S.ok S.p s1) q2
def fn1(F:List G7->Option R):List G7->(R->Prop)->Prop:=λds Q=>∃r,F ds=some r/\Q r
end
abbrev DG:=G7->DSt->(DSt->Prop)->Prop
def gN(i:Nat):DG:=λd ρ Q=>Q (ρ.set i (some (.im d)))
def gTD:List Nat->List G7->DSt->(DSt->Prop)->Prop
 | [],[],ρ,Q=>Q ρ
 | i::is,d::ds,ρ,Q=>gTD is ds (ρ.set i (some (.im d))) Q
 | _,_,_,_=>False
def gT(is:List Nat):DG:=λd ρ Q=>∃ds,d = .tuple ds/\gTD is ds ρ Q
def GS(K:Qa)(O:Ob)(t:TG)(g:DG):Prop :=
 ∀(σ:St) (H:Hp) (ρ:DSt) (v:V) (d:G7) (Q:St->Hp->Prop) (Qd:DSt->Prop),Seen K O H σ ρ->Is K (unM O) H v d->g d ρ Qd->(∀σ' ρ',Seen K O H σ' ρ'->Qd ρ'->Q σ' H)->t v σ H Q
section
variable {K:Qa}{O:Ob}
theorem Seen.set{i:Nat}(S:Seen K O H σ ρ)(h:SeenV K O H v r):Seen K O H (σ.set i (some v)) (ρ.set i (some r)):=by
 have hl:=S.len;refine⟨S.ok,S.p,λj r' e=>?_,by rw[QV,QV];exact S.len⟩
 by_cases hj:i=j
 .subst hj
  have hi:i<ρ.length:=by
   rcases Zx i ρ.length with z|z
   .exact z
   .rw[Q0 (by simpa using z)] at e;cases e
  rw[Q3 hi] at e;cases e;exact⟨v,Q3 (by lia),h⟩
 .rw[QB hj] at e;obtain⟨w,h1,h2⟩:=S.at_ j r' e;exact⟨w,by rw[QB hj];exact h1,h2⟩
theorem zz3{i:Nat}:GS K O (zax i) (gN i):=λσ H ρ v d Q Qd S i h k=>k _ _ (S.set (r:=.im d) i) h
def GSs(K:Qa)(O:Ob)(t:TGs)(is:List Nat):Prop :=
 ∀(σ:St) (H:Hp) (ρ:DSt) (vs:List V) (ds:List G7) (Q:St->Hp->Prop) (Qd:DSt->Prop),Seen K O H σ ρ->IsAll K (unM O) H vs ds->gTD is ds ρ Qd->(∀σ' ρ',Seen K O H σ' ρ'->Qd ρ'->Q σ' H)->t vs σ H Q
theorem zyy:GSs K O gNil []:=λσ H ρ vs ds Q Qd S i h k=>by
 cases i with
 | nil=>exact⟨rfl,k σ ρ S h⟩
 | cons _ _=>exact h.elim
theorem zvx{i:Nat}{is:List Nat}(ht:GSs K O t is):GSs K O (ziq (zax i) t) (i::is):=λσ H ρ vs ds Q Qd S h q k=>by
 cases h with
 | nil=>exact q.elim
 | cons h1 h2=>exact⟨_,_,rfl,ht _ H _ _ _ _ _ (S.set (r:=.im _) h1) h2 q k⟩
theorem zj4:∀{is:List Nat} {ds:List G7} {ρ:DSt} {Q:DSt->Prop},gTD is ds ρ Q->ds.length=is.length
 | [],[],_,_,_=>rfl
 | [],_::_,_,_,h=>h.elim
 | _::_,[],_,_,h=>h.elim
 | _::is,_::ds,ρ,Q,h=>by
   have e:=zj4 (is:=is) (ds:=ds) (Q:=Q) h;rw[Qk,Qk,e]
theorem z1m{is:List Nat}{n:Nat}(hn:is.length=n)(ht:GSs K O t is):GS K O (gTup K n t) (gT is):=λσ H ρ v d Q Qd S i h k=>by
 obtain⟨ds,rfl,h⟩:=h
 cases i with
 | tuple q r=>exact⟨_,_,rfl,q,by rw[r.length,zj4 h];exact hn,ht σ H ρ _ ds Q Qd S r h k⟩
structure Walk(K:Qa)(O:Ob)(H H1:Hp)(J:It)(ds:List G7)(B:Addr->Prop):Prop where
 st:Stp O H H1
 hb:∀a,B a->¬O.M a/\∃o,H1 a=some o
 stop:∀H2 i,(∀a o,B a->H1 a=some o->H2 a=some o)->TupStay H1 H2->ds.length<=i->J.stop i H2
 item:∀H2 i d,(∀a o,B a->H1 a=some o->H2 a=some o)->TupStay H1 H2->ds[i]? = some d->(flat d=true\/∀a o,H1 a=some o->¬O.M a->H2 a=some o) ->
  J.go i H2/\∀x H3,J.yld i H2 x H3->Same H2 H3/\Is K (λa=>¬O.M a/\(flat d=true\/∃o,H1 a=some o)) H3 x d
abbrev DI:=DSt->(Bool->List G7->Prop)->Prop
def SrcS(K:Qa)(O:Ob)(wi:TI)(f:DI):Prop :=
 ∀(σ:St) (H:Hp) (ρ:DSt) (R:It->Hp->Prop) (Qd:Bool->List G7->Prop),Seen K O H σ ρ->f ρ Qd ->
   (∀(J:It) (H1:Hp) (ds:List G7) (B:Addr->Prop) (fr:Bool),Walk K O H H1 J ds B->(fr=true->∀a,B a->H a=none)->Qd fr ds->R J H1)->wi σ H R
end
def zbu(h:Nat)(g:DG)(ft:DT)(fe:DE)(ρ:DSt)(Q:List G7->Prop):List G7->List G7->Prop
 | [],acc=>Q acc
 | d::ds,acc=>g d (Qt h none++ρ) λρ2=>ft ρ2 λb=>if b=true then fe ρ2 λr=>acc.length<sizeLine/\zbu h g ft fe ρ Q ds (acc ++ [r.d]) else zbu h g ft fe ρ Q ds acc
def zqq(h:Nat)(f:DI)(g:DG)(ft:DT)(fe:DE):DE:=λρ Q=>f ρ λ_ ds=>zbu h g ft fe ρ (λes=>Q (.n es)) ds []
section
variable {K:Qa}{O:Ob}
theorem zhv(S:Seen K O H σ ρ)(h:Nat):Seen K O H (Qt h none++σ) (Qt h none++ρ):=by
 refine⟨S.ok,S.p,λi r e=>?_,by rw[Ql,Ql,QR,QR,S.len]⟩
 by_cases hi:i<h
 .rw[QO (by simpa using hi),QZ,ND hi] at e;cases e
 .rw[QU (by simpa using Vy hi),QR] at e;obtain⟨v,h1,h2⟩:=S.at_ _ r e;exact⟨v,by rw[QU (by simpa using Vy hi),QR];exact h1,h2⟩
theorem zlj(S:Seen K O H σ ρ)(hD:H D=none):Seen K (O.plus D (.lst xs)) (upd H D (.lst xs)) σ ρ:=by
 have gr:Same H (upd H D (.lst xs)):=same_new hD _;refine⟨S.ok.plus D xs,⟨S.ok.grow _ _ gr S.p,zad⟩,λi r e=>?_,S.len⟩;obtain⟨v,h1,h2⟩:=S.at_ i r e
 have go:∀d,Is K (unM O) H v d->Is K (unM (O.plus D (.lst xs))) (upd H D (.lst xs)) v d:=λd z=>
  z.to (λa ys f q=>⟨λm=>(by
   rcases m with m|rfl
   .exact f m
   .rw[hD] at q;cases q),gr _ _ q⟩) λa ys q=>SqT.stay (h:=q) λb u _ hb=>gr b u hb
 refine⟨v,h1,?_⟩
 cases r with
 | im d=>exact go d h2
 | own ds=>exact go _ h2
 | ob=>exact h2
 | scr n=>exact IsS.to (λa u f q=>⟨λm=>(by
  rcases m with m|rfl
  .exact f m
  .rw[hD] at q;cases q),gr _ _ q⟩) h2
 | dct ks=>
   obtain⟨a,n,h2⟩:=h2;refine⟨a,λm=>?_,h2.to λu q=>gr _ _ q⟩;rcases m with m|rfl
   .exact n m
   .obtain⟨_,kvs,q,_⟩:=h2;rw[hD] at q;cases q
 | gen f ds=>
   obtain⟨a,ys,e,n,q,z⟩:=h2
   refine⟨a,ys,e,λm=>?_,gr _ _ q,z.to (λa ys f q=>⟨λm=>(by
    rcases m with m|rfl
    .exact f m
    .rw[hD] at q;cases q),gr _ _ q⟩) λa ys q=>SqT.stay (h:=q) λb u _ hb=>gr b u hb⟩
   rcases m with m|rfl
   .exact n m
   .rw[hD] at q;cases q
 | rd f ds=>
   obtain⟨a,ys,e,n,q,z⟩:=h2
   refine⟨a,ys,e,λm=>?_,gr _ _ q,z.to (λa ys f q=>⟨λm=>(by
    rcases m with m|rfl
    .exact f m
    .rw[hD] at q;cases q),gr _ _ q⟩) λa ys q=>SqT.stay (h:=q) λb u _ hb=>gr b u hb⟩
   rcases m with m|rfl
   .exact n m
   .rw[hD] at q;cases q
 | exc C ns ds=>
   obtain⟨ys,e,z⟩:=h2
   have mv:∀a u,unM O a->H a=some u->unM (O.plus D (.lst xs)) a/\upd H D (.lst xs) a=some u:=λa u f q=>⟨λm=>(by
    rcases m with m|rfl
    .exact f m
    .rw[hD] at q;cases q),gr _ _ q⟩
   exact⟨ys,e.to mv,z.to (λa ys f q=>mv a _ f q) λa ys q=>SqT.stay (h:=q) λb u _ hb=>gr b u hb⟩
 | thg T=>
   obtain⟨W,hw,z⟩:=h2
   exact⟨W,λa w=>⟨λm=>(by
    obtain⟨n,o,q⟩:=hw a w;rcases m with m|rfl
    .exact n m
    .rw[hD] at q;cases q),let ⟨o,q⟩:=(hw a w).2;⟨o,gr _ _ q⟩⟩,T.to (λa u f q=>⟨λm=>(by
    rcases m with m|rfl
    .exact f m
    .rw[hD] at q;cases q),gr _ _ q⟩) (λa u w q=>⟨w,gr _ _ q⟩) (λb u _ hb=>gr b u hb) z⟩
 | thr T=>
   obtain⟨W,hw,z⟩:=h2
   exact⟨W,λa w=>⟨λm=>(by
    obtain⟨n,o,q⟩:=hw a w;rcases m with m|rfl
    .exact n m
    .rw[hD] at q;cases q),let ⟨o,q⟩:=(hw a w).2;⟨o,gr _ _ q⟩⟩,T.to (λa u f q=>⟨λm=>(by
    rcases m with m|rfl
    .exact f m
    .rw[hD] at q;cases q),gr _ _ q⟩) (λa u w q=>⟨w,gr _ _ q⟩) (λb u _ hb=>gr b u hb) z⟩
theorem zxr{h:Nat}(hs:SrcS K O wi f)(hg:∀O':Ob,GS K O' tg g)
 (hf:∀(D:Addr) (xs:List V),¬O.M D->TD K (O.plus D (.lst xs)) tf ft) (he:∀(D:Addr) (xs:List V),¬O.M D->ED K (O.plus D (.lst xs)) te fe):ED K O (zdl h wi tg tf te) (zqq h f g ft fe):=by
 intro σ H ρ Q Qd S hq k;refine hs σ H ρ _ _ S hq λJ H1 ds B fr W _ hgo D hD=>?_;have S1:=S.stp W.st;have nM:¬O.M D:=λm=>by obtain⟨o,z⟩:=S.ok.here H1 D S1.p m;rw[hD] at z;cases z
 have aD:∀a o,H1 a=some o->a≠D:=λa o e z=>by rw[z,hD] at e;cases e
 refine⟨λi m ys H2=>m=ds.length-i/\i<=ds.length/\H2 D=some (.lst ys)/\(∀a o,H1 a=some o->¬O.M a->H2 a=some o)/\TupStay H1 H2/\Seen K (O.plus D (.lst ys)) H2 σ ρ /\
  ∃acc,IsAll K (λa=>¬(O.M a\/a=D)) H2 ys acc/\zbu h g ft fe ρ (λes=>Qd (.n es)) (ds.drop i) acc,⟨ds.length,rfl,QI _,zad,λa o e _=>by rw[zaa (aD a o e)];exact e,λa u _ e=>by rw[zaa (aD a u e)];exact e,zlj S1 hD,[],.nil,by simpa using hgo⟩,?_⟩
 rintro i m ys H2 ⟨rfl,hi,hDy,kp,tst,S2,acc,hacc,go⟩;refine⟨hDy,?_⟩;have kB:∀a o,B a->H1 a=some o->H2 a=some o:=λa o b e=>kp a o e (W.hb a b).1
 by_cases hlt:i<ds.length
 .right;have hd:ds[i]? = some ds[i]:=Qb hlt;rw[Zu hlt] at go;obtain⟨hgo1,hy⟩:=W.item H2 i ds[i] kB tst hd (.inr kp);refine⟨hgo1,λx H3 y=>?_⟩;obtain⟨sm,ix⟩:=hy x H3 y;have st3:Stp (O.plus D (.lst ys)) H2 H3:=.same S2.ok sm;have S3:=S2.stp st3
  have ix':Is K (unM (O.plus D (.lst ys))) H3 x ds[i]:=by
   by_cases hfl:flat ds[i]=true
   .exact Is.flat (TupStay.refl H3) ix hfl
   .exact ix.weak λa ha mm=>by
     rcases mm with mm|mm
     .exact ha.1 mm
     .rcases ha.2 with z|⟨o,z⟩
      .exact hfl z
      .exact aD a o z mm
  refine hg _ _ H3 _ x ds[i] _ _ (zhv S3 h) ix' go λσ2 ρ2 Sg q=>?_;refine hf D ys nM σ2 H3 ρ2 _ _ Sg q λb H4 st4 q4=>?_;have st34:=st3.trans st4;have acc4:∀{H':Hp},Stp (O.plus D (.lst ys)) H2 H'->IsAll K (λa=>¬(O.M a\/a=D)) H' ys acc:=λst=>hacc.stp st (λ_ z=>z) (λ_ z=>z)
  cases b with
  | false=>
    refine⟨ds.length-(i+1),by lia,rfl,hlt,st34.s D _ hDy |> λz=>(st34.p S2.p).2,λa o e n=>?_,λa u hu e=>st34.t a u hu (tst a u hu e),S2.stp st34,acc,acc4 st34,q4⟩
    exact st34.s a o (kp a o e n) λmm=>by
     rcases mm with mm|mm
     .exact n mm
     .exact aD a o e mm
  | true=>
    refine he D ys nM σ2 H4 ρ2 _ _ (Sg.stp st4) q4 λyv H5 r st5 o5 zz=>?_;obtain⟨hz,q5⟩:=zz;have st25:=st34.trans st5;have S5:=S2.stp st25;have hD5:H5 D=some (.lst ys):=(st25.p S2.p).2;have iy:=o5.is (Sg.stp st4).ok (Sg.stp st4).p;have a5:=acc4 st25;refine⟨hD5,by rw[hacc.length];exact hz,ds.length-(i+1),by lia,rfl,hlt,zad,λa o e n=>?_,λa u hu e=>?_,?_,acc ++ [r.d],?_,q5⟩
    .rw[zaa (aD a o e)]
     exact st25.s a o (kp a o e n) λmm=>by
      rcases mm with mm|mm
      .exact n mm
      .exact aD a o e mm
    .rw[zaa (aD a u e)];exact st25.t a u hu (tst a u hu e)
    .have p5:O.P (upd H5 D (.lst (ys ++ [yv]))):=S.ok.loc H5 _ (λa m=>zaa λz=>nM (z ▸ m)) S5.p.1;refine⟨S.ok.plus D _,⟨p5,zad⟩,λj r' e=>?_,S5.len⟩;obtain⟨v',h1,h2⟩:=S5.at_ j r' e
     have go:∀d,Is K (unM (O.plus D (.lst ys))) H5 v' d->Is K (unM (O.plus D (.lst (ys ++ [yv])))) (upd H5 D (.lst (ys ++ [yv]))) v' d:=λd z=>
      z.to (λa xs fa qa=>⟨fa,by rw[zaa λz=>fa (.inr z)];exact qa⟩) λa xs qa=>SqT.stay (h:=qa) λb u hu hb=>by
       rw[zaa λz=>?_]
       .exact hb
       .obtain⟨us,e1|⟨o',e1⟩⟩:=hu <;> (rw[z,hD5] at hb;cases hb;cases e1)
     refine⟨v',h1,?_⟩
     cases r' with
     | im d=>exact go d h2
     | own es=>exact go _ h2
     | ob=>exact h2
     | scr n=>exact IsS.to (λa u fa qa=>⟨fa,by rw[zaa λz=>fa (.inr z)];exact qa⟩) h2
     | dct ks=>obtain⟨a,fa,h2⟩:=h2;exact⟨a,fa,h2.to λu qa=>by rw[zaa λz=>fa (.inr z)];exact qa⟩
     | gen f ds=>
       obtain⟨a,xs,e,fa,q,z⟩:=h2;refine⟨a,xs,e,fa,by rw[zaa λz=>fa (.inr z)];exact q,z.to (λa xs fa qa=>⟨fa,by rw[zaa λz=>fa (.inr z)];exact qa⟩) λa xs qa=>SqT.stay (h:=qa) λb u hu hb=>?_⟩;rw[zaa λz=>?_]
       .exact hb
       .obtain⟨us,e1|⟨o',e1⟩⟩:=hu <;> (rw[z,hD5] at hb;cases hb;cases e1)
     | rd f ds=>
       obtain⟨a,xs,e,fa,q,z⟩:=h2;refine⟨a,xs,e,fa,by rw[zaa λz=>fa (.inr z)];exact q,z.to (λa xs fa qa=>⟨fa,by rw[zaa λz=>fa (.inr z)];exact qa⟩) λa xs qa=>SqT.stay (h:=qa) λb u hu hb=>?_⟩;rw[zaa λz=>?_]
       .exact hb
       .obtain⟨us,e1|⟨o',e1⟩⟩:=hu <;> (rw[z,hD5] at hb;cases hb;cases e1)
     | exc C ns ds=>
       obtain⟨xs,e,z⟩:=h2;have mv:∀a u,unM (O.plus D (.lst ys)) a->H5 a=some u->unM (O.plus D (.lst (ys ++ [yv]))) a/\upd H5 D (.lst (ys ++ [yv])) a=some u:=λa u fa qa=>⟨fa,by rw[zaa λz=>fa (.inr z)];exact qa⟩;refine⟨xs,e.to mv,z.to (λa xs fa qa=>mv a _ fa qa) λa xs qa=>SqT.stay (h:=qa) λb u hu hb=>?_⟩;rw[zaa λz=>?_]
       .exact hb
       .obtain⟨us,e1|⟨o',e1⟩⟩:=hu <;> (rw[z,hD5] at hb;cases hb;cases e1)
     | thg T=>
       obtain⟨W,hw,z⟩:=h2;refine⟨W,λa w=>⟨(hw a w).1,let ⟨o,q⟩:=(hw a w).2;⟨o,by rw[zaa λz=>(hw a w).1 (.inr z)];exact q⟩⟩,T.to (λa u fa qa=>⟨fa,by rw[zaa λz=>fa (.inr z)];exact qa⟩) (λa u w q=>⟨w,by rw[zaa λz=>(hw a w).1 (.inr z)];exact q⟩) (λb u hu hb=>?_) z⟩;rw[zaa λz=>?_]
       .exact hb
       .obtain⟨us,e1|⟨o',e1⟩⟩:=hu <;> (rw[z,hD5] at hb;cases hb;cases e1)
     | thr T=>
       obtain⟨W,hw,z⟩:=h2;refine⟨W,λa w=>⟨(hw a w).1,let ⟨o,q⟩:=(hw a w).2;⟨o,by rw[zaa λz=>(hw a w).1 (.inr z)];exact q⟩⟩,T.to (λa u fa qa=>⟨fa,by rw[zaa λz=>fa (.inr z)];exact qa⟩) (λa u w q=>⟨w,by rw[zaa λz=>(hw a w).1 (.inr z)];exact q⟩) (λb u hu hb=>?_) z⟩;rw[zaa λz=>?_]
       .exact hb
       .obtain⟨us,e1|⟨o',e1⟩⟩:=hu <;> (rw[z,hD5] at hb;cases hb;cases e1)
    .have mv:∀{vs es},IsAll K (λa=>¬(O.M a\/a=D)) H5 vs es->IsAll K (λa=>¬(O.M a\/a=D)) (upd H5 D (.lst (ys ++ [yv]))) vs es:=λz=>
      z.to (λa xs fa qa=>⟨fa,by rw[zaa λz=>fa (.inr z)];exact qa⟩) λa xs qa=>SqT.stay (h:=qa) λb u hu hb=>by
       rw[zaa λz=>?_]
       .exact hb
       .obtain⟨us,e1|⟨o',e1⟩⟩:=hu <;> (rw[z,hD5] at hb;cases hb;cases e1)
     exact mv (a5.snoc iy)
 .left;have e:i=ds.length:=by lia
  subst e;rw[Jv] at go;refine⟨W.stop H2 _ kB tst (Qg _),k _ H2 (.n acc) ?_ ⟨D,ys,rfl,W.st.s.free nM hD,hDy,hacc.weak λa z m=>z (.inl m)⟩ go⟩;refine W.st.trans ⟨λa o e n=>kp a o e n,λ_=>S2.p.1,tst⟩
end
section
variable {K:Qa}{O:Ob}
theorem zfa{i:Nat}{d:G7}(h:IsAll K (unM O) H1 xs ds)(hd:ds[i]? = some d)(t:TupStay H1 H2)(c:flat d=true\/∀a o,H1 a=some o->¬O.M a->H2 a=some o):
 ∃v,xs[i]? = some v/\Is K (λa=>¬O.M a/\(flat d=true\/∃o,H1 a=some o)) H2 v d:=by
 obtain⟨v,hv,iv⟩:=h.get hd;refine⟨v,hv,?_⟩;rcases c with c|c
 .exact Is.flat t iv c
 .exact iv.to (λa ys f q=>⟨⟨f,.inr ⟨_,q⟩⟩,c a _ q f⟩) λa ys q=>SqT.stay (h:=q) t
def R.isN:R->Bool
 | .n _=>true
 | .o _=>false
def srcL(f:DE):DI:=λρ Q=>f ρ λr=>∃ds,r.d = .list ds/\Q r.isN ds
theorem zho(h:ED K O t f):SrcS K O (zb0 K t) (srcL f):=λσ H ρ R Qd S hf k=>by
 refine h σ H ρ _ _ S hf λv H1 r st o1 zz=>?_;obtain⟨ds,e,q⟩:=zz;have i1:=o1.is S.ok S.p;rw[e] at i1
 cases i1 with
 | list f0 ha hs=>
   rename_i a xs
   refine⟨a,rfl,⟨xs,.of ha⟩,k (Itl K a) H1 ds (λb=>b=a) r.isN ⟨st,λb hb=>by subst hb;exact⟨f0,_,ha⟩,λH2 i kb _ hi=>?_,λH2 i d kb t2 hd c=>?_⟩ (λz b hb=>?_) q⟩
   .exact⟨xs,.of (kb a _ rfl ha),by rw[hs.length];exact hi⟩
   .obtain⟨w,hw,iw⟩:=zfa (O:=O) hs hd t2 c;have q2:SqL K H2 a xs:=.of (kb a _ rfl ha);refine⟨⟨xs,w,q2,hw⟩,λx H3 zz=>?_⟩;obtain⟨e3,y⟩:=zz;subst e3;have:=y xs q2;rw[hw] at this;cases this;exact⟨Same.refl _,iw⟩
   .subst hb
    cases r with
    | o d=>cases z
    | n es=>
      obtain⟨a',xs',e',hn,_⟩:=o1;cases e';exact hn
def srcT(f:DE):DI:=λρ Q=>f ρ λr=>∃ds,r.d = .tuple ds/\Q true ds
theorem zy4(h:ED K O t f):SrcS K O (iTup K t) (srcT f):=λσ H ρ R Qd S hf k=>by
 refine h σ H ρ _ _ S hf λv H1 r st o1 zz=>?_;obtain⟨ds,e,q⟩:=zz;have i1:=o1.is S.ok S.p;rw[e] at i1
 cases i1 with
 | tuple ha hs=>
   rename_i a xs
   refine⟨a,rfl,⟨xs,ha⟩,k (Itt K a) H1 ds (λ_=>False) true ⟨st,λb hb=>hb.elim,λH2 i kb t2 hi=>?_,λH2 i d kb t2 hd c=>?_⟩ (λz b hb=>hb.elim) q⟩
   .exact⟨xs,SqT.stay t2 ha,by rw[hs.length];exact hi⟩
   .obtain⟨w,hw,iw⟩:=zfa (O:=O) hs hd t2 c;have q2:SqT K H2 a xs:=SqT.stay t2 ha;refine⟨⟨xs,w,q2,hw⟩,λx H3 zz=>?_⟩;obtain⟨e3,y⟩:=zz;subst e3;have:=y xs q2;rw[hw] at this;cases this;exact⟨Same.refl _,iw⟩
def zfr(lo:Int)(n:Nat):List G7:=(Q2 n).map λk=>.int (lo+(k:Nat))
theorem zc8{lo:Int}{n i:Nat}{d:G7}(h:(zfr lo n)[i]? = some d):i<n/\d = .int (lo+(i:Nat)):=by
 unfold zfr at h;rw[Qi] at h
 by_cases hi:i<n
 .rw[Jc hi] at h;cases h;exact⟨hi,rfl⟩
 .rw[Q0 (by simpa using hi)] at h;cases h
theorem zrs(st:Stp O H H1)(lo:Int)(n:Nat):Walk K O H H1 (Itr lo n) (zfr lo n) (λ_=>False) :=
 ⟨st,λb hb=>hb.elim,λH2 i _ _ hi=>(show n<=i by simpa[zfr] using hi),λH2 i d _ t2 hd c=>by
  obtain⟨hi,rfl⟩:=zc8 hd;refine⟨hi,λx H3 zz=>?_⟩;obtain⟨e3,y⟩:=zz;subst e3 y
  exact⟨Same.refl _,.int _⟩⟩
def zxc(g:DA):DI:=λρ Q=>g ρ λds=>∃j:Int,ds = [.int j]/\-(2 ^ 62)<=j/\j<2 ^ 62/\Q true (zfr 0 j.toNat)
theorem zwi(h:AD K O t g):SrcS K O (zqo t) (zxc g):=λσ H ρ R Qd S hf k=>by
 refine h σ H ρ _ _ S hf λvs H1 ds st is zz=>?_;obtain⟨j,e,b1,b2,q⟩:=zz;subst e
 cases is with
 | cons i0 is=>
   cases is;cases i0;exact⟨j,rfl,b1,b2,k _ H1 _ _ true (zrs st 0 j.toNat) (λ_ _ hb=>hb.elim) q⟩
end
def sg(c:Nat):Str:=⟨#[c]⟩
structure DEnds where
 nx:DSt->Prop
 rt:R->Prop
 bk:DSt->Prop:=λ_=>False
 ct:DSt->Prop:=λ_=>False
abbrev DS:=DEnds->DSt->Prop
def unO(O:Ob)(A:Nat->Addr->Prop):Addr->Prop:=λa=>¬O.M a/\∀j,¬A j a
def OwnO(o:HO):Prop:=(∀us,o≠.tup us/\∀o',o≠.frz o' (.tup us))/\∀o',o≠.frz o' (.own 0)
theorem OwnO.lst: OwnO (.lst xs):=⟨λ_=>⟨λz=>(nomatch z),λ_ z=>(nomatch z)⟩,λ_ z=>(nomatch z)⟩
def RepV(K:Qa)(O:Ob)(A:Nat->Addr->Prop)(H:Hp)(i:Nat)(v:V):DV->Prop
 | .im d=>Is K (unO O A) H v d
 | .own ds=>∃a xs,v = .ref a/\A i a/\H a=some (.lst xs)/\IsAll K (unO O A) H xs ds
 | .ob=>v=O.v
 | .scr n=>IsS K (unO O A) H v n
 | .dct ks=>∃a,A i a/\DkAt H v a ks
 | .gen f ds=>∃a xs,v = .ref a/\A i a/\H a=some (f a xs)/\IsAll K (unO O A) H xs ds
 | .rd f ds=>∃a xs,v = .ref a/\unO O A a/\H a=some (f a xs)/\IsAll K (unO O A) H xs ds
 | .exc C ns ds=>∃xs,ExAt (unO O A) H v C ns xs/\IsAll K (unO O A) H xs ds
 | .thg T=>T.R K (unO O A) (A i) H v
 | .thr T=>∃W:Addr->Prop,(∀a,W a->unO O A a/\∃o,H a=some o)/\T.R K (unO O A) W H v
structure Rep(K:Qa)(O:Ob)(H₀:Hp)(A:Nat->Addr->Prop)(H:Hp)(σ:St)(ρ:DSt):Prop where
 ok:O.Ok
 p:O.P H
 p0:O.P H₀
 st:Stp O H₀ H
 dis:∀i j a,A i a->A j a->i=j
 own:∀i a,A i a->H₀ a=none/\(∃o,H a=some o/\OwnO o)/\¬O.M a
 at_:∀(i:Nat) r,ρ[i]? = some (some r)->∃v,σ[i]? = some (some v)/\RepV K O A H i v r
 len:ρ.length=σ.length
def Frm(O:Ob)(A:Nat->Addr->Prop)(H:Hp)(A':Nat->Addr->Prop)(H':Hp):Prop:=∀a o,H a=some o->unO O A a->H' a=some o/\unO O A' a
theorem Frm.refl: Frm O A H A H:=λ_ _ h u=>⟨h,u⟩
theorem Frm.trans(a:Frm O A H A1 H1)(b:Frm O A1 H1 A2 H2):Frm O A H A2 H2:=λc o h u=>let ⟨h1,u1⟩:=a c o h u;b c o h1 u1
structure Post(K:Qa)(O:Ob)(H₀:Hp)(A:Nat->Addr->Prop)(H:Hp)(D:Ends)(Dd:DEnds):Prop where
 nx:∀A' σ' H' ρ',Rep K O H₀ A' H' σ' ρ'->Frm O A H A' H'->Dd.nx ρ'->D.nx σ' H'
 bk:∀A' σ' H' ρ',Rep K O H₀ A' H' σ' ρ'->Frm O A H A' H'->Dd.bk ρ'->D.bk σ' H'
 ct:∀A' σ' H' ρ',Rep K O H₀ A' H' σ' ρ'->Frm O A H A' H'->Dd.ct ρ'->D.ct σ' H'
 rt:∀H' v r,Stp O H₀ H'->Out K O H₀ H' v r->Dd.rt r->D.rt v H'
def SD(K:Qa)(O:Ob)(t:TS)(g:DS):Prop :=
 ∀(H₀:Hp) (A:Nat->Addr->Prop) (σ:St) (H:Hp) (ρ:DSt) (D:Ends) (Dd:DEnds),Rep K O H₀ A H σ ρ->g Dd ρ->Post K O H₀ A H D Dd->t D σ H
section
variable {K:Qa}{O:Ob}{H₀ H H':Hp}{A:Nat->Addr->Prop}{σ:St}{ρ:DSt}
theorem Rep.seen(r:Rep K O H₀ A H σ ρ):Seen K O H σ ρ:=by
 refine⟨r.ok,r.p,λi x e=>?_,r.len⟩;obtain⟨v,hv,h⟩:=r.at_ i x e;refine⟨v,hv,?_⟩
 cases x with
 | im d=>exact h.weak λa u=>u.1
 | own ds=>
   obtain⟨a,xs,rfl,ha,hl,hs⟩:=h;exact .list (r.own i a ha).2.2 hl (hs.weak λa u=>u.1)
 | ob=>exact h
 | scr n=>exact IsS.to (λa u f q=>⟨f.1,q⟩) h
 | dct ks=>obtain⟨a,ha,h⟩:=h;exact⟨a,(r.own i a ha).2.2,h⟩
 | gen f ds=>obtain⟨a,xs,e,ha,q,z⟩:=h;exact⟨a,xs,e,(r.own i a ha).2.2,q,z.weak λa u=>u.1⟩
 | rd f ds=>obtain⟨a,xs,e,ha,q,z⟩:=h;exact⟨a,xs,e,ha.1,q,z.weak λa u=>u.1⟩
 | exc C ns ds=>obtain⟨xs,e,z⟩:=h;exact⟨xs,e.to λa u f q=>⟨f.1,q⟩,z.weak λa u=>u.1⟩
 | thg T=>exact⟨A i,λa w=>⟨(r.own i a w).2.2,let ⟨o,q,_⟩:=(r.own i a w).2.1;⟨o,q⟩⟩,T.to (λa u f q=>⟨f.1,q⟩) (λa u w q=>⟨w,q⟩) (TupStay.refl _) h⟩
 | thr T=>obtain⟨W,hw,z⟩:=h;exact⟨W,λa w=>⟨(hw a w).1.1,(hw a w).2⟩,T.to (λa u f q=>⟨f.1,q⟩) (λa u w q=>⟨w,q⟩) (TupStay.refl _) z⟩
theorem Rep.stp(r:Rep K O H₀ A H σ ρ)(s:Stp O H H'):Rep K O H₀ A H' σ ρ:=by
 refine⟨r.ok,s.p r.p,r.p0,r.st.trans s,r.dis,λi a ha=>?_,λi x e=>?_,r.len⟩
 .obtain⟨h0,⟨xs,hx,ho⟩,hm⟩:=r.own i a ha;exact⟨h0,⟨xs,s.s a _ hx hm,ho⟩,hm⟩
 .obtain⟨v,hv,h⟩:=r.at_ i x e;refine⟨v,hv,?_⟩
  cases x with
  | im d=>exact Is.stp s (λ_ z=>z) (λ_ z=>z.1) h
  | own ds=>
    obtain⟨a,xs,rfl,ha,hl,hs⟩:=h;exact⟨a,xs,rfl,ha,s.s a _ hl (r.own i a ha).2.2,hs.stp s (λ_ z=>z) (λ_ z=>z.1)⟩
  | ob=>exact h
  | scr n=>exact IsS.to (λa u f q=>⟨f,s.s a u q f.1⟩) h
  | dct ks=>obtain⟨a,ha,h⟩:=h;exact⟨a,ha,h.to λu q=>s.s a u q (r.own i a ha).2.2⟩
  | gen f ds=>obtain⟨a,xs,e,ha,q,z⟩:=h;exact⟨a,xs,e,ha,s.s a _ q (r.own i a ha).2.2,z.stp s (λ_ z=>z) (λ_ z=>z.1)⟩
  | rd f ds=>obtain⟨a,xs,e,ha,q,z⟩:=h;exact⟨a,xs,e,ha,s.s a _ q ha.1,z.stp s (λ_ z=>z) (λ_ z=>z.1)⟩
  | exc C ns ds=>obtain⟨xs,e,z⟩:=h;exact⟨xs,e.to λa u f q=>⟨f,s.s a u q f.1⟩,z.stp s (λ_ z=>z) (λ_ z=>z.1)⟩
  | thg T=>exact T.to (λa u f q=>⟨f,s.s a u q f.1⟩) (λa u w q=>⟨w,s.s a u q (r.own i a w).2.2⟩) s.t h
  | thr T=>obtain⟨W,hw,z⟩:=h;exact⟨W,λa w=>let ⟨f,o,q⟩:=hw a w;⟨f,o,s.s a o q f.1⟩,T.to (λa u f q=>⟨f,s.s a u q f.1⟩) (λa u w q=>⟨w,s.s a u q (hw a w).1.1⟩) s.t z⟩
theorem Frm.stp(s:Stp O H H'):Frm O A H A H':=λa o e u=>⟨s.s a o e u.1,u⟩
theorem Rep.setIm{i:Nat}{d:G7}(r:Rep K O H₀ A H σ ρ)(h:Is K (unO O A) H v d):Rep K O H₀ (λj a=>j≠i/\A j a) H (σ.set i (some v)) (ρ.set i (some (.im d))):=by
 have un:∀a,unO O A a->unO O (λj a=>j≠i/\A j a) a:=λa u=>⟨u.1,λj z=>u.2 j z.2⟩;refine⟨r.ok,r.p,r.p0,r.st,λj k a x y=>r.dis j k a x.2 y.2,λj a x=>r.own j a x.2,λj x e=>?_,by rw[QV,QV];exact r.len⟩
 by_cases hj:i=j
 .subst hj
  have hi:i<ρ.length:=by
   rcases Zx i ρ.length with z|z
   .exact z
   .rw[Q0 (by simpa using z)] at e;cases e
  rw[Q3 hi] at e;cases e;exact⟨v,Q3 (by have:=r.len;lia),h.weak un⟩
 .rw[QB hj] at e;obtain⟨w,h1,h2⟩:=r.at_ j x e;refine⟨w,by rw[QB hj];exact h1,?_⟩
  cases x with
  | im d=>exact h2.weak un
  | own ds=>
    obtain⟨a,xs,rfl,ha,hl,hs⟩:=h2;exact⟨a,xs,rfl,⟨λz=>hj z.symm,ha⟩,hl,hs.weak un⟩
  | ob=>exact h2
  | scr n=>exact IsS.to (λa u f q=>⟨un a f,q⟩) h2
  | dct ks=>obtain⟨a,ha,h2⟩:=h2;exact⟨a,⟨λz=>hj z.symm,ha⟩,h2⟩
  | gen f ds=>obtain⟨a,xs,e,ha,q,z⟩:=h2;exact⟨a,xs,e,⟨λz=>hj z.symm,ha⟩,q,z.weak un⟩
  | rd f ds=>obtain⟨a,xs,e,ha,q,z⟩:=h2;exact⟨a,xs,e,un a ha,q,z.weak un⟩
  | exc C ns ds=>obtain⟨xs,e,z⟩:=h2;exact⟨xs,e.to λa u f q=>⟨un a f,q⟩,z.weak un⟩
  | thg T=>exact T.to (λa u f q=>⟨un a f,q⟩) (λa u w q=>⟨⟨λz=>hj z.symm,w⟩,q⟩) (TupStay.refl _) h2
  | thr T=>obtain⟨W,hw,z⟩:=h2;exact⟨W,λa w=>⟨un a (hw a w).1,(hw a w).2⟩,T.to (λa u f q=>⟨un a f,q⟩) (λa u w q=>⟨w,q⟩) (TupStay.refl _) z⟩
def reg(A:Nat->Addr->Prop)(i:Nat)(W:Addr->Prop):Nat->Addr->Prop:=λj b=>(j≠i/\A j b)\/(j=i/\W b)
theorem Rep.tstay{i:Nat}(r:Rep K O H₀ A H σ ρ)(stay:∀b u,H b=some u->¬A i b->H' b=some u):TupStay H H':=λb u hu hb=>stay b u hb λz=>by
 obtain⟨_,⟨o,q,ho⟩,_⟩:=r.own i b z;rw[hb] at q;cases q;obtain⟨us,e1|⟨o',e1⟩⟩:=hu
 .exact(ho.1 us).1 e1
 .exact(ho.1 us).2 o' e1
theorem Rep.setX{i:Nat}(r:Rep K O H₀ A H σ ρ)(s:Stp O H H1)(stay1:∀b u,H1 b=some u->¬A i b->H' b=some u)(hW:∀b,W b->(A i b\/H b=QP)/\∃o,H' b=some o/\OwnO o)
 (hR:RepV K O (reg A i W) H' i v y):Rep K O H₀ (reg A i W) H' (σ.set i (some v)) (ρ.set i (some y)):=by
 have ts1:=(r.stp s).tstay stay1;have ts:TupStay H H':=λb u hu hb=>ts1 b u hu (s.t b u hu hb);have nA:∀b,O.M b->¬A i b:=λb m z=>(r.own i b z).2.2 m;have stay:∀b u,H b=some u->¬A i b->¬O.M b->H' b=some u:=λb u e z m=>stay1 b u (s.s b u e m) z
 have sM:∀b,O.M b->H' b=H1 b:=λb m=>by
  obtain⟨o,e⟩:=r.ok.here H1 b (s.p r.p) m;rw[e,stay1 b o e (nA b m)]
 have pp:O.P H':=r.ok.loc H1 _ sM (s.p r.p);have oth:∀{j b},j≠i->A j b->¬A i b:=λhj a z=>hj (r.dis _ _ _ a z)
 have un:∀b u,H b=some u->unO O A b->unO O (reg A i W) b:=λb u e f=>⟨f.1,λj z=>by
  rcases z with z|z
  .exact f.2 j z.2
  .rcases(hW b z.2).1 with y|y
   .exact f.2 i y
   .rw[e] at y;cases y⟩
 have tF:∀b u,unO O A b->H b=some u->unO O (reg A i W) b/\H' b=some u:=λb u f q=>⟨un b u q f,stay b u q (f.2 i) f.1⟩;have mv:∀{v d},Is K (unO O A) H v d->Is K (unO O (reg A i W)) H' v d:=λz=>z.to (λb ys f q=>tF b _ f q) λb ys q=>SqT.stay (h:=q) ts;have mvs:∀{v d},IsAll K (unO O A) H v d->IsAll K (unO O (reg A i W)) H' v d:=λz=>z.to (λb ys f q=>tF b _ f q) λb ys q=>SqT.stay (h:=q) ts
 have wm:∀b,W b->H₀ b=QP/\¬O.M b:=λb w=>by
  rcases(hW b w).1 with z|z
  .exact⟨(r.own i b z).1,(r.own i b z).2.2⟩
  .have m:¬O.M b:=λm=>by obtain⟨o,e⟩:=r.ok.here H b r.p m;rw[z] at e;cases e
   exact⟨r.st.s.free m z,m⟩
 refine⟨r.ok,pp,r.p0,⟨λb o hb n=>?_,λ_=>pp,λb u hu hb=>ts b u hu (r.st.t b u hu hb)⟩,λj k b x y=>?_,λj b x=>?_,λj x e=>?_,by rw[QV,QV];exact r.len⟩
 .exact stay b o (r.st.s b o hb n) (λz=>by rw[(r.own i b z).1] at hb;cases hb) n
 .rcases x with x|x <;> rcases y with y|y
  .exact r.dis j k b x.2 y.2
  .rcases(hW b y.2).1 with z|z
   .exact absurd (r.dis j i b x.2 z) x.1
   .obtain⟨_,⟨o,q,_⟩,_⟩:=r.own j b x.2;rw[z] at q;cases q
  .rcases(hW b x.2).1 with z|z
   .exact absurd (r.dis k i b y.2 z) y.1
   .obtain⟨_,⟨o,q,_⟩,_⟩:=r.own k b y.2;rw[z] at q;cases q
  .exact x.1.trans y.1.symm
 .rcases x with x|x
  .obtain⟨h0,⟨o,q,ho⟩,m⟩:=r.own j b x.2;exact⟨h0,⟨o,stay b o q (oth x.1 x.2) m,ho⟩,m⟩
  .exact⟨(wm b x.2).1,(hW b x.2).2,(wm b x.2).2⟩
 .by_cases hj:i=j
  .subst hj
   have hi:i<ρ.length:=by
    rcases Zx i ρ.length with z|z
    .exact z
    .rw[Q0 (by simpa using z)] at e;cases e
   rw[Q3 hi] at e;cases e;exact⟨v,Q3 (by have:=r.len;lia),hR⟩
  .rw[QB hj] at e;obtain⟨w,h1,h2⟩:=r.at_ j x e;have hj':j≠i:=λz=>hj z.symm;refine⟨w,by rw[QB hj];exact h1,?_⟩
   cases x with
   | im d=>exact mv h2
   | own es=>
     obtain⟨b,ys,rfl,hb,hlb,hs⟩:=h2;exact⟨b,ys,rfl,.inl ⟨hj',hb⟩,stay b _ hlb (oth hj' hb) (r.own j b hb).2.2,mvs hs⟩
   | ob=>exact h2
   | scr n=>exact IsS.to (λb u f q=>tF b u f q) h2
   | dct ks=>obtain⟨b,hb,h2⟩:=h2;exact⟨b,.inl ⟨hj',hb⟩,h2.to λu q=>stay b u q (oth hj' hb) (r.own j b hb).2.2⟩
   | gen f ds=>obtain⟨b,xs,e,hb,q,z⟩:=h2;exact⟨b,xs,e,.inl ⟨hj',hb⟩,stay b _ q (oth hj' hb) (r.own j b hb).2.2,mvs z⟩
   | rd f ds=>obtain⟨b,xs,e,hb,q,z⟩:=h2;exact⟨b,xs,e,un b _ q hb,stay b _ q (hb.2 i) hb.1,mvs z⟩
   | exc C ns ds=>obtain⟨xs,e,z⟩:=h2;exact⟨xs,e.to λb u f q=>tF b u f q,mvs z⟩
   | thg T=>exact T.to (λb u f q=>tF b u f q) (λb u w q=>⟨.inl ⟨hj',w⟩,stay b u q (oth hj' w) (r.own j b w).2.2⟩) ts h2
   | thr T=>obtain⟨W',hw,z⟩:=h2;exact⟨W',λb w=>let ⟨f,o,q⟩:=hw b w;⟨un b o q f,o,stay b o q (f.2 i) f.1⟩,T.to (λb u f q=>tF b u f q) (λb u w q=>⟨w,stay b u q ((hw b w).1.2 i) (hw b w).1.1⟩) ts z⟩
theorem Rep.setOwn{i:Nat}(r:Rep K O H₀ A H σ ρ)(s:Stp O H H')(hn:H a=none)(hl:H' a=some (.lst xs))(hf:IsAll K (unM O) H' xs ds)(fl:flats ds=true):
 Rep K O H₀ (λj b=>(j≠i/\A j b)\/(j=i/\b=a)) H' (σ.set i (some (.ref a))) (ρ.set i (some (.own ds))) :=
 r.setX (W:=λb=>b=a) s (λ_ _ e _=>e) (λb e=>by subst e;exact⟨.inr hn,_,hl,.lst⟩) ⟨a,xs,rfl,.inr ⟨rfl,rfl⟩,hl,IsAll.flats (TupStay.refl H') hf fl⟩
theorem Frm.setIm{i:Nat}(s:Stp O H H'):Frm O A H (λj a=>j≠i/\A j a) H':=λa o e u=>⟨s.s a o e u.1,u.1,λj z=>u.2 j z.2⟩
theorem Frm.setOwn{i:Nat}(s:Stp O H H')(hn:H a=none):Frm O A H (λj b=>(j≠i/\A j b)\/(j=i/\b=a)) H':=λb o e u=>⟨s.s b o e u.1,u.1,λj z=>by
 rcases z with z|z
 .exact u.2 j z.2
 .rw[z.2,hn] at e;cases e⟩
theorem zm6{i:Nat}:reg A i (A i)=A:=by
 funext j b;refine propext ⟨λz=>?_,λz=>?_⟩
 .rcases z with z|z
  .exact z.2
  .rw[z.1];exact z.2
 .by_cases e:j=i
  .exact .inr ⟨e,e ▸ z⟩
  .exact .inl ⟨e,z⟩
theorem Rep.changeX{i:Nat}(r:Rep K O H₀ A H σ ρ)(hv:σ[i]? = some (some (.ref a)))(ha:A i a)(ho:OwnO o)(hR:RepV K O A (upd H a o) i (.ref a) y):Rep K O H₀ A (upd H a o) σ (ρ.set i (some y)):=by
 have hs:σ.set i (some (.ref a))=σ:=by
  refine Zq λj=>?_;rw[List.getElem?_set]
  split
  .rename_i e
   subst e;rw[ND (Qn.mp hv).1,hv]
  .rfl
 have:=r.setX (i:=i) (v:=.ref a) (W:=A i) (y:=y) (H':=upd H a o) (.refl O H) (λb u e n=>by rw[zaa λz=>n (by rw[z];exact ha)];exact e) (λb z=>⟨.inl z,by
  by_cases e:b=a
  .subst e;exact⟨_,zad,ho⟩
  .obtain⟨_,⟨u,q,ou⟩,_⟩:=r.own i b z
   exact⟨u,by rw[zaa e];exact q,ou⟩⟩) (by rw[zm6];exact hR)
 rw[zm6,hs] at this;exact this
theorem Rep.up{i:Nat}(r:Rep K O H₀ A H σ ρ)(ha:A i a)(h:IsAll K (unO O A) H xs ds):IsAll K (unO O A) (upd H a o) xs ds :=
 have st:∀b u,H b=some u->¬A i b->upd H a o b=some u:=λb u e n=>by rw[zaa λz=>n (by rw[z];exact ha)];exact e
 h.to (λb ys f q=>⟨f,st b _ q (f.2 i)⟩) λb ys q=>SqT.stay (h:=q) (r.tstay st)
theorem Rep.change{i:Nat}(r:Rep K O H₀ A H σ ρ)(e:ρ[i]? = some (some (.own ds)))(hv:σ[i]? = some (some (.ref a)))(ha:A i a)(hs:IsAll K (unO O A) H ys es):
 Rep K O H₀ A (upd H a (.lst ys)) σ (ρ.set i (some (.own es))) :=
 r.changeX hv ha .lst ⟨a,ys,rfl,ha,zad,r.up ha hs⟩
theorem Frm.change{i:Nat}(ha:A i a):Frm O A H A (upd H a o):=λb u e n=>⟨by rw[zaa (show b≠a from λz=>n.2 i (by rw[z];exact ha))];exact e,n⟩
theorem Rep.disown{i:Nat}(r:Rep K O H₀ A H σ ρ)(e:ρ[i]? = some (some (.own ds))):Rep K O H₀ (λj a=>j≠i/\A j a) H σ (ρ.set i (some (.im (.list ds)))):=by
 have un:∀a,unO O A a->unO O (λj a=>j≠i/\A j a) a:=λa u=>⟨u.1,λj z=>u.2 j z.2⟩;refine⟨r.ok,r.p,r.p0,r.st,λj k a x y=>r.dis j k a x.2 y.2,λj a x=>r.own j a x.2,λj x ej=>?_,by rw[QV];exact r.len⟩
 by_cases hj:i=j
 .subst hj;have hi:i<ρ.length:=(Qn.mp e).1;rw[Q3 hi] at ej;cases ej;obtain⟨w,h1,h2⟩:=r.at_ i _ e;obtain⟨a,xs,rfl,ha,hl,hs⟩:=h2;exact⟨.ref a,h1,.list ⟨(r.own i a ha).2.2,λj z=>z.1 (r.dis j i a z.2 ha)⟩ hl (hs.weak un)⟩
 .rw[QB hj] at ej;obtain⟨w,h1,h2⟩:=r.at_ j x ej;refine⟨w,h1,?_⟩
  cases x with
  | im d=>exact h2.weak un
  | own fs=>
    obtain⟨b,us,rfl,hb,hlb,hs2⟩:=h2;exact⟨b,us,rfl,⟨λz=>hj z.symm,hb⟩,hlb,hs2.weak un⟩
  | ob=>exact h2
  | scr n=>exact IsS.to (λa u f q=>⟨un a f,q⟩) h2
  | dct ks=>obtain⟨b,hb,h2⟩:=h2;exact⟨b,⟨λz=>hj z.symm,hb⟩,h2⟩
  | gen f ds=>obtain⟨b,xs,e,hb,q,z⟩:=h2;exact⟨b,xs,e,⟨λz=>hj z.symm,hb⟩,q,z.weak un⟩
  | rd f ds=>obtain⟨b,xs,e,hb,q,z⟩:=h2;exact⟨b,xs,e,un b hb,q,z.weak un⟩
  | exc C ns ds=>obtain⟨xs,e,z⟩:=h2;exact⟨xs,e.to λb u f q=>⟨un b f,q⟩,z.weak un⟩
  | thg T=>exact T.to (λa u f q=>⟨un a f,q⟩) (λa u w q=>⟨⟨λz=>hj z.symm,w⟩,q⟩) (TupStay.refl _) h2
  | thr T=>obtain⟨W,hw,z⟩:=h2;exact⟨W,λa w=>⟨un a (hw a w).1,(hw a w).2⟩,T.to (λa u f q=>⟨un a f,q⟩) (λa u w q=>⟨w,q⟩) (TupStay.refl _) z⟩
end
section
variable {K:Qa}{O:Ob}
theorem Post.frm(P:Post K O H₀ A H D Dd)(f:Frm O A H A1 H1):Post K O H₀ A1 H1 D Dd :=
 ⟨λA' σ' H' ρ' r g=>P.nx A' σ' H' ρ' r (f.trans g),λA' σ' H' ρ' r g=>P.bk A' σ' H' ρ' r (f.trans g),λA' σ' H' ρ' r g=>P.ct A' σ' H' ρ' r (f.trans g),P.rt⟩
def seqD(g k:DS):DS:=λDd ρ=>g { Dd with nx:=k Dd } ρ
theorem z1l(h:SD K O t g)(h':SD K O u k):SD K O (tSeq t u) (seqD g k):=λH₀ A σ H ρ D Dd r q P=>
 h H₀ A σ H ρ _ _ r q ⟨λA' σ' H' ρ' r' f q'=>h' H₀ A' σ' H' ρ' D Dd r' q' (P.frm f),P.bk,P.ct,P.rt⟩
theorem zxs:SD K O zqv (λDd ρ=>Dd.nx ρ):=λH₀ A σ H ρ D Dd r q P=>P.nx A σ H ρ r .refl q
def ifS(c:DT)(g k:DS):DS:=λDd ρ=>c ρ λb=>if b=true then g Dd ρ else k Dd ρ
theorem z5d(hc:TD K O c fc)(h:SD K O t g)(h':SD K O u k):SD K O (tIfS c t u) (ifS fc g k):=λH₀ A σ H ρ D Dd r q P=>by
 refine hc σ H ρ _ _ r.seen q λb H1 s1 q1=>?_
 cases b with
 | true=>exact h H₀ A σ H1 ρ D Dd (r.stp s1) q1 (P.frm (.stp s1))
 | false=>exact h' H₀ A σ H1 ρ D Dd (r.stp s1) q1 (P.frm (.stp s1))
def retS(f:DE):DS:=λDd ρ=>f ρ Dd.rt
theorem z0u(h:ED K O t f):SD K O (tRet t) (retS f):=λH₀ A σ H ρ D Dd r q P=>by
 refine h σ H ρ _ _ r.seen q λv H1 x s1 o1 q1=>P.rt H1 v x (r.st.trans s1) (o1.ahead r.ok r.p0 r.st) q1
def retO(i:Nat):DS:=λDd ρ=>∃ds,ρ[i]? = some (some (.own ds))/\Dd.rt (.n ds)
theorem zul{i:Nat}:SD K O (tRet (tVar i)) (retO i):=λH₀ A σ H ρ D Dd r q P=>by
 obtain⟨ds,e,q⟩:=q;obtain⟨v,hv,a,xs,rfl,ha,hl,hs⟩:=r.at_ i _ e;exact⟨_,hv,P.rt H _ (.n ds) r.st ⟨a,xs,rfl,(r.own i a ha).1,hl,hs.weak λb u=>u.1⟩ q⟩
def asgS(i:Nat)(f:DE):DS:=λDd ρ=>f ρ λr=>match r with
 | .o d=>flat d=true/\Dd.nx (ρ.set i (some (.im d)))
 | .n ds=>flats ds=true/\Dd.nx (ρ.set i (some (.own ds)))
theorem z2z{i:Nat}(h:ED K O t f):SD K O (tAsg t (zax i)) (asgS i f):=λH₀ A σ H ρ D Dd r q P=>by
 refine h σ H ρ _ _ r.seen q λv H1 x s1 o1 q1=>?_
 cases x with
 | o d=>
   obtain⟨fl,q1⟩:=q1;exact P.nx _ _ H1 _ ((r.stp s1).setIm (Is.flat (TupStay.refl H1) o1 fl)) (.setIm s1) q1
 | n ds=>
   obtain⟨fl,q1⟩:=q1;obtain⟨a,xs,rfl,hn,hl,hs⟩:=o1;exact P.nx _ _ H1 _ (r.setOwn s1 hn hl hs fl) (.setOwn s1 hn) q1
def appS(i:Nat)(f:DE):DS:=λDd ρ=>∃ds,ρ[i]? = some (some (.own ds))/\f ρ λr=>flat r.d=true/\ds.length<sizeLine/\Dd.nx (ρ.set i (some (.own (ds ++ [r.d]))))
theorem zts{i:Nat}(h:ED K O t f):SD K O (zdp (tBM K "list" zds (tVar i) (zao t tNil))) (appS i f):=λH₀ A σ H ρ D Dd r q P=>by
 obtain⟨ds,e,q⟩:=q;obtain⟨v,hv,a,xs,rfl,ha,hl,hs⟩:=r.at_ i _ e;refine⟨_,hv,?_⟩;refine⟨.inl ⟨rfl,xs,.of hl⟩,?_⟩;refine h σ H ρ _ _ r.seen q λw H1 x s1 o1 zz=>?_;obtain⟨fl,hz,q1⟩:=zz;have r1:=r.stp s1;obtain⟨v1,hv1,a1,xs1,e1,ha1,hl1,hs1⟩:=r1.at_ i _ e;rw[hv] at hv1;cases hv1;cases e1;refine⟨a,xs1,w,rfl,rfl,hl1,by rw[hs1.length];exact hz,?_⟩;have iw:Is K (unO O A) H1 w x.d:=Is.flat (TupStay.refl H1) (o1.is r.ok r.p) fl;exact P.nx A σ _ _ (r1.change e hv ha (hs1.snoc iw)) ((Frm.stp s1).trans (.change ha)) q1
end
def GR(K:Qa)(O:Ob)(t:TG)(g:DG):Prop :=
 ∀(H₀:Hp) (A:Nat->Addr->Prop) (σ:St) (H:Hp) (ρ:DSt) (v:V) (d:G7) (Q:St->Hp->Prop) (Qd:DSt->Prop),Rep K O H₀ A H σ ρ->flat d=true->Is K (unO O A) H v d->g d ρ Qd ->
   (∀A' σ' ρ',Rep K O H₀ A' H σ' ρ'->Frm O A H A' H->Qd ρ'->Q σ' H)->t v σ H Q
section
variable {K:Qa}{O:Ob}
theorem zyu{i:Nat}:GR K O (zax i) (gN i):=λH₀ A σ H ρ v d Q Qd r _ h q k=>k _ _ _ (r.setIm h) (.setIm (.refl _ _)) q
def GRs(K:Qa)(O:Ob)(t:TGs)(is:List Nat):Prop :=
 ∀(H₀:Hp) (A:Nat->Addr->Prop) (σ:St) (H:Hp) (ρ:DSt) (vs:List V) (ds:List G7) (Q:St->Hp->Prop) (Qd:DSt->Prop),Rep K O H₀ A H σ ρ->flats ds=true->IsAll K (unO O A) H vs ds->gTD is ds ρ Qd ->
   (∀A' σ' ρ',Rep K O H₀ A' H σ' ρ'->Frm O A H A' H->Qd ρ'->Q σ' H)->t vs σ H Q
theorem zyx:GRs K O gNil []:=λH₀ A σ H ρ vs ds Q Qd r _ i h k=>by
 cases i with
 | nil=>exact⟨rfl,k A σ ρ r .refl h⟩
 | cons _ _=>exact h.elim
theorem zvk{i:Nat}{is:List Nat}(ht:GRs K O t is):GRs K O (ziq (zax i) t) (i::is):=λH₀ A σ H ρ vs ds Q Qd r fl h q k=>by
 cases h with
 | nil=>exact q.elim
 | cons h1 h2=>
   rw[flats,Qy] at fl;have f1:Frm O A H (λj a=>j≠i/\A j a) H:=.setIm (.refl _ _);refine⟨_,_,rfl,ht _ _ _ H _ _ _ _ _ (r.setIm h1) fl.2 (IsAll.flats (TupStay.refl H) h2 fl.2) q λA' σ' ρ' r' f q'=>k A' σ' ρ' r' (f1.trans f) q'⟩
theorem z1g{is:List Nat}{n:Nat}(hn:is.length=n)(ht:GRs K O t is):GR K O (gTup K n t) (gT is):=λH₀ A σ H ρ v d Q Qd r fl i h k=>by
 obtain⟨ds,rfl,h⟩:=h
 cases i with
 | tuple q is'=>exact⟨_,_,rfl,q,by rw[is'.length,zj4 h];exact hn,ht H₀ A σ H ρ _ ds Q Qd r (by simpa[flat] using fl) is' h k⟩
def zdm(g:DG)(gb:DS)(Dd:DEnds):List G7->DSt->Prop
 | [],ρ=>Dd.nx ρ
 | d::ds,ρ=>flat d=true/\g d ρ λρ2=>gb { Dd with nx:=zdm g gb Dd ds,ct:=zdm g gb Dd ds,bk:=Dd.nx } ρ2
abbrev DJ:=DSt->(List G7->Prop)->Prop
def SrcR(K:Qa)(O:Ob)(wi:TI)(f:DJ):Prop :=
 ∀(H₀:Hp) (A:Nat->Addr->Prop) (σ:St) (H:Hp) (ρ:DSt) (R:It->Hp->Prop) (Qd:List G7->Prop),Rep K O H₀ A H σ ρ->f ρ Qd ->
   (∀(J:It) (H1:Hp) (ds:List G7) (B:Addr->Prop),Walk K O H H1 J ds B->(∀a,B a->unO O A a)->Qd ds->R J H1)->wi σ H R
def newJ(f:DI):DJ:=λρ Q=>f ρ λfr ds=>fr=true/\Q ds
theorem zj9(h:SrcS K O wi f):SrcR K O wi (newJ f):=λH₀ A σ H ρ R Qd r q k=>by
 refine h σ H ρ _ _ r.seen q λJ H1 ds B fr W hfr ⟨e,q1⟩=>k J H1 ds B W (λa b=>⟨(W.hb a b).1,λj z=>?_⟩) q1;obtain⟨_,⟨xs,q,_⟩,_⟩:=r.own j a z;rw[hfr e a b] at q;cases q
def varJ(i:Nat):DJ:=λρ Q=>∃ds,ρ[i]? = some (some (.im (.list ds)))/\Q ds
theorem zwc{i:Nat}:SrcR K O (zb0 K (tVar i)) (varJ i):=λH₀ A σ H ρ R Qd r q k=>by
 obtain⟨ds,e,q⟩:=q;obtain⟨v,hv,h⟩:=r.at_ i _ e;have h':Is K (unO O A) H v (.list ds):=h
 cases h' with
 | list f0 ha hs=>
   rename_i a xs
   have hs':IsAll K (unM O) H xs ds:=hs.weak λb u=>u.1;refine⟨_,hv,a,rfl,⟨xs,.of ha⟩,k (Itl K a) H ds (λb=>b=a) ⟨.refl _ _,λb hb=>by subst hb;exact⟨f0.1,_,ha⟩,λH2 i kb _ hi=>?_,λH2 i d kb t2 hd c=>?_⟩ (λb hb=>by subst hb;exact f0) q⟩
   .exact⟨xs,.of (kb a _ rfl ha),by rw[hs.length];exact hi⟩
   .obtain⟨w,hw,iw⟩:=zfa (O:=O) hs' hd t2 c;have q2:SqL K H2 a xs:=.of (kb a _ rfl ha);refine⟨⟨xs,w,q2,hw⟩,λx H3 zz=>?_⟩;obtain⟨e3,y⟩:=zz;subst e3;have:=y xs q2;rw[hw] at this;cases this;exact⟨Same.refl _,iw⟩
def forS(f:DJ)(g:DG)(gb:DS):DS:=λDd ρ=>f ρ λds=>zdm g gb Dd ds ρ
theorem Rep.tupStay(r:Rep K O H₀ A H1 σ ρ)(f:Frm O A H1 A2 H2):TupStay H1 H2:=λa u hu e=>by
 refine(f a u e ⟨λm=>?_,λj z=>?_⟩).1
 .have mm:=r.ok.mutb H1 a u r.p e m;obtain⟨xs,e1|⟨o,e1⟩⟩:=hu
  .exact mm.1 xs e1
  .exact mm.2 o _ e1
 .obtain⟨_,⟨xs,q,ho⟩,_⟩:=r.own j a z;rw[e] at q;cases q;obtain⟨ys,e1|⟨o,e1⟩⟩:=hu
  .exact(ho.1 ys).1 e1
  .exact(ho.1 ys).2 o e1
theorem z0v(hs:SrcR K O wi f)(hg:GR K O tg g)(hb:SD K O tb gb):SD K O (tFor wi tg tb) (forS f g gb):=λH₀ A σ H ρ D Dd r q P=>by
 refine hs H₀ A σ H ρ _ _ r q λJ H1 ds B W uB go=>?_;have r1:=r.stp W.st;have f1:Frm O A H A H1:=.stp W.st;refine⟨λi m σ2 H2=>m=ds.length-i/\i<=ds.length/\∃A2 ρ2,Rep K O H₀ A2 H2 σ2 ρ2/\Frm O A H1 A2 H2/\zdm g gb Dd (ds.drop i) ρ2,⟨ds.length,rfl,QI _,A,ρ,r1,.refl,by simpa using go⟩,?_⟩;rintro i m σ2 H2 ⟨rfl,hi,A2,ρ2,r2,f2,go2⟩;have kB:∀a o,B a->H1 a=some o->H2 a=some o:=λa o b e=>(f2 a o e (uB a b)).1;have ts:TupStay H1 H2:=r1.tupStay f2
 by_cases hlt:i<ds.length
 .right;have hd:ds[i]? = some ds[i]:=Qb hlt;rw[Zu hlt] at go2;obtain⟨fl,go2⟩:=go2;obtain⟨hgo,hy⟩:=W.item H2 i ds[i] kB ts hd (.inl fl);refine⟨hgo,λσ' H'=>∃A' ρ',Rep K O H₀ A' H' σ' ρ'/\Frm O A H1 A' H'/\zdm g gb Dd (ds.drop (i+1)) ρ',λσ' H' ⟨A',ρ',x1,x2,x3⟩=>⟨ds.length-(i+1),by lia,rfl,hlt,A',ρ',x1,x2,x3⟩,λx H3 y=>?_⟩;obtain⟨sm,ix⟩:=hy x H3 y;have st3:Stp O H2 H3:=.same r2.ok sm;have r3:=r2.stp st3;refine hg H₀ A2 σ2 H3 ρ2 x ds[i] _ _ r3 fl (Is.flat (TupStay.refl H3) ix fl) go2 λA3 σ3 ρ3 r3' f3 q3=>?_;have f13:Frm O A H1 A3 H3:=(f2.trans (.stp st3)).trans f3;refine hb H₀ A3 σ3 H3 ρ3 _ _ r3' q3 ⟨λA' σ' H' ρ' r' f' q'=>⟨A',ρ',r',f13.trans f',q'⟩,λA' σ' H' ρ' r' f' q'=>P.nx A' σ' H' ρ' r' (f1.trans (f13.trans f')) q',λA' σ' H' ρ' r' f' q'=>⟨A',ρ',r',f13.trans f',q'⟩,P.rt⟩
 .left;have e:i=ds.length:=by lia
  subst e;rw[Jv] at go2;exact⟨W.stop H2 _ kB ts (Qg _),P.nx A2 σ2 H2 ρ2 r2 (f1.trans f2) go2⟩
def zsm(c:DT)(gb:DS):DS:=λDd ρ=>∃W:Nat->DSt->Prop,(∃m,W m ρ)/\∀m ρ,W m ρ->c ρ λb=>if b=true then gb { Dd with nx:=λρ'=>∃m',m'<m/\W m' ρ',ct:=λρ'=>∃m',m'<m/\W m' ρ',bk:=Dd.nx } ρ else Dd.nx ρ
theorem zvc(hc:TD K O c fc)(hb:SD K O tb gb):SD K O (znk c tb) (zsm fc gb):=λH₀ A σ H ρ D Dd r q P=>by
 obtain⟨W,⟨m0,w0⟩,turn⟩:=q;refine⟨λm σ2 H2=>∃A2 ρ2,Rep K O H₀ A2 H2 σ2 ρ2/\Frm O A H A2 H2/\W m ρ2,⟨m0,A,ρ,r,.refl,w0⟩,?_⟩;rintro m σ2 H2 ⟨A2,ρ2,r2,f2,w2⟩;refine hc σ2 H2 ρ2 _ _ r2.seen (turn m ρ2 w2) λb H3 s3 q3=>?_;have f3:Frm O A H A2 H3:=f2.trans (.stp s3)
 cases b with
 | true=>
   refine⟨λσ' H'=>∃A' ρ',Rep K O H₀ A' H' σ' ρ'/\Frm O A H A' H'/\∃m',m'<m/\W m' ρ',λσ' H' ⟨A',ρ',x1,x2,m',x3,x4⟩=>⟨m',x3,A',ρ',x1,x2,x4⟩,?_⟩;exact hb H₀ A2 σ2 H3 ρ2 _ _ (r2.stp s3) q3 ⟨λA' σ' H' ρ' r' f' q'=>⟨A',ρ',r',f3.trans f',q'⟩,λA' σ' H' ρ' r' f' q'=>P.nx A' σ' H' ρ' r' (f3.trans f') q',λA' σ' H' ρ' r' f' q'=>⟨A',ρ',r',f3.trans f',q'⟩,P.rt⟩
 | false=>exact P.nx A2 σ2 H3 ρ2 (r2.stp s3) f3 q3
end
def spO(K:Qa)(φ:Ob->Prop)(n:Nat)(f:List G7->(R->Prop)->Prop):Sp:=λvs H Q _=>
 ∃(O:Ob) (ds:List G7) (Qr:R->Prop),O.Ok/\φ O/\O.P H/\ds.length=n/\IsAll K (unM O) H vs ds/\f ds Qr/\∀r,Qr r->∀v H',Stp O H H'->Out K O H H' v r->Q v H'
def spD(K:Qa)(φ:Ob->Prop)(n:Nat)(f:List G7->(R->Prop)->Prop):Sp:=λvs H Q _=>
 ∃(O:Ob) (ds:List G7) (ws:List V) (Qr:R->Prop),O.Ok/\φ O/\O.P H/\ds.length=n/\vs=O.v::ws/\IsAll K (unM O) H ws ds/\f ds Qr/\∀r,Qr r->∀v H',Stp O H H'->Out K O H H' v r->Q v H'
def zbr(N:List Str)(rs:List DV):DSt:=rs.map some++Qt (N.length-rs.length) none
section
variable {K:Qa}{O:Ob}
theorem zll(ok:O.Ok)(p:O.P H)(hl:vs.length=rs.length)(h:∀(i:Nat) r,rs[i]? = some r->∃v,vs[i]? = some v/\((∃d,r = .im d/\Is K (unM O) H v d)\/(r = .ob/\v=O.v))):
 Rep K O H (λ_ _=>False) H (L2.start N vs) (zbr N rs):=by
 refine⟨ok,p,p,.refl _ _,λ_ _ _ z=>z.elim,λ_ _ z=>z.elim,λi r e=>?_,?_⟩
 .unfold zbr at e
  by_cases hi:i<rs.length
  .rw[QO (by simpa using hi),Qi] at e
   cases q:rs[i]? with
   | none=>rw[q] at e;cases e
   | some r'=>
     rw[q] at e;have e':r'=r:=Zp (Zp e);subst e';obtain⟨v,hv,hh⟩:=h i r' q;refine⟨v,?_,?_⟩
     .unfold L2.start;rw[QO (by rw[Qf,hl];exact hi),Qi,hv];rfl
     .rcases hh with ⟨d,rfl,hd⟩|⟨rfl,hd⟩
      .exact hd.weak λa u=>⟨u,λj z=>z⟩
      .exact hd
  .rw[QU (by simpa using hi),QZ] at e
   split at e <;> cases e
 .unfold zbr L2.start;rw[Ql,Ql,Qf,Qf,QR,QR,hl]
theorem zw2(h:SD K O t g)(ok:O.Ok)(p:O.P H)(ia:IsAll K (unM O) H vs ds)
 (hg:g { nx:=λ_=>Qr (.o .none),rt:=Qr } (zbr N (ds.map .im))) (hQ:∀r,Qr r->∀v H',Stp O H H'->Out K O H H' v r->Q v H'):t { nx:=λ_ H'=>Q .non H',rt:=Q } (L2.start N vs) H:=by
 refine h H _ _ H _ _ _ (zll ok p (by rw[Qf];exact ia.length) λi r e=>?_) hg ⟨λA' σ' H' ρ' r' _ q=>hQ _ q .non H' r'.st Is.none,λA' σ' H' ρ' r' _ q=>q.elim,λA' σ' H' ρ' r' _ q=>q.elim,λH' v r s o q=>hQ r q v H' s o⟩;rw[Qi] at e;obtain⟨d,hd,rfl⟩:=Q4.mp e;obtain⟨v,hv,iv⟩:=ia.get hd;exact⟨v,hv,.inl ⟨d,rfl,iv⟩⟩
theorem z5c(h:SD K O t g)(ok:O.Ok)(p:O.P H)(ia:IsAll K (unM O) H ws ds)
 (hg:g { nx:=λ_=>Qr (.o .none),rt:=Qr } (zbr N (.ob::ds.map .im))) (hQ:∀r,Qr r->∀v H',Stp O H H'->Out K O H H' v r->Q v H'):t { nx:=λ_ H'=>Q .non H',rt:=Q } (L2.start N (O.v::ws)) H:=by
 refine h H _ _ H _ _ _ (zll ok p (by rw[Qk,Qk,Qf,ia.length]) λi r e=>?_) hg ⟨λA' σ' H' ρ' r' _ q=>hQ _ q .non H' r'.st Is.none,λA' σ' H' ρ' r' _ q=>q.elim,λA' σ' H' ρ' r' _ q=>q.elim,λH' v r s o q=>hQ r q v H' s o⟩
 cases i with
 | zero=>cases e;exact⟨O.v,rfl,.inr ⟨rfl,rfl⟩⟩
 | succ i=>
   rw[JF,Qi] at e;obtain⟨d,hd,rfl⟩:=Q4.mp e;obtain⟨v,hv,iv⟩:=ia.get hd;exact⟨v,by rw[JF];exact hv,.inl ⟨d,rfl,iv⟩⟩
def calD(n:Nat)(f:List G7->(R->Prop)->Prop)(g:DA):DE:=λρ Q=>g ρ λds=>ds.length=n/\f ds Q
theorem zy9{n:Nat}(hφ:φ O)(h:AD K O t g):ED K O (zct (spO K φ n f) [] E t) (calD n f g):=λσ H ρ Q Qd S q k=>by
 refine h σ H ρ _ _ S q λvs H1 ds s1 is zz=>?_;obtain⟨hn,q1⟩:=zz;rw[QD];exact⟨O,ds,Qd,S.ok,hφ,s1.p S.p,hn,is,q1,λr qr v H' s2 o2=>k v H' r (s1.trans s2) (o2.ahead S.ok S.p s1) qr⟩
def calO(i:Nat)(n:Nat)(f:List G7->(R->Prop)->Prop)(g:DA):DE:=λρ Q=>ρ[i]? = some (some .ob)/\g ρ λds=>ds.length=n/\f ds Q
theorem zwj{i n:Nat}(hφ:φ O)(h:AD K O t g):ED K O (zct (spD K φ n f) [] E (zao (tVar i) t)) (calO i n f g):=λσ H ρ Q Qd S q k=>by
 obtain⟨e,q⟩:=q;obtain⟨v,hv,hh⟩:=S.at_ i _ e;refine⟨v,hv,?_⟩;refine h σ H ρ _ _ S q λvs H1 ds s1 is zz=>?_;obtain⟨hn,q1⟩:=zz;show spD K φ n f ((v::vs) ++ []) H1 Q E;rw[QD];exact⟨O,ds,vs,Qd,S.ok,hφ,s1.p S.p,hn,by rw[show v=O.v from hh],is,q1,λr qr v H' s2 o2=>k v H' r (s1.trans s2) (o2.ahead S.ok S.p s1) qr⟩
theorem zpu{φ:Ob->Prop}{n:Nat}{f:List G7->(R->Prop)->Prop}{ps:List Str}(hn:ps.length=n):∀vs H Q E,spO K φ n f vs H Q E->vs.length=ps.length:=λvs H Q E zz=>by obtain⟨O,ds,_,_,_,_,h,is,_⟩:=zz;rw[is.length,h,hn]
theorem zkd{φ:Ob->Prop}{n:Nat}{f:List G7->(R->Prop)->Prop}{ps:List Str}(hn:ps.length=n+1):∀vs H Q E,spD K φ n f vs H Q E->vs.length=ps.length:=λvs H Q E zz=>by obtain⟨O,ds,ws,_,_,_,_,h,e,is,_⟩:=zz;rw[e,Qk,is.length,h,hn]
end
section
variable {X:Cx}
def rEqD(K:Qa)(neg:Bool):R2:=λx y H Q=>∃F G d e,Is K F H x d/\Is K G H y e/\d.canLay0=true/\e.canLay0=true/\d.depth<=60/\Q (.bl (if neg then !PyData.eqv d e else Q9 d e)) H
theorem z1i(hu:X.A.units+64<cLine):OpR X (GP .Eq) (rEqD X.K false):=by
 intro pins s σ H x y v u Q I rx ry h;obtain⟨F,G,d,e,i1,i2,h1,h2,h3,q⟩:=h;obtain⟨as,ra⟩:=i1.reads I rx;obtain⟨bs,rb⟩:=i2.reads I ry;exact SeqAt.compareEq_reads ra rb h1 h2 (by lia) ⟨.bl _,H,I,rfl,q⟩
theorem z2a(hu:X.A.units+64<cLine):OpR X (GP .NotEq) (rEqD X.K true):=by
 intro pins s σ H x y v u Q I rx ry h;obtain⟨F,G,d,e,i1,i2,h1,h2,h3,q⟩:=h;obtain⟨as,ra⟩:=i1.reads I rx;obtain⟨bs,rb⟩:=i2.reads I ry;exact SeqAt.compareNe_reads ra rb h1 h2 (by lia) ⟨.bl _,H,I,rfl,q⟩
def rInD(K:Qa)(neg:Bool):R2:=λx y H Q=>∃F G d es,Is K F H x d/\(Is K G H y (.list es)\/Is K G H y (.tuple es))/\d.canLay0=true/\Qw es=true/\d.depth<=60 /\
 Q (.bl (if neg then !es.any (λy=>Q9 y d) else es.any λy=>Q9 y d)) H
theorem z1v(hu:X.A.units+64<cLine):OpR X (GP .In) (rInD X.K false):=by
 intro pins s σ H x y v u Q I rx ry h;obtain⟨F,G,d,es,i1,i2,h1,h2,h3,q⟩:=h;obtain⟨as,ra⟩:=i1.reads I rx;rcases i2 with i2|i2
 .obtain⟨bs,rb⟩:=i2.reads I ry;exact SeqAt.in_list_reads rb ra h2 h1 (by lia) ⟨.bl _,H,I,rfl,q⟩
 .obtain⟨bs,rb⟩:=i2.reads I ry;exact SeqAt.in_tuple_reads rb ra h2 h1 (by lia) ⟨.bl _,H,I,rfl,q⟩
theorem zuh(hu:X.A.units+64<cLine):OpR X (GP .NotIn) (rInD X.K true):=by
 intro pins s σ H x y v u Q I rx ry h;obtain⟨F,G,d,es,i1,i2,h1,h2,h3,q⟩:=h;obtain⟨as,ra⟩:=i1.reads I rx;rcases i2 with i2|i2
 .obtain⟨bs,rb⟩:=i2.reads I ry;exact SeqAt.notIn_list_reads rb ra h2 h1 (by lia) ⟨.bl _,H,I,rfl,q⟩
 .obtain⟨bs,rb⟩:=i2.reads I ry;exact SeqAt.notIn_tuple_reads rb ra h2 h1 (by lia) ⟨.bl _,H,I,rfl,q⟩
theorem zpa:∀{bs:List Bool} {us:List G5},Vals (bs.map V.bl) us->us=bs.map JA
 | [],_,r=>by cases r;rfl
 | b::bs,_,r=>by
   rw[Q8] at r
   cases r with
   | cons h t=>rw[zpa t,show _=JA b from h];rfl
theorem zl8:∀{ns:List Int} {us:List G5},Vals (ns.map V.int) us->∀(i:Nat) (v:G5),us[i]? = some v->∃n t,ns[i]? = some n/\v=Jb n t
 | [],_,r,i,v,e=>by cases r;simp at e
 | n::ns,_,r,i,v,e=>by
   rw[Q8] at r
   cases r with
   | cons h t=>
     obtain⟨tk,rfl⟩:=h
     cases i with
     | zero=>simp at e;exact⟨n,tk,rfl,e.symm⟩
     | succ i=>obtain⟨m,t',h1,h2⟩:=zl8 t i v (by simpa using e);exact⟨m,t',by simpa using h1,h2⟩
theorem zt5{bs:List Bool}:(Q2 bs.length).all (λi=>bs[i]?.getD false)=bs.all id:=by
 apply JO.mpr;rw[Z8,Z8];constructor
 .intro h x hx;obtain⟨i,hi,e⟩:=List.mem_iff_getElem.mp hx;have:=h i (by simpa using hi);rw[Qb hi] at this;rw[<- e];simpa using this
 .intro h i hi;have hi':i<bs.length:=by simpa using hi
  rw[Qb hi'];simpa using h _ (Zi hi')
def rAll(any:Bool):List V->Hp->VK->Prop:=λxs H Q=>∃(p:Addr) (bs:List Bool),xs = [.ref p]/\H p=some (.lst (bs.map V.bl))/\Q (.bl (if any then bs.any id else bs.all id)) H
theorem zsu(hc:X.calm=true):zcg X (.builtin "all") (rAll false):=by
 intro pins s σ H xs us Q I r h;obtain⟨p,bs,rfl,hH,q⟩:=h;obtain⟨u,rfl,ru⟩:=Vals.one r;cases ru;obtain⟨z,its,n,rv,hl,e⟩:=I.lstM hH;have ei:=zpa rv;subst ei;have pl:s.heap.IsList p (bs.map JA).toArray:=⟨_,e,rfl,_,rfl⟩;have hne:p≠s.heap.objs.size:=Q1 (Qq e);refine call_all_walk (M2 pl ?_);refine⟨s.heap.objs.size,_,_,_,_,_,λi=>bs[i]?.getD false,rfl,Walks.list (A:=X.A.in1) (I.ok.hd hc) _ p hne (bs.map JA).toArray,⟨⟨_,Qo _ rfl,rfl,rfl⟩,_,Qc _ e,rfl,_,rfl⟩,?_,λh' tk kk=>?_⟩
 .intro i v s' Q' E' hv hq;have hv:(bs.map JA).toArray[i]? = some v:=hv;rw[VG,Qi] at hv;obtain⟨b,hb,rfl⟩:=Q4.mp hv;have hq:Q' (bs[i]?.getD false) s':=hq;rw[hb] at hq;exact TL hq
 .have I1:Inv X pins σ H { s with heap:=h',toks:=tk }:=I.kept λb o eb=>kk b o (by simp;exact Q1 (Qq eb)) (Qc _ eb);refine⟨.bl _,H,I1,?_,q⟩;show JA _=JA _;rw[Q5,Qf,zt5];rfl
theorem zh5:∀{ys:List Str} {us:List G5},Vals (ys.map V.str) us->MB us ys
 | [],_,r=>by cases r;exact .nil
 | y::ys,_,r=>by
   rw[Q8] at r
   cases r with
   | cons h t=>obtain⟨tk,rfl⟩:=h;exact .cons y tk (zh5 t)
theorem zef:∀{ys:List Str} {us:List G5},MB us ys->Vals (ys.map V.str) us
 | _,_,.nil=>.nil
 | _,_,.cons y t r=>.cons ⟨t,rfl⟩ (zef r)
def zsj:List V->Hp->VK->Prop:=λxs H Q=>∃p ys,xs = [.ref p]/\H p=some (.lst (ys.map V.str))/\ys.length<64/\∀zs l,zs.Perm ys->MI zs=true->H l=none->Q (.ref l) (upd H l (.lst (zs.map V.str)))
theorem zri:zcg X (.builtin "sorted") zsj:=by
 intro pins s σ H xs us Q I r h;obtain⟨p,ys,rfl,hH,hz,q⟩:=h;obtain⟨u,rfl,ru⟩:=Vals.one r;cases ru;obtain⟨z,its,n,rv,hl,e⟩:=I.lstM hH;refine sorted_strs (ss:=ys) ⟨_,e,rfl,_,rfl⟩ (zh5 rv) (by rw[<- hl,Qf];exact hz) λout zs h1 h2 h3=>?_;obtain⟨c,he⟩:=sortedAll_at s.heap its out;have hn:H (s.heap.objs.size+1)=none:=I.hok.fresh (ZN _);refine⟨.ref _,_,I.laid (a:=s.heap.objs.size+1) (o:=.lst (zs.map V.str)) (t':=s.toks) (λb o eb=>sortedAll_old eb) (ZN _) ?_,rfl,q zs _ h2 h3 hn⟩;refine⟨?_,out.toList,c,zef h1,by simpa using he⟩;rw[Qf,h2.length_eq];have:sizeLine=16777216:=GE;lia
theorem zq0(h:ItemsOf P acc ys.length)(hv:∀i v,P i v->∃y,ys[i]? = some y/\RelV y v):Vals ys acc.toList:=by
 have go:∀(k:Nat) (zs:List V) (l:List G5),zs.length=l.length->(∀(i:Nat) v,l[i]? = some v->∃y,zs[i]? = some y/\RelV y v)->Vals zs l:=by
  intro k zs l
  induction l generalizing zs with
  | nil=>intro e _;cases zs with
    | nil=>exact .nil
    | cons _ _=>simp at e
  | cons a l ih=>intro e hh;cases zs with
    | nil=>simp at e
    | cons z zs=>
      obtain⟨y,h1,h2⟩:=hh 0 a rfl;simp at h1;subst h1;exact .cons h2 (ih zs (by simpa using e) λi v ev=>by simpa using hh (i+1) v (by simpa using ev))
 refine go 0 ys acc.toList (by have e:=h.1;simp[e]) λi v e=>hv i v (h.2 i v (by simpa using e))
def zsi:List V->Hp->VK->Prop:=λxs H Q=>∃x:Str,xs = [.str x]/\x.cps.size<=sizeLine/\∀l,H l=none->Q (.ref l) (upd H l (.lst (x.cps.toList.map λc=>V.str (sg c))))
theorem zq6(hc:X.calm=true):zcg X (.type "list") zsi:=by
 intro pins s σ H xs us Q I r h;obtain⟨x,rfl,hz,q⟩:=h;obtain⟨u,rfl,ru⟩:=Vals.one r;obtain⟨t,rfl⟩:=ru;refine call_list_str (I.ok.hd hc) x t (λh' tk acc c kk e it=>?_) hz;refine⟨.ref _,_,I.laid (a:=s.heap.objs.size) (o:=.lst (x.cps.toList.map λc=>V.str (sg c))) kk (Qg _) ?_,rfl,q _ I.fresh⟩;refine⟨by simpa using hz,acc.toList,c,zq0 (P:=SignAt x) (by simpa using it) λi v hv=>?_,by simpa using e⟩;obtain⟨cc,uu,h1,rfl⟩:=hv;exact⟨.str (sg cc),by rw[Qi];simp[h1],⟨uu,rfl⟩⟩
def zwy(K:Qa):List V->Hp->VK->Prop:=λxs H Q=>∃v F d,xs = [v]/\Is K F H v d/\d.showable=true/\d.hasDict=false/\d.depth<=60/\d.shown.length<=sizeLine/\Q (.str d.shown) H
theorem zrf(hg:X.A.guards=some [])(hu:X.A.units+64<cLine):zcg X (.builtin "repr") (zwy X.K):=by
 intro pins s σ H xs us Q I r h;obtain⟨v,F,d,rfl,i,h1,h2,h3,h4,q⟩:=h;obtain⟨u,rfl,ru⟩:=Vals.one r;have fin:∀h' u tk,(∀b o,s.heap.get? b=some o->h'.get? b=some o)->EP X pins σ Q (.str d.shown u) { s with heap:=h',toks:=tk }:=λh' u tk kk=>⟨.str _,H,I.kept kk,⟨_,rfl⟩,q⟩;have fin':∀u tk,EP X pins σ Q (.str d.shown u) { s with toks:=tk }:=λu tk=>⟨.str _,H,I.tok _,⟨_,rfl⟩,q⟩;obtain⟨as,ra⟩:=i.reads I ru
 cases i with
 | none=>cases ru;exact PySem.P.repr_of_none (fin' _ _)
 | bool b=>cases ru;exact PySem.P.repr_of_bool (fin' _ _)
 | int n=>obtain⟨t,rfl⟩:=ru;exact PySem.P.repr_of_int (by simpa[YH] using h1) (fin' _ _)
 | str x=>obtain⟨t,rfl⟩:=ru;exact PySem.P.repr_of_str (fin' _ _) h4
 | list _ _ _=>cases ru;exact repr_of_reads' ra h1 (λz=>by rw[h2] at z;cases z) hg (by lia) (λ_ _ e=>e) fin h4
 | tuple _ _=>cases ru;exact repr_of_reads' ra h1 (λz=>by rw[h2] at z;cases z) hg (by lia) (λ_ _ e=>e) fin h4
end
def tx(l:List Nat):Str:=⟨l.toArray⟩
theorem ztb(x:Str):tx x.cps.toList=x:=by cases x;simp[tx]
theorem zeh(l:List Nat):(tx l).cps.toList=l:=by simp[tx]
theorem zue(l:List Nat):(tx l).length=l.length:=by simp[tx,Ur]
def cutL{α:Type}(xs:List α)(lo hi:Option Int):List α:=(xs.drop (HT.sIx xs.length 0 lo)).take (HT.sIx xs.length xs.length hi-HT.sIx xs.length 0 lo)
theorem zh2(n d:Nat)(v:Int):max (0:Int) (min (if v<0 then v+n else v) n)=((HT.sIx n d (some v):Nat):Int):=by
 rw[<- HT.clip_eq v n d]
 by_cases h:v<0
 .rw[ND h,ND h];lia
 .rw[NE h,NE h];lia
theorem zog(lo hi:Option Int)(n:Nat):YR lo hi 1 n=(Q2 (HT.sIx n n hi-HT.sIx n 0 lo)).map λk=>HT.sIx n 0 lo+k:=by
 have e1:(match lo with|none=>(0:Int)|some i=>max 0 (min (if i<0 then i+(n:Int) else i) n))=((HT.sIx n 0 lo:Nat):Int):=by
  cases lo with
  | none=>rfl
  | some v=>exact zh2 n 0 v
 have e2:(match hi with|none=>(n:Int)|some i=>max 0 (min (if i<0 then i+(n:Int) else i) n))=((HT.sIx n n hi:Nat):Int):=by
  cases hi with
  | none=>rfl
  | some v=>exact zh2 n n v
 have e0:YR lo hi 1 n=sliceRange ((HT.sIx n 0 lo:Nat):Int) ((HT.sIx n n hi:Nat):Int) 1:=by
  rw[<- e1,<- e2];cases lo <;> cases hi <;> rfl
 rw[e0];generalize HT.sIx n 0 lo=a;generalize HT.sIx n n hi=b;simp only[sliceRange,show((1:Int) > 0)=True from by simp,NL]
 by_cases hlt:(a:Int)<b
 .have e3:(((b:Int)-a+1-1) / 1).toNat=b-a:=by first|lia|(simp;done)|(simp;lia)
  simp only[hlt,NL,e3];refine Yg λk _=>?_;lia
 .have:b-a=0:=by lia
  simp[hlt,this]
theorem zsx{α:Type}(l:List α):∀(n a:Nat),a+n<=l.length->((Q2 n).map λk=>a+k).filterMap (λi=>l[i]?)=(l.drop a).take n
 | 0,_,_=>by simp
 | n+1,a,h=>by
   have hlt:a+n<l.length:=by lia
   rw[Gc,QE,List.filterMap_append,zsx l n a (by lia),U9,Jx];simp[Qb hlt]
section
variable {X:Cx}
def rSlS:V->Option Int->Option Int->Hp->VK->Prop:=λx lo hi H Q=>∃z:Str,x = .str z/\z.length<=sizeLine/\Q (.str (tx (cutL z.cps.toList lo hi))) H
theorem z4h:SlR X rSlS:=by
 intro pins s σ H x v vl vu lo hi sl Q I rx hs pl pu h;obtain⟨z,rfl,hz,q⟩:=h;obtain⟨t,rfl⟩:=rx;refine⟨"str",_,PySem.F.slot_str_getitem.lookup,typeIs_str s z t,?_⟩;have hl:z.cps.toList.length=z.length:=by simp[Ur]
 have hi':HT.sIx z.length z.length hi<=z.length:=HT.sIx_le _ _ (Qg _) hi
 have key:∀l u:Option (Int×Tok),l.map (·.1)=lo->u.map (·.1)=hi->s.heap.IsSlice sl l u none->wpAny (model X.prog X.w) X.A (Mg (.str z t) (.ref sl)) (EP X pins σ Q) X.xe s:=by
  intro l u el eu hsl
  have e:MU z l u none=(Q2 (HT.sIx z.length z.length hi-HT.sIx z.length 0 lo)).map λk=>HT.sIx z.length 0 lo+k:=by
   unfold MU;rw[el,eu];exact zog lo hi z.length
  have ec:tx (cutL z.cps.toList lo hi)=⟨((MU z l u none).filterMap (z.cps[·]?)).toArray⟩:=by
   rw[e];unfold cutL tx;rw[hl]
   by_cases hij:HT.sIx z.length 0 lo<=HT.sIx z.length z.length hi
   .have p:=zsx z.cps.toList (HT.sIx z.length z.length hi-HT.sIx z.length 0 lo) (HT.sIx z.length 0 lo) (by rw[hl];lia);rw[<- p];simp
   .have:HT.sIx z.length z.length hi-HT.sIx z.length 0 lo=0:=by lia
    rw[this];simp
  refine wpAny_getItem_str_slice hsl rfl ?_;unfold sliceMade
  split
  .rename_i hc
   have hw:(MU z l u none).length=z.length:=by simpa using hc
   have ex:tx (cutL z.cps.toList lo hi)=z:=by
    rw[e,Qf,Zb] at hw;unfold cutL;rw[hl];have h0:HT.sIx z.length 0 lo=0\/z.length=0:=by lia
    rcases h0 with h0|h0
    .rw[h0] at hw ⊢;rw[JZ,Jq (by rw[hl];lia)];exact ztb z
    .have hn:z.cps.toList = []:=Zr (by rw[hl];exact h0);rw[hn];simp only[List.drop_nil,List.take_nil];rw[<- hn];exact ztb z
   exact⟨.str _,H,I,⟨t,by rw[ex]⟩,q⟩
  .rw[<- ec]
   have hlen:(tx (cutL z.cps.toList lo hi)).length<=sizeLine:=by
    rw[zue];unfold cutL;rw[QY,ZK,hl];lia
   first
    | exact⟨.str _,H,I.tok _,⟨_,rfl⟩,q⟩
    | exact⟨hlen,.str _,H,I.tok _,⟨_,rfl⟩,q⟩
    | exact λ_=>⟨.str _,H,I.tok _,⟨_,rfl⟩,q⟩
 obtain⟨o,ho,hc,hd⟩:=hs
 cases pl with
 | none=>cases pu with
   | none=>exact key none none rfl rfl ⟨o,ho,hc,hd⟩
   | int j t'=>exact key none (some (j,t')) rfl rfl ⟨o,ho,hc,hd⟩
 | int i ti=>cases pu with
   | none=>exact key (some (i,ti)) none rfl rfl ⟨o,ho,hc,hd⟩
   | int j t'=>exact key (some (i,ti)) (some (j,t')) rfl rfl ⟨o,ho,hc,hd⟩
def zxl(K:Qa):V->Option Int->Option Int->Hp->VK->Prop:=λx lo hi H Q=>∃a xs,x = .ref a/\SqT K H a xs/\(HT.sIx xs.length 0 lo=0/\HT.sIx xs.length xs.length hi=xs.length)/\Q (.ref a) H
theorem zf7{prog:GB}{w:GD}{A:GF}{E:G5->G8->Prop}{s:G8}{t sl:Addr}{items:Array G5}{vl vu:G5}{lo hi:Option Int}{Q:G5->G8->Prop}(ht:IsTup s.heap t items)(hs:s.heap.IsSliceOf sl vl vu .none)(pl:MA vl lo)(pu:MA vu hi)
 (hw:HT.sIx items.size 0 lo=0/\HT.sIx items.size items.size hi=items.size) (h:Q (.ref t) s):wpAny (model prog w) A (Mg (.ref t) (.ref sl)) Q E s:=by
 obtain⟨os,hos,hcs,hds⟩:=id hs;have hTs:s.TypeIs (.ref sl) "slice" := ⟨os,hos,hcs⟩;unfold Mg
 try with_reducible refine GK ?_
 first|refine G4 (G6 ?_)|skip
 refine G4 (wpAny_sequenceKey ht.typeIs (by decide) ?_)
 refine G4 (Tb (name:=Jk "__getitem__") ht.typeIs Zw
  (GL Zw ht.typeIs entry_tuple_getitem ?_ (args_tuple_getitem _ _)))
 show wpAny _ _ (YX (.ref t) >>= _) _ _ s;refine G4 (tupleItemsOf_ ht ?_);refine G4 (TC hTs ?_);rw[ND (by decide)];refine G4 (HT.sliceApplied_gen hs pl pu ?_)
 have hno:(((HT.sIx items.size 0 lo:Nat):Int) == 0 && (1:Int) == 1 && (HT.sIx items.size items.size hi-HT.sIx items.size 0 lo) == items.size)=true:=by
  rw[hw.1,hw.2];simp
 show wpAny _ _ (if(((HT.sIx items.size 0 lo:Nat):Int) == 0 && (1:Int) == 1 && (HT.sIx items.size items.size hi-HT.sIx items.size 0 lo) == items.size)=true then _ else _) _ _ s;rw[ND hno];obtain⟨o,ho,hc,n,hd⟩:=id ht;refine G4 ?_;unfold Builtin.Tuple.tupleIsExact;refine G4 (TC ht.typeIs (G6 ?_));show wpAny _ _ (if((Zs "tuple") == (Zs "tuple"))=true then _ else _) _ _ s;rw[ND (by decide)];exact G4 (GZ (G6 ⟨_,rfl,G6 h⟩))
theorem sl_tupW:SlR X (zxl X.K):=by
 intro pins s σ H x v vl vu lo hi sl Q I rx hs pl pu h;obtain⟨a,xs,rfl,hx,hw,q⟩:=h;cases rx;obtain⟨its,r,ht,hz⟩:=I.tuple hx;have hlen:its.toArray.size=xs.length:=by rw[Q5];exact r.length.symm
 exact⟨"tuple",_,Zw.lookup,ht.typeIs,zf7 ht hs pl pu (by rw[hlen];exact hw) ⟨.ref a,H,I,rfl,q⟩⟩
def rSl(K:Qa):V->Option Int->Option Int->Hp->VK->Prop:=λx lo hi H Q=>rSlL K x lo hi H Q\/rSlT K x lo hi H Q\/zxl K x lo hi H Q\/rSlS x lo hi H Q
theorem z3g:SlR X (rSl X.K):=sl_list.or (sl_tup.or (sl_tupW.or z4h))
def zsf(K:Qa):R2:=λx y H Q=>∃a b ys,x = .ref a/\y = .ref b/\SqT K H a []/\SqT K H b ys/\Q (.ref b) H
theorem zu5:OpR X (Tw .Add) (zsf X.K):=by
 intro pins s σ H x y v u Q I rx ry h;obtain⟨a,b,ys,rfl,rfl,ha,hb,q⟩:=h;cases rx;cases ry;obtain⟨its,r1,p1,_⟩:=I.tuple ha;obtain⟨its2,r2,p2,_⟩:=I.tuple hb;cases r1;obtain⟨⟨cls,dd,data,sl⟩,ho,hc,n,hd⟩:=id p1;obtain⟨⟨cls2,dd2,data2,sl2⟩,ho2,hc2,n2,hd2⟩:=id p2;simp only at hc hd hc2 hd2;subst hc hd hc2 hd2
 exact Nk ⟨_,ho,rfl⟩ ⟨_,ho2,rfl⟩ M9 MZ Yz Yt (Yl _ _)
  (tuple_addW0 a b _ its2.toArray n n2 dd dd2 sl sl2 (by simp)) ⟨ho,ho2,⟨.ref b,H,I,rfl,q⟩⟩
end
section
variable {K:Qa}{O:Ob}{F:Addr->Prop}{H:Hp}
theorem zfp:∀{vs:List V} {ys:List Str},IsAll K F H vs (ys.map .str)->vs=ys.map V.str
 | _,[],h=>by cases h;rfl
 | _,y::ys,h=>by
   rw[Q8] at h
   cases h with
   | cons h1 h2=>cases h1;rw[zfp h2];rfl
theorem zi9:∀{vs:List V} {ns:List Int},IsAll K F H vs (ns.map .int)->vs=ns.map V.int
 | _,[],h=>by cases h;rfl
 | _,y::ys,h=>by
   rw[Q8] at h
   cases h with
   | cons h1 h2=>cases h1;rw[zi9 h2];rfl
theorem zhj:∀{vs:List V} {bs:List Bool},IsAll K F H vs (bs.map .bool)->vs=bs.map V.bl
 | _,[],h=>by cases h;rfl
 | _,y::ys,h=>by
   rw[Q8] at h
   cases h with
   | cons h1 h2=>cases h1;rw[zhj h2];rfl
theorem zfb:∀(ys:List Str),IsAll K F H (ys.map V.str) (ys.map .str)
 | []=>.nil
 | y::ys=>.cons (.str y) (zfb ys)
theorem zkn{i:Int}{d:G7}(h:IsAll K F H vs ds)(e:atI ds i=some d):∃v,atI vs i=some v/\Is K F H v d:=by
 unfold atI at e ⊢;rw[h.length]
 cases q:ixN ds.length i with
 | none=>rw[q] at e;cases e
 | some j=>
   rw[q] at e;obtain⟨v,hv,iv⟩:=h.get (i:=j) e;exact⟨v,hv,iv⟩
theorem zge(h:IsAll K F H vs ds)(lo hi:Option Int):IsAll K F H (cutV vs lo hi) (cutL ds lo hi):=by
 unfold cutV cutL;rw[h.length];exact(h.drop _).take _
theorem zc0(ok:O.Ok)(hp:H p=none)(h:IsAll K (unM O) H vs ds):Stp O H (upd H p (.lst vs))/\Out K O H (upd H p (.lst vs)) (.ref p) (.n ds):=by
 have s:Stp O H (upd H p (.lst vs)):=.new ok hp _;exact⟨s,p,vs,rfl,hp,zad,h.stp s (λ_ z=>z) (λ_ z=>z)⟩
theorem zj5(ok:O.Ok)(hp:H p=none)(h:IsAll K (unM O) H vs ds):Stp O H (upd H p (.tup vs))/\Out K O H (upd H p (.tup vs)) (.ref p) (.o (.tuple ds)):=by
 have s:Stp O H (upd H p (.tup vs)):=.new ok hp _;exact⟨s,Is.tuple (.of zad) (h.stp s (λ_ z=>z) (λ_ z=>z))⟩
def okD(d:G7):Bool:=d.canLay0 && decide (d.depth<=60)
def eqF(neg:Bool):G7->G7->Option R:=λd e=>if(okD d && e.canLay0)=true then some (.o (.bool (if neg then !PyData.eqv d e else Q9 d e))) else none
theorem zsl(neg:Bool):OpD K O (rEqD K neg) (fn2 (eqF neg)):=λH x y d e Q Qd ok p ix iy ⟨r,hr,q⟩ k=>by
 unfold eqF at hr
 split at hr
 .rename_i hc
  cases hr;simp only[Qy,okD,NG] at hc;exact⟨_,_,d,e,ix,iy,hc.1.1,hc.2,hc.1.2,k _ H (.o _) (.refl _ _) (Is.bool _) q⟩
 .cases hr
def inF(neg:Bool):G7->G7->Option R:=λd e=>match d,e with
 | .str x,.str y=>some (.o (.bool (if neg then !(!(Zy y x 0 y.length 1).isEmpty) else !(Zy y x 0 y.length 1).isEmpty)))
 | d,.list es=>if(okD d && Qw es)=true then some (.o (.bool (if neg then !es.any (λy=>Q9 y d) else es.any λy=>Q9 y d))) else none
 | d,.tuple es=>if(okD d && Qw es)=true then some (.o (.bool (if neg then !es.any (λy=>Q9 y d) else es.any λy=>Q9 y d))) else none
 | _,_=>none
def rInU(K:Qa):R2:=λx y H Q=>(∃i j,x = .str i/\y = .str j/\Q (.bl (!(Zy j i 0 j.length 1).isEmpty)) H)\/rInD K false x y H Q
def zjv(K:Qa):R2:=λx y H Q=>(∃i j,x = .str i/\y = .str j/\Q (.bl (!(!(Zy j i 0 j.length 1).isEmpty))) H)\/rInD K true x y H Q
theorem z2o(hu:X.A.units+64<cLine):OpR X (GP .In) (rInU X.K):=op_in_str.or (z1v hu)
theorem zt6(hu:X.A.units+64<cLine):OpR X (GP .NotIn) (zjv X.K):=op_notin_str.or (zuh hu)
theorem zo9{neg:Bool}{d:G7}(ix:Is K (unM O) H x d)(iy:Is K (unM O) H y e)(q:fn2 (inF neg) d e Qd)(k:∀v H' r,Stp O H H'->Out K O H H' v r->Qd r->Q v H'):
 (∃i j,x = .str i/\y = .str j/\Q (.bl (if neg then !(!(Zy j i 0 j.length 1).isEmpty) else !(Zy j i 0 j.length 1).isEmpty)) H)\/rInD K neg x y H Q:=by
 obtain⟨r,hr,q⟩:=q;unfold inF at hr
 split at hr
 .rename_i a b
  cases ix;cases iy;cases hr;exact .inl ⟨a,b,rfl,rfl,k _ H (.o _) (.refl _ _) (Is.bool _) q⟩
 .split at hr
  .rename_i hc
   cases hr;simp only[Qy,okD,NG] at hc;exact .inr ⟨_,_,_,_,ix,.inl iy,hc.1.1,hc.2,hc.1.2,k _ H (.o _) (.refl _ _) (Is.bool _) q⟩
  .cases hr
 .split at hr
  .rename_i hc
   cases hr;simp only[Qy,okD,NG] at hc;exact .inr ⟨_,_,_,_,ix,.inr iy,hc.1.1,hc.2,hc.1.2,k _ H (.o _) (.refl _ _) (Is.bool _) q⟩
  .cases hr
 .cases hr
theorem z2u:OpD K O (rInU K) (fn2 (inF false)):=λH x y d e Q Qd ok p ix iy q k=>zo9 ix iy q k
theorem zrq:OpD K O (zjv K) (fn2 (inF true)):=λH x y d e Q Qd ok p ix iy q k=>zo9 (neg:=true) ix iy q k
def intF(g:Int->Int->G7):G7->G7->Option R
 | .int i,.int j=>some (.o (g i j))
 | _,_=>none
theorem zmr(h:∀i j H,Is K (unM O) H (g i j) (G i j)):OpD K O (rI0 g) (fn2 (intF G)):=λH x y d e Q Qd ok p ix iy ⟨r,hr,q⟩ k=>by
 unfold intF at hr
 split at hr
 .cases ix;cases iy;cases hr;exact⟨_,_,rfl,rfl,k _ H (.o _) (.refl _ _) (h _ _ H) q⟩
 .cases hr
theorem z4f:OpD K O (rI0 λi j=>.bl (decide (i<j))) (fn2 (intF λi j=>.bool (decide (i<j)))):=zmr λ_ _ _=>.bool _
theorem z1s:OpD K O (rI0 λi j=>.bl (decide (i<=j))) (fn2 (intF λi j=>.bool (decide (i<=j)))):=zmr λ_ _ _=>.bool _
def zxo(K:Qa):R2:=λx y H Q=>rI0 (λi j=>.int (i+j)) x y H Q\/(∃i j,x = .str i/\y = .str j/\i.length+j.length<=sizeLine/\Q (.str (i++j)) H)\/rCat x y H Q\/zxg K x y H Q\/zsf K x y H Q
theorem zyw: OpR X (Tw .Add) (zxo X.K):=op_add.or (op_add_str.or (op_cat.or (op_catT.or zu5)))
def addF:G7->G7->Option R:=λd e=>match d,e with
 | .int i,.int j=>some (.o (.int (i+j)))
 | .str x,.str y=>if x.length+y.length<=sizeLine then some (.o (.str (x++y))) else none
 | .list a,.list b=>if a.length+b.length<=sizeLine then some (.n (a++b)) else none
 | .tuple a,.tuple b=>if a.length+b.length<=sizeLine then some (.o (.tuple (a++b))) else none
 | _,_=>none
theorem zzn:OpD K O (zxo K) (fn2 addF):=λH x y d e Q Qd ok p ix iy ⟨r,hr,q⟩ k=>by
 unfold addF at hr
 split at hr
 .cases ix;cases iy;cases hr;exact .inl ⟨_,_,rfl,rfl,k _ H (.o _) (.refl _ _) (Is.int _) q⟩
 .split at hr
  .rename_i hz
   cases ix;cases iy;cases hr;exact .inr (.inl ⟨_,_,rfl,rfl,hz,k _ H (.o _) (.refl _ _) (Is.str _) q⟩)
  .cases hr
 .split at hr
  .rename_i hz
   cases hr
   cases ix with
   | list f1 h1 s1=>
     cases iy with
     | list f2 h2 s2=>
       refine .inr (.inr (.inl ⟨_,_,_,_,rfl,rfl,h1,h2,by rw[s1.length,s2.length];exact hz,λp' hp=>?_⟩));obtain⟨a1,a2⟩:=zc0 ok hp (s1.append s2);exact k _ _ _ a1 a2 q
  .cases hr
 .split at hr
  .rename_i hz
   cases hr
   cases ix with
   | tuple h1 s1=>
     cases iy with
     | tuple h2 s2=>
       rename_i a xs b ys
       cases xs with
       | nil=>
         cases s1;exact .inr (.inr (.inr (.inr ⟨a,b,ys,rfl,rfl,h1,h2,k _ H (.o _) (.refl _ _) (Is.tuple h2 s2) q⟩)))
       | cons z zs=>
         refine .inr (.inr (.inr (.inl ⟨a,b,_,ys,rfl,rfl,h1,h2,by simp,by rw[s1.length,s2.length];exact hz,λe=>?_,λ_ p' hp=>?_⟩)))
         .subst e;cases s2;rw[QD] at q;exact k _ H (.o _) (.refl _ _) (Is.tuple h1 s1) q
         .obtain⟨a1,a2⟩:=zj5 ok hp (s1.append s2);exact k _ _ _ a1 a2 q
  .cases hr
 .cases hr
def idxF:G7->G7->Option R:=λd e=>match d,e with
 | .list ds,.int i=>(atI ds i).map .o
 | .tuple ds,.int i=>(atI ds i).map .o
 | .str x,.int i=>if x.length<=sizeLine then(atI x.cps.toList i).map λc=>.o (.str (sg c)) else none
 | _,_=>none
theorem zzq:OpD K O (rIx K) (fn2 idxF):=λH x y d e Q Qd ok p ix iy ⟨r,hr,q⟩ k=>by
 unfold idxF at hr
 split at hr
 .obtain⟨z,hz,rfl⟩:=Q4.mp hr;cases iy
  cases ix with
  | list f1 h1 s1=>
    obtain⟨v,hv,iv⟩:=zkn s1 hz;exact .inl ⟨_,_,_,v,rfl,rfl,.of h1,hv,k v H (.o z) (.refl _ _) iv q⟩
 .obtain⟨z,hz,rfl⟩:=Q4.mp hr;cases iy
  cases ix with
  | tuple h1 s1=>
    obtain⟨v,hv,iv⟩:=zkn s1 hz;exact .inr (.inl ⟨_,_,_,v,rfl,rfl,h1,hv,k v H (.o z) (.refl _ _) iv q⟩)
 .split at hr
  .rename_i hl
   obtain⟨c,hc,rfl⟩:=Q4.mp hr;cases iy;cases ix;exact .inr (.inr ⟨_,_,c,rfl,rfl,hl,hc,k _ H (.o _) (.refl _ _) (Is.str _) q⟩)
  .cases hr
 .cases hr
abbrev DO:=DSt->(Option Int->Prop)->Prop
def OD(K:Qa)(O:Ob)(t:TO)(f:DO):Prop :=
 ∀(σ:St) (H:Hp) (ρ:DSt) (Q:Option Int->Hp->Prop) (Qd:Option Int->Prop),Seen K O H σ ρ->f ρ Qd->(∀o H',Stp O H H'->Qd o->Q o H')->t σ H Q
def noO:DO:=λ_ Q=>Q none
def zw7(f:DE):DO:=λρ Q=>f ρ λr=>∃i,r.d = .int i/\Q (some i)
theorem zzw:OD K O zpf noO:=λσ H ρ Q Qd S h k=>k none H (.refl _ _) h
theorem zyn(h:ED K O t f):OD K O (zlz t) (zw7 f):=λσ H ρ Q Qd S hf k=>by
 refine h σ H ρ _ _ S hf λv H1 r s1 o1 zz=>?_;obtain⟨i,e,q⟩:=zz;have iv:=o1.is S.ok S.p;rw[e] at iv;cases iv;exact⟨i,rfl,k (some i) H1 s1 q⟩
def slcF(lo hi:Option Int):G7->Option R
 | .list ds=>some (.n (cutL ds lo hi))
 | .tuple ds=>some (.o (.tuple (cutL ds lo hi)))
 | .str x=>if x.length<=sizeLine then some (.o (.str (tx (cutL x.cps.toList lo hi)))) else none
 | _=>none
def slD(f:DE)(a b:DO):DE:=λρ Q=>f ρ λr=>a ρ λlo=>b ρ λhi=>∃s,slcF lo hi r.d=some s/\Q s
theorem zu9(h:ED K O t f)(ha:OD K O tl a)(hb:OD K O th b):ED K O (tSl (rSl K) t tl th) (slD f a b):=λσ H ρ Q Qd S hf k=>by
 refine h σ H ρ _ _ S hf λv H1 r s1 o1 q1=>?_;refine ha σ H1 ρ _ _ (S.stp s1) q1 λlo H2 s2 q2=>?_;refine hb σ H2 ρ _ _ ((S.stp s1).stp s2) q2 λhi H3 s3 zz=>?_;obtain⟨s,hr,q⟩:=zz;have st:=(s1.trans s2).trans s3;have iv:Is K (unM O) H3 v r.d:=Is.stp (s2.trans s3) (λ_ z=>z) (λ_ z=>z) (o1.is S.ok S.p);revert hr;generalize r.d=d at iv;intro hr;unfold slcF at hr
 split at hr
 .cases hr
  cases iv with
  | list f1 h1 z1=>
    refine .inl ⟨_,_,rfl,.of h1,λp hp=>?_⟩;obtain⟨a1,a2⟩:=zc0 S.ok hp (zge z1 lo hi);exact k _ _ _ (st.trans a1) (Out.ahead S.ok S.p st a2) q
 .cases hr
  cases iv with
  | tuple h1 z1=>
    rename_i a' xs
    by_cases hw:HT.sIx xs.length 0 lo=0/\HT.sIx xs.length xs.length hi=xs.length
    .refine .inr (.inr (.inl ⟨a',xs,rfl,h1,hw,k _ H3 (.o _) st ?_ q⟩))
     have e:cutV xs lo hi=xs:=by
      unfold cutV;rw[hw.1,hw.2,JZ,YS,Zn]
     have z2:=zge z1 lo hi;rw[e] at z2;exact Is.tuple h1 z2
    .refine .inr (.inl ⟨a',xs,rfl,h1,hw,λp hp=>?_⟩);obtain⟨a1,a2⟩:=zj5 S.ok hp (zge z1 lo hi);exact k _ _ _ (st.trans a1) (Out.ahead S.ok S.p st a2) q
 .split at hr
  .rename_i hl
   cases hr;cases iv;exact .inr (.inr (.inr ⟨_,rfl,hl,k _ H3 (.o _) st (Is.str _) q⟩))
  .cases hr
 .cases hr
def lenF:List G7->Option R
 | [.str x]=>if x.length<=sizeLine then some (.o (.int x.length)) else none
 | [.list ds]=>some (.o (.int ds.length))
 | [.tuple ds]=>some (.o (.int ds.length))
 | _=>none
theorem zbt{d:G7}(h:IsAll K F H vs [d]):∃v,vs = [v]/\Is K F H v d:=by
 cases h with
 | cons h1 h2=>cases h2;exact⟨_,rfl,h1⟩
theorem z2t:zeg K O (λxs H Q=>∃x n,xs = [x]/\LenV K x H n/\Q (.int n) H) (fn1 lenF):=λH vs ds Q Qd ok p is ⟨r,hr,q⟩ k=>by
 unfold lenF at hr
 split at hr
 .split at hr
  .rename_i hl
   obtain⟨v,rfl,iv⟩:=zbt is;cases iv;cases hr;exact⟨_,_,rfl,⟨hl,rfl⟩,k _ H (.o _) (.refl _ _) (Is.int _) q⟩
  .cases hr
 .obtain⟨v,rfl,iv⟩:=zbt is;cases hr
  cases iv with
  | list f1 h1 s1=>exact⟨_,_,rfl,.inl ⟨_,.of h1,s1.length.symm⟩,k _ H (.o _) (.refl _ _) (Is.int _) q⟩
 .obtain⟨v,rfl,iv⟩:=zbt is;cases hr
  cases iv with
  | tuple h1 s1=>exact⟨_,_,rfl,.inr ⟨_,h1,s1.length.symm⟩,k _ H (.o _) (.refl _ _) (Is.int _) q⟩
 .cases hr
def allD(any:Bool):List G7->(R->Prop)->Prop:=λds Q=>∃bs:List Bool,ds = [.list (bs.map .bool)]/\Q (.o (.bool (if any then bs.any id else bs.all id)))
theorem z1f(any:Bool):zeg K O (rAll any) (allD any):=λH vs ds Q Qd ok p is ⟨bs,e,q⟩ k=>by
 subst e;obtain⟨v,rfl,iv⟩:=zbt is
 cases iv with
 | list f1 h1 s1=>
   rw[zhj s1] at h1;exact⟨_,bs,rfl,h1,k _ H (.o _) (.refl _ _) (Is.bool _) q⟩
def tupF:List G7->Option R
 | [.list ds]=>some (.o (.tuple ds))
 | [.tuple ds]=>some (.o (.tuple ds))
 | _=>none
theorem zwb:zeg K O (λxs H Q=>∃p ys,xs = [.ref p]/\((SqL K H p ys/\∀l,H l=none->Q (.ref l) (upd H l (.tup ys)))\/(SqT K H p ys/\Q (.ref p) H))) (fn1 tupF):=λH vs ds Q Qd ok p is ⟨r,hr,q⟩ k=>by
 unfold tupF at hr
 split at hr
 .obtain⟨v,rfl,iv⟩:=zbt is;cases hr
  cases iv with
  | list f1 h1 s1=>
    refine⟨_,_,rfl,.inl ⟨.of h1,λl hl=>?_⟩⟩;obtain⟨a1,a2⟩:=zj5 ok hl s1;exact k _ _ _ a1 a2 q
 .obtain⟨v,rfl,iv⟩:=zbt is;cases hr
  cases iv with
  | tuple h1 s1=>exact⟨_,_,rfl,.inr ⟨h1,k _ H (.o _) (.refl _ _) (Is.tuple h1 s1) q⟩⟩
 .cases hr
def zft:List G7->Option R
 | [d]=>if(d.showable && !d.hasDict && decide (d.depth<=60) && decide (d.shown.length<=sizeLine))=true then some (.o (.str d.shown)) else none
 | _=>none
theorem zy1:zeg K O (zwy K) (fn1 zft):=λH vs ds Q Qd ok p is ⟨r,hr,q⟩ k=>by
 unfold zft at hr
 split at hr
 .split at hr
  .rename_i hc
   cases hr;obtain⟨v,rfl,iv⟩:=zbt is;simp only[Qy,NG,ZO] at hc;exact⟨v,_,_,rfl,iv,hc.1.1.1,hc.1.1.2,hc.1.2,hc.2,k _ H (.o _) (.refl _ _) (Is.str _) q⟩
  .cases hr
 .cases hr
end
structure Ctx3{ι:Type}(P:GB)(w:GD)(K:Qa)(mg:Str->Option G5)(base:Heap)(k:Nat)(X:ι->Cx):Prop where
 hP:∀i,(X i).prog=P
 hw:∀i,(X i).w=w
 hK:∀i,(X i).K=K
 hmg:∀i,(X i).mg=mg
 hb:∀i,(X i).base=base
 calm:∀i,(X i).calm=true
 room:∀i,Room k (X i).A
 xe:∀i,(X i).xe=λ_ _=>False
def E3{ι κ:Type}(K:Qa)(X:ι->Cx)(O:κ->Ob)(e:Expr)(f:DE):Prop:=∃t,(∀i,PE (X i) e t)/\∀j,ED K (O j) t f
def T3{ι κ:Type}(K:Qa)(X:ι->Cx)(O:κ->Ob)(e:Expr)(f:DT):Prop:=∃t,(∀i,PT (X i) e t)/\∀j,TD K (O j) t f
def W3{ι κ:Type}(K:Qa)(X:ι->Cx)(O:κ->Ob)(e:Expr)(f:DT):Prop:=∃t,(∀i,PW (X i) e t)/\∀j,TD K (O j) t f
def A3{ι κ:Type}(K:Qa)(X:ι->Cx)(O:κ->Ob)(es:List Expr)(f:DA):Prop:=∃t,(∀i,PA (X i) es t)/\∀j,AD K (O j) t f
def I3{ι κ:Type}(K:Qa)(X:ι->Cx)(O:κ->Ob)(tg e:Expr)(f:DI):Prop:=∃t,(∀i,PI (X i) tg e t)/\∀j,SrcS K (O j) t f
def J3{ι κ:Type}(K:Qa)(X:ι->Cx)(O:κ->Ob)(tg e:Expr)(f:DJ):Prop:=∃t,(∀i,PI (X i) tg e t)/\∀j,SrcR K (O j) t f
def S3{ι κ:Type}(K:Qa)(X:ι->Cx)(O:κ->Ob)(s:Stmt)(g:DS):Prop:=∃t,(∀i,PS (X i) s t)/\∀j,SD K (O j) t g
def Ss3{ι κ:Type}(K:Qa)(X:ι->Cx)(O:κ->Ob)(s:List Stmt)(g:DS):Prop:=∃t,(∀i,PSs (X i) s t)/\∀j,SD K (O j) t g
def O3{ι κ:Type}(K:Qa)(X:ι->Cx)(O:κ->Ob)(e:Option Expr)(f:DO):Prop:=∃t,(∀i,PO (X i) e t)/\∀j,OD K (O j) t f
def G3{ι:Type}(K:Qa)(X:ι->Cx)(h:Nat)(tg:Expr)(g:DG):Prop:=∃t,(∀i,PG (X i) tg t)/\(∀O:Ob,GS K O t g)/\(∀O:Ob,GR K O t g)/\OwnG h t
section
variable {ι κ:Type}{P:GB}{w:GD}{K:Qa}{mg:Str->Option G5}{base:Heap}{k:Nat}{X:ι->Cx}{O:κ->Ob}{a b c:Expr}{fa fb fc:DE}{pos:Pos}
theorem zac(n:Nat)(hN:∀i,(X i).N[n]? = some x:=by intro i;rfl)(hv:∀i,Vis (X i).env.scope x:=by intro i;first|exact Or.inl rfl|exact Or.inr (Or.inl rfl)|exact Or.inr (Or.inr rfl))
 (hd:(x == ("__debug__" : Str))=false:=by decide) (hcd:(x == ("__classdict__" : Str))=false:=by decide):E3 K X O (.Name x pos) (vD n):=⟨_,λi=>zaf (hN i) (hv i) hd hcd,λj=>z3r⟩
theorem zbb{n:Int}{j:Nat}:E3 K X O (.Constant (.int n) j pos) (cD (.int n)):=⟨_,λi=>zau,λj=>z1q⟩
theorem zqb{j:Nat}:E3 K X O (.Constant (.str x) j pos) (cD (.str x)):=⟨_,λi=>zbs,λj=>z1h⟩
theorem e_bl{x:Bool}{j:Nat}:E3 K X O (.Constant (.bool x) j pos) (cD (.bool x)):=⟨_,λi=>z5l,λj=>z4s⟩
theorem zwz{j:Nat}:E3 K X O (.Constant .none j pos) (cD .none):=⟨_,λi=>z2e,λj=>z0s⟩
theorem e_op(ho:∀i,OpR (X i) (Tw op) r)(hd:∀j,OpD K (O j) r F)(ha:E3 K X O a fa)(hb:E3 K X O b fb):E3 K X O (.BinOp a op b pos) (opDE F fa fb) :=
 let ⟨_,p1,d1⟩:=ha;let ⟨_,p2,d2⟩:=hb;⟨_,λi=>za4 (ho i) (p1 i) (p2 i),λj=>zlu (hd j) (d1 j) (d2 j)⟩
theorem zg5(C:Ctx3 P w K mg base k X)(ha:E3 K X O a fa)(hb:E3 K X O b fb):E3 K X O (.BinOp a .Add b pos) (opDE (fn2 addF) fa fb):=e_op (λi=>by have h:=zyw (X:=X i);rw[C.hK] at h;exact h) (λ_=>zzn) ha hb
theorem z6c(ho:∀i,OpR (X i) (GP op) r)(hd:∀j,OpD K (O j) r F)(ha:E3 K X O a fa)(hb:E3 K X O b fb)(hm:Tq op b=false):E3 K X O (.Compare a [op] [b] pos) (opDE F fa fb) :=
 let ⟨_,p1,d1⟩:=ha;let ⟨_,p2,d2⟩:=hb;⟨_,λi=>zz7 (ho i) (p1 i) (p2 i) hm,λj=>zlu (hd j) (d1 j) (d2 j)⟩
theorem zio(ho:∀i,OpR (X i) (GP op) r)(hd:∀j,OpD K (O j) r F)(ha:E3 K X O a fa)(hb:E3 K X O b fb)(hm:Tq op b=false):T3 K X O (.Compare a [op] [b] pos) (bD (opDE F fa fb)) :=
 let ⟨_,p1,d1⟩:=ha;let ⟨_,p2,d2⟩:=hb;⟨_,λi=>ze7 (ho i) (p1 i) (p2 i) hm,λj=>z0n (zlu (hd j) (d1 j) (d2 j))⟩
theorem z4w(C:Ctx3 P w K mg base k X):∀i,OpR (X i) (GP .Eq) (rEqD K false):=λi=>by have h:=z1i (X:=X i) (C.room i).units;rw[C.hK] at h;exact h
theorem z4z(C:Ctx3 P w K mg base k X):∀i,OpR (X i) (GP .NotEq) (rEqD K true):=λi=>by have h:=z2a (X:=X i) (C.room i).units;rw[C.hK] at h;exact h
theorem z5u(C:Ctx3 P w K mg base k X):∀i,OpR (X i) (GP .In) (rInU K):=λi=>by have h:=z2o (X:=X i) (C.room i).units;rw[C.hK] at h;exact h
theorem zu7(C:Ctx3 P w K mg base k X):∀i,OpR (X i) (GP .NotIn) (zjv K):=λi=>by have h:=zt6 (X:=X i) (C.room i).units;rw[C.hK] at h;exact h
theorem e_in(C:Ctx3 P w K mg base k X)(ha:E3 K X O a fa)(hb:E3 K X O b fb)(hm:Tq .In b=false:=by rfl):E3 K X O (.Compare a [.In] [b] pos) (opDE (fn2 (inF false)) fa fb):=z6c (z5u C) (λ_=>z2u) ha hb hm
theorem t_eq(C:Ctx3 P w K mg base k X)(ha:E3 K X O a fa)(hb:E3 K X O b fb):T3 K X O (.Compare a [.Eq] [b] pos) (bD (opDE (fn2 (eqF false)) fa fb)):=zio (z4w C) (λ_=>zsl false) ha hb (zdc b)
theorem t_ne(C:Ctx3 P w K mg base k X)(ha:E3 K X O a fa)(hb:E3 K X O b fb):T3 K X O (.Compare a [.NotEq] [b] pos) (bD (opDE (fn2 (eqF true)) fa fb)):=zio (z4z C) (λ_=>zsl true) ha hb (zdc b)
theorem t_lt(ha:E3 K X O a fa)(hb:E3 K X O b fb):T3 K X O (.Compare a [.Lt] [b] pos) (bD (opDE (fn2 (intF λi j=>.bool (decide (i<j)))) fa fb)):=zio (λi=>z4i) (λ_=>z4f) ha hb (zdc b)
theorem t_le(ha:E3 K X O a fa)(hb:E3 K X O b fb):T3 K X O (.Compare a [.LtE] [b] pos) (bD (opDE (fn2 (intF λi j=>.bool (decide (i<=j)))) fa fb)):=zio (λi=>z5p) (λ_=>z1s) ha hb (zdc b)
theorem zpp(C:Ctx3 P w K mg base k X)(ha:E3 K X O a fa)(hb:E3 K X O b fb)(hm:Tq .NotIn b=false:=by rfl):T3 K X O (.Compare a [.NotIn] [b] pos) (bD (opDE (fn2 (inF true)) fa fb)):=zio (zu7 C) (λ_=>zrq) ha hb hm
variable {ft fu:DT}{rest:List Expr}
theorem zei(ha:E3 K X O a fa)(he:∀i whole,isTrue a (X i).env whole=(do let v <- whole;standAt a.pos;holding [v] (truthy v)):=by intro _ _;rfl):T3 K X O a (bD fa):=let ⟨_,p,d⟩:=ha;⟨_,λi=>z3u (p i) (he i),λj=>zzv (d j)⟩
theorem zqu(h:T3 K X O a ft):T3 K X O (.UnaryOp .Not a pos) (notT ft):=let ⟨_,p,d⟩:=h;⟨_,λi=>z4c (p i),λj=>z1k (d j)⟩
theorem zry(h:T3 K X O a ft):W3 K X O (.BoolOp .And [a] pos) ft:=let ⟨_,p,d⟩:=h;⟨_,λi=>zox (p i),d⟩
theorem z4y(h:T3 K X O a ft):W3 K X O (.BoolOp .Or [a] pos) ft:=let ⟨_,p,d⟩:=h;⟨_,λi=>z1o (p i),d⟩
theorem zwu(h:T3 K X O a ft)(h':W3 K X O (.BoolOp .And (b::rest) pos) fu):W3 K X O (.BoolOp .And (a::b::rest) pos) (andT ft fu):=let ⟨_,p,d⟩:=h;let ⟨_,p2,d2⟩:=h';⟨_,λi=>zsv (p i) (p2 i),λj=>z2i (d j) (d2 j)⟩
theorem w_or(h:T3 K X O a ft)(h':W3 K X O (.BoolOp .Or (b::rest) pos) fu):W3 K X O (.BoolOp .Or (a::b::rest) pos) (orT ft fu):=let ⟨_,p,d⟩:=h;let ⟨_,p2,d2⟩:=h';⟨_,λi=>z5n (p i) (p2 i),λj=>z4j (d j) (d2 j)⟩
theorem t_w(h:W3 K X O a ft):T3 K X O a ft:=let ⟨_,p,d⟩:=h;⟨_,λi=>(p i).pt,d⟩
variable {es:List Expr}{ga:DA}
theorem zai:A3 K X O [] aNil:=⟨_,λi=>zbf,λj=>z2k⟩
theorem zae(ha:E3 K X O a fa)(hr:A3 K X O es ga)(hs:∀i,GC (a::es) (X i).env=(false,eval a (X i).env)::GC es (X i).env:=by intro i;rfl):A3 K X O (a::es) (zp5 fa ga):=let ⟨_,p,d⟩:=ha;let ⟨_,p2,d2⟩:=hr;⟨_,λi=>zaq (p i) (p2 i) (hs i),λj=>zyd (d j) (d2 j)⟩
theorem zjk{n:Nat}(h:A3 K X O es ga):E3 K X O (.Tuple es n pos) (tupD ga):=let ⟨_,p,d⟩:=h;⟨_,λi=>z3v (p i),λj=>z0j (d j)⟩
theorem zc5(h:A3 K X O es ga):E3 K X O (.List es pos) (lstD ga):=let ⟨_,p,d⟩:=h;⟨_,λi=>zst (p i),λj=>z3f (d j)⟩
theorem zb8(C:Ctx3 P w K mg base k X)(ha:E3 K X O a fa)(hb:E3 K X O b fb)(hs:zdz b:=by intro _ _;rfl):E3 K X O (.Subscript a b pos) (opDE (fn2 idxF) fa fb) :=
 let ⟨_,p1,d1⟩:=ha;let ⟨_,p2,d2⟩:=hb;⟨tOp (rIx K) _ _,λi=>by have h:=zi7 (pos:=pos) (zgc (X:=X i)) (p1 i) (p2 i) hs;rw[C.hK] at h;exact h,λj=>zlu zzq (d1 j) (d2 j)⟩
theorem z0m:O3 K X O none noO:=⟨_,λi=>zyi,λj=>zzw⟩
theorem z1t(ha:E3 K X O a fa):O3 K X O (some a) (zw7 fa):=let ⟨_,p,d⟩:=ha;⟨_,λi=>zjw (p i),λj=>zyn (d j)⟩
theorem zy6(C:Ctx3 P w K mg base k X){lo hi:Option Expr}{fl fh:DO}{p2:Pos}(ha:E3 K X O a fa)(hl:O3 K X O lo fl)(hh:O3 K X O hi fh):E3 K X O (.Subscript a (.Slice lo hi none p2) pos) (slD fa fl fh) :=
 let ⟨_,p1,d1⟩:=ha;let ⟨_,q2,d2⟩:=hl;let ⟨_,q3,d3⟩:=hh;⟨tSl (rSl K) _ _ _,λi=>by have h:=zme (pos:=pos) (p2:=p2) (z3g (X:=X i)) (p1 i) (q2 i) (q3 i);rw[C.hK] at h;exact h,λj=>zu9 (d1 j) (d2 j) (d3 j)⟩
theorem zl4{x:Str}{id:String}{r:List V->Hp->VK->Prop}{F:List G7->(R->Prop)->Prop}{p:Pos}(C:Ctx3 P w K mg base k X)(hc:∀i,zcg (X i) (.builtin id) r)(hd:∀j,zeg K (O j) r F)(hv:GO x=some (.builtin id))(hm:mg x=none)(ha:A3 K X O (a::es) ga)
 (hg:∀i,Gl (X i) x:=by intro i;rfl) (hn:x ≠ "__name__" := by decide) (hdb:(x == ("__debug__" : Str))=false:=by decide) (he:∀i,GC (a::es) (X i).env=(false,eval a (X i).env)::GC es (X i).env:=by intro i;rfl) (hpl:∀i,(Tk pos (GC es (X i).env)).any (·.1)=false:=by intro i;rfl) :
 E3 K X O (.Call (.Name x p) (a::es) [] pos) (zcv F ga):=let ⟨_,q,d⟩:=ha;⟨_,λi=>zd9 (hc i) (hg i) (by rw[C.hmg];exact hm) hv (q i) hn hdb (he i) (hpl i),λj=>zm3 (hd j) (d j)⟩
theorem z4x(C:Ctx3 P w K mg base k X)(hc:∀i,zcg (X i) (.type T) r)(hd:∀j,zeg K (O j) r F)(hv:GO x=some (.type T))(hm:mg x=none)(ha:A3 K X O (a::es) ga)
 (hg:∀i,Gl (X i) x:=by intro i;rfl) (hn:x ≠ "__name__" := by decide) (hdb:(x == ("__debug__" : Str))=false:=by decide) (he:∀i,GC (a::es) (X i).env=(false,eval a (X i).env)::GC es (X i).env:=by intro i;rfl) (hpl:∀i,(Tk pos (GC es (X i).env)).any (·.1)=false:=by intro i;rfl) :
 E3 K X O (.Call (.Name x p) (a::es) [] pos) (zcv F ga):=let ⟨_,q,d⟩:=ha;⟨_,λi=>zlg (hc i) (hg i) (by rw[C.hmg];exact hm) hv (q i) hn hdb (he i) (hpl i),λj=>zm3 (hd j) (d j)⟩
end
theorem zms:GO "len" = some (.builtin "len"):=by decide +kernel
theorem z0p:GO "all" = some (.builtin "all"):=by decide +kernel
theorem zdd:GO "sorted" = some (.builtin "sorted"):=by decide +kernel
theorem zx2:GO "repr" = some (.builtin "repr"):=by decide +kernel
theorem zya:GO "list" = some (.type "list"):=by decide +kernel
theorem zut:GO "tuple" = some (.type "tuple"):=by decide +kernel
structure Blt(mg:Str->Option G5):Prop where
 len:mg "len" = none
 all:mg "all" = none
 any:mg "any" = none
 sorted:mg "sorted" = none
 min:mg "min" = none
 max:mg "max" = none
 repr:mg "repr" = none
 int:mg "int" = none
 list:mg "list" = none
 tuple:mg "tuple" = none
 range:mg "range" = none
 set:mg "set" = none
 isinstance:mg "isinstance" = none
 enumerate:mg "enumerate" = none
 zip:mg "zip" = none
 reversed:mg "reversed" = none
 str:mg "str" = none
 sum:mg "sum" = none
 dict:mg "dict" = none
 bool:mg "bool" = none
structure Def3(P:GB)(w:GD)(K:Qa)(mg:Str->Option G5)(base:Heap)(k:Nat)(x:Str)(ps:List Str)(sp:Sp):Prop where
 ex:∃f fd,FnOk P w K mg base CX0 k f fd ps sp/\mg x=some (.ref f)/\Jn K (.ref f)=true/\Binds K fd ps []
structure Top3(K:Qa)(mg:Str->Option G5)(x:Str)(st:Stmt):Prop where
 ex:∃f fd,Fun K x x st f fd/\mg x=some (.ref f)
structure CIx where
 C:Addr
 s:G8
 H:Hp
 ex:List Addr
def zf0{ι:Type}(X:ι->Cx)(scope:GV)(N':List Str):ι×CIx->Cx:=λp=>zbv (X p.1) scope N' p.2.C p.2.s p.2.H p.2.ex
def zp1{κ:Type}(O:κ->Ob):{ p:κ×(Addr×List V) // ¬(O p.1).M p.2.1 }->Ob:=λp=>(O p.1.1).plus p.1.2.1 (.lst p.1.2.2)
def F3{ι κ:Type}(K:Qa)(X:ι->Cx)(O:κ->Ob)(ifs:List Expr)(f:DT):Prop:=∃t,(∀i,PF (X i) ifs t)/\∀j,TD K (O j) t f
def yesD:DT:=λ_ Q=>Q true
section
variable {ι κ:Type}{P:GB}{w:GD}{K:Qa}{mg:Str->Option G5}{base:Heap}{k:Nat}{X:ι->Cx}{O:κ->Ob}{a b c tg:Expr}{fa fb fc:DE}{pos p:Pos}{es:List Expr}{ga:DA}
theorem Ctx3.comp(C:Ctx3 P w K mg base k X)(scope:GV)(N':List Str):Ctx3 P w K mg base k (zf0 X scope N'):=⟨λi=>C.hP i.1,λi=>C.hw i.1,λi=>C.hK i.1,λi=>C.hmg i.1,λi=>C.hb i.1,λi=>C.calm i.1,λi=>C.room i.1,λ_=>rfl⟩
theorem zjn(C:Ctx3 P w K mg base k X)(B:Blt mg)(ha:A3 K X O [a] ga)(hg:∀i,Gl (X i) "len" := by intro i;rfl)(he:∀i,GC [a] (X i).env=(false,eval a (X i).env)::GC [] (X i).env:=by intro i;rfl):E3 K X O (.Call (.Name "len" p) [a] [] pos) (zcv (fn1 lenF) ga) :=
 zl4 C (λi=>by have h:=zhq (X:=X i);rw[C.hK] at h;exact h) (λ_=>z2t) zms B.len ha hg (by decide) (by decide) he
theorem zw0(C:Ctx3 P w K mg base k X)(B:Blt mg)(ha:A3 K X O [a] ga)(hg:∀i,Gl (X i) "all" := by intro i;rfl)(he:∀i,GC [a] (X i).env=(false,eval a (X i).env)::GC [] (X i).env:=by intro i;rfl):E3 K X O (.Call (.Name "all" p) [a] [] pos) (zcv (allD false) ga) :=
 zl4 C (λi=>zsu (C.calm i)) (λ_=>z1f false) z0p B.all ha hg (by decide) (by decide) he
theorem ztp(C:Ctx3 P w K mg base k X)(B:Blt mg)(ha:A3 K X O [a] ga)(hg:∀i,Gl (X i) "repr" := by intro i;rfl)(he:∀i,GC [a] (X i).env=(false,eval a (X i).env)::GC [] (X i).env:=by intro i;rfl):E3 K X O (.Call (.Name "repr" p) [a] [] pos) (zcv (fn1 zft) ga) :=
 zl4 C (λi=>by have h:=zrf (X:=X i) (C.room i).gd (C.room i).units;rw[C.hK] at h;exact h) (λ_=>zy1) zx2 B.repr ha hg (by decide) (by decide) he
theorem zfq(C:Ctx3 P w K mg base k X)(B:Blt mg)(ha:A3 K X O [a] ga)(hg:∀i,Gl (X i) "tuple" := by intro i;rfl)(he:∀i,GC [a] (X i).env=(false,eval a (X i).env)::GC [] (X i).env:=by intro i;rfl):E3 K X O (.Call (.Name "tuple" p) [a] [] pos) (zcv (fn1 tupF) ga) :=
 z4x C (λi=>by have h:=zls (X:=X i);rw[C.hK] at h;exact h) (λ_=>zwb) zut B.tuple ha hg (by decide) (by decide) he
theorem zd0{k' n:Nat}(C:Ctx3 P w K mg base k X)(D:Def3 P w K mg base k' x ps (spO K φ n F))(hφ:∀j,φ (O j))(ha:A3 K X O (a::es) ga)(hk:k'<=k:=by decide)(hg:∀i,Gl (X i) x:=by intro i;rfl)
 (hdb:(x == ("__debug__" : Str))=false:=by decide) (he:∀i,GC (a::es) (X i).env=(false,eval a (X i).env)::GC es (X i).env:=by intro i;rfl) (hpl:∀i,(Tk pos (GC es (X i).env)).any (·.1)=false:=by intro i;rfl):E3 K X O (.Call (.Name x p) (a::es) [] pos) (calD n F ga):=by
 obtain⟨f,fd,G,m,kp,bn⟩:=D.ex;obtain⟨t,q,d⟩:=ha;refine⟨zct (spO K φ n F) [] E0 t,λi=>?_,λj=>zy9 (hφ j) (d j)⟩;have G':FnOk (X i).prog (X i).w (X i).K (X i).mg (X i).base CX0 k f fd ps (spO K φ n F):=by rw[C.hP,C.hw,C.hK,C.hmg,C.hb];exact G.mono hk
 exact zdw G' (C.room i) (hg i) (by rw[C.hmg];exact m) (by rw[C.hK];exact kp) (by rw[C.hK];exact bn) .nil zg1 (q i) hdb (he i) (hpl i)
theorem zb1{k' n:Nat}(v:Nat)(C:Ctx3 P w K mg base k X)(D:Def3 P w K mg base k' x ps (spD K φ n F))(hφ:∀j,φ (O j))(ha:A3 K X O es ga)(hk:k'<=k:=by decide)(hg:∀i,Gl (X i) x:=by intro i;rfl)
 (hN:∀i,(X i).N[v]? = some y:=by intro i;rfl) (hv:∀i,Vis (X i).env.scope y:=by intro i;first|exact Or.inl rfl|exact Or.inr (Or.inl rfl)|exact Or.inr (Or.inr rfl)) (hd:(y == ("__debug__" : Str))=false:=by decide) (hcd:(y == ("__classdict__" : Str))=false:=by decide)
 (hdb:(x == ("__debug__" : Str))=false:=by decide) (he:∀i,GC (.Name y py::es) (X i).env=(false,eval (.Name y py) (X i).env)::GC es (X i).env:=by intro i;rfl) (hpl:∀i,(Tk pos (GC es (X i).env)).any (·.1)=false:=by intro i;rfl) :
 E3 K X O (.Call (.Name x p) (.Name y py::es) [] pos) (calO v n F ga):=by
 obtain⟨f,fd,G,m,kp,bn⟩:=D.ex;obtain⟨t,q,d⟩:=ha;refine⟨zct (spD K φ n F) [] E0 (zao (tVar v) t),λi=>?_,λj=>zwj (hφ j) (d j)⟩;have G':FnOk (X i).prog (X i).w (X i).K (X i).mg (X i).base CX0 k f fd ps (spD K φ n F):=by rw[C.hP,C.hw,C.hK,C.hmg,C.hb];exact G.mono hk
 exact zdw G' (C.room i) (hg i) (by rw[C.hmg];exact m) (by rw[C.hK];exact kp) (by rw[C.hK];exact bn) .nil zg1 (zaq (zaf (hN i) (hv i) hd hcd) (q i) (he i)) hdb (he i) (hpl i)
theorem zcb(C:Ctx3 P w K mg base k X)(ha:E3 K X O a fa):I3 K X O tg a (srcL fa):=let ⟨_,p,d⟩:=ha;⟨zb0 K _,λi=>by have h:=zcz (tg:=tg) (p i);rw[C.hK] at h;exact h,λj=>zho (d j)⟩
theorem zek(C:Ctx3 P w K mg base k X)(ha:E3 K X O a fa):I3 K X O tg a (srcT fa):=let ⟨_,p,d⟩:=ha;⟨iTup K _,λi=>by have h:=z1w (tg:=tg) (p i);rw[C.hK] at h;exact h,λj=>zy4 (d j)⟩
theorem i_r1(C:Ctx3 P w K mg base k X)(B:Blt mg)(ha:A3 K X O [a] ga)(hg:∀i,Gl (X i) "range" := by intro i;rfl)(hs:∀i,GC [a] (X i).env = [(false,eval a (X i).env)]:=by intro i;rfl):I3 K X O tg (.Call (.Name "range" p) [a] [] pos) (zxc ga) :=
 let ⟨_,q,d⟩:=ha;⟨_,λi=>zk3 (hg i) (by rw[C.hmg];exact B.range) (q i) (hs i),λj=>zwi (d j)⟩
theorem zc7(h:I3 K X O tg a fi):J3 K X O tg a (newJ fi):=let ⟨_,p,d⟩:=h;⟨_,p,λj=>zj9 (d j)⟩
theorem zw4(C:Ctx3 P w K mg base k X)(n:Nat)(hN:∀i,(X i).N[n]? = some x:=by intro i;rfl)(hv:∀i,Vis (X i).env.scope x:=by intro i;first|exact Or.inl rfl|exact Or.inr (Or.inl rfl)|exact Or.inr (Or.inr rfl))(hd:(x == ("__debug__" : Str))=false:=by decide)(hcd:(x == ("__classdict__" : Str))=false:=by decide):
 J3 K X O tg (.Name x pos) (varJ n):=⟨zb0 K (tVar n),λi=>by have h:=zcz (tg:=tg) (X:=X i) (zaf (pos:=pos) (hN i) (hv i) hd hcd);rw[C.hK] at h;exact h,λj=>zwc⟩
theorem zaw{h:Nat}(n:Nat)(hlt:n<h:=by decide)(hN:∀i,(X i).N.Nodup:=by intro i;exact NF (by kernel_rfl))(hi:∀i,(X i).N[n]? = some x:=by intro i;rfl)(hx:∀i,Loc (X i).env.scope x:=by intro i;first|exact Or.inl rfl|exact Or.inr rfl)
 (hf:∀i,(X i).fn x=true\/(X i).env.scope.names.lookup x=some .local:=by intro i;first|exact .inl rfl|exact .inr rfl):G3 K X h (.Name x pos) (gN n):=⟨_,λi=>zdu (hN i) (hi i) (hx i) (hf i),λ_=>zz3,λ_=>zyu,zd4 hlt⟩
def Gs3{ι:Type}(K:Qa)(X:ι->Cx)(h:Nat)(es:List Expr)(is:List Nat):Prop:=∃t,(∀i,PGs (X i) es t)/\(∀O:Ob,GSs K O t is)/\(∀O:Ob,GRs K O t is)/\zi0 h t/\zi6 t
theorem zf8{h:Nat}:Gs3 K X h [] []:=⟨_,λi=>zy0,λ_=>zyy,λ_=>zyx,zz4,zyf⟩
theorem zb2{h:Nat}{is:List Nat}(n:Nat)(hr:Gs3 K X h es is)(hlt:n<h:=by decide)(hN:∀i,(X i).N.Nodup:=by intro i;exact NF (by kernel_rfl))(hi:∀i,(X i).N[n]? = some x:=by intro i;rfl)(hx:∀i,Loc (X i).env.scope x:=by intro i;first|exact Or.inl rfl|exact Or.inr rfl)
 (hf:∀i,(X i).fn x=true\/(X i).env.scope.names.lookup x=some .local:=by intro i;first|exact .inl rfl|exact .inr rfl) (hs:∀i,(TM (.Name x pos::es) (X i).env).map (·.2)=Nn (.Name x pos) (X i).env::(TM es (X i).env).map (·.2):=by intro i;rfl):Gs3 K X h (.Name x pos::es) (n::is) :=
 let ⟨_,p,d1,d2,o,m⟩:=hr;⟨_,λi=>zvn (zdu (hN i) (hi i) (hx i) (hf i)) (p i) (hs i),λO=>zvx (d1 O),λO=>zvk (d2 O),zv4 znu m (zd4 hlt) o,zwm znu m⟩
theorem zjb{h n:Nat}{is:List Nat}{j:Nat}(C:Ctx3 P w K mg base k X)(hr:Gs3 K X h es is)(hn:is.length=n:=by rfl)(hn2:∀i,(TM es (X i).env).length=n:=by intro i;rfl)(hst:∀i,(TM es (X i).env).findIdx? (·.1)=none:=by intro i;rfl):G3 K X h (.Tuple es j pos) (gT is) :=
 let ⟨_,p,d1,d2,o,m⟩:=hr;⟨_,λi=>by have z:=z1u (pos:=pos) (k:=j) (C.calm i) (p i) (hn2 i) (hst i);rw[C.hK] at z;exact z,λO=>z1m hn (d1 O),λO=>z1g hn (d2 O),z0a o⟩
theorem zhf: F3 K X O' [] yesD:=⟨_,λi=>zgi,λj σ H ρ Q Qd S h k=>k true H (.refl _ _) h⟩
theorem ziu(h:T3 K X O c ft):F3 K X O [c] ft:=let ⟨_,p,d⟩:=h;⟨_,λi=>zse (p i),d⟩
theorem zb7{iter:Expr}{scope:GV}(h:Nat)(N':List Str)(C:Ctx3 P w K mg base k X)(S:∀i,ScopeOk h N' (X i).N scope (X i).env.scope)(hs:I3 K X O tg iter fi)
 (hg:G3 K (zf0 X scope N') h tg g) (hf:F3 K (zf0 X scope N') (zp1 O) ifs ft) (he:E3 K (zf0 X scope N') (zp1 O) elt fe) (hset:∀i x,Te iter (X i).env x=pure x:=by intro _ _;rfl) :
 E3 K X O (.ListComp elt [⟨tg,iter,ifs,0⟩] scope pos) (zqq h fi g ft fe):=by
 obtain⟨ti,p1,d1⟩:=hs;obtain⟨tg',p2,d2,_,ow⟩:=hg;obtain⟨tf,p3,d3⟩:=hf;obtain⟨te,p4,d4⟩:=he;exact⟨_,λi=>zj1 h (S i) (C.calm i) (p1 i) (λc s H ex=>p2 (i,⟨c,s,H,ex⟩)) ow (λc s H ex=>p3 (i,⟨c,s,H,ex⟩)) (λc s H ex=>p4 (i,⟨c,s,H,ex⟩)) (hset i),λj=>zxr (d1 j) d2 (λD xs nm=>d3 ⟨(j,(D,xs)),nm⟩) λD xs nm=>d4 ⟨(j,(D,xs)),nm⟩⟩
variable {st:Stmt}{sts:List Stmt}{g1 g2:DS}{ft:DT}
theorem ze1:Ss3 K X O [] (λDd ρ=>Dd.nx ρ):=⟨_,λi=>zo0,λj=>zxs⟩
theorem zal(h:S3 K X O st g1):Ss3 K X O [st] g1:=let ⟨_,p,d⟩:=h;⟨_,λi=>zcm (p i),d⟩
theorem zah(h:S3 K X O st g1)(h':Ss3 K X O sts g2):Ss3 K X O (st::sts) (seqD g1 g2):=let ⟨_,p,d⟩:=h;let ⟨_,p2,d2⟩:=h';⟨_,λi=>za7 (p i) (p2 i),λj=>z1l (d j) (d2 j)⟩
theorem zcd(ha:E3 K X O a fa):S3 K X O (.Return (some a) pos) (retS fa):=let ⟨_,p,d⟩:=ha;⟨_,λi=>zd7 (p i),λj=>z0u (d j)⟩
theorem z3e(n:Nat)(hN:∀i,(X i).N[n]? = some x:=by intro i;rfl)(hv:∀i,Vis (X i).env.scope x:=by intro i;first|exact Or.inl rfl|exact Or.inr (Or.inl rfl)|exact Or.inr (Or.inr rfl))(hd:(x == ("__debug__" : Str))=false:=by decide)(hcd:(x == ("__classdict__" : Str))=false:=by decide):
 S3 K X O (.Return (some (.Name x px)) pos) (retO n):=⟨_,λi=>zd7 (zaf (hN i) (hv i) hd hcd),λj=>zul⟩
theorem s_if(hc:T3 K X O c ft)(h:Ss3 K X O sa g1)(h':Ss3 K X O sb g2):S3 K X O (.If c sa sb pos) (ifS ft g1 g2):=let ⟨_,p,d⟩:=hc;let ⟨_,p1,d1⟩:=h;let ⟨_,p2,d2⟩:=h';⟨_,λi=>zxd (p i) (p1 i) (p2 i),λj=>z5d (d j) (d1 j) (d2 j)⟩
theorem zba(n:Nat)(ha:E3 K X O a fa)(hN:∀i,(X i).N.Nodup:=by intro i;exact NF (by kernel_rfl))(hi:∀i,(X i).N[n]? = some x:=by intro i;rfl)(hx:∀i,Loc (X i).env.scope x:=by intro i;first|exact Or.inl rfl|exact Or.inr rfl)
 (hs:∀i,Tj a (some (.Name x px)) pos.line (X i).env=pure false:=by intro i;rfl) (hf:∀i,(X i).fn x=true\/(X i).env.scope.names.lookup x=some .local:=by intro i;first|exact .inl rfl|exact .inr rfl):S3 K X O (.Assign [.Name x px] a pos) (asgS n fa) :=
 let ⟨_,p,d⟩:=ha;⟨_,λi=>zb6 (hN i) (hi i) (hx i) (p i) (hs i) (hf i),λj=>z2z (d j)⟩
theorem zin{X:Cx}:MtR X "list.append" zds:=λpins s σ H x xs v us Q I rx rv h=>zku pins s σ H x xs v us Q I rx rv h
theorem zhd(n:Nat){apos cpos:Pos}(C:Ctx3 P w K mg base k X)(hb:E3 K X O b fb)(hN:∀i,(X i).N[n]? = some x:=by intro i;rfl)(hv:∀i,Vis (X i).env.scope x:=by intro i;first|exact Or.inl rfl|exact Or.inr (Or.inl rfl)|exact Or.inr (Or.inr rfl))(hd:(x == ("__debug__" : Str))=false:=by decide)(hcd:(x == ("__classdict__" : Str))=false:=by decide)
 (hbase:∀i,TV (.Name x px) "append" (X i).env (eval (.Name x px) (X i).env)=eval (.Name x px) (X i).env:=by intro i;rfl)
 (hfew:∀i,((Tk cpos (GC [b] (X i).env)).all (λx=>!x.1) && (Nj cpos (M1 [] (X i).env)).all (λx=>x.1.isSome) && decide (([b]:List Expr).length+([]:List Mp).length+(if([]:List Mp).isEmpty then 0 else 1)<30))=true:=by intro i;rfl)
 (hline:(apos.endLine == cpos.line)=true:=by rfl) (hs:∀i,GC [b] (X i).env = [(false,eval b (X i).env)]:=by intro i;rfl) (hsw:∀i,Tj (.Call (.Attribute (.Name x px) "append" apos) [b] [] cpos) none pos.line (X i).env=pure false:=by intro i;rfl) :
 S3 K X O (.Expr (.Call (.Attribute (.Name x px) "append" apos) [b] [] cpos) pos) (appS n fb):=let ⟨_,p2,d2⟩:=hb;
 ⟨zdp (tBM K "list" zds (tVar n) (zao _ tNil)),λi=>by
  have h:=zi1 (apos:=apos) (cpos:=cpos) ZT Vp Vq (zin (X:=X i)) (zaf (pos:=px) (hN i) (hv i) hd hcd) (zaq (p2 i) zbf (hs i)) (hbase i) (hfew i) hline (hs i);rw[C.hK] at h
  exact zg6 h (hsw i),λj=>zts (d2 j)⟩
theorem zgp{X:Cx}(h:X.xe=λ_ _=>False):PassesOwn (model X.prog X.w) X.A X.env X.xe:=by rw[h];exact VD
theorem zb3{iter:Expr}{body:List Stmt}{hh:Nat}(C:Ctx3 P w K mg base k X)(hi:J3 K X O tg iter fj)(hg:G3 K X hh tg g)(hb:Ss3 K X O body g1)(hs:∀i x,Te iter (X i).env x=pure x:=by intro _ _;rfl):S3 K X O (.For tg iter body [] pos) (forS fj g g1):=by
 obtain⟨ti,p1,d1⟩:=hi;obtain⟨tg',p2,_,d2,_⟩:=hg;obtain⟨tb,p3,d3⟩:=hb;exact⟨_,λi=>zr1 (zgp (C.xe i)) (C.calm i) (p1 i) (p2 i) (p3 i) (hs i),λj=>z0v (d1 j) (d2 (O j)) (d3 j)⟩
theorem zj7{body:List Stmt}(C:Ctx3 P w K mg base k X)(hc:T3 K X O c ft)(hb:Ss3 K X O body g1):S3 K X O (.While c body [] pos) (zsm ft g1):=let ⟨_,p,d⟩:=hc;let ⟨_,p2,d2⟩:=hb;⟨_,λi=>znd (zgp (C.xe i)) (p i) (p2 i),λj=>zvc (d j) (d2 j)⟩
end
theorem len1(hl:us.length=1)(h:∀u0,Tn fd ⟨[u0],[]⟩=pure ([p0].zip [u0])):Tn fd ⟨us,[]⟩=pure ([p0].zip us):=by
 match us,hl with
 | [u0],_=>exact h u0
theorem len2(hl:us.length=2)(h:∀u0 u1,Tn fd ⟨[u0,u1],[]⟩=pure ([p0,p1].zip [u0,u1])):Tn fd ⟨us,[]⟩=pure ([p0,p1].zip us):=by
 match us,hl with
 | [u0,u1],_=>exact h u0 u1
theorem len3(hl:us.length=3)(h:∀u0 u1 u2,Tn fd ⟨[u0,u1,u2],[]⟩=pure ([p0,p1,p2].zip [u0,u1,u2])):Tn fd ⟨us,[]⟩=pure ([p0,p1,p2].zip us):=by
 match us,hl with
 | [u0,u1,u2],_=>exact h u0 u1 u2
section
variable {P:GB}{w:GD}{K:Qa}{mg:Str->Option G5}{base:Heap}{k n:Nat}{x:Str}{st:Stmt}{N ps:List Str}{φ:Ob->Prop}{F:List G7->(R->Prop)->Prop}
abbrev za3(P:GB)(w:GD)(K:Qa)(mg:Str->Option G5)(base:Heap)(N:List Str)(x:Str)(sc:GV)(f:Addr)(cdv:G5)(A:GF)(outer:List Env)(s:G8)(H:Hp)(E:XK):Unit->Cx:=λ_=>(cxOf CX0 P w K mg base N x sc f cdv A outer s H E).nox
theorem zc3{outer:List Env}(hr:Room k (A.deeper (ME x sc s.heap.objs.size f cdv))):Ctx3 P w K mg base k (za3 P w K mg base N x sc f cdv A outer s H E) :=
 ⟨λ_=>rfl,λ_=>rfl,λ_=>rfl,λ_=>rfl,λ_=>rfl,λ_=>rfl,λ_=>hr,λ_=>rfl⟩
theorem mk_O(T:Top3 K mg x st)(S:FnScope N ps (zab st))(hb:∀(kV doc pm:G5) (an:Option Addr) (cdv ct:G5) (us:List G5),us.length=ps.length->Tn (Z2 x x (zbk st) (zan st) (zab st) .none kV doc pm an cdv ct) ⟨us,[]⟩=pure (ps.zip us))(hn:ps.length=n)
 (body:∀(f:Addr) (cdv:G5) (A:GF) (outer:List Env) (s:G8) (H:Hp) (E:XK) (O:Ob),φ O->Ctx3 P w K mg base k (za3 P w K mg base N x (zab st) f cdv A outer s H E) ->
  ∃g,Ss3 K (za3 P w K mg base N x (zab st) f cdv A outer s H E) (λ_:Unit=>O) (zan st) g/\∀ds Qr,ds.length=n->F ds Qr->g { nx:=λ_=>Qr (.o .none),rt:=Qr } (zbr N (ds.map .im))):Def3 P w K mg base (k+1) x ps (spO K φ n F):=by
 obtain⟨f,fd,Fu,m⟩:=T.ex;refine⟨f,fd,Fu.ok S (zpu hn) (λcdv A outer s H vs Q E hr h=>?_),m,Fu.kp,Fu.binds hb⟩;obtain⟨O,ds,Qr,ok,hφ,p,hl,is,q,kk⟩:=h;obtain⟨g,⟨t,h1,h2⟩,h3⟩:=body f cdv A outer s H E O hφ (zc3 hr);exact⟨t,h1 (),zw2 (h2 ()) ok p is (h3 ds Qr hl q) kk⟩
theorem mk_D(T:Top3 K mg x st)(S:FnScope N ps (zab st))(hb:∀(kV doc pm:G5) (an:Option Addr) (cdv ct:G5) (us:List G5),us.length=ps.length->Tn (Z2 x x (zbk st) (zan st) (zab st) .none kV doc pm an cdv ct) ⟨us,[]⟩=pure (ps.zip us))(hn:ps.length=n+1)
 (body:∀(f:Addr) (cdv:G5) (A:GF) (outer:List Env) (s:G8) (H:Hp) (E:XK) (O:Ob),φ O->Ctx3 P w K mg base k (za3 P w K mg base N x (zab st) f cdv A outer s H E) ->
  ∃g,Ss3 K (za3 P w K mg base N x (zab st) f cdv A outer s H E) (λ_:Unit=>O) (zan st) g/\∀ds Qr,ds.length=n->F ds Qr->g { nx:=λ_=>Qr (.o .none),rt:=Qr } (zbr N (.ob::ds.map .im))):Def3 P w K mg base (k+1) x ps (spD K φ n F):=by
 obtain⟨f,fd,Fu,m⟩:=T.ex;refine⟨f,fd,Fu.ok S (zkd hn) (λcdv A outer s H vs Q E hr h=>?_),m,Fu.kp,Fu.binds hb⟩;obtain⟨O,ds,ws,Qr,ok,hφ,p,hl,rfl,is,q,kk⟩:=h;obtain⟨g,⟨t,h1,h2⟩,h3⟩:=body f cdv A outer s H E O hφ (zc3 hr);exact⟨t,h1 (),z5c (h2 ()) ok p is (h3 ds Qr hl q) kk⟩
end
structure PotStp(a l:Addr)(H H':Hp):Prop where
 oth:∀b,b≠a->b≠l->H' b=H b
theorem PotStp.refl(a l:Addr)(H:Hp):PotStp a l H H:=⟨λ_ _ _=>rfl⟩
theorem PotStp.trans(x:PotStp a l H H1)(y:PotStp a l H1 H2):PotStp a l H H2:=⟨λb h1 h2=>(y.oth b h1 h2).trans (x.oth b h1 h2)⟩
theorem PotStp.upA(o:HO):PotStp a l H (upd H a o):=⟨λb h1 _=>zaa h1⟩
theorem PotStp.upL(o:HO):PotStp a l H (upd H l o):=⟨λb _ h2=>zaa h2⟩
abbrev lenR(K:Qa):List V->Hp->VK->Prop:=λxs H Q=>∃x n,xs = [x]/\LenV K x H n/\Q (.int n) H
def zel:List G7->(R->Prop)->Prop:=λds Q=>∃m:Int,ds = [.int m]/\0<m/\m<1073741824/\∀k,0<=k->k<m->Q (.o (.int k))
theorem zs0: MtR X "list.pop" zix:=λpins s σ H x xs v us Q I rx rv h=>zv9 pins s σ H x xs v us Q I rx rv h
theorem zwg(ns:List Int)(lo hi:Option Int):cutV (ns.map V.int) lo hi=(cutL ns lo hi).map V.int:=by
 unfold cutV cutL;rw[Qf,Vr,Ui]
def abc:List Nat:=(Q2 26).map (· + 97)
def zem(c:Nat):Prop:=97<=c/\c<123
theorem unsg:∀{zs:List Str},(∀z∈zs,∃c,z=sg c/\zem c)->∃w:List Nat,zs=w.map sg/\∀c∈w,zem c
 | [],_=>⟨[],rfl,by simp⟩
 | z::zs,h=>by
   obtain⟨c,rfl,hc⟩:=h z Qu;obtain⟨w,rfl,hw⟩:=unsg (zs:=zs) λy hy=>h y (Qe _ hy);exact⟨c::w,rfl,λd hd=>by rcases Qs.mp hd with e|e;(rw[e];exact hc);exact hw d e⟩
theorem zli{α β:Type}(f:α->β):∀(l:List α) (i:Nat),(l.map f).eraseIdx i=(l.eraseIdx i).map f
 | [],_=>rfl
 | _::_,0=>rfl
 | a::l,i+1=>by rw[Q8,Yu,Yu,Q8,zli f l i]
theorem zmp{α:Type}{l:List α}{i:Nat}{x:α}(h:x∈l.eraseIdx i):x∈l:=List.mem_of_mem_eraseIdx h
theorem zkw{α:Type}:∀{l:List α} {i:Nat} (h:i<l.length),([l[i]]++l.eraseIdx i).Perm l
 | a::l,0,_=>.refl _
 | a::l,i+1,h=>by
   have h':i<l.length:=by simpa using h
   have ih:=zkw (l:=l) (i:=i) h';show(l[i]::a::l.eraseIdx i).Perm (a::l);exact(Gm a l[i] _).trans (Gn a ih)
theorem z1e{a b:Nat}(h:sg a=sg b):a=b:=by
 have:=NK (λx:Str=>x.cps.toList) h;simpa[sg] using this
theorem zhk:∀{w:List Nat} {x:Nat},Nm (sg x) (w.map sg)=true->(∀c∈w,x<=c)/\w.Pairwise (·<=·)
 | [],_,_=>⟨λ_ h=>(nomatch h),.nil⟩
 | y::r,x,h=>by
   have h:(!(decide (y<x) || (y == x && false)) && Nm (sg y) (r.map sg))=true:=h;rw[Gi,Gq,Qy,ZO,decide_eq_false_iff_not] at h;obtain⟨h1,h2⟩:=zhk (w:=r) (x:=y) h.2;refine⟨λc hc=>?_,.cons h1 h2⟩;rcases Qs.mp hc with rfl|hc
   .lia
   .have:=h1 c hc;lia
theorem zqt:∀{w:List Nat},MI (w.map sg)=true->w.Nodup->w.Pairwise (· < ·)
 | [],_,_=>.nil
 | x::r,h,hn=>by
   obtain⟨h1,h2⟩:=zhk (w:=r) (x:=x) h;obtain⟨n1,n2⟩:=QQ.mp hn;refine .cons (λc hc=>Ut (h1 c hc) λe=>n1 (e ▸ hc)) ?_;exact(List.Pairwise.and h2 n2).imp λ⟨a,b⟩=>Ut a b
theorem zty(h:tx v=tx w):v=w:=by
 have:=NK (λx:Str=>x.cps.toList) h;simpa[tx] using this
theorem zxq{neg:Bool}{i j:Int}:eqF neg (.int i) (.int j)=some (.o (.bool (if neg then !decide (i=j) else decide (i=j)))):=by
 unfold eqF;have e:(okD (Jh i) && (Jh j).canLay0)=true:=by simp[okD,Z6,Ja]
 rw[ND e];rfl
theorem ze8{α:Type}{enc:α->G7}{i:Nat}{fe:DE}{ρ:DSt}{Q:List G7->Prop}{as:List α}{e:α->G7}{h:Nat}(step:∀a∈as,∀P:R->Prop,(∀r,r.d=e a->P r)->fe ((Qt h none++ρ).set i (some (.im (enc a)))) P)(hz:as.length<=sizeLine)(q:Q (as.map e)):
 zbu h (gN i) yesD fe ρ Q (as.map enc) []:=by
 have key:∀(as:List α) (acc:List G7),(∀a∈as,∀P:R->Prop,(∀r,r.d=e a->P r)->fe ((Qt h none++ρ).set i (some (.im (enc a)))) P)->acc.length+as.length<=sizeLine->Q (acc++as.map e)->zbu h (gN i) yesD fe ρ Q (as.map enc) acc:=by
  intro as
  induction as with
  | nil=>intro acc _ _ q;show Q acc;simpa using q
  | cons a as ih=>
    intro acc st hz q;rw[Qk] at hz;refine st a Qu _ λr hr=>?_;refine⟨by lia,?_⟩;rw[hr];exact ih (acc ++ [e a]) (λa' ha=>st a' (Qe _ ha)) (by rw[Ql];simp;lia) (by simpa using q)
 exact key as [] step (by simpa using hz) (by simpa using q)
theorem zaz(J:Nat->DSt->Prop)(h0:J 0 ρ)(fin:∀ρ,J ds.length ρ->Dd.nx ρ)
 (step:∀(j:Nat) d ρ (N:DSt->Prop),ds[j]? = some d->(∀ρ',J (j+1) ρ'->N ρ')->J j ρ->flat d=true/\g d ρ λρ2=>gb { Dd with nx:=N,ct:=N,bk:=Dd.nx } ρ2):zdm g gb Dd ds ρ:=by
 have key:∀(k j:Nat),j+k=ds.length->∀ρ,J j ρ->zdm g gb Dd (ds.drop j) ρ:=by
  intro k
  induction k with
  | zero=>
    intro j hj ρ h;rw[V3 (by lia)];have e:j=ds.length:=by lia
    rw[e] at h;exact fin ρ h
  | succ k ih=>
    intro j hj ρ h;have hlt:j<ds.length:=by lia
    rw[Zu hlt];exact step j ds[j] ρ _ (Qb hlt) (λρ' h'=>ih (j+1) (by lia) ρ' h') h
 have:=key ds.length 0 (by lia) ρ h0;simpa using this
theorem zbq(lo:Int)(n:Nat):(zfr lo n).length=n:=by simp[zfr]
theorem za9{α:Type}{f:α->G7}(h:∀a,flat (f a)=true):∀l:List α,flats (l.map f)=true
 | []=>rfl
 | a::l=>by rw[Q8,flats,h a,za9 h l];rfl
theorem zd2(w:List Nat):(tx w).length=w.length:=by simp[tx,Ur]
theorem zje(h:w.length<=16777216):lenF [.str (tx w)]=some (.o (.int w.length)):=by
 unfold lenF;dsimp only;rw[zd2,ND (by rw[GE];exact h)]
theorem zij(h:v.length+w.length<=16777216):addF (.str (tx v)) (.str (tx w))=some (.o (.str (tx (v++w)))):=by
 unfold addF;dsimp only;rw[zd2,zd2,ND (by rw[GE];exact h)]
 have e:tx v++tx w=tx (v++w):=by
  show Str.mk _=Str.mk _;simp[tx]
 rw[e]
theorem z0b(n d m:Nat):HT.sIx n d (some (m:Int))=min m n:=by
 have:=zh2 n d (m:Int);rw[NE (by lia)] at this;lia
theorem zv6(n d:Nat):HT.sIx n d none=d:=rfl
theorem z0l{α:Type}(xs:List α)(m:Nat):cutL xs none (some (m:Int))=xs.take m:=by
 unfold cutL;rw[z0b,zv6,JZ,YS,VH,Nat.min_assoc,Nat.min_self,<- VH]
theorem zvt{α:Type}{enc:α->G7}{g:DG}{fe:DE}{ρ:DSt}{Q:List G7->Prop}{as:List α}{e:α->G7}{h:Nat}(step:∀a∈as,∀P:R->Prop,(∀r,r.d=e a->P r)->g (enc a) (Qt h none++ρ) λρ2=>if true=true then fe ρ2 P else False)(mg:∀d ρ (P P':DSt->Prop),(∀ρ,P ρ->P' ρ)->g d ρ P->g d ρ P')(hz:as.length<=sizeLine)(q:Q (as.map e)):
 zbu h g yesD fe ρ Q (as.map enc) []:=by
 have key:∀(l:List α) (acc:List G7),(∀a∈l,a∈as)->acc.length+l.length<=sizeLine->Q (acc++l.map e)->zbu h g yesD fe ρ Q (l.map enc) acc:=by
  intro l
  induction l with
  | nil=>intro acc _ _ q;show Q acc;simpa using q
  | cons a l ih=>
    intro acc hs hz q;rw[Qk] at hz;refine mg _ _ _ _ (λρ2 z=>?_) (step a (hs a Qu) (λr=>acc.length<sizeLine/\zbu h g yesD fe ρ Q (l.map enc) (acc ++ [r.d])) λr hr=>⟨by lia,?_⟩)
    .rw[ND rfl] at z;exact iteT (B:=zbu h g yesD fe ρ Q (l.map enc) acc) z
    .rw[hr];exact ih (acc ++ [e a]) (λx hx=>hs x (Qe _ hx)) (by rw[Ql];simp;lia) (by simpa using q)
 exact key as [] (λ_ h=>h) (by simpa using hz) (by simpa using q)
theorem zx1{is:List Nat}:∀d ρ (P P':DSt->Prop),(∀ρ,P ρ->P' ρ)->gT is d ρ P->gT is d ρ P':=by
 have key:∀(is:List Nat) (ds:List G7) ρ (P P':DSt->Prop),(∀ρ,P ρ->P' ρ)->gTD is ds ρ P->gTD is ds ρ P':=by
  intro is
  induction is with
  | nil=>intro ds ρ P P' h z;cases ds with
    | nil=>exact h _ z
    | cons _ _=>exact z.elim
  | cons i is ih=>intro ds ρ P P' h z;cases ds with
    | nil=>exact z.elim
    | cons d ds=>exact ih ds _ P P' h z
 exact λd ρ P P' h ⟨ds,e,z⟩=>⟨ds,e,key _ _ _ _ _ h z⟩
def truB:G7->Option Bool
 | .none=>some false
 | .bool b=>some b
 | .int i=>some (i != 0)
 | .str x=>if x.length<=sizeLine then some ((x.length:Int) != 0) else none
 | .list ds=>some (!ds.isEmpty)
 | .tuple ds=>some (!ds.isEmpty)
 | _=>none
def truD(f:DE):DT:=λρ Q=>f ρ λr=>∃b,truB r.d=some b/\Q b
section
variable {K:Qa}{O:Ob}
theorem zhh(h:IsAll K F H xs ds):xs.isEmpty=ds.isEmpty:=by
 cases h <;> rfl
theorem z2w(h:ED K O t f):TD K O (λσ H Q=>t σ H λx H'=>∃k,TruV K x H' k/\Q k H') (truD f):=λσ H ρ Q Qd S hf k=>by
 refine h σ H ρ _ _ S hf λv H1 r s1 o1 zz=>?_;obtain⟨b,e,q⟩:=zz;have iv:=o1.is S.ok S.p;refine⟨b,?_,k b H1 s1 q⟩;generalize r.d=d at iv e
 cases iv with
 | none=>cases e;rfl
 | bool b=>cases e;rfl
 | int i=>cases e;rfl
 | str x=>
   have e:(if x.length<=sizeLine then some ((x.length:Int) != 0) else none)=some b:=e
   by_cases hl:x.length<=sizeLine
   .rw[ND hl] at e;cases e;exact⟨hl,rfl⟩
   .rw[NE hl] at e;cases e
 | list f1 h1 s1=>cases e;exact .inl ⟨_,.of h1,by rw[zhh s1]⟩
 | tuple h1 s1=>cases e;exact .inr (.inl ⟨_,h1,by rw[zhh s1]⟩)
end
section
variable {ι κ:Type}{P:GB}{w:GD}{K:Qa}{mg:Str->Option G5}{base:Heap}{k:Nat}{X:ι->Cx}{O:κ->Ob}{a b:Expr}{fa:DE}{pos p:Pos}{ga:DA}
theorem z4q(C:Ctx3 P w K mg base k X)(ha:E3 K X O a fa)(he:∀i whole,isTrue a (X i).env whole=(do let v <- whole;standAt a.pos;holding [v] (truthy v)):=by intro _ _;rfl):T3 K X O a (truD fa):=let ⟨_,q,d⟩:=ha;
 ⟨_,λi=>by have h:=zwh (X:=X i) (q i) (he i);rw[C.hK] at h;exact h,λj=>z2w (d j)⟩
theorem zz1{X:Cx}:MtR X "list.pop" rPop:=λpins s σ H x xs v us Q I rx rv h=>z1p pins s σ H x xs v us Q I rx rv h
end
section
variable {K:Qa}{O:Ob}
def extS(i:Nat)(f:DE):DS:=λDd ρ=>∃ds,ρ[i]? = some (some (.own ds))/\f ρ λr=>∃es,r.d = .list es/\flats es=true/\ds.length+es.length<=sizeLine/\Dd.nx (ρ.set i (some (.own (ds++es))))
theorem ztq{i:Nat}(h:ED K O t f):SD K O (zdp (tBM K "list" zdv (tVar i) (zao t tNil))) (extS i f):=λH₀ A σ H ρ D Dd r q P=>by
 obtain⟨ds,e,q⟩:=q;obtain⟨v,hv,a,xs,rfl,ha,hl,hs⟩:=r.at_ i _ e;refine⟨_,hv,?_⟩;refine⟨.inl ⟨rfl,xs,.of hl⟩,?_⟩;refine h σ H ρ _ _ r.seen q λw H1 x s1 o1 zz=>?_;obtain⟨es,ed,fl,hz,q1⟩:=zz;have r1:=r.stp s1;obtain⟨v1,hv1,a1,xs1,e1,ha1,hl1,hs1⟩:=r1.at_ i _ e;rw[hv] at hv1;cases hv1;cases e1;have iw:=o1.is r.ok r.p;rw[ed] at iw
 cases iw with
 | list f1 h1 s2=>
   refine⟨a,_,xs1,_,rfl,rfl,hl1,h1,by rw[hs1.length,s2.length];exact hz,?_⟩;exact P.nx A σ _ _ (r1.change e hv ha (hs1.append (IsAll.flats (TupStay.refl H1) s2 fl))) ((Frm.stp s1).trans (.change ha)) q1
end
section
variable {ι κ:Type}{P:GB}{w:GD}{K:Qa}{mg:Str->Option G5}{base:Heap}{k:Nat}{X:ι->Cx}{O:κ->Ob}{a b:Expr}{fa fb:DE}{pos p:Pos}{ga:DA}
theorem z2c:GO "max" = some (.builtin "max"):=by decide +kernel
theorem zit{X:Cx}:MtR X "list.extend" zdv:=λpins s σ H x xs v us Q I rx rv h=>zta pins s σ H x xs v us Q I rx rv h
theorem z5i(n:Nat){apos cpos:Pos}(C:Ctx3 P w K mg base k X)(hb:E3 K X O b fb)(hN:∀i,(X i).N[n]? = some x:=by intro i;rfl)(hv:∀i,Vis (X i).env.scope x:=by intro i;first|exact Or.inl rfl|exact Or.inr (Or.inl rfl)|exact Or.inr (Or.inr rfl))(hd:(x == ("__debug__" : Str))=false:=by decide)(hcd:(x == ("__classdict__" : Str))=false:=by decide)
 (hbase:∀i,TV (.Name x px) "extend" (X i).env (eval (.Name x px) (X i).env)=eval (.Name x px) (X i).env:=by intro i;rfl)
 (hfew:∀i,((Tk cpos (GC [b] (X i).env)).all (λx=>!x.1) && (Nj cpos (M1 [] (X i).env)).all (λx=>x.1.isSome) && decide (([b]:List Expr).length+([]:List Mp).length+(if([]:List Mp).isEmpty then 0 else 1)<30))=true:=by intro i;rfl)
 (hline:(apos.endLine == cpos.line)=true:=by rfl) (hs:∀i,GC [b] (X i).env = [(false,eval b (X i).env)]:=by intro i;rfl) (hsw:∀i,Tj (.Call (.Attribute (.Name x px) "extend" apos) [b] [] cpos) none pos.line (X i).env=pure false:=by intro i;rfl) :
 S3 K X O (.Expr (.Call (.Attribute (.Name x px) "extend" apos) [b] [] cpos) pos) (extS n fb):=let ⟨_,p2,d2⟩:=hb;
 ⟨zdp (tBM K "list" zdv (tVar n) (zao _ tNil)),λi=>by
  have h:=zi1 (apos:=apos) (cpos:=cpos) ZT Vs Vt (zit (X:=X i)) (zaf (pos:=px) (hN i) (hv i) hd hcd) (zaq (p2 i) zbf (hs i)) (hbase i) (hfew i) hline (hs i);rw[C.hK] at h
  exact zg6 h (hsw i),λj=>ztq (d2 j)⟩
end
namespace RV
theorem zkm:Nf (.type "list_reverseiterator") "__len__" = pure none:=by rw[Mm,TK];kernel_rfl
theorem zn1:Nf (.type "list_reverseiterator") "__length_hint__" = pure (some (.builtin "list_reverseiterator.__length_hint__")):=by rw[Mm,TK];kernel_rfl
theorem zgk:M8 (.type "list_reverseiterator") (.type "list_reverseiterator")=pure true:=by rw[TN];kernel_rfl
theorem zrg:splitId "list_reverseiterator.__length_hint__" = some ("list_reverseiterator", "__length_hint__"):=by decide +kernel
theorem zzu{prog:GB}(t:s.TypeIs (.ref it) "list_reverseiterator")(q:Q false s):wpAny (model prog w) A (Jr (.ref it)) Q E s:=by
 have sp:=zrg;unfold Jr;refine G4 (TY t zkm (G4 (TY t zn1 ?_)));revert sp;generalize z:("list_reverseiterator.__length_hint__" : String)=nm;intro sp;dsimp only;rw[sp];subst z;exact G4 (Me (b:=true) t zgk (G6 q))
theorem list_of_rev{prog:GB}{items:Array G5}(hh:A.handled=none)(hr:s.heap.IsRevIter it l ((items.size:Int)-1))(hl:s.heap.IsList l items)(hne:l≠it)(hz:items.size<=sizeLine)
 (q:∀h' t' vs c,(∀b o,b≠it->s.heap.get? b=some o->h'.get? b=some o)->h'.get? s.heap.objs.size=some { cls:=.type "list",dict:=none,data:=.seq vs c,slots:=#[] }->ItemsOf (λi v=>items[items.size-1-i]? = some v) vs items.size->Q (.ref s.heap.objs.size) { s with heap:=h',toks:=t' }) :
 wpAny (model prog w) A (call (.type "list") [.ref it]) Q E s:=by
 have W:=(Walks.listRev (prog:=prog) (w:=w) (A:=A.in1.in1) hh it l hne items).toS
 have new:∀b o,s.heap.get? b=some o->b≠s.heap.objs.size:=λb o e z=>by
  subst z;rw[Heap.get?] at e;simp at e
 refine callType_codes (Q₁:=λv s1=>v = .ref s.heap.objs.size/\s1 = { s with heap:=s.heap.push { cls:=.type "list",data:=.seq #[] } }) F.called_list (F.typeCall_list_1 _) F.entry_list_init (code_list_new _ ⟨rfl,rfl⟩) ?_;rintro _ _ ⟨rfl,rfl⟩;refine⟨⟨_,Qo _ rfl,rfl⟩,F.args_list_init_2 _ _,?_⟩;obtain⟨o,ho,hc,hd⟩:=id hr;have nI:s.heap.objs.size≠it:=λz=>new it _ ho z.symm;have same:JC (.ref s.heap.objs.size) (.ref it)=false:=by simp[JC,nI]
 have t1:Zs "list_reverseiterator" ≠ Zs "list" := by decide
 have eS:(s.heap.push { cls:=.type "list",data:=.seq #[] }).get? s.heap.objs.size=some { cls:=.type "list",data:=.seq #[] }:=Qo _ rfl;have eI:=Qc { cls:=.type "list",data:=.seq (#[]:Array G5) } ho;have a1:=zkm;have a2:=zn1;have a3:=zgk;obtain⟨hp,g,dr,tk,os⟩:=s
 have eI2:(((hp.push { cls:=.type "list",data:=.seq #[] }).update hp.objs.size (Zt λ_=>(#[]:Array G5))).get? it)=some o:=by
  rw[JL _ _ nI];exact eI
 have eS2:=JS (Zt (λ_=>(#[]:Array G5))) eS rfl;have hr2:((hp.push { cls:=.type "list",data:=.seq #[] }).update hp.objs.size (Zt λ_=>(#[]:Array G5))).IsRevIter it l ((items.size:Int)-1):=⟨o,eI2,hc,hd⟩;have hT:YA ⟨((hp.push { cls:=.type "list",data:=.seq #[] }).update hp.objs.size (Zt λ_=>(#[]:Array G5))),g,dr,tk,os⟩ (.ref it) "list_reverseiterator" := ⟨o,eI2,hc⟩;unfold Builtin.«list.__init__»
 wp_walk using wpAny_pyIter_revIter hr2,TC hT,zzu hT
 have hl2:((hp.push { cls:=.type "list",data:=.seq #[] }).update hp.objs.size (Zt λ_=>(#[]:Array G5))).IsList l items:=by
  obtain⟨ol,h1,h2⟩:=hl;refine⟨ol,?_,h2⟩;rw[JL _ _ (λz=>new l _ h1 z.symm)];exact Qc _ h1
 have hS:hp.objs.size ∉ [it,l]:=λz=>by
  obtain⟨ol,h1,_⟩:=hl;rcases Qs.mp z with z|z
  .exact nI z
  .exact new l _ h1 (Qm.mp z).symm
 refine⟨Tr YN _,Mi W hz _ hS _ items.size 0 _ _ _ rfl (QI _) ⟨QI _,by simpa using hr2,hl2⟩ eS2 (Ga _) λs' vs c m e is=>⟨rfl,?_⟩⟩;obtain⟨hp',g',dr',tk',os'⟩:=s';obtain⟨m1,m2,m3,m4,m5⟩:=m;have m2:g'=g:=m2;have m3:dr'=dr:=m3;have m4:os'=os:=m4;subst m2 m3 m4;refine q hp' tk' vs c (λb ob hb eb=>m1 b ob (λz=>?_) ?_) e is
 .rcases Qs.mp z with z|z
  .exact new b _ eb z
  .exact hb (Qm.mp z)
 .show((hp.push _).update _ _).get? b=_;rw[JL _ _ (λz=>new b _ eb z.symm)];exact Qc _ eb
theorem items_rev{its:List G5}{vs:Array G5}(h:ItemsOf (λi v=>its.toArray[its.toArray.size-1-i]? = some v) vs its.toArray.size):vs=its.reverse.toArray:=by
 obtain⟨h1,h2⟩:=h;apply Array.ext';apply Zq;intro i
 by_cases hi:i<vs.size
 .have e:vs.toList[i]? = some vs[i]:=by simp[hi]
  have e2:=h2 i vs[i] (by simp[hi]);rw[e,<- e2];simp at h1 e2 ⊢;rw[List.getElem?_reverse (by lia)]
 .rw[Q0 (by simpa using hi)];symm;apply Q0;simp at h1 ⊢;lia
end RV
def tLR(K:Qa)(te:TE):TE:=λσ H Q=>te σ H λv H1=>∃a xs,v = .ref a/\SqL K H1 a xs/\∀p,H1 p=none->Q (.ref p) (upd H1 p (.lst xs.reverse))
theorem zql(calm:X.A.handled=none)(gl:Gl X "list")(ml:X.mg "list" = none)(gr:Gl X "reversed")(mr:X.mg "reversed" = none)(he:PE X e te)
 (s1:GC [.Call (.Name "reversed" p2) [e] [] p3] X.env=(false,eval (.Call (.Name "reversed" p2) [e] [] p3) X.env)::GC [] X.env:=by rfl) (s2:GC [e] X.env=(false,eval e X.env)::GC [] X.env:=by rfl) :
 PE X (.Call (.Name "list" p1) [.Call (.Name "reversed" p2) [e] [] p3] [] p4) (tLR X.K te):=by
 intro pins s σ H Q I h;refine GH (zby I gl ml (u:=.type "list") rfl ?_);refine ZD ?_ s1;rw[s1];show wpAny _ _ (Ms ((false,eval (.Call (.Name "reversed" p2) [e] [] p3) X.env) :: [])) _ _ s;refine Z1 ?_;refine GH (zby I gr mr (u:=.type "reversed") rfl ?_);refine ZD ?_ s2;rw[s2];show wpAny _ _ (Ms ((false,eval e X.env) :: [])) _ _ s;refine Z1 (thn (he pins s σ H _ I h) λu s' zz=>?_);obtain⟨y,H1,I1,r1,a,xs,ey,hq,q⟩:=zz;subst ey;cases r1;refine ZM ?_;obtain⟨its,rv,pl,hz⟩:=I1.list hq;have hlen:=rv.length;have isl:=pl.isList;refine call_reversed_list isl ?_;refine ZM ?_
 have new:a≠s'.heap.objs.size:=λz=>by
  obtain⟨o,ho,_⟩:=isl;exact QS _ (z ▸ Qq ho)
 have isl2:(s'.heap.push (revObj a ((its.toArray.size:Int)-1))).IsList a its.toArray:=isl.push _;refine RV.list_of_rev (s:={ s' with heap:=s'.heap.push (revObj a ((its.toArray.size:Int)-1)) }) calm ⟨_,Qo _ rfl,rfl,rfl⟩ isl2 new (by simp;lia) λh' t' vs c kp e is=>?_;have ez:(s'.heap.push (revObj a ((its.toArray.size:Int)-1))).objs.size=s'.heap.objs.size+1:=Za ..;have ev:=RV.items_rev is;subst ev;have kp2:∀b o,s'.heap.get? b=some o->h'.get? b=some o:=λb o eb=>kp b o (λz=>QS _ (z ▸ Qq eb)) (Qc _ eb);have fr:H1 (s'.heap.objs.size+1)=none:=I1.hok.fresh (ZN _);dsimp only at e ⊢;rw[ez] at e ⊢;exact⟨.ref (s'.heap.objs.size+1),_,I1.laid (t':=t') kp2 (ZN _) (show ObjOk X.prog X.w _ h' _ (.lst xs.reverse) from⟨by rw[List.length_reverse];exact hz,its.reverse,c,rv.reverse,e⟩),rfl,q _ fr⟩
end L3
namespace L3
open PySem PySem.Spec
open PyProof.Rows hiding St
open L2
abbrev zcf:Key:=.inr "seed"
abbrev kNum:Key:=.inr "number"
abbrev zdj:Key:=.inr "left"
def zbc(seed num:Int)(l:Addr):List (Key×V):=[(zcf,.int seed),(kNum,.int num),(zdj,.ref l)]
def zjj(seed num:Int)(l:Addr):HO:=.dK (zbc seed num l)
theorem zwo(s n:Int)(l:Addr):valV (zbc s n l) zcf=some (.int s):=by simp[valV,zbc,Jd]
theorem zys(s n:Int)(l:Addr):valV (zbc s n l) kNum=some (.int n):=by
 have h1:¬(zcf=kNum):=by decide +kernel
 simp[valV,zbc,Jd,h1]
theorem zvy(s n:Int)(l:Addr):valV (zbc s n l) zdj=some (.ref l):=by
 have h1:¬(zcf=zdj):=by decide +kernel
 have h2:¬(kNum=zdj):=by decide +kernel
 simp[valV,zbc,Jd,h1,h2]
theorem zvm(s n s':Int)(l:Addr):putK (zbc s n l) zcf (.int s')=zbc s' n l:=by
 have h1:¬(kNum=zcf):=by decide +kernel
 have h2:¬(zdj=zcf):=by decide +kernel
 simp[putK,zbc,h1,h2]
theorem zzt(s n n':Int)(l:Addr):putK (zbc s n l) kNum (.int n')=zbc s n' l:=by
 have h1:¬(zcf=kNum):=by decide +kernel
 have h2:¬(zdj=kNum):=by decide +kernel
 simp[putK,zbc,h1,h2]
structure DealAt(H:Hp)(a l:Addr)(seed num:Int)(ns:List Int):Prop where
 ne:a≠l
 ha:H a=some (zjj seed num l)
 hl:H l=some (.lst (ns.map V.int))
 s0:0<=seed
 s1:seed<4294967296
 n0:0<=num
 ns0:∀n∈ns,0<=n
structure IsDeal(O:Ob):Prop where
 ex:∃a l,O.v = .ref a/\O.M a/\O.M l/\(∀H,O.P H->∃s n ns,DealAt H a l s n ns)/\∀H H' s n ns,O.P H->DealAt H' a l s n ns->(∀b,O.M b->b≠a->b≠l->H' b=H b)->O.P H'
theorem IsDeal.plus(h:IsDeal O)(D:Addr)(u:HO)(nm:¬O.M D):IsDeal (O.plus D u):=by
 obtain⟨a,l,hv,ma,ml,h1,h2⟩:=h.ex;have da:D≠a:=λe=>nm (e ▸ ma);have dl:D≠l:=λe=>nm (e ▸ ml);refine⟨a,l,hv,.inl ma,.inl ml,λH p=>h1 H p.1,λH H' s n ns p q k=>⟨h2 H H' s n ns p.1 q λb mb=>k b (.inl mb),?_⟩⟩;rw[k D (.inr rfl) da dl];exact p.2
def zjf(a l:Addr):Ob:=⟨λb=>b=a\/b=l,λH=>∃s n ns,DealAt H a l s n ns,.ref a⟩
theorem zlh(a l:Addr):(zjf a l).Ok:=by
 refine⟨λH H' e ⟨s,n,ns,p⟩=>⟨s,n,ns,p.ne,(e a (.inl rfl)).trans p.ha,(e l (.inr rfl)).trans p.hl,p.s0,p.s1,p.n0,p.ns0⟩,λH b o ⟨s,n,ns,p⟩ eb m=>?_,λH b ⟨s,n,ns,p⟩ m=>?_⟩
 .rcases m with rfl|rfl
  .rw[p.ha] at eb;cases eb;exact⟨λ_ z=>(by cases z),λ_ _ z=>(by cases z)⟩
  .rw[p.hl] at eb;cases eb;exact⟨λ_ z=>(by cases z),λ_ _ z=>(by cases z)⟩
 .rcases m with rfl|rfl
  .exact⟨_,p.ha⟩
  .exact⟨_,p.hl⟩
theorem ztj(a l:Addr):IsDeal (zjf a l):=⟨a,l,rfl,.inl rfl,.inr rfl,λ_ p=>p,λ_ _ s n ns _ q _=>⟨s,n,ns,q⟩⟩
abbrev dAt(k:Str):TE:=zxh (tVar 0) (tC (.str k))
def z2h(K:Qa):TS :=
 znk (tAnd (zfw (tOp rEq (dAt "number") (tC (.int 0)))) (zfw (tOp (rI0 λi j=>.bl (decide (j<i))) (tCB (lenR K) (zao (dAt "left") tNil)) (tC (.int 0)))))
  (zlv (tVar 0) (tC (.str "number")) (tBM0 K "list" rPop (dAt "left")))
theorem zth{s n:Int}(p:DealAt H a l s n ns)(hσ:σ[0]? = some (some (.ref a)))(q:Q (.int n) H):dAt "number" σ H Q :=
 ⟨_,hσ,a,_,rfl,.inl ⟨_,kNum,.inl p.ha,rfl,(zys s n l).symm⟩,q⟩
theorem zkf{s n:Int}(p:DealAt H a l s n ns)(hσ:σ[0]? = some (some (.ref a)))(q:Q (.int s) H):dAt "seed" σ H Q :=
 ⟨_,hσ,a,_,rfl,.inl ⟨_,zcf,.inl p.ha,rfl,(zwo s n l).symm⟩,q⟩
theorem zos{s n:Int}(p:DealAt H a l s n ns)(hσ:σ[0]? = some (some (.ref a)))(q:Q (.ref l) H):dAt "left" σ H Q :=
 ⟨_,hσ,a,_,rfl,.inl ⟨_,zdj,.inl p.ha,rfl,(zvy s n l).symm⟩,q⟩
theorem zuc(s n:Int)(l:Addr):(zbc s n l).length<sizeLine:=by rw[GE];show 3<16777216;decide
theorem DealAt.setN{s n:Int}(p:DealAt H a l s n ns){n':Int}(h:0<=n'):DealAt (upd H a (zjj s n' l)) a l s n' ns :=
 ⟨p.ne,zad,by rw[zaa (ZC p.ne)];exact p.hl,p.s0,p.s1,h,p.ns0⟩
theorem DealAt.setS{s n:Int}(p:DealAt H a l s n ns){s':Int}(h:0<=s')(h2:s'<4294967296):DealAt (upd H a (zjj s' n l)) a l s' n ns :=
 ⟨p.ne,zad,by rw[zaa (ZC p.ne)];exact p.hl,h,h2,p.n0,p.ns0⟩
theorem zw3{s n:Int}(p:DealAt H a l s n ns)(n':Int):DPut H a (.str "number") (.int n') (upd H a (zjj s n' l)) :=
 .inl ⟨_,kNum,p.ha,rfl,zuc s n l,by rw[zzt];rfl⟩
theorem z6a{s n:Int}(p:DealAt H a l s n ns)(s':Int):DPut H a (.str "seed") (.int s') (upd H a (zjj s' n l)) :=
 .inl ⟨_,zcf,p.ha,rfl,zuc s n l,by rw[zvm];rfl⟩
theorem zv5{s n s' n':Int}(ma:O.M a)(ml:O.M l)(h2:∀H H' s n ns,O.P H->DealAt H' a l s n ns->(∀b,O.M b->b≠a->b≠l->H' b=H b)->O.P H')(p:DealAt H a l s n ns)(p':DealAt H' a l s' n' ns')(st:PotStp a l H H'):Stp O H H':=by
 refine⟨λb o e nm=>?_,λpp=>h2 H H' _ _ _ pp p' λb _ h3 h4=>st.oth b h3 h4,λb u hu e=>?_⟩
 .rw[st.oth b (λz=>nm (z ▸ ma)) λz=>nm (z ▸ ml)];exact e
 .rw[st.oth b (λz=>?_) λz=>?_]
  .exact e
  .rw[z,p.ha] at e;cases e;obtain⟨xs,e1|⟨o,e1⟩⟩:=hu <;> cases e1
  .rw[z,p.hl] at e;cases e;obtain⟨xs,e1|⟨o,e1⟩⟩:=hu <;> cases e1
theorem upd2(H:Hp)(a:Addr)(x y:HO):upd (upd H a x) a y=upd H a y:=by
 funext b
 by_cases e:b=a
 .subst e;rw[zad,zad]
 .rw[zaa e,zaa e,zaa e]
theorem zik{K:Qa}{c:Addr}{ns:List Int}{σ:St}{H:Hp}{tf:TT}{te:TE}{G:Addr->Hp->Prop}(p:Int->Bool)(f:Int->Int)(hS:SqL K H c (ns.map V.int))(hz:ns.length<=63)
 (ht:∀n H' R,R (p n) H'->tf (some (.int n)::σ) H' R) (he:∀n H' R,R (V.int (f n)) H'->te (some (.int n)::σ) H' R)
 (q:∀D,H D=none->G D (upd H D (.lst (((ns.filter p).map f).map V.int)))) :
 ∀D,H D=none->∃W:Nat->Nat->List V->Hp->Prop,(∃m,W 0 m [] (upd H D (.lst [])))/\∀i m ys H',W i m ys H'->H' D=some (.lst ys)/\(((Itl K c).stop i H'/\G D H')\/((Itl K c).go i H'/\∀x H'',(Itl K c).yld i H' x H''->zax 0 x (Qt 1 none++σ) H'' λσ2 H2=>tf σ2 H2 λb H3=>
   if b=true then te σ2 H3 λy H4=>H4 D=some (.lst ys)/\ys.length<sizeLine/\∃m',m'<m/\W (i+1) m' (ys ++ [y]) (upd H4 D (.lst (ys ++ [y]))) else ∃m',m'<m/\W (i+1) m' ys H3)):=by
 intro D hD;have sz:=GE;refine⟨λi m ys H'=>m=ns.length-i/\i<=ns.length/\ys=(((ns.take i).filter p).map f).map V.int/\H'=upd H D (.lst ys),⟨_,rfl,QI _,rfl,rfl⟩,?_⟩;rintro i m ys H' ⟨rfl,hi,rfl,rfl⟩;refine⟨zad,?_⟩;have hS':=(L3.same_new hD (.lst ((((ns.take i).filter p).map f).map V.int))).seq hS
 by_cases lt:i<ns.length
 .right;refine⟨⟨_,.int ns[i],hS',by rw[Qi,Qb lt];rfl⟩,λx H'' ⟨e,y⟩=>?_⟩;subst e;have ex:=y _ hS';rw[Qi,Qb lt] at ex;cases ex;show tf (some (.int ns[i])::σ) _ _
  have et:(ns.take (i+1)).filter p=(ns.take i).filter p++(if p ns[i]=true then[ns[i]] else[]):=by
   rw[Zj lt,Yq,JG];rfl
  refine ht _ _ _ ?_
  by_cases cc:p ns[i]=true
  .rw[ND cc] at et ⊢;have hlen:((ns.take i).filter p).length<=ns.length:=QN (Jf _ _) (by rw[QY];lia);refine he _ _ _ ⟨zad,by rw[Qf,Qf];lia,ns.length-(i+1),by lia,rfl,lt,?_,upd2 _ _ _ _⟩;rw[et,QE,QE];rfl
  .rw[NE cc] at et ⊢;rw[QD] at et;exact⟨ns.length-(i+1),by lia,rfl,lt,by rw[et],rfl⟩
 .left;have e:i=ns.length:=by lia
  subst e;refine⟨⟨_,hS',by rw[Qf];exact Qg _⟩,?_⟩;rw[Zn];exact q D hD
abbrev zxk:List V->Hp->VK->Prop:=λxs H Q=>∃i j,xs = [.int i,.int j]/\Q (.int (if j > i then j else i)) H
def zir(K:Qa):Sp:=λvs H Q _=>∃(a:Addr) (ns:List Int),vs = [.ref a,.int 0]/\SqL K H a (ns.map V.int)/\ns.length<=63/\∀p l s left H',H p=none->H l=none->Same H H'->DealAt H' p l s 0 left->Q (.ref p) H'
structure DC where
 (cb cc ce m2 m3 m4:Int)
structure DC.Ok(c:DC):Prop where
 (cc:-(2 ^ 64)<c.cc/\c.cc<2 ^ 64) 
 (m2:0<c.m2/\c.m2<4294967296)
 (m3:0<c.m3/\c.m3<4294967296)
 (m4:0<c.m4/\c.m4<4294967296)
def zjq(K:Qa)(c:DC):TS :=
 tSeq (tAsg (dAt "number") (zax 2))
 (tSeq (tIfS (zfw (tOp (rI0 λi j=>.bl (decide (j<i))) (tVar 2) (tC (.int 0))))
  (tSeq (zlv (tVar 0) (tC (.str "number")) (tOp (rI CDiv λi j=>.int (i / j)) (tVar 2) (tVar 1))) (tRet (tOp (rI (λ_ j=>0<j) λi j=>.int (i % j)) (tVar 2) (tVar 1)))) zqv)
 (tSeq (tAsg (tOp (rI (λ_ j=>0<j) λi j=>.int (i % j)) (tOp (rI0 λi j=>.int (i+j)) (tOp (rI CMul λi j=>.int (i * j)) (dAt "seed") (tC (.int 48271))) (tC (.int c.cb))) (tC (.int 2147483647))) (zax 3))
 (tSeq (zlv (tVar 0) (tC (.str "seed")) (tOp (rI (λ_ j=>0<j) λi j=>.int (i % j)) (tOp (rI0 λi j=>.int (i+j)) (tOp (rI CMul λi j=>.int (i * j)) (tVar 3) (tC (.int c.cc))) (tC (.int c.ce))) (tC (.int c.m2))))
 (tSeq (tAsg (tOp (rI (λ_ j=>0<j) λi j=>.int (i % j)) (tOp (rI CMul λi j=>.int (i * j)) (dAt "seed") (dAt "seed")) (tC (.int c.m3))) (zax 4))
 (tRet (tOp (rI (λ_ j=>0<j) λi j=>.int (i % j)) (tOp (rI0 λi j=>.int (i+j)) (tOp (rI CMul λi j=>.int (i * j)) (tOp (rI (λ_ j=>0<j) λi j=>.int (i % j)) (tOp (rI CMul λi j=>.int (i * j)) (tVar 3) (tVar 3)) (tC (.int c.m4))) (tC (.int c.m3))) (tVar 4)) (tVar 1)))))))
def zj6(K:Qa)(c:DC):TS:=tSeq (z2h K) (zjq K c)
theorem zr7{K:Qa}{c:DC}(hc:c.Ok){H:Hp}{a l:Addr}{s n:Int}{ns:List Int}{m:Int}{D:Ends}(p:DealAt H a l s n ns)(m0:0<m)(m1:m<1073741824)
 (q:∀k H' s' n' ns',0<=k->k<m->DealAt H' a l s' n' ns'->PotStp a l H H'->D.rt (.int k) H'):zjq K c D [some (.ref a),some (.int m),none,none,none] H:=by
 refine zth p rfl ?_;refine⟨_,rfl,n,0,rfl,rfl,_,rfl,?_⟩;refine ite2 (λ_=>?_) (λ_=>?_)
 .refine⟨_,rfl,_,rfl,n,m,rfl,rfl,⟨m0,m1⟩,?_⟩;refine⟨_,rfl,a,_,rfl,zw3 p _,?_⟩;exact⟨_,rfl,_,rfl,n,m,rfl,rfl,m0,q _ _ s _ ns (JQ _ (by lia)) (Jy _ m0) (p.setN (Int.ediv_nonneg p.n0 (by lia))) (.upA _)⟩
 .have s0:=p.s0;have s1:=p.s1;refine zkf p rfl ?_;refine⟨s,48271,rfl,rfl,.inl ⟨by lia,by lia⟩,?_⟩;refine⟨_,_,rfl,rfl,_,_,rfl,rfl,(show(0:Int)<2147483647 by decide),?_⟩;dsimp only;have e0:0<=(s * 48271+c.cb) % 2147483647:=JQ _ (by decide);have e1:(s * 48271+c.cb) % 2147483647<2147483647:=Jy _ (by decide);generalize (s * 48271+c.cb) % 2147483647=one at e0 e1;have hm2:=hc.m2;have hm3:=hc.m3;have hm4:=hc.m4;refine⟨_,rfl,one,c.cc,rfl,rfl,.inl ⟨by lia,by lia⟩,?_⟩;refine⟨_,_,rfl,rfl,_,_,rfl,rfl,hm2.1,?_⟩;dsimp only;have f0:0<=(one * c.cc+c.ce) % c.m2:=JQ _ (by lia);have f1:(one * c.cc+c.ce) % c.m2<c.m2:=Jy _ hm2.1;generalize (one * c.cc+c.ce) % c.m2=sd at f0 f1;refine⟨_,rfl,a,_,rfl,z6a p _,?_⟩;have p2:=p.setS (s':=sd) (by lia) (by lia);refine zkf p2 rfl (zkf p2 rfl ?_);refine⟨sd,sd,rfl,rfl,.inl ⟨by lia,by lia⟩,_,_,rfl,rfl,hm3.1,?_⟩;have g0:0<=one * one % c.m4:=JQ _ (by lia);have g1:one * one % c.m4<c.m4:=Jy _ hm4.1;refine⟨_,rfl,_,rfl,one,one,rfl,rfl,.inl ⟨by lia,by lia⟩,?_⟩;refine⟨_,_,rfl,rfl,hm4.1,_,_,rfl,rfl,.inl ⟨by lia,by lia⟩,?_⟩;refine⟨_,rfl,_,_,rfl,rfl,_,rfl,_,_,rfl,rfl,m0,?_⟩;exact q _ _ _ _ _ (JQ _ (by lia)) (Jy _ m0) p2 (.upA _)
theorem zvq{K:Qa}{dc:DC}(hc:dc.Ok){H:Hp}{a l:Addr}{s n:Int}{ns:List Int}{m:Int}{D:Ends}(p:DealAt H a l s n ns)(m0:0<m)(m1:m<1073741824)
 (q:∀k H' s' n' ns',0<=k->k<m->DealAt H' a l s' n' ns'->PotStp a l H H'->D.rt (.int k) H'):zj6 K dc D [some (.ref a),some (.int m),none,none,none] H:=by
 refine⟨λc σ H'=>σ = [some (.ref a),some (.int m),none,none,none]/\∃s n ns,c=ns.length/\DealAt H' a l s n ns/\PotStp a l H H',⟨_,rfl,s,n,ns,rfl,p,.refl _ _ _⟩,?_⟩;rintro c σ H1 ⟨rfl,s,n,ns,rfl,p,st⟩;have out:zjq K dc D [some (.ref a),some (.int m),none,none,none] H1:=zr7 hc p m0 m1 λk H' s' n' ns' h1 h2 h3 h4=>q k H' s' n' ns' h1 h2 h3 (st.trans h4);refine zth p rfl ?_;refine⟨rfl,_,rfl,?_⟩;refine ite2 (λc=>?_) (λc=>iteF out);refine zos p rfl ?_;refine⟨_,_,rfl,.inl ⟨_,.of p.hl,rfl⟩,_,_,rfl,rfl,_,rfl,?_⟩;refine ite2 (λc2=>?_) (λc2=>out);have c3:=NF c2;have hne:ns≠[]:=λe=>by rw[e] at c3;simp at c3
 obtain⟨r,x,rfl⟩:∃r x,ns=r ++ [x]:=⟨ns.dropLast,ns.getLast hne,(List.dropLast_concat_getLast hne).symm⟩;refine⟨λσ' H'=>σ' = [some (.ref a),some (.int m),none,none,none]/\∃s n ns,ns.length<(r ++ [x]).length/\DealAt H' a l s n ns/\PotStp a l H H',λσ' H' ⟨e,s,n,ns,hl,h1,h2⟩=>⟨_,hl,e,s,n,ns,rfl,h1,h2⟩,?_⟩;refine zos p rfl ?_;have p1:DealAt (upd H1 l (.lst ((r ++ [x]).map V.int).dropLast)) a l s n r:=⟨p.ne,by rw[zaa p.ne];exact p.ha,by rw[zad,QE];show some (HO.lst (List.dropLast (_ ++ [V.int x])))=_;rw[List.dropLast_concat],p.s0,p.s1,p.n0,λz hz=>p.ns0 z (QC _ hz)⟩;refine⟨.inl ⟨rfl,_,.of p.hl⟩,l,_,.int x,rfl,rfl,p.hl,by simp,?_⟩;refine⟨_,rfl,a,_,rfl,zw3 p1 x,rfl,s,x,r,by simp,p1.setN (p.ns0 x (by simp)),st.trans (PotStp.trans (.upL _) (.upA _))⟩
theorem zok{K:Qa}{c:DC}(hc:c.Ok){O:Ob}{H:Hp}{ds:List G7}{ws:List V}{Qr:R->Prop}{Q:VK}{x1 x2 x3 x4 x5:Str}(hφ:IsDeal O)(p:O.P H)(is:IsAll K (unM O) H ws ds)(q:zel ds Qr)(kk:∀r,Qr r->∀v H',Stp O H H'->Out K O H H' v r->Q v H'):
 zj6 K c { nx:=λ_ H'=>Q .non H',rt:=Q } (L2.start [x1,x2,x3,x4,x5] (O.v::ws)) H:=by
 obtain⟨m,rfl,m0,m1,q⟩:=q;obtain⟨a,l,hv,ma,ml,h1,h2⟩:=hφ.ex;obtain⟨s,n,ns,pa⟩:=h1 H p;obtain⟨v,rfl,iv⟩:=zbt is;cases iv;rw[hv];exact zvq hc pa m0 m1 λk H' s' n' ns' k0 k1 p' st=>kk _ (q k k0 k1) _ H' (zv5 ma ml h2 pa p' st) (Is.int k)
def ztk(K:Qa)(ti ts:TE):TS :=
 tSeq (tAsg (zdl 1 (zb0 K (tSl (rSlL K) (tVar 0) (zlz (tVar 1)) (zlz (tC (.int 63))))) (zax 0) tYes (tCB zxk (zao (tVar 0) (zao (tOp (rI0 λi j=>.int (i-j)) (tC (.int 0)) (tVar 0)) tNil)))) (zax 2))
 (tSeq (tAsg ti (zax 3))
 (tSeq (tFor (zb0 K (tVar 2)) (zax 4)
  (tAsg ts (zax 3)))
 (tRet (zwq [(tC (.str "seed"),tVar 3),(tC (.str "number"),tC (.int 0)),(tC (.str "left"),tLR K (zdl 1 (zb0 K (tVar 2)) (zax 0) (zfw (tOp (rI0 λi j=>.bl (decide (j<=i))) (tVar 0) (tOp (rI CPow λi j=>.int (i ^ j.toNat)) (tC (.int 10)) (tC (.int 18))))) (tVar 0)))]))))
theorem zra{K:Qa}{ti ts:TE}{s0:Int}(hs0:0<=s0)(hs1:s0<4294967296)(hi:∀(v v1:V) H Q,Q (.int s0) H->ti [some v,some (.int 0),some v1,none,none] H Q)(hst:∀(v v1:V) (s n:Int) H Q,0<=s->s<4294967296->(∀s',0<=s'->s'<4294967296->Q (.int s') H)->ts [some v,some (.int 0),some v1,some (.int s),some (.int n)] H Q){H:Hp}{Q:VK}{a:Addr}{ns:List Int}(hS:SqL K H a (ns.map V.int))(hl:ns.length<=63)
 (q:∀p l s left H',H p=none->H l=none->Same H H'->DealAt H' p l s 0 left->Q (.ref p) H'):ztk K ti ts { nx:=λ_ H'=>Q .non H',rt:=Q } [some (.ref a),some (.int 0),none,none,none] H:=by
 have sL:=GE;refine⟨_,rfl,_,rfl,_,rfl,63,rfl,a,_,rfl,hS,λc hc=>?_⟩;rw[zwg]
 have hcl:(cutL ns (some 0) (some 63)).length<=63:=by
  unfold cutL;rw[QY,ZK];lia
 generalize cutL ns (some 0) (some 63)=cs at hcl;refine⟨c,rfl,⟨_,.of zad⟩,?_⟩;have g1:Same H (upd H c (.lst (cs.map V.int))):=L3.same_new hc _;refine zik (K:=K) (c:=c) (H:=upd H c (.lst (cs.map V.int))) (σ:=[some (.ref a),some (.int 0),none,none,none]) (tf:=tYes) (te:=tCB zxk (zao (tVar 0) (zao (tOp (rI0 λi j=>.int (i-j)) (tC (.int 0)) (tVar 0)) tNil))) (λ_=>true) (λn=>if 0-n > n then 0-n else n) (.of zad) hcl (λn H' R r=>r) (λn H' R r=>⟨_,rfl,_,rfl,0,n,rfl,rfl,n,0-n,rfl,r⟩) λd hd=>?_;have hcs:cs.filter (λ_=>true)=cs:=List.filter_eq_self.mpr λ_ _=>rfl;rw[hcs]
 have habs:∀n∈cs.map (λn=>if 0-n > n then 0-n else n),0<=n:=λn hn=>by
  obtain⟨m,_,rfl⟩:=Qp.mp hn
  split <;> lia
 have hal:(cs.map (λn=>if 0-n > n then 0-n else n)).length<=63:=by rw[Qf];exact hcl
 generalize cs.map (λn=>if 0-n > n then 0-n else n)=es at habs hal;have g2:Same H (upd (upd H c (.lst (cs.map V.int))) d (.lst (es.map V.int))):=g1.trans (L3.same_new hd _);generalize eH:upd (upd H c (.lst (cs.map V.int))) d (.lst (es.map V.int))=H1 at g2;have hd1:H1 d=some (.lst (es.map V.int)):=by rw[<- eH];exact zad
 refine hi _ _ _ _ ?_;refine⟨_,rfl,d,rfl,⟨_,.of hd1⟩,?_⟩;refine zvd (xs:=es.map V.int) (λi σ H'=>∃(s:Int) (o:Option V),σ = [some (.ref a),some (.int 0),some (.ref d),some (.int s),o]/\0<=s/\s<4294967296/\H'=H1) ?_ ?_ ?_ ?_
 .exact⟨_,none,rfl,hs0,hs1,rfl⟩
 .rintro i σ H' hi ⟨s,o,rfl,h1,h2,rfl⟩;exact .of hd1
 .rintro i x σ H' hx ⟨s,o,rfl,h1,h2,rfl⟩;rw[Qi] at hx;obtain⟨n,hn,rfl⟩:=Q4.mp hx;exact hst _ _ s n _ _ h1 h2 λs' f0 f1=>⟨_,_,rfl,f0,f1,rfl⟩
 .rintro σ H' ⟨s,o,rfl,h1,h2,rfl⟩;intro p hp;have npd:p≠d:=λz=>by rw[z,hd1] at hp;cases hp
  refine⟨_,rfl,?_⟩;have hd2:upd H' p (.dK []) d=some (.lst (es.map V.int)):=by rw[zaa (ZC npd)];exact hd1
  refine⟨_,rfl,d,rfl,⟨_,.of hd2⟩,?_⟩;refine zik (tf:=zfw (tOp (rI0 λi j=>.bl (decide (j<=i))) (tVar 0) (tOp (rI CPow λi j=>.int (i ^ j.toNat)) (tC (.int 10)) (tC (.int 18))))) (te:=tVar 0) (λn=>decide ((10:Int) ^ (18:Int).toNat<=n)) (λn=>n) (.of hd2) hal (λn H' R r=>⟨_,rfl,10,18,rfl,rfl,⟨by decide,by decide,by decide⟩,_,_,rfl,rfl,_,rfl,r⟩) (λn H' R r=>⟨_,rfl,r⟩) λe he=>?_;rw[List.map_id'];have hfl:∀n∈es.filter (λn=>decide ((10:Int) ^ (18:Int).toNat<=n)),0<=n:=λn hn=>habs n (Zg.mp hn).1;generalize es.filter (λn=>decide ((10:Int) ^ (18:Int).toNat<=n))=left at hfl;have npe:p≠e:=λz=>by rw[<- z,zad] at he;cases he
  refine⟨e,_,rfl,.of zad,λl hln=>?_⟩
  have npl:p≠l:=λz=>by
   rw[<- z,zaa npe,zad] at hln;cases hln
  have nel:e≠l:=λz=>by rw[<- z,zad] at hln;cases hln
  have hlp:upd H' p (.dK []) l=none:=by rw[zaa (ZC nel)] at hln;exact hln
  have hlH:H' l=none:=by rw[zaa (ZC npl)] at hlp;exact hlp
  refine⟨by rw[zaa npl,zaa npe];exact zad,zbc s 0 l,rfl,by show 3<=15;decide,?_⟩
  have em:zd3 [] (zbc s 0 l)=zbc s 0 l:=by
   have a1:¬(zcf=kNum):=by decide +kernel
   have a2:¬(zcf=zdj):=by decide +kernel
   have a3:¬(kNum=zdj):=by decide +kernel
   simp[zd3,zbc,putK,a1,a2,a3]
  rw[em];have heH:H' e=none:=by rw[zaa (ZC npe)] at he;exact he
  have hm:(left.map V.int).reverse=left.reverse.map V.int:=UQ.symm;rw[hm];refine q p l s left.reverse _ (g2.free hp) (g2.free hlH) (λb o eb=>?_) ⟨npl,zad,?_,h1,h2,Int.le_refl 0,λn hn=>hfl n (UR.mp hn)⟩
  .have e1:=g2 b o eb;have n1:b≠p:=λz=>by rw[z,hp] at e1;cases e1
   have n2:b≠l:=λz=>by rw[z,hlH] at e1;cases e1
   have n3:b≠e:=λz=>by rw[z,heH] at e1;cases e1
   rw[zaa n1,zaa n2,zaa n3,zaa n1];exact e1
  .rw[zaa (ZC npl)];exact zad
def zeo:List G7->(R->Prop)->Prop:=λds Q=>ds = []/\∀w:List Nat,1<=w.length->w.length<=3->(∀c∈w,zem c)->w.Pairwise (· < ·)->Q (.n (w.map λc=>.str (sg c)))
def zgv(K:Qa)(drawSp:Sp):TS :=
 tSeq (tAsg (tCB zsi (zao (tC (.str "abcdefghijklmnopqrstuvwxyz")) tNil)) (zax 1))
 (tRet (tCB zsj (zao (zdl 1 (zqo (zao (tOp (rI0 λi j=>.int (i+j)) (tC (.int 1)) (zct drawSp [] E0 (zao (tVar 0) (zao (tC (.int 3)) tNil)))) tNil)) (zax 0) tYes (tBM K "list" zix (tVar 2) (zao (zct drawSp [] E0 (zao (tVar 1) (zao (tCB (lenR K) (zao (tVar 2) tNil)) tNil))) tNil))) tNil)))
theorem zlp{K:Qa}{φ:Ob->Prop}(hp:∀(O:Ob) (D:Addr) (u:HO),φ O->¬O.M D->φ (O.plus D u)){O:Ob}{H:Hp}{ds:List G7}{ws:List V}{Qr:R->Prop}{Q:VK}{x1 x2:Str}(ok:O.Ok)(hφ:φ O)(p:O.P H)(is:IsAll K (unM O) H ws ds)(q:zeo ds Qr)(kk:∀r,Qr r->∀v H',Stp O H H'->Out K O H H' v r->Q v H'):
 zgv K (spD K φ 1 zel) { nx:=λ_ H'=>Q .non H',rt:=Q } (L2.start [x1,x2] (O.v::ws)) H:=by
 obtain⟨rfl,q⟩:=q;cases is;have hsz:sizeLine=16777216:=GE;refine⟨_,rfl,by decide,λl hl=>?_⟩;have eabc:(Jk "abcdefghijklmnopqrstuvwxyz").cps.toList=abc:=by decide +kernel
 rw[eabc];have sl:Stp O H (upd H l (.lst (abc.map λc=>V.str (sg c)))):=.new ok hl _;have nMl:¬O.M l:=λmm=>by obtain⟨o,z⟩:=ok.here H l p mm;rw[hl] at z;cases z
 have al:∀b o,H b=some o->b≠l:=λb o e z=>by rw[z,hl] at e;cases e
 have okl:=ok.plus l (abc.map λc=>V.str (sg c));have hpl:φ (O.plus l (.lst (abc.map λc=>V.str (sg c)))):=hp _ l _ hφ nMl;have pl0:(O.plus l (.lst (abc.map λc=>V.str (sg c)))).P (upd H l (.lst (abc.map λc=>V.str (sg c)))):=⟨sl.p p,zad⟩;refine⟨_,rfl,?_⟩;show spD K φ 1 zel ([O.v,V.int 3] ++ []) _ _ E0;refine⟨_,[.int 3],[.int 3],λx=>∃k:Int,x = .o (.int k)/\0<=k/\k<3,okl,hpl,pl0,rfl,rfl,.cons (.int _) .nil,⟨_,rfl,by lia,by lia,λk k0 k1=>⟨k,rfl,k0,k1⟩⟩,?_⟩;rintro _ ⟨k,rfl,k0,k1⟩ v H0 st0 o0;cases o0;obtain⟨p0,hl0⟩:=st0.p pl0;refine⟨_,_,rfl,rfl,?_⟩;obtain⟨m,em⟩:∃m:Int,m=1+k:=⟨_,rfl⟩;refine⟨m,by rw[em],by lia,by lia,λD hD=>?_⟩
 have kp0:∀b o,H b=some o->¬O.M b->H0 b=some o:=λb o e n=>st0.s b o (by rw[zaa (al b o e)];exact e) λmm=>by
  rcases mm with mm|mm
  .exact n mm
  .exact al b o e mm
 have ts0:TupStay H H0:=λb u hu e=>st0.t b u hu (by rw[zaa (al b u e)];exact e);have nlD:l≠D:=λz=>by rw[<- z,hl0] at hD;cases hD
 have nMD:¬O.M D:=λmm=>by obtain⟨o,z⟩:=ok.here H0 D p0 mm;rw[hD] at z;cases z
 have hDH:H D=none:=by
  cases e:H D with
  | none=>rfl
  | some o=>have:=kp0 D o e nMD;rw[hD] at this;cases this
 have aD:∀b o,H b=some o->b≠D:=λb o e z=>by rw[z,hDH] at e;cases e
 have pl:∀{H':Hp} {b:Addr} {o:HO},¬O.M b->O.P H'->O.P (upd H' b o):=λ{H' b o} nb pp=>ok.loc H' _ (λc mc=>zaa λz=>nb (z ▸ mc)) pp
 refine⟨λi c ys H'=>c=m.toNat-i/\i<=m.toNat/\H' D=some (.lst ys)/\(∃w r:List Nat,ys=w.map (λc=>V.str (sg c))/\w.length=i/\(∀c∈w,zem c)/\H' l=some (.lst (r.map λc=>V.str (sg c)))/\r.length+i=26/\(∀c∈r,zem c)/\(w++r).Nodup) /\
  O.P H'/\(∀b o,H b=some o->¬O.M b->H' b=some o)/\TupStay H H',⟨_,rfl,QI _,zad,⟨[],abc,rfl,rfl,by simp,by rw[zaa nlD];exact hl0,rfl,by unfold zem;decide,by decide⟩,pl nMD p0,λb o e n=>?_,λb u _ e=>?_⟩,?_⟩
 .rw[zaa (aD b o e)];exact kp0 b o e n
 .rw[zaa (aD b u e)];exact ts0 b u ‹_› e
 rintro i c ys H' ⟨rfl,hi,hDy,⟨w,r,rfl,hw,hwl,hr,hrl,hrc,hnd⟩,pp,kp,ts⟩;refine⟨hDy,?_⟩
 by_cases hlt:i<m.toNat
 .right;refine⟨hlt,λx H2 zz=>?_⟩;obtain⟨e2,_⟩:=zz;subst e2;have hr0:0<r.length:=by lia
  show tBM K "list" zix (tVar 2) _ _ H2 _;refine⟨_,rfl,.inl ⟨rfl,_,.of hr⟩,_,rfl,?_⟩;refine⟨_,rfl,_,r.length,rfl,.inl ⟨_,.of hr,by rw[Qf]⟩,?_⟩;have okp:=(ok.plus D (w.map λc=>V.str (sg c))).plus l (r.map λc=>V.str (sg c))
  have nl2:¬(O.plus D (.lst (w.map λc=>V.str (sg c)))).M l:=λmm=>by
   rcases mm with mm|mm
   .exact nMl mm
   .exact nlD mm
  show spD K φ 1 zel ([O.v,V.int r.length] ++ []) H2 _ E0;refine⟨_,[.int r.length],[.int r.length],λx=>∃k:Int,x = .o (.int k)/\0<=k/\k<r.length,okp,hp _ l _ (hp _ D _ hφ nMD) nl2,⟨⟨pp,hDy⟩,hr⟩,rfl,rfl,.cons (.int _) .nil,⟨_,rfl,by lia,by lia,λk k0 k1=>⟨k,rfl,k0,k1⟩⟩,?_⟩;rintro _ ⟨k,rfl,k0,k1⟩ v H3 st o3;cases o3;obtain⟨⟨p3,hD3⟩,hl3⟩:=st.p ⟨⟨pp,hDy⟩,hr⟩;have hk:k.toNat<r.length:=by lia
  have ek:k=((k.toNat:Nat):Int):=by lia
  refine⟨l,_,k,k.toNat,V.str (sg r[k.toNat]),rfl,rfl,hl3,by lia,by lia,?_,by rw[Qi,Qb hk];rfl,?_⟩
  .rw[Qf];unfold Nq;simp only[show ¬k<0 by lia,NJ]
   first|(rw[ND (by lia)])|(simp;lia)|lia
  .have ne1:D≠l:=ZC nlD;refine⟨by rw[zaa ne1];exact hD3,by rw[Qf];lia,m.toNat-(i+1),by lia,rfl,hlt,zad,⟨w ++ [r[k.toNat]],r.eraseIdx k.toNat,by rw[QE];rfl,by rw[Ql,hw];rfl,λc hc=>?_,?_,?_,λc hc=>hrc c (zmp hc),?_⟩,pl nMD (pl nMl p3),λb o e n=>?_,λb u hu e=>?_⟩
   .rcases Q7.mp hc with hc|hc
    .exact hwl c hc
    .rw[Qm.mp hc];exact hrc _ (Zi hk)
   .rw[zaa nlD,zad,zli]
   .rw[YD];rw[ND hk];lia
   .rw[Qv];refine(List.Perm.nodup_iff (VI w ?_)).mp hnd;exact(zkw hk).symm
   .rw[zaa (aD b o e),zaa (al b o e)]
    exact st.s b o (kp b o e n) λmm=>by
     rcases mm with (mm|mm)|mm
     .exact n mm
     .exact aD b o e mm
     .exact al b o e mm
   .rw[zaa (aD b u e),zaa (al b u e)];exact st.t b u hu (ts b u hu e)
 .left;have e:i=m.toNat:=by lia
  refine⟨by show m.toNat<=i;lia,?_⟩;refine⟨D,w.map sg,rfl,by rw[hDy,Zd];rfl,by rw[Qf];lia,λzs z hpm hs hz=>?_⟩
  obtain⟨w2,rfl,hw2⟩:=unsg (zs:=zs) λy hy=>by
   obtain⟨c,hc,rfl⟩:=Qp.mp (hpm.mem_iff.mp hy);exact⟨c,rfl,hwl c hc⟩
  have hlen:w2.length=w.length:=by have:=hpm.length_eq;simpa using this
  have hinc:w2.Pairwise (· < ·):=by
   refine zqt hs ?_;have hw1:(w.map sg).Nodup:=ZP.mpr ((ZE.mp hnd).1.imp λne e=>ne (z1e e));have hw3:(w2.map sg).Nodup:=hpm.symm.nodup_iff.mp hw1;exact(ZP.mp hw3).imp λne e=>ne (NK sg e)
  have az:∀b o,H b=some o->¬O.M b->b≠z:=λb o eb n e2=>by rw[e2] at eb;have:=kp z o eb (e2 ▸ n);rw[hz] at this;cases this
  have nMz:¬O.M z:=λmm=>by obtain⟨o,y⟩:=ok.here H' z pp mm;rw[hz] at y;cases y
  have hzH:H z=none:=by
   cases e:H z with
   | none=>rfl
   | some o=>have:=kp z o e nMz;rw[hz] at this;cases this
  refine kk _ (q w2 (by lia) (by lia) hw2 hinc) _ _ ⟨λb o eb n=>by rw[zaa (az b o eb n)];exact kp b o eb n,λ_=>pl nMz pp,λb u hu eb=>?_⟩ ⟨z,_,rfl,hzH,zad,?_⟩
  .have h1:=ts b u hu eb;rw[zaa λe2=>by rw[e2,hz] at h1;cases h1];exact h1
  .have:=zfb (K:=K) (F:=unM O) (H:=upd H' z (.lst ((w2.map sg).map V.str))) (w2.map sg);rw[Zd (g:=Y8)] at this;exact this
theorem zlm{K:Qa}{O:Ob}{H:Hp}{ds:List G7}{ws:List V}{Qr:R->Prop}{Q:VK}{x1 x2:Str}(ok:O.Ok)(hφ:IsDeal O)(p:O.P H)(is:IsAll K (unM O) H ws ds)(q:zeo ds Qr)(kk:∀r,Qr r->∀v H',Stp O H H'->Out K O H H' v r->Q v H'):
 zgv K (spD K IsDeal 1 zel) { nx:=λ_ H'=>Q .non H',rt:=Q } (L2.start [x1,x2] (O.v::ws)) H:=zlp (λO D u h n=>h.plus D u n) ok hφ p is q kk
section
open PySem PySem.Builtin PySem.Builtin.Str
def sOk(x:PySem.Str):Prop:=∀c∈x.cps.toList,c<0x110000
theorem strOk_iff: Jl x=true↔sOk x:=by
 unfold Jl sOk;rw[Uu];simp
theorem zdt(hx:sOk x)(hy:sOk y):sOk (x++y):=by
 intro c hc
 have e:(x++y).cps.toList=x.cps.toList++y.cps.toList:=by
  show(x.cps++y.cps).toList=_;simp
 rw[e] at hc;rcases Q7.mp hc with hc|hc
 .exact hx c hc
 .exact hy c hc
theorem zpy(c:Char):c.toNat<0x110000:=by
 have:=c.valid;rcases this with h|h
 .exact Nat.lt_trans h (by decide)
 .exact h.2
theorem zco(s:String):sOk (PySem.Str.ofString s):=by
 intro c hc;have:c∈(s.toList.map V4):=by rw[PySem.Str.ofString_eq_toList] at hc;simpa using hc
 obtain⟨d,_,rfl⟩:=Qp.mp this;exact zpy d
theorem zh7(hs:sOk sep):∀{l:List PySem.Str},(∀x∈l,sOk x)->sOk (PySem.Str.join sep l)
 | [],_=>λc hc=>by cases hc
 | [x],h=>h x (by simp)
 | x::y::r,h=>zdt (zdt (h x (by simp)) hs) (zh7 hs (l:=y::r) λz hz=>h z (Qe _ hz))
theorem z5w{q c:Nat}(hc:c<0x110000):∀x∈reprChar q c,x<0x110000:=by
 have hex:∀w:Nat,∀x∈(Qt (w-((Y0 16 c).map V4).length) 48++(Y0 16 c).map V4),x<0x110000:=by
  intro w x hx;rcases Q7.mp hx with hx|hx
  .rw[(List.mem_replicate.mp hx).2];decide
  .obtain⟨d,_,rfl⟩:=Qp.mp hx;exact zpy d
 have two:∀a b:Nat,a<0x110000->b<0x110000->∀x∈[a,b],x<0x110000:=by
  intro a b ha hb x hx;rcases Qs.mp hx with rfl|hx
  .exact ha
  .rw[Qm.mp hx];exact hb
 have tw:∀a b w:Nat,a<0x110000->b<0x110000->∀x∈[a,b]++(Qt (w-((Y0 16 c).map V4).length) 48++(Y0 16 c).map V4),x<0x110000:=by
  intro a b w ha hb x hx;rcases Q7.mp hx with hx|hx
  .exact two a b ha hb x hx
  .exact hex w x hx
 intro x;unfold reprChar;dsimp only
 split
 .exact two _ _ (by decide) hc x
 split
 .exact two _ _ (by decide) (by decide) x
 split
 .exact two _ _ (by decide) (by decide) x
 split
 .exact two _ _ (by decide) (by decide) x
 split
 .intro hx;rw[Qm.mp hx];exact hc
 split
 .exact tw _ _ 2 (by decide) (by decide) x
 split
 .exact tw _ _ 4 (by decide) (by decide) x
 .exact tw _ _ 8 (by decide) (by decide) x
theorem zvu(h:sOk x):sOk (reprText x):=by
 have key:∀(q:Nat) (l:List Nat) (acc:Array Nat),(∀c∈l,c<0x110000)->(∀c∈acc.toList,c<0x110000)->∀c∈(l.foldl (λout c=>out++(reprChar q c).toArray) acc).toList,c<0x110000:=by
  intro q l
  induction l with
  | nil=>intro acc _ ha;exact ha
  | cons c l ih=>
    intro acc hl ha;refine ih _ (λd hd=>hl d (Qe _ hd)) λd hd=>?_;rw[Yh] at hd;rcases Q7.mp hd with hd|hd
    .exact ha d hd
    .exact z5w (hl c Qu) d (by simpa using hd)
 have hq:reprQuote x<0x110000:=by unfold reprQuote;split <;> decide
 intro c hc;unfold reprText at hc;rw[J4,<- Array.foldl_toList] at hc;rcases Q7.mp hc with hc|hc
 .have h0:∀d∈(#[reprQuote x]:Array Nat).toList,d<0x110000:=λd hd=>by
   have e:d=reprQuote x:=by simpa using hd
   rw[e];exact hq
  exact key _ _ _ h h0 c hc
 .rw[Qm.mp hc];exact hq
end
open PySem PySem.Spec
open PyProof.Rows hiding St
open L2
mutual
theorem zla:∀d:G7,d.canLay0=true->sOk d.shown
 | .none,_=>by rw[PyData.shown_none];exact zco _
 | .bool b,_=>by rw[PyData.shown_bool];cases b <;> exact zco _
 | .int i,_=>by rw[US];exact zco _
 | .str x,h=>by rw[PyData.shown_str];exact zvu (strOk_iff.mp (by simpa[Z6] using h))
 | .list xs,h=>by
   rw[PyData.shown_list];exact zdt (zdt (zco _) (zh7 (zco _) (zea xs (by simpa[Z6] using h)))) (zco _)
 | .tuple xs,h=>by
   rw[PyData.shown_tuple];exact zdt (zdt (zco _) (zh7 (zco _) (zea xs (by simpa[Z6] using h)))) (zco _)
 | .dict _,h=>by simp[Z6] at h
theorem zea:∀xs:List G7,Qw xs=true->∀x∈Gd xs,sOk x
 | [],_,_,hx=>by simp[Gd] at hx
 | d::xs,h,x,hx=>by
   rw[Qw,Qy] at h;rw[PyData.shownAll_cons] at hx;rcases Qs.mp hx with e|hx
   .rw[e];exact zla d h.1
   .exact zea xs h.2 x hx
end
theorem zy3{d:G7}(h1:d.canLay0=true)(h2:d.showable=true)(h3:d.depth<=60)(h4:d.leavesShort 13=true)(h5:d.bulk<=2 ^ 20):∃x,zft [d]=some (.o (.str x))/\Jl x=true:=by
 refine⟨d.shown,?_,strOk_iff.mpr (zla d h1)⟩;unfold zft;dsimp only;rw[ND];rw[h2,PyData.hasDict_of_canLay d h1,NH h3,NH (PyData.shown_fits_bulk (B:=13) (by decide) (by decide) h4 h5)];rfl
theorem zdh{α:Type}{f:α->G7}:∀{l:List α},(∀a∈l,(f a).canLay0=true)->Qw (l.map f)=true
 | [],_=>rfl
 | a::l,h=>by rw[Q8,Qw,h a Qu,zdh λx hx=>h x (Qe _ hx)];rfl
theorem zhi{α:Type}{f:α->G7}:∀{l:List α},(∀a∈l,(f a).showable=true)->YZ (l.map f)=true
 | [],_=>by simp[YZ]
 | a::l,h=>by rw[Q8,YZ,h a Qu,zhi λx hx=>h x (Qe _ hx)];rfl
theorem zec{α:Type}{f:α->G7}{n:Nat}:∀{l:List α},(∀a∈l,(f a).depth<=n)->Z7 (l.map f)<=n
 | [],_=>by simp[Z7]
 | a::l,h=>by
   rw[Q8,Z7];exact Nat.max_le.mpr ⟨h a Qu,zec λx hx=>h x (Qe _ hx)⟩
theorem zgb{α:Type}{f:α->G7}{B:Nat}:∀{l:List α},(∀a∈l,(f a).leavesShort B=true)->Y5 B (l.map f)=true
 | [],_=>by simp[Y5]
 | a::l,h=>by rw[Q8,Y5,h a Qu,zgb λx hx=>h x (Qe _ hx)];rfl
theorem zhl{α:Type}{f:α->G7}{n:Nat}:∀{l:List α},(∀a∈l,(f a).bulk<=n)->VW (l.map f)<=l.length * (n+1)
 | [],_=>by simp[VW]
 | a::l,h=>by
   rw[Q8,VW,Qk,Nat.succ_mul];have:=h a Qu;have:=zhl (f:=f) (n:=n) λx hx=>h x (Qe a hx);lia
theorem zs8(h:Jl x=true){B:Nat}:(Y8 x).leavesShort B=true:=by
 have h:=strOk_iff.mp h;rw[Va,Z8];intro c hc;have:=h c hc;exact NH (by lia)
section
variable {K:Qa}{O:Ob}
def disS(m:Nat)(g:DS):DS:=λDd ρ=>g Dd ρ\/∃ds,ρ[m]? = some (some (.own ds))/\g Dd (ρ.set m (some (.im (.list ds))))
theorem z1b{m:Nat}(h:SD K O t g):SD K O t (disS m g):=λH₀ A σ H ρ D Dd r q P=>by
 rcases q with q|⟨ds,e,q⟩
 .exact h H₀ A σ H ρ D Dd r q P
 .exact h H₀ _ σ H _ D Dd (r.disown e) q (P.frm (.setIm (.refl _ _)))
def setS(n m:Nat):DS:=λDd ρ=>∃d,ρ[m]? = some (some (.im d))/\Dd.nx (ρ.set n (some (.im d)))
theorem zzg{n m:Nat}:SD K O (tAsg (tVar m) (zax n)) (setS n m):=λH₀ A σ H ρ D Dd r q P=>by
 obtain⟨d,e,q⟩:=q;obtain⟨v,hv,h⟩:=r.at_ m _ e;exact⟨v,hv,P.nx _ _ H _ (r.setIm h) (.setIm (.refl _ _)) q⟩
end
section
variable {ι κ:Type}{P:GB}{w:GD}{K:Qa}{mg:Str->Option G5}{base:Heap}{k:Nat}{X:ι->Cx}{O:κ->Ob}{st:Stmt}{g:DS}{pos:Pos}
theorem zw9(m:Nat)(h:S3 K X O st g):S3 K X O st (disS m g):=let ⟨t,p,d⟩:=h;⟨t,p,λj=>z1b (d j)⟩
theorem z1r(n m:Nat)(hN:∀i,(X i).N.Nodup:=by intro i;exact NF (by kernel_rfl))(hi:∀i,(X i).N[n]? = some x:=by intro i;rfl)(hx:∀i,Loc (X i).env.scope x:=by intro i;first|exact Or.inl rfl|exact Or.inr rfl)
 (hN2:∀i,(X i).N[m]? = some y:=by intro i;rfl) (hv:∀i,Vis (X i).env.scope y:=by intro i;first|exact Or.inl rfl|exact Or.inr (Or.inl rfl)|exact Or.inr (Or.inr rfl)) (hd:(y == ("__debug__" : Str))=false:=by decide) (hcd:(y == ("__classdict__" : Str))=false:=by decide)
 (hs:∀i,Tj (.Name y py) (some (.Name x px)) pos.line (X i).env=pure false:=by intro i;rfl) (hf:∀i,(X i).fn x=true\/(X i).env.scope.names.lookup x=some .local:=by intro i;first|exact .inl rfl|exact .inr rfl):S3 K X O (.Assign [.Name x px] (.Name y py) pos) (setS n m) :=
 ⟨_,λi=>zb6 (hN i) (hi i) (hx i) (zaf (hN2 i) (hv i) hd hcd) (hs i) (hf i),λj=>zzg⟩
end
end L3
namespace L52
open PySem PySem.Spec
open PyProof.Rows hiding St
open L2 L3
def top(i:Nat):Stmt:=PySem.Challenge.pw_lostpost_k52_makers_and_words.main.body.getD i (.Pass ⟨0,0,0,0⟩)
section
variable {P:GB}{w:GD}{K:Qa}{mg:Str->Option G5}{base:Heap}{k:Nat}
abbrev zqn(P:GB)(w:GD)(K:Qa)(mg:Str->Option G5)(base:Heap):Prop:=Def3 P w K mg base 1 "_law_draw" ["_law_deal_here", "_law_many"] (spD K IsDeal 1 zel)
abbrev zq1:Stmt:=top 9
theorem z2y:FnScope ["_law_script", "_law_base", "_law_cells", "_law_number", "_law_cell"] ["_law_script", "_law_base"] (zab zq1):=⟨rfl,rfl,rfl,by decide +kernel,rfl,by decide +kernel,by decide +kernel⟩
theorem d_law_deal(B:Blt mg)(T:Top3 K mg "_law_deal" zq1):Def3 P w K mg base 1 "_law_deal" ["_law_script", "_law_base"] (zir K):=by
 obtain⟨f,fd,Fu,m⟩:=T.ex;refine⟨f,fd,Fu.ok z2y (λvs H Q E h=>by obtain⟨a,ns,rfl,_⟩:=h;rfl) (λcdv A outer s H vs Q E hr h=>?_),m,Fu.kp,Fu.binds (λ_ _ _ _ _ _ us hl=>len2 hl λ_ _=>rfl)⟩;obtain⟨a,ns,rfl,hS,hl,q⟩:=h;refine⟨ztk K (tOp (rI0 λi j=>.int (i+j)) (tC (.int 7919)) (tVar 1)) (tOp (rI (λ_ j=>0<j) λi j=>.int (i % j)) (tOp (rI0 λi j=>.int (i+j)) (tOp (rI CMul λi j=>.int (i * j)) (tVar 3) (tC (.int 48271))) (tOp (rI (λ_ j=>0<j) λi j=>.int (i % j)) (tVar 4) (tC (.int 2147483629)))) (tC (.int 2147483647))),?_,zra (s0:=7919+0) (by decide) (by decide) (λv v1 H Q q=>⟨_,rfl,7919,0,rfl,rfl,q⟩) (λv v1 s n H Q h1 h2 q=>⟨_,rfl,s,48271,rfl,rfl,.inl ⟨by lia,by lia⟩,_,rfl,n,2147483629,rfl,rfl,(show(0:Int)<2147483629 by decide),_,_,rfl,rfl,_,_,rfl,rfl,(show(0:Int)<2147483647 by decide),q _ (JQ _ (by decide)) (Int.lt_of_lt_of_le (Jy _ (by decide)) (by decide))⟩) hS hl q⟩;have nd:(["_law_script", "_law_base", "_law_cells", "_law_number", "_law_cell"]:List Str).Nodup:=by decide +kernel
 exact(za7 (zfc (n0:=2) nd rfl rfl rfl 1 (N':=["_law_cell", "_law_script", "_law_base", "_law_cells", "_law_number", "._law_cell"]) (.of rfl (by kernel_rfl)) rfl (zcz (zme sl_list (zaf (i:=0) rfl (by first|exact Or.inl rfl|exact Or.inr (Or.inl rfl)|exact Or.inr (Or.inr rfl))) (zjw (zaf (i:=1) rfl (by first|exact Or.inl rfl|exact Or.inr (Or.inl rfl)|exact Or.inr (Or.inr rfl)))) (zjw zau))) (λC s H ex=>zdu (NF (by kernel_rfl)) rfl (by first|exact Or.inl rfl|exact Or.inr rfl) (by first|exact .inl rfl|exact .inr rfl)) (zd4 (by decide)) (λC s H ex=>zgi) (λC s H ex=>zd9 (zr6 rfl) rfl B.max z2c (zaq (zaf (i:=0) rfl (by first|exact Or.inl rfl|exact Or.inr (Or.inl rfl)|exact Or.inr (Or.inr rfl))) (zaq (za4 z2r zau (zaf (i:=0) rfl (by first|exact Or.inl rfl|exact Or.inr (Or.inl rfl)|exact Or.inr (Or.inr rfl)))) zbf))))
  (za7 (zb6 (i:=3) nd rfl (by first|exact Or.inl rfl|exact Or.inr rfl) (za4 op_add zau (zaf (i:=1) rfl (by first|exact Or.inl rfl|exact Or.inr (Or.inl rfl)|exact Or.inr (Or.inr rfl)))))
  (za7 (zr1 VD rfl (zcz (zaf (i:=2) rfl (by first|exact Or.inl rfl|exact Or.inr (Or.inl rfl)|exact Or.inr (Or.inr rfl)))) (zdu (i:=4) nd rfl (by first|exact Or.inl rfl|exact Or.inr rfl)) (zcm (zb6 (i:=3) nd rfl (by first|exact Or.inl rfl|exact Or.inr rfl) (za4 zdb (za4 op_add (za4 ze5 (zaf (i:=3) rfl (by first|exact Or.inl rfl|exact Or.inr (Or.inl rfl)|exact Or.inr (Or.inr rfl))) zau) (za4 zdb (zaf (i:=4) rfl (by first|exact Or.inl rfl|exact Or.inr (Or.inl rfl)|exact Or.inr (Or.inr rfl))) zau)) zau))))
  (zcm (zd7 (zxx (zh6 zbs (zaf (i:=3) rfl (by first|exact Or.inl rfl|exact Or.inr (Or.inl rfl)|exact Or.inr (Or.inr rfl))) (zh6 zbs zau (zh6 zbs (zql (hr.hd) rfl B.list rfl B.reversed (zj1 1 (N':=["_law_cell", "_law_script", "_law_base", "_law_cells", "_law_number", "._law_cell"]) (.of rfl (by kernel_rfl)) rfl (zcz (zaf (i:=2) rfl (by first|exact Or.inl rfl|exact Or.inr (Or.inl rfl)|exact Or.inr (Or.inr rfl)))) (λC s H ex=>zdu (NF (by kernel_rfl)) rfl (by first|exact Or.inl rfl|exact Or.inr rfl) (by first|exact .inl rfl|exact .inr rfl)) (zd4 (by decide)) (λC s H ex=>zse (ze7 z4o (zaf (i:=0) rfl (by first|exact Or.inl rfl|exact Or.inr (Or.inl rfl)|exact Or.inr (Or.inr rfl))) (za4 z2m zau zau) (zdc _))) (λC s H ex=>(zaf (i:=0) rfl (by first|exact Or.inl rfl|exact Or.inr (Or.inl rfl)|exact Or.inr (Or.inr rfl)))))) zx8))) rfl rfl (by simp) (by decide)))))))
def dc:DC:=⟨7919,40692,104729,2147483399,2147483563,2147483629⟩
theorem z6d:dc.Ok:=⟨by decide,by decide,by decide,by decide⟩
abbrev zq8:Stmt:=top 10
theorem z2n:FnScope ["_law_deal_here", "_law_many", "_law_number", "_law_one", "_law_other"] ["_law_deal_here", "_law_many"] (zab zq8):=⟨rfl,rfl,rfl,by decide +kernel,rfl,by decide +kernel,by decide +kernel⟩
theorem d_law_draw(B:Blt mg)(T:Top3 K mg "_law_draw" zq8):Def3 P w K mg base 1 "_law_draw" ["_law_deal_here", "_law_many"] (spD K IsDeal 1 zel):=by
 obtain⟨f,fd,Fu,m⟩:=T.ex;refine⟨f,fd,Fu.ok z2n (zkd rfl) (λcdv A outer s H vs Q E hr h=>?_),m,Fu.kp,Fu.binds (λ_ _ _ _ _ _ us hl=>len2 hl λ_ _=>rfl)⟩;obtain⟨O,ds,ws,Qr,ok,hφ,p,hl,rfl,is,q,kk⟩:=h;refine⟨zj6 K dc,?_,zok z6d hφ p is q kk⟩;have nd:(["_law_deal_here", "_law_many", "_law_number", "_law_one", "_law_other"]:List Str).Nodup:=by decide +kernel
 exact(za7 (znd VD (PW.pt (zsv (ze7 z5a (zc1 (zc4 hr) (zaf (i:=0) rfl (by first|exact Or.inl rfl|exact Or.inr (Or.inl rfl)|exact Or.inr (Or.inr rfl))) zbs (λ_ _=>rfl)) zau (zdc _)) (zox (ze7 zxa (zd9 zhq rfl B.len zms (zaq (zc1 (zc4 hr) (zaf (i:=0) rfl (by first|exact Or.inl rfl|exact Or.inr (Or.inl rfl)|exact Or.inr (Or.inr rfl))) zbs (λ_ _=>rfl)) zbf)) zau (zdc _))))) (zcm (zjr (zc4 hr) (zaf (i:=0) rfl (by first|exact Or.inl rfl|exact Or.inr (Or.inl rfl)|exact Or.inr (Or.inr rfl))) zbs (z3d ZT VJ VL zz1 (zc1 (zc4 hr) (zaf (i:=0) rfl (by first|exact Or.inl rfl|exact Or.inr (Or.inl rfl)|exact Or.inr (Or.inr rfl))) zbs (λ_ _=>rfl))) rfl)))
  (za7 (zb6 (i:=2) nd rfl (by first|exact Or.inl rfl|exact Or.inr rfl) (zc1 (zc4 hr) (zaf (i:=0) rfl (by first|exact Or.inl rfl|exact Or.inr (Or.inl rfl)|exact Or.inr (Or.inr rfl))) zbs (λ_ _=>rfl)))
  (za7 (zxd (ze7 zxa (zaf (i:=2) rfl (by first|exact Or.inl rfl|exact Or.inr (Or.inl rfl)|exact Or.inr (Or.inr rfl))) zau (zdc _)) (za7 (zjr (zc4 hr) (zaf (i:=0) rfl (by first|exact Or.inl rfl|exact Or.inr (Or.inl rfl)|exact Or.inr (Or.inr rfl))) zbs (za4 zzs (zaf (i:=2) rfl (by first|exact Or.inl rfl|exact Or.inr (Or.inl rfl)|exact Or.inr (Or.inr rfl))) (zaf (i:=1) rfl (by first|exact Or.inl rfl|exact Or.inr (Or.inl rfl)|exact Or.inr (Or.inr rfl)))) rfl) (zcm (zd7 (za4 zdb (zaf (i:=2) rfl (by first|exact Or.inl rfl|exact Or.inr (Or.inl rfl)|exact Or.inr (Or.inr rfl))) (zaf (i:=1) rfl (by first|exact Or.inl rfl|exact Or.inr (Or.inl rfl)|exact Or.inr (Or.inr rfl))))))) zo0)
  (za7 (zb6 (i:=3) nd rfl (by first|exact Or.inl rfl|exact Or.inr rfl) (za4 zdb (za4 op_add (za4 ze5 (zc1 (zc4 hr) (zaf (i:=0) rfl (by first|exact Or.inl rfl|exact Or.inr (Or.inl rfl)|exact Or.inr (Or.inr rfl))) zbs (λ_ _=>rfl)) zau) zau) zau))
  (za7 (zjr (zc4 hr) (zaf (i:=0) rfl (by first|exact Or.inl rfl|exact Or.inr (Or.inl rfl)|exact Or.inr (Or.inr rfl))) zbs (za4 zdb (za4 op_add (za4 ze5 (zaf (i:=3) rfl (by first|exact Or.inl rfl|exact Or.inr (Or.inl rfl)|exact Or.inr (Or.inr rfl))) zau) zau) zau) rfl)
  (za7 (zb6 (i:=4) nd rfl (by first|exact Or.inl rfl|exact Or.inr rfl) (za4 zdb (za4 ze5 (zc1 (zc4 hr) (zaf (i:=0) rfl (by first|exact Or.inl rfl|exact Or.inr (Or.inl rfl)|exact Or.inr (Or.inr rfl))) zbs (λ_ _=>rfl)) (zc1 (zc4 hr) (zaf (i:=0) rfl (by first|exact Or.inl rfl|exact Or.inr (Or.inl rfl)|exact Or.inr (Or.inr rfl))) zbs (λ_ _=>rfl))) zau))
  (zcm (zd7 (za4 zdb (za4 op_add (za4 ze5 (za4 zdb (za4 ze5 (zaf (i:=3) rfl (by first|exact Or.inl rfl|exact Or.inr (Or.inl rfl)|exact Or.inr (Or.inr rfl))) (zaf (i:=3) rfl (by first|exact Or.inl rfl|exact Or.inr (Or.inl rfl)|exact Or.inr (Or.inr rfl)))) zau) zau) (zaf (i:=4) rfl (by first|exact Or.inl rfl|exact Or.inr (Or.inl rfl)|exact Or.inr (Or.inr rfl)))) (zaf (i:=1) rfl (by first|exact Or.inl rfl|exact Or.inr (Or.inl rfl)|exact Or.inr (Or.inr rfl))))))))))))
abbrev zh3:Stmt:=top 11
theorem zsz:FnScope ["_law_deal_here", "_law_left"] ["_law_deal_here"] (zab zh3):=⟨rfl,rfl,rfl,by decide +kernel,rfl,by decide +kernel,by decide +kernel⟩
theorem zdi(B:Blt mg)(d_law_draw:zqn P w K mg base)(T:Top3 K mg "_law_letters" zh3):Def3 P w K mg base 2 "_law_letters" ["_law_deal_here"] (spD K IsDeal 0 zeo):=by
 obtain⟨f,fd,Fu,m⟩:=T.ex;refine⟨f,fd,Fu.ok zsz (zkd rfl) (λcdv A outer s H vs Q E hr h=>?_),m,Fu.kp,Fu.binds (λ_ _ _ _ _ _ us hl=>len1 hl λ_=>rfl)⟩;obtain⟨O,ds,ws,Qr,ok,hφ,p,hl,rfl,is,q,kk⟩:=h;refine⟨zgv K (spD K IsDeal 1 zel),?_,zlm ok hφ p is q kk⟩;have nd:(["_law_deal_here", "_law_left"]:List Str).Nodup:=by decide +kernel
 obtain⟨fD,fdD,G,mD,kpD,bnD⟩:=d_law_draw.ex
 exact za7 (zb6 (i:=1) nd rfl (by first|exact Or.inl rfl|exact Or.inr rfl) (zlg (zq6 rfl) rfl B.list zya (zaq zbs zbf)))
  (zcm (zd7 (zd9 zri rfl B.sorted zdd (zaq
   (zj1 1 (N':=["_law_k", "_law_deal_here", "_law_left"]) (.of rfl (by kernel_rfl)) rfl (zk3 rfl B.range (zaq (za4 op_add zau (zdw (k:=1) (by exact G) (by exact hr) rfl mD kpD bnD .nil zg1 (zaq (zaf (i:=0) rfl (by first|exact Or.inl rfl|exact Or.inr (Or.inl rfl)|exact Or.inr (Or.inr rfl))) (zaq zau zbf)))) zbf))
    (λC s H ex=>zdu (NF (by kernel_rfl)) rfl (by first|exact Or.inl rfl|exact Or.inr rfl) (by first|exact .inl rfl|exact .inr rfl)) (zd4 (by decide)) (λC s H ex=>zgi)
    (λC s H ex=>zi1 ZT VJ VL zs0 (zaf (i:=2) rfl (by first|exact Or.inl rfl|exact Or.inr (Or.inl rfl)|exact Or.inr (Or.inr rfl)))
     (zaq (zdw (k:=1) (by exact G) (by exact hr) rfl mD kpD bnD .nil zg1 (zaq (zaf (i:=1) rfl (by first|exact Or.inl rfl|exact Or.inr (Or.inl rfl)|exact Or.inr (Or.inr rfl))) (zaq (zd9 zhq rfl B.len zms (zaq (zaf (i:=2) rfl (by first|exact Or.inl rfl|exact Or.inr (Or.inl rfl)|exact Or.inr (Or.inr rfl))) zbf)) zbf))) zbf))) zbf))))
end
end L52
namespace L3
open PySem PySem.Spec
open PyProof.Rows hiding St
open L2
open PySem.W (CodeHd tabObj fnMade fnX)
theorem zmf(a b:Int)(c:G5)(l:List G5):M7 l->M7 (l ++ [GQ a,GQ b,c]):=by
 fun_induction M7 l with
 | case1=>intro _;exact Jw
 | case2 i t j u c r ih=>intro h;exact ih h
 | case3=>intro h;exact h.elim
theorem zqy(p:Pos)(a b:Int)(c:G5)(l:List G5):M7 l->∀v,TH p (l ++ [GQ a,GQ b,c])=some v->TH p l=some v\/(a=p.line/\b=p.col/\v=c):=by
 fun_induction TH p l with
 | case1 i t j u c' r e=>
   intro _ v h;have h':TH p (.int i t :: .int j u::c'::(r ++ [GQ a,GQ b,c]))=some v:=h;unfold TH at h';rw[ND e] at h';exact .inl h'
 | case2 i t j u c' r e ih=>
   intro tr v h;have h':TH p (.int i t :: .int j u::c'::(r ++ [GQ a,GQ b,c]))=some v:=h;unfold TH at h';rw[NE e] at h';exact ih tr v h'
 | case3 l hl=>
   intro tr v h
   cases l with
   | nil=>
     have h':TH p (.int a 0 :: .int b 0::c :: [])=some v:=h;unfold TH at h'
     by_cases e:((a == p.line) && (b == p.col))=true
     .rw[ND e] at h';cases h';simp only[Qy,NP] at e;exact .inr ⟨e.1,e.2,rfl⟩
     .rw[NE e] at h';cases h'
   | cons x l=>
     exfalso;unfold M7 at tr
     split at tr
     .rename_i z;cases z
     .rename_i z;injection z with z1 z2;subst z1;subst z2;exact hl _ _ _ _ _ _ rfl
     .exact tr
structure Nst(mg:Str->Option G5)(base:Heap)(c P:Addr):Prop where
 bm:∃bm ob,mg "__builtins__" = some (.ref bm)/\bm≠TZ/\base.get? bm=some ob/\ob.cls = .type "module" /\ ob.dict=some TZ/\ob.data = .plain
 hd:CodeHd base c P
def Yng(name qual:Str)(params:TR)(body:List Stmt)(scope:GV)(clos:List (Str×Addr))(F:Addr->Prop)(H:Hp)(f:Addr):Prop :=
 ∃(c':Addr) (oc:Obj) (vs:Array G5) (t:Tok) (doc pm ctv:G5),F f/\F c'/\H f=some (.frz (fnMade name qual params body scope clos doc pm c' ctv) (.own 0))/\H c'=some (.frz oc (.own 0))/\oc.data = .fields vs/\vs[1]? = some (.str qual t)
def tDef(i:Nat)(P:Addr)(qs:List (Pos×Str))(Y:Hp->Addr->Prop):TS:=λD σ H=>(∃ps,H P=some (.cod ps qs))/\∀f H' ps',H' P=some (.cod ps' qs)->(∀b o,H b=some o->b≠P->H' b=some o)->H f=none->Y H' f->D.nx (σ.set i (some (.ref f))) H'
section
variable {X:Cx}{pins:List (Addr×Obj)}{σ:St}{H:Hp}{s:G8}
theorem zt8(N:Nst X.mg X.base c P)(I:Inv X pins σ H s)(hP:H P=some o):s.heap.BuiltinsAt X.mg P:=by
 obtain⟨bm,ob,e1,e2,e3,e4,e5,e6⟩:=N.bm;refine⟨bm,ob,e1,e2,λz=>?_,λz=>?_,I.bk _ _ e3,e4,e5,e6⟩
 .obtain⟨o',es,ep,g1,g2,_⟩:=I.mod.glob;rw[z,g1] at e3;cases e3;rw[g2] at e6;cases e6
 .have:=(I.bs _ _ e3).2;rw[z,hP] at this;cases this
theorem z2p(I:Inv X pins σ H s)(hP:H P=some o):mainGlobals≠P:=λz=>by
 obtain⟨o',es,ep,g1,g2,_⟩:=I.mod.glob;have:=(I.bs _ _ g1).2;rw[z,hP] at this;cases this
theorem zu8{c' P:Addr}{ps:Array G5}{qs:List (Pos×Str)}{pos:Pos}{qual:Str}{h':Heap}{fo:Obj}{tk:Nat}(hfo:fo.isFreed=false)(I:Inv X pins σ H s)(hP:H P=some (.cod ps qs))(hu:∀p∈qs,(pos.line:Int)=p.1.line->(pos.col:Int)=p.1.col->p.2=qual)
 (hx:Heap.ExtBut P s.heap h') (hge:s.heap.objs.size<=c') (hlt:c'<h'.objs.size) (hrec:h'.CodeRec (.ref c') qual) (htb:h'.get? P=some (tabObj (ps ++ #[GQ pos.line,GQ pos.col,.ref c']))) :
 ∃oc vs t,oc.data = .fields vs/\vs[1]? = some (.str qual t)/\Inv X pins σ (upd (upd (upd H P (.cod (ps ++ #[GQ pos.line,GQ pos.col,.ref c']) qs)) c' (.frz oc (.own 0))) h'.objs.size (.frz fo (.own 0))) { s with heap:=h'.push fo,toks:=tk }:=by
 obtain⟨c2,oc,vs,t,e2,hoc,hd,hv⟩:=hrec;cases e2;refine⟨oc,vs,t,hd,hv,?_⟩;have okP:=I.hok P _ hP;obtain⟨eP,tr,cs⟩:=okP;have ltP:P<s.heap.objs.size:=Qq eP;have nc:c'≠P:=λz=>QS _ (QA (z ▸ ltP) hge);have hsz:s.heap.objs.size<=h'.objs.size:=QN hge (ZY hlt);have nf:h'.objs.size≠P:=λz=>QS _ (QA ltP (z ▸ hsz));have nfc:h'.objs.size≠c':=λz=>QS _ (z ▸ hlt);have hc0:H c'=none:=I.hok.fresh hge;have hf0:H h'.objs.size=none:=I.hok.fresh hsz
 have old:∀b u,H b=some u->b≠P->upd (upd (upd H P (.cod (ps ++ #[GQ pos.line,GQ pos.col,.ref c']) qs)) c' (.frz oc (.own 0))) h'.objs.size (.frz fo (.own 0)) b=some u:=λb u e n=>by
  rw[zaa (zas e hf0),zaa (zas e hc0),zaa n];exact e
 have eC:upd (upd (upd H P (.cod (ps ++ #[GQ pos.line,GQ pos.col,.ref c']) qs)) c' (.frz oc (.own 0))) h'.objs.size (.frz fo (.own 0)) c'=some (.frz oc (.own 0)):=by rw[zaa (ZC nfc),zad]
 have eP':upd (upd (upd H P (.cod (ps ++ #[GQ pos.line,GQ pos.col,.ref c']) qs)) c' (.frz oc (.own 0))) h'.objs.size (.frz fo (.own 0)) P=some (.cod (ps ++ #[GQ pos.line,GQ pos.col,.ref c']) qs):=by rw[zaa (ZC nf),zaa (ZC nc),zad]
 have eF:upd (upd (upd H P (.cod (ps ++ #[GQ pos.line,GQ pos.col,.ref c']) qs)) c' (.frz oc (.own 0))) h'.objs.size (.frz fo (.own 0)) h'.objs.size=some (.frz fo (.own 0)):=zad
 have fre:∀b (o:Obj),s.heap.get? b=some o->H b=none->upd (upd (upd H P (.cod (ps ++ #[GQ pos.line,GQ pos.col,.ref c']) qs)) c' (.frz oc (.own 0))) h'.objs.size (.frz fo (.own 0)) b=none:=λb o e n=>by
  have lb:=Qq e;rw[zaa (Q1 (QA lb hsz)),zaa (Q1 (QA lb hge)),zaa (λz=>by rw[z,hP] at n;cases n)];exact n
 have smn:∀b,b≠P->b≠c'->b≠h'.objs.size->upd (upd (upd H P (.cod (ps ++ #[GQ pos.line,GQ pos.col,.ref c']) qs)) c' (.frz oc (.own 0))) h'.objs.size (.frz fo (.own 0)) b=H b:=λb n1 n2 n3=>by rw[zaa n3,zaa n2,zaa n1]
 generalize upd (upd (upd H P (.cod (ps ++ #[GQ pos.line,GQ pos.col,.ref c']) qs)) c' (.frz oc (.own 0))) h'.objs.size (.frz fo (.own 0))=H1 at old eC eP' eF fre smn;have kp:∀b o,b≠P->s.heap.get? b=some o->(h'.push fo).get? b=some o:=λb o n e=>Qc _ (hx b o n e);have nP:∀b,H b=none->b≠P:=λb n z=>by rw[z,hP] at n;cases n
 have nown:∀b y,H b=some (.own y)->b≠P:=λb y e z=>by rw[z,hP] at e;cases e
 refine I.step (g':=s.gens) (d':=s.drawn) (t':=tk) (ch:=[]) (λ_ z=>nomatch z) (λb o _ _ _ e n=>kp b o (nP b n) e) (λb o _ _ _ e n=>⟨o.slots,kp b o (nP b n) e⟩) (λb o _ e n=>fre b o e n) (λb o _ e=>?_)
  (λb xs e=>old b _ e λz=>by rw[z,hP] at e;cases e) (λb o u e=>old b _ e λz=>by rw[z,hP] at e;cases e) (λb qs e=>⟨#[],by rw[Array.append_empty];exact old b _ e λz=>by rw[z,hP] at e;cases e⟩) (λm hn=>?_) (λb u e=>?_) I.bare
 .by_cases z:b=P
  .exact⟨_,z ▸ Qc _ htb⟩
  .exact⟨o,kp b o z e⟩
 .exact(hn.extBut hx λz=>by have:=I.free;rw[z,hP] at this;cases this).push _
 .by_cases zf:b=h'.objs.size
  .subst zf;rw[eF] at e;cases e;exact⟨Qo _ hfo,_,Qo _ hfo⟩
  by_cases zc:b=c'
  .subst zc;rw[eC] at e;cases e;exact⟨Qc _ hoc,_,Qc _ hoc⟩
  by_cases zP:b=P
  .subst zP;rw[eP'] at e;cases e;refine⟨Qc _ htb,by rw[Yh];exact zmf _ _ _ _ tr,λp hp cv hcv=>?_⟩;rw[Yh] at hcv;rcases zqy _ _ _ _ _ tr _ hcv with z|⟨z1,z2,rfl⟩
   .obtain⟨c1,o1,v1,t1,a1,a2,a3⟩:=cs p hp cv z;exact⟨c1,o1,v1,t1,a1,old _ _ a2 (λz=>by rw[z,hP] at a2;cases a2),a3⟩
   .exact⟨c',oc,vs,t,rfl,eC,hd,by rw[hu p hp z1 z2];exact hv⟩
  .have eb:H b=some u:=by rw[<- smn b zP zc zf];exact e
   exact(I.hok b u eb).stay (λc v hc q=>kp c v (by rcases hc with z|z;exact z ▸ zP;exact nown _ _ z) q) (λc q=>old c _ q (nown _ _ q)) (λc xs q=>old c _ q λz=>by rw[z,hP] at q;cases q) λc o q=>old c _ q λz=>by rw[z,hP] at q;cases q
end
section
variable {X:Cx}{pins:List (Addr×Obj)}{σ:St}{H:Hp}{s:G8}
theorem z3s{i:Nat}{name qual:Str}{params:TR}{body:List Stmt}{scope:GV}(N:Nst X.mg X.base c P)(hc:X.env.code = .ref c)(hq:(pos,qual)∈qs)(hu:∀p∈qs,(pos.line:Int)=p.1.line->(pos.col:Int)=p.1.col->p.2=qual)
 (hfr:∀p∈scope.names,p.2 = .free->X.env.kindOf p.1=some .cell\/X.env.kindOf p.1=some .free) (hN:X.N.Nodup) (hi:X.N[i]? = some name) (hx:Loc X.env.scope name)
 (hf:X.fn name=true\/X.env.scope.names.lookup name=some .local:=by first|exact .inl rfl|exact .inr rfl|assumption)
 (hd0:params.defaults = []:=by rfl) (hk0:params.kw_defaults = []:=by rfl) (ha:annTrees params none X.env = []:=by rfl) (hqn:qualnameIn X.env name name=qual:=by rfl) :
 PS X (.FunctionDef name params body [] none [] scope none name pos) (tDef i P qs (Yng name qual params body scope (clOf scope.names X.env) λ_=>True)):=by
 intro pins s σ H D I h;obtain⟨⟨ps,hP⟩,h⟩:=h;obtain⟨eP,tr,cs⟩:=I.hok P _ hP;refine PySem.W.nestDef_K hd0 hk0 ha ?_;rw[hqn];have hcl:=zie (scope:=scope) (env:=X.env) λp hp hk=>I.ok.has p.1 (hfr p hp hk);have hgs:s.heap.Ns mainGlobals X.mg:=I.mod.glob.keeps I.bk
 cases hcm:TH pos ps.toList with
 | none=>
   refine PySem.W.makeFunction_K (mg:=X.mg) hcl I.ok.glob hgs hc (N.hd.keeps I.bk) eP tr hcm (z2p I hP) (zt8 N I hP) λc' ctv doc h' tk hx' hge hlt hrec htb=>?_;obtain⟨oc,vs,t,hd,hv,I1⟩:=zu8 (fo:=fnMade name qual params body scope (clOf scope.names X.env) doc ((X.mg "__name__").getD .none) c' ctv) (tk:=tk) rfl I hP hu hx' hge hlt hrec htb;have ltP:P<s.heap.objs.size:=Qq eP;have nc:c'≠P:=λz=>QS _ (QA (z ▸ ltP) hge);have hsz:s.heap.objs.size<=h'.objs.size:=QN hge (ZY hlt);have nf:h'.objs.size≠P:=λz=>QS _ (QA ltP (z ▸ hsz));have nfc:h'.objs.size≠c':=λz=>QS _ (z ▸ hlt);have hc0:H c'=none:=I.hok.fresh hge;have hf0:H h'.objs.size=none:=I.hok.fresh hsz;refine zed (v:=.ref h'.objs.size) I1 hN hi hx rfl (λs' I2=>⟨_,_,I2,h h'.objs.size _ (ps ++ #[GQ pos.line,GQ pos.col,.ref c']) ?_ (λb o e n=>?_) hf0 ⟨c',oc,vs,t,doc,_,ctv,trivial,trivial,zad,?_,hd,hv⟩⟩) hf
   .rw[zaa (ZC nf),zaa (ZC nc),zad]
   .rw[zaa (zas e hf0),zaa (zas e hc0),zaa n];exact e
   .rw[zaa (ZC nfc),zad]
 | some cv=>
   obtain⟨c',oc,vs,t,rfl,a2,a3,a4⟩:=cs _ hq _ hcm;refine PySem.W.makeFunction_hit (mg:=X.mg) hcl I.ok.glob hgs hc (N.hd.keeps I.bk) eP tr hcm (zt8 N I hP) λctv doc h' tk hk hsz=>?_;have hf0:H h'.objs.size=none:=I.hok.fresh hsz
   have I1:=I.laid (t':=tk) (o:=.frz (fnMade name qual params body scope (clOf scope.names X.env) doc ((X.mg "__name__").getD .none) c' ctv) (.own 0)) (a:=h'.objs.size) (h':=h'.push (fnMade name qual params body scope (clOf scope.names X.env) doc ((X.mg "__name__").getD .none) c' ctv))
    (λb u e=>Qc _ (hk b u e)) hsz ⟨Qo _ rfl,_,Qo _ rfl⟩
   refine zed (v:=.ref h'.objs.size) I1 hN hi hx rfl (λs' I2=>⟨_,_,I2,h h'.objs.size _ ps ?_ (λb o e n=>?_) hf0 ⟨c',oc,vs,t,doc,_,ctv,trivial,trivial,zad,?_,a3,a4⟩⟩) hf
   .rw[zaa (zas hP hf0)];exact hP
   .rw[zaa (zas e hf0)];exact e
   .rw[zaa (zas a2 hf0)];exact a2
end
def cutC(as:List Addr)(H:Hp):Hp:=λb=>if b∈as then none else H b
def addC(as:List Addr)(oc:Addr->Obj)(H:Hp):Hp:=λb=>if b∈as then some (.frz (oc b) (.own 1)) else H b
theorem zak{as:List Addr}(n:b ∉ as):cutC as H b=H b:=NE n
theorem zez{as:List Addr}(n:b∈as):cutC as H b=none:=ND n
theorem za1{as:List Addr}(n:b ∉ as):addC as oc H b=H b:=NE n
theorem zex{as:List Addr}(n:b∈as):addC as oc H b=some (.frz (oc b) (.own 1)):=ND n
theorem z5j(z:HO.frz o (.own 0) = .frz o' (.own 1)):False:=by
 injection z with _ z2;injection z2 with z3;exact absurd z3 (show ¬(0:Nat)=1 by decide)
theorem zpr{as:List Addr}(x:HOk P w H h)(ha:∀b∈as,H b=none\/∃o,H b=some (.frz o (.own 1))):HOk P w (cutC as H) h:=λb u e=>by
 have nb:b ∉ as:=λz=>by rw[zez z] at e;cases e
 rw[zak nb] at e
 have no:∀c v,H c=some v->(∀o,v≠.frz o (.own 1))->c ∉ as:=λc v q n z=>by
  rcases ha c z with y|⟨o,y⟩ <;> rw[q] at y <;> cases y;exact n o rfl
 exact(x b u e).stay (λc v _ q=>q) (λc q=>by rw[zak (no c _ q λo' z=>by injection z)];exact q) (λc xs q=>by rw[zak (no c _ q λo' z=>by injection z)];exact q) λc o q=>by rw[zak (no c _ q λo' z=>z5j z)];exact q
theorem zz5{as:List Addr}(x:HOk P w H h)(ha:∀b∈as,H b=none/\h.get? b=some (oc b)):HOk P w (addC as oc H) h:=λb u e=>by
 by_cases nb:b∈as
 .rw[zex nb] at e;cases e;exact⟨(ha b nb).2,_,(ha b nb).2⟩
 .rw[za1 nb] at e;have no:∀c v,H c=some v->c ∉ as:=λc v q z=>by rw[(ha c z).1] at q;cases q
  exact(x b u e).stay (λc v _ q=>q) (λc q=>by rw[za1 (no c _ q)];exact q) (λc xs q=>by rw[za1 (no c _ q)];exact q) λc o q=>by rw[za1 (no c _ q)];exact q
def zl7(qual:Str)(scope:GV)(L f:Addr)(cd:G5)(clos:List (Str×Addr)):Env :=
 { scope:=scope,locals:=L,globals:=mainGlobals,cells:=GT (L+1) scope.names clos,qual:=qual ++ ".<locals>.",func:=some f,code:=cd,frame:=some L,builtins:=TZ }
def cxCl(P:GB)(w:GD)(K:Qa)(mg:Str->Option G5)(base:Heap)(N:List Str)(qual:Str)(scope:GV)(f:Addr)(cd:G5)(clos:List (Str×Addr))(A:GF)(outer:List Env)(s:G8)(H:Hp):Cx where
 prog:=P
 w:=w
 K:=K
 mg:=mg
 base:=base
 A:=A.deeper (zl7 qual scope s.heap.objs.size f cd clos)
 N:=N
 s₀:=s
 H₀:=H
 env:=zl7 qual scope s.heap.objs.size f cd clos
 outer:=outer
 stack:=zl7 qual scope s.heap.objs.size f cd clos::outer
 ex:=[]
 calm:=true
 fn:=λx=>scope.names.lookup x != some .free
 pn:=[]
 xe:=λ_ _=>False
structure FnScopeC(N ps fs:List Str)(sc:GV):Prop where
 kind:sc.kind = .function
 co:sc.isCoroutine=false
 gen:sc.isGenerator=false
 nd:N.Nodup
 pre:N.take (ps.length+fs.length)=ps++fs
 par:∀x∈ps,sc.names.lookup x=some .local\/sc.names.lookup x=some .cell
 fr:∀x∈fs,sc.names.lookup x=some .free
 free:∀y∈sc.names,y.2 = .free->sc.names.lookup y.1=some .free/\y.1∈fs
 cell:∀y∈sc.names,y.2 = .cell->sc.names.lookup y.1=some .cell
theorem zqj{scope:GV}{globals:Addr}{binds:List (Str×G5)}{qual:Str}{func:Option Addr}{code:G5}{builtins:Addr} 
 (h:∀h',h'.Ns s.heap.objs.size (λ_=>none)->(∀b o,s.heap.get? b=some o->h'.get? b=some o)->(∀x c,(GT (s.heap.objs.size+1) scope.names cl).lookup x=some c->cl.lookup x=some c\/((x,Zc)∈scope.names/\s.heap.objs.size+1<=c/\h'.IsCell c none)) ->
  ∀f:Str×G5->PUnit->Sem (ForInStep PUnit),(∀n v u,f (n,v) u=(do Nr (newEnv scope s.heap.objs.size globals (GT (s.heap.objs.size+1) scope.names cl) qual func code none builtins) n v;pure (.yield ⟨⟩))) ->
  wpAny M A (forIn binds ⟨⟩ f) (λ_ s'=>Q (newEnv scope s.heap.objs.size globals (GT (s.heap.objs.size+1) scope.names cl) qual func code none builtins) s') E { s with heap:=h' }) :
 wpAny M A (Mt scope globals cl binds qual func code none builtins) Q E s:=by
 simp only[Mt,Option.isSome_none,QM,NJ];refine G4 (Ny ?_);refine G4 (wpAny_layCells _ (λname kind cells=>by cases hkc:kind == Zc <;> simp[hkc]) _ _ _ _ ?_);rw[show({ s with heap:=s.heap.push { cls:=.type "frame",data:=.dict #[] } }:G8).heap.objs.size=s.heap.objs.size+1 from Za ..];refine G4 (GM (h _ ((G1 s.heap (.type "frame")).keeps (TX _ _)) (λb o e=>TX _ _ b o (Qc _ e)) (λx c e=>?_) _ λn v u=>rfl) (λ_ s' q=>G6 q) λ_ _ q=>q);have:=zg4 scope.names (s.heap.push { cls:=.type "frame",data:=.dict #[] }) cl (x:=x) (c:=c) (by rw[Za];exact e);rwa [Za] at this
theorem zph(hN:X.N.Nodup)(f:Str×G5->PUnit->Sem (ForInStep PUnit))(hf:∀n v u,f (n,v) u=(do Nr X.env n v;pure (.yield ⟨⟩)))(tail:St):
 ∀(todo:List Str) (us:List G5) (vs:List V) (dn:List V) (s:G8),todo.length=vs.length->Vals vs us->Inv X [] (dn.map some++(Qt vs.length none++tail)) H s ->
   (∀k x,todo[k]? = some x->X.N[dn.length+k]? = some x/\Loc X.env.scope x/\X.fn x=true)->(∀s',Inv X [] ((dn++vs).map some++tail) H s'->Q ⟨⟩ s')->wpAny M A (forIn (todo.zip us) PUnit.unit f) Q E s
 | [],us,vs,dn,s,hl,r,I,hx,k=>by
   have:vs = []:=Jo.mp hl.symm;subst this;rw[Vj,Gk];exact G6 (k s (by simpa using I))
 | x::todo,us,vs,dn,s,hl,r,I,hx,k=>by
   cases r with
   | nil=>cases hl
   | cons r1 rs=>
     rename_i v u vs us
     rw[JM,Gb,hf];obtain⟨h1,h2,h3⟩:=hx 0 x rfl;rw[V5] at h1;refine G4 (G4 (zed (v:=v) I hN h1 h2 r1 (λs' I'=>G6 (zph (H:=H) hN f hf tail todo us vs (dn ++ [v]) s' (by simpa using hl) rs ?_ (λj y e=>?_) λs'' I''=>k s'' ?_)) (.inl h3)))
     .have e:(dn.map some++(Qt (v::vs).length none++tail)).set dn.length (some v)=(dn ++ [v]).map some++(Qt vs.length none++tail):=by
       rw[Qk,List.replicate_succ,Zo];rw[VM _ _ (by simp)];simp
      rw[<- e];exact I'
     .have:=hx (j+1) y (by simpa using e);rw[Ql,Je];refine⟨?_,this.2⟩;have t:=this.1;rw[show dn.length+1+j=dn.length+(j+1) by lia];exact t
     .rw[Qv] at I'';exact I''
def bckC(as:List Addr)(H H':Hp):Hp:=λb=>if b∈as then H b else H' b
theorem za5{as:List Addr}(n:b ∉ as):bckC as H H' b=H' b:=NE n
theorem zjy{as:List Addr}(n:b∈as):bckC as H H' b=H b:=ND n
section
variable {P:GB}{w:GD}{K:Qa}{mg:Str->Option G5}{base:Heap}{k:Nat}{N ps fs:List Str}{name qual:Str}{params:TR}{body:List Stmt}{scope:GV}{clos:List (Str×Addr)}{doc pm ctv:G5}{f c':Addr}{oc:Obj}{vv:Array G5}{t:Tok}
 {A:GF} {outer:List Env} {s:G8} {H:Hp} {us:List G5} {vs ws:List V} {Q:VK} {E:XK} {as:List Addr}
theorem z0e(S:FnScopeC N ps fs scope)(hr:A.handled=none)(e0:Env0 P w K mg base A outer s H)(h0:∀b∈as,∃o,H b=some (.frz o (.own 1))/\∃x,clos.lookup x=some b)(hcl:∀x c,clos.lookup x=some c->(x,QL)∈scope.names/\c∈as)(hfree:∀x,(x,QL)∈scope.names->∃c,clos.lookup x=some c)
 (hinj:∀x y c,clos.lookup x=some c->clos.lookup y=some c->x=y) (hwl:ws.length=fs.length)
 (hws:∀(i:Nat) x c,fs[i]? = some x->clos.lookup x=some c->∃o u v,H c=some (.frz o (.own 1))/\o.data = .cell (some u)/\ws[i]? = some v/\RelV v u)
  {tk:Nat} (hn:h'.Ns s.heap.objs.size λ_=>none) (kp:∀b o,s.heap.get? b=some o->h'.get? b=some o) (hcs:∀x c,(GT (s.heap.objs.size+1) scope.names clos).lookup x=some c->clos.lookup x=some c\/((x,Zc)∈scope.names/\s.heap.objs.size+1<=c/\h'.IsCell c none)) :
 Inv (cxCl P w K mg base N qual scope f (.ref c') clos A outer s (cutC as H)) [] (Qt ps.length none++(ws.map some++Qt (N.length-(ps.length+fs.length)) none)) (cutC as H) { s with heap:=h',toks:=tk }:=by
 have hpl:ps.length+fs.length<=N.length:=by have:=NK JY S.pre;rw[QY,Ql] at this;lia
 have nf:∀x,(x,QL)∈scope.names->(x,Zc) ∉ scope.names:=λx a b=>by
  have:=(S.free _ a rfl).1;rw[show scope.names.lookup x=some .cell from S.cell _ b rfl] at this;cases this
 have isc:∀x c,clos.lookup x=some c->∃v,s.heap.IsCell c v:=λx c e=>by
  obtain⟨hm,_⟩:=hcl x c e;obtain⟨i,hi,hix⟩:=QT (S.free _ hm rfl).2;obtain⟨o,u,v,a1,a2,_⟩:=hws i x c (by rw[Qb hi,hix]) e;exact⟨some u,o,(e0.hok c _ a1).1,a2⟩
 have below:∀x c,clos.lookup x=some c->c<s.heap.objs.size+1:=λx c e=>by
  obtain⟨v,o,ho,_⟩:=isc x c e;exact QJ (Qq ho)
 have cutn:∀b,H b=none->cutC as H b=none:=λb n=>by
  by_cases z:b∈as
  .exact zez z
  .rw[zak z];exact n
 have noA:∀b:Addr,b ∉ (cxCl P w K mg base N qual scope f (.ref c') clos A outer s (cutC as H)).ex:=λb z=>absurd (show b∈([]:List Addr) from z) (by simp)
 refine⟨⟨e0.mod,S.kind,rfl,rfl,Qg _,zgg _ _ _ below hinj,λy hy=>?_,λy c z e=>?_,λ_=>hr,VT e0.frames,.inr ⟨rfl,rfl⟩,λb z=>absurd z (noA b),λb o e=>⟨(e0.bs b o e).1,cutn b (e0.bs b o e).2⟩,e0.bsz,λb _ _=>noA b,λb z=>absurd z (noA b),e0.funs,λb z=>cutn b (e0.frf b z)⟩,
  rfl,e0.bare,Un.kept kp,⟨_,hn,λi y v h1 h2 h3=>?_⟩,λy c e=>?_,cutn _ (e0.hok.fresh (Qg _)),λy c e=>?_,λp hp=>absurd (show p∈([]:List (Addr×Obj)) from hp) (by simp),(zpr e0.hok λb hb=>.inr (let ⟨o,q,_⟩:=h0 b hb;⟨o,q⟩)).kept kp,?_⟩
 .have hy:scope.names.lookup y=some .cell\/scope.names.lookup y=some .free:=hy;rcases hy with hy|hy
  .exact ZQ.mp (JK _ _ _ (.inl hy))
  .have hm:=Zl hy;obtain⟨c,hc⟩:=hfree y hm;exact⟨c,(zd8 _ _ _ (nf y hm)).trans hc⟩
 .have z:(scope.names.lookup y != some QL)=true:=z;rcases hcs y c e with q|⟨_,q,_⟩
  .have:=(S.free _ (hcl y c q).1 rfl).1;rw[this] at z;exact absurd z (by decide)
  .exact ZZ q
 .have hi1:ps.length<=i:=by
   rcases Zx i ps.length with z|z
   .rw[QO (by simpa using z),QZ,ND z] at h2;cases h2
   .exact z
  rw[QU (by simpa using hi1),QR] at h2
  have hi2:i-ps.length<ws.length:=by
   rcases Zx (i-ps.length) ws.length with z|z
   .exact z
   .rw[QU (by simpa using z),QZ] at h2
    split at h2 <;> cases h2
  rw[QO (by simpa using hi2),Qi] at h2
  have hy:fs[i-ps.length]? = some y:=by
   have h1':N[i]? = some y:=h1;have e1:(N.take (ps.length+fs.length))[i]? = some y:=by rw[Yk (by lia)];exact h1'
   rw[S.pre,QU hi1] at e1;exact e1
  have hl:=S.fr y (Qz hy);obtain⟨c,hc⟩:=hfree y (Zl hl);obtain⟨o,u,v',a1,a2,a3,a4⟩:=hws _ y c hy hc;rw[a3] at h2;cases h2;exact⟨u,a4,.inr ⟨.inr hl,c,(zd8 _ _ _ (nf y (Zl hl))).trans hc,o,kp c o (e0.hok c _ a1).1,a2⟩⟩
 .rcases hcs y c e with q|q
  .obtain⟨v,o,ho,hd⟩:=isc y c q;exact⟨v,o,kp c o ho,hd⟩
  .exact⟨_,q.2.2⟩
 .rcases hcs y c e with q|q
  .exact zez (hcl y c q).2
  .exact cutn _ (e0.hok.fresh (ZZ q.2.1))
 .show _=N.length;rw[Ql,Ql,QR,QR,Qf];lia
theorem zy8(S:FnScopeC N ps fs scope)(hr:Room (k+1) A)(e0:Env0 P w K mg base A outer s H)(hf:H f=some (.frz (fnMade name qual params body scope clos doc pm c' ctv) (.own 0)))(hc:H c'=some (.frz oc (.own 0)))(hd:oc.data = .fields vv)(hv:vv[1]? = some (.str qual t))
 (h0:∀b∈as,∃o,H b=some (.frz o (.own 1))/\∃x,clos.lookup x=some b) (hcl:∀x c,clos.lookup x=some c->(x,QL)∈scope.names/\c∈as) (hfree:∀x,(x,QL)∈scope.names->∃c,clos.lookup x=some c)
 (hinj:∀x y c,clos.lookup x=some c->clos.lookup y=some c->x=y) (hwl:ws.length=fs.length)
 (hws:∀(i:Nat) x c,fs[i]? = some x->clos.lookup x=some c->∃o u v,H c=some (.frz o (.own 1))/\o.data = .cell (some u)/\ws[i]? = some v/\RelV v u)
 (hb:MX s (fnX name qual params body scope clos .none .none doc pm none (.ref c') ctv) ⟨us,[]⟩ (ps.zip us)) (r:Vals vs us) (hl:vs.length=ps.length)
 (ht:Room k (A.deeper (zl7 qual scope s.heap.objs.size f (.ref c') clos))->∃t,PSs (cxCl P w K mg base N qual scope f (.ref c') clos A outer s (cutC as H)) body t/\t { nx:=λ_ H1=>(∀b∈as,H1 b=none)->Q .non (bckC as H H1),rt:=λv H1=>(∀b∈as,H1 b=none)->Q v (bckC as H H1) } (L2.start N (vs++ws)) (cutC as H)) :
 Mf (model P w) A (.call (.ref f) ⟨us,[]⟩) (CR CX0 outer P w H s Q E) s:=by
 have hpl:ps.length+fs.length<=N.length:=by have:=NK JY S.pre;rw[QY,Ql] at this;lia
 refine MO hr.depth (e0.hok f _ hf).1 rfl S.co S.gen rfl ⟨c',oc,vv,t,rfl,(e0.hok c' _ hc).1,hd,hv⟩ (hb _ _ _ _ ?_);refine zqj λh' hn kp hcs g hg=>?_;have I0:=z0e (c':=c') (qual:=qual) (f:=f) S hr.hd e0 h0 hcl hfree hinj hwl hws (h':=h') (tk:=s.toks) hn kp hcs
 have hps:∀(j:Nat) x,ps[j]? = some x->N[j]? = some x:=λj x e=>by
  have hj:j<ps.length:=(Qn.mp e).1;have e1:(N.take (ps.length+fs.length))[j]? = some x:=by rw[S.pre,QO hj];exact e
  rw[Yk (by lia)] at e1;exact e1
 rw[<- hl] at I0;refine zph (X:=cxCl P w K mg base N qual scope f (.ref c') clos A outer s (cutC as H)) (H:=cutC as H) S.nd g hg (ws.map some++Qt (N.length-(vs.length+fs.length)) none) ps us vs [] _ hl.symm r (by simpa using I0) (λj x e=>?_) λs1 I1=>?_
 .have e':=hps j x e;have hx:=S.par x (Qz e);refine⟨show N[([]:List V).length+j]? = some x by simpa using e',hx,?_⟩;show(scope.names.lookup x != some QL)=true;rcases hx with z|z <;> rw[z] <;> decide
 have est:([]++vs).map some++(ws.map some++Qt (N.length-(vs.length+fs.length)) none)=L2.start N (vs++ws):=by
  unfold L2.start;rw[J2,QE,Qv,Ql,hwl]
 rw[est] at I1;refine⟨?_,codeAny_func ?_⟩
 .exact I1.nolimit
 obtain⟨t,ht,hq⟩:=ht (hr.deeper _);refine GM (ht [] s1 (L2.start N (vs++ws)) (cutC as H) _ I1 hq) (λfl s' hs=>?_) λe s' hs=>hs.elim
 have fin:∀{σ':St} {H':Hp} {v:V} {u:G5},Inv (cxCl P w K mg base N qual scope f (.ref c') clos A outer s (cutC as H)) [] σ' H' s'->RelV v u->((∀b∈as,H' b=none)->Q v (bckC as H H'))->CE outer P w H s Q u s':=λ{σ' H' v u} J rv q=>by
  have bu:Un (frs outer) [] (cutC as H) H' s.heap s'.heap:=J.base;have nA:∀b,H b=none->b ∉ as:=λb n z=>by obtain⟨o,q,_⟩:=h0 b z;rw[n] at q;cases q
  have cN:∀b∈as,H' b=none:=λb z=>by
   obtain⟨_,_,x,hx⟩:=h0 b z;refine J.freeC x b ((zd8 _ _ _ λw=>?_).trans hx);have:=(S.free _ (hcl x b hx).1 rfl).1;rw[show scope.names.lookup x=some .cell from S.cell _ w rfl] at this;cases this
  refine⟨v,bckC as H H',J.os,J.bare,⟨λb o e n=>bu.keep b o e ((zak (nA b n)).trans n),λb o e n=>bu.slot b o e ((zak (nA b n)).trans n),λb o e n m=>by rw[za5 (nA b n)];exact bu.free b o e ((zak (nA b n)).trans n) m,bu.there,λb xs e=>?_,λb o u e=>?_,λb ps e=>?_⟩,λb u e=>?_,rv,q cN⟩
  .have nb:b ∉ as:=λz=>by obtain⟨o,q,_⟩:=h0 b z;rw[e] at q;cases q
   rw[za5 nb];exact bu.tups b xs ((zak nb).trans e)
  .by_cases nb:b∈as
   .rw[zjy nb];exact e
   .rw[za5 nb];exact bu.frzs b o u ((zak nb).trans e)
  .have nb:b ∉ as:=λz=>by obtain⟨o,q,_⟩:=h0 b z;rw[e] at q;cases q
   rw[za5 nb];exact bu.tbls b ps ((zak nb).trans e)
  .by_cases nb:b∈as
   .rw[zjy nb] at e;obtain⟨o,q,_⟩:=h0 b nb;rw[e] at q;cases q;have e1:=bu.keep b o (e0.hok b _ e).1 (zez nb) (λz=>by have:=e0.frf b z;rw[e] at this;cases this) (by simp);exact⟨e1,_,e1⟩
   .rw[za5 nb] at e;have no:∀c v,H' c=some v->c ∉ as:=λc v q z=>by rw[cN c z] at q;cases q
    exact(J.hok b u e).stay (λc v _ q=>q) (λc q=>by rw[za5 (no c _ q)];exact q) (λc xs q=>by rw[za5 (no c _ q)];exact q) λc o q=>by rw[za5 (no c _ q)];exact q
 cases fl with
 | ret u=>
   obtain⟨v,σ',H',J,rv,q⟩:=hs;exact fin J rv q
 | next=>
   obtain⟨σ',H',J,q⟩:=hs;exact fin (v:=V.non) (u:=Y7) J rfl q
 | brk=>
   obtain⟨_,_,_,q⟩:=hs;exact ZG q
 | cont=>
   obtain⟨_,_,_,q⟩:=hs;exact ZG q
end
def tyD:G7->String
 | .none=> "NoneType"
 | .bool _=> "bool"
 | .int _=> "int"
 | .str _=> "str"
 | .list _=> "list"
 | .tuple _=> "tuple"
 | .dict _=> "dict"
def zgm(d:G7)(T:String):Option Bool:=match T with
 | "int" =>some (match d with | .int _=>true | .bool _=>true|_=>false)
 | "bool" =>some (match d with | .bool _=>true|_=>false)
 | "str" =>some (match d with | .str _=>true|_=>false)
 | "tuple" =>some (match d with | .tuple _=>true|_=>false)
 | "list" =>some (match d with | .list _=>true|_=>false)
 | _=>none
theorem zc2(K:Qa){d:G7}{b:Bool}(h:zgm d T=some b)(hd:∀kvs,d≠.dict kvs):Gg K (.type (tyD d)) (.type T)=some b:=by
 unfold zgm at h
 split at h
 all_goals first
  | (cases h;cases d <;> first|rfl|exact absurd rfl (hd _))
  | cases h
def tIsI(K:Qa)(T:String)(te:TE):TE:=λσ H Q=>te σ H λv H1=>∃F d b,Is K F H1 v d/\zgm d T=some b/\Q (.bl b) H1
theorem zor{pins:List (Addr×Obj)}{d:G7}{b:Bool}(I:Inv X pins σ H s)(rx:RelV x u)(is:Is X.K F H x d)(e:zgm d T=some b)(h:∀tk,Q (.bool b) { s with toks:=tk }):
 wpAny (model X.prog X.w) A (call (.builtin "isinstance") [u,.type T]) Q E s:=by
 cases is with
 | none=>exact zda I rx .non (zc2 _ e λ_ z=>nomatch z) h
 | bool y=>exact zda I rx (.bl y) (zc2 _ e λ_ z=>nomatch z) h
 | int i=>exact zda I rx (.int i) (zc2 _ e λ_ z=>nomatch z) h
 | str y=>exact zda I rx (.str y) (zc2 _ e λ_ z=>nomatch z) h
 | list f q r=>exact zda I rx (.lst q) (zc2 _ e λ_ z=>nomatch z) h
 | @tuple a xs ds q r=>
   cases (show u=ZH a from rx);obtain⟨its,_,⟨o,h1,h2,_⟩,_⟩:=I.tuple q;exact Z5 Uo I.kIn ⟨o,h1,h2⟩ (zc2 X.K (d:=.tuple ds) e λ_ z=>nomatch z) (λz=>nomatch z) h
theorem z0t(gi:Gl X "isinstance")(mi:X.mg "isinstance" = none)(gT:Gl X x)(mT:X.mg x=none)(hT:GO x=some (.type T))(he:PE X e te)(hn:x ≠ "__name__" := by decide)(hdb:(x == ("__debug__" : Str))=false:=by decide)
 (s1:GC [e,.Name x p2] X.env=(false,eval e X.env)::(false,eval (.Name x p2) X.env)::GC [] X.env:=by rfl) (s2:GC [e,.Name x p2] X.env=(false,eval e X.env)::GC [.Name x p2] X.env:=by rfl) (s3:(Tk p3 (GC [.Name x p2] X.env)).any (·.1)=false:=by rfl) :
 PE X (.Call (.Name "isinstance" p1) [e,.Name x p2] [] p3) (tIsI X.K T te):=by
 intro pins s σ H Q I h;refine GH (zby I gi mi (u:=.builtin "isinstance") (by decide +kernel) ?_);refine Jg ?_ s2 s3;rw[s1];show wpAny _ _ (Ms ((false,eval e X.env)::(false,eval (.Name x p2) X.env) :: [])) _ _ s;refine Z1 (thn (he pins s σ H _ I h) λu s' zz=>?_);obtain⟨y,H1,I1,r1,F,d,b,is,ek,q⟩:=zz;refine Z1 (zby I1 gT mT hT (ZM ?_) hn hdb);exact zor I1 r1 is ek λtk=>⟨.bl b,H1,I1.tok _,rfl,q⟩
def isID(T:String)(f:DE):DE:=λρ Q=>f ρ λr=>∃b,zgm r.d T=some b/\Q (.o (.bool b))
theorem z4d{K:Qa}{O:Ob}{T:String}{t:TE}{f:DE}(h:ED K O t f):ED K O (tIsI K T t) (isID T f):=λσ H ρ Q Qd S hf k=>by
 refine h σ H ρ _ _ S hf λv H1 r s1 o1 zz=>?_;obtain⟨b,e,q⟩:=zz;exact⟨_,r.d,b,o1.is S.ok S.p,e,k _ H1 (.o (.bool b)) s1 (Is.bool b) q⟩
section
variable {ι κ:Type}{P:GB}{w:GD}{K:Qa}{mg:Str->Option G5}{base:Heap}{k:Nat}{X:ι->Cx}{O:κ->Ob}{a:Expr}{fa:DE}{pos p p2:Pos}
theorem zg9(C:Ctx3 P w K mg base k X)(B:Blt mg)(ha:E3 K X O a fa)(hm:mg x=none)(hT:GO x=some (.type T):=by decide +kernel)(hg:∀i,Gl (X i) "isinstance" := by intro i;rfl)(hg2:∀i,Gl (X i) x:=by intro i;rfl)(hn:x ≠ "__name__" := by decide)(hdb:(x == ("__debug__" : Str))=false:=by decide)
 (s1:∀i,GC [a,.Name x p2] (X i).env=(false,eval a (X i).env)::(false,eval (.Name x p2) (X i).env)::GC [] (X i).env:=by intro i;rfl) (s2:∀i,GC [a,.Name x p2] (X i).env=(false,eval a (X i).env)::GC [.Name x p2] (X i).env:=by intro i;rfl) (s3:∀i,(Tk pos (GC [.Name x p2] (X i).env)).any (·.1)=false:=by intro i;rfl) :
 E3 K X O (.Call (.Name "isinstance" p) [a,.Name x p2] [] pos) (isID T fa) :=
 let ⟨_,q,d⟩:=ha;⟨_,λi=>by
  have h:=z0t (p1:=p) (p3:=pos) (hg i) (by rw[C.hmg];exact B.isinstance) (hg2 i) (by rw[C.hmg];exact hm) hT (q i) hn hdb (s1 i) (s2 i) (s3 i);rw[C.hK] at h
  exact h,λj=>z4d (d j)⟩
end
abbrev tS(w:List Nat):G7:=.str (tx w)
def Sml(w:List Nat):Prop:=w.length<=100/\∀c∈w,c<128
mutual
def solid:G7->Bool
 | .none=>true
 | .int _=>true
 | .str _=>true
 | .tuple ds=>solids ds
 | _=>false
def solids:List G7->Bool
 | []=>true
 | d::ds=>solid d && solids ds
end
mutual
theorem eqv_solid:∀d e:G7,solid d=true->solid e=true->(Q9 d e=true↔d=e)
 | .none,e,_,h=>by cases e <;> simp[Q9,solid] at *
 | .int i,e,_,h=>by cases e <;> simp[Q9,solid] at *
 | .str x,e,_,h=>by cases e <;> simp[Q9,solid] at *
 | .tuple ds,e,h0,h=>by
   cases e with
   | tuple es=>
     have:=zfi ds es (by simpa[solid] using h0) (by simpa[solid] using h);simp only[Q9];rw[this];exact⟨λz=>by rw[z],λz=>by cases z;rfl⟩
   | none=>simp[Q9]
   | int _=>simp[Q9]
   | str _=>simp[Q9]
   | bool _=>simp[solid] at h
   | list _=>simp[solid] at h
   | dict _=>simp[solid] at h
 | .bool _,_,h,_=>by simp[solid] at h
 | .list _,_,h,_=>by simp[solid] at h
 | .dict _,_,h,_=>by simp[solid] at h
theorem zfi:∀ds es:List G7,solids ds=true->solids es=true->(ZV ds es=true↔ds=es)
 | [],[],_,_=>by simp[ZV]
 | [],_::_,_,_=>by simp[ZV]
 | _::_,[],_,_=>by simp[ZV]
 | d::ds,e::es,h,h'=>by
   simp only[solids,Qy] at h h';simp only[ZV,Qy];rw[eqv_solid d e h.1 h'.1,zfi ds es h.2 h'.2];simp
end
structure Nice(n b:Nat)(d:G7):Prop where
 lay:d.canLay0=true
 sh:d.showable=true
 sho:d.leavesShort 13=true
 dep:d.depth<=n
 bul:d.bulk<=b
 sol:solid d=true
theorem zhn{b:Nat}(h:Jl x=true)(hb:x.length<=b):Nice 0 b (.str x):=⟨h,by simp[YH],zs8 h,Qg _,hb,rfl⟩
theorem zhw{b:Nat}(h:∀c∈v,c<1000)(hb:v.length<=b):Nice 0 b (tS v):=zhn (by
 rw[strOk_iff];intro c hc;rw[zeh] at hc;have:=h c hc
 lia) (by rw[zd2];exact hb)
theorem num3:∀n,n<1000->(Y0 10 n).length<=3:=by decide +kernel
theorem zwd{n:Nat}(h:n<1000):Nice 0 0 (.int (n:Nat)):=by
 refine⟨rfl,?_,?_,Qg _,Qg _,rfl⟩
 .rw[YH,Int.natAbs_natCast];exact NH (YY (Nat.log2_le_self n) (by lia))
 .rw[Va,US];refine NH ?_;show(Jk (toString ((n:Nat):Int))).cps.size<=13;have e:=PySem.W.KIN.signs_num n
  have e2:(Jk (toString ((n:Nat):Int))).cps.size=(Y0 10 n).length:=by
   rw[<- QW,e,Qf]
  rw[e2];have:=num3 n h;lia
theorem zjg{α:Type}{f:α->G7}:∀{l:List α},(∀a∈l,solid (f a)=true)->solids (l.map f)=true
 | [],_=>rfl
 | a::l,h=>by rw[Q8,solids,h a Qu,zjg λx hx=>h x (Qe _ hx)];rfl
theorem zh8{α:Type}{f:α->G7}{l:List α}{n b m:Nat}(h:∀a∈l,Nice n b (f a))(hl:l.length<=m):Nice (n+1) (m * (b+1)) (.tuple (l.map f)):=by
 refine⟨zdh λa ha=>(h a ha).lay,?_,?_,?_,?_,?_⟩
 .rw[YH];exact zhi λa ha=>(h a ha).sh
 .rw[Va];exact zgb λa ha=>(h a ha).sho
 .rw[Ja];have:=zec (f:=f) (n:=n) (l:=l) λa ha=>(h a ha).dep;lia
 .rw[PyData.bulk];have:=zhl (f:=f) (n:=b) (l:=l) λa ha=>(h a ha).bul;exact QN this (YE _ hl)
 .rw[solid];exact zjg λa ha=>(h a ha).sol
theorem Nice.okD{n b:Nat}{d:G7}(h:Nice n b d)(hn:n<=60:=by decide):L3.okD d=true:=by
 unfold L3.okD;rw[h.lay];have:=h.dep;simp;lia
theorem z5r:(2:Nat) ^ 20=1048576:=by decide
theorem Nice.repr{n b:Nat}{d:G7}(h:Nice n b d)(hn:n<=60:=by decide)(hb:b<=1048576:=by decide):∃x,zft [d]=some (.o (.str x))/\Jl x=true :=
 zy3 h.lay h.sh (QN h.dep hn) h.sho (QN h.bul (by have:=z5r;lia))
theorem zze{n b n' b':Nat}{neg:Bool}{d:G7}(h:Nice n b d)(h':Nice n' b' e)(hn:n<=60:=by decide){q:Bool}(hq:q=true↔d=e):eqF neg d e=some (.o (.bool (if neg then !q else q))):=by
 unfold eqF;rw[ND (by rw[h.okD hn,h'.lay];rfl)]
 have e1:Q9 d e=q:=by
  have:=(eqv_solid d e h.sol h'.sol).trans hq.symm;cases h1:Q9 d e <;> cases q <;> simp_all
 rw[e1]
theorem zm2(h:tS v=tS w):v=w:=by
 injection h with h;exact zty h
theorem zoz{i:Nat}{d:G7}(h:ds[i]? = some d):idxF (.list ds) (.int (i:Nat))=some (.o d):=by
 show(atI ds _).map R.o=_;rw[zy5 (v:=d) h];rfl
theorem zz9(h:a.length+b.length<=16777216):addF (.list a) (.list b)=some (.n (a++b)):=by
 show(if a.length+b.length<=sizeLine then some (R.n (a++b)) else none)=_;rw[ND (by rw[GE];exact h)]
end L3
namespace L6
structure WO{α:Type}(blt:α->α->Bool):Prop where
 irr:∀a,blt a a=false
 tr:∀a b c,blt a b=true->blt b c=true->blt a c=true
 neg:∀a b c,blt a c=true->blt a b=true\/blt b c=true
section
variable {α:Type}{blt:α->α->Bool}{k:Nat->α}
def Rk(blt:α->α->Bool)(k:Nat->α)(a b:Nat):Prop:=blt (k a) (k b)=true\/(blt (k b) (k a)=false/\a<b)
theorem Rk.trans(W:WO blt){a b c:Nat}(h:Rk blt k a b)(h':Rk blt k b c):Rk blt k a c:=by
 rcases h with h|⟨h,l⟩ <;> rcases h' with h'|⟨h',l'⟩
 .exact .inl (W.tr _ _ _ h h')
 .rcases W.neg _ (k c) _ h with z|z
  .exact .inl z
  .rw[h'] at z;cases z
 .rcases W.neg _ (k a) _ h' with z|z
  .rw[h] at z;cases z
  .exact .inl z
 .refine .inr ⟨?_,by lia⟩
  cases e:blt (k c) (k a) with
  | false=>rfl
  | true=>
    rcases W.neg _ (k b) _ e with z|z
    .rw[h'] at z;cases z
    .rw[h] at z;cases z
theorem Rk.le(W:WO blt){a b:Nat}(h:Rk blt k a b):blt (k b) (k a)=false:=by
 rcases h with h|⟨h,_⟩
 .cases e:blt (k b) (k a) with
  | false=>rfl
  | true=>have:=W.tr _ _ _ h e;rw[W.irr] at this;cases this
 .exact h
theorem zci(W:WO blt)(h:blt x y=true)(h':blt z y=false):blt x z=true:=by
 rcases W.neg _ z _ h with e|e
 .exact e
 .rw[h'] at e;cases e
theorem zg0(W:WO blt){x y z:α}(h:blt y x=false)(h':blt y z=true):blt x z=true:=by
 rcases W.neg _ x _ h' with e|e
 .rw[h] at e;cases e
 .exact e
theorem zb4(W:WO blt)(h:blt y x=false)(h':blt z y=false):blt z x=false:=by
 cases e:blt z x with
 | false=>rfl
 | true=>
   rcases W.neg _ y _ e with q|q
   .rw[h'] at q;cases q
   .rw[h] at q;cases q
def Up(blt:α->α->Bool)(k:Nat->α)(ix:Nat->Nat)(m:Nat):Prop:=∀i j,i<j->j<m->Rk blt k (ix i) (ix j)
def Dn(blt:α->α->Bool)(k:Nat->α)(ix:Nat->Nat)(m:Nat):Prop:=∀i j,i<j->j<m->Rk blt k (ix j) (ix i)
structure Pre(ix:Nat->Nat)(m:Nat):Prop where
 lt:∀i,i<m->ix i<m
 id:∀i,m<=i->ix i=i
theorem Pre.more{m n:Nat}(h:Pre ix m)(hm:m<=n):Pre ix n :=
 ⟨λi hi=>by
  by_cases z:i<m
  .have:=h.lt i z;lia
  .rw[h.id i (by lia)];exact hi,λi hi=>h.id i (by lia)⟩
theorem Pre.idf:Pre (λi=>i) m:=⟨λ_ h=>h,λ_ _=>rfl⟩
def mixF(ix:Nat->Nat)(i j:Nat):Nat->Nat:=λp=>if i<=p/\p<j then ix (i+j-1-p) else ix p
def bubF(ix:Nat->Nat)(s l:Nat):Nat->Nat:=λp=>if p=l then ix s else if l<p/\p<=s then ix (p-1) else ix p
theorem Pre.mix{m i j:Nat}(h:Pre ix m)(hj:j<=m):Pre (mixF ix i j) m:=by
 refine⟨λp hp=>?_,λp hp=>?_⟩
 .unfold mixF
  split
  .exact h.lt _ (by lia)
  .exact h.lt _ hp
 .unfold mixF;rw[NE (by lia)];exact h.id p hp
theorem Pre.bub{s l:Nat}(h:Pre ix s)(hl:l<=s):Pre (bubF ix s l) (s+1):=by
 refine⟨λp hp=>?_,λp hp=>?_⟩
 .unfold bubF
  split
  .rw[h.id s (Qg _)];lia
  .split
   .have:=h.lt (p-1) (by lia);lia
   .have:=h.lt p (by lia);lia
 .unfold bubF;rw[NE (by lia),NE (by lia)];exact h.id p (by lia)
theorem zmy(W:WO blt){m:Nat}(h:Up blt k ix m)(hm:0<m)(n:Rk blt k (ix (m-1)) (ix m)):Up blt k ix (m+1):=λi j hij hj=>by
 by_cases e:j<m
 .exact h i j hij e
 .have:j=m:=by lia
  subst this
  by_cases e2:i=j-1
  .subst e2;exact n
  .exact(h i (j-1) (by lia) (by lia)).trans W n
theorem ztm{m:Nat}(h:Dn blt k ix m):Up blt k (mixF ix 0 m) m:=λi j hij hj=>by
 unfold mixF;rw[ND (by lia),ND (by lia)];exact h _ _ (by lia) (by lia)
theorem zun{s l:Nat}(h:Up blt k ix s)(p:Pre ix s)(hl:l<=s)(lo:∀i,i<l->blt (k s) (k (ix i))=false)(hi:∀i,l<=i->i<s->blt (k s) (k (ix i))=true):Up blt k (bubF ix s l) (s+1):=by
 have es:=p.id s (Qg _);intro i j hij hj;unfold bubF
 by_cases a:i=l
 .rw[ND a,NE (by lia),ND (by lia),es];exact .inl (hi _ (by lia) (by lia))
 .rw[NE a]
  by_cases b:l<i/\i<=s
  .rw[ND b,NE (by lia),ND (by lia)];exact h _ _ (by lia) (by lia)
  .rw[NE b]
   by_cases c:j=l
   .rw[ND c,es];exact .inr ⟨lo i (by lia),p.lt i (by lia)⟩
   .rw[NE c]
    by_cases d:l<j/\j<=s
    .rw[ND d];exact h _ _ (by lia) (by lia)
    .rw[NE d];exact h _ _ (by lia) (by lia)
structure Des(blt:α->α->Bool)(k:Nat->α)(ix:Nat->Nat)(m q:Nat):Prop where
 le:q+1<=m
 up:∀i j,i<j->j<m->i+(q+1)<m->Rk blt k (ix j) (ix i)
 far:∀i j,i+(q+1)<m->m<=j+(q+1)->j<m->blt (k (ix j)) (k (ix i))=true
 al:∀i j,m<=i+(q+1)->i<j->j<m->blt (k (ix i)) (k (ix j))=false/\blt (k (ix j)) (k (ix i))=false/\ix i<ix j
theorem Des.turn{m q:Nat}(h:Des blt k ix m q):Dn blt k (mixF ix (m-(q+1)) m) m:=by
 intro i j hij hj;have:=h.le;unfold mixF
 by_cases a:m-(q+1)<=i/\i<m
 .rw[ND a,ND (by lia)];obtain⟨h1,h2,h3⟩:=h.al (m-(q+1)+m-1-j) (m-(q+1)+m-1-i) (by lia) (by lia) (by lia);exact .inr ⟨h2,h3⟩
 .rw[NE a]
  by_cases b:m-(q+1)<=j/\j<m
  .rw[ND b];exact h.up _ _ (by lia) (by lia) (by lia)
  .rw[NE b];exact h.up _ _ hij hj (by lia)
theorem Des.dn{m:Nat}(h:Des blt k ix m 0):Dn blt k ix m:=λi j hij hj=>h.up i j hij hj (by lia)
theorem zck(W:WO blt){m:Nat}(h:Dn blt k ix m)(hm:0<m)(n:blt (k (ix m)) (k (ix (m-1)))=true):Des blt k ix (m+1) 0:=by
 have hb:∀i,i<m->blt (k (ix m)) (k (ix i))=true:=λi hi=>by
  by_cases e:i=m-1
  .subst e;exact n
  .exact zci W n ((h i (m-1) (by lia) (by lia)).le W)
 refine⟨by lia,λi j hij hj _=>?_,λi j h1 h2 h3=>?_,λi j h1 h2 h3=>by lia⟩
 .by_cases e:j<m
  .exact h i j hij e
  .have:j=m:=by lia
   subst this;exact .inl (hb i hij)
 .have:j=m:=by lia
  subst this;exact hb i (by lia)
theorem ztw(W:WO blt){m q:Nat}(h:Des blt k ix m q)(p:Pre ix m)(n1:blt (k (ix m)) (k (ix (m-1)))=false)(n2:blt (k (ix (m-1))) (k (ix m))=false):Des blt k ix (m+1) (q+1):=by
 have hl:=h.le;have em:=p.id m (Qg _)
 have key:∀i,m<=i+(q+1)->i<m->blt (k (ix i)) (k (ix m))=false/\blt (k (ix m)) (k (ix i))=false:=λi h1 h2=>by
  by_cases e:i=m-1
  .subst e;exact⟨n2,n1⟩
  .obtain⟨a,b,_⟩:=h.al i (m-1) h1 (by lia) (by lia);exact⟨zb4 W n2 a,zb4 W b n1⟩
 refine⟨by lia,λi j hij hj hi=>?_,λi j h1 h2 h3=>?_,λi j h1 h2 h3=>?_⟩
 .by_cases e:j<m
  .exact h.up i j hij e (by lia)
  .have:j=m:=by lia
   subst this;exact .inl (zg0 W n2 (h.far i (j-1) (by lia) (by lia) (by lia)))
 .by_cases e:j<m
  .exact h.far i j (by lia) (by lia) e
  .have:j=m:=by lia
   subst this;exact zg0 W n2 (h.far i (j-1) (by lia) (by lia) (by lia))
 .by_cases e:j<m
  .exact h.al i j (by lia) h2 e
  .have:j=m:=by lia
   subst this;obtain⟨a,b⟩:=key i (by lia) h2;refine⟨a,b,?_⟩;rw[em];exact p.lt i h2
structure Bij(ix:Nat->Nat)(n:Nat):Prop where
 lt:∀i,i<n->ix i<n
 inj:∀i j,i<n->j<n->ix i=ix j->i=j
 sur:∀p,p<n->∃i,i<n/\ix i=p
theorem Bij.idf{n:Nat}:Bij (λi=>i) n:=⟨λ_ h=>h,λ_ _ _ _ e=>e,λp h=>⟨p,h,rfl⟩⟩
theorem Bij.comp{n:Nat}(h:Bij ix n)(g:Bij f n):Bij (λp=>ix (f p)) n :=
 ⟨λi hi=>h.lt _ (g.lt i hi),λi j hi hj e=>g.inj i j hi hj (h.inj _ _ (g.lt i hi) (g.lt j hj) e),λp hp=>by
  obtain⟨i,hi,e⟩:=h.sur p hp;obtain⟨j,hj,e'⟩:=g.sur i hi
  exact⟨j,hj,by rw[e',e]⟩⟩
theorem Bij.of{f g:Nat->Nat}{n:Nat}(a:∀i,i<n->f i<n)(b:∀i,i<n->g i<n)(c:∀i,i<n->g (f i)=i)(d:∀i,i<n->f (g i)=i):Bij f n :=
 ⟨a,λi j hi hj e=>by rw[<- c i hi,e,c j hj],λp hp=>⟨g p,b p hp,d p hp⟩⟩
def swF(i j p:Nat):Nat:=if i<=p/\p<j then i+j-1-p else p
def bbF(s l p:Nat):Nat:=if p=l then s else if l<p/\p<=s then p-1 else p
def bbG(s l p:Nat):Nat:=if p=s then l else if l<=p/\p<s then p+1 else p
theorem zui{i j n p:Nat}(hj:j<=n)(hp:p<n):swF i j p<n:=by unfold swF;split <;> lia
theorem zsd(i j p:Nat):swF i j (swF i j p)=p:=by
 unfold swF
 by_cases a:i<=p/\p<j
 .rw[ND a,ND (by lia)];lia
 .rw[NE a,NE a]
theorem Bij.mix{n i j:Nat}(h:Bij ix n)(hj:j<=n):Bij (mixF ix i j) n:=by
 have e:mixF ix i j=λp=>ix (swF i j p):=by
  funext p;unfold mixF swF
  split <;> rfl
 rw[e];exact h.comp (.of (g:=swF i j) (λp hp=>zui hj hp) (λp hp=>zui hj hp) (λp _=>zsd i j p) λp _=>zsd i j p)
theorem Bij.bub{n s l:Nat}(h:Bij ix n)(hs:s<n)(hl:l<=s):Bij (bubF ix s l) n:=by
 have e:bubF ix s l=λp=>ix (bbF s l p):=by
  funext p;unfold bubF bbF
  split
  .rfl
  .split <;> rfl
 rw[e];refine h.comp (.of (g:=bbG s l) (λp hp=>?_) (λp hp=>?_) (λp hp=>?_) λp hp=>?_)
 .unfold bbF;repeat' split
  all_goals lia
 .unfold bbG;repeat' split
  all_goals lia
 .unfold bbF bbG;repeat' split
  all_goals lia
 .unfold bbF bbG;repeat' split
  all_goals lia
theorem Bij.perm{n:Nat}(h:Bij ix n):((Q2 n).map ix).Perm (Q2 n):=by
 rw[Ud];intro a
 have nd:((Q2 n).map ix).Nodup:=by
  unfold List.Nodup;rw[ZP,QX];intro i j hi hj hij e;rw[Zb] at hi hj;rw[ZR,ZR] at e;have:=h.inj i j hi hj e;lia
 rw[nd.count,UT.count]
 have:(a∈(Q2 n).map ix)↔a∈Q2 n:=by
  rw[Qp,Zf];constructor
  .rintro⟨i,hi,rfl⟩;exact h.lt i (Zf.mp hi)
  .intro ha;obtain⟨i,hi,e⟩:=h.sur a ha;exact⟨i,Zf.mpr hi,e⟩
 by_cases z:a∈Q2 n
 .rw[ND z,ND (this.mpr z)]
 .rw[NE z,NE λq=>z (this.mp q)]
theorem zyp{γ:Type}(g:Nat->γ)(n:Nat):((Q2 n).map g).zipIdx=(Q2 n).map λi=>(g i,i):=by
 refine Yb (by simp) λi h1 h2=>?_;simp
theorem zrd{γ:Type}{key:γ->α}{g:Nat->γ}{n:Nat}{ix:Nat->Nat}(W:WO blt)(up:Up blt (λi=>key (g i)) ix n)(b:Bij ix n):
 (Q2 n).map (λi=>g (ix i))=((Q2 n).map g).mergeSort (λp q=>!blt (key q) (key p)):=by
 rw[<- List.mergeSort_zipIdx,zyp];have e:(Q2 n).map (λi=>g (ix i))=((Q2 n).map λi=>(g (ix i),ix i)).map (·.1):=by rw[Zd];rfl
 rw[e];refine NK (UA (λx:γ×Nat=>x.1)) ?_
 have tr:∀a b c:γ,(!blt (key b) (key a))=true->(!blt (key c) (key b))=true->(!blt (key c) (key a))=true:=λa b c h1 h2=>by
  rw[ZO] at h1 h2 ⊢;exact zb4 W h1 h2
 have tt:∀a b:γ,((!blt (key b) (key a)) || (!blt (key a) (key b)))=true:=λa b=>by
  cases h1:blt (key b) (key a) with
  | false=>rfl
  | true=>
    cases h2:blt (key a) (key b) with
    | false=>rfl
    | true=>have:=W.tr _ _ _ h1 h2;rw[W.irr] at this;cases this
 have m1:∀x,x∈((Q2 n).map λi=>(g (ix i),ix i))->x.1=g x.2:=λx hx=>by
  obtain⟨i,_,rfl⟩:=Qp.mp hx;rfl
 have m2:∀x,x∈(((Q2 n).map λi=>(g i,i)).mergeSort (Vu λp q=>!blt (key q) (key p)))->x.1=g x.2:=λx hx=>by
  rw[(Yi _ _).mem_iff] at hx;obtain⟨i,_,rfl⟩:=Qp.mp hx;rfl
 refine Vv (le:=λa b=>Vu (λp q=>!blt (key q) (key p)) a b=true) (λx y hx hy h1 h2=>?_) ?_ (Yv (List.zipIdxLE_trans tr) (List.zipIdxLE_total tt) _) ?_
 .have e1:=m1 x hx;have e2:=m2 y hy
  have e3:x.2=y.2:=by
   unfold Vu at h1 h2;dsimp only at h1 h2;cases a:blt (key y.1) (key x.1) <;> cases c:blt (key x.1) (key y.1) <;> simp[a,c] at h1 h2;lia
  exact Gh (by rw[e1,e2,e3]) e3
 .rw[ZP,QX];intro i j hi hj hij;rw[Zb] at hi hj;rw[ZR,ZR];have r:=up i j hij hj;have rl:=r.le W;unfold Vu
  have key2:∀(x y:Bool) (d:Bool),x=false->(y=true\/d=true)->(if(!x)=true then(if(!y)=true then d else true) else false)=true:=by
   intro x y d hx hy;subst hx;cases y
   .rcases hy with hy|hy
    .cases hy
    .simpa using hy
   .rfl
  refine key2 _ _ _ rl ?_;rcases r with r|⟨r,l⟩
  .exact .inl r
  .exact .inr (NH (ZY l))
 .refine List.Perm.trans ?_ (Yi _ _).symm;have:=b.perm.map λi=>(g i,i);rw[Zd] at this;exact this
end
end L6
namespace L6
open PySem PyProof.Rows
section
variable {prog:GB}{w:GD}{A:GF}{E:G5->G8->Prop}{s:G8}{α:Type}{blt:α->α->Bool}{k:Nat->α}{a₀:Array Tc}{kd:Tg}{ix:Nat->Nat}{st:GW}
def za6(prog:GB)(w:GD)(A:GF)(s:G8)(kd:Tg)(a₀:Array Tc)(blt:α->α->Bool)(k:Nat->α):Prop :=
 ∀(i j:Nat) (x p y q:G5) (E:G5->G8->Prop) (Q:Bool->G8->Prop),a₀[i]? = some (x,p)->a₀[j]? = some (y,q)->Q (blt (k i) (k j)) s->wpAny (model prog w) A (keyLt' kd x y) Q E s
structure Sb(a₀:Array Tc)(kd:Tg)(ix:Nat->Nat)(st:GW):Prop where
 sz:(arrOf st).size=a₀.size
 at_:∀i,i<a₀.size->(arrOf st)[i]? = a₀[ix i]?
 bj:Bij ix a₀.size
 fa:GX st=none
 pe:pendingOf st = #[]
 ki:kindOf st=kd
theorem zic{i j:Nat}(hC:za6 prog w A s kd a₀ blt k)(b:Sb a₀ kd ix st)(hi:i<a₀.size)(hj:j<a₀.size)(h:Q (some (blt (k (ix i)) (k (ix j)))) st):wpS (model prog w) A E s (ltAt' i j) Q st:=by
 obtain⟨⟨x,p⟩,gi⟩:∃z,a₀[ix i]? = some z:=⟨_,Qx (b.bj.lt i hi)⟩;obtain⟨⟨y,q⟩,gj⟩:∃z,a₀[ix j]? = some z:=⟨_,Qx (b.bj.lt j hj)⟩;rw[ltAt'_eq];refine G9 (Th ?_);change wpS (model prog w) A E s (elem' (arrOf st) i >>= λx=>elem' (arrOf st) j >>= λy=>lt' x y) Q st;rw[Nl,Nl,b.at_ i hi,b.at_ j hj,gi,gj];refine G9 (GA (G9 (GA ?_)));rw[lt'_eq];refine G9 (Th ?_);rw[b.ki];refine G9 (TW (Tt (hC _ _ _ _ _ _ _ _ gi gj ⟨rfl,?_⟩)));exact GA h
theorem Sb.mix{i j:Nat}(b:Sb a₀ kd ix st)(hj:j<=a₀.size):Sb a₀ kd (mixF ix i j) (setArr st (N8 (arrOf st) i j ((j-i) / 2))):=by
 refine⟨(mirror_size _ _ _ _).trans b.sz,λp hp=>?_,b.bj.mix hj,b.fa,b.pe,b.ki⟩;show(N8 (arrOf st) i j ((j-i) / 2))[p]? = _;rw[Mo (by rw[b.sz];exact hj)];unfold mixF
 split
 .exact b.at_ _ (by lia)
 .exact b.at_ _ hp
theorem Sb.bub{q l:Nat}(b:Sb a₀ kd ix st)(hq:q<a₀.size)(hl:l<=q):Sb a₀ kd (bubF ix q l) (setArr st (bubble (arrOf st) q (q-l))):=by
 refine⟨(bubble_size _ _ _).trans b.sz,λp hp=>?_,b.bj.bub hq hl,b.fa,b.pe,b.ki⟩;show(bubble (arrOf st) q (q-l))[p]? = _;rw[MM (by rw[b.sz];exact hq) _ (by lia),show q-(q-l)=l by lia];unfold bubF
 split
 .exact b.at_ _ hq
 .split
  .exact b.at_ _ (by lia)
  .exact b.at_ _ hp
theorem z1j{n ok:Nat}(W:WO blt)(hC:za6 prog w A s kd a₀ blt k)(hn:n<=a₀.size)(hok:ok<=n)(h1:1<=ok)(b:Sb a₀ kd ix st)(up:Up blt k ix ok)(pr:Pre ix ok)
 (h:∀ix' st',Sb a₀ kd ix' st'->Up blt k ix' n->Q true st'):wpS (model prog w) A E s (binarySort' 0 n ok) Q st:=by
 rw[binarySort'_eq];simp only[JN];rw[show max ok 1=ok by lia];refine G9 (GY (GG (I:=λq c st'=>c=(none,())/\∃ix',Sb a₀ kd ix' st'/\Up blt k ix' q/\Pre ix' q) (Q:=λc st'=>c=(none,())/\∃ix',Sb a₀ kd ix' st'/\Up blt k ix' n) ?turn ?out ⟨rfl,ix,b,up,pr⟩) ?rest)
 case rest=>
  rintro c st' ⟨rfl,ix',b',u'⟩;exact GA (h ix' st' b' u')
 case out=>
  rintro c st' ⟨hc,ix',b',u',_⟩;rw[show max ok n=n by lia] at u';exact⟨hc,ix',b',u'⟩
 case turn=>
  rintro q c st' hq1 hq2 ⟨rfl,ix',b',u',p'⟩;have hq:q<a₀.size:=by lia
  have eq:=p'.id q (Qg _)
  refine G9 (GY (GG (I:=λx c st2=>st2=st'/\∃l r,c=(none,l,r)/\l<=r/\r<=q/\r-l<=q-x/\(∀i,i<l->blt (k q) (k (ix' i))=false)/\∀i,r<=i->i<q->blt (k q) (k (ix' i))=true)
   (Q:=λc st2=>st2=st'/\∃l r,c=(none,l,r)/\l<=q/\(∀i,i<l->blt (k q) (k (ix' i))=false)/\∀i,l<=i->i<q->blt (k q) (k (ix' i))=true) ?tu ?ou ?bg) ?re)
  case bg=>exact⟨rfl,0,q,rfl,by lia,Qg _,by lia,λi z=>absurd z (by lia),λi z z'=>absurd z (by lia)⟩
  case ou=>
   rintro c st2 ⟨rfl,l,r,rfl,z1,z2,z3,z4,z5⟩;have:l=r:=by lia
   subst this;exact⟨rfl,l,l,rfl,z2,z4,z5⟩
  case tu=>
   rintro x c st2 _ hx ⟨rfl,l,r,rfl,z1,z2,z3,z4,z5⟩;dsimp only
   by_cases ge:l ≥ r
   .rw[ND ge];have:l=r:=by lia
    subst this;exact GA ⟨rfl,l,l,rfl,z2,z4,z5⟩
   .rw[NE ge];refine G9 (zic hC b' hq (j:=(l+r) / 2) (by lia) ?_);rw[eq]
    cases le:blt (k q) (k (ix' ((l+r) / 2))) with
    | true=>
      simp only[NL];refine GA ⟨rfl,l,(l+r) / 2,rfl,by lia,by lia,by lia,z4,λi y1 y2=>?_⟩
      by_cases e:i=(l+r) / 2
      .subst e;exact le
      .exact zci W le ((u' _ _ (show(l+r) / 2<i by lia) y2).le W)
    | false=>
      simp only[QM,NJ];refine GA ⟨rfl,(l+r) / 2+1,r,rfl,by lia,by lia,by lia,λi y1=>?_,z5⟩
      by_cases e:i=(l+r) / 2
      .subst e;exact le
      .exact zb4 W ((u' i _ (show i<(l+r) / 2 by lia) (by lia)).le W) le
  case re=>
   rintro c st2 ⟨rfl,l,r,rfl,z2,z4,z5⟩;change wpS (model prog w) A E s (moveDown' q l >>= λ_=>pure (JP (none,()))) _ st2;rw[moveDown'_eq];exact G9 (Ta (GA ⟨rfl,bubF ix' q l,b'.bub hq z2,zun u' p' z2 z4 z5,p'.bub z2⟩))
theorem zuo{a n:Nat}(W:WO blt)(hC:za6 prog w A s kd a₀ blt k)(hn:n<=a₀.size)(ha:1<=a)(han:a<=n)(b:Sb a₀ kd ix st)(up:Up blt k ix a)(pr:Pre ix a)
 (h:∀m,a<=m->m<=n->Up blt k ix m->(m=n\/blt (k (ix m)) (k (ix (m-1)))=true)->Q (none,m) st):wpS (model prog w) A E s (ascLoop a n) Q st:=by
 unfold ascLoop;refine GG (I:=λx c st'=>st'=st/\c=(none,x)/\Up blt k ix x) ?turn ?out ⟨rfl,rfl,up⟩
 case out=>
  rintro c st' ⟨rfl,rfl,u⟩;rw[show max a n=n by lia] at u ⊢;exact h n han (Qg _) u (.inl rfl)
 case turn=>
  rintro x c st' h1 h2 ⟨rfl,rfl,u⟩;dsimp only;refine G9 (zic hC b (by lia) (by lia) ?_)
  cases le:blt (k (ix x)) (k (ix (x-1))) with
  | true=>
    simp only[NL];exact GA (h x h1 (by lia) u (.inr le))
  | false=>
    simp only[QM,NJ];refine GA ⟨rfl,rfl,zmy W u (by lia) (.inr ⟨le,?_⟩)⟩;rw[(pr.more h1).id x (Qg _)];exact(pr.more h1).lt _ (by lia)
theorem zpq{m n:Nat}(W:WO blt)(hC:za6 prog w A s kd a₀ blt k)(hn:n<=a₀.size)(h1:1<=m)(hm:m<=n)(b:Sb a₀ kd ix st)(dn:Dn blt k ix m)(pr:Pre ix m)
 (h:∀m' ix' st',Sb a₀ kd ix' st'->1<=m'->m'<=n->Up blt k ix' m'->Pre ix' m'->Q (some m') st'):wpS (model prog w) A E s (tail3 m n) Q st:=by
 unfold tail3;refine G9 (TQ ?_);have b':=b.mix (i:=0) (j:=m) (by lia);have p':=pr.mix (i:=0) (Qg m);exact G9 (zuo W hC hn h1 hm b' (ztm dn) p' λm' z1 z2 u _=>GA (h m' _ _ b' (by lia) z2 u (p'.more z1)))
theorem zzh{m n:Nat}(W:WO blt)(hC:za6 prog w A s kd a₀ blt k)(hn:n<=a₀.size)(hm:m<=n)(b:Sb a₀ kd ix st)(de:Des blt k ix m 0)(pr:Pre ix m)
 (h:∀m' q ix' st',Sb a₀ kd ix' st'->m<=m'->m'<=n->Des blt k ix' m' q->Pre ix' m'->Q (none,m',q) st'):wpS (model prog w) A E s (descLoop m n) Q st:=by
 unfold descLoop;refine GG (I:=λx c st'=>∃q ix',c=(none,x,q)/\Sb a₀ kd ix' st'/\Des blt k ix' x q/\Pre ix' x) ?turn ?out ⟨0,ix,rfl,b,de,pr⟩
 case out=>
  rintro c st' ⟨q,ix',rfl,b',d',p'⟩;rw[show max m n=n by lia] at d' p' ⊢;exact h n q ix' st' b' hm (Qg _) d' p'
 case turn=>
  rintro x c st' h1 h2 ⟨q,ix',rfl,b',d',p'⟩;dsimp only;have hq:=d'.le;refine G9 (zic hC b' (by lia) (by lia) ?_)
  cases le:blt (k (ix' x)) (k (ix' (x-1))) with
  | true=>
    simp only[NL]
    by_cases z:q > 0
    .rw[ND z];refine G9 (TQ (GA ⟨0,_,rfl,b'.mix (by lia),?_,(p'.mix (Qg _)).more (by lia)⟩));refine zck W d'.turn (by lia) ?_;have e1:mixF ix' (x-(q+1)) x x=ix' x:=by unfold mixF;rw[NE (by lia)]
     have e2:mixF ix' (x-(q+1)) x (x-1)=ix' (x-(q+1)):=by unfold mixF;rw[ND (by lia)];congr 1;lia
     rw[e1,e2];have:=d'.al (x-(q+1)) (x-1) (by lia) (by lia) (by lia);exact zci W le this.1
    .rw[NE z];have:q=0:=by lia
     subst this;exact GA ⟨0,ix',rfl,b',zck W d'.dn (by lia) le,p'.more (by lia)⟩
  | false=>
    simp only[QM,NJ];refine G9 (zic hC b' (by lia) (by lia) ?_)
    cases gr:blt (k (ix' (x-1))) (k (ix' x)) with
    | true=>
      simp only[NL];exact GA (h x q ix' st' b' h1 (by lia) d' p')
    | false=>
      simp only[QM,NJ];exact GA ⟨q+1,ix',rfl,b',ztw W d' p' le gr,p'.more (by lia)⟩
theorem zo7{m n:Nat}(W:WO blt)(hC:za6 prog w A s kd a₀ blt k)(hn:n<=a₀.size)(hm:m+1<=n)(b:Sb a₀ kd ix st)(de:Des blt k ix (m+1) 0)(pr:Pre ix (m+1))
 (h:∀m' ix' st',Sb a₀ kd ix' st'->1<=m'->m'<=n->Up blt k ix' m'->Pre ix' m'->Q (some m') st'):wpS (model prog w) A E s (descPart m n) Q st:=by
 unfold descPart;refine G9 (TW (GZ ⟨rfl,?_⟩));refine G9 (zzh W hC hn hm b de pr λm' q ix' st' b' z1 z2 d' p'=>?_);dsimp only
 by_cases z:q > 0
 .rw[ND z];exact G9 (TQ (zpq W hC hn (by lia) z2 (b'.mix (by lia)) d'.turn (p'.mix (Qg _)) h))
 .rw[NE z];have:q=0:=by lia
  subst this;exact zpq W hC hn (by lia) z2 b' d'.dn p' h
theorem z1z{n:Nat}(W:WO blt)(hC:za6 prog w A s kd a₀ blt k)(hn:n<=a₀.size)(h1:1<=n)(b:Sb a₀ kd (λi=>i) st)
 (h:∀m' ix' st',Sb a₀ kd ix' st'->1<=m'->m'<=n->Up blt k ix' m'->Pre ix' m'->Q (some m') st'):wpS (model prog w) A E s (countRun' 0 n) Q st:=by
 rw[countRun0_eq];refine G9 (zuo W hC hn (Qg 1) h1 b (λi j z z'=>absurd z (by lia)) Pre.idf λm z1 z2 u o=>?_);dsimp only
 by_cases e:m=n
 .rw[ND (by simpa using e)];exact GA (h m _ st b z1 z2 u Pre.idf)
 .rw[NE (by simpa using e)];have lt:=o.resolve_left e
  by_cases g:m > 1
  .rw[ND g];refine G9 (zic hC b (i:=0) (j:=m-1) (by lia) (by lia) ?_)
   cases ro:blt (k 0) (k (m-1)) with
   | true=>
     simp only[NL];exact GA (h m _ st b z1 z2 u Pre.idf)
   | false=>
     simp only[QM,NJ];refine G9 (TQ (zo7 W hC hn (by lia) (b.mix (by lia)) ?_ ((Pre.idf.mix (Qg m)).more (by lia)) h))
     have al:∀i j,i<j->j<m->blt (k j) (k i)=false/\blt (k i) (k j)=false:=λi j y1 y2=>by
      refine⟨(u i j y1 y2).le W,?_⟩
      have a1:blt (k i) (k 0)=false:=by
       by_cases q:i=0
       .subst q;exact W.irr _
       .exact(u 0 i (by lia) (by lia)).le W
      have a2:blt (k (m-1)) (k j)=false:=by
       by_cases q:j=m-1
       .subst q;exact W.irr _
       .exact(u j (m-1) (by lia) (by lia)).le W
      exact zb4 W (zb4 W a2 ro) a1
     refine zck W (λi j y1 y2=>?_) (by lia) ?_
     .have e1:mixF (λi=>i) 0 m i=m-1-i:=by unfold mixF;rw[ND (by lia)];show 0+m-1-i=m-1-i;lia
      have e2:mixF (λi=>i) 0 m j=m-1-j:=by unfold mixF;rw[ND (by lia)];show 0+m-1-j=m-1-j;lia
      rw[e1,e2];exact .inr ⟨(al _ _ (by lia) (by lia)).1,by lia⟩
     .have e1:mixF (λi=>i) 0 m m=m:=by unfold mixF;rw[NE (by lia)]
      have e2:mixF (λi=>i) 0 m (m-1)=0:=by unfold mixF;rw[ND (by lia)];show 0+m-1-(m-1)=0;lia
      rw[e1,e2];exact zci W lt ro
  .rw[NE g];have:m=1:=by lia
   subst this;refine zo7 W hC hn (by lia) b (zck W (λi j y1 y2=>absurd y1 (by lia)) (by lia) lt) Pre.idf h
theorem zyb(W:WO blt)(hC:za6 prog w A s kd a₀ blt k)(b:Sb a₀ kd (λi=>i) st)(h2:2<=a₀.size)(h64:a₀.size<64)
 (h:∀ix' st',(arrOf st').size=a₀.size->(∀i,i<a₀.size->(arrOf st')[i]? = a₀[ix' i]?)->Bij ix' a₀.size->GX st'=none->Up blt k ix' a₀.size->Q () st'):wpS (model prog w) A E s sortRuns' Q st:=by
 rw[sortRuns'_eq];refine G9 (Th ?_);dsimp only
 have mr:minRun' a₀.size a₀.size 0=a₀.size:=by
  have key:∀f n:Nat,n<64->minRun' (f+1) n 0=n:=λf n hn=>by rw[minRun'_succ,ND hn];rfl
  have:=key (a₀.size-1) a₀.size h64;rwa [show a₀.size-1+1=a₀.size by lia] at this
 simp only[b.sz,mr]
 let Fin':GW->Prop:=λst'=>∃ix',(arrOf st').size=a₀.size/\(∀i,i<a₀.size->(arrOf st')[i]? = a₀[ix' i]?)/\Bij ix' a₀.size/\GX st'=none/\pendingOf st' = #[(0,a₀.size,0)]/\Up blt k ix' a₀.size
 have fin:∀ix' st',Sb a₀ kd ix' st'->Up blt k ix' a₀.size->Fin' (setPending st' ((pendingOf st').push (0,a₀.size,0))):=λix' st' b' u'=>
  ⟨ix',b'.sz,b'.at_,b'.bj,b'.fa,by show(pendingOf st').push _=_;rw[b'.pe];rfl,u'⟩
 refine G9 (GY (GG (I:=λx c st'=>(x=0/\c=(none,0)/\Sb a₀ kd (λi=>i) st')\/(1<=x/\c=(none,a₀.size)/\Fin' st')) (Q:=λc st'=>c=(none,a₀.size)/\Fin' st') ?turn ?out (.inl ⟨rfl,rfl,b⟩)) ?rest)
 case out=>
  rintro c st' (⟨z,_,_⟩|⟨_,z,f⟩)
  .lia
  .exact⟨z,f⟩
 case turn=>
  rintro x c st' _ hx (⟨rfl,rfl,b'⟩|⟨_,rfl,f⟩)
  .dsimp only;rw[NE (by lia)];simp only[YS,Nat.min_self,JN];refine G9 (z1z W hC (Qg _) (by lia) b' λm ix2 st2 b2 z1 z2 u2 p2=>?_);dsimp only
   by_cases lt:m<a₀.size
   .rw[ND lt];refine G9 (TW (GZ ⟨rfl,?_⟩));refine G9 (z1j W hC (Qg _) z2 z1 b2 u2 p2 λix3 st3 b3 u3=>?_);simp only[Gr,QM,NJ];refine G9 (Th ?_);rw[show(pendingOf st3).back? = none by rw[b3.pe];rfl];dsimp only;exact G9 (Ta (GA (.inr ⟨by lia,rfl,fin ix3 st3 b3 u3⟩)))
   .rw[NE lt];have:m=a₀.size:=by lia
    subst this;refine G9 (Th ?_);rw[show(pendingOf st2).back? = none by rw[b2.pe];rfl];dsimp only;exact G9 (Ta (GA (.inr ⟨by lia,rfl,fin ix2 st2 b2 u2⟩)))
  .dsimp only;rw[ND (Qg _)];exact GA ⟨rfl,f⟩
 case rest=>
  rintro c st' ⟨rfl,ix',z1,z2,z3,z4,z5,z6⟩;dsimp only;refine G9 (GY (GG (I:=λ_ c st2=>st2=st'/\c=(none,())) (Q:=λc st2=>st2=st'/\c=(none,())) ?_ (λ_ _ y=>y) ⟨rfl,rfl⟩) ?_)
  .rintro x c st2 _ _ ⟨rfl,rfl⟩;refine G9 (Th ?_);rw[ND (by rw[z5];exact Qg 1)];exact GA ⟨rfl,rfl⟩
  .rintro c st2 ⟨rfl,rfl⟩;exact GA (h ix' _ z1 z2 z3 z4 z6)
end
section
variable {prog:GB}{w:GD}{A:GF}{E:G5->G8->Prop}{s:G8}
structure Ord{α:Type}(blt:α->α->Bool)(k:Nat->α)(n:Nat)(ix:Nat->Nat):Prop where
 bj:Bij ix n
 up:Up blt k ix n
def zbj(vs:List G5)(ix:Nat->Nat):List G5:=(Q2 vs.length).map λi=>vs.getD (ix i) .none
structure KeysOk{α:Type}(prog:GB)(w:GD)(A:GF)(s:G8)(ks vs:List G5)(blt:α->α->Bool)(k:Nat->α):Prop where
 wo:WO blt
 kd:2<=vs.length->∃kd:Tg,(∀(E:G5->G8->Prop) (Q:Tg->G8->Prop),Q kd s->wpAny (model prog w) A (keyKind' ks.toArray) Q E s)/\za6 prog w A s kd (ks.toArray.zip vs.toArray) blt k
theorem zcq{ks vs:List G5}(hl:ks.length=vs.length){i:Nat}{p:Tc}(h:(ks.toArray.zip vs.toArray)[i]? = some p):ks[i]? = some p.1/\vs[i]? = some p.2:=by
 have:(ks.zip vs)[i]? = some p:=by
  have e:ks.toArray.zip vs.toArray=(ks.zip vs).toArray:=by simp
  rw[e] at h;simpa using h
 rw[Vf] at this;exact this
theorem zjx{vs:List G5}{ks:List G5}(hl:ks.length=vs.length){ix:Nat->Nat}(bj:Bij ix vs.length){arr:Array Tc}(hz:arr.size=vs.length)(h:∀i,i<vs.length->arr[i]? = (ks.toArray.zip vs.toArray)[ix i]?):arr.map (·.2)=(zbj vs ix).toArray:=by
 refine Array.ext (by simp[zbj,hz]) λi h1 h2=>?_;have hi:i<vs.length:=by simpa[zbj] using h2
 have hx:=bj.lt i hi;have h3:=h i hi;obtain⟨p,hp⟩:∃p,arr[i]? = some p:=⟨_,Qx (by lia)⟩;have h4:=(zcq hl (h3.symm.trans hp)).2;have e1:(arr.map (·.2))[i]? = some p.2:=by simp[hp]
 have e2:(zbj vs ix).toArray[i]? = some p.2:=by
  simp only[zbj,VG,Qi,Jc hi,J1];rw[Qj,h4];rfl
 rw[Qx h1] at e1;rw[Qx h2] at e2;exact Zp (e1.trans e2.symm)
end
def wlt(a b:List Nat):Bool:=decide (a.length<b.length) || (decide (a.length=b.length) && decide (a<b))
theorem zg3(a:List Nat):wlt a a=false:=by simp[wlt,JH]
theorem zg8: wlt a b=true↔a.length<b.length\/(a.length=b.length/\a<b):=by simp[wlt]
theorem zm5(a b c:List Nat)(h:wlt a b=true)(h':wlt b c=true):wlt a c=true:=by
 rw[zg8] at *;rcases h with h|⟨h1,h2⟩ <;> rcases h' with h'|⟨h3,h4⟩
 .left;lia
 .left;lia
 .left;lia
 .right;exact⟨by lia,YC h2 h4⟩
theorem zo8(a b:List Nat)(h:wlt a b=false)(h':wlt b a=false):a=b:=by
 have n1:¬(wlt a b=true):=by rw[h];simp
 have n2:¬(wlt b a=true):=by rw[h'];simp
 rw[zg8] at n1 n2;have hl:a.length=b.length:=by lia
 have l1:¬a<b:=λz=>n1 (.inr ⟨hl,z⟩);have l2:¬b<a:=λz=>n2 (.inr ⟨hl.symm,z⟩);exact Vz (Ju.mp l2) (Ju.mp l1)
theorem zyl(a b c:List Nat)(h:wlt a c=true):wlt a b=true\/wlt b c=true:=by
 cases h1:wlt a b with
 | true=>exact .inl rfl
 | false=>
   right
   cases h2:wlt b a with
   | true=>exact zm5 _ _ _ h2 h
   | false=>rw[<- zo8 a b h1 h2];exact h
theorem zom{α:Type}[BEq α][LawfulBEq α]{l m:List α}(h:l.Nodup)(h':m.Nodup)(e:∀x,x∈l↔x∈m):l.Perm m:=by
 rw[Ud];intro a;rw[h.count,h'.count]
 by_cases z:a∈l
 .rw[ND z,ND ((e a).mp z)]
 .rw[NE z,NE λq=>z ((e a).mpr q)]
theorem zgu{l m:List (List Nat)}(h:l.Pairwise λa b=>wlt a b=true)(h':m.Pairwise λa b=>wlt a b=true)(e:∀x,x∈l↔x∈m):l=m:=by
 have nd:∀{l:List (List Nat)},l.Pairwise (λa b=>wlt a b=true)->l.Nodup:=λh=>h.imp λ{a b} z e=>by subst e;rw[zg3] at z;cases z
 refine Vv (le:=λa b=>wlt a b=true) (λa b _ _ z1 z2=>?_) h h' (zom (nd h) (nd h') e);have:=zm5 _ _ _ z1 z2;rw[zg3] at this;cases this
end L6
namespace L6
open PySem PyProof.Rows PySem.W
theorem zne:WO (λa b:Int=>decide (a<b)):=⟨λa=>by simp,λa b c h h'=>by simp at *;lia,λa b c h=>by simp at *;lia⟩
theorem z3l:WO (λa b:List Nat=>decide (a<b)):=by
 refine⟨λa=>by simp[JH],λa b c h h'=>?_,λa b c h=>?_⟩
 .simp only[NG] at *;exact YC h h'
 .simp only[NG] at *
  by_cases z:a<b
  .exact .inl z
  .exact .inr (Ue (Ju.mp z) h)
def plt(a b:Int×List Nat):Bool:=decide (a.1<b.1) || (decide (a.1=b.1) && decide (a.2<b.2))
theorem zhe: plt a b=true↔a.1<b.1\/(a.1=b.1/\a.2<b.2):=by simp[plt]
theorem z0g:WO plt:=by
 refine⟨λa=>by simp[plt,JH],λa b c h h'=>?_,λa b c h=>?_⟩
 .rw[zhe] at *;rcases h with h|⟨h1,h2⟩ <;> rcases h' with h'|⟨h3,h4⟩
  .left;lia
  .left;lia
  .left;lia
  .right;exact⟨by lia,YC h2 h4⟩
 .rw[zhe,zhe];rw[zhe] at h
  by_cases z1:a.1<b.1
  .exact .inl (.inl z1)
  .by_cases z2:b.1<c.1
   .exact .inr (.inl z2)
   .rcases h with h|⟨h1,h2⟩
    .lia
    .have e1:a.1=b.1:=by lia
     have e2:b.1=c.1:=by lia
     by_cases z:a.2<b.2
     .exact .inl (.inr ⟨e1,z⟩)
     .exact .inr (.inr ⟨e2,Ue (Ju.mp z) h2⟩)
section
variable {prog:GB}{w:GD}{A:GF}{s:G8}{ks vs:List G5}
theorem zmx{ns:List Int}(hl:ks.length=vs.length)(hk:∀(i:Nat) v,ks[i]? = some v->∃t,v = .int (ns.getD i 0) t):KeysOk prog w A s ks vs (λa b:Int=>decide (a<b)) (λi=>ns.getD i 0):=by
 refine⟨zne,λh2=>⟨N9,λE Q q=>?_,λi j x p y q E Q hi hj h=>?_⟩⟩
 .refine kas_kind (T:=.type "int") (by lia) (λv hv=>?_) (by rfl) (by rfl) q;obtain⟨i,hi⟩:=JT.mp hv;obtain⟨t,rfl⟩:=hk i v hi;exact .now
 .obtain⟨t,rfl⟩:=hk i x (zcq hl hi).1;obtain⟨u,rfl⟩:=hk j y (zcq hl hj).1;exact kat_lt_int h
theorem znt{xs:List Str}(hl:ks.length=vs.length)(hk:∀(i:Nat) v,ks[i]? = some v->∃t,v = .str (xs.getD i ZJ) t):KeysOk prog w A s ks vs (λa b:List Nat=>decide (a<b)) (λi=>(xs.getD i ZJ).cps.toList):=by
 refine⟨z3l,λh2=>⟨N9,λE Q q=>?_,λi j x p y q E Q hi hj h=>?_⟩⟩
 .refine kas_kind (T:=.type "str") (by lia) (λv hv=>?_) (by rfl) (by rfl) q;obtain⟨i,hi⟩:=JT.mp hv;obtain⟨t,rfl⟩:=hk i v hi;exact .now
 .obtain⟨t,rfl⟩:=hk i x (zcq hl hi).1;obtain⟨u,rfl⟩:=hk j y (zcq hl hj).1;exact kas_lt_str h
def zns(h:Heap)(v:G5)(n:Int)(x:Str):Prop:=∃(a:Addr) (o:Obj) (t u:Tok) (e:Nat),v = .ref a/\h.get? a=some o/\o.cls = .type "tuple" /\ o.data = .seq #[.int n t,.str x u] e
theorem zsy{ps:List (Int×Str)}(hl:ks.length=vs.length)(hp:ps.length=ks.length)(hk:∀(i:Nat) v p,ks[i]? = some v->ps[i]? = some p->zns s.heap v p.1 p.2):
 KeysOk prog w A s ks vs plt (λi=>((ps.getD i (0,ZJ)).1,(ps.getD i (0,ZJ)).2.cps.toList)):=by
 have hk':∀(i:Nat) v,ks[i]? = some v->zns s.heap v (ps.getD i (0,ZJ)).1 (ps.getD i (0,ZJ)).2:=λi v e=>by
  have hi:i<ps.length:=by rw[hp];exact(Qn.mp e).1
  have:=hk i v ps[i] e (Qb hi);rw[Qj,Qb hi];exact this
 refine⟨z0g,λh2=>⟨tuples' true,λE Q q=>?_,λi j x p y q E Q hi hj h=>?_⟩⟩
 .have go:∀l:List G5,(∀v∈l,∃n x,zns s.heap v n x)->∃fs:List G5,KatTups s.heap l fs/\fs.length=l.length/\∀f∈fs,∃n t,f = .int n t:=by
   intro l
   induction l with
   | nil=>exact λ_=>⟨[],.nil,rfl,λ_ h=>by cases h⟩
   | cons v l ih=>
     intro h;obtain⟨fs,z1,z2,z3⟩:=ih λv' hv=>h v' (Qe _ hv);obtain⟨n,x,a,o,t,u,e,rfl,ho,hc,hd⟩:=h v Qu;refine⟨.int n t::fs,.cons ho hc hd rfl z1,by simp[z2],λf hf=>?_⟩;rcases Qs.mp hf with rfl|hf
     .exact⟨n,t,rfl⟩
     .exact z3 f hf
  obtain⟨fs,z1,z2,z3⟩:=go ks λv hv=>by
   obtain⟨i,hi⟩:=JT.mp hv;exact⟨_,_,hk' i v hi⟩
  refine kat_kind (T:=.type "int") z1 (by lia) (λf hf=>?_) (by rfl) q;obtain⟨n,t,rfl⟩:=z3 f hf;exact .now
 .obtain⟨a,o,t,u,e,rfl,ho,hc,hd⟩:=hk' i x (zcq hl hi).1;obtain⟨a',o',t',u',e',rfl,ho',hc',hd'⟩:=hk' j y (zcq hl hj).1;dsimp only at h;generalize (ps.getD i (0,ZJ)).1=n at *;generalize (ps.getD i (0,ZJ)).2=x at *;generalize (ps.getD j (0,ZJ)).1=m at *;generalize (ps.getD j (0,ZJ)).2=y at *;refine kat_lt ho hd ho' hd' (kat_cons (wpAny_eqBool_int ?_))
  by_cases en:n=m
  .subst en;rw[show(n == n)=true by simp];refine kat_yes (kat_cons (wpAny_eqBool_str ?_))
   by_cases ex:x=y
   .subst ex;rw[show decide (x=x)=true by simp];refine kat_yes (kat_nil ?_);simpa[plt,JH] using h
   .rw[NI ex];refine kat_no (kat_one _ _ ?_);have e1:plt (n,x.cps.toList) (n,y.cps.toList)=decide (x.cps.toList<y.cps.toList):=by simp[plt]
    rw[e1] at h;exact lt_str h
  .rw[show(n == m)=false by simpa using en];refine kat_no ?_;have e1:plt (n,x.cps.toList) (m,y.cps.toList)=decide (n<m):=by simp[plt,en]
   rw[e1] at h;exact oneLt_int h
end
end L6
namespace L2
open PySem PySem.Spec
open PyProof.Rows hiding St
section
variable {X:Cx}{pins:List (Addr×Obj)}{σ:St}{H:Hp}{s:G8}{h':Heap}
theorem Inv.adopt{t':Nat}(I:Inv X pins σ H s)(fp:FpOk X pins H q)(k:∀b u,b≠q->s.heap.get? b=some u->h'.get? b=some u)(new:ObjOk X.prog X.w (upd H q o) h' q o):Inv X pins σ (upd H q o) { s with heap:=h',toks:=t' }:=by
 obtain⟨f0,f1,f2,f3,f4,f5⟩:=fp;have nq:∀c u,H c=some u->c≠q:=λc u e=>zas e f0
 refine I.step (g':=s.gens) (d':=s.drawn) (ch:=[q]) (λb hb=>?_) (λb o _ _ hc e _=>k b o (λz=>hc (by simp[z])) e) (λb o _ _ hc e _=>⟨o.slots,k b o (λz=>hc (by simp[z])) e⟩)
  (λb o hc _ n=>by rw[zaa (λz=>hc (by simp[z]))];exact n) (λb o hc e=>⟨o,k b o (λz=>hc (by simp[z])) e⟩) (λb xs e=>by rw[zaa (nq _ _ e)];exact e) (λb o u e=>by rw[zaa (nq _ _ e)];exact e)
  (λb ps e=>⟨#[],by rw[zaa (nq _ _ e),e];simp⟩) (λm hm=>?_) (λb u e=>?_) I.bare
 .have e:b=q:=by simpa using hb
  subst e;exact⟨f3,f1,f4,f5⟩
 .obtain⟨o,es,ep,ho,r⟩:=hm;exact⟨o,es,ep,k _ o (ZC f1) ho,r⟩
 .by_cases hb:b=q
  .subst hb;rw[zad] at e;cases e;exact new
  .rw[zaa hb] at e;refine(I.hok b u e).stay (λc v hc r=>k c v ?_ r) (λc r=>by rw[zaa (nq _ _ r)];exact r) (λc xs r=>by rw[zaa (nq _ _ r)];exact r) λc oc r=>by rw[zaa (nq _ _ r)];exact r
   rcases hc with z|z
   .rw[z];exact hb
   .exact nq _ _ z
end
end L2
namespace L6
open PySem PySem.Spec
open PyProof.Rows hiding St
open L2 L3
inductive KeysV(K:Qa)(H:Hp):List V->(α:Type)->(α->α->Bool)->(Nat->α)->Prop
 | int (ns:List Int):KeysV K H (ns.map V.int) Int (λa b=>decide (a<b)) (λi=>ns.getD i 0)
 | txt (xs:List Str):KeysV K H (xs.map V.str) (List Nat) (λa b=>decide (a<b)) (λi=>(xs.getD i ZJ).cps.toList)
 | pair (ps:List (Int×Str)) (ks:List V) (hl:ps.length=ks.length) (h:∀(i:Nat) v p,ks[i]? = some v->ps[i]? = some p->∃a,v = .ref a/\SqT K H a [.int p.1,.str p.2]) :
  KeysV K H ks (Int×List Nat) plt (λi=>((ps.getD i (0,ZJ)).1,(ps.getD i (0,ZJ)).2.cps.toList))
def zfs{α:Type}(d:α)(xs:List α)(ix:Nat->Nat):List α:=(Q2 xs.length).map λi=>xs.getD (ix i) d
section
variable {X:Cx}{pins:List (Addr×Obj)}{σ:St}{H:Hp}{s:G8}
theorem Vals.pick(r:Vals xs vs)(bj:Bij ix vs.length):Vals (zfs .non xs ix) (zbj vs ix):=by
 have hl:=r.length
 have go:∀l:List Nat,(∀i∈l,i<vs.length)->Vals (l.map λi=>xs.getD (ix i) .non) (l.map λi=>vs.getD (ix i) .none):=by
  intro l
  induction l with
  | nil=>exact λ_=>.nil
  | cons i l ih=>
    intro h;have hi:=bj.lt i (h i Qu);have e1:xs[ix i]? = some (xs.getD (ix i) .non):=by rw[Qj,Qb (by lia)];rfl
    obtain⟨u,hu,ru⟩:=Vals.get r e1;have e2:vs.getD (ix i) .none=u:=by rw[Qj,hu];rfl
    refine .cons ?_ (ih λj hj=>h j (Qe _ hj));show L2.RelV (xs.getD (ix i) .non) (vs.getD (ix i) .none);rw[e2];exact ru
 unfold zfs zbj;rw[hl];exact go _ λi hi=>Zf.mp hi
theorem zus{α:Type}{blt:α->α->Bool}{k:Nat->α}{kvs:List V}{ks vs:List G5}{A:GF}(I:Inv X pins σ H s)(h:KeysV X.K H kvs α blt k)(r:Vals kvs ks)(hl:ks.length=vs.length):KeysOk X.prog X.w A s ks vs blt k:=by
 cases h with
 | int ns=>
   refine zmx hl λi v e=>?_;have hi:=(Qn.mp e).1;have hi':i<ns.length:=by have:=r.length;rw[Qf] at this;lia
   obtain⟨u,hu,ru⟩:=Vals.get r (i:=i) (x:=V.int ns[i]) (by rw[Qi,Qb hi'];rfl);rw[e] at hu;cases hu;obtain⟨t,rfl⟩:=ru;exact⟨t,by rw[Qj,Qb hi'];rfl⟩
 | txt xs=>
   refine znt hl λi v e=>?_;have hi:=(Qn.mp e).1;have hi':i<xs.length:=by have:=r.length;rw[Qf] at this;lia
   obtain⟨u,hu,ru⟩:=Vals.get r (i:=i) (x:=V.str xs[i]) (by rw[Qi,Qb hi'];rfl);rw[e] at hu;cases hu;obtain⟨t,rfl⟩:=ru;exact⟨t,by rw[Qj,Qb hi'];rfl⟩
 | pair ps _ hp hk=>
   refine zsy hl (by rw[hp];exact r.length) λi v p e ep=>?_;have hi:=(Qn.mp e).1;have hi':i<kvs.length:=by rw[r.length];exact hi
   obtain⟨u,hu,ru⟩:=Vals.get r (Qb hi');rw[e] at hu;cases hu;obtain⟨a,ea,hs⟩:=hk i _ p (Qb hi') ep;rw[ea] at ru;cases ru;obtain⟨its,rv,⟨o,e1,c,n,d⟩,_⟩:=I.tuple hs
   cases rv with
   | cons r1 rv=>
     cases rv with
     | cons r2 rv=>
       cases rv;obtain⟨t,rfl⟩:=r1;obtain⟨u,rfl⟩:=r2;exact⟨a,o,t,u,n,rfl,e1,c,d⟩
end
end L6
namespace SX
open PySem PySem.Spec PyProof.Rows
abbrev Es:=Array (Int×G5)
def keyE(e:Int×G5):Str:=strOf e.2
def keys(es:Es):List Str:=es.toList.map keyE
def byT(w:GD):Bool:=w.params.followText "set-order"
structure Sx(w:GD)(h:Heap)(a:Addr)(es:Es)(ep:Nat)(t:GN):Prop where
 at_:∃o,h.get? a=some o/\o.ExactSet/\o.data = .set es ep t
 lt:es.size<scanBound
 fit:t.fits es.size=true
 led:t.led = !byT w
 pl:1<es.size->t.plain=false
structure Tx(P:GB)(w:GD)(h:Heap)(a:Addr)(es:Es)(ep:Nat)(t:GN):Prop extends Sx w h a es ep t where
 el:Ng (ZW P w) es.toList
 nd:(keys es).Nodup
theorem zow(t:GN)(es:Es)(h:Int)(x:G5):(No t es h x).2.1.led=t.led:=by
 unfold No
 cases t.freeSlot h with
 | none=>rfl
 | some p=>
   obtain⟨j,d⟩:=p;show((t.put j).1.orStandIn _).led=t.led;unfold Uv
   split <;> rfl
theorem zpg(t:GN)(es:Es)(n:Nat):(Tz t es n).2.1.led=t.led/\(t.plain=false->(Tz t es n).2.1.plain=false):=by
 unfold Tz
 cases e:t.relaid (es.map (·.1)) n with
 | none=>exact⟨rfl,λ_=>rfl⟩
 | some p=>
   obtain⟨t',ord⟩:=p
   have:t'.led=t.led/\t'.plain=t.plain:=by
    unfold Ge Gs at e
    cases q:UB (Vb n-1) (es.map (·.1)) with
    | none=>rw[q] at e;cases e
    | some o=>rw[q] at e;cases e;exact⟨rfl,rfl⟩
   dsimp only
   split
   .exact⟨this.1,λh=>this.2.trans h⟩
   .exact⟨rfl,λ_=>rfl⟩
section
variable {P:GB}{w:GD}{A:GF}{E:G5->G8->Prop}{s:G8}
theorem zgd(h:∃k,(ZW P w).is k e.2=true/\e.1=(ZW P w).hash k)(k:Str):(ZW P w).is k e.2=true↔keyE e=k:=by
 obtain⟨k',hk,_⟩:=h;obtain⟨i,v⟩:=e;obtain⟨t,ev⟩:=YL hk;subst ev;show JR k (.str k' t)=true↔k'=k;constructor
 .intro h;exact(ZW P w).inj (.str k' t) _ _ hk h
 .rintro rfl;exact hk
theorem Tx.put{ep:Nat}(S:Tx P w s.heap a es ep t)(el:Ng (ZW P w) es'.toList)(nd:(keys es').Nodup)(lt:es'.size<scanBound)(fit:t'.fits es'.size=true)(led:t'.led = !byT w)(pl:t'.plain=false)
 (h:∀h',ZI a s.heap h'->Tx P w h' a es' (ep+1) t'->Q () { s with heap:=h' }):wpAny (model P w) A (MW a es' t') Q E s:=by
 obtain⟨o,ho,hx,hd⟩:=S.at_;refine wpAny_storeSet_of ho hd (h _ (.update ..) ⟨⟨⟨{ o with data:=.set es' (ep+1) t' },?_,hx,rfl⟩,lt,fit,led,λ_=>pl⟩,el,nd⟩) (Td lt);have:=JS (Obj.putSet es' t') ho (by rw[Np es' t' hd];rfl);rw[Np es' t' hd] at this;exact this
theorem zld{es es':Es}(p:es'.toList.Perm es.toList):es'.size=es.size:=by simpa using p.length_eq
theorem zlk(p:es'.toList.Perm es.toList):(keys es').Perm (keys es):=p.map _
theorem Tx.add{ep:Nat}(S:Tx P w s.heap a es ep t)(hr:es.size+1<scanBound)
 (h:∀b h' es' ep' t',ZI a s.heap h'->Tx P w h' a es' ep' t'->(∀k,k∈keys es'↔k∈keys es\/k=x)->es'.size<=es.size+1->Q b { s with heap:=h' }) :
 wpAny (model P w) A (MH a (.str x tk) (MF w x)) Q E s:=by
 have hk:(ZW P w).is x (.str x tk)=true:=by show JR x (.str x tk)=true;simp[JR]
 obtain⟨o,ho,hx,hd⟩:=S.at_
 have gw:∀(b:Bool) (s₁:G8) (Q':Unit->G8->Prop),Q' () s₁->wpAny (model P w) A (match b with|true=>rule "set.scan.the-table-gave-way" | false=>pure ()) Q' E s₁:=λb s₁ Q' q=>by
  cases b
  .exact G6 q
  .exact GZ q
 unfold MH Mu;refine GK (G4 (Mc ho hd S.fit ?_));dsimp only;rw[ND (byScan_of rfl S.lt S.el)];unfold setAddByScan;refine G4 (G4 (GZ (G4 (wpAny_setScan_of (knd:=ZW P w) hk ho hd S.fit S.el ?_))))
 cases hf:es.toList.findIdx? (λe=>(ZW P w).is x e.2) with
 | some j=>
   obtain⟨hj,hp,_⟩:=Yx.mp hf;have hm:x∈keys es:=Qp.mpr ⟨_,Zi hj,(zgd (S.el _ (Zi hj)).1 x).mp hp⟩;refine G6 (G6 ?_);exact h false s.heap es ep t (.refl ..) S (λk=>⟨.inl,λz=>z.elim id λz=>z ▸ hm⟩) (ZN _)
 | none=>
   have hm:x ∉ keys es:=λhm=>by
    obtain⟨e,he,hk'⟩:=Qp.mp hm;have:=Vg.mp hf e he;rw[(zgd (S.el e he).1 x).mpr hk'] at this;cases this
   have hp:=layNew_perm t es (MF w x) (.str x tk);have hfit:=layNew_fits t es (MF w x) (.str x tk);have hled:=zow t es (MF w x) (.str x tk);generalize No t es (MF w x) (Vx x tk)=L at hp hfit hled ⊢;obtain⟨e1,t1,wd,gv⟩:=L;dsimp only at hp hfit hled ⊢;rw[J4] at hp;have el1:Ng (ZW P w) e1.toList:=(S.el.push (k:=x) (x:=.str x tk) hk rfl).perm hp
   have kp:(keys e1).Perm (keys es ++ [x]):=by
    have:=hp.map keyE;rw[QE] at this;exact this
   have nd1:(keys e1).Nodup:=kp.nodup_iff.mpr (ZE.mpr ⟨S.nd,(by simp),λa ha b hb=>by
    rw[Qm] at hb;subst hb
    exact λz=>hm (z ▸ ha)⟩)
   have mem1:∀k,k∈keys e1↔k∈keys es\/k=x:=λk=>by rw[kp.mem_iff,Q7,Qm]
   have sz1:e1.size=es.size+1:=by simpa using hp.length_eq
   have lt1:e1.size<scanBound:=by lia
   refine G4 (gw _ _ _ ?_)
   have fin:∀t2:GN,t2.fits e1.size=true->t2.led=t.led->t2.plain=false->wpAny (model P w) A (do
    MW a e1 t2
    if(!wd && t2.tooFull)=true then do
        (match (Tz t2 e1 (Zv e1.size)).2.2 with|true=>rule "set.scan.the-table-gave-way" | false=>pure ())
        MW a (Tz t2 e1 (Zv e1.size)).1 (Tz t2 e1 (Zv e1.size)).2.1
        pure (some true)
     else pure (some true)) (λr s₁=>wpAny (model P w) A (match r with|some b=>pure b|none=>Mu a (.str x tk) (MF w x) 99999) Q E s₁) E s:=λt2 f2 l2 p2=>by
    refine G4 (S.put el1 nd1 lt1 f2 (l2.trans S.led) p2 λh1 sb1 S1=>?_)
    cases hw:(!wd && t2.tooFull) with
    | false=>exact G6 (G6 (h true h1 e1 _ t2 sb1 S1 mem1 (V6 sz1)))
    | true=>
      have rp:=relayAll_perm t2 e1 (Zv e1.size);have rf:=relayAll_fits t2 e1 (Zv e1.size);have rl:=zpg t2 e1 (Zv e1.size);generalize Tz t2 e1 (Zv e1.size)=R at rp rf rl ⊢;obtain⟨e2,t3,g2⟩:=R;dsimp only at rp rf rl ⊢;refine G4 (gw _ _ _ ?_);have z2:=zld rp;refine G4 (S1.put (s:={ s with heap:=h1 }) (el1.perm rp) ((zlk rp).nodup_iff.mpr nd1) (by lia) rf (rl.1.trans (l2.trans S.led)) (rl.2 p2) λh2 sb2 S2=>?_);exact G6 (G6 (h true h2 e2 _ t3 (sb1.trans sb2) S2 (λk=>by rw[(zlk rp).mem_iff];exact mem1 k) (by lia)))
   split
   .rename_i hpl
    refine G4 ?_;rw[hashByValue_scannable 8 (x:=.str x tk) rfl];refine G6 ?_;exact fin { t1 with plain:=false } (SetTable.fits_plain_off hfit) hled rfl
   .rename_i hpl
    refine G4 (G6 ?_);exact fin t1 hfit hled (by simpa using hpl)
end
end SX
namespace SX
open PySem PySem.Spec PyProof.Rows
section
variable {P:GB}{w:GD}{A:GF}{R:Result->G8->Prop}{I:Addr}{fp wr:List Addr}{G:Array Nh->Array Nh->Prop}{n:Nat}{Pv:Nat->G5->Prop}{St:Nat->G8->Prop}
theorem Sx.keep{ep:Nat}(S:Sx w h a es ep t)(k:∀o,h.get? a=some o->h'.get? a=some o):Sx w h' a es ep t :=
 { S with at_:=let ⟨o,e,r⟩:=S.at_;⟨o,k o e,r⟩ }
theorem Tx.keep{ep:Nat}(S:Tx P w h a es ep t)(k:∀o,h.get? a=some o->h'.get? a=some o):Tx P w h' a es ep t :=
 ⟨S.toSx.keep k,S.el,S.nd⟩
theorem zzp(W:WalksS P w A.in1 I fp wr G n Pv St)(S:Addr)(hS:S ∉ fp)(val:Nat->Str)(hval:∀i v,Pv i v->∃t,v = .str (val i) t)(hb:n+1<scanBound):
 ∀(m i:Nat) (s:G8) (es:Es) (ep:Nat) (t:GN),n-i=m->i<=n->St i s->Tx P w s.heap S es ep t->(∀x,x∈keys es↔∃j,j<i/\val j=x)->es.size<=i ->
   (∀s' es' ep' t',Moved (S::wr) G s s'->Tx P w s'.heap S es' ep' t'->(∀x,x∈keys es'↔∃j,j<n/\val j=x)->R (.ok (.ret .none)) s') ->
   Mf (model P w) A (.builtin "set.update.loop" ⟨[.ref S,.ref I],[]⟩) R s:=by
 have nw:S ∉ wr:=λz=>hS (W.sub _ z);have up:∀b∈wr,b∈S::wr:=λb z=>Qe _ z;intro m
 induction m with
 | zero=>
   intro i s es ep t hm hi st T hk _ k;obtain rfl:i=n:=by lia
   refine GU JI ?_;rw[Zz ZU _];refine G4 (W.done s _ _ st λs' mv=>G6 ?_);exact k s' es ep t (mv.mono up) (T.keep λo e=>mv.heap S o nw e) hk
 | succ m ih=>
   intro i s es ep t hm hi st T hk hz k;have hlt:i<n:=by lia
   refine GU JI ?_;rw[Zz ZU _];refine G4 (W.item i s _ _ hlt st λv s' pv st' mv=>?_);obtain⟨tk,rfl⟩:=hval i v pv;have T1:Tx P w s'.heap S es ep t:=T.keep λo e=>mv.heap S o nw e;refine G4 (m:=holding [Vx (val i) tk] (setAdd S (.str (val i) tk))) (GK ?_);unfold setAdd;refine GK (G4 ((ZW P w).pyHash (k:=val i) (by show JR (val i) (.str (val i) tk)=true;simp[JR]) ?_));refine Tx.add (s:={ s' with toks:=s'.toks+1 }) (x:=val i) T1 (by lia) λb h' es' ep' t' sb T2 hk' hz'=>?_;refine G6 ⟨Tr ZU _,ih (i+1) _ es' ep' t' (by lia) hlt (W.frame _ s' _ _ st' (ZN _) λb hb o e=>?_) T2 (λx=>?_) (by lia) λs'' e2 p2 t2 mv2 T3 hk3=>?_⟩
   .rw[sb.2 b (λz:b=S=>hS (z ▸ hb))];exact e
   .rw[hk',hk];constructor
    .rintro(⟨j,h1,h2⟩|rfl)
     .exact⟨j,by lia,h2⟩
     .exact⟨i,by lia,rfl⟩
    .rintro⟨j,h1,h2⟩
     by_cases hj:j=i
     .subst hj;exact .inr h2.symm
     .exact .inl ⟨j,by lia,h2⟩
   .refine k s'' e2 p2 t2 (.trans W.gtrans ((mv.mono up).then_heap (ZN _) λb o hb e=>?_) mv2) T3 hk3;rw[sb.2 b (λz:b=S=>hb (z ▸ Qu))];exact e
end
section
variable {P:GB}{w:GD}{A:GF}{E:G5->G8->Prop}{s:G8}
abbrev eObj(w:GD):Obj:={ cls:=.type "set",dict:=none,data:=.set #[] 0 (.fresh 0 0 (!byT w)) }
theorem z3a(e:h.get? a=some (eObj w)):Tx P w h a #[] 0 (.fresh 0 0 (!byT w)) :=
 ⟨⟨⟨_,e,⟨rfl,rfl,rfl⟩,rfl⟩,by decide,rfl,rfl,λz=>absurd z (by decide)⟩,λ_ z=>by simp at z,by simp[keys]⟩
theorem zov(v:G5)(h:Q (.ref s.heap.objs.size) { s with heap:=s.heap.push (eObj w) }):
 Mf (model P w) A (.call (.builtin "set.__new__") ⟨[.type "set",v],[]⟩) (wants Q E) s:=by
 refine ML ?_;refine G4 (m:=checkBuiltinCall "set.__new__" ⟨[.type "set",v],[]⟩) (wpAny_of_eq (F.newCall_set_1 v) (G6 ⟨Tr F.plain_set_new _,GU F.entry_set_new ?_⟩));rw[Zz F.plain_set_new _];unfold Builtin.«set.__new__» Go;have hsub:=sub_set_self;obtain⟨hp,g,d,tk,os⟩:=s;dsimp only
 wp_walk
 refine Md (G6 ?_);dsimp only;simp only[newObj];refine G4 (Ny (G6 ?_));exact G6 h
end
end SX
namespace SX
open PySem PySem.Spec PyProof.Rows
section
variable {P:GB}{w:GD}{A:GF}{E:G5->G8->Prop}{s:G8}
abbrev Ext(h h':Heap):Prop:=∀b o,h.get? b=some o->h'.get? b=some o
def Src(P:GB)(w:GD)(h:Heap)(v:G5)(n:Nat)(Pv:Nat->G5->Prop):Prop :=
 ∀(A:GF) (E:G5->G8->Prop) (s₁:G8) (Q:G5->G8->Prop),A.handled=none->Ext h s₁.heap ->
   (∀I h' fp St,(∀A':GF,A'.handled=none->Nu P w A' I fp [I] n Pv St)->St 0 h'->Ext s₁.heap h'->(∀b∈fp,b<h.objs.size\/s₁.heap.objs.size<=b)->s₁.heap.objs.size<=I->Q (.ref I) { s₁ with heap:=h' }) ->
   wpAny (model P w) A (MT v) Q E s₁
theorem zk9{n:Nat}{val:Nat->Str}(hh:A.handled=none)(hT:∀s₁:G8,Ext s.heap s₁.heap->s₁.TypeIs v T)
 (h1:M8 (.type T) (.type "set")=pure false) (h2:M8 (.type T) (.type "frozenset")=pure false) (h3:(Zs T == Zs "dict")=false) (src:Src P w s.heap v n Pv)
 (hval:∀i v,Pv i v->∃t,v = .str (val i) t) (hb:n+1<scanBound)
 (k:∀h' tk es ep t,Tx P w h' s.heap.objs.size es ep t->(∀x,x∈keys es↔∃j,j<n/\val j=x)->Ext s.heap h'->Q (.ref s.heap.objs.size) { s with heap:=h',toks:=tk }) :
 wpAny (model P w) A (call (.type "set") [v]) Q E s:=by
 obtain⟨c,tl,hmro⟩:=Z3.mro;have hmade:=Z3.made;have hsub:=Z3.sub;refine MK (ML ?_);show wpAny _ _ (callAny (.type "set") _) _ _ _;refine G6 ⟨Uw _ (by decide +kernel),GU UC ?_⟩;rw[Ux (MP "set" [v] []) rfl];have c1:=Z3.notType;have c2:=Z3.canCreate;have c3:=UU v
 repeat (any_goals (first|assumption|wp_step))
 refine To (zov v (E:=E) (Q:=λr s₁=>r = .ref s.heap.objs.size/\s₁ = { s with heap:=s.heap.push (eObj w) }) ⟨rfl,rfl⟩) λr s₁ hr=>?_
 cases r with
 | error e=>exact hr
 | ok fl=>
   cases fl with
   | ret obj=>
     obtain⟨rfl,rfl⟩:=hr;have eS:(s.heap.push (eObj w)).get? s.heap.objs.size=some (eObj w):=Qo _ rfl;have hS:YA { s with heap:=s.heap.push (eObj w) } (.ref s.heap.objs.size) "set" := ⟨_,eS,rfl⟩;have c4:=Z3.init.lookup;have c5:=Z3.init.bind (.ref s.heap.objs.size)
     repeat (any_goals (first|assumption|wp_step))
     refine To (MR (R:=wants (λr s₂=>r = .none/\∃h' tk es ep t,s₂ = { s with heap:=h',toks:=tk }/\Tx P w h' s.heap.objs.size es ep t/\(∀x,x∈keys es↔∃j,j<n/\val j=x)/\Ext s.heap h') E) Z3.init.plain UV (check_set_init_1 hS ?_)) λr₂ s₂ hr₂=>?_
     .have e0:Ext s.heap (s.heap.push (eObj w)):=λb o e=>Qc _ e;have hTv:=hT { s with heap:=s.heap.push (eObj w) } e0;unfold Builtin.«set.__init__» noKeywords YI;generalize hPI:MT=PI
      wp_walk
      subst hPI;have lt0:s.heap.objs.size<(s.heap.push (eObj w)).objs.size:=by rw[Za];exact Zh _
      refine src _ _ _ _ (by simpa using hh) e0 λI h' fp St W st ex fpb hI=>?_;refine G4 (My ?_)
      have nS:s.heap.objs.size ∉ fp:=λz=>by
       rcases fpb _ z with y|y
       .exact QS _ y
       .exact absurd lt0 (Yr.mpr y)
      refine zzp (W _ (by simpa using hh)).toS s.heap.objs.size nS val hval hb n 0 _ #[] 0 _ rfl (QI _) st (z3a (ex _ _ eS)) (λx=>by simp[keys]) (Qg _) λs' es ep t mv T hk=>?_;obtain⟨h2,g2,d2,tk2,os2⟩:=s';obtain rfl:g2=s.gens:=mv.gens;obtain rfl:d2=s.drawn:=mv.drawn;obtain rfl:os2=s.os:=mv.os;show wpAny _ _ _ _ _ _;refine G6 (G6 ⟨rfl,h2,tk2,es,ep,t,rfl,T,hk,λb o e=>mv.heap b o (λz=>?_) (ex b o (e0 b o e))⟩);have hbl:=Qq e;rcases Qs.mp z with z|z
      .exact Q1 hbl z
      .rw[Qm.mp z] at hbl;exact absurd hbl (Yr.mpr (QN (ZY lt0) hI))
     .cases r₂ with
      | error e=>exact hr₂
      | ok fl₂=>
        cases fl₂ with
        | ret r=>
          obtain⟨rfl,h',tk,es,ep,t,rfl,T,hk,ex⟩:=hr₂
          repeat (any_goals (first|assumption|wp_step))
          exact k _ _ _ _ _ T hk ex
        | _=>exact hr₂.elim
   | _=>exact hr.elim
end
end SX
namespace SX
open PySem PySem.Spec PyProof.Rows
theorem nx_slot:Slot "set_iterator" "__next__" "set_iterator.__next__" := by
 refine Slot.of (owner := "set_iterator") (n := "__next__") ?_ (by decide +kernel) (by decide +kernel) (by decide +kernel) ?_ ?_
 .rw[Mm,TK];kernel_rfl
 .first
   | exact .inl (by decide +kernel)
   | exact .inr (by decide +kernel)
 .rw[TN];kernel_rfl
theorem zo6:Slot "set_iterator" "__iter__" "set_iterator.__iter__" := by
 refine Slot.of (owner := "set_iterator") (n := "__iter__") ?_ (by decide +kernel) (by decide +kernel) (by decide +kernel) ?_ ?_
 .rw[Mm,TK];kernel_rfl
 .first
   | exact .inl (by decide +kernel)
   | exact .inr (by decide +kernel)
 .rw[TN];kernel_rfl
theorem zfm:entryFor table "set_iterator.__next__" = some Builtin.«set_iterator.__next__»:=by
 refine entryFor_of_tree ?_;kernel_rfl
theorem zvg:entryFor table "set_iterator.__iter__" = some Builtin.«dict_keyiterator.__iter__»:=by
 refine entryFor_alias (id' := "dict_keyiterator.__iter__") ?_ rfl ?_ ?_
 .kernel_rfl
 .decide +kernel
 .kernel_rfl
theorem zey:entryFor table "set.__iter__" = some Builtin.«frozenset.__iter__»:=by
 refine entryFor_alias (id' := "frozenset.__iter__") ?_ rfl ?_ ?_
 .kernel_rfl
 .decide +kernel
 .kernel_rfl
theorem zn6:Manifest.owners.lookup (String.ofList ['r','o','t','a','r','e','t','i','_','t','e','s'].reverse)=some Manifest.sig_set_iterator:=by kernel_rfl
theorem zg7(a:G5):argsOk "set_iterator.__next__" ⟨[a],[]⟩:=by
 unfold argsOk;rw[signature?_of (id := "set_iterator.__next__") (n:=['_','_','t','x','e','n','_','_']) (o:=['r','o','t','a','r','e','t','i','_','t','e','s']) (by kernel_rfl) zn6];kernel_rfl
theorem zxy(a:G5):argsOk "set_iterator.__iter__" ⟨[a],[]⟩:=by
 unfold argsOk;rw[signature?_of (id := "set_iterator.__iter__") (n:=['_','_','r','e','t','i','_','_']) (o:=['r','o','t','a','r','e','t','i','_','t','e','s']) (by kernel_rfl) zn6];kernel_rfl
theorem zfl{α:Type}:∀{l:List α} {i:Nat} (h:i<l.length),(l[i]::l.eraseIdx i).Perm l
 | [],_,h=>absurd h (Yp _)
 | x::l,0,_=>.refl _
 | x::l,i+1,h=>(Gm x _ _).trans ((zfl (l:=l) (i:=i) (Nat.lt_of_succ_lt_succ h)).cons x)
theorem zpc{α:Type}(f:Nat->Nat):∀(m k:Nat) (l:List α) (out:Array α),l.length=m->(UD f m k l out).toList.Perm (out.toList++l)
 | 0,k,l,out,h=>by
   obtain rfl:l = []:=by cases l with|nil=>rfl|cons _ _=>simp at h
   simp[UD]
 | m+1,k,l,out,h=>by
   have hi:f k % l.length<l.length:=Nat.mod_lt _ (by lia);unfold UD;rw[Qb hi];refine(zpc f m (k+1) (l.eraseIdx (f k % l.length)) (out.push l[f k % l.length]) (by rw[YD];simp[hi];lia)).trans ?_;rw[J4,Qv];refine VI _ ?_;exact zfl hi
theorem zkz{α:Type}(f:Nat->Nat)(xs:Array α):(Tf f xs).toList.Perm xs.toList:=by
 simpa[Tf] using zpc f xs.size 0 xs.toList #[] (by simp)
end SX
namespace SX
open PySem PySem.Spec PyProof.Rows
section
variable {P:GB}{w:GD}{A:GF}{E:G5->G8->Prop}{s:G8}{α:Type}
theorem ztc{n:Nat}(hn:n≠0)(h:∀i d,i<n->Q i { s with drawn:=d }):wpAny (model P w) A (choose src n) Q E s:=λΓ p _=>
 ⟨hn,h _ _ (Nat.mod_lt _ (Nat.pos_of_ne_zero hn))⟩
theorem zjt:∀(m:Nat) (xs:List α) (s:G8) (Q:List α->G8->Prop),xs.length=m->(∀ys d,ys.Perm xs->Q ys { s with drawn:=d })->wpAny (model P w) A (drawOrder m xs) Q E s
 | 0,xs,s,Q,e,h=>by
   obtain rfl:xs = []:=Jo.mp e;exact G6 (h [] s.drawn .nil)
 | m+1,[],s,Q,e,h=>by cases e
 | m+1,x::xs,s,Q,e,h=>by
   unfold drawOrder;refine G4 (ztc (by simp) λi d hi=>?_);rw[Qb hi];refine G4 (zjt m _ _ _ (by rw[YD,ND hi];simpa using e) λys d2 hp=>?_);exact G6 (h _ d2 ((hp.cons _).trans (zfl hi)))
theorem wp_f{c:Prop}[Decidable c](hc:¬c)(h:wpAny (model P w) A b Q E s):wpAny (model P w) A (if c then a else b) Q E s:=by
 rw[NE hc];exact h
theorem wp_t{c:Prop}[Decidable c](hc:c)(h:wpAny (model P w) A a Q E s):wpAny (model P w) A (if c then a else b) Q E s:=by
 rw[ND hc];exact h
theorem zde(h:Q (byT w) s):wpAny (model P w) A setsByText Q E s:=by
 unfold setsByText;exact G4 (Md (G6 h))
theorem Sx.state{ep:Nat}(S:Sx w s.heap a es ep t)(h:Q (es,ep,t) s):wpAny (model P w) A (setState a) Q E s :=
 let ⟨_,ho,_,hd⟩:=S.at_
 Mc ho hd S.fit h
theorem Sx.entries{ep:Nat}(S:Sx w s.heap a es ep t)(h:Q es s):wpAny (model P w) A (setEntries a) Q E s :=
 let ⟨_,ho,_,hd⟩:=S.at_
 wpAny_setEntries_of ho hd S.fit h
theorem Sx.epoch{ep:Nat}(S:Sx w s.heap a es ep t)(h:Q ep s):wpAny (model P w) A (setEpoch a) Q E s :=
 let ⟨_,ho,_,hd⟩:=S.at_
 wpAny_setEpoch_of ho hd S.fit h
abbrev itO(first:G5)(i:Nat)(S:Addr)(n ep:Nat):Obj:={ cls:=.type "set_iterator",dict:=none,data:=.fields #[first,.int i 0,.ref S,.int n 0,.int ep 0],slots:=#[] }
theorem zha{R:Option G5->G8->Prop}(hh:A.handled=none)(h:∀h',Ext s.heap h'->R none { s with heap:=h' }):
 wpAny (model P w) A.in1 (do raiseNew (<- newExc (.type "StopIteration") [])) Z (λe s₁=>wpAny (model P w) A (do if <- isInstance e (.type "StopIteration") then pure none else throw e) R E s₁) s:=by
 refine G4 ?_;simp only[newExc,newTuple];refine G4 (GI ?_ (by size_fits));refine G4 (m:=firstArgMember _ _) (wpAny_of_eq (a:=Y7) (by first|rfl|(simp only[firstArgMember];rfl)) ?_);refine GI ?_ (by size_fits);simp only[raiseNew];refine G4 (wpAny_handled ?_);rw[show A.in1.handled=none from hh];refine G4 (G6 (wpAny_throw ?_));refine G4 (Me (T := "StopIteration") (b:=true) ⟨_,Qo _ rfl,rfl⟩ isSubtype_stop ?_);exact G6 (h _ λb o e=>Qc _ (Qc _ e))
end
end SX
namespace HK
open PySem PySem.Spec PyProof.Rows
mutual
def hk:G7->Bool
 | .int _=>true
 | .str _=>true
 | .tuple ds=>hks ds
 | _=>false
def hks:List G7->Bool
 | []=>true
 | d::ds=>hk d && hks ds
end
mutual
def hD(w:GD):G7->Int
 | .int i=>M0 i
 | .str x=>MF w x
 | .tuple ds=>reduceHash (Builtin.Tuple.tupleHashOf (hDs w ds))
 | _=>0
def hDs(w:GD):List G7->List Int
 | []=>[]
 | d::ds=>hD w d::hDs w ds
end
mutual
def bv:G7->Bool
 | .int _=>true
 | .tuple ds=>bvs ds
 | _=>false
def bvs:List G7->Bool
 | []=>true
 | d::ds=>bv d && bvs ds
end
mutual
def dr:G7->Nat
 | .tuple ds=>drs ds+1
 | _=>1
def drs:List G7->Nat
 | []=>0
 | d::ds=>dr d+drs ds
end
theorem zo4:∀{ds:List G7},hks ds=true->∀d∈ds,hk d=true
 | d::ds,h,e,he=>by
   simp only[hks,Qy] at h;rcases Qs.mp he with rfl|he
   .exact h.1
   .exact zo4 h.2 e he
theorem zpl:∀{ds:List G7} {d:G7},d∈ds->d.depth<=Z7 ds
 | e::ds,d,h=>by
   rw[Z7];rcases Qs.mp h with rfl|h
   .exact Nat.le_max_left _ _
   .exact QN (zpl h) (Nat.le_max_right _ _)
mutual
theorem zib:∀d:G7,hk d=true->L3.solid d=true
 | .int _,_=>rfl
 | .str _,_=>rfl
 | .tuple ds,h=>zid ds (by simpa[hk] using h)
 | .none,h=>rfl
 | .bool _,h=>by simp[hk] at h
 | .list _,h=>by simp[hk] at h
 | .dict _,h=>by simp[hk] at h
theorem zid:∀ds:List G7,hks ds=true->L3.solids ds=true
 | [],_=>rfl
 | d::ds,h=>by
   simp only[hks,Qy] at h;rw[L3.solids,zib d h.1,zid ds h.2];rfl
end
section
variable {P:GB}{w:GD}
theorem zdk{as:List Addr}(r:TU h (v::vs) ds as):∃d ds' a b,ds=d::ds'/\Mh h v d a/\TU h vs ds' b:=by
 cases r with
 | cons r1 r2=>exact⟨_,_,_,_,rfl,r1,r2⟩
end
end HK
namespace HK
open PySem PySem.Spec PyProof.Rows PySem.SetTable SX
abbrev zqm(h h':Heap):Prop:=∀b o xs n,h.get? b=some o->o.data = .seq xs n->h'.get? b=some o
theorem zf6(F:G7->Prop)(hF:∀d,F d->∀v as,Mh h v d as->Mh h' v d as):∀{vs:List G5} {ds:List G7} {as:List Addr},(∀d∈ds,F d)->TU h vs ds as->TU h' vs ds as
 | [],_,_,hd,r=>by cases r;exact .nil
 | v::vs,_,_,hd,r=>by
   cases r with
   | cons r1 r2=>exact .cons (hF _ (hd _ (by simp)) _ _ r1) (zf6 F hF (λd z=>hd d (Qe _ z)) r2)
theorem zp3(K:zqm h h'):∀(n:Nat) (d:G7),d.depth<=n->hk d=true->∀v as,Mh h v d as->Mh h' v d as:=by
 intro n
 induction n with
 | zero=>
   intro d hd hk' v as r
   cases r with
   | int i t=>exact .int i t
   | str x t=>exact .str x t
   | tuple _ _ _ _=>simp[Ja] at hd
   | _=>simp[hk] at hk'
 | succ n ih=>
   intro d hd hk' v as r
   cases r with
   | int i t=>exact .int i t
   | str x t=>exact .str x t
   | @tuple a o vs c ds as ho hc hdt hr=>
     have hds:hks ds=true:=by simpa[hk] using hk'
     rw[Ja] at hd;exact .tuple (K a o vs c ho hdt) hc hdt (zf6 (λd=>d∈ds) (λd z v as r=>ih d (by have:=zpl z;lia) (zo4 hds d z) v as r) (λd z=>z) hr)
   | _=>simp[hk] at hk'
structure TupK(k:G7):Prop where
 tu:∃ds,k = .tuple ds
 ha:hk k=true
 la:k.canLay0=true
 de:k.depth<=8
 tx:bv k=true->k = .tuple []
theorem TupK.keep{as:List Addr}(hk':TupK k)(K:zqm h h')(r:Mh h v k as):Mh h' v k as:=zp3 K 8 k hk'.de hk'.ha v as r
end HK
namespace HK
open PySem PySem.Spec PyProof.Rows PySem.SetTable SX
noncomputable instance:DecidableEq G7:=λa b=>Classical.propDecidable (a=b)
end HK
namespace L3
open PySem PySem.Spec
open PyProof.Rows hiding St
open L2
def ArgV(K:Qa)(O:Ob)(H:Hp)(v:V)(r:DV):Prop:=(∃d,r = .im d/\Is K (unM O) H v d)\/(∃f ds,r = .rd f ds/\SeenV K O H v (.rd f ds))\/(r = .ob/\v=O.v)\/∃T,r = .thr T/\SeenV K O H v (.thr T)
def Args(K:Qa)(O:Ob)(H:Hp):List V->List DV->Prop
 | [],[]=>True
 | v::vs,r::rs=>ArgV K O H v r/\Args K O H vs rs
 | _,_=>False
theorem Args.length{K:Qa}{O:Ob}{H:Hp}:∀{vs:List V} {rs:List DV},Args K O H vs rs->vs.length=rs.length
 | [],[],_=>rfl
 | _::_,_::_,h=>by rw[Qk,Qk,Args.length h.2]
theorem Args.get{K:Qa}{O:Ob}{H:Hp}:∀{vs:List V} {rs:List DV} {i:Nat} {r:DV},Args K O H vs rs->rs[i]? = some r->∃v,vs[i]? = some v/\ArgV K O H v r
 | [],[],_,_,_,e=>by simp at e
 | [],_::_,_,_,h,_=>h.elim
 | _::_,[],_,_,h,_=>h.elim
 | _::_,_::_,0,_,h,e=>by cases e;exact⟨_,rfl,h.1⟩
 | _::_,_::_,i+1,_,h,e=>by
   obtain⟨v,h1,h2⟩:=Args.get (i:=i) h.2 (by simpa using e);exact⟨v,by simpa using h1,h2⟩
theorem ArgV.stp{K:Qa}{O:Ob}{H H':Hp}{v:V}{r:DV}(s:Stp O H H')(h:ArgV K O H v r):ArgV K O H' v r:=by
 rcases h with ⟨d,rfl,h⟩|⟨f,ds,rfl,h⟩|h|⟨T,rfl,h⟩
 .exact .inl ⟨d,rfl,Is.stp s (λ_ f=>f) (λ_ f=>f) h⟩
 .exact .inr (.inl ⟨f,ds,rfl,SeenV.stp s h⟩)
 .exact .inr (.inr (.inl h))
 .exact .inr (.inr (.inr ⟨T,rfl,SeenV.stp s h⟩))
def spG(K:Qa)(φ:Ob->Prop)(n:Nat)(f:List DV->(R->Prop)->Prop):Sp:=λvs H Q _=>
 ∃(O:Ob) (rs:List DV) (Qr:R->Prop),O.Ok/\φ O/\O.P H/\rs.length=n/\Args K O H vs rs/\f rs Qr/\∀r,Qr r->∀v H',Stp O H H'->Out K O H H' v r->Q v H'
theorem z0d{K:Qa}{φ:Ob->Prop}{n:Nat}{f:List DV->(R->Prop)->Prop}{ps:List Str}(hn:ps.length=n):∀vs H Q E,spG K φ n f vs H Q E->vs.length=ps.length:=λvs H Q E zz=>by obtain⟨O,rs,_,_,_,_,h,is,_⟩:=zz;rw[is.length,h,hn]
abbrev DGA:=DSt->(List DV->Prop)->Prop
def AG(K:Qa)(O:Ob)(t:TA)(f:DGA):Prop :=
 ∀(σ:St) (H:Hp) (ρ:DSt) (Q:List V->Hp->Prop) (Qd:List DV->Prop),Seen K O H σ ρ->f ρ Qd->(∀vs H' rs,Stp O H H'->Args K O H' vs rs->Qd rs->Q vs H')->t σ H Q
def zqx:DGA:=λ_ Q=>Q []
def gImA(f:DE)(g:DGA):DGA:=λρ Q=>f ρ λr=>g ρ λrs=>Q (.im r.d::rs)
section
variable {K:Qa}{O:Ob}
theorem z1x:AG K O tNil zqx:=λσ H ρ Q Qd S h k=>k [] H [] (.refl _ _) trivial h
theorem z6f(h:ED K O t f)(h':AG K O u g):AG K O (zao t u) (gImA f g):=λσ H ρ Q Qd S hf k=>by
 refine h σ H ρ _ _ S hf λv H1 r s1 o1 q1=>?_;refine h' σ H1 ρ _ _ (S.stp s1) q1 λvs H2 rs s2 a2 q2=>?_;exact k (v::vs) H2 (.im r.d::rs) (s1.trans s2) ⟨.inl ⟨r.d,rfl,Is.stp s2 (λ_ f=>f) (λ_ f=>f) (o1.is S.ok S.p)⟩,a2⟩ q2
def zxn(n:Nat)(g:DGA):DGA:=λρ Q=>∃T,ρ[n]? = some (some (.thr T))/\g ρ λrs=>Q (.thr T::rs)
theorem z3m{n:Nat}(h':AG K O u g):AG K O (zao (tVar n) u) (zxn n g):=λσ H ρ Q Qd S hf k=>by
 obtain⟨T,e,q⟩:=hf;obtain⟨v,h1,h2⟩:=S.at_ n _ e;refine⟨v,h1,?_⟩;refine h' σ H ρ _ _ S q λvs H2 rs s2 a2 q2=>?_;exact k (v::vs) H2 (.thr T::rs) s2 ⟨.inr (.inr (.inr ⟨T,rfl,SeenV.stp s2 h2⟩)),a2⟩ q2
def calG(n:Nat)(f:List DV->(R->Prop)->Prop)(g:DGA):DE:=λρ Q=>g ρ λrs=>rs.length=n/\f rs Q
theorem zv3{n:Nat}(hφ:φ O)(h:AG K O t g):ED K O (zct (spG K φ n f) [] E t) (calG n f g):=λσ H ρ Q Qd S q k=>by
 refine h σ H ρ _ _ S q λvs H1 rs s1 is zz=>?_;obtain⟨hn,q1⟩:=zz;rw[QD];exact⟨O,rs,Qd,S.ok,hφ,s1.p S.p,hn,is,q1,λr qr v H' s2 o2=>k v H' r (s1.trans s2) (o2.ahead S.ok S.p s1) qr⟩
theorem ziv(ok:O.Ok)(p:O.P H)(h:Args K O H vs rs):Rep K O H (λ_ _=>False) H (L2.start N vs) (zbr N rs):=by
 have hl:=h.length;refine⟨ok,p,p,.refl _ _,λ_ _ _ z=>z.elim,λ_ _ z=>z.elim,λi r e=>?_,?_⟩
 .unfold zbr at e
  by_cases hi:i<rs.length
  .rw[QO (by simpa using hi),Qi] at e
   cases q:rs[i]? with
   | none=>rw[q] at e;cases e
   | some r'=>
     rw[q] at e;have e':r'=r:=Zp (Zp e);subst e';obtain⟨v,hv,hh⟩:=h.get q;refine⟨v,?_,?_⟩
     .unfold L2.start;rw[QO (by rw[Qf,hl];exact hi),Qi,hv];rfl
     .rcases hh with ⟨d,rfl,hd⟩|⟨f,ds,rfl,a,xs,e1,nm,q1,z⟩|⟨rfl,hd⟩|⟨T,rfl,W,hw,z⟩
      .exact hd.weak λa u=>⟨u,λj z=>z⟩
      .exact⟨a,xs,e1,⟨nm,λ_ z=>z⟩,q1,z.weak λa u=>⟨u,λj z=>z⟩⟩
      .exact hd
      .exact⟨W,λb w=>⟨⟨(hw b w).1,λ_ z=>z⟩,(hw b w).2⟩,T.to (λb u f q=>⟨⟨f,λ_ z=>z⟩,q⟩) (λb u w q=>⟨w,q⟩) (TupStay.refl _) z⟩
  .rw[QU (by simpa using hi),QZ] at e
   split at e <;> cases e
 .unfold zbr L2.start;rw[Ql,Ql,Qf,Qf,QR,QR,hl]
theorem zxb(h:SD K O t g)(ok:O.Ok)(p:O.P H)(ia:Args K O H vs rs)
 (hg:g { nx:=λ_=>Qr (.o .none),rt:=Qr } (zbr N rs)) (hQ:∀r,Qr r->∀v H',Stp O H H'->Out K O H H' v r->Q v H'):t { nx:=λ_ H'=>Q .non H',rt:=Q } (L2.start N vs) H :=
 h H _ _ H _ _ _ (ziv ok p ia) hg ⟨λA' σ' H' ρ' r' _ q=>hQ _ q .non H' r'.st Is.none,λA' σ' H' ρ' r' _ q=>q.elim,λA' σ' H' ρ' r' _ q=>q.elim,λH' v r s o q=>hQ r q v H' s o⟩
end
def AG3{ι κ:Type}(K:Qa)(X:ι->Cx)(O:κ->Ob)(es:List Expr)(f:DGA):Prop:=∃t,(∀i,PA (X i) es t)/\∀j,AG K (O j) t f
section
variable {ι κ:Type}{P:GB}{w:GD}{K:Qa}{mg:Str->Option G5}{base:Heap}{k:Nat}{X:ι->Cx}{O:κ->Ob}{a:Expr}{es:List Expr}{fa:DE}{ga:DGA}{pos p:Pos}
theorem zl0:AG3 K X O [] zqx:=⟨tNil,λi=>zbf,λj=>z1x⟩
theorem g_im(ha:E3 K X O a fa)(hs:AG3 K X O es ga)(he:∀i,GC (a::es) (X i).env=(false,eval a (X i).env)::GC es (X i).env:=by intro i;rfl):AG3 K X O (a::es) (gImA fa ga):=let ⟨_,p1,d1⟩:=ha;let ⟨_,p2,d2⟩:=hs;⟨_,λi=>zaq (p1 i) (p2 i) (he i),λj=>z6f (d1 j) (d2 j)⟩
theorem zwv(n:Nat)(hs:AG3 K X O es ga)(hN:∀i,(X i).N[n]? = some x:=by intro i;rfl)(hv:∀i,Vis (X i).env.scope x:=by intro i;first|exact Or.inl rfl|exact Or.inr (Or.inl rfl)|exact Or.inr (Or.inr rfl))(hd:(x == ("__debug__" : Str))=false:=by decide)(hcd:(x == ("__classdict__" : Str))=false:=by decide)
 (he:∀i,GC (.Name x px::es) (X i).env=(false,eval (.Name x px) (X i).env)::GC es (X i).env:=by intro i;rfl):AG3 K X O (.Name x px::es) (zxn n ga):=let ⟨_,p2,d2⟩:=hs;⟨_,λi=>zaq (zaf (hN i) (hv i) hd hcd) (p2 i) (he i),λj=>z3m (d2 j)⟩
theorem zy2{k' n:Nat}(C:Ctx3 P w K mg base k X)(D:Def3 P w K mg base k' x ps (spG K φ n F))(hφ:∀j,φ (O j))(ha:AG3 K X O (a::es) ga)(hk:k'<=k:=by decide)(hg:∀i,Gl (X i) x:=by intro i;rfl)
 (hdb:(x == ("__debug__" : Str))=false:=by decide) (he:∀i,GC (a::es) (X i).env=(false,eval a (X i).env)::GC es (X i).env:=by intro i;rfl) (hpl:∀i,(Tk pos (GC es (X i).env)).any (·.1)=false:=by intro i;rfl):E3 K X O (.Call (.Name x p) (a::es) [] pos) (calG n F ga):=by
 obtain⟨f,fd,G,m,kp,bn⟩:=D.ex;obtain⟨t,q,d⟩:=ha;refine⟨zct (spG K φ n F) [] E0 t,λi=>?_,λj=>zv3 (hφ j) (d j)⟩;have G':FnOk (X i).prog (X i).w (X i).K (X i).mg (X i).base CX0 k f fd ps (spG K φ n F):=by rw[C.hP,C.hw,C.hK,C.hmg,C.hb];exact G.mono hk
 exact zdw G' (C.room i) (hg i) (by rw[C.hmg];exact m) (by rw[C.hK];exact kp) (by rw[C.hK];exact bn) .nil zg1 (q i) hdb (he i) (hpl i)
end
section
variable {P:GB}{w:GD}{K:Qa}{mg:Str->Option G5}{base:Heap}{k n:Nat}{x:Str}{st:Stmt}{N ps:List Str}{φ:Ob->Prop}{F:List DV->(R->Prop)->Prop}
theorem mk_G(T:Top3 K mg x st)(S:FnScope N ps (zab st))(hb:∀(kV doc pm:G5) (an:Option Addr) (cdv ct:G5) (us:List G5),us.length=ps.length->Tn (Z2 x x (zbk st) (zan st) (zab st) .none kV doc pm an cdv ct) ⟨us,[]⟩=pure (ps.zip us))(hn:ps.length=n)
 (body:∀(f:Addr) (cdv:G5) (A:GF) (outer:List Env) (s:G8) (H:Hp) (E:XK) (O:Ob),φ O->Ctx3 P w K mg base k (za3 P w K mg base N x (zab st) f cdv A outer s H E) ->
  ∃g,Ss3 K (za3 P w K mg base N x (zab st) f cdv A outer s H E) (λ_:Unit=>O) (zan st) g/\∀rs Qr,rs.length=n->F rs Qr->g { nx:=λ_=>Qr (.o .none),rt:=Qr } (zbr N rs)):Def3 P w K mg base (k+1) x ps (spG K φ n F):=by
 obtain⟨f,fd,Fu,m⟩:=T.ex;refine⟨f,fd,Fu.ok S (z0d hn) (λcdv A outer s H vs Q E hr h=>?_),m,Fu.kp,Fu.binds hb⟩;obtain⟨O,rs,Qr,ok,hφ,p,hl,is,q,kk⟩:=h;obtain⟨g,⟨t,h1,h2⟩,h3⟩:=body f cdv A outer s H E O hφ (zc3 hr);exact⟨t,h1 (),zxb (h2 ()) ok p is (h3 rs Qr hl q) kk⟩
end
end L3
namespace SX
open PySem PySem.Spec PyProof.Rows
section
variable {P:GB}{w:GD}{A:GF}{E:G5->G8->Prop}{s:G8}{it S:Addr}{es:Es}{ep:Nat}{t:GN}
theorem zca{first:G5}{sl:Nat}{i:Nat}{R:Option G5->G8->Prop}(hf:first = .int sl 0)(ho:s.heap.get? it=some (itO first i S es.size ep))(T:Sx w s.heap S es ep t)
 (h:wpAny (model P w) A.in1 (Mr S sl i ep) (λr s₁=>s₁=s/\match r with
  | some (x,nx)=>∀h',h'.get? it=some (itO (.int nx 0) (i+1) S es.size ep)->ZI it s.heap h'->R (some x) { s with heap:=h' }
  | none=>∀h',(∀b o,b≠it->s.heap.get? b=some o->h'.get? b=some o)->R none { s with heap:=h' }) (λ_ _=>False) s) (hh:A.handled=none):wpAny (model P w) A (M6 (.ref it)) R E s:=by
 subst hf;have hT:s.TypeIs (.ref it) "set_iterator" := ⟨_,ho,rfl⟩;unfold M6;refine G4 (Tt (Tb (name:=Jk "__next__") hT nx_slot (GL nx_slot hT zfm ?_ (zg7 _))));unfold Builtin.«set_iterator.__next__»;refine G4 (G6 ?_);refine G4 (Mx ho rfl ?_);refine G4 (T.entries ?_);refine wp_f (by simp) ?_;refine G4 (GM h (λr s₁ q=>?_) λ_ _ z=>z.elim);obtain⟨rfl,q⟩:=q
 match r,q with
 | some (x,nx),q=>
   refine G4 (GJ ho (by simp) λh1 e1 b1=>?_);refine G4 (GJ (s:={ s₁ with heap:=h1 }) e1 (by simp) λh2 e2 b2=>?_);refine G6 ⟨x,rfl,G6 (q h2 ?_ (b1.trans b2))⟩;exact e2
 | none,q=>
   refine G4 (GJ ho (by simp) λh1 e1 b1=>?_);exact zha (s:={ s₁ with heap:=h1 }) hh λh' ex=>q h' λb o n e=>ex b o ((b1.2 b n).trans e)
end
end SX
namespace SX
open PySem PySem.Spec PyProof.Rows
section
variable {P:GB}{w:GD}{A:GF}{E:G5->G8->Prop}{s:G8}{it S:Addr}{es:Es}{ep:Nat}{t:GN}
theorem zif{sl i:Nat}(hb:byT w=true)(T:Sx w s.heap S es ep t)(h:Q (((Tf (w.params.setOrder S ep) es)[i]?).map λe=>(e.2,sl)) s):wpAny (model P w) A (Mr S sl i ep) Q E s:=by
 unfold Mr;refine G4 (T.state ?_);refine G4 (zde ?_);rw[hb];refine wp_t rfl ?_;refine wp_f (by simp) ?_;refine G4 ?_;unfold setWalk;refine G4 (T.state ?_);refine G4 (zde ?_);rw[hb];refine wp_t rfl ?_;exact G4 (Md (G6 (G6 h)))
theorem zwx{sl i:Nat}(hb:byT w=false)(hz:es.size<=1)(T:Sx w s.heap S es ep t)(h:Q (match es[QK t.place sl]?,t.place[QK t.place sl]? with
 | some (_,x),some j=>some (x,j+1)
 | _,_=>none) s):wpAny (model P w) A (Mr S sl i ep) Q E s:=by
 unfold Mr;refine G4 (T.state ?_);refine G4 (zde ?_);rw[hb];refine wp_f (by decide) ?_;refine wp_f (show ¬((!t.plain && decide (es.size > 1))=true) by simp;lia) ?_;refine G4 (m:=if(!t.led && !es.isEmpty)=true then unsupported "set:maker-not-led" else pure ()) (wp_f (by rw[T.led,hb];simp) (G6 ?_));exact G6 h
theorem ze4{Tp:Addr}{pls:List G5}{c:Nat}{i:Nat}{R:Option G5->G8->Prop}(ho:s.heap.get? it=some (itO (.ref Tp) i S es.size ep))(hp:s.heap.get? Tp=some { cls:=.type "tuple",data:=.seq pls.toArray c })(T:Sx w s.heap S es ep t)
 (h:match pls[i]? with
  | some v=>∃(j:Nat) (e:Int×G5),v = .int j 0/\es[j]? = some e/\∀h',h'.get? it=some (itO (.ref Tp) (i+1) S es.size ep)->ZI it s.heap h'->R (some e.2) { s with heap:=h' }
  | none=>∀h',(∀b o,b≠it->s.heap.get? b=some o->h'.get? b=some o)->R none { s with heap:=h' }) (hh:A.handled=none):wpAny (model P w) A (M6 (.ref it)) R E s:=by
 have hT:s.TypeIs (.ref it) "set_iterator" := ⟨_,ho,rfl⟩;unfold M6;refine G4 (Tt (Tb (name:=Jk "__next__") hT nx_slot (GL nx_slot hT zfm ?_ (zg7 _))));unfold Builtin.«set_iterator.__next__»;refine G4 (G6 ?_);refine G4 (Mx ho rfl ?_);refine G4 (T.entries ?_);refine wp_f (by simp) ?_;refine G4 (wpAny_seqItems hp rfl ?_);have ea:(pls.toArray)[(i:Int).toNat]? = pls[i]?:=by simp
 dsimp only;rw[ea]
 cases hv:pls[i]? with
 | some v=>
   rw[hv] at h;obtain⟨j,e,rfl,he,h⟩:=h;dsimp only;refine G4 ?_;unfold setNextDrawn;refine G4 (T.state ?_);refine wp_f (by simp) ?_;have ej:es[(j:Int).toNat]? = some e:=by simpa using he
   rw[ej];refine G6 ?_;refine G4 (GJ ho (by simp) λh1 e1 b1=>?_);exact G6 ⟨_,rfl,G6 (h h1 e1 b1)⟩
 | none=>
   rw[hv] at h;dsimp only;refine G4 (GJ ho (by simp) λh1 e1 b1=>?_);refine G4 (GJ (s:={ s with heap:=h1 }) e1 (by simp) λh2 e2 b2=>?_);exact zha (s:={ s with heap:=h2 }) hh λh' ex=>h h' λb o n e=>ex b o ((b2.2 b n).trans ((b1.2 b n).trans e))
theorem zdy{first:G5}{i n:Nat}(ho:s.heap.get? it=some (itO first i S n ep))(h:Q (.ref it) s):wpAny (model P w) A (MT (.ref it)) Q E s:=by
 have hT:s.TypeIs (.ref it) "set_iterator" := ⟨_,ho,rfl⟩;refine M3 hT zo6 (GL zo6 hT zvg ?_ (zxy _));exact G6 ⟨_,rfl, "set_iterator",_,hT,nx_slot.lookup,h⟩
end
end SX
namespace SX
open PySem PySem.Spec PyProof.Rows
section
variable {P:GB}{w:GD}{A:GF}{E:G5->G8->Prop}{s:G8}{it S:Addr}{es:Es}{ep:Nat}{t:GN}
def ordP(ord:List (Int×G5)):Nat->G5->Prop:=λi v=>∃e,ord[i]? = some e/\v=e.2
theorem zmm(hh:A.handled=none)(hb:byT w=true)(ne:S≠it):
 Nu P w A it [it,S] [it] (Tf (w.params.setOrder S ep) es).toList.length (ordP (Tf (w.params.setOrder S ep) es).toList) (λi h=>(∃sl:Nat,h.get? it=some (itO (.int sl 0) i S es.size ep))/\Sx w h S es ep t) where
 sub:=λb z=>by simp at z;simp[z]
 frame:=λi h h' st k=>⟨let ⟨sl,e⟩:=st.1;⟨sl,k it (by simp) _ e⟩,st.2.keep λo e=>k S (by simp) o e⟩
 item:=λi s Q E hi st k=>by
  obtain⟨⟨sl,ho⟩,T⟩:=st;refine zca rfl ho T (zif hb T ⟨rfl,?_⟩) hh
  have hx:(Tf (w.params.setOrder S ep) es)[i]? = some ((Tf (w.params.setOrder S ep) es).toList[i]):=by
   rw[<- QG];exact Qb hi
  rw[hx];refine λh' e' sb=>k _ h' s.toks ⟨_,Qb hi,rfl⟩ ⟨⟨sl,e'⟩,T.keep λo e=>(sb.2 S ne).trans e⟩ λb o nb e=>(sb.2 b (by simpa using nb)).trans e
 done:=λs Q E st k=>by
  obtain⟨⟨sl,ho⟩,T⟩:=st;refine zca rfl ho T (zif hb T ⟨rfl,?_⟩) hh;rw[show(Tf (w.params.setOrder S ep) es)[(Tf (w.params.setOrder S ep) es).toList.length]? = none by simp];exact λh' kp=>k h' s.toks λb o nb e=>kp b o (by simpa using nb) e
 self:=λi s Q E st h=>zdy st.1.choose_spec h
theorem zgh:∀{js:List Nat},(∀j∈js,j<es.size)->(js.filterMap λj=>es[j]?)=js.map λj=>es[j]?.getD (0,.none)
 | [],_=>rfl
 | j::js,hj=>by
   obtain⟨e,h1⟩:∃e,es[j]? = some e:=⟨_,Qx (hj j (by simp))⟩;rw[List.filterMap_cons_some h1,Q8,h1,zgh λx z=>hj x (Qe _ z)];rfl
theorem zm1{Tp:Addr}{ord:List (Int×G5)}{js:List Nat}(hh:A.handled=none)(ne:S≠it)(nt:Tp≠it)(ho:ord=js.filterMap λj=>es[j]?)(hj:∀j∈js,j<es.size):
 Nu P w A it [it,S,Tp] [it] ord.length (ordP ord) (λi h=>h.get? it=some (itO (.ref Tp) i S es.size ep)/\Sx w h S es ep t/\h.get? Tp=some { cls:=.type "tuple",data:=.seq (js.map λ(j:Nat)=>Jb j 0).toArray }) where
 sub:=λb z=>by simp at z;simp[z]
 frame:=λi h h' st k=>⟨k it (by simp) _ st.1,st.2.1.keep λo e=>k S (by simp) o e,k Tp (by simp) _ st.2.2⟩
 item:=λi s Q E hi st k=>by
  obtain⟨hi1,T,ht⟩:=st;have el:=ho.trans (zgh hj);have hl:i<js.length:=by rw[el] at hi;simpa using hi
  obtain⟨e,h1⟩:∃e,es[js[i]]? = some e:=⟨_,Qx (hj _ (Zi hl))⟩;refine ze4 hi1 ht T ?_ hh;rw[Qi,Qb hl];refine⟨js[i],_,rfl,h1,λh' e' sb=>k _ h' s.toks ⟨e,?_,rfl⟩ ⟨e',T.keep λo e=>(sb.2 S ne).trans e,(sb.2 Tp nt).trans ht⟩ λb o nb e=>(sb.2 b (by simpa using nb)).trans e⟩;rw[el,Qi,Qb hl];show some (es[js[i]]?.getD (0,.none))=_;rw[h1];rfl
 done:=λs Q E st k=>by
  obtain⟨hi1,T,ht⟩:=st;have el:ord.length=js.length:=by rw[ho.trans (zgh hj)];simp
  refine ze4 hi1 ht T ?_ hh;rw[Qi,Q0 (by lia)];exact λh' kp=>k h' s.toks λb o nb e=>kp b o (by simpa using nb) e
 self:=λi s Q E st h=>zdy st.1 h
theorem zkr{sl:Nat}(h:p.size=1):QK p sl=if p.getD 0 sl<sl then 1 else 0:=by
 unfold QK;rw[h];unfold Jp;rw[ND (by lia)];show(if p.getD 0 sl<sl then Jp p sl 0 1 1 else Jp p sl 0 0 0)=_
 split <;> rfl
theorem z3h(hh:A.handled=none)(hb:byT w=false)(hz:es.size<=1)(ne:S≠it):
 Nu P w A it [it,S] [it] es.toList.length (ordP es.toList) (λi h=>(∃sl:Nat,(i=0->sl=0)/\(i=1->∃j,t.place[0]? = some j/\sl=j+1)/\h.get? it=some (itO (.int sl 0) i S es.size ep))/\Sx w h S es ep t) where
 sub:=λb z=>by simp at z;simp[z]
 frame:=λi h h' st k=>⟨let ⟨sl,e0,e1,e⟩:=st.1;⟨sl,e0,e1,k it (by simp) _ e⟩,st.2.keep λo e=>k S (by simp) o e⟩
 item:=λi s Q E hi st k=>by
  obtain⟨⟨sl,h0,_,ho⟩,T⟩:=st;have hi':i<es.size:=by simpa using hi
  obtain rfl:i=0:=by lia
  obtain rfl:=h0 rfl
  have f1:t.place.size=1:=by
   have:=T.fit;simp only[Uj,Qy,NP] at this;lia
  have hbel:QK t.place 0=0:=by rw[zkr f1,NE (Yp _)]
  refine zca rfl ho T (zwx hb hz T ⟨rfl,?_⟩) hh;rw[hbel];have e1:es[0]? = some es[0]:=Qx hi';have e2:t.place[0]? = some t.place[0]:=Qx (by lia);rw[e1,e2];refine λh' e' sb=>k _ h' s.toks ⟨es[0],by rw[QG];exact e1,rfl⟩ ⟨⟨t.place[0]+1,λz=>by lia,λ_=>⟨_,e2,rfl⟩,e'⟩,T.keep λo e=>(sb.2 S ne).trans e⟩ λb o nb e=>(sb.2 b (by simpa using nb)).trans e
 done:=λs Q E st k=>by
  obtain⟨⟨sl,_,h1,ho⟩,T⟩:=st
  have f1:t.place.size=es.size:=by
   have:=T.fit;simp only[Uj,Qy,NP] at this;lia
  refine zca rfl ho T (zwx hb hz T ⟨rfl,?_⟩) hh
  have none':es[QK t.place sl]? = none:=by
   by_cases h:es.size=0
   .exact ZL (by lia)
   .obtain⟨j,e1,e2⟩:=h1 (by simp;lia);rw[zkr (by lia),JW,e1,e2];show es[if j<j+1 then 1 else 0]? = none;rw[ND (Zh _)];exact ZL (by lia)
  rw[none'];exact λh' kp=>k h' s.toks λb o nb e=>kp b o (by simpa using nb) e
 self:=λi s Q E st h=>zdy st.1.choose_spec.2.2 h
end
end SX
namespace SX
open PySem PySem.Spec PyProof.Rows
section
variable {P:GB}{w:GD}{A:GF}{E:G5->G8->Prop}{s:G8}{it S:Addr}{es:Es}{ep:Nat}{t:GN}
theorem Sx.typ(T:Sx w s.heap S es ep t):s.TypeIs (.ref S) "set" := let ⟨_,ho,hx,_⟩:=T.at_;⟨_,ho,hx.1⟩
theorem Sx.lts(T:Sx w s.heap S es ep t):S<s.heap.objs.size:=let ⟨_,ho,_⟩:=T.at_;Qq ho
theorem zhy(T:Sx w s.heap S es ep t)(h:Q (!byT w && decide (es.size > 1)) s):wpAny (model P w) A (NC S) Q E s:=by
 unfold NC;refine G4 (T.state ?_);refine G4 (zde ?_)
 have e:(!byT w && (!t.plain && decide (es.size > 1)))=(!byT w && decide (es.size > 1)):=by
  by_cases hz:1<es.size
  .rw[T.pl hz];simp
  .simp[hz]
 refine G6 ?_;show Q (!byT w && (!t.plain && decide (es.size > 1))) s;rw[e];exact h
theorem zhx(T:Sx w s.heap S es ep t)
 (k:∀(it:Addr) (h':Heap) (d':N4) (ord:List (Int×G5)) (fp:List Addr) (St:Nat->Heap->Prop),ord.Perm es.toList->(∀A':GF,A'.handled=none->Nu P w A' it fp [it] ord.length (ordP ord) St)->St 0 h'->Ext s.heap h'->(∀b∈fp,b<s.heap.objs.size->b=S)->(∀b∈fp,b<h'.objs.size)->s.heap.objs.size<=it->it∈fp->Q (.ref it) { s with heap:=h',drawn:=d' }) :
 wpAny (model P w) A (MT (.ref S)) Q E s:=by
 have hlt:=T.lts;refine M3 T.typ YJ (GL YJ T.typ zey ?_ (UE _));unfold Builtin.«frozenset.__iter__»;refine G4 (m:=V0 "__iter__" ⟨[.ref S],[]⟩) (G6 ?_);refine G4 (G4 (T.entries (G6 ?_)));refine G4 (zhy T ?_);have sz:∀(h:Heap) (o:Obj),(h.push o).objs.size=h.objs.size+1:=λh o=>Za ..
 cases hd:(!byT w && decide (es.size > 1)) with
 | true=>
   refine wp_t rfl ?_;refine G4 (zjt es.size _ _ _ (by simp) λjs d hp=>?_)
   have hz:js.length<=sizeLine:=by
    have:=Td T.lt;rw[hp.length_eq,Zb];exact this
   refine G4 (Mb ?_ (by rw[Qf];exact hz));have T1:Sx w (s.heap.push { cls:=.type "tuple",data:=.seq (js.map λ(j:Nat)=>GQ j).toArray }) S es ep t:=T.keep λo e=>Qc _ e;refine G4 (Sx.epoch (s:={ s with heap:=s.heap.push { cls:=.type "tuple",data:=.seq (js.map λ(j:Nat)=>GQ j).toArray },drawn:=d }) T1 ?_);refine G4 (GI (G6 ⟨_,rfl, "set_iterator",_,⟨_,Qo _ rfl,rfl⟩,nx_slot.lookup,?_⟩));have hj:∀j∈js,j<es.size:=λj z=>Zf.mp (hp.mem_iff.mp z);refine k _ _ d (js.filterMap λj=>es[j]?) [(s.heap.push { cls:=.type "tuple",data:=.seq (js.map λ(j:Nat)=>GQ j).toArray }).objs.size,S,s.heap.objs.size] _ ?_ (λA' hA=>zm1 (t:=t) (ep:=ep) hA ?_ ?_ rfl hj) ⟨Qo _ rfl,T1.keep λo e=>Qc _ e,Qc _ (Qo _ rfl)⟩ (λb o e=>Qc _ (Qc _ e)) ?_ ?_ ?_ (by simp)
   .refine(hp.filterMap _).trans ?_;rw[M5]
   .rw[sz];exact Q1 (QJ hlt)
   .rw[sz];exact Q1 (Zh _)
   .intro b hb hl;rw[sz] at hb;simp at hb;rcases hb with rfl|rfl|rfl
    .exact absurd hl (Yr.mpr (ZN _))
    .rfl
    .exact absurd hl (QS _)
   .intro b hb;rw[sz] at hb;rw[sz,sz];simp at hb;rcases hb with rfl|rfl|rfl
    .exact Zh _
    .exact QJ (QJ hlt)
    .exact QJ (Zh _)
   .rw[sz];exact ZN _
 | false=>
   refine wp_f (by decide) (G4 (G6 ?_));refine G4 (T.epoch ?_);refine G4 (GI (G6 ⟨_,rfl, "set_iterator",_,⟨_,Qo _ rfl,rfl⟩,nx_slot.lookup,?_⟩));have ne:S≠s.heap.objs.size:=Q1 hlt
   have fpo:∀b∈[s.heap.objs.size,S],b<s.heap.objs.size->b=S:=λb hb hl=>by
    simp at hb;rcases hb with rfl|rfl
    .exact absurd hl (QS _)
    .rfl
   have fpl:∀o:Obj,∀b∈[s.heap.objs.size,S],b<(s.heap.push o).objs.size:=λo b hb=>by
    rw[sz];simp at hb;rcases hb with rfl|rfl
    .exact Zh _
    .exact QJ hlt
   cases hb:byT w with
   | true=>
     exact k _ _ s.drawn _ [s.heap.objs.size,S] _ (zkz _ es) (λA' hA=>zmm (t:=t) hA hb ne) ⟨⟨0,Qo _ rfl⟩,T.keep λo e=>Qc _ e⟩ (λb o e=>Qc _ e) fpo (fpl _) (Qg _) (by simp)
   | false=>
     have hz:es.size<=1:=by rw[hb] at hd;simpa using hd
     exact k _ _ s.drawn es.toList [s.heap.objs.size,S] _ (.refl _) (λA' hA=>z3h (t:=t) (ep:=ep) hA hb hz ne) ⟨⟨0,λ_=>rfl,λz=>absurd z (by decide),Qo _ rfl⟩,T.keep λo e=>Qc _ e⟩ (λb o e=>Qc _ e) fpo (fpl _) (Qg _) (by simp)
end
end SX
namespace SX
open PySem PySem.Spec PyProof.Rows
section
variable {P:GB}{w:GD}{A:GF}{E:G5->G8->Prop}{s:G8}{it S:Addr}{es:Es}{ep:Nat}{t:GN}
abbrev lO(xs:Array G5)(c:Nat):Obj:={ cls:=.type "list",dict:=none,data:=.seq xs c,slots:=#[] }
theorem zn3:M8 (.type "set") (.type "set")=pure true:=by
 rw[TN];kernel_rfl
theorem zjl{c:Nat}(f:Array G5->Array G5)(ho:s.heap.get? a=some (lO xs c))(hz:xs.size<=sizeLine)(hz2:(f xs).size<=sizeLine+1)
 (h:∀h' c',h'.get? a=some (lO (f xs) c')->ZI a s.heap h'->Q () { s with heap:=h' }):wpAny (model P w) A (Yw (.ref a) f) Q E s :=
 Ti ho rfl (h _ _ (JS (Zt f) ho rfl) (.update ..)) hz hz2
theorem zeu(hh:A.handled=none)(T:Sx w s.heap S es ep t)
 (k:∀(h':Heap) (d':N4) (tk:Nat) (vs:List G5),Ext s.heap h'->vs.Perm (es.toList.map (·.2))->s.heap.objs.size<h'.objs.size->Q vs { s with heap:=h',drawn:=d',toks:=tk }):wpAny (model P w) A (collect (.ref S)) Q E s:=by
 have hlt:=T.lts;unfold collect;refine G4 (My (GU VN ?_));rw[Zz VO _];refine G4 (m:=N1 []) (GI ?_);refine G6 ⟨Tr Y1 _,GU UF ?_⟩;rw[Zz Y1 _];have T1:Sx w (s.heap.push (lO #[] 0)) S es ep t:=T.keep λo e=>Qc _ e;have eL:(s.heap.push (lO #[] 0)).get? s.heap.objs.size=some (lO #[] 0):=Qo _ rfl;have sz1:(s.heap.push (lO #[] 0)).objs.size=s.heap.objs.size+1:=Za ..;show wpAny _ A.in1 (Js (.ref s.heap.objs.size) (.ref S) (.ref s.heap.objs.size)) _ _ { s with heap:=s.heap.push (lO #[] 0) };unfold Js;refine G4 (TC (T1.typ (s:={ s with heap:=s.heap.push (lO #[] 0) })) ?_)
 have nsr:JC (.ref s.heap.objs.size) (.ref S)=false:=by
  show(s.heap.objs.size == S)=false;exact beq_eq_false_iff_ne.mpr (Yy hlt)
 rw[nsr];refine wp_f (by decide) ?_;refine G4 (zhx (s:={ s with heap:=s.heap.push (lO #[] 0) }) T1 λit h2 d2 ord fp St hp W st ex fpo fpl hit hmem=>?_);have T2:Sx w h2 S es ep t:=T1.keep λo e=>ex _ o e;have tS:YA { s with heap:=h2,drawn:=d2 } (.ref S) "set" := T2.typ (s:={ s with heap:=h2,drawn:=d2 });refine G4 (GK ?_);unfold Jr;refine G4 (TY tS F.slot_set_len.lookup ?_);generalize hid:("set.__len__" : String)=id0
 (fail_if_success (clear hid id0))
 wp_delta
 rw[show splitId id0=some ("set", "__len__") from by subst hid;decide +kernel];subst hid;refine G4 (Me (b:=true) tS zn3 ?_);refine wp_f (by decide) ?_;refine wp_t (by decide +kernel) ?_;refine G4 (TC tS ?_);refine G6 ?_;refine wp_t (by decide +kernel) ?_;refine G4 (GZ ?_);refine G4 ?_;unfold V7;have h64:(0:Nat)<=sizeLine:=QI _;have eL2:h2.get? s.heap.objs.size=some (lO #[] 0):=ex _ _ eL;refine G4 (zjl (s:={ s with heap:=h2,drawn:=d2 }) (·.push Y7) eL2 h64 (by simp) λh3 c3 e3 b3=>?_);refine zjl (s:={ s with heap:=h3,drawn:=d2 }) (·.pop) e3 (by rw[GE];decide) (by simp) λh4 c4 e4 b4=>?_
 have nLf:s.heap.objs.size ∉ fp:=λz=>by
  have:=fpo _ z (by rw[sz1];exact Zh _);exact Yy hlt this
 have st4:St 0 h4:=(W A hh).frame 0 h2 h4 st λb hb o e=>by
  have nb:b≠s.heap.objs.size:=λz=>nLf (z ▸ hb);exact(b4.2 b nb).trans ((b3.2 b nb).trans e)
 have hn:ord.length<=sizeLine:=by
  rw[hp.length_eq,QW];exact Td T.lt
 refine G6 ⟨Tr YN _,Mi (W A.in1 (by simpa using hh)).toS hn _ nLf _ ord.length 0 { s with heap:=h4,drawn:=d2 } #[] c4 rfl (QI _) st4 e4 (Ga _) λs' acc c mv eA hacc=>?_⟩;refine G4 (wpAny_load eA (G6 ?_));obtain⟨h5,g5,d5,tk5,os5⟩:=s';obtain rfl:g5=s.gens:=mv.gens;obtain rfl:d5=d2:=mv.drawn;obtain rfl:os5=s.os:=mv.os
 have ev:acc.toList=ord.map (·.2):=by
  refine Zq λi=>?_;rw[QG]
  by_cases hi:i<acc.size
  .rw[Qx hi];obtain⟨e,h1,h2⟩:=hacc.2 i _ (Qx hi);rw[Qi,h1,h2];rfl
  .rw[ZL (by lia),Qi,Q0 (by have:=hacc.1;lia)];rfl
 refine k h5 d5 tk5 acc.toList (λb o e=>mv.heap b o (λz=>?_) ?_) (by rw[ev];exact hp.map _) (Qq eA)
 .have hbl:=Qq e;rcases Qs.mp z with z|z
  .exact Q1 hbl z
  .rw[Qm.mp z] at hbl;have:s.heap.objs.size+1<=it:=by rw[<- sz1];exact hit
   exact absurd hbl (Yr.mpr (ZZ this))
 .have nb:b≠s.heap.objs.size:=Q1 (Qq e);exact(b4.2 b nb).trans ((b3.2 b nb).trans (ex b o (Qc _ e)))
end
end SX
namespace SX
open PySem PySem.Spec PyProof.Rows
section
variable {P:GB}{w:GD}{A:GF}{E:G5->G8->Prop}{s:G8}{it S:Addr}{es:Es}{ep:Nat}{t:GN}
theorem zpb:∀{vs:List G5},(∀v∈vs,∃x t,v = .str x t)->MB vs (vs.map strOf)
 | [],_=>.nil
 | v::vs,h=>by
   obtain⟨x,t,rfl⟩:=h v (by simp);exact .cons x t (zpb λu z=>h u (Qe _ z))
end
end SX
namespace L3
open PySem PySem.Spec
open PyProof.Rows hiding St
open L2
open SX
theorem Inv.draw{pins:List (Addr×Obj)}(I:Inv X pins σ H s)(d:N4):Inv X pins σ H { s with drawn:=d } :=
 ⟨I.ok,I.os,I.bare,I.base,I.loc,I.cell,I.free,I.freeC,I.pin,I.hok,I.len⟩
def TxsV(K:Qa)(H:Hp)(v:V)(ys:List Str):Prop:=(∃x:Str,v = .str x/\ys=x.cps.toList.map sg)\/∃a,v = .ref a/\SqL K H a (ys.map V.str)
theorem z3n(x:Str)(tk:Tok):Src P w h (.str x tk) x.cps.size (SignAt x):=λA E s₁ Q hh ex k=>by
 refine wpAny_pyIter_str λo St W st=>?_;refine k _ _ [s₁.heap.objs.size] St W st (λb o e=>Qc _ e) (λb hb=>.inr (by simp at hb;exact V6 hb.symm)) (Qg _)
theorem zsc{items:Array G5}(hl:h.IsList l items):Src P w h (.ref l) items.size (λi v=>items[i]? = some v):=λA E s₁ Q hh ex k=>by
 have hl1:s₁.heap.IsList l items:=hl.at λo e=>ex l o e;have lt:l<h.objs.size:=by obtain⟨o,e,_⟩:=hl;exact Qq e
 have lt1:l<s₁.heap.objs.size:=by obtain⟨o,e,_⟩:=hl1;exact Qq e
 refine M2 hl1 ?_;refine k s₁.heap.objs.size _ [s₁.heap.objs.size,l] _ (λA' hA=>Walks.list hA _ l (Q1 lt1) items) ⟨⟨_,Qo _ rfl,rfl,rfl⟩,hl1.push _⟩ (λb o e=>Qc _ e) (λb hb=>?_) (Qg _);simp at hb;rcases hb with rfl|rfl
 .exact .inr (Qg _)
 .exact .inl lt
theorem zrp{xs ys:List Str}(h:xs.Nodup)(hs:∀k∈xs,k∈ys):xs.length<=ys.length:=by
 induction xs generalizing ys with
 | nil=>exact QI _
 | cons x xs ih=>
   have hx:x∈ys:=hs x (by simp);have h':=QQ.mp h;have:=ih (ys:=ys.erase x) h'.2 λk hk=>(J5 (λz:k=x=>h'.1 (z ▸ hk))).mpr (hs k (Qe _ hk));rw[Jm hx] at this;have:0<ys.length:=Jt hx;simp only[Qk];lia
def TxsD(d:G7)(ys:List Str):Prop:=(∃x:Str,d = .str x/\ys=x.cps.toList.map sg)\/d = .list (ys.map .str)
theorem zd1{α:Type}{enc:α->G7}{i h:Nat}{ft:DT}{fe:DE}{ρ:DSt}{Q:List G7->Prop}{as:List α}{p:α->Bool}{e:α->G7}
 (step:∀a∈as,∀(Pn:Prop) (Py:R->Prop),(p a=false->Pn)->(p a=true->∀r,r.d=e a->Py r)->ft ((Qt h none++ρ).set i (some (.im (enc a)))) λt=>if t=true then fe ((Qt h none++ρ).set i (some (.im (enc a)))) Py else Pn)
 (hz:as.length<=sizeLine) (q:Q ((as.filter p).map e)):zbu h (gN i) ft fe ρ Q (as.map enc) []:=by
 have key:∀(l:List α) (acc:List G7),(∀a∈l,a∈as)->acc.length+l.length<=sizeLine->Q (acc++(l.filter p).map e)->zbu h (gN i) ft fe ρ Q (l.map enc) acc:=by
  intro l
  induction l with
  | nil=>intro acc _ _ q;show Q acc;simpa using q
  | cons a l ih=>
    intro acc hs hz q;rw[Qk] at hz;refine step a (hs a Qu) (zbu h (gN i) ft fe ρ Q (l.map enc) acc) (λr=>acc.length<sizeLine/\zbu h (gN i) ft fe ρ Q (l.map enc) (acc ++ [r.d])) (λhp=>?_) (λhp r hr=>⟨by lia,?_⟩)
    .refine ih acc (λb hb=>hs b (Qe _ hb)) (by lia) ?_;rw[JG,hp] at q;exact q
    .refine ih _ (λb hb=>hs b (Qe _ hb)) (by rw[Ql,Je];lia) ?_;rw[JG,hp,ND rfl,Q8] at q;rw[hr,Qv];exact q
 exact key as [] (λ_ h=>h) (by simpa using hz) (by simpa using q)
theorem zz0{n b n' b':Nat}{neg:Bool}(h:Nice n b (.tuple ds))(h':Nice n' b' (.tuple es))(hn:n<=60:=by decide){q:Bool}(hq:q=true↔ds=es):eqF neg (.list ds) (.list es)=some (.o (.bool (if neg then !q else q))):=by
 have o1:okD (.list ds)=true:=by
  have:=h.okD hn;unfold okD at this ⊢;simpa[Z6,Ja] using this
 have o2:(JJ es).canLay0=true:=by simpa[Z6] using h'.lay
 unfold eqF;rw[ND (by rw[o1,o2];rfl)]
 have e1:Q9 (.list ds) (.list es)=q:=by
  have:=(zfi ds es (by simpa[solid] using h.sol) (by simpa[solid] using h'.sol)).trans hq.symm;simp only[Q9];cases h1:ZV ds es <;> cases q <;> simp_all
 rw[e1]
theorem zxt{neg:Bool}(h:Jl x=true):eqF neg (.str x) (.str x)=some (.o (.bool (!neg))):=by
 have:=zze (neg:=neg) (zhn h (Qg _)) (zhn h (Qg _)) (q:=true) (hq:=⟨λ_=>rfl,λ_=>rfl⟩);rw[this];cases neg <;> rfl
section
variable {K:Qa}{O:Ob}{H₀ H H':Hp}{A:Nat->Addr->Prop}{σ:St}{ρ:DSt}
theorem Rep.setT{i:Nat}(r:Rep K O H₀ A H σ ρ)(s:Stp O H H1)(stay1:∀b u,H1 b=some u->¬A i b->H' b=some u)(hW:∀b,W b->(A i b\/H b=QP)/\∃o,H' b=some o/\OwnO o)
 (hR:T.R K (unO O (reg A i W)) W H' v):Rep K O H₀ (reg A i W) H' (σ.set i (some v)) (ρ.set i (some (.thg T))) :=
 r.setX s stay1 hW (T.to (λb u f q=>⟨f,q⟩) (λb u w q=>⟨.inr ⟨rfl,w⟩,q⟩) (TupStay.refl _) hR)
theorem Frm.setT{i:Nat}(s:Stp O H H1)(stay:∀b u,H1 b=some u->¬A i b->H' b=some u)(hW:∀b,W b->(A i b\/H b=QP)):Frm O A H (reg A i W) H':=λb o e u=>⟨stay b o (s.s b o e u.1) (u.2 i),u.1,λj z=>by
 rcases z with z|z
 .exact u.2 j z.2
 .rcases hW b z.2 with y|y
  .exact u.2 i y
  .rw[e] at y;cases y⟩
theorem zu6{i:Nat}(h:σ[i]? = some (some v)):σ.set i (some v)=σ:=by
 apply Zq;intro j
 by_cases e:i=j
 .subst e;rw[Q3 (Qn.mp h).1,h]
 .rw[QB e]
end
mutual
inductive Ow(K:Qa)(H:Hp):V->G7->List Addr->Prop
 | leaf {v d}:flat d=true->Is K (λ_=>False) H v d->Ow K H v d []
 | list {a xs ds as}:H a=some (.lst xs)->OwAll K H xs ds as->Ow K H (.ref a) (.list ds) (a::as)
 | tuple {a xs ds as}:H a=some (.tup xs)->OwAll K H xs ds as->Ow K H (.ref a) (.tuple ds) as
inductive OwAll(K:Qa)(H:Hp):List V->List G7->List Addr->Prop
 | nil:OwAll K H [] [] []
 | cons {v vs d ds as bs}:Ow K H v d as->OwAll K H vs ds bs->OwAll K H (v::vs) (d::ds) (as++bs)
end
section
variable {K:Qa}{H H':Hp}{F:Addr->Prop}
mutual
theorem Ow.to(ts:TupStay H H'):∀{v d as},(∀a∈as,∀xs,H a=some (.lst xs)->H' a=some (.lst xs))->Ow K H v d as->Ow K H' v d as
 | _,_,_,_,.leaf f i=>.leaf f (i.flat ts f)
 | _,_,_,h,.list q r=>.list (h _ (by simp) _ q) (OwAll.to ts (λa m=>h a (Qe _ m)) r)
 | _,_,_,h,.tuple q r=>.tuple (ts _ _ ⟨_,.inl rfl⟩ q) (OwAll.to ts h r)
theorem OwAll.to(ts:TupStay H H'):∀{vs ds as},(∀a∈as,∀xs,H a=some (.lst xs)->H' a=some (.lst xs))->OwAll K H vs ds as->OwAll K H' vs ds as
 | _,_,_,_,.nil=>.nil
 | _,_,_,h,.cons r t=>.cons (Ow.to ts (λa m=>h a (QC _ m)) r) (OwAll.to ts (λa m=>h a (QF _ m)) t)
end
mutual
theorem Ow.mem:∀{v d as a},Ow K H v d as->a∈as->∃xs,H a=some (.lst xs)
 | _,_,_,_,.leaf _ _,m=>(Zk m).elim
 | _,_,_,_,.list q r,m=>by
   rcases Qs.mp m with rfl|m
   .exact⟨_,q⟩
   .exact OwAll.mem r m
 | _,_,_,_,.tuple q r,m=>OwAll.mem r m
theorem OwAll.mem:∀{vs ds as a},OwAll K H vs ds as->a∈as->∃xs,H a=some (.lst xs)
 | _,_,_,_,.nil,m=>(Zk m).elim
 | _,_,_,_,.cons r t,m=>by
   rcases Q7.mp m with m|m
   .exact Ow.mem r m
   .exact OwAll.mem t m
end
mutual
theorem Ow.is:∀{v d as},(∀a∈as,F a)->Ow K H v d as->Is K F H v d
 | _,_,_,_,.leaf f i=>i.flat (TupStay.refl _) f
 | _,_,_,h,.list q r=>.list (h _ (by simp)) q (OwAll.is (λa m=>h a (Qe _ m)) r)
 | _,_,_,h,.tuple q r=>.tuple (.of q) (OwAll.is h r)
theorem OwAll.is:∀{vs ds as},(∀a∈as,F a)->OwAll K H vs ds as->IsAll K F H vs ds
 | _,_,_,_,.nil=>.nil
 | _,_,_,h,.cons r t=>.cons (Ow.is (λa m=>h a (QC _ m)) r) (OwAll.is (λa m=>h a (QF _ m)) t)
end
theorem OwAll.length:∀{vs ds as},OwAll K H vs ds as->vs.length=ds.length
 | _,_,_,.nil=>rfl
 | _,_,_,.cons _ t=>by rw[Qk,Qk,OwAll.length t]
theorem OwAll.append:∀{vs ds as ws es bs},OwAll K H vs ds as->OwAll K H ws es bs->OwAll K H (vs++ws) (ds++es) (as++bs)
 | _,_,_,_,_,_,.nil,s=>s
 | _,_,_,_,_,_,.cons r t,s=>by rw[Qv];exact .cons r (OwAll.append t s)
theorem OwAll.flats:∀{vs ds},IsAll K F H vs ds->L3.flats ds=true->OwAll K H vs ds []
 | _,_,.nil,_=>.nil
 | _,_,.cons r t,f=>by
   rw[L3.flats,Qy] at f;exact OwAll.cons (as:=[]) (.leaf f.1 (r.flat (TupStay.refl _) f.1)) (OwAll.flats t f.2)
theorem OwAll.at:∀{vs:List V} {ds as} {k:Nat} {d},OwAll K H vs ds as->ds[k]? = some d->∃v cs rest,vs[k]? = some v/\Ow K H v d cs/\as.Perm (cs++rest) /\
 (∀H' v' d' cs',TupStay H H'->(∀a∈rest,∀xs,H a=some (.lst xs)->H' a=some (.lst xs))->Ow K H' v' d' cs'->∃as',OwAll K H' (vs.set k v') (ds.set k d') as'/\as'.Perm (cs'++rest))
 | _,_,_,_,_,.nil,e=>by simp at e
 | _,_,_,0,_,.cons (as:=as) (bs:=bs) r t,e=>by
   cases e;exact⟨_,as,bs,rfl,r,.refl _,λH' v' d' cs' ts h o=>⟨_,.cons o (t.to ts h),.refl _⟩⟩
 | _,_,_,k+1,d,.cons (as:=as) (bs:=bs) r t,e=>by
   obtain⟨v,cs,rest,h1,h2,h3,h4⟩:=OwAll.at (k:=k) (d:=d) t (by simpa using e);refine⟨v,cs,as++rest,by simpa using h1,h2,?_,λH' v' d' cs' ts h o=>?_⟩
   .exact(h3.append_left as).trans (by rw[<- Qv,<- Qv];exact Y6.append_right _)
   .obtain⟨as',o1,o2⟩:=h4 H' v' d' cs' ts (λa m=>h a (QF _ m)) o;refine⟨_,.cons (r.to ts λa m=>h a (QC _ m)) o1,?_⟩;exact(o2.append_left as).trans (by rw[<- Qv,<- Qv];exact Y6.append_right _)
end
def OwnV(p:V->Prop)(d:G7):Thg:=⟨λK F W H v=>p v/\∃as:List Addr,as.Nodup/\(∀a∈as,W a)/\Ow K H v d as,λ{K F F' W W' H H' v} hF hW ts h=>by
 obtain⟨pv,as,n,m,o⟩:=h
 exact⟨pv,as,n,λa z=>by obtain⟨xs,q⟩:=o.mem z;exact(hW a _ (m a z) q).1,o.to ts λa z xs q=>(hW a _ (m a z) q).2⟩⟩
abbrev OwnT(d:G7):Thg:=OwnV (λ_=>True) d
def dget:G7->List Nat->Option G7
 | d,[]=>some d
 | .list ds,k::p=>match ds[k]? with
   | some d=>dget d p
   | none=>QP
 | .tuple ds,k::p=>match ds[k]? with
   | some d=>dget d p
   | none=>QP
 | _,_::_=>QP
def dset:G7->List Nat->G7->G7
 | _,[],e=>e
 | .list ds,k::p,e=>match ds[k]? with
   | some d=>.list (ds.set k (dset d p e))
   | none=>.list ds
 | .tuple ds,k::p,e=>match ds[k]? with
   | some d=>.tuple (ds.set k (dset d p e))
   | none=>.tuple ds
 | d,_::_,_=>d
inductive Nd(H:Hp)(U:Addr->Prop):V->G7->List Nat->V->G7->Prop
 | nil {v d}:Nd H U v d [] v d
 | list {a xs ds k v d p w e}:U a->H a=some (.lst xs)->xs[k]? = some v->ds[k]? = some d->Nd H U v d p w e->Nd H U (.ref a) (.list ds) (k::p) w e
 | tuple {a xs ds k v d p w e}:H a=some (.tup xs)->xs[k]? = some v->ds[k]? = some d->Nd H U v d p w e->Nd H U (.ref a) (.tuple ds) (k::p) w e
section
variable {K:Qa}{H H':Hp}{U:Addr->Prop}
theorem Nd.to(ts:TupStay H H')(h:∀a xs,U a->H a=some (.lst xs)->H' a=some (.lst xs)):∀{v d p w e},Nd H U v d p w e->Nd H' U v d p w e
 | _,_,_,_,_,.nil=>.nil
 | _,_,_,_,_,.list u q h1 h2 t=>.list u (h _ _ u q) h1 h2 (t.to ts h)
 | _,_,_,_,_,.tuple q h1 h2 t=>.tuple (ts _ _ ⟨_,.inl rfl⟩ q) h1 h2 (t.to ts h)
theorem Nd.get:∀{v d p w e},Nd H U v d p w e->dget d p=some e
 | _,_,_,_,_,.nil=>rfl
 | _,_,_,_,_,.list u q h1 h2 t=>by rw[dget,h2];exact t.get
 | _,_,_,_,_,.tuple q h1 h2 t=>by rw[dget,h2];exact t.get
theorem Nd.snocL{k:Nat}(u:U a)(q:H a=some (.lst xs))(h1:xs[k]? = some w)(h2:ds[k]? = some e):∀{v d p},Nd H U v d p (.ref a) (.list ds)->Nd H U v d (p ++ [k]) w e
 | _,_,_,.nil=>.list u q h1 h2 .nil
 | _,_,_,.list u' q' g1 g2 t=>.list u' q' g1 g2 (t.snocL u q h1 h2)
 | _,_,_,.tuple q' g1 g2 t=>.tuple q' g1 g2 (t.snocL u q h1 h2)
theorem Nd.snocT{k:Nat}(q:H a=some (.tup xs))(h1:xs[k]? = some w)(h2:ds[k]? = some e):∀{v d p},Nd H U v d p (.ref a) (.tuple ds)->Nd H U v d (p ++ [k]) w e
 | _,_,_,.nil=>.tuple q h1 h2 .nil
 | _,_,_,.list u' q' g1 g2 t=>.list u' q' g1 g2 (t.snocT q h1 h2)
 | _,_,_,.tuple q' g1 g2 t=>.tuple q' g1 g2 (t.snocT q h1 h2)
theorem zbp: ¬flat (.list ds)=true:=by simp[flat]
theorem zkx:∀{p:List Nat} {d e:G7},flat d=true->dget d p=some e->flat e=true
 | [],d,e,f,h=>by cases h;exact f
 | k::p,d,e,f,h=>by
   cases d with
   | tuple ds=>
     rw[dget] at h
     cases q:ds[k]? with
     | none=>rw[q] at h;cases h
     | some x=>
       rw[q] at h;have f':flats ds=true:=by rw[flat] at f;exact f
       exact zkx (flats_iff.mp f' x (Qz q)) h
   | list ds=>exact absurd f zbp
   | _=>simp[dget] at h
theorem Ow.put:∀{v0 d as p} {a:Addr} {es:List G7},Ow K H v0 d as->as.Nodup->Nd H U v0 d p (.ref a) (.list es)->∃xs cs rest,H a=some (.lst xs)/\OwAll K H xs es cs/\as.Perm (a::cs++rest) /\
 ∀H' ys es' bs,TupStay H H'->(∀b∈rest,∀zs,H b=some (.lst zs)->H' b=some (.lst zs))->H' a=some (.lst ys)->OwAll K H' ys es' bs->∃as',Ow K H' v0 (dset d p (.list es')) as'/\as'.Perm (a::bs++rest)
 | _,_,_,[],_,_,o,nd,.nil=>by
   cases o with
   | leaf f i=>exact absurd f zbp
   | list q r=>exact⟨_,_,[],q,r,by simp,λH' ys es' bs ts h hy o'=>⟨_,.list hy o',by simp⟩⟩
 | _,_,_,k::p,a,es,o,nd,t=>by
   cases t with
   | @list a0 xs ds _ v d1 _ _ _ u q h1 h2 t=>
     cases o with
     | leaf f i=>exact absurd f zbp
     | @list _ xs0 ds0 as0 q0 r0=>
       rw[q] at q0;cases q0;obtain⟨v',cs,rest,g1,g2,g3,g4⟩:=r0.at h2;rw[h1] at g1;cases g1;have n0:(cs++rest).Nodup:=g3.nodup_iff.mp (QQ.mp nd).2;obtain⟨ys,cs',rest',k1,k2,k3,k4⟩:=Ow.put g2 (ZE.mp n0).1 t;refine⟨ys,cs',a0::(rest'++rest),k1,k2,?_,λH' zs es' bs ts h hy o'=>?_⟩
       .have e1:as0.Perm (a::cs'++(rest'++rest)):=g3.trans (by rw[<- Qv];exact k3.append_right rest);exact(e1.cons a0).trans (Yc.symm)
       .obtain⟨as1,o1,p1⟩:=k4 H' zs es' bs ts (λb m=>h b (Qe _ (QC _ m))) hy o';obtain⟨as2,o2,p2⟩:=g4 H' v _ as1 ts (λb m=>h b (Qe _ (QF _ m))) o1
        have es0:xs.set k v=xs:=by
         apply Zq;intro j
         by_cases e:k=j
         .subst e;rw[Q3 (Qn.mp h1).1,h1]
         .rw[QB e]
        rw[es0] at o2;refine⟨a0::as2,?_,?_⟩
        .rw[dset,h2];exact .list (h a0 (by simp) _ q) o2
        .have e2:as2.Perm (a::bs++(rest'++rest)):=p2.trans (by rw[<- Qv];exact p1.append_right rest);exact(e2.cons a0).trans (Yc.symm)
   | @tuple a0 xs ds _ v d1 _ _ _ q h1 h2 t=>
     cases o with
     | leaf f i=>
       have:=zkx f (Nd.get (.tuple (U:=U) q h1 h2 t));exact absurd this zbp
     | @tuple _ xs0 ds0 as0 q0 r0=>
       rw[q] at q0;cases q0;obtain⟨v',cs,rest,g1,g2,g3,g4⟩:=r0.at h2;rw[h1] at g1;cases g1;have n0:(cs++rest).Nodup:=g3.nodup_iff.mp nd;obtain⟨ys,cs',rest',k1,k2,k3,k4⟩:=Ow.put g2 (ZE.mp n0).1 t;refine⟨ys,cs',rest'++rest,k1,k2,?_,λH' zs es' bs ts h hy o'=>?_⟩
       .exact g3.trans (by rw[<- Qv];exact k3.append_right rest)
       .obtain⟨as1,o1,p1⟩:=k4 H' zs es' bs ts (λb m=>h b (QC _ m)) hy o';obtain⟨as2,o2,p2⟩:=g4 H' v _ as1 ts (λb m=>h b (QF _ m)) o1
        have es0:xs.set k v=xs:=by
         apply Zq;intro j
         by_cases e:k=j
         .subst e;rw[Q3 (Qn.mp h1).1,h1]
         .rw[QB e]
        rw[es0] at o2;refine⟨as2,?_,?_⟩
        .rw[dset,h2];exact .tuple (ts _ _ ⟨_,.inl rfl⟩ q) o2
        .exact p2.trans (by rw[<- Qv];exact p1.append_right rest)
end
section
variable {K:Qa}{O:Ob}{H₀ H H':Hp}{A:Nat->Addr->Prop}{σ:St}{ρ:DSt}
def vTr(i:Nat)(p:V->Prop:=λ_=>True):DE:=λρ Q=>∃d,ρ[i]? = some (some (.thg (OwnV p d)))/\Q (.o d)
theorem zr4{i:Nat}{d:G7}(S:Seen K O H σ ρ)(e:ρ[i]? = some (some (.thg (OwnV p d)))):∃v as,σ[i]? = some (some v)/\as.Nodup/\Ow K H v d as/\∀a∈as,¬O.M a:=by
 obtain⟨v,hv,W,hw,_,as,nd,m,o⟩:=S.at_ i _ e;exact⟨v,as,hv,nd,o,λa z=>(hw a (m a z)).1⟩
theorem zxz{i:Nat}: ED K O (tVar i) (vTr i p):=λσ H ρ Q Qd S h k=>by
 obtain⟨d,e,h⟩:=h;obtain⟨v,as,hv,nd,o,m⟩:=zr4 S e;exact⟨v,hv,k _ H (.o d) (.refl _ _) (o.is m) h⟩
abbrev DOw:=DSt->(G7->Prop)->Prop
def EOw(K:Qa)(O:Ob)(t:TE)(f:DOw):Prop :=
 ∀(σ:St) (H:Hp) (ρ:DSt) (Q:VK) (Qd:G7->Prop),Seen K O H σ ρ->f ρ Qd->(∀v H' d as,Stp O H H'->Ow K H' v d as->as.Nodup->(∀a∈as,H a=QP)->Qd d->Q v H')->t σ H Q
def zrb(f:DE):DOw:=λρ Q=>f ρ λr=>match r with
 | .o d=>flat d=true/\Q d
 | .n ds=>flats ds=true/\Q (.list ds)
theorem zxu(h:ED K O t f):EOw K O t (zrb f):=λσ H ρ Q Qd S hf k=>by
 refine h σ H ρ _ _ S hf λv H1 r s1 o1 q=>?_
 cases r with
 | o d=>exact k v H1 d [] s1 (.leaf q.1 (Is.flat (TupStay.refl _) o1 q.1)) .nil (λ_ m=>(Zk m).elim) q.2
 | n ds=>
   obtain⟨a,xs,rfl,hn,hl,hs⟩:=o1;exact k _ H1 (.list ds) [a] s1 (.list hl (OwAll.flats hs q.1)) (by simp) (λb m=>by rw[Qm.mp m];exact hn) q.2
theorem zjh{d:G7}{as:List Addr}(s:Stp O H H')(n:∀a∈as,¬O.M a)(o:Ow K H v d as):Ow K H' v d as:=o.to s.t λa m xs q=>s.s a _ q (n a m)
theorem zbl(ok:O.Ok)(p:O.P H)(h:H a=QP):¬O.M a:=λm=>by obtain⟨o,z⟩:=ok.here H a p m;rw[h] at z;cases z
def zl3(i:Nat)(f:DOw):DS:=λDd ρ=>f ρ λd=>Dd.nx (ρ.set i (some (.thg (OwnT d))))
theorem zju{i:Nat}(h:EOw K O t f):SD K O (tAsg t (zax i)) (zl3 i f):=λH₀ A σ H ρ D Dd r q P=>by
 refine h σ H ρ _ _ r.seen q λv H1 d as s1 o1 n1 f1 q1=>?_;have m1:∀a∈as,¬O.M a:=λa m=>zbl r.ok r.p (f1 a m);have hW:∀b,b∈as->(A i b\/H b=QP)/\∃o,H1 b=some o/\OwnO o:=λb m=>⟨.inr (f1 b m),by obtain⟨xs,z⟩:=o1.mem m;exact⟨_,z,.lst⟩⟩;exact P.nx _ _ H1 _ (r.setT (W:=λb=>b∈as) (T:=OwnT d) s1 (λb u e _=>e) hW ⟨trivial,as,n1,λ_ m=>m,o1⟩) (.setT s1 (λb u e _=>e) λb m=>(hW b m).1) q1
abbrev DL:=DSt->G7->(List Nat->G7->Prop)->Prop
def LocE(K:Qa)(O:Ob)(i:Nat)(t:TE)(f:DL):Prop :=
 ∀(σ:St) (H:Hp) (ρ:DSt) (Q:VK) (Qd:List Nat->G7->Prop) (U:Addr->Prop) (d:G7) (v0:V) (as:List Addr) (pp:V->Prop),Seen K O H σ ρ->ρ[i]? = some (some (.thg (OwnV pp d)))->σ[i]? = some (some v0)->Ow K H v0 d as->(∀a∈as,U a)->(∀a,U a->¬O.M a)->f ρ d Qd ->
   (∀v H' p e cs,Stp O H H'->Nd H' U v0 d p v e->Ow K H' v e cs->(∀a∈cs,U a)->Qd p e->Q v H')->t σ H Q
def lVar:DL:=λ_ d Q=>Q [] d
theorem z0k{i:Nat}:LocE K O i (tVar i) lVar:=λσ H ρ Q Qd U d v0 as pp S e hv o m n hf k=>⟨v0,hv,k v0 H [] d as (.refl _ _) .nil o m hf⟩
def kids:G7->Option (List G7)
 | .list ds=>some ds
 | .tuple ds=>some ds
 | _=>QP
def lIx(f1:DL)(f2:DE):DL:=λρ d Q=>f1 ρ d λp e=>f2 ρ λr=>∃(z:Int) (ds:List G7) (k:Nat) (e':G7),flat e=false/\r.d = .int z/\kids e=some ds/\ixN ds.length z=some k/\ds[k]? = some e'/\Q (p ++ [k]) e'
theorem z5x{i:Nat}(h1:LocE K O i t1 f1)(h2:ED K O t2 f2):LocE K O i (tOp (rIx K) t1 t2) (lIx f1 f2):=λσ H ρ Q Qd U d v0 as pp S e hv o m n hf k=>by
 refine h1 σ H ρ _ _ U d v0 as pp S e hv o m n hf λv H1 p x cs s1 nd o1 m1 q0=>?_;refine h2 σ H1 ρ _ _ (S.stp s1) q0 λy H2 r s2 o2 zz=>?_;obtain⟨z,ds,j,e',fl,er,ek,ix,he,q⟩:=zz;clear q0;have nd2:=nd.to s2.t λa xs u q=>s2.s a _ q (n a u);have oo:=zjh s2 (λa z=>n a (m1 a z)) o1;have iy:=o2.is S.ok (s1.p S.p);rw[er] at iy;cases iy
 cases oo with
 | leaf f1 _=>rw[fl] at f1;cases f1
 | @list a xs ds' as' q1 r1=>
   cases ek;obtain⟨w,cs',rest,g1,g2,g3,_⟩:=r1.at he;refine .inl ⟨a,xs,z,w,rfl,rfl,.of q1,?_,k w H2 (p ++ [j]) e' cs' (s1.trans s2) (nd2.snocL (m1 a (by simp)) q1 g1 he) g2 (λb z=>m1 b (Qe _ (g3.mem_iff.mpr (QC _ z)))) q⟩;unfold atI;rw[r1.length,ix];exact g1
 | @tuple a xs ds' as' q1 r1=>
   cases ek;obtain⟨w,cs',rest,g1,g2,g3,_⟩:=r1.at he;refine .inr (.inl ⟨a,xs,z,w,rfl,rfl,.of q1,?_,k w H2 (p ++ [j]) e' cs' (s1.trans s2) (nd2.snocT q1 g1 he) g2 (λb z=>m1 b (g3.mem_iff.mpr (QC _ z))) q⟩);unfold atI;rw[r1.length,ix];exact g1
def zrc(i:Nat)(fl:DL)(fe:DOw)(pp:V->Prop:=λ_=>True):DS:=λDd ρ=>∃d,ρ[i]? = some (some (.thg (OwnV pp d)))/\fl ρ d λp e=>∃ds,e = .list ds/\fe ρ λx=>ds.length<sizeLine/\Dd.nx (ρ.set i (some (.thg (OwnV pp (dset d p (.list (ds ++ [x])))))))
theorem zz2{as bs:List Addr}(h:as.Perm bs){a:Addr}(m:a∈bs):a∈as:=h.mem_iff.mpr m
theorem Rep.putT{i:Nat}{d:G7}{v0:V}{a:Addr}{p:List Nat}{es:List G7}{H1 H2:Hp}{pp:V->Prop}(r:Rep K O H₀ A H σ ρ)(e:ρ[i]? = some (some (.thg (OwnV pp d))))(hv:σ[i]? = some (some v0))(s1:Stp O H H1)(s2:Stp O H1 H2)(nd:Nd H1 (A i) v0 d p (.ref a) (.list es)):
 ∃xs cs,H2 a=some (.lst xs)/\OwAll K H2 xs es cs/\xs.length=es.length/\(∀ys,TupStay H2 (upd H2 a (.lst ys)))/\a ∉ cs/\∀ys es' bs news,OwAll K (upd H2 a (.lst ys)) ys es' bs->bs.Perm (cs++news)->news.Nodup->(∀b∈news,H1 b=QP/\∃zs,H2 b=some (.lst zs)) ->
   ∃W:Addr->Prop,Rep K O H₀ (reg A i W) (upd H2 a (.lst ys)) σ (ρ.set i (some (.thg (OwnV pp (dset d p (.list es'))))))/\Frm O A H (reg A i W) (upd H2 a (.lst ys)):=by
 obtain⟨v1,hv1,pv,as,n0,m0,o0⟩:=r.at_ i _ e;rw[hv] at hv1;cases hv1;have nM:∀b,A i b->¬O.M b:=λb z=>(r.own i b z).2.2;have s12:=s1.trans s2;have o2:=zjh s12 (λb m=>nM b (m0 b m)) o0;have nd2:=nd.to s2.t λb xs u q=>s2.s b _ q (nM b u);obtain⟨xs,cs,rest,hx,ox,pm,put⟩:=o2.put n0 nd2;have n1:(a::cs++rest).Nodup:=pm.nodup_iff.mp n0;have Aa:A i a:=m0 a (zz2 pm (by simp));have stay:∀ys b u,H2 b=some u->¬A i b->upd H2 a (.lst ys) b=some u:=λys b u q z=>by rw[zaa (show b≠a from λw=>z (by rw[w];exact Aa))];exact q
 have ts:∀ys,TupStay H2 (upd H2 a (.lst ys)):=λys=>(r.stp s12).tstay (stay ys);refine⟨xs,cs,hx,ox,ox.length,ts,λz=>(QQ.mp n1).1 (QC _ z),λys es' bs news oy pb nn hn=>?_⟩
 have ra:∀b∈rest,b≠a:=λb m w=>by
  subst w;exact(QQ.mp n1).1 (QF _ m)
 obtain⟨as',o3,pm'⟩:=put _ ys es' bs (ts ys) (λb m zs q=>by rw[zaa (ra b m)];exact q) zad oy
 have pf:as'.Perm (as++news):=by
  refine pm'.trans ?_;have e1:(a::bs++rest).Perm (a::(cs++news)++rest):=(pb.append_right rest).cons a;refine e1.trans ?_
  have e2:(a::(cs++news)++rest).Perm (a::cs++rest++news):=by
   show(a::(cs++news++rest)).Perm (a::(cs++rest++news));refine Gn a ?_;rw[Qv,Qv];exact Y6.append_left cs
  exact e2.trans (pm.symm.append_right news)
 have fr:∀b∈news,H b=QP:=λb m=>by
  obtain⟨h1,zs,h2⟩:=hn b m
  cases q:H b with
  | none=>rfl
  | some o=>
    have:¬O.M b:=zbl r.ok (s1.p r.p) h1;rw[s1.s b o q this] at h1;cases h1
 have nd3:as'.Nodup:=pf.nodup_iff.mpr (ZE.mpr ⟨n0,nn,λb m c m' w=>by
  subst w;obtain⟨_,⟨o,q,_⟩,_⟩:=r.own i b (m0 b m);rw[fr b m'] at q
  cases q⟩)
 have hW:∀b,b∈as'->(A i b\/H b=QP)/\∃o,upd H2 a (.lst ys) b=some o/\OwnO o:=λb m=>by
  refine⟨?_,by obtain⟨zs,z⟩:=o3.mem m;exact⟨_,z,.lst⟩⟩;rcases Q7.mp (pf.mem_iff.mp m) with m|m
  .exact .inl (m0 b m)
  .exact .inr (fr b m)
 refine⟨λb=>b∈as',?_,Frm.setT s12 (stay ys) λb m=>(hW b m).1⟩;have rr:=r.setT (T:=OwnV pp (dset d p (.list es'))) (v:=v0) s12 (stay ys) hW ⟨pv,as',nd3,λ_ m=>m,o3⟩;rw[zu6 hv] at rr;exact rr
theorem zz6{i:Nat}(hl:LocE K O i tr fl)(he:EOw K O te fe):SD K O (zdp (tBM K "list" zds tr (zao te tNil))) (zrc i fl fe pp):=λH₀ A σ H ρ D Dd r q P=>by
 obtain⟨d,e,q⟩:=q;obtain⟨v0,hv,_,as,n0,m0,o0⟩:=r.at_ i _ e;refine hl σ H ρ _ _ (A i) d v0 as pp r.seen e hv o0 m0 (λa z=>(r.own i a z).2.2) q λv H1 p x cs s1 nd o1 m1 q1=>?_;obtain⟨ds,rfl,q1⟩:=q1
 cases o1 with
 | leaf f _=>exact absurd f zbp
 | @list a xs _ cs' hx ox=>
   refine⟨.inl ⟨rfl,xs,.of hx⟩,?_⟩;refine he σ H1 ρ _ _ (r.stp s1).seen q1 λw H2 y bs s2 o2 n2 f2 zz=>?_;obtain⟨hz,q2⟩:=zz;obtain⟨xs2,cs2,hx2,ox2,ln,ts,nc,put⟩:=r.putT e hv s1 s2 nd;refine⟨a,xs2,w,rfl,rfl,hx2,by rw[ln];exact hz,?_⟩
   have na:∀b∈bs,b≠a:=λb m z=>by
    have:=f2 b m;rw[z,hx] at this;cases this
   have up:∀b,b≠a->∀zs,H2 b=some (.lst zs)->upd H2 a (.lst (xs2 ++ [w])) b=some (.lst zs):=λb n zs q=>by rw[zaa n];exact q
   obtain⟨W,rr,ff⟩:=put (xs2 ++ [w]) (ds ++ [y]) (cs2++(bs ++ [])) bs ((ox2.to (ts _) λb m zs q=>up b (λz=>nc (z ▸ m)) zs q).append (.cons (o2.to (ts _) λb m zs q=>up b (na b m) zs q) .nil)) (by rw[QD]) n2 λb m=>⟨f2 b m,o2.mem m⟩;exact P.nx _ σ _ _ rr ff q2
def zxe(i:Nat)(fl:DL)(fe:DE)(pp:V->Prop:=λ_=>True):DS:=λDd ρ=>∃d,ρ[i]? = some (some (.thg (OwnV pp d)))/\fl ρ d λp e=>∃ds,e = .list ds/\fe ρ λr=>∃es,r.d = .list es/\flats es=true/\ds.length+es.length<=sizeLine/\Dd.nx (ρ.set i (some (.thg (OwnV pp (dset d p (.list (ds++es)))))))
theorem zuw{i:Nat}(hl:LocE K O i tr fl)(he:ED K O te fe):SD K O (zdp (tBM K "list" zdv tr (zao te tNil))) (zxe i fl fe pp):=λH₀ A σ H ρ D Dd r q P=>by
 obtain⟨d,e,q⟩:=q;obtain⟨v0,hv,_,as,n0,m0,o0⟩:=r.at_ i _ e;refine hl σ H ρ _ _ (A i) d v0 as pp r.seen e hv o0 m0 (λa z=>(r.own i a z).2.2) q λv H1 p x cs s1 nd o1 m1 q1=>?_;obtain⟨ds,rfl,q1⟩:=q1
 cases o1 with
 | leaf f _=>exact absurd f zbp
 | @list a xs _ cs' hx ox=>
   refine⟨.inl ⟨rfl,xs,.of hx⟩,?_⟩;refine he σ H1 ρ _ _ (r.stp s1).seen q1 λw H2 y s2 o2 zz=>?_;obtain⟨es,ey,fs,hz,q2⟩:=zz;obtain⟨xs2,cs2,hx2,ox2,ln,ts,nc,put⟩:=r.putT e hv s1 s2 nd;have iw:=o2.is r.ok (s1.p r.p);rw[ey] at iw
   cases iw with
   | @list b zs _ f1 h1 i1=>
     refine⟨a,b,xs2,zs,rfl,rfl,hx2,h1,by rw[ln,i1.length];exact hz,?_⟩;have up:∀b,b≠a->∀us,H2 b=some (.lst us)->upd H2 a (.lst (xs2++zs)) b=some (.lst us):=λb n us q=>by rw[zaa n];exact q
     obtain⟨W,rr,ff⟩:=put (xs2++zs) (ds++es) (cs2 ++ []) [] ((ox2.to (ts _) λb m us q=>up b (λz=>nc (z ▸ m)) us q).append ((OwAll.flats i1 fs).to (ts _) λb m=>(Zk m).elim)) (.refl _) .nil λb m=>(Zk m).elim;exact P.nx _ σ _ _ rr ff q2
end
def Eo3{ι κ:Type}(K:Qa)(X:ι->Cx)(O:κ->Ob)(e:Expr)(f:DOw):Prop:=∃t,(∀i,PE (X i) e t)/\∀j,EOw K (O j) t f
def Lo3{ι κ:Type}(K:Qa)(X:ι->Cx)(O:κ->Ob)(n:Nat)(e:Expr)(f:DL):Prop:=∃t,(∀i,PE (X i) e t)/\∀j,LocE K (O j) n t f
section
variable {ι κ:Type}{P:GB}{w:GD}{K:Qa}{mg:Str->Option G5}{base:Heap}{k:Nat}{X:ι->Cx}{O:κ->Ob}{a b:Expr}{es:List Expr}{fa fb:DE}{fo:DOw}{go:DOs}{fl:DL}{st:Stmt}{g:DS}{pos:Pos}
theorem ze3(n:Nat)(hN:∀i,(X i).N[n]? = some x:=by intro i;rfl)(hv:∀i,Vis (X i).env.scope x:=by intro i;first|exact Or.inl rfl|exact Or.inr (Or.inl rfl)|exact Or.inr (Or.inr rfl))
 (hd:(x == ("__debug__" : Str))=false:=by decide) (hcd:(x == ("__classdict__" : Str))=false:=by decide) (p:V->Prop:=λ_=>True):E3 K X O (.Name x pos) (vTr n p):=⟨_,λi=>zaf (hN i) (hv i) hd hcd,λj=>zxz⟩
theorem zn4(h:E3 K X O a fa):Eo3 K X O a (zrb fa):=let ⟨_,p,d⟩:=h;⟨_,p,λj=>zxu (d j)⟩
theorem zw6(n:Nat)(hN:∀i,(X i).N[n]? = some x:=by intro i;rfl)(hv:∀i,Vis (X i).env.scope x:=by intro i;first|exact Or.inl rfl|exact Or.inr (Or.inl rfl)|exact Or.inr (Or.inr rfl))
 (hd:(x == ("__debug__" : Str))=false:=by decide) (hcd:(x == ("__classdict__" : Str))=false:=by decide):Lo3 K X O n (.Name x pos) lVar:=⟨_,λi=>zaf (hN i) (hv i) hd hcd,λj=>z0k⟩
theorem l_ix{n:Nat}(C:Ctx3 P w K mg base k X)(ha:Lo3 K X O n a fl)(hb:E3 K X O b fb)(hs:zdz b:=by intro _ _;rfl):Lo3 K X O n (.Subscript a b pos) (lIx fl fb) :=
 let ⟨_,p1,d1⟩:=ha;let ⟨_,p2,d2⟩:=hb;⟨tOp (rIx K) _ _,λi=>by have h:=zi7 (pos:=pos) (zgc (X:=X i)) (p1 i) (p2 i) hs;rw[C.hK] at h;exact h,λj=>z5x (d1 j) (d2 j)⟩
theorem z3i(n:Nat)(ha:Eo3 K X O a fo)(hN:∀i,(X i).N.Nodup:=by intro i;exact NF (by kernel_rfl))(hi:∀i,(X i).N[n]? = some x:=by intro i;rfl)(hx:∀i,Loc (X i).env.scope x:=by intro i;first|exact Or.inl rfl|exact Or.inr rfl)
 (hs:∀i,Tj a (some (.Name x px)) pos.line (X i).env=pure false:=by intro i;rfl) (hf:∀i,(X i).fn x=true\/(X i).env.scope.names.lookup x=some .local:=by intro i;first|exact .inl rfl|exact .inr rfl):S3 K X O (.Assign [.Name x px] a pos) (zl3 n fo) :=
 let ⟨_,p,d⟩:=ha;⟨_,λi=>zb6 (hN i) (hi i) (hx i) (p i) (hs i) (hf i),λj=>zju (d j)⟩
theorem z0z(n:Nat){apos cpos:Pos}(C:Ctx3 P w K mg base k X)(hr:Lo3 K X O n a fl)(hb:Eo3 K X O b fo)
 (hbase:∀i,TV a "append" (X i).env (eval a (X i).env)=eval a (X i).env:=by intro i;rfl)
 (hfew:∀i,((Tk cpos (GC [b] (X i).env)).all (λx=>!x.1) && (Nj cpos (M1 [] (X i).env)).all (λx=>x.1.isSome) && decide (([b]:List Expr).length+([]:List Mp).length+(if([]:List Mp).isEmpty then 0 else 1)<30))=true:=by intro i;rfl)
 (hline:(apos.endLine == cpos.line)=true:=by rfl) (hs:∀i,GC [b] (X i).env = [(false,eval b (X i).env)]:=by intro i;rfl) (hsw:∀i,Tj (.Call (.Attribute a "append" apos) [b] [] cpos) QP pos.line (X i).env=pure false:=by intro i;rfl) (pp:V->Prop:=λ_=>True) :
 S3 K X O (.Expr (.Call (.Attribute a "append" apos) [b] [] cpos) pos) (zrc n fl fo pp):=let ⟨_,p1,d1⟩:=hr;let ⟨_,p2,d2⟩:=hb;
 ⟨zdp (tBM K "list" zds _ (zao _ tNil)),λi=>by
  have h:=zi1 (apos:=apos) (cpos:=cpos) ZT Vp Vq (zin (X:=X i)) (p1 i) (zaq (p2 i) zbf (hs i)) (hbase i) (hfew i) hline (hs i);rw[C.hK] at h
  exact zg6 h (hsw i),λj=>zz6 (d1 j) (d2 j)⟩
theorem zx5(n:Nat){apos cpos:Pos}(C:Ctx3 P w K mg base k X)(hr:Lo3 K X O n a fl)(hb:E3 K X O b fb)
 (hbase:∀i,TV a "extend" (X i).env (eval a (X i).env)=eval a (X i).env:=by intro i;rfl)
 (hfew:∀i,((Tk cpos (GC [b] (X i).env)).all (λx=>!x.1) && (Nj cpos (M1 [] (X i).env)).all (λx=>x.1.isSome) && decide (([b]:List Expr).length+([]:List Mp).length+(if([]:List Mp).isEmpty then 0 else 1)<30))=true:=by intro i;rfl)
 (hline:(apos.endLine == cpos.line)=true:=by rfl) (hs:∀i,GC [b] (X i).env = [(false,eval b (X i).env)]:=by intro i;rfl) (hsw:∀i,Tj (.Call (.Attribute a "extend" apos) [b] [] cpos) QP pos.line (X i).env=pure false:=by intro i;rfl) (pp:V->Prop:=λ_=>True) :
 S3 K X O (.Expr (.Call (.Attribute a "extend" apos) [b] [] cpos) pos) (zxe n fl fb pp):=let ⟨_,p1,d1⟩:=hr;let ⟨_,p2,d2⟩:=hb;
 ⟨zdp (tBM K "list" zdv _ (zao _ tNil)),λi=>by
  have h:=zi1 (apos:=apos) (cpos:=cpos) ZT Vs Vt (zit (X:=X i)) (p1 i) (zaq (p2 i) zbf (hs i)) (hbase i) (hfew i) hline (hs i);rw[C.hK] at h
  exact zg6 h (hsw i),λj=>zuw (d1 j) (d2 j)⟩
end
section
variable {K:Qa}{O:Ob}{H₀ H H':Hp}{A:Nat->Addr->Prop}{σ:St}{ρ:DSt}
theorem Rep.setTh{i:Nat}(r:Rep K O H₀ A H σ ρ)(h:T.R K (unO O A) (λ_=>False) H v):Rep K O H₀ (λj a=>j≠i/\A j a) H (σ.set i (some v)) (ρ.set i (some (.thr T))):=by
 have un:∀a,unO O A a->unO O (λj a=>j≠i/\A j a) a:=λa u=>⟨u.1,λj z=>u.2 j z.2⟩;have r0:=r.setIm (i:=i) (v:=.non) (d:=.none) .none;refine⟨r0.ok,r0.p,r0.p0,r0.st,r0.dis,r0.own,λj x e=>?_,by rw[QV,QV];exact r.len⟩
 by_cases hj:i=j
 .subst hj
  have hi':i<ρ.length:=by
   rcases Zx i ρ.length with z|z
   .exact z
   .rw[Q0 (by simpa using z)] at e;cases e
  rw[Q3 hi'] at e;cases e;exact⟨v,Q3 (by have:=r.len;lia),λ_=>False,λa w=>w.elim,T.to (λa u f q=>⟨un a f,q⟩) (λa u w q=>⟨w,q⟩) (TupStay.refl _) h⟩
 .have q:=r0.at_ j x (by rw[QB hj] at e ⊢;exact e);rw[QB hj] at q ⊢;exact q
end
end L3
namespace L3
open PySem PySem.Spec
open PyProof.Rows hiding St
open L2
open PySem.W (CodeHd tabObj fnMade fnX)
def LkF(f:Addr)(h:Heap):Prop:=∀M:Model,∃k,(k=Keeper.frame\/k=Keeper.machine\/k=Keeper.boundFrame)/\PySem.W.Looks M h (keeperOf (.ref f)) k
def Kn(H:Hp)(G:List (Addr×Obj×Addr)):Prop:=∀p∈G,H p.1=some (.frz p.2.1 (.own p.2.2))
structure Calls(P:GB)(w:GD)(K:Qa)(mg:Str->Option G5)(base:Heap)(k:Nat)(f:Addr)(G:List (Addr×Obj×Addr))(ws:List V)(n:Nat)(sp:Sp):Prop where
 at_:∀(A:GF) (outer:List Env) (s:G8) (H:Hp),Env0 P w K mg base A outer s H->Kn H G->LkF f s.heap
 run:∀(A:GF) (outer:List Env) (s:G8) (H:Hp) (us:List G5) (vs:List V) (Q:VK),Room k A->Env0 P w K mg base A outer s H->Kn H G->Vals vs us->vs.length=n->sp (vs++ws) H Q E0->Mf (model P w) A (.call (.ref f) ⟨us,[]⟩) (CR CX0 outer P w H s Q E0) s
def zrl(P:GB)(w:GD)(mg:Str->Option G5)(base:Heap)(k n:Nat)(sp:Qa->Sp)(fs:List G7):Thg :=
 ⟨λK F _ H v=>∃(f:Addr) (G:List (Addr×Obj×Addr)) (ws:List V),v = .ref f/\Kn H G/\(∀p∈G,F p.1)/\IsAll K F H ws fs/\Calls P w K mg base k f G ws n (sp K),
  λhF _ ts ⟨f,G,ws,e,g,gF,i,c⟩=>⟨f,G,ws,e,λp hp=>(hF p.1 _ (gF p hp) (g p hp)).2,λp hp=>(hF p.1 _ (gF p hp) (g p hp)).1,i.to (λa xs f q=>hF a _ f q) (λa xs q=>SqT.stay (h:=q) ts),c⟩⟩
def YcT(name qual:Str)(params:TR)(body:List Stmt)(scope:GV)(clos:List (Str×Addr)):Thg :=
 ⟨λ_ F _ H v=>∃f,v = .ref f/\Yng name qual params body scope clos F H f,
  λhF _ _ ⟨f,e,c',oc,vs,t,doc,pm,ctv,f1,f2,h1,h2,r⟩=>⟨f,e,c',oc,vs,t,doc,pm,ctv,(hF _ _ f1 h1).1,(hF _ _ f2 h2).1,(hF _ _ f1 h1).2,(hF _ _ f2 h2).2,r⟩⟩
structure HasTab(P:Addr)(qs:List (Pos×Str))(O:Ob):Prop where
 m:O.M P
 at_:∀H,O.P H->∃ps,H P=some (.cod ps qs)
 upd:∀H ps,O.P H->O.P (upd H P (.cod ps qs))
def defS(i:Nat)(T:Thg):DS:=λDd ρ=>Dd.nx (ρ.set i (some (.thr T)))
section
variable {K:Qa}{O:Ob}
theorem z1n{i:Nat}{name qual:Str}{params:TR}{body:List Stmt}{scope:GV}{clos:List (Str×Addr)}(hT:HasTab P qs O):SD K O (tDef i P qs (Yng name qual params body scope clos λ_=>True)) (defS i (YcT name qual params body scope clos)):=λH₀ A σ H ρ D Dd r q Ps=>by
 refine⟨hT.at_ H r.p,λf H' ps' hP' kp hf hy=>?_⟩;obtain⟨ps,hP⟩:=hT.at_ H r.p
 have st:Stp O H H':=⟨λa o e n=>kp a o e λz=>n (z ▸ hT.m),λp=>r.ok.grow _ H' (λb o e=>by
  by_cases z:b=P
  .subst z;rw[zad] at e;cases e;exact hP'
  .rw[zaa z] at e;exact kp b o e z) (hT.upd H ps' p),λa u hu e=>kp a u e λz=>by
  obtain⟨xs,y|⟨o,y⟩⟩:=hu <;> (rw[z,hP,y] at e;cases e)⟩
 have r1:=r.stp st;obtain⟨c',oc,vs,t,doc,pm,ctv,_,_,h1,h2,h3,h4⟩:=hy
 have un:∀(a:Addr) (o:Obj),H' a=some (.frz o (.own 0))->unO O A a:=λa o e=>⟨λm=>(r.ok.mutb H' a _ r1.p e m).2 _ _ rfl,λj z=>by
  obtain⟨_,⟨o',q,ho⟩,_⟩:=r1.own j a z;rw[e] at q;cases q
  exact ho.2 _ rfl⟩
 exact Ps.nx _ _ _ _ (r1.setTh (T:=YcT name qual params body scope clos) ⟨f,rfl,c',oc,vs,t,doc,pm,ctv,un f _ h1,un c' _ h2,h1,h2,h3,h4⟩) (.setIm st) q
end
theorem z4k{κ:Type}{P:GB}{w:GD}{K:Qa}{mg:Str->Option G5}{base:Heap}{k:Nat}{X:Unit->Cx}{O:κ->Ob}{c Pt:Addr}{qs:List (Pos×Str)}{name qual:Str}{params:TR}{body:List Stmt}{scope:GV}{pos:Pos}(i:Nat)(C:Ctx3 P w K mg base k X)(N:Nst mg base c Pt)(hT:∀j,HasTab Pt qs (O j))(hc:(X ()).env.code = .ref c)(hq:(pos,qual)∈qs)(hu:∀p∈qs,(pos.line:Int)=p.1.line->(pos.col:Int)=p.1.col->p.2=qual)
 (hfr:∀p∈scope.names,p.2 = .free->(X ()).env.kindOf p.1=some .cell\/(X ()).env.kindOf p.1=some .free) (hN:(X ()).N.Nodup:=by exact NF (by kernel_rfl)) (hi:(X ()).N[i]? = some name:=by rfl) (hx:Loc (X ()).env.scope name:=by first|exact Or.inl rfl|exact Or.inr rfl)
 (hf:(X ()).fn name=true\/(X ()).env.scope.names.lookup name=some .local:=by first|exact .inl rfl|exact .inr rfl)
 (hd0:params.defaults = []:=by rfl) (hk0:params.kw_defaults = []:=by rfl) (ha:annTrees params none (X ()).env = []:=by rfl) (hqn:qualnameIn (X ()).env name name=qual:=by rfl) :
 S3 K X O (.FunctionDef name params body [] none [] scope none name pos) (defS i (YcT name qual params body scope (clOf scope.names (X ()).env))) :=
 ⟨_,λ_=>z3s (by rw[C.hmg,C.hb];exact N) hc hq hu hfr hN hi hx hf hd0 hk0 ha hqn,λj=>z1n (hT j)⟩
section
variable {X:Cx}{e:Expr}{es:List Expr}{t:TA}{pos p:Pos}{k i:Nat}{x:Str}
def ztr(P:GB)(w:GD)(K:Qa)(mg:Str->Option G5)(base:Heap)(k i:Nat)(t:TA):TE:=λσ H Q=>∃(f:Addr) (G:List (Addr×Obj×Addr)) (ws:List V) (n:Nat) (sp:Sp),σ[i]? = some (some (.ref f))/\Kn H G/\Calls P w K mg base k f G ws n sp/\t σ H λvs H1=>Kn H1 G/\vs.length=n/\sp (vs++ws) H1 Q E0
theorem zvh(hr:Room k X.A)(hN:X.N[i]? = some x)(hv:Vis X.env.scope x)(ha:PA X (e::es) t)(hd:(x == ("__debug__" : Str))=false:=by decide)(hcd:(x == ("__classdict__" : Str))=false:=by decide)(he:GC (e::es) X.env=(false,eval e X.env)::GC es X.env:=by rfl)(hpl:(Tk pos (GC es X.env)).any (·.1)=false:=by rfl):
 PE X (.Call (.Name x p) (e::es) [] pos) (ztr X.prog X.w X.K X.mg X.base k i t):=by
 intro pins s σ H Q I h;obtain⟨f,G,ws,n,sp,hs,g,c,h⟩:=h;refine GH (thn (zaf (pos:=p) hN hv hd hcd pins s σ H (λv H'=>v = .ref f/\H'=H) I ⟨_,hs,rfl,rfl⟩) λu s1 zz=>?_);obtain⟨v,H1,I1,r1,ev,eH⟩:=zz;subst ev eH;obtain rfl:u=ZH f:=r1;have hA:=ha pos pins s1 σ H1 _ I1 h;rw[he] at hA ⊢;refine PySem.W.callWith_of (P:=LkF f) (by show((false || (Tk pos (GC es X.env)).any (·.1)) || false)=false;rw[hpl];rfl) (λh l=>l _) (VU ?_);refine thn hA λus s2 ⟨vs,H2,I2,r,g2,hn,q⟩=>⟨c.at_ X.A X.stack s2 H2 I2.env0 g2,?_⟩;refine MK (To (c.run X.A X.stack s2 H2 us vs Q hr I2.env0 g2 r hn q) λr s' hq=>?_)
 cases r with
 | error e=>exact hq.elim
 | ok fl=>
   cases fl with
   | ret u=>exact I2.after hq
   | next=>exact ZG hq
   | brk=>exact ZG hq
   | cont=>exact ZG hq
end
section
variable {ι κ:Type}{P:GB}{w:GD}{K:Qa}{mg:Str->Option G5}{base:Heap}{k:Nat}{X:ι->Cx}{O:κ->Ob}{a:Expr}{es:List Expr}{gg:DGA}{pos p:Pos}
def calF(P:GB)(w:GD)(mg:Str->Option G5)(base:Heap)(k:Nat)(φ:Ob->Prop)(i:Nat)(gg:DGA):DE:=λρ Q=>∃(n m:Nat) (F:List DV->(R->Prop)->Prop) (fs:List G7),ρ[i]? = some (some (.thr (zrl P w mg base k n (λK=>spG K φ m F) fs)))/\gg ρ λrs=>rs.length=n/\n+fs.length=m/\F (rs++fs.map .im) Q
theorem zn8{K:Qa}{O:Ob}{H:Hp}:∀{ws:List V} {ds:List G7},IsAll K (unM O) H ws ds->Args K O H ws (ds.map .im)
 | _,_,.nil=>trivial
 | _,_,.cons h t=>⟨.inl ⟨_,rfl,h⟩,zn8 t⟩
theorem znz{K:Qa}{O:Ob}{H:Hp}:∀{vs:List V} {rs:List DV} {ws:List V} {ds:List G7},Args K O H vs rs->IsAll K (unM O) H ws ds->Args K O H (vs++ws) (rs++ds.map .im)
 | [],[],ws,ds,_,i=>by
   rw[J2,J2];exact zn8 i
 | [],_::_,_,_,h,_=>h.elim
 | _::_,[],_,_,h,_=>h.elim
 | v::vs,r::rs,ws,ds,h,i=>⟨h.1,znz h.2 i⟩
theorem zpx(i:Nat){k':Nat}(C:Ctx3 P w K mg base k X)(hφ:∀j,φ (O j))(ha:AG3 K X O (a::es) gg)(hk:k'<=k:=by decide)
 (hN:∀j,(X j).N[i]? = some y:=by intro i;rfl) (hv:∀j,Vis (X j).env.scope y:=by intro i;first|exact Or.inl rfl|exact Or.inr (Or.inl rfl)|exact Or.inr (Or.inr rfl)) (hd:(y == ("__debug__" : Str))=false:=by decide) (hcd:(y == ("__classdict__" : Str))=false:=by decide)
 (he:∀i,GC (a::es) (X i).env=(false,eval a (X i).env)::GC es (X i).env:=by intro i;rfl) (hpl:∀i,(Tk pos (GC es (X i).env)).any (·.1)=false:=by intro i;rfl):E3 K X O (.Call (.Name y p) (a::es) [] pos) (calF P w mg base k' φ i gg):=by
 obtain⟨t,q,d⟩:=ha;refine⟨ztr P w K mg base k' i t,λj=>?_,λj σ H ρ Q Qd S hf kk=>?_⟩
 .have:=zvh (X:=X j) (pos:=pos) (p:=p) ((C.room j).mono hk) (hN j) (hv j) (q j) hd hcd (he j) (hpl j);rw[C.hP,C.hw,C.hK,C.hmg,C.hb] at this;exact this
 .obtain⟨n,m,F,fs,e,hf⟩:=hf;obtain⟨v,hv,W,hw,f,G,ws,rfl,g,gF,iw,c⟩:=S.at_ i _ e;refine⟨f,G,ws,n,_,hv,g,c,d j σ H ρ _ _ S hf λvs H1 rs s1 is ⟨hn,hm,q1⟩=>⟨λp hp=>s1.s _ _ (g p hp) (gF p hp),by rw[is.length];exact hn,?_⟩⟩;refine⟨O j,rs++fs.map .im,Qd,S.ok,hφ j,s1.p S.p,by rw[Ql,Qf,hn];exact hm,znz is (iw.stp s1 (λ_ f=>f) λ_ f=>f),q1,λr qr v H' s2 o2=>kk v H' r (s1.trans s2) (o2.ahead S.ok S.p s1) qr⟩
end
def NoCl(T:Thg):Prop:=∀(K:Qa) (F W:Addr->Prop) (H:Hp) (as:List Addr) (v:V),(∀b∈as,∃o,H b=some (.frz o (.own 1)))->T.R K F W H v->T.R K F (λa=>W a/\a ∉ as) (cutC as H) v
def zqc:DV->Prop
 | .im _=>True
 | .thr T=>NoCl T
 | _=>False
section
variable {K:Qa}{O:Ob}{F:Addr->Prop}{H H1:Hp}{as:List Addr}
theorem zpn(h0:∀b∈as,∃o,H b=some (.frz o (.own 1)))(hu:∃xs,u=HO.tup xs\/∃o,u=HO.frz o (.tup xs))(e:H a=some u):a ∉ as:=λz=>by
 obtain⟨o,q⟩:=h0 a z;rw[e] at q;obtain⟨xs,y|⟨o',y⟩⟩:=hu <;> (rw[y] at q;cases q)
theorem zvz(h0:∀b∈as,∃o,H b=some (.frz o (.own 1))):TupStay H (cutC as H):=λa u hu e=>by rw[zak (zpn h0 hu e)];exact e
theorem zzb{d:G7}(h0:∀b∈as,∃o,H b=some (.frz o (.own 1)))(h:Is K F H v d):Is K F (cutC as H) v d :=
 h.to (λa xs f q=>⟨f,by rw[zak (λz=>by obtain⟨o,y⟩:=h0 a z;rw[q] at y;cases y)];exact q⟩) λa xs q=>SqT.stay (h:=q) (zvz h0)
theorem zm8(h0:∀b∈as,∃o,H b=some (.frz o (.own 1))):∀{vs:List V} {rs:List DV},Args K O H vs rs->(∀r∈rs,zqc r)->Args K O (cutC as H) vs rs
 | [],[],_,_=>trivial
 | [],_::_,h,_=>h.elim
 | _::_,[],h,_=>h.elim
 | v::vs,r::rs,h,n=>by
   refine⟨?_,zm8 h0 h.2 λr' m=>n r' (Qe _ m)⟩;have nr:=n r Qu;rcases h.1 with ⟨d,rfl,z⟩|⟨f,ds,rfl,z⟩|⟨rfl,z⟩|⟨T,rfl,W,hw,z⟩
   .exact .inl ⟨d,rfl,zzb h0 z⟩
   .exact nr.elim
   .exact nr.elim
   .refine .inr (.inr (.inr ⟨T,rfl,_,λa w=>⟨(hw a w.1).1,?_⟩,nr K _ W H as v h0 z⟩));obtain⟨o,q⟩:=(hw a w.1).2;exact⟨o,(zak w.2).trans q⟩
theorem ztn(ok:O.Ok)(p:O.P H)(h0:∀b∈as,∃o,H b=some (.frz o (.own 1))):∀a,O.M a->a ∉ as:=λa m z=>by
 obtain⟨o,q⟩:=h0 a z;exact(ok.mutb H a _ p q m).2 _ _ rfl
theorem zyq(ok:O.Ok)(p:O.P H)(h0:∀b∈as,∃o,H b=some (.frz o (.own 1)))(s:Stp O (cutC as H) H1):Stp O H (bckC as H H1):=by
 have nm:=ztn ok p h0;have pc:O.P (cutC as H):=ok.loc H _ (λa m=>zak (nm a m)) p;refine⟨λa o e n=>?_,λ_=>ok.loc H1 _ (λa m=>za5 (nm a m)) (s.p pc),λa u hu e=>?_⟩
 .by_cases z:a∈as
  .rw[zjy z];exact e
  .rw[za5 z];exact s.s a o ((zak z).trans e) n
 .have z:=zpn h0 hu e;rw[za5 z];exact s.t a u hu ((zak z).trans e)
theorem z3c{d:G7}(hn:∀b∈as,H1 b=none)(h:Is K F H1 v d):Is K F (bckC as H H1) v d:=by
 have out:∀a u,H1 a=some u->bckC as H H1 a=some u:=λa u e=>by rw[za5 λz=>by rw[hn a z] at e;cases e];exact e
 exact h.to (λa xs f q=>⟨f,out a _ q⟩) λa xs q=>SqT.stay (h:=q) λa u _ e=>out a u e
theorem zt3{d:List G7}(hn:∀b∈as,H1 b=none)(h:IsAll K F H1 v d):IsAll K F (bckC as H H1) v d:=by
 have out:∀a u,H1 a=some u->bckC as H H1 a=some u:=λa u e=>by rw[za5 λz=>by rw[hn a z] at e;cases e];exact e
 exact h.to (λa xs f q=>⟨f,out a _ q⟩) λa xs q=>SqT.stay (h:=q) λa u _ e=>out a u e
theorem zyr(hn:∀b∈as,H1 b=none)(h:Out K O (cutC as H) H1 v r):Out K O H (bckC as H H1) v r:=by
 cases r with
 | o d=>exact z3c hn h
 | n ds=>
   obtain⟨a,xs,e,z,q,i⟩:=h;have na:a ∉ as:=λy=>by rw[hn a y] at q;cases q
   exact⟨a,xs,e,(zak na).symm.trans z,by rw[za5 na];exact q,zt3 hn i⟩
end
def CloB(P:GB)(w:GD)(K:Qa)(mg:Str->Option G5)(base:Heap)(k:Nat)(φ:Ob->Prop)(N ps fs:List Str)(qual:Str)(scope:GV)(body:List Stmt)(F:List DV->(R->Prop)->Prop):Prop :=
 ∀(f:Addr) (cd:G5) (clos:List (Str×Addr)) (A:GF) (outer:List Env) (s:G8) (H:Hp) (O:Ob),φ O->Ctx3 P w K mg base k (λ_:Unit=>cxCl P w K mg base N qual scope f cd clos A outer s H) ->
   ∃g,Ss3 K (λ_:Unit=>cxCl P w K mg base N qual scope f cd clos A outer s H) (λ_:Unit=>O) body g/\∀rs Qr,rs.length=ps.length+fs.length->F rs Qr->g { nx:=λ_=>Qr (.o .none),rt:=Qr } (zbr N rs)
section
variable {P:GB}{w:GD}{K:Qa}{mg:Str->Option G5}{base:Heap}{k:Nat}{φ:Ob->Prop}{N ps fs:List Str}{name qual:Str}{params:TR}{body:List Stmt}{scope:GV}{F:List DV->(R->Prop)->Prop}
theorem zt1(B:CloB P w K mg base k φ N ps fs qual scope body F)(S:FnScopeC N ps fs scope)(hF:∀rs Qr,F rs Qr->∀r∈rs,zqc r)
 (hb:∀(doc pm cdv ctv:G5) (clos:List (Str×Addr)) (us:List G5),us.length=ps.length->Tn (fnX name qual params body scope clos .none .none doc pm none cdv ctv) ⟨us,[]⟩=pure (ps.zip us))
 {f c':Addr} {oc:Obj} {vv:Array G5} {t:Tok} {doc pm ctv:G5} {clos:List (Str×Addr)} {as:List Addr} {ocf:Addr->Obj} {ws:List V} (hd:oc.data = .fields vv) (hv:vv[1]? = some (.str qual t)) (h0:∀b∈as,∃x,clos.lookup x=some b)
 (hcl:∀x c,clos.lookup x=some c->(x,QL)∈scope.names/\c∈as) (hfree:∀x,(x,QL)∈scope.names->∃c,clos.lookup x=some c) (hinj:∀x y c,clos.lookup x=some c->clos.lookup y=some c->x=y) (hwl:ws.length=fs.length)
 (hws:∀(i:Nat) x c,fs[i]? = some x->clos.lookup x=some c->∃u v,(ocf c).data = .cell (some u)/\ws[i]? = some v/\RelV v u) :
 Calls P w K mg base (k+1) f ((f,fnMade name qual params body scope clos doc pm c' ctv,0)::(c',oc,0)::as.map λb=>(b,ocf b,1)) ws ps.length (spG K φ (ps.length+fs.length) F):=by
 refine⟨λA outer s H e0 g M=>?_,λA outer s H us vs Q hr e0 g r hl q=>?_⟩
 .have h1:=(e0.hok f _ (g _ Qu)).1;exact PySem.W.keeps_F _ ⟨_,_,_,_,h1⟩
 .have h1:H f=some (.frz (fnMade name qual params body scope clos doc pm c' ctv) (.own 0)):=g _ Qu;have h2:H c'=some (.frz oc (.own 0)):=g _ (Qe _ Qu);have h3:∀b∈as,H b=some (.frz (ocf b) (.own 1)):=λb hb=>g (b,ocf b,1) (Qe _ (Qe _ (Qp.mpr ⟨b,hb,rfl⟩)));have h4:∀b∈as,∃o,H b=some (.frz o (.own 1)):=λb hb=>⟨_,h3 b hb⟩;obtain⟨O,rs,Qr,ok,hφ,p,hln,is,hFF,kk⟩:=q;refine zy8 (N:=N) (fs:=fs) (k:=k) (as:=as) (ws:=ws) S hr e0 h1 h2 hd hv (λb hb=>⟨_,h3 b hb,h0 b hb⟩) hcl hfree hinj hwl (λi x c e1 e2=>?_) (.of_eq (hb _ _ _ _ _ _ (by rw[<- r.length,hl]))) r hl λhr2=>?_
  .obtain⟨u,v,a1,a2,a3⟩:=hws i x c e1 e2;exact⟨_,u,v,h3 c (hcl x c e2).2,a1,a2,a3⟩
  .obtain⟨gg,⟨t1,p1,p2⟩,h⟩:=B f (.ref c') clos A outer s (cutC as H) O hφ ⟨λ_=>rfl,λ_=>rfl,λ_=>rfl,λ_=>rfl,λ_=>rfl,λ_=>rfl,λ_=>hr2,λ_=>rfl⟩;refine⟨t1,p1 (),?_⟩;have pc:O.P (cutC as H):=ok.loc H _ (λa m=>zak (ztn ok p h4 a m)) p;exact zxb (Q:=λv H1=>(∀b∈as,H1 b=none)->Q v (bckC as H H1)) (p2 ()) ok pc (zm8 h4 is (hF rs Qr hFF)) (h rs Qr hln hFF) λr qr v H1 s1 o1 hn=>kk r qr v _ (zyq ok p h4 s1) (zyr hn o1)
end
def zl1(K:Qa)(φ:Ob->Prop)(cap:List (Nat×Addr))(ρ:DSt)(r r':DV):Prop:=∀(O:Ob) (σ:St) (H1:Hp) (oc:Addr->Obj) (v:V),φ O->O.Ok->O.P H1->Seen K O H1 σ ρ->(∀p∈cap,H1 p.2=none) ->
 (∀p∈cap,∀v,σ[p.1]? = some (some v)->∃u,RelV v u/\(oc p.2).data = .cell (some u))->ArgV K O (addC (cap.map (·.2)) oc H1) v r->ArgV K O (addC (cap.map (·.2)) oc H1) v r'
theorem ztf{K:Qa}{φ:Ob->Prop}{cap:List (Nat×Addr)}{ρ:DSt}{r:DV}:zl1 K φ cap ρ r r:=λ_ _ _ _ _ _ _ _ _ _ _ h=>h
theorem znw{as:List Addr}(h:∀b∈as,H b=none):Same H (addC as oc H):=λb o e=>by
 rw[za1 λz=>by rw[h b z] at e;cases e];exact e
section
variable {P:GB}{w:GD}{K:Qa}{mg:Str->Option G5}{base:Heap}{k:Nat}{φ:Ob->Prop}{N ps fs:List Str}{name qual:Str}{params:TR}{body:List Stmt}{scope:GV}{F:List DV->(R->Prop)->Prop}
theorem zmh{O:Ob}{σ:St}{H1:Hp}{ρ:DSt}{env:Env}{cap:List (Nat×Addr)}(S:Seen K O H1 σ ρ):∀{fs:List Str} {qs:List ((Nat×Addr)×G7)},M4 (λx (q:(Nat×Addr)×G7)=>q.1∈cap/\env.cells.lookup x=some q.1.2/\ρ[q.1.1]? = some (some (.im q.2))) fs qs ->
 ∃ws:List V,ws.length=fs.length/\IsAll K (unM O) H1 ws (qs.map (·.2))/\∀(i:Nat) x,fs[i]? = some x->∃q v,qs[i]? = some q/\q.1∈cap/\env.cells.lookup x=some q.1.2/\ws[i]? = some v/\σ[q.1.1]? = some (some v)
 | _,_,.nil=>⟨[],rfl,.nil,λi x e=>by simp at e⟩
 | _,_,.cons (a:=x) (b:=q) r t=>by
   obtain⟨ws,h1,h2,h3⟩:=zmh S t;obtain⟨v,hv,hi⟩:=S.at_ _ _ r.2.2;refine⟨v::ws,by rw[Qk,Qk,h1],.cons hi h2,λi y e=>?_⟩
   cases i with
   | zero=>cases e;exact⟨q,v,rfl,r.1,r.2.1,rfl,hv⟩
   | succ i=>obtain⟨q',v',a⟩:=h3 i y (by simpa using e);exact⟨q',v',by simpa using a⟩
theorem zv0(B:CloB P w K mg base k φ N ps fs qual scope body F)(S:FnScopeC N ps fs scope)(hF:∀rs Qr,F rs Qr->∀r∈rs,zqc r)
 (hb:∀(doc pm cdv ctv:G5) (clos:List (Str×Addr)) (us:List G5),us.length=ps.length->Tn (fnX name qual params body scope clos .none .none doc pm none cdv ctv) ⟨us,[]⟩=pure (ps.zip us))
  (qs:List ((Nat×Addr)×G7)) (hq:M4 (λx (q:(Nat×Addr)×G7)=>q.1∈cap/\env.cells.lookup x=some q.1.2/\ρ[q.1.1]? = some (some (.im q.2))) fs qs)
 (hin:∀x y c,env.cells.lookup x=some c->env.cells.lookup y=some c->x=y) :
 zl1 K φ cap ρ (.thr (YcT name qual params body scope (clOf scope.names env))) (.thr (zrl P w mg base (k+1) ps.length (λK=>spG K φ (ps.length+fs.length) F) (qs.map (·.2)))):=by
 intro O σ H1 oc v hφ ok p Se hn hoc h;rcases h with ⟨d,e,_⟩|⟨f,ds,e,_⟩|⟨e,_⟩|⟨T,e,W,hw,hz⟩
 .cases e
 .cases e
 .cases e
 injection e with e;subst e;obtain⟨f,rfl,c',o',vs,t,doc,pm,ctv,f1,f2,h1,h2,h3,h4⟩:=hz;have hnA:∀b∈cap.map (·.2),H1 b=none:=λb hb=>by obtain⟨q,m,rfl⟩:=Qp.mp hb;exact hn q m
 obtain⟨ws,w1,w2,w3⟩:=zmh (env:=env) Se hq;have sm:Same H1 (addC (cap.map (·.2)) oc H1):=znw hnA
 have fx:∀x,x∈fs->∃q∈qs,q.1∈cap/\env.cells.lookup x=some q.1.2:=λx hx=>by
  obtain⟨i,hi,e⟩:=QT hx;obtain⟨q,v,a1,a2,a3,_⟩:=w3 i x (by rw[Qb hi,e]);exact⟨q,Qz a1,a2,a3⟩
 have hfree:∀x,(x,QL)∈scope.names->∃q∈qs,q.1∈cap/\env.cells.lookup x=some q.1.2/\(clOf scope.names env).lookup x=some q.1.2:=λx hx=>by
  obtain⟨q,m,a1,a2⟩:=fx x (S.free _ hx rfl).2;exact⟨q,m,a1,a2,zim hx a2⟩
 have hcl:∀x c,(clOf scope.names env).lookup x=some c->(x,QL)∈scope.names/\env.cells.lookup x=some c/\c∈qs.map λq=>q.1.2:=λx c e=>by
  have hx:=(zl6 e).1;obtain⟨q,m,_,a2,a3⟩:=hfree x hx;rw[e] at a3;cases a3;exact⟨hx,a2,Qp.mpr ⟨q,m,rfl⟩⟩
 have hcap:∀q∈qs,q.1∈cap/\∃x,(clOf scope.names env).lookup x=some q.1.2:=λq hm=>by
  obtain⟨i,hi,e⟩:=QT hm;have hl:fs.length=qs.length:=hq.length;have ex:fs[i]? = some fs[i]:=Qb (by lia);obtain⟨q',v,a1,a2,a3,_⟩:=w3 i _ ex;rw[Qb hi,e] at a1;cases a1;exact⟨a2,_,zim (Zl (S.fr _ (Qz ex))) a3⟩
 refine .inr (.inr (.inr ⟨_,rfl,λ_=>False,λ_ z=>z.elim,f,(f,fnMade name qual params body scope (clOf scope.names env) doc pm c' ctv,0)::(c',o',0)::(qs.map λq=>q.1.2).map λb=>(b,oc b,1),ws,rfl,λq hq=>?_,λq hq=>?_,w2.stp (.same ok sm) (λ_ f=>f) λ_ f=>f,?_⟩))
 .rcases Qs.mp hq with rfl|hq
  .exact h1
  rcases Qs.mp hq with rfl|hq
  .exact h2
  obtain⟨b,hb,rfl⟩:=Qp.mp hq;obtain⟨q',m,rfl⟩:=Qp.mp hb;exact zex (Qp.mpr ⟨q'.1,(hcap q' m).1,rfl⟩)
 .rcases Qs.mp hq with rfl|hq
  .exact f1
  rcases Qs.mp hq with rfl|hq
  .exact f2
  obtain⟨b,hb,rfl⟩:=Qp.mp hq;obtain⟨q',m,rfl⟩:=Qp.mp hb;intro mm;obtain⟨o,z⟩:=ok.here H1 _ p mm;rw[hn q'.1 (hcap q' m).1] at z;cases z
 .refine zt1 B S hF hb h3 h4 (λb hb=>?_) (λx c e=>⟨(hcl x c e).1,(hcl x c e).2.2⟩) (λx hx=>let ⟨q,_,_,_,z⟩:=hfree x hx;⟨_,z⟩) (λx y c e1 e2=>hin x y c (hcl x c e1).2.1 (hcl y c e2).2.1) w1 λi x c e1 e2=>?_
  .obtain⟨q',m,rfl⟩:=Qp.mp hb;exact(hcap q' m).2
  .obtain⟨q,v,a1,a2,a3,a4,a5⟩:=w3 i x e1;obtain⟨u,ru,hu⟩:=hoc q.1 a2 v a5;have:=(hcl x c e2).2.1;rw[a3] at this;cases this;exact⟨u,v,hu,a4,ru⟩
end
def znj(sp:Sp)(cap:List (Nat×Addr))(t:TA):TE:=λσ H Q=>t σ H λvs H1=>(∀p∈cap,H1 p.2=none)->∀oc:Addr->Obj,(∀p∈cap,∀v,σ[p.1]? = some (some v)->∃u,RelV v u/\(oc p.2).data = .cell (some u)) ->
 sp vs (addC (cap.map (·.2)) oc H1) (λv H2=>Q v (cutC (cap.map (·.2)) H2)) E0
def zq7(X:Cx)(p:Nat×Addr):Prop:=∃y,X.N[p.1]? = some y/\X.env.scope.names.lookup y=some .cell/\X.env.cells.lookup y=some p.2/\X.fn y=true
section
variable {X:Cx}{e:Expr}{es:List Expr}{t:TA}{pos p:Pos}{k:Nat}{f:Addr}{fd:Tu}{ps:List Str}{sp:Sp}{x:Str}{cap:List (Nat×Addr)}
theorem zv2(F:FnOk X.prog X.w X.K X.mg X.base CX0 k f fd ps sp)(hr:Room k X.A)(hg:Gl X x)(hm:X.mg x=some (.ref f))(hk:Jn X.K (.ref f)=true)(hb:Binds X.K fd ps [])(ha:PA X (e::es) t)(hcap:∀p∈cap,zq7 X p)
 (hdb:(x == ("__debug__" : Str))=false:=by decide) (he:GC (e::es) X.env=(false,eval e X.env)::GC es X.env:=by rfl) (hpl:(Tk pos (GC es X.env)).any (·.1)=false:=by rfl) :
 PE X (.Call (.Name x p) (e::es) [] pos) (znj sp cap t):=by
 intro pins s σ H Q I h;refine GH (zpm I hg hm ?_ hdb);refine Uq (h₀:=X.base) I.ok.mod.kin hk (thn (ha pos pins s σ H _ I h) λus s1 ⟨vs,H1,I1,r,q⟩=>⟨I1.kIn,?_⟩) he hpl
 have hfr:∀b∈cap.map (·.2),H1 b=none/\b ∉ frs X.stack/\X.base.get? b=none/\∃o,s1.heap.get? b=some o:=λb hb=>by
  obtain⟨p,hp,rfl⟩:=Qp.mp hb;obtain⟨y,h1,h2,h3,h4⟩:=hcap p hp;have hge:=I1.ok.cab y p.2 h4 h3;obtain⟨v,o,ho,_⟩:=I1.cell y p.2 h3;refine⟨I1.freeC y p.2 h3,λz=>?_,VR (QN I1.ok.bsz hge),o,ho⟩;rcases Qs.mp (I1.stkSub _ z) with z|z
  .exact I1.cne y p.2 h3 z
  .obtain⟨_,o',ho',_⟩:=I1.ok.funs.mem z;exact absurd (QA (Qq ho') hge) (QS _)
 have hoc:∀b∈cap.map (·.2),s1.heap.get? b=some ((λb=>(s1.heap.get? b).getD { cls:=.none,data:=.plain }) b):=λb hb=>by
  obtain⟨_,_,_,o,ho⟩:=hfr b hb;show s1.heap.get? b=some ((s1.heap.get? b).getD _);rw[ho];rfl
 have q1:=q (λp hp=>(hfr p.2 (Qp.mpr ⟨p,hp,rfl⟩)).1) (λb=>(s1.heap.get? b).getD { cls:=.none,data:=.plain }) λp hp v hv=>by
  obtain⟨y,h1,h2,h3,h4⟩:=hcap p hp;obtain⟨m,hn,hl⟩:=I1.loc;obtain⟨u,ru,lk⟩:=hl p.1 y v h1 hv (.inr (.inl h2));refine⟨u,ru,?_⟩;rcases lk with ⟨z,_⟩|⟨_,c,e1,o,ho,hd⟩
  .have z:X.env.scope.names.lookup y=some .local:=z;rw[h2] at z;cases z
  .rw[h3] at e1;cases e1;show((s1.heap.get? p.2).getD _).data=_;rw[ho];exact hd
 generalize (λb=>(s1.heap.get? b).getD { cls:=.none,data:=.plain })=oc at hoc q1;have hok:=zz5 (as:=cap.map (·.2)) (oc:=oc) I1.hok λb hb=>⟨(hfr b hb).1,hoc b hb⟩;have nin:∀b,H1 b≠none->b ∉ cap.map (·.2):=λb n z=>n (hfr b z).1
 have e0:Env0 X.prog X.w X.K X.mg X.base X.A X.stack s1 (addC (cap.map (·.2)) oc H1):=⟨I1.ok.frames,I1.ok.mod,λb o e=>⟨I1.bk b o e,by rw[za1 λz=>by rw[(hfr b z).2.2.1] at e;cases e];exact(I1.bs b o e).2⟩,QN I1.ok.bsz I1.sz,I1.stack,
  λb hb=>by rw[za1 λz=>(hfr b z).2.1 hb];exact I1.stkFree b hb,hok,I1.bare⟩
 have hl:=F.len _ _ _ _ q1;have bb:=hb s1 us I1.kIn (by rw[QD,<- r.length];exact hl);rw[QD] at bb;refine MK (To (F.run X.A X.stack s1 _ ⟨us,[]⟩ us vs _ E0 hr e0 bb r q1) λr s' hq=>?_)
 cases r with
 | error e=>exact hq.elim
 | ok fl=>
   cases fl with
   | ret u=>
     obtain⟨v,H',os,bare,un,hok',rv,q'⟩:=hq
     have kpC:∀b∈cap.map (·.2),s'.heap.get? b=some (oc b)/\H' b=some (.frz (oc b) (.own 1)):=λb hb=>by
      have z:=un.frzs b _ _ (zex (oc:=oc) (H:=H1) hb);exact⟨(hok' b _ z).1,z⟩
     obtain⟨hh,g,d,t,os'⟩:=s';obtain rfl:os'=s1.os:=os;refine⟨v,cutC (cap.map (·.2)) H',I1.call (h':=hh) (g':=g) (d':=d) (t':=t) (ch:=[]) ⟨λb o e n m x=>?_,λb o e n m x=>?_,λb o e n x=>?_,λb o e x=>un.there b o e x,λb xs e=>?_,λb o u e=>?_,λb qs e=>?_⟩ (zpr hok' λb hb=>.inr ⟨_,(kpC b hb).2⟩) bare (λb z=>absurd z (by simp)),rv,q'⟩
     .by_cases hb:b∈cap.map (·.2)
      .have:=hoc b hb;rw[e] at this;cases this;exact(kpC b hb).1
      .exact un.keep b o e ((za1 hb).trans n) m x
     .by_cases hb:b∈cap.map (·.2)
      .exact absurd m (hfr b hb).2.1
      .exact un.slot b o e ((za1 hb).trans n) m x
     .by_cases hb:b∈cap.map (·.2)
      .exact zez hb
      .rw[zak hb];exact un.free b o e ((za1 hb).trans n) x
     .have hb:=nin b (by rw[e];simp);rw[zak hb];exact un.tups b xs ((za1 hb).trans e)
     .have hb:=nin b (by rw[e];simp);rw[zak hb];exact un.frzs b o u ((za1 hb).trans e)
     .have hb:=nin b (by rw[e];simp);rw[zak hb];exact un.tbls b qs ((za1 hb).trans e)
   | next=>exact ZG hq
   | brk=>exact ZG hq
   | cont=>exact ZG hq
end
section
variable {K:Qa}{O:Ob}
theorem zk2(hφ:φ O)(S:Seen K O H1 σ ρ)(hn:∀p∈cap,H1 p.2=none)(hoc:∀p∈cap,∀v,σ[p.1]? = some (some v)->∃u,RelV v u/\(oc p.2).data = .cell (some u))(sm:Stp O H1 (addC (cap.map (·.2)) oc H1)):
 ∀{vs:List V} {rs rs':List DV},Args K O H1 vs rs->M4 (zl1 K φ cap ρ) rs rs'->Args K O (addC (cap.map (·.2)) oc H1) vs rs'
 | [],[],[],_,_=>trivial
 | [],[],_::_,_,h=>nomatch h
 | [],_::_,_,h,_=>h.elim
 | _::_,[],_,h,_=>h.elim
 | v::vs,r::rs,[],_,h=>nomatch h
 | v::vs,r::rs,r'::rs',h,p=>by
   cases p with
   | cons p1 p2=>exact⟨p1 O σ H1 oc v hφ S.ok S.p S hn hoc (h.1.stp sm),zk2 hφ S hn hoc sm h.2 p2⟩
end
structure TopC(K:Qa)(mg:Str->Option G5)(x:Str)(st:Stmt)(c:Addr):Prop where
 ex:∃(f:Addr) (oc:G5) (od:Option Addr) (kV doc pm:G5) (an:Option Addr) (ct:G5) (osl:Array (Option G5)),K.lookup f=some ⟨oc,od,.func (Z2 x x (zbk st) (zan st) (zab st) .none kV doc pm an (.ref c) ct),osl⟩/\JE K (.ref c) x=true/\Jn K (.ref f)=true/\mg x=some (.ref f)
section
variable {P:GB}{w:GD}{K:Qa}{mg:Str->Option G5}{base:Heap}{k n:Nat}{x:Str}{st:Stmt}{N ps:List Str}{φ:Ob->Prop}{F:List G7->(R->Prop)->Prop}{c:Addr}
theorem z4m(T:TopC K mg x st c)(S:FnScope N ps (zab st))(hb:∀(kV doc pm:G5) (an:Option Addr) (cdv ct:G5) (us:List G5),us.length=ps.length->Tn (Z2 x x (zbk st) (zan st) (zab st) .none kV doc pm an cdv ct) ⟨us,[]⟩=pure (ps.zip us))(hn:ps.length=n)
 (body:∀(f:Addr) (A:GF) (outer:List Env) (s:G8) (H:Hp) (E:XK) (O:Ob),φ O->Ctx3 P w K mg base k (za3 P w K mg base N x (zab st) f (.ref c) A outer s H E) ->
  ∃g,Ss3 K (za3 P w K mg base N x (zab st) f (.ref c) A outer s H E) (λ_:Unit=>O) (zan st) g/\∀ds Qr,ds.length=n->F ds Qr->g { nx:=λ_=>Qr (.o .none),rt:=Qr } (zbr N (ds.map .im))):Def3 P w K mg base (k+1) x ps (spO K φ n F):=by
 obtain⟨f,oc,od,kV,doc,pm,an,ct,osl,lk,hcd,kp,m⟩:=T.ex;refine⟨f,_,zw8 lk hcd S (zpu hn) (λA outer s H vs Q E hr h=>?_),m,kp,.all (hb kV doc pm an _ ct)⟩;obtain⟨O,ds,Qr,ok,hφ,p,hl,is,q,kk⟩:=h;obtain⟨g,⟨t,h1,h2⟩,h3⟩:=body f A outer s H E O hφ (zc3 hr);exact⟨t,(h1 ()).nox,zw2 (h2 ()) ok p is (h3 ds Qr hl q) kk⟩
end
def zii(X:Cx)(x:Str):Addr:=(X.env.cells.lookup x).getD 0
theorem zmg{P:GB}{w:GD}{K:Qa}{mg:Str->Option G5}{base:Heap}{N:List Str}{x y:Str}{sc:GV}{f:Addr}{cdv:G5}{A:GF}{outer:List Env}{s:G8}{H:Hp}{E:XK}(h:sc.names.lookup y=some .cell):
 (za3 P w K mg base N x sc f cdv A outer s H E ()).env.cells.lookup y=some (zii (za3 P w K mg base N x sc f cdv A outer s H E ()) y):=by
 obtain⟨c,hc⟩:=zh1 (n:=s.heap.objs.size+1) h;have e:(za3 P w K mg base N x sc f cdv A outer s H E ()).env.cells.lookup y=some c:=hc;unfold zii;rw[e];rfl
theorem z1a{P:GB}{w:GD}{K:Qa}{mg:Str->Option G5}{base:Heap}{N:List Str}{x y:Str}{sc:GV}{f:Addr}{cdv:G5}{A:GF}{outer:List Env}{s:G8}{H:Hp}{E:XK}{i:Nat}(hi:N[i]? = some y)(h:sc.names.lookup y=some .cell):
 zq7 (za3 P w K mg base N x sc f cdv A outer s H E ()) (i,zii (za3 P w K mg base N x sc f cdv A outer s H E ()) y):=⟨y,hi,h,zmg h,rfl⟩
theorem zsb{P:GB}{w:GD}{K:Qa}{mg:Str->Option G5}{base:Heap}{N:List Str}{x:Str}{sc:GV}{f:Addr}{cdv:G5}{A:GF}{outer:List Env}{s:G8}{H:Hp}{E:XK}:
 ∀y z c,(za3 P w K mg base N x sc f cdv A outer s H E ()).env.cells.lookup y=some c->(za3 P w K mg base N x sc f cdv A outer s H E ()).env.cells.lookup z=some c->y=z:=λy z c e1 e2=>zgg sc.names (s.heap.objs.size+1) [] (λ_ _ e=>nomatch e) (λ_ _ _ e=>nomatch e) y z c e1 e2
end L3
namespace L3
open PySem PySem.Spec
open PyProof.Rows hiding St
open L2
open PySem.W (CodeHd tabObj tabIn noTabs)
abbrev Tbs:=List (Addr×List (Pos×Str))
def zlt(Ts:Tbs)(H:Hp):Prop:=∀q∈Ts,∃ps,H q.1=some (.cod ps q.2)
def zlw(Ts:Tbs)(O:Ob):Ob:=⟨λa=>O.M a\/∃q∈Ts,a=q.1,λH=>O.P H/\zlt Ts H,O.v⟩
section
variable {Ts:Tbs}{O:Ob}
theorem zv7(ok:O.Ok):(zlw Ts O).Ok:=by
 refine⟨λH H' e ⟨p,t⟩=>⟨ok.loc H H' (λa m=>e a (.inl m)) p,λq hq=>let ⟨ps,z⟩:=t q hq;⟨ps,(e q.1 (.inr ⟨q,hq,rfl⟩)).trans z⟩⟩,λH a o ⟨p,t⟩ e m=>?_,λH a ⟨p,t⟩ m=>?_⟩
 .rcases m with m|⟨q,hq,rfl⟩
  .exact ok.mutb H a o p e m
  .obtain⟨ps,z⟩:=t q hq;rw[e] at z;cases z;exact⟨λ_ h=>(by cases h),λ_ _ h=>(by cases h)⟩
 .rcases m with m|⟨q,hq,rfl⟩
  .exact ok.here H a p m
  .obtain⟨ps,z⟩:=t q hq;exact⟨_,z⟩
theorem zqd(h:IsDeal O)(nm:∀q∈Ts,¬O.M q.1):IsDeal (zlw Ts O):=by
 obtain⟨a,l,hv,ma,ml,h1,h2⟩:=h.ex;refine⟨a,l,hv,.inl ma,.inl ml,λH p=>h1 H p.1,λH H' s n ns p q k=>⟨h2 H H' s n ns p.1 q λb mb=>k b (.inl mb),λq hq=>?_⟩⟩;obtain⟨ps,z⟩:=p.2 q hq;exact⟨ps,(k q.1 (.inr ⟨q,hq,rfl⟩) (λe=>nm q hq (e ▸ ma)) λe=>nm q hq (e ▸ ml)).trans z⟩
theorem zrt(ok:O.Ok)(nm:∀q∈Ts,¬O.M q.1)(nd:∀q∈Ts,∀q'∈Ts,q'.1=q.1->q'=q)(hq:q∈Ts):HasTab q.1 q.2 (zlw Ts O) :=
 ⟨.inr ⟨q,hq,rfl⟩,λH p=>p.2 q hq,λH ps p=>⟨ok.loc H _ (λa m=>zaa λz=>nm q hq (z ▸ m)) p.1,λq' hq'=>by
  by_cases z:q'.1=q.1
  .rw[nd q hq q' hq' z];exact⟨ps,zad⟩
  .obtain⟨ps',e⟩:=p.2 q' hq'
   exact⟨ps',by rw[zaa z];exact e⟩⟩⟩
end
def zgq(Ts:Tbs):Type:={j:Addr×Addr // ∀q∈Ts,q.1≠j.1/\q.1≠j.2}
def zfk(Ts:Tbs)(j:zgq Ts):Ob:=zlw Ts (zjf j.1.1 j.1.2)
theorem znc(j:zgq Ts):∀q∈Ts,¬(zjf j.1.1 j.1.2).M q.1:=λq hq m=>by
 rcases m with m|m
 .exact(j.2 q hq).1 m
 .exact(j.2 q hq).2 m
theorem zwn(j:zgq Ts):IsDeal (zfk Ts j):=zqd (ztj _ _) (znc j)
theorem zua(nd:∀q∈Ts,∀q'∈Ts,q'.1=q.1->q'=q)(hq:q∈Ts)(j:zgq Ts):HasTab q.1 q.2 (zfk Ts j):=zrt (zlh _ _) (znc j) nd hq
def spLawT(K:Qa)(Ts:Tbs):Sp:=λvs H Q _=>∃(a:Addr) (ns:List Int),vs = [.ref a]/\SqL K H a (ns.map V.int)/\ns.length<=63/\zlt Ts H/\∀H',zlt Ts H'->Q (.bl true) H'
theorem zzx{P:GB}{w:GD}{K:Qa}{mg:Str->Option G5}{base:Heap}{k:Nat}{st st0:Stmt}{rest:List Stmt}{N:List Str}{f₁:Addr}{fd₁:Tu}{Ts:Tbs}(Fu:Fun K "law" "law" st f₁ fd₁)(S:FnScope ("_law_script" :: "_law_deal_here" :: N) ["_law_script"] (zab st))
 (hs:zan st=st0::rest)
 (first:∀(f:Addr) (cdv:G5) (A:GF) (outer:List Env) (s:G8) (H:Hp) (E:XK),Ctx3 P w K mg base k (za3 P w K mg base ("_law_script" :: "_law_deal_here" :: N) "law" (zab st) f cdv A outer s H E) ->
  PS (za3 P w K mg base ("_law_script" :: "_law_deal_here" :: N) "law" (zab st) f cdv A outer s H E ()) st0 (tAsg (zct (zir K) [] E0 (zao (tVar 0) (zao (tC (.int 0)) tNil))) (zax 1)))
 (body:∀(f:Addr) (cdv:G5) (A:GF) (outer:List Env) (s:G8) (H:Hp) (E:XK),Ctx3 P w K mg base k (za3 P w K mg base ("_law_script" :: "_law_deal_here" :: N) "law" (zab st) f cdv A outer s H E) ->
  ∃g,Ss3 K (za3 P w K mg base ("_law_script" :: "_law_deal_here" :: N) "law" (zab st) f cdv A outer s H E) (zfk Ts) rest g/\∀n:Nat,n<=63->g { nx:=λ_=>False,rt:=λr=>r = .o (.bool true) } (some (.scr n)::some .ob::Qt N.length none)) :
 FnOk P w K mg base CX0 (k+1) f₁ fd₁ ["_law_script"] (spLawT K Ts):=by
 refine Fu.ok S (λvs H Q E h=>by obtain⟨a,ns,rfl,_⟩:=h;rfl) (λcdv A outer s H vs Q E hr h=>?_);obtain⟨a,ns,rfl,hS,hl,tb,q⟩:=h;have C:=zc3 (P:=P) (w:=w) (K:=K) (mg:=mg) (base:=base) (N := "_law_script" :: "_law_deal_here" :: N) (x := "law") (sc:=zab st) (f:=f₁) (cdv:=cdv) (A:=A) (outer:=outer) (s:=s) (H:=H) (E:=E) hr;obtain⟨g,⟨t,h1,h2⟩,h3⟩:=body f₁ cdv A outer s H E C;refine⟨tSeq (tAsg (zct (zir K) [] E0 (zao (tVar 0) (zao (tC (.int 0)) tNil))) (zax 1)) t,?_,?_⟩
 .rw[hs];exact za7 (first f₁ cdv A outer s H E C) (h1 ())
 .refine⟨_,rfl,a,ns,rfl,hS,hl,λp l s left H' hp hln sm pa=>?_⟩
  have ap:∀q∈Ts,q.1≠p/\q.1≠l:=λq hq=>by
   obtain⟨ps,z⟩:=tb q hq;exact⟨(λe=>by rw[e,hp] at z;cases z),(λe=>by rw[e,hln] at z;cases z)⟩
  have pP:(zfk Ts ⟨(p,l),ap⟩).P H':=⟨⟨s,0,left,pa⟩,λq hq=>let ⟨ps,z⟩:=tb q hq;⟨ps,sm _ _ z⟩⟩;refine h2 ⟨(p,l),ap⟩ H' (λ_ _=>False) _ H' _ _ _ ⟨zv7 (zlh p l),pP,pP,.refl _ _,λ_ _ _ z=>z.elim,λ_ _ z=>z.elim,λi r e=>?_,?_⟩ (h3 ns.length hl) ⟨λ_ _ _ _ _ _ z=>z.elim,λ_ _ _ _ _ _ z=>z.elim,λ_ _ _ _ _ _ z=>z.elim,λH' v r st o e=>?_⟩
  .match i with
   | 0=>
     cases e;refine⟨_,rfl,a,ns.map V.int,rfl,by simp,?_⟩
     have nt:∀u,H a=some u->(∀ps qs,u≠.cod ps qs)->∀q∈Ts,a≠q.1:=λu e n q hq z=>by
      obtain⟨ps,y⟩:=tb q hq;rw[<- z,e] at y;cases y;exact n _ _ rfl
     have nm:∀u,H a=some u->(∀ps qs,u≠.cod ps qs)->¬(zfk Ts ⟨(p,l),ap⟩).M a:=λu e n m=>by
      rcases m with (m|m)|⟨q,hq,m⟩
      .rw[m,hp] at e;cases e
      .rw[m,hln] at e;cases e
      .exact nt u e n q hq m
     rcases hS with (hS|⟨o,hS⟩)|hS
     .exact .inl ⟨⟨nm _ hS (λ_ _ z=>by cases z),λ_ z=>z⟩,.inl (sm _ _ hS)⟩
     .exact .inl ⟨⟨nm _ hS (λ_ _ z=>by cases z),λ_ z=>z⟩,.inr ⟨o,sm _ _ hS⟩⟩
     .exact .inr λ_=>.inr hS
   | 1=>cases e;exact⟨_,rfl,rfl⟩
   | i+2=>
     rw[JF,JF,QZ] at e
     split at e <;> cases e
  .rw[QV];simp[L2.start]
  .subst e;cases o;exact q H' (st.p pP).2
theorem zum{P:GB}{w:GD}{K:Qa}{mg mb:Str->Option G5}{k:Nat}{fa a:Addr}{fd:Tu}{x:Str}{s₁:G8}{vs:List G5}{ns:List Int}{cs:List (Addr×Addr)}{Ts:Tbs}
 (KX:K.In s₁.heap) (hns:s₁.heap.Ns mainGlobals mg) (hb:s₁.heap.Ns TZ mb) (hbb:∀x:Str,x ≠ "__name__" -> mb x=GO x) (hlim:s₁.heap.NoLimit) (hg:s₁.gens = #[])
 (ha:s₁.heap.get? a=some { cls:=.type "list",data:=.seq vs.toArray }) (hi:N0 vs ns) (hl:ns.length<=63) (hr:Room k callerA)
 (hbm:∃bm ob,mg "__builtins__" = some (.ref bm)/\bm≠TZ/\s₁.heap.get? bm=some ob/\ob.cls = .type "module" /\ ob.dict=some TZ/\ob.data = .plain)
 (hT:∀q∈cs,CodeHd s₁.heap q.1 q.2/\s₁.heap.get? q.2=some (tabObj #[])) (hK:noTabs K=true) (hts:∀q∈Ts,∃c,(c,q.1)∈cs)
 (F:∀base:Heap,K.In base->base.Ns mainGlobals mg->(∀q∈cs,Nst mg base q.1 q.2)->FnOk P w K mg base CX0 k fa fd [x] (spLawT K Ts)) (hbind:∀(s:G8) (u:G5),MX s fd ⟨[u],[]⟩ [(x,u)]) (hnd:∀q∈Ts,∀q'∈Ts,q'.1=q.1->q'=q) (hcs:∀q∈cs,∃t∈Ts,t.1=q.2) :
 Mf (model P w) callerA (.call (.ref fa) ⟨[.ref a],[]⟩) (λr s'=>r = .ok (.ret (.bool true))/\OldK s₁.heap s'.heap/\s'.os=s₁.os/\Mz s'.gens) s₁:=by
 have rv:=zk8 hi;have lenV:=hi.length
 have tabK:∀q∈cs,K.lookup q.2=none:=λq hq=>by
  cases z:K.lookup q.2 with
  | none=>rfl
  | some o=>
    have e:=KX _ _ z;rw[(hT q hq).2] at e;cases e;have h2:=Z8.mp hK (q.2,_) (PySem.W.mem_of_lookupK z);exact absurd (show false=true from h2) Q6
 have tabT:∀q∈Ts,s₁.heap.get? q.1=some (tabObj #[])/\K.lookup q.1=none/\isCodeTable s₁.heap q.1:=λq hq=>by
  obtain⟨c,hc⟩:=hts q hq;exact⟨(hT _ hc).2,tabK _ hc,((hT _ hc).1.tab (hT _ hc).2).isCodeTable⟩
 -- what is tracked
 let T:Addr->Option HO:=λb=>(Ts.find? λq=>decide (q.1=b)).map λq=>.cod #[] q.2
 have tSome:∀b u,T b=some u->∃q∈Ts,b=q.1/\u = .cod #[] q.2:=λb u e=>by
  obtain⟨q,hq,rfl⟩:=Q4.mp (show(Ts.find? λq=>decide (q.1=b)).map _=some u from e);have h1:=List.find?_some hq;exact⟨q,List.mem_of_find?_eq_some hq,(NF h1).symm,rfl⟩
 have tIn:∀q∈Ts,T q.1=some (.cod #[] q.2):=λq hq=>by
  cases z:T q.1 with
  | none=>
    have z':(Ts.find? λq'=>decide (q'.1=q.1))=none:=Option.map_eq_none_iff.mp z;exact absurd (NH rfl) (List.find?_eq_none.mp z' q hq)
  | some u=>
    obtain⟨q',h1,h2,rfl⟩:=tSome _ _ z;rw[hnd q hq q' h1 h2.symm]
 have core:∀H:Hp,(∀b u,H b=some u->(b=a/\K.lookup a=none/\u = .frz { cls:=.type "list",data:=.seq vs.toArray } (.lst (ns.map V.int)))\/∃q∈Ts,b=q.1/\u = .cod #[] q.2)->(∀q∈Ts,H q.1=some (.cod #[] q.2))->SqL K H a (ns.map V.int)->HOk P w H s₁.heap ->
  Mf (model P w) callerA (.call (.ref fa) ⟨[.ref a],[]⟩) (λr s'=>r = .ok (.ret (.bool true))/\OldK s₁.heap s'.heap/\s'.os=s₁.os/\Mz s'.gens) s₁:=by
  intro H hO hTs hS hok;have base_of:∀{b:Addr} {o:Obj},s₁.heap.get? b=some o->H b=none->(hidT s₁.heap H).get? b=some o:=λe n=>zu2 e n
  have noA:∀{b:Addr} {o:Obj},s₁.heap.get? b=some o->(∀xs n,o.data≠.seq xs n)->(∀fs,o.data≠.fields fs)->H b=none:=λ{b o} e d1 d2=>by
   cases q:H b with
   | none=>rfl
   | some u=>
     rcases hO b u q with ⟨rfl,_⟩|⟨t,ht,rfl,_⟩
     .rw[ha] at e;cases e;exact absurd rfl (d1 _ _)
     .rw[(tabT t ht).1] at e;cases e;exact absurd rfl (d2 _)
  have nsK:∀{b:Addr} {m:Str->Option G5},s₁.heap.Ns b m->(hidT s₁.heap H).Ns b m:=λ{b m} ⟨o,es,ep,e,d,r⟩=>⟨o,es,ep,base_of e (noA e (λ_ _ z=>by rw[d] at z;cases z) λ_ z=>by rw[d] at z;cases z),d,r⟩
  have hKb:K.In (hidT s₁.heap H):=λb o e=>base_of (KX b o e) (by
   cases q:H b with
   | none=>rfl
   | some u=>
     rcases hO b u q with ⟨rfl,z,_⟩|⟨t,ht,rfl,_⟩
     .rw[z] at e;cases e
     .rw[(tabT t ht).2.1] at e;cases e)
  have hM:Mod K mg (hidT s₁.heap H):=⟨hKb,nsK hns,⟨mb,nsK hb,hbb⟩,let ⟨mc,h1,h2⟩:=hlim;⟨mc,nsK h1,h2⟩⟩;have e0:Env0 P w K mg (hidT s₁.heap H) callerA [] s₁ H:=⟨rfl,hM,λb o e=>zym e,V6 (zud _ _),trivial,λb hb=>absurd (show b∈([]:List Addr) from hb) (by simp),hok,.of_eq hg⟩
  have hN:∀q∈cs,Nst mg (hidT s₁.heap H) q.1 q.2:=λq hq=>by
   obtain⟨bm,ob,b1,b2,b3,b4,b5,b6⟩:=hbm;obtain⟨o,vs',file,tf,flags,tg,inF,text,tt,e1,r1,r2,r3⟩:=(hT q hq).1;refine⟨⟨bm,ob,b1,b2,base_of b3 (noA b3 (λ_ _ z=>by rw[b6] at z;cases z) λ_ z=>by rw[b6] at z;cases z),b4,b5,b6⟩,⟨o,vs',file,tf,flags,tg,inF,text,tt,base_of e1 ?_,r1,r2,r3⟩⟩
   cases q1:H q.1 with
   | none=>rfl
   | some u=>
     rcases hO _ u q1 with ⟨z,_⟩|⟨t,ht,z,_⟩
     .rw[z,ha] at e1;cases e1;cases r2
     .rw[z,(tabT t ht).1] at e1;cases e1;cases r1
  refine To ((F _ hKb (nsK hns) hN).run callerA [] s₁ H ⟨[.ref a],[]⟩ [.ref a] [.ref a] (λv H'=>v = .bl true/\zlt Ts H') E0 hr e0 (hbind s₁ (.ref a)) (.cons rfl .nil) ⟨a,ns,rfl,hS,hl,λq hq=>⟨_,hTs q hq⟩,λH' t=>⟨rfl,t⟩⟩) λr s' h=>?_
  cases r with
  | error e=>exact h.elim
  | ok fl=>
    cases fl with
    | next=>exact ZG h
    | brk=>exact ZG h
    | cont=>exact ZG h
    | ret u=>
      obtain⟨v,H',os,bare,un,hok',r',q',tb⟩:=h;subst q';obtain rfl:u=JA true:=r';refine⟨rfl,⟨λb o e=>?_,λb o e=>un.there b o e (by simp)⟩,os,bare⟩
      cases q:H b with
      | none=>exact .inl (un.keep b o e q (by intro z;exact absurd (show b∈([]:List Addr) from z) (by simp)) (by simp))
      | some u=>
        rcases hO b u q with ⟨_,_,z⟩|⟨t,ht,rfl,_⟩
        .rw[z] at q;have z2:=un.frzs b _ _ q;obtain⟨e1,_⟩:=hok b _ q;obtain⟨e2,_⟩:=hok' b _ z2;rw[e] at e1;cases e1;exact .inl e2
        .obtain⟨ps,hp⟩:=tb t ht;obtain⟨g1,g2,g3⟩:=tabT t ht;rw[e] at g1;cases g1;have g4:=(hok' _ _ hp).1;exact .inr (.inl ⟨g3,rfl,#[],ps,rfl,by rw[Array.empty_append];exact g4⟩)
 have okT:∀(H:Hp),(∀b u,H b=some u->∀o,u≠.own o)->∀q∈Ts,ObjOk P w H s₁.heap q.1 (.cod #[] q.2):=λH _ q hq=>⟨(tabT q hq).1,trivial,λp _ cv z=>by cases z⟩
 cases hk:K.lookup a with
 | some o=>
   have e:=KX a o hk;rw[ha] at e;cases e;refine core T (λb u z=>.inr (tSome b u z)) tIn (.inr ⟨_,vs.toArray,_,hk,rfl,rfl,rfl,by rw[Q5,lenV];exact QN hl (by decide),by simpa using rv⟩) λb u z=>?_;obtain⟨q,hq,rfl,rfl⟩:=tSome b u z;exact⟨(tabT q hq).1,trivial,λp _ cv z=>by cases z⟩
 | none=>
   have na:∀q∈Ts,q.1≠a:=λq hq z=>by have:=(tabT q hq).1;rw[z,ha] at this;cases this
   refine core (λb=>if b=a then some (.frz { cls:=.type "list",data:=.seq vs.toArray } (.lst (ns.map V.int))) else T b) (λb u z=>?_) (λq hq=>(NE (na q hq)).trans (tIn q hq)) (.inl (.inr ⟨{ cls:=.type "list",data:=.seq vs.toArray },ND rfl⟩)) λb u z=>?_
   .by_cases hb:b=a
    .have z':=(ND hb).symm.trans z;cases z';exact .inl ⟨hb,hk,rfl⟩
    .exact .inr (tSome b u ((NE hb).symm.trans z))
   .by_cases hb:b=a
    .have z':=(ND hb).symm.trans z;cases z';subst hb;exact⟨ha,by rw[Qf];exact QN hl (by decide),vs,_,rv,ha⟩
    .obtain⟨q,hq,rfl,rfl⟩:=tSome b u ((NE hb).symm.trans z);exact⟨(tabT q hq).1,trivial,λp _ cv z=>by cases z⟩
def cOf(K:Qa)(x:Str):Addr:=((tabIn K x).getD (0,0)).1
def pOf(K:Qa)(x:Str):Addr:=((tabIn K x).getD (0,0)).2
theorem zoy{K:Qa}{x:Str}(h:(tabIn K x).isSome=true):tabIn K x=some (cOf K x,pOf K x):=by
 obtain⟨⟨c,p⟩,e⟩:=ZQ.mp h;unfold cOf pOf;rw[e];rfl
abbrev Nests:=List (Str×List (Pos×Str))
def tbsOf(K:Qa)(l:Nests):Tbs:=l.map λp=>(pOf K p.1,p.2)
theorem topC_of{K:Qa}{x:Str}{st:Stmt}{h:Heap}{mg:Str->Option G5}(X:K.In h)(G:h.Ns mainGlobals mg)
 (D:∃(f:Addr) (od an:Option Addr) (sl:Array (Option G5)) (oc kV dc pm cd ct:G5),Ze K mainGlobals x=some (some (.ref f))/\K.lookup f=some ⟨oc,od,.func (Z2 x x (zbk st) (zan st) (zab st) .none kV dc pm an cd ct),sl⟩/\JE K cd x=true/\Jn K (.ref f)=true)
 (ht:(tabIn K x).isSome=true):TopC K mg x st (cOf K x):=by
 obtain⟨f,od,an,sl,oc,kV,dc,pm,cd,ct,a,l,c,k⟩:=D;have e:=zoy ht;have e2:=e;unfold tabIn at e2;rw[a] at e2;simp only[l] at e2
 cases cd with
 | ref c0=>
   have:c0=cOf K x:=by
    simp only at e2
    split at e2
    .split at e2
     .cases e2;rename_i z1 z2;first|rfl|(injection z1)|skip
     .cases e2
    .cases e2
   subst this;exact⟨f,oc,od,kV,dc,pm,an,ct,sl,l,c,k,Uk X G a⟩
 | _=>cases e2
theorem walk_ofT{l:VE}{k:Nat}{q:GB}{loose:List Str}{XP:(Str->Option G5)->Heap->Prop}{YP:GD->Heap->Prop}{d:DefRec}{K:Params->Qa}{x:Str}{tl:Nests}
 (hn:l.most=some 63) (hdf:d.params.defaults = []) (hr:Room k callerA) (hY:∀(w:GD) (h:Heap),YP w h->(K w.params).In h)
 (hK:∀w:GD,noTabs (K w.params)=true) (hti:∀w:GD,(tl.all λp=>(tabIn (K w.params) p.1).isSome)=true) (hrec:(tl.all λp=>((recsOf q).find? λe=>e.name == p.1).isSome)=true) (hnd:∀w:GD,decide ((tl.map λp=>pOf (K w.params) p.1).Nodup)=true)
 (F:∀(w:GD) (mg:Str->Option G5) (fa:Addr) (h:Heap),(K w.params).In h->h.Ns mainGlobals mg->mg d.name=some (.ref fa) ->
  ∃fd:Tu,(∀(s:G8) (u:G5),MX s fd ⟨[u],[]⟩ [(x,u)]) /\
    ∀base:Heap,(K w.params).In base->base.Ns mainGlobals mg->(∀p∈tl,Nst mg base (cOf (K w.params) p.1) (pOf (K w.params) p.1))->FnOk l.prog w (K w.params) mg base CX0 k fa fd [x] (spLawT (K w.params) (tbsOf (K w.params) tl))) :
 Gu q loose XP YP l.row.toRowW d [] (λf vs=>Gj f vs):=by
 refine Att.attach_call hn hdf λw s₀ s₁ mg mb fa o pm cd doc a vs ns G Y ho hd hcd hmg hobj hints hlen hg=>?_;have KX:=hY w _ Y;obtain⟨fd,hb,hF⟩:=F w mg fa _ KX G.T.g hmg;have hti':∀p∈tl,(tabIn (K w.params) p.1).isSome=true:=λp hp=>Z8.mp (hti w) p hp;have nd:(tl.map λp=>pOf (K w.params) p.1).Nodup:=NF (hnd w);refine zum (cs:=tl.map λp=>(cOf (K w.params) p.1,pOf (K w.params) p.1)) (Ts:=tbsOf (K w.params) tl) KX G.T.g G.T.b G.T.builtins G.T.nolimit hg hobj hints hlen hr G.T.bmain (λq' hq=>?_) (hK w) (λq' hq=>?_) (λbase h1 h2 h3=>hF base h1 h2 λp hp=>h3 _ (Qp.mpr ⟨p,hp,rfl⟩)) hb (λq1 h1 q2 h2 e=>?_) λq' hq=>?_
 .obtain⟨p,hp,rfl⟩:=Qp.mp hq;obtain⟨d',hd'⟩:=ZQ.mp (Z8.mp hrec p hp);exact PySem.W.tab_of G.T KX hd' (zoy (hti' p hp))
 .obtain⟨p,hp,rfl⟩:=Qp.mp hq;exact⟨cOf (K w.params) p.1,Qp.mpr ⟨p,hp,rfl⟩⟩
 .obtain⟨p1,m1,rfl⟩:=Qp.mp h1;obtain⟨p2,m2,rfl⟩:=Qp.mp h2;obtain⟨i,hi,e1⟩:=QT m1;obtain⟨j,hj,e2⟩:=QT m2
  have:j=i:=by
   refine(UK (h₀:=by simpa using hj) (h₁:=by simpa using hi) nd).mp ?_;rw[Y9,Y9,e1,e2];exact e
  subst this;rw[<- e1,<- e2]
 .obtain⟨p,hp,rfl⟩:=Qp.mp hq;exact⟨_,Qp.mpr ⟨p,hp,rfl⟩,rfl⟩
def zdr(Z:Addr->Prop)(d:G7):Thg:=⟨λK F W H v=>∃as:List Addr,as.Nodup/\(∀a∈as,W a/\Z a)/\Ow K H v d as,λ{K F F' W W' H H' v} hF hW ts h=>by
 obtain⟨as,n,m,o⟩:=h
 exact⟨as,n,λa z=>by obtain⟨xs,q⟩:=o.mem z;exact⟨(hW a _ (m a z).1 q).1,(m a z).2⟩,o.to ts λa z xs q=>(hW a _ (m a z).1 q).2⟩⟩
def flS:Option DV->Option DV
 | some (.im d)=>if flat d=true then some (.im d) else none
 | some (.own ds)=>if flats ds=true then some (.own ds) else none
 | some .ob=>some .ob
 | _=>none
section
variable {K:Qa}{O:Ob}{H₀ H:Hp}{A:Nat->Addr->Prop}{σ:St}{ρ:DSt}
theorem Rep.lend{i:Nat}{d:G7}(r:Rep K O H₀ A H σ ρ)(e:ρ[i]? = some (some (.thg (OwnT d)))):Rep K O H₀ (λj a=>j≠i/\A j a) H σ (ρ.set i (some (.thr (zdr (A i) d)))):=by
 obtain⟨v,hv,_,as,nd,m,o⟩:=r.at_ i _ e;have r0:=r.setIm (i:=i) (v:=.non) (d:=.none) .none;refine⟨r0.ok,r0.p,r0.p0,r0.st,r0.dis,r0.own,λj x ej=>?_,by rw[QV];exact r.len⟩
 by_cases hj:i=j
 .subst hj;rw[Q3 (Qn.mp e).1] at ej;cases ej;exact⟨v,hv,λa=>a∈as,λa z=>⟨⟨(r.own i a (m a z)).2.2,λj y=>y.1 (r.dis j i a y.2 (m a z))⟩,let ⟨o,q,_⟩:=(r.own i a (m a z)).2.1;⟨o,q⟩⟩,as,nd,λa z=>⟨z,m a z⟩,o⟩
 .have q:=r0.at_ j x (by rw[QB hj] at ej ⊢;exact ej);rw[QB hj] at q;exact q
theorem Rep.back{i:Nat}{d:G7}(r:Rep K O H₀ A H σ ρ)(e:ρ[i]? = some (some (.thr (zdr Z d))))(hZ:∀a,Z a->H₀ a=QP):
 ∃as:List Addr,(∀a∈as,Z a)/\Rep K O H₀ (λj b=>(j≠i/\A j b)\/(j=i/\b∈as)) H σ ((ρ.map flS).set i (some (.thg (OwnT d)))):=by
 obtain⟨v,hv,W,hw,as,nd,m,o⟩:=r.at_ i _ e;refine⟨as,λa z=>(m a z).2,r.ok,r.p,r.p0,r.st,λj k b x y=>?_,λj b x=>?_,λj x ej=>?_,by rw[QV,Qf];exact r.len⟩
 .rcases x with x|x <;> rcases y with y|y
  .exact r.dis j k b x.2 y.2
  .exact absurd x.2 ((hw b (m b y.2).1).1.2 j)
  .exact absurd y.2 ((hw b (m b x.2).1).1.2 k)
  .exact x.1.trans y.1.symm
 .rcases x with x|x
  .exact r.own j b x.2
  .obtain⟨xs,q⟩:=o.mem x.2;exact⟨hZ b (m b x.2).2,⟨_,q,.lst⟩,(hw b (m b x.2).1).1.1⟩
 .by_cases hj:i=j
  .subst hj;rw[Q3 (by rw[Qf];exact(Qn.mp e).1)] at ej;cases ej;exact⟨v,hv,trivial,as,nd,λa z=>.inr ⟨rfl,z⟩,o⟩
  .rw[QB hj,Qi] at ej;obtain⟨y,hy,ey⟩:=Q4.mp ej
   cases y with
   | none=>cases ey
   | some y=>
     obtain⟨u,h1,h2⟩:=r.at_ j y hy;refine⟨u,h1,?_⟩
     cases y with
     | im d=>
       by_cases f:flat d=true
       .unfold flS at ey;dsimp only at ey;rw[ND f] at ey;cases ey;exact Is.flat (TupStay.refl H) h2 f
       .unfold flS at ey;dsimp only at ey;rw[NE f] at ey;cases ey
     | own es=>
       by_cases f:flats es=true
       .unfold flS at ey;dsimp only at ey;rw[ND f] at ey;cases ey;obtain⟨b,ys,eq,hb,hlb,hs⟩:=h2;exact⟨b,ys,eq,.inl ⟨λz=>hj z.symm,hb⟩,hlb,IsAll.flats (TupStay.refl H) hs f⟩
       .unfold flS at ey;dsimp only at ey;rw[NE f] at ey;cases ey
     | ob=>cases ey;exact h2
     | scr n=>cases ey
     | dct ks=>cases ey
     | gen g ds=>cases ey
     | rd g ds=>cases ey
     | exc C ns ds=>cases ey
     | thg T=>cases ey
     | thr T=>cases ey
def zw1(i:Nat)(g:DS):DS:=λDd ρ=>∃d,ρ[i]? = some (some (.thg (OwnT d)))/\∀Z:Addr->Prop,g { nx:=λρ'=>ρ'[i]? = some (some (.thr (zdr Z d)))/\Dd.nx ((ρ'.map flS).set i (some (.thg (OwnT d)))),rt:=λ_=>False } (ρ.set i (some (.thr (zdr Z d))))
theorem zxw{i:Nat}(h:SD K O t g):SD K O t (zw1 i g):=λH₀ A σ H ρ D Dd r q P=>by
 obtain⟨d,e,q⟩:=q;have f1:Frm O A H (λj a=>j≠i/\A j a) H:=.setIm (.refl _ _);refine h H₀ _ σ H _ D _ (r.lend e) (q (A i)) ⟨λA' σ' H' ρ' r' f' q'=>?_,λ_ _ _ _ _ _ z=>z.elim,λ_ _ _ _ _ _ z=>z.elim,λ_ _ _ _ _ z=>z.elim⟩;obtain⟨e',q'⟩:=q';obtain⟨as,hz,r3⟩:=r'.back e' (λa z=>(r.own i a z).1);refine P.nx _ _ _ _ r3 (λa o ea ua=>?_) q';obtain⟨g1,g2⟩:=f1.trans f' a o ea ua;refine⟨g1,g2.1,λj z=>?_⟩;rcases z with z|z
 .exact g2.2 j z.2
 .exact ua.2 i (hz a z.2)
def zwp(i:Nat)(fk:DE):DJ:=λρ Q=>∃Z ds,ρ[i]? = some (some (.thr (zdr Z (.list ds))))/\fk ρ λr=>∃(k:Nat) (es:List G7),r.d = .int (k:Nat)/\ds[k]? = some (.list es)/\Q es
theorem zsg{i:Nat}(hk:ED K O tk fk):SrcR K O (zb0 K (tOp (rIx K) (tVar i) tk)) (zwp i fk):=λH₀ A σ H ρ R Qd r q kk=>by
 obtain⟨Z,ds,e,q⟩:=q;obtain⟨v,hv,W,hw,as,nd,m,o⟩:=r.at_ i _ e;refine⟨v,hv,?_⟩;refine hk σ H ρ _ _ r.seen q λy H1 r1 s1 o1 zz=>?_;obtain⟨k,es,er,ek,q1⟩:=zz;have iy:=o1.is r.ok r.p;rw[er] at iy;cases iy;have mm:∀a∈as,unO O A a:=λa z=>(hw a (m a z).1).1;have oo:=zjh s1 (λa z=>(mm a z).1) o
 cases oo with
 | leaf f1 _=>exact absurd f1 zbp
 | @list a xs ds' as' q0 r0=>
   obtain⟨u,cs,rest,g1,g2,g3,_⟩:=r0.at ek
   cases g2 with
   | leaf f1 _=>exact absurd f1 zbp
   | @list b ys es' bs qb rb=>
     have mb:∀c∈b::bs,unO O A c:=λc z=>mm c (Qe _ (g3.mem_iff.mpr (QC _ z)));have ln:k<xs.length:=(Qn.mp g1).1;refine .inl ⟨a,xs,_,_,rfl,rfl,.of q0,?_,b,rfl,⟨ys,.of qb⟩,?_⟩
     .unfold atI;rw[show ixN xs.length (k:Int)=some k by unfold ixN;rw[ND (by lia),ND (by lia)];rfl];exact g1
     .have hs:IsAll K (unM O) H1 ys es:=rb.is λc z=>(mb c (Qe _ z)).1;refine kk (Itl K b) H1 es (λc=>c=b) ⟨s1,λc hc=>by subst hc;exact⟨(mb _ (by simp)).1,_,qb⟩,λH2 j kb _ hj=>?_,λH2 j d kb t2 hd c=>?_⟩ (λc hc=>by subst hc;exact mb _ (by simp)) q1
      .exact⟨ys,.of (kb b _ rfl qb),by rw[hs.length];exact hj⟩
      .obtain⟨w,hw',iw⟩:=zfa (O:=O) hs hd t2 c;have q2:SqL K H2 b ys:=.of (kb b _ rfl qb);refine⟨⟨ys,w,q2,hw'⟩,λx H3 zz=>?_⟩;obtain⟨e3,y⟩:=zz;subst e3;have:=y ys q2;rw[hw'] at this;cases this;exact⟨Same.refl _,iw⟩
def ifJ(fc:DT)(f1 f2:DJ):DJ:=λρ Q=>fc ρ λb=>if b=true then f1 ρ Q else f2 ρ Q
theorem zo3(hc:TD K O c fc)(h1:SrcR K O (zb0 K t1) f1)(h2:SrcR K O (zb0 K t2) f2):SrcR K O (zb0 K (tIf c t1 t2)) (ifJ fc f1 f2):=λH₀ A σ H ρ R Qd r q k=>by
 refine hc σ H ρ _ _ r.seen q λb H1 s1 q1=>?_;have r1:=r.stp s1;have go:∀(J:It) (H2:Hp) (ds:List G7) (B:Addr->Prop),Walk K O H1 H2 J ds B->(∀a,B a->unO O A a)->Qd ds->R J H2:=λJ H2 ds B W u q=>k J H2 ds B ⟨s1.trans W.st,W.hb,W.stop,W.item⟩ u q
 cases b with
 | true=>exact h1 H₀ A σ H1 ρ R Qd r1 q1 go
 | false=>exact h2 H₀ A σ H1 ρ R Qd r1 q1 go
end
section
variable {ι κ:Type}{P:GB}{w:GD}{K:Qa}{mg:Str->Option G5}{base:Heap}{k:Nat}{X:ι->Cx}{O:κ->Ob}{st:Stmt}{g:DS}{pos px p1:Pos}{x:Str}{c a b tg:Expr}{fb:DE}{fc:DT}{fa:DI}
theorem z4u(n:Nat)(C:Ctx3 P w K mg base k X)(hc:T3 K X O c fc)(ha:E3 K X O a f1)(hb:E3 K X O b fb)(hN:∀i,(X i).N[n]? = some x:=by intro i;rfl)(hv:∀i,Vis (X i).env.scope x:=by intro i;first|exact Or.inl rfl|exact Or.inr (Or.inl rfl)|exact Or.inr (Or.inr rfl))
 (hd:(x == ("__debug__" : Str))=false:=by decide) (hcd:(x == ("__classdict__" : Str))=false:=by decide) (hs:zdz b:=by intro _ _;rfl):J3 K X O tg (.IfExp c a (.Subscript (.Name x px) b p1) pos) (ifJ fc (newJ (srcL f1)) (zwp n fb)) :=
 let ⟨tc,q,d⟩:=hc;let ⟨t1,q1,d1⟩:=ha;let ⟨t2,q2,d2⟩:=hb
 ⟨zb0 K (tIf tc t1 (tOp (rIx K) (tVar n) t2)),λi=>by
  have z:=zi7 (pos:=p1) (zgc (X:=X i)) (zaf (pos:=px) (hN i) (hv i) hd hcd) (q2 i) hs;rw[C.hK] at z;have h:=zcz (tg:=tg) (zmu (pos:=pos) (q i) (q1 i) z);rw[C.hK] at h
  exact h,λj=>zo3 (d j) (zj9 (zho (d1 j))) (zsg (d2 j))⟩
theorem z3x(i:Nat)(h:S3 K X O st g):S3 K X O st (zw1 i g):=let ⟨t,p,d⟩:=h;⟨t,p,λj=>zxw (d j)⟩
end
section
variable {K:Qa}{O:Ob}
theorem OwAll.snoc1{d:G7}{bs:List Addr}(o:Ow K H v d bs):∀{vs:List V} {ds:List G7} {as:List Addr},OwAll K H vs ds as->OwAll K H (vs ++ [v]) (ds ++ [d]) (as++bs)
 | _,_,_,.nil=>by
   have z:OwAll K H [v] [d] (bs ++ []):=.cons o .nil;rw[QD] at z;exact z
 | _,_,_,.cons x t=>by
   rw[Qv];exact .cons x (OwAll.snoc1 o t)
def zxi(h:Nat)(f:DI)(g:DG):DOw:=λρ Q=>f ρ λ_ ds=>ds.length<=1000/\(∀d∈ds,g d (Qt h none++ρ) λ_=>True)/\Q (.list (Qt ds.length (.list [])))
theorem zx0{h:Nat}(hs:SrcS K O wi f)(hg:∀O':Ob,GS K O' tg g):EOw K O (zdl h wi tg tYes (tLst tNil)) (zxi h f g):=by
 intro σ H ρ Q Qd S hq k;have sz:=GE;refine hs σ H ρ _ _ S hq λJ H1 ds B fr W _ ⟨lz,gg,q⟩ D hD=>?_;have S1:=S.stp W.st;have nM:¬O.M D:=zbl S.ok S1.p hD;refine⟨λi m ys H2=>m=ds.length-i/\i<=ds.length/\H2 D=some (.lst ys)/\ys.length=i/\Stp O H1 H2/\∃as:List Addr,as.Nodup/\OwAll K H2 ys (Qt i (.list [])) as/\∀a∈as,H1 a=QP/\a≠D,⟨ds.length,rfl,QI _,zad,rfl,.new S.ok hD _,[],.nil,.nil,λ_ z=>nomatch z⟩,?_⟩;rintro i m ys H2 ⟨rfl,hi,hDy,ly,st,as,nd,ow,new⟩;refine⟨hDy,?_⟩;have kB:∀a o,B a->H1 a=some o->H2 a=some o:=λa o b e=>st.s a o e (W.hb a b).1
 by_cases hlt:i<ds.length
 .right;have hd:ds[i]? = some ds[i]:=Qb hlt;obtain⟨hgo1,hy⟩:=W.item H2 i ds[i] kB st.t hd (.inr λa o e n=>st.s a o e n);refine⟨hgo1,λx H3 y=>?_⟩;obtain⟨sm,ix⟩:=hy x H3 y;have st3:Stp O H1 H3:=st.trans (.same S.ok sm);refine hg O _ H3 _ x ds[i] _ _ (zhv (S1.stp st3) h) (ix.weak λa ha=>ha.1) (gg _ (Zi hlt)) λσ2 ρ2 Sg _=>?_;unfold tYes;dsimp only;rw[ND rfl];refine⟨QI _,λp hp=>?_⟩;have hD3:H3 D=some (.lst ys):=sm D _ hDy;have pD:D≠p:=λz=>by rw[<- z,hD3] at hp;cases hp
  have p1:H1 p=QP:=by
   have nmp:¬O.M p:=zbl S.ok (st3.p S1.p) hp;exact st3.s.free nmp hp
  have P3:O.P H3:=st3.p S1.p;have nmp:¬O.M p:=zbl S.ok P3 hp
  have e5:∀a u,H3 a=some u->a≠D->upd (upd H3 p (.lst [])) D (.lst (ys ++ [.ref p])) a=some u:=λa u e n=>by
   rw[zaa n,zaa λz=>by rw[z,hp] at e;cases e];exact e
  refine⟨by rw[zaa pD];exact hD3,by lia,ds.length-(i+1),by lia,rfl,hlt,zad,by rw[Ql,ly];rfl,⟨λa o e n=>e5 a o (st3.s a o e n) λz=>(by rw[z,hD] at e;cases e),λ_=>S.ok.loc H3 _ (λa ma=>by rw[zaa λz=>nM (by rw[<- z];exact ma),zaa λz=>nmp (by rw[<- z];exact ma)]) P3,λa u hu e=>e5 a u (st3.t a u hu e) λz=>(by rw[z,hD] at e;cases e)⟩,as ++ [p],?_,?_,λa ha=>?_⟩
  .refine ZE.mpr ⟨nd,by simp,λa ha b hb e=>?_⟩;obtain⟨xs,z⟩:=ow.mem ha;rw[Qm.mp hb] at e;have:=sm a _ z;rw[e,hp] at this;cases this
  .rw[List.replicate_succ'];refine OwAll.snoc1 (.list (by rw[zaa (ZC pD)];exact zad) .nil) (ow.to (λb u hu hb=>e5 b u (sm b u hb) λz=>?_) λa m xs q=>e5 a _ (sm a _ q) (new a m).2);rw[z,hDy] at hb;cases hb;obtain⟨us,e1|⟨o',e1⟩⟩:=hu <;> cases e1
  .rcases Q7.mp ha with ha|ha
   .exact new a ha
   .rw[Qm.mp ha];exact⟨p1,ZC pD⟩
 .left;have e:i=ds.length:=by lia
  subst e;have fr:∀a,H1 a=QP->¬O.M a:=λa z=>zbl S.ok S1.p z;refine⟨W.stop H2 _ kB st.t (Qg _),k (.ref D) H2 _ (D::as) (W.st.trans st) (.list hDy ow) (QQ.mpr ⟨λz=>(new D z).2 rfl,nd⟩) (λa ha=>?_) q⟩;rcases Qs.mp ha with rfl|ha
  .exact W.st.s.free nM hD
  .exact W.st.s.free (fr a (new a ha).1) (new a ha).1
end
section
variable {ι κ:Type}{P:GB}{w:GD}{K:Qa}{mg:Str->Option G5}{base:Heap}{k:Nat}{X:ι->Cx}{O:κ->Ob}{pos pl:Pos}{tg:Expr}
theorem znh(n:Nat){iter:Expr}{scope:GV}(h:Nat)(N':List Str)(C:Ctx3 P w K mg base k X)(S:∀i,ScopeOk h N' (X i).N scope (X i).env.scope)(hs:I3 K X O tg iter fi)
 (hg:G3 K (zf0 X scope N') h tg g) (hN:∀i,(X i).N.Nodup:=by intro i;exact NF (by kernel_rfl)) (hi:∀i,(X i).N[n]? = some x:=by intro i;rfl) (hx:∀i,(X i).env.scope.names.lookup x=some .local:=by intro i;rfl)
 (hsw:∀i,Tj (.ListComp (.List [] pl) [⟨tg,iter,[],0⟩] scope p0) (some (.Name x px)) pos.line (X i).env=pure true:=by intro i;rfl) (hset:∀i x,Te iter (X i).env x=pure x:=by intro _ _;rfl) :
 S3 K X O (.Assign [.Name x px] (.ListComp (.List [] pl) [⟨tg,iter,[],0⟩] scope p0) pos) (zl3 n (zxi h fi g)):=by
 obtain⟨ti,p1,d1⟩:=hs;obtain⟨tg',p2,d2,_,ow⟩:=hg;exact⟨_,λi=>zfc (hN i) (hi i) (hx i) (hsw i) h (S i) (C.calm i) (p1 i) (λc s H ex=>p2 (i,⟨c,s,H,ex⟩)) ow (λc s H ex=>zgi) (λc s H ex=>zst zbf) (hset i),λj=>zju (zx0 (d1 j) d2)⟩
end
def goOw(h:Nat)(g:DG)(fo:DOw)(ρ:DSt)(Q:G7->Prop):List G7->List G7->Prop
 | [],acc=>Q (.list acc)
 | d::ds,acc=>g d (Qt h none++ρ) λρ2=>fo ρ2 λx=>acc.length<sizeLine/\goOw h g fo ρ Q ds (acc ++ [x])
def zr3(h:Nat)(f:DI)(g:DG)(fo:DOw):DOw:=λρ Q=>f ρ λ_ ds=>goOw h g fo ρ Q ds []
section
variable {K:Qa}{O:Ob}
theorem zru(ok:O.Ok)(S5:Seen K (O.plus D (.lst ys)) H5 σ ρ)(p5:O.P (upd H5 D (.lst zs)))(hD5:H5 D=some (.lst ys)):Seen K (O.plus D (.lst zs)) (upd H5 D (.lst zs)) σ ρ:=by
 have mv:∀a u,unM (O.plus D (.lst ys)) a->H5 a=some u->unM (O.plus D (.lst zs)) a/\upd H5 D (.lst zs) a=some u:=λa u fa qa=>⟨fa,by rw[zaa λz=>fa (.inr z)];exact qa⟩
 have ts:TupStay H5 (upd H5 D (.lst zs)):=λb u hu hb=>by
  rw[zaa λz=>?_]
  .exact hb
  .obtain⟨us,e1|⟨o',e1⟩⟩:=hu <;> (rw[z,hD5] at hb;cases hb;cases e1)
 refine⟨ok.plus D _,⟨p5,zad⟩,λj r' e=>?_,S5.len⟩;obtain⟨v',h1,h2⟩:=S5.at_ j r' e;refine⟨v',h1,?_⟩
 cases r' with
 | im d=>exact Is.to (λa xs f q=>mv a _ f q) (λa xs q=>SqT.stay (h:=q) ts) h2
 | own es=>exact Is.to (λa xs f q=>mv a _ f q) (λa xs q=>SqT.stay (h:=q) ts) h2
 | ob=>exact h2
 | scr n=>exact IsS.to mv h2
 | dct ks=>obtain⟨a,fa,h2⟩:=h2;exact⟨a,fa,h2.to λu qa=>(mv a u fa qa).2⟩
 | gen f ds=>obtain⟨a,xs,e,fa,q,z⟩:=h2;exact⟨a,xs,e,fa,(mv a _ fa q).2,z.to (λa xs f q=>mv a _ f q) λa xs q=>SqT.stay (h:=q) ts⟩
 | rd f ds=>obtain⟨a,xs,e,fa,q,z⟩:=h2;exact⟨a,xs,e,fa,(mv a _ fa q).2,z.to (λa xs f q=>mv a _ f q) λa xs q=>SqT.stay (h:=q) ts⟩
 | exc C ns ds=>obtain⟨xs,e,z⟩:=h2;exact⟨xs,e.to mv,z.to (λa xs f q=>mv a _ f q) λa xs q=>SqT.stay (h:=q) ts⟩
 | thg T=>obtain⟨W,hw,z⟩:=h2;exact⟨W,λa w=>⟨(hw a w).1,let ⟨o,q⟩:=(hw a w).2;⟨o,(mv a o (hw a w).1 q).2⟩⟩,T.to mv (λa u w q=>⟨w,(mv a u (hw a w).1 q).2⟩) ts z⟩
 | thr T=>obtain⟨W,hw,z⟩:=h2;exact⟨W,λa w=>⟨(hw a w).1,let ⟨o,q⟩:=(hw a w).2;⟨o,(mv a o (hw a w).1 q).2⟩⟩,T.to mv (λa u w q=>⟨w,(mv a u (hw a w).1 q).2⟩) ts z⟩
theorem zzf{h:Nat}(hs:SrcS K O wi f)(hg:∀O':Ob,GS K O' tg g)(he:∀(D:Addr) (xs:List V),¬O.M D->EOw K (O.plus D (.lst xs)) te fo):EOw K O (zdl h wi tg tYes te) (zr3 h f g fo):=by
 intro σ H ρ Q Qd S hq k;refine hs σ H ρ _ _ S hq λJ H1 ds B fr W _ hgo D hD=>?_;have S1:=S.stp W.st;have nM:¬O.M D:=zbl S.ok S1.p hD;have aD:∀a o,H1 a=some o->a≠D:=λa o e z=>by rw[z,hD] at e;cases e
 refine⟨λi m ys H2=>m=ds.length-i/\i<=ds.length/\H2 D=some (.lst ys)/\(∀a o,H1 a=some o->¬O.M a->H2 a=some o)/\TupStay H1 H2/\Seen K (O.plus D (.lst ys)) H2 σ ρ /\
  ∃acc as,(as:List Addr).Nodup/\OwAll K H2 ys acc as/\(∀a∈as,H1 a=QP/\a≠D)/\goOw h g fo ρ Qd (ds.drop i) acc,⟨ds.length,rfl,QI _,zad,λa o e _=>by rw[zaa (aD a o e)];exact e,λa u _ e=>by rw[zaa (aD a u e)];exact e,zlj S1 hD,[],[],.nil,.nil,λ_ z=>(Zk z).elim,by simpa using hgo⟩,?_⟩
 rintro i m ys H2 ⟨rfl,hi,hDy,kp,tst,S2,acc,as,nd,ow,new,go⟩;refine⟨hDy,?_⟩;have kB:∀a o,B a->H1 a=some o->H2 a=some o:=λa o b e=>kp a o e (W.hb a b).1
 by_cases hlt:i<ds.length
 .right;have hd:ds[i]? = some ds[i]:=Qb hlt;rw[Zu hlt] at go;obtain⟨hgo1,hy⟩:=W.item H2 i ds[i] kB tst hd (.inr kp);refine⟨hgo1,λx H3 y=>?_⟩;obtain⟨sm,ix⟩:=hy x H3 y;have st3:Stp (O.plus D (.lst ys)) H2 H3:=.same S2.ok sm;have S3:=S2.stp st3
  have ix':Is K (unM (O.plus D (.lst ys))) H3 x ds[i]:=by
   by_cases hfl:flat ds[i]=true
   .exact Is.flat (TupStay.refl H3) ix hfl
   .exact ix.weak λa ha mm=>by
     rcases mm with mm|mm
     .exact ha.1 mm
     .rcases ha.2 with z|⟨o,z⟩
      .exact hfl z
      .exact aD a o z mm
  refine hg _ _ H3 _ x ds[i] _ _ (zhv S3 h) ix' go λσ2 ρ2 Sg q=>?_;unfold tYes;dsimp only;rw[ND rfl];refine he D ys nM σ2 H3 ρ2 _ _ Sg q λyv H5 d5 as5 st5 o5 n5 f5 zz=>?_;obtain⟨hz,q5⟩:=zz;have st25:=st3.trans st5;have S5:=S2.stp st25;have hD5:H5 D=some (.lst ys):=(st25.p S2.p).2;have m5:∀a∈as5,¬(O.plus D (.lst ys)).M a:=λa m=>zbl Sg.ok Sg.p (f5 a m);have e5:∀a u,H5 a=some u->a≠D->upd H5 D (.lst (ys ++ [yv])) a=some u:=λa u e n=>by rw[zaa n];exact e
  have ts5:TupStay H5 (upd H5 D (.lst (ys ++ [yv]))):=λa u hu e=>e5 a u e λz=>by
   rw[z,hD5] at e;cases e;obtain⟨us,y|⟨o,y⟩⟩:=hu <;> cases y
  have w5:∀a∈as,∀xs,H2 a=some (.lst xs)->H5 a=some (.lst xs):=λa ha xs q=>st25.s a _ q λmm=>by
   rcases mm with mm|mm
   .exact zbl S.ok S1.p (new a ha).1 mm
   .exact(new a ha).2 mm
  have n5D:∀a∈as5,a≠D:=λa m z=>m5 a m (.inr z);refine⟨hD5,by rw[ow.length];exact hz,ds.length-(i+1),by lia,rfl,hlt,zad,λa o e n=>?_,λa u hu e=>?_,?_,acc ++ [d5],as++as5,?_,?_,λa ha=>?_,q5⟩
  .rw[zaa (aD a o e)]
   exact st25.s a o (kp a o e n) λmm=>by
    rcases mm with mm|mm
    .exact n mm
    .exact aD a o e mm
  .rw[zaa (aD a u e)];exact st25.t a u hu (tst a u hu e)
  .have p5:O.P (upd H5 D (.lst (ys ++ [yv]))):=S.ok.loc H5 _ (λa m=>zaa λz=>nM (z ▸ m)) S5.p.1;exact zru S.ok S5 p5 hD5
  .refine ZE.mpr ⟨nd,n5,λa ha b hb e=>?_⟩;subst e;obtain⟨xs,z⟩:=ow.mem ha;have:=sm a _ z;rw[f5 a hb] at this;cases this
  .exact OwAll.snoc1 (o5.to ts5 λa m xs q=>e5 a _ q (n5D a m)) (ow.to (λb u hu hb=>ts5 b u hu (st25.t b u hu hb)) λa m xs q=>e5 a _ (w5 a m xs q) (new a m).2)
  .rcases Q7.mp ha with ha|ha
   .exact new a ha
   .refine⟨?_,n5D a ha⟩
    cases z:H1 a with
    | none=>rfl
    | some o=>
      have nm:¬O.M a:=λm=>m5 a ha (.inl m);have:=sm a _ (kp a o z nm);rw[f5 a ha] at this;cases this
 .left;have e:i=ds.length:=by lia
  subst e;rw[Jv] at go;have st:Stp O H1 H2:=⟨λa o e n=>kp a o e n,λ_=>S2.p.1,tst⟩;refine⟨W.stop H2 _ kB tst (Qg _),k (.ref D) H2 _ (D::as) (W.st.trans st) (.list hDy ow) (QQ.mpr ⟨λz=>(new D z).2 rfl,nd⟩) (λa ha=>?_) go⟩;rcases Qs.mp ha with rfl|ha
  .exact W.st.s.free nM hD
  .exact W.st.s.free (zbl S.ok S1.p (new a ha).1) (new a ha).1
def spGW(K:Qa)(φ:Ob->Prop)(n:Nat)(f:List DV->(G7->Prop)->Prop):Sp:=λvs H Q _=>
 ∃(O:Ob) (rs:List DV) (Qd:G7->Prop),O.Ok/\φ O/\O.P H/\rs.length=n/\Args K O H vs rs/\f rs Qd/\∀d v (as:List Addr) H',Qd d->Stp O H H'->Ow K H' v d as->as.Nodup->(∀a∈as,H a=QP)->Q v H'
theorem zvi{φ:Ob->Prop}{n:Nat}{f:List DV->(G7->Prop)->Prop}{ps:List Str}(hn:ps.length=n):∀vs H Q E,spGW K φ n f vs H Q E->vs.length=ps.length:=λvs H Q E zz=>by obtain⟨O,rs,_,_,_,_,h,is,_⟩:=zz;rw[is.length,h,hn]
def SDw(K:Qa)(O:Ob)(t:TS)(g:(G7->Prop)->DSt->Prop):Prop:=∀(H₀:Hp) (A:Nat->Addr->Prop) (σ:St) (H:Hp) (ρ:DSt) (R:VK) (Qd:G7->Prop) (Nx:St->Hp->Prop),Rep K O H₀ A H σ ρ->g Qd ρ->(∀d v (as:List Addr) H',Qd d->Stp O H₀ H'->Ow K H' v d as->as.Nodup->(∀a∈as,H₀ a=QP)->R v H')->t { nx:=Nx,rt:=R } σ H
theorem zye{m:Nat}:SDw K O (tRet (tVar m)) (λQd ρ=>∃d,ρ[m]? = some (some (.thg (OwnT d)))/\Qd d):=λH₀ A σ H ρ R Qd Nx r ⟨d,e,q⟩ k=>by
 obtain⟨v,hv,_,as,nd,w,o⟩:=r.at_ m _ e;exact⟨_,hv,k d v as H q r.st o nd λa ha=>(r.own m a (w a ha)).1⟩
theorem zva(h:SD K O t g1)(h':SDw K O u g2):SDw K O (tSeq t u) (λQd ρ=>g1 { nx:=g2 Qd,rt:=λ_=>False } ρ):=λH₀ A σ H ρ R Qd Nx r q k=>by
 refine h H₀ A σ H ρ _ _ r q ⟨λA' σ' H' ρ' r' _ q'=>?_,λ_ _ _ _ _ _ z=>z.elim,λ_ _ _ _ _ _ z=>z.elim,λ_ _ _ _ _ z=>z.elim⟩;exact h' H₀ A' σ' H' ρ' R Qd Nx r' q' k
def zxm(K:Qa)(φ:Ob->Prop)(cap:List (Nat×Addr))(n:Nat)(F:List DV->(G7->Prop)->Prop)(gg:DGA):DOw:=λρ Q=>gg ρ λrs=>∃rs',M4 (zl1 K φ cap ρ) rs rs'/\rs'.length=n/\F rs' Q
theorem zvw{n:Nat}(hφ:φ O)(h:AG K O t g):EOw K O (znj (spGW K φ n F) cap t) (zxm K φ cap n F g):=λσ H ρ Q Qd S q kk=>by
 refine h σ H ρ _ _ S q λvs H1 rs s1 is ⟨rs',hp,hn,q1⟩ hfr oc hoc=>?_;have S1:=S.stp s1;have hA:∀b∈cap.map (·.2),H1 b=QP:=λb hb=>by obtain⟨p,hp,rfl⟩:=Qp.mp hb;exact hfr p hp
 have sm:Stp O H1 (addC (cap.map (·.2)) oc H1):=.same S.ok (znw hA)
 have nm:∀b,O.M b->b ∉ cap.map (·.2):=λb m z=>by
  obtain⟨o,y⟩:=S.ok.here H1 b S1.p m;rw[hA b z] at y;cases y
 refine⟨O,rs',Qd,S.ok,hφ,sm.p S1.p,hn,zk2 hφ S1 hfr hoc sm is hp,q1,λd v as H' qd s2 o nd f=>?_⟩;have fz:∀b∈cap.map (·.2),H' b=some (.frz (oc b) (.own 1)):=λb hb=>s2.s b _ (zex hb) λm=>nm b m hb
 have out:∀a u,H' a=some u->(∀o,u≠.frz o (.own 1))->cutC (cap.map (·.2)) H' a=some u:=λa u e n=>by
  rw[zak λz=>by rw[fz a z] at e;cases e;exact n _ rfl];exact e
 have tsC:TupStay H' (cutC (cap.map (·.2)) H'):=λa u hu e=>out a u e λo z=>by
  obtain⟨xs,y|⟨o',y⟩⟩:=hu <;> (rw[z] at y;cases y)
 have st:Stp O H (cutC (cap.map (·.2)) H'):=s1.trans ⟨λa o e n=>by
  have na:a ∉ cap.map (·.2):=λz=>by rw[hA a z] at e;cases e
  rw[zak na];exact s2.s a o ((za1 na).trans e) n,λp=>S.ok.loc H' _ (λa m=>zak (nm a m)) (s2.p (sm.p p)),λa u hu e=>tsC a u hu (s2.t a u hu (sm.t a u hu e))⟩
 refine kk v _ d as st (o.to tsC λa _ xs q=>out a _ q λo z=>by cases z) nd (λa ha=>?_) qd;have z:=f a ha;have na:a ∉ cap.map (·.2):=λy=>by rw[zex y] at z;cases z
 have z1:H1 a=QP:=(za1 na).symm.trans z;exact s1.s.free (zbl S.ok S1.p z1) z1
def ixOw(f1:DOw)(f2:DE):DE:=λρ Q=>f1 ρ λd=>f2 ρ λr=>∃(z:Int) (ds:List G7) (k:Nat) (es:List G7),r.d = .int z/\d = .list ds/\ixN ds.length z=some k/\ds[k]? = some (.list es)/\flats es=true/\Q (.n es)
theorem z0r{d:G7}(o:Ow K H2 v (.list es) cs)(f:flats es=true):∃a xs,v = .ref a/\a∈cs/\H2 a=some (.lst xs)/\IsAll K (unM O) H2 xs es:=by
 cases o with
 | leaf f _=>exact absurd f zbp
 | @list a xs _ as q r=>exact⟨a,xs,rfl,by simp,q,(IsAll.flats (F:=λ_=>True) (TupStay.refl _) (r.is λ_ _=>trivial) f)⟩
theorem zzr(h1:EOw K O t1 f1)(h2:ED K O t2 f2):ED K O (tOp (rIx K) t1 t2) (ixOw f1 f2):=λσ H ρ Q Qd S hf k=>by
 refine h1 σ H ρ _ _ S hf λv H1 d as s1 o1 n1 f1 q0=>?_;refine h2 σ H1 ρ _ _ (S.stp s1) q0 λy H2 r s2 o2 zz=>?_;obtain⟨z,ds,j,es,er,ed,ix,he,fl,q⟩:=zz;have p1:=s1.p S.p;have nm:∀a∈as,¬O.M a:=λa m=>zbl S.ok S.p (f1 a m);have oo:=zjh s2 nm o1;have iy:=o2.is S.ok p1;rw[er] at iy;cases iy;subst ed
 cases oo with
 | leaf fz _=>exact absurd fz zbp
 | @list a xs ds' as' q1 r1=>
   obtain⟨w,cs',rest,g1,g2,g3,_⟩:=r1.at he;refine .inl ⟨a,xs,z,w,rfl,rfl,.of q1,?_,?_⟩
   .unfold atI;rw[r1.length,ix];exact g1
   .obtain⟨b,ys,rfl,hb,e1,e2⟩:=z0r (O:=O) (d:=.none) g2 fl;exact k _ H2 (.n es) (s1.trans s2) ⟨b,ys,rfl,f1 b (Qe _ (g3.mem_iff.mpr (QC _ hb))),e1,e2⟩ q
end
section
variable {ι κ:Type}{P:GB}{w:GD}{K:Qa}{mg:Str->Option G5}{base:Heap}{k:Nat}{X:ι->Cx}{O:κ->Ob}{pos pl:Pos}{tg a b:Expr}{es:List Expr}{st:Stmt}{sts:List Stmt}{x:Str}{p:Pos}
theorem zux(n:Nat){iter:Expr}{scope:GV}(h:Nat)(N':List Str)(C:Ctx3 P w K mg base k X)(S:∀i,ScopeOk h N' (X i).N scope (X i).env.scope)(hs:I3 K X O tg iter fi)
 (hg:G3 K (zf0 X scope N') h tg g) (he:Eo3 K (zf0 X scope N') (zp1 O) elt fo) (hN:∀i,(X i).N.Nodup:=by intro i;exact NF (by kernel_rfl)) (hi:∀i,(X i).N[n]? = some x:=by intro i;rfl) (hx:∀i,(X i).env.scope.names.lookup x=some .local:=by intro i;rfl)
 (hsw:∀i,Tj (.ListComp elt [⟨tg,iter,[],0⟩] scope p0) (some (.Name x px)) pos.line (X i).env=pure true:=by intro i;rfl) (hset:∀i x,Te iter (X i).env x=pure x:=by intro _ _;rfl) :
 S3 K X O (.Assign [.Name x px] (.ListComp elt [⟨tg,iter,[],0⟩] scope p0) pos) (zl3 n (zr3 h fi g fo)):=by
 obtain⟨ti,p1,d1⟩:=hs;obtain⟨tg',p2,d2,_,ow⟩:=hg;obtain⟨te,p4,d4⟩:=he;exact⟨_,λi=>zfc (hN i) (hi i) (hx i) (hsw i) h (S i) (C.calm i) (p1 i) (λc s H ex=>p2 (i,⟨c,s,H,ex⟩)) ow (λc s H ex=>zgi) (λc s H ex=>p4 (i,⟨c,s,H,ex⟩)) (hset i),λj=>zju (zzf (d1 j) d2 λD xs nm=>d4 ⟨(j,(D,xs)),nm⟩)⟩
def Sw3(K:Qa)(X:ι->Cx)(O:κ->Ob)(s:List Stmt)(g:(G7->Prop)->DSt->Prop):Prop:=∃t,(∀i,PSs (X i) s t)/\∀j,SDw K (O j) t g
theorem z5t(m:Nat)(hN:∀i,(X i).N[m]? = some x:=by intro i;rfl)(hv:∀i,Vis (X i).env.scope x:=by intro i;first|exact Or.inl rfl|exact Or.inr (Or.inl rfl)|exact Or.inr (Or.inr rfl))(hd:(x == ("__debug__" : Str))=false:=by decide)(hcd:(x == ("__classdict__" : Str))=false:=by decide):
 Sw3 K X O [.Return (some (.Name x p)) pos] (λQd ρ=>∃d,ρ[m]? = some (some (.thg (OwnT d)))/\Qd d):=⟨_,λi=>zcm (zd7 (zaf (hN i) (hv i) hd hcd)),λj=>zye⟩
theorem zno(h:S3 K X O st g1)(h':Sw3 K X O sts g2):Sw3 K X O (st::sts) (λQd ρ=>g1 { nx:=g2 Qd,rt:=λ_=>False } ρ):=let ⟨_,p,d⟩:=h;let ⟨_,p2,d2⟩:=h';⟨_,λi=>za7 (p i) (p2 i),λj=>zva (d j) (d2 j)⟩
theorem zzy(cap:List (Nat×Addr)){k' n:Nat}(C:Ctx3 P w K mg base k X)(D:Def3 P w K mg base k' x ps (spGW K φ n F))(hφ:∀j,φ (O j))(hcap:∀i,∀p∈cap,zq7 (X i) p)(ha:AG3 K X O (a::es) ga)(hk:k'<=k:=by decide)(hg:∀i,Gl (X i) x:=by intro i;rfl)
 (hdb:(x == ("__debug__" : Str))=false:=by decide) (he:∀i,GC (a::es) (X i).env=(false,eval a (X i).env)::GC es (X i).env:=by intro i;rfl) (hpl:∀i,(Tk pos (GC es (X i).env)).any (·.1)=false:=by intro i;rfl):Eo3 K X O (.Call (.Name x p) (a::es) [] pos) (zxm K φ cap n F ga):=by
 obtain⟨f,fd,G,m,kp,bn⟩:=D.ex;obtain⟨t,q,d⟩:=ha;refine⟨znj (spGW K φ n F) cap t,λi=>?_,λj=>zvw (hφ j) (d j)⟩;have G':FnOk (X i).prog (X i).w (X i).K (X i).mg (X i).base CX0 k f fd ps (spGW K φ n F):=by rw[C.hP,C.hw,C.hK,C.hmg,C.hb];exact G.mono hk
 exact zv2 G' (C.room i) (hg i) (by rw[C.hmg];exact m) (by rw[C.hK];exact kp) (by rw[C.hK];exact bn) (q i) (hcap i) hdb (he i) (hpl i)
theorem z0q(C:Ctx3 P w K mg base k X)(ha:Eo3 K X O a fo)(hb:E3 K X O b fb)(hs:zdz b:=by intro _ _;rfl):E3 K X O (.Subscript a b pos) (ixOw fo fb) :=
 let ⟨_,p1,d1⟩:=ha;let ⟨_,p2,d2⟩:=hb;⟨tOp (rIx K) _ _,λi=>by have h:=zi7 (pos:=pos) (zgc (X:=X i)) (p1 i) (p2 i) hs;rw[C.hK] at h;exact h,λj=>zzr (d1 j) (d2 j)⟩
end
section
variable {P:GB}{w:GD}{K:Qa}{mg:Str->Option G5}{base:Heap}{k n:Nat}{x:Str}{st:Stmt}{N ps:List Str}{φ:Ob->Prop}{F:List DV->(G7->Prop)->Prop}
theorem z5h(T:Top3 K mg x st)(S:FnScope N ps (zab st))(hb:∀(kV doc pm:G5) (an:Option Addr) (cdv ct:G5) (us:List G5),us.length=ps.length->Tn (Z2 x x (zbk st) (zan st) (zab st) .none kV doc pm an cdv ct) ⟨us,[]⟩=pure (ps.zip us))(hn:ps.length=n)
 (body:∀(f:Addr) (cdv:G5) (A:GF) (outer:List Env) (s:G8) (H:Hp) (E:XK) (O:Ob),φ O->Ctx3 P w K mg base k (za3 P w K mg base N x (zab st) f cdv A outer s H E) ->
  ∃g,Sw3 K (za3 P w K mg base N x (zab st) f cdv A outer s H E) (λ_:Unit=>O) (zan st) g/\∀rs Qd,rs.length=n->F rs Qd->g Qd (zbr N rs)):Def3 P w K mg base (k+1) x ps (spGW K φ n F):=by
 obtain⟨f,fd,Fu,m⟩:=T.ex;refine⟨f,fd,Fu.ok S (zvi hn) (λcdv A outer s H vs Q E hr h=>?_),m,Fu.kp,Fu.binds hb⟩;obtain⟨O,rs,Qd,ok,hφ,p,hl,is,q,kk⟩:=h;obtain⟨g,⟨t,h1,h2⟩,h3⟩:=body f cdv A outer s H E O hφ (zc3 hr);exact⟨t,h1 (),h2 () H _ _ H _ Q Qd _ (ziv ok p is) (h3 rs Qd hl q) λd v as H' qd s2 o nd f=>kk d v as H' qd s2 o nd f⟩
end
section
variable {K:Qa}{O:Ob}{H₀ H:Hp}{A:Nat->Addr->Prop}{σ:St}{ρ:DSt}
theorem Rep.mov{n m:Nat}(r:Rep K O H₀ A H σ ρ)(e:ρ[m]? = some (some (.thg T)))(hv:σ[m]? = some (some v))(ne:n≠m):
 Rep K O H₀ (λj b=>(j≠n/\j≠m/\A j b)\/(j=n/\A m b)) H (σ.set n (some v)) ((ρ.set m QP).set n (some (.thg T))):=by
 have un:∀b,unO O A b->unO O (λj b=>(j≠n/\j≠m/\A j b)\/(j=n/\A m b)) b:=λb f=>⟨f.1,λj z=>by
  rcases z with z|z
  .exact f.2 j z.2.2
  .exact f.2 m z.2⟩
 have tF:∀b u,unO O A b->H b=some u->unO O (λj b=>(j≠n/\j≠m/\A j b)\/(j=n/\A m b)) b/\H b=some u:=λb u f q=>⟨un b f,q⟩;have mv:∀{v d},Is K (unO O A) H v d->Is K (unO O (λj b=>(j≠n/\j≠m/\A j b)\/(j=n/\A m b))) H v d:=λz=>z.weak un;have mvs:∀{v d},IsAll K (unO O A) H v d->IsAll K (unO O (λj b=>(j≠n/\j≠m/\A j b)\/(j=n/\A m b))) H v d:=λz=>z.weak un;obtain⟨v',hv',hT⟩:=r.at_ m _ e;rw[hv] at hv';cases hv';refine⟨r.ok,r.p,r.p0,r.st,λj k b x y=>?_,λj b x=>?_,λj x ex=>?_,by rw[QV,QV,QV];exact r.len⟩
 .rcases x with x|x <;> rcases y with y|y
  .exact r.dis j k b x.2.2 y.2.2
  .exact absurd (r.dis j m b x.2.2 y.2) x.2.1
  .exact absurd (r.dis k m b y.2.2 x.2) y.2.1
  .exact x.1.trans y.1.symm
 .rcases x with x|x
  .exact r.own j b x.2.2
  .exact r.own m b x.2
 .by_cases hj:n=j
  .subst hj
   have hi:n<(ρ.set m QP).length:=by
    rcases Zx n (ρ.set m QP).length with z|z
    .exact z
    .rw[Q0 (by rw[QV];exact z)] at ex;cases ex
   rw[Q3 hi] at ex;cases ex;exact⟨v,Q3 (by rw[QV] at hi;have:=r.len;lia),T.to (λb u f q=>tF b u f q) (λb u w q=>⟨.inr ⟨rfl,w⟩,q⟩) (TupStay.refl _) hT⟩
  .rw[QB hj] at ex
   have hjm:m≠j:=λz=>by
    subst z;rcases Zx m ρ.length with z|z
    .rw[Q3 z] at ex;cases ex
    .rw[Q0 (by rw[QV];exact z)] at ex;cases ex
   rw[QB hjm] at ex;obtain⟨w,h1,h2⟩:=r.at_ j x ex;have aj:∀b,A j b->(j≠n/\j≠m/\A j b)\/(j=n/\A m b):=λb z=>.inl ⟨λz=>hj z.symm,λz=>hjm z.symm,z⟩;refine⟨w,by rw[QB hj];exact h1,?_⟩
   cases x with
   | im d=>exact mv h2
   | own es=>obtain⟨b,ys,e,hb,hlb,hs⟩:=h2;exact⟨b,ys,e,aj b hb,hlb,mvs hs⟩
   | ob=>exact h2
   | scr n=>exact IsS.to (λb u f q=>tF b u f q) h2
   | dct ks=>obtain⟨b,hb,h2⟩:=h2;exact⟨b,aj b hb,h2⟩
   | gen f ds=>obtain⟨b,xs,e,hb,q,z⟩:=h2;exact⟨b,xs,e,aj b hb,q,mvs z⟩
   | rd f ds=>obtain⟨b,xs,e,hb,q,z⟩:=h2;exact⟨b,xs,e,un b hb,q,mvs z⟩
   | exc C ns ds=>obtain⟨xs,e,z⟩:=h2;exact⟨xs,e.to λb u f q=>tF b u f q,mvs z⟩
   | thg T=>exact T.to (λb u f q=>tF b u f q) (λb u w q=>⟨aj b w,q⟩) (TupStay.refl _) h2
   | thr T=>obtain⟨W',hw,z⟩:=h2;exact⟨W',λb w=>let ⟨f,o⟩:=hw b w;⟨un b f,o⟩,T.to (λb u f q=>tF b u f q) (λb u w q=>⟨w,q⟩) (TupStay.refl _) z⟩
def movT(n m:Nat):DS:=λDd ρ=>∃T,ρ[m]? = some (some (.thg T))/\Dd.nx ((ρ.set m QP).set n (some (.thg T)))
theorem zyk{n m:Nat}(ne:n≠m):SD K O (tAsg (tVar m) (zax n)) (movT n m):=λH₀ A σ H ρ D Dd r q P=>by
 obtain⟨T,e,q⟩:=q;obtain⟨v,hv,_⟩:=r.at_ m _ e;refine⟨v,hv,?_⟩;refine P.nx _ _ _ _ (r.mov e hv ne) (λb o e u=>⟨e,u.1,λj z=>?_⟩) q;rcases z with z|z
 .exact u.2 j z.2.2
 .exact u.2 m z.2
end
section
variable {ι κ:Type}{P:GB}{w:GD}{K:Qa}{mg:Str->Option G5}{base:Heap}{k:Nat}{X:ι->Cx}{O:κ->Ob}{st:Stmt}{g:DS}{pos px py p1 p2 p3:Pos}{x y:Str}{a b tg:Expr}{fa fb:DE}{v:Bool}{j:Nat}
theorem z2d(n m:Nat)(ne:n≠m:=by decide)(hN:∀i,(X i).N.Nodup:=by intro i;exact NF (by kernel_rfl))(hi:∀i,(X i).N[n]? = some x:=by intro i;rfl)(hx:∀i,Loc (X i).env.scope x:=by intro i;first|exact Or.inl rfl|exact Or.inr rfl)
 (hN2:∀i,(X i).N[m]? = some y:=by intro i;rfl) (hv:∀i,Vis (X i).env.scope y:=by intro i;first|exact Or.inl rfl|exact Or.inr (Or.inl rfl)|exact Or.inr (Or.inr rfl)) (hd:(y == ("__debug__" : Str))=false:=by decide) (hcd:(y == ("__classdict__" : Str))=false:=by decide)
 (hs:∀i,Tj (.Name y py) (some (.Name x px)) pos.line (X i).env=pure false:=by intro i;rfl) (hf:∀i,(X i).fn x=true\/(X i).env.scope.names.lookup x=some .local:=by intro i;first|exact .inl rfl|exact .inr rfl):S3 K X O (.Assign [.Name x px] (.Name y py) pos) (movT n m) :=
 ⟨_,λi=>zb6 (hN i) (hi i) (hx i) (zaf (hN2 i) (hv i) hd hcd) (hs i) (hf i),λj=>zyk ne⟩
end
end L3
namespace L6
open PySem PyProof.Rows
def ze6:Bool->Tc->Array Tc->Nat->Nat->Nat->StateT GW Sem (Option Nat):=sortPriv% PySem.Builtin.gallop
section
variable {prog:GB}{w:GD}{A:GF}{E:G5->G8->Prop}{s:G8}{α:Type}{blt:α->α->Bool}{k:Nat->α}{a₀:Array Tc}{kd:Tg}{st:GW}
theorem lt_x{i j:Nat}(hC:za6 prog w A s kd a₀ blt k)(ki:kindOf st=kd)(gi:a₀[i]? = some x)(gj:a₀[j]? = some y)(h:Q (some (blt (k i) (k j))) st):wpS (model prog w) A E s (lt' x y) Q st:=by
 rw[lt'_eq];refine G9 (Th ?_);rw[ki];refine G9 (TW (Tt (hC i j x.1 x.2 y.1 y.2 _ _ gi gj ⟨rfl,?_⟩)));exact GA h
theorem za0{i:Nat}(e:arr[i]? = some x)(h:Q x st):wpS (model prog w) A E s (elem' arr i) Q st:=by
 rw[Nl,e];exact GA h
def Pg(blt:α->α->Bool)(k:Nat->α)(left:Bool)(L:Nat->Nat)(jk i:Nat):Bool:=if left then blt (k (L i)) (k jk) else !blt (k jk) (k (L i))
theorem zil{left:Bool}{base n hint jk:Nat}(hC:za6 prog w A s kd a₀ blt k)(ki:kindOf st=kd)(gk:a₀[jk]? = some key)(ga:∀i,i<n->∃x,arr[base+i]? = some x/\a₀[L i]? = some x)(mono:∀i j,i<j->j<n->Pg blt k left L jk j=true->Pg blt k left L jk i=true)(hh:hint<n)
 (h:∀p,p<=n->(∀i,i<p->Pg blt k left L jk i=true)->(∀i,p<=i->i<n->Pg blt k left L jk i=false)->Q (some p) st):wpS (model prog w) A E s (ze6 left key arr base n hint) Q st:=by
 have bey:∀(i:Nat) {R:Option Bool->GW->Prop},i<n->R (some (Pg blt k left L jk i)) st->wpS (model prog w) A E s (elem' arr (base+i) >>= λx=>if left=true then lt' x key else(do let r <- lt' key x;return r.map (!·))) R st:=λi R hi hr=>by
  obtain⟨x,e1,e2⟩:=ga i hi;refine G9 (za0 e1 ?_);unfold Pg at hr
  cases left with
  | true=>rw[ND rfl] at hr ⊢;exact lt_x hC ki e2 gk hr
  | false=>rw[NE Q6] at hr ⊢;exact G9 (lt_x hC ki gk e2 (GA hr))
 refine G9 (bey hint hh ?_);dsimp only
 cases h0:Pg blt k left L jk hint with
 | true=>
   rw[ND rfl]
   refine G9 (GY (GG (I:=λx c st2=>st=st2/\∃l o,c=(none,l,o)/\x<=o/\l<o/\(l=0\/hint+l<n)/\(∀i,i<=hint+l->i<n->Pg blt k left L jk i=true))
    (Q:=λc st2=>st=st2/\∃l o,c=(none,l,o)/\l<o/\(l=0\/hint+l<n)/\(∀i,i<=hint+l->i<n->Pg blt k left L jk i=true)/\∀i,hint+o<=i->i<n->Pg blt k left L jk i=false) ?tu ?ou ?bg) ?re)
   case bg=>exact⟨rfl,0,1,rfl,by lia,by lia,.inl rfl,λi hi hn=>by
    by_cases e:i=hint
    .subst e;exact h0
    .exact mono i hint (by lia) hh h0⟩
   case ou=>
    rintro c st2 ⟨rfl,l,o,rfl,z1,z2,z3,z4⟩;exact⟨rfl,l,o,rfl,z2,z3,z4,λi h1 h2=>by lia⟩
   case re=>
    rintro c st2 ⟨rfl,l,o,rfl,z2,z3,z4,z5⟩;dsimp only;have b1:hint+l+1<=hint+min o (n-hint):=by lia
    have b2:hint+min o (n-hint)<=n:=by lia
    have b3:∀i,i<hint+l+1->Pg blt k left L jk i=true:=λi hi=>z4 i (by lia) (by lia);have b4:∀i,hint+min o (n-hint)<=i->i<n->Pg blt k left L jk i=false:=λi h1 h2=>z5 i (by lia) h2
    refine G9 (GY (GG (I:=λx c st2=>st=st2/\∃l r,c=(none,l,r)/\l<=r/\r<=n/\r-l<=n-x/\(∀i,i<l->Pg blt k left L jk i=true)/\∀i,r<=i->i<n->Pg blt k left L jk i=false)
     (Q:=λc st2=>st=st2/\∃l r,c=(none,l,r)/\r<=n/\(∀i,i<r->Pg blt k left L jk i=true)/\∀i,r<=i->i<n->Pg blt k left L jk i=false) ?tu2 ?ou2 ?bg2) ?re2)
    case bg2=>exact⟨rfl,_,_,rfl,b1,b2,by lia,b3,b4⟩
    case ou2=>
     rintro c st2 ⟨rfl,l,r,rfl,z1,z2,z3,z4,z5⟩;have:l=r:=by lia
     subst this;exact⟨rfl,l,l,rfl,z2,z4,z5⟩
    case re2=>
     rintro c st2 ⟨rfl,l,r,rfl,z2,z4,z5⟩;exact GA (h r z2 z4 z5)
    case tu2=>
     rintro x c st2 _ hx ⟨rfl,l,r,rfl,z1,z2,z3,z4,z5⟩;dsimp only
     by_cases ge:l ≥ r
     .rw[ND ge];have:l=r:=by lia
      subst this;exact GA ⟨rfl,l,l,rfl,z2,z4,z5⟩
     .rw[NE ge];refine G9 (bey (l+(r-l) / 2) (by lia) ?_);dsimp only
      cases hP:Pg blt k left L jk (l+(r-l) / 2) with
      | true=>
        rw[ND rfl];refine GA ⟨rfl,l+(r-l) / 2+1,r,rfl,by lia,z2,by lia,λi hi=>?_,z5⟩
        by_cases e:i=l+(r-l) / 2
        .subst e;exact hP
        .exact mono i _ (show i<l+(r-l) / 2 by lia) (by lia) hP
      | false=>
        rw[NE Q6];refine GA ⟨rfl,l,l+(r-l) / 2,rfl,by lia,by lia,by lia,z4,λi h1 h2=>?_⟩
        by_cases e:i=l+(r-l) / 2
        .subst e;exact hP
        .cases hq:Pg blt k left L jk i with
         | false=>rfl
         | true=>rw[mono _ i (show l+(r-l) / 2<i by lia) h2 hq] at hP;cases hP
   case tu=>
    rintro x c st2 _ hx ⟨rfl,l,o,rfl,z1,z2,z3,z4⟩;dsimp only
    by_cases ge:o ≥ n-hint
    .rw[ND ge];exact GA ⟨rfl,l,o,rfl,z2,z3,z4,λi h1 h2=>by lia⟩
    .rw[NE ge];refine G9 (bey (hint+o) (by lia) ?_);dsimp only
     cases hP:Pg blt k left L jk (hint+o) with
     | true=>
       rw[NE (by decide)];refine GA ⟨rfl,o,2 * o+1,rfl,by lia,by lia,.inr (by lia),λi h1 h2=>?_⟩
       by_cases e:i=hint+o
       .subst e;exact hP
       .exact mono i _ (show i<hint+o by lia) (by lia) hP
     | false=>
       rw[ND (by decide)];refine GA ⟨rfl,l,o,rfl,z2,z3,z4,λi h1 h2=>?_⟩
       by_cases e:i=hint+o
       .subst e;exact hP
       .cases hq:Pg blt k left L jk i with
        | false=>rfl
        | true=>rw[mono _ i (show hint+o<i by lia) h2 hq] at hP;cases hP
 | false=>
   rw[NE Q6]
   refine G9 (GY (GG (I:=λx c st2=>st=st2/\∃l o,c=(none,l,o)/\x<=o/\l<o/\l<=hint/\(∀i,hint-l<=i->i<n->Pg blt k left L jk i=false))
    (Q:=λc st2=>st=st2/\∃l o,c=(none,l,o)/\l<o/\l<=hint/\(∀i,hint-l<=i->i<n->Pg blt k left L jk i=false)/\∀i,o<=hint->i<=hint-o->Pg blt k left L jk i=true) ?tu ?ou ?bg) ?re)
   case bg=>exact⟨rfl,0,1,rfl,by lia,by lia,by lia,λi hi hn=>by
    by_cases e:i=hint
    .subst e;exact h0
    .cases hq:Pg blt k left L jk i with
     | false=>rfl
     | true=>rw[mono hint i (by lia) hn hq] at h0;cases h0⟩
   case ou=>
    rintro c st2 ⟨rfl,l,o,rfl,z1,z2,z3,z4⟩;exact⟨rfl,l,o,rfl,z2,z3,z4,λi h1 h2=>by lia⟩
   case re=>
    rintro c st2 ⟨rfl,l,o,rfl,z2,z3,z4,z5⟩;dsimp only;have b1:hint+1-min o (hint+1)<=hint-l:=by lia
    have b2:hint-l<=n:=by lia
    have b3:∀i,i<hint+1-min o (hint+1)->Pg blt k left L jk i=true:=λi hi=>z5 i (by lia) (by lia);have b4:∀i,hint-l<=i->i<n->Pg blt k left L jk i=false:=z4
    refine G9 (GY (GG (I:=λx c st2=>st=st2/\∃l r,c=(none,l,r)/\l<=r/\r<=n/\r-l<=n-x/\(∀i,i<l->Pg blt k left L jk i=true)/\∀i,r<=i->i<n->Pg blt k left L jk i=false)
     (Q:=λc st2=>st=st2/\∃l r,c=(none,l,r)/\r<=n/\(∀i,i<r->Pg blt k left L jk i=true)/\∀i,r<=i->i<n->Pg blt k left L jk i=false) ?tu2 ?ou2 ?bg2) ?re2)
    case bg2=>exact⟨rfl,_,_,rfl,b1,b2,by lia,b3,b4⟩
    case ou2=>
     rintro c st2 ⟨rfl,l,r,rfl,z1,z2,z3,z4,z5⟩;have:l=r:=by lia
     subst this;exact⟨rfl,l,l,rfl,z2,z4,z5⟩
    case re2=>
     rintro c st2 ⟨rfl,l,r,rfl,z2,z4,z5⟩;exact GA (h r z2 z4 z5)
    case tu2=>
     rintro x c st2 _ hx ⟨rfl,l,r,rfl,z1,z2,z3,z4,z5⟩;dsimp only
     by_cases ge:l ≥ r
     .rw[ND ge];have:l=r:=by lia
      subst this;exact GA ⟨rfl,l,l,rfl,z2,z4,z5⟩
     .rw[NE ge];refine G9 (bey (l+(r-l) / 2) (by lia) ?_);dsimp only
      cases hP:Pg blt k left L jk (l+(r-l) / 2) with
      | true=>
        rw[ND rfl];refine GA ⟨rfl,l+(r-l) / 2+1,r,rfl,by lia,z2,by lia,λi hi=>?_,z5⟩
        by_cases e:i=l+(r-l) / 2
        .subst e;exact hP
        .exact mono i _ (show i<l+(r-l) / 2 by lia) (by lia) hP
      | false=>
        rw[NE Q6];refine GA ⟨rfl,l,l+(r-l) / 2,rfl,by lia,by lia,by lia,z4,λi h1 h2=>?_⟩
        by_cases e:i=l+(r-l) / 2
        .subst e;exact hP
        .cases hq:Pg blt k left L jk i with
         | false=>rfl
         | true=>rw[mono _ i (show l+(r-l) / 2<i by lia) h2 hq] at hP;cases hP
   case tu=>
    rintro x c st2 _ hx ⟨rfl,l,o,rfl,z1,z2,z3,z4⟩;dsimp only
    by_cases ge:o ≥ hint+1
    .rw[ND ge];exact GA ⟨rfl,l,o,rfl,z2,z3,z4,λi h1 h2=>by lia⟩
    .rw[NE ge];refine G9 (bey (hint-o) (by lia) ?_);dsimp only
     cases hP:Pg blt k left L jk (hint-o) with
     | true=>
       rw[ND rfl];refine GA ⟨rfl,l,o,rfl,z2,z3,z4,λi h1 h2=>?_⟩
       by_cases e:i=hint-o
       .subst e;exact hP
       .exact mono i _ (show i<hint-o by lia) (by lia) hP
     | false=>
       rw[NE Q6];refine GA ⟨rfl,o,2 * o+1,rfl,by lia,by lia,by lia,λi h1 h2=>?_⟩
       by_cases e:i=hint-o
       .subst e;exact hP
       .cases hq:Pg blt k left L jk i with
        | false=>rfl
        | true=>rw[mono _ i (show hint-o<i by lia) h2 hq] at hP;cases hP
end
section
variable {α:Type}{blt:α->α->Bool}{k:Nat->α}
def mg(blt:α->α->Bool)(k:Nat->α):List Nat->List Nat->List Nat
 | [],bs=>bs
 | as,[]=>as
 | a::as,b::bs=>if blt (k b) (k a)=true then b::mg blt k (a::as) bs else a::mg blt k as (b::bs)
termination_by as bs=>as.length+bs.length
theorem zbm(bs:List Nat):mg blt k [] bs=bs:=by rw[mg]
theorem zbh(as:List Nat):mg blt k as []=as:=by cases as <;> rw[mg];simp
theorem mg_b{a b:Nat}{as bs:List Nat}(h:blt (k b) (k a)=true):mg blt k (a::as) (b::bs)=b::mg blt k (a::as) bs:=by rw[mg,ND h]
theorem mg_a{a b:Nat}{as bs:List Nat}(h:blt (k b) (k a)=false):mg blt k (a::as) (b::bs)=a::mg blt k as (b::bs):=by rw[mg,NE (by rw[h];exact Q6)]
theorem zlx{b:Nat}{bs:List Nat}:∀{xs as:List Nat},(∀x∈xs,blt (k b) (k x)=false)->mg blt k (xs++as) (b::bs)=xs++mg blt k as (b::bs)
 | [],as,h=>rfl
 | x::xs,as,h=>by rw[Zo,mg_a (h x (by simp)),zlx λy hy=>h y (by simp[hy])];rfl
theorem zl5{a:Nat}{as:List Nat}:∀{ys bs:List Nat},(∀y∈ys,blt (k y) (k a)=true)->mg blt k (a::as) (ys++bs)=ys++mg blt k (a::as) bs
 | [],bs,h=>rfl
 | y::ys,bs,h=>by rw[Zo,mg_b (h y (by simp)),zl5 λz hz=>h z (by simp[hz])];rfl
theorem z2v{a:Nat}(h:∀y∈ys,blt (k y) (k a)=true):mg blt k [a] ys=ys ++ [a]:=by
 have:=zl5 (as:=[]) (bs:=[]) h;rw[QD,zbh] at this;exact this
theorem z4p: ∀(n:Nat) (xs ys:List Nat),xs.length+ys.length=n->(∀w∈ws,∀y∈ys,blt (k y) (k w)=true)->mg blt k (xs++ws) ys=mg blt k xs ys++ws:=by
 intro n
 induction n with
 | zero=>
   intro xs ys hn h;have:xs = []:=Zr (by lia);have:ys = []:=Zr (by lia);subst xs;subst ys;rw[zbh,zbh]
 | succ n ih=>
   intro xs ys hn h
   cases ys with
   | nil=>rw[zbh,zbh]
   | cons y ys=>
     cases xs with
     | nil=>
       rw[zbm,J2]
       cases ws with
       | nil=>rw[zbm,QD]
       | cons w ws=>
         have:=zl5 (blt:=blt) (k:=k) (as:=ws) (bs:=[]) (h w (by simp));rw[QD,zbh] at this;exact this
     | cons x xs=>
       simp only[Qk] at hn;rw[Zo]
       cases e:blt (k y) (k x) with
       | true=>
         rw[mg_b e,mg_b e,Zo,<- Zo,ih (x::xs) ys (by simp only[Qk];lia) λw hw z hz=>h w hw z (by simp[hz])]
       | false=>rw[mg_a e,mg_a e,Zo,ih xs (y::ys) (by simp only[Qk];lia) h]
theorem zpw(h:∀w∈ws,∀y∈ys,blt (k y) (k w)=true):mg blt k (xs++ws) ys=mg blt k xs ys++ws:=z4p _ xs ys rfl h
theorem z6e: ∀(n:Nat) (xs ys:List Nat),xs.length+ys.length=n->(∀z∈zs,∀x∈xs,blt (k z) (k x)=false)->mg blt k xs (ys++zs)=mg blt k xs ys++zs:=by
 intro n
 induction n with
 | zero=>
   intro xs ys hn h;have:xs = []:=Zr (by lia);have:ys = []:=Zr (by lia);subst xs;subst ys;rw[zbm,zbm]
 | succ n ih=>
   intro xs ys hn h
   cases xs with
   | nil=>rw[zbm,zbm]
   | cons x xs=>
     cases ys with
     | nil=>
       rw[zbh,J2]
       cases zs with
       | nil=>rw[zbh,QD]
       | cons z zs=>
         have:=zlx (blt:=blt) (k:=k) (bs:=zs) (as:=[]) (h z (by simp));rw[QD,zbm] at this;exact this
     | cons y ys=>
       simp only[Qk] at hn;rw[Zo]
       cases e:blt (k y) (k x) with
       | true=>rw[mg_b e,mg_b e,Zo,ih (x::xs) ys (by simp only[Qk];lia) h]
       | false=>rw[mg_a e,mg_a e,Zo,<- Zo,ih xs (y::ys) (by simp only[Qk];lia) λz hz w hw=>h z hz w (by simp[hw])]
theorem zkb(h:∀z∈zs,∀x∈xs,blt (k z) (k x)=false):mg blt k xs (ys++zs)=mg blt k xs ys++zs:=z6e _ xs ys rfl h
theorem zo1:∀(n:Nat) (xs ys:List Nat),xs.length+ys.length=n->(mg blt k xs ys).Perm (xs++ys):=by
 intro n
 induction n with
 | zero=>
   intro xs ys hn;have:xs = []:=Zr (by lia);subst xs;rw[zbm];exact .refl _
 | succ n ih=>
   intro xs ys hn
   cases xs with
   | nil=>rw[zbm];exact .refl _
   | cons x xs=>
     cases ys with
     | nil=>rw[zbh,QD]
     | cons y ys=>
       simp only[Qk] at hn
       cases e:blt (k y) (k x) with
       | true=>
         rw[mg_b e];refine .trans (.cons y (ih (x::xs) ys (by simp only[Qk];lia))) ?_;exact(Yc (a:=y) (l₁:=x::xs) (l₂:=ys)).symm
       | false=>
         rw[mg_a e,Zo];exact .cons x (ih xs (y::ys) (by simp only[Qk];lia))
theorem mg_mem{z:Nat}:z∈mg blt k xs ys↔z∈xs\/z∈ys:=by rw[(zo1 _ xs ys rfl).mem_iff,Q7]
theorem zr9(xs ys:List Nat):(mg blt k xs ys).length=xs.length+ys.length:=by rw[(zo1 _ xs ys rfl).length_eq,Ql]
theorem z5q(W:WO blt):∀(n:Nat) (xs ys:List Nat),xs.length+ys.length=n->xs.Pairwise (Rk blt k)->ys.Pairwise (Rk blt k)->(∀x∈xs,∀y∈ys,x<y)->(mg blt k xs ys).Pairwise (Rk blt k):=by
 intro n
 induction n with
 | zero=>
   intro xs ys hn h1 h2 h3;have:xs = []:=Zr (by lia);subst xs;rw[zbm];exact h2
 | succ n ih=>
   intro xs ys hn h1 h2 h3
   cases xs with
   | nil=>rw[zbm];exact h2
   | cons x xs=>
     cases ys with
     | nil=>rw[zbh];exact h1
     | cons y ys=>
       simp only[Qk] at hn;have p1:=Z4.mp h1;have p2:=Z4.mp h2
       cases e:blt (k y) (k x) with
       | true=>
         rw[mg_b e];refine Z4.mpr ⟨λz hz=>?_,ih (x::xs) ys (by simp only[Qk];lia) h1 p2.2 λa ha b hb=>h3 a ha b (by simp[hb])⟩;rcases mg_mem.mp hz with hz|hz
         .rcases Qs.mp hz with rfl|hz
          .exact .inl e
          .exact Rk.trans W (.inl e) (p1.1 z hz)
         .exact p2.1 z hz
       | false=>
         rw[mg_a e];have rx:Rk blt k x y:=.inr ⟨e,h3 x (by simp) y (by simp)⟩;refine Z4.mpr ⟨λz hz=>?_,ih xs (y::ys) (by simp only[Qk];lia) p1.2 h2 λa ha b hb=>h3 a (by simp[ha]) b hb⟩;rcases mg_mem.mp hz with hz|hz
         .exact p1.1 z hz
         .rcases Qs.mp hz with rfl|hz
          .exact rx
          .exact Rk.trans W rx (p2.1 z hz)
theorem zs2(W:WO blt)(h1:xs.Pairwise (Rk blt k))(h2:ys.Pairwise (Rk blt k))(h3:∀x∈xs,∀y∈ys,x<y):(mg blt k xs ys).Pairwise (Rk blt k):=z5q W _ xs ys rfl h1 h2 h3
end
def at0(a₀:Array Tc)(n:Nat):Tc:=a₀.getD n (.none,.none)
theorem zj3{n:Nat}(h:n<a₀.size):a₀[n]? = some (at0 a₀ n):=by
 unfold at0;rw[Qx h];simp[Array.getD,h]
structure Nmd(a₀:Array Tc)(arr:Array Tc)(L:List Nat):Prop where
 eq:arr.toList=L.map (at0 a₀)
 lt:∀n∈L,n<a₀.size
section
variable {a₀:Array Tc}{a b out:Array Tc}{LA LB oN:List Nat}
theorem Nmd.size(h:Nmd a₀ a LA):a.size=LA.length:=by rw[<- QW,h.eq,Qf]
theorem Nmd.get(h:Nmd a₀ a LA){i:Nat}(hi:i<LA.length):∃x,a[i]? = some x/\a₀[LA.getD i 0]? = some x/\x=at0 a₀ (LA.getD i 0):=by
 refine⟨at0 a₀ (LA.getD i 0),?_,zj3 (h.lt _ ?_),rfl⟩
 .rw[<- QG,h.eq,Qi,Qb hi];simp[Z0,hi]
 .simp[Z0,hi]
theorem Nmd.push(h:Nmd a₀ out oN){n:Nat}(hn:n<a₀.size):Nmd a₀ (out.push (at0 a₀ n)) (oN ++ [n]) :=
 ⟨by rw[J4,h.eq,QE];rfl,λx hx=>by rcases Q7.mp hx with z|z;(exact h.lt x z);(rw[Qm.mp z];exact hn)⟩
theorem Nmd.app(h:Nmd a₀ out oN)(h':Nmd a₀ a LA):Nmd a₀ (out++a) (oN++LA) :=
 ⟨by rw[Yh,h.eq,h'.eq,QE],λx hx=>by rcases Q7.mp hx with z|z;(exact h.lt x z);(exact h'.lt x z)⟩
theorem Nmd.cut(h:Nmd a₀ a LA)(i j:Nat):Nmd a₀ (a.extract i j) ((LA.drop i).take (j-i)) :=
 ⟨by rw[Array.toList_extract,h.eq,List.extract_eq_drop_take',List.drop_take,<- Ui,<- Vr],λx hx=>h.lt x (YF (Zm hx))⟩
theorem Nmd.rest(h:Nmd a₀ a LA)(i:Nat):Nmd a₀ (a.extract i) (LA.drop i):=by
 have:=h.cut i a.size;rw[h.size,Jq (by rw[ZK];exact Qg _),<- h.size] at this;exact this
end
section
variable {α:Type}{blt:α->α->Bool}{k:Nat->α}{a₀ a b out:Array Tc}{LA LB:List Nat}
structure Mid(blt:α->α->Bool)(k:Nat->α)(a₀:Array Tc)(LA LB:List Nat)(out:Array Tc)(ia ib:Nat):Prop where
 ha:ia<=LA.length
 hb:ib<=LB.length
 ex:∃oN,Nmd a₀ out oN/\oN++mg blt k (LA.drop ia) (LB.drop ib)=mg blt k LA LB
theorem zep{L:List Nat}{i:Nat}(h:i<L.length):L.drop i=L.getD i 0::L.drop (i+1):=by
 rw[Zu h];simp[Z0,h]
theorem Mid.pb(A:Nmd a₀ a LA)(B:Nmd a₀ b LB){ia ib:Nat}(m:Mid blt k a₀ LA LB out ia ib)(h1:ia<LA.length)(h2:ib<LB.length)(h:blt (k (LB.getD ib 0)) (k (LA.getD ia 0))=true):Mid blt k a₀ LA LB (out.push (at0 a₀ (LB.getD ib 0))) ia (ib+1):=by
 obtain⟨oN,n,e⟩:=m.ex;refine⟨m.ha,h2,oN ++ [LB.getD ib 0],n.push (B.lt _ (by simp[Z0,h2])),?_⟩;rw[<- e,zep h1,zep h2,mg_b h,Qv];rfl
theorem Mid.pa(A:Nmd a₀ a LA)(B:Nmd a₀ b LB){ia ib:Nat}(m:Mid blt k a₀ LA LB out ia ib)(h1:ia<LA.length)(h2:ib<LB.length)(h:blt (k (LB.getD ib 0)) (k (LA.getD ia 0))=false):Mid blt k a₀ LA LB (out.push (at0 a₀ (LA.getD ia 0))) (ia+1) ib:=by
 obtain⟨oN,n,e⟩:=m.ex;refine⟨h1,m.hb,oN ++ [LA.getD ia 0],n.push (A.lt _ (by simp[Z0,h1])),?_⟩;rw[<- e,zep h1,zep h2,mg_a h,Qv];rfl
theorem zcw{L:List Nat}{i p x:Nat}(hx:x∈(L.drop i).take p):∃j,j<p/\i+j<L.length/\x=L.getD (i+j) 0:=by
 obtain⟨j,hj,e⟩:=QT hx;rw[QY,ZK] at hj;refine⟨j,by lia,by lia,?_⟩;rw[<- e,UG,UH];simp[Z0,show i+j<L.length by lia]
theorem zug{L:List Nat}{i p:Nat}(h:i+p<=L.length):L.drop i=(L.drop i).take p++L.drop (i+p):=by
 rw[<- Y2,ZB]
theorem Mid.as(A:Nmd a₀ a LA){ia ib p:Nat}(m:Mid blt k a₀ LA LB out ia ib)(h1:ia+p<=LA.length)(h2:ib<LB.length)(h:∀i,i<p->blt (k (LB.getD ib 0)) (k (LA.getD (ia+i) 0))=false):Mid blt k a₀ LA LB (out++a.extract ia (ia+p)) (ia+p) ib:=by
 obtain⟨oN,n,e⟩:=m.ex;have c:=A.cut ia (ia+p);rw[show ia+p-ia=p by lia] at c;refine⟨h1,m.hb,oN++(LA.drop ia).take p,n.app c,?_⟩;rw[<- e,Qv]
 congr 1
 rw[zep h2]
 conv=>rhs;rw[zug h1]
 rw[zlx];intro x hx;obtain⟨j,hj,_,rfl⟩:=zcw hx;exact h j hj
theorem Mid.bs(B:Nmd a₀ b LB){ia ib p:Nat}(m:Mid blt k a₀ LA LB out ia ib)(h1:ia<LA.length)(h2:ib+p<=LB.length)(h:∀i,i<p->blt (k (LB.getD (ib+i) 0)) (k (LA.getD ia 0))=true):Mid blt k a₀ LA LB (out++b.extract ib (ib+p)) ia (ib+p):=by
 obtain⟨oN,n,e⟩:=m.ex;have c:=B.cut ib (ib+p);rw[show ib+p-ib=p by lia] at c;refine⟨m.ha,h2,oN++(LB.drop ib).take p,n.app c,?_⟩;rw[<- e,Qv]
 congr 1
 rw[zep h1]
 conv=>rhs;rw[zug h2]
 rw[zl5];intro x hx;obtain⟨j,hj,_,rfl⟩:=zcw hx;exact h j hj
def Mrg(blt:α->α->Bool)(k:Nat->α)(a₀:Array Tc)(LA LB:List Nat)(r:Array Tc):Prop:=Nmd a₀ r (mg blt k LA LB)
theorem Mid.endB(A:Nmd a₀ a LA)(B:Nmd a₀ b LB){ia ib:Nat}(m:Mid blt k a₀ LA LB out ia ib)(h:ib=LB.length):Mrg blt k a₀ LA LB (out++a.extract ia++b.extract ib):=by
 obtain⟨oN,n,e⟩:=m.ex;subst h;have:=(n.app (A.rest ia)).app (B.rest LB.length);rw[Jv,zbh] at e;rw[Jv,QD,e] at this;exact this
theorem Mid.endA(A:Nmd a₀ a LA)(B:Nmd a₀ b LB){ia ib:Nat}(m:Mid blt k a₀ LA LB out ia ib)(h:ia=LA.length):Mrg blt k a₀ LA LB (out++a.extract ia++b.extract ib):=by
 obtain⟨oN,n,e⟩:=m.ex;subst h;have:=(n.app (A.rest LA.length)).app (B.rest ib);rw[Jv,zbm] at e;rw[Jv,QD,e] at this;exact this
theorem Mid.last(A:Nmd a₀ a LA)(B:Nmd a₀ b LB){ia ib:Nat}(m:Mid blt k a₀ LA LB out ia ib)(h:ia+1=LA.length)(hl:∀y∈LB,blt (k y) (k (LA.getD (LA.length-1) 0))=true):Mrg blt k a₀ LA LB (out++b.extract ib++a.extract ia):=by
 obtain⟨oN,n,e⟩:=m.ex;have:=(n.app (B.rest ib)).app (A.rest ia);have d:LA.drop ia = [LA.getD ia 0]:=by rw[zep (by lia),V3 (by lia)]
 rw[d] at e this;rw[z2v (λy hy=>by have:=hl y (YF hy);rwa [show LA.length-1=ia by lia] at this)] at e;rw[Qv,e] at this;exact this
end
def zvr:Array Tc->Array Tc->StateT GW Sem (Array Tc):=sortPriv% PySem.Builtin.mergeLo
structure Keep(st st':GW):Prop where
 ki:kindOf st'=kindOf st
 ar:arrOf st'=arrOf st
 pe:pendingOf st'=pendingOf st
 fa:GX st'=GX st
theorem Keep.refl(st:GW):Keep st st:=⟨rfl,rfl,rfl,rfl⟩
theorem Keep.trans(h:Keep a b)(h':Keep b c):Keep a c:=⟨h'.ki.trans h.ki,h'.ar.trans h.ar,h'.pe.trans h.pe,h'.fa.trans h.fa⟩
section
variable {prog:GB}{w:GD}{A:GF}{E:G5->G8->Prop}{s:G8}{α:Type}{blt:α->α->Bool}{k:Nat->α}{a₀ a b:Array Tc}{kd:Tg}{st:GW}{LA LB:List Nat}
def Srt(blt:α->α->Bool)(k:Nat->α)(L:List Nat):Prop:=∀i j,i<j->j<L.length->blt (k (L.getD j 0)) (k (L.getD i 0))=false
theorem galA{ia jb n hint:Nat}(W:WO blt)(hC:za6 prog w A s kd a₀ blt k)(ki:kindOf st=kd)(NA:Nmd a₀ a LA)(sa:Srt blt k LA)(hj:a₀[jb]? = some key)(hn:ia+n<=LA.length)(hh:hint<n)
 (h:∀p,p<=n->(∀i,i<p->blt (k jb) (k (LA.getD (ia+i) 0))=false)->(∀i,p<=i->i<n->blt (k jb) (k (LA.getD (ia+i) 0))=true)->Q (some p) st):wpS (model prog w) A E s (ze6 false key a ia n hint) Q st:=by
 refine zil (L:=λi=>LA.getD (ia+i) 0) (jk:=jb) hC ki hj (λi hi=>?_) (λi j hij hjn e=>?_) hh λp hp h1 h2=>h p hp (λi hi=>?_) λi hi hi2=>?_
 .obtain⟨x,e1,e2,_⟩:=NA.get (i:=ia+i) (by lia);exact⟨x,e1,e2⟩
 .have e:(!blt (k jb) (k (LA.getD (ia+j) 0)))=true:=e;show(!blt (k jb) (k (LA.getD (ia+i) 0)))=true;rw[ZO] at e ⊢;exact zb4 W (sa (ia+i) (ia+j) (by lia) (by lia)) e
 .have e:(!blt (k jb) (k (LA.getD (ia+i) 0)))=true:=h1 i hi;rwa [ZO] at e
 .have e:(!blt (k jb) (k (LA.getD (ia+i) 0)))=false:=h2 i hi hi2;rwa [Uy] at e
theorem galB{ib ja n hint:Nat}(W:WO blt)(hC:za6 prog w A s kd a₀ blt k)(ki:kindOf st=kd)(NB:Nmd a₀ b LB)(sb:Srt blt k LB)(hj:a₀[ja]? = some key)(hn:ib+n<=LB.length)(hh:hint<n)
 (h:∀p,p<=n->(∀i,i<p->blt (k (LB.getD (ib+i) 0)) (k ja)=true)->(∀i,p<=i->i<n->blt (k (LB.getD (ib+i) 0)) (k ja)=false)->Q (some p) st):wpS (model prog w) A E s (ze6 true key b ib n hint) Q st:=by
 refine zil (L:=λi=>LB.getD (ib+i) 0) (jk:=ja) hC ki hj (λi hi=>?_) (λi j hij hjn e=>?_) hh λp hp h1 h2=>h p hp (λi hi=>h1 i hi) λi hi hi2=>h2 i hi hi2
 .obtain⟨x,e1,e2,_⟩:=NB.get (i:=ib+i) (by lia);exact⟨x,e1,e2⟩
 .exact zg0 W (sb (ib+i) (ib+j) (by lia) (by lia)) e
theorem zbd{β:Type}{c:Bool}{t e:StateT GW Sem β}{Q:β->GW->Prop}(h1:c=true->wpS M A E s t Q st)(h2:c=false->wpS M A E s e Q st):wpS M A E s (if c=true then t else e) Q st:=by
 cases c with
 | true=>rw[ND rfl];exact h1 rfl
 | false=>rw[NE Q6];exact h2 rfl
theorem znr{β γ:Type}{m:StateT GW Sem β}{Q:β->GW->Prop}(jp:PUnit->γ->StateT GW Sem β)(J:γ->GW->Prop)(hv:∀x st',J x st'->wpS M A E s (jp ⟨⟩ x) Q st')(h:(∀x st',J x st'->wpS M A E s (jp ⟨⟩ x) Q st')->wpS M A E s m Q st):wpS M A E s m Q st:=h hv
theorem zfj{β γ δ:Type}{m:StateT GW Sem β}{Q:β->GW->Prop}(jp:PUnit->γ->δ->StateT GW Sem β)(J:γ->δ->GW->Prop)(hv:∀x y st',J x y st'->wpS M A E s (jp ⟨⟩ x y) Q st')(h:(∀x y st',J x y st'->wpS M A E s (jp ⟨⟩ x y) Q st')->wpS M A E s m Q st):wpS M A E s m Q st:=h hv
theorem z5o(W:WO blt)(hC:za6 prog w A s kd a₀ blt k)(ki:kindOf st=kd)(NA:Nmd a₀ a LA)(NB:Nmd a₀ b LB)(sa:Srt blt k LA)(sb:Srt blt k LB)(hA:0<LA.length)(hB:0<LB.length)
 (hf:blt (k (LB.getD 0 0)) (k (LA.getD 0 0))=true) (hl:∀y∈LB,blt (k y) (k (LA.getD (LA.length-1) 0))=true) (h:∀r st',Mrg blt k a₀ LA LB r->Keep st st'->Q r st'):wpS (model prog w) A E s (zvr a b) Q st:=by
 have za:=NA.size;have zb:=NB.size;refine G9 (TW (GZ ⟨rfl,?_⟩))
 extract_lets -merge +onlyGivenNames total done lastOfA
 obtain⟨x0,e0,_,rfl⟩:=NB.get hB;refine G9 (za0 e0 ?_)
 extract_lets -merge +onlyGivenNames out0 ia0 ib0
 have m0:Mid blt k a₀ LA LB #[at0 a₀ (LB.getD 0 0)] 0 1:=by
  have:=Mid.pb (out:=#[]) NA NB ⟨QI _,QI _,[],⟨rfl,λ_ h=>by cases h⟩,rfl⟩ hA hB hf;exact this
 by_cases c1:1=b.size
 .rw[ND (by simpa using c1)];exact GA (h _ _ (m0.endB NA NB (by lia)) (.refl _))
 rw[NE (by simpa using c1)]
 by_cases c2:0+1=a.size
 .rw[ND (by simpa using c2)];exact GA (h _ _ (m0.last NA NB (by lia) hl) (.refl _))
 rw[NE (by simpa using c2)];refine G9 (Th ?_)
 extract_lets -merge +onlyGivenNames g0
 refine G9 (GY (GG
  (I:=λx c st'=>Keep st st'/\∃out ia ib g,c=(none,out,ia,ib,g)/\Mid blt k a₀ LA LB out ia ib/\ia+1<LA.length/\ib<LB.length/\x<=ia+ib)
  (Q:=λc st'=>Keep st st'/\∃r d,c=(some r,d)/\Mrg blt k a₀ LA LB r) ?turn ?out ⟨.refl _,_,_,_,_,rfl,m0,by lia,by lia,by lia⟩) ?rest)
 case rest=>
  rintro c st' ⟨kp,r,d,rfl,m⟩;exact GA (h r st' m kp)
 case out=>
  rintro c st' ⟨kp,o,i,j,g,rfl,m,h1,h2,h3⟩;exact absurd h3 (by lia)
 case turn=>
  rintro x c st' _ hx ⟨kp,out,ia,ib,g,rfl,m,h1,h2,h3⟩
  extract_lets -merge +onlyGivenNames s1 o1 s2 i1 s3 j1 gg1 ac1 bc1
  have ki':kindOf st'=kd:=kp.ki.trans ki
  refine G9 (GY (GG
   (I:=λy c st2=>st2=st'/\∃out1 ia1 ib1 ac bc,c=(none,out1,ia1,ib1,ac,bc)/\Mid blt k a₀ LA LB out1 ia1 ib1/\ia1+1<LA.length/\ib1<LB.length/\y+(ia+ib)<=ia1+ib1)
   (Q:=λc st2=>st2=st'/\((∃r d,c=(some r,d)/\Mrg blt k a₀ LA LB r)\/∃out1 ia1 ib1 ac bc,c=(none,out1,ia1,ib1,ac,bc)/\Mid blt k a₀ LA LB out1 ia1 ib1/\ia1+1<LA.length/\ib1<LB.length/\1+(ia+ib)<=ia1+ib1)) ?t1 ?o1 ⟨rfl,_,_,_,_,_,rfl,m,h1,h2,by lia⟩) ?r1)
  case o1=>
   rintro c st2 ⟨e,o,i,j,ac,bc,rfl,m,g1,g2,g3⟩;exact⟨e,.inr ⟨o,i,j,ac,bc,rfl,m,g1,g2,by lia⟩⟩
  case t1=>
   rintro y c st2 _ hy ⟨rfl,o,i,j,ac,bc,rfl,m,g1,g2,g3⟩;dsimp only;obtain⟨xb,eb,nb,rfl⟩:=NB.get g2;obtain⟨xa,ea,na,rfl⟩:=NA.get (i:=i) (by lia);refine G9 (za0 eb (G9 (za0 ea (G9 (lt_x hC ki' nb na ?_)))));dsimp only
   cases q:blt (k (LB.getD j 0)) (k (LA.getD i 0)) with
   | true=>
     rw[ND rfl];have m2:=m.pb NA NB (by lia) g2 q;refine G9 (za0 eb ?_)
     by_cases z:j+1=b.size
     .rw[ND (by simpa using z)];exact GA ⟨rfl,.inl ⟨_,_,rfl,m2.endB NA NB (by lia)⟩⟩
     .rw[NE (by simpa using z)]
      split
      .exact GA ⟨rfl,.inr ⟨_,_,_,_,_,rfl,m2,g1,by lia,by lia⟩⟩
      .exact GA ⟨rfl,_,_,_,_,_,rfl,m2,g1,by lia,by lia⟩
   | false=>
     rw[NE Q6];have m2:=m.pa NA NB (by lia) g2 q;refine G9 (za0 ea ?_)
     by_cases z:i+1+1=a.size
     .rw[ND (by simpa using z)];exact GA ⟨rfl,.inl ⟨_,_,rfl,m2.last NA NB (by lia) hl⟩⟩
     .rw[NE (by simpa using z)]
      split
      .exact GA ⟨rfl,.inr ⟨_,_,_,_,_,rfl,m2,by lia,g2,by lia⟩⟩
      .exact GA ⟨rfl,_,_,_,_,_,rfl,m2,by lia,g2,by lia⟩
  case r1=>
   rintro c st2 ⟨rfl,⟨r,d,rfl,mm⟩|⟨o,i,j,ac,bc,rfl,m,g1,g2,g3⟩⟩
   .exact GA ⟨kp,_,_,rfl,mm⟩
   extract_lets -merge +onlyGivenNames s1 s2 o1 s3 i1 s4 j1 s5 ac1 bc1
   refine G9 (TW (GZ ⟨rfl,?_⟩))
   extract_lets -merge +onlyGivenNames g0
   refine G9 (GY (GG
    (I:=λy c st3=>Keep st st3/\∃out1 ia1 ib1 g ac bc,c=(none,out1,ia1,ib1,g,ac,bc)/\Mid blt k a₀ LA LB out1 ia1 ib1/\ia1+1<LA.length/\ib1<LB.length/\1+(ia+ib)<=ia1+ib1)
    (Q:=λc st3=>Keep st st3/\((∃r d,c=(some r,d)/\Mrg blt k a₀ LA LB r)\/∃out1 ia1 ib1 g ac bc,c=(none,out1,ia1,ib1,g,ac,bc)/\Mid blt k a₀ LA LB out1 ia1 ib1/\ia1+1<LA.length/\ib1<LB.length/\1+(ia+ib)<=ia1+ib1)) ?t2 ?o2 ⟨kp,_,_,_,_,_,_,rfl,m,g1,g2,g3⟩) ?r2)
   case o2=>
    rintro c st3 ⟨kp3,z⟩;exact⟨kp3,.inr z⟩
   case r2=>
    rintro c st3 ⟨kp3,⟨r,d,rfl,mm⟩|⟨o,i,j,g,ac,bc,rfl,m,g1,g2,g3⟩⟩
    .exact GA ⟨kp3,_,_,rfl,mm⟩
    dsimp only;refine G9 (Ta ?_);exact GA ⟨kp3.trans ⟨rfl,rfl,rfl,rfl⟩,_,_,_,_,rfl,m,g1,g2,by lia⟩
   case t2=>
    rintro y c st3 _ hy ⟨kp3,o,i,j,g,ac,bc,rfl,m,g1,g2,g3⟩
    extract_lets -merge +onlyGivenNames s1 o1 s2 i1 s3 j1 s4 gg1 s5 ac1 bc1 jb jp
    refine znr jp (λ_ st4=>Keep st st4) (λg' st4 kp4=>?_) λhj=>?_
    case refine_2=>clear_value jp;split <;> exact hj _ _ kp3
    unfold jp;dsimp -zeta only [s1,o1,s2,i1,s3,j1,s4,gg1,s5,ac1,bc1,jb];obtain⟨xb,eb,nb,rfl⟩:=NB.get g2;refine G9 (Ta ?_);refine G9 (za0 eb ?_);refine G9 (galA W hC (kp4.ki.trans ki) NA sa nb (ia:=i) (n:=a.size-i) (by lia) (by lia) λp hp p1 p2=>?_);dsimp -zeta only
    extract_lets -merge +onlyGivenNames ac2 jp2
    refine zfj jp2 (λout' ia' st5=>Keep st st5/\Mid blt k a₀ LA LB out' ia' j/\ia'+1<LA.length/\i<=ia'/\blt (k (LB.getD j 0)) (k (LA.getD ia' 0))=true) (λout' ia' st5 h5=>?_) λhj2=>?_
    case refine_2=>
     clear_value jp2
     by_cases pp:p > 0
     .rw[ND pp];have m1:=m.as NA (p:=p) (by lia) g2 p1;dsimp only
      by_cases z1:i+p+1=a.size
      .rw[ND (by simpa using z1)];exact GA ⟨kp4.trans ⟨rfl,rfl,rfl,rfl⟩,.inl ⟨_,_,rfl,m1.last NA NB (by lia) hl⟩⟩
      rw[NE (by simpa using z1)]
      by_cases z2:i+p=a.size
      .rw[ND (by simpa using z2)];exact GA ⟨kp4.trans ⟨rfl,rfl,rfl,rfl⟩,.inl ⟨_,_,rfl,m1.endA NA NB (by lia)⟩⟩
      rw[NE (by simpa using z2)];exact hj2 _ _ _ ⟨kp4.trans ⟨rfl,rfl,rfl,rfl⟩,m1,by lia,UW _ _,p2 p (Qg _) (by lia)⟩
     .rw[NE pp];exact hj2 _ _ _ ⟨kp4.trans ⟨rfl,rfl,rfl,rfl⟩,m,g1,Qg _,p2 0 (by lia) (by lia)⟩
    obtain⟨kp6,m1,h1',pr,q1⟩:=h5;have m2:=m1.pb NA NB (by lia) g2 q1;refine G9 (za0 eb ?_)
    extract_lets -merge +onlyGivenNames out2
    by_cases z3:j+1=b.size
    .rw[ND (by simpa using z3)];exact GA ⟨kp6,.inl ⟨_,_,rfl,m2.endB NA NB (by lia)⟩⟩
    rw[NE (by simpa using z3)];obtain⟨xa,ea,na,rfl⟩:=NA.get (Vk h1');refine G9 (za0 ea ?_);refine G9 (galB W hC (kp6.ki.trans ki) NB sb na (ib:=j+1) (n:=b.size-(j+1)) (by lia) (by lia) λq hq r1 r2=>?_);dsimp -zeta only
    extract_lets -merge +onlyGivenNames bc2 ja jp3
    refine zfj jp3 (λout' ib' st5=>Keep st st5/\Mid blt k a₀ LA LB out' ia' ib'/\ib'<LB.length/\j+1<=ib'/\blt (k (LB.getD ib' 0)) (k (LA.getD ia' 0))=false) (λout' ib' st5 h5=>?_) λhj3=>?_
    case refine_2=>
     clear_value jp3
     by_cases qq:q > 0
     .rw[ND qq];have m3:=m2.bs NB (p:=q) (Vk h1') (by lia) r1;dsimp only
      by_cases z4:j+1+q=b.size
      .rw[ND (by simpa using z4)];exact GA ⟨kp6,.inl ⟨_,_,rfl,m3.endB NA NB (by lia)⟩⟩
      rw[NE (by simpa using z4)];exact hj3 _ _ _ ⟨kp6,m3,by lia,UW _ _,r2 q (Qg _) (by lia)⟩
     .rw[NE qq];exact hj3 _ _ _ ⟨kp6,m2,by lia,Qg _,r2 0 (by lia) (by lia)⟩
    unfold jp3;obtain⟨kp7,m3,h2',pq,q2⟩:=h5;have m4:=m3.pa NA NB (Vk h1') h2' q2;refine G9 (za0 ea ?_);have last:=λe=>m4.last NA NB e hl;refine zbd (λz5=>?_) λz5=>zbd (λ_=>?_) λ_=>?_
    .have z5:=beq_iff_eq.mp z5;exact GA ⟨kp7,.inl ⟨_,_,rfl,last (by lia)⟩⟩
    all_goals have z5:=beq_eq_false_iff_ne.mp z5
    .exact GA ⟨kp7,.inr ⟨_,_,_,_,_,_,rfl,m4,by lia,h2',by lia⟩⟩
    .exact GA ⟨kp7,_,_,_,_,_,_,rfl,m4,by lia,h2',by lia⟩
end
def zwk:Array Tc->Array Tc->StateT GW Sem (Array Tc):=sortPriv% PySem.Builtin.mergeHi
section
variable {α:Type}{blt:α->α->Bool}{k:Nat->α}{a₀ a b out:Array Tc}{LA LB:List Nat}
structure MidH(blt:α->α->Bool)(k:Nat->α)(a₀:Array Tc)(LA LB:List Nat)(out:Array Tc)(na nb:Nat):Prop where
 ha:na<=LA.length
 hb:nb<=LB.length
 ex:∃oN,Nmd a₀ out oN/\mg blt k (LA.take na) (LB.take nb)++oN.reverse=mg blt k LA LB
theorem Nmd.rev(h:Nmd a₀ out oN):Nmd a₀ out.reverse oN.reverse:=⟨by rw[Array.toList_reverse,h.eq,UQ],λx hx=>h.lt x (UR.mp hx)⟩
theorem zqa{L:List Nat}{i:Nat}(h:i<L.length):L.take (i+1)=L.take i ++ [L.getD i 0]:=by
 rw[Gp,Qb h];simp[Z0,h]
theorem zf3{L:List Nat}{p x:Nat}(hx:x∈L.take p):∃j,j<p/\j<L.length/\x=L.getD j 0:=by
 have:=zcw (L:=L) (i:=0) (p:=p) (by simpa using hx);obtain⟨j,h1,h2,h3⟩:=this;exact⟨j,h1,by lia,by rw[h3,JN]⟩
theorem Srt.le(W:WO blt)(h:Srt blt k L){i j:Nat}(hij:i<=j)(hj:j<L.length):blt (k (L.getD j 0)) (k (L.getD i 0))=false:=by
 rcases Zx i j with z|z
 .exact h i j z hj
 .have:i=j:=by lia
  subst this;exact W.irr _
theorem MidH.pa(A:Nmd a₀ a LA){na nb:Nat}(m:MidH blt k a₀ LA LB out (na+1) nb)(h:∀i,i<nb->blt (k (LB.getD i 0)) (k (LA.getD na 0))=true):MidH blt k a₀ LA LB (out.push (at0 a₀ (LA.getD na 0))) na nb:=by
 obtain⟨oN,n,e⟩:=m.ex;have hna:na<LA.length:=m.ha;refine⟨by lia,m.hb,oN ++ [LA.getD na 0],n.push (A.lt _ (by simp[Z0,hna])),?_⟩;rw[zqa hna,zpw (λw hw y hy=>by obtain⟨j,h1,_,rfl⟩:=zf3 hy;rw[Qm.mp hw];exact h j h1)] at e;rw[<- e,Yj,Qv];rfl
theorem MidH.pb(B:Nmd a₀ b LB){na nb:Nat}(m:MidH blt k a₀ LA LB out na (nb+1))(h:∀i,i<na->blt (k (LB.getD nb 0)) (k (LA.getD i 0))=false):MidH blt k a₀ LA LB (out.push (at0 a₀ (LB.getD nb 0))) na nb:=by
 obtain⟨oN,n,e⟩:=m.ex;have hnb:nb<LB.length:=m.hb;refine⟨m.ha,by lia,oN ++ [LB.getD nb 0],n.push (B.lt _ (by simp[Z0,hnb])),?_⟩;rw[zqa hnb,zkb (λz hz x hx=>by obtain⟨j,h1,_,rfl⟩:=zf3 hx;rw[Qm.mp hz];exact h j h1)] at e;rw[<- e,Yj,Qv];rfl
theorem zob{L:List Nat}{p n:Nat}(h:p<=n):L.take n=L.take p++(L.drop p).take (n-p):=by
 rw[<- Ul,show p+(n-p)=n by lia]
theorem MidH.as(A:Nmd a₀ a LA){na nb p:Nat}(m:MidH blt k a₀ LA LB out na nb)(hp:p<=na)(h:∀j,p<=j->j<na->∀i,i<nb->blt (k (LB.getD i 0)) (k (LA.getD j 0))=true):MidH blt k a₀ LA LB (out++(a.extract p na).reverse) p nb:=by
 obtain⟨oN,n,e⟩:=m.ex;have hh:=m.ha;refine⟨by lia,m.hb,oN++((LA.drop p).take (na-p)).reverse,n.app (A.cut p na).rev,?_⟩;rw[zob hp,zpw (λw hw y hy=>by obtain⟨i,h1,_,rfl⟩:=zf3 hy;obtain⟨j,j1,_,rfl⟩:=zcw hw;exact h (p+j) (by lia) (by lia) i h1)] at e;rw[<- e,Yj,VX,Qv]
theorem MidH.bs(B:Nmd a₀ b LB){na nb p:Nat}(m:MidH blt k a₀ LA LB out na nb)(hp:p<=nb)(h:∀j,p<=j->j<nb->∀i,i<na->blt (k (LB.getD j 0)) (k (LA.getD i 0))=false):MidH blt k a₀ LA LB (out++(b.extract p nb).reverse) na p:=by
 obtain⟨oN,n,e⟩:=m.ex;have hh:=m.hb;refine⟨m.ha,by lia,oN++((LB.drop p).take (nb-p)).reverse,n.app (B.cut p nb).rev,?_⟩;rw[zob hp,zkb (λz hz x hx=>by obtain⟨i,h1,_,rfl⟩:=zf3 hx;obtain⟨j,j1,_,rfl⟩:=zcw hz;exact h (p+j) (by lia) (by lia) i h1)] at e;rw[<- e,Yj,VX,Qv]
theorem Nmd.upto(h:Nmd a₀ a LA)(n:Nat):Nmd a₀ (a.extract 0 n) (LA.take n):=by
 have:=h.cut 0 n;rwa [JZ,YS] at this
theorem MidH.done(A:Nmd a₀ a LA)(B:Nmd a₀ b LB){na nb:Nat}(m:MidH blt k a₀ LA LB out na nb)(h:na=0\/nb=0):Mrg blt k a₀ LA LB (a.extract 0 na++b.extract 0 nb++out.reverse):=by
 obtain⟨oN,n,e⟩:=m.ex;have:=((A.upto na).app (B.upto nb)).app n.rev
 have z:LA.take na++LB.take nb++oN.reverse=mg blt k LA LB:=by
  rw[<- e];rcases h with rfl|rfl
  .rw[Vc,zbm];rfl
  .rw[Vc,zbh,QD]
 rw[z] at this;exact this
theorem MidH.first(A:Nmd a₀ a LA)(B:Nmd a₀ b LB){na nb:Nat}(m:MidH blt k a₀ LA LB out na nb)(h:nb=1)(hf:blt (k (LB.getD 0 0)) (k (LA.getD 0 0))=true):Mrg blt k a₀ LA LB (b.extract 0 nb++a.extract 0 na++out.reverse):=by
 obtain⟨oN,n,e⟩:=m.ex;have:=((B.upto nb).app (A.upto na)).app n.rev
 have z:LB.take nb++LA.take na++oN.reverse=mg blt k LA LB:=by
  rw[<- e];subst h;have hb:=m.hb
  have t1:LB.take 1 = [LB.getD 0 0]:=by
   have:=zqa (L:=LB) (i:=0) (by lia);simpa using this
  rw[t1]
  cases LA with
  | nil=>simp[zbm]
  | cons x xs=>
    cases na with
    | zero=>simp[zbm]
    | succ na=>
      have hf:blt (k (LB.getD 0 0)) (k x)=true:=by simpa using hf
      rw[Uf,mg_b hf,zbh];rfl
 rw[z] at this;exact this
end
section
variable {prog:GB}{w:GD}{A:GF}{E:G5->G8->Prop}{s:G8}{α:Type}{blt:α->α->Bool}{k:Nat->α}{a₀ a b:Array Tc}{kd:Tg}{st:GW}{LA LB:List Nat}
theorem z4v(W:WO blt)(hC:za6 prog w A s kd a₀ blt k)(ki:kindOf st=kd)(NA:Nmd a₀ a LA)(NB:Nmd a₀ b LB)(sa:Srt blt k LA)(sb:Srt blt k LB)(hA:0<LA.length)(hB:0<LB.length)
 (hf:blt (k (LB.getD 0 0)) (k (LA.getD 0 0))=true) (hl:∀i,i<LB.length->blt (k (LB.getD i 0)) (k (LA.getD (LA.length-1) 0))=true) (h:∀r st',Mrg blt k a₀ LA LB r->Keep st st'->Q r st'):wpS (model prog w) A E s (zwk a b) Q st:=by
 have za:=NA.size;have zb:=NB.size;refine G9 (TW (GZ ⟨rfl,?_⟩))
 extract_lets -merge +onlyGivenNames total done firstOfB na0 nb0
 obtain⟨x0,e0,_,rfl⟩:=NA.get (i:=a.size-1) (by lia);refine G9 (za0 e0 ?_)
 extract_lets -merge +onlyGivenNames out0
 have m0:MidH blt k a₀ LA LB #[at0 a₀ (LA.getD (a.size-1) 0)] (a.size-1) b.size:=by
  have mm:MidH blt k a₀ LA LB #[] (a.size-1+1) b.size:=⟨by lia,by lia,[],⟨rfl,λ_ h=>by cases h⟩,by rw[show a.size-1+1=LA.length by lia,zb,Zn,Zn];simp⟩;exact mm.pa NA λi hi=>by rw[za];exact hl i (by lia)
 refine zbd (λz=>?_) λz=>zbd (λz'=>?_) λz'=>?_
 .exact GA (h _ _ (m0.done NA NB (.inl (beq_iff_eq.mp z))) (.refl _))
 .exact GA (h _ _ (m0.first NA NB (beq_iff_eq.mp z') hf) (.refl _))
 have z:=beq_eq_false_iff_ne.mp z;have z':=beq_eq_false_iff_ne.mp z';refine G9 (Th ?_)
 extract_lets -merge +onlyGivenNames g0
 refine G9 (GY (GG
  (I:=λx c st'=>Keep st st'/\∃out na nb g,c=(none,na,nb,out,g)/\MidH blt k a₀ LA LB out na nb/\1<=na/\2<=nb/\x+na+nb<=LA.length+LB.length)
  (Q:=λc st'=>Keep st st'/\∃r d,c=(some r,d)/\Mrg blt k a₀ LA LB r) ?turn ?out ⟨.refl _,_,_,_,_,rfl,m0,by lia,by lia,by lia⟩) ?rest)
 case rest=>
  rintro c st' ⟨kp,r,d,rfl,m⟩;exact GA (h r st' m kp)
 case out=>
  rintro c st' ⟨kp,o,i,j,g,rfl,m,h1,h2,h3⟩;exact absurd h3 (by lia)
 case turn=>
  rintro x c st' _ hx ⟨kp,out,na,nb,g,rfl,m,h1,h2,h3⟩
  extract_lets -merge +onlyGivenNames s1 na1 s2 nb1 s3 o1 gg1 ac1 bc1
  have ki':kindOf st'=kd:=kp.ki.trans ki
  refine G9 (GY (GG
   (I:=λy c st2=>st2=st'/\∃out1 na1 nb1 ac bc,c=(none,na1,nb1,out1,ac,bc)/\MidH blt k a₀ LA LB out1 na1 nb1/\1<=na1/\2<=nb1/\y+na1+nb1<=na+nb)
   (Q:=λc st2=>st2=st'/\((∃r d,c=(some r,d)/\Mrg blt k a₀ LA LB r)\/∃out1 na1 nb1 ac bc,c=(none,na1,nb1,out1,ac,bc)/\MidH blt k a₀ LA LB out1 na1 nb1/\1<=na1/\2<=nb1/\1+na1+nb1<=na+nb)) ?t1 ?o1 ⟨rfl,_,_,_,_,_,rfl,m,h1,h2,by lia⟩) ?r1)
  case o1=>
   rintro c st2 ⟨e,o,i,j,ac,bc,rfl,m,g1,g2,g3⟩;exact⟨e,.inr ⟨o,i,j,ac,bc,rfl,m,g1,g2,by lia⟩⟩
  case t1=>
   rintro y c st2 _ hy ⟨rfl,o,i,j,ac,bc,rfl,m,g1,g2,g3⟩;obtain⟨i,rfl⟩:∃i',i=i'+1:=⟨i-1,by lia⟩;obtain⟨j,rfl⟩:∃j',j=j'+1:=⟨j-1,by lia⟩;have ma:=m.ha;have mb:=m.hb;dsimp only;obtain⟨xb,eb,nb,rfl⟩:=NB.get (i:=j) (by lia);obtain⟨xa,ea,na,rfl⟩:=NA.get (i:=i) (by lia);refine G9 (za0 eb (G9 (za0 ea (G9 (lt_x hC ki' nb na ?_)))));dsimp only
   cases q:blt (k (LB.getD j 0)) (k (LA.getD i 0)) with
   | true=>
     rw[ND rfl];have m2:=m.pa NA λt ht=>zg0 W (sb.le W (show t<=j by lia) (by lia)) q;refine G9 (za0 ea ?_);refine zbd (λz=>?_) λz=>?_
     .exact GA ⟨rfl,.inl ⟨_,_,rfl,m2.done NA NB (.inl (beq_iff_eq.mp z))⟩⟩
     .have z:=beq_eq_false_iff_ne.mp z
      split
      .exact GA ⟨rfl,.inr ⟨_,_,_,_,_,rfl,m2,by lia,g2,by lia⟩⟩
      .exact GA ⟨rfl,_,_,_,_,_,rfl,m2,by lia,g2,by lia⟩
   | false=>
     rw[NE Q6];have m2:=m.pb NB λt ht=>zb4 W (sa.le W (show t<=i by lia) (by lia)) q;refine G9 (za0 eb ?_);refine zbd (λz=>?_) λz=>?_
     .exact GA ⟨rfl,.inl ⟨_,_,rfl,m2.first NA NB (beq_iff_eq.mp z) hf⟩⟩
     .have z:=beq_eq_false_iff_ne.mp z
      split
      .exact GA ⟨rfl,.inr ⟨_,_,_,_,_,rfl,m2,g1,by lia,by lia⟩⟩
      .exact GA ⟨rfl,_,_,_,_,_,rfl,m2,g1,by lia,by lia⟩
  case r1=>
   rintro c st2 ⟨rfl,⟨r,d,rfl,mm⟩|⟨o,i,j,ac,bc,rfl,m,g1,g2,g3⟩⟩
   .exact GA ⟨kp,_,_,rfl,mm⟩
   extract_lets -merge +onlyGivenNames s1 s2 na1 s3 nb1 s4 o1 s5 ac1 bc1
   refine G9 (TW (GZ ⟨rfl,?_⟩))
   extract_lets -merge +onlyGivenNames g0
   refine G9 (GY (GG
    (I:=λy c st3=>Keep st st3/\∃out1 na1 nb1 g ac bc,c=(none,na1,nb1,out1,g,ac,bc)/\MidH blt k a₀ LA LB out1 na1 nb1/\1<=na1/\2<=nb1/\1+na1+nb1<=na+nb)
    (Q:=λc st3=>Keep st st3/\((∃r d,c=(some r,d)/\Mrg blt k a₀ LA LB r)\/∃out1 na1 nb1 g ac bc,c=(none,na1,nb1,out1,g,ac,bc)/\MidH blt k a₀ LA LB out1 na1 nb1/\1<=na1/\2<=nb1/\1+na1+nb1<=na+nb)) ?t2 ?o2 ⟨kp,_,_,_,_,_,_,rfl,m,g1,g2,g3⟩) ?r2)
   case o2=>
    rintro c st3 ⟨kp3,z⟩;exact⟨kp3,.inr z⟩
   case r2=>
    rintro c st3 ⟨kp3,⟨r,d,rfl,mm⟩|⟨o,i,j,g,ac,bc,rfl,m,g1,g2,g3⟩⟩
    .exact GA ⟨kp3,_,_,rfl,mm⟩
    dsimp only;refine G9 (Ta ?_);exact GA ⟨kp3.trans ⟨rfl,rfl,rfl,rfl⟩,_,_,_,_,rfl,m,g1,g2,by lia⟩
   case t2=>
    rintro y c st3 _ hy ⟨kp3,o,i,j,g,ac,bc,rfl,m,g1,g2,g3⟩;obtain⟨j,rfl⟩:∃j',j=j'+1:=⟨j-1,by lia⟩;have ma:=m.ha;have mb:=m.hb
    extract_lets -merge +onlyGivenNames s1 na1 s2 nb1 s3 o1 s4 gg1 s5 ac1 bc1 jx jp
    refine znr jp (λ_ st4=>Keep st st4) (λg' st4 kp4=>?_) λhj=>?_
    case refine_2=>clear_value jp;split <;> exact hj _ _ kp3
    unfold jp;dsimp -zeta only [s1,na1,s2,nb1,s3,o1,s4,gg1,s5,ac1,bc1,jx];simp -zeta only [Uz];obtain⟨xb,eb,nb,rfl⟩:=NB.get (i:=j) (by lia);refine G9 (Ta ?_);refine G9 (za0 eb ?_);refine G9 (galA W hC (kp4.ki.trans ki) NA sa nb (ia:=0) (n:=i) (by lia) (by lia) λp hp p1 p2=>?_);simp only[JN] at p1 p2;dsimp -zeta only
    extract_lets -merge +onlyGivenNames k1 ac2 jp2
    refine zfj jp2 (λna' out' st5=>Keep st st5/\MidH blt k a₀ LA LB out' na' (j+1)/\1<=na'/\na'<=i/\∀t,t<na'->blt (k (LB.getD j 0)) (k (LA.getD t 0))=false) (λna' out' st5 h5=>?_) λhj2=>?_
    case refine_2=>
     clear_value jp2
     by_cases pp:i-p > 0
     .rw[ND pp];have m1:=m.as NA (p:=p) hp λt t1 t2 u hu=>zg0 W (sb.le W (show u<=j by lia) (by lia)) (p2 t t1 t2);refine zbd (λz=>?_) λz=>?_
      .exact GA ⟨kp4.trans ⟨rfl,rfl,rfl,rfl⟩,.inl ⟨_,_,rfl,m1.done NA NB (.inl (beq_iff_eq.mp z))⟩⟩
      have z:=beq_eq_false_iff_ne.mp z;exact hj2 _ _ _ ⟨kp4.trans ⟨rfl,rfl,rfl,rfl⟩,m1,by lia,hp,p1⟩
     .rw[NE pp];obtain rfl:p=i:=by lia
      exact hj2 _ _ _ ⟨kp4.trans ⟨rfl,rfl,rfl,rfl⟩,m,g1,Qg _,p1⟩
    obtain⟨kp6,m1,h1',pr,q1⟩:=h5;have m2:=m1.pb NB q1;refine G9 (za0 eb ?_)
    extract_lets -merge +onlyGivenNames out2
    refine zbd (λz3=>?_) λz3=>?_
    .exact GA ⟨kp6,.inl ⟨_,_,rfl,m2.first NA NB (beq_iff_eq.mp z3) hf⟩⟩
    have z3:=beq_eq_false_iff_ne.mp z3;obtain⟨p,rfl⟩:∃p',na'=p'+1:=⟨na'-1,by lia⟩;simp -zeta only [Uz];obtain⟨xa,ea,na2,rfl⟩:=NA.get (i:=p) (by lia);refine G9 (za0 ea ?_);refine G9 (galB W hC (kp6.ki.trans ki) NB sb na2 (ib:=0) (n:=j) (by lia) (by lia) λq hq r1 r2=>?_);simp only[JN] at r1 r2;dsimp -zeta only
    extract_lets -merge +onlyGivenNames k2 bc2 jy jp3
    refine zfj jp3 (λnb' out' st5=>Keep st st5/\MidH blt k a₀ LA LB out' (p+1) nb'/\2<=nb'/\nb'<=j/\∀t,t<nb'->blt (k (LB.getD t 0)) (k (LA.getD p 0))=true) (λnb' out' st5 h5=>?_) λhj3=>?_
    case refine_2=>
     clear_value jp3
     by_cases qq:j-q > 0
     .rw[ND qq];have m3:=m2.bs NB (p:=q) hq λt t1 t2 u hu=>zb4 W (sa.le W (show u<=p by lia) (by lia)) (r2 t t1 t2);refine zbd (λz4=>?_) λz4=>zbd (λz5=>?_) λz5=>?_
      .exact GA ⟨kp6,.inl ⟨_,_,rfl,m3.first NA NB (beq_iff_eq.mp z4) hf⟩⟩
      .exact GA ⟨kp6,.inl ⟨_,_,rfl,m3.done NA NB (.inr (beq_iff_eq.mp z5))⟩⟩
      have z4:=beq_eq_false_iff_ne.mp z4;have z5:=beq_eq_false_iff_ne.mp z5;exact hj3 _ _ _ ⟨kp6,m3,by lia,hq,r1⟩
     .rw[NE qq];obtain rfl:q=j:=by lia
      exact hj3 _ _ _ ⟨kp6,m2,by lia,Qg _,r1⟩
    unfold jp3;obtain⟨kp7,m3,h2',pq,q2⟩:=h5;have m4:=m3.pa NA q2;refine G9 (za0 ea ?_);refine zbd (λz6=>?_) λz6=>zbd (λ_=>?_) λ_=>?_
    .exact GA ⟨kp7,.inl ⟨_,_,rfl,m4.done NA NB (.inl (beq_iff_eq.mp z6))⟩⟩
    all_goals have z6:=beq_eq_false_iff_ne.mp z6
    .exact GA ⟨kp7,.inr ⟨_,_,_,_,_,_,rfl,m4,by lia,h2',by lia⟩⟩
    .exact GA ⟨kp7,_,_,_,_,_,_,rfl,m4,by lia,h2',by lia⟩
end
section
variable {prog:GB}{w:GD}{A:GF}{E:G5->G8->Prop}{s:G8}{α:Type}{blt:α->α->Bool}{k:Nat->α}{a₀ a b:Array Tc}{kd:Tg}{st:GW}{LA LB N:List Nat}
def SrtW(blt:α->α->Bool)(k:Nat->α)(N:List Nat)(lo n:Nat):Prop:=∀i j,i<j->j<n->blt (k (N.getD (lo+j) 0)) (k (N.getD (lo+i) 0))=false
theorem z6b{ia jb n hint:Nat}(W:WO blt)(hC:za6 prog w A s kd a₀ blt k)(ki:kindOf st=kd)(NA:Nmd a₀ a N)(sa:SrtW blt k N ia n)(hj:a₀[jb]? = some key)(hn:ia+n<=N.length)(hh:hint<n)
 (h:∀p,p<=n->(∀i,i<p->blt (k jb) (k (N.getD (ia+i) 0))=false)->(∀i,p<=i->i<n->blt (k jb) (k (N.getD (ia+i) 0))=true)->Q (some p) st):wpS (model prog w) A E s (ze6 false key a ia n hint) Q st:=by
 refine zil (L:=λi=>N.getD (ia+i) 0) (jk:=jb) hC ki hj (λi hi=>?_) (λi j hij hjn e=>?_) hh λp hp h1 h2=>h p hp (λi hi=>?_) λi hi hi2=>?_
 .obtain⟨x,e1,e2,_⟩:=NA.get (i:=ia+i) (by lia);exact⟨x,e1,e2⟩
 .have e:(!blt (k jb) (k (N.getD (ia+j) 0)))=true:=e;show(!blt (k jb) (k (N.getD (ia+i) 0)))=true;rw[ZO] at e ⊢;exact zb4 W (sa i j hij hjn) e
 .have e:(!blt (k jb) (k (N.getD (ia+i) 0)))=true:=h1 i hi;rwa [ZO] at e
 .have e:(!blt (k jb) (k (N.getD (ia+i) 0)))=false:=h2 i hi hi2;rwa [Uy] at e
theorem z5b{ib ja n hint:Nat}(W:WO blt)(hC:za6 prog w A s kd a₀ blt k)(ki:kindOf st=kd)(NB:Nmd a₀ b N)(sb:SrtW blt k N ib n)(hj:a₀[ja]? = some key)(hn:ib+n<=N.length)(hh:hint<n)
 (h:∀p,p<=n->(∀i,i<p->blt (k (N.getD (ib+i) 0)) (k ja)=true)->(∀i,p<=i->i<n->blt (k (N.getD (ib+i) 0)) (k ja)=false)->Q (some p) st):wpS (model prog w) A E s (ze6 true key b ib n hint) Q st:=by
 refine zil (L:=λi=>N.getD (ib+i) 0) (jk:=ja) hC ki hj (λi hi=>?_) (λi j hij hjn e=>?_) hh λp hp h1 h2=>h p hp (λi hi=>h1 i hi) λi hi hi2=>h2 i hi hi2
 .obtain⟨x,e1,e2,_⟩:=NB.get (i:=ib+i) (by lia);exact⟨x,e1,e2⟩
 .exact zg0 W (sb i j hij hjn) e
theorem zb5{lo n i:Nat}(h:i<n)(hn:lo+n<=N.length):((N.drop lo).take n).getD i 0=N.getD (lo+i) 0:=by
 simp[Z0,Vd,h,Jx]
theorem zcn{lo n:Nat}(hn:lo+n<=N.length):((N.drop lo).take n).length=n:=by rw[QY,ZK];lia
theorem SrtW.seg{lo n:Nat}(h:SrtW blt k N lo n)(hn:lo+n<=N.length):Srt blt k ((N.drop lo).take n):=λi j hij hj=>by
 rw[zcn hn] at hj;rw[zb5 hj hn,zb5 (by lia) hn];exact h i j hij hj
theorem SrtW.cut{lo n p m:Nat}(h:SrtW blt k N lo n)(hp:p+m<=n):SrtW blt k N (lo+p) m:=λi j hij hj=>by
 have:=h (p+i) (p+j) (by lia) (by lia);rwa [show lo+(p+j)=lo+p+j by lia,show lo+(p+i)=lo+p+i by lia] at this
theorem SrtW.le(W:WO blt){lo n i j:Nat}(h:SrtW blt k N lo n)(hij:i<=j)(hj:j<n):blt (k (N.getD (lo+j) 0)) (k (N.getD (lo+i) 0))=false:=by
 rcases Zx i j with z|z
 .exact h i j z hj
 .have:i=j:=by lia
  subst this;exact W.irr _
theorem zky{β:Type}:∀(xs:List β) (s n:Nat) (arr:Array β),s+n+xs.length<=arr.size->((xs.zipIdx n).foldl (λa (p:β×Nat)=>a.setIfInBounds (s+p.2) p.1) arr).toList=arr.toList.take (s+n)++xs++arr.toList.drop (s+n+xs.length)
 | [],s,n,arr,h=>by simp
 | x::xs,s,n,arr,h=>by
   rw[List.zipIdx_cons,Yo];have hl:arr.toList.length=arr.size:=QW;rw[Qk] at h;rw[zky xs s (n+1) _ (by rw[Array.size_setIfInBounds];lia),Ve];dsimp only
   have h1:(arr.toList.set (s+n) x).take (s+(n+1))=arr.toList.take (s+n) ++ [x]:=by
    rw[show s+(n+1)=s+n+1 by lia,Gp,Q3 (by lia)];rw[List.take_set_of_le (Qg _)];rfl
   have h2:(arr.toList.set (s+n) x).drop (s+(n+1)+xs.length)=arr.toList.drop (s+n+(x::xs).length):=by
    rw[Uc (by lia),Qk,show s+(n+1)+xs.length=s+n+(xs.length+1) by lia]
   rw[h1,h2];simp
theorem Nmd.over{s:Nat}(h:Nmd a₀ arr N)(h':Nmd a₀ m M)(hs:s+M.length<=N.length):Nmd a₀ (m.toList.zipIdx.foldl (λa (p:Tc×Nat)=>a.setIfInBounds (s+p.2) p.1) arr) (N.take s++M++N.drop (s+M.length)):=by
 have hz:=h.size;have hm:m.toList.length=M.length:=by rw[h'.eq,Qf]
 refine⟨?_,λx hx=>?_⟩
 .have:=zky m.toList s 0 arr (by lia);rw[V5,hm] at this;rw[this,h.eq,h'.eq,QE,QE,Vr,Ui]
 .rcases Q7.mp hx with hx|hx
  .rcases Q7.mp hx with hx|hx
   .exact h.lt x (Zm hx)
   .exact h'.lt x hx
  .exact h.lt x (YF hx)
end
theorem zza{σ:Type}{M:Model}{A:GF}{E:G5->G8->Prop}{s:G8}{Q:PUnit->σ->Prop}{st st2:σ}(h:Q ⟨⟩ st2):wpS M A E s (set st2:StateT σ Sem PUnit) Q st:=by
 unfold wpS;rw[StateT.run_set];exact G6 ⟨rfl,h⟩
theorem zkv(N:List Nat)(lo n m:Nat):N=N.take lo++((N.drop lo).take n++(N.drop (lo+n)).take m)++N.drop (lo+n+m):=by
 conv=>lhs;rw[<- ZB lo N,<- ZB n (N.drop lo),Y2,<- ZB m (N.drop (lo+n)),Y2]
 simp only[Qv]
theorem zur{N:List Nat}{lo n:Nat}(h:0<n)(hn:lo+n<=N.length):∃r,(N.drop lo).take n=N.getD lo 0::r:=by
 rw[zep (by lia)];obtain⟨m,rfl⟩:∃m,n=m+1:=⟨n-1,by lia⟩;exact⟨_,Uf⟩
theorem zfe{N:List Nat}{lo n x:Nat}(h:x∈(N.drop lo).take n):∃j,j<n/\lo+j<N.length/\x=N.getD (lo+j) 0:=zcw h
theorem zkc(N:List Nat)(lo n p:Nat)(h:p<=n):(N.drop lo).take n=(N.drop lo).take p++(N.drop (lo+p)).take (n-p):=by
 rw[<- Y2,<- Ul,show p+(n-p)=n by lia]
section
variable {prog:GB}{w:GD}{A:GF}{E:G5->G8->Prop}{s:G8}{α:Type}{blt:α->α->Bool}{k:Nat->α}{a₀ a b:Array Tc}{kd:Tg}{st:GW}{N:List Nat}
theorem z4r{i sa na pw nb pw2:Nat}(W:WO blt)(hC:za6 prog w A s kd a₀ blt k)(ki:kindOf st=kd)(fa:GX st=none)(NA:Nmd a₀ (arrOf st) N)(p1:(pendingOf st)[i]? = some (sa,na,pw))(p2:(pendingOf st)[i+1]? = some (sa+na,nb,pw2))
 (h1:0<na) (h2:0<nb) (hN:sa+na+nb<=N.length) (w1:SrtW blt k N sa na) (w2:SrtW blt k N (sa+na) nb)
 (h:∀st',kindOf st'=kd->GX st'=none->Nmd a₀ (arrOf st') (N.take sa++mg blt k ((N.drop sa).take na) ((N.drop (sa+na)).take nb)++N.drop (sa+na+nb))->pendingOf st'=((pendingOf st).setIfInBounds i (sa,na+nb,pw)).eraseIdxIfInBounds (i+1)->Q true st'):wpS (model prog w) A E s (mergeAt' i) Q st:=by
 have zN:=NA.size;refine G9 (Th ?_);rw[p1,p2];refine G9 (zza ?_);obtain⟨xb,eb,gb,rfl⟩:=NA.get (i:=sa+na) (by lia);refine G9 (za0 eb ?_);refine G9 (z6b W hC ki NA w1 gb (by lia) h1 λp hp q1 q2=>?_);obtain⟨rB,eB⟩:=zur (N:=N) (lo:=sa+na) h2 (by lia)
 have hX:mg blt k ((N.drop sa).take na) ((N.drop (sa+na)).take nb)=(N.drop sa).take p++mg blt k ((N.drop (sa+p)).take (na-p)) ((N.drop (sa+na)).take nb):=by
  rw[zkc N sa na p hp,eB,zlx];intro x hx;obtain⟨j,j1,_,rfl⟩:=zfe hx;exact q1 j j1
 refine zbd (λz=>?_) λz=>?_
 .have z:=beq_iff_eq.mp z;refine GA (h _ ki fa ?_ rfl);rw[hX,z,Vc,zbm,show p=na by lia,<- zkv];exact NA
 have z:=beq_eq_false_iff_ne.mp z;obtain⟨xa,ea,ga,rfl⟩:=NA.get (i:=sa+p+(na-p)-1) (by lia);refine G9 (za0 ea ?_);refine G9 (z5b W hC ki NA w2 ga (by lia) (by lia) λq hq r1 r2=>?_);rw[show sa+p+(na-p)-1=sa+(na-1) by lia] at r1 r2
 have hZ:mg blt k ((N.drop (sa+p)).take (na-p)) ((N.drop (sa+na)).take nb)=mg blt k ((N.drop (sa+p)).take (na-p)) ((N.drop (sa+na)).take q)++(N.drop (sa+na+q)).take (nb-q):=by
  rw[zkc N (sa+na) nb q hq,zkb];intro z hz x hx;obtain⟨j,j1,_,rfl⟩:=zfe hz;obtain⟨i',i1,_,rfl⟩:=zfe hx;have e1:=w1.le W (show p+i'<=na-1 by lia) (by lia);rw[show sa+(p+i')=sa+p+i' by lia] at e1;have e2:=r2 (q+j) (by lia) (by lia);rw[show sa+na+(q+j)=sa+na+q+j by lia] at e2;exact zb4 W e1 e2
 refine zbd (λz=>?_) λz'=>?_
 .have z:=beq_iff_eq.mp z;refine GA (h _ ki fa ?_ rfl);rw[hX,hZ,z,Vc,zbh];have:=zkv N sa na nb;rw[zkc N sa na p hp,Qv] at this;simp only[V5,YS,Qv] at this ⊢;rw[<- this];exact NA
 have z':=beq_eq_false_iff_ne.mp z'
 have A1:Nmd a₀ ((arrOf st).extract (sa+p) (sa+na)) ((N.drop (sa+p)).take (na-p)):=by
  have:=NA.cut (sa+p) (sa+na);rwa [show sa+na-(sa+p)=na-p by lia] at this
 have B1:Nmd a₀ ((arrOf st).extract (sa+na) (sa+na+q)) ((N.drop (sa+na)).take q):=by
  have:=NA.cut (sa+na) (sa+na+q);rwa [show sa+na+q-(sa+na)=q by lia] at this
 have sA:Srt blt k ((N.drop (sa+p)).take (na-p)):=(w1.cut (p:=p) (m:=na-p) (by lia)).seg (by lia)
 have sB:Srt blt k ((N.drop (sa+na)).take q):=by
  have:=w2.cut (p:=0) (m:=q) (by lia);rw[V5] at this;exact this.seg (by lia)
 have lA:((N.drop (sa+p)).take (na-p)).length=na-p:=zcn (by lia);have lB:((N.drop (sa+na)).take q).length=q:=zcn (by lia)
 have hf:blt (k (((N.drop (sa+na)).take q).getD 0 0)) (k (((N.drop (sa+p)).take (na-p)).getD 0 0))=true:=by
  rw[zb5 (by lia) (by lia),zb5 (by lia) (by lia)];exact q2 p (Qg _) (by lia)
 have hl:∀i,i<((N.drop (sa+na)).take q).length->blt (k (((N.drop (sa+na)).take q).getD i 0)) (k (((N.drop (sa+p)).take (na-p)).getD (((N.drop (sa+p)).take (na-p)).length-1) 0))=true:=λi hi=>by
  rw[lB] at hi;rw[lA,zb5 hi (by lia),zb5 (by lia) (by lia),show sa+p+(na-p-1)=sa+(na-1) by lia];exact r1 i hi
 have fin:∀r st',Mrg blt k a₀ ((N.drop (sa+p)).take (na-p)) ((N.drop (sa+na)).take q) r->arrOf st'=arrOf st->Nmd a₀ (r.toList.zipIdx.foldl (λa (p':Tc×Nat)=>a.setIfInBounds (sa+p+p'.2) p'.1) (arrOf st')) (N.take sa++mg blt k ((N.drop sa).take na) ((N.drop (sa+na)).take nb)++N.drop (sa+na+nb)):=λr st' mr e=>by
  have ml:(mg blt k ((N.drop (sa+p)).take (na-p)) ((N.drop (sa+na)).take q)).length=na-p+q:=by rw[zr9,lA,lB]
  have:=(show Nmd a₀ (arrOf st') N by rw[e];exact NA).over (s:=sa+p) mr (by rw[ml];lia);rw[ml] at this;have e1:N.take (sa+p)=N.take sa++(N.drop sa).take p:=Ul
  have e2:N.drop (sa+p+(na-p+q))=(N.drop (sa+na+q)).take (nb-q)++N.drop (sa+na+nb):=by
   rw[show sa+p+(na-p+q)=sa+na+q by lia]
   conv=>lhs;rw[<- ZB (nb-q) (N.drop (sa+na+q)),Y2,show sa+na+q+(nb-q)=sa+na+nb by lia]
  rw[e1,e2] at this;rw[hX,hZ];simp only[Qv] at this ⊢;exact this
 by_cases c:na-p<=q
 .rw[ND c];refine G9 (z5o W hC ki A1 B1 sA sB (by lia) (by lia) hf (λy hy=>?_) λr st' mr kp=>?_)
  .obtain⟨j,j1,j2,rfl⟩:=zcw (L:=(N.drop (sa+na)).take q) (i:=0) (p:=q) (by rw[JZ,Jq (by lia)];exact hy);rw[JN] at j2 ⊢;exact hl j j2
  .refine G9 (Ta (G9 (Th ?_)));have f':GX st'=none:=kp.fa.trans fa;refine GA ?_;change Q (GX st').isNone _;rw[f'];exact h _ (kp.ki.trans ki) f' (fin r st' mr kp.ar) kp.pe
 .rw[NE c];refine G9 (z4v W hC ki A1 B1 sA sB (by lia) (by lia) hf hl λr st' mr kp=>?_);refine G9 (Ta (G9 (Th ?_)));have f':GX st'=none:=kp.fa.trans fa;refine GA ?_;change Q (GX st').isNone _;rw[f'];exact h _ (kp.ki.trans ki) f' (fin r st' mr kp.ar) kp.pe
end
section
variable {prog:GB}{w:GD}{A:GF}{E:G5->G8->Prop}{s:G8}{α:Type}{blt:α->α->Bool}{k:Nat->α}{a₀:Array Tc}{kd:Tg}{ix:Nat->Nat}{st:GW}{lo:Nat}{N:List Nat}{pd:Array (Nat×Nat×Nat)}
structure So(a₀:Array Tc)(kd:Tg)(pd:Array (Nat×Nat×Nat))(lo:Nat)(N:List Nat)(ix:Nat->Nat)(st:GW):Prop where
 sz:(arrOf st).size=a₀.size
 be:∀p,p<lo->(arrOf st)[p]? = a₀[N.getD p 0]?
 at_:∀i,lo+i<a₀.size->(arrOf st)[lo+i]? = a₀[lo+ix i]?
 bj:Bij ix (a₀.size-lo)
 fa:GX st=none
 pe:pendingOf st=pd
 ki:kindOf st=kd
theorem lt_o{i j:Nat}(hC:za6 prog w A s kd a₀ blt k)(b:So a₀ kd pd lo N ix st)(hi:lo+i<a₀.size)(hj:lo+j<a₀.size)(h:Q (some (blt (k (lo+ix i)) (k (lo+ix j)))) st):wpS (model prog w) A E s (ltAt' (lo+i) (lo+j)) Q st:=by
 have li:=b.bj.lt i (by lia);have lj:=b.bj.lt j (by lia);obtain⟨⟨x,p⟩,gi⟩:∃z,a₀[lo+ix i]? = some z:=⟨_,Qx (by lia)⟩;obtain⟨⟨y,q⟩,gj⟩:∃z,a₀[lo+ix j]? = some z:=⟨_,Qx (by lia)⟩;rw[ltAt'_eq];refine G9 (Th ?_);change wpS (model prog w) A E s (elem' (arrOf st) (lo+i) >>= λx=>elem' (arrOf st) (lo+j) >>= λy=>lt' x y) Q st;rw[Nl,Nl,b.at_ i hi,b.at_ j hj,gi,gj];refine G9 (GA (G9 (GA ?_)));rw[lt'_eq];refine G9 (Th ?_);rw[b.ki];refine G9 (TW (Tt (hC _ _ _ _ _ _ _ _ gi gj ⟨rfl,?_⟩)));exact GA h
theorem So.mix{i j:Nat}(b:So a₀ kd pd lo N ix st)(hj:lo+j<=a₀.size):So a₀ kd pd lo N (mixF ix i j) (setArr st (N8 (arrOf st) (lo+i) (lo+j) ((lo+j-(lo+i)) / 2))):=by
 refine⟨(mirror_size _ _ _ _).trans b.sz,λp hp=>?_,λp hp=>?_,b.bj.mix (by lia),b.fa,b.pe,b.ki⟩
 .show(N8 (arrOf st) (lo+i) (lo+j) ((lo+j-(lo+i)) / 2))[p]? = _;rw[Mo (by rw[b.sz];exact hj),NE (by lia)];exact b.be p hp
 .show(N8 (arrOf st) (lo+i) (lo+j) ((lo+j-(lo+i)) / 2))[lo+p]? = _;rw[Mo (by rw[b.sz];exact hj)];unfold mixF
  by_cases z:i<=p/\p<j
  .rw[ND (by lia),ND z,show lo+i+(lo+j)-1-(lo+p)=lo+(i+j-1-p) by lia];exact b.at_ _ (by lia)
  .rw[NE (by lia),NE z];exact b.at_ _ hp
theorem So.bub{q l:Nat}(b:So a₀ kd pd lo N ix st)(hq:lo+q<a₀.size)(hl:l<=q):So a₀ kd pd lo N (bubF ix q l) (setArr st (bubble (arrOf st) (lo+q) (lo+q-(lo+l)))):=by
 refine⟨(bubble_size _ _ _).trans b.sz,λp hp=>?_,λp hp=>?_,b.bj.bub (by lia) hl,b.fa,b.pe,b.ki⟩
 .show(bubble (arrOf st) (lo+q) (lo+q-(lo+l)))[p]? = _;rw[MM (by rw[b.sz];exact hq) _ (by lia),NE (by lia),NE (by lia)];exact b.be p hp
 .show(bubble (arrOf st) (lo+q) (lo+q-(lo+l)))[lo+p]? = _;rw[MM (by rw[b.sz];exact hq) _ (by lia)];unfold bubF
  by_cases z:p=l
  .rw[ND (by lia),ND z];exact b.at_ _ hq
  .rw[NE (by lia),NE z]
   by_cases y:l<p/\p<=q
   .rw[ND (by lia),ND y,show lo+p-1=lo+(p-1) by lia];exact b.at_ _ (by lia)
   .rw[NE (by lia),NE y];exact b.at_ _ hp
theorem z5e{n ok:Nat}(W:WO blt)(hC:za6 prog w A s kd a₀ blt k)(hn:lo+n<=a₀.size)(hok:ok<=n)(h1:1<=ok)(b:So a₀ kd pd lo N ix st)(up:Up blt (λi=>k (lo+i)) ix ok)(pr:Pre ix ok)
 (h:∀ix' st',So a₀ kd pd lo N ix' st'->Up blt (λi=>k (lo+i)) ix' n->Pre ix' n->Q true st'):wpS (model prog w) A E s (binarySort' lo n ok) Q st:=by
 rw[binarySort'_eq];rw[show max ok 1=ok by lia];refine G9 (GY (GG (I:=λq c st'=>c=(none,())/\∃ix',So a₀ kd pd lo N ix' st'/\Up blt (λi=>k (lo+i)) ix' q/\Pre ix' q) (Q:=λc st'=>c=(none,())/\∃ix',So a₀ kd pd lo N ix' st'/\Up blt (λi=>k (lo+i)) ix' n/\Pre ix' n) ?turn ?out ⟨rfl,ix,b,up,pr⟩) ?rest)
 case rest=>
  rintro c st' ⟨rfl,ix',b',u',p'⟩;exact GA (h ix' st' b' u' p')
 case out=>
  rintro c st' ⟨hc,ix',b',u',p'⟩;rw[show max ok n=n by lia] at u' p';exact⟨hc,ix',b',u',p'⟩
 case turn=>
  rintro q c st' hq1 hq2 ⟨rfl,ix',b',u',p'⟩;have hq:lo+q<a₀.size:=by lia
  have eq:=p'.id q (Qg _)
  refine G9 (GY (GG (I:=λx c st2=>st2=st'/\∃l r,c=(none,l,r)/\l<=r/\r<=q/\r-l<=q-x/\(∀i,i<l->blt (k (lo+q)) (k (lo+ix' i))=false)/\∀i,r<=i->i<q->blt (k (lo+q)) (k (lo+ix' i))=true)
   (Q:=λc st2=>st2=st'/\∃l r,c=(none,l,r)/\l<=q/\(∀i,i<l->blt (k (lo+q)) (k (lo+ix' i))=false)/\∀i,l<=i->i<q->blt (k (lo+q)) (k (lo+ix' i))=true) ?tu ?ou ?bg) ?re)
  case bg=>exact⟨rfl,0,q,rfl,by lia,Qg _,by lia,λi z=>absurd z (by lia),λi z z'=>absurd z (by lia)⟩
  case ou=>
   rintro c st2 ⟨rfl,l,r,rfl,z1,z2,z3,z4,z5⟩;have:l=r:=by lia
   subst this;exact⟨rfl,l,l,rfl,z2,z4,z5⟩
  case tu=>
   rintro x c st2 _ hx ⟨rfl,l,r,rfl,z1,z2,z3,z4,z5⟩;dsimp only
   by_cases ge:l ≥ r
   .rw[ND ge];have:l=r:=by lia
    subst this;exact GA ⟨rfl,l,l,rfl,z2,z4,z5⟩
   .rw[NE ge];refine G9 (lt_o hC b' hq (j:=(l+r) / 2) (by lia) ?_);rw[eq]
    cases le:blt (k (lo+q)) (k (lo+ix' ((l+r) / 2))) with
    | true=>
      refine GA ⟨rfl,l,(l+r) / 2,rfl,by lia,by lia,by lia,z4,λi y1 y2=>?_⟩
      by_cases e:i=(l+r) / 2
      .subst e;exact le
      .exact zci W le ((u' _ _ (show(l+r) / 2<i by lia) y2).le W)
    | false=>
      refine GA ⟨rfl,(l+r) / 2+1,r,rfl,by lia,by lia,by lia,λi y1=>?_,z5⟩
      by_cases e:i=(l+r) / 2
      .subst e;exact le
      .exact zb4 W ((u' i _ (show i<(l+r) / 2 by lia) (by lia)).le W) le
  case re=>
   rintro c st2 ⟨rfl,l,r,rfl,z2,z4,z5⟩;change wpS (model prog w) A E s (moveDown' (lo+q) (lo+l) >>= λ_=>pure (JP (none,()))) _ st2;rw[moveDown'_eq];exact G9 (Ta (GA ⟨rfl,bubF ix' q l,b'.bub hq z2,zun (k:=λi=>k (lo+i)) u' p' z2 z4 z5,p'.bub z2⟩))
end
section
variable {prog:GB}{w:GD}{A:GF}{E:G5->G8->Prop}{s:G8}{α:Type}{blt:α->α->Bool}{k:Nat->α}{a₀:Array Tc}{kd:Tg}{ix:Nat->Nat}{st:GW}{lo:Nat}{N:List Nat}{pd:Array (Nat×Nat×Nat)}
theorem z4t{n:Nat}(W:WO blt)(hC:za6 prog w A s kd a₀ blt k)(hn:lo+n<=a₀.size)(h1:1<=n)(b:So a₀ kd pd lo N (λi=>i) st)
 (h:∀m' ix' st',So a₀ kd pd lo N ix' st'->1<=m'->m'<=n->Up blt (λi=>k (lo+i)) ix' m'->Pre ix' m'->Q (some m') st'):wpS (model prog w) A E s (countRun' lo n) Q st:=by
 have one:∀m,1<=m->lo+m-1=lo+(m-1):=λm hm=>by lia
 rw[countRun'_eq];refine G9 (GY (GG (I:=λx c st'=>st'=st/\c=(none,x)/\Up blt (λi=>k (lo+i)) (λi=>i) x) (Q:=λc st'=>st'=st/\∃m,c=(none,m)/\1<=m/\m<=n/\Up blt (λi=>k (lo+i)) (λi=>i) m/\(m=n\/blt (k (lo+m)) (k (lo+(m-1)))=true)) ?t1 ?o1 ⟨rfl,rfl,λi j z z'=>absurd z (by lia)⟩) ?r1)
 case o1=>
  rintro c st' ⟨rfl,rfl,u⟩;rw[show max 1 n=n by lia] at u ⊢;exact⟨rfl,n,rfl,h1,Qg _,u,.inl rfl⟩
 case t1=>
  rintro x c st' x1 x2 ⟨rfl,rfl,u⟩;dsimp only;rw[one x x1];refine G9 (lt_o hC b (by lia) (by lia) ?_)
  cases le:blt (k (lo+x)) (k (lo+(x-1))) with
  | true=>
    exact GA ⟨rfl,x,rfl,x1,by lia,u,.inr le⟩
  | false=>
    exact GA ⟨rfl,rfl,zmy W u (by lia) (.inr ⟨le,by lia⟩)⟩
 case r1=>
  rintro c st' ⟨rfl,m,rfl,z1,z2,u,o⟩;dsimp only
  by_cases e:m=n
  .rw[ND (by simpa using e)];exact GA (h m _ _ b z1 z2 u Pre.idf)
  rw[NE (by simpa using e)];have lt:=o.resolve_left e
  by_cases g:m > 1 <;> first
   | rw[ND g,one m z1]
     refine G9 ?_;refine lt_o hC b (i:=0) (j:=m-1) (by lia) (by lia) ?_;refine zbd (λro=>GA (h m _ _ b z1 z2 u Pre.idf)) λro=>?_;refine G9 (TQ ?_);have b1:So a₀ kd pd lo N (mixF (λi=>i) 0 m) (setArr st' (N8 (arrOf st') lo (lo+m) ((lo+m-lo) / 2))):=b.mix (i:=0) (j:=m) (by lia);have pr1:Pre (mixF (λi=>i) 0 m) (m+1):=(Pre.idf.mix (Qg m)).more (by lia)
     have d1:Des blt (λi=>k (lo+i)) (mixF (λi=>i) 0 m) (m+1) 0:=by
      have al:∀i j,i<j->j<m->blt (k (lo+j)) (k (lo+i))=false/\blt (k (lo+i)) (k (lo+j))=false:=λi j y1 y2=>by
       refine⟨(u i j y1 y2).le W,?_⟩
       have a1:blt (k (lo+i)) (k (lo+0))=false:=by
        by_cases q:i=0
        .subst q;exact W.irr _
        .exact(u 0 i (by lia) (by lia)).le W
       have a2:blt (k (lo+(m-1))) (k (lo+j))=false:=by
        by_cases q:j=m-1
        .subst q;exact W.irr _
        .exact(u j (m-1) (by lia) (by lia)).le W
       exact zb4 W (zb4 W a2 ro) a1
      refine zck W (λi j y1 y2=>?_) (by lia) ?_
      .have e1:mixF (λi=>i) 0 m i=m-1-i:=by unfold mixF;rw[ND (by lia)];show 0+m-1-i=m-1-i;lia
       have e2:mixF (λi=>i) 0 m j=m-1-j:=by unfold mixF;rw[ND (by lia)];show 0+m-1-j=m-1-j;lia
       rw[e1,e2];exact .inr ⟨(al _ _ (by lia) (by lia)).1,by lia⟩
      .have e1:mixF (λi=>i) 0 m m=m:=by unfold mixF;rw[NE (by lia)]
       have e2:mixF (λi=>i) 0 m (m-1)=0:=by unfold mixF;rw[ND (by lia)];show 0+m-1-(m-1)=0;lia
       rw[e1,e2];exact zci W lt ro
   | rw[NE g]
     have me:m=1:=by lia
     have b1:=b;have pr1:Pre (λi=>i) (m+1):=Pre.idf
     have d1:Des blt (λi=>k (lo+i)) (λi=>i) (m+1) 0:=by
      subst me;exact zck W (λi j y1 y2=>absurd y1 (by lia)) (by lia) lt
  all_goals
   refine G9 (TW (GZ ⟨rfl,?_⟩))
   refine G9 (GY (GG (I:=λx c st'=>∃q ix',c=(none,x,q)/\So a₀ kd pd lo N ix' st'/\Des blt (λi=>k (lo+i)) ix' x q/\Pre ix' x)
    (Q:=λc st'=>∃m' q ix',c=(none,m',q)/\So a₀ kd pd lo N ix' st'/\m+1<=m'/\m'<=n/\Des blt (λi=>k (lo+i)) ix' m' q/\Pre ix' m') ?t2 ?o2 ⟨0,_,rfl,b1,d1,pr1⟩) ?r2)
   case o2=>
    rintro c st' ⟨q,ix',rfl,b',d',p'⟩;rw[show max (m+1) n=n by lia] at d' p' ⊢;exact⟨n,q,ix',rfl,b',by lia,Qg _,d',p'⟩
   case t2=>
    rintro x c st' x1 x2 ⟨q,ix',rfl,b',d',p'⟩;dsimp only;have hq:=d'.le;rw[one x (by lia)];refine G9 (lt_o hC b' (by lia) (by lia) ?_)
    cases le:blt (k (lo+ix' x)) (k (lo+ix' (x-1))) with
    | true=>
      simp only[NL]
      by_cases z:q > 0
      .rw[ND z,show lo+x-(q+1)=lo+(x-(q+1)) by lia];refine G9 (TQ (GA ⟨0,_,rfl,b'.mix (by lia),?_,(p'.mix (Qg _)).more (by lia)⟩));refine zck W d'.turn (by lia) ?_;have e1:mixF ix' (x-(q+1)) x x=ix' x:=by unfold mixF;rw[NE (by lia)]
       have e2:mixF ix' (x-(q+1)) x (x-1)=ix' (x-(q+1)):=by unfold mixF;rw[ND (by lia)];congr 1;lia
       rw[e1,e2];have:=d'.al (x-(q+1)) (x-1) (by lia) (by lia) (by lia);exact zci W le this.1
      .rw[NE z];have:q=0:=by lia
       subst this;exact GA ⟨0,ix',rfl,b',zck W d'.dn (by lia) le,p'.more (by lia)⟩
    | false=>
      refine G9 (lt_o hC b' (by lia) (by lia) ?_)
      cases gr:blt (k (lo+ix' (x-1))) (k (lo+ix' x)) with
      | true=>
        exact GA ⟨x,q,ix',rfl,b',x1,by lia,d',p'⟩
      | false=>
        exact GA ⟨q+1,ix',rfl,b',ztw W d' p' le gr,p'.more (by lia)⟩
   case r2=>
    rintro c st2 ⟨m',q,ix',rfl,b',y1,y2,d',p'⟩;dsimp only;have hq:=d'.le
    by_cases z:q > 0 <;> first
     | rw[ND z,show lo+m'-(q+1)=lo+(m'-(q+1)) by lia]
       refine G9 (TQ ?_);have b2:=b'.mix (i:=m'-(q+1)) (j:=m') (by lia);have d2:=d'.turn;have p2:=p'.mix (i:=m'-(q+1)) (Qg m')
     | rw[NE z]
       have qe:q=0:=by lia
       subst qe;have b2:=b';have d2:=d'.dn;have p2:=p'
    all_goals
     refine G9 (TQ ?_);have b3:=b2.mix (i:=0) (j:=m') (by lia);have u3:=ztm d2;have p3:=p2.mix (i:=0) (Qg m');refine G9 (GY (GG (I:=λx c st'=>∃ix3,So a₀ kd pd lo N ix3 st'/\c=(none,x)/\Up blt (λi=>k (lo+i)) ix3 x/\Pre ix3 x) (Q:=λc st'=>∃ix3 m3,So a₀ kd pd lo N ix3 st'/\c=(none,m3)/\1<=m3/\m3<=n/\Up blt (λi=>k (lo+i)) ix3 m3/\Pre ix3 m3) ?t3 ?o3 ⟨_,b3,rfl,u3,p3⟩) ?r3)
     case o3=>
      rintro c st' ⟨ix3,b4,rfl,u,p4⟩;rw[show max m' n=n by lia] at u p4 ⊢;exact⟨ix3,n,b4,rfl,h1,Qg _,u,p4⟩
     case r3=>
      rintro c st' ⟨ix3,m3,b4,rfl,w1,w2,u,p4⟩;exact GA (h m3 ix3 st' b4 w1 w2 u p4)
     case t3=>
      rintro x c st' x1 x2 ⟨ix3,b4,rfl,u,p4⟩;dsimp only;rw[one x (by lia)];refine G9 (lt_o hC b4 (by lia) (by lia) ?_)
      cases le:blt (k (lo+ix3 x)) (k (lo+ix3 (x-1))) with
      | true=>
        exact GA ⟨ix3,x,b4,rfl,by lia,by lia,u,p4⟩
      | false=>
        refine GA ⟨ix3,b4,rfl,zmy W u (by lia) (.inr ⟨le,?_⟩),p4.more (by lia)⟩;rw[p4.id x (Qg _)];exact p4.lt _ (by lia)
end
section
variable {α:Type}{blt:α->α->Bool}{k:Nat->α}{N N':List Nat}
def SegOk(blt:α->α->Bool)(k:Nat->α)(N:List Nat)(s n:Nat):Prop:=((N.drop s).take n).Pairwise (Rk blt k)/\∀x∈(N.drop s).take n,s<=x/\x<s+n
def Segs(blt:α->α->Bool)(k:Nat->α)(N:List Nat):List (Nat×Nat×Nat)->Nat->Nat->Prop
 | [],s,e=>s=e
 | (a,n,_)::r,s,e=>a=s/\0<n/\SegOk blt k N s n/\Segs blt k N r (s+n) e
theorem zg2:∀{l:List (Nat×Nat×Nat)} {s e:Nat},Segs blt k N l s e->s+l.length<=e
 | [],s,e,h=>by have h:s=e:=h;simp[h]
 | (a,n,p)::r,s,e,h=>by
   have:=zg2 h.2.2.2;have:=h.2.1;rw[Qk];lia
theorem segs_app:∀{l r:List (Nat×Nat×Nat)} {s e:Nat},Segs blt k N (l++r) s e↔∃m,Segs blt k N l s m/\Segs blt k N r m e
 | [],r,s,e=>⟨λh=>⟨s,rfl,h⟩,λ⟨m,h1,h2⟩=>by have h1:s=m:=h1;rw[h1];exact h2⟩
 | (a,n,p)::l,r,s,e=>by
   constructor
   .rintro⟨h1,h2,h3,h4⟩;obtain⟨m,h5,h6⟩:=segs_app.mp h4;exact⟨m,⟨h1,h2,h3,h5⟩,h6⟩
   .rintro⟨m,⟨h1,h2,h3,h5⟩,h6⟩;exact⟨h1,h2,h3,segs_app.mpr ⟨m,h5,h6⟩⟩
theorem zpv{s n:Nat}(hl:N'.length=N.length)(h:∀p,s<=p->p<s+n->N'.getD p 0=N.getD p 0):(N'.drop s).take n=(N.drop s).take n:=by
 refine Yb (by simp[hl]) λi h1 h2=>?_;rw[QY,ZK] at h1 h2;have:=h (s+i) (by lia) (by lia);simp only[Z0,Qb (show s+i<N'.length by lia),Qb (show s+i<N.length by lia),UP] at this;simpa using this
theorem zdq(hl:N'.length=N.length):∀{l:List (Nat×Nat×Nat)} {s e:Nat},Segs blt k N l s e->(∀p,s<=p->p<e->N'.getD p 0=N.getD p 0)->Segs blt k N' l s e
 | [],s,e,h,_=>h
 | (a,n,p)::r,s,e,h,g=>by
   have le:=zg2 h.2.2.2;refine⟨h.1,h.2.1,?_,zdq hl h.2.2.2 λq q1 q2=>g q (by lia) q2⟩;unfold SegOk;rw[zpv hl λq q1 q2=>g q q1 (by lia)];exact h.2.2.1
theorem zm7(hf:∀a b c,(f (a,b,c)).1=a/\(f (a,b,c)).2.1=b):∀{l:List (Nat×Nat×Nat)} {i s e:Nat},Segs blt k N l s e->Segs blt k N (l.modify i f) s e
 | [],i,s,e,h=>by simpa using h
 | (a,n,p)::r,0,s,e,h=>by
   rw[List.modify_zero_cons];obtain⟨z1,z2⟩:=hf a n p;have:f (a,n,p)=(a,n,(f (a,n,p)).2.2):=Gh z1 (Gh z2 rfl);rw[this];exact h
 | (a,n,p)::r,i+1,s,e,h=>by
   rw[List.modify_succ_cons];exact⟨h.1,h.2.1,h.2.2.1,zm7 hf h.2.2.2⟩
theorem SegOk.srt(W:WO blt){s n:Nat}(h:SegOk blt k N s n)(hn:s+n<=N.length):SrtW blt k N s n:=λi j hij hj=>by
 have:=QX.mp h.1 i j (by rw[zcn hn];lia) (by rw[zcn hn];exact hj) hij
 have e:∀t,t<n->∀ht,((N.drop s).take n)[t]'ht=N.getD (s+t) 0:=λt ht hh=>by
  rw[<- zb5 ht hn];unfold Z0;rw[Qb hh];rfl
 rw[e i (by lia),e j hj] at this;exact this.le W
theorem SegOk.merge(W:WO blt){s n m:Nat}(h1:SegOk blt k N s n)(h2:SegOk blt k N (s+n) m)(hN:s+n+m<=N.length)(N':List Nat)(e:N'=N.take s++mg blt k ((N.drop s).take n) ((N.drop (s+n)).take m)++N.drop (s+n+m)):
 N'.length=N.length/\SegOk blt k N' s (n+m)/\(∀p,p<s->N'.getD p 0=N.getD p 0)/\∀p,s+n+m<=p->N'.getD p 0=N.getD p 0:=by
 have lm:(mg blt k ((N.drop s).take n) ((N.drop (s+n)).take m)).length=n+m:=by rw[zr9,zcn (by lia),zcn (by lia)]
 have lt:(N.take s).length=s:=by rw[QY];lia
 have lN:N'.length=N.length:=by rw[e,Ql,Ql,lm,lt,ZK];lia
 have seg:(N'.drop s).take (n+m)=mg blt k ((N.drop s).take n) ((N.drop (s+n)).take m):=by
  rw[e,Qv]
  have:(N.take s++(mg blt k ((N.drop s).take n) ((N.drop (s+n)).take m)++N.drop (s+n+m))).drop s=mg blt k ((N.drop s).take n) ((N.drop (s+n)).take m)++N.drop (s+n+m):=by
   conv=>lhs;arg 1;rw[<- lt]
   exact List.drop_left
  rw[this,<- lm,List.take_left]
 refine⟨lN,⟨?_,λx hx=>?_⟩,λp hp=>?_,λp hp=>?_⟩
 .rw[seg];exact zs2 W h1.1 h2.1 λx hx y hy=>by have:=h1.2 x hx;have:=h2.2 y hy;lia
 .rw[seg] at hx;rcases mg_mem.mp hx with z|z
  .have:=h1.2 x z;lia
  .have:=h2.2 x z;lia
 .rw[e,Qv];simp only[Z0];rw[QO (by lia),Vd,ND hp]
 .rw[e];simp only[Z0];rw[QU (by rw[Ql,lm,lt];lia),Ql,lm,lt,Jx,show s+n+m+(p-(s+(n+m)))=p by lia]
end
theorem zt0:∀{zs ys:List Nat},zs.Nodup->(∀z∈zs,z∈ys)->zs.length<=ys.length
 | [],ys,_,_=>QI _
 | z::zs,ys,nd,h=>by
   have n:=QQ.mp nd;have hz:=h z (by simp);have:=zt0 (zs:=zs) (ys:=ys.erase z) n.2 λx hx=>(J5 (show x≠z from λe=>n.1 (by rw[<- e];exact hx))).mpr (h x (by simp[hx]));rw[Jm hz] at this;have:=Jt hz;rw[Qk];lia
section
variable {prog:GB}{w:GD}{A:GF}{E:G5->G8->Prop}{s:G8}{α:Type}{blt:α->α->Bool}{k:Nat->α}{a₀:Array Tc}{kd:Tg}{ix:Nat->Nat}{st:GW}{lo:Nat}{N:List Nat}{pd:Array (Nat×Nat×Nat)}{T:Nat->Nat}
structure RI(blt:α->α->Bool)(k:Nat->α)(a₀:Array Tc)(kd:Tg)(T:Nat->Nat)(lo:Nat)(st:GW):Prop where
 ki:kindOf st=kd
 fa:GX st=none
 le:lo<=a₀.size
 ex:∃N:List Nat,N.length=a₀.size/\Nmd a₀ (arrOf st) N/\(∀p,lo<=p->p<a₀.size->N.getD p 0=T p)/\Segs blt k N (pendingOf st).toList 0 lo
theorem z0o{β:Type}{l:List β}{i:Nat}(h:i+1<l.length):∃a b,l=l.take i++a::b::l.drop (i+2)/\l[i]? = some a/\l[i+1]? = some b:=by
 refine⟨l[i],l[i+1],?_,Qb (by lia),Qb h⟩
 conv=>lhs;rw[<- ZB i l,Zu (show i<l.length by lia),Zu (show i+1<l.length by lia)]
theorem znb{i:Nat}(W:WO blt)(hC:za6 prog w A s kd a₀ blt k)(r:RI blt k a₀ kd T lo st)(hi:i+1<(pendingOf st).size)(h:∀st',RI blt k a₀ kd T lo st'->(pendingOf st').size+1=(pendingOf st).size->Q true st'):wpS (model prog w) A E s (mergeAt' i) Q st:=by
 obtain⟨N,hl,NA,idn,sg⟩:=r.ex;have rle:=r.le;obtain⟨⟨sA,nA,pA⟩,⟨sB,nB,pB⟩,el,e1,e2⟩:=z0o (l:=(pendingOf st).toList) (i:=i) (by rw[QW];exact hi);have li:((pendingOf st).toList.take i).length=i:=by rw[QY,QW];lia
 generalize hl1:(pendingOf st).toList.take i=l1 at el li;generalize hl2:(pendingOf st).toList.drop (i+2)=l2 at el;rw[el] at sg;obtain⟨m,g1,g2⟩:=segs_app.mp sg;obtain⟨rfl,hA,okA,g3⟩:=g2;obtain⟨rfl,hB,okB,g4⟩:=g3;have le4:=zg2 g4;refine z4r (i:=i) (sa:=sA) (na:=nA) (nb:=nB) W hC r.ki r.fa NA (by rw[<- QG];exact e1) (by rw[<- QG];exact e2) hA hB (by lia) (okA.srt W (by lia)) (okB.srt W (by lia)) λst' k1 k2 k3 k4=>?_;obtain⟨lN,ok,q1,q2⟩:=okA.merge W okB (by lia) _ rfl
 have tl:(pendingOf st').toList=l1++(sA,nA+nB,pA)::l2:=by
  rw[k4,Array.toList_eraseIdxIfInBounds,Ve,el,<- li,VM _ _ (Qg _),Nat.sub_self,List.set_cons_zero,List.eraseIdx_append_of_length_le (by lia),show l1.length+1-l1.length=1 by lia];rfl
 refine h st' ⟨k1,k2,rle,_,by rw[lN];exact hl,k3,λp p1 p2=>?_,?_⟩ ?_
 .rw[q2 p (by lia)];exact idn p p1 p2
 .rw[tl];refine segs_app.mpr ⟨sA,zdq lN g1 λp _ p2=>q1 p p2,rfl,by lia,ok,?_⟩;rw[show sA+(nA+nB)=sA+nA+nB by lia];exact zdq lN g4 λp p1 _=>q2 p (by lia)
 .rw[<- QW,<- QW,tl,el];simp;lia
theorem z5s(NA:Nmd a₀ (arrOf st) N)(hl:N.length=a₀.size)(idn:∀p,lo<=p->p<a₀.size->N.getD p 0=p)(ki:kindOf st=kd)(fa:GX st=none)(le:lo<=a₀.size):So a₀ kd (pendingOf st) lo N (λi=>i) st:=by
 have z:=NA.size;refine⟨by rw[z,hl],λp hp=>?_,λi hi=>?_,Bij.idf,fa,rfl,ki⟩
 .obtain⟨x,e1,e2,_⟩:=NA.get (i:=p) (by lia);rw[e1,e2]
 .obtain⟨x,e1,e2,_⟩:=NA.get (i:=lo+i) (by lia);rw[idn (lo+i) (by lia) hi] at e2;rw[e1,e2]
theorem z3t{m:Nat}(b:So a₀ kd pd lo N ix st)(hN:∀n∈N,n<a₀.size)(hl:N.length=a₀.size)(le:lo<=a₀.size)(hm:lo+m<=a₀.size)(up:Up blt (λi=>k (lo+i)) ix m)(pr:Pre ix m):
 ∃N':List Nat,N'.length=a₀.size/\Nmd a₀ (arrOf st) N'/\(∀p,p<lo->N'.getD p 0=N.getD p 0)/\SegOk blt k N' lo m/\∀p,lo+m<=p->p<a₀.size->N'.getD p 0=p:=by
 have lt:(N.take lo).length=lo:=by rw[QY];lia
 have gl:∀p,p<lo->(N.take lo++(Q2 (a₀.size-lo)).map λi=>lo+ix i).getD p 0=N.getD p 0:=λp hp=>by
  simp only[Z0];rw[QO (by lia),Vd,ND hp]
 have gr:∀i,lo+i<a₀.size->(N.take lo++(Q2 (a₀.size-lo)).map λi=>lo+ix i).getD (lo+i) 0=lo+ix i:=λi hi=>by
  simp only[Z0];rw[QU (by lia),lt,show lo+i-lo=i by lia,Qi,Jc (by lia)];rfl
 have lN:(N.take lo++(Q2 (a₀.size-lo)).map λi=>lo+ix i).length=a₀.size:=by rw[Ql,lt,Qf,Zb];lia
 have inr:∀n∈(N.take lo++(Q2 (a₀.size-lo)).map λi=>lo+ix i),n<a₀.size:=λn hn=>by
  rcases Q7.mp hn with z|z
  .exact hN n (Zm z)
  .obtain⟨i,hi,rfl⟩:=Qp.mp z;have:=b.bj.lt i (Zf.mp hi);lia
 generalize hN':(N.take lo++(Q2 (a₀.size-lo)).map λi=>lo+ix i)=N' at gl gr lN inr;refine⟨N',lN,⟨?_,inr⟩,gl,?_,λp p1 p2=>?_⟩
 .refine Zq λp=>?_;rw[QG,Qi];rcases Zx p a₀.size with hp|hp
  .have ge:N'[p]? = some (N'.getD p 0):=by
    unfold Z0;rw[Qb (by lia)];rfl
   have mem:N'.getD p 0<a₀.size:=inr _ (Qz ge);rw[ge,J1,<- zj3 mem];rcases Zx p lo with z|z
   .rw[gl p z];exact b.be p z
   .obtain⟨i,rfl⟩:∃i,p=lo+i:=⟨p-lo,by lia⟩;rw[gr i hp];exact b.at_ i hp
  .rw[ZL (by rw[b.sz];exact hp),Q0 (by lia)];rfl
 .have seg:∀i j,i<j->j<m->Rk blt k (N'.getD (lo+i) 0) (N'.getD (lo+j) 0):=λi j hij hj=>by
   rw[gr i (by lia),gr j (by lia)];rcases up i j hij hj with z|⟨z,z'⟩
   .exact .inl z
   .exact .inr ⟨z,by lia⟩
  refine⟨QX.mpr λi j h1 h2 hij=>?_,λx hx=>?_⟩
  .have l:=zcn (N:=N') (lo:=lo) (n:=m) (by lia)
   have e:∀t,t<m->∀ht,((N'.drop lo).take m)[t]'ht=N'.getD (lo+t) 0:=λt ht hh=>by
    rw[<- zb5 ht (by lia)];unfold Z0;rw[Qb hh];rfl
   rw[e i (by lia),e j (by lia)];exact seg i j hij (by lia)
  .obtain⟨j,j1,j2,rfl⟩:=zfe hx;rw[gr j (by lia)];have:=pr.lt j j1;lia
 .obtain⟨i,rfl⟩:∃i,p=lo+i:=⟨p-lo,by lia⟩;rw[gr i p2,pr.id i (by lia)]
end
section
variable {prog:GB}{w:GD}{A:GF}{E:G5->G8->Prop}{s:G8}{α:Type}{blt:α->α->Bool}{k:Nat->α}{a₀:Array Tc}{kd:Tg}{st:GW}
theorem z2q(b:Sb a₀ kd (λi=>i) st):Nmd a₀ (arrOf st) (Q2 a₀.size):=by
 refine⟨Zq λp=>?_,λn hn=>Zf.mp hn⟩;rw[QG,Qi];rcases Zx p a₀.size with hp|hp
 .rw[Jc hp,J1,<- zj3 hp];exact b.at_ p hp
 .rw[ZL (by rw[b.sz];exact hp),Q0 (by rw[Zb];exact hp)];rfl
theorem zn2(W:WO blt)(hC:za6 prog w A s kd a₀ blt k)(b:Sb a₀ kd (λi=>i) st)(h2:2<=a₀.size)
 (h:∀ix' st',(arrOf st').size=a₀.size->(∀i,i<a₀.size->(arrOf st')[i]? = a₀[ix' i]?)->Bij ix' a₀.size->GX st'=none->Up blt k ix' a₀.size->Q () st'):wpS (model prog w) A E s sortRuns' Q st:=by
 rw[sortRuns'_eq];refine G9 (Th ?_);dsimp only;simp only[b.sz];have r0:RI blt k a₀ kd (λp=>p) 0 st:=⟨b.ki,b.fa,QI _,Q2 a₀.size,Zb,z2q b,λp _ hp=>by simp[Z0,hp],by rw[b.pe];rfl⟩;refine G9 (GY (GG (I:=λx c st'=>∃lo,c=(none,lo)/\RI blt k a₀ kd (λp=>p) lo st'/\(x<=lo\/lo=a₀.size)) (Q:=λc st'=>c=(none,a₀.size)/\RI blt k a₀ kd (λp=>p) a₀.size st') ?turn ?out ⟨0,rfl,r0,.inl (Qg _)⟩) ?rest)
 case out=>
  rintro c st' ⟨lo,rfl,r,o⟩;have:=r.le;have:lo=a₀.size:=by rcases o with o|o <;> lia
  subst this;exact⟨rfl,r⟩
 case turn=>
  rintro x c st' _ hx ⟨lo,rfl,r,o⟩;have rle:=r.le
  by_cases ge:lo ≥ a₀.size
  .rw[ND ge];have:lo=a₀.size:=by lia
   subst this;exact GA ⟨rfl,r⟩
  rw[NE ge];obtain⟨N,hl,NA,idn,sg⟩:=r.ex;refine G9 (z4t W hC (n:=a₀.size-lo) (by lia) (by lia) (z5s NA hl idn r.ki r.fa rle) λm ix1 st1 b1 m1 m2 u1 p1=>?_);dsimp only
  have fin:∀(nn:Nat) (ix2:Nat->Nat) (st2:GW),So a₀ kd (pendingOf st') lo N ix2 st2->1<=nn->lo+nn<=a₀.size->Up blt (λi=>k (lo+i)) ix2 nn->Pre ix2 nn->∃N':List Nat,N'.length=a₀.size/\RI blt k a₀ kd (λp=>N'.getD p 0) lo st2/\(∀st3,RI blt k a₀ kd (λp=>N'.getD p 0) lo st3->RI blt k a₀ kd (λp=>p) (lo+nn) (setPending st3 ((pendingOf st3).push (lo,nn,0)))):=by
   intro nn ix2 st2 b2 n1 n2 u2 p2;obtain⟨N',l',A',e1,e2,e3⟩:=z3t b2 NA.2 hl rle n2 u2 p2;refine⟨N',l',⟨b2.ki,b2.fa,rle,N',l',A',λp _ _=>rfl,?_⟩,λst3 r3=>?_⟩
   .rw[b2.pe];exact zdq (by lia) sg λp _ hp=>e1 p hp
   .obtain⟨N3,l3,A3,t3,g3⟩:=r3.ex;refine⟨r3.ki,r3.fa,n2,N3,l3,A3,λp p1 p2=>?_,?_⟩
    .rw[t3 p (by lia) p2];exact e3 p p1 p2
    .show Segs blt k N3 ((pendingOf st3).push (lo,nn,0)).toList 0 (lo+nn);rw[J4];refine segs_app.mpr ⟨lo,g3,rfl,n1,?_,rfl⟩;unfold SegOk;rw[zpv (N:=N') (by lia) λp p1 p2=>t3 p p1 (by lia)];exact e2
  have md:∀(T:Nat->Nat) (pw:Nat) (st3:GW),RI blt k a₀ kd T lo st3->RI blt k a₀ kd T lo (setPending st3 ((pendingOf st3).modify ((pendingOf st3).size-1) λx=>(x.1,x.2.1,pw))):=by
   intro T pw st3 r3;obtain⟨N3,l3,A3,t3,g3⟩:=r3.ex;refine⟨r3.ki,r3.fa,r3.le,N3,l3,A3,t3,?_⟩;rw[Array.toList_modify];exact zm7 (λ_ _ _=>⟨rfl,rfl⟩) g3
  by_cases lt:m<minRun' a₀.size a₀.size 0
  .rw[ND lt];refine G9 (TW (GZ ⟨rfl,?_⟩));generalize hnn:min (a₀.size-lo) (minRun' a₀.size a₀.size 0)=nn;have n1:1<=nn:=by lia
   have n2:lo+nn<=a₀.size:=by lia
   refine G9 (z5e W hC n2 (by lia) m1 b1 u1 p1 λix2 st2 b2 u2 p2=>?_);clear hnn lt;obtain⟨N',l',r2,push⟩:=fin nn ix2 st2 b2 n1 n2 u2 p2;clear fin;refine G9 (Th ?_)
   cases hb:(pendingOf st2).back? with
   | none=>
     exact G9 (Ta (GA ⟨lo+nn,rfl,push _ r2,by lia⟩))
   | some e=>
     obtain⟨s1,l1,w1⟩:=e;dsimp only;generalize power' a₀.size (2 * s1+l1) (2 * s1+l1+l1+nn) a₀.size=pw;refine G9 (GY (GG (I:=λ_ c st3=>c=(none,())/\RI blt k a₀ kd (λp=>N'.getD p 0) lo st3) (Q:=λc st3=>c=(none,())/\RI blt k a₀ kd (λp=>N'.getD p 0) lo st3) ?_ (λ_ _ y=>y) ⟨rfl,r2⟩) ?_)
     .rintro y c st3 _ _ ⟨rfl,r3⟩;refine G9 (Th ?_)
      by_cases big:(pendingOf st3).size > 1
      .rw[ND big]
       cases hq:(pendingOf st3)[(pendingOf st3).size-2]? with
       | none=>exact GA ⟨rfl,r3⟩
       | some e=>
         obtain⟨e1,e2,older⟩:=e;dsimp only
         by_cases le:older<=pw
         .rw[ND le];exact GA ⟨rfl,r3⟩
         .rw[NE le];refine G9 (znb W hC r3 (by lia) λst4 r4 _=>?_);exact GA ⟨rfl,r4⟩
      .rw[NE big];exact GA ⟨rfl,r3⟩
     .rintro c st3 ⟨rfl,r3⟩;exact G9 (Ta (G9 (Ta (GA ⟨lo+nn,rfl,push _ (md _ pw _ r3),by lia⟩))))
  .rw[NE lt];have n2:lo+m<=a₀.size:=by lia
   obtain⟨N',l',r2,push⟩:=fin m ix1 st1 b1 m1 n2 u1 p1;clear fin lt;generalize m=nn at *;generalize st1=st2 at *;refine G9 (Th ?_)
   cases hb:(pendingOf st2).back? with
   | none=>
     exact G9 (Ta (GA ⟨lo+nn,rfl,push _ r2,by lia⟩))
   | some e=>
     obtain⟨s1,l1,w1⟩:=e;dsimp only;generalize power' a₀.size (2 * s1+l1) (2 * s1+l1+l1+nn) a₀.size=pw;refine G9 (GY (GG (I:=λ_ c st3=>c=(none,())/\RI blt k a₀ kd (λp=>N'.getD p 0) lo st3) (Q:=λc st3=>c=(none,())/\RI blt k a₀ kd (λp=>N'.getD p 0) lo st3) ?_ (λ_ _ y=>y) ⟨rfl,r2⟩) ?_)
     .rintro y c st3 _ _ ⟨rfl,r3⟩;refine G9 (Th ?_)
      by_cases big:(pendingOf st3).size > 1
      .rw[ND big]
       cases hq:(pendingOf st3)[(pendingOf st3).size-2]? with
       | none=>exact GA ⟨rfl,r3⟩
       | some e=>
         obtain⟨e1,e2,older⟩:=e;dsimp only
         by_cases le:older<=pw
         .rw[ND le];exact GA ⟨rfl,r3⟩
         .rw[NE le];refine G9 (znb W hC r3 (by lia) λst4 r4 _=>?_);exact GA ⟨rfl,r4⟩
      .rw[NE big];exact GA ⟨rfl,r3⟩
     .rintro c st3 ⟨rfl,r3⟩;exact G9 (Ta (G9 (Ta (GA ⟨lo+nn,rfl,push _ (md _ pw _ r3),by lia⟩))))
 case rest=>
  rintro c st' ⟨rfl,r⟩
  have pl:(pendingOf st').size<=a₀.size:=by
   obtain⟨N,hl,NA,_,sg⟩:=r.ex;have:=zg2 sg;rw[QW] at this;lia
  refine G9 (GY (GG (I:=λx c st2=>c=(none,())/\RI blt k a₀ kd (λp=>p) a₀.size st2/\(pendingOf st2).size+x<=a₀.size) (Q:=λc st2=>c=(none,())/\RI blt k a₀ kd (λp=>p) a₀.size st2/\(pendingOf st2).size<=1) ?_ ?_ ⟨rfl,r,pl⟩) ?_)
  .rintro x c st2 _ hx ⟨rfl,r2,z⟩;refine G9 (Th ?_)
   by_cases le:(pendingOf st2).size<=1
   .rw[ND le];exact GA ⟨rfl,r2,le⟩
   .rw[NE le];refine G9 (znb W hC r2 ?_ λst4 r4 q4=>?_)
    .by_cases c:(Option.any (λx=>decide (x<(pendingOf st2)[(pendingOf st2).size-2+1]?.elim 0 λx=>x.snd.fst)) (if(pendingOf st2).size-2 > 0 then Option.map (λx=>x.snd.fst) (pendingOf st2)[(pendingOf st2).size-2-1]? else none))=true
     .rw[ND c];lia
     .rw[NE c];lia
    .simp only[Gr,QM,NJ];exact GA ⟨rfl,r4,by lia⟩
  .rintro c st2 ⟨rfl,r2,z⟩;exact⟨rfl,r2,by lia⟩
  .rintro c st2 ⟨rfl,r2,z⟩;refine GA ?_;obtain⟨N,hl,NA,_,sg⟩:=r2.ex;rw[<- QW] at z;generalize (pendingOf st2).toList=l at sg z
   match l,sg,z with
   | [],sg,_=>exact absurd (show 0=a₀.size from sg) (by lia)
   | [(_,n,_)],sg,_=>
     obtain⟨_,_,ok,e⟩:=sg;have e:0+n=a₀.size:=e;obtain rfl:n=a₀.size:=by lia
     have ee:(N.drop 0).take a₀.size=N:=by rw[JZ,Jq (by lia)]
     have pw:=ok.1;rw[ee] at pw
     have rk:∀i j,i<j->j<a₀.size->Rk blt k (N.getD i 0) (N.getD j 0):=λi j hij hj=>by
      have:=QX.mp pw i j (by lia) (by lia) hij;simpa[Z0,Qb (show i<N.length by lia),Qb (show j<N.length by lia)] using this
     have irr:∀a,¬Rk blt k a a:=λa h=>by
      rcases h with h|⟨_,h⟩
      .rw[W.irr] at h;cases h
      .lia
     have nd:N.Nodup:=List.Pairwise.imp (S:=λx y=>x≠y) (λ{x y} h (e:x=y)=>irr x (by rw[<- e] at h;exact h)) pw
     have gt:∀i,i<a₀.size->N[i]? = some (N.getD i 0):=λi hi=>by
      unfold Z0;rw[Qb (by lia)];rfl
     have lt:∀i,i<a₀.size->N.getD i 0<a₀.size:=λi hi=>NA.2 _ (Qz (gt i hi));refine h (λi=>N.getD i 0) st2 (by rw[NA.size,hl]) (λi hi=>?_) ⟨lt,λi j hi hj e=>?_,λp hp=>?_⟩ r2.fa rk
     .obtain⟨x,e1,e2,_⟩:=NA.get (i:=i) (by lia);rw[e1,e2]
     .rcases Vl i j with t|t|t
      .exact absurd (rk i j t hj) (by rw[show N.getD i 0=N.getD j 0 from e];exact irr _)
      .exact t
      .exact absurd (rk j i t hi) (by rw[show N.getD i 0=N.getD j 0 from e];exact irr _)
     .by_cases mem:p∈N
      .obtain⟨i,hi,e⟩:=QT mem;refine⟨i,by lia,?_⟩;unfold Z0;rw[Qb hi,e];rfl
      .have:=zt0 (zs:=p::N) (ys:=Q2 a₀.size) (QQ.mpr ⟨mem,nd⟩) λz hz=>Zf.mpr (by
        rcases Qs.mp hz with rfl|hz
        .exact hp
        .exact NA.2 z hz)
       rw[Qk,Zb,hl] at this;lia
end
end L6
namespace HK
open PySem PySem.Spec PyProof.Rows PySem.W
mutual
def dlt:G7->G7->Bool
 | .int i,.int j=>decide (i<j)
 | .str x,.str y=>decide (x.cps.toList<y.cps.toList)
 | .tuple xs,.tuple ys=>dlts xs ys
 | _,_=>false
def dlts:List G7->List G7->Bool
 | [],[]=>false
 | [],_::_=>true
 | _::_,[]=>false
 | x::xs,y::ys=>if Q9 x y then dlts xs ys else dlt x y
end
inductive Sh where
 | n
 | t
 | arr (s:Sh)
 | fnil
 | fcons (a r:Sh)
def zaj:Sh->G7->Prop
 | .n,d=>∃i,d = .int i
 | .t,d=>∃x,d = .str x
 | .arr s,d=>∃xs,d = .tuple xs/\∀x∈xs,zaj s x
 | .fnil,d=>d = .tuple []
 | .fcons a r,d=>∃x xs,d = .tuple (x::xs)/\zaj a x/\zaj r (.tuple xs)
theorem ztl:∀{ds:List G7},(∀d∈ds,hk d=true)->hks ds=true
 | [],_=>rfl
 | d::ds,h=>by rw[hks,h d (by simp),ztl λe z=>h e (Qe _ z)];rfl
theorem ziy:∀(σ:Sh) (d:G7),zaj σ d->hk d=true
 | .n,_,⟨_,e⟩=>by subst e;rfl
 | .t,_,⟨_,e⟩=>by subst e;rfl
 | .arr s,_,⟨xs,e,h⟩=>by subst e;rw[hk];exact ztl λd z=>ziy s d (h d z)
 | .fnil,_,e=>by subst e;rfl
 | .fcons a r,_,⟨x,xs,e,h1,h2⟩=>by
   subst e;have:=ziy r _ h2;rw[hk] at this;rw[hk,hks,ziy a x h1,this];rfl
theorem zja{d:G7}(h:zaj σ d)(h':zaj σ e):Q9 d e=true↔d=e:=L3.eqv_solid d e (zib d (ziy σ d h)) (zib e (ziy σ e h'))
structure TO(F:G7->Prop):Prop where
 irr:∀a,F a->dlt a a=false
 tr:∀a b c,F a->F b->F c->dlt a b=true->dlt b c=true->dlt a c=true
 tri:∀a b,F a->F b->dlt a b=true\/a=b\/dlt b a=true
theorem zcl(hx:zaj σ x)(hy:zaj σ y)(xs ys:List G7):dlts (x::xs) (y::ys)=true↔(x=y/\dlts xs ys=true)\/(x≠y/\dlt x y=true):=by
 rw[dlts]
 by_cases e:x=y
 .rw[ND ((zja hx hy).mpr e)];simp[e]
 .rw[NE (λc=>e ((zja hx hy).mp c))];simp[e]
theorem zoa(T:TO (zaj σ)):∀{xs:List G7},(∀x∈xs,zaj σ x)->dlts xs xs=false
 | [],_=>rfl
 | x::xs,h=>by
   have hx:=h x (by simp);rw[dlts,ND ((zja hx hx).mpr rfl)];exact zoa T λy z=>h y (Qe _ z)
theorem zpe(T:TO (zaj σ))(hx:zaj σ x)(hy:zaj σ y)(hz:zaj σ z)(ih:dlts xs ys=true->dlts ys zs=true->dlts xs zs=true)(h1:dlts (x::xs) (y::ys)=true)(h2:dlts (y::ys) (z::zs)=true):dlts (x::xs) (z::zs)=true:=by
 rw[zcl hx hz];rcases(zcl hx hy xs ys).mp h1 with ⟨rfl,a⟩|⟨a,b⟩
 .rcases(zcl hx hz ys zs).mp h2 with ⟨rfl,c⟩|⟨c,d⟩
  .exact .inl ⟨rfl,ih a c⟩
  .exact .inr ⟨c,d⟩
 .rcases(zcl hy hz ys zs).mp h2 with ⟨rfl,c⟩|⟨c,d⟩
  .exact .inr ⟨a,b⟩
  .have t:=T.tr x y z hx hy hz b d;refine .inr ⟨λe=>?_,t⟩;rw[e,T.irr z hz] at t;cases t
theorem zo2(T:TO (zaj σ)):∀{xs ys zs:List G7},(∀x∈xs,zaj σ x)->(∀x∈ys,zaj σ x)->(∀x∈zs,zaj σ x)->dlts xs ys=true->dlts ys zs=true->dlts xs zs=true
 | [],[],_,_,_,_,h,_=>by cases h
 | [],_::_,[],_,_,_,_,h=>by cases h
 | [],_::_,_::_,_,_,_,_,_=>rfl
 | _::_,[],_,_,_,_,h,_=>by cases h
 | _::_,_::_,[],_,_,_,_,h=>by cases h
 | x::xs,y::ys,z::zs,a,b,c,h1,h2=>zpe T (a x (by simp)) (b y (by simp)) (c z (by simp)) (zo2 T (λq w=>a q (Qe _ w)) (λq w=>b q (Qe _ w)) (λq w=>c q (Qe _ w))) h1 h2
theorem zmn(T:TO (zaj σ))(hx:zaj σ x)(hy:zaj σ y)(ih:dlts xs ys=true\/xs=ys\/dlts ys xs=true):dlts (x::xs) (y::ys)=true\/x::xs=y::ys\/dlts (y::ys) (x::xs)=true:=by
 rw[zcl hx hy,zcl hy hx]
 by_cases e:x=y
 .subst e;rcases ih with i|i|i
  .exact .inl (.inl ⟨rfl,i⟩)
  .exact .inr (.inl (by rw[i]))
  .exact .inr (.inr (.inl ⟨rfl,i⟩))
 .rcases T.tri x y hx hy with i|i|i
  .exact .inl (.inr ⟨e,i⟩)
  .exact absurd i e
  .exact .inr (.inr (.inr ⟨ZC e,i⟩))
theorem znl(T:TO (zaj σ)):∀{xs ys:List G7},(∀x∈xs,zaj σ x)->(∀x∈ys,zaj σ x)->dlts xs ys=true\/xs=ys\/dlts ys xs=true
 | [],[],_,_=>.inr (.inl rfl)
 | [],_::_,_,_=>.inl rfl
 | _::_,[],_,_=>.inr (.inr rfl)
 | x::xs,y::ys,a,b=>zmn T (a x (by simp)) (b y (by simp)) (znl T (λq w=>a q (Qe _ w)) (λq w=>b q (Qe _ w)))
theorem zzj{x y:Str}(h:x.cps.toList=y.cps.toList):x=y:=by
 obtain⟨a⟩:=x;obtain⟨b⟩:=y
 congr
 exact Array.toList_inj.mp h
theorem zis:∀σ:Sh,TO (zaj σ)
 | .n=>by
   refine⟨λa zz=>?_,λa b c ⟨i,e⟩ ⟨j,e2⟩ ⟨k,e3⟩ h1 h2=>?_,λa b ⟨i,e⟩ ⟨j,e2⟩=>?_⟩
   .obtain⟨i,e⟩:=zz;subst e;simp[dlt]
   .subst e e2 e3;simp[dlt] at *;lia
   .subst e e2;simp[dlt];lia
 | .t=>by
   refine⟨λa zz=>?_,λa b c ⟨i,e⟩ ⟨j,e2⟩ ⟨k,e3⟩ h1 h2=>?_,λa b ⟨i,e⟩ ⟨j,e2⟩=>?_⟩
   .obtain⟨i,e⟩:=zz;subst e;simp[dlt,JH]
   .subst e e2 e3;simp only[dlt,NG] at *;exact YC h1 h2
   .subst e e2;simp only[dlt,NG]
    by_cases c:i.cps.toList<j.cps.toList
    .exact .inl c
    .by_cases c2:j.cps.toList<i.cps.toList
     .exact .inr (.inr c2)
     .exact .inr (.inl (by rw[zzj (Vz (Ju.mp c2) (Ju.mp c))]))
 | .arr s=>by
   have T:=zis s;refine⟨λa zz=>?_,λa b c ⟨xs,e,h⟩ ⟨ys,e2,h2⟩ ⟨zs,e3,h3⟩ h4 h5=>?_,λa b ⟨xs,e,h⟩ ⟨ys,e2,h2⟩=>?_⟩
   .obtain⟨xs,e,h⟩:=zz;subst e;exact zoa T h
   .subst e e2 e3;exact zo2 T h h2 h3 h4 h5
   .subst e e2;rcases znl T h h2 with i|i|i
    .exact .inl i
    .exact .inr (.inl (by rw[i]))
    .exact .inr (.inr i)
 | .fnil=>by
   refine⟨λa e=>?_,λa b c e e2 e3 h4 h5=>?_,λa b e e2=>?_⟩
   .have e:a = .tuple []:=e;subst e;rfl
   .have e:a = .tuple []:=e;have e2:b = .tuple []:=e2;subst e e2;cases h4
   .have e:a = .tuple []:=e;have e2:b = .tuple []:=e2;exact .inr (.inl (e.trans e2.symm))
 | .fcons f r=>by
   have T:=zis f;have U:=zis r;refine⟨λa zz=>?_,λa b c ⟨x,xs,e,h,g⟩ ⟨y,ys,e2,h2,g2⟩ ⟨z,zs,e3,h3,g3⟩ h4 h5=>?_,λa b ⟨x,xs,e,h,g⟩ ⟨y,ys,e2,h2,g2⟩=>?_⟩
   .obtain⟨x,xs,e,h,g⟩:=zz;subst e;show dlts (x::xs) (x::xs)=false;rw[dlts,ND ((zja h h).mpr rfl)];exact U.irr _ g
   .subst e e2 e3;exact zpe T h h2 h3 (λp q=>U.tr _ _ _ g g2 g3 p q) h4 h5
   .subst e e2
    have:=zmn T h h2 (xs:=xs) (ys:=ys) (by
     rcases U.tri _ _ g g2 with i|i|i
     .exact .inl i
     .exact .inr (.inl (by injection i))
     .exact .inr (.inr i))
    rcases this with i|i|i
    .exact .inl i
    .exact .inr (.inl (by rw[i]))
    .exact .inr (.inr i)
theorem zxf(σ:Sh):L6.WO (λa b:{ d:G7 // zaj σ d }=>dlt a.1 b.1):=by
 have T:=zis σ;refine⟨λa=>T.irr _ a.2,λa b c h h'=>T.tr _ _ _ a.2 b.2 c.2 h h',λa b c h=>?_⟩;rcases T.tri a.1 b.1 a.2 b.2 with i|i|i
 .exact .inl i
 .right;rw[<- i];exact h
 .exact .inr (T.tr _ _ _ b.2 a.2 c.2 i h)
end HK
namespace HK
open PySem PySem.Spec PyProof.Rows PySem.W
def LtOk(d e:G7):Prop:=∀(prog:GB) (w:GD) (A:GF) (E:G5->G8->Prop) (s:G8) (v u:G5) (as bs:List Addr) (Q:G5->G8->Prop),Mh s.heap v d as->Mh s.heap u e bs->A.units+d.depth+2<cLine->Q (.bool (dlt d e)) s->wpAny (model prog w) A (GP .Lt v u) Q E s
section
open PySem.SeqAt
open PySem.AutoSeq1 (wpAny_loadPart')
open PySem.MeetsSeq PySem.MeetsSeq2 PySem.MeetsSeq3
theorem zf5(l b:Addr)(items items2:Array G5)(n n2:Nat)(dd dd2:Option Addr)(sl sl2:Array (Option G5))(xs ys:List G7)(hx:Qw xs=true)(hy:Qw ys=true)(hp:∀p∈xs.zip ys,LtOk p.1 p.2):
 Meets (Builtin.«tuple.__lt__» ⟨[.ref l,.ref b],[]⟩)
  (λA R s=>s.heap.get? l=some { cls:=.type "tuple",dict:=dd,data:=.seq items n,slots:=sl }/\s.heap.get? b=some { cls:=.type "tuple",dict:=dd2,data:=.seq items2 n2,slots:=sl2 } /\
   (∃as bs,TU s.heap items.toList xs as/\TU s.heap items2.toList ys bs)/\A.units+Z7 xs+3<cLine/\R (.ok (.ret (.bool (dlts xs ys)))) s) :=
 .of_wp λprog w A R s h=>by
  obtain⟨hp',g,d,tk,os⟩:=s;obtain⟨hl,hb,⟨as,bs,r1,r2⟩,hu,h⟩:=h;have f2:=AutoSeq1.sub_tuple_tuple;have z1:items.size=xs.length:=by simpa using ReadsAll.length _ _ _ r1
  have z2:items2.size=ys.length:=by simpa using ReadsAll.length _ _ _ r2
  wp_walk using MN hl,MN hb,wpAny_forIn_list _ (λrest b s'=>b.1=none/\s'=⟨hp',g,d,tk,os⟩/\∃(vs ws:List G5) (xs' ys':List G7) (as' bs':List Addr),rest=vs.zip ws /\
   TU hp' vs xs' as'/\TU hp' ws ys' bs'/\xs'.length+items2.size=ys'.length+items.size/\Qw xs'=true/\Qw ys'=true/\(∀p∈xs'.zip ys',LtOk p.1 p.2)/\Z7 xs'<=Z7 xs/\R (.ok (.ret (.bool (dlts xs' ys')))) ⟨hp',g,d,tk,os⟩) _
  case turn=>
   rintro⟨y,x⟩ rest b s' ⟨hb',rfl,vs,ws,xs',ys',as',bs',hz,hvi,hwi,hlen,cx,cy,hpp,hdp,hR⟩
   cases hvi with
   | nil=>rw[Vj] at hz;cases hz
   | @cons v vs d1 ds1 a1 b1 q1 hvi'=>
     cases hwi with
     | nil=>rw[U0] at hz;cases hz
     | @cons v2 vs2 d2 ds2 a2 b2 q2 hwi'=>
       rw[JM] at hz;injection hz with hyx hrest;injection hyx with hy' hx';subst hy' hx';rw[dlts] at hR;simp only[Qk] at hlen;simp only[Qw,Qy] at cx cy;rw[Z7] at hdp;refine G4 (eqBoolOverData _ _ _ _ _ _ _ d1 d2 _ _ _ q1 q2 cx.1 cy.1 (by show A.units+1+min d1.depth d2.depth<cLine;lia) ?_)
       cases e:Q9 d1 d2 with
       | true=>
         rw[e,ND rfl] at hR
         wp_walk
         exact⟨rfl,rfl,_,_,_,_,_,_,hrest,hvi',hwi',by lia,cx.2,cy.2,λp z=>hpp p (Qe _ z),by lia,hR⟩
       | false=>
         rw[e,NE Q6] at hR
         have hri:∀(E:G5->G8->Prop) (Q:G5->G8->Prop),Q (.bool (dlt d1 d2)) ⟨hp',g,d,tk,os⟩->wpAny (model prog w) A.in1 (richCompare .Lt y x) Q E ⟨hp',g,d,tk,os⟩:=λE Q q=>
          hpp (d1,d2) (by simp) prog w A.in1 E ⟨hp',g,d,tk,os⟩ y x _ _ Q q1 q2 (by show A.units+1+d1.depth+2<cLine;lia) q
         wp_walk using hri
         exact⟨_,rfl,by simpa using hR⟩
  case fin=>
   rintro⟨b1,b2⟩ s' ⟨hb',rfl,vs,ws,xs',ys',as',bs',hz,hvi,hwi,hlen,cx,cy,hpp,hdp,hR⟩;simp only at hb';subst hb'
   have hv:dlts xs' ys'=decide (items.size<items2.size):=by
    cases hvi with
    | nil=>
      cases hwi with
      | nil=>
        simp only[Yn] at hlen;exact(NI (by lia)).symm
      | cons c u=>
        simp only[Yn,Qk] at hlen;exact(NH (by lia)).symm
    | cons a t=>
      cases hwi with
      | nil=>
        simp only[Yn,Qk] at hlen;exact(NI (by lia)).symm
      | cons c u=>
        rw[JM] at hz;cases hz
   rw[hv] at hR
   wp_walk
   exact⟨_,rfl,by simpa[Builtin.Tuple.tupleCompareSizes] using hR⟩
  case h=>
   exact⟨rfl,rfl,items.toList,items2.toList,xs,ys,as,bs,rfl,r1,r2,by lia,hx,hy,hp,Qg _,h⟩
end
theorem zf1(hx:Qw xs=true)(hy:Qw ys=true)(hp:∀p∈xs.zip ys,LtOk p.1 p.2):LtOk (.tuple xs) (.tuple ys):=λprog w A E s v u as bs Q r1 r2 hu h=>by
 cases r1 with
 | @tuple a o vs c _ _ h1 h2 h3 h4=>
   cases r2 with
   | @tuple a2 o2 vs2 c2 _ _ k1 k2 k3 k4=>
     obtain⟨oc,odd,od,osl⟩:=o;obtain⟨oc2,odd2,od2,osl2⟩:=o2;simp only at h2 h3 k2 k3;subst h2 h3 k2 k3;rw[Ja] at hu
     exact richCompare_meets_room (op:=.Lt) ⟨_,h1,rfl⟩ ⟨_,k1,rfl⟩ PySem.F.slot_tuple_lt PySem.F.entry_tuple_lt (PySem.F.args_tuple_lt_2 _ _) (zf5 a a2 vs vs2 c c2 odd odd2 osl osl2 xs ys hx hy hp)
      ⟨h1,k1,⟨_,_,h4,k4⟩,by lia,show JA (dlts xs ys)≠Value.notImplemented/\Q (.bool (dlts xs ys)) s from⟨(λx=>nomatch x),h⟩⟩ (by lia)
end HK
namespace HK
open PySem PySem.Spec PyProof.Rows PySem.W
def zgz(d e:G7):Prop:=∀(prog:GB) (w:GD) (A:GF) (E:G5->G8->Prop) (s:G8) (v u:G5) (as bs:List Addr) (b:Bool) (Q:Bool->G8->Prop),Mh s.heap v d as->Mh s.heap u e bs->A.units+d.depth+2<cLine->Q (dlt d e) s->wpAny (model prog w) A (oneLt' b v u) Q E s
theorem zjz:∀{xs:List G7},Qw xs=true->∀x∈xs,x.canLay0=true
 | x::xs,h,y,hy=>by
   simp only[Qw,Qy] at h;rcases Qs.mp hy with rfl|hy
   .exact h.1
   .exact zjz h.2 y hy
theorem zgo{d:G7}(L:LtOk d e)(prog:GB)(w:GD)(A:GF)(E:G5->G8->Prop)(s:G8)(v u:G5)(as bs:List Addr)(Q:Bool->G8->Prop)(r1:Mh s.heap v d as)(r2:Mh s.heap u e bs)(hu:A.units+d.depth+2<cLine)(h:Q (dlt d e) s):wpAny (model prog w) A (oneLt' false v u) Q E s :=
 kat_one v u (L prog w A E s v u as bs _ r1 r2 hu h)
theorem zen(hx:Qw xs=true)(hy:Qw ys=true)(hp:∀p∈xs.zip ys,LtOk p.1 p.2):zgz (.tuple xs) (.tuple ys):=λprog w A E s v u as bs b Q r1 r2 hu h=>by
 cases b with
 | false=>exact zgo (zf1 hx hy hp) prog w A E s v u as bs Q r1 r2 hu h
 | true=>
   cases r1 with
   | @tuple a o vs c _ _ h1 h2 h3 h4=>
     cases r2 with
     | @tuple a2 o2 vs2 c2 _ _ k1 k2 k3 k4=>
       obtain⟨oc,odd,od,osl⟩:=o;obtain⟨oc2,odd2,od2,osl2⟩:=o2;simp only at h2 h3 k2 k3;subst h2 h3 k2 k3;rw[Ja] at hu;rw[oneLt'_eq];simp only[NL];refine G4 (wpAny_cRoomFor_or (.inr (by lia)) ?_);refine G4 (wpAny_callSpecialIfBound?_slot ⟨_,h1,rfl⟩ F.slot_tuple_lt (MC F.slot_tuple_lt ⟨_,h1,rfl⟩ F.entry_tuple_lt (F.args_tuple_lt_2 _ _) (zf5 a a2 vs vs2 c c2 odd odd2 osl osl2 xs ys hx hy hp) ⟨h1,k1,⟨_,_,h4,k4⟩,by lia,?_⟩));exact TL h
theorem zam(h:(YT xs).canLay0=true):Qw xs=true:=by simpa[Z6] using h
theorem both:∀σ:Sh,(∀d e,zaj σ d->zaj σ e->d.canLay0=true->e.canLay0=true->LtOk d e/\zgz d e)/\(∀xs ys,zaj σ (.tuple xs)->zaj σ (.tuple ys)->Qw xs=true->Qw ys=true->∀p∈xs.zip ys,LtOk p.1 p.2/\zgz p.1 p.2)
 | .n=>by
   refine⟨λd e ⟨i,h1⟩ ⟨j,h2⟩ _ _=>?_,λxs ys ⟨i,h1⟩=>by cases h1⟩;subst h1 h2
   have L:LtOk (.int i) (.int j):=λprog w A E s v u as bs Q r1 r2 hu h=>by
    cases r1;cases r2;exact lt_int (by simpa[dlt] using h)
   refine⟨L,λprog w A E s v u as bs b Q r1 r2 hu h=>?_⟩
   cases b with
   | false=>exact zgo L prog w A E s v u as bs Q r1 r2 hu h
   | true=>
     cases r1;cases r2;exact oneLt_int (by simpa[dlt] using h)
 | .t=>by
   refine⟨λd e ⟨i,h1⟩ ⟨j,h2⟩ _ _=>?_,λxs ys ⟨i,h1⟩=>by cases h1⟩;subst h1 h2
   have L:LtOk (.str i) (.str j):=λprog w A E s v u as bs Q r1 r2 hu h=>by
    cases r1;cases r2;exact lt_str (by simpa[dlt] using h)
   refine⟨L,λprog w A E s v u as bs b Q r1 r2 hu h=>?_⟩
   cases b with
   | false=>exact zgo L prog w A E s v u as bs Q r1 r2 hu h
   | true=>
     cases r1;cases r2;exact oneLt_str (by simpa[dlt] using h)
 | .arr s=>by
   obtain⟨B,_⟩:=both s
   have pr:∀xs ys,zaj (.arr s) (.tuple xs)->zaj (.arr s) (.tuple ys)->Qw xs=true->Qw ys=true->∀p∈xs.zip ys,LtOk p.1 p.2/\zgz p.1 p.2:=λxs ys ⟨xs',e1,h1⟩ ⟨ys',e2,h2⟩ c1 c2 p hp=>by
    cases e1;cases e2;obtain⟨q1,q2⟩:=YG (show(p.1,p.2)∈xs.zip ys from hp);exact B p.1 p.2 (h1 _ q1) (h2 _ q2) (zjz c1 _ q1) (zjz c2 _ q2)
   refine⟨λd e hd he cd ce=>?_,pr⟩;obtain⟨xs,rfl,h1⟩:=id hd;obtain⟨ys,rfl,h2⟩:=id he;have hp:=pr xs ys hd he (zam cd) (zam ce);exact⟨zf1 (zam cd) (zam ce) λp z=>(hp p z).1,zen (zam cd) (zam ce) λp z=>(hp p z).1⟩
 | .fnil=>by
   refine⟨λd e hd he _ _=>?_,λxs ys hd _ _ _ p hp=>?_⟩
   .have hd:d = .tuple []:=hd;have he:e = .tuple []:=he;subst hd he;exact⟨zf1 rfl rfl (λp z=>(Zk z).elim),zen rfl rfl (λp z=>(Zk z).elim)⟩
   .have hd:YT xs = .tuple []:=hd;cases hd;cases hp
 | .fcons a r=>by
   obtain⟨B,_⟩:=both a;obtain⟨_,C⟩:=both r
   have pr:∀xs ys,zaj (.fcons a r) (.tuple xs)->zaj (.fcons a r) (.tuple ys)->Qw xs=true->Qw ys=true->∀p∈xs.zip ys,LtOk p.1 p.2/\zgz p.1 p.2:=λxs ys ⟨x,xs',e1,h1,g1⟩ ⟨y,ys',e2,h2,g2⟩ c1 c2 p hp=>by
    cases e1;cases e2;simp only[Qw,Qy] at c1 c2;rw[JM] at hp;rcases Qs.mp hp with rfl|hp
    .exact B x y h1 h2 c1.1 c2.1
    .exact C xs' ys' g1 g2 c1.2 c2.2 p hp
   refine⟨λd e hd he cd ce=>?_,pr⟩;obtain⟨x,xs,rfl,h1,g1⟩:=id hd;obtain⟨y,ys,rfl,h2,g2⟩:=id he;have hp:=pr _ _ hd he (zam cd) (zam ce);exact⟨zf1 (zam cd) (zam ce) λp z=>(hp p z).1,zen (zam cd) (zam ce) λp z=>(hp p z).1⟩
section
variable {prog:GB}{w:GD}{A:GF}{E:G5->G8->Prop}{s:G8}
theorem zmb{b fin:Bool}: ∀(vs us:List G5) (xs ys:List G7) (as bs:List Addr) (i:Nat),TU s.heap vs xs as->TU s.heap us ys bs->Qw xs=true->Qw ys=true->(∀p∈xs.zip ys,zgz p.1 p.2)->A.units+Z7 xs+2<cLine->fin=decide (xs.length<ys.length)->Q (dlts xs ys) s->KatLex prog w A b fin Q (vs.zip us) i s
 | [],us,xs,ys,as,bs,i,r1,r2,_,_,_,_,hf,h=>by
   cases r1;rw[Vj];refine kat_nil ?_
   cases ys with
   | nil=>rw[hf];exact h
   | cons y ys=>rw[hf];exact h
 | v::vs,[],xs,ys,as,bs,i,r1,r2,_,_,_,_,hf,h=>by
   cases r2;rw[U0];refine kat_nil ?_;obtain⟨d,ds',a,b',rfl,_,_⟩:=zdk r1;rw[hf];exact h
 | v::vs,u::us,xs,ys,as,bs,i,r1,r2,c1,c2,hp,hu,hf,h=>by
   obtain⟨d,ds,a1,b1,rfl,q1,t1⟩:=zdk r1;obtain⟨e,es,a2,b2,rfl,q2,t2⟩:=zdk r2;simp only[Qw,Qy] at c1 c2;rw[Z7] at hu;rw[JM];rw[dlts] at h;refine kat_cons (SeqAt.eqBoolOverData _ _ _ _ _ _ _ d e _ _ _ q1 q2 c1.1 c2.1 (by lia) ?_)
   cases he:Q9 d e with
   | true=>
     rw[he,ND rfl] at h;refine kat_yes (zmb vs us ds es b1 b2 (i+1) t1 t2 c1.2 c2.2 (λp z=>hp p (Qe _ z)) (by lia) ?_ h);rw[hf];simp
   | false=>
     rw[he,NE Q6] at h;exact kat_no (hp (d,e) (by simp) prog w A _ s v u a1 a2 _ _ q1 q2 (by show A.units+d.depth+2<cLine;lia) h)
def tyS:Sh->String
 | .n=> "int"
 | .t=> "str"
 | _=> "tuple"
def hdS:Sh->Sh
 | .arr s=>s
 | .fcons a _=>a
 | s=>s
theorem z5f:∀{σ:Sh} {x:G7} {xs:List G7},zaj σ (.tuple (x::xs))->zaj (hdS σ) x
 | .n,_,_,⟨_,e⟩=>by cases e
 | .t,_,_,⟨_,e⟩=>by cases e
 | .arr s,_,_,⟨_,e,h⟩=>by cases e;exact h _ (by simp)
 | .fnil,_,_,e=>by
   have e:YT _=YT []:=e;cases e
 | .fcons a r,_,_,⟨_,_,e,h,_⟩=>by cases e;exact h
theorem zfo(h1:h.get? b=some o)(h2:o.cls = .type "tuple"):Looks M h (Nt (.ref b)) (.type "tuple"):=by
 have:=(show Looks M h (Nt (.ref b)) o.cls from(Looks.ld h1).andThen .now);rw[h2] at this;exact this
theorem zzd: ∀{σ:Sh} {d:G7} {v:G5} {as:List Addr},zaj σ d->Mh h v d as->Looks M h (Nt v) (.type (tyS σ))
 | .n,_,_,_,⟨_,e⟩,r=>by subst e;cases r;exact .now
 | .t,_,_,_,⟨_,e⟩,r=>by subst e;cases r;exact .now
 | .arr s,_,_,_,⟨_,e,_⟩,r=>by
   subst e
   cases r with
   | tuple h1 h2 h3 h4=>exact zfo h1 h2
 | .fnil,_,_,_,e,r=>by
   have e:_=YT []:=e;subst e
   cases r with
   | tuple h1 h2 h3 h4=>exact zfo h1 h2
 | .fcons _ _,_,_,_,⟨_,_,e,_,_⟩,r=>by
   subst e
   cases r with
   | tuple h1 h2 h3 h4=>exact zfo h1 h2
def TupS(σ:Sh)(h:Heap)(v:G5):Prop:=∃b ds as,v = .ref b/\Mh h (.ref b) (.tuple ds) as/\zaj σ (.tuple ds)
theorem zk4: ∀(vs:List G5),(∀v∈vs,TupS σ s.heap v)->∃fs:List (Option G5),fs.length=vs.length/\(∀f,some f∈fs->Looks M s.heap (Nt f) (.type (tyS (hdS σ))))/\∀(E:G5->G8->Prop) (Q:List (Option G5)->G8->Prop),Q fs s->wpAny M A (vs.mapM firstOfTuple') Q E s
 | [],_=>⟨[],rfl,(λf z=>(Zk z).elim),λE Q h=>by rw[List.mapM_nil];exact G6 h⟩
 | v::vs,h=>by
   obtain⟨fs,h1,h2,h3⟩:=zk4 (M:=M) vs λu z=>h u (Qe _ z);obtain⟨b,ds,as,rfl,r,hs⟩:=h v (by simp)
   cases r with
   | @tuple _ o items c _ _ k1 k2 k3 k4=>
     refine⟨items[0]? :: fs,by simp[h1],λf z=>?_,λE Q q=>?_⟩
     .rcases Qs.mp z with z|z
      .cases hv:items.toList with
       | nil=>
         rw[<- QG,hv] at z;cases z
       | cons i its=>
         rw[hv] at k4;obtain⟨d,ds',a1,b1,rfl,q1,q2⟩:=zdk k4;rw[<- QG,hv] at z;cases z;exact zzd (z5f hs) q1
      .exact h2 f z
     .rw[List.mapM_cons];refine G4 ?_;rw[kas_first_eq];refine G4 (Looks.here (show Looks M s.heap (Nt (.ref b)) o.cls from(Looks.ld k1).andThen .now) ?_);rw[k2,NE (by first|decide|simp)];refine G4 (Mq k1 k3 (G6 ?_));exact G4 (h3 _ _ (G6 q))
theorem zx3{M:Model}{σ:Sh}{vs:List G5}(h:∀v∈vs,TupS σ s.heap v)(h2:2<=vs.length):∃kd:Tg,(kd=tuples' true\/kd=tuples' false\/kd=N7\/kd=N9)/\∀(E:G5->G8->Prop) (Q:Tg->G8->Prop),Q kd s->wpAny M A (keyKind' vs.toArray) Q E s:=by
 obtain⟨fs,l1,l2,l3⟩:=zk4 (M:=M) (A:=A) vs h;have beqT:∀T:G5,(∃x,T = .type x)->(T == T)=true:=λT ⟨x,e⟩=>by subst e;simp
 by_cases ha:fs.toArray.all (λx=>x.isSome)=true
 .refine⟨tuples' (Zs (tyS (hdS σ)) != Zs "tuple"),?_,λE Q q=>?_⟩
  .cases (Zs (tyS (hdS σ)) != Zs "tuple")
   .exact .inr (.inl rfl)
   .exact .inl rfl
  .rw[Nw,JX,NN];refine G4 (G4 (l3 _ _ (G6 ?_)));rw[ND ha];refine G4 (GZ ?_);have hfm:(fs.toArray.filterMap id)=(fs.filterMap id).toArray:=by simp
   have hlen:0<(fs.filterMap id).length:=by
    cases fs with
    | nil=>simp at l1;lia
    | cons f fr=>
      cases f with
      | none=>simp at ha
      | some f=>simp
   rw[hfm,oneTypeOnly'_eq,JX,NN];refine G4 (G4 (G4 (kas_mapM (r:=Zs (tyS (hdS σ))) _ (λv hv Q' hq=>(l2 v (by simpa using hv)).here hq) (G6 ?_))));generalize fs.filterMap id=gs at hlen ⊢
   obtain⟨g,gr,rfl⟩:∃g gr,gs=g::gr:=by
    match gs,hlen with
    | g::gr,_=>exact⟨g,gr,rfl⟩
   have hall2:((UA (λ_=>Zs (tyS (hdS σ))) (g::gr)).toArray.all λx=>x == Zs (tyS (hdS σ)))=true:=by
    simp only[UX,V8,Z8];intro _ _;exact beqT _ ⟨_,rfl⟩
   have h0:(UA (λ_=>Zs (tyS (hdS σ))) (g::gr)).toArray[0]? = some (Zs (tyS (hdS σ))):=by simp
   rw[h0];simp only[hall2,NL];exact G6 (G6 q)
 .by_cases hf:(fs.toArray[0]?.bind id).isSome=true
  .refine⟨N7,.inr (.inr (.inl rfl)),λE Q q=>?_⟩;rw[Nw,JX,NN];refine G4 (G4 (l3 _ _ (G6 ?_)));rw[NE ha,ND hf];exact G6 q
  .refine⟨N9,.inr (.inr (.inr rfl)),λE Q q=>?_⟩;rw[Nw,JX,NN];refine G4 (G4 (l3 _ _ (G6 ?_)));rw[NE ha,NE hf];rw[oneTypeOnly'_eq,JX,NN];refine G4 (G4 (G4 (kas_mapM (r:=Zs "tuple") _ (λv hv Q' hq=>?_) (G6 ?_))))
   .obtain⟨b,ds,as,rfl,r,hs⟩:=h v hv
    cases r with
    | tuple k1 k2 k3 k4=>
      exact(zfo k1 k2).here hq
   .obtain⟨v₁,rest,rfl⟩:∃v₁ rest,vs=v₁::rest:=by
     match vs,h2 with
     | v₁::rest,_=>exact⟨v₁,rest,rfl⟩
    have hall2:((UA (λ_=>Zs "tuple") (v₁::rest)).toArray.all λx=>x == Zs "tuple")=true:=by
     simp only[UX,V8,Z8];intro _ _;exact beqT _ ⟨_,rfl⟩
    have h0:(UA (λ_=>Zs "tuple") (v₁::rest)).toArray[0]? = some (Zs "tuple"):=by simp
    rw[h0];simp only[hall2,NL];exact G6 (G6 q)
theorem zpd{σ:Sh}{kd:List G7}{d0:G7}(h0:zaj σ d0)(h:∀d∈kd,zaj σ d)(i:Nat):zaj σ (kd.getD i d0):=by
 rw[Qj]
 cases e:kd[i]? with
 | none=>exact h0
 | some d=>exact h d (Qz e)
open L6 in
theorem zyj{σ:Sh}{kd:List G7}{vs:List G5}{d0:G7}(h0:zaj σ d0)(hs:∀d∈kd,zaj σ d)(hl:kd.length=vs.length)(la:∀d∈kd,d.canLay0=true)(de:∀d∈kd,d.depth<=8)(hu:A.units+12<cLine)
 (hk:∀(i:Nat) v d,vs[i]? = some v->kd[i]? = some d->∃b ds as,v = .ref b/\d = .tuple ds/\Mh s.heap (.ref b) d as):KeysOk prog w A s vs vs (λa b:{ d:G7 // zaj σ d }=>dlt a.1 b.1) (λi=>⟨kd.getD i d0,zpd h0 hs i⟩):=by
 have hk':∀(i:Nat) v,vs[i]? = some v->∃b ds as,v = .ref b/\kd.getD i d0 = .tuple ds /\ .tuple ds∈kd/\Mh s.heap (.ref b) (.tuple ds) as:=λi v e=>by
  have hi:i<kd.length:=by rw[hl];exact(Qn.mp e).1
  obtain⟨b,ds,as,e1,e2,r⟩:=hk i v kd[i] e (Qb hi);refine⟨b,ds,as,e1,?_,?_,by rw[<- e2];exact r⟩
  .rw[Qj,Qb hi];exact e2
  .rw[<- e2];exact Zi hi
 refine⟨zxf σ,λh2=>?_⟩
 obtain⟨kk,c,q⟩:=zx3 (M:=model prog w) (A:=A) (σ:=σ) (s:=s) (vs:=vs) (λv hv=>by
  obtain⟨i,hi⟩:=JT.mp hv;obtain⟨b,ds,as,e1,_,e3,r⟩:=hk' i v hi
  exact⟨b,ds,as,e1,r,hs _ e3⟩) h2
 refine⟨kk,q,λi j x p y q' E Q hi hj h=>?_⟩;obtain⟨b,ds,as,rfl,g1,m1,r1⟩:=hk' i x (zcq rfl hi).1;obtain⟨b2,ds2,as2,rfl,g2,m2,r2⟩:=hk' j y (zcq rfl hj).1;dsimp only at h;rw[g1,g2] at h;have de1:=de _ m1;rw[Ja] at de1;have hp:=(both σ).2 ds ds2 (hs _ m1) (hs _ m2) (zam (la _ m1)) (zam (la _ m2));have one:∀b':Bool,wpAny (model prog w) A (oneLt' b' (.ref b) (.ref b2)) Q E s:=λb'=>zen (zam (la _ m1)) (zam (la _ m2)) (λp z=>(hp p z).1) prog w A E s _ _ as as2 b' Q r1 r2 (by rw[Ja];lia) h
 have lex:∀b':Bool,wpAny (model prog w) A (keyLt' (tuples' b') (.ref b) (.ref b2)) Q E s:=λb'=>by
  cases r1 with
  | tuple k1 k2 k3 k4=>
    cases r2 with
    | tuple l1 l2 l3 l4=>
      refine kat_lt k1 k3 l1 l3 (zmb _ _ ds ds2 _ _ 0 k4 l4 (zam (la _ m1)) (zam (la _ m2)) (λp z=>(hp p z).2) (by lia) ?_ h);have z1:=VP _ _ _ k4;have z2:=VP _ _ _ l4;simp at z1 z2;rw[z1,z2]
 rcases c with rfl|rfl|rfl|rfl
 .exact lex true
 .exact lex false
 .exact one false
 .exact one true
end
end HK
namespace HK
open PySem PySem.Spec PyProof.Rows SX L6
section
variable {prog:GB}{w:GD}{A:GF}{E:G5->G8->Prop}{s:G8}
abbrev zcu(h:Heap)(a:Addr)(vs:List G5):Heap:=((h.update a (Zt λ_=>#[])).push (seqObj "tuple" vs.toArray 0)).push (seqObj "list" #[] 0)
theorem zrr{α:Type}{blt:α->α->Bool}{k:Nat->α}{n:Nat}(ho:s.heap.get? a=some (seqObj "list" vs.toArray n))(h64:vs.length<64)(K:KeysOk prog w A { s with heap:=zcu s.heap a vs } vs vs blt k)
 (h:∀ix,Ord blt k vs.length ix->P (.done (.ret .none)) { s with heap:=Mw s.heap a vs (zbj vs ix).toArray }):wpAny (model prog w) A (Builtin.«list.sort» ⟨[.ref a],[]⟩) P E s:=by
 rw[list_sort_plain];have ha:a<s.heap.objs.size:=Qq ho;refine G4 (Mq ho rfl ?_);refine G4 (Ti ho rfl ?_);obtain⟨e1,ho1⟩:∃e1,(s.heap.update a (Zt λ_=>#[])).get? a=some (seqObj "list" #[] e1):=⟨_,TF ho (λ_=>#[])⟩;refine G4 (Mj ho1 rfl ?_);refine G4 (Mb ?_);refine G4 (TJ ?_);refine GK ?_
 have ho6:(zcu s.heap a vs).get? a=some (seqObj "list" #[] e1):=by
  rw[J7 _ _ _ (by rw[T0,Ji];exact Q1 (QJ ha)),J7 _ _ _ (by rw[Ji];exact Q1 ha)];exact ho1
 show wpAny (model prog w) A _ P E { s with heap:=zcu s.heap a vs };dsimp only;have hz:(vs.toArray.zip vs.toArray).size=vs.length:=by simp
 have fin:∀(st':GW) ix,(arrOf st').size=vs.length->(∀i,i<vs.length->(arrOf st')[i]? = (vs.toArray.zip vs.toArray)[ix i]?)->GX st'=none->Ord blt k vs.length ix ->
  wpAny (model prog w) A (do
   let touched:=(<- seqEpoch a) != e1
   Yw (.ref a) λ_=>(arrOf st').map (·.2)
   if let some e:=GX st' then rule "list.sort.comparison-raised";throw e
   if touched then rule "list.sort.modified";raiseError "ValueError" "list modified during sort"
   ret .none) P E { s with heap:=zcu s.heap a vs }:=λst' ix z1 z2 z3 o=>by
  have ep:=zjx rfl o.bj z1 z2;refine G4 (Mj ho6 rfl ?_)
  refine G4 (Ti ho6 rfl ?_ (hsz2:=by
   rw[GE,ep];simp[zbj]
   lia))
  rw[z3];simp only[NO,QM,NJ];rw[ep];exact G6 (h ix o)
 by_cases h2:vs.toArray.size<2
 .rw[ND h2,ND h2];refine G4 (G6 ?_);rw[VF];refine G4 (G6 ?_);have h2':vs.length<2:=by simpa using h2
  exact fin (V9 N7 (vs.toArray.zip vs.toArray) #[] 7 none) (λi=>i) hz (λi _=>rfl) rfl ⟨Bij.idf,λi j z1 z2=>by lia⟩
 .rw[NE h2,NE h2];have h2':2<=vs.length:=by simpa using h2
  obtain⟨kd,kk,cm⟩:=K.kd h2';refine G4 (kk _ _ ?_)
  refine G4 (GM (zyb (kd:=kd) (st:=V9 kd (vs.toArray.zip vs.toArray) #[] 7 none) (Q:=λ_ st'=>∃ix,(arrOf st').size=vs.length/\(∀i,i<vs.length->(arrOf st')[i]? = (vs.toArray.zip vs.toArray)[ix i]?)/\GX st'=none/\Ord blt k vs.length ix)
   K.wo cm ⟨rfl,λi _=>rfl,Bij.idf,rfl,rfl,rfl⟩ (by lia) (by lia) λix st' z1 z2 z3 z4 z5=>?_) ?_ λ_ _ e=>e)
  .rw[hz] at z1 z2 z3 z5;exact⟨ix,z1,z2,z4,z3,z5⟩
  .rintro⟨⟨⟩,st'⟩ s' ⟨rfl,ix,z1,z2,z3,z4⟩;exact fin st' ix z1 z2 z3 z4
theorem perm_map_inv{α β:Type}{f:α->β}:∀{vs:List β} {l:List α},vs.Perm (l.map f)->∃l':List α,l'.Perm l/\l'.map f=vs
 | [],l,h=>by
   have:=h.length_eq;simp at this;exact⟨[],by rw[Jo.mp this.symm],rfl⟩
 | v::vs,l,h=>by
   obtain⟨x,hx,rfl⟩:=Qp.mp (h.mem_iff.mp (Qu));obtain⟨l1,l2,rfl⟩:=List.append_of_mem hx;rw[QE,Q8] at h;have h':=(h.trans Yc).cons_inv;rw[<- QE] at h';obtain⟨l',a,b⟩:=perm_map_inv h';exact⟨x::l',(a.cons x).trans Yc.symm,by rw[Q8,b]⟩
end
end HK
namespace L3
open PySem PySem.Spec
open PyProof.Rows hiding St
open L2 SX HK
theorem zks:∀(qs:List (Addr×G7)),Vals (qs.map λq=>V.ref q.1) (qs.map λq=>ZH q.1)
 | []=>.nil
 | b::bs=>.cons rfl (zks bs)
theorem zn7{K:Qa}{F:Addr->Prop}{H:Hp}:∀{qs:List (Addr×G7)},(∀q∈qs,Is K F H (.ref q.1) q.2)->IsAll K F H (qs.map λq=>V.ref q.1) (qs.map (·.2))
 | [],_=>.nil
 | q::qs,h=>.cons (h q (by simp)) (zn7 λr z=>h r (Qe _ z))
end L3
namespace L6
open PySem PyProof.Rows
section
variable {prog:GB}{w:GD}{A:GF}{E:G5->G8->Prop}{s:G8}
theorem zvf{α:Type}{blt:α->α->Bool}{k:Nat->α}{e ea:Nat}(hl:ks.length=vs.length)(h64:vs.length<=1000000)
 (hk:s.heap.get? kS=some (seqObj "list" ks.toArray e)) (ha:s.heap.get? a=some (seqObj "list" #[] ea)) (hne:kS≠a) (K:KeysOk prog w A s ks vs blt k)
 (h:∀ix,Ord blt k vs.length ix->P (.done (.ret .none)) { s with heap:=(s.heap.update kS (Zt λ_=>#[])).update a (Zt λ_=>(zbj vs ix).toArray) }) :
 wpAny (model prog w) A (ksk_end a false vs.toArray ea (.ref kS) ks.toArray) P E s:=by
 have hz:(ks.toArray.zip vs.toArray).size=vs.length:=by simp[hl]
 have ha2:(s.heap.update kS (Zt λ_=>#[])).get? a=some (seqObj "list" #[] ea):=by
  have:=TF hk (λ_=>#[]);rw[Z9 _ _ _ _ (ZC hne)];exact ha
 have fin:∀(st':GW) ix,(arrOf st').size=vs.length->(∀i,i<vs.length->(arrOf st')[i]? = (ks.toArray.zip vs.toArray)[ix i]?)->GX st'=none->Ord blt k vs.length ix ->
  wpAny (model prog w) A (ksk_tail a false ea (.ref kS) st') P E s:=λst' ix z1 z2 z3 o=>by
  have ep:=zjx hl o.bj z1 z2;unfold ksk_tail;dsimp only;refine G4 (Ti hk rfl ?_ (by rw[GE];simp;lia));refine G4 (wpAny_letGo ?_);refine G4 (Mj ha2 rfl ?_)
  refine G4 (Ti ha2 rfl ?_ (hsz2:=by
   rw[GE];simp only[QM,NJ];rw[ep];simp[zbj]
   lia))
  rw[z3];simp only[NO,QM,NJ];rw[ep];exact G6 (h ix o)
 unfold ksk_end;dsimp only;simp only[QM,NJ]
 by_cases h2:vs.toArray.size<2
 .rw[ND h2,ND h2];refine G4 (G6 ?_);rw[VF];refine G4 (G6 ?_);have h2':vs.length<2:=by simpa using h2
  refine fin _ (λi=>i) hz (λi _=>rfl) rfl ⟨Bij.idf,λi j z1 z2=>by lia⟩
 .rw[NE h2,NE h2];have h2':2<=vs.length:=by simpa using h2
  obtain⟨kd,kk,cm⟩:=K.kd h2';refine G4 (kk _ _ ?_)
  refine G4 (GM (zn2 (kd:=kd) (st:=V9 kd (ks.toArray.zip vs.toArray) #[] 7 none) (Q:=λ_ st'=>∃ix,(arrOf st').size=vs.length/\(∀i,i<vs.length->(arrOf st')[i]? = (ks.toArray.zip vs.toArray)[ix i]?)/\GX st'=none/\Ord blt k vs.length ix)
   K.wo cm ⟨rfl,λi _=>rfl,Bij.idf,rfl,rfl,rfl⟩ (by lia) λix st' z1 z2 z3 z4 z5=>?_) ?_ λ_ _ e=>e)
  .rw[hz] at z1 z2 z3 z5;exact⟨ix,z1,z2,z4,z3,z5⟩
  .rintro⟨⟨⟩,st'⟩ s' ⟨rfl,ix,z1,z2,z3,z4⟩;exact fin st' ix z1 z2 z3 z4
theorem zuk{ea:Nat}(J:Nat->List G5->G8->Prop)(h64:vs.length<=1000000)(h0:J 0 [] s)
 (step:∀(i:Nat) (x:G5) (ks:List G5) (s':G8),vs[i]? = some x->ks.length=i->J i ks s'->wpAny (model prog w) A (call f [x]) (λkv s2=>(∃e,s2.heap.get? kS=some (seqObj "list" ks.toArray e))/\J (i+1) (ks ++ [kv]) { s2 with heap:=s2.heap.update kS (Zt (·.push kv)) }) (λ_ _=>False) s')
 (fin:∀(ks:List G5) (s':G8),ks.length=vs.length->J vs.length ks s'->∃(α:Type) (blt:α->α->Bool) (k:Nat->α) (e:Nat),s'.heap.get? kS=some (seqObj "list" ks.toArray e)/\s'.heap.get? a=some (seqObj "list" #[] ea)/\kS≠a/\KeysOk prog w A s' ks vs blt k /\
  ∀ix,Ord blt k vs.length ix->P (.done (.ret .none)) { s' with heap:=(s'.heap.update kS (Zt λ_=>#[])).update a (Zt λ_=>(zbj vs ix).toArray) }) :
 wpAny (model prog w) A (ksk_rest a f false vs.toArray ea (.ref kS)) P E s:=by
 unfold ksk_rest;refine G4 (GZ ?_);refine G4 ?_;rw[<- Array.forIn_toList];refine ksk_fold (λi s'=>∃ks,ks.length=i/\J i ks s') vs 0 s ⟨[],rfl,h0⟩ (λj x s' hx zz=>?_) λs' zz=>?_
 .obtain⟨ks,hk,hJ⟩:=zz;rw[JN] at hk hJ ⊢;have hj:j<vs.length:=(Qn.mp hx).1;refine G4 (Tt (GM (step j x ks s' hx hk hJ) (λkv s2 ⟨⟨e,h1⟩,h2⟩=>?_) λ_ _ z=>z.elim));dsimp only;refine G4 (Ti h1 rfl ?_ (by rw[GE];simp;lia) (by rw[GE];simp;lia));exact G6 ⟨rfl,ks ++ [kv],by simp[hk],h2⟩
 .obtain⟨ks,hk,hJ⟩:=zz;rw[JN] at hk hJ;obtain⟨α,blt,k,e,h1,h2,h3,h4,h5⟩:=fin ks s' hk hJ;refine G4 (Mq h1 rfl ?_);exact zvf hk h64 h1 h2 h3 h4 h5
end
end L6
namespace HK
open PySem PySem.Spec PyProof.Rows SX L6
section
variable {prog:GB}{w:GD}{A:GF}{E:G5->G8->Prop}{s:G8}
theorem zjm{α:Type}{blt:α->α->Bool}{k:Nat->α}{n:Nat}(ho:s.heap.get? a=some (seqObj "list" vs.toArray n))(h64:vs.length<=1000000)(K:KeysOk prog w A { s with heap:=zcu s.heap a vs } vs vs blt k)
 (h:∀ix,Ord blt k vs.length ix->P (.done (.ret .none)) { s with heap:=Mw s.heap a vs (zbj vs ix).toArray }):wpAny (model prog w) A (Builtin.«list.sort» ⟨[.ref a],[]⟩) P E s:=by
 rw[list_sort_plain];have ha:a<s.heap.objs.size:=Qq ho;refine G4 (Mq ho rfl ?_);refine G4 (Ti ho rfl ?_);obtain⟨e1,ho1⟩:∃e1,(s.heap.update a (Zt λ_=>#[])).get? a=some (seqObj "list" #[] e1):=⟨_,TF ho (λ_=>#[])⟩;refine G4 (Mj ho1 rfl ?_);refine G4 (Mb ?_);refine G4 (TJ ?_);refine GK ?_
 have ho6:(zcu s.heap a vs).get? a=some (seqObj "list" #[] e1):=by
  rw[J7 _ _ _ (by rw[T0,Ji];exact Q1 (QJ ha)),J7 _ _ _ (by rw[Ji];exact Q1 ha)];exact ho1
 show wpAny (model prog w) A _ P E { s with heap:=zcu s.heap a vs };dsimp only;have hz:(vs.toArray.zip vs.toArray).size=vs.length:=by simp
 have fin:∀(st':GW) ix,(arrOf st').size=vs.length->(∀i,i<vs.length->(arrOf st')[i]? = (vs.toArray.zip vs.toArray)[ix i]?)->GX st'=none->Ord blt k vs.length ix ->
  wpAny (model prog w) A (do
   let touched:=(<- seqEpoch a) != e1
   Yw (.ref a) λ_=>(arrOf st').map (·.2)
   if let some e:=GX st' then rule "list.sort.comparison-raised";throw e
   if touched then rule "list.sort.modified";raiseError "ValueError" "list modified during sort"
   ret .none) P E { s with heap:=zcu s.heap a vs }:=λst' ix z1 z2 z3 o=>by
  have ep:=zjx rfl o.bj z1 z2;refine G4 (Mj ho6 rfl ?_)
  refine G4 (Ti ho6 rfl ?_ (hsz2:=by
   rw[GE,ep];simp[zbj]
   lia))
  rw[z3];simp only[NO,QM,NJ];rw[ep];exact G6 (h ix o)
 by_cases h2:vs.toArray.size<2
 .rw[ND h2,ND h2];refine G4 (G6 ?_);rw[VF];refine G4 (G6 ?_);have h2':vs.length<2:=by simpa using h2
  exact fin (V9 N7 (vs.toArray.zip vs.toArray) #[] 7 none) (λi=>i) hz (λi _=>rfl) rfl ⟨Bij.idf,λi j z1 z2=>by lia⟩
 .rw[NE h2,NE h2];have h2':2<=vs.length:=by simpa using h2
  obtain⟨kd,kk,cm⟩:=K.kd h2';refine G4 (kk _ _ ?_)
  refine G4 (GM (zn2 (kd:=kd) (st:=V9 kd (vs.toArray.zip vs.toArray) #[] 7 none) (Q:=λ_ st'=>∃ix,(arrOf st').size=vs.length/\(∀i,i<vs.length->(arrOf st')[i]? = (vs.toArray.zip vs.toArray)[ix i]?)/\GX st'=none/\Ord blt k vs.length ix)
   K.wo cm ⟨rfl,λi _=>rfl,Bij.idf,rfl,rfl,rfl⟩ (by lia) λix st' z1 z2 z3 z4 z5=>?_) ?_ λ_ _ e=>e)
  .rw[hz] at z1 z2 z3 z5;exact⟨ix,z1,z2,z4,z3,z5⟩
  .rintro⟨⟨⟩,st'⟩ s' ⟨rfl,ix,z1,z2,z3,z4⟩;exact fin st' ix z1 z2 z3 z4
end
end HK
namespace L3
open PySem PySem.Spec
open PyProof.Rows hiding St
open L2 L6
def zgx(ws:List (List Nat)):List (List Nat):=ws.mergeSort λa b=>!wlt b a
theorem zln{α β:Type}{r:α->α->Bool}{s:β->β->Bool}{f:α->β}{l:List α}(hr:∀a∈l,∀b∈l,r a b=s (f a) (f b)):(l.mergeSort r).map f=(l.map f).mergeSort s:=List.map_mergeSort hr
theorem zsp: w∈zgx ws↔w∈ws:=U1
theorem zvb(ws:List (List Nat)):(zgx ws).Pairwise λa b=>wlt b a=false:=by
 have:=Yv (le:=λa b=>!wlt b a) (λa b c h1 h2=>?_) (λa b=>?_) ws
 .exact this.imp λh=>by simpa using h
 .have h1:wlt b a=false:=by simpa using h1
  have h2:wlt c b=false:=by simpa using h2
  show(!wlt c a)=true
  cases h:wlt c a with
  | false=>rfl
  | true=>
    rcases zyl c b a h with z|z
    .rw[z] at h2;cases h2
    .rw[z] at h1;cases h1
 .show(!wlt b a || !wlt a b)=true;cases h1:wlt b a <;> cases h2:wlt a b <;> try rfl
  have:=zm5 _ _ _ h1 h2;rw[zg3] at this;cases this
theorem zvo(h:ws.Nodup):(zgx ws).Nodup:=(Yi ws _).nodup_iff.mpr h
theorem zny(h:ws.Nodup):(zgx ws).Pairwise λa b=>wlt a b=true:=by
 have h1:=zvb ws;have h2:(zgx ws).Pairwise λa b=>a≠b:=zvo h;refine(h1.and h2).imp λ{a b} h=>?_
 cases z:wlt a b with
 | true=>rfl
 | false=>exact absurd (zo8 a b z h.1) h.2
theorem zm9{α β:Type}{f:α->β}{l:List α}(h:(l.map f).Nodup):l.Nodup:=by
 have h:=ZP.mp h;exact h.imp λ{a b} h e=>h (NK f e)
theorem zsn{α:Type}[DecidableEq α]:∀{xs ys:List α},xs.Nodup->(∀k∈xs,k∈ys)->xs.length<=ys.length
 | [],_,_,_=>QI _
 | x::xs,ys,h,hs=>by
   have hx:=hs x (by simp);obtain⟨h1,h2⟩:=QQ.mp h
   have:=zsn (xs:=xs) (ys:=ys.erase x) h2 λk hk=>by
    refine(J5 λe:k=x=>h1 (e ▸ hk)).mpr (hs k (Qe _ hk))
   rw[Jm hx] at this;have:=Jt hx;rw[Qk];lia
theorem zy7{n b n' b':Nat}{neg:Bool}{d:G7}(h:Nice n b d)(h':Nice n' b' (.tuple es))(hn:n<=60:=by decide){q:Bool}(hq:q=true↔d∈es):inF neg d (.list es)=some (.o (.bool (if neg then !q else q))):=by
 have e1:es.any (λy=>Q9 y d)=q:=by
  have hs:=h'.sol
  have all:∀y∈es,solid y=true:=by
   have go:∀l:List G7,solids l=true->∀y∈l,solid y=true:=by
    intro l
    induction l with
    | nil=>intro _ y hy;simp at hy
    | cons a l ih=>
      intro hl y hy;simp only[solids,Qy] at hl;rcases Qs.mp hy with z|z
      .rw[z];exact hl.1
      .exact ih hl.2 y z
   exact go es (by simpa[solid] using hs)
  have:(es.any λy=>Q9 y d)=true↔q=true:=by
   rw[hq,UY];constructor
   .rintro⟨y,hy,e⟩;rw[<- (eqv_solid y d (all y hy) h.sol).mp e];exact hy
   .intro hd;exact⟨d,hd,(eqv_solid d d h.sol h.sol).mpr rfl⟩
  generalize (es.any λy=>Q9 y d)=z at this ⊢;cases z <;> cases q <;> simp_all
 have hl:Qw es=true:=by have:=h'.lay;simpa[Z6] using this
 have key:inF neg d (.list es)=if(okD d && Qw es)=true then some (.o (.bool (if neg then !es.any (λy=>Q9 y d) else es.any λy=>Q9 y d))) else none:=by
  cases d <;> rfl
 rw[key,h.okD hn,hl,Bool.and_self,ND rfl,e1]
end L3
namespace L6
open PySem PySem.Spec
open PyProof.Rows hiding St
open L2 L3
section
variable {X:Cx}{pins:List (Addr×Obj)}{σ:St}{H:Hp}{s:G8}
def lenK(y:Str):V:=.int (y.length:Nat)
end
end L6
namespace L3
open PySem PySem.Spec
open PyProof.Rows hiding St
open L2 L6
def zcy(ys:List Str):List Str:=ys.mergeSort λp q=>!decide (((q.length:Nat):Int)<((p.length:Nat):Int))
theorem zkk{K:Qa}{F:Addr->Prop}{H:Hp}:∀ys:List Str,IsAll K F H (ys.map V.str) (ys.map .str)
 | []=>.nil
 | y::ys=>.cons (.str y) (zkk ys)
end L3
namespace L6
open PySem PySem.Spec PyProof.Rows
theorem Ord.perm{α β:Type}{blt:α->α->Bool}{k:Nat->α}{n:Nat}{ix:Nat->Nat}(o:Ord blt k n ix){d:β}{l:List β}(hl:l.length=n):((Q2 n).map λi=>l.getD (ix i) d).Perm l:=by
 have p:((Q2 n).map ix).Perm (Q2 n):=by
  refine(List.perm_ext_iff_of_nodup ?_ UT).mpr λx=>?_
  .refine QX.mpr λi j h1 h2 hij e=>?_;simp only[Y9,ZR] at e;simp only[Qf,Zb] at h1 h2;have:=o.bj.inj i j h1 h2 e;lia
  .rw[Qp,Zf];constructor
   .rintro⟨i,hi,rfl⟩;exact o.bj.lt i (Zf.mp hi)
   .intro hx;obtain⟨i,hi,e⟩:=o.bj.sur x hx;exact⟨i,Zf.mpr hi,e⟩
 have q:=p.map λi=>l.getD i d;rw[Zd] at q
 have e:((Q2 n).map λi=>l.getD i d)=l:=by
  refine Yb (by simp[hl]) λi h1 h2=>?_;simp[Z0,Qb h2]
 rw[e] at q;exact q
theorem zkj:∀{r:List Str} {p:Str},(p::r).Pairwise (λx y=>¬y.cps.toList<x.cps.toList)->Nm p r=true
 | [],p,_=>rfl
 | x::r,p,h=>by
   have c:=Z4.mp h
   have:ltCps x.cps.toList p.cps.toList=false:=by
    cases e:ltCps x.cps.toList p.cps.toList with
    | false=>rfl
    | true=>rw[ltCps_eq] at e;exact absurd (NF e) (c.1 x (by simp))
   show(!ltCps x.cps.toList p.cps.toList && Nm x r)=true;rw[this,zkj c.2];rfl
theorem zr5(h:l.Pairwise λx y=>¬y.cps.toList<x.cps.toList):MI l=true:=by
 cases l with
 | nil=>rfl
 | cons x r=>exact zkj h
end L6
namespace HK
open PySem PySem.Spec PyProof.Rows SX L6
section
variable {prog:GB}{w:GD}{A:GF}{E:G5->G8->Prop}{s:G8}
theorem sort_strA{n:Nat}(ho:s.heap.get? a=some (seqObj "list" vs.toArray n))(hS:MB vs ss)(h64:vs.length<=1000000)
 (h:∀(out:Array G5) (zs:List Str),MB out.toList zs->zs.Perm ss->MI zs=true->P (.done (.ret .none)) { s with heap:=Mw s.heap a vs out }):wpAny (model prog w) A (Builtin.«list.sort» ⟨[.ref a],[]⟩) P E s:=by
 have ln:=StrsAre.length hS;refine zjm ho h64 (znt (xs:=ss) rfl λi v hv=>?_) λix o=>?_
 .obtain⟨y,t,rfl,hy⟩:=hS.item i v hv;exact⟨t,by rw[Qj,hy];rfl⟩
 .refine h _ ((Q2 vs.length).map λi=>ss.getD (ix i) ZJ) ?_ (o.perm ln.symm) (zr5 ?_)
  .have go:∀l:List Nat,(∀i∈l,i<vs.length)->MB (l.map λi=>vs.getD (ix i) .none) (l.map λi=>ss.getD (ix i) ZJ):=by
    intro l
    induction l with
    | nil=>intro _;exact .nil
    | cons i l ih=>
      intro hl;have hx:=o.bj.lt i (hl i (by simp));obtain⟨t,ht⟩:=hS.get (ix i) (ss[ix i]'(by lia)) (Qb (by lia));rw[Q8,Q8,Qj,Qj,ht,Qb (show ix i<ss.length by lia)];exact .cons _ t (ih λj hj=>hl j (by simp[hj]))
   exact go _ λi hi=>Zf.mp hi
  .refine QX.mpr λi j h1 h2 hij=>?_;simp only[Qf,Zb] at h1 h2;simp only[Y9,ZR];rcases o.up i j hij h2 with z|⟨z,_⟩
   .exact λz'=>absurd (YC (NF z) z') (JH _)
   .exact of_decide_eq_false z
end
end HK
namespace L3
open PySem PySem.Spec
open PyProof.Rows hiding St
open L2 L6
theorem zte{a b:List Nat}(h:¬a<b)(h':¬b<a):a=b:=Vz (Ju.mp h') (Ju.mp h)
theorem zk7:∀{p:List Nat} {ws:List (List Nat)},Nm (tx p) (ws.map tx)=true->(p::ws).Pairwise λa b=>¬b<a
 | p,[],_=>by simp
 | p,x::r,h=>by
   have h:(!ltCps (tx x).cps.toList (tx p).cps.toList && Nm (tx x) (r.map tx))=true:=h;rw[Qy,zeh,zeh,ltCps_eq] at h;have h1:¬x<p:=by simpa using h.1
   have h2:=zk7 h.2;refine Z4.mpr ⟨λy hy=>?_,h2⟩;rcases Qs.mp hy with rfl|hy
   .exact h1
   .have h3:=(Z4.mp h2).1 y hy;intro z;have e1:p<=x:=Ju.mp h1;have e2:x<=y:=Ju.mp h3;exact Ju.mpr (List.le_trans e1 e2) z
theorem zuf{ws:List (List Nat)}(h:MI (ws.map tx)=true)(nd:ws.Nodup):ws.Pairwise λa b=>a<b:=by
 have:ws.Pairwise λa b=>¬b<a:=by
  cases ws with
  | nil=>simp
  | cons p r=>exact zk7 h
 refine(this.and nd).imp λ{a b} h=>?_;exact Ye λz=>h.2 (zte z h.1)
def zc9(ws:List (List Nat)):List (List Nat):=ws.mergeSort λp q=>!decide (((q.length:Nat):Int)<((p.length:Nat):Int))
theorem zp6(ws:List (List Nat)):zcy (ws.map tx)=(zc9 ws).map tx:=by
 unfold zcy zc9;refine(zln λa _ b _=>?_).symm;rw[zd2,zd2]
theorem sortLW_mem: x∈zc9 ws↔x∈ws:=U1
theorem zsa(h:ws.Pairwise λa b=>a<b):(zc9 ws).Pairwise λa b=>wlt a b=true:=by
 have tr:∀a b c:List Nat,(!decide (((b.length:Nat):Int)<((a.length:Nat):Int)))=true->(!decide (((c.length:Nat):Int)<((b.length:Nat):Int)))=true->(!decide (((c.length:Nat):Int)<((a.length:Nat):Int)))=true:=λa b c h1 h2=>by
  simp at *;lia
 have tt:∀a b:List Nat,((!decide (((b.length:Nat):Int)<((a.length:Nat):Int))) || (!decide (((a.length:Nat):Int)<((b.length:Nat):Int))))=true:=λa b=>by
  simp;lia
 have up:=Yv tr tt ws;have nd:ws.Nodup:=h.imp λh e=>by rw[e] at h;exact JH _ h
 have nd':(zc9 ws).Nodup:=(Yi ws _).nodup_iff.mpr nd;refine J8.mpr λ{a b} hab=>?_
 have h1:¬b.length<a.length:=by
  have:=J8.mp up hab;simp at this;lia
 have hne:a≠b:=by
  have:=J8.mp nd' hab;exact this
 rw[zg8]
 by_cases hl:a.length<b.length
 .exact .inl hl
 .right;refine⟨by lia,Ye λhlt=>?_⟩;have hba:b<a:=Ye λz=>hne (zte hlt z);have ha:a∈ws:=sortLW_mem.mp (hab.subset (by simp));have hb:b∈ws:=sortLW_mem.mp (hab.subset (by simp))
  have hs:[b,a].Sublist ws:=by
   obtain⟨i,hi,ei⟩:=QT ha;obtain⟨j,hj,ej⟩:=QT hb
   have hij:j<i:=by
    rcases Vl i j with z|z|z
    .have:=QX.mp h i j hi hj z;rw[ei,ej] at this;exact absurd this hlt
    .subst z;exact absurd (ei.symm.trans ej) hne
    .exact z
   have h2:[ws[j],ws[i]].Sublist ws:=by
    have e1:ws=ws.take i++ws.drop i:=(ZB i ws).symm;have s1:[ws[j]].Sublist (ws.take i):=VA.mpr (List.mem_take_iff_getElem.mpr ⟨j,by lia,rfl⟩);have s2:[ws[i]].Sublist (ws.drop i):=VA.mpr (by rw[Zu hi];exact Qu);have:=s1.append s2;rw[ZB] at this;exact this
   rw[ej,ei] at h2;exact h2
  have hs':[b,a].Sublist (zc9 ws):=List.pair_sublist_mergeSort tr tt (by simp;lia) hs
  -- both orders in a list without repeats
  obtain⟨p,hp⟩:∃p,p=zc9 ws:=⟨_,rfl⟩;rw[<- hp] at hab hs' nd';clear hp
  induction p with
  | nil=>simp at hab
  | cons x p ih=>
    obtain⟨n1,n2⟩:=QQ.mp nd'
    by_cases hx:x=a
    .subst hx
     cases hs' with
     | cons _ h=>exact n1 (h.subset (by simp))
     | cons_cons _ h=>exact hne rfl
    .by_cases hx2:x=b
     .subst hx2
      cases hab with
      | cons _ h=>exact n1 (h.subset (by simp))
      | cons_cons _ h=>exact hx rfl
     .cases hab with
      | cons _ h=>
        cases hs' with
        | cons _ h'=>exact ih n2 h' h
        | cons_cons _ h'=>exact hx2 rfl
      | cons_cons _ h=>exact hx rfl
theorem z1y(zs:List Str):∃gs:List (List Nat),zs=gs.map tx:=by
 refine⟨zs.map λs=>s.cps.toList,?_⟩;rw[Zd];refine(List.map_id'' (λs=>?_) zs).symm;show tx s.cps.toList=s;cases s;rfl
end L3
namespace SX
open PySem PySem.Spec PyProof.Rows
section
variable {P:GB}{w:GD}{A:GF}{E:G5->G8->Prop}{s:G8}{it S:Addr}{es:Es}{ep:Nat}{t:GN}
theorem zoh(hh:A.handled=none)(T:Tx P w s.heap S es ep t)(h64:es.size<=1000000)
 (k:∀(h':Heap) (d':N4) (tk:Nat) (out:Array G5) (c:Nat) (zs:List Str) (l:Addr),Ext s.heap h'->s.heap.objs.size<=l->h'.get? l=some (seqObj "list" out c)->MB out.toList zs->zs.Perm (keys es)->MI zs=true->Q (.ref l) { s with heap:=h',drawn:=d',toks:=tk }) :
 wpAny (model P w) A (call (.builtin "sorted") [.ref S]) Q E s:=by
 refine Yf MS MG MD (Ni _) ?_;unfold Builtin.«sorted»;refine G4 (m:=Nc "sorted" 1 1 _) (G6 ?_);refine G4 (zeu (by simpa using hh) T.toSx λh' d' tk vs ex hp hl=>?_);have v64:vs.length<=1000000:=by rw[hp.length_eq];simpa using h64
 refine G4 (TJ ?_ (by rw[GE];lia))
 have hS:MB vs (vs.map strOf):=zpb λv z=>by
  obtain⟨e,he,rfl⟩:=Qp.mp (hp.mem_iff.mp z);obtain⟨⟨x,hx,_⟩,_⟩:=T.el e he;obtain⟨u,hu⟩:=YL hx;exact⟨x,u,hu⟩
 have eL:(h'.push (seqObj "list" vs.toArray 0)).get? h'.objs.size=some (seqObj "list" vs.toArray 0):=Qo _ rfl;refine G4 (GK (GL Mv ⟨_,eL,rfl⟩ Mk (HK.sort_strA (s:={ s with heap:=h'.push (seqObj "list" vs.toArray 0),drawn:=d',toks:=tk }) eL hS v64 λout zs z1 z2 z3=>⟨_,rfl,?_⟩) (MQ _)));obtain⟨c,ec⟩:=Na (out:=out) eL;refine G6 ⟨_,rfl,k _ d' tk _ c zs h'.objs.size (λb o e=>?_) (ZY hl) ec z1 ?_ z3⟩
 .have eb:=ex b o e;have nb:b≠h'.objs.size:=Q1 (Qq eb);show(Mw (h'.push (seqObj "list" vs.toArray 0)) h'.objs.size vs _).get? b=_;rw[MV nb (by rw[T0];exact QJ (Qq eb))];exact Qc _ eb
 .refine z2.trans ?_;have:=hp.map strOf;rw[Zd] at this;exact this
end
end SX
namespace L3
open PySem PySem.Spec
open PyProof.Rows hiding St
open L2 L6
open SX
def tSSA(K:Qa)(te:TE):TE:=λσ H Q=>te σ H λv H1=>∃ys:List Str,TxsV K H1 v ys/\ys.length<=4090/\∀(zs:List Str) p,zs.Nodup->(∀k,k∈zs↔k∈ys)->MI zs=true->H1 p=none->Q (.ref p) (upd H1 p (.lst (zs.map V.str)))
theorem zoq(hc:X.calm=true)(gl:Gl X "sorted")(ml:X.mg "sorted" = none)(gr:Gl X "set")(mr:X.mg "set" = none)(he:PE X e te)
 (s1:GC [.Call (.Name "set" p2) [e] [] p3] X.env=(false,eval (.Call (.Name "set" p2) [e] [] p3) X.env)::GC [] X.env:=by rfl) (s2:GC [e] X.env=(false,eval e X.env)::GC [] X.env:=by rfl) :
 PE X (.Call (.Name "sorted" p1) [.Call (.Name "set" p2) [e] [] p3] [] p4) (tSSA X.K te):=by
 intro pins s σ H Q I h;have calm:=I.ok.hd hc;refine GH (zby I gl ml zdd ?_);refine Jg ?_ s1;rw[s1];show wpAny _ _ (Ms ((false,eval (.Call (.Name "set" p2) [e] [] p3) X.env) :: [])) _ _ s;refine Z1 ?_;refine GH (zby I gr mr (u:=.type "set") rfl ?_);refine ZD ?_ s2;rw[s2];show wpAny _ _ (Ms ((false,eval e X.env) :: [])) _ _ s;refine Z1 (thn (he pins s σ H _ I h) λu s' zz=>?_);obtain⟨y,H1,I1,r1,ys,hy,hz,q⟩:=zz;refine ZM ?_
 have fin:∀(n:Nat) (val:Nat->Str) (h':Heap) (tk:Nat) (es:Es) (ep:Nat) (t:GN),(∀k,(∃j,j<n/\val j=k)↔k∈ys)->Tx X.prog X.w h' s'.heap.objs.size es ep t->(∀x,x∈keys es↔∃j,j<n/\val j=x)->Ext s'.heap h' ->
  wpAny (model X.prog X.w) X.A (Ms []) (λa s₁=>wpAny (model X.prog X.w) X.A (call (.builtin "sorted") (ZH s'.heap.objs.size::a)) (EP X pins σ Q) X.xe s₁) X.xe { s' with heap:=h',toks:=tk }:=λn val h' tk es ep t hv T hk ex=>by
  have mem:∀k,k∈keys es↔k∈ys:=λk=>(hk k).trans (hv k)
  have z64:es.size<=1000000:=by
   have:=zrp T.nd (λk hk=>(mem k).mp hk);simp[keys] at this;lia
  refine ZM ?_;refine zoh (s:={ s' with heap:=h',toks:=tk }) calm T z64 λh2 d2 tk2 out c zs l ex2 hl el st zp zs'=>?_;have lt':s'.heap.objs.size<=l:=QN (ZY (T.lts (s:={ s' with heap:=h',toks:=tk }))) hl;have I2:=(Inv.draw (I1.laid (a:=l) (o:=.lst (zs.map V.str)) (t':=tk2) (h':=h2) (λb o e=>ex2 b o (ex b o e)) lt' ?_) d2)
  .exact⟨.ref l,_,I2,rfl,q zs l (zp.nodup_iff.mpr T.nd) (λk=>by rw[zp.mem_iff];exact mem k) zs' (I1.hok.fresh lt')⟩
  .refine⟨?_,out.toList,c,zef st,by simpa using el⟩;rw[Qf,zp.length_eq];simp only[keys,Qf,QW];exact Td T.lt
 rcases hy with ⟨x,rfl,rfl⟩|⟨a,rfl,hq⟩
 .obtain⟨tk,rfl⟩:=r1;have hn:x.cps.size<=4090:=by simpa using hz
  refine zk9 (T := "str") (val:=λi=>sg (x.cps.getD i 0)) calm (λ_ _=>rfl) ?_ ?_ (by decide) (z3n x tk) (λi v hv=>?_) (by unfold scanBound;lia) λh' tk' es ep t T hk ex=>fin x.cps.size _ h' tk' es ep t (λk=>?_) T hk ex
  .rw[TN];kernel_rfl
  .rw[TN];kernel_rfl
  .obtain⟨c,u,hc,rfl⟩:=hv;exact⟨u,by rw[JW,hc];rfl⟩
  .constructor
   .rintro⟨j,hj,rfl⟩;exact Qp.mpr ⟨x.cps[j],by simp,by simp[hj]⟩
   .intro hk;obtain⟨c,hc,rfl⟩:=Qp.mp hk;obtain⟨j,hj,e⟩:=QT hc;have hj':j<x.cps.size:=by simpa using hj
    exact⟨j,hj',by simp at e;simp[hj',e]⟩
 .cases r1;obtain⟨its,rv,pl,hz2⟩:=I1.list hq;have sa:=zh5 rv;have ln:its.length=ys.length:=by have:=rv.length;simp at this;exact this.symm
  refine zk9 (T := "list") (val:=λi=>ys.getD i (sg 0)) calm (λs₁ ex=>?_) F.sub_list_set VY (by decide) (zsc pl.isList) (λi v hv=>?_) (by unfold scanBound;simp;lia) λh' tk' es ep t T hk ex=>fin _ _ h' tk' es ep t (λk=>?_) T hk ex
  .obtain⟨o,e,c,_⟩:=pl.isList;exact⟨o,ex _ o e,c⟩
  .have hv':its[i]? = some v:=by simpa using hv
   have hi:i<ys.length:=by
    obtain⟨z,_⟩:=Qn.mp hv';lia
   obtain⟨u,hu,ru⟩:=rv.get (i:=i) (x:=V.str ys[i]) (by rw[Qi,Qb hi];rfl);rw[hv'] at hu;cases hu;obtain⟨u,rfl⟩:=ru;exact⟨u,by rw[Qj,Qb hi];rfl⟩
  .have e:its.toArray.size=ys.length:=by simpa using ln
   rw[e];constructor
   .rintro⟨j,hj,rfl⟩;rw[Qj,Qb hj];exact Zi hj
   .intro hk;obtain⟨j,hj,e⟩:=QT hk;exact⟨j,hj,by rw[Qj,Qb hj];exact e⟩
def ssDA(f:DE):DE:=λρ Q=>f ρ λr=>∃ys:List Str,TxsD r.d ys/\ys.length<=4090/\∀zs:List Str,zs.Nodup->(∀k,k∈zs↔k∈ys)->MI zs=true->Q (.n (zs.map .str))
theorem z0w{K:Qa}{O:Ob}{te:TE}{f:DE}(h:ED K O te f):ED K O (tSSA K te) (ssDA f):=λσ H ρ Q Qd S hf k=>by
 refine h σ H ρ _ _ S hf λv H1 r s1 o1 zz=>?_;obtain⟨ys,hy,hl,q⟩:=zz;have i:=o1.is S.ok S.p;have ok:=S.ok;have p1:=s1.p S.p;refine⟨ys,?_,hl,λzs p h1 h2 h3 hn=>?_⟩
 .rcases hy with ⟨x,e,rfl⟩|e
  .rw[e] at i;cases i;exact .inl ⟨x,rfl,rfl⟩
  .rw[e] at i
   cases i with
   | list f1 a1 b1=>
     rw[zfp b1] at a1;exact .inr ⟨_,rfl,.of a1⟩
 .obtain⟨a1,a2⟩:=zc0 (K:=K) ok hn (zfb zs);exact k _ _ _ (s1.trans a1) (a2.ahead ok S.p s1) (q zs h1 h2 h3)
theorem zp0{ι κ:Type}{P:GB}{w:GD}{K:Qa}{mg:Str->Option G5}{base:Heap}{k:Nat}{X:ι->Cx}{O:κ->Ob}{a:Expr}{fa:DE}{p1 p2 p3 p4:Pos}(C:Ctx3 P w K mg base k X)(B:Blt mg)(ha:E3 K X O a fa)(g1:∀i,Gl (X i) "sorted" := by intro i;rfl)(g2:∀i,Gl (X i) "set" := by intro i;rfl)
 (s1:∀i,GC [.Call (.Name "set" p2) [a] [] p3] (X i).env=(false,eval (.Call (.Name "set" p2) [a] [] p3) (X i).env)::GC [] (X i).env:=by intro i;rfl) (s2:∀i,GC [a] (X i).env=(false,eval a (X i).env)::GC [] (X i).env:=by intro i;rfl) :
 E3 K X O (.Call (.Name "sorted" p1) [.Call (.Name "set" p2) [a] [] p3] [] p4) (ssDA fa) :=
 let ⟨_,q,d⟩:=ha
 ⟨tSSA K _,λi=>by
  have h:=zoq (X:=X i) (p1:=p1) (p2:=p2) (p3:=p3) (p4:=p4) (C.calm i) (g1 i) (by rw[C.hmg];exact B.sorted) (g2 i) (by rw[C.hmg];exact B.set) (q i) (s1 i) (s2 i);rw[C.hK] at h
  exact h,λj=>z0w (d j)⟩
theorem zj2{β:Type}{l:List β}{i:Nat}{x:β}(h:l[i]? = some x):l.take (i+1)=l.take i ++ [x]:=by rw[U9,h];rfl
abbrev Ws:=List (List (List Nat))
def Ws.at_(ws:Ws)(n:Nat):List (List Nat):=ws.getD n []
def addW(n:Nat)(st:Ws×Bool)(w:List Nat):Ws×Bool:=if(st.1.at_ n).contains w then st else(st.1.set n (st.1.at_ n ++ [w]),true)
theorem zjd{ws:Ws}{n k:Nat}{l:List (List Nat)}(h:n<ws.length):Ws.at_ (ws.set n l) k=if k=n then l else ws.at_ k:=by
 unfold Ws.at_
 by_cases e:k=n
 .subst e;rw[ND rfl,Qj,Q3 h];rfl
 .rw[NE e,Qj,QB (ZC e),Qj]
structure Grow(st st':Ws×Bool):Prop where
 sub:∀n w,w∈st.1.at_ n->w∈st'.1.at_ n
 same:st'.2=false->st'=st
theorem Grow.refl(st:Ws×Bool):Grow st st:=⟨λ_ _ h=>h,λ_=>rfl⟩
theorem Grow.trans(h:Grow a b)(h':Grow b c):Grow a c:=⟨λn w x=>h'.sub n w (h.sub n w x),λe=>by
 have e1:=h'.same e;rw[e1] at e ⊢
 exact h.same e⟩
theorem zsh{n:Nat}{st:Ws×Bool}{w:List Nat}(hn:n<st.1.length):Grow st (addW n st w)/\w∈(addW n st w).1.at_ n:=by
 unfold addW
 by_cases c:(st.1.at_ n).contains w=true
 .rw[ND c];exact⟨.refl _,by simpa using c⟩
 .rw[NE c];refine⟨⟨λk v hv=>?_,λe=>by cases e⟩,?_⟩
  .rw[zjd hn]
   by_cases e:k=n
   .rw[ND e];rw[e] at hv;exact QC _ hv
   .rw[NE e];exact hv
  .rw[zjd hn,ND rfl];simp
def tot(ws:Ws):Nat:=(ws.map JY).sum
theorem zpi:∀{ws:Ws} {n:Nat} {w:List Nat},n<ws.length->tot (ws.set n (ws.at_ n ++ [w]))=tot ws+1
 | l::ws,0,w,_=>by
   show((l ++ [w])::ws |>.map JY).sum=((l::ws).map JY).sum+1;simp only[Q8,Vw,Ql,Je];lia
 | l::ws,n+1,w,h=>by
   have:=zpi (ws:=ws) (n:=n) (w:=w) (by simpa using h);have e:Ws.at_ (l::ws) (n+1)=Ws.at_ ws n:=rfl;rw[e];show((l::List.set ws n (Ws.at_ ws n ++ [w])).map JY).sum=((l::ws).map JY).sum+1;unfold tot at this;simp only[Q8,Vw];lia
structure Up1(st st':Ws×Bool):Prop where
 le:tot st.1<=tot st'.1
 lt:st'.2=true->st.2=true\/tot st.1<tot st'.1
 ln:st'.1.length=st.1.length
theorem Up1.refl(st:Ws×Bool):Up1 st st:=⟨Qg _,λh=>.inl h,rfl⟩
theorem Up1.trans(h:Up1 a b)(h':Up1 b c):Up1 a c:=⟨QN h.le h'.le,λe=>by
 rcases h'.lt e with z|z
 .rcases h.lt z with y|y
  .exact .inl y
  .exact .inr (QA y h'.le)
 .exact .inr (YY h.le z),h'.ln.trans h.ln⟩
theorem zot{n:Nat}{st:Ws×Bool}{w:List Nat}(hn:n<st.1.length):Up1 st (addW n st w):=by
 unfold addW
 by_cases c:(st.1.at_ n).contains w=true
 .rw[ND c];exact .refl _
 .rw[NE c];have:=zpi (w:=w) hn;exact⟨by show tot st.1<=tot (st.1.set n (st.1.at_ n ++ [w]));lia,λ_=>.inr (by show tot st.1<tot (st.1.set n (st.1.at_ n ++ [w]));lia),by show(st.1.set n _).length=_;rw[QV]⟩
theorem zmk{n:Nat}:∀{l:List (List Nat)} {st:Ws×Bool},n<st.1.length->Up1 st (l.foldl (addW n) st)
 | [],st,_=>.refl _
 | w::l,st,h=>(zot h).trans (zmk (l:=l) (by rw[(zot (w:=w) h).ln];exact h))
def allW(ls:List Nat):Nat->List (List Nat)
 | 0=>[[]]
 | k+1=>[]::ls.flatMap λc=>(allW ls k).map (c :: ·)
theorem zfd: ∀{k:Nat} {w:List Nat},w.length<=k->(∀c∈w,c∈ls)->w∈allW ls k
 | 0,[],_,_=>by simp[allW]
 | 0,c::w,h,_=>by simp at h
 | k+1,[],_,_=>by simp[allW]
 | k+1,c::w,h,hc=>by
   refine Qe _ (Jj.mpr ⟨c,hc c (by simp),Qp.mpr ⟨w,zfd (by simpa using h) λd hd=>hc d (by simp[hd]),rfl⟩⟩)
theorem zfx(h:ls.length<=3):∀k,(allW ls k).length<=(Q2 (k+1)).foldl (λa _=>3 * a+1) 0
 | 0=>by simp[allW]
 | k+1=>by
   have ih:=zfx h k;rw[Gc,ZF];show([]::ls.flatMap λc=>(allW ls k).map (c :: ·)).length<=3 * _+1
   have e:(ls.flatMap λc=>(allW ls k).map (c :: ·)).length=ls.length * (allW ls k).length:=by
    generalize allW ls k=A;clear ih h
    induction ls with
    | nil=>simp
    | cons c ls ih2=>
      rw[J9,Ql,Qf,ih2,Qk,VZ];lia
   rw[Qk,e];have:=Y3 h ih;lia
theorem zdx:∀{zs ys:List (List Nat)},zs.Nodup->(∀z∈zs,z∈ys)->zs.length<=ys.length
 | [],ys,_,_=>QI _
 | z::zs,ys,nd,h=>by
   have n:=QQ.mp nd;have hz:=h z (by simp);have:=zdx (zs:=zs) (ys:=ys.erase z) n.2 λx hx=>(J5 (show x≠z from λe=>n.1 (by rw[<- e];exact hx))).mpr (h x (by simp[hx]));rw[Jm hz] at this;have:=Jt hz;rw[Qk];lia
theorem zs3:∀{ws:Ws} {k:Nat},(∀n,n<ws.length->(ws.at_ n).length<=k)->tot ws<=k * ws.length
 | [],k,_=>by simp[tot]
 | l::ws,k,h=>by
   have h1:=h 0 (by simp);have h1:l.length<=k:=h1;have h2:=zs3 (ws:=ws) (k:=k) λn hn=>h (n+1) (by simpa using hn);unfold tot at h2 ⊢;rw[Q8,Vw,Qk,Nat.mul_add];lia
def wD1(l:List (List Nat)):G7:=.list (l.map λw=>.str (tx w))
def wsD(ws:Ws):G7:=.list (ws.map wD1)
theorem ze0{ws:Ws}{n:Nat}(h:n<ws.length):ws[n]? = some (ws.at_ n):=by
 unfold Ws.at_;rw[Qj,Qb h];rfl
theorem zs9{n:Nat}(h:n<ws.length):idxF (wsD ws) (.int (n:Nat))=some (.o (wD1 (ws.at_ n))):=zoz (by rw[Qi,ze0 h];rfl)
theorem zwt{neg:Bool}(hw:w.length<=4/\∀c∈w,c<1000)(hl:∀v∈l,v.length<=4/\∀c∈v,c<1000)(hz:l.length<=1000):inF neg (.str (tx w)) (wD1 l)=some (.o (.bool (if neg then !l.contains w else l.contains w))):=by
 refine zy7 (zhw (b:=4) hw.2 hw.1) (zh8 (f:=λw=>Y8 (tx w)) (n:=0) (b:=4) (m:=1000) (λv hv=>zhw (hl v hv).2 (hl v hv).1) hz) (by decide) (q:=l.contains w) ?_;rw[Jz,Qp];constructor
 .intro h;exact⟨w,h,rfl⟩
 .rintro⟨v,hv,e⟩;injection e with e;have:=NK (λx:Str=>x.cps.toList) e;have e2:v=w:=by simpa[tx] using this
  rw[<- e2];exact hv
theorem zzm{n:Nat}(h:n<ws.length):dset (wsD ws) [n] (.list ((ws.at_ n).map (λw=>Y8 (tx w)) ++ [.str (tx w)]))=wsD (ws.set n (ws.at_ n ++ [w])):=by
 unfold wsD dset;rw[Qi,ze0 h];show JJ ((ws.map wD1).set n _)=_;rw[List.map_set];unfold wD1 dset;rw[QE];rfl
end L3
namespace L6
open PySem PySem.Spec
open PyProof.Rows hiding St
open L2 L3
section
variable {X:Cx}{pins:List (Addr×Obj)}{σ:St}{H:Hp}{s:G8}
def zpo(ta:TE):TE:=λσ H Q=>ta σ H λv H1=>∃(p:Addr) (ys:List Str),v = .ref p/\H1 p=some (.lst (ys.map V.str))/\ys.length<=1000000/\(∀y∈ys,y.length<=sizeLine) /\
 ∀ix l,Ord (λa b:Int=>decide (a<b)) (λi=>(ys.map λy=>((y.length:Nat):Int)).getD i 0) ys.length ix->H1 l=none->Q (.ref l) (upd H1 l (.lst (zfs .non (ys.map V.str) ix)))
theorem zrx(hg:Gl X "sorted")(hm:X.mg "sorted" = none)(hgl:Gl X "len")(hml:X.mg "len" = none)(ha:PE X a ta)(hs:GC [a] X.env = [(false,eval a X.env)]:=by rfl):
 PE X (.Call (.Name "sorted" p) [a] [⟨some "key",.Name "len" px,kp⟩] pos) (zpo ta):=by
 intro pins s σ H Q I h;refine GH (zby I hg hm zdd ?_);refine callWith_kw ?_ (by rw[hs];rfl) (by rw[hs];rfl) rfl rfl;rw[hs];refine Z1 (thn (ha pins s σ H _ I h) λu s1 zz=>?_);obtain⟨v,H1,I1,r1,q,ys,ev,hq,h64,hys,go⟩:=zz;subst ev;obtain rfl:u=ZH q:=r1;refine ZM ?_;refine kws_cons (zby I1 hgl hml PySem.boot_len (kws_nil ?_));show wpAny (model X.prog X.w) X.A (call (.builtin "sorted") [.ref q] [(Jk "key",.builtin "len")]) _ _ s1;obtain⟨hz,vs,n,rv,hlv,e1⟩:=I1.lstM hq;have hlm:(ys.map V.str).length=ys.length:=Qf ..;have hv64:vs.length<=1000000:=by lia
 refine call_function_entry_kw MS MG MD (PyProof.Rows.ksk_s1 _ _) ?_;unfold Builtin.«sorted»;refine G4 (m:=Nc "sorted" 1 1 _) (G6 ?_);refine G4 (collect_list ⟨_,e1,rfl,n,rfl⟩ ?_ (by rw[GE];lia));refine G4 (TJ ?_);generalize eh0:(s1.heap.push (seqObj "list" #[] 0)).update s1.heap.objs.size (Zt (· ++ vs.toArray))=h0;have sz0:h0.objs.size=s1.heap.objs.size+1:=by rw[<- eh0,Ji,T0]
 have k0:∀b u,s1.heap.get? b=some u->h0.get? b=some u:=λb u e=>by
  rw[<- eh0,Z9 _ _ _ _ (Q1 (Qq e))];exact Qc _ e
 have hoL:(h0.push (seqObj "list" vs.toArray 0)).get? h0.objs.size=some (seqObj "list" vs.toArray 0):=Qo _ rfl;show wpAny (model X.prog X.w) X.A.in1 _ _ _ { s1 with heap:=h0.push (seqObj "list" vs.toArray 0) };refine G4 (GK (wpAny_call_entry_kw Mv ⟨_,hoL,rfl⟩ Mk ?_ (PyProof.Rows.ksk_l1 _ _)));rw[PyProof.Rows.ksk_t4];unfold PyProof.Rows.ksk_tree;refine G4 (Mq hoL rfl ?_);refine G4 (Ti hoL rfl ?_ (by rw[GE];simp;lia));obtain⟨ea,ho1⟩:∃ea,((h0.push (seqObj "list" vs.toArray 0)).update h0.objs.size (Zt λ_=>#[])).get? h0.objs.size=some (seqObj "list" #[] ea):=⟨_,TF hoL (λ_=>#[])⟩;refine G4 (Mj ho1 rfl ?_);refine G4 (Mb ?_);refine G4 (TJ ?_);refine GK ?_;generalize eh2:(h0.push (seqObj "list" vs.toArray 0)).update h0.objs.size (Zt λ_=>#[])=h2 at ho1;have sz2:h2.objs.size=h0.objs.size+1:=by rw[<- eh2,Ji,T0]
 have k2:∀b u,s1.heap.get? b=some u->h2.get? b=some u:=λb u e=>by
  have:=k0 b u e;rw[<- eh2,Z9 _ _ _ _ (Q1 (Qq this))];exact Qc _ this
 -- the list that is sorted,the keys' list
 generalize eq2:h0.objs.size=q2 at ho1 hoL sz2 sz0;generalize eh3:h2.push (seqObj "tuple" vs.toArray 0)=h3;have sz3:h3.objs.size=q2+2:=by rw[<- eh3,T0,sz2]
 have k3:∀b u,h2.get? b=some u->(h3.push (seqObj "list" #[] 0)).get? b=some u:=λb u e=>by
  refine Qc _ ?_;rw[<- eh3];exact Qc _ e
 show wpAny (model X.prog X.w) X.A.in1.in1 (PyProof.Rows.ksk_rest q2 (.builtin "len") false vs.toArray ea (.ref h3.objs.size)) _ _ { s1 with heap:=h3.push (seqObj "list" #[] 0) };have fq:FpOk X pins H1 q2:=I1.fpOk (by lia) (I1.hok.fresh (by lia));have fk:FpOk X pins H1 h3.objs.size:=I1.fpOk (by lia) (I1.hok.fresh (by lia));have hne:h3.objs.size≠q2:=by lia
 have I2:Inv X pins σ H1 { s1 with heap:=h3.push (seqObj "list" #[] 0) }:=I1.kept (t':=s1.toks) λb u e=>k3 b u (k2 b u e);have oq:=k3 _ _ ho1;have ok:(h3.push (seqObj "list" #[] 0)).get? h3.objs.size=some (seqObj "list" #[] 0):=Qo _ rfl;generalize h3.push (seqObj "list" #[] 0)=h4 at I2 oq ok ⊢;generalize h3.objs.size=kS at fk hne ok ⊢
 refine zuk (λi ks s'=>∃(e:Nat),Inv X pins σ H1 s'/\s'.heap.get? q2=some (seqObj "list" #[] ea)/\s'.heap.get? kS=some (seqObj "list" ks.toArray e)/\Vals ((ys.take i).map lenK) ks/\i<=ys.length) hv64
  ⟨0,I2,oq,ok,.nil,QI _⟩ (λi x ks s' hx hk ⟨e,I',o1,o2,rk,hi0⟩=>?_) λks s' hl ⟨e,I',o1,o2,rk,hi0⟩=>?_
 .have hi:i<vs.length:=(Qn.mp hx).1;have hi':i<ys.length:=by lia
  obtain⟨u,hu,ru⟩:=Vals.get rv (i:=i) (x:=V.str ys[i]) (by rw[Qi,Qb hi'];rfl);rw[hx] at hu;cases hu;obtain⟨t,rfl⟩:=ru;have sz:=GE;have hyi:=hys _ (Zi hi');refine P.len_str (by lia) ?_;have I5:Inv X pins σ H1 { s' with toks:=s'.toks+1+1 }:=I'.tok _
  obtain⟨e',eu⟩:∃e',(s'.heap.update kS (Zt (·.push (Jb (ys[i].length:Nat) (s'.toks+1))))).get? kS=some (seqObj "list" (ks ++ [Jb (ys[i].length:Nat) (s'.toks+1)]).toArray e'):=by
   have z:=TF o2 (λxs=>xs.push (Jb (ys[i].length:Nat) (s'.toks+1)));have z2:ks.toArray.push (Jb (ys[i].length:Nat) (s'.toks+1))=(ks ++ [Jb (ys[i].length:Nat) (s'.toks+1)]).toArray:=by simp
   exact⟨_,z.trans (NK (λa=>some (seqObj "list" a _)) z2)⟩
  refine⟨⟨e,o2⟩,e',I5.turned (it:=kS) (t':=s'.toks+1+1) (λb o hb z=>by rw[Z9 _ _ _ _ hb];exact z) fk.1 fk.2.1 fk.2.2.2.1 fk.2.2.2.2.1 fk.2.2.2.2.2,?_,eu,?_,hi'⟩
  .show(s'.heap.update kS _).get? q2=_;rw[Z9 _ _ _ _ (ZC hne)];exact o1
  .rw[Zj hi',QE];exact Vals.append rk (.cons ⟨_,rfl⟩ .nil)
 .have eL:vs.length=ys.length:=by lia
  rw[eL,Zn] at rk
  have kv:KeysV X.K H1 (ys.map lenK) Int (λa b=>decide (a<b)) (λi=>(ys.map λy=>((y.length:Nat):Int)).getD i 0):=by
   have:=KeysV.int (K:=X.K) (H:=H1) (ys.map λy=>((y.length:Nat):Int));rw[Zd] at this;exact this
  refine⟨Int,_,_,e,o2,o1,hne,zus I' kv rk hl,λix o=>⟨_,rfl,G6 ⟨_,rfl,?_⟩⟩⟩;have IA:=I'.turned (it:=kS) (t':=s'.toks) (h':=s'.heap.update kS (Zt λ_=>#[])) (λb o hb z=>by rw[Z9 _ _ _ _ hb];exact z) fk.1 fk.2.1 fk.2.2.2.1 fk.2.2.2.2.1 fk.2.2.2.2.2
  have oA:(s'.heap.update kS (Zt λ_=>#[])).get? q2=some (seqObj "list" #[] ea):=by
   rw[Z9 _ _ _ _ (ZC hne)];exact o1
  refine⟨.ref q2,upd H1 q2 (.lst (zfs .non (ys.map V.str) ix)),IA.adopt (t':=s'.toks) ⟨fq.1,fq.2⟩ (λb u hb z=>by rw[Z9 _ _ _ _ hb];exact z) ?_,rfl,go ix q2 (by rw[<- eL];exact o) fq.1⟩;refine⟨by unfold zfs;rw[Qf,Zb];exact hz,zbj vs ix,_,Vals.pick rv o.bj,TF oA _⟩
end
end L6
namespace L3
open PySem PySem.Spec
open PyProof.Rows hiding St
open L2 L6
def zps(f:DE):DE:=λρ Q=>f ρ λr=>∃ys:List Str,r.d = .list (ys.map .str)/\ys.length<=1000000/\(∀y∈ys,y.length<=sizeLine)/\Q (.n ((zcy ys).map .str))
theorem ztx{K:Qa}{O:Ob}{t:TE}{f:DE}(h:ED K O t f):ED K O (zpo t) (zps f):=λσ H ρ Q Qd S hf k=>by
 refine h σ H ρ _ _ S hf λv H1 r s1 o1 zz=>?_;obtain⟨ys,e,hl,hz,q⟩:=zz;have i:=o1.is S.ok S.p;rw[e] at i
 cases i with
 | list f1 a1 b1=>
   rename_i a xs
   rw[zfp b1] at a1;refine⟨a,ys,rfl,a1,hl,hz,λix l od hn=>?_⟩
   have es:((Q2 ys.length).map λi=>ys.getD (ix i) ZJ)=zcy ys:=by
    have up:Up (λa b:Int=>decide (a<b)) (λi=>((((ys.getD i ZJ)).length:Nat):Int)) ix ys.length:=by
     intro i j hij hj;have:=od.up i j hij hj;have h1:=od.bj.lt i (by lia);have h2:=od.bj.lt j hj
     have key:∀m,m<ys.length->((((ys.getD m ZJ)).length:Nat):Int)=(ys.map λy=>((y.length:Nat):Int)).getD m 0:=λm hm=>by
      simp[Qj,hm]
     unfold Rk at this ⊢;dsimp only at this ⊢;rw[key _ h1,key _ h2];exact this
    have:=zrd (key:=λy:Str=>((y.length:Nat):Int)) (g:=λi=>ys.getD i ZJ) zne up od.bj;rw[this];unfold zcy
    congr 1
    refine Zq λi=>?_
    by_cases hi:i<ys.length
    .simp[hi]
    .rw[Q0 (by simp;lia),Q0 (by lia)]
   have ep:zfs .non (ys.map V.str) ix=(zcy ys).map V.str:=by
    rw[<- es];unfold zfs;rw[Qf,Zd];refine Yg λi hi=>?_;have:=od.bj.lt i (Zf.mp hi);simp[Qj,this]
   rw[ep];obtain⟨c1,c2⟩:=zc0 (K:=K) S.ok hn (zkk (zcy ys));exact k _ _ _ (s1.trans c1) (c2.ahead S.ok S.p s1) q
theorem zrk{ι κ:Type}{P:GB}{w:GD}{K:Qa}{mg:Str->Option G5}{base:Heap}{k:Nat}{X:ι->Cx}{O:κ->Ob}{a:Expr}{fa:DE}{pos p px kp:Pos}(C:Ctx3 P w K mg base k X)(B:Blt mg)(ha:E3 K X O a fa)
 (hg:∀i,Gl (X i) "sorted" := by intro i;rfl) (hgl:∀i,Gl (X i) "len" := by intro i;rfl) (hs:∀i,GC [a] (X i).env = [(false,eval a (X i).env)]:=by intro i;rfl) :
 E3 K X O (.Call (.Name "sorted" p) [a] [⟨some "key",.Name "len" px,kp⟩] pos) (zps fa) :=
 let ⟨_,q,d⟩:=ha;⟨_,λi=>zrx (hg i) (by rw[C.hmg];exact B.sorted) (hgl i) (by rw[C.hmg];exact B.len) (q i) (hs i),λj=>ztx (d j)⟩
section
variable {K:Qa}{O:Ob}
def imJ(i:Nat)(fk:DE):DJ:=λρ Q=>∃ds,ρ[i]? = some (some (.im (.list ds)))/\fk ρ λr=>∃(k:Nat) (es:List G7),r.d = .int (k:Nat)/\ds[k]? = some (.list es)/\Q es
theorem zzl{i:Nat}(hk:ED K O tk fk):SrcR K O (zb0 K (tOp (rIx K) (tVar i) tk)) (imJ i fk):=λH₀ A σ H ρ R Qd r q kk=>by
 obtain⟨ds,e,q⟩:=q;obtain⟨v,hv,z⟩:=r.at_ i _ e;refine⟨v,hv,?_⟩;refine hk σ H ρ _ _ r.seen q λy H1 r1 s1 o1 zz=>?_;obtain⟨k,es,er,ek,q1⟩:=zz;have iy:=o1.is r.ok r.p;rw[er] at iy;cases iy;have oo:Is K (unO O A) H1 v (.list ds):=Is.stp s1 (λ_ z=>z) (λ_ z=>z.1) z
 cases oo with
 | @list a xs _ fa ha hs0=>
   obtain⟨u,g1,g2⟩:=hs0.get ek
   cases g2 with
   | @list b ys _ fb qb rb=>
     have ln:k<xs.length:=(Qn.mp g1).1;refine .inl ⟨a,xs,_,_,rfl,rfl,.of ha,?_,b,rfl,⟨ys,.of qb⟩,?_⟩
     .unfold atI;rw[show ixN xs.length (k:Int)=some k by unfold ixN;rw[ND (by lia),ND (by lia)];rfl];exact g1
     .have hs:IsAll K (unM O) H1 ys es:=rb.weak λb u=>u.1;refine kk (Itl K b) H1 es (λc=>c=b) ⟨s1,λc hc=>by subst hc;exact⟨fb.1,_,qb⟩,λH2 j kb _ hj=>?_,λH2 j d kb t2 hd c=>?_⟩ (λc hc=>by subst hc;exact fb) q1
      .exact⟨ys,.of (kb b _ rfl qb),by rw[hs.length];exact hj⟩
      .obtain⟨w,hw',iw⟩:=zfa (O:=O) hs hd t2 c;have q2:SqL K H2 b ys:=.of (kb b _ rfl qb);refine⟨⟨ys,w,q2,hw'⟩,λx H3 zz=>?_⟩;obtain⟨e3,y⟩:=zz;subst e3;have:=y ys q2;rw[hw'] at this;cases this;exact⟨Same.refl _,iw⟩
end
section
variable {ι κ:Type}{P:GB}{w:GD}{K:Qa}{mg:Str->Option G5}{base:Heap}{k:Nat}{X:ι->Cx}{O:κ->Ob}{pos px p1:Pos}{x:Str}{c a b tg:Expr}{fb:DE}{fc:DT}
theorem z4l(n:Nat)(C:Ctx3 P w K mg base k X)(hc:T3 K X O c fc)(hb:E3 K X O b fb)(ha:E3 K X O a f1)(hN:∀i,(X i).N[n]? = some x:=by intro i;rfl)(hv:∀i,Vis (X i).env.scope x:=by intro i;first|exact Or.inl rfl|exact Or.inr (Or.inl rfl)|exact Or.inr (Or.inr rfl))
 (hd:(x == ("__debug__" : Str))=false:=by decide) (hcd:(x == ("__classdict__" : Str))=false:=by decide) (hs:zdz b:=by intro _ _;rfl):J3 K X O tg (.IfExp c (.Subscript (.Name x px) b p1) a pos) (ifJ fc (imJ n fb) (newJ (srcL f1))) :=
 let ⟨tc,q,d⟩:=hc;let ⟨t1,q1,d1⟩:=ha;let ⟨t2,q2,d2⟩:=hb
 ⟨zb0 K (tIf tc (tOp (rIx K) (tVar n) t2) t1),λi=>by
  have z:=zi7 (pos:=p1) (zgc (X:=X i)) (zaf (pos:=px) (hN i) (hv i) hd hcd) (q2 i) hs;rw[C.hK] at z;have h:=zcz (tg:=tg) (zmu (pos:=pos) (q i) z (q1 i));rw[C.hK] at h
  exact h,λj=>zo3 (d j) (zzl (d2 j)) (zj9 (zho (d1 j)))⟩
end
theorem zn9{α:Type}{P:α->Prop}{xs:List α}{a:α}(h:∀x∈xs,P x)(ha:P a):∀x∈xs ++ [a],P x:=λx hx=>by
 rcases Q7.mp hx with hx|hx
 .exact h x hx
 .rw[Qm.mp hx];exact ha
mutual
def solL:G7->Bool
 | .none=>true
 | .int _=>true
 | .str _=>true
 | .tuple ds=>zcs ds
 | .list ds=>zcs ds
 | _=>false
def zcs:List G7->Bool
 | []=>true
 | d::ds=>solL d && zcs ds
end
mutual
theorem zfz:∀d e:G7,solL d=true->solL e=true->(Q9 d e=true↔d=e)
 | .none,e,_,h=>by cases e <;> simp[Q9,solL] at *
 | .int i,e,_,h=>by cases e <;> simp[Q9,solL] at *
 | .str x,e,_,h=>by cases e <;> simp[Q9,solL] at *
 | .tuple ds,e,h0,h=>by
   cases e with
   | tuple es=>
     have:=zgn ds es (by simpa[solL] using h0) (by simpa[solL] using h);simp only[Q9];rw[this];exact⟨λz=>by rw[z],λz=>by cases z;rfl⟩
   | none=>simp[Q9]
   | int _=>simp[Q9]
   | str _=>simp[Q9]
   | bool _=>simp[solL] at h
   | list _=>simp[Q9]
   | dict _=>simp[solL] at h
 | .list ds,e,h0,h=>by
   cases e with
   | list es=>
     have:=zgn ds es (by simpa[solL] using h0) (by simpa[solL] using h);simp only[Q9];rw[this];exact⟨λz=>by rw[z],λz=>by cases z;rfl⟩
   | none=>simp[Q9]
   | int _=>simp[Q9]
   | str _=>simp[Q9]
   | bool _=>simp[solL] at h
   | tuple _=>simp[Q9]
   | dict _=>simp[solL] at h
 | .bool _,_,h,_=>by simp[solL] at h
 | .dict _,_,h,_=>by simp[solL] at h
theorem zgn:∀ds es:List G7,zcs ds=true->zcs es=true->(ZV ds es=true↔ds=es)
 | [],[],_,_=>by simp[ZV]
 | [],_::_,_,_=>by simp[ZV]
 | _::_,[],_,_=>by simp[ZV]
 | d::ds,e::es,h,h'=>by
   simp only[zcs,Qy] at h h';simp only[ZV,Qy];rw[zfz d e h.1 h'.1,zgn ds es h.2 h'.2];simp
end
structure Sl(n:Nat)(d:G7):Prop where
 lay:d.canLay0=true
 dep:d.depth<=n
 sol:solL d=true
theorem znp(i:Int):Sl 0 (.int i):=⟨rfl,Qg _,rfl⟩
theorem z2f:Sl 0 .none:=⟨rfl,Qg _,rfl⟩
theorem z1d(h:Jl x=true):Sl 0 (.str x):=⟨h,Qg _,rfl⟩
theorem zlc{α:Type}{f:α->G7}:∀{l:List α},(∀a∈l,solL (f a)=true)->zcs (l.map f)=true
 | [],_=>rfl
 | a::l,h=>by rw[Q8,zcs,h a Qu,zlc λx hx=>h x (Qe _ hx)];rfl
theorem zoc{α:Type}{f:α->G7}{l:List α}{n:Nat}(h:∀a∈l,Sl n (f a)):Sl (n+1) (.tuple (l.map f)):=by
 refine⟨zdh λa ha=>(h a ha).lay,?_,?_⟩
 .rw[Ja];have:=zec (f:=f) (n:=n) (l:=l) λa ha=>(h a ha).dep;lia
 .rw[solL];exact zlc λa ha=>(h a ha).sol
theorem Sl.list{n:Nat}(h:Sl n (.tuple ds)):Sl n (.list ds):=by
 obtain⟨a,b,c⟩:=h;exact⟨by simpa[Z6] using a,by simpa[Ja] using b,by simpa[solL] using c⟩
theorem Sl.okD{n:Nat}{d:G7}(h:Sl n d)(hn:n<=60:=by decide):L3.okD d=true:=by
 unfold L3.okD;rw[h.lay];have:=h.dep;simp;lia
theorem zly{n n':Nat}{neg:Bool}{d:G7}(h:Sl n d)(h':Sl n' e)(hn:n<=60:=by decide){q:Bool}(hq:q=true↔d=e):eqF neg d e=some (.o (.bool (if neg then !q else q))):=by
 unfold eqF;rw[ND (by rw[h.okD hn,h'.lay];rfl)]
 have e1:Q9 d e=q:=by
  have:=(zfz d e h.sol h'.sol).trans hq.symm;cases h1:Q9 d e <;> cases q <;> simp_all
 rw[e1]
theorem zk6:∀{l:List G7},zcs l=true->∀y∈l,solL y=true
 | [],_,y,hy=>(Zk hy).elim
 | a::l,hl,y,hy=>by
   simp only[zcs,Qy] at hl;rcases Qs.mp hy with z|z
   .rw[z];exact hl.1
   .exact zk6 hl.2 y z
theorem ztu{n:Nat}{d:G7}(h:Sl n d)(hs:zcs es=true){q:Bool}(hq:q=true↔d∈es):(es.any λy=>Q9 y d)=q:=by
 have:(es.any λy=>Q9 y d)=true↔q=true:=by
  rw[hq,UY];constructor
  .rintro⟨y,hy,e⟩;rw[<- (zfz y d (zk6 hs y hy) h.sol).mp e];exact hy
  .intro hd;exact⟨d,hd,(zfz d d h.sol h.sol).mpr rfl⟩
 exact JO.mpr this
theorem z5g{n n':Nat}{neg:Bool}{d:G7}(h:Sl n d)(h':Sl n' (.tuple es))(hn:n<=60:=by decide){q:Bool}(hq:q=true↔d∈es):inF neg d (.list es)=some (.o (.bool (if neg then !q else q))):=by
 have e1:=ztu h (by simpa[solL] using h'.sol) hq;have l1:Qw es=true:=by simpa[Z6] using h'.lay
 have e2:inF neg d (.list es)=if(L3.okD d && Qw es)=true then some (.o (.bool (if neg then !es.any (λy=>Q9 y d) else es.any λy=>Q9 y d))) else none:=by
  cases d <;> rfl
 rw[e2,ND (by rw[h.okD hn,l1];rfl),e1]
theorem z0x{n n':Nat}{neg:Bool}{d:G7}(h:Sl n d)(h':Sl n' (.tuple es))(hn:n<=60:=by decide){q:Bool}(hq:q=true↔d∈es):inF neg d (.tuple es)=some (.o (.bool (if neg then !q else q))):=by
 have e1:=ztu h (by simpa[solL] using h'.sol) hq;have l1:Qw es=true:=by simpa[Z6] using h'.lay
 have e2:inF neg d (.tuple es)=if(L3.okD d && Qw es)=true then some (.o (.bool (if neg then !es.any (λy=>Q9 y d) else es.any λy=>Q9 y d))) else none:=by
  cases d <;> rfl
 rw[e2,ND (by rw[h.okD hn,l1];rfl),e1]
theorem iteB{b:Bool}{A B:Prop}(ht:b=true->A)(hf:b=false->B):if b=true then A else B:=by
 cases b with
 | true=>exact iteT (ht rfl)
 | false=>exact iteF (hf rfl)
theorem eqI{i j:Int}:eqF false (.int i) (.int j)=some (.o (.bool (decide (i=j)))):=by rw[zxq,NE Q6]
theorem dr{m:Int}{P:Int->Prop}(h0:0<m)(h1:m<1073741824)(q:∀k:Nat,(k:Int)<m->P (k:Int)):0<m/\m<1073741824/\∀k:Int,0<=k->k<m->P k :=
 ⟨h0,h1,λk k0 k1=>by obtain⟨n,rfl⟩:=Int.eq_ofNat_of_zero_le k0;exact q n k1⟩
inductive GThg where
 | nm (i:Int)
 | lt (w:List Nat)
def zar:GThg->G7
 | .nm i=>.int i
 | .lt w=>.str (tx w)
structure RuG where
 n:Int
 b:List GThg
def zcc(r:RuG):G7:=.tuple [.int r.n,.tuple (r.b.map zar)]
structure GraZ where
 n:Int
 rs:List RuG
def zat(g:GraZ):G7:=.tuple [.int g.n,.tuple (g.rs.map zcc)]
def GThg.isN:GThg->Bool
 | .nm _=>true
 | .lt _=>false
def ThOk:GThg->Prop
 | .nm _=>True
 | .lt w=>Sml w
structure GzOk(b:Nat)(g:GraZ):Prop where
 many:g.rs.length<=b
 each:∀r∈g.rs,r.b.length<=b/\∀t∈r.b,ThOk t
theorem zx6(t:GThg):flat (zar t)=true:=by cases t <;> rfl
theorem ze9(r:RuG):flat (zcc r)=true:=by
 show(true && (flats (r.b.map zar) && true))=true;rw[za9 zx6];rfl
theorem zhb(g:GraZ):flat (zat g)=true:=by
 show(true && (flats (g.rs.map zcc) && true))=true;rw[za9 ze9];rfl
def zfg:List G7->(R->Prop)->Prop:=λds Q=>∃b:List GThg,ds = [.tuple (b.map zar)]/\b.length<=1000/\Q (.n ((b.filter GThg.isN).map zar))
def zgs(ls:List Nat)(n:Nat):GThg->Prop
 | .nm i=>0<=i/\i<n
 | .lt w=>∃c∈ls,w = [c]
def znx(m:Nat):List G7->(R->Prop)->Prop:=λds Q=>∃ls:List Nat,ds = [.list (ls.map λc=>.str (sg c))]/\1<=ls.length/\ls.length<=26/\(∀c∈ls,zem c) /\
 ∀g:GraZ,1<=g.n->g.n<=3->g.rs.length<m->(∀r∈g.rs,0<=r.n/\r.n<g.n/\r.b.length<=3/\(r.b.filter GThg.isN).length<=2/\∀t∈r.b,zgs ls g.n.toNat t)->Q (.o (zat g))
def nmI:GThg->Int
 | .nm i=>i
 | .lt _=>0
def nms(b:List GThg):List Int:=(b.filter GThg.isN).map nmI
theorem zpt(b:List GThg):(b.filter GThg.isN).map zar=(nms b).map .int:=by
 unfold nms;rw[Zd];refine Yg λt ht=>?_
 cases t with
 | nm i=>rfl
 | lt w=>exact absurd (Zg.mp ht).2 (λz=>by cases z)
end L3
namespace SXI
open PySem PySem.Spec PyProof.Rows SX
def Rz(xs:Array Nat):Prop:=xs.toList.Pairwise (· < ·)
theorem Rz.lt(h:Rz xs){i k:Nat}{a b:Nat}(hik:i<k)(ha:xs[i]? = some a)(hb:xs[k]? = some b):a<b:=by
 have h1:=QX.mp h;obtain⟨z1,e1⟩:=Ya.mp ha;obtain⟨z2,e2⟩:=Ya.mp hb;have:=h1 i k (by simpa using z1) (by simpa using z2) hik;simp at this;lia
theorem zhm{j:Nat}(h:Rz xs):∀(m lo hi:Nat),hi-lo<=m->lo<=hi->hi<=xs.size->(∀(i a:Nat),i<lo->xs[i]? = some a->a<j)->(∀(i a:Nat),hi<=i->xs[i]? = some a->j<=a) ->
 Jp xs j m lo hi<=xs.size/\(∀(i a:Nat),i<Jp xs j m lo hi->xs[i]? = some a->a<j)/\(∀(i a:Nat),Jp xs j m lo hi<=i->xs[i]? = some a->j<=a)
 | 0,lo,hi,h1,h2,h3,h4,h5=>by
   obtain rfl:lo=hi:=by lia
   exact⟨h3,h4,h5⟩
 | m+1,lo,hi,h1,h2,h3,h4,h5=>by
   unfold Jp
   by_cases hl:lo<hi
   .rw[ND hl];have hm:(lo+hi) / 2<xs.size:=by lia
    have e:xs[(lo+hi) / 2]? = some xs[(lo+hi) / 2]:=Qx hm;dsimp only;have eg:xs.getD ((lo+hi) / 2) j=xs[(lo+hi) / 2]:=by rw[JW,e];rfl
    rw[eg]
    split
    .rename_i hx
     refine zhm h m _ _ (by lia) (by lia) h3 (λi a hi' ha=>?_) h5
     by_cases z:i=(lo+hi) / 2
     .subst z;rw[e] at ha;cases ha;exact hx
     .have:=h.lt (i:=i) (k:=(lo+hi) / 2) (by lia) ha e;lia
    .rename_i hx
     refine zhm h m _ _ (by lia) (by lia) (by lia) h4 λi a hi' ha=>?_
     by_cases z:i=(lo+hi) / 2
     .subst z;rw[e] at ha;cases ha;lia
     .have:=h.lt (i:=(lo+hi) / 2) (k:=i) (by lia) e ha;lia
   .rw[NE hl];obtain rfl:lo=hi:=by lia
    exact⟨h3,h4,h5⟩
theorem zia{j:Nat}(h:Rz xs):QK xs j<=xs.size/\(∀(i a:Nat),i<QK xs j->xs[i]? = some a->a<j)/\(∀(i a:Nat),QK xs j<=i->xs[i]? = some a->j<=a) :=
 zhm h _ _ _ (by lia) (QI _) (Qg _) (λi a z=>absurd z (Yp _)) λi a z e=>by
  rw[ZL z] at e;cases e
theorem zq4(h:Rz xs):QK xs 0=0:=by
 obtain⟨h1,h2,_⟩:=zia (j:=0) h
 by_cases z:QK xs 0=0
 .exact z
 .have hx:0<xs.size:=by lia
  exact absurd (h2 0 xs[0] (by lia) (Qx hx)) (Yp _)
theorem zqk(h:Rz xs){i a:Nat}(e:xs[i]? = some a):QK xs (a+1)=i+1:=by
 obtain⟨h1,h2,h3⟩:=zia (j:=a+1) h;have hi:i<xs.size:=(Ya.mp e).1;rcases Vl (QK xs (a+1)) (i+1) with z|z|z
 .have:=h3 i a (by lia) e;lia
 .exact z
 .have hs:i+1<xs.size:=by lia
  have e1:xs[i+1]? = some xs[i+1]:=Qx hs;have:=h2 (i+1) _ z e1;have:=h.lt (Zh i) e e1;lia
theorem zzz{t:GN}(dm:t.dummies = #[])(j:Nat):t.slot j≠.dummy:=by
 unfold Gv;dsimp only;rw[dm]
 split
 .exact λz=>by cases z
 .rw[show YU #[] j=false by simp[YU]];exact λz=>by cases z
theorem zm0(dm:t.dummies = #[]){h:Int}:∀(m:Nat) (p:SetTable.Probe) (j:Nat) (d:Option Nat),p.dummy=none->Vm t f h m p=some (.empty j d)->d=none/\t.slot j = .empty
 | 0,p,j,d,_,e=>by simp[Vm] at e
 | m+1,p,j,d,hp,e=>by
   unfold Vm at e
   have ha:(t.advance p).dummy=none:=by
    unfold SetTable.advance
    split
    .exact hp
    .exact hp
   cases hs:t.slot p.j with
   | empty=>
     rw[hs] at e;simp at e;obtain⟨rfl,rfl⟩:=e;exact⟨hp,hs⟩
   | dummy=>exact absurd hs (zzz dm _)
   | live i=>
     rw[hs] at e;dsimp only at e
     split at e
     .cases e
     .exact zm0 dm m _ j d ha e
theorem zuj{t:GN}(dm:t.dummies = #[]){h:Int}{j:Nat}{d:Bool}(e:t.freeSlot h=some (j,d)):t.slot j = .empty:=by
 unfold SetTable.freeSlot at e
 split at e
 .rename_i j' d' he
  obtain⟨h1,h2⟩:=zm0 dm _ _ _ _ rfl he;subst h1;cases e;exact h2
 .cases e
theorem zyt{t:GN}{j:Nat}(e:t.slot j = .empty):t.place[QK t.place j]?≠some j:=λz=>by
 unfold Gv at e;dsimp only at e;rw[z] at e;simp at e
theorem zu1{α:Type}(xs:Array α)(p:Nat)(x:α):(Vn xs p x).toList=xs.toList.take p++x::xs.toList.drop p:=by
 unfold Vn;simp[Jq]
theorem z3q(h:Rz xs){j:Nat}(hn:xs[QK xs j]?≠some j):Rz (Vn xs (QK xs j) j):=by
 obtain⟨h1,h2,h3⟩:=zia (j:=j) h;unfold Rz;rw[zu1]
 have ht:∀a∈xs.toList.take (QK xs j),a<j:=λa ha=>by
  obtain⟨i,hi,e⟩:=QT ha;rw[QY] at hi;refine h2 i a (by lia) ?_;rw[UG] at e;rw[<- QG,Qb (by lia),e]
 have hd:∀a∈xs.toList.drop (QK xs j),j<a:=λa ha=>by
  obtain⟨i,hi,e⟩:=QT ha;rw[ZK] at hi;rw[UH] at e
  have ea:xs[QK xs j+i]? = some a:=by
   rw[<- QG,Qb (by lia),e]
  have le:=h3 _ a (by lia) ea;rcases Zx j a with z|z
  .exact z
  .exfalso;obtain rfl:j=a:=by lia
   by_cases zi:i=0
   .subst zi;exact hn ea
   .have hs:QK xs j<xs.size:=by simp at hi;lia
    have e0:xs[QK xs j]? = some xs[QK xs j]:=Qx hs;have:=h3 _ _ (Qg _) e0;have:=h.lt (by lia) e0 ea;lia
 refine List.pairwise_append.mpr ⟨h.sublist (U6 _ _),Z4.mpr ⟨hd,h.sublist (List.drop_sublist _ _)⟩,λa ha b hb=>?_⟩;rcases Qs.mp hb with rfl|hb
 .exact ht a ha
 .have:=ht a ha;have:=hd b hb;lia
theorem zi2(t:GN)(n:Nat):Rz (t.standIn n).place/\(t.standIn n).dummies = #[]:=⟨by
 show(Array.range n).toList.Pairwise (· < ·);rw[Array.toList_range]
 exact VB,rfl⟩
theorem z2j(t:GN)(es:Es)(h:Int)(x:G5)(rz:Rz t.place)(dm:t.dummies = #[]):Rz (No t es h x).2.1.place/\(No t es h x).2.1.dummies = #[]:=by
 unfold No
 cases e:t.freeSlot h with
 | none=>exact zi2 _ _
 | some p=>
   obtain⟨j,d⟩:=p;have hs:=zyt (zuj dm e);show Rz ((t.put j).1.orStandIn _).place/\((t.put j).1.orStandIn _).dummies = #[];unfold Uv
   split
   .refine⟨z3q rz hs,?_⟩;show(if YU t.dummies j then SetTable.eraseAt t.dummies (QK t.dummies j) else t.dummies) = #[];rw[dm,show YU #[] j=false by simp[YU]];rfl
   .exact zi2 _ _
theorem z3o(t:GN)(es:Es)(n:Nat)(dm:t.dummies = #[]):Rz (Tz t es n).2.1.place/\(Tz t es n).2.1.dummies = #[]:=by
 unfold Tz
 cases e:t.relaid (es.map (·.1)) n with
 | none=>exact zi2 _ _
 | some p=>
   obtain⟨t',ord⟩:=p
   have:Rz t'.place/\t'.dummies = #[]:=by
    unfold Ge Gs at e
    cases q:UB (Vb n-1) (es.map (·.1)) with
    | none=>rw[q] at e;cases e
    | some o=>
      rw[q] at e;cases e;refine⟨?_,rfl⟩;show(((Q2 (Vb n-1+1)).filterMap λj=>(o.getD j none).map (j,·)).map (·.1)).toArray.toList.Pairwise (· < ·);rw[List.toList_toArray,ZP];refine List.Pairwise.filterMap _ (λa a' hl b hb b' hb'=>?_) VB;obtain⟨_,_,rfl⟩:=Q4.mp hb;obtain⟨_,_,rfl⟩:=Q4.mp hb';exact hl
   dsimp only
   split
   .exact this
   .exact zi2 _ _
def zbw:G5->Int
 | .int n _=>n
 | _=>0
def keyN(e:Int×G5):Int:=zbw e.2
def kyN(es:Es):List Int:=es.toList.map keyN
structure Px(w:GD)(h:Heap)(a:Addr)(es:Es)(ep:Nat)(t:GN):Prop where
 at_:∃o,h.get? a=some o/\o.ExactSet/\o.data = .set es ep t
 lt:es.size<scanBound
 fit:t.fits es.size=true
 led:t.led = !byT w
 rz:Rz t.place
 dm:t.dummies = #[]
structure Nx(P:GB)(w:GD)(h:Heap)(a:Addr)(es:Es)(ep:Nat)(t:GN):Prop extends Px w h a es ep t where
 el:Ng (ZX P w) es.toList
 nd:(kyN es).Nodup
section
variable {P:GB}{w:GD}{A:GF}{E:G5->G8->Prop}{s:G8}
theorem zgd(h:∃k,(ZX P w).is k e.2=true/\e.1=(ZX P w).hash k)(k:Int):(ZX P w).is k e.2=true↔keyN e=k:=by
 obtain⟨k',hk,_⟩:=h;obtain⟨i,v⟩:=e;obtain⟨t,ev⟩:=Vh hk;subst ev;show Ys k (.int k' t)=true↔k'=k;constructor
 .intro h;exact(ZX P w).inj (.int k' t) _ _ hk h
 .rintro rfl;exact hk
theorem Nx.put{ep:Nat}(S:Nx P w s.heap a es ep t)(el:Ng (ZX P w) es'.toList)(nd:(kyN es').Nodup)(lt:es'.size<scanBound)(fit:t'.fits es'.size=true)(led:t'.led = !byT w)(rz:Rz t'.place)(dm:t'.dummies = #[])
 (h:∀h',ZI a s.heap h'->Nx P w h' a es' (ep+1) t'->Q () { s with heap:=h' }):wpAny (model P w) A (MW a es' t') Q E s:=by
 obtain⟨o,ho,hx,hd⟩:=S.at_;refine wpAny_storeSet_of ho hd (h _ (.update ..) ⟨⟨⟨{ o with data:=.set es' (ep+1) t' },?_,hx,rfl⟩,lt,fit,led,rz,dm⟩,el,nd⟩) (Td lt);have:=JS (Obj.putSet es' t') ho (by rw[Np es' t' hd];rfl);rw[Np es' t' hd] at this;exact this
theorem zna(p:es'.toList.Perm es.toList):(kyN es').Perm (kyN es):=p.map _
theorem Nx.add{ep:Nat}{x:Int}(S:Nx P w s.heap a es ep t)(hr:es.size+1<scanBound)
 (h:∀b h' es' ep' t',ZI a s.heap h'->Nx P w h' a es' ep' t'->(∀k,k∈kyN es'↔k∈kyN es\/k=x)->es'.size<=es.size+1->Q b { s with heap:=h' }) :
 wpAny (model P w) A (MH a (.int x tk) (M0 x)) Q E s:=by
 have hk:(ZX P w).is x (.int x tk)=true:=by show Ys x (.int x tk)=true;simp[Ys]
 obtain⟨o,ho,hx,hd⟩:=S.at_
 have gw:∀(b:Bool) (s₁:G8) (Q':Unit->G8->Prop),Q' () s₁->wpAny (model P w) A (match b with|true=>rule "set.scan.the-table-gave-way" | false=>pure ()) Q' E s₁:=λb s₁ Q' q=>by
  cases b
  .exact G6 q
  .exact GZ q
 unfold MH Mu;refine GK (G4 (Mc ho hd S.fit ?_));dsimp only;rw[ND (byScan_of rfl S.lt S.el)];unfold setAddByScan;refine G4 (G4 (GZ (G4 (wpAny_setScan_of (knd:=ZX P w) hk ho hd S.fit S.el ?_))))
 cases hf:es.toList.findIdx? (λe=>(ZX P w).is x e.2) with
 | some j=>
   obtain⟨hj,hp,_⟩:=Yx.mp hf;have hm:x∈kyN es:=Qp.mpr ⟨_,Zi hj,(zgd (S.el _ (Zi hj)).1 x).mp hp⟩;refine G6 (G6 ?_);exact h false s.heap es ep t (.refl ..) S (λk=>⟨.inl,λz=>z.elim id λz=>z ▸ hm⟩) (ZN _)
 | none=>
   have hm:x ∉ kyN es:=λhm=>by
    obtain⟨e,he,hk'⟩:=Qp.mp hm;have:=Vg.mp hf e he;rw[(zgd (S.el e he).1 x).mpr hk'] at this;cases this
   have hp:=layNew_perm t es (M0 x) (.int x tk);have hfit:=layNew_fits t es (M0 x) (.int x tk);have hrz:=z2j t es (M0 x) (.int x tk) S.rz S.dm;have hled:=zow t es (M0 x) (.int x tk);generalize No t es (M0 x) (Jb x tk)=L at hp hfit hled hrz ⊢;obtain⟨e1,t1,wd,gv⟩:=L;dsimp only at hp hfit hled hrz ⊢;rw[J4] at hp;have el1:Ng (ZX P w) e1.toList:=(S.el.push (k:=x) (x:=.int x tk) hk rfl).perm hp
   have kp:(kyN e1).Perm (kyN es ++ [x]):=by
    have:=hp.map keyN;rw[QE] at this;exact this
   have nd1:(kyN e1).Nodup:=kp.nodup_iff.mpr (ZE.mpr ⟨S.nd,(by simp),λa ha b hb=>by
    rw[Qm] at hb;subst hb
    exact λz=>hm (z ▸ ha)⟩)
   have mem1:∀k,k∈kyN e1↔k∈kyN es\/k=x:=λk=>by rw[kp.mem_iff,Q7,Qm]
   have sz1:e1.size=es.size+1:=by simpa using hp.length_eq
   have lt1:e1.size<scanBound:=by lia
   refine G4 (gw _ _ _ ?_)
   have fin:∀t2:GN,t2.fits e1.size=true->t2.led=t.led->Rz t2.place->t2.dummies = #[]->wpAny (model P w) A (do
    MW a e1 t2
    if(!wd && t2.tooFull)=true then do
        (match (Tz t2 e1 (Zv e1.size)).2.2 with|true=>rule "set.scan.the-table-gave-way" | false=>pure ())
        MW a (Tz t2 e1 (Zv e1.size)).1 (Tz t2 e1 (Zv e1.size)).2.1
        pure (some true)
     else pure (some true)) (λr s₁=>wpAny (model P w) A (match r with|some b=>pure b|none=>Mu a (.int x tk) (M0 x) 99999) Q E s₁) E s:=λt2 f2 l2 p2 q2=>by
    refine G4 (S.put el1 nd1 lt1 f2 (l2.trans S.led) p2 q2 λh1 sb1 S1=>?_)
    cases hw:(!wd && t2.tooFull) with
    | false=>exact G6 (G6 (h true h1 e1 _ t2 sb1 S1 mem1 (V6 sz1)))
    | true=>
      have rp:=relayAll_perm t2 e1 (Zv e1.size);have rf:=relayAll_fits t2 e1 (Zv e1.size);have rr:=z3o t2 e1 (Zv e1.size) q2;have rl:=zpg t2 e1 (Zv e1.size);generalize Tz t2 e1 (Zv e1.size)=R at rp rf rl rr ⊢;obtain⟨e2,t3,g2⟩:=R;dsimp only at rp rf rl rr ⊢;refine G4 (gw _ _ _ ?_);have z2:=zld rp;refine G4 (S1.put (s:={ s with heap:=h1 }) (el1.perm rp) ((zna rp).nodup_iff.mpr nd1) (by lia) rf (rl.1.trans (l2.trans S.led)) rr.1 rr.2 λh2 sb2 S2=>?_);exact G6 (G6 (h true h2 e2 _ t3 (sb1.trans sb2) S2 (λk=>by rw[(zna rp).mem_iff];exact mem1 k) (by lia)))
   split
   .rename_i hpl
    refine G4 ?_;rw[show hashByValue 8 (Jb x tk)=pure true from rfl];refine G6 ?_;exact fin t1 hfit hled hrz.1 hrz.2
   .rename_i hpl
    refine G4 (G6 ?_);exact fin t1 hfit hled hrz.1 hrz.2
end
section
variable {P:GB}{w:GD}{A:GF}{R:Result->G8->Prop}{I:Addr}{fp wr:List Addr}{G:Array Nh->Array Nh->Prop}{n:Nat}{Pv:Nat->G5->Prop}{St:Nat->G8->Prop}
theorem Px.keep{ep:Nat}(S:Px w h a es ep t)(k:∀o,h.get? a=some o->h'.get? a=some o):Px w h' a es ep t :=
 { S with at_:=let ⟨o,e,r⟩:=S.at_;⟨o,k o e,r⟩ }
theorem Nx.keep{ep:Nat}(S:Nx P w h a es ep t)(k:∀o,h.get? a=some o->h'.get? a=some o):Nx P w h' a es ep t :=
 ⟨S.toPx.keep k,S.el,S.nd⟩
theorem zyc(W:WalksS P w A.in1 I fp wr G n Pv St)(S:Addr)(hS:S ∉ fp)(val:Nat->Int)(hval:∀i v,Pv i v->∃t,v = .int (val i) t)(hb:n+1<scanBound):
 ∀(m i:Nat) (s:G8) (es:Es) (ep:Nat) (t:GN),n-i=m->i<=n->St i s->Nx P w s.heap S es ep t->(∀x,x∈kyN es↔∃j,j<i/\val j=x)->es.size<=i ->
   (∀s' es' ep' t',Moved (S::wr) G s s'->Nx P w s'.heap S es' ep' t'->(∀x,x∈kyN es'↔∃j,j<n/\val j=x)->R (.ok (.ret .none)) s') ->
   Mf (model P w) A (.builtin "set.update.loop" ⟨[.ref S,.ref I],[]⟩) R s:=by
 have nw:S ∉ wr:=λz=>hS (W.sub _ z);have up:∀b∈wr,b∈S::wr:=λb z=>Qe _ z;intro m
 induction m with
 | zero=>
   intro i s es ep t hm hi st T hk _ k;obtain rfl:i=n:=by lia
   refine GU JI ?_;rw[Zz ZU _];refine G4 (W.done s _ _ st λs' mv=>G6 ?_);exact k s' es ep t (mv.mono up) (T.keep λo e=>mv.heap S o nw e) hk
 | succ m ih=>
   intro i s es ep t hm hi st T hk hz k;have hlt:i<n:=by lia
   refine GU JI ?_;rw[Zz ZU _];refine G4 (W.item i s _ _ hlt st λv s' pv st' mv=>?_);obtain⟨tk,rfl⟩:=hval i v pv;have T1:Nx P w s'.heap S es ep t:=T.keep λo e=>mv.heap S o nw e;refine G4 (m:=holding [Jb (val i) tk] (setAdd S (.int (val i) tk))) (GK ?_);unfold setAdd;refine GK (G4 ((ZX P w).pyHash (k:=val i) (by show Ys (val i) (.int (val i) tk)=true;simp[Ys]) ?_));refine Nx.add (s:={ s' with toks:=s'.toks+1 }) (x:=val i) T1 (by lia) λb h' es' ep' t' sb T2 hk' hz'=>?_;refine G6 ⟨Tr ZU _,ih (i+1) _ es' ep' t' (by lia) hlt (W.frame _ s' _ _ st' (ZN _) λb hb o e=>?_) T2 (λx=>?_) (by lia) λs'' e2 p2 t2 mv2 T3 hk3=>?_⟩
   .rw[sb.2 b (λz:b=S=>hS (z ▸ hb))];exact e
   .rw[hk',hk];constructor
    .rintro(⟨j,h1,h2⟩|rfl)
     .exact⟨j,by lia,h2⟩
     .exact⟨i,by lia,rfl⟩
    .rintro⟨j,h1,h2⟩
     by_cases hj:j=i
     .subst hj;exact .inr h2.symm
     .exact .inl ⟨j,by lia,h2⟩
   .refine k s'' e2 p2 t2 (.trans W.gtrans ((mv.mono up).then_heap (ZN _) λb o hb e=>?_) mv2) T3 hk3;rw[sb.2 b (λz:b=S=>hb (z ▸ Qu))];exact e
end
section
variable {P:GB}{w:GD}{A:GF}{E:G5->G8->Prop}{s:G8}{it S:Addr}{es:Es}{ep:Nat}{t:GN}
theorem z0y(e:h.get? a=some (eObj w)):Nx P w h a #[] 0 (.fresh 0 0 (!byT w)) :=
 ⟨⟨⟨_,e,⟨rfl,rfl,rfl⟩,rfl⟩,by decide,rfl,rfl,U8,rfl⟩,λ_ z=>by simp at z,by simp[kyN]⟩
theorem zup{n:Nat}{val:Nat->Int}(hh:A.handled=none)(hT:∀s₁:G8,Ext s.heap s₁.heap->s₁.TypeIs v T)
 (h1:M8 (.type T) (.type "set")=pure false) (h2:M8 (.type T) (.type "frozenset")=pure false) (h3:(Zs T == Zs "dict")=false) (src:Src P w s.heap v n Pv)
 (hval:∀i v,Pv i v->∃t,v = .int (val i) t) (hb:n+1<scanBound)
 (k:∀h' tk es ep t,Nx P w h' s.heap.objs.size es ep t->(∀x,x∈kyN es↔∃j,j<n/\val j=x)->Ext s.heap h'->Q (.ref s.heap.objs.size) { s with heap:=h',toks:=tk }) :
 wpAny (model P w) A (call (.type "set") [v]) Q E s:=by
 obtain⟨c,tl,hmro⟩:=Z3.mro;have hmade:=Z3.made;have hsub:=Z3.sub;refine MK (ML ?_);show wpAny _ _ (callAny (.type "set") _) _ _ _;refine G6 ⟨Uw _ (by decide +kernel),GU UC ?_⟩;rw[Ux (MP "set" [v] []) rfl];have c1:=Z3.notType;have c2:=Z3.canCreate;have c3:=UU v
 repeat (any_goals (first|assumption|wp_step))
 refine To (zov v (E:=E) (Q:=λr s₁=>r = .ref s.heap.objs.size/\s₁ = { s with heap:=s.heap.push (eObj w) }) ⟨rfl,rfl⟩) λr s₁ hr=>?_
 cases r with
 | error e=>exact hr
 | ok fl=>
   cases fl with
   | ret obj=>
     obtain⟨rfl,rfl⟩:=hr;have eS:(s.heap.push (eObj w)).get? s.heap.objs.size=some (eObj w):=Qo _ rfl;have hS:YA { s with heap:=s.heap.push (eObj w) } (.ref s.heap.objs.size) "set" := ⟨_,eS,rfl⟩;have c4:=Z3.init.lookup;have c5:=Z3.init.bind (.ref s.heap.objs.size)
     repeat (any_goals (first|assumption|wp_step))
     refine To (MR (R:=wants (λr s₂=>r = .none/\∃h' tk es ep t,s₂ = { s with heap:=h',toks:=tk }/\Nx P w h' s.heap.objs.size es ep t/\(∀x,x∈kyN es↔∃j,j<n/\val j=x)/\Ext s.heap h') E) Z3.init.plain UV (check_set_init_1 hS ?_)) λr₂ s₂ hr₂=>?_
     .have e0:Ext s.heap (s.heap.push (eObj w)):=λb o e=>Qc _ e;have hTv:=hT { s with heap:=s.heap.push (eObj w) } e0;unfold Builtin.«set.__init__» noKeywords YI;generalize hPI:MT=PI
      wp_walk
      subst hPI;have lt0:s.heap.objs.size<(s.heap.push (eObj w)).objs.size:=by rw[Za];exact Zh _
      refine src _ _ _ _ (by simpa using hh) e0 λI h' fp St W st ex fpb hI=>?_;refine G4 (My ?_)
      have nS:s.heap.objs.size ∉ fp:=λz=>by
       rcases fpb _ z with y|y
       .exact QS _ y
       .exact absurd lt0 (Yr.mpr y)
      refine zyc (W _ (by simpa using hh)).toS s.heap.objs.size nS val hval hb n 0 _ #[] 0 _ rfl (QI _) st (z0y (ex _ _ eS)) (λx=>by simp[kyN]) (Qg _) λs' es ep t mv T hk=>?_;obtain⟨h2,g2,d2,tk2,os2⟩:=s';obtain rfl:g2=s.gens:=mv.gens;obtain rfl:d2=s.drawn:=mv.drawn;obtain rfl:os2=s.os:=mv.os;show wpAny _ _ _ _ _ _;refine G6 (G6 ⟨rfl,h2,tk2,es,ep,t,rfl,T,hk,λb o e=>mv.heap b o (λz=>?_) (ex b o (e0 b o e))⟩);have hbl:=Qq e;rcases Qs.mp z with z|z
      .exact Q1 hbl z
      .rw[Qm.mp z] at hbl;exact absurd hbl (Yr.mpr (QN (ZY lt0) hI))
     .cases r₂ with
      | error e=>exact hr₂
      | ok fl₂=>
        cases fl₂ with
        | ret r=>
          obtain⟨rfl,h',tk,es,ep,t,rfl,T,hk,ex⟩:=hr₂
          repeat (any_goals (first|assumption|wp_step))
          exact k _ _ _ _ _ T hk ex
        | _=>exact hr₂.elim
   | _=>exact hr.elim
theorem Px.state{ep:Nat}(S:Px w s.heap a es ep t)(h:Q (es,ep,t) s):wpAny (model P w) A (setState a) Q E s :=
 let ⟨_,ho,_,hd⟩:=S.at_
 Mc ho hd S.fit h
theorem Px.entries{ep:Nat}(S:Px w s.heap a es ep t)(h:Q es s):wpAny (model P w) A (setEntries a) Q E s :=
 let ⟨_,ho,_,hd⟩:=S.at_
 wpAny_setEntries_of ho hd S.fit h
theorem Px.epoch{ep:Nat}(S:Px w s.heap a es ep t)(h:Q ep s):wpAny (model P w) A (setEpoch a) Q E s :=
 let ⟨_,ho,_,hd⟩:=S.at_
 wpAny_setEpoch_of ho hd S.fit h
theorem zca{first:G5}{sl:Nat}{i:Nat}{R:Option G5->G8->Prop}(hf:first = .int sl 0)(ho:s.heap.get? it=some (itO first i S es.size ep))(T:Px w s.heap S es ep t)
 (h:wpAny (model P w) A.in1 (Mr S sl i ep) (λr s₁=>s₁=s/\match r with
  | some (x,nx)=>∀h',h'.get? it=some (itO (.int nx 0) (i+1) S es.size ep)->ZI it s.heap h'->R (some x) { s with heap:=h' }
  | none=>∀h',(∀b o,b≠it->s.heap.get? b=some o->h'.get? b=some o)->R none { s with heap:=h' }) (λ_ _=>False) s) (hh:A.handled=none):wpAny (model P w) A (M6 (.ref it)) R E s:=by
 subst hf;have hT:s.TypeIs (.ref it) "set_iterator" := ⟨_,ho,rfl⟩;unfold M6;refine G4 (Tt (Tb (name:=Jk "__next__") hT nx_slot (GL nx_slot hT zfm ?_ (zg7 _))));unfold Builtin.«set_iterator.__next__»;refine G4 (G6 ?_);refine G4 (Mx ho rfl ?_);refine G4 (T.entries ?_);refine wp_f (by simp) ?_;refine G4 (GM h (λr s₁ q=>?_) λ_ _ z=>z.elim);obtain⟨rfl,q⟩:=q
 match r,q with
 | some (x,nx),q=>
   refine G4 (GJ ho (by simp) λh1 e1 b1=>?_);refine G4 (GJ (s:={ s₁ with heap:=h1 }) e1 (by simp) λh2 e2 b2=>?_);refine G6 ⟨x,rfl,G6 (q h2 ?_ (b1.trans b2))⟩;exact e2
 | none,q=>
   refine G4 (GJ ho (by simp) λh1 e1 b1=>?_);exact zha (s:={ s₁ with heap:=h1 }) hh λh' ex=>q h' λb o n e=>ex b o ((b1.2 b n).trans e)
theorem zif{sl i:Nat}(hb:byT w=true)(T:Px w s.heap S es ep t)(h:Q (((Tf (w.params.setOrder S ep) es)[i]?).map λe=>(e.2,sl)) s):wpAny (model P w) A (Mr S sl i ep) Q E s:=by
 unfold Mr;refine G4 (T.state ?_);refine G4 (zde ?_);rw[hb];refine wp_t rfl ?_;refine wp_f (by simp) ?_;refine G4 ?_;unfold setWalk;refine G4 (T.state ?_);refine G4 (zde ?_);rw[hb];refine wp_t rfl ?_;exact G4 (Md (G6 (G6 h)))
theorem ze4{Tp:Addr}{pls:List G5}{c:Nat}{i:Nat}{R:Option G5->G8->Prop}(ho:s.heap.get? it=some (itO (.ref Tp) i S es.size ep))(hp:s.heap.get? Tp=some { cls:=.type "tuple",data:=.seq pls.toArray c })(T:Px w s.heap S es ep t)
 (h:match pls[i]? with
  | some v=>∃(j:Nat) (e:Int×G5),v = .int j 0/\es[j]? = some e/\∀h',h'.get? it=some (itO (.ref Tp) (i+1) S es.size ep)->ZI it s.heap h'->R (some e.2) { s with heap:=h' }
  | none=>∀h',(∀b o,b≠it->s.heap.get? b=some o->h'.get? b=some o)->R none { s with heap:=h' }) (hh:A.handled=none):wpAny (model P w) A (M6 (.ref it)) R E s:=by
 have hT:s.TypeIs (.ref it) "set_iterator" := ⟨_,ho,rfl⟩;unfold M6;refine G4 (Tt (Tb (name:=Jk "__next__") hT nx_slot (GL nx_slot hT zfm ?_ (zg7 _))));unfold Builtin.«set_iterator.__next__»;refine G4 (G6 ?_);refine G4 (Mx ho rfl ?_);refine G4 (T.entries ?_);refine wp_f (by simp) ?_;refine G4 (wpAny_seqItems hp rfl ?_);have ea:(pls.toArray)[(i:Int).toNat]? = pls[i]?:=by simp
 dsimp only;rw[ea]
 cases hv:pls[i]? with
 | some v=>
   rw[hv] at h;obtain⟨j,e,rfl,he,h⟩:=h;dsimp only;refine G4 ?_;unfold setNextDrawn;refine G4 (T.state ?_);refine wp_f (by simp) ?_;have ej:es[(j:Int).toNat]? = some e:=by simpa using he
   rw[ej];refine G6 ?_;refine G4 (GJ ho (by simp) λh1 e1 b1=>?_);exact G6 ⟨_,rfl,G6 (h h1 e1 b1)⟩
 | none=>
   rw[hv] at h;dsimp only;refine G4 (GJ ho (by simp) λh1 e1 b1=>?_);refine G4 (GJ (s:={ s with heap:=h1 }) e1 (by simp) λh2 e2 b2=>?_);exact zha (s:={ s with heap:=h2 }) hh λh' ex=>h h' λb o n e=>ex b o ((b2.2 b n).trans ((b1.2 b n).trans e))
theorem zmm(hh:A.handled=none)(hb:byT w=true)(ne:S≠it):
 Nu P w A it [it,S] [it] (Tf (w.params.setOrder S ep) es).toList.length (ordP (Tf (w.params.setOrder S ep) es).toList) (λi h=>(∃sl:Nat,h.get? it=some (itO (.int sl 0) i S es.size ep))/\Px w h S es ep t) where
 sub:=λb z=>by simp at z;simp[z]
 frame:=λi h h' st k=>⟨let ⟨sl,e⟩:=st.1;⟨sl,k it (by simp) _ e⟩,st.2.keep λo e=>k S (by simp) o e⟩
 item:=λi s Q E hi st k=>by
  obtain⟨⟨sl,ho⟩,T⟩:=st;refine zca rfl ho T (zif hb T ⟨rfl,?_⟩) hh
  have hx:(Tf (w.params.setOrder S ep) es)[i]? = some ((Tf (w.params.setOrder S ep) es).toList[i]):=by
   rw[<- QG];exact Qb hi
  rw[hx];refine λh' e' sb=>k _ h' s.toks ⟨_,Qb hi,rfl⟩ ⟨⟨sl,e'⟩,T.keep λo e=>(sb.2 S ne).trans e⟩ λb o nb e=>(sb.2 b (by simpa using nb)).trans e
 done:=λs Q E st k=>by
  obtain⟨⟨sl,ho⟩,T⟩:=st;refine zca rfl ho T (zif hb T ⟨rfl,?_⟩) hh;rw[show(Tf (w.params.setOrder S ep) es)[(Tf (w.params.setOrder S ep) es).toList.length]? = none by simp];exact λh' kp=>k h' s.toks λb o nb e=>kp b o (by simpa using nb) e
 self:=λi s Q E st h=>zdy st.1.choose_spec h
theorem zm1{Tp:Addr}{ord:List (Int×G5)}{js:List Nat}(hh:A.handled=none)(ne:S≠it)(nt:Tp≠it)(ho:ord=js.filterMap λj=>es[j]?)(hj:∀j∈js,j<es.size):
 Nu P w A it [it,S,Tp] [it] ord.length (ordP ord) (λi h=>h.get? it=some (itO (.ref Tp) i S es.size ep)/\Px w h S es ep t/\h.get? Tp=some { cls:=.type "tuple",data:=.seq (js.map λ(j:Nat)=>Jb j 0).toArray }) where
 sub:=λb z=>by simp at z;simp[z]
 frame:=λi h h' st k=>⟨k it (by simp) _ st.1,st.2.1.keep λo e=>k S (by simp) o e,k Tp (by simp) _ st.2.2⟩
 item:=λi s Q E hi st k=>by
  obtain⟨hi1,T,ht⟩:=st;have el:=ho.trans (zgh hj);have hl:i<js.length:=by rw[el] at hi;simpa using hi
  obtain⟨e,h1⟩:∃e,es[js[i]]? = some e:=⟨_,Qx (hj _ (Zi hl))⟩;refine ze4 hi1 ht T ?_ hh;rw[Qi,Qb hl];refine⟨js[i],_,rfl,h1,λh' e' sb=>k _ h' s.toks ⟨e,?_,rfl⟩ ⟨e',T.keep λo e=>(sb.2 S ne).trans e,(sb.2 Tp nt).trans ht⟩ λb o nb e=>(sb.2 b (by simpa using nb)).trans e⟩;rw[el,Qi,Qb hl];show some (es[js[i]]?.getD (0,.none))=_;rw[h1];rfl
 done:=λs Q E st k=>by
  obtain⟨hi1,T,ht⟩:=st;have el:ord.length=js.length:=by rw[ho.trans (zgh hj)];simp
  refine ze4 hi1 ht T ?_ hh;rw[Qi,Q0 (by lia)];exact λh' kp=>k h' s.toks λb o nb e=>kp b o (by simpa using nb) e
 self:=λi s Q E st h=>zdy st.1 h
theorem Px.typ(T:Px w s.heap S es ep t):s.TypeIs (.ref S) "set" := let ⟨_,ho,hx,_⟩:=T.at_;⟨_,ho,hx.1⟩
theorem Px.lts(T:Px w s.heap S es ep t):S<s.heap.objs.size:=let ⟨_,ho,_⟩:=T.at_;Qq ho
theorem zwr{sl i:Nat}(hb:byT w=false)(hz:t.plain=true\/es.size<=1)(T:Px w s.heap S es ep t)(h:Q (match es[QK t.place sl]?,t.place[QK t.place sl]? with
 | some (_,x),some j=>some (x,j+1)
 | _,_=>none) s):wpAny (model P w) A (Mr S sl i ep) Q E s:=by
 unfold Mr;refine G4 (T.state ?_);refine G4 (zde ?_);rw[hb];refine wp_f (by decide) ?_
 refine wp_f (show ¬ ((!t.plain && decide (es.size > 1))=true) by rcases hz with hz|hz;· simp[hz]
                                                                  .simp;lia) ?_
 refine G4 (m:=if(!t.led && !es.isEmpty)=true then unsupported "set:maker-not-led" else pure ()) (wp_f (by rw[T.led,hb];simp) (G6 ?_));exact G6 h
theorem z3k(hh:A.handled=none)(hb:byT w=false)(hz:t.plain=true\/es.size<=1)(ne:S≠it):
 Nu P w A it [it,S] [it] es.toList.length (ordP es.toList) (λi h=>(∃sl:Nat,QK t.place sl=i/\h.get? it=some (itO (.int sl 0) i S es.size ep))/\Px w h S es ep t) where
 sub:=λb z=>by simp at z;simp[z]
 frame:=λi h h' st k=>⟨let ⟨sl,e0,e⟩:=st.1;⟨sl,e0,k it (by simp) _ e⟩,st.2.keep λo e=>k S (by simp) o e⟩
 item:=λi s Q E hi st k=>by
  obtain⟨⟨sl,h0,ho⟩,T⟩:=st;have hi':i<es.size:=by simpa using hi
  have f1:t.place.size=es.size:=by
   have:=T.fit;simp only[Uj,Qy,NP] at this;lia
  have e1:es[i]? = some es[i]:=Qx hi';have e2:t.place[i]? = some t.place[i]:=Qx (by lia);refine zca rfl ho T (zwr hb hz T ⟨rfl,?_⟩) hh;rw[h0,e1,e2];exact λh' e' sb=>k _ h' s.toks ⟨es[i],by rw[QG];exact e1,rfl⟩ ⟨⟨t.place[i]+1,zqk T.rz e2,e'⟩,T.keep λo e=>(sb.2 S ne).trans e⟩ λb o nb e=>(sb.2 b (by simpa using nb)).trans e
 done:=λs Q E st k=>by
  obtain⟨⟨sl,h0,ho⟩,T⟩:=st;refine zca rfl ho T (zwr hb hz T ⟨rfl,?_⟩) hh;rw[h0,show es[es.toList.length]? = none by simp];exact λh' kp=>k h' s.toks λb o nb e=>kp b o (by simpa using nb) e
 self:=λi s Q E st h=>zdy st.1.choose_spec.2 h
theorem zhy(T:Px w s.heap S es ep t)(h:Q (!byT w && (!t.plain && decide (es.size > 1))) s):wpAny (model P w) A (NC S) Q E s:=by
 unfold NC;refine G4 (T.state ?_);refine G4 (zde ?_);exact G6 h
theorem zhx(T:Px w s.heap S es ep t)
 (k:∀(it:Addr) (h':Heap) (d':N4) (ord:List (Int×G5)) (fp:List Addr) (St:Nat->Heap->Prop),ord.Perm es.toList->(∀A':GF,A'.handled=none->Nu P w A' it fp [it] ord.length (ordP ord) St)->St 0 h'->Ext s.heap h'->(∀b∈fp,b<s.heap.objs.size->b=S)->(∀b∈fp,b<h'.objs.size)->s.heap.objs.size<=it->it∈fp->Q (.ref it) { s with heap:=h',drawn:=d' }) :
 wpAny (model P w) A (MT (.ref S)) Q E s:=by
 have hlt:=T.lts;refine M3 T.typ YJ (GL YJ T.typ zey ?_ (UE _));unfold Builtin.«frozenset.__iter__»;refine G4 (m:=V0 "__iter__" ⟨[.ref S],[]⟩) (G6 ?_);refine G4 (G4 (T.entries (G6 ?_)));refine G4 (zhy T ?_);have sz:∀(h:Heap) (o:Obj),(h.push o).objs.size=h.objs.size+1:=λh o=>Za ..
 cases hd:(!byT w && (!t.plain && decide (es.size > 1))) with
 | true=>
   refine wp_t rfl ?_;refine G4 (zjt es.size _ _ _ (by simp) λjs d hp=>?_)
   have hz:js.length<=sizeLine:=by
    have:=Td T.lt;rw[hp.length_eq,Zb];exact this
   refine G4 (Mb ?_ (by rw[Qf];exact hz));have T1:Px w (s.heap.push { cls:=.type "tuple",data:=.seq (js.map λ(j:Nat)=>GQ j).toArray }) S es ep t:=T.keep λo e=>Qc _ e;refine G4 (Px.epoch (s:={ s with heap:=s.heap.push { cls:=.type "tuple",data:=.seq (js.map λ(j:Nat)=>GQ j).toArray },drawn:=d }) T1 ?_);refine G4 (GI (G6 ⟨_,rfl, "set_iterator",_,⟨_,Qo _ rfl,rfl⟩,nx_slot.lookup,?_⟩));have hj:∀j∈js,j<es.size:=λj z=>Zf.mp (hp.mem_iff.mp z);refine k _ _ d (js.filterMap λj=>es[j]?) [(s.heap.push { cls:=.type "tuple",data:=.seq (js.map λ(j:Nat)=>GQ j).toArray }).objs.size,S,s.heap.objs.size] _ ?_ (λA' hA=>zm1 (t:=t) (ep:=ep) hA ?_ ?_ rfl hj) ⟨Qo _ rfl,T1.keep λo e=>Qc _ e,Qc _ (Qo _ rfl)⟩ (λb o e=>Qc _ (Qc _ e)) ?_ ?_ ?_ (by simp)
   .refine(hp.filterMap _).trans ?_;rw[M5]
   .rw[sz];exact Q1 (QJ hlt)
   .rw[sz];exact Q1 (Zh _)
   .intro b hb hl;rw[sz] at hb;simp at hb;rcases hb with rfl|rfl|rfl
    .exact absurd hl (Yr.mpr (ZN _))
    .rfl
    .exact absurd hl (QS _)
   .intro b hb;rw[sz] at hb;rw[sz,sz];simp at hb;rcases hb with rfl|rfl|rfl
    .exact Zh _
    .exact QJ (QJ hlt)
    .exact QJ (Zh _)
   .rw[sz];exact ZN _
 | false=>
   refine wp_f (by decide) (G4 (G6 ?_));refine G4 (T.epoch ?_);refine G4 (GI (G6 ⟨_,rfl, "set_iterator",_,⟨_,Qo _ rfl,rfl⟩,nx_slot.lookup,?_⟩));have ne:S≠s.heap.objs.size:=Q1 hlt
   have fpo:∀b∈[s.heap.objs.size,S],b<s.heap.objs.size->b=S:=λb hb hl=>by
    simp at hb;rcases hb with rfl|rfl
    .exact absurd hl (QS _)
    .rfl
   have fpl:∀o:Obj,∀b∈[s.heap.objs.size,S],b<(s.heap.push o).objs.size:=λo b hb=>by
    rw[sz];simp at hb;rcases hb with rfl|rfl
    .exact Zh _
    .exact QJ hlt
   cases hb:byT w with
   | true=>
     exact k _ _ s.drawn _ [s.heap.objs.size,S] _ (zkz _ es) (λA' hA=>zmm (t:=t) hA hb ne) ⟨⟨0,Qo _ rfl⟩,T.keep λo e=>Qc _ e⟩ (λb o e=>Qc _ e) fpo (fpl _) (Qg _) (by simp)
   | false=>
     have hz:t.plain=true\/es.size<=1:=by
      rw[hb] at hd
      cases hp:t.plain with
      | true=>exact .inl rfl
      | false=>rw[hp] at hd;right;simpa using hd
     exact k _ _ s.drawn es.toList [s.heap.objs.size,S] _ (.refl _) (λA' hA=>z3k (t:=t) (ep:=ep) hA hb hz ne) ⟨⟨0,zq4 T.rz,Qo _ rfl⟩,T.keep λo e=>Qc _ e⟩ (λb o e=>Qc _ e) fpo (fpl _) (Qg _) (by simp)
theorem zeu(hh:A.handled=none)(T:Px w s.heap S es ep t)
 (k:∀(h':Heap) (d':N4) (tk:Nat) (vs:List G5),Ext s.heap h'->vs.Perm (es.toList.map (·.2))->s.heap.objs.size<h'.objs.size->Q vs { s with heap:=h',drawn:=d',toks:=tk }):wpAny (model P w) A (collect (.ref S)) Q E s:=by
 have hlt:=T.lts;unfold collect;refine G4 (My (GU VN ?_));rw[Zz VO _];refine G4 (m:=N1 []) (GI ?_);refine G6 ⟨Tr Y1 _,GU UF ?_⟩;rw[Zz Y1 _];have T1:Px w (s.heap.push (lO #[] 0)) S es ep t:=T.keep λo e=>Qc _ e;have eL:(s.heap.push (lO #[] 0)).get? s.heap.objs.size=some (lO #[] 0):=Qo _ rfl;have sz1:(s.heap.push (lO #[] 0)).objs.size=s.heap.objs.size+1:=Za ..;show wpAny _ A.in1 (Js (.ref s.heap.objs.size) (.ref S) (.ref s.heap.objs.size)) _ _ { s with heap:=s.heap.push (lO #[] 0) };unfold Js;refine G4 (TC (T1.typ (s:={ s with heap:=s.heap.push (lO #[] 0) })) ?_)
 have nsr:JC (.ref s.heap.objs.size) (.ref S)=false:=by
  show(s.heap.objs.size == S)=false;exact beq_eq_false_iff_ne.mpr (Yy hlt)
 rw[nsr];refine wp_f (by decide) ?_;refine G4 (zhx (s:={ s with heap:=s.heap.push (lO #[] 0) }) T1 λit h2 d2 ord fp St hp W st ex fpo fpl hit hmem=>?_);have T2:Px w h2 S es ep t:=T1.keep λo e=>ex _ o e;have tS:YA { s with heap:=h2,drawn:=d2 } (.ref S) "set" := T2.typ (s:={ s with heap:=h2,drawn:=d2 });refine G4 (GK ?_);unfold Jr;refine G4 (TY tS F.slot_set_len.lookup ?_);generalize hid:("set.__len__" : String)=id0
 (fail_if_success (clear hid id0))
 wp_delta
 rw[show splitId id0=some ("set", "__len__") from by subst hid;decide +kernel];subst hid;refine G4 (Me (b:=true) tS zn3 ?_);refine wp_f (by decide) ?_;refine wp_t (by decide +kernel) ?_;refine G4 (TC tS ?_);refine G6 ?_;refine wp_t (by decide +kernel) ?_;refine G4 (GZ ?_);refine G4 ?_;unfold V7;have h64:(0:Nat)<=sizeLine:=QI _;have eL2:h2.get? s.heap.objs.size=some (lO #[] 0):=ex _ _ eL;refine G4 (zjl (s:={ s with heap:=h2,drawn:=d2 }) (·.push Y7) eL2 h64 (by simp) λh3 c3 e3 b3=>?_);refine zjl (s:={ s with heap:=h3,drawn:=d2 }) (·.pop) e3 (by rw[GE];decide) (by simp) λh4 c4 e4 b4=>?_
 have nLf:s.heap.objs.size ∉ fp:=λz=>by
  have:=fpo _ z (by rw[sz1];exact Zh _);exact Yy hlt this
 have st4:St 0 h4:=(W A hh).frame 0 h2 h4 st λb hb o e=>by
  have nb:b≠s.heap.objs.size:=λz=>nLf (z ▸ hb);exact(b4.2 b nb).trans ((b3.2 b nb).trans e)
 have hn:ord.length<=sizeLine:=by
  rw[hp.length_eq,QW];exact Td T.lt
 refine G6 ⟨Tr YN _,Mi (W A.in1 (by simpa using hh)).toS hn _ nLf _ ord.length 0 { s with heap:=h4,drawn:=d2 } #[] c4 rfl (QI _) st4 e4 (Ga _) λs' acc c mv eA hacc=>?_⟩;refine G4 (wpAny_load eA (G6 ?_));obtain⟨h5,g5,d5,tk5,os5⟩:=s';obtain rfl:g5=s.gens:=mv.gens;obtain rfl:d5=d2:=mv.drawn;obtain rfl:os5=s.os:=mv.os
 have ev:acc.toList=ord.map (·.2):=by
  refine Zq λi=>?_;rw[QG]
  by_cases hi:i<acc.size
  .rw[Qx hi];obtain⟨e,h1,h2⟩:=hacc.2 i _ (Qx hi);rw[Qi,h1,h2];rfl
  .rw[ZL (by lia),Qi,Q0 (by have:=hacc.1;lia)];rfl
 refine k h5 d5 tk5 acc.toList (λb o e=>mv.heap b o (λz=>?_) ?_) (by rw[ev];exact hp.map _) (Qq eA)
 .have hbl:=Qq e;rcases Qs.mp z with z|z
  .exact Q1 hbl z
  .rw[Qm.mp z] at hbl;have:s.heap.objs.size+1<=it:=by rw[<- sz1];exact hit
   exact absurd hbl (Yr.mpr (ZZ this))
 .have nb:b≠s.heap.objs.size:=Q1 (Qq e);exact(b4.2 b nb).trans ((b3.2 b nb).trans (ex b o (Qc _ e)))
end
end SXI
namespace SXI
open PySem PySem.Spec PyProof.Rows SX L6 HK
section
variable {P:GB}{w:GD}{A:GF}{E:G5->G8->Prop}{s:G8}{S:Addr}{es:Es}{ep:Nat}{t:GN}
theorem zop(hh:A.handled=none)(T:Nx P w s.heap S es ep t)(h64:es.size<64)
 (k:∀(h':Heap) (d':N4) (tk:Nat) (out:List G5) (c:Nat) (zs:List Int) (l:Addr),Ext s.heap h'->s.heap.objs.size<=l->h'.get? l=some (seqObj "list" out.toArray c)->L2.Vals (zs.map L2.V.int) out->(∀n,n∈zs↔n∈kyN es)->zs.Pairwise (· < ·)->zs.length=es.size->Q (.ref l) { s with heap:=h',drawn:=d',toks:=tk }) :
 wpAny (model P w) A (call (.builtin "sorted") [.ref S]) Q E s:=by
 refine Yf MS MG MD (Ni _) ?_;unfold Builtin.«sorted»;refine G4 (m:=Nc "sorted" 1 1 _) (G6 ?_);refine G4 (zeu (by simpa using hh) T.toPx λh' d' tk vs ex hp hl=>?_);have v64:vs.length<64:=by rw[hp.length_eq];simpa using h64
 refine G4 (TJ ?_ (by rw[GE];lia))
 have hI:∀v∈vs,∃n t,v=Jb n t:=λv z=>by
  obtain⟨e,he,rfl⟩:=Qp.mp (hp.mem_iff.mp z);obtain⟨⟨x,hx,_⟩,_⟩:=T.el e he;obtain⟨u,hu⟩:=Vh hx;exact⟨x,u,hu⟩
 have eL:(h'.push (seqObj "list" vs.toArray 0)).get? h'.objs.size=some (seqObj "list" vs.toArray 0):=Qo _ rfl
 have KO:KeysOk P w A.in1.in1 { s with heap:=zcu (h'.push (seqObj "list" vs.toArray 0)) h'.objs.size vs,drawn:=d',toks:=tk } vs vs (λa b:Int=>decide (a<b)) (λi=>(vs.map zbw).getD i 0):=by
  refine zmx rfl λi v hv=>?_;obtain⟨n,u,rfl⟩:=hI v (Qz hv);refine⟨u,?_⟩;rw[Qj,Qi,hv];rfl
 refine G4 (GK (GL Mv ⟨_,eL,rfl⟩ Mk (zrr (s:={ s with heap:=h'.push (seqObj "list" vs.toArray 0),drawn:=d',toks:=tk }) eL v64 KO λix o=>⟨_,rfl,?_⟩) (MQ _)));obtain⟨c,ec⟩:=Na (out:=(zbj vs ix).toArray) eL
 have kp:(vs.map zbw).Perm (kyN es):=by
  have:=hp.map zbw;rw[Zd] at this;exact this
 have nd:(vs.map zbw).Nodup:=kp.nodup_iff.mpr T.nd
 have pq:((Q2 vs.length).map λi=>(vs.map zbw).getD (ix i) 0).Perm (vs.map zbw):=by
  have h1:=o.bj.perm.map (λi=>(vs.map zbw).getD i 0);rw[Zd] at h1;refine h1.trans ?_
  have:(Q2 vs.length).map (λi=>(vs.map zbw).getD i 0)=vs.map zbw:=by
   refine Zq λi=>?_
   by_cases hi:i<vs.length
   .simp[hi]
   .rw[Q0 (by simp;lia),Q0 (by simp;lia)]
  rw[this]
 have gv:∀i,i<vs.length->∃n u,vs.getD (ix i) .none=Jb n u/\(vs.map zbw).getD (ix i) 0=n:=λi hi=>by
  have hx:=o.bj.lt i hi;obtain⟨n,u,e⟩:=hI vs[ix i] (Zi hx);refine⟨n,u,?_,?_⟩
  .rw[Qj,Qb hx];exact e
  .rw[Qj,Qi,Qb hx,e];rfl
 have rv:∀l:List Nat,(∀i∈l,i<vs.length)->L2.Vals ((l.map λi=>(vs.map zbw).getD (ix i) 0).map L2.V.int) (l.map λi=>vs.getD (ix i) .none):=by
  intro l
  induction l with
  | nil=>exact λ_=>.nil
  | cons i l ih=>
    intro h;obtain⟨n,u,e1,e2⟩:=gv i (h i (by simp));rw[Q8,Q8,Q8,e1,e2];exact .cons ⟨u,rfl⟩ (ih λj hj=>h j (Qe _ hj))
 refine G6 ⟨_,rfl,k _ d' tk (zbj vs ix) c ((Q2 vs.length).map λi=>(vs.map zbw).getD (ix i) 0) h'.objs.size (λb o' e=>?_) (ZY hl) ec (rv _ λi hi=>Zf.mp hi) (λn=>by rw[pq.mem_iff,kp.mem_iff]) ?_ ?_⟩
 .have eb:=ex b o' e;have nb:b≠h'.objs.size:=Q1 (Qq eb);show(Mw (h'.push (seqObj "list" vs.toArray 0)) h'.objs.size vs _).get? b=_;rw[MV nb (by rw[T0];exact QJ (Qq eb))];exact Qc _ eb
 .rw[ZP,QX];intro i j hi hj hij;simp only[Zb] at hi hj;simp only[ZR];have up:=(o.up i j hij hj).le zne;have:=of_decide_eq_false up;rcases Int.lt_trichotomy ((vs.map zbw).getD (ix i) 0) ((vs.map zbw).getD (ix j) 0) with z|z|z
  .exact z
  .exfalso;have hi':ix i<(vs.map zbw).length:=by rw[Qf];exact o.bj.lt i hi
   have hj':ix j<(vs.map zbw).length:=by rw[Qf];exact o.bj.lt j hj
   rw[Qj,Qj,Qb hi',Qb hj'] at z;have:ix i=ix j:=(UI hi' nd).mp ((Qb hi').trans ((NK some z).trans (Qb hj').symm));have:=o.bj.inj i j hi hj this;lia
  .lia
 .rw[Qf,Zb,hp.length_eq];simp
end
end SXI
namespace L3
open PySem PySem.Spec
open PyProof.Rows hiding St
open L2 SX SXI
def tSN(K:Qa)(te:TE):TE:=λσ H Q=>te σ H λv H1=>∃(a:Addr) (ys:List Int),v = .ref a/\SqL K H1 a (ys.map V.int)/\ys.length<64/\∀(zs:List Int) p,zs.Pairwise (· < ·)->(∀k,k∈zs↔k∈ys)->H1 p=none->Q (.ref p) (upd H1 p (.lst (zs.map V.int)))
theorem zb9{xs ys:List Int}(h:xs.Nodup)(hs:∀k∈xs,k∈ys):xs.length<=ys.length:=by
 induction xs generalizing ys with
 | nil=>exact QI _
 | cons x xs ih=>
   have hx:x∈ys:=hs x (by simp);have h':=QQ.mp h;have:=ih (ys:=ys.erase x) h'.2 λk hk=>(J5 (λz:k=x=>h'.1 (z ▸ hk))).mpr (hs k (Qe _ hk));rw[Jm hx] at this;have:0<ys.length:=Jt hx;simp only[Qk];lia
theorem zof(hc:X.calm=true)(gl:Gl X "sorted")(ml:X.mg "sorted" = none)(gr:Gl X "set")(mr:X.mg "set" = none)(he:PE X e te)
 (s1:GC [.Call (.Name "set" p2) [e] [] p3] X.env=(false,eval (.Call (.Name "set" p2) [e] [] p3) X.env)::GC [] X.env:=by rfl) (s2:GC [e] X.env=(false,eval e X.env)::GC [] X.env:=by rfl) :
 PE X (.Call (.Name "sorted" p1) [.Call (.Name "set" p2) [e] [] p3] [] p4) (tSN X.K te):=by
 intro pins s σ H Q I h;have calm:=I.ok.hd hc;refine GH (zby I gl ml zdd ?_);refine Jg ?_ s1;rw[s1];show wpAny _ _ (Ms ((false,eval (.Call (.Name "set" p2) [e] [] p3) X.env) :: [])) _ _ s;refine Z1 ?_;refine GH (zby I gr mr (u:=.type "set") rfl ?_);refine ZD ?_ s2;rw[s2];show wpAny _ _ (Ms ((false,eval e X.env) :: [])) _ _ s;refine Z1 (thn (he pins s σ H _ I h) λu s' zz=>?_);obtain⟨y,H1,I1,r1,a,ys,hy,hq,hz,q⟩:=zz;refine ZM ?_;subst hy;cases r1;obtain⟨its,rv,pl,hz2⟩:=I1.list hq;have ln:its.length=ys.length:=by have:=rv.length;simp at this;exact this.symm
 refine zup (T := "list") (val:=λi=>ys.getD i 0) calm (λs₁ ex=>?_) F.sub_list_set VY (by decide) (zsc pl.isList) (λi v hv=>?_) (by unfold scanBound;simp;lia) λh' tk' es ep t T hk ex=>?_
 .obtain⟨o,e,c,_⟩:=pl.isList;exact⟨o,ex _ o e,c⟩
 .obtain⟨n,u,h1,rfl⟩:=zl8 rv i v (by simpa using hv);exact⟨u,by rw[Qj,h1];rfl⟩
 .have mem:∀k,k∈kyN es↔k∈ys:=λk=>by
   rw[hk k,show its.toArray.size=ys.length by simpa using ln];constructor
   .rintro⟨j,hj,rfl⟩;show ys.getD j 0∈ys;rw[Qj,Qb hj];exact Zi hj
   .intro hk;obtain⟨j,hj,e⟩:=QT hk;exact⟨j,hj,by rw[Qj,Qb hj];exact e⟩
  have z64:es.size<64:=by
   have:=zb9 T.nd (λk hk=>(mem k).mp hk);simp[kyN] at this;lia
  refine ZM ?_;refine zop (s:={ s' with heap:=h',toks:=tk' }) calm T z64 λh2 d2 tk2 out c zs l ex2 hl el st zp zs' zn=>?_;have lt':s'.heap.objs.size<=l:=QN (ZY (T.lts (s:={ s' with heap:=h',toks:=tk' }))) hl;have I2:=(Inv.draw (I1.laid (a:=l) (o:=.lst (zs.map V.int)) (t':=tk2) (h':=h2) (λb o e=>ex2 b o (ex b o e)) lt' ?_) d2)
  .exact⟨.ref l,_,I2,rfl,q zs l zs' (λk=>by rw[zp];exact mem k) (I1.hok.fresh lt')⟩
  .refine⟨?_,out,c,st,by simpa using el⟩;rw[Qf,zn];exact Td T.lt
def snD(f:DE):DE:=λρ Q=>f ρ λr=>∃ys:List Int,r.d = .list (ys.map .int)/\ys.length<64/\∀zs:List Int,zs.Pairwise (· < ·)->(∀k,k∈zs↔k∈ys)->Q (.n (zs.map .int))
theorem zig{K:Qa}{F:Addr->Prop}{H:Hp}:∀(ys:List Int),IsAll K F H (ys.map V.int) (ys.map .int)
 | []=>.nil
 | y::ys=>.cons (.int y) (zig ys)
theorem z5k{K:Qa}{O:Ob}{te:TE}{f:DE}(h:ED K O te f):ED K O (tSN K te) (snD f):=λσ H ρ Q Qd S hf k=>by
 refine h σ H ρ _ _ S hf λv H1 r s1 o1 zz=>?_;obtain⟨ys,hy,hl,q⟩:=zz;have i:=o1.is S.ok S.p;have ok:=S.ok;have p1:=s1.p S.p;rw[hy] at i
 cases i with
 | list f1 a1 b1=>
   rw[zi9 b1] at a1;refine⟨_,ys,rfl,.of a1,hl,λzs p h1 h2 hn=>?_⟩;obtain⟨a1,a2⟩:=zc0 (K:=K) ok hn (zig zs);exact k _ _ _ (s1.trans a1) (a2.ahead ok S.p s1) (q zs h1 h2)
theorem zi4{ι κ:Type}{P:GB}{w:GD}{K:Qa}{mg:Str->Option G5}{base:Heap}{k:Nat}{X:ι->Cx}{O:κ->Ob}{a:Expr}{fa:DE}{p1 p2 p3 p4:Pos}(C:Ctx3 P w K mg base k X)(B:Blt mg)(ha:E3 K X O a fa)(g1:∀i,Gl (X i) "sorted" := by intro i;rfl)(g2:∀i,Gl (X i) "set" := by intro i;rfl)
 (s1:∀i,GC [.Call (.Name "set" p2) [a] [] p3] (X i).env=(false,eval (.Call (.Name "set" p2) [a] [] p3) (X i).env)::GC [] (X i).env:=by intro i;rfl) (s2:∀i,GC [a] (X i).env=(false,eval a (X i).env)::GC [] (X i).env:=by intro i;rfl) :
 E3 K X O (.Call (.Name "sorted" p1) [.Call (.Name "set" p2) [a] [] p3] [] p4) (snD fa) :=
 let ⟨_,q,d⟩:=ha
 ⟨tSN K _,λi=>by
  have h:=zof (X:=X i) (p1:=p1) (p2:=p2) (p3:=p3) (p4:=p4) (C.calm i) (g1 i) (by rw[C.hmg];exact B.sorted) (g2 i) (by rw[C.hmg];exact B.set) (q i) (s1 i) (s2 i);rw[C.hK] at h
  exact h,λj=>z5k (d j)⟩
def zbn(ns:List Int)(r:RuG):Bool:=(nms r.b).all λn=>ns.contains n
inductive Mkr(g:GraZ):Int->Prop
 | of (r:RuG) (hr:r∈g.rs) (h:∀n∈nms r.b,Mkr g n):Mkr g r.n
def MkSet(g:GraZ)(ms:List Int):Prop:=ms.Pairwise (· < ·)/\∀n,n∈ms↔Mkr g n
def ztv:List G7->(R->Prop)->Prop:=λds Q=>∃(g:GraZ) (ns:List Int),ds = [zat g,.tuple (ns.map .int)]/\GzOk 60 g/\ns.length<=60/\Q (.n ((g.rs.filter (zbn ns)).map zcc))
def zpk:List G7->(R->Prop)->Prop:=λds Q=>∃g:GraZ,ds = [zat g]/\GzOk 60 g/\∀ms,MkSet g ms->ms.length<=60->Q (.o (.tuple (ms.map .int)))
theorem zer(h:∀n∈a,n∈b)(q:zbn a r=true):zbn b r=true:=by
 unfold zbn at *;rw[Z8] at *;intro n hn;have:=q n hn;simp only[Jz] at *;exact h n this
theorem madeOf_iff: zbn a r=true↔∀n∈nms r.b,n∈a:=by
 unfold zbn;rw[Z8];simp only[Jz]
def zbx(g:GraZ)(ns:List Int):List Int:=(g.rs.filter (zbn ns)).map (·.n)
theorem zi5(h:∀n∈a,n∈b):∀n∈zbx g a,n∈zbx g b:=λn hn=>by
 obtain⟨r,hr,rfl⟩:=Qp.mp hn;obtain⟨h1,h2⟩:=Zg.mp hr;exact Qp.mpr ⟨r,Zg.mpr ⟨h1,zer h h2⟩,rfl⟩
theorem znm(h:∀n∈a,Mkr g n):∀n∈zbx g a,Mkr g n:=λn hn=>by
 obtain⟨r,hr,rfl⟩:=Qp.mp hn;obtain⟨h1,h2⟩:=Zg.mp hr;exact .of r h1 λn hn=>h n (madeOf_iff.mp h2 n hn)
theorem zkq(h:∀n∈zbx g a,n∈a):∀n,Mkr g n->n∈a:=λn m=>by
 induction m with
 | of r hr _ ih=>exact h _ (Qp.mpr ⟨r,Zg.mpr ⟨hr,madeOf_iff.mpr ih⟩,rfl⟩)
theorem zes:∀{a b:List Int},a.Pairwise (· < ·)->b.Pairwise (· < ·)->(∀n,n∈a↔n∈b)->a=b
 | [],[],_,_,_=>rfl
 | [],y::ys,_,_,h=>absurd ((h y).mpr (by simp)) (by simp)
 | x::xs,[],_,_,h=>absurd ((h x).mp (by simp)) (by simp)
 | x::xs,y::ys,ha,hb,h=>by
   obtain⟨a1,a2⟩:=Z4.mp ha;obtain⟨b1,b2⟩:=Z4.mp hb
   obtain rfl:x=y:=by
    have h1:=(h x).mp (by simp);have h2:=(h y).mpr (by simp);rcases Qs.mp h1 with e|e
    .exact e
    .rcases Qs.mp h2 with e2|e2
     .exact e2.symm
     .have:=b1 x e;have:=a1 y e2;lia
   rw[zes a2 b2 λn=>?_];constructor
   .intro hn;rcases Qs.mp ((h n).mp (Qe _ hn)) with e|e
    .exact absurd (a1 n hn) (by lia)
    .exact e
   .intro hn;rcases Qs.mp ((h n).mpr (Qe _ hn)) with e|e
    .exact absurd (b1 n hn) (by lia)
    .exact e
theorem zej{a:List Int}(h:a.Pairwise (· < ·)):a.Nodup:=h.imp λz=>by lia
theorem zon{a b:List Int}(ha:a.Pairwise (· < ·))(hb:b.Pairwise (· < ·))(h:∀n∈a,n∈b)(hn:a≠b):a.length<b.length:=by
 have le:=zb9 (zej ha) h;rcases Zx a.length b.length with z|z
 .exact z
 .refine absurd (zes ha hb λn=>⟨h n,λhnb=>?_⟩) hn;rcases UJ (n∈a) with q|q
  .exact q
  .have:=zb9 (xs:=n::a) (ys:=b) (QQ.mpr ⟨q,zej ha⟩) λk hk=>by
    rcases Qs.mp hk with rfl|hk
    .exact hnb
    .exact h k hk
   rw[Qk] at this;lia
structure MkRun(g:GraZ)(kn mk:List Int):Prop where
 up:mk.Pairwise (· < ·)
 upK:kn.Pairwise (· < ·)
 turn:∀n,n∈mk↔n∈zbx g kn
 sub:∀n∈kn,n∈mk
 ok:∀n∈mk,Mkr g n
theorem MkRun.next{g:GraZ}{kn mk zs:List Int}(h:MkRun g kn mk)(hu:zs.Pairwise (· < ·))(ht:∀n,n∈zs↔n∈zbx g mk):MkRun g mk zs :=
 ⟨hu,h.up,ht,λn hn=>(ht n).mpr (zi5 h.sub n ((h.turn n).mp hn)),λn hn=>znm h.ok n ((ht n).mp hn)⟩
theorem MkRun.done(h:MkRun g ms ms):MkSet g ms:=⟨h.up,λn=>⟨h.ok n,zkq (λn hn=>(h.turn n).mpr hn) n⟩⟩
theorem zu4(hu:zs.Pairwise (· < ·))(ht:∀n,n∈zs↔n∈zbx g []):MkRun g [] zs :=
 ⟨hu,.nil,ht,λ_ h=>(Zk h).elim,λn hn=>znm (λ_ h=>(Zk h).elim) n ((ht n).mp hn)⟩
theorem MkRun.len{g:GraZ}{kn mk:List Int}(h:MkRun g kn mk):mk.length<=g.rs.length:=by
 have:=zb9 (zej h.up) λn hn=>(h.turn n).mp hn;refine QN this ?_;unfold zbx;rw[Qf];exact Jf _ _
theorem MkSet.same(ha:MkSet g a)(hb:MkSet g b):a=b:=zes ha.1 hb.1 λn=>(ha.2 n).trans (hb.2 n).symm
theorem zd5(ns:List Int):Sl 1 (.tuple (ns.map .int)):=zoc λi _=>znp i
theorem znv{x:Int}{ns:List Int}:Jh x∈ns.map Jh↔x∈ns:=by
 rw[Qp];exact⟨λ⟨y,hy,e⟩=>by injection e with e;exact e ▸ hy,λh=>⟨x,h,rfl⟩⟩
theorem zmw(x:Int)(ns:List Int):inF false (.int x) (.tuple (ns.map .int))=some (.o (.bool (ns.contains x))) :=
 z0x (znp x) (zd5 ns) (by decide) (by rw[Jz,znv])
theorem zmd(x:Int)(ns:List Int):inF false (.int x) (.list (ns.map .int))=some (.o (.bool (ns.contains x))) :=
 z5g (znp x) (zd5 ns) (by decide) (by rw[Jz,znv])
theorem zvs{a b:List Int}(h:a.map Jh=b.map Jh):a=b:=by
 induction a generalizing b with
 | nil=>cases b with
   | nil=>rfl
   | cons y b=>cases h
 | cons x a ih=>cases b with
   | nil=>cases h
   | cons y b=>
     rw[Q8,Q8] at h;injection h with h1 h2;injection h1 with h1;rw[h1,ih h2]
theorem zmo(a b:List Int):eqF true (.tuple (a.map .int)) (.tuple (b.map .int))=some (.o (.bool (!decide (a=b)))) :=
 (zly (zd5 a) (zd5 b) (by decide) (q:=decide (a=b)) (by
  rw[NG]
  exact⟨λe=>e ▸ rfl,λe=>zvs (by injection e)⟩)).trans (by rw[ND rfl])
theorem zx7:Sl 0 Ua:=⟨rfl,by decide +kernel,rfl⟩
theorem zv8(a:List Int):eqF true (.tuple (a.map .int)) .none=some (.o (.bool true)) :=
 (zly (zd5 a) (zx7) (by decide) (q:=false) ⟨(λz=>by cases z),(λz=>by cases z)⟩).trans (by rw[ND rfl];rfl)
theorem zfn(a:List Int):flat (.tuple (a.map .int))=true:=by
 show flats (a.map Jh)=true;exact za9 (f:=Jh) (λ_=>rfl) a
def zml:List G7->(R->Prop)->Prop:=λds Q=>∃g:GraZ,ds = [zat g]/\GzOk 6 g/\1<=g.n/\g.n<=3/\(∀r∈g.rs,0<=r.n/\r.n<g.n)/\∀ms,MkSet g ms->ms.length<=60->Q (.o (.tuple (ms.map .int)))
structure LMk(g:GraZ)(t:Nat)(ns:List Int):Prop where
 ok:∀n∈ns,Mkr g n
 len:ns.length<=t * g.rs.length
 more:(∀n∈zbx g ns,n∈ns)\/∃ds:List Int,ds.Nodup/\(∀n∈ds,n∈ns)/\ds.length=t
structure LMj(g:GraZ)(ns:List Int)(j:Nat)(ms:List Int):Prop where
 ok:∀n∈ms,Mkr g n
 len:ms.length<=ns.length+j
 sub:∀n∈ns,n∈ms
 all:∀(i:Nat) (r:RuG),i<j->g.rs[i]? = some r->zbn ns r=true->r.n∈ms
 stay:(∀n∈zbx g ns,n∈ns)->∀n∈ms,n∈ns
theorem LMj.yes{j:Nat}(h:LMj g ns j ms)(hr:g.rs[j]? = some r)(hm:zbn ms r=true):LMj g ns (j+1) (ms ++ [r.n]):=by
 have hg:=Qz hr;refine⟨λn hn=>?_,by rw[Ql,Je];have:=h.len;lia,λn hn=>QC _ (h.sub n hn),λi r' hi hr' hm'=>?_,λhc n hn=>?_⟩
 .rcases Q7.mp hn with hn|hn
  .exact h.ok n hn
  .rw[Qm.mp hn];exact .of r hg λn hn=>h.ok n (madeOf_iff.mp hm n hn)
 .by_cases z:i=j
  .subst z;rw[hr] at hr';cases hr';exact QF _ (Qm.mpr rfl)
  .exact QC _ (h.all i r' (by lia) hr' hm')
 .rcases Q7.mp hn with hn|hn
  .exact h.stay hc n hn
  .rw[Qm.mp hn];exact hc _ (Qp.mpr ⟨r,Zg.mpr ⟨hg,zer (h.stay hc) hm⟩,rfl⟩)
theorem LMj.no{j:Nat}(h:LMj g ns j ms)(hr:g.rs[j]? = some r)(hm:zbn ms r=false):LMj g ns (j+1) ms:=by
 refine⟨h.ok,by have:=h.len;lia,h.sub,λi r' hi hr' hm'=>?_,h.stay⟩
 by_cases z:i=j
 .subst z;rw[hr] at hr';cases hr';rw[zer h.sub hm'] at hm;cases hm
 .exact h.all i r' (by lia) hr' hm'
theorem LMj.first(h:∀n∈ns,Mkr g n):LMj g ns 0 ns:=⟨h,Qg _,λ_ h=>h,λ_ _ z=>absurd z (Yp _),λ_ _ h=>h⟩
theorem LMk.next{t:Nat}(h:LMk g t ns)(hj:LMj g ns g.rs.length ms):LMk g (t+1) ms:=by
 have turn:∀n∈zbx g ns,n∈ms:=λn hn=>by
  obtain⟨r,hr,rfl⟩:=Qp.mp hn;obtain⟨h1,h2⟩:=Zg.mp hr;obtain⟨i,hi,e⟩:=QT h1;exact hj.all i r hi (by rw[Qb hi,e]) h2
 refine⟨hj.ok,by have:=hj.len;have:=h.len;rw[Nat.succ_mul];lia,?_⟩;rcases UJ (∀n∈zbx g ns,n∈ns) with hc|hc
 .exact .inl λn hn=>hj.sub n (hc n (zi5 (hj.stay hc) n hn))
 .right;obtain⟨n0,h0⟩:=Classical.not_forall.mp hc;obtain⟨h1,h2⟩:=Classical.not_imp.mp h0;rcases h.more with z|⟨ds,d1,d2,d3⟩
  .exact absurd z hc
  .refine⟨n0::ds,QQ.mpr ⟨λz=>h2 (d2 n0 z),d1⟩,λn hn=>?_,by rw[Qk,d3]⟩;rcases Qs.mp hn with rfl|hn
   .exact turn _ h1
   .exact hj.sub n (d2 n hn)
theorem LMk.first: LMk g 0 []:=⟨λ_ h=>(Zk h).elim,QI _,.inr ⟨[],.nil,λ_ h=>h,rfl⟩⟩
theorem LMk.done(h:LMk g g.n.toNat ns)(hr:∀r∈g.rs,0<=r.n/\r.n<g.n)(hu:zs.Pairwise (· < ·))(hz:∀n,n∈zs↔n∈ns):MkSet g zs:=by
 have rg:∀n,Mkr g n->0<=n/\n<g.n:=λn m=>by cases m with|of r h1 _=>exact hr r h1
 refine⟨hu,λn=>⟨λhn=>h.ok n ((hz n).mp hn),λm=>(hz n).mpr ?_⟩⟩;rcases h.more with hc|⟨ds,d1,d2,d3⟩
 .exact zkq hc n m
 .rcases UJ (n∈ds) with z|z
  .exact d2 n z
  .exfalso
   have:=zb9 (xs:=n::ds) (ys:=(Q2 g.n.toNat).map λi:Nat=>(i:Int)) (QQ.mpr ⟨z,d1⟩) λk hk=>by
    have r:=rg k (by
     rcases Qs.mp hk with rfl|hk
     .exact m
     .exact h.ok k (d2 k hk))
    exact Qp.mpr ⟨k.toNat,Zf.mpr (by lia),by lia⟩
   rw[Qk,Qf,Zb] at this;lia
inductive Bd(g:GraZ):List GThg->List Nat->Prop
 | nil:Bd g [] []
 | lt {u v:List Nat} {b:List GThg} (h:Bd g b v):Bd g (.lt u::b) (u++v)
 | nm {i:Int} {u v:List Nat} {b:List GThg} (r:RuG) (hr:r∈g.rs) (hn:r.n=i) (hu:Bd g r.b u) (h:Bd g b v):Bd g (.nm i::b) (u++v)
def Wd(g:GraZ)(i:Int)(w:List Nat):Prop:=∃r∈g.rs,r.n=i/\Bd g r.b w
inductive Of(F:Int->List Nat->Prop):List GThg->List Nat->Prop
 | nil:Of F [] []
 | lt {u v:List Nat} {b:List GThg} (h:Of F b v):Of F (.lt u::b) (u++v)
 | nm {i:Int} {u v:List Nat} {b:List GThg} (hu:F i u) (h:Of F b v):Of F (.nm i::b) (u++v)
theorem Of.mono(h:∀i w,F i w->G i w)(o:Of F b w):Of G b w:=by
 induction o with
 | nil=>exact .nil
 | lt _ ih=>exact .lt ih
 | nm hu _ ih=>exact .nm (h _ _ hu) ih
theorem Of.bd(o:Of (Wd g) b w):Bd g b w:=by
 induction o with
 | nil=>exact .nil
 | lt _ ih=>exact .lt ih
 | nm hu _ ih=>obtain⟨r,hr,hn,h⟩:=hu;exact .nm r hr hn h ih
structure Fam(g:GraZ)(m:Nat)(F:Int->List Nat->Prop):Prop where
 snd:∀i w,F i w->Wd g i w/\w.length<=m
 cls:∀r∈g.rs,∀w,w.length<=m->Of F r.b w->F r.n w
theorem Fam.all{m:Nat}(h:Fam g m F)(d:Bd g b w):w.length<=m->Of F b w:=by
 induction d with
 | nil=>exact λ_=>.nil
 | lt _ ih=>exact λz=>.lt (ih (by rw[Ql] at z;lia))
 | nm r hr hn _ _ ih1 ih2=>
   intro z;rw[Ql] at z;exact .nm (hn ▸ h.cls r hr _ (by lia) (ih1 (by lia))) (ih2 (by lia))
theorem Fam.iff{m:Nat}(h:Fam g m F)(i:Int)(w:List Nat):F i w↔Wd g i w/\w.length<=m :=
 ⟨h.snd i w,λ⟨⟨r,hr,hn,d⟩,z⟩=>hn ▸ h.cls r hr w z (h.all d z)⟩
theorem Fam.same{m:Nat}(h:Fam g m F)(h':Fam g m G)(i:Int)(w:List Nat):F i w↔G i w:=(h.iff i w).trans (h'.iff i w).symm
theorem z3p(h:∀i w,F i w->Wd g i w)(hr:r∈g.rs)(o:Of F r.b w):Wd g r.n w:=⟨r,hr,rfl,(o.mono h).bd⟩
inductive Beg(F:Int->List Nat->Prop)(m:Nat):List GThg->List Nat->Prop
 | nil:Beg F m [] []
 | lt {u v:List Nat} {b:List GThg} (h:Beg F m b v) (z:(v++u).length<=m):Beg F m (b ++ [.lt u]) (v++u)
 | nm {i:Int} {u v:List Nat} {b:List GThg} (h:Beg F m b v) (hu:F i u) (z:(v++u).length<=m):Beg F m (b ++ [.nm i]) (v++u)
theorem Of.app(h:Of F a v)(h':Of F b w):Of F (a++b) (v++w):=by
 induction h with
 | nil=>exact h'
 | lt _ ih=>rw[Qv];exact .lt ih
 | nm hu _ ih=>rw[Qv];exact .nm hu ih
theorem Beg.of{m:Nat}(h:Beg F m b w):Of F b w/\w.length<=m:=by
 induction h with
 | nil=>exact⟨.nil,QI _⟩
 | @lt u v b _ z ih=>exact⟨ih.1.app (by have:=Of.lt (F:=F) (u:=u) .nil;rw[QD] at this;exact this),z⟩
 | nm _ hu z ih=>exact⟨ih.1.app (by have:=Of.nm (F:=F) hu .nil;rw[QD] at this;exact this),z⟩
theorem Of.split: ∀{a b:List GThg} {w:List Nat},Of F (a++b) w->∃u v,w=u++v/\Of F a u/\Of F b v
 | [],b,w,h=>⟨[],w,rfl,.nil,h⟩
 | .lt x::a,b,_,h=>by
   rw[Zo] at h
   cases h with
   | lt h=>obtain⟨u,v,rfl,h1,h2⟩:=Of.split h;exact⟨x++u,v,by rw[Qv],.lt h1,h2⟩
 | .nm i::a,b,_,h=>by
   rw[Zo] at h
   cases h with
   | nm hu h=>obtain⟨u,v,rfl,h1,h2⟩:=Of.split h;exact⟨_++u,v,by rw[Qv],.nm hu h1,h2⟩
theorem zn5{m:Nat}:∀(k:Nat) {b:List GThg},b.length=k->∀{w:List Nat},Of F b w->w.length<=m->Beg F m b w
 | 0,b,hk,w,h,_=>by
   obtain rfl:=Jo.mp hk;cases h;exact .nil
 | k+1,b,hk,w,h,z=>by
   rcases JU b with rfl|⟨a,t,rfl⟩ <;> try rw[JV] at *
   .cases hk
   obtain⟨u,v,rfl,h1,h2⟩:=h.split;have hk':a.length=k:=by simpa using hk
   have zu:u.length<=m:=by rw[Ql] at z;lia
   cases t with
   | lt x=>
     cases h2 with
     | lt h3=>
       cases h3;rw[QD] at z ⊢;exact .lt (zn5 k hk' h1 zu) z
   | nm i=>
     cases h2 with
     | nm hu h3=>
       cases h3;rw[QD] at z ⊢;exact .nm (zn5 k hk' h1 zu) hu z
def zav(ws:Ws):GThg->List (List Nat)
 | .nm i=>ws.at_ i.toNat
 | .lt u=>[u]
def lgrW(bs es:List (List Nat)):List (List Nat):=es.flatMap λe=>bs.map (· ++ e)
def za2(kf:List (List Nat)->List (List Nat))(ws:Ws)(b:List GThg):List (List Nat):=b.foldl (λbs t=>kf (lgrW bs (zav ws t))) [[]]
def zbo(kf:List (List Nat)->List (List Nat))(ws:Ws)(rs:List RuG)(i:Nat):List (List Nat):=(rs.filter λr=>decide (r.n=(i:Int))).flatMap λr=>za2 kf ws r.b
def zce(kf:List (List Nat)->List (List Nat))(g:GraZ)(ws:Ws):Ws:=(Q2 g.n.toNat).map λi=>kf (zbo kf ws g.rs i)
def itW(kf:List (List Nat)->List (List Nat))(g:GraZ):Nat->Ws
 | 0=>Qt g.n.toNat []
 | k+1=>zce kf g (itW kf g k)
def TOk(w:List Nat):Prop:=w.length<=1000/\∀c∈w,c<1000
def LOk(l:List (List Nat)):Prop:=l.length<=1000/\∀w∈l,TOk w
def ThW(ws:Ws):GThg->Prop
 | .nm i=>0<=i/\i.toNat<ws.length
 | .lt u=>TOk u
def KOk(F:List DV->(R->Prop)->Prop)(fs:List G7)(kf:List (List Nat)->List (List Nat))(Dm:List (List Nat)->Prop):Prop:=∀l,Dm l->∀Q:R->Prop,Q (.n ((kf l).map tS))->F ([.im (.list (l.map tS))]++fs.map .im) Q
structure BdyOk(kf:List (List Nat)->List (List Nat))(Dm:List (List Nat)->Prop)(ws:Ws)(b:List GThg):Prop where
 th:∀t∈b,ThW ws t
 sz:∀i,LOk (ws.at_ i)
 bg:∀j,LOk (za2 kf ws (b.take j))
 dm:∀(j:Nat) t,b[j]? = some t->Dm (lgrW (za2 kf ws (b.take j)) (zav ws t))
structure TurnW(kf:List (List Nat)->List (List Nat))(Dm:List (List Nat)->Prop)(g:GraZ)(ws:Ws):Prop where
 len:ws.length=g.n.toNat
 bd:∀r∈g.rs,BdyOk kf Dm ws r.b
 sz:∀i,LOk (ws.at_ i)
 md:∀i,i<g.n.toNat->Dm (zbo kf ws g.rs i)
structure GrOk(g:GraZ):Prop where
 n0:0<=g.n
 n3:g.n<=100
 many:g.rs.length<=100
 nm:∀r∈g.rs,0<=r.n/\r.n<g.n
section
variable (P:GB)(w:GD)(mg:Str->Option G5)(base:Heap)(kk:Nat)
def zc6(F:List DV->(R->Prop)->Prop)(fs:List G7):Thg:=zrl P w mg base kk 1 (λK=>spG K (λ_=>True) (1+fs.length) F) fs
def wobF:List DV->(R->Prop)->Prop:=λrs Q=>∃(ws:Ws) (b:List GThg) (F:List DV->(R->Prop)->Prop) (fs:List G7) (kf:List (List Nat)->List (List Nat)) (Dm:List (List Nat)->Prop),rs = [.im (.tuple (b.map zar)),.im (wsD ws),.thr (zc6 P w mg base kk F fs)]/\KOk F fs kf Dm/\BdyOk kf Dm ws b/\Q (.n ((za2 kf ws b).map tS))
def wbrF:List DV->(G7->Prop)->Prop:=λrs Q=>∃(g:GraZ) (F:List DV->(R->Prop)->Prop) (fs:List G7) (kf:List (List Nat)->List (List Nat)) (Dm:List (List Nat)->Prop) (N:Nat),rs = [.im (zat g),.thr (zc6 P w mg base kk F fs)]/\GrOk g/\KOk F fs kf Dm/\(∀k,k<=N->TurnW kf Dm g (itW kf g k))/\itW kf g (N+1)=itW kf g N/\Q (wsD (itW kf g N))
end
theorem zq5{kf:List (List Nat)->List (List Nat)}{ws:Ws}{b:List GThg}{j:Nat}{t:GThg}(h:b[j]? = some t):za2 kf ws (b.take (j+1))=kf (lgrW (za2 kf ws (b.take j)) (zav ws t)):=by
 have e:b.take (j+1)=b.take j ++ [t]:=by
  obtain⟨h1,h2⟩:=Qn.mp h;rw[Zj h1,h2]
 unfold za2;rw[e,ZF];rfl
theorem zt2{bs es:List (List Nat)}{k:Nat}{e:List Nat}(h:es[k]? = some e):lgrW bs (es.take (k+1))=lgrW bs (es.take k)++bs.map (· ++ e):=by
 have e':es.take (k+1)=es.take k ++ [e]:=by
  obtain⟨h1,h2⟩:=Qn.mp h;rw[Zj h1,h2]
 unfold lgrW;rw[e',YO,J9,List.flatMap_nil,QD]
theorem zmq(bs es:List (List Nat)):(lgrW bs es).length=es.length * bs.length:=by
 unfold lgrW
 induction es with
 | nil=>simp
 | cons e es ih=>rw[J9,Ql,Qf,ih,Qk,VZ];lia
theorem zgl{ws:Ws}{n:Nat}(h:n<ws.length):(ws.map wD1)[n]? = some (.list ((ws.at_ n).map tS)):=by
 rw[Qi,ze0 h];rfl
theorem zvj(ok:BdyOk kf Dm ws b)(h:t∈b):LOk (zav ws t):=by
 cases t with
 | nm i=>exact ok.sz _
 | lt u=>exact⟨by simp[zav],λw hw=>by rw[Qm.mp hw];exact ok.th _ h⟩
theorem z4b(h:wD1 a=wD1 b):a=b:=by
 unfold wD1 at h;injection h with h;exact U2 (λv w e=>zm2 e) |>.mp h
theorem z2s(h:wsD a=wsD b):a=b:=by
 unfold wsD at h;injection h with h;exact U2 (λv w e=>z4b e) |>.mp h
theorem zqh(h:∀l∈ws,LOk l):Sl 2 (wsD ws) :=
 (zoc (f:=wD1) λl hl=>(zoc (f:=tS) λv hv=>z1d (x:=tx v) (by
  rw[strOk_iff];intro c hc;rw[zeh] at hc;have:=((h l hl).2 v hv).2 c hc
  lia)).list).list
theorem z2l{ws:Ws}{l:List (List Nat)}(h:l∈ws):∃i,ws.at_ i=l:=by
 obtain⟨i,hi,e⟩:=QT h;refine⟨i,?_⟩;unfold Ws.at_;rw[Qj,Qb hi,e];rfl
theorem zi3(kf:List (List Nat)->List (List Nat))(g:GraZ):∀k,(itW kf g k).length=g.n.toNat
 | 0=>by simp[itW]
 | k+1=>by simp[itW,zce]
theorem z3j{i:Nat}(h:itW kf g (i+1)=itW kf g i):∀j,i<=j->itW kf g j=itW kf g i:=by
 intro j hj
 induction j with
 | zero=>rw[show i=0 by lia]
 | succ j ih=>
   by_cases e:i=j+1
   .rw[e]
   .have:=ih (by lia);show zce kf g (itW kf g j)=_;rw[this];exact h
def prvD(kf:List (List Nat)->List (List Nat))(g:GraZ):Nat->G7
 | 0=>.none
 | j+1=>wsD (itW kf g j)
def mdW(kf:List (List Nat)->List (List Nat))(ws:Ws)(n:Nat)(rs:List RuG):Ws:=(Q2 n).map λi=>zbo kf ws rs i
theorem zs4{n:Nat}{i:Nat}(h:i<n):(mdW kf ws n rs).at_ i=zbo kf ws rs i:=by
 unfold mdW Ws.at_;rw[Qj,Qi,Jc h];rfl
theorem zuz{kf:List (List Nat)->List (List Nat)}{ws:Ws}{n j:Nat}{rs:List RuG}{r:RuG}(h:rs[j]? = some r)(h0:0<=r.n):mdW kf ws n (rs.take (j+1))=(mdW kf ws n (rs.take j)).set r.n.toNat ((mdW kf ws n (rs.take j)).at_ r.n.toNat++za2 kf ws r.b):=by
 have e:rs.take (j+1)=rs.take j ++ [r]:=by
  obtain⟨h1,h2⟩:=Qn.mp h;rw[Zj h1,h2]
 apply Zq;intro i
 by_cases hi:i<n
 .have l1:(mdW kf ws n (rs.take j)).length=n:=by simp[mdW]
  have m1:zbo kf ws (rs.take (j+1)) i=zbo kf ws (rs.take j) i++(if r.n=(i:Int) then za2 kf ws r.b else[]):=by
   unfold zbo;rw[e,Yq,YO]
   by_cases c:r.n=(i:Int)
   .simp[c]
   .simp[c]
  have g1:∀rs',(mdW kf ws n rs')[i]? = some (zbo kf ws rs' i):=λrs'=>by unfold mdW;rw[Qi,Jc hi];rfl
  rw[g1,m1]
  by_cases c:r.n.toNat=i
  .subst c;rw[Q3 (by rw[l1];exact hi),zs4 hi,ND (by lia)]
  .rw[QB c,g1,NE (by lia),QD]
 .rw[Q0 (by simp[mdW];lia),Q0 (by simp[mdW];lia)]
theorem zz8{α:Type}{enc e:α->G7}{i h:Nat}{as:List α}(step:∀a∈as,∀P:G7->Prop,P (e a)->fo ((Qt h none++ρ).set i (some (.im (enc a)))) P)(hz:as.length<=10000)(q:Q (.list (as.map e))):goOw h (gN i) fo ρ Q (as.map enc) []:=by
 have sz:=GE
 have key:∀(l:List α) (acc:List G7),(∀a∈l,a∈as)->acc.length+l.length=as.length->(acc++l.map e=as.map e)->goOw h (gN i) fo ρ Q (l.map enc) acc:=by
  intro l
  induction l with
  | nil=>intro acc _ _ h;rw[YQ,QD] at h;show Q (.list acc);rw[h];exact q
  | cons a l ih=>
    intro acc hm hl he;refine step a (hm a Qu) _ ⟨by rw[Qk] at hl;lia,?_⟩;exact ih _ (λx hx=>hm x (Qe _ hx)) (by rw[Ql,Je];rw[Qk] at hl;lia) (by rw[Qv];exact he)
 exact key as [] (λ_ h=>h) (by simp) rfl
theorem zx4: zce kf g ws=(mdW kf ws g.n.toNat g.rs).map kf:=by
 unfold zce mdW;rw[Zd];rfl
theorem z3y{n:Nat}(h:l∈mdW kf ws n rs):∃i,i<n/\l=zbo kf ws rs i:=by
 obtain⟨i,hi,rfl⟩:=Qp.mp h;exact⟨i,Zf.mp hi,rfl⟩
theorem zwe{k:Nat}(h:k<ws.length):dset (wsD ws) [k] (.list (es.map tS))=wsD (ws.set k es):=by
 unfold wsD;rw[dset,zgl h];show JJ ((ws.map wD1).set k (.list (es.map tS))) = .list ((ws.set k es).map wD1);rw[List.map_set];rfl
theorem zl9(ok:BdyOk kf Dm ws b):LOk (za2 kf ws b):=by
 have:=ok.bg b.length;rw[Zn] at this;exact this
theorem zmi{i:Nat}:∀{rs:List RuG},(∀r∈rs,(za2 kf ws r.b).length<=1000)->(zbo kf ws rs i).length<=rs.length * 1000
 | [],_=>by simp[zbo]
 | r::rs,h=>by
   have ih:=zmi (i:=i) (rs:=rs) λx hx=>h x (Qe _ hx);have h1:=h r Qu;unfold zbo at ih ⊢;rw[JG]
   split
   .rw[J9,Ql,Qk];lia
   .rw[Qk];lia
end L3
namespace L3
open PySem PySem.Spec
open PyProof.Rows hiding St
open L2 L6
def nubW:List (List Nat)->List (List Nat)
 | []=>[]
 | w::l=>if w∈nubW l then nubW l else w::nubW l
theorem nub_mem: ∀{l:List (List Nat)},x∈nubW l↔x∈l
 | []=>Iff.rfl
 | w::l=>by
   unfold nubW;have ih:=nub_mem (x:=x) (l:=l)
   split
   .rename_i h
    rw[ih,Qs];exact⟨.inr,λz=>z.elim (λe=>by rw[e];exact nub_mem.mp h) id⟩
   .rw[Qs,Qs,ih]
theorem znn:∀{l:List (List Nat)},(nubW l).Nodup
 | []=>.nil
 | w::l=>by
   unfold nubW
   split
   .exact znn
   .rename_i h;exact QQ.mpr ⟨h,znn⟩
def shrt(n:Int)(w:List Nat):Bool:=decide ((w.length:Int)<=n)
def zag(n:Int)(l:List (List Nat)):List (List Nat):=zgx (nubW (l.filter (shrt n)))
theorem shortK_up{n:Int}: (zag n l).Pairwise λa b=>wlt a b=true:=zny znn
theorem zff{n:Int}: w∈zag n l↔w∈l/\(w.length:Int)<=n:=by
 unfold zag shrt;rw[zsp,nub_mem,Zg,NG]
theorem zk0{n:Int}: (zag n l).Nodup:=shortK_up.imp λ{a b} z e=>by subst e;rw[zg3] at z;cases z
structure DmS(n:Int)(l:List (List Nat)):Prop where
 len:l.length<=1000000
 ok:∀w∈l,TOk w
 few:(l.filter (shrt n)).length<=4090
def zji:List DV->(R->Prop)->Prop:=λrs Q=>∃(l:List (List Nat)) (n:Int),rs = [.im (.list (l.map tS)),.im (.int n)]/\DmS n l/\Q (.n ((zag n l).map tS))
theorem zss(n:Int):KOk zji [.int n] (zag n) (DmS n):=λl dm Q q=>⟨l,n,rfl,dm,q⟩
def zle:List G7->(R->Prop)->Prop:=λds Q=>∃(g:GraZ) (n:Int) (N:Nat),ds = [zat g,.int n]/\GrOk g/\1<=g.n/\(∀k,k<=N->TurnW (zag n) (DmS n) g (itW (zag n) g k))/\itW (zag n) g (N+1)=itW (zag n) g N/\Q (.n (((itW (zag n) g N).at_ 0).map tS))
def z5v:Stmt->Pos
 | .FunctionDef _ _ _ _ _ _ _ _ _ p=>p
 | _=>⟨0,0,0,0⟩
def ThA(al:List Nat)(n:Int):GThg->Prop
 | .nm i=>0<=i/\i<n
 | .lt u=>∃c∈al,u = [c]
structure GAl(g:GraZ)(al:List Nat):Prop where
 n1:1<=g.n
 n3:g.n<=3
 many:g.rs.length<=6
 al3:al.length<=3
 low:∀c∈al,zem c
 each:∀r∈g.rs,(0<=r.n/\r.n<g.n)/\r.b.length<=3/\∀t∈r.b,ThA al g.n t
theorem GAl.gr(h:GAl g al):GrOk g:=⟨by have:=h.n1;lia,by have:=h.n3;lia,by have:=h.many;lia,λr hr=>(h.each r hr).1⟩
def famW(ws:Ws)(i:Int)(w:List Nat):Prop:=0<=i/\w∈ws.at_ i.toNat
def zng(S:List (List Nat)->List (List Nat)->List (List Nat))(m:Nat):Prop:=∀bs es w,w∈S bs es↔∃u∈bs,∃v∈es,w=u++v/\w.length<=m
theorem zfy{m:Nat}(h:zng S m): ∀(k:Nat) {b:List GThg},b.length=k->(∀i,GThg.nm i∈b->0<=i)->∀{w:List Nat},w∈b.foldl (λbs t=>S bs (zav ws t)) [[]]↔Beg (famW ws) m b w
 | 0,b,hk,_,w=>by
   obtain rfl:=Jo.mp hk;show w∈[[]]↔_;rw[Qm]
   exact⟨λe=>by subst e;exact .nil,λz=>by
    generalize hb:([]:List GThg)=b at z
    cases z with
    | nil=>rfl
    | lt h _=>simp at hb
    | nm h _ _=>simp at hb⟩
 | k+1,b,hk,hb,w=>by
   rcases JU b with rfl|⟨a,t,rfl⟩ <;> try rw[JV] at *
   .cases hk
   have ih:=λ(w:List Nat)=>zfy h (ws:=ws) k (b:=a) (by simpa using hk) (λi hi=>hb i (QC _ hi)) (w:=w);rw[ZF];show w∈S _ (zav ws t)↔_;rw[h];constructor
   .rintro⟨u,hu,v,hv,rfl,hl⟩;have hu':=(ih u).mp hu
    cases t with
    | lt x=>rw[Qm.mp hv] at hl ⊢;exact .lt hu' hl
    | nm i=>exact .nm hu' ⟨hb i (by simp),hv⟩ hl
   .intro z;generalize hab:a ++ [t]=ab at z
    cases z with
    | nil=>simp at hab
    | @lt u v b' z1 z2=>
      obtain⟨rfl,e⟩:=UZ hab rfl;cases e;exact⟨v,(ih v).mpr z1,u,Qm.mpr rfl,rfl,z2⟩
    | @nm i u v b' z1 z2 z3=>
      obtain⟨rfl,e⟩:=UZ hab rfl;cases e;exact⟨v,(ih v).mpr z1,u,z2.2,rfl,z3⟩
def zbz(m:Nat)(l:List (List Nat))(w:List Nat):List (List Nat):=if(decide (w.length<=m) && !l.contains w)=true then l ++ [w] else l
def zgy(m:Nat)(bs es:List (List Nat)):List (List Nat):=(bs.flatMap λb=>es.map (b ++ ·)).foldl (zbz m) []
def zay(m:Nat)(ws:Ws)(b:List GThg):List (List Nat):=b.foldl (λbs t=>zgy m bs (zav ws t)) [[]]
theorem addIf_mem{m:Nat}: ∀{l acc:List (List Nat)},w∈l.foldl (zbz m) acc↔w∈acc\/(w∈l/\w.length<=m)
 | [],acc=>by simp
 | x::l,acc=>by
   rw[Yo,addIf_mem];unfold zbz
   split
   .rename_i h
    simp only[Qy,NG] at h;rw[Q7,Qm,Qs];constructor
    .rintro((h1|rfl)|⟨h1,h2⟩)
     .exact .inl h1
     .exact .inr ⟨.inl rfl,h.1⟩
     .exact .inr ⟨.inr h1,h2⟩
    .rintro(h1|⟨rfl|h1,h2⟩)
     .exact .inl (.inl h1)
     .exact .inl (.inr rfl)
     .exact .inr ⟨h1,h2⟩
   .rename_i h
    rw[Qs];constructor
    .rintro(h1|⟨h1,h2⟩)
     .exact .inl h1
     .exact .inr ⟨.inr h1,h2⟩
    .rintro(h1|⟨rfl|h1,h2⟩)
     .exact .inl h1
     .left;simp only[Qy,NG,not_and,ZO,Bool.not_eq_false] at h;have:=h h2;simpa using this
     .exact .inr ⟨h1,h2⟩
theorem zhs{m:Nat}:∀{l acc:List (List Nat)},acc.Nodup->(l.foldl (zbz m) acc).Nodup
 | [],acc,h=>h
 | x::l,acc,h=>by
   rw[Yo];refine zhs ?_;unfold zbz
   split
   .rename_i hc
    simp only[Qy,ZO] at hc;refine ZE.mpr ⟨h,by simp,λa ha b hb e=>?_⟩;rw[Qm.mp hb] at e;subst e;have:=hc.2;simp at this;exact this ha
   .exact h
theorem zmt(m:Nat):zng (zgy m) m:=λbs es w=>by
 unfold zgy;rw[addIf_mem];constructor
 .rintro(h|⟨h,hl⟩)
  .cases h
  .obtain⟨u,hu,h⟩:=Jj.mp h;obtain⟨v,hv,rfl⟩:=Qp.mp h;exact⟨u,hu,v,hv,rfl,hl⟩
 .rintro⟨u,hu,v,hv,rfl,hl⟩;exact .inr ⟨Jj.mpr ⟨u,hu,Qp.mpr ⟨v,hv,rfl⟩⟩,hl⟩
theorem zsq(m:Nat):zng (λbs es=>zag (m:Nat) (lgrW bs es)) m:=λbs es w=>by
 show w∈zag (m:Nat) (lgrW bs es)↔_;rw[zff];unfold lgrW;constructor
 .rintro⟨h,hl⟩;obtain⟨v,hv,h⟩:=Jj.mp h;obtain⟨u,hu,rfl⟩:=Qp.mp h;exact⟨u,hu,v,hv,rfl,by lia⟩
 .rintro⟨u,hu,v,hv,rfl,hl⟩;exact⟨Jj.mpr ⟨v,hv,Qp.mpr ⟨u,hu,rfl⟩⟩,by lia⟩
structure SndG(g:GraZ)(al:List Nat)(m:Nat)(ws:Ws):Prop where
 len:ws.length=g.n.toNat
 nd:∀n,(ws.at_ n).Nodup
 snd:∀i:Nat,∀w∈ws.at_ i,w.length<=m/\(∀c∈w,c∈al)/\Wd g (i:Nat) w
section
variable {g:GraZ}{al:List Nat}{m:Nat}{ws:Ws}
theorem zmj(ga:GAl g al)(s:SndG g al m ws)(hr:r∈g.rs):∀{b:List GThg} {w:List Nat},(∀t∈b,ThA al g.n t)->Beg (famW ws) m b w->(∀c∈w,c∈al):=by
 intro b w hb h
 induction h with
 | nil=>intro c hc;cases hc
 | @lt u v b h z ih=>
   intro c hc;rcases Q7.mp hc with hc|hc
   .exact ih (λt ht=>hb t (QC _ ht)) c hc
   .obtain⟨d,hd,rfl⟩:=hb (.lt u) (by simp);rw[Qm.mp hc];exact hd
 | @nm i u v b h hu z ih=>
   intro c hc;rcases Q7.mp hc with hc|hc
   .exact ih (λt ht=>hb t (QC _ ht)) c hc
   .exact(s.snd _ u hu.2).2.1 c hc
theorem ztg(s:SndG g al m ws):∀i w,famW ws i w->Wd g i w:=λi w h=>by
 have:=(s.snd _ w h.2).2.2;rw[JD h.1] at this;exact this
theorem zhp(ga:GAl g al)(s:SndG g al m ws)(hr:r∈g.rs)(h:Beg (famW ws) m r.b w):w.length<=m/\(∀c∈w,c∈al)/\Wd g (r.n.toNat:Nat) w:=by
 have e:=ga.each r hr;refine⟨h.of.2,zmj ga s hr e.2.2 h,?_⟩;rw[JD e.1.1];exact z3p (ztg s) hr h.of.1
theorem SndG.few(ga:GAl g al)(m4:m<=4)(s:SndG g al m ws)(i:Nat):(ws.at_ i).length<=121:=by
 have h1:=zdx (s.nd i) (ys:=allW al 4) λw hw=>zfd (by have:=(s.snd i w hw).1;lia) (s.snd i w hw).2.1;have h2:=zfx ga.al3 4;have h3:(Q2 (4+1)).foldl (λa _=>3 * a+1) 0=121:=by decide
 lia
theorem SndG.tot(ga:GAl g al)(m4:m<=4)(s:SndG g al m ws):L3.tot ws<=363:=by
 have h:=zs3 (ws:=ws) (k:=121) λn hn=>s.few ga m4 n;have:=ga.n3;rw[s.len] at h;lia
theorem zt7(ga:GAl g al)(m4:m<=4){l:List (List Nat)}(nd:l.Nodup)(h:∀w∈l,w.length<=m/\∀c∈w,c∈al):l.length<=121:=by
 have h1:=zdx nd (ys:=allW al 4) λw hw=>zfd (by have:=(h w hw).1;lia) (h w hw).2;have h2:=zfx ga.al3 4;have h3:(Q2 (4+1)).foldl (λa _=>3 * a+1) 0=121:=by decide
 lia
theorem zrv(s:SndG g al m ws)(ga:GAl g al)(h:∀r∈g.rs,∀w,Beg (famW ws) m r.b w->w∈ws.at_ r.n.toNat):Fam g m (famW ws) where
 snd:=λi w hw=>⟨ztg s i w hw,(s.snd _ w hw.2).1⟩
 cls:=λr hr w hl o=>⟨(ga.each r hr).1.1,h r hr w (zn5 _ rfl o hl)⟩
theorem SndG.add{st:Ws×Bool}(s:SndG g al m st.1){i:Nat}(hi:i<g.n.toNat){w:List Nat}(hw:w.length<=m/\(∀c∈w,c∈al)/\Wd g (i:Nat) w):SndG g al m (addW i st w).1:=by
 unfold addW
 by_cases c:(st.1.at_ i).contains w=true
 .rw[ND c];exact s
 .rw[NE c];have hn:i<st.1.length:=by rw[s.len];exact hi
  refine⟨by rw[QV];exact s.len,λk=>?_,λq v hv=>?_⟩
  .rw[zjd hn]
   by_cases e:k=i
   .rw[ND e];refine ZE.mpr ⟨s.nd _,by simp,λa ha b hb e=>c ?_⟩;rw[Qm.mp hb] at e;rw[<- e];simpa using ha
   .rw[NE e];exact s.nd k
  .rw[zjd hn] at hv
   by_cases e:q=i
   .rw[ND e] at hv;subst e;rcases Q7.mp hv with hv|hv
    .exact s.snd q v hv
    .rw[Qm.mp hv];exact hw
   .rw[NE e] at hv;exact s.snd q v hv
theorem zgt{i:Nat}(hi:i<g.n.toNat):∀{l:List (List Nat)} {st:Ws×Bool},SndG g al m st.1->(∀w∈l,w.length<=m/\(∀c∈w,c∈al)/\Wd g (i:Nat) w)->SndG g al m (l.foldl (addW i) st).1/\Grow st (l.foldl (addW i) st)/\∀w∈l,w∈(l.foldl (addW i) st).1.at_ i
 | [],st,s,_=>⟨s,.refl _,λ_ h=>nomatch h⟩
 | w::l,st,s,h=>by
   have hn:i<st.1.length:=by rw[s.len];exact hi
   obtain⟨g1,g2⟩:=zsh (w:=w) hn;obtain⟨z1,z2,z3⟩:=zgt (l:=l) hi (s.add hi (h w (by simp))) λv hv=>h v (Qe _ hv);refine⟨z1,g1.trans z2,λv hv=>?_⟩;rcases Qs.mp hv with rfl|hv
   .exact z2.sub _ _ g2
   .exact z3 v hv
def ruL(m:Nat)(st:Ws×Bool)(r:RuG):Ws×Bool:=(zay m st.1 r.b).foldl (addW r.n.toNat) st
theorem zgf(ga:GAl g al)(hr:r∈g.rs): w∈zay m ws r.b↔Beg (famW ws) m r.b w:=zfy (zmt m) _ rfl λi hi=>((ga.each r hr).2.2 _ hi).1
theorem zq9(ga:GAl g al)(hr:r∈g.rs):r.n.toNat<g.n.toNat:=by have:=(ga.each r hr).1;lia
theorem z0i(ga:GAl g al){st:Ws×Bool}(s:SndG g al m st.1){r:RuG}(hr:r∈g.rs):SndG g al m (ruL m st r).1/\Grow st (ruL m st r)/\∀w∈zay m st.1 r.b,w∈(ruL m st r).1.at_ r.n.toNat :=
 zgt (zq9 ga hr) s λw hw=>zhp ga s hr ((zgf ga hr).mp hw)
theorem zhu(ga:GAl g al):∀{l:List RuG} {st:Ws×Bool},(∀r∈l,r∈g.rs)->SndG g al m st.1->SndG g al m (l.foldl (ruL m) st).1/\Grow st (l.foldl (ruL m) st)/\((l.foldl (ruL m) st).2=false->∀r∈l,∀w∈zay m st.1 r.b,w∈st.1.at_ r.n.toNat)
 | [],st,_,s=>⟨s,.refl _,λ_ _ h=>nomatch h⟩
 | r::l,st,h,s=>by
   obtain⟨s1,g1,f1⟩:=z0i ga s (h r (by simp));obtain⟨s2,g2,f2⟩:=zhu ga (l:=l) (λx hx=>h x (by simp[hx])) s1;refine⟨s2,g1.trans g2,λe x hx w hw=>?_⟩;have e':(l.foldl (ruL m) (ruL m st r)).2=false:=e;have e2:=g2.same e';have e3:(ruL m st r).2=false:=by rw[e2] at e';exact e'
   have e4:=g1.same e3;rcases Qs.mp hx with rfl|hx
   .have:=f1 w hw;rw[e4] at this;exact this
   .have:=f2 e' x hx w (by rw[e4];exact hw);rw[e4] at this;exact this
theorem zma(ga:GAl g al):∀{l:List RuG} {st:Ws×Bool},(∀r∈l,r∈g.rs)->st.1.length=g.n.toNat->Up1 st (l.foldl (ruL m) st)
 | [],st,_,_=>.refl _
 | r::l,st,h,e=>by
   have h1:Up1 st (ruL m st r):=zmk (by rw[e];exact zq9 ga (h r (by simp)));exact h1.trans (zma ga (l:=l) (λx hx=>h x (Qe _ hx)) (h1.ln.trans e))
theorem zws:SndG g al m (Qt g.n.toNat []):=by
 have z:∀n,Ws.at_ (Qt g.n.toNat []) n = []:=λn=>by
  unfold Ws.at_;rw[Qj,QZ]
  split <;> rfl
 exact⟨QR,λn=>by rw[z];exact .nil,λi w hw=>by rw[z] at hw;cases hw⟩
end
theorem Beg.mono{m:Nat}(h:∀i w,F i w->G i w)(d:Beg F m b w):Beg G m b w:=by
 induction d with
 | nil=>exact .nil
 | lt _ z ih=>exact .lt ih z
 | nm _ hu z ih=>exact .nm ih (h _ _ hu) z
theorem mem_made{i:Nat}: w∈zbo kf ws rs i↔∃r∈rs,r.n=(i:Int)/\w∈za2 kf ws r.b:=by
 unfold zbo;rw[Jj];constructor
 .rintro⟨r,hr,hw⟩;obtain⟨h1,h2⟩:=Zg.mp hr;exact⟨r,h1,NF h2,hw⟩
 .rintro⟨r,hr,e,hw⟩;exact⟨r,Zg.mpr ⟨hr,NH e⟩,hw⟩
theorem zjs{i:Nat}:(zce kf g ws).at_ i=if i<g.n.toNat then kf (zbo kf ws g.rs i) else[]:=by
 unfold zce Ws.at_;rw[Qj,Qi]
 by_cases h:i<g.n.toNat
 .rw[Jc h,ND h];rfl
 .rw[Q0 (by simp;lia),NE h];rfl
section
variable {g:GraZ}{al:List Nat}{m:Nat}{ws:Ws}
theorem zhz(ga:GAl g al)(hb:∀t∈b,ThA al g.n t): w∈za2 (zag (m:Nat)) ws b↔Beg (famW ws) m b w:=zfy (zsq m) _ rfl λi hi=>(hb _ hi).1
theorem zf2(ga:GAl g al){i:Nat}: w∈(zce (zag (m:Nat)) g ws).at_ i↔i<g.n.toNat/\∃r∈g.rs,r.n=(i:Int)/\Beg (famW ws) m r.b w:=by
 rw[zjs]
 by_cases h:i<g.n.toNat
 .rw[ND h,zff,mem_made];constructor
  .rintro⟨⟨r,hr,e,hw⟩,_⟩;exact⟨h,r,hr,e,(zhz ga (ga.each r hr).2.2).mp hw⟩
  .rintro⟨_,r,hr,e,hw⟩;exact⟨⟨r,hr,e,(zhz ga (ga.each r hr).2.2).mpr hw⟩,by have:=hw.of.2;lia⟩
 .rw[NE h];exact⟨λz=>(by cases z),λz=>absurd z.1 h⟩
theorem zv1(ga:GAl g al)(s:SndG g al m ws):SndG g al m (zce (zag (m:Nat)) g ws):=by
 refine⟨by simp[zce],λi=>?_,λi w hw=>?_⟩
 .rw[zjs]
  split
  .exact zk0
  .exact .nil
 .obtain⟨_,r,hr,e,hb⟩:=(zf2 ga).mp hw;have:=zhp ga s hr hb;rw[e,Int.toNat_natCast] at this;exact this
theorem zew(ga:GAl g al):∀k,SndG g al m (itW (zag (m:Nat)) g k)
 | 0=>zws
 | k+1=>zv1 ga (zew ga k)
theorem zrh(k i:Nat):((itW (zag (m:Nat)) g k).at_ i).Pairwise λa b=>wlt a b=true:=by
 cases k with
 | zero=>
   have z:Ws.at_ (Qt g.n.toNat []) i = []:=by
    unfold Ws.at_;rw[Qj,QZ]
    split <;> rfl
   show(Ws.at_ (Qt g.n.toNat []) i).Pairwise _;rw[z];exact .nil
 | succ k=>
   show(Ws.at_ (zce _ _ _) i).Pairwise _;rw[zjs]
   split
   .exact shortK_up
   .exact .nil
theorem zhc(ga:GAl g al):∀k i w,w∈(itW (zag (m:Nat)) g k).at_ i->w∈(itW (zag (m:Nat)) g (k+1)).at_ i
 | 0,i,w,h=>by
   have z:Ws.at_ (Qt g.n.toNat []) i = []:=by
    unfold Ws.at_;rw[Qj,QZ]
    split <;> rfl
   have h:w∈Ws.at_ (Qt g.n.toNat []) i:=h;rw[z] at h;cases h
 | k+1,i,w,h=>by
   obtain⟨hi,r,hr,e,hb⟩:=(zf2 ga).mp h;exact(zf2 ga).mpr ⟨hi,r,hr,e,hb.mono λj v hv=>⟨hv.1,zhc ga k _ _ hv.2⟩⟩
theorem zrm:∀{a b:Ws},a.length=b.length->(∀i,(a.at_ i).length<=(b.at_ i).length)->L3.tot a<=L3.tot b/\(L3.tot a=L3.tot b->∀i,(a.at_ i).length=(b.at_ i).length)
 | [],[],_,_=>⟨Qg _,λ_ _=>rfl⟩
 | [],_::_,h,_=>by simp at h
 | _::_,[],h,_=>by simp at h
 | x::a,y::b,h,p=>by
   have h0:x.length<=y.length:=p 0;obtain⟨i1,i2⟩:=zrm (a:=a) (b:=b) (by simpa using h) λi=>p (i+1);unfold L3.tot at i1 i2 ⊢;simp only[Q8,Vw];refine⟨by lia,λe i=>?_⟩
   cases i with
   | zero=>show x.length=y.length;lia
   | succ i=>exact i2 (by lia) i
theorem zqi{a b:List (List Nat)}(na:a.Nodup)(h:∀w∈a,w∈b)(e:a.length=b.length)(nb:b.Nodup):∀w∈b,w∈a:=λw hw=>by
 by_cases c:w∈a
 .exact c
 .have:=zdx (zs:=w::a) (ys:=b) (QQ.mpr ⟨c,na⟩) λv hv=>by
   rcases Qs.mp hv with rfl|hv
   .exact hw
   .exact h v hv
  rw[Qk] at this;lia
theorem z2b(ga:GAl g al)(k:Nat):itW (zag (m:Nat)) g (k+1)=itW (zag (m:Nat)) g k\/L3.tot (itW (zag (m:Nat)) g k)<L3.tot (itW (zag (m:Nat)) g (k+1)):=by
 have s1:=zew (m:=m) ga k;have s2:=zew (m:=m) ga (k+1);have hl:(itW (zag (m:Nat)) g k).length=(itW (zag (m:Nat)) g (k+1)).length:=by rw[zi3,zi3]
 obtain⟨h1,h2⟩:=zrm hl λi=>zdx (s1.nd i) λw hw=>zhc ga k i w hw
 by_cases e:L3.tot (itW (zag (m:Nat)) g k)=L3.tot (itW (zag (m:Nat)) g (k+1))
 .left;have h3:=h2 e;apply Yb hl.symm;intro i hi1 hi2;have e1:=ze0 hi1;have e2:=ze0 hi2;rw[Qb hi1] at e1;rw[Qb hi2] at e2;rw[Zp e1,Zp e2];refine(zgu (zrh k i) (zrh (k+1) i) λw=>⟨zhc ga k i w,?_⟩).symm;exact zqi (s1.nd i) (λw hw=>zhc ga k i w hw) (h3 i) (s2.nd i) w
 .right;lia
theorem zzo(ga:GAl g al)(m4:m<=4):∃N,itW (zag (m:Nat)) g (N+1)=itW (zag (m:Nat)) g N:=by
 have key:∀k,(∃N,itW (zag (m:Nat)) g (N+1)=itW (zag (m:Nat)) g N)\/k<=L3.tot (itW (zag (m:Nat)) g k):=by
  intro k
  induction k with
  | zero=>exact .inr (QI _)
  | succ k ih=>
    rcases ih with h|h
    .exact .inl h
    .rcases z2b (m:=m) ga k with z|z
     .exact .inl ⟨k,z⟩
     .exact .inr (by lia)
 rcases key 364 with h|h
 .exact h
 .have:=(zew (m:=m) ga 364).tot ga m4;lia
theorem zkh{i B:Nat}:∀{rs:List RuG},(∀r∈rs,(za2 kf ws r.b).length<=B)->(zbo kf ws rs i).length<=rs.length * B
 | [],_=>by simp[zbo]
 | r::rs,h=>by
   have ih:=zkh (i:=i) (rs:=rs) λx hx=>h x (Qe _ hx);have h1:=h r Qu;unfold zbo at ih ⊢;rw[JG]
   split
   .rw[J9,Ql,Qk,VZ];lia
   .rw[Qk,VZ];lia
def GoodL(al:List Nat)(m:Nat)(l:List (List Nat)):Prop:=l.Nodup/\∀w∈l,w.length<=m/\∀c∈w,c∈al
theorem GoodL.few(ga:GAl g al)(m4:m<=4)(h:GoodL al m l):l.length<=121:=zt7 ga m4 h.1 h.2
theorem GAl.lo(ga:GAl g al){c:Nat}(h:c∈al):c<1000:=by have:97<=c/\c<123:=ga.low c h;lia
theorem GoodL.lok(ga:GAl g al)(m4:m<=4)(h:GoodL al m l):LOk l:=⟨by have:=h.few ga m4;lia,λw hw=>⟨by have:=(h.2 w hw).1;lia,λc hc=>ga.lo ((h.2 w hw).2 c hc)⟩⟩
theorem zs6(ga:GAl g al){l:List (List Nat)}{k:Nat}(nd:l.Nodup)(h:∀w∈l,w.length<=k/\∀c∈w,c∈al):l.length<=(Q2 (k+1)).foldl (λa _=>3 * a+1) 0 :=
 QN (zdx nd (ys:=allW al k) λw hw=>zfd (h w hw).1 (h w hw).2) (zfx ga.al3 k)
theorem zyh(ga:GAl g al)(m4:m<=4){bs:List (List Nat)}(hb:GoodL al m bs)(he:GoodL al m es):((lgrW bs es).filter (shrt (m:Nat))).length<=4090:=by
 have pt:∀e:List Nat,((bs.map (· ++ e)).filter (shrt (m:Nat))).length<=13+(if e.length<=1 then 121 else 0):=λe=>by
  rw[List.filter_map,Qf];have nd:(bs.filter (shrt (m:Nat) ∘ λx=>x++e)).Nodup:=hb.1.sublist Ug
  have mm:∀w∈bs.filter (shrt (m:Nat) ∘ λx=>x++e),w∈bs/\w.length+e.length<=4:=λw hw=>by
   obtain⟨h1,h2⟩:=Zg.mp hw;have h2:decide ((((w++e).length:Nat):Int)<=(m:Nat))=true:=h2;have:=NF h2;rw[Ql] at this;exact⟨h1,by lia⟩
  by_cases c:e.length<=1
  .rw[ND c];have:=zt7 ga m4 nd λw hw=>hb.2 w (mm w hw).1;lia
  .rw[NE c];have:=zs6 ga (k:=2) nd λw hw=>⟨by have:=(mm w hw).2;lia,(hb.2 w (mm w hw).1).2⟩;have h3:(Q2 (2+1)).foldl (λa _=>3 * a+1) 0=13:=by decide
   lia
 have sm:∀es:List (List Nat),((lgrW bs es).filter (shrt (m:Nat))).length<=13 * es.length+121 * (es.filter λe=>decide (e.length<=1)).length:=by
  intro es
  induction es with
  | nil=>simp[lgrW]
  | cons e es ih=>
    have h1:=pt e;unfold lgrW at ih ⊢;rw[J9,Yq,Ql,Qk,JG]
    by_cases c:e.length<=1
    .rw[ND (NH c),Qk];rw[ND c] at h1;lia
    .rw[NE (by rw[NG];exact c)];rw[NE c] at h1;lia
 have h1:=sm es;have h2:=he.few ga m4
 have h3:=zs6 ga (l:=es.filter λe=>decide (e.length<=1)) (k:=1) (he.1.sublist Ug) λw hw=>by
  obtain⟨a,b⟩:=Zg.mp hw;exact⟨NF b,(he.2 w a).2⟩
 have h4:(Q2 (1+1)).foldl (λa _=>3 * a+1) 0=4:=by decide
 lia
theorem zf9(ga:GAl g al)(s:SndG g al m ws)(hb:∀t∈b,ThA al g.n t)(r:RuG)(hr:r∈g.rs):GoodL al m (za2 (zag (m:Nat)) ws b):=by
 refine⟨?_,λw hw=>?_⟩
 .rcases JU b with rfl|⟨a,t,rfl⟩ <;> try rw[JV] at *
  .show([[]]:List (List Nat)).Nodup;simp
  .unfold za2;rw[ZF];exact zk0
 .have h:=(zhz ga hb).mp hw;exact⟨h.of.2,zmj ga s hr hb h⟩
theorem z0f(ga:GAl g al)(m4:m<=4)(s:SndG g al m ws):TurnW (zag (m:Nat)) (DmS (m:Nat)) g ws:=by
 have good:∀i,GoodL al m (ws.at_ i):=λi=>⟨s.nd i,λw hw=>⟨(s.snd i w hw).1,(s.snd i w hw).2.1⟩⟩;have sz:∀i,LOk (ws.at_ i):=λi=>(good i).lok ga m4;refine⟨s.len,λr hr=>?_,sz,λi hi=>?_⟩
 .have e:=ga.each r hr;have tk:∀j,∀t∈r.b.take j,ThA al g.n t:=λj t ht=>e.2.2 t (Zm ht);have bg:∀j,GoodL al m (za2 (zag (m:Nat)) ws (r.b.take j)):=λj=>zf9 ga s (tk j) r hr;refine⟨λt ht=>?_,sz,λj=>(bg j).lok ga m4,λj t ht=>?_⟩
  .have:=e.2.2 t ht
   cases t with
   | nm i=>
     obtain⟨h0,h1⟩:0<=i/\i<g.n:=this;exact⟨h0,by rw[s.len];lia⟩
   | lt u=>obtain⟨c,hc,rfl⟩:=this;exact⟨by simp,λd hd=>by rw[Qm.mp hd];exact ga.lo hc⟩
  .have ht':=e.2.2 t (Qz ht)
   have ge:GoodL al 4 (zav ws t):=by
    cases t with
    | nm i=>exact⟨s.nd _,λw hw=>⟨by have:=(s.snd _ w hw).1;lia,(s.snd _ w hw).2.1⟩⟩
    | lt u=>obtain⟨c,hc,rfl⟩:=ht';exact⟨by simp[zav],λw hw=>by rw[Qm.mp hw];exact⟨by simp,λd hd=>by rw[Qm.mp hd];exact hc⟩⟩
   have gb:GoodL al 4 (za2 (zag (m:Nat)) ws (r.b.take j)):=⟨(bg j).1,λw hw=>⟨by have:=((bg j).2 w hw).1;lia,((bg j).2 w hw).2⟩⟩;refine⟨?_,λw hw=>?_,?_⟩
   .rw[zmq];have h1:=ge.few ga (Qg _);have h2:=(bg j).few ga m4;exact QN (Y3 h1 h2) (by decide)
   .obtain⟨v,hv,hw⟩:=Jj.mp hw;obtain⟨u,hu,rfl⟩:=Qp.mp hw;refine⟨by rw[Ql];have:=(ge.2 v hv).1;have:=(gb.2 u hu).1;lia,λc hc=>?_⟩;rcases Q7.mp hc with hc|hc
    .exact ga.lo ((gb.2 u hu).2 c hc)
    .exact ga.lo ((ge.2 v hv).2 c hc)
   .have h:=zyh ga (m:=4) (Qg _) gb ge;refine QN ?_ h;rw[<- YK,<- YK];refine List.countP_mono_left λw _ hw=>?_;unfold shrt at hw ⊢;rw[NG] at hw ⊢;lia
 .have hb:∀r∈g.rs,(za2 (zag (m:Nat)) ws r.b).length<=121:=λr hr=>(zf9 ga s (ga.each r hr).2.2 r hr).few ga m4;have h1:=zkh (i:=i) hb;have h2:=ga.many;have h3:g.rs.length * 121<=6 * 121:=YE _ h2;refine⟨by lia,λw hw=>?_,QN (Jf _ _) (by lia)⟩;obtain⟨r,hr,_,hw⟩:=mem_made.mp hw;have:=(zf9 ga s (ga.each r hr).2.2 r hr).2 w hw;exact⟨by lia,λc hc=>ga.lo (this.2 c hc)⟩
theorem zyg(ga:GAl g al){N:Nat}(fix:itW (zag (m:Nat)) g (N+1)=itW (zag (m:Nat)) g N):Fam g m (famW (itW (zag (m:Nat)) g N)) :=
 zrv (zew ga N) ga λr hr w hw=>by
  have h:w∈(itW (zag (m:Nat)) g (N+1)).at_ r.n.toNat:=(zf2 ga).mpr ⟨zq9 ga hr,r,hr,(JD (ga.each r hr).1.1).symm,hw⟩;rw[fix] at h;exact h
theorem zmz{l acc:List (List Nat)}(h:GoodL al m acc)(hl:∀w∈l,∀c∈w,c∈al):GoodL al m (l.foldl (zbz m) acc):=⟨zhs h.1,λw hw=>by
 rcases addIf_mem.mp hw with z|⟨z1,z2⟩
 .exact h.2 w z
 .exact⟨z2,hl w z1⟩⟩
theorem ztz:GoodL al m []:=⟨.nil,λ_ h=>nomatch h⟩
theorem zso(ga:GAl g al)(m4:m<=4)(s:SndG g al m ws)(ht:ThA al g.n t):(zav ws t).length<=1000/\∀w∈zav ws t,w.length<=4+m/\∀c∈w,c∈al:=by
 cases t with
 | nm i=>
   refine⟨?_,λw hw=>⟨by have:=(s.snd _ w hw).1;lia,(s.snd _ w hw).2.1⟩⟩
   have:=s.few ga m4 i.toNat
   show(ws.at_ i.toNat).length<=1000;lia
 | lt u=>
   obtain⟨c,hc,rfl⟩:=ht;exact⟨by simp[zav],λw hw=>by rw[Qm.mp hw];exact⟨by simp;lia,λd hd=>by rw[Qm.mp hd];exact hc⟩⟩
theorem zp7(ga:GAl g al)(s:SndG g al m ws)(hb:∀t∈b,ThA al g.n t)(hr:r∈g.rs):GoodL al m (zay m ws b):=by
 refine⟨?_,λw hw=>?_⟩
 .rcases JU b with rfl|⟨a,t,rfl⟩ <;> try rw[JV] at *
  .show([[]]:List (List Nat)).Nodup;simp
  .unfold zay;rw[ZF];exact zhs .nil
 .have h:=(zfy (zmt m) _ rfl λi hi=>(hb _ hi).1).mp hw;exact⟨h.of.2,zmj ga s hr hb h⟩
theorem zp2{ws:Ws}{b:List GThg}{j:Nat}{t:GThg}(h:b[j]? = some t):zay m ws (b.take (j+1))=zgy m (zay m ws (b.take j)) (zav ws t):=by
 have e:b.take (j+1)=b.take j ++ [t]:=by
  obtain⟨h1,h2⟩:=Qn.mp h;rw[Zj h1,h2]
 unfold zay;rw[e,ZF];rfl
def accL(m:Nat)(bs es:List (List Nat))(i:Nat):List (List Nat):=((bs.take i).flatMap λb=>es.map (b ++ ·)).foldl (zbz m) []
theorem zt9{bs:List (List Nat)}{i:Nat}(h:bs[i]? = some u):accL m bs es (i+1)=(es.map (u ++ ·)).foldl (zbz m) (accL m bs es i):=by
 have e:bs.take (i+1)=bs.take i ++ [u]:=by
  obtain⟨h1,h2⟩:=Qn.mp h;rw[Zj h1,h2]
 unfold accL;rw[e,YO,ZF];simp
theorem zwa{bs:List (List Nat)}:accL m bs es bs.length=zgy m bs es:=by unfold accL zgy;rw[Zn]
theorem zs5{bs:List (List Nat)}(hb:∀w∈bs,∀c∈w,c∈al)(he:∀w∈es,∀c∈w,c∈al)(i:Nat):GoodL al m (accL m bs es i):=zmz ztz λw hw c hc=>by
 obtain⟨u,hu,hw⟩:=Jj.mp hw;obtain⟨v,hv,rfl⟩:=Qp.mp hw;rcases Q7.mp hc with hc|hc
 .exact hb u (Zm hu) c hc
 .exact he v hv c hc
end
def zk1:List G7->(R->Prop)->Prop:=λds Q=>∃(g:GraZ) (al:List Nat) (m:Nat),ds = [zat g,.int (m:Nat)]/\GAl g al/\m<=4/\∀ws,SndG g al m ws->Fam g m (famW ws)->Q (.o (wsD ws))
end L3
namespace L3
open PySem PySem.Spec
open PyProof.Rows hiding St
open L2 SX HK L6
theorem zo5{K:Qa}{F:Addr->Prop}{H:Hp}:∀{vs:List V} {its:List G5} {ps:List G7},Vals vs its->IsAll K F H vs ps->(∀d∈ps,∃ds,d = .tuple ds)->∃qs:List (Addr×G7),its=qs.map (λq=>ZH q.1)/\ps=qs.map (·.2)/\∀q∈qs,Is K F H (.ref q.1) q.2
 | [],_,_,rv,ia,_=>by
   cases rv;cases ia;exact⟨[],rfl,rfl,λq hq=>by cases hq⟩
 | v::vs,_,_,rv,ia,tu=>by
   cases rv with
   | cons r rv=>
   cases ia with
   | cons i ia=>
     obtain⟨qs,e1,e2,e3⟩:=zo5 rv ia λd hd=>tu d (Qe _ hd);obtain⟨ds,rfl⟩:=tu _ (Qu ..)
     cases i with
     | tuple q1 q2=>
       cases r;refine⟨(_,.tuple ds)::qs,by rw[e1];rfl,by rw[e2];rfl,λq hq=>?_⟩;rcases Qs.mp hq with rfl|hq
       .exact .tuple q1 q2
       .exact e3 q hq
def zpz(K:Qa):List V->Hp->VK->Prop:=λxs H Q=>∃(p:Addr) (vs:List V) (ps:List G7) (F:Addr->Prop) (τ:Sh) (d0:G7),xs = [.ref p]/\SqL K H p vs/\IsAll K F H vs ps/\(∀d∈ps,TupK d)/\zaj τ d0/\(∀d∈ps,zaj τ d)/\ps.length<=1000000/\ps.Nodup /\
 ∀(zs:List G7) (ys:List V) l,zs.Perm ps->zs.Pairwise (λa b=>dlt a b=true)->IsAll K F H ys zs->H l=none->Q (.ref l) (upd H l (.lst ys))
theorem zoe(hu:X.A.units+64<cLine):zcg X (.builtin "sorted") (zpz X.K):=by
 intro pins s σ H xs us Q I r h;obtain⟨p,vs0,ps,F,τ,d0,rfl,hH,ia,tk,sh0,sh,hz,nd,q⟩:=h;obtain⟨u,rfl,ru⟩:=Vals.one r;cases ru;obtain⟨vs,rv,pl,hsz⟩:=I.list hH;obtain⟨o,e,c,n,dt⟩:=pl.isList;obtain⟨qs,q2,qp,qi⟩:=zo5 rv ia λd hd=>(tk d hd).tu;have vl:vs.length=qs.length:=by rw[q2,Qf]
 have pl':ps.length=qs.length:=by rw[qp,Qf]
 have sz:=GE;refine Yf MS MG MD (Ni _) ?_;unfold Builtin.«sorted»;refine G4 (m:=Nc "sorted" 1 1 _) (G6 ?_);refine G4 (wpAny_collect_seq p (.inl rfl) e c dt (λh' ex=>?_) (by simp;lia));show wpAny _ _ (N1 vs >>= _) _ _ _;refine G4 (TJ ?_ (by rw[GE];lia));have eL:(h'.push (seqObj "list" vs.toArray 0)).get? h'.objs.size=some (seqObj "list" vs.toArray 0):=Qo _ rfl;have sh':∀d∈qs.map (·.2),zaj τ d:=λd hd=>sh d (by rw[qp];exact hd);have kt':∀d∈qs.map (·.2),TupK d:=λd hd=>tk d (by rw[qp];exact hd)
 have ke:zqm s.heap (zcu (h'.push (seqObj "list" vs.toArray 0)) h'.objs.size vs):=λb o xs n e _=>by
  have eb:=ex b o e;have lb:=Qq eb;have nb:b≠h'.objs.size:=Q1 lb;have lb2:b<(h'.push (seqObj "list" vs.toArray 0)).objs.size:=by rw[T0];exact QJ lb
  rw[J7 _ _ _ (by rw[T0,Ji];exact Q1 (QJ lb2)),J7 _ _ _ (by rw[Ji];exact Q1 lb2),Z9 _ _ _ _ nb];exact Qc _ eb
 have KO:∀A:GF,A.units+12<cLine->KeysOk X.prog X.w A { s with heap:=zcu (h'.push (seqObj "list" vs.toArray 0)) h'.objs.size vs } vs vs (λa b:{ d:G7 // zaj τ d }=>dlt a.1 b.1) (λi=>⟨(qs.map (·.2)).getD i d0,zpd sh0 sh' i⟩):=λA hA=>by
  refine zyj sh0 sh' (by rw[vl];simp) (λd hd=>(kt' d hd).la) (λd hd=>(kt' d hd).de) hA λi v d hv hd=>?_;rw[q2,Qi] at hv;rw[Qi] at hd
  cases hq:qs[i]? with
  | none=>rw[hq] at hv;cases hv
  | some q=>
    rw[hq] at hv hd;cases hv;cases hd;have mq:=Qz hq;obtain⟨as,r⟩:=(qi q mq).reads I (u:=.ref q.1) rfl;have tq:=kt' q.2 (Qp.mpr ⟨q,mq,rfl⟩);obtain⟨ds,eds⟩:=tq.tu;exact⟨q.1,ds,as,rfl,eds,tq.keep ke r⟩
 refine G4 (GK (GL Mv ⟨_,eL,rfl⟩ Mk (zjm (s:={ s with heap:=h'.push (seqObj "list" vs.toArray 0) }) eL (by lia) (KO _ (by show X.A.units+1+1+12<cLine;lia)) λix o=>⟨_,rfl,?_⟩) (MQ _)));obtain⟨c',ec⟩:=Na (out:=(zbj vs ix).toArray) eL;have hb:∀i,i<vs.length->ix i<qs.length:=λi hi=>by rw[<- vl];exact o.bj.lt i hi
 have gq:∀i,i<vs.length->qs[ix i]? = some (qs.getD (ix i) (0,.none)):=λi hi=>by
  rw[Qj,Qb (hb i hi)];rfl
 have ep2:zbj vs ix=((Q2 vs.length).map λi=>qs.getD (ix i) (0,.none)).map λq=>ZH q.1:=by
  unfold zbj;rw[Zd];refine Yg λi hi=>?_;have hi':=Zf.mp hi;show vs.getD (ix i) .none=ZH (qs.getD (ix i) (0,.none)).1;rw[Qj,q2,Qi,gq i hi'];rfl
 have pq:((Q2 vs.length).map λi=>qs.getD (ix i) (0,.none)).Perm qs:=by
  have h1:=o.bj.perm.map (λi=>qs.getD i (0,Ua));rw[Zd] at h1;refine h1.trans ?_
  have:(Q2 vs.length).map (λi=>qs.getD i (0,Ua))=qs:=by
   rw[vl];refine Zq λi=>?_
   by_cases hi:i<qs.length
   .simp[hi]
   .rw[Q0 (by simp;lia),Q0 (by lia)]
  rw[this]
 have I':Inv X pins σ H { s with heap:=h' }:=I.kept (t':=s.toks) ex;have hn:H h'.objs.size=none:=I'.hok.fresh (Qg _);generalize hqs:(Q2 vs.length).map (λi=>qs.getD (ix i) (0,Ua))=rs at ep2 pq;have zp:(rs.map (·.2)).Perm ps:=by rw[qp];exact pq.map _
 refine G6 ⟨_,rfl,.ref h'.objs.size,_,I'.laid (a:=h'.objs.size) (o:=.lst (rs.map λq=>V.ref q.1)) (t':=s.toks) (λb o eb=>?_) (Qg _) ?_,rfl,q (rs.map (·.2)) _ _ zp ?_ (zn7 λz hz=>qi z (pq.mem_iff.mp hz)) hn⟩
 .have eb:h'.get? b=some o:=eb;have nb:b≠h'.objs.size:=Q1 (Qq eb);show(Mw (h'.push (seqObj "list" vs.toArray 0)) h'.objs.size vs _).get? b=_;rw[MV nb (by rw[T0];exact QJ (Qq eb))];exact Qc _ eb
 .refine⟨?_,_,c',zks rs,by rw[<- ep2];exact ec⟩;rw[Qf,pq.length_eq];lia
 .rw[<- hqs,Zd,ZP,QX];intro i j hi hj hij;simp only[Zb] at hi hj;simp only[ZR]
  have gd:∀i,i<vs.length->(qs.map (·.2)).getD (ix i) d0=(qs.getD (ix i) (0,.none)).2:=λi hi=>by
   rw[Qj,Qi,gq i hi];rfl
  have up:=(o.up i j hij hj).le (zxf τ);dsimp only at up;rw[gd i hi,gd j hj] at up;have mi:(qs.getD (ix i) (0,.none)).2∈qs.map (·.2):=Qp.mpr ⟨_,Qz (gq i hi),rfl⟩;have mj:(qs.getD (ix j) (0,.none)).2∈qs.map (·.2):=Qp.mpr ⟨_,Qz (gq j hj),rfl⟩;rcases(zis τ).tri _ _ (sh' _ mi) (sh' _ mj) with z|z|z
  .exact z
  .exfalso;have nd:(qs.map (·.2)).Nodup:=by rw[<- qp];exact nd
   have e1:(qs.map (·.2))[ix i]? = (qs.map (·.2))[ix j]?:=by
    rw[Qi,Qi,gq i hi,gq j hj];exact NK some z
   have:=(UI (by simpa using hb i hi) nd).mp e1;have:=o.bj.inj i j hi hj this;lia
  .rw[z] at up;cases up
section
variable {K:Qa}{O:Ob}
def zpj:List G7->(R->Prop)->Prop:=λds Q=>∃(ps:List G7) (τ:Sh) (d0:G7),ds = [.list ps]/\(∀d∈ps,TupK d)/\zaj τ d0/\(∀d∈ps,zaj τ d)/\ps.length<=1000000/\ps.Nodup/\∀zs:List G7,zs.Perm ps->zs.Pairwise (λa b=>dlt a b=true)->Q (.n zs)
theorem zsr:zeg K O (zpz K) zpj:=λH vs ds Q Qd ok p is ⟨ps,τ,d0,e,tk,s0,sh,hl,nd,q⟩ k=>by
 subst e;obtain⟨v,rfl,iv⟩:=zbt is
 cases iv with
 | list f1 h1 s1=>
   refine⟨_,_,ps,_,τ,d0,rfl,.of h1,s1,tk,s0,sh,hl,nd,λzs ys l h2 h3 h4 hn=>?_⟩;obtain⟨a1,a2⟩:=zc0 (K:=K) ok hn h4;exact k _ _ _ a1 a2 (q zs h2 h3)
end
theorem zqs{ι κ:Type}{P:GB}{w:GD}{K:Qa}{mg:Str->Option G5}{base:Heap}{k:Nat}{X:ι->Cx}{O:κ->Ob}{a:Expr}{ga:DA}{p pos:Pos}(C:Ctx3 P w K mg base k X)(B:Blt mg)(ha:A3 K X O [a] ga)(hg:∀i,Gl (X i) "sorted" := by intro i;rfl)(he:∀i,GC [a] (X i).env=(false,eval a (X i).env)::GC [] (X i).env:=by intro i;rfl):E3 K X O (.Call (.Name "sorted" p) [a] [] pos) (zcv zpj ga) :=
 zl4 C (λi=>by have h:=zoe (X:=X i) (C.room i).units;rw[C.hK] at h;exact h) (λ_=>zsr) zdd B.sorted ha hg (by decide) (by decide) he
theorem zu0(h:∀c∈w,c<128):Jl (tx w)=true:=by
 unfold Jl tx;rw[Uu];intro c hc;have:=h c (by simpa using hc);simp;lia
def plW(w:List Nat):G7:=.tuple [.int (w.length:Nat),tS w]
theorem zzc(h:∀c∈w,c<128):TupK (plW w):=⟨⟨_,rfl⟩,rfl,by simp[plW,tS,Z6,Qw,zu0 h],by simp[plW,tS,Ja,Z7],λz=>by cases z⟩
theorem zsk(w:List Nat):zaj (.fcons .n (.fcons .t .fnil)) (plW w):=⟨_,_,rfl,⟨_,rfl⟩,_,_,rfl,⟨_,rfl⟩,rfl⟩
theorem z2x(h:dlt (plW x) (plW y)=true):wlt x y=true:=by
 have h:dlts [.int (x.length:Nat),tS x] [.int (y.length:Nat),tS y]=true:=h;rw[zg8];rw[dlts] at h
 split at h
 .rename_i e
  have e:x.length=y.length:=by
   have e:decide (((x.length:Nat):Int)=((y.length:Nat):Int))=true:=e;have:=NF e;lia
  rw[dlts] at h
  split at h
  .cases h
  .have h:decide (x<y)=true:=h;exact .inr ⟨e,NF h⟩
 .have h:decide (((x.length:Nat):Int)<((y.length:Nat):Int))=true:=h;have:=NF h;exact .inl (by lia)
theorem zx9(h:plW x=plW y):x=y:=by
 unfold plW at h;injection h with h;injection h with _ h;injection h with h _;exact zty (by injection h)
end L3
namespace L52
open PySem PySem.Spec
open PyProof.Rows hiding St
open L2 L3 L6
local macro_rules | `(tactic| infer_instance)=>`(tactic| first|refine⟨_,_,rfl,rfl,?_⟩|refine⟨_,eqI,?_⟩|refine⟨_,neI,?_⟩|refine⟨_,rfl,?_⟩|refine⟨rfl,?_⟩|refine⟨(by show _ ≤ sizeLine;rw[GE];exact Nat.le_of_ble_eq_true rfl),?_⟩|refine⟨_,_,rfl,?_⟩|refine⟨_,_,_,rfl,?_⟩|refine iteT ?_|refine iteF ?_|refine Or.inl ⟨rfl,?_⟩|refine Or.inr ⟨rfl,?_⟩|refine⟨_,eqS_t (by decide +kernel),?_⟩|refine⟨_,eqS_f (by decide +kernel) (by decide +kernel),?_⟩|refine⟨_,inS_t (by decide +kernel),?_⟩|refine⟨_,inS_f (by decide +kernel),?_⟩)
section
variable {P:GB}{w:GD}{K:Qa}{mg:Str->Option G5}{base:Heap}{k:Nat}
abbrev zh4:Stmt:=top 1
theorem zr8:FnScope ["body"] ["body"] (zab zh4):=⟨rfl,rfl,rfl,by decide +kernel,rfl,by decide +kernel,by decide +kernel⟩
theorem zfu(B:Blt mg)(T:Top3 K mg "names_in" zh4):Def3 P w K mg base 1 "names_in" ["body"] (spO K (λ_=>True) 1 zfg):=by
 refine mk_O T zr8 (λ_ _ _ _ _ _ us hl=>len1 hl λ_=>rfl) rfl λf cdv A outer s H E O hφ C=>⟨_,(zal (zcd (zb7 1 ["thing", "body"] C (λ_=>.of rfl (by kernel_rfl)) (zek C (zac 0)) (zaw 0) (ziu (zei (zg9 (T := "int") (C.comp _ _) B (zac 0) B.int))) (zac 0)))),λds Qr hn q=>?_⟩;obtain⟨b,rfl,hb,q⟩:=q;have sz:=GE
 ac_rfl
 refine zd1 (α:=GThg) (enc:=zar) (p:=GThg.isN) (e:=zar) (λt ht Pn Py hn hy=>?_) (by lia) ?_
 .cases t with
  | nm i=>
    ac_rfl
    exact hy rfl _ rfl
  | lt v=>
    ac_rfl
    exact hn rfl
 .exact q
end
section
variable {P:GB}{w:GD}{K:Qa}{mg:Str->Option G5}{base:Heap}{k:Nat}
abbrev zd6:Stmt:=top 3
theorem zlo:FnScope ["grammar", "names"] ["grammar", "names"] (zab zd6):=⟨rfl,rfl,rfl,by decide +kernel,rfl,by decide +kernel,by decide +kernel⟩
theorem zcp(B:Blt mg)(zfu:Def3 P w K mg base 1 "names_in" ["body"] (spO K (λ_=>True) 1 zfg))(T:Top3 K mg "rules_made_of" zd6):Def3 P w K mg base 2 "rules_made_of" ["grammar", "names"] (spO K (λ_=>True) 2 ztv):=by
 refine mk_O T zlo (λ_ _ _ _ _ _ us hl=>len2 hl λ_ _=>rfl) rfl λf cdv A outer s H E O hφ C=>⟨_,(zal (zcd (zb7 1 ["rule", "grammar", "names"] C (λ_=>.of rfl (by kernel_rfl)) (zek C (zb8 C (zac 0) zbb)) (zaw 0) (ziu (zei (zw0 (C.comp _ _) B (zae (zb7 1 ["name", "rule", "grammar", "names"] (C.comp _ _) (λ_=>.of rfl (by kernel_rfl)) (zcb (C.comp _ _) (zd0 (C.comp _ _) zfu (λ_=>trivial) (zae (zb8 (C.comp _ _) (zac 0) zbb) zai))) (zaw 0) zhf (e_in ((C.comp _ _).comp _ _) (zac 0) (zac 3))) zai)))) (zac 0)))),λds Qr hn q=>?_⟩;obtain⟨g,ns,rfl,ok,hns,q⟩:=q;have sz:=GE;have many:=ok.many
 ac_rfl
 refine zd1 (α:=RuG) (enc:=zcc) (p:=zbn ns) (e:=zcc) (λr hr Pn Py hn hy=>?_) (by lia) q;have hb:=(ok.each r hr).1;have hl:(nms r.b).length<=r.b.length:=by unfold nms;rw[Qf];exact Jf _ _
 ac_rfl
 refine⟨by lia,_,NK JJ (zpt r.b),?_⟩;refine ze8 (α:=Int) (enc:=Jh) (e:=λn=>.bool (ns.contains n)) (λn _ P hP=>?_) (by lia) ?_
 ·(repeat first|refine⟨_,zmw n ns,?_⟩|refine⟨zmw n ns,?_⟩|infer_instance)
  exact hP _ rfl
 refine⟨(nms r.b).map λn=>ns.contains n,by rw[Zd];rfl,_,rfl,?_⟩;rw[NE Q6,V8];show if zbn ns r=true then _ else _
 cases hm:zbn ns r with
 | true=>
   rw[ND rfl]
   ac_rfl
   exact hy hm _ rfl
 | false=>
   rw[NE Q6];exact hn hm
end
section
variable {P:GB}{w:GD}{K:Qa}{mg:Str->Option G5}{base:Heap}{k:Nat}
abbrev zkg:Stmt:=top 4
theorem zvp:FnScope ["grammar", "known", "making"] ["grammar"] (zab zkg):=⟨rfl,rfl,rfl,by decide +kernel,rfl,by decide +kernel,by decide +kernel⟩
theorem zhr(B:Blt mg)(zcp:Def3 P w K mg base 2 "rules_made_of" ["grammar", "names"] (spO K (λ_=>True) 2 ztv))(T:Top3 K mg "makers" zkg):Def3 P w K mg base 3 "makers" ["grammar"] (spO K (λ_=>True) 1 zpk):=by
 refine mk_O T zvp (λ_ _ _ _ _ _ us hl=>len1 hl λ_=>rfl) rfl λf cdv A outer s H E O hφ C=>⟨_,(zah (zba 1 zwz) (zah (zba 2 (zjk zai)) (zah (zj7 C (t_ne C (zac 2) (zac 1)) (zah (zba 1 (zac 2)) (zal (zba 2 (zfq C B (zae (zi4 C B (zb7 1 ["rule", "grammar", "known", "making"] C (λ_=>.of rfl (by kernel_rfl)) (zcb C (zd0 C zcp (λ_=>trivial) (zae (zac 0) (zae (zac 1) zai)))) (zaw 0) zhf (zb8 (C.comp _ _) (zac 0) zbb))) zai)))))) (zal (zcd (zac 2)))))),λds Qr hn q=>?_⟩;obtain⟨g,rfl,ok,q⟩:=q;have sz:=GE;have many:=ok.many
 ac_rfl
 refine⟨λk ρ=>∃(mk:List Int) (d1:G7),ρ = [some (.im (zat g)),some (.im d1),some (.im (.tuple (mk.map .int)))]/\((d1 = .none/\mk = []/\k=62)\/∃kl:List Int,d1 = .tuple (kl.map .int)/\MkRun g kl mk/\k+kl.length=61),⟨62,[],.none,rfl,.inl ⟨rfl,rfl,rfl⟩⟩,?_⟩;rintro k ρ ⟨mk,d1,rfl,hk⟩
 have hlen:mk.length<=60:=by
  rcases hk with ⟨_,rfl,_⟩|⟨kl,_,h,_⟩
  .exact QI _
  .have:=h.len;lia
 have nt:eqF true (.tuple (mk.map .int)) d1=some (.o (.bool true))/\(∃k',k'<k/\k'+mk.length=61)/\(∀zs:List Int,zs.Pairwise (· < ·)->(∀n,n∈zs↔n∈zbx g mk)->MkRun g mk zs)\/eqF true (.tuple (mk.map .int)) d1=some (.o (.bool false))/\MkSet g mk:=by
  rcases hk with ⟨rfl,rfl,rfl⟩|⟨kl,rfl,h,hk⟩
  .exact .inl ⟨zv8 _,⟨61,by lia,rfl⟩,λzs h1 h2=>zu4 h1 h2⟩
  .by_cases e:mk=kl
   .subst e;exact .inr ⟨(zmo _ _).trans (by simp),h.done⟩
   .have lt:=zon h.upK h.up h.sub (ZC e);exact .inl ⟨(zmo _ _).trans (by simp[e]),⟨61-mk.length,by lia,by lia⟩,λzs h1 h2=>h.next h1 h2⟩
 rcases nt with ⟨e,⟨k',h1,h2⟩,nx⟩|⟨e,m⟩
 ·(repeat first|refine⟨_,e,?_⟩|refine⟨e,?_⟩|refine⟨_,zfn mk,?_⟩|refine⟨zfn mk,?_⟩|infer_instance)
  refine⟨ok,hlen,_,rfl,?_⟩;have fl:=Jf (zbn mk) g.rs;refine ze8 (α:=RuG) (enc:=zcc) (e:=λr=>.int r.n) (λr _ P hP=>?_) (by lia) ?_
  .ac_rfl
   exact hP _ rfl
  refine⟨zbx g mk,by unfold zbx;rw[Zd];rfl,by unfold zbx;rw[Qf];lia,λzs z1 z2=>?_⟩;have run:=nx zs z1 z2;exact⟨_,rfl,zfn zs,k',h1,zs,_,rfl,.inr ⟨mk,rfl,run,h2⟩⟩
 ·(repeat first|refine⟨_,e,?_⟩|refine⟨e,?_⟩|infer_instance)
  exact q mk m hlen
end
section
variable {P:GB}{w:GD}{K:Qa}{mg:Str->Option G5}{base:Heap}{k:Nat}
abbrev zee:Stmt:=top 5
theorem zlq:FnScope ["body", "words", "kept", "begins", "thing", "longer", "end"] ["body", "words", "kept"] (zab zee):=⟨rfl,rfl,rfl,by decide +kernel,rfl,by decide +kernel,by decide +kernel⟩
theorem zcr(B:Blt mg)(T:Top3 K mg "words_of_body" zee):Def3 P w K mg base 2 "words_of_body" ["body", "words", "kept"] (spG K (λ_=>True) 3 (wobF P w mg base 1)):=by
 refine mk_G T zlq (λ_ _ _ _ _ _ us hl=>len3 hl λ_ _ _=>rfl) rfl λf cdv A outer s H E O hφ C=>⟨_,(zah (zba 3 (zc5 (zae zqb zai))) (zah (zb3 C (zc7 (zek C (zac 0))) (zaw (h:=1000) 4) (zah (zba 5 (zc5 zai)) (zah (zb3 C (z4l 1 C (zei (zg9 (T := "int") C B (zac 4) B.int)) (zac 4) (zc5 (zae (zac 4) zai))) (zaw (h:=1000) 6) (zal (z5i 5 C (zb7 1 ["begin", "body", "words", "kept", "begins", "thing", "longer", "end"] C (λ_=>.of rfl (by kernel_rfl)) (zcb C (zac 3)) (zaw 0) zhf (zg5 (C.comp _ _) (zac 0) (zac 7)))))) (zal (zba 3 (zpx (φ:=λ_=>True) (k':=1) 2 C (λ_=>trivial) (g_im (zac 5) zl0))))))) (zal (z3e 3)))),λrs Qr hn q=>?_⟩;obtain⟨ws,b,F,fs,kf,Dm,rfl,hk,ok,q⟩:=q;have sz:=GE
 ac_rfl
 refine zaz (λi ρ=>∃x4 x5 x6,ρ = [some (.im (.tuple (b.map zar))),some (.im (wsD ws)),some (.thr (zc6 P w mg base 1 F fs)),some (.own ((za2 kf ws (b.take i)).map tS)),x4,x5,x6]) ⟨_,_,_,rfl⟩ ?_ ?_
 .rintro ρ ⟨x4,x5,x6,rfl⟩;rw[Qf,Zn];exact⟨_,rfl,q⟩
 .rintro i d ρ N hd hN ⟨x4,x5,x6,rfl⟩;rw[Qi] at hd;obtain⟨t,ht,rfl⟩:=Q4.mp hd;have htm:=Qz ht;have bg:=ok.bg i;have en:=zvj ok htm;refine⟨by cases t <;> rfl,?_⟩;dsimp only
  have inner:∀(x6:Option DV) (Dd:DEnds),Dd.nx=(λρ2=>(asgS 3 (calF P w mg base 1 (λ_=>True) 2 (gImA (vD 5) zqx))) { nx:=N,rt:=Dd.rt,bk:=Dd.bk,ct:=Dd.ct } ρ2)->zdm (gN 6) (extS 5 (zqq 1 (srcL (vD 3)) (gN 0) yesD (opDE (fn2 addF) (vD 0) (vD 7)))) Dd ((zav ws t).map tS) [some (.im (.tuple (b.map zar))),some (.im (wsD ws)),some (.thr (zc6 P w mg base 1 F fs)),some (.own ((za2 kf ws (b.take i)).map tS)),some (.im (zar t)),some (.own []),x6]:=by
   intro x6 Dd hnx;refine zaz (λk ρ=>∃x6,ρ = [some (.im (.tuple (b.map zar))),some (.im (wsD ws)),some (.thr (zc6 P w mg base 1 F fs)),some (.own ((za2 kf ws (b.take i)).map tS)),some (.im (zar t)),some (.own ((lgrW (za2 kf ws (b.take i)) ((zav ws t).take k)).map tS)),x6]) ⟨_,rfl⟩ ?_ ?_
   .rintro ρ ⟨x6,rfl⟩;rw[Qf,Zn,hnx];dsimp only;refine⟨1,1+fs.length,F,fs,rfl,_,_,rfl,rfl,rfl,rfl,?_⟩;refine hk _ (ok.dm i t ht) _ ⟨za9 (λ_=>rfl) _,hN _ (by rw[zq5 ht];exact⟨_,_,_,rfl⟩)⟩
   .rintro k d ρ N2 hd hN2 ⟨x6,rfl⟩;rw[Qi] at hd;obtain⟨e,he,rfl⟩:=Q4.mp hd;have hem:=Qz he;refine⟨rfl,?_⟩
    ac_rfl
    have eo:=en.2 e hem
    have ll:(lgrW (za2 kf ws (b.take i)) ((zav ws t).take k)).length<=1000 * 1000:=by
     rw[zmq,QY];exact Y3 (QN (UM _ _) en.1) bg.1
    refine ze8 (enc:=tS) (e:=λv=>tS (v++e)) (λv hv Py hPy=>?_) (by have:=bg.1;lia) ?_
    .ac_rfl
     exact⟨_,zij (v:=v) (w:=e) (by have:=(bg.2 v hv).1;have:=eo.1;lia),hPy _ rfl⟩
    .refine⟨_,rfl,za9 (λ_=>rfl) _,by rw[Qf,Qf];have:=bg.1;lia,?_⟩;refine hN2 _ (by rw[zt2 he,QE,Zd];exact⟨_,rfl⟩)
  cases t with
  | nm j=>
    obtain⟨h1,h2⟩:0<=j/\j.toNat<ws.length:=ok.th _ htm
    ac_rfl
    exact⟨j.toNat,_,(by show Jh j=_;rw[JD h1]),zgl h2,inner _ _ rfl⟩
  | lt u=>
    (repeat first|exact inner _ _ rfl|infer_instance)
end
section
variable {P:GB}{w:GD}{K:Qa}{mg:Str->Option G5}{base:Heap}{k:Nat}
abbrev zdg:Stmt:=top 6
theorem zjp:FnScope ["grammar", "kept", "known", "words", "made", "name", "body"] ["grammar", "kept"] (zab zdg):=⟨rfl,rfl,rfl,by decide +kernel,rfl,by decide +kernel,by decide +kernel⟩
theorem zcj(B:Blt mg)(zcr:Def3 P w K mg base 2 "words_of_body" ["body", "words", "kept"] (spG K (λ_=>True) 3 (wobF P w mg base 1)))(T:Top3 K mg "words_by_rules" zdg):Def3 P w K mg base 3 "words_by_rules" ["grammar", "kept"] (spGW K (λ_=>True) 2 (wbrF P w mg base 1)):=by
 refine z5h T zjp (λ_ _ _ _ _ _ us hl=>len2 hl λ_ _=>rfl) rfl λf cdv A outer s H E O hφ C=>⟨_,(zno (z3i 2 (zn4 zwz)) (zno (znh 3 1 ["name", "grammar", "kept", "known", "words", "made", ".name", "body"] C (λ_=>.of rfl (by kernel_rfl)) (i_r1 C B (zae (zb8 C (zac 0) zbb) zai)) (zaw 0)) (zno (zj7 C (t_ne C (ze3 3) (ze3 2)) (zah (z2d 2 3) (zah (znh 4 1 ["name", "grammar", "kept", "known", "words", "made", ".name", "body"] C (λ_=>.of rfl (by kernel_rfl)) (i_r1 C B (zae (zb8 C (zac 0) zbb) zai)) (zaw 0)) (zah (zb3 C (zc7 (zek C (zb8 C (zac 0) zbb))) (zjb (h:=1000) C (zb2 5 (zb2 6 zf8))) (zal (zx5 4 C (l_ix C (zw6 4) (zac 5)) (zy2 C zcr (λ_=>trivial) (g_im (zac 6) (g_im (ze3 2) (zwv 1 zl0))))))) (zal (zux 3 1 ["part", "grammar", "kept", "known", "words", "made", "name", "body"] C (λ_=>.of rfl (by kernel_rfl)) (zcb C (ze3 4)) (zaw 0) (zn4 (zpx (φ:=λ_=>True) (k':=1) 2 (C.comp _ _) (λ_=>trivial) (g_im (zac 0) zl0))))))))) (z5t 3)))),λrs Qd hn q=>?_⟩;obtain⟨g,F,fs,kf,Dm,N,rfl,gok,hk,tok,fix,q⟩:=q;have sz:=GE;have n3:=gok.n3;have n0:=gok.n0
 have rep:JJ (Qt g.n.toNat (.list []))=wsD (Qt g.n.toNat []):=by
  unfold wsD;rw[U3];rfl
 ac_rfl
 refine⟨by lia,by lia,by rw[zbq];lia,λd hd=>trivial,?_⟩;rw[zbq,rep]
 ac_rfl
 refine⟨λm ρ=>∃(i:Nat) (x4 x5 x6:Option DV),i<=N+1/\m=N+2-i/\ρ = [some (.im (zat g)),some (.thr (zc6 P w mg base 1 F fs)),some (.thg (OwnT (prvD kf g i))),some (.thg (OwnT (wsD (itW kf g i)))),x4,x5,x6],⟨_,0,_,_,_,QI _,rfl,rfl⟩,?_⟩;rintro m ρ ⟨i,x4,x5,x6,hi,rfl,rfl⟩
 have okN:∀k,k<=N+1->∀l∈itW kf g k,LOk l:=λk hk l hl=>by
  have z:∃k',k'<=N/\itW kf g k=itW kf g k':=by
   rcases Zx N k with z|z
   .exact⟨N,Qg _,by rw[show k=N+1 by lia];exact fix⟩
   .exact⟨k,z,rfl⟩
  obtain⟨k',h1,h2⟩:=z;rw[h2] at hl;obtain⟨n,rfl⟩:=z2l hl;exact(tok k' h1).sz n
 have tst:∃b:Bool,eqF true (wsD (itW kf g i)) (prvD kf g i)=some (.o (.bool b))/\(b=false->∃j,i=j+1/\itW kf g (j+1)=itW kf g j)/\(b=true->i<=N):=by
  cases i with
  | zero=>
    refine⟨true,zly (zqh (okN 0 hi)) z2f (q:=false) (hq:=⟨nofun,λz=>by cases z⟩),nofun,λ_=>QI _⟩
  | succ j=>
    refine⟨!decide (itW kf g (j+1)=itW kf g j),(show eqF true (wsD (itW kf g (j+1))) (wsD (itW kf g j))=_ from zly (zqh (okN _ hi)) (zqh (okN j (by lia))) (q:=decide (itW kf g (j+1)=itW kf g j)) (hq:=by rw[NG];exact⟨λz=>by rw[z],z2s⟩)),λz=>⟨j,rfl,by simpa using z⟩,λz=>?_⟩;rcases Zx N (j+1) with y|y
    .obtain rfl:j=N:=by lia
     rw[NH fix] at z;cases z
    .exact y
 obtain⟨b,tb,bf,bt⟩:=tst
 ac_rfl
 refine⟨_,tb,?_⟩
 ac_rfl
 cases b with
 | false=>
   obtain⟨j,rfl,e⟩:=bf rfl;refine⟨_,rfl,?_⟩
   have:itW kf g (j+1)=itW kf g N:=by
    have h:=z3j e;rw[e];exact(h N (by lia)).symm
   rw[this];exact q
 | true=>
   have iN:=bt rfl;have tk:=tok i iN;have tl:=zi3 kf g i;generalize hws:itW kf g i=ws at tk tl
   ac_rfl
   refine⟨by lia,by lia,by rw[zbq];lia,λd hd=>trivial,?_⟩;rw[zbq,rep]
   ac_rfl
   refine zaz (λj ρ=>∃x5 x6,ρ = [some (.im (zat g)),some (.thr (zc6 P w mg base 1 F fs)),some (.thg (OwnT (wsD ws))),none,some (.thg (OwnT (wsD (mdW kf ws g.n.toNat (g.rs.take j))))),x5,x6]) ?_ ?_ ?_
   .have e0:mdW kf ws g.n.toNat (g.rs.take 0)=Qt g.n.toNat []:=by
     unfold mdW zbo;apply Yb <;> simp
    rw[e0];exact⟨_,_,rfl⟩
   .rintro ρ ⟨x5,x6,rfl⟩;rw[Qf,Zn]
    ac_rfl
    refine zz8 (enc:=wD1) (e:=λl=>wD1 (kf l)) (λl hl Py hPy=>?_) (by simp[mdW];lia) ?_
    .obtain⟨j,hj,rfl⟩:=z3y hl;refine⟨1,1+fs.length,F,fs,rfl,_,_,rfl,rfl,rfl,rfl,?_⟩;exact hk _ (tk.md j hj) _ ⟨za9 (λ_=>rfl) _,hPy⟩
    .have e1:JJ ((mdW kf ws g.n.toNat g.rs).map λl=>wD1 (kf l))=wsD (itW kf g (i+1)):=by
      show _=wsD (zce kf g (itW kf g i));rw[hws,zx4];unfold wsD;rw[Zd];rfl
     rw[e1];have e2:prvD kf g (i+1)=wsD ws:=by show wsD (itW kf g i)=_;rw[hws]
     have e3:∀(x4 x5 x6:Option DV),(∃m',m'<N+2-i/\∃i' y4 y5 y6,i'<=N+1/\m'=N+2-i' /\ [some (.im (zat g)),some (.thr (zc6 P w mg base 1 F fs)),some (.thg (OwnT (prvD kf g (i+1)))),some (.thg (OwnT (wsD (itW kf g (i+1))))),x4,x5,x6] = [some (.im (zat g)),some (.thr (zc6 P w mg base 1 F fs)),some (.thg (OwnT (prvD kf g i'))),some (.thg (OwnT (wsD (itW kf g i')))),y4,y5,y6]):=λx4 x5 x6=>⟨N+2-(i+1),by lia,i+1,x4,x5,x6,by lia,rfl,rfl⟩;rw[e2] at e3;exact e3 _ _ _
   .rintro j d ρ N2 hd hN2 ⟨x5,x6,rfl⟩;rw[Qi] at hd;obtain⟨r,hr,rfl⟩:=Q4.mp hd;have hrm:=Qz hr;obtain⟨r0,r1⟩:=gok.nm r hrm;refine⟨ze9 r,?_⟩
    ac_rfl
    have ml:r.n.toNat<(mdW kf ws g.n.toNat (g.rs.take j)).length:=by simp[mdW];lia
    refine⟨r.n,_,r.n.toNat,_,rfl,rfl,rfl,?_,zgl ml,?_⟩
    .unfold ixN;rw[ND r0,ND (by rw[Qf];simp[mdW];lia)]
    refine⟨_,rfl,_,_,rfl,rfl,_,rfl,_,rfl,rfl,?_⟩;refine⟨ws,r.b,F,fs,kf,Dm,rfl,hk,tk.bd r hrm,_,rfl,za9 (λ_=>rfl) _,?_,?_⟩
    .rw[Qf,Qf,zs4 (by lia)];have h1:=(zl9 (tk.bd r hrm)).1;have h2:=zmi (kf:=kf) (ws:=ws) (i:=r.n.toNat) (rs:=g.rs.take j) λx hx=>(zl9 (tk.bd x (Zm hx))).1;have h3:=gok.many;rw[QY] at h2;have h4:min j g.rs.length * 1000<=100 * 1000:=YE _ (by lia);lia
    .refine hN2 _ ?_;rw[<- QE,J2,zwe ml,<- zuz hr r0];exact⟨_,_,rfl⟩
end
section
variable {P:GB}{w:GD}{K:Qa}{mg:Str->Option G5}{base:Heap}{k:Nat}
abbrev zch:Stmt:=top 7
theorem zuq:FnScope ["grammar", "n", "short_ones"] ["grammar", "n"] (zab zch):=⟨rfl,rfl,rfl,by decide +kernel,rfl,by decide +kernel,by decide +kernel⟩
abbrev zdn:Stmt:=(zan zch).getD 0 (.Pass ⟨0,0,0,0⟩)
def zap:List (Pos×Str):=[(z5v zdn, "words_of.<locals>.short_ones")]
theorem scShortOnes:FnScopeC ["words", "n"] ["words"] ["n"] (zab zdn):=⟨rfl,rfl,rfl,by decide +kernel,rfl,by decide +kernel,by decide +kernel,by decide +kernel,by decide +kernel⟩
theorem zn0(B:Blt mg):CloB P w K mg base 0 (λ_=>True) ["words", "n"] ["words"] ["n"] "words_of.<locals>.short_ones" (zab zdn) (zan zdn) zji:=by
 intro f cd clos A outer s H O hφ C;refine⟨_,(zal (zcd (zrk C B (zp0 C B (zb7 1 ["word", "words", "n"] C (λ_=>.of rfl (by kernel_rfl)) (zcb C (zac 0)) (zaw 0) (ziu (t_le (zjn (C.comp _ _) B (zae (zac 0) zai)) (zac 2))) (zac 0)))))),λrs Qr hn q=>?_⟩;obtain⟨l,n,rfl,dm,q⟩:=q;have sz:=GE
 ac_rfl
 refine zd1 (enc:=tS) (e:=tS) (p:=shrt n) (λv hv Pn Py h0 h1=>?_) (by have:=dm.len;lia) ?_
 .have hl:=(dm.ok v hv).1
  ac_rfl
  refine⟨_,zje (by lia),?_⟩
  ac_rfl
  dsimp only
  by_cases c:(v.length:Int)<=n
  .rw[ND (NH c)];exact⟨_,_,rfl,rfl,h1 (NH c) _ rfl⟩
  .rw[NE (by rw[NG];exact c)];exact h0 (NI c)
 .have few:=dm.few;refine⟨(l.filter (shrt n)).map tx,.inr (by rw[Zd];rfl),by rw[Qf];exact few,λzs nd mem st=>?_⟩;obtain⟨zw,rfl⟩:=z1y zs;have ndz:=zm9 nd
  have mz:∀v,v∈zw↔v∈l.filter (shrt n):=λv=>by
   have:=mem (tx v);rw[Qp,Qp] at this;constructor
   .intro h;obtain⟨u,hu,e⟩:=this.mp ⟨v,h,rfl⟩;rw[<- zm2 (show tS u=tS v from NK Y8 e)];exact hu
   .intro h;obtain⟨u,hu,e⟩:=this.mpr ⟨v,h,rfl⟩;rw[<- zm2 (show tS u=tS v from NK Y8 e)];exact hu
  have lz:zw.length<=(l.filter (shrt n)).length:=zsn ndz λv hv=>(mz v).mp hv;have e:zc9 zw=zag n l:=zgu (zsa (zuf st ndz)) shortK_up λv=>by rw[sortLW_mem,mz,zff,Zg];unfold shrt;rw[NG]
  refine⟨zw.map tx,rfl,by rw[Qf];lia,λy hy=>?_,?_⟩
  .obtain⟨v,hv,rfl⟩:=Qp.mp hy;have:=(dm.ok v (Zg.mp ((mz v).mp hv)).1).1;rw[zd2];lia
  .rw[zp6,e,Zd];exact q
theorem zfv(B:Blt mg)(zcj:Def3 P w K mg base 3 "words_by_rules" ["grammar", "kept"] (spGW K (λ_=>True) 2 (wbrF P w mg base 1)))(N:Nst mg base c Pt)(T:TopC K mg "words_of" zch c):Def3 P w K mg base 4 "words_of" ["grammar", "n"] (spO K (HasTab Pt zap) 2 zle):=by
 refine z4m T zuq (λ_ _ _ _ _ _ us hl=>len2 hl λ_ _=>rfl) rfl λf A outer s H E O hφ C=>?_;have hc:(zab zch).names.lookup (Jk "n")=some Zc:=by decide +kernel
 refine⟨_,(zah (z4k 2 C N (λ_=>hφ) rfl (Qu) (λp hp _ _=>?_) ?_) (zal (zcd (z0q C (zzy [(1,zii (za3 P w K mg base ["grammar", "n", "short_ones"] "words_of" (zab zch) f (.ref c) A outer s H E ()) "n")] C zcj (λ_=>trivial) ?_ (g_im (zac 0) (zwv 2 zl0))) zbb)))),λds Qr hn q=>?_⟩
 .rw[Qm.mp hp]
 .exact λp hp hf=>.inl (by rw[Qm.mp (scShortOnes.free p hp hf).2];exact hc)
 .exact λ_ p hp=>by rw[Qm.mp hp];exact z1a rfl hc
 .obtain⟨g,n,N,rfl,gok,n1,tok,fix,q⟩:=q;refine⟨_,_,rfl,rfl,_,rfl,[.im (zat g),.thr (zc6 P w mg base 1 zji [.int n])],.cons ztf (.cons (zv0 (k:=0) (zn0 B) scShortOnes (λrs Qr hF r hr=>?_) (λ_ _ _ _ _ us hl=>?_) [((1,zii (za3 P w K mg base ["grammar", "n", "short_ones"] "words_of" (zab zch) f (.ref c) A outer s H E ()) "n"),.int n)] (.cons ⟨Qu,zmg hc,rfl⟩ .nil) zsb) .nil),rfl,?_⟩
  .obtain⟨l,n',rfl,_⟩:=hF;rcases Qs.mp hr with rfl|hr
   .trivial
   .rw[Qm.mp hr];trivial
  .exact len1 hl λ_=>rfl
  .refine⟨g,zji,[.int n],zag n,DmS n,N,rfl,gok,zss n,tok,fix,?_⟩;have ml:0<(itW (zag n) g N).length:=by rw[zi3];lia
   refine⟨0,_,0,_,rfl,rfl,?_,zgl ml,za9 (λ_=>rfl) _,q⟩;unfold ixN;rw[ND (by decide),ND (by rw[Qf];lia)];rfl
end
theorem zvv(bs:List GThg)(t:GThg):((bs ++ [t]).filter GThg.isN).length=(bs.filter GThg.isN).length+(if t.isN=true then 1 else 0):=by
 rw[Yq,Ql];cases t <;> rfl
section
variable {P:GB}{w:GD}{K:Qa}{mg:Str->Option G5}{base:Heap}{k:Nat}
abbrev zgr:Stmt:=top 12
theorem zqp:FnScope ["_law_deal_here", "_law_letters_here", "_law_names", "_law_rules", "_law_k", "_law_body", "_law_j", "_law_thing"] ["_law_deal_here", "_law_letters_here"] (zab zgr):=⟨rfl,rfl,rfl,by decide +kernel,rfl,by decide +kernel,by decide +kernel⟩
theorem zdf(B:Blt mg)(d_law_draw:zqn P w K mg base)(T:Top3 K mg "_law_grammar" zgr):Def3 P w K mg base 2 "_law_grammar" ["_law_deal_here", "_law_letters_here"] (spD K IsDeal 1 (znx 7)):=by
 refine mk_D T zqp (λ_ _ _ _ _ _ us hl=>len2 hl λ_ _=>rfl) rfl λf cdv A outer s H E O hφ C=>?_;have hO:∀j:Unit,IsDeal ((λ_:Unit=>O) j):=λ_=>hφ;refine⟨_,(zah (zba 2 (zg5 C zbb (zb1 0 C d_law_draw hO (zae zbb zai)))) (zah (zba 3 (zc5 zai)) (zah (zb3 C (zc7 (i_r1 C B (zae (zb1 0 C d_law_draw hO (zae zbb zai)) zai))) (zaw (h:=1000) 4) (zah (zba 5 (zc5 zai)) (zah (zb3 C (zc7 (i_r1 C B (zae (zb1 0 C d_law_draw hO (zae zbb zai)) zai))) (zaw (h:=1000) 6) (zah (zba 7 (zb8 C (zac 1) (zb1 0 C d_law_draw hO (zae (zjn C B (zae (zac 1) zai)) zai)))) (zah (s_if (t_w (zwu (t_eq C (zb1 0 C d_law_draw hO (zae zbb zai)) zbb) (zry (t_lt (zjn C B (zae (zb7 1 ["_law_one", "_law_deal_here", "_law_letters_here", "_law_names", "_law_rules", "_law_k", "_law_body", "_law_j", "_law_thing"] C (λ_=>.of rfl (by kernel_rfl)) (zcb C (zac 5)) (zaw 0) (ziu (zqu (zei (zg9 (T := "str") (C.comp _ _) B (zac 0) B.str)))) (zac 0)) zai)) zbb)))) (zal (zba 7 (zb1 0 C d_law_draw hO (zae (zac 2) zai)))) ze1) (zal (zhd 5 C (zac 7)))))) (zal (zhd 3 C (zjk (zae (zb1 0 C d_law_draw hO (zae (zac 2) zai)) (zae (zfq C B (zae (zac 5) zai)) zai)))))))) (zal (zcd (zjk (zae (zac 2) (zae (zfq C B (zae (zac 3) zai)) zai)))))))),λds Qr hn q=>?_⟩;obtain⟨ls,rfl,l1,l26,hlow,q⟩:=q;have sz:=GE
 have hll:lenF [JJ (ls.map λc=>.str (sg c))]=some (.o (.int (ls.length:Nat))):=by
  show some (R.o (.int ((ls.map λc=>Y8 (sg c)).length:Nat)))=_;rw[Qf]
 ac_rfl
 refine dr (by decide) (by decide) λk1 hk1=>?_
 ac_rfl
 refine dr (by decide) (by decide) λk2 hk2=>?_
 ac_rfl
 refine⟨by lia,by lia,rfl,?_⟩;refine zaz (λj ρ=>∃(rs:List RuG) (rd:List G7) (o4 o5 o6 o7:Option DV),ρ = [some .ob,some (.im (.list (ls.map λc=>.str (sg c)))),some (.im (.int (1+(k1:Nat)))),some (.own rd),o4,o5,o6,o7]/\rd=rs.map zcc/\rs.length=j/\∀r∈rs,0<=r.n/\r.n<1+(k1:Int)/\r.b.length<=3/\(r.b.filter GThg.isN).length<=2/\∀t∈r.b,zgs ls (1+k1) t) ⟨[],[],none,none,none,none,rfl,rfl,rfl,λx h=>(Zk h).elim⟩ (λρ zz=>?_) λj d ρ N hd hN zz=>?_
 .obtain⟨rs,rd,o4,o5,o6,o7,e,ed,h1,h2⟩:=zz;subst ed;subst e;rw[zbq] at h1
  ac_rfl
  exact q ⟨1+(k1:Int),rs⟩ (by show 1<=1+(k1:Int);lia) (by show 1+(k1:Int)<=3;lia) (by show rs.length<7;lia) λr hr=>by
   have:=h2 r hr;rw[show(1+(k1:Int)).toNat=1+k1 by lia];exact this
 .obtain⟨rs,rd,o4,o5,o6,o7,e,ed,h1,h2⟩:=zz;subst ed;subst e;obtain⟨hj,rfl⟩:=zc8 hd
  ac_rfl
  refine dr (by decide) (by decide) λk3 hk3=>?_
  ac_rfl
  refine⟨by lia,by lia,rfl,?_⟩;refine zaz (λi ρ=>∃(bs:List GThg) (o6 o7:Option DV),ρ = [some .ob,some (.im (.list (ls.map λc=>.str (sg c)))),some (.im (.int (1+(k1:Nat)))),some (.own (rs.map zcc)),some (.im (.int (0+(j:Int)))),some (.own (bs.map zar)),o6,o7]/\bs.length=i/\(bs.filter GThg.isN).length<=2/\∀t∈bs,zgs ls (1+k1) t) ⟨[],_,_,rfl,rfl,by decide,λx h=>(Zk h).elim⟩ (λρ zz=>?_) λi d ρ N2 hd2 hN2 zz=>?_
  .obtain⟨bs,o6,o7,e,g1,g2,g3⟩:=zz;subst e;rw[zbq] at g1
   ac_rfl
   refine dr (by lia) (by lia) λk4 hk4=>?_
   ac_rfl
   refine⟨ze9 ⟨(k4:Int),bs⟩,by rw[Qf];lia,hN _ ⟨rs ++ [⟨(k4:Int),bs⟩],_,_,_,_,_,rfl,by rw[QE];rfl,by rw[Ql,h1];rfl,zn9 h2 ⟨by show(0:Int)<=k4;lia,hk4,by show bs.length<=3;lia,g2,g3⟩⟩⟩
  .obtain⟨bs,o6,o7,e,g1,g2,g3⟩:=zz;subst e;obtain⟨hi,rfl⟩:=zc8 hd2
   have app:∀(t:GThg) (o:Option DV),zgs ls (1+k1) t->(t.isN=true->(bs.filter GThg.isN).length<2)->N2 [some .ob,some (.im (.list (ls.map λc=>.str (sg c)))),some (.im (.int (1+(k1:Nat)))),some (.own (rs.map zcc)),some (.im (.int (0+(j:Int)))),some (.own (bs.map zar ++ [zar t])),some (.im (.int (0+(i:Int)))),o]:=λt o h3 h4=>by
    refine hN2 _ ⟨bs ++ [t],_,_,by rw[QE];rfl,by rw[Ql,g1];rfl,?_,zn9 g3 h3⟩;rw[zvv]
    split
    .have:=h4 ‹_›;lia
    .lia
   have bl:(bs.map zar).length<sizeLine:=by rw[Qf];lia
   (repeat first|refine⟨_,hll,?_⟩|refine⟨hll,?_⟩|infer_instance)
   refine dr (by lia) (by lia) λk5 hk5=>?_;have hc:k5<ls.length:=by lia
   refine⟨_,zoz (by rw[Qi,Qb hc];rfl),rfl,?_⟩;have ht:zgs ls (1+k1) (.lt [ls[k5]]):=⟨ls[k5],Zi hc,rfl⟩
   ac_rfl
   refine dr (by decide) (by decide) λk6 hk6=>?_
   ac_rfl
   refine iteB (λa1=>?_) λa1=>?_
   .ac_rfl
    refine zd1 (α:=GThg) (enc:=zar) (p:=GThg.isN) (e:=zar) (λt ht Pn Py hn hy=>?_) (by lia) ?_
    .cases t with
     | nm i=>
       ac_rfl
       exact hy rfl _ rfl
     | lt v=>
       ac_rfl
       exact hn rfl
    ac_rfl
    refine iteB (λa2=>?_) λa2=>?_
    .ac_rfl
     refine dr (by lia) (by lia) λk7 hk7=>?_
     ac_rfl
     refine⟨bl,app (.nm (k7:Int)) _ ⟨by lia,by lia⟩ λ_=>?_⟩;have:=NF a2;rw[Qf] at this;lia
    .ac_rfl
     exact⟨bl,app (.lt [ls[k5]]) _ ht (λz=>by cases z)⟩
   .ac_rfl
    exact⟨bl,app (.lt [ls[k5]]) _ ht (λz=>by cases z)⟩
end
section
variable {P:GB}{w:GD}{K:Qa}{mg:Str->Option G5}{base:Heap}{k:Nat}
abbrev zka:Stmt:=top 13
theorem zuv:FnScope ["_law_body"] ["_law_body"] (zab zka):=⟨rfl,rfl,rfl,by decide +kernel,rfl,by decide +kernel,by decide +kernel⟩
theorem zev(B:Blt mg)(T:Top3 K mg "_law_inner" zka):Def3 P w K mg base 1 "_law_inner" ["_law_body"] (spO K (λ_=>True) 1 zfg):=by
 refine mk_O T zuv (λ_ _ _ _ _ _ us hl=>len1 hl λ_=>rfl) rfl λf cdv A outer s H E O hφ C=>⟨_,(zal (zcd (zb7 1 ["_law_thing", "_law_body"] C (λ_=>.of rfl (by kernel_rfl)) (zek C (zac 0)) (zaw 0) (ziu (zqu (zei (zg9 (T := "str") (C.comp _ _) B (zac 0) B.str)))) (zac 0)))),λds Qr hn q=>?_⟩;obtain⟨b,rfl,hb,q⟩:=q;have sz:=GE
 ac_rfl
 refine zd1 (α:=GThg) (enc:=zar) (p:=GThg.isN) (e:=zar) (λt ht Pn Py hn hy=>?_) (by lia) ?_
 .cases t with
  | nm i=>
    ac_rfl
    exact hy rfl _ rfl
  | lt v=>
    ac_rfl
    exact hn rfl
 .exact q
end
section
variable {P:GB}{w:GD}{K:Qa}{mg:Str->Option G5}{base:Heap}{k:Nat}
abbrev zke:Stmt:=top 14
theorem zwf:FnScope ["_law_grammar_here", "_law_most", "_law_made", "_law_more", "_law_name", "_law_body", "_law_found", "_law_thing", "_law_longer", "_law_one", "_law_other", "_law_word"] ["_law_grammar_here", "_law_most"] (zab zke):=⟨rfl,rfl,rfl,by decide +kernel,rfl,by decide +kernel,by decide +kernel⟩
theorem zeq(B:Blt mg)(T:Top3 K mg "_law_words" zke):Def3 P w K mg base 1 "_law_words" ["_law_grammar_here", "_law_most"] (spO K (λ_=>True) 2 zk1):=by
 refine mk_O T zwf (λ_ _ _ _ _ _ us hl=>len2 hl λ_ _=>rfl) rfl λf cdv A outer s H E O hφ C=>⟨_,(zah (znh 2 1 ["_law_name", "_law_grammar_here", "_law_most", "_law_made", "_law_more", "._law_name", "_law_body", "_law_found", "_law_thing", "_law_longer", "_law_one", "_law_other", "_law_word"] C (λ_=>.of rfl (by kernel_rfl)) (i_r1 C B (zae (zb8 C (zac 0) zbb) zai)) (zaw 0)) (zah (zba 3 e_bl) (zah (zj7 C (z4q C (zac 3)) (zah (zba 3 e_bl) (zal (zb3 C (zc7 (zek C (zb8 C (zac 0) zbb))) (zjb (h:=1000) C (zb2 4 (zb2 5 zf8))) (zah (zba 6 (zc5 (zae zqb zai))) (zah (zw9 6 (zb3 C (zc7 (zek C (zac 5))) (zaw (h:=1000) 7) (zah (zba 8 (zc5 zai)) (zah (zb3 C (zw4 C 6) (zaw (h:=1000) 9) (zal (z3x 2 (zb3 C (z4u 2 C (zei (zg9 (T := "str") C B (zac 7) B.str)) (zc5 (zae (zac 7) zai)) (zac 7)) (zaw (h:=1000) 10) (zal (s_if (t_w (zwu (t_le (zjn C B (zae (zg5 C (zac 9) (zac 10)) zai)) (zac 1)) (zry (zpp C (zg5 C (zac 9) (zac 10)) (zac 8))))) (zal (zhd 8 C (zg5 C (zac 9) (zac 10)))) ze1)))))) (zal (zw9 8 (z1r 6 8))))))) (zal (zb3 C (zw4 C 6) (zaw (h:=1000) 11) (zal (s_if (zpp C (zac 11) (zb8 C (ze3 2) (zac 4))) (zah (z0z 2 C (l_ix C (zw6 2) (zac 4)) (zn4 (zac 11))) (zal (zba 3 e_bl))) ze1)))))))))) (zal (zcd (ze3 2)))))),λds Qr hn q=>?_⟩;obtain⟨g,al,m,rfl,ga,m4,q⟩:=q;have sz:=GE;have n3:=ga.n3;have n1:=ga.n1
 have rep:JJ (Qt g.n.toNat (.list []))=wsD (Qt g.n.toNat []):=by
  unfold wsD;rw[U3];rfl
 ac_rfl
 refine⟨by lia,by lia,by rw[zbq];lia,λd hd=>trivial,?_⟩;rw[zbq,rep]
 ac_rfl
 refine⟨λk ρ=>∃(ws:Ws) (more:Bool) (x4 x5 x6 x7 x8 x9 x10 x11:Option DV),SndG g al m ws/\(more=false->∀r∈g.rs,∀w∈zay m ws r.b,w∈ws.at_ r.n.toNat)/\k=(if more=true then 485-tot ws else 0)/\ρ = [some (.im (zat g)),some (.im (.int (m:Nat))),some (.thg (OwnT (wsD ws))),some (.im (.bool more)),x4,x5,x6,x7,x8,x9,x10,x11],⟨_,_,true,_,_,_,_,_,_,_,_,zws,nofun,rfl,rfl⟩,?_⟩;rintro k ρ ⟨ws,more,x4,x5,x6,x7,x8,x9,x10,x11,sd,cl,rfl,rfl⟩
 ac_rfl
 cases more with
 | false=>
   ac_rfl
   exact q ws sd (zrv sd ga λr hr w hw=>cl rfl r hr w ((zgf ga hr).mpr hw))
 | true =>
   ac_rfl
   refine zaz (λi ρ=>∃x4 x5 x6 x7 x8 x9 x10 x11,ρ = [some (.im (zat g)),some (.im (.int (m:Nat))),some (.thg (OwnT (wsD ((g.rs.take i).foldl (ruL m) (ws,false)).1))),some (.im (.bool ((g.rs.take i).foldl (ruL m) (ws,false)).2)),x4,x5,x6,x7,x8,x9,x10,x11]) ⟨_,_,_,_,_,_,_,_,rfl⟩ (λρ hρ=>?_) λi d ρ N hd nx hρ=>?_
   .obtain⟨x4,x5,x6,x7,x8,x9,x10,x11,rfl⟩:=hρ;rw[Qf,Zn];obtain⟨s1,g1,f1⟩:=zhu ga (l:=g.rs) (st:=(ws,false)) (λr h=>h) sd;have u1:=zma (m:=m) ga (l:=g.rs) (st:=(ws,false)) (λr h=>h) sd.len;generalize hst:g.rs.foldl (ruL m) (ws,false)=st at s1 g1 f1 u1;refine⟨_,?_,st.1,st.2,x4,x5,x6,x7,x8,x9,x10,x11,s1,λe=>?_,rfl,rfl⟩
    .have t1:=s1.tot ga m4;have t0:=sd.tot ga m4;rw[ND rfl]
     cases hb:st.2 with
     | false=>rw[NE (by decide)];lia
     | true=>
       rw[ND rfl];rcases u1.lt hb with z|z
       .cases z
       .have z:tot ws<tot st.1:=z;lia
    .have:=f1 e;rw[g1.same e];exact this
   .obtain⟨x4,x5,x6,x7,x8,x9,x10,x11,rfl⟩:=hρ;rw[Qi] at hd;obtain⟨r,hr,rfl⟩:=Q4.mp hd;have hrm:=Qz hr;have e1:(g.rs.take (i+1)).foldl (ruL m) (ws,false)=ruL m ((g.rs.take i).foldl (ruL m) (ws,false)) r:=by rw[zj2 hr,ZF];rfl
    have s1:=(zhu ga (l:=g.rs.take i) (st:=(ws,false)) (λr h=>Zm h) sd).1;generalize (g.rs.take i).foldl (ruL m) (ws,false)=st at e1 s1 ⊢;have er:=ga.each r hrm;obtain⟨nn,en⟩:∃nn:Nat,r.n=(nn:Int):=⟨r.n.toNat,by lia⟩;have nt:r.n.toNat=nn:=by lia
    have hnn:nn<g.n.toNat:=by lia
    have ef:zcc r = .tuple [.int (nn:Nat),.tuple (r.b.map zar)]:=by unfold zcc;rw[en]
    have fin:∀(Dd:DEnds) (x5 x7 x8 x9 x10 x11:Option DV),Dd.nx=N->(forS (varJ 6) (gN 11) (ifS (bD (opDE (fn2 (inF true)) (vD 11) (opDE (fn2 idxF) (vTr 2) (vD 4)))) (seqD (zrc 2 (lIx lVar (vD 4)) (zrb (vD 11))) (asgS 3 (cD (G2 true)))) λDd ρ=>Dd.nx ρ)) Dd [some (.im (zat g)),some (.im (.int (m:Nat))),some (.thg (OwnT (wsD st.1))),some (.im (.bool st.2)),some (.im (.int (nn:Nat))),x5,some (.im (.list ((zay m st.1 r.b).map tS))),x7,x8,x9,x10,x11]:=by
     intro Dd x5 x7 x8 x9 x10 x11 hD;refine⟨_,rfl,?_⟩;refine zaz (λk ρ=>∃x11,ρ = [some (.im (zat g)),some (.im (.int (m:Nat))),some (.thg (OwnT (wsD (((zay m st.1 r.b).take k).foldl (addW nn) st).1))),some (.im (.bool (((zay m st.1 r.b).take k).foldl (addW nn) st).2)),some (.im (.int (nn:Nat))),x5,some (.im (.list ((zay m st.1 r.b).map tS))),x7,x8,x9,x10,x11]) ⟨_,rfl⟩ (λρ hρ=>?_) λk d ρ N3 hd nx3 hρ=>?_
     .obtain⟨x11,rfl⟩:=hρ;rw[Qf,Zn,hD];rw[e1] at nx;unfold ruL at nx;rw[nt] at nx;exact nx _ ⟨_,_,_,_,_,_,_,_,rfl⟩
     .obtain⟨x11,rfl⟩:=hρ;rw[Qi] at hd;obtain⟨w,hw,rfl⟩:=Q4.mp hd
      have good:∀v∈zay m st.1 r.b,v.length<=m/\(∀c∈v,c∈al)/\Wd g (nn:Nat) v:=λv hv=>by
       have:=zhp ga s1 hrm ((zgf ga hrm).mp hv);rw[nt] at this;exact this
      have wo:=good w (Qz hw);have es:((zay m st.1 r.b).take (k+1)).foldl (addW nn) st=addW nn (((zay m st.1 r.b).take k).foldl (addW nn) st) w:=by rw[zj2 hw,ZF];rfl
      have s2:SndG g al m (((zay m st.1 r.b).take k).foldl (addW nn) st).1:=(zgt hnn s1 λv hv=>good v (Zm hv)).1;generalize ((zay m st.1 r.b).take k).foldl (addW nn) st=cur at es s2 ⊢;rw[es] at nx3;have hn:nn<cur.1.length:=by rw[s2.len];exact hnn
      have few:(cur.1.at_ nn).length<=121:=s2.few ga m4 nn;refine⟨rfl,?_⟩;refine⟨_,_,rfl,rfl,_,rfl,_,_,rfl,rfl,_,zs9 hn,_,zwt ⟨by lia,λc hc=>ga.lo (wo.2.1 c hc)⟩ (λv hv=>⟨by have:=(s2.snd _ v hv).1;lia,λc hc=>ga.lo ((s2.snd _ v hv).2.1 c hc)⟩) (by lia),_,rfl,?_⟩;unfold addW at nx3
      cases hc:(cur.1.at_ nn).contains w with
      | true=>
        rw[ND hc] at nx3;exact nx3 _ ⟨_,rfl⟩
      | false=>
        rw[NE (by rw[hc];decide)] at nx3
        ac_rfl
        refine⟨_,_,nn,wD1 (cur.1.at_ nn),rfl,rfl,rfl,by unfold ixN;rw[ND (by lia),ND (by rw[Qf];lia)];rfl,by rw[Qi,ze0 hn];rfl,_,rfl,?_⟩
        ac_rfl
        refine⟨by rw[Qf];lia,?_⟩;rw[J2,zzm hn]
        ac_rfl
        exact nx3 _ ⟨_,rfl⟩
    refine⟨ze9 r,?_⟩;rw[ef]
    ac_rfl
    refine .inr ⟨_,rfl,?_⟩
    ac_rfl
    refine zaz (λj ρ=>∃x5 x7 x8 x9 x10 x11,ρ = [some (.im (zat g)),some (.im (.int (m:Nat))),some (.thg (OwnT (wsD st.1))),some (.im (.bool st.2)),some (.im (.int (nn:Nat))),x5,some (.im (.list ((zay m st.1 (r.b.take j)).map tS))),x7,x8,x9,x10,x11]) ⟨_,_,_,_,_,_,rfl⟩ (λρ hρ=>?_) λj d ρ N2 hd nx2 hρ=>?_
    .obtain⟨x5,x7,x8,x9,x10,x11,rfl⟩:=hρ;rw[Qf,Zn];exact fin _ _ _ _ _ _ _ rfl
    .obtain⟨x5,x7,x8,x9,x10,x11,rfl⟩:=hρ;rw[Qi] at hd;obtain⟨t,ht,rfl⟩:=Q4.mp hd;refine⟨by cases t <;> rfl,?_⟩;have htA:=er.2.2 t (Qz ht);have eg:=zso ga m4 s1 htA;have bg:GoodL al m (zay m st.1 (r.b.take j)):=zp7 ga s1 (λt ht=>er.2.2 t (Zm ht)) hrm;rw[zp2 ht,<- zwa] at nx2;generalize zay m st.1 (r.b.take j)=bs at bg nx2 ⊢;have ag:=zs5 (m:=m) (bs:=bs) (es:=zav st.1 t) (λw hw=>(bg.2 w hw).2) (λw hw=>(eg.2 w hw).2);have fg:flS (some (.im (zat g)))=some (.im (zat g)):=by unfold flS;dsimp only;rw[ND (zhb g)]
     have ft:flS (some (.im (zar t)))=some (.im (zar t)):=by cases t <;> rfl
     have fl:∀l:List (List Nat),flS (some (.own (l.map tS)))=some (.own (l.map tS)):=λl=>by unfold flS;dsimp only;rw[ND (za9 (λ_=>rfl) _)]
     have inn:∀(Z:Addr->Prop) (Dd:DEnds) (i:Nat) (u:List Nat) (x5 x6 x10 x11:Option DV),bs[i]? = some u->(∀x10,Dd.nx [some (.im (zat g)),some (.im (.int (m:Nat))),some (.thr (zdr Z (wsD st.1))),some (.im (.bool st.2)),some (.im (.int (nn:Nat))),x5,x6,some (.im (zar t)),some (.own ((accL m bs (zav st.1 t) (i+1)).map tS)),some (.im (tS u)),x10,x11]) ->
      zdm (gN 10) (ifS (andT (bD (opDE (fn2 (intF λi j=>G2 (decide (i<=j)))) (zcv (fn1 lenF) (zp5 (opDE (fn2 addF) (vD 9) (vD 10)) aNil)) (vD 1))) (bD (opDE (fn2 (inF true)) (opDE (fn2 addF) (vD 9) (vD 10)) (vD 8)))) (appS 8 (opDE (fn2 addF) (vD 9) (vD 10))) λDd ρ=>Dd.nx ρ) Dd ((zav st.1 t).map tS) [some (.im (zat g)),some (.im (.int (m:Nat))),some (.thr (zdr Z (wsD st.1))),some (.im (.bool st.2)),some (.im (.int (nn:Nat))),x5,x6,some (.im (zar t)),some (.own ((accL m bs (zav st.1 t) i).map tS)),some (.im (tS u)),x10,x11]:=by
      intro Z Dd i u x5 x6 x10 x11 hu hD;have uo:=bg.2 u (Qz hu);rw[zt9 hu] at hD;have agi:=ag i;generalize accL m bs (zav st.1 t) i=acc at agi hD ⊢;refine zaz (λk ρ=>∃x10,ρ = [some (.im (zat g)),some (.im (.int (m:Nat))),some (.thr (zdr Z (wsD st.1))),some (.im (.bool st.2)),some (.im (.int (nn:Nat))),x5,x6,some (.im (zar t)),some (.own (((((zav st.1 t).take k).map (u ++ ·)).foldl (zbz m) acc).map tS)),some (.im (tS u)),x10,x11]) ⟨_,rfl⟩ (λρ hρ=>?_) λk d ρ N3 hd nx3 hρ=>?_
      .obtain⟨x10,rfl⟩:=hρ;rw[Qf,Zn];exact hD _
      .obtain⟨x10,rfl⟩:=hρ;rw[Qi] at hd;obtain⟨v,hv,rfl⟩:=Q4.mp hd;have vo:=eg.2 v (Qz hv);have es:(((zav st.1 t).take (k+1)).map (u ++ ·)).foldl (zbz m) acc=zbz m ((((zav st.1 t).take k).map (u ++ ·)).foldl (zbz m) acc) (u++v):=by rw[zj2 hv,QE,ZF];rfl
       have cg:GoodL al m ((((zav st.1 t).take k).map (u ++ ·)).foldl (zbz m) acc):=zmz agi λw hw c hc=>by
        obtain⟨y,hy,rfl⟩:=Qp.mp hw;rcases Q7.mp hc with hc|hc
        .exact uo.2 c hc
        .exact(eg.2 y (Zm hy)).2 c hc
       generalize (((zav st.1 t).take k).map (u ++ ·)).foldl (zbz m) acc=cur at es cg ⊢;rw[es] at nx3;have few:=cg.few ga m4
       have lo:∀c∈u++v,c<1000:=λc hc=>by
        rcases Q7.mp hc with hc|hc
        .exact ga.lo (uo.2 c hc)
        .exact ga.lo (vo.2 c hc)
       have ladd:u.length+v.length<=16777216:=by have:=uo.1;have:=vo.1;lia
       refine⟨rfl,?_⟩
       ac_rfl
       refine⟨_,zij (v:=u) (w:=v) ladd,_,zje (by rw[Ql];exact ladd),_,_,rfl,rfl,_,rfl,_,rfl,?_⟩;dsimp only;unfold zbz at nx3
       by_cases c:(u++v).length<=m
       .rw[ND (by rw[NG];show(((u++v).length:Nat):Int)<=(m:Nat);lia)]
        ac_rfl
        refine⟨_,zij (v:=u) (w:=v) ladd,_,_,rfl,rfl,_,zwt ⟨by lia,lo⟩ (λy hy=>⟨by have:=(cg.2 y hy).1;lia,λc hc=>ga.lo ((cg.2 y hy).2 c hc)⟩) (by lia),_,rfl,?_⟩;dsimp only
        cases hc:cur.contains (u++v) with
        | true=>
          rw[NE (by rw[hc];simp)] at nx3;exact nx3 _ ⟨_,rfl⟩
        | false=>
          rw[ND (by rw[hc,NH c];rfl)] at nx3
          ac_rfl
          refine⟨_,zij (v:=u) (w:=v) ladd,?_⟩
          ac_rfl
          refine⟨by rw[Qf];lia,?_⟩;exact nx3 _ ⟨_,by rw[QE];rfl⟩
       .rw[NE (by rw[NG];show ¬(((u++v).length:Nat):Int)<=(m:Nat);lia)];rw[NE (by rw[NI c];simp)] at nx3;exact nx3 _ ⟨_,rfl⟩
     ac_rfl
     refine zaz (λi ρ=>∃x5 x6 x9 x10 x11,ρ = [some (.im (zat g)),some (.im (.int (m:Nat))),some (.thg (OwnT (wsD st.1))),some (.im (.bool st.2)),some (.im (.int (nn:Nat))),x5,x6,some (.im (zar t)),some (.own ((accL m bs (zav st.1 t) i).map tS)),x9,x10,x11]) ⟨_,_,_,_,_,rfl⟩ (λρ hρ=>?_) λi d ρ N3 hd nx3 hρ=>?_
     .obtain⟨x5,x6,x9,x10,x11,rfl⟩:=hρ;rw[Qf];refine .inr ⟨_,rfl,_,rfl,?_⟩;exact nx2 _ ⟨_,_,_,_,_,_,rfl⟩
     .obtain⟨x5,x6,x9,x10,x11,rfl⟩:=hρ;rw[Qi] at hd;obtain⟨u,hu,rfl⟩:=Q4.mp hd;refine⟨rfl,?_⟩
      ac_rfl
      intro Z
      have out:∀x10 x11:Option DV,N3 ((([some (.im (zat g)),some (.im (.int (m:Nat))),some (.thr (zdr Z (wsD st.1))),some (.im (.bool st.2)),some (.im (.int (nn:Nat))),x5,x6,some (.im (zar t)),some (.own ((accL m bs (zav st.1 t) (i+1)).map tS)),some (.im (tS u)),x10,x11]:DSt).map flS).set 2 (some (.thg (OwnT (wsD st.1))))):=λx10 x11=>by
       simp only[Q8,YQ,fg,fl,ft];exact nx3 _ ⟨_,_,_,_,_,rfl⟩
      cases t with
      | nm i=>
        obtain⟨h1,h2⟩:0<=i/\i.toNat<st.1.length:=by
         have:=htA;simp only[s1.len];unfold ThA at this;exact⟨this.1,by lia⟩
        ac_rfl
        refine⟨i.toNat,_,(by show Jh i=_;rw[JD h1]),zgl h2,?_⟩;exact inn Z _ _ u _ _ _ _ hu (λx10=>⟨rfl,out _ _⟩)
      | lt w=>
        (repeat first|exact inn Z _ _ u _ _ _ _ hu (λx10=>⟨rfl,out _ _⟩)|infer_instance)
end
section
variable {P:GB}{w:GD}{K:Qa}{mg:Str->Option G5}{base:Heap}{k:Nat}
abbrev zh0:Stmt:=top 15
theorem zub:FnScope ["_law_grammar_here", "_law_found", "_law_turn", "_law_name", "_law_body"] ["_law_grammar_here"] (zab zh0):=⟨rfl,rfl,rfl,by decide +kernel,rfl,by decide +kernel,by decide +kernel⟩
theorem zeb(B:Blt mg)(zev:Def3 P w K mg base 1 "_law_inner" ["_law_body"] (spO K (λ_=>True) 1 zfg))(T:Top3 K mg "_law_makers" zh0):Def3 P w K mg base 2 "_law_makers" ["_law_grammar_here"] (spO K (λ_=>True) 1 zml):=by
 refine mk_O T zub (λ_ _ _ _ _ _ us hl=>len1 hl λ_=>rfl) rfl λf cdv A outer s H E O hφ C=>⟨_,(zah (zba 1 (zc5 zai)) (zah (zb3 C (zc7 (i_r1 C B (zae (zb8 C (zac 0) zbb) zai))) (zaw (h:=1000) 2) (zal (zb3 C (zc7 (zek C (zb8 C (zac 0) zbb))) (zjb (h:=1000) C (zb2 3 (zb2 4 zf8))) (zal (s_if (zei (zw0 C B (zae (zb7 1 ["_law_one", "_law_grammar_here", "_law_found", "_law_turn", "_law_name", "_law_body"] C (λ_=>.of rfl (by kernel_rfl)) (zcb C (zd0 C zev (λ_=>trivial) (zae (zac 4) zai))) (zaw 0) zhf (e_in (C.comp _ _) (zac 0) (zac 2))) zai))) (zal (zhd 1 C (zac 3))) ze1))))) (zal (zcd (zfq C B (zae (zi4 C B (zac 1)) zai)))))),λds Qr hn q=>?_⟩;obtain⟨g,rfl,ok,n1,n3,hr,q⟩:=q;have sz:=GE;have many:=ok.many
 ac_rfl
 refine⟨by lia,by lia,rfl,?_⟩;refine zaz (λt ρ=>∃(ns:List Int) (o2 o3 o4:Option DV),ρ = [some (.im (zat g)),some (.own (ns.map .int)),o2,o3,o4]/\LMk g t ns) ⟨[],_,_,_,rfl,.first⟩ (λρ zz=>?_) λt d ρ N hd hN zz=>?_
 .obtain⟨ns,o2,o3,o4,e,h⟩:=zz;subst e;rw[zbq] at h
  have hl:ns.length<=18:=by
   have:=h.len;have:g.n.toNat * g.rs.length<=3 * 6:=Y3 (by lia) many;lia
  ac_rfl
  refine⟨by lia,λzs z1 z2=>?_⟩;have zl:=zb9 (zej z1) λn hn=>(z2 n).mp hn;exact⟨_,rfl,q zs (h.done hr z1 z2) (by lia)⟩
 .obtain⟨ns,o2,o3,o4,e,h⟩:=zz;subst e;obtain⟨ht,rfl⟩:=zc8 hd
  have hl:ns.length<=12:=by
   have:=h.len;have:t * g.rs.length<=2 * 6:=Y3 (by lia) many;lia
  ac_rfl
  refine zaz (λj ρ=>∃(ms:List Int) (o3 o4:Option DV),ρ = [some (.im (zat g)),some (.own (ms.map .int)),some (.im (.int (0+(t:Int)))),o3,o4]/\LMj g ns j ms) ⟨ns,_,_,rfl,.first h.ok⟩ (λρ zz=>?_) λj d ρ N2 hd2 hN2 zz=>?_
  .obtain⟨ms,o3,o4,e,h'⟩:=zz;subst e;rw[Qf] at h';exact hN _ ⟨ms,_,_,_,rfl,h.next h'⟩
  .obtain⟨ms,o3,o4,e,h'⟩:=zz;subst e;rw[Qi] at hd2;obtain⟨r,hr2,rfl⟩:=Q4.mp hd2;have hg:=Qz hr2;have hb:=(ok.each r hg).1;have hj:j<g.rs.length:=(Qn.mp hr2).1;have hl2:=h'.len;have hnl:(nms r.b).length<=r.b.length:=by unfold nms;rw[Qf];exact Jf _ _
   ac_rfl
   refine⟨ze9 r,?_⟩
   ac_rfl
   refine⟨by lia,_,NK JJ (zpt r.b),?_⟩;refine ze8 (α:=Int) (enc:=Jh) (e:=λn=>.bool (ms.contains n)) (λn _ P hP=>?_) (by lia) ?_
   ·(repeat first|refine⟨_,zmd n ms,?_⟩|refine⟨zmd n ms,?_⟩|infer_instance)
    exact hP _ rfl
   refine⟨(nms r.b).map λn=>ms.contains n,by rw[Zd];rfl,_,rfl,?_⟩;rw[NE Q6,V8];show if zbn ms r=true then _ else _
   cases hm:zbn ms r with
   | true=>
     rw[ND rfl]
     ac_rfl
     refine⟨by rw[Qf];lia,hN2 _ ?_⟩;refine⟨ms ++ [r.n],some (.im (.int r.n)),some (.im (.tuple (r.b.map zar))),?_,h'.yes hr2 hm⟩;rw[QE];rfl
   | false=>
     rw[NE Q6];exact hN2 _ ⟨ms,_,_,rfl,h'.no hr2 hm⟩
end
def zfh(p:GraZ×List Nat×Nat):G7:=.tuple [zat p.1,.int (p.2.2:Nat)]
theorem ztd(ga:GAl g al){b:Nat}(hb:6<=b):GzOk b g:=⟨by have:=ga.many;lia,λr hr=>⟨by have:=(ga.each r hr).2.1;lia,λt ht=>by
 have:=(ga.each r hr).2.2 t ht
 cases t with
 | nm i=>trivial
 | lt v=>
   obtain⟨c,hc,rfl⟩:=this;refine⟨by show 1<=100;decide,λd hd=>?_⟩;rw[Qm.mp hd];have:97<=c/\c<123:=ga.low c hc
   lia⟩⟩
theorem zu3(ga:GAl g al)(h:MkSet g ms)(hl:ms.length<=60):∃x,zft [.tuple (ms.map .int)]=some (.o (.str x))/\Jl x=true :=
 Nice.repr (n:=1) (b:=60 * (0+1)) (zh8 (n:=0) (b:=0) (λn hn=>by
  obtain⟨r,hr,rfl⟩:∃r∈g.rs,n=r.n:=by
   cases (h.2 n).mp hn with
   | of r hr _=>exact⟨r,hr,rfl⟩
  have:=(ga.each r hr).1;have:=ga.n3;rw[show r.n=((r.n.toNat:Nat):Int) by lia]
  exact zwd (by lia)) hl)
section
variable {P:GB}{w:GD}{K:Qa}{mg:Str->Option G5}{base:Heap}{k:Nat}
variable {Pt:Addr}
abbrev sLaw:Stmt:=top 16
theorem z5y:FnScope ["_law_script", "_law_deal_here", "_law_some", "_law_k", "_law_grammar_here", "_law_n", "_law_due", "_law_told"] ["_law_script"] (zab sLaw):=⟨rfl,rfl,rfl,by decide +kernel,rfl,by decide +kernel,by decide +kernel⟩
theorem z2g(B:Blt mg)(zhr:Def3 P w K mg base 3 "makers" ["grammar"] (spO K (λ_=>True) 1 zpk))(zfv:Def3 P w K mg base 4 "words_of" ["grammar", "n"] (spO K (HasTab Pt zap) 2 zle))(d_law_deal:Def3 P w K mg base 1 "_law_deal" ["_law_script", "_law_base"] (zir K))(d_law_draw:zqn P w K mg base)(zdi:Def3 P w K mg base 2 "_law_letters" ["_law_deal_here"] (spD K IsDeal 0 zeo))(zdf:Def3 P w K mg base 2 "_law_grammar" ["_law_deal_here", "_law_letters_here"] (spD K IsDeal 1 (znx 7)))(zeq:Def3 P w K mg base 1 "_law_words" ["_law_grammar_here", "_law_most"] (spO K (λ_=>True) 2 zk1))(zeb:Def3 P w K mg base 2 "_law_makers" ["_law_grammar_here"] (spO K (λ_=>True) 1 zml))(Fu:Fun K "law" "law" sLaw f₁ fd₁):FnOk P w K mg base CX0 5 f₁ fd₁ ["_law_script"] (spLawT K [(Pt,zap)]):=by
 refine zzx (k:=4) Fu z5y rfl (λf cdv A outer s H E C=>?_) (λf cdv A outer s H E C=>?_)
 .obtain⟨fP,fdP,G,mP,kpP,bnP⟩:=d_law_deal.ex;exact zb6 (i:=1) (NF (by kernel_rfl)) rfl (by first|exact Or.inl rfl|exact Or.inr rfl) (zdw (k:=4) (G.mono (by decide)) (C.room ()) rfl mP kpP bnP .nil zg1 (zaq (zaf (i:=0) rfl (by first|exact Or.inl rfl|exact Or.inr (Or.inl rfl)|exact Or.inr (Or.inr rfl))) (zaq zau zbf)))
 .have hO:∀j:zgq [(Pt,zap)],IsDeal (zfk [(Pt,zap)] j):=λj=>zwn j;have hT:∀j,HasTab Pt zap (zfk [(Pt,zap)] j):=λj=>zua (q:=(Pt,zap)) (λq h q' h' _=>by rw[Qm.mp h,Qm.mp h']) Qu j;refine⟨_,(zah (zba 2 (zc5 zai)) (zah (zb3 C (zc7 (i_r1 C B (zae zbb zai))) (zaw (h:=1000) 3) (zah (zba 4 (zb1 1 C zdf hO (zae (zb1 1 C zdi hO zai) zai))) (zal (zhd 2 C (zjk (zae (zac 4) (zae (zb1 1 C d_law_draw hO (zae zbb zai)) zai))))))) (zah (zb3 C (zc7 (zcb C (zg5 C (zac 2) (zy6 C (zac 2) z0m (z1t zbb))))) (zjb (h:=1000) C (zb2 4 (zb2 5 zf8))) (zah (zba 6 (zqs C B (zae (zb7 1 ["_law_word", "_law_script", "_law_deal_here", "_law_some", "_law_k", "_law_grammar_here", "_law_n", "_law_due", "_law_told"] C (λ_=>.of rfl (by kernel_rfl)) (zcb C (zb8 C (zd0 C zeq (λ_=>trivial) (zae (zac 4) (zae (zac 5) zai))) zbb)) (zaw 0) zhf (zjk (zae (zjn (C.comp _ _) B (zae (zac 0) zai)) (zae (zac 0) zai)))) zai))) (zah (s_if (t_ne C (ztp C B (zae (zd0 C zhr (λ_=>trivial) (zae (zac 4) zai)) zai)) (ztp C B (zae (zd0 C zeb (λ_=>trivial) (zae (zac 4) zai)) zai))) (zal (zcd e_bl)) ze1) (zah (zba 7 (zd0 C zfv hT (zae (zac 4) (zae (zac 5) zai)))) (zah (s_if (t_w (w_or (zqu (zei (zg9 (T := "list") C B (zac 7) B.list))) (z4y (t_ne C (zac 7) (zb7 2 ["_law_size", "_law_word", "_law_script", "_law_deal_here", "_law_some", "_law_k", "_law_grammar_here", "_law_n", "_law_due", "_law_told"] C (λ_=>.of rfl (by kernel_rfl)) (zcb C (zac 6)) (zjb (C.comp _ _) (zb2 0 (zb2 1 zf8))) zhf (zac 1)))))) (zal (zcd e_bl)) ze1) (zal (zhd 7 C zqb))))))) (zal (zcd e_bl))))),λn hn=>?_⟩;have sz:=GE
  ac_rfl
  refine⟨by decide,by decide,rfl,?_⟩;refine zaz (λj ρ=>∃(gs:List (GraZ×List Nat×Nat)) (x3 x4 x5 x6 x7:Option DV),gs.length=j/\(∀p∈gs,GAl p.1 p.2.1/\p.2.2<=4)/\ρ = [some (.scr n),some .ob,some (.own (gs.map zfh)),x3,x4,x5,x6,x7]) ⟨[],none,none,none,none,none,rfl,nofun,rfl⟩ (λρ hρ=>?_) λj d ρ N hd nx hρ=>?_
  .obtain⟨gs,x3,x4,x5,x6,x7,hl,hg,rfl⟩:=hρ;rw[zbq] at hl;have hl:gs.length=2:=hl
   have hsl:slcF none (some 1) (.list (gs.map zfh))=some (.n ((gs.take 1).map zfh)):=by
    show some (R.n (cutL _ none (some ((1:Nat):Int))))=_;rw[z0l,Vr]
   have hadd:addF (.list (gs.map zfh)) (.list ((gs.take 1).map zfh))=some (.n ((gs++gs.take 1).map zfh)):=by
    rw[QE];exact zz9 (by rw[Qf,Qf,QY];lia)
   (repeat first|refine⟨_,hsl,?_⟩|refine⟨hsl,?_⟩|refine⟨_,hadd,?_⟩|refine⟨hadd,?_⟩|infer_instance)
   have good:∀p∈gs++gs.take 1,GAl p.1 p.2.1/\p.2.2<=4:=λp hp=>by
    rcases Q7.mp hp with h|h
    .exact hg p h
    .exact hg p (Zm h)
   generalize gs++gs.take 1=ps at good ⊢;refine zaz (λj ρ=>∃(x4 x5 x6 x7:Option DV),ρ = [some (.scr n),some .ob,some (.own (gs.map zfh)),x3,x4,x5,x6,x7]) ⟨_,_,_,_,rfl⟩ (λρ hρ=>?_) λj d ρ N hd nx hρ=>?_
   .obtain⟨x4,x5,x6,x7,rfl⟩:=hρ;exact rfl
   .obtain⟨x4,x5,x6,x7,rfl⟩:=hρ;rw[Qi] at hd;obtain⟨⟨g,al,m⟩,hp,rfl⟩:=Q4.mp hd;obtain⟨ga,m4⟩:=good _ (Qz hp);have ga:GAl g al:=ga;have m4:m<=4:=m4;refine⟨by show(flat (zat g) && (flat (Jh (m:Nat)) && true))=true;rw[zhb g];rfl,?_⟩
    ac_rfl
    refine⟨g,al,m,rfl,ga,m4,λws sd fam=>?_⟩;have h0:0<ws.length:=by rw[sd.len];have:=ga.n1;lia
    refine⟨_,zs9 (n:=0) h0,_,rfl,?_⟩;have few:(ws.at_ 0).length<=121:=sd.few ga m4 0;have snd:=sd.snd 0;have nd:=sd.nd 0;have fam0:∀w,w∈ws.at_ 0↔famW ws 0 w:=λw=>⟨λh=>⟨by decide,h⟩,λh=>h.2⟩;generalize ws.at_ 0=us at few snd nd fam0;dsimp only;refine ze8 (α:=List Nat) (enc:=tS) (e:=plW) (λw hw Py hPy=>?_) (by lia) ?_
    .have lw:w.length<=16777216:=by have:=(snd w hw).1;lia
     (repeat first|refine⟨_,zje lw,?_⟩|refine⟨zje lw,?_⟩|infer_instance)
     exact hPy _ rfl
    refine⟨us.map plW,_,_,rfl,λd hd=>?_,zsk [],λd hd=>?_,by rw[Qf];lia,List.Pairwise.map plW (λx y (n:x≠y) e=>n (zx9 e)) nd,λzs zp zw=>?_⟩
    .obtain⟨w,hw,rfl⟩:=Qp.mp hd;exact zzc λc hc=>by have:97<=c/\c<123:=ga.low c ((snd w hw).2.1 c hc);lia
    .obtain⟨w,hw,rfl⟩:=Qp.mp hd;exact zsk w
    obtain⟨vs,vp,rfl⟩:=HK.perm_map_inv zp;have up:vs.Pairwise λa b=>wlt a b=true:=(ZP.mp zw).imp z2x;have mv:∀w,w∈vs↔w∈us:=λw=>vp.mem_iff;have vfew:vs.length<=121:=by rw[vp.length_eq];exact few
    refine⟨za9 (λ_=>rfl) _,?_⟩
    ac_rfl
    refine⟨ztd ga (by decide),λms h1 l1=>?_⟩;obtain⟨x,rx,xo⟩:=zu3 ga h1 l1
    (repeat first|refine⟨_,rx,?_⟩|refine⟨rx,?_⟩|infer_instance)
    refine⟨ztd ga (by decide),ga.n1,ga.n3,λr hr=>(ga.each r hr).1,λms2 h2 l2=>?_⟩;obtain rfl:=h1.same h2;have ne:eqF true (.str x) (.str x)=some (.o (.bool false)):=zxt xo
    (repeat first|refine⟨_,rx,?_⟩|refine⟨rx,?_⟩|refine⟨_,ne,?_⟩|refine⟨ne,?_⟩|infer_instance)
    obtain⟨N2,fix⟩:=zzo ga m4;refine⟨g,m,N2,rfl,ga.gr,ga.n1,λk _=>z0f ga m4 (zew ga k),fix,za9 (λ_=>rfl) _,?_⟩
    have ev:(itW (zag (m:Nat)) g N2).at_ 0=vs:=zgu (zrh N2 0) up λw=>by
     rw[mv,fam0];exact(show w∈(itW (zag (m:Nat)) g N2).at_ 0↔famW (itW (zag (m:Nat)) g N2) 0 w from⟨λh=>⟨by decide,h⟩,λh=>h.2⟩).trans ((zyg ga fix).same fam 0 w)
    rw[ev]
    ac_rfl
    refine zvt (α:=List Nat) (enc:=plW) (e:=tS) (λw hw P hP=>?_) zx1 (by lia) ?_
    .ac_rfl
     exact hP _ rfl
    have ne2:eqF true (.list (vs.map tS)) (.list (vs.map tS))=some (.o (.bool false)):=by
     have nn:Nice 1 (121 * (4+1)) (.tuple (vs.map tS)):=zh8 (n:=0) (b:=4) (λw hw=>zhw (λc hc=>ga.lo ((snd w ((mv w).mp hw)).2.1 c hc)) (by have:=(snd w ((mv w).mp hw)).1;lia)) vfew;exact zz0 (q:=true) nn nn (by decide) ⟨λ_=>rfl,λ_=>rfl⟩
    (repeat first|refine⟨_,ne2,?_⟩|refine⟨ne2,?_⟩|infer_instance)
    refine⟨by rw[Qf];lia,?_⟩;exact nx _ ⟨_,_,_,_,rfl⟩
  .obtain⟨gs,x3,x4,x5,x6,x7,hl,hg,rfl⟩:=hρ;obtain⟨_,rfl⟩:=zc8 hd;refine⟨rfl,?_⟩
   ac_rfl
   intro al a1 a3 alo _
   ac_rfl
   refine⟨a1,by lia,alo,λg g1 g3 gr hg2=>⟨zhb g,?_⟩⟩
   ac_rfl
   refine⟨by decide,by decide,λk k0 k5=>?_⟩;obtain⟨m,rfl⟩:∃m:Nat,k=(m:Nat):=⟨k.toNat,by lia⟩
   have ga:GAl g al:=⟨g1,g3,by lia,a3,alo,λr hr=>by
    obtain⟨b1,b2,b3,b4,b5⟩:=hg2 r hr;refine⟨⟨b1,b2⟩,b3,λt ht=>?_⟩;have:=b5 t ht
    cases t with
    | nm i=>exact⟨this.1,by have:=this.2;lia⟩
    | lt v=>exact this⟩
   ac_rfl
   refine⟨by show(flat (zat g) && (flat (Jh (m:Nat)) && true))=true;rw[zhb g];rfl,by rw[Qf,hl];lia,?_⟩;refine nx _ ⟨gs ++ [(g,al,m)],_,_,_,_,_,by rw[Ql,hl];rfl,λp hp=>?_,by rw[QE];rfl⟩;rcases Q7.mp hp with h|h
   .exact hg p h
   .rw[Qm.mp h];exact⟨ga,by show m<=4;lia⟩
end
def DIn(K:Qa)(x:Str)(st:Stmt):Prop:=∃(f:Addr) (od an:Option Addr) (sl:Array (Option G5)) (oc kV dc pm cd ct:G5),Ze K mainGlobals x=some (some (.ref f))/\K.lookup f=some ⟨oc,od,.func (Z2 x x (zbk st) (zan st) (zab st) .none kV dc pm an cd ct),sl⟩/\JE K cd x=true/\Jn K (.ref f)=true
theorem din_mk{K:Qa}{x:Str}{st:Stmt}{f:Addr}{od an:Option Addr}{sl:Array (Option G5)}{oc kV dc pm cd ct:G5}(a:Ze K mainGlobals x=some (some (.ref f)))(l:K.lookup f=some ⟨oc,od,.func (Z2 x x (zbk st) (zan st) (zab st) .none kV dc pm an cd ct),sl⟩)(c:JE K cd x=true)(k:Jn K (.ref f)=true):DIn K x st:=⟨f,od,an,sl,oc,kV,dc,pm,cd,ct,a,l,c,k⟩
theorem zbi{K:Qa}{x:Str}{st:Stmt}{h:Heap}{mg:Str->Option G5}(X:K.In h)(G:h.Ns mainGlobals mg)(D:DIn K x st):Top3 K mg x st:=by obtain⟨f,_,_,_,_,_,_,_,_,_,a,l,c,k⟩:=D;exact⟨f,_,zrz (st:=st) l c k,Uk X G a⟩
theorem all_mk{l:VE}{w:GD}{K:Qa}{h:Heap}{mg:Str->Option G5}{fa:Addr}(X:K.In h)(G:h.Ns mainGlobals mg)(hfa:mg "law" = some (.ref fa))
 (D1:DIn K "names_in" zh4)
 (D2:DIn K "rules_made_of" zd6)
 (D3:DIn K "makers" zkg)
 (D4:DIn K "words_of_body" zee)
 (D5:DIn K "words_by_rules" zdg)
 (D6:DIn K "words_of" zch)
 (D7:DIn K "_law_deal" zq1)
 (D8:DIn K "_law_draw" zq8)
 (D9:DIn K "_law_letters" zh3)
 (D10:DIn K "_law_grammar" zgr)
 (D11:DIn K "_law_inner" zka)
 (D12:DIn K "_law_words" zke)
 (D13:DIn K "_law_makers" zh0)
 (D14:DIn K "law" sLaw)
 (z1:Ze K mainGlobals "len" = some none)
 (z2:Ze K mainGlobals "all" = some none)
 (z3:Ze K mainGlobals "any" = some none)
 (z4:Ze K mainGlobals "sorted" = some none)
 (z5:Ze K mainGlobals "min" = some none)
 (z6:Ze K mainGlobals "max" = some none)
 (z7:Ze K mainGlobals "repr" = some none)
 (z8:Ze K mainGlobals "int" = some none)
 (z9:Ze K mainGlobals "list" = some none)
 (z10:Ze K mainGlobals "tuple" = some none)
 (z11:Ze K mainGlobals "range" = some none)
 (z12:Ze K mainGlobals "set" = some none)
 (z13:Ze K mainGlobals "isinstance" = some none)
 (z14:Ze K mainGlobals "enumerate" = some none)
 (z15:Ze K mainGlobals "zip" = some none)
 (z16:Ze K mainGlobals "reversed" = some none)
 (z17:Ze K mainGlobals "str" = some none)
 (z18:Ze K mainGlobals "sum" = some none)
 (z19:Ze K mainGlobals "dict" = some none)
 (z20:Ze K mainGlobals "bool" = some none)
 (hT1:(Gw K "words_of").isSome=true)
 : ∃fd:Tu,(∀(s:G8) (v:G5),MX s fd ⟨[v],[]⟩ [("_law_script",v)])/\∀base:Heap,K.In base->base.Ns mainGlobals mg->(∀p∈([("words_of",zap)]:L3.Nests),L3.Nst mg base (L3.cOf K p.1) (L3.pOf K p.1))->FnOk l.prog w K mg base CX0 5 fa fd ["_law_script"] (L3.spLawT K (L3.tbsOf K [("words_of",zap)])):=by
 have T1:=zbi X G D1;have T2:=zbi X G D2;have T3:=zbi X G D3;have T4:=zbi X G D4;have T5:=zbi X G D5;have T6:=zbi X G D6;have T7:=zbi X G D7;have T8:=zbi X G D8;have T9:=zbi X G D9;have T10:=zbi X G D10;have T11:=zbi X G D11;have T12:=zbi X G D12;have T13:=zbi X G D13;have T14:=zbi X G D14;have B:Blt mg:=⟨QH X G z1,QH X G z2,QH X G z3,QH X G z4,QH X G z5,QH X G z6,QH X G z7,QH X G z8,QH X G z9,QH X G z10,QH X G z11,QH X G z12,QH X G z13,QH X G z14,QH X G z15,QH X G z16,QH X G z17,QH X G z18,QH X G z19,QH X G z20⟩;obtain⟨f14,od14,an14,sl14,oc14,kV14,dc14,pm14,cd14,ct14,a14,l14,c14,k14⟩:=D14;have e:=hfa.symm.trans (Uk X G a14);cases e;refine⟨Z2 "law" "law" (zbk sLaw) (zan sLaw) (zab sLaw) .none kV14 dc14 pm14 an14 cd14 ct14,λs v=>.of_eq rfl,λbase _ _ hN=>?_⟩;have e1:=zfu (P:=l.prog) (w:=w) (base:=base) B T1;have e2:=zcp B e1 T2;have e3:=zhr B e2 T3;have e4:=zcr (P:=l.prog) (w:=w) (base:=base) B T4;have e5:=zcj B e4 T5;have e6:=zfv B e5 (hN ("words_of",zap) (by simp)) (L3.topC_of X G D6 hT1);have e7:=d_law_deal (P:=l.prog) (w:=w) (base:=base) B T7;have e8:=d_law_draw (P:=l.prog) (w:=w) (base:=base) B T8;have e9:=zdi B e8 T9;have e10:=zdf B e8 T10;have e11:=zev (P:=l.prog) (w:=w) (base:=base) B T11;have e12:=zeq (P:=l.prog) (w:=w) (base:=base) B T12;have e13:=zeb B e11 T13;exact z2g B e3 e6 e7 e8 e9 e10 e12 e13 (zrz (st:=sLaw) l14 c14 k14)
theorem walk{l:VE}{q:GB}{loose:List Str}{XP:(Str->Option G5)->Heap->Prop}{YP:GD->Heap->Prop}{d:DefRec}{K:Params->Qa}(hn:l.most=some 63)(hdf:d.params.defaults = [])
 (hY:∀(w:GD) (h:Heap),YP w h->(K w.params).In h)
 (hK:∀w:GD,PySem.W.noTabs (K w.params)=true) (hti:∀w:GD,(([("words_of",zap)]:L3.Nests).all λp=>(Gw (K w.params) p.1).isSome)=true) (hrec:(([("words_of",zap)]:L3.Nests).all λp=>((recsOf q).find? λe=>e.name == p.1).isSome)=true) (hnd:∀w:GD,decide ((([("words_of",zap)]:L3.Nests).map λp=>L3.pOf (K w.params) p.1).Nodup)=true)
 (F:∀(w:GD) (mg:Str->Option G5) (fa:Addr) (h:Heap),(K w.params).In h->h.Ns mainGlobals mg->mg d.name=some (.ref fa) ->
  ∃fd:Tu,(∀(s:G8) (u:G5),MX s fd ⟨[u],[]⟩ [("_law_script",u)])/\∀base:Heap,(K w.params).In base->base.Ns mainGlobals mg->(∀p∈([("words_of",zap)]:L3.Nests),L3.Nst mg base (L3.cOf (K w.params) p.1) (L3.pOf (K w.params) p.1))->FnOk l.prog w (K w.params) mg base CX0 5 fa fd ["_law_script"] (L3.spLawT (K w.params) (L3.tbsOf (K w.params) [("words_of",zap)]))) :
 Gu q loose XP YP l.row.toRowW d [] (λf vs=>Gj f vs) :=
 L3.walk_ofT (tl:=[("words_of",zap)]) (k:=5) (x := "_law_script") hn hdf ⟨rfl,by decide,by decide,rfl⟩ hY hK hti hrec hnd F
end L52
theorem PySem.W.Fast.tw9460987587570801281 : True := trivial
theorem PySem.W.Fast.tw5737369721172596791 : True := trivial
theorem PySem.W.Fast.tw11269887085674529614 : True := trivial
theorem PySem.W.Fast.tw2954928813017367542 : True := trivial
theorem PySem.W.Fast.tw2864351640619557029 : True := trivial
theorem PySem.W.Fast.tw1761359529168752177 : True := trivial
theorem PySem.W.Fast.tw1142794275642126719 : True := trivial
theorem PySem.W.Fast.tw6674493373328823538 : True := trivial
theorem PySem.W.Fast.tw12009904283049987693 : True := trivial
theorem PySem.W.Fast.tw9101297525746282742 : True := trivial
open PySem PySem.W PyProof.Rows
set_option maxRecDepth 100000 in
set_option maxHeartbeats 0 in
theorem PySem.Challenge.cw_lostpost_k52_makers_and_words_holds : PySem.Challenge.rw_lostpost_k52_makers_and_words.Holds := by
 w_on;o_law;k_head;(case hw=>w_witness2)
 k_fill
 refine L52.walk (l:=PySem.Challenge.rw_lostpost_k52_makers_and_words) rfl rfl (λw h Y=>PySem.W.km_in_of Y) ?hK ?hti ?hrec ?hnd ?F
 case F=>
  intro w mg fa h KX G hmg;refine' L52.all_mk KX G hmg (L52.din_mk ?a1 ?l1 ?c1 ?k1) (L52.din_mk ?a2 ?l2 ?c2 ?k2) (L52.din_mk ?a3 ?l3 ?c3 ?k3) (L52.din_mk ?a4 ?l4 ?c4 ?k4) (L52.din_mk ?a5 ?l5 ?c5 ?k5) (L52.din_mk ?a6 ?l6 ?c6 ?k6) (L52.din_mk ?a7 ?l7 ?c7 ?k7) (L52.din_mk ?a8 ?l8 ?c8 ?k8) (L52.din_mk ?a9 ?l9 ?c9 ?k9) (L52.din_mk ?a10 ?l10 ?c10 ?k10) (L52.din_mk ?a11 ?l11 ?c11 ?k11) (L52.din_mk ?a12 ?l12 ?c12 ?k12) (L52.din_mk ?a13 ?l13 ?c13 ?k13) (L52.din_mk ?a14 ?l14 ?c14 ?k14) ?z1 ?z2 ?z3 ?z4 ?z5 ?z6 ?z7 ?z8 ?z9 ?z10 ?z11 ?z12 ?z13 ?z14 ?z15 ?z16 ?z17 ?z18 ?z19 ?z20 ?hT1
  (case a1=>k_is);(case l1=>k_is);(case c1=>k_is);(case k1=>k_is)
  (case a2=>k_is);(case l2=>k_is);(case c2=>k_is);(case k2=>k_is)
  (case a3=>k_is);(case l3=>k_is);(case c3=>k_is);(case k3=>k_is)
  (case a4=>k_is);(case l4=>k_is);(case c4=>k_is);(case k4=>k_is)
  (case a5=>k_is);(case l5=>k_is);(case c5=>k_is);(case k5=>k_is)
  (case a6=>k_is);(case l6=>k_is);(case c6=>k_is);(case k6=>k_is)
  (case a7=>k_is);(case l7=>k_is);(case c7=>k_is);(case k7=>k_is)
  (case a8=>k_is);(case l8=>k_is);(case c8=>k_is);(case k8=>k_is)
  (case a9=>k_is);(case l9=>k_is);(case c9=>k_is);(case k9=>k_is)
  (case a10=>k_is);(case l10=>k_is);(case c10=>k_is);(case k10=>k_is)
  (case a11=>k_is);(case l11=>k_is);(case c11=>k_is);(case k11=>k_is)
  (case a12=>k_is);(case l12=>k_is);(case c12=>k_is);(case k12=>k_is)
  (case a13=>k_is);(case l13=>k_is);(case c13=>k_is);(case k13=>k_is)
  (case a14=>k_is);(case l14=>k_is);(case c14=>k_is);(case k14=>k_is)
  (case z1=>k_is)
  (case z2=>k_is)
  (case z3=>k_is)
  (case z4=>k_is)
  (case z5=>k_is)
  (case z6=>k_is)
  (case z7=>k_is)
  (case z8=>k_is)
  (case z9=>k_is)
  (case z10=>k_is)
  (case z11=>k_is)
  (case z12=>k_is)
  (case z13=>k_is)
  (case z14=>k_is)
  (case z15=>k_is)
  (case z16=>k_is)
  (case z17=>k_is)
  (case z18=>k_is)
  (case z19=>k_is)
  (case z20=>k_is)
  (case hT1=>kernel_rfl)
 (case hK=>intro w;kernel_rfl);(case hti=>intro w;kernel_rfl);(case hrec=>kernel_rfl);(case hnd=>intro w;kernel_rfl)

