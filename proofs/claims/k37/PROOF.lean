import PyProof.Rows.All
import Wide.All
import OpenK.AllK
import Wide.FinOn
import Lean
import PyProof.EqAt
import PyProof.EqKinds
import PyProof.TupleCall
import PyProof.StationsW
import PyProof.ExcClass2
import PyProof.ExcBaseAll.ValueError
import PyProof.InstStoreFacts
import PyProof.RulesAs
import PyProof.NsDelKeeps
import PyProof.P3Eq
import PyProof.P3In
import PyProof.ReprRoads
import PyProof.StrWalks
import PyProof.ListRange
import PyProof.ListStr
import PyProof.ConsumeWalk
import PyProof.MinMaxWalk
import PyProof.NeData
import PyProof.SliceStr2
import PyProof.Rows.SortStr
import PyProof.Rows.StrJoin2
import PyProof.Rows.SeqMore
import PyProof.SeqI3
import PyProof.StrLawsIn
import PyProof.ReprBulk
import PyProof.ListMulRoad
import PyProof.StrOps2
import PySem.Challenge.RW_lostpost_k37_the_least_ahead
import PyProof.Rows.SortShellK
import KE.KSortTup
import PyProof.Rows.SetFrom
import PyProof.CollectIter
import PyProof.CollectStr
import PyProof.FactsAll.set
import PyProof.ExcAttrAll.ValueError
import PyProof.ExcArgs
import KE.KIsAll
import PySem.SetTable
import PyProof.SetScanFacts
import PyProof.TupleKey
import PyProof.IsRules
import KE.KDictOf
import PyProof.AttrMissHeap
import PyProof.DictWalks
import KE.KDictLaws
import PyProof.Draws
import KE.KRevIter
import PyProof.EnumStmt
import PyProof.JoinWalk
import KE.BitLaws
import PyProof.TupleOfSeq
import PyProof.StrCalls6
import PyProof.StrLawsReplace
import PyProof.DictRoadsH
import PyProof.ZipIter
import PyProof.EnumIter
import KE.KItemsList
open PyProof.Rows renaming wpS_bind->TH, wpS_pure->TU, size_push'->Mr, listUpdate_at->Mz, get?_update_seq->MD, arrOf->MF, wpS_forRange->MM, entry_list_sort->MS, assignInOrder_cons->Na, failedOf->Nc, slot_list_sort->Nf, AllBare->Nh, SortKind->Nn, StrsAre->N0, entry_sorted->N1, envOfC->N4, listItems_at->N6, plain_sorted->N7, sortedHeap->NA, subscriptTail_builtinR->NB, args_list_sort->NI, kind_sorted->NM, seqEpoch_at->NN, sortedHeap_old->NQ, wpS_reverse->NU, sortedS->NW, sortedHeap_at->NZ, subscriptTail->ja, args_sorted1->jh, wpS_get->jn, kat_kind_eq->ju, IntsAre->jy, oneType'->j4, wpS_mono->j6
open PySem renaming wpAny_bind->Tj, wpAny_pure->Tk, PyData->Tl, Value->Tn, Shared->To, starEach->Tq, Program->Tr, sizeLine_eq->Ts, World->Tt, wpAny_setField_rec->Tu, Around->Tv, wpAny_call_entry->Tw, wpAny_newObj_type->Tz, wpAny_callSpecial?_slot->TC, wpAny_holding->TF, wpAny_field->TJ, bootBuiltins->TK, wpAny_Call_Name_kw->TL, SetTable->TM, compareOp->TN, wpAny_mono->TQ, wpAny_seqItems->TR, Reads->TV, wpAny_rule->TW, wpAny_pyIter_list->TX, codeAny_builtin->TY, wpAny_specialOf->TZ, assignEach->Ma, cellsFrom->Mb, sysModules->Mc, wpAny_isInstance->Md, wpAny_pyIter_tuple->Me, ReadsAll->Mf, wpAny_of_eq->Mg, foldedSetIterable->Mh, backTo->Mi, attributeBase->Mj, wpAny_attempt->Mk, hashByValue_scannable->Ml, wpAny_passesOwn->Mm, Scope->Mn, wpAny_typeOf->Mo, behindInMarks->Mp, setSearchFrom->Mq, NameKind->Ms, binaryOp->Mt, wpAny_forIn_list->Mu, wpAny_typeNameOfWhole_keyiter->Mv, codeAny_mono->Mw, FuncData->Mx, bindArgs->My, plainId_quiet->M0, swapsWith->M1, builtinLookup_eq_fast->M3, fits_of_scanBound->M4, firstArgMember->M5, isSubtype_type->M6, Keyword->M7, pyNext->M8, swappedStores->M9, swapsWithSole->MA, wpAny_newList->MB, wpAny_typeNameOf_keyiter->MC, rawInt->ME, keywordEach->MG, pickOrder->MH, sliceBounds->MI, eqIsQuiet_byValue->MJ, wpAny_newTuple->MK, wpAny_truthy_bool->ML, getItem->MN, wpAny_onRaise->MO, codeAny_extend_loopS->MP, wpAny_updateSeq_pair->MQ, IsPair->MR, letOwnedTupleGo->MT, typeLookup_type->MU, wpAny_execs_nil->MV, wpAny_loadPart'->MW, codeAny->MX, spliced->MY, assign->MZ, call_meets->Nb, isSubtype_stop->Nd, wpAny_setField->Ng, wpAny_dictEntries->Ni, wpAny_letGo->Nj, wpAny_pyIter_slot->Nk, filterMap_getElem?_range->Nl, wpAny_standAt->Nm, atKey->No, backToKw->Np, isSubtype->Nq, noFill_tuple_add->Nr, relayAll->Nt, wpAny_askSetting->Nu, wpAny_pyHash_int->Nv, wpAny_pyHash_str->Nw, IsEnum->Ny, IsPart->Nz, hashStr->N5, pyIter->N8, setAddHashed->N9, codeAny_of_tree->NC, pushCells_keeps->ND, weight_type_call_type->NE, wpAny_isOneOf_keyiter->NF, wpAny_notOrdered_dict->NG, ZipApart->NH, codeAny_call_builtin->NJ, dictSetDefault->NK, field->NL, setAddHashedIn->NO, slicePicked->NP, storedH_new->NR, wpAny_fieldsOf->NS, wpAny_runValue->NT, DictEntry->NV, valueAt->NX, seq_tuple_add->NY, wpAny_handled->jb, checkCount->jc, typeLookup->jd, wpAny_call->je, BindsTo->jf, GenState->jg, concat_meets->ji, raiseNew->jk, seqIndex_neg->jl, storeSet->jm, Paired->jo, putSet_of->jp, seqIndex?->jq, typeOf->jr, IsZip->jt, seqIndex_of->jv, unsupported->jw, wpAny_throw->jx, setNext->jz, bindC->j0, bindL->j1, bindName->j2, newTuple->j3, setField->j5
abbrev j7:=@if_pos
abbrev j8:=@if_neg
abbrev j9:=@decide_eq_true
abbrev jA:=@decide_eq_false
abbrev jB:=@of_decide_eq_true
abbrev jC:=@decide_eq_true_eq
abbrev jD:=@if_false
abbrev jE:=@if_true
abbrev jF:=@congrArg
abbrev jG:=@beq_self_eq_true
abbrev jH:=@or_false
abbrev jI:=@map_eq_pure_bind
abbrev jJ:=@decide_eq_true_iff
abbrev jK:=@decide_eq_false_iff_not
abbrev jL:=@bne_self_eq_false
abbrev jM:=@or_congr
abbrev jN:=@beq_iff_eq
open Array renaming getElem?_eq_getElem->Q5, getElem?_toList->QK, length_toList->QV, getD_eq_getD_getElem?->Ja, getElem?_eq_none->JT, forIn_toList->JU, toList_inj->YM, getElem?_eq_some_iff->Vs, getD->Vw, toList_push->V6, replicate->VZ, all_eq_true'->UD, foldl_toList->UE, toList->Th
open Bool renaming and_eq_true->Qx, false_ne_true->Q8, false_eq_true->QI, and_eq_true_iff->Jt, eq_iff_iff->J9, not_eq_true'->YA, not_true->VA, false_and->Ui, and_true->U8, and_false->GI, and_assoc->GV, or_false->GW, true_and->Tc
open Char renaming toNat->VP
open Classical renaming byContradiction->ZM
open False renaming elim->Jk
open ForInStep renaming yield->Yx
open Iff renaming rfl->Uz
open Int renaming eq_ofNat_of_zero_le->Q6, emod_lt_of_pos->J2, emod_nonneg->JX, toNat_natCast->YF
open List renaming mem_singleton->Qb, length_map->Qc, mem_cons_of_mem->Qf, getElem?_eq_getElem->Qg, getElem?_eq_some_iff->Qi, getElem?_map->Qj, mem_of_getElem?->Qn, getD_eq_getElem?_getD->Qo, mem_cons_self->Qp, length_append->Qq, mem_cons->Qs, map_cons->Qu, mem_append->Qv, size_toArray->Qy, mem_map->Q0, length_set->Q1, length_cons->Q3, not_mem_nil->Q4, map_append->Q7, mem_append_right->Q9, length_singleton->QA, mem_zipIdx_iff_getElem?->QB, getElem?_eq_none->QD, replicate->QG, range->QH, mem_range->QJ, mem_iff_getElem?->QQ, mem_append_left->QR, getElem_mem->QT, length_take->QX, length_range->QZ, take_length->Zh, pairwise_map->Zl, getElem?_cons_succ->Zn, getElem?_append_left->Zr, map_map->Zt, drop_eq_getElem_cons->Zx, getElem?_set_self->Zy, take_add_one->Zz, length_replicate->Z4, getElem?_append_right->Z7, length_drop->Z8, ext_getElem?->ZB, getElem?_set_ne->ZC, pairwise_iff_getElem->ZD, mem_or_eq_of_mem_set->ZE, length_zipIdx->ZH, lookup_cons_self->ZI, append_nil->ZK, getElem_range->ZT, getElem?_replicate->ZU, lookup_cons->ZV, take_of_length_le->Je, nodup_cons->Jh, find?_cons->Ji, length_nil->Jj, getElem?_drop->Jl, mem_flatMap->Jn, take_append_of_le_length->Ju, foldl_cons->Jx, sum_cons->J0, all_eq_true->J1, getElem?_zip_eq_some->J8, length->JB, length_dropLast->JC, map_set->JF, set_set->JG, reverse_reverse->JH, foldl_append->JI, mem_of_mem_take->JK, drop_eq_nil_of_le->JR, mem_filter->JV, of_mem_zip->JW, nodup_append->Yd, append_assoc->Ye, mapM_toArray->Yh, getElem?_range->Yp, length_erase_of_mem->Yt, mem_filterMap->Yy, zip_cons_cons->Yz, eraseIdx_cons_succ->Y2, reverse_cons->Y8, drop_zero->Y9, take_succ_eq_append_getElem->YC, lt_irrefl->YD, length_pos_of_mem->YE, eraseIdxIfInBounds_toArray->YG, getElem?_toArray->YH, take_append_drop->YI, drop_length->YL, nodup_range->YO, any_eq_true->YS, dropLast_concat->YT, find?_eq_some_iff_append->YU, length_eraseIdx->YV, mem_erase_of_ne->YW, mem_of_mem_drop->YY, filterMap_cons->Ve, map_congr_left->Vf, length_pos_iff->Vg, map_nil->Vi, perm_ext_iff_of_nodup->Vx, pairwise_cons->Vz, map_inj_right->V0, getLast?_eq_some_iff->V1, getElem?_set->V5, flatMap_cons->V8, map_take->V9, lt_trans->VB, filterMap_cons_some->VC, filter_cons->VD, length_eq_zero_iff->VE, getElem?_cons_zero->VG, perm_middle->VH, sublist_nil->VL, sublist_cons_self->VQ, forIn_cons->VX, take_eq_take_min->Uc, forIn_nil->Uk, getElem?_mapIdx->Ul, not_lt->Uo, getElem?_append->Uq, take_left->Ur, drop_left->Uu, dropLast_subset->Uv, getD->Uy, lt_of_le_of_lt->U0, getElem_of_mem->U1, mem_map_of_mem->U2, any_cons->U4, map_drop->U5, find?_eq_none->UG, zip_nil_right->UL, set_cons_zero->UN, head?_filter->UT, all_map->UZ, zip_nil_left->Ge, getElem?_inj->Gk, getElem_inj->Gn, all_toArray->Gv, zipIdx_cons->Gw, getElem_map->G4, zipIdx_nil->GD, length_zip->GH, drop_drop->GN, map->GT, take_nil->GY
open List.Pairwise renaming nil->V4
open List.Perm renaming append_left->Uf, swap->GM
open List.cons renaming injEq->GE
open Nat renaming le_refl->Qh, ne_of_lt->Q2, zero_le->QE, lt_of_lt_of_le->QL, lt_succ_of_lt->QP, le_trans->QY, lt_irrefl->Zj, lt_succ_self->ZL, mul_assoc->Jq, le_succ->Jr, pow_le_pow_right->Js, ne_of_gt->Jz, le_of_lt->JA, pow_succ->JD, mul_add->JE, not_lt_zero->JY, le_of_succ_le->Yc, mul_left_comm->Yf, add_assoc->Yu, toDigits->YB, le_of_not_lt->YK, mod_eq_of_lt->YR, lt_or_ge->Vj, zero_add->Vl, succ_pos->Vn, not_lt->Vu, mod_lt->Vv, le_add_right->VI, succ_lt_succ->VJ, le_of_eq->VO, div_div_eq_div_mul->VR, lt_of_le_of_lt->UB, lt_of_le_of_ne->UC, mul_right_comm->UK, sub_zero->UO, succ_mul->UQ, add_zero->UX, lt_succ_of_le->UY, succ_ne_self->G0, add_mul->G7, mod_mul->G8, min_eq_left->GA
open Ne renaming symm->ZA
open Option renaming map_eq_some_iff->Qw, isSome_iff_exists->JL, none->Yk, map_some->Yw, isSome_some->UA, getD_none->Gp, map->GP
open Option.some renaming inj->Zi
open PyProof.Rows renaming callWith_type1->Zs, slot_tuple_getitem->Z3, callWith_builtin1->JN
open PyProof.Rows.F renaming plain_set_update_loop->ZX, entry_set_update_loop->JO
open PyProof.Rows.IsTup renaming new->Go
open PyProof.Rows.SortSt renaming mk'->GU
open PySem renaming Spec->Ql, mem_of_lookup->ZQ, strKind->Jb, SetTable->Jc, call->GJ, Builtin->GZ, Str->Te
open PySem.Around renaming under_plainId->ZW, under_plain->UJ
open PySem.AutoSeq1 renaming wpAny_loadPart'->Yv
open PySem.Builtin.Dict_items renaming addrOf->V2, ownsTuple->GF
open PySem.Builtin.Frozenset renaming updateFrom->YZ, newClass->GO, slot0->Tg
open PySem.Builtin.List renaming listLengthHint->ZZ, listSameRef->Jo, listTooLong->Yr, listExtendWith->Vm, listUpdate->VF
open PySem.Builtin.Slice renaming slicePlaces->J7, sliceAdjust->Yn, sliceApplied->Vr
open PySem.Builtin.SmallTypes renaming nextOf->QW, ownedTupleIsFree->Zv, ownedTupleHandOut->ZR
open PySem.Builtin.Str renaming occurrences->Z6, strSliceIndices->Vk, glued->UP
open PySem.Builtin.Tuple renaming tupleHashOf->ZN, tupleExact->JM, tupleItemsOf->Yj
open PySem.Calls renaming spliced_cons->Z0, spliced_nil->ZJ, call_function_entry->Yo, callWith_builtin->Y7, Name_function_global->Vq, evalArgs_plain->Uj
open PySem.Code renaming quiet_builtin->UI
open PySem.F renaming called_set->ZG, plainAttrs_list->Jv, slot_tuple_iterator_next->J4, plainAttrs_str->JQ, slot_dict_keyiterator_next->JZ, slot_enumerate_next->Yb, slot_tuple_hash->Yg, args_tuple_add_2->Yq, entry_tuple_add->Y1, slot_tuple_add->Y6, args_tuple_iterator_next_1->Va, slot_zip_next->Vb, slot_dict_setdefault->Vc, plain_extend_loop->Vh, entry_tuple_iterator_next->Vp, args_enumerate_next_1->VM, entry_enumerate_next->VU, slot_str_join->Ua, type_str_join->Ub, slot_list_pop->Ud, type_list_pop->Ue, args_list_init_2->UF, typeCall_list_1->UR, entry_list_init->US, entry_type_call->UU, plain_list_iadd->UW, args_zip_next_1->Gj, entry_list_pop->Gq, typeCall_set_1->Gs, entry_set_init->Gu, entry_zip_next->Gx, slot_dict_iter->Gz
open PySem.Heap renaming get?_push_of_some->Qe, get?_push_size->Qm, lt_size->Qt, size_push->QU, SameBut->Zk, get?_update_self->Zo, get?_update_ne->Z5, get?_update_other->ZF, size_update->ZY, get?_push_ne->JJ, IsTuple->VS, ExtBut->Us, IsList->G9
open PySem.Heap.SameBut renaming update->Jg
open PySem.ItemsOf renaming nil->G6
open PySem.NameKind renaming free->Zw, cell->Z1
open PySem.Obj renaming mapSeq->QF, data_mapFields->Y0, isFreed_of_fields->Uh, data_mapDictKeys->Ut, putSet->UH, cls_mapFields->Gi
open PySem.Paired renaming length->U3, snoc->Ti
open PySem.PassesOwn renaming never->VY
open PySem.PyData renaming canLayAll0->Qz, eqv->QC, depth->QO, depthAll->Zq, strOk->Zu, canLay0->Z9, leavesShort->Jm, eqvAll->Jp, showable->Jy, leavesShortAll->J5, showableAll->JS, none->Y3, int->YN, tuple->Vo, bulkAll->Vt, bulk->Um, shown_int->Gr, list->G5, shownAll->GB
open PySem.PyData.str renaming inj->GQ
open PySem.PyData.tuple renaming injEq->UM, inj->Gy
open PySem.SeqAt renaming eqBoolOverData->YX
open PySem.SeqAt.ReadsAll renaming length->Ug
open PySem.SetFound renaming there->Vy
open PySem.SetTable renaming grown->Jf, below->Yl, advance->YQ, fits->U6, slot->U7, relaid->GC, laid->Ta, fill->Tb
open PySem.SetTable.below renaming go->V7
open PySem.Shared renaming heap->Ym, TypeIs->Ys
open PySem.Str renaming ofString->QS, empty->Jw, length->U9
open PySem.Txt renaming endswith->VT, join->GL, find3->Tf
open PySem.Value renaming ref->QN, type->Zp, none->ZP, bool->JP, isStrOf->Ya, isStrOf_shape->Vd, str->Ux, int->Gm
open PySem.W renaming Frag->Qa, mg_none_of->QM, nsIn->Zm, fnOf->Jd, keepIn->Yi, cellsFrom_some->Y4, codeIn->Y5, methodObj->V3, OpenLaw->VW, WalkO->GX, mg_of->Td
open PySem.Walks renaming list->GK
open PySem.pickOrder renaming go->UV
open StateT renaming run_pure->GG
open Sum renaming inr->VN, inl->Uw
open True renaming intro->YJ
set_option autoImplicit true
set_option relaxedAutoImplicit true
set_option Elab.async false
set_option linter.all false
set_option maxRecDepth 100000
local macro_rules|`(tactic|lia)=>`(tactic|first|with_reducible(first|assumption|exact Nat.le_refl _|exact Nat.zero_le _|exact Nat.le_of_lt ‹_›|exact Nat.le_succ_of_le ‹_›|exact Nat.lt_succ_of_lt ‹_›|exact Nat.lt_of_succ_lt ‹_›|exact Nat.lt_succ_of_le ‹_›|exact Nat.le_of_lt_succ ‹_›|exact Nat.pos_of_ne_zero ‹_›|exact Nat.ne_of_gt ‹_›|exact Nat.ne_of_lt ‹_›|exact Nat.le_of_not_lt ‹_›|exact Nat.lt_of_not_le ‹_›|exact Nat.succ_pos _|exact Nat.lt_succ_self _|exact Nat.lt_of_lt_of_le ‹_› ‹_›|exact Nat.lt_of_le_of_lt ‹_› ‹_›|exact Nat.le_trans ‹_› ‹_›)|grind -ring -linarith -ac -order -mbtc -ext -funext -funCC -etaStruct (ematch:=0) [-Prod]|cutsat)
local macro_rules|`(tactic|ac_rfl)=>`(tactic|(repeat infer_instance))
namespace L2
open PySem PySem.Spec PyProof.Rows
abbrev Key:=Sum Int Str
def zhf:Key->Tn->Bool
 | .inl k,v=>Value.isInt k v
 | .inr x,v=>Ya x v
def keyH(w:Tt):Key->Int
 | .inl k=>hashInt k
 | .inr x=>N5 w x
theorem zbr:∀{k:Key} {v:Tn},zhf k v=true->(∃i t,k=Uw i/\v=Gm i t)\/(∃x t,k=VN x/\v=Ux x t)
 | .inl i,v,h=>by
   obtain⟨t,e⟩:=Value.isInt_shape (k:=i) (v:=v) h;exact .inl ⟨i,t,rfl,e⟩
 | .inr x,v,h=>by
   obtain⟨t,e⟩:=Vd (x:=x) (v:=v) h;exact .inr ⟨x,t,rfl,e⟩
theorem zvz(i:Int)(t:Tok):zhf (.inl i) (.int i t)=true:=by simp[zhf,Value.isInt]
theorem zvt(x:Str)(t:Tok):zhf (.inr x) (.str x t)=true:=by simp[zhf,Ya]
theorem z5b(a b:Int):decide ((Uw a:Key)=Uw b)=(a == b):=by
 by_cases e:a=b
 .subst e;simp
 .have h:¬(Uw a:Key)=Uw b:=λq=>e (Sum.inl.inj q);rw[jA h];exact(beq_eq_false_iff_ne.mpr e).symm
theorem z4k(a b:Str):decide ((VN a:Key)=VN b)=decide (a=b):=by
 by_cases e:a=b
 .subst e;simp
 .have h:¬(VN a:Key)=VN b:=λq=>e (Sum.inr.inj q);rw[jA h,jA e]
theorem z2s(a:Int)(b:Str):decide ((Uw a:Key)=VN b)=false:=jA (λq=>nomatch q)
theorem z4m(a:Str)(b:Int):decide ((VN a:Key)=Uw b)=false:=jA (λq=>nomatch q)
def zbq(prog:Tr)(w:Tt):PySem.KeyKind prog w Key where
 is:=zhf
 hash:=keyH w
 inj:=λv a b ha hb=>by
  rcases zbr ha with ⟨i,t,rfl,rfl⟩|⟨x,t,rfl,rfl⟩
  .rcases zbr hb with ⟨j,u,rfl,e⟩|⟨y,u,rfl,e⟩
   .injection e with e1 _;rw[e1]
   .exact nomatch e
  .rcases zbr hb with ⟨j,u,rfl,e⟩|⟨y,u,rfl,e⟩
   .exact nomatch e
   .injection e with e1 _;rw[e1]
 byValue:=λk v h=>by
  rcases zbr h with ⟨i,t,rfl,rfl⟩|⟨x,t,rfl,rfl⟩ <;> rfl
 pyHash:=λhv h=>by
  rcases zbr hv with ⟨i,t,rfl,rfl⟩|⟨x,t,rfl,rfl⟩
  .exact Nv h
  .exact Nw h
 eqBool:=λhu hv h=>by
  rcases zbr hu with ⟨i,t,rfl,rfl⟩|⟨x,t,rfl,rfl⟩
  .rcases zbr hv with ⟨j,u,rfl,rfl⟩|⟨y,u,rfl,rfl⟩
   .rw[z5b] at h;exact wpAny_eqBool_int h
   .rw[z2s] at h;exact SeqAt.EqAt.int_str i t y u _ _ _ _ h
  .rcases zbr hv with ⟨j,u,rfl,rfl⟩|⟨y,u,rfl,rfl⟩
   .rw[z4m] at h;exact SeqAt.EqAt.str_int x t j u _ _ _ _ h
   .rw[z4k] at h;exact wpAny_eqBool_str h
 «strs»:=λk x t v h=>by
  rcases zbr h with ⟨i,u,rfl,e⟩|⟨y,u,rfl,e⟩
  .exact nomatch e
  .injection e with e1 _;subst e1;cases v <;> rfl
theorem zos(prog:Tr)(w:Tt)(i:Int)(t:Tok):(zbq prog w).is (.inl i) (.int i t)=true:=zvz i t
theorem zol(prog:Tr)(w:Tt)(x:Str)(t:Tok):(zbq prog w).is (.inr x) (.str x t)=true:=zvt x t
inductive V where
 | non|bl (b:Bool)|int (i:Int)|str (x:Str)|byt (b:Array UInt8)|flt (b:UInt64)|ref (a:Addr)|ty (n:String)
 deriving DecidableEq
def RelV:V->Tn->Prop
 | .non,u=>u=ZP
 | .bl b,u=>u=JP b
 | .int i,u=>∃t,u=Gm i t
 | .str x,u=>∃t,u=Ux x t
 | .byt b,u=>∃t,u=Value.bytes b t
 | .flt b,u=>∃t,u=Value.float b t
 | .ref a,u=>u=QN a
 | .ty n,u=>u=Zp n
abbrev Vals:List V->List Tn->Prop:=jo RelV
theorem Vals.length(r:Vals xs us):xs.length=us.length:=U3 r
theorem Vals.get:∀{xs:List V} {us:List Tn} {i:Nat} {x:V},Vals xs us->xs[i]? = some x->∃u,us[i]? = some u/\RelV x u
 | _,_,_,_,.nil,e=>by simp at e
 | _,_,0,_,.cons r _,e=>by simp at e;subst e;exact⟨_,rfl,r⟩
 | _,_,i+1,x,.cons _ t,e=>by
   obtain⟨u,h1,h2⟩:=Vals.get (i:=i) (x:=x) t (by simpa using e);exact⟨u,by simpa using h1,h2⟩
theorem Vals.set(r:RelV x u):∀{xs:List V} {us:List Tn} (i:Nat),Vals xs us->Vals (xs.set i x) (us.set i u)
 | _,_,_,.nil=>.nil
 | _,_,0,.cons _ t=>.cons r t
 | _,_,i+1,.cons q t=>.cons q (Vals.set r i t)
theorem Vals.append:∀{xs ys:List V} {us ws:List Tn},Vals xs us->Vals ys ws->Vals (xs++ys) (us++ws)
 | _,_,_,_,.nil,s=>s
 | _,_,_,_,.cons r t,s=>.cons r (Vals.append t s)
theorem Vals.take:∀{xs:List V} {us:List Tn} (n:Nat),Vals xs us->Vals (xs.take n) (us.take n)
 | _,_,0,_=>.nil
 | _,_,_+1,.nil=>.nil
 | _,_,n+1,.cons r t=>.cons r (Vals.take n t)
theorem Vals.drop:∀{xs:List V} {us:List Tn} (n:Nat),Vals xs us->Vals (xs.drop n) (us.drop n)
 | _,_,0,r=>r
 | _,_,_+1,.nil=>.nil
 | _,_,n+1,.cons _ t=>Vals.drop n t
def RelO:Option V->Option Tn->Prop
 | some v,some u=>RelV v u
 | none,none=>True
 | _,_=>False
def KV{κ:Type}:List (κ×V)->List (κ×Tn)->Prop:=jo λ(p:κ×V) (q:κ×Tn)=>p.1=q.1/\RelV p.2 q.2
def kV:Key->V
 | .inl i=>.int i
 | .inr x=>.str x
inductive HO where
 | lst (xs:List V)
 | tup (xs:List V)
 | dK (kvs:List (Key×V))|dT (kvs:List (List Key×V))
 | set (S:Int->Bool) (n:Nat)
 | ins (C dx:Addr) (fs:List (Str×V))
 | own (x:Addr)
 | xd (fs:List (Str×V))
 | met (f x:Addr)
 | rng (lo hi:Int)
 | frz (o:Obj) (u:HO)
 | tbl (ps:Array Tn)
 | ext (φ:Heap->Prop)
abbrev Hp:=Addr->Option HO
def upd(H:Hp)(a:Addr)(o:HO):Hp:=λb=>if b=a then some o else H b
theorem zak: upd H a o a=some o:=by unfold upd;rw[j7 rfl]
theorem zae(h:b≠a):upd H a o b=H b:=by unfold upd;rw[j8 h]
theorem z6r{H:Hp}{a b:Addr}{o u:HO}(h:H a=some o)(h':H b=some u)(d:o≠u):a≠b:=by
 intro e;subst e;rw[h] at h';exact d (Zi h')
theorem zcb{H:Hp}{a b:Addr}{o:HO}(h:H a=some o)(h':H b=none):a≠b:=by
 intro e;subst e;rw[h] at h';cases h'
section
variable (P:Tr)(w:Tt)
def ObjOk(H:Hp)(h:Heap)(a:Addr):HO->Prop
 | .lst xs=>xs.length<=sizeLine/\∃(its:List Tn) (n:Nat),Vals xs its/\h.get? a=some { cls:=.type "list",data:=.seq its.toArray n }
 | .tup xs=>xs.length<=sizeLine/\∃its:List Tn,Vals xs its/\IsTup h a its.toArray
 | .dK kvs=>kvs.length<=sizeLine/\(a == Mc)=false/\∃vs,KV kvs vs/\h.DictOf (zbq P w) a vs
 | .dT kvs=>kvs.length<=sizeLine/\(a == Mc)=false/\∃xs:List (List Key×Addr×Tn),
  jo (λ(p:List Key×V) (q:List Key×Addr×Tn)=>p.1=q.1/\H q.2.1=some (.tup (p.1.map kV))/\RelV p.2 q.2.2) kvs xs /\
  ∃o es ep,h.get? a=some o/\o.ExactDict/\o.data = .dict es ep/\es.toList=xs.map (entryOfKey (tupleKind (zbq P w)))/\(xs.map (·.1)).Nodup
 | .set S n=>h.SetOf (intKind P w) a S n
 | .ins C dx fs=>H dx=some (.own a)/\fs.length<=1000/\dx≠a/\h.get? a=some (PySem.W.instObj C dx) /\
  ∃mA,h.Ns1 dx mA/\(∀f,RelO (fs.lookup f) (mA f))/\PySem.Within mA (fs.map (·.1))
 | .own _=>∃o,h.get? a=some o
 | .xd fs=>∃mA,h.Ns1 a mA/\∀f,RelO (fs.lookup f) (mA f)
 | .rng lo hi=>∃t u v,h.get? a=some { cls:=.type "range",data:=.fields #[.int lo t,.int hi u,.int 1 v] }
 | .frz o u=>h.get? a=some o/\ObjOk H h a u
 | .tbl ps=>h.get? a=some { cls:=.none,data:=.fields ps }
 | .met f x=>h.get? a=some (V3 (.ref f) (.ref x))
 | .ext φ=>φ h/\(∃o,h.get? a=some o)/\∀h1 h2:Heap,φ h1->(∀o,h1.get? a=some o->h2.get? a=some o)->φ h2
def HOk(H:Hp)(h:Heap):Prop:=∀a o,H a=some o->ObjOk P w H h a o
end
section
variable {P:Tr}{w:Tt}{H H':Hp}{h h':Heap}{a:Addr}{o:HO}
theorem ObjOk.lt(x:ObjOk P w H h a o):a<h.objs.size:=by
 cases o with
 | lst xs=>obtain⟨_,_,_,_,e⟩:=x;exact Qt e
 | tup xs=>obtain⟨_,_,_,p⟩:=x;exact p.lt
 | dK kvs=>obtain⟨_,_,_,_,o,_,_,e,_⟩:=x;exact Qt e
 | dT kvs=>obtain⟨_,_,_,_,o,_,_,e,_⟩:=x;exact Qt e
 | set S n=>obtain⟨o,_,_,_,e,_⟩:=x;exact Qt e
 | ins C dx fs=>obtain⟨_,_,_,e,_⟩:=x;exact Qt e
 | own y=>obtain⟨_,e⟩:=x;exact Qt e
 | xd fs=>obtain⟨_,⟨_,_,_,e,_⟩,_⟩:=x;exact Qt e
 | rng lo hi=>obtain⟨_,_,_,e⟩:=x;exact Qt e
 | frz ob u=>obtain⟨e,_⟩:=x;exact Qt e
 | tbl ps=>exact Qt (show h.get? a=some _ from x)
 | met f y=>exact Qt (show h.get? a=some _ from x)
 | ext φ=>obtain⟨_,⟨_,e⟩,_⟩:=x;exact Qt e
theorem Paired.mapP{α β:Type}{F G:α->β->Prop}:∀{l₁:List α} {l₂:List β},jo F l₁ l₂->(∀a b,F a b->G a b)->jo G l₁ l₂
 | _,_,.nil,_=>.nil
 | _,_,.cons r t,f=>.cons (f _ _ r) (Paired.mapP t f)
theorem ObjOk.stay(x:ObjOk P w H h a o)(k:∀b u,(b=a\/H b=some (.own a))->h.get? b=some u->h'.get? b=some u)
 (ho:∀b,H b=some (.own a)->H' b=some (.own a)) (ht:∀b xs,H b=some (.tup xs)->H' b=some (.tup xs)):ObjOk P w H' h' a o:=by
 induction o with
 | lst xs=>obtain⟨z,its,n,r,e⟩:=x;exact⟨z,its,n,r,k _ _ (.inl rfl) e⟩
 | tup xs=>obtain⟨z,its,r,ob,e,c⟩:=x;exact⟨z,its,r,ob,k _ _ (.inl rfl) e,c⟩
 | dK kvs=>obtain⟨z,y,vs,r,ob,es,ep,e,c⟩:=x;exact⟨z,y,vs,r,ob,es,ep,k _ _ (.inl rfl) e,c⟩
 | dT kvs=>
   obtain⟨z,y,xs,r,ob,es,ep,e,c⟩:=x;exact⟨z,y,xs,Paired.mapP r λp q z=>⟨z.1,ht _ _ z.2.1,z.2.2⟩,ob,es,ep,k _ _ (.inl rfl) e,c⟩
 | set S n=>obtain⟨ob,es,ep,t,e,c⟩:=x;exact⟨ob,es,ep,t,k _ _ (.inl rfl) e,c⟩
 | ins C dx fs=>
   obtain⟨d,z,ne,e,mA,⟨od,es,ep,e2,c⟩,r⟩:=x;exact⟨ho _ d,z,ne,k _ _ (.inl rfl) e,mA,⟨od,es,ep,k _ _ (.inr d) e2,c⟩,r⟩
 | own y=>obtain⟨ob,e⟩:=x;exact⟨ob,k _ _ (.inl rfl) e⟩
 | xd fs=>obtain⟨mA,⟨od,es,ep,e,c⟩,r⟩:=x;exact⟨mA,⟨od,es,ep,k _ _ (.inl rfl) e,c⟩,r⟩
 | rng lo hi=>obtain⟨t,u,v,e⟩:=x;exact⟨t,u,v,k _ _ (.inl rfl) e⟩
 | frz ob u ih=>obtain⟨e,q⟩:=x;exact⟨k _ _ (.inl rfl) e,ih q⟩
 | tbl ps=>
   have e:h.get? a=some { cls:=.none,data:=.fields ps }:=x;show h'.get? a=some { cls:=.none,data:=.fields ps };exact k a _ (.inl rfl) e
 | met f y=>
   have e:h.get? a=some (V3 (.ref f) (.ref y)):=x;show h'.get? a=some (V3 (.ref f) (.ref y));exact k a _ (.inl rfl) e
 | ext φ=>obtain⟨p,⟨o,e⟩,st⟩:=x;exact⟨st _ _ p λo q=>k _ _ (.inl rfl) q,⟨o,k _ _ (.inl rfl) e⟩,st⟩
theorem HOk.lt(x:HOk P w H h)(e:H a=some o):a<h.objs.size:=(x a o e).lt
theorem HOk.fresh(x:HOk P w H h)(e:h.objs.size<=a):H a=none:=by
 cases q:H a with
 | none=>rfl
 | some u=>exact absurd (QL (x.lt q) e) (Zj _)
theorem HOk.kept(x:HOk P w H h)(k:∀b u,h.get? b=some u->h'.get? b=some u):HOk P w H h':=λa o e=>
 (x a o e).stay (λb u _ q=>k b u q) (λ_ q=>q) λ_ _ q=>q
theorem HOk.laid(x:HOk P w H h)(k:∀b u,h.get? b=some u->h'.get? b=some u)(hp:h.objs.size<=a)(new:ObjOk P w (upd H a o) h' a o):HOk P w (upd H a o) h':=λb u e=>by
 have hn:=x.fresh hp
 by_cases hb:b=a
 .subst hb;rw[zak] at e;cases e;exact new
 .rw[zae hb] at e;exact(x b u e).stay (λc v _ q=>k c v q) (λc q=>by rw[zae (zcb q hn)];exact q) λc xs q=>by rw[zae (zcb q hn)];exact q
end
def Rd(H:Hp)(a:Addr)(u:HO):Prop:=H a=some u\/∃o,H a=some (.frz o u)
theorem Rd.ok{w:Tt}(r:Rd H a u)(x:HOk P w H h):ObjOk P w H h a u:=by
 rcases r with r|⟨o,r⟩
 .exact x a u r
 .obtain⟨_,q⟩:=x a _ r;exact q
def Mut:Option HO->Prop
 | some (.lst _)=>True
 | some (.dK _)=>True
 | some (.dT _)=>True
 | some (.set _ _)=>True
 | some (.ins _ _ _)=>True
 | some (.ext _)=>True
 | _=>False
section
variable {P:Tr}{w:Tt}{H:Hp}{h h':Heap}{x e:Addr}{o':HO}
theorem HOk.write(ok:HOk P w H h)(mu:Mut (H x))(he:e=x\/H e=some (.own x))(k:∀b u,b≠e->h.get? b=some u->h'.get? b=some u)(heo:∃u,h'.get? e=some u)
 (new:ObjOk P w (upd H x o') h' x o'):HOk P w (upd H x o') h':=λb u q=>by
 have nown:∀c y,H c=some (.own y)->c≠x:=λc y r z=>by subst z;rw[r] at mu;exact mu
 have ntup:∀c xs,H c=some (.tup xs)->c≠x:=λc xs r z=>by subst z;rw[r] at mu;exact mu
 by_cases hb:b=x
 .subst hb;rw[zak] at q;cases q;exact new
 .rw[zae hb] at q
  by_cases hbe:b=e
  .have q':H b=some (.own x):=by
    rcases he with z|z
    .exact absurd (hbe.trans z) hb
    .rw[hbe];exact z
   rw[q] at q';cases q';obtain⟨v,hv⟩:=heo;exact⟨v,by rw[hbe];exact hv⟩
  .refine(ok b u q).stay (λc v hc r=>k c v ?_ r) (λc r=>by rw[zae (nown c b r)];exact r) λc xs r=>by rw[zae (ntup c xs r)];exact r
   rcases hc with rfl|hc
   .exact hbe
   .rintro rfl;rcases he with z|z
    .exact nown c b hc z
    .rw[hc] at z;cases z;exact hb rfl
end
structure Un(fs ex:List Addr)(H H':Hp)(h h':Heap):Prop where
 keep:∀b o,h.get? b=some o->H b=none->b ∉ fs->b ∉ ex->h'.get? b=some o
 slot:∀b o,h.get? b=some o->H b=none->b∈fs->b ∉ ex->∃sl,h'.get? b=some { o with slots:=sl }
 free:∀b o,h.get? b=some o->H b=none->b ∉ ex->H' b=none
 there:∀b o,h.get? b=some o->b ∉ ex->∃o',h'.get? b=some o'
 tups:∀b xs,H b=some (.tup xs)->H' b=some (.tup xs)
 frzs:∀b o u,H b=some (.frz o u)->H' b=some (.frz o u)
 tbls:∀b ps,H b=some (.tbl ps)->∃more,H' b=some (.tbl (ps++more))
section
variable {fs fs' ex ex':List Addr}{H H1 H2:Hp}{h h1 h2 h':Heap}{a x e:Addr}{o:HO}
theorem Un.any(u:Un fs ex H H1 h h1)(q:h.get? b=some ob)(n:H b=none)(hx:b ∉ ex):∃sl,h1.get? b=some { ob with slots:=sl }:=by
 by_cases hb:b∈fs
 .exact u.slot b ob q n hb hx
 .exact⟨ob.slots,u.keep b ob q n hb hx⟩
theorem Un.kept(k:∀b u,h.get? b=some u->h'.get? b=some u):Un fs ex H H h h' :=
 ⟨λb ob q _ _ _=>k b ob q,λb ob q _ _ _=>⟨ob.slots,k b ob q⟩,λ_ _ _ n _=>n,λb ob q _=>⟨ob,k b ob q⟩,λ_ _ q=>q,λ_ _ _ q=>q,λ_ ps q=>⟨#[],by rw[q];simp⟩⟩
theorem Un.refl:Un fs ex H H h h:=Un.kept λ_ _ q=>q
theorem Un.laid(k:∀b u,h.get? b=some u->h'.get? b=some u)(hp:h.objs.size<=a)(hn:H a=none):Un fs ex H (upd H a o) h h' where
 keep:=λb u q _ _ _=>k b u q
 slot:=λb u q _ _ _=>⟨u.slots,k b u q⟩
 free:=λb u q n _=>by rw[zae (Q2 (QL (Qt q) hp))];exact n
 there:=λb u q _=>⟨u,k b u q⟩
 tups:=λb xs q=>by rw[zae (zcb q hn)];exact q
 frzs:=λb u xs q=>by rw[zae (zcb q hn)];exact q
 tbls:=λb ps q=>⟨#[],by rw[zae (zcb q hn),q];simp⟩
theorem Un.write(mu:Mut (H x))(he:e=x\/H e=some (.own x))(k:∀b u,b≠e->h.get? b=some u->h'.get? b=some u)(heo:∃u,h'.get? e=some u):Un fs ex H (upd H x o) h h':=by
 have hx:∀b,H b=none->b≠x:=λb n z=>by subst z;rw[n] at mu;exact mu
 have hb:∀b,H b=none->b≠e:=λb n z=>by
  subst z;rcases he with r|r
  .exact hx b n r
  .rw[n] at r;cases r
 have hm:∀b u,H b=some u->¬Mut (some u)->b≠x:=λb u q nm z=>by subst z;rw[q] at mu;exact nm mu
 refine⟨λb u q n _ _=>k b u (hb b n) q,λb u q n _ _=>⟨u.slots,k b u (hb b n) q⟩,λb u q n _=>by rw[zae (hx b n)];exact n,λb u q _=>?_,
  λb xs q=>by rw[zae (hm b _ q λz=>z)];exact q,λb u xs q=>by rw[zae (hm b _ q λz=>z)];exact q,λb ps q=>⟨#[],by rw[zae (hm b _ q λz=>z),q];simp⟩⟩
 by_cases hbe:b=e
 .subst hbe;exact heo
 .exact⟨u,k b u hbe q⟩
end
def trk(h:Heap)(H:Hp):List Addr:=(QH h.objs.size).filter λa=>(H a).isSome
def hidT(h:Heap)(H:Hp):Heap:=PySem.W.hideAll h (trk h H)
theorem zu6(h:Heap)(H:Hp):(hidT h H).objs.size=h.objs.size:=PySem.W.hideAll_size _ _
theorem zwy(e:h.get? b=some o)(n:H b=none):(hidT h H).get? b=some o :=
 PySem.W.hideAll_get _ e λhm=>by
  have q:(H b).isSome=true:=(JV.mp hm).2;rw[n] at q;simp at q
theorem zzi(e:(hidT h H).get? b=some o):h.get? b=some o/\H b=none:=by
 have e':h.get? b=some o:=PySem.W.of_hideAll (trk h H) e;refine⟨e',?_⟩
 cases q:H b with
 | none=>rfl
 | some x=>
   have hm:b∈trk h H:=JV.mpr ⟨QJ.mpr (Qt e'),by simp[q]⟩;have z:(hidT h H).get? b=none:=PySem.W.hideAll_none (trk h H) hm;rw[z] at e;cases e
structure Mod(K:Qa)(mg:Str->Option Tn)(base:Heap):Prop where
 kin:K.In base
 glob:base.Ns mainGlobals mg
 blt:∃mb,base.Ns builtinsNs mb/\∀x:Str,x ≠ "__name__" -> mb x=TK x
 nolimit:base.NoLimit
structure Cx where
 prog:Tr
 w:Tt
 K:Qa
 mg:Str->Option Tn
 base:Heap
 A:Tv
 N:List Str
 s₀:To
 H₀:Hp
 env:Env
 outer:List Env
 stack:List Env
 ex:List Addr
 fn:Str->Bool
 calm:Bool
 pn:List (Addr×Obj)
 xe:Tn->To->Prop
def frs(l:List Env):List Addr:=l.filterMap (·.frame)
abbrev Cx.fs(X:Cx):List Addr:=frs X.outer
def Vis(sc:Mn)(x:Str):Prop:=sc.names.lookup x=some .local\/sc.names.lookup x=some .cell\/sc.names.lookup x=some .free
def Loc(sc:Mn)(x:Str):Prop:=sc.names.lookup x=some .local\/sc.names.lookup x=some .cell
def Look(env:Env)(h:Heap)(m:Str->Option Tn)(x:Str)(u:Tn):Prop :=
 (env.kindOf x=some .local/\m x=some u)\/((env.kindOf x=some .cell\/env.kindOf x=some .free)/\∃c,env.cells.lookup x=some c/\h.IsCell c (some u))
structure Cx.Ok(X:Cx):Prop where
 mod:Mod X.K X.mg X.base
 kind:X.env.scope.kind = .function
 glob:X.env.globals=mainGlobals
 blt:X.env.builtins=builtinsNs
 above:X.s₀.heap.objs.size<=X.env.locals
 inj:∀x y c,X.env.cells.lookup x=some c->X.env.cells.lookup y=some c->x=y
 has:∀x,(X.env.kindOf x=some .cell\/X.env.kindOf x=some .free)->∃c,X.env.cells.lookup x=some c
 cab:∀x c,X.fn x=true->X.env.cells.lookup x=some c->X.s₀.heap.objs.size<=c
 hd:X.calm=true->X.A.handled=none
 frames:X.A.frames=some X.stack
 stk:X.stack=X.outer\/(X.stack=X.env::X.outer/\X.env.frame=some X.env.locals)
 exf:∀b∈X.ex,b≠X.env.locals/\∀x c,X.env.cells.lookup x=some c->c≠b
 bs:∀b o,X.base.get? b=some o->X.s₀.heap.get? b=some o/\X.H₀ b=none
 bsz:X.base.objs.size<=X.s₀.heap.objs.size
 noex:∀b o,X.base.get? b=some o->b ∉ X.ex
 exfs:∀b∈X.ex,b ∉ X.fs
 funs:X.s₀.heap.FunFrames X.base X.outer
 frf:∀b∈X.fs,X.H₀ b=none
structure Inv(X:Cx)(pins:List (Addr×Obj))(σ:List (Option V))(H:Hp)(s:To):Prop where
 ok:X.Ok
 os:s.os=X.s₀.os
 bare:Nh s.gens
 base:Un X.fs X.ex X.H₀ H X.s₀.heap s.heap
 loc:∃m,s.heap.Ns X.env.locals m/\∀(i:Nat) (x:Str) (v:V),X.N[i]? = some x->σ[i]? = some (some v)->Vis X.env.scope x->∃u,RelV v u/\Look X.env s.heap m x u
 cell:∀x c,X.env.cells.lookup x=some c->∃v,s.heap.IsCell c v
 free:H X.env.locals=none
 freeC:∀x c,X.env.cells.lookup x=some c->H c=none
 pin:∀p∈X.pn++pins,s.heap.get? p.1=some p.2/\H p.1=none/\p.1≠X.env.locals/\p.1 ∉ X.fs/\∀v,p.2.data≠.cell v
 hok:HOk X.prog X.w H s.heap
 len:σ.length=X.N.length
section
variable {X:Cx}{pins:List (Addr×Obj)}{σ:List (Option V)}{H H':Hp}{s:To}{h':Heap}
theorem Cx.Ok.nofr(ok:X.Ok)(e:X.base.get? b=some o):b ∉ X.fs:=λhb=>by
 have:=(ok.funs.mem hb).1;rw[e] at this;cases this
theorem Inv.bs(I:Inv X pins σ H s):∀b o,X.base.get? b=some o->s.heap.get? b=some o/\H b=none:=λb o e=>
 ⟨I.base.keep b o (I.ok.bs b o e).1 (I.ok.bs b o e).2 (I.ok.nofr e) (I.ok.noex b o e),I.base.free b o (I.ok.bs b o e).1 (I.ok.bs b o e).2 (I.ok.noex b o e)⟩
theorem Inv.bk(I:Inv X pins σ H s):∀b o,X.base.get? b=some o->s.heap.get? b=some o:=λb o e=>(I.bs b o e).1
theorem Inv.mod(I:Inv X pins σ H s):Mod X.K X.mg X.base:=I.ok.mod
theorem Inv.kIn(I:Inv X pins σ H s):X.K.In s.heap:=I.ok.mod.kin.keeps I.bk
theorem Inv.lt(I:Inv X pins σ H s):X.env.locals<s.heap.objs.size:=let ⟨_,hn,_⟩:=I.loc;hn.lt
theorem Inv.sz(I:Inv X pins σ H s):X.s₀.heap.objs.size<=s.heap.objs.size:=QY I.ok.above (JA I.lt)
theorem Inv.nofs(I:Inv X pins σ H s)(h:s.heap.objs.size<=a):a ∉ X.fs:=λhb=>by
 obtain⟨_,o,ho,_⟩:=I.ok.funs.mem hb;exact absurd (QL (Qt ho) (QY I.sz h)) (Zj _)
theorem Inv.cne(I:Inv X pins σ H s):∀x c,X.env.cells.lookup x=some c->c≠X.env.locals:=λx c e z=>by
 obtain⟨v,o,ho,hd⟩:=I.cell x c e;obtain⟨m,⟨o',es,ep,ho',hd',_⟩,_⟩:=I.loc;rw[z,ho'] at ho;cases ho;rw[hd'] at hd;cases hd
theorem Inv.funs(I:Inv X pins σ H s):s.heap.FunFrames X.base X.outer:=by
 have all:∀(l:List Env),(∀b∈frs l,b∈X.fs)->X.s₀.heap.FunFrames X.base l->s.heap.FunFrames X.base l:=by
  intro l
  induction l with
  | nil=>intro _ _;trivial
  | cons env r ih=>
    intro hs hl;obtain⟨hk,⟨L,o,hf,hn,ho,hd⟩,hr⟩:=hl;have hL:L∈X.fs:=hs L (by unfold frs;rw[Ve,hf];exact Qp);obtain⟨sl,e⟩:=I.base.slot L o ho (I.ok.frf L hL) hL λz=>I.ok.exfs L z hL;exact⟨hk,⟨L,_,hf,hn,e,hd⟩,ih (λb hb=>hs b (by unfold frs;rw[Ve,hf];exact Qf _ hb)) hr⟩
 exact all X.outer (λ_ hb=>hb) I.ok.funs
theorem Inv.stack(I:Inv X pins σ H s):s.heap.FunFrames X.base X.stack:=by
 rcases I.ok.stk with e|⟨e,hf⟩
 .rw[e];exact I.funs
 .rw[e];obtain⟨m,hn,_⟩:=I.loc;refine .cons (by rw[I.ok.kind];decide) hf hn ?_ I.funs;exact Heap.get?_none_of_le (QY I.ok.bsz I.ok.above)
theorem Inv.stkSub(I:Inv X pins σ H s):∀b∈frs X.stack,b∈X.env.locals::X.fs:=λb hb=>by
 rcases I.ok.stk with e|⟨e,hf⟩
 .rw[e] at hb;exact Qf _ hb
 .rw[e] at hb;unfold frs at hb;rw[Ve,hf] at hb;exact hb
theorem Inv.stkFree(I:Inv X pins σ H s):∀b∈frs X.stack,H b=none:=λb hb=>by
 rcases Qs.mp (I.stkSub b hb) with e|hb
 .rw[e];exact I.free
 .obtain⟨_,o,ho,_⟩:=I.ok.funs.mem hb;exact I.base.free b o ho (I.ok.frf b hb) λz=>I.ok.exfs b z hb
theorem Inv.step{g':Array jg}{t':Nat}{d':Drawn}{ch:List Addr}(I:Inv X pins σ H s)
 (hch:∀b∈ch,(b∈X.ex\/X.s₀.heap.objs.size<=b)/\b≠X.env.locals/\(∀x c,X.env.cells.lookup x=some c->c≠b)/\∀p∈X.pn++pins,p.1≠b)
 (keep:∀b o,b≠X.env.locals->b ∉ X.fs->b ∉ ch->s.heap.get? b=some o->H b=none->h'.get? b=some o)
 (slot:∀b o,b≠X.env.locals->b∈X.fs->b ∉ ch->s.heap.get? b=some o->H b=none->∃sl,h'.get? b=some { o with slots:=sl }) (free:∀b o,b ∉ ch->s.heap.get? b=some o->H b=none->H' b=none)
 (there:∀b o,b ∉ ch->s.heap.get? b=some o->∃o',h'.get? b=some o')
 (tups:∀b xs,H b=some (.tup xs)->H' b=some (.tup xs)) (frzs:∀b o u,H b=some (.frz o u)->H' b=some (.frz o u)) (tbls:∀b ps,H b=some (.tbl ps)->∃more,H' b=some (.tbl (ps++more)))
 (ns:∀m,s.heap.Ns X.env.locals m->h'.Ns X.env.locals m) (hok:HOk X.prog X.w H' h') (hg:Nh g') :
 Inv X pins σ H' { s with heap:=h',gens:=g',drawn:=d',toks:=t' }:=by
 have neL:∀b o,X.s₀.heap.get? b=some o->b≠X.env.locals:=λb o e=>Q2 (QL (Qt e) I.ok.above)
 have neC:∀b o,X.s₀.heap.get? b=some o->b ∉ X.ex->b ∉ ch:=λb o e hx hb=>by
  rcases(hch b hb).1 with z|z
  .exact hx z
  .exact absurd (QL (Qt e) z) (Zj _)
 have cellK:∀x c,X.env.cells.lookup x=some c->∀v,s.heap.IsCell c v->h'.IsCell c v:=λx c e v ⟨o,ho,hd⟩=>by
  have nch:c ∉ ch:=λz=>(hch c z).2.2.1 x c e rfl
  by_cases hc:c∈X.fs
  .obtain⟨sl,q⟩:=slot c o (I.cne x c e) hc nch ho (I.freeC x c e);exact⟨_,q,hd⟩
  .exact⟨o,keep c o (I.cne x c e) hc nch ho (I.freeC x c e),hd⟩
 refine⟨I.ok,I.os,hg,⟨λb o e n hb hx=>?_,λb o e n hb hx=>?_,λb o e n hx=>?_,λb o e hx=>?_,λb xs e=>tups b xs (I.base.tups b xs e),λb o xs e=>frzs b o xs (I.base.frzs b o xs e),λb ps e=>?_⟩,?_,λx c e=>?_,?_,λx c e=>?_,λp hp=>?_,hok,I.len⟩
 .exact keep b o (neL b o e) hb (neC b o e hx) (I.base.keep b o e n hb hx) (I.base.free b o e n hx)
 .obtain⟨sl,e1⟩:=I.base.slot b o e n hb hx;obtain⟨sl',e2⟩:=slot b _ (neL b o e) hb (neC b o e hx) e1 (I.base.free b o e n hx);exact⟨sl',e2⟩
 .obtain⟨o',e1⟩:=I.base.there b o e hx;exact free b o' (neC b o e hx) e1 (I.base.free b o e n hx)
 .obtain⟨o',e1⟩:=I.base.there b o e hx;exact there b o' (neC b o e hx) e1
 .obtain⟨m1,e1⟩:=I.base.tbls b ps e;obtain⟨m2,e2⟩:=tbls b _ e1;exact⟨m1++m2,by rw[e2,Array.append_assoc]⟩
 .obtain⟨m,hn,hl⟩:=I.loc;refine⟨m,ns m hn,λi x v e1 e2 e3=>?_⟩;obtain⟨u,r,l⟩:=hl i x v e1 e2 e3;refine⟨u,r,?_⟩;rcases l with l|⟨k,c,e,z⟩
  .exact .inl l
  .exact .inr ⟨k,c,e,cellK x c e _ z⟩
 .obtain⟨v,z⟩:=I.cell x c e;exact⟨v,cellK x c e v z⟩
 .obtain⟨m,⟨o,_,_,ho,_⟩,_⟩:=I.loc;exact free _ o (λz=>(hch _ z).2.1 rfl) ho I.free
 .obtain⟨v,o,ho,hd⟩:=I.cell x c e;exact free c o (λz=>(hch c z).2.2.1 x c e rfl) ho (I.freeC x c e)
 .obtain⟨e,n,ne,nf,d⟩:=I.pin p hp;have nch:p.1 ∉ ch:=λz=>(hch p.1 z).2.2.2 p hp rfl;exact⟨keep p.1 p.2 ne nf nch e n,free p.1 p.2 nch e n,ne,nf,d⟩
theorem Inv.un{t':Nat}(I:Inv X pins σ H s)(u:Un X.fs [] H H' s.heap h')(hok:HOk X.prog X.w H' h'):Inv X pins σ H' { s with heap:=h',toks:=t' }:=by
 obtain⟨m,⟨o,es,ep,ho,r⟩,_⟩:=id I.loc;obtain⟨sl,hL⟩:=u.any ho I.free (by simp)
 exact I.step (g':=s.gens) (d':=s.drawn) (ch:=[]) (λ_ z=>nomatch z) (λb o _ hb _ e n=>u.keep b o e n hb (by simp)) (λb o _ hb _ e n=>u.slot b o e n hb (by simp)) (λb o _ e n=>u.free b o e n (by simp)) (λb o _ e=>u.there b o e (by simp)) u.tups u.frzs u.tbls (λm' hm=>by
  obtain⟨o',es',ep',ho',r'⟩:=hm;rw[ho] at ho';cases ho'
  exact⟨_,es',ep',hL,r'⟩) hok I.bare
theorem Inv.call{t':Nat}(I:Inv X pins σ H s)(u:Un (frs X.stack) ch H H' s.heap h')(hok:HOk X.prog X.w H' h')(hg:Nh g')
 (hch:∀b∈ch,(b∈X.ex\/X.s₀.heap.objs.size<=b)/\b≠X.env.locals/\(∀x c,X.env.cells.lookup x=some c->c≠b)/\∀p∈X.pn++pins,p.1≠b) :
 Inv X pins σ H' { s with heap:=h',gens:=g',drawn:=d',toks:=t' }:=by
 obtain⟨m,⟨o,es,ep,ho,r⟩,_⟩:=id I.loc;obtain⟨sl,hL⟩:=u.any ho I.free λz=>(hch _ z).2.1 rfl
 exact I.step (ch:=ch) hch (λb o hL hb hc e n=>u.keep b o e n (λz=>(Qs.mp (I.stkSub b z)).elim hL hb) hc) (λb o _ _ hc e n=>u.any e n hc) (λb o hc e n=>u.free b o e n hc) (λb o hc e=>u.there b o e hc) u.tups u.frzs u.tbls (λm' hm=>by
  obtain⟨o',es',ep',ho',r'⟩:=hm;rw[ho] at ho';cases ho'
  exact⟨_,es',ep',hL,r'⟩) hok hg
theorem Inv.turned{t':Nat}(I:Inv X pins σ H s)(k:∀b o,b≠it->s.heap.get? b=some o->h'.get? b=some o)(hn:H it=none)(hL:it≠X.env.locals)
 (h1:it∈X.ex\/X.s₀.heap.objs.size<=it) (h2:∀x c,X.env.cells.lookup x=some c->c≠it) (h3:∀p∈X.pn++pins,p.1≠it):Inv X pins σ H { s with heap:=h',toks:=t' }:=by
 have nit:∀b u,H b=some u->b≠it:=λb u e z=>by rw[z,hn] at e;cases e
 refine I.step (g':=s.gens) (d':=s.drawn) (ch:=[it]) (λb hb=>?_) (λb o _ _ hc e _=>k b o (λz=>hc (by simp[z])) e) (λb o _ _ hc e _=>⟨o.slots,k b o (λz=>hc (by simp[z])) e⟩) (λ_ _ _ _ n=>n)
  (λb o hc e=>⟨o,k b o (λz=>hc (by simp[z])) e⟩) (λ_ _ e=>e) (λ_ _ _ e=>e) (λb ps e=>⟨#[],by rw[e];simp⟩) (λm hm=>?_) (λb u e=>?_) I.bare
 .have e:b=it:=by simpa using hb
  subst e;exact⟨h1,hL,h2,h3⟩
 .obtain⟨o,es,ep,ho,r⟩:=hm;exact⟨o,es,ep,k _ o (ZA hL) ho,r⟩
 .refine(I.hok b u e).stay (λc v hc q=>k c v ?_ q) (λ_ q=>q) λ_ _ q=>q;rcases hc with z|z
  .rw[z];exact nit b u e
  .exact nit c _ z
theorem Inv.tok(I:Inv X pins σ H s)(t:Nat):Inv X pins σ H { s with toks:=t }:=I.un (h':=s.heap) (t':=t) Un.refl I.hok
theorem Inv.kept{t':Nat}(I:Inv X pins σ H s)(k:∀b u,s.heap.get? b=some u->h'.get? b=some u):Inv X pins σ H { s with heap:=h',toks:=t' }:=I.un (Un.kept k) (I.hok.kept k)
theorem Inv.laid{t':Nat}(I:Inv X pins σ H s)(k:∀b u,s.heap.get? b=some u->h'.get? b=some u)(hp:s.heap.objs.size<=a)(new:ObjOk X.prog X.w (upd H a o) h' a o):
 Inv X pins σ (upd H a o) { s with heap:=h',toks:=t' }:=I.un (Un.laid k hp (I.hok.fresh hp)) (I.hok.laid k hp new)
theorem Inv.write{t':Nat}(I:Inv X pins σ H s)(mu:Mut (H x))(he:e=x\/H e=some (.own x))(k:∀b u,b≠e->s.heap.get? b=some u->h'.get? b=some u)(heo:∃u,h'.get? e=some u)
 (new:ObjOk X.prog X.w (upd H x o) h' x o):Inv X pins σ (upd H x o) { s with heap:=h',toks:=t' }:=I.un (Un.write mu he k heo) (I.hok.write mu he k heo new)
theorem Inv.weak(I:Inv X pins σ H s)(hl:σ'.length=σ.length)(w:∀(i:Nat) v,σ'[i]? = some (some v)->σ[i]? = some (some v)):Inv X pins σ' H s :=
 ⟨I.ok,I.os,I.bare,I.base,let ⟨m,hn,hl'⟩:=I.loc;⟨m,hn,λi x v e1 e2 e3=>hl' i x v e1 (w i v e2) e3⟩,I.cell,I.free,I.freeC,I.pin,I.hok,hl.trans I.len⟩
theorem Inv.pins_of{pins':List (Addr×Obj)}(I:Inv X pins σ H s)(h:∀p∈pins',s.heap.get? p.1=some p.2/\H p.1=none/\p.1≠X.env.locals/\p.1 ∉ X.fs/\∀v,p.2.data≠.cell v):Inv X pins' σ H s :=
 ⟨I.ok,I.os,I.bare,I.base,I.loc,I.cell,I.free,I.freeC,λp hp=>(Qv.mp hp).elim (λz=>I.pin p (QR _ z)) (h p),I.hok,I.len⟩
theorem zmx{N:List Str}(hN:N.Nodup){i j:Nat}{x:Str}(a:N[i]? = some x)(b:N[j]? = some x):i=j:=by
 obtain⟨h1,e1⟩:=Qi.mp a;obtain⟨h2,e2⟩:=Qi.mp b;exact(Gn hN).mp (e1.trans e2.symm)
theorem zlj{i:Nat}(I:Inv X pins σ H s)(hN:X.N.Nodup)(hi:X.N[i]? = some x)(hx:Loc X.env.scope x)(r:RelV v u)
 (h:∀s',Inv X pins (σ.set i (some v)) H s'->(∃a,Zk a s.heap s'.heap/\(a=X.env.locals\/X.env.cells.lookup x=some a))->Q () s') (hf:X.fn x=true\/X.env.scope.names.lookup x=some .local:=by first|exact .inl rfl|exact .inr rfl|assumption):wpAny M A (storeName X.env x u) Q E s:=by
 obtain⟨m,hn,hl⟩:=id I.loc;have hcls:(X.env.scope.kind == .class || (X.env.scope.kind == .module && X.env.locals != X.env.globals))=false:=by rw[I.ok.kind];rfl
 have hiσ:i<σ.length:=by rw[I.len];exact(Qi.mp hi).1
 have cne:=I.cne
 have tracked:∀{a:Addr} {h':Heap},(∃o,s.heap.get? a=some o/\H a=none)->Zk a s.heap h'->HOk X.prog X.w H h':=λ{a h'} ha hs b ob e=>by
  obtain⟨_,_,hfree⟩:=ha;refine(I.hok b ob e).stay (λc w' hc q=>(hs.2 c ?_).trans q) (λ_ q=>q) λ_ _ q=>q;rintro rfl;rcases hc with rfl|hc
  .rw[hfree] at e;cases e
  .rw[hfree] at hc;cases hc
 rcases hx with hk|hk
 .refine wpAny_storeName_local hk hn (λh' hn' hs=>?_) hcls;obtain⟨oL,_,_,hoL,_⟩:=id hn;refine h _ ⟨I.ok,I.os,I.bare,⟨λb o e n hb hx=>?_,λb o e n hb hx=>?_,I.base.free,λb o e hx=>?_,I.base.tups,I.base.frzs,I.base.tbls⟩,⟨_,hn',λj y v' e1 e2 e3=>?_⟩,λy c e=>?_,I.free,I.freeC,λp hp=>?_,tracked ⟨oL,hoL,I.free⟩ hs,by simpa using I.len⟩ ⟨_,hs,.inl rfl⟩
  .exact(hs.2 b (Q2 (QL (Qt e) I.ok.above))).trans (I.base.keep b o e n hb hx)
  .obtain⟨sl,e1⟩:=I.base.slot b o e n hb hx;exact⟨sl,(hs.2 b (Q2 (QL (Qt e) I.ok.above))).trans e1⟩
  .obtain⟨o',e1⟩:=I.base.there b o e hx;exact⟨o',(hs.2 b (Q2 (QL (Qt e) I.ok.above))).trans e1⟩
  .by_cases hj:j=i
   .subst hj;rw[hi] at e1;cases e1;rw[Zy hiσ] at e2;cases e2;exact⟨u,r,.inl ⟨hk,by simp⟩⟩
   .rw[ZC (ZA hj)] at e2;obtain⟨u',r',q⟩:=hl j y v' e1 e2 e3;refine⟨u',r',?_⟩;rcases q with ⟨k,e⟩|⟨k,c,e,z⟩
    .refine .inl ⟨k,?_⟩;have:y≠x:=λe=>hj (zmx hN e1 (e ▸ hi));simp[this,e]
    .exact .inr ⟨k,c,e,z.sameBut hs (cne y c e)⟩
  .obtain⟨w',z⟩:=I.cell y c e;exact⟨w',z.sameBut hs (cne y c e)⟩
  .obtain⟨e,n,ne,nf,d⟩:=I.pin p hp;exact⟨(hs.2 p.1 ne).trans e,n,ne,nf,d⟩
 .have hfn:X.fn x=true:=by
   rcases hf with z|z
   .exact z
   .rw[z] at hk;cases hk
  obtain⟨c,hc⟩:=I.ok.has x (.inl hk);obtain⟨w',z⟩:=I.cell x c hc;refine wpAny_storeName_cell I.ok.kind hk hc z (λh' hc' hs=>?_);obtain⟨oc,hoc,hocd⟩:=id z;refine h { s with heap:=h' } ⟨I.ok,I.os,I.bare,⟨λb o e n hb hx=>?_,λb o e n hb hx=>?_,I.base.free,λb o e hx=>?_,I.base.tups,I.base.frzs,I.base.tbls⟩,⟨m,hn.sameBut hs (ZA (cne x c hc)),λj y v' e1 e2 e3=>?_⟩,λy c' e=>?_,I.free,I.freeC,λp hp=>?_,tracked ⟨oc,hoc,I.freeC x c hc⟩ hs,by simpa using I.len⟩ ⟨c,hs,.inr hc⟩
  .exact(hs.2 b (Q2 (QL (Qt e) (I.ok.cab x c hfn hc)))).trans (I.base.keep b o e n hb hx)
  .obtain⟨sl,e1⟩:=I.base.slot b o e n hb hx;exact⟨sl,(hs.2 b (Q2 (QL (Qt e) (I.ok.cab x c hfn hc)))).trans e1⟩
  .obtain⟨o',e1⟩:=I.base.there b o e hx;exact⟨o',(hs.2 b (Q2 (QL (Qt e) (I.ok.cab x c hfn hc)))).trans e1⟩
  .by_cases hj:j=i
   .subst hj;rw[hi] at e1;cases e1;rw[Zy hiσ] at e2;cases e2;exact⟨u,r,.inr ⟨.inl hk,c,hc,hc'⟩⟩
   .rw[ZC (ZA hj)] at e2;obtain⟨u',r',q⟩:=hl j y v' e1 e2 e3;refine⟨u',r',?_⟩;rcases q with q|⟨k,c',e,z'⟩
    .exact .inl q
    .refine .inr ⟨k,c',e,z'.sameBut hs ?_⟩;rintro rfl;exact hj (zmx hN e1 (I.ok.inj _ _ _ e hc ▸ hi))
  .by_cases hcc:c'=c
   .subst hcc;exact⟨_,hc'⟩
   .obtain⟨w2,z2⟩:=I.cell y c' e;exact⟨w2,z2.sameBut hs hcc⟩
  .obtain⟨e,n,ne,nf,d⟩:=I.pin p hp;refine⟨(hs.2 p.1 ?_).trans e,n,ne,nf,d⟩;intro q;rw[q,hoc] at e;have q':oc=p.2:=Zi e;exact d w' (by rw[<- q'];exact hocd)
theorem zfw{i:Nat}(I:Inv X pins σ H s)(hN:X.N.Nodup)(hi:X.N[i]? = some x)(hx:Loc X.env.scope x)(r:RelV v u)
 (h:∀s',Inv X pins (σ.set i (some v)) H s'->Q () s') (hf:X.fn x=true\/X.env.scope.names.lookup x=some .local:=by first|exact .inl rfl|exact .inr rfl|assumption):wpAny M A (storeName X.env x u) Q E s :=
 zlj I hN hi hx r (λs' I' _=>h s' I') hf
theorem Inv.call'(I:Inv X pins σ H s)(ho:s'.os=s.os)(u:Un (frs X.stack) ch H H' s.heap s'.heap)(hok:HOk X.prog X.w H' s'.heap)(hg:Nh s'.gens)
 (hch:∀b∈ch,(b∈X.ex\/X.s₀.heap.objs.size<=b)/\b≠X.env.locals/\(∀x c,X.env.cells.lookup x=some c->c≠b)/\∀p∈X.pn++pins,p.1≠b):Inv X pins σ H' s':=by
 obtain⟨h',g',d',t',o'⟩:=s';have e:o'=s.os:=ho;subst e;exact I.call (g':=g') (t':=t') (d':=d') u hok hg hch
end
abbrev XK:=Tn->Option Addr->Hp->Prop
abbrev St:=List (Option V)
abbrev VK:=V->Hp->Prop
abbrev TE:=St->Hp->VK->Prop
abbrev TT:=St->Hp->(Bool->Hp->Prop)->Prop
abbrev TA:=St->Hp->(List V->Hp->Prop)->Prop
structure Ends where
 nx:St->Hp->Prop
 rt:VK
 bk:St->Hp->Prop:=λ_ _=>False
 ct:St->Hp->Prop:=λ_ _=>False
abbrev TS:=Ends->St->Hp->Prop
def EP(X:Cx)(pins:List (Addr×Obj))(σ:St)(Q:VK)(u:Tn)(s':To):Prop:=∃v H',Inv X pins σ H' s'/\RelV v u/\Q v H'
def TP(X:Cx)(pins:List (Addr×Obj))(σ:St)(Q:Bool->Hp->Prop)(b:Bool)(s':To):Prop:=∃H',Inv X pins σ H' s'/\Q b H'
def AP(X:Cx)(pins:List (Addr×Obj))(σ:St)(Q:List V->Hp->Prop)(us:List Tn)(s':To):Prop:=∃vs H',Inv X pins σ H' s'/\Vals vs us/\Q vs H'
def SP(X:Cx)(pins:List (Addr×Obj))(D:Ends)(f:Flow)(s':To):Prop :=
 match f with
 | .next=>∃σ' H',Inv X pins σ' H' s'/\D.nx σ' H'
 | .brk=>∃σ' H',Inv X pins σ' H' s'/\D.bk σ' H'
 | .cont=>∃σ' H',Inv X pins σ' H' s'/\D.ct σ' H'
 | .ret u=>∃v σ' H',Inv X pins σ' H' s'/\RelV v u/\D.rt v H'
def PE(X:Cx)(e:Expr)(t:TE):Prop :=
 ∀(pins:List (Addr×Obj)) (s:To) (σ:St) (H:Hp) (Q:VK),Inv X pins σ H s->t σ H Q->wpAny (model X.prog X.w) X.A (eval e X.env) (EP X pins σ Q) X.xe s
def PT(X:Cx)(e:Expr)(t:TT):Prop :=
 ∀(pins:List (Addr×Obj)) (s:To) (σ:St) (H:Hp) (Q:Bool->Hp->Prop),Inv X pins σ H s->t σ H Q->wpAny (model X.prog X.w) X.A (isTrue e X.env (eval e X.env)) (TP X pins σ Q) X.xe s
def PW(X:Cx)(e:Expr)(t:TT):Prop :=
 ∀(whole:Sem Tn) (pins:List (Addr×Obj)) (s:To) (σ:St) (H:Hp) (Q:Bool->Hp->Prop),Inv X pins σ H s->t σ H Q->wpAny (model X.prog X.w) X.A (isTrue e X.env whole) (TP X pins σ Q) X.xe s
theorem PW.pt(h:PW X e t):PT X e t:=h _
def PA(X:Cx)(es:List Expr)(t:TA):Prop :=
 ∀(pos:Pos) (pins:List (Addr×Obj)) (s:To) (σ:St) (H:Hp) (Q:List V->Hp->Prop),Inv X pins σ H s->t σ H Q->wpAny (model X.prog X.w) X.A (MY (Mi pos (Tq es X.env))) (AP X pins σ Q) X.xe s
def PS(X:Cx)(st:Stmt)(t:TS):Prop :=
 ∀(pins:List (Addr×Obj)) (s:To) (σ:St) (H:Hp) (D:Ends),Inv X pins σ H s->t D σ H->wpAny (model X.prog X.w) X.A (exec st X.env) (SP X pins D) X.xe s
def PSs(X:Cx)(st:List Stmt)(t:TS):Prop :=
 ∀(pins:List (Addr×Obj)) (s:To) (σ:St) (H:Hp) (D:Ends),Inv X pins σ H s->t D σ H->wpAny (model X.prog X.w) X.A (execs st X.env) (SP X pins D) X.xe s
theorem thn{α:Type}{t:Sem α}{Q Q':α->To->Prop}(h:wpAny M A t Q E s)(hQ:∀a s,Q a s->Q' a s):wpAny M A t Q' E s:=TQ h hQ λ_ _ x=>x
section
variable {X:Cx}
def tVar(i:Nat):TE:=λσ H Q=>∃v,σ[i]? = some (some v)/\Q v H
def tC(v:V):TE:=λ_ H Q=>Q v H
theorem zam{i:Nat}(hN:X.N[i]? = some x)(hv:Vis X.env.scope x)(hd:(x == ("__debug__" : Str))=false:=by decide)(hcd:(x == ("__classdict__" : Str))=false:=by decide):PE X (.Name x pos) (tVar i):=by
 intro pins s σ H Q I h;obtain⟨v,e,h⟩:=h;obtain⟨m,hn,hl⟩:=I.loc;obtain⟨u,r,l⟩:=hl i x v hN e hv;have fin:EP X pins σ Q u s:=⟨v,H,I,r,h⟩;rcases l with ⟨hk,hm⟩|⟨hk,c,hc,hcell⟩
 .exact wpAny_Name (wpAny_loadName_local I.ok.kind hk hn hm fin) hd
 .rcases hk with hk|hk
  .exact wpAny_Name (wpAny_loadName_cell I.ok.kind hk hc hcell fin) hd
  .exact wpAny_Name (wpAny_loadName_free I.ok.kind hk hc hcell fin hcd) hd
theorem za5{i j pos}:PE X (.Constant (.int i) j pos) (tC (.int i)):=λ_ _ _ H _ I h=>wpAny_Constant_int ⟨.int i,H,I.tok _,⟨_,rfl⟩,h⟩
theorem z7e{b j pos}:PE X (.Constant (.bool b) j pos) (tC (.bl b)):=λ_ _ _ H _ I h=>Constant_bool ⟨.bl b,H,I,rfl,h⟩
theorem z4v{j pos}:PE X (.Constant .none j pos) (tC .non):=λ_ _ _ H _ I h=>Constant_none ⟨.non,H,I,rfl,h⟩
theorem zbw{x j pos}:PE X (.Constant (.str x) j pos) (tC (.str x)):=λ_ _ _ H _ I h=>Calls.Constant_str ⟨.str x,H,I.tok _,⟨_,rfl⟩,h⟩
def Gl(X:Cx)(x:Str):Prop:=X.env.kindOf x=some .globalImplicit
theorem zpr{pins:List (Addr×Obj)}(I:Inv X pins σ H s)(hg:Gl X x)(hm:X.mg x=some u)(h:Q u s)
 (hd:(x == ("__debug__" : Str))=false:=by decide):wpAny (model X.prog X.w) X.A (eval (.Name x pos) X.env) Q E s :=
 Vq I.ok.kind hg (Calls.loadGlobal_global (by rw[I.ok.glob];exact I.mod.glob.keeps I.bk) hm h) hd
theorem zcf{pins:List (Addr×Obj)}(I:Inv X pins σ H s)(hg:Gl X x)(hm:X.mg x=none)(hv:TK x=some u)(h:Q u s)
 (hn:x ≠ "__name__" := by decide) (hd:(x == ("__debug__" : Str))=false:=by decide):wpAny (model X.prog X.w) X.A (eval (.Name x pos) X.env) Q E s:=by
 obtain⟨mb,h1,h2⟩:=I.mod.blt;exact Vq I.ok.kind hg (Calls.loadGlobal_builtin (by rw[I.ok.glob];exact I.mod.glob.keeps I.bk) hm (by rw[I.ok.blt];exact h1.keeps I.bk) ((h2 x hn).trans hv) h) hd
variable {a b:Expr}{ta tb:TE}{pos:Pos}
def tB(t:TE):TT:=λσ H Q=>t σ H λx H1=>∃c,x = .bl c/\Q c H1
theorem z4u(h:PE X e t)(he:∀whole,isTrue e X.env whole=(do let v <- whole;standAt e.pos;holding [v] (truthy v)):=by intro _;rfl):PT X e (tB t):=by
 intro pins s σ H Q I hw;refine isTrue_plain (thn (h pins s σ H _ I hw) λv s1 zz=>?_) (he _);obtain⟨x,H1,I1,r1,q1⟩:=zz;obtain⟨d,rfl,q⟩:=q1;cases r1;exact ML ⟨H1,I1,q⟩
variable {tA tB':TT}{rest:List Expr}
def tAnd(t u:TT):TT:=λσ H Q=>t σ H λc H1=>if c=true then u σ H1 Q else Q false H1
def tOr(t u:TT):TT:=λσ H Q=>t σ H λc H1=>if c=true then Q true H1 else u σ H1 Q
def tNot(t:TT):TT:=λσ H Q=>t σ H λc H1=>Q (!c) H1
theorem zpe(ha:PT X a tA):PW X (.BoolOp .And [a] pos) tA:=by
 intro wh pins s σ H Q I h;refine isTrue_and (thn (ha pins s σ H Q I h) λc s1 e=>?_)
 cases c with
 | true=>exact isTrue_and_nil e
 | false=>exact e
theorem z5l(ha:PT X a tA):PW X (.BoolOp .Or [a] pos) tA:=by
 intro wh pins s σ H Q I h;refine isTrue_or (thn (ha pins s σ H Q I h) λc s1 e=>?_)
 cases c with
 | false=>exact isTrue_or_nil e
 | true=>exact e
theorem zvj(ha:PT X a tA)(hb:PW X (.BoolOp .And (b::rest) pos) tB'):PW X (.BoolOp .And (a::b::rest) pos) (tAnd tA tB'):=by
 intro wh pins s σ H Q I h;refine isTrue_and (thn (ha pins s σ H _ I h) λc s1 zz=>?_);obtain⟨H1,I1,q1⟩:=zz
 cases c with
 | true=>exact hb wh pins s1 σ H1 Q I1 q1
 | false=>exact⟨H1,I1,q1⟩
theorem z6m(ha:PT X a tA)(hb:PW X (.BoolOp .Or (b::rest) pos) tB'):PW X (.BoolOp .Or (a::b::rest) pos) (tOr tA tB'):=by
 intro wh pins s σ H Q I h;refine isTrue_or (thn (ha pins s σ H _ I h) λc s1 zz=>?_);obtain⟨H1,I1,q1⟩:=zz
 cases c with
 | true=>exact⟨H1,I1,q1⟩
 | false=>exact hb wh pins s1 σ H1 Q I1 q1
theorem z5n(ha:PT X a tA):PT X (.UnaryOp .Not a pos) (tNot tA):=by
 intro pins s σ H Q I h;exact isTrue_not (ha pins s σ H (λc H1=>Q (!c) H1) I h)
def tIf(t:TT)(ta tb:TE):TE:=λσ H Q=>t σ H λc H1=>if c=true then ta σ H1 Q else tb σ H1 Q
theorem zw4(hc:PT X c tA)(ha:PE X a ta)(hb:PE X b tb):PE X (.IfExp c a b pos) (tIf tA ta tb):=by
 intro pins s σ H Q I h;refine wpAny_IfExp (thn (hc pins s σ H _ I h) λd s1 zz=>?_);obtain⟨H1,I1,q1⟩:=zz
 cases d with
 | true=>exact ha pins s1 σ H1 Q I1 q1
 | false=>exact hb pins s1 σ H1 Q I1 q1
end
def SqL(K:Qa)(H:Hp)(a:Addr)(xs:List V):Prop :=
 Rd H a (.lst xs) \/
  ∃(o:Obj) (its:Array Tn) (n:Nat),K.lookup a=some o/\o.cls = .type "list" /\ o.dict=none/\o.data = .seq its n/\its.size<=sizeLine/\Vals xs its.toList
def SqT(K:Qa)(H:Hp)(a:Addr)(xs:List V):Prop :=
 Rd H a (.tup xs) \/
  ∃(o:Obj) (its:Array Tn) (n:Nat),K.lookup a=some o/\o.cls = .type "tuple" /\ o.data = .seq its n/\its.size<=sizeLine/\Vals xs its.toList
def absV:Tn->Option V
 | .none=>some .non
 | .bool b=>some (.bl b)
 | .int i _=>some (.int i)
 | .str x _=>some (.str x)
 | .bytes b _=>some (.byt b)
 | .float b _=>some (.flt b)
 | .ref a=>some (.ref a)
 | .type n=>some (.ty n)
 | _=>none
theorem RelV.abs(r:RelV x u):absV u=some x:=by
 cases x with
 | non=>cases r;rfl
 | bl _=>cases r;rfl
 | int _=>obtain⟨t,rfl⟩:=r;rfl
 | str _=>obtain⟨t,rfl⟩:=r;rfl
 | byt _=>obtain⟨t,rfl⟩:=r;rfl
 | flt _=>obtain⟨t,rfl⟩:=r;rfl
 | ref _=>cases r;rfl
 | ty _=>cases r;rfl
theorem RelV.inj(r:RelV x u)(q:RelV y u):x=y:=Zi (r.abs.symm.trans q.abs)
theorem Vals.inj:∀{xs ys:List V} {us:List Tn},Vals xs us->Vals ys us->xs=ys
 | _,_,_,.nil,.nil=>rfl
 | _,_,_,.cons r t,.cons r' t'=>by rw[r.inj r',Vals.inj t t']
section
variable {X:Cx}{pins:List (Addr×Obj)}{σ:St}{H:Hp}{s:To}{a:Addr}{xs ys:List V}
theorem SqL.of{K:Qa}(h:H a=some (.lst xs)):SqL K H a xs:=.inl (.inl h)
theorem SqT.of{K:Qa}(h:H a=some (.tup xs)):SqT K H a xs:=.inl (.inl h)
theorem Inv.list(I:Inv X pins σ H s)(h:SqL X.K H a xs):∃its:List Tn,Vals xs its/\PlainL s.heap a its.toArray/\xs.length<=sizeLine:=by
 rcases h with h|⟨o,its,n,hk,hc,hd,hs,hz,r⟩
 .obtain⟨z,its,n,r,e⟩:=h.ok I.hok;exact⟨its,r,⟨_,n,e,rfl,rfl,rfl⟩,z⟩
 .refine⟨its.toList,r,⟨o,n,I.kIn a o hk,hc,hd,by simpa using hs⟩,?_⟩;have e:=r.length;simp only[QV] at e;lia
theorem Inv.tuple(I:Inv X pins σ H s)(h:SqT X.K H a xs):∃its:List Tn,Vals xs its/\IsTup s.heap a its.toArray/\xs.length<=sizeLine:=by
 rcases h with h|⟨o,its,n,hk,hc,hs,hz,r⟩
 .obtain⟨z,its,r,p⟩:=h.ok I.hok;exact⟨its,r,p,z⟩
 .refine⟨its.toList,r,⟨o,I.kIn a o hk,hc,n,by simpa using hs⟩,?_⟩;have e:=r.length;simp only[QV] at e;lia
theorem Inv.list_inj(I:Inv X pins σ H s)(h:SqL X.K H a xs)(h':SqL X.K H a ys):xs=ys:=by
 obtain⟨its,r,⟨o,n,e,_,_,d⟩,_⟩:=I.list h;obtain⟨its',r',⟨o',n',e',_,_,d'⟩,_⟩:=I.list h';rw[e] at e';cases e';rw[d] at d';injection d' with d1 _;have:its=its':=by simpa using jF Th d1
 subst this;exact r.inj r'
theorem Inv.tuple_inj(I:Inv X pins σ H s)(h:SqT X.K H a xs)(h':SqT X.K H a ys):xs=ys:=by
 obtain⟨its,r,⟨o,e,_,n,d⟩,_⟩:=I.tuple h;obtain⟨its',r',⟨o',e',_,n',d'⟩,_⟩:=I.tuple h';rw[e] at e';cases e';rw[d] at d';injection d' with d1 _;have:its=its':=by simpa using jF Th d1
 subst this;exact r.inj r'
end
abbrev Cx.wish(X:Cx)(E:Tn->To->Prop):Cx:={ X with xe:=E }
abbrev Cx.nox(X:Cx):Cx:=X.wish λ_ _=>False
theorem Cx.Ok.wish{X:Cx}(ok:X.Ok)(E:Tn->To->Prop):(X.wish E).Ok :=
 ⟨ok.mod,ok.kind,ok.glob,ok.blt,ok.above,ok.inj,ok.has,ok.cab,ok.hd,ok.frames,ok.stk,ok.exf,ok.bs,ok.bsz,ok.noex,ok.exfs,ok.funs,ok.frf⟩
theorem Cx.Ok.unwish{X:Cx}{E:Tn->To->Prop}(ok:(X.wish E).Ok):X.Ok :=
 ⟨ok.mod,ok.kind,ok.glob,ok.blt,ok.above,ok.inj,ok.has,ok.cab,ok.hd,ok.frames,ok.stk,ok.exf,ok.bs,ok.bsz,ok.noex,ok.exfs,ok.funs,ok.frf⟩
section
variable {X:Cx}{pins:List (Addr×Obj)}{σ:St}{H:Hp}{s:To}{E:Tn->To->Prop}
theorem Inv.wish(I:Inv X pins σ H s)(E:Tn->To->Prop):Inv (X.wish E) pins σ H s:=⟨I.ok.wish E,I.os,I.bare,I.base,I.loc,I.cell,I.free,I.freeC,I.pin,I.hok,I.len⟩
theorem Inv.unwish(I:Inv (X.wish E) pins σ H s):Inv X pins σ H s:=⟨I.ok.unwish,I.os,I.bare,I.base,I.loc,I.cell,I.free,I.freeC,I.pin,I.hok,I.len⟩
theorem SP.unwish(h:SP (X.wish E) pins D f s'):SP X pins D f s':=by
 cases f with
 | next=>obtain⟨σ',H',I,q⟩:=h;exact⟨σ',H',I.unwish,q⟩
 | brk=>obtain⟨σ',H',I,q⟩:=h;exact⟨σ',H',I.unwish,q⟩
 | cont=>obtain⟨σ',H',I,q⟩:=h;exact⟨σ',H',I.unwish,q⟩
 | ret u=>obtain⟨v,σ',H',I,r,q⟩:=h;exact⟨v,σ',H',I.unwish,r,q⟩
theorem PSs.nox{st:List Stmt}{t:TS}(h:PSs X.nox st t):PSs X st t:=λpins s σ H D I hw=>
 TQ (h pins s σ H D (I.wish _) hw) (λ_ _ q=>q.unwish) λ_ _ z=>Jk z
end
section
variable {X:Cx}{st:Stmt}{rest:List Stmt}{t u:TS}{e:Expr}{te:TE}{pos:Pos}
def zr6:TS:=λD σ H=>D.nx σ H
def tSeq(t u:TS):TS:=λD σ H=>t { D with nx:=u D } σ H
theorem zql:PSs X [] zr6:=λ_ _ σ H _ I h=>MV ⟨σ,H,I,h⟩
theorem zbo(h1:PS X st t)(h2:PSs X rest u):PSs X (st::rest) (tSeq t u):=by
 intro pins s σ H D I h;refine wpAny_execs_cons (thn (h1 pins s σ H { D with nx:=u D } I h) λf s1 q=>?_)
 cases f with
 | next=>
   obtain⟨σ',H',I',q⟩:=q;exact h2 pins s1 σ' H' D I' q
 | ret v=>exact q
 | brk=>exact q
 | cont=>exact q
theorem zdo(h1:PS X st t):PSs X [st] t:=by
 intro pins s σ H D I h;refine wpAny_execs_cons (thn (h1 pins s σ H D I h) λf s1 q=>?_)
 cases f with
 | next=>exact MV q
 | ret v=>exact q
 | brk=>exact q
 | cont=>exact q
theorem Inv.quiet{pins:List (Addr×Obj)}(I:Inv X pins σ H s):interactive X.env=false:=by simp[interactive,I.ok.kind]
def zd2(te:TE):TS:=λD σ H=>te σ H λ_ H1=>D.nx σ H1
theorem zhx(he:PE X e te)(hs:M1 e none pos.line X.env=pure false:=by rfl):PS X (.Expr e pos) (zd2 te):=by
 intro pins s σ H D I h;exact wpAny_Expr_any (thn (he pins s σ H _ I h) λv s1 ⟨x,H1,I1,r1,q1⟩=>⟨σ,H1,I1,q1⟩) I.quiet hs
def tRet(te:TE):TS:=λD σ H=>te σ H D.rt
theorem zfm(he:PE X e te):PS X (.Return (some e) pos) (tRet te):=by
 intro pins s σ H D I h;exact wpAny_Return_some (thn (he pins s σ H _ I h) λv s1 ⟨x,H1,I1,r1,q1⟩=>⟨x,σ,H1,I1,r1,q1⟩)
def tIfS(c:TT)(t u:TS):TS:=λD σ H=>c σ H λb H1=>if b=true then t D σ H1 else u D σ H1
theorem zyd(hc:PT X c tc)(ha:PSs X a t)(hb:PSs X b u):PS X (.If c a b pos) (tIfS tc t u):=by
 intro pins s σ H D I h;refine wpAny_If (thn (hc pins s σ H _ I h) λd s1 zz=>?_);obtain⟨H1,I1,q1⟩:=zz
 cases d with
 | true=>exact ha pins s1 σ H1 D I1 q1
 | false=>exact hb pins s1 σ H1 D I1 q1
end
abbrev TG:=V->St->Hp->(St->Hp->Prop)->Prop
abbrev TGs:=List V->St->Hp->(St->Hp->Prop)->Prop
def PG(X:Cx)(target:Expr)(t:TG):Prop :=
 ∀(pins:List (Addr×Obj)) (s:To) (σ:St) (H:Hp) (v:V) (u:Tn) (Q:St->Hp->Prop),Inv X pins σ H s->RelV v u->t v σ H Q ->
   wpAny (model X.prog X.w) X.A (MZ target X.env u) (λ_ s'=>∃σ' H',Inv X pins σ' H' s'/\Q σ' H') X.xe s
def PGs(X:Cx)(ts:List Expr)(t:TGs):Prop :=
 ∀(pins:List (Addr×Obj)) (s:To) (σ:St) (H:Hp) (vs:List V) (us:List Tn) (Q:St->Hp->Prop),Inv X pins σ H s->Vals vs us->t vs σ H Q ->
   wpAny (model X.prog X.w) X.A (assignInOrder ((Ma ts X.env).map (·.2)) us) (λ_ s'=>∃σ' H',Inv X pins σ' H' s'/\Q σ' H') X.xe s
abbrev TSet:=V->V->V->Hp->(Hp->Prop)->Prop
def PSet(X:Cx)(t:TSet):Prop :=
 ∀(pins:List (Addr×Obj)) (s:To) (σ:St) (H:Hp) (o i v:V) (ov iv u:Tn) (Q:Hp->Prop),Inv X pins σ H s->RelV o ov->RelV i iv->RelV v u->t o i v H Q ->
   wpAny (model X.prog X.w) X.A (setItem ov iv u) (λ_ s'=>∃H',Inv X pins σ H' s'/\Q H') X.xe s
section
variable {X:Cx}{pos:Pos}
def zbb(i:Nat):TG:=λv σ H Q=>Q (σ.set i (some v)) H
theorem zec{i:Nat}(hN:X.N.Nodup)(hi:X.N[i]? = some x)(hx:Loc X.env.scope x)(hf:X.fn x=true\/X.env.scope.names.lookup x=some .local:=by first|exact .inl rfl|exact .inr rfl|assumption):PG X (.Name x pos) (zbb i):=by
 intro pins s σ H v u Q I r h;exact wpAny_assign_Name (zfw I hN hi hx r (λs' I'=>⟨_,H,I',h⟩) hf)
def gNil:TGs:=λvs σ H Q=>vs = []/\Q σ H
def zja(t:TG)(u:TGs):TGs:=λvs σ H Q=>∃v r,vs=v::r/\t v σ H λσ' H'=>u r σ' H' Q
theorem z0s:PGs X [] gNil:=by
 intro pins s σ H vs us Q I r h;obtain⟨e,h⟩:=h;subst e;cases r;exact assignInOrder_nil ⟨σ,H,I,h⟩
theorem zx0(h1:PG X e t)(h2:PGs X es u)
 (hs:(Ma (e::es) X.env).map (·.2)=MZ e X.env::(Ma es X.env).map (·.2):=by rfl):PGs X (e::es) (zja t u):=by
 intro pins s σ H vs us Q I r h;obtain⟨v,vr,e1,h⟩:=h;subst e1
 cases r with
 | cons r rr=>
   rw[hs];refine Na (thn (h1 pins s σ H _ _ _ I r h) λ_ s1 zz=>?_);obtain⟨σ1,H1,I1,q1⟩:=zz;exact h2 pins s1 σ1 H1 _ _ Q I1 rr q1
def gTup(K:Qa)(n:Nat)(t:TGs):TG:=λv σ H Q=>∃a xs,v = .ref a/\SqT K H a xs/\xs.length=n/\t xs σ H Q
theorem zs9{k:Nat}{n:Nat}(hc:X.calm=true)(h:PGs X es t)
 (hn:(Ma es X.env).length=n:=by rfl) (hst:(Ma es X.env).findIdx? (·.1)=none:=by rfl):PG X (.Tuple es k pos) (gTup X.K n t):=by
 intro pins s σ H v u Q I r hw;obtain⟨a,xs,e1,hq,hl,hw⟩:=hw;subst e1;cases r;obtain⟨its,rv,ht,hz⟩:=I.tuple hq;refine assign_Tuple_tuple (I.ok.hd hc) ht (by simp[hn,<- hl,rv.length]) hst λh' hx=>?_;have I1:Inv X pins σ H { s with heap:=h' }:=I.kept (t':=s.toks) λb o e=>hx b o (Q2 (Qt e)) e;exact h pins _ σ H xs _ Q I1 (by simpa using rv) hw
def gSub(to ti:TE)(t:TSet):TG:=λv σ H Q=>to σ H λo H1=>ti σ H1 λi H2=>t o i v H2 λH3=>Q σ H3
theorem z5g{to:TE}(ho:PE X o to)(hi:PE X i ti)(hs:PSet X t)
 (ha:∀v,MZ (.Subscript o i pos) X.env v=(do
  let ov <- holding [v] (eval o X.env)
  let iv <- holding [v,ov] (eval i X.env)
  standAt pos
  holding [v,ov,iv] (setItem ov iv v)
  release [v,ov,iv] []):=by intro _;rfl):PG X (.Subscript o i pos) (gSub to ti t):=by
 intro pins s σ H v u Q I r h;rw[ha];refine Tj (TF (thn (ho pins s σ H _ I h) λov s1 zz=>?_));obtain⟨x,H1,I1,r1,q1⟩:=zz;refine Tj (TF (thn (hi pins s1 σ H1 _ I1 q1) λiv s2 zz=>?_));obtain⟨y,H2,I2,r2,q2⟩:=zz;refine Tj (Nm (Tj (TF (thn (hs pins s2 σ H2 x y v ov iv u _ I2 r1 r2 r q2) λ_ s3 zz=>?_))));obtain⟨H3,I3,q3⟩:=zz;exact wpAny_release ⟨σ,H3,I3,q3⟩
def tAsg(te:TE)(g:TG):TS:=λD σ H=>te σ H λx H1=>g x σ H1 D.nx
theorem zty(he:PE X e te)(hg:PG X tg g)(hs:MA [tg] e pos.line X.env=pure false:=by rfl)(hw:M9 [tg] e X.env=pure none:=by rfl)
 (h1:(Ma [tg] X.env).map (·.2) = [MZ tg X.env]:=by rfl):PS X (.Assign [tg] e pos) (tAsg te g):=by
 intro pins s σ H D I h;refine wpAny_Assign_stores (thn (he pins s σ H _ I h) λv s1 zz=>?_) hs hw;obtain⟨x,H1,I1,r1,q1⟩:=zz;rw[h1];exact thn (hg pins s1 σ H1 x v _ I1 r1 q1) λ_ s2 q=>q
theorem zdi{i:Nat}{pos':Pos}(hN:X.N.Nodup)(hi:X.N[i]? = some x)(hx:Loc X.env.scope x)(he:PE X e te)(hs:M1 e (some (.Name x pos')) pos.line X.env=pure false:=by rfl)(hf:X.fn x=true\/X.env.scope.names.lookup x=some .local:=by first|exact .inl rfl|exact .inr rfl|assumption):
 PS X (.Assign [.Name x pos'] e pos) (tAsg te (zbb i)):=by
 intro pins s σ H D I h;refine wpAny_Assign_Name (thn (he pins s σ H _ I h) λv s1 zz=>?_) hs;obtain⟨y,H1,I1,r1,q1⟩:=zz;exact zfw I1 hN hi hx r1 (λs2 I2=>⟨_,H1,I2,q1⟩) hf
def tPar(i j:Nat)(ta:TA):TS:=λD σ H=>ta σ H λvs H1=>∃v w,vs = [v,w]/\D.nx ((σ.set i (some v)).set j (some w)) H1
theorem zt2{i j:Nat}{pt:Pos}{kt k2 pt2}(hc:X.calm=true)(hN:X.N.Nodup)(hi:X.N[i]? = some x)(hj:X.N[j]? = some y)(hij:i≠j)
 (hx:X.env.scope.names.lookup x=some .local) (hy:X.env.scope.names.lookup y=some .local) (ha:PA X [a,b] ta)
 (hw:M9 [.Tuple [.Name x px,.Name y py] kt pt] (.Tuple [a,b] k2 pt2) X.env=pure (some [x,y]))
 (hs:MA [.Tuple [.Name x px,.Name y py] kt pt] (.Tuple [a,b] k2 pt2) pos.line X.env=pure false:=by rfl) :
 PS X (.Assign [.Tuple [.Name x px,.Name y py] kt pt] (.Tuple [a,b] k2 pt2) pos) (tPar i j ta):=by
 intro pins s σ H D I h;rw[exec_Assign_arm];refine Tj (Nm ?_);rw[hs];refine Tj (Tk ?_);rw[j8 (by decide)];refine Tj (Tuple_ (thn (ha _ pins s σ H _ I h) λus s1 zz=>?_));obtain⟨vs,H1,I1,r1,q1⟩:=zz;obtain⟨v,w,e1,q1⟩:=q1;subst e1
 obtain⟨u1,u2,rfl,rv,rw'⟩:∃u1 u2,us = [u1,u2]/\RelV v u1/\RelV w u2:=by
  cases r1 with
  | cons p q=>
    cases q with
    | cons p' q'=>
      cases q';exact⟨_,_,rfl,p,p'⟩
 refine Tz ?_ (by show 2<=sizeLine;decide);have I2:Inv X pins σ H1 { s1 with heap:=s1.heap.push { cls:=.type "tuple",data:=.seq [u1,u2].toArray } }:=I1.kept (t':=s1.toks) λb o e=>Qe _ e;rw[hw];refine Tj (Tk ?_);show wpAny (model X.prog X.w) X.A (do rule "assign.swapped-stores";let items <- unpackItems (.ref s1.heap.objs.size) 2 none;assignInOrder [λv=>j2 X.env y v,λv=>j2 X.env x v] items.reverse;pure Flow.next) _ _ _;refine Tj (TW (Tj (unpackItems_tuple (items:=#[u1,u2]) (I.ok.hd hc) (Go s1.heap _) λh' hx'=>?_)));have I3:=I2.kept (h':=h') (t':=s1.toks) λb o e=>hx' b o (Q2 (Qt e)) e;show wpAny _ _ (assignInOrder [λv=>j2 X.env y v,λv=>j2 X.env x v] [u2,u1] >>= λ_=>pure Flow.next) _ _ _;refine Tj (Na (wpAny_bindName (zfw I3 hN hj (.inl hy) rw' (λs2 I4=>?_) (.inr hy))));refine Na (wpAny_bindName (zfw I4 hN hi (.inl hx) rv (λs3 I5=>assignInOrder_nil (Tk ?_)) (.inr hx)));rw[List.set_comm _ _ (ZA hij)] at I5;exact⟨_,H1,I5,q1⟩
end
section
variable {X:Cx}{pos:Pos}
def zui(c:TT)(tb:TS):TS:=λD σ H=>∃W:Nat->St->Hp->Prop,(∃m,W m σ H)/\∀m σ H,W m σ H ->
 c σ H λb H1=>if b=true then ∃N:St->Hp->Prop,(∀σ' H',N σ' H'->∃m',m'<m/\W m' σ' H')/\tb { D with nx:=N,ct:=N,bk:=D.nx } σ H1 else D.nx σ H1
theorem zxt{body:List Stmt}(hp:PassesOwn (model X.prog X.w) X.A X.env X.xe)(hc:PT X c tc)(hb:PSs X body tb):PS X (.While c body [] pos) (zui tc tb):=by
 intro pins s σ H D I h;obtain⟨W,⟨m0,w0⟩,turn⟩:=h;refine wpAny_While (codeAny_whileLoop (λn s'=>∃σ' H',Inv X pins σ' H' s'/\W n σ' H') ?_ m0 ⟨σ,H,I,w0⟩);rintro n s1 ⟨σ1,H1,I1,w1⟩;refine Mm hp (thn (hc pins s1 σ1 H1 _ I1 (turn n σ1 H1 w1)) λb s2 zz=>?_);obtain⟨H2,I2,q2⟩:=zz
 cases b with
 | true=>
   obtain⟨N,hN,q2⟩:=q2;rw[j7 rfl];refine Mm hp (thn (hb pins s2 σ1 H2 _ I2 q2) λf s3 q3=>?_)
   cases f with
   | next=>
     obtain⟨σ3,H3,I3,n3⟩:=q3;obtain⟨m',hm,w3⟩:=hN σ3 H3 n3;exact⟨m',hm,σ3,H3,I3,w3⟩
   | cont=>
     obtain⟨σ3,H3,I3,n3⟩:=q3;obtain⟨m',hm,w3⟩:=hN σ3 H3 n3;exact⟨m',hm,σ3,H3,I3,w3⟩
   | brk=>exact q3
   | ret v=>exact q3
 | false=>
   rw[j8 Q8];exact MV ⟨σ1,H2,I2,q2⟩
end
structure It where
 go:Nat->Hp->Prop
 yld:Nat->Hp->V->Hp->Prop
 stop:Nat->Hp->Prop
def FpOk(X:Cx)(pins:List (Addr×Obj))(H:Hp)(b:Addr):Prop :=
 H b=none/\b≠X.env.locals/\b ∉ X.fs/\(b∈X.ex\/X.s₀.heap.objs.size<=b)/\(∀x c,X.env.cells.lookup x=some c->c≠b)/\∀p∈X.pn++pins,p.1≠b
theorem Inv.fpOk{pins:List (Addr×Obj)}(I:Inv X pins σ H s)(hb:s.heap.objs.size<=b)(hn:H' b=none):FpOk X pins H' b:=by
 refine⟨hn,Jz (QL I.lt hb),I.nofs hb,.inr (QY I.sz hb),λx c e z=>?_,λp hp z=>?_⟩
 .obtain⟨v,q⟩:=I.cell x c e;exact absurd (QL q.lt (by rw[z];exact hb)) (Zj _)
 .exact absurd (QL (Qt (I.pin p hp).1) (by rw[z];exact hb)) (Zj _)
structure Turn(P:Tr)(w:Tt)(K:Qa)(tg:Expr)(J:It)(fp:List Addr)(it:Addr)(tn:Nat->Heap->Prop):Prop where
 mem:it∈fp
 obj:∀i h,tn i h->∀b∈fp,∃o,h.get? b=some o/\∀v,o.data≠.cell v
 keep:∀i h h',tn i h->(∀b∈fp,∀o,h.get? b=some o->h'.get? b=some o)->tn i h'
 item:∀(X:Cx),X.prog=P->X.w=w->X.K=K->X.calm=true->∀(i:Nat) (pins:List (Addr×Obj)) (s:To) (σ:St) (H:Hp) (E:Tn->To->Prop),Inv X pins σ H s->(∀b∈fp,FpOk X pins H b)->tn i s.heap->J.go i H ->
  wpAny (model P w) X.A (M8 (.ref it)) (λr s1=>∃u,r=some u /\
   wpAny (model P w) X.A (MT tg (.ref it) u) (λ_ s2=>∃x H',Inv X pins σ H' s2/\RelV x u/\J.yld i H x H'/\tn (i+1) s2.heap/\∀b∈fp,H' b=none) E s1) E s
 done:∀(X:Cx),X.prog=P->X.w=w->X.K=K->X.calm=true->∀(i:Nat) (pins:List (Addr×Obj)) (s:To) (σ:St) (H:Hp) (E:Tn->To->Prop),Inv X pins σ H s->(∀b∈fp,FpOk X pins H b)->tn i s.heap->J.stop i H ->
  wpAny (model P w) X.A (M8 (.ref it)) (λr s1=>r=none/\Inv X pins σ H s1) E s
 self:∀(A:Tv) (i:Nat) (s:To) (Q:Tn->To->Prop) (E:Tn->To->Prop),tn i s.heap->Q (.ref it) s->wpAny (model P w) A (N8 (.ref it)) Q E s
abbrev TI:=St->Hp->(It->Hp->Prop)->Prop
def PIE(X:Cx)(pins:List (Addr×Obj))(σ:St)(tg:Expr)(R:It->Hp->Prop)(itv:Tn)(s2:To):Prop :=
 ∃(it:Addr) (fp:List Addr) (tn:Nat->Heap->Prop) (J:It) (H':Hp),itv = .ref it/\Inv X pins σ H' s2/\Turn X.prog X.w X.K tg J fp it tn/\tn 0 s2.heap/\(∀b∈fp,FpOk X pins H' b)/\R J H'
def PI(X:Cx)(tg iter:Expr)(wi:TI):Prop :=
 ∀(pins:List (Addr×Obj)) (s:To) (σ:St) (H:Hp) (R:It->Hp->Prop),Inv X pins σ H s->wi σ H R ->
   wpAny (model X.prog X.w) X.A (eval iter X.env) (λv s1=>wpAny (model X.prog X.w) X.A (N8 v) (PIE X pins σ tg R) X.xe s1) X.xe s
theorem zl6(ho:s.heap.get? it=some o)(hc:o.cls = .type n)(hd:o.data = .fields vs)
 (hn:["enumerate", "zip", "dict_itemiterator", "dict_reverseitemiterator", "odict_iterator", "itertools.zip_longest", "itertools.pairwise"].contains n=false) (hQ:Q () s):wpAny M A (MT tg (.ref it) u) Q E s:=by
 unfold MT
 cases tg <;> first
  | exact Tk hQ
  | (cases u <;> first
   | exact Tk hQ
   | (refine Tj (wpAny_load ho ?_)
      rw[hc,hd];show wpAny M A (if(["enumerate", "zip", "dict_itemiterator", "dict_reverseitemiterator", "odict_iterator", "itertools.zip_longest", "itertools.pairwise"].contains n && vs[0]? == some (ME _))=true then _ else _) Q E s;rw[j8 (by intro h;rw[hn,Ui] at h;cases h)]
      exact Tk hQ))
def Itl(K:Qa)(a:Addr):It :=
 ⟨λi H=>∃xs x,SqL K H a xs/\xs[i]? = some x,λi H x H'=>H'=H/\∀xs,SqL K H a xs->xs[i]? = some x,λi H=>∃xs,SqL K H a xs/\xs.length<=i⟩
def Itt(K:Qa)(a:Addr):It :=
 ⟨λi H=>∃xs x,SqT K H a xs/\xs[i]? = some x,λi H x H'=>H'=H/\∀xs,SqT K H a xs->xs[i]? = some x,λi H=>∃xs,SqT K H a xs/\xs.length<=i⟩
def Itr(lo:Int)(n:Nat):It:=⟨λi _=>i<n,λi H x H'=>H'=H/\x = .int (lo+i),λi _=>n<=i⟩
theorem ztt{P:Tr}{w:Tt}{K:Qa}{tg:Expr}(a it:Addr):Turn P w K tg (Itl K a) [it] it (λi h=>h.IsListIter it a i) where
 mem:=by simp
 obj:=λi h st b hb=>by
  have e:b=it:=by simpa using hb
  subst e;obtain⟨o,e,c,d⟩:=st;exact⟨o,e,λv z=>by rw[d] at z;cases z⟩
 keep:=λi h h' st k=>st.at λo e=>k it (by simp) o e
 item:=by
  intro X hP hw hK hc i pins s σ H E I hf st hg;subst hP hw hK;obtain⟨xs,x,hq,hx⟩:=hg;obtain⟨its,rv,p,hz⟩:=I.list hq;obtain⟨u,hu,ru⟩:=rv.get hx;obtain⟨f0,f1,f2,f3,f4,f5⟩:=hf it (by simp);refine wpAny_pyNext_list_item st p.isList (x:=u) (by simpa using hu) λh' st' sb=>?_;have I1:Inv X pins σ H { s with heap:=h' }:=I.turned (t':=s.toks) (λb o hb e=>(sb.2 b hb).trans e) f0 f1 f3 f4 f5;obtain⟨o,e,c,d⟩:=id st';exact⟨u,rfl,zl6 (s:={ s with heap:=h' }) e c d (by decide) ⟨x,H,I1,ru,⟨rfl,λys hy=>by rw[I.list_inj hy hq];exact hx⟩,st',λb hb=>(hf b hb).1⟩⟩
 done:=by
  intro X hP hw hK hc i pins s σ H E I hf st hg;subst hP hw hK;obtain⟨xs,hq,hx⟩:=hg;obtain⟨its,rv,p,hz⟩:=I.list hq;obtain⟨f0,f1,f2,f3,f4,f5⟩:=hf it (by simp);have hl:=rv.length;exact wpAny_pyNext_list_end (I.ok.hd hc) st p.isList (by simp;lia) λh' eb=>⟨rfl,I.turned (t':=s.toks) (λb o hb e=>eb b o hb e) f0 f1 f3 f4 f5⟩
 self:=λ_ _ _ _ _ st h=>wpAny_pyIter_listiter st h
theorem zr1{P:Tr}{w:Tt}{K:Qa}{tg:Expr}(a it:Addr):Turn P w K tg (Itt K a) [it] it (λi h=>h.IsTupleIter it a i) where
 mem:=by simp
 obj:=λi h st b hb=>by
  have e:b=it:=by simpa using hb
  subst e;obtain⟨o,e,c,d⟩:=st;exact⟨o,e,λv z=>by rw[d] at z;cases z⟩
 keep:=λi h h' st k=>st.at λo e=>k it (by simp) o e
 item:=by
  intro X hP hw hK hc i pins s σ H E I hf st hg;subst hP hw hK;obtain⟨xs,x,hq,hx⟩:=hg;obtain⟨its,rv,p,hz⟩:=I.tuple hq;obtain⟨u,hu,ru⟩:=rv.get hx;obtain⟨f0,f1,f2,f3,f4,f5⟩:=hf it (by simp);refine wpAny_pyNext_tuple_item st (show s.heap.IsTuple a its.toArray from p) (x:=u) (by simpa using hu) λh' st' sb=>?_;have I1:Inv X pins σ H { s with heap:=h' }:=I.turned (t':=s.toks) (λb o hb e=>(sb.2 b hb).trans e) f0 f1 f3 f4 f5;obtain⟨o,e,c,d⟩:=id st';exact⟨u,rfl,zl6 (s:={ s with heap:=h' }) e c d (by decide) ⟨x,H,I1,ru,⟨rfl,λys hy=>by rw[I.tuple_inj hy hq];exact hx⟩,st',λb hb=>(hf b hb).1⟩⟩
 done:=by
  intro X hP hw hK hc i pins s σ H E I hf st hg;subst hP hw hK;obtain⟨xs,hq,hx⟩:=hg;obtain⟨its,rv,p,hz⟩:=I.tuple hq;obtain⟨f0,f1,f2,f3,f4,f5⟩:=hf it (by simp);have hl:=rv.length;exact wpAny_pyNext_tuple_end (I.ok.hd hc) st (show s.heap.IsTuple a its.toArray from p) (by simp;lia) λh' eb=>⟨rfl,I.turned (t':=s.toks) (λb o hb e=>eb b o hb e) f0 f1 f3 f4 f5⟩
 self:=λ_ _ _ _ _ st h=>wpAny_pyIter_tupleiter st h
theorem zsg{P:Tr}{w:Tt}{K:Qa}{tg:Expr}(it:Addr)(lo:Int)(n:Nat):Turn P w K tg (Itr lo n) [it] it (λi h=>IsRangeIter h it (lo+(i:Nat) * 1) ((n:Int)-(i:Nat)) 1) where
 mem:=by simp
 obj:=λi h st b hb=>by
  have e:b=it:=by simpa using hb
  subst e
  exact⟨_,st,λv z=>by
   have z':Data.fields _=Data.cell v:=z
   cases z'⟩
 keep:=λi h h' st k=>k it (by simp) _ st
 item:=by
  intro X hP hw hK hc i pins s σ H E I hf st hg;subst hP hw hK;obtain⟨f0,f1,f2,f3,f4,f5⟩:=hf it (by simp);have W:=Walks.range (prog:=X.prog) (w:=X.w) (I.ok.hd hc) it lo 1 n;refine W.item i s _ _ hg st λv h' tk hv st' kk=>?_;obtain⟨t,rfl⟩:=hv;have I1:Inv X pins σ H { s with heap:=h',toks:=tk }:=I.turned (λb o hb e=>kk b o (by simpa using hb) e) f0 f1 f3 f4 f5;refine⟨_,rfl,zl6 (s:={ s with heap:=h',toks:=tk }) (n := "range_iterator") st' rfl rfl (by decide) ⟨.int (lo+i),H,I1,⟨t,?_⟩,⟨rfl,rfl⟩,st',λb hb=>(hf b hb).1⟩⟩;rw[Int.mul_one]
 done:=by
  intro X hP hw hK hc i pins s σ H E I hf st hg;subst hP hw hK;obtain⟨f0,f1,f2,f3,f4,f5⟩:=hf it (by simp);exact wpAny_pyNext_range_end (I.ok.hd hc) st (by have:n<=i:=hg;lia) λh' eb=>⟨rfl,I.turned (t':=s.toks) (λb o hb e=>eb b o hb e) f0 f1 f3 f4 f5⟩
 self:=λ_ _ _ _ _ st h=>wpAny_pyIter_rangeiter st h
section
variable {X:Cx}{tg:Expr}
def zex(K:Qa)(tl:TE):TI:=λσ H R=>tl σ H λx H1=>∃a,x = .ref a/\(∃xs,SqL K H1 a xs)/\R (Itl K a) H1
def iTup(K:Qa)(tl:TE):TI:=λσ H R=>tl σ H λx H1=>∃a,x = .ref a/\(∃xs,SqT K H1 a xs)/\R (Itt K a) H1
theorem zfi(hl:PE X l tl):PI X tg l (zex X.K tl):=by
 intro pins s σ H R I h;refine thn (hl pins s σ H _ I h) λv s1 zz=>?_;obtain⟨x,H1,I1,r1,q1⟩:=zz;obtain⟨a,e,⟨xs,hq⟩,q⟩:=q1;subst e;cases r1;obtain⟨its,rv,p,hz⟩:=I1.list hq;refine TX p.isList ?_;refine⟨s1.heap.objs.size,[s1.heap.objs.size],_,_,H1,rfl,I1.kept (t':=s1.toks) λb o e=>Qe _ e,ztt a _,⟨_,Qm _ rfl,rfl,rfl⟩,λb hb=>?_,q⟩;have e:b=s1.heap.objs.size:=by simpa using hb
 subst e;exact I1.fpOk (Qh _) (I1.hok.fresh (Qh _))
theorem z2t(hl:PE X l tl):PI X tg l (iTup X.K tl):=by
 intro pins s σ H R I h;refine thn (hl pins s σ H _ I h) λv s1 zz=>?_;obtain⟨x,H1,I1,r1,q1⟩:=zz;obtain⟨a,e,⟨xs,hq⟩,q⟩:=q1;subst e;cases r1;obtain⟨its,rv,p,hz⟩:=I1.tuple hq;refine Me (show s1.heap.IsTuple a its.toArray from p) ?_;refine⟨s1.heap.objs.size,[s1.heap.objs.size],_,_,H1,rfl,I1.kept (t':=s1.toks) λb o e=>Qe _ e,zr1 a _,⟨_,Qm _ rfl,rfl,rfl⟩,λb hb=>?_,q⟩;have e:b=s1.heap.objs.size:=by simpa using hb
 subst e;exact I1.fpOk (Qh _) (I1.hok.fresh (Qh _))
theorem zv8{pins:List (Addr×Obj)}{R:It->Hp->Prop}{lo hi:Int}{tk:Nat}(I:Inv X pins σ H s)(h1:-(2 ^ 62)<=lo)(h2:lo<2 ^ 62)(h3:-(2 ^ 62)<=hi)(h4:hi<2 ^ 62)
 (q:R (Itr lo (hi-lo).toNat) H):wpAny (model X.prog X.w) X.A (N8 (.ref s.heap.objs.size)) (PIE X pins σ tg R) E { s with heap:=s.heap.push { cls:=.type "range",data:=.fields #[.int lo t,.int hi u,.int 1 v] },toks:=tk }:=by
 refine wpAny_pyIter_range (IsRange.new ..) (small_one h1 h2 h3 h4) ?_;have I1:Inv X pins σ H { s with heap:=s.heap.push { cls:=.type "range",data:=.fields #[.int lo t,.int hi u,.int 1 v] },toks:=tk }:=I.kept λb o e=>Qe _ e
 refine⟨(s.heap.push { cls:=.type "range",data:=.fields #[.int lo t,.int hi u,.int 1 v] }).objs.size,[(s.heap.push { cls:=.type "range",data:=.fields #[.int lo t,.int hi u,.int 1 v] }).objs.size],_,_,H,rfl,
  I1.kept (t':=tk) λb o e=>Qe _ e,zsg _ lo (hi-lo).toNat,?_,λb hb=>?_,q⟩
 .have e1:lo+((0:Nat):Int) * 1=lo:=by simp
  have e2:(((hi-lo).toNat:Nat):Int)-((0:Nat):Int)=Builtin.Range.rangeSize lo hi 1:=by rw[rangeSize_one];split <;> lia
  show IsRangeIter _ _ (lo+((0:Nat):Int) * 1) ((((hi-lo).toNat:Nat):Int)-((0:Nat):Int)) 1;rw[e1,e2];exact Qm _ rfl
 .have e:b=(s.heap.push { cls:=.type "range",data:=.fields #[.int lo t,.int hi u,.int 1 v] }).objs.size:=by simpa using hb
  subst e;exact I1.fpOk (Qh _) (I1.hok.fresh (Qh _))
def zre(ta:TA):TI:=λσ H R=>ta σ H λvs H1=>∃j:Int,vs = [.int j]/\-(2 ^ 62)<=j/\j<2 ^ 62/\R (Itr 0 j.toNat) H1
theorem zk1(hg:Gl X "range")(hm:X.mg "range" = none)(ha:PA X [a] ta)(hs:Tq [a] X.env = [(false,eval a X.env)]:=by rfl):PI X tg (.Call (.Name "range" p) [a] [] pos) (zre ta):=by
 intro pins s σ H R I h;refine Call_ (zcf I hg hm boot_range (Zs (thn (ha pos pins s σ H _ I h) λus s1 zz=>?_) hs rfl));obtain⟨vs,H1,I1,r1,q1⟩:=zz;obtain⟨j,e,q1,q2,q⟩:=q1;subst e
 cases r1 with
 | cons r rr=>
   cases rr;obtain⟨t,rfl⟩:=r;exact call_range_1 (zv8 I1 (by lia) (by lia) q1 q2 (by simpa using q))
def tFor(wi:TI)(g:TG)(tb:TS):TS:=λD σ H=>wi σ H λJ H1=>∃W:Nat->Nat->St->Hp->Prop,(∃m,W 0 m σ H1)/\∀i m σ H,W i m σ H ->
 (J.stop i H/\D.nx σ H)\/(J.go i H/\∃N:St->Hp->Prop,(∀σ' H',N σ' H'->∃m',m'<m/\W (i+1) m' σ' H')/\∀x H',J.yld i H x H'->g x σ H' λσ2 H2=>tb { D with nx:=N,ct:=N,bk:=D.nx } σ2 H2)
def zg2(fp:List Addr)(h:Heap):List (Addr×Obj):=fp.filterMap λb=>(h.get? b).map λo=>(b,o)
theorem zd6(hb:b∈fp)(e:h.get? b=some o):(b,o)∈zg2 fp h:=Yy.mpr ⟨b,hb,by rw[e];rfl⟩
theorem zsq(hp:p∈zg2 fp h):p.1∈fp/\h.get? p.1=some p.2:=by
 obtain⟨b,hb,e⟩:=Yy.mp hp
 cases q:h.get? b with
 | none=>rw[q] at e;cases e
 | some o=>
   rw[q] at e;have e':(b,o)=p:=Zi e;subst e';exact⟨hb,q⟩
theorem Inv.pinned{pins:List (Addr×Obj)}(I:Inv X pins σ H s)(hf:∀b∈fp,FpOk X pins H b)(ho:∀b∈fp,∃o,s.heap.get? b=some o/\∀v,o.data≠.cell v):Inv X (pins++zg2 fp s.heap) σ H s :=
 I.pins_of λp hp=>(Qv.mp hp).elim (λz=>I.pin p (Q9 _ z)) λz=>by
  obtain⟨hb,e⟩:=zsq z;obtain⟨f0,f1,f2,_⟩:=hf p.1 hb;obtain⟨o,e',d⟩:=ho p.1 hb;rw[e] at e';cases e';exact⟨e,f0,f1,f2,d⟩
theorem Inv.unpinned{pins:List (Addr×Obj)}(I:Inv X (pins++pl) σ H s):Inv X pins σ H s:=I.pins_of λp hp=>I.pin p (Q9 _ (QR _ hp))
theorem zvf{iter:Expr}{body:List Stmt}(hp:PassesOwn (model X.prog X.w) X.A X.env X.xe)(hc:X.calm=true)(hi:PI X tg iter wi)(hg:PG X tg g)(hb:PSs X body tb)
 (hs:∀x,Mh iter X.env x=pure x:=by intro _;rfl):PS X (.For tg iter body [] pos) (tFor wi g tb):=by
 intro pins s σ H D I h;refine wpAny_For (thn (hi pins s σ H _ I h) λv s1 h1=>thn h1 λitv s2 h2=>?_) hs;obtain⟨it,fp,tn,J,H2,e,I2,T,st2,f2,W,⟨m0,w0⟩,turn⟩:=h2;subst e
 -- what stays true of the iterator's objects through the loop
 have stat:∀{H':Hp},(∀b∈fp,H' b=none)->∀b∈fp,FpOk X pins H' b:=λhn b hb=>⟨hn b hb,(f2 b hb).2⟩;refine codeAny_forLoop_any (λn s'=>∃i σ' H',Inv X pins σ' H' s'/\tn i s'.heap/\(∀b∈fp,H' b=none)/\W i n σ' H') ?_ m0 ⟨0,σ,H2,I2,st2,λb hb=>(f2 b hb).1,w0⟩;rintro n s3 ⟨i,σ3,H3,I3,st3,fr3,w3⟩;rcases turn i n σ3 H3 w3 with ⟨stop,qn⟩|⟨go,N,hN,step⟩
 .refine Mm hp (thn (T.done X rfl rfl rfl hc i pins s3 σ3 H3 X.xe I3 (stat fr3) st3 stop) λr s4 zz=>?_);obtain⟨hr,I4⟩:=zz;subst hr;exact MV ⟨σ3,H3,I4,qn⟩
 .refine Mm hp (thn (T.item X rfl rfl rfl hc i pins s3 σ3 H3 X.xe I3 (stat fr3) st3 go) λr s4 zz=>?_);obtain⟨u,hr,h4⟩:=zz;subst hr;refine Mm hp (thn h4 λ_ s5 zz=>?_);obtain⟨x,H5,I5,r5,y5,st5,fr5⟩:=zz;have I5':=I5.pinned (stat fr5) (T.obj _ _ st5);refine Mm hp (thn (hg _ s5 σ3 H5 x u _ I5' r5 (step x H5 y5)) λ_ s6 zz=>?_);obtain⟨σ6,H6,I6,q6⟩:=zz;refine Mm hp (thn (hb _ s6 σ6 H6 _ I6 q6) λf s7 q7=>?_)
  have again:∀{σ7:St} {H7:Hp},Inv X (pins++zg2 fp s5.heap) σ7 H7 s7->N σ7 H7->∃m,m<n/\∃i σ' H',Inv X pins σ' H' s7/\tn i s7.heap/\(∀b∈fp,H' b=none)/\W i m σ' H':=λ{σ7 H7} I7 n7=>by
   obtain⟨m',hm,w7⟩:=hN σ7 H7 n7;refine⟨m',hm,i+1,σ7,H7,I7.unpinned,T.keep _ _ _ st5 λb hb o e=>(I7.pin (b,o) (Q9 _ (Q9 _ (zd6 hb e)))).1,λb hb=>?_,w7⟩;obtain⟨o,e,d⟩:=T.obj _ _ st5 b hb;exact(I7.pin (b,o) (Q9 _ (Q9 _ (zd6 hb e)))).2.1
  cases f with
  | next=>obtain⟨σ7,H7,I7,n7⟩:=q7;exact again I7 n7
  | cont=>obtain⟨σ7,H7,I7,n7⟩:=q7;exact again I7 n7
  | brk=>obtain⟨σ7,H7,I7,q7⟩:=q7;exact⟨σ7,H7,I7.unpinned,q7⟩
  | ret v=>obtain⟨x7,σ7,H7,I7,r7,q7⟩:=q7;exact⟨x7,σ7,H7,I7.unpinned,r7,q7⟩
end
theorem zxi{K:Qa}{a:Addr}{xs:List V}{g:TG}{tb:TS}{D:Ends}{σ:St}{H:Hp}(Pv:Nat->St->Hp->Prop)(h0:Pv 0 σ H)(hl:∀i σ H,i<=xs.length->Pv i σ H->SqL K H a xs)
 (hs:∀i x σ H,xs[i]? = some x->Pv i σ H->g x σ H λσ2 H2=>tb { D with nx:=Pv (i+1),ct:=Pv (i+1),bk:=D.nx } σ2 H2) (hd:∀σ H,Pv xs.length σ H->D.nx σ H) :
 ∃W:Nat->Nat->St->Hp->Prop,(∃m,W 0 m σ H)/\∀i m σ H,W i m σ H ->
   ((Itl K a).stop i H/\D.nx σ H)\/((Itl K a).go i H/\∃N:St->Hp->Prop,(∀σ' H',N σ' H'->∃m',m'<m/\W (i+1) m' σ' H')/\∀x H',(Itl K a).yld i H x H'->g x σ H' λσ2 H2=>tb { D with nx:=N,ct:=N,bk:=D.nx } σ2 H2):=by
 refine⟨λi m σ H=>m=xs.length-i/\i<=xs.length/\Pv i σ H,⟨xs.length,by simp,QE _,h0⟩,?_⟩;rintro i m σ H ⟨rfl,hi,p⟩;have q:=hl i σ H hi p
 by_cases hlt:i<xs.length
 .refine .inr ⟨⟨xs,xs[i],q,by simp[hlt]⟩,Pv (i+1),λσ' H' p'=>⟨xs.length-(i+1),by lia,rfl,hlt,p'⟩,λx H' y=>?_⟩;obtain⟨e,y⟩:=y;subst e;exact hs i x σ _ (y xs q) p
 .have e:i=xs.length:=by lia
  subst e;exact .inl ⟨⟨xs,q,Qh _⟩,hd σ H p⟩
abbrev R2:=V->V->Hp->VK->Prop
def OpR(X:Cx)(f:Tn->Tn->Sem Tn)(r:R2):Prop :=
 ∀(pins:List (Addr×Obj)) (s:To) (σ:St) (H:Hp) (x y:V) (v u:Tn) (Q:VK),Inv X pins σ H s->RelV x v->RelV y u->r x y H Q ->
   wpAny (model X.prog X.w) X.A (f v u) (EP X pins σ Q) X.xe s
def UnR(X:Cx)(f:Tn->Sem Tn)(r:V->Hp->VK->Prop):Prop :=
 ∀(pins:List (Addr×Obj)) (s:To) (σ:St) (H:Hp) (x:V) (v:Tn) (Q:VK),Inv X pins σ H s->RelV x v->r x H Q ->
   wpAny (model X.prog X.w) X.A (f v) (EP X pins σ Q) X.xe s
def CallR(X:Cx)(f:Tn)(r:List V->Hp->VK->Prop):Prop :=
 ∀(pins:List (Addr×Obj)) (s:To) (σ:St) (H:Hp) (xs:List V) (us:List Tn) (Q:VK),Inv X pins σ H s->Vals xs us->r xs H Q ->
   wpAny (model X.prog X.w) X.A (call f us) (EP X pins σ Q) X.xe s
def tOp(r:R2)(ta tb:TE):TE:=λσ H Q=>ta σ H λx H1=>tb σ H1 λy H2=>r x y H2 Q
def tUn(r:V->Hp->VK->Prop)(ta:TE):TE:=λσ H Q=>ta σ H λx H1=>r x H1 Q
def rI(C:Int->Int->Prop)(g:Int->Int->V):R2:=λx y H Q=>∃i j,x = .int i/\y = .int j/\C i j/\Q (g i j) H
def rI0(g:Int->Int->V):R2:=λx y H Q=>∃i j,x = .int i/\y = .int j/\Q (g i j) H
def rU(g:Int->V):V->Hp->VK->Prop:=λx H Q=>∃i,x = .int i/\Q (g i) H
section
variable {X:Cx}{a b c:Expr}{ta tb tc:TE}{pos:Pos}
theorem binT(ha:PE X a ta)(hb:PE X b tb){pins:List (Addr×Obj)}{s:To}{σ:St}{H:Hp}{R:V->V->Hp->Prop}(I:Inv X pins σ H s)
 (h:ta σ H λx H1=>tb σ H1 λy H2=>R x y H2) {Q:Tn->To->Prop} {f:Tn->Tn->Sem Tn}
 (hf:∀v u s2 x y H2,Inv X pins σ H2 s2->RelV x v->RelV y u->R x y H2->wpAny (model X.prog X.w) X.A (f v u) Q X.xe s2) :
 wpAny (model X.prog X.w) X.A (eval a X.env) (λv s₁=>wpAny (model X.prog X.w) X.A (eval b X.env) (λu s₂=>wpAny (model X.prog X.w) X.A (f v u) Q X.xe s₂) X.xe s₁) X.xe s:=by
 refine thn (ha pins s σ H _ I h) λv s1 zz=>?_;obtain⟨x,H1,I1,r1,q1⟩:=zz;refine thn (hb pins s1 σ H1 _ I1 q1) λu s2 zz=>?_;obtain⟨y,H2,I2,r2,q2⟩:=zz;exact hf v u s2 x y H2 I2 r1 r2 q2
theorem zbj(ho:OpR X (Mt op) r)(ha:PE X a ta)(hb:PE X b tb):PE X (.BinOp a op b pos) (tOp r ta tb):=by
 intro pins s σ H Q I h;exact wpAny_BinOp (binT ha hb I h λv u s2 x y H2 I2 rx ry q=>ho pins s2 σ H2 x y v u Q I2 rx ry q)
theorem z6o(ho:UnR X (unaryOp op) r)(ha:PE X a ta):PE X (.UnaryOp op a pos) (tUn r ta):=by
 intro pins s σ H Q I h;exact UnaryOp_ (thn (ha pins s σ H _ I h) λv s1 ⟨x,H1,I1,r1,q1⟩=>ho pins s1 σ H1 x v Q I1 r1 q1)
theorem opI{f:Tn->Tn->Sem Tn}{C:Int->Int->Prop}{g:Int->Int->Int}
 (rule:∀(i j:Int) (t u:Tok) (s:To) (Q:Tn->To->Prop) (E:Tn->To->Prop),C i j->Q (.int (g i j) s.toks) { s with toks:=s.toks+1 }->wpAny (model X.prog X.w) X.A (f (.int i t) (.int j u)) Q E s) :
 OpR X f (rI C λi j=>.int (g i j)):=by
 intro pins s σ H x y v u Q I rx ry h;obtain⟨i,j,rfl,rfl,hc,q⟩:=h;obtain⟨t,rfl⟩:=rx;obtain⟨t',rfl⟩:=ry;exact rule i j t t' s _ _ hc ⟨.int (g i j),H,I.tok _,⟨_,rfl⟩,q⟩
theorem opI0{f:Tn->Tn->Sem Tn}{g:Int->Int->Int}
 (rule:∀(i j:Int) (t u:Tok) (s:To) (Q:Tn->To->Prop) (E:Tn->To->Prop),Q (.int (g i j) s.toks) { s with toks:=s.toks+1 }->wpAny (model X.prog X.w) X.A (f (.int i t) (.int j u)) Q E s) :
 OpR X f (rI0 λi j=>.int (g i j)):=by
 intro pins s σ H x y v u Q I rx ry h;obtain⟨i,j,rfl,rfl,q⟩:=h;obtain⟨t,rfl⟩:=rx;obtain⟨t',rfl⟩:=ry;exact rule i j t t' s _ _ ⟨.int (g i j),H,I.tok _,⟨_,rfl⟩,q⟩
theorem opB0{f:Tn->Tn->Sem Tn}{g:Int->Int->Bool}
 (rule:∀(i j:Int) (t u:Tok) (s:To) (Q:Tn->To->Prop) (E:Tn->To->Prop),Q (.bool (g i j)) s->wpAny (model X.prog X.w) X.A (f (.int i t) (.int j u)) Q E s) :
 OpR X f (rI0 λi j=>.bl (g i j)):=by
 intro pins s σ H x y v u Q I rx ry h;obtain⟨i,j,rfl,rfl,q⟩:=h;obtain⟨t,rfl⟩:=rx;obtain⟨t',rfl⟩:=ry;exact rule i j t t' s _ _ ⟨.bl (g i j),H,I,rfl,q⟩
def CDiv(i j:Int):Prop:=0<j/\j<1073741824
def CPow(i j:Int):Prop:=0<=j/\j<=1000000/\i.natAbs<2 ^ 64
def CMul(i j:Int):Prop:=(-(2 ^ 64)<i/\i<2 ^ 64)\/(-(2 ^ 64)<j/\j<2 ^ 64)
theorem CMul.ok{i j:Int}(h:CMul i j):IntMulOk i j:=by
 rcases h with ⟨h1,h2⟩|⟨h1,h2⟩
 .exact .of_left (intBits_le_64 h1 h2)
 .exact .of_right (intBits_le_64 h1 h2)
theorem op_add:OpR X (Mt .Add) (rI0 λi j=>.int (i+j)):=opI0 λ_ _ _ _ _ _ _ q=>add_int q
theorem z3c:OpR X (Mt .Sub) (rI0 λi j=>.int (i-j)):=opI0 λ_ _ _ _ _ _ _ q=>sub_int q
theorem zfc:OpR X (Mt .Mult) (rI CMul λi j=>.int (i * j)):=opI λ_ _ _ _ _ _ _ hc q=>mul_int q hc.ok
theorem z0n:OpR X (Mt .FloorDiv) (rI CDiv λi j=>.int (i / j)):=opI λi j _ _ _ _ _ hc q=>by
 have h1:(0:Int)<j:=hc.1;have h2:j<1073741824:=hc.2;exact floordiv_int (by lia) (by rw[Int.fdiv_eq_ediv_of_nonneg i (by lia)];exact q) (.inl (PyProof.noPylong_small (by lia)))
theorem zdx:OpR X (Mt .Mod) (rI (λ_ j=>0<j) λi j=>.int (i % j)):=opI λi j _ _ _ _ _ hc q=>by
 have h1:(0:Int)<j:=hc;exact mod_int' (by lia) (by rw[Int.fmod_eq_emod_of_nonneg i (by lia)];exact q)
theorem z4l:OpR X (Mt .Pow) (rI CPow λi j=>.int (i ^ j.toNat)):=opI λ_ _ _ _ _ _ _ hc q=>pow_int_small hc.1 hc.2.1 hc.2.2 q
theorem unI{f:Tn->Sem Tn}{g:Int->Int}
 (rule:∀(i:Int) (t:Tok) (s:To) (Q:Tn->To->Prop) (E:Tn->To->Prop),Q (.int (g i) s.toks) { s with toks:=s.toks+1 }->wpAny (model X.prog X.w) X.A (f (.int i t)) Q E s) :
 UnR X f (rU λi=>.int (g i)):=by
 intro pins s σ H x v Q I rx h;obtain⟨i,rfl,q⟩:=h;obtain⟨t,rfl⟩:=rx;exact rule i t s _ _ ⟨.int (g i),H,I.tok _,⟨_,rfl⟩,q⟩
theorem z4p:UnR X (unaryOp .USub) (rU λi=>.int (-i)):=unI λ_ _ _ _ _ q=>neg_int q
end
def scal:V->V->Bool
 | .non,.non=>true | .non,.int _=>true | .int _,.non=>true | .non,.bl _=>true | .bl _,.non=>true | .non,.str _=>true | .str _,.non=>true
 | .int _,.int _=>true | .bl _,.bl _=>true | .str _,.str _=>true | .byt _,.byt _=>true
 | .int _,.str _=>true | .str _,.int _=>true | .bl _,.str _=>true | .str _,.bl _=>true
 | _,_=>false
def rEq:R2:=λx y H Q=>scal x y=true/\Q (.bl (decide (x=y))) H
theorem zzg{i j:Int}:decide (V.int i=V.int j)=(i == j):=by
 rw[J9];simp
theorem z2y{i j:Bool}:decide (V.bl i=V.bl j)=(i == j):=by
 rw[J9];simp
theorem zz7: decide (V.str i=V.str j)=(i == j):=by
 rw[J9];simp
theorem z1o: decide (V.byt i=V.byt j)=(i.toList == j.toList):=by
 rw[J9];cases i;cases j;simp
section
variable {X:Cx}{a b c:Expr}{ta tb tc:TE}{pos:Pos}
theorem zbn{pins:List (Addr×Obj)}{k k':Bool}(I:Inv X pins σ H s)(q:Q (.bl k) H)(e:k=k'):EP X pins σ Q (.bool k') s:=by
 subst e;exact⟨.bl k,H,I,rfl,q⟩
theorem z6c:OpR X (TN .Eq) rEq:=by
 intro pins s σ H x y v u Q I rx ry h;obtain⟨hs,q⟩:=h
 cases x with
 | non=>
   cases rx
   cases y with
   | non=>cases ry;exact PySem.EqNone.eq_none_none (zbn I q (by simp))
   | bl j=>cases ry;exact PySem.EqNone.eq_none_bool (zbn I q (by simp))
   | int j=>obtain⟨t',rfl⟩:=ry;exact PySem.EqNone.eq_none_int (zbn I q (by simp))
   | str j=>obtain⟨t',rfl⟩:=ry;exact PySem.EqNone.eq_none_str (zbn I q (by simp))
   | _=>exact absurd (show false=true from hs) Q8
 | bl i=>
   cases rx
   cases y with
   | non=>cases ry;exact PySem.EqNone.eq_bool_none (zbn I q (by simp))
   | bl j=>cases ry;exact eq_bool (zbn I q z2y)
   | str j=>obtain⟨t',rfl⟩:=ry;exact PySem.EqMixed.eq_bool_str (zbn I q (by simp))
   | _=>exact absurd (show false=true from hs) Q8
 | int i=>
   obtain⟨t,rfl⟩:=rx
   cases y with
   | non=>cases ry;exact PySem.EqNone.eq_int_none (zbn I q (by simp))
   | int j=>obtain⟨t',rfl⟩:=ry;exact eq_int (zbn I q zzg)
   | str j=>obtain⟨t',rfl⟩:=ry;exact PySem.EqMixed.eq_int_str (zbn I q (by simp))
   | _=>exact absurd (show false=true from hs) Q8
 | str i=>
   obtain⟨t,rfl⟩:=rx
   cases y with
   | non=>cases ry;exact PySem.EqNone.eq_str_none (zbn I q (by simp))
   | bl j=>cases ry;exact PySem.EqMixed.eq_str_bool (zbn I q (by simp))
   | int j=>obtain⟨t',rfl⟩:=ry;exact PySem.EqMixed.eq_str_int (zbn I q (by simp))
   | str j=>obtain⟨t',rfl⟩:=ry;exact eq_str (zbn I q zz7)
   | _=>exact absurd (show false=true from hs) Q8
 | byt i=>
   obtain⟨t,rfl⟩:=rx
   cases y with
   | byt j=>obtain⟨t',rfl⟩:=ry;exact PySem.W.eq_bytes (zbn I q z1o)
   | _=>exact absurd (show false=true from hs) Q8
 | _=>cases y <;> exact absurd (show false=true from hs) Q8
theorem z6l:OpR X (TN .Lt) (rI0 λi j=>.bl (decide (i<j))):=opB0 λ_ _ _ _ _ _ _ q=>lt_int q
theorem zr4:OpR X (TN .Gt) (rI0 λi j=>.bl (decide (j<i))):=opB0 λ_ _ _ _ _ _ _ q=>gt_int q
theorem z7k:OpR X (TN .GtE) (rI0 λi j=>.bl (decide (j<=i))):=opB0 λ_ _ _ _ _ _ _ q=>ge_int q
theorem op_in_str:OpR X (TN .In) (λx y H Q=>∃i j,x = .str i/\y = .str j/\Q (.bl (!(Z6 j i 0 j.length 1).isEmpty)) H):=by
 intro pins s σ H x y v u Q I rx ry h;obtain⟨i,j,rfl,rfl,q⟩:=h;obtain⟨t,rfl⟩:=rx;obtain⟨t',rfl⟩:=ry;exact in_str (zbn I q rfl)
theorem zpt:OpR X (TN .IsNot) (λx y H Q=>y = .non/\Q (.bl (!decide (x = .non))) H):=by
 intro pins s σ H x y v u Q I rx ry h;obtain⟨rfl,q⟩:=h;cases ry;refine isnot_none_gen (zbn I q ?_)
 cases x <;> first
  | (cases rx;rfl)
  | (obtain⟨t,rfl⟩:=rx;rfl)
theorem op_notin_str:OpR X (TN .NotIn) (λx y H Q=>∃i j,x = .str i/\y = .str j/\Q (.bl (!(!(Z6 j i 0 j.length 1).isEmpty))) H):=by
 intro pins s σ H x y v u Q I rx ry h;obtain⟨i,j,rfl,rfl,q⟩:=h;obtain⟨t,rfl⟩:=rx;obtain⟨t',rfl⟩:=ry;exact notIn_str (zbn I q rfl)
theorem OpR.or(h:OpR X f r)(h':OpR X f r'):OpR X f (λx y H Q=>r x y H Q\/r' x y H Q):=by
 intro pins s σ H x y v u Q I rx ry q;rcases q with q|q
 .exact h pins s σ H x y v u Q I rx ry q
 .exact h' pins s σ H x y v u Q I rx ry q
theorem zcl(b:Expr)(h:op≠.In:=by decide)(h2:op≠.NotIn:=by decide):Mp op b=false:=by
 have e1:(op == CmpOp.In)=false:=by cases op <;> first|rfl|exact absurd rfl h
 have e2:(op == CmpOp.NotIn)=false:=by cases op <;> first|rfl|exact absurd rfl h2
 cases b <;> simp[Mp,e1,e2]
theorem z0p(ho:OpR X (TN op) r)(ha:PE X a ta)(hb:PE X b tb)(hm:Mp op b=false):PE X (.Compare a [op] [b] pos) (tOp r ta tb):=by
 intro pins s σ H Q I h;exact wpAny_Compare1 (binT ha hb I h λv u s2 x y H2 I2 rx ry q=>ho pins s2 σ H2 x y v u Q I2 rx ry q) hm
def zgg(t:TE):TT:=λσ H Q=>t σ H λx H'=>∃k,x = .bl k/\Q k H'
theorem zff(ho:OpR X (TN op) r)(ha:PE X a ta)(hb:PE X b tb)(hm:Mp op b=false):PT X (.Compare a [op] [b] pos) (zgg (tOp r ta tb)):=by
 intro pins s σ H Q I h
 refine wpAny_isTrue_Compare1 (thn (ha pins s σ H _ I h) λv s1 ⟨x,H1,I1,r1,q1⟩=>thn (hb pins s1 σ H1 _ I1 q1) λu s2 ⟨y,H2,I2,r2,q2⟩=>
  thn (ho pins s2 σ H2 x y v u _ I2 r1 r2 q2) λc s3 ⟨z,H3,I3,r3,k,e,q3⟩=>?_) hm
 subst e;cases r3;exact ML ⟨H3,I3,q3⟩
theorem zg0:(sizeLine:Nat)<2 ^ 63:=by rw[Ts];decide
theorem op_add_str:OpR X (Mt .Add) (λx y H Q=>∃i j,x = .str i/\y = .str j/\i.length+j.length<=sizeLine/\Q (.str (i++j)) H):=by
 intro pins s σ H x y v u Q I rx ry h;obtain⟨i,j,rfl,rfl,hz,q⟩:=h;obtain⟨t,rfl⟩:=rx;obtain⟨t',rfl⟩:=ry;exact add_str (λt' tk=>⟨.str (i++j),H,I.tok _,⟨_,rfl⟩,q⟩) hz
theorem zro(r:Vals [x] us):∃u,us = [u]/\RelV x u:=by
 cases r with
 | cons r1 r2=>cases r2;exact⟨_,rfl,r1⟩
theorem zyg(r:Vals [x,y] us):∃u w',us = [u,w']/\RelV x u/\RelV y w':=by
 cases r with
 | cons r1 r2=>
   cases r2 with
   | cons r3 r4=>cases r4;exact⟨_,_,rfl,r1,r3⟩
theorem zs2(hc:X.calm=true):CallR X (.builtin "max") (λxs H Q=>∃i j,xs = [.int i,.int j]/\Q (.int (if j > i then j else i)) H):=by
 intro pins s σ H xs us Q I r h;obtain⟨i,j,rfl,q⟩:=h;obtain⟨u,w',rfl,⟨t,rfl⟩,⟨t',rfl⟩⟩:=zyg r;refine max_two_ints (I.ok.hd hc) λh' tk k=>⟨_,H,I.kept k,?_,q⟩
 by_cases hj:j > i
 .rw[j7 hj,j7 hj];exact⟨_,rfl⟩
 .rw[j8 hj,j8 hj];exact⟨_,rfl⟩
theorem zsk(hc:X.calm=true):CallR X (.builtin "min") (λxs H Q=>∃i j,xs = [.int i,.int j]/\Q (.int (if j<i then j else i)) H):=by
 intro pins s σ H xs us Q I r h;obtain⟨i,j,rfl,q⟩:=h;obtain⟨u,w',rfl,⟨t,rfl⟩,⟨t',rfl⟩⟩:=zyg r;refine min_two_ints (I.ok.hd hc) λh' tk k=>⟨_,H,I.kept k,?_,q⟩
 by_cases hj:j<i
 .rw[j7 hj,j7 hj];exact⟨_,rfl⟩
 .rw[j8 hj,j8 hj];exact⟨_,rfl⟩
def LenV(K:Qa)(x:V)(H:Hp)(n:Nat):Prop :=
 match x with
 | .str y=>y.length<=sizeLine/\n=y.length
 | .byt y=>y.size<=sizeLine/\n=y.size
 | .ref p=>(∃xs,SqL K H p xs/\n=xs.length)\/∃xs,SqT K H p xs/\n=xs.length
 | _=>False
theorem zh8:CallR X (.builtin "len") (λxs H Q=>∃x n,xs = [x]/\LenV X.K x H n/\Q (.int n) H):=by
 intro pins s σ H xs us Q I r h;obtain⟨x,n,rfl,e,q⟩:=h;obtain⟨u,rfl,rx⟩:=zro r;have hl:=zg0;have hs:sizeLine=16777216:=Ts
 cases x with
 | str y=>
   obtain⟨t,rfl⟩:=rx;obtain⟨hy,e'⟩:y.length<=sizeLine/\n=y.length:=e;subst e';exact len_str (by lia) ⟨.int _,H,I.tok _,⟨_,rfl⟩,q⟩
 | byt y=>
   obtain⟨t,rfl⟩:=rx;obtain⟨hy,e'⟩:y.size<=sizeLine/\n=y.size:=e;subst e';exact PySem.W.len_bytes (by lia) ⟨.int _,H,I.tok _,⟨_,rfl⟩,q⟩
 | ref p=>
   cases rx;have e':(∃xs,SqL X.K H p xs/\n=xs.length)\/∃xs,SqT X.K H p xs/\n=xs.length:=e;rcases e' with ⟨xs,hx,e'⟩|⟨xs,hx,e'⟩
   .subst e';obtain⟨its,r',pl,hz⟩:=I.list hx;have hlen:=r'.length;exact Calls.call_len_list pl.isList (by simp only[Qy];lia) ⟨.int xs.length,H,I.tok _,⟨_,by simp only[Qy];rw[hlen]⟩,q⟩
   .subst e';obtain⟨its,r',pl,hz⟩:=I.tuple hx;have hlen:=r'.length;exact len_tuple pl (by simp only[Qy];lia) ⟨.int xs.length,H,I.tok _,⟨_,by simp only[Qy];rw[hlen]⟩,q⟩
 | _=>exact(show False from e).elim
end
theorem RelO.some_of(r:RelO (some v) o):∃u,o=some u/\RelV v u:=by
 cases o with
 | none=>exact(show False from r).elim
 | some u=>exact⟨u,rfl,r⟩
structure Room(k:Nat)(A:Tv):Prop where
 hd:A.handled=none
 dp:A.depth+3 * k+5<recursionLimit
 un:A.units+16 * k+200<cLine
 gd:A.guards=some []
theorem Room.mono{j k:Nat}(r:Room k A)(h:j<=k):Room j A:=⟨r.hd,by have:=r.dp;lia,by have:=r.un;lia,r.gd⟩
theorem Room.deeper{k:Nat}(r:Room (k+1) A)(env:Env):Room k (A.deeper env) :=
 ⟨r.hd,by have:=r.dp;show A.depth+1+3 * k+5<_;lia,by have:=r.un;show A.units+3+16 * k+200<_;lia,r.gd⟩
theorem Room.depth{k:Nat}(r:Room k A):A.depth<recursionLimit:=by have:=r.dp;lia
theorem Room.units{k:Nat}(r:Room k A):A.units+64<cLine:=by have:=r.un;lia
def tNil:TA:=λ_ H Q=>Q [] H
def za0(ta:TE)(tr:TA):TA:=λσ H Q=>ta σ H λx H1=>tr σ H1 λxs H2=>Q (x::xs) H2
section
variable {X:Cx}{e:Expr}{es:List Expr}{te:TE}{t:TA}{pos:Pos}
theorem zbs:PA X [] tNil:=λ_ _ _ _ H Q I h=>ZJ ⟨[],H,I,.nil,h⟩
theorem za3(ha:PE X e te)(hr:PA X es t)(hs:Tq (e::es) X.env=(false,eval e X.env)::Tq es X.env:=by rfl):PA X (e::es) (za0 te t):=by
 intro pos pins s σ H Q I h;rw[hs];show wpAny _ _ (MY ((false,eval e X.env)::Mi pos (Tq es X.env))) _ _ s;refine Z0 (thn (ha pins s σ H _ I h) λu s1 zz=>?_);obtain⟨x,H1,I1,r1,q1⟩:=zz;exact thn (hr pos pins s1 σ H1 _ I1 q1) λus s2 ⟨xs,H2,I2,r2,q2⟩=>⟨x::xs,H2,I2,.cons r1 r2,q2⟩
def tTup(t:TA):TE:=λσ H Q=>t σ H λxs H1=>xs.length<=sizeLine/\∀p,H1 p=none->Q (.ref p) (upd H1 p (.tup xs))
def tLst(t:TA):TE:=λσ H Q=>t σ H λxs H1=>xs.length<=sizeLine/\∀p,H1 p=none->Q (.ref p) (upd H1 p (.lst xs))
theorem z4n{x1}(h:PA X es t):PE X (.Tuple es x1 pos) (tTup t):=by
 intro pins s σ H Q I hq;refine wpAny_Tuple_spliced (thn (h pos pins s σ H _ I hq) λus s1 ⟨xs,H1,I1,r,z,q⟩=>⟨by rw[<- r.length];exact z,?_⟩);have hf:H1 s1.heap.objs.size=none:=I1.hok.fresh (Qh _);refine⟨.ref s1.heap.objs.size,upd H1 s1.heap.objs.size (.tup xs),I1.laid (t':=s1.toks) (λb u e=>Qe _ e) (Qh _) ?_,rfl,q _ hf⟩;exact⟨z,us,r,⟨_,Qm _ rfl,rfl,_,rfl⟩⟩
theorem zs6(h:PA X es t):PE X (.List es pos) (tLst t):=by
 intro pins s σ H Q I hq;refine wpAny_List_spliced (thn (h pos pins s σ H _ I hq) λus s1 ⟨xs,H1,I1,r,z,q⟩=>⟨by rw[<- r.length];exact z,?_⟩);have hf:H1 s1.heap.objs.size=none:=I1.hok.fresh (Qh _);refine⟨.ref s1.heap.objs.size,upd H1 s1.heap.objs.size (.lst xs),I1.laid (t':=s1.toks) (λb u e=>Qe _ e) (Qh _) ?_,rfl,q _ hf⟩;exact⟨z,us,0,r,Qm _ rfl⟩
end
abbrev Sp:=List V->Hp->VK->XK->Prop
abbrev CXT:=List Env->Hp->To->XK->Tn->To->Prop
structure Env0(P:Tr)(w:Tt)(K:Qa)(mg:Str->Option Tn)(base:Heap)(A:Tv)(outer:List Env)(s:To)(H:Hp):Prop where
 frames:A.frames=some outer
 mod:Mod K mg base
 bs:∀b o,base.get? b=some o->s.heap.get? b=some o/\H b=none
 bsz:base.objs.size<=s.heap.objs.size
 funs:s.heap.FunFrames base outer
 frf:∀b∈frs outer,H b=none
 hok:HOk P w H s.heap
 bare:Nh s.gens
def CE(outer:List Env)(P:Tr)(w:Tt)(H:Hp)(s:To)(Q:VK)(u:Tn)(s':To):Prop :=
 ∃v H',s'.os=s.os/\Nh s'.gens/\Un (frs outer) [] H H' s.heap s'.heap/\HOk P w H' s'.heap/\RelV v u/\Q v H'
def CR(CX:CXT)(outer:List Env)(P:Tr)(w:Tt)(H:Hp)(s:To)(Q:VK)(E:XK)(r:Result)(s':To):Prop :=
 match r with
 | .ok (.ret u)=>CE outer P w H s Q u s'
 | .ok _=>False
 | .error e=>CX outer H s E e s'
structure FnOk(P:Tr)(w:Tt)(K:Qa)(mg:Str->Option Tn)(base:Heap)(CX:CXT)(k:Nat)(f:Addr)(fd:Mx)(ps:List Str)(sp:Sp):Prop where
 len:∀vs H Q E,sp vs H Q E->vs.length=ps.length
 run:∀(A:Tv) (outer:List Env) (s:To) (H:Hp) (args:Args) (us:List Tn) (vs:List V) (Q:VK) (E:XK),Room k A->Env0 P w K mg base A outer s H->jf s fd args (ps.zip us)->Vals vs us->sp vs H Q E ->
  MX (model P w) A (.call (.ref f) args) (CR CX outer P w H s Q E) s
theorem FnOk.mono{P:Tr}{w:Tt}{K:Qa}{mg:Str->Option Tn}{base:Heap}{CX:CXT}{j k:Nat}{f:Addr}{fd:Mx}{ps:List Str}{sp:Sp}(F:FnOk P w K mg base CX j f fd ps sp)(h:j<=k):
 FnOk P w K mg base CX k f fd ps sp:=⟨F.len,λA outer s H args us vs Q E hr=>F.run A outer s H args us vs Q E (hr.mono h)⟩
theorem Env0.in1{P:Tr}{w:Tt}{K:Qa}{mg:Str->Option Tn}{base:Heap}{A:Tv}{outer:List Env}{s:To}{H:Hp}(e:Env0 P w K mg base A outer s H):
 Env0 P w K mg base A.in1 outer s H:=⟨e.frames,e.mod,e.bs,e.bsz,e.funs,e.frf,e.hok,e.bare⟩
section
variable {X:Cx}{pins:List (Addr×Obj)}{σ:St}{H:Hp}{s s':To}
theorem Inv.env0(I:Inv X pins σ H s):Env0 X.prog X.w X.K X.mg X.base X.A X.stack s H :=
 ⟨I.ok.frames,I.ok.mod,I.bs,QY I.ok.bsz I.sz,I.stack,I.stkFree,I.hok,I.bare⟩
theorem Inv.after(I:Inv X pins σ H s)(h:CE X.stack X.prog X.w H s Q u s'):EP X pins σ Q u s':=by
 obtain⟨v,H',os,bare,un,hok,r,q⟩:=h;obtain⟨hh,g,d,t,os'⟩:=s';obtain rfl:os'=s.os:=os;exact⟨v,H',I.call (h':=hh) (g':=g) (d':=d) (t':=t) (ch:=[]) un hok bare (λb z=>absurd z (by simp)),r,q⟩
end
def zds(sp:Sp)(dvs:List V)(E:XK)(t:TA):TE:=λσ H Q=>t σ H λvs H1=>sp (vs++dvs) H1 Q E
def Binds(K:Qa)(fd:Mx)(ps:List Str)(ds:List Tn):Prop :=
 ∀(s:To) (us:List Tn),K.In s.heap->(us++ds).length=ps.length->jf s fd ⟨us,[]⟩ (ps.zip (us++ds))
theorem Binds.all{K:Qa}{fd:Mx}{ps:List Str}(h:∀us:List Tn,us.length=ps.length->My fd ⟨us,[]⟩=pure (ps.zip us)):Binds K fd ps []:=λs us _ hl=>by
 rw[ZK] at hl ⊢;exact .of_eq (h us hl)
def zmj(CX:CXT)(X:Cx)(E:XK):Prop:=∀(pins:List (Addr×Obj)) (σ:St) (H:Hp) (s:To) (e:Tn) (s':To),Inv X pins σ H s->CX X.stack H s E e s'->X.xe e s'
section
variable {X:Cx}{CX:CXT}{k:Nat}{f C:Addr}{fd:Mx}{ps:List Str}{sp:Sp}{dvs:List V}{ds:List Tn}{E:XK}{x m:Str}{p pos apos:Pos}{e o:Expr}{es:List Expr}{ta:TE}{t:TA}
theorem z4g{pins:List (Addr×Obj)}(F:FnOk X.prog X.w X.K X.mg X.base CX k f fd ps sp)(hr:Room k X.A)(hb:Binds X.K fd ps ds)(hd:Vals dvs ds)(hx:zmj CX X E)
 (I:Inv X pins σ H s) (r:Vals vs us) (h:sp (vs++dvs) H Q E):wpAny (model X.prog X.w) X.A (call (.ref f) us) (EP X pins σ Q) X.xe s:=by
 have r2:Vals (vs++dvs) (us++ds):=r.append hd;have hl:(us++ds).length=ps.length:=by rw[<- r2.length];exact F.len _ _ _ _ h
 refine je (Mw (F.run X.A X.stack s H ⟨us,[]⟩ (us++ds) (vs++dvs) Q E hr I.env0 (hb s us I.kIn hl) r2 h) λr s' hq=>?_)
 cases r with
 | error e=>exact hx pins σ H s e s' I hq
 | ok fl=>
   cases fl with
   | ret u=>exact I.after hq
   | next=>exact Jk hq
   | brk=>exact Jk hq
   | cont=>exact Jk hq
theorem zfg(F:FnOk X.prog X.w X.K X.mg X.base CX k f fd ps sp)(hr:Room k X.A)(hg:Gl X x)(hm:X.mg x=some (.ref f))(hk:Yi X.K (.ref f)=true)(hb:Binds X.K fd ps ds)(hd:Vals dvs ds)(hx:zmj CX X E)
 (ha:PA X (e::es) t) (hdb:(x == ("__debug__" : Str))=false:=by decide) (he:Tq (e::es) X.env=(false,eval e X.env)::Tq es X.env:=by rfl) (hpl:(Mi pos (Tq es X.env)).any (·.1)=false:=by rfl) :
 PE X (.Call (.Name x p) (e::es) [] pos) (zds sp dvs E t):=by
 intro pins s σ H Q I h;refine TL (zpr I hg hm ?_ hdb);refine PySem.W.callWith_K (h₀:=X.base) I.ok.mod.kin hk (thn (ha pos pins s σ H _ I h) λus s1 ⟨vs,H1,I1,r,q⟩=>⟨I1.kIn,?_⟩) he hpl;exact z4g F hr hb hd hx I1 r q
end
structure FnScope(N P:List Str)(sc:Mn):Prop where
 kind:sc.kind = .function
 co:sc.isCoroutine=false
 gen:sc.isGenerator=false
 nd:N.Nodup
 pre:N.take P.length=P
 par:∀x∈P,sc.names.lookup x=some .local\/sc.names.lookup x=some .cell
 nofree:∀y∈sc.names,y.2≠.free
theorem zlc{kindOf:Str->Option Ms}: ∀{binds:List (Str×Tn)} {m:Str->Option Tn},(∀v,(x,v) ∉ binds)->j1 kindOf binds m x=m x
 | [],_,_=>rfl
 | (n,v)::r,m,h=>by
   unfold j1;rw[zlc λw hw=>h w (Qf _ hw)]
   split
   .have:x≠n:=by rintro rfl;exact h v Qp
    simp[this]
   .rfl
theorem zlp{kindOf:Str->Option Ms}: ∀{binds:List (Str×Tn)} {m:Str->Option Tn},(∀v,(x,v) ∉ binds)->j0 kindOf binds m x=m x
 | [],_,_=>rfl
 | (n,v)::r,m,h=>by
   unfold j0;rw[zlp λw hw=>h w (Qf _ hw)]
   split
   .rfl
   .have:x≠n:=by rintro rfl;exact h v Qp
    simp[this]
theorem zk8{kindOf:Str->Option Ms}: ∀{P:List Str} {vs:List Tn} {i:Nat} {m:Str->Option Tn},P.Nodup->P[i]? = some x->vs[i]? = some v->kindOf x=some .local ->
 j1 kindOf (P.zip vs) m x=some v
 | [],_,_,_,_,h,_,_=>by simp at h
 | _::_,[],_,_,_,_,h,_=>by simp at h
 | p::P,w::vs,0,m,nd,h1,h2,hk=>by
   simp at h1 h2;subst h1;subst h2;show j1 kindOf ((p,w)::P.zip vs) m p=_;unfold j1;rw[zlc λv hv=>(Jh.mp nd).1 (JW hv).1,j7 hk];simp
 | p::P,w::vs,i+1,m,nd,h1,h2,hk=>by
   show j1 kindOf ((p,w)::P.zip vs) m x=_;unfold j1;exact zk8 (i:=i) (Jh.mp nd).2 (by simpa using h1) (by simpa using h2) hk
theorem zll{kindOf:Str->Option Ms}: ∀{P:List Str} {vs:List Tn} {i:Nat} {m:Str->Option Tn},P.Nodup->P[i]? = some x->vs[i]? = some v->kindOf x≠some .local ->
 j0 kindOf (P.zip vs) m x=some v
 | [],_,_,_,_,h,_,_=>by simp at h
 | _::_,[],_,_,_,_,h,_=>by simp at h
 | p::P,w::vs,0,m,nd,h1,h2,hk=>by
   simp at h1 h2;subst h1;subst h2;show j0 kindOf ((p,w)::P.zip vs) m p=_;unfold j0;rw[zlp λv hv=>(Jh.mp nd).1 (JW hv).1,j8 hk];simp
 | p::P,w::vs,i+1,m,nd,h1,h2,hk=>by
   show j0 kindOf ((p,w)::P.zip vs) m x=_;unfold j0;exact zll (i:=i) (Jh.mp nd).2 (by simpa using h1) (by simpa using h2) hk
def start(N:List Str)(vs:List V):St:=vs.map some++QG (N.length-vs.length) none
def cxOf(CX:CXT)(P:Tr)(w:Tt)(K:Qa)(mg:Str->Option Tn)(base:Heap)(N:List Str)(qual:Str)(scope:Mn)(f:Addr)(cd:Tn)(A:Tv)(outer:List Env)(s:To)(H:Hp)(E:XK):Cx where
 prog:=P
 w:=w
 K:=K
 mg:=mg
 base:=base
 A:=A.deeper (N4 qual scope s.heap.objs.size f cd)
 N:=N
 s₀:=s
 H₀:=H
 env:=N4 qual scope s.heap.objs.size f cd
 outer:=outer
 stack:=N4 qual scope s.heap.objs.size f cd::outer
 ex:=[]
 calm:=true
 fn:=λ_=>true
 pn:=[]
 xe:=λe s'=>wpAny (model P w) (A.deeper (N4 qual scope s.heap.objs.size f cd)) (leaving (N4 qual scope s.heap.objs.size f cd) e) (λ_ s''=>CX outer H s E e s'') (λe' s''=>CX outer H s E e' s'') s'
theorem zod{sc:Mn}{n:Nat}{x:Str}(h:sc.names.lookup x=some .cell):∃c,(Mb n sc.names []).lookup x=some c:=by
 have q:=Y4 sc.names n [] (.inl h);exact JL.mp q
theorem zuk{CX:CXT}{P:Tr}{w:Tt}{K:Qa}{mg:Str->Option Tn}{base:Heap}{N ps:List Str}{qual:Str}{scope:Mn}{f:Addr}{cd:Tn}{A:Tv}{outer:List Env}{s s1:To}{H:Hp}{E:XK}{us:List Tn}{vs:List V}
 (S:FnScope N ps scope) (hd:A.handled=none) (e0:Env0 P w K mg base A outer s H) (hl:vs.length=ps.length) (r:Vals vs us)
 (x:InCallC s s.heap.objs.size (j1 (N4 qual scope s.heap.objs.size f cd).kindOf (ps.zip us) λ_=>none) (Mb (s.heap.objs.size+1) scope.names []) (j0 (N4 qual scope s.heap.objs.size f cd).kindOf (ps.zip us) λ_=>none) s1) :
 Inv (cxOf CX P w K mg base N qual scope f cd A outer s H E) [] (start N vs) H s1:=by
 have hpl:ps.length<=N.length:=by have:=jF JB S.pre;rw[QX] at this;lia
 obtain⟨h1,tk,rfl,hk⟩:=x.done;have noA:∀b:Addr,b ∉ (cxOf CX P w K mg base N qual scope f cd A outer s H E).ex:=λb z=>absurd (show b∈([]:List Addr) from z) (by simp)
 refine⟨⟨e0.mod,S.kind,rfl,rfl,Qh _,λy z c h1 h2=>?_,λy hy=>?_,λy c _ h=>?_,λ_=>hd,Around.frames_deeper e0.frames,.inr ⟨rfl,rfl⟩,λb z=>absurd z (noA b),e0.bs,e0.bsz,λb _ _=>noA b,λb z=>absurd z (noA b),e0.funs,e0.frf⟩,
  rfl,e0.bare,Un.kept hk,⟨_,x.toInCall.ns,λi y v h1 h2 h3=>?_⟩,λy c h=>⟨_,x.cell y c h⟩,e0.hok.fresh (Qh _),λy c h=>?_,λp hp=>absurd (show p∈([]:List (Addr×Obj)) from hp) (by simp),e0.hok.kept hk,?_⟩
 .exact name_of_addr x.apart (ZQ h1) (ZQ h2)
 .have hy:scope.names.lookup y=some .cell\/scope.names.lookup y=some .free:=hy;rcases hy with hy|hy
  .exact zod hy
  .exact absurd rfl (S.nofree _ (ZQ hy))
 .exact JA (x.above y c (ZQ h))
 .have hi:i<vs.length:=by
   unfold start at h2
   by_cases hi:i<vs.length
   .exact hi
   .rw[Z7 (by simpa using hi)] at h2;rw[ZU] at h2
    split at h2 <;> cases h2
  have ha:vs[i]? = some v:=by
   unfold start at h2;rw[Zr (by simpa using hi),Qj] at h2
   cases e:vs[i]? with
   | none=>rw[e] at h2;cases h2
   | some a=>rw[e] at h2;cases h2;rfl
  obtain⟨u,hu,rv⟩:=r.get ha
  have hp:ps[i]? = some y:=by
   rw[<- S.pre,List.getElem?_take_of_lt (by lia)];exact h1
  have ndP:ps.Nodup:=by rw[<- S.pre];exact S.nd.sublist (List.take_sublist _ _)
  refine⟨u,rv,?_⟩;rcases S.par y (Qn hp) with k|k
  .exact .inl ⟨k,zk8 ndP hp hu k⟩
  .obtain⟨c,e⟩:=zod (n:=s.heap.objs.size+1) k;refine .inr ⟨.inl k,c,e,?_⟩;have q:=x.cell y c e;rw[zll ndP hp hu (by show scope.names.lookup y≠_;rw[k];decide)] at q;exact q
 .exact e0.hok.fresh (JA (x.above y c (ZQ h)))
 .unfold start;show _=N.length;rw[Qq,Qc,Z4];lia
theorem z6x{CX:CXT}{P:Tr}{w:Tt}{K:Qa}{mg:Str->Option Tn}{base:Heap}{k:Nat}{f:Addr}{name qual:Str}{params:Arguments}{body:List Stmt}{scope:Mn}{dV kV doc pm cdv ct oc:Tn}{an od:Option Addr}
 {osl:Array (Option Tn)} {N ps:List Str} {sp:Sp} (lk:K.lookup f=some ⟨oc,od,.func (Jd name qual params body scope dV kV doc pm an cdv ct),osl⟩) (hcd:Y5 K cdv qual=true) (S:FnScope N ps scope)
 (len:∀vs H Q E,sp vs H Q E->vs.length=ps.length)
 (hbody:∀(A:Tv) (outer:List Env) (s:To) (H:Hp) (vs:List V) (Q:VK) (E:XK),Room k (A.deeper (N4 qual scope s.heap.objs.size f cdv))->sp vs H Q E ->
  ∃t,PSs (cxOf CX P w K mg base N qual scope f cdv A outer s H E) body t/\t { nx:=λ_ H'=>Q .non H',rt:=Q } (start N vs) H) :
 FnOk P w K mg base CX (k+1) f (Jd name qual params body scope dV kV doc pm an cdv ct) ps sp:=by
 refine⟨len,λA outer s H args us vs Q E hr e0 hb r hsp=>?_⟩;have hl:=len _ _ _ _ hsp;have KX:K.In s.heap:=e0.mod.kin.keeps λb o e=>(e0.bs b o e).1;have lim:s.heap.NoLimit:=e0.mod.nolimit.keeps λb o e=>(e0.bs b o e).1
 have hkind:∀y∈ps.zip us,scope.names.lookup y.1=some .local\/(scope.names.lookup y.1=some .cell/\((Mb (s.heap.objs.size+1) scope.names []).lookup y.1).isSome=true):=λ⟨n,v⟩ hy=>by
  rcases S.par n (JW hy).1 with q|q
  .exact .inl q
  .exact .inr ⟨q,Y4 _ _ _ (.inl q)⟩
 refine codeAny_call_function hr.depth (KX _ _ lk) rfl S.co S.gen rfl (PySem.W.codeRec_of KX hcd) (hb _ _ _ _ ?_);refine wpAny_newFunctionEnv_cells S.kind hkind λenv he s1 x=>?_;subst he;refine⟨lim.keeps x.toInCall.keep,codeAny_func ?_⟩;obtain⟨t,ht,hq⟩:=hbody A outer s H vs Q E (hr.deeper _) hsp;have I:Inv (cxOf CX P w K mg base N qual scope f cdv A outer s H E) [] (start N vs) H s1:=zuk S hr.hd e0 hl r x;refine TQ (ht [] s1 (start N vs) H _ I hq) (λfl s' hs=>?_) λe s' hs=>hs
 have fin:∀{σ':St} {H':Hp} {v:V} {u:Tn},Inv (cxOf CX P w K mg base N qual scope f cdv A outer s H E) [] σ' H' s'->RelV v u->Q v H'->CE outer P w H s Q u s' :=
  λ{σ' H' v u} J rv q=>⟨v,H',J.os,J.bare,J.base,J.hok,rv,q⟩
 cases fl with
 | ret u=>
   obtain⟨v,σ',H',J,rv,q⟩:=hs;exact fin J rv q
 | next=>
   obtain⟨σ',H',J,q⟩:=hs;exact fin (v:=V.non) (u:=ZP) J rfl q
 | brk=>
   obtain⟨_,_,_,q⟩:=hs;exact Jk q
 | cont=>
   obtain⟨_,_,_,q⟩:=hs;exact Jk q
section
variable {X:Cx}{x:Str}{p pos:Pos}{e:Expr}{es:List Expr}{t:TA}{id T:String}{r:List V->Hp->VK->Prop}
def tCB(r:List V->Hp->VK->Prop)(t:TA):TE:=λσ H Q=>t σ H λvs H1=>r vs H1 Q
theorem zeo(hc:CallR X (.builtin id) r)(hg:Gl X x)(hm:X.mg x=none)(hv:TK x=some (.builtin id))(ha:PA X (e::es) t)(hn:x ≠ "__name__" := by decide)(hdb:(x == ("__debug__" : Str))=false:=by decide)
 (he:Tq (e::es) X.env=(false,eval e X.env)::Tq es X.env:=by rfl) (hpl:(Mi pos (Tq es X.env)).any (·.1)=false:=by rfl):PE X (.Call (.Name x p) (e::es) [] pos) (tCB r t):=by
 intro pins s σ H Q I h;refine TL (zcf I hg hm hv ?_ hn hdb);exact JN (thn (ha pos pins s σ H _ I h) λus s1 ⟨vs,H1,I1,r1,q1⟩=>hc pins s1 σ H1 vs us Q I1 r1 q1) he hpl
theorem zlo(hc:CallR X (.type T) r)(hg:Gl X x)(hm:X.mg x=none)(hv:TK x=some (.type T))(ha:PA X (e::es) t)(hn:x ≠ "__name__" := by decide)(hdb:(x == ("__debug__" : Str))=false:=by decide)
 (he:Tq (e::es) X.env=(false,eval e X.env)::Tq es X.env:=by rfl) (hpl:(Mi pos (Tq es X.env)).any (·.1)=false:=by rfl):PE X (.Call (.Name x p) (e::es) [] pos) (tCB r t):=by
 intro pins s σ H Q I h;refine TL (zcf I hg hm hv ?_ hn hdb);exact Zs (thn (ha pos pins s σ H _ I h) λus s1 ⟨vs,H1,I1,r1,q1⟩=>hc pins s1 σ H1 vs us Q I1 r1 q1) he hpl
end
end L2
namespace HT
open PySem PyProof.Rows
section
variable {prog:Tr}{w:Tt}{A:Tv}{E:Tn->To->Prop}{s:To}
theorem cat_tup(ht:IsTup s.heap t vs.toArray)(hb:IsTup s.heap b ws.toArray)(hv:vs≠[])
 (h1:ws = []->Q (.ref t) s) (h2:ws≠[]->Q (.ref s.heap.objs.size) { s with heap:=s.heap.push { cls:=.type "tuple",data:=.seq (vs++ws).toArray } })
 (hsz:vs.length+ws.length<=sizeLine):wpAny (model prog w) A (Mt .Add (.ref t) (.ref b)) Q E s:=by
 obtain⟨⟨cls,dd,data,sl⟩,ho,hc,n,hd⟩:=id ht;obtain⟨⟨cls2,dd2,data2,sl2⟩,ho2,hc2,n2,hd2⟩:=id hb;simp only at hc hd hc2 hd2;subst hc hd hc2 hd2;have e:vs.toArray++ws.toArray=(vs++ws).toArray:=by simp
 by_cases hw:ws = []
 .exact ji ⟨_,ho,rfl⟩ ⟨_,ho2,rfl⟩ Nr NY Y6 Y1 (Yq _ _)
   (tuple_addW1 t b vs.toArray ws.toArray n n2 dd dd2 sl sl2 (by simpa using hv) (by simp[hw])) ⟨ho,ho2,h1 hw⟩
 .refine ji ⟨_,ho,rfl⟩ ⟨_,ho2,rfl⟩ Nr NY Y6 Y1 (Yq _ _)
   (tuple_addW2 t b vs.toArray ws.toArray n n2 dd dd2 sl sl2 (by simpa using hv) (by simpa using hw) (by rw[Qy,Qy];exact hsz)) ⟨ho,ho2,?_⟩
  rw[e];exact h2 hw
def sIx(n d:Nat):Option Int->Nat
 | none=>d
 | some v=>if v<0 then(v+(n:Int)).toNat else min v.toNat n
theorem sIx_le(n d:Nat)(hd:d<=n)(o:Option Int):sIx n d o<=n:=by
 cases o with
 | none=>exact hd
 | some v=>
   show(if v<0 then(v+(n:Int)).toNat else min v.toNat n)<=n
   by_cases hv:v<0
   .rw[j7 hv];lia
   .rw[j8 hv];exact Nat.min_le_right _ _
theorem clip_eq(v:Int)(n d:Nat):(if v<0 then max (v+(n:Int)) 0 else min v (n:Int))=((sIx n d (some v):Nat):Int):=by
 show(if v<0 then max (v+(n:Int)) 0 else min v (n:Int))=(((if v<0 then(v+(n:Int)).toNat else min v.toNat n):Nat):Int)
 by_cases hv:v<0
 .simp only[j7 hv];lia
 .simp only[j8 hv];lia
theorem zq6(lo hi:Option Int)(n:Nat):Yn lo hi 1 (n:Int)=(((sIx n 0 lo:Nat):Int),((sIx n n hi:Nat):Int)):=by
 have h1:¬((1:Int)<0):=by lia
 unfold Yn;simp only[h1,jD];refine Prod.ext ?_ ?_
 .cases lo with
  | none=>rfl
  | some v=>exact clip_eq v n 0
 .cases hi with
  | none=>rfl
  | some v=>exact clip_eq v n n
theorem zsc(i j:Nat):J7 (i:Int) (j:Int) 1=j-i:=by
 unfold J7;have h1:(1:Int) > 0:=by lia
 simp only[h1,jE,Int.ediv_one]
 split <;> lia
theorem zjn(p:Nz v o)(h:Q o s):wpAny (model prog w) A (Builtin.Slice.slicePartIndex v) Q E s:=by
 cases p with
 | none=>exact slicePart_none h
 | int i t=>exact slicePart_int h
theorem sliceApplied_gen{sl:Addr}{vl vu:Tn}{lo hi:Option Int}{n:Nat}{Q:Int×Int×Nat->To->Prop}(hs:s.heap.IsSliceOf sl vl vu .none)(pl:Nz vl lo)(pu:Nz vu hi)
 (h:Q (((sIx n 0 lo:Nat):Int),1,sIx n n hi-sIx n 0 lo) s):wpAny (model prog w) A (Vr (.ref sl) (pure (n:Int))) Q E s:=by
 obtain⟨os,hos,hcs,hds⟩:=id hs;unfold Vr Builtin.Slice.sliceFields;refine Tj (Tj (TJ hos hds (x:=vl) rfl (Tj (TJ hos hds (x:=vu) rfl (Tj (TJ hos hds (x:=.none) rfl (Tk ?_)))))));refine Tj (slicePart_none ?_);show wpAny _ _ (if((1:Int) == 0)=true then _ else _) _ _ s;rw[j8 (by decide)];refine Tj (zjn pl (Tj (zjn pu (Tj (Tk ?_)))));show wpAny _ _ (match Yn lo hi 1 (n:Int) with|(lo,hi)=>pure (lo,(1:Int),J7 lo hi 1)) _ _ s;rw[zq6 lo hi n];show wpAny _ _ (pure (((sIx n 0 lo:Nat):Int),(1:Int),J7 ((sIx n 0 lo:Nat):Int) ((sIx n n hi:Nat):Int) 1)) _ _ s;rw[zsc];exact Tk h
theorem zw5(xs:Array Tn)(i k:Nat):((QH k).filterMap λ(m:Nat)=>xs[((i:Int)+(m:Int) * 1).toNat]?).toArray=((xs.toList.drop i).take k).toArray:=by
 have e:(λ(m:Nat)=>xs[((i:Int)+(m:Int) * 1).toNat]?)=λm=>xs[i+m]?:=by
  funext m;have:((i:Int)+(m:Int) * 1).toNat=i+m:=by lia
  rw[this]
 rw[e];have:=pick_run xs i k;rw[List.filterMap_map] at this;have e2:((λx=>xs[x]?) ∘ λx=>i+x)=λm=>xs[i+m]?:=rfl;rw[e2] at this;rw[this]
theorem getItem_tuple_cut{t sl:Addr}{items:Array Tn}{vl vu:Tn}{lo hi:Option Int}{Q:Tn->To->Prop}(ht:IsTup s.heap t items)(hs:s.heap.IsSliceOf sl vl vu .none)(pl:Nz vl lo)(pu:Nz vu hi)
 (hw:¬(sIx items.size 0 lo=0/\sIx items.size items.size hi=items.size))
 (h:Q (.ref s.heap.objs.size) { s with heap:=s.heap.push { cls:=.type "tuple",data:=.seq ((items.toList.drop (sIx items.size 0 lo)).take (sIx items.size items.size hi-sIx items.size 0 lo)).toArray } })
 (hsz:items.size<=sizeLine):wpAny (model prog w) A (MN (.ref t) (.ref sl)) Q E s:=by
 have htake:sizeOk (.seq ((items.toList.drop (sIx items.size 0 lo)).take (sIx items.size items.size hi-sIx items.size 0 lo)).toArray):=by
  show((items.toList.drop (sIx items.size 0 lo)).take (sIx items.size items.size hi-sIx items.size 0 lo)).toArray.size<=sizeLine;rw[Qy,QX,Z8,QV];lia
 have hj:sIx items.size items.size hi<=items.size:=sIx_le _ _ (Qh _) hi;obtain⟨os,hos,hcs,hds⟩:=id hs;have hTs:s.TypeIs (.ref sl) "slice" := ⟨os,hos,hcs⟩;unfold MN
 try with_reducible refine TF ?_
 first|refine Tj (Tk ?_)|skip
 refine Tj (wpAny_sequenceKey ht.typeIs (by decide) ?_)
 refine Tj (TC (name:=QS "__getitem__") ht.typeIs Z3
  (Tw Z3 ht.typeIs entry_tuple_getitem ?_ (args_tuple_getitem _ _)))
 show wpAny _ _ (Yj (.ref t) >>= _) _ _ s;refine Tj (tupleItemsOf_ ht ?_);refine Tj (Mo hTs ?_);rw[j7 (by decide)];refine Tj (sliceApplied_gen hs pl pu ?_)
 have hno:¬((((sIx items.size 0 lo:Nat):Int) == 0 && (1:Int) == 1 && (sIx items.size items.size hi-sIx items.size 0 lo) == items.size)=true):=by
  intro q;rw[Qx,Qx] at q;have q1:((sIx items.size 0 lo:Nat):Int)=0:=eq_of_beq q.1.1;have q2:sIx items.size items.size hi-sIx items.size 0 lo=items.size:=eq_of_beq q.2;exact hw ⟨by lia,by lia⟩
 show wpAny _ _ (if(((sIx items.size 0 lo:Nat):Int) == 0 && (1:Int) == 1 && (sIx items.size items.size hi-sIx items.size 0 lo) == items.size)=true then _ else _) _ _ s;rw[j8 hno,zw5]
 first
  | exact Tj (m:=JM _) (Tz (Tk ⟨_,rfl,Tk h⟩) htake)
  | exact Tj (m:=JM _) (Tz (Tj (Tk (Tk ⟨_,rfl,Tk h⟩))) htake)
  | exact Tj (Tj (m:=JM _) (Tz (Tk (Tk ⟨_,rfl,Tk h⟩)) htake))
  | exact Tj (Tj (m:=JM _) (Tz (Tk ⟨_,rfl,Tk h⟩) htake))
end
end HT
namespace L2
open PySem PySem.Spec PyProof.Rows
abbrev TO:=St->Hp->(Option Int->Hp->Prop)->Prop
def PO(X:Cx)(e:Option Expr)(t:TO):Prop :=
 ∀(pins:List (Addr×Obj)) (s:To) (σ:St) (H:Hp) (Q:Option Int->Hp->Prop),Inv X pins σ H s->t σ H Q ->
   wpAny (model X.prog X.w) X.A (evalPart e X.env) (λu s'=>∃o H',Inv X pins σ H' s'/\Nz u o/\Q o H') X.xe s
def zo1:TO:=λ_ H Q=>Q none H
def zl8(t:TE):TO:=λσ H Q=>t σ H λx H1=>∃i,x = .int i/\Q (some i) H1
section
variable {X:Cx}{e:Expr}{te:TE}{lo hi:Option Expr}{tl th:TO}{pos p2:Pos}
theorem z1f:PO X none zo1:=by
 intro pins s σ H Q I h;rw[evalPart_none];exact Tk ⟨none,H,I,.none,h⟩
theorem zkw(h:PE X e te):PO X (some e) (zl8 te):=by
 intro pins s σ H Q I hw;rw[evalPart_some];refine thn (h pins s σ H _ I hw) λu s1 zz=>?_;obtain⟨x,H1,I1,r1,q1⟩:=zz;obtain⟨i,rfl,q⟩:=q1;obtain⟨t,rfl⟩:=r1;exact⟨some i,H1,I1,.int i t,q⟩
def SlR(X:Cx)(r:V->Option Int->Option Int->Hp->VK->Prop):Prop :=
 ∀(pins:List (Addr×Obj)) (s:To) (σ:St) (H:Hp) (x:V) (v vl vu:Tn) (lo hi:Option Int) (sl:Addr) (Q:VK),Inv X pins σ H s->RelV x v->s.heap.IsSliceOf sl vl vu .none->Nz vl lo->Nz vu hi->r x lo hi H Q ->
   ∃T id,jd (.type T) "__getitem__" = pure (some (.builtin id))/\s.TypeIs v T/\wpAny (model X.prog X.w) X.A (MN v (.ref sl)) (EP X pins σ Q) X.xe s
theorem SlR.or(h:SlR X r)(h':SlR X r'):SlR X (λx lo hi H Q=>r x lo hi H Q\/r' x lo hi H Q):=by
 intro pins s σ H x v vl vu lo hi sl Q I rx hs pl pu q;rcases q with q|q
 .exact h pins s σ H x v vl vu lo hi sl Q I rx hs pl pu q
 .exact h' pins s σ H x v vl vu lo hi sl Q I rx hs pl pu q
def tSl(r:V->Option Int->Option Int->Hp->VK->Prop)(te:TE)(tl th:TO):TE:=λσ H Q=>te σ H λx H1=>tl σ H1 λl H2=>th σ H2 λu H3=>r x l u H3 Q
theorem znw(hr:SlR X r)(he:PE X e te)(hl:PO X lo tl)(hu:PO X hi th):PE X (.Subscript e (.Slice lo hi none p2) pos) (tSl r te tl th):=by
 intro pins s σ H Q I h;refine Subscript_ (thn (he pins s σ H _ I h) λv s1 zz=>?_);obtain⟨x,H1,I1,r1,q1⟩:=zz;refine wpAny_Slice (thn (hl pins s1 σ H1 _ I1 q1) λvl s2 ⟨l,H2,I2,pl,q2⟩=>thn (hu pins s2 σ H2 _ I2 q2) λvu s3 zz=>?_);obtain⟨u,H3,I3,pu,q3⟩:=zz;rw[evalPart_none];refine Tk ?_;have I4:Inv X pins σ H3 { s3 with heap:=s3.heap.push { cls:=.type "slice",data:=.fields #[vl,vu,.none] } }:=I3.kept (t':=s3.toks) λb ob q=>Qe _ q;obtain⟨T,id,hT,ht,hg⟩:=hr pins { s3 with heap:=s3.heap.push { cls:=.type "slice",data:=.fields #[vl,vu,.none] } } σ H3 x v vl vu l u s3.heap.objs.size Q I4 r1 (Heap.IsSliceOf.new ..) pl pu q3;show wpAny (model X.prog X.w) X.A (ja e (.Slice lo hi none p2) v (.ref s3.heap.objs.size)) (EP X pins σ Q) X.xe { s3 with heap:=s3.heap.push { cls:=.type "slice",data:=.fields #[vl,vu,.none] } };exact tail_any (ops:=[.ref s3.heap.objs.size,v]) ht hT hg (by with_unfolding_all rfl)
def cutV(xs:List V)(lo hi:Option Int):List V:=(xs.drop (HT.sIx xs.length 0 lo)).take (HT.sIx xs.length xs.length hi-HT.sIx xs.length 0 lo)
theorem zh6(xs:List V)(lo hi:Option Int):(cutV xs lo hi).length<=xs.length:=by
 unfold cutV;rw[QX,Z8];lia
def rSlT(K:Qa):V->Option Int->Option Int->Hp->VK->Prop:=λx lo hi H Q=>∃a xs,x = .ref a/\SqT K H a xs /\
 ¬(HT.sIx xs.length 0 lo=0/\HT.sIx xs.length xs.length hi=xs.length)/\∀p,H p=none->Q (.ref p) (upd H p (.tup (cutV xs lo hi)))
theorem sl_tup:SlR X (rSlT X.K):=by
 intro pins s σ H x v vl vu lo hi sl Q I rx hs pl pu h;obtain⟨a,xs,rfl,hx,hw,q⟩:=h;cases rx;obtain⟨its,r,ht,hz⟩:=I.tuple hx;have hlen:its.toArray.size=xs.length:=by rw[Qy];exact r.length.symm
 refine⟨"tuple",_,Z3.lookup,ht.typeIs,?_⟩;refine HT.getItem_tuple_cut ht hs pl pu (by rw[hlen];exact hw) ?_ (by rw[hlen];exact hz);rw[hlen];refine⟨.ref s.heap.objs.size,_,I.laid (t':=s.toks) (o:=.tup (cutV xs lo hi)) (λb ob q=>Qe _ q) (Qh _) ?_,rfl,q _ (I.hok.fresh (Qh _))⟩;exact⟨QY (zh6 xs lo hi) hz,_,(r.drop (HT.sIx xs.length 0 lo)).take (HT.sIx xs.length xs.length hi-HT.sIx xs.length 0 lo),Go _ _⟩
def zyr(K:Qa):R2:=λx y H Q=>∃a b xs ys,x = .ref a/\y = .ref b/\SqT K H a xs/\SqT K H b ys/\xs≠[]/\xs.length+ys.length<=sizeLine /\
 (ys = []->Q (.ref a) H)/\(ys≠[]->∀p,H p=none->Q (.ref p) (upd H p (.tup (xs++ys))))
theorem Vals.nil_iff(r:Vals xs us):us = []↔xs = []:=by
 cases r with
 | nil=>simp
 | cons _ _=>simp
theorem op_catT:OpR X (Mt .Add) (zyr X.K):=by
 intro pins s σ H x y v u Q I rx ry h;obtain⟨a,b,xs,ys,rfl,rfl,ha,hb,hx,hz,q1,q2⟩:=h;cases rx;cases ry;obtain⟨its,r1,p1,_⟩:=I.tuple ha;obtain⟨its2,r2,p2,_⟩:=I.tuple hb;refine HT.cat_tup p1 p2 (λz=>hx (r1.nil_iff.mp z)) (λz=>⟨.ref a,H,I,rfl,q1 (r2.nil_iff.mp z)⟩) (λz=>?_) (by rw[<- r1.length,<- r2.length];exact hz);refine⟨.ref s.heap.objs.size,_,I.laid (t':=s.toks) (o:=.tup (xs++ys)) (λb ob q=>Qe _ q) (Qh _) ?_,rfl,q2 (λw=>z (r2.nil_iff.mpr w)) _ (I.hok.fresh (Qh _))⟩;exact⟨by rw[Qq];exact hz,_,r1.append r2,Go _ _⟩
end
def ixN(n:Nat)(i:Int):Option Nat:=if 0<=i then(if i<n then some i.toNat else none) else if -(n:Int)<=i then some (i+n).toNat else none
def atI{α:Type}(xs:List α)(i:Int):Option α:=(ixN xs.length i).bind λj=>xs[j]?
theorem zpm{n:Nat}{i:Int}{j:Nat}(h:ixN n i=some j):jq i n=some j/\j<n/\-(n:Int)<=i/\i<n:=by
 unfold ixN at h
 by_cases h0:0<=i
 .rw[j7 h0] at h
  by_cases h1:i<n
  .rw[j7 h1] at h;have e:i.toNat=j:=Zi h;exact⟨by rw[jv h0 h1,e],by lia,by lia,h1⟩
  .rw[j8 h1] at h;cases h
 .rw[j8 h0] at h
  by_cases h1:-(n:Int)<=i
  .rw[j7 h1] at h;have e:(i+n).toNat=j:=Zi h;exact⟨by rw[jl (by lia) h1,e],by lia,h1,by lia⟩
  .rw[j8 h1] at h;cases h
theorem zj2{α:Type}{xs:List α}{i:Int}{v:α}(h:atI xs i=some v):∃j,jq i xs.length=some j/\xs[j]? = some v/\j<xs.length/\-(xs.length:Int)<=i/\i<xs.length:=by
 unfold atI at h
 cases e:ixN xs.length i with
 | none=>rw[e] at h;cases h
 | some j=>
   rw[e] at h;obtain⟨h1,h2,h3,h4⟩:=zpm e;exact⟨j,h1,h,h2,h3,h4⟩
theorem zkr{α:Type}{xs:List α}{j:Nat}{v:α}(h:xs[j]? = some v):atI xs (j:Int)=some v:=by
 have hj:j<xs.length:=(Qi.mp h).1
 have e:ixN xs.length (j:Int)=some j:=by
  unfold ixN;rw[j7 (by lia),j7 (by lia)];simp
 unfold atI;rw[e];exact h
def zko(b:Expr):Prop:=∀o i,subscripted b false o i=operate [o,i] (MN o i)
def IxR(X:Cx)(r:R2):Prop :=
 ∀(value slice:Expr) (pins:List (Addr×Obj)) (s:To) (σ:St) (H:Hp) (x y:V) (v u:Tn) (Q:VK),Inv X pins σ H s->RelV x v->RelV y u->r x y H Q ->
   subscripted slice false v u=operate [v,u] (MN v u)->wpAny (model X.prog X.w) X.A (ja value slice v u) (EP X pins σ Q) X.xe s
def MtR(X:Cx)(id:String)(r:V->List V->Hp->VK->Prop):Prop :=
 ∀(pins:List (Addr×Obj)) (s:To) (σ:St) (H:Hp) (x:V) (xs:List V) (v:Tn) (us:List Tn) (Q:VK),Inv X pins σ H s->RelV x v->Vals xs us->r x xs H Q ->
   wpAny (model X.prog X.w) X.A (call (.builtin id) (v::us)) (EP X pins σ Q) X.xe s
section
variable {X:Cx}{a b:Expr}{ta tb:TE}{pos:Pos}
theorem IxR.or(h:IxR X r)(h':IxR X r'):IxR X (λx y H Q=>r x y H Q\/r' x y H Q):=by
 intro value slice pins s σ H x y v u Q I rx ry q hs;rcases q with q|q
 .exact h value slice pins s σ H x y v u Q I rx ry q hs
 .exact h' value slice pins s σ H x y v u Q I rx ry q hs
theorem zyu(hr:IxR X r)(ha:PE X a ta)(hb:PE X b tb)(hs:zko b):PE X (.Subscript a b pos) (tOp r ta tb):=by
 intro pins s σ H Q I h;exact Subscript_ (binT ha hb I h λv u s2 x y H2 I2 rx ry q=>hr a b pins s2 σ H2 x y v u Q I2 rx ry q (hs _ _))
def rIxL(K:Qa):R2:=λx y H Q=>∃p xs i v,x = .ref p/\y = .int i/\SqL K H p xs/\atI xs i=some v/\Q v H
def rIxT(K:Qa):R2:=λx y H Q=>∃p xs i v,x = .ref p/\y = .int i/\SqT K H p xs/\atI xs i=some v/\Q v H
def rIxS:R2:=λx y H Q=>∃z i c,x = .str z/\y = .int i/\z.length<=sizeLine/\atI z.cps.toList i=some c/\Q (.str ⟨#[c]⟩) H
theorem ix_list:IxR X (rIxL X.K):=by
 intro value slice pins s σ H x y v u Q I rx ry h hs;obtain⟨p,xs,i,z,rfl,rfl,hq,he,q⟩:=h;cases rx;obtain⟨t,rfl⟩:=ry;obtain⟨its,r,pl,hz⟩:=I.list hq;obtain⟨j,h1,h2,h3,h4,h5⟩:=zj2 he;obtain⟨w,ew,rw'⟩:=r.get h2;have hl:=r.length;have hn:=zg0;have fin:EP X pins σ Q w s:=⟨z,H,I,rw',q⟩
 by_cases h0:0<=i
 .have hj:i.toNat=j:=by
   rw[jv h0 h5] at h1;exact Zi h1
  exact item_listR pl.isList h0 (by lia) (by rw[hj];simpa using ew) fin hs
 .have hj:(i+(its.toArray.size:Int)).toNat=j:=by
   rw[jl (by lia) h4] at h1;rw[Qy,<- hl];exact Zi h1
  exact NB (x:=w) pl.isList.typeIs slot_list_getitem.lookup
   (wpAny_getItem_list_neg (Q:=λr s'=>r=w/\EP X pins σ Q r s') pl.isList (by lia) (by rw[Qy] <;> lia) (by lia) (by rw[hj];simpa using ew) ⟨rfl,fin⟩) hs
theorem ix_tup:IxR X (rIxT X.K):=by
 intro value slice pins s σ H x y v u Q I rx ry h hs;obtain⟨p,xs,i,z,rfl,rfl,hq,he,q⟩:=h;cases rx;obtain⟨t,rfl⟩:=ry;obtain⟨its,r,pl,hz⟩:=I.tuple hq;obtain⟨j,h1,h2,h3,h4,h5⟩:=zj2 he;obtain⟨w,ew,rw'⟩:=r.get h2;have hl:=r.length;have hn:=zg0;have fin:EP X pins σ Q w s:=⟨z,H,I,rw',q⟩
 exact NB (x:=w) pl.typeIs slot_tuple_getitem.lookup
  (getItem_tuple (j:=j) (Q:=λr s'=>r=w/\EP X pins σ Q r s') pl (by lia) (by lia) (by rw[Qy,<- hl];exact h1) (by simpa using ew) ⟨rfl,fin⟩) hs
theorem z4h:IxR X rIxS:=by
 intro value slice pins s σ H x y v u Q I rx ry h hs;obtain⟨z,i,c,rfl,rfl,hz,he,q⟩:=h;obtain⟨t,rfl⟩:=rx;obtain⟨t',rfl⟩:=ry;obtain⟨j,h1,h2,h3,h4,h5⟩:=zj2 he;have hl:z.cps.toList.length=z.length:=by simp[U9]
 rw[hl] at h1 h4 h5;have hn:=zg0
 exact tail_any (typeIs_str s z t) slot_str_getitem.lookup (getItem_str (c:=c) (by
  have e1:decide (i < -(2 ^ 63:Int))=false:=jA (by lia);have e2:decide (i ≥ 2 ^ 63)=false:=jA (by lia)
  rw[e1,e2,GW]) (by rw[h1];simpa using h2) ⟨.str ⟨#[c]⟩,H,I.tok _,⟨_,rfl⟩,q⟩) hs
def rIx(K:Qa):R2:=λx y H Q=>rIxL K x y H Q\/rIxT K x y H Q\/rIxS x y H Q
theorem zvo:IxR X (rIx X.K):=ix_list.or (ix_tup.or z4h)
theorem zrc(its:List Tn)(n j:Nat)(u:Tn):QF (·.setIfInBounds j u) { cls:=.type "list",data:=.seq its.toArray n } = { cls:=.type "list",data:=.seq (its.set j u).toArray n }:=by
 simp[QF]
theorem Inv.lst{pins:List (Addr×Obj)}(I:Inv X pins σ H s)(h:H p=some (.lst xs)):
 ∃(its:List Tn) (n:Nat),Vals xs its/\s.heap.get? p=some { cls:=.type "list",data:=.seq its.toArray n }/\xs.length<=sizeLine:=by
 obtain⟨z,its,n,r,e⟩:=I.hok p _ h;exact⟨its,n,r,e,z⟩
theorem Inv.lstUpd{pins:List (Addr×Obj)}{σ:St}{H:Hp}{s:To}{p:Addr}{xs ys:List V}{its its':List Tn}{n n':Nat}{f:Obj->Obj}(I:Inv X pins σ H s)(h:H p=some (.lst xs))
 (ho:s.heap.get? p=some { cls:=.type "list",data:=.seq its.toArray n }) (hf:f { cls:=.type "list",data:=.seq its.toArray n } = { cls:=.type "list",data:=.seq its'.toArray n' }) (r:Vals ys its') (hz:ys.length<=sizeLine) (t:Nat) :
 Inv X pins σ (upd H p (.lst ys)) { s with heap:=s.heap.update p f,toks:=t }:=by
 have e:(s.heap.update p f).get? p=some { cls:=.type "list",data:=.seq its'.toArray n' }:=by
  rw[Zo f ho (by rw[hf] <;> rfl),hf]
 refine I.write (x:=p) (e:=p) (by rw[h];trivial) (.inl rfl) (λb u hb q=>(ZF _ _ (ZA hb)).trans q) ⟨_,e⟩ ?_;exact⟨hz,its',n',r,e⟩
def zrf:V->V->V->Hp->(Hp->Prop)->Prop:=λo i v H Q=>∃p xs k j,o = .ref p/\i = .int k/\H p=some (.lst xs)/\ixN xs.length k=some j/\Q (upd H p (.lst (xs.set j v)))
theorem zwp:PSet X zrf:=by
 intro pins s σ H o i v ov iv u Q I ro ri rv h;obtain⟨p,xs,k,j,rfl,rfl,hp,hj,q⟩:=h;cases ro;obtain⟨t,rfl⟩:=ri;obtain⟨its,n,r,ho,hz⟩:=I.lst hp;obtain⟨h1,h2,h3,h4⟩:=zpm hj;have hl:=r.length;have hn:=zg0
 have I':Inv X pins σ (upd H p (.lst (xs.set j v))) { s with heap:=s.heap.update p (QF (·.setIfInBounds j u)) } :=
  I.lstUpd hp ho (zrc its n j u) (r.set rv j) (by rw[Q1];exact hz) s.toks
 by_cases h0:0<=k
 .have hk:k.toNat=j:=by
   rw[jv h0 h4] at h1;exact Zi h1
  exact PySem.W.ki_setAt ho h0 (by lia) (by rw[Qy,<- hl];exact h4) (by rw[hk];exact⟨_,I',q⟩)
 .have hk:(k+(its.toArray.size:Int)).toNat=j:=by
   rw[jl (by lia) h3] at h1;rw[Qy,<- hl];exact Zi h1
  exact PySem.W.ki_setBack ho (by lia) (by rw[Qy,<- hl];exact h3) (by lia) (by rw[hk];exact⟨_,I',q⟩)
theorem znp(lo hi:Option Int)(n:Nat):(MI lo hi none n).1=((HT.sIx n 0 lo:Nat):Int)/\(MI lo hi none n).2.1=((HT.sIx n n hi:Nat):Int)/\(MI lo hi none n).2.2=1:=by
 refine⟨?_,?_,rfl⟩
 .cases lo with
  | none=>simp[MI,HT.sIx]
  | some i=>
    simp only[MI,HT.sIx,Gp,show(1:Int) > 0 by decide,jE]
    by_cases h:i<0
    .simp only[h,jE] <;> lia
    .simp only[h,jD] <;> lia
 .cases hi with
  | none=>simp[MI,HT.sIx]
  | some i=>
    simp only[MI,HT.sIx,Gp,show(1:Int) > 0 by decide,jE]
    by_cases h:i<0
    .simp only[h,jE] <;> lia
    .simp only[h,jD] <;> lia
theorem zlz(its:List Tn)(lo hi:Option Int):slicePick its.toArray lo hi none=((its.drop (HT.sIx its.length 0 lo)).take (HT.sIx its.length its.length hi-HT.sIx its.length 0 lo)).toArray:=by
 obtain⟨h1,h2,h3⟩:=znp lo hi its.toArray.size;unfold slicePick;rw[h1,h2,h3];simp only[sliceRange_one,pick_run,Qy] <;> rfl
def rSlL(K:Qa):V->Option Int->Option Int->Hp->VK->Prop:=λx lo hi H Q=>∃a xs,x = .ref a/\SqL K H a xs/\∀p,H p=none->Q (.ref p) (upd H p (.lst (cutV xs lo hi)))
theorem sl_list:SlR X (rSlL X.K):=by
 intro pins s σ H x v vl vu lo hi sl Q I rx hs pl pu h;obtain⟨a,xs,rfl,hx,q⟩:=h;cases rx;obtain⟨its,r,ht,hz⟩:=I.list hx;have hlen:=r.length;refine⟨"list",_,slot_list_getitem.lookup,ht.isList.typeIs,?_⟩;refine wpAny_getItem_list_slice ht.isList hs pl pu .none (by simp) ?_ (by rw[Qy] <;> lia);rw[zlz,<- hlen];refine⟨.ref s.heap.objs.size,_,I.laid (t':=s.toks) (o:=.lst (cutV xs lo hi)) (λb ob q=>Qe _ q) (Qh _) ?_,rfl,q _ (I.hok.fresh (Qh _))⟩;exact⟨QY (zh6 xs lo hi) hz,_,0,(r.drop (HT.sIx xs.length 0 lo)).take (HT.sIx xs.length xs.length hi-HT.sIx xs.length 0 lo),Qm _ rfl⟩
theorem CallR.or(h:CallR X f r)(h':CallR X f r'):CallR X f (λxs H Q=>r xs H Q\/r' xs H Q):=by
 intro pins s σ H xs us Q I rs q;rcases q with q|q
 .exact h pins s σ H xs us Q I rs q
 .exact h' pins s σ H xs us Q I rs q
theorem zm9:CallR X (.type "list") (λxs H Q=>∃p ys,xs = [.ref p]/\(SqL X.K H p ys\/SqT X.K H p ys)/\∀l,H l=none->Q (.ref l) (upd H l (.lst ys))):=by
 intro pins s σ H xs us Q I r h;obtain⟨p,ys,rfl,hq,q⟩:=h;obtain⟨u,rfl,rx⟩:=zro r;cases rx
 have fin:∀(its:List Tn),Vals ys its->ys.length<=sizeLine->∀(h':Heap) (c':Nat),(∀b o',s.heap.get? b=some o'->h'.get? b=some o') ->
  h'.get? s.heap.objs.size=some { cls:=.type "list",dict:=none,data:=.seq its.toArray c',slots:=#[] }->EP X pins σ Q (.ref s.heap.objs.size) { s with heap:=h' }:=λits r' hz h' c' kp e=>
  ⟨.ref s.heap.objs.size,_,I.laid (t':=s.toks) kp (Qh _) (show ObjOk X.prog X.w _ h' _ (.lst ys) from⟨hz,its,c',r',e⟩),rfl,q _ (I.hok.fresh (Qh _))⟩
 rcases hq with hq|hq
 .obtain⟨its,r',pl,hz⟩:=I.list hq;have hlen:=r'.length;obtain⟨o,ho,hc,n,hd⟩:=pl.isList;exact call_list_seq p (.inl rfl) ho hc hd (λh' c' kp e=>fin its r' hz h' c' kp e) (by simp only[Qy] <;> lia)
 .obtain⟨its,r',pl,hz⟩:=I.tuple hq;have hlen:=r'.length;obtain⟨o,ho,hc,n,hd⟩:=pl;exact call_list_seq p (.inr rfl) ho hc hd (λh' c' kp e=>fin its r' hz h' c' kp e) (by simp only[Qy] <;> lia)
theorem zly:CallR X (.type "tuple") (λxs H Q=>∃p ys,xs = [.ref p]/\((SqL X.K H p ys/\∀l,H l=none->Q (.ref l) (upd H l (.tup ys)))\/(SqT X.K H p ys/\Q (.ref p) H))):=by
 intro pins s σ H xs us Q I r h;obtain⟨p,ys,rfl,h⟩:=h;obtain⟨u,rfl,rx⟩:=zro r;cases rx;rcases h with ⟨hq,q⟩|⟨hq,q⟩
 .obtain⟨its,r',pl,hz⟩:=I.list hq;have hlen:=r'.length;refine call_tuple_list pl.isList (λh' kp=>?_) (by simp only[Qy] <;> lia);have I1:Inv X pins σ H { s with heap:=h' }:=I.kept (t':=s.toks) kp
  have I2:Inv X pins σ (upd H h'.objs.size (.tup ys)) { s with heap:=h'.push { cls:=.type "tuple",data:=.seq its.toArray } } :=
   I1.laid (t':=s.toks) (λb o e=>Qe _ e) (Qh _) (show ObjOk X.prog X.w _ _ _ (.tup ys) from⟨hz,its,r',Go _ _⟩)
  exact⟨.ref h'.objs.size,_,I2,rfl,q _ (I1.hok.fresh (Qh _))⟩
 .obtain⟨its,r',pl,hz⟩:=I.tuple hq;exact call_tuple_same pl ⟨.ref p,H,I,rfl,q⟩
def tyV(K:Qa)(T:String)(x:V)(H:Hp):Prop:=match x with
 | .str _=>T = "str"
 | .int _=>T = "int"
 | .ref p=>(T = "list" /\ ∃xs,SqL K H p xs)\/(T = "tuple" /\ ∃o,K.lookup p=some o/\o.cls = .type "tuple" /\ o.dict=none) \/
  (T = "dict" /\ ((∃kvs,H p=some (.dK kvs))\/∃kvs,H p=some (.dT kvs)))\/(T = "set" /\ ∃S n,H p=some (.set S n))
 | _=>False
theorem zt4{pins:List (Addr×Obj)}(I:Inv X pins σ H s)(r:RelV x v)(ty:tyV X.K T x H):
 s.TypeIs v T/\∀a,v = .ref a->∃ob,s.heap.get? a=some ob/\ob.dict=none:=by
 cases x with
 | str z=>
   obtain⟨t,rfl⟩:=r;cases (show T = "str" from ty);exact⟨typeIs_str s z t,λ_ e=>nomatch e⟩
 | int i=>
   obtain⟨t,rfl⟩:=r;cases (show T = "int" from ty);exact⟨typeIs_int s i t,λ_ e=>nomatch e⟩
 | ref p=>
   cases r;rcases ty with ⟨rfl,xs,hq⟩|⟨rfl,o,hk,hc,hd⟩|⟨rfl,hk⟩|⟨rfl,S,n,hk⟩
   .obtain⟨its,_,pl,_⟩:=I.list hq;refine⟨pl.isList.typeIs,λa e=>?_⟩;cases e;obtain⟨o,n,e,c,hd,_⟩:=pl;exact⟨o,e,hd⟩
   .refine⟨⟨o,I.kIn p o hk,hc⟩,λa e=>?_⟩;cases e;exact⟨o,I.kIn _ o hk,hd⟩
   .have z:∃o,s.heap.get? p=some o/\o.ExactDict:=by
     rcases hk with ⟨kvs,hk⟩|⟨kvs,hk⟩
     .obtain⟨_,_,_,_,o,_,_,e,ex,_⟩:=I.hok p _ hk;exact⟨o,e,ex⟩
     .obtain⟨_,_,_,_,o,_,_,e,ex,_⟩:=I.hok p _ hk;exact⟨o,e,ex⟩
    obtain⟨o,e,ex⟩:=z;refine⟨⟨o,e,ex.1⟩,λa e2=>?_⟩;cases e2;exact⟨o,e,ex.2.1⟩
   .obtain⟨o,_,_,_,e,ex,_⟩:=I.hok p _ hk;refine⟨⟨o,e,ex.1⟩,λa e2=>?_⟩;cases e2;exact⟨o,e,ex.2.1⟩
 | _=>exact Jk ty
def tBM0(K:Qa)(T:String)(r:V->List V->Hp->VK->Prop)(to:TE):TE:=λσ H Q=>to σ H λx H1=>tyV K T x H1/\r x [] H1 Q
def tBM(K:Qa)(T:String)(r:V->List V->Hp->VK->Prop)(to:TE)(t:TA):TE:=λσ H Q=>to σ H λx H1=>tyV K T x H1/\t σ H1 λxs H2=>r x xs H2 Q
variable {o e:Expr}{es:List Expr}{to:TE}{t:TA}{name:Str}{apos cpos:Pos}{T id:String}{r:V->List V->Hp->VK->Prop}
theorem zs1(pa:PlainAttrs T)(slot:Slot T name id)(hty:jr (.builtin id)=pure (.type "method_descriptor"))(hm:MtR X id r)(ho:PE X o to)
 (hbase:Mj o name X.env (eval o X.env)=eval o X.env:=by rfl) (hline:(apos.endLine == cpos.line)=true:=by rfl):PE X (.Call (.Attribute o name apos) [] [] cpos) (tBM0 X.K T r to):=by
 intro pins s σ H Q I h;refine wpAny_Call_method0_late hbase hline (thn (ho pins s σ H _ I h) λv s1 zz=>?_);obtain⟨x,H1,I1,r1,ty,q1⟩:=zz;obtain⟨h1,h2⟩:=zt4 I1 r1 ty;exact⟨T,id,pa,slot,hty,h1,h2,Y7 rfl (PySem.evalArgs_none (hm pins s1 σ H1 x [] v [] Q I1 r1 .nil q1))⟩
theorem zgb(pa:PlainAttrs T)(slot:Slot T name id)(hty:jr (.builtin id)=pure (.type "method_descriptor"))(hm:MtR X id r)(ho:PE X o to)(ha:PA X (e::es) t)
 (hbase:Mj o name X.env (eval o X.env)=eval o X.env:=by rfl)
 (hfew:((Mi cpos (Tq (e::es) X.env)).all (λx=>!x.1) && (Np cpos (MG [] X.env)).all (λx=>x.1.isSome)
  && decide ((e::es).length+([]:List M7).length+(if([]:List M7).isEmpty then 0 else 1)<30))=true:=by rfl)
 (hline:(apos.endLine == cpos.line)=true:=by rfl) (hs:Tq (e::es) X.env=(false,eval e X.env)::Tq es X.env:=by rfl) (hplain:(Mi cpos (Tq es X.env)).any (·.1)=false:=by rfl) :
 PE X (.Call (.Attribute o name apos) (e::es) [] cpos) (tBM X.K T r to t):=by
 intro pins s σ H Q I h;refine wpAny_Call_method_late hbase hfew hline rfl (thn (ho pins s σ H _ I h) λv s1 zz=>?_);obtain⟨x,H1,I1,r1,ty,q1⟩:=zz;obtain⟨h1,h2⟩:=zt4 I1 r1 ty;refine⟨T,id,pa,slot,hty,h1,h2,?_⟩;have hA:=ha cpos pins s1 σ H1 _ I1 q1;rw[hs] at hA ⊢;refine Y7 (by show(false || (Mi cpos (Tq es X.env)).any (·.1))=false;rw[hplain] <;> rfl) (Uj ?_);exact thn hA λus s2 ⟨vs,H2,I2,r2,q2⟩=>hm pins s2 σ H2 x vs v us Q I2 r1 r2 q2
/- xs.append(e),list.index on a module's tuple .. are MtR facts of 06m -/
end
def MtM(X:Cx)(id:String)(r:V->List V->Hp->VK->Prop):Prop :=
 ∀(pins:List (Addr×Obj)) (s:To) (σ:St) (H:Hp) (x:V) (xs:List V) (v:Tn) (us:List Tn) (Q:VK),Inv X pins σ H s->RelV x v->Vals xs us->r x xs H Q ->
   wpAny (model X.prog X.w) X.A (call (.builtin id) (v::us)) (EP X pins σ Q) X.xe s
theorem Vals.one:∀{x:V} {us:List Tn},Vals [x] us->∃u,us = [u]/\RelV x u
 | _,_,h=>by
   cases h with
   | cons r t=>cases t;exact⟨_,rfl,r⟩
theorem Vals.two:∀{x y:V} {us:List Tn},Vals [x,y] us->∃u v,us = [u,v]/\RelV x u/\RelV y v
 | _,_,_,h=>by
   cases h with
   | cons r t=>
     cases t with
     | cons q t=>cases t;exact⟨_,_,rfl,r,q⟩
theorem Vals.zero:∀{us:List Tn},Vals [] us->us = []
 | _,.nil=>rfl
theorem Vals.dropLast(h:Vals xs us):Vals xs.dropLast us.dropLast:=by
 induction h with
 | nil=>exact .nil
 | cons r t ih=>
   cases t with
   | nil=>exact .nil
   | cons q t'=>exact .cons r ih
theorem Vals.eraseIdx:∀{xs:List V} {us:List Tn} (i:Nat),Vals xs us->Vals (xs.eraseIdx i) (us.eraseIdx i)
 | _,_,_,.nil=>.nil
 | _,_,0,.cons _ t=>t
 | _,_,i+1,.cons r t=>.cons r (Vals.eraseIdx i t)
theorem Vals.reverse(h:Vals xs us):Vals xs.reverse us.reverse:=by
 induction h with
 | nil=>exact .nil
 | cons r t ih=>rw[Y8,Y8];exact Vals.append ih (.cons r .nil)
theorem zqt{α:Type}(l:List α):l.eraseIdx (l.length-1)=l.dropLast:=by
 induction l with
 | nil=>rfl
 | cons a r ih=>
   cases r with
   | nil=>rfl
   | cons b r=>
     have e:(a::b::r).length-1=((b::r).length-1)+1:=by
      have h1:(a::b::r).length=r.length+2:=rfl;have h2:(b::r).length=r.length+1:=rfl;lia
     rw[e,Y2,ih]
     all_goals rfl
theorem zk4{α:Type}:∀(l:List α) (i:Nat),(l.eraseIdx i).length<=l.length
 | [],_=>Qh _
 | _::_,0=>Jr _
 | _::r,i+1=>Nat.succ_le_succ (zk4 r i)
section
variable {X:Cx}{pins:List (Addr×Obj)}{σ:St}{H:Hp}{s:To}{l b:Addr}{xs ys zs:List V}
theorem Inv.lset{its its':List Tn}{n:Nat}{f:Array Tn->Array Tn}{t':Nat}(I:Inv X pins σ H s)(hH:H l=some (.lst xs))
 (e:s.heap.get? l=some { cls:=.type "list",data:=.seq its.toArray n }) (hf:f its.toArray=its'.toArray) (hv:Vals ys its') (hz:ys.length<=sizeLine) :
 Inv X pins σ (upd H l (.lst ys)) { s with heap:=s.heap.update l (QF f),toks:=t' }:=by
 have q:=PySem.IsL.update e f;rw[hf] at q;refine I.write (x:=l) (e:=l) (by rw[hH];exact trivial) (.inl rfl) (λb' u hb hu=>(ZF s.heap (QF f) (ZA hb)).trans hu) ⟨_,q⟩ ?_;exact⟨hz,its',_,hv,q⟩
theorem Inv.lnew{t':Nat}(I:Inv X pins σ H s)(hv:Vals ys its)(hz:ys.length<=sizeLine):
 Inv X pins σ (upd H s.heap.objs.size (.lst ys)) { s with heap:=s.heap.push { cls:=.type "list",data:=.seq its.toArray },toks:=t' } :=
 I.laid (λ_ _ q=>Qe _ q) (Qh _) ⟨hz,its,0,hv,Qm _ rfl⟩
theorem Inv.fresh(I:Inv X pins σ H s):H s.heap.objs.size=none:=I.hok.fresh (Qh _)
theorem Inv.lstM(I:Inv X pins σ H s)(hH:H l=some (.lst xs)):xs.length<=sizeLine/\∃(its:List Tn) (n:Nat),Vals xs its/\xs.length=its.length/\s.heap.get? l=some { cls:=.type "list",data:=.seq its.toArray n }:=by
 obtain⟨z,its,n,r,e⟩:=I.hok l _ hH;exact⟨z,its,n,r,r.length,e⟩
theorem zwt{n:Nat}(h:n<=sizeLine):Yr n=false:=by
 unfold Yr;exact jA (by lia)
end
section
variable {X:Cx}
def zhn:V->List V->Hp->VK->Prop:=λx vs H Q=>∃l xs y,x = .ref l/\vs = [y]/\H l=some (.lst xs)/\xs.length<sizeLine/\Q .non (upd H l (.lst (xs ++ [y])))
theorem zk2:MtM X "list.append" zhn:=by
 intro pins s σ H x vs v us Q I rx rv h;obtain⟨l,xs,y,rfl,rfl,hH,hz,q⟩:=h;cases rx;obtain⟨u,rfl,ru⟩:=rv.one;obtain⟨z,its,n,r,hl,e⟩:=I.lstM hH;refine Nb F.slot_list_append ⟨_,e,rfl⟩ F.entry_list_append (F.args_list_append_2 _ _) (PySem.list_append l its.toArray n u (by rw[Qy];lia)) ⟨e,?_⟩;refine⟨.non,_,I.lset (its':=its ++ [u]) hH e (by simp) (r.append (.cons ru .nil)) ?_,rfl,q⟩;rw[Qq,QA];lia
def zhk:V->List V->Hp->VK->Prop:=λx vs H Q=>∃l b xs zs,x = .ref l/\vs = [.ref b]/\H l=some (.lst xs)/\H b=some (.lst zs)/\xs.length+zs.length<=sizeLine/\Q .non (upd H l (.lst (xs++zs)))
theorem zuc:MtM X "list.extend" zhk:=by
 intro pins s σ H x vs v us Q I rx rv h;obtain⟨l,b,xs,zs,rfl,rfl,hH,hB,hz,q⟩:=h;cases rx;obtain⟨u,rfl,ru⟩:=rv.one;cases ru;obtain⟨z,its,n,r,hl,e⟩:=I.lstM hH;obtain⟨z2,its2,n2,r2,hl2,e2⟩:=I.lstM hB;have hsz:its.toArray.size+its2.toArray.size<=sizeLine:=by rw[Qy,Qy];lia
 have hlong:¬(!its.toArray.isEmpty && Yr (its.toArray.size+its2.toArray.size))=true:=by
  rw[zwt hsz,GI];exact Q8
 refine Nb F.slot_list_extend ⟨_,e,rfl⟩ F.entry_list_extend (F.args_list_extend_2 _ _)
  (AutoSeq1.list_extend_list_list_0 l its.toArray n b its2.toArray n2 hlong (by rw[Qy];lia) (by lia)) ⟨e,e2,?_⟩
 refine⟨.non,_,I.lset (its':=its++its2) hH e (by simp) (r.append r2) ?_,rfl,q⟩;rw[Qq];lia
def rPop:V->List V->Hp->VK->Prop:=λx vs H Q=>∃l xs y,x = .ref l/\vs = []/\H l=some (.lst xs)/\xs[xs.length-1]? = some y/\Q y (upd H l (.lst xs.dropLast))
theorem z3g:MtM X "list.pop" rPop:=by
 intro pins s σ H x vs v us Q I rx rv h;obtain⟨l,xs,y,rfl,rfl,hH,hy,q⟩:=h;cases rx;have hus:=rv.zero;subst hus;obtain⟨z,its,n,r,hl,e⟩:=I.lstM hH;obtain⟨u,hu,ru⟩:=r.get hy
 have hy':its.toArray[its.toArray.size-1]? = some u:=by
  show its.toArray[its.length-1]? = some u;rw[<- QK,<- hl];exact hu
 refine Nb F.slot_list_pop ⟨_,e,rfl⟩ Gq (F.args_list_pop_1 _) (MeetsSeq.list_pop_last l its.toArray n u hy' (by rw[Qy];lia)) ⟨e,?_⟩;refine⟨y,_,I.lset (its':=its.dropLast) hH e ?_ r.dropLast ?_,ru,q⟩
 .show its.toArray.eraseIdxIfInBounds (its.toArray.size-1)=its.dropLast.toArray;rw[Qy,YG,zqt]
 .rw[JC];lia
def zi8:V->List V->Hp->VK->Prop:=λx vs H Q=>∃l xs i k y,x = .ref l/\vs = [.int i]/\H l=some (.lst xs)/\-(2 ^ 63)<=i/\i<2 ^ 63/\jq i xs.length=some k/\xs[k]? = some y/\Q y (upd H l (.lst (xs.eraseIdx k)))
theorem zxg:MtM X "list.pop" zi8:=by
 intro pins s σ H x vs v us Q I rx rv h;obtain⟨l,xs,i,k,y,rfl,rfl,hH,h1,h2,hk,hy,q⟩:=h;cases rx;obtain⟨u,rfl,ru⟩:=rv.one;obtain⟨t,rfl⟩:=ru;obtain⟨z,its,n,r,hl,e⟩:=I.lstM hH;obtain⟨w,hw,rw'⟩:=r.get hy
 refine Nb F.slot_list_pop ⟨_,e,rfl⟩ Gq (F.args_list_pop_2 _ _)
  (MeetsSeq.list_pop_at l its.toArray n i t k w (fitsIndex_both h1 h2) (by rw[Qy,<- hl];exact hk) (by rw[<- QK];exact hw) (by rw[Qy];lia)) ⟨e,?_⟩
 refine⟨y,_,I.lset (its':=its.eraseIdx k) hH e ?_ (r.eraseIdx k) ?_,rw',q⟩
 .show its.toArray.eraseIdxIfInBounds k=(its.eraseIdx k).toArray;rw[YG]
 .have:=zk4 xs k;lia
def zjr:V->List V->Hp->VK->Prop:=λx vs H Q=>∃l xs,x = .ref l/\vs = []/\H l=some (.lst xs)/\Q .non (upd H l (.lst []))
theorem zxh:MtM X "list.clear" zjr:=by
 intro pins s σ H x vs v us Q I rx rv h;obtain⟨l,xs,rfl,rfl,hH,q⟩:=h;cases rx;have hus:=rv.zero;subst hus;obtain⟨z,its,n,r,hl,e⟩:=I.lstM hH;refine Nb F.slot_list_clear ⟨_,e,rfl⟩ F.entry_list_clear (F.args_list_clear_1 _) (AutoSeq1.list_clear_list_0 l its.toArray n (by rw[Qy];lia)) ⟨e,?_⟩;exact⟨.non,_,I.lset (its':=[]) (ys:=[]) hH e rfl .nil (QE _),rfl,q⟩
def rCat:R2:=λx y H Q=>∃l b xs zs,x = .ref l/\y = .ref b/\H l=some (.lst xs)/\H b=some (.lst zs)/\xs.length+zs.length<=sizeLine/\∀p,H p=none->Q (.ref p) (upd H p (.lst (xs++zs)))
theorem op_cat:OpR X (Mt .Add) rCat:=by
 intro pins s σ H x y v u Q I rx ry h;obtain⟨l,b,xs,zs,rfl,rfl,hH,hB,hz,q⟩:=h;cases rx;cases ry;obtain⟨z,its,n,r,hl,e⟩:=I.lstM hH;obtain⟨z2,its2,n2,r2,hl2,e2⟩:=I.lstM hB;refine PySem.P.add_list e e2 ?_ (by rw[Qy,Qy];lia);have ea:its.toArray++its2.toArray=(its++its2).toArray:=by simp
 rw[ea];exact⟨.ref _,_,I.lnew (t':=s.toks) (r.append r2) (by rw[Qq];lia),rfl,q _ I.fresh⟩
end
section
variable {κ:Type}[DecidableEq κ]
def valV(kvs:List (κ×V))(k:κ):Option V:=(kvs.find? λkv=>decide (kv.1=k)).map (·.2)
def putK(kvs:List (κ×V))(k:κ)(v:V):List (κ×V) :=
 if(kvs.any λkv=>decide (kv.1=k))=true then kvs.map (λkv=>if kv.1=k then(kv.1,v) else kv) else kvs ++ [(k,v)]
theorem zid{p:κ×V}{r:List (κ×V)}{k:κ}(e:p.1=k):valV (p::r) k=some p.2:=by simp[valV,Ji,e]
theorem zib{p:κ×V}{r:List (κ×V)}{k:κ}(e:¬p.1=k):valV (p::r) k=valV r k:=by simp[valV,Ji,e]
theorem zn1(k:κ):∀kvs:List (κ×V),(kvs.any λkv=>decide (kv.1=k))=(valV kvs k).isSome
 | []=>rfl
 | p::r=>by
   rw[U4]
   by_cases e:p.1=k
   .simp only[zid e,j9 e,Bool.true_or,UA]
   .rw[zib e,jA e,Bool.false_or];exact zn1 k r
theorem ze7(kvs:List (κ×V))(k:κ)(v:V):(putK kvs k v).length<=kvs.length+1:=by
 unfold putK
 split
 .rw[Qc];lia
 .rw[Qq,Q3,Jj];lia
theorem RelO.isSome_eq(r:RelO o u):o.isSome=u.isSome:=by
 cases o with
 | none=>cases u with
   | none=>rfl
   | some _=>exact(show False from r).elim
 | some _=>cases u with
   | none=>exact(show False from r).elim
   | some _=>rfl
theorem KV.val(r:KV kvs vs)(k:κ):RelO (valV kvs k) (NX vs k):=by
 unfold KV at r
 induction r with
 | nil=>exact YJ
 | @cons p q ps qs h t ih=>
   obtain⟨h1,h2⟩:=h
   by_cases e:p.1=k
   .have e':q.1=k:=h1.symm.trans e;have b:NX (q::qs) k=some q.2:=by simp[NX,Ji,e']
    rw[zid e,b];exact h2
   .have e':¬q.1=k:=λz=>e (h1.trans z);have b:NX (q::qs) k=NX qs k:=by simp[NX,Ji,e']
    rw[zib e,b];exact ih
theorem KV.any(r:KV kvs vs)(k:κ):(kvs.any λkv=>decide (kv.1=k))=vs.any λkv=>decide (kv.1=k):=by
 unfold KV at r
 induction r with
 | nil=>rfl
 | cons h t ih=>rw[U4,U4,ih,h.1]
theorem KV.repl(r:KV kvs vs)(k:κ)(ry:RelV y u):
 KV (kvs.map λkv=>if kv.1=k then(kv.1,y) else kv) (vs.map λkv=>if kv.1=k then(kv.1,u) else kv):=by
 unfold KV at r ⊢
 induction r with
 | nil=>exact .nil
 | @cons p q ps qs h t ih=>
   rw[Qu,Qu];refine .cons ?_ ih;obtain⟨h1,h2⟩:=h
   by_cases e:p.1=k
   .rw[j7 e,j7 (h1.symm.trans e)];exact⟨h1,ry⟩
   .rw[j8 e,j8 (λz=>e (h1.trans z))];exact⟨h1,h2⟩
theorem KV.put(r:KV kvs vs)(k:κ)(ry:RelV y u):KV (putK kvs k y) (stored vs k u):=by
 unfold putK stored;rw[r.any k]
 by_cases e:(vs.any λkv=>decide (kv.1=k))=true
 .rw[j7 e,j7 e];exact r.repl k ry
 .rw[j8 e,j8 e];exact Ti r ⟨rfl,ry⟩
theorem KV.length(r:KV kvs vs):kvs.length=vs.length:=U3 r
end
theorem zl7{w:Tt}(r:RelV (kV k) u):(zbq P w).is k u=true:=by
 cases k with
 | inl i=>obtain⟨t,e⟩:=(show ∃t,u=Gm i t from r);subst e;exact zos P w i t
 | inr x=>obtain⟨t,e⟩:=(show ∃t,u=Ux x t from r);subst e;exact zol P w x t
theorem zls{w:Tt}:∀{ks:List Key} {us:List Tn},Vals (ks.map kV) us->ItemsAre (zbq P w) ks us
 | [],_,r=>by rw[Vi] at r;cases r;exact .nil
 | k::ks,_,r=>by
   rw[Qu] at r
   cases r with
   | cons h t=>exact .cons (zl7 h) (zls t)
abbrev KT(H:Hp):List (List Key×V)->List (List Key×Addr×Tn)->Prop:=jo λp q=>p.1=q.1/\H q.2.1=some (.tup (p.1.map kV))/\RelV p.2 q.2.2
theorem KT.val(r:KT H kvs xs)(k:List Key):RelO (valV kvs k) ((No xs k).map (·.2)):=by
 induction r with
 | nil=>exact YJ
 | @cons p q ps qs h t ih=>
   obtain⟨h1,_,h2⟩:=h
   by_cases e:p.1=k
   .have e':q.1=k:=h1.symm.trans e;have b:No (q::qs) k=some q.2:=by simp[No,Ji,e']
    rw[zid e,b];exact h2
   .have e':¬q.1=k:=λz=>e (h1.trans z);have b:No (q::qs) k=No qs k:=by simp[No,Ji,e']
    rw[zib e,b];exact ih
theorem KT.repl(r:KT H kvs xs)(k:List Key)(ry:RelV y u):
 KT H (kvs.map λkv=>if kv.1=k then(kv.1,y) else kv) (xs.map (putAt k u)):=by
 induction r with
 | nil=>exact .nil
 | @cons p q ps qs h t ih=>
   rw[Qu,Qu];refine .cons ?_ ih;obtain⟨h1,h2,h3⟩:=h;unfold putAt
   by_cases e:p.1=k
   .rw[j7 e,j7 (h1.symm.trans e)];exact⟨h1,h2,ry⟩
   .rw[j8 e,j8 (λz=>e (h1.trans z))];exact⟨h1,h2,h3⟩
theorem KT.put(r:KT H kvs xs)(k:List Key)(hb:H b=some (.tup (k.map kV)))(ry:RelV y u):
 KT H (putK kvs k y) (storedH xs k b u):=by
 have e:(kvs.any λkv=>decide (kv.1=k))=(No xs k).isSome:=by
  rw[zn1,(r.val k).isSome_eq,Option.isSome_map]
 unfold putK storedH;rw[e]
 by_cases q:(No xs k).isSome=true
 .rw[j7 q,j7 q];exact r.repl k ry
 .rw[j8 q,j8 q];exact Ti r ⟨rfl,hb,ry⟩
theorem KT.keeps(r:KT H kvs xs)(ht:∀b ys,H b=some (.tup ys)->H' b=some (.tup ys)):KT H' kvs xs :=
 Paired.mapP r λ_ _ z=>⟨z.1,ht _ _ z.2.1,z.2.2⟩
section
variable {P:Tr}{w:Tt}{H:Hp}{h:Heap}{a:Addr}
theorem zy3(ok:HOk P w H h)(e:Rd H a u):ObjOk P w H h a u:=e.ok ok
theorem zsd(ok:HOk P w H h)(e:Rd H a (.dK kvs)):kvs.length<=sizeLine/\(a == Mc)=false/\∃vs,KV kvs vs/\h.DictOf (zbq P w) a vs :=
 show ObjOk P w H h a (.dK kvs) from zy3 ok e
theorem zyf(ok:HOk P w H h)(e:H a=some (.dK kvs)):kvs.length<=sizeLine/\(a == Mc)=false/\∃vs,KV kvs vs/\h.DictOf (zbq P w) a vs:=zsd ok (.inl e)
theorem zn8(ok:HOk P w H h)(e:H a=some (.tup (ks.map kV))):(tupleKind (zbq P w)).is h ks a:=by
 obtain⟨_,its,r,o,h1,h2,n,h3⟩:=(show ObjOk P w H h a (.tup (ks.map kV)) from ok a _ e);exact⟨o,its.toArray,n,h1,h2,h3,by simpa using zls r⟩
theorem zrk(ok:HOk P w H h)(e:Rd H a (.dT kvs)):kvs.length<=sizeLine/\(a == Mc)=false /\
 ∃xs,KT H kvs xs/\h.DictOfH (tupleKind (zbq P w)) a xs:=by
 obtain⟨z,y,xs,r,o,es,ep,h1,h2,h3,h4,h5⟩:=(show ObjOk P w H h a (.dT kvs) from zy3 ok e);refine⟨z,y,xs,r,o,es,ep,h1,h2,h3,h4,λx hx=>?_,h5⟩
 have all:∀{l:List (List Key×V)} {m:List (List Key×Addr×Tn)},KT H l m->∀x∈m,(tupleKind (zbq P w)).is h x.1 x.2.1:=by
  intro l m q
  induction q with
  | nil=>intro x hx;exact nomatch hx
  | @cons p q ps qs hq t ih=>
    intro x hx;rcases Qs.mp hx with e|hx
    .subst e;exact zn8 ok (by rw[<- hq.1];exact hq.2.1)
    .exact ih x hx
 exact all r x hx
theorem z6w(ok:HOk P w H h)(e:H a=some (.dT kvs)):kvs.length<=sizeLine/\(a == Mc)=false /\
 ∃xs,KT H kvs xs/\h.DictOfH (tupleKind (zbq P w)) a xs:=zrk ok (.inl e)
end
def DGet(H:Hp)(a:Addr)(y:V)(r:Option V):Prop :=
 (∃kvs k,Rd H a (.dK kvs)/\y=kV k/\r=valV kvs k)\/∃kvs k b,Rd H a (.dT kvs)/\y = .ref b/\H b=some (.tup (k.map kV))/\r=valV kvs k
def DPut(H:Hp)(a:Addr)(y v:V)(H':Hp):Prop :=
 (∃kvs k,H a=some (.dK kvs)/\y=kV k/\kvs.length<sizeLine/\H'=upd H a (.dK (putK kvs k v))) \/
 ∃kvs k b,H a=some (.dT kvs)/\y = .ref b/\H b=some (.tup (k.map kV))/\kvs.length<sizeLine/\H'=upd H a (.dT (putK kvs k v))
section
variable {X:Cx}{pins:List (Addr×Obj)}{σ:St}{H:Hp}{s:To}{a:Addr}{y v:V}{u r:Tn}{o:Option V}{A:Tv}{E:Tn->To->Prop}
theorem Inv.big(I:Inv X pins σ H s):Mc<s.heap.objs.size:=by
 have h:mainGlobals<s.heap.objs.size:=(I.mod.glob.keeps I.bk).lt;exact Nat.lt_trans (by decide) h
theorem zvv(hu:A.units+1<cLine)(I:Inv X pins σ H s)(g:DGet H a y (some v))(ry:RelV y u)(h:∀w' s',Inv X pins σ H s'->RelV v w'->Q w' s'):
 wpAny (model X.prog X.w) A (MN (.ref a) u) Q E s:=by
 rcases g with ⟨kvs,k,e,ey,l⟩|⟨kvs,k,b,e,ey,eb,l⟩
 .subst ey;obtain⟨z,hd,vs,rel,dd⟩:=zsd I.hok e;obtain⟨w',hw,rw'⟩:=RelO.some_of (v:=v) (o:=NX vs k) (by rw[l];exact rel.val k);exact wpAny_getItem_of (zl7 ry) dd.mapOf hw (h w' _ (I.tok _) rw')
 .subst ey;cases (show u=QN b from ry);obtain⟨z,hd,xs,rel,dd⟩:=zrk I.hok e;obtain⟨w',hw,rw'⟩:=RelO.some_of (v:=v) (o:=(No xs k).map (·.2)) (by rw[l];exact rel.val k);obtain⟨p,hp,hp2⟩:=Qw.mp hw;refine wpAny_getItem_heap (tupleKind_room_in1 hu) (zn8 I.hok eb) dd hp ?_;rw[hp2];exact h w' _ (I.tok _) rw'
theorem zht{t':Nat}(I:Inv X pins σ H s)(mu:Mut (H a))(hs:Zk a s.heap h')(he:∃q,h'.get? a=some q)(new:ObjOk X.prog X.w (upd H a ob) h' a ob):
 Inv X pins σ (upd H a ob) { s with heap:=h',toks:=t' } :=
 I.write (x:=a) (e:=a) mu (.inl rfl) (λb q hb z=>(hs.2 b hb).trans z) he new
theorem zte{w:Tt}(z:kvs.length<=sizeLine)(hd:(a == Mc)=false)(rel:KV kvs vs)(dd:h'.DictOf (zbq P w) a vs):
 ObjOk P w H' h' a (.dK kvs):=⟨z,hd,vs,rel,dd⟩
theorem zsj(hu:A.units+1<cLine)(I:Inv X pins σ H s)(g:DPut H a y v H')(ry:RelV y u)(rv:RelV v r)(h:∀s',Inv X pins σ H' s'->Q () s'):
 wpAny (model X.prog X.w) A (setItem (.ref a) u r) Q E s:=by
 rcases g with ⟨kvs,k,e,ey,l,eH⟩|⟨kvs,k,b,e,ey,eb,l,eH⟩
 .subst ey eH;obtain⟨z,hd,vs,rel,dd⟩:=zyf I.hok e;have hz:vs.length<=sizeLine:=by rw[<- rel.length];exact z
  have hl:(putK kvs k v).length<=sizeLine:=by have:=ze7 kvs k v;lia
  refine wpAny_setItem_pairs (hsz:=hz) (zl7 ry) dd λh' dd' hs=>h _ ?_;have he:∃q,h'.get? a=some q:=let ⟨q,_,_,hq,_⟩:=dd';⟨q,hq⟩
  exact zht I (by rw[e];exact YJ) hs he (zte hl hd (rel.put k rv) dd')
 .subst ey eH;cases (show u=QN b from ry);obtain⟨z,hd,xs,rel,dd⟩:=z6w I.hok e;have hz:xs.length<=sizeLine:=by rw[<- U3 rel];exact z
  have hl:(putK kvs k v).length<=sizeLine:=by have:=ze7 kvs k v;lia
  refine wpAny_setItem_heap (hsz:=hz) (tupleKind_room_in1 hu) (zn8 I.hok eb) dd λh' dd' hs=>h _ ?_;obtain⟨q,es,ep,hq,h2,h3,h4,_,h5⟩:=dd';refine zht I (by rw[e];exact YJ) hs ⟨q,hq⟩ ⟨hl,hd,_,(rel.put k eb rv).keeps λc ys ec=>?_,q,es,ep,hq,h2,h3,h4,h5⟩;rw[zae (z6r ec e (λz=>nomatch z))];exact ec
end
def NoSl(i:Expr):Prop:=∀ov iv,subscripted i false ov iv=operate [ov,iv] (MN ov iv)
theorem zzp{prog:Tr}{w:Tt}{A:Tv}{E:Tn->To->Prop}{s:To}{env:Env}{value slice:Expr}{pos:Pos}{T id:String}{Q:Tn->To->Prop}
 (hl:jd (.type T) "__getitem__" = pure (some (.builtin id))) (hs:NoSl slice)
 (h:wpAny (model prog w) A (eval value env) (λo s₁=>wpAny (model prog w) A (eval slice env) (λi s₂=>s₂.TypeIs o T/\wpAny (model prog w) A (MN o i) Q E s₂) E s₁) E s) :
 wpAny (model prog w) A (eval (.Subscript value slice pos) env) Q E s:=by
 refine Subscript_ (TQ h (λo s₁ h₁=>TQ h₁ (λi s₂ h₂=>?_) λ_ _ x=>x) λ_ _ x=>x);obtain⟨hT,h₂⟩:=h₂;unfold ja;refine Tj ?_;rw[getitemInPython_of_ne hT.not_modules];refine Tj (TZ hT hl ?_)
 have fin:wpAny (model prog w) A (subscripted slice false o i) (λr s₃=>wpAny (model prog w) A (letTemporaryGo value o r >>= λ_=>pure r) Q E s₃) E s₂:=by
  rw[hs o i];exact wpAny_operating (TQ h₂ (λr s₃ h₃=>Tj (wpAny_letTemporaryGo (Tk h₃))) λ_ _ x=>x)
 first
  | exact Tk (Tj fin)
  | exact Tj (Tk (Tj fin))
  | exact Tj fin
theorem zom{pins:List (Addr×Obj)}(I:Inv X pins σ H s)(g:DGet H a y o):s.TypeIs (.ref a) "dict" := by
 rcases g with ⟨kvs,k,e,_,_⟩|⟨kvs,k,b,e,_,_,_⟩
 .obtain⟨_,_,vs,_,dd⟩:=zsd I.hok e;exact dd.typeIs
 .obtain⟨_,_,xs,_,dd⟩:=zrk I.hok e;exact dd.typeIs
def zyv(td ty:TE):TE:=λσ H Q=>td σ H λx H1=>ty σ H1 λy H2=>∃a v,x = .ref a/\DGet H2 a y (some v)/\Q v H2
def zma(td ty tv:TE):TS:=λD σ H=>tv σ H λv H1=>td σ H1 λx H2=>ty σ H2 λy H3=>∃a H4,x = .ref a/\DPut H3 a y v H4/\D.nx σ H4
section
variable {X:Cx}{o i e value:Expr}{pos pos' tpos:Pos}{td ty tv:TE}
theorem zdk(hu:X.A.units+1<cLine)(ho:PE X o td)(hi:PE X i ty)(hs:NoSl i):PE X (.Subscript o i pos) (zyv td ty):=by
 intro pins s σ H Q I h;refine zzp PySem.F.slot_dict_getitem.lookup hs (thn (ho pins s σ H _ I h) λu s1 ⟨x,H1,I1,rx,q1⟩=>thn (hi pins s1 σ H1 _ I1 q1) λiv s2 zz=>?_);obtain⟨y,H2,I2,ry,a,v,ex,g,q2⟩:=zz;subst ex;obtain rfl:u=QN a:=rx;exact⟨zom I2 g,zvv hu I2 g ry λw' s3 I3 rw'=>⟨v,H2,I3,rw',q2⟩⟩
theorem zkl(hu:X.A.units+1<cLine)(ho:PE X o td)(hi:PE X i ty)(hv:PE X value tv)(hs:M1 value (some (.Subscript o i pos')) pos.line X.env=pure false):
 PS X (.Assign [.Subscript o i pos'] value pos) (zma td ty tv):=by
 intro pins s σ H D I h;refine wpAny_Assign_Subscript (thn (hv pins s σ H _ I h) λr s1 ⟨v,H1,I1,rv,q1⟩=>thn (ho pins s1 σ H1 _ I1 q1) λu s2 ⟨x,H2,I2,rx,q2⟩=>thn (hi pins s2 σ H2 _ I2 q2) λiv s3 zz=>?_) hs;obtain⟨y,H3,I3,ry,a,H4,ex,g,q3⟩:=zz;subst ex;obtain rfl:u=QN a:=rx;exact zsj hu I3 g ry rv λs4 I4=>⟨σ,H4,I4,q3⟩
end
theorem zv4{w:Tt}(h:Heap)(hb:Mc<h.objs.size):ObjOk P w H (h.push { cls:=.type "dict",data:=.dict #[] }) h.objs.size (.dK []) :=
 ⟨QE _,beq_eq_false_iff_ne.mpr (ZA (Q2 hb)),[],.nil,Heap.DictOf.new h⟩
def znj:List (TE×TE)->St->Hp->(List (V×V)->Hp->Prop)->Prop
 | [],_,H,Q=>Q [] H
 | (tk,tv)::r,σ,H,Q=>tk σ H λx H1=>tv σ H1 λy H2=>znj r σ H2 λps H3=>Q ((x,y)::ps) H3
abbrev VV:List (V×V)->List (Tn×Tn)->Prop:=jo λp q=>RelV p.1 q.1/\RelV p.2 q.2
def PPs(X:Cx)(pos:Pos)(keys:List (Option Expr))(values:List Expr)(trs:List (TE×TE)):Prop :=
 ∀(pins:List (Addr×Obj)) (s:To) (σ:St) (H:Hp) (Q:List (V×V)->Hp->Prop),Inv X pins σ H s->znj trs σ H Q ->
   wpAny (model X.prog X.w) X.A (evalPairs (pairTrees keys values X.env pos)) (λvs s'=>∃ps H',Inv X pins σ H' s'/\VV ps vs/\Q ps H') X.xe s
theorem z2g: PPs X pos [] [] []:=λpins s σ H Q I h=>pairTrees_nil_walk ⟨[],H,I,.nil,h⟩
theorem zig(hk:PE X k tk)(hv:PE X v tv)(hr:PPs X pos ks vs trs):
 PPs X pos (some k::ks) (v::vs) ((tk,tv)::trs):=λpins s σ H Q I h=>
 pairTrees_cons_walk (thn (hk pins s σ H _ I h) λu s1 ⟨x,H1,I1,rx,q1⟩=>thn (hv pins s1 σ H1 _ I1 q1) λw2 s2 ⟨y,H2,I2,ry,q2⟩=>
  thn (hr pins s2 σ H2 _ I2 q2) λws s3 ⟨ps,H3,I3,rel,q3⟩=>⟨(x,y)::ps,H3,I3,.cons ⟨rx,ry⟩ rel,q3⟩)
def zek(kvs more:List (Key×V)):List (Key×V):=more.foldl (λacc kv=>putK acc kv.1 kv.2) kvs
theorem KV.merge:∀{more:List (Key×V)} {rs:List (Key×Tn)} {kvs:List (Key×V)} {vs:List (Key×Tn)},KV more rs->KV kvs vs->KV (zek kvs more) (merged vs rs):=by
 intro more rs kvs vs r;unfold KV at r
 induction r generalizing kvs vs with
 | nil=>intro q;exact q
 | @cons p q ps qs h t ih=>
   intro r0
   have e:KV (putK kvs p.1 p.2) (stored vs q.1 q.2):=by
    have:=r0.put p.1 h.2;rw[<- h.1];exact this
   exact ih e
theorem zgq:∀(more kvs:List (Key×V)),(zek kvs more).length<=kvs.length+more.length
 | [],kvs=>by show kvs.length<=kvs.length+0;lia
 | p::r,kvs=>by
   have h1:=zgq r (putK kvs p.1 p.2);have h2:=ze7 kvs p.1 p.2;show(zek (putK kvs p.1 p.2) r).length<=_;rw[Q3];lia
theorem zi9{w:Tt}:∀{kvs:List (Key×V)} {ws:List (Tn×Tn)},VV (kvs.map λkv=>(kV kv.1,kv.2)) ws->∃rs,Carries (zbq P w) ws rs/\KV kvs rs
 | [],_,r=>by rw[Vi] at r;cases r;exact⟨[],YJ,.nil⟩
 | p::kvs,_,r=>by
   rw[Qu] at r
   cases r with
   | @cons a b as bs h t=>
     obtain⟨rs,c,q⟩:=zi9 (P:=P) (w:=w) t;obtain⟨b1,b2⟩:=b;exact⟨(p.1,b2)::rs,⟨zl7 h.1,rfl,c⟩,.cons ⟨rfl,h.2⟩ q⟩
def zyy(trs:List (TE×TE)):TE:=λσ H Q=>∀p,H p=none->znj trs σ (upd H p (.dK [])) λps H2=>H2 p=some (.dK [])/\∃kvs:List (Key×V),ps=kvs.map (λkv=>(kV kv.1,kv.2))/\kvs.length<=15/\Q (.ref p) (upd H2 p (.dK (zek [] kvs)))
theorem z0l{keys:List (Option Expr)}{values:List Expr}(h:PPs X pos keys values trs)(hall:keys.all (·.isSome)=true)(hl:keys.length=values.length)(h0:keys≠[])
 (h15:keys.length<=15):PE X (.Dict keys values pos) (zyy trs):=by
 intro pins s σ H Q I q;have hn:=I.hok.fresh (Qh s.heap.objs.size);have I1:=I.laid (a:=s.heap.objs.size) (o:=.dK []) (h':=s.heap.push { cls:=.type "dict",data:=.dict #[] }) (t':=s.toks) (λ_ _ q=>Qe _ q) (Qh _) (zv4 s.heap I.big);refine wpAny_Dict_walk (knd:=zbq X.prog X.w) hall hl h0 h15 (thn (h pins _ σ _ _ I1 (q _ hn)) λws s2 zz=>?_);obtain⟨ps,H2,I2,rel,e,kvs,ep,lk,q2⟩:=zz;subst ep;obtain⟨rs,c,rk⟩:=zi9 (P:=X.prog) (w:=X.w) rel;obtain⟨z,hd,vs0,r0,dd⟩:=zyf I2.hok e;cases r0;refine⟨rs,c,dd,λh' dd' hs=>⟨.ref s.heap.objs.size,_,?_,rfl,q2⟩⟩
 have hz:(zek [] kvs).length<=sizeLine:=by
  have h1:=zgq kvs [];rw[Jj] at h1;rw[Ts];lia
 have he:∃q,h'.get? s.heap.objs.size=some q:=let ⟨q,_,_,hq,_⟩:=dd';⟨q,hq⟩
 exact zht I2 (by rw[e];exact YJ) hs he (zte hz hd (rk.merge .nil) dd')
structure M2(X:Cx)(o:Expr)(m:Str)(apos:Pos)(e f:Expr)(cpos:Pos):Prop where
 base:Mj o m X.env (eval o X.env)=eval o X.env
 few:((Mi cpos (Tq [e,f] X.env)).all (λx=>!x.1) && (Np cpos (MG [] X.env)).all (λx=>x.1.isSome)
  && decide (([e,f]:List Expr).length+([]:List M7).length+(if([]:List M7).isEmpty then 0 else 1)<30))=true
 line:(apos.endLine == cpos.line)=true
 trees:Mi cpos (Tq [e,f] X.env) = [(false,eval e X.env),(false,eval f X.env)]
end L2
namespace Att
open PySem PySem.W PySem.Calls PyProof.Rows
theorem zjd: ∀(ns:List Int) (vs:List Tn),WellAll P h vs (ns.map WData.int)->jy vs ns:=by
 intro ns
 induction ns with
 | nil=>
   intro vs w;rw[Vi] at w;cases w;exact .nil
 | cons n ns ih=>
   intro vs w;rw[Qu] at w
   cases w with
   | cons a b=>
     cases a;exact .cons _ _ (ih _ b)
theorem zsh{l:OpenLaw}{n:Nat}(hn:l.most=some n){P:Params}{h:Heap}{args:List WData}{vals:List Tn}
 (hpre:l.row.toRowW.claim.pre args=true) (hwl:WellAll P h vals args) :
 ∃a vs ns,vals = [QN a]/\args = [WData.list (ns.map WData.int)]/\h.get? a=some { cls:=.type "list",data:=.seq vs.toArray }/\jy vs ns/\ns.length<=n:=by
 have hsh:WShape.hasAll [] args [.list .int]=true:=(pre_splitW hpre).1;have hc:l.pre.holds [] { args:=args }=true:=(pre_splitW hpre).2;obtain⟨d,r,rfl,h1,h2⟩:=hasAllW_cons hsh;obtain rfl:=hasAllW_nil h2;obtain⟨xs,rfl,h3⟩:=hasW_list h1;obtain⟨ns,rfl⟩:=items_int h3
 have hlen:ns.length<=n:=by
  unfold OpenLaw.pre at hc
  have h4:(WTm.not (.lt (.lit (.int (n:Int))) (.len (.arg 0)))).holds [] { args:=[.list (ns.map .int)] }=true:=by
   have h4:=(holds_andW hc).1;rw[hn] at h4;exact h4
  have h5:=condW_of h4 (w_not (w_lt w_lit (w_len_list (w_arg rfl))));rw[Qc] at h5;refine YK λq=>?_;have q':(n:Int)<((ns.length:Nat):Int):=by lia
  first
   | (rw[j9 q'] at h5;exact absurd h5 (by decide))
   | (simp at h5;lia)
 cases hwl with
 | cons w1 w2=>
   cases w2
   cases w1 with
   | list ho hall=>exact⟨_,_,ns,rfl,rfl,ho,zjd ns _ hall,hlen⟩
theorem zsm(l:OpenLaw)(args:List WData):l.row.toRowW.claim.post args (.bool true) args=true :=
 postW_of (r:=l.row.toRowW) (X:=(true == true))
  (show WShape.has [] (.bool true) .bool=true by first|rfl|decide|simp[WShape.has,WShape.arms,WShape.armsAll])
  (show(WTm.eq .res (.lit (.bool true))).value [] { args:=args,res:=some (.bool true),after:=args }=some (.bool (true == true)) from w_eq_bool (w_res rfl) w_lit) rfl
theorem attach_call{l:OpenLaw}{n:Nat}{q:Tr}{loose:List Str}{XP:(Str->Option Tn)->Heap->Prop}{YP:Tt->Heap->Prop}{d:DefRec}
 (hn:l.most=some n) (hdf:d.params.defaults = [])
 (call:∀(w:Tt) (s₀ s₁:To) (mg mb:Str->Option Tn) (fa:Addr) (o:Obj) (pm cd doc:Tn) (a:Addr) (vs:List Tn) (ns:List Int),
  Ground q loose [] XP w s₀ mg mb s₁.heap->YP w s₁.heap ->
  s₁.heap.get? fa=some o->o.data = .func (docDef d.name d.params d.body d.scope pm cd doc)->s₁.heap.CodeRec cd d.name->mg d.name=some (.ref fa) ->
  s₁.heap.get? a=some { cls:=.type "list",data:=.seq vs.toArray }->jy vs ns->ns.length<=n->s₁.gens = #[] ->
  MX (model l.prog w) callerA (.call (.ref fa) ⟨[.ref a],[]⟩) (λr s'=>r = .ok (.ret (.bool true))/\OldK s₁.heap s'.heap/\s'.os=s₁.os/\Nh s'.gens) s₁) :
 WalkO q loose XP YP l.row.toRowW d [] (λf vs=>GJ f vs):=by
 intro w s₀ s₁ mg mb G Y fa o pm cd doc dV kV ho hd hcd hD hmg hg args vals as hpre hlay hrd hwl hlo;obtain rfl:dV = .none:=Dflts.none hD hdf;obtain rfl:kV = .none:=Dflts.noKw hD;obtain⟨a,vs,ns,rfl,rfl,hobj,hints,hlen⟩:=zsh hn hpre hwl;refine enter_call (Mw (call w s₀ s₁ mg mb fa o pm cd doc a vs ns G Y ho (fd_plain hd) hcd hmg hobj hints hlen hg) λr s' hq=>?_);obtain⟨rfl,h2,h3,h4⟩:=hq;exact⟨.inl ⟨.bool true,.bool true,[],rfl,λ_=>rfl,.bool true,zsm l _,λ_=>⟨V4,λ_ hm=>(nomatch hm)⟩⟩,h2,h3,h4⟩
end Att
namespace L2
open PySem PySem.Spec PyProof.Rows
theorem zli:∀{vs:List Tn} {ns:List Int},jy vs ns->Vals (ns.map V.int) vs
 | _,_,.nil=>.nil
 | _,_,.cons n t h=>.cons ⟨t,rfl⟩ (zli h)
def Only(H:Hp):Prop:=∀b,H b=none\/∃o xs,H b=some (.frz o (.lst xs))
theorem zwb{P:Tr}{w:Tt}{K:Qa}{mg mb:Str->Option Tn}{CX:CXT}{k:Nat}{fa a:Addr}{fd:Mx}{x:Str}{sp:Sp}{s₁:To}{vs:List Tn}{ns:List Int}
 (KX:K.In s₁.heap) (hns:s₁.heap.Ns mainGlobals mg) (hb:s₁.heap.Ns builtinsNs mb) (hbb:∀x:Str,x ≠ "__name__" -> mb x=TK x) (hlim:s₁.heap.NoLimit) (hg:s₁.gens = #[])
 (ha:s₁.heap.get? a=some { cls:=.type "list",data:=.seq vs.toArray }) (hi:jy vs ns) (hl:ns.length<=sizeLine) (hr:Room k callerA)
 (F:∀base:Heap,K.In base->base.Ns mainGlobals mg->FnOk P w K mg base CX k fa fd [x] sp) (hbind:∀(s:To) (u:Tn),jf s fd ⟨[u],[]⟩ [(x,u)])
 (hsp:∀H:Hp,Only H->SqL K H a (ns.map V.int)->sp [.ref a] H (λv _=>v = .bl true) λ_ _ _=>False)
 (hCX:∀H e s',CX [] H s₁ (λ_ _ _=>False) e s'->False) :
 MX (model P w) callerA (.call (.ref fa) ⟨[.ref a],[]⟩) (λr s'=>r = .ok (.ret (.bool true))/\OldK s₁.heap s'.heap/\s'.os=s₁.os/\Nh s'.gens) s₁:=by
 have rv:=zli hi;have lenV:=hi.length
 -- from an abstract heap in which nothing but the script may be tracked
 have core:∀H:Hp,Only H->SqL K H a (ns.map V.int)->HOk P w H s₁.heap->(∀b,H b≠none->b=a)->(H a≠none->K.lookup a=none) ->
  MX (model P w) callerA (.call (.ref fa) ⟨[.ref a],[]⟩) (λr s'=>r = .ok (.ret (.bool true))/\OldK s₁.heap s'.heap/\s'.os=s₁.os/\Nh s'.gens) s₁:=by
  intro H hO hS hok hA hK;have base_of:∀{b:Addr} {o:Obj},s₁.heap.get? b=some o->H b=none->(hidT s₁.heap H).get? b=some o:=λe n=>zwy e n
  have noA:∀{b:Addr} {o:Obj} {es:Array NV} {ep:Nat},s₁.heap.get? b=some o->o.data = .dict es ep->H b=none:=λ{b o es ep} e d=>by
   cases q:H b with
   | none=>rfl
   | some u=>
     have e':b=a:=hA b (by rw[q];simp);subst e';rw[ha] at e;cases e;have d':Data.seq vs.toArray _=Data.dict es ep:=d;cases d'
  have nsK:∀{b:Addr} {m:Str->Option Tn},s₁.heap.Ns b m->(hidT s₁.heap H).Ns b m:=λ{b m} ⟨o,es,ep,e,d,r⟩=>⟨o,es,ep,base_of e (noA e d),d,r⟩
  have hKb:K.In (hidT s₁.heap H):=λb o e=>base_of (KX b o e) (by
   cases q:H b with
   | none=>rfl
   | some u=>
     have e':b=a:=hA b (by rw[q];simp);subst e'
     rw[hK (by rw[q];simp)] at e;cases e)
  have hM:Mod K mg (hidT s₁.heap H):=⟨hKb,nsK hns,⟨mb,nsK hb,hbb⟩,let ⟨mc,h1,h2⟩:=hlim;⟨mc,nsK h1,h2⟩⟩;have e0:Env0 P w K mg (hidT s₁.heap H) callerA [] s₁ H:=⟨rfl,hM,λb o e=>zzi e,VO (zu6 _ _),trivial,λb hb=>absurd (show b∈([]:List Addr) from hb) (by simp),hok,.of_eq hg⟩;refine Mw ((F _ hKb (nsK hns)).run callerA [] s₁ H ⟨[.ref a],[]⟩ [.ref a] [.ref a] _ _ hr e0 (hbind s₁ (.ref a)) (.cons rfl .nil) (hsp H hO hS)) λr s' h=>?_
  cases r with
  | error e=>exact(hCX H e s' h).elim
  | ok fl=>
    cases fl with
    | next=>exact Jk h
    | brk=>exact Jk h
    | cont=>exact Jk h
    | ret u=>
      obtain⟨v,H',os,bare,un,hok',r',q⟩:=h;have q':v = .bl true:=q;subst q';obtain rfl:u=JP true:=r';refine⟨rfl,OldK.of_keep λb o e=>?_,os,bare⟩
      cases q:H b with
      | none=>exact un.keep b o e q (by intro z;exact absurd (show b∈([]:List Addr) from z) (by simp)) (by simp)
      | some u=>
        rcases hO b with z|⟨ob,xs,z⟩
        .rw[q] at z;cases z
        .have z2:=un.frzs b ob _ z;obtain⟨e1,_⟩:=hok b _ z;obtain⟨e2,_⟩:=hok' b _ z2;rw[e] at e1;cases e1;exact e2
 cases hk:K.lookup a with
 | some o=>
   -- the script is one of the module's own objects
   have e:=KX a o hk;rw[ha] at e;cases e;refine core (λ_=>none) (λ_=>.inl rfl) (.inr ⟨_,vs.toArray,_,hk,rfl,rfl,rfl,by rw[Qy,lenV];exact hl,by simpa using rv⟩) (λb u z=>by have z':(none:Option HO)=some u:=z;cases z') (λb z=>absurd rfl z) λz=>absurd rfl z
 | none=>
   refine core (λb=>if b=a then some (.frz { cls:=.type "list",data:=.seq vs.toArray } (.lst (ns.map V.int))) else none) (λb=>?_) (.inl (.inr ⟨{ cls:=.type "list",data:=.seq vs.toArray },j7 rfl⟩)) (λb u z=>?_) (λb z=>?_) λ_=>hk
   .by_cases hb:b=a
    .exact .inr ⟨_,_,j7 hb⟩
    .exact .inl (j8 hb)
   .by_cases hb:b=a
    .have z':=(j7 hb).symm.trans z;cases z';subst hb;exact⟨ha,by rw[Qc];exact hl,vs,_,rv,ha⟩
    .have z':=(j8 hb).symm.trans z;cases z'
   .by_cases hb:b=a
    .exact hb
    .exact absurd (j8 hb) z
theorem walk_of{l:VW}{n k:Nat}{q:Tr}{loose:List Str}{XP:(Str->Option Tn)->Heap->Prop}{YP:Tt->Heap->Prop}{d:DefRec}{K:Params->Qa}{CX:Tt->CXT}{sp:Tt->Sp}{x:Str}
 (hn:l.most=some n) (hn2:n<=sizeLine) (hdf:d.params.defaults = []) (hr:Room k callerA)
 (hY:∀(w:Tt) (h:Heap),YP w h->(K w.params).In h)
 (F:∀(w:Tt) (mg:Str->Option Tn) (fa:Addr) (h:Heap),(K w.params).In h->h.Ns mainGlobals mg->mg d.name=some (.ref fa) ->
  ∃fd:Mx,(∀(s:To) (u:Tn),jf s fd ⟨[u],[]⟩ [(x,u)]) /\
    ∀base:Heap,(K w.params).In base->base.Ns mainGlobals mg->FnOk l.prog w (K w.params) mg base (CX w) k fa fd [x] (sp w))
 (hsp:∀(w:Tt) (H:Hp) (a:Addr) (ns:List Int),ns.length<=n->Only H->SqL (K w.params) H a (ns.map V.int)->sp w [.ref a] H (λv _=>v = .bl true) λ_ _ _=>False)
 (hCX:∀(w:Tt) (H:Hp) (s:To) (e:Tn) (s':To),CX w [] H s (λ_ _ _=>False) e s'->False) :
 GX q loose XP YP l.row.toRowW d [] (λf vs=>GJ f vs):=by
 refine Att.attach_call hn hdf λw s₀ s₁ mg mb fa o pm cd doc a vs ns G Y ho hd hcd hmg hobj hints hlen hg=>?_;have KX:=hY w _ Y;obtain⟨fd,hb,hF⟩:=F w mg fa _ KX G.T.g hmg;exact zwb KX G.T.g G.T.b G.T.builtins G.T.nolimit hg hobj hints (QY hlen hn2) hr hF hb (λH hO hS=>hsp w H a ns hlen hO hS) λH e s'=>hCX w H s₁ e s'
def zci(s:Stmt):Arguments:=match s with
 | .FunctionDef _ a _ _ _ _ _ _ _ _=>a
 | _=>{ posonlyargs:=[],args:=[],vararg:=none,kwonlyargs:=[],kw_defaults:=[],kwarg:=none,defaults:=[] }
def zbp(s:Stmt):List Stmt:=match s with
 | .FunctionDef _ _ b _ _ _ _ _ _ _=>b
 | _=>[]
def zai(s:Stmt):Mn:=match s with
 | .FunctionDef _ _ _ _ _ _ sc _ _ _=>sc
 | _=>{ kind:=.function,names:=[],isGenerator:=false,isCoroutine:=false }
abbrev CX0:CXT:=λ_ _ _ _ _ _=>False
abbrev E0:XK:=λ_ _ _=>False
theorem zix: zmj CX0 X E0:=λ_ _ _ _ _ _ _ h=>h.elim
structure Fun(K:Qa)(x qual:Str)(st:Stmt)(f:Addr)(fd:Mx):Prop where
 ex:∃(oc:Tn) (od:Option Addr) (kV doc pm:Tn) (an:Option Addr) (cdv ct:Tn) (osl:Array (Option Tn)),
  fd=Jd x qual (zci st) (zbp st) (zai st) .none kV doc pm an cdv ct/\K.lookup f=some ⟨oc,od,.func fd,osl⟩/\Y5 K cdv qual=true
 kp:Yi K (.ref f)=true
section
variable {P:Tr}{w:Tt}{K:Qa}{mg:Str->Option Tn}{base:Heap}
theorem Fun.ok{x qual:Str}{st:Stmt}{f:Addr}{fd:Mx}{N ps:List Str}{k:Nat}{sp:Sp}(F:Fun K x qual st f fd)(S:FnScope N ps (zai st))(len:∀vs H Q E,sp vs H Q E->vs.length=ps.length)
 (hbody:∀(cdv:Tn) (A:Tv) (outer:List Env) (s:To) (H:Hp) (vs:List V) (Q:VK) (E:XK),Room k (A.deeper (N4 qual (zai st) s.heap.objs.size f cdv))->sp vs H Q E ->
  ∃t,PSs (cxOf CX0 P w K mg base N qual (zai st) f cdv A outer s H E).nox (zbp st) t/\t { nx:=λ_ H'=>Q .non H',rt:=Q } (start N vs) H):FnOk P w K mg base CX0 (k+1) f fd ps sp:=by
 obtain⟨oc,od,kV,doc,pm,an,cdv,ct,osl,rfl,lk,hcd⟩:=F.ex;refine z6x lk hcd S len λA outer s H vs Q E hr hsp=>?_;obtain⟨t,h,q⟩:=hbody cdv A outer s H vs Q E hr hsp;exact⟨t,h.nox,q⟩
theorem Fun.binds{x qual:Str}{st:Stmt}{f:Addr}{fd:Mx}{ps:List Str}(F:Fun K x qual st f fd)
 (h:∀(kV doc pm:Tn) (an:Option Addr) (cdv ct:Tn) (us:List Tn),us.length=ps.length->My (Jd x qual (zci st) (zbp st) (zai st) .none kV doc pm an cdv ct) ⟨us,[]⟩=pure (ps.zip us)):Binds K fd ps []:=by
 obtain⟨oc,od,kV,doc,pm,an,cdv,ct,osl,rfl,lk,hcd⟩:=F.ex;exact .all (h kV doc pm an cdv ct)
theorem zug{x qual:Str}{st:Stmt}{f:Addr}{oc:Tn}{od an:Option Addr}{osl:Array (Option Tn)}{kV doc pm cdv ct:Tn}(l:K.lookup f=some ⟨oc,od,.func (Jd x qual (zci st) (zbp st) (zai st) .none kV doc pm an cdv ct),osl⟩)
 (c:Y5 K cdv qual=true) (k:Yi K (.ref f)=true):Fun K x qual st f (Jd x qual (zci st) (zbp st) (zai st) .none kV doc pm an cdv ct):=⟨⟨oc,od,kV,doc,pm,an,cdv,ct,osl,rfl,l,c⟩,k⟩
end
theorem zdr{k:Nat}(hr:Room k A):A.units+1<cLine:=UB (Nat.add_le_add_left (by decide:1<=64) _) hr.units
theorem iteF{A B:Prop}(h:B):if false=true then A else B:=by
 rw[j8 Q8];exact h
theorem iteT{A B:Prop}(h:A):if true=true then A else B:=by
 rw[j7 rfl];exact h
theorem ite2{c A B:Prop}[Decidable c](h1:c->A)(h2:¬c->B):if c then A else B:=by
 by_cases h:c
 .rw[j7 h];exact h1 h
 .rw[j8 h];exact h2 h
def Same(H H':Hp):Prop:=∀b o,H b=some o->H' b=some o
theorem Same.refl(H:Hp):Same H H:=λ_ _ h=>h
theorem Same.trans(a:Same H H1)(b:Same H1 H2):Same H H2:=λc o h=>b c o (a c o h)
theorem Same.free(e:Same H H')(h:H' l=Yk):H l=Yk:=by
 cases q:H l with
 | none=>rfl
 | some o=>
   rw[e l o q] at h;cases h
theorem Same.seq{K:Qa}{H H':Hp}{a:Addr}{xs:List V}(e:Same H H')(h:SqL K H a xs):SqL K H' a xs:=by
 rcases h with (h|⟨o,h⟩)|h
 .exact .inl (.inl (e _ _ h))
 .exact .inl (.inr ⟨o,e _ _ h⟩)
 .exact .inr h
end L2
set_option maxHeartbeats 4000000
namespace L3
open PySem PySem.Spec
open PyProof.Rows hiding St
open L2
theorem zrn{α β:Type}{l:List α}{f:α->β->Sem (ForInStep β)}(g:α->β->β):∀(c:β),(∀x∈l,∀c,f x c=pure (.yield (g x c)))->forIn l c f=pure (l.foldl (λc x=>g x c) c):=by
 induction l with
 | nil=>intro c _;rfl
 | cons x l ih=>
   intro c h;rw[VX,h x Qp,pure_bind];exact ih (g x c) λy hy=>h y (Qf _ hy)
def clOf(ns:List (Str×Ms))(env:Env):List (Str×Addr):=ns.foldl (λcs x=>if x.2 == .free then(x.1,(env.cells.lookup x.1).getD 0)::cs else cs) []
theorem zrt{scope:Mn}(h:∀p∈scope.names,p.2 = .free->∃c,env.cells.lookup p.1=some c):closureFor scope env=pure (clOf scope.names env):=by
 simp only[closureFor];unfold clOf;rw[zrn (λ(x:Str×Ms) (cs:List (Str×Addr))=>if x.2 == .free then(x.1,(env.cells.lookup x.1).getD 0)::cs else cs)]
 .rfl
 .intro x hx c;obtain⟨n,k⟩:=x;dsimp only
  by_cases hk:k = .free
  .subst hk;obtain⟨a,ha⟩:=h _ hx rfl;have ha':env.cells.lookup n=some a:=ha;simp only[jG,jE,cellOf,ha',pure_bind,Option.getD_some]
  .have hb:(k == Zw)=false:=by simpa using hk
   simp only[hb,QI,jD]
theorem z2a{env:Env}{x:Str}:∀(ns:List (Str×Ms)) (acc:List (Str×Addr)) (c:Addr),
 (ns.foldl (λcs y=>if y.2 == .free then(y.1,(env.cells.lookup y.1).getD 0)::cs else cs) acc).lookup x=some c->acc.lookup x=some c\/((x,Zw)∈ns/\c=(env.cells.lookup x).getD 0):=by
 intro ns
 induction ns with
 | nil=>intro acc c h;exact .inl h
 | cons y r ih=>
   intro acc c h;obtain⟨n,k⟩:=y;rw[Jx] at h;rcases ih _ c h with h1|⟨h1,h2⟩
   .by_cases hk:k = .free
    .subst hk;simp only[jG,jE] at h1
     by_cases hx:x=n
     .subst hx;rw[ZI] at h1;cases h1;exact .inr ⟨Qp,rfl⟩
     .have hb:(x == n)=false:=by simpa using hx
      rw[ZV,hb] at h1;exact .inl h1
    .have hb:(k == Zw)=false:=by simpa using hk
     simp only[hb,QI,jD] at h1;exact .inl h1
   .exact .inr ⟨Qf _ h1,h2⟩
theorem zoq{env:Env}{x:Str}:∀(ns:List (Str×Ms)) (acc:List (Str×Addr)),(acc.lookup x).isSome=true\/(x,Zw)∈ns ->
 ((ns.foldl (λcs y=>if y.2 == .free then(y.1,(env.cells.lookup y.1).getD 0)::cs else cs) acc).lookup x).isSome=true:=by
 intro ns
 induction ns with
 | nil => intro acc h;rcases h with h|h
          .exact h
          .exact absurd h (by simp)
 | cons y r ih=>
   intro acc h;obtain⟨n,k⟩:=y;rw[Jx];refine ih _ ?_
   by_cases hk:k = .free
   .subst hk;simp only[jG,jE]
    by_cases hx:x=n
    .subst hx;left;rw[ZI];rfl
    .have hb:(x == n)=false:=by simpa using hx
     rw[ZV,hb];rcases h with h|h
     .exact .inl h
     .rcases Qs.mp h with z|z
      .injection z with z1 _;exact absurd z1 hx
      .exact .inr z
   .have hb:(k == Zw)=false:=by simpa using hk
    simp only[hb,QI,jD];rcases h with h|h
    .exact .inl h
    .rcases Qs.mp h with z|z
     .injection z with _ z2;exact absurd z2.symm hk
     .exact .inr z
theorem zq9(h:(clOf ns env).lookup x=some c):(x,Zw)∈ns/\c=(env.cells.lookup x).getD 0:=by
 rcases z2a ns [] c h with z|z
 .cases z
 .exact z
theorem zva(h:(x,Zw)∈ns)(e:env.cells.lookup x=some c):(clOf ns env).lookup x=some c:=by
 obtain⟨d,hd⟩:=JL.mp (zoq (env:=env) ns [] (.inr h));have hd':(clOf ns env).lookup x=some d:=hd;rw[hd',(zq9 hd').2,e];rfl
theorem zdl{env:Env}{x:Str}:∀(names:List (Str×Ms)),
 (names.map λ(n,k)=>if(k == Zw && env.scope.kind == .function && env.kindOf n == some .cell) then(n,Z1) else(n,k)).lookup x =
  (names.lookup x).map λk=>if(k == Zw && env.scope.kind == .function && env.kindOf x == some .cell) then Z1 else k
 | []=>rfl
 | (n,k)::r=>by
   have ih:=zdl (env:=env) (x:=x) r;show List.lookup x ((if(k == Zw && env.scope.kind == .function && env.kindOf n == some .cell)=true then(n,Z1) else(n,k))::_)=_
   by_cases hx:x=n
   .subst hx
    by_cases hc:(k == Zw && env.scope.kind == .function && env.kindOf x == some .cell)=true
    .rw[j7 hc,ZI,ZI,Yw,j7 hc]
    .rw[j8 hc,ZI,ZI,Yw,j8 hc]
   .have hb:(x == n)=false:=by simpa using hx
    by_cases hc:(k == Zw && env.scope.kind == .function && env.kindOf n == some .cell)=true
    .rw[j7 hc,ZV,hb,ZV,hb];exact ih
    .rw[j8 hc,ZV,hb,ZV,hb];exact ih
theorem zi0: ∀(names:List (Str×Ms)) (h:Heap) (acc:List (Str×Addr)),(Mb h.objs.size names acc).lookup x=some c ->
 acc.lookup x=some c\/((x,Z1)∈names/\h.objs.size<=c/\(pushCells h names).IsCell c none)
 | [],_,_,e=>.inl e
 | (n,k)::r,h,acc,e=>by
   unfold Mb at e;unfold pushCells
   by_cases hk:k = .cell
   .subst hk;simp only[jG,jE] at e ⊢;rw[<- QU h { cls:=.type "cell",data:=.cell none }] at e;rcases zi0 r _ _ e with z|⟨z1,z2,z3⟩
    .by_cases hx:x=n
     .subst hx;rw[ZI] at z;cases z;exact .inr ⟨Qp,Qh _,⟨_,ND r _ _ _ (Qm _ rfl),rfl⟩⟩
     .have hb:(x == n)=false:=by simpa using hx
      rw[ZV,hb] at z;exact .inl z
    .rw[QU] at z2;exact .inr ⟨Qf _ z1,by lia,z3⟩
   .have hb:(k == Z1)=false:=by simpa using hk
    simp only[hb,QI,jD] at e ⊢;rcases zi0 r h acc e with z|⟨z1,z2,z3⟩
    .exact .inl z
    .exact .inr ⟨Qf _ z1,z2,z3⟩
theorem zjj: ∀(names:List (Str×Ms)) (n:Nat) (acc:List (Str×Addr)),(x,Z1) ∉ names->(Mb n names acc).lookup x=acc.lookup x
 | [],_,_,_=>rfl
 | (y,k)::r,n,acc,h=>by
   have hr:(x,Z1) ∉ r:=λz=>h (Qf _ z);unfold Mb
   by_cases hk:k = .cell
   .subst hk;simp only[jG,jE]
    have hx:(x == y)=false:=by
     have:x≠y:=λz=>h (by rw[z];exact Qp);simpa using this
    rw[zjj r _ _ hr,ZV,hx]
   .have hb:(k == Z1)=false:=by simpa using hk
    simp only[hb,QI,jD];exact zjj r n acc hr
theorem zn7:∀(names:List (Str×Ms)) (n:Nat) (acc:List (Str×Addr)),(∀x c,acc.lookup x=some c->c<n)->(∀x y c,acc.lookup x=some c->acc.lookup y=some c->x=y) ->
 ∀x y c,(Mb n names acc).lookup x=some c->(Mb n names acc).lookup y=some c->x=y
 | [],_,_,_,hi=>hi
 | (a,k)::r,n,acc,hb,hi=>by
   unfold Mb
   by_cases hk:k = .cell
   .subst hk;simp only[jG,jE]
    have lk:∀x c,((a,n)::acc).lookup x=some c->(x=a/\c=n)\/(x≠a/\acc.lookup x=some c):=λx c e=>by
     by_cases hx:x=a
     .subst hx;rw[ZI] at e;cases e;exact .inl ⟨rfl,rfl⟩
     .have hz:(x == a)=false:=by simpa using hx
      rw[ZV,hz] at e;exact .inr ⟨hx,e⟩
    refine zn7 r (n+1) _ (λx c e=>?_) λx y c e1 e2=>?_
    .rcases lk x c e with ⟨_,z⟩|⟨_,z⟩
     .rw[z];exact ZL _
     .exact QP (hb x c z)
    .rcases lk x c e1 with ⟨z1,w1⟩|⟨z1,w1⟩ <;> rcases lk y c e2 with ⟨z2,w2⟩|⟨z2,w2⟩
     .rw[z1,z2]
     .exact absurd (hb y c w2) (by rw[w1];exact Zj _)
     .exact absurd (hb x c w1) (by rw[w2];exact Zj _)
     .exact hi x y c w1 w2
   .have hz:(k == Z1)=false:=by simpa using hk
    simp only[hz,QI,jD];exact zn7 r n acc hb hi
theorem zq0{scope:Mn}{globals:Addr}{qual:Str}{code:Tn}{builtins:Addr} 
 (h:∀h',h'.Ns s.heap.objs.size (λ_=>none)->(∀b o,s.heap.get? b=some o->h'.get? b=some o)->(∀x c,(Mb (s.heap.objs.size+1) scope.names cl).lookup x=some c->cl.lookup x=some c\/((x,Z1)∈scope.names/\s.heap.objs.size+1<=c/\h'.IsCell c none)) ->
  Q (newEnv scope s.heap.objs.size globals (Mb (s.heap.objs.size+1) scope.names cl) qual none code (some env) builtins) { s with heap:=h' }) :
 wpAny M A (newFunctionEnv scope globals cl [] qual none code (some env) builtins) Q E s:=by
 simp only[newFunctionEnv,UA,jE];refine Tj (wpAny_alloc ?_);refine Tj (wpAny_layCells _ (λname kind cells=>by cases hkc:kind == Z1 <;> simp[hkc]) _ _ _ _ ?_);rw[show({ s with heap:=s.heap.push { cls:=.type "dict",data:=.dict #[] } }:To).heap.objs.size=s.heap.objs.size+1 from QU ..];rw[Uk];refine Tj (Tk (Tk (h _ ((Heap.Ns.new s.heap (.type "dict")).keeps (ND _ _)) (λb o e=>ND _ _ b o (Qe _ e)) λx c e=>?_)));have:=zi0 scope.names (s.heap.push { cls:=.type "dict",data:=.dict #[] }) cl (x:=x) (c:=c) (by rw[QU];exact e);rwa [QU] at this
def zb0(X:Cx)(scope:Mn)(N':List Str)(C:Addr)(s:To)(H:Hp)(ex:List Addr):Cx :=
 { X with N:=N',s₀:=s,H₀:=H,env:=compEnvC scope (Mb (C+1) scope.names (clOf scope.names X.env)) C X.env,outer:=X.stack,stack:=X.stack,ex:=ex,fn:=λx=>scope.names.lookup x == some .cell,pn:=[],xe:=λ_ _=>False }
def zpd(h:Nat)(N' N:List Str)(names sc:List (Str×Ms)):Bool :=
 decide (N'.length=h+N.length) && decide N'.Nodup
 && (names.all λp=>(p.2 != .cell || names.lookup p.1 == some .cell) && (p.2 != .local || names.lookup p.1 == some .local) && (p.2 != .free || (names.lookup p.1 == some .free && (sc.lookup p.1 == some .cell || sc.lookup p.1 == some .free))))
 && (((N'.drop h).zip N).all λp=>match names.lookup p.1 with|some .free=>p.1 == p.2|some .local=>false|some .cell=>false|_=>true)
structure ScopeOk(h:Nat)(N' N:List Str)(scope:Mn)(sc:Mn):Prop where
 kind:scope.kind = .function
 len:N'.length=h+N.length
 nd:N'.Nodup
 cell:∀y∈scope.names,y.2 = .cell->scope.names.lookup y.1=some .cell
 loc:∀y∈scope.names,y.2 = .local->scope.names.lookup y.1=some .local
 free:∀y∈scope.names,y.2 = .free->scope.names.lookup y.1=some .free/\(sc.names.lookup y.1=some .cell\/sc.names.lookup y.1=some .free)
 out:∀(i:Nat) (x:Str) (k:Ms),N'[h+i]? = some x->scope.names.lookup x=some k->(k = .local\/k = .cell\/k = .free)->N[i]? = some x/\k = .free
theorem ScopeOk.of{h:Nat}{scope:Mn}(hk:scope.kind = .function)(e:zpd h N' N scope.names sc.names=true):ScopeOk h N' N scope sc:=by
 unfold zpd at e;simp only[Qx,jC,J1] at e;obtain⟨⟨⟨e1,e2⟩,e3⟩,e4⟩:=e;refine⟨hk,e1,e2,λy hy z=>?_,λy hy z=>?_,λy hy z=>?_,λi x k hx hl hkk=>?_⟩
 .have:=e3 y hy;rw[z] at this;simpa using this
 .have:=e3 y hy;rw[z] at this;simpa using this
 .have:=e3 y hy;rw[z] at this;simpa using this
 .have h1:(N'.drop h)[i]? = some x:=by rw[Jl];exact hx
  have hi:i<N.length:=by
   obtain⟨z,_⟩:=Qi.mp hx;lia
  have h2:N[i]? = some N[i]:=Qg hi
  have hm:(x,N[i])∈(N'.drop h).zip N:=by
   refine Qn (i:=i) ?_;rw[J8];exact⟨h1,h2⟩
  have q:=e4 _ hm;rw[hl] at q;rcases hkk with rfl|rfl|rfl
  .exact absurd q (by simp)
  .exact absurd q (by simp)
  .have q':x=N[i]:=by simpa using q
   exact⟨by rw[h2,<- q'],rfl⟩
def PF(X:Cx)(ifs:List Expr)(t:TT):Prop :=
 ∀(pins:List (Addr×Obj)) (s:To) (σ:St) (H:Hp) (Q:Bool->Hp->Prop),Inv X pins σ H s->t σ H Q ->
   wpAny (model X.prog X.w) X.A (forIn ifs true λc r=>if r=true then do let ok <- isTrue c X.env (eval c X.env);pure (Yx ok) else pure (Yx r)) (TP X pins σ Q) X.xe s
def tYes:TT:=λ_ H Q=>Q true H
theorem znl: PF X [] tYes:=λ_ _ _ H _ I h=>wpAny_tests_nil ⟨H,I,h⟩
theorem zu8(h:PT X c t):PF X [c] t:=λpins s σ H Q I q=>wpAny_tests_one (h pins s σ H Q I q)
def OwnG(h:Nat)(g:TG):Prop:=∀v (σ:St) H Q,h<=σ.length->g v σ H Q->g v σ H λσ2 H2=>Q σ2 H2/\σ2.length=σ.length/\σ2.drop h=σ.drop h
theorem zeg{h i:Nat}(hi:i<h):OwnG h (zbb i):=λv σ H Q hl q=>⟨q,by simp,by rw[List.drop_set_of_lt hi]⟩
def zjo(h:Nat)(g:TGs):Prop:=∀vs (σ:St) H Q,h<=σ.length->g vs σ H Q->g vs σ H λσ2 H2=>Q σ2 H2/\σ2.length=σ.length/\σ2.drop h=σ.drop h
theorem zzn{h:Nat}:zjo h gNil:=λvs σ H Q _ q=>⟨q.1,q.2,rfl,rfl⟩
def MonG(g:TG):Prop:=∀v σ H (Q Q':St->Hp->Prop),(∀σ H,Q σ H->Q' σ H)->g v σ H Q->g v σ H Q'
def zju(g:TGs):Prop:=∀v σ H (Q Q':St->Hp->Prop),(∀σ H,Q σ H->Q' σ H)->g v σ H Q->g v σ H Q'
theorem zmu{i:Nat}:MonG (zbb i):=λ_ _ _ _ _ h q=>h _ _ q
theorem z1c:zju gNil:=λ_ _ _ _ _ h q=>⟨q.1,h _ _ q.2⟩
theorem zwi(a:MonG g)(b:zju gs):zju (zja g gs):=λvs σ H Q Q' h ⟨v,r,e,q⟩=>⟨v,r,e,a _ _ _ _ _ (λσ' H' z=>b _ _ _ _ _ h z) q⟩
theorem zxy{h:Nat}(m:MonG g)(m2:zju gs)(a:OwnG h g)(b:zjo h gs):zjo h (zja g gs):=λvs σ H Q hl ⟨v,r,e,q⟩=>by
 refine⟨v,r,e,m _ _ _ _ _ (λσ' H' z=>?_) (a v σ H _ hl q)⟩;obtain⟨z1,z2,z3⟩:=z;exact m2 _ _ _ _ _ (λσ2 H2 ⟨y1,y2,y3⟩=>⟨y1,y2.trans z2,y3.trans z3⟩) (b r σ' H' Q (by lia) z1)
theorem z1s{K:Qa}{h n:Nat}{gs:TGs}(b:zjo h gs):OwnG h (gTup K n gs):=λv σ H Q hl ⟨a,xs,e1,e2,e3,q⟩=>⟨a,xs,e1,e2,e3,b xs σ H Q hl q⟩
def zgp(h:Nat)(wi:TI)(g:TG)(tf:TT)(te:TE):TE:=λσ H Q=>wi σ H λJ H1=>∀D,H1 D=none->∃W:Nat->Nat->List V->Hp->Prop,(∃m,W 0 m [] (upd H1 D (.lst [])))/\∀i m ys H,W i m ys H ->
 H D=some (.lst ys)/\((J.stop i H/\Q (.ref D) H)\/(J.go i H/\∀x H',J.yld i H x H'->g x (QG h none++σ) H' λσ2 H2=>tf σ2 H2 λc H3=>
   if c=true then te σ2 H3 λy H4=>H4 D=some (.lst ys)/\ys.length<sizeLine/\∃m',m'<m/\W (i+1) m' (ys ++ [y]) (upd H4 D (.lst (ys ++ [y]))) else ∃m',m'<m/\W (i+1) m' ys H3))
theorem zok{prog:Tr}{w:Tt}{R:Result->To->Prop}{target iter:Expr}{scope:Mn}(I:Nat->To->Prop)
 (turn:∀n s,I n s->wpAny (model prog w) A (M8 it) (λr s₁=>match r with
  | none=>R (.ok .next) s₁
  | some v=>wpAny (model prog w) A (MT target it v) (λ_ s₀=>wpAny (model prog w) A (MZ target env v) (λ_ s₂=>
   wpAny (model prog w) A (forIn ifs true λc r=>if r=true then do let ok <- isTrue c env (eval c env);pure (Yx ok) else pure (Yx r)) (λok s₃=>
    if ok=true then wpAny (model prog w) A (eval elt env) (λx s₄=>
     wpAny (model prog w) A (call (.builtin "list.append") [acc,x]) (λ_ s₅=>∃m,m<n/\I m s₅) (λ_ _=>False) s₄) (λ_ _=>False) s₃
    else ∃m,m<n/\I m s₃) (λ_ _=>False) s₂) (λ_ _=>False) s₀) (λ_ _=>False) s₁) (λ_ _=>False) s)
 (n:Nat) (h:I n s):MX (model prog w) A (.compLoop (.ListComp elt [⟨target,iter,ifs,0⟩] scope pos) 0 it acc env) R s:=by
 refine codeAny_loop rfl I (λn s hI=>?_) n h;show wpAny _ A ((compTurn (.ListComp elt [⟨target,iter,ifs,0⟩] scope pos) 0 it acc env).onRaise (λx=>do noteFrame x env;theTreesLotGoes x)) _ _ s;refine wpAny_noted ?_;rw[compTurn_list];refine Tj (Nm (Tj (TQ (turn n s hI) (λr s₁ h₁=>?_) λ_ _ h'=>h'.elim)))
 cases r with
 | none=>exact Tk h₁
 | some v=>
   refine Tj (TQ h₁ (λ_ s₀ h₀=>?_) λ_ _ h'=>h'.elim);refine Tj (TQ h₀ (λ_ s₂ h₂=>Tj (TQ h₂ (λok s₃ h₃=>?_) λ_ _ h'=>h'.elim)) λ_ _ h'=>h'.elim)
   cases ok with
   | false=>exact Tk ⟨rfl,h₃⟩
   | true=>
     exact Tj (Tj (TQ h₃ (λx s₄ h₄=>Tj (TQ h₄ (λ_ s₅ h₅=>Tk (Tk ⟨rfl,h₅⟩)) λ_ _ h'=>h'.elim)) λ_ _ h'=>h'.elim))
section
variable {X:Cx}{pins:List (Addr×Obj)}{σ:St}{H:Hp}{s:To}
theorem zfj{h:Nat}{scope:Mn}(I:Inv X pins σ H s)(S:ScopeOk h N' X.N scope X.env.scope):∀x c,(clOf scope.names X.env).lookup x=some c->X.env.cells.lookup x=some c:=λx c e=>by
 obtain⟨h1,h2⟩:=zq9 e;obtain⟨d,hd⟩:=I.ok.has x (S.free _ h1 rfl).2;rw[hd] at h2 ⊢;rw[h2];rfl
theorem zjx{h:Nat}{scope:Mn}(S:ScopeOk h N' X.N scope X.env.scope)(hf:(x,Zw)∈scope.names):(x,Z1) ∉ scope.names:=λz=>by
 have a:=(S.free _ hf rfl).1;have b:=S.cell _ z rfl;rw[show scope.names.lookup x=some .free from a] at b;cases b
theorem zi6{h:Nat}{scope:Mn}(I:Inv X pins σ H s)(S:ScopeOk h N' X.N scope X.env.scope):∀x c,(Mb (s.heap.objs.size+1) scope.names (clOf scope.names X.env)).lookup x=some c->X.env.cells.lookup x=some c\/((x,Z1)∈scope.names/\s.heap.objs.size+1<=c):=λx c e=>by
 have z:=zi0 scope.names (s.heap.push { cls:=.type "dict",data:=.dict #[] }) (clOf scope.names X.env) (x:=x) (c:=c) (by rw[QU];exact e);rw[QU] at z;rcases z with z|⟨z1,z2,_⟩
 .exact .inl (zfj I S x c z)
 .exact .inr ⟨z1,z2⟩
theorem zqv{h:Nat}{scope:Mn}(I:Inv X pins σ H s)(S:ScopeOk h N' X.N scope X.env.scope):∀x c,(clOf scope.names X.env).lookup x=some c->c<s.heap.objs.size+1:=λx c e=>by
 obtain⟨v,o,ho,_⟩:=I.cell x c (zfj I S x c e);exact QP (Qt ho)
theorem zzq{h:Nat}{scope:Mn}(I:Inv X pins σ H s)(S:ScopeOk h N' X.N scope X.env.scope)(hf:∀b∈fp,FpOk X pins H b)(hlt:∀b∈fp,b<s.heap.objs.size):
 (zb0 X scope N' s.heap.objs.size s H fp).Ok:=by
 have cl:=zi6 I S;refine⟨I.ok.mod,?_,I.ok.glob,I.ok.blt,Qh _,zn7 _ _ _ (zqv I S) λx y c e1 e2=>I.ok.inj x y c (zfj I S x c e1) (zfj I S y c e2),λx hx=>?_,λx c z e=>?_,I.ok.hd,I.ok.frames,.inl rfl,λb hb=>⟨Q2 (hlt b hb),λx c e=>(cl x c e).elim (λz=>(hf b hb).2.2.2.2.1 x c z) λz w=>Zj _ (QL (hlt b hb) (Yc (w ▸ z.2)))⟩,λb o e=>I.bs b o e,QY I.ok.bsz I.sz,λb o e hb=>?_,λb hb z=>?_,I.stack,I.stkFree⟩
 .exact S.kind
 .have hx':(relabel scope X.env).names.lookup x=some .cell\/(relabel scope X.env).names.lookup x=some .free:=hx;have e:=zdl (env:=X.env) (x:=x) scope.names
  have hl:scope.names.lookup x=some .free\/scope.names.lookup x=some .cell:=by
   cases q:scope.names.lookup x with
   | none=>rw[q] at e;rcases hx' with z|z <;> (have z':=e.symm.trans z;cases z')
   | some k=>
     rw[q,Yw] at e
     by_cases hk:k = .free
     .rw[hk];exact .inl rfl
     .have hc:¬(k == Zw && X.env.scope.kind == .function && X.env.kindOf x == some .cell)=true:=by
       have:(k == Zw)=false:=by simpa using hk
       rw[this];simp
      rw[j8 hc] at e;rcases hx' with z|z
      .have z':=e.symm.trans z;cases z';exact .inr rfl
      .have z':=e.symm.trans z;cases z';exact .inl rfl
  rcases hl with hl|hl
  .have hm:=ZQ hl;obtain⟨c,hc⟩:=I.ok.has x (S.free _ hm rfl).2;exact⟨c,(zjj _ _ _ (zjx S hm)).trans (zva hm hc)⟩
  .exact JL.mp (Y4 _ _ _ (.inl hl))
 .have z:(scope.names.lookup x == some Z1)=true:=z;have z:scope.names.lookup x=some .cell:=by simpa using z
  rcases zi0 scope.names (s.heap.push { cls:=.type "dict",data:=.dict #[] }) (clOf scope.names X.env) (x:=x) (c:=c) (by rw[QU];exact e) with w|⟨_,w,_⟩
  .exact absurd (ZQ z) (zjx S (zq9 w).1)
  .rw[QU] at w;exact Yc w
 .rcases(hf b hb).2.2.2.1 with z|z
  .exact I.ok.noex b o e z
  .exact absurd (QL (Qt (I.ok.bs b o e).1) z) (Zj _)
 .obtain⟨_,f1,f2,_⟩:=hf b hb;rcases Qs.mp (I.stkSub b z) with q|q
  .exact f1 q
  .exact f2 q
theorem zri{h:Nat}{scope:Mn}{tk:Nat}(I:Inv X pins σ H s)(S:ScopeOk h N' X.N scope X.env.scope)(hf:∀b∈fp,FpOk X pins H b)(hlt:∀b∈fp,b<s.heap.objs.size)
 (hn:h'.Ns s.heap.objs.size λ_=>none) (kp:∀b o,s.heap.get? b=some o->h'.get? b=some o) (hcs:∀x c,(Mb (s.heap.objs.size+1) scope.names (clOf scope.names X.env)).lookup x=some c->(clOf scope.names X.env).lookup x=some c\/((x,Z1)∈scope.names/\s.heap.objs.size+1<=c/\h'.IsCell c none)) :
 Inv (zb0 X scope N' s.heap.objs.size s H fp) [] (QG h none++σ) H { s with heap:=h',toks:=tk }:=by
 have ok:=zzq I S hf hlt;have cl:=zfj I S;refine⟨ok,rfl,I.bare,Un.kept kp,⟨_,hn,λi x v e1 e2 e3=>?_⟩,λx c e=>?_,I.hok.fresh (Qh _),λx c e=>(hcs x c e).elim (λz=>I.freeC x c (cl x c z)) λz=>I.hok.fresh (Yc z.2.1),λp hp=>absurd (show p∈([]:List (Addr×Obj)) from hp) (by simp),I.hok.kept kp,?_⟩
 .have e1:N'[i]? = some x:=e1
  by_cases hi:i<h
  .rw[Zr (by simpa using hi),ZU,j7 hi] at e2;cases e2
  .obtain⟨j,rfl⟩:∃j,i=h+j:=⟨i-h,by lia⟩;rw[Z7 (by simp),Z4,Nat.add_sub_cancel_left] at e2;have e3:Vis (relabel scope X.env) x:=e3;have er:=zdl (env:=X.env) (x:=x) scope.names
   have hl:∃k,scope.names.lookup x=some k/\(k = .local\/k = .cell\/k = .free)/\(relabel scope X.env).names.lookup x=some (if(k == Zw && X.env.scope.kind == .function && X.env.kindOf x == some .cell) then Z1 else k):=by
    cases q:scope.names.lookup x with
    | none=>rw[q] at er;rcases e3 with z|z|z <;> (have z':=er.symm.trans z;cases z')
    | some k=>
      rw[q,Yw] at er;refine⟨k,rfl,?_,er⟩
      by_cases hc:(k == Zw && X.env.scope.kind == .function && X.env.kindOf x == some .cell)=true
      .simp only[Qx,jN] at hc;exact .inr (.inr hc.1.1)
      .rw[j8 hc] at er;rcases e3 with z|z|z <;> (have z':=er.symm.trans z;cases z';simp)
   obtain⟨k,hk,hkk,hre⟩:=hl;obtain⟨hN,rfl⟩:=S.out j x k e1 hk hkk;have hm:=ZQ hk;have hfr:=(S.free _ hm rfl).2;obtain⟨m,hnm,hlk⟩:=I.loc;obtain⟨u,ru,lk⟩:=hlk j x v hN e2 (by rcases hfr with z|z;exact .inr (.inl z);exact .inr (.inr z));refine⟨u,ru,?_⟩;rcases lk with ⟨hloc,_⟩|⟨hkd,c,hc,hcell⟩
   .have hloc:X.env.scope.names.lookup x=some .local:=hloc;rcases hfr with z|z <;> (rw[hloc] at z;cases z)
   .refine .inr ⟨?_,c,(zjj _ _ _ (zjx S hm)).trans (zva hm hc),?_⟩
    .show(relabel scope X.env).names.lookup x=some .cell\/(relabel scope X.env).names.lookup x=some .free;rw[hre]
     split
     .exact .inl rfl
     .exact .inr rfl
    .obtain⟨o,ho,hd⟩:=hcell;exact⟨o,kp c o ho,hd⟩
 .rcases hcs x c e with z|z
  .obtain⟨v,o,ho,hd⟩:=I.cell x c (cl x c z);exact⟨v,o,kp c o ho,hd⟩
  .exact⟨_,z.2.2⟩
 .show(QG h none++σ).length=N'.length;rw[Qq,Z4,S.len,I.len]
theorem zwv{h:Nat}{scope:Mn}{pins':List (Addr×Obj)}(I:Inv X pins σ H s)(S:ScopeOk h N' X.N scope X.env.scope)(hf:∀b∈fp,FpOk X pins H b)
 (J:Inv (zb0 X scope N' s.heap.objs.size s H fp) pins' σ' H' s') (hs:Zk s.heap.objs.size s'.heap h'):Inv X pins σ H' { s' with heap:=h' }:=by
 have ne:∀b o,s.heap.get? b=some o->b≠s.heap.objs.size:=λb o e=>Q2 (Qt e);have u:Un (frs X.stack) fp H H' s.heap s'.heap:=J.base;have hC:H' s.heap.objs.size=none:=J.free;obtain⟨m0,⟨oC,_,_,hoC,_⟩,_⟩:=id J.loc;refine I.call' (s':={ s' with heap:=h' }) (ch:=fp) J.os ⟨λb o e n hb hx=>(hs.2 b (ne b o e)).trans (u.keep b o e n hb hx),λb o e n hb hx=>?_,u.free,λb o e hx=>?_,u.tups,u.frzs,u.tbls⟩ (λb ob e=>?_) J.bare λb hb=>?_
 .obtain⟨sl,z⟩:=u.slot b o e n hb hx;exact⟨sl,(hs.2 b (ne b o e)).trans z⟩
 .obtain⟨o',z⟩:=u.there b o e hx;exact⟨o',(hs.2 b (ne b o e)).trans z⟩
 .refine(J.hok b ob e).stay (λc w' hc q=>(hs.2 c ?_).trans q) (λ_ q=>q) λ_ _ q=>q;rintro rfl;rcases hc with z|z
  .rw[<- z,hC] at e;cases e
  .rw[hC] at z;cases z
 .obtain⟨_,f1,_,f3,f4,f5⟩:=hf b hb;exact⟨f3,f1,f4,f5⟩
end
theorem zlf{iter:Expr}{scope:Mn}{R:Tn->To->Prop}{pins:List (Addr×Obj)}(h:Nat)(S:ScopeOk h N' X.N scope X.env.scope)(hc:X.calm=true)(hi:PI X tg iter wi)
 (hg:∀C s H ex,PG (zb0 X scope N' C s H ex) tg g) (ho:OwnG h g) (ht:∀C s H ex,PF (zb0 X scope N' C s H ex) ifs tf) (he:∀C s H ex,PE (zb0 X scope N' C s H ex) elt te)
 (hs:∀x,Mh iter X.env x=pure x) (I:Inv X pins σ H s) (hq:zgp h wi g tf te σ H Q)
 (fin:∀(D:Addr) (H3 H5:Hp) (s3 s6:To) m6 fl,Inv X pins σ H3 s3->(∀h7,Zk s3.heap.objs.size s6.heap h7->Inv X pins σ H5 { s6 with heap:=h7 })->H5 s3.heap.objs.size=none->s6.heap.Ns s3.heap.objs.size m6->Q (.ref D) H5->compPost (model X.prog X.w) X.A X.xe use R (.ref D) s3.heap.objs.size (.ok fl) s6) :
 wpAny (model X.prog X.w) X.A (comprehension (.ListComp elt [⟨tg,iter,ifs,0⟩] scope pos) scope X.env cp (newList []) false (eval iter X.env) use) R X.xe s:=by
 refine wpAny_comprehension_free (use:=use) rfl hs (zrt (env:=X.env) λp hp hk=>I.ok.has p.1 (S.free p hp hk).2) S.kind S.loc ?_;refine thn (hi pins s σ H _ I hq) λv s1 h1=>thn h1 λitv s2 h2=>?_;obtain⟨it,fp,tn,J,H2,rfl,I2,T,st2,f2,hq⟩:=h2;refine Tz ?_ (by show 0<=sizeLine;exact QE _);have hD:H2 s2.heap.objs.size=none:=I2.hok.fresh (Qh _);have I3:Inv X pins σ (upd H2 s2.heap.objs.size (.lst [])) { s2 with heap:=s2.heap.push { cls:=.type "list",data:=.seq ([]:List Tn).toArray },toks:=s2.toks }:=I2.lnew (t':=s2.toks) .nil (QE _);generalize hs3:({ s2 with heap:=s2.heap.push { cls:=.type "list",data:=.seq ([]:List Tn).toArray },toks:=s2.toks }:To)=s3 at I3;have hs3':({ s2 with heap:=s2.heap.push { cls:=.type "list",data:=.seq ([]:List Tn).toArray } }:To)=s3:=hs3;obtain⟨W,⟨m0,w0⟩,turn⟩:=hq s2.heap.objs.size hD
 have olt:∀b∈fp,b<s2.heap.objs.size:=λb hb=>by
  obtain⟨o,e,_⟩:=T.obj _ _ st2 b hb;exact Qt e
 have hsz:s3.heap.objs.size=s2.heap.objs.size+1:=by rw[<- hs3];exact QU ..
 have k23:∀b o,s2.heap.get? b=some o->s3.heap.get? b=some o:=λb o e=>by rw[<- hs3];exact Qe _ e
 have f3:∀b∈fp,FpOk X pins (upd H2 s2.heap.objs.size (.lst [])) b:=λb hb=>⟨by rw[zae (Q2 (olt b hb))];exact(f2 b hb).1,(f2 b hb).2⟩;have lt3:∀b∈fp,b<s3.heap.objs.size:=λb hb=>by rw[hsz];exact QP (olt b hb)
 refine zq0 λh4 hn4 k34 cs4=>?_;have I4:=zri (h':=h4) (tk:=s3.toks) I3 S f3 lt3 hn4 k34 cs4;have st4:tn 0 h4:=T.keep _ _ _ st2 λb hb o e=>k34 b o (k23 b o e);generalize hX:zb0 X scope N' s3.heap.objs.size s3 (upd H2 s2.heap.objs.size (.lst [])) fp=X' at I4;have hA:X'.A=X.A:=by rw[<- hX];rfl
 -- the iterator's objects,in the block
 have fpX:∀{H':Hp} {pl:List (Addr×Obj)},(∀b∈fp,H' b=none)->pl = []->∀b∈fp,FpOk X' pl H' b:=λ{H' pl} hn0 hpl b hb=>by
  subst hpl;obtain⟨q0,q1,q2,q3,q4,q5⟩:=f3 b hb;subst hX;refine⟨hn0 b hb,Q2 (lt3 b hb),λz=>?_,.inl hb,λx c e=>(zi6 I3 S x c e).elim (q4 x c) λz w=>Zj _ (QL (lt3 b hb) (Yc (w ▸ z.2))),λp hp=>absurd (show p∈([]:List (Addr×Obj)) from hp) (by simp)⟩;rcases Qs.mp (I3.stkSub b z) with z|z
  .exact q1 z
  .exact q2 z
 have hcX:X'.calm=true:=by rw[<- hX];exact hc
 have hR:∀s':To,(∃(m:Nat) (i:Nat) (ys:List V) (H':Hp),Inv X' [] (QG h none++σ) H' s'/\tn i s'.heap/\(∀b∈fp,H' b=none)/\W i m ys H')->True:=λ_ _=>trivial
 have loop:∀(sL:To),(Inv X' [] (QG h none++σ) (upd H2 s2.heap.objs.size (.lst [])) sL)->tn 0 sL.heap ->
  MX (model X.prog X.w) X.A (.compLoop (.ListComp elt [⟨tg,iter,ifs,0⟩] scope pos) 0 (.ref it) (.ref s2.heap.objs.size) X'.env)
   (compPost (model X.prog X.w) X.A X.xe use R (.ref s2.heap.objs.size) s3.heap.objs.size) sL:=by
  intro sL IL stL;refine zok (λn s'=>∃i ys H',Inv X' [] (QG h none++σ) H' s'/\tn i s'.heap/\(∀b∈fp,H' b=none)/\W i n ys H') ?_ m0 ⟨0,[],_,IL,stL,λb hb=>(f3 b hb).1,w0⟩;rintro n s5 ⟨i,ys,H5,I5,st5,fr5,w5⟩;obtain⟨hDy,hh⟩:=turn i n ys H5 w5;have eP:X'.prog=X.prog:=by rw[<- hX];rfl
  have eW:X'.w=X.w:=by rw[<- hX];rfl
  have eK:X'.K=X.K:=by rw[<- hX];rfl
  have eE:X'.xe=λ_ _=>False:=by rw[<- hX];rfl
  rcases hh with ⟨stop,qn⟩|⟨go,step⟩
  .have:=T.done X' eP eW eK hcX i [] s5 _ H5 (λ_ _=>False) I5 (fpX fr5 rfl) st5 stop;rw[hA] at this;refine thn this λr s6 zz=>?_;obtain⟨hr,I6⟩:=zz;subst hr;obtain⟨m6,hm6,_⟩:=id I6.loc;rw[<- hX] at hm6 I6;exact fin _ _ H5 s3 s6 m6 _ I3 (λh7 hs7=>zwv I3 S f3 I6 hs7) I6.free hm6 qn
  .have:=T.item X' eP eW eK hcX i [] s5 _ H5 (λ_ _=>False) I5 (fpX fr5 rfl) st5 go;rw[hA] at this;refine thn this λr s6 zz=>?_;obtain⟨u,hr,h6⟩:=zz;subst hr;refine thn h6 λ_ s7 zz=>?_;obtain⟨x,H7,I7,r7,y7,st7,fr7⟩:=zz;have I7':=I7.pinned (fpX fr7 rfl) (T.obj _ _ st7)
   have back:∀{σ':St} {H':Hp} {s':To},Inv X' ([]++zg2 fp s7.heap) σ' H' s'->σ'.length=(QG h none++σ:St).length->σ'.drop h=(QG h none++σ:St).drop h ->
    Inv X' [] (QG h none++σ) H' s'/\tn (i+1) s'.heap/\∀b∈fp,H' b=none:=by
    intro σ' H' s' I' hl hd;refine⟨I'.unpinned.weak hl.symm λj v e=>?_,T.keep _ _ _ st7 λb hb o e=>?_,λb hb=>?_⟩
    .by_cases hj:j<h
     .rw[Zr (by simpa using hj),ZU,j7 hj] at e;cases e
     .have e1:(σ'.drop h)[j-h]? = σ'[j]?:=by rw[Jl];congr 1;lia
      have e2:((QG h none++σ:St).drop h)[j-h]? = (QG h none++σ:St)[j]?:=by rw[Jl];congr 1;lia
      rw[<- e1,hd,e2];exact e
    .exact(I'.pin (b,o) (Q9 _ (Q9 _ (zd6 hb e)))).1
    .obtain⟨o,e,_⟩:=T.obj _ _ st7 b hb;exact(I'.pin (b,o) (Q9 _ (Q9 _ (zd6 hb e)))).2.1
   have hg':=hg s3.heap.objs.size s3 (upd H2 s2.heap.objs.size (.lst [])) fp;have ht':=ht s3.heap.objs.size s3 (upd H2 s2.heap.objs.size (.lst [])) fp;have he':=he s3.heap.objs.size s3 (upd H2 s2.heap.objs.size (.lst [])) fp;rw[hX] at hg' ht' he';have hl0:h<=(QG h none++σ:St).length:=by simp
   have a1:=hg' _ s7 _ H7 x u _ I7' r7 (ho x _ H7 _ hl0 (step x H7 y7));rw[hA,eP,eW,eE] at a1;refine thn a1 λ_ s8 zz=>?_;obtain⟨σ8,H8,I8,q8,l8,d8⟩:=zz;have a2:=ht' _ s8 σ8 H8 _ I8 q8;rw[hA,eP,eW,eE] at a2;refine thn a2 λc s9 zz=>?_;obtain⟨H9,I9,q9⟩:=zz
   cases c with
   | false=>
     obtain⟨m',hm',w'⟩:=q9;obtain⟨b1,b2,b3⟩:=back I9 l8 d8;exact⟨m',hm',i+1,ys,H9,b1,b2,b3,w'⟩
   | true=>
     have a3:=he' _ s9 σ8 H9 _ I9 q9;rw[hA,eP,eW,eE] at a3;refine thn a3 λyv s10 zz=>?_;obtain⟨y,H10,I10,r10,hD10,hz10,m',hm',w'⟩:=zz;have a4:=zk2 (X:=X') _ s10 σ8 H10 (.ref s2.heap.objs.size) [y] (.ref s2.heap.objs.size) [yv] (λ_ Hz=>Hz=upd H10 s2.heap.objs.size (.lst (ys ++ [y]))) I10 rfl (.cons r10 .nil) ⟨_,ys,y,rfl,rfl,hD10,hz10,rfl⟩;rw[hA,eP,eW,eE] at a4;refine thn a4 λ_ s11 zz=>?_;obtain⟨_,H11,I11,_,e11⟩:=zz;subst e11;obtain⟨b1,b2,b3⟩:=back I11 l8 d8;exact⟨m',hm',i+1,ys ++ [y],_,b1,b2,b3,w'⟩
 have end_:=codeAny_compStart_list (prog:=X.prog) (w:=X.w) (A:=X.A) (R:=compPost (model X.prog X.w) X.A X.xe use R (.ref s2.heap.objs.size) s3.heap.objs.size) (elt:=elt) (target:=tg) (iter:=iter) (ifs:=ifs) (rest:=[]) (scope:=scope) (pos:=pos) (it:=.ref it) (acc:=.ref s2.heap.objs.size) (env:=X'.env)
  (loop _ I4 st4) (T.self _ 0 _ _ _ st4 (loop _ I4 st4))
 have hE:X'.env=compEnvC scope (Mb (s3.heap.objs.size+1) scope.names (clOf scope.names X.env)) s3.heap.objs.size X.env:=by rw[<- hX];rfl
 rw[hE] at end_;exact end_
theorem zkh{iter:Expr}{scope:Mn}(h:Nat)(S:ScopeOk h N' X.N scope X.env.scope)(hc:X.calm=true)(hi:PI X tg iter wi)
 (hg:∀C s H ex,PG (zb0 X scope N' C s H ex) tg g) (ho:OwnG h g) (ht:∀C s H ex,PF (zb0 X scope N' C s H ex) ifs tf) (he:∀C s H ex,PE (zb0 X scope N' C s H ex) elt te)
 (hs:∀x,Mh iter X.env x=pure x:=by intro _;rfl) :
 PE X (.ListComp elt [⟨tg,iter,ifs,0⟩] scope pos) (zgp h wi g tf te):=by
 intro pins s σ H Q I hq;rw[eval_ListComp];exact zlf h S hc hi hg ho ht he hs I hq λD H3 H5 s3 s6 m6 fl I3 bk hC hm qn=>⟨m6,hm,λh7 hs7=>⟨.ref D,H5,bk h7 hs7,rfl,qn⟩⟩
theorem zi1{iter:Expr}{scope:Mn}{spos:Pos}{n0:Nat}(hN0:X.N.Nodup)(hi0:X.N[n0]? = some x0)(hx0:X.env.scope.names.lookup x0=some .local)(hsw:M1 (.ListComp elt [⟨tg,iter,ifs,0⟩] scope pos) (some (.Name x0 py)) spos.line X.env=pure true)(h:Nat)(S:ScopeOk h N' X.N scope X.env.scope)(hc:X.calm=true)(hi:PI X tg iter wi)
 (hg:∀C s H ex,PG (zb0 X scope N' C s H ex) tg g) (ho:OwnG h g) (ht:∀C s H ex,PF (zb0 X scope N' C s H ex) ifs tf) (he:∀C s H ex,PE (zb0 X scope N' C s H ex) elt te)
 (hs:∀x,Mh iter X.env x=pure x:=by intro _;rfl) :
 PS X (.Assign [.Name x0 py] (.ListComp elt [⟨tg,iter,ifs,0⟩] scope pos) spos) (tAsg (zgp h wi g tf te) (zbb n0)):=by
 intro pins s σ H DD I hq;rw[exec_Assign_Name_used _ _ _ _ hsw];refine Tj (Nm (Tj ?_));show wpAny _ X.A (do let _ <- comprehension (.ListComp elt [⟨tg,iter,ifs,0⟩] scope pos) scope X.env _ (newList []) false (eval iter X.env) (some (MZ (.Name x0 py) X.env))) _ _ s;refine Tj (TQ (zlf (use:=some (MZ (.Name x0 py) X.env)) (R:=λ_ s'=>SP X pins DD .next s') h S hc hi hg ho ht he hs I hq λD H3 H5 s3 s6 m6 fl I3 bk hC hm qn=>?_) (λ_ s' hq=>Tk (Tk hq)) λ_ _ e=>e);have J6:Inv X pins σ H5 s6:=bk _ (Heap.SameBut.refl ..);have neL:s3.heap.objs.size≠X.env.locals:=Jz I3.lt
 have neC:∀x c,X.env.cells.lookup x=some c->c≠s3.heap.objs.size:=λx c e=>by
  obtain⟨v,z⟩:=I3.cell x c e;exact Q2 z.lt
 show wpAny (model X.prog X.w) X.A (MZ (.Name x0 py) X.env (.ref D)) _ _ s6;refine wpAny_assign_Name (zlj (v:=.ref D) J6 hN0 hi0 (.inl hx0) rfl (λs7 I7 zz=>?_) (.inr hx0));obtain⟨a,hsb,ha⟩:=zz
 have hac:s3.heap.objs.size≠a:=by
  rcases ha with rfl|ha
  .exact neL
  .exact ZA (neC _ _ ha)
 refine⟨m6,hm.sameBut hsb hac,λh8 hs8=>⟨_,H5,I7.turned (t':=s7.toks) (it:=s3.heap.objs.size) (λb o hb e=>(hs8.2 b hb).trans e) hC neL (.inr I3.sz) neC (λp hp=>?_),qn⟩⟩;exact Q2 (Qt (I3.pin p hp).1)
end L3
namespace L3
open PySem PySem.Spec PySem.Calls
open PyProof.Rows hiding St
open L2
section
variable {X:Cx}{pins:List (Addr×Obj)}{σ:St}{H:Hp}{s:To}{a:Addr}
def XR(a C dx:Addr):HO:=.ext λh=>∃o vs,h.get? a=some o/\o.cls = .ref C/\o.dict=some dx/\o.data = .fields vs
end
mutual
inductive Is(K:Qa)(F:Addr->Prop)(H:Hp):V->Tl->Prop
 | none:Is K F H .non .none
 | bool (b):Is K F H (.bl b) (.bool b)
 | int (i):Is K F H (.int i) (.int i)
 | str (x):Is K F H (.str x) (.str x)
 | list {a xs ds}:F a->H a=some (.lst xs)->IsAll K F H xs ds->Is K F H (.ref a) (.list ds)
 | tuple {a xs ds}:SqT K H a xs->IsAll K F H xs ds->Is K F H (.ref a) (.tuple ds)
inductive IsAll(K:Qa)(F:Addr->Prop)(H:Hp):List V->List Tl->Prop
 | nil:IsAll K F H [] []
 | cons {v vs d ds}:Is K F H v d->IsAll K F H vs ds->IsAll K F H (v::vs) (d::ds)
end
section
variable {K:Qa}{F F':Addr->Prop}{H H':Hp}
mutual
theorem Is.to(hL:∀a xs,F a->H a=some (.lst xs)->F' a/\H' a=some (.lst xs))(hT:∀a xs,SqT K H a xs->SqT K H' a xs):∀{v d},Is K F H v d->Is K F' H' v d
 | _,_,.none=>.none
 | _,_,.bool b=>.bool b
 | _,_,.int i=>.int i
 | _,_,.str x=>.str x
 | _,_,.list f q r=>.list (hL _ _ f q).1 (hL _ _ f q).2 (IsAll.to hL hT r)
 | _,_,.tuple q r=>.tuple (hT _ _ q) (IsAll.to hL hT r)
theorem IsAll.to(hL:∀a xs,F a->H a=some (.lst xs)->F' a/\H' a=some (.lst xs))(hT:∀a xs,SqT K H a xs->SqT K H' a xs):∀{vs ds},IsAll K F H vs ds->IsAll K F' H' vs ds
 | _,_,.nil=>.nil
 | _,_,.cons r t=>.cons (Is.to hL hT r) (IsAll.to hL hT t)
end
theorem IsAll.length:∀{vs ds},IsAll K F H vs ds->vs.length=ds.length
 | _,_,.nil=>rfl
 | _,_,.cons _ t=>by rw[Q3,Q3,IsAll.length t]
theorem IsAll.get:∀{vs ds} {i:Nat} {d},IsAll K F H vs ds->ds[i]? = some d->∃v,vs[i]? = some v/\Is K F H v d
 | _,_,_,_,.nil,e=>by simp at e
 | _,_,0,_,.cons r _,e=>by simp at e;subst e;exact⟨_,rfl,r⟩
 | _,_,i+1,d,.cons _ t,e=>by
   obtain⟨v,h1,h2⟩:=IsAll.get (i:=i) (d:=d) t (by simpa using e);exact⟨v,by simpa using h1,h2⟩
theorem IsAll.append:∀{vs ds ws es},IsAll K F H vs ds->IsAll K F H ws es->IsAll K F H (vs++ws) (ds++es)
 | _,_,_,_,.nil,s=>s
 | _,_,_,_,.cons r t,s=>.cons r (IsAll.append t s)
theorem IsAll.snoc{vs ds v d}(h:IsAll K F H vs ds)(r:Is K F H v d):IsAll K F H (vs ++ [v]) (ds ++ [d]):=h.append (.cons r .nil)
theorem IsAll.take:∀{vs ds} (n:Nat),IsAll K F H vs ds->IsAll K F H (vs.take n) (ds.take n)
 | _,_,0,_=>.nil
 | _,_,_+1,.nil=>.nil
 | _,_,n+1,.cons r t=>.cons r (IsAll.take n t)
theorem IsAll.drop:∀{vs ds} (n:Nat),IsAll K F H vs ds->IsAll K F H (vs.drop n) (ds.drop n)
 | _,_,0,r=>r
 | _,_,_+1,.nil=>.nil
 | _,_,n+1,.cons _ t=>IsAll.drop n t
end
def SameB(M:Addr->Prop)(H H':Hp):Prop:=∀a o,H a=some o->¬M a->H' a=some o
theorem SameB.refl(M:Addr->Prop)(H:Hp):SameB M H H:=λ_ _ h _=>h
theorem SameB.trans(a:SameB M H H1)(b:SameB M H1 H2):SameB M H H2:=λc o h n=>b c o (a c o h n) n
theorem SameB.of(s:Same H H'):SameB M H H':=λa o h _=>s a o h
theorem SameB.free(e:SameB M H H')(hm:¬M l)(h:H' l=Yk):H l=Yk:=by
 cases q:H l with
 | none=>rfl
 | some o=>rw[e l o q hm] at h;cases h
def TupStay(H H':Hp):Prop:=∀a u,(∃xs,u=HO.tup xs\/∃o,u=HO.frz o (.tup xs))->H a=some u->H' a=some u
theorem SqT.stay{K:Qa}{H H':Hp}{a:Addr}{xs:List V}(e:TupStay H H')(h:SqT K H a xs):SqT K H' a xs:=by
 rcases h with (h|⟨o,h⟩)|h
 .exact .inl (.inl (e _ _ ⟨xs,.inl rfl⟩ h))
 .exact .inl (.inr ⟨o,e _ _ ⟨xs,.inr ⟨o,rfl⟩⟩ h⟩)
 .exact .inr h
structure Ob where
 M:Addr->Prop
 P:Hp->Prop
 v:V
structure Ob.Ok(O:Ob):Prop where
 loc:∀H H',(∀a,O.M a->H' a=H a)->O.P H->O.P H'
 mutb:∀H a o,O.P H->H a=some o->O.M a->(∀xs,o≠.tup xs)/\∀q u,o≠.frz q u
 here:∀H a,O.P H->O.M a->∃o,H a=some o
theorem Ob.Ok.grow{O:Ob}(ok:O.Ok)(H H':Hp)(s:Same H H')(p:O.P H):O.P H':=ok.loc H H' (λa m=>by
 obtain⟨o,e⟩:=ok.here H a p m
 rw[e,s a o e]) p
def Ob.plus(O:Ob)(D:Addr)(u:HO):Ob:=⟨λa=>O.M a\/a=D,λH=>O.P H/\H D=some u,O.v⟩
theorem Ob.Ok.plus{O:Ob}(ok:O.Ok)(D:Addr)(xs:List V):(O.plus D (.lst xs)).Ok :=
 ⟨λH H' e p=>⟨ok.loc H H' (λa m=>e a (.inl m)) p.1,(e D (.inr rfl)).trans p.2⟩,
  λH a o p e m=>by
   rcases m with m|rfl
   .exact ok.mutb H a o p.1 e m
   .rw[p.2] at e;cases e;exact⟨λ_ h=>(by cases h),λ_ _ h=>(by cases h)⟩,
  λH a p m=>by
   rcases m with m|rfl
   .exact ok.here H a p.1 m
   .exact⟨_,p.2⟩⟩
structure Stp(O:Ob)(H H':Hp):Prop where
 s:SameB O.M H H'
 p:O.P H->O.P H'
 t:TupStay H H'
theorem Stp.refl(O:Ob)(H:Hp):Stp O H H:=⟨.refl _ _,λh=>h,λ_ _ _ h=>h⟩
theorem Stp.trans(a:Stp O H H1)(b:Stp O H1 H2):Stp O H H2:=⟨a.s.trans b.s,λh=>b.p (a.p h),λc u hu h=>b.t c u hu (a.t c u hu h)⟩
theorem Stp.same(ok:O.Ok)(s:Same H H'):Stp O H H':=⟨.of s,ok.grow H H' s,λa u _ h=>s a u h⟩
theorem same_new(h:H p=none)(o:HO):Same H (upd H p o):=λb u q=>by rw[zae (zcb q h)];exact q
theorem Stp.new{O:Ob}(ok:O.Ok){H:Hp}{p:Addr}(h:H p=none)(o:HO):Stp O H (upd H p o):=.same ok (same_new h o)
section
variable {K:Qa}{O:Ob}{F F':Addr->Prop}{H H':Hp}{v:V}{d:Tl}
theorem Is.stp(s:Stp O H H')(hF:∀a,F a->F' a)(hM:∀a,F a->¬O.M a)(h:Is K F H v d):Is K F' H' v d :=
 h.to (λa xs f q=>⟨hF a f,s.s a _ q (hM a f)⟩) λa xs q=>SqT.stay (h:=q) s.t
theorem IsAll.stp(s:Stp O H H')(hF:∀a,F a->F' a)(hM:∀a,F a->¬O.M a)(h:IsAll K F H vs ds):IsAll K F' H' vs ds :=
 h.to (λa xs f q=>⟨hF a f,s.s a _ q (hM a f)⟩) λa xs q=>SqT.stay (h:=q) s.t
theorem Is.weak(h:Is K F H v d)(hF:∀a,F a->F' a):Is K F' H v d:=h.to (λa xs f q=>⟨hF a f,q⟩) λa xs q=>q
theorem IsAll.weak(h:IsAll K F H vs ds)(hF:∀a,F a->F' a):IsAll K F' H vs ds:=h.to (λa xs f q=>⟨hF a f,q⟩) λa xs q=>q
end
mutual
def flat:Tl->Bool
 | .none=>true
 | .bool _=>true
 | .int _=>true
 | .str _=>true
 | .tuple ds=>flats ds
 | _=>false
def flats:List Tl->Bool
 | []=>true
 | d::ds=>flat d && flats ds
end
mutual
theorem Is.flat{K:Qa}{F F':Addr->Prop}{H H':Hp}(t:TupStay H H'):∀{v d},Is K F H v d->L3.flat d=true->Is K F' H' v d
 | _,_,.none,_=>.none
 | _,_,.bool b,_=>.bool b
 | _,_,.int i,_=>.int i
 | _,_,.str x,_=>.str x
 | _,_,.list _ _ _,h=>by simp[L3.flat] at h
 | _,_,.tuple q r,h=>.tuple (SqT.stay t q) (IsAll.flats t r (by simpa[L3.flat] using h))
theorem IsAll.flats{K:Qa}{F F':Addr->Prop}{H H':Hp}(t:TupStay H H'):∀{vs ds},IsAll K F H vs ds->L3.flats ds=true->IsAll K F' H' vs ds
 | _,_,.nil,_=>.nil
 | _,_,.cons r s,h=>by
   rw[L3.flats,Qx] at h;exact .cons (Is.flat t r h.1) (IsAll.flats t s h.2)
end
theorem TupStay.refl(H:Hp):TupStay H H:=λ_ _ _ h=>h
section
variable {X:Cx}{pins:List (Addr×Obj)}{σ:St}{H:Hp}{s:To}{F:Addr->Prop}
mutual
theorem Is.reads(I:Inv X pins σ H s):∀{v d} {u:Tn},Is X.K F H v d->RelV v u->∃as,TV s.heap u d as
 | _,_,_,.none,r=>by cases r;exact⟨_,.none⟩
 | _,_,_,.bool b,r=>by cases r;exact⟨_,.bool b⟩
 | _,_,_,.int i,r=>by obtain⟨t,rfl⟩:=r;exact⟨_,.int i t⟩
 | _,_,_,.str x,r=>by obtain⟨t,rfl⟩:=r;exact⟨_,.str x t⟩
 | _,_,_,.list f q rs,r=>by
   cases r;obtain⟨its,rv,⟨o,n,e,c,_,dt⟩,_⟩:=I.list (.of q);obtain⟨as,ra⟩:=IsAll.reads I rs rv;exact⟨_,.list e c dt (by simpa using ra)⟩
 | _,_,_,.tuple q rs,r=>by
   cases r;obtain⟨its,rv,⟨o,e,c,n,dt⟩,_⟩:=I.tuple q;obtain⟨as,ra⟩:=IsAll.reads I rs rv;exact⟨_,.tuple e c dt (by simpa using ra)⟩
theorem IsAll.reads(I:Inv X pins σ H s):∀{vs ds} {us:List Tn},IsAll X.K F H vs ds->Vals vs us->∃as,Mf s.heap us ds as
 | _,_,_,.nil,r=>by cases r;exact⟨_,.nil⟩
 | _,_,_,.cons h t,r=>by
   cases r with
   | cons r1 r2=>
     obtain⟨as,ra⟩:=Is.reads I h r1;obtain⟨bs,rb⟩:=IsAll.reads I t r2;exact⟨_,.cons ra rb⟩
end
end
def IsS(K:Qa)(F:Addr->Prop)(H:Hp)(v:V)(n:Nat):Prop:=∃a xs,v = .ref a/\xs.length=n/\((F a/\Rd H a (.lst xs))\/∀H',SqL K H' a xs)
theorem IsS.to{K:Qa}{F F':Addr->Prop}{H H':Hp}{v:V}{n:Nat}(hL:∀a u,F a->H a=some u->F' a/\H' a=some u)(h:IsS K F H v n):IsS K F' H' v n:=by
 obtain⟨a,xs,e,l,⟨f,q|⟨o,q⟩⟩|q⟩:=h
 .exact⟨a,xs,e,l,.inl ⟨(hL a _ f q).1,.inl (hL a _ f q).2⟩⟩
 .exact⟨a,xs,e,l,.inl ⟨(hL a _ f q).1,.inr ⟨o,(hL a _ f q).2⟩⟩⟩
 .exact⟨a,xs,e,l,.inr q⟩
def DkAt(H:Hp)(v:V)(a:Addr)(ks:List Str):Prop:=v = .ref a/\∃kvs,H a=some (.dK kvs)/\kvs.map (·.1)=ks.map VN
theorem DkAt.to(h:DkAt H v a ks)(e:∀u,H a=some u->H' a=some u):DkAt H' v a ks:=let ⟨h1,kvs,h2,h3⟩:=h;⟨h1,kvs,e _ h2,h3⟩
inductive R where
 | o (d:Tl)
 | n (ds:List Tl)
def R.d:R->Tl
 | .o d=>d
 | .n ds=>.list ds
structure Thg where
 R:Qa->(Addr->Prop)->(Addr->Prop)->Hp->V->Prop
 to:∀{K:Qa} {F F' W W':Addr->Prop} {H H':Hp} {v:V},(∀a u,F a->H a=some u->F' a/\H' a=some u)->(∀a u,W a->H a=some u->W' a/\H' a=some u)->TupStay H H'->R K F W H v->R K F' W' H' v
inductive DV where
 | im (d:Tl)
 | own (ds:List Tl)
 | ob
 | scr (n:Nat)
 | dct (ks:List Str)
   | gen (f:Addr->List V->HO) (ds:List Tl)
   | rd (f:Addr->List V->HO) (ds:List Tl)
   | exc (C:Addr) (ns:List Str) (ds:List Tl)
   | thg (T:Thg)
   | thr (T:Thg)
abbrev DSt:=List (Option DV)
abbrev DE:=DSt->(R->Prop)->Prop
abbrev DT:=DSt->(Bool->Prop)->Prop
abbrev DA:=DSt->(List Tl->Prop)->Prop
def unM(O:Ob):Addr->Prop:=λa=>¬O.M a
def ExAt(F:Addr->Prop)(H:Hp)(v:V)(C:Addr)(ns:List Str)(xs:List V):Prop:=∃a dx,v = .ref a/\F a/\F dx/\H a=some (XR a C dx)/\H dx=some (.xd (ns.zip xs))/\xs.length=ns.length
theorem ExAt.to(hL:∀a u,F a->H a=some u->F' a/\H' a=some u)(h:ExAt F H v C ns xs):ExAt F' H' v C ns xs:=by
 obtain⟨a,dx,e,f1,f2,q1,q2,l⟩:=h;exact⟨a,dx,e,(hL a _ f1 q1).1,(hL dx _ f2 q2).1,(hL a _ f1 q1).2,(hL dx _ f2 q2).2,l⟩
def SeenV(K:Qa)(O:Ob)(H:Hp)(v:V):DV->Prop
 | .im d=>Is K (unM O) H v d
 | .own ds=>Is K (unM O) H v (.list ds)
 | .ob=>v=O.v
 | .scr n=>IsS K (unM O) H v n
 | .dct ks=>∃a,¬O.M a/\DkAt H v a ks
 | .gen f ds=>∃a xs,v = .ref a/\¬O.M a/\H a=some (f a xs)/\IsAll K (unM O) H xs ds
 | .rd f ds=>∃a xs,v = .ref a/\¬O.M a/\H a=some (f a xs)/\IsAll K (unM O) H xs ds
 | .exc C ns ds=>∃xs,ExAt (unM O) H v C ns xs/\IsAll K (unM O) H xs ds
 | .thg T=>∃W:Addr->Prop,(∀a,W a->¬O.M a/\∃o,H a=some o)/\T.R K (unM O) W H v
 | .thr T=>∃W:Addr->Prop,(∀a,W a->¬O.M a/\∃o,H a=some o)/\T.R K (unM O) W H v
structure Seen(K:Qa)(O:Ob)(H:Hp)(σ:St)(ρ:DSt):Prop where
 ok:O.Ok
 p:O.P H
 at_:∀(i:Nat) r,ρ[i]? = some (some r)->∃v,σ[i]? = some (some v)/\SeenV K O H v r
 len:ρ.length=σ.length
theorem SeenV.stp{K:Qa}{O:Ob}{H H':Hp}{v:V}{r:DV}(s:Stp O H H')(h:SeenV K O H v r):SeenV K O H' v r:=by
 cases r with
 | im d=>exact Is.stp s (λ_ f=>f) (λ_ f=>f) h
 | own ds=>exact Is.stp s (λ_ f=>f) (λ_ f=>f) h
 | ob=>exact h
 | scr n=>exact IsS.to (λa u f q=>⟨f,s.s a u q f⟩) h
 | dct ks=>obtain⟨a,n,h⟩:=h;exact⟨a,n,h.to λu q=>s.s a u q n⟩
 | gen f ds=>obtain⟨a,xs,e,n,q,z⟩:=h;exact⟨a,xs,e,n,s.s a _ q n,IsAll.stp s (λ_ f=>f) (λ_ f=>f) z⟩
 | rd f ds=>obtain⟨a,xs,e,n,q,z⟩:=h;exact⟨a,xs,e,n,s.s a _ q n,IsAll.stp s (λ_ f=>f) (λ_ f=>f) z⟩
 | exc C ns ds=>obtain⟨xs,e,z⟩:=h;exact⟨xs,e.to λa u f q=>⟨f,s.s a u q f⟩,IsAll.stp s (λ_ f=>f) (λ_ f=>f) z⟩
 | thg T=>obtain⟨W,hw,z⟩:=h;exact⟨W,λa w=>⟨(hw a w).1,let ⟨o,e⟩:=(hw a w).2;⟨o,s.s a o e (hw a w).1⟩⟩,T.to (λa u f q=>⟨f,s.s a u q f⟩) (λa u w q=>⟨w,s.s a u q (hw a w).1⟩) s.t z⟩
 | thr T=>obtain⟨W,hw,z⟩:=h;exact⟨W,λa w=>⟨(hw a w).1,let ⟨o,e⟩:=(hw a w).2;⟨o,s.s a o e (hw a w).1⟩⟩,T.to (λa u f q=>⟨f,s.s a u q f⟩) (λa u w q=>⟨w,s.s a u q (hw a w).1⟩) s.t z⟩
theorem Seen.stp{K:Qa}{O:Ob}{H H':Hp}{σ:St}{ρ:DSt}(S:Seen K O H σ ρ)(s:Stp O H H'):Seen K O H' σ ρ :=
 ⟨S.ok,s.p S.p,λi r e=>let ⟨v,h1,h2⟩:=S.at_ i r e;⟨v,h1,h2.stp s⟩,S.len⟩
def Out(K:Qa)(O:Ob)(H H':Hp)(v:V):R->Prop
 | .o d=>Is K (unM O) H' v d
 | .n ds=>∃a xs,v = .ref a/\H a=none/\H' a=some (.lst xs)/\IsAll K (unM O) H' xs ds
theorem Out.is{K:Qa}{O:Ob}{H H':Hp}{v:V}{r:R}(ok:O.Ok)(p:O.P H)(h:Out K O H H' v r):Is K (unM O) H' v r.d:=by
 cases r with
 | o d=>exact h
 | n ds=>
   obtain⟨a,xs,rfl,hn,e,q⟩:=h;exact .list (λm=>by obtain⟨o,z⟩:=ok.here H a p m;rw[hn] at z;cases z) e q
def ED(K:Qa)(O:Ob)(t:TE)(f:DE):Prop :=
 ∀(σ:St) (H:Hp) (ρ:DSt) (Q:VK) (Qd:R->Prop),Seen K O H σ ρ->f ρ Qd->(∀v H' r,Stp O H H'->Out K O H H' v r->Qd r->Q v H')->t σ H Q
def TD(K:Qa)(O:Ob)(t:TT)(f:DT):Prop :=
 ∀(σ:St) (H:Hp) (ρ:DSt) (Q:Bool->Hp->Prop) (Qd:Bool->Prop),Seen K O H σ ρ->f ρ Qd->(∀b H',Stp O H H'->Qd b->Q b H')->t σ H Q
def AD(K:Qa)(O:Ob)(t:TA)(f:DA):Prop :=
 ∀(σ:St) (H:Hp) (ρ:DSt) (Q:List V->Hp->Prop) (Qd:List Tl->Prop),Seen K O H σ ρ->f ρ Qd->(∀vs H' ds,Stp O H H'->IsAll K (unM O) H' vs ds->Qd ds->Q vs H')->t σ H Q
section
variable {K:Qa}{O:Ob}
def cD(d:Tl):DE:=λ_ Q=>Q (.o d)
theorem z5k{i:Int}:ED K O (tC (.int i)) (cD (.int i)):=λσ H ρ Q Qd S h k=>k _ H (.o (.int i)) (.refl _ _) (Is.int i) h
theorem z4e: ED K O (tC (.str x)) (cD (.str x)):=λσ H ρ Q Qd S h k=>k _ H (.o (.str x)) (.refl _ _) (Is.str x) h
theorem z7j{b:Bool}:ED K O (tC (.bl b)) (cD (.bool b)):=λσ H ρ Q Qd S h k=>k _ H (.o (.bool b)) (.refl _ _) (Is.bool b) h
theorem z4y:ED K O (tC .non) (cD .none):=λσ H ρ Q Qd S h k=>k _ H (.o .none) (.refl _ _) Is.none h
def seeR:DV->Option Tl
 | .im d=>some d
 | .own ds=>some (.list ds)
 | .ob=>none
 | .scr _=>none
 | .dct _=>none
 | .gen _ _=>none
 | .rd _ _=>none
 | .exc _ _ _=>none
 | .thg _=>none
 | .thr _=>none
def vD(i:Nat):DE:=λρ Q=>∃r d,ρ[i]? = some (some r)/\seeR r=some d/\Q (.o d)
theorem z4w{i:Nat}:ED K O (tVar i) (vD i):=λσ H ρ Q Qd S h k=>by
 obtain⟨r,d,e,e2,h⟩:=h;obtain⟨v,hv,sv⟩:=S.at_ i r e;refine⟨v,hv,k _ H _ (.refl _ _) ?_ h⟩
 cases r with
 | im d'=>cases e2;exact sv
 | own ds=>cases e2;exact sv
 | ob=>cases e2
 | scr n=>cases e2
 | dct ks=>cases e2
 | gen f ds=>cases e2
 | rd f ds=>cases e2
 | exc C ns ds=>cases e2
 | thg T=>cases e2
 | thr T=>cases e2
def OpD(K:Qa)(O:Ob)(r:R2)(f:Tl->Tl->(R->Prop)->Prop):Prop :=
 ∀(H:Hp) (x y:V) (d e:Tl) (Q:VK) (Qd:R->Prop),O.Ok->O.P H->Is K (unM O) H x d->Is K (unM O) H y e->f d e Qd->(∀v H' r,Stp O H H'->Out K O H H' v r->Qd r->Q v H')->r x y H Q
theorem Out.stp(ok:O.Ok)(p:O.P H)(s1:Stp O H H1)(s2:Stp O H1 H2)(h:Out K O H H1 v r):Out K O H H2 v r:=by
 cases r with
 | o d=>exact Is.stp s2 (λ_ f=>f) (λ_ f=>f) h
 | n ds=>
   obtain⟨a,xs,rfl,hn,e,q⟩:=h;have m:¬O.M a:=λm=>by obtain⟨o,z⟩:=ok.here H a p m;rw[hn] at z;cases z
   exact⟨a,xs,rfl,hn,s2.s a _ e m,q.stp s2 (λ_ f=>f) (λ_ f=>f)⟩
theorem Out.ahead(ok:O.Ok)(p:O.P H)(s1:Stp O H H1)(h:Out K O H1 H2 v r):Out K O H H2 v r:=by
 cases r with
 | o d=>exact h
 | n ds=>
   obtain⟨a,xs,rfl,hn,e,q⟩:=h;have m:¬O.M a:=λm=>by obtain⟨o,z⟩:=ok.here H1 a (s1.p p) m;rw[hn] at z;cases z
   exact⟨a,xs,rfl,s1.s.free m hn,e,q⟩
def opDE(f:Tl->Tl->(R->Prop)->Prop)(fa fb:DE):DE:=λρ Q=>fa ρ λa=>fb ρ λb=>f a.d b.d Q
theorem zl9(hr:OpD K O r f)(ha:ED K O ta fa)(hb:ED K O tb fb):ED K O (tOp r ta tb) (opDE f fa fb):=λσ H ρ Q Qd S h k=>by
 refine ha σ H ρ _ _ S h λv H1 a s1 o1 h1=>?_;refine hb σ H1 ρ _ _ (S.stp s1) h1 λw H2 b s2 o2 h2=>?_;have p1:=s1.p S.p;refine hr H2 v w a.d b.d _ _ S.ok (s2.p p1) (Is.stp s2 (λ_ f=>f) (λ_ f=>f) (o1.is S.ok S.p)) (o2.is S.ok p1) h2 λz H3 c s3 o3 h3=>?_;exact k z H3 c ((s1.trans s2).trans s3) (Out.ahead S.ok S.p (s1.trans s2) o3) h3
def fn2(F:Tl->Tl->Option R):Tl->Tl->(R->Prop)->Prop:=λa b Q=>∃r,F a b=some r/\Q r
def bD(f:DE):DT:=λρ Q=>f ρ λr=>∃b,r.d = .bool b/\Q b
theorem z4s(h:ED K O t f):TD K O (zgg t) (bD f):=λσ H ρ Q Qd S hf k=>by
 refine h σ H ρ _ _ S hf λv H1 r s1 o1 zz=>?_;obtain⟨b,e,q⟩:=zz;have i:=o1.is S.ok S.p;rw[e] at i;cases i;exact⟨b,rfl,k b H1 s1 q⟩
theorem z1x(h:ED K O t f):TD K O (tB t) (bD f):=λσ H ρ Q Qd S hf k=>by
 refine h σ H ρ _ _ S hf λv H1 r s1 o1 zz=>?_;obtain⟨b,e,q⟩:=zz;have i:=o1.is S.ok S.p;rw[e] at i;cases i;exact⟨b,rfl,k b H1 s1 q⟩
def andT(f g:DT):DT:=λρ Q=>f ρ λb=>if b=true then g ρ Q else Q false
def orT(f g:DT):DT:=λρ Q=>f ρ λb=>if b=true then Q true else g ρ Q
def notT(f:DT):DT:=λρ Q=>f ρ λb=>Q (!b)
theorem z3t(h:TD K O t f)(h':TD K O u g):TD K O (tAnd t u) (andT f g):=λσ H ρ Q Qd S hf k=>by
 refine h σ H ρ _ _ S hf λb H1 s1 q=>?_
 cases b with
 | true=>exact h' σ H1 ρ _ _ (S.stp s1) q λc H2 s2 q2=>k c H2 (s1.trans s2) q2
 | false=>exact k false H1 s1 q
theorem z7b(h:TD K O t f)(h':TD K O u g):TD K O (tOr t u) (orT f g):=λσ H ρ Q Qd S hf k=>by
 refine h σ H ρ _ _ S hf λb H1 s1 q=>?_
 cases b with
 | false=>exact h' σ H1 ρ _ _ (S.stp s1) q λc H2 s2 q2=>k c H2 (s1.trans s2) q2
 | true=>exact k true H1 s1 q
theorem z4t(h:TD K O t f):TD K O (tNot t) (notT f):=λσ H ρ Q Qd S hf k=>h σ H ρ _ _ S hf λb H1 s1 q=>k (!b) H1 s1 q
def ifD(c:DT)(f g:DE):DE:=λρ Q=>c ρ λb=>if b=true then f ρ Q else g ρ Q
theorem z6y(hc:TD K O c fc)(h:ED K O t f)(h':ED K O u g):ED K O (tIf c t u) (ifD fc f g):=λσ H ρ Q Qd S hf k=>by
 refine hc σ H ρ _ _ S hf λb H1 s1 q=>?_
 cases b with
 | true=>exact h σ H1 ρ _ _ (S.stp s1) q λv H2 r s2 o2 q2=>k v H2 r (s1.trans s2) (o2.ahead S.ok S.p s1) q2
 | false=>exact h' σ H1 ρ _ _ (S.stp s1) q λv H2 r s2 o2 q2=>k v H2 r (s1.trans s2) (o2.ahead S.ok S.p s1) q2
def aNil:DA:=λ_ Q=>Q []
def za7(f:DE)(g:DA):DA:=λρ Q=>f ρ λr=>g ρ λds=>Q (r.d::ds)
theorem z2u:AD K O tNil aNil:=λσ H ρ Q Qd S h k=>k [] H [] (.refl _ _) .nil h
theorem z0h(h:ED K O t f)(h':AD K O u g):AD K O (za0 t u) (za7 f g):=λσ H ρ Q Qd S hf k=>by
 refine h σ H ρ _ _ S hf λv H1 r s1 o1 q=>?_;refine h' σ H1 ρ _ _ (S.stp s1) q λvs H2 ds s2 o2 q2=>?_;exact k (v::vs) H2 (r.d::ds) (s1.trans s2) (.cons (Is.stp s2 (λ_ f=>f) (λ_ f=>f) (o1.is S.ok S.p)) o2) q2
def tupD(g:DA):DE:=λρ Q=>g ρ λds=>ds.length<=sizeLine/\Q (.o (.tuple ds))
def lstD(g:DA):DE:=λρ Q=>g ρ λds=>ds.length<=sizeLine/\Q (.n ds)
theorem z4f(h:AD K O u g):ED K O (tTup u) (tupD g):=λσ H ρ Q Qd S hf k=>by
 refine h σ H ρ _ _ S hf λvs H1 ds s1 o1 ⟨z,q⟩=>⟨by rw[o1.length];exact z,λp hp=>?_⟩;have s2:Stp O H1 (upd H1 p (.tup vs)):=.new S.ok hp _;exact k _ _ (.o (.tuple ds)) (s1.trans s2) (.tuple (.of zak) (o1.stp s2 (λ_ f=>f) (λ_ f=>f))) q
theorem z4c(h:AD K O u g):ED K O (tLst u) (lstD g):=λσ H ρ Q Qd S hf k=>by
 refine h σ H ρ _ _ S hf λvs H1 ds s1 o1 ⟨z,q⟩=>⟨by rw[o1.length];exact z,λp hp=>?_⟩;have s2:Stp O H1 (upd H1 p (.lst vs)):=.new S.ok hp _;have m:¬O.M p:=λm=>by obtain⟨o,z⟩:=S.ok.here H1 p (s1.p S.p) m;rw[hp] at z;cases z
 exact k _ _ (.n ds) (s1.trans s2) ⟨p,vs,rfl,s1.s.free m hp,zak,o1.stp s2 (λ_ f=>f) (λ_ f=>f)⟩ q
def zdj(K:Qa)(O:Ob)(r:List V->Hp->VK->Prop)(f:List Tl->(R->Prop)->Prop):Prop :=
 ∀(H:Hp) (vs:List V) (ds:List Tl) (Q:VK) (Qd:R->Prop),O.Ok->O.P H->IsAll K (unM O) H vs ds->f ds Qd->(∀v H' r,Stp O H H'->Out K O H H' v r->Qd r->Q v H')->r vs H Q
def zb4(f:List Tl->(R->Prop)->Prop)(g:DA):DE:=λρ Q=>g ρ λds=>f ds Q
theorem zni(hr:zdj K O r f)(h:AD K O u g):ED K O (tCB r u) (zb4 f g):=λσ H ρ Q Qd S hf k=>by
 refine h σ H ρ _ _ S hf λvs H1 ds s1 o1 q=>?_;exact hr H1 vs ds _ _ S.ok (s1.p S.p) o1 q λv H2 r s2 o2 q2=>k v H2 r (s1.trans s2) (o2.ahead S.ok S.p s1) q2
def fn1(F:List Tl->Option R):List Tl->(R->Prop)->Prop:=λds Q=>∃r,F ds=some r/\Q r
end
abbrev DG:=Tl->DSt->(DSt->Prop)->Prop
def gN(i:Nat):DG:=λd ρ Q=>Q (ρ.set i (some (.im d)))
def gTD:List Nat->List Tl->DSt->(DSt->Prop)->Prop
 | [],[],ρ,Q=>Q ρ
 | i::is,d::ds,ρ,Q=>gTD is ds (ρ.set i (some (.im d))) Q
 | _,_,_,_=>False
def gT(is:List Nat):DG:=λd ρ Q=>∃ds,d = .tuple ds/\gTD is ds ρ Q
def GS(K:Qa)(O:Ob)(t:TG)(g:DG):Prop :=
 ∀(σ:St) (H:Hp) (ρ:DSt) (v:V) (d:Tl) (Q:St->Hp->Prop) (Qd:DSt->Prop),Seen K O H σ ρ->Is K (unM O) H v d->g d ρ Qd->(∀σ' ρ',Seen K O H σ' ρ'->Qd ρ'->Q σ' H)->t v σ H Q
section
variable {K:Qa}{O:Ob}
theorem Seen.set{i:Nat}(S:Seen K O H σ ρ)(h:SeenV K O H v r):Seen K O H (σ.set i (some v)) (ρ.set i (some r)):=by
 have hl:=S.len;refine⟨S.ok,S.p,λj r' e=>?_,by rw[Q1,Q1];exact S.len⟩
 by_cases hj:i=j
 .subst hj
  have hi:i<ρ.length:=by
   rcases Vj i ρ.length with z|z
   .exact z
   .rw[QD (by simpa using z)] at e;cases e
  rw[Zy hi] at e;cases e;exact⟨v,Zy (by lia),h⟩
 .rw[ZC hj] at e;obtain⟨w,h1,h2⟩:=S.at_ j r' e;exact⟨w,by rw[ZC hj];exact h1,h2⟩
theorem z0i{i:Nat}:GS K O (zbb i) (gN i):=λσ H ρ v d Q Qd S i h k=>k _ _ (S.set (r:=.im d) i) h
def GSs(K:Qa)(O:Ob)(t:TGs)(is:List Nat):Prop :=
 ∀(σ:St) (H:Hp) (ρ:DSt) (vs:List V) (ds:List Tl) (Q:St->Hp->Prop) (Qd:DSt->Prop),Seen K O H σ ρ->IsAll K (unM O) H vs ds->gTD is ds ρ Qd->(∀σ' ρ',Seen K O H σ' ρ'->Qd ρ'->Q σ' H)->t vs σ H Q
theorem zy6:GSs K O gNil []:=λσ H ρ vs ds Q Qd S i h k=>by
 cases i with
 | nil=>exact⟨rfl,k σ ρ S h⟩
 | cons _ _=>exact h.elim
theorem zw6{i:Nat}{is:List Nat}(ht:GSs K O t is):GSs K O (zja (zbb i) t) (i::is):=λσ H ρ vs ds Q Qd S h q k=>by
 cases h with
 | nil=>exact q.elim
 | cons h1 h2=>exact⟨_,_,rfl,ht _ H _ _ _ _ _ (S.set (r:=.im _) h1) h2 q k⟩
theorem zhy:∀{is:List Nat} {ds:List Tl} {ρ:DSt} {Q:DSt->Prop},gTD is ds ρ Q->ds.length=is.length
 | [],[],_,_,_=>rfl
 | [],_::_,_,_,h=>h.elim
 | _::_,[],_,_,h=>h.elim
 | _::is,_::ds,ρ,Q,h=>by
   have e:=zhy (is:=is) (ds:=ds) (Q:=Q) h;rw[Q3,Q3,e]
theorem z5d{is:List Nat}{n:Nat}(hn:is.length=n)(ht:GSs K O t is):GS K O (gTup K n t) (gT is):=λσ H ρ v d Q Qd S i h k=>by
 obtain⟨ds,rfl,h⟩:=h
 cases i with
 | tuple q r=>exact⟨_,_,rfl,q,by rw[r.length,zhy h];exact hn,ht σ H ρ _ ds Q Qd S r h k⟩
structure Walk(K:Qa)(O:Ob)(H H1:Hp)(J:It)(ds:List Tl)(B:Addr->Prop):Prop where
 st:Stp O H H1
 hb:∀a,B a->¬O.M a/\∃o,H1 a=some o
 stop:∀H2 i,(∀a o,B a->H1 a=some o->H2 a=some o)->TupStay H1 H2->ds.length<=i->J.stop i H2
 item:∀H2 i d,(∀a o,B a->H1 a=some o->H2 a=some o)->TupStay H1 H2->ds[i]? = some d->(flat d=true\/∀a o,H1 a=some o->¬O.M a->H2 a=some o) ->
  J.go i H2/\∀x H3,J.yld i H2 x H3->Same H2 H3/\Is K (λa=>¬O.M a/\(flat d=true\/∃o,H1 a=some o)) H3 x d
abbrev DI:=DSt->(Bool->List Tl->Prop)->Prop
def SrcS(K:Qa)(O:Ob)(wi:TI)(f:DI):Prop :=
 ∀(σ:St) (H:Hp) (ρ:DSt) (R:It->Hp->Prop) (Qd:Bool->List Tl->Prop),Seen K O H σ ρ->f ρ Qd ->
   (∀(J:It) (H1:Hp) (ds:List Tl) (B:Addr->Prop) (fr:Bool),Walk K O H H1 J ds B->(fr=true->∀a,B a->H a=none)->Qd fr ds->R J H1)->wi σ H R
end
def zbg(h:Nat)(g:DG)(ft:DT)(fe:DE)(ρ:DSt)(Q:List Tl->Prop):List Tl->List Tl->Prop
 | [],acc=>Q acc
 | d::ds,acc=>g d (QG h none++ρ) λρ2=>ft ρ2 λb=>if b=true then fe ρ2 λr=>acc.length<sizeLine/\zbg h g ft fe ρ Q ds (acc ++ [r.d]) else zbg h g ft fe ρ Q ds acc
def zqx(h:Nat)(f:DI)(g:DG)(ft:DT)(fe:DE):DE:=λρ Q=>f ρ λ_ ds=>zbg h g ft fe ρ (λes=>Q (.n es)) ds []
section
variable {K:Qa}{O:Ob}
theorem zv2(S:Seen K O H σ ρ)(h:Nat):Seen K O H (QG h none++σ) (QG h none++ρ):=by
 refine⟨S.ok,S.p,λi r e=>?_,by rw[Qq,Qq,Z4,Z4,S.len]⟩
 by_cases hi:i<h
 .rw[Zr (by simpa using hi),ZU,j7 hi] at e;cases e
 .rw[Z7 (by simpa using YK hi),Z4] at e;obtain⟨v,h1,h2⟩:=S.at_ _ r e;exact⟨v,by rw[Z7 (by simpa using YK hi),Z4];exact h1,h2⟩
theorem zv1(S:Seen K O H σ ρ)(hD:H D=none):Seen K (O.plus D (.lst xs)) (upd H D (.lst xs)) σ ρ:=by
 have gr:Same H (upd H D (.lst xs)):=same_new hD _;refine⟨S.ok.plus D xs,⟨S.ok.grow _ _ gr S.p,zak⟩,λi r e=>?_,S.len⟩;obtain⟨v,h1,h2⟩:=S.at_ i r e
 have go:∀d,Is K (unM O) H v d->Is K (unM (O.plus D (.lst xs))) (upd H D (.lst xs)) v d:=λd z=>
  z.to (λa ys f q=>⟨λm=>(by
   rcases m with m|rfl
   .exact f m
   .rw[hD] at q;cases q),gr _ _ q⟩) λa ys q=>SqT.stay (h:=q) λb u _ hb=>gr b u hb
 refine⟨v,h1,?_⟩
 cases r with
 | im d=>exact go d h2
 | own ds=>exact go _ h2
 | ob=>exact h2
 | scr n=>exact IsS.to (λa u f q=>⟨λm=>(by
  rcases m with m|rfl
  .exact f m
  .rw[hD] at q;cases q),gr _ _ q⟩) h2
 | dct ks=>
   obtain⟨a,n,h2⟩:=h2;refine⟨a,λm=>?_,h2.to λu q=>gr _ _ q⟩;rcases m with m|rfl
   .exact n m
   .obtain⟨_,kvs,q,_⟩:=h2;rw[hD] at q;cases q
 | gen f ds=>
   obtain⟨a,ys,e,n,q,z⟩:=h2
   refine⟨a,ys,e,λm=>?_,gr _ _ q,z.to (λa ys f q=>⟨λm=>(by
    rcases m with m|rfl
    .exact f m
    .rw[hD] at q;cases q),gr _ _ q⟩) λa ys q=>SqT.stay (h:=q) λb u _ hb=>gr b u hb⟩
   rcases m with m|rfl
   .exact n m
   .rw[hD] at q;cases q
 | rd f ds=>
   obtain⟨a,ys,e,n,q,z⟩:=h2
   refine⟨a,ys,e,λm=>?_,gr _ _ q,z.to (λa ys f q=>⟨λm=>(by
    rcases m with m|rfl
    .exact f m
    .rw[hD] at q;cases q),gr _ _ q⟩) λa ys q=>SqT.stay (h:=q) λb u _ hb=>gr b u hb⟩
   rcases m with m|rfl
   .exact n m
   .rw[hD] at q;cases q
 | exc C ns ds=>
   obtain⟨ys,e,z⟩:=h2
   have mv:∀a u,unM O a->H a=some u->unM (O.plus D (.lst xs)) a/\upd H D (.lst xs) a=some u:=λa u f q=>⟨λm=>(by
    rcases m with m|rfl
    .exact f m
    .rw[hD] at q;cases q),gr _ _ q⟩
   exact⟨ys,e.to mv,z.to (λa ys f q=>mv a _ f q) λa ys q=>SqT.stay (h:=q) λb u _ hb=>gr b u hb⟩
 | thg T=>
   obtain⟨W,hw,z⟩:=h2
   exact⟨W,λa w=>⟨λm=>(by
    obtain⟨n,o,q⟩:=hw a w;rcases m with m|rfl
    .exact n m
    .rw[hD] at q;cases q),let ⟨o,q⟩:=(hw a w).2;⟨o,gr _ _ q⟩⟩,T.to (λa u f q=>⟨λm=>(by
    rcases m with m|rfl
    .exact f m
    .rw[hD] at q;cases q),gr _ _ q⟩) (λa u w q=>⟨w,gr _ _ q⟩) (λb u _ hb=>gr b u hb) z⟩
 | thr T=>
   obtain⟨W,hw,z⟩:=h2
   exact⟨W,λa w=>⟨λm=>(by
    obtain⟨n,o,q⟩:=hw a w;rcases m with m|rfl
    .exact n m
    .rw[hD] at q;cases q),let ⟨o,q⟩:=(hw a w).2;⟨o,gr _ _ q⟩⟩,T.to (λa u f q=>⟨λm=>(by
    rcases m with m|rfl
    .exact f m
    .rw[hD] at q;cases q),gr _ _ q⟩) (λa u w q=>⟨w,gr _ _ q⟩) (λb u _ hb=>gr b u hb) z⟩
theorem zo2{h:Nat}(hs:SrcS K O wi f)(hg:∀O':Ob,GS K O' tg g)
 (hf:∀(D:Addr) (xs:List V),¬O.M D->TD K (O.plus D (.lst xs)) tf ft) (he:∀(D:Addr) (xs:List V),¬O.M D->ED K (O.plus D (.lst xs)) te fe):ED K O (zgp h wi tg tf te) (zqx h f g ft fe):=by
 intro σ H ρ Q Qd S hq k;refine hs σ H ρ _ _ S hq λJ H1 ds B fr W _ hgo D hD=>?_;have S1:=S.stp W.st;have nM:¬O.M D:=λm=>by obtain⟨o,z⟩:=S.ok.here H1 D S1.p m;rw[hD] at z;cases z
 have aD:∀a o,H1 a=some o->a≠D:=λa o e z=>by rw[z,hD] at e;cases e
 refine⟨λi m ys H2=>m=ds.length-i/\i<=ds.length/\H2 D=some (.lst ys)/\(∀a o,H1 a=some o->¬O.M a->H2 a=some o)/\TupStay H1 H2/\Seen K (O.plus D (.lst ys)) H2 σ ρ /\
  ∃acc,IsAll K (λa=>¬(O.M a\/a=D)) H2 ys acc/\zbg h g ft fe ρ (λes=>Qd (.n es)) (ds.drop i) acc,⟨ds.length,rfl,QE _,zak,λa o e _=>by rw[zae (aD a o e)];exact e,λa u _ e=>by rw[zae (aD a u e)];exact e,zv1 S1 hD,[],.nil,by simpa using hgo⟩,?_⟩
 rintro i m ys H2 ⟨rfl,hi,hDy,kp,tst,S2,acc,hacc,go⟩;refine⟨hDy,?_⟩;have kB:∀a o,B a->H1 a=some o->H2 a=some o:=λa o b e=>kp a o e (W.hb a b).1
 by_cases hlt:i<ds.length
 .right;have hd:ds[i]? = some ds[i]:=Qg hlt;rw[Zx hlt] at go;obtain⟨hgo1,hy⟩:=W.item H2 i ds[i] kB tst hd (.inr kp);refine⟨hgo1,λx H3 y=>?_⟩;obtain⟨sm,ix⟩:=hy x H3 y;have st3:Stp (O.plus D (.lst ys)) H2 H3:=.same S2.ok sm;have S3:=S2.stp st3
  have ix':Is K (unM (O.plus D (.lst ys))) H3 x ds[i]:=by
   by_cases hfl:flat ds[i]=true
   .exact Is.flat (TupStay.refl H3) ix hfl
   .exact ix.weak λa ha mm=>by
     rcases mm with mm|mm
     .exact ha.1 mm
     .rcases ha.2 with z|⟨o,z⟩
      .exact hfl z
      .exact aD a o z mm
  refine hg _ _ H3 _ x ds[i] _ _ (zv2 S3 h) ix' go λσ2 ρ2 Sg q=>?_;refine hf D ys nM σ2 H3 ρ2 _ _ Sg q λb H4 st4 q4=>?_;have st34:=st3.trans st4;have acc4:∀{H':Hp},Stp (O.plus D (.lst ys)) H2 H'->IsAll K (λa=>¬(O.M a\/a=D)) H' ys acc:=λst=>hacc.stp st (λ_ z=>z) (λ_ z=>z)
  cases b with
  | false=>
    refine⟨ds.length-(i+1),by lia,rfl,hlt,st34.s D _ hDy |> λz=>(st34.p S2.p).2,λa o e n=>?_,λa u hu e=>st34.t a u hu (tst a u hu e),S2.stp st34,acc,acc4 st34,q4⟩
    exact st34.s a o (kp a o e n) λmm=>by
     rcases mm with mm|mm
     .exact n mm
     .exact aD a o e mm
  | true=>
    refine he D ys nM σ2 H4 ρ2 _ _ (Sg.stp st4) q4 λyv H5 r st5 o5 zz=>?_;obtain⟨hz,q5⟩:=zz;have st25:=st34.trans st5;have S5:=S2.stp st25;have hD5:H5 D=some (.lst ys):=(st25.p S2.p).2;have iy:=o5.is (Sg.stp st4).ok (Sg.stp st4).p;have a5:=acc4 st25;refine⟨hD5,by rw[hacc.length];exact hz,ds.length-(i+1),by lia,rfl,hlt,zak,λa o e n=>?_,λa u hu e=>?_,?_,acc ++ [r.d],?_,q5⟩
    .rw[zae (aD a o e)]
     exact st25.s a o (kp a o e n) λmm=>by
      rcases mm with mm|mm
      .exact n mm
      .exact aD a o e mm
    .rw[zae (aD a u e)];exact st25.t a u hu (tst a u hu e)
    .have p5:O.P (upd H5 D (.lst (ys ++ [yv]))):=S.ok.loc H5 _ (λa m=>zae λz=>nM (z ▸ m)) S5.p.1;refine⟨S.ok.plus D _,⟨p5,zak⟩,λj r' e=>?_,S5.len⟩;obtain⟨v',h1,h2⟩:=S5.at_ j r' e
     have go:∀d,Is K (unM (O.plus D (.lst ys))) H5 v' d->Is K (unM (O.plus D (.lst (ys ++ [yv])))) (upd H5 D (.lst (ys ++ [yv]))) v' d:=λd z=>
      z.to (λa xs fa qa=>⟨fa,by rw[zae λz=>fa (.inr z)];exact qa⟩) λa xs qa=>SqT.stay (h:=qa) λb u hu hb=>by
       rw[zae λz=>?_]
       .exact hb
       .obtain⟨us,e1|⟨o',e1⟩⟩:=hu <;> (rw[z,hD5] at hb;cases hb;cases e1)
     refine⟨v',h1,?_⟩
     cases r' with
     | im d=>exact go d h2
     | own es=>exact go _ h2
     | ob=>exact h2
     | scr n=>exact IsS.to (λa u fa qa=>⟨fa,by rw[zae λz=>fa (.inr z)];exact qa⟩) h2
     | dct ks=>obtain⟨a,fa,h2⟩:=h2;exact⟨a,fa,h2.to λu qa=>by rw[zae λz=>fa (.inr z)];exact qa⟩
     | gen f ds=>
       obtain⟨a,xs,e,fa,q,z⟩:=h2;refine⟨a,xs,e,fa,by rw[zae λz=>fa (.inr z)];exact q,z.to (λa xs fa qa=>⟨fa,by rw[zae λz=>fa (.inr z)];exact qa⟩) λa xs qa=>SqT.stay (h:=qa) λb u hu hb=>?_⟩;rw[zae λz=>?_]
       .exact hb
       .obtain⟨us,e1|⟨o',e1⟩⟩:=hu <;> (rw[z,hD5] at hb;cases hb;cases e1)
     | rd f ds=>
       obtain⟨a,xs,e,fa,q,z⟩:=h2;refine⟨a,xs,e,fa,by rw[zae λz=>fa (.inr z)];exact q,z.to (λa xs fa qa=>⟨fa,by rw[zae λz=>fa (.inr z)];exact qa⟩) λa xs qa=>SqT.stay (h:=qa) λb u hu hb=>?_⟩;rw[zae λz=>?_]
       .exact hb
       .obtain⟨us,e1|⟨o',e1⟩⟩:=hu <;> (rw[z,hD5] at hb;cases hb;cases e1)
     | exc C ns ds=>
       obtain⟨xs,e,z⟩:=h2;have mv:∀a u,unM (O.plus D (.lst ys)) a->H5 a=some u->unM (O.plus D (.lst (ys ++ [yv]))) a/\upd H5 D (.lst (ys ++ [yv])) a=some u:=λa u fa qa=>⟨fa,by rw[zae λz=>fa (.inr z)];exact qa⟩;refine⟨xs,e.to mv,z.to (λa xs fa qa=>mv a _ fa qa) λa xs qa=>SqT.stay (h:=qa) λb u hu hb=>?_⟩;rw[zae λz=>?_]
       .exact hb
       .obtain⟨us,e1|⟨o',e1⟩⟩:=hu <;> (rw[z,hD5] at hb;cases hb;cases e1)
     | thg T=>
       obtain⟨W,hw,z⟩:=h2;refine⟨W,λa w=>⟨(hw a w).1,let ⟨o,q⟩:=(hw a w).2;⟨o,by rw[zae λz=>(hw a w).1 (.inr z)];exact q⟩⟩,T.to (λa u fa qa=>⟨fa,by rw[zae λz=>fa (.inr z)];exact qa⟩) (λa u w q=>⟨w,by rw[zae λz=>(hw a w).1 (.inr z)];exact q⟩) (λb u hu hb=>?_) z⟩;rw[zae λz=>?_]
       .exact hb
       .obtain⟨us,e1|⟨o',e1⟩⟩:=hu <;> (rw[z,hD5] at hb;cases hb;cases e1)
     | thr T=>
       obtain⟨W,hw,z⟩:=h2;refine⟨W,λa w=>⟨(hw a w).1,let ⟨o,q⟩:=(hw a w).2;⟨o,by rw[zae λz=>(hw a w).1 (.inr z)];exact q⟩⟩,T.to (λa u fa qa=>⟨fa,by rw[zae λz=>fa (.inr z)];exact qa⟩) (λa u w q=>⟨w,by rw[zae λz=>(hw a w).1 (.inr z)];exact q⟩) (λb u hu hb=>?_) z⟩;rw[zae λz=>?_]
       .exact hb
       .obtain⟨us,e1|⟨o',e1⟩⟩:=hu <;> (rw[z,hD5] at hb;cases hb;cases e1)
    .have mv:∀{vs es},IsAll K (λa=>¬(O.M a\/a=D)) H5 vs es->IsAll K (λa=>¬(O.M a\/a=D)) (upd H5 D (.lst (ys ++ [yv]))) vs es:=λz=>
      z.to (λa xs fa qa=>⟨fa,by rw[zae λz=>fa (.inr z)];exact qa⟩) λa xs qa=>SqT.stay (h:=qa) λb u hu hb=>by
       rw[zae λz=>?_]
       .exact hb
       .obtain⟨us,e1|⟨o',e1⟩⟩:=hu <;> (rw[z,hD5] at hb;cases hb;cases e1)
     exact mv (a5.snoc iy)
 .left;have e:i=ds.length:=by lia
  subst e;rw[YL] at go;refine⟨W.stop H2 _ kB tst (Qh _),k _ H2 (.n acc) ?_ ⟨D,ys,rfl,W.st.s.free nM hD,hDy,hacc.weak λa z m=>z (.inl m)⟩ go⟩;refine W.st.trans ⟨λa o e n=>kp a o e n,λ_=>S2.p.1,tst⟩
end
section
variable {K:Qa}{O:Ob}
theorem zd7{i:Nat}{d:Tl}(h:IsAll K (unM O) H1 xs ds)(hd:ds[i]? = some d)(t:TupStay H1 H2)(c:flat d=true\/∀a o,H1 a=some o->¬O.M a->H2 a=some o):
 ∃v,xs[i]? = some v/\Is K (λa=>¬O.M a/\(flat d=true\/∃o,H1 a=some o)) H2 v d:=by
 obtain⟨v,hv,iv⟩:=h.get hd;refine⟨v,hv,?_⟩;rcases c with c|c
 .exact Is.flat t iv c
 .exact iv.to (λa ys f q=>⟨⟨f,.inr ⟨_,q⟩⟩,c a _ q f⟩) λa ys q=>SqT.stay (h:=q) t
def R.isN:R->Bool
 | .n _=>true
 | .o _=>false
def srcL(f:DE):DI:=λρ Q=>f ρ λr=>∃ds,r.d = .list ds/\Q r.isN ds
theorem zv3(h:ED K O t f):SrcS K O (zex K t) (srcL f):=λσ H ρ R Qd S hf k=>by
 refine h σ H ρ _ _ S hf λv H1 r st o1 zz=>?_;obtain⟨ds,e,q⟩:=zz;have i1:=o1.is S.ok S.p;rw[e] at i1
 cases i1 with
 | list f0 ha hs=>
   rename_i a xs
   refine⟨a,rfl,⟨xs,.of ha⟩,k (Itl K a) H1 ds (λb=>b=a) r.isN ⟨st,λb hb=>by subst hb;exact⟨f0,_,ha⟩,λH2 i kb _ hi=>?_,λH2 i d kb t2 hd c=>?_⟩ (λz b hb=>?_) q⟩
   .exact⟨xs,.of (kb a _ rfl ha),by rw[hs.length];exact hi⟩
   .obtain⟨w,hw,iw⟩:=zd7 (O:=O) hs hd t2 c;have q2:SqL K H2 a xs:=.of (kb a _ rfl ha);refine⟨⟨xs,w,q2,hw⟩,λx H3 zz=>?_⟩;obtain⟨e3,y⟩:=zz;subst e3;have:=y xs q2;rw[hw] at this;cases this;exact⟨Same.refl _,iw⟩
   .subst hb
    cases r with
    | o d=>cases z
    | n es=>
      obtain⟨a',xs',e',hn,_⟩:=o1;cases e';exact hn
def srcT(f:DE):DI:=λρ Q=>f ρ λr=>∃ds,r.d = .tuple ds/\Q true ds
theorem z0y(h:ED K O t f):SrcS K O (iTup K t) (srcT f):=λσ H ρ R Qd S hf k=>by
 refine h σ H ρ _ _ S hf λv H1 r st o1 zz=>?_;obtain⟨ds,e,q⟩:=zz;have i1:=o1.is S.ok S.p;rw[e] at i1
 cases i1 with
 | tuple ha hs=>
   rename_i a xs
   refine⟨a,rfl,⟨xs,ha⟩,k (Itt K a) H1 ds (λ_=>False) true ⟨st,λb hb=>hb.elim,λH2 i kb t2 hi=>?_,λH2 i d kb t2 hd c=>?_⟩ (λz b hb=>hb.elim) q⟩
   .exact⟨xs,SqT.stay t2 ha,by rw[hs.length];exact hi⟩
   .obtain⟨w,hw,iw⟩:=zd7 (O:=O) hs hd t2 c;have q2:SqT K H2 a xs:=SqT.stay t2 ha;refine⟨⟨xs,w,q2,hw⟩,λx H3 zz=>?_⟩;obtain⟨e3,y⟩:=zz;subst e3;have:=y xs q2;rw[hw] at this;cases this;exact⟨Same.refl _,iw⟩
def zf8(lo:Int)(n:Nat):List Tl:=(QH n).map λk=>.int (lo+(k:Nat))
theorem zdv{lo:Int}{n i:Nat}{d:Tl}(h:(zf8 lo n)[i]? = some d):i<n/\d = .int (lo+(i:Nat)):=by
 unfold zf8 at h;rw[Qj] at h
 by_cases hi:i<n
 .rw[Yp hi] at h;cases h;exact⟨hi,rfl⟩
 .rw[QD (by simpa using hi)] at h;cases h
theorem zu5(st:Stp O H H1)(lo:Int)(n:Nat):Walk K O H H1 (Itr lo n) (zf8 lo n) (λ_=>False) :=
 ⟨st,λb hb=>hb.elim,λH2 i _ _ hi=>(show n<=i by simpa[zf8] using hi),λH2 i d _ t2 hd c=>by
  obtain⟨hi,rfl⟩:=zdv hd;refine⟨hi,λx H3 zz=>?_⟩;obtain⟨e3,y⟩:=zz;subst e3 y
  exact⟨Same.refl _,.int _⟩⟩
def zx7(g:DA):DI:=λρ Q=>g ρ λds=>∃j:Int,ds = [.int j]/\-(2 ^ 62)<=j/\j<2 ^ 62/\Q true (zf8 0 j.toNat)
theorem zxe(h:AD K O t g):SrcS K O (zre t) (zx7 g):=λσ H ρ R Qd S hf k=>by
 refine h σ H ρ _ _ S hf λvs H1 ds st is zz=>?_;obtain⟨j,e,b1,b2,q⟩:=zz;subst e
 cases is with
 | cons i0 is=>
   cases is;cases i0;exact⟨j,rfl,b1,b2,k _ H1 _ _ true (zu5 st 0 j.toNat) (λ_ _ hb=>hb.elim) q⟩
end
def sg(c:Nat):Str:=⟨#[c]⟩
def Its(x:Str):It:=⟨λi _=>i<x.cps.size,λi H v H'=>H'=H/\∃c,x.cps[i]? = some c/\v = .str (sg c),λi _=>x.cps.size<=i⟩
theorem zoc{P:Tr}{w:Tt}{K:Qa}{tg:Expr}{it:Addr}{x:Str}{t:Tok}{ty:String}(hty:["enumerate", "zip", "dict_itemiterator", "dict_reverseitemiterator", "odict_iterator", "itertools.zip_longest", "itertools.pairwise"].contains ty=false)
 (W:∀A':Tv,A'.handled=none->Walks P w A' it [it] [it] x.cps.size (SignAt x) (λi h=>h.IsStrIter it ty x t i))
 (hself:∀(A:Tv) (i:Nat) (s:To) (Q:Tn->To->Prop) (E:Tn->To->Prop),s.heap.IsStrIter it ty x t i->Q (.ref it) s->wpAny (model P w) A (N8 (.ref it)) Q E s) :
 Turn P w K tg (Its x) [it] it (λi h=>i<=x.cps.size/\h.IsStrIter it ty x t i) where
 mem:=by simp
 obj:=λi h st b hb=>by
  have e:b=it:=by simpa using hb
  subst e;obtain⟨_,o,e,c,d⟩:=st;exact⟨o,e,λv z=>by rw[d] at z;cases z⟩
 keep:=λi h h' st k=>⟨st.1,by
  obtain⟨_,o,e,c⟩:=st
  exact⟨o,k it (by simp) o e,c⟩⟩
 item:=by
  intro X hP hw hK hc i pins s σ H E I hf st hg;subst hP hw hK;obtain⟨f0,f1,f2,f3,f4,f5⟩:=hf it (by simp);refine(W X.A (I.ok.hd hc)).item i s _ _ hg st.2 λv h' tk hv st' kk=>?_;obtain⟨c,u,hcx,rfl⟩:=hv;have I1:Inv X pins σ H { s with heap:=h',toks:=tk }:=I.turned (λb o hb e=>kk b o (by simpa using hb) e) f0 f1 f3 f4 f5;obtain⟨o,e,hcl,hdt⟩:=id st';exact⟨_,rfl,zl6 (s:={ s with heap:=h',toks:=tk }) e hcl hdt hty ⟨.str (sg c),H,I1,⟨u,rfl⟩,⟨rfl,c,hcx,rfl⟩,⟨hg,st'⟩,λb hb=>(hf b hb).1⟩⟩
 done:=by
  intro X hP hw hK hc i pins s σ H E I hf st hg;subst hP hw hK;obtain⟨f0,f1,f2,f3,f4,f5⟩:=hf it (by simp);have hi:i=x.cps.size:=Nat.le_antisymm st.1 hg;subst hi;exact(W X.A (I.ok.hd hc)).done s _ _ st.2 λh' tk kk=>⟨rfl,I.turned (λb o hb e=>kk b o (by simpa using hb) e) f0 f1 f3 f4 f5⟩
 self:=λA i s Q E st h=>hself A i s Q E st.2 h
def iStr(t:TE):TI:=λσ H R=>t σ H λv H1=>∃x,v = .str x/\R (Its x) H1
theorem z4z(hl:PE X l tl):PI X tg l (iStr tl):=by
 intro pins s σ H R I h;refine thn (hl pins s σ H _ I h) λv s1 zz=>?_;obtain⟨y,H1,I1,r1,q1⟩:=zz;obtain⟨x,e,q⟩:=q1;subst e;obtain⟨t,rfl⟩:=r1
 have fin:∀(o:Obj) (T:Nat->Heap->Prop),Turn X.prog X.w X.K tg (Its x) [s1.heap.objs.size] s1.heap.objs.size T->T 0 (s1.heap.push o)->PIE X pins σ tg R (.ref s1.heap.objs.size) { s1 with heap:=s1.heap.push o }:=λo T hT h0=>by
  refine⟨s1.heap.objs.size,[s1.heap.objs.size],T,Its x,H1,rfl,I1.kept (t':=s1.toks) λb o e=>Qe _ e,hT,h0,λb hb=>?_,q⟩;have e:b=s1.heap.objs.size:=by simpa using hb
  subst e;exact I1.fpOk (Qh _) (I1.hok.fresh (Qh _))
 cases ha:x.cps.all (· < 128)
 .exact wpAny_pyIter_wide ha (fin _ _ (zoc (by decide) (λA' hA=>Walks.strWide hA _ x t) λ_ _ _ _ _ st h=>wpAny_pyIter_striter_wide st h) ⟨QE _,_,Qm _ rfl,rfl,rfl⟩)
 .exact wpAny_pyIter_ascii ha (fin _ _ (zoc (by decide) (λA' hA=>Walks.strAscii hA _ x t) λ_ _ _ _ _ st h=>wpAny_pyIter_striter_ascii st h) ⟨QE _,_,Qm _ rfl,rfl,rfl⟩)
def sgs(x:Str):List Tl:=x.cps.toList.map λc=>.str (sg c)
def srcS(f:DE):DI:=λρ Q=>f ρ λr=>∃x,r.d = .str x/\Q true (sgs x)
theorem zzj{K:Qa}{O:Ob}{t:TE}{f:DE}(h:ED K O t f):SrcS K O (iStr t) (srcS f):=λσ H ρ R Qd S hf k=>by
 refine h σ H ρ _ _ S hf λv H1 r st o1 zz=>?_;obtain⟨x,e,q⟩:=zz;have i1:=o1.is S.ok S.p;rw[e] at i1;cases i1;refine⟨x,rfl,k (Its x) H1 (sgs x) (λ_=>False) true ⟨st,λb hb=>hb.elim,λH2 i _ _ hi=>(show x.cps.size<=i by simpa[sgs] using hi),λH2 i d _ t2 hd c=>?_⟩ (λ_ _ hb=>hb.elim) q⟩;unfold sgs at hd;rw[Qj] at hd;obtain⟨n,hn,rfl⟩:=Qw.mp hd;have hn':x.cps[i]? = some n:=by simpa using hn
 have hi:i<x.cps.size:=by
  obtain⟨z,_⟩:=Vs.mp hn';exact z
 refine⟨hi,λy H3 zz=>?_⟩;obtain⟨e3,n',h1,h2⟩:=zz;subst e3 h2;rw[hn'] at h1;cases h1;exact⟨Same.refl _,.str _⟩
structure DEnds where
 nx:DSt->Prop
 rt:R->Prop
 bk:DSt->Prop:=λ_=>False
 ct:DSt->Prop:=λ_=>False
abbrev DS:=DEnds->DSt->Prop
def unO(O:Ob)(A:Nat->Addr->Prop):Addr->Prop:=λa=>¬O.M a/\∀j,¬A j a
def OwnO(o:HO):Prop:=∀us,o≠.tup us/\∀o',o≠.frz o' (.tup us)
theorem OwnO.lst: OwnO (.lst xs):=λ_=>⟨λz=>(nomatch z),λ_ z=>(nomatch z)⟩
theorem OwnO.ext: OwnO (.ext φ):=λ_=>⟨λz=>(nomatch z),λ_ z=>(nomatch z)⟩
def RepV(K:Qa)(O:Ob)(A:Nat->Addr->Prop)(H:Hp)(i:Nat)(v:V):DV->Prop
 | .im d=>Is K (unO O A) H v d
 | .own ds=>∃a xs,v = .ref a/\A i a/\H a=some (.lst xs)/\IsAll K (unO O A) H xs ds
 | .ob=>v=O.v
 | .scr n=>IsS K (unO O A) H v n
 | .dct ks=>∃a,A i a/\DkAt H v a ks
 | .gen f ds=>∃a xs,v = .ref a/\A i a/\H a=some (f a xs)/\IsAll K (unO O A) H xs ds
 | .rd f ds=>∃a xs,v = .ref a/\unO O A a/\H a=some (f a xs)/\IsAll K (unO O A) H xs ds
 | .exc C ns ds=>∃xs,ExAt (unO O A) H v C ns xs/\IsAll K (unO O A) H xs ds
 | .thg T=>T.R K (unO O A) (A i) H v
 | .thr T=>∃W:Addr->Prop,(∀a,W a->unO O A a/\∃o,H a=some o)/\T.R K (unO O A) W H v
structure Rep(K:Qa)(O:Ob)(H₀:Hp)(A:Nat->Addr->Prop)(H:Hp)(σ:St)(ρ:DSt):Prop where
 ok:O.Ok
 p:O.P H
 p0:O.P H₀
 st:Stp O H₀ H
 dis:∀i j a,A i a->A j a->i=j
 own:∀i a,A i a->H₀ a=none/\(∃o,H a=some o/\OwnO o)/\¬O.M a
 at_:∀(i:Nat) r,ρ[i]? = some (some r)->∃v,σ[i]? = some (some v)/\RepV K O A H i v r
 len:ρ.length=σ.length
def Frm(O:Ob)(A:Nat->Addr->Prop)(H:Hp)(A':Nat->Addr->Prop)(H':Hp):Prop:=∀a o,H a=some o->unO O A a->H' a=some o/\unO O A' a
theorem Frm.refl: Frm O A H A H:=λ_ _ h u=>⟨h,u⟩
theorem Frm.trans(a:Frm O A H A1 H1)(b:Frm O A1 H1 A2 H2):Frm O A H A2 H2:=λc o h u=>let ⟨h1,u1⟩:=a c o h u;b c o h1 u1
structure Post(K:Qa)(O:Ob)(H₀:Hp)(A:Nat->Addr->Prop)(H:Hp)(D:Ends)(Dd:DEnds):Prop where
 nx:∀A' σ' H' ρ',Rep K O H₀ A' H' σ' ρ'->Frm O A H A' H'->Dd.nx ρ'->D.nx σ' H'
 bk:∀A' σ' H' ρ',Rep K O H₀ A' H' σ' ρ'->Frm O A H A' H'->Dd.bk ρ'->D.bk σ' H'
 ct:∀A' σ' H' ρ',Rep K O H₀ A' H' σ' ρ'->Frm O A H A' H'->Dd.ct ρ'->D.ct σ' H'
 rt:∀H' v r,Stp O H₀ H'->Out K O H₀ H' v r->Dd.rt r->D.rt v H'
def SD(K:Qa)(O:Ob)(t:TS)(g:DS):Prop :=
 ∀(H₀:Hp) (A:Nat->Addr->Prop) (σ:St) (H:Hp) (ρ:DSt) (D:Ends) (Dd:DEnds),Rep K O H₀ A H σ ρ->g Dd ρ->Post K O H₀ A H D Dd->t D σ H
section
variable {K:Qa}{O:Ob}{H₀ H H':Hp}{A:Nat->Addr->Prop}{σ:St}{ρ:DSt}
theorem Rep.seen(r:Rep K O H₀ A H σ ρ):Seen K O H σ ρ:=by
 refine⟨r.ok,r.p,λi x e=>?_,r.len⟩;obtain⟨v,hv,h⟩:=r.at_ i x e;refine⟨v,hv,?_⟩
 cases x with
 | im d=>exact h.weak λa u=>u.1
 | own ds=>
   obtain⟨a,xs,rfl,ha,hl,hs⟩:=h;exact .list (r.own i a ha).2.2 hl (hs.weak λa u=>u.1)
 | ob=>exact h
 | scr n=>exact IsS.to (λa u f q=>⟨f.1,q⟩) h
 | dct ks=>obtain⟨a,ha,h⟩:=h;exact⟨a,(r.own i a ha).2.2,h⟩
 | gen f ds=>obtain⟨a,xs,e,ha,q,z⟩:=h;exact⟨a,xs,e,(r.own i a ha).2.2,q,z.weak λa u=>u.1⟩
 | rd f ds=>obtain⟨a,xs,e,ha,q,z⟩:=h;exact⟨a,xs,e,ha.1,q,z.weak λa u=>u.1⟩
 | exc C ns ds=>obtain⟨xs,e,z⟩:=h;exact⟨xs,e.to λa u f q=>⟨f.1,q⟩,z.weak λa u=>u.1⟩
 | thg T=>exact⟨A i,λa w=>⟨(r.own i a w).2.2,let ⟨o,q,_⟩:=(r.own i a w).2.1;⟨o,q⟩⟩,T.to (λa u f q=>⟨f.1,q⟩) (λa u w q=>⟨w,q⟩) (TupStay.refl _) h⟩
 | thr T=>obtain⟨W,hw,z⟩:=h;exact⟨W,λa w=>⟨(hw a w).1.1,(hw a w).2⟩,T.to (λa u f q=>⟨f.1,q⟩) (λa u w q=>⟨w,q⟩) (TupStay.refl _) z⟩
theorem Rep.stp(r:Rep K O H₀ A H σ ρ)(s:Stp O H H'):Rep K O H₀ A H' σ ρ:=by
 refine⟨r.ok,s.p r.p,r.p0,r.st.trans s,r.dis,λi a ha=>?_,λi x e=>?_,r.len⟩
 .obtain⟨h0,⟨xs,hx,ho⟩,hm⟩:=r.own i a ha;exact⟨h0,⟨xs,s.s a _ hx hm,ho⟩,hm⟩
 .obtain⟨v,hv,h⟩:=r.at_ i x e;refine⟨v,hv,?_⟩
  cases x with
  | im d=>exact Is.stp s (λ_ z=>z) (λ_ z=>z.1) h
  | own ds=>
    obtain⟨a,xs,rfl,ha,hl,hs⟩:=h;exact⟨a,xs,rfl,ha,s.s a _ hl (r.own i a ha).2.2,hs.stp s (λ_ z=>z) (λ_ z=>z.1)⟩
  | ob=>exact h
  | scr n=>exact IsS.to (λa u f q=>⟨f,s.s a u q f.1⟩) h
  | dct ks=>obtain⟨a,ha,h⟩:=h;exact⟨a,ha,h.to λu q=>s.s a u q (r.own i a ha).2.2⟩
  | gen f ds=>obtain⟨a,xs,e,ha,q,z⟩:=h;exact⟨a,xs,e,ha,s.s a _ q (r.own i a ha).2.2,z.stp s (λ_ z=>z) (λ_ z=>z.1)⟩
  | rd f ds=>obtain⟨a,xs,e,ha,q,z⟩:=h;exact⟨a,xs,e,ha,s.s a _ q ha.1,z.stp s (λ_ z=>z) (λ_ z=>z.1)⟩
  | exc C ns ds=>obtain⟨xs,e,z⟩:=h;exact⟨xs,e.to λa u f q=>⟨f,s.s a u q f.1⟩,z.stp s (λ_ z=>z) (λ_ z=>z.1)⟩
  | thg T=>exact T.to (λa u f q=>⟨f,s.s a u q f.1⟩) (λa u w q=>⟨w,s.s a u q (r.own i a w).2.2⟩) s.t h
  | thr T=>obtain⟨W,hw,z⟩:=h;exact⟨W,λa w=>let ⟨f,o,q⟩:=hw a w;⟨f,o,s.s a o q f.1⟩,T.to (λa u f q=>⟨f,s.s a u q f.1⟩) (λa u w q=>⟨w,s.s a u q (hw a w).1.1⟩) s.t z⟩
theorem Frm.stp(s:Stp O H H'):Frm O A H A H':=λa o e u=>⟨s.s a o e u.1,u⟩
theorem Rep.setIm{i:Nat}{d:Tl}(r:Rep K O H₀ A H σ ρ)(h:Is K (unO O A) H v d):Rep K O H₀ (λj a=>j≠i/\A j a) H (σ.set i (some v)) (ρ.set i (some (.im d))):=by
 have un:∀a,unO O A a->unO O (λj a=>j≠i/\A j a) a:=λa u=>⟨u.1,λj z=>u.2 j z.2⟩;refine⟨r.ok,r.p,r.p0,r.st,λj k a x y=>r.dis j k a x.2 y.2,λj a x=>r.own j a x.2,λj x e=>?_,by rw[Q1,Q1];exact r.len⟩
 by_cases hj:i=j
 .subst hj
  have hi:i<ρ.length:=by
   rcases Vj i ρ.length with z|z
   .exact z
   .rw[QD (by simpa using z)] at e;cases e
  rw[Zy hi] at e;cases e;exact⟨v,Zy (by have:=r.len;lia),h.weak un⟩
 .rw[ZC hj] at e;obtain⟨w,h1,h2⟩:=r.at_ j x e;refine⟨w,by rw[ZC hj];exact h1,?_⟩
  cases x with
  | im d=>exact h2.weak un
  | own ds=>
    obtain⟨a,xs,rfl,ha,hl,hs⟩:=h2;exact⟨a,xs,rfl,⟨λz=>hj z.symm,ha⟩,hl,hs.weak un⟩
  | ob=>exact h2
  | scr n=>exact IsS.to (λa u f q=>⟨un a f,q⟩) h2
  | dct ks=>obtain⟨a,ha,h2⟩:=h2;exact⟨a,⟨λz=>hj z.symm,ha⟩,h2⟩
  | gen f ds=>obtain⟨a,xs,e,ha,q,z⟩:=h2;exact⟨a,xs,e,⟨λz=>hj z.symm,ha⟩,q,z.weak un⟩
  | rd f ds=>obtain⟨a,xs,e,ha,q,z⟩:=h2;exact⟨a,xs,e,un a ha,q,z.weak un⟩
  | exc C ns ds=>obtain⟨xs,e,z⟩:=h2;exact⟨xs,e.to λa u f q=>⟨un a f,q⟩,z.weak un⟩
  | thg T=>exact T.to (λa u f q=>⟨un a f,q⟩) (λa u w q=>⟨⟨λz=>hj z.symm,w⟩,q⟩) (TupStay.refl _) h2
  | thr T=>obtain⟨W,hw,z⟩:=h2;exact⟨W,λa w=>⟨un a (hw a w).1,(hw a w).2⟩,T.to (λa u f q=>⟨un a f,q⟩) (λa u w q=>⟨w,q⟩) (TupStay.refl _) z⟩
def reg(A:Nat->Addr->Prop)(i:Nat)(W:Addr->Prop):Nat->Addr->Prop:=λj b=>(j≠i/\A j b)\/(j=i/\W b)
theorem Rep.tstay{i:Nat}(r:Rep K O H₀ A H σ ρ)(stay:∀b u,H b=some u->¬A i b->H' b=some u):TupStay H H':=λb u hu hb=>stay b u hb λz=>by
 obtain⟨_,⟨o,q,ho⟩,_⟩:=r.own i b z;rw[hb] at q;cases q;obtain⟨us,e1|⟨o',e1⟩⟩:=hu
 .exact(ho us).1 e1
 .exact(ho us).2 o' e1
theorem Rep.setX{i:Nat}(r:Rep K O H₀ A H σ ρ)(s:Stp O H H1)(stay1:∀b u,H1 b=some u->¬A i b->H' b=some u)(hW:∀b,W b->(A i b\/H b=Yk)/\∃o,H' b=some o/\OwnO o)
 (hR:RepV K O (reg A i W) H' i v y):Rep K O H₀ (reg A i W) H' (σ.set i (some v)) (ρ.set i (some y)):=by
 have ts1:=(r.stp s).tstay stay1;have ts:TupStay H H':=λb u hu hb=>ts1 b u hu (s.t b u hu hb);have nA:∀b,O.M b->¬A i b:=λb m z=>(r.own i b z).2.2 m;have stay:∀b u,H b=some u->¬A i b->¬O.M b->H' b=some u:=λb u e z m=>stay1 b u (s.s b u e m) z
 have sM:∀b,O.M b->H' b=H1 b:=λb m=>by
  obtain⟨o,e⟩:=r.ok.here H1 b (s.p r.p) m;rw[e,stay1 b o e (nA b m)]
 have pp:O.P H':=r.ok.loc H1 _ sM (s.p r.p);have oth:∀{j b},j≠i->A j b->¬A i b:=λhj a z=>hj (r.dis _ _ _ a z)
 have un:∀b u,H b=some u->unO O A b->unO O (reg A i W) b:=λb u e f=>⟨f.1,λj z=>by
  rcases z with z|z
  .exact f.2 j z.2
  .rcases(hW b z.2).1 with y|y
   .exact f.2 i y
   .rw[e] at y;cases y⟩
 have tF:∀b u,unO O A b->H b=some u->unO O (reg A i W) b/\H' b=some u:=λb u f q=>⟨un b u q f,stay b u q (f.2 i) f.1⟩;have mv:∀{v d},Is K (unO O A) H v d->Is K (unO O (reg A i W)) H' v d:=λz=>z.to (λb ys f q=>tF b _ f q) λb ys q=>SqT.stay (h:=q) ts;have mvs:∀{v d},IsAll K (unO O A) H v d->IsAll K (unO O (reg A i W)) H' v d:=λz=>z.to (λb ys f q=>tF b _ f q) λb ys q=>SqT.stay (h:=q) ts
 have wm:∀b,W b->H₀ b=Yk/\¬O.M b:=λb w=>by
  rcases(hW b w).1 with z|z
  .exact⟨(r.own i b z).1,(r.own i b z).2.2⟩
  .have m:¬O.M b:=λm=>by obtain⟨o,e⟩:=r.ok.here H b r.p m;rw[z] at e;cases e
   exact⟨r.st.s.free m z,m⟩
 refine⟨r.ok,pp,r.p0,⟨λb o hb n=>?_,λ_=>pp,λb u hu hb=>ts b u hu (r.st.t b u hu hb)⟩,λj k b x y=>?_,λj b x=>?_,λj x e=>?_,by rw[Q1,Q1];exact r.len⟩
 .exact stay b o (r.st.s b o hb n) (λz=>by rw[(r.own i b z).1] at hb;cases hb) n
 .rcases x with x|x <;> rcases y with y|y
  .exact r.dis j k b x.2 y.2
  .rcases(hW b y.2).1 with z|z
   .exact absurd (r.dis j i b x.2 z) x.1
   .obtain⟨_,⟨o,q,_⟩,_⟩:=r.own j b x.2;rw[z] at q;cases q
  .rcases(hW b x.2).1 with z|z
   .exact absurd (r.dis k i b y.2 z) y.1
   .obtain⟨_,⟨o,q,_⟩,_⟩:=r.own k b y.2;rw[z] at q;cases q
  .exact x.1.trans y.1.symm
 .rcases x with x|x
  .obtain⟨h0,⟨o,q,ho⟩,m⟩:=r.own j b x.2;exact⟨h0,⟨o,stay b o q (oth x.1 x.2) m,ho⟩,m⟩
  .exact⟨(wm b x.2).1,(hW b x.2).2,(wm b x.2).2⟩
 .by_cases hj:i=j
  .subst hj
   have hi:i<ρ.length:=by
    rcases Vj i ρ.length with z|z
    .exact z
    .rw[QD (by simpa using z)] at e;cases e
   rw[Zy hi] at e;cases e;exact⟨v,Zy (by have:=r.len;lia),hR⟩
  .rw[ZC hj] at e;obtain⟨w,h1,h2⟩:=r.at_ j x e;have hj':j≠i:=λz=>hj z.symm;refine⟨w,by rw[ZC hj];exact h1,?_⟩
   cases x with
   | im d=>exact mv h2
   | own es=>
     obtain⟨b,ys,rfl,hb,hlb,hs⟩:=h2;exact⟨b,ys,rfl,.inl ⟨hj',hb⟩,stay b _ hlb (oth hj' hb) (r.own j b hb).2.2,mvs hs⟩
   | ob=>exact h2
   | scr n=>exact IsS.to (λb u f q=>tF b u f q) h2
   | dct ks=>obtain⟨b,hb,h2⟩:=h2;exact⟨b,.inl ⟨hj',hb⟩,h2.to λu q=>stay b u q (oth hj' hb) (r.own j b hb).2.2⟩
   | gen f ds=>obtain⟨b,xs,e,hb,q,z⟩:=h2;exact⟨b,xs,e,.inl ⟨hj',hb⟩,stay b _ q (oth hj' hb) (r.own j b hb).2.2,mvs z⟩
   | rd f ds=>obtain⟨b,xs,e,hb,q,z⟩:=h2;exact⟨b,xs,e,un b _ q hb,stay b _ q (hb.2 i) hb.1,mvs z⟩
   | exc C ns ds=>obtain⟨xs,e,z⟩:=h2;exact⟨xs,e.to λb u f q=>tF b u f q,mvs z⟩
   | thg T=>exact T.to (λb u f q=>tF b u f q) (λb u w q=>⟨.inl ⟨hj',w⟩,stay b u q (oth hj' w) (r.own j b w).2.2⟩) ts h2
   | thr T=>obtain⟨W',hw,z⟩:=h2;exact⟨W',λb w=>let ⟨f,o,q⟩:=hw b w;⟨un b o q f,o,stay b o q (f.2 i) f.1⟩,T.to (λb u f q=>tF b u f q) (λb u w q=>⟨w,stay b u q ((hw b w).1.2 i) (hw b w).1.1⟩) ts z⟩
theorem Rep.setOwn{i:Nat}(r:Rep K O H₀ A H σ ρ)(s:Stp O H H')(hn:H a=none)(hl:H' a=some (.lst xs))(hf:IsAll K (unM O) H' xs ds)(fl:flats ds=true):
 Rep K O H₀ (λj b=>(j≠i/\A j b)\/(j=i/\b=a)) H' (σ.set i (some (.ref a))) (ρ.set i (some (.own ds))) :=
 r.setX (W:=λb=>b=a) s (λ_ _ e _=>e) (λb e=>by subst e;exact⟨.inr hn,_,hl,.lst⟩) ⟨a,xs,rfl,.inr ⟨rfl,rfl⟩,hl,IsAll.flats (TupStay.refl H') hf fl⟩
theorem Frm.setIm{i:Nat}(s:Stp O H H'):Frm O A H (λj a=>j≠i/\A j a) H':=λa o e u=>⟨s.s a o e u.1,u.1,λj z=>u.2 j z.2⟩
theorem Frm.setOwn{i:Nat}(s:Stp O H H')(hn:H a=none):Frm O A H (λj b=>(j≠i/\A j b)\/(j=i/\b=a)) H':=λb o e u=>⟨s.s b o e u.1,u.1,λj z=>by
 rcases z with z|z
 .exact u.2 j z.2
 .rw[z.2,hn] at e;cases e⟩
theorem zmn{i:Nat}:reg A i (A i)=A:=by
 funext j b;refine propext ⟨λz=>?_,λz=>?_⟩
 .rcases z with z|z
  .exact z.2
  .rw[z.1];exact z.2
 .by_cases e:j=i
  .exact .inr ⟨e,e ▸ z⟩
  .exact .inl ⟨e,z⟩
theorem Rep.changeX{i:Nat}(r:Rep K O H₀ A H σ ρ)(hv:σ[i]? = some (some (.ref a)))(ha:A i a)(ho:OwnO o)(hR:RepV K O A (upd H a o) i (.ref a) y):Rep K O H₀ A (upd H a o) σ (ρ.set i (some y)):=by
 have hs:σ.set i (some (.ref a))=σ:=by
  refine ZB λj=>?_;rw[V5]
  split
  .rename_i e
   subst e;rw[j7 (Qi.mp hv).1,hv]
  .rfl
 have:=r.setX (i:=i) (v:=.ref a) (W:=A i) (y:=y) (H':=upd H a o) (.refl O H) (λb u e n=>by rw[zae λz=>n (by rw[z];exact ha)];exact e) (λb z=>⟨.inl z,by
  by_cases e:b=a
  .subst e;exact⟨_,zak,ho⟩
  .obtain⟨_,⟨u,q,ou⟩,_⟩:=r.own i b z
   exact⟨u,by rw[zae e];exact q,ou⟩⟩) (by rw[zmn];exact hR)
 rw[zmn,hs] at this;exact this
theorem Rep.up{i:Nat}(r:Rep K O H₀ A H σ ρ)(ha:A i a)(h:IsAll K (unO O A) H xs ds):IsAll K (unO O A) (upd H a o) xs ds :=
 have st:∀b u,H b=some u->¬A i b->upd H a o b=some u:=λb u e n=>by rw[zae λz=>n (by rw[z];exact ha)];exact e
 h.to (λb ys f q=>⟨f,st b _ q (f.2 i)⟩) λb ys q=>SqT.stay (h:=q) (r.tstay st)
theorem Rep.change{i:Nat}(r:Rep K O H₀ A H σ ρ)(e:ρ[i]? = some (some (.own ds)))(hv:σ[i]? = some (some (.ref a)))(ha:A i a)(hs:IsAll K (unO O A) H ys es):
 Rep K O H₀ A (upd H a (.lst ys)) σ (ρ.set i (some (.own es))) :=
 r.changeX hv ha .lst ⟨a,ys,rfl,ha,zak,r.up ha hs⟩
theorem Frm.change{i:Nat}(ha:A i a):Frm O A H A (upd H a o):=λb u e n=>⟨by rw[zae (show b≠a from λz=>n.2 i (by rw[z];exact ha))];exact e,n⟩
theorem Rep.disown{i:Nat}(r:Rep K O H₀ A H σ ρ)(e:ρ[i]? = some (some (.own ds))):Rep K O H₀ (λj a=>j≠i/\A j a) H σ (ρ.set i (some (.im (.list ds)))):=by
 have un:∀a,unO O A a->unO O (λj a=>j≠i/\A j a) a:=λa u=>⟨u.1,λj z=>u.2 j z.2⟩;refine⟨r.ok,r.p,r.p0,r.st,λj k a x y=>r.dis j k a x.2 y.2,λj a x=>r.own j a x.2,λj x ej=>?_,by rw[Q1];exact r.len⟩
 by_cases hj:i=j
 .subst hj;have hi:i<ρ.length:=(Qi.mp e).1;rw[Zy hi] at ej;cases ej;obtain⟨w,h1,h2⟩:=r.at_ i _ e;obtain⟨a,xs,rfl,ha,hl,hs⟩:=h2;exact⟨.ref a,h1,.list ⟨(r.own i a ha).2.2,λj z=>z.1 (r.dis j i a z.2 ha)⟩ hl (hs.weak un)⟩
 .rw[ZC hj] at ej;obtain⟨w,h1,h2⟩:=r.at_ j x ej;refine⟨w,h1,?_⟩
  cases x with
  | im d=>exact h2.weak un
  | own fs=>
    obtain⟨b,us,rfl,hb,hlb,hs2⟩:=h2;exact⟨b,us,rfl,⟨λz=>hj z.symm,hb⟩,hlb,hs2.weak un⟩
  | ob=>exact h2
  | scr n=>exact IsS.to (λa u f q=>⟨un a f,q⟩) h2
  | dct ks=>obtain⟨b,hb,h2⟩:=h2;exact⟨b,⟨λz=>hj z.symm,hb⟩,h2⟩
  | gen f ds=>obtain⟨b,xs,e,hb,q,z⟩:=h2;exact⟨b,xs,e,⟨λz=>hj z.symm,hb⟩,q,z.weak un⟩
  | rd f ds=>obtain⟨b,xs,e,hb,q,z⟩:=h2;exact⟨b,xs,e,un b hb,q,z.weak un⟩
  | exc C ns ds=>obtain⟨xs,e,z⟩:=h2;exact⟨xs,e.to λb u f q=>⟨un b f,q⟩,z.weak un⟩
  | thg T=>exact T.to (λa u f q=>⟨un a f,q⟩) (λa u w q=>⟨⟨λz=>hj z.symm,w⟩,q⟩) (TupStay.refl _) h2
  | thr T=>obtain⟨W,hw,z⟩:=h2;exact⟨W,λa w=>⟨un a (hw a w).1,(hw a w).2⟩,T.to (λa u f q=>⟨un a f,q⟩) (λa u w q=>⟨w,q⟩) (TupStay.refl _) z⟩
end
section
variable {K:Qa}{O:Ob}
theorem Post.frm(P:Post K O H₀ A H D Dd)(f:Frm O A H A1 H1):Post K O H₀ A1 H1 D Dd :=
 ⟨λA' σ' H' ρ' r g=>P.nx A' σ' H' ρ' r (f.trans g),λA' σ' H' ρ' r g=>P.bk A' σ' H' ρ' r (f.trans g),λA' σ' H' ρ' r g=>P.ct A' σ' H' ρ' r (f.trans g),P.rt⟩
def seqD(g k:DS):DS:=λDd ρ=>g { Dd with nx:=k Dd } ρ
theorem z3k(h:SD K O t g)(h':SD K O u k):SD K O (tSeq t u) (seqD g k):=λH₀ A σ H ρ D Dd r q P=>
 h H₀ A σ H ρ _ _ r q ⟨λA' σ' H' ρ' r' f q'=>h' H₀ A' σ' H' ρ' D Dd r' q' (P.frm f),P.bk,P.ct,P.rt⟩
theorem z1z:SD K O zr6 (λDd ρ=>Dd.nx ρ):=λH₀ A σ H ρ D Dd r q P=>P.nx A σ H ρ r .refl q
def ifS(c:DT)(g k:DS):DS:=λDd ρ=>c ρ λb=>if b=true then g Dd ρ else k Dd ρ
theorem z7c(hc:TD K O c fc)(h:SD K O t g)(h':SD K O u k):SD K O (tIfS c t u) (ifS fc g k):=λH₀ A σ H ρ D Dd r q P=>by
 refine hc σ H ρ _ _ r.seen q λb H1 s1 q1=>?_
 cases b with
 | true=>exact h H₀ A σ H1 ρ D Dd (r.stp s1) q1 (P.frm (.stp s1))
 | false=>exact h' H₀ A σ H1 ρ D Dd (r.stp s1) q1 (P.frm (.stp s1))
def retS(f:DE):DS:=λDd ρ=>f ρ Dd.rt
theorem z2r(h:ED K O t f):SD K O (tRet t) (retS f):=λH₀ A σ H ρ D Dd r q P=>by
 refine h σ H ρ _ _ r.seen q λv H1 x s1 o1 q1=>P.rt H1 v x (r.st.trans s1) (o1.ahead r.ok r.p0 r.st) q1
def retO(i:Nat):DS:=λDd ρ=>∃ds,ρ[i]? = some (some (.own ds))/\Dd.rt (.n ds)
theorem zun{i:Nat}:SD K O (tRet (tVar i)) (retO i):=λH₀ A σ H ρ D Dd r q P=>by
 obtain⟨ds,e,q⟩:=q;obtain⟨v,hv,a,xs,rfl,ha,hl,hs⟩:=r.at_ i _ e;exact⟨_,hv,P.rt H _ (.n ds) r.st ⟨a,xs,rfl,(r.own i a ha).1,hl,hs.weak λb u=>u.1⟩ q⟩
def asgS(i:Nat)(f:DE):DS:=λDd ρ=>f ρ λr=>match r with
 | .o d=>flat d=true/\Dd.nx (ρ.set i (some (.im d)))
 | .n ds=>flats ds=true/\Dd.nx (ρ.set i (some (.own ds)))
theorem ztx{i:Nat}(h:ED K O t f):SD K O (tAsg t (zbb i)) (asgS i f):=λH₀ A σ H ρ D Dd r q P=>by
 refine h σ H ρ _ _ r.seen q λv H1 x s1 o1 q1=>?_
 cases x with
 | o d=>
   obtain⟨fl,q1⟩:=q1;exact P.nx _ _ H1 _ ((r.stp s1).setIm (Is.flat (TupStay.refl H1) o1 fl)) (.setIm s1) q1
 | n ds=>
   obtain⟨fl,q1⟩:=q1;obtain⟨a,xs,rfl,hn,hl,hs⟩:=o1;exact P.nx _ _ H1 _ (r.setOwn s1 hn hl hs fl) (.setOwn s1 hn) q1
def appS(i:Nat)(f:DE):DS:=λDd ρ=>∃ds,ρ[i]? = some (some (.own ds))/\f ρ λr=>flat r.d=true/\ds.length<sizeLine/\Dd.nx (ρ.set i (some (.own (ds ++ [r.d]))))
theorem zsx{i:Nat}(h:ED K O t f):SD K O (zd2 (tBM K "list" zhn (tVar i) (za0 t tNil))) (appS i f):=λH₀ A σ H ρ D Dd r q P=>by
 obtain⟨ds,e,q⟩:=q;obtain⟨v,hv,a,xs,rfl,ha,hl,hs⟩:=r.at_ i _ e;refine⟨_,hv,?_⟩;refine⟨.inl ⟨rfl,xs,.of hl⟩,?_⟩;refine h σ H ρ _ _ r.seen q λw H1 x s1 o1 zz=>?_;obtain⟨fl,hz,q1⟩:=zz;have r1:=r.stp s1;obtain⟨v1,hv1,a1,xs1,e1,ha1,hl1,hs1⟩:=r1.at_ i _ e;rw[hv] at hv1;cases hv1;cases e1;refine⟨a,xs1,w,rfl,rfl,hl1,by rw[hs1.length];exact hz,?_⟩;have iw:Is K (unO O A) H1 w x.d:=Is.flat (TupStay.refl H1) (o1.is r.ok r.p) fl;exact P.nx A σ _ _ (r1.change e hv ha (hs1.snoc iw)) ((Frm.stp s1).trans (.change ha)) q1
end
def GR(K:Qa)(O:Ob)(t:TG)(g:DG):Prop :=
 ∀(H₀:Hp) (A:Nat->Addr->Prop) (σ:St) (H:Hp) (ρ:DSt) (v:V) (d:Tl) (Q:St->Hp->Prop) (Qd:DSt->Prop),Rep K O H₀ A H σ ρ->flat d=true->Is K (unO O A) H v d->g d ρ Qd ->
   (∀A' σ' ρ',Rep K O H₀ A' H σ' ρ'->Frm O A H A' H->Qd ρ'->Q σ' H)->t v σ H Q
section
variable {K:Qa}{O:Ob}
theorem zzc{i:Nat}:GR K O (zbb i) (gN i):=λH₀ A σ H ρ v d Q Qd r _ h q k=>k _ _ _ (r.setIm h) (.setIm (.refl _ _)) q
def GRs(K:Qa)(O:Ob)(t:TGs)(is:List Nat):Prop :=
 ∀(H₀:Hp) (A:Nat->Addr->Prop) (σ:St) (H:Hp) (ρ:DSt) (vs:List V) (ds:List Tl) (Q:St->Hp->Prop) (Qd:DSt->Prop),Rep K O H₀ A H σ ρ->flats ds=true->IsAll K (unO O A) H vs ds->gTD is ds ρ Qd ->
   (∀A' σ' ρ',Rep K O H₀ A' H σ' ρ'->Frm O A H A' H->Qd ρ'->Q σ' H)->t vs σ H Q
theorem z0j:GRs K O gNil []:=λH₀ A σ H ρ vs ds Q Qd r _ i h k=>by
 cases i with
 | nil=>exact⟨rfl,k A σ ρ r .refl h⟩
 | cons _ _=>exact h.elim
theorem zv7{i:Nat}{is:List Nat}(ht:GRs K O t is):GRs K O (zja (zbb i) t) (i::is):=λH₀ A σ H ρ vs ds Q Qd r fl h q k=>by
 cases h with
 | nil=>exact q.elim
 | cons h1 h2=>
   rw[flats,Qx] at fl;have f1:Frm O A H (λj a=>j≠i/\A j a) H:=.setIm (.refl _ _);refine⟨_,_,rfl,ht _ _ _ H _ _ _ _ _ (r.setIm h1) fl.2 (IsAll.flats (TupStay.refl H) h2 fl.2) q λA' σ' ρ' r' f q'=>k A' σ' ρ' r' (f1.trans f) q'⟩
theorem z3f{is:List Nat}{n:Nat}(hn:is.length=n)(ht:GRs K O t is):GR K O (gTup K n t) (gT is):=λH₀ A σ H ρ v d Q Qd r fl i h k=>by
 obtain⟨ds,rfl,h⟩:=h
 cases i with
 | tuple q is'=>exact⟨_,_,rfl,q,by rw[is'.length,zhy h];exact hn,ht H₀ A σ H ρ _ ds Q Qd r (by simpa[flat] using fl) is' h k⟩
def zgm(g:DG)(gb:DS)(Dd:DEnds):List Tl->DSt->Prop
 | [],ρ=>Dd.nx ρ
 | d::ds,ρ=>flat d=true/\g d ρ λρ2=>gb { Dd with nx:=zgm g gb Dd ds,ct:=zgm g gb Dd ds,bk:=Dd.nx } ρ2
abbrev DJ:=DSt->(List Tl->Prop)->Prop
def SrcR(K:Qa)(O:Ob)(wi:TI)(f:DJ):Prop :=
 ∀(H₀:Hp) (A:Nat->Addr->Prop) (σ:St) (H:Hp) (ρ:DSt) (R:It->Hp->Prop) (Qd:List Tl->Prop),Rep K O H₀ A H σ ρ->f ρ Qd ->
   (∀(J:It) (H1:Hp) (ds:List Tl) (B:Addr->Prop),Walk K O H H1 J ds B->(∀a,B a->unO O A a)->Qd ds->R J H1)->wi σ H R
def newJ(f:DI):DJ:=λρ Q=>f ρ λfr ds=>fr=true/\Q ds
theorem z2b(h:SrcS K O wi f):SrcR K O wi (newJ f):=λH₀ A σ H ρ R Qd r q k=>by
 refine h σ H ρ _ _ r.seen q λJ H1 ds B fr W hfr ⟨e,q1⟩=>k J H1 ds B W (λa b=>⟨(W.hb a b).1,λj z=>?_⟩) q1;obtain⟨_,⟨xs,q,_⟩,_⟩:=r.own j a z;rw[hfr e a b] at q;cases q
def varJ(i:Nat):DJ:=λρ Q=>∃ds,ρ[i]? = some (some (.im (.list ds)))/\Q ds
theorem zwl{i:Nat}:SrcR K O (zex K (tVar i)) (varJ i):=λH₀ A σ H ρ R Qd r q k=>by
 obtain⟨ds,e,q⟩:=q;obtain⟨v,hv,h⟩:=r.at_ i _ e;have h':Is K (unO O A) H v (.list ds):=h
 cases h' with
 | list f0 ha hs=>
   rename_i a xs
   have hs':IsAll K (unM O) H xs ds:=hs.weak λb u=>u.1;refine⟨_,hv,a,rfl,⟨xs,.of ha⟩,k (Itl K a) H ds (λb=>b=a) ⟨.refl _ _,λb hb=>by subst hb;exact⟨f0.1,_,ha⟩,λH2 i kb _ hi=>?_,λH2 i d kb t2 hd c=>?_⟩ (λb hb=>by subst hb;exact f0) q⟩
   .exact⟨xs,.of (kb a _ rfl ha),by rw[hs.length];exact hi⟩
   .obtain⟨w,hw,iw⟩:=zd7 (O:=O) hs' hd t2 c;have q2:SqL K H2 a xs:=.of (kb a _ rfl ha);refine⟨⟨xs,w,q2,hw⟩,λx H3 zz=>?_⟩;obtain⟨e3,y⟩:=zz;subst e3;have:=y xs q2;rw[hw] at this;cases this;exact⟨Same.refl _,iw⟩
def forS(f:DJ)(g:DG)(gb:DS):DS:=λDd ρ=>f ρ λds=>zgm g gb Dd ds ρ
theorem Rep.tupStay(r:Rep K O H₀ A H1 σ ρ)(f:Frm O A H1 A2 H2):TupStay H1 H2:=λa u hu e=>by
 refine(f a u e ⟨λm=>?_,λj z=>?_⟩).1
 .have mm:=r.ok.mutb H1 a u r.p e m;obtain⟨xs,e1|⟨o,e1⟩⟩:=hu
  .exact mm.1 xs e1
  .exact mm.2 o _ e1
 .obtain⟨_,⟨xs,q,ho⟩,_⟩:=r.own j a z;rw[e] at q;cases q;obtain⟨ys,e1|⟨o,e1⟩⟩:=hu
  .exact(ho ys).1 e1
  .exact(ho ys).2 o e1
theorem z3j(hs:SrcR K O wi f)(hg:GR K O tg g)(hb:SD K O tb gb):SD K O (tFor wi tg tb) (forS f g gb):=λH₀ A σ H ρ D Dd r q P=>by
 refine hs H₀ A σ H ρ _ _ r q λJ H1 ds B W uB go=>?_;have r1:=r.stp W.st;have f1:Frm O A H A H1:=.stp W.st;refine⟨λi m σ2 H2=>m=ds.length-i/\i<=ds.length/\∃A2 ρ2,Rep K O H₀ A2 H2 σ2 ρ2/\Frm O A H1 A2 H2/\zgm g gb Dd (ds.drop i) ρ2,⟨ds.length,rfl,QE _,A,ρ,r1,.refl,by simpa using go⟩,?_⟩;rintro i m σ2 H2 ⟨rfl,hi,A2,ρ2,r2,f2,go2⟩;have kB:∀a o,B a->H1 a=some o->H2 a=some o:=λa o b e=>(f2 a o e (uB a b)).1;have ts:TupStay H1 H2:=r1.tupStay f2
 by_cases hlt:i<ds.length
 .right;have hd:ds[i]? = some ds[i]:=Qg hlt;rw[Zx hlt] at go2;obtain⟨fl,go2⟩:=go2;obtain⟨hgo,hy⟩:=W.item H2 i ds[i] kB ts hd (.inl fl);refine⟨hgo,λσ' H'=>∃A' ρ',Rep K O H₀ A' H' σ' ρ'/\Frm O A H1 A' H'/\zgm g gb Dd (ds.drop (i+1)) ρ',λσ' H' ⟨A',ρ',x1,x2,x3⟩=>⟨ds.length-(i+1),by lia,rfl,hlt,A',ρ',x1,x2,x3⟩,λx H3 y=>?_⟩;obtain⟨sm,ix⟩:=hy x H3 y;have st3:Stp O H2 H3:=.same r2.ok sm;have r3:=r2.stp st3;refine hg H₀ A2 σ2 H3 ρ2 x ds[i] _ _ r3 fl (Is.flat (TupStay.refl H3) ix fl) go2 λA3 σ3 ρ3 r3' f3 q3=>?_;have f13:Frm O A H1 A3 H3:=(f2.trans (.stp st3)).trans f3;refine hb H₀ A3 σ3 H3 ρ3 _ _ r3' q3 ⟨λA' σ' H' ρ' r' f' q'=>⟨A',ρ',r',f13.trans f',q'⟩,λA' σ' H' ρ' r' f' q'=>P.nx A' σ' H' ρ' r' (f1.trans (f13.trans f')) q',λA' σ' H' ρ' r' f' q'=>⟨A',ρ',r',f13.trans f',q'⟩,P.rt⟩
 .left;have e:i=ds.length:=by lia
  subst e;rw[YL] at go2;exact⟨W.stop H2 _ kB ts (Qh _),P.nx A2 σ2 H2 ρ2 r2 (f1.trans f2) go2⟩
end
def spO(K:Qa)(φ:Ob->Prop)(n:Nat)(f:List Tl->(R->Prop)->Prop):Sp:=λvs H Q _=>
 ∃(O:Ob) (ds:List Tl) (Qr:R->Prop),O.Ok/\φ O/\O.P H/\ds.length=n/\IsAll K (unM O) H vs ds/\f ds Qr/\∀r,Qr r->∀v H',Stp O H H'->Out K O H H' v r->Q v H'
def spD(K:Qa)(φ:Ob->Prop)(n:Nat)(f:List Tl->(R->Prop)->Prop):Sp:=λvs H Q _=>
 ∃(O:Ob) (ds:List Tl) (ws:List V) (Qr:R->Prop),O.Ok/\φ O/\O.P H/\ds.length=n/\vs=O.v::ws/\IsAll K (unM O) H ws ds/\f ds Qr/\∀r,Qr r->∀v H',Stp O H H'->Out K O H H' v r->Q v H'
def zdu(N:List Str)(rs:List DV):DSt:=rs.map some++QG (N.length-rs.length) none
section
variable {K:Qa}{O:Ob}
theorem zhb{rs:List DV}(ok:O.Ok)(p:O.P H)(hl:vs.length=rs.length)(h:∀(i:Nat) r,rs[i]? = some r->∃v,vs[i]? = some v/\((∃d,r = .im d/\Is K (unM O) H v d)\/(r = .ob/\v=O.v))):
 Rep K O H (λ_ _=>False) H (L2.start N vs) (zdu N rs):=by
 refine⟨ok,p,p,.refl _ _,λ_ _ _ z=>z.elim,λ_ _ z=>z.elim,λi r e=>?_,?_⟩
 .unfold zdu at e
  by_cases hi:i<rs.length
  .rw[Zr (by simpa using hi),Qj] at e
   cases q:rs[i]? with
   | none=>rw[q] at e;cases e
   | some r'=>
     rw[q] at e;have e':r'=r:=Zi (Zi e);subst e';obtain⟨v,hv,hh⟩:=h i r' q;refine⟨v,?_,?_⟩
     .unfold L2.start;rw[Zr (by rw[Qc,hl];exact hi),Qj,hv];rfl
     .rcases hh with ⟨d,rfl,hd⟩|⟨rfl,hd⟩
      .exact hd.weak λa u=>⟨u,λj z=>z⟩
      .exact hd
  .rw[Z7 (by simpa using hi),ZU] at e
   split at e <;> cases e
 .unfold zdu L2.start;rw[Qq,Qq,Qc,Qc,Z4,Z4,hl]
theorem z6e(h:SD K O t g)(ok:O.Ok)(p:O.P H)(ia:IsAll K (unM O) H vs ds)
 (hg:g { nx:=λ_=>Qr (.o .none),rt:=Qr } (zdu N (ds.map .im))) (hQ:∀r,Qr r->∀v H',Stp O H H'->Out K O H H' v r->Q v H'):t { nx:=λ_ H'=>Q .non H',rt:=Q } (L2.start N vs) H:=by
 refine h H _ _ H _ _ _ (zhb ok p (by rw[Qc];exact ia.length) λi r e=>?_) hg ⟨λA' σ' H' ρ' r' _ q=>hQ _ q .non H' r'.st Is.none,λA' σ' H' ρ' r' _ q=>q.elim,λA' σ' H' ρ' r' _ q=>q.elim,λH' v r s o q=>hQ r q v H' s o⟩;rw[Qj] at e;obtain⟨d,hd,rfl⟩:=Qw.mp e;obtain⟨v,hv,iv⟩:=ia.get hd;exact⟨v,hv,.inl ⟨d,rfl,iv⟩⟩
theorem z6j(h:SD K O t g)(ok:O.Ok)(p:O.P H)(ia:IsAll K (unM O) H ws ds)
 (hg:g { nx:=λ_=>Qr (.o .none),rt:=Qr } (zdu N (.ob::ds.map .im))) (hQ:∀r,Qr r->∀v H',Stp O H H'->Out K O H H' v r->Q v H'):t { nx:=λ_ H'=>Q .non H',rt:=Q } (L2.start N (O.v::ws)) H:=by
 refine h H _ _ H _ _ _ (zhb ok p (by rw[Q3,Q3,Qc,ia.length]) λi r e=>?_) hg ⟨λA' σ' H' ρ' r' _ q=>hQ _ q .non H' r'.st Is.none,λA' σ' H' ρ' r' _ q=>q.elim,λA' σ' H' ρ' r' _ q=>q.elim,λH' v r s o q=>hQ r q v H' s o⟩
 cases i with
 | zero=>cases e;exact⟨O.v,rfl,.inr ⟨rfl,rfl⟩⟩
 | succ i=>
   rw[Zn,Qj] at e;obtain⟨d,hd,rfl⟩:=Qw.mp e;obtain⟨v,hv,iv⟩:=ia.get hd;exact⟨v,by rw[Zn];exact hv,.inl ⟨d,rfl,iv⟩⟩
def calD(n:Nat)(f:List Tl->(R->Prop)->Prop)(g:DA):DE:=λρ Q=>g ρ λds=>ds.length=n/\f ds Q
theorem z0z{n:Nat}(hφ:φ O)(h:AD K O t g):ED K O (zds (spO K φ n f) [] E t) (calD n f g):=λσ H ρ Q Qd S q k=>by
 refine h σ H ρ _ _ S q λvs H1 ds s1 is zz=>?_;obtain⟨hn,q1⟩:=zz;rw[ZK];exact⟨O,ds,Qd,S.ok,hφ,s1.p S.p,hn,is,q1,λr qr v H' s2 o2=>k v H' r (s1.trans s2) (o2.ahead S.ok S.p s1) qr⟩
def calO(i:Nat)(n:Nat)(f:List Tl->(R->Prop)->Prop)(g:DA):DE:=λρ Q=>ρ[i]? = some (some .ob)/\g ρ λds=>ds.length=n/\f ds Q
theorem zwr{i n:Nat}(hφ:φ O)(h:AD K O t g):ED K O (zds (spD K φ n f) [] E (za0 (tVar i) t)) (calO i n f g):=λσ H ρ Q Qd S q k=>by
 obtain⟨e,q⟩:=q;obtain⟨v,hv,hh⟩:=S.at_ i _ e;refine⟨v,hv,?_⟩;refine h σ H ρ _ _ S q λvs H1 ds s1 is zz=>?_;obtain⟨hn,q1⟩:=zz;show spD K φ n f ((v::vs) ++ []) H1 Q E;rw[ZK];exact⟨O,ds,vs,Qd,S.ok,hφ,s1.p S.p,hn,by rw[show v=O.v from hh],is,q1,λr qr v H' s2 o2=>k v H' r (s1.trans s2) (o2.ahead S.ok S.p s1) qr⟩
theorem z0k{φ:Ob->Prop}{n:Nat}{f:List Tl->(R->Prop)->Prop}{ps:List Str}(hn:ps.length=n):∀vs H Q E,spO K φ n f vs H Q E->vs.length=ps.length:=λvs H Q E zz=>by obtain⟨O,ds,_,_,_,_,h,is,_⟩:=zz;rw[is.length,h,hn]
theorem zo9{φ:Ob->Prop}{n:Nat}{f:List Tl->(R->Prop)->Prop}{ps:List Str}(hn:ps.length=n+1):∀vs H Q E,spD K φ n f vs H Q E->vs.length=ps.length:=λvs H Q E zz=>by obtain⟨O,ds,ws,_,_,_,_,h,e,is,_⟩:=zz;rw[e,Q3,is.length,h,hn]
end
section
variable {X:Cx}
def rEqD(K:Qa)(neg:Bool):R2:=λx y H Q=>∃F G d e,Is K F H x d/\Is K G H y e/\d.canLay0=true/\e.canLay0=true/\d.depth<=60/\Q (.bl (if neg then !PyData.eqv d e else QC d e)) H
theorem z5w(hu:X.A.units+64<cLine):OpR X (TN .Eq) (rEqD X.K false):=by
 intro pins s σ H x y v u Q I rx ry h;obtain⟨F,G,d,e,i1,i2,h1,h2,h3,q⟩:=h;obtain⟨as,ra⟩:=i1.reads I rx;obtain⟨bs,rb⟩:=i2.reads I ry;exact SeqAt.compareEq_reads ra rb h1 h2 (by lia) ⟨.bl _,H,I,rfl,q⟩
theorem z3e(hu:X.A.units+64<cLine):OpR X (TN .NotEq) (rEqD X.K true):=by
 intro pins s σ H x y v u Q I rx ry h;obtain⟨F,G,d,e,i1,i2,h1,h2,h3,q⟩:=h;obtain⟨as,ra⟩:=i1.reads I rx;obtain⟨bs,rb⟩:=i2.reads I ry;exact SeqAt.compareNe_reads ra rb h1 h2 (by lia) ⟨.bl _,H,I,rfl,q⟩
def rInD(K:Qa)(neg:Bool):R2:=λx y H Q=>∃F G d es,Is K F H x d/\(Is K G H y (.list es)\/Is K G H y (.tuple es))/\d.canLay0=true/\Qz es=true/\d.depth<=60 /\
 Q (.bl (if neg then !es.any (λy=>QC y d) else es.any λy=>QC y d)) H
theorem z4x(hu:X.A.units+64<cLine):OpR X (TN .In) (rInD X.K false):=by
 intro pins s σ H x y v u Q I rx ry h;obtain⟨F,G,d,es,i1,i2,h1,h2,h3,q⟩:=h;obtain⟨as,ra⟩:=i1.reads I rx;rcases i2 with i2|i2
 .obtain⟨bs,rb⟩:=i2.reads I ry;exact SeqAt.in_list_reads rb ra h2 h1 (by lia) ⟨.bl _,H,I,rfl,q⟩
 .obtain⟨bs,rb⟩:=i2.reads I ry;exact SeqAt.in_tuple_reads rb ra h2 h1 (by lia) ⟨.bl _,H,I,rfl,q⟩
theorem zsy(hu:X.A.units+64<cLine):OpR X (TN .NotIn) (rInD X.K true):=by
 intro pins s σ H x y v u Q I rx ry h;obtain⟨F,G,d,es,i1,i2,h1,h2,h3,q⟩:=h;obtain⟨as,ra⟩:=i1.reads I rx;rcases i2 with i2|i2
 .obtain⟨bs,rb⟩:=i2.reads I ry;exact SeqAt.notIn_list_reads rb ra h2 h1 (by lia) ⟨.bl _,H,I,rfl,q⟩
 .obtain⟨bs,rb⟩:=i2.reads I ry;exact SeqAt.notIn_tuple_reads rb ra h2 h1 (by lia) ⟨.bl _,H,I,rfl,q⟩
theorem zqg:∀{bs:List Bool} {us:List Tn},Vals (bs.map V.bl) us->us=bs.map JP
 | [],_,r=>by cases r;rfl
 | b::bs,_,r=>by
   rw[Qu] at r
   cases r with
   | cons h t=>rw[zqg t,show _=JP b from h];rfl
theorem zur{bs:List Bool}:(QH bs.length).all (λi=>bs[i]?.getD false)=bs.all id:=by
 apply J9.mpr;rw[J1,J1];constructor
 .intro h x hx;obtain⟨i,hi,e⟩:=List.mem_iff_getElem.mp hx;have:=h i (by simpa using hi);rw[Qg hi] at this;rw[<- e];simpa using this
 .intro h i hi;have hi':i<bs.length:=by simpa using hi
  rw[Qg hi'];simpa using h _ (QT hi')
def rAll(any:Bool):List V->Hp->VK->Prop:=λxs H Q=>∃(p:Addr) (bs:List Bool),xs = [.ref p]/\H p=some (.lst (bs.map V.bl))/\Q (.bl (if any then bs.any id else bs.all id)) H
theorem ztp(hc:X.calm=true):CallR X (.builtin "all") (rAll false):=by
 intro pins s σ H xs us Q I r h;obtain⟨p,bs,rfl,hH,q⟩:=h;obtain⟨u,rfl,ru⟩:=Vals.one r;cases ru;obtain⟨z,its,n,rv,hl,e⟩:=I.lstM hH;have ei:=zqg rv;subst ei;have pl:s.heap.IsList p (bs.map JP).toArray:=⟨_,e,rfl,_,rfl⟩;have hne:p≠s.heap.objs.size:=Q2 (Qt e);refine call_all_walk (TX pl ?_);refine⟨s.heap.objs.size,_,_,_,_,_,λi=>bs[i]?.getD false,rfl,GK (A:=X.A.in1) (I.ok.hd hc) _ p hne (bs.map JP).toArray,⟨⟨_,Qm _ rfl,rfl,rfl⟩,_,Qe _ e,rfl,_,rfl⟩,?_,λh' tk kk=>?_⟩
 .intro i v s' Q' E' hv hq;have hv:(bs.map JP).toArray[i]? = some v:=hv;rw[YH,Qj] at hv;obtain⟨b,hb,rfl⟩:=Qw.mp hv;have hq:Q' (bs[i]?.getD false) s':=hq;rw[hb] at hq;exact ML hq
 .have I1:Inv X pins σ H { s with heap:=h',toks:=tk }:=I.kept λb o eb=>kk b o (by simp;exact Q2 (Qt eb)) (Qe _ eb);refine⟨.bl _,H,I1,?_,q⟩;show JP _=JP _;rw[Qy,Qc,zur];rfl
theorem zft:∀{ys:List Str} {us:List Tn},Vals (ys.map V.str) us->N0 us ys
 | [],_,r=>by cases r;exact .nil
 | y::ys,_,r=>by
   rw[Qu] at r
   cases r with
   | cons h t=>obtain⟨tk,rfl⟩:=h;exact .cons y tk (zft t)
theorem zel:∀{ys:List Str} {us:List Tn},N0 us ys->Vals (ys.map V.str) us
 | _,_,.nil=>.nil
 | _,_,.cons y t r=>.cons ⟨t,rfl⟩ (zel r)
def zjp:V->List V->Hp->VK->Prop:=λx vs H Q=>∃sep p ys,x = .str sep/\vs = [.ref p]/\H p=some (.lst (ys.map V.str))/\(ys.map (·.length)).sum+ys.length * sep.length<=16777216/\Q (.str (GL sep ys)) H
theorem zzr:MtM X "str.join" zjp:=by
 intro pins s σ H x vs v us Q I rx rv h;obtain⟨sep,p,ys,rfl,rfl,hH,hz,q⟩:=h;obtain⟨t,rfl⟩:=rx;obtain⟨u,rfl,ru⟩:=rv.one;cases ru;obtain⟨z,its,n,r,hl,e⟩:=I.lstM hH;exact join_list ⟨_,e,rfl,_,rfl⟩ (by simpa using zft r) hz λt' k=>⟨.str _,H,I.tok _,⟨_,rfl⟩,q⟩
def zuy:List V->Hp->VK->Prop:=λxs H Q=>∃p ys,xs = [.ref p]/\H p=some (.lst (ys.map V.str))/\ys.length<64/\∀zs l,zs.Perm ys->NW zs=true->H l=none->Q (.ref l) (upd H l (.lst (zs.map V.str)))
theorem zr2:CallR X (.builtin "sorted") zuy:=by
 intro pins s σ H xs us Q I r h;obtain⟨p,ys,rfl,hH,hz,q⟩:=h;obtain⟨u,rfl,ru⟩:=Vals.one r;cases ru;obtain⟨z,its,n,rv,hl,e⟩:=I.lstM hH;refine sorted_strs (ss:=ys) ⟨_,e,rfl,_,rfl⟩ (zft rv) (by rw[<- hl,Qc];exact hz) λout zs h1 h2 h3=>?_;obtain⟨c,he⟩:=sortedAll_at s.heap its out;have hn:H (s.heap.objs.size+1)=none:=I.hok.fresh (Jr _);refine⟨.ref _,_,I.laid (a:=s.heap.objs.size+1) (o:=.lst (zs.map V.str)) (t':=s.toks) (λb o eb=>sortedAll_old eb) (Jr _) ?_,rfl,q zs _ h2 h3 hn⟩;refine⟨?_,out.toList,c,zel h1,by simpa using he⟩;rw[Qc,h2.length_eq];have:sizeLine=16777216:=Ts;lia
theorem zsa(h:ItemsOf P acc ys.length)(hv:∀i v,P i v->∃y,ys[i]? = some y/\RelV y v):Vals ys acc.toList:=by
 have go:∀(k:Nat) (zs:List V) (l:List Tn),zs.length=l.length->(∀(i:Nat) v,l[i]? = some v->∃y,zs[i]? = some y/\RelV y v)->Vals zs l:=by
  intro k zs l
  induction l generalizing zs with
  | nil=>intro e _;cases zs with
    | nil=>exact .nil
    | cons _ _=>simp at e
  | cons a l ih=>intro e hh;cases zs with
    | nil=>simp at e
    | cons z zs=>
      obtain⟨y,h1,h2⟩:=hh 0 a rfl;simp at h1;subst h1;exact .cons h2 (ih zs (by simpa using e) λi v ev=>by simpa using hh (i+1) v (by simpa using ev))
 refine go 0 ys acc.toList (by have e:=h.1;simp[e]) λi v e=>hv i v (h.2 i v (by simpa using e))
def zs7:List V->Hp->VK->Prop:=λxs H Q=>∃x:Str,xs = [.str x]/\x.cps.size<=sizeLine/\∀l,H l=none->Q (.ref l) (upd H l (.lst (x.cps.toList.map λc=>V.str (sg c))))
theorem zrz(hc:X.calm=true):CallR X (.type "list") zs7:=by
 intro pins s σ H xs us Q I r h;obtain⟨x,rfl,hz,q⟩:=h;obtain⟨u,rfl,ru⟩:=Vals.one r;obtain⟨t,rfl⟩:=ru;refine call_list_str (I.ok.hd hc) x t (λh' tk acc c kk e it=>?_) hz;refine⟨.ref _,_,I.laid (a:=s.heap.objs.size) (o:=.lst (x.cps.toList.map λc=>V.str (sg c))) kk (Qh _) ?_,rfl,q _ I.fresh⟩;refine⟨by simpa using hz,acc.toList,c,zsa (P:=SignAt x) (by simpa using it) λi v hv=>?_,by simpa using e⟩;obtain⟨cc,uu,h1,rfl⟩:=hv;exact⟨.str (sg cc),by rw[Qj];simp[h1],⟨uu,rfl⟩⟩
def zyz(K:Qa):List V->Hp->VK->Prop:=λxs H Q=>∃v F d,xs = [v]/\Is K F H v d/\d.showable=true/\d.hasDict=false/\d.depth<=60/\d.shown.length<=sizeLine/\Q (.str d.shown) H
theorem zqq(hg:X.A.guards=some [])(hu:X.A.units+64<cLine):CallR X (.builtin "repr") (zyz X.K):=by
 intro pins s σ H xs us Q I r h;obtain⟨v,F,d,rfl,i,h1,h2,h3,h4,q⟩:=h;obtain⟨u,rfl,ru⟩:=Vals.one r;have fin:∀h' u tk,(∀b o,s.heap.get? b=some o->h'.get? b=some o)->EP X pins σ Q (.str d.shown u) { s with heap:=h',toks:=tk }:=λh' u tk kk=>⟨.str _,H,I.kept kk,⟨_,rfl⟩,q⟩;have fin':∀u tk,EP X pins σ Q (.str d.shown u) { s with toks:=tk }:=λu tk=>⟨.str _,H,I.tok _,⟨_,rfl⟩,q⟩;obtain⟨as,ra⟩:=i.reads I ru
 cases i with
 | none=>cases ru;exact PySem.P.repr_of_none (fin' _ _)
 | bool b=>cases ru;exact PySem.P.repr_of_bool (fin' _ _)
 | int n=>obtain⟨t,rfl⟩:=ru;exact PySem.P.repr_of_int (by simpa[Jy] using h1) (fin' _ _)
 | str x=>obtain⟨t,rfl⟩:=ru;exact PySem.P.repr_of_str (fin' _ _) h4
 | list _ _ _=>cases ru;exact repr_of_reads' ra h1 (λz=>by rw[h2] at z;cases z) hg (by lia) (λ_ _ e=>e) fin h4
 | tuple _ _=>cases ru;exact repr_of_reads' ra h1 (λz=>by rw[h2] at z;cases z) hg (by lia) (λ_ _ e=>e) fin h4
end
def tx(l:List Nat):Str:=⟨l.toArray⟩
theorem zvw(x:Str):tx x.cps.toList=x:=by cases x;simp[tx]
theorem zck(l:List Nat):(tx l).cps.toList=l:=by simp[tx]
theorem zvb(l:List Nat):(tx l).length=l.length:=by simp[tx,U9]
def cutL{α:Type}(xs:List α)(lo hi:Option Int):List α:=(xs.drop (HT.sIx xs.length 0 lo)).take (HT.sIx xs.length xs.length hi-HT.sIx xs.length 0 lo)
theorem zia(n d:Nat)(v:Int):max (0:Int) (min (if v<0 then v+n else v) n)=((HT.sIx n d (some v):Nat):Int):=by
 rw[<- HT.clip_eq v n d]
 by_cases h:v<0
 .rw[j7 h,j7 h];lia
 .rw[j8 h,j8 h];lia
theorem zow(lo hi:Option Int)(n:Nat):Vk lo hi 1 n=(QH (HT.sIx n n hi-HT.sIx n 0 lo)).map λk=>HT.sIx n 0 lo+k:=by
 have e1:(match lo with|none=>(0:Int)|some i=>max 0 (min (if i<0 then i+(n:Int) else i) n))=((HT.sIx n 0 lo:Nat):Int):=by
  cases lo with
  | none=>rfl
  | some v=>exact zia n 0 v
 have e2:(match hi with|none=>(n:Int)|some i=>max 0 (min (if i<0 then i+(n:Int) else i) n))=((HT.sIx n n hi:Nat):Int):=by
  cases hi with
  | none=>rfl
  | some v=>exact zia n n v
 have e0:Vk lo hi 1 n=sliceRange ((HT.sIx n 0 lo:Nat):Int) ((HT.sIx n n hi:Nat):Int) 1:=by
  rw[<- e1,<- e2];cases lo <;> cases hi <;> rfl
 rw[e0];generalize HT.sIx n 0 lo=a;generalize HT.sIx n n hi=b;simp only[sliceRange,show((1:Int) > 0)=True from by simp,jE]
 by_cases hlt:(a:Int)<b
 .have e3:(((b:Int)-a+1-1) / 1).toNat=b-a:=by first|lia|(simp;done)|(simp;lia)
  simp only[hlt,jE,e3];refine Vf λk _=>?_;lia
 .have:b-a=0:=by lia
  simp[hlt,this]
theorem zue{α:Type}(l:List α):∀(n a:Nat),a+n<=l.length->((QH n).map λk=>a+k).filterMap (λi=>l[i]?)=(l.drop a).take n
 | 0,_,_=>by simp
 | n+1,a,h=>by
   have hlt:a+n<l.length:=by lia
   rw[List.range_succ,Q7,List.filterMap_append,zue l n a (by lia),Zz,Jl];simp[Qg hlt]
section
variable {X:Cx}
def rSlS:V->Option Int->Option Int->Hp->VK->Prop:=λx lo hi H Q=>∃z:Str,x = .str z/\z.length<=sizeLine/\Q (.str (tx (cutL z.cps.toList lo hi))) H
theorem z5u:SlR X rSlS:=by
 intro pins s σ H x v vl vu lo hi sl Q I rx hs pl pu h;obtain⟨z,rfl,hz,q⟩:=h;obtain⟨t,rfl⟩:=rx;refine⟨"str",_,PySem.F.slot_str_getitem.lookup,typeIs_str s z t,?_⟩;have hl:z.cps.toList.length=z.length:=by simp[U9]
 have hi':HT.sIx z.length z.length hi<=z.length:=HT.sIx_le _ _ (Qh _) hi
 have key:∀l u:Option (Int×Tok),l.map (·.1)=lo->u.map (·.1)=hi->s.heap.IsSlice sl l u none->wpAny (model X.prog X.w) X.A (MN (.str z t) (.ref sl)) (EP X pins σ Q) X.xe s:=by
  intro l u el eu hsl
  have e:NP z l u none=(QH (HT.sIx z.length z.length hi-HT.sIx z.length 0 lo)).map λk=>HT.sIx z.length 0 lo+k:=by
   unfold NP;rw[el,eu];exact zow lo hi z.length
  have ec:tx (cutL z.cps.toList lo hi)=⟨((NP z l u none).filterMap (z.cps[·]?)).toArray⟩:=by
   rw[e];unfold cutL tx;rw[hl]
   by_cases hij:HT.sIx z.length 0 lo<=HT.sIx z.length z.length hi
   .have p:=zue z.cps.toList (HT.sIx z.length z.length hi-HT.sIx z.length 0 lo) (HT.sIx z.length 0 lo) (by rw[hl];lia);rw[<- p];simp
   .have:HT.sIx z.length z.length hi-HT.sIx z.length 0 lo=0:=by lia
    rw[this];simp
  refine wpAny_getItem_str_slice hsl rfl ?_;unfold sliceMade
  split
  .rename_i hc
   have hw:(NP z l u none).length=z.length:=by simpa using hc
   have ex:tx (cutL z.cps.toList lo hi)=z:=by
    rw[e,Qc,QZ] at hw;unfold cutL;rw[hl];have h0:HT.sIx z.length 0 lo=0\/z.length=0:=by lia
    rcases h0 with h0|h0
    .rw[h0] at hw ⊢;rw[Y9,Je (by rw[hl];lia)];exact zvw z
    .have hn:z.cps.toList = []:=List.eq_nil_of_length_eq_zero (by rw[hl];exact h0);rw[hn];simp only[List.drop_nil,GY];rw[<- hn];exact zvw z
   exact⟨.str _,H,I,⟨t,by rw[ex]⟩,q⟩
  .rw[<- ec]
   have hlen:(tx (cutL z.cps.toList lo hi)).length<=sizeLine:=by
    rw[zvb];unfold cutL;rw[QX,Z8,hl];lia
   first
    | exact⟨.str _,H,I.tok _,⟨_,rfl⟩,q⟩
    | exact⟨hlen,.str _,H,I.tok _,⟨_,rfl⟩,q⟩
    | exact λ_=>⟨.str _,H,I.tok _,⟨_,rfl⟩,q⟩
 obtain⟨o,ho,hc,hd⟩:=hs
 cases pl with
 | none=>cases pu with
   | none=>exact key none none rfl rfl ⟨o,ho,hc,hd⟩
   | int j t'=>exact key none (some (j,t')) rfl rfl ⟨o,ho,hc,hd⟩
 | int i ti=>cases pu with
   | none=>exact key (some (i,ti)) none rfl rfl ⟨o,ho,hc,hd⟩
   | int j t'=>exact key (some (i,ti)) (some (j,t')) rfl rfl ⟨o,ho,hc,hd⟩
def zys(K:Qa):V->Option Int->Option Int->Hp->VK->Prop:=λx lo hi H Q=>∃a xs,x = .ref a/\SqT K H a xs/\(HT.sIx xs.length 0 lo=0/\HT.sIx xs.length xs.length hi=xs.length)/\Q (.ref a) H
theorem zgt{prog:Tr}{w:Tt}{A:Tv}{E:Tn->To->Prop}{s:To}{t sl:Addr}{items:Array Tn}{vl vu:Tn}{lo hi:Option Int}{Q:Tn->To->Prop}(ht:IsTup s.heap t items)(hs:s.heap.IsSliceOf sl vl vu .none)(pl:Nz vl lo)(pu:Nz vu hi)
 (hw:HT.sIx items.size 0 lo=0/\HT.sIx items.size items.size hi=items.size) (h:Q (.ref t) s):wpAny (model prog w) A (MN (.ref t) (.ref sl)) Q E s:=by
 obtain⟨os,hos,hcs,hds⟩:=id hs;have hTs:s.TypeIs (.ref sl) "slice" := ⟨os,hos,hcs⟩;unfold MN
 try with_reducible refine TF ?_
 first|refine Tj (Tk ?_)|skip
 refine Tj (wpAny_sequenceKey ht.typeIs (by decide) ?_)
 refine Tj (TC (name:=QS "__getitem__") ht.typeIs Z3
  (Tw Z3 ht.typeIs entry_tuple_getitem ?_ (args_tuple_getitem _ _)))
 show wpAny _ _ (Yj (.ref t) >>= _) _ _ s;refine Tj (tupleItemsOf_ ht ?_);refine Tj (Mo hTs ?_);rw[j7 (by decide)];refine Tj (HT.sliceApplied_gen hs pl pu ?_)
 have hno:(((HT.sIx items.size 0 lo:Nat):Int) == 0 && (1:Int) == 1 && (HT.sIx items.size items.size hi-HT.sIx items.size 0 lo) == items.size)=true:=by
  rw[hw.1,hw.2];simp
 show wpAny _ _ (if(((HT.sIx items.size 0 lo:Nat):Int) == 0 && (1:Int) == 1 && (HT.sIx items.size items.size hi-HT.sIx items.size 0 lo) == items.size)=true then _ else _) _ _ s;rw[j7 hno];obtain⟨o,ho,hc,n,hd⟩:=id ht;refine Tj ?_;unfold Builtin.Tuple.tupleIsExact;refine Tj (Mo ht.typeIs (Tk ?_));show wpAny _ _ (if((Zp "tuple") == (Zp "tuple"))=true then _ else _) _ _ s;rw[j7 (by decide)];exact Tj (TW (Tk ⟨_,rfl,Tk h⟩))
theorem sl_tupW:SlR X (zys X.K):=by
 intro pins s σ H x v vl vu lo hi sl Q I rx hs pl pu h;obtain⟨a,xs,rfl,hx,hw,q⟩:=h;cases rx;obtain⟨its,r,ht,hz⟩:=I.tuple hx;have hlen:its.toArray.size=xs.length:=by rw[Qy];exact r.length.symm
 exact⟨"tuple",_,Z3.lookup,ht.typeIs,zgt ht hs pl pu (by rw[hlen];exact hw) ⟨.ref a,H,I,rfl,q⟩⟩
def rSl(K:Qa):V->Option Int->Option Int->Hp->VK->Prop:=λx lo hi H Q=>rSlL K x lo hi H Q\/rSlT K x lo hi H Q\/zys K x lo hi H Q\/rSlS x lo hi H Q
theorem z4q:SlR X (rSl X.K):=sl_list.or (sl_tup.or (sl_tupW.or z5u))
def zuj(K:Qa):R2:=λx y H Q=>∃a b ys,x = .ref a/\y = .ref b/\SqT K H a []/\SqT K H b ys/\Q (.ref b) H
theorem zxk:OpR X (Mt .Add) (zuj X.K):=by
 intro pins s σ H x y v u Q I rx ry h;obtain⟨a,b,ys,rfl,rfl,ha,hb,q⟩:=h;cases rx;cases ry;obtain⟨its,r1,p1,_⟩:=I.tuple ha;obtain⟨its2,r2,p2,_⟩:=I.tuple hb;cases r1;obtain⟨⟨cls,dd,data,sl⟩,ho,hc,n,hd⟩:=id p1;obtain⟨⟨cls2,dd2,data2,sl2⟩,ho2,hc2,n2,hd2⟩:=id p2;simp only at hc hd hc2 hd2;subst hc hd hc2 hd2
 exact ji ⟨_,ho,rfl⟩ ⟨_,ho2,rfl⟩ Nr NY Y6 Y1 (Yq _ _)
  (tuple_addW0 a b _ its2.toArray n n2 dd dd2 sl sl2 (by simp)) ⟨ho,ho2,⟨.ref b,H,I,rfl,q⟩⟩
end
section
variable {K:Qa}{O:Ob}{F:Addr->Prop}{H:Hp}
theorem zfx:∀{vs:List V} {ys:List Str},IsAll K F H vs (ys.map .str)->vs=ys.map V.str
 | _,[],h=>by cases h;rfl
 | _,y::ys,h=>by
   rw[Qu] at h
   cases h with
   | cons h1 h2=>cases h1;rw[zfx h2];rfl
theorem ziv:∀{vs:List V} {ns:List Int},IsAll K F H vs (ns.map .int)->vs=ns.map V.int
 | _,[],h=>by cases h;rfl
 | _,y::ys,h=>by
   rw[Qu] at h
   cases h with
   | cons h1 h2=>cases h1;rw[ziv h2];rfl
theorem zh5:∀{vs:List V} {bs:List Bool},IsAll K F H vs (bs.map .bool)->vs=bs.map V.bl
 | _,[],h=>by cases h;rfl
 | _,y::ys,h=>by
   rw[Qu] at h
   cases h with
   | cons h1 h2=>cases h1;rw[zh5 h2];rfl
theorem zf4:∀(ys:List Str),IsAll K F H (ys.map V.str) (ys.map .str)
 | []=>.nil
 | y::ys=>.cons (.str y) (zf4 ys)
theorem zlw{i:Int}{d:Tl}(h:IsAll K F H vs ds)(e:atI ds i=some d):∃v,atI vs i=some v/\Is K F H v d:=by
 unfold atI at e ⊢;rw[h.length]
 cases q:ixN ds.length i with
 | none=>rw[q] at e;cases e
 | some j=>
   rw[q] at e;obtain⟨v,hv,iv⟩:=h.get (i:=j) e;exact⟨v,hv,iv⟩
theorem zg4(h:IsAll K F H vs ds)(lo hi:Option Int):IsAll K F H (cutV vs lo hi) (cutL ds lo hi):=by
 unfold cutV cutL;rw[h.length];exact(h.drop _).take _
theorem zcc(ok:O.Ok)(hp:H p=none)(h:IsAll K (unM O) H vs ds):Stp O H (upd H p (.lst vs))/\Out K O H (upd H p (.lst vs)) (.ref p) (.n ds):=by
 have s:Stp O H (upd H p (.lst vs)):=.new ok hp _;exact⟨s,p,vs,rfl,hp,zak,h.stp s (λ_ z=>z) (λ_ z=>z)⟩
theorem zj4(ok:O.Ok)(hp:H p=none)(h:IsAll K (unM O) H vs ds):Stp O H (upd H p (.tup vs))/\Out K O H (upd H p (.tup vs)) (.ref p) (.o (.tuple ds)):=by
 have s:Stp O H (upd H p (.tup vs)):=.new ok hp _;exact⟨s,Is.tuple (.of zak) (h.stp s (λ_ z=>z) (λ_ z=>z))⟩
def okD(d:Tl):Bool:=d.canLay0 && decide (d.depth<=60)
def eqF(neg:Bool):Tl->Tl->Option R:=λd e=>if(okD d && e.canLay0)=true then some (.o (.bool (if neg then !PyData.eqv d e else QC d e))) else none
theorem zmo(neg:Bool):OpD K O (rEqD K neg) (fn2 (eqF neg)):=λH x y d e Q Qd ok p ix iy ⟨r,hr,q⟩ k=>by
 unfold eqF at hr
 split at hr
 .rename_i hc
  cases hr;simp only[Qx,okD,jC] at hc;exact⟨_,_,d,e,ix,iy,hc.1.1,hc.2,hc.1.2,k _ H (.o _) (.refl _ _) (Is.bool _) q⟩
 .cases hr
def inF(neg:Bool):Tl->Tl->Option R:=λd e=>match d,e with
 | .str x,.str y=>some (.o (.bool (if neg then !(!(Z6 y x 0 y.length 1).isEmpty) else !(Z6 y x 0 y.length 1).isEmpty)))
 | d,.list es=>if(okD d && Qz es)=true then some (.o (.bool (if neg then !es.any (λy=>QC y d) else es.any λy=>QC y d))) else none
 | d,.tuple es=>if(okD d && Qz es)=true then some (.o (.bool (if neg then !es.any (λy=>QC y d) else es.any λy=>QC y d))) else none
 | _,_=>none
def rInU(K:Qa):R2:=λx y H Q=>(∃i j,x = .str i/\y = .str j/\Q (.bl (!(Z6 j i 0 j.length 1).isEmpty)) H)\/rInD K false x y H Q
def zj6(K:Qa):R2:=λx y H Q=>(∃i j,x = .str i/\y = .str j/\Q (.bl (!(!(Z6 j i 0 j.length 1).isEmpty))) H)\/rInD K true x y H Q
theorem z5q(hu:X.A.units+64<cLine):OpR X (TN .In) (rInU X.K):=op_in_str.or (z4x hu)
theorem zt0(hu:X.A.units+64<cLine):OpR X (TN .NotIn) (zj6 X.K):=op_notin_str.or (zsy hu)
theorem zpn{neg:Bool}{d:Tl}(ix:Is K (unM O) H x d)(iy:Is K (unM O) H y e)(q:fn2 (inF neg) d e Qd)(k:∀v H' r,Stp O H H'->Out K O H H' v r->Qd r->Q v H'):
 (∃i j,x = .str i/\y = .str j/\Q (.bl (if neg then !(!(Z6 j i 0 j.length 1).isEmpty) else !(Z6 j i 0 j.length 1).isEmpty)) H)\/rInD K neg x y H Q:=by
 obtain⟨r,hr,q⟩:=q;unfold inF at hr
 split at hr
 .rename_i a b
  cases ix;cases iy;cases hr;exact .inl ⟨a,b,rfl,rfl,k _ H (.o _) (.refl _ _) (Is.bool _) q⟩
 .split at hr
  .rename_i hc
   cases hr;simp only[Qx,okD,jC] at hc;exact .inr ⟨_,_,_,_,ix,.inl iy,hc.1.1,hc.2,hc.1.2,k _ H (.o _) (.refl _ _) (Is.bool _) q⟩
  .cases hr
 .split at hr
  .rename_i hc
   cases hr;simp only[Qx,okD,jC] at hc;exact .inr ⟨_,_,_,_,ix,.inr iy,hc.1.1,hc.2,hc.1.2,k _ H (.o _) (.refl _ _) (Is.bool _) q⟩
  .cases hr
 .cases hr
theorem z3b:OpD K O (rInU K) (fn2 (inF false)):=λH x y d e Q Qd ok p ix iy q k=>zpn ix iy q k
theorem ztu:OpD K O (zj6 K) (fn2 (inF true)):=λH x y d e Q Qd ok p ix iy q k=>zpn (neg:=true) ix iy q k
def intF(g:Int->Int->Tl):Tl->Tl->Option R
 | .int i,.int j=>some (.o (g i j))
 | _,_=>none
theorem zms(h:∀i j H,Is K (unM O) H (g i j) (G i j)):OpD K O (rI0 g) (fn2 (intF G)):=λH x y d e Q Qd ok p ix iy ⟨r,hr,q⟩ k=>by
 unfold intF at hr
 split at hr
 .cases ix;cases iy;cases hr;exact⟨_,_,rfl,rfl,k _ H (.o _) (.refl _ _) (h _ _ H) q⟩
 .cases hr
theorem z3w:OpD K O (rI0 λi j=>.bl (decide (i<j))) (fn2 (intF λi j=>.bool (decide (i<j)))):=zms λ_ _ _=>.bool _
theorem z3y:OpD K O (rI0 λi j=>.bl (decide (j<i))) (fn2 (intF λi j=>.bool (decide (j<i)))):=zms λ_ _ _=>.bool _
def isNF(neg:Bool):Tl->Tl->(R->Prop)->Prop:=λd e Q=>e = .none/\Q (.o (.bool (match d with | .none=>!neg|_=>neg)))
theorem Is.non{d:Tl}(h:Is K F H v d):decide (v = .non)=(match d with | .none=>true|_=>false):=by cases h <;> rfl
theorem zme:OpD K O (λx y H Q=>y = .non/\Q (.bl (!decide (x = .non))) H) (isNF true):=λH x y d e Q Qd ok p ix iy ⟨e1,q⟩ k=>by
 subst e1;cases iy;refine⟨rfl,k _ H (.o _) (.refl _ _) ?_ q⟩;rw[ix.non];cases d <;> exact Is.bool _
def zyl(K:Qa):R2:=λx y H Q=>rI0 (λi j=>.int (i+j)) x y H Q\/(∃i j,x = .str i/\y = .str j/\i.length+j.length<=sizeLine/\Q (.str (i++j)) H)\/rCat x y H Q\/zyr K x y H Q\/zuj K x y H Q
theorem z2e: OpR X (Mt .Add) (zyl X.K):=op_add.or (op_add_str.or (op_cat.or (op_catT.or zxk)))
def addF:Tl->Tl->Option R:=λd e=>match d,e with
 | .int i,.int j=>some (.o (.int (i+j)))
 | .str x,.str y=>if x.length+y.length<=sizeLine then some (.o (.str (x++y))) else none
 | .list a,.list b=>if a.length+b.length<=sizeLine then some (.n (a++b)) else none
 | .tuple a,.tuple b=>if a.length+b.length<=sizeLine then some (.o (.tuple (a++b))) else none
 | _,_=>none
theorem z1g:OpD K O (zyl K) (fn2 addF):=λH x y d e Q Qd ok p ix iy ⟨r,hr,q⟩ k=>by
 unfold addF at hr
 split at hr
 .cases ix;cases iy;cases hr;exact .inl ⟨_,_,rfl,rfl,k _ H (.o _) (.refl _ _) (Is.int _) q⟩
 .split at hr
  .rename_i hz
   cases ix;cases iy;cases hr;exact .inr (.inl ⟨_,_,rfl,rfl,hz,k _ H (.o _) (.refl _ _) (Is.str _) q⟩)
  .cases hr
 .split at hr
  .rename_i hz
   cases hr
   cases ix with
   | list f1 h1 s1=>
     cases iy with
     | list f2 h2 s2=>
       refine .inr (.inr (.inl ⟨_,_,_,_,rfl,rfl,h1,h2,by rw[s1.length,s2.length];exact hz,λp' hp=>?_⟩));obtain⟨a1,a2⟩:=zcc ok hp (s1.append s2);exact k _ _ _ a1 a2 q
  .cases hr
 .split at hr
  .rename_i hz
   cases hr
   cases ix with
   | tuple h1 s1=>
     cases iy with
     | tuple h2 s2=>
       rename_i a xs b ys
       cases xs with
       | nil=>
         cases s1;exact .inr (.inr (.inr (.inr ⟨a,b,ys,rfl,rfl,h1,h2,k _ H (.o _) (.refl _ _) (Is.tuple h2 s2) q⟩)))
       | cons z zs=>
         refine .inr (.inr (.inr (.inl ⟨a,b,_,ys,rfl,rfl,h1,h2,by simp,by rw[s1.length,s2.length];exact hz,λe=>?_,λ_ p' hp=>?_⟩)))
         .subst e;cases s2;rw[ZK] at q;exact k _ H (.o _) (.refl _ _) (Is.tuple h1 s1) q
         .obtain⟨a1,a2⟩:=zj4 ok hp (s1.append s2);exact k _ _ _ a1 a2 q
  .cases hr
 .cases hr
def idxF:Tl->Tl->Option R:=λd e=>match d,e with
 | .list ds,.int i=>(atI ds i).map .o
 | .tuple ds,.int i=>(atI ds i).map .o
 | .str x,.int i=>if x.length<=sizeLine then(atI x.cps.toList i).map λc=>.o (.str (sg c)) else none
 | _,_=>none
theorem z0q:OpD K O (rIx K) (fn2 idxF):=λH x y d e Q Qd ok p ix iy ⟨r,hr,q⟩ k=>by
 unfold idxF at hr
 split at hr
 .obtain⟨z,hz,rfl⟩:=Qw.mp hr;cases iy
  cases ix with
  | list f1 h1 s1=>
    obtain⟨v,hv,iv⟩:=zlw s1 hz;exact .inl ⟨_,_,_,v,rfl,rfl,.of h1,hv,k v H (.o z) (.refl _ _) iv q⟩
 .obtain⟨z,hz,rfl⟩:=Qw.mp hr;cases iy
  cases ix with
  | tuple h1 s1=>
    obtain⟨v,hv,iv⟩:=zlw s1 hz;exact .inr (.inl ⟨_,_,_,v,rfl,rfl,h1,hv,k v H (.o z) (.refl _ _) iv q⟩)
 .split at hr
  .rename_i hl
   obtain⟨c,hc,rfl⟩:=Qw.mp hr;cases iy;cases ix;exact .inr (.inr ⟨_,_,c,rfl,rfl,hl,hc,k _ H (.o _) (.refl _ _) (Is.str _) q⟩)
  .cases hr
 .cases hr
abbrev DO:=DSt->(Option Int->Prop)->Prop
def OD(K:Qa)(O:Ob)(t:TO)(f:DO):Prop :=
 ∀(σ:St) (H:Hp) (ρ:DSt) (Q:Option Int->Hp->Prop) (Qd:Option Int->Prop),Seen K O H σ ρ->f ρ Qd->(∀o H',Stp O H H'->Qd o->Q o H')->t σ H Q
def noO:DO:=λ_ Q=>Q none
def zhs(f:DE):DO:=λρ Q=>f ρ λr=>∃i,r.d = .int i/\Q (some i)
theorem zy5:OD K O zo1 noO:=λσ H ρ Q Qd S h k=>k none H (.refl _ _) h
theorem z1t(h:ED K O t f):OD K O (zl8 t) (zhs f):=λσ H ρ Q Qd S hf k=>by
 refine h σ H ρ _ _ S hf λv H1 r s1 o1 zz=>?_;obtain⟨i,e,q⟩:=zz;have iv:=o1.is S.ok S.p;rw[e] at iv;cases iv;exact⟨i,rfl,k (some i) H1 s1 q⟩
def slcF(lo hi:Option Int):Tl->Option R
 | .list ds=>some (.n (cutL ds lo hi))
 | .tuple ds=>some (.o (.tuple (cutL ds lo hi)))
 | .str x=>if x.length<=sizeLine then some (.o (.str (tx (cutL x.cps.toList lo hi)))) else none
 | _=>none
def slD(f:DE)(a b:DO):DE:=λρ Q=>f ρ λr=>a ρ λlo=>b ρ λhi=>∃s,slcF lo hi r.d=some s/\Q s
theorem zxx(h:ED K O t f)(ha:OD K O tl a)(hb:OD K O th b):ED K O (tSl (rSl K) t tl th) (slD f a b):=λσ H ρ Q Qd S hf k=>by
 refine h σ H ρ _ _ S hf λv H1 r s1 o1 q1=>?_;refine ha σ H1 ρ _ _ (S.stp s1) q1 λlo H2 s2 q2=>?_;refine hb σ H2 ρ _ _ ((S.stp s1).stp s2) q2 λhi H3 s3 zz=>?_;obtain⟨s,hr,q⟩:=zz;have st:=(s1.trans s2).trans s3;have iv:Is K (unM O) H3 v r.d:=Is.stp (s2.trans s3) (λ_ z=>z) (λ_ z=>z) (o1.is S.ok S.p);revert hr;generalize r.d=d at iv;intro hr;unfold slcF at hr
 split at hr
 .cases hr
  cases iv with
  | list f1 h1 z1=>
    refine .inl ⟨_,_,rfl,.of h1,λp hp=>?_⟩;obtain⟨a1,a2⟩:=zcc S.ok hp (zg4 z1 lo hi);exact k _ _ _ (st.trans a1) (Out.ahead S.ok S.p st a2) q
 .cases hr
  cases iv with
  | tuple h1 z1=>
    rename_i a' xs
    by_cases hw:HT.sIx xs.length 0 lo=0/\HT.sIx xs.length xs.length hi=xs.length
    .refine .inr (.inr (.inl ⟨a',xs,rfl,h1,hw,k _ H3 (.o _) st ?_ q⟩))
     have e:cutV xs lo hi=xs:=by
      unfold cutV;rw[hw.1,hw.2,Y9,UO,Zh]
     have z2:=zg4 z1 lo hi;rw[e] at z2;exact Is.tuple h1 z2
    .refine .inr (.inl ⟨a',xs,rfl,h1,hw,λp hp=>?_⟩);obtain⟨a1,a2⟩:=zj4 S.ok hp (zg4 z1 lo hi);exact k _ _ _ (st.trans a1) (Out.ahead S.ok S.p st a2) q
 .split at hr
  .rename_i hl
   cases hr;cases iv;exact .inr (.inr (.inr ⟨_,rfl,hl,k _ H3 (.o _) st (Is.str _) q⟩))
  .cases hr
 .cases hr
def lenF:List Tl->Option R
 | [.str x]=>if x.length<=sizeLine then some (.o (.int x.length)) else none
 | [.list ds]=>some (.o (.int ds.length))
 | [.tuple ds]=>some (.o (.int ds.length))
 | _=>none
theorem zbd{d:Tl}(h:IsAll K F H vs [d]):∃v,vs = [v]/\Is K F H v d:=by
 cases h with
 | cons h1 h2=>cases h2;exact⟨_,rfl,h1⟩
theorem z5c:zdj K O (λxs H Q=>∃x n,xs = [x]/\LenV K x H n/\Q (.int n) H) (fn1 lenF):=λH vs ds Q Qd ok p is ⟨r,hr,q⟩ k=>by
 unfold lenF at hr
 split at hr
 .split at hr
  .rename_i hl
   obtain⟨v,rfl,iv⟩:=zbd is;cases iv;cases hr;exact⟨_,_,rfl,⟨hl,rfl⟩,k _ H (.o _) (.refl _ _) (Is.int _) q⟩
  .cases hr
 .obtain⟨v,rfl,iv⟩:=zbd is;cases hr
  cases iv with
  | list f1 h1 s1=>exact⟨_,_,rfl,.inl ⟨_,.of h1,s1.length.symm⟩,k _ H (.o _) (.refl _ _) (Is.int _) q⟩
 .obtain⟨v,rfl,iv⟩:=zbd is;cases hr
  cases iv with
  | tuple h1 s1=>exact⟨_,_,rfl,.inr ⟨_,h1,s1.length.symm⟩,k _ H (.o _) (.refl _ _) (Is.int _) q⟩
 .cases hr
def allD(any:Bool):List Tl->(R->Prop)->Prop:=λds Q=>∃bs:List Bool,ds = [.list (bs.map .bool)]/\Q (.o (.bool (if any then bs.any id else bs.all id)))
theorem z4j(any:Bool):zdj K O (rAll any) (allD any):=λH vs ds Q Qd ok p is ⟨bs,e,q⟩ k=>by
 subst e;obtain⟨v,rfl,iv⟩:=zbd is
 cases iv with
 | list f1 h1 s1=>
   rw[zh5 s1] at h1;exact⟨_,bs,rfl,h1,k _ H (.o _) (.refl _ _) (Is.bool _) q⟩
def zvp(K:Qa):List V->Hp->VK->Prop:=λxs H Q=>zs7 xs H Q\/(∃p ys,xs = [.ref p]/\(SqL K H p ys\/SqT K H p ys)/\∀l,H l=none->Q (.ref l) (upd H l (.lst ys)))
theorem zry(hc:X.calm=true):CallR X (.type "list") (zvp X.K):=(zrz hc).or zm9
def zqs:List Tl->Option R
 | [.str x]=>if x.length<=sizeLine then some (.n (sgs x)) else none
 | [.list ds]=>some (.n ds)
 | [.tuple ds]=>some (.n ds)
 | _=>none
theorem ztv(x:Str):IsAll K F H (x.cps.toList.map λc=>V.str (sg c)) (sgs x):=by
 have e:=zf4 (K:=K) (F:=F) (H:=H) (x.cps.toList.map sg);rw[Zt,Zt] at e;exact e
theorem zzh:zdj K O (zvp K) (fn1 zqs):=λH vs ds Q Qd ok p is ⟨r,hr,q⟩ k=>by
 unfold zqs at hr
 split at hr
 .split at hr
  .rename_i hl
   obtain⟨v,rfl,iv⟩:=zbd is;cases iv;cases hr;refine .inl ⟨_,rfl,hl,λl hl=>?_⟩;obtain⟨a1,a2⟩:=zcc (K:=K) ok hl (ztv _);exact k _ _ _ a1 a2 q
  .cases hr
 .obtain⟨v,rfl,iv⟩:=zbd is;cases hr
  cases iv with
  | list f1 h1 s1=>
    refine .inr ⟨_,_,rfl,.inl (.of h1),λl hl=>?_⟩;obtain⟨a1,a2⟩:=zcc ok hl s1;exact k _ _ _ a1 a2 q
 .obtain⟨v,rfl,iv⟩:=zbd is;cases hr
  cases iv with
  | tuple h1 s1=>
    refine .inr ⟨_,_,rfl,.inr h1,λl hl=>?_⟩;obtain⟨a1,a2⟩:=zcc ok hl s1;exact k _ _ _ a1 a2 q
 .cases hr
def tupF:List Tl->Option R
 | [.list ds]=>some (.o (.tuple ds))
 | [.tuple ds]=>some (.o (.tuple ds))
 | _=>none
theorem zwe:zdj K O (λxs H Q=>∃p ys,xs = [.ref p]/\((SqL K H p ys/\∀l,H l=none->Q (.ref l) (upd H l (.tup ys)))\/(SqT K H p ys/\Q (.ref p) H))) (fn1 tupF):=λH vs ds Q Qd ok p is ⟨r,hr,q⟩ k=>by
 unfold tupF at hr
 split at hr
 .obtain⟨v,rfl,iv⟩:=zbd is;cases hr
  cases iv with
  | list f1 h1 s1=>
    refine⟨_,_,rfl,.inl ⟨.of h1,λl hl=>?_⟩⟩;obtain⟨a1,a2⟩:=zj4 ok hl s1;exact k _ _ _ a1 a2 q
 .obtain⟨v,rfl,iv⟩:=zbd is;cases hr
  cases iv with
  | tuple h1 s1=>exact⟨_,_,rfl,.inr ⟨h1,k _ H (.o _) (.refl _ _) (Is.tuple h1 s1) q⟩⟩
 .cases hr
def zf1:List Tl->Option R
 | [d]=>if(d.showable && !d.hasDict && decide (d.depth<=60) && decide (d.shown.length<=sizeLine))=true then some (.o (.str d.shown)) else none
 | _=>none
theorem zz4:zdj K O (zyz K) (fn1 zf1):=λH vs ds Q Qd ok p is ⟨r,hr,q⟩ k=>by
 unfold zf1 at hr
 split at hr
 .split at hr
  .rename_i hc
   cases hr;obtain⟨v,rfl,iv⟩:=zbd is;simp only[Qx,jC,YA] at hc;exact⟨v,_,_,rfl,iv,hc.1.1.1,hc.1.1.2,hc.1.2,hc.2,k _ H (.o _) (.refl _ _) (Is.str _) q⟩
  .cases hr
 .cases hr
def zyt(fo:DE)(fa:DE):DE:=λρ Q=>fo ρ λr0=>∃sep,r0.d = .str sep/\fa ρ λr=>∃ys:List Str,r.d = .list (ys.map .str)/\(ys.map (·.length)).sum+ys.length * sep.length<=16777216/\Q (.o (.str (GL sep ys)))
theorem zy8{to:TE}(ho:ED K O to fo)(ha:ED K O ta fa):ED K O (tBM K "str" zjp to (za0 ta tNil)) (zyt fo fa):=λσ H ρ Q Qd S hf k=>by
 refine ho σ H ρ _ _ S hf λv H1 r0 s1 o1 zz=>?_;obtain⟨sep,e0,q1⟩:=zz;have i0:=o1.is S.ok S.p;rw[e0] at i0;cases i0;refine⟨rfl,?_⟩;refine ha σ H1 ρ _ _ (S.stp s1) q1 λw H2 r s2 o2 zz=>?_;obtain⟨ys,e,hz,q⟩:=zz;have i1:=o2.is S.ok (s1.p S.p);rw[e] at i1
 cases i1 with
 | list f1 h1 z1=>
   rw[zfx z1] at h1;exact⟨sep,_,ys,rfl,rfl,h1,hz,k _ H2 (.o _) (s1.trans s2) (Is.str _) q⟩
end
structure Ctx3{ι:Type}(P:Tr)(w:Tt)(K:Qa)(mg:Str->Option Tn)(base:Heap)(k:Nat)(X:ι->Cx):Prop where
 hP:∀i,(X i).prog=P
 hw:∀i,(X i).w=w
 hK:∀i,(X i).K=K
 hmg:∀i,(X i).mg=mg
 hb:∀i,(X i).base=base
 calm:∀i,(X i).calm=true
 room:∀i,Room k (X i).A
 xe:∀i,(X i).xe=λ_ _=>False
def E3{ι κ:Type}(K:Qa)(X:ι->Cx)(O:κ->Ob)(e:Expr)(f:DE):Prop:=∃t,(∀i,PE (X i) e t)/\∀j,ED K (O j) t f
def T3{ι κ:Type}(K:Qa)(X:ι->Cx)(O:κ->Ob)(e:Expr)(f:DT):Prop:=∃t,(∀i,PT (X i) e t)/\∀j,TD K (O j) t f
def W3{ι κ:Type}(K:Qa)(X:ι->Cx)(O:κ->Ob)(e:Expr)(f:DT):Prop:=∃t,(∀i,PW (X i) e t)/\∀j,TD K (O j) t f
def A3{ι κ:Type}(K:Qa)(X:ι->Cx)(O:κ->Ob)(es:List Expr)(f:DA):Prop:=∃t,(∀i,PA (X i) es t)/\∀j,AD K (O j) t f
def I3{ι κ:Type}(K:Qa)(X:ι->Cx)(O:κ->Ob)(tg e:Expr)(f:DI):Prop:=∃t,(∀i,PI (X i) tg e t)/\∀j,SrcS K (O j) t f
def J3{ι κ:Type}(K:Qa)(X:ι->Cx)(O:κ->Ob)(tg e:Expr)(f:DJ):Prop:=∃t,(∀i,PI (X i) tg e t)/\∀j,SrcR K (O j) t f
def S3{ι κ:Type}(K:Qa)(X:ι->Cx)(O:κ->Ob)(s:Stmt)(g:DS):Prop:=∃t,(∀i,PS (X i) s t)/\∀j,SD K (O j) t g
def Ss3{ι κ:Type}(K:Qa)(X:ι->Cx)(O:κ->Ob)(s:List Stmt)(g:DS):Prop:=∃t,(∀i,PSs (X i) s t)/\∀j,SD K (O j) t g
def O3{ι κ:Type}(K:Qa)(X:ι->Cx)(O:κ->Ob)(e:Option Expr)(f:DO):Prop:=∃t,(∀i,PO (X i) e t)/\∀j,OD K (O j) t f
def G3{ι:Type}(K:Qa)(X:ι->Cx)(h:Nat)(tg:Expr)(g:DG):Prop:=∃t,(∀i,PG (X i) tg t)/\(∀O:Ob,GS K O t g)/\(∀O:Ob,GR K O t g)/\OwnG h t
section
variable {ι κ:Type}{P:Tr}{w:Tt}{K:Qa}{mg:Str->Option Tn}{base:Heap}{k:Nat}{X:ι->Cx}{O:κ->Ob}{a b c:Expr}{fa fb fc:DE}{pos:Pos}
theorem zab(n:Nat)(hN:∀i,(X i).N[n]? = some x:=by intro i;rfl)(hv:∀i,Vis (X i).env.scope x:=by intro i;first|exact Or.inl rfl|exact Or.inr (Or.inl rfl)|exact Or.inr (Or.inr rfl))
 (hd:(x == ("__debug__" : Str))=false:=by decide) (hcd:(x == ("__classdict__" : Str))=false:=by decide):E3 K X O (.Name x pos) (vD n):=⟨_,λi=>zam (hN i) (hv i) hd hcd,λj=>z4w⟩
theorem zad{n:Int}{j:Nat}:E3 K X O (.Constant (.int n) j pos) (cD (.int n)):=⟨_,λi=>za5,λj=>z5k⟩
theorem zaz{j:Nat}:E3 K X O (.Constant (.str x) j pos) (cD (.str x)):=⟨_,λi=>zbw,λj=>z4e⟩
theorem e_bl{x:Bool}{j:Nat}:E3 K X O (.Constant (.bool x) j pos) (cD (.bool x)):=⟨_,λi=>z7e,λj=>z7j⟩
theorem zhj{j:Nat}:E3 K X O (.Constant .none j pos) (cD .none):=⟨_,λi=>z4v,λj=>z4y⟩
theorem e_op(ho:∀i,OpR (X i) (Mt op) r)(hd:∀j,OpD K (O j) r F)(ha:E3 K X O a fa)(hb:E3 K X O b fb):E3 K X O (.BinOp a op b pos) (opDE F fa fb) :=
 let ⟨_,p1,d1⟩:=ha;let ⟨_,p2,d2⟩:=hb;⟨_,λi=>zbj (ho i) (p1 i) (p2 i),λj=>zl9 (hd j) (d1 j) (d2 j)⟩
theorem zas(C:Ctx3 P w K mg base k X)(ha:E3 K X O a fa)(hb:E3 K X O b fb):E3 K X O (.BinOp a .Add b pos) (opDE (fn2 addF) fa fb):=e_op (λi=>by have h:=z2e (X:=X i);rw[C.hK] at h;exact h) (λ_=>z1g) ha hb
theorem zyx(ho:∀i,OpR (X i) (TN op) r)(hd:∀j,OpD K (O j) r F)(ha:E3 K X O a fa)(hb:E3 K X O b fb)(hm:Mp op b=false):E3 K X O (.Compare a [op] [b] pos) (opDE F fa fb) :=
 let ⟨_,p1,d1⟩:=ha;let ⟨_,p2,d2⟩:=hb;⟨_,λi=>z0p (ho i) (p1 i) (p2 i) hm,λj=>zl9 (hd j) (d1 j) (d2 j)⟩
theorem zf0(ho:∀i,OpR (X i) (TN op) r)(hd:∀j,OpD K (O j) r F)(ha:E3 K X O a fa)(hb:E3 K X O b fb)(hm:Mp op b=false):T3 K X O (.Compare a [op] [b] pos) (bD (opDE F fa fb)) :=
 let ⟨_,p1,d1⟩:=ha;let ⟨_,p2,d2⟩:=hb;⟨_,λi=>zff (ho i) (p1 i) (p2 i) hm,λj=>z4s (zl9 (hd j) (d1 j) (d2 j))⟩
theorem zyj(C:Ctx3 P w K mg base k X):∀i,OpR (X i) (TN .Eq) (rEqD K false):=λi=>by have h:=z5w (X:=X i) (C.room i).units;rw[C.hK] at h;exact h
theorem z6n(C:Ctx3 P w K mg base k X):∀i,OpR (X i) (TN .NotEq) (rEqD K true):=λi=>by have h:=z3e (X:=X i) (C.room i).units;rw[C.hK] at h;exact h
theorem z6p(C:Ctx3 P w K mg base k X):∀i,OpR (X i) (TN .In) (rInU K):=λi=>by have h:=z5q (X:=X i) (C.room i).units;rw[C.hK] at h;exact h
theorem zxf(C:Ctx3 P w K mg base k X):∀i,OpR (X i) (TN .NotIn) (zj6 K):=λi=>by have h:=zt0 (X:=X i) (C.room i).units;rw[C.hK] at h;exact h
theorem e_eq(C:Ctx3 P w K mg base k X)(ha:E3 K X O a fa)(hb:E3 K X O b fb):E3 K X O (.Compare a [.Eq] [b] pos) (opDE (fn2 (eqF false)) fa fb):=zyx (zyj C) (λ_=>zmo false) ha hb (zcl b)
theorem zzk(ha:E3 K X O a fa)(hb:E3 K X O b fb):E3 K X O (.Compare a [.IsNot] [b] pos) (opDE (isNF true) fa fb):=zyx (λi=>zpt) (λ_=>zme) ha hb (zcl b)
theorem t_eq(C:Ctx3 P w K mg base k X)(ha:E3 K X O a fa)(hb:E3 K X O b fb):T3 K X O (.Compare a [.Eq] [b] pos) (bD (opDE (fn2 (eqF false)) fa fb)):=zf0 (zyj C) (λ_=>zmo false) ha hb (zcl b)
theorem t_ne(C:Ctx3 P w K mg base k X)(ha:E3 K X O a fa)(hb:E3 K X O b fb):T3 K X O (.Compare a [.NotEq] [b] pos) (bD (opDE (fn2 (eqF true)) fa fb)):=zf0 (z6n C) (λ_=>zmo true) ha hb (zcl b)
theorem t_lt(ha:E3 K X O a fa)(hb:E3 K X O b fb):T3 K X O (.Compare a [.Lt] [b] pos) (bD (opDE (fn2 (intF λi j=>.bool (decide (i<j)))) fa fb)):=zf0 (λi=>z6l) (λ_=>z3w) ha hb (zcl b)
theorem t_gt(ha:E3 K X O a fa)(hb:E3 K X O b fb):T3 K X O (.Compare a [.Gt] [b] pos) (bD (opDE (fn2 (intF λi j=>.bool (decide (j<i)))) fa fb)):=zf0 (λi=>zr4) (λ_=>z3y) ha hb (zcl b)
theorem t_in(C:Ctx3 P w K mg base k X)(ha:E3 K X O a fa)(hb:E3 K X O b fb)(hm:Mp .In b=false:=by rfl):T3 K X O (.Compare a [.In] [b] pos) (bD (opDE (fn2 (inF false)) fa fb)):=zf0 (z6p C) (λ_=>z3b) ha hb hm
theorem zqc(C:Ctx3 P w K mg base k X)(ha:E3 K X O a fa)(hb:E3 K X O b fb)(hm:Mp .NotIn b=false:=by rfl):T3 K X O (.Compare a [.NotIn] [b] pos) (bD (opDE (fn2 (inF true)) fa fb)):=zf0 (zxf C) (λ_=>ztu) ha hb hm
theorem zzx(ha:E3 K X O a fa)(hb:E3 K X O b fb):T3 K X O (.Compare a [.IsNot] [b] pos) (bD (opDE (isNF true) fa fb)):=zf0 (λi=>zpt) (λ_=>zme) ha hb (zcl b)
variable {ft fu:DT}{rest:List Expr}
theorem zjg(ha:E3 K X O a fa)(he:∀i whole,isTrue a (X i).env whole=(do let v <- whole;standAt a.pos;holding [v] (truthy v)):=by intro _ _;rfl):T3 K X O a (bD fa):=let ⟨_,p,d⟩:=ha;⟨_,λi=>z4u (p i) (he i),λj=>z1x (d j)⟩
theorem z6s(h:T3 K X O a ft):T3 K X O (.UnaryOp .Not a pos) (notT ft):=let ⟨_,p,d⟩:=h;⟨_,λi=>z5n (p i),λj=>z4t (d j)⟩
theorem zei(h:T3 K X O a ft):W3 K X O (.BoolOp .And [a] pos) ft:=let ⟨_,p,d⟩:=h;⟨_,λi=>zpe (p i),d⟩
theorem zsb(h:T3 K X O a ft):W3 K X O (.BoolOp .Or [a] pos) ft:=let ⟨_,p,d⟩:=h;⟨_,λi=>z5l (p i),d⟩
theorem zgk(h:T3 K X O a ft)(h':W3 K X O (.BoolOp .And (b::rest) pos) fu):W3 K X O (.BoolOp .And (a::b::rest) pos) (andT ft fu):=let ⟨_,p,d⟩:=h;let ⟨_,p2,d2⟩:=h';⟨_,λi=>zvj (p i) (p2 i),λj=>z3t (d j) (d2 j)⟩
theorem w_or(h:T3 K X O a ft)(h':W3 K X O (.BoolOp .Or (b::rest) pos) fu):W3 K X O (.BoolOp .Or (a::b::rest) pos) (orT ft fu):=let ⟨_,p,d⟩:=h;let ⟨_,p2,d2⟩:=h';⟨_,λi=>z6m (p i) (p2 i),λj=>z7b (d j) (d2 j)⟩
theorem t_w(h:W3 K X O a ft):T3 K X O a ft:=let ⟨_,p,d⟩:=h;⟨_,λi=>(p i).pt,d⟩
theorem e_if(hc:T3 K X O c ft)(ha:E3 K X O a fa)(hb:E3 K X O b fb):E3 K X O (.IfExp c a b pos) (ifD ft fa fb):=let ⟨_,p,d⟩:=hc;let ⟨_,p1,d1⟩:=ha;let ⟨_,p2,d2⟩:=hb;⟨_,λi=>zw4 (p i) (p1 i) (p2 i),λj=>z6y (d j) (d1 j) (d2 j)⟩
variable {es:List Expr}{ga:DA}
theorem zac:A3 K X O [] aNil:=⟨_,λi=>zbs,λj=>z2u⟩
theorem zaa(ha:E3 K X O a fa)(hr:A3 K X O es ga)(hs:∀i,Tq (a::es) (X i).env=(false,eval a (X i).env)::Tq es (X i).env:=by intro i;rfl):A3 K X O (a::es) (za7 fa ga):=let ⟨_,p,d⟩:=ha;let ⟨_,p2,d2⟩:=hr;⟨_,λi=>za3 (p i) (p2 i) (hs i),λj=>z0h (d j) (d2 j)⟩
theorem za1{n:Nat}(h:A3 K X O es ga):E3 K X O (.Tuple es n pos) (tupD ga):=let ⟨_,p,d⟩:=h;⟨_,λi=>z4n (p i),λj=>z4f (d j)⟩
theorem zbe(h:A3 K X O es ga):E3 K X O (.List es pos) (lstD ga):=let ⟨_,p,d⟩:=h;⟨_,λi=>zs6 (p i),λj=>z4c (d j)⟩
theorem zah(C:Ctx3 P w K mg base k X)(ha:E3 K X O a fa)(hb:E3 K X O b fb)(hs:zko b:=by intro _ _;rfl):E3 K X O (.Subscript a b pos) (opDE (fn2 idxF) fa fb) :=
 let ⟨_,p1,d1⟩:=ha;let ⟨_,p2,d2⟩:=hb;⟨tOp (rIx K) _ _,λi=>by have h:=zyu (pos:=pos) (zvo (X:=X i)) (p1 i) (p2 i) hs;rw[C.hK] at h;exact h,λj=>zl9 z0q (d1 j) (d2 j)⟩
theorem za8:O3 K X O none noO:=⟨_,λi=>z1f,λj=>zy5⟩
theorem zba(ha:E3 K X O a fa):O3 K X O (some a) (zhs fa):=let ⟨_,p,d⟩:=ha;⟨_,λi=>zkw (p i),λj=>z1t (d j)⟩
theorem za2(C:Ctx3 P w K mg base k X){lo hi:Option Expr}{fl fh:DO}{p2:Pos}(ha:E3 K X O a fa)(hl:O3 K X O lo fl)(hh:O3 K X O hi fh):E3 K X O (.Subscript a (.Slice lo hi none p2) pos) (slD fa fl fh) :=
 let ⟨_,p1,d1⟩:=ha;let ⟨_,q2,d2⟩:=hl;let ⟨_,q3,d3⟩:=hh;⟨tSl (rSl K) _ _ _,λi=>by have h:=znw (pos:=pos) (p2:=p2) (z4q (X:=X i)) (p1 i) (q2 i) (q3 i);rw[C.hK] at h;exact h,λj=>zxx (d1 j) (d2 j) (d3 j)⟩
theorem zhw{x:Str}{id:String}{r:List V->Hp->VK->Prop}{F:List Tl->(R->Prop)->Prop}{p:Pos}(C:Ctx3 P w K mg base k X)(hc:∀i,CallR (X i) (.builtin id) r)(hd:∀j,zdj K (O j) r F)(hv:TK x=some (.builtin id))(hm:mg x=none)(ha:A3 K X O (a::es) ga)
 (hg:∀i,Gl (X i) x:=by intro i;rfl) (hn:x ≠ "__name__" := by decide) (hdb:(x == ("__debug__" : Str))=false:=by decide) (he:∀i,Tq (a::es) (X i).env=(false,eval a (X i).env)::Tq es (X i).env:=by intro i;rfl) (hpl:∀i,(Mi pos (Tq es (X i).env)).any (·.1)=false:=by intro i;rfl) :
 E3 K X O (.Call (.Name x p) (a::es) [] pos) (zb4 F ga):=let ⟨_,q,d⟩:=ha;⟨_,λi=>zeo (hc i) (hg i) (by rw[C.hmg];exact hm) hv (q i) hn hdb (he i) (hpl i),λj=>zni (hd j) (d j)⟩
theorem zya(C:Ctx3 P w K mg base k X)(hc:∀i,CallR (X i) (.type T) r)(hd:∀j,zdj K (O j) r F)(hv:TK x=some (.type T))(hm:mg x=none)(ha:A3 K X O (a::es) ga)
 (hg:∀i,Gl (X i) x:=by intro i;rfl) (hn:x ≠ "__name__" := by decide) (hdb:(x == ("__debug__" : Str))=false:=by decide) (he:∀i,Tq (a::es) (X i).env=(false,eval a (X i).env)::Tq es (X i).env:=by intro i;rfl) (hpl:∀i,(Mi pos (Tq es (X i).env)).any (·.1)=false:=by intro i;rfl) :
 E3 K X O (.Call (.Name x p) (a::es) [] pos) (zb4 F ga):=let ⟨_,q,d⟩:=ha;⟨_,λi=>zlo (hc i) (hg i) (by rw[C.hmg];exact hm) hv (q i) hn hdb (he i) (hpl i),λj=>zni (hd j) (d j)⟩
end
theorem znr:TK "len" = some (.builtin "len"):=by decide +kernel
theorem z5e:TK "all" = some (.builtin "all"):=by decide +kernel
theorem zdw:TK "sorted" = some (.builtin "sorted"):=by decide +kernel
theorem z3x:TK "min" = some (.builtin "min"):=by decide +kernel
theorem z1p:TK "repr" = some (.builtin "repr"):=by decide +kernel
theorem zpl:TK "list" = some (.type "list"):=by decide +kernel
theorem zv6:TK "tuple" = some (.type "tuple"):=by decide +kernel
structure Blt(mg:Str->Option Tn):Prop where
 len:mg "len" = none
 all:mg "all" = none
 any:mg "any" = none
 sorted:mg "sorted" = none
 min:mg "min" = none
 max:mg "max" = none
 repr:mg "repr" = none
 int:mg "int" = none
 list:mg "list" = none
 tuple:mg "tuple" = none
 range:mg "range" = none
 set:mg "set" = none
 isinstance:mg "isinstance" = none
 enumerate:mg "enumerate" = none
 zip:mg "zip" = none
 reversed:mg "reversed" = none
 str:mg "str" = none
 sum:mg "sum" = none
 dict:mg "dict" = none
 bool:mg "bool" = none
structure Def3(P:Tr)(w:Tt)(K:Qa)(mg:Str->Option Tn)(base:Heap)(k:Nat)(x:Str)(ps:List Str)(sp:Sp):Prop where
 ex:∃f fd,FnOk P w K mg base CX0 k f fd ps sp/\mg x=some (.ref f)/\Yi K (.ref f)=true/\Binds K fd ps []
structure Top3(K:Qa)(mg:Str->Option Tn)(x:Str)(st:Stmt):Prop where
 ex:∃f fd,Fun K x x st f fd/\mg x=some (.ref f)
structure CIx where
 C:Addr
 s:To
 H:Hp
 ex:List Addr
def zge{ι:Type}(X:ι->Cx)(scope:Mn)(N':List Str):ι×CIx->Cx:=λp=>zb0 (X p.1) scope N' p.2.C p.2.s p.2.H p.2.ex
def zjh{κ:Type}(O:κ->Ob):{ p:κ×(Addr×List V) // ¬(O p.1).M p.2.1 }->Ob:=λp=>(O p.1.1).plus p.1.2.1 (.lst p.1.2.2)
def F3{ι κ:Type}(K:Qa)(X:ι->Cx)(O:κ->Ob)(ifs:List Expr)(f:DT):Prop:=∃t,(∀i,PF (X i) ifs t)/\∀j,TD K (O j) t f
def yesD:DT:=λ_ Q=>Q true
section
variable {ι κ:Type}{P:Tr}{w:Tt}{K:Qa}{mg:Str->Option Tn}{base:Heap}{k:Nat}{X:ι->Cx}{O:κ->Ob}{a b c tg:Expr}{fa fb fc:DE}{pos p:Pos}{es:List Expr}{ga:DA}
theorem Ctx3.comp(C:Ctx3 P w K mg base k X)(scope:Mn)(N':List Str):Ctx3 P w K mg base k (zge X scope N'):=⟨λi=>C.hP i.1,λi=>C.hw i.1,λi=>C.hK i.1,λi=>C.hmg i.1,λi=>C.hb i.1,λi=>C.calm i.1,λi=>C.room i.1,λ_=>rfl⟩
theorem zdq(C:Ctx3 P w K mg base k X)(B:Blt mg)(ha:A3 K X O [a] ga)(hg:∀i,Gl (X i) "len" := by intro i;rfl)(he:∀i,Tq [a] (X i).env=(false,eval a (X i).env)::Tq [] (X i).env:=by intro i;rfl):E3 K X O (.Call (.Name "len" p) [a] [] pos) (zb4 (fn1 lenF) ga) :=
 zhw C (λi=>by have h:=zh8 (X:=X i);rw[C.hK] at h;exact h) (λ_=>z5c) znr B.len ha hg (by decide) (by decide) he
theorem zym(C:Ctx3 P w K mg base k X)(B:Blt mg)(ha:A3 K X O [a] ga)(hg:∀i,Gl (X i) "all" := by intro i;rfl)(he:∀i,Tq [a] (X i).env=(false,eval a (X i).env)::Tq [] (X i).env:=by intro i;rfl):E3 K X O (.Call (.Name "all" p) [a] [] pos) (zb4 (allD false) ga) :=
 zhw C (λi=>ztp (C.calm i)) (λ_=>z4j false) z5e B.all ha hg (by decide) (by decide) he
theorem zua(C:Ctx3 P w K mg base k X)(B:Blt mg)(ha:A3 K X O [a] ga)(hg:∀i,Gl (X i) "repr" := by intro i;rfl)(he:∀i,Tq [a] (X i).env=(false,eval a (X i).env)::Tq [] (X i).env:=by intro i;rfl):E3 K X O (.Call (.Name "repr" p) [a] [] pos) (zb4 (fn1 zf1) ga) :=
 zhw C (λi=>by have h:=zqq (X:=X i) (C.room i).gd (C.room i).units;rw[C.hK] at h;exact h) (λ_=>zz4) z1p B.repr ha hg (by decide) (by decide) he
theorem zhh(C:Ctx3 P w K mg base k X)(B:Blt mg)(ha:A3 K X O [a] ga)(hg:∀i,Gl (X i) "list" := by intro i;rfl)(he:∀i,Tq [a] (X i).env=(false,eval a (X i).env)::Tq [] (X i).env:=by intro i;rfl):E3 K X O (.Call (.Name "list" p) [a] [] pos) (zb4 (fn1 zqs) ga) :=
 zya C (λi=>by have h:=zry (X:=X i) (C.calm i);rw[C.hK] at h;exact h) (λ_=>zzh) zpl B.list ha hg (by decide) (by decide) he
theorem zcs(C:Ctx3 P w K mg base k X)(B:Blt mg)(ha:A3 K X O [a] ga)(hg:∀i,Gl (X i) "tuple" := by intro i;rfl)(he:∀i,Tq [a] (X i).env=(false,eval a (X i).env)::Tq [] (X i).env:=by intro i;rfl):E3 K X O (.Call (.Name "tuple" p) [a] [] pos) (zb4 (fn1 tupF) ga) :=
 zya C (λi=>by have h:=zly (X:=X i);rw[C.hK] at h;exact h) (λ_=>zwe) zv6 B.tuple ha hg (by decide) (by decide) he
theorem zm0{X:Cx}:MtR X "str.join" zjp:=λpins s σ H x xs v us Q I rx rv h=>zzr pins s σ H x xs v us Q I rx rv h
theorem z3l{apos:Pos}(C:Ctx3 P w K mg base k X)(ho:E3 K X O a fa)(hb:E3 K X O b fb)(hbase:∀i,Mj a "join" (X i).env (eval a (X i).env)=eval a (X i).env:=by intro i;rfl)
 (hfew:∀i,((Mi pos (Tq [b] (X i).env)).all (λx=>!x.1) && (Np pos (MG [] (X i).env)).all (λx=>x.1.isSome) && decide (([b]:List Expr).length+([]:List M7).length+(if([]:List M7).isEmpty then 0 else 1)<30))=true:=by intro i;rfl)
 (hline:(apos.endLine == pos.line)=true:=by rfl) (hs:∀i,Tq [b] (X i).env = [(false,eval b (X i).env)]:=by intro i;rfl):E3 K X O (.Call (.Attribute a "join" apos) [b] [] pos) (zyt fa fb) :=
 let ⟨_,p1,d1⟩:=ho;let ⟨_,p2,d2⟩:=hb;⟨tBM K "str" zjp _ (za0 _ tNil),λi=>by
  have h:=zgb (apos:=apos) (cpos:=pos) JQ Ua Ub (zm0 (X:=X i)) (p1 i) (za3 (p2 i) zbs (hs i)) (hbase i) (hfew i) hline (hs i);rw[C.hK] at h
  exact h,λj=>zy8 (d1 j) (d2 j)⟩
theorem zbf{k' n:Nat}(C:Ctx3 P w K mg base k X)(D:Def3 P w K mg base k' x ps (spO K φ n F))(hφ:∀j,φ (O j))(ha:A3 K X O (a::es) ga)(hk:k'<=k:=by decide)(hg:∀i,Gl (X i) x:=by intro i;rfl)
 (hdb:(x == ("__debug__" : Str))=false:=by decide) (he:∀i,Tq (a::es) (X i).env=(false,eval a (X i).env)::Tq es (X i).env:=by intro i;rfl) (hpl:∀i,(Mi pos (Tq es (X i).env)).any (·.1)=false:=by intro i;rfl):E3 K X O (.Call (.Name x p) (a::es) [] pos) (calD n F ga):=by
 obtain⟨f,fd,G,m,kp,bn⟩:=D.ex;obtain⟨t,q,d⟩:=ha;refine⟨zds (spO K φ n F) [] E0 t,λi=>?_,λj=>z0z (hφ j) (d j)⟩;have G':FnOk (X i).prog (X i).w (X i).K (X i).mg (X i).base CX0 k f fd ps (spO K φ n F):=by rw[C.hP,C.hw,C.hK,C.hmg,C.hb];exact G.mono hk
 exact zfg G' (C.room i) (hg i) (by rw[C.hmg];exact m) (by rw[C.hK];exact kp) (by rw[C.hK];exact bn) .nil zix (q i) hdb (he i) (hpl i)
theorem zap{k' n:Nat}(v:Nat)(C:Ctx3 P w K mg base k X)(D:Def3 P w K mg base k' x ps (spD K φ n F))(hφ:∀j,φ (O j))(ha:A3 K X O es ga)(hk:k'<=k:=by decide)(hg:∀i,Gl (X i) x:=by intro i;rfl)
 (hN:∀i,(X i).N[v]? = some y:=by intro i;rfl) (hv:∀i,Vis (X i).env.scope y:=by intro i;first|exact Or.inl rfl|exact Or.inr (Or.inl rfl)|exact Or.inr (Or.inr rfl)) (hd:(y == ("__debug__" : Str))=false:=by decide) (hcd:(y == ("__classdict__" : Str))=false:=by decide)
 (hdb:(x == ("__debug__" : Str))=false:=by decide) (he:∀i,Tq (.Name y py::es) (X i).env=(false,eval (.Name y py) (X i).env)::Tq es (X i).env:=by intro i;rfl) (hpl:∀i,(Mi pos (Tq es (X i).env)).any (·.1)=false:=by intro i;rfl) :
 E3 K X O (.Call (.Name x p) (.Name y py::es) [] pos) (calO v n F ga):=by
 obtain⟨f,fd,G,m,kp,bn⟩:=D.ex;obtain⟨t,q,d⟩:=ha;refine⟨zds (spD K φ n F) [] E0 (za0 (tVar v) t),λi=>?_,λj=>zwr (hφ j) (d j)⟩;have G':FnOk (X i).prog (X i).w (X i).K (X i).mg (X i).base CX0 k f fd ps (spD K φ n F):=by rw[C.hP,C.hw,C.hK,C.hmg,C.hb];exact G.mono hk
 exact zfg G' (C.room i) (hg i) (by rw[C.hmg];exact m) (by rw[C.hK];exact kp) (by rw[C.hK];exact bn) .nil zix (za3 (zam (hN i) (hv i) hd hcd) (q i) (he i)) hdb (he i) (hpl i)
theorem zdt(C:Ctx3 P w K mg base k X)(ha:E3 K X O a fa):I3 K X O tg a (srcL fa):=let ⟨_,p,d⟩:=ha;⟨zex K _,λi=>by have h:=zfi (tg:=tg) (p i);rw[C.hK] at h;exact h,λj=>zv3 (d j)⟩
theorem zrq(C:Ctx3 P w K mg base k X)(ha:E3 K X O a fa):I3 K X O tg a (srcT fa):=let ⟨_,p,d⟩:=ha;⟨iTup K _,λi=>by have h:=z2t (tg:=tg) (p i);rw[C.hK] at h;exact h,λj=>z0y (d j)⟩
theorem zrs(ha:E3 K X O a fa):I3 K X O tg a (srcS fa):=let ⟨_,p,d⟩:=ha;⟨_,λi=>z4z (p i),λj=>zzj (d j)⟩
theorem i_r1(C:Ctx3 P w K mg base k X)(B:Blt mg)(ha:A3 K X O [a] ga)(hg:∀i,Gl (X i) "range" := by intro i;rfl)(hs:∀i,Tq [a] (X i).env = [(false,eval a (X i).env)]:=by intro i;rfl):I3 K X O tg (.Call (.Name "range" p) [a] [] pos) (zx7 ga) :=
 let ⟨_,q,d⟩:=ha;⟨_,λi=>zk1 (hg i) (by rw[C.hmg];exact B.range) (q i) (hs i),λj=>zxe (d j)⟩
theorem zb6(h:I3 K X O tg a fi):J3 K X O tg a (newJ fi):=let ⟨_,p,d⟩:=h;⟨_,p,λj=>z2b (d j)⟩
theorem zyb(C:Ctx3 P w K mg base k X)(n:Nat)(hN:∀i,(X i).N[n]? = some x:=by intro i;rfl)(hv:∀i,Vis (X i).env.scope x:=by intro i;first|exact Or.inl rfl|exact Or.inr (Or.inl rfl)|exact Or.inr (Or.inr rfl))(hd:(x == ("__debug__" : Str))=false:=by decide)(hcd:(x == ("__classdict__" : Str))=false:=by decide):
 J3 K X O tg (.Name x pos) (varJ n):=⟨zex K (tVar n),λi=>by have h:=zfi (tg:=tg) (X:=X i) (zam (pos:=pos) (hN i) (hv i) hd hcd);rw[C.hK] at h;exact h,λj=>zwl⟩
theorem za9{h:Nat}(n:Nat)(hlt:n<h:=by decide)(hN:∀i,(X i).N.Nodup:=by intro i;exact jB (by kernel_rfl))(hi:∀i,(X i).N[n]? = some x:=by intro i;rfl)(hx:∀i,Loc (X i).env.scope x:=by intro i;first|exact Or.inl rfl|exact Or.inr rfl)
 (hf:∀i,(X i).fn x=true\/(X i).env.scope.names.lookup x=some .local:=by intro i;first|exact .inl rfl|exact .inr rfl):G3 K X h (.Name x pos) (gN n):=⟨_,λi=>zec (hN i) (hi i) (hx i) (hf i),λ_=>z0i,λ_=>zzc,zeg hlt⟩
def Gs3{ι:Type}(K:Qa)(X:ι->Cx)(h:Nat)(es:List Expr)(is:List Nat):Prop:=∃t,(∀i,PGs (X i) es t)/\(∀O:Ob,GSs K O t is)/\(∀O:Ob,GRs K O t is)/\zjo h t/\zju t
theorem zcp{h:Nat}:Gs3 K X h [] []:=⟨_,λi=>z0s,λ_=>zy6,λ_=>z0j,zzn,z1c⟩
theorem zaq{h:Nat}{is:List Nat}(n:Nat)(hr:Gs3 K X h es is)(hlt:n<h:=by decide)(hN:∀i,(X i).N.Nodup:=by intro i;exact jB (by kernel_rfl))(hi:∀i,(X i).N[n]? = some x:=by intro i;rfl)(hx:∀i,Loc (X i).env.scope x:=by intro i;first|exact Or.inl rfl|exact Or.inr rfl)
 (hf:∀i,(X i).fn x=true\/(X i).env.scope.names.lookup x=some .local:=by intro i;first|exact .inl rfl|exact .inr rfl) (hs:∀i,(Ma (.Name x pos::es) (X i).env).map (·.2)=MZ (.Name x pos) (X i).env::(Ma es (X i).env).map (·.2):=by intro i;rfl):Gs3 K X h (.Name x pos::es) (n::is) :=
 let ⟨_,p,d1,d2,o,m⟩:=hr;⟨_,λi=>zx0 (zec (hN i) (hi i) (hx i) (hf i)) (p i) (hs i),λO=>zw6 (d1 O),λO=>zv7 (d2 O),zxy zmu m (zeg hlt) o,zwi zmu m⟩
theorem zgl{h n:Nat}{is:List Nat}{j:Nat}(C:Ctx3 P w K mg base k X)(hr:Gs3 K X h es is)(hn:is.length=n:=by rfl)(hn2:∀i,(Ma es (X i).env).length=n:=by intro i;rfl)(hst:∀i,(Ma es (X i).env).findIdx? (·.1)=none:=by intro i;rfl):G3 K X h (.Tuple es j pos) (gT is) :=
 let ⟨_,p,d1,d2,o,m⟩:=hr;⟨_,λi=>by have z:=zs9 (pos:=pos) (k:=j) (C.calm i) (p i) (hn2 i) (hst i);rw[C.hK] at z;exact z,λO=>z5d hn (d1 O),λO=>z3f hn (d2 O),z1s o⟩
theorem zl4{n:Int}{j:Nat}: E3 K X O (.UnaryOp .USub (.Constant (.int n) j p2) pos) (cD (.int (-n))):=⟨tUn (rU λi=>.int (-i)) (tC (.int n)),λi=>z6o z4p za5,λ_ σ H ρ Q Qd S h kk=>⟨n,rfl,kk _ H (.o _) (.refl _ _) (Is.int _) h⟩⟩
theorem zd3: F3 K X O' [] yesD:=⟨_,λi=>znl,λj σ H ρ Q Qd S h k=>k true H (.refl _ _) h⟩
theorem zy4(h:T3 K X O c ft):F3 K X O [c] ft:=let ⟨_,p,d⟩:=h;⟨_,λi=>zu8 (p i),d⟩
theorem zcx{iter:Expr}{scope:Mn}(h:Nat)(N':List Str)(C:Ctx3 P w K mg base k X)(S:∀i,ScopeOk h N' (X i).N scope (X i).env.scope)(hs:I3 K X O tg iter fi)
 (hg:G3 K (zge X scope N') h tg g) (hf:F3 K (zge X scope N') (zjh O) ifs ft) (he:E3 K (zge X scope N') (zjh O) elt fe) (hset:∀i x,Mh iter (X i).env x=pure x:=by intro _ _;rfl) :
 E3 K X O (.ListComp elt [⟨tg,iter,ifs,0⟩] scope pos) (zqx h fi g ft fe):=by
 obtain⟨ti,p1,d1⟩:=hs;obtain⟨tg',p2,d2,_,ow⟩:=hg;obtain⟨tf,p3,d3⟩:=hf;obtain⟨te,p4,d4⟩:=he;exact⟨_,λi=>zkh h (S i) (C.calm i) (p1 i) (λc s H ex=>p2 (i,⟨c,s,H,ex⟩)) ow (λc s H ex=>p3 (i,⟨c,s,H,ex⟩)) (λc s H ex=>p4 (i,⟨c,s,H,ex⟩)) (hset i),λj=>zo2 (d1 j) d2 (λD xs nm=>d3 ⟨(j,(D,xs)),nm⟩) λD xs nm=>d4 ⟨(j,(D,xs)),nm⟩⟩
variable {st:Stmt}{sts:List Stmt}{g1 g2:DS}{ft:DT}
theorem za4:Ss3 K X O [] (λDd ρ=>Dd.nx ρ):=⟨_,λi=>zql,λj=>z1z⟩
theorem zaj(h:S3 K X O st g1):Ss3 K X O [st] g1:=let ⟨_,p,d⟩:=h;⟨_,λi=>zdo (p i),d⟩
theorem zaf(h:S3 K X O st g1)(h':Ss3 K X O sts g2):Ss3 K X O (st::sts) (seqD g1 g2):=let ⟨_,p,d⟩:=h;let ⟨_,p2,d2⟩:=h';⟨_,λi=>zbo (p i) (p2 i),λj=>z3k (d j) (d2 j)⟩
theorem zav(ha:E3 K X O a fa):S3 K X O (.Return (some a) pos) (retS fa):=let ⟨_,p,d⟩:=ha;⟨_,λi=>zfm (p i),λj=>z2r (d j)⟩
theorem zt1(n:Nat)(hN:∀i,(X i).N[n]? = some x:=by intro i;rfl)(hv:∀i,Vis (X i).env.scope x:=by intro i;first|exact Or.inl rfl|exact Or.inr (Or.inl rfl)|exact Or.inr (Or.inr rfl))(hd:(x == ("__debug__" : Str))=false:=by decide)(hcd:(x == ("__classdict__" : Str))=false:=by decide):
 S3 K X O (.Return (some (.Name x px)) pos) (retO n):=⟨_,λi=>zfm (zam (hN i) (hv i) hd hcd),λj=>zun⟩
theorem s_if(hc:T3 K X O c ft)(h:Ss3 K X O sa g1)(h':Ss3 K X O sb g2):S3 K X O (.If c sa sb pos) (ifS ft g1 g2):=let ⟨_,p,d⟩:=hc;let ⟨_,p1,d1⟩:=h;let ⟨_,p2,d2⟩:=h';⟨_,λi=>zyd (p i) (p1 i) (p2 i),λj=>z7c (d j) (d1 j) (d2 j)⟩
theorem zat(n:Nat)(ha:E3 K X O a fa)(hN:∀i,(X i).N.Nodup:=by intro i;exact jB (by kernel_rfl))(hi:∀i,(X i).N[n]? = some x:=by intro i;rfl)(hx:∀i,Loc (X i).env.scope x:=by intro i;first|exact Or.inl rfl|exact Or.inr rfl)
 (hs:∀i,M1 a (some (.Name x px)) pos.line (X i).env=pure false:=by intro i;rfl) (hf:∀i,(X i).fn x=true\/(X i).env.scope.names.lookup x=some .local:=by intro i;first|exact .inl rfl|exact .inr rfl):S3 K X O (.Assign [.Name x px] a pos) (asgS n fa) :=
 let ⟨_,p,d⟩:=ha;⟨_,λi=>zdi (hN i) (hi i) (hx i) (p i) (hs i) (hf i),λj=>ztx (d j)⟩
theorem z3a(n:Nat){iter:Expr}{scope:Mn}(h:Nat)(N':List Str)(C:Ctx3 P w K mg base k X)(S:∀i,ScopeOk h N' (X i).N scope (X i).env.scope)(hs:I3 K X O tg iter fi)
 (hg:G3 K (zge X scope N') h tg g) (hf:F3 K (zge X scope N') (zjh O) ifs ft) (he:E3 K (zge X scope N') (zjh O) elt fe) (hN:∀i,(X i).N.Nodup:=by intro i;exact jB (by kernel_rfl)) (hi:∀i,(X i).N[n]? = some x:=by intro i;rfl) (hx:∀i,(X i).env.scope.names.lookup x=some .local:=by intro i;rfl)
 (hsw:∀i,M1 (.ListComp elt [⟨tg,iter,ifs,0⟩] scope p0) (some (.Name x px)) pos.line (X i).env=pure true:=by intro i;rfl) (hset:∀i x,Mh iter (X i).env x=pure x:=by intro _ _;rfl) :
 S3 K X O (.Assign [.Name x px] (.ListComp elt [⟨tg,iter,ifs,0⟩] scope p0) pos) (asgS n (zqx h fi g ft fe)):=by
 obtain⟨ti,p1,d1⟩:=hs;obtain⟨tg',p2,d2,_,ow⟩:=hg;obtain⟨tf,p3,d3⟩:=hf;obtain⟨te,p4,d4⟩:=he;exact⟨_,λi=>zi1 (hN i) (hi i) (hx i) (hsw i) h (S i) (C.calm i) (p1 i) (λc s H ex=>p2 (i,⟨c,s,H,ex⟩)) ow (λc s H ex=>p3 (i,⟨c,s,H,ex⟩)) (λc s H ex=>p4 (i,⟨c,s,H,ex⟩)) (hset i),λj=>ztx (zo2 (d1 j) d2 (λD xs nm=>d3 ⟨(j,(D,xs)),nm⟩) λD xs nm=>d4 ⟨(j,(D,xs)),nm⟩)⟩
theorem zrx{X:Cx}:MtR X "list.append" zhn:=λpins s σ H x xs v us Q I rx rv h=>zk2 pins s σ H x xs v us Q I rx rv h
theorem zer(n:Nat){apos cpos:Pos}(C:Ctx3 P w K mg base k X)(hb:E3 K X O b fb)(hN:∀i,(X i).N[n]? = some x:=by intro i;rfl)(hv:∀i,Vis (X i).env.scope x:=by intro i;first|exact Or.inl rfl|exact Or.inr (Or.inl rfl)|exact Or.inr (Or.inr rfl))(hd:(x == ("__debug__" : Str))=false:=by decide)(hcd:(x == ("__classdict__" : Str))=false:=by decide)
 (hbase:∀i,Mj (.Name x px) "append" (X i).env (eval (.Name x px) (X i).env)=eval (.Name x px) (X i).env:=by intro i;rfl)
 (hfew:∀i,((Mi cpos (Tq [b] (X i).env)).all (λx=>!x.1) && (Np cpos (MG [] (X i).env)).all (λx=>x.1.isSome) && decide (([b]:List Expr).length+([]:List M7).length+(if([]:List M7).isEmpty then 0 else 1)<30))=true:=by intro i;rfl)
 (hline:(apos.endLine == cpos.line)=true:=by rfl) (hs:∀i,Tq [b] (X i).env = [(false,eval b (X i).env)]:=by intro i;rfl) (hsw:∀i,M1 (.Call (.Attribute (.Name x px) "append" apos) [b] [] cpos) none pos.line (X i).env=pure false:=by intro i;rfl) :
 S3 K X O (.Expr (.Call (.Attribute (.Name x px) "append" apos) [b] [] cpos) pos) (appS n fb):=let ⟨_,p2,d2⟩:=hb;
 ⟨zd2 (tBM K "list" zhn (tVar n) (za0 _ tNil)),λi=>by
  have h:=zgb (apos:=apos) (cpos:=cpos) Jv PySem.F.slot_list_append PySem.F.type_list_append (zrx (X:=X i)) (zam (pos:=px) (hN i) (hv i) hd hcd) (za3 (p2 i) zbs (hs i)) (hbase i) (hfew i) hline (hs i);rw[C.hK] at h
  exact zhx h (hsw i),λj=>zsx (d2 j)⟩
theorem znh{X:Cx}(h:X.xe=λ_ _=>False):PassesOwn (model X.prog X.w) X.A X.env X.xe:=by rw[h];exact VY
theorem zbz{iter:Expr}{body:List Stmt}{hh:Nat}(C:Ctx3 P w K mg base k X)(hi:J3 K X O tg iter fj)(hg:G3 K X hh tg g)(hb:Ss3 K X O body g1)(hs:∀i x,Mh iter (X i).env x=pure x:=by intro _ _;rfl):S3 K X O (.For tg iter body [] pos) (forS fj g g1):=by
 obtain⟨ti,p1,d1⟩:=hi;obtain⟨tg',p2,_,d2,_⟩:=hg;obtain⟨tb,p3,d3⟩:=hb;exact⟨_,λi=>zvf (znh (C.xe i)) (C.calm i) (p1 i) (p2 i) (p3 i) (hs i),λj=>z3j (d1 j) (d2 (O j)) (d3 j)⟩
end
theorem len1(hl:us.length=1)(h:∀u0,My fd ⟨[u0],[]⟩=pure ([p0].zip [u0])):My fd ⟨us,[]⟩=pure ([p0].zip us):=by
 match us,hl with
 | [u0],_=>exact h u0
theorem len2(hl:us.length=2)(h:∀u0 u1,My fd ⟨[u0,u1],[]⟩=pure ([p0,p1].zip [u0,u1])):My fd ⟨us,[]⟩=pure ([p0,p1].zip us):=by
 match us,hl with
 | [u0,u1],_=>exact h u0 u1
theorem len3(hl:us.length=3)(h:∀u0 u1 u2,My fd ⟨[u0,u1,u2],[]⟩=pure ([p0,p1,p2].zip [u0,u1,u2])):My fd ⟨us,[]⟩=pure ([p0,p1,p2].zip us):=by
 match us,hl with
 | [u0,u1,u2],_=>exact h u0 u1 u2
theorem len4(hl:us.length=4)(h:∀u0 u1 u2 u3,My fd ⟨[u0,u1,u2,u3],[]⟩=pure ([p0,p1,p2,p3].zip [u0,u1,u2,u3])):My fd ⟨us,[]⟩=pure ([p0,p1,p2,p3].zip us):=by
 match us,hl with
 | [u0,u1,u2,u3],_=>exact h u0 u1 u2 u3
section
variable {P:Tr}{w:Tt}{K:Qa}{mg:Str->Option Tn}{base:Heap}{k n:Nat}{x:Str}{st:Stmt}{N ps:List Str}{φ:Ob->Prop}{F:List Tl->(R->Prop)->Prop}
abbrev zdf(P:Tr)(w:Tt)(K:Qa)(mg:Str->Option Tn)(base:Heap)(N:List Str)(x:Str)(sc:Mn)(f:Addr)(cdv:Tn)(A:Tv)(outer:List Env)(s:To)(H:Hp)(E:XK):Unit->Cx:=λ_=>(cxOf CX0 P w K mg base N x sc f cdv A outer s H E).nox
theorem zf7{outer:List Env}(hr:Room k (A.deeper (N4 x sc s.heap.objs.size f cdv))):Ctx3 P w K mg base k (zdf P w K mg base N x sc f cdv A outer s H E) :=
 ⟨λ_=>rfl,λ_=>rfl,λ_=>rfl,λ_=>rfl,λ_=>rfl,λ_=>rfl,λ_=>hr,λ_=>rfl⟩
theorem mk_O(T:Top3 K mg x st)(S:FnScope N ps (zai st))(hb:∀(kV doc pm:Tn) (an:Option Addr) (cdv ct:Tn) (us:List Tn),us.length=ps.length->My (Jd x x (zci st) (zbp st) (zai st) .none kV doc pm an cdv ct) ⟨us,[]⟩=pure (ps.zip us))(hn:ps.length=n)
 (body:∀(f:Addr) (cdv:Tn) (A:Tv) (outer:List Env) (s:To) (H:Hp) (E:XK) (O:Ob),φ O->Ctx3 P w K mg base k (zdf P w K mg base N x (zai st) f cdv A outer s H E) ->
  ∃g,Ss3 K (zdf P w K mg base N x (zai st) f cdv A outer s H E) (λ_:Unit=>O) (zbp st) g/\∀ds Qr,ds.length=n->F ds Qr->g { nx:=λ_=>Qr (.o .none),rt:=Qr } (zdu N (ds.map .im))):Def3 P w K mg base (k+1) x ps (spO K φ n F):=by
 obtain⟨f,fd,Fu,m⟩:=T.ex;refine⟨f,fd,Fu.ok S (z0k hn) (λcdv A outer s H vs Q E hr h=>?_),m,Fu.kp,Fu.binds hb⟩;obtain⟨O,ds,Qr,ok,hφ,p,hl,is,q,kk⟩:=h;obtain⟨g,⟨t,h1,h2⟩,h3⟩:=body f cdv A outer s H E O hφ (zf7 hr);exact⟨t,h1 (),z6e (h2 ()) ok p is (h3 ds Qr hl q) kk⟩
theorem mk_D(T:Top3 K mg x st)(S:FnScope N ps (zai st))(hb:∀(kV doc pm:Tn) (an:Option Addr) (cdv ct:Tn) (us:List Tn),us.length=ps.length->My (Jd x x (zci st) (zbp st) (zai st) .none kV doc pm an cdv ct) ⟨us,[]⟩=pure (ps.zip us))(hn:ps.length=n+1)
 (body:∀(f:Addr) (cdv:Tn) (A:Tv) (outer:List Env) (s:To) (H:Hp) (E:XK) (O:Ob),φ O->Ctx3 P w K mg base k (zdf P w K mg base N x (zai st) f cdv A outer s H E) ->
  ∃g,Ss3 K (zdf P w K mg base N x (zai st) f cdv A outer s H E) (λ_:Unit=>O) (zbp st) g/\∀ds Qr,ds.length=n->F ds Qr->g { nx:=λ_=>Qr (.o .none),rt:=Qr } (zdu N (.ob::ds.map .im))):Def3 P w K mg base (k+1) x ps (spD K φ n F):=by
 obtain⟨f,fd,Fu,m⟩:=T.ex;refine⟨f,fd,Fu.ok S (zo9 hn) (λcdv A outer s H vs Q E hr h=>?_),m,Fu.kp,Fu.binds hb⟩;obtain⟨O,ds,ws,Qr,ok,hφ,p,hl,rfl,is,q,kk⟩:=h;obtain⟨g,⟨t,h1,h2⟩,h3⟩:=body f cdv A outer s H E O hφ (zf7 hr);exact⟨t,h1 (),z6j (h2 ()) ok p is (h3 ds Qr hl q) kk⟩
end
structure PotStp(a l:Addr)(H H':Hp):Prop where
 oth:∀b,b≠a->b≠l->H' b=H b
theorem PotStp.refl(a l:Addr)(H:Hp):PotStp a l H H:=⟨λ_ _ _=>rfl⟩
theorem PotStp.trans(x:PotStp a l H H1)(y:PotStp a l H1 H2):PotStp a l H H2:=⟨λb h1 h2=>(y.oth b h1 h2).trans (x.oth b h1 h2)⟩
theorem PotStp.upA(o:HO):PotStp a l H (upd H a o):=⟨λb h1 _=>zae h1⟩
theorem PotStp.upL(o:HO):PotStp a l H (upd H l o):=⟨λb _ h2=>zae h2⟩
abbrev lenR(K:Qa):List V->Hp->VK->Prop:=λxs H Q=>∃x n,xs = [x]/\LenV K x H n/\Q (.int n) H
def zcz:List Tl->(R->Prop)->Prop:=λds Q=>∃m:Int,ds = [.int m]/\0<m/\m<1073741824/\∀k,0<=k->k<m->Q (.o (.int k))
theorem zub: MtR X "list.pop" zi8:=λpins s σ H x xs v us Q I rx rv h=>zxg pins s σ H x xs v us Q I rx rv h
theorem zxu(ns:List Int)(lo hi:Option Int):cutV (ns.map V.int) lo hi=(cutL ns lo hi).map V.int:=by
 unfold cutV cutL;rw[Qc,V9,U5]
def abc:List Nat:=(QH 26).map (· + 97)
def zet(c:Nat):Prop:=97<=c/\c<123
theorem zln:∀(l:List Nat) (acc:Array Nat),(l.map sg).foldl (λacc p=>acc++(QS "").cps++p.cps) acc=acc++l.toArray
 | [],acc=>by simp
 | c::r,acc=>by
   rw[Qu,Jx,zln r];have e:(QS "").cps = #[]:=by decide +kernel
   rw[e];apply YM.mp;simp[sg]
theorem zp8(w:List Nat):GL "" (w.map sg)=tx w:=by
 cases w with
 | nil=>decide +kernel
 | cons c r=>
   show UP (QS "") (sg c::r.map sg)=tx (c::r);unfold UP;show(⟨(r.map sg).foldl _ (sg c).cps⟩:Str)=_;rw[zln];unfold tx sg
   congr 1
   apply YM.mp;simp
theorem z2m(c:Nat):(sg c).length=1:=rfl
theorem zu0(w:List Nat):((w.map sg).map (·.length)).sum=w.length:=by
 induction w with
 | nil=>rfl
 | cons c r ih=>rw[Qu,Qu,J0,ih,z2m,Q3];lia
theorem unsg:∀{zs:List Str},(∀z∈zs,∃c,z=sg c/\zet c)->∃w:List Nat,zs=w.map sg/\∀c∈w,zet c
 | [],_=>⟨[],rfl,by simp⟩
 | z::zs,h=>by
   obtain⟨c,rfl,hc⟩:=h z Qp;obtain⟨w,rfl,hw⟩:=unsg (zs:=zs) λy hy=>h y (Qf _ hy);exact⟨c::w,rfl,λd hd=>by rcases Qs.mp hd with e|e;(rw[e];exact hc);exact hw d e⟩
theorem zld{α β:Type}(f:α->β):∀(l:List α) (i:Nat),(l.map f).eraseIdx i=(l.eraseIdx i).map f
 | [],_=>rfl
 | _::_,0=>rfl
 | a::l,i+1=>by rw[Qu,Y2,Y2,Qu,zld f l i]
theorem zn4{α:Type}{l:List α}{i:Nat}{x:α}(h:x∈l.eraseIdx i):x∈l:=List.mem_of_mem_eraseIdx h
theorem zlk{α:Type}:∀{l:List α} {i:Nat} (h:i<l.length),([l[i]]++l.eraseIdx i).Perm l
 | a::l,0,_=>.refl _
 | a::l,i+1,h=>by
   have h':i<l.length:=by simpa using h
   have ih:=zlk (l:=l) (i:=i) h';show(l[i]::a::l.eraseIdx i).Perm (a::l);exact(GM a l[i] _).trans (List.Perm.cons a ih)
theorem z2n{a b:Nat}(h:sg a=sg b):a=b:=by
 have:=jF (λx:Str=>x.cps.toList) h;simpa[sg] using this
theorem zh4:∀{w:List Nat} {x:Nat},risingS (sg x) (w.map sg)=true->(∀c∈w,x<=c)/\w.Pairwise (·<=·)
 | [],_,_=>⟨λ_ h=>(nomatch h),.nil⟩
 | y::r,x,h=>by
   have h:(!(decide (y<x) || (y == x && false)) && risingS (sg y) (r.map sg))=true:=h;rw[GI,GW,Qx,YA,jK] at h;obtain⟨h1,h2⟩:=zh4 (w:=r) (x:=y) h.2;refine⟨λc hc=>?_,.cons h1 h2⟩;rcases Qs.mp hc with rfl|hc
   .lia
   .have:=h1 c hc;lia
theorem zr8:∀{w:List Nat},NW (w.map sg)=true->w.Nodup->w.Pairwise (· < ·)
 | [],_,_=>.nil
 | x::r,h,hn=>by
   obtain⟨h1,h2⟩:=zh4 (w:=r) (x:=x) h;obtain⟨n1,n2⟩:=Jh.mp hn;refine .cons (λc hc=>UC (h1 c hc) λe=>n1 (e ▸ hc)) ?_;exact(List.Pairwise.and h2 n2).imp λ⟨a,b⟩=>UC a b
theorem zd9{neg:Bool}(hx:Zu x=true)(hy:Zu y=true):eqF neg (.str x) (.str y)=some (.o (.bool (if neg then !(x == y) else x == y))):=by
 unfold eqF;rw[j7 (by simp[okD,Z9,QO,hx,hy])];rfl
theorem ziw{w:List Nat}(h:tx v=tx w):v=w:=by
 have:=jF (λx:Str=>x.cps.toList) h;simpa[tx] using this
theorem zmk(v w:List Nat):(tx v == tx w)=decide (v=w):=by
 by_cases e:v=w
 .subst e;simp
 .rw[jA e];exact beq_eq_false_iff_ne.mpr λh=>e (ziw h)
theorem zp4{neg:Bool}{i j:Int}:eqF neg (.int i) (.int j)=some (.o (.bool (if neg then !decide (i=j) else decide (i=j)))):=by
 unfold eqF;have e:(okD (YN i) && (YN j).canLay0)=true:=by simp[okD,Z9,QO]
 rw[j7 e];rfl
theorem zo6{α:Type}{enc:α->Tl}{i:Nat}{fe:DE}{ρ:DSt}{Q:List Tl->Prop}{as:List α}{e:α->Tl}{h:Nat}(step:∀a∈as,∀P:R->Prop,(∀r,r.d=e a->P r)->fe ((QG h none++ρ).set i (some (.im (enc a)))) P)(hz:as.length<=sizeLine)(q:Q (as.map e)):
 zbg h (gN i) yesD fe ρ Q (as.map enc) []:=by
 have key:∀(as:List α) (acc:List Tl),(∀a∈as,∀P:R->Prop,(∀r,r.d=e a->P r)->fe ((QG h none++ρ).set i (some (.im (enc a)))) P)->acc.length+as.length<=sizeLine->Q (acc++as.map e)->zbg h (gN i) yesD fe ρ Q (as.map enc) acc:=by
  intro as
  induction as with
  | nil=>intro acc _ _ q;show Q acc;simpa using q
  | cons a as ih=>
    intro acc st hz q;rw[Q3] at hz;refine st a Qp _ λr hr=>?_;refine⟨by lia,?_⟩;rw[hr];exact ih (acc ++ [e a]) (λa' ha=>st a' (Qf _ ha)) (by rw[Qq];simp;lia) (by simpa using q)
 exact key as [] step (by simpa using hz) (by simpa using q)
theorem zay(J:Nat->DSt->Prop)(h0:J 0 ρ)(fin:∀ρ,J ds.length ρ->Dd.nx ρ)
 (step:∀(j:Nat) d ρ (N:DSt->Prop),ds[j]? = some d->(∀ρ',J (j+1) ρ'->N ρ')->J j ρ->flat d=true/\g d ρ λρ2=>gb { Dd with nx:=N,ct:=N,bk:=Dd.nx } ρ2):zgm g gb Dd ds ρ:=by
 have key:∀(k j:Nat),j+k=ds.length->∀ρ,J j ρ->zgm g gb Dd (ds.drop j) ρ:=by
  intro k
  induction k with
  | zero=>
    intro j hj ρ h;rw[JR (by lia)];have e:j=ds.length:=by lia
    rw[e] at h;exact fin ρ h
  | succ k ih=>
    intro j hj ρ h;have hlt:j<ds.length:=by lia
    rw[Zx hlt];exact step j ds[j] ρ _ (Qg hlt) (λρ' h'=>ih (j+1) (by lia) ρ' h') h
 have:=key ds.length 0 (by lia) ρ h0;simpa using this
theorem zey(lo:Int)(n:Nat):(zf8 lo n).length=n:=by simp[zf8]
theorem zpv(w:List Nat):(sgs (tx w)).length=w.length:=by simp[sgs,tx]
theorem zp5{w:List Nat}{j:Nat}{d:Tl}(h:(sgs (tx w))[j]? = some d):∃c,w[j]? = some c/\d = .str (sg c):=by
 unfold sgs at h;rw[zck,Qj] at h;obtain⟨c,hc,rfl⟩:=Qw.mp h;exact⟨c,hc,rfl⟩
theorem zan{α:Type}{f:α->Tl}(h:∀a,flat (f a)=true):∀l:List α,flats (l.map f)=true
 | []=>rfl
 | a::l=>by rw[Qu,flats,h a,zan h l];rfl
abbrev LowW(w:List Nat):Prop:=∀c∈w,zet c
theorem zdg(w:List Nat):(tx w).length=w.length:=by simp[tx,U9]
theorem zgx{w:List Nat}(h:w.length<=16777216):lenF [.str (tx w)]=some (.o (.int w.length)):=by
 unfold lenF;dsimp only;rw[zdg,j7 (by rw[Ts];exact h)]
theorem zof{w:List Nat}{k:Nat}(h:k<w.length)(hl:w.length<=16777216):idxF (.str (tx w)) (.int (k:Nat))=some (.o (.str (tx [w[k]]))):=by
 unfold idxF;dsimp only;rw[zdg,j7 (by rw[Ts];exact hl),zck,zkr (v:=w[k]) (by rw[Qg h])];rfl
theorem znf{w:List Nat}(h:v.length+w.length<=16777216):addF (.str (tx v)) (.str (tx w))=some (.o (.str (tx (v++w)))):=by
 unfold addF;dsimp only;rw[zdg,zdg,j7 (by rw[Ts];exact h)]
 have e:tx v++tx w=tx (v++w):=by
  show Str.mk _=Str.mk _;simp[tx]
 rw[e]
theorem zp0(n d m:Nat):HT.sIx n d (some (m:Int))=min m n:=by
 have:=zia n d (m:Int);rw[j8 (by lia)] at this;lia
theorem znc(n d:Nat):HT.sIx n d none=d:=rfl
theorem zfe{α:Type}(xs:List α)(m:Nat):cutL xs none (some (m:Int))=xs.take m:=by
 unfold cutL;rw[zp0,znc,Y9,UO,Uc,Nat.min_assoc,Nat.min_self,<- Uc]
theorem zf9{α:Type}(xs:List α)(m:Nat):cutL xs (some (m:Int)) none=xs.drop m:=by
 unfold cutL;rw[zp0,znc];rcases Nat.le_total m xs.length with h|h
 .rw[GA h,Je (by rw[Z8];exact Qh _)]
 .rw[Nat.min_eq_right h,JR (Qh _),JR h,GY]
theorem zsf{v:List Nat}{lo hi:Option Int}(h:v.length<=16777216):slcF lo hi (.str (tx v))=some (.o (.str (tx (cutL v lo hi)))):=by
 unfold slcF;dsimp only;rw[zdg,zck,j7 (by rw[Ts];exact h)]
theorem zuo{o:Nat}{m:Int}(hρ:ρ[o]? = some (some .ob))(h0:0<m)(h1:m<1073741824)(q:∀k:Nat,(k:Int)<m->Q (.o (.int (k:Nat)))):calO o 1 zcz (za7 (cD (.int m)) aNil) ρ Q:=by
 refine⟨hρ,rfl,m,rfl,h0,h1,λk k0 k1=>?_⟩;have:=q k.toNat (by lia);rwa [show((k.toNat:Nat):Int)=k by lia] at this
theorem zxn{o i:Nat}{d:Tl}{n:Nat}(hρ:ρ[o]? = some (some .ob))(hi:ρ[i]? = some (some v))(hv:seeR v=some d)(hl:lenF [d]=some (.o (.int (n:Nat))))(h0:0<n)(h1:n<1073741824)(q:∀k:Nat,k<n->Q (.o (.int (k:Nat)))):
 calO o 1 zcz (za7 (zb4 (fn1 lenF) (za7 (vD i) aNil)) aNil) ρ Q:=by
 refine⟨hρ,_,_,hi,hv,_,hl,rfl,_,rfl,by lia,by lia,λk k0 k1=>?_⟩;have:=q k.toNat (by lia);rwa [show((k.toNat:Nat):Int)=k by lia] at this
theorem zlg{o i:Nat}(hρ:ρ[o]? = some (some .ob))(hi:ρ[i]? = some (some (.im (.str (tx ls)))))(hn:ls≠[])(hl:ls.length<=1000)(q:∀c∈ls,Q (.o (.str (tx [c])))):
 opDE (fn2 idxF) (vD i) (calO o 1 zcz (za7 (zb4 (fn1 lenF) (za7 (vD i) aNil)) aNil)) ρ Q:=by
 have h0:0<ls.length:=Vg.mpr hn;refine⟨_,_,hi,rfl,zxn hρ hi rfl (zgx (by lia)) h0 (by lia) λk hk=>⟨_,zof hk (by lia),q _ (QT hk)⟩⟩
theorem zwo{α β:Type}{enc:α->Tl}{enc2:β->Tl}{good:β->Prop}{i h:Nat}{ft:DT}{fe:DE}{ρ:DSt}{Q:List Tl->Prop}{as:List α}
 (step:∀a∈as,∀(Pn:Prop) (Py:Tl->Prop),Pn->(∀b,good b->Py (enc2 b))->ft ((QG h none++ρ).set i (some (.im (enc a)))) λt=>if t=true then fe ((QG h none++ρ).set i (some (.im (enc a)))) (λr=>Py r.d) else Pn)
 (hz:as.length<=1000) (q:∀bs:List β,(∀b∈bs,good b)->bs.length<=as.length->Q (bs.map enc2)):zbg h (gN i) ft fe ρ Q (as.map enc) []:=by
 have sz:=Ts
 have key:∀(l:List α) (bs:List β),(∀a∈l,a∈as)->(∀b∈bs,good b)->bs.length+l.length<=as.length->zbg h (gN i) ft fe ρ Q (l.map enc) (bs.map enc2):=by
  intro l
  induction l with
  | nil=>intro bs _ hb hl;exact q bs hb hl
  | cons a l ih=>
    intro bs hs hb hl;rw[Q3] at hl;refine step a (hs a Qp) _ (λd=>(bs.map enc2).length<sizeLine/\zbg h (gN i) ft fe ρ Q (l.map enc) (bs.map enc2 ++ [d])) (ih bs (λx hx=>hs x (Qf _ hx)) hb (by lia)) λb gb=>⟨by rw[Qc];lia,?_⟩;have:=ih (bs ++ [b]) (λx hx=>hs x (Qf _ hx)) (λx hx=>by rcases Qv.mp hx with hx|hx;(exact hb x hx);(rw[Qb.mp hx];exact gb)) (by rw[Qq];simp;lia);rwa [Q7] at this
 exact key as [] (λ_ h=>h) (by simp) (by simp)
theorem zzy(ws:List Nat)(hl:ws.length<=1000):∃ys:List Str,G5 (ws.map λc=>.str (tx [c])) = .list (ys.map .str)/\(ys.map (·.length)).sum+ys.length * (QS "").length<=16777216/\GL "" ys=tx ws:=by
 refine⟨ws.map sg,by rw[Zt];rfl,?_,zp8 ws⟩;have e0:(QS "").length=0:=by decide +kernel
 rw[zu0,e0];lia
def zjf(K:Qa):Sp:=λvs H Q _=>∃(a:Addr) (ns:List Int),vs = [.ref a]/\SqL K H a (ns.map V.int)/\ns.length<=63/\∀H',Q (.bl true) H'
section
open PySem PySem.Builtin PySem.Builtin.Str
def sOk(x:Te):Prop:=∀c∈x.cps.toList,c<0x110000
theorem strOk_iff: Zu x=true↔sOk x:=by
 unfold Zu sOk;rw[UD];simp
theorem zea(hx:sOk x)(hy:sOk y):sOk (x++y):=by
 intro c hc
 have e:(x++y).cps.toList=x.cps.toList++y.cps.toList:=by
  show(x.cps++y.cps).toList=_;simp
 rw[e] at hc;rcases Qv.mp hc with hc|hc
 .exact hx c hc
 .exact hy c hc
theorem zpo(c:Char):c.toNat<0x110000:=by
 have:=c.valid;rcases this with h|h
 .exact Nat.lt_trans h (by decide)
 .exact h.2
theorem zdc(s:String):sOk (PySem.Str.ofString s):=by
 intro c hc;have:c∈(s.toList.map VP):=by rw[PySem.Str.ofString_eq_toList] at hc;simpa using hc
 obtain⟨d,_,rfl⟩:=Q0.mp this;exact zpo d
theorem zil(hs:sOk sep):∀{l:List Te},(∀x∈l,sOk x)->sOk (PySem.Str.join sep l)
 | [],_=>λc hc=>by cases hc
 | [x],h=>h x (by simp)
 | x::y::r,h=>zea (zea (h x (by simp)) hs) (zil hs (l:=y::r) λz hz=>h z (Qf _ hz))
theorem z5z{q c:Nat}(hc:c<0x110000):∀x∈reprChar q c,x<0x110000:=by
 have hex:∀w:Nat,∀x∈(QG (w-((YB 16 c).map VP).length) 48++(YB 16 c).map VP),x<0x110000:=by
  intro w x hx;rcases Qv.mp hx with hx|hx
  .rw[(List.mem_replicate.mp hx).2];decide
  .obtain⟨d,_,rfl⟩:=Q0.mp hx;exact zpo d
 have two:∀a b:Nat,a<0x110000->b<0x110000->∀x∈[a,b],x<0x110000:=by
  intro a b ha hb x hx;rcases Qs.mp hx with rfl|hx
  .exact ha
  .rw[Qb.mp hx];exact hb
 have tw:∀a b w:Nat,a<0x110000->b<0x110000->∀x∈[a,b]++(QG (w-((YB 16 c).map VP).length) 48++(YB 16 c).map VP),x<0x110000:=by
  intro a b w ha hb x hx;rcases Qv.mp hx with hx|hx
  .exact two a b ha hb x hx
  .exact hex w x hx
 intro x;unfold reprChar;dsimp only
 split
 .exact two _ _ (by decide) hc x
 split
 .exact two _ _ (by decide) (by decide) x
 split
 .exact two _ _ (by decide) (by decide) x
 split
 .exact two _ _ (by decide) (by decide) x
 split
 .intro hx;rw[Qb.mp hx];exact hc
 split
 .exact tw _ _ 2 (by decide) (by decide) x
 split
 .exact tw _ _ 4 (by decide) (by decide) x
 .exact tw _ _ 8 (by decide) (by decide) x
theorem zw2(h:sOk x):sOk (reprText x):=by
 have key:∀(q:Nat) (l:List Nat) (acc:Array Nat),(∀c∈l,c<0x110000)->(∀c∈acc.toList,c<0x110000)->∀c∈(l.foldl (λout c=>out++(reprChar q c).toArray) acc).toList,c<0x110000:=by
  intro q l
  induction l with
  | nil=>intro acc _ ha;exact ha
  | cons c l ih=>
    intro acc hl ha;refine ih _ (λd hd=>hl d (Qf _ hd)) λd hd=>?_;rw[Array.toList_append] at hd;rcases Qv.mp hd with hd|hd
    .exact ha d hd
    .exact z5z (hl c Qp) d (by simpa using hd)
 have hq:reprQuote x<0x110000:=by unfold reprQuote;split <;> decide
 intro c hc;unfold reprText at hc;rw[V6,<- UE] at hc;rcases Qv.mp hc with hc|hc
 .have h0:∀d∈(#[reprQuote x]:Array Nat).toList,d<0x110000:=λd hd=>by
   have e:d=reprQuote x:=by simpa using hd
   rw[e];exact hq
  exact key _ _ _ h h0 c hc
 .rw[Qb.mp hc];exact hq
end
open PySem PySem.Spec
open PyProof.Rows hiding St
open L2
mutual
theorem zk6:∀d:Tl,d.canLay0=true->sOk d.shown
 | .none,_=>by rw[PyData.shown_none];exact zdc _
 | .bool b,_=>by rw[PyData.shown_bool];cases b <;> exact zdc _
 | .int i,_=>by rw[Gr];exact zdc _
 | .str x,h=>by rw[PyData.shown_str];exact zw2 (strOk_iff.mp (by simpa[Z9] using h))
 | .list xs,h=>by
   rw[PyData.shown_list];exact zea (zea (zdc _) (zil (zdc _) (zee xs (by simpa[Z9] using h)))) (zdc _)
 | .tuple xs,h=>by
   rw[PyData.shown_tuple];exact zea (zea (zdc _) (zil (zdc _) (zee xs (by simpa[Z9] using h)))) (zdc _)
 | .dict _,h=>by simp[Z9] at h
theorem zee:∀xs:List Tl,Qz xs=true->∀x∈GB xs,sOk x
 | [],_,_,hx=>by simp[GB] at hx
 | d::xs,h,x,hx=>by
   rw[Qz,Qx] at h;rw[PyData.shownAll_cons] at hx;rcases Qs.mp hx with e|hx
   .rw[e];exact zk6 d h.1
   .exact zee xs h.2 x hx
end
theorem z0d{d:Tl}(h1:d.canLay0=true)(h2:d.showable=true)(h3:d.depth<=60)(h4:d.leavesShort 13=true)(h5:d.bulk<=2 ^ 20):∃x,zf1 [d]=some (.o (.str x))/\Zu x=true:=by
 refine⟨d.shown,?_,strOk_iff.mpr (zk6 d h1)⟩;unfold zf1;dsimp only;rw[j7];rw[h2,PyData.hasDict_of_canLay d h1,j9 h3,j9 (PyData.shown_fits_bulk (B:=13) (by decide) (by decide) h4 h5)];rfl
theorem zcy{α:Type}{f:α->Tl}:∀{l:List α},(∀a∈l,(f a).canLay0=true)->Qz (l.map f)=true
 | [],_=>rfl
 | a::l,h=>by rw[Qu,Qz,h a Qp,zcy λx hx=>h x (Qf _ hx)];rfl
theorem zh0{α:Type}{f:α->Tl}:∀{l:List α},(∀a∈l,(f a).showable=true)->JS (l.map f)=true
 | [],_=>by simp[JS]
 | a::l,h=>by rw[Qu,JS,h a Qp,zh0 λx hx=>h x (Qf _ hx)];rfl
theorem zem{α:Type}{f:α->Tl}{n:Nat}:∀{l:List α},(∀a∈l,(f a).depth<=n)->Zq (l.map f)<=n
 | [],_=>by simp[Zq]
 | a::l,h=>by
   rw[Qu,Zq];exact Nat.max_le.mpr ⟨h a Qp,zem λx hx=>h x (Qf _ hx)⟩
theorem zgv{α:Type}{f:α->Tl}{B:Nat}:∀{l:List α},(∀a∈l,(f a).leavesShort B=true)->J5 B (l.map f)=true
 | [],_=>by simp[J5]
 | a::l,h=>by rw[Qu,J5,h a Qp,zgv λx hx=>h x (Qf _ hx)];rfl
theorem zh1{α:Type}{f:α->Tl}{n:Nat}:∀{l:List α},(∀a∈l,(f a).bulk<=n)->Vt (l.map f)<=l.length * (n+1)
 | [],_=>by simp[Vt]
 | a::l,h=>by
   rw[Qu,Vt,Q3,UQ];have:=h a Qp;have:=zh1 (f:=f) (n:=n) λx hx=>h x (Qf a hx);lia
theorem zt8(h:Zu x=true){B:Nat}:(PyData.str x).leavesShort B=true:=by
 have h:=strOk_iff.mp h;rw[Jm,J1];intro c hc;have:=h c hc;exact j9 (by lia)
section
variable {K:Qa}{O:Ob}
def disS(m:Nat)(g:DS):DS:=λDd ρ=>g Dd ρ\/∃ds,ρ[m]? = some (some (.own ds))/\g Dd (ρ.set m (some (.im (.list ds))))
theorem z3v{m:Nat}(h:SD K O t g):SD K O t (disS m g):=λH₀ A σ H ρ D Dd r q P=>by
 rcases q with q|⟨ds,e,q⟩
 .exact h H₀ A σ H ρ D Dd r q P
 .exact h H₀ _ σ H _ D Dd (r.disown e) q (P.frm (.setIm (.refl _ _)))
end
section
variable {ι κ:Type}{P:Tr}{w:Tt}{K:Qa}{mg:Str->Option Tn}{base:Heap}{k:Nat}{X:ι->Cx}{O:κ->Ob}{st:Stmt}{g:DS}{pos:Pos}
theorem z6i(m:Nat)(h:S3 K X O st g):S3 K X O st (disS m g):=let ⟨t,p,d⟩:=h;⟨t,p,λj=>z3v (d j)⟩
end
theorem zmd{α:Type}{enc:α->Tl}{g:DG}{fe:DE}{ρ:DSt}{Q:List Tl->Prop}{as:List α}{e:α->Tl}{h:Nat}(step:∀a∈as,∀P:R->Prop,(∀r,r.d=e a->P r)->g (enc a) (QG h none++ρ) λρ2=>if true=true then fe ρ2 P else False)(mg:∀d ρ (P P':DSt->Prop),(∀ρ,P ρ->P' ρ)->g d ρ P->g d ρ P')(hz:as.length<=sizeLine)(q:Q (as.map e)):
 zbg h g yesD fe ρ Q (as.map enc) []:=by
 have key:∀(l:List α) (acc:List Tl),(∀a∈l,a∈as)->acc.length+l.length<=sizeLine->Q (acc++l.map e)->zbg h g yesD fe ρ Q (l.map enc) acc:=by
  intro l
  induction l with
  | nil=>intro acc _ _ q;show Q acc;simpa using q
  | cons a l ih=>
    intro acc hs hz q;rw[Q3] at hz;refine mg _ _ _ _ (λρ2 z=>?_) (step a (hs a Qp) (λr=>acc.length<sizeLine/\zbg h g yesD fe ρ Q (l.map enc) (acc ++ [r.d])) λr hr=>⟨by lia,?_⟩)
    .rw[j7 rfl] at z;exact iteT (B:=zbg h g yesD fe ρ Q (l.map enc) acc) z
    .rw[hr];exact ih (acc ++ [e a]) (λx hx=>hs x (Qf _ hx)) (by rw[Qq];simp;lia) (by simpa using q)
 exact key as [] (λ_ h=>h) (by simpa using hz) (by simpa using q)
theorem zo0{is:List Nat}:∀d ρ (P P':DSt->Prop),(∀ρ,P ρ->P' ρ)->gT is d ρ P->gT is d ρ P':=by
 have key:∀(is:List Nat) (ds:List Tl) ρ (P P':DSt->Prop),(∀ρ,P ρ->P' ρ)->gTD is ds ρ P->gTD is ds ρ P':=by
  intro is
  induction is with
  | nil=>intro ds ρ P P' h z;cases ds with
    | nil=>exact h _ z
    | cons _ _=>exact z.elim
  | cons i is ih=>intro ds ρ P P' h z;cases ds with
    | nil=>exact z.elim
    | cons d ds=>exact ih ds _ P P' h z
 exact λd ρ P P' h ⟨ds,e,z⟩=>⟨ds,e,key _ _ _ _ _ h z⟩
section
variable {ι κ:Type}{P:Tr}{w:Tt}{K:Qa}{mg:Str->Option Tn}{base:Heap}{k:Nat}{X:ι->Cx}{O:κ->Ob}{a b:Expr}{fa:DE}{pos p:Pos}{ga:DA}
theorem z0u{X:Cx}:MtR X "list.pop" rPop:=λpins s σ H x xs v us Q I rx rv h=>z3g pins s σ H x xs v us Q I rx rv h
end
section
variable {K:Qa}{O:Ob}
def extS(i:Nat)(f:DE):DS:=λDd ρ=>∃ds,ρ[i]? = some (some (.own ds))/\f ρ λr=>∃es,r.d = .list es/\flats es=true/\ds.length+es.length<=sizeLine/\Dd.nx (ρ.set i (some (.own (ds++es))))
theorem zvi{i:Nat}(h:ED K O t f):SD K O (zd2 (tBM K "list" zhk (tVar i) (za0 t tNil))) (extS i f):=λH₀ A σ H ρ D Dd r q P=>by
 obtain⟨ds,e,q⟩:=q;obtain⟨v,hv,a,xs,rfl,ha,hl,hs⟩:=r.at_ i _ e;refine⟨_,hv,?_⟩;refine⟨.inl ⟨rfl,xs,.of hl⟩,?_⟩;refine h σ H ρ _ _ r.seen q λw H1 x s1 o1 zz=>?_;obtain⟨es,ed,fl,hz,q1⟩:=zz;have r1:=r.stp s1;obtain⟨v1,hv1,a1,xs1,e1,ha1,hl1,hs1⟩:=r1.at_ i _ e;rw[hv] at hv1;cases hv1;cases e1;have iw:=o1.is r.ok r.p;rw[ed] at iw
 cases iw with
 | list f1 h1 s2=>
   refine⟨a,_,xs1,_,rfl,rfl,hl1,h1,by rw[hs1.length,s2.length];exact hz,?_⟩;exact P.nx A σ _ _ (r1.change e hv ha (hs1.append (IsAll.flats (TupStay.refl H1) s2 fl))) ((Frm.stp s1).trans (.change ha)) q1
def z7l:List Tl->Option R
 | [.int i,.int j]=>some (.o (.int (if j > i then j else i)))
 | _=>none
def zr9:List Tl->Option R
 | [.int i,.int j]=>some (.o (.int (if j<i then j else i)))
 | _=>none
theorem ztw{d:Tl}(h:IsAll K F H vs [d,e]):∃v w,vs = [v,w]/\Is K F H v d/\Is K F H w e:=by
 cases h with
 | cons h1 h2=>cases h2 with
   | cons h3 h4=>cases h4;exact⟨_,_,rfl,h1,h3⟩
theorem z0t:zdj K O (λxs H Q=>∃i j,xs = [.int i,.int j]/\Q (.int (if j<i then j else i)) H) (fn1 zr9):=λH vs ds Q Qd ok p is ⟨r,hr,q⟩ k=>by
 unfold zr9 at hr
 split at hr
 .cases hr;obtain⟨v,w,rfl,i1,i2⟩:=ztw is;cases i1;cases i2;exact⟨_,_,rfl,k _ H (.o _) (.refl _ _) (Is.int _) q⟩
 .cases hr
end
section
variable {ι κ:Type}{P:Tr}{w:Tt}{K:Qa}{mg:Str->Option Tn}{base:Heap}{k:Nat}{X:ι->Cx}{O:κ->Ob}{a b:Expr}{fa fb:DE}{pos p:Pos}{ga:DA}
theorem z2z:TK "max" = some (.builtin "max"):=by decide +kernel
theorem z3u(C:Ctx3 P w K mg base k X)(B:Blt mg)(ha:A3 K X O [a,b] ga)(hg:∀i,Gl (X i) "min" := by intro i;rfl)(he:∀i,Tq [a,b] (X i).env=(false,eval a (X i).env)::Tq [b] (X i).env:=by intro i;rfl)(hpl:∀i,(Mi pos (Tq [b] (X i).env)).any (·.1)=false:=by intro i;rfl):E3 K X O (.Call (.Name "min" p) [a,b] [] pos) (zb4 (fn1 zr9) ga) :=
 zhw C (λi=>zsk (C.calm i)) (λ_=>z0t) z3x B.min ha hg (by decide) (by decide) he hpl
theorem zse{X:Cx}:MtR X "list.extend" zhk:=λpins s σ H x xs v us Q I rx rv h=>zuc pins s σ H x xs v us Q I rx rv h
theorem z6h(n:Nat){apos cpos:Pos}(C:Ctx3 P w K mg base k X)(hb:E3 K X O b fb)(hN:∀i,(X i).N[n]? = some x:=by intro i;rfl)(hv:∀i,Vis (X i).env.scope x:=by intro i;first|exact Or.inl rfl|exact Or.inr (Or.inl rfl)|exact Or.inr (Or.inr rfl))(hd:(x == ("__debug__" : Str))=false:=by decide)(hcd:(x == ("__classdict__" : Str))=false:=by decide)
 (hbase:∀i,Mj (.Name x px) "extend" (X i).env (eval (.Name x px) (X i).env)=eval (.Name x px) (X i).env:=by intro i;rfl)
 (hfew:∀i,((Mi cpos (Tq [b] (X i).env)).all (λx=>!x.1) && (Np cpos (MG [] (X i).env)).all (λx=>x.1.isSome) && decide (([b]:List Expr).length+([]:List M7).length+(if([]:List M7).isEmpty then 0 else 1)<30))=true:=by intro i;rfl)
 (hline:(apos.endLine == cpos.line)=true:=by rfl) (hs:∀i,Tq [b] (X i).env = [(false,eval b (X i).env)]:=by intro i;rfl) (hsw:∀i,M1 (.Call (.Attribute (.Name x px) "extend" apos) [b] [] cpos) none pos.line (X i).env=pure false:=by intro i;rfl) :
 S3 K X O (.Expr (.Call (.Attribute (.Name x px) "extend" apos) [b] [] cpos) pos) (extS n fb):=let ⟨_,p2,d2⟩:=hb;
 ⟨zd2 (tBM K "list" zhk (tVar n) (za0 _ tNil)),λi=>by
  have h:=zgb (apos:=apos) (cpos:=cpos) Jv PySem.F.slot_list_extend PySem.F.type_list_extend (zse (X:=X i)) (zam (pos:=px) (hN i) (hv i) hd hcd) (za3 (p2 i) zbs (hs i)) (hbase i) (hfew i) hline (hs i);rw[C.hK] at h
  exact zhx h (hsw i),λj=>zvi (d2 j)⟩
end
namespace RV
theorem zlh:jd (.type "list_reverseiterator") "__len__" = pure none:=by rw[MU,M3];kernel_rfl
theorem zml:jd (.type "list_reverseiterator") "__length_hint__" = pure (some (.builtin "list_reverseiterator.__length_hint__")):=by rw[MU,M3];kernel_rfl
theorem zgw:Nq (.type "list_reverseiterator") (.type "list_reverseiterator")=pure true:=by rw[M6];kernel_rfl
theorem zqw:splitId "list_reverseiterator.__length_hint__" = some ("list_reverseiterator", "__length_hint__"):=by decide +kernel
theorem z2l{prog:Tr}{w:Tt}(t:s.TypeIs (.ref it) "list_reverseiterator")(q:Q false s):wpAny (model prog w) A (ZZ (.ref it)) Q E s:=by
 have sp:=zqw;unfold ZZ;refine Tj (TZ t zlh (Tj (TZ t zml ?_)));revert sp;generalize z:("list_reverseiterator.__length_hint__" : String)=nm;intro sp;dsimp only;rw[sp];subst z;exact Tj (Md (b:=true) t zgw (Tk q))
theorem list_of_rev{prog:Tr}{w:Tt}{items:Array Tn}(hh:A.handled=none)(hr:s.heap.IsRevIter it l ((items.size:Int)-1))(hl:s.heap.IsList l items)(hne:l≠it)(hz:items.size<=sizeLine)
 (q:∀h' t' vs c,(∀b o,b≠it->s.heap.get? b=some o->h'.get? b=some o)->h'.get? s.heap.objs.size=some { cls:=.type "list",dict:=none,data:=.seq vs c,slots:=#[] }->ItemsOf (λi v=>items[items.size-1-i]? = some v) vs items.size->Q (.ref s.heap.objs.size) { s with heap:=h',toks:=t' }) :
 wpAny (model prog w) A (call (.type "list") [.ref it]) Q E s:=by
 have W:=(Walks.listRev (prog:=prog) (w:=w) (A:=A.in1.in1) hh it l hne items).toS
 have new:∀b o,s.heap.get? b=some o->b≠s.heap.objs.size:=λb o e z=>by
  subst z;rw[Heap.get?] at e;simp at e
 refine callType_codes (Q₁:=λv s1=>v = .ref s.heap.objs.size/\s1 = { s with heap:=s.heap.push { cls:=.type "list",data:=.seq #[] } }) F.called_list (UR _) US (code_list_new _ ⟨rfl,rfl⟩) ?_;rintro _ _ ⟨rfl,rfl⟩;refine⟨⟨_,Qm _ rfl,rfl⟩,UF _ _,?_⟩;obtain⟨o,ho,hc,hd⟩:=id hr;have nI:s.heap.objs.size≠it:=λz=>new it _ ho z.symm;have same:Jo (.ref s.heap.objs.size) (.ref it)=false:=by simp[Jo,nI]
 have t1:Zp "list_reverseiterator" ≠ Zp "list" := by decide
 have eS:(s.heap.push { cls:=.type "list",data:=.seq #[] }).get? s.heap.objs.size=some { cls:=.type "list",data:=.seq #[] }:=Qm _ rfl;have eI:=Qe { cls:=.type "list",data:=.seq (#[]:Array Tn) } ho;have a1:=zlh;have a2:=zml;have a3:=zgw;obtain⟨hp,g,dr,tk,os⟩:=s
 have eI2:(((hp.push { cls:=.type "list",data:=.seq #[] }).update hp.objs.size (QF λ_=>(#[]:Array Tn))).get? it)=some o:=by
  rw[ZF _ _ nI];exact eI
 have eS2:=Zo (QF (λ_=>(#[]:Array Tn))) eS rfl;have hr2:((hp.push { cls:=.type "list",data:=.seq #[] }).update hp.objs.size (QF λ_=>(#[]:Array Tn))).IsRevIter it l ((items.size:Int)-1):=⟨o,eI2,hc,hd⟩;have hT:Ys ⟨((hp.push { cls:=.type "list",data:=.seq #[] }).update hp.objs.size (QF λ_=>(#[]:Array Tn))),g,dr,tk,os⟩ (.ref it) "list_reverseiterator" := ⟨o,eI2,hc⟩;unfold Builtin.«list.__init__»
 wp_walk using wpAny_pyIter_revIter hr2,Mo hT,z2l hT
 have hl2:((hp.push { cls:=.type "list",data:=.seq #[] }).update hp.objs.size (QF λ_=>(#[]:Array Tn))).IsList l items:=by
  obtain⟨ol,h1,h2⟩:=hl;refine⟨ol,?_,h2⟩;rw[ZF _ _ (λz=>new l _ h1 z.symm)];exact Qe _ h1
 have hS:hp.objs.size ∉ [it,l]:=λz=>by
  obtain⟨ol,h1,_⟩:=hl;rcases Qs.mp z with z|z
  .exact nI z
  .exact new l _ h1 (Qb.mp z).symm
 refine⟨M0 Vh _,MP W hz _ hS _ items.size 0 _ _ _ rfl (QE _) ⟨QE _,by simpa using hr2,hl2⟩ eS2 (G6 _) λs' vs c m e is=>⟨rfl,?_⟩⟩;obtain⟨hp',g',dr',tk',os'⟩:=s';obtain⟨m1,m2,m3,m4,m5⟩:=m;have m2:g'=g:=m2;have m3:dr'=dr:=m3;have m4:os'=os:=m4;subst m2 m3 m4;refine q hp' tk' vs c (λb ob hb eb=>m1 b ob (λz=>?_) ?_) e is
 .rcases Qs.mp z with z|z
  .exact new b _ eb z
  .exact hb (Qb.mp z)
 .show((hp.push _).update _ _).get? b=_;rw[ZF _ _ (λz=>new b _ eb z.symm)];exact Qe _ eb
theorem items_rev{its:List Tn}{vs:Array Tn}(h:ItemsOf (λi v=>its.toArray[its.toArray.size-1-i]? = some v) vs its.toArray.size):vs=its.reverse.toArray:=by
 obtain⟨h1,h2⟩:=h;apply Array.ext';apply ZB;intro i
 by_cases hi:i<vs.size
 .have e:vs.toList[i]? = some vs[i]:=by simp[hi]
  have e2:=h2 i vs[i] (by simp[hi]);rw[e,<- e2];simp at h1 e2 ⊢;rw[List.getElem?_reverse (by lia)]
 .rw[QD (by simpa using hi)];symm;apply QD;simp at h1 ⊢;lia
end RV
def tLR(K:Qa)(te:TE):TE:=λσ H Q=>te σ H λv H1=>∃a xs,v = .ref a/\SqL K H1 a xs/\∀p,H1 p=none->Q (.ref p) (upd H1 p (.lst xs.reverse))
theorem zra(calm:X.A.handled=none)(gl:Gl X "list")(ml:X.mg "list" = none)(gr:Gl X "reversed")(mr:X.mg "reversed" = none)(he:PE X e te)
 (s1:Tq [.Call (.Name "reversed" p2) [e] [] p3] X.env=(false,eval (.Call (.Name "reversed" p2) [e] [] p3) X.env)::Tq [] X.env:=by rfl) (s2:Tq [e] X.env=(false,eval e X.env)::Tq [] X.env:=by rfl) :
 PE X (.Call (.Name "list" p1) [.Call (.Name "reversed" p2) [e] [] p3] [] p4) (tLR X.K te):=by
 intro pins s σ H Q I h;refine TL (zcf I gl ml (u:=.type "list") rfl ?_);refine Zs ?_ s1;rw[s1];show wpAny _ _ (MY ((false,eval (.Call (.Name "reversed" p2) [e] [] p3) X.env) :: [])) _ _ s;refine Z0 ?_;refine TL (zcf I gr mr (u:=.type "reversed") rfl ?_);refine Zs ?_ s2;rw[s2];show wpAny _ _ (MY ((false,eval e X.env) :: [])) _ _ s;refine Z0 (thn (he pins s σ H _ I h) λu s' zz=>?_);obtain⟨y,H1,I1,r1,a,xs,ey,hq,q⟩:=zz;subst ey;cases r1;refine ZJ ?_;obtain⟨its,rv,pl,hz⟩:=I1.list hq;have hlen:=rv.length;have isl:=pl.isList;refine call_reversed_list isl ?_;refine ZJ ?_
 have new:a≠s'.heap.objs.size:=λz=>by
  obtain⟨o,ho,_⟩:=isl;exact Zj _ (z ▸ Qt ho)
 have isl2:(s'.heap.push (revObj a ((its.toArray.size:Int)-1))).IsList a its.toArray:=isl.push _;refine RV.list_of_rev (s:={ s' with heap:=s'.heap.push (revObj a ((its.toArray.size:Int)-1)) }) calm ⟨_,Qm _ rfl,rfl,rfl⟩ isl2 new (by simp;lia) λh' t' vs c kp e is=>?_;have ez:(s'.heap.push (revObj a ((its.toArray.size:Int)-1))).objs.size=s'.heap.objs.size+1:=QU ..;have ev:=RV.items_rev is;subst ev;have kp2:∀b o,s'.heap.get? b=some o->h'.get? b=some o:=λb o eb=>kp b o (λz=>Zj _ (z ▸ Qt eb)) (Qe _ eb);have fr:H1 (s'.heap.objs.size+1)=none:=I1.hok.fresh (Jr _);dsimp only at e ⊢;rw[ez] at e ⊢;exact⟨.ref (s'.heap.objs.size+1),_,I1.laid (t':=t') kp2 (Jr _) (show ObjOk X.prog X.w _ h' _ (.lst xs.reverse) from⟨by rw[List.length_reverse];exact hz,its.reverse,c,rv.reverse,e⟩),rfl,q _ fr⟩
end L3
namespace L3
open PySem PySem.Spec
open PyProof.Rows hiding St
open L2
abbrev zc1:Key:=.inr "seed"
abbrev kNum:Key:=.inr "number"
abbrev zd4:Key:=.inr "left"
def zbm(seed num:Int)(l:Addr):List (Key×V):=[(zc1,.int seed),(kNum,.int num),(zd4,.ref l)]
def ziy(seed num:Int)(l:Addr):HO:=.dK (zbm seed num l)
theorem zx2(s n:Int)(l:Addr):valV (zbm s n l) zc1=some (.int s):=by simp[valV,zbm,Ji]
theorem z1k(s n:Int)(l:Addr):valV (zbm s n l) kNum=some (.int n):=by
 have h1:¬(zc1=kNum):=by decide +kernel
 simp[valV,zbm,Ji,h1]
theorem zwd(s n:Int)(l:Addr):valV (zbm s n l) zd4=some (.ref l):=by
 have h1:¬(zc1=zd4):=by decide +kernel
 have h2:¬(kNum=zd4):=by decide +kernel
 simp[valV,zbm,Ji,h1,h2]
theorem zxa(s n s':Int)(l:Addr):putK (zbm s n l) zc1 (.int s')=zbm s' n l:=by
 have h1:¬(kNum=zc1):=by decide +kernel
 have h2:¬(zd4=zc1):=by decide +kernel
 simp[putK,zbm,h1,h2]
theorem zz0(s n n':Int)(l:Addr):putK (zbm s n l) kNum (.int n')=zbm s n' l:=by
 have h1:¬(zc1=kNum):=by decide +kernel
 have h2:¬(zd4=kNum):=by decide +kernel
 simp[putK,zbm,h1,h2]
structure DealAt(H:Hp)(a l:Addr)(seed num:Int)(ns:List Int):Prop where
 ne:a≠l
 ha:H a=some (ziy seed num l)
 hl:H l=some (.lst (ns.map V.int))
 s0:0<=seed
 s1:seed<4294967296
 n0:0<=num
 ns0:∀n∈ns,0<=n
structure IsDeal(O:Ob):Prop where
 ex:∃a l,O.v = .ref a/\O.M a/\O.M l/\(∀H,O.P H->∃s n ns,DealAt H a l s n ns)/\∀H H' s n ns,O.P H->DealAt H' a l s n ns->(∀b,O.M b->b≠a->b≠l->H' b=H b)->O.P H'
theorem IsDeal.plus(h:IsDeal O)(D:Addr)(u:HO)(nm:¬O.M D):IsDeal (O.plus D u):=by
 obtain⟨a,l,hv,ma,ml,h1,h2⟩:=h.ex;have da:D≠a:=λe=>nm (e ▸ ma);have dl:D≠l:=λe=>nm (e ▸ ml);refine⟨a,l,hv,.inl ma,.inl ml,λH p=>h1 H p.1,λH H' s n ns p q k=>⟨h2 H H' s n ns p.1 q λb mb=>k b (.inl mb),?_⟩⟩;rw[k D (.inr rfl) da dl];exact p.2
theorem upD{κ:Type}{O:κ->Ob}(h:∀j,IsDeal (O j)):∀j,IsDeal (zjh O j):=λj=>(h j.1.1).plus _ _ j.2
def ziz(a l:Addr):Ob:=⟨λb=>b=a\/b=l,λH=>∃s n ns,DealAt H a l s n ns,.ref a⟩
theorem zso(a l:Addr):(ziz a l).Ok:=by
 refine⟨λH H' e ⟨s,n,ns,p⟩=>⟨s,n,ns,p.ne,(e a (.inl rfl)).trans p.ha,(e l (.inr rfl)).trans p.hl,p.s0,p.s1,p.n0,p.ns0⟩,λH b o ⟨s,n,ns,p⟩ eb m=>?_,λH b ⟨s,n,ns,p⟩ m=>?_⟩
 .rcases m with rfl|rfl
  .rw[p.ha] at eb;cases eb;exact⟨λ_ z=>(by cases z),λ_ _ z=>(by cases z)⟩
  .rw[p.hl] at eb;cases eb;exact⟨λ_ z=>(by cases z),λ_ _ z=>(by cases z)⟩
 .rcases m with rfl|rfl
  .exact⟨_,p.ha⟩
  .exact⟨_,p.hl⟩
theorem ztk(a l:Addr):IsDeal (ziz a l):=⟨a,l,rfl,.inl rfl,.inr rfl,λ_ p=>p,λ_ _ s n ns _ q _=>⟨s,n,ns,q⟩⟩
abbrev dAt(k:Str):TE:=zyv (tVar 0) (tC (.str k))
def z5r(K:Qa):TS :=
 zui (tAnd (zgg (tOp rEq (dAt "number") (tC (.int 0)))) (zgg (tOp (rI0 λi j=>.bl (decide (j<i))) (tCB (lenR K) (za0 (dAt "left") tNil)) (tC (.int 0)))))
  (zma (tVar 0) (tC (.str "number")) (tBM0 K "list" rPop (dAt "left")))
theorem ztr{s n:Int}(p:DealAt H a l s n ns)(hσ:σ[0]? = some (some (.ref a)))(q:Q (.int n) H):dAt "number" σ H Q :=
 ⟨_,hσ,a,_,rfl,.inl ⟨_,kNum,.inl p.ha,rfl,(z1k s n l).symm⟩,q⟩
theorem zj5{s n:Int}(p:DealAt H a l s n ns)(hσ:σ[0]? = some (some (.ref a)))(q:Q (.int s) H):dAt "seed" σ H Q :=
 ⟨_,hσ,a,_,rfl,.inl ⟨_,zc1,.inl p.ha,rfl,(zx2 s n l).symm⟩,q⟩
theorem zqa{s n:Int}(p:DealAt H a l s n ns)(hσ:σ[0]? = some (some (.ref a)))(q:Q (.ref l) H):dAt "left" σ H Q :=
 ⟨_,hσ,a,_,rfl,.inl ⟨_,zd4,.inl p.ha,rfl,(zwd s n l).symm⟩,q⟩
theorem zuz(s n:Int)(l:Addr):(zbm s n l).length<sizeLine:=by rw[Ts];show 3<16777216;decide
theorem DealAt.setN{s n:Int}(p:DealAt H a l s n ns){n':Int}(h:0<=n'):DealAt (upd H a (ziy s n' l)) a l s n' ns :=
 ⟨p.ne,zak,by rw[zae (ZA p.ne)];exact p.hl,p.s0,p.s1,h,p.ns0⟩
theorem DealAt.setS{s n:Int}(p:DealAt H a l s n ns){s':Int}(h:0<=s')(h2:s'<4294967296):DealAt (upd H a (ziy s' n l)) a l s' n ns :=
 ⟨p.ne,zak,by rw[zae (ZA p.ne)];exact p.hl,h,h2,p.n0,p.ns0⟩
theorem zyi{s n:Int}(p:DealAt H a l s n ns)(n':Int):DPut H a (.str "number") (.int n') (upd H a (ziy s n' l)) :=
 .inl ⟨_,kNum,p.ha,rfl,zuz s n l,by rw[zz0];rfl⟩
theorem z6f{s n:Int}(p:DealAt H a l s n ns)(s':Int):DPut H a (.str "seed") (.int s') (upd H a (ziy s' n l)) :=
 .inl ⟨_,zc1,p.ha,rfl,zuz s n l,by rw[zxa];rfl⟩
theorem zwh{s n s' n':Int}(ma:O.M a)(ml:O.M l)(h2:∀H H' s n ns,O.P H->DealAt H' a l s n ns->(∀b,O.M b->b≠a->b≠l->H' b=H b)->O.P H')(p:DealAt H a l s n ns)(p':DealAt H' a l s' n' ns')(st:PotStp a l H H'):Stp O H H':=by
 refine⟨λb o e nm=>?_,λpp=>h2 H H' _ _ _ pp p' λb _ h3 h4=>st.oth b h3 h4,λb u hu e=>?_⟩
 .rw[st.oth b (λz=>nm (z ▸ ma)) λz=>nm (z ▸ ml)];exact e
 .rw[st.oth b (λz=>?_) λz=>?_]
  .exact e
  .rw[z,p.ha] at e;cases e;obtain⟨xs,e1|⟨o,e1⟩⟩:=hu <;> cases e1
  .rw[z,p.hl] at e;cases e;obtain⟨xs,e1|⟨o,e1⟩⟩:=hu <;> cases e1
theorem upd2(H:Hp)(a:Addr)(x y:HO):upd (upd H a x) a y=upd H a y:=by
 funext b
 by_cases e:b=a
 .subst e;rw[zak,zak]
 .rw[zae e,zae e,zae e]
theorem zis{K:Qa}{c:Addr}{ns:List Int}{σ:St}{H:Hp}{tf:TT}{te:TE}{G:Addr->Hp->Prop}(p:Int->Bool)(f:Int->Int)(hS:SqL K H c (ns.map V.int))(hz:ns.length<=63)
 (ht:∀n H' R,R (p n) H'->tf (some (.int n)::σ) H' R) (he:∀n H' R,R (V.int (f n)) H'->te (some (.int n)::σ) H' R)
 (q:∀D,H D=none->G D (upd H D (.lst (((ns.filter p).map f).map V.int)))) :
 ∀D,H D=none->∃W:Nat->Nat->List V->Hp->Prop,(∃m,W 0 m [] (upd H D (.lst [])))/\∀i m ys H',W i m ys H'->H' D=some (.lst ys)/\(((Itl K c).stop i H'/\G D H')\/((Itl K c).go i H'/\∀x H'',(Itl K c).yld i H' x H''->zbb 0 x (QG 1 none++σ) H'' λσ2 H2=>tf σ2 H2 λb H3=>
   if b=true then te σ2 H3 λy H4=>H4 D=some (.lst ys)/\ys.length<sizeLine/\∃m',m'<m/\W (i+1) m' (ys ++ [y]) (upd H4 D (.lst (ys ++ [y]))) else ∃m',m'<m/\W (i+1) m' ys H3)):=by
 intro D hD;have sz:=Ts;refine⟨λi m ys H'=>m=ns.length-i/\i<=ns.length/\ys=(((ns.take i).filter p).map f).map V.int/\H'=upd H D (.lst ys),⟨_,rfl,QE _,rfl,rfl⟩,?_⟩;rintro i m ys H' ⟨rfl,hi,rfl,rfl⟩;refine⟨zak,?_⟩;have hS':=(L3.same_new hD (.lst ((((ns.take i).filter p).map f).map V.int))).seq hS
 by_cases lt:i<ns.length
 .right;refine⟨⟨_,.int ns[i],hS',by rw[Qj,Qg lt];rfl⟩,λx H'' ⟨e,y⟩=>?_⟩;subst e;have ex:=y _ hS';rw[Qj,Qg lt] at ex;cases ex;show tf (some (.int ns[i])::σ) _ _
  have et:(ns.take (i+1)).filter p=(ns.take i).filter p++(if p ns[i]=true then[ns[i]] else[]):=by
   rw[YC lt,List.filter_append,VD];rfl
  refine ht _ _ _ ?_
  by_cases cc:p ns[i]=true
  .rw[j7 cc] at et ⊢;have hlen:((ns.take i).filter p).length<=ns.length:=QY (List.length_filter_le _ _) (by rw[QX];lia);refine he _ _ _ ⟨zak,by rw[Qc,Qc];lia,ns.length-(i+1),by lia,rfl,lt,?_,upd2 _ _ _ _⟩;rw[et,Q7,Q7];rfl
  .rw[j8 cc] at et ⊢;rw[ZK] at et;exact⟨ns.length-(i+1),by lia,rfl,lt,by rw[et],rfl⟩
 .left;have e:i=ns.length:=by lia
  subst e;refine⟨⟨_,hS',by rw[Qc];exact Qh _⟩,?_⟩;rw[Zh];exact q D hD
abbrev zyo:List V->Hp->VK->Prop:=λxs H Q=>∃i j,xs = [.int i,.int j]/\Q (.int (if j > i then j else i)) H
def zjk(K:Qa):Sp:=λvs H Q _=>∃(a:Addr) (ns:List Int),vs = [.ref a,.int 0]/\SqL K H a (ns.map V.int)/\ns.length<=63/\∀p l s left H',H p=none->H l=none->Same H H'->DealAt H' p l s 0 left->Q (.ref p) H'
theorem zzm{P:Tr}{w:Tt}{K:Qa}{mg:Str->Option Tn}{base:Heap}{k:Nat}{st st0:Stmt}{rest:List Stmt}{N:List Str}{f₁:Addr}{fd₁:Mx}(Fu:Fun K "law" "law" st f₁ fd₁)(S:FnScope ("_law_script" :: "_law_deal_here" :: N) ["_law_script"] (zai st))
 (hs:zbp st=st0::rest)
 (first:∀(f:Addr) (cdv:Tn) (A:Tv) (outer:List Env) (s:To) (H:Hp) (E:XK),Ctx3 P w K mg base k (zdf P w K mg base ("_law_script" :: "_law_deal_here" :: N) "law" (zai st) f cdv A outer s H E) ->
  PS (zdf P w K mg base ("_law_script" :: "_law_deal_here" :: N) "law" (zai st) f cdv A outer s H E ()) st0 (tAsg (zds (zjk K) [] E0 (za0 (tVar 0) (za0 (tC (.int 0)) tNil))) (zbb 1)))
 (body:∀(f:Addr) (cdv:Tn) (A:Tv) (outer:List Env) (s:To) (H:Hp) (E:XK),Ctx3 P w K mg base k (zdf P w K mg base ("_law_script" :: "_law_deal_here" :: N) "law" (zai st) f cdv A outer s H E) ->
  ∃g,Ss3 K (zdf P w K mg base ("_law_script" :: "_law_deal_here" :: N) "law" (zai st) f cdv A outer s H E) (λj:Addr×Addr=>ziz j.1 j.2) rest g/\g { nx:=λ_=>False,rt:=λr=>r = .o (.bool true) } (none::some .ob::QG N.length none)) :
 FnOk P w K mg base CX0 (k+1) f₁ fd₁ ["_law_script"] (zjf K):=by
 refine Fu.ok S (λvs H Q E h=>by obtain⟨a,ns,rfl,_⟩:=h;rfl) (λcdv A outer s H vs Q E hr h=>?_);obtain⟨a,ns,rfl,hS,hl,q⟩:=h;have C:=zf7 (P:=P) (w:=w) (K:=K) (mg:=mg) (base:=base) (N := "_law_script" :: "_law_deal_here" :: N) (x := "law") (sc:=zai st) (f:=f₁) (cdv:=cdv) (A:=A) (outer:=outer) (s:=s) (H:=H) (E:=E) hr;obtain⟨g,⟨t,h1,h2⟩,h3⟩:=body f₁ cdv A outer s H E C;refine⟨tSeq (tAsg (zds (zjk K) [] E0 (za0 (tVar 0) (za0 (tC (.int 0)) tNil))) (zbb 1)) t,?_,?_⟩
 .rw[hs];exact zbo (first f₁ cdv A outer s H E C) (h1 ())
 .refine⟨_,rfl,a,ns,rfl,hS,hl,λp l s left H' hp hln sm pa=>?_⟩;refine h2 (p,l) H' (λ_ _=>False) _ H' _ _ _ ⟨zso p l,⟨s,0,left,pa⟩,⟨s,0,left,pa⟩,.refl _ _,λ_ _ _ z=>z.elim,λ_ _ z=>z.elim,λi r e=>?_,?_⟩ h3 ⟨λ_ _ _ _ _ _ z=>z.elim,λ_ _ _ _ _ _ z=>z.elim,λ_ _ _ _ _ _ z=>z.elim,λH' v r _ o e=>?_⟩
  .match i with
   | 0=>cases e
   | 1=>cases e;exact⟨_,rfl,rfl⟩
   | i+2=>
     rw[Zn,Zn,ZU] at e
     split at e <;> cases e
  .rw[Q1];simp[L2.start]
  .subst e;cases o;exact q H'
structure DC where
 (cb cc ce m2 m3 m4:Int)
structure DC.Ok(c:DC):Prop where
 (cc:-(2 ^ 64)<c.cc/\c.cc<2 ^ 64) 
 (m2:0<c.m2/\c.m2<4294967296)
 (m3:0<c.m3/\c.m3<4294967296)
 (m4:0<c.m4/\c.m4<4294967296)
def zks(K:Qa)(c:DC):TS :=
 tSeq (tAsg (dAt "number") (zbb 2))
 (tSeq (tIfS (zgg (tOp (rI0 λi j=>.bl (decide (j<i))) (tVar 2) (tC (.int 0))))
  (tSeq (zma (tVar 0) (tC (.str "number")) (tOp (rI CDiv λi j=>.int (i / j)) (tVar 2) (tVar 1))) (tRet (tOp (rI (λ_ j=>0<j) λi j=>.int (i % j)) (tVar 2) (tVar 1)))) zr6)
 (tSeq (tAsg (tOp (rI (λ_ j=>0<j) λi j=>.int (i % j)) (tOp (rI0 λi j=>.int (i+j)) (tOp (rI CMul λi j=>.int (i * j)) (dAt "seed") (tC (.int 48271))) (tC (.int c.cb))) (tC (.int 2147483647))) (zbb 3))
 (tSeq (zma (tVar 0) (tC (.str "seed")) (tOp (rI (λ_ j=>0<j) λi j=>.int (i % j)) (tOp (rI0 λi j=>.int (i+j)) (tOp (rI CMul λi j=>.int (i * j)) (tVar 3) (tC (.int c.cc))) (tC (.int c.ce))) (tC (.int c.m2))))
 (tSeq (tAsg (tOp (rI (λ_ j=>0<j) λi j=>.int (i % j)) (tOp (rI CMul λi j=>.int (i * j)) (dAt "seed") (dAt "seed")) (tC (.int c.m3))) (zbb 4))
 (tRet (tOp (rI (λ_ j=>0<j) λi j=>.int (i % j)) (tOp (rI0 λi j=>.int (i+j)) (tOp (rI CMul λi j=>.int (i * j)) (tOp (rI (λ_ j=>0<j) λi j=>.int (i % j)) (tOp (rI CMul λi j=>.int (i * j)) (tVar 3) (tVar 3)) (tC (.int c.m4))) (tC (.int c.m3))) (tVar 4)) (tVar 1)))))))
def zj0(K:Qa)(c:DC):TS:=tSeq (z5r K) (zks K c)
theorem zs8{K:Qa}{c:DC}(hc:c.Ok){H:Hp}{a l:Addr}{s n:Int}{ns:List Int}{m:Int}{D:Ends}(p:DealAt H a l s n ns)(m0:0<m)(m1:m<1073741824)
 (q:∀k H' s' n' ns',0<=k->k<m->DealAt H' a l s' n' ns'->PotStp a l H H'->D.rt (.int k) H'):zks K c D [some (.ref a),some (.int m),none,none,none] H:=by
 refine ztr p rfl ?_;refine⟨_,rfl,n,0,rfl,rfl,_,rfl,?_⟩;refine ite2 (λ_=>?_) (λ_=>?_)
 .refine⟨_,rfl,_,rfl,n,m,rfl,rfl,⟨m0,m1⟩,?_⟩;refine⟨_,rfl,a,_,rfl,zyi p _,?_⟩;exact⟨_,rfl,_,rfl,n,m,rfl,rfl,m0,q _ _ s _ ns (JX _ (by lia)) (J2 _ m0) (p.setN (Int.ediv_nonneg p.n0 (by lia))) (.upA _)⟩
 .have s0:=p.s0;have s1:=p.s1;refine zj5 p rfl ?_;refine⟨s,48271,rfl,rfl,.inl ⟨by lia,by lia⟩,?_⟩;refine⟨_,_,rfl,rfl,_,_,rfl,rfl,(show(0:Int)<2147483647 by decide),?_⟩;dsimp only;have e0:0<=(s * 48271+c.cb) % 2147483647:=JX _ (by decide);have e1:(s * 48271+c.cb) % 2147483647<2147483647:=J2 _ (by decide);generalize (s * 48271+c.cb) % 2147483647=one at e0 e1;have hm2:=hc.m2;have hm3:=hc.m3;have hm4:=hc.m4;refine⟨_,rfl,one,c.cc,rfl,rfl,.inl ⟨by lia,by lia⟩,?_⟩;refine⟨_,_,rfl,rfl,_,_,rfl,rfl,hm2.1,?_⟩;dsimp only;have f0:0<=(one * c.cc+c.ce) % c.m2:=JX _ (by lia);have f1:(one * c.cc+c.ce) % c.m2<c.m2:=J2 _ hm2.1;generalize (one * c.cc+c.ce) % c.m2=sd at f0 f1;refine⟨_,rfl,a,_,rfl,z6f p _,?_⟩;have p2:=p.setS (s':=sd) (by lia) (by lia);refine zj5 p2 rfl (zj5 p2 rfl ?_);refine⟨sd,sd,rfl,rfl,.inl ⟨by lia,by lia⟩,_,_,rfl,rfl,hm3.1,?_⟩;have g0:0<=one * one % c.m4:=JX _ (by lia);have g1:one * one % c.m4<c.m4:=J2 _ hm4.1;refine⟨_,rfl,_,rfl,one,one,rfl,rfl,.inl ⟨by lia,by lia⟩,?_⟩;refine⟨_,_,rfl,rfl,hm4.1,_,_,rfl,rfl,.inl ⟨by lia,by lia⟩,?_⟩;refine⟨_,rfl,_,_,rfl,rfl,_,rfl,_,_,rfl,rfl,m0,?_⟩;exact q _ _ _ _ _ (JX _ (by lia)) (J2 _ m0) p2 (.upA _)
theorem zwm{K:Qa}{dc:DC}(hc:dc.Ok){H:Hp}{a l:Addr}{s n:Int}{ns:List Int}{m:Int}{D:Ends}(p:DealAt H a l s n ns)(m0:0<m)(m1:m<1073741824)
 (q:∀k H' s' n' ns',0<=k->k<m->DealAt H' a l s' n' ns'->PotStp a l H H'->D.rt (.int k) H'):zj0 K dc D [some (.ref a),some (.int m),none,none,none] H:=by
 refine⟨λc σ H'=>σ = [some (.ref a),some (.int m),none,none,none]/\∃s n ns,c=ns.length/\DealAt H' a l s n ns/\PotStp a l H H',⟨_,rfl,s,n,ns,rfl,p,.refl _ _ _⟩,?_⟩;rintro c σ H1 ⟨rfl,s,n,ns,rfl,p,st⟩;have out:zks K dc D [some (.ref a),some (.int m),none,none,none] H1:=zs8 hc p m0 m1 λk H' s' n' ns' h1 h2 h3 h4=>q k H' s' n' ns' h1 h2 h3 (st.trans h4);refine ztr p rfl ?_;refine⟨rfl,_,rfl,?_⟩;refine ite2 (λc=>?_) (λc=>iteF out);refine zqa p rfl ?_;refine⟨_,_,rfl,.inl ⟨_,.of p.hl,rfl⟩,_,_,rfl,rfl,_,rfl,?_⟩;refine ite2 (λc2=>?_) (λc2=>out);have c3:=jB c2;have hne:ns≠[]:=λe=>by rw[e] at c3;simp at c3
 obtain⟨r,x,rfl⟩:∃r x,ns=r ++ [x]:=⟨ns.dropLast,ns.getLast hne,(List.dropLast_concat_getLast hne).symm⟩;refine⟨λσ' H'=>σ' = [some (.ref a),some (.int m),none,none,none]/\∃s n ns,ns.length<(r ++ [x]).length/\DealAt H' a l s n ns/\PotStp a l H H',λσ' H' ⟨e,s,n,ns,hl,h1,h2⟩=>⟨_,hl,e,s,n,ns,rfl,h1,h2⟩,?_⟩;refine zqa p rfl ?_;have p1:DealAt (upd H1 l (.lst ((r ++ [x]).map V.int).dropLast)) a l s n r:=⟨p.ne,by rw[zae p.ne];exact p.ha,by rw[zak,Q7];show some (HO.lst (List.dropLast (_ ++ [V.int x])))=_;rw[YT],p.s0,p.s1,p.n0,λz hz=>p.ns0 z (QR _ hz)⟩;refine⟨.inl ⟨rfl,_,.of p.hl⟩,l,_,.int x,rfl,rfl,p.hl,by simp,?_⟩;refine⟨_,rfl,a,_,rfl,zyi p1 x,rfl,s,x,r,by simp,p1.setN (p.ns0 x (by simp)),st.trans (PotStp.trans (.upL _) (.upA _))⟩
theorem zoo{K:Qa}{c:DC}(hc:c.Ok){O:Ob}{H:Hp}{ds:List Tl}{ws:List V}{Qr:R->Prop}{Q:VK}{x1 x2 x3 x4 x5:Str}(hφ:IsDeal O)(p:O.P H)(is:IsAll K (unM O) H ws ds)(q:zcz ds Qr)(kk:∀r,Qr r->∀v H',Stp O H H'->Out K O H H' v r->Q v H'):
 zj0 K c { nx:=λ_ H'=>Q .non H',rt:=Q } (L2.start [x1,x2,x3,x4,x5] (O.v::ws)) H:=by
 obtain⟨m,rfl,m0,m1,q⟩:=q;obtain⟨a,l,hv,ma,ml,h1,h2⟩:=hφ.ex;obtain⟨s,n,ns,pa⟩:=h1 H p;obtain⟨v,rfl,iv⟩:=zbd is;cases iv;rw[hv];exact zwm hc pa m0 m1 λk H' s' n' ns' k0 k1 p' st=>kk _ (q k k0 k1) _ H' (zwh ma ml h2 pa p' st) (Is.int k)
def zu2(K:Qa)(ti ts:TE):TS :=
 tSeq (tAsg (zgp 1 (zex K (tSl (rSlL K) (tVar 0) (zl8 (tVar 1)) (zl8 (tC (.int 63))))) (zbb 0) tYes (tCB zyo (za0 (tVar 0) (za0 (tOp (rI0 λi j=>.int (i-j)) (tC (.int 0)) (tVar 0)) tNil)))) (zbb 2))
 (tSeq (tAsg ti (zbb 3))
 (tSeq (tFor (zex K (tVar 2)) (zbb 4)
  (tAsg ts (zbb 3)))
 (tRet (zyy [(tC (.str "seed"),tVar 3),(tC (.str "number"),tC (.int 0)),(tC (.str "left"),tLR K (zgp 1 (zex K (tVar 2)) (zbb 0) (zgg (tOp (rI0 λi j=>.bl (decide (j<=i))) (tVar 0) (tOp (rI CPow λi j=>.int (i ^ j.toNat)) (tC (.int 10)) (tC (.int 18))))) (tVar 0)))]))))
theorem zrp{K:Qa}{ti ts:TE}{s0:Int}(hs0:0<=s0)(hs1:s0<4294967296)(hi:∀(v v1:V) H Q,Q (.int s0) H->ti [some v,some (.int 0),some v1,none,none] H Q)(hst:∀(v v1:V) (s n:Int) H Q,0<=s->s<4294967296->(∀s',0<=s'->s'<4294967296->Q (.int s') H)->ts [some v,some (.int 0),some v1,some (.int s),some (.int n)] H Q){H:Hp}{Q:VK}{a:Addr}{ns:List Int}(hS:SqL K H a (ns.map V.int))(hl:ns.length<=63)
 (q:∀p l s left H',H p=none->H l=none->Same H H'->DealAt H' p l s 0 left->Q (.ref p) H'):zu2 K ti ts { nx:=λ_ H'=>Q .non H',rt:=Q } [some (.ref a),some (.int 0),none,none,none] H:=by
 have sL:=Ts;refine⟨_,rfl,_,rfl,_,rfl,63,rfl,a,_,rfl,hS,λc hc=>?_⟩;rw[zxu]
 have hcl:(cutL ns (some 0) (some 63)).length<=63:=by
  unfold cutL;rw[QX,Z8];lia
 generalize cutL ns (some 0) (some 63)=cs at hcl;refine⟨c,rfl,⟨_,.of zak⟩,?_⟩;have g1:Same H (upd H c (.lst (cs.map V.int))):=L3.same_new hc _;refine zis (K:=K) (c:=c) (H:=upd H c (.lst (cs.map V.int))) (σ:=[some (.ref a),some (.int 0),none,none,none]) (tf:=tYes) (te:=tCB zyo (za0 (tVar 0) (za0 (tOp (rI0 λi j=>.int (i-j)) (tC (.int 0)) (tVar 0)) tNil))) (λ_=>true) (λn=>if 0-n > n then 0-n else n) (.of zak) hcl (λn H' R r=>r) (λn H' R r=>⟨_,rfl,_,rfl,0,n,rfl,rfl,n,0-n,rfl,r⟩) λd hd=>?_;have hcs:cs.filter (λ_=>true)=cs:=List.filter_eq_self.mpr λ_ _=>rfl;rw[hcs]
 have habs:∀n∈cs.map (λn=>if 0-n > n then 0-n else n),0<=n:=λn hn=>by
  obtain⟨m,_,rfl⟩:=Q0.mp hn
  split <;> lia
 have hal:(cs.map (λn=>if 0-n > n then 0-n else n)).length<=63:=by rw[Qc];exact hcl
 generalize cs.map (λn=>if 0-n > n then 0-n else n)=es at habs hal;have g2:Same H (upd (upd H c (.lst (cs.map V.int))) d (.lst (es.map V.int))):=g1.trans (L3.same_new hd _);generalize eH:upd (upd H c (.lst (cs.map V.int))) d (.lst (es.map V.int))=H1 at g2;have hd1:H1 d=some (.lst (es.map V.int)):=by rw[<- eH];exact zak
 refine hi _ _ _ _ ?_;refine⟨_,rfl,d,rfl,⟨_,.of hd1⟩,?_⟩;refine zxi (xs:=es.map V.int) (λi σ H'=>∃(s:Int) (o:Option V),σ = [some (.ref a),some (.int 0),some (.ref d),some (.int s),o]/\0<=s/\s<4294967296/\H'=H1) ?_ ?_ ?_ ?_
 .exact⟨_,none,rfl,hs0,hs1,rfl⟩
 .rintro i σ H' hi ⟨s,o,rfl,h1,h2,rfl⟩;exact .of hd1
 .rintro i x σ H' hx ⟨s,o,rfl,h1,h2,rfl⟩;rw[Qj] at hx;obtain⟨n,hn,rfl⟩:=Qw.mp hx;exact hst _ _ s n _ _ h1 h2 λs' f0 f1=>⟨_,_,rfl,f0,f1,rfl⟩
 .rintro σ H' ⟨s,o,rfl,h1,h2,rfl⟩;intro p hp;have npd:p≠d:=λz=>by rw[z,hd1] at hp;cases hp
  refine⟨_,rfl,?_⟩;have hd2:upd H' p (.dK []) d=some (.lst (es.map V.int)):=by rw[zae (ZA npd)];exact hd1
  refine⟨_,rfl,d,rfl,⟨_,.of hd2⟩,?_⟩;refine zis (tf:=zgg (tOp (rI0 λi j=>.bl (decide (j<=i))) (tVar 0) (tOp (rI CPow λi j=>.int (i ^ j.toNat)) (tC (.int 10)) (tC (.int 18))))) (te:=tVar 0) (λn=>decide ((10:Int) ^ (18:Int).toNat<=n)) (λn=>n) (.of hd2) hal (λn H' R r=>⟨_,rfl,10,18,rfl,rfl,⟨by decide,by decide,by decide⟩,_,_,rfl,rfl,_,rfl,r⟩) (λn H' R r=>⟨_,rfl,r⟩) λe he=>?_;rw[List.map_id'];have hfl:∀n∈es.filter (λn=>decide ((10:Int) ^ (18:Int).toNat<=n)),0<=n:=λn hn=>habs n (JV.mp hn).1;generalize es.filter (λn=>decide ((10:Int) ^ (18:Int).toNat<=n))=left at hfl;have npe:p≠e:=λz=>by rw[<- z,zak] at he;cases he
  refine⟨e,_,rfl,.of zak,λl hln=>?_⟩
  have npl:p≠l:=λz=>by
   rw[<- z,zae npe,zak] at hln;cases hln
  have nel:e≠l:=λz=>by rw[<- z,zak] at hln;cases hln
  have hlp:upd H' p (.dK []) l=none:=by rw[zae (ZA nel)] at hln;exact hln
  have hlH:H' l=none:=by rw[zae (ZA npl)] at hlp;exact hlp
  refine⟨by rw[zae npl,zae npe];exact zak,zbm s 0 l,rfl,by show 3<=15;decide,?_⟩
  have em:zek [] (zbm s 0 l)=zbm s 0 l:=by
   have a1:¬(zc1=kNum):=by decide +kernel
   have a2:¬(zc1=zd4):=by decide +kernel
   have a3:¬(kNum=zd4):=by decide +kernel
   simp[zek,zbm,putK,a1,a2,a3]
  rw[em];have heH:H' e=none:=by rw[zae (ZA npe)] at he;exact he
  have hm:(left.map V.int).reverse=left.reverse.map V.int:=List.map_reverse.symm;rw[hm];refine q p l s left.reverse _ (g2.free hp) (g2.free hlH) (λb o eb=>?_) ⟨npl,zak,?_,h1,h2,Int.le_refl 0,λn hn=>hfl n (List.mem_reverse.mp hn)⟩
  .have e1:=g2 b o eb;have n1:b≠p:=λz=>by rw[z,hp] at e1;cases e1
   have n2:b≠l:=λz=>by rw[z,hlH] at e1;cases e1
   have n3:b≠e:=λz=>by rw[z,heH] at e1;cases e1
   rw[zae n1,zae n2,zae n3,zae n1];exact e1
  .rw[zae (ZA npl)];exact zak
end L3
namespace L37
open PySem PySem.Spec
open PyProof.Rows hiding St
open L2 L3
def top(i:Nat):Stmt:=PySem.Challenge.pw_lostpost_k37_the_least_ahead.main.body.getD i (.Pass ⟨0,0,0,0⟩)
section
variable {P:Tr}{w:Tt}{K:Qa}{mg:Str->Option Tn}{base:Heap}{k:Nat}
abbrev zl1(P:Tr)(w:Tt)(K:Qa)(mg:Str->Option Tn)(base:Heap):Prop:=Def3 P w K mg base 1 "_law_draw" ["_law_deal_here", "_law_many"] (spD K IsDeal 1 zcz)
abbrev zrd:Stmt:=top 17
theorem z5o:FnScope ["_law_script", "_law_base", "_law_cells", "_law_number", "_law_cell"] ["_law_script", "_law_base"] (zai zrd):=⟨rfl,rfl,rfl,by decide +kernel,rfl,by decide +kernel,by decide +kernel⟩
theorem d_law_deal(B:Blt mg)(T:Top3 K mg "_law_deal" zrd):Def3 P w K mg base 1 "_law_deal" ["_law_script", "_law_base"] (zjk K):=by
 obtain⟨f,fd,Fu,m⟩:=T.ex;refine⟨f,fd,Fu.ok z5o (λvs H Q E h=>by obtain⟨a,ns,rfl,_⟩:=h;rfl) (λcdv A outer s H vs Q E hr h=>?_),m,Fu.kp,Fu.binds (λ_ _ _ _ _ _ us hl=>len2 hl λ_ _=>rfl)⟩;obtain⟨a,ns,rfl,hS,hl,q⟩:=h;refine⟨zu2 K (tOp (rI0 λi j=>.int (i+j)) (tC (.int 7919)) (tVar 1)) (tOp (rI (λ_ j=>0<j) λi j=>.int (i % j)) (tOp (rI0 λi j=>.int (i+j)) (tOp (rI CMul λi j=>.int (i * j)) (tVar 3) (tC (.int 69621))) (tOp (rI (λ_ j=>0<j) λi j=>.int (i % j)) (tVar 4) (tC (.int 2147483629)))) (tC (.int 2147483647))),?_,zrp (s0:=7919+0) (by decide) (by decide) (λv v1 H Q q=>⟨_,rfl,7919,0,rfl,rfl,q⟩) (λv v1 s n H Q h1 h2 q=>⟨_,rfl,s,69621,rfl,rfl,.inl ⟨by lia,by lia⟩,_,rfl,n,2147483629,rfl,rfl,(show(0:Int)<2147483629 by decide),_,_,rfl,rfl,_,_,rfl,rfl,(show(0:Int)<2147483647 by decide),q _ (JX _ (by decide)) (Int.lt_of_lt_of_le (J2 _ (by decide)) (by decide))⟩) hS hl q⟩;have nd:(["_law_script", "_law_base", "_law_cells", "_law_number", "_law_cell"]:List Str).Nodup:=by decide +kernel
 exact(zbo (zi1 (n0:=2) nd rfl rfl rfl 1 (N':=["_law_cell", "_law_script", "_law_base", "_law_cells", "_law_number", "._law_cell"]) (.of rfl (by kernel_rfl)) rfl (zfi (znw sl_list (zam (i:=0) rfl (by first|exact Or.inl rfl|exact Or.inr (Or.inl rfl)|exact Or.inr (Or.inr rfl))) (zkw (zam (i:=1) rfl (by first|exact Or.inl rfl|exact Or.inr (Or.inl rfl)|exact Or.inr (Or.inr rfl)))) (zkw za5))) (λC s H ex=>zec (jB (by kernel_rfl)) rfl (by first|exact Or.inl rfl|exact Or.inr rfl) (by first|exact .inl rfl|exact .inr rfl)) (zeg (by decide)) (λC s H ex=>znl) (λC s H ex=>zeo (zs2 rfl) rfl B.max z2z (za3 (zam (i:=0) rfl (by first|exact Or.inl rfl|exact Or.inr (Or.inl rfl)|exact Or.inr (Or.inr rfl))) (za3 (zbj z3c za5 (zam (i:=0) rfl (by first|exact Or.inl rfl|exact Or.inr (Or.inl rfl)|exact Or.inr (Or.inr rfl)))) zbs))))
  (zbo (zdi (i:=3) nd rfl (by first|exact Or.inl rfl|exact Or.inr rfl) (zbj op_add za5 (zam (i:=1) rfl (by first|exact Or.inl rfl|exact Or.inr (Or.inl rfl)|exact Or.inr (Or.inr rfl)))))
  (zbo (zvf VY rfl (zfi (zam (i:=2) rfl (by first|exact Or.inl rfl|exact Or.inr (Or.inl rfl)|exact Or.inr (Or.inr rfl)))) (zec (i:=4) nd rfl (by first|exact Or.inl rfl|exact Or.inr rfl)) (zdo (zdi (i:=3) nd rfl (by first|exact Or.inl rfl|exact Or.inr rfl) (zbj zdx (zbj op_add (zbj zfc (zam (i:=3) rfl (by first|exact Or.inl rfl|exact Or.inr (Or.inl rfl)|exact Or.inr (Or.inr rfl))) za5) (zbj zdx (zam (i:=4) rfl (by first|exact Or.inl rfl|exact Or.inr (Or.inl rfl)|exact Or.inr (Or.inr rfl))) za5)) za5))))
  (zdo (zfm (z0l (zig zbw (zam (i:=3) rfl (by first|exact Or.inl rfl|exact Or.inr (Or.inl rfl)|exact Or.inr (Or.inr rfl))) (zig zbw za5 (zig zbw (zra (hr.hd) rfl B.list rfl B.reversed (zkh 1 (N':=["_law_cell", "_law_script", "_law_base", "_law_cells", "_law_number", "._law_cell"]) (.of rfl (by kernel_rfl)) rfl (zfi (zam (i:=2) rfl (by first|exact Or.inl rfl|exact Or.inr (Or.inl rfl)|exact Or.inr (Or.inr rfl)))) (λC s H ex=>zec (jB (by kernel_rfl)) rfl (by first|exact Or.inl rfl|exact Or.inr rfl) (by first|exact .inl rfl|exact .inr rfl)) (zeg (by decide)) (λC s H ex=>zu8 (zff z7k (zam (i:=0) rfl (by first|exact Or.inl rfl|exact Or.inr (Or.inl rfl)|exact Or.inr (Or.inr rfl))) (zbj z4l za5 za5) (zcl _))) (λC s H ex=>(zam (i:=0) rfl (by first|exact Or.inl rfl|exact Or.inr (Or.inl rfl)|exact Or.inr (Or.inr rfl)))))) z2g))) rfl rfl (by simp) (by decide)))))))
def dc:DC:=⟨7919,40692,104729,2147483399,2147483563,2147483629⟩
theorem z6k:dc.Ok:=⟨by decide,by decide,by decide,by decide⟩
abbrev zq8:Stmt:=top 18
theorem z4a:FnScope ["_law_deal_here", "_law_many", "_law_number", "_law_one", "_law_other"] ["_law_deal_here", "_law_many"] (zai zq8):=⟨rfl,rfl,rfl,by decide +kernel,rfl,by decide +kernel,by decide +kernel⟩
theorem d_law_draw(B:Blt mg)(T:Top3 K mg "_law_draw" zq8):Def3 P w K mg base 1 "_law_draw" ["_law_deal_here", "_law_many"] (spD K IsDeal 1 zcz):=by
 obtain⟨f,fd,Fu,m⟩:=T.ex;refine⟨f,fd,Fu.ok z4a (zo9 rfl) (λcdv A outer s H vs Q E hr h=>?_),m,Fu.kp,Fu.binds (λ_ _ _ _ _ _ us hl=>len2 hl λ_ _=>rfl)⟩;obtain⟨O,ds,ws,Qr,ok,hφ,p,hl,rfl,is,q,kk⟩:=h;refine⟨zj0 K dc,?_,zoo z6k hφ p is q kk⟩;have nd:(["_law_deal_here", "_law_many", "_law_number", "_law_one", "_law_other"]:List Str).Nodup:=by decide +kernel
 exact(zbo (zxt VY (PW.pt (zvj (zff z6c (zdk (zdr hr) (zam (i:=0) rfl (by first|exact Or.inl rfl|exact Or.inr (Or.inl rfl)|exact Or.inr (Or.inr rfl))) zbw (λ_ _=>rfl)) za5 (zcl _)) (zpe (zff zr4 (zeo zh8 rfl B.len znr (za3 (zdk (zdr hr) (zam (i:=0) rfl (by first|exact Or.inl rfl|exact Or.inr (Or.inl rfl)|exact Or.inr (Or.inr rfl))) zbw (λ_ _=>rfl)) zbs)) za5 (zcl _))))) (zdo (zkl (zdr hr) (zam (i:=0) rfl (by first|exact Or.inl rfl|exact Or.inr (Or.inl rfl)|exact Or.inr (Or.inr rfl))) zbw (zs1 Jv Ud Ue z0u (zdk (zdr hr) (zam (i:=0) rfl (by first|exact Or.inl rfl|exact Or.inr (Or.inl rfl)|exact Or.inr (Or.inr rfl))) zbw (λ_ _=>rfl))) rfl)))
  (zbo (zdi (i:=2) nd rfl (by first|exact Or.inl rfl|exact Or.inr rfl) (zdk (zdr hr) (zam (i:=0) rfl (by first|exact Or.inl rfl|exact Or.inr (Or.inl rfl)|exact Or.inr (Or.inr rfl))) zbw (λ_ _=>rfl)))
  (zbo (zyd (zff zr4 (zam (i:=2) rfl (by first|exact Or.inl rfl|exact Or.inr (Or.inl rfl)|exact Or.inr (Or.inr rfl))) za5 (zcl _)) (zbo (zkl (zdr hr) (zam (i:=0) rfl (by first|exact Or.inl rfl|exact Or.inr (Or.inl rfl)|exact Or.inr (Or.inr rfl))) zbw (zbj z0n (zam (i:=2) rfl (by first|exact Or.inl rfl|exact Or.inr (Or.inl rfl)|exact Or.inr (Or.inr rfl))) (zam (i:=1) rfl (by first|exact Or.inl rfl|exact Or.inr (Or.inl rfl)|exact Or.inr (Or.inr rfl)))) rfl) (zdo (zfm (zbj zdx (zam (i:=2) rfl (by first|exact Or.inl rfl|exact Or.inr (Or.inl rfl)|exact Or.inr (Or.inr rfl))) (zam (i:=1) rfl (by first|exact Or.inl rfl|exact Or.inr (Or.inl rfl)|exact Or.inr (Or.inr rfl))))))) zql)
  (zbo (zdi (i:=3) nd rfl (by first|exact Or.inl rfl|exact Or.inr rfl) (zbj zdx (zbj op_add (zbj zfc (zdk (zdr hr) (zam (i:=0) rfl (by first|exact Or.inl rfl|exact Or.inr (Or.inl rfl)|exact Or.inr (Or.inr rfl))) zbw (λ_ _=>rfl)) za5) za5) za5))
  (zbo (zkl (zdr hr) (zam (i:=0) rfl (by first|exact Or.inl rfl|exact Or.inr (Or.inl rfl)|exact Or.inr (Or.inr rfl))) zbw (zbj zdx (zbj op_add (zbj zfc (zam (i:=3) rfl (by first|exact Or.inl rfl|exact Or.inr (Or.inl rfl)|exact Or.inr (Or.inr rfl))) za5) za5) za5) rfl)
  (zbo (zdi (i:=4) nd rfl (by first|exact Or.inl rfl|exact Or.inr rfl) (zbj zdx (zbj zfc (zdk (zdr hr) (zam (i:=0) rfl (by first|exact Or.inl rfl|exact Or.inr (Or.inl rfl)|exact Or.inr (Or.inr rfl))) zbw (λ_ _=>rfl)) (zdk (zdr hr) (zam (i:=0) rfl (by first|exact Or.inl rfl|exact Or.inr (Or.inl rfl)|exact Or.inr (Or.inr rfl))) zbw (λ_ _=>rfl))) za5))
  (zdo (zfm (zbj zdx (zbj op_add (zbj zfc (zbj zdx (zbj zfc (zam (i:=3) rfl (by first|exact Or.inl rfl|exact Or.inr (Or.inl rfl)|exact Or.inr (Or.inr rfl))) (zam (i:=3) rfl (by first|exact Or.inl rfl|exact Or.inr (Or.inl rfl)|exact Or.inr (Or.inr rfl)))) za5) za5) (zam (i:=4) rfl (by first|exact Or.inl rfl|exact Or.inr (Or.inl rfl)|exact Or.inr (Or.inr rfl)))) (zam (i:=1) rfl (by first|exact Or.inl rfl|exact Or.inr (Or.inl rfl)|exact Or.inr (Or.inr rfl))))))))))))
end
end L37
namespace L3
open PySem PySem.Spec
open PyProof.Rows hiding St
open L2
theorem znx:TK "enumerate" = some (.type "enumerate"):=by decide +kernel
section
variable {K:Qa}{O:Ob}
def zev(ds:List Tl):List Tl:=ds.mapIdx λi d=>.tuple [.int (i:Nat),d]
theorem zsz(ds:List Tl):(zev ds).length=ds.length:=by unfold zev;rw[List.length_mapIdx]
theorem zu4{i:Nat}{d:Tl}(h:(zev ds)[i]? = some d):∃e,ds[i]? = some e/\d = .tuple [.int (i:Nat),e]:=by
 unfold zev at h;rw[Ul] at h;obtain⟨e,he,rfl⟩:=Qw.mp h;exact⟨e,he,rfl⟩
end
abbrev tS(w:List Nat):Tl:=.str (tx w)
def Sml(w:List Nat):Prop:=w.length<=100/\∀c∈w,c<128
theorem zn0{w:List Nat}(h:Sml w):Zu (tx w)=true:=by
 rw[strOk_iff];intro c hc;rw[zck] at hc;have:=h.2 c hc;lia
mutual
def solid:Tl->Bool
 | .none=>true
 | .int _=>true
 | .str _=>true
 | .tuple ds=>solids ds
 | _=>false
def solids:List Tl->Bool
 | []=>true
 | d::ds=>solid d && solids ds
end
mutual
theorem eqv_solid:∀d e:Tl,solid d=true->solid e=true->(QC d e=true↔d=e)
 | .none,e,_,h=>by cases e <;> simp[QC,solid] at *
 | .int i,e,_,h=>by cases e <;> simp[QC,solid] at *
 | .str x,e,_,h=>by cases e <;> simp[QC,solid] at *
 | .tuple ds,e,h0,h=>by
   cases e with
   | tuple es=>
     have:=zjt ds es (by simpa[solid] using h0) (by simpa[solid] using h);simp only[QC];rw[this];exact⟨λz=>by rw[z],λz=>by cases z;rfl⟩
   | none=>simp[QC]
   | int _=>simp[QC]
   | str _=>simp[QC]
   | bool _=>simp[solid] at h
   | list _=>simp[solid] at h
   | dict _=>simp[solid] at h
 | .bool _,_,h,_=>by simp[solid] at h
 | .list _,_,h,_=>by simp[solid] at h
 | .dict _,_,h,_=>by simp[solid] at h
theorem zjt:∀ds es:List Tl,solids ds=true->solids es=true->(Jp ds es=true↔ds=es)
 | [],[],_,_=>by simp[Jp]
 | [],_::_,_,_=>by simp[Jp]
 | _::_,[],_,_=>by simp[Jp]
 | d::ds,e::es,h,h'=>by
   simp only[solids,Qx] at h h';simp only[Jp,Qx];rw[eqv_solid d e h.1 h'.1,zjt ds es h.2 h'.2];simp
end
structure Nice(n b:Nat)(d:Tl):Prop where
 lay:d.canLay0=true
 sh:d.showable=true
 sho:d.leavesShort 13=true
 dep:d.depth<=n
 bul:d.bulk<=b
 sol:solid d=true
theorem Nice.more{n b n' b':Nat}{d:Tl}(h:Nice n b d)(hn:n<=n')(hb:b<=b'):Nice n' b' d:=⟨h.lay,h.sh,h.sho,QY h.dep hn,QY h.bul hb,h.sol⟩
theorem zik{b:Nat}(h:Zu x=true)(hb:x.length<=b):Nice 0 b (.str x):=⟨h,by simp[Jy],zt8 h,Qh _,hb,rfl⟩
theorem zxq{b:Nat}(h:∀c∈v,c<1000)(hb:v.length<=b):Nice 0 b (tS v):=zik (by
 rw[strOk_iff];intro c hc;rw[zck] at hc;have:=h c hc
 lia) (by rw[zdg];exact hb)
theorem num3:∀n,n<1000->(YB 10 n).length<=3:=by decide +kernel
theorem zns{n:Nat}(h:n<1000):Nice 0 0 (.int (n:Nat)):=by
 refine⟨rfl,?_,?_,Qh _,Qh _,rfl⟩
 .rw[Jy,Int.natAbs_natCast];exact j9 (UB (Nat.log2_le_self n) (by lia))
 .rw[Jm,Gr];refine j9 ?_;show(QS (toString ((n:Nat):Int))).cps.size<=13;have e:=PySem.W.KIN.signs_num n
  have e2:(QS (toString ((n:Nat):Int))).cps.size=(YB 10 n).length:=by
   rw[<- QV,e,Qc]
  rw[e2];have:=num3 n h;lia
theorem ziq{α:Type}{f:α->Tl}:∀{l:List α},(∀a∈l,solid (f a)=true)->solids (l.map f)=true
 | [],_=>rfl
 | a::l,h=>by rw[Qu,solids,h a Qp,ziq λx hx=>h x (Qf _ hx)];rfl
theorem zgf{α:Type}{f:α->Tl}{l:List α}{n b m:Nat}(h:∀a∈l,Nice n b (f a))(hl:l.length<=m):Nice (n+1) (m * (b+1)) (.tuple (l.map f)):=by
 refine⟨zcy λa ha=>(h a ha).lay,?_,?_,?_,?_,?_⟩
 .rw[Jy];exact zh0 λa ha=>(h a ha).sh
 .rw[Jm];exact zgv λa ha=>(h a ha).sho
 .rw[QO];have:=zem (f:=f) (n:=n) (l:=l) λa ha=>(h a ha).dep;lia
 .rw[Um];have:=zh1 (f:=f) (n:=b) (l:=l) λa ha=>(h a ha).bul;exact QY this (Nat.mul_le_mul_right _ hl)
 .rw[solid];exact ziq λa ha=>(h a ha).sol
theorem nice_nil:Nice 1 0 (.tuple []):=⟨rfl,by simp[Jy,JS],by simp[Jm,J5],by simp[QO,Zq],Qh _,rfl⟩
theorem zha{n b b':Nat}{d:Tl}(h:Nice n b d)(h':Nice (n+1) b' (.tuple ds)):Nice (n+1) (b+1+b') (.tuple (d::ds)):=by
 obtain⟨a1,a2,a3,a4,a5,a6⟩:=h;obtain⟨b1,b2,b3,b4,b5,b6⟩:=h';simp only[Z9,Jy,Jm,QO,Um,solid] at b1 b2 b3 b4 b5 b6;refine⟨?_,?_,?_,?_,?_,?_⟩
 .simp only[Z9,Qz,a1,b1];rfl
 .simp only[Jy,JS,a2,b2];rfl
 .simp only[Jm,J5,a3,b3];rfl
 .simp only[QO,Zq];lia
 .simp only[Um,Vt];lia
 .simp only[solid,solids,a6,b6];rfl
theorem zvc(n:Nat):Nice (n+1) 0 (.tuple []):=nice_nil.more (by lia) (Qh _)
theorem Nice.okD{n b:Nat}{d:Tl}(h:Nice n b d)(hn:n<=60:=by decide):L3.okD d=true:=by
 unfold L3.okD;rw[h.lay];have:=h.dep;simp;lia
theorem z0o{n b n' b':Nat}{neg:Bool}{d:Tl}(h:Nice n b d)(h':Nice n' b' e)(hn:n<=60:=by decide){q:Bool}(hq:q=true↔d=e):eqF neg d e=some (.o (.bool (if neg then !q else q))):=by
 unfold eqF;rw[j7 (by rw[h.okD hn,h'.lay];rfl)]
 have e1:QC d e=q:=by
  have:=(eqv_solid d e h.sol h'.sol).trans hq.symm;cases h1:QC d e <;> cases q <;> simp_all
 rw[e1]
theorem z0w{i:Nat}{d:Tl}(h:ds[i]? = some d):idxF (.list ds) (.int (i:Nat))=some (.o d):=by
 show(atI ds _).map R.o=_;rw[zkr (v:=d) h];rfl
theorem z0e{i:Nat}{d:Tl}(h:ds[i]? = some d):idxF (.tuple ds) (.int (i:Nat))=some (.o d):=by
 show(atI ds _).map R.o=_;rw[zkr (v:=d) h];rfl
theorem zp9(h:a.length+b.length<=16777216):addF (.list a) (.list b)=some (.n (a++b)):=by
 show(if a.length+b.length<=sizeLine then some (R.n (a++b)) else none)=_;rw[j7 (by rw[Ts];exact h)]
end L3
namespace L6
structure WO{α:Type}(blt:α->α->Bool):Prop where
 irr:∀a,blt a a=false
 tr:∀a b c,blt a b=true->blt b c=true->blt a c=true
 neg:∀a b c,blt a c=true->blt a b=true\/blt b c=true
section
variable {α:Type}{blt:α->α->Bool}{k:Nat->α}
def Rk(blt:α->α->Bool)(k:Nat->α)(a b:Nat):Prop:=blt (k a) (k b)=true\/(blt (k b) (k a)=false/\a<b)
theorem Rk.trans(W:WO blt){a b c:Nat}(h:Rk blt k a b)(h':Rk blt k b c):Rk blt k a c:=by
 rcases h with h|⟨h,l⟩ <;> rcases h' with h'|⟨h',l'⟩
 .exact .inl (W.tr _ _ _ h h')
 .rcases W.neg _ (k c) _ h with z|z
  .exact .inl z
  .rw[h'] at z;cases z
 .rcases W.neg _ (k a) _ h' with z|z
  .rw[h] at z;cases z
  .exact .inl z
 .refine .inr ⟨?_,by lia⟩
  cases e:blt (k c) (k a) with
  | false=>rfl
  | true=>
    rcases W.neg _ (k b) _ e with z|z
    .rw[h'] at z;cases z
    .rw[h] at z;cases z
theorem Rk.le(W:WO blt){a b:Nat}(h:Rk blt k a b):blt (k b) (k a)=false:=by
 rcases h with h|⟨h,_⟩
 .cases e:blt (k b) (k a) with
  | false=>rfl
  | true=>have:=W.tr _ _ _ h e;rw[W.irr] at this;cases this
 .exact h
theorem zfv(W:WO blt)(h:blt x y=true)(h':blt z y=false):blt x z=true:=by
 rcases W.neg _ z _ h with e|e
 .exact e
 .rw[h'] at e;cases e
theorem zyh(W:WO blt){x y z:α}(h:blt y x=false)(h':blt y z=true):blt x z=true:=by
 rcases W.neg _ x _ h' with e|e
 .rw[h] at e;cases e
 .exact e
theorem zjc(W:WO blt)(h:blt y x=false)(h':blt z y=false):blt z x=false:=by
 cases e:blt z x with
 | false=>rfl
 | true=>
   rcases W.neg _ y _ e with q|q
   .rw[h'] at q;cases q
   .rw[h] at q;cases q
def Up(blt:α->α->Bool)(k:Nat->α)(ix:Nat->Nat)(m:Nat):Prop:=∀i j,i<j->j<m->Rk blt k (ix i) (ix j)
def Dn(blt:α->α->Bool)(k:Nat->α)(ix:Nat->Nat)(m:Nat):Prop:=∀i j,i<j->j<m->Rk blt k (ix j) (ix i)
structure Pre(ix:Nat->Nat)(m:Nat):Prop where
 lt:∀i,i<m->ix i<m
 id:∀i,m<=i->ix i=i
theorem Pre.more{m n:Nat}(h:Pre ix m)(hm:m<=n):Pre ix n :=
 ⟨λi hi=>by
  by_cases z:i<m
  .have:=h.lt i z;lia
  .rw[h.id i (by lia)];exact hi,λi hi=>h.id i (by lia)⟩
theorem Pre.idf:Pre (λi=>i) m:=⟨λ_ h=>h,λ_ _=>rfl⟩
def mixF(ix:Nat->Nat)(i j:Nat):Nat->Nat:=λp=>if i<=p/\p<j then ix (i+j-1-p) else ix p
def bubF(ix:Nat->Nat)(s l:Nat):Nat->Nat:=λp=>if p=l then ix s else if l<p/\p<=s then ix (p-1) else ix p
theorem Pre.mix{m i j:Nat}(h:Pre ix m)(hj:j<=m):Pre (mixF ix i j) m:=by
 refine⟨λp hp=>?_,λp hp=>?_⟩
 .unfold mixF
  split
  .exact h.lt _ (by lia)
  .exact h.lt _ hp
 .unfold mixF;rw[j8 (by lia)];exact h.id p hp
theorem Pre.bub{s l:Nat}(h:Pre ix s)(hl:l<=s):Pre (bubF ix s l) (s+1):=by
 refine⟨λp hp=>?_,λp hp=>?_⟩
 .unfold bubF
  split
  .rw[h.id s (Qh _)];lia
  .split
   .have:=h.lt (p-1) (by lia);lia
   .have:=h.lt p (by lia);lia
 .unfold bubF;rw[j8 (by lia),j8 (by lia)];exact h.id p (by lia)
theorem z5f(W:WO blt){m:Nat}(h:Up blt k ix m)(hm:0<m)(n:Rk blt k (ix (m-1)) (ix m)):Up blt k ix (m+1):=λi j hij hj=>by
 by_cases e:j<m
 .exact h i j hij e
 .have:j=m:=by lia
  subst this
  by_cases e2:i=j-1
  .subst e2;exact n
  .exact(h i (j-1) (by lia) (by lia)).trans W n
theorem z5x{m:Nat}(h:Dn blt k ix m):Up blt k (mixF ix 0 m) m:=λi j hij hj=>by
 unfold mixF;rw[j7 (by lia),j7 (by lia)];exact h _ _ (by lia) (by lia)
theorem z3d{s l:Nat}(h:Up blt k ix s)(p:Pre ix s)(hl:l<=s)(lo:∀i,i<l->blt (k s) (k (ix i))=false)(hi:∀i,l<=i->i<s->blt (k s) (k (ix i))=true):Up blt k (bubF ix s l) (s+1):=by
 have es:=p.id s (Qh _);intro i j hij hj;unfold bubF
 by_cases a:i=l
 .rw[j7 a,j8 (by lia),j7 (by lia),es];exact .inl (hi _ (by lia) (by lia))
 .rw[j8 a]
  by_cases b:l<i/\i<=s
  .rw[j7 b,j8 (by lia),j7 (by lia)];exact h _ _ (by lia) (by lia)
  .rw[j8 b]
   by_cases c:j=l
   .rw[j7 c,es];exact .inr ⟨lo i (by lia),p.lt i (by lia)⟩
   .rw[j8 c]
    by_cases d:l<j/\j<=s
    .rw[j7 d];exact h _ _ (by lia) (by lia)
    .rw[j8 d];exact h _ _ (by lia) (by lia)
structure Des(blt:α->α->Bool)(k:Nat->α)(ix:Nat->Nat)(m q:Nat):Prop where
 le:q+1<=m
 up:∀i j,i<j->j<m->i+(q+1)<m->Rk blt k (ix j) (ix i)
 far:∀i j,i+(q+1)<m->m<=j+(q+1)->j<m->blt (k (ix j)) (k (ix i))=true
 al:∀i j,m<=i+(q+1)->i<j->j<m->blt (k (ix i)) (k (ix j))=false/\blt (k (ix j)) (k (ix i))=false/\ix i<ix j
theorem Des.turn{m q:Nat}(h:Des blt k ix m q):Dn blt k (mixF ix (m-(q+1)) m) m:=by
 intro i j hij hj;have:=h.le;unfold mixF
 by_cases a:m-(q+1)<=i/\i<m
 .rw[j7 a,j7 (by lia)];obtain⟨h1,h2,h3⟩:=h.al (m-(q+1)+m-1-j) (m-(q+1)+m-1-i) (by lia) (by lia) (by lia);exact .inr ⟨h2,h3⟩
 .rw[j8 a]
  by_cases b:m-(q+1)<=j/\j<m
  .rw[j7 b];exact h.up _ _ (by lia) (by lia) (by lia)
  .rw[j8 b];exact h.up _ _ hij hj (by lia)
theorem Des.dn{m:Nat}(h:Des blt k ix m 0):Dn blt k ix m:=λi j hij hj=>h.up i j hij hj (by lia)
theorem zhq(W:WO blt){m:Nat}(h:Dn blt k ix m)(hm:0<m)(n:blt (k (ix m)) (k (ix (m-1)))=true):Des blt k ix (m+1) 0:=by
 have hb:∀i,i<m->blt (k (ix m)) (k (ix i))=true:=λi hi=>by
  by_cases e:i=m-1
  .subst e;exact n
  .exact zfv W n ((h i (m-1) (by lia) (by lia)).le W)
 refine⟨by lia,λi j hij hj _=>?_,λi j h1 h2 h3=>?_,λi j h1 h2 h3=>by lia⟩
 .by_cases e:j<m
  .exact h i j hij e
  .have:j=m:=by lia
   subst this;exact .inl (hb i hij)
 .have:j=m:=by lia
  subst this;exact hb i (by lia)
theorem z5a(W:WO blt){m q:Nat}(h:Des blt k ix m q)(p:Pre ix m)(n1:blt (k (ix m)) (k (ix (m-1)))=false)(n2:blt (k (ix (m-1))) (k (ix m))=false):Des blt k ix (m+1) (q+1):=by
 have hl:=h.le;have em:=p.id m (Qh _)
 have key:∀i,m<=i+(q+1)->i<m->blt (k (ix i)) (k (ix m))=false/\blt (k (ix m)) (k (ix i))=false:=λi h1 h2=>by
  by_cases e:i=m-1
  .subst e;exact⟨n2,n1⟩
  .obtain⟨a,b,_⟩:=h.al i (m-1) h1 (by lia) (by lia);exact⟨zjc W n2 a,zjc W b n1⟩
 refine⟨by lia,λi j hij hj hi=>?_,λi j h1 h2 h3=>?_,λi j h1 h2 h3=>?_⟩
 .by_cases e:j<m
  .exact h.up i j hij e (by lia)
  .have:j=m:=by lia
   subst this;exact .inl (zyh W n2 (h.far i (j-1) (by lia) (by lia) (by lia)))
 .by_cases e:j<m
  .exact h.far i j (by lia) (by lia) e
  .have:j=m:=by lia
   subst this;exact zyh W n2 (h.far i (j-1) (by lia) (by lia) (by lia))
 .by_cases e:j<m
  .exact h.al i j (by lia) h2 e
  .have:j=m:=by lia
   subst this;obtain⟨a,b⟩:=key i (by lia) h2;refine⟨a,b,?_⟩;rw[em];exact p.lt i h2
structure Bij(ix:Nat->Nat)(n:Nat):Prop where
 lt:∀i,i<n->ix i<n
 inj:∀i j,i<n->j<n->ix i=ix j->i=j
 sur:∀p,p<n->∃i,i<n/\ix i=p
theorem Bij.idf{n:Nat}:Bij (λi=>i) n:=⟨λ_ h=>h,λ_ _ _ _ e=>e,λp h=>⟨p,h,rfl⟩⟩
theorem Bij.comp{n:Nat}(h:Bij ix n)(g:Bij f n):Bij (λp=>ix (f p)) n :=
 ⟨λi hi=>h.lt _ (g.lt i hi),λi j hi hj e=>g.inj i j hi hj (h.inj _ _ (g.lt i hi) (g.lt j hj) e),λp hp=>by
  obtain⟨i,hi,e⟩:=h.sur p hp;obtain⟨j,hj,e'⟩:=g.sur i hi
  exact⟨j,hj,by rw[e',e]⟩⟩
theorem Bij.of{f g:Nat->Nat}{n:Nat}(a:∀i,i<n->f i<n)(b:∀i,i<n->g i<n)(c:∀i,i<n->g (f i)=i)(d:∀i,i<n->f (g i)=i):Bij f n :=
 ⟨a,λi j hi hj e=>by rw[<- c i hi,e,c j hj],λp hp=>⟨g p,b p hp,d p hp⟩⟩
def swF(i j p:Nat):Nat:=if i<=p/\p<j then i+j-1-p else p
def bbF(s l p:Nat):Nat:=if p=l then s else if l<p/\p<=s then p-1 else p
def bbG(s l p:Nat):Nat:=if p=s then l else if l<=p/\p<s then p+1 else p
theorem zvy{i j n p:Nat}(hj:j<=n)(hp:p<n):swF i j p<n:=by unfold swF;split <;> lia
theorem zt6(i j p:Nat):swF i j (swF i j p)=p:=by
 unfold swF
 by_cases a:i<=p/\p<j
 .rw[j7 a,j7 (by lia)];lia
 .rw[j8 a,j8 a]
theorem Bij.mix{n i j:Nat}(h:Bij ix n)(hj:j<=n):Bij (mixF ix i j) n:=by
 have e:mixF ix i j=λp=>ix (swF i j p):=by
  funext p;unfold mixF swF
  split <;> rfl
 rw[e];exact h.comp (.of (g:=swF i j) (λp hp=>zvy hj hp) (λp hp=>zvy hj hp) (λp _=>zt6 i j p) λp _=>zt6 i j p)
theorem Bij.bub{n s l:Nat}(h:Bij ix n)(hs:s<n)(hl:l<=s):Bij (bubF ix s l) n:=by
 have e:bubF ix s l=λp=>ix (bbF s l p):=by
  funext p;unfold bubF bbF
  split
  .rfl
  .split <;> rfl
 rw[e];refine h.comp (.of (g:=bbG s l) (λp hp=>?_) (λp hp=>?_) (λp hp=>?_) λp hp=>?_)
 .unfold bbF;repeat' split
  all_goals lia
 .unfold bbG;repeat' split
  all_goals lia
 .unfold bbF bbG;repeat' split
  all_goals lia
 .unfold bbF bbG;repeat' split
  all_goals lia
theorem Bij.perm{n:Nat}(h:Bij ix n):((QH n).map ix).Perm (QH n):=by
 rw[List.perm_iff_count];intro a
 have nd:((QH n).map ix).Nodup:=by
  unfold List.Nodup;rw[Zl,ZD];intro i j hi hj hij e;rw[QZ] at hi hj;rw[ZT,ZT] at e;have:=h.inj i j hi hj e;lia
 rw[nd.count,YO.count]
 have:(a∈(QH n).map ix)↔a∈QH n:=by
  rw[Q0,QJ];constructor
  .rintro⟨i,hi,rfl⟩;exact h.lt i (QJ.mp hi)
  .intro ha;obtain⟨i,hi,e⟩:=h.sur a ha;exact⟨i,QJ.mpr hi,e⟩
 by_cases z:a∈QH n
 .rw[j7 z,j7 (this.mpr z)]
 .rw[j8 z,j8 λq=>z (this.mp q)]
end
end L6
namespace L6
open PySem PyProof.Rows
section
variable {prog:Tr}{w:Tt}{A:Tv}{E:Tn->To->Prop}{s:To}{α:Type}{blt:α->α->Bool}{k:Nat->α}{a₀:Array Keyed}{kd:Nn}{ix:Nat->Nat}{st:SortSt}
def zd5(prog:Tr)(w:Tt)(A:Tv)(s:To)(kd:Nn)(a₀:Array Keyed)(blt:α->α->Bool)(k:Nat->α):Prop :=
 ∀(i j:Nat) (x p y q:Tn) (E:Tn->To->Prop) (Q:Bool->To->Prop),a₀[i]? = some (x,p)->a₀[j]? = some (y,q)->Q (blt (k i) (k j)) s->wpAny (model prog w) A (keyLt' kd x y) Q E s
structure Sb(a₀:Array Keyed)(kd:Nn)(ix:Nat->Nat)(st:SortSt):Prop where
 sz:(MF st).size=a₀.size
 at_:∀i,i<a₀.size->(MF st)[i]? = a₀[ix i]?
 bj:Bij ix a₀.size
 fa:Nc st=none
 pe:pendingOf st = #[]
 ki:kindOf st=kd
theorem zjv{i j:Nat}(hC:zd5 prog w A s kd a₀ blt k)(b:Sb a₀ kd ix st)(hi:i<a₀.size)(hj:j<a₀.size)(h:Q (some (blt (k (ix i)) (k (ix j)))) st):wpS (model prog w) A E s (ltAt' i j) Q st:=by
 obtain⟨⟨x,p⟩,gi⟩:∃z,a₀[ix i]? = some z:=⟨_,Q5 (b.bj.lt i hi)⟩;obtain⟨⟨y,q⟩,gj⟩:∃z,a₀[ix j]? = some z:=⟨_,Q5 (b.bj.lt j hj)⟩;rw[ltAt'_eq];refine TH (jn ?_);change wpS (model prog w) A E s (elem' (MF st) i >>= λx=>elem' (MF st) j >>= λy=>lt' x y) Q st;rw[elem'_eq,elem'_eq,b.at_ i hi,b.at_ j hj,gi,gj];refine TH (TU (TH (TU ?_)));rw[lt'_eq];refine TH (jn ?_);rw[b.ki];refine TH (wpS_lift (Mk (hC _ _ _ _ _ _ _ _ gi gj ⟨rfl,?_⟩)));exact TU h
theorem Sb.mix{i j:Nat}(b:Sb a₀ kd ix st)(hj:j<=a₀.size):Sb a₀ kd (mixF ix i j) (setArr st (mirror (MF st) i j ((j-i) / 2))):=by
 refine⟨(mirror_size _ _ _ _).trans b.sz,λp hp=>?_,b.bj.mix hj,b.fa,b.pe,b.ki⟩;show(mirror (MF st) i j ((j-i) / 2))[p]? = _;rw[getElem?_mirror_all (by rw[b.sz];exact hj)];unfold mixF
 split
 .exact b.at_ _ (by lia)
 .exact b.at_ _ hp
theorem Sb.bub{q l:Nat}(b:Sb a₀ kd ix st)(hq:q<a₀.size)(hl:l<=q):Sb a₀ kd (bubF ix q l) (setArr st (bubble (MF st) q (q-l))):=by
 refine⟨(bubble_size _ _ _).trans b.sz,λp hp=>?_,b.bj.bub hq hl,b.fa,b.pe,b.ki⟩;show(bubble (MF st) q (q-l))[p]? = _;rw[getElem?_bubble (by rw[b.sz];exact hq) _ (by lia),show q-(q-l)=l by lia];unfold bubF
 split
 .exact b.at_ _ hq
 .split
  .exact b.at_ _ (by lia)
  .exact b.at_ _ hp
theorem z5y{n ok:Nat}(W:WO blt)(hC:zd5 prog w A s kd a₀ blt k)(hn:n<=a₀.size)(hok:ok<=n)(h1:1<=ok)(b:Sb a₀ kd ix st)(up:Up blt k ix ok)(pr:Pre ix ok)
 (h:∀ix' st',Sb a₀ kd ix' st'->Up blt k ix' n->Q true st'):wpS (model prog w) A E s (binarySort' 0 n ok) Q st:=by
 rw[binarySort'_eq];simp only[Vl];rw[show max ok 1=ok by lia];refine TH (j6 (MM (I:=λq c st'=>c=(none,())/\∃ix',Sb a₀ kd ix' st'/\Up blt k ix' q/\Pre ix' q) (Q:=λc st'=>c=(none,())/\∃ix',Sb a₀ kd ix' st'/\Up blt k ix' n) ?turn ?out ⟨rfl,ix,b,up,pr⟩) ?rest)
 case rest=>
  rintro c st' ⟨rfl,ix',b',u'⟩;exact TU (h ix' st' b' u')
 case out=>
  rintro c st' ⟨hc,ix',b',u',_⟩;rw[show max ok n=n by lia] at u';exact⟨hc,ix',b',u'⟩
 case turn=>
  rintro q c st' hq1 hq2 ⟨rfl,ix',b',u',p'⟩;have hq:q<a₀.size:=by lia
  have eq:=p'.id q (Qh _)
  refine TH (j6 (MM (I:=λx c st2=>st2=st'/\∃l r,c=(none,l,r)/\l<=r/\r<=q/\r-l<=q-x/\(∀i,i<l->blt (k q) (k (ix' i))=false)/\∀i,r<=i->i<q->blt (k q) (k (ix' i))=true)
   (Q:=λc st2=>st2=st'/\∃l r,c=(none,l,r)/\l<=q/\(∀i,i<l->blt (k q) (k (ix' i))=false)/\∀i,l<=i->i<q->blt (k q) (k (ix' i))=true) ?tu ?ou ?bg) ?re)
  case bg=>exact⟨rfl,0,q,rfl,by lia,Qh _,by lia,λi z=>absurd z (by lia),λi z z'=>absurd z (by lia)⟩
  case ou=>
   rintro c st2 ⟨rfl,l,r,rfl,z1,z2,z3,z4,z5⟩;have:l=r:=by lia
   subst this;exact⟨rfl,l,l,rfl,z2,z4,z5⟩
  case tu=>
   rintro x c st2 _ hx ⟨rfl,l,r,rfl,z1,z2,z3,z4,z5⟩;dsimp only
   by_cases ge:l ≥ r
   .rw[j7 ge];have:l=r:=by lia
    subst this;exact TU ⟨rfl,l,l,rfl,z2,z4,z5⟩
   .rw[j8 ge];refine TH (zjv hC b' hq (j:=(l+r) / 2) (by lia) ?_);rw[eq]
    cases le:blt (k q) (k (ix' ((l+r) / 2))) with
    | true=>
      simp only[jE];refine TU ⟨rfl,l,(l+r) / 2,rfl,by lia,by lia,by lia,z4,λi y1 y2=>?_⟩
      by_cases e:i=(l+r) / 2
      .subst e;exact le
      .exact zfv W le ((u' _ _ (show(l+r) / 2<i by lia) y2).le W)
    | false=>
      simp only[QI,jD];refine TU ⟨rfl,(l+r) / 2+1,r,rfl,by lia,by lia,by lia,λi y1=>?_,z5⟩
      by_cases e:i=(l+r) / 2
      .subst e;exact le
      .exact zjc W ((u' i _ (show i<(l+r) / 2 by lia) (by lia)).le W) le
  case re=>
   rintro c st2 ⟨rfl,l,r,rfl,z2,z4,z5⟩;change wpS (model prog w) A E s (moveDown' q l >>= λ_=>pure (Yx (none,()))) _ st2;rw[moveDown'_eq];exact TH (wpS_modify (TU ⟨rfl,bubF ix' q l,b'.bub hq z2,z3d u' p' z2 z4 z5,p'.bub z2⟩))
theorem zve{a n:Nat}(W:WO blt)(hC:zd5 prog w A s kd a₀ blt k)(hn:n<=a₀.size)(ha:1<=a)(han:a<=n)(b:Sb a₀ kd ix st)(up:Up blt k ix a)(pr:Pre ix a)
 (h:∀m,a<=m->m<=n->Up blt k ix m->(m=n\/blt (k (ix m)) (k (ix (m-1)))=true)->Q (none,m) st):wpS (model prog w) A E s (ascLoop a n) Q st:=by
 unfold ascLoop;refine MM (I:=λx c st'=>st'=st/\c=(none,x)/\Up blt k ix x) ?turn ?out ⟨rfl,rfl,up⟩
 case out=>
  rintro c st' ⟨rfl,rfl,u⟩;rw[show max a n=n by lia] at u ⊢;exact h n han (Qh _) u (.inl rfl)
 case turn=>
  rintro x c st' h1 h2 ⟨rfl,rfl,u⟩;dsimp only;refine TH (zjv hC b (by lia) (by lia) ?_)
  cases le:blt (k (ix x)) (k (ix (x-1))) with
  | true=>
    simp only[jE];exact TU (h x h1 (by lia) u (.inr le))
  | false=>
    simp only[QI,jD];refine TU ⟨rfl,rfl,z5f W u (by lia) (.inr ⟨le,?_⟩)⟩;rw[(pr.more h1).id x (Qh _)];exact(pr.more h1).lt _ (by lia)
theorem zqo{m n:Nat}(W:WO blt)(hC:zd5 prog w A s kd a₀ blt k)(hn:n<=a₀.size)(h1:1<=m)(hm:m<=n)(b:Sb a₀ kd ix st)(dn:Dn blt k ix m)(pr:Pre ix m)
 (h:∀m' ix' st',Sb a₀ kd ix' st'->1<=m'->m'<=n->Up blt k ix' m'->Pre ix' m'->Q (some m') st'):wpS (model prog w) A E s (tail3 m n) Q st:=by
 unfold tail3;refine TH (NU ?_);have b':=b.mix (i:=0) (j:=m) (by lia);have p':=pr.mix (i:=0) (Qh m);exact TH (zve W hC hn h1 hm b' (z5x dn) p' λm' z1 z2 u _=>TU (h m' _ _ b' (by lia) z2 u (p'.more z1)))
theorem z0r{m n:Nat}(W:WO blt)(hC:zd5 prog w A s kd a₀ blt k)(hn:n<=a₀.size)(hm:m<=n)(b:Sb a₀ kd ix st)(de:Des blt k ix m 0)(pr:Pre ix m)
 (h:∀m' q ix' st',Sb a₀ kd ix' st'->m<=m'->m'<=n->Des blt k ix' m' q->Pre ix' m'->Q (none,m',q) st'):wpS (model prog w) A E s (descLoop m n) Q st:=by
 unfold descLoop;refine MM (I:=λx c st'=>∃q ix',c=(none,x,q)/\Sb a₀ kd ix' st'/\Des blt k ix' x q/\Pre ix' x) ?turn ?out ⟨0,ix,rfl,b,de,pr⟩
 case out=>
  rintro c st' ⟨q,ix',rfl,b',d',p'⟩;rw[show max m n=n by lia] at d' p' ⊢;exact h n q ix' st' b' hm (Qh _) d' p'
 case turn=>
  rintro x c st' h1 h2 ⟨q,ix',rfl,b',d',p'⟩;dsimp only;have hq:=d'.le;refine TH (zjv hC b' (by lia) (by lia) ?_)
  cases le:blt (k (ix' x)) (k (ix' (x-1))) with
  | true=>
    simp only[jE]
    by_cases z:q > 0
    .rw[j7 z];refine TH (NU (TU ⟨0,_,rfl,b'.mix (by lia),?_,(p'.mix (Qh _)).more (by lia)⟩));refine zhq W d'.turn (by lia) ?_;have e1:mixF ix' (x-(q+1)) x x=ix' x:=by unfold mixF;rw[j8 (by lia)]
     have e2:mixF ix' (x-(q+1)) x (x-1)=ix' (x-(q+1)):=by unfold mixF;rw[j7 (by lia)];congr 1;lia
     rw[e1,e2];have:=d'.al (x-(q+1)) (x-1) (by lia) (by lia) (by lia);exact zfv W le this.1
    .rw[j8 z];have:q=0:=by lia
     subst this;exact TU ⟨0,ix',rfl,b',zhq W d'.dn (by lia) le,p'.more (by lia)⟩
  | false=>
    simp only[QI,jD];refine TH (zjv hC b' (by lia) (by lia) ?_)
    cases gr:blt (k (ix' (x-1))) (k (ix' x)) with
    | true=>
      simp only[jE];exact TU (h x q ix' st' b' h1 (by lia) d' p')
    | false=>
      simp only[QI,jD];exact TU ⟨q+1,ix',rfl,b',z5a W d' p' le gr,p'.more (by lia)⟩
theorem zpg{m n:Nat}(W:WO blt)(hC:zd5 prog w A s kd a₀ blt k)(hn:n<=a₀.size)(hm:m+1<=n)(b:Sb a₀ kd ix st)(de:Des blt k ix (m+1) 0)(pr:Pre ix (m+1))
 (h:∀m' ix' st',Sb a₀ kd ix' st'->1<=m'->m'<=n->Up blt k ix' m'->Pre ix' m'->Q (some m') st'):wpS (model prog w) A E s (descPart m n) Q st:=by
 unfold descPart;refine TH (wpS_lift (TW ⟨rfl,?_⟩));refine TH (z0r W hC hn hm b de pr λm' q ix' st' b' z1 z2 d' p'=>?_);dsimp only
 by_cases z:q > 0
 .rw[j7 z];exact TH (NU (zqo W hC hn (by lia) z2 (b'.mix (by lia)) d'.turn (p'.mix (Qh _)) h))
 .rw[j8 z];have:q=0:=by lia
  subst this;exact zqo W hC hn (by lia) z2 b' d'.dn p' h
theorem z4d{n:Nat}(W:WO blt)(hC:zd5 prog w A s kd a₀ blt k)(hn:n<=a₀.size)(h1:1<=n)(b:Sb a₀ kd (λi=>i) st)
 (h:∀m' ix' st',Sb a₀ kd ix' st'->1<=m'->m'<=n->Up blt k ix' m'->Pre ix' m'->Q (some m') st'):wpS (model prog w) A E s (countRun' 0 n) Q st:=by
 rw[countRun0_eq];refine TH (zve W hC hn (Qh 1) h1 b (λi j z z'=>absurd z (by lia)) Pre.idf λm z1 z2 u o=>?_);dsimp only
 by_cases e:m=n
 .rw[j7 (by simpa using e)];exact TU (h m _ st b z1 z2 u Pre.idf)
 .rw[j8 (by simpa using e)];have lt:=o.resolve_left e
  by_cases g:m > 1
  .rw[j7 g];refine TH (zjv hC b (i:=0) (j:=m-1) (by lia) (by lia) ?_)
   cases ro:blt (k 0) (k (m-1)) with
   | true=>
     simp only[jE];exact TU (h m _ st b z1 z2 u Pre.idf)
   | false=>
     simp only[QI,jD];refine TH (NU (zpg W hC hn (by lia) (b.mix (by lia)) ?_ ((Pre.idf.mix (Qh m)).more (by lia)) h))
     have al:∀i j,i<j->j<m->blt (k j) (k i)=false/\blt (k i) (k j)=false:=λi j y1 y2=>by
      refine⟨(u i j y1 y2).le W,?_⟩
      have a1:blt (k i) (k 0)=false:=by
       by_cases q:i=0
       .subst q;exact W.irr _
       .exact(u 0 i (by lia) (by lia)).le W
      have a2:blt (k (m-1)) (k j)=false:=by
       by_cases q:j=m-1
       .subst q;exact W.irr _
       .exact(u j (m-1) (by lia) (by lia)).le W
      exact zjc W (zjc W a2 ro) a1
     refine zhq W (λi j y1 y2=>?_) (by lia) ?_
     .have e1:mixF (λi=>i) 0 m i=m-1-i:=by unfold mixF;rw[j7 (by lia)];show 0+m-1-i=m-1-i;lia
      have e2:mixF (λi=>i) 0 m j=m-1-j:=by unfold mixF;rw[j7 (by lia)];show 0+m-1-j=m-1-j;lia
      rw[e1,e2];exact .inr ⟨(al _ _ (by lia) (by lia)).1,by lia⟩
     .have e1:mixF (λi=>i) 0 m m=m:=by unfold mixF;rw[j8 (by lia)]
      have e2:mixF (λi=>i) 0 m (m-1)=0:=by unfold mixF;rw[j7 (by lia)];show 0+m-1-(m-1)=0;lia
      rw[e1,e2];exact zfv W lt ro
  .rw[j8 g];have:m=1:=by lia
   subst this;refine zpg W hC hn (by lia) b (zhq W (λi j y1 y2=>absurd y1 (by lia)) (by lia) lt) Pre.idf h
theorem zpk(W:WO blt)(hC:zd5 prog w A s kd a₀ blt k)(b:Sb a₀ kd (λi=>i) st)(h2:2<=a₀.size)(h64:a₀.size<64)
 (h:∀ix' st',(MF st').size=a₀.size->(∀i,i<a₀.size->(MF st')[i]? = a₀[ix' i]?)->Bij ix' a₀.size->Nc st'=none->Up blt k ix' a₀.size->Q () st'):wpS (model prog w) A E s sortRuns' Q st:=by
 rw[sortRuns'_eq];refine TH (jn ?_);dsimp only
 have mr:minRun' a₀.size a₀.size 0=a₀.size:=by
  have key:∀f n:Nat,n<64->minRun' (f+1) n 0=n:=λf n hn=>by rw[minRun'_succ,j7 hn];rfl
  have:=key (a₀.size-1) a₀.size h64;rwa [show a₀.size-1+1=a₀.size by lia] at this
 simp only[b.sz,mr]
 let Fin':SortSt->Prop:=λst'=>∃ix',(MF st').size=a₀.size/\(∀i,i<a₀.size->(MF st')[i]? = a₀[ix' i]?)/\Bij ix' a₀.size/\Nc st'=none/\pendingOf st' = #[(0,a₀.size,0)]/\Up blt k ix' a₀.size
 have fin:∀ix' st',Sb a₀ kd ix' st'->Up blt k ix' a₀.size->Fin' (setPending st' ((pendingOf st').push (0,a₀.size,0))):=λix' st' b' u'=>
  ⟨ix',b'.sz,b'.at_,b'.bj,b'.fa,by show(pendingOf st').push _=_;rw[b'.pe];rfl,u'⟩
 refine TH (j6 (MM (I:=λx c st'=>(x=0/\c=(none,0)/\Sb a₀ kd (λi=>i) st')\/(1<=x/\c=(none,a₀.size)/\Fin' st')) (Q:=λc st'=>c=(none,a₀.size)/\Fin' st') ?turn ?out (.inl ⟨rfl,rfl,b⟩)) ?rest)
 case out=>
  rintro c st' (⟨z,_,_⟩|⟨_,z,f⟩)
  .lia
  .exact⟨z,f⟩
 case turn=>
  rintro x c st' _ hx (⟨rfl,rfl,b'⟩|⟨_,rfl,f⟩)
  .dsimp only;rw[j8 (by lia)];simp only[UO,Nat.min_self,Vl];refine TH (z4d W hC (Qh _) (by lia) b' λm ix2 st2 b2 z1 z2 u2 p2=>?_);dsimp only
   by_cases lt:m<a₀.size
   .rw[j7 lt];refine TH (wpS_lift (TW ⟨rfl,?_⟩));refine TH (z5y W hC (Qh _) z2 z1 b2 u2 p2 λix3 st3 b3 u3=>?_);simp only[VA,QI,jD];refine TH (jn ?_);rw[show(pendingOf st3).back? = none by rw[b3.pe];rfl];dsimp only;exact TH (wpS_modify (TU (.inr ⟨by lia,rfl,fin ix3 st3 b3 u3⟩)))
   .rw[j8 lt];have:m=a₀.size:=by lia
    subst this;refine TH (jn ?_);rw[show(pendingOf st2).back? = none by rw[b2.pe];rfl];dsimp only;exact TH (wpS_modify (TU (.inr ⟨by lia,rfl,fin ix2 st2 b2 u2⟩)))
  .dsimp only;rw[j7 (Qh _)];exact TU ⟨rfl,f⟩
 case rest=>
  rintro c st' ⟨rfl,ix',z1,z2,z3,z4,z5,z6⟩;dsimp only;refine TH (j6 (MM (I:=λ_ c st2=>st2=st'/\c=(none,())) (Q:=λc st2=>st2=st'/\c=(none,())) ?_ (λ_ _ y=>y) ⟨rfl,rfl⟩) ?_)
  .rintro x c st2 _ _ ⟨rfl,rfl⟩;refine TH (jn ?_);rw[j7 (by rw[z5];exact Qh 1)];exact TU ⟨rfl,rfl⟩
  .rintro c st2 ⟨rfl,rfl⟩;exact TU (h ix' _ z1 z2 z3 z4 z6)
end
section
variable {prog:Tr}{w:Tt}{A:Tv}{E:Tn->To->Prop}{s:To}
structure Ord{α:Type}(blt:α->α->Bool)(k:Nat->α)(n:Nat)(ix:Nat->Nat):Prop where
 bj:Bij ix n
 up:Up blt k ix n
def zbt(vs:List Tn)(ix:Nat->Nat):List Tn:=(QH vs.length).map λi=>vs.getD (ix i) .none
structure KeysOk{α:Type}(prog:Tr)(w:Tt)(A:Tv)(s:To)(ks vs:List Tn)(blt:α->α->Bool)(k:Nat->α):Prop where
 wo:WO blt
 kd:2<=vs.length->∃kd:Nn,(∀(E:Tn->To->Prop) (Q:Nn->To->Prop),Q kd s->wpAny (model prog w) A (keyKind' ks.toArray) Q E s)/\zd5 prog w A s kd (ks.toArray.zip vs.toArray) blt k
theorem zdb{ks vs:List Tn}(hl:ks.length=vs.length){i:Nat}{p:Keyed}(h:(ks.toArray.zip vs.toArray)[i]? = some p):ks[i]? = some p.1/\vs[i]? = some p.2:=by
 have:(ks.zip vs)[i]? = some p:=by
  have e:ks.toArray.zip vs.toArray=(ks.zip vs).toArray:=by simp
  rw[e] at h;simpa using h
 rw[J8] at this;exact this
theorem zpa{vs:List Tn}{ks:List Tn}(hl:ks.length=vs.length){ix:Nat->Nat}(bj:Bij ix vs.length){arr:Array Keyed}(hz:arr.size=vs.length)(h:∀i,i<vs.length->arr[i]? = (ks.toArray.zip vs.toArray)[ix i]?):arr.map (·.2)=(zbt vs ix).toArray:=by
 refine Array.ext (by simp[zbt,hz]) λi h1 h2=>?_;have hi:i<vs.length:=by simpa[zbt] using h2
 have hx:=bj.lt i hi;have h3:=h i hi;obtain⟨p,hp⟩:∃p,arr[i]? = some p:=⟨_,Q5 (by lia)⟩;have h4:=(zdb hl (h3.symm.trans hp)).2;have e1:(arr.map (·.2))[i]? = some p.2:=by simp[hp]
 have e2:(zbt vs ix).toArray[i]? = some p.2:=by
  simp only[zbt,YH,Qj,Yp hi,Yw];rw[Qo,h4];rfl
 rw[Q5 h1] at e1;rw[Q5 h2] at e2;exact Zi (e1.trans e2.symm)
end
def eat(c:Nat):List Nat->List Nat
 | []=>[]
 | x::r=>if x=c then r else x::r
def eats(l:List Nat):List Nat->List Nat:=λless=>l.foldl (λr c=>eat c r) less
def under(less more:List Nat):Bool:=(eats more less).isEmpty
theorem zwa(l:List Nat):eats l [] = []:=by
 induction l with
 | nil=>rfl
 | cons c l ih=>exact ih
theorem under_iff:∀{more less:List Nat},under less more=true↔less.Sublist more
 | [],[]=>by simp[under,eats]
 | [],x::less=>by simp[under,eats]
 | c::more,[]=>by simp[under,zwa]
 | c::more,x::less=>by
   show under (eat c (x::less)) more=true↔_
   by_cases h:x=c
   .subst h;rw[show eat x (x::less)=less from j7 rfl,under_iff (more:=more) (less:=less)];exact⟨λz=>z.cons_cons x,λz=>by cases z with|cons _ z=>exact List.Sublist.trans (VQ _ _) z|cons_cons _ z=>exact z⟩
   .rw[show eat c (x::less)=x::less from j8 h,under_iff (more:=more) (less:=x::less)];exact⟨λz=>z.cons c,λz=>by cases z with|cons _ z=>exact z|cons_cons _ z=>exact absurd rfl h⟩
def zbv(c:Nat)(more:List Nat)(start:Nat):Option Nat:=((QH more.length).filter λi=>decide (start<=i) && decide (more[i]? = some c)).head?
def plc:List Nat->List Nat->Nat->List Nat->Option (List Nat)
 | [],_,_,acc=>some acc
 | c::r,more,start,acc=>match zbv c more start with
   | none=>none
   | some p=>plc r more (p+1) (acc ++ [p])
theorem zeq{c:Nat}{more:List Nat}{start p:Nat}(h:zbv c more start=some p):start<=p/\more[p]? = some c/\∀i,start<=i->i<p->more[i]?≠some c:=by
 unfold zbv at h;rw[UT] at h;have h1:=List.find?_some h;rw[Qx] at h1;refine⟨jB h1.1,jB h1.2,λi hi hp e=>?_⟩;obtain⟨_,as,bs,e1,e2⟩:=YU.mp h
 have hl:p=as.length:=by
  have:=jF (λl=>l[as.length]?) e1;simp at this
  have hlt:as.length<more.length:=by
   have:=jF JB e1;simp at this;lia
  rw[Yp hlt] at this;simpa using this.symm
 have hlt:p<more.length:=by
  have:=(Qi.mp (jB h1.2)).1;exact this
 have hm:i∈as:=by
  have e3:=jF (λl=>l[i]?) e1;rw[Yp (by lia),Zr (by lia)] at e3;exact Qn e3.symm
 have:=e2 i hm;rw[j9 hi,j9 e] at this;simp at this
theorem zlm{c:Nat}{more:List Nat}{start:Nat}(h:zbv c more start=none):∀i,start<=i->more[i]?≠some c:=λi hi e=>by
 unfold zbv at h;rw[UT,UG] at h;have hlt:=(Qi.mp e).1;have:=h i (QJ.mpr hlt);rw[j9 hi,j9 e] at this;simp at this
theorem zmq{c:Nat}: ∀{k:Nat} {l:List Nat},(∀i,i<k->l[i]?≠some c)->((c::r).Sublist l↔(c::r).Sublist (l.drop k))
 | 0,l,_=>by simp
 | k+1,[],_=>by simp
 | k+1,y::l,h=>by
   have hy:y≠c:=λe=>h 0 (by lia) (by simp[e]);have ih:=zmq (r:=r) (k:=k) (l:=l) λi hi=>by have:=h (i+1) (by lia);simpa using this
   rw[List.drop_succ_cons,<- ih];exact⟨λz=>by cases z with|cons _ z=>exact z|cons_cons _ z=>exact absurd rfl hy,λz=>z.cons y⟩
theorem zi3:∀(less more:List Nat) (start:Nat) (acc:List Nat),(plc less more start acc).isSome=true↔less.Sublist (more.drop start)
 | [],more,start,acc=>by simp[plc]
 | c::r,more,start,acc=>by
   unfold plc
   cases h:zbv c more start with
   | none=>
     have hn:=zlm h;refine⟨λz=>(by cases z),λz=>?_⟩;have hm:c∈more.drop start:=z.subset Qp;obtain⟨i,hi⟩:=QQ.mp hm;rw[Jl] at hi;exact absurd hi (hn _ (by lia))
   | some p=>
     obtain⟨h1,h2,h3⟩:=zeq h;have ih:=zi3 r more (p+1) (acc ++ [p]);show(plc r more (p+1) (acc ++ [p])).isSome=true↔_;rw[ih]
     have e1:=zmq (c:=c) (r:=r) (k:=p-start) (l:=more.drop start) λi hi=>by
      rw[Jl];exact h3 _ (by lia) (by lia)
     rw[e1,GN,show start+(p-start)=p by lia];obtain⟨hp,hv⟩:=Qi.mp h2;rw[Zx hp,hv];exact⟨λz=>z.cons_cons c,λz=>by cases z with|cons _ z=>exact(VQ _ _).trans z|cons_cons _ z=>exact z⟩
theorem ztc(less more:List Nat):(plc less more 0 []).isSome=under less more:=by
 have:=zi3 less more 0 [];rw[Y9,<- under_iff] at this;cases h:(plc less more 0 []).isSome <;> cases h':under less more <;> simp_all
end L6
namespace L6
open PySem PyProof.Rows PySem.W
theorem zvn:WO (λa b:Int=>decide (a<b)):=⟨λa=>by simp,λa b c h h'=>by simp at *;lia,λa b c h=>by simp at *;lia⟩
theorem z5h:WO (λa b:List Nat=>decide (a<b)):=by
 refine⟨λa=>by simp[YD],λa b c h h'=>?_,λa b c h=>?_⟩
 .simp only[jC] at *;exact VB h h'
 .simp only[jC] at *
  by_cases z:a<b
  .exact .inl z
  .exact .inr (U0 (Uo.mp z) h)
def plt(a b:Int×List Nat):Bool:=decide (a.1<b.1) || (decide (a.1=b.1) && decide (a.2<b.2))
theorem zhi: plt a b=true↔a.1<b.1\/(a.1=b.1/\a.2<b.2):=by simp[plt]
theorem z3q:WO plt:=by
 refine⟨λa=>by simp[plt,YD],λa b c h h'=>?_,λa b c h=>?_⟩
 .rw[zhi] at *;rcases h with h|⟨h1,h2⟩ <;> rcases h' with h'|⟨h3,h4⟩
  .left;lia
  .left;lia
  .left;lia
  .right;exact⟨by lia,VB h2 h4⟩
 .rw[zhi,zhi];rw[zhi] at h
  by_cases z1:a.1<b.1
  .exact .inl (.inl z1)
  .by_cases z2:b.1<c.1
   .exact .inr (.inl z2)
   .rcases h with h|⟨h1,h2⟩
    .lia
    .have e1:a.1=b.1:=by lia
     have e2:b.1=c.1:=by lia
     by_cases z:a.2<b.2
     .exact .inl (.inr ⟨e1,z⟩)
     .exact .inr (.inr ⟨e2,U0 (Uo.mp z) h2⟩)
section
variable {prog:Tr}{w:Tt}{A:Tv}{s:To}{ks vs:List Tn}
theorem zw1{ns:List Int}(hl:ks.length=vs.length)(hk:∀(i:Nat) v,ks[i]? = some v->∃t,v = .int (ns.getD i 0) t):KeysOk prog w A s ks vs (λa b:Int=>decide (a<b)) (λi=>ns.getD i 0):=by
 refine⟨zvn,λh2=>⟨j4,λE Q q=>?_,λi j x p y q E Q hi hj h=>?_⟩⟩
 .refine kas_kind (T:=.type "int") (by lia) (λv hv=>?_) (by rfl) (by rfl) q;obtain⟨i,hi⟩:=QQ.mp hv;obtain⟨t,rfl⟩:=hk i v hi;exact .now
 .obtain⟨t,rfl⟩:=hk i x (zdb hl hi).1;obtain⟨u,rfl⟩:=hk j y (zdb hl hj).1;exact kat_lt_int h
theorem zm2{xs:List Str}(hl:ks.length=vs.length)(hk:∀(i:Nat) v,ks[i]? = some v->∃t,v = .str (xs.getD i Jw) t):KeysOk prog w A s ks vs (λa b:List Nat=>decide (a<b)) (λi=>(xs.getD i Jw).cps.toList):=by
 refine⟨z5h,λh2=>⟨j4,λE Q q=>?_,λi j x p y q E Q hi hj h=>?_⟩⟩
 .refine kas_kind (T:=.type "str") (by lia) (λv hv=>?_) (by rfl) (by rfl) q;obtain⟨i,hi⟩:=QQ.mp hv;obtain⟨t,rfl⟩:=hk i v hi;exact .now
 .obtain⟨t,rfl⟩:=hk i x (zdb hl hi).1;obtain⟨u,rfl⟩:=hk j y (zdb hl hj).1;exact kas_lt_str h
def zn3(h:Heap)(v:Tn)(n:Int)(x:Str):Prop:=∃(a:Addr) (o:Obj) (t u:Tok) (e:Nat),v = .ref a/\h.get? a=some o/\o.cls = .type "tuple" /\ o.data = .seq #[.int n t,.str x u] e
theorem ztg{ps:List (Int×Str)}(hl:ks.length=vs.length)(hp:ps.length=ks.length)(hk:∀(i:Nat) v p,ks[i]? = some v->ps[i]? = some p->zn3 s.heap v p.1 p.2):
 KeysOk prog w A s ks vs plt (λi=>((ps.getD i (0,Jw)).1,(ps.getD i (0,Jw)).2.cps.toList)):=by
 have hk':∀(i:Nat) v,ks[i]? = some v->zn3 s.heap v (ps.getD i (0,Jw)).1 (ps.getD i (0,Jw)).2:=λi v e=>by
  have hi:i<ps.length:=by rw[hp];exact(Qi.mp e).1
  have:=hk i v ps[i] e (Qg hi);rw[Qo,Qg hi];exact this
 refine⟨z3q,λh2=>⟨tuples' true,λE Q q=>?_,λi j x p y q E Q hi hj h=>?_⟩⟩
 .have go:∀l:List Tn,(∀v∈l,∃n x,zn3 s.heap v n x)->∃fs:List Tn,KatTups s.heap l fs/\fs.length=l.length/\∀f∈fs,∃n t,f = .int n t:=by
   intro l
   induction l with
   | nil=>exact λ_=>⟨[],.nil,rfl,λ_ h=>by cases h⟩
   | cons v l ih=>
     intro h;obtain⟨fs,z1,z2,z3⟩:=ih λv' hv=>h v' (Qf _ hv);obtain⟨n,x,a,o,t,u,e,rfl,ho,hc,hd⟩:=h v Qp;refine⟨.int n t::fs,.cons ho hc hd rfl z1,by simp[z2],λf hf=>?_⟩;rcases Qs.mp hf with rfl|hf
     .exact⟨n,t,rfl⟩
     .exact z3 f hf
  obtain⟨fs,z1,z2,z3⟩:=go ks λv hv=>by
   obtain⟨i,hi⟩:=QQ.mp hv;exact⟨_,_,hk' i v hi⟩
  refine kat_kind (T:=.type "int") z1 (by lia) (λf hf=>?_) (by rfl) q;obtain⟨n,t,rfl⟩:=z3 f hf;exact .now
 .obtain⟨a,o,t,u,e,rfl,ho,hc,hd⟩:=hk' i x (zdb hl hi).1;obtain⟨a',o',t',u',e',rfl,ho',hc',hd'⟩:=hk' j y (zdb hl hj).1;dsimp only at h;generalize (ps.getD i (0,Jw)).1=n at *;generalize (ps.getD i (0,Jw)).2=x at *;generalize (ps.getD j (0,Jw)).1=m at *;generalize (ps.getD j (0,Jw)).2=y at *;refine kat_lt ho hd ho' hd' (kat_cons (wpAny_eqBool_int ?_))
  by_cases en:n=m
  .subst en;rw[show(n == n)=true by simp];refine kat_yes (kat_cons (wpAny_eqBool_str ?_))
   by_cases ex:x=y
   .subst ex;rw[show decide (x=x)=true by simp];refine kat_yes (kat_nil ?_);simpa[plt,YD] using h
   .rw[jA ex];refine kat_no (kat_one _ _ ?_);have e1:plt (n,x.cps.toList) (n,y.cps.toList)=decide (x.cps.toList<y.cps.toList):=by simp[plt]
    rw[e1] at h;exact lt_str h
  .rw[show(n == m)=false by simpa using en];refine kat_no ?_;have e1:plt (n,x.cps.toList) (m,y.cps.toList)=decide (n<m):=by simp[plt,en]
   rw[e1] at h;exact oneLt_int h
end
end L6
namespace L2
open PySem PySem.Spec
open PyProof.Rows hiding St
section
variable {X:Cx}{pins:List (Addr×Obj)}{σ:St}{H:Hp}{s:To}{h':Heap}
theorem Inv.adopt{t':Nat}(I:Inv X pins σ H s)(fp:FpOk X pins H q)(k:∀b u,b≠q->s.heap.get? b=some u->h'.get? b=some u)(new:ObjOk X.prog X.w (upd H q o) h' q o):Inv X pins σ (upd H q o) { s with heap:=h',toks:=t' }:=by
 obtain⟨f0,f1,f2,f3,f4,f5⟩:=fp;have nq:∀c u,H c=some u->c≠q:=λc u e=>zcb e f0
 refine I.step (g':=s.gens) (d':=s.drawn) (ch:=[q]) (λb hb=>?_) (λb o _ _ hc e _=>k b o (λz=>hc (by simp[z])) e) (λb o _ _ hc e _=>⟨o.slots,k b o (λz=>hc (by simp[z])) e⟩)
  (λb o hc _ n=>by rw[zae (λz=>hc (by simp[z]))];exact n) (λb o hc e=>⟨o,k b o (λz=>hc (by simp[z])) e⟩) (λb xs e=>by rw[zae (nq _ _ e)];exact e) (λb o u e=>by rw[zae (nq _ _ e)];exact e)
  (λb ps e=>⟨#[],by rw[zae (nq _ _ e),e];simp⟩) (λm hm=>?_) (λb u e=>?_) I.bare
 .have e:b=q:=by simpa using hb
  subst e;exact⟨f3,f1,f4,f5⟩
 .obtain⟨o,es,ep,ho,r⟩:=hm;exact⟨o,es,ep,k _ o (ZA f1) ho,r⟩
 .by_cases hb:b=q
  .subst hb;rw[zak] at e;cases e;exact new
  .rw[zae hb] at e;refine(I.hok b u e).stay (λc v hc r=>k c v ?_ r) (λc r=>by rw[zae (nq _ _ r)];exact r) λc xs r=>by rw[zae (nq _ _ r)];exact r
   rcases hc with z|z
   .rw[z];exact hb
   .exact nq _ _ z
theorem Room.in2{k:Nat}(r:Room (k+1) A):Room k A.in1.in1 :=
 ⟨r.hd,by have:=r.dp;show A.depth+3 * k+5<_;lia,by have:=r.un;show A.units+1+1+16 * k+200<_;lia,r.gd⟩
theorem z0c{k:Nat}(F:FnOk X.prog X.w X.K X.mg X.base CX0 k f fd ps sp)(hr:Room (k+1) X.A)(hb:Binds X.K fd ps [])
 (I:Inv X pins σ H s) (r:Vals vs us) (h:sp vs H Q E0):wpAny (model X.prog X.w) X.A.in1.in1 (call (.ref f) us) (EP X pins σ Q) (λ_ _=>False) s:=by
 have hl:us.length=ps.length:=by rw[<- r.length];exact F.len _ _ _ _ h
 have bd:=hb s us I.kIn (by rw[ZK];exact hl);rw[ZK] at bd;refine je (Mw (F.run X.A.in1.in1 X.stack s H ⟨us,[]⟩ us vs Q E0 hr.in2 I.env0.in1.in1 bd r h) λr s' hq=>?_)
 cases r with
 | error e=>exact Jk hq
 | ok fl=>
   cases fl with
   | ret u=>exact I.after hq
   | next=>exact Jk hq
   | brk=>exact Jk hq
   | cont=>exact Jk hq
end
end L2
namespace L6
open PySem PySem.Spec
open PyProof.Rows hiding St
open L2 L3
def zl3(sp:Sp)(R:List V->Hp->Prop):List V->List V->Hp->Prop
 | [],ks,H=>R ks H
 | x::xs,ks,H=>sp [x] H (λk H'=>zl3 sp R xs (ks ++ [k]) H') E0
inductive KeysV(K:Qa)(H:Hp):List V->(α:Type)->(α->α->Bool)->(Nat->α)->Prop
 | int (ns:List Int):KeysV K H (ns.map V.int) Int (λa b=>decide (a<b)) (λi=>ns.getD i 0)
 | txt (xs:List Str):KeysV K H (xs.map V.str) (List Nat) (λa b=>decide (a<b)) (λi=>(xs.getD i Jw).cps.toList)
 | pair (ps:List (Int×Str)) (ks:List V) (hl:ps.length=ks.length) (h:∀(i:Nat) v p,ks[i]? = some v->ps[i]? = some p->∃a,v = .ref a/\SqT K H a [.int p.1,.str p.2]) :
  KeysV K H ks (Int×List Nat) plt (λi=>((ps.getD i (0,Jw)).1,(ps.getD i (0,Jw)).2.cps.toList))
def zhv{α:Type}(d:α)(xs:List α)(ix:Nat->Nat):List α:=(QH xs.length).map λi=>xs.getD (ix i) d
section
variable {X:Cx}{pins:List (Addr×Obj)}{σ:St}{H:Hp}{s:To}
theorem Vals.pick(r:Vals xs vs)(bj:Bij ix vs.length):Vals (zhv .non xs ix) (zbt vs ix):=by
 have hl:=r.length
 have go:∀l:List Nat,(∀i∈l,i<vs.length)->Vals (l.map λi=>xs.getD (ix i) .non) (l.map λi=>vs.getD (ix i) .none):=by
  intro l
  induction l with
  | nil=>exact λ_=>.nil
  | cons i l ih=>
    intro h;have hi:=bj.lt i (h i Qp);have e1:xs[ix i]? = some (xs.getD (ix i) .non):=by rw[Qo,Qg (by lia)];rfl
    obtain⟨u,hu,ru⟩:=Vals.get r e1;have e2:vs.getD (ix i) .none=u:=by rw[Qo,hu];rfl
    refine .cons ?_ (ih λj hj=>h j (Qf _ hj));show L2.RelV (xs.getD (ix i) .non) (vs.getD (ix i) .none);rw[e2];exact ru
 unfold zhv zbt;rw[hl];exact go _ λi hi=>QJ.mp hi
theorem zxl{α:Type}{blt:α->α->Bool}{k:Nat->α}{kvs:List V}{ks vs:List Tn}{A:Tv}(I:Inv X pins σ H s)(h:KeysV X.K H kvs α blt k)(r:Vals kvs ks)(hl:ks.length=vs.length):KeysOk X.prog X.w A s ks vs blt k:=by
 cases h with
 | int ns=>
   refine zw1 hl λi v e=>?_;have hi:=(Qi.mp e).1;have hi':i<ns.length:=by have:=r.length;rw[Qc] at this;lia
   obtain⟨u,hu,ru⟩:=Vals.get r (i:=i) (x:=V.int ns[i]) (by rw[Qj,Qg hi'];rfl);rw[e] at hu;cases hu;obtain⟨t,rfl⟩:=ru;exact⟨t,by rw[Qo,Qg hi'];rfl⟩
 | txt xs=>
   refine zm2 hl λi v e=>?_;have hi:=(Qi.mp e).1;have hi':i<xs.length:=by have:=r.length;rw[Qc] at this;lia
   obtain⟨u,hu,ru⟩:=Vals.get r (i:=i) (x:=V.str xs[i]) (by rw[Qj,Qg hi'];rfl);rw[e] at hu;cases hu;obtain⟨t,rfl⟩:=ru;exact⟨t,by rw[Qo,Qg hi'];rfl⟩
 | pair ps _ hp hk=>
   refine ztg hl (by rw[hp];exact r.length) λi v p e ep=>?_;have hi:=(Qi.mp e).1;have hi':i<kvs.length:=by rw[r.length];exact hi
   obtain⟨u,hu,ru⟩:=Vals.get r (Qg hi');rw[e] at hu;cases hu;obtain⟨a,ea,hs⟩:=hk i _ p (Qg hi') ep;rw[ea] at ru;cases ru;obtain⟨its,rv,⟨o,e1,c,n,d⟩,_⟩:=I.tuple hs
   cases rv with
   | cons r1 rv=>
     cases rv with
     | cons r2 rv=>
       cases rv;obtain⟨t,rfl⟩:=r1;obtain⟨u,rfl⟩:=r2;exact⟨a,o,t,u,n,rfl,e1,c,d⟩
end
end L6
namespace L3
open PySem PySem.Spec
open PyProof.Rows hiding St
open L2
section
variable {X:Cx}
def zn5:V->List V->Hp->VK->Prop:=λx vs H Q=>∃(t y:Str) (i:Int),x = .str t/\vs = [.str y,.int i]/\Q (.int (Tf t y i)) H
theorem zwn:MtR X "str.find" zn5:=by
 intro pins s σ H x vs v us Q I rx rv h;obtain⟨t,y,i,rfl,rfl,q⟩:=h;obtain⟨tk,rfl⟩:=rx
 cases rv with
 | cons r1 rv=>
   cases rv with
   | cons r2 rv=>
     cases rv;obtain⟨t1,rfl⟩:=r1;obtain⟨t2,rfl⟩:=r2;exact SC.find3 ⟨.int _,H,I.tok _,⟨_,rfl⟩,q⟩
end
section
variable {K:Qa}{O:Ob}
def zvx(fo:DE)(g:DA):DE:=λρ Q=>fo ρ λr0=>∃t,r0.d = .str t/\g ρ λds=>∃y i,ds = [.str y,.int i]/\Q (.o (.int (Tf t y i)))
theorem zwg{to:TE}(ho:ED K O to fo)(ha:AD K O ta g):ED K O (tBM K "str" zn5 to ta) (zvx fo g):=λσ H ρ Q Qd S hf k=>by
 refine ho σ H ρ _ _ S hf λv H1 r0 s1 o1 zz=>?_;obtain⟨t,e0,q1⟩:=zz;have i0:=o1.is S.ok S.p;rw[e0] at i0;cases i0;refine⟨rfl,?_⟩;refine ha σ H1 ρ _ _ (S.stp s1) q1 λvs H2 ds s2 is zz=>?_;obtain⟨y,i,e,q⟩:=zz;subst e
 cases is with
 | cons i1 is=>
   cases is with
   | cons i2 is=>
     cases is;cases i1;cases i2;exact⟨t,y,i,rfl,rfl,k _ H2 (.o _) (s1.trans s2) (Is.int _) q⟩
end
section
variable {K:Qa}{O:Ob}
def unpT(is:List Nat)(f:DE):DS:=λDd ρ=>f ρ λr=>∃ds,r.d = .tuple ds/\flats ds=true/\gTD is ds ρ Dd.nx
theorem z1m{is:List Nat}{n:Nat}(hn:is.length=n)(h:ED K O t f)(hg:GRs K O tg is):SD K O (tAsg t (gTup K n tg)) (unpT is f):=λH₀ A σ H ρ D Dd r q P=>by
 refine h σ H ρ _ _ r.seen q λv H1 x s1 o1 zz=>?_;obtain⟨ds,e,fl,q1⟩:=zz;have r1:=r.stp s1;have iw:=o1.is r.ok r.p;rw[e] at iw
 cases iw with
 | tuple h1 s2=>
   refine⟨_,_,rfl,h1,by rw[s2.length,zhy q1];exact hn,?_⟩;exact hg H₀ A σ H1 ρ _ ds _ _ r1 fl (IsAll.flats (TupStay.refl H1) s2 fl) q1 λA' σ' ρ' r' f' q'=>P.nx A' σ' H1 ρ' r' ((Frm.stp s1).trans f') q'
end
section
variable {ι κ:Type}{P:Tr}{w:Tt}{K:Qa}{mg:Str->Option Tn}{base:Heap}{k:Nat}{X:ι->Cx}{O:κ->Ob}{a b c:Expr}{fa fb:DE}{pos p:Pos}{es:List Expr}{ga:DA}
theorem zzl{apos:Pos}(C:Ctx3 P w K mg base k X)(ho:E3 K X O a fa)(ha:A3 K X O [b,c] ga)(hbase:∀i,Mj a "find" (X i).env (eval a (X i).env)=eval a (X i).env:=by intro i;rfl)
 (hfew:∀i,((Mi pos (Tq [b,c] (X i).env)).all (λx=>!x.1) && (Np pos (MG [] (X i).env)).all (λx=>x.1.isSome) && decide (([b,c]:List Expr).length+([]:List M7).length+(if([]:List M7).isEmpty then 0 else 1)<30))=true:=by intro i;rfl)
 (hline:(apos.endLine == pos.line)=true:=by rfl) (hs:∀i,Tq [b,c] (X i).env=(false,eval b (X i).env)::Tq [c] (X i).env:=by intro i;rfl) (hpl:∀i,(Mi pos (Tq [c] (X i).env)).any (·.1)=false:=by intro i;rfl):E3 K X O (.Call (.Attribute a "find" apos) [b,c] [] pos) (zvx fa ga) :=
 let ⟨_,p1,d1⟩:=ho;let ⟨_,p2,d2⟩:=ha;⟨tBM K "str" zn5 _ _,λi=>by
  have h:=zgb (apos:=apos) (cpos:=pos) JQ PySem.F.slot_str_find PySem.F.type_str_find (zwn (X:=X i)) (p1 i) (p2 i) (hbase i) (hfew i) hline (hs i) (hpl i);rw[C.hK] at h
  exact h,λj=>zwg (d1 j) (d2 j)⟩
theorem zit{h n:Nat}{is:List Nat}{j:Nat}(C:Ctx3 P w K mg base k X)(ha:E3 K X O a fa)(hr:Gs3 K X h es is)(hn:is.length=n:=by rfl)(hn2:∀i,(Ma es (X i).env).length=n:=by intro i;rfl)(hst:∀i,(Ma es (X i).env).findIdx? (·.1)=none:=by intro i;rfl)
 (hs:∀i,MA [.Tuple es j tp] a pos.line (X i).env=pure false:=by intro i;rfl) (hw:∀i,M9 [.Tuple es j tp] a (X i).env=pure none:=by intro i;rfl) (h1:∀i,(Ma [.Tuple es j tp] (X i).env).map (·.2) = [MZ (.Tuple es j tp) (X i).env]:=by intro i;rfl) :
 S3 K X O (.Assign [.Tuple es j tp] a pos) (unpT is fa):=let ⟨_,p,d1,d2,o,m⟩:=hr;let ⟨_,q,d⟩:=ha;
 ⟨tAsg _ (gTup K n _),λi=>by have z:=zs9 (pos:=tp) (k:=j) (C.calm i) (p i) (hn2 i) (hst i);rw[C.hK] at z;exact zty (q i) z (hs i) (hw i) (h1 i),λjj=>z1m hn (d jj) (d2 (O jj))⟩
end
end L3
namespace SX
open PySem PySem.Spec PyProof.Rows
abbrev Es:=Array (Int×Tn)
def keyE(e:Int×Tn):Str:=strOf e.2
def keys(es:Es):List Str:=es.toList.map keyE
def byT(w:Tt):Bool:=w.params.followText "set-order"
structure Sx(w:Tt)(h:Heap)(a:Addr)(es:Es)(ep:Nat)(t:TM):Prop where
 at_:∃o,h.get? a=some o/\o.ExactSet/\o.data = .set es ep t
 lt:es.size<scanBound
 fit:t.fits es.size=true
 led:t.led = !byT w
 pl:1<es.size->t.plain=false
structure Tx(P:Tr)(w:Tt)(h:Heap)(a:Addr)(es:Es)(ep:Nat)(t:TM):Prop extends Sx w h a es ep t where
 el:ElemsOf (Jb P w) es.toList
 nd:(keys es).Nodup
theorem zzo(t:TM)(es:Es)(h:Int)(x:Tn):(layNew t es h x).2.1.led=t.led:=by
 unfold layNew
 cases t.freeSlot h with
 | none=>rfl
 | some p=>
   obtain⟨j,d⟩:=p;show((t.put j).1.orStandIn _).led=t.led;unfold SetTable.orStandIn
   split <;> rfl
theorem z2k(t:TM)(es:Es)(n:Nat):(Nt t es n).2.1.led=t.led/\(t.plain=false->(Nt t es n).2.1.plain=false):=by
 unfold Nt
 cases e:t.relaid (es.map (·.1)) n with
 | none=>exact⟨rfl,λ_=>rfl⟩
 | some p=>
   obtain⟨t',ord⟩:=p
   have:t'.led=t.led/\t'.plain=t.plain:=by
    unfold GC Ta at e
    cases q:SetTable.layClean (SetTable.sizeAbove n-1) (es.map (·.1)) with
    | none=>rw[q] at e;cases e
    | some o=>rw[q] at e;cases e;exact⟨rfl,rfl⟩
   dsimp only
   split
   .exact⟨this.1,λh=>this.2.trans h⟩
   .exact⟨rfl,λ_=>rfl⟩
section
variable {P:Tr}{w:Tt}{A:Tv}{E:Tn->To->Prop}{s:To}
theorem zts(h:∃k,(Jb P w).is k e.2=true/\e.1=(Jb P w).hash k)(k:Str):(Jb P w).is k e.2=true↔keyE e=k:=by
 obtain⟨k',hk,_⟩:=h;obtain⟨i,v⟩:=e;obtain⟨t,ev⟩:=Vd hk;subst ev;show Ya k (.str k' t)=true↔k'=k;constructor
 .intro h;exact(Jb P w).inj (.str k' t) _ _ hk h
 .rintro rfl;exact hk
theorem Tx.put{ep:Nat}(S:Tx P w s.heap a es ep t)(el:ElemsOf (Jb P w) es'.toList)(nd:(keys es').Nodup)(lt:es'.size<scanBound)(fit:t'.fits es'.size=true)(led:t'.led = !byT w)(pl:t'.plain=false)
 (h:∀h',Zk a s.heap h'->Tx P w h' a es' (ep+1) t'->Q () { s with heap:=h' }):wpAny (model P w) A (jm a es' t') Q E s:=by
 obtain⟨o,ho,hx,hd⟩:=S.at_;refine wpAny_storeSet_of ho hd (h _ (.update ..) ⟨⟨⟨{ o with data:=.set es' (ep+1) t' },?_,hx,rfl⟩,lt,fit,led,λ_=>pl⟩,el,nd⟩) (M4 lt);have:=Zo (UH es' t') ho (by rw[jp es' t' hd];rfl);rw[jp es' t' hd] at this;exact this
theorem ztn{es es':Es}(p:es'.toList.Perm es.toList):es'.size=es.size:=by simpa using p.length_eq
theorem zk9(p:es'.toList.Perm es.toList):(keys es').Perm (keys es):=p.map _
theorem Tx.add{ep:Nat}(S:Tx P w s.heap a es ep t)(hr:es.size+1<scanBound)
 (h:∀b h' es' ep' t',Zk a s.heap h'->Tx P w h' a es' ep' t'->(∀k,k∈keys es'↔k∈keys es\/k=x)->es'.size<=es.size+1->Q b { s with heap:=h' }) :
 wpAny (model P w) A (N9 a (.str x tk) (N5 w x)) Q E s:=by
 have hk:(Jb P w).is x (.str x tk)=true:=by show Ya x (.str x tk)=true;simp[Ya]
 obtain⟨o,ho,hx,hd⟩:=S.at_
 have gw:∀(b:Bool) (s₁:To) (Q':Unit->To->Prop),Q' () s₁->wpAny (model P w) A (match b with|true=>rule "set.scan.the-table-gave-way" | false=>pure ()) Q' E s₁:=λb s₁ Q' q=>by
  cases b
  .exact Tk q
  .exact TW q
 unfold N9 NO;refine TF (Tj (wpAny_setState_of ho hd S.fit ?_));dsimp only;rw[j7 (byScan_of rfl S.lt S.el)];unfold setAddByScan;refine Tj (Tj (TW (Tj (wpAny_setScan_of (knd:=Jb P w) hk ho hd S.fit S.el ?_))))
 cases hf:es.toList.findIdx? (λe=>(Jb P w).is x e.2) with
 | some j=>
   obtain⟨hj,hp,_⟩:=List.findIdx?_eq_some_iff_getElem.mp hf;have hm:x∈keys es:=Q0.mpr ⟨_,QT hj,(zts (S.el _ (QT hj)).1 x).mp hp⟩;refine Tk (Tk ?_);exact h false s.heap es ep t (.refl ..) S (λk=>⟨.inl,λz=>z.elim id λz=>z ▸ hm⟩) (Jr _)
 | none=>
   have hm:x ∉ keys es:=λhm=>by
    obtain⟨e,he,hk'⟩:=Q0.mp hm;have:=List.findIdx?_eq_none_iff.mp hf e he;rw[(zts (S.el e he).1 x).mpr hk'] at this;cases this
   have hp:=layNew_perm t es (N5 w x) (.str x tk);have hfit:=layNew_fits t es (N5 w x) (.str x tk);have hled:=zzo t es (N5 w x) (.str x tk);generalize layNew t es (N5 w x) (Ux x tk)=L at hp hfit hled ⊢;obtain⟨e1,t1,wd,gv⟩:=L;dsimp only at hp hfit hled ⊢;rw[V6] at hp;have el1:ElemsOf (Jb P w) e1.toList:=(S.el.push (k:=x) (x:=.str x tk) hk rfl).perm hp
   have kp:(keys e1).Perm (keys es ++ [x]):=by
    have:=hp.map keyE;rw[Q7] at this;exact this
   have nd1:(keys e1).Nodup:=kp.nodup_iff.mpr (Yd.mpr ⟨S.nd,(by simp),λa ha b hb=>by
    rw[Qb] at hb;subst hb
    exact λz=>hm (z ▸ ha)⟩)
   have mem1:∀k,k∈keys e1↔k∈keys es\/k=x:=λk=>by rw[kp.mem_iff,Qv,Qb]
   have sz1:e1.size=es.size+1:=by simpa using hp.length_eq
   have lt1:e1.size<scanBound:=by lia
   refine Tj (gw _ _ _ ?_)
   have fin:∀t2:TM,t2.fits e1.size=true->t2.led=t.led->t2.plain=false->wpAny (model P w) A (do
    jm a e1 t2
    if(!wd && t2.tooFull)=true then do
        (match (Nt t2 e1 (Jf e1.size)).2.2 with|true=>rule "set.scan.the-table-gave-way" | false=>pure ())
        jm a (Nt t2 e1 (Jf e1.size)).1 (Nt t2 e1 (Jf e1.size)).2.1
        pure (some true)
     else pure (some true)) (λr s₁=>wpAny (model P w) A (match r with|some b=>pure b|none=>NO a (.str x tk) (N5 w x) 99999) Q E s₁) E s:=λt2 f2 l2 p2=>by
    refine Tj (S.put el1 nd1 lt1 f2 (l2.trans S.led) p2 λh1 sb1 S1=>?_)
    cases hw:(!wd && t2.tooFull) with
    | false=>exact Tk (Tk (h true h1 e1 _ t2 sb1 S1 mem1 (VO sz1)))
    | true=>
      have rp:=relayAll_perm t2 e1 (Jf e1.size);have rf:=relayAll_fits t2 e1 (Jf e1.size);have rl:=z2k t2 e1 (Jf e1.size);generalize Nt t2 e1 (Jf e1.size)=R at rp rf rl ⊢;obtain⟨e2,t3,g2⟩:=R;dsimp only at rp rf rl ⊢;refine Tj (gw _ _ _ ?_);have z2:=ztn rp;refine Tj (S1.put (s:={ s with heap:=h1 }) (el1.perm rp) ((zk9 rp).nodup_iff.mpr nd1) (by lia) rf (rl.1.trans (l2.trans S.led)) (rl.2 p2) λh2 sb2 S2=>?_);exact Tk (Tk (h true h2 e2 _ t3 (sb1.trans sb2) S2 (λk=>by rw[(zk9 rp).mem_iff];exact mem1 k) (by lia)))
   split
   .rename_i hpl
    refine Tj ?_;rw[Ml 8 (x:=.str x tk) rfl];refine Tk ?_;exact fin { t1 with plain:=false } (SetTable.fits_plain_off hfit) hled rfl
   .rename_i hpl
    refine Tj (Tk ?_);exact fin t1 hfit hled (by simpa using hpl)
end
end SX
namespace SX
open PySem PySem.Spec PyProof.Rows
section
variable {P:Tr}{w:Tt}{A:Tv}{R:Result->To->Prop}{I:Addr}{fp wr:List Addr}{G:Array jg->Array jg->Prop}{n:Nat}{Pv:Nat->Tn->Prop}{St:Nat->To->Prop}
theorem Sx.keep{ep:Nat}(S:Sx w h a es ep t)(k:∀o,h.get? a=some o->h'.get? a=some o):Sx w h' a es ep t :=
 { S with at_:=let ⟨o,e,r⟩:=S.at_;⟨o,k o e,r⟩ }
theorem Tx.keep{ep:Nat}(S:Tx P w h a es ep t)(k:∀o,h.get? a=some o->h'.get? a=some o):Tx P w h' a es ep t :=
 ⟨S.toSx.keep k,S.el,S.nd⟩
theorem z0v(W:WalksS P w A.in1 I fp wr G n Pv St)(S:Addr)(hS:S ∉ fp)(val:Nat->Str)(hval:∀i v,Pv i v->∃t,v = .str (val i) t)(hb:n+1<scanBound):
 ∀(m i:Nat) (s:To) (es:Es) (ep:Nat) (t:TM),n-i=m->i<=n->St i s->Tx P w s.heap S es ep t->(∀x,x∈keys es↔∃j,j<i/\val j=x)->es.size<=i ->
   (∀s' es' ep' t',Moved (S::wr) G s s'->Tx P w s'.heap S es' ep' t'->(∀x,x∈keys es'↔∃j,j<n/\val j=x)->R (.ok (.ret .none)) s') ->
   MX (model P w) A (.builtin "set.update.loop" ⟨[.ref S,.ref I],[]⟩) R s:=by
 have nw:S ∉ wr:=λz=>hS (W.sub _ z);have up:∀b∈wr,b∈S::wr:=λb z=>Qf _ z;intro m
 induction m with
 | zero=>
   intro i s es ep t hm hi st T hk _ k;obtain rfl:i=n:=by lia
   refine TY JO ?_;rw[ZW ZX _];refine Tj (W.done s _ _ st λs' mv=>Tk ?_);exact k s' es ep t (mv.mono up) (T.keep λo e=>mv.heap S o nw e) hk
 | succ m ih=>
   intro i s es ep t hm hi st T hk hz k;have hlt:i<n:=by lia
   refine TY JO ?_;rw[ZW ZX _];refine Tj (W.item i s _ _ hlt st λv s' pv st' mv=>?_);obtain⟨tk,rfl⟩:=hval i v pv;have T1:Tx P w s'.heap S es ep t:=T.keep λo e=>mv.heap S o nw e;refine Tj (m:=holding [Ux (val i) tk] (setAdd S (.str (val i) tk))) (TF ?_);unfold setAdd;refine TF (Tj ((Jb P w).pyHash (k:=val i) (by show Ya (val i) (.str (val i) tk)=true;simp[Ya]) ?_));refine Tx.add (s:={ s' with toks:=s'.toks+1 }) (x:=val i) T1 (by lia) λb h' es' ep' t' sb T2 hk' hz'=>?_;refine Tk ⟨M0 ZX _,ih (i+1) _ es' ep' t' (by lia) hlt (W.frame _ s' _ _ st' (Jr _) λb hb o e=>?_) T2 (λx=>?_) (by lia) λs'' e2 p2 t2 mv2 T3 hk3=>?_⟩
   .rw[sb.2 b (λz:b=S=>hS (z ▸ hb))];exact e
   .rw[hk',hk];constructor
    .rintro(⟨j,h1,h2⟩|rfl)
     .exact⟨j,by lia,h2⟩
     .exact⟨i,by lia,rfl⟩
    .rintro⟨j,h1,h2⟩
     by_cases hj:j=i
     .subst hj;exact .inr h2.symm
     .exact .inl ⟨j,by lia,h2⟩
   .refine k s'' e2 p2 t2 (.trans W.gtrans ((mv.mono up).then_heap (Jr _) λb o hb e=>?_) mv2) T3 hk3;rw[sb.2 b (λz:b=S=>hb (z ▸ Qp))];exact e
end
section
variable {P:Tr}{w:Tt}{A:Tv}{E:Tn->To->Prop}{s:To}
abbrev eObj(w:Tt):Obj:={ cls:=.type "set",dict:=none,data:=.set #[] 0 (.fresh 0 0 (!byT w)) }
theorem z5t(e:h.get? a=some (eObj w)):Tx P w h a #[] 0 (.fresh 0 0 (!byT w)) :=
 ⟨⟨⟨_,e,⟨rfl,rfl,rfl⟩,rfl⟩,by decide,rfl,rfl,λz=>absurd z (by decide)⟩,λ_ z=>by simp at z,by simp[keys]⟩
theorem zo3(v:Tn)(h:Q (.ref s.heap.objs.size) { s with heap:=s.heap.push (eObj w) }):
 MX (model P w) A (.call (.builtin "set.__new__") ⟨[.type "set",v],[]⟩) (wants Q E) s:=by
 refine NC ?_;refine Tj (m:=checkBuiltinCall "set.__new__" ⟨[.type "set",v],[]⟩) (Mg (F.newCall_set_1 v) (Tk ⟨M0 F.plain_set_new _,TY F.entry_set_new ?_⟩));rw[ZW F.plain_set_new _];unfold Builtin.«set.__new__» GO;have hsub:=sub_set_self;obtain⟨hp,g,d,tk,os⟩:=s;dsimp only
 wp_walk
 refine Nu (Tk ?_);dsimp only;simp only[newObj];refine Tj (wpAny_alloc (Tk ?_));exact Tk h
end
end SX
namespace SX
open PySem PySem.Spec PyProof.Rows
section
variable {P:Tr}{w:Tt}{A:Tv}{E:Tn->To->Prop}{s:To}
abbrev Ext(h h':Heap):Prop:=∀b o,h.get? b=some o->h'.get? b=some o
def Src(P:Tr)(w:Tt)(h:Heap)(v:Tn)(n:Nat)(Pv:Nat->Tn->Prop):Prop :=
 ∀(A:Tv) (E:Tn->To->Prop) (s₁:To) (Q:Tn->To->Prop),A.handled=none->Ext h s₁.heap ->
   (∀I h' fp St,(∀A':Tv,A'.handled=none->Walks P w A' I fp [I] n Pv St)->St 0 h'->Ext s₁.heap h'->(∀b∈fp,b<h.objs.size\/s₁.heap.objs.size<=b)->s₁.heap.objs.size<=I->Q (.ref I) { s₁ with heap:=h' }) ->
   wpAny (model P w) A (N8 v) Q E s₁
theorem zk7{n:Nat}{val:Nat->Str}(hh:A.handled=none)(hT:∀s₁:To,Ext s.heap s₁.heap->s₁.TypeIs v T)
 (h1:Nq (.type T) (.type "set")=pure false) (h2:Nq (.type T) (.type "frozenset")=pure false) (h3:(Zp T == Zp "dict")=false) (src:Src P w s.heap v n Pv)
 (hval:∀i v,Pv i v->∃t,v = .str (val i) t) (hb:n+1<scanBound)
 (k:∀h' tk es ep t,Tx P w h' s.heap.objs.size es ep t->(∀x,x∈keys es↔∃j,j<n/\val j=x)->Ext s.heap h'->Q (.ref s.heap.objs.size) { s with heap:=h',toks:=tk }) :
 wpAny (model P w) A (call (.type "set") [v]) Q E s:=by
 obtain⟨c,tl,hmro⟩:=ZG.mro;have hmade:=ZG.made;have hsub:=ZG.sub;refine je (NC ?_);show wpAny _ _ (callAny (.type "set") _) _ _ _;refine Tk ⟨UI _ (by decide +kernel),TY UU ?_⟩;rw[UJ (NE "set" [v] []) rfl];have c1:=ZG.notType;have c2:=ZG.canCreate;have c3:=Gs v
 repeat (any_goals (first|assumption|wp_step))
 refine Mw (zo3 v (E:=E) (Q:=λr s₁=>r = .ref s.heap.objs.size/\s₁ = { s with heap:=s.heap.push (eObj w) }) ⟨rfl,rfl⟩) λr s₁ hr=>?_
 cases r with
 | error e=>exact hr
 | ok fl=>
   cases fl with
   | ret obj=>
     obtain⟨rfl,rfl⟩:=hr;have eS:(s.heap.push (eObj w)).get? s.heap.objs.size=some (eObj w):=Qm _ rfl;have hS:Ys { s with heap:=s.heap.push (eObj w) } (.ref s.heap.objs.size) "set" := ⟨_,eS,rfl⟩;have c4:=ZG.init.lookup;have c5:=ZG.init.bind (.ref s.heap.objs.size)
     repeat (any_goals (first|assumption|wp_step))
     refine Mw (NJ (R:=wants (λr s₂=>r = .none/\∃h' tk es ep t,s₂ = { s with heap:=h',toks:=tk }/\Tx P w h' s.heap.objs.size es ep t/\(∀x,x∈keys es↔∃j,j<n/\val j=x)/\Ext s.heap h') E) ZG.init.plain Gu (check_set_init_1 hS ?_)) λr₂ s₂ hr₂=>?_
     .have e0:Ext s.heap (s.heap.push (eObj w)):=λb o e=>Qe _ e;have hTv:=hT { s with heap:=s.heap.push (eObj w) } e0;unfold Builtin.«set.__init__» noKeywords YZ;generalize hPI:N8=PI
      wp_walk
      subst hPI;have lt0:s.heap.objs.size<(s.heap.push (eObj w)).objs.size:=by rw[QU];exact ZL _
      refine src _ _ _ _ (by simpa using hh) e0 λI h' fp St W st ex fpb hI=>?_;refine Tj (NT ?_)
      have nS:s.heap.objs.size ∉ fp:=λz=>by
       rcases fpb _ z with y|y
       .exact Zj _ y
       .exact absurd lt0 (Vu.mpr y)
      refine z0v (W _ (by simpa using hh)).toS s.heap.objs.size nS val hval hb n 0 _ #[] 0 _ rfl (QE _) st (z5t (ex _ _ eS)) (λx=>by simp[keys]) (Qh _) λs' es ep t mv T hk=>?_;obtain⟨h2,g2,d2,tk2,os2⟩:=s';obtain rfl:g2=s.gens:=mv.gens;obtain rfl:d2=s.drawn:=mv.drawn;obtain rfl:os2=s.os:=mv.os;show wpAny _ _ _ _ _ _;refine Tk (Tk ⟨rfl,h2,tk2,es,ep,t,rfl,T,hk,λb o e=>mv.heap b o (λz=>?_) (ex b o (e0 b o e))⟩);have hbl:=Qt e;rcases Qs.mp z with z|z
      .exact Q2 hbl z
      .rw[Qb.mp z] at hbl;exact absurd hbl (Vu.mpr (QY (JA lt0) hI))
     .cases r₂ with
      | error e=>exact hr₂
      | ok fl₂=>
        cases fl₂ with
        | ret r=>
          obtain⟨rfl,h',tk,es,ep,t,rfl,T,hk,ex⟩:=hr₂
          repeat (any_goals (first|assumption|wp_step))
          exact k _ _ _ _ _ T hk ex
        | _=>exact hr₂.elim
   | _=>exact hr.elim
end
end SX
namespace SX
open PySem PySem.Spec PyProof.Rows
theorem nx_slot:Slot "set_iterator" "__next__" "set_iterator.__next__" := by
 refine Slot.of (owner := "set_iterator") (n := "__next__") ?_ (by decide +kernel) (by decide +kernel) (by decide +kernel) ?_ ?_
 .rw[MU,M3];kernel_rfl
 .first
   | exact .inl (by decide +kernel)
   | exact .inr (by decide +kernel)
 .rw[M6];kernel_rfl
theorem zpq:Slot "set_iterator" "__iter__" "set_iterator.__iter__" := by
 refine Slot.of (owner := "set_iterator") (n := "__iter__") ?_ (by decide +kernel) (by decide +kernel) (by decide +kernel) ?_ ?_
 .rw[MU,M3];kernel_rfl
 .first
   | exact .inl (by decide +kernel)
   | exact .inr (by decide +kernel)
 .rw[M6];kernel_rfl
theorem zmm:entryFor table "set_iterator.__next__" = some Builtin.«set_iterator.__next__»:=by
 refine entryFor_of_tree ?_;kernel_rfl
theorem zwq:entryFor table "set_iterator.__iter__" = some Builtin.«dict_keyiterator.__iter__»:=by
 refine entryFor_alias (id' := "dict_keyiterator.__iter__") ?_ rfl ?_ ?_
 .kernel_rfl
 .decide +kernel
 .kernel_rfl
theorem zky:entryFor table "set.__iter__" = some Builtin.«frozenset.__iter__»:=by
 refine entryFor_alias (id' := "frozenset.__iter__") ?_ rfl ?_ ?_
 .kernel_rfl
 .decide +kernel
 .kernel_rfl
theorem zn9:Manifest.owners.lookup (String.ofList ['r','o','t','a','r','e','t','i','_','t','e','s'].reverse)=some Manifest.sig_set_iterator:=by kernel_rfl
theorem zpw(a:Tn):argsOk "set_iterator.__next__" ⟨[a],[]⟩:=by
 unfold argsOk;rw[signature?_of (id := "set_iterator.__next__") (n:=['_','_','t','x','e','n','_','_']) (o:=['r','o','t','a','r','e','t','i','_','t','e','s']) (by kernel_rfl) zn9];kernel_rfl
theorem z2h(a:Tn):argsOk "set_iterator.__iter__" ⟨[a],[]⟩:=by
 unfold argsOk;rw[signature?_of (id := "set_iterator.__iter__") (n:=['_','_','r','e','t','i','_','_']) (o:=['r','o','t','a','r','e','t','i','_','t','e','s']) (by kernel_rfl) zn9];kernel_rfl
theorem zfp{α:Type}:∀{l:List α} {i:Nat} (h:i<l.length),(l[i]::l.eraseIdx i).Perm l
 | [],_,h=>absurd h (JY _)
 | x::l,0,_=>.refl _
 | x::l,i+1,h=>(GM x _ _).trans ((zfp (l:=l) (i:=i) (Nat.lt_of_succ_lt_succ h)).cons x)
theorem zp3{α:Type}(f:Nat->Nat):∀(m k:Nat) (l:List α) (out:Array α),l.length=m->(UV f m k l out).toList.Perm (out.toList++l)
 | 0,k,l,out,h=>by
   obtain rfl:l = []:=by cases l with|nil=>rfl|cons _ _=>simp at h
   simp[UV]
 | m+1,k,l,out,h=>by
   have hi:f k % l.length<l.length:=Vv _ (by lia);unfold UV;rw[Qg hi];refine(zp3 f m (k+1) (l.eraseIdx (f k % l.length)) (out.push l[f k % l.length]) (by rw[YV];simp[hi];lia)).trans ?_;rw[V6,Ye];refine Uf _ ?_;exact zfp hi
theorem zta{α:Type}(f:Nat->Nat)(xs:Array α):(MH f xs).toList.Perm xs.toList:=by
 simpa[MH] using zp3 f xs.size 0 xs.toList #[] (by simp)
end SX
namespace SX
open PySem PySem.Spec PyProof.Rows
section
variable {P:Tr}{w:Tt}{A:Tv}{E:Tn->To->Prop}{s:To}{α:Type}
theorem zuu{n:Nat}(hn:n≠0)(h:∀i d,i<n->Q i { s with drawn:=d }):wpAny (model P w) A (choose src n) Q E s:=λΓ p _=>
 ⟨hn,h _ _ (Vv _ (Nat.pos_of_ne_zero hn))⟩
theorem zqf:∀(m:Nat) (xs:List α) (s:To) (Q:List α->To->Prop),xs.length=m->(∀ys d,ys.Perm xs->Q ys { s with drawn:=d })->wpAny (model P w) A (drawOrder m xs) Q E s
 | 0,xs,s,Q,e,h=>by
   obtain rfl:xs = []:=VE.mp e;exact Tk (h [] s.drawn .nil)
 | m+1,[],s,Q,e,h=>by cases e
 | m+1,x::xs,s,Q,e,h=>by
   unfold drawOrder;refine Tj (zuu (by simp) λi d hi=>?_);rw[Qg hi];refine Tj (zqf m _ _ _ (by rw[YV,j7 hi];simpa using e) λys d2 hp=>?_);exact Tk (h _ d2 ((hp.cons _).trans (zfp hi)))
theorem wp_f{c:Prop}[Decidable c](hc:¬c)(h:wpAny (model P w) A b Q E s):wpAny (model P w) A (if c then a else b) Q E s:=by
 rw[j8 hc];exact h
theorem wp_t{c:Prop}[Decidable c](hc:c)(h:wpAny (model P w) A a Q E s):wpAny (model P w) A (if c then a else b) Q E s:=by
 rw[j7 hc];exact h
theorem ziu(h:Q (byT w) s):wpAny (model P w) A setsByText Q E s:=by
 unfold setsByText;exact Tj (Nu (Tk h))
theorem Sx.state{ep:Nat}(S:Sx w s.heap a es ep t)(h:Q (es,ep,t) s):wpAny (model P w) A (setState a) Q E s :=
 let ⟨_,ho,_,hd⟩:=S.at_
 wpAny_setState_of ho hd S.fit h
theorem Sx.entries{ep:Nat}(S:Sx w s.heap a es ep t)(h:Q es s):wpAny (model P w) A (setEntries a) Q E s :=
 let ⟨_,ho,_,hd⟩:=S.at_
 wpAny_setEntries_of ho hd S.fit h
theorem Sx.epoch{ep:Nat}(S:Sx w s.heap a es ep t)(h:Q ep s):wpAny (model P w) A (setEpoch a) Q E s :=
 let ⟨_,ho,_,hd⟩:=S.at_
 wpAny_setEpoch_of ho hd S.fit h
abbrev itO(first:Tn)(i:Nat)(S:Addr)(n ep:Nat):Obj:={ cls:=.type "set_iterator",dict:=none,data:=.fields #[first,.int i 0,.ref S,.int n 0,.int ep 0],slots:=#[] }
theorem zpj{R:Option Tn->To->Prop}(hh:A.handled=none)(h:∀h',Ext s.heap h'->R none { s with heap:=h' }):
 wpAny (model P w) A.in1 (do jk (<- newExc (.type "StopIteration") [])) Z (λe s₁=>wpAny (model P w) A (do if <- isInstance e (.type "StopIteration") then pure none else throw e) R E s₁) s:=by
 refine Tj ?_;simp only[newExc,j3];refine Tj (Tz ?_ (by size_fits));refine Tj (m:=M5 _ _) (Mg (a:=ZP) (by first|rfl|(simp only[M5];rfl)) ?_);refine Tz ?_ (by size_fits);simp only[jk];refine Tj (jb ?_);rw[show A.in1.handled=none from hh];refine Tj (Tk (jx ?_));refine Tj (Md (T := "StopIteration") (b:=true) ⟨_,Qm _ rfl,rfl⟩ Nd ?_);exact Tk (h _ λb o e=>Qe _ (Qe _ e))
end
end SX
namespace SX
open PySem PySem.Spec PyProof.Rows
section
variable {P:Tr}{w:Tt}{A:Tv}{E:Tn->To->Prop}{s:To}{it S:Addr}{es:Es}{ep:Nat}{t:TM}
theorem zhm{first:Tn}{sl:Nat}{i:Nat}{R:Option Tn->To->Prop}(hf:first = .int sl 0)(ho:s.heap.get? it=some (itO first i S es.size ep))(T:Sx w s.heap S es ep t)
 (h:wpAny (model P w) A.in1 (jz S sl i ep) (λr s₁=>s₁=s/\match r with
  | some (x,nx)=>∀h',h'.get? it=some (itO (.int nx 0) (i+1) S es.size ep)->Zk it s.heap h'->R (some x) { s with heap:=h' }
  | none=>∀h',(∀b o,b≠it->s.heap.get? b=some o->h'.get? b=some o)->R none { s with heap:=h' }) (λ_ _=>False) s) (hh:A.handled=none):wpAny (model P w) A (M8 (.ref it)) R E s:=by
 subst hf;have hT:s.TypeIs (.ref it) "set_iterator" := ⟨_,ho,rfl⟩;unfold M8;refine Tj (Mk (TC (name:=QS "__next__") hT nx_slot (Tw nx_slot hT zmm ?_ (zpw _))));unfold Builtin.«set_iterator.__next__»;refine Tj (Tk ?_);refine Tj (NS ho rfl ?_);refine Tj (T.entries ?_);refine wp_f (by simp) ?_;refine Tj (TQ h (λr s₁ q=>?_) λ_ _ z=>z.elim);obtain⟨rfl,q⟩:=q
 match r,q with
 | some (x,nx),q=>
   refine Tj (Tu ho (by simp) λh1 e1 b1=>?_);refine Tj (Tu (s:={ s₁ with heap:=h1 }) e1 (by simp) λh2 e2 b2=>?_);refine Tk ⟨x,rfl,Tk (q h2 ?_ (b1.trans b2))⟩;exact e2
 | none,q=>
   refine Tj (Tu ho (by simp) λh1 e1 b1=>?_);exact zpj (s:={ s₁ with heap:=h1 }) hh λh' ex=>q h' λb o n e=>ex b o ((b1.2 b n).trans e)
end
end SX
namespace SX
open PySem PySem.Spec PyProof.Rows
section
variable {P:Tr}{w:Tt}{A:Tv}{E:Tn->To->Prop}{s:To}{it S:Addr}{es:Es}{ep:Nat}{t:TM}
theorem zy0{sl i:Nat}(hb:byT w=true)(T:Sx w s.heap S es ep t)(h:Q (((MH (w.params.setOrder S ep) es)[i]?).map λe=>(e.2,sl)) s):wpAny (model P w) A (jz S sl i ep) Q E s:=by
 unfold jz;refine Tj (T.state ?_);refine Tj (ziu ?_);rw[hb];refine wp_t rfl ?_;refine wp_f (by simp) ?_;refine Tj ?_;unfold setWalk;refine Tj (T.state ?_);refine Tj (ziu ?_);rw[hb];refine wp_t rfl ?_;exact Tj (Nu (Tk (Tk h)))
theorem zyn{sl i:Nat}(hb:byT w=false)(hz:es.size<=1)(T:Sx w s.heap S es ep t)(h:Q (match es[Yl t.place sl]?,t.place[Yl t.place sl]? with
 | some (_,x),some j=>some (x,j+1)
 | _,_=>none) s):wpAny (model P w) A (jz S sl i ep) Q E s:=by
 unfold jz;refine Tj (T.state ?_);refine Tj (ziu ?_);rw[hb];refine wp_f (by decide) ?_;refine wp_f (show ¬((!t.plain && decide (es.size > 1))=true) by simp;lia) ?_;refine Tj (m:=if(!t.led && !es.isEmpty)=true then jw "set:maker-not-led" else pure ()) (wp_f (by rw[T.led,hb];simp) (Tk ?_));exact Tk h
theorem zo8{Tp:Addr}{pls:List Tn}{c:Nat}{i:Nat}{R:Option Tn->To->Prop}(ho:s.heap.get? it=some (itO (.ref Tp) i S es.size ep))(hp:s.heap.get? Tp=some { cls:=.type "tuple",data:=.seq pls.toArray c })(T:Sx w s.heap S es ep t)
 (h:match pls[i]? with
  | some v=>∃(j:Nat) (e:Int×Tn),v = .int j 0/\es[j]? = some e/\∀h',h'.get? it=some (itO (.ref Tp) (i+1) S es.size ep)->Zk it s.heap h'->R (some e.2) { s with heap:=h' }
  | none=>∀h',(∀b o,b≠it->s.heap.get? b=some o->h'.get? b=some o)->R none { s with heap:=h' }) (hh:A.handled=none):wpAny (model P w) A (M8 (.ref it)) R E s:=by
 have hT:s.TypeIs (.ref it) "set_iterator" := ⟨_,ho,rfl⟩;unfold M8;refine Tj (Mk (TC (name:=QS "__next__") hT nx_slot (Tw nx_slot hT zmm ?_ (zpw _))));unfold Builtin.«set_iterator.__next__»;refine Tj (Tk ?_);refine Tj (NS ho rfl ?_);refine Tj (T.entries ?_);refine wp_f (by simp) ?_;refine Tj (TR hp rfl ?_);have ea:(pls.toArray)[(i:Int).toNat]? = pls[i]?:=by simp
 dsimp only;rw[ea]
 cases hv:pls[i]? with
 | some v=>
   rw[hv] at h;obtain⟨j,e,rfl,he,h⟩:=h;dsimp only;refine Tj ?_;unfold setNextDrawn;refine Tj (T.state ?_);refine wp_f (by simp) ?_;have ej:es[(j:Int).toNat]? = some e:=by simpa using he
   rw[ej];refine Tk ?_;refine Tj (Tu ho (by simp) λh1 e1 b1=>?_);exact Tk ⟨_,rfl,Tk (h h1 e1 b1)⟩
 | none=>
   rw[hv] at h;dsimp only;refine Tj (Tu ho (by simp) λh1 e1 b1=>?_);refine Tj (Tu (s:={ s with heap:=h1 }) e1 (by simp) λh2 e2 b2=>?_);exact zpj (s:={ s with heap:=h2 }) hh λh' ex=>h h' λb o n e=>ex b o ((b2.2 b n).trans ((b1.2 b n).trans e))
theorem zjz{first:Tn}{i n:Nat}(ho:s.heap.get? it=some (itO first i S n ep))(h:Q (.ref it) s):wpAny (model P w) A (N8 (.ref it)) Q E s:=by
 have hT:s.TypeIs (.ref it) "set_iterator" := ⟨_,ho,rfl⟩;refine Nk hT zpq (Tw zpq hT zwq ?_ (z2h _));exact Tk ⟨_,rfl, "set_iterator",_,hT,nx_slot.lookup,h⟩
end
end SX
namespace SX
open PySem PySem.Spec PyProof.Rows
section
variable {P:Tr}{w:Tt}{A:Tv}{E:Tn->To->Prop}{s:To}{it S:Addr}{es:Es}{ep:Nat}{t:TM}
def ordP(ord:List (Int×Tn)):Nat->Tn->Prop:=λi v=>∃e,ord[i]? = some e/\v=e.2
theorem z3o(hh:A.handled=none)(hb:byT w=true)(ne:S≠it):
 Walks P w A it [it,S] [it] (MH (w.params.setOrder S ep) es).toList.length (ordP (MH (w.params.setOrder S ep) es).toList) (λi h=>(∃sl:Nat,h.get? it=some (itO (.int sl 0) i S es.size ep))/\Sx w h S es ep t) where
 sub:=λb z=>by simp at z;simp[z]
 frame:=λi h h' st k=>⟨let ⟨sl,e⟩:=st.1;⟨sl,k it (by simp) _ e⟩,st.2.keep λo e=>k S (by simp) o e⟩
 item:=λi s Q E hi st k=>by
  obtain⟨⟨sl,ho⟩,T⟩:=st;refine zhm rfl ho T (zy0 hb T ⟨rfl,?_⟩) hh
  have hx:(MH (w.params.setOrder S ep) es)[i]? = some ((MH (w.params.setOrder S ep) es).toList[i]):=by
   rw[<- QK];exact Qg hi
  rw[hx];refine λh' e' sb=>k _ h' s.toks ⟨_,Qg hi,rfl⟩ ⟨⟨sl,e'⟩,T.keep λo e=>(sb.2 S ne).trans e⟩ λb o nb e=>(sb.2 b (by simpa using nb)).trans e
 done:=λs Q E st k=>by
  obtain⟨⟨sl,ho⟩,T⟩:=st;refine zhm rfl ho T (zy0 hb T ⟨rfl,?_⟩) hh;rw[show(MH (w.params.setOrder S ep) es)[(MH (w.params.setOrder S ep) es).toList.length]? = none by simp];exact λh' kp=>k h' s.toks λb o nb e=>kp b o (by simpa using nb) e
 self:=λi s Q E st h=>zjz st.1.choose_spec h
theorem znm:∀{js:List Nat},(∀j∈js,j<es.size)->(js.filterMap λj=>es[j]?)=js.map λj=>es[j]?.getD (0,.none)
 | [],_=>rfl
 | j::js,hj=>by
   obtain⟨e,h1⟩:∃e,es[j]? = some e:=⟨_,Q5 (hj j (by simp))⟩;rw[VC h1,Qu,h1,znm λx z=>hj x (Qf _ z)];rfl
theorem z5j{Tp:Addr}{ord:List (Int×Tn)}{js:List Nat}(hh:A.handled=none)(ne:S≠it)(nt:Tp≠it)(ho:ord=js.filterMap λj=>es[j]?)(hj:∀j∈js,j<es.size):
 Walks P w A it [it,S,Tp] [it] ord.length (ordP ord) (λi h=>h.get? it=some (itO (.ref Tp) i S es.size ep)/\Sx w h S es ep t/\h.get? Tp=some { cls:=.type "tuple",data:=.seq (js.map λ(j:Nat)=>Gm j 0).toArray }) where
 sub:=λb z=>by simp at z;simp[z]
 frame:=λi h h' st k=>⟨k it (by simp) _ st.1,st.2.1.keep λo e=>k S (by simp) o e,k Tp (by simp) _ st.2.2⟩
 item:=λi s Q E hi st k=>by
  obtain⟨hi1,T,ht⟩:=st;have el:=ho.trans (znm hj);have hl:i<js.length:=by rw[el] at hi;simpa using hi
  obtain⟨e,h1⟩:∃e,es[js[i]]? = some e:=⟨_,Q5 (hj _ (QT hl))⟩;refine zo8 hi1 ht T ?_ hh;rw[Qj,Qg hl];refine⟨js[i],_,rfl,h1,λh' e' sb=>k _ h' s.toks ⟨e,?_,rfl⟩ ⟨e',T.keep λo e=>(sb.2 S ne).trans e,(sb.2 Tp nt).trans ht⟩ λb o nb e=>(sb.2 b (by simpa using nb)).trans e⟩;rw[el,Qj,Qg hl];show some (es[js[i]]?.getD (0,.none))=_;rw[h1];rfl
 done:=λs Q E st k=>by
  obtain⟨hi1,T,ht⟩:=st;have el:ord.length=js.length:=by rw[ho.trans (znm hj)];simp
  refine zo8 hi1 ht T ?_ hh;rw[Qj,QD (by lia)];exact λh' kp=>k h' s.toks λb o nb e=>kp b o (by simpa using nb) e
 self:=λi s Q E st h=>zjz st.1 h
theorem zle{sl:Nat}(h:p.size=1):Yl p sl=if p.getD 0 sl<sl then 1 else 0:=by
 unfold Yl;rw[h];unfold V7;rw[j7 (by lia)];show(if p.getD 0 sl<sl then V7 p sl 0 1 1 else V7 p sl 0 0 0)=_
 split <;> rfl
theorem z2x(hh:A.handled=none)(hb:byT w=false)(hz:es.size<=1)(ne:S≠it):
 Walks P w A it [it,S] [it] es.toList.length (ordP es.toList) (λi h=>(∃sl:Nat,(i=0->sl=0)/\(i=1->∃j,t.place[0]? = some j/\sl=j+1)/\h.get? it=some (itO (.int sl 0) i S es.size ep))/\Sx w h S es ep t) where
 sub:=λb z=>by simp at z;simp[z]
 frame:=λi h h' st k=>⟨let ⟨sl,e0,e1,e⟩:=st.1;⟨sl,e0,e1,k it (by simp) _ e⟩,st.2.keep λo e=>k S (by simp) o e⟩
 item:=λi s Q E hi st k=>by
  obtain⟨⟨sl,h0,_,ho⟩,T⟩:=st;have hi':i<es.size:=by simpa using hi
  obtain rfl:i=0:=by lia
  obtain rfl:=h0 rfl
  have f1:t.place.size=1:=by
   have:=T.fit;simp only[U6,Qx,jN] at this;lia
  have hbel:Yl t.place 0=0:=by rw[zle f1,j8 (JY _)]
  refine zhm rfl ho T (zyn hb hz T ⟨rfl,?_⟩) hh;rw[hbel];have e1:es[0]? = some es[0]:=Q5 hi';have e2:t.place[0]? = some t.place[0]:=Q5 (by lia);rw[e1,e2];refine λh' e' sb=>k _ h' s.toks ⟨es[0],by rw[QK];exact e1,rfl⟩ ⟨⟨t.place[0]+1,λz=>by lia,λ_=>⟨_,e2,rfl⟩,e'⟩,T.keep λo e=>(sb.2 S ne).trans e⟩ λb o nb e=>(sb.2 b (by simpa using nb)).trans e
 done:=λs Q E st k=>by
  obtain⟨⟨sl,_,h1,ho⟩,T⟩:=st
  have f1:t.place.size=es.size:=by
   have:=T.fit;simp only[U6,Qx,jN] at this;lia
  refine zhm rfl ho T (zyn hb hz T ⟨rfl,?_⟩) hh
  have none':es[Yl t.place sl]? = none:=by
   by_cases h:es.size=0
   .exact JT (by lia)
   .obtain⟨j,e1,e2⟩:=h1 (by simp;lia);rw[zle (by lia),Ja,e1,e2];show es[if j<j+1 then 1 else 0]? = none;rw[j7 (ZL _)];exact JT (by lia)
  rw[none'];exact λh' kp=>k h' s.toks λb o nb e=>kp b o (by simpa using nb) e
 self:=λi s Q E st h=>zjz st.1.choose_spec.2.2 h
end
end SX
namespace SX
open PySem PySem.Spec PyProof.Rows
section
variable {P:Tr}{w:Tt}{A:Tv}{E:Tn->To->Prop}{s:To}{it S:Addr}{es:Es}{ep:Nat}{t:TM}
theorem Sx.typ(T:Sx w s.heap S es ep t):s.TypeIs (.ref S) "set" := let ⟨_,ho,hx,_⟩:=T.at_;⟨_,ho,hx.1⟩
theorem Sx.lts(T:Sx w s.heap S es ep t):S<s.heap.objs.size:=let ⟨_,ho,_⟩:=T.at_;Qt ho
theorem zxj(T:Sx w s.heap S es ep t)(h:Q (!byT w && decide (es.size > 1)) s):wpAny (model P w) A (setDrawn S) Q E s:=by
 unfold setDrawn;refine Tj (T.state ?_);refine Tj (ziu ?_)
 have e:(!byT w && (!t.plain && decide (es.size > 1)))=(!byT w && decide (es.size > 1)):=by
  by_cases hz:1<es.size
  .rw[T.pl hz];simp
  .simp[hz]
 refine Tk ?_;show Q (!byT w && (!t.plain && decide (es.size > 1))) s;rw[e];exact h
theorem zxr(T:Sx w s.heap S es ep t)
 (k:∀(it:Addr) (h':Heap) (d':Drawn) (ord:List (Int×Tn)) (fp:List Addr) (St:Nat->Heap->Prop),ord.Perm es.toList->(∀A':Tv,A'.handled=none->Walks P w A' it fp [it] ord.length (ordP ord) St)->St 0 h'->Ext s.heap h'->(∀b∈fp,b<s.heap.objs.size->b=S)->(∀b∈fp,b<h'.objs.size)->s.heap.objs.size<=it->it∈fp->Q (.ref it) { s with heap:=h',drawn:=d' }) :
 wpAny (model P w) A (N8 (.ref S)) Q E s:=by
 have hlt:=T.lts;refine Nk T.typ F.slot_set_iter (Tw F.slot_set_iter T.typ zky ?_ (F.args_set_iter_1 _));unfold Builtin.«frozenset.__iter__»;refine Tj (m:=Tg "__iter__" ⟨[.ref S],[]⟩) (Tk ?_);refine Tj (Tj (T.entries (Tk ?_)));refine Tj (zxj T ?_);have sz:∀(h:Heap) (o:Obj),(h.push o).objs.size=h.objs.size+1:=λh o=>QU ..
 cases hd:(!byT w && decide (es.size > 1)) with
 | true=>
   refine wp_t rfl ?_;refine Tj (zqf es.size _ _ _ (by simp) λjs d hp=>?_)
   have hz:js.length<=sizeLine:=by
    have:=M4 T.lt;rw[hp.length_eq,QZ];exact this
   refine Tj (MK ?_ (by rw[Qc];exact hz));have T1:Sx w (s.heap.push { cls:=.type "tuple",data:=.seq (js.map λ(j:Nat)=>ME j).toArray }) S es ep t:=T.keep λo e=>Qe _ e;refine Tj (Sx.epoch (s:={ s with heap:=s.heap.push { cls:=.type "tuple",data:=.seq (js.map λ(j:Nat)=>ME j).toArray },drawn:=d }) T1 ?_);refine Tj (Tz (Tk ⟨_,rfl, "set_iterator",_,⟨_,Qm _ rfl,rfl⟩,nx_slot.lookup,?_⟩));have hj:∀j∈js,j<es.size:=λj z=>QJ.mp (hp.mem_iff.mp z);refine k _ _ d (js.filterMap λj=>es[j]?) [(s.heap.push { cls:=.type "tuple",data:=.seq (js.map λ(j:Nat)=>ME j).toArray }).objs.size,S,s.heap.objs.size] _ ?_ (λA' hA=>z5j (t:=t) (ep:=ep) hA ?_ ?_ rfl hj) ⟨Qm _ rfl,T1.keep λo e=>Qe _ e,Qe _ (Qm _ rfl)⟩ (λb o e=>Qe _ (Qe _ e)) ?_ ?_ ?_ (by simp)
   .refine(hp.filterMap _).trans ?_;rw[Nl]
   .rw[sz];exact Q2 (QP hlt)
   .rw[sz];exact Q2 (ZL _)
   .intro b hb hl;rw[sz] at hb;simp at hb;rcases hb with rfl|rfl|rfl
    .exact absurd hl (Vu.mpr (Jr _))
    .rfl
    .exact absurd hl (Zj _)
   .intro b hb;rw[sz] at hb;rw[sz,sz];simp at hb;rcases hb with rfl|rfl|rfl
    .exact ZL _
    .exact QP (QP hlt)
    .exact QP (ZL _)
   .rw[sz];exact Jr _
 | false=>
   refine wp_f (by decide) (Tj (Tk ?_));refine Tj (T.epoch ?_);refine Tj (Tz (Tk ⟨_,rfl, "set_iterator",_,⟨_,Qm _ rfl,rfl⟩,nx_slot.lookup,?_⟩));have ne:S≠s.heap.objs.size:=Q2 hlt
   have fpo:∀b∈[s.heap.objs.size,S],b<s.heap.objs.size->b=S:=λb hb hl=>by
    simp at hb;rcases hb with rfl|rfl
    .exact absurd hl (Zj _)
    .rfl
   have fpl:∀o:Obj,∀b∈[s.heap.objs.size,S],b<(s.heap.push o).objs.size:=λo b hb=>by
    rw[sz];simp at hb;rcases hb with rfl|rfl
    .exact ZL _
    .exact QP hlt
   cases hb:byT w with
   | true=>
     exact k _ _ s.drawn _ [s.heap.objs.size,S] _ (zta _ es) (λA' hA=>z3o (t:=t) hA hb ne) ⟨⟨0,Qm _ rfl⟩,T.keep λo e=>Qe _ e⟩ (λb o e=>Qe _ e) fpo (fpl _) (Qh _) (by simp)
   | false=>
     have hz:es.size<=1:=by rw[hb] at hd;simpa using hd
     exact k _ _ s.drawn es.toList [s.heap.objs.size,S] _ (.refl _) (λA' hA=>z2x (t:=t) (ep:=ep) hA hb hz ne) ⟨⟨0,λ_=>rfl,λz=>absurd z (by decide),Qm _ rfl⟩,T.keep λo e=>Qe _ e⟩ (λb o e=>Qe _ e) fpo (fpl _) (Qh _) (by simp)
end
end SX
namespace SX
open PySem PySem.Spec PyProof.Rows
section
variable {P:Tr}{w:Tt}{A:Tv}{E:Tn->To->Prop}{s:To}{it S:Addr}{es:Es}{ep:Nat}{t:TM}
abbrev lO(xs:Array Tn)(c:Nat):Obj:={ cls:=.type "list",dict:=none,data:=.seq xs c,slots:=#[] }
theorem zwk:Nq (.type "set") (.type "set")=pure true:=by
 rw[M6];kernel_rfl
theorem zs3{c:Nat}(f:Array Tn->Array Tn)(ho:s.heap.get? a=some (lO xs c))(hz:xs.size<=sizeLine)(hz2:(f xs).size<=sizeLine+1)
 (h:∀h' c',h'.get? a=some (lO (f xs) c')->Zk a s.heap h'->Q () { s with heap:=h' }):wpAny (model P w) A (VF (.ref a) f) Q E s :=
 Mz ho rfl (h _ _ (Zo (QF f) ho rfl) (.update ..)) hz hz2
theorem zh7(hh:A.handled=none)(T:Sx w s.heap S es ep t)
 (k:∀(h':Heap) (d':Drawn) (tk:Nat) (vs:List Tn),Ext s.heap h'->vs.Perm (es.toList.map (·.2))->s.heap.objs.size<h'.objs.size->Q vs { s with heap:=h',drawn:=d',toks:=tk }):wpAny (model P w) A (collect (.ref S)) Q E s:=by
 have hlt:=T.lts;unfold collect;refine Tj (NT (TY F.entry_proto_collect ?_));rw[ZW F.plain_proto_collect _];refine Tj (m:=newList []) (Tz ?_);refine Tk ⟨M0 UW _,TY F.entry_list_iadd ?_⟩;rw[ZW UW _];have T1:Sx w (s.heap.push (lO #[] 0)) S es ep t:=T.keep λo e=>Qe _ e;have eL:(s.heap.push (lO #[] 0)).get? s.heap.objs.size=some (lO #[] 0):=Qm _ rfl;have sz1:(s.heap.push (lO #[] 0)).objs.size=s.heap.objs.size+1:=QU ..;show wpAny _ A.in1 (Vm (.ref s.heap.objs.size) (.ref S) (.ref s.heap.objs.size)) _ _ { s with heap:=s.heap.push (lO #[] 0) };unfold Vm;refine Tj (Mo (T1.typ (s:={ s with heap:=s.heap.push (lO #[] 0) })) ?_)
 have nsr:Jo (.ref s.heap.objs.size) (.ref S)=false:=by
  show(s.heap.objs.size == S)=false;exact beq_eq_false_iff_ne.mpr (Jz hlt)
 rw[nsr];refine wp_f (by decide) ?_;refine Tj (zxr (s:={ s with heap:=s.heap.push (lO #[] 0) }) T1 λit h2 d2 ord fp St hp W st ex fpo fpl hit hmem=>?_);have T2:Sx w h2 S es ep t:=T1.keep λo e=>ex _ o e;have tS:Ys { s with heap:=h2,drawn:=d2 } (.ref S) "set" := T2.typ (s:={ s with heap:=h2,drawn:=d2 });refine Tj (TF ?_);unfold ZZ;refine Tj (TZ tS F.slot_set_len.lookup ?_);generalize hid:("set.__len__" : String)=id0
 (fail_if_success (clear hid id0))
 wp_delta
 rw[show splitId id0=some ("set", "__len__") from by subst hid;decide +kernel];subst hid;refine Tj (Md (b:=true) tS zwk ?_);refine wp_f (by decide) ?_;refine wp_t (by decide +kernel) ?_;refine Tj (Mo tS ?_);refine Tk ?_;refine wp_t (by decide +kernel) ?_;refine Tj (TW ?_);refine Tj ?_;unfold Builtin.List.listTouch;have h64:(0:Nat)<=sizeLine:=QE _;have eL2:h2.get? s.heap.objs.size=some (lO #[] 0):=ex _ _ eL;refine Tj (zs3 (s:={ s with heap:=h2,drawn:=d2 }) (·.push ZP) eL2 h64 (by simp) λh3 c3 e3 b3=>?_);refine zs3 (s:={ s with heap:=h3,drawn:=d2 }) (·.pop) e3 (by rw[Ts];decide) (by simp) λh4 c4 e4 b4=>?_
 have nLf:s.heap.objs.size ∉ fp:=λz=>by
  have:=fpo _ z (by rw[sz1];exact ZL _);exact Jz hlt this
 have st4:St 0 h4:=(W A hh).frame 0 h2 h4 st λb hb o e=>by
  have nb:b≠s.heap.objs.size:=λz=>nLf (z ▸ hb);exact(b4.2 b nb).trans ((b3.2 b nb).trans e)
 have hn:ord.length<=sizeLine:=by
  rw[hp.length_eq,QV];exact M4 T.lt
 refine Tk ⟨M0 Vh _,MP (W A.in1 (by simpa using hh)).toS hn _ nLf _ ord.length 0 { s with heap:=h4,drawn:=d2 } #[] c4 rfl (QE _) st4 e4 (G6 _) λs' acc c mv eA hacc=>?_⟩;refine Tj (wpAny_load eA (Tk ?_));obtain⟨h5,g5,d5,tk5,os5⟩:=s';obtain rfl:g5=s.gens:=mv.gens;obtain rfl:d5=d2:=mv.drawn;obtain rfl:os5=s.os:=mv.os
 have ev:acc.toList=ord.map (·.2):=by
  refine ZB λi=>?_;rw[QK]
  by_cases hi:i<acc.size
  .rw[Q5 hi];obtain⟨e,h1,h2⟩:=hacc.2 i _ (Q5 hi);rw[Qj,h1,h2];rfl
  .rw[JT (by lia),Qj,QD (by have:=hacc.1;lia)];rfl
 refine k h5 d5 tk5 acc.toList (λb o e=>mv.heap b o (λz=>?_) ?_) (by rw[ev];exact hp.map _) (Qt eA)
 .have hbl:=Qt e;rcases Qs.mp z with z|z
  .exact Q2 hbl z
  .rw[Qb.mp z] at hbl;have:s.heap.objs.size+1<=it:=by rw[<- sz1];exact hit
   exact absurd hbl (Vu.mpr (Yc this))
 .have nb:b≠s.heap.objs.size:=Q2 (Qt e);exact(b4.2 b nb).trans ((b3.2 b nb).trans (ex b o (Qe _ e)))
end
end SX
namespace SX
open PySem PySem.Spec PyProof.Rows
section
variable {P:Tr}{w:Tt}{A:Tv}{E:Tn->To->Prop}{s:To}{it S:Addr}{es:Es}{ep:Nat}{t:TM}
theorem zpx:∀{vs:List Tn},(∀v∈vs,∃x t,v = .str x t)->N0 vs (vs.map strOf)
 | [],_=>.nil
 | v::vs,h=>by
   obtain⟨x,t,rfl⟩:=h v (by simp);exact .cons x t (zpx λu z=>h u (Qf _ z))
end
end SX
namespace L3
open PySem PySem.Spec
open PyProof.Rows hiding St
open L2
open SX
theorem Inv.draw{pins:List (Addr×Obj)}(I:Inv X pins σ H s)(d:Drawn):Inv X pins σ H { s with drawn:=d } :=
 ⟨I.ok,I.os,I.bare,I.base,I.loc,I.cell,I.free,I.freeC,I.pin,I.hok,I.len⟩
def TxsV(K:Qa)(H:Hp)(v:V)(ys:List Str):Prop:=(∃x:Str,v = .str x/\ys=x.cps.toList.map sg)\/∃a,v = .ref a/\SqL K H a (ys.map V.str)
theorem z3m{w:Tt}(x:Str)(tk:Tok):Src P w h (.str x tk) x.cps.size (SignAt x):=λA E s₁ Q hh ex k=>by
 refine wpAny_pyIter_str λo St W st=>?_;refine k _ _ [s₁.heap.objs.size] St W st (λb o e=>Qe _ e) (λb hb=>.inr (by simp at hb;exact VO hb.symm)) (Qh _)
theorem ztf{w:Tt}{items:Array Tn}(hl:h.IsList l items):Src P w h (.ref l) items.size (λi v=>items[i]? = some v):=λA E s₁ Q hh ex k=>by
 have hl1:s₁.heap.IsList l items:=hl.at λo e=>ex l o e;have lt:l<h.objs.size:=by obtain⟨o,e,_⟩:=hl;exact Qt e
 have lt1:l<s₁.heap.objs.size:=by obtain⟨o,e,_⟩:=hl1;exact Qt e
 refine TX hl1 ?_;refine k s₁.heap.objs.size _ [s₁.heap.objs.size,l] _ (λA' hA=>GK hA _ l (Q2 lt1) items) ⟨⟨_,Qm _ rfl,rfl,rfl⟩,hl1.push _⟩ (λb o e=>Qe _ e) (λb hb=>?_) (Qh _);simp at hb;rcases hb with rfl|rfl
 .exact .inr (Qh _)
 .exact .inl lt
theorem zvu{xs ys:List Str}(h:xs.Nodup)(hs:∀k∈xs,k∈ys):xs.length<=ys.length:=by
 induction xs generalizing ys with
 | nil=>exact QE _
 | cons x xs ih=>
   have hx:x∈ys:=hs x (by simp);have h':=Jh.mp h;have:=ih (ys:=ys.erase x) h'.2 λk hk=>(YW (λz:k=x=>h'.1 (z ▸ hk))).mpr (hs k (Qf _ hk));rw[Yt hx] at this;have:0<ys.length:=YE hx;simp only[Q3];lia
def TxsD(d:Tl)(ys:List Str):Prop:=(∃x:Str,d = .str x/\ys=x.cps.toList.map sg)\/d = .list (ys.map .str)
def parS(i j:Nat)(g:DA):DS:=λDd ρ=>g ρ λds=>∃d e,ds = [d,e]/\flat d=true/\flat e=true/\Dd.nx ((ρ.set i (some (.im d))).set j (some (.im e)))
theorem z4r{K:Qa}{O:Ob}{i j:Nat}{ta:TA}{g:DA}(h:AD K O ta g):SD K O (tPar i j ta) (parS i j g):=λH₀ A σ H ρ D Dd r q P=>by
 refine h σ H ρ _ _ r.seen q λvs H1 ds s1 is zz=>?_;obtain⟨d,e,ed,f1,f2,q1⟩:=zz;subst ed
 cases is with
 | cons i0 is=>
   cases is with
   | cons i1 is=>
     cases is;refine⟨_,_,rfl,?_⟩;have r1:=(r.stp s1).setIm (i:=i) (Is.flat (TupStay.refl H1) i0 f1);have r2:=r1.setIm (i:=j) (Is.flat (TupStay.refl H1) i1 f2);exact P.nx _ _ H1 _ r2 ((Frm.setIm (i:=i) s1).trans (Frm.setIm (i:=j) (.refl _ _))) q1
theorem zrl{ι κ:Type}{P:Tr}{w:Tt}{K:Qa}{mg:Str->Option Tn}{base:Heap}{k:Nat}{X:ι->Cx}{O:κ->Ob}{a b:Expr}{ga:DA}{pos px py pt pt2:Pos}{kt k2:Nat}(n m:Nat){x y:Str}(C:Ctx3 P w K mg base k X)(ha:A3 K X O [a,b] ga)(hnm:n≠m:=by decide)
 (hN:∀i,(X i).N.Nodup:=by intro i;exact jB (by kernel_rfl)) (hi:∀i,(X i).N[n]? = some x:=by intro i;rfl) (hj:∀i,(X i).N[m]? = some y:=by intro i;rfl) (hx:∀i,(X i).env.scope.names.lookup x=some .local:=by intro i;rfl) (hy:∀i,(X i).env.scope.names.lookup y=some .local:=by intro i;rfl)
 (hw:∀i,M9 [.Tuple [.Name x px,.Name y py] kt pt] (.Tuple [a,b] k2 pt2) (X i).env=pure (some [x,y]):=by intro i;rfl) (hs:∀i,MA [.Tuple [.Name x px,.Name y py] kt pt] (.Tuple [a,b] k2 pt2) pos.line (X i).env=pure false:=by intro i;rfl) :
 S3 K X O (.Assign [.Tuple [.Name x px,.Name y py] kt pt] (.Tuple [a,b] k2 pt2) pos) (parS n m ga) :=
 let ⟨_,p,d⟩:=ha
 ⟨_,λi=>zt2 (C.calm i) (hN i) (hi i) (hj i) hnm (hx i) (hy i) (p i) (hw i) (hs i),λj=>z4r (d j)⟩
end L3
namespace TB
open PySem PySem.SetTable
def cc:Nat->Nat
 | 0=>0
 | n+1=>5 * cc n+1
def gg(n x:Nat):Nat:=5 ^ n * x+cc n
theorem zog:∀n,4 * cc n+1=5 ^ n
 | 0=>rfl
 | n+1=>by rw[cc,JD,<- zog n];lia
theorem zt9(a b:Nat):cc (a+b)=5 ^ a * cc b+cc a:=by
 induction a with
 | zero=>simp[cc]
 | succ a ih=>
   rw[show a+1+b=(a+b)+1 by lia,cc,ih,cc,JD,JE,UK];lia
theorem ztl(a b x:Nat):gg (a+b) x=gg a (gg b x):=by
 unfold gg;rw[zt9,Nat.pow_add,JE,Jq,Yu]
theorem zup:∀m,∃q,cc (2 ^ m)=2 ^ m * (2 * q+1)
 | 0=>⟨0,rfl⟩
 | m+1=>by
   obtain⟨q,e⟩:=zup m
   have h1:cc (2 ^ (m+1))=cc (2 ^ m) * (4 * cc (2 ^ m)+2):=by
    rw[show 2 ^ (m+1)=2 ^ m+2 ^ m by rw[JD];lia,zt9,<- zog];have:(4 * cc (2 ^ m)+1) * cc (2 ^ m)=cc (2 ^ m) * (4 * cc (2 ^ m)+1):=Nat.mul_comm _ _;rw[this,JE,JE];lia
   refine⟨q+(2 * q+1) * cc (2 ^ m),?_⟩;rw[h1,show 4 * cc (2 ^ m)+2=2 * (2 * cc (2 ^ m)+1) by lia,<- Jq];generalize hc:cc (2 ^ m)=c at *
   have h2:2 * (q+(2 * q+1) * c)+1=(2 * q+1) * (2 * c+1):=by
    rw[JE (2 * q+1),Yf (2 * q+1) 2 c];lia
   rw[h2,<- Jq,JD,UK (2 ^ m) 2,<- e]
theorem come:∀(m x y:Nat),∃n,n<2 ^ m/\gg n x % 2 ^ m=y % 2 ^ m
 | 0,x,y=>⟨0,by simp,by simp[Nat.mod_one]⟩
 | m+1,x,y=>by
   obtain⟨n,hn,e⟩:=come m x y;have h2:2 ^ (m+1)=2 * 2 ^ m:=by rw[JD];lia
   by_cases he:gg n x % 2 ^ (m+1)=y % 2 ^ (m+1)
   .exact⟨n,by lia,he⟩
   .refine⟨2 ^ m+n,by lia,?_⟩;rw[ztl];obtain⟨q,hq⟩:=zup m
    have h3:gg (2 ^ m) (gg n x)=gg n x+2 ^ m+2 ^ (m+1) * (2 * (2 * q+1) * gg n x+q):=by
     unfold gg;rw[<- zog,hq,h2];generalize 5 ^ n * x+cc n=z;generalize 2 ^ m=M;rw[JE 2 (2 * q) 1,JE M (2 * q) 1,JE (2 * M)]
     have a1:(4 * (M * (2 * q)+M * 1)+1) * z=8 * (M * q * z)+4 * (M * z)+z:=by
      rw[G7,Nat.one_mul,Jq,G7,Nat.mul_one,JE];have:M * (2 * q) * z=2 * (M * q * z):=by rw[Yf,Jq]
      rw[this];lia
     have a2:2 * M * ((2 * (2 * q)+2 * 1) * z)=8 * (M * q * z)+4 * (M * z):=by
      rw[G7,JE]
      have b1:2 * M * (2 * (2 * q) * z)=8 * (M * q * z):=by
       rw[show 2 * (2 * q)=4 * q by lia,Jq 4,Yf (2 * M),Jq 2 M,<- Jq M q z];lia
      have b2:2 * M * (2 * 1 * z)=4 * (M * z):=by
       rw[Nat.mul_one,Yf (2 * M),Jq 2 M];lia
      rw[b1,b2]
     have a3:M * (2 * q)=2 * (M * q):=Yf ..;have a4:2 * M * q=2 * (M * q):=Jq ..;rw[a1,a2,a3,a4];lia
    rw[h3,Nat.add_mul_mod_self_left];generalize gg n x=z at *;have hM:0<2 ^ m:=Nat.pow_pos (by decide);rw[h2] at he ⊢;generalize 2 ^ m=M at *;have ez:=G8 (x:=z) (a:=M) (b:=2);have ey:=G8 (x:=y) (a:=M) (b:=2);have ew:=G8 (x:=z+M) (a:=M) (b:=2);rw[Nat.add_mod_right,Nat.add_div_right _ hM] at ew;rw[Nat.mul_comm 2 M] at he ⊢;have c1:z / M % 2≠y / M % 2:=λc=>he (by rw[ez,ey,e,c]);rw[ew,ey,e];have c2:(z / M).succ % 2=y / M % 2:=by lia
    rw[c2]
end TB
namespace TB
open PySem PySem.SetTable
def T0(mask:Nat):TM:={ mask,place:=#[],dummies:=#[],finger:=0,led:=false,moves:=0,plain:=false }
def sq(mask:Nat)(h:Int):Nat->Probe
 | 0=>(T0 mask).probeStart h
 | n+1=>(T0 mask).advance (sq mask h n)
def lp(mask:Nat)(h:Int):Nat->Nat×Nat
 | 0=>(bits h % (mask+1),bits h)
 | k+1=>leap mask (lp mask h k).1 (lp mask h k).2
def rs(mask:Nat)(q:Nat×Nat):Probe:={ j:=q.1,more:=runEnd mask q.1-q.1,i:=q.1,perturb:=q.2,dummy:=none }
theorem zzw(mask i:Nat):runEnd mask i-i<=9:=by
 unfold runEnd
 split <;> lia
theorem zrg{mask:Nat}{h:Int}{n:Nat}(e:sq mask h n=rs mask q):∀d,d<=runEnd mask q.1-q.1->sq mask h (n+d) = { rs mask q with j:=q.1+d,more:=runEnd mask q.1-q.1-d }
 | 0,_=>by rw[UX,e];rfl
 | d+1,hd=>by
   rw[<- Yu];show(T0 mask).advance (sq mask h (n+d))=_;rw[zrg e d (by lia)];unfold YQ;rw[j7 (by show 0<runEnd mask q.1-q.1-d;lia)];show({ rs mask q with j:=q.1+d+1,more:=runEnd mask q.1-q.1-d-1 }:Probe)=_;rw[show runEnd mask q.1-q.1-d-1=runEnd mask q.1-q.1-(d+1) by lia];rfl
theorem zo5{mask:Nat}{h:Int}{n:Nat}(e:sq mask h n=rs mask q):sq mask h (n+(runEnd mask q.1-q.1)+1)=rs mask (leap mask q.1 q.2):=by
 show(T0 mask).advance (sq mask h (n+(runEnd mask q.1-q.1)))=_;rw[zrg e _ (Qh _)];unfold YQ;rw[j8 (by show ¬0<runEnd mask q.1-q.1-(runEnd mask q.1-q.1);lia)];rfl
theorem ztq(mask:Nat)(h:Int):∀k,∃n,n<=10 * k/\sq mask h n=rs mask (lp mask h k)
 | 0=>⟨0,Qh _,rfl⟩
 | k+1=>by
   obtain⟨n,hn,e⟩:=ztq mask h k;have:=zzw mask (lp mask h k).1;exact⟨_,by lia,zo5 e⟩
theorem z0x(h:Int):bits h<2 ^ 64:=by
 unfold bits;lia
theorem zs0(mask:Nat)(h:Int):∀k,(lp mask h k).2=bits h / 32 ^ k
 | 0=>by simp[lp]
 | k+1=>by
   show(lp mask h k).2 / 32=_;rw[zs0 mask h k,VR,JD]
theorem z2f(mask:Nat)(h:Int){k:Nat}(hk:12<=k):(lp mask h k).2 / 32=0:=by
 rw[zs0,VR,<- JD];refine Nat.div_eq_of_lt (QL (z0x h) ?_);exact QY (by decide:2 ^ 64<=32 ^ 13) (Js (by decide) (by lia))
theorem zq7(mask:Nat)(h:Int):∀n,(lp mask h (12+n)).1 % (mask+1)=gg n (lp mask h 12).1 % (mask+1)
 | 0=>by simp[gg,cc]
 | n+1=>by
   show((lp mask h (12+n)).1 * 5+1+(lp mask h (12+n)).2 / 32) % (mask+1) % (mask+1)=_;rw[z2f mask h (by lia),Nat.mod_mod,UX];have ih:=zq7 mask h n
   have e:gg (n+1) (lp mask h 12).1=gg n (lp mask h 12).1 * 5+1:=by
    rw[Nat.add_comm n 1,ztl];show 5 ^ 1 * _+(5 * 0+1)=_;lia
   rw[e,Nat.add_mod,Nat.mul_mod,ih,<- Nat.mul_mod,<- Nat.add_mod]
theorem zqu(mask:Nat)(h:Int):∀k,(lp mask h k).1<mask+1
 | 0=>Vv _ (Vn _)
 | k+1=>Vv _ (Vn _)
theorem z6t{mask m:Nat}(hm:mask+1=2 ^ m)(h:Int){j:Nat}(hj:j<=mask):∃n,n<10 * turns mask/\(sq mask h n).j=j:=by
 obtain⟨n,hn,e⟩:=come m (lp mask h 12).1 j;rw[<- hm] at e hn;have e2:=zq7 mask h n;rw[e,YR (zqu ..),YR (UY hj)] at e2;obtain⟨k,hk,ek⟩:=ztq mask h (12+n);refine⟨k,?_,?_⟩
 .unfold turns;lia
 .rw[ek];exact e2
theorem zrr(mask:Nat)(h:Int):∀n,(sq mask h n).dummy=none
 | 0=>rfl
 | n+1=>by
   show((T0 mask).advance (sq mask h n)).dummy=none;unfold YQ
   split
   .exact zrr mask h n
   .exact zrr mask h n
theorem z3p{p:Nat->Prop}(n:Nat)(hp:p n):∃m,m<=n/\p m/\∀k,k<m->¬p k:=by
 induction n using Nat.strongRecOn with
 | ind n ih=>
   by_cases h:∃k,k<n/\p k
   .obtain⟨k,hk,pk⟩:=h;obtain⟨m,h1,h2,h3⟩:=ih k hk pk;exact⟨m,by lia,h2,h3⟩
   .exact⟨n,Qh _,hp,λk hk z=>h ⟨k,hk,z⟩⟩
def Inc(xs:Array Nat):Prop:=∀i k,i<k->k<xs.size->xs.getD i 0<xs.getD k 0
theorem zws{xs:Array Nat}{i:Nat}(h:i<xs.size)(a b:Nat):xs.getD i a=xs.getD i b:=by
 simp[Vw,h]
def zj9(xs:Array Nat)(j r:Nat):Prop:=r<=xs.size/\(∀i,i<r->xs.getD i 0<j)/\∀i,r<=i->i<xs.size->j<=xs.getD i 0
theorem zim(hI:Inc xs)(j:Nat):∀fuel lo hi,hi-lo<=fuel->lo<=hi->hi<=xs.size->(∀i,i<lo->xs.getD i 0<j)->(∀i,hi<=i->i<xs.size->j<=xs.getD i 0)->zj9 xs j (below.go xs j fuel lo hi)
 | 0,lo,hi,h1,h2,h3,h4,h5=>by
   obtain rfl:lo=hi:=by lia
   exact⟨h3,h4,h5⟩
 | fuel+1,lo,hi,h1,h2,h3,h4,h5=>by
   unfold below.go
   split
   .rename_i hlt
    have hm:(lo+hi) / 2<xs.size:=by lia
    show zj9 xs j (if xs.getD ((lo+hi) / 2) j<j then below.go xs j fuel ((lo+hi) / 2+1) hi else below.go xs j fuel lo ((lo+hi) / 2));rw[zws hm j 0]
    by_cases hc:xs.getD ((lo+hi) / 2) 0<j
    .rw[j7 hc];refine zim hI j fuel ((lo+hi) / 2+1) hi (by lia) (by lia) h3 (λi hi'=>?_) h5
     by_cases e:i=(lo+hi) / 2
     .subst e;exact hc
     .have:=hI i ((lo+hi) / 2) (by lia) hm;lia
    .rw[j8 hc];refine zim hI j fuel lo ((lo+hi) / 2) (by lia) (by lia) (by lia) h4 (λi hi' hs=>?_)
     by_cases e:i=(lo+hi) / 2
     .subst e;lia
     .have:=hI ((lo+hi) / 2) i (by lia) hs;lia
   .obtain rfl:lo=hi:=by lia
    exact⟨h3,h4,h5⟩
theorem zii(hI:Inc xs)(j:Nat):zj9 xs j (below xs j):=zim hI j _ _ _ (by lia) (QE _) (Qh _) (λi h=>absurd h (JY _)) λi h1 h2=>by lia
theorem zrb(hI:Inc xs){i:Nat}(hi:i<xs.size):below xs (xs.getD i 0)=i:=by
 obtain⟨h1,h2,h3⟩:=zii hI (xs.getD i 0)
 by_cases e:below xs (xs.getD i 0)<i
 .have a:=h3 _ (Qh _) (by lia);have b:=hI _ i e hi;lia
 .by_cases e2:i<below xs (xs.getD i 0)
  .exact absurd (h2 i e2) (Zj _)
  .lia
theorem zto{xs:Array Nat}{i:Nat}(hi:i<xs.size):xs[i]? = some (xs.getD i 0):=by
 simp[Vw,hi]
section
variable {t:TM}(hI:Inc t.place)(hd:t.dummies = #[])
include hI
theorem zlv{i:Nat}(hi:i<t.place.size):t.slot (t.place.getD i 0) = .live i:=by
 unfold U7;dsimp only;rw[zrb hI hi,zto hi];simp
omit hI in
theorem zkx{i j:Nat}(h:t.slot j = .live i):i<t.place.size/\t.place.getD i 0=j:=by
 unfold U7 at h;dsimp only at h
 split at h
 .rename_i hc
  cases h;have hc':=eq_of_beq hc;obtain⟨h1,h2⟩:=Vs.mp hc';exact⟨h1,by simp[Vw,h1,h2]⟩
 .split at h <;> cases h
omit hI in
include hd in
theorem zkk(j:Nat):t.slot j = .empty\/∃i,t.slot j = .live i:=by
 unfold U7;dsimp only
 split
 .exact .inr ⟨_,rfl⟩
 .have:has t.dummies j=false:=by
   rw[hd];unfold has;simp
  rw[this];exact .inl rfl
theorem zfs{j i:Nat}(h:t.slot j = .empty)(hi:i<t.place.size):t.place.getD i 0≠j:=λe=>by
 have:=zlv hI hi;rw[e,h] at this;cases this
omit hI in
include hd in
theorem zrh{j:Nat}(h:∀i,i<t.place.size->t.place.getD i 0≠j):t.slot j = .empty:=by
 rcases zkk hd j with e|⟨i,e⟩
 .exact e
 .obtain⟨h1,h2⟩:=zkx e;exact absurd h2 (h i h1)
omit hI in
include hd in
theorem zyc(hashAt:Nat->Int)(h:Int)(N:Nat)(h0:t.slot (sq t.mask h N).j = .empty)(hb:∀k,k<N->t.slot (sq t.mask h k).j≠.empty):∀fuel n,N<n+fuel->n<=N ->
 (∃k i,n<=k/\k<N/\t.slot (sq t.mask h k).j = .live i/\hashAt i=h/\(∀k',n<=k'->k'<k->∃i',t.slot (sq t.mask h k').j = .live i'/\hashAt i'≠h)/\probe.go t hashAt h fuel (sq t.mask h n)=some (.candidate (sq t.mask h k).j i (sq t.mask h (k+1))))
 \/ ((∀k,n<=k->k<N->∃i,t.slot (sq t.mask h k).j = .live i/\hashAt i≠h)/\probe.go t hashAt h fuel (sq t.mask h n)=some (.empty (sq t.mask h N).j none))
 | 0,n,h1,h2=>absurd h1 (by lia)
 | fuel+1,n,h1,h2=>by
   by_cases e:n=N
   .subst e;refine .inr ⟨λk a b=>by lia,?_⟩;unfold probe.go;rw[h0,zrr]
   .obtain⟨i,hi⟩:=(zkk hd (sq t.mask h n).j).resolve_left (hb n (by lia))
    by_cases eh:hashAt i=h
    .refine .inl ⟨n,i,Qh _,by lia,hi,eh,λk' a b=>by lia,?_⟩;unfold probe.go;rw[hi];show(if hashAt i == h then _ else _)=_;rw[j7 (by simp[eh])];rfl
    .have gs:probe.go t hashAt h (fuel+1) (sq t.mask h n)=probe.go t hashAt h fuel (sq t.mask h (n+1)):=by
      rw[probe.go,hi];show(if hashAt i == h then _ else _)=_;rw[j8 (by simp[eh])];rfl
     rw[gs]
     have add:∀k',n<=k'->(n+1<=k'->∃i',t.slot (sq t.mask h k').j = .live i'/\hashAt i'≠h)->∃i',t.slot (sq t.mask h k').j = .live i'/\hashAt i'≠h:=λk' a b=>by
      by_cases z:k'=n
      .subst z;exact⟨i,hi,eh⟩
      .exact b (by lia)
     rcases zyc hashAt h N h0 hb fuel (n+1) (by lia) (by lia) with ⟨k,i',a1,a2,a3,a4,a5,a6⟩|⟨a1,a2⟩
     .exact .inl ⟨k,i',by lia,a2,a3,a4,λk' b1 b2=>add k' b1 λz=>a5 k' z b2,a6⟩
     .exact .inr ⟨λk b1 b2=>add k b1 λz=>a1 k z b2,a2⟩
end
end TB
namespace TB
open PySem PySem.SetTable
theorem len_nd{α:Type}[BEq α][LawfulBEq α]{xs ys:List α}(h:xs.Nodup)(hs:∀k∈xs,k∈ys):xs.length<=ys.length:=by
 induction xs generalizing ys with
 | nil=>exact QE _
 | cons x xs ih=>
   have hx:x∈ys:=hs x (by simp);have h':=Jh.mp h;have:=ih (ys:=ys.erase x) h'.2 λk hk=>(YW (λz:k=x=>h'.1 (z ▸ hk))).mpr (hs k (Qf _ hk));rw[Yt hx] at this;have:0<ys.length:=YE hx;simp only[Q3];lia
theorem zqh{ps:List Nat}{M:Nat}(h:ps.length<M):∃j,j<M/\j ∉ ps:=by
 refine ZM λz=>?_;have:=len_nd (xs:=QH M) (ys:=ps) YO λk hk=>ZM λq=>z ⟨k,QJ.mp hk,q⟩;rw[QZ] at this;lia
structure TOk(t:TM)(hs:List Int)(m:Nat):Prop where
 mm:t.mask+1=2 ^ m
 m3:3<=m
 mb:m<=13
 dm:t.dummies = #[]
 sz:t.place.size=hs.length
 inc:Inc t.place
 le:∀i,i<t.place.size->t.place.getD i 0<=t.mask
 rm:t.place.size<=t.mask
 rc:∀i h,hs[i]? = some h->∃n,(sq t.mask h n).j=t.place.getD i 0/\∀k,k<n->t.slot (sq t.mask h k).j≠.empty
theorem zes(xs:Array Nat)(i:Nat):xs.getD i 0=xs.toList[i]?.getD 0:=by
 rw[Ja,QK]
theorem TOk.free{m:Nat}(O:TOk t hs m)(h:Int):∃N,N<10 * turns t.mask/\t.slot (sq t.mask h N).j = .empty/\∀k,k<N->t.slot (sq t.mask h k).j≠.empty:=by
 obtain⟨j,hj,hn⟩:=zqh (ps:=t.place.toList) (M:=t.mask+1) (by have:=O.rm;simp;lia);obtain⟨n,h1,h2⟩:=z6t O.mm h (j:=j) (by lia)
 have he:t.slot j = .empty:=zrh O.dm λi hi e=>hn (by
  have:=zto hi;rw[e] at this
  exact Qn (by rw[QK];exact this))
 obtain⟨N,a1,a2,a3⟩:=z3p (p:=λk=>t.slot (sq t.mask h k).j = .empty) n (by rw[h2];exact he);exact⟨N,by lia,a2,a3⟩
def ins{α:Type}(p:Nat)(x:α)(l:List α):List α:=l.take p++x::l.drop p
theorem zhz{α:Type}{p:Nat}{x:α}{l:List α}(hp:p<=l.length)(i:Nat):(ins p x l)[i]? = if i<p then l[i]? else if i=p then some x else l[i-1]?:=by
 unfold ins;rw[Uq];have hl:(l.take p).length=p:=by rw[QX];lia
 rw[hl]
 by_cases h1:i<p
 .rw[j7 h1,j7 h1,List.getElem?_take,j7 h1]
 .rw[j8 h1,j8 h1]
  by_cases h2:i=p
  .subst h2;simp
  .rw[j8 h2,show i-p=(i-p-1)+1 by lia,Zn,Jl]
   congr 1
   lia
theorem zfl{α:Type}{p:Nat}{x:α}{l:List α}:(ins p x l).length=l.length+1:=by
 unfold ins;rw[Qq,Q3,QX,Z8];lia
theorem insA{α:Type}(xs:Array α)(p:Nat)(x:α):(insertAt xs p x).toList=ins p x xs.toList:=by
 rw[SetTable.toList_insertAt];rfl
theorem TOk.put{m:Nat}(O:TOk t hs m){h:Int}{N:Nat}(hz:t.place.size+1<=t.mask)(h0:t.slot (sq t.mask h N).j = .empty)(hb:∀k,k<N->t.slot (sq t.mask h k).j≠.empty)(hm:(sq t.mask h N).j<=t.mask)(b:Bool):
 TOk { (t.put (sq t.mask h N).j).1 with plain:=b } (ins (below t.place (sq t.mask h N).j) h hs) m/\(t.put (sq t.mask h N).j).2=below t.place (sq t.mask h N).j:=by
 refine⟨?_,rfl⟩;generalize hj:(sq t.mask h N).j=j at *;obtain⟨b1,b2,b3⟩:=zii O.inc j;generalize hp:below t.place j=p at *
 have hd:has t.dummies j=false:=by
  rw[O.dm];unfold has;simp
 generalize ht:({ (t.put j).1 with plain:=b }:TM)=t';have mk':t'.mask=t.mask:=by subst ht;rfl
 have dm':t'.dummies = #[]:=by
  subst ht;show(if has t.dummies j=true then _ else t.dummies) = #[];rw[j8 (by rw[hd];exact Q8)];exact O.dm
 have pl:t'.place.toList=ins p j t.place.toList:=by
  subst ht;show(insertAt t.place (below t.place j) j).toList=_;rw[insA,hp]
 have psz:t'.place.size=t.place.size+1:=by
  rw[<- QV,pl,zfl,QV]
 have hpl:p<=t.place.toList.length:=by simpa using b1
 have at':∀i,t'.place.getD i 0=if i<p then t.place.getD i 0 else if i=p then j else t.place.getD (i-1) 0:=λi=>by
  rw[zes,pl,zhz hpl]
  split
  .rw[zes]
  .split
   .rfl
   .rw[zes]
 have ne:∀i,i<t.place.size->t.place.getD i 0≠j:=λi hi=>zfs O.inc h0 hi
 have inc':Inc t'.place:=λi k hik hk=>by
  rw[at',at'];rw[psz] at hk
  by_cases c1:k<p
  .rw[j7 c1,j7 (by lia)];exact O.inc i k hik (by lia)
  .rw[j8 c1]
   by_cases c2:k=p
   .rw[j7 c2,j7 (by lia)];exact b2 i (by lia)
   .rw[j8 c2]
    by_cases c3:i<p
    .rw[j7 c3];exact O.inc i (k-1) (by lia) (by lia)
    .rw[j8 c3]
     by_cases c4:i=p
     .rw[j7 c4];have:=b3 (k-1) (by lia) (by lia);have:=ne (k-1) (by lia);lia
     .rw[j8 c4];exact O.inc (i-1) (k-1) (by lia) (by lia)
 have keep:∀q,t.slot q≠.empty->t'.slot q≠.empty:=λq hq z=>by
  obtain⟨i,hi⟩:=(zkk O.dm q).resolve_left hq;obtain⟨h1,h2⟩:=zkx hi
  by_cases c:i<p
  .refine zfs inc' z (i:=i) (by lia) ?_;rw[at',j7 c,h2]
  .refine zfs inc' z (i:=i+1) (by lia) ?_;rw[at',j8 (by lia),j8 (by lia)];exact h2
 have hsl:p<=hs.length:=by rw[<- O.sz];exact b1
 refine⟨by rw[mk'];exact O.mm,O.m3,O.mb,dm',by rw[psz,zfl,O.sz],inc',λi hi=>?_,by rw[psz,mk'];exact hz,λi g hg=>?_⟩
 .rw[at',mk']
  split
  .exact O.le i (by lia)
  .split
   .exact hm
   .exact O.le (i-1) (by lia)
 .rw[zhz hsl] at hg;rw[at',mk']
  have lift:∀i',hs[i']? = some g->∃n,(sq t.mask g n).j=t.place.getD i' 0/\∀k,k<n->t'.slot (sq t.mask g k).j≠.empty:=λi' e=>by
   obtain⟨n,a,c⟩:=O.rc i' g e;exact⟨n,a,λk hk=>keep _ (c k hk)⟩
  by_cases c1:i<p
  .rw[j7 c1] at hg ⊢;exact lift i hg
  .rw[j8 c1] at hg ⊢
   by_cases c2:i=p
   .rw[j7 c2] at hg ⊢;cases hg;exact⟨N,hj,λk hk=>keep _ (hb k hk)⟩
   .rw[j8 c2] at hg ⊢;exact lift (i-1) hg
theorem zx8{mask:Nat}(h:Int):∀n,(sq mask h n).j<=mask/\(sq mask h n).more<=mask-(sq mask h n).j:=by
 have hr:∀i,i<mask+1->runEnd mask i-i<=mask-i:=λi hi=>by
  unfold runEnd
  split <;> lia
 intro n
 induction n with
 | zero=>
   have:=Vv (bits h) (show mask+1 > 0 by lia);exact⟨by show bits h % (mask+1)<=mask;lia,hr _ this⟩
 | succ n ih=>
   show((T0 mask).advance (sq mask h n)).j<=mask/\((T0 mask).advance (sq mask h n)).more<=mask-((T0 mask).advance (sq mask h n)).j;unfold YQ
   split
   .dsimp only;lia
   .have:=Vv ((sq mask h n).i * 5+1+(sq mask h n).perturb / 32) (show mask+1 > 0 by lia);exact⟨by show((sq mask h n).i * 5+1+(sq mask h n).perturb / 32) % (mask+1)<=mask;lia,hr _ this⟩
end TB
namespace TB
open PySem PySem.SetTable
def stn(mask:Nat)(h:Int):Nat->Nat
 | 0=>0
 | k+1=>stn mask h k+(runEnd mask (lp mask h k).1-(lp mask h k).1)+1
theorem zyp(mask:Nat)(h:Int):∀k,sq mask h (stn mask h k)=rs mask (lp mask h k)
 | 0=>rfl
 | k+1=>zo5 (zyp mask h k)
theorem zv9{mask m:Nat}(hm:mask+1=2 ^ m)(h:Int){j:Nat}(hj:j<=mask):∃K,K<=12+mask/\(lp mask h K).1=j:=by
 obtain⟨n,hn,e⟩:=come m (lp mask h 12).1 j;rw[<- hm] at e hn;have e2:=zq7 mask h n;rw[e,YR (zqu ..),YR (UY hj)] at e2;exact⟨12+n,by lia,e2⟩
structure Own(mask:Nat)(hs:List Int)(ps:List Nat)(owner:Array (Option Nat)):Prop where
 sz:owner.size=mask+1
 nd:ps.Nodup
 le:∀p∈ps,p<=mask
 yes:∀(i p:Nat),ps[i]? = some p->owner.getD p none=some i
 no:∀j,j<=mask->j ∉ ps->owner.getD j none=none
 rc:∀(i p:Nat) (h:Int),ps[i]? = some p->hs[i]? = some h->∃n,(sq mask h n).j=p/\∀k,k<n->(sq mask h k).j∈ps
section
variable {mask:Nat}{hs:List Int}{ps:List Nat}{owner:Array (Option Nat)}
theorem Own.look(O:Own mask hs ps owner){j:Nat}(hj:j<=mask):(owner.getD j (some 0)).isNone=true↔j ∉ ps:=by
 have e:owner.getD j (some 0)=owner.getD j none:=by
  have:=O.sz;simp[Vw,show j<owner.size by lia]
 rw[e];constructor
 .intro h hp;obtain⟨i,hi⟩:=QQ.mp hp;rw[O.yes i j hi] at h;cases h
 .intro h;rw[O.no j hj h];rfl
theorem zm8{i d:Nat}(hi:i<mask+1)(hd:d<=runEnd mask i-i):i+d<=mask:=by
 unfold runEnd at hd
 split at hd <;> lia
theorem zqk(O:Own mask hs ps owner)(h:Int)(K:Nat)(hK:(lp mask h K).1 ∉ ps):∀fuel k,K<k+fuel->k<=K ->
 ∃N,layClean.free mask owner fuel (lp mask h k).1 (lp mask h k).2=some (sq mask h N).j/\(sq mask h N).j ∉ ps/\∀k',stn mask h k<=k'->k'<N->(sq mask h k').j∈ps
 | 0,k,h1,h2=>absurd h1 (by lia)
 | fuel+1,k,h1,h2=>by
   have hl:=zqu mask h k;have pos:∀d,d<=runEnd mask (lp mask h k).1-(lp mask h k).1->(sq mask h (stn mask h k+d)).j=(lp mask h k).1+d:=λd hd=>by rw[zrg (zyp mask h k) d hd]
   have rge:(lp mask h k).1<=runEnd mask (lp mask h k).1:=by unfold runEnd;split <;> lia
   unfold layClean.free
   cases e:(QH (runEnd mask (lp mask h k).1+1-(lp mask h k).1)).find? λd=>(owner.getD ((lp mask h k).1+d) (some 0)).isNone with
   | some d=>
     dsimp only;obtain⟨e1,as,bs,e2,e3⟩:=YU.mp e
     have hd:d<runEnd mask (lp mask h k).1+1-(lp mask h k).1:=by
      have:d∈QH (runEnd mask (lp mask h k).1+1-(lp mask h k).1):=by rw[e2];simp
      exact QJ.mp this
     have hd':d<=runEnd mask (lp mask h k).1-(lp mask h k).1:=by lia
     refine⟨stn mask h k+d,by rw[pos d hd'],?_,λk' a1 a2=>?_⟩
     .rw[pos d hd'];exact(O.look (zm8 hl hd')).mp e1
     .obtain⟨c,rfl⟩:∃c,k'=stn mask h k+c:=⟨k'-stn mask h k,by lia⟩;have hc:c<=runEnd mask (lp mask h k).1-(lp mask h k).1:=by lia
      rw[pos c hc]
      have hmem:c∈as:=by
       have al:as=QH as.length:=by
        have:=jF (List.take as.length) e2;rw[Ur,List.take_range] at this
        have hle:as.length<=runEnd mask (lp mask h k).1+1-(lp mask h k).1:=by
         have:=jF JB e2;simp at this;lia
        rw[GA hle] at this;exact this.symm
       have ad:as.length=d:=by
        have:=jF (λl=>l[as.length]?) e2;simp only[Z7 (Qh _),Nat.sub_self,VG] at this;rw[Qi] at this;obtain⟨_,q⟩:=this;rw[ZT] at q;exact q
       rw[al,QJ];lia
      have:=e3 c hmem;refine ZM λz=>?_;rw[(O.look (zm8 hl hc)).mpr z] at this;cases this
   | none=>
     have all:∀d,d<=runEnd mask (lp mask h k).1-(lp mask h k).1->(lp mask h k).1+d∈ps:=λd hd=>by
      have:=UG.mp e d (QJ.mpr (by lia));refine ZM λz=>this ((O.look (zm8 hl hd)).mpr z)
     have ne:k≠K:=λz=>by
      subst z;exact hK (by simpa using all 0 (QE _))
     obtain⟨N,a1,a2,a3⟩:=zqk O h K hK fuel (k+1) (by lia) (by lia);refine⟨N,a1,a2,λk' b1 b2=>?_⟩
     by_cases c:stn mask h (k+1)<=k'
     .exact a3 k' c b2
     .obtain⟨c',rfl⟩:∃c,k'=stn mask h k+c:=⟨k'-stn mask h k,by lia⟩
      have hc:c'<=runEnd mask (lp mask h k).1-(lp mask h k).1:=by
       have:stn mask h (k+1)=stn mask h k+(runEnd mask (lp mask h k).1-(lp mask h k).1)+1:=rfl;lia
      rw[pos c' hc];exact all c' hc
theorem Own.nil(mask:Nat)(hs:List Int):Own mask hs [] (VZ (mask+1) none) :=
 { sz:=by simp,nd:=.nil,le:=(λp h=>(Q4 h).elim),yes:=(λi p h=>by simp at h),no:=(λj hj _=>by simp[Vw]),rc:=(λi p h e=>by simp at e) }
theorem Own.more(O:Own mask hs ps owner){j:Nat}{h:Int}(hj:j<=mask)(hn:j ∉ ps)(hh:hs[ps.length]? = some h){N:Nat}(e:(sq mask h N).j=j)(hb:∀k,k<N->(sq mask h k).j∈ps):Own mask hs (ps ++ [j]) (owner.setIfInBounds j (some ps.length)):=by
 have hsz:=O.sz
 have gd:∀q,q<=mask->(owner.setIfInBounds j (some ps.length)).getD q none=if q=j then some ps.length else owner.getD q none:=λq hq=>by
  rw[Ja,Array.getElem?_setIfInBounds,Ja]
  by_cases c:q=j
  .subst c;rw[j7 rfl,j7 rfl,j7 (by lia)];rfl
  .rw[j8 (ZA c),j8 c]
 have up:∀(i p:Nat),(ps ++ [j])[i]? = some p->(i<ps.length/\ps[i]? = some p)\/(i=ps.length/\p=j):=λi p hi=>by
  rw[Uq] at hi
  split at hi
  .rename_i c;exact .inl ⟨c,hi⟩
  .rename_i c
   by_cases c2:i=ps.length
   .subst c2;simp at hi;exact .inr ⟨rfl,hi.symm⟩
   .rw[QD (by simp;lia)] at hi;cases hi
 refine⟨by simpa using hsz,?_,λp hp=>?_,λi p hi=>?_,λq hq hqn=>?_,λi p g hi hg=>?_⟩
 .exact Yd.mpr ⟨O.nd,by simp,λa ha b hb=>by rw[Qb] at hb;subst hb;exact λz=>hn (z ▸ ha)⟩
 .rcases Qv.mp hp with hp|hp
  .exact O.le p hp
  .rw[Qb.mp hp];exact hj
 .rcases up i p hi with ⟨h1,h2⟩|⟨h1,h2⟩
  .have pm:=Qn h2;rw[gd p (O.le p pm),j8 (λz:p=j=>hn (z ▸ pm))];exact O.yes i p h2
  .subst h1 h2;rw[gd p hj,j7 rfl]
 .rw[gd q hq,j8 (λz=>hqn (by simp[z]))];exact O.no q hq λz=>hqn (by simp[z])
 .rcases up i p hi with ⟨h1,h2⟩|⟨h1,h2⟩
  .obtain⟨n,a,b⟩:=O.rc i p g h2 hg;exact⟨n,a,λk hk=>QR _ (b k hk)⟩
  .subst h1 h2;rw[hh] at hg;cases hg;exact⟨N,e,λk hk=>QR _ (hb k hk)⟩
abbrev zmb(mask:Nat)(acc:Option (Array (Option Nat)×Nat))(h:Int):Option (Array (Option Nat)×Nat):=do
 let (owner,k) <- acc
 let j <- layClean.free mask owner (turns mask) (bits h % (mask+1)) (bits h)
 pure (owner.setIfInBounds j (some k),k+1)
theorem zmy{m:Nat}(hm:mask+1=2 ^ m)(hz:hs.length<=mask):∀(rest:List Int) (ps:List Nat) (owner:Array (Option Nat)),hs.drop ps.length=rest->ps.length<=hs.length->Own mask hs ps owner ->
 ∃ps' owner',rest.foldl (zmb mask) (some (owner,ps.length))=some (owner',hs.length)/\Own mask hs ps' owner'/\ps'.length=hs.length
 | [],ps,owner,hd,hl,O=>by
   have:ps.length=hs.length:=by
    have:=jF JB hd;simp at this;lia
   exact⟨ps,owner,by rw[this];rfl,O,this⟩
 | h::rest,ps,owner,hd,hl,O=>by
   have hh:hs[ps.length]? = some h:=by
    have:=jF (λl=>l[0]?) hd;simpa using this
   have hlt:ps.length<hs.length:=(Qi.mp hh).1;obtain⟨j,hj,hn⟩:=zqh (ps:=ps) (M:=mask+1) (by lia);obtain⟨K,k1,k2⟩:=zv9 hm h (j:=j) (by lia);obtain⟨N,a1,a2,a3⟩:=zqk O h K (by rw[k2];exact hn) (turns mask) 0 (by unfold turns;lia) (QE _)
   have st:zmb mask (some (owner,ps.length)) h=some (owner.setIfInBounds (sq mask h N).j (some ps.length),ps.length+1):=by
    show((layClean.free mask owner (turns mask) (lp mask h 0).1 (lp mask h 0).2).bind λj=>some (owner.setIfInBounds j (some ps.length),ps.length+1))=_;rw[a1];rfl
   rw[Jx,st];have O':=O.more (zx8 h N).1 a2 hh rfl λk hk=>a3 k (QE _) hk
   have:=zmy hm hz rest (ps ++ [(sq mask h N).j]) _ (by
    rw[Qq,QA,<- GN,hd];rfl) (by simp;lia) O'
   rw[Qq,QA] at this;exact this
theorem zv0{m:Nat}(hm:mask+1=2 ^ m)(hz:hs.length<=mask):∃ps owner,layClean mask hs.toArray=some owner/\Own mask hs ps owner/\ps.length=hs.length:=by
 obtain⟨ps,owner,a,b,c⟩:=zmy hm hz hs [] _ rfl (QE _) (Own.nil mask hs);refine⟨ps,owner,?_,b,c⟩;unfold layClean
 have e:(hs.toArray.foldl (zmb mask) (some (VZ (mask+1) none,0)))=some (owner,hs.length):=by
  rw[<- UE];exact a
 show GP (·.1) (hs.toArray.foldl (zmb mask) (some (VZ (mask+1) none,0)))=_;rw[e];rfl
end
end TB
namespace TB
open PySem PySem.SetTable
theorem zm5(n:Nat):∀fuel m,n<2 ^ (m+fuel)->∃m',m<=m'/\sizeAbove.go n fuel (2 ^ m)=2 ^ m'/\n<2 ^ m'/\(m'=m\/2 ^ m'<=2 * n)
 | 0,m,h=>⟨m,Qh _,rfl,h,.inl rfl⟩
 | fuel+1,m,h=>by
   unfold sizeAbove.go
   by_cases c:2 ^ m<=n
   .rw[j7 c,show 2 ^ m * 2=2 ^ (m+1) from(JD ..).symm];obtain⟨m',a,b,d,e⟩:=zm5 n fuel (m+1) (by rw[show m+1+fuel=m+(fuel+1) by lia];exact h);refine⟨m',by lia,b,d,.inr ?_⟩;rcases e with e|e
    .rw[e,JD];lia
    .exact e
   .rw[j8 c];exact⟨m,Qh _,rfl,by lia,.inl rfl⟩
theorem above{n:Nat}(hn:n<2 ^ 60):∃m,3<=m/\sizeAbove n=2 ^ m/\n<2 ^ m/\(m=3\/2 ^ m<=2 * n) :=
 zm5 n 64 3 (QL hn (Js (by decide) (by decide)))
theorem zfb{β γ:Type}{f:β->Option γ}:∀{l:List β},(∀b∈l,(f b).isSome=true)->∀a:Nat,(l.filterMap f)[a]? = l[a]?.bind f
 | [],_,a=>by simp
 | b::l,h,a=>by
   obtain⟨c,hc⟩:=JL.mp (h b (by simp));rw[VC hc]
   cases a with
   | zero=>simp[hc]
   | succ a=>
     rw[Zn,Zn];exact zfb (λb' hb=>h b' (Qf _ hb)) a
theorem zt5{α:Type}(t:TM)(es:Array (Int×α))(hz:es.size<=1000):∃t' order m,t.relaid (es.map (·.1)) (es.size * 4)=some (t',order)/\TOk t' ((order.filterMap (es[·]?)).toList.map (·.1)) m/\(order.filterMap (es[·]?)).toList.Perm es.toList/\t'.led=t.led/\t'.plain=t.plain/\t'.tooFull=false/\order.toList.Perm (QH es.size):=by
 obtain⟨m,m3,em,lm,um⟩:=above (n:=es.size * 4) (by lia)
 have m13:m<=12:=by
  rcases um with rfl|um
  .decide
  .refine YK λc=>?_;have:2 ^ 13<=2 ^ m:=Js (by decide) c;lia
 unfold GC Ta;rw[em];have hm:2 ^ m-1+1=2 ^ m:=by lia
 generalize 2 ^ m-1=mask at hm ⊢
 have he:(es.map (·.1))=(es.toList.map (·.1)).toArray:=by
  apply YM.mp;simp
 rw[he];generalize hhs:es.toList.map (·.1)=hs;have hl:hs.length=es.size:=by rw[<- hhs];simp
 obtain⟨ps,owner,a,O,c⟩:=zv0 (mask:=mask) (hs:=hs) hm (by lia);rw[a];generalize hlv:((QH (mask+1)).filterMap λj=>(owner.getD j none).map (j,·))=lv
 have mem1:∀q∈lv,q.1<=mask/\ps[q.2]? = some q.1:=λq hq=>by
  rw[<- hlv] at hq;obtain⟨j,hj,e⟩:=Yy.mp hq;have hj':=QJ.mp hj
  cases eo:owner.getD j none with
  | none=>rw[eo] at e;cases e
  | some i=>
    rw[eo] at e;cases e;refine⟨Nat.le_of_lt_succ hj',?_⟩;refine ZM λz=>?_
    by_cases hp:j∈ps
    .obtain⟨i',hi'⟩:=QQ.mp hp;have:=O.yes i' j hi';rw[eo] at this;cases this;exact z hi'
    .have:=O.no j (by lia) hp;rw[eo] at this;cases this
 have mem2:∀i j,ps[i]? = some j->(j,i)∈lv:=λi j h=>by
  rw[<- hlv];refine Yy.mpr ⟨j,QJ.mpr (by have:=O.le j (Qn h);lia),?_⟩;rw[O.yes i j h];rfl
 have rise:lv.Pairwise λa b=>a.1<b.1:=by
  rw[<- hlv,List.pairwise_filterMap];refine List.Pairwise.imp ?_ List.pairwise_lt_range;intro x y hxy b hb b' hb'
  cases e1:owner.getD x none with
  | none=>rw[e1] at hb;cases hb
  | some i=>
    cases e2:owner.getD y none with
    | none=>rw[e2] at hb';cases hb'
    | some i'=>
      rw[e1] at hb;rw[e2] at hb';cases hb;cases hb';exact hxy
 have nd2:(lv.map (·.2)).Nodup:=by
  unfold List.Nodup;rw[Zl];refine List.Pairwise.imp_of_mem ?_ rise;intro x y hx hy hxy z;have h1:=(mem1 x hx).2;have h2:=(mem1 y hy).2;rw[z,h2] at h1;have:=Zi h1;lia
 have perm:(lv.map (·.2)).Perm (QH es.size):=by
  refine(Vx nd2 YO).mpr λi=>?_;rw[QJ,Q0];constructor
  .rintro⟨q,hq,rfl⟩;have:=(Qi.mp (mem1 q hq).2).1;lia
  .intro hi;exact⟨(ps[i]'(by lia),i),mem2 i _ (Qg (by lia)),rfl⟩
 have lvlen:lv.length=es.size:=by simpa using perm.length_eq
 have fm:((lv.map (·.2)).toArray.filterMap (es[·]?)).toList=(lv.map (·.2)).filterMap (es[·]?):=by simp
 have isS:∀i∈lv.map (·.2),(es[i]?).isSome=true:=λi hi=>by
  have:=QJ.mp (perm.mem_iff.mp hi);simp[this]
 have p2:((lv.map (·.2)).toArray.filterMap (es[·]?)).toList.Perm es.toList:=by
  rw[fm,<- Nl es];exact perm.filterMap _
 refine⟨{ mask,place:=((lv.map (·.1)).toArray:Array Nat),dummies:=#[],finger:=t.finger,led:=t.led,moves:=t.movedTo mask,plain:=t.plain },(lv.map (·.2)).toArray,m,by rw[<- hlv];rfl,?_,p2,rfl,rfl,?_,by simpa using perm⟩
 .have pe:((lv.map (·.1)).toArray:Array Nat).size=es.size:=by simp[lvlen]
  have gd:∀i q,lv[i]? = some q->((lv.map (·.1)).toArray:Array Nat).getD i 0=q.1:=λi q h=>by
   rw[zes];simp[h]
  have inc:Inc ((lv.map (·.1)).toArray:Array Nat):=λi k hik hk=>by
   have hk':k<lv.length:=by simpa using hk
   rw[gd i lv[i] (Qg (by lia)),gd k lv[k] (Qg hk')];exact ZD.mp rise i k (by lia) hk' hik
  refine⟨hm,m3,by lia,rfl,?_,inc,λi hi=>?_,?_,λi h hg=>?_⟩
  .show((lv.map (·.1)).toArray:Array Nat).size=_;rw[pe,Qc,p2.length_eq,QV]
  .have hi':i<lv.length:=by simpa using hi
   show((lv.map (·.1)).toArray:Array Nat).getD i 0<=mask;rw[gd i lv[i] (Qg hi')];exact(mem1 _ (QT hi')).1
  .show((lv.map (·.1)).toArray:Array Nat).size<=mask;rw[pe];lia
  .rw[Qj,fm,zfb isS,Qj] at hg
   cases eq:lv[i]? with
   | none=>rw[eq] at hg;cases hg
   | some q=>
     rw[eq] at hg;have hq:=mem1 q (Qn eq)
     have hes:hs[q.2]? = some h:=by
      rw[<- hhs,Qj,QK];exact hg
     obtain⟨n,n1,n2⟩:=O.rc q.2 q.1 h hq.2 hes;refine⟨n,?_,λk hk z=>?_⟩
     .show _=((lv.map (·.1)).toArray:Array Nat).getD i 0;rw[gd i q eq];exact n1
     .obtain⟨i',hi'⟩:=QQ.mp (n2 k hk);obtain⟨a',ha'⟩:=QQ.mp (mem2 i' _ hi');refine zfs (t:={ mask,place:=((lv.map (·.1)).toArray:Array Nat),dummies:=#[],finger:=t.finger,led:=t.led,moves:=t.movedTo mask,plain:=t.plain }) inc z (i:=a') ?_ ?_
      .show a'<((lv.map (·.1)).toArray:Array Nat).size;rw[pe,<- lvlen];exact(Qi.mp ha').1
      .exact gd a' _ ha'
 .show decide (((lv.map (·.1)).toArray.size+(#[]:Array Nat).size) * 5 ≥ mask * 3)=false;rw[show((lv.map (·.1)).toArray:Array Nat).size=es.size by simp[lvlen]];have:(#[]:Array Nat).size=0:=rfl;have h8:2 ^ 3<=2 ^ m:=Js (by decide) m3;refine jA ?_;lia
end TB
namespace HK
open PySem PySem.Spec PyProof.Rows
mutual
def hk:Tl->Bool
 | .int _=>true
 | .str _=>true
 | .tuple ds=>hks ds
 | _=>false
def hks:List Tl->Bool
 | []=>true
 | d::ds=>hk d && hks ds
end
mutual
def hD(w:Tt):Tl->Int
 | .int i=>hashInt i
 | .str x=>N5 w x
 | .tuple ds=>reduceHash (ZN (hDs w ds))
 | _=>0
def hDs(w:Tt):List Tl->List Int
 | []=>[]
 | d::ds=>hD w d::hDs w ds
end
mutual
def bv:Tl->Bool
 | .int _=>true
 | .tuple ds=>bvs ds
 | _=>false
def bvs:List Tl->Bool
 | []=>true
 | d::ds=>bv d && bvs ds
end
mutual
def dr:Tl->Nat
 | .tuple ds=>drs ds+1
 | _=>1
def drs:List Tl->Nat
 | []=>0
 | d::ds=>dr d+drs ds
end
theorem zd8:∀{ds:List Tl},hks ds=true->∀d∈ds,hk d=true
 | d::ds,h,e,he=>by
   simp only[hks,Qx] at h;rcases Qs.mp he with rfl|he
   .exact h.1
   .exact zd8 h.2 e he
theorem zdm:∀{ds:List Tl} {d:Tl},d∈ds->d.depth<=Zq ds
 | e::ds,d,h=>by
   rw[Zq];rcases Qs.mp h with rfl|h
   .exact Nat.le_max_left _ _
   .exact QY (zdm h) (Nat.le_max_right _ _)
mutual
theorem zc4:∀d:Tl,hk d=true->L3.solid d=true
 | .int _,_=>rfl
 | .str _,_=>rfl
 | .tuple ds,h=>zi5 ds (by simpa[hk] using h)
 | .none,h=>rfl
 | .bool _,h=>by simp[hk] at h
 | .list _,h=>by simp[hk] at h
 | .dict _,h=>by simp[hk] at h
theorem zi5:∀ds:List Tl,hks ds=true->L3.solids ds=true
 | [],_=>rfl
 | d::ds,h=>by
   simp only[hks,Qx] at h;rw[L3.solids,zc4 d h.1,zi5 ds h.2];rfl
end
section
variable {P:Tr}{w:Tt}
theorem zb1(r:Mf h (v::vs) ds as):∃d ds' a b,ds=d::ds'/\TV h v d a/\Mf h vs ds' b:=by
 cases r with
 | cons r1 r2=>exact⟨_,_,_,_,rfl,r1,r2⟩
theorem zjs:∀(n:Nat) (d:Tl),d.depth<=n->hk d=true->∀(A:Tv) (E:Tn->To->Prop) (s:To) (v:Tn) (as:List Addr) (Q:Int->To->Prop),A.units+d.depth<cLine->TV s.heap v d as ->
 Q (hD w d) { s with toks:=s.toks+dr d }->wpAny (model P w) A (pyHash v) Q E s:=by
 intro n
 induction n with
 | zero=>
   intro d hd hk' A E s v as Q hu r h
   cases r with
   | int i t=>exact Nv h
   | str x t=>exact Nw h
   | tuple _ _ _ _=>simp[QO] at hd
   | _=>simp[hk] at hk'
 | succ n ih=>
   intro d hd hk' A E s v as Q hu r h
   cases r with
   | int i t=>exact Nv h
   | str x t=>exact Nw h
   | @tuple a o vs c ds as ho hc hdt hr=>
     have hds:hks ds=true:=by simpa[hk] using hk'
     rw[QO] at hd hu;have hT:s.TypeIs (.ref a) "tuple" := ⟨o,ho,hc⟩;unfold pyHash pyHashByItsType;refine Tj (wpAny_cRoomFor_or (.inr (by lia)) ?_);refine Tj (TZ hT Yg.lookup ?_);show wpAny _ _ (if(some (Value.builtin "tuple.__hash__") == some ZP)=true then _ else _) Q E s;rw[j8 (by rw[beq_builtin_none];exact Q8)];refine Tj (TZ hT Yg.lookup ?_);show wpAny _ _ (callSpecialIfBoundUnlessNone? (.ref a) "__hash__" _ >>= _) Q E s;refine Tj (wpAny_callSpecialIfBoundUnlessNone?_slot hT Yg (Tw Yg hT F.entry_tuple_hash ?_ (F.args_tuple_hash_1 _)));show wpAny _ _ (Yj (.ref a) >>= _) _ _ s;refine Tj (wpAny_tupleItemsOf ho hdt ?_);refine Tj ?_;rw[<- JU]
     refine Mu _
      (λrest (b:Array Int) s'=>∃left as',Mf s.heap rest left as'/\(∀d∈left,d∈ds)/\b.toList++hDs w left=hDs w ds/\∃k,s' = { s with toks:=s.toks+k }/\k+drs left=drs ds)
      _ ?_ ?_ _ _ ⟨ds,_,hr,λ_ z=>z,rfl,0,rfl,Vl _⟩
     .rintro x rest b s' ⟨left,as',hl,hm,hb,k,rfl,hk2⟩;obtain⟨d,ds',a1,b1,rfl,r1,r2⟩:=zb1 hl;have hd':=hm d (by simp);have hdep:=zdm hd';refine Tj (ih d (by lia) (zd8 hds d hd') A.in1 _ { s with toks:=s.toks+k } x a1 _ (by show A.units+1+d.depth<cLine;lia) r1 ?_);rw[hDs] at hb;rw[drs] at hk2
      first
       | exact Tk ⟨ds',b1,r2,λe z=>hm e (Qf _ z),by simpa using hb,k+dr d,by simp[Yu],by lia⟩
       | exact Tj (Tk (Tk ⟨ds',b1,r2,λe z=>hm e (Qf _ z),by simpa using hb,k+dr d,by simp[Yu],by lia⟩))
     .rintro b s' ⟨left,as',hl,hm,hb,k,rfl,hk2⟩;cases hl;simp only[hDs,ZK] at hb;simp only[drs,UX] at hk2;show wpAny _ _ (retInt (ZN b.toList)) _ _ _;rw[hb];refine wpAny_ret_mkInt ?_;rw[dr,hD] at h;show wpAny _ _ (if(decide (-(2:Int) ^ 63<=ZN (hDs w ds)) && decide (ZN (hDs w ds)<2 ^ 63))=true then _ else _) Q E _;unfold reduceHash at h;subst hk2
      by_cases hr':(decide (-(2:Int) ^ 63<=ZN (hDs w ds)) && decide (ZN (hDs w ds)<2 ^ 63))=true
      .rw[j7 hr'];rw[j7 hr'] at h;exact Tk (by simpa[Yu] using h)
      .rw[j8 hr'];rw[j8 hr'] at h;exact Tj (TW (Tk (by simpa[Yu] using h)))
   | _=>simp[hk] at hk'
theorem ze6:∀(n:Nat) (d:Tl),d.depth<=n->hk d=true->∀(A:Tv) (E:Tn->To->Prop) (s:To) (v:Tn) (as:List Addr) (Q:Bool->To->Prop),TV s.heap v d as->Q true s->wpAny (model P w) A (eqIsQuiet n v) Q E s:=by
 intro n
 induction n with
 | zero=>
   intro d hd hk' A E s v as Q r h
   cases r with
   | int i t=>exact Mg (MJ _ rfl) h
   | str x t=>exact Mg (MJ _ rfl) h
   | tuple _ _ _ _=>simp[QO] at hd
   | _=>simp[hk] at hk'
 | succ n ih=>
   intro d hd hk' A E s v as Q r h
   cases r with
   | int i t=>exact Mg (MJ _ rfl) h
   | str x t=>exact Mg (MJ _ rfl) h
   | @tuple a o vs c ds as ho hc hdt hr=>
     have hds:hks ds=true:=by simpa[hk] using hk'
     rw[QO] at hd;have hT:s.TypeIs (.ref a) "tuple" := ⟨o,ho,hc⟩;unfold eqIsQuiet;refine Tj (TZ hT F.slot_tuple_eq.lookup ?_);show wpAny _ _ (isInstance (.ref a) (.type "tuple") >>= _) _ _ s;refine Tj (Md hT isSubtype_tuple_tuple ?_);simp only[VA,QI,jD];refine Tj (TR ho hdt ?_);refine Tj ?_;show wpAny _ _ (forIn vs _ _) _ _ s;rw[<- JU];refine Mu _ (λrest r s'=>r.1=none/\s'=s/\∃left as',Mf s.heap rest left as'/\∀d∈left,d∈ds) _ ?_ ?_ _ _ ⟨rfl,rfl,ds,_,hr,λ_ z=>z⟩
     .rintro v rest r s' ⟨hr',rfl,left,as',hl,hm⟩;obtain⟨d,ds',a1,b1,rfl,r1,r2⟩:=zb1 hl;have hd':=hm d (by simp);have hdep:=zdm hd';refine Tj (ih d (by lia) (zd8 hds d hd') _ _ _ v a1 _ r1 ?_);simp only[VA,QI,jD];exact Tk ⟨rfl,rfl,ds',b1,r2,λe z=>hm e (Qf _ z)⟩
     .rintro⟨r1,r2⟩ s' ⟨hr',rfl,_⟩;simp only at hr';subst hr';exact Tk h
   | _=>simp[hk] at hk'
theorem zh2:∀(n:Nat) (d:Tl),d.depth<=n->hk d=true->∀(A:Tv) (E:Tn->To->Prop) (s:To) (v:Tn) (as:List Addr) (Q:Bool->To->Prop),TV s.heap v d as->Q false s->wpAny (model P w) A (ofAClassStatement n v) Q E s:=by
 intro n
 induction n with
 | zero=>
   intro d hd hk' A E s v as Q r h
   cases r with
   | int i t=>exact Tk h
   | str x t=>exact Tk h
   | tuple _ _ _ _=>simp[QO] at hd
   | _=>simp[hk] at hk'
 | succ n ih=>
   intro d hd hk' A E s v as Q r h
   cases r with
   | int i t=>exact Tk h
   | str x t=>exact Tk h
   | @tuple a o vs c ds as ho hc hdt hr=>
     have hds:hks ds=true:=by simpa[hk] using hk'
     rw[QO] at hd;have hT:s.TypeIs (.ref a) "tuple" := ⟨o,ho,hc⟩;unfold ofAClassStatement;refine Tj (Mo hT ?_);refine Tj (Tk ?_);refine SX.wp_f (by decide) ?_;refine Tj (TR ho hdt ?_);refine Tj ?_;show wpAny _ _ (forIn vs _ _) _ _ s;rw[<- JU];refine Mu _ (λrest r s'=>r.1=none/\s'=s/\∃left as',Mf s.heap rest left as'/\∀d∈left,d∈ds) _ ?_ ?_ _ _ ⟨rfl,rfl,ds,_,hr,λ_ z=>z⟩
     .rintro v rest r s' ⟨hr',rfl,left,as',hl,hm⟩;obtain⟨d,ds',a1,b1,rfl,r1,r2⟩:=zb1 hl;have hd':=hm d (by simp);have hdep:=zdm hd';refine Tj (ih d (by lia) (zd8 hds d hd') _ _ _ v a1 _ r1 ?_);simp only[QI,jD];exact Tk ⟨rfl,rfl,ds',b1,r2,λe z=>hm e (Qf _ z)⟩
     .rintro⟨r1,r2⟩ s' ⟨hr',rfl,_⟩;simp only at hr';subst hr';exact Tk h
   | _=>simp[hk] at hk'
theorem zux:∀(n:Nat) (d:Tl),d.depth<=n->hk d=true->∀(A:Tv) (E:Tn->To->Prop) (s:To) (v:Tn) (as:List Addr) (Q:Bool->To->Prop),TV s.heap v d as->Q (bv d) s->wpAny (model P w) A (hashByValue n v) Q E s:=by
 intro n
 induction n with
 | zero=>
   intro d hd hk' A E s v as Q r h
   cases r with
   | int i t=>exact Mg (Ml 0 rfl) h
   | str x t=>exact Mg (Ml 0 rfl) h
   | tuple _ _ _ _=>simp[QO] at hd
   | _=>simp[hk] at hk'
 | succ n ih=>
   intro d hd hk' A E s v as Q r h
   cases r with
   | int i t=>exact Mg (Ml _ rfl) h
   | str x t=>exact Mg (Ml _ rfl) h
   | @tuple a o vs c ds as ho hc hdt hr=>
     have hds:hks ds=true:=by simpa[hk] using hk'
     rw[QO] at hd;rw[bv] at h;have hT:s.TypeIs (.ref a) "tuple" := ⟨o,ho,hc⟩;unfold hashByValue;refine Tj (TZ hT Yg.lookup ?_);show wpAny _ _ (seqItems? (.ref a) >>= _) _ _ s;refine Tj (TR ho hdt ?_);refine Tj ?_;show wpAny _ _ (forIn vs _ _) _ _ s;rw[<- JU];refine Mu _ (λrest r s'=>r.1=none/\s'=s/\∃left as',Mf s.heap rest left as'/\(∀d∈left,d∈ds)/\bvs left=bvs ds) _ ?_ ?_ _ _ ⟨rfl,rfl,ds,_,hr,λ_ z=>z,rfl⟩
     .rintro v rest r s' ⟨hr',rfl,left,as',hl,hm,hb⟩;obtain⟨d,ds',a1,b1,rfl,r1,r2⟩:=zb1 hl;have hd':=hm d (by simp);have hdep:=zdm hd';refine Tj (ih d (by lia) (zd8 hds d hd') _ _ _ v a1 _ r1 ?_);rw[bvs] at hb
      cases e:bv d with
      | true=>
        rw[e] at hb;simp only[VA,QI,jD];exact Tk ⟨rfl,rfl,ds',b1,r2,λe z=>hm e (Qf _ z),by simpa using hb⟩
      | false=>
        rw[e] at hb;simp only[Bool.not_false,jE];rw[<- hb] at h;exact Tk (Tk h)
     .rintro⟨r1,r2⟩ s' ⟨hr',rfl,left,as',hl,hm,hb⟩;simp only at hr';subst hr';cases hl;rw[<- hb] at h;exact Tk h
   | _=>simp[hk] at hk'
end
end HK
namespace HK
open PySem PySem.Spec PyProof.Rows PySem.W
mutual
def dlt:Tl->Tl->Bool
 | .int i,.int j=>decide (i<j)
 | .str x,.str y=>decide (x.cps.toList<y.cps.toList)
 | .tuple xs,.tuple ys=>dlts xs ys
 | _,_=>false
def dlts:List Tl->List Tl->Bool
 | [],[]=>false
 | [],_::_=>true
 | _::_,[]=>false
 | x::xs,y::ys=>if QC x y then dlts xs ys else dlt x y
end
inductive Sh where
 | n
 | t
 | arr (s:Sh)
 | fnil
 | fcons (a r:Sh)
def zal:Sh->Tl->Prop
 | .n,d=>∃i,d = .int i
 | .t,d=>∃x,d = .str x
 | .arr s,d=>∃xs,d = .tuple xs/\∀x∈xs,zal s x
 | .fnil,d=>d = .tuple []
 | .fcons a r,d=>∃x xs,d = .tuple (x::xs)/\zal a x/\zal r (.tuple xs)
theorem zsr:∀{ds:List Tl},(∀d∈ds,hk d=true)->hks ds=true
 | [],_=>rfl
 | d::ds,h=>by rw[hks,h d (by simp),zsr λe z=>h e (Qf _ z)];rfl
theorem zfu:∀(σ:Sh) (d:Tl),zal σ d->hk d=true
 | .n,_,⟨_,e⟩=>by subst e;rfl
 | .t,_,⟨_,e⟩=>by subst e;rfl
 | .arr s,_,⟨xs,e,h⟩=>by subst e;rw[hk];exact zsr λd z=>zfu s d (h d z)
 | .fnil,_,e=>by subst e;rfl
 | .fcons a r,_,⟨x,xs,e,h1,h2⟩=>by
   subst e;have:=zfu r _ h2;rw[hk] at this;rw[hk,hks,zfu a x h1,this];rfl
theorem zjm{d:Tl}(h:zal σ d)(h':zal σ e):QC d e=true↔d=e:=L3.eqv_solid d e (zc4 d (zfu σ d h)) (zc4 e (zfu σ e h'))
structure TO(F:Tl->Prop):Prop where
 irr:∀a,F a->dlt a a=false
 tr:∀a b c,F a->F b->F c->dlt a b=true->dlt b c=true->dlt a c=true
 tri:∀a b,F a->F b->dlt a b=true\/a=b\/dlt b a=true
theorem zc8(hx:zal σ x)(hy:zal σ y)(xs ys:List Tl):dlts (x::xs) (y::ys)=true↔(x=y/\dlts xs ys=true)\/(x≠y/\dlt x y=true):=by
 rw[dlts]
 by_cases e:x=y
 .rw[j7 ((zjm hx hy).mpr e)];simp[e]
 .rw[j8 (λc=>e ((zjm hx hy).mp c))];simp[e]
theorem znu(T:TO (zal σ)):∀{xs:List Tl},(∀x∈xs,zal σ x)->dlts xs xs=false
 | [],_=>rfl
 | x::xs,h=>by
   have hx:=h x (by simp);rw[dlts,j7 ((zjm hx hx).mpr rfl)];exact znu T λy z=>h y (Qf _ z)
theorem zqd(T:TO (zal σ))(hx:zal σ x)(hy:zal σ y)(hz:zal σ z)(ih:dlts xs ys=true->dlts ys zs=true->dlts xs zs=true)(h1:dlts (x::xs) (y::ys)=true)(h2:dlts (y::ys) (z::zs)=true):dlts (x::xs) (z::zs)=true:=by
 rw[zc8 hx hz];rcases(zc8 hx hy xs ys).mp h1 with ⟨rfl,a⟩|⟨a,b⟩
 .rcases(zc8 hx hz ys zs).mp h2 with ⟨rfl,c⟩|⟨c,d⟩
  .exact .inl ⟨rfl,ih a c⟩
  .exact .inr ⟨c,d⟩
 .rcases(zc8 hy hz ys zs).mp h2 with ⟨rfl,c⟩|⟨c,d⟩
  .exact .inr ⟨a,b⟩
  .have t:=T.tr x y z hx hy hz b d;refine .inr ⟨λe=>?_,t⟩;rw[e,T.irr z hz] at t;cases t
theorem zqj(T:TO (zal σ)):∀{xs ys zs:List Tl},(∀x∈xs,zal σ x)->(∀x∈ys,zal σ x)->(∀x∈zs,zal σ x)->dlts xs ys=true->dlts ys zs=true->dlts xs zs=true
 | [],[],_,_,_,_,h,_=>by cases h
 | [],_::_,[],_,_,_,_,h=>by cases h
 | [],_::_,_::_,_,_,_,_,_=>rfl
 | _::_,[],_,_,_,_,h,_=>by cases h
 | _::_,_::_,[],_,_,_,_,h=>by cases h
 | x::xs,y::ys,z::zs,a,b,c,h1,h2=>zqd T (a x (by simp)) (b y (by simp)) (c z (by simp)) (zqj T (λq w=>a q (Qf _ w)) (λq w=>b q (Qf _ w)) (λq w=>c q (Qf _ w))) h1 h2
theorem znd(T:TO (zal σ))(hx:zal σ x)(hy:zal σ y)(ih:dlts xs ys=true\/xs=ys\/dlts ys xs=true):dlts (x::xs) (y::ys)=true\/x::xs=y::ys\/dlts (y::ys) (x::xs)=true:=by
 rw[zc8 hx hy,zc8 hy hx]
 by_cases e:x=y
 .subst e;rcases ih with i|i|i
  .exact .inl (.inl ⟨rfl,i⟩)
  .exact .inr (.inl (by rw[i]))
  .exact .inr (.inr (.inl ⟨rfl,i⟩))
 .rcases T.tri x y hx hy with i|i|i
  .exact .inl (.inr ⟨e,i⟩)
  .exact absurd i e
  .exact .inr (.inr (.inr ⟨ZA e,i⟩))
theorem zny(T:TO (zal σ)):∀{xs ys:List Tl},(∀x∈xs,zal σ x)->(∀x∈ys,zal σ x)->dlts xs ys=true\/xs=ys\/dlts ys xs=true
 | [],[],_,_=>.inr (.inl rfl)
 | [],_::_,_,_=>.inl rfl
 | _::_,[],_,_=>.inr (.inr rfl)
 | x::xs,y::ys,a,b=>znd T (a x (by simp)) (b y (by simp)) (zny T (λq w=>a q (Qf _ w)) (λq w=>b q (Qf _ w)))
theorem zz3{x y:Str}(h:x.cps.toList=y.cps.toList):x=y:=by
 obtain⟨a⟩:=x;obtain⟨b⟩:=y
 congr
 exact YM.mp h
theorem zez:∀σ:Sh,TO (zal σ)
 | .n=>by
   refine⟨λa zz=>?_,λa b c ⟨i,e⟩ ⟨j,e2⟩ ⟨k,e3⟩ h1 h2=>?_,λa b ⟨i,e⟩ ⟨j,e2⟩=>?_⟩
   .obtain⟨i,e⟩:=zz;subst e;simp[dlt]
   .subst e e2 e3;simp[dlt] at *;lia
   .subst e e2;simp[dlt];lia
 | .t=>by
   refine⟨λa zz=>?_,λa b c ⟨i,e⟩ ⟨j,e2⟩ ⟨k,e3⟩ h1 h2=>?_,λa b ⟨i,e⟩ ⟨j,e2⟩=>?_⟩
   .obtain⟨i,e⟩:=zz;subst e;simp[dlt,YD]
   .subst e e2 e3;simp only[dlt,jC] at *;exact VB h1 h2
   .subst e e2;simp only[dlt,jC]
    by_cases c:i.cps.toList<j.cps.toList
    .exact .inl c
    .by_cases c2:j.cps.toList<i.cps.toList
     .exact .inr (.inr c2)
     .exact .inr (.inl (by rw[zz3 (List.le_antisymm (Uo.mp c2) (Uo.mp c))]))
 | .arr s=>by
   have T:=zez s;refine⟨λa zz=>?_,λa b c ⟨xs,e,h⟩ ⟨ys,e2,h2⟩ ⟨zs,e3,h3⟩ h4 h5=>?_,λa b ⟨xs,e,h⟩ ⟨ys,e2,h2⟩=>?_⟩
   .obtain⟨xs,e,h⟩:=zz;subst e;exact znu T h
   .subst e e2 e3;exact zqj T h h2 h3 h4 h5
   .subst e e2;rcases zny T h h2 with i|i|i
    .exact .inl i
    .exact .inr (.inl (by rw[i]))
    .exact .inr (.inr i)
 | .fnil=>by
   refine⟨λa e=>?_,λa b c e e2 e3 h4 h5=>?_,λa b e e2=>?_⟩
   .have e:a = .tuple []:=e;subst e;rfl
   .have e:a = .tuple []:=e;have e2:b = .tuple []:=e2;subst e e2;cases h4
   .have e:a = .tuple []:=e;have e2:b = .tuple []:=e2;exact .inr (.inl (e.trans e2.symm))
 | .fcons f r=>by
   have T:=zez f;have U:=zez r;refine⟨λa zz=>?_,λa b c ⟨x,xs,e,h,g⟩ ⟨y,ys,e2,h2,g2⟩ ⟨z,zs,e3,h3,g3⟩ h4 h5=>?_,λa b ⟨x,xs,e,h,g⟩ ⟨y,ys,e2,h2,g2⟩=>?_⟩
   .obtain⟨x,xs,e,h,g⟩:=zz;subst e;show dlts (x::xs) (x::xs)=false;rw[dlts,j7 ((zjm h h).mpr rfl)];exact U.irr _ g
   .subst e e2 e3;exact zqd T h h2 h3 (λp q=>U.tr _ _ _ g g2 g3 p q) h4 h5
   .subst e e2
    have:=znd T h h2 (xs:=xs) (ys:=ys) (by
     rcases U.tri _ _ g g2 with i|i|i
     .exact .inl i
     .exact .inr (.inl (by injection i))
     .exact .inr (.inr i))
    rcases this with i|i|i
    .exact .inl i
    .exact .inr (.inl (by rw[i]))
    .exact .inr (.inr i)
theorem zrm(σ:Sh):L6.WO (λa b:{ d:Tl // zal σ d }=>dlt a.1 b.1):=by
 have T:=zez σ;refine⟨λa=>T.irr _ a.2,λa b c h h'=>T.tr _ _ _ a.2 b.2 c.2 h h',λa b c h=>?_⟩;rcases T.tri a.1 b.1 a.2 b.2 with i|i|i
 .exact .inl i
 .right;rw[<- i];exact h
 .exact .inr (T.tr _ _ _ b.2 a.2 c.2 i h)
end HK
namespace HK
open PySem PySem.Spec PyProof.Rows PySem.SetTable SX TB
abbrev zd1(h h':Heap):Prop:=∀b o xs n,h.get? b=some o->o.data = .seq xs n->h'.get? b=some o
theorem zgr(F:Tl->Prop)(hF:∀d,F d->∀v as,TV h v d as->TV h' v d as):∀{vs:List Tn} {ds:List Tl} {as:List Addr},(∀d∈ds,F d)->Mf h vs ds as->Mf h' vs ds as
 | [],_,_,hd,r=>by cases r;exact .nil
 | v::vs,_,_,hd,r=>by
   cases r with
   | cons r1 r2=>exact .cons (hF _ (hd _ (by simp)) _ _ r1) (zgr F hF (λd z=>hd d (Qf _ z)) r2)
theorem zje(K:zd1 h h'):∀(n:Nat) (d:Tl),d.depth<=n->hk d=true->∀v as,TV h v d as->TV h' v d as:=by
 intro n
 induction n with
 | zero=>
   intro d hd hk' v as r
   cases r with
   | int i t=>exact .int i t
   | str x t=>exact .str x t
   | tuple _ _ _ _=>simp[QO] at hd
   | _=>simp[hk] at hk'
 | succ n ih=>
   intro d hd hk' v as r
   cases r with
   | int i t=>exact .int i t
   | str x t=>exact .str x t
   | @tuple a o vs c ds as ho hc hdt hr=>
     have hds:hks ds=true:=by simpa[hk] using hk'
     rw[QO] at hd;exact .tuple (K a o vs c ho hdt) hc hdt (zgr (λd=>d∈ds) (λd z v as r=>ih d (by have:=zdm z;lia) (zd8 hds d z) v as r) (λd z=>z) hr)
   | _=>simp[hk] at hk'
structure TupK(k:Tl):Prop where
 tu:∃ds,k = .tuple ds
 ha:hk k=true
 la:k.canLay0=true
 de:k.depth<=8
 tx:bv k=true->k = .tuple []
theorem TupK.keep(hk':TupK k)(K:zd1 h h')(r:TV h v k as):TV h' v k as:=zje K 8 k hk'.de hk'.ha v as r
theorem zsv(hk':TupK k)(r:TV h (.ref b) k as):∃o xs n,h.get? b=some o/\o.data = .seq xs n:=by
 obtain⟨ds,e⟩:=hk'.tu;subst e
 cases r with
 | tuple h1 h2 h3 h4=>exact⟨_,_,_,h1,h3⟩
structure Kx(w:Tt)(h0:Heap)(Sp:Addr->Tl->Prop)(h:Heap)(a:Addr)(es:Es)(ep:Nat)(t:TM)(ks:List Tl)(m:Nat):Prop extends Sx w h a es ep t where
 el:∀(i:Nat) e,es[i]? = some e->∃k b as,ks[i]? = some k/\e=(hD w k,.ref b)/\b≠a/\TV h0 (.ref b) k as/\Sp b k
 len:ks.length=es.size
 kt:∀k∈ks,TupK k
 nd:ks.Nodup
 ok:TOk t (ks.map (hD w)) m
 nf:t.tooFull=false
 pn:t.plain=true->∀k∈ks,bv k=true
section
variable {P:Tr}{w:Tt}{A:Tv}{E:Tn->To->Prop}{s:To}{S:Addr}{es:Es}{ep:Nat}{t:TM}{ks:List Tl}{m:Nat}{h0:Heap}{Sp:Addr->Tl->Prop}
theorem z0g(hk':TupK k)(r:TV s.heap (.ref b) k as): ∀(ys:List Tn),(∀y∈ys,∃k' b' as',y = .ref b'/\TupK k'/\TV s.heap (.ref b') k' as')->Q false s->wpAny (model P w) A (searchCouldBeSeen (.ref b) ys) Q E s:=by
 intro ys hy h;unfold searchCouldBeSeen;refine Tj ?_;refine Mu _ (λrest r s'=>r.1=none/\s'=s/\∀y∈rest,∃k' b' as',y = .ref b'/\TupK k'/\TV s.heap (.ref b') k' as') _ ?_ ?_ _ _ ⟨rfl,rfl,hy⟩
 .rintro y rest r' s' ⟨hr',rfl,hall⟩;obtain⟨k',b',as',rfl,hk2,r2⟩:=hall y (by simp);have nx:∀y∈rest,∃k' b' as',y = .ref b'/\TupK k'/\TV s'.heap (.ref b') k' as':=λy z=>hall y (Qf _ z);dsimp only
  by_cases hv:((b == b') || (carriedByValue (.ref b) && carriedByValue (.ref b')))=true
  .refine wp_t hv ?_;exact Tk ⟨rfl,rfl,nx⟩
  .refine wp_f hv ?_;refine Tj (ze6 8 k hk'.de hk'.ha _ _ _ _ _ _ r ?_);refine wp_f (by decide) ?_;refine Tj (ze6 8 k' hk2.de hk2.ha _ _ _ _ _ _ r2 ?_);refine wp_f (by decide) ?_;refine Tj (zh2 8 k hk'.de hk'.ha _ _ _ _ _ _ r ?_);refine wp_f (by decide) ?_;refine Tj (zh2 8 k' hk2.de hk2.ha _ _ _ _ _ _ r2 ?_);refine wp_f (by decide) ?_;exact Tk ⟨rfl,rfl,nx⟩
 .rintro⟨r1,r2⟩ s' ⟨hr',rfl,_⟩;simp only at hr';subst hr';exact Tk h
theorem zqp(h:TupK k)(h':TupK k'):QC k k'=true↔k=k':=L3.eqv_solid k k' (zc4 k h.ha) (zc4 k' h'.ha)
theorem Kx.odd(K:Kx w h0 Sp s.heap S es ep t ks m):t.gaveWay=false:=by
 unfold SetTable.gaveWay;have h1:=K.ok.mm;have h2:=K.ok.m3
 have:2 ^ m=8 * 2 ^ (m-3):=by
  rw[show(8:Nat)=2 ^ 3 from rfl,<- Nat.pow_add]
  congr 1
  lia
 simp;lia
theorem Kx.search(K:Kx w h0 Sp s.heap S es ep t ks m)(X:zd1 h0 s.heap)(hk':TupK k)(r:TV s.heap (.ref b) k as)(hu:A.units+8<cLine){N:Nat}(h0:t.slot (sq t.mask (hD w k) N).j = .empty)(hb:∀k',k'<N->t.slot (sq t.mask (hD w k) k').j≠.empty)(hN:N<10 * turns t.mask) 
 (y:k∈ks->Q (.there none) s) (n:(∀k'<N,∀i,t.slot (sq t.mask (hD w k) k').j = .live i->ks[i]?≠some k)->Q (.free (sq t.mask (hD w k) N).j false) s) :
 ∀(fuel c:Nat) (st:Option Probe),N<c+fuel->c<=N->st.getD (t.probeStart (hD w k))=sq t.mask (hD w k) c->(∀k'<c,∀i,t.slot (sq t.mask (hD w k) k').j = .live i->ks[i]?≠some k) ->
 wpAny (model P w) A (Mq S (.ref b) (hD w k) true fuel st) Q E s
 | 0,c,st,h1,h2,_,_=>absurd h1 (by lia)
 | fuel+1,c,st,h1,h2,h3,h4=>by
   unfold Mq;refine Tj (K.state ?_);refine wp_f (by rw[K.odd];exact Q8) ?_;rw[h3]
   have hashAt:∀(i:Nat) k',ks[i]? = some k'->((es[i]?.map (·.1)).getD 0:Int)=hD w k':=λi k' hi=>by
    have hil:i<es.size:=by rw[<- K.len];exact(Qi.mp hi).1
    obtain⟨k2,b2,as2,e1,e2,_,_⟩:=K.el i _ (Q5 hil);rw[Q5 hil,e2];rw[hi] at e1;cases e1;rfl
   have g:=zyc K.ok.dm (λi=>((es[i]?.map (·.1)).getD 0:Int)) (hD w k) N h0 hb (10 * turns t.mask) c (by lia) h2;rcases g with ⟨j,i,a1,a2,a3,a4,a5,a6⟩|⟨a1,a2⟩
   .have gp:t.probe (λi=>((es[i]?.map (·.1)).getD 0:Int)) (hD w k) (sq t.mask (hD w k) c)=some (.candidate (sq t.mask (hD w k) j).j i (sq t.mask (hD w k) (j+1))):=a6;have il:=(zkx a3).1;rw[K.ok.sz,Qc,K.len] at il;obtain⟨k2,b2,as2,e1,e2,nb,r2,_⟩:=K.el i _ (Q5 il);have hk2:=K.kt k2 (Qn e1)
    replace r2:=hk2.keep X r2
    dsimp only
    split
    .rename_i met he
     have hmet:=Zi (gp.symm.trans he);subst hmet;dsimp only
     have rest:wpAny (model P w) A (do
      let equal <- holding [QN b2] (eqBool (.ref b2) (.ref b))
      let __x <- setState S
      match __x with
       | (es',_,t')=>
         if(true && equal)=true then pure (Vy none)
         else
          match t'.sameMemory t.moves t.mask with
          | some same=>
            match if same=true then t'.slot (sq t.mask (hD w k) j).j else Slot.empty with
            | Slot.live i'=>
              match es'[i']? with
              | some (_,y')=>do
                let __do_lift <- isSame y' (.ref b2)
                let still <- pure (if __do_lift=true then some i' else none)
                match still with
                 | none=>do
                   rule "set.search.anew"
                   Mq S (QN b) (hD w k) true fuel none
                 | some i'=>
                   if equal=true then pure (Vy (some i'))
                   else Mq S (QN b) (hD w k) true fuel (some (sq t.mask (hD w k) (j+1)))
              | none=>do
                let still <- pure none
                match still with
                 | none=>do
                   rule "set.search.anew"
                   Mq S (QN b) (hD w k) true fuel none
                 | some i'=>
                   if equal=true then pure (Vy (some i'))
                   else Mq S (QN b) (hD w k) true fuel (some (sq t.mask (hD w k) (j+1)))
            | x=>do
              let still <- pure none
              match still with
               | none=>do
                 rule "set.search.anew"
                 Mq S (QN b) (hD w k) true fuel none
               | some i'=>
                 if equal=true then pure (Vy (some i'))
                 else Mq S (QN b) (hD w k) true fuel (some (sq t.mask (hD w k) (j+1)))
          | x=>jw "set.changed-during-lookup:is-the-new-block-at-the-old-address") Q E s:=by
      refine Tj (TF (YX _ _ _ _ _ _ _ k2 k _ _ _ r2 r hk2.la hk'.la (by have:=hk'.de;lia) ?_));refine Tj (K.state ?_);dsimp only
      by_cases ek:k2=k
      .rw[(zqp hk2 hk').mpr ek];refine wp_t rfl (Tk (y ?_));rw[<- ek];exact Qn e1
      .have en:QC k2 k=false:=by
        cases c:QC k2 k with
        | false=>rfl
        | true=>exact absurd ((zqp hk2 hk').mp c) ek
       rw[en];refine wp_f (by decide) ?_
       have sm:t.sameMemory t.moves t.mask=some true:=by
        unfold SetTable.sameMemory;rw[j7 (by simp)]
       rw[sm];dsimp only;rw[j7 rfl,a3];dsimp only;rw[Q5 il,e2];dsimp only;refine Tj (wpAny_isSame_ref_self ?_);refine Tj (Tk ?_);rw[j7 rfl];dsimp only;refine wp_f (by decide) ?_;refine Kx.search K X hk' r hu h0 hb hN y n fuel (j+1) _ (by lia) (by lia) rfl λk' hk3 i' hl=>?_
       by_cases z1:k'<c
       .exact h4 k' z1 i' hl
       .by_cases z2:k'=j
        .subst z2;rw[a3] at hl;cases hl;rw[e1];exact λz=>ek (Zi z)
        .obtain⟨i2,q1,q2⟩:=a5 k' (by lia) (by lia);rw[hl] at q1;cases q1;exact λz=>q2 (hashAt i' k z)
     have ge:es[i]? = some (hD w k2,QN b2):=by rw[Q5 il,e2]
     rw[ge]
     split
     .refine Tj (z0g hk' r _ (λy' hy=>?_) ?_)
      .obtain⟨e,he',rfl⟩:=Q0.mp hy;have:=(Array.mem_toList_iff.mp he');obtain⟨i3,hi3⟩:=Array.mem_iff_getElem?.mp (Array.mem_filter.mp this).1;obtain⟨k3,b3,as3,q1,q2,_,q3,_⟩:=K.el i3 e hi3;exact⟨k3,b3,as3,by rw[q2],K.kt k3 (Qn q1),(K.kt k3 (Qn q1)).keep X q3⟩
      .refine wp_f (by decide) ?_;exact rest
     .exact rest
    .rename_i he
     exact(he _ gp).elim
   .have gp:t.probe (λi=>((es[i]?.map (·.1)).getD 0:Int)) (hD w k) (sq t.mask (hD w k) c)=some (.empty (sq t.mask (hD w k) N).j none):=a2;dsimp only
    split
    .rename_i met he
     have hmet:=Zi (gp.symm.trans he);subst hmet;dsimp only;refine Tk (n λk' hk3 i' hl=>?_)
     by_cases z1:k'<c
     .exact h4 k' z1 i' hl
     .obtain⟨i2,q1,q2⟩:=a1 k' (by lia) hk3;rw[hl] at q1;cases q1;exact λz=>q2 (hashAt i' k z)
    .rename_i he
     exact(he _ gp).elim
end
end HK
namespace L3
open PySem PySem.Spec
open PyProof.Rows hiding St
open L2 HK
theorem zh3(T:TO F):∀{xs ys:List Tl},(∀x∈xs,F x)->(∀y∈ys,F y)->xs.Pairwise (λa b=>dlt a b=true)->ys.Pairwise (λa b=>dlt a b=true)->(∀d,d∈xs↔d∈ys)->xs=ys
 | [],[],_,_,_,_,_=>rfl
 | [],y::ys,_,_,_,_,h=>absurd ((h y).mpr (by simp)) (by simp)
 | x::xs,[],_,_,_,_,h=>absurd ((h x).mp (by simp)) (by simp)
 | x::xs,y::ys,fx,fy,px,py,h=>by
   obtain⟨px1,px2⟩:=Vz.mp px;obtain⟨py1,py2⟩:=Vz.mp py;have hx:=fx x (by simp);have hy:=fy y (by simp)
   have e:x=y:=by
    rcases Qs.mp ((h x).mp (by simp)) with e|e
    .exact e
    .rcases Qs.mp ((h y).mpr (by simp)) with e2|e2
     .exact e2.symm
     .have:=T.tr x y x hx hy hx (px1 y e2) (py1 x e);rw[T.irr x hx] at this;cases this
   subst e
   congr 1
   refine zh3 T (λz hz=>fx z (Qf _ hz)) (λz hz=>fy z (Qf _ hz)) px2 py2 λd=>?_;constructor
   .intro hd;rcases Qs.mp ((h d).mp (Qf _ hd)) with e|e
    .subst e;have:=px1 d hd;rw[T.irr d hx] at this;cases this
    .exact e
   .intro hd;rcases Qs.mp ((h d).mpr (Qf _ hd)) with e|e
    .subst e;have:=py1 d hd;rw[T.irr d hx] at this;cases this
    .exact e
theorem zmp{α:Type}{enc:α->Tl}{i h:Nat}{ft:DT}{fe:DE}{ρ:DSt}{Q:List Tl->Prop}{as:List α}{p:α->Bool}{e:α->Tl}
 (step:∀a∈as,∀(Pn:Prop) (Py:R->Prop),(p a=false->Pn)->(p a=true->∀r,r.d=e a->Py r)->ft ((QG h none++ρ).set i (some (.im (enc a)))) λt=>if t=true then fe ((QG h none++ρ).set i (some (.im (enc a)))) Py else Pn)
 (hz:as.length<=sizeLine) (q:Q ((as.filter p).map e)):zbg h (gN i) ft fe ρ Q (as.map enc) []:=by
 have key:∀(l:List α) (acc:List Tl),(∀a∈l,a∈as)->acc.length+l.length<=sizeLine->Q (acc++(l.filter p).map e)->zbg h (gN i) ft fe ρ Q (l.map enc) acc:=by
  intro l
  induction l with
  | nil=>intro acc _ _ q;show Q acc;simpa using q
  | cons a l ih=>
    intro acc hs hz q;rw[Q3] at hz;refine step a (hs a Qp) (zbg h (gN i) ft fe ρ Q (l.map enc) acc) (λr=>acc.length<sizeLine/\zbg h (gN i) ft fe ρ Q (l.map enc) (acc ++ [r.d])) (λhp=>?_) (λhp r hr=>⟨by lia,?_⟩)
    .refine ih acc (λb hb=>hs b (Qf _ hb)) (by lia) ?_;rw[VD,hp] at q;exact q
    .refine ih _ (λb hb=>hs b (Qf _ hb)) (by rw[Qq,QA];lia) ?_;rw[VD,hp,j7 rfl,Qu] at q;rw[hr,Ye];exact q
 exact key as [] (λ_ h=>h) (by simpa using hz) (by simpa using q)
theorem ztd{n b:Nat}(h:Nice n b (.tuple ds))(hn:n<=60:=by decide)(hb:b<=1048576:=by decide):∃x,zf1 [.list ds]=some (.o (.str x))/\Zu x=true:=by
 have h1:=h.lay;have h2:=h.sh;have h3:=h.dep;have h4:=h.sho;have h5:=h.bul;have:(2:Nat) ^ 20=1048576:=by decide
 exact z0d (by simpa[Z9] using h1) (by simpa[Jy] using h2) (by simp[QO] at h3 ⊢;lia) (by simpa[Jm] using h4) (by simp[Um] at h5 ⊢;lia)
theorem z1y{neg:Bool}(h:Zu x=true):eqF neg (.str x) (.str x)=some (.o (.bool (!neg))):=by
 have:=z0o (neg:=neg) (zik h (Qh _)) (zik h (Qh _)) (q:=true) (hq:=⟨λ_=>rfl,λ_=>rfl⟩);rw[this];cases neg <;> rfl
mutual
def solL:Tl->Bool
 | .none=>true
 | .int _=>true
 | .str _=>true
 | .tuple ds=>zc0 ds
 | .list ds=>zc0 ds
 | _=>false
def zc0:List Tl->Bool
 | []=>true
 | d::ds=>solL d && zc0 ds
end
mutual
theorem zfz:∀d e:Tl,solL d=true->solL e=true->(QC d e=true↔d=e)
 | .none,e,_,h=>by cases e <;> simp[QC,solL] at *
 | .int i,e,_,h=>by cases e <;> simp[QC,solL] at *
 | .str x,e,_,h=>by cases e <;> simp[QC,solL] at *
 | .tuple ds,e,h0,h=>by
   cases e with
   | tuple es=>
     have:=zg9 ds es (by simpa[solL] using h0) (by simpa[solL] using h);simp only[QC];rw[this];exact⟨λz=>by rw[z],λz=>by cases z;rfl⟩
   | none=>simp[QC]
   | int _=>simp[QC]
   | str _=>simp[QC]
   | bool _=>simp[solL] at h
   | list _=>simp[QC]
   | dict _=>simp[solL] at h
 | .list ds,e,h0,h=>by
   cases e with
   | list es=>
     have:=zg9 ds es (by simpa[solL] using h0) (by simpa[solL] using h);simp only[QC];rw[this];exact⟨λz=>by rw[z],λz=>by cases z;rfl⟩
   | none=>simp[QC]
   | int _=>simp[QC]
   | str _=>simp[QC]
   | bool _=>simp[solL] at h
   | tuple _=>simp[QC]
   | dict _=>simp[solL] at h
 | .bool _,_,h,_=>by simp[solL] at h
 | .dict _,_,h,_=>by simp[solL] at h
theorem zg9:∀ds es:List Tl,zc0 ds=true->zc0 es=true->(Jp ds es=true↔ds=es)
 | [],[],_,_=>by simp[Jp]
 | [],_::_,_,_=>by simp[Jp]
 | _::_,[],_,_=>by simp[Jp]
 | d::ds,e::es,h,h'=>by
   simp only[zc0,Qx] at h h';simp only[Jp,Qx];rw[zfz d e h.1 h'.1,zg9 ds es h.2 h'.2];simp
end
structure Sl(n:Nat)(d:Tl):Prop where
 lay:d.canLay0=true
 dep:d.depth<=n
 sol:solL d=true
theorem znn(i:Int):Sl 0 (.int i):=⟨rfl,Qh _,rfl⟩
theorem zjl(h:Zu x=true):Sl 0 (.str x):=⟨h,Qh _,rfl⟩
theorem zlu{α:Type}{f:α->Tl}:∀{l:List α},(∀a∈l,solL (f a)=true)->zc0 (l.map f)=true
 | [],_=>rfl
 | a::l,h=>by rw[Qu,zc0,h a Qp,zlu λx hx=>h x (Qf _ hx)];rfl
theorem zg8{α:Type}{f:α->Tl}{l:List α}{n:Nat}(h:∀a∈l,Sl n (f a)):Sl (n+1) (.tuple (l.map f)):=by
 refine⟨zcy λa ha=>(h a ha).lay,?_,?_⟩
 .rw[QO];have:=zem (f:=f) (n:=n) (l:=l) λa ha=>(h a ha).dep;lia
 .rw[solL];exact zlu λa ha=>(h a ha).sol
theorem znq(n:Nat):Sl (n+1) (.tuple []):=⟨rfl,by simp[QO,Zq],rfl⟩
theorem zeb{n:Nat}{d:Tl}(h:Sl n d)(h':Sl (n+1) (.tuple ds)):Sl (n+1) (.tuple (d::ds)):=by
 obtain⟨a1,a2,a3⟩:=h;obtain⟨b1,b2,b3⟩:=h';simp only[Z9,QO,solL] at b1 b2 b3;refine⟨?_,?_,?_⟩
 .simp only[Z9,Qz,a1,b1];rfl
 .simp only[QO,Zq];lia
 .simp only[solL,zc0,a3,b3];rfl
theorem Sl.okD{n:Nat}{d:Tl}(h:Sl n d)(hn:n<=60:=by decide):L3.okD d=true:=by
 unfold L3.okD;rw[h.lay];have:=h.dep;simp;lia
theorem zqr{n n':Nat}{neg:Bool}{d:Tl}(h:Sl n d)(h':Sl n' e)(hn:n<=60:=by decide){q:Bool}(hq:q=true↔d=e):eqF neg d e=some (.o (.bool (if neg then !q else q))):=by
 unfold eqF;rw[j7 (by rw[h.okD hn,h'.lay];rfl)]
 have e1:QC d e=q:=by
  have:=(zfz d e h.sol h'.sol).trans hq.symm;cases h1:QC d e <;> cases q <;> simp_all
 rw[e1]
theorem zk3:∀{l:List Tl},zc0 l=true->∀y∈l,solL y=true
 | [],_,y,hy=>(Q4 hy).elim
 | a::l,hl,y,hy=>by
   simp only[zc0,Qx] at hl;rcases Qs.mp hy with z|z
   .rw[z];exact hl.1
   .exact zk3 hl.2 y z
theorem z2w{n:Nat}{d:Tl}(h:Sl n d)(hs:zc0 es=true){q:Bool}(hq:q=true↔d∈es):(es.any λy=>QC y d)=q:=by
 have:(es.any λy=>QC y d)=true↔q=true:=by
  rw[hq,YS];constructor
  .rintro⟨y,hy,e⟩;rw[<- (zfz y d (zk3 hs y hy) h.sol).mp e];exact hy
  .intro hd;exact⟨d,hd,(zfz d d h.sol h.sol).mpr rfl⟩
 exact J9.mpr this
theorem zu7{n n':Nat}{neg:Bool}{d:Tl}(h:Sl n d)(h':Sl n' (.tuple es))(hn:n<=60:=by decide){q:Bool}(hq:q=true↔d∈es):inF neg d (.tuple es)=some (.o (.bool (if neg then !q else q))):=by
 have e1:=z2w h (by simpa[solL] using h'.sol) hq;have l1:Qz es=true:=by simpa[Z9] using h'.lay
 have e2:inF neg d (.tuple es)=if(L3.okD d && Qz es)=true then some (.o (.bool (if neg then !es.any (λy=>QC y d) else es.any λy=>QC y d))) else none:=by
  cases d <;> rfl
 rw[e2,j7 (by rw[h.okD hn,l1];rfl),e1]
theorem iteB{b:Bool}{A B:Prop}(ht:b=true->A)(hf:b=false->B):if b=true then A else B:=by
 cases b with
 | true=>exact iteT (ht rfl)
 | false=>exact iteF (hf rfl)
theorem zvm{α:Type}(as:List α)(g:α->Bool):(if false=true then(as.map g).any id else(as.map g).all id)=as.all g:=by rw[j8 Q8,UZ];rfl
theorem zul{α:Type}(as:List α)(g:α->Bool):[G5 (as.map λa=>.bool (g a))] = [G5 ((as.map g).map PyData.bool)]:=by rw[Zt];rfl
theorem neI{i j:Int}:eqF true (.int i) (.int j)=some (.o (.bool (!decide (i=j)))):=by rw[zp4,j7 rfl]
theorem z7g{b:Bool}(h:(!b)=true):b=false:=by cases b with|true=>cases h|false=>rfl
theorem z6d{b:Bool}(h:(!b)=false):b=true:=by cases b with|true=>rfl|false=>cases h
theorem z7a{neg:Bool}(h:Zu x=true):eqF neg (.str x) (.str x)=some (.o (.bool (!neg))):=by
 rw[zd9 h h,jG];cases neg <;> rfl
theorem z6q{neg:Bool}(h:(Zu x && Zu y)=true)(n:(x == y)=false):eqF neg (.str x) (.str y)=some (.o (.bool neg)):=by
 obtain⟨a,b⟩:=Jt.mp h;rw[zd9 a b,n];cases neg <;> rfl
def zjq:List Tl->Bool
 | []=>true
 | .str x::ds=>Zu x && zjq ds
 | _=>false
def zb8(x:Te):List Tl->Bool
 | []=>false
 | .str y::ds=>x == y || zb8 x ds
 | _::ds=>zb8 x ds
theorem zjw:∀{ds:List Tl},zjq ds=true->Sl 1 (.tuple ds)
 | [],_=>znq 0
 | .str x::ds,h=>by
   obtain⟨a,b⟩:=Jt.mp h;exact zeb (zjl a) (zjw b)
theorem inStrs_iff: ∀{ds:List Tl},zb8 x ds=true ↔ .str x∈ds
 | []=>by simp[zb8]
 | .str y::ds=>by
   rw[zb8,Bool.or_eq_true,jN,inStrs_iff (ds:=ds),Qs];constructor
   .rintro(rfl|h)
    .exact .inl rfl
    .exact .inr h
   .rintro(h|h)
    .exact .inl (GQ h)
    .exact .inr h
 | .none::ds=>by show zb8 x ds=true↔_;rw[inStrs_iff (ds:=ds)];simp
 | .int _::ds=>by show zb8 x ds=true↔_;rw[inStrs_iff (ds:=ds)];simp
 | .bool _::ds=>by show zb8 x ds=true↔_;rw[inStrs_iff (ds:=ds)];simp
 | .list _::ds=>by show zb8 x ds=true↔_;rw[inStrs_iff (ds:=ds)];simp
 | .tuple _::ds=>by show zb8 x ds=true↔_;rw[inStrs_iff (ds:=ds)];simp
 | .dict _::ds=>by show zb8 x ds=true↔_;rw[inStrs_iff (ds:=ds)];simp
theorem z6z{neg:Bool}(h:(Zu x && zjq ds && zb8 x ds)=true):inF neg (.str x) (.tuple ds)=some (.o (.bool (!neg))):=by
 obtain⟨h,c⟩:=Jt.mp h;obtain⟨a,b⟩:=Jt.mp h;rw[zu7 (zjl a) (zjw b) (by decide) (q:=true) ⟨λ_=>inStrs_iff.mp c,λ_=>rfl⟩];cases neg <;> rfl
theorem z6g{neg:Bool}(h:(Zu x && zjq ds && !zb8 x ds)=true):inF neg (.str x) (.tuple ds)=some (.o (.bool neg)):=by
 obtain⟨h,c⟩:=Jt.mp h;obtain⟨a,b⟩:=Jt.mp h;rw[zu7 (zjl a) (zjw b) (by decide) (q:=false) ⟨λz=>(Q8 z).elim,λz=>by rw[inStrs_iff.mpr z] at c;cases c⟩];cases neg <;> rfl
end L3
namespace L3
open PySem PySem.Spec
open PyProof.Rows hiding St
open L2 L6
section
variable {K:Qa}{O:Ob}
theorem zr7{H:Hp}{F:Addr->Prop}{xs:List V}{ds:List Tl}(h:IsAll K F H xs ds){ix:Nat->Nat}{n:Nat}(hx:∀i,i<n->ix i<ds.length):IsAll K F H ((QH n).map λi=>xs.getD (ix i) .non) ((QH n).map λi=>ds.getD (ix i) .none):=by
 have go:∀l:List Nat,(∀i∈l,ix i<ds.length)->IsAll K F H (l.map λi=>xs.getD (ix i) .non) (l.map λi=>ds.getD (ix i) .none):=by
  intro l
  induction l with
  | nil=>intro _;exact .nil
  | cons i l ih=>
    intro hl;refine .cons ?_ (ih λj hj=>hl j (Qf _ hj));have hi:=hl i (by simp);obtain⟨v,hv,iv⟩:=h.get (i:=ix i) (d:=ds[ix i]) (Qg hi);show Is K F H (xs.getD (ix i) .non) (ds.getD (ix i) .none);rw[Qo,Qo,hv,Qg hi];exact iv
 exact go _ λi hi=>hx i (QJ.mp hi)
end
theorem len_nd{α:Type}[DecidableEq α]:∀{xs ys:List α},xs.Nodup->(∀k∈xs,k∈ys)->xs.length<=ys.length
 | [],_,_,_=>QE _
 | x::xs,ys,h,hs=>by
   have hx:=hs x (by simp);obtain⟨h1,h2⟩:=Jh.mp h
   have:=len_nd (xs:=xs) (ys:=ys.erase x) h2 λk hk=>by
    refine(YW λe:k=x=>h1 (e ▸ hk)).mpr (hs k (Qf _ hk))
   rw[Yt hx] at this;have:=YE hx;rw[Q3];lia
theorem zkq(w:List Nat)(v:Nat):(tx w).cps.getD v 0=w.getD v 0:=by
 simp[tx,Vw,Uy]
 split
 .rename_i h
  rw[Qg h];rfl
 .rename_i h
  rw[QD (by lia)];rfl
theorem zoa(n s:Nat)(h:s<=n):fromIndex n (s:Int)=s:=by
 unfold fromIndex
 first|lia|(simp;lia)|(split <;> lia)
def zhe(c:Nat)(more:List Nat)(start:Nat):Int:=match zbv c more start with|none=>-1|some p=>(p:Int)
theorem z0f{more:List Nat}{c start:Nat}(h:start<=more.length):Tf (tx more) (sg c) (start:Int)=zhe c more start:=by
 unfold zhe;have hl:(tx more).length=more.length:=zdg more;rcases StrLaws.find3_spec (tx more) c (start:Int) with ⟨h1,h2⟩|⟨k,h1,h2,h3,h4,h5⟩
 .rw[show sg c=⟨#[c]⟩ from rfl,h1]
  cases hf:zbv c more start with
  | none=>rfl
  | some p=>
    obtain⟨a,b,_⟩:=zeq hf;obtain⟨b1,b2⟩:=Qi.mp b;have:=h2 p (by rw[hl,zoa _ _ h];exact a) (by rw[hl];exact b1);rw[zkq,Uy,b] at this;exact absurd rfl this
 .rw[show sg c=⟨#[c]⟩ from rfl,h1];rw[hl,zoa _ _ h] at h2 h5;rw[hl] at h3
  have hk:more[k]? = some c:=by
   rw[zkq,Uy,Qg h3] at h4;rw[Qg h3];exact jF some h4
  cases hf:zbv c more start with
  | none=>exact absurd hk (zlm hf k h2)
  | some p=>
    obtain⟨a,b,d⟩:=zeq hf
    have e:k=p:=by
     rcases Nat.lt_trichotomy k p with z|z|z
     .exact absurd hk (d k h2 z)
     .exact z
     .have:=h5 p a z;rw[zkq,Uy,b] at this;exact absurd rfl this
    rw[e]
def zpf:List Tl->(R->Prop)->Prop:=λds Q=>∃less more:List Nat,ds = [tS less,tS more]/\Sml less/\Sml more/\((plc less more 0 []=none->Q (.o .none))/\∀ps:List Nat,plc less more 0 []=some ps->Q (.n (ps.map λp=>.int (p:Nat))))
def zfq:List Tl->(R->Prop)->Prop:=λds Q=>∃less more:List Nat,ds = [tS less,tS more]/\Sml less/\Sml more/\Q (.o (.bool (under less more)))
abbrev zps:=zfq
section
variable {K:Qa}{O:Ob}
def zt3(i:Nat):DS:=λDd ρ=>∃ds,ρ[i]? = some (some (.own ds))/\Dd.nx (ρ.set i (some (.own [])))
theorem zx3{i:Nat}:SD K O (zd2 (tBM0 K "list" zjr (tVar i))) (zt3 i):=λH₀ A σ H ρ D Dd r q P=>by
 obtain⟨ds,e,q⟩:=q;obtain⟨v,hv,a,xs,rfl,ha,hl,hs⟩:=r.at_ i _ e;refine⟨_,hv,.inl ⟨rfl,xs,.of hl⟩,?_⟩;refine⟨a,xs,rfl,rfl,hl,?_⟩;exact P.nx A σ _ _ (r.change e hv ha .nil) (.change ha) q
end
section
variable {ι κ:Type}{P:Tr}{w:Tt}{K:Qa}{mg:Str->Option Tn}{base:Heap}{k:Nat}{X:ι->Cx}{O:κ->Ob}{pos p:Pos}
theorem zu3{X:Cx}:MtR X "list.clear" zjr:=λpins s σ H x xs v us Q I rx rv h=>zxh pins s σ H x xs v us Q I rx rv h
theorem z1q(n:Nat){apos cpos:Pos}(C:Ctx3 P w K mg base k X)(hN:∀i,(X i).N[n]? = some x:=by intro i;rfl)(hv:∀i,Vis (X i).env.scope x:=by intro i;first|exact Or.inl rfl|exact Or.inr (Or.inl rfl)|exact Or.inr (Or.inr rfl))(hd:(x == ("__debug__" : Str))=false:=by decide)(hcd:(x == ("__classdict__" : Str))=false:=by decide)
 (hbase:∀i,Mj (.Name x px) "clear" (X i).env (eval (.Name x px) (X i).env)=eval (.Name x px) (X i).env:=by intro i;rfl) (hline:(apos.endLine == cpos.line)=true:=by rfl) (hsw:∀i,M1 (.Call (.Attribute (.Name x px) "clear" apos) [] [] cpos) none pos.line (X i).env=pure false:=by intro i;rfl) :
 S3 K X O (.Expr (.Call (.Attribute (.Name x px) "clear" apos) [] [] cpos) pos) (zt3 n) :=
 ⟨zd2 (tBM0 K "list" zjr (tVar n)),λi=>by
  have h:=zs1 (apos:=apos) (cpos:=cpos) Jv PySem.F.slot_list_clear PySem.F.type_list_clear (zu3 (X:=X i)) (zam (pos:=px) (hN i) (hv i) hd hcd) (hbase i) hline;rw[C.hK] at h
  exact zhx h (hsw i),λj=>zx3⟩
end
section
variable {ι κ:Type}{P:Tr}{w:Tt}{K:Qa}{mg:Str->Option Tn}{base:Heap}{k:Nat}{X:ι->Cx}{O:κ->Ob}{a b:Expr}{fa fb:DE}{pos p:Pos}
def zu1(fa fb fi:DE):DE:=λρ Q=>fa ρ λr0=>fb ρ λr1=>fi ρ λri=>(ri.d = .int 0/\Q r0)\/(ri.d = .int 1/\Q r1)
theorem z1i{O:Ob}{ta tb ti:TE}{fa fb fi:DE}(ha:ED K O ta fa)(hb:ED K O tb fb)(hi:ED K O ti fi):ED K O (tOp (rIx K) (tLst (za0 ta (za0 tb tNil))) ti) (zu1 fa fb fi):=λσ H ρ Q Qd S hf k=>by
 refine ha σ H ρ _ _ S hf λv H1 r0 s1 o1 q1=>?_;refine hb σ H1 ρ _ _ (S.stp s1) q1 λu H2 r1 s2 o2 q2=>?_;have p1:=s1.p S.p;have p2:=s2.p p1;refine⟨by rw[Ts];simp,λl hl=>?_⟩;have s3:Stp O H2 (upd H2 l (.lst [v,u])):=.new S.ok hl _;refine hi σ _ ρ _ _ (((S.stp s1).stp s2).stp s3) q2 λz H4 ri s4 o4 q4=>?_;have iz:=o4.is S.ok (s3.p p2);have m:¬O.M l:=λm=>by obtain⟨o,z⟩:=S.ok.here H2 l p2 m;rw[hl] at z;cases z
 have hl4:H4 l=some (.lst [v,u]):=s4.s l _ zak m;have st:=((s1.trans s2).trans s3).trans s4;rcases q4 with ⟨e,q⟩|⟨e,q⟩
 .rw[e] at iz;cases iz;refine .inl ⟨_,_,_,v,rfl,rfl,.of hl4,rfl,k v H4 r0 st ?_ q⟩;exact Out.stp S.ok S.p s1 ((s2.trans s3).trans s4) o1
 .rw[e] at iz;cases iz;refine .inl ⟨_,_,_,u,rfl,rfl,.of hl4,rfl,k u H4 r1 st ?_ q⟩;exact(Out.stp S.ok p1 s2 (s3.trans s4) o2).ahead S.ok S.p s1
theorem z3z{lp:Pos}(C:Ctx3 P w K mg base k X)(ha:E3 K X O a fa)(hb:E3 K X O b fb)(hc:E3 K X O c fc)(hs:zko c:=by intro _ _;rfl)(h1:∀i,Tq [a,b] (X i).env=(false,eval a (X i).env)::Tq [b] (X i).env:=by intro i;rfl)(h2:∀i,Tq [b] (X i).env=(false,eval b (X i).env)::Tq [] (X i).env:=by intro i;rfl):
 E3 K X O (.Subscript (.List [a,b] lp) c pos) (zu1 fa fb fc) :=
 let ⟨_,p1,d1⟩:=ha;let ⟨_,p2,d2⟩:=hb;let ⟨_,p3,d3⟩:=hc
 ⟨tOp (rIx K) _ _,λi=>by have h:=zyu (pos:=pos) (zvo (X:=X i)) (zs6 (pos:=lp) (za3 (p1 i) (za3 (p2 i) zbs (h2 i)) (h1 i))) (p3 i) hs;rw[C.hK] at h;exact h,λj=>z1i (d1 j) (d2 j) (d3 j)⟩
end
inductive Deed where
 | go
 | send (l c:Nat)
 | take (l c:Nat)
 | empty (l:Nat)
 | put (f v:Nat)
 | test (f v:Nat)
deriving DecidableEq
def zcj:Deed->Tl
 | .go=>.tuple [.str "go"]
 | .send l c=>.tuple [.str "send",.int l,.str (tx [c])]
 | .take l c=>.tuple [.str "take",.int l,.str (tx [c])]
 | .empty l=>.tuple [.str "empty",.int l]
 | .put f v=>.tuple [.str "set",.int f,.int v]
 | .test f v=>.tuple [.str "if",.int f,.int v]
structure Rul where
 p:Nat
 d:Deed
 q:Nat
def zbi(r:Rul):Tl:=.tuple [.int r.p,zcj r.d,.int r.q]
structure Hnd where
 n:Nat
 rs:List Rul
def zbl(h:Hnd):Tl:=.tuple [.int h.n,.tuple (h.rs.map zbi)]
structure Hou where
 ls:List Nat
 lines:Nat
 flags:Nat
 hands:List Hnd
def zbc(h:Hou):Tl:=.tuple [.str (tx h.ls),.int h.lines,.int h.flags,.tuple (h.hands.map zbl)]
abbrev nD(n:Nat):Tl:=.int (n:Nat)
abbrev wD(w:List Nat):Tl:=.str (tx w)
structure Sta where
 rooms:List Nat
 flags:List Nat
 words:List (List Nat)
def zag(s:Sta):Tl:=.tuple [.tuple (s.rooms.map nD),.tuple (s.flags.map nD),.tuple (s.words.map wD)]
def DeOk(ls:List Nat)(l f:Nat):Deed->Prop
 | .go=>True
 | .send i c=>i<l/\c∈ls
 | .take i c=>i<l/\c∈ls
 | .empty i=>i<l
 | .put i v=>i<f/\v<2
 | .test i v=>i<f/\v<2
structure HoOk(h:Hou):Prop where
 low:LowW h.ls
 ne:h.ls≠[]
 short:h.ls.length<=100
 lines:h.lines<=100
 flags:h.flags<=100
 many:h.hands.length<=100
 pos:∀x∈h.hands,0<x.n/\x.n<=100
 rules:∀x∈h.hands,x.rs.length<=100/\∀r∈x.rs,DeOk h.ls h.lines h.flags r.d/\r.p<=100/\r.q<=100
def zyw(s:Sta):Deed->Bool
 | .take l c=>decide ((s.words.getD l []).head? = some c)
 | .empty l=>decide (s.words.getD l [] = [])
 | .test f v=>decide (s.flags.getD f 0=v)
 | _=>true
def zcg(ws:List (List Nat)):Deed->List (List Nat)
 | .send l c=>ws.set l (ws.getD l [] ++ [c])
 | .take l _=>ws.set l ((ws.getD l []).drop 1)
 | _=>ws
def zde(fs:List Nat):Deed->List Nat
 | .put f v=>fs.set f v
 | _=>fs
def zqz(s:Sta)(h:Nat)(r:Rul):Sta:=⟨s.rooms.set h r.q,zde s.flags r.d,zcg s.words r.d⟩
theorem zar{α:Type}{f:α->Tl}{xs:List α}{i:Nat}{x:α}(h:xs[i]? = some x):idxF (.tuple (xs.map f)) (.int (i:Nat))=some (.o (f x)):=z0e (by rw[Qj,h];rfl)
theorem sl_tup(xs:List Tl)(lo hi:Option Int):slcF lo hi (.tuple xs)=some (.o (.tuple (cutL xs lo hi))):=rfl
theorem zcu(h:a.length+b.length<=16777216):addF (.tuple a) (.tuple b)=some (.o (.tuple (a++b))):=by
 show(if a.length+b.length<=sizeLine then some (R.o (.tuple (a++b))) else none)=_;rw[j7 (by rw[Ts];exact h)]
theorem zao{α:Type}{xs:List α}{i:Nat}{z:α}(h:i<xs.length):xs[i]? = some (xs.getD i z):=by
 rw[Qo,Qg h];rfl
theorem zjy{α:Type}{xs:List α}{i:Nat}{d:α}(h:i<xs.length):cutL xs none (some (i:Int)) ++ [d]++cutL xs (some ((i:Int)+1)) none=xs.set i d:=by
 rw[show((i:Int)+1)=((i+1:Nat):Int) from rfl,zfe,zf9,List.set_eq_take_append_cons_drop,j7 h,Ye];rfl
theorem zc6(a b:Nat):decide ((a:Int)=(b:Int))=decide (a=b):=by
 by_cases h:a=b
 .rw[j9 h,j9 (jF _ h)]
 .rw[jA h];exact jA λz=>h (Int.ofNat_inj.mp z)
theorem zm7(w:List Nat):(tx w == QS "")=decide (w = []):=by
 rw[show QS "" = tx [] by decide +kernel,zmk]
theorem zb5{α:Type}{xs:List α}{i:Nat}{z:α}(h:i<xs.length):xs.getD i z∈xs:=Qn (zao h)
theorem zuf(xs:List Nat)(i v:Nat):flat (.tuple ((xs.map nD).set i (nD v)))=true:=by rw[<- JF (f:=nD)];exact zan (λ_=>rfl) _
theorem zeh{α:Type}(xs:List α)(lo hi:Option Int):(cutL xs lo hi).length<=xs.length:=by
 unfold cutL;rw[QX,Z8];lia
def zl0:List Tl->(R->Prop)->Prop:=λds Q=>∃(xs:List Tl) (i:Nat) (d:Tl),ds = [.tuple xs,.int (i:Nat),d]/\i<xs.length/\xs.length<=1000/\Q (.o (.tuple (xs.set i d)))
theorem zg3{α β:Type}{enc:α->Tl}{enc2:β->Tl}{good:β->Prop}{i h:Nat}{fe:DE}{ρ:DSt}{Q:List Tl->Prop}{as:List α}
 (step:∀a∈as,∀(Py:Tl->Prop),(∀b,good b->Py (enc2 b))->fe ((QG h none++ρ).set i (some (.im (enc a)))) (λr=>Py r.d))
 (hz:as.length<=1000) (q:∀bs:List β,(∀b∈bs,good b)->bs.length=as.length->Q (bs.map enc2)):zbg h (gN i) (λ_ Q=>Q true) fe ρ Q (as.map enc) []:=by
 have sz:=Ts
 have key:∀(l:List α) (bs:List β),(∀a∈l,a∈as)->(∀b∈bs,good b)->bs.length+l.length=as.length->zbg h (gN i) (λ_ Q=>Q true) fe ρ Q (l.map enc) (bs.map enc2):=by
  intro l
  induction l with
  | nil=>intro bs _ hb hl;exact q bs hb hl
  | cons a l ih=>
    intro bs hs hb hl;rw[Q3] at hl;refine iteT (B:=True) (step a (hs a Qp) (λd=>(bs.map enc2).length<sizeLine/\zbg h (gN i) (λ_ Q=>Q true) fe ρ Q (l.map enc) (bs.map enc2 ++ [d])) λb gb=>⟨by rw[Qc];lia,?_⟩);have:=ih (bs ++ [b]) (λx hx=>hs x (Qf _ hx)) (λx hx=>by rcases Qv.mp hx with hx|hx;(exact hb x hx);(rw[Qb.mp hx];exact gb)) (by rw[Qq,QA];lia);rwa [Q7] at this
 exact key as [] (λ_ h=>h) (by simp) (by simp)
theorem zc5(r:Rul):flat (zbi r)=true:=by
 obtain⟨p,d,q⟩:=r;cases d <;> rfl
theorem zct(h:Hnd):flat (zbl h)=true:=by
 show(true && (flats (h.rs.map zbi) && true))=true;rw[zan zc5];rfl
def RuOk(ls:List Nat)(l f:Nat)(r:Rul):Prop:=DeOk ls l f r.d/\r.p<=100/\r.q<=100
def HdOk(ls:List Nat)(l f:Nat)(x:Hnd):Prop:=(0<x.n/\x.n<=100)/\x.rs.length<=100/\∀r∈x.rs,RuOk ls l f r
theorem zne{α:Type}{P:α->Prop}{xs:List α}{a:α}(h:∀x∈xs,P x)(ha:P a):∀x∈xs ++ [a],P x:=λx hx=>by
 rcases Qv.mp hx with hx|hx
 .exact h x hx
 .rw[Qb.mp hx];exact ha
theorem zzu(w:List Nat):flat (wD w)=true:=rfl
theorem z1b(s:Sta):flats [.tuple (s.rooms.map nD),.tuple (s.flags.map nD),.tuple (s.words.map wD)]=true:=by
 show(flats _ && (flats _ && (flats _ && true)))=true;rw[zan (λ_=>rfl),zan (λ_=>rfl),zan zzu];rfl
theorem zj3(h:Hou):flat (zbc h)=true:=by
 show(true && (true && (true && (flats (h.hands.map zbl) && true))))=true;rw[zan zct];rfl
end L3
namespace HK
open PySem PySem.Spec PyProof.Rows PySem.W
def LtOk(d e:Tl):Prop:=∀(prog:Tr) (w:Tt) (A:Tv) (E:Tn->To->Prop) (s:To) (v u:Tn) (as bs:List Addr) (Q:Tn->To->Prop),TV s.heap v d as->TV s.heap u e bs->A.units+d.depth+2<cLine->Q (.bool (dlt d e)) s->wpAny (model prog w) A (TN .Lt v u) Q E s
section
open PySem.SeqAt
open PySem.AutoSeq1 (wpAny_loadPart')
open PySem.MeetsSeq PySem.MeetsSeq2 PySem.MeetsSeq3
theorem zgs(l b:Addr)(items items2:Array Tn)(n n2:Nat)(dd dd2:Option Addr)(sl sl2:Array (Option Tn))(xs ys:List Tl)(hx:Qz xs=true)(hy:Qz ys=true)(hp:∀p∈xs.zip ys,LtOk p.1 p.2):
 Meets (Builtin.«tuple.__lt__» ⟨[.ref l,.ref b],[]⟩)
  (λA R s=>s.heap.get? l=some { cls:=.type "tuple",dict:=dd,data:=.seq items n,slots:=sl }/\s.heap.get? b=some { cls:=.type "tuple",dict:=dd2,data:=.seq items2 n2,slots:=sl2 } /\
   (∃as bs,Mf s.heap items.toList xs as/\Mf s.heap items2.toList ys bs)/\A.units+Zq xs+3<cLine/\R (.ok (.ret (.bool (dlts xs ys)))) s) :=
 .of_wp λprog w A R s h=>by
  obtain⟨hp',g,d,tk,os⟩:=s;obtain⟨hl,hb,⟨as,bs,r1,r2⟩,hu,h⟩:=h;have f2:=AutoSeq1.sub_tuple_tuple;have z1:items.size=xs.length:=by simpa using ReadsAll.length _ _ _ r1
  have z2:items2.size=ys.length:=by simpa using ReadsAll.length _ _ _ r2
  wp_walk using MW hl,MW hb,Mu _ (λrest b s'=>b.1=none/\s'=⟨hp',g,d,tk,os⟩/\∃(vs ws:List Tn) (xs' ys':List Tl) (as' bs':List Addr),rest=vs.zip ws /\
   Mf hp' vs xs' as'/\Mf hp' ws ys' bs'/\xs'.length+items2.size=ys'.length+items.size/\Qz xs'=true/\Qz ys'=true/\(∀p∈xs'.zip ys',LtOk p.1 p.2)/\Zq xs'<=Zq xs/\R (.ok (.ret (.bool (dlts xs' ys')))) ⟨hp',g,d,tk,os⟩) _
  case turn=>
   rintro⟨y,x⟩ rest b s' ⟨hb',rfl,vs,ws,xs',ys',as',bs',hz,hvi,hwi,hlen,cx,cy,hpp,hdp,hR⟩
   cases hvi with
   | nil=>rw[Ge] at hz;cases hz
   | @cons v vs d1 ds1 a1 b1 q1 hvi'=>
     cases hwi with
     | nil=>rw[UL] at hz;cases hz
     | @cons v2 vs2 d2 ds2 a2 b2 q2 hwi'=>
       rw[Yz] at hz;injection hz with hyx hrest;injection hyx with hy' hx';subst hy' hx';rw[dlts] at hR;simp only[Q3] at hlen;simp only[Qz,Qx] at cx cy;rw[Zq] at hdp;refine Tj (eqBoolOverData _ _ _ _ _ _ _ d1 d2 _ _ _ q1 q2 cx.1 cy.1 (by show A.units+1+min d1.depth d2.depth<cLine;lia) ?_)
       cases e:QC d1 d2 with
       | true=>
         rw[e,j7 rfl] at hR
         wp_walk
         exact⟨rfl,rfl,_,_,_,_,_,_,hrest,hvi',hwi',by lia,cx.2,cy.2,λp z=>hpp p (Qf _ z),by lia,hR⟩
       | false=>
         rw[e,j8 Q8] at hR
         have hri:∀(E:Tn->To->Prop) (Q:Tn->To->Prop),Q (.bool (dlt d1 d2)) ⟨hp',g,d,tk,os⟩->wpAny (model prog w) A.in1 (richCompare .Lt y x) Q E ⟨hp',g,d,tk,os⟩:=λE Q q=>
          hpp (d1,d2) (by simp) prog w A.in1 E ⟨hp',g,d,tk,os⟩ y x _ _ Q q1 q2 (by show A.units+1+d1.depth+2<cLine;lia) q
         wp_walk using hri
         exact⟨_,rfl,by simpa using hR⟩
  case fin=>
   rintro⟨b1,b2⟩ s' ⟨hb',rfl,vs,ws,xs',ys',as',bs',hz,hvi,hwi,hlen,cx,cy,hpp,hdp,hR⟩;simp only at hb';subst hb'
   have hv:dlts xs' ys'=decide (items.size<items2.size):=by
    cases hvi with
    | nil=>
      cases hwi with
      | nil=>
        simp only[Jj] at hlen;exact(jA (by lia)).symm
      | cons c u=>
        simp only[Jj,Q3] at hlen;exact(j9 (by lia)).symm
    | cons a t=>
      cases hwi with
      | nil=>
        simp only[Jj,Q3] at hlen;exact(jA (by lia)).symm
      | cons c u=>
        rw[Yz] at hz;cases hz
   rw[hv] at hR
   wp_walk
   exact⟨_,rfl,by simpa[Builtin.Tuple.tupleCompareSizes] using hR⟩
  case h=>
   exact⟨rfl,rfl,items.toList,items2.toList,xs,ys,as,bs,rfl,r1,r2,by lia,hx,hy,hp,Qh _,h⟩
end
theorem zfn(hx:Qz xs=true)(hy:Qz ys=true)(hp:∀p∈xs.zip ys,LtOk p.1 p.2):LtOk (.tuple xs) (.tuple ys):=λprog w A E s v u as bs Q r1 r2 hu h=>by
 cases r1 with
 | @tuple a o vs c _ _ h1 h2 h3 h4=>
   cases r2 with
   | @tuple a2 o2 vs2 c2 _ _ k1 k2 k3 k4=>
     obtain⟨oc,odd,od,osl⟩:=o;obtain⟨oc2,odd2,od2,osl2⟩:=o2;simp only at h2 h3 k2 k3;subst h2 h3 k2 k3;rw[QO] at hu
     exact richCompare_meets_room (op:=.Lt) ⟨_,h1,rfl⟩ ⟨_,k1,rfl⟩ PySem.F.slot_tuple_lt PySem.F.entry_tuple_lt (PySem.F.args_tuple_lt_2 _ _) (zgs a a2 vs vs2 c c2 odd odd2 osl osl2 xs ys hx hy hp)
      ⟨h1,k1,⟨_,_,h4,k4⟩,by lia,show JP (dlts xs ys)≠Value.notImplemented/\Q (.bool (dlts xs ys)) s from⟨(λx=>nomatch x),h⟩⟩ (by lia)
end HK
namespace HK
open PySem PySem.Spec PyProof.Rows PySem.W
def zhp(d e:Tl):Prop:=∀(prog:Tr) (w:Tt) (A:Tv) (E:Tn->To->Prop) (s:To) (v u:Tn) (as bs:List Addr) (b:Bool) (Q:Bool->To->Prop),TV s.heap v d as->TV s.heap u e bs->A.units+d.depth+2<cLine->Q (dlt d e) s->wpAny (model prog w) A (oneLt' b v u) Q E s
theorem zki:∀{xs:List Tl},Qz xs=true->∀x∈xs,x.canLay0=true
 | x::xs,h,y,hy=>by
   simp only[Qz,Qx] at h;rcases Qs.mp hy with rfl|hy
   .exact h.1
   .exact zki h.2 y hy
theorem zhd{d:Tl}(L:LtOk d e)(prog:Tr)(w:Tt)(A:Tv)(E:Tn->To->Prop)(s:To)(v u:Tn)(as bs:List Addr)(Q:Bool->To->Prop)(r1:TV s.heap v d as)(r2:TV s.heap u e bs)(hu:A.units+d.depth+2<cLine)(h:Q (dlt d e) s):wpAny (model prog w) A (oneLt' false v u) Q E s :=
 kat_one v u (L prog w A E s v u as bs _ r1 r2 hu h)
theorem zew(hx:Qz xs=true)(hy:Qz ys=true)(hp:∀p∈xs.zip ys,LtOk p.1 p.2):zhp (.tuple xs) (.tuple ys):=λprog w A E s v u as bs b Q r1 r2 hu h=>by
 cases b with
 | false=>exact zhd (zfn hx hy hp) prog w A E s v u as bs Q r1 r2 hu h
 | true=>
   cases r1 with
   | @tuple a o vs c _ _ h1 h2 h3 h4=>
     cases r2 with
     | @tuple a2 o2 vs2 c2 _ _ k1 k2 k3 k4=>
       obtain⟨oc,odd,od,osl⟩:=o;obtain⟨oc2,odd2,od2,osl2⟩:=o2;simp only at h2 h3 k2 k3;subst h2 h3 k2 k3;rw[QO] at hu;rw[oneLt'_eq];simp only[jE];refine Tj (wpAny_cRoomFor_or (.inr (by lia)) ?_);refine Tj (wpAny_callSpecialIfBound?_slot ⟨_,h1,rfl⟩ F.slot_tuple_lt (Nb F.slot_tuple_lt ⟨_,h1,rfl⟩ F.entry_tuple_lt (F.args_tuple_lt_2 _ _) (zgs a a2 vs vs2 c c2 odd odd2 osl osl2 xs ys hx hy hp) ⟨h1,k1,⟨_,_,h4,k4⟩,by lia,?_⟩));exact ML h
theorem zax(h:(Vo xs).canLay0=true):Qz xs=true:=by simpa[Z9] using h
theorem both:∀σ:Sh,(∀d e,zal σ d->zal σ e->d.canLay0=true->e.canLay0=true->LtOk d e/\zhp d e)/\(∀xs ys,zal σ (.tuple xs)->zal σ (.tuple ys)->Qz xs=true->Qz ys=true->∀p∈xs.zip ys,LtOk p.1 p.2/\zhp p.1 p.2)
 | .n=>by
   refine⟨λd e ⟨i,h1⟩ ⟨j,h2⟩ _ _=>?_,λxs ys ⟨i,h1⟩=>by cases h1⟩;subst h1 h2
   have L:LtOk (.int i) (.int j):=λprog w A E s v u as bs Q r1 r2 hu h=>by
    cases r1;cases r2;exact lt_int (by simpa[dlt] using h)
   refine⟨L,λprog w A E s v u as bs b Q r1 r2 hu h=>?_⟩
   cases b with
   | false=>exact zhd L prog w A E s v u as bs Q r1 r2 hu h
   | true=>
     cases r1;cases r2;exact oneLt_int (by simpa[dlt] using h)
 | .t=>by
   refine⟨λd e ⟨i,h1⟩ ⟨j,h2⟩ _ _=>?_,λxs ys ⟨i,h1⟩=>by cases h1⟩;subst h1 h2
   have L:LtOk (.str i) (.str j):=λprog w A E s v u as bs Q r1 r2 hu h=>by
    cases r1;cases r2;exact lt_str (by simpa[dlt] using h)
   refine⟨L,λprog w A E s v u as bs b Q r1 r2 hu h=>?_⟩
   cases b with
   | false=>exact zhd L prog w A E s v u as bs Q r1 r2 hu h
   | true=>
     cases r1;cases r2;exact oneLt_str (by simpa[dlt] using h)
 | .arr s=>by
   obtain⟨B,_⟩:=both s
   have pr:∀xs ys,zal (.arr s) (.tuple xs)->zal (.arr s) (.tuple ys)->Qz xs=true->Qz ys=true->∀p∈xs.zip ys,LtOk p.1 p.2/\zhp p.1 p.2:=λxs ys ⟨xs',e1,h1⟩ ⟨ys',e2,h2⟩ c1 c2 p hp=>by
    cases e1;cases e2;obtain⟨q1,q2⟩:=JW (show(p.1,p.2)∈xs.zip ys from hp);exact B p.1 p.2 (h1 _ q1) (h2 _ q2) (zki c1 _ q1) (zki c2 _ q2)
   refine⟨λd e hd he cd ce=>?_,pr⟩;obtain⟨xs,rfl,h1⟩:=id hd;obtain⟨ys,rfl,h2⟩:=id he;have hp:=pr xs ys hd he (zax cd) (zax ce);exact⟨zfn (zax cd) (zax ce) λp z=>(hp p z).1,zew (zax cd) (zax ce) λp z=>(hp p z).1⟩
 | .fnil=>by
   refine⟨λd e hd he _ _=>?_,λxs ys hd _ _ _ p hp=>?_⟩
   .have hd:d = .tuple []:=hd;have he:e = .tuple []:=he;subst hd he;exact⟨zfn rfl rfl (λp z=>(Q4 z).elim),zew rfl rfl (λp z=>(Q4 z).elim)⟩
   .have hd:Vo xs = .tuple []:=hd;cases hd;cases hp
 | .fcons a r=>by
   obtain⟨B,_⟩:=both a;obtain⟨_,C⟩:=both r
   have pr:∀xs ys,zal (.fcons a r) (.tuple xs)->zal (.fcons a r) (.tuple ys)->Qz xs=true->Qz ys=true->∀p∈xs.zip ys,LtOk p.1 p.2/\zhp p.1 p.2:=λxs ys ⟨x,xs',e1,h1,g1⟩ ⟨y,ys',e2,h2,g2⟩ c1 c2 p hp=>by
    cases e1;cases e2;simp only[Qz,Qx] at c1 c2;rw[Yz] at hp;rcases Qs.mp hp with rfl|hp
    .exact B x y h1 h2 c1.1 c2.1
    .exact C xs' ys' g1 g2 c1.2 c2.2 p hp
   refine⟨λd e hd he cd ce=>?_,pr⟩;obtain⟨x,xs,rfl,h1,g1⟩:=id hd;obtain⟨y,ys,rfl,h2,g2⟩:=id he;have hp:=pr _ _ hd he (zax cd) (zax ce);exact⟨zfn (zax cd) (zax ce) λp z=>(hp p z).1,zew (zax cd) (zax ce) λp z=>(hp p z).1⟩
section
variable {prog:Tr}{w:Tt}{A:Tv}{E:Tn->To->Prop}{s:To}
theorem znb{b fin:Bool}: ∀(vs us:List Tn) (xs ys:List Tl) (as bs:List Addr) (i:Nat),Mf s.heap vs xs as->Mf s.heap us ys bs->Qz xs=true->Qz ys=true->(∀p∈xs.zip ys,zhp p.1 p.2)->A.units+Zq xs+2<cLine->fin=decide (xs.length<ys.length)->Q (dlts xs ys) s->KatLex prog w A b fin Q (vs.zip us) i s
 | [],us,xs,ys,as,bs,i,r1,r2,_,_,_,_,hf,h=>by
   cases r1;rw[Ge];refine kat_nil ?_
   cases ys with
   | nil=>rw[hf];exact h
   | cons y ys=>rw[hf];exact h
 | v::vs,[],xs,ys,as,bs,i,r1,r2,_,_,_,_,hf,h=>by
   cases r2;rw[UL];refine kat_nil ?_;obtain⟨d,ds',a,b',rfl,_,_⟩:=zb1 r1;rw[hf];exact h
 | v::vs,u::us,xs,ys,as,bs,i,r1,r2,c1,c2,hp,hu,hf,h=>by
   obtain⟨d,ds,a1,b1,rfl,q1,t1⟩:=zb1 r1;obtain⟨e,es,a2,b2,rfl,q2,t2⟩:=zb1 r2;simp only[Qz,Qx] at c1 c2;rw[Zq] at hu;rw[Yz];rw[dlts] at h;refine kat_cons (YX _ _ _ _ _ _ _ d e _ _ _ q1 q2 c1.1 c2.1 (by lia) ?_)
   cases he:QC d e with
   | true=>
     rw[he,j7 rfl] at h;refine kat_yes (znb vs us ds es b1 b2 (i+1) t1 t2 c1.2 c2.2 (λp z=>hp p (Qf _ z)) (by lia) ?_ h);rw[hf];simp
   | false=>
     rw[he,j8 Q8] at h;exact kat_no (hp (d,e) (by simp) prog w A _ s v u a1 a2 _ _ q1 q2 (by show A.units+d.depth+2<cLine;lia) h)
def tyS:Sh->String
 | .n=> "int"
 | .t=> "str"
 | _=> "tuple"
def hdS:Sh->Sh
 | .arr s=>s
 | .fcons a _=>a
 | s=>s
theorem z6v:∀{σ:Sh} {x:Tl} {xs:List Tl},zal σ (.tuple (x::xs))->zal (hdS σ) x
 | .n,_,_,⟨_,e⟩=>by cases e
 | .t,_,_,⟨_,e⟩=>by cases e
 | .arr s,_,_,⟨_,e,h⟩=>by cases e;exact h _ (by simp)
 | .fnil,_,_,e=>by
   have e:Vo _=Vo []:=e;cases e
 | .fcons a r,_,_,⟨_,_,e,h,_⟩=>by cases e;exact h
theorem zgn(h1:h.get? b=some o)(h2:o.cls = .type "tuple"):Looks M h (jr (.ref b)) (.type "tuple"):=by
 have:=(show Looks M h (jr (.ref b)) o.cls from(Looks.ld h1).andThen .now);rw[h2] at this;exact this
theorem zzb: ∀{σ:Sh} {d:Tl} {v:Tn} {as:List Addr},zal σ d->TV h v d as->Looks M h (jr v) (.type (tyS σ))
 | .n,_,_,_,⟨_,e⟩,r=>by subst e;cases r;exact .now
 | .t,_,_,_,⟨_,e⟩,r=>by subst e;cases r;exact .now
 | .arr s,_,_,_,⟨_,e,_⟩,r=>by
   subst e
   cases r with
   | tuple h1 h2 h3 h4=>exact zgn h1 h2
 | .fnil,_,_,_,e,r=>by
   have e:_=Vo []:=e;subst e
   cases r with
   | tuple h1 h2 h3 h4=>exact zgn h1 h2
 | .fcons _ _,_,_,_,⟨_,_,e,_,_⟩,r=>by
   subst e
   cases r with
   | tuple h1 h2 h3 h4=>exact zgn h1 h2
def TupS(σ:Sh)(h:Heap)(v:Tn):Prop:=∃b ds as,v = .ref b/\TV h (.ref b) (.tuple ds) as/\zal σ (.tuple ds)
theorem zlb: ∀(vs:List Tn),(∀v∈vs,TupS σ s.heap v)->∃fs:List (Option Tn),fs.length=vs.length/\(∀f,some f∈fs->Looks M s.heap (jr f) (.type (tyS (hdS σ))))/\∀(E:Tn->To->Prop) (Q:List (Option Tn)->To->Prop),Q fs s->wpAny M A (vs.mapM firstOfTuple') Q E s
 | [],_=>⟨[],rfl,(λf z=>(Q4 z).elim),λE Q h=>by rw[List.mapM_nil];exact Tk h⟩
 | v::vs,h=>by
   obtain⟨fs,h1,h2,h3⟩:=zlb (M:=M) vs λu z=>h u (Qf _ z);obtain⟨b,ds,as,rfl,r,hs⟩:=h v (by simp)
   cases r with
   | @tuple _ o items c _ _ k1 k2 k3 k4=>
     refine⟨items[0]? :: fs,by simp[h1],λf z=>?_,λE Q q=>?_⟩
     .rcases Qs.mp z with z|z
      .cases hv:items.toList with
       | nil=>
         rw[<- QK,hv] at z;cases z
       | cons i its=>
         rw[hv] at k4;obtain⟨d,ds',a1,b1,rfl,q1,q2⟩:=zb1 k4;rw[<- QK,hv] at z;cases z;exact zzb (z6v hs) q1
      .exact h2 f z
     .rw[List.mapM_cons];refine Tj ?_;rw[kas_first_eq];refine Tj (Looks.here (show Looks M s.heap (jr (.ref b)) o.cls from(Looks.ld k1).andThen .now) ?_);rw[k2,j8 (by first|decide|simp)];refine Tj (N6 k1 k3 (Tk ?_));exact Tj (h3 _ _ (Tk q))
theorem zz1{M:Model}{σ:Sh}{vs:List Tn}(h:∀v∈vs,TupS σ s.heap v)(h2:2<=vs.length):∃kd:Nn,(kd=tuples' true\/kd=tuples' false\/kd=general'\/kd=j4)/\∀(E:Tn->To->Prop) (Q:Nn->To->Prop),Q kd s->wpAny M A (keyKind' vs.toArray) Q E s:=by
 obtain⟨fs,l1,l2,l3⟩:=zlb (M:=M) (A:=A) vs h;have beqT:∀T:Tn,(∃x,T = .type x)->(T == T)=true:=λT ⟨x,e⟩=>by subst e;simp
 by_cases ha:fs.toArray.all (λx=>x.isSome)=true
 .refine⟨tuples' (Zp (tyS (hdS σ)) != Zp "tuple"),?_,λE Q q=>?_⟩
  .cases (Zp (tyS (hdS σ)) != Zp "tuple")
   .exact .inr (.inl rfl)
   .exact .inl rfl
  .rw[ju,Yh,jI];refine Tj (Tj (l3 _ _ (Tk ?_)));rw[j7 ha];refine Tj (TW ?_);have hfm:(fs.toArray.filterMap id)=(fs.filterMap id).toArray:=by simp
   have hlen:0<(fs.filterMap id).length:=by
    cases fs with
    | nil=>simp at l1;lia
    | cons f fr=>
      cases f with
      | none=>simp at ha
      | some f=>simp
   rw[hfm,oneTypeOnly'_eq,Yh,jI];refine Tj (Tj (Tj (kas_mapM (r:=Zp (tyS (hdS σ))) _ (λv hv Q' hq=>(l2 v (by simpa using hv)).here hq) (Tk ?_))));generalize fs.filterMap id=gs at hlen ⊢
   obtain⟨g,gr,rfl⟩:∃g gr,gs=g::gr:=by
    match gs,hlen with
    | g::gr,_=>exact⟨g,gr,rfl⟩
   have hall2:((GT (λ_=>Zp (tyS (hdS σ))) (g::gr)).toArray.all λx=>x == Zp (tyS (hdS σ)))=true:=by
    simp only[Gv,UZ,J1];intro _ _;exact beqT _ ⟨_,rfl⟩
   have h0:(GT (λ_=>Zp (tyS (hdS σ))) (g::gr)).toArray[0]? = some (Zp (tyS (hdS σ))):=by simp
   rw[h0];simp only[hall2,jE];exact Tk (Tk q)
 .by_cases hf:(fs.toArray[0]?.bind id).isSome=true
  .refine⟨general',.inr (.inr (.inl rfl)),λE Q q=>?_⟩;rw[ju,Yh,jI];refine Tj (Tj (l3 _ _ (Tk ?_)));rw[j8 ha,j7 hf];exact Tk q
  .refine⟨j4,.inr (.inr (.inr rfl)),λE Q q=>?_⟩;rw[ju,Yh,jI];refine Tj (Tj (l3 _ _ (Tk ?_)));rw[j8 ha,j8 hf];rw[oneTypeOnly'_eq,Yh,jI];refine Tj (Tj (Tj (kas_mapM (r:=Zp "tuple") _ (λv hv Q' hq=>?_) (Tk ?_))))
   .obtain⟨b,ds,as,rfl,r,hs⟩:=h v hv
    cases r with
    | tuple k1 k2 k3 k4=>
      exact(zgn k1 k2).here hq
   .obtain⟨v₁,rest,rfl⟩:∃v₁ rest,vs=v₁::rest:=by
     match vs,h2 with
     | v₁::rest,_=>exact⟨v₁,rest,rfl⟩
    have hall2:((GT (λ_=>Zp "tuple") (v₁::rest)).toArray.all λx=>x == Zp "tuple")=true:=by
     simp only[Gv,UZ,J1];intro _ _;exact beqT _ ⟨_,rfl⟩
    have h0:(GT (λ_=>Zp "tuple") (v₁::rest)).toArray[0]? = some (Zp "tuple"):=by simp
    rw[h0];simp only[hall2,jE];exact Tk (Tk q)
theorem zkc{σ:Sh}{kd:List Tl}{d0:Tl}(h0:zal σ d0)(h:∀d∈kd,zal σ d)(i:Nat):zal σ (kd.getD i d0):=by
 rw[Qo]
 cases e:kd[i]? with
 | none=>exact h0
 | some d=>exact h d (Qn e)
open L6 in
theorem zpc{σ:Sh}{kd:List Tl}{vs:List Tn}{d0:Tl}(h0:zal σ d0)(hs:∀d∈kd,zal σ d)(hl:kd.length=vs.length)(la:∀d∈kd,d.canLay0=true)(de:∀d∈kd,d.depth<=8)(hu:A.units+12<cLine)
 (hk:∀(i:Nat) v d,vs[i]? = some v->kd[i]? = some d->∃b ds as,v = .ref b/\d = .tuple ds/\TV s.heap (.ref b) d as):KeysOk prog w A s vs vs (λa b:{ d:Tl // zal σ d }=>dlt a.1 b.1) (λi=>⟨kd.getD i d0,zkc h0 hs i⟩):=by
 have hk':∀(i:Nat) v,vs[i]? = some v->∃b ds as,v = .ref b/\kd.getD i d0 = .tuple ds /\ .tuple ds∈kd/\TV s.heap (.ref b) (.tuple ds) as:=λi v e=>by
  have hi:i<kd.length:=by rw[hl];exact(Qi.mp e).1
  obtain⟨b,ds,as,e1,e2,r⟩:=hk i v kd[i] e (Qg hi);refine⟨b,ds,as,e1,?_,?_,by rw[<- e2];exact r⟩
  .rw[Qo,Qg hi];exact e2
  .rw[<- e2];exact QT hi
 refine⟨zrm σ,λh2=>?_⟩
 obtain⟨kk,c,q⟩:=zz1 (M:=model prog w) (A:=A) (σ:=σ) (s:=s) (vs:=vs) (λv hv=>by
  obtain⟨i,hi⟩:=QQ.mp hv;obtain⟨b,ds,as,e1,_,e3,r⟩:=hk' i v hi
  exact⟨b,ds,as,e1,r,hs _ e3⟩) h2
 refine⟨kk,q,λi j x p y q' E Q hi hj h=>?_⟩;obtain⟨b,ds,as,rfl,g1,m1,r1⟩:=hk' i x (zdb rfl hi).1;obtain⟨b2,ds2,as2,rfl,g2,m2,r2⟩:=hk' j y (zdb rfl hj).1;dsimp only at h;rw[g1,g2] at h;have de1:=de _ m1;rw[QO] at de1;have hp:=(both σ).2 ds ds2 (hs _ m1) (hs _ m2) (zax (la _ m1)) (zax (la _ m2));have one:∀b':Bool,wpAny (model prog w) A (oneLt' b' (.ref b) (.ref b2)) Q E s:=λb'=>zew (zax (la _ m1)) (zax (la _ m2)) (λp z=>(hp p z).1) prog w A E s _ _ as as2 b' Q r1 r2 (by rw[QO];lia) h
 have lex:∀b':Bool,wpAny (model prog w) A (keyLt' (tuples' b') (.ref b) (.ref b2)) Q E s:=λb'=>by
  cases r1 with
  | tuple k1 k2 k3 k4=>
    cases r2 with
    | tuple l1 l2 l3 l4=>
      refine kat_lt k1 k3 l1 l3 (znb _ _ ds ds2 _ _ 0 k4 l4 (zax (la _ m1)) (zax (la _ m2)) (λp z=>(hp p z).2) (by lia) ?_ h);have z1:=Ug _ _ _ k4;have z2:=Ug _ _ _ l4;simp at z1 z2;rw[z1,z2]
 rcases c with rfl|rfl|rfl|rfl
 .exact lex true
 .exact lex false
 .exact one false
 .exact one true
end
end HK
namespace HK
open PySem PySem.Spec PyProof.Rows PySem.SetTable SX TB
section
variable {P:Tr}{w:Tt}{A:Tv}{E:Tn->To->Prop}{s:To}{S:Addr}{es:Es}{ep:Nat}{t:TM}{ks:List Tl}{m:Nat}{h0:Heap}{Sp:Addr->Tl->Prop}
theorem Kx.keep(K:Kx w h0 Sp h S es ep t ks m)(kS:∀o,h.get? S=some o->h'.get? S=some o):Kx w h0 Sp h' S es ep t ks m :=
 ⟨K.toSx.keep kS,K.el,K.len,K.kt,K.nd,K.ok,K.nf,K.pn⟩
theorem zrv(ho:h.get? S=some o)(hd:o.data = .set es ep t)(sb:Zk S h h'):zd1 h h':=λb o' xs n e d=>by
 have nb:b≠S:=λz=>by
  subst z;rw[ho] at e;cases e;rw[hd] at d;cases d
 exact(sb.2 b nb).trans e
theorem zuv(kt:∀k∈ks,TupK k)(nd:ks.Nodup)(pn:t.plain=true->∀k∈ks,bv k=true)(hl:1<ks.length):t.plain=false:=by
 cases c:t.plain with
 | false=>rfl
 | true=>
   exfalso;have h0:=QT (l:=ks) (n:=0) (by lia);have h1:=QT (l:=ks) (n:=1) hl;have e0:=(kt _ h0).tx (pn c _ h0);have e1:=(kt _ h1).tx (pn c _ h1);have:=(Gn (i:=0) (j:=1) (h₀:=by lia) (h₁:=hl) nd).mp (e0.trans e1.symm);lia
theorem zum(K:Sx w s.heap S es ep t){m':Nat}(el:∀(i:Nat) e,es'[i]? = some e->∃k b as,ks'[i]? = some k/\e=(hD w k,.ref b)/\b≠S/\TV h0 (.ref b) k as/\Sp b k)(len:ks'.length=es'.size)(kt:∀k∈ks',TupK k)(nd:ks'.Nodup)(ok:TOk t' (ks'.map (hD w)) m')(pn:t'.plain=true->∀k∈ks',bv k=true)(led:t'.led = !byT w)(lt:es'.size<scanBound)
 (h:∀h',Zk S s.heap h'->Sx w h' S es' (ep+1) t'->(t'.tooFull=false->Kx w h0 Sp h' S es' (ep+1) t' ks' m')->Q () { s with heap:=h' }):wpAny (model P w) A (jm S es' t') Q E s:=by
 obtain⟨o,ho,hx,hd⟩:=K.at_;have sb:Zk S s.heap (s.heap.update S (UH es' t')):=.update ..
 have fit:t'.fits es'.size=true:=by
  have h1:=ok.sz;have h2:=ok.rm;rw[Qc,len] at h1;simp[U6,Tb,ok.dm,h1];lia
 have sx:Sx w (s.heap.update S (UH es' t')) S es' (ep+1) t':=by
  refine⟨⟨{ o with data:=.set es' (ep+1) t' },?_,hx,rfl⟩,lt,fit,led,λz=>zuv kt nd pn (by lia)⟩;have:=Zo (UH es' t') ho (by rw[jp es' t' hd];rfl);rw[jp es' t' hd] at this;exact this
 refine wpAny_storeSet_of ho hd (h _ sb sx λnf=>?_) (M4 lt);exact⟨sx,el,len,kt,nd,ok,nf,pn⟩
theorem z1d{α β:Type}(f:α->β)(p:Nat)(x:α)(l:List α):(ins p x l).map f=ins p (f x) (l.map f):=by
 unfold ins;rw[Q7,Qu,V9,U5]
theorem zxo{α:Type}(p:Nat)(x:α)(l:List α):(ins p x l).Perm (x::l):=by
 unfold ins;refine VH.trans (.cons x ?_);rw[YI]
theorem Kx.add(K:Kx w h0 Sp s.heap S es ep t ks m)(X:zd1 h0 s.heap)(hk':TupK k)(r0:TV h0 (.ref b) k as)(sp:Sp b k)(hu:A.units+8<cLine)(hz:es.size<999) 
 (h:∀c h' es' ep' t' ks' m',Zk S s.heap h'->Kx w h0 Sp h' S es' ep' t' ks' m'->(∀x,x∈ks'↔x∈ks\/x=k)->es'.size<=es.size+1->Q c { s with heap:=h' }) :
 wpAny (model P w) A (N9 S (.ref b) (hD w k)) Q E s:=by
 have r:=hk'.keep X r0;obtain⟨N,n1,n2,n3⟩:=K.ok.free (hD w k)
 have nb:b≠S:=λz=>by
  obtain⟨o,xs,n,h1,h2⟩:=zsv hk' r;obtain⟨o',h3,_,h4⟩:=K.at_;rw[z,h3] at h1;cases h1;rw[h4] at h2;cases h2
 unfold N9 NO;refine TF (Tj (K.state ?_));dsimp only;rw[j8 (by simp[byScan,Value.scannable])];have mk1:=K.ok.mm;have mk2:2 ^ m<=2 ^ 13:=Js (by decide) K.ok.mb;refine Tj ?_;unfold setSearch;refine K.search X hk' r hu n2 n3 n1 (λhm=>?_) (λhn=>?_) 100000 0 none (by unfold turns at n1;lia) (QE _) rfl (λk' z=>absurd z (JY _))
 .exact Tk (h false s.heap es ep t ks m (.refl ..) K (λx=>⟨.inl,λz=>z.elim id λz=>z ▸ hm⟩) (Jr _))
 .have km:k ∉ ks:=λhm=>by
   obtain⟨i,hi⟩:=QQ.mp hm;obtain⟨n,q1,q2⟩:=K.ok.rc i (hD w k) (by rw[Qj,hi];rfl)
   have il:i<t.place.size:=by
    rw[K.ok.sz,Qc];exact(Qi.mp hi).1
   have sl:=zlv K.ok.inc il;rw[<- q1] at sl
   by_cases c:n<N
   .exact hn n c i sl hi
   .by_cases c2:N<n
    .exact q2 N c2 n2
    .obtain rfl:n=N:=by lia
     rw[n2] at sl;cases sl
  refine Tj (K.state ?_);have psz:t.place.size=es.size:=by rw[K.ok.sz,Qc,K.len]
  have tf:t.place.size * 5<t.mask * 3:=by
   have:=K.nf;simp[SetTable.tooFull,Tb,K.ok.dm] at this;lia
  have m8:2 ^ 3<=2 ^ m:=Js (by decide) K.ok.m3;have hmask:t.place.size+1<=t.mask:=by lia
  have put:=λb=>K.ok.put (h:=hD w k) (N:=N) hmask n2 n3 (zx8 _ N).1 b;generalize hj:(sq t.mask (hD w k) N).j=j at *;generalize hp:below t.place j=p at *;have pls:(t.put j).1.led=t.led/\(t.put j).1.plain=t.plain:=⟨rfl,rfl⟩;have pp:(t.put j).2=p:=(put true).2
  have hpl:p<=es.size:=by
   rw[<- hp,<- psz];exact(zii K.ok.inc j).1
  have el1:∀(i:Nat) e,(insertAt es p (hD w k,QN b))[i]? = some e->∃k' b' as',(ins p k ks)[i]? = some k'/\e=(hD w k',.ref b')/\b'≠S/\TV h0 (.ref b') k' as'/\Sp b' k':=λi e he=>by
   rw[<- QK,insA,zhz (by simpa using hpl)] at he;rw[zhz (by rw[K.len];exact hpl)]
   split at he
   .rename_i c
    rw[j7 c];exact K.el i e (by rw[<- QK];exact he)
   .rename_i c
    rw[j8 c]
    split at he
    .rename_i c2
     rw[j7 c2];cases he;exact⟨k,b,as,rfl,rfl,nb,r0,sp⟩
    .rename_i c2
     rw[j8 c2];exact K.el (i-1) e (by rw[<- QK];exact he)
  have pk:=zxo p k ks
  have len1:(ins p k ks).length=(insertAt es p (hD w k,QN b)).size:=by
   rw[zfl,<- QV,insA,zfl,K.len,QV]
  have kt1:∀x∈ins p k ks,TupK x:=λx hx=>by
   rcases Qs.mp (pk.mem_iff.mp hx) with rfl|hx
   .exact hk'
   .exact K.kt x hx
  have nd1:(ins p k ks).Nodup:=pk.nodup_iff.mpr (Jh.mpr ⟨km,K.nd⟩);have mem1:∀x,x∈ins p k ks↔x∈ks\/x=k:=λx=>by rw[pk.mem_iff,Qs,or_comm]
  have sz1:(insertAt es p (hD w k,QN b)).size=es.size+1:=by rw[<- len1,zfl,K.len]
  generalize hes1:insertAt es p (hD w k,QN b)=es1 at *;generalize hks1:ins p k ks=ks1 at *
  have fin:∀b':Bool,(b'=true->∀x∈ks1,bv x=true)->wpAny (model P w) A (do
   jm S es1 { (t.put j).1 with plain:=b' }
   if(!false && ({ (t.put j).1 with plain:=b' }:TM).tooFull)=true then do
       setRelay S (Jf (es.size+1))
       pure true
    else pure true) Q E s:=λb' hb'=>by
   have ok1:=(put b').1;rw[<- z1d,hks1] at ok1;refine Tj (zum K.toSx el1 len1 kt1 nd1 ok1 hb' (pls.1.trans K.led) (by rw[sz1];unfold scanBound;lia) λh1 sb1 sx1 mk=>?_)
   cases hw:({ (t.put j).1 with plain:=b' }:TM).tooFull with
   | false=>
     refine wp_f (by decide) (Tk (h true h1 _ _ _ _ _ sb1 (mk hw) mem1 (VO sz1)))
   | true=>
     refine wp_t rfl ?_;generalize ht1:({ (t.put j).1 with plain:=b' }:TM)=t1 at *;obtain⟨t2,order,m2,z1,z2,z3,z4,z5,z6,z7⟩:=zt5 t1 es1 (by lia);obtain⟨m',y1,y2,y3,y4⟩:=above (n:=es1.size * 4) (by lia)
     have gr:Jf (es.size+1)=es1.size * 4:=by
      unfold Jf;rw[j8 (by lia),sz1]
     rw[gr];unfold setRelay;refine Tj (Tj (Sx.state (s:={ s with heap:=h1 }) sx1 ?_))
     refine wp_f (by
      rw[y2,Ts]
      have:2 ^ m'<=8000:=by
       rcases y4 with rfl|y4
       .decide
       .lia
      lia) ?_
     dsimp only;rw[z1]
     have z3':(order.filterMap (es1[·]?)).size=es1.size:=by
      rw[<- QV,z3.length_eq,QV]
     refine Tj (m:=(do
      if((order.filterMap (es1[·]?)).size != es1.size)=true then jw "internal:set-table-lost-an-element"
      pure (order.filterMap (es1[·]?),t2))) (wp_f (by simp[z3']) (Tk ?_))
     have isE:∀i∈order.toList,(es1[i]?).isSome=true:=λi hi=>by
      have:=QJ.mp (z7.mem_iff.mp hi);simp[this]
     have isK:∀i∈order.toList,(ks1[i]?).isSome=true:=λi hi=>by
      have:=QJ.mp (z7.mem_iff.mp hi);simp;lia
     have e2:(order.filterMap (es1[·]?)).toList=order.toList.filterMap (es1[·]?):=by simp
     have p2:(order.toList.filterMap (ks1[·]?)).Perm ks1:=by
      have:=z7.filterMap (λi=>ks1[i]?);rw[<- len1] at this;rw[List.filterMap_getElem?_range_length] at this;exact this
     obtain⟨o1,ho1,hx1,hd1⟩:=K.at_;have ke:zd1 s.heap h1:=zrv ho1 hd1 sb1
     have el2:∀(i:Nat) e,(order.filterMap (es1[·]?))[i]? = some e->∃k' b' as',(order.toList.filterMap (ks1[·]?))[i]? = some k'/\e=(hD w k',.ref b')/\b'≠S/\TV h0 (.ref b') k' as'/\Sp b' k':=λi e he=>by
      rw[<- QK,e2,zfb isE] at he;rw[zfb isK]
      cases eq:order.toList[i]? with
      | none=>rw[eq] at he;cases he
      | some i'=>
        rw[eq] at he;obtain⟨k',b2,as',q1,q2,q3,q4⟩:=el1 i' e he;exact⟨k',b2,as',q1,q2,q3,q4⟩
     have hm2:(order.filterMap (es1[·]?)).toList.map (·.1)=(order.toList.filterMap (ks1[·]?)).map (hD w):=by
      refine ZB λi=>?_;rw[Qj,Qj,e2,zfb isE,zfb isK]
      cases eq:order.toList[i]? with
      | none=>rfl
      | some i'=>
        have hi':i'<es1.size:=QJ.mp (z7.mem_iff.mp (Qn eq));obtain⟨k',b2,as',q1,q2,q3,q4⟩:=el1 i' _ (Q5 hi');show GP _ es1[i']? = GP _ ks1[i']?;rw[Q5 hi',q2,q1];rfl
     rw[hm2] at z2;refine zum (s:={ s with heap:=h1 }) sx1 el2 (by rw[p2.length_eq,len1,z3']) (λx hx=>kt1 x (p2.mem_iff.mp hx)) (p2.nodup_iff.mpr nd1) z2 (λpl x hx=>hb' (by rw[z5] at pl;rw[<- ht1] at pl;exact pl) x (p2.mem_iff.mp hx)) (by rw[z4,<- ht1];exact pls.1.trans K.led) (by rw[z3',sz1];unfold scanBound;lia) λh2 sb2 sx2 mk2=>?_;exact Tk (h true h2 _ _ _ _ _ (sb1.trans sb2) (mk2 z6) (λx=>by rw[p2.mem_iff];exact mem1 x) (by rw[z3',sz1];exact Qh _))
  dsimp only;rw[pp,hes1]
  split
  .rename_i hpt
   refine Tj (zux 8 k hk'.de hk'.ha _ _ _ _ _ _ r ?_)
   cases hbv:bv k with
   | true=>
     refine fin t.plain λhp' x hx=>?_;rcases(mem1 x).mp hx with hx|rfl
     .exact K.pn hp' x hx
     .exact hbv
   | false=>exact fin false λz=>by cases z
  .rename_i hpt
   refine Tj (Tk ?_);exact fin t.plain λhp'=>absurd hp' hpt
end
end HK
namespace HK
open PySem PySem.Spec PyProof.Rows PySem.SetTable SX TB
section
variable {P:Tr}{w:Tt}{A:Tv}{R:Result->To->Prop}{I:Addr}{fp wr:List Addr}{G:Array jg->Array jg->Prop}{n:Nat}{Pv:Nat->Tn->Prop}{St:Nat->To->Prop}{Sp:Addr->Tl->Prop}
theorem zy9(W:WalksS P w A.in1 I fp wr G n Pv St)(S:Addr)(hS:S ∉ fp)(h0:Heap)(hn:∀b o,h0.get? b=some o->b ∉ S::wr)(val:Nat->Tl)(hv:∀i,i<n->TupK (val i))(hval:∀i v,i<n->Pv i v->∃b as,v = .ref b/\TV h0 (.ref b) (val i) as/\Sp b (val i))(hu:A.units+9<cLine)(hb:n<999):
 ∀(m i:Nat) (s:To) (es:Es) (ep:Nat) (t:TM) (ks:List Tl) (mm:Nat),n-i=m->i<=n->St i s->Ext h0 s.heap->Kx w h0 Sp s.heap S es ep t ks mm->(∀x,x∈ks↔∃j,j<i/\val j=x)->es.size<=i ->
   (∀s' es' ep' t' ks' mm',Moved (S::wr) G s s'->Kx w h0 Sp s'.heap S es' ep' t' ks' mm'->(∀x,x∈ks'↔∃j,j<n/\val j=x)->R (.ok (.ret .none)) s') ->
   MX (model P w) A (.builtin "set.update.loop" ⟨[.ref S,.ref I],[]⟩) R s:=by
 have nw:S ∉ wr:=λz=>hS (W.sub _ z);have up:∀b∈wr,b∈S::wr:=λb z=>Qf _ z;intro m
 induction m with
 | zero=>
   intro i s es ep t ks mm hm hi st X T hk _ k;obtain rfl:i=n:=by lia
   refine TY JO ?_;rw[ZW ZX _];refine Tj (W.done s _ _ st λs' mv=>Tk ?_);exact k s' es ep t ks mm (mv.mono up) (T.keep λo e=>mv.heap S o nw e) hk
 | succ m ih=>
   intro i s es ep t ks mm hm hi st X T hk hz k;have hlt:i<n:=by lia
   refine TY JO ?_;rw[ZW ZX _];refine Tj (W.item i s _ _ hlt st λv s' pv st' mv=>?_);obtain⟨b,as,rfl,hr,hsp⟩:=hval i v hlt pv;have T1:=T.keep λo e=>mv.heap S o nw e;have X1:Ext h0 s'.heap:=λb o e=>mv.heap b o (λz=>hn b o e (up b z)) (X b o e);have kp:zd1 h0 s'.heap:=λb o _ _ e _=>X1 b o e;refine Tj (m:=holding [QN b] (setAdd S (.ref b))) (TF ?_);unfold setAdd;have hvi:=hv i hlt;have hde:=hvi.de;refine TF (Tj (zjs 8 (val i) hvi.de hvi.ha _ _ _ _ _ _ (by show A.units+1+(val i).depth<cLine;lia) (hvi.keep kp hr) ?_));refine Kx.add (s:={ s' with toks:=s'.toks+dr (val i) }) T1 kp hvi hr hsp (by show A.units+1+8<cLine;lia) (by lia) λc h' es' ep' t' ks' m' sb T2 hk' hz'=>?_;have X2:Ext h0 h':=λb o e=>(sb.2 b (λz=>hn b o e (z ▸ Qp))).trans (X1 b o e);refine Tk ⟨M0 ZX _,ih (i+1) _ es' ep' t' ks' m' (by lia) hlt (W.frame _ s' _ _ st' (VI _ _) λb hb o e=>?_) X2 T2 (λx=>?_) (by lia) λs'' e2 p2 t2 k2 m2 mv2 T3 hk3=>?_⟩
   .rw[sb.2 b (λz:b=S=>hS (z ▸ hb))];exact e
   .rw[hk',hk];constructor
    .rintro(⟨j,h1,h2⟩|rfl)
     .exact⟨j,by lia,h2⟩
     .exact⟨i,by lia,rfl⟩
    .rintro⟨j,h1,h2⟩
     by_cases hj:j=i
     .subst hj;exact .inr h2.symm
     .exact .inl ⟨j,by lia,h2⟩
   .refine k s'' e2 p2 t2 k2 m2 (.trans W.gtrans ((mv.mono up).then_heap (VI _ _) λb o hb e=>?_) mv2) T3 hk3;rw[sb.2 b (λz:b=S=>hb (z ▸ Qp))];exact e
end
section
variable {P:Tr}{w:Tt}{A:Tv}{E:Tn->To->Prop}{s:To}{Sp:Addr->Tl->Prop}
theorem z5m(e:h.get? a=some (eObj w)):Kx w h0 Sp h a #[] 0 (.fresh 0 0 (!byT w)) [] 3 :=
 ⟨⟨⟨_,e,⟨rfl,rfl,rfl⟩,rfl⟩,by decide,rfl,rfl,λz=>absurd z (by decide)⟩,(λi e z=>by simp at z),rfl,(λk z=>(Q4 z).elim),V4,
   ⟨rfl,by decide,by decide,rfl,rfl,λi k _ z=>absurd z (JY _),λi z=>absurd z (JY _),QE _,(λi h z=>by simp at z)⟩,rfl,λ_ k z=>(Q4 z).elim⟩
theorem zsp{n:Nat}{val:Nat->Tl}(hh:A.handled=none)(hT:∀s₁:To,Ext s.heap s₁.heap->s₁.TypeIs v T)
 (h1:Nq (.type T) (.type "set")=pure false) (h2:Nq (.type T) (.type "frozenset")=pure false) (h3:(Zp T == Zp "dict")=false) (src:Src P w s.heap v n Pv)
 (hv:∀i,i<n->TupK (val i)) (hval:∀i v,i<n->Pv i v->∃b as,v = .ref b/\TV s.heap (.ref b) (val i) as/\Sp b (val i)) (hu:A.units+64<cLine) (hb:n<999)
 (k:∀h' tk es ep t ks m,Kx w s.heap Sp h' s.heap.objs.size es ep t ks m->(∀x,x∈ks↔∃j,j<n/\val j=x)->Ext s.heap h'->Q (.ref s.heap.objs.size) { s with heap:=h',toks:=tk }) :
 wpAny (model P w) A (call (.type "set") [v]) Q E s:=by
 obtain⟨c,tl,hmro⟩:=ZG.mro;have hmade:=ZG.made;have hsub:=ZG.sub;refine je (NC ?_);show wpAny _ _ (callAny (.type "set") _) _ _ _;refine Tk ⟨UI _ (by decide +kernel),TY UU ?_⟩;rw[UJ (NE "set" [v] []) rfl];have c1:=ZG.notType;have c2:=ZG.canCreate;have c3:=Gs v
 repeat (any_goals (first|assumption|wp_step))
 refine Mw (zo3 v (E:=E) (Q:=λr s₁=>r = .ref s.heap.objs.size/\s₁ = { s with heap:=s.heap.push (eObj w) }) ⟨rfl,rfl⟩) λr s₁ hr=>?_
 cases r with
 | error e=>exact hr
 | ok fl=>
   cases fl with
   | ret obj=>
     obtain⟨rfl,rfl⟩:=hr;have eS:(s.heap.push (eObj w)).get? s.heap.objs.size=some (eObj w):=Qm _ rfl;have hS:Ys { s with heap:=s.heap.push (eObj w) } (.ref s.heap.objs.size) "set" := ⟨_,eS,rfl⟩;have c4:=ZG.init.lookup;have c5:=ZG.init.bind (.ref s.heap.objs.size)
     repeat (any_goals (first|assumption|wp_step))
     refine Mw (NJ (R:=wants (λr s₂=>r = .none/\∃h' tk es ep t ks m,s₂ = { s with heap:=h',toks:=tk }/\Kx w s.heap Sp h' s.heap.objs.size es ep t ks m/\(∀x,x∈ks↔∃j,j<n/\val j=x)/\Ext s.heap h') E) ZG.init.plain Gu (check_set_init_1 hS ?_)) λr₂ s₂ hr₂=>?_
     .have e0:Ext s.heap (s.heap.push (eObj w)):=λb o e=>Qe _ e;have hTv:=hT { s with heap:=s.heap.push (eObj w) } e0;unfold Builtin.«set.__init__» noKeywords YZ;generalize hPI:N8=PI
      wp_walk
      subst hPI;have lt0:s.heap.objs.size<(s.heap.push (eObj w)).objs.size:=by rw[QU];exact ZL _
      refine src _ _ _ _ (by simpa using hh) e0 λI h' fp St W st ex fpb hI=>?_;refine Tj (NT ?_)
      have nS:s.heap.objs.size ∉ fp:=λz=>by
       rcases fpb _ z with y|y
       .exact Zj _ y
       .exact absurd lt0 (Vu.mpr y)
      have hn:∀b o,s.heap.get? b=some o->b ∉ s.heap.objs.size :: [I]:=λb o e z=>by
       have hbl:=Qt e;rcases Qs.mp z with z|z
       .exact Q2 hbl z
       .rw[Qb.mp z] at hbl;exact absurd hbl (Vu.mpr (QY (JA lt0) hI))
      refine zy9 (W _ (by simpa using hh)).toS s.heap.objs.size nS s.heap hn val hv hval ?hu hb n 0 _ #[] 0 _ [] 3 rfl (QE _) st (λb o e=>ex b o (e0 b o e)) (z5m (ex _ _ eS)) (λx=>by simp) (Qh _) λs' es ep t ks m mv T hk=>?_
      case hu=>
       show A.units+1+1+9<cLine;lia
      obtain⟨h2,g2,d2,tk2,os2⟩:=s';obtain rfl:g2=s.gens:=mv.gens;obtain rfl:d2=s.drawn:=mv.drawn;obtain rfl:os2=s.os:=mv.os;show wpAny _ _ _ _ _ _;refine Tk (Tk ⟨rfl,h2,tk2,es,ep,t,ks,m,rfl,T,hk,λb o e=>mv.heap b o (hn b o e) (ex b o (e0 b o e))⟩)
     .cases r₂ with
      | error e=>exact hr₂
      | ok fl₂=>
        cases fl₂ with
        | ret r=>
          obtain⟨rfl,h',tk,es,ep,t,ks,m,rfl,T,hk,ex⟩:=hr₂
          repeat (any_goals (first|assumption|wp_step))
          exact k _ _ _ _ _ _ _ T hk ex
        | _=>exact hr₂.elim
   | _=>exact hr.elim
end
end HK
namespace HK
open PySem PySem.Spec PyProof.Rows SX TB L6
section
variable {prog:Tr}{w:Tt}{A:Tv}{E:Tn->To->Prop}{s:To}
abbrev zeu(h:Heap)(a:Addr)(vs:List Tn):Heap:=((h.update a (QF λ_=>#[])).push (seqObj "tuple" vs.toArray 0)).push (seqObj "list" #[] 0)
theorem perm_map_inv{α β:Type}{f:α->β}:∀{vs:List β} {l:List α},vs.Perm (l.map f)->∃l':List α,l'.Perm l/\l'.map f=vs
 | [],l,h=>by
   have:=h.length_eq;simp at this;exact⟨[],by rw[VE.mp this.symm],rfl⟩
 | v::vs,l,h=>by
   obtain⟨x,hx,rfl⟩:=Q0.mp (h.mem_iff.mp (Qp));obtain⟨l1,l2,rfl⟩:=List.append_of_mem hx;rw[Q7,Qu] at h;have h':=(h.trans VH).cons_inv;rw[<- Q7] at h';obtain⟨l',a,b⟩:=perm_map_inv h';exact⟨x::l',(a.cons x).trans VH.symm,by rw[Qu,b]⟩
theorem zmg{R:(Int×Tn)->Addr->Tl->Prop}(hR:∀e b k,R e b k->e.2 = .ref b):∀(l:List (Int×Tn)) (ks:List Tl),ks.length=l.length->(∀(i:Nat) e,l[i]? = some e->∃k b,ks[i]? = some k/\R e b k)->∃ps:List (Addr×Tl),(ps.map λp=>QN p.1)=l.map (·.2)/\ps.map (·.2)=ks/\∀p∈ps,∃e∈l,R e p.1 p.2
 | [],[],_,_=>⟨[],rfl,rfl,λp z=>(Q4 z).elim⟩
 | [],_::_,h,_=>by simp at h
 | _::_,[],h,_=>by simp at h
 | e::l,k::ks,h,g=>by
   obtain⟨k',b,e1,r⟩:=g 0 e rfl;cases e1;obtain⟨ps,a1,a2,a3⟩:=zmg hR l ks (by simpa using h) λi e' he=>g (i+1) e' (by simpa using he);refine⟨(b,k)::ps,by simp[a1,hR e b k r],by simp[a2],λp hp=>?_⟩;rcases Qs.mp hp with rfl|hp
   .exact⟨e,by simp,r⟩
   .obtain⟨e',h1,h2⟩:=a3 p hp;exact⟨e',Qf _ h1,h2⟩
end
end HK
namespace L3
open PySem PySem.Spec
open PyProof.Rows hiding St
open L2 SX HK
theorem zg5:∀(qs:List (Addr×Tl)),Vals (qs.map λq=>V.ref q.1) (qs.map λq=>QN q.1)
 | []=>.nil
 | b::bs=>.cons rfl (zg5 bs)
theorem zh9{K:Qa}{F:Addr->Prop}{H:Hp}:∀{qs:List (Addr×Tl)},(∀q∈qs,Is K F H (.ref q.1) q.2)->IsAll K F H (qs.map λq=>V.ref q.1) (qs.map (·.2))
 | [],_=>.nil
 | q::qs,h=>.cons (h q (by simp)) (zh9 λr z=>h r (Qf _ z))
section
variable {K:Qa}{O:Ob}
def putS(n:Nat)(fv fi:DE):DS:=λDd ρ=>fv ρ λr=>∃ds:List Tl,ρ[n]? = some (some (.own ds))/\fi ρ λri=>∃k:Nat,ri.d = .int (k:Nat)/\k<ds.length/\flat r.d=true/\Dd.nx (ρ.set n (some (.own (ds.set k r.d))))
theorem z1v{n k:Nat}(h:k<n):ixN n (k:Int)=some k:=by
 unfold ixN;simp;lia
theorem zkz: ∀{xs:List V} {ds:List Tl} (k:Nat) {v:V} {d:Tl},IsAll K F H xs ds->Is K F H v d->IsAll K F H (xs.set k v) (ds.set k d)
 | [],_,k,_,_,.nil,_=>.nil
 | _::_,_,0,_,_,.cons _ t,i=>.cons i t
 | _::_,_,k+1,_,_,.cons r t,i=>.cons r (zkz k t i)
theorem z5s{n:Nat}(hv:ED K O tv fv)(hi:ED K O ti fi):SD K O (tAsg tv (gSub (tVar n) ti zrf)) (putS n fv fi):=λH₀ A σ H ρ D Dd r q P=>by
 refine hv σ H ρ _ _ r.seen q λw H1 x s1 o1 zz=>?_;obtain⟨ds,e,q1⟩:=zz;have r1:=r.stp s1;obtain⟨v,hv',a,xs,rfl,ha,hl,hs⟩:=r1.at_ n _ e;refine⟨_,hv',?_⟩;refine hi σ H1 ρ _ _ r1.seen q1 λz H2 y s2 o2 zz=>?_;obtain⟨k,ek,hk,fl,q2⟩:=zz;have r2:=r1.stp s2;obtain⟨v2,hv2,a2,xs2,e2,ha2,hl2,hs2⟩:=r2.at_ n _ e;rw[hv'] at hv2;cases hv2;cases e2;have iz:=o2.is r1.ok r1.p;rw[ek] at iz;cases iz;refine⟨a,xs2,k,k,rfl,rfl,hl2,z1v (by rw[hs2.length];exact hk),?_⟩;have iw:Is K (unO O A) H2 w x.d:=Is.flat s2.t (o1.is r.ok r.p) fl;exact P.nx A σ _ _ (r2.change e hv' ha (zkz k hs2 iw)) ((Frm.stp (s1.trans s2)).trans (.change ha)) q2
end
section
variable {ι κ:Type}{P:Tr}{w:Tt}{K:Qa}{mg:Str->Option Tn}{base:Heap}{k:Nat}{X:ι->Cx}{O:κ->Ob}{a b:Expr}{fa fb:DE}{pos p:Pos}
theorem zl2(n:Nat)(C:Ctx3 P w K mg base k X)(hv:E3 K X O a fa)(hi:E3 K X O b fb)(hN:∀i,(X i).N[n]? = some x:=by intro i;rfl)(hvx:∀i,Vis (X i).env.scope x:=by intro i;first|exact Or.inl rfl|exact Or.inr (Or.inl rfl)|exact Or.inr (Or.inr rfl))(hd:(x == ("__debug__" : Str))=false:=by decide)(hcd:(x == ("__classdict__" : Str))=false:=by decide)
 (has:∀i v,MZ (.Subscript (.Name x px) b tp) (X i).env v=(do
  let ov <- holding [v] (eval (.Name x px) (X i).env)
  let iv <- holding [v,ov] (eval b (X i).env)
  standAt tp
  holding [v,ov,iv] (setItem ov iv v)
  release [v,ov,iv] []):=by intro _ _;rfl)
 (hs:∀i,MA [.Subscript (.Name x px) b tp] a pos.line (X i).env=pure false:=by intro i;rfl) (hw:∀i,M9 [.Subscript (.Name x px) b tp] a (X i).env=pure none:=by intro i;rfl) (h1:∀i,(Ma [.Subscript (.Name x px) b tp] (X i).env).map (·.2) = [MZ (.Subscript (.Name x px) b tp) (X i).env]:=by intro i;rfl) :
 S3 K X O (.Assign [.Subscript (.Name x px) b tp] a pos) (putS n fa fb):=let ⟨_,p1,d1⟩:=hv;let ⟨_,p2,d2⟩:=hi;
 ⟨tAsg _ (gSub (tVar n) _ zrf),λi=>zty (p1 i) (z5g (zam (pos:=px) (hN i) (hvx i) hd hcd) (p2 i) zwp (has i)) (hs i) (hw i) (h1 i),λj=>z5s (d1 j) (d2 j)⟩
end
theorem zud{α:Type}{f:α->Tl}{us:List α}{u:α}:idxF (.list ((us ++ [u]).map f)) (.int (-1))=some (.o (f u)):=by
 have hix:ixN (us.length+1) (-1)=some us.length:=by
  unfold ixN;simp;lia
 show(atI _ _).map R.o=_;unfold atI;rw[Qc,Qq,QA,hix];simp
end L3
namespace HK
open PySem PySem.Spec PyProof.Rows PySem.SetTable SX TB
noncomputable instance:DecidableEq Tl:=λa b=>Classical.propDecidable (a=b)
structure DKey(k:Tl):Prop where
 tu:∃ds,k = .tuple ds
 ha:hk k=true
 la:k.canLay0=true
 de:k.depth<=8
theorem zg1{n:Nat}(ih:∀d:Tl,d.depth<=n->hk d=true->∀(e:Tl) v as bs,hk e=true->TV h v d as->TV h v e bs->d=e):∀{vs:List Tn} {ds es:List Tl} {as bs:List Addr},(∀d∈ds,d.depth<=n)->hks ds=true->hks es=true->Mf h vs ds as->Mf h vs es bs->ds=es
 | [],_,_,_,_,_,_,_,r,r'=>by cases r;cases r';rfl
 | v::vs,_,_,_,_,hd,h1,h2,r,r'=>by
   cases r with
   | cons r1 r2=>
     cases r' with
     | cons r3 r4=>
       simp only[hks,Qx] at h1 h2;rw[ih _ (hd _ (by simp)) h1.1 _ _ _ _ h2.1 r1 r3,zg1 ih (λd z=>hd d (Qf _ z)) h1.2 h2.2 r2 r4]
theorem ztb: ∀(n:Nat) (d:Tl),d.depth<=n->hk d=true->∀(e:Tl) v as bs,hk e=true->TV h v d as->TV h v e bs->d=e:=by
 intro n
 induction n with
 | zero=>
   intro d hd hk' e v as bs he r r'
   cases r with
   | int i t=>cases r';rfl
   | str x t=>cases r';rfl
   | tuple _ _ _ _=>simp[QO] at hd
   | _=>simp[hk] at hk'
 | succ n ih=>
   intro d hd hk' e v as bs he r r'
   cases r with
   | int i t=>cases r';rfl
   | str x t=>cases r';rfl
   | @tuple a o vs c ds as ho hc hdt hr=>
     have hds:hks ds=true:=by simpa[hk] using hk'
     rw[QO] at hd
     cases r' with
     | @tuple _ o' vs' c' es bs ho' hc' hdt' hr'=>
       obtain rfl:o=o':=Zi (ho.symm.trans ho');rw[hdt] at hdt';injection hdt' with h1 _;subst h1;have hes:hks es=true:=by simpa[hk] using he
       rw[zg1 ih (λd z=>by have:=zdm z;lia) hds hes hr hr']
     | list _ _ _ _=>simp[hk] at he
     | dict _ _ _ _ _=>simp[hk] at he
   | _=>simp[hk] at hk'
theorem znt(h:DKey k)(h':DKey k'):QC k k'=true↔k=k':=L3.eqv_solid k k' (zc4 k h.ha) (zc4 k' h'.ha)
noncomputable def dataKind(P:Tr)(w:Tt):HeapKind P w Tl where
 is h k a:=DKey k/\∃as,TV h (.ref a) k as
 hash:=hD w
 draws:=dr
 room A:=A.units+16<cLine
 inj:=λ⟨h1,_,r1⟩ ⟨h2,_,r2⟩=>ztb 8 _ h1.de h1.ha _ _ _ _ h2.ha r1 r2
 keeps:=by
  rintro h h' k a d o es ep ⟨hk',as,r⟩ ho hd sb;refine⟨hk',as,zje (λb o' xs n e dt=>?_) 8 k hk'.de hk'.ha _ _ r⟩
  have ne:b≠d:=by
   rintro rfl;rw[ho] at e;cases e;rw[hd] at dt;exact nomatch dt
  exact(sb.2 b ne).trans e
 pyHash:=λhr ⟨hk',as,r⟩ q=>zjs 8 _ hk'.de hk'.ha _ _ _ _ _ _ (by have:=hk'.de;lia) r q
 eqBool:=by
  rintro A E s x y a b Q hr ⟨hx,as,rx⟩ ⟨hy,bs,ry⟩ q;refine YX _ _ _ _ _ _ _ x y _ _ _ rx ry hx.la hy.la (by have:=hy.de;have:=hx.de;lia) ?_
  have e:decide (x=y)=QC x y:=by
   by_cases z:x=y
   .rw[j9 z,(znt hx hy).mpr z]
   .rw[jA z];cases h:QC x y
    .rfl
    .exact absurd ((znt hx hy).mp h) z
  rw[<- e];exact q
 quiet:=λ⟨hk',as,r⟩ q=>ze6 8 _ hk'.de hk'.ha _ _ _ _ _ _ r q
end HK
namespace L3
open PySem PySem.Spec
open PyProof.Rows hiding St
open L2
def DdOk(w:Tt)(ks:List Tl)(a:Addr)(xs:List V)(h:Heap):Prop :=
 (a == Mc)=false/\ks.length<=sizeLine/\ks.Nodup/\(∀k∈ks,HK.DKey k)/\∃zs:List (Tl×Addr×Tn),zs.map (·.1)=ks/\Vals xs (zs.map (λz=>QN z.2.1)++zs.map (λz=>z.2.2)) /\
  ∃o es ep,h.get? a=some o/\o.ExactDict/\o.data = .dict es ep/\es.toList=zs.map λz=>(⟨HK.hD w z.1,.ref z.2.1,z.2.2⟩:NV)
def ddO(w:Tt)(ks:List Tl)(a:Addr)(xs:List V):HO:=.ext (DdOk w ks a xs)
theorem zpb{w:Tt}: OwnO (ddO w ks a xs):=.ext
theorem zx9{w:Tt}(x:DdOk w' ks a xs h):ObjOk P w H h a (ddO w' ks a xs):=by
 obtain⟨h1,h2,h3,h4,zs,h5,h6,o,es,ep,h7,h8⟩:=id x;refine⟨x,⟨o,h7⟩,λg1 g2 y e=>?_⟩;obtain⟨h1,h2,h3,h4,zs,h5,h6,o,es,ep,h7,h8⟩:=y;exact⟨h1,h2,h3,h4,zs,h5,h6,o,es,ep,e _ h7,h8⟩
theorem zgu: ∀{us:List Tn} {ds:List Tl} {as:List Addr} {i:Nat} {u:Tn},Mf h us ds as->us[i]? = some u->∃d bs,ds[i]? = some d/\TV h u d bs
 | _::_,_,_,0,_,.cons r _,e=>by cases e;exact⟨_,_,rfl,r⟩
 | _::_,_,_,i+1,_,.cons _ t,e=>by
   obtain⟨d,bs,h1,h2⟩:=zgu (i:=i) t (by simpa using e);exact⟨d,bs,by simpa using h1,h2⟩
section
variable {X:Cx}{pins:List (Addr×Obj)}{σ:St}{H:Hp}{s:To}{a:Addr}{ks vs:List Tl}{xs:List V}{F:Addr->Prop}
theorem zy1(I:Inv X pins σ H s)(e:H a=some (ddO X.w ks a xs))(is:IsAll X.K F H xs (ks++vs)):(a == Mc)=false/\ks.length<=sizeLine/\ks.Nodup/\(∀k∈ks,HK.DKey k) /\
 ∃zs:List (Tl×Addr×Tn),zs.map (·.1)=ks/\Vals xs (zs.map (λz=>QN z.2.1)++zs.map (λz=>z.2.2))/\s.heap.DictOfH (HK.dataKind X.prog X.w) a zs:=by
 obtain⟨h1,h2,h3,h4,zs,h5,h6,o,es,ep,h7,h8,h9,h10⟩:=(show ObjOk X.prog X.w H s.heap a (ddO X.w ks a xs) from I.hok a _ e).1;refine⟨h1,h2,h3,h4,zs,h5,h6,o,es,ep,h7,h8,h9,h10,λz hz=>?_,by rw[h5];exact h3⟩;obtain⟨as,ra⟩:=IsAll.reads I is h6;obtain⟨i,hi⟩:=QQ.mp hz;have il:i<zs.length:=(Qi.mp hi).1;obtain⟨d,bs,hd,r⟩:=zgu (i:=i) (u:=.ref z.2.1) ra (by rw[Zr (by simpa using il),Qj,hi];rfl);have hk:ks[i]? = some z.1:=by rw[<- h5,Qj,hi];rfl
 rw[Zr (by rw[<- h5];simpa using il),hk] at hd;cases hd;exact⟨h4 _ (Qn hk),bs,r⟩
theorem z2j(I:Inv X pins σ H s)(hk:HK.DKey k)(is:Is X.K F H y k)(ry:RelV y u):∃b,y = .ref b/\u = .ref b/\(HK.dataKind X.prog X.w).is s.heap k b:=by
 obtain⟨as,r⟩:=Is.reads I is ry;obtain⟨ds,e⟩:=hk.tu;subst e
 cases is with
 | tuple q rs=>
   cases ry;exact⟨_,rfl,rfl,hk,as,r⟩
theorem zsw(h5:zs.map (·.1)=ks)(nd:ks.Nodup){i:Nat}(hi:ks[i]? = some k):∃p,zs[i]? = some (k,p)/\No zs k=some p:=by
 rw[<- h5,Qj] at hi;obtain⟨⟨k',p⟩,hz,rfl⟩:=Qw.mp hi;exact⟨p,hz,atKey_of_get (by rw[h5];exact nd) hz⟩
theorem zmf(h5:zs.map (·.1)=ks)(nd:ks.Nodup): (No zs k).isSome=decide (k∈ks):=by
 by_cases h:k∈ks
 .obtain⟨i,hi⟩:=QQ.mp h;obtain⟨p,_,e⟩:=zsw h5 nd hi;rw[e,j9 h];rfl
 .rw[jA h,atKey_none_of_get λj p e=>h ?_]
  .rfl
  .rw[<- h5];exact Q0.mpr ⟨_,Qn e,rfl⟩
end
def ztm(w:Tt):TE:=λ_ H Q=>∀p,H p=none->Q (.ref p) (upd H p (ddO w [] p []))
section
variable {X:Cx}{o i e value:Expr}{pos pos':Pos}{td ty tv:TE}
theorem zv5:PE X (.Dict [] [] pos) (ztm X.w):=λpins s σ H Q I h=>
 wpAny_Dict_empty ⟨.ref s.heap.objs.size,_,I.laid (a:=s.heap.objs.size) (o:=ddO X.w [] s.heap.objs.size []) (t':=s.toks) (λ_ _ q=>Qe _ q) (Qh _)
  (zx9 ⟨beq_eq_false_iff_ne.mpr (ZA (Q2 I.big)),QE _,List.nodup_nil,λ_ z=>(nomatch z),[],rfl,(show Vals [] [] from .nil),_,#[],0,Qm _ rfl,⟨rfl,rfl,rfl⟩,rfl,rfl⟩),rfl,h _ (I.hok.fresh (Qh _))⟩
end
section
variable {K:Qa}{O:Ob}{H₀ H H':Hp}{A:Nat->Addr->Prop}{σ:St}{ρ:DSt}
theorem Rep.setGen{i:Nat}(r:Rep K O H₀ A H σ ρ)(s:Stp O H H')(hn:H a=Yk)(hl:H' a=some (f a xs))(ho:OwnO (f a xs))(hf:IsAll K (unM O) H' xs ds)(fl:flats ds=true):
 Rep K O H₀ (λj b=>(j≠i/\A j b)\/(j=i/\b=a)) H' (σ.set i (some (.ref a))) (ρ.set i (some (.gen f ds))) :=
 r.setX (W:=λb=>b=a) s (λ_ _ e _=>e) (λb e=>by subst e;exact⟨.inr hn,_,hl,ho⟩) ⟨a,xs,rfl,.inr ⟨rfl,rfl⟩,hl,IsAll.flats (TupStay.refl H') hf fl⟩
theorem Rep.changeG{i:Nat}(r:Rep K O H₀ A H σ ρ)(e:ρ[i]? = some (some (.gen f ds)))(hv:σ[i]? = some (some (.ref a)))(ha:A i a)(ho:OwnO (f' a ys))(hs:IsAll K (unO O A) H ys es):
 Rep K O H₀ A (upd H a (f' a ys)) σ (ρ.set i (some (.gen f' es))) :=
 r.changeX hv ha ho ⟨a,ys,rfl,ha,zak,r.up ha hs⟩
mutual
theorem zkp:∀d:Tl,HK.hk d=true->flat d=true
 | .int _,_=>rfl
 | .str _,_=>rfl
 | .tuple ds,h=>by rw[flat];exact zk5 ds (by simpa[HK.hk] using h)
 | .none,h=>by simp[HK.hk] at h
 | .bool _,h=>by simp[HK.hk] at h
 | .list _,h=>by simp[HK.hk] at h
 | .dict _,h=>by simp[HK.hk] at h
theorem zk5:∀ds:List Tl,HK.hks ds=true->flats ds=true
 | [],_=>rfl
 | d::ds,h=>by
   simp only[HK.hks,Qx] at h;rw[flats,zkp d h.1,zk5 ds h.2];rfl
end
def zst(w:Tt)(n:Nat):DS:=λDd ρ=>Dd.nx (ρ.set n (some (.gen (ddO w []) [])))
theorem zw7{w:Tt}{n:Nat}:SD K O (tAsg (ztm w) (zbb n)) (zst w n):=λH₀ A σ H ρ D Dd r q P=>by
 intro p hp;have st:Stp O H (upd H p (ddO w [] p [])):=.new r.ok hp _;exact P.nx _ _ _ _ (r.setGen (i:=n) (f:=ddO w []) (ds:=[]) st hp zak zpb .nil rfl) (.setOwn st hp) q
end
section
variable {ι κ:Type}{P:Tr}{w:Tt}{K:Qa}{mg:Str->Option Tn}{base:Heap}{k:Nat}{X:ι->Cx}{O:κ->Ob}{a b:Expr}{fa fb:DE}{pos p:Pos}
theorem zzf(n:Nat)(C:Ctx3 P w K mg base k X)(hN:∀i,(X i).N.Nodup:=by intro i;exact jB (by kernel_rfl))(hi:∀i,(X i).N[n]? = some x:=by intro i;rfl)(hx:∀i,Loc (X i).env.scope x:=by intro i;first|exact Or.inl rfl|exact Or.inr rfl)
 (hs:∀i,M1 (.Dict [] [] p3) (some (.Name x px)) pos.line (X i).env=pure false:=by intro i;rfl) (hf:∀i,(X i).fn x=true\/(X i).env.scope.names.lookup x=some .local:=by intro i;first|exact .inl rfl|exact .inr rfl) :
 S3 K X O (.Assign [.Name x px] (.Dict [] [] p3) pos) (zst w n) :=
 ⟨_,λi=>by
  have h:=zv5 (X:=X i) (pos:=p3);rw[C.hw] at h
  exact zdi (hN i) (hi i) (hx i) h (hs i) (hf i),λj=>zw7⟩
end
mutual
inductive Ow(K:Qa)(H:Hp):V->Tl->List Addr->Prop
 | leaf {v d}:flat d=true->Is K (λ_=>False) H v d->Ow K H v d []
 | list {a xs ds as}:H a=some (.lst xs)->OwAll K H xs ds as->Ow K H (.ref a) (.list ds) (a::as)
 | tuple {a xs ds as}:H a=some (.tup xs)->OwAll K H xs ds as->Ow K H (.ref a) (.tuple ds) as
inductive OwAll(K:Qa)(H:Hp):List V->List Tl->List Addr->Prop
 | nil:OwAll K H [] [] []
 | cons {v vs d ds as bs}:Ow K H v d as->OwAll K H vs ds bs->OwAll K H (v::vs) (d::ds) (as++bs)
end
section
variable {K:Qa}{O:Ob}{H₀ H H':Hp}{A:Nat->Addr->Prop}{σ:St}{ρ:DSt}
theorem zxs(ok:O.Ok)(p:O.P H)(h:H a=Yk):¬O.M a:=λm=>by obtain⟨o,z⟩:=ok.here H a p m;rw[h] at z;cases z
end
section
variable {prog:Tr}{w:Tt}{A:Tv}{E:Tn->To->Prop}{s:To}
theorem zp6{i:Nat}(st:s.heap.IsTupleIter it t i)(tp:s.heap.IsTuple t zs)(hv:zs[i]? = some x)(k:∀h',h'.IsTupleIter it t (i+1)->Zk it s.heap h'->Q x { s with heap:=h' }):
 wpAny (model prog w) A (QW (.ref it)) Q E s:=by
 obtain⟨o,eo,co,dv⟩:=id st;obtain⟨u,eu,_,m,du⟩:=tp;unfold QW;refine Tj (TC (name:=QS "__next__") st.typeIs J4 (Tw J4 st.typeIs Vp ?_ (Va _)));refine Tj (m:=NL (.ref it) 0) (TJ eo dv (x:=.ref t) rfl ?_);have ne:¬((QN t == ZP)=true):=Q8;show wpAny _ _ (if(QN t == ZP)=true then _ else _) _ _ s;rw[j8 ne];refine Tj (m:=NL (.ref it) 1) (TJ eo dv (x:=.int i 0) rfl ?_);refine Tj (m:=seqItems? (.ref t)) (TR eu du ?_);simp only[YF,hv];refine Tj (Ng eo dv (by simp) (Tk ⟨x,rfl,Tk (k _ ⟨_,Zo _ eo (Uh (Y0 dv _)),(Gi ..).trans co,?_⟩ (Jg ..))⟩));rw[Y0 dv];simp[ME]
theorem zoj(hh:A.in1.handled=none)(k:∀h' e,(∀c o,s.heap.get? c=some o->h'.get? c=some o)->(∃o,h'.get? e=some o/\o.cls = .type "StopIteration")->E (.ref e) { s with heap:=h' }):
 wpAny (model prog w) A.in1 (newExc (.type "StopIteration") []) (λa s'=>wpAny (model prog w) A.in1 (jk a) Q E s') E s:=by
 simp only[newExc,j3];refine Tj (Tz ?_ (by size_fits));refine Tj (m:=M5 _ _) (Mg (a:=ZP) (by simp only[M5];rfl) (Tz ?_ (by size_fits)));simp only[jk];refine Tj (jb ?_);rw[hh];exact Tj (Tk (jx (k _ _ (λc o e=>Qe _ (Qe _ e)) ⟨_,Qm _ rfl,rfl⟩)))
theorem zss{i:Nat}(hh:A.handled=none)(st:s.heap.IsTupleIter it t i)(tp:s.heap.IsTuple t zs)(hv:zs[i]? = none)
 (k:∀h' e,Us it s.heap h'->(∃o,h'.get? e=some o/\o.cls = .type "StopIteration")->E (.ref e) { s with heap:=h' }):wpAny (model prog w) A (QW (.ref it)) Q E s:=by
 obtain⟨o,eo,co,dv⟩:=id st;obtain⟨u,eu,_,m,du⟩:=tp;unfold QW;refine Tj (TC (name:=QS "__next__") st.typeIs J4 (Tw J4 st.typeIs Vp ?_ (Va _)));refine Tj (m:=NL (.ref it) 0) (TJ eo dv (x:=.ref t) rfl ?_);have ne:¬((QN t == ZP)=true):=Q8;show wpAny _ _ (if(QN t == ZP)=true then _ else _) _ _ s;rw[j8 ne];refine Tj (m:=NL (.ref it) 1) (TJ eo dv (x:=.int i 0) rfl ?_);refine Tj (m:=seqItems? (.ref t)) (TR eu du ?_);simp only[YF,hv];refine Tj (TW (Tj (Ng eo dv (by simp) ?_)));refine Tj (zoj hh λh' e up ex=>?_);exact k h' e (λc o' cn q=>up c o' ((Jg ..).extBut c o' cn q)) ex
def SIt:Bool->Heap->Addr->Addr->Nat->Prop
 | true,h,it,l,k=>h.IsListIter it l k
 | false,h,it,l,k=>h.IsTupleIter it l k
def SSq:Bool->Heap->Addr->Array Tn->Prop
 | true,h,l,xs=>h.IsList l xs
 | false,h,l,xs=>h.IsTuple l xs
theorem SIt.at{b:Bool}{k:Nat}(S:SIt b h it l k)(up:∀o,h.get? it=some o->h'.get? it=some o):SIt b h' it l k:=by
 cases b
 .exact Heap.IsTupleIter.at S up
 .exact Heap.IsListIter.at S up
theorem SSq.at{b:Bool}(S:SSq b h l xs)(up:∀o,h.get? l=some o->h'.get? l=some o):SSq b h' l xs:=by
 cases b
 .exact Heap.IsTuple.at S up
 .exact Heap.IsList.at S up
theorem SIt.obj{b:Bool}{k:Nat}(S:SIt b h it l k):∃o,h.get? it=some o/\o.data = .fields #[.ref l,.int k 0]:=by
 cases b
 .obtain⟨o,e,_,f⟩:=S;exact⟨o,e,f⟩
 .obtain⟨o,e,_,f⟩:=S;exact⟨o,e,f⟩
theorem zku{b:Bool}{i:Nat}(st:SIt b s.heap it t i)(tp:SSq b s.heap t zs)(hv:zs[i]? = some x)(k:∀h',SIt b h' it t (i+1)->Zk it s.heap h'->Q x { s with heap:=h' }):
 wpAny (model prog w) A (QW (.ref it)) Q E s:=by
 cases b
 .exact zp6 st tp hv k
 .exact wpAny_nextOf_list_item st tp hv k
theorem zvd{b:Bool}{i:Nat}(hh:A.handled=none)(st:SIt b s.heap it t i)(tp:SSq b s.heap t zs)(hv:zs[i]? = none)
 (k:∀h' e,Us it s.heap h'->(∃o,h'.get? e=some o/\o.cls = .type "StopIteration")->E (.ref e) { s with heap:=h' }):wpAny (model prog w) A (QW (.ref it)) Q E s:=by
 cases b
 .exact zss hh st tp hv k
 .exact wpAny_nextOf_list_end hh st tp hv k
structure ZS(b1 b2:Bool)(h:Heap)(z p r i1 i2 l1 l2:Addr)(k:Nat)(xs ys:Array Tn)(out:Tn):Prop where
 zz:jt h z p r out
 pp:MR h p (.ref i1) (.ref i2)
 rr:∃a b,MR h r a b
 a1:SIt b1 h i1 l1 k
 a2:SIt b2 h i2 l2 k
 t1:SSq b1 h l1 xs
 t2:SSq b2 h l2 ys
theorem zz6{b1 b2:Bool}{z p r i1 i2 l1 l2:Addr}{k:Nat}{xs ys:Array Tn}{x y:Tn}{Q:Tn->To->Prop}(D:NH z p r i1 i2 l1 l2)(S:ZS b1 b2 s.heap z p r i1 i2 l1 l2 k xs ys .none)(hx:xs[k]? = some x)(hy:ys[k]? = some y)
 (q:∀h',ZS b1 b2 h' z p r i1 i2 l1 l2 (k+1) xs ys (ME s.heap.objs.size)->MR h' s.heap.objs.size x y->(∀c o,c≠z->c≠r->c≠i1->c≠i2->s.heap.get? c=some o->h'.get? c=some o)->Q (.ref s.heap.objs.size) { s with heap:=h' }) :
 wpAny (model prog w) A (Builtin.«zip.__next__» ⟨[.ref z],[]⟩) (λfin s'=>∃v,fin = .done (.ret v)/\Q v s') E s:=by
 obtain⟨Z,P,⟨a,b,R⟩,A1,A2,T1,T2⟩:=S;refine Tj (m:=NL (.ref z) 2) (TJ Z rfl (x:=.bool false) rfl ?_);refine Tj (m:=NL (.ref z) 3) (TJ Z rfl (x:=.ref p) rfl (Tj (TR P rfl ?_)));refine Tj (m:=Zv (.ref z)) ?_;unfold Zv;refine Tj (TJ Z rfl (x:=.none) rfl (Tk ?_));simp only[jE];refine Tj (TW (Tj (TJ Z rfl (x:=.ref r) rfl (Tj (Tu Z (by simp) λha Za sa=>?_)))))
 replace Za:jt ha z p r .ellipsis:=Za
 refine Tj ?_;simp only[Gw,GD,VX,Uk];have A1a:=A1.at λo e=>sa.extBut _ o D.i1z e;have A2a:=A2.at λo e=>sa.extBut _ o D.i2z e;refine Tj (Tj (MO (Tj (m:=QW (.ref i1)) (zku A1a (T1.at λo e=>sa.extBut _ o D.l1z e) hx λhb A1b sb=>Tk ?_))));have Rb:MR hb r a b:=sb.extBut _ _ D.TOi1 (sa.extBut _ _ D.TOz R);refine Tj (TR Rb rfl (Tj (MQ Rb λhc Rc sc=>?_)))
 replace Rc:MR hc r x b:=Rc
 refine Tj (Nj (Tk ?_));have A2c:=(A2a.at λo e=>sb.extBut _ o D.i12.symm e).at λo e=>sc.extBut _ o D.TOi2.symm e;have T2c:=((T2.at λo e=>sa.extBut _ o D.l2z e).at λo e=>sb.extBut _ o D.l2i1 e).at λo e=>sc.extBut _ o D.l2TO e;refine Tj (Tj (MO (Tj (m:=QW (.ref i2)) (zku A2c T2c hy λhd A2d sd=>Tk ?_))));have Rd:MR hd r x b:=sd.extBut _ _ D.TOi2 Rc;refine Tj (TR Rd rfl (Tj (MQ Rd λhe Re se=>?_)))
 replace Re:MR he r x y:=Re
 refine Tj (Nj (Tk (Tk (Tj (TR Re rfl (Tj (MK ?_)))))));have sz5:he.objs.size=s.heap.objs.size:=by rw[se.1,sd.1,sc.1,sb.1,sa.1]
 have up:∀c o,c≠z->c≠r->c≠i1->c≠i2->s.heap.get? c=some o->he.get? c=some o:=λc o n1 n2 n3 n4 e=>se.extBut _ _ n2 (sd.extBut _ _ n4 (sc.extBut _ _ n2 (sb.extBut _ _ n3 (sa.extBut _ _ n1 e))));have Ze:jt he z p r .ellipsis:=se.extBut _ _ D.TOz.symm (sd.extBut _ _ D.i2z.symm (sc.extBut _ _ D.TOz.symm (sb.extBut _ _ D.i1z.symm Za)));refine Tj (m:=ZR (.ref z) (.ref he.objs.size)) ?_;unfold ZR;have zl:=Qt Ze;refine Tj (Tu (Qe _ Ze) (by simp) λhf Zf sf=>?_)
 replace Zf:jt hf z p r (ME he.objs.size):=Zf
 refine Tu Zf (by simp) λhg Zg sg=>Tk ⟨_,rfl,?_⟩;have top:∀c o,c≠z->he.get? c=some o->hg.get? c=some o:=λc o n e=>sg.extBut _ _ n (sf.extBut _ _ n (Qe _ e));have pr:MR hg he.objs.size x y:=sg.extBut _ _ (Jz zl) (sf.extBut _ _ (Jz zl) (Qm _ rfl));show Q (.ref he.objs.size) _;rw[sz5] at pr Zg ⊢;refine q hg ⟨Zg,top _ _ D.TIz (up _ _ D.TIz D.TITO D.TIi1 D.TIi2 P),⟨x,y,top _ _ D.TOz Re⟩,?_,?_,T1.at λo e=>top _ o D.l1z (up _ o D.l1z D.l1TO D.l1i1 D.l1i2 e),T2.at λo e=>top _ o D.l2z (up _ o D.l2z D.l2TO D.l2i1 D.l2i2 e)⟩ pr λc o n1 n2 n3 n4 e=>top c o n1 (up c o n1 n2 n3 n4 e)
 .exact(((A1b.at λo e=>sc.extBut _ o D.TOi1.symm e).at λo e=>sd.extBut _ o D.i12 e).at λo e=>se.extBut _ o D.TOi1.symm e).at λo e=>top _ o D.i1z e
 .exact(A2d.at λo e=>se.extBut _ o D.TOi2.symm e).at λo e=>top _ o D.i2z e
theorem z3s{b1 b2:Bool}{k:Nat}(hh:A.handled=none)(D:NH z p r i1 i2 l1 l2)(S:ZS b1 b2 s.heap z p r i1 i2 l1 l2 k xs ys .none)(he:xs[k]? = none\/ys[k]? = none)
 (q:∀h' e,(∀c o,c≠z->c≠r->c≠i1->c≠i2->s.heap.get? c=some o->h'.get? c=some o)->(∃o,h'.get? e=some o/\o.cls = .type "StopIteration")->E (.ref e) { s with heap:=h' }) :
 wpAny (model prog w) A (Builtin.«zip.__next__» ⟨[.ref z],[]⟩) Q E s:=by
 obtain⟨Z,P,⟨a,b,R⟩,A1,A2,T1,T2⟩:=S;refine Tj (m:=NL (.ref z) 2) (TJ Z rfl (x:=.bool false) rfl ?_);refine Tj (m:=NL (.ref z) 3) (TJ Z rfl (x:=.ref p) rfl (Tj (TR P rfl ?_)));refine Tj (m:=Zv (.ref z)) ?_;unfold Zv;refine Tj (TJ Z rfl (x:=.none) rfl (Tk ?_));simp only[jE];refine Tj (TW (Tj (TJ Z rfl (x:=.ref r) rfl (Tj (Tu Z (by simp) λha Za sa=>?_)))))
 replace Za:jt ha z p r .ellipsis:=Za
 refine Tj ?_;simp only[Gw,GD,VX,Uk];have A1a:=A1.at λo e=>sa.extBut _ o D.i1z e;have A2a:=A2.at λo e=>sa.extBut _ o D.i2z e;have T1a:=T1.at λo e=>sa.extBut _ o D.l1z e;have off:∀{hc:Heap} {e:Addr} {oe:Obj},jt hc z p r .ellipsis->hc.get? e=some oe->oe.cls = .type "StopIteration" -> e≠z:=λZc g c x=>by subst x;rw[Zc] at g;cases g;simp at c
 cases hx:xs[k]? with
 | none=>
   refine Tj (Tj (MO (Tj (m:=QW (.ref i1)) (zvd hh A1a T1a hx λhb e sb zz=>?_))));obtain⟨oe,ge,ce⟩:=zz;have Zb:jt hb z p r .ellipsis:=sb _ _ D.i1z.symm Za;exact Tu Zb (by simp) λhc _ sc=>q hc e (λc o n1 _ n3 _ g=>sc.extBut _ _ n1 (sb _ _ n3 (sa.extBut _ _ n1 g))) ⟨oe,sc.extBut _ _ (off Zb ge ce) ge,ce⟩
 | some x=>
   have hy:ys[k]? = none:=he.resolve_left λz=>by rw[hx] at z;cases z
   refine Tj (Tj (MO (Tj (m:=QW (.ref i1)) (zku A1a T1a hx λhb A1b sb=>Tk ?_))));have Rb:MR hb r a b:=sb.extBut _ _ D.TOi1 (sa.extBut _ _ D.TOz R);refine Tj (TR Rb rfl (Tj (MQ Rb λhc Rc sc=>?_)));refine Tj (Nj (Tk ?_));have A2c:=(A2a.at λo e=>sb.extBut _ o D.i12.symm e).at λo e=>sc.extBut _ o D.TOi2.symm e;have T2c:=((T2.at λo e=>sa.extBut _ o D.l2z e).at λo e=>sb.extBut _ o D.l2i1 e).at λo e=>sc.extBut _ o D.l2TO e;refine Tj (Tj (MO (Tj (m:=QW (.ref i2)) (zvd hh A2c T2c hy λhd e sd zz=>?_))));obtain⟨oe,ge,ce⟩:=zz;have Zd:jt hd z p r .ellipsis:=sd _ _ D.i2z.symm (sc.extBut _ _ D.TOz.symm (sb.extBut _ _ D.i1z.symm Za));exact Tu Zd (by simp) λhf _ sf=>q hf e (λc o n1 n2 n3 n4 g=>sf.extBut _ _ n1 (sd _ _ n4 (sc.extBut _ _ n2 (sb.extBut _ _ n3 (sa.extBut _ _ n1 g))))) ⟨oe,sf.extBut _ _ (off Zd ge ce) ge,ce⟩
theorem z2d{b1 b2:Bool}{k:Nat}(D:NH z p r i1 i2 l1 l2)(S:ZS b1 b2 s.heap z p r i1 i2 l1 l2 k xs ys .none)(hx:xs[k]? = some x)(hy:ys[k]? = some y)
 (q:∀h',ZS b1 b2 h' z p r i1 i2 l1 l2 (k+1) xs ys (ME s.heap.objs.size)->MR h' s.heap.objs.size x y->(∀c o,c≠z->c≠r->c≠i1->c≠i2->s.heap.get? c=some o->h'.get? c=some o)->Q (some (.ref s.heap.objs.size)) { s with heap:=h' }):wpAny (model prog w) A (M8 (.ref z)) Q E s:=by
 have T:s.TypeIs (.ref z) "zip" := ⟨_,S.zz,rfl⟩;unfold M8;exact Tj (Mk (TC (name:=QS "__next__") T Vb (Tw Vb T Gx (zz6 D S hx hy λh' a b c=>Tk (q h' a b c)) (Gj _))))
theorem zz9{b1 b2:Bool}{k:Nat}(hh:A.handled=none)(D:NH z p r i1 i2 l1 l2)(S:ZS b1 b2 s.heap z p r i1 i2 l1 l2 k xs ys .none)(he:xs[k]? = none\/ys[k]? = none)
 (q:∀h',(∀c o,c≠z->c≠r->c≠i1->c≠i2->s.heap.get? c=some o->h'.get? c=some o)->Q none { s with heap:=h' }):wpAny (model prog w) A (M8 (.ref z)) Q E s:=by
 have T:s.TypeIs (.ref z) "zip" := ⟨_,S.zz,rfl⟩;unfold M8;refine Tj (Mk (TC (name:=QS "__next__") T Vb (Tw Vb T Gx (z3s hh D S he λh' e up ⟨o,g,c⟩=>?_) (Gj _))));exact Tj (Md (T := "StopIteration") (b:=true) ⟨o,g,c⟩ Nd (Tk (q _ up)))
def itN:Bool->String
 | true=> "list_iterator"
 | false=> "tuple_iterator"
abbrev zq1(b1:Bool)(h:Heap)(l1:Addr):Heap:=h.push { cls:=.type (itN b1),data:=.fields #[.ref l1,.int 0 0] }
abbrev zq2(b1 b2:Bool)(h:Heap)(l1 l2:Addr):Heap:=(zq1 b1 h l1).push { cls:=.type (itN b2),data:=.fields #[.ref l2,.int 0 0] }
abbrev zq3(b1 b2:Bool)(h:Heap)(l1 l2:Addr):Heap:=(zq2 b1 b2 h l1 l2).push { cls:=.type "tuple",data:=.seq #[.ref h.objs.size,.ref (zq1 b1 h l1).objs.size] }
abbrev zq4(b1 b2:Bool)(h:Heap)(l1 l2:Addr):Heap:=(zq3 b1 b2 h l1 l2).push { cls:=.type "tuple",data:=.seq #[.none,.none] }
abbrev zq5(b1 b2:Bool)(h:Heap)(l1 l2:Addr):Heap:=(zq4 b1 b2 h l1 l2).push { cls:=.type "zip",data:=.fields #[.none,.bool false,.bool false,.ref (zq2 b1 b2 h l1 l2).objs.size,.ref (zq3 b1 b2 h l1 l2).objs.size] }
theorem z0b(b1 b2:Bool)(l1 l2:Addr)(xs ys:Array Tn):Meets (Builtin.«zip.__new__» ⟨[.type "zip",.ref l1,.ref l2],[]⟩) (λ_ R s=>SSq b1 s.heap l1 xs/\SSq b2 s.heap l2 ys/\R (.ok (.ret (.ref (zq4 b1 b2 s.heap l1 l2).objs.size))) { s with heap:=zq5 b1 b2 s.heap l1 l2 }) :=
 .of_wp λprog w A R s h=>by
  obtain⟨hp,g,d,tk,os⟩:=s;obtain⟨a1,a2,q⟩:=h;have sub:=sub_zip;have a3:SSq b2 (Ym ⟨zq1 b1 hp l1,g,d,tk,os⟩) l2 ys:=a2.at λo e=>Qe _ e;cases b1
  .replace a1:VS (Ym ⟨hp,g,d,tk,os⟩) l1 xs:=a1
   cases b2
   .replace a3:VS (Ym ⟨hp.push { cls:=.type "tuple_iterator",data:=.fields #[.ref l1,.int 0 0] },g,d,tk,os⟩) l2 ys:=a3
    wp_walk using Me a1,Me a3
    exact⟨_,rfl,q⟩
   .replace a3:G9 (Ym ⟨hp.push { cls:=.type "tuple_iterator",data:=.fields #[.ref l1,.int 0 0] },g,d,tk,os⟩) l2 ys:=a3
    wp_walk using Me a1,TX a3
    exact⟨_,rfl,q⟩
  .replace a1:G9 (Ym ⟨hp,g,d,tk,os⟩) l1 xs:=a1
   cases b2
   .replace a3:VS (Ym ⟨hp.push { cls:=.type "list_iterator",data:=.fields #[.ref l1,.int 0 0] },g,d,tk,os⟩) l2 ys:=a3
    wp_walk using TX a1,Me a3
    exact⟨_,rfl,q⟩
   .replace a3:G9 (Ym ⟨hp.push { cls:=.type "list_iterator",data:=.fields #[.ref l1,.int 0 0] },g,d,tk,os⟩) l2 ys:=a3
    wp_walk using TX a1,TX a3
    exact⟨_,rfl,q⟩
theorem z1u{b1 b2:Bool}(h1:SSq b1 s.heap l1 xs)(h2:SSq b2 s.heap l2 ys)
 (q:∀h',ZS b1 b2 h' (s.heap.objs.size+4) (s.heap.objs.size+2) (s.heap.objs.size+3) s.heap.objs.size (s.heap.objs.size+1) l1 l2 0 xs ys .none->(∀c o,s.heap.get? c=some o->h'.get? c=some o)->Q (.ref (s.heap.objs.size+4)) { s with heap:=h' }):wpAny (model prog w) A (call (.type "zip") [.ref l1,.ref l2]) Q E s:=by
 refine callType_new F.called_zip (by decide) (F.typeCall_zip_2 _ _) (F.newCall_zip_2 _ _) (λobj=>F.args_object_init_3 obj _ _) F.entry_zip_new (z0b b1 b2 l1 l2 xs ys) ⟨h1,h2,?_⟩;have n1:(zq1 b1 s.heap l1).objs.size=s.heap.objs.size+1:=QU ..;have n2:(zq2 b1 b2 s.heap l1 l2).objs.size=s.heap.objs.size+2:=by rw[QU,n1]
 have n3:(zq3 b1 b2 s.heap l1 l2).objs.size=s.heap.objs.size+3:=by rw[QU,n2]
 have n4:(zq4 b1 b2 s.heap l1 l2).objs.size=s.heap.objs.size+4:=by rw[QU,n3]
 have up:∀{h:Heap} {c:Addr} {o o':Obj},h.get? c=some o->(h.push o').get? c=some o:=λe=>Qe _ e;have e5:(zq5 b1 b2 s.heap l1 l2).get? (zq4 b1 b2 s.heap l1 l2).objs.size=some _:=Qm _ rfl;have e4:(zq5 b1 b2 s.heap l1 l2).get? (zq3 b1 b2 s.heap l1 l2).objs.size=some _:=up (Qm _ rfl);have e3:(zq5 b1 b2 s.heap l1 l2).get? (zq2 b1 b2 s.heap l1 l2).objs.size=some _:=up (up (Qm _ rfl));have e2:(zq5 b1 b2 s.heap l1 l2).get? (zq1 b1 s.heap l1).objs.size=some _:=up (up (up (Qm _ rfl)));have e1:(zq5 b1 b2 s.heap l1 l2).get? s.heap.objs.size=some _:=up (up (up (up (Qm _ rfl))));have all:∀c o,s.heap.get? c=some o->(zq5 b1 b2 s.heap l1 l2).get? c=some o:=λc o e=>up (up (up (up (up e))));show _/\_;rw[n2,n3,n4] at e5;rw[n1,n2] at e3;rw[n3] at e4;rw[n1] at e2;rw[n4];exact⟨⟨_,e5,rfl⟩,q _ ⟨e5,e3,⟨_,_,e4⟩,(by cases b1 <;> exact⟨_,e1,rfl,rfl⟩),(by cases b2 <;> exact⟨_,e2,rfl,rfl⟩),h1.at λo e=>all _ o e,h2.at λo e=>all _ o e⟩ all⟩
theorem zww(n l1 l2:Nat)(h1:l1<n)(h2:l2<n):NH (n+4) (n+2) (n+3) n (n+1) l1 l2:=by
 have ne:∀{a b:Nat},a<b\/b<a->(a:Addr)≠b:=λh e=>by rcases h with h|h <;> exact Zj _ (e ▸ h)
 constructor <;> (refine ne ?_;lia)
end
section
variable {X:Cx}{pins:List (Addr×Obj)}{σ:L2.St}{H:Hp}{s:To}{h':Heap}{t':Nat}
theorem zk0{fp:List Addr}(I:Inv X pins σ H s)(hf:∀b∈fp,FpOk X pins H b)(k:∀b o,b ∉ fp->s.heap.get? b=some o->h'.get? b=some o):Inv X pins σ H { s with heap:=h',toks:=t' }:=by
 have nit:∀b u,H b=some u->b ∉ fp:=λb u e z=>by rw[(hf b z).1] at e;cases e
 refine I.step (g':=s.gens) (d':=s.drawn) (ch:=fp) (λb hb=>let ⟨_,a,_,b,c,d⟩:=hf b hb;⟨b,a,c,d⟩) (λb o _ _ hc e _=>k b o hc e) (λb o _ _ hc e _=>⟨o.slots,k b o hc e⟩) (λ_ _ _ _ n=>n) (λb o hc e=>⟨o,k b o hc e⟩) (λ_ _ e=>e) (λ_ _ _ e=>e) (λb ps e=>⟨#[],by rw[e];simp⟩)
  (λm ⟨o,es,ep,ho,r⟩=>⟨o,es,ep,k _ o (λz=>(hf _ z).2.1 rfl) ho,r⟩) (λb u e=>(I.hok b u e).stay (λc v hc q=>k c v ?_ q) (λ_ q=>q) λ_ _ q=>q) I.bare
 rcases hc with z|z
 .rw[z];exact nit b u e
 .exact nit c _ z
theorem zlx{fp:List Addr}{a:Addr}{o:HO}(I:Inv X pins σ H s)(hf:∀b∈fp,FpOk X pins H b)(k:∀b o,b ∉ fp->s.heap.get? b=some o->h'.get? b=some o)(hp:s.heap.objs.size<=a)(new:ObjOk X.prog X.w (upd H a o) h' a o):Inv X pins σ (upd H a o) { s with heap:=h',toks:=t' }:=by
 have nit:∀b u,H b=some u->b ∉ fp:=λb u e z=>by rw[(hf b z).1] at e;cases e
 have hn:=I.hok.fresh hp;have na:∀b u,H b=some u->b≠a:=λb u e z=>by rw[z,hn] at e;cases e
 have nb:∀b (o:Obj),s.heap.get? b=some o->b≠a:=λb o e z=>Zj _ (QL (Qt e) (z ▸ hp))
 refine I.step (g':=s.gens) (d':=s.drawn) (ch:=fp) (λb hb=>let ⟨_,a,_,b,c,d⟩:=hf b hb;⟨b,a,c,d⟩) (λb o _ _ hc e _=>k b o hc e) (λb o _ _ hc e _=>⟨o.slots,k b o hc e⟩) (λb o _ e n=>by rw[zae (nb b o e)];exact n) (λb o hc e=>⟨o,k b o hc e⟩) (λb _ e=>by rw[zae (na b _ e)];exact e) (λb _ _ e=>by rw[zae (na b _ e)];exact e) (λb ps e=>⟨#[],by rw[zae (na b _ e),e];simp⟩)
  (λm ⟨o,es,ep,ho,r⟩=>⟨o,es,ep,k _ o (λz=>(hf _ z).2.1 rfl) ho,r⟩) (λb u e=>?_) I.bare
 by_cases hb:b=a
 .subst hb;rw[zak] at e;cases e;exact new
 .rw[zae hb] at e;refine(I.hok b u e).stay (λc v hc q=>k c v ?_ q) (λc q=>by rw[zae (na c _ q)];exact q) λc xs q=>by rw[zae (na c _ q)];exact q
  rcases hc with z|z
  .rw[z];exact nit b u e
  .exact nit c _ z
end
def SqS(K:Qa):Bool->Hp->Addr->List V->Prop
 | true,H,l,ys=>SqL K H l ys
 | false,H,l,ys=>SqT K H l ys
theorem Inv.sqs{pins:List (Addr×Obj)}{b:Bool}(I:Inv X pins σ H s)(h:SqS X.K b H l ys):∃vs:List Tn,Vals ys vs/\SSq b s.heap l vs.toArray/\ys.length<=sizeLine:=by
 cases b
 .obtain⟨vs,r,t,z⟩:=I.tuple h;exact⟨vs,r,t,z⟩
 .obtain⟨vs,r,t,z⟩:=I.list h;exact⟨vs,r,t.isList,z⟩
theorem Inv.sqs_inj{pins:List (Addr×Obj)}{b:Bool}(I:Inv X pins σ H s)(h:SqS X.K b H l xs)(h':SqS X.K b H l ys):xs=ys:=by
 cases b
 .exact I.tuple_inj h h'
 .exact I.list_inj h h'
def Itz(K:Qa)(b2:Bool)(l1 l2:Addr):It :=
 ⟨λi H=>∃xs ys x y,SqT K H l1 xs/\SqS K b2 H l2 ys/\xs[i]? = some x/\ys[i]? = some y,
  λi H x H'=>∃a u v,H a=none/\(∀xs,SqT K H l1 xs->xs[i]? = some u)/\(∀ys,SqS K b2 H l2 ys->ys[i]? = some v)/\x = .ref a/\H'=upd H a (.tup [u,v]),
  λi H=>∃xs ys,SqT K H l1 xs/\SqS K b2 H l2 ys/\(xs.length<=i\/ys.length<=i)⟩
structure ZO(b2:Bool)(h:Heap)(z p r i1 i2 l1 l2:Addr)(k:Nat):Prop where
 zz:jt h z p r .none
 pp:MR h p (.ref i1) (.ref i2)
 rr:∃a b,MR h r a b
 a1:h.IsTupleIter i1 l1 k
 a2:SIt b2 h i2 l2 k
theorem zwz{P:Tr}{w:Tt}{K:Qa}{elts:List Expr}{x1:Nat}{pos:Pos}(b2:Bool)(z p r i1 i2 l1 l2:Addr)(D:NH z p r i1 i2 l1 l2):
 Turn P w K (.Tuple elts x1 pos) (Itz K b2 l1 l2) [z,p,r,i1,i2] z (λi h=>ZO b2 h z p r i1 i2 l1 l2 i) where
 mem:=by simp
 obj:=λi h st b hb=>by
  obtain⟨a,c,⟨u,v,d⟩,⟨o1,e1,_,f1⟩,a2⟩:=st;obtain⟨o2,e2,f2⟩:=a2.obj;simp only[Qs,Q4,jH] at hb;rcases hb with rfl|rfl|rfl|rfl|rfl
  .exact⟨_,a,λv z=>by cases z⟩
  .exact⟨_,c,λv z=>by cases z⟩
  .exact⟨_,d,λv z=>by cases z⟩
  .exact⟨_,e1,λv z=>by rw[f1] at z;cases z⟩
  .exact⟨_,e2,λv z=>by rw[f2] at z;cases z⟩
 keep:=λi h h' st k=>by
  obtain⟨a,c,⟨u,v,d⟩,e,f⟩:=st;exact⟨k z (by simp) _ a,k p (by simp) _ c,⟨u,v,k r (by simp) _ d⟩,e.at λo g=>k i1 (by simp) o g,f.at λo g=>k i2 (by simp) o g⟩
 item:=by
  intro X hP hw hK hc i pins s σ H E I hf st hg;subst hP hw hK;obtain⟨xs,ys,x,y,q1,q2,hx,hy⟩:=hg;obtain⟨us,ru,tu,_⟩:=I.tuple q1;obtain⟨vs,rv,tv,_⟩:=Inv.sqs I q2;obtain⟨u,hu,ru⟩:=ru.get hx;obtain⟨v,hv,rv⟩:=rv.get hy;have S:ZS false b2 s.heap z p r i1 i2 l1 l2 i us.toArray vs.toArray .none:=⟨st.zz,st.pp,st.rr,st.a1,st.a2,tu,tv⟩
  have lt:∀b∈[z,p,r,i1,i2],b≠s.heap.objs.size:=λb hb e=>by
   have:b<s.heap.objs.size:=by
    obtain⟨o1,e1,_,_⟩:=st.a1;obtain⟨o2,e2,_⟩:=st.a2.obj;obtain⟨a,b',er⟩:=st.rr;simp only[Qs,Q4,jH] at hb;rcases hb with rfl|rfl|rfl|rfl|rfl
    .exact Qt st.zz
    .exact Qt st.pp
    .exact Qt er
    .exact Qt e1
    .exact Qt e2
   exact Zj _ (e ▸ this)
  refine z2d D S (x:=u) (y:=v) (by simpa using hu) (by simpa using hv) λh1 S1 hp up=>⟨_,rfl,?_⟩;refine wpAny_letOwnedTupleGo_zip S1.zz λh2 Z2 sb=>?_;have n0:=lt z (by simp)
  have up2:∀b o,b ∉ [z,p,r,i1,i2]->s.heap.get? b=some o->h2.get? b=some o:=λb o hb e=>by
   simp only[Qs,Q4,jH,not_or] at hb;exact(sb.2 b hb.1).trans (up b o hb.1 hb.2.2.1 hb.2.2.2.1 hb.2.2.2.2 e)
  have P2:MR h2 s.heap.objs.size u v:=(sb.2 _ (ZA n0)).trans hp;have sL:=Ts;refine⟨.ref s.heap.objs.size,_,zlx (s:=s) (t':=s.toks) I hf up2 (Qh _) (o:=.tup [x,y]) ⟨by show 2<=sizeLine;lia,[u,v],.cons ru (.cons rv .nil),⟨_,P2,rfl,_,rfl⟩⟩,rfl,⟨_,x,y,I.hok.fresh (Qh _),λzs hz=>by rw[I.tuple_inj hz q1];exact hx,λzs hz=>by rw[Inv.sqs_inj I hz q2];exact hy,rfl,rfl⟩,⟨Z2,(sb.2 p D.TIz).trans S1.pp,?_,S1.a1.at λo g=>(sb.2 i1 D.i1z).trans g,S1.a2.at λo g=>(sb.2 i2 D.i2z).trans g⟩,λb hb=>?_⟩
  .obtain⟨a,b,e⟩:=S1.rr;exact⟨a,b,(sb.2 r D.TOz).trans e⟩
  .rw[zae (lt b hb)];exact(hf b hb).1
 done:=by
  intro X hP hw hK hc i pins s σ H E I hf st hg;subst hP hw hK;obtain⟨xs,ys,q1,q2,hx⟩:=hg;obtain⟨us,ru,tu,_⟩:=I.tuple q1;obtain⟨vs,rv,tv,_⟩:=Inv.sqs I q2;have lu:=ru.length;have lv:=rv.length;have S:ZS false b2 s.heap z p r i1 i2 l1 l2 i us.toArray vs.toArray .none:=⟨st.zz,st.pp,st.rr,st.a1,st.a2,tu,tv⟩;refine zz9 (I.ok.hd hc) D S (hx.imp (λh=>by simp;lia) λh=>by simp;lia) λh1 up=>⟨rfl,zk0 (t':=s.toks) I hf λb o hb e=>?_⟩;simp only[Qs,Q4,jH,not_or] at hb;exact up b o hb.1 hb.2.2.1 hb.2.2.2.1 hb.2.2.2.2 e
 self:=λ_ _ _ _ _ st h=>wpAny_pyIter_zip st.zz h
def iZip(K:Qa)(t:TA):TI:=λσ H R=>t σ H λvs H1=>∃a b b2,vs = [.ref a,.ref b]/\(∃xs,SqT K H1 a xs)/\(∃ys,SqS K b2 H1 b ys)/\R (Itz K b2 a b) H1
theorem z2q:TK "zip" = some (.type "zip"):=by decide +kernel
theorem z3r{elts:List Expr}{x1:Nat}(gE:Gl X "zip")(mE:X.mg "zip" = none)(ha:PA X [a,b] ta)(hs:Tq [a,b] X.env=(false,eval a X.env)::Tq [b] X.env:=by rfl)(hp:(Mi p2 (Tq [b] X.env)).any (·.1)=false:=by rfl):PI X (.Tuple elts x1 pos) (.Call (.Name "zip" p1) [a,b] [] p2) (iZip X.K ta):=by
 intro pins s σ H R I h;refine Call_ (zcf I gE mE z2q (Zs (thn (ha p2 pins s σ H _ I h) λus s1 zz=>?_) hs hp));obtain⟨vs,H1,I1,r1,q1⟩:=zz;obtain⟨a,b,b2,e,⟨xs,qa⟩,⟨ys,qb⟩,q⟩:=q1;subst e;obtain⟨u,v,rfl,ru,rv⟩:=Vals.two r1;obtain rfl:u=QN a:=ru;obtain rfl:v=QN b:=rv;obtain⟨us,ru,tu,_⟩:=I1.tuple qa;obtain⟨vs,rv,tv,_⟩:=Inv.sqs I1 qb;have la:a<s1.heap.objs.size:=by obtain⟨o,e,_⟩:=tu;exact Qt e
 have lb:b<s1.heap.objs.size:=by cases b2 <;> (obtain⟨o,e,_⟩:=tv;exact Qt e)
 refine z1u (b1:=false) tu tv λh' S up=>wpAny_pyIter_zip S.zz ?_;refine⟨_,[s1.heap.objs.size+4,s1.heap.objs.size+2,s1.heap.objs.size+3,s1.heap.objs.size,s1.heap.objs.size+1],_,Itz X.K b2 a b,H1,rfl,I1.kept (t':=s1.toks) up,zwz b2 _ _ _ _ _ a b (zww _ _ _ la lb),⟨S.zz,S.pp,S.rr,S.a1,S.a2⟩,λc hc=>?_,q⟩
 have le:s1.heap.objs.size<=c:=by
  simp only[Qs,Q4,jH] at hc;rcases hc with rfl|rfl|rfl|rfl|rfl <;> first|exact Qh _|exact VI _ _
 exact I1.fpOk le (I1.hok.fresh le)
section
variable {K:Qa}{O:Ob}
def zipD:List Tl->List Tl->List Tl
 | d::ds,e::es=>.tuple [d,e]::zipD ds es
 | _,_=>[]
theorem zoe:∀ds es:List Tl,(zipD ds es).length=min ds.length es.length
 | [],_=>by simp[zipD]
 | _::_,[]=>by simp[zipD]
 | _::ds,_::es=>by rw[zipD,Q3,zoe ds es,Q3,Q3,Nat.succ_min_succ]
theorem znz:∀{ds es:List Tl} {i:Nat} {d:Tl},(zipD ds es)[i]? = some d->∃a b,ds[i]? = some a/\es[i]? = some b/\d = .tuple [a,b]
 | [],_,i,d,h=>by simp[zipD] at h
 | _::_,[],i,d,h=>by simp[zipD] at h
 | a::ds,b::es,0,d,h=>by
   rw[zipD,VG] at h;cases h;exact⟨a,b,rfl,rfl,rfl⟩
 | a::ds,b::es,i+1,d,h=>by
   rw[zipD,Zn] at h;obtain⟨x,y,h1,h2,h3⟩:=znz h;exact⟨x,y,h1,h2,h3⟩
theorem zif{i:Nat}{d:Tl}(h:flats ds=true)(e:ds[i]? = some d):flat d=true:=by
 induction ds generalizing i with
 | nil=>cases e
 | cons x ds ih=>
   rw[flats,Qx] at h
   cases i with
   | zero=>cases e;exact h.1
   | succ i=>exact ih h.2 e
theorem zxd{b2:Bool}{fs:List Tl}(st:Stp O H H1)(ha:SqT K H1 a xs)(hs:IsAll K (unM O) H1 xs es)(ht:IsAll K (unM O) H1 ys fs)(f1:flats es=true)(f2:flats fs=true)
 (hB:∀a,B a->¬O.M a/\∃o,H1 a=some o) (stay:∀H2,(∀a o,B a->H1 a=some o->H2 a=some o)->TupStay H1 H2->SqS K b2 H2 b ys):Walk K O H H1 (Itz K b2 a b) (zipD es fs) B:=by
 have l1:=hs.length;have l2:=ht.length;refine⟨st,hB,λH2 i kb t2 hi=>?_,λH2 i d kb t2 hd c=>?_⟩
 .rw[zoe] at hi;exact⟨xs,ys,SqT.stay t2 ha,stay H2 kb t2,by lia⟩
 .obtain⟨x,y,h1,h2,rfl⟩:=znz hd;have fx:=zif f1 h1;have fy:=zif f2 h2;obtain⟨u,hu,iu⟩:=zd7 (O:=O) hs h1 t2 (.inl fx);obtain⟨v,hv,iv⟩:=zd7 (O:=O) ht h2 t2 (.inl fy);have q1:SqT K H2 a xs:=SqT.stay t2 ha;have q2:=stay H2 kb t2;refine⟨⟨xs,ys,u,v,q1,q2,hu,hv⟩,λw H3 zz=>?_⟩;obtain⟨c',u',v',hc',e1,e2,ex,e3⟩:=zz;have sm:Same H2 H3:=by rw[e3];exact L3.same_new hc' _
  subst ex;have e1:=e1 xs q1;have e2:=e2 ys q2;rw[hu] at e1;rw[hv] at e2;cases e1;cases e2;have fl:flat (.tuple [x,y])=true:=by show(flat x && (flat y && true))=true;rw[fx,fy];rfl
  have mv:∀{d:Tl} {z:V},Is K (λa=>¬O.M a/\(flat d=true\/∃o,H1 a=some o)) H2 z d->Is K (λa=>¬O.M a/\(flat (.tuple [x,y])=true\/∃o,H1 a=some o)) H3 z d:=λiz=>
   iz.to (λc zs f q=>⟨⟨f.1,.inl fl⟩,sm _ _ q⟩) λc zs q=>by
    rcases q with (q|⟨ob,q⟩)|q
    .exact .inl (.inl (sm _ _ q))
    .exact .inl (.inr ⟨ob,sm _ _ q⟩)
    .exact .inr q
  refine⟨sm,.tuple (xs:=[u,v]) (.inl (.inl ?_)) (.cons (mv iu) (.cons (mv iv) .nil))⟩;rw[e3];exact zak
def srcZ(g:DA):DI:=λρ Q=>g ρ λvs=>∃ds es,vs = [.tuple ds,.tuple es]/\flats ds=true/\flats es=true/\Q true (zipD ds es)
theorem zzd(h:AD K O t g):SrcS K O (iZip K t) (srcZ g):=λσ H ρ R Qd S hf k=>by
 refine h σ H ρ _ _ S hf λvs H1 ds st is zz=>?_;obtain⟨es,fs,e,f1,f2,q⟩:=zz;subst e
 cases is with
 | cons i1 is=>
   cases is with
   | cons i2 is=>
     cases is
     cases i1 with
     | tuple ha hs=>
       cases i2 with
       | tuple hb ht=>exact⟨_,_,false,rfl,⟨_,ha⟩,⟨_,hb⟩,k _ H1 _ (λ_=>False) true (zxd st ha hs ht f1 f2 (λb hb=>hb.elim) λH2 _ t2=>SqT.stay t2 hb) (λz b hb=>hb.elim) q⟩
end
section
variable {ι κ:Type}{P:Tr}{w:Tt}{K:Qa}{mg:Str->Option Tn}{base:Heap}{k:Nat}{X:ι->Cx}{O:κ->Ob}{a b:Expr}{ga:DA}{pos p1 p2:Pos}{elts:List Expr}{x1:Nat}
theorem zyq(C:Ctx3 P w K mg base k X)(B:Blt mg)(ha:A3 K X O [a,b] ga)(hg:∀i,Gl (X i) "zip" := by intro i;rfl)(hs:∀i,Tq [a,b] (X i).env=(false,eval a (X i).env)::Tq [b] (X i).env:=by intro i;rfl)(hp:∀i,(Mi p2 (Tq [b] (X i).env)).any (·.1)=false:=by intro i;rfl):I3 K X O (.Tuple elts x1 pos) (.Call (.Name "zip" p1) [a,b] [] p2) (srcZ ga) :=
 let ⟨_,q,d⟩:=ha;⟨iZip K _,λi=>by have h:=z3r (elts:=elts) (x1:=x1) (pos:=pos) (p1:=p1) (p2:=p2) (hg i) (by rw[C.hmg];exact B.zip) (q i) (hs i) (hp i);rw[C.hK] at h;exact h,λj=>zzd (d j)⟩
end
end L3
namespace L3
open PySem PySem.Spec
open PyProof.Rows hiding St
open L2 L6
theorem zic{α β:Type}(f:α->Tl)(g:β->Tl):∀(xs:List α) (ys:List β),zipD (xs.map f) (ys.map g)=(xs.zip ys).map λp=>.tuple [f p.1,g p.2]
 | [],_=>rfl
 | _::_,[]=>rfl
 | x::xs,y::ys=>by rw[Qu,Qu,zipD,zic f g xs ys];rfl
def abvB(a b:Sta):Bool:=decide (a.rooms=b.rooms) && (decide (a.flags=b.flags) && (b.words.zip a.words).all λp=>L6.under p.1 p.2)
def optS:Option Sta->Tl
 | none=>.none
 | some s=>zag s
structure StW(s:Sta):Prop where
 rooms:s.rooms.length<=20
 flags:s.flags.length<=20
 words:s.words.length<=20
 sml:∀w∈s.words,Sml w
def abvF:List Tl->(R->Prop)->Prop:=λds Q=>∃a b:Sta,ds = [zag a,zag b]/\StW a/\StW b/\a.words.length=b.words.length/\Q (.o (.bool (abvB a b)))
theorem zp7(xs:List Nat):Sl 1 (.tuple (xs.map nD)):=zg8 λn _=>znn n
theorem zsi(s:Sta):Sl 2 (.tuple [.tuple (s.rooms.map nD),.tuple (s.flags.map nD)]):=zeb (zp7 _) (zeb (zp7 _) (znq _))
theorem zji{a b:List Nat}(h:a.map nD=b.map nD):a=b:=V0 (λ_ _ z=>Int.ofNat_inj.mp (PyData.int.inj z)) |>.mp h
theorem zi7(a b:Sta){neg:Bool}:eqF neg (.tuple [.tuple (a.rooms.map nD),.tuple (a.flags.map nD)]) (.tuple [.tuple (b.rooms.map nD),.tuple (b.flags.map nD)])=some (.o (.bool (if neg then !(decide (a.rooms=b.rooms) && decide (a.flags=b.flags)) else(decide (a.rooms=b.rooms) && decide (a.flags=b.flags))))) :=
 zqr (zsi a) (zsi b) (by decide) (by
  rw[Qx,jC,jC];refine⟨λ⟨e,f⟩=>by rw[e,f],λe=>?_⟩;have e:=Gy e;simp only[GE,UM,and_true] at e
  exact⟨zji e.1,zji e.2⟩)
theorem zc7(s:Sta):slcF none (some 2) (zag s)=some (.o (.tuple [.tuple (s.rooms.map nD),.tuple (s.flags.map nD)])):=rfl
theorem zf2{α:Type}(f:α->Tl)(xs:List α):zev (xs.map f)=xs.zipIdx.map λp=>.tuple [.int (p.2:Nat),f p.1]:=by
 unfold zev;refine ZB λi=>?_;rw[Ul,Qj,Qj,List.getElem?_zipIdx];cases xs[i]? <;> simp
def Abo(x y:Sta):Prop:=x.rooms=y.rooms/\x.flags=y.flags/\x.words.length=y.words.length/\∀p∈y.words.zip x.words,p.1.Sublist p.2
theorem zef(h:x.words.length=y.words.length):abvB x y=true↔Abo x y:=by
 unfold abvB Abo;rw[Qx,Qx,jC,jC,J1];exact⟨λ⟨a,b,c⟩=>⟨a,b,h,λp hp=>under_iff.mp (c p hp)⟩,λ⟨a,b,_,c⟩=>⟨a,b,λp hp=>under_iff.mpr (c p hp)⟩⟩
theorem zb7{x y:Sta}(h:x.words.length=y.words.length):(∀p∈y.words.zip x.words,p.1.Sublist p.2)↔∀i,i<y.words.length->(y.words.getD i []).Sublist (x.words.getD i []):=by
 constructor
 .intro a i hi;refine a (y.words.getD i [],x.words.getD i []) ?_;refine Qn (i:=i) ?_;rw[J8];exact⟨zao hi,zao (by lia)⟩
 .intro a p hp;obtain⟨i,hi⟩:=QQ.mp hp;obtain⟨h1,h2⟩:=J8.mp hi;have hl:=(Qi.mp h1).1;have:=a i hl;rw[Qo,Qo,h1,h2] at this;exact this
theorem Abo.refl(x:Sta):Abo x x:=⟨rfl,rfl,rfl,(zb7 rfl).mpr λi _=>.refl _⟩
theorem Abo.trans(h:Abo x y)(g:Abo y z):Abo x z:=by
 obtain⟨a1,a2,a3,a4⟩:=h;obtain⟨b1,b2,b3,b4⟩:=g;refine⟨a1.trans b1,a2.trans b2,a3.trans b3,(zb7 (a3.trans b3)).mpr λi hi=>?_⟩;exact((zb7 b3).mp b4 i hi).trans ((zb7 a3).mp a4 i (by lia))
theorem zc9{x y:Sta}(a:x.rooms=y.rooms)(b:x.flags=y.flags)(c:x.words=y.words):x=y:=by
 cases x;cases y;cases a;cases b;cases c;rfl
theorem Abo.anti(h:Abo x y)(g:Abo y x):x=y:=by
 obtain⟨a1,a2,a3,a4⟩:=h;obtain⟨b1,b2,b3,b4⟩:=g;refine zc9 a1 a2 (ZB λi=>?_)
 by_cases hi:i<x.words.length
 .have h1:=(zb7 a3).mp a4 i (by lia);have h2:=(zb7 b3).mp b4 i hi;rw[zao (z:=[]) hi,zao (z:=[]) (by lia:i<y.words.length)];exact jF some (h2.eq_of_length_le h1.length_le)
 .rw[QD (by lia),QD (by lia)]
def zce(s:Sta):Nat:=(s.words.map JB).sum
theorem zo4:∀{xs ys:List (List Nat)},xs.length=ys.length->(∀i,i<ys.length->(ys.getD i []).Sublist (xs.getD i []))->(ys.map JB).sum<=(xs.map JB).sum
 | [],[],_,_=>Qh _
 | x::xs,y::ys,h,a=>by
   have h0:=(a 0 (Vn _)).length_le;have:=zo4 (xs:=xs) (ys:=ys) (by simpa using h) λi hi=>a (i+1) (VJ hi);rw[Qu,Qu,J0,J0];have h0:y.length<=x.length:=h0;lia
def zcw(S:Sta->Prop)(x:Sta):Prop:=S x/\∀y,S y->Abo x y->y=x
def zda(kept:List Sta)(x:Sta):List Sta:=if kept.any (λy=>abvB x y) then kept else kept ++ [x]
def zbu(xs:List Sta):List Sta:=xs.foldl zda []
def zb3(fs:List Nat):Deed->List (List Nat)
 | .put f v=>if fs.getD f 0=v then[fs.set f 0,fs.set f 1] else[]
 | .test f v=>if fs.getD f 0=v then[fs] else[]
 | _=>[fs]
def zb2(ws:List (List Nat)):Deed->List (List (List Nat))
 | .take l c=>[ws.set l (c::ws.getD l [])]
 | .send l c=>if(ws.getD l []).getLast? = some c then[ws.set l (ws.getD l []).dropLast] else[ws]
 | .empty l=>if ws.getD l [] = [] then[ws] else[]
 | _=>[ws]
def za6(s:Sta)(h:Nat)(r:Rul):List Sta:=if s.rooms.getD h 0=r.q then(zb3 s.flags r.d).flatMap λfs=>(zb2 s.words r.d).map λws=>⟨s.rooms.set h r.p,fs,ws⟩ else[]
def zca(s:Sta)(h:Nat)(r:Rul):Option Sta:=if s.rooms.getD h 0=r.p/\zyw s r.d=true then some (zqz s h r) else none
def zby(ls w:List Nat):List (List Nat):=w::w.dropLast :: []::ls.map (· :: w)
def zbh:Deed->Nat
 | .send l _=>l
 | .take l _=>l
 | .empty l=>l
 | _=>0
def zgz(fs:List Nat):Deed->List (List Nat)
 | .put f _=>[fs.set f 0,fs.set f 1]
 | _=>[fs]
def Trd(ls:List Nat)(s:Sta)(h:Nat)(r:Rul)(x:Sta):Prop:=∃w∈zby ls (s.words.getD (zbh r.d) []),∃fs∈zgz s.flags r.d,x=⟨s.rooms.set h r.p,fs,s.words.set (zbh r.d) w⟩
theorem zbk{α:Type}{xs:List α}{i:Nat}{z:α}(h:i<xs.length):xs.set i (xs.getD i z)=xs:=by
 refine ZB λj=>?_;rw[V5]
 split
 .rename_i e
  subst e
  first|rw[j7 h,zao h]|exact(zao h).symm
 .rfl
theorem zau{α:Type}{xs:List α}{i j:Nat}{v z:α}(h:i<xs.length):(xs.set i v).getD j z=if j=i then v else xs.getD j z:=by
 rw[Qo,V5]
 by_cases e:i=j
 .subst e;rw[j7 rfl,j7 h,j7 rfl];rfl
 .rw[j8 e,j8 (ZA e),Qo]
theorem zg7{α:Type}{xs:List α}{i:Nat}{v u z:α}(h:i<xs.length)(e:xs.getD i z=v):(xs.set i u).set i v=xs:=by
 rw[JG,<- e,zbk h]
theorem zs4{xs ys:List (List Nat)}{i:Nat}{v:List Nat}(hi:i<ys.length)(h:(ys.getD i []).Sublist v)(e:xs=ys):∀j,j<ys.length->(ys.getD j []).Sublist ((xs.set i v).getD j []):=λj hj=>by
 subst e;rw[zau hi]
 split
 .rename_i e
  subst e;exact h
 .exact .refl _
theorem zs5{h l f:Nat}(hh:h<s.rooms.length)(hl:s.words.length=l)(l0:0<l)(hf:s.flags.length=f)(hd:DeOk ls l f r.d)(hx:x∈za6 s h r):Trd ls s h r x/\∃y,zca x h r=some y/\Abo y s:=by
 subst hl hf;unfold za6 at hx
 split at hx
 .rename_i hq
  obtain⟨fs,hfs,hx⟩:=Jn.mp hx;obtain⟨ws,hws,rfl⟩:=Q0.mp hx;have rm:(s.rooms.set h r.p).getD h 0=r.p:=by rw[zau hh,j7 rfl]
  have rb:(s.rooms.set h r.p).set h r.q=s.rooms:=zg7 hh hq
  have fin:∀fs' ws',zyw ⟨s.rooms.set h r.p,fs,ws⟩ r.d=true->zde fs r.d=fs'->zcg ws r.d=ws'->fs'=s.flags->ws'.length=s.words.length->(∀i,i<s.words.length->(s.words.getD i []).Sublist (ws'.getD i []))->∃y,zca ⟨s.rooms.set h r.p,fs,ws⟩ h r=some y/\Abo y s:=by
   intro fs' ws' a1 a2 a3 a4 a5 a6;refine⟨⟨s.rooms,fs',ws'⟩,?_,rfl,a4,a5,(zb7 a5).mpr a6⟩;unfold zca;rw[j7 ⟨rm,a1⟩];unfold zqz;show some (Sta.mk ((s.rooms.set h r.p).set h r.q) (zde fs r.d) (zcg ws r.d))=_;rw[rb,a2,a3]
  cases e:r.d with
  | go=>
    rw[e] at hfs hws hd;obtain rfl:=Qb.mp hfs;obtain rfl:=Qb.mp hws;refine⟨⟨s.words.getD 0 [],by rw[e];exact Qp,s.flags,by rw[e];exact Qb.mpr rfl,by rw[e];exact zc9 rfl rfl (zbk l0).symm⟩,fin _ _ (by rw[e];rfl) (by rw[e];rfl) (by rw[e];rfl) rfl rfl λi _=>.refl _⟩
  | send i c=>
    rw[e] at hfs hws hd;obtain⟨hi,hc⟩:=hd;obtain rfl:=Qb.mp hfs;unfold zb2 at hws;simp only at hws
    split at hws
    .rename_i el
     obtain rfl:=Qb.mp hws
     have ec:(s.words.getD i []).dropLast ++ [c]=s.words.getD i []:=by
      obtain⟨ys,hy⟩:=V1.mp el;rw[hy,YT]
     refine⟨⟨(s.words.getD i []).dropLast,by rw[e];exact Qf _ Qp,s.flags,by rw[e];exact Qb.mpr rfl,by rw[e];rfl⟩,fin _ s.words (by rw[e];rfl) (by rw[e];rfl) ?_ rfl rfl λi _=>.refl _⟩;rw[e];show(s.words.set i _).set i ((s.words.set i _).getD i [] ++ [c])=_;rw[zau hi,j7 rfl,ec,JG,zbk hi]
    .obtain rfl:=Qb.mp hws;refine⟨⟨s.words.getD i [],by rw[e];exact Qp,s.flags,by rw[e];exact Qb.mpr rfl,by rw[e];exact zc9 rfl rfl (zbk hi).symm⟩,fin _ (s.words.set i (s.words.getD i [] ++ [c])) (by rw[e];rfl) (by rw[e];rfl) (by rw[e];rfl) rfl (Q1 ..) ?_⟩;exact zs4 hi (List.sublist_append_left _ _) rfl
  | take i c=>
    rw[e] at hfs hws hd;obtain⟨hi,hc⟩:=hd;obtain rfl:=Qb.mp hfs;obtain rfl:=Qb.mp hws;refine⟨⟨c::s.words.getD i [],?_,s.flags,by rw[e];exact Qb.mpr rfl,by rw[e];rfl⟩,fin _ s.words ?_ (by rw[e];rfl) ?_ rfl rfl λi _=>.refl _⟩
    .rw[e];exact Qf _ (Qf _ (Qf _ (Q0.mpr ⟨c,hc,rfl⟩)))
    .rw[e];show decide (((s.words.set i _).getD i []).head? = some c)=true;rw[zau hi,j7 rfl];exact j9 rfl
    .rw[e];show(s.words.set i _).set i (((s.words.set i _).getD i []).drop 1)=_;rw[zau hi,j7 rfl,JG];exact zbk hi
  | empty i=>
    rw[e] at hfs hws hd;obtain rfl:=Qb.mp hfs;unfold zb2 at hws;simp only at hws
    split at hws
    .rename_i ew
     obtain rfl:=Qb.mp hws;refine⟨⟨s.words.getD i [],by rw[e];exact Qp,s.flags,by rw[e];exact Qb.mpr rfl,by rw[e];exact zc9 rfl rfl (zbk hd).symm⟩,fin _ s.words ?_ (by rw[e];rfl) (by rw[e];rfl) rfl rfl λi _=>.refl _⟩;rw[e];exact j9 ew
    .cases hws
  | put i v=>
    rw[e] at hfs hws hd;obtain rfl:=Qb.mp hws;unfold zb3 at hfs;simp only at hfs
    split at hfs
    .rename_i ev
     have:∀u,fs=s.flags.set i u->zde fs r.d=s.flags:=λu hu=>by rw[e,hu];exact zg7 hd.1 ev
     have fb:zde fs r.d=s.flags:=by
      rcases Qs.mp hfs with z|z
      .exact this _ z
      .exact this _ (Qb.mp z)
     exact⟨⟨s.words.getD 0 [],by rw[e];exact Qp,fs,by rw[e];exact hfs,by rw[e];exact zc9 rfl rfl (zbk l0).symm⟩,fin _ s.words (by rw[e];rfl) fb (by rw[e];rfl) rfl rfl λi _=>.refl _⟩
    .cases hfs
  | test i v=>
    rw[e] at hfs hws hd;obtain rfl:=Qb.mp hws;unfold zb3 at hfs;simp only at hfs
    split at hfs
    .rename_i ev
     obtain rfl:=Qb.mp hfs;refine⟨⟨s.words.getD 0 [],by rw[e];exact Qp,s.flags,by rw[e];exact Qb.mpr rfl,by rw[e];exact zc9 rfl rfl (zbk l0).symm⟩,fin _ s.words ?_ (by rw[e];rfl) (by rw[e];rfl) rfl rfl λi _=>.refl _⟩;rw[e];exact j9 ev
    .cases hfs
 .cases hx
theorem zxm{u w:List Nat}{c:Nat}(h:u.Sublist (w ++ [c]))(n:u.getLast?≠some c):u.Sublist w:=by
 have h:=h.reverse;rw[List.reverse_append,List.reverse_singleton,List.singleton_append] at h;rcases List.sublist_cons_iff.mp h with h|⟨r,e,_⟩
 .have:=h.reverse;rwa [JH,JH] at this
 .refine absurd ?_ n;have:u=r.reverse ++ [c]:=by rw[<- JH u,e,Y8]
  rw[this,List.getLast?_concat]
theorem zu9{h l f:Nat}(hh:h<s.rooms.length)(hl:s.words.length=l)(l0:0<l)(hf:s.flags.length=f)(hd:DeOk ls l f r.d)(hx:Trd ls s h r x)(hy:zca x h r=some y)(ab:Abo y s):∃z∈za6 s h r,Abo x z:=by
 subst hl hf;obtain⟨w,hw,fs,hfs,rfl⟩:=hx;unfold zca at hy
 split at hy
 .rename_i hg
  obtain⟨_,lt⟩:=hg;cases hy;obtain⟨b1,b2,b3,b4⟩:=ab;have b4:=(zb7 b3).mp b4
  have hq:s.rooms.getD h 0=r.q:=by
   rw[<- b1];show((s.rooms.set h r.p).set h r.q).getD h 0=_;rw[JG,zau hh,j7 rfl]
  have b2:zde fs r.d=s.flags:=b2;have c4:∀i,i<s.words.length->(s.words.getD i []).Sublist ((zcg (s.words.set (zbh r.d) w) r.d).getD i []):=b4
  have fin:∀ws∈zb2 s.words r.d,fs∈zb3 s.flags r.d->ws.length=s.words.length->(∀i,i<ws.length->(ws.getD i []).Sublist ((s.words.set (zbh r.d) w).getD i []))->∃z∈za6 s h r,Abo ⟨s.rooms.set h r.p,fs,s.words.set (zbh r.d) w⟩ z:=λws m1 m2 le sub=>by
   refine⟨⟨s.rooms.set h r.p,fs,ws⟩,?_,rfl,rfl,?_,?_⟩
   .unfold za6;rw[j7 hq];exact Jn.mpr ⟨fs,m2,Q0.mpr ⟨ws,m1,rfl⟩⟩
   .show(s.words.set _ w).length=ws.length;rw[Q1,le]
   .refine(zb7 ?_).mpr sub;show(s.words.set _ w).length=ws.length;rw[Q1,le]
  have same:(∀j,j<s.words.length->(s.words.getD j []).Sublist ((s.words.set (zbh r.d) w).getD j []))->∀ws,ws=s.words->∀i,i<ws.length->(ws.getD i []).Sublist ((s.words.set (zbh r.d) w).getD i []):=λa ws e=>by subst e;exact a
  have put:∀(i:Nat) (u:List Nat),i<s.words.length->zbh r.d=i->u.Sublist w->∀j,j<(s.words.set i u).length->((s.words.set i u).getD j []).Sublist ((s.words.set (zbh r.d) w).getD j []):=λi u hi el hu j hj=>by
   rw[el,zau hi,zau hi]
   split
   .exact hu
   .exact .refl _
  suffices key:∀d,r.d=d->∃z∈za6 s h r,Abo ⟨s.rooms.set h r.p,fs,s.words.set (zbh r.d) w⟩ z from key _ rfl
  intro d e
  cases d with
  | go=>
    rw[e] at hfs b2 c4;exact fin s.words (by rw[e];exact Qb.mpr rfl) (by rw[e];exact hfs) rfl (by rw[e];exact c4)
  | send i c=>
    rw[e] at hfs c4 hd;have hi:=hd.1;have bi:=c4 i hi;rw[show zcg (s.words.set (zbh (.send i c)) w) (.send i c)=(s.words.set i w).set i ((s.words.set i w).getD i [] ++ [c]) from rfl,zau hi,j7 rfl,JG,zau hi,j7 rfl] at bi
    by_cases el:(s.words.getD i []).getLast? = some c
    .obtain⟨ys,hy⟩:=V1.mp el;refine fin (s.words.set i (s.words.getD i []).dropLast) (by rw[e];show _∈(if _ then _ else _);rw[j7 el];exact Qb.mpr rfl) (by rw[e];exact hfs) (Q1 ..) (put i _ hi (by rw[e];rfl) ?_);rw[hy] at bi ⊢;rw[YT];exact(List.append_sublist_append_right _).mp bi
    .have:=put i (s.words.getD i []) hi (by rw[e];rfl) (zxm bi el);rw[zbk hi] at this;exact fin s.words (by rw[e];show _∈(if _ then _ else _);rw[j8 el];exact Qb.mpr rfl) (by rw[e];exact hfs) rfl this
  | take i c=>
    rw[e] at hfs c4 hd lt;have hi:=hd.1;have lt:decide (((s.words.set i w).getD i []).head? = some c)=true:=lt;rw[zau hi,j7 rfl,jC] at lt;have bi:=c4 i hi;rw[show zcg (s.words.set (zbh (.take i c)) w) (.take i c)=(s.words.set i w).set i (((s.words.set i w).getD i []).drop 1) from rfl,zau hi,j7 rfl,JG,zau hi,j7 rfl] at bi;refine fin (s.words.set i (c::s.words.getD i [])) (by rw[e];exact Qb.mpr rfl) (by rw[e];exact hfs) (Q1 ..) (put i _ hi (by rw[e];rfl) ?_)
    cases w with
    | nil=>cases lt
    | cons d w=>cases lt;exact bi.cons_cons _
  | empty i=>
    rw[e] at hfs c4 hd lt;have lt:decide ((s.words.set i w).getD i [] = [])=true:=lt;rw[zau hd,j7 rfl,jC] at lt;subst lt;have bi:=c4 i hd;rw[show zcg (s.words.set (zbh (.empty i)) []) (.empty i)=s.words.set i [] from rfl,zau hd,j7 rfl] at bi;have ew:=VL.mp bi;refine fin s.words (by rw[e];show _∈(if _ then _ else _);rw[j7 ew];exact Qb.mpr rfl) (by rw[e];exact hfs) rfl ?_;have:=put i (s.words.getD i []) hd (by rw[e];rfl) (by rw[ew];exact .refl _);rwa [zbk hd] at this
  | put i v=>
    rw[e] at hfs b2 c4 hd
    have ev:s.flags.getD i 0=v:=by
     rw[<- b2];show(fs.set i v).getD i 0=v
     have:fs.length=s.flags.length:=by
      rcases Qs.mp hfs with z|z
      .rw[z,Q1]
      .rw[Qb.mp z,Q1]
     rw[zau (by rw[this];exact hd.1),j7 rfl]
    exact fin s.words (by rw[e];exact Qb.mpr rfl) (by rw[e];show _∈(if _ then _ else _);rw[j7 ev];exact hfs) rfl (by rw[e];exact c4)
  | test i v=>
    rw[e] at hfs b2 c4 hd lt;have hfs:=Qb.mp hfs;subst hfs;have ev:s.flags.getD i 0=v:=jB lt;exact fin s.words (by rw[e];exact Qb.mpr rfl) (by rw[e];show _∈(if _ then _ else _);rw[j7 ev];exact Qb.mpr rfl) rfl (by rw[e];exact c4)
 .cases hy
theorem zr5(h1:∀x,S x->T x)(h2:∀x,T x->∃z,S z/\Abo x z)(x:Sta):zcw S x↔zcw T x:=by
 constructor
 .rintro⟨a,b⟩;refine⟨h1 x a,λy ty ab=>?_⟩;obtain⟨z,sz,az⟩:=h2 y ty;have:=b z sz (ab.trans az);subst this;exact az.anti ab
 .rintro⟨a,b⟩;obtain⟨z,sz,az⟩:=h2 x a;have:=b z (h1 z sz) az;subst this;exact⟨sz,λy sy ab=>b y (h1 y sy) ab⟩
theorem zuq:∀{xs ys:List (List Nat)},xs.length=ys.length->(∀i,i<ys.length->(ys.getD i []).Sublist (xs.getD i []))->(xs.map JB).sum<=(ys.map JB).sum->xs=ys
 | [],[],_,_,_=>rfl
 | x::xs,y::ys,h,a,le=>by
   have h0:y.Sublist x:=a 0 (Vn _);have h1:=zo4 (xs:=xs) (ys:=ys) (by simpa using h) λi hi=>a (i+1) (VJ hi);rw[Qu,Qu,J0,J0] at le;have l0:=h0.length_le;rw[h0.eq_of_length_le (by lia),zuq (xs:=xs) (ys:=ys) (by simpa using h) (λi hi=>a (i+1) (VJ hi)) (by lia)]
theorem Abo.same(h:Abo x y)(le:zce x<=zce y):x=y:=zc9 h.1 h.2.1 (zuq h.2.2.1 ((zb7 h.2.2.1).mp h.2.2.2) le)
theorem zz8{n:Nat}:∀(xs:List Sta),(∀x∈xs,x.words.length=n)->xs.Pairwise (λx y=>zce x<=zce y)->(zbu xs).Nodup/\(∀x,x∈zbu xs↔zcw (·∈xs) x)/\∀y∈xs,∃z∈zbu xs,Abo y z:=by
 intro xs;generalize hr:xs.reverse=rs
 induction rs generalizing xs with
 | nil=>
   obtain rfl:xs = []:=by simpa using hr
   intro _ _;exact⟨V4,λx=>⟨λh=>absurd h Q4,λh=>absurd h.1 Q4⟩,λy h=>absurd h Q4⟩
 | cons x rs ih=>
   obtain rfl:xs=rs.reverse ++ [x]:=by rw[<- JH xs,hr,Y8]
   generalize hp:rs.reverse=ps;intro hn pw;have mx:x∈ps ++ [x]:=Q9 _ (Qb.mpr rfl);have mp:∀y,y∈ps->y∈ps ++ [x]:=λy h=>QR _ h;obtain⟨pw1,_,pw2⟩:=List.pairwise_append.mp pw;obtain⟨nd,ls,be⟩:=ih ps (by rw[<- hp,JH]) (λy h=>hn y (mp y h)) pw1;have ek:zbu (ps ++ [x])=zda (zbu ps) x:=by unfold zbu;rw[JI];rfl
   rw[ek];have ab:∀y∈ps,abvB x y=true↔Abo x y:=λy h=>zef (by rw[hn x mx,hn y (mp y h)]);have kp:∀y∈zbu ps,y∈ps:=λy h=>((ls y).mp h).1;unfold zda
   split
   .rename_i an
    obtain⟨y,hy,ay⟩:=YS.mp an;have ay:=(ab y (kp y hy)).mp ay;refine⟨nd,λz=>(ls z).trans ⟨λ⟨h1,h2⟩=>⟨mp z h1,λu hu au=>?_⟩,λ⟨h1,h2⟩=>⟨?_,λu hu=>h2 u (mp u hu)⟩⟩,λu hu=>?_⟩
    .rcases Qv.mp hu with hu|hu
     .exact h2 u hu au
     .obtain rfl:=Qb.mp hu;have:=h2 y (kp y hy) (au.trans ay);subst this;exact ay.anti au
    .rcases Qv.mp h1 with h1|h1
     .exact h1
     .obtain rfl:=Qb.mp h1;have:=h2 y (mp y (kp y hy)) ay;rw[<- this];exact kp y hy
    .rcases Qv.mp hu with hu|hu
     .exact be u hu
     .obtain rfl:=Qb.mp hu;exact⟨y,hy,ay⟩
   .rename_i an
    have no:∀y∈zbu ps,¬Abo x y:=λy hy z=>an (YS.mpr ⟨y,hy,(ab y (kp y hy)).mpr z⟩);have nx:x ∉ zbu ps:=λh=>no x h (.refl x);refine⟨Yd.mpr ⟨nd,by simp,λa ha b hb e=>nx ?_⟩,λz=>?_,λu hu=>?_⟩
    .rw[<- Qb.mp hb,<- e];exact ha
    .rw[Qv,Qb];constructor
     .rintro(h|rfl)
      .obtain⟨h1,h2⟩:=(ls z).mp h;refine⟨mp z h1,λu hu au=>?_⟩;rcases Qv.mp hu with hu|hu
       .exact h2 u hu au
       .obtain rfl:=Qb.mp hu;exact(au.same (pw2 z h1 u (Qb.mpr rfl))).symm
      .refine⟨mx,λu hu au=>?_⟩;rcases Qv.mp hu with hu|hu
       .obtain⟨v,hv,av⟩:=be u hu;exact absurd (au.trans av) (no v hv)
       .exact Qb.mp hu
     .rintro⟨h1,h2⟩;rcases Qv.mp h1 with h1|h1
      .exact .inl ((ls z).mpr ⟨h1,λu hu=>h2 u (mp u hu)⟩)
      .exact .inr (Qb.mp h1)
    .rcases Qv.mp hu with hu|hu
     .obtain⟨v,hv,av⟩:=be u hu;exact⟨v,QR _ hv,av⟩
     .obtain rfl:=Qb.mp hu;exact⟨u,Q9 _ (Qb.mpr rfl),.refl u⟩
section
variable {X:Cx}
def zrw:V->List V->Hp->VK->Prop:=λx vs H Q=>∃t y:Str,x = .str t/\vs = [.str y]/\Q (.bl (VT t y)) H
theorem z1e:MtR X "str.endswith" zrw:=by
 intro pins s σ H x vs v us Q I rx rv h;obtain⟨t,y,rfl,rfl,q⟩:=h;obtain⟨tk,rfl⟩:=rx;obtain⟨u,rfl,t1,rfl⟩:=Vals.one rv;exact SC.endswith ⟨.bl _,H,I,rfl,q⟩
end
section
variable {K:Qa}{O:Ob}
def zye(fo:DE)(g:DA):DE:=λρ Q=>fo ρ λr0=>∃t,r0.d = .str t/\g ρ λds=>∃y,ds = [.str y]/\Q (.o (.bool (VT t y)))
theorem z1w{to:TE}(ho:ED K O to fo)(ha:AD K O ta g):ED K O (tBM K "str" zrw to ta) (zye fo g):=λσ H ρ Q Qd S hf k=>by
 refine ho σ H ρ _ _ S hf λv H1 r0 s1 o1 zz=>?_;obtain⟨t,e0,q1⟩:=zz;have i0:=o1.is S.ok S.p;rw[e0] at i0;cases i0;refine⟨rfl,?_⟩;refine ha σ H1 ρ _ _ (S.stp s1) q1 λvs H2 ds s2 is zz=>?_;obtain⟨y,e,q⟩:=zz;subst e;obtain⟨v,rfl,iv⟩:=zbd is;cases iv;exact⟨t,y,rfl,rfl,k _ H2 (.o _) (s1.trans s2) (Is.bool _) q⟩
theorem zz2(w:List Nat)(c:Nat):VT (tx w) (tx [c])=decide (w.getLast? = some c):=by
 have h:=StrLaws.subAt_one (tx w) c (w.length-1);have l1:(tx [c]).length=1:=rfl;have l2:(tx w).length=w.length:=zdg w;have h:w.length-1+1<=(tx w).length/\Builtin.Str.subAt (tx w) (tx [c]) (w.length-1)=true↔(tx w).cps.toList[w.length-1]? = some c:=h;rw[l2,zck] at h;rw[J9,jJ];unfold VT;rw[Qx,jJ,l1,l2,List.getLast?_eq_getElem?];constructor
 .rintro⟨h1,h2⟩;exact h.mp ⟨by lia,h2⟩
 .intro h1;obtain⟨h2,h3⟩:=h.mpr h1;exact⟨by have:=(Qi.mp h1).1;lia,h3⟩
end
section
variable {ι κ:Type}{P:Tr}{w:Tt}{K:Qa}{mg:Str->Option Tn}{base:Heap}{k:Nat}{X:ι->Cx}{O:κ->Ob}{a b:Expr}{fa:DE}{ga:DA}{pos:Pos}
theorem z2o{apos:Pos}(C:Ctx3 P w K mg base k X)(ho:E3 K X O a fa)(ha:A3 K X O [b] ga)(hbase:∀i,Mj a "endswith" (X i).env (eval a (X i).env)=eval a (X i).env:=by intro i;rfl)
 (hfew:∀i,((Mi pos (Tq [b] (X i).env)).all (λx=>!x.1) && (Np pos (MG [] (X i).env)).all (λx=>x.1.isSome) && decide (([b]:List Expr).length+([]:List M7).length+(if([]:List M7).isEmpty then 0 else 1)<30))=true:=by intro i;rfl)
 (hline:(apos.endLine == pos.line)=true:=by rfl) (hs:∀i,Tq [b] (X i).env=(false,eval b (X i).env)::Tq [] (X i).env:=by intro i;rfl) (hpl:∀i,(Mi pos (Tq [] (X i).env)).any (·.1)=false:=by intro i;rfl):E3 K X O (.Call (.Attribute a "endswith" apos) [b] [] pos) (zye fa ga) :=
 let ⟨_,p1,d1⟩:=ho;let ⟨_,p2,d2⟩:=ha;⟨tBM K "str" zrw _ _,λi=>by
  have h:=zgb (apos:=apos) (cpos:=pos) JQ PySem.F.slot_str_endswith PySem.F.type_str_endswith (z1e (X:=X i)) (p1 i) (p2 i) (hbase i) (hfew i) hline (hs i) (hpl i);rw[C.hK] at h
  exact h,λj=>z1w (d1 j) (d2 j)⟩
end
section
variable {K:Qa}{O:Ob}
def zy2(i j:Nat)(fa fb:DE):DS:=λDd ρ=>fa ρ λr1=>fb ρ λr2=>∃ds es,r1 = .n ds/\r2 = .n es/\flats ds=true/\flats es=true/\Dd.nx ((ρ.set i (some (.own ds))).set j (some (.own es)))
theorem zzv{i j:Nat}(ha:ED K O ta fa)(hb:ED K O tb fb):SD K O (tPar i j (za0 ta (za0 tb tNil))) (zy2 i j fa fb):=λH₀ A σ H ρ D Dd r q P=>by
 refine ha σ H ρ _ _ r.seen q λv H1 r1 s1 o1 q1=>?_;refine hb σ H1 ρ _ _ (r.seen.stp s1) q1 λu H2 r2 s2 o2 zz=>?_;obtain⟨ds,es,e1,e2,f1,f2,q2⟩:=zz;subst e1 e2;obtain⟨a1,x1,rfl,n1,l1,i1⟩:=o1;obtain⟨a2,x2,rfl,n2,l2,i2⟩:=o2;refine⟨_,_,rfl,?_⟩;have ra:=r.setOwn (i:=i) s1 n1 l1 i1 f1;have rb:=ra.setOwn (i:=j) s2 n2 l2 i2 f2;exact P.nx _ _ H2 _ rb ((Frm.setOwn (i:=i) s1 n1).trans (.setOwn (i:=j) s2 n2)) q2
end
section
variable {ι κ:Type}{P:Tr}{w:Tt}{K:Qa}{mg:Str->Option Tn}{base:Heap}{k:Nat}{X:ι->Cx}{O:κ->Ob}{a b:Expr}{fa fb:DE}{pos px py pt pt2:Pos}{kt k2:Nat}
theorem zuw(n m:Nat)(C:Ctx3 P w K mg base k X)(ha:E3 K X O a fa)(hb:E3 K X O b fb)(hnm:n≠m:=by decide)
 (hN:∀i,(X i).N.Nodup:=by intro i;exact jB (by kernel_rfl)) (hi:∀i,(X i).N[n]? = some x:=by intro i;rfl) (hj:∀i,(X i).N[m]? = some y:=by intro i;rfl) (hx:∀i,(X i).env.scope.names.lookup x=some .local:=by intro i;rfl) (hy:∀i,(X i).env.scope.names.lookup y=some .local:=by intro i;rfl)
 (hw:∀i,M9 [.Tuple [.Name x px,.Name y py] kt pt] (.Tuple [a,b] k2 pt2) (X i).env=pure (some [x,y]):=by intro i;rfl) (hs:∀i,MA [.Tuple [.Name x px,.Name y py] kt pt] (.Tuple [a,b] k2 pt2) pos.line (X i).env=pure false:=by intro i;rfl)
 (h1:∀i,Tq [a,b] (X i).env=(false,eval a (X i).env)::Tq [b] (X i).env:=by intro i;rfl) (h2:∀i,Tq [b] (X i).env=(false,eval b (X i).env)::Tq [] (X i).env:=by intro i;rfl) :
 S3 K X O (.Assign [.Tuple [.Name x px,.Name y py] kt pt] (.Tuple [a,b] k2 pt2) pos) (zy2 n m fa fb) :=
 let ⟨_,p1,d1⟩:=ha;let ⟨_,p2,d2⟩:=hb
 ⟨_,λi=>zt2 (C.calm i) (hN i) (hi i) (hj i) hnm (hx i) (hy i) (za3 (p1 i) (za3 (p2 i) zbs (h2 i)) (h1 i)) (hw i) (hs i),λj=>zzv (d1 j) (d2 j)⟩
end
end L3
namespace L3
open PySem PySem.Spec
open PyProof.Rows hiding St
open SX
open L2
section
variable {P:Tr}{w:Tt}{A:Tv}{E:Tn->To->Prop}{s:To}
theorem zth{d:Addr}(tS:s.TypeIs (.ref d) "dict")(q:Q false s):wpAny (model P w) A (ZZ (.ref d)) Q E s:=by
 unfold ZZ;refine Tj (TZ tS F.slot_dict_len.lookup ?_);generalize hid:("dict.__len__" : String)=id0
 (fail_if_success (clear hid id0))
 wp_delta
 rw[show splitId id0=some ("dict", "__len__") from by subst hid;decide +kernel];subst hid;refine Tj (Md (b:=true) tS F.kt_sub_dict ?_);refine wp_f (by decide) ?_;refine wp_t (by decide +kernel) ?_;refine Tj (Mo tS ?_);exact Tk q
end
end L3
namespace DI
open PySem PyProof.Rows
def Ent(h:Heap)(d:Addr)(es:Array NV)(ep:Nat):Prop:=∃o,h.get? d=some o/\o.ExactDict/\o.data = .dict es ep
section
variable {prog:Tr}{w:Tt}{A:Tv}{E:Tn->To->Prop}{s:To}{d it:Addr}{es:Array NV}{ep i:Nat}
theorem Ent.ty(m:Ent s.heap d es ep):s.TypeIs (.ref d) "dict" := let ⟨o,h1,h2,_⟩:=m;⟨o,h1,h2.1⟩
theorem it_ent(ns:(d == Mc)=false)(m:Ent s.heap d es ep)(q:Q (.ref s.heap.objs.size) { s with heap:=s.heap.push { cls:=.type "dict_keyiterator",data:=.fields #[.ref d,.int 0 0,.int es.size 0,.int ep 0] } }):wpAny (model prog w) A (N8 (.ref d)) Q E s:=by
 have T:=m.ty;obtain⟨o,g1,g2,g3⟩:=m;refine Nk T Gz (Tw Gz T F.entry_dict_iter ?_ (F.args_dict_iter_1 _));unfold Builtin.«dict.__iter__» Builtin.Dict.dictSlotNone Builtin.Dict.showsAll;refine Tj (Tj (NG T (Tk ?_)));refine Tj (m:=Builtin.Dict.addrOf _) (Tk ?_);dsimp only;rw[j8 (by rw[ns];decide)];refine Tj (Tk (Tj (Ni g1 g3 (Tj (wpAny_dictEpoch g1 g3 ?_)))));refine Tj (Tz (Tk ⟨_,rfl, "dict_keyiterator",_,⟨_,Qm _ rfl,rfl⟩,JZ.lookup,?_⟩));simpa[ME] using q
theorem nx_ent(hh:A.handled=none)(t:s.heap.IsKeyIter it d i es.size ep)(m:Ent s.heap d es ep)
 (item:∀(hi:i<es.size) (h':Heap),h'.IsKeyIter it d (i+1) es.size ep->Us it s.heap h'->Q (some es[i].key) { s with heap:=h' })
 (fin:es.size<=i->∀h',Us it s.heap h'->Q none { s with heap:=h' }):wpAny (model prog w) A (M8 (.ref it)) Q E s:=by
 obtain⟨o,t1,t2,t3⟩:=id t;obtain⟨u,g1,g2,g3⟩:=m;unfold M8;refine Tj (Mk (TC (name:=QS "__next__") t.typeIs JZ (Tw JZ t.typeIs F.entry_dict_keyiterator_next ?_ (F.args_dict_keyiterator_next_1 _))));refine Tj (Tk (Tj (Tj ?_)))
 first|refine Tj (Mv t.typeIs (Tk ?_))|refine Tj (MC t.typeIs (Tk ?_))
 refine Tj (NS t1 t3 ?_);simp only[show GF "dict_keyiterator" = false by decide,QI,jD];show wpAny _ _ (ite ((QN d == ZP)=true) _ _) _ _ s;rw[j8 (show ¬(QN d == ZP)=true from Q8)];refine Tj (m:=V2 _) (Tk (Tj (Ni g1 g3 ?_)));rw[j8 (by rw[jL];decide)];refine Tj (m:=V2 _) (Tk (Tj (wpAny_dictEpoch g1 g3 ?_)));rw[j8 (by rw[jL];decide)];refine Tk ?_;have ni:¬((i:Int)<0):=by lia
 rcases Vj i es.size with hi|hi
 .simp only[ni,jD,YF,Q5 hi];refine Tj ?_
  first|refine Tj (Mv t.typeIs (Tk ?_))|refine Tj (MC t.typeIs (Tk ?_))
  refine Tj (NF t.typeIs ?_);show wpAny _ _ (j5 (.ref it) 1 (ME (i+1)) >>= _) _ _ s;refine Tj (Ng t1 t3 (by simp) ?_);generalize hh':s.heap.update it (Obj.mapFields (·.setIfInBounds 1 (ME ((i:Int)+1))))=h'
  have t':h'.IsKeyIter it d (i+1) es.size ep:=by
   rw[<- hh'];exact⟨_,Zo _ t1 (Uh (Y0 t3 _)),(Gi ..).trans t2,by rw[Y0 t3];simp[ME]⟩
  refine Tj (TF (Tj (NF (s:={ s with heap:=h' }) t'.typeIs ?_)));show wpAny _ _ (pure es[i].key) _ _ _;refine Tk (Tk ⟨_,rfl,Tk (item hi h' t' ?_)⟩);rw[<- hh'];exact(Jg ..).extBut
 .simp only[ni,jD,YF,JT hi];refine Tj ?_
  first|refine Tj (Mv t.typeIs (Tk ?_))|refine Tj (MC t.typeIs (Tk ?_))
  show wpAny _ _ (j5 (.ref it) 0 .none >>= _) _ _ s;refine Tj (Ng t1 t3 (by simp) (Tj ?_));simp only[newExc,j3];refine Tj (Tz ?_ (by size_fits));refine Tj (m:=M5 _ _) (Mg (a:=ZP) (by first|rfl|(simp only[M5];rfl)) (Tz ?_ (by size_fits)));simp only[jk];refine Tj (jb ?_);rw[show A.in1.handled=none from hh];refine Tj (Tk (jx ?_));refine Tj (Md (b:=true) (T := "StopIteration") ⟨_,Qm _ rfl,rfl⟩ Nd ?_);exact Tk (fin hi _ (((Jg ..).extBut.push _).push _))
end
end DI
namespace L3
open PySem PySem.Spec
open PyProof.Rows hiding St
open SX
open L2
section
variable {P:Tr}{w:Tt}{A:Tv}{E:Tn->To->Prop}{s:To}
theorem zx1(hh:A.handled=none)(I d:Addr)(hne:d≠I)(es:Array NV)(ep:Nat):
 Walks P w A I [I,d] [I] es.size (λi v=>∃p,es[i]? = some p/\p.key=v) (λi h=>h.IsKeyIter I d i es.size ep/\DI.Ent h d es ep) where
 sub:=λb hb=>by simp at hb;simp[hb]
 frame:=λ_ _ _ st hk=>⟨st.1.at λo e=>hk I (by simp) o e,let ⟨o,e,r⟩:=st.2;⟨o,hk d (by simp) o e,r⟩⟩
 item:=λi s Q E hi st hQ=>by
  refine DI.nx_ent hh st.1 st.2 (λhi' h' it' ex=>?_) λz=>absurd hi (by lia);exact hQ _ h' s.toks ⟨es[i],by simp[hi],rfl⟩ ⟨it',let ⟨o,e,r⟩:=st.2;⟨o,ex d o hne e,r⟩⟩ λb o hb e=>ex b o (λh=>hb (by simp[h])) e
 done:=λs Q E st hQ=>DI.nx_ent hh st.1 st.2 (λhi'=>absurd hi' (by lia)) λ_ h' ex=>hQ h' s.toks λb o hb e=>ex b o (λh=>hb (by simp[h])) e
 self:=λ_ _ _ _ st hQ=>wpAny_pyIter_keyiter st.1 hQ
theorem zon{d:Addr}{ep:Nat}(hh:A.handled=none)(hd:(d == Mc)=false)(D:DI.Ent s.heap d es ep)(hz:es.size<=sizeLine)
 (q:∀(h':Heap) (tk:Nat) (vs:Array Tn) (c:Nat),(∀b o,s.heap.get? b=some o->h'.get? b=some o)->h'.get? s.heap.objs.size=some { cls:=.type "list",dict:=none,data:=.seq vs c,slots:=#[] }->vs.size=es.size->(∀(i:Nat) v,vs[i]? = some v->∃p,es[i]? = some p/\p.key=v)->Q (.ref s.heap.objs.size) { s with heap:=h',toks:=tk }) :
 wpAny (model P w) A (call (.type "list") [.ref d]) Q E s:=by
 have hlt:d<s.heap.objs.size:=let ⟨o,e,_⟩:=D;Qt e
 refine callType_codes (Q₁:=λv s1=>v = .ref s.heap.objs.size/\s1 = { s with heap:=s.heap.push { cls:=.type "list",data:=.seq #[] } }) F.called_list (UR _) US (code_list_new _ ⟨rfl,rfl⟩) ?_;rintro _ _ ⟨rfl,rfl⟩;refine⟨⟨_,Qm _ rfl,rfl⟩,UF _ _,?_⟩;have nI:s.heap.objs.size≠d:=Jz hlt;have same:Jo (.ref s.heap.objs.size) (.ref d)=false:=by simp[Jo,nI]
 have t1:Zp "dict" ≠ Zp "list" := by decide
 have eS:(s.heap.push { cls:=.type "list",data:=.seq #[] }).get? s.heap.objs.size=some { cls:=.type "list",data:=.seq #[] }:=Qm _ rfl;obtain⟨hp,g,dr,tk,os⟩:=s
 have up:∀c o,hp.get? c=some o->((hp.push { cls:=.type "list",data:=.seq #[] }).update hp.objs.size (QF λ_=>(#[]:Array Tn))).get? c=some o:=λc o e=>by
  rw[ZF _ _ (Jz (Qt e))];exact Qe _ e
 have eS2:=Zo (QF (λ_=>(#[]:Array Tn))) eS rfl
 have D2:DI.Ent ((hp.push { cls:=.type "list",data:=.seq #[] }).update hp.objs.size (QF λ_=>(#[]:Array Tn))) d es ep:=by
  obtain⟨o,ho,r⟩:=D;exact⟨o,up d o ho,r⟩
 have hT:Ys ⟨((hp.push { cls:=.type "list",data:=.seq #[] }).update hp.objs.size (QF λ_=>(#[]:Array Tn))),g,dr,tk,os⟩ (.ref d) "dict" := DI.Ent.ty (s:=⟨((hp.push { cls:=.type "list",data:=.seq #[] }).update hp.objs.size (QF λ_=>(#[]:Array Tn))),g,dr,tk,os⟩) D2;have D3:DI.Ent (((hp.push { cls:=.type "list",data:=.seq #[] }).update hp.objs.size (QF λ_=>(#[]:Array Tn))).push { cls:=.type "dict_keyiterator",data:=.fields #[.ref d,.int 0 0,.int es.size 0,.int ep 0] }) d es ep:=let ⟨o,e,r⟩:=D2;⟨o,Qe _ e,r⟩ --{ cls:=.type "dict_keyiterator",data:=.fields #[.ref d,.int 0 0,.int es.size 0,.int ep 0] }
 have hT3:Ys ⟨((hp.push { cls:=.type "list",data:=.seq #[] }).update hp.objs.size (QF λ_=>(#[]:Array Tn))).push { cls:=.type "dict_keyiterator",data:=.fields #[.ref d,.int 0 0,.int es.size 0,.int ep 0] },g,dr,tk,os⟩ (.ref d) "dict" := DI.Ent.ty (s:=⟨((hp.push { cls:=.type "list",data:=.seq #[] }).update hp.objs.size (QF λ_=>(#[]:Array Tn))).push { cls:=.type "dict_keyiterator",data:=.fields #[.ref d,.int 0 0,.int es.size 0,.int ep 0] },g,dr,tk,os⟩) D3;unfold Builtin.«list.__init__»
 wp_walk using DI.it_ent hd D2,Mo hT,zth hT3
 have hltp:d<hp.objs.size:=hlt;have sz1:((hp.push { cls:=.type "list",data:=.seq #[] }).update hp.objs.size (QF λ_=>(#[]:Array Tn))).objs.size=hp.objs.size+1:=by rw[ZY,QU]
 have eI3:(((hp.push { cls:=.type "list",data:=.seq #[] }).update hp.objs.size (QF λ_=>(#[]:Array Tn))).push { cls:=.type "dict_keyiterator",data:=.fields #[.ref d,.int 0 0,.int es.size 0,.int ep 0] }).get? ((hp.push { cls:=.type "list",data:=.seq #[] }).update hp.objs.size (QF λ_=>(#[]:Array Tn))).objs.size=some { cls:=.type "dict_keyiterator",data:=.fields #[.ref d,.int 0 0,.int es.size 0,.int ep 0] }:=Qm _ rfl;have eS3:=Qe { cls:=.type "dict_keyiterator",data:=.fields #[.ref d,.int 0 0,.int es.size 0,.int ep 0] } eS2;have upL:∀c o,hp.get? c=some o->(((hp.push { cls:=.type "list",data:=.seq #[] }).update hp.objs.size (QF λ_=>(#[]:Array Tn))).push { cls:=.type "dict_keyiterator",data:=.fields #[.ref d,.int 0 0,.int es.size 0,.int ep 0] }).get? c=some o:=λc o e=>Qe _ (up c o e);generalize hh2:((hp.push { cls:=.type "list",data:=.seq #[] }).update hp.objs.size (QF λ_=>(#[]:Array Tn))).push { cls:=.type "dict_keyiterator",data:=.fields #[.ref d,.int 0 0,.int es.size 0,.int ep 0] }=h2 at D3 eI3 eS3 upL ⊢;have eS4:=Zo (QF (·.push ZP)) eS3 rfl;have eS5:=Zo (QF (·.pop)) eS4 rfl
 have keep:∀b o,b≠hp.objs.size->h2.get? b=some o->((h2.update hp.objs.size (QF (·.push ZP))).update hp.objs.size (QF (·.pop))).get? b=some o:=λb o nb e=>by
  rw[ZF _ _ (ZA nb),ZF _ _ (ZA nb)];exact e
 have nLI:hp.objs.size+1≠hp.objs.size:=G0 _;have ndI:d≠hp.objs.size+1:=Q2 (QP hltp);rw[sz1] at eI3
 have st4:((h2.update hp.objs.size (QF (·.push ZP))).update hp.objs.size (QF (·.pop))).IsKeyIter (hp.objs.size+1) d 0 es.size ep/\DI.Ent ((h2.update hp.objs.size (QF (·.push ZP))).update hp.objs.size (QF (·.pop))) d es ep:=by
  refine⟨⟨_,keep _ _ nLI eI3,rfl,rfl⟩,?_⟩;obtain⟨o,ho,r⟩:=D3;exact⟨o,keep d o (Q2 hltp) ho,r⟩
 have nLf:hp.objs.size ∉ [hp.objs.size+1,d]:=λz=>by
  simp only[Qs,Q4,jH] at z;rcases z with z|z
  .exact nLI z.symm
  .exact Jz hltp z
 show _/\MX _ _ (.builtin "list.extend.loop" ⟨[.ref hp.objs.size,.ref ((hp.push { cls:=.type "list",data:=.seq #[] }).update hp.objs.size (QF λ_=>(#[]:Array Tn))).objs.size,.none],[]⟩) _ _;rw[sz1];refine⟨M0 Vh _,MP (zx1 (P:=P) (w:=w) (A:=A.in1.in1) hh (hp.objs.size+1) d ndI es ep).toS hz _ nLf _ es.size 0 _ _ _ rfl (QE _) st4 eS5 (G6 _) λs' acc c mv eA hacc=>⟨rfl,?_⟩⟩;obtain⟨h5,g5,d5,tk5,os5⟩:=s';obtain rfl:g5=g:=mv.gens;obtain rfl:d5=dr:=mv.drawn;obtain rfl:os5=os:=mv.os;refine q h5 tk5 acc c (λb o e=>mv.heap b o (λz=>?_) ?_) eA (by have:=hacc.1;simpa using this) (λi v e=>?_)
 .have hbl:=Qt e;rcases Qs.mp z with z|z
  .exact Q2 hbl z
  .exact Q2 (QP hbl) (Qb.mp z)
 .exact keep b o (Q2 (Qt e)) (upL b o e)
 .obtain⟨p,h1,h2⟩:=hacc.2 i v e;exact⟨p,h1,h2⟩
end
end L3
namespace PySem
section
variable {prog:Tr}{w:Tt}{K:Type}[DecidableEq K]{knd:HeapKind prog w K}{A:Tv}{E:Tn->To->Prop}{s:To}
theorem zwc{d:Addr}(hu:knd.room A)(hkey:knd.is s.heap k a)(hm:s.heap.DictOfH knd d xs)
 (old:∀u,(No xs k).map (·.2)=some u->Q u { s with toks:=s.toks+knd.draws k })
 (new:No xs k=none->∀h',h'.DictOfH knd d (storedH xs k a v)->Zk d s.heap h'->Q v { s with heap:=h',toks:=s.toks+knd.draws k })
 (hsz:xs.length<=sizeLine):wpAny (model prog w) A (NK d (.ref a) v) Q E s:=by
 obtain⟨o,es,ep,ho,hc,hd,he,his,hn⟩:=hm;unfold NK
 try with_reducible refine TF ?_
 refine Tj (knd.pyHash hu hkey ?_);refine Tj (wpAny_dictFind_heap (s:={ s with toks:=s.toks+knd.draws k }) hu hkey ho hd he his hn (λhno=>?_) λj p hj=>?_)
 .have an:=atKey_none_of_get hno;have hnot:k ∉ xs.map (·.1):=not_mem_keys_of_get hno;refine Tj (TW (Tj (wpAny_updateDictKeys (hz:=by have e:=size_of_entries he;lia) (s:={ s with toks:=s.toks+knd.draws k }) ho hd (Tk (new an _ ⟨_,_,ep+1,Zo _ ho (Obj.isFreed_of_dict (Ut hd _)),hc.mapDictKeys _,Ut hd _,?_,?_,?_⟩ (Jg ..))))))
  .rw[NR an];simp[he,entryOfKey]
  .rw[NR an];intro x hx;rcases Qv.mp hx with hx|hx
   .exact knd.keeps (his x hx) ho hd (Jg ..)
   .obtain rfl:=Qb.mp hx;exact knd.keeps hkey ho hd (Jg ..)
  .rw[NR an,Q7,Yd];refine⟨hn,by simp,λx hx y hy e=>?_⟩;obtain rfl:=Qb.mp hy;exact hnot (e ▸ hx)
 .refine Tj (Ni (s:={ s with toks:=s.toks+knd.draws k }) ho hd ?_);rw[entry_at he j,hj];exact Tj (TW (Tk (old _ (by rw[atKey_of_get hn hj];rfl))))
end
end PySem
namespace L3
open PySem PySem.Spec
open PyProof.Rows hiding St
open L2
def zng(w:Tt)(K:Qa)(td ty tv:TE):TE:=λσ H Q=>td σ H λx H1=>∃(a:Addr) (ks0:List Tl) (xs0:List V),x = .ref a/\H1 a=some (ddO w ks0 a xs0)/\ty σ H1 λy H2=>tv σ H2 λv H3=>∃(ks vs:List Tl) (us ys:List V) (F:Addr->Prop) (k:Tl),H3 a=some (ddO w ks a (us++ys))/\us.length=ks.length/\IsAll K F H3 (us++ys) (ks++vs) /\
 Is K F H3 y k/\HK.DKey k/\ks.length<sizeLine/\(k∈ks->∀u,Q u H3)/\(k ∉ ks->Q v (upd H3 a (ddO w (ks ++ [k]) a ((us ++ [y])++(ys ++ [v])))))
section
variable {X:Cx}{o e f:Expr}{apos cpos:Pos}{td ty tv:TE}
theorem zwj(hu:X.A.units+64<cLine)(ho:PE X o td)(he:PE X e ty)(hf:PE X f tv)(m:M2 X o "setdefault" apos e f cpos):PE X (.Call (.Attribute o "setdefault" apos) [e,f] [] cpos) (zng X.w X.K td ty tv):=by
 intro pins s σ H Q I h;refine wpAny_Call_method m.base m.few m.line PySem.F.plainAttrs_dict Vc PySem.F.type_dict_setdefault (thn (ho pins s σ H _ I h) λu s1 zz=>?_);obtain⟨x,H1,I1,rx,a,ks0,xs0,ex,g0,q1⟩:=zz;subst ex;obtain rfl:u=QN a:=rx;obtain⟨_,_,_,_,_,_,_,ob,es,ep,h7,h8,h9,_⟩:=(show ObjOk X.prog X.w H1 s1.heap a (ddO X.w ks0 a xs0) from I1.hok a _ g0).1;refine⟨⟨ob,h7,h8.1⟩,λb q=>by cases q;exact⟨ob,h7,h8.2.1⟩,?_⟩;rw[m.trees]
 refine Y7 rfl (Uj (Z0 (thn (he pins s1 σ H1 _ I1 q1) λiv s2 ⟨y,H2,I2,ry,q2⟩=>
  Z0 (thn (hf pins s2 σ H2 _ I2 q2) λr s3 zz=>ZJ ?_))))
 obtain⟨v,H3,I3,rv,ks,vs,us,ys,F,k,g,lu,is,iy,hk,hz,q3,q4⟩:=zz;obtain⟨hd,z,nd,dk,zs,h5,h6,Dd⟩:=zy1 I3 g is;obtain⟨b,rfl,rfl,kb⟩:=z2j I3 hk iy ry;have l5:zs.length=ks.length:=by rw[<- h5,Qc]
 have T:s3.TypeIs (.ref a) "dict" := Dd.typeIs;refine Tw Vc T PySem.F.entry_dict_setdefault ?_ (PySem.F.args_dict_setdefault_3 _ _ _);unfold Builtin.«dict.setdefault» Builtin.Dict.keyAndDefault;refine Tj (Tj (NG T ?_));show wpAny _ _ (pure (a,QN b,some r)) _ _ s3;refine Tk ?_;show wpAny _ _ (if(a == Mc)=true then _ else(NK a (.ref b) r >>= _)) _ _ s3;rw[j8 (by rw[hd];exact Q8)];refine Tj (zwc (knd:=HK.dataKind X.prog X.w) (show _+16<cLine by show X.A.units+1+16<cLine;lia) kb Dd (λu hu'=>Tk ?_) (λhn h' D' sb=>Tk ?_) (by lia))
 .have ks1:k∈ks:=by
   have:=zmf h5 nd (k:=k)
   cases hh:No zs k with
   | none=>rw[hh] at hu';cases hu'
   | some p=>rw[hh] at this;exact jB this.symm
  obtain⟨i,hi⟩:=QQ.mp ks1;obtain⟨p,hz',hp⟩:=zsw h5 nd hi;rw[hp] at hu';cases hu';have il:i<ks.length:=(Qi.mp hi).1;have lx:=h6.length;rw[Qq,Qq,Qc,Qc] at lx;obtain⟨u',e1,r'⟩:=h6.get (i:=ks.length+i) (x:=(us++ys)[ks.length+i]'(by rw[Qq];lia)) (Qg _);rw[Z7 (by simp;lia),Qj,Qc,show ks.length+i-zs.length=i by lia,hz'] at e1;cases e1;exact⟨_,rfl,_,H3,I3.tok _,r',q3 ks1 _⟩
 .have nk:k ∉ ks:=λhm=>by
   have:=zmf h5 nd (k:=k);rw[hn,j9 hm] at this;cases this
  refine⟨_,rfl,v,_,?_,rv,q4 nk⟩;rw[NR hn] at D';obtain⟨q,es,ep,hq,e2,e3,e4,_,e5⟩:=D';refine zht I3 (by rw[g];exact YJ) sb ⟨q,hq⟩ (zx9 ⟨hd,by simp;lia,?_,?_,zs ++ [(k,b,r)],by rw[Q7,h5];rfl,?_,q,es,ep,hq,e2,e3,e4⟩)
  .rw[Q7,h5] at e5;exact e5
  .intro k' hk';rcases Qv.mp hk' with z|z
   .exact dk k' z
   .rw[Qb.mp z];exact hk
  .have hu:=h6.take zs.length;have hy:=h6.drop zs.length;rw[Ju (by lia),Je (by lia),Ju (by simp),Je (by simp)] at hu;rw[show zs.length=us.length by lia,Uu,show us.length=(zs.map λz=>QN z.2.1).length by simp;lia,Uu] at hy;rw[Q7,Q7];exact(hu.append (.cons (show RelV (.ref b) (.ref b) from rfl) .nil)).append (hy.append (.cons rv .nil))
def zke(w:Tt)(K:Qa):List V->Hp->VK->Prop:=λvs H Q=>∃(a:Addr) (ks ws:List Tl) (us ys:List V) (F:Addr->Prop),vs = [.ref a]/\H a=some (ddO w ks a (us++ys))/\us.length=ks.length/\IsAll K F H (us++ys) (ks++ws)/\∀p,H p=none->Q (.ref p) (upd H p (.lst us))
theorem zoh(hc:X.calm=true):CallR X (.type "list") (zke X.w X.K):=by
 intro pins s σ H xs us Q I r h;obtain⟨a,ks,ws,vs,ys,F,rfl,g,lu,is,q⟩:=h;obtain⟨u,rfl,ru⟩:=Vals.one r;obtain rfl:u=QN a:=ru;obtain⟨hd,z,nd,dk,zs,h5,h6,o,es,ep,ho,hx,hdt,he,_⟩:=zy1 I g is;have l5:zs.length=ks.length:=by rw[<- h5,Qc]
 have le:es.size=zs.length:=by rw[<- QV,he,Qc]
 refine zon (I.ok.hd hc) hd ⟨o,ho,hx,hdt⟩ (by lia) λh' tk acc c kk e sz it=>?_;refine⟨.ref _,_,I.laid (a:=s.heap.objs.size) (o:=.lst vs) kk (Qh _) ?_,rfl,q _ I.fresh⟩;have hu:=h6.take zs.length;rw[Ju (by lia),Je (by lia),Ju (by simp),Je (by simp)] at hu
 have ea:acc.toList=zs.map λz=>QN z.2.1:=by
  refine ZB λi=>?_
  by_cases hi:i<zs.length
  .have hv:acc[i]? = some acc[i]:=Q5 (by lia);obtain⟨p,hp,e1⟩:=it i _ hv;rw[QK,hv,<- e1,Qj];have hp':es.toList[i]? = some p:=by rw[QK];exact hp
   rw[he,Qj] at hp';obtain⟨z,hz',e2⟩:=Qw.mp hp';rw[hz',<- e2];rfl
  .rw[QD (by rw[QV];lia),QD (by rw[Qc];lia)]
 exact⟨by lia,acc.toList,c,by rw[ea];exact hu,by simpa using e⟩
end
section
variable {K:Qa}{O:Ob}
def zvh(w:Tt)(n:Nat)(fk fv:DE):DS:=λDd ρ=>∃ks vs,ks.length=vs.length/\ρ[n]? = some (some (.gen (ddO w ks) (ks++vs)))/\fk ρ λrk=>fv ρ λrv=>flat rv.d=true/\HK.DKey rk.d/\ks.length<sizeLine/\(rk.d∈ks->Dd.nx ρ)/\(rk.d ∉ ks->Dd.nx (ρ.set n (some (.gen (ddO w (ks ++ [rk.d])) ((ks ++ [rk.d])++(vs ++ [rv.d]))))))
theorem zx4{w:Tt}{n:Nat}(hk:ED K O tk fk)(hv:ED K O tv fv):SD K O (zd2 (zng w K (tVar n) tk tv)) (zvh w n fk fv):=λH₀ A σ H ρ D Dd r q P=>by
 obtain⟨ks,vs,ln,e,q⟩:=q;obtain⟨u,h1,a0,xs0,rfl,ha0,hl0,hs0⟩:=r.at_ n _ e;refine⟨_,h1,a0,ks,xs0,rfl,hl0,?_⟩;refine hk σ H ρ _ _ r.seen q λy H1 z s1 o1 q1=>?_;have r1:=r.stp s1;refine hv σ H1 ρ _ _ r1.seen q1 λv H2 x s2 o2 zz=>?_;obtain⟨fl,dk,hz,qo,qn⟩:=zz;have r2:=r1.stp s2;obtain⟨u,h2,a,xs,e2,ha,hl,hs⟩:=r2.at_ n _ e;rw[h1] at h2;cases h2;cases e2;have lx:=hs.length;rw[Qq] at lx;have hu:=hs.take ks.length;have hy:=hs.drop ks.length;rw[Ur] at hu;rw[Uu] at hy;have ex:xs.take ks.length++xs.drop ks.length=xs:=YI _ _;have iy:Is K (unO O A) H2 y z.d:=Is.flat s2.t (o1.is r.ok r.p) (zkp _ dk.ha);have iv:Is K (unO O A) H2 v x.d:=Is.flat (TupStay.refl H2) (o2.is r1.ok r1.p) fl;refine⟨ks,vs,xs.take ks.length,xs.drop ks.length,unO O A,z.d,by rw[ex];exact hl,by rw[QX];lia,by rw[ex];exact hs,iy,dk,hz,λm _=>?_,λm=>?_⟩
 .exact P.nx A σ H2 ρ r2 (.stp (s1.trans s2)) (qo m)
 .have rr:=r2.changeG (f':=ddO w (ks ++ [z.d])) (ys:=(xs.take ks.length ++ [y])++(xs.drop ks.length ++ [v])) (es:=(ks ++ [z.d])++(vs ++ [x.d])) e h1 ha zpb ((hu.snoc iy).append (hy.snoc iv));exact P.nx A σ _ _ rr ((Frm.stp (s1.trans s2)).trans (.change ha)) (qn m)
abbrev KKD:=List Tl->List Tl->Prop
def SDd(w:Tt)(K:Qa)(O:Ob)(t:TS)(g:KKD->DSt->Prop):Prop:=∀(H₀:Hp) (A:Nat->Addr->Prop) (σ:St) (H:Hp) (ρ:DSt) (R:VK) (Qk:KKD) (Nx:St->Hp->Prop),Rep K O H₀ A H σ ρ->g Qk ρ->(∀ks vs a xs H',Qk ks vs->ks.length=vs.length->Stp O H₀ H'->H₀ a=none->¬O.M a->H' a=some (ddO w ks a xs)->IsAll K (unM O) H' xs (ks++vs)->R (.ref a) H')->t { nx:=Nx,rt:=R } σ H
theorem zz5{w:Tt}{m:Nat}:SDd w K O (tRet (tVar m)) (λQk ρ=>∃ks vs,ks.length=vs.length/\ρ[m]? = some (some (.gen (ddO w ks) (ks++vs)))/\Qk ks vs):=λH₀ A σ H ρ R Qk Nx r ⟨ks,vs,ln,e,q⟩ k=>by
 obtain⟨v,hv,a,xs,rfl,ha,hl,hs⟩:=r.at_ m _ e;obtain⟨h1,_,h3⟩:=r.own m a ha;exact⟨_,hv,k ks vs a xs H q ln r.st h1 h3 hl (hs.to (λb ys f q=>⟨f.1,q⟩) λb ys q=>q)⟩
theorem zw3{w:Tt}(h:SD K O t g1)(h':SDd w K O u g2):SDd w K O (tSeq t u) (λQk ρ=>g1 { nx:=g2 Qk,rt:=λ_=>False } ρ):=λH₀ A σ H ρ R Qk Nx r q k=>by
 refine h H₀ A σ H ρ _ _ r q ⟨λA' σ' H' ρ' r' _ q'=>?_,λ_ _ _ _ _ _ z=>z.elim,λ_ _ _ _ _ _ z=>z.elim,λ_ _ _ _ _ z=>z.elim⟩;exact h' H₀ A' σ' H' ρ' R Qk Nx r' q' k
def spDd(w:Tt)(K:Qa)(φ:Ob->Prop)(n:Nat)(f:List Tl->KKD->Prop):Sp:=λvs H Q _=>
 ∃(O:Ob) (ds:List Tl) (Qk:KKD),O.Ok/\φ O/\O.P H/\ds.length=n/\IsAll K (unM O) H vs ds/\f ds Qk/\∀ks ws a xs H',Qk ks ws->ks.length=ws.length->Stp O H H'->H a=none->¬O.M a->H' a=some (ddO w ks a xs)->IsAll K (unM O) H' xs (ks++ws)->Q (.ref a) H'
end
def zut(n:Nat)(f:List Tl->(List Tl->List Tl->Prop)->Prop)(g:DA):DE:=λρ Q=>g ρ λds=>ds.length=n/\f ds λks _=>Q (.n ks)
section
variable {K:Qa}{O:Ob}
theorem zxc{w:Tt}{φ:Ob->Prop}{n:Nat}{f:List Tl->KKD->Prop}{ps:List Str}(hn:ps.length=n):∀vs H Q E,spDd w K φ n f vs H Q E->vs.length=ps.length:=λvs H Q E zz=>by obtain⟨O,ds,_,_,_,_,h,is,_⟩:=zz;rw[is.length,h,hn]
theorem zvk{w:Tt}{n:Nat}(hφ:φ O)(h:AD K O t g):ED K O (tCB (zke w K) (za0 (zds (spDd w K φ n f) [] E t) tNil)) (zut n f g):=λσ H ρ Q Qd S q k=>by
 refine h σ H ρ _ _ S q λvs H1 ds s1 is zz=>?_;obtain⟨hn,q1⟩:=zz;rw[ZK];refine⟨O,ds,_,S.ok,hφ,s1.p S.p,hn,is,q1,λks ws a xs H' qk ln s2 ha nm e z=>?_⟩;have lx:=z.length;rw[Qq] at lx;have ex:xs.take ks.length++xs.drop ks.length=xs:=YI _ _;refine⟨a,ks,ws,xs.take ks.length,xs.drop ks.length,unM O,rfl,by rw[ex];exact e,by rw[QX];lia,by rw[ex];exact z,λp hp=>?_⟩;have st:=s1.trans s2;have nmp:¬O.M p:=zxs S.ok (st.p S.p) hp
 have hp0:H p=none:=by
  cases h0:H p with
  | none=>rfl
  | some o=>rw[st.s p o h0 nmp] at hp;cases hp
 have sn:Stp O H' (upd H' p (.lst (xs.take ks.length))):=.new S.ok hp _;have hu:=z.take ks.length;rw[Ur] at hu;exact k _ _ (.n ks) (st.trans sn) ⟨p,_,rfl,hp0,zak,hu.stp sn (λ_ f=>f) λ_ f=>f⟩ qk
end
section
variable {ι κ:Type}{P:Tr}{w:Tt}{K:Qa}{mg:Str->Option Tn}{base:Heap}{k:Nat}{X:ι->Cx}{O:κ->Ob}{a b:Expr}{fa fb:DE}{pos p px p1 p2 p3 apos cpos:Pos}{x y:Str}{es:List Expr}{g1:DS}{st:Stmt}{sts:List Stmt}
theorem zze(n:Nat)(C:Ctx3 P w K mg base k X)(hk:E3 K X O a fa)(hw:E3 K X O b fb)(hN:∀i,(X i).N[n]? = some x:=by intro i;rfl)(hv:∀i,Vis (X i).env.scope x:=by intro i;first|exact Or.inl rfl|exact Or.inr (Or.inl rfl)|exact Or.inr (Or.inr rfl))(hd:(x == ("__debug__" : Str))=false:=by decide)(hcd:(x == ("__classdict__" : Str))=false:=by decide)
 (m:∀i,M2 (X i) (.Name x px) "setdefault" apos a b cpos:=by intro i;exact⟨rfl,rfl,rfl,rfl⟩) (hsw:∀i,M1 (.Call (.Attribute (.Name x px) "setdefault" apos) [a,b] [] cpos) none pos.line (X i).env=pure false:=by intro i;rfl) :
 S3 K X O (.Expr (.Call (.Attribute (.Name x px) "setdefault" apos) [a,b] [] cpos) pos) (zvh w n fa fb):=let ⟨_,q1,d1⟩:=hk;let ⟨_,q2,d2⟩:=hw
 ⟨zd2 (zng w K (tVar n) _ _),λi=>by
  have h:=zwj (apos:=apos) (cpos:=cpos) (C.room i).units (zam (pos:=px) (hN i) (hv i) hd hcd) (q1 i) (q2 i) (m i);rw[C.hw,C.hK] at h
  exact zhx h (hsw i),λj=>zx4 (d1 j) (d2 j)⟩
def Sd3(w:Tt)(K:Qa)(X:ι->Cx)(O:κ->Ob)(s:List Stmt)(g:KKD->DSt->Prop):Prop:=∃t,(∀i,PSs (X i) s t)/\∀j,SDd w K (O j) t g
theorem z3n(m:Nat)(hN:∀i,(X i).N[m]? = some x:=by intro i;rfl)(hv:∀i,Vis (X i).env.scope x:=by intro i;first|exact Or.inl rfl|exact Or.inr (Or.inl rfl)|exact Or.inr (Or.inr rfl))(hd:(x == ("__debug__" : Str))=false:=by decide)(hcd:(x == ("__classdict__" : Str))=false:=by decide):
 Sd3 w K X O [.Return (some (.Name x px)) pos] (λQk ρ=>∃ks vs,ks.length=vs.length/\ρ[m]? = some (some (.gen (ddO w ks) (ks++vs)))/\Qk ks vs):=⟨_,λi=>zdo (zfm (zam (hN i) (hv i) hd hcd)),λj=>zz5⟩
theorem zqn(h:S3 K X O st g1)(h':Sd3 w K X O sts g2):Sd3 w K X O (st::sts) (λQk ρ=>g1 { nx:=g2 Qk,rt:=λ_=>False } ρ):=let ⟨_,p,d⟩:=h;let ⟨_,p2,d2⟩:=h';⟨_,λi=>zbo (p i) (p2 i),λj=>zw3 (d j) (d2 j)⟩
theorem zx6{k' m:Nat}(C:Ctx3 P w K mg base k X)(B:Blt mg)(D:Def3 P w K mg base k' y ps (spDd w K φ m F))(hφ:∀j,φ (O j))(ha:A3 K X O (a::es) gd)(hk:k'<=k:=by decide)(hg:∀i,Gl (X i) y:=by intro i;rfl)
 (hdb:(y == ("__debug__" : Str))=false:=by decide) (he:∀i,Tq (a::es) (X i).env=(false,eval a (X i).env)::Tq es (X i).env:=by intro i;rfl) (hpl:∀i,(Mi p2 (Tq es (X i).env)).any (·.1)=false:=by intro i;rfl)
 (gl:∀i,Gl (X i) "list" := by intro i;rfl) (h1:∀i,Tq [.Call (.Name y p1) (a::es) [] p2] (X i).env=(false,eval (.Call (.Name y p1) (a::es) [] p2) (X i).env)::Tq [] (X i).env:=by intro i;rfl) (h2:∀i,(Mi pos (Tq [] (X i).env)).any (·.1)=false:=by intro i;rfl) :
 E3 K X O (.Call (.Name "list" p3) [.Call (.Name y p1) (a::es) [] p2] [] pos) (zut m F gd):=by
 obtain⟨f,fd,G,mm,kp,bn⟩:=D.ex;obtain⟨t,q,d⟩:=ha;refine⟨tCB (zke w K) (za0 (zds (spDd w K φ m F) [] E0 t) tNil),λi=>?_,λj=>zvk (hφ j) (d j)⟩;have G':FnOk (X i).prog (X i).w (X i).K (X i).mg (X i).base CX0 k f fd ps (spDd w K φ m F):=by rw[C.hP,C.hw,C.hK,C.hmg,C.hb];exact G.mono hk
 have hc:=zoh (X:=X i) (C.calm i);rw[C.hK,C.hw] at hc;exact zlo (p:=p3) (pos:=pos) hc (gl i) (by rw[C.hmg];exact B.list) zpl (za3 (zfg G' (C.room i) (hg i) (by rw[C.hmg];exact mm) (by rw[C.hK];exact kp) (by rw[C.hK];exact bn) .nil zix (q i) hdb (he i) (hpl i)) zbs (h1 i)) (by decide) (by decide) (h1 i) (h2 i)
end
section
variable {P:Tr}{w:Tt}{K:Qa}{mg:Str->Option Tn}{base:Heap}{k n:Nat}{x:Str}{st:Stmt}{N ps:List Str}{φ:Ob->Prop}{F:List Tl->KKD->Prop}
theorem z7h(T:Top3 K mg x st)(S:FnScope N ps (zai st))(hb:∀(kV doc pm:Tn) (an:Option Addr) (cdv ct:Tn) (us:List Tn),us.length=ps.length->My (Jd x x (zci st) (zbp st) (zai st) .none kV doc pm an cdv ct) ⟨us,[]⟩=pure (ps.zip us))(hn:ps.length=n)
 (body:∀(f:Addr) (cdv:Tn) (A:Tv) (outer:List Env) (s:To) (H:Hp) (E:XK) (O:Ob),φ O->Ctx3 P w K mg base k (zdf P w K mg base N x (zai st) f cdv A outer s H E) ->
  ∃g,Sd3 w K (zdf P w K mg base N x (zai st) f cdv A outer s H E) (λ_:Unit=>O) (zbp st) g/\∀ds Qk,ds.length=n->F ds Qk->g Qk (zdu N (ds.map .im))):Def3 P w K mg base (k+1) x ps (spDd w K φ n F):=by
 obtain⟨f,fd,Fu,m⟩:=T.ex;refine⟨f,fd,Fu.ok S (zxc hn) (λcdv A outer s H vs Q E hr h=>?_),m,Fu.kp,Fu.binds hb⟩;obtain⟨O,ds,Qk,ok,hφ,p,hl,is,q,kk⟩:=h;obtain⟨g,⟨t,h1,h2⟩,h3⟩:=body f cdv A outer s H E O hφ (zf7 hr);refine⟨t,h1 (),?_⟩
 have r:=zhb (K:=K) (O:=O) (N:=N) (H:=H) (vs:=vs) (rs:=ds.map .im) ok p (by rw[Qc];exact is.length) λi r e=>by
  rw[Qj] at e;obtain⟨d,hd,rfl⟩:=Qw.mp e;obtain⟨v,hv,iv⟩:=is.get hd;exact⟨v,hv,.inl ⟨d,rfl,iv⟩⟩
 exact h2 () H _ _ H _ Q Qk _ r (h3 ds Qk hl q) λks vs a xs H' qk ln s2 ha nm e z=>kk ks vs a xs H' qk ln s2 ha nm e z
end
end L3
namespace L6
open PySem PyProof.Rows
section
variable {prog:Tr}{w:Tt}{A:Tv}{E:Tn->To->Prop}{s:To}
theorem zwf{α:Type}{blt:α->α->Bool}{k:Nat->α}{e ea:Nat}(hl:ks.length=vs.length)(h64:vs.length<=63)
 (hk:s.heap.get? kS=some (seqObj "list" ks.toArray e)) (ha:s.heap.get? a=some (seqObj "list" #[] ea)) (hne:kS≠a) (K:KeysOk prog w A s ks vs blt k)
 (h:∀ix,Ord blt k vs.length ix->P (.done (.ret .none)) { s with heap:=(s.heap.update kS (QF λ_=>#[])).update a (QF λ_=>(zbt vs ix).toArray) }) :
 wpAny (model prog w) A (ksk_end a false vs.toArray ea (.ref kS) ks.toArray) P E s:=by
 have hz:(ks.toArray.zip vs.toArray).size=vs.length:=by simp[hl]
 have ha2:(s.heap.update kS (QF λ_=>#[])).get? a=some (seqObj "list" #[] ea):=by
  have:=MD hk (λ_=>#[]);rw[Z5 _ _ _ _ (ZA hne)];exact ha
 have fin:∀(st':SortSt) ix,(MF st').size=vs.length->(∀i,i<vs.length->(MF st')[i]? = (ks.toArray.zip vs.toArray)[ix i]?)->Nc st'=none->Ord blt k vs.length ix ->
  wpAny (model prog w) A (ksk_tail a false ea (.ref kS) st') P E s:=λst' ix z1 z2 z3 o=>by
  have ep:=zpa hl o.bj z1 z2;unfold ksk_tail;dsimp only;refine Tj (Mz hk rfl ?_ (by rw[Ts];simp;lia));refine Tj (Nj ?_);refine Tj (NN ha2 rfl ?_)
  refine Tj (Mz ha2 rfl ?_ (hsz2:=by
   rw[Ts];simp only[QI,jD];rw[ep];simp[zbt]
   lia))
  rw[z3];simp only[jL,QI,jD];rw[ep];exact Tk (h ix o)
 unfold ksk_end;dsimp only;simp only[QI,jD]
 by_cases h2:vs.toArray.size<2
 .rw[j7 h2,j7 h2];refine Tj (Tk ?_);rw[GG];refine Tj (Tk ?_);have h2':vs.length<2:=by simpa using h2
  refine fin _ (λi=>i) hz (λi _=>rfl) rfl ⟨Bij.idf,λi j z1 z2=>by lia⟩
 .rw[j8 h2,j8 h2];have h2':2<=vs.length:=by simpa using h2
  obtain⟨kd,kk,cm⟩:=K.kd h2';refine Tj (kk _ _ ?_)
  refine Tj (TQ (zpk (kd:=kd) (st:=GU kd (ks.toArray.zip vs.toArray) #[] 7 none) (Q:=λ_ st'=>∃ix,(MF st').size=vs.length/\(∀i,i<vs.length->(MF st')[i]? = (ks.toArray.zip vs.toArray)[ix i]?)/\Nc st'=none/\Ord blt k vs.length ix)
   K.wo cm ⟨rfl,λi _=>rfl,Bij.idf,rfl,rfl,rfl⟩ (by lia) (by lia) λix st' z1 z2 z3 z4 z5=>?_) ?_ λ_ _ e=>e)
  .rw[hz] at z1 z2 z3 z5;exact⟨ix,z1,z2,z4,z3,z5⟩
  .rintro⟨⟨⟩,st'⟩ s' ⟨rfl,ix,z1,z2,z3,z4⟩;exact fin st' ix z1 z2 z3 z4
theorem zvr{ea:Nat}(J:Nat->List Tn->To->Prop)(h64:vs.length<=63)(h0:J 0 [] s)
 (step:∀(i:Nat) (x:Tn) (ks:List Tn) (s':To),vs[i]? = some x->ks.length=i->J i ks s'->wpAny (model prog w) A (call f [x]) (λkv s2=>(∃e,s2.heap.get? kS=some (seqObj "list" ks.toArray e))/\J (i+1) (ks ++ [kv]) { s2 with heap:=s2.heap.update kS (QF (·.push kv)) }) (λ_ _=>False) s')
 (fin:∀(ks:List Tn) (s':To),ks.length=vs.length->J vs.length ks s'->∃(α:Type) (blt:α->α->Bool) (k:Nat->α) (e:Nat),s'.heap.get? kS=some (seqObj "list" ks.toArray e)/\s'.heap.get? a=some (seqObj "list" #[] ea)/\kS≠a/\KeysOk prog w A s' ks vs blt k /\
  ∀ix,Ord blt k vs.length ix->P (.done (.ret .none)) { s' with heap:=(s'.heap.update kS (QF λ_=>#[])).update a (QF λ_=>(zbt vs ix).toArray) }) :
 wpAny (model prog w) A (ksk_rest a f false vs.toArray ea (.ref kS)) P E s:=by
 unfold ksk_rest;refine Tj (TW ?_);refine Tj ?_;rw[<- JU];refine ksk_fold (λi s'=>∃ks,ks.length=i/\J i ks s') vs 0 s ⟨[],rfl,h0⟩ (λj x s' hx zz=>?_) λs' zz=>?_
 .obtain⟨ks,hk,hJ⟩:=zz;rw[Vl] at hk hJ ⊢;have hj:j<vs.length:=(Qi.mp hx).1;refine Tj (Mk (TQ (step j x ks s' hx hk hJ) (λkv s2 ⟨⟨e,h1⟩,h2⟩=>?_) λ_ _ z=>z.elim));dsimp only;refine Tj (Mz h1 rfl ?_ (by rw[Ts];simp;lia) (by rw[Ts];simp;lia));exact Tk ⟨rfl,ks ++ [kv],by simp[hk],h2⟩
 .obtain⟨ks,hk,hJ⟩:=zz;rw[Vl] at hk hJ;obtain⟨α,blt,k,e,h1,h2,h3,h4,h5⟩:=fin ks s' hk hJ;refine Tj (N6 h1 rfl ?_);exact zwf hk h64 h1 h2 h3 h4 h5
end
end L6
namespace HK
open PySem PySem.Spec PyProof.Rows SX TB L6
section
variable {prog:Tr}{w:Tt}{A:Tv}{E:Tn->To->Prop}{s:To}
theorem zf3{α:Type}{blt:α->α->Bool}{k:Nat->α}{n:Nat}(ho:s.heap.get? a=some (seqObj "list" vs.toArray n))(h64:vs.length<=63)(K:KeysOk prog w A { s with heap:=zeu s.heap a vs } vs vs blt k)
 (h:∀ix,Ord blt k vs.length ix->P (.done (.ret .none)) { s with heap:=NA s.heap a vs (zbt vs ix).toArray }):wpAny (model prog w) A (Builtin.«list.sort» ⟨[.ref a],[]⟩) P E s:=by
 rw[list_sort_plain];have ha:a<s.heap.objs.size:=Qt ho;refine Tj (N6 ho rfl ?_);refine Tj (Mz ho rfl ?_);obtain⟨e1,ho1⟩:∃e1,(s.heap.update a (QF λ_=>#[])).get? a=some (seqObj "list" #[] e1):=⟨_,MD ho (λ_=>#[])⟩;refine Tj (NN ho1 rfl ?_);refine Tj (MK ?_);refine Tj (MB ?_);refine TF ?_
 have ho6:(zeu s.heap a vs).get? a=some (seqObj "list" #[] e1):=by
  rw[JJ _ _ _ (by rw[Mr,ZY];exact Q2 (QP ha)),JJ _ _ _ (by rw[ZY];exact Q2 ha)];exact ho1
 show wpAny (model prog w) A _ P E { s with heap:=zeu s.heap a vs };dsimp only;have hz:(vs.toArray.zip vs.toArray).size=vs.length:=by simp
 have fin:∀(st':SortSt) ix,(MF st').size=vs.length->(∀i,i<vs.length->(MF st')[i]? = (vs.toArray.zip vs.toArray)[ix i]?)->Nc st'=none->Ord blt k vs.length ix ->
  wpAny (model prog w) A (do
   let touched:=(<- seqEpoch a) != e1
   VF (.ref a) λ_=>(MF st').map (·.2)
   if let some e:=Nc st' then rule "list.sort.comparison-raised";throw e
   if touched then rule "list.sort.modified";raiseError "ValueError" "list modified during sort"
   ret .none) P E { s with heap:=zeu s.heap a vs }:=λst' ix z1 z2 z3 o=>by
  have ep:=zpa rfl o.bj z1 z2;refine Tj (NN ho6 rfl ?_)
  refine Tj (Mz ho6 rfl ?_ (hsz2:=by
   rw[Ts,ep];simp[zbt]
   lia))
  rw[z3];simp only[jL,QI,jD];rw[ep];exact Tk (h ix o)
 by_cases h2:vs.toArray.size<2
 .rw[j7 h2,j7 h2];refine Tj (Tk ?_);rw[GG];refine Tj (Tk ?_);have h2':vs.length<2:=by simpa using h2
  exact fin (GU general' (vs.toArray.zip vs.toArray) #[] 7 none) (λi=>i) hz (λi _=>rfl) rfl ⟨Bij.idf,λi j z1 z2=>by lia⟩
 .rw[j8 h2,j8 h2];have h2':2<=vs.length:=by simpa using h2
  obtain⟨kd,kk,cm⟩:=K.kd h2';refine Tj (kk _ _ ?_)
  refine Tj (TQ (zpk (kd:=kd) (st:=GU kd (vs.toArray.zip vs.toArray) #[] 7 none) (Q:=λ_ st'=>∃ix,(MF st').size=vs.length/\(∀i,i<vs.length->(MF st')[i]? = (vs.toArray.zip vs.toArray)[ix i]?)/\Nc st'=none/\Ord blt k vs.length ix)
   K.wo cm ⟨rfl,λi _=>rfl,Bij.idf,rfl,rfl,rfl⟩ (by lia) (by lia) λix st' z1 z2 z3 z4 z5=>?_) ?_ λ_ _ e=>e)
  .rw[hz] at z1 z2 z3 z5;exact⟨ix,z1,z2,z4,z3,z5⟩
  .rintro⟨⟨⟩,st'⟩ s' ⟨rfl,ix,z1,z2,z3,z4⟩;exact fin st' ix z1 z2 z3 z4
end
end HK
namespace HK
open PySem PySem.Spec PyProof.Rows SX TB L6
section
variable {prog:Tr}{w:Tt}{A:Tv}{E:Tn->To->Prop}{s:To}
theorem zqy{ep:Nat}{m:Nat}{Sp:Addr->Tl->Prop}(hh:A.handled=none)(T:Kx w h0 Sp s.heap S es ep t ks m)(X:Ext h0 s.heap)(hd0:zal σ d0)(hs:∀d∈ks,zal σ d)(h64:es.size<=63)(hu:A.units+64<cLine)
 (k:∀(h':Heap) (d':Drawn) (tk:Nat) (qs:List (Addr×Tl)) (c:Nat) (l:Addr),Ext s.heap h'->s.heap.objs.size<=l->h'.get? l=some (seqObj "list" (qs.map λq=>QN q.1).toArray c)->(∀q∈qs,Sp q.1 q.2)->(qs.map (·.2)).Perm ks->(qs.map (·.2)).Pairwise (λa b=>dlt a b=true)->Q (.ref l) { s with heap:=h',drawn:=d',toks:=tk }) :
 wpAny (model prog w) A (call (.builtin "sorted") [.ref S]) Q E s:=by
 refine Yo NM N7 N1 (jh _) ?_;unfold Builtin.«sorted»;refine Tj (m:=jc "sorted" 1 1 _) (Tk ?_);refine Tj (zh7 (by simpa using hh) T.toSx λh' d' tk vs ex hp hl=>?_)
 obtain⟨ps,p1,p2,p3⟩:=zmg (R:=λe b k=>e=(hD w k,.ref b)/\(∃as,TV h0 (.ref b) k as)/\Sp b k) (λe b k r=>by rw[r.1]) es.toList ks (by simpa using T.len) λi e he=>by
  obtain⟨k',b,as,a1,a2,a3,a4,a5⟩:=T.el i e (by rw[<- QK];exact he);exact⟨k',b,a1,a2,⟨as,a4⟩,a5⟩
 rw[<- p1] at hp;obtain⟨qs,q1,q2⟩:=perm_map_inv hp;have qk:(qs.map (·.2)).Perm ks:=by rw[<- p2];exact q1.map _
 have vl:vs.length=qs.length:=by rw[<- q2];simp
 have ql:qs.length=es.size:=by
  have:=qk.length_eq;rw[T.len] at this;simpa using this
 have v64:vs.length<=63:=by lia
 refine Tj (MB ?_ (by rw[Ts];lia));have eL:(h'.push (seqObj "list" vs.toArray 0)).get? h'.objs.size=some (seqObj "list" vs.toArray 0):=Qm _ rfl;have sh':∀d∈qs.map (·.2),zal σ d:=λd hd=>hs d (qk.mem_iff.mp hd);have kt':∀d∈qs.map (·.2),TupK d:=λd hd=>T.kt d (qk.mem_iff.mp hd)
 have ke:zd1 h0 (zeu (h'.push (seqObj "list" vs.toArray 0)) h'.objs.size vs):=λb o xs n e _=>by
  have eb:=ex b o (X b o e);have lb:=Qt eb;have nb:b≠h'.objs.size:=Q2 lb;have lb2:b<(h'.push (seqObj "list" vs.toArray 0)).objs.size:=by rw[Mr];exact QP lb
  rw[JJ _ _ _ (by rw[Mr,ZY];exact Q2 (QP lb2)),JJ _ _ _ (by rw[ZY];exact Q2 lb2),Z5 _ _ _ _ nb];exact Qe _ eb
 have KO:KeysOk prog w A.in1.in1 { s with heap:=zeu (h'.push (seqObj "list" vs.toArray 0)) h'.objs.size vs,drawn:=d',toks:=tk } vs vs (λa b:{ d:Tl // zal σ d }=>dlt a.1 b.1) (λi=>⟨(qs.map (·.2)).getD i d0,zkc hd0 sh' i⟩):=by
  refine zpc hd0 sh' (by rw[vl];simp) (λd hd=>(kt' d hd).la) (λd hd=>(kt' d hd).de) (by show A.units+1+1+12<cLine;lia) λi v d hv hd=>?_;rw[<- q2,Qj] at hv;rw[Qj] at hd
  cases hq:qs[i]? with
  | none=>rw[hq] at hv;cases hv
  | some q=>
    rw[hq] at hv hd;cases hv;cases hd;have mq:=Qn hq;obtain⟨e,_,_,⟨as,r⟩,_⟩:=p3 q (q1.mem_iff.mp mq);have tq:=kt' q.2 (Q0.mpr ⟨q,mq,rfl⟩);obtain⟨ds,eds⟩:=tq.tu;exact⟨q.1,ds,as,rfl,eds,tq.keep ke r⟩
 refine Tj (TF (Tw Nf ⟨_,eL,rfl⟩ MS (zf3 (s:={ s with heap:=h'.push (seqObj "list" vs.toArray 0),drawn:=d',toks:=tk }) eL v64 KO λix o=>⟨_,rfl,?_⟩) (NI _)));obtain⟨c,ec⟩:=NZ (out:=(zbt vs ix).toArray) eL;have hb:∀i,i<vs.length->ix i<qs.length:=λi hi=>by rw[<- vl];exact o.bj.lt i hi
 have gq:∀i,i<vs.length->qs[ix i]? = some (qs.getD (ix i) (0,.none)):=λi hi=>by
  rw[Qo,Qg (hb i hi)];rfl
 have ep2:zbt vs ix=((QH vs.length).map λi=>qs.getD (ix i) (0,.none)).map λq=>QN q.1:=by
  unfold zbt;rw[Zt];refine Vf λi hi=>?_;have hi':=QJ.mp hi;show vs.getD (ix i) .none=QN (qs.getD (ix i) (0,.none)).1;rw[Qo,<- q2,Qj,gq i hi'];rfl
 have pq:((QH vs.length).map λi=>qs.getD (ix i) (0,.none)).Perm qs:=by
  have h1:=o.bj.perm.map (λi=>qs.getD i (0,Y3));rw[Zt] at h1;refine h1.trans ?_
  have:(QH vs.length).map (λi=>qs.getD i (0,Y3))=qs:=by
   rw[vl];refine ZB λi=>?_
   by_cases hi:i<qs.length
   .simp[hi]
   .rw[QD (by simp;lia),QD (by lia)]
  rw[this]
 refine Tk ⟨_,rfl,k _ d' tk ((QH vs.length).map λi=>qs.getD (ix i) (0,.none)) c h'.objs.size (λb o' e=>?_) (JA hl) (by rw[<- ep2];exact ec) (λq hq=>?_) ?_ ?_⟩
 .have eb:=ex b o' e;have nb:b≠h'.objs.size:=Q2 (Qt eb);show(NA (h'.push (seqObj "list" vs.toArray 0)) h'.objs.size vs _).get? b=_;rw[NQ nb (by rw[Mr];exact QP (Qt eb))];exact Qe _ eb
 .obtain⟨e,_,_,_,sp⟩:=p3 q (q1.mem_iff.mp (pq.mem_iff.mp hq));exact sp
 .exact(pq.map _).trans qk
 .rw[Zt,Zl,ZD];intro i j hi hj hij;simp only[QZ] at hi hj;simp only[ZT]
  have gd:∀i,i<vs.length->(qs.map (·.2)).getD (ix i) d0=(qs.getD (ix i) (0,.none)).2:=λi hi=>by
   rw[Qo,Qj,gq i hi];rfl
  have up:=(o.up i j hij hj).le (zrm σ);dsimp only at up;rw[gd i hi,gd j hj] at up;have mi:(qs.getD (ix i) (0,.none)).2∈qs.map (·.2):=Q0.mpr ⟨_,Qn (gq i hi),rfl⟩;have mj:(qs.getD (ix j) (0,.none)).2∈qs.map (·.2):=Q0.mpr ⟨_,Qn (gq j hj),rfl⟩;rcases(zez σ).tri _ _ (sh' _ mi) (sh' _ mj) with z|z|z
  .exact z
  .exfalso;have nd:(qs.map (·.2)).Nodup:=qk.nodup_iff.mpr T.nd
   have e1:(qs.map (·.2))[ix i]? = (qs.map (·.2))[ix j]?:=by
    rw[Qj,Qj,gq i hi,gq j hj];exact jF some z
   have:=(Gk (by simpa using hb i hi) nd).mp e1;have:=o.bj.inj i j hi hj this;lia
  .rw[z] at up;cases up
end
end HK
namespace L3
open PySem PySem.Spec
open PyProof.Rows hiding St
open L2 SX HK
def tSTA(K:Qa)(te:TE):TE:=λσ H Q=>te σ H λv H1=>∃(a:Addr) (xs:List V) (ds:List Tl) (F:Addr->Prop) (τ:Sh) (d0:Tl),v = .ref a/\SqL K H1 a xs/\IsAll K F H1 xs ds/\(∀d∈ds,TupK d)/\zal τ d0/\(∀d∈ds,zal τ d)/\ds.length<=900/\(∀zs:List Tl,zs.Nodup->(∀k∈zs,k∈ds)->zs.length<=63) /\
 ∀(zs:List Tl) (ys:List V) p,zs.Nodup->(∀d,d∈zs↔d∈ds)->zs.Pairwise (λa b=>dlt a b=true)->IsAll K F H1 ys zs->H1 p=none->Q (.ref p) (upd H1 p (.lst ys))
theorem zna(hc:X.calm=true)(hu:X.A.units+64<cLine)(gl:Gl X "sorted")(ml:X.mg "sorted" = none)(gr:Gl X "set")(mr:X.mg "set" = none)(he:PE X e te)
 (s1:Tq [.Call (.Name "set" p2) [e] [] p3] X.env=(false,eval (.Call (.Name "set" p2) [e] [] p3) X.env)::Tq [] X.env:=by rfl) (s2:Tq [e] X.env=(false,eval e X.env)::Tq [] X.env:=by rfl) :
 PE X (.Call (.Name "sorted" p1) [.Call (.Name "set" p2) [e] [] p3] [] p4) (tSTA X.K te):=by
 intro pins s σ H Q I h;have calm:=I.ok.hd hc;refine TL (zcf I gl ml zdw ?_);refine JN ?_ s1;rw[s1];show wpAny _ _ (MY ((false,eval (.Call (.Name "set" p2) [e] [] p3) X.env) :: [])) _ _ s;refine Z0 ?_;refine TL (zcf I gr mr (u:=.type "set") rfl ?_);refine Zs ?_ s2;rw[s2];show wpAny _ _ (MY ((false,eval e X.env) :: [])) _ _ s;refine Z0 (thn (he pins s σ H _ I h) λu s' zz=>?_);obtain⟨y,H1,I1,r1,a,xs,ds,F,τ,d0,ey,hq,ia,tk,sh0,sh,hl,few,q⟩:=zz;refine ZJ ?_;subst ey;cases r1;obtain⟨its,rv,pl,hz2⟩:=I1.list hq;have ln:its.length=ds.length:=by rw[<- rv.length,ia.length]
 have at':∀(i:Nat) v,its[i]? = some v->∃b as d,ds[i]? = some d/\v = .ref b/\TV s'.heap (.ref b) d as/\Is X.K F H1 (.ref b) d:=λi v hv=>by
  have hi:i<ds.length:=by rw[<- ln];exact(Qi.mp hv).1
  obtain⟨x,hx,ix⟩:=ia.get (Qg hi);obtain⟨u,hu',ru⟩:=rv.get hx;rw[hv] at hu';cases hu';have tki:=tk _ (QT hi);obtain⟨ds',eds⟩:=tki.tu;rw[eds] at ix;obtain⟨as,ra⟩:=ix.reads I1 ru
  cases ix with
  | tuple q1 q2=>
    cases ru;exact⟨_,as,_,(Qg hi).trans (by rw[eds]),rfl,ra,.tuple q1 q2⟩
 refine zsp (T := "list") (val:=λi=>ds.getD i .none) (Sp:=λb d=>Is X.K F H1 (.ref b) d) calm (λs₁ ex=>?_) PySem.F.sub_list_set PySem.F.sub_list_frozenset (by decide) (ztf pl.isList) (λi hi=>?_) (λi v hi hv=>?_) hu (by simp;lia) λh' tk' es ep t ks m T hk ex=>?_
 .obtain⟨o,e,c,_⟩:=pl.isList;exact⟨o,ex _ o e,c⟩
 .have hi':i<ds.length:=by rw[<- ln];simpa using hi
  rw[Qo,Qg hi'];exact tk _ (QT hi')
 .have hv':its[i]? = some v:=by simpa using hv
  obtain⟨b,as,d,e1,e2,e3,e4⟩:=at' i v hv';refine⟨b,as,e2,?_⟩;rw[Qo,e1];exact⟨e3,e4⟩
 .have mem:∀d,d∈ks↔d∈ds:=λd=>by
   rw[hk];have ez:its.toArray.size=ds.length:=by simpa using ln
   rw[ez];constructor
   .rintro⟨j,hj,rfl⟩;rw[Qo,Qg hj];exact QT hj
   .intro hd;obtain⟨j,hj⟩:=QQ.mp hd;exact⟨j,(Qi.mp hj).1,by rw[Qo,hj];rfl⟩
  have z64:es.size<=63:=by
   rw[<- T.len];exact few ks T.nd λk hk'=>(mem k).mp hk'
  refine ZJ ?_;refine zqy (s:={ s' with heap:=h',toks:=tk' }) calm T ex sh0 (λd hd=>sh d ((mem d).mp hd)) z64 hu λh2 d2 tk2 qs c l ex2 hl2 el sp zp zs=>?_;have lt':s'.heap.objs.size<=l:=QY (JA (T.toSx.lts (s:={ s' with heap:=h',toks:=tk' }))) hl2;have I2:=(Inv.draw (I1.laid (a:=l) (o:=.lst (qs.map λq=>V.ref q.1)) (t':=tk2) (h':=h2) (λb o e=>ex2 b o (ex b o e)) lt' ?_) d2)
  .exact⟨.ref l,_,I2,rfl,q (qs.map (·.2)) _ l (zp.nodup_iff.mpr T.nd) (λd=>by rw[zp.mem_iff];exact mem d) zs (zh9 sp) (I1.hok.fresh lt')⟩
  .refine⟨?_,qs.map (λq=>QN q.1),c,zg5 qs,el⟩;have:=zp.length_eq;rw[Qc] at this;rw[Qc,this,T.len,Ts];lia
def stDA(f:DE):DE:=λρ Q=>f ρ λr=>∃(ds:List Tl) (τ:Sh) (d0:Tl),r.d = .list ds/\(∀d∈ds,TupK d)/\zal τ d0/\(∀d∈ds,zal τ d)/\ds.length<=900/\(∀zs:List Tl,zs.Nodup->(∀k∈zs,k∈ds)->zs.length<=63)/\∀zs:List Tl,zs.Nodup->(∀d,d∈zs↔d∈ds)->zs.Pairwise (λa b=>dlt a b=true)->Q (.n zs)
theorem z3i{K:Qa}{O:Ob}{te:TE}{f:DE}(h:ED K O te f):ED K O (tSTA K te) (stDA f):=λσ H ρ Q Qd S hf k=>by
 refine h σ H ρ _ _ S hf λv H1 r s1 o1 zz=>?_;obtain⟨ds,τ,d0,e,tk,s0,sh,hl,few,q⟩:=zz;have i:=o1.is S.ok S.p;rw[e] at i
 cases i with
 | list f1 a1 b1=>
   refine⟨_,_,ds,_,τ,d0,rfl,.of a1,b1,tk,s0,sh,hl,few,λzs ys p h1 h2 h3 h4 hn=>?_⟩;obtain⟨c1,c2⟩:=zcc (K:=K) S.ok hn h4;exact k _ _ _ (s1.trans c1) (c2.ahead S.ok S.p s1) (q zs h1 h2 h3)
theorem zoi{ι κ:Type}{P:Tr}{w:Tt}{K:Qa}{mg:Str->Option Tn}{base:Heap}{k:Nat}{X:ι->Cx}{O:κ->Ob}{a:Expr}{fa:DE}{p1 p2 p3 p4:Pos}(C:Ctx3 P w K mg base k X)(B:Blt mg)(ha:E3 K X O a fa)(g1:∀i,Gl (X i) "sorted" := by intro i;rfl)(g2:∀i,Gl (X i) "set" := by intro i;rfl)
 (s1:∀i,Tq [.Call (.Name "set" p2) [a] [] p3] (X i).env=(false,eval (.Call (.Name "set" p2) [a] [] p3) (X i).env)::Tq [] (X i).env:=by intro i;rfl) (s2:∀i,Tq [a] (X i).env=(false,eval a (X i).env)::Tq [] (X i).env:=by intro i;rfl) :
 E3 K X O (.Call (.Name "sorted" p1) [.Call (.Name "set" p2) [a] [] p3] [] p4) (stDA fa) :=
 let ⟨_,q,d⟩:=ha
 ⟨tSTA K _,λi=>by
  have h:=zna (X:=X i) (p1:=p1) (p2:=p2) (p3:=p3) (p4:=p4) (C.calm i) (C.room i).units (g1 i) (by rw[C.hmg];exact B.sorted) (g2 i) (by rw[C.hmg];exact B.set) (q i) (s1 i) (s2 i);rw[C.hK] at h
  exact h,λj=>z3i (d j)⟩
end L3
namespace L6
open PySem PySem.Spec PyProof.Rows
theorem Ord.perm{α β:Type}{blt:α->α->Bool}{k:Nat->α}{n:Nat}{ix:Nat->Nat}(o:Ord blt k n ix){d:β}{l:List β}(hl:l.length=n):((QH n).map λi=>l.getD (ix i) d).Perm l:=by
 have p:((QH n).map ix).Perm (QH n):=by
  refine(Vx ?_ YO).mpr λx=>?_
  .refine ZD.mpr λi j h1 h2 hij e=>?_;simp only[G4,ZT] at e;simp only[Qc,QZ] at h1 h2;have:=o.bj.inj i j h1 h2 e;lia
  .rw[Q0,QJ];constructor
   .rintro⟨i,hi,rfl⟩;exact o.bj.lt i (QJ.mp hi)
   .intro hx;obtain⟨i,hi,e⟩:=o.bj.sur x hx;exact⟨i,QJ.mpr hi,e⟩
 have q:=p.map λi=>l.getD i d;rw[Zt] at q
 have e:((QH n).map λi=>l.getD i d)=l:=by
  refine List.ext_getElem (by simp[hl]) λi h1 h2=>?_;simp[Uy,Qg h2]
 rw[e] at q;exact q
theorem zlr:∀{r:List Str} {p:Str},(p::r).Pairwise (λx y=>¬y.cps.toList<x.cps.toList)->risingS p r=true
 | [],p,_=>rfl
 | x::r,p,h=>by
   have c:=Vz.mp h
   have:ltCps x.cps.toList p.cps.toList=false:=by
    cases e:ltCps x.cps.toList p.cps.toList with
    | false=>rfl
    | true=>rw[ltCps_eq] at e;exact absurd (jB e) (c.1 x (by simp))
   show(!ltCps x.cps.toList p.cps.toList && risingS x r)=true;rw[this,zlr c.2];rfl
theorem zsl(h:l.Pairwise λx y=>¬y.cps.toList<x.cps.toList):NW l=true:=by
 cases l with
 | nil=>rfl
 | cons x r=>exact zlr h
end L6
namespace HK
open PySem PySem.Spec PyProof.Rows SX TB L6
section
variable {prog:Tr}{w:Tt}{A:Tv}{E:Tn->To->Prop}{s:To}
theorem sort_strA{n:Nat}(ho:s.heap.get? a=some (seqObj "list" vs.toArray n))(hS:N0 vs ss)(h64:vs.length<=63)
 (h:∀(out:Array Tn) (zs:List Str),N0 out.toList zs->zs.Perm ss->NW zs=true->P (.done (.ret .none)) { s with heap:=NA s.heap a vs out }):wpAny (model prog w) A (Builtin.«list.sort» ⟨[.ref a],[]⟩) P E s:=by
 have ln:=StrsAre.length hS;refine zf3 ho h64 (zm2 (xs:=ss) rfl λi v hv=>?_) λix o=>?_
 .obtain⟨y,t,rfl,hy⟩:=hS.item i v hv;exact⟨t,by rw[Qo,hy];rfl⟩
 .refine h _ ((QH vs.length).map λi=>ss.getD (ix i) Jw) ?_ (o.perm ln.symm) (zsl ?_)
  .have go:∀l:List Nat,(∀i∈l,i<vs.length)->N0 (l.map λi=>vs.getD (ix i) .none) (l.map λi=>ss.getD (ix i) Jw):=by
    intro l
    induction l with
    | nil=>intro _;exact .nil
    | cons i l ih=>
      intro hl;have hx:=o.bj.lt i (hl i (by simp));obtain⟨t,ht⟩:=hS.get (ix i) (ss[ix i]'(by lia)) (Qg (by lia));rw[Qu,Qu,Qo,Qo,ht,Qg (show ix i<ss.length by lia)];exact .cons _ t (ih λj hj=>hl j (by simp[hj]))
   exact go _ λi hi=>QJ.mp hi
  .refine ZD.mpr λi j h1 h2 hij=>?_;simp only[Qc,QZ] at h1 h2;simp only[G4,ZT];rcases o.up i j hij h2 with z|⟨z,_⟩
   .exact λz'=>absurd (VB (jB z) z') (YD _)
   .exact of_decide_eq_false z
end
end HK
namespace SX
open PySem PySem.Spec PyProof.Rows
section
variable {P:Tr}{w:Tt}{A:Tv}{E:Tn->To->Prop}{s:To}{it S:Addr}{es:Es}{ep:Nat}{t:TM}
theorem zou(hh:A.handled=none)(T:Tx P w s.heap S es ep t)(h64:es.size<=63)
 (k:∀(h':Heap) (d':Drawn) (tk:Nat) (out:Array Tn) (c:Nat) (zs:List Str) (l:Addr),Ext s.heap h'->s.heap.objs.size<=l->h'.get? l=some (seqObj "list" out c)->N0 out.toList zs->zs.Perm (keys es)->NW zs=true->Q (.ref l) { s with heap:=h',drawn:=d',toks:=tk }) :
 wpAny (model P w) A (call (.builtin "sorted") [.ref S]) Q E s:=by
 refine Yo NM N7 N1 (jh _) ?_;unfold Builtin.«sorted»;refine Tj (m:=jc "sorted" 1 1 _) (Tk ?_);refine Tj (zh7 (by simpa using hh) T.toSx λh' d' tk vs ex hp hl=>?_);have v64:vs.length<=63:=by rw[hp.length_eq];simpa using h64
 refine Tj (MB ?_ (by rw[Ts];lia))
 have hS:N0 vs (vs.map strOf):=zpx λv z=>by
  obtain⟨e,he,rfl⟩:=Q0.mp (hp.mem_iff.mp z);obtain⟨⟨x,hx,_⟩,_⟩:=T.el e he;obtain⟨u,hu⟩:=Vd hx;exact⟨x,u,hu⟩
 have eL:(h'.push (seqObj "list" vs.toArray 0)).get? h'.objs.size=some (seqObj "list" vs.toArray 0):=Qm _ rfl;refine Tj (TF (Tw Nf ⟨_,eL,rfl⟩ MS (HK.sort_strA (s:={ s with heap:=h'.push (seqObj "list" vs.toArray 0),drawn:=d',toks:=tk }) eL hS v64 λout zs z1 z2 z3=>⟨_,rfl,?_⟩) (NI _)));obtain⟨c,ec⟩:=NZ (out:=out) eL;refine Tk ⟨_,rfl,k _ d' tk _ c zs h'.objs.size (λb o e=>?_) (JA hl) ec z1 ?_ z3⟩
 .have eb:=ex b o e;have nb:b≠h'.objs.size:=Q2 (Qt eb);show(NA (h'.push (seqObj "list" vs.toArray 0)) h'.objs.size vs _).get? b=_;rw[NQ nb (by rw[Mr];exact QP (Qt eb))];exact Qe _ eb
 .refine z2.trans ?_;have:=hp.map strOf;rw[Zt] at this;exact this
end
end SX
namespace L3
open PySem PySem.Spec
open PyProof.Rows hiding St
open L2 L6
open SX
def tSSA(K:Qa)(te:TE):TE:=λσ H Q=>te σ H λv H1=>∃ys:List Str,TxsV K H1 v ys/\ys.length<=63/\∀(zs:List Str) p,zs.Nodup->(∀k,k∈zs↔k∈ys)->NW zs=true->H1 p=none->Q (.ref p) (upd H1 p (.lst (zs.map V.str)))
theorem zop(hc:X.calm=true)(gl:Gl X "sorted")(ml:X.mg "sorted" = none)(gr:Gl X "set")(mr:X.mg "set" = none)(he:PE X e te)
 (s1:Tq [.Call (.Name "set" p2) [e] [] p3] X.env=(false,eval (.Call (.Name "set" p2) [e] [] p3) X.env)::Tq [] X.env:=by rfl) (s2:Tq [e] X.env=(false,eval e X.env)::Tq [] X.env:=by rfl) :
 PE X (.Call (.Name "sorted" p1) [.Call (.Name "set" p2) [e] [] p3] [] p4) (tSSA X.K te):=by
 intro pins s σ H Q I h;have calm:=I.ok.hd hc;refine TL (zcf I gl ml zdw ?_);refine JN ?_ s1;rw[s1];show wpAny _ _ (MY ((false,eval (.Call (.Name "set" p2) [e] [] p3) X.env) :: [])) _ _ s;refine Z0 ?_;refine TL (zcf I gr mr (u:=.type "set") rfl ?_);refine Zs ?_ s2;rw[s2];show wpAny _ _ (MY ((false,eval e X.env) :: [])) _ _ s;refine Z0 (thn (he pins s σ H _ I h) λu s' zz=>?_);obtain⟨y,H1,I1,r1,ys,hy,hz,q⟩:=zz;refine ZJ ?_
 have fin:∀(n:Nat) (val:Nat->Str) (h':Heap) (tk:Nat) (es:Es) (ep:Nat) (t:TM),(∀k,(∃j,j<n/\val j=k)↔k∈ys)->Tx X.prog X.w h' s'.heap.objs.size es ep t->(∀x,x∈keys es↔∃j,j<n/\val j=x)->Ext s'.heap h' ->
  wpAny (model X.prog X.w) X.A (MY []) (λa s₁=>wpAny (model X.prog X.w) X.A (call (.builtin "sorted") (QN s'.heap.objs.size::a)) (EP X pins σ Q) X.xe s₁) X.xe { s' with heap:=h',toks:=tk }:=λn val h' tk es ep t hv T hk ex=>by
  have mem:∀k,k∈keys es↔k∈ys:=λk=>(hk k).trans (hv k)
  have z64:es.size<=63:=by
   have:=zvu T.nd (λk hk=>(mem k).mp hk);simp[keys] at this;lia
  refine ZJ ?_;refine zou (s:={ s' with heap:=h',toks:=tk }) calm T z64 λh2 d2 tk2 out c zs l ex2 hl el st zp zs'=>?_;have lt':s'.heap.objs.size<=l:=QY (JA (T.lts (s:={ s' with heap:=h',toks:=tk }))) hl;have I2:=(Inv.draw (I1.laid (a:=l) (o:=.lst (zs.map V.str)) (t':=tk2) (h':=h2) (λb o e=>ex2 b o (ex b o e)) lt' ?_) d2)
  .exact⟨.ref l,_,I2,rfl,q zs l (zp.nodup_iff.mpr T.nd) (λk=>by rw[zp.mem_iff];exact mem k) zs' (I1.hok.fresh lt')⟩
  .refine⟨?_,out.toList,c,zel st,by simpa using el⟩;rw[Qc,zp.length_eq];simp only[keys,Qc,QV];exact M4 T.lt
 rcases hy with ⟨x,rfl,rfl⟩|⟨a,rfl,hq⟩
 .obtain⟨tk,rfl⟩:=r1;have hn:x.cps.size<=63:=by simpa using hz
  refine zk7 (T := "str") (val:=λi=>sg (x.cps.getD i 0)) calm (λ_ _=>rfl) ?_ ?_ (by decide) (z3m x tk) (λi v hv=>?_) (by unfold scanBound;lia) λh' tk' es ep t T hk ex=>fin x.cps.size _ h' tk' es ep t (λk=>?_) T hk ex
  .rw[M6];kernel_rfl
  .rw[M6];kernel_rfl
  .obtain⟨c,u,hc,rfl⟩:=hv;exact⟨u,by rw[Ja,hc];rfl⟩
  .constructor
   .rintro⟨j,hj,rfl⟩;exact Q0.mpr ⟨x.cps[j],by simp,by simp[hj]⟩
   .intro hk;obtain⟨c,hc,rfl⟩:=Q0.mp hk;obtain⟨j,hj,e⟩:=U1 hc;have hj':j<x.cps.size:=by simpa using hj
    exact⟨j,hj',by simp at e;simp[hj',e]⟩
 .cases r1;obtain⟨its,rv,pl,hz2⟩:=I1.list hq;have sa:=zft rv;have ln:its.length=ys.length:=by have:=rv.length;simp at this;exact this.symm
  refine zk7 (T := "list") (val:=λi=>ys.getD i (sg 0)) calm (λs₁ ex=>?_) F.sub_list_set F.sub_list_frozenset (by decide) (ztf pl.isList) (λi v hv=>?_) (by unfold scanBound;simp;lia) λh' tk' es ep t T hk ex=>fin _ _ h' tk' es ep t (λk=>?_) T hk ex
  .obtain⟨o,e,c,_⟩:=pl.isList;exact⟨o,ex _ o e,c⟩
  .have hv':its[i]? = some v:=by simpa using hv
   have hi:i<ys.length:=by
    obtain⟨z,_⟩:=Qi.mp hv';lia
   obtain⟨u,hu,ru⟩:=rv.get (i:=i) (x:=V.str ys[i]) (by rw[Qj,Qg hi];rfl);rw[hv'] at hu;cases hu;obtain⟨u,rfl⟩:=ru;exact⟨u,by rw[Qo,Qg hi];rfl⟩
  .have e:its.toArray.size=ys.length:=by simpa using ln
   rw[e];constructor
   .rintro⟨j,hj,rfl⟩;rw[Qo,Qg hj];exact QT hj
   .intro hk;obtain⟨j,hj,e⟩:=U1 hk;exact⟨j,hj,by rw[Qo,Qg hj];exact e⟩
def ssDA(f:DE):DE:=λρ Q=>f ρ λr=>∃ys:List Str,TxsD r.d ys/\ys.length<=63/\∀zs:List Str,zs.Nodup->(∀k,k∈zs↔k∈ys)->NW zs=true->Q (.n (zs.map .str))
theorem z5p{K:Qa}{O:Ob}{te:TE}{f:DE}(h:ED K O te f):ED K O (tSSA K te) (ssDA f):=λσ H ρ Q Qd S hf k=>by
 refine h σ H ρ _ _ S hf λv H1 r s1 o1 zz=>?_;obtain⟨ys,hy,hl,q⟩:=zz;have i:=o1.is S.ok S.p;have ok:=S.ok;have p1:=s1.p S.p;refine⟨ys,?_,hl,λzs p h1 h2 h3 hn=>?_⟩
 .rcases hy with ⟨x,e,rfl⟩|e
  .rw[e] at i;cases i;exact .inl ⟨x,rfl,rfl⟩
  .rw[e] at i
   cases i with
   | list f1 a1 b1=>
     rw[zfx b1] at a1;exact .inr ⟨_,rfl,.of a1⟩
 .obtain⟨a1,a2⟩:=zcc (K:=K) ok hn (zf4 zs);exact k _ _ _ (s1.trans a1) (a2.ahead ok S.p s1) (q zs h1 h2 h3)
theorem zr0{ι κ:Type}{P:Tr}{w:Tt}{K:Qa}{mg:Str->Option Tn}{base:Heap}{k:Nat}{X:ι->Cx}{O:κ->Ob}{a:Expr}{fa:DE}{p1 p2 p3 p4:Pos}(C:Ctx3 P w K mg base k X)(B:Blt mg)(ha:E3 K X O a fa)(g1:∀i,Gl (X i) "sorted" := by intro i;rfl)(g2:∀i,Gl (X i) "set" := by intro i;rfl)
 (s1:∀i,Tq [.Call (.Name "set" p2) [a] [] p3] (X i).env=(false,eval (.Call (.Name "set" p2) [a] [] p3) (X i).env)::Tq [] (X i).env:=by intro i;rfl) (s2:∀i,Tq [a] (X i).env=(false,eval a (X i).env)::Tq [] (X i).env:=by intro i;rfl) :
 E3 K X O (.Call (.Name "sorted" p1) [.Call (.Name "set" p2) [a] [] p3] [] p4) (ssDA fa) :=
 let ⟨_,q,d⟩:=ha
 ⟨tSSA K _,λi=>by
  have h:=zop (X:=X i) (p1:=p1) (p2:=p2) (p3:=p3) (p4:=p4) (C.calm i) (g1 i) (by rw[C.hmg];exact B.sorted) (g2 i) (by rw[C.hmg];exact B.set) (q i) (s1 i) (s2 i);rw[C.hK] at h
  exact h,λj=>z5p (d j)⟩
end L3
namespace L6
open PySem PySem.Spec
open PyProof.Rows hiding St
open L2 L3
section
variable {X:Cx}{pins:List (Addr×Obj)}{σ:St}{H:Hp}{s:To}
def zkj(K:Qa)(sp:Sp)(ta:TE):TE:=λσ H Q=>ta σ H λv H1=>∃p xs,v = .ref p/\H1 p=some (.lst xs)/\xs.length<=63 /\
 zl3 sp (λks H2=>∃(α:Type) (blt:α->α->Bool) (k:Nat->α),KeysV K H2 ks α blt k/\∀ix l,Ord blt k xs.length ix->H2 l=none->Q (.ref l) (upd H2 l (.lst (zhv .non xs ix)))) xs [] H1
theorem zsn{k:Nat}(F:FnOk X.prog X.w X.K X.mg X.base CX0 k f fd [y] sp)(hr:Room (k+1) X.A)(hb:Binds X.K fd [y] [])(hg:Gl X "sorted")(hm:X.mg "sorted" = none)
 (hgx:Gl X x) (hmx:X.mg x=some (.ref f)) (ha:PE X a ta) (hdx:(x == ("__debug__" : Str))=false:=by decide) (hs:Tq [a] X.env = [(false,eval a X.env)]:=by rfl) :
 PE X (.Call (.Name "sorted" p) [a] [⟨some "key",.Name x px,kp⟩] pos) (zkj X.K sp ta):=by
 intro pins s σ H Q I h;refine TL (zcf I hg hm zdw ?_);refine callWith_kw ?_ (by rw[hs];rfl) (by rw[hs];rfl) rfl rfl;rw[hs];refine Z0 (thn (ha pins s σ H _ I h) λu s1 zz=>?_);obtain⟨v,H1,I1,r1,q,xs,ev,hq,h64,go⟩:=zz;subst ev;obtain rfl:u=QN q:=r1;refine ZJ ?_;refine kws_cons (zpr I1 hgx hmx (kws_nil ?_) hdx);show wpAny (model X.prog X.w) X.A (call (.builtin "sorted") [.ref q] [(QS "key",.ref f)]) _ _ s1;obtain⟨hz,vs,n,rv,hlv,e1⟩:=I1.lstM hq;have hv64:vs.length<=63:=by lia
 refine call_function_entry_kw NM N7 N1 (PyProof.Rows.ksk_s1 _ _) ?_;unfold Builtin.«sorted»;refine Tj (m:=jc "sorted" 1 1 _) (Tk ?_);refine Tj (collect_list ⟨_,e1,rfl,n,rfl⟩ ?_ (by rw[Ts];lia));refine Tj (MB ?_);generalize eh0:(s1.heap.push (seqObj "list" #[] 0)).update s1.heap.objs.size (QF (· ++ vs.toArray))=h0;have sz0:h0.objs.size=s1.heap.objs.size+1:=by rw[<- eh0,ZY,Mr]
 have k0:∀b u,s1.heap.get? b=some u->h0.get? b=some u:=λb u e=>by
  rw[<- eh0,Z5 _ _ _ _ (Q2 (Qt e))];exact Qe _ e
 have hoL:(h0.push (seqObj "list" vs.toArray 0)).get? h0.objs.size=some (seqObj "list" vs.toArray 0):=Qm _ rfl;show wpAny (model X.prog X.w) X.A.in1 _ _ _ { s1 with heap:=h0.push (seqObj "list" vs.toArray 0) };refine Tj (TF (wpAny_call_entry_kw Nf ⟨_,hoL,rfl⟩ MS ?_ (PyProof.Rows.ksk_l1 _ _)));rw[PyProof.Rows.ksk_t1];unfold PyProof.Rows.ksk_tree;refine Tj (N6 hoL rfl ?_);refine Tj (Mz hoL rfl ?_ (by rw[Ts];simp;lia));obtain⟨ea,ho1⟩:∃ea,((h0.push (seqObj "list" vs.toArray 0)).update h0.objs.size (QF λ_=>#[])).get? h0.objs.size=some (seqObj "list" #[] ea):=⟨_,MD hoL (λ_=>#[])⟩;refine Tj (NN ho1 rfl ?_);refine Tj (MK ?_);refine Tj (MB ?_);refine TF ?_;generalize eh2:(h0.push (seqObj "list" vs.toArray 0)).update h0.objs.size (QF λ_=>#[])=h2 at ho1;have sz2:h2.objs.size=h0.objs.size+1:=by rw[<- eh2,ZY,Mr]
 have k2:∀b u,s1.heap.get? b=some u->h2.get? b=some u:=λb u e=>by
  have:=k0 b u e;rw[<- eh2,Z5 _ _ _ _ (Q2 (Qt this))];exact Qe _ this
 -- the list that is sorted,the keys' list
 generalize eq2:h0.objs.size=q2 at ho1 hoL sz2 sz0;generalize eh3:h2.push (seqObj "tuple" vs.toArray 0)=h3;have sz3:h3.objs.size=q2+2:=by rw[<- eh3,Mr,sz2]
 have k3:∀b u,h2.get? b=some u->(h3.push (seqObj "list" #[] 0)).get? b=some u:=λb u e=>by
  refine Qe _ ?_;rw[<- eh3];exact Qe _ e
 show wpAny (model X.prog X.w) X.A.in1.in1 (PyProof.Rows.ksk_rest q2 (.ref f) false vs.toArray ea (.ref h3.objs.size)) _ _ { s1 with heap:=h3.push (seqObj "list" #[] 0) };have fq:FpOk X pins H1 q2:=I1.fpOk (by lia) (I1.hok.fresh (by lia));have fk:FpOk X pins H1 h3.objs.size:=I1.fpOk (by lia) (I1.hok.fresh (by lia));have hne:h3.objs.size≠q2:=by lia
 have I2:Inv X pins σ H1 { s1 with heap:=h3.push (seqObj "list" #[] 0) }:=I1.kept (t':=s1.toks) λb u e=>k3 b u (k2 b u e);have oq:=k3 _ _ ho1;have ok:(h3.push (seqObj "list" #[] 0)).get? h3.objs.size=some (seqObj "list" #[] 0):=Qm _ rfl;generalize h3.push (seqObj "list" #[] 0)=h4 at I2 oq ok ⊢;generalize h3.objs.size=kS at fk hne ok ⊢
 refine zvr (λi ks s'=>∃(H':Hp) (kvs:List V) (e:Nat),Inv X pins σ H' s'/\H' q2=none/\H' kS=none/\s'.heap.get? q2=some (seqObj "list" #[] ea)/\s'.heap.get? kS=some (seqObj "list" ks.toArray e)/\Vals kvs ks /\
  zl3 sp (λks H2=>∃(α:Type) (blt:α->α->Bool) (k:Nat->α),KeysV X.K H2 ks α blt k/\∀ix l,Ord blt k xs.length ix->H2 l=none->Q (.ref l) (upd H2 l (.lst (zhv .non xs ix)))) (xs.drop i) kvs H') hv64
  ⟨H1,[],0,I2,fq.1,fk.1,oq,ok,.nil,go⟩ (λi x ks s' hx hk ⟨H',kvs,e,I',n1,n2,o1,o2,rk,g⟩=>?_) λks s' hl ⟨H',kvs,e,I',n1,n2,o1,o2,rk,g⟩=>?_
 .have hi:i<vs.length:=(Qi.mp hx).1;have hi':i<xs.length:=by lia
  obtain⟨u,hu,ru⟩:=Vals.get rv (Qg hi');rw[hx] at hu;cases hu;rw[Zx hi'] at g
  have I3:Inv X (pins ++ [(q2,seqObj "list" #[] ea),(kS,seqObj "list" ks.toArray e)]) σ H' s':=I'.pins_of λp hp=>by
   rcases Qv.mp hp with hp|hp
   .exact I'.pin p (Q9 _ hp)
   .rcases Qs.mp hp with rfl|hp
    .exact⟨o1,n1,fq.2.1,fq.2.2.1,λv z=>by cases z⟩
    .rw[Qb.mp hp];exact⟨o2,n2,fk.2.1,fk.2.2.1,λv z=>by cases z⟩
  refine TQ (z0c F hr hb I3 (.cons ru .nil) g) (λkv s2 zz=>?_) λ_ _ z=>z;obtain⟨v,H'',I4,r4,g4⟩:=zz;have p1:=I4.pin (q2,seqObj "list" #[] ea) (by simp);have p2:=I4.pin (kS,seqObj "list" ks.toArray e) (by simp);have I5:Inv X pins σ H'' s2:=I4.pins_of λp hp=>I4.pin p (by simp[hp])
  obtain⟨e',eu⟩:∃e',(s2.heap.update kS (QF (·.push kv))).get? kS=some (seqObj "list" (ks ++ [kv]).toArray e'):=by
   have z:=MD p2.1 (λxs=>xs.push kv);have z2:ks.toArray.push kv=(ks ++ [kv]).toArray:=by simp
   exact⟨_,z.trans (jF (λa=>some (seqObj "list" a _)) z2)⟩
  refine⟨⟨e,p2.1⟩,H'',kvs ++ [v],e',I5.turned (it:=kS) (t':=s2.toks) (λb o hb z=>by rw[Z5 _ _ _ _ hb];exact z) p2.2.1 fk.2.1 fk.2.2.2.1 fk.2.2.2.2.1 fk.2.2.2.2.2,p1.2.1,p2.2.1,?_,eu,Vals.append rk (.cons r4 .nil),g4⟩;show(s2.heap.update kS _).get? q2=_;rw[Z5 _ _ _ _ (ZA hne)];exact p1.1
 .rw[<- hlv,JR (Qh _)] at g;obtain⟨α,blt,k,kv,q⟩:=g;refine⟨α,blt,k,e,o2,o1,hne,zxl I' kv rk hl,λix o=>⟨_,rfl,Tk ⟨_,rfl,?_⟩⟩⟩;have IA:=I'.turned (it:=kS) (t':=s'.toks) (h':=s'.heap.update kS (QF λ_=>#[])) (λb o hb z=>by rw[Z5 _ _ _ _ hb];exact z) n2 fk.2.1 fk.2.2.2.1 fk.2.2.2.2.1 fk.2.2.2.2.2
  have oA:(s'.heap.update kS (QF λ_=>#[])).get? q2=some (seqObj "list" #[] ea):=by
   rw[Z5 _ _ _ _ (ZA hne)];exact o1
  refine⟨.ref q2,upd H' q2 (.lst (zhv .non xs ix)),IA.adopt (t':=s'.toks) ⟨n1,fq.2⟩ (λb u hb z=>by rw[Z5 _ _ _ _ hb];exact z) ?_,rfl,q ix q2 (by rw[hlv];exact o) n1⟩;refine⟨by unfold zhv;rw[Qc,QZ];exact hz,zbt vs ix,_,Vals.pick rv o.bj,MD oA _⟩
end
end L6
namespace L3
open PySem PySem.Spec
open PyProof.Rows hiding St
open L2 L6
section
variable {K:Qa}{O:Ob}
theorem zqe(ok:O.Ok)(hφ:φ O):
 ∀(ds:List Tl) (xs:List V) (done:List Int) (H:Hp),O.P H->IsAll K (unM O) H xs ds->(∀d∈ds,F [d] λr=>r.d = .int (kf d)) ->
   (∀H',Stp O H H'->Z ((done++ds.map kf).map V.int) H')->zl3 (spO K φ 1 F) Z xs (done.map V.int) H
 | [],[],done,H,p,.nil,_,k=>by
   have:=k H (.refl _ _);rw[Vi,ZK] at this;exact this
 | d::ds,x::xs,done,H,p,.cons ix is,hF,k=>by
   refine⟨O,[d],_,ok,hφ,p,rfl,.cons ix .nil,hF d (by simp),λr hr v H' st o=>?_⟩;have iv:=o.is ok p;rw[hr] at iv;cases iv
   have:=zqe (Z:=Z) ok hφ ds xs (done ++ [kf d]) H' (st.p p) (is.stp st (λ_ f=>f) (λ_ f=>f)) (λe he=>hF e (Qf _ he)) λH2 st2=>by
    have:=k H2 (st.trans st2);rwa [Qu,List.append_cons] at this
   rwa [Q7] at this
def zpp(F:List Tl->(R->Prop)->Prop)(f:DE):DE:=λρ Q=>f ρ λr=>∃(ds:List Tl) (kf:Tl->Int),r.d = .list ds/\ds.length<=63/\(∀d∈ds,F [d] λr=>r.d = .int (kf d))/\∀zs:List Tl,zs.Perm ds->zs.Pairwise (λa b=>kf a<=kf b)->Q (.n zs)
theorem zuh(hφ:φ O)(h:ED K O te f):ED K O (zkj K (spO K φ 1 F) te) (zpp F f):=λσ H ρ Q Qd S hf k=>by
 refine h σ H ρ _ _ S hf λv H1 r s1 o1 zz=>?_;obtain⟨ds,kf,e,hl,hF,q⟩:=zz;have i:=o1.is S.ok S.p;have p1:=s1.p S.p;rw[e] at i
 cases i with
 | list f1 a1 b1=>
   rename_i a xs
   have hlx:=b1.length;refine⟨a,xs,rfl,a1,by rw[hlx];exact hl,?_⟩;refine zqe (kf:=kf) S.ok hφ ds xs [] H1 p1 b1 hF λH2 st2=>?_;rw[List.nil_append];refine⟨_,_,_,.int (ds.map kf),λix l od hn=>?_⟩;have isAll2:IsAll K (unM O) H2 xs ds:=b1.stp st2 (λ_ f=>f) (λ_ f=>f);have hb:∀i,i<xs.length->ix i<ds.length:=λi hi=>by rw[<- hlx];exact od.bj.lt i hi
   have pk:=zr7 isAll2 (n:=xs.length) hb
   have gd:∀i,i<xs.length->(ds.map kf).getD (ix i) 0=kf (ds.getD (ix i) .none):=λi hi=>by
    rw[Qo,Qj,Qo,Qg (hb i hi)];rfl
   have pm:((QH xs.length).map λi=>ds.getD (ix i) .none).Perm ds:=by
    have h1:=od.bj.perm.map (λi=>ds.getD i Y3);rw[Zt] at h1;refine h1.trans ?_
    have:(QH xs.length).map (λi=>ds.getD i Y3)=ds:=by
     rw[hlx];refine ZB λi=>?_
     by_cases hi:i<ds.length
     .simp[hi]
     .rw[QD (by simp;lia),QD (by lia)]
    rw[this]
   have pw:((QH xs.length).map λi=>ds.getD (ix i) .none).Pairwise (λa b=>kf a<=kf b):=by
    rw[Zl,ZD];intro i j hi hj hij;simp only[QZ] at hi hj;simp only[ZT];have up:=(od.up i j hij hj).le zvn;rw[gd i hi,gd j hj] at up;have:=of_decide_eq_false up;lia
   obtain⟨c1,c2⟩:=zcc (K:=K) S.ok hn pk;exact k _ _ _ ((s1.trans st2).trans c1) (c2.ahead S.ok S.p (s1.trans st2)) (q _ pm pw)
end
theorem zwx{ι κ:Type}{P:Tr}{w:Tt}{K:Qa}{mg:Str->Option Tn}{base:Heap}{k:Nat}{X:ι->Cx}{O:κ->Ob}{a:Expr}{fa:DE}{pos p px kp:Pos}{k':Nat}{x y:Str}{φ:Ob->Prop}{F:List Tl->(R->Prop)->Prop}(C:Ctx3 P w K mg base k X)(B:Blt mg)(D:Def3 P w K mg base k' x [y] (spO K φ 1 F))(hφ:∀j,φ (O j))(ha:E3 K X O a fa)(hk:k'+1<=k:=by decide)
 (hg:∀i,Gl (X i) "sorted" := by intro i;rfl) (hgx:∀i,Gl (X i) x:=by intro i;rfl) (hdx:(x == ("__debug__" : Str))=false:=by decide) (hs:∀i,Tq [a] (X i).env = [(false,eval a (X i).env)]:=by intro i;rfl) :
 E3 K X O (.Call (.Name "sorted" p) [a] [⟨some "key",.Name x px,kp⟩] pos) (zpp F fa):=by
 obtain⟨f,fd,G,m,kp',bn⟩:=D.ex;obtain⟨t,q,d⟩:=ha;refine⟨zkj K (spO K φ 1 F) t,λi=>?_,λj=>zuh (hφ j) (d j)⟩;obtain⟨j,rfl⟩:∃j,k=j+1:=⟨k-1,by lia⟩;have G':=G.mono (show k'<=j by lia);have h:=zsn (X:=X i) (k:=j) (f:=f) (fd:=fd) (y:=y) (x:=x) (sp:=spO K φ 1 F) (ta:=t) (a:=a) (p:=p) (px:=px) (kp:=kp) (pos:=pos) (by rw[C.hP,C.hw,C.hK,C.hmg,C.hb];exact G') (C.room i) (by rw[C.hK];exact bn) (hg i) (by rw[C.hmg];exact B.sorted) (hgx i) (by rw[C.hmg];exact m) (q i) hdx (hs i);rw[C.hK] at h;exact h
def tLet(K:Qa)(drawSp:Sp)(m d:Nat)(te:TE):TE :=
 tBM K "str" zjp (tC (.str "")) (za0 (tCB zuy (za0 (zgp 1 (zre (za0 te tNil)) (zbb 0) tYes (tBM K "list" zi8 (tVar (m+1)) (za0 (zds drawSp [] E0 (za0 (tVar (d+1)) (za0 (tCB (lenR K) (za0 (tVar (m+1)) tNil)) tNil))) tNil))) tNil)) tNil)
def abcD:List Tl:=abc.map λc=>.str (sg c)
def letS(n m d:Nat)(fe:DE):DS:=λDd ρ=>ρ[m]? = some (some (.own abcD))/\ρ[d]? = some (some .ob)/\fe ρ λr=>∃k:Int,r.d = .int k/\0<=k/\k<=26/\∀(w rest:List Nat),(w.length:Int)=k->(∀c∈w,zet c)->w.Pairwise (· < ·)->Dd.nx ((ρ.set m (some (.own (rest.map λc=>.str (sg c))))).set n (some (.im (.str (tx w)))))
theorem zmc{K:Qa}{F:Addr->Prop}{H:Hp}:∀{r:List Nat} {xs:List V},IsAll K F H xs (r.map λc=>.str (sg c))->xs=r.map λc=>V.str (sg c)
 | [],_,.nil=>rfl
 | c::r,_,.cons h t=>by cases h;rw[zmc t];rfl
theorem zn6{K:Qa}{F:Addr->Prop}{H:Hp}:∀r:List Nat,IsAll K F H (r.map λc=>V.str (sg c)) (r.map λc=>.str (sg c))
 | []=>.nil
 | c::r=>.cons (.str _) (zn6 r)
theorem zm6(h:H l=some v):upd (upd H l u) l v=H:=by
 funext b
 by_cases e:b=l
 .subst e;rw[zak,h]
 .rw[zae e,zae e]
theorem z2p{K:Qa}{φ:Ob->Prop}(hp:∀(O:Ob) (D:Addr) (u:HO),φ O->¬O.M D->φ (O.plus D u)){O:Ob}(hφ:φ O){n m d:Nat}{te:TE}{fe:DE}(he:ED K O te fe):SD K O (tAsg (tLet K (spD K φ 1 zcz) m d te) (zbb n)) (letS n m d fe):=λH₀ A σ H0 ρ D' Dd r0 q P=>by
 obtain⟨em,ed,q⟩:=q;have hsz:sizeLine=16777216:=Ts;refine⟨rfl,?_⟩;refine he σ H0 ρ _ _ r0.seen q λv H rr s1 o1 zz=>?_;obtain⟨mm,er,m0,m1,q⟩:=zz;have iv:=o1.is r0.ok r0.p;rw[er] at iv;cases iv;have r:=r0.stp s1;have ok:=r.ok;have p:=r.p;obtain⟨vm,hvm,l,xs,rfl,hal,hl,hxs⟩:=r.at_ m _ em;obtain⟨vd,hvd,evd⟩:=r.at_ d _ ed;have evd:vd=O.v:=evd;subst evd;have exs:=zmc hxs;subst exs;obtain⟨hl0,_,nMl⟩:=r.own m l hal;refine⟨mm,rfl,by lia,by lia,λD hD=>?_⟩;have nlD:l≠D:=λz=>by rw[<- z,hl] at hD;cases hD
 have nMD:¬O.M D:=λz=>by obtain⟨o,y⟩:=ok.here H D p z;rw[hD] at y;cases y
 have aD:∀b o,H b=some o->b≠D:=λb o e z=>by rw[z,hD] at e;cases e
 have pl:∀{H':Hp} {b:Addr} {o:HO},¬O.M b->O.P H'->O.P (upd H' b o):=λ{H' b o} nb pp=>ok.loc H' _ (λc mc=>zae λz=>nb (z ▸ mc)) pp
 refine⟨λi c ys H'=>c=mm.toNat-i/\i<=mm.toNat/\H' D=some (.lst ys)/\(∃w r:List Nat,ys=w.map (λc=>V.str (sg c))/\w.length=i/\(∀c∈w,zet c)/\H' l=some (.lst (r.map λc=>V.str (sg c)))/\r.length+i=26/\(∀c∈r,zet c)/\(w++r).Nodup) /\
  O.P H'/\(∀b o,H b=some o->¬O.M b->b≠l->H' b=some o)/\TupStay H H',⟨_,rfl,QE _,zak,⟨[],abc,rfl,rfl,by simp,by rw[zae nlD];exact hl,rfl,by unfold zet;decide,by decide⟩,pl nMD p,λb o e n _=>?_,λb u _ e=>?_⟩,?_⟩
 .rw[zae (aD b o e)];exact e
 .rw[zae (aD b u e)];exact e
 rintro i c ys H' ⟨rfl,hi,hDy,⟨w,rs,rfl,hw,hwl,hr,hrl,hrc,hnd⟩,pp,kp,ts⟩;refine⟨hDy,?_⟩
 by_cases hlt:i<mm.toNat
 .right;refine⟨hlt,λx H2 zz=>?_⟩;obtain⟨e2,_⟩:=zz;subst e2;have hr0:0<rs.length:=by lia
  have sm:((QG 1 none++σ).set 0 (some x))[m+1]? = some (some (.ref l)):=by
   show((none::σ).set 0 (some x))[m+1]? = _;rw[UN,Zn];exact hvm
  have sd:((QG 1 none++σ).set 0 (some x))[d+1]? = some (some O.v):=by
   show((none::σ).set 0 (some x))[d+1]? = _;rw[UN,Zn];exact hvd
  show tBM K "list" zi8 (tVar (m+1)) _ _ H2 _;refine⟨_,sm,.inl ⟨rfl,_,.of hr⟩,_,sd,?_⟩;refine⟨_,sm,_,rs.length,rfl,.inl ⟨_,.of hr,by rw[Qc]⟩,?_⟩;have okp:=(ok.plus D (w.map λc=>V.str (sg c))).plus l (rs.map λc=>V.str (sg c))
  have nl2:¬(O.plus D (.lst (w.map λc=>V.str (sg c)))).M l:=λmm=>by
   rcases mm with mm|mm
   .exact nMl mm
   .exact nlD mm
  show spD K φ 1 zcz ([O.v,V.int rs.length] ++ []) H2 _ E0;refine⟨_,[.int rs.length],[.int rs.length],λx=>∃k:Int,x = .o (.int k)/\0<=k/\k<rs.length,okp,hp _ l _ (hp _ D _ hφ nMD) nl2,⟨⟨pp,hDy⟩,hr⟩,rfl,rfl,.cons (.int _) .nil,⟨_,rfl,by lia,by lia,λk k0 k1=>⟨k,rfl,k0,k1⟩⟩,?_⟩;rintro _ ⟨k,rfl,k0,k1⟩ v H3 st o3;cases o3;obtain⟨⟨p3,hD3⟩,hl3⟩:=st.p ⟨⟨pp,hDy⟩,hr⟩;have hk:k.toNat<rs.length:=by lia
  have ek:k=((k.toNat:Nat):Int):=by lia
  refine⟨l,_,k,k.toNat,V.str (sg rs[k.toNat]),rfl,rfl,hl3,by lia,by lia,?_,by rw[Qj,Qg hk];rfl,?_⟩
  .rw[Qc];unfold jq;simp only[show ¬k<0 by lia,jD]
   first|(rw[j7 (by lia)])|(simp;lia)|lia
  .have ne1:D≠l:=ZA nlD;refine⟨by rw[zae ne1];exact hD3,by rw[Qc];lia,mm.toNat-(i+1),by lia,rfl,hlt,zak,⟨w ++ [rs[k.toNat]],rs.eraseIdx k.toNat,by rw[Q7];rfl,by rw[Qq,hw];rfl,λc hc=>?_,?_,?_,λc hc=>hrc c (zn4 hc),?_⟩,pl nMD (pl nMl p3),λb o e n nbl=>?_,λb u hu e=>?_⟩
   .rcases Qv.mp hc with hc|hc
    .exact hwl c hc
    .rw[Qb.mp hc];exact hrc _ (QT hk)
   .rw[zae nlD,zak,zld]
   .rw[YV];rw[j7 hk];lia
   .rw[Ye];refine(List.Perm.nodup_iff (Uf w ?_)).mp hnd;exact(zlk hk).symm
   .rw[zae (aD b o e),zae nbl]
    exact st.s b o (kp b o e n nbl) λmm=>by
     rcases mm with (mm|mm)|mm
     .exact n mm
     .exact aD b o e mm
     .exact nbl mm
   .have nbl:b≠l:=λz=>by
     rw[z,hl] at e;cases e;obtain⟨us,e1|⟨o',e1⟩⟩:=hu <;> cases e1
    rw[zae (aD b u e),zae nbl];exact st.t b u hu (ts b u hu e)
 .left;have e:i=mm.toNat:=by lia
  refine⟨by show mm.toNat<=i;lia,?_⟩;refine⟨D,w.map sg,rfl,by rw[hDy,Zt];rfl,by rw[Qc];lia,λzs z hpm hs hz=>?_⟩
  obtain⟨w2,rfl,hw2⟩:=unsg (zs:=zs) λy hy=>by
   obtain⟨c,hc,rfl⟩:=Q0.mp (hpm.mem_iff.mp hy);exact⟨c,rfl,hwl c hc⟩
  have hlen:w2.length=w.length:=by have:=hpm.length_eq;simpa using this
  have hinc:w2.Pairwise (· < ·):=by
   refine zr8 hs ?_;have hw1:(w.map sg).Nodup:=Zl.mpr ((Yd.mp hnd).1.imp λne e=>ne (z2n e));have hw3:(w2.map sg).Nodup:=hpm.symm.nodup_iff.mp hw1;exact(Zl.mp hw3).imp λne e=>ne (jF sg e)
  refine⟨_,z,w2.map sg,rfl,rfl,zak,?_,?_⟩
  .rw[zu0,Qc];have e0:(QS "").length=0:=by decide +kernel
   rw[e0];lia
  .rw[zp8];have nMz:¬O.M z:=λmm=>by obtain⟨o,y⟩:=ok.here H' z pp mm;rw[hz] at y;cases y
   have nzl:z≠l:=λe2=>by rw[e2,hr] at hz;cases hz
   -- the heap with the list as it was
   have stb:Stp O H (upd H' l (.lst (abc.map λc=>V.str (sg c)))):=⟨λb o eb nb=>by
    by_cases ebl:b=l
    .subst ebl;rw[hl] at eb;cases eb;exact zak
    .rw[zae ebl];exact kp b o eb nb ebl,λ_=>pl nMl pp,λb u hu eb=>by
    by_cases ebl:b=l
    .subst ebl;rw[hl] at eb;cases eb;obtain⟨us,e1|⟨o',e1⟩⟩:=hu <;> cases e1
    .rw[zae ebl];exact ts b u hu eb⟩
   have r2:=(r.stp stb).change (ys:=rs.map λc=>V.str (sg c)) (es:=rs.map λc=>.str (sg c)) em hvm hal (zn6 rs);rw[zm6 hr] at r2
   have f2:Frm O A H0 A H':=by
    have:=(Frm.stp (A:=A) s1).trans ((Frm.stp (A:=A) stb).trans (Frm.change (o:=.lst (rs.map λc=>V.str (sg c))) hal));rw[zm6 hr] at this;exact this
   have s3:Stp O H' (upd H' z (.lst (w2.map λc=>V.str (sg c)))):=.new ok hz _;have e3:(w2.map sg).map V.str=w2.map λc=>V.str (sg c):=by rw[Zt];rfl
   have r3:=r2.stp s3;have fin:=P.nx _ _ _ _ (r3.setIm (i:=n) (v:=.str (tx w2)) (d:=.str (tx w2)) (.str _)) ((f2.trans (.stp s3)).trans (.setIm (.refl _ _))) (q w2 rs (by lia) hw2 hinc);rw[<- e3] at fin;exact fin
theorem z6u{ι κ:Type}{K:Qa}{X:ι->Cx}{O:κ->Ob}{φ:Ob->Prop}{st:Stmt}{e:Expr}{fe:DE}(n m d:Nat)(hp:∀(O:Ob) (D:Addr) (u:HO),φ O->¬O.M D->φ (O.plus D u))(hO:∀j,φ (O j))(he:E3 K X O e fe)(h:∀te,(∀i,PE (X i) e te)->∀i,PS (X i) st (tAsg (tLet K (spD K φ 1 zcz) m d te) (zbb n))):S3 K X O st (letS n m d fe) :=
 let ⟨te,p,q⟩:=he;⟨_,h te p,λj=>z2p hp (hO j) (q j)⟩
end L3
namespace L3
open PySem PySem.Spec
open PyProof.Rows hiding St
open L2 SX HK TB L6
theorem zoz{K:Qa}{F:Addr->Prop}{H:Hp}:∀{vs:List V} {its:List Tn} {ps:List Tl},Vals vs its->IsAll K F H vs ps->(∀d∈ps,∃ds,d = .tuple ds)->∃qs:List (Addr×Tl),its=qs.map (λq=>QN q.1)/\ps=qs.map (·.2)/\∀q∈qs,Is K F H (.ref q.1) q.2
 | [],_,_,rv,ia,_=>by
   cases rv;cases ia;exact⟨[],rfl,rfl,λq hq=>by cases hq⟩
 | v::vs,_,_,rv,ia,tu=>by
   cases rv with
   | cons r rv=>
   cases ia with
   | cons i ia=>
     obtain⟨qs,e1,e2,e3⟩:=zoz rv ia λd hd=>tu d (Qf _ hd);obtain⟨ds,rfl⟩:=tu _ (Qp ..)
     cases i with
     | tuple q1 q2=>
       cases r;refine⟨(_,.tuple ds)::qs,by rw[e1];rfl,by rw[e2];rfl,λq hq=>?_⟩;rcases Qs.mp hq with rfl|hq
       .exact .tuple q1 q2
       .exact e3 q hq
def zo7(K:Qa):List V->Hp->VK->Prop:=λxs H Q=>∃(p:Addr) (vs:List V) (ps:List Tl) (F:Addr->Prop) (τ:Sh) (d0:Tl),xs = [.ref p]/\SqL K H p vs/\IsAll K F H vs ps/\(∀d∈ps,TupK d)/\zal τ d0/\(∀d∈ps,zal τ d)/\ps.length<=63/\ps.Nodup /\
 ∀(zs:List Tl) (ys:List V) l,zs.Perm ps->zs.Pairwise (λa b=>dlt a b=true)->IsAll K F H ys zs->H l=none->Q (.ref l) (upd H l (.lst ys))
theorem zot(hu:X.A.units+64<cLine):CallR X (.builtin "sorted") (zo7 X.K):=by
 intro pins s σ H xs us Q I r h;obtain⟨p,vs0,ps,F,τ,d0,rfl,hH,ia,tk,sh0,sh,hz,nd,q⟩:=h;obtain⟨u,rfl,ru⟩:=Vals.one r;cases ru;obtain⟨vs,rv,pl,hsz⟩:=I.list hH;obtain⟨o,e,c,n,dt⟩:=pl.isList;obtain⟨qs,q2,qp,qi⟩:=zoz rv ia λd hd=>(tk d hd).tu;have vl:vs.length=qs.length:=by rw[q2,Qc]
 have pl':ps.length=qs.length:=by rw[qp,Qc]
 have sz:=Ts;refine Yo NM N7 N1 (jh _) ?_;unfold Builtin.«sorted»;refine Tj (m:=jc "sorted" 1 1 _) (Tk ?_);refine Tj (wpAny_collect_seq p (.inl rfl) e c dt (λh' ex=>?_) (by simp;lia));show wpAny _ _ (newList vs >>= _) _ _ _;refine Tj (MB ?_ (by rw[Ts];lia));have eL:(h'.push (seqObj "list" vs.toArray 0)).get? h'.objs.size=some (seqObj "list" vs.toArray 0):=Qm _ rfl;have sh':∀d∈qs.map (·.2),zal τ d:=λd hd=>sh d (by rw[qp];exact hd);have kt':∀d∈qs.map (·.2),TupK d:=λd hd=>tk d (by rw[qp];exact hd)
 have ke:zd1 s.heap (zeu (h'.push (seqObj "list" vs.toArray 0)) h'.objs.size vs):=λb o xs n e _=>by
  have eb:=ex b o e;have lb:=Qt eb;have nb:b≠h'.objs.size:=Q2 lb;have lb2:b<(h'.push (seqObj "list" vs.toArray 0)).objs.size:=by rw[Mr];exact QP lb
  rw[JJ _ _ _ (by rw[Mr,ZY];exact Q2 (QP lb2)),JJ _ _ _ (by rw[ZY];exact Q2 lb2),Z5 _ _ _ _ nb];exact Qe _ eb
 have KO:∀A:Tv,A.units+12<cLine->KeysOk X.prog X.w A { s with heap:=zeu (h'.push (seqObj "list" vs.toArray 0)) h'.objs.size vs } vs vs (λa b:{ d:Tl // zal τ d }=>dlt a.1 b.1) (λi=>⟨(qs.map (·.2)).getD i d0,zkc sh0 sh' i⟩):=λA hA=>by
  refine zpc sh0 sh' (by rw[vl];simp) (λd hd=>(kt' d hd).la) (λd hd=>(kt' d hd).de) hA λi v d hv hd=>?_;rw[q2,Qj] at hv;rw[Qj] at hd
  cases hq:qs[i]? with
  | none=>rw[hq] at hv;cases hv
  | some q=>
    rw[hq] at hv hd;cases hv;cases hd;have mq:=Qn hq;obtain⟨as,r⟩:=(qi q mq).reads I (u:=.ref q.1) rfl;have tq:=kt' q.2 (Q0.mpr ⟨q,mq,rfl⟩);obtain⟨ds,eds⟩:=tq.tu;exact⟨q.1,ds,as,rfl,eds,tq.keep ke r⟩
 refine Tj (TF (Tw Nf ⟨_,eL,rfl⟩ MS (zf3 (s:={ s with heap:=h'.push (seqObj "list" vs.toArray 0) }) eL (by lia) (KO _ (by show X.A.units+1+1+12<cLine;lia)) λix o=>⟨_,rfl,?_⟩) (NI _)));obtain⟨c',ec⟩:=NZ (out:=(zbt vs ix).toArray) eL;have hb:∀i,i<vs.length->ix i<qs.length:=λi hi=>by rw[<- vl];exact o.bj.lt i hi
 have gq:∀i,i<vs.length->qs[ix i]? = some (qs.getD (ix i) (0,.none)):=λi hi=>by
  rw[Qo,Qg (hb i hi)];rfl
 have ep2:zbt vs ix=((QH vs.length).map λi=>qs.getD (ix i) (0,.none)).map λq=>QN q.1:=by
  unfold zbt;rw[Zt];refine Vf λi hi=>?_;have hi':=QJ.mp hi;show vs.getD (ix i) .none=QN (qs.getD (ix i) (0,.none)).1;rw[Qo,q2,Qj,gq i hi'];rfl
 have pq:((QH vs.length).map λi=>qs.getD (ix i) (0,.none)).Perm qs:=by
  have h1:=o.bj.perm.map (λi=>qs.getD i (0,Y3));rw[Zt] at h1;refine h1.trans ?_
  have:(QH vs.length).map (λi=>qs.getD i (0,Y3))=qs:=by
   rw[vl];refine ZB λi=>?_
   by_cases hi:i<qs.length
   .simp[hi]
   .rw[QD (by simp;lia),QD (by lia)]
  rw[this]
 have I':Inv X pins σ H { s with heap:=h' }:=I.kept (t':=s.toks) ex;have hn:H h'.objs.size=none:=I'.hok.fresh (Qh _);generalize hqs:(QH vs.length).map (λi=>qs.getD (ix i) (0,Y3))=rs at ep2 pq;have zp:(rs.map (·.2)).Perm ps:=by rw[qp];exact pq.map _
 refine Tk ⟨_,rfl,.ref h'.objs.size,_,I'.laid (a:=h'.objs.size) (o:=.lst (rs.map λq=>V.ref q.1)) (t':=s.toks) (λb o eb=>?_) (Qh _) ?_,rfl,q (rs.map (·.2)) _ _ zp ?_ (zh9 λz hz=>qi z (pq.mem_iff.mp hz)) hn⟩
 .have eb:h'.get? b=some o:=eb;have nb:b≠h'.objs.size:=Q2 (Qt eb);show(NA (h'.push (seqObj "list" vs.toArray 0)) h'.objs.size vs _).get? b=_;rw[NQ nb (by rw[Mr];exact QP (Qt eb))];exact Qe _ eb
 .refine⟨?_,_,c',zg5 rs,by rw[<- ep2];exact ec⟩;rw[Qc,pq.length_eq];lia
 .rw[<- hqs,Zt,Zl,ZD];intro i j hi hj hij;simp only[QZ] at hi hj;simp only[ZT]
  have gd:∀i,i<vs.length->(qs.map (·.2)).getD (ix i) d0=(qs.getD (ix i) (0,.none)).2:=λi hi=>by
   rw[Qo,Qj,gq i hi];rfl
  have up:=(o.up i j hij hj).le (zrm τ);dsimp only at up;rw[gd i hi,gd j hj] at up;have mi:(qs.getD (ix i) (0,.none)).2∈qs.map (·.2):=Q0.mpr ⟨_,Qn (gq i hi),rfl⟩;have mj:(qs.getD (ix j) (0,.none)).2∈qs.map (·.2):=Q0.mpr ⟨_,Qn (gq j hj),rfl⟩;rcases(zez τ).tri _ _ (sh' _ mi) (sh' _ mj) with z|z|z
  .exact z
  .exfalso;have nd:(qs.map (·.2)).Nodup:=by rw[<- qp];exact nd
   have e1:(qs.map (·.2))[ix i]? = (qs.map (·.2))[ix j]?:=by
    rw[Qj,Qj,gq i hi,gq j hj];exact jF some z
   have:=(Gk (by simpa using hb i hi) nd).mp e1;have:=o.bj.inj i j hi hj this;lia
  .rw[z] at up;cases up
section
variable {K:Qa}{O:Ob}
def zp2:List Tl->(R->Prop)->Prop:=λds Q=>∃(ps:List Tl) (τ:Sh) (d0:Tl),ds = [.list ps]/\(∀d∈ps,TupK d)/\zal τ d0/\(∀d∈ps,zal τ d)/\ps.length<=63/\ps.Nodup/\∀zs:List Tl,zs.Perm ps->zs.Pairwise (λa b=>dlt a b=true)->Q (.n zs)
theorem zus:zdj K O (zo7 K) zp2:=λH vs ds Q Qd ok p is ⟨ps,τ,d0,e,tk,s0,sh,hl,nd,q⟩ k=>by
 subst e;obtain⟨v,rfl,iv⟩:=zbd is
 cases iv with
 | list f1 h1 s1=>
   refine⟨_,_,ps,_,τ,d0,rfl,.of h1,s1,tk,s0,sh,hl,nd,λzs ys l h2 h3 h4 hn=>?_⟩;obtain⟨a1,a2⟩:=zcc (K:=K) ok hn h4;exact k _ _ _ a1 a2 (q zs h2 h3)
end
theorem zr3{ι κ:Type}{P:Tr}{w:Tt}{K:Qa}{mg:Str->Option Tn}{base:Heap}{k:Nat}{X:ι->Cx}{O:κ->Ob}{a:Expr}{ga:DA}{p pos:Pos}(C:Ctx3 P w K mg base k X)(B:Blt mg)(ha:A3 K X O [a] ga)(hg:∀i,Gl (X i) "sorted" := by intro i;rfl)(he:∀i,Tq [a] (X i).env=(false,eval a (X i).env)::Tq [] (X i).env:=by intro i;rfl):E3 K X O (.Call (.Name "sorted" p) [a] [] pos) (zb4 zp2 ga) :=
 zhw C (λi=>by have h:=zot (X:=X i) (C.room i).units;rw[C.hK] at h;exact h) (λ_=>zus) zdw B.sorted ha hg (by decide) (by decide) he
theorem zco(h:zag a=zag b):a=b:=by
 have h:=Gy h;simp only[GE,UM,and_true] at h;exact zc9 (zji h.1) (zji h.2.1) (V0 (λ_ _ z=>ziw (GQ z)) |>.mp h.2.2)
abbrev shSt:Sh:=.fcons (.arr .n) (.fcons (.arr .n) (.fcons (.arr .t) .fnil))
theorem zb9(s:Sta):zal shSt (zag s):=⟨_,_,rfl,⟨_,rfl,λx hx=>by obtain⟨n,_,rfl⟩:=Q0.mp hx;exact⟨_,rfl⟩⟩,_,_,rfl,⟨_,rfl,λx hx=>by obtain⟨n,_,rfl⟩:=Q0.mp hx;exact⟨_,rfl⟩⟩,_,_,rfl,⟨_,rfl,λx hx=>by obtain⟨n,_,rfl⟩:=Q0.mp hx;exact⟨_,rfl⟩⟩,rfl⟩
theorem zl5{w:List Nat}(h:∀c∈w,c<128):Zu (tx w)=true:=by
 unfold Zu tx;rw[UD];intro c hc;have:=h c (by simpa using hc);simp;lia
structure StH(h:Hou)(s:Sta):Prop where
 rooms:s.rooms.length=h.hands.length
 flags:s.flags.length=h.flags
 words:s.words.length=h.lines
 sml:∀w∈s.words,w.length<=90/\∀c∈w,c<128
theorem zep(h:∀w∈s.words,Sml w):Sl 2 (zag s):=zeb (zg8 λ_ _=>znn _) (zeb (zg8 λ_ _=>znn _) (zeb (zg8 λw hw=>zjl (zn0 (h w hw))) (znq 1)))
theorem zho(h:∀w∈s.words,Sml w):DKey (zag s):=⟨⟨_,rfl⟩,zfu shSt _ (zb9 s),(zep h).lay,QY (zep h).dep (by decide)⟩
theorem zpz(h:∀w∈s.words,Sml w)(n0:s.words≠[]):TupK (zag s):=⟨⟨_,rfl⟩,(zho h).ha,(zho h).la,(zho h).de,λz=>by
 obtain⟨r,f,ws⟩:=s
 cases ws with
 | nil=>exact absurd rfl n0
 | cons w ws=>simp[bv,bvs,zag] at z⟩
theorem zcr(s:Sta):flat (zag s)=true:=zkp _ (zfu shSt _ (zb9 s))
structure HoA(h:Hou):Prop where
 ok:HoOk h
 l1:1<=h.lines
 l2:h.lines<=2
 f2:h.flags<=2
 h1:1<=h.hands.length
 h2:h.hands.length<=2
 r5:∀x∈h.hands,x.rs.length<=5
 n3:∀x∈h.hands,x.n<=3
 s3:h.ls.length<=3
 rp:∀x∈h.hands,∀r∈x.rs,r.p<3/\r.q<3
theorem zdh(h:LowW ls):∀c∈ls,c<128:=λc hc=>by have:=h c hc;unfold zet at this;lia
theorem StH.w(ho:HoA h)(hs:StH h s):StW s:=⟨by have:=hs.rooms;have:=ho.h2;lia,by have:=hs.flags;have:=ho.f2;lia,by have:=hs.words;have:=ho.l2;lia,λw hw=>⟨by have:=(hs.sml w hw).1;lia,(hs.sml w hw).2⟩⟩
def zmh:List Tl->(R->Prop)->Prop:=λds Q=>∃(ls:List Nat) (l:Nat) (fs:List Nat) (d:Deed),ds = [.tuple (fs.map nD),zcj d]/\DeOk ls l fs.length d/\fs.length<=100/\Q (.n ((zb3 fs d).map λf=>.tuple (f.map nD)))
def zmt:List Tl->(R->Prop)->Prop:=λds Q=>∃(ls:List Nat) (f:Nat) (ws:List (List Nat)) (d:Deed),ds = [.tuple (ws.map wD),zcj d]/\DeOk ls ws.length f d/\(∀c∈ls,c<128)/\ws.length<=100/\(∀w∈ws,w.length<=1000/\∀c∈w,c<128)/\Q (.n ((zb2 ws d).map λw=>.tuple (w.map wD)))
def zn2:List Tl->(R->Prop)->Prop:=λds Q=>∃(h:Hou) (s:Sta) (i:Nat) (r:Rul),ds = [zag s,.int (i:Nat),zbi r]/\HoOk h/\StH h s/\i<h.hands.length/\DeOk h.ls h.lines h.flags r.d/\Q (.n ((za6 s i r).map zag))
abbrev Way:=Sta×Nat×Nat
def wayK(e:Way):Tl:=zag e.1
def wayV(e:Way):Tl:=.tuple [.int (e.2.1:Nat),.int (e.2.2:Nat)]
noncomputable def addX(i k:Nat)(acc:List Way)(x:Sta):List Way:=if zag x∈acc.map wayK then acc else acc ++ [(x,i,k)]
noncomputable def addR(s:Sta)(i:Nat)(acc:List Way)(p:Rul×Nat):List Way:=(za6 s i p.1).foldl (addX i p.2) acc
noncomputable def addH(s:Sta)(acc:List Way)(p:Hnd×Nat):List Way:=p.1.rs.zipIdx.foldl (addR s p.2) acc
noncomputable def zd0(h:Hou)(s:Sta):List Way:=h.hands.zipIdx.foldl (addH s) []
def PrgA(h:Hou)(s x:Sta):Prop:=∃(i:Nat) (hd:Hnd) (k:Nat) (r:Rul),h.hands[i]? = some hd/\hd.rs[k]? = some r/\x∈za6 s i r
theorem zhu{α:Type}{g:List Way->α->List Way}{T:α->Sta->Prop}(hg:∀acc e x,(∃w∈g acc e,w.1=x)↔(∃w∈acc,w.1=x)\/T e x):∀(l:List α) (acc:List Way) (x:Sta),(∃w∈l.foldl g acc,w.1=x)↔(∃w∈acc,w.1=x)\/∃e∈l,T e x
 | [],acc,x=>⟨.inl,λh=>h.elim id λ⟨e,he,_⟩=>by cases he⟩
 | e::l,acc,x=>by
   rw[Jx,zhu hg l,hg];constructor
   .rintro((h|h)|⟨e',m,h⟩)
    .exact .inl h
    .exact .inr ⟨e,Qp,h⟩
    .exact .inr ⟨e',Qf _ m,h⟩
   .rintro(h|⟨e',m,h⟩)
    .exact .inl (.inl h)
    .rcases Qs.mp m with rfl|m
     .exact .inl (.inr h)
     .exact .inr ⟨e',m,h⟩
theorem z1l{i k:Nat}(acc:List Way)(y x:Sta):(∃w∈addX i k acc y,w.1=x)↔(∃w∈acc,w.1=x)\/y=x:=by
 unfold addX
 split
 .rename_i m
  refine⟨.inl,λh=>h.elim id λe=>?_⟩;subst e;obtain⟨w,hw,e⟩:=Q0.mp m;exact⟨w,hw,zco e⟩
 .constructor
  .rintro⟨w,hw,e⟩;rcases Qv.mp hw with hw|hw
   .exact .inl ⟨w,hw,e⟩
   .rw[Qb.mp hw] at e;exact .inr e
  .rintro(⟨w,hw,e⟩|rfl)
   .exact⟨w,QR _ hw,e⟩
   .exact⟨_,Q9 _ (Qb.mpr rfl),rfl⟩
theorem ways_in: (∃w∈zd0 h s,w.1=x)↔PrgA h s x:=by
 unfold zd0
 have r1:∀(i:Nat) (acc:List Way) (p:Rul×Nat) (x:Sta),(∃w∈addR s i acc p,w.1=x)↔(∃w∈acc,w.1=x)\/x∈za6 s i p.1:=λi acc p x=>by
  unfold addR;rw[zhu (T:=λy x=>y=x) (λacc y x=>z1l acc y x)];exact jM Uz ⟨λ⟨e,m,z⟩=>z ▸ m,λm=>⟨x,m,rfl⟩⟩
 have h1:∀(acc:List Way) (p:Hnd×Nat) (x:Sta),(∃w∈addH s acc p,w.1=x)↔(∃w∈acc,w.1=x)\/∃e∈p.1.rs.zipIdx,x∈za6 s p.2 e.1:=λacc p x=>by
  unfold addH;rw[zhu (T:=λe x=>x∈za6 s p.2 e.1) (λacc y x=>r1 p.2 acc y x)]
 rw[zhu (T:=λp x=>∃e∈p.1.rs.zipIdx,x∈za6 s p.2 e.1) h1];unfold PrgA;constructor
 .rintro(⟨w,hw,_⟩|⟨⟨hd,i⟩,m,⟨r,k⟩,m',hx⟩)
  .cases hw
  .exact⟨i,hd,k,r,QB.mp m,QB.mp m',hx⟩
 .rintro⟨i,hd,k,r,a,b,hx⟩;exact .inr ⟨(hd,i),QB.mpr a,(r,k),QB.mpr b,hx⟩
def zqb:List Tl->KKD->Prop:=λds Qk=>∃(h:Hou) (s:Sta),ds = [zbc h,zag s]/\HoA h/\StH h s/\Qk ((zd0 h s).map wayK) ((zd0 h s).map wayV)
def zsu:List Tl->(R->Prop)->Prop:=λds Q=>∃(a:Sta) (xs:List Sta),ds = [zag a,.list (xs.map zag)]/\StW a/\(∀x∈xs,StW x/\x.words.length=a.words.length)/\Q (.o (.bool (xs.any λy=>abvB a y)))
def zlq:List Tl->(R->Prop)->Prop:=λds Q=>∃s:Sta,ds = [zag s]/\StW s/\Q (.o (.int (zce s:Nat)))
def LeastL(S:Sta->Prop)(zs:List Sta):Prop:=(∀x,x∈zs↔zcw S x)/\zs.Pairwise λa b=>dlt (zag a) (zag b)=true
def zpi:List Tl->(R->Prop)->Prop:=λds Q=>∃(xs:List Sta) (n:Nat),ds = [.list (xs.map zag)]/\0<n/\(∀x∈xs,StW x/\x.words.length=n)/\xs.length<=63/\∀zs,LeastL (·∈xs) zs->Q (.n (zs.map zag))
def zp1:List Tl->(R->Prop)->Prop:=λds Q=>∃(h:Hou) (s:Sta),ds = [zbc h,zag s]/\HoA h/\StH h s/\∀zs,LeastL (PrgA h s) zs->Q (.n (zs.map zag))
theorem LeastL.uniq(h:LeastL S xs)(g:LeastL S ys):xs=ys:=by
 have:=zh3 (zez shSt) (xs:=xs.map zag) (ys:=ys.map zag) (λx hx=>by obtain⟨a,_,rfl⟩:=Q0.mp hx;exact zb9 a) (λx hx=>by obtain⟨a,_,rfl⟩:=Q0.mp hx;exact zb9 a) (Zl.mpr h.2) (Zl.mpr g.2) λd=>by
  rw[Q0,Q0];exact⟨λ⟨a,m,e⟩=>⟨a,(g.1 a).mpr ((h.1 a).mp m),e⟩,λ⟨a,m,e⟩=>⟨a,(h.1 a).mpr ((g.1 a).mp m),e⟩⟩
 exact V0 (λ_ _ z=>zco z) |>.mp this
def zqm:List Tl->(R->Prop)->Prop:=λds Q=>ds = []/\∀h,HoA h->Q (.o (zbc h))
def zpu:List Tl->(R->Prop)->Prop:=λds Q=>∃(h:Hou) (n:Nat),ds = [zbc h,.int (n:Nat)]/\HoA h/\n<=50/\∀s,StH h s->(∀w∈s.words,w.length<=n)->(∀m∈s.rooms++s.flags,m<1000)->Q (.o (zag s))
def zpy:List Tl->(R->Prop)->Prop:=λds Q=>∃(xs:List Sta) (n:Nat),ds = [.list (xs.map zag)]/\0<n/\(∀x∈xs,StW x/\x.words.length=n)/\xs.length<=900/\(∀ys:List Sta,ys.Nodup->(∀y∈ys,y∈xs)->ys.length<=63)/\∀zs,LeastL (·∈xs) zs->Q (.n (zs.map zag))
def zmv:List Tl->(R->Prop)->Prop:=λds Q=>∃(h:Hou) (s:Sta) (i k:Nat) (hd:Hnd) (r:Rul),ds = [zbc h,zag s,.int (i:Nat),.int (k:Nat)]/\HoOk h/\StH h s/\h.hands[i]? = some hd/\hd.rs[k]? = some r/\Q (.o (optS (zca s i r)))
def zm1:List Tl->(R->Prop)->Prop:=λds Q=>∃ls w:List Nat,ds = [wD w,wD ls]/\ls.length<=10/\(∀c∈ls,c<128)/\w.length<=90/\(∀c∈w,c<128)/\∀ws:List (List Nat),ws.Nodup->(∀v,v∈ws↔v∈zby ls w)->Q (.n (ws.map wD))
def LawA(h:Hou)(s x:Sta):Prop:=∃(i:Nat) (hd:Hnd) (k:Nat) (r:Rul),h.hands[i]? = some hd/\hd.rs[k]? = some r/\Trd h.ls s i r x/\∃y,zca x i r=some y/\Abo y s
def zph:List Tl->(R->Prop)->Prop:=λds Q=>∃(h:Hou) (s:Sta),ds = [zbc h,zag s]/\HoA h/\StH h s/\(∀w∈s.words,w.length<=50)/\∀zs,LeastL (LawA h s) zs->Q (.n (zs.map zag))
def zvs:List Tl->(R->Prop)->Prop:=λds Q=>∃h:Hou,ds = [zbc h]/\HoA h/\∀h',HoA h'->h'.hands.length=h.hands.length->h'.flags=h.flags->h'.lines=h.lines->Q (.o (zbc h'))
theorem zch(ok:HoOk h){i k:Nat}(a:h.hands[i]? = some hd)(b:hd.rs[k]? = some r):i<h.hands.length/\DeOk h.ls h.lines h.flags r.d:=⟨(Qi.mp a).1,((ok.rules hd (Qn a)).2 r (Qn b)).1⟩
theorem z0a(ho:HoA h)(hs:StH h s)(x:Sta):zcw (PrgA h s) x↔zcw (LawA h s) x:=by
 refine zr5 (λx hx=>?_) (λx hx=>?_) x
 .obtain⟨i,hd,k,r,a,b,m⟩:=hx;obtain⟨hi,de⟩:=zch ho.ok a b;obtain⟨t,y,d,ab⟩:=zs5 (by rw[hs.rooms];exact hi) hs.words ho.l1 hs.flags de m;exact⟨i,hd,k,r,a,b,t,y,d,ab⟩
 .obtain⟨i,hd,k,r,a,b,t,y,d,ab⟩:=hx;obtain⟨hi,de⟩:=zch ho.ok a b;obtain⟨z,m,az⟩:=zu9 (by rw[hs.rooms];exact hi) hs.words ho.l1 hs.flags de t d ab;exact⟨z,⟨i,hd,k,r,a,b,m⟩,az⟩
theorem zt7{w:List Nat}(h:∀c∈w,c<128):eqF false (wD w) (.str (QS ""))=some (.o (.bool (decide (w = [])))):=by
 rw[zd9 (zl5 h) (by decide +kernel),j8 Q8,zm7]
theorem ztz{w:List Nat}(h:∀c∈w,c<128):eqF true (wD w) (.str (QS ""))=some (.o (.bool (!decide (w = [])))):=by
 rw[zd9 (zl5 h) (by decide +kernel),j7 rfl,zm7]
theorem zka{w:List Nat}(h:w.length<=100000):slcF none (some (-1)) (wD w)=some (.o (wD w.dropLast)):=by
 rw[zsf (by lia)]
 have e:cutL w none (some (-1))=w.dropLast:=by
  unfold cutL;rw[List.dropLast_eq_take,show HT.sIx w.length 0 none=0 from rfl,show HT.sIx w.length w.length (some (-1))=(-1+(w.length:Int)).toNat from rfl,Y9]
  congr 1
  lia
 rw[e]
theorem zir{fs:List Nat}{d:Deed}:∀f∈zb3 fs d,f.length=fs.length:=λf hf=>by
 unfold zb3 at hf
 split at hf
 .split at hf
  .rcases Qs.mp hf with rfl|hf
   .exact Q1
   .rw[Qb.mp hf];exact Q1
  .cases hf
 .split at hf
  .rw[Qb.mp hf]
  .cases hf
 .rw[Qb.mp hf]
theorem zi2{d:Deed}:∀v∈zb2 ws d,v.length=ws.length:=λf hf=>by
 unfold zb2 at hf
 split at hf
 .rw[Qb.mp hf];exact Q1
 .split at hf
  .rw[Qb.mp hf];exact Q1
  .rw[Qb.mp hf]
 .split at hf
  .rw[Qb.mp hf]
  .cases hf
 .rw[Qb.mp hf]
theorem zjb{fs:List Nat}{d:Deed}:(zb3 fs d).length<=2:=by
 unfold zb3
 split
 .split <;> simp
 .split <;> simp
 .simp
theorem zi4{d:Deed}:(zb2 ws d).length<=1:=by
 unfold zb2
 split
 .simp
 .split <;> simp
 .split <;> simp
 .simp
theorem zmr{i:Nat}: (za6 s i r).length<=2:=by
 unfold za6
 split
 .have h0:∀l:List (List Nat),(l.flatMap λf=>(zb2 s.words r.d).map λv=>Sta.mk (s.rooms.set i r.p) f v).length<=l.length * 1:=by
   intro l;have:=zi4 (ws:=s.words) (d:=r.d)
   induction l with
   | nil=>exact Qh _
   | cons x l ih=>rw[V8,Qq,Qc,Q3];lia
  have:=h0 (zb3 s.flags r.d);have:=zjb (fs:=s.flags) (d:=r.d);lia
 .exact QE _
theorem zkn{i:Nat}{n:Nat}(lo:∀c∈h.ls,c<128)(hs:StH h s)(hw:∀w∈s.words,w.length<=n)(hd:DeOk h.ls h.lines h.flags r.d)(hx:x∈za6 s i r):x.rooms.length=h.hands.length/\x.flags.length=h.flags/\x.words.length=h.lines/\∀w∈x.words,w.length<=n+1/\∀c∈w,c<128:=by
 unfold za6 at hx
 split at hx
 .obtain⟨f,hf,hx⟩:=Jn.mp hx;obtain⟨v,hv,rfl⟩:=Q0.mp hx;refine⟨by rw[Q1];exact hs.rooms,(zir f hf).trans hs.flags,(zi2 v hv).trans hs.words,?_⟩;have old:∀w∈s.words,w.length<=n+1/\∀c∈w,c<128:=λw m=>⟨by have:=hw w m;lia,(hs.sml w m).2⟩
  have put:∀(l:Nat) (u:List Nat),(u.length<=n+1/\∀c∈u,c<128)->∀w∈s.words.set l u,w.length<=n+1/\∀c∈w,c<128:=λl u hu w m=>by
   rcases ZE m with m|rfl
   .exact old w m
   .exact hu
  have at_:∀l,l<h.lines->(s.words.getD l []).length<=n/\∀c∈s.words.getD l [],c<128:=λl hl=>by
   have m:=zb5 (z:=([]:List Nat)) (show l<s.words.length by rw[hs.words];exact hl);exact⟨hw _ m,(hs.sml _ m).2⟩
  unfold zb2 at hv
  split at hv
  .rename_i l c e
   rw[e] at hd;obtain⟨h1,h2⟩:=at_ l hd.1;rw[Qb.mp hv];refine put _ _ ⟨by rw[Q3];lia,λx hx=>?_⟩;rcases Qs.mp hx with rfl|hx
   .exact lo x hd.2
   .exact h2 x hx
  .rename_i l c e
   rw[e] at hd;obtain⟨h1,h2⟩:=at_ l hd.1
   split at hv
   .rw[Qb.mp hv];exact put _ _ ⟨by rw[JC];lia,λx hx=>h2 x (Uv _ hx)⟩
   .rw[Qb.mp hv];exact old
  .split at hv
   .rw[Qb.mp hv];exact old
   .cases hv
  .rw[Qb.mp hv];exact old
 .cases hx
def kfS:Tl->Int
 | .tuple [_,_,.tuple ws]=>(ws.map λw=>match w with | .str x=>(x.length:Int)|_=>0).sum
 | _=>0
theorem zkt(s:Sta):kfS (zag s)=((zce s:Nat):Int):=by
 show((s.words.map wD).map λw=>match w with | .str x=>(x.length:Int)|_=>0).sum=_;unfold zce;generalize s.words=ws
 induction ws with
 | nil=>rfl
 | cons w ws ih=>
   rw[Qu,Qu,J0,ih,Qu,J0];show((tx w).length:Int)+_=_;rw[zdg];lia
theorem zla: ∀{ys:List Sta},x∈zbu ys->x∈ys:=by
 have go:∀(ys acc:List Sta),x∈ys.foldl zda acc->x∈acc\/x∈ys:=by
  intro ys
  induction ys with
  | nil=>intro acc h;exact .inl h
  | cons y ys ih=>
    intro acc h;rw[Jx] at h;rcases ih _ h with h|h
    .unfold zda at h
     split at h
     .exact .inl h
     .rcases Qv.mp h with h|h
      .exact .inl h
      .rw[Qb.mp h];exact .inr Qp
    .exact .inr (Qf _ h)
 intro ys h;exact(go ys [] h).resolve_left Q4
theorem zgy:∀(ys acc:List Sta),(ys.foldl zda acc).length<=acc.length+ys.length
 | [],acc=>Qh _
 | y::ys,acc=>by
   rw[Jx];have:=zgy ys (zda acc y)
   have:(zda acc y).length<=acc.length+1:=by
    unfold zda
    split
    .lia
    .rw[Qq];exact Qh _
   rw[Q3];lia
theorem zgh{α:Type}{g:List Way->α->List Way}{m:Nat}:∀(l:List α) (acc:List Way),(∀acc,∀e∈l,(g acc e).length<=acc.length+m)->(l.foldl g acc).length<=acc.length+l.length * m
 | [],acc,_=>by simp
 | e::l,acc,h=>by
   rw[Jx,Q3,UQ];have:=zgh l (g acc e) λacc e' m=>h acc e' (Qf _ m);have:=h acc e Qp;lia
theorem zm3(ho:HoA h):(zd0 h s).length<=20:=by
 have r1:∀(i:Nat) (acc:List Way) (p:Rul×Nat),(addR s i acc p).length<=acc.length+2:=λi acc p=>by
  unfold addR
  have:=zgh (g:=addX i p.2) (m:=1) (za6 s i p.1) acc λacc e _=>by
   unfold addX
   split
   .lia
   .rw[Qq];exact Qh _
  have:=zmr (s:=s) (i:=i) (r:=p.1);lia
 have h1:∀(acc:List Way),∀p∈h.hands.zipIdx,(addH s acc p).length<=acc.length+10:=λacc p hp=>by
  unfold addH;have:=zgh (g:=addR s p.2) (m:=2) p.1.rs.zipIdx acc λacc e _=>r1 p.2 acc e;have r5:=ho.r5 p.1 (Qn (QB.mp hp));rw[ZH] at this;lia
 have:=zgh (g:=addH s) (m:=10) h.hands.zipIdx [] h1;have l2:=ho.h2;rw[ZH,Jj] at this;unfold zd0;lia
theorem z4i{us:List Sta}(h:∀s∈us,∀w∈s.words,Sml w):eqF false (.list (us.map zag)) (.list [])=some (.o (.bool us.isEmpty)):=by
 unfold eqF;have h1:Qz (us.map zag)=true:=zcy λa ha=>(zep (h a ha)).lay
 have h2:Zq (us.map zag)<=3:=by
  have:=(zg8 (f:=zag) (l:=us) λa ha=>zep (h a ha)).dep;simp only[QO] at this;lia
 have h3:okD (.list (us.map zag))=true:=by
  unfold okD;simp[Z9,QO,h1];lia
 rw[j7 (by rw[h3];rfl),j8 Q8];cases us <;> rfl
theorem zgo{α β:Type}{f:α->β}{ws:List α}:∀{zs:List β},(∀x∈zs,x∈ws.map f)->∃vs:List α,zs=vs.map f
 | [],_=>⟨[],rfl⟩
 | z::zs,h=>by
   obtain⟨vs,e⟩:=zgo (ws:=ws) (zs:=zs) λx hx=>h x (Qf _ hx);obtain⟨w,_,e'⟩:=Q0.mp (h z Qp);exact⟨w::vs,by rw[Qu,e,e']⟩
theorem zfd{α β:Type}{f:α->β}(hf:∀a b,f a=f b->a=b){x:α}{us:List α}:f x∈us.map f↔x∈us:=⟨λh=>by
 obtain⟨u,hu,e⟩:=Q0.mp h;rw[<- hf _ _ e]
 exact hu,λh=>U2 h⟩
theorem zj1{xs ys:List Sta}(h:xs.Nodup)(hs:∀k∈xs,k∈ys):xs.length<=ys.length:=by
 classical
 exact TB.len_nd h hs
theorem zcm{α:Type}{f:α->Tl}{xs:List α}{i:Nat}{x:α}(h:xs[i]? = some x):idxF (.list (xs.map f)) (.int (i:Nat))=some (.o (f x)):=z0w (by rw[Qj,h];rfl)
theorem z0m{w:List Nat}(h:w.length<=100000):slcF none (some 1) (wD w)=some (.o (wD (w.take 1))):=by
 rw[zsf (by lia),show(1:Int)=((1:Nat):Int) from rfl,zfe]
theorem z1j{w:List Nat}(h:w.length<=100000):slcF (some 1) none (wD w)=some (.o (wD (w.drop 1))):=by
 rw[zsf (by lia),show(1:Int)=((1:Nat):Int) from rfl,zf9]
theorem zzs{w:List Nat}{c:Nat}(h:∀x∈w,x<128)(hc:c<128):eqF true (wD (w.take 1)) (wD [c])=some (.o (.bool (!decide (w.head? = some c)))):=by
 rw[zd9 (zl5 λx hx=>h x (JK hx)) (zl5 λx hx=>by rw[Qb.mp hx];exact hc),j7 rfl,zmk];cases w <;> simp
theorem z7i{p:Nat}(hp:p<2){Q:R->Prop}{r1 r2:R}(h:∀r,r=r1\/r=r2->Q r):((R.o (.int (p:Nat))).d = .int 0/\Q r1)\/((R.o (.int (p:Nat))).d = .int 1/\Q r2):=by
 rcases Vj p 1 with z|z
 .obtain rfl:p=0:=by lia
  exact .inl ⟨rfl,h _ (.inl rfl)⟩
 .obtain rfl:p=1:=by lia
  exact .inr ⟨rfl,h _ (.inr rfl)⟩
theorem z2v(d:Deed):flat (zcj d)=true:=by cases d <;> rfl
theorem zqi{w:List Nat}{n:Nat}(lo:∀c∈ls,c<128)(hl:w.length<=n)(hw:∀c∈w,c<128)(h:v∈zby ls w):v.length<=n+1/\∀c∈v,c<128:=by
 unfold zby at h;rcases Qs.mp h with rfl|h
 .exact⟨by lia,hw⟩
 rcases Qs.mp h with rfl|h
 .exact⟨by rw[JC];lia,λc hc=>hw c (Uv _ hc)⟩
 rcases Qs.mp h with rfl|h
 .exact⟨QE _,λc hc=>absurd hc Q4⟩
 obtain⟨c,hc,rfl⟩:=Q0.mp h;refine⟨by rw[Q3];lia,λx hx=>?_⟩;rcases Qs.mp hx with rfl|hx
 .exact lo x hc
 .exact hw x hx
theorem zg6{fs:List Nat}{d:Deed}:(zgz fs d).length<=2/\∀f∈zgz fs d,f.length=fs.length:=by
 unfold zgz
 split
 .refine⟨Qh _,λf hf=>?_⟩;rcases Qs.mp hf with rfl|hf
  .exact Q1
  .rw[Qb.mp hf];exact Q1
 .exact⟨by simp,λf hf=>by rw[Qb.mp hf]⟩
theorem z1a{i:Nat}(lo:∀c∈h.ls,c<128)(hx:StH h x)(hd:DeOk h.ls h.lines h.flags r.d)(e:zca x i r=some y):y.rooms.length=h.hands.length/\y.flags.length=h.flags/\y.words.length=h.lines/\∀w∈y.words,Sml w:=by
 unfold zca at e
 split at e
 .cases e;unfold zqz;have old:∀w∈x.words,Sml w:=λw m=>⟨by have:=(hx.sml w m).1;lia,(hx.sml w m).2⟩;have at_:∀l,l<h.lines->(x.words.getD l []).length<=90/\∀c∈x.words.getD l [],c<128:=λl hl=>hx.sml _ (zb5 (show l<x.words.length by rw[hx.words];exact hl))
  have put:∀(l:Nat) (u:List Nat),Sml u->∀w∈x.words.set l u,Sml w:=λl u hu w m=>by
   rcases ZE m with m|rfl
   .exact old w m
   .exact hu
  refine⟨by rw[Q1];exact hx.rooms,?_,?_,?_⟩
  .show(zde x.flags r.d).length=_;unfold zde
   split
   .rw[Q1];exact hx.flags
   .exact hx.flags
  .show(zcg x.words r.d).length=_;unfold zcg
   split
   .rw[Q1];exact hx.words
   .rw[Q1];exact hx.words
   .exact hx.words
  .show ∀w∈zcg x.words r.d,Sml w;unfold zcg
   split
   .rename_i l c ed
    rw[ed] at hd;obtain⟨h1,h2⟩:=at_ l hd.1;refine put _ _ ⟨by rw[Qq,QA];lia,λz hz=>?_⟩;rcases Qv.mp hz with hz|hz
    .exact h2 z hz
    .rw[Qb.mp hz];exact lo c hd.2
   .rename_i l c ed
    rw[ed] at hd;obtain⟨h1,h2⟩:=at_ l hd.1;exact put _ _ ⟨by rw[Z8];lia,λz hz=>h2 z (YY hz)⟩
   .exact old
 .cases e
theorem zkf{l f:Nat}{d:Deed}(l1:1<=l)(h:DeOk ls l f d):zbh d<l:=by
 cases d with
 | send=>exact h.1
 | take=>exact h.1
 | empty=>exact h
 | go=>exact l1
 | put=>exact l1
 | test=>exact l1
theorem z5v(h:StW s)(hn:∀m∈s.rooms++s.flags,m<1000):Nice 2 2063 (zag s):=by
 have a:=zgf (f:=nD) (l:=s.rooms) (m:=20) (λn hm=>zns (hn n (QR _ hm))) h.rooms;have b:=zgf (f:=nD) (l:=s.flags) (m:=20) (λn hm=>zns (hn n (Q9 _ hm))) h.flags;have c:=zgf (f:=wD) (l:=s.words) (m:=20) (λw hw=>zxq (b:=100) (λx hx=>by have:=(h.sml w hw).2 x hx;lia) (h.sml w hw).1) h.words;exact(zha a (zha b (zha c (zvc 1)))).more (Qh _) (by lia)
theorem zw9(ho:HoA h)(hs:StH h s)(hn:∀m∈s.rooms++s.flags,m<1000)(hz:LeastL (PrgA h s) zs):∃x,zf1 [.list (zs.map zag)]=some (.o (.str x))/\Zu x=true:=by
 have lo:=zdh ho.ok.low
 have nd:zs.Nodup:=hz.2.imp λ{a b} h e=>by
  rw[e,(zez shSt).irr _ (zb9 b)] at h;cases h
 have ln:zs.length<=20:=by
  have:=zj1 (ys:=(zd0 h s).map (·.1)) nd λx hx=>Q0.mpr (ways_in.mpr ((hz.1 x).mp hx).1);rw[Qc] at this;exact QY this (zm3 ho)
 refine ztd (n:=3) (b:=20 * 2064) (zgf (λx hx=>?_) ln);obtain⟨i,hd,k,r,a,b,m⟩:=((hz.1 x).mp hx).1;obtain⟨b1,b2,b3,b4⟩:=zkn (n:=90) lo hs (λw m=>(hs.sml w m).1) (zch ho.ok a b).2 m;have h2:=ho.h2;have f2:=ho.f2;have l2:=ho.l2;refine z5v ⟨by lia,by lia,by lia,λw hw=>⟨by have:=(b4 w hw).1;lia,(b4 w hw).2⟩⟩ λn hn'=>?_;have rp:=((ho.ok.rules hd (Qn a)).2 r (Qn b)).2.1;unfold za6 at m
 split at m
 .obtain⟨f,hf,m⟩:=Jn.mp m;obtain⟨v,hv,rfl⟩:=Q0.mp m;rcases Qv.mp hn' with hn'|hn'
  .rcases ZE hn' with z|rfl
   .exact hn n (QR _ z)
   .lia
  .have fl:∀z∈s.flags,z<1000:=λz hz=>hn z (Q9 _ hz)
   have st:∀(j u:Nat),u<1000->n∈s.flags.set j u->n<1000:=λj u hu hm=>by
    rcases ZE hm with z|rfl
    .exact fl n z
    .exact hu
   have hn':n∈f:=hn';unfold zb3 at hf
   split at hf
   .split at hf
    .rcases Qs.mp hf with rfl|hf
     .exact st _ _ (by decide) hn'
     .rw[Qb.mp hf] at hn';exact st _ _ (by decide) hn'
    .cases hf
   .split at hf
    .rw[Qb.mp hf] at hn';exact fl n hn'
    .cases hf
   .rw[Qb.mp hf] at hn';exact fl n hn'
 .cases m
theorem zgi{w:List Nat}(hv:v∈zby ls w)(h:w.Sublist v):v∈w::ls.map (· :: w):=by
 unfold zby at hv;rcases Qs.mp hv with rfl|hv
 .exact Qp
 rcases Qs.mp hv with rfl|hv
 .have:=h.eq_of_length_le (by rw[JC];lia);rw[<- this];exact Qp
 rcases Qs.mp hv with rfl|hv
 .rw[VL.mp h];exact Qp
 .exact Qf _ hv
def zhc(s:Sta)(i:Nat):List (List Nat):=if s.rooms.getD i 0<3 then((QH 3).filter (·≠s.rooms.getD i 0)).map λp=>s.rooms.set i p else[]
def zcq(s:Sta)(n:Nat):List (List Nat):=s.rooms::(QH n).flatMap (zhc s)
def zhg(ls:List Nat)(s:Sta)(n:Nat):List Sta:=(zcq s n).flatMap λrm=>(s.words.getD 0 []::ls.map (· :: s.words.getD 0 [])).map λw=>⟨rm,s.flags,s.words.set 0 w⟩
def oddB(ls:List Nat)(s:Sta)(i:Nat)(r:Rul):List Sta:=match r.d with
 | .put f v=>(s.words.getD 0 []::ls.map (· :: s.words.getD 0 [])).map λw=>⟨s.rooms.set i r.p,s.flags.set f (1-v),s.words.set 0 w⟩
 | .send l _=>((s.words.getD l []).dropLast::ls.map (· :: s.words.getD l [])).map λw=>⟨s.rooms.set i r.p,s.flags,s.words.set l w⟩
 | .take l _=>(ls.map (· :: s.words.getD l [])).map λw=>⟨s.rooms.set i r.p,s.flags,s.words.set l w⟩
 | _=>[]
theorem zrj(s:Sta)(i:Nat):(zhc s i).length<=2:=by
 unfold zhc
 split
 .rename_i h
  rw[Qc];generalize s.rooms.getD i 0=c at h;obtain rfl|rfl|rfl:c=0\/c=1\/c=2:=by lia
  all_goals decide
 .exact QE _
theorem zfh{α β:Type}{f:α->List β}{m:Nat}:∀{l:List α},(∀x∈l,(f x).length<=m)->(l.flatMap f).length<=l.length * m
 | [],_=>QE _
 | x::l,h=>by
   have:=zfh (l:=l) λy hy=>h y (Qf _ hy);have:=h x Qp;rw[V8,Qq,Q3,UQ];lia
theorem z1r(h3:ls.length<=3)(s:Sta)(i:Nat)(r:Rul):(oddB ls s i r).length<=4:=by
 unfold oddB
 split <;> simp <;> lia
theorem zxw(h3:ls.length<=3)(s:Sta){n:Nat}(h2:n<=2):(zhg ls s n).length<=20:=by
 have h1:(zcq s n).length<=5:=by
  unfold zcq;have:=zfh (f:=zhc s) (m:=2) (l:=QH n) λx _=>zrj s x;rw[QZ] at this;rw[Q3];lia
 have:=zfh (f:=λrm=>(s.words.getD 0 []::ls.map (· :: s.words.getD 0 [])).map λw=>Sta.mk rm s.flags (s.words.set 0 w)) (m:=4) (l:=zcq s n) λx _=>by simp;lia
 unfold zhg;lia
theorem zxp{i n p:Nat}(hi:i<n)(hl:i<s.rooms.length)(h3:s.rooms.getD i 0<3)(hp:p<3):s.rooms.set i p∈zcq s n:=by
 unfold zcq
 by_cases e:p=s.rooms.getD i 0
 .rw[e,zbk hl];exact Qp
 .refine Qf _ (Jn.mpr ⟨i,QJ.mpr hi,?_⟩);unfold zhc;rw[j7 h3];exact Q0.mpr ⟨p,JV.mpr ⟨QJ.mpr hp,by simpa using e⟩,rfl⟩
theorem zfk{n l:Nat}{w:List Nat}(hr:rm∈zcq s n)(h0:0<s.words.length)(hl:l<s.words.length)(hw:l=0/\w∈s.words.getD 0 []::ls.map (· :: s.words.getD 0 [])\/w=s.words.getD l []):(⟨rm,s.flags,s.words.set l w⟩:Sta)∈zhg ls s n:=by
 unfold zhg;refine Jn.mpr ⟨rm,hr,Q0.mpr ?_⟩;rcases hw with ⟨rfl,hw⟩|rfl
 .exact⟨w,hw,rfl⟩
 .exact⟨_,Qp,by rw[zbk hl,zbk h0]⟩
theorem z1h{i k:Nat}(ho:HoA h)(hs:StH h s)(a:h.hands[i]? = some hd)(b:hd.rs[k]? = some r)(ht:Trd h.ls s i r x)(hg:∃y,zca x i r=some y/\Abo y s):x∈zhg h.ls s h.hands.length\/x∈oddB h.ls s i r:=by
 obtain⟨y,ey,b1,b2,b3,b4⟩:=hg;obtain⟨w,hw,fs,hfs,rfl⟩:=ht;obtain⟨il,de⟩:=zch ho.ok a b;have rl:=ho.rp hd (Qn a) r (Qn b);have l0:0<s.words.length:=by rw[hs.words];exact ho.l1
 have hl:i<s.rooms.length:=by rw[hs.rooms];exact il
 have ln:zbh r.d<s.words.length:=by rw[hs.words];exact zkf ho.l1 de
 have b4:=(zb7 b3).mp b4;unfold zca at ey
 split at ey
 .rename_i hg
  obtain⟨_,lt⟩:=hg;cases ey
  have hq:s.rooms.getD i 0=r.q:=by
   rw[<- b1];show((s.rooms.set i r.p).set i r.q).getD i 0=_;rw[JG,zau hl,j7 rfl]
  have q3:s.rooms.getD i 0<3:=by rw[hq];exact rl.2
  have hr:s.rooms.set i r.p∈zcq s h.hands.length:=zxp il hl q3 rl.1;have b2:zde fs r.d=s.flags:=b2;have c3:(s.words.getD (zbh r.d) []).Sublist ((zcg (s.words.set (zbh r.d) w) r.d).getD (zbh r.d) []):=b4 (zbh r.d) ln;clear b4;have same:(s.words.set (zbh r.d) w).getD (zbh r.d) []=w:=by rw[zau ln,j7 rfl]
  suffices key:∀d,r.d=d->_ from key _ rfl
  intro d e
  cases d with
  | go=>
    rw[e] at hfs hw c3 same ln ⊢;obtain rfl:=Qb.mp hfs;refine .inl (zfk hr l0 ln (.inl ⟨rfl,zgi hw ?_⟩));have c4:(s.words.getD 0 []).Sublist ((s.words.set 0 w).getD 0 []):=c3;rwa [show(s.words.set 0 w).getD 0 []=w from same] at c4
  | test f v=>
    rw[e] at hfs hw c3 same ln ⊢;obtain rfl:=Qb.mp hfs;refine .inl (zfk hr l0 ln (.inl ⟨rfl,zgi hw ?_⟩));have c4:(s.words.getD 0 []).Sublist ((s.words.set 0 w).getD 0 []):=c3;rwa [show(s.words.set 0 w).getD 0 []=w from same] at c4
  | empty l=>
    rw[e] at hfs hw c3 same ln lt ⊢;obtain rfl:=Qb.mp hfs;have lt:(s.words.set l w).getD l [] = []:=jB lt;have c4:(s.words.getD l []).Sublist ((s.words.set l w).getD l []):=c3;have same:(s.words.set l w).getD l []=w:=same;rw[lt] at c4;rw[lt] at same;exact .inl (zfk hr l0 ln (.inr (same.symm.trans (VL.mp c4).symm)))
  | put f v=>
    rw[e] at hfs hw c3 same ln b2 de ⊢
    have nb:w∈s.words.getD 0 []::h.ls.map (· :: s.words.getD 0 []):=by
     refine zgi hw ?_;have c4:(s.words.getD 0 []).Sublist ((s.words.set 0 w).getD 0 []):=c3;rwa [show(s.words.set 0 w).getD 0 []=w from same] at c4
    have lf:f<s.flags.length:=by rw[hs.flags];exact de.1
    have b2:fs.set f v=s.flags:=b2
    have fv:s.flags.getD f 0=v:=by
     have lf':f<fs.length:=by rw[<- b2,Q1] at lf;exact lf
     rw[<- b2,zau lf',j7 rfl]
    have v2:v<2:=de.2
    have or:fs=s.flags\/fs=s.flags.set f (1-v):=by
     have z:∀u,u<2->fs=s.flags.set f u->fs=s.flags\/fs=s.flags.set f (1-v):=λu hu eu=>by
      by_cases e':u=v
      .left;rw[eu,e',<- fv,zbk lf]
      .right;rw[eu,show u=1-v by lia]
     rcases Qs.mp hfs with z'|z'
     .exact z 0 (by lia) z'
     .exact z 1 (by lia) (Qb.mp z')
    rcases or with rfl|rfl
    .exact .inl (zfk hr l0 ln (.inl ⟨rfl,nb⟩))
    .right;unfold oddB;rw[e];exact Q0.mpr ⟨w,nb,rfl⟩
  | send l c=>
    rw[e] at hfs hw c3 same ln ⊢;obtain rfl:=Qb.mp hfs;have ln:l<s.words.length:=ln;have hw:w∈zby h.ls (s.words.getD l []):=hw;have same:(s.words.set l w).getD l []=w:=same;have c4:(s.words.getD l []).Sublist (((s.words.set l w).set l ((s.words.set l w).getD l [] ++ [c])).getD l []):=c3;rw[same,JG,zau ln,j7 rfl] at c4
    have go:w=s.words.getD l []\/w∈(s.words.getD l []).dropLast::h.ls.map (· :: s.words.getD l []):=by
     unfold zby at hw;rcases Qs.mp hw with hw|hw
     .exact .inl hw
     rcases Qs.mp hw with hw|hw
     .exact .inr (hw ▸ Qp)
     rcases Qs.mp hw with hw|hw
     .subst hw;have:=c4.length_le;generalize s.words.getD l []=u at this
      match u,this with
      | [],_=>exact .inl rfl
      | [_],_=>exact .inr Qp
     .exact .inr (Qf _ hw)
    rcases go with rfl|go
    .exact .inl (zfk hr l0 ln (.inr rfl))
    .right;unfold oddB;rw[e];exact Q0.mpr ⟨w,go,rfl⟩
  | take l c=>
    rw[e] at hfs hw c3 same ln lt ⊢;obtain rfl:=Qb.mp hfs;have ln:l<s.words.length:=ln;have hw:w∈zby h.ls (s.words.getD l []):=hw;have same:(s.words.set l w).getD l []=w:=same;have c4:(s.words.getD l []).Sublist (((s.words.set l w).set l (((s.words.set l w).getD l []).drop 1)).getD l []):=c3;have lt:((s.words.set l w).getD l []).head? = some c:=jB lt;rw[same] at lt;rw[same,JG,zau ln,j7 rfl] at c4;have c5:=c4.length_le;have w0:0<w.length:=by cases w with|nil=>cases lt|cons=>exact Vn _
    rw[Z8] at c5;right;unfold oddB;rw[e];refine Q0.mpr ⟨w,?_,rfl⟩;unfold zby at hw;rcases Qs.mp hw with rfl|hw
    .lia
    rcases Qs.mp hw with rfl|hw
    .rw[JC] at c5 w0;lia
    rcases Qs.mp hw with rfl|hw
    .cases w0
    .exact hw
 .cases ey
theorem z2c{h:Hou}{s:Sta}{ys:List Sta}(ho:HoA h)(hs:StH h s)(nd:ys.Nodup)(hy:∀y∈ys,LawA h s y):ys.length<=63:=by
 have s3:=ho.s3;have h2:=ho.h2
 have l1:=zfh (m:=20) (l:=h.hands.zipIdx) (f:=λp=>p.1.rs.flatMap (oddB h.ls s p.2)) λp hp=>by
  have r5:=ho.r5 p.1 (Qn (QB.mp hp));have:=zfh (f:=oddB h.ls s p.2) (m:=4) (l:=p.1.rs) λr _=>z1r s3 s p.2 r;lia
 have l2:=zxw s3 s h2;rw[ZH] at l1
 have:=zj1 (ys:=zhg h.ls s h.hands.length++h.hands.zipIdx.flatMap λp=>p.1.rs.flatMap (oddB h.ls s p.2)) nd λy m=>by
  obtain⟨i,hd,k,r,a,b,t,g⟩:=hy y m;rcases z1h ho hs a b t g with z|z
  .exact QR _ z
  .exact Q9 _ (Jn.mpr ⟨(hd,i),QB.mpr a,Jn.mpr ⟨r,Qn b,z⟩⟩)
 rw[Qq] at this;lia
section
variable {prog:Tr}{w:Tt}{A:Tv}{E:Tn->To->Prop}{s:To}
theorem z1n{e it l:Addr}{i:Nat}{zs:Array Tn}{x old:Tn}{Q:Tn->To->Prop}(G:Ny s.heap e it i old)(A1:s.heap.IsTupleIter it l i)(T1:s.heap.IsTuple l zs)(hx:zs[i]? = some x)(ne:e≠it)
 (q:∀h',IsEnumOut h' e it ((i:Int)+1) x s.heap.objs.size->h'.IsTupleIter it l (i+1)->h'.get? s.heap.objs.size=some { cls:=.type "tuple",data:=.seq #[.int i s.toks,x] }->(∀b o,b≠e->b≠it->s.heap.get? b=some o->h'.get? b=some o)->Q (.ref s.heap.objs.size) { s with heap:=h',toks:=s.toks+1 }) :
 wpAny (model prog w) A (Builtin.«enumerate.__next__» ⟨[.ref e],[]⟩) (λfin s'=>∃v,fin = .done (.ret v)/\Q v s') E s:=by
 obtain⟨hp,gn,dr,tk,os⟩:=s;refine Tj (m:=NL (.ref e) 2) (TJ G rfl (x:=.ref it) rfl (Tj (zp6 A1 T1 hx λha A1a sa=>?_)))
 replace sa:Zk it hp ha:=sa
 have Ga:Ny ha e it i old:=(sa.2 e ne).trans G;refine Tj (m:=NL (.ref e) 3) (TJ Ga rfl (x:=ME i) rfl (Tj (m:=NL (.ref e) 4) (TJ Ga rfl (x:=.none) rfl (Tj (m:=mkInt i) (wpAny_mkInt ?_)))));refine Tj (m:=j5 (.ref e) 3 (ME ((i:Int)+1))) (Tu Ga (by simp) λhb Gb sb=>?_)
 replace sb:Zk e ha hb:=sb
 replace Gb:Ny hb e it ((i:Int)+1) old:=Gb
 refine Tj (m:=j5 (.ref e) 4 .none) (Tu Gb (by simp) λhc Gc sc=>?_)
 replace sc:Zk e hb hc:=sc
 replace Gc:Ny hc e it ((i:Int)+1) old:=Gc
 refine Tj (m:=j3 [.int i tk,x]) (MK ?_);have sz3:hc.objs.size=hp.objs.size:=by rw[sc.1,sb.1,sa.1]
 have el:e<hp.objs.size:=Qt G;have Gd:Ny (hc.push { cls:=.type "tuple",data:=.seq #[.int i tk,x] }) e it ((i:Int)+1) old:=Qe _ Gc;have td:(hc.push { cls:=.type "tuple",data:=.seq #[.int i tk,x] }).get? hp.objs.size=some { cls:=.type "tuple",data:=.seq #[.int i tk,x] }:=by rw[<- sz3];exact Qm _ rfl
 have kd:∀b o,b≠e->b≠it->hp.get? b=some o->(hc.push { cls:=.type "tuple",data:=.seq #[.int i tk,x] }).get? b=some o:=λb o n1 n2 g=>Qe _ (sc.extBut b o n1 (sb.extBut b o n1 (sa.extBut b o n2 g)));have A1d:(hc.push { cls:=.type "tuple",data:=.seq #[.int i tk,x] }).IsTupleIter it l (i+1):=A1a.at λo g=>Qe _ (sc.extBut _ o (ZA ne) (sb.extBut _ o (ZA ne) g));refine Tj (m:=Zv (.ref e)) ?_;rw[sz3];generalize hc.push { cls:=.type "tuple",data:=.seq #[.int i tk,x] }=hd at Gd td kd A1d;unfold Zv;refine Tj (TJ Gd rfl (x:=.none) rfl (Tk ?_));simp only[jE];refine Tj (TW (Tj (TJ Gd rfl (x:=old) rfl (Tj (Tu Gd (by simp) λhf Gf sf=>?_)))))
 replace sf:Zk e hd hf:=sf
 replace Gf:Ny hf e it ((i:Int)+1) x:=Gf
 refine Tj (m:=ZR (.ref e) (.ref hp.objs.size)) ?_;unfold ZR;refine Tj (Tu Gf (by simp) λhg Gg sg=>?_)
 replace sg:Zk e hf hg:=sg
 replace Gg:IsEnumOut hg e it ((i:Int)+1) x hp.objs.size:=Gg
 refine Tu Gg (by simp) λhh Gh sh=>Tj (Nj (Tk ⟨_,rfl,?_⟩))
 replace sh:Zk e hg hh:=sh
 have up:∀b o,b≠e->hd.get? b=some o->hh.get? b=some o:=λb o n g=>sh.extBut b o n (sg.extBut b o n (sf.extBut b o n g));exact q hh Gh (A1d.at λo g=>up _ o (ZA ne) g) (up _ _ (Jz el) td) λb o n1 n2 g=>up b o n1 (kd b o n1 n2 g)
theorem zzz{i:Nat}(G:Ny s.heap e it i old)(A1:s.heap.IsTupleIter it l i)(T1:s.heap.IsTuple l zs)(hx:zs[i]? = some x)(ne:e≠it)
 (q:∀h',IsEnumOut h' e it ((i:Int)+1) x s.heap.objs.size->h'.IsTupleIter it l (i+1)->h'.get? s.heap.objs.size=some { cls:=.type "tuple",data:=.seq #[.int i s.toks,x] }->(∀b o,b≠e->b≠it->s.heap.get? b=some o->h'.get? b=some o)->Q (some (.ref s.heap.objs.size)) { s with heap:=h',toks:=s.toks+1 }):wpAny (model prog w) A (M8 (.ref e)) Q E s:=by
 have T:s.TypeIs (.ref e) "enumerate" := ⟨_,G,rfl⟩;unfold M8;exact Tj (Mk (TC (name:=QS "__next__") T Yb (Tw Yb T VU (z1n G A1 T1 hx ne λh' a b c d=>Tk (q h' a b c d)) (VM _))))
theorem zy7{i:Nat}(hh:A.handled=none)(G:Ny s.heap e it i old)(A1:s.heap.IsTupleIter it l i)(T1:s.heap.IsTuple l zs)(hx:zs[i]? = none)(ne:e≠it)
 (q:∀h',(∀b o,b≠it->s.heap.get? b=some o->h'.get? b=some o)->Q none { s with heap:=h' }):wpAny (model prog w) A (M8 (.ref e)) Q E s:=by
 have T:s.TypeIs (.ref e) "enumerate" := ⟨_,G,rfl⟩;unfold M8;refine Tj (Mk (TC (name:=QS "__next__") T Yb (Tw Yb T VU ?_ (VM _))));refine Tj (m:=NL (.ref e) 2) (TJ G rfl (x:=.ref it) rfl (Tj (zss hh A1 T1 hx λh' x sb zz=>?_)));obtain⟨o,g,c⟩:=zz;exact Tj (Md (T := "StopIteration") (b:=true) ⟨o,g,c⟩ Nd (Tk (q _ λb o n g=>sb b o n g)))
theorem z3h(l:Addr)(zs:Array Tn)(n:Nat)(dct:Option Addr)(sl:Array (Option Tn)):Meets (Builtin.«enumerate.__new__» ⟨[.type "enumerate",.ref l],[]⟩) (λ_ R s=>s.heap.get? l=some { cls:=.type "tuple",dict:=dct,data:=.seq zs n,slots:=sl } /\
 R (.ok (.ret (.ref (zq1 false s.heap l).objs.size))) { s with heap:=(zq1 false s.heap l).push { cls:=.type "enumerate",data:=.fields #[.none,.bool false,.ref s.heap.objs.size,ME 0,.none,.none] } }) :=
 .of_wp λprog w A R s h=>by
  obtain⟨hp,g,d,tk,os⟩:=s;obtain⟨a,q⟩:=h;have sub:=sub_enumerate;have tp:VS (Ym ⟨hp,g,d,tk,os⟩) l zs:=⟨_,a,rfl,n,rfl⟩
  wp_walk using Yv a
  refine wpAny_stack_any λst=>Tk ?_
  split
  .rename_i c _ _ _ _ _
   cases (c == Zp "enumerate") <;> (wp_walk using Yv a,Me tp;exact⟨_,rfl,q⟩)
  .wp_walk using Yv a,Me tp
   exact⟨_,rfl,q⟩
theorem z2i(tp:s.heap.IsTuple l zs)
 (q:∀h',Ny h' (s.heap.objs.size+1) s.heap.objs.size 0 .none->h'.IsTupleIter s.heap.objs.size l 0->(∀b o,s.heap.get? b=some o->h'.get? b=some o)->Q (.ref (s.heap.objs.size+1)) { s with heap:=h' }) :
 wpAny (model prog w) A (call (.type "enumerate") [.ref l]) Q E s:=by
 obtain⟨⟨c,dct,dt,sl⟩,a,hc,n,hd⟩:=tp
 replace hc:c = .type "tuple" := hc
 replace hd:dt = .seq zs n:=hd
 subst hc hd;refine callType_new F.called_enumerate (by decide) (F.typeCall_enumerate_1 _) (F.newCall_enumerate_1 _) (λobj=>F.args_object_init_2 obj _) F.entry_enumerate_new (z3h l zs n dct sl) ⟨a,?_⟩;have n1:(zq1 false s.heap l).objs.size=s.heap.objs.size+1:=QU ..;have e2:((zq1 false s.heap l).push { cls:=.type "enumerate",data:=.fields #[.none,.bool false,.ref s.heap.objs.size,ME 0,.none,.none] }).get? (zq1 false s.heap l).objs.size=some _:=Qm _ rfl;show _/\_;rw[n1] at e2 ⊢;exact⟨⟨_,e2,rfl⟩,q _ e2 ⟨_,Qe _ (Qm _ rfl),rfl,rfl⟩ λb o g=>Qe _ (Qe _ g)⟩
end
def Itet(K:Qa)(l:Addr):It :=
 ⟨λi H=>∃xs x,SqT K H l xs/\xs[i]? = some x,λi H x H'=>∃a y,H a=none/\(∀xs,SqT K H l xs->xs[i]? = some y)/\x = .ref a/\H'=upd H a (.tup [.int (i:Nat),y]),λi H=>∃xs,SqT K H l xs/\xs.length<=i⟩
theorem zru{P:Tr}{w:Tt}{K:Qa}{elts:List Expr}{x1:Nat}{pos:Pos}(l it e:Addr)(ne:e≠it):
 Turn P w K (.Tuple elts x1 pos) (Itet K l) [e,it] e (λi h=>(∃old,Ny h e it i old)/\h.IsTupleIter it l i) where
 mem:=by simp
 obj:=λi h st b hb=>by
  obtain⟨⟨old,g⟩,o,g2,_,d⟩:=st;simp only[Qs,Q4,jH] at hb;rcases hb with rfl|rfl
  .exact⟨_,g,λv z=>by cases z⟩
  .exact⟨o,g2,λv z=>by rw[d] at z;cases z⟩
 keep:=λi h h' ⟨⟨old,g⟩,a⟩ k=>⟨⟨old,k e (by simp) _ g⟩,a.at λo g=>k it (by simp) o g⟩
 item:=by
  intro X hP hw hK hc i pins s σ H E I hf st hg;subst hP hw hK;obtain⟨xs,x,q1,hx⟩:=hg;obtain⟨us,ru,tu,_⟩:=I.tuple q1;obtain⟨u,hu,ru⟩:=ru.get hx;obtain⟨⟨old,G⟩,A1⟩:=st
  have lt:∀b∈[e,it],b≠s.heap.objs.size:=λb hb z=>by
   have:b<s.heap.objs.size:=by
    obtain⟨o,g2,_⟩:=A1;simp only[Qs,Q4,jH] at hb;rcases hb with rfl|rfl
    .exact Qt G
    .exact Qt g2
   exact Zj _ (z ▸ this)
  refine zzz G A1 tu (x:=u) (by simpa using hu) ne λh1 G1 A2 hp up=>⟨_,rfl,?_⟩;refine wpAny_letOwnedTupleGo_enum G1 λh2 G2 sb=>?_
  have up2:∀b o,b ∉ [e,it]->s.heap.get? b=some o->h2.get? b=some o:=λb o hb g=>by
   simp only[Qs,Q4,jH,not_or] at hb;exact(sb.2 b hb.1).trans (up b o hb.1 hb.2 g)
  have P2:h2.get? s.heap.objs.size=some { cls:=.type "tuple",data:=.seq #[.int i s.toks,u] }:=(sb.2 _ (ZA (lt e (by simp)))).trans hp;have sL:=Ts;refine⟨.ref s.heap.objs.size,_,zlx (s:=s) (t':=s.toks+1) I hf up2 (Qh _) (o:=.tup [.int (i:Nat),x]) ⟨by show 2<=sizeLine;lia,[.int i s.toks,u],.cons ⟨_,rfl⟩ (.cons ru .nil),⟨_,P2,rfl,_,rfl⟩⟩,rfl,⟨_,x,I.hok.fresh (Qh _),λzs hz=>by rw[I.tuple_inj hz q1];exact hx,rfl,rfl⟩,⟨⟨u,?_⟩,A2.at λo g=>(sb.2 it (ZA ne)).trans g⟩,λb hb=>?_⟩
  .have ei:((i+1:Nat):Int)=(i:Int)+1:=by lia
   rw[ei];exact G2
  .rw[zae (lt b hb)];exact(hf b hb).1
 done:=by
  intro X hP hw hK hc i pins s σ H E I hf st hg;subst hP hw hK;obtain⟨xs,q1,hx⟩:=hg;obtain⟨us,ru,tu,_⟩:=I.tuple q1;have lu:=ru.length;obtain⟨⟨old,G⟩,A1⟩:=st;exact zy7 (I.ok.hd hc) G A1 tu (by simp;lia) ne λh1 up=>⟨rfl,zk0 (t':=s.toks) I hf λb o hb g=>up b o (λz=>hb (by simp[z])) g⟩
 self:=λ_ _ _ _ _ st h=>let ⟨old,g⟩:=st.1;wpAny_pyIter_enum g h
def znk(K:Qa)(t:TE):TI:=λσ H R=>t σ H λv H1=>∃a,v = .ref a/\(∃xs,SqT K H1 a xs)/\R (Itet K a) H1
theorem zwu{elts:List Expr}{x1:Nat}(gE:Gl X "enumerate")(mE:X.mg "enumerate" = none)(hl:PE X l tl)(s1:Tq [l] X.env=(false,eval l X.env)::Tq [] X.env:=by rfl):PI X (.Tuple elts x1 pos) (.Call (.Name "enumerate" p1) [l] [] p2) (znk X.K tl):=by
 intro pins s σ H R I h;refine TL (zcf I gE mE znx ?_);refine Zs ?_ s1;rw[s1];show wpAny _ _ (MY ((false,eval l X.env) :: [])) _ _ s;refine Z0 (thn (hl pins s σ H _ I h) λu s' ⟨y,H1,I1,r1,a,ey,⟨xs,hq⟩,q⟩=>ZJ ?_);subst ey;cases r1;obtain⟨us,ru,tu,_⟩:=I1.tuple hq;refine z2i tu λh' he hi kp=>wpAny_pyIter_enum he ?_;refine⟨s'.heap.objs.size+1,[s'.heap.objs.size+1,s'.heap.objs.size],_,Itet X.K a,H1,rfl,I1.kept (t':=s'.toks) kp,zru a s'.heap.objs.size (s'.heap.objs.size+1) (G0 _),⟨⟨_,he⟩,hi⟩,λb hb=>?_,q⟩
 have le:s'.heap.objs.size<=b:=by
  simp only[Qs,Q4,jH] at hb;rcases hb with rfl|rfl
  .exact Jr _
  .exact Qh _
 exact I1.fpOk le (I1.hok.fresh le)
section
variable {K:Qa}{O:Ob}
def zyk(f:DE):DI:=λρ Q=>f ρ λr=>∃ds,r.d = .tuple ds/\flats ds=true/\Q true (zev ds)
theorem zvq(h:ED K O t f):SrcS K O (znk K t) (zyk f):=λσ H ρ R Qd S hf k=>by
 refine h σ H ρ _ _ S hf λv H1 r st o1 zz=>?_;obtain⟨ds,e,fl,q⟩:=zz;have i1:=o1.is S.ok S.p;rw[e] at i1
 cases i1 with
 | tuple ha hs=>
   rename_i a xs
   refine⟨a,rfl,⟨xs,ha⟩,k (Itet K a) H1 (zev ds) (λ_=>False) true ⟨st,λb hb=>hb.elim,λH2 i kb t2 hi=>?_,λH2 i d kb t2 hd c=>?_⟩ (λz b hb=>hb.elim) q⟩
   .rw[zsz] at hi;exact⟨xs,SqT.stay t2 ha,by rw[hs.length];exact hi⟩
   .obtain⟨x,h1,rfl⟩:=zu4 hd;have fx:=zif fl h1;obtain⟨u,hu,iu⟩:=zd7 (O:=O) hs h1 t2 (.inl fx);have q1:SqT K H2 a xs:=SqT.stay t2 ha;refine⟨⟨xs,u,q1,hu⟩,λw H3 zz=>?_⟩;obtain⟨c',u',hc',e1,ex,e3⟩:=zz;have sm:Same H2 H3:=by rw[e3];exact L3.same_new hc' _
    subst ex;have e1:=e1 xs q1;rw[hu] at e1;cases e1;have fl2:flat (.tuple [.int (i:Nat),x])=true:=by show(true && (flat x && true))=true;rw[fx];rfl
    refine⟨sm,.tuple (xs:=[.int (i:Nat),u]) (.inl (.inl (by rw[e3];exact zak))) (.cons (.int _) (.cons (iu.to (λc zs f q=>⟨⟨f.1,.inl fl2⟩,sm _ _ q⟩) λc zs q=>?_) .nil))⟩;rcases q with (q|⟨ob,q⟩)|q
    .exact .inl (.inl (sm _ _ q))
    .exact .inl (.inr ⟨ob,sm _ _ q⟩)
    .exact .inr q
end
section
variable {ι κ:Type}{P:Tr}{w:Tt}{K:Qa}{mg:Str->Option Tn}{base:Heap}{k:Nat}{X:ι->Cx}{O:κ->Ob}{a:Expr}{fa:DE}{pos p1 p2:Pos}{elts:List Expr}{x1:Nat}
theorem zhl(C:Ctx3 P w K mg base k X)(B:Blt mg)(ha:E3 K X O a fa)(hg:∀i,Gl (X i) "enumerate" := by intro i;rfl)(hs:∀i,Tq [a] (X i).env=(false,eval a (X i).env)::Tq [] (X i).env:=by intro i;rfl):I3 K X O (.Tuple elts x1 pos) (.Call (.Name "enumerate" p1) [a] [] p2) (zyk fa) :=
 let ⟨_,q,d⟩:=ha;⟨znk K _,λi=>by have h:=zwu (elts:=elts) (x1:=x1) (pos:=pos) (p1:=p1) (p2:=p2) (hg i) (by rw[C.hmg];exact B.enumerate) (q i) (hs i);rw[C.hK] at h;exact h,λj=>zvq (d j)⟩
end
def rSum:List V->Hp->VK->Prop:=λxs H Q=>∃(p:Addr) (ns:List Int),xs = [.ref p]/\H p=some (.lst (ns.map V.int))/\Q (.int ns.sum) H
theorem zlt:∀{ns:List Int} {us:List Tn},Vals (ns.map V.int) us->∀(i:Nat) (v:Tn),us[i]? = some v->∃t,v = .int (ns.getD i 0) t
 | [],us,r,i,v,h=>by cases r;simp at h
 | n::ns,us,r,i,v,h=>by
   rw[Qu] at r
   cases r with
   | cons a b=>
     cases i with
     | zero=>cases h;exact a
     | succ i=>exact zlt b i v (by simpa using h)
theorem zti(hc:X.calm=true):CallR X (.builtin "sum") rSum:=by
 intro pins s σ H xs us Q I r h;obtain⟨p,ns,rfl,hH,q⟩:=h;obtain⟨u,rfl,ru⟩:=Vals.one r;cases ru;obtain⟨z,its,n,rv,hl,e⟩:=I.lstM hH;have pl:s.heap.IsList p its.toArray:=⟨_,e,rfl,_,rfl⟩;have lt:=Qt e;have hne:p≠s.heap.objs.size:=Q2 lt;refine call_sum_walkG (TX pl ?_);refine⟨s.heap.objs.size,_,_,_,_,_,λi=>ns.getD i 0,rfl,GK (A:=X.A.in1) (I.ok.hd hc) _ p hne its.toArray,⟨⟨_,Qm _ rfl,rfl,rfl⟩,_,Qe _ e,rfl,_,rfl⟩,λb hb=>?_,λi v hv=>?_,λh' tk t' kk=>?_⟩
 .rw[QU];rcases Qs.mp hb with rfl|hb
  .exact ZL _
  .rw[Qb.mp hb];exact QP lt
 .exact zlt rv i v (by rw[<- YH];exact hv)
 .have I1:Inv X pins σ H { s with heap:=h',toks:=tk }:=I.kept λb o eb=>kk b o (by simp;exact Q2 (Qt eb)) (Qe _ eb);refine⟨.int ns.sum,H,I1,⟨t',?_⟩,q⟩;have lz:its.toArray.size=ns.length:=by rw[Qy,<- hl,Qc]
  rw[lz,preSum_getD,Zh]
def sumD:List Tl->(R->Prop)->Prop:=λds Q=>∃ns:List Int,ds = [.list (ns.map .int)]/\Q (.o (.int ns.sum))
section
variable {K:Qa}{O:Ob}
theorem z4b:zdj K O rSum sumD:=λH vs ds Q Qd ok p is ⟨ns,e,q⟩ k=>by
 subst e;obtain⟨v,rfl,iv⟩:=zbd is
 cases iv with
 | list f1 h1 s1=>
   rw[ziv s1] at h1;exact⟨_,ns,rfl,h1,k _ H (.o _) (.refl _ _) (Is.int _) q⟩
end
theorem z5i:TK (QS "sum")=some (.builtin "sum"):=boot_sum
theorem z7d{ι κ:Type}{P:Tr}{w:Tt}{K:Qa}{mg:Str->Option Tn}{base:Heap}{k:Nat}{X:ι->Cx}{O:κ->Ob}{a:Expr}{ga:DA}{pos p:Pos}(C:Ctx3 P w K mg base k X)(B:Blt mg)(ha:A3 K X O [a] ga)(hg:∀i,Gl (X i) "sum" := by intro i;rfl)(he:∀i,Tq [a] (X i).env=(false,eval a (X i).env)::Tq [] (X i).env:=by intro i;rfl):E3 K X O (.Call (.Name "sum" p) [a] [] pos) (zb4 sumD ga) :=
 zhw C (λi=>zti (C.calm i)) (λ_=>z4b) z5i B.sum ha hg (by decide) (by decide) he
end L3
namespace L37
open PySem PySem.Spec
open PyProof.Rows hiding St
open L2 L3 L6
local macro_rules | `(tactic| infer_instance)=>`(tactic| first|refine⟨_,_,rfl,rfl,?_⟩|refine⟨_,eqI,?_⟩|refine⟨_,neI,?_⟩|refine⟨_,rfl,?_⟩|refine⟨rfl,?_⟩|refine⟨(by show _ ≤ sizeLine;rw[Ts];exact Nat.le_of_ble_eq_true rfl),?_⟩|refine⟨_,_,rfl,?_⟩|refine⟨_,_,_,rfl,?_⟩|refine iteT ?_|refine iteF ?_|refine Or.inl ⟨rfl,?_⟩|refine Or.inr ⟨rfl,?_⟩|refine⟨_,z7a (by decide +kernel),?_⟩|refine⟨_,z6q (by decide +kernel) (by decide +kernel),?_⟩|refine⟨_,z6z (by decide +kernel),?_⟩|refine⟨_,z6g (by decide +kernel),?_⟩)
section
variable {P:Tr}{w:Tt}{K:Qa}{mg:Str->Option Tn}{base:Heap}{k:Nat}
abbrev zkd:Stmt:=top 1
theorem zx5:FnScope ["less", "more", "found", "start", "letter", "place"] ["less", "more"] (zai zkd):=⟨rfl,rfl,rfl,by decide +kernel,rfl,by decide +kernel,by decide +kernel⟩
theorem zin(B:Blt mg)(T:Top3 K mg "places" zkd):Def3 P w K mg base 1 "places" ["less", "more"] (spO K (λ_=>True) 2 zpf):=by
 refine mk_O T zx5 (λ_ _ _ _ _ _ us hl=>len2 hl λ_ _=>rfl) rfl λf cdv A outer s H E O hφ C=>⟨_,(zaf (zat 2 (zbe zac)) (zaf (zat 3 zad) (zaf (zbz C (zb6 (zrs (zab 0))) (za9 (h:=1000) 4) (zaf (zat 5 (zzl C (zab 1) (zaa (zab 4) (zaa (zab 3) zac)))) (zaf (s_if (t_lt (zab 5) zad) (zaj (zav zhj)) za4) (zaf (zer 2 C (zab 5)) (zaj (zat 3 (zas C (zab 5) zad))))))) (zaj (zt1 2))))),λds Qr hn q=>?_⟩;obtain⟨less,more,rfl,hs,hm,q0,q1⟩:=q;have sz:=Ts;have hl:=hs.1;have hl2:=hm.1;refine⟨QE _,rfl,rfl,_,_,rfl,rfl,_,rfl,rfl,?_⟩
 refine zay (λj ρ=>∃(acc:List Nat) (start:Nat) (o4 o5:Option DV),ρ = [some (.im (tS less)),some (.im (tS more)),some (.own (acc.map λp=>.int (p:Nat))),some (.im (.int (start:Nat))),o4,o5]/\plc less more 0 []=plc (less.drop j) more start acc/\acc.length<=j/\start<=more.length/\j<=less.length)
  ⟨[],0,none,none,rfl,rfl,Qh _,QE _,QE _⟩ (λρ ⟨acc,start0,o4,o5,e,h1,h2,h3,h4⟩=>?_) λj d ρ N hd hN ⟨acc,start0,o4,o5,e,h1,h2,h3,h4⟩=>?_
 .subst e;rw[zpv,YL] at h1;exact⟨_,rfl,q1 acc h1⟩
 .subst e;obtain⟨c,hc,rfl⟩:=zp5 hd;obtain⟨hlt,ec⟩:=Qi.mp hc;rw[Zx hlt,ec] at h1;refine⟨rfl,?_⟩;refine⟨_,_,rfl,rfl,_,rfl,_,_,rfl,rfl,_,_,rfl,rfl,_,_,rfl,rfl,?_⟩;rw[z0f h3];rw[show plc (c::less.drop (j+1)) more start0 acc=match zbv c more start0 with|none=>none|some p=>plc (less.drop (j+1)) more (p+1) (acc ++ [p]) from rfl] at h1
  cases hf:zbv c more start0 with
  | none=>
    rw[hf] at h1;rw[show zhe c more start0 = -1 by unfold zhe;rw[hf]];exact⟨_,_,rfl,rfl,_,rfl,_,rfl,q0 h1⟩
  | some p=>
    rw[hf] at h1;rw[show zhe c more start0=(p:Int) by unfold zhe;rw[hf]];obtain⟨_,b,_⟩:=zeq hf;obtain⟨b1,_⟩:=Qi.mp b;refine⟨_,_,rfl,rfl,_,rfl,_,rfl,?_⟩;rw[jA (by lia)];refine iteF ⟨_,rfl,_,_,rfl,rfl,rfl,by rw[Qc];lia,_,_,rfl,rfl,_,rfl,rfl,hN _ ⟨acc ++ [p],p+1,some (.im (.str (sg c))),some (.im (.int (p:Nat))),?_,h1,by simp;lia,b1,hlt⟩⟩;show[_,_,some (DV.own (acc.map (λp=>YN (p:Nat)) ++ [YN (p:Nat)])),some (DV.im (.int ((p:Int)+1))),_,_]=_;rw[Q7];rfl
end
section
variable {P:Tr}{w:Tt}{K:Qa}{mg:Str->Option Tn}{base:Heap}{k:Nat}
abbrev zfr:Stmt:=top 2
theorem zor:FnScope ["less", "more"] ["less", "more"] (zai zfr):=⟨rfl,rfl,rfl,by decide +kernel,rfl,by decide +kernel,by decide +kernel⟩
theorem zej(B:Blt mg)(zin:Def3 P w K mg base 1 "places" ["less", "more"] (spO K (λ_=>True) 2 zpf))(T:Top3 K mg "lies_under" zfr):Def3 P w K mg base 2 "lies_under" ["less", "more"] (spO K (λ_=>True) 2 zfq):=by
 refine mk_O T zor (λ_ _ _ _ _ _ us hl=>len2 hl λ_ _=>rfl) rfl λf cdv A outer s H E O hφ C=>⟨_,(zaj (zav (zzk (zbf C zin (λ_=>trivial) (zaa (zab 0) (zaa (zab 1) zac))) zhj))),λds Qr hn q=>?_⟩;obtain⟨less,more,rfl,hs,hm,q⟩:=q;rw[<- ztc] at q;refine⟨_,_,rfl,rfl,_,_,rfl,rfl,rfl,less,more,rfl,hs,hm,λh=>⟨rfl,?_⟩,λps h=>⟨rfl,?_⟩⟩
 .rw[h] at q;exact q
 .rw[h] at q;exact q
end
section
variable {P:Tr}{w:Tt}{K:Qa}{mg:Str->Option Tn}{base:Heap}{k:Nat}
abbrev zij:Stmt:=top 4
theorem zvg:FnScope ["one", "other"] ["one", "other"] (zai zij):=⟨rfl,rfl,rfl,by decide +kernel,rfl,by decide +kernel,by decide +kernel⟩
theorem zgc(B:Blt mg)(zej:Def3 P w K mg base 2 "lies_under" ["less", "more"] (spO K (λ_=>True) 2 zfq))(T:Top3 K mg "is_above" zij):Def3 P w K mg base 3 "is_above" ["one", "other"] (spO K (λ_=>True) 2 abvF):=by
 refine mk_O T zvg (λ_ _ _ _ _ _ us hl=>len2 hl λ_ _=>rfl) rfl λf cdv A outer s H E O hφ C=>⟨_,(zaf (s_if (t_w (w_or (t_ne C (za2 C (zab 0) za8 (zba zad)) (za2 C (zab 1) za8 (zba zad))) (zsb (t_ne C (zdq C B (zaa (zah C (zab 0) zad) zac)) (zdq C B (zaa (zah C (zab 1) zad) zac)))))) (zaj (zav e_bl)) za4) (zaj (zav (zym C B (zaa (zcx 2 ["less", "more", "one", "other"] C (λ_=>.of rfl (by kernel_rfl)) (zyq C B (zaa (zah C (zab 1) zad) (zaa (zah C (zab 0) zad) zac))) (zgl (C.comp _ _) (zaq 0 (zaq 1 zcp))) zd3 (zbf (C.comp _ _) zej (λ_=>trivial) (zaa (zab 0) (zaa (zab 1) zac)))) zac))))),λds Qr hn q=>?_⟩;obtain⟨a,b,rfl,ha,hb,hl,q⟩:=q;have sz:=Ts;have l1:=ha.words
 (repeat first|refine⟨_,zc7 a,?_⟩|refine⟨zc7 a,?_⟩|refine⟨_,zc7 b,?_⟩|refine⟨zc7 b,?_⟩|refine⟨_,zi7 a b,?_⟩|refine⟨zi7 a b,?_⟩|infer_instance)
 rw[j7 rfl];unfold abvB at q;rw[<- GV] at q;refine iteB (λa1=>?_) λa1=>?_
 .rw[z7g a1,Ui] at q;exact iteT q
 rw[z6d a1,Tc] at q
 ac_rfl
 rw[Qc,Qc,zc6,j9 hl];refine iteF ⟨_,_,rfl,rfl,_,rfl,_,_,rfl,rfl,_,rfl,_,_,rfl,zan (λ_=>rfl) _,zan (λ_=>rfl) _,?_⟩;rw[zic];refine zmd (α:=List Nat×List Nat) (enc:=λp=>.tuple [wD p.1,wD p.2]) (e:=λp=>.bool (L6.under p.1 p.2)) (λp hp P hP=>?_) zo0 (by rw[GH];lia) ?_
 .refine⟨_,rfl,iteT (B:=False) ?_⟩;obtain⟨m1,m2⟩:=JW hp;exact⟨_,_,rfl,rfl,_,_,rfl,rfl,rfl,p.1,p.2,rfl,hb.sml _ m1,ha.sml _ m2,hP _ rfl⟩
 refine⟨_,zul _ _,?_⟩;rw[zvm];exact q
end
section
variable {P:Tr}{w:Tt}{K:Qa}{mg:Str->Option Tn}{base:Heap}{k:Nat}
abbrev zmi:Stmt:=top 6
theorem zza:FnScope ["parts", "place", "part"] ["parts", "place", "part"] (zai zmi):=⟨rfl,rfl,rfl,by decide +kernel,rfl,by decide +kernel,by decide +kernel⟩
theorem zcd(B:Blt mg)(T:Top3 K mg "put_at" zmi):Def3 P w K mg base 1 "put_at" ["parts", "place", "part"] (spO K (λ_=>True) 3 zl0):=by
 refine mk_O T zza (λ_ _ _ _ _ _ us hl=>len3 hl λ_ _ _=>rfl) rfl λf cdv A outer s H E O hφ C=>⟨_,(zaj (zav (zas C (zas C (za2 C (zab 0) za8 (zba (zab 1))) (za1 (zaa (zab 2) zac))) (za2 C (zab 0) (zba (zas C (zab 1) zad)) za8)))),λds Qr hn q=>?_⟩;obtain⟨xs,i,d,rfl,hi,hl,q⟩:=q;have sz:=Ts;refine⟨_,_,rfl,rfl,_,_,rfl,rfl,_,rfl,_,sl_tup _ _ _,_,_,rfl,rfl,(by show 1<=sizeLine;lia),_,zcu ?_,_,_,rfl,rfl,_,_,rfl,rfl,_,rfl,_,rfl,_,sl_tup _ _ _,_,zcu ?_,?_⟩
 .rw[zfe,QX,QA];lia
 .rw[show((i:Int)+1)=((i+1:Nat):Int) from rfl,zfe,zf9,Qq,QX,Z8,QA];lia
 .rw[zjy hi];exact q
end
section
variable {P:Tr}{w:Tt}{K:Qa}{mg:Str->Option Tn}{base:Heap}{k:Nat}
abbrev ze2:Stmt:=top 8
theorem zno:FnScope ["flags", "deed"] ["flags", "deed"] (zai ze2):=⟨rfl,rfl,rfl,by decide +kernel,rfl,by decide +kernel,by decide +kernel⟩
theorem zdy(B:Blt mg)(zcd:Def3 P w K mg base 1 "put_at" ["parts", "place", "part"] (spO K (λ_=>True) 3 zl0))(T:Top3 K mg "flags_ahead" ze2):Def3 P w K mg base 2 "flags_ahead" ["flags", "deed"] (spO K (λ_=>True) 2 zmh):=by
 refine mk_O T zno (λ_ _ _ _ _ _ us hl=>len2 hl λ_ _=>rfl) rfl λf cdv A outer s H E O hφ C=>⟨_,(zaf (s_if (zqc C (zah C (zab 1) zad) (za1 (zaa zaz (zaa zaz zac)))) (zaj (zav (zbe (zaa (zab 0) zac)))) za4) (zaf (s_if (t_ne C (zah C (zab 0) (zah C (zab 1) zad)) (zah C (zab 1) zad)) (zaj (zav (zbe zac))) za4) (zaf (s_if (t_eq C (zah C (zab 1) zad) zaz) (zaj (zav (zbe (zaa (zab 0) zac)))) za4) (zaj (zav (zbe (zaa (zbf C zcd (λ_=>trivial) (zaa (zab 0) (zaa (zah C (zab 1) zad) (zaa zad zac)))) (zaa (zbf C zcd (λ_=>trivial) (zaa (zab 0) (zaa (zah C (zab 1) zad) (zaa zad zac)))) zac)))))))),λds Qr hn q=>?_⟩;obtain⟨ls,l,fs,d,rfl,hd,hl,q⟩:=q;have sz:=Ts
 cases d with
 | go=>
   ac_rfl
   exact q
 | send i c=>
   ac_rfl
   exact q
 | take i c=>
   ac_rfl
   exact q
 | empty i=>
   ac_rfl
   exact q
 | put i v=>
   (repeat first|refine⟨_,zar (f:=nD) (zao (z:=0) hd.1),?_⟩|refine⟨zar (f:=nD) (zao (z:=0) hd.1),?_⟩|infer_instance)
   by_cases e:fs.getD i 0=v
   .have q:Qr (.n ((if fs.getD i 0=v then[fs.set i 0,fs.set i 1] else[]).map λf=>.tuple (f.map nD))):=q;rw[j7 e] at q;rw[zc6,j9 e]
    ac_rfl
    refine⟨by rw[Qc];exact hd.1,by rw[Qc];lia,?_⟩
    ac_rfl
    refine⟨by rw[Qc];exact hd.1,by rw[Qc];lia,?_⟩
    ac_rfl
    have e0:∀v:Nat,(fs.map nD).set i (.int (v:Nat))=(fs.set i v).map nD:=λv=>JF.symm;have q:Qr (.n [.tuple ((fs.set i 0).map nD),.tuple ((fs.set i 1).map nD)]):=q;rw[<- e0,<- e0] at q;exact q
   .have q:Qr (.n ((if fs.getD i 0=v then[fs.set i 0,fs.set i 1] else[]).map λf=>.tuple (f.map nD))):=q;rw[j8 e] at q;rw[zc6,jA e]
    ac_rfl
    exact q
 | test i v=>
   (repeat first|refine⟨_,zar (f:=nD) (zao (z:=0) hd.1),?_⟩|refine⟨zar (f:=nD) (zao (z:=0) hd.1),?_⟩|infer_instance)
   by_cases e:fs.getD i 0=v
   .have q:Qr (.n ((if fs.getD i 0=v then[fs] else[]).map λf=>.tuple (f.map nD))):=q;rw[j7 e] at q;rw[zc6,j9 e]
    ac_rfl
    exact q
   .have q:Qr (.n ((if fs.getD i 0=v then[fs] else[]).map λf=>.tuple (f.map nD))):=q;rw[j8 e] at q;rw[zc6,jA e]
    ac_rfl
    exact q
end
section
variable {P:Tr}{w:Tt}{K:Qa}{mg:Str->Option Tn}{base:Heap}{k:Nat}
abbrev zfa:Stmt:=top 9
theorem zob:FnScope ["words", "deed", "word"] ["words", "deed"] (zai zfa):=⟨rfl,rfl,rfl,by decide +kernel,rfl,by decide +kernel,by decide +kernel⟩
theorem zdz(B:Blt mg)(zcd:Def3 P w K mg base 1 "put_at" ["parts", "place", "part"] (spO K (λ_=>True) 3 zl0))(T:Top3 K mg "words_ahead" zfa):Def3 P w K mg base 2 "words_ahead" ["words", "deed"] (spO K (λ_=>True) 2 zmt):=by
 refine mk_O T zob (λ_ _ _ _ _ _ us hl=>len2 hl λ_ _=>rfl) rfl λf cdv A outer s H E O hφ C=>⟨_,(zaf (s_if (zqc C (zah C (zab 1) zad) (za1 (zaa zaz (zaa zaz (zaa zaz zac))))) (zaj (zav (zbe (zaa (zab 0) zac)))) za4) (zaf (zat 2 (zah C (zab 0) (zah C (zab 1) zad))) (zaf (s_if (t_eq C (zah C (zab 1) zad) zaz) (zaj (zav (zbe (zaa (zbf C zcd (λ_=>trivial) (zaa (zab 0) (zaa (zah C (zab 1) zad) (zaa (zas C (zah C (zab 1) zad) (zab 2)) zac)))) zac)))) za4) (zaf (s_if (t_w (zgk (t_eq C (zah C (zab 1) zad) zaz) (zei (zjg (z2o C (zab 2) (zaa (zah C (zab 1) zad) zac)))))) (zaj (zav (zbe (zaa (zbf C zcd (λ_=>trivial) (zaa (zab 0) (zaa (zah C (zab 1) zad) (zaa (za2 C (zab 2) za8 (zba zl4)) zac)))) zac)))) za4) (zaj (zav (e_if (t_w (w_or (t_eq C (zah C (zab 1) zad) zaz) (zsb (t_eq C (zab 2) zaz)))) (zbe (zaa (zab 0) zac)) (zbe zac)))))))),λds Qr hn q=>?_⟩;obtain⟨ls,f,ws,d,rfl,hd,lo,hl,hw,q⟩:=q;have sz:=Ts;have se:∀(i:Nat) (v:List Nat),(ws.map wD).set i (wD v)=(ws.set i v).map wD:=λi v=>JF.symm
 cases d with
 | go=>
   ac_rfl
   exact q
 | send i c=>
   obtain⟨hi,hc⟩:=hd;have mw:=hw _ (zb5 (z:=[]) hi);have q:Qr (.n ((if(ws.getD i []).getLast? = some c then[ws.set i (ws.getD i []).dropLast] else[ws]).map λw=>.tuple (w.map wD))):=q
   (repeat first|refine⟨_,zar (f:=wD) (zao (z:=[]) hi),?_⟩|refine⟨zar (f:=wD) (zao (z:=[]) hi),?_⟩|infer_instance)
   rw[zz2]
   by_cases e:(ws.getD i []).getLast? = some c
   .rw[j9 e];rw[j7 e] at q;have sl:slcF none (some (-1)) (wD (ws.getD i []))=some (.o (wD (ws.getD i []).dropLast)):=zka (by lia)
    (repeat first|refine⟨_,sl,?_⟩|refine⟨sl,?_⟩|infer_instance)
    refine⟨by rw[Qc];exact hi,by rw[Qc];lia,?_⟩
    ac_rfl
    have q:Qr (.n [.tuple ((ws.set i (ws.getD i []).dropLast).map wD)]):=q;rw[<- se] at q;exact q
   .rw[jA e];rw[j8 e] at q
    ac_rfl
    exact q
 | take i c=>
   obtain⟨hi,hc⟩:=hd;have mw:=hw _ (zb5 (z:=[]) hi);have ad:addF (.str (tx [c])) (wD (ws.getD i []))=some (.o (wD (c::ws.getD i []))):=znf (v:=[c]) (by rw[QA];lia)
   (repeat first|refine⟨_,zar (f:=wD) (zao (z:=[]) hi),?_⟩|refine⟨zar (f:=wD) (zao (z:=[]) hi),?_⟩|refine⟨_,ad,?_⟩|refine⟨ad,?_⟩|infer_instance)
   refine⟨by rw[Qc];exact hi,by rw[Qc];lia,?_⟩
   ac_rfl
   have q:Qr (.n [.tuple ((ws.set i (c::ws.getD i [])).map wD)]):=q;rw[<- se] at q;exact q
 | empty i=>
   have mw:=hw _ (zb5 (z:=[]) hd);have q:Qr (.n ((if ws.getD i [] = [] then[ws] else[]).map λw=>.tuple (w.map wD))):=q
   (repeat first|refine⟨_,zar (f:=wD) (zao (z:=[]) hd),?_⟩|refine⟨zar (f:=wD) (zao (z:=[]) hd),?_⟩|infer_instance)
   (repeat first|refine⟨_,zt7 mw.2,?_⟩|refine⟨zt7 mw.2,?_⟩|infer_instance)
   by_cases e:ws.getD i [] = []
   .rw[j9 e];rw[j7 e] at q
    ac_rfl
    exact q
   .rw[jA e];rw[j8 e] at q
    ac_rfl
    exact q
 | put i v=>
   ac_rfl
   exact q
 | test i v=>
   ac_rfl
   exact q
end
section
variable {P:Tr}{w:Tt}{K:Qa}{mg:Str->Option Tn}{base:Heap}{k:Nat}
abbrev zih:Stmt:=top 10
theorem zvl:FnScope ["standing", "hand", "rule", "rooms", "standings", "flags", "words"] ["standing", "hand", "rule"] (zai zih):=⟨rfl,rfl,rfl,by decide +kernel,rfl,by decide +kernel,by decide +kernel⟩
theorem zgd(B:Blt mg)(zcd:Def3 P w K mg base 1 "put_at" ["parts", "place", "part"] (spO K (λ_=>True) 3 zl0))(zdy:Def3 P w K mg base 2 "flags_ahead" ["flags", "deed"] (spO K (λ_=>True) 2 zmh))(zdz:Def3 P w K mg base 2 "words_ahead" ["words", "deed"] (spO K (λ_=>True) 2 zmt))(T:Top3 K mg "ahead_by" zih):Def3 P w K mg base 3 "ahead_by" ["standing", "hand", "rule"] (spO K (λ_=>True) 3 zn2):=by
 refine mk_O T zvl (λ_ _ _ _ _ _ us hl=>len3 hl λ_ _ _=>rfl) rfl λf cdv A outer s H E O hφ C=>⟨_,(zaf (s_if (t_ne C (zah C (zah C (zab 0) zad) (zab 1)) (zah C (zab 2) zad)) (zaj (zav (zbe zac))) za4) (zaf (zat 3 (zbf C zcd (λ_=>trivial) (zaa (zah C (zab 0) zad) (zaa (zab 1) (zaa (zah C (zab 2) zad) zac))))) (zaf (zat 4 (zbe zac)) (zaf (zbz C (zb6 (zdt C (zbf C zdy (λ_=>trivial) (zaa (zah C (zab 0) zad) (zaa (zah C (zab 2) zad) zac))))) (za9 (h:=1000) 5) (zaj (zbz C (zb6 (zdt C (zbf C zdz (λ_=>trivial) (zaa (zah C (zab 0) zad) (zaa (zah C (zab 2) zad) zac))))) (za9 (h:=1000) 6) (zaj (zer 4 C (za1 (zaa (zab 3) (zaa (zab 5) (zaa (zab 6) zac))))))))) (zaj (zt1 4)))))),λds Qr hn q=>?_⟩;obtain⟨h,s,i,r,rfl,ho,hs,hi,hd,q⟩:=q;have sz:=Ts;have lr:i<s.rooms.length:=by rw[hs.rooms];exact hi
 have l1:=ho.many;have l2:=ho.lines;have l3:=ho.flags;have ro:=hs.rooms;have fl:=hs.flags;have wo:=hs.words
 (repeat first|refine⟨_,zar (f:=nD) (zao (z:=0) lr),?_⟩|refine⟨zar (f:=nD) (zao (z:=0) lr),?_⟩|infer_instance)
 rw[zc6];unfold za6 at q
 by_cases e:s.rooms.getD i 0=r.q
 .rw[j7 e] at q;rw[j9 e]
  ac_rfl
  refine⟨by rw[Qc];exact lr,by rw[Qc];lia,?_⟩;refine⟨zuf _ _ _,?_⟩
  ac_rfl
  refine⟨h.ls,h.lines,s.flags,r.d,rfl,by rw[fl];exact hd,by lia,_,rfl,rfl,?_⟩;have e0:(s.rooms.map nD).set i (nD r.p)=(s.rooms.set i r.p).map nD:=JF.symm;have fB:∀f∈zb3 s.flags r.d,f.length=s.flags.length:=zir;have wB:∀f∈zb2 s.words r.d,f.length=s.words.length:=zi2;have lF:(zb3 s.flags r.d).length<=2:=zjb;have lW:(zb2 s.words r.d).length<=1:=zi4;generalize zb3 s.flags r.d=fs at q fB lF;generalize hws:zb2 s.words r.d=ws at q wB lW;refine zay (λa ρ=>∃o5 o6:Option DV,ρ = [some (.im (zag s)),some (.im (.int (i:Nat))),some (.im (zbi r)),some (.im (.tuple ((s.rooms.map nD).set i (nD r.p)))),some (.own (((fs.take a).flatMap λf=>ws.map λv=>Sta.mk (s.rooms.set i r.p) f v).map zag)),o5,o6]) ⟨none,none,rfl⟩ (λρ hρ=>?_) λa d ρ N hd' nx hρ=>?_
  .obtain⟨o5,o6,rfl⟩:=hρ;rw[Qc,Zh]
   ac_rfl
   exact q
  .obtain⟨o5,o6,rfl⟩:=hρ;rw[Qj] at hd';obtain⟨f,hf,rfl⟩:=Qw.mp hd'
   have ef:(fs.take (a+1)).flatMap (λf=>ws.map λv=>Sta.mk (s.rooms.set i r.p) f v)=(fs.take a).flatMap (λf=>ws.map λv=>Sta.mk (s.rooms.set i r.p) f v)++ws.map λv=>Sta.mk (s.rooms.set i r.p) f v:=by
    rw[Zz,hf,List.flatMap_append];simp
   have la:((fs.take a).flatMap λf=>ws.map λv=>Sta.mk (s.rooms.set i r.p) f v).length<=2:=by
    have h0:∀l:List (List Nat),(l.flatMap λf=>ws.map λv=>Sta.mk (s.rooms.set i r.p) f v).length<=l.length * 1:=by
     intro l
     induction l with
     | nil=>exact Qh _
     | cons x l ih=>rw[V8,Qq,Qc,Q3];lia
    have:=h0 (fs.take a);rw[QX] at this;lia
   generalize (fs.take a).flatMap (λf=>ws.map λv=>Sta.mk (s.rooms.set i r.p) f v)=ac at ef la;refine⟨zan (λ_=>rfl) _,?_⟩
   ac_rfl
   refine⟨h.ls,h.flags,s.words,r.d,rfl,by rw[wo];exact hd,zdh ho.low,by lia,λw m=>⟨by have:=(hs.sml w m).1;lia,(hs.sml w m).2⟩,_,rfl,rfl,?_⟩;rw[hws];refine zay (λb ρ=>∃o6:Option DV,ρ = [some (.im (zag s)),some (.im (.int (i:Nat))),some (.im (zbi r)),some (.im (.tuple ((s.rooms.map nD).set i (nD r.p)))),some (.own ((ac++(ws.take b).map λv=>Sta.mk (s.rooms.set i r.p) f v).map zag)),some (.im (.tuple (f.map nD))),o6]) ⟨_,by rw[List.take_zero,Vi,ZK];rfl⟩ (λρ hρ=>?_) λb d ρ N2 hd2 nx2 hρ=>?_
   .obtain⟨o6,rfl⟩:=hρ;rw[Qc,Zh];exact nx _ ⟨_,_,by rw[ef]⟩
   .obtain⟨o6,rfl⟩:=hρ;rw[Qj] at hd2;obtain⟨v,hv,rfl⟩:=Qw.mp hd2;have hb:=(Qi.mp hv).1;refine⟨zan (λ_=>rfl) _,?_⟩
    ac_rfl
    refine⟨?_,?_,nx2 _ ⟨some (.im (.tuple (v.map wD))),?_⟩⟩
    .have:=zcr ⟨s.rooms.set i r.p,f,v⟩;unfold zag at this;rw[<- e0] at this;exact this
    .rw[Qc,Qq,Qc,QX];lia
    .have ev:(ws.take (b+1)).map (λv=>Sta.mk (s.rooms.set i r.p) f v)=(ws.take b).map (λv=>Sta.mk (s.rooms.set i r.p) f v) ++ [Sta.mk (s.rooms.set i r.p) f v]:=by
      rw[Zz,hv,Q7];rfl
     rw[ev,<- Ye,Q7 (l₁:=ac++_),List.map_singleton];unfold zag;rw[<- e0];rfl
 .rw[j8 e] at q;rw[jA e]
  ac_rfl
  exact q
end
section
variable {P:Tr}{w:Tt}{K:Qa}{mg:Str->Option Tn}{base:Heap}{k:Nat}
abbrev zf5:Stmt:=top 11
theorem zov:FnScope ["house", "standing", "ways", "hand", "rooms_and_rules", "number", "rule", "ahead"] ["house", "standing"] (zai zf5):=⟨rfl,rfl,rfl,by decide +kernel,rfl,by decide +kernel,by decide +kernel⟩
theorem zed(B:Blt mg)(zgd:Def3 P w K mg base 3 "ahead_by" ["standing", "hand", "rule"] (spO K (λ_=>True) 3 zn2))(T:Top3 K mg "ways_ahead" zf5):Def3 P w K mg base 4 "ways_ahead" ["house", "standing"] (spDd w K (λ_=>True) 2 zqb):=by
 refine z7h T zov (λ_ _ _ _ _ _ us hl=>len2 hl λ_ _=>rfl) rfl λf cdv A outer s H E O hφ C=>⟨_,(zqn (zzf 2 C) (zqn (zbz C (zb6 (zhl C B (zah C (zab 0) zad))) (zgl (h:=1000) C (zaq 3 (zaq 4 zcp))) (zaj (zbz C (zb6 (zhl C B (zah C (zab 4) zad))) (zgl (h:=1000) C (zaq 5 (zaq 6 zcp))) (zaj (zbz C (zb6 (zdt C (zbf C zgd (λ_=>trivial) (zaa (zab 1) (zaa (zab 3) (zaa (zab 6) zac)))))) (za9 (h:=1000) 7) (zaj (zze 2 C (zab 7) (za1 (zaa (zab 3) (zaa (zab 5) zac)))))))))) (z3n 2))),λds Qr hn q=>?_⟩;obtain⟨h,s,rfl,ho,hs,q⟩:=q;have sz:=Ts;have lo:=zdh ho.ok.low
 ac_rfl
 refine⟨zan (λx=>zct x) _,rfl,?_⟩;rw[zf2];refine zay (λa ρ=>∃o3 o4 o5 o6 o7:Option DV,((h.hands.zipIdx.take a).foldl (addH s) []).length<=a * 10/\ρ = [some (.im (zbc h)),some (.im (zag s)),some (.gen (ddO w (((h.hands.zipIdx.take a).foldl (addH s) []).map wayK)) (((h.hands.zipIdx.take a).foldl (addH s) []).map wayK++((h.hands.zipIdx.take a).foldl (addH s) []).map wayV)),o3,o4,o5,o6,o7]) ⟨none,none,none,none,none,QE _,rfl⟩ (λρ hρ=>?_) λa d ρ N hd nx hρ=>?_
 .obtain⟨o3,o4,o5,o6,o7,_,rfl⟩:=hρ;rw[Qc,Zh];exact⟨_,_,by rw[Qc,Qc],rfl,q⟩
 .obtain⟨o3,o4,o5,o6,o7,l0,rfl⟩:=hρ;rw[Qj] at hd;obtain⟨⟨x,i⟩,hx,rfl⟩:=Qw.mp hd;have hx':=QB.mp (Qn hx)
  have la:a<2:=by
   have:=(Qi.mp hx).1;rw[ZH] at this;have:=ho.h2;lia
  have es:(h.hands.zipIdx.take (a+1)).foldl (addH s) []=addH s ((h.hands.zipIdx.take a).foldl (addH s) []) (x,i):=by
   rw[Zz,hx,JI];rfl
  generalize (h.hands.zipIdx.take a).foldl (addH s) []=ac at es l0;have mx:=Qn hx';have r5:=ho.r5 x mx;refine⟨by simp[flat,flats];exact zct x,?_⟩
  ac_rfl
  refine⟨zan (λx=>zc5 x) _,rfl,?_⟩;rw[zf2];refine zay (λb ρ=>∃o5 o6 o7:Option DV,((x.rs.zipIdx.take b).foldl (addR s i) ac).length<=ac.length+b * 2/\ρ = [some (.im (zbc h)),some (.im (zag s)),some (.gen (ddO w (((x.rs.zipIdx.take b).foldl (addR s i) ac).map wayK)) (((x.rs.zipIdx.take b).foldl (addR s i) ac).map wayK++((x.rs.zipIdx.take b).foldl (addR s i) ac).map wayV)),some (.im (.int (i:Nat))),some (.im (zbl x)),o5,o6,o7]) ⟨_,_,_,Qh _,rfl⟩ (λρ hρ=>?_) λb d ρ N2 hd2 nx2 hρ=>?_
  .obtain⟨o5,o6,o7,l1,rfl⟩:=hρ;rw[Qc,Zh,ZH] at l1;rw[Qc,Zh];refine nx _ ⟨_,_,_,_,_,?_,by rw[es];rfl⟩;rw[es];show(x.rs.zipIdx.foldl (addR s i) ac).length<=_;have l1:(x.rs.zipIdx.foldl (addR s i) ac).length<=ac.length+x.rs.length * 2:=l1;lia
  .obtain⟨o5,o6,o7,l1,rfl⟩:=hρ;rw[Qj] at hd2;obtain⟨⟨r,k⟩,hr,rfl⟩:=Qw.mp hd2;have hr':=QB.mp (Qn hr)
   have es2:(x.rs.zipIdx.take (b+1)).foldl (addR s i) ac=addR s i ((x.rs.zipIdx.take b).foldl (addR s i) ac) (r,k):=by
    rw[Zz,hr,JI];rfl
   have lb:b<5:=by
    have:=(Qi.mp hr).1;rw[ZH] at this;have this:b<x.rs.length:=this;lia
   generalize (x.rs.zipIdx.take b).foldl (addR s i) ac=bc at es2 l1;obtain⟨hi,de⟩:=zch ho.ok hx' hr';refine⟨by simp[flat,flats];exact zc5 r,?_⟩
   ac_rfl
   refine⟨h,s,i,r,rfl,ho.ok,hs,hi,de,_,rfl,rfl,?_⟩;have bf:=zmr (s:=s) (i:=i) (r:=r)
   have bs:∀y∈za6 s i r,∀w∈y.words,Sml w:=λy hy w hw=>by
    obtain⟨_,_,_,b4⟩:=zkn (n:=90) lo hs (λw m=>(hs.sml w m).1) de hy;exact⟨by have:=(b4 w hw).1;lia,(b4 w hw).2⟩
   refine zay (λc ρ=>∃o7:Option DV,(((za6 s i r).take c).foldl (addX i k) bc).length<=bc.length+c/\ρ = [some (.im (zbc h)),some (.im (zag s)),some (.gen (ddO w ((((za6 s i r).take c).foldl (addX i k) bc).map wayK)) ((((za6 s i r).take c).foldl (addX i k) bc).map wayK++(((za6 s i r).take c).foldl (addX i k) bc).map wayV)),some (.im (.int (i:Nat))),some (.im (zbl x)),some (.im (.int (k:Nat))),some (.im (zbi r)),o7]) ⟨_,Qh _,rfl⟩ (λρ hρ=>?_) λc d ρ N3 hd3 nx3 hρ=>?_
   .obtain⟨o7,l2,rfl⟩:=hρ;rw[Qc,Zh] at l2;rw[Qc,Zh];refine nx2 _ ⟨_,_,_,?_,by rw[es2];rfl⟩;rw[es2];show((za6 s i r).foldl (addX i k) bc).length<=_;lia
   .obtain⟨o7,l2,rfl⟩:=hρ;rw[Qj] at hd3;obtain⟨y,hy,rfl⟩:=Qw.mp hd3;have hc:=(Qi.mp hy).1
    have es3:((za6 s i r).take (c+1)).foldl (addX i k) bc=addX i k (((za6 s i r).take c).foldl (addX i k) bc) y:=by
     rw[Zz,hy,JI];rfl
    generalize ((za6 s i r).take c).foldl (addX i k) bc=cc at es3 l2;refine⟨zcr y,?_⟩
    ac_rfl
    refine⟨cc.map wayK,cc.map wayV,by rw[Qc,Qc],rfl,?_⟩
    ac_rfl
    refine⟨zho (bs y (Qn hy)),by rw[Qc];lia,λm=>?_,λm=>?_⟩
    .have e:addX i k cc y=cc:=j7 m;exact nx3 _ ⟨_,by rw[es3,e];lia,by rw[es3,e];rfl⟩
    .have e:addX i k cc y=cc ++ [(y,i,k)]:=j8 m;refine nx3 _ ⟨some (.im (zag y)),by rw[es3,e,Qq,QA];lia,?_⟩;rw[es3,e,Q7,Q7];rfl
end
section
variable {P:Tr}{w:Tt}{K:Qa}{mg:Str->Option Tn}{base:Heap}{k:Nat}
abbrev ze1:Stmt:=top 12
theorem znv:FnScope ["standing", "others", "other"] ["standing", "others"] (zai ze1):=⟨rfl,rfl,rfl,by decide +kernel,rfl,by decide +kernel,by decide +kernel⟩
theorem zdp(B:Blt mg)(zgc:Def3 P w K mg base 3 "is_above" ["one", "other"] (spO K (λ_=>True) 2 abvF))(T:Top3 K mg "is_above_one" ze1):Def3 P w K mg base 4 "is_above_one" ["standing", "others"] (spO K (λ_=>True) 2 zsu):=by
 refine mk_O T znv (λ_ _ _ _ _ _ us hl=>len2 hl λ_ _=>rfl) rfl λf cdv A outer s H E O hφ C=>⟨_,(zaf (zbz C (zyb C 1) (za9 (h:=1000) 2) (zaj (s_if (zjg (zbf C zgc (λ_=>trivial) (zaa (zab 0) (zaa (zab 2) zac)))) (zaj (zav e_bl)) za4))) (zaj (zav e_bl))),λds Qr hn q=>?_⟩;obtain⟨a,xs,rfl,ha,hx,q⟩:=q;have sz:=Ts
 ac_rfl
 refine zay (λi ρ=>∃o2:Option DV,(xs.take i).any (λy=>abvB a y)=false/\ρ = [some (.im (zag a)),some (.im (.list (xs.map zag))),o2]) ⟨none,rfl,rfl⟩ (λρ hρ=>?_) λi d ρ N hd nx hρ=>?_
 .obtain⟨o2,e,rfl⟩:=hρ;rw[Qc,Zh] at e;rw[e] at q
  ac_rfl
  exact q
 .obtain⟨o2,e,rfl⟩:=hρ;rw[Qj] at hd;obtain⟨y,hy,rfl⟩:=Qw.mp hd;have my:=Qn hy;refine⟨zcr y,?_⟩
  ac_rfl
  refine⟨ha,(hx y my).1,(hx y my).2.symm,_,rfl,?_⟩
  cases h:abvB a y with
  | true=>
    ac_rfl
    rw[YS.mpr ⟨y,my,h⟩] at q;exact q
  | false=>
    ac_rfl
    exact nx _ ⟨_,by rw[Zz,hy,List.any_append,e];simp[h],rfl⟩
end
section
variable {P:Tr}{w:Tt}{K:Qa}{mg:Str->Option Tn}{base:Heap}{k:Nat}
abbrev zdd:Stmt:=top 13
theorem zio:FnScope ["standing"] ["standing"] (zai zdd):=⟨rfl,rfl,rfl,by decide +kernel,rfl,by decide +kernel,by decide +kernel⟩
theorem zcn(B:Blt mg)(T:Top3 K mg "letters_on_lines" zdd):Def3 P w K mg base 1 "letters_on_lines" ["standing"] (spO K (λ_=>True) 1 zlq):=by
 refine mk_O T zio (λ_ _ _ _ _ _ us hl=>len1 hl λ_=>rfl) rfl λf cdv A outer s H E O hφ C=>⟨_,(zaj (zav (z7d C B (zaa (zcx 1 ["word", "standing"] C (λ_=>.of rfl (by kernel_rfl)) (zrq C (zah C (zab 0) zad)) (za9 0) zd3 (zdq (C.comp _ _) B (zaa (zab 0) zac))) zac)))),λds Qr hn q=>?_⟩;obtain⟨s,rfl,hs,q⟩:=q;have sz:=Ts;have hw:=hs.words
 ac_rfl
 refine zo6 (α:=List Nat) (enc:=wD) (e:=λw=>.int (w.length:Nat)) (λw m P hP=>?_) (by lia) ?_
 .have:=(hs.sml w m).1
  (repeat first|refine⟨_,zgx (w:=w) (by lia),?_⟩|refine⟨zgx (w:=w) (by lia),?_⟩|infer_instance)
  exact hP _ rfl
 .ac_rfl
  refine⟨s.words.map λw=>((w.length:Nat):Int),by rw[Zt];rfl,?_⟩
  have es:∀ws:List (List Nat),(ws.map λw=>((w.length:Nat):Int)).sum=(((ws.map JB).sum:Nat):Int):=by
   intro ws
   induction ws with
   | nil=>rfl
   | cons w ws ih=>rw[Qu,Qu,J0,J0,ih];lia
  rw[es];exact q
end
section
variable {P:Tr}{w:Tt}{K:Qa}{mg:Str->Option Tn}{base:Heap}{k:Nat}
abbrev zfo:Stmt:=top 14
theorem zoy:FnScope ["standings", "kept", "standing"] ["standings"] (zai zfo):=⟨rfl,rfl,rfl,by decide +kernel,rfl,by decide +kernel,by decide +kernel⟩
theorem zen(B:Blt mg)(zdp:Def3 P w K mg base 4 "is_above_one" ["standing", "others"] (spO K (λ_=>True) 2 zsu))(zcn:Def3 P w K mg base 1 "letters_on_lines" ["standing"] (spO K (λ_=>True) 1 zlq))(T:Top3 K mg "least_ones" zfo):Def3 P w K mg base 5 "least_ones" ["standings"] (spO K (λ_=>True) 1 zpi):=by
 refine mk_O T zoy (λ_ _ _ _ _ _ us hl=>len1 hl λ_=>rfl) rfl λf cdv A outer s H E O hφ C=>⟨_,(zaf (zat 1 (zbe zac)) (zaf (zbz C (zb6 (zdt C (zwx C B zcn (λ_=>trivial) (zab 0)))) (za9 (h:=1000) 2) (zaj (s_if (z6s (zjg (zbf C zdp (λ_=>trivial) (zaa (zab 2) (zaa (zab 1) zac))))) (zaj (zer 1 C (zab 2))) za4))) (zaj (zav (zr3 C B (zaa (zab 1) zac)))))),λds Qr hn q=>?_⟩;obtain⟨xs,n,rfl,n0,hx,hl,q⟩:=q;have sz:=Ts
 ac_rfl
 refine⟨xs.map zag,kfS,rfl,by rw[Qc];lia,λd hd=>?_,λzs zp zw=>?_⟩
 .obtain⟨s,hs,rfl⟩:=Q0.mp hd;refine⟨s,rfl,(hx s hs).1,?_⟩;show _=YN (kfS (zag s));rw[zkt];rfl
 .obtain⟨ys,yp,rfl⟩:=HK.perm_map_inv zp;have yl:=yp.length_eq;have hy:∀x∈ys,StW x/\x.words.length=n:=λx m=>hx x (yp.mem_iff.mp m)
  have yw:ys.Pairwise λa b=>zce a<=zce b:=(Zl.mp zw).imp λ{a b} h=>by
   rw[zkt,zkt] at h;exact Int.ofNat_le.mp h
  refine⟨_,rfl,rfl,?_⟩;refine zay (λi ρ=>∃o2:Option DV,ρ = [some (.im (.list (xs.map zag))),some (.own ((zbu (ys.take i)).map zag)),o2]) ⟨none,rfl⟩ (λρ hρ=>?_) λi d ρ N hd nx hρ=>?_
  .obtain⟨o2,rfl⟩:=hρ;rw[Qc,Zh];obtain⟨nd,lt,_⟩:=zz8 ys (λx m=>(hy x m).2) yw;have kl:=zgy ys [];rw[Jj] at kl
   ac_rfl
   refine⟨(zbu ys).map zag,shSt,zag ⟨[],[],[]⟩,rfl,λd hd=>?_,zb9 _,λd hd=>?_,by rw[Qc];unfold zbu;lia,List.Pairwise.map zag (λa b (h:a≠b) e=>h (zco e)) nd,λzs zp zw=>?_⟩
   .obtain⟨s,hs,rfl⟩:=Q0.mp hd;have h1:=hy s (zla hs);exact zpz h1.1.sml λe=>by rw[e] at h1;have:=h1.2;simp at this;lia
   .obtain⟨s,hs,rfl⟩:=Q0.mp hd;exact zb9 s
   .obtain⟨us,up,rfl⟩:=HK.perm_map_inv zp;refine q us ⟨λx=>?_,Zl.mp zw⟩;rw[up.mem_iff,lt];unfold zcw;exact and_congr yp.mem_iff ⟨λh y m=>h y (yp.mem_iff.mpr m),λh y m=>h y (yp.mem_iff.mp m)⟩
  .obtain⟨o2,rfl⟩:=hρ;rw[Qj] at hd;obtain⟨y,hy',rfl⟩:=Qw.mp hd;have my:=Qn hy';have il:=(Qi.mp hy').1
   have ek:zbu (ys.take (i+1))=zda (zbu (ys.take i)) y:=by
    unfold zbu;rw[Zz,hy',JI];rfl
   have ks:∀x∈zbu (ys.take i),x∈ys:=λx m=>JK (zla m);have kl:=zgy (ys.take i) [];rw[Jj,QX] at kl;have kl:(zbu (ys.take i)).length<=0+min i ys.length:=kl;generalize zbu (ys.take i)=ka at ek ks kl;refine⟨zcr y,?_⟩
   ac_rfl
   refine⟨(hy y my).1,λx m=>⟨(hy x (ks x m)).1,by rw[(hy x (ks x m)).2,(hy y my).2]⟩,_,rfl,?_⟩;unfold zda at ek
   cases h:ka.any λz=>abvB y z with
   | true=>
     rw[h,j7 rfl] at ek
     ac_rfl
     exact nx _ ⟨_,by rw[ek];rfl⟩
   | false=>
     rw[h,j8 Q8] at ek
     ac_rfl
     refine⟨zcr y,by rw[Qc];lia,?_⟩;refine nx _ ⟨some (.im (zag y)),?_⟩;rw[ek,Q7];rfl
end
section
variable {P:Tr}{w:Tt}{K:Qa}{mg:Str->Option Tn}{base:Heap}{k:Nat}
abbrev zie:Stmt:=top 15
theorem ztj:FnScope ["house", "standing"] ["house", "standing"] (zai zie):=⟨rfl,rfl,rfl,by decide +kernel,rfl,by decide +kernel,by decide +kernel⟩
theorem zfy(B:Blt mg)(zed:Def3 P w K mg base 4 "ways_ahead" ["house", "standing"] (spDd w K (λ_=>True) 2 zqb))(zen:Def3 P w K mg base 5 "least_ones" ["standings"] (spO K (λ_=>True) 1 zpi))(T:Top3 K mg "ahead_of" zie):Def3 P w K mg base 6 "ahead_of" ["house", "standing"] (spO K (λ_=>True) 2 zp1):=by
 refine mk_O T ztj (λ_ _ _ _ _ _ us hl=>len2 hl λ_ _=>rfl) rfl λf cdv A outer s H E O hφ C=>⟨_,(zaj (zav (zbf C zen (λ_=>trivial) (zaa (zx6 C B zed (λ_=>trivial) (zaa (zab 0) (zaa (zab 1) zac))) zac)))),λds Qr hn q=>?_⟩;obtain⟨h,s,rfl,ho,hs,q⟩:=q;have sz:=Ts;have lo:=zdh ho.ok.low
 have pr:∀x,x∈(zd0 h s).map (·.1)↔PrgA h s x:=λx=>by
  rw[<- ways_in,Q0]
 ac_rfl
 refine⟨ho,hs,?_⟩
 ac_rfl
 refine⟨(zd0 h s).map (·.1),h.lines,by rw[Zt];rfl,ho.l1,λx hx=>?_,by rw[Qc];exact QY (zm3 ho) (by decide),λzs hz=>?_⟩
 .obtain⟨i,hd,k,r,a,b,m⟩:=(pr x).mp hx;obtain⟨b1,b2,b3,b4⟩:=zkn (n:=90) lo hs (λw m=>(hs.sml w m).1) (zch ho.ok a b).2 m;have:=ho.h2;have:=ho.f2;have:=ho.l2;exact⟨⟨by lia,by lia,by lia,λw hw=>⟨by have:=(b4 w hw).1;lia,(b4 w hw).2⟩⟩,b3⟩
 .refine q zs ⟨λx=>(hz.1 x).trans ?_,hz.2⟩;unfold zcw;exact and_congr (pr x) ⟨λh y m=>h y ((pr y).mpr m),λh y m=>h y ((pr y).mp m)⟩
end
section
variable {P:Tr}{w:Tt}{K:Qa}{mg:Str->Option Tn}{base:Heap}{k:Nat}
abbrev zj7:Stmt:=top 19
theorem zxb:FnScope ["_law_deal_here", "_law_some", "_law_letters", "_law_lines", "_law_flags", "_law_hands", "_law_k", "_law_rooms", "_law_rules", "_law_j", "_law_letter", "_law_line", "_law_doings", "_law_flag", "_law_value", "_law_deed"] ["_law_deal_here"] (zai zj7):=⟨rfl,rfl,rfl,by decide +kernel,rfl,by decide +kernel,by decide +kernel⟩
theorem ze4(B:Blt mg)(d_law_draw:zl1 P w K mg base)(T:Top3 K mg "_law_house" zj7):Def3 P w K mg base 2 "_law_house" ["_law_deal_here"] (spD K IsDeal 0 zqm):=by
 refine mk_D T zxb (λ_ _ _ _ _ _ us hl=>len1 hl λ_=>rfl) rfl λf cdv A outer s H E O hφ C=>?_;have hO:∀j:Unit,IsDeal ((λ_:Unit=>O) j):=λ_=>hφ
 refine⟨_,(zaf (zat 1 (zhh C B (zaa zaz zac))) (zaf (z6u 2 1 0 (λO D u h n=>h.plus D u n) hO (zas C zad (zap 0 C d_law_draw hO (zaa zad zac))) (λte he i=>by
  obtain⟨fD,fdD,G,mD,kpD,bnD⟩:=d_law_draw.ex
  exact zdi (i:=2) (jB (by kernel_rfl)) rfl (by first|exact Or.inl rfl|exact Or.inr rfl) (zgb JQ Ua Ub zm0 zbw (za3 (zeo zr2 rfl B.sorted zdw (za3 (zkh 1 (N':=["_law_k", "_law_deal_here", "_law_some", "_law_letters", "_law_lines", "_law_flags", "_law_hands", "._law_k", "_law_rooms", "_law_rules", "_law_j", "_law_letter", "_law_line", "_law_doings", "_law_flag", "_law_value", "_law_deed"]) (.of rfl (by kernel_rfl)) rfl (zk1 rfl B.range (za3 (he i) zbs)) (λC s H ex=>zec (jB (by kernel_rfl)) rfl (by first|exact Or.inl rfl|exact Or.inr rfl) (by first|exact .inl rfl|exact .inr rfl)) (zeg (by decide)) (λC s H ex=>znl) (λ_ s H ex=>zgb Jv Ud Ue zub (zam (i:=2) rfl (by first|exact Or.inl rfl|exact Or.inr (Or.inl rfl)|exact Or.inr (Or.inr rfl))) (za3 (zfg (k:=1) (by exact G.mono (by decide)) (by exact C.room ()) rfl mD kpD bnD .nil zix (za3 (zam (i:=1) rfl (by first|exact Or.inl rfl|exact Or.inr (Or.inl rfl)|exact Or.inr (Or.inr rfl))) (za3 (zeo zh8 rfl B.len znr (za3 (zam (i:=2) rfl (by first|exact Or.inl rfl|exact Or.inr (Or.inl rfl)|exact Or.inr (Or.inr rfl))) zbs)) zbs))) zbs))) zbs)) zbs)))) (zaf (zrl 3 4 C (zaa (zas C zad (zap 0 C d_law_draw hO (zaa zad zac))) (zaa (zap 0 C d_law_draw hO (zaa zad zac)) zac))) (zaf (zat 5 (zbe zac)) (zaf (zbz C (zb6 (i_r1 C B (zaa (zas C zad (zap 0 C d_law_draw hO (zaa zad zac))) zac))) (za9 (h:=1000) 6) (zaf (zat 7 (zas C zad (zap 0 C d_law_draw hO (zaa zad zac)))) (zaf (zat 8 (zbe zac)) (zaf (zbz C (zb6 (i_r1 C B (zaa (z3z C (zas C zad (zap 0 C d_law_draw hO (zaa zad zac))) (zap 0 C d_law_draw hO (zaa zad zac)) (zap 0 C d_law_draw hO (zaa zad zac))) zac))) (za9 (h:=1000) 9) (zaf (zrl 10 11 C (zaa (zah C (zab 2) (zap 0 C d_law_draw hO (zaa (zdq C B (zaa (zab 2) zac)) zac))) (zaa (zap 0 C d_law_draw hO (zaa (zab 3) zac)) zac))) (zaf (zat 12 (zbe (zaa (za1 (zaa zaz (zaa (zab 11) (zaa (zab 10) zac)))) (zaa (za1 (zaa zaz (zaa (zab 11) (zaa (zab 10) zac)))) (zaa (za1 (zaa zaz (zaa (zab 11) (zaa (zab 10) zac)))) (zaa (za1 (zaa zaz (zaa (zab 11) (zaa (zab 10) zac)))) zac)))))) (zaf (zat 12 (zas C (zab 12) (zbe (zaa (za1 (zaa zaz zac)) (zaa (za1 (zaa zaz (zaa (zab 11) zac))) zac))))) (zaf (s_if (t_gt (zab 4) zad) (zaf (zrl 13 14 C (zaa (zap 0 C d_law_draw hO (zaa (zab 4) zac)) (zaa (zap 0 C d_law_draw hO (zaa zad zac)) zac))) (zaj (zat 12 (zas C (zab 12) (zbe (zaa (za1 (zaa zaz (zaa (zab 13) (zaa (zab 14) zac)))) (zaa (za1 (zaa zaz (zaa (zab 13) (zaa (zab 14) zac)))) zac))))))) za4) (zaf (zat 15 (zah C (zab 12) (zap 0 C d_law_draw hO (zaa (zdq C B (zaa (zab 12) zac)) zac)))) (zaj (zer 8 C (za1 (zaa (zap 0 C d_law_draw hO (zaa (zab 7) zac)) (zaa (zab 15) (zaa (zap 0 C d_law_draw hO (zaa (zab 7) zac)) zac)))))))))))) (zaj (zer 5 C (za1 (zaa (zab 7) (zaa (zcs C B (zaa (zab 8) zac)) zac))))))))) (zaj (zav (za1 (zaa (zab 2) (zaa (zab 3) (zaa (zab 4) (zaa (zcs C B (zaa (zab 5) zac)) zac)))))))))))),λds Qr hn q=>?_⟩
 obtain⟨rfl,q⟩:=q;have sz:=Ts
 ac_rfl
 refine⟨by decide,by decide,λk k0 k1=>?_⟩;obtain⟨a,rfl⟩:=Q6 k0
 ac_rfl
 refine⟨by lia,by lia,λls rest ll low inc=>?_⟩;have hne:ls≠[]:=λe=>by rw[e] at ll;simp at ll;lia
 ac_rfl
 refine⟨by decide,by decide,λk k0 k1=>?_⟩;obtain⟨b,rfl⟩:=Q6 k0
 ac_rfl
 refine⟨by decide,by decide,λk k0 k1=>?_⟩;obtain⟨c,rfl⟩:=Q6 k0
 ac_rfl
 refine⟨by decide,by decide,λk k0 k1=>?_⟩;obtain⟨e,rfl⟩:=Q6 k0
 ac_rfl
 refine⟨by lia,by lia,rfl,?_⟩;refine zay (λj ρ=>∃(hs:List Hnd) (o6 o7 o8 o9 o10 o11 o12 o13 o14 o15:Option DV),ρ = [some .ob,some (.own (rest.map λc=>.str (sg c))),some (.im (.str (tx ls))),some (.im (.int (1+(b:Nat)))),some (.im (.int (c:Nat))),some (.own (hs.map zbl)),o6,o7,o8,o9,o10,o11,o12,o13,o14,o15]/\hs.length=j/\∀x∈hs,HdOk ls (1+b) c x/\x.n<=3/\x.rs.length<=5/\∀r∈x.rs,r.p<3/\r.q<3) ⟨[],none,none,none,none,none,none,none,none,none,none,rfl,rfl,λx h=>(Q4 h).elim⟩ (λρ hρ=>?_) λj d ρ N hd hN hρ=>?_
 .obtain⟨hs,o6,o7,o8,o9,o10,o11,o12,o13,o14,o15,rfl,h1,h2⟩:=hρ;rw[zey] at h1
  ac_rfl
  refine q ⟨ls,1+b,c,hs⟩ ⟨⟨low,hne,by show ls.length<=100;lia,by show 1+b<=100;lia,by show c<=100;lia,by show hs.length<=100;lia,λx hx=>(h2 x hx).1.1,λx hx=>(h2 x hx).1.2⟩,by show 1<=1+b;lia,by show 1+b<=2;lia,by show c<=2;lia,by show 1<=hs.length;lia,by show hs.length<=2;lia,λx hx=>(h2 x hx).2.2.1,λx hx=>(h2 x hx).2.1,by show ls.length<=3;lia,λx hx=>(h2 x hx).2.2.2⟩
 .obtain⟨hs,o6,o7,o8,o9,o10,o11,o12,o13,o14,o15,rfl,h1,h2⟩:=hρ;obtain⟨hj,rfl⟩:=zdv hd;refine⟨rfl,?_⟩
  ac_rfl
  refine⟨by decide,by decide,λk k0 k1=>?_⟩;obtain⟨f,rfl⟩:=Q6 k0
  ac_rfl
  refine⟨by decide,by decide,λk k0 k1=>?_⟩;obtain⟨g,rfl⟩:=Q6 k0
  ac_rfl
  refine⟨by decide,by decide,λk k0 k1=>?_⟩;obtain⟨g',rfl⟩:=Q6 k0
  ac_rfl
  refine⟨by decide,by decide,λk k0 k1=>?_⟩;obtain⟨p,rfl⟩:=Q6 k0
  ac_rfl
  generalize e1:R.o (YN (1+(g:Int)))=r1;generalize e2:R.o (YN (g':Int))=r2;apply z7i (p:=p) (r1:=r1) (r2:=r2) (by lia);intro r hr
  obtain⟨m,rfl,h5⟩:∃m:Nat,r = .o (.int (m:Nat))/\m<=5:=by
   rcases hr with rfl|rfl
   .exact⟨1+g,e1.symm,by lia⟩
   .exact⟨g',e2.symm,by lia⟩
  ac_rfl
  refine⟨by lia,by lia,rfl,?_⟩;refine zay (λi ρ=>∃(rs:List Rul) (o9 o10 o11 o12 o13 o14 o15:Option DV),ρ = [some .ob,some (.own (rest.map λc=>.str (sg c))),some (.im (.str (tx ls))),some (.im (.int (1+(b:Nat)))),some (.im (.int (c:Nat))),some (.own (hs.map zbl)),some (.im (.int (0+(j:Nat)))),some (.im (.int (1+(f:Nat)))),some (.own (rs.map zbi)),o9,o10,o11,o12,o13,o14,o15]/\rs.length<=i/\∀r∈rs,RuOk ls (1+b) c r/\r.p<3/\r.q<3) ⟨[],_,_,_,_,_,_,_,rfl,QE _,λx h=>(Q4 h).elim⟩ (λρ hρ=>?_) λi d ρ N hd2 hN2 hρ=>?_
  .obtain⟨rs,o9,o10,o11,o12,o13,o14,o15,rfl,g1,g2⟩:=hρ;rw[zey] at g1
   ac_rfl
   refine⟨zct ⟨1+f,rs⟩,by rw[Qc];lia,hN _ ⟨hs ++ [⟨1+f,rs⟩],_,_,_,_,_,_,_,_,_,_,by rw[Q7];rfl,by rw[Qq,h1];rfl,zne h2 ⟨⟨⟨by show 0<1+f;lia,by show 1+f<=100;lia⟩,by show rs.length<=100;lia,λr hr=>(g2 r hr).1⟩,by show 1+f<=3;lia,by show rs.length<=5;lia,λr hr=>(g2 r hr).2⟩⟩⟩
  .obtain⟨rs,o9,o10,o11,o12,o13,o14,o15,rfl,g1,g2⟩:=hρ;obtain⟨hi,rfl⟩:=zdv hd2;refine⟨rfl,?_⟩
   have tail:∀(Dd:DEnds) (ds:List Deed) (o9 o10 o11 o13 o14 o15:Option DV),ds≠[]->ds.length<=10->(∀d∈ds,DeOk ls (1+b) c d)->Dd.nx=N->(seqD (asgS 15 (opDE (fn2 idxF) (vD 12) (calO 0 1 zcz (za7 (zb4 (fn1 lenF) (za7 (vD 12) aNil)) aNil)))) (appS 8 (tupD (za7 (calO 0 1 zcz (za7 (vD 7) aNil)) (za7 (vD 15) (za7 (calO 0 1 zcz (za7 (vD 7) aNil)) aNil)))))) Dd [some .ob,some (.own (rest.map λc=>.str (sg c))),some (.im (.str (tx ls))),some (.im (.int (1+(b:Nat)))),some (.im (.int (c:Nat))),some (.own (hs.map zbl)),some (.im (.int (0+(j:Nat)))),some (.im (.int (1+(f:Nat)))),some (.own (rs.map zbi)),o9,o10,o11,some (.own (ds.map zcj)),o13,o14,o15]:=by
    intro Dd ds o9 o10 o11 o13 o14 o15 ne l10 dk eD;have lp:=Vg.mpr ne
    ac_rfl
    rw[Qc];refine⟨by lia,by lia,λk k0 k1=>?_⟩;obtain⟨u,rfl⟩:=Q6 k0;have hu:u<ds.length:=by lia
    (repeat first|refine⟨_,zcm (f:=zcj) (Qg hu),?_⟩|refine⟨zcm (f:=zcj) (Qg hu),?_⟩|infer_instance)
    refine⟨z2v _,?_⟩
    ac_rfl
    refine⟨by lia,by lia,λk k0 k1=>?_⟩;obtain⟨y,rfl⟩:=Q6 k0
    ac_rfl
    refine⟨by lia,by lia,λk k0 k1=>?_⟩;obtain⟨z,rfl⟩:=Q6 k0
    ac_rfl
    refine⟨zc5 ⟨y,ds[u],z⟩,by rw[Qc];lia,?_⟩;rw[eD];refine hN2 _ ⟨rs ++ [⟨y,ds[u],z⟩],_,_,_,_,_,_,_,by rw[Q7];rfl,by rw[Qq,QA];lia,zne g2 ⟨⟨dk _ (QT hu),by show y<=100;lia,by show z<=100;lia⟩,by show y<3;lia,by show z<3;lia⟩⟩
   refine zlg rfl rfl hne (by lia) λx hx=>?_
   ac_rfl
   refine⟨by lia,by lia,λk k0 k1=>?_⟩;obtain⟨l,rfl⟩:=Q6 k0
   ac_rfl
   have lb:l<1+b:=by lia
   have d6:∀d∈[Deed.send l x,.take l x,.send l x,.take l x,.go,.empty l],DeOk ls (1+b) c d:=by
    intro d hd;simp only[Qs,Q4,jH] at hd;rcases hd with rfl|rfl|rfl|rfl|rfl|rfl
    .exact⟨lb,hx⟩
    .exact⟨lb,hx⟩
    .exact⟨lb,hx⟩
    .exact⟨lb,hx⟩
    .exact trivial
    .exact lb
   by_cases c0:0<c
   .rw[j9 (show(0:Int)<(c:Nat) by lia)]
    ac_rfl
    refine⟨by lia,by lia,λk k0 k1=>?_⟩;obtain⟨t,rfl⟩:=Q6 k0
    ac_rfl
    refine⟨by lia,by lia,λk k0 k1=>?_⟩;obtain⟨v,rfl⟩:=Q6 k0
    iterate 12 infer_instance
    refine tail _ ([Deed.send l x,.take l x,.send l x,.take l x,.go,.empty l] ++ [.put t v,.test t v]) _ _ _ _ _ _ (by simp) (by simp) (λd hd=>?_) ?_
    .rcases Qv.mp hd with hd|hd
     .exact d6 d hd
     .simp only[Qs,Q4,jH] at hd;rcases hd with rfl|rfl
      .exact⟨by lia,by lia⟩
      .exact⟨by lia,by lia⟩
    .rfl
   .rw[jA (show ¬(0:Int)<(c:Nat) by lia)];exact tail _ [Deed.send l x,.take l x,.send l x,.take l x,.go,.empty l] _ _ _ _ _ _ (by simp) (by simp) d6 rfl
end
section
variable {P:Tr}{w:Tt}{K:Qa}{mg:Str->Option Tn}{base:Heap}{k:Nat}
abbrev zf6:Stmt:=top 20
theorem zox:FnScope ["_law_deal_here", "_law_house_here", "_law_most", "_law_letters", "_law_lines", "_law_flags", "_law_hands", "_law_words", "_law_k", "_law_rooms"] ["_law_deal_here", "_law_house_here", "_law_most"] (zai zf6):=⟨rfl,rfl,rfl,by decide +kernel,rfl,by decide +kernel,by decide +kernel⟩
theorem zdn(B:Blt mg)(d_law_draw:zl1 P w K mg base)(T:Top3 K mg "_law_standing" zf6):Def3 P w K mg base 2 "_law_standing" ["_law_deal_here", "_law_house_here", "_law_most"] (spD K IsDeal 2 zpu):=by
 refine mk_D T zox (λ_ _ _ _ _ _ us hl=>len3 hl λ_ _ _=>rfl) rfl λf cdv A outer s H E O hφ C=>?_;have hO:∀j:Unit,IsDeal ((λ_:Unit=>O) j):=λ_=>hφ;refine⟨_,(zaf (zit (h:=1000) C (zab 1) (zaq 3 (zaq 4 (zaq 5 (zaq 6 zcp))))) (zaf (zat 7 (zbe zac)) (zaf (zbz C (zb6 (i_r1 C B (zaa (zab 4) zac))) (za9 (h:=1000) 8) (zaj (zer 7 C (z3l C zaz (zcx 1 ["_law_j", "_law_deal_here", "_law_house_here", "_law_most", "_law_letters", "_law_lines", "_law_flags", "_law_hands", "_law_words", "_law_k", "_law_rooms"] C (λ_=>.of rfl (by kernel_rfl)) (i_r1 C B (zaa (zap 0 C d_law_draw hO (zaa (zas C (zab 2) zad) zac)) zac)) (za9 0) zd3 (zah (C.comp _ _) (zab 4) (zap 1 (C.comp _ _) d_law_draw (upD hO) (zaa (zdq (C.comp _ _) B (zaa (zab 4) zac)) zac)))))))) (zaf (zat 9 (zcs C B (zaa (zcx 1 ["_law_hand", "_law_deal_here", "_law_house_here", "_law_most", "_law_letters", "_law_lines", "_law_flags", "_law_hands", "_law_words", "_law_k", "_law_rooms"] C (λ_=>.of rfl (by kernel_rfl)) (zrq C (zab 6)) (za9 0) zd3 (zap 1 (C.comp _ _) d_law_draw (upD hO) (zaa (zah (C.comp _ _) (zab 0) zad) zac))) zac))) (zaj (zav (za1 (zaa (zab 9) (zaa (zcs C B (zaa (zcx 1 ["_law_k", "_law_deal_here", "_law_house_here", "_law_most", "_law_letters", "_law_lines", "_law_flags", "_law_hands", "_law_words", "._law_k", "_law_rooms"] C (λ_=>.of rfl (by kernel_rfl)) (i_r1 C B (zaa (zab 5) zac)) (za9 0) zd3 (zap 1 (C.comp _ _) d_law_draw (upD hO) (zaa zad zac))) zac)) (zaa (zcs C B (zaa (zab 7) zac)) zac)))))))))),λds Qr hn q=>?_⟩;obtain⟨h,n,rfl,ho,hn,q⟩:=q;have sz:=Ts;have hh:=ho.ok;have hm:=hh.many;have hl:=hh.lines;have hf:=hh.flags;have lo:=zdh hh.low;have hs3:=ho.s3
 ac_rfl
 refine⟨zj3 h,?_⟩
 ac_rfl
 refine⟨by lia,by lia,rfl,?_⟩;refine zay (λj ρ=>∃(ws:List (List Nat)) (o8 o9:Option DV),ws.length=j/\(∀w∈ws,w.length<=n/\∀c∈w,c<128)/\ρ = [some .ob,some (.im (zbc h)),some (.im (.int (n:Nat))),some (.im (.str (tx h.ls))),some (.im (.int (h.lines:Nat))),some (.im (.int (h.flags:Nat))),some (.im (.tuple (h.hands.map zbl))),some (.own (ws.map wD)),o8,o9]) ⟨[],none,none,rfl,λw hw=>absurd hw Q4,rfl⟩ (λρ hρ=>?_) λj d ρ N hd nx hρ=>?_
 .obtain⟨ws,o8,o9,w1,w2,rfl⟩:=hρ;rw[zey] at w1
  ac_rfl
  refine zg3 (as:=h.hands) (enc:=zbl) (enc2:=nD) (good:=λm=>m<1000) (λx hx Py hPy=>?_) (by lia) λrs rk hrs=>?_
  .have:=hh.pos x hx;refine⟨rfl,_,_,rfl,rfl,_,rfl,rfl,_,rfl,by lia,by lia,λk k0 k1=>?_⟩;obtain⟨m,rfl⟩:=Q6 k0;exact hPy m (by lia)
  refine⟨_,rfl,zan (λ_=>rfl) _,?_⟩
  ac_rfl
  refine⟨by lia,by lia,?_⟩;refine zg3 (enc2:=nD) (good:=λm=>m<1000) (λx hx Py hPy=>?_) (by rw[QZ];lia) λfs fk hfs=>?_
  .exact zuo rfl (by decide) (by decide) λk hk=>hPy k (by lia)
  rw[QZ] at hfs
  ac_rfl
  refine q ⟨rs,fs,ws⟩ ⟨hrs,by show fs.length=_;lia,by show ws.length=_;lia,λw hw=>⟨by have:=(w2 w hw).1;lia,(w2 w hw).2⟩⟩ (λw hw=>(w2 w hw).1) λm hm=>(Qv.mp hm).elim (rk m) (fk m)
 .obtain⟨ws,o8,o9,w1,w2,rfl⟩:=hρ;obtain⟨hj,rfl⟩:=zdv hd;refine⟨rfl,?_⟩
  ac_rfl
  refine⟨by lia,by lia,λk k0 k1=>?_⟩;obtain⟨m,rfl⟩:=Q6 k0;refine⟨_,rfl,by lia,by lia,?_⟩;refine zwo (enc2:=λc=>.str (tx [c])) (good:=λc=>c∈h.ls) (λc hc Pn Py hPn hPy=>?_) (by rw[QZ];lia) λv hv hlp=>?_
  .refine iteT (B:=Pn) (zlg rfl rfl hh.ne (by lia) λc hc=>hPy c hc)
  .rw[QZ] at hlp;obtain⟨ys,e1,e2,e3⟩:=zzy v (by lia);refine⟨ys,e1,e2,?_⟩;rw[e3];refine⟨rfl,by rw[Qc];lia,nx _ ⟨ws ++ [v],_,_,by rw[Qq,w1];rfl,λw hw=>?_,by rw[Q7];rfl⟩⟩;rcases Qv.mp hw with hw|hw
   .exact w2 w hw
   .rw[Qb.mp hw];exact⟨by lia,λc hc=>lo c (hv c hc)⟩
end
section
variable {P:Tr}{w:Tt}{K:Qa}{mg:Str->Option Tn}{base:Heap}{k:Nat}
abbrev zj8:Stmt:=top 21
theorem zw0:FnScope ["_law_less", "_law_more", "_law_at", "_law_letter"] ["_law_less", "_law_more"] (zai zj8):=⟨rfl,rfl,rfl,by decide +kernel,rfl,by decide +kernel,by decide +kernel⟩
theorem ze5(B:Blt mg)(T:Top3 K mg "_law_under" zj8):Def3 P w K mg base 1 "_law_under" ["_law_less", "_law_more"] (spO K (λ_=>True) 2 zps):=by
 refine mk_O T zw0 (λ_ _ _ _ _ _ us hl=>len2 hl λ_ _=>rfl) rfl λf cdv A outer s H E O hφ C=>⟨_,(zaf (zat 2 zad) (zaf (zbz C (zb6 (zrs (zab 1))) (za9 (h:=1000) 3) (zaj (s_if (t_w (zgk (t_lt (zab 2) (zdq C B (zaa (zab 0) zac))) (zei (t_eq C (zah C (zab 0) (zab 2)) (zab 3))))) (zaj (zat 2 (zas C (zab 2) zad))) za4))) (zaj (zav (e_eq C (zab 2) (zdq C B (zaa (zab 0) zac))))))),λds Qr hn q=>?_⟩;obtain⟨less,more,rfl,hs,hm,q⟩:=q;have sz:=Ts;have hl:=hs.1;have hl2:=hm.1;refine⟨rfl,_,_,rfl,rfl,_,rfl,rfl,?_⟩
 refine zay (λj ρ=>∃(at':Nat) (o3:Option DV),ρ = [some (.im (tS less)),some (.im (tS more)),some (.im (.int (at':Nat))),o3]/\eats (more.take j) less=less.drop at'/\at'<=less.length/\j<=more.length)
  ⟨0,none,rfl,rfl,QE _,QE _⟩ (λρ ⟨a,o3,e,h1,h2,h4⟩=>?_) λj d ρ N hd hN ⟨a,o3,e,h1,h2,h4⟩=>?_
 .subst e;rw[zpv,Zh] at h1;refine⟨_,_,rfl,rfl,_,_,rfl,rfl,_,zgx (by lia),_,zp4,?_⟩;rw[j8 Q8];unfold L6.under at q;rw[h1] at q
  have e:(less.drop a).isEmpty=decide ((a:Int)=(less.length:Nat)):=by
   by_cases z:a=less.length
   .rw[z,YL,j9 rfl];rfl
   .rw[jA (by lia)];have:0<(less.drop a).length:=by rw[Z8];lia
    cases hz:less.drop a with
    | nil=>rw[hz] at this;cases this
    | cons _ _=>rfl
  rw[e] at q;exact q
 .subst e;obtain⟨c,hc,rfl⟩:=zp5 hd;obtain⟨hlt,ec⟩:=Qi.mp hc
  have et:eats (more.take (j+1)) less=eat c (less.drop a):=by
   rw[YC hlt,ec];unfold eats;rw[JI];show eat c (eats (more.take j) less)=_;rw[h1]
  refine⟨rfl,?_⟩;refine⟨_,_,rfl,rfl,_,_,rfl,rfl,_,zgx (by lia),_,rfl,_,rfl,?_⟩
  by_cases ha:a<less.length
  .rw[j9 (by lia)];refine iteT ⟨_,_,rfl,rfl,_,_,rfl,rfl,_,zof ha (by lia),_,_,rfl,rfl,_,zd9 (zn0 ⟨by simp,λx hx=>by simp at hx;rw[hx];exact hs.2 _ (QT ha)⟩) (zn0 (w:=[c]) ⟨by simp,λx hx=>by simp at hx;rw[hx,<- ec];exact hm.2 _ (QT hlt)⟩),_,rfl,?_⟩;rw[j8 Q8,show sg c=tx [c] from rfl,zmk];rw[Zx ha] at et
   by_cases z:less[a]=c
   .rw[j9 (by rw[z])];rw[show eat c (less[a]::less.drop (a+1))=less.drop (a+1) from j7 z] at et;exact iteT ⟨_,_,rfl,rfl,_,rfl,rfl,hN _ ⟨a+1,_,rfl,et,ha,hlt⟩⟩
   .rw[jA (by simpa using z)];rw[show eat c (less[a]::less.drop (a+1))=less[a]::less.drop (a+1) from j8 z,<- Zx ha] at et;exact iteF (hN _ ⟨a,_,rfl,et,h2,hlt⟩)
  .rw[jA (by lia)];have:less.drop a = []:=List.drop_eq_nil_iff.mpr (by lia);rw[this] at et;exact iteF (iteF (hN _ ⟨a,_,rfl,by rw[et,this];rfl,h2,hlt⟩))
end
section
variable {P:Tr}{w:Tt}{K:Qa}{mg:Str->Option Tn}{base:Heap}{k:Nat}
abbrev zkv:Stmt:=top 22
theorem zw8:FnScope ["_law_one", "_law_other"] ["_law_one", "_law_other"] (zai zkv):=⟨rfl,rfl,rfl,by decide +kernel,rfl,by decide +kernel,by decide +kernel⟩
theorem zcv(B:Blt mg)(ze5:Def3 P w K mg base 1 "_law_under" ["_law_less", "_law_more"] (spO K (λ_=>True) 2 zps))(T:Top3 K mg "_law_above" zkv):Def3 P w K mg base 2 "_law_above" ["_law_one", "_law_other"] (spO K (λ_=>True) 2 abvF):=by
 refine mk_O T zw8 (λ_ _ _ _ _ _ us hl=>len2 hl λ_ _=>rfl) rfl λf cdv A outer s H E O hφ C=>⟨_,(zaf (s_if (t_ne C (za2 C (zab 0) za8 (zba zad)) (za2 C (zab 1) za8 (zba zad))) (zaj (zav e_bl)) za4) (zaj (zav (zym C B (zaa (zcx 2 ["_law_less", "_law_more", "_law_one", "_law_other"] C (λ_=>.of rfl (by kernel_rfl)) (zyq C B (zaa (zah C (zab 1) zad) (zaa (zah C (zab 0) zad) zac))) (zgl (C.comp _ _) (zaq 0 (zaq 1 zcp))) zd3 (zbf (C.comp _ _) ze5 (λ_=>trivial) (zaa (zab 0) (zaa (zab 1) zac)))) zac))))),λds Qr hn q=>?_⟩;obtain⟨a,b,rfl,ha,hb,hl,q⟩:=q;have sz:=Ts;have l1:=ha.words
 (repeat first|refine⟨_,zc7 a,?_⟩|refine⟨zc7 a,?_⟩|refine⟨_,zc7 b,?_⟩|refine⟨zc7 b,?_⟩|refine⟨_,zi7 a b,?_⟩|refine⟨zi7 a b,?_⟩|infer_instance)
 rw[j7 rfl];unfold abvB at q;rw[<- GV] at q
 cases a1:(decide (a.rooms=b.rooms) && decide (a.flags=b.flags)) with
 | false=>
   rw[a1,Ui] at q
   ac_rfl
   exact q
 | true=>
   rw[a1,Tc] at q
   ac_rfl
   refine⟨zan (λ_=>rfl) _,zan (λ_=>rfl) _,?_⟩;rw[zic];refine zmd (α:=List Nat×List Nat) (enc:=λp=>.tuple [wD p.1,wD p.2]) (e:=λp=>.bool (L6.under p.1 p.2)) (λp hp P hP=>?_) zo0 (by rw[GH];lia) ?_
   .refine⟨_,rfl,iteT (B:=False) ?_⟩;obtain⟨m1,m2⟩:=JW hp
    ac_rfl
    refine⟨hb.sml _ m1,ha.sml _ m2,hP _ rfl⟩
   refine⟨_,zul _ _,?_⟩;rw[zvm];exact q
end
section
variable {P:Tr}{w:Tt}{K:Qa}{mg:Str->Option Tn}{base:Heap}{k:Nat}
abbrev zkm:Stmt:=top 23
theorem zxv:FnScope ["_law_standings", "_law_some"] ["_law_standings"] (zai zkm):=⟨rfl,rfl,rfl,by decide +kernel,rfl,by decide +kernel,by decide +kernel⟩
theorem ze3(B:Blt mg)(zcv:Def3 P w K mg base 2 "_law_above" ["_law_one", "_law_other"] (spO K (λ_=>True) 2 abvF))(T:Top3 K mg "_law_least" zkm):Def3 P w K mg base 3 "_law_least" ["_law_standings"] (spO K (λ_=>True) 1 zpy):=by
 refine mk_O T zxv (λ_ _ _ _ _ _ us hl=>len1 hl λ_=>rfl) rfl λf cdv A outer s H E O hφ C=>⟨_,(zaf (zat 1 (zoi C B (zab 0))) (zaj (zav (zcx 1 ["_law_one", "_law_standings", "_law_some"] C (λ_=>.of rfl (by kernel_rfl)) (zdt C (zab 1)) (za9 0) (zy4 (t_eq (C.comp _ _) (zcx 1 ["_law_other", "_law_one", "_law_standings", "_law_some"] (C.comp _ _) (λ_=>.of rfl (by kernel_rfl)) (zdt (C.comp _ _) (zab 2)) (za9 0) (zy4 (t_w (zgk (t_ne ((C.comp _ _).comp _ _) (zab 0) (zab 1)) (zei (zjg (zbf ((C.comp _ _).comp _ _) zcv (λ_=>trivial) (zaa (zab 1) (zaa (zab 0) zac)))))))) (zab 0)) (zbe zac))) (zab 0))))),λds Qr hn q=>?_⟩;obtain⟨xs,n,rfl,n0,hx,hl,few,q⟩:=q;have sz:=Ts
 ac_rfl
 refine⟨xs.map zag,shSt,zag ⟨[],[],[]⟩,rfl,λd hd=>?_,zb9 _,λd hd=>?_,by rw[Qc];lia,λzs nd zm=>?_,λzs nd zm zw=>?_⟩
 .obtain⟨s,hs,rfl⟩:=Q0.mp hd;have h1:=hx s hs;exact zpz h1.1.sml λe=>by rw[e] at h1;have:=h1.2;simp at this;lia
 .obtain⟨s,hs,rfl⟩:=Q0.mp hd;exact zb9 s
 .obtain⟨ys,rfl⟩:=zgo (f:=zag) (ws:=xs) zm;rw[Qc];exact few ys ((Zl.mp nd).imp λh e=>h (by rw[e])) λy m=>(zfd λ_ _=>zco).mp (zm _ (U2 m))
 .obtain⟨ys,rfl⟩:=zgo (f:=zag) (ws:=xs) λd hd=>(zm d).mp hd
  have my:∀x,x∈ys↔x∈xs:=λx=>by
   have a:=zm (zag x);rw[zfd λ_ _=>zco,zfd λ_ _=>zco] at a;exact a
  have ny:ys.Nodup:=(Zl.mp nd).imp λh e=>h (by rw[e]);have ly:ys.length<=900:=QY (zj1 ny λx hx'=>(my x).mp hx') hl;have sy:∀x∈ys,StW x/\x.words.length=n:=λx m=>hx x ((my x).mp m);refine⟨zan (λx=>zcr x) _,?_⟩
  ac_rfl
  refine zmp (α:=Sta) (enc:=zag) (p:=λx=>(ys.filter λy=>!decide (zag y=zag x) && abvB x y).isEmpty) (e:=zag) (λx m Pn Py hn hy=>?_) (by lia) ?_
  .ac_rfl
   refine zmp (α:=Sta) (enc:=zag) (p:=λy=>!decide (zag y=zag x) && abvB x y) (e:=zag) (λy m2 Pn2 Py2 hn2 hy2=>?_) (by lia) ?_
   ·(repeat first|refine⟨_,zqr (neg:=true) (zep (sy y m2).1.sml) (zep (sy x m).1.sml) (q:=decide (zag y=zag x)) (hq:=jJ),?_⟩|refine⟨zqr (neg:=true) (zep (sy y m2).1.sml) (zep (sy x m).1.sml) (q:=decide (zag y=zag x)) (hq:=jJ),?_⟩|infer_instance)
    cases e:decide (zag y=zag x) with
    | true=>
      rw[e] at hn2
      ac_rfl
      exact hn2 rfl
    | false=>
      rw[e] at hn2 hy2
      ac_rfl
      refine⟨(sy x m).1,(sy y m2).1,by rw[(sy x m).2,(sy y m2).2],_,rfl,?_⟩
      cases e2:abvB x y with
      | true=>
        rw[e2] at hy2
        ac_rfl
        exact hy2 rfl _ rfl
      | false=>
        rw[e2] at hn2
        ac_rfl
        exact hn2 rfl
   .have fs:∀y∈ys.filter (λy=>!decide (zag y=zag x) && abvB x y),∀w∈y.words,Sml w:=λy my'=>(sy y (JV.mp my').1).1.sml
    ac_rfl
    refine⟨_,z4i fs,_,rfl,?_⟩
    cases e:(ys.filter λy=>!decide (zag y=zag x) && abvB x y).isEmpty with
    | true=>
      ac_rfl
      exact hy e _ rfl
    | false=>
      ac_rfl
      exact hn e
  .refine q _ ⟨λx=>?_,List.Pairwise.filter _ (Zl.mp zw)⟩;rw[JV,List.isEmpty_iff,List.filter_eq_nil_iff];unfold zcw;constructor
   .rintro⟨m,h⟩;refine⟨(my x).mp m,λy hy ab=>?_⟩;have my':=(my y).mpr hy;have:=h y my';rw[Qx,YA,jK] at this;exact ZM λz=>this ⟨λe=>z (zco e),(zef (by rw[(sy x m).2,(sy y my').2])).mpr ab⟩
   .rintro⟨m,h⟩;have m:=(my x).mpr m;refine⟨m,λy my' z=>?_⟩;rw[Qx,YA,jK] at z;exact z.1 (by rw[h y ((my y).mp my') ((zef (by rw[(sy x m).2,(sy y my').2])).mp z.2)])
end
section
variable {P:Tr}{w:Tt}{K:Qa}{mg:Str->Option Tn}{base:Heap}{k:Nat}
abbrev zm4:Stmt:=top 24
theorem zzt:FnScope ["_law_house_here", "_law_standing_here", "_law_hand", "_law_k", "_law_room", "_law_deed", "_law_goal", "_law_rooms", "_law_flags", "_law_words"] ["_law_house_here", "_law_standing_here", "_law_hand", "_law_k"] (zai zm4):=⟨rfl,rfl,rfl,by decide +kernel,rfl,by decide +kernel,by decide +kernel⟩
theorem zgj(B:Blt mg)(T:Top3 K mg "_law_done" zm4):Def3 P w K mg base 1 "_law_done" ["_law_house_here", "_law_standing_here", "_law_hand", "_law_k"] (spO K (λ_=>True) 4 zmv):=by
 refine mk_O T zzt (λ_ _ _ _ _ _ us hl=>len4 hl λ_ _ _ _=>rfl) rfl λf cdv A outer s H E O hφ C=>⟨_,(zaf (zit (h:=1000) C (zah C (zah C (zah C (zah C (zab 0) zad) (zab 2)) zad) (zab 3)) (zaq 4 (zaq 5 (zaq 6 zcp)))) (zaf (zit (h:=1000) C (zab 1) (zaq 7 (zaq 8 (zaq 9 zcp)))) (zaf (s_if (t_ne C (zah C (zab 7) (zab 2)) (zab 4)) (zaj (zav zhj)) za4) (zaf (s_if (t_w (w_or (t_w (zgk (t_eq C (zah C (zab 5) zad) zaz) (zei (t_ne C (za2 C (zah C (zab 9) (zah C (zab 5) zad)) za8 (zba zad)) (zah C (zab 5) zad))))) (zsb (t_w (zgk (t_eq C (zah C (zab 5) zad) zaz) (zei (t_ne C (zah C (zab 9) (zah C (zab 5) zad)) zaz))))))) (zaj (zav zhj)) za4) (zaf (s_if (t_w (zgk (t_eq C (zah C (zab 5) zad) zaz) (zei (t_ne C (zah C (zab 8) (zah C (zab 5) zad)) (zah C (zab 5) zad))))) (zaj (zav zhj)) za4) (zaf (zuw 9 8 C (zhh C B (zaa (zab 9) zac)) (zhh C B (zaa (zab 8) zac))) (zaf (s_if (t_eq C (zah C (zab 5) zad) zaz) (zaj (zl2 9 C (zas C (zah C (zab 9) (zah C (zab 5) zad)) (zah C (zab 5) zad)) (zah C (zab 5) zad))) za4) (zaf (s_if (t_eq C (zah C (zab 5) zad) zaz) (zaj (zl2 9 C (za2 C (zah C (zab 9) (zah C (zab 5) zad)) (zba zad) za8) (zah C (zab 5) zad))) za4) (zaf (s_if (t_eq C (zah C (zab 5) zad) zaz) (zaj (zl2 8 C (zah C (zab 5) zad) (zah C (zab 5) zad))) za4) (zaj (zav (za1 (zaa (zas C (zas C (za2 C (zab 7) za8 (zba (zab 2))) (za1 (zaa (zab 6) zac))) (za2 C (zab 7) (zba (zas C (zab 2) zad)) za8)) (zaa (zcs C B (zaa (zab 8) zac)) (zaa (zcs C B (zaa (zab 9) zac)) zac))))))))))))))),λds Qr hn q=>?_⟩;obtain⟨h,s,i,k,hd,r,rfl,ho,hs,hi,hk,q⟩:=q;have sz:=Ts;obtain⟨il,de⟩:=zch ho hi hk;have lr:i<s.rooms.length:=by rw[hs.rooms];exact il
 have ro:=hs.rooms;have fl:=hs.flags;have wo:=hs.words;have m1:=ho.many;have m2:=ho.lines;have m3:=ho.flags;have lo:=zdh ho.low
 (repeat first|refine⟨_,zar (f:=zbl) hi,?_⟩|refine⟨zar (f:=zbl) hi,?_⟩|refine⟨_,zar (f:=zbi) hk,?_⟩|refine⟨zar (f:=zbi) hk,?_⟩|infer_instance)
 refine⟨zc5 r,?_⟩
 ac_rfl
 refine⟨z1b s,?_⟩;show seqD _ _ _ [some (.im (zbc h)),some (.im (zag s)),some (.im (.int (i:Nat))),some (.im (.int (k:Nat))),some (.im (.int (r.p:Nat))),some (.im (zcj r.d)),some (.im (.int (r.q:Nat))),some (.im (.tuple (s.rooms.map nD))),some (.im (.tuple (s.flags.map nD))),some (.im (.tuple (s.words.map wD)))]
 (repeat first|refine⟨_,zar (f:=nD) (zao (z:=0) lr),?_⟩|refine⟨zar (f:=nD) (zao (z:=0) lr),?_⟩|infer_instance)
 rw[zc6];unfold zca at q;have ff:∀{α:Type} {f:α->Tl} (xs:List α),(∀x,flat (f x)=true)->flats (xs.map f)=true:=λxs h=>zan h _;have rl:(s.rooms.map nD).length<=1000:=by rw[Qc];lia
 have a1:addF (.tuple (cutL (s.rooms.map nD) none (some (i:Int)))) (.tuple [nD r.q])=some (.o (.tuple (cutL (s.rooms.map nD) none (some (i:Int)) ++ [nD r.q]))):=zcu (by have:=zeh (s.rooms.map nD) none (some (i:Int));rw[QA];lia)
 have a2:addF (.tuple (cutL (s.rooms.map nD) none (some (i:Int)) ++ [nD r.q])) (.tuple (cutL (s.rooms.map nD) (some ((i:Int)+1)) none))=some (.o (.tuple ((s.rooms.set i r.q).map nD))):=by
  rw[zcu (by have:=zeh (s.rooms.map nD) none (some (i:Int));have:=zeh (s.rooms.map nD) (some ((i:Int)+1)) none;rw[Qq,QA];lia),zjy (by rw[Qc];exact lr),JF]
 by_cases e1:s.rooms.getD i 0=r.p
 .rw[j9 e1];obtain⟨p,d,g⟩:=r;have a1:addF (.tuple (cutL (s.rooms.map nD) none (some (i:Int)))) (.tuple [nD g])=some (.o (.tuple (cutL (s.rooms.map nD) none (some (i:Int)) ++ [nD g]))):=a1;have a2:addF (.tuple (cutL (s.rooms.map nD) none (some (i:Int)) ++ [nD g])) (.tuple (cutL (s.rooms.map nD) (some ((i:Int)+1)) none))=some (.o (.tuple ((s.rooms.set i g).map nD))):=a2;have se:∀(l:Nat) (v:List Nat),(s.words.map wD).set l (wD v)=(s.words.set l v).map wD:=λl v=>JF.symm;have sf:∀(l:Nat) (v:Nat),(s.flags.map nD).set l (nD v)=(s.flags.set l v).map nD:=λl v=>JF.symm
  cases d with
  | go=>
    rw[j7 ⟨e1,rfl⟩] at q
    ac_rfl
    refine⟨ff _ λ_=>rfl,ff _ λ_=>rfl,?_⟩;show seqD _ _ _ [some (.im (zbc h)),some (.im (zag s)),some (.im (.int (i:Nat))),some (.im (.int (k:Nat))),some (.im (.int (p:Nat))),some (.im (zcj (.go))),some (.im (.int (g:Nat))),some (.im (.tuple (s.rooms.map nD))),some (.own (s.flags.map nD)),some (.own (s.words.map wD))]
    (repeat first|refine⟨_,a1,?_⟩|refine⟨a1,?_⟩|refine⟨_,a2,?_⟩|refine⟨a2,?_⟩|infer_instance)
    exact q
  | send l c=>
    have ll:l<s.words.length:=by rw[wo];exact de.1
    have sw:=hs.sml _ (zb5 (z:=[]) ll);have ad:addF (wD (s.words.getD l [])) (wD [c])=some (.o (wD (s.words.getD l [] ++ [c]))):=znf (by have:=sw.1;rw[QA];lia);rw[j7 ⟨e1,rfl⟩] at q
    ac_rfl
    refine⟨ff _ λ_=>rfl,ff _ λ_=>rfl,?_⟩;show seqD _ _ _ [some (.im (zbc h)),some (.im (zag s)),some (.im (.int (i:Nat))),some (.im (.int (k:Nat))),some (.im (.int (p:Nat))),some (.im (zcj (.send l c))),some (.im (.int (g:Nat))),some (.im (.tuple (s.rooms.map nD))),some (.own (s.flags.map nD)),some (.own (s.words.map wD))]
    (repeat first|refine⟨_,zcm (f:=wD) (zao (z:=[]) ll),?_⟩|refine⟨zcm (f:=wD) (zao (z:=[]) ll),?_⟩|refine⟨_,ad,?_⟩|refine⟨ad,?_⟩|infer_instance)
    refine⟨by rw[Qc];exact ll,rfl,?_⟩
    (repeat first|refine⟨_,a1,?_⟩|refine⟨a1,?_⟩|refine⟨_,a2,?_⟩|refine⟨a2,?_⟩|infer_instance)
    have q:Qr (.o (.tuple [.tuple ((s.rooms.set i g).map nD),.tuple (s.flags.map nD),.tuple ((s.words.set l (s.words.getD l [] ++ [c])).map wD)])):=q;rw[<- se] at q;exact q
  | take l c=>
    have ll:l<s.words.length:=by rw[wo];exact de.1
    have sw:=hs.sml _ (zb5 (z:=[]) ll);have ne1:eqF true (wD ((s.words.getD l []).take 1)) (wD [c])=some (.o (.bool (!decide ((s.words.getD l []).head? = some c)))):=zzs sw.2 (lo c de.2);have sl1:slcF none (some 1) (wD (s.words.getD l []))=some (.o (wD ((s.words.getD l []).take 1))):=z0m (by have:=sw.1;lia);have sl2:slcF (some 1) none (wD (s.words.getD l []))=some (.o (wD ((s.words.getD l []).drop 1))):=z1j (by have:=sw.1;lia)
    (repeat first|refine⟨_,zar (f:=wD) (zao (z:=[]) ll),?_⟩|refine⟨zar (f:=wD) (zao (z:=[]) ll),?_⟩|refine⟨_,sl1,?_⟩|refine⟨sl1,?_⟩|refine⟨_,ne1,?_⟩|refine⟨ne1,?_⟩|infer_instance)
    by_cases e2:(s.words.getD l []).head? = some c
    .rw[j9 e2];rw[j7 ⟨e1,j9 e2⟩] at q
     ac_rfl
     refine⟨ff _ λ_=>rfl,ff _ λ_=>rfl,?_⟩;show seqD _ _ _ [some (.im (zbc h)),some (.im (zag s)),some (.im (.int (i:Nat))),some (.im (.int (k:Nat))),some (.im (.int (p:Nat))),some (.im (zcj (.take l c))),some (.im (.int (g:Nat))),some (.im (.tuple (s.rooms.map nD))),some (.own (s.flags.map nD)),some (.own (s.words.map wD))]
     (repeat first|refine⟨_,zcm (f:=wD) (zao (z:=[]) ll),?_⟩|refine⟨zcm (f:=wD) (zao (z:=[]) ll),?_⟩|refine⟨_,sl2,?_⟩|refine⟨sl2,?_⟩|infer_instance)
     refine⟨by rw[Qc];exact ll,rfl,?_⟩
     (repeat first|refine⟨_,a1,?_⟩|refine⟨a1,?_⟩|refine⟨_,a2,?_⟩|refine⟨a2,?_⟩|infer_instance)
     have q:Qr (.o (.tuple [.tuple ((s.rooms.set i g).map nD),.tuple (s.flags.map nD),.tuple ((s.words.set l ((s.words.getD l []).drop 1)).map wD)])):=q;rw[<- se] at q;exact q
    .rw[jA e2];rw[j8 λz=>e2 (jB z.2)] at q
     ac_rfl
     exact q
  | empty l=>
    have ll:l<s.words.length:=by rw[wo];exact de
    have sw:=hs.sml _ (zb5 (z:=[]) ll)
    (repeat first|refine⟨_,zar (f:=wD) (zao (z:=[]) ll),?_⟩|refine⟨zar (f:=wD) (zao (z:=[]) ll),?_⟩|infer_instance)
    (repeat first|refine⟨_,ztz sw.2,?_⟩|refine⟨ztz sw.2,?_⟩|infer_instance)
    by_cases e2:s.words.getD l [] = []
    .rw[j9 e2];rw[j7 ⟨e1,j9 e2⟩] at q
     ac_rfl
     refine⟨ff _ λ_=>rfl,ff _ λ_=>rfl,?_⟩;show seqD _ _ _ [some (.im (zbc h)),some (.im (zag s)),some (.im (.int (i:Nat))),some (.im (.int (k:Nat))),some (.im (.int (p:Nat))),some (.im (zcj (.empty l))),some (.im (.int (g:Nat))),some (.im (.tuple (s.rooms.map nD))),some (.own (s.flags.map nD)),some (.own (s.words.map wD))]
     (repeat first|refine⟨_,a1,?_⟩|refine⟨a1,?_⟩|refine⟨_,a2,?_⟩|refine⟨a2,?_⟩|infer_instance)
     exact q
    .rw[jA e2];rw[j8 λz=>e2 (jB z.2)] at q
     ac_rfl
     exact q
  | put f v=>
    have ll:f<s.flags.length:=by rw[fl];exact de.1
    rw[j7 ⟨e1,rfl⟩] at q
    ac_rfl
    refine⟨ff _ λ_=>rfl,ff _ λ_=>rfl,?_⟩;show seqD _ _ _ [some (.im (zbc h)),some (.im (zag s)),some (.im (.int (i:Nat))),some (.im (.int (k:Nat))),some (.im (.int (p:Nat))),some (.im (zcj (.put f v))),some (.im (.int (g:Nat))),some (.im (.tuple (s.rooms.map nD))),some (.own (s.flags.map nD)),some (.own (s.words.map wD))]
    ac_rfl
    refine⟨by rw[Qc];exact ll,rfl,?_⟩
    (repeat first|refine⟨_,a1,?_⟩|refine⟨a1,?_⟩|refine⟨_,a2,?_⟩|refine⟨a2,?_⟩|infer_instance)
    have q:Qr (.o (.tuple [.tuple ((s.rooms.set i g).map nD),.tuple ((s.flags.set f v).map nD),.tuple (s.words.map wD)])):=q;rw[<- sf] at q;exact q
  | test f v=>
    have ll:f<s.flags.length:=by rw[fl];exact de.1
    (repeat first|refine⟨_,zar (f:=nD) (zao (z:=0) ll),?_⟩|refine⟨zar (f:=nD) (zao (z:=0) ll),?_⟩|infer_instance)
    rw[zc6]
    by_cases e2:s.flags.getD f 0=v
    .rw[j9 e2];rw[j7 ⟨e1,j9 e2⟩] at q
     ac_rfl
     refine⟨ff _ λ_=>rfl,ff _ λ_=>rfl,?_⟩;show seqD _ _ _ [some (.im (zbc h)),some (.im (zag s)),some (.im (.int (i:Nat))),some (.im (.int (k:Nat))),some (.im (.int (p:Nat))),some (.im (zcj (.test f v))),some (.im (.int (g:Nat))),some (.im (.tuple (s.rooms.map nD))),some (.own (s.flags.map nD)),some (.own (s.words.map wD))]
     (repeat first|refine⟨_,a1,?_⟩|refine⟨a1,?_⟩|refine⟨_,a2,?_⟩|refine⟨a2,?_⟩|infer_instance)
     exact q
    .rw[jA e2];rw[j8 λz=>e2 (jB z.2)] at q
     ac_rfl
     exact q
 .rw[jA e1];rw[j8 λz=>e1 z.1] at q
  ac_rfl
  exact q
end
section
variable {P:Tr}{w:Tt}{K:Qa}{mg:Str->Option Tn}{base:Heap}{k:Nat}
abbrev ze8:Stmt:=top 25
theorem zmw:FnScope ["_law_word", "_law_letters"] ["_law_word", "_law_letters"] (zai ze8):=⟨rfl,rfl,rfl,by decide +kernel,rfl,by decide +kernel,by decide +kernel⟩
theorem zc2(B:Blt mg)(T:Top3 K mg "_law_near_words" ze8):Def3 P w K mg base 1 "_law_near_words" ["_law_word", "_law_letters"] (spO K (λ_=>True) 2 zm1):=by
 refine mk_O T zmw (λ_ _ _ _ _ _ us hl=>len2 hl λ_ _=>rfl) rfl λf cdv A outer s H E O hφ C=>⟨_,(zaj (zav (zr0 C B (zas C (zbe (zaa (zab 0) (zaa (za2 C (zab 0) za8 (zba zl4)) (zaa zaz zac)))) (zcx 1 ["_law_letter", "_law_word", "_law_letters"] C (λ_=>.of rfl (by kernel_rfl)) (zrs (zab 1)) (za9 0) zd3 (zas (C.comp _ _) (zab 0) (zab 1))))))),λds Qr hn q=>?_⟩;obtain⟨ls,w,rfl,l10,lo,wl,wo,q⟩:=q;have sz:=Ts
 (repeat first|refine⟨_,zka (w:=w) (by lia),?_⟩|refine⟨zka (w:=w) (by lia),?_⟩|infer_instance)
 rw[show sgs (tx ls)=ls.map (λc=>wD [c]) from by unfold sgs;rw[zck];rfl];refine zo6 (α:=Nat) (enc:=λc=>wD [c]) (e:=λc=>wD (c::w)) (λc hc P hP=>?_) (by lia) ?_
 .exact⟨_,_,rfl,rfl,_,_,rfl,rfl,_,znf (v:=[c]) (by rw[QA];lia),hP _ rfl⟩
 .have e0:(QS "")=tx []:=by decide +kernel
  have e1:addF (.list [wD w,wD w.dropLast,.str (QS "")]) (.list (ls.map λc=>wD (c::w)))=some (.n ((zby ls w).map wD)):=by
   rw[zp9 (by rw[Qc];show 3+_<=_;lia)]
   unfold zby
   rw[Qu,Qu,Qu,Zt,e0];rfl
  refine⟨_,e1,(zby ls w).map tx,.inr (by rw[Zt];rfl),by unfold zby;simp;lia,λzs nd zm _=>?_⟩;obtain⟨vs,rfl⟩:=zgo (f:=tx) (ws:=zby ls w) λx hx=>(zm x).mp hx
  have:=q vs ((Zl.mp nd).imp λh e=>h (by rw[e])) λv=>by
   have a:=zm (tx v);rw[zfd λ_ _=>ziw,zfd λ_ _=>ziw] at a;exact a
  rw[Zt];exact this
end
def inAh:DS:=seqD (asgS 12 (opDE (fn2 addF) (opDE (fn2 addF) (slD (opDE (fn2 idxF) (vD 1) (cD (.int 2))) noO (zhs (opDE (fn2 idxF) (vD 7) (cD (.int 0))))) (tupD (za7 (vD 10) aNil))) (slD (opDE (fn2 idxF) (vD 1) (cD (.int 2))) (zhs (opDE (fn2 addF) (opDE (fn2 idxF) (vD 7) (cD (.int 0))) (cD (.int 1)))) noO)))
 (seqD (asgS 13 (tupD (za7 (opDE (fn2 addF) (opDE (fn2 addF) (slD (opDE (fn2 idxF) (vD 1) (cD (.int 0))) noO (zhs (vD 3))) (tupD (za7 (opDE (fn2 idxF) (vD 6) (cD (.int 0))) aNil))) (slD (opDE (fn2 idxF) (vD 1) (cD (.int 0))) (zhs (opDE (fn2 addF) (vD 3) (cD (.int 1)))) noO)) (za7 (vD 11) (za7 (vD 12) aNil)))))
 (seqD (asgS 14 (calD 4 zmv (za7 (vD 0) (za7 (vD 13) (za7 (vD 3) (za7 (vD 5) aNil)))))) (ifS (andT (bD (opDE (isNF true) (vD 14) (cD .none))) (bD (calD 2 abvF (za7 (vD 14) (za7 (vD 1) aNil))))) (appS 2 (vD 13)) λDd ρ=>Dd.nx ρ)))
def wdAh:DS:=forS (newJ (srcL (calD 2 zm1 (za7 (opDE (fn2 idxF) (opDE (fn2 idxF) (vD 1) (cD (.int 2))) (opDE (fn2 idxF) (vD 7) (cD (.int 0)))) (za7 (opDE (fn2 idxF) (vD 0) (cD (.int 0))) aNil))))) (gN 10) (forS (varJ 8) (gN 11) inAh)
def zga(h:Hou)(s:Sta)(i:Nat)(r:Rul)(x:Sta):Prop:=∃y,zca x i r=some y/\Abo y s
theorem zhr{α:Type}{f:α->Tl}{xs:List α}{i:Nat}{v:α}(h:i<xs.length)(hl:xs.length<=1000):addF (.tuple (cutL (xs.map f) none (some (i:Int)))) (.tuple [f v])=some (.o (.tuple (cutL (xs.map f) none (some (i:Int)) ++ [f v])))/\addF (.tuple (cutL (xs.map f) none (some (i:Int)) ++ [f v])) (.tuple (cutL (xs.map f) (some ((i:Int)+1)) none))=some (.o (.tuple ((xs.set i v).map f))):=by
 have rl:(xs.map f).length<=1000:=by rw[Qc];lia
 have c1:=zeh (xs.map f) none (some (i:Int));have c2:=zeh (xs.map f) (some ((i:Int)+1)) none;refine⟨zcu (by rw[QA];lia),?_⟩;rw[zcu (by rw[Qq,QA];lia),zjy (by rw[Qc];exact h),JF]
abbrev stAh(h:Hou)(s:Sta)(F:List Sta)(i:Nat)(hd:Hnd)(k:Nat)(r:Rul)(o7 o8 o9 o10 o11 o12 o13 o14:Option DV):DSt:=[some (.im (zbc h)),some (.im (zag s)),some (.own (F.map zag)),some (.im (.int (i:Nat))),some (.im (zbl hd)),some (.im (.int (k:Nat))),some (.im (zbi r)),o7,o8,o9,o10,o11,o12,o13,o14]
theorem z6b{i k L:Nat}{w fs:List Nat}(ho:HoA h)(hs:StH h s)(hi:h.hands[i]? = some hd)(hk:hd.rs[k]? = some r)(hL:L<h.lines)(hw:w.length<=90/\∀c∈w,c<128)(hf:fs.length=h.flags)(lF:F.length<=900)
 (q:∀F' o12 o13 o14,(∀x,x∈F'↔x∈F\/(x=⟨s.rooms.set i r.p,fs,s.words.set L w⟩/\zga h s i r x))->F'.length<=F.length+1->Dd.nx (stAh h s F' i hd k r (some (.own [.int (L:Nat)])) o8 o9 (some (.im (wD w))) (some (.im (.tuple (fs.map nD)))) o12 o13 o14)) :
 inAh Dd (stAh h s F i hd k r (some (.own [.int (L:Nat)])) o8 o9 (some (.im (wD w))) (some (.im (.tuple (fs.map nD)))) o12 o13 o14):=by
 have sz:=Ts;have hh:=ho.ok;have m1:=hh.many;have m2:=hh.lines;have m3:=hh.flags;have lo:=zdh hh.low;obtain⟨il,de⟩:=zch hh hi hk;have ro:=hs.rooms;have wo:=hs.words;have lr:i<s.rooms.length:=by rw[ro];exact il
 have lw:L<s.words.length:=by rw[wo];exact hL
 obtain⟨a1,a2⟩:=zhr (f:=wD) (v:=w) lw (by lia);obtain⟨b1,b2⟩:=zhr (f:=nD) (v:=r.p) lr (by lia);unfold inAh
 have st:StH h ⟨s.rooms.set i r.p,fs,s.words.set L w⟩:=⟨by rw[Q1];exact ro,hf,by rw[Q1];exact wo,λv hv=>by
  rcases ZE hv with hv|rfl
  .exact hs.sml v hv
  .exact hw⟩
 (repeat first|refine⟨_,a1,?_⟩|refine⟨a1,?_⟩|refine⟨_,a2,?_⟩|refine⟨a2,?_⟩|infer_instance)
 refine⟨zan (λ_=>rfl) _,?_⟩;show seqD _ _ Dd (stAh h s F i hd k r (some (.own [.int (L:Nat)])) o8 o9 (some (.im (wD w))) (some (.im (.tuple (fs.map nD)))) (some (.im (.tuple ((s.words.set L w).map wD)))) o13 o14)
 (repeat first|refine⟨_,b1,?_⟩|refine⟨b1,?_⟩|refine⟨_,b2,?_⟩|refine⟨b2,?_⟩|infer_instance)
 refine⟨zcr ⟨s.rooms.set i r.p,fs,s.words.set L w⟩,?_⟩;show seqD _ _ Dd (stAh h s F i hd k r (some (.own [.int (L:Nat)])) o8 o9 (some (.im (wD w))) (some (.im (.tuple (fs.map nD)))) (some (.im (.tuple ((s.words.set L w).map wD)))) (some (.im (zag ⟨s.rooms.set i r.p,fs,s.words.set L w⟩))) o14);generalize Sta.mk (s.rooms.set i r.p) fs (s.words.set L w)=x at st q
 ac_rfl
 refine⟨h,x,i,k,hd,r,rfl,hh,st,hi,hk,?_⟩;have no:¬zga h s i r x->Dd.nx (stAh h s F i hd k r (some (.own [.int (L:Nat)])) o8 o9 (some (.im (wD w))) (some (.im (.tuple (fs.map nD)))) (some (.im (.tuple ((s.words.set L w).map wD)))) (some (.im (zag x))) (some (.im (optS (zca x i r))))):=λz=>q F _ _ _ (λu=>⟨.inl,λy=>y.elim id λ⟨e,g⟩=>absurd (e ▸ g) z⟩) (by lia)
 cases e:zca x i r with
 | none=>
   rw[e] at no
   ac_rfl
   exact no λ⟨y,ey,_⟩=>by rw[e] at ey;cases ey
 | some y=>
   rw[e] at no;obtain⟨y1,y2,y3,y4⟩:=z1a lo st de e;have h2:=ho.h2;have f2:=ho.f2;have l2:=ho.l2;refine⟨zcr y,?_⟩
   ac_rfl
   refine⟨⟨by lia,by lia,by lia,y4⟩,hs.w ho,by lia,_,rfl,?_⟩
   cases ab:abvB y s with
   | false=>
     ac_rfl
     refine no λ⟨z,ez,az⟩=>?_;rw[e] at ez;cases ez;rw[(zef (by lia)).mpr az] at ab;cases ab
   | true=>
     ac_rfl
     refine⟨zcr x,by rw[Qc];lia,?_⟩;have:=q (F ++ [x]) (some (.im (.tuple ((s.words.set L w).map wD)))) (some (.im (zag x))) (some (.im (zag y))) (λu=>?_) (by rw[Qq];exact Qh _)
     .unfold stAh at this;rw[Q7] at this;exact this
     .rw[Qv,Qb];refine jM Uz ⟨λe'=>⟨e',e' ▸ ⟨y,e,(zef (by lia)).mp ab⟩⟩,λz=>z.1⟩
theorem z6a{h:Hou}{s:Sta}{F:List Sta}{i k L:Nat}{hd:Hnd}{r:Rul}{fl:List (List Nat)}{Dd:DEnds}{o9 o10 o11 o12 o13 o14:Option DV}(ho:HoA h)(hs:StH h s)(h50:∀w∈s.words,w.length<=50)(hi:h.hands[i]? = some hd)(hk:hd.rs[k]? = some r)(hL:L<h.lines)(hf:∀f∈fl,f.length=h.flags)(f2:fl.length<=2)(lF:F.length<=800)
 (q:∀F' o10 o11 o12 o13 o14,(∀x,x∈F'↔x∈F\/((∃w∈zby h.ls (s.words.getD L []),∃fs∈fl,x=⟨s.rooms.set i r.p,fs,s.words.set L w⟩)/\zga h s i r x))->F'.length<=F.length+12->Dd.nx (stAh h s F' i hd k r (some (.own [.int (L:Nat)])) (some (.im (.list (fl.map λf=>.tuple (f.map nD))))) o9 o10 o11 o12 o13 o14)) :
 wdAh Dd (stAh h s F i hd k r (some (.own [.int (L:Nat)])) (some (.im (.list (fl.map λf=>.tuple (f.map nD))))) o9 o10 o11 o12 o13 o14):=by
 have sz:=Ts;have lo:=zdh ho.ok.low;have s3:=ho.s3;have lw:L<s.words.length:=by rw[hs.words];exact hL
 have mw:=zb5 (z:=([]:List Nat)) lw;have w50:=h50 _ mw;have wlo:=(hs.sml _ mw).2;unfold wdAh
 (repeat first|refine⟨_,zar (f:=wD) (zao (z:=[]) lw),?_⟩|refine⟨zar (f:=wD) (zao (z:=[]) lw),?_⟩|infer_instance)
 refine⟨by lia,lo,by lia,wlo,λws nd hm=>?_⟩
 have l6:ws.length<=6:=by
  have:ws.length<=(zby h.ls (s.words.getD L [])).length:=len_nd nd λv hv=>(hm v).mp hv;unfold zby at this;simp at this;lia
 have m6:∀c,c<=ws.length->c * 2<=12:=λc hc=>by lia
 refine⟨_,rfl,rfl,?_⟩;refine zay (λc ρ=>∃F' o10 o11 o12 o13 o14,(∀x,x∈F'↔x∈F\/((∃w∈ws.take c,∃fs∈fl,x=⟨s.rooms.set i r.p,fs,s.words.set L w⟩)/\zga h s i r x))/\F'.length<=F.length+c * 2/\ρ=stAh h s F' i hd k r (some (.own [.int (L:Nat)])) (some (.im (.list (fl.map λf=>.tuple (f.map nD))))) o9 o10 o11 o12 o13 o14) ⟨F,_,_,_,_,_,λx=>⟨.inl,λz=>z.elim id λ⟨⟨w,hw,_⟩,_⟩=>absurd hw Q4⟩,Qh _,rfl⟩ (λρ hρ=>?_) λc d ρ N hd' nx hρ=>?_
 .obtain⟨F',o10,o11,o12,o13,o14,mF,lF',rfl⟩:=hρ;rw[Qc] at lF';rw[Qc,Zh] at mF;refine q F' _ _ _ _ _ (λx=>(mF x).trans ?_) (by have:=m6 ws.length (Qh _);lia);refine jM Uz (and_congr ⟨λ⟨w,hw,z⟩=>⟨w,(hm w).mp hw,z⟩,λ⟨w,hw,z⟩=>⟨w,(hm w).mpr hw,z⟩⟩ Uz)
 .obtain⟨F',o10,o11,o12,o13,o14,mF,lF',rfl⟩:=hρ;rw[Qj] at hd';obtain⟨w,hw,rfl⟩:=Qw.mp hd';have hc:=(Qi.mp hw).1;have wk:=zqi lo w50 wlo ((hm w).mp (Qn hw));refine⟨rfl,?_⟩;refine⟨_,rfl,?_⟩;refine zay (λe ρ=>∃G o11 o12 o13 o14,(∀x,x∈G↔x∈F'\/((∃fs∈fl.take e,x=⟨s.rooms.set i r.p,fs,s.words.set L w⟩)/\zga h s i r x))/\G.length<=F'.length+e/\ρ=stAh h s G i hd k r (some (.own [.int (L:Nat)])) (some (.im (.list (fl.map λf=>.tuple (f.map nD))))) o9 (some (.im (wD w))) o11 o12 o13 o14) ⟨F',_,_,_,_,λx=>⟨.inl,λz=>z.elim id λ⟨⟨f,hf',_⟩,_⟩=>absurd hf' Q4⟩,Qh _,rfl⟩ (λρ hρ=>?_) λe d ρ N2 hd2 nx2 hρ=>?_
  .obtain⟨G,o11,o12,o13,o14,mG,lG,rfl⟩:=hρ;rw[Qc] at lG;rw[Qc,Zh] at mG;refine nx _ ⟨G,_,_,_,_,_,λx=>?_,by lia,rfl⟩;rw[mG,mF,Zz,hw,or_assoc];refine jM Uz ⟨?_,?_⟩
   .rintro(⟨⟨v,hv,z⟩,g⟩|⟨z,g⟩)
    .exact⟨⟨v,QR _ hv,z⟩,g⟩
    .exact⟨⟨w,Q9 _ (Qb.mpr rfl),z⟩,g⟩
   .rintro⟨⟨v,hv,z⟩,g⟩;rcases Qv.mp hv with hv|hv
    .exact .inl ⟨⟨v,hv,z⟩,g⟩
    .obtain rfl:v=w:=Qb.mp hv;exact .inr ⟨z,g⟩
  .obtain⟨G,o11,o12,o13,o14,mG,lG,rfl⟩:=hρ;rw[Qj] at hd2;obtain⟨f,hf',rfl⟩:=Qw.mp hd2;have he:=(Qi.mp hf').1;refine⟨zan (λ_=>rfl) _,?_⟩;have:=m6 (c+1) hc;refine z6b ho hs hi hk hL ⟨by lia,wk.2⟩ (hf f (Qn hf')) (by lia) λG' p12 p13 p14 mG' lG'=>?_;refine nx2 _ ⟨G',_,_,_,_,λx=>?_,by lia,rfl⟩;rw[mG',mG,Zz,hf',or_assoc];refine jM Uz ⟨?_,?_⟩
   .rintro(⟨⟨v,hv,z⟩,g⟩|⟨z,g⟩)
    .exact⟨⟨v,QR _ hv,z⟩,g⟩
    .exact⟨⟨f,Q9 _ (Qb.mpr rfl),z⟩,g⟩
   .rintro⟨⟨v,hv,z⟩,g⟩;rcases Qv.mp hv with hv|hv
    .exact .inl ⟨⟨v,hv,z⟩,g⟩
    .obtain rfl:v=f:=Qb.mp hv;exact .inr ⟨z,g⟩
section
variable {P:Tr}{w:Tt}{K:Qa}{mg:Str->Option Tn}{base:Heap}{k:Nat}
abbrev zkb:Stmt:=top 26
theorem zxz:FnScope ["_law_house_here", "_law_asked", "_law_found", "_law_hand", "_law_own", "_law_k", "_law_rule", "_law_lines", "_law_flags", "_law_at", "_law_word", "_law_some", "_law_words", "_law_one", "_law_later"] ["_law_house_here", "_law_asked"] (zai zkb):=⟨rfl,rfl,rfl,by decide +kernel,rfl,by decide +kernel,by decide +kernel⟩
theorem ze0(B:Blt mg)(zcv:Def3 P w K mg base 2 "_law_above" ["_law_one", "_law_other"] (spO K (λ_=>True) 2 abvF))(ze3:Def3 P w K mg base 3 "_law_least" ["_law_standings"] (spO K (λ_=>True) 1 zpy))(zgj:Def3 P w K mg base 1 "_law_done" ["_law_house_here", "_law_standing_here", "_law_hand", "_law_k"] (spO K (λ_=>True) 4 zmv))(zc2:Def3 P w K mg base 1 "_law_near_words" ["_law_word", "_law_letters"] (spO K (λ_=>True) 2 zm1))(T:Top3 K mg "_law_ahead" zkb):Def3 P w K mg base 4 "_law_ahead" ["_law_house_here", "_law_asked"] (spO K (λ_=>True) 2 zph):=by
 refine mk_O T zxz (λ_ _ _ _ _ _ us hl=>len2 hl λ_ _=>rfl) rfl λf cdv A outer s H E O hφ C=>⟨_,(zaf (zat 2 (zbe zac)) (zaf (zbz C (zb6 (zhl C B (zah C (zab 0) zad))) (zgl (h:=1000) C (zaq 3 (zaq 4 zcp))) (zaj (zbz C (zb6 (zhl C B (zah C (zab 4) zad))) (zgl (h:=1000) C (zaq 5 (zaq 6 zcp))) (zaf (zuw 7 8 C (zbe (zaa zad zac)) (zbe (zaa (zah C (zab 1) zad) zac))) (zaf (s_if (t_in C (zah C (zah C (zab 6) zad) zad) (za1 (zaa zaz (zaa zaz (zaa zaz zac))))) (zaj (zat 7 (zbe (zaa (zah C (zah C (zab 6) zad) zad) zac)))) za4) (zaf (s_if (t_eq C (zah C (zah C (zab 6) zad) zad) zaz) (zaf (zat 9 (zah C (zah C (zab 6) zad) zad)) (zaj (z3a 8 1 ["_law_value", "_law_house_here", "_law_asked", "_law_found", "_law_hand", "_law_own", "_law_k", "_law_rule", "_law_lines", "_law_flags", "_law_at", "_law_word", "_law_some", "_law_words", "_law_one", "_law_later"] C (λ_=>.of rfl (by kernel_rfl)) (zrq C (za1 (zaa zad (zaa zad zac)))) (za9 0) zd3 (zas (C.comp _ _) (zas (C.comp _ _) (za2 (C.comp _ _) (zah (C.comp _ _) (zab 2) zad) za8 (zba (zab 10))) (za1 (zaa (zab 0) zac))) (za2 (C.comp _ _) (zah (C.comp _ _) (zab 2) zad) (zba (zas (C.comp _ _) (zab 10) zad)) za8))))) za4) (zaj (z6i 8 (zbz C (zb6 (zdt C (zbf C zc2 (λ_=>trivial) (zaa (zah C (zah C (zab 1) zad) (zah C (zab 7) zad)) (zaa (zah C (zab 0) zad) zac))))) (za9 (h:=1000) 10) (zaj (zbz C (zyb C 8) (za9 (h:=1000) 11) (zaf (zat 12 (zas C (zas C (za2 C (zah C (zab 1) zad) za8 (zba (zah C (zab 7) zad))) (za1 (zaa (zab 10) zac))) (za2 C (zah C (zab 1) zad) (zba (zas C (zah C (zab 7) zad) zad)) za8))) (zaf (zat 13 (za1 (zaa (zas C (zas C (za2 C (zah C (zab 1) zad) za8 (zba (zab 3))) (za1 (zaa (zah C (zab 6) zad) zac))) (za2 C (zah C (zab 1) zad) (zba (zas C (zab 3) zad)) za8)) (zaa (zab 11) (zaa (zab 12) zac))))) (zaf (zat 14 (zbf C zgj (λ_=>trivial) (zaa (zab 0) (zaa (zab 13) (zaa (zab 3) (zaa (zab 5) zac)))))) (zaj (s_if (t_w (zgk (zzx (zab 14) zhj) (zei (zjg (zbf C zcv (λ_=>trivial) (zaa (zab 14) (zaa (zab 1) zac))))))) (zaj (zer 2 C (zab 13))) za4)))))))))))))))) (zaj (zav (zbf C ze3 (λ_=>trivial) (zaa (zab 2) zac)))))),λds Qr hn q=>?_⟩;obtain⟨h,s,rfl,ho,hs,h50,q⟩:=q;have sz:=Ts;have lo:=zdh ho.ok.low;have l1:=ho.l1;have h2:=ho.h2
 ac_rfl
 refine⟨zan (λx=>zct x) _,rfl,?_⟩;rw[zf2];refine zay (λa ρ=>∃(F:List Sta) (o3 o4 o5 o6 o7 o8 o9 o10 o11 o12 o13 o14:Option DV),(∀x,x∈F↔∃p∈h.hands.zipIdx.take a,∃e∈p.1.rs.zipIdx,Trd h.ls s p.2 e.1 x/\zga h s p.2 e.1 x)/\F.length<=a * 60/\ρ = [some (.im (zbc h)),some (.im (zag s)),some (.own (F.map zag)),o3,o4,o5,o6,o7,o8,o9,o10,o11,o12,o13,o14]) ⟨[],none,none,none,none,none,none,none,none,none,none,none,none,λx=>⟨λz=>absurd z Q4,λ⟨p,hp,_⟩=>absurd hp Q4⟩,QE _,rfl⟩ (λρ hρ=>?_) λa d ρ N hd nx hρ=>?_
 .obtain⟨F,o3,o4,o5,o6,o7,o8,o9,o10,o11,o12,o13,o14,mF,lF,rfl⟩:=hρ;rw[Qc,ZH] at lF;rw[Qc,Zh] at mF
  have mL:∀x,x∈F↔LawA h s x:=λx=>by
   rw[mF];unfold LawA;constructor
   .rintro⟨⟨hd,i⟩,m,⟨r,k⟩,m',t,g⟩;exact⟨i,hd,k,r,QB.mp m,QB.mp m',t,g⟩
   .rintro⟨i,hd,k,r,m,m',t,g⟩;exact⟨(hd,i),QB.mpr m,(r,k),QB.mpr m',t,g⟩
  ac_rfl
  refine⟨F,h.lines,rfl,l1,λx hx=>?_,by lia,λys nd hy=>z2c ho hs nd λy m=>(mL y).mp (hy y m),λzs hz=>?_⟩
  .obtain⟨i,hd,k,r,m,m',⟨w,hw,fs,hfs,rfl⟩,g⟩:=(mL x).mp hx;obtain⟨_,de⟩:=zch ho.ok m m';have f2:=ho.f2;have l2:=ho.l2;have ro:=hs.rooms;have fl:=hs.flags;have wo:=hs.words;have ln:zbh r.d<h.lines:=zkf l1 de;have mw:=zb5 (z:=([]:List Nat)) (show zbh r.d<s.words.length by rw[wo];exact ln);refine⟨⟨by rw[Q1];lia,by rw[zg6.2 fs hfs];lia,by rw[Q1];lia,λv hv=>?_⟩,by rw[Q1];exact wo⟩;rcases ZE hv with hv|rfl
   .exact⟨by have:=h50 v hv;lia,(hs.sml v hv).2⟩
   .have:=zqi lo (h50 _ mw) (hs.sml _ mw).2 hw;exact⟨by lia,this.2⟩
  .refine q zs ⟨λx=>(hz.1 x).trans ?_,hz.2⟩;unfold zcw;exact and_congr (mL x) ⟨λz y m=>z y ((mL y).mpr m),λz y m=>z y ((mL y).mp m)⟩
 .obtain⟨F,o3,o4,o5,o6,o7,o8,o9,o10,o11,o12,o13,o14,mF,lF,rfl⟩:=hρ;rw[Qj] at hd;obtain⟨⟨x,i⟩,hx,rfl⟩:=Qw.mp hd;have hx':=QB.mp (Qn hx)
  have la:a<2:=by
   have:=(Qi.mp hx).1;rw[ZH] at this;lia
  have mx:=Qn hx';have r5:=ho.r5 x mx;refine⟨by simp[flat,flats];exact zct x,?_⟩
  ac_rfl
  refine⟨zan (λx=>zc5 x) _,rfl,?_⟩;rw[zf2];refine zay (λb ρ=>∃(G:List Sta) (o5 o6 o7 o8 o9 o10 o11 o12 o13 o14:Option DV),(∀y,y∈G↔y∈F\/∃e∈x.rs.zipIdx.take b,Trd h.ls s i e.1 y/\zga h s i e.1 y)/\G.length<=F.length+b * 12/\ρ = [some (.im (zbc h)),some (.im (zag s)),some (.own (G.map zag)),some (.im (.int (i:Nat))),some (.im (zbl x)),o5,o6,o7,o8,o9,o10,o11,o12,o13,o14]) ⟨F,_,_,_,_,_,_,_,_,_,_,λy=>⟨.inl,λz=>z.elim id λ⟨p,hp,_⟩=>absurd hp Q4⟩,Qh _,rfl⟩ (λρ hρ=>?_) λb d ρ N2 hd2 nx2 hρ=>?_
  .obtain⟨G,o5,o6,o7,o8,o9,o10,o11,o12,o13,o14,mG,lG,rfl⟩:=hρ;rw[Qc,ZH] at lG;have lG:G.length<=F.length+x.rs.length * 12:=lG;rw[Qc,Zh] at mG;refine nx _ ⟨G,_,_,_,_,_,_,_,_,_,_,_,_,λy=>?_,by lia,rfl⟩;rw[mG,mF,Zz,hx];constructor
   .rintro(⟨p,hp,z⟩|z)
    .exact⟨p,QR _ hp,z⟩
    .exact⟨(x,i),Q9 _ (Qb.mpr rfl),z⟩
   .rintro⟨p,hp,z⟩;rcases Qv.mp hp with hp|hp
    .exact .inl ⟨p,hp,z⟩
    .rw[Qb.mp hp] at z;exact .inr z
  .obtain⟨G,o5,o6,o7,o8,o9,o10,o11,o12,o13,o14,mG,lG,rfl⟩:=hρ;rw[Qj] at hd2;obtain⟨⟨r,k⟩,hr,rfl⟩:=Qw.mp hd2;have hr':=QB.mp (Qn hr)
   have lb:b<5:=by
    have:=(Qi.mp hr).1;rw[ZH] at this;have this:b<x.rs.length:=this;lia
   obtain⟨il,de⟩:=zch ho.ok hx' hr';have fl:=hs.flags
   have rest:∀(Dd:DEnds) (o9 o10 o11 o12 o13 o14:Option DV),Dd.nx=N2->disS 8 wdAh Dd (stAh h s G i x k r (some (.own [.int (zbh r.d:Nat)])) (some (.own ((zgz s.flags r.d).map λf=>.tuple (f.map nD)))) o9 o10 o11 o12 o13 o14):=by
    intro Dd o9 o10 o11 o12 o13 o14 eD;refine .inr ⟨_,rfl,?_⟩;refine z6a ho hs h50 hx' hr' (zkf l1 de) (λf hf=>(zg6.2 f hf).trans fl) zg6.1 (by lia) λG' p10 p11 p12 p13 p14 mG' lG'=>?_;rw[eD];refine nx2 _ ⟨G',_,_,_,_,_,_,_,_,_,_,λy=>?_,by lia,rfl⟩;rw[mG',mG,Zz,hr,or_assoc];refine jM Uz ⟨?_,?_⟩
    .rintro(⟨p,hp,z⟩|⟨⟨w,hw,fs,hfs,e⟩,g⟩)
     .exact⟨p,QR _ hp,z⟩
     .exact⟨(r,k),Q9 _ (Qb.mpr rfl),⟨w,hw,fs,hfs,e⟩,g⟩
    .rintro⟨p,hp,z⟩;rcases Qv.mp hp with hp|hp
     .exact .inl ⟨p,hp,z⟩
     .rw[Qb.mp hp] at z;exact .inr z
   refine⟨by simp[flat,flats];exact zc5 r,?_⟩
   ac_rfl
   have ff:flats [.tuple (s.flags.map nD)]=true:=by simp only[flats,flat,U8];exact zan (λ_=>rfl) _
   refine⟨ff,?_⟩;show seqD _ _ _ (stAh h s G i x k r (some (.own [.int 0])) (some (.own [.tuple (s.flags.map nD)])) o9 o10 o11 o12 o13 o14);obtain⟨p,d,g⟩:=r
   cases d with
   | go=>
     ac_rfl
     exact rest _ _ _ _ _ _ _ rfl
   | send l c=>
     ac_rfl
     exact rest _ _ _ _ _ _ _ rfl
   | take l c=>
     ac_rfl
     exact rest _ _ _ _ _ _ _ rfl
   | empty l=>
     ac_rfl
     exact rest _ _ _ _ _ _ _ rfl
   | put f v=>
     have lf:f<s.flags.length:=by rw[fl];exact de.1
     have m3:=ho.ok.flags;obtain⟨a1,a2⟩:=zhr (f:=nD) (v:=0) lf (by lia);obtain⟨b1,b2⟩:=zhr (f:=nD) (v:=1) lf (by lia)
     (repeat first|refine⟨_,a1,?_⟩|refine⟨a1,?_⟩|refine⟨_,a2,?_⟩|refine⟨a2,?_⟩|refine⟨_,b1,?_⟩|refine⟨b1,?_⟩|refine⟨_,b2,?_⟩|refine⟨b2,?_⟩|infer_instance)
     have f2:flats [.tuple ((s.flags.set f 0).map nD),.tuple ((s.flags.set f 1).map nD)]=true:=by simp only[flats,flat,U8,Qx];exact⟨zan (λ_=>rfl) _,zan (λ_=>rfl) _⟩
     refine⟨f2,?_⟩;exact rest _ _ _ _ _ _ _ rfl
   | test f v=>
     ac_rfl
     exact rest _ _ _ _ _ _ _ rfl
end
section
variable {P:Tr}{w:Tt}{K:Qa}{mg:Str->Option Tn}{base:Heap}{k:Nat}
abbrev ze9:Stmt:=top 27
theorem zmz:FnScope ["_law_deal_here", "_law_house_here", "_law_hands", "_law_at", "_law_rooms", "_law_rules", "_law_k", "_law_rule"] ["_law_deal_here", "_law_house_here"] (zai ze9):=⟨rfl,rfl,rfl,by decide +kernel,rfl,by decide +kernel,by decide +kernel⟩
theorem zc3(B:Blt mg)(d_law_draw:zl1 P w K mg base)(T:Top3 K mg "_law_near_house" ze9):Def3 P w K mg base 2 "_law_near_house" ["_law_deal_here", "_law_house_here"] (spD K IsDeal 1 zvs):=by
 refine mk_D T zmz (λ_ _ _ _ _ _ us hl=>len2 hl λ_ _=>rfl) rfl λf cdv A outer s H E O hφ C=>?_;have hO:∀j:Unit,IsDeal ((λ_:Unit=>O) j):=λ_=>hφ;refine⟨_,(zaf (zat 2 (zhh C B (zaa (zah C (zab 1) zad) zac))) (zaf (zat 3 (zap 0 C d_law_draw hO (zaa (zdq C B (zaa (zab 2) zac)) zac))) (zaf (zit (h:=1000) C (zah C (zab 2) (zab 3)) (zaq 4 (zaq 5 zcp))) (zaf (zat 6 (zap 0 C d_law_draw hO (zaa (z3u C B (zaa (zas C (zdq C B (zaa (zab 5) zac)) zad) (zaa zad zac))) zac))) (zaf (zat 7 (za1 (zaa (zap 0 C d_law_draw hO (zaa (zab 4) zac)) (zaa (za1 (zaa zaz (zaa (zap 0 C d_law_draw hO (zaa (zah C (zab 1) zad) zac)) (zaa (zah C (zah C (zab 1) zad) zad) zac)))) (zaa (zap 0 C d_law_draw hO (zaa (zab 4) zac)) zac))))) (zaf (zat 5 (zas C (zas C (za2 C (zab 5) za8 (zba (zab 6))) (za1 (zaa (zab 7) zac))) (za2 C (zab 5) (zba (zas C (zab 6) zad)) za8))) (zaf (zl2 2 C (za1 (zaa (zab 4) (zaa (zab 5) zac))) (zab 3)) (zaj (zav (zas C (za2 C (zab 1) za8 (zba zad)) (za1 (zaa (zcs C B (zaa (zab 2) zac)) zac)))))))))))),λds Qr hn q=>?_⟩;obtain⟨h,rfl,ho,q⟩:=q;have sz:=Ts;have hh:=ho.ok;have h1:=ho.h1;have h2:=ho.h2;have l1:=ho.l1;have l2:=ho.l2;have s3:=ho.s3;have ne:=hh.ne;have lp:=Vg.mpr ne
 ac_rfl
 refine⟨zan (λx=>zct x) _,?_⟩
 ac_rfl
 rw[Qc];refine⟨by lia,by lia,λk k0 k1=>?_⟩;obtain⟨a,rfl⟩:=Q6 k0;have ha:a<h.hands.length:=by lia
 have ha':=Qg ha;have mx:=QT ha;generalize h.hands[a]=x at ha' mx;have r5:=ho.r5 x mx;have n3:=ho.n3 x mx;have n0:=hh.pos x mx
 (repeat first|refine⟨_,zcm (f:=zbl) ha',?_⟩|refine⟨zcm (f:=zbl) ha',?_⟩|infer_instance)
 refine⟨zct x,?_⟩;show seqD _ _ _ [some .ob,some (.im (zbc h)),some (.own (h.hands.map zbl)),some (.im (.int (a:Nat))),some (.im (.int (x.n:Nat))),some (.im (.tuple (x.rs.map zbi))),none,none]
 ac_rfl
 rw[Qc];refine⟨by split <;> lia,by split <;> lia,λk k0 k1=>?_⟩;obtain⟨y,rfl⟩:=Q6 k0;have hy:y<=x.rs.length/\y<=4:=by split at k1 <;> lia
 ac_rfl
 refine⟨by lia,by lia,λk k0 k1=>?_⟩;obtain⟨u,rfl⟩:=Q6 k0
 ac_rfl
 refine⟨by lia,by lia,λk k0 k1=>?_⟩;obtain⟨l,rfl⟩:=Q6 k0;have i0:idxF (.str (tx h.ls)) (.int 0)=some (.o (.str (tx [h.ls[0]]))):=zof (k:=0) lp (by lia)
 (repeat first|refine⟨_,i0,?_⟩|refine⟨i0,?_⟩|infer_instance)
 refine⟨by lia,by lia,λk k0 k1=>?_⟩;obtain⟨v,rfl⟩:=Q6 k0;have rl:(x.rs.map zbi).length<=1000:=by rw[Qc];lia
 have c1:=zeh (x.rs.map zbi) none (some (y:Int));have c2:=zeh (x.rs.map zbi) (some ((y:Int)+1)) none;have a1:addF (.tuple (cutL (x.rs.map zbi) none (some (y:Int)))) (.tuple [zbi ⟨u,.take l h.ls[0],v⟩])=some (.o (.tuple (cutL (x.rs.map zbi) none (some (y:Int)) ++ [zbi ⟨u,.take l h.ls[0],v⟩]))):=zcu (by rw[QA];lia)
 have a2:addF (.tuple (cutL (x.rs.map zbi) none (some (y:Int)) ++ [zbi ⟨u,.take l h.ls[0],v⟩])) (.tuple (cutL (x.rs.map zbi) (some ((y:Int)+1)) none))=some (.o (.tuple ((x.rs.take y ++ [(⟨u,.take l h.ls[0],v⟩:Rul)]++x.rs.drop (y+1)).map zbi))):=by
  rw[zcu (by rw[Qq,QA];lia),zfe,show((y:Int)+1)=((y+1:Nat):Int) from rfl,zf9,Q7,Q7,V9,U5];rfl
 (repeat first|refine⟨_,a1,?_⟩|refine⟨a1,?_⟩|refine⟨_,a2,?_⟩|refine⟨a2,?_⟩|infer_instance)
 refine⟨zan (λx=>zc5 x) _,?_⟩
 ac_rfl
 generalize hn:x.rs.take y ++ [(⟨u,.take l h.ls[0],v⟩:Rul)]++x.rs.drop (y+1)=nrs
 have nl:nrs.length<=5:=by
  rw[<- hn,Qq,Qq,QX,Z8,QA];lia
 have nm:∀r∈nrs,(DeOk h.ls h.lines h.flags r.d/\r.p<=100/\r.q<=100)/\r.p<3/\r.q<3:=λr hr=>by
  rw[<- hn] at hr;rcases Qv.mp hr with hr|hr
  .rcases Qv.mp hr with hr|hr
   .exact⟨(hh.rules x mx).2 r (JK hr),ho.rp x mx r (JK hr)⟩
   .rw[Qb.mp hr];exact⟨⟨⟨by lia,QT lp⟩,by show u<=100;lia,by show v<=100;lia⟩,by show u<3;lia,by show v<3;lia⟩
  .exact⟨(hh.rules x mx).2 r (YY hr),ho.rp x mx r (YY hr)⟩
 refine⟨by rw[Qc];exact ha,zct ⟨x.n,nrs⟩,?_⟩;have es:(h.hands.map zbl).set a (zbl ⟨x.n,nrs⟩)=(h.hands.set a ⟨x.n,nrs⟩).map zbl:=JF.symm
 have a3:addF (.tuple [.str (tx h.ls),.int (h.lines:Nat),.int (h.flags:Nat)]) (.tuple [.tuple ((h.hands.map zbl).set a (zbl ⟨x.n,nrs⟩))])=some (.o (zbc ⟨h.ls,h.lines,h.flags,h.hands.set a ⟨x.n,nrs⟩⟩)):=by
  rw[es,zcu (by simp)];rfl
 (repeat first|refine⟨_,a3,?_⟩|refine⟨a3,?_⟩|infer_instance)
 have ms:∀z∈h.hands.set a ⟨x.n,nrs⟩,z∈h.hands\/z=⟨x.n,nrs⟩:=λz hz=>ZE hz;refine q ⟨h.ls,h.lines,h.flags,h.hands.set a ⟨x.n,nrs⟩⟩ ⟨⟨hh.low,hh.ne,hh.short,hh.lines,hh.flags,by rw[Q1];exact hh.many,λz hz=>?_,λz hz=>?_⟩,l1,l2,ho.f2,by rw[Q1];exact h1,by rw[Q1];exact h2,λz hz=>?_,λz hz=>?_,s3,λz hz=>?_⟩ Q1 rfl rfl
 .rcases ms z hz with hz|rfl
  .exact hh.pos z hz
  .exact n0
 .rcases ms z hz with hz|rfl
  .exact hh.rules z hz
  .exact⟨by show nrs.length<=100;lia,λr hr=>(nm r hr).1⟩
 .rcases ms z hz with hz|rfl
  .exact ho.r5 z hz
  .exact nl
 .rcases ms z hz with hz|rfl
  .exact ho.n3 z hz
  .exact n3
 .rcases ms z hz with hz|rfl
  .exact ho.rp z hz
  .exact λr hr=>(nm r hr).2
end
abbrev HS:=Hou×Sta
def zbx(p:HS):Tl:=.tuple [zbc p.1,zag p.2]
structure HSok(p:HS):Prop where
 ho:HoA p.1
 st:StH p.1 p.2
 w4:∀w∈p.2.words,w.length<=4
 num:∀m∈p.2.rooms++p.2.flags,m<1000
theorem zkg(p:HS):flat (zbx p)=true:=by
 unfold zbx;simp only[flat,flats,U8,Qx];exact⟨zj3 p.1,zcr p.2⟩
section
variable {P:Tr}{w:Tt}{K:Qa}{mg:Str->Option Tn}{base:Heap}{k:Nat}
abbrev sLaw:Stmt:=top 28
theorem z7f:FnScope ["_law_script", "_law_deal_here", "_law_asked", "_law_k", "_law_house_here", "_law_standing_here", "_law_found"] ["_law_script"] (zai sLaw):=⟨rfl,rfl,rfl,by decide +kernel,rfl,by decide +kernel,by decide +kernel⟩
theorem z4o(B:Blt mg)(zfy:Def3 P w K mg base 6 "ahead_of" ["house", "standing"] (spO K (λ_=>True) 2 zp1))(d_law_deal:Def3 P w K mg base 1 "_law_deal" ["_law_script", "_law_base"] (zjk K))(d_law_draw:zl1 P w K mg base)(ze4:Def3 P w K mg base 2 "_law_house" ["_law_deal_here"] (spD K IsDeal 0 zqm))(zdn:Def3 P w K mg base 2 "_law_standing" ["_law_deal_here", "_law_house_here", "_law_most"] (spD K IsDeal 2 zpu))(ze0:Def3 P w K mg base 4 "_law_ahead" ["_law_house_here", "_law_asked"] (spO K (λ_=>True) 2 zph))(zc3:Def3 P w K mg base 2 "_law_near_house" ["_law_deal_here", "_law_house_here"] (spD K IsDeal 1 zvs))(Fu:Fun K "law" "law" sLaw f₁ fd₁):FnOk P w K mg base CX0 7 f₁ fd₁ ["_law_script"] (zjf K):=by
 refine zzm (k:=6) Fu z7f rfl (λf cdv A outer s H E C=>?_) (λf cdv A outer s H E C=>?_)
 .obtain⟨fP,fdP,G,mP,kpP,bnP⟩:=d_law_deal.ex;exact zdi (i:=1) (jB (by kernel_rfl)) rfl (by first|exact Or.inl rfl|exact Or.inr rfl) (zfg (k:=6) (G.mono (by decide)) (C.room ()) rfl mP kpP bnP .nil zix (za3 (zam (i:=0) rfl (by first|exact Or.inl rfl|exact Or.inr (Or.inl rfl)|exact Or.inr (Or.inr rfl))) (za3 za5 zbs)))
 .have hO:∀j:Addr×Addr,IsDeal ((λj:Addr×Addr=>ziz j.1 j.2) j):=λj=>ztk _ _;refine⟨_,(zaf (zat 2 (zbe zac)) (zaf (zbz C (zb6 (i_r1 C B (zaa (zas C zad (zap 1 C d_law_draw hO (zaa zad zac))) zac))) (za9 (h:=1000) 3) (zaf (zat 4 (zap 1 C ze4 hO zac)) (zaj (z6h 2 C (zcx 1 ["_law_turn", "_law_script", "_law_deal_here", "_law_asked", "_law_k", "_law_house_here", "_law_standing_here", "_law_found"] C (λ_=>.of rfl (by kernel_rfl)) (i_r1 C B (zaa zad zac)) (za9 0) zd3 (za1 (zaa (zab 5) (zaa (zap 2 (C.comp _ _) zdn (upD hO) (zaa (zab 5) (zaa zad zac))) zac)))))))) (zaf (zer 2 C (za1 (zaa (zap 1 C zc3 hO (zaa (zah C (zah C (zab 2) zl4) zad) zac)) (zaa (zah C (zah C (zab 2) zl4) zad) zac)))) (zaf (zbz C (zb6 (zdt C (zas C (zab 2) (za2 C (zab 2) za8 (zba zad))))) (zgl (h:=1000) C (zaq 4 (zaq 5 zcp))) (zaf (zat 6 (zbf C zfy (λ_=>trivial) (zaa (zab 4) (zaa (zab 5) zac)))) (zaf (s_if (t_ne C (zua C B (zaa (zab 6) zac)) (zua C B (zaa (zbf C ze0 (λ_=>trivial) (zaa (zab 4) (zaa (zab 5) zac))) zac))) (zaj (zav e_bl)) za4) (zaj (z1q 6 C))))) (zaj (zav e_bl)))))),?_⟩;have sz:=Ts;refine⟨QE _,rfl,?_⟩;refine zuo rfl (by decide) (by decide) λa ha=>⟨_,rfl,_,rfl,by lia,by lia,rfl,?_⟩;refine zay (λj ρ=>∃(ps:List HS) (o3 o4 o5 o6:Option DV),ps.length=j * 2/\(∀p∈ps,HSok p)/\ρ = [none,some .ob,some (.own (ps.map zbx)),o3,o4,o5,o6]) ⟨[],none,none,none,none,rfl,λp hp=>absurd hp Q4,rfl⟩ (λρ hρ=>?_) λj d ρ N hd nx hρ=>?_
  .obtain⟨ps,o3,o4,o5,o6,pl,pk,rfl⟩:=hρ;rw[zey] at pl
   obtain⟨qs,l,rfl⟩:∃qs l,ps=qs ++ [l]:=by
    rcases List.eq_nil_or_concat ps with e|⟨qs,l,e⟩
    .rw[e,Jj] at pl;lia
    .exact⟨qs,l,by rw[e,List.concat_eq_append]⟩
   have kl:=pk l (by simp);have il:idxF (.list ((qs ++ [l]).map zbx)) (.int (-1))=some (.o (zbx l)):=zud;refine⟨_,rfl,rfl,_,_,rfl,rfl,_,il,_,rfl,rfl,l.1,rfl,kl.ho,λh' ho' e1 e2 e3=>?_⟩;have hl:HSok (h',l.2):=⟨ho',⟨kl.st.rooms.trans e1.symm,kl.st.flags.trans e2.symm,kl.st.words.trans e3.symm,kl.st.sml⟩,kl.w4,kl.num⟩;have sz2:=Ts;have pl2:(qs ++ [l]).length<=10:=by lia
   refine⟨_,_,rfl,rfl,_,il,_,rfl,by show 2<=sizeLine;lia,zkg (h',l.2),by rw[Qc];lia,?_⟩
   have pk2:∀p∈qs ++ [l] ++ [(h',l.2)],HSok p:=λp hp=>by
    rcases Qv.mp hp with hp|hp
    .exact pk p hp
    .rw[Qb.mp hp];exact hl
   have em:(qs ++ [l]).map zbx ++ [zbx (h',l.2)]=(qs ++ [l] ++ [(h',l.2)]).map zbx:=by rw[Q7 (l₁:=qs ++ [l])];rfl
   show seqD _ _ _ [none,some .ob,some (.own ((qs ++ [l]).map zbx ++ [zbx (h',l.2)])),o3,o4,o5,o6];rw[em];have rl:(qs ++ [l] ++ [(h',l.2)]).length<=11:=by rw[Qq];simp at pl2 ⊢;lia
   generalize qs ++ [l] ++ [(h',l.2)]=rs at pk2 rl
   have ad:addF (.list (rs.map zbx)) (.list ((rs.take 2).map zbx))=some (.n ((rs++rs.take 2).map zbx)):=by
    rw[zp9 (by rw[Qc,Qc,QX];lia),Q7]
   have s2:slcF none (some 2) (.list (rs.map zbx))=some (.n ((rs.take 2).map zbx)):=by
    show some (R.n (cutL (rs.map zbx) none (some ((2:Nat):Int))))=_;rw[zfe,V9]
   have pk3:∀p∈rs++rs.take 2,HSok p:=λp hp=>(Qv.mp hp).elim (pk2 p) λz=>pk2 p (JK z);refine⟨_,_,rfl,rfl,_,_,rfl,rfl,_,rfl,_,s2,_,ad,_,rfl,rfl,?_⟩;refine zay (λj ρ=>∃(o3 o4 o5 o6:Option DV),ρ = [none,some .ob,some (.own (rs.map zbx)),o3,o4,o5,o6]) ⟨_,_,_,_,rfl⟩ (λρ hρ=>?_) λj d ρ N hd nx hρ=>?_
   .obtain⟨o3,o4,o5,o6,rfl⟩:=hρ;exact rfl
   .obtain⟨o3,o4,o5,o6,rfl⟩:=hρ;rw[Qj] at hd;obtain⟨p,hp,rfl⟩:=Qw.mp hd;have kp:=pk3 p (Qn hp);refine⟨zkg p,?_⟩;refine⟨_,rfl,?_⟩;refine⟨_,_,rfl,rfl,_,_,rfl,rfl,rfl,p.1,p.2,rfl,kp.ho,kp.st,λzs hz=>⟨zan (λx=>zcr x) _,?_⟩⟩;obtain⟨x,rx,xo⟩:=zw9 kp.ho kp.st kp.num hz;refine⟨_,_,rfl,rfl,_,rx,_,_,rfl,rfl,_,_,rfl,rfl,rfl,p.1,p.2,rfl,kp.ho,kp.st,λw hw=>QY (kp.w4 w hw) (by decide),λys hy=>?_⟩;have hy2:LeastL (PrgA p.1 p.2) ys:=⟨λu=>(hy.1 u).trans (z0a kp.ho kp.st u).symm,hy.2⟩;obtain rfl:=hz.uniq hy2;refine⟨_,rx,_,z1y xo,_,rfl,?_⟩;exact⟨_,rfl,nx _ ⟨_,_,_,_,rfl⟩⟩
  .obtain⟨ps,o3,o4,o5,o6,pl,pk,rfl⟩:=hρ;obtain⟨hj,rfl⟩:=zdv hd;refine⟨rfl,?_⟩;refine⟨rfl,rfl,rfl,λh ho=>⟨zj3 h,?_⟩⟩;refine⟨_,rfl,_,rfl,by decide,by decide,?_⟩;refine zg3 (enc2:=zbx) (good:=HSok) (λx hx Py hPy=>?_) (by decide) λbs bk bl=>?_
   .refine⟨_,_,rfl,rfl,rfl,_,_,rfl,rfl,rfl,h,4,rfl,ho,by decide,λs hs w4 num=>⟨by show 2<=sizeLine;lia,?_⟩⟩;exact hPy (h,s) ⟨ho,hs,w4,num⟩
   .rw[QZ] at bl;refine⟨_,rfl,zan (λx=>zkg x) _,by rw[Qc,Qc];lia,nx _ ⟨ps++bs,_,_,_,_,by rw[Qq,pl,bl];show _+2=_;lia,λp hp=>(Qv.mp hp).elim (pk p) (bk p),by rw[Q7];rfl⟩⟩
end
def DIn(K:Qa)(x:Str)(st:Stmt):Prop:=∃(f:Addr) (od an:Option Addr) (sl:Array (Option Tn)) (oc kV dc pm cd ct:Tn),Zm K mainGlobals x=some (some (.ref f))/\K.lookup f=some ⟨oc,od,.func (Jd x x (zci st) (zbp st) (zai st) .none kV dc pm an cd ct),sl⟩/\Y5 K cd x=true/\Yi K (.ref f)=true
theorem din_mk{K:Qa}{x:Str}{st:Stmt}{f:Addr}{od an:Option Addr}{sl:Array (Option Tn)}{oc kV dc pm cd ct:Tn}(a:Zm K mainGlobals x=some (some (.ref f)))(l:K.lookup f=some ⟨oc,od,.func (Jd x x (zci st) (zbp st) (zai st) .none kV dc pm an cd ct),sl⟩)(c:Y5 K cd x=true)(k:Yi K (.ref f)=true):DIn K x st:=⟨f,od,an,sl,oc,kV,dc,pm,cd,ct,a,l,c,k⟩
theorem zaw{K:Qa}{x:Str}{st:Stmt}{h:Heap}{mg:Str->Option Tn}(X:K.In h)(G:h.Ns mainGlobals mg)(D:DIn K x st):Top3 K mg x st:=by obtain⟨f,_,_,_,_,_,_,_,_,_,a,l,c,k⟩:=D;exact⟨f,_,zug (st:=st) l c k,Td X G a⟩
theorem all_mk{l:VW}{w:Tt}{K:Qa}{h:Heap}{mg:Str->Option Tn}{fa:Addr}(X:K.In h)(G:h.Ns mainGlobals mg)(hfa:mg "law" = some (.ref fa))
 (D1:DIn K "places" zkd)
 (D2:DIn K "lies_under" zfr)
 (D3:DIn K "is_above" zij)
 (D4:DIn K "put_at" zmi)
 (D5:DIn K "flags_ahead" ze2)
 (D6:DIn K "words_ahead" zfa)
 (D7:DIn K "ahead_by" zih)
 (D8:DIn K "ways_ahead" zf5)
 (D9:DIn K "is_above_one" ze1)
 (D10:DIn K "letters_on_lines" zdd)
 (D11:DIn K "least_ones" zfo)
 (D12:DIn K "ahead_of" zie)
 (D13:DIn K "_law_deal" zrd)
 (D14:DIn K "_law_draw" zq8)
 (D15:DIn K "_law_house" zj7)
 (D16:DIn K "_law_standing" zf6)
 (D17:DIn K "_law_under" zj8)
 (D18:DIn K "_law_above" zkv)
 (D19:DIn K "_law_least" zkm)
 (D20:DIn K "_law_done" zm4)
 (D21:DIn K "_law_near_words" ze8)
 (D22:DIn K "_law_ahead" zkb)
 (D23:DIn K "_law_near_house" ze9)
 (D24:DIn K "law" sLaw)
 (z1:Zm K mainGlobals "len" = some none)
 (z2:Zm K mainGlobals "all" = some none)
 (z3:Zm K mainGlobals "any" = some none)
 (z4:Zm K mainGlobals "sorted" = some none)
 (z5:Zm K mainGlobals "min" = some none)
 (z6:Zm K mainGlobals "max" = some none)
 (z7:Zm K mainGlobals "repr" = some none)
 (z8:Zm K mainGlobals "int" = some none)
 (z9:Zm K mainGlobals "list" = some none)
 (z10:Zm K mainGlobals "tuple" = some none)
 (z11:Zm K mainGlobals "range" = some none)
 (z12:Zm K mainGlobals "set" = some none)
 (z13:Zm K mainGlobals "isinstance" = some none)
 (z14:Zm K mainGlobals "enumerate" = some none)
 (z15:Zm K mainGlobals "zip" = some none)
 (z16:Zm K mainGlobals "reversed" = some none)
 (z17:Zm K mainGlobals "str" = some none)
 (z18:Zm K mainGlobals "sum" = some none)
 (z19:Zm K mainGlobals "dict" = some none)
 (z20:Zm K mainGlobals "bool" = some none)
 : ∃fd:Mx,(∀(s:To) (v:Tn),jf s fd ⟨[v],[]⟩ [("_law_script",v)])/\∀base:Heap,K.In base->base.Ns mainGlobals mg->FnOk l.prog w K mg base CX0 7 fa fd ["_law_script"] (zjf K):=by
 have T1:=zaw X G D1;have T2:=zaw X G D2;have T3:=zaw X G D3;have T4:=zaw X G D4;have T5:=zaw X G D5;have T6:=zaw X G D6;have T7:=zaw X G D7;have T8:=zaw X G D8;have T9:=zaw X G D9;have T10:=zaw X G D10;have T11:=zaw X G D11;have T12:=zaw X G D12;have T13:=zaw X G D13;have T14:=zaw X G D14;have T15:=zaw X G D15;have T16:=zaw X G D16;have T17:=zaw X G D17;have T18:=zaw X G D18;have T19:=zaw X G D19;have T20:=zaw X G D20;have T21:=zaw X G D21;have T22:=zaw X G D22;have T23:=zaw X G D23;have T24:=zaw X G D24;have B:Blt mg:=⟨QM X G z1,QM X G z2,QM X G z3,QM X G z4,QM X G z5,QM X G z6,QM X G z7,QM X G z8,QM X G z9,QM X G z10,QM X G z11,QM X G z12,QM X G z13,QM X G z14,QM X G z15,QM X G z16,QM X G z17,QM X G z18,QM X G z19,QM X G z20⟩;obtain⟨f24,od24,an24,sl24,oc24,kV24,dc24,pm24,cd24,ct24,a24,l24,c24,k24⟩:=D24;have e:=hfa.symm.trans (Td X G a24);cases e;refine⟨Jd "law" "law" (zci sLaw) (zbp sLaw) (zai sLaw) .none kV24 dc24 pm24 an24 cd24 ct24,λs v=>.of_eq rfl,λbase _ _=>?_⟩;have e1:=zin (P:=l.prog) (w:=w) (base:=base) B T1;have e2:=zej B e1 T2;have e3:=zgc B e2 T3;have e4:=zcd (P:=l.prog) (w:=w) (base:=base) B T4;have e5:=zdy B e4 T5;have e6:=zdz B e4 T6;have e7:=zgd B e4 e5 e6 T7;have e8:=zed B e7 T8;have e9:=zdp B e3 T9;have e10:=zcn (P:=l.prog) (w:=w) (base:=base) B T10;have e11:=zen B e9 e10 T11;have e12:=zfy B e8 e11 T12;have e13:=d_law_deal (P:=l.prog) (w:=w) (base:=base) B T13;have e14:=d_law_draw (P:=l.prog) (w:=w) (base:=base) B T14;have e15:=ze4 B e14 T15;have e16:=zdn B e14 T16;have e17:=ze5 (P:=l.prog) (w:=w) (base:=base) B T17;have e18:=zcv B e17 T18;have e19:=ze3 B e18 T19;have e20:=zgj (P:=l.prog) (w:=w) (base:=base) B T20;have e21:=zc2 (P:=l.prog) (w:=w) (base:=base) B T21;have e22:=ze0 B e18 e19 e20 e21 T22;have e23:=zc3 B e14 T23;exact z4o B e12 e13 e14 e15 e16 e22 e23 (zug (st:=sLaw) l24 c24 k24)
theorem walk{l:VW}{q:Tr}{loose:List Str}{XP:(Str->Option Tn)->Heap->Prop}{YP:Tt->Heap->Prop}{d:DefRec}{K:Params->Qa}(hn:l.most=some 63)(hdf:d.params.defaults = [])
 (hY:∀(w:Tt) (h:Heap),YP w h->(K w.params).In h)
 (F:∀(w:Tt) (mg:Str->Option Tn) (fa:Addr) (h:Heap),(K w.params).In h->h.Ns mainGlobals mg->mg d.name=some (.ref fa) ->
  ∃fd:Mx,(∀(s:To) (u:Tn),jf s fd ⟨[u],[]⟩ [("_law_script",u)])/\∀base:Heap,(K w.params).In base->base.Ns mainGlobals mg->FnOk l.prog w (K w.params) mg base CX0 7 fa fd ["_law_script"] (zjf (K w.params))) :
 GX q loose XP YP l.row.toRowW d [] (λf vs=>GJ f vs) :=
 L2.walk_of (n:=63) (k:=7) (x := "_law_script") (CX:=λ_=>CX0) (sp:=λw=>zjf (K w.params)) hn (by decide) hdf ⟨rfl,by decide,by decide,rfl⟩ hY F (λ_ _ a ns hl _ hS=>⟨a,ns,rfl,hS,hl,λ_=>rfl⟩) λ_ _ _ _ _ z=>z
end L37
theorem PySem.W.Fast.tw10518242809113142449 : True := trivial
theorem PySem.W.Fast.tw4634817194761957529 : True := trivial
theorem PySem.W.Fast.tw12088672671176120027 : True := trivial
theorem PySem.W.Fast.tw1676171894137712332 : True := trivial
theorem PySem.W.Fast.tw2148716317076708347 : True := trivial
theorem PySem.W.Fast.tw14397756027757770469 : True := trivial
theorem PySem.W.Fast.tw3379255422544361643 : True := trivial
theorem PySem.W.Fast.tw14064768045125529027 : True := trivial
theorem PySem.W.Fast.tw16434092849652564936 : True := trivial
theorem PySem.W.Fast.tw2019895591857354585 : True := trivial
open PySem PySem.W PyProof.Rows
set_option maxRecDepth 100000 in
set_option maxHeartbeats 0 in
theorem PySem.Challenge.cw_lostpost_k37_the_least_ahead_holds : PySem.Challenge.rw_lostpost_k37_the_least_ahead.Holds := by
 w_on;o_law;k_head;(case hw=>w_witness2)
 k_fill
 refine L37.walk (l:=PySem.Challenge.rw_lostpost_k37_the_least_ahead) rfl rfl (λw h Y=>PySem.W.kIn_of Y) ?F
 case F=>
  intro w mg fa h KX G hmg;refine' L37.all_mk KX G hmg (L37.din_mk ?a1 ?l1 ?c1 ?k1) (L37.din_mk ?a2 ?l2 ?c2 ?k2) (L37.din_mk ?a3 ?l3 ?c3 ?k3) (L37.din_mk ?a4 ?l4 ?c4 ?k4) (L37.din_mk ?a5 ?l5 ?c5 ?k5) (L37.din_mk ?a6 ?l6 ?c6 ?k6) (L37.din_mk ?a7 ?l7 ?c7 ?k7) (L37.din_mk ?a8 ?l8 ?c8 ?k8) (L37.din_mk ?a9 ?l9 ?c9 ?k9) (L37.din_mk ?a10 ?l10 ?c10 ?k10) (L37.din_mk ?a11 ?l11 ?c11 ?k11) (L37.din_mk ?a12 ?l12 ?c12 ?k12) (L37.din_mk ?a13 ?l13 ?c13 ?k13) (L37.din_mk ?a14 ?l14 ?c14 ?k14) (L37.din_mk ?a15 ?l15 ?c15 ?k15) (L37.din_mk ?a16 ?l16 ?c16 ?k16) (L37.din_mk ?a17 ?l17 ?c17 ?k17) (L37.din_mk ?a18 ?l18 ?c18 ?k18) (L37.din_mk ?a19 ?l19 ?c19 ?k19) (L37.din_mk ?a20 ?l20 ?c20 ?k20) (L37.din_mk ?a21 ?l21 ?c21 ?k21) (L37.din_mk ?a22 ?l22 ?c22 ?k22) (L37.din_mk ?a23 ?l23 ?c23 ?k23) (L37.din_mk ?a24 ?l24 ?c24 ?k24) ?z1 ?z2 ?z3 ?z4 ?z5 ?z6 ?z7 ?z8 ?z9 ?z10 ?z11 ?z12 ?z13 ?z14 ?z15 ?z16 ?z17 ?z18 ?z19 ?z20
  (case a1=>k_is);(case l1=>k_is);(case c1=>k_is);(case k1=>k_is)
  (case a2=>k_is);(case l2=>k_is);(case c2=>k_is);(case k2=>k_is)
  (case a3=>k_is);(case l3=>k_is);(case c3=>k_is);(case k3=>k_is)
  (case a4=>k_is);(case l4=>k_is);(case c4=>k_is);(case k4=>k_is)
  (case a5=>k_is);(case l5=>k_is);(case c5=>k_is);(case k5=>k_is)
  (case a6=>k_is);(case l6=>k_is);(case c6=>k_is);(case k6=>k_is)
  (case a7=>k_is);(case l7=>k_is);(case c7=>k_is);(case k7=>k_is)
  (case a8=>k_is);(case l8=>k_is);(case c8=>k_is);(case k8=>k_is)
  (case a9=>k_is);(case l9=>k_is);(case c9=>k_is);(case k9=>k_is)
  (case a10=>k_is);(case l10=>k_is);(case c10=>k_is);(case k10=>k_is)
  (case a11=>k_is);(case l11=>k_is);(case c11=>k_is);(case k11=>k_is)
  (case a12=>k_is);(case l12=>k_is);(case c12=>k_is);(case k12=>k_is)
  (case a13=>k_is);(case l13=>k_is);(case c13=>k_is);(case k13=>k_is)
  (case a14=>k_is);(case l14=>k_is);(case c14=>k_is);(case k14=>k_is)
  (case a15=>k_is);(case l15=>k_is);(case c15=>k_is);(case k15=>k_is)
  (case a16=>k_is);(case l16=>k_is);(case c16=>k_is);(case k16=>k_is)
  (case a17=>k_is);(case l17=>k_is);(case c17=>k_is);(case k17=>k_is)
  (case a18=>k_is);(case l18=>k_is);(case c18=>k_is);(case k18=>k_is)
  (case a19=>k_is);(case l19=>k_is);(case c19=>k_is);(case k19=>k_is)
  (case a20=>k_is);(case l20=>k_is);(case c20=>k_is);(case k20=>k_is)
  (case a21=>k_is);(case l21=>k_is);(case c21=>k_is);(case k21=>k_is)
  (case a22=>k_is);(case l22=>k_is);(case c22=>k_is);(case k22=>k_is)
  (case a23=>k_is);(case l23=>k_is);(case c23=>k_is);(case k23=>k_is)
  (case a24=>k_is);(case l24=>k_is);(case c24=>k_is);(case k24=>k_is)
  (case z1=>k_is)
  (case z2=>k_is)
  (case z3=>k_is)
  (case z4=>k_is)
  (case z5=>k_is)
  (case z6=>k_is)
  (case z7=>k_is)
  (case z8=>k_is)
  (case z9=>k_is)
  (case z10=>k_is)
  (case z11=>k_is)
  (case z12=>k_is)
  (case z13=>k_is)
  (case z14=>k_is)
  (case z15=>k_is)
  (case z16=>k_is)
  (case z17=>k_is)
  (case z18=>k_is)
  (case z19=>k_is)
  (case z20=>k_is)

