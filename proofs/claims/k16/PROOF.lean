import PyProof.Rows.All
import Wide.All
import OpenK.AllK
import Wide.FinOn
import Lean
import PyProof.EqAt
import PyProof.EqKinds
import PyProof.TupleCall
import PyProof.StationsW
import PyProof.ExcClass2
import PyProof.ExcBaseAll.ValueError
import PyProof.InstStoreFacts
import PyProof.RulesAs
import PyProof.NsDelKeeps
import PyProof.P3Eq
import PyProof.P3In
import PyProof.ReprRoads
import PyProof.StrWalks
import PyProof.ListRange
import PyProof.ListStr
import PyProof.ConsumeWalk
import PyProof.MinMaxWalk
import PyProof.NeData
import PyProof.SliceStr2
import PyProof.Rows.SortStr
import PyProof.Rows.StrJoin2
import PyProof.Rows.SeqMore
import PyProof.SeqI3
import PyProof.StrLawsIn
import PyProof.ReprBulk
import PyProof.ListMulRoad
import PyProof.StrOps2
import PySem.Challenge.RW_lostpost_k16_whole_joined_and_met_sets
import PyProof.Rows.SortShellK
import KE.KSortTup
import PyProof.Rows.SetFrom
import PyProof.CollectIter
import PyProof.CollectStr
import PyProof.FactsAll.set
import KE.KDictOf
import PyProof.AttrMissHeap
import PyProof.DictWalks
import KE.KDictLaws
import PyProof.Draws
import KE.BitLaws
import KE.KRevIter
import PyProof.EnumStmt
import PyProof.JoinWalk
import PyProof.TupleOfSeq
import PySem.SetTable
import PyProof.SetScanFacts
import PyProof.TupleKey
import PyProof.IsRules
import PyProof.DictRoadsH
import PyProof.Rows.SortRuns
import PyProof.StrCalls6
import PyProof.StrLawsReplace
import PyProof.ExcAttrAll.ValueError
import PyProof.ExcArgs
import KE.KIsAll
import PyProof.ZipIter
import PyProof.EnumIter
import KE.KItemsList
import PyProof.Rows.Range3
set_option hygiene false
set_option compiler.extract_closed false
local macro_rules|`(0.0)=>`(by lia)
local macro_rules|`(0.1)=>`(by simp)
local macro_rules|`(0.2)=>`(by decide)
local macro_rules|`(0.3)=>`(by first|exact Or.inl rfl|exact Or.inr (Or.inl rfl)|exact Or.inr (Or.inr rfl))
local macro_rules|`(0.4)=>`(Str->Option GH)
local macro_rules|`(0.5)=>`(Inv X pins σ H s)
local macro_rules|`(0.6)=>`(Ctx3 P w K mg base k X)
local macro_rules|`(0.7)=>`(List Nat)
local macro_rules|`(0.8)=>`(model X.prog X.w)
local macro_rules|`(0.9)=>`(List (Addr×Obj))
local macro_rules|`(1.0)=>`(GH->GJ->Prop)
local macro_rules|`(1.1)=>`((x == ("__debug__" : Str))=false)
local macro_rules|`(1.2)=>`(⟨rfl,rfl,rfl,by decide +kernel,rfl,by decide +kernel,by decide +kernel⟩)
local macro_rules|`(1.3)=>`(model prog w)
local macro_rules|`(1.4)=>`(List Nat)
local macro_rules|`(1.5)=>`(model P w)
local macro_rules|`(1.6)=>`(λ_=>True)
local macro_rules|`(1.7)=>`(λ_=>trivial)
local macro_rules|`(1.8)=>`(∀i,(X i).N[n]? = some x)
local macro_rules|`(1.9)=>`(.Name x px)
local macro_rules|`(2.0)=>`((x == ("__classdict__" : Str))=false)
local macro_rules|`(2.1)=>`(α->α->Bool)
local macro_rules|`(2.2)=>`(E3 K X O a fa)
local macro_rules|`(2.3)=>`(List GG)
local macro_rules|`(2.4)=>`(List Str)
local macro_rules|`(2.5)=>`(by kernel_rfl)
local macro_rules|`(2.6)=>`(∀i,Vis (X i).env.scope x)
local macro_rules|`(2.7)=>`(R->Prop)
local macro_rules|`(2.8)=>`(List GH)
local macro_rules|`(2.9)=>`(λ_ _ _ _ _ _ us hl=>len2 hl λ_ _=>rfl)
local macro_rules|`(3.0)=>`(.refl _ _)
local macro_rules|`(3.1)=>`(.ref a)
local macro_rules|`(3.2)=>`(⟨rfl,?_⟩)
local macro_rules|`(3.3)=>`(List V)
local macro_rules|`(3.4)=>`(Addr->Prop)
local macro_rules|`(3.5)=>`(List 1.4)
local macro_rules|`(3.6)=>`(seqObj "list" vs.toArray 0)
local macro_rules|`(3.7)=>`(unM O)
local macro_rules|`(3.8)=>`(.ref s.heap.objs.size)
local macro_rules|`(3.9)=>`({ s with heap:=h' })
local macro_rules|`(4.0)=>`(QJ λ_=>(#[]:Array GH))
local macro_rules|`(4.1)=>`(.lst xs)
local macro_rules|`(4.2)=>`(List α)
local macro_rules|`(4.3)=>`((false,eval a (X i).env))
local macro_rules|`(4.4)=>`(Or.inr rfl)
local macro_rules|`(4.5)=>`(Or.inl rfl)
local macro_rules|`(4.6)=>`(zb6 prog w A s kd a₀ blt k)
local macro_rules|`(4.7)=>`(λ_ f=>f)
local macro_rules|`(4.8)=>`(by first|exact Or.inl rfl|exact Or.inr rfl)
local macro_rules|`(4.9)=>`(zag (i:=0) rfl 0.3)
local macro_rules|`(5.0)=>`(zaa 0)
local macro_rules|`(5.1)=>`(ws.map tS)
local macro_rules|`(5.2)=>`(by simpa using hi)
local macro_rules|`(5.3)=>`(Rep K O H₀ A H σ ρ)
local macro_rules|`(5.4)=>`(zag (pos:=px) (hN i) (hv i) hd hcd)
local macro_rules|`(5.5)=>`(by decide +kernel)
local macro_rules|`(5.6)=>`(List Addr)
local macro_rules|`(5.7)=>`(Nat->α)
local macro_rules|`(5.8)=>`(List (Key×V))
local macro_rules|`(5.9)=>`(.ref b)
local macro_rules|`(6.0)=>`(s1.trans s2)
local macro_rules|`(6.1)=>`(Nmd a₀ a LA)
local macro_rules|`(6.2)=>`(∀i,(X i).fn x=true\/(X i).env.scope.names.lookup x=some .local)
local macro_rules|`(6.3)=>`(zad st)
local macro_rules|`(6.4)=>`(hD w k)
local macro_rules|`(6.5)=>`(∀i,GN (a::es) (X i).env=4.3::GN es (X i).env)
open PyProof.Rows renaming wpS_bind->GL, wpS_pure->GO, wpS_forRange->GT, SortSt->Te, Keyed->Tj, wpS_mono->To, SortKind->Tt, failedOf->Tu, wpS_modify->Tw, listUpdate_at->TY, wpS_get->Mf, get?_update_seq->Mg, size_push'->Mm, assignInOrder_cons->Mx, wpS_lift->M2, AllBare->M3, wpAny_notIn_heap->ME, StrsAre->MI, envOfC->MK, listItems_at->MM, sortedS->MP, subscriptTail_builtinR->MQ, entry_list_sort->MT, seqEpoch_at->Na, slot_list_sort->Nd, wpS_reverse->Nh, subscriptTail->Nk, sortedHeap->Nm, entry_sorted->Nt, plain_sorted->Nu, kat_kind_eq->N5, kind_sorted->N6, IntsAre->N9, oneType'->NH
open PySem renaming wpAny_bind->GF, PyData->GG, Value->GH, wpAny_pure->GI, Shared->GJ, Program->GK, World->GM, starEach->GN, sizeLine_eq->GP, Around->GQ, wpAny_Call_Name_kw->GU, wpAny_call_entry->GV, wpAny_holding->GW, wpAny_newObj_type->GX, SetTable->GY, cLine->GZ, wpAny_mono->Ta, compareOp->Tb, swapsWith->Tc, wpAny_truthy_bool->Td, bootBuiltins->Tf, Reads->Tg, attributeBase->Th, behindInMarks->Ti, sysModules->Tk, codeAny_builtin->Tl, wpAny_specialOf->Tn, cellsFrom->Tq, wpAny_rule->Tr, ReadsAll->Ts, foldedSetIterable->Tv, wpAny_setField_rec->Tz, hashByValue_scannable->TC, wpAny_passesOwn->TF, Scope->TH, codeAny_mono->TJ, wpAny_of_eq->TK, wpAny_typeOf->TL, backTo->TM, setSearchFrom->TN, FuncData->TQ, NameKind->TR, binaryOp->TU, bindArgs->TV, wpAny_callSpecial?_slot->TW, wpAny_forIn_list->TX, plainId_quiet->TZ, builtinLookup_eq_fast->Ma, fits_of_scanBound->Mb, assignEach->Mc, isSubtype_type->Md, wpAny_isInstance->Me, pickOrder->Mh, sliceBounds->Mi, wpAny_Call_method0_late->Mj, eqIsQuiet_byValue->Mk, wpAny_Assign_Subscript->Ml, codeAny->Mo, getItem->Mp, wpAny_attempt->Mq, wpAny_newList->Mr, codeAny_extend_loopS->Ms, letOwnedTupleGo->Mt, typeLookup_type->Mu, wpAny_execs_nil->Mv, Keyword->Mw, tupleKind_room_in1->My, wpAny_getItem_heap->Mz, wpAny_seqItems->M0, wpAny_setItem_heap->M1, atKey->M4, keywordEach->M5, spliced->M6, wpAny_pyIter_list->M7, wpAny_pyIter_slot->M8, filterMap_getElem?_range->M9, isSubtype->MA, noFill_tuple_add->MB, relayAll->MC, wpAny_askSetting->MD, wpAny_pyHash_int->MF, wpAny_pyHash_str->MG, IsPart->MH, call_meets->MJ, hashStr->ML, pyIter->MN, setAddHashed->MO, wpAny_call->MR, codeAny_of_tree->MS, pushCells_keeps->MU, wpAny_loadPart'->MV, weight_type_call_type->MW, wpAny_isTrue_Compare1->MX, codeAny_call_builtin->MY, entryFor_alias->MZ, setAddHashedIn->Nb, slicePicked->Nc, wpAny_newTuple->Nf, wpAny_runValue->Ng, valueAt->Ni, seq_tuple_add->Nj, wpAny_standAt->Nl, typeLookup->Nn, BindsTo->No, GenState->Np, backToKw->Nq, concat_meets->Nr, storeSet->Nv, Paired->Nw, assign->Ny, putSet_of->Nz, pyNext->N0, seqIndex?->N1, typeOf->N4, unsupported->N7, wpAny_field->N8, setNext->NC, bindC->ND, bindL->NE, bindName->NF, entryFor->NG
abbrev NI:=@if_pos
abbrev NJ:=@if_neg
abbrev NK:=@decide_eq_false
abbrev NL:=@of_decide_eq_true
abbrev NM:=@decide_eq_true
abbrev NN:=@decide_eq_true_eq
abbrev NO:=@congrArg
abbrev NP:=@beq_self_eq_true
abbrev NQ:=@if_false
abbrev NR:=@if_true
abbrev NS:=@decide_eq_true_iff
abbrev NT:=@map_eq_pure_bind
open Array renaming getElem?_eq_getElem->Q4, getElem?_toList->Q7, length_toList->QH, getD_eq_getD_getElem?->Jf, getElem?_eq_none->J5, forIn_toList->JS, toList_push->YF, toList_inj->YR, getD->YT, getElem?_eq_some_iff->Vx, toList_setIfInBounds->V4, replicate->VR, all_eq_true'->U1, toList->GD
open Bool renaming false_ne_true->Qx, and_eq_true->Q9, false_eq_true->QT, eq_iff_iff->ZE, not_eq_true'->JB, not_true->Y0, not_false->V1, not_eq_false'->UA, and_false->Gv, or_false->G4, false_or->G5
open Classical renaming byContradiction->Zc, propDecidable->J2, choose_spec->YO, choose->YY, not_not->VB
open False renaming elim->ZL
open ForInStep renaming yield->Y1
open Int renaming emod_lt_of_pos->J7, emod_nonneg->JV, eq_ofNat_of_zero_le->VJ
open List renaming getElem?_eq_getElem->Qb, length_map->Qc, mem_cons_of_mem->Qe, getElem?_map->Qh, length_append->Qj, length_cons->Ql, mem_singleton->Qm, getElem?_eq_some_iff->Qn, mem_map->Qo, mem_cons_self->Qp, mem_append->Qq, mem_of_getElem?->Qt, map_append->Qu, getD_eq_getElem?_getD->Qw, mem_cons->Qz, range->Q3, size_toArray->Q5, mem_range->Q8, getElem?_append_left->QA, map_cons->QB, getElem?_eq_none->QD, mem_append_left->QE, getElem?_append_right->QF, mem_append_right->QG, mem_filter->QI, mem_iff_getElem?->QK, length_take->QL, replicate->QO, append_assoc->QP, append_nil->QR, length_range->QS, mem_flatMap->QV, drop_eq_getElem_cons->QX, map_map->QY, length_singleton->Zd, getElem_mem->Ze, getElem?_set_self->Zf, length_replicate->Zh, pairwise_iff_getElem->Zi, sublist_cons_self->Zk, take_append_drop->Zm, eq_nil_of_length_eq_zero->Zn, getD->Zo, nodup_cons->Zq, length_drop->Zr, getElem?_set_ne->Zs, take_of_length_le->Zu, mem_of_mem_take->Zv, eraseIdx_cons_succ->Zy, filter_cons->Zz, getElem?_drop->Z0, pairwise_cons->Z1, take_length->Z4, any_eq_true->Z5, cons_append->Z6, lookup_cons_self->Z7, getElem?_replicate->ZA, getElem?_cons_succ->ZB, cons_sublist_cons->ZI, not_mem_nil->ZJ, pairwise_map->ZP, length_set->ZT, getElem_range->ZV, lookup_cons->ZX, all_eq_true->ZZ, length_eq_zero_iff->Jc, nil_sublist->Jd, ext_getElem?->Jk, take_add_one->Jl, drop_eq_nil_of_le->Jm, length->Jo, find?_cons->Jq, drop_length->Js, pairwise_append->Jy, nodup_append->J1, getElem?_range->J4, foldl_cons->J9, mergeSort_perm->JF, drop_zero->JH, drop_drop->JI, lt_irrefl->JJ, eraseIdx_cons_zero->JL, length_nil->JU, length_filter_le->JZ, mapM_toArray->Ye, length_eraseIdx->Yj, drop_left->Yl, mem_of_mem_drop->Ym, length_pos_iff->Ys, getElem_of_mem->Yt, reverse_append->Yu, length_erase_of_mem->Yy, mem_filterMap->Y2, filter_append->Y3, getElem?_take->Y4, zip_cons_cons->Y5, append_of_mem->Y6, pairwise_singleton->Y8, take_succ_eq_append_getElem->YE, length_pos_of_mem->YG, take_left->YI, foldl_append->YK, eraseIdxIfInBounds_toArray->YL, contains_iff_mem->YQ, nodup_range->YS, perm_middle->YW, any_cons->YZ, map_take->Va, lt_trans->Vc, find?_eq_some_iff_append->Vd, not_lt->Ve, mem_erase_of_ne->Vf, take_append_of_le_length->Vh, of_mem_zip->Vj, nil_append->Vl, filterMap_cons->Vn, map_congr_left->Vp, flatMap_append->Vr, perm_ext_iff_of_nodup->V0, take_zero->V3, length_eraseIdx_of_lt->V5, getElem?_zip_eq_some->V6, map_drop->VC, zipIdxLE->VE, filterMap_cons_some->VF, ext_getElem->VG, pairwise_mergeSort->VH, pairwise_lt_range->VO, getElem?_toArray->VS, take_eq_take_min->VW, length_mergeSort->VY, eraseIdx_sublist->Ua, eq_nil_or_concat->Ub, concat_eq_append->Uc, dropLast_concat->Ug, getElem?_append->Uh, nodup_nil->Ui, reverse_reverse->Uj, getLast?_append->Uk, drop_set_of_lt->Uo, perm_iff_count->Uq, lt_of_le_of_lt->Ur, take_succ_cons->Us, take_add->Uv, find?_eq_none->U3, zip_nil_right->U9, reverse_cons->UD, map_nil->UE, head?_filter->UL, map->UM, zip_nil_left->UU, all_map->UV, flatMap_cons->UW, getElem_inj->Ga, map_reverse->Gf, mem_reverse->Gg, le_antisymm->Gh, all_toArray->Gk, getElem_map->Gm, take_succ->G0, take_nil->G7, drop_one->GA
open List.Pairwise renaming nil->UH, imp->UT
open List.Perm renaming eq_of_pairwise->VD, append_left->VX, swap->Gy
open Nat renaming le_refl->Qg, ne_of_lt->Q0, le_trans->Q1, zero_le->Q6, lt_of_lt_of_le->QM, lt_succ_of_lt->QW, lt_irrefl->Zl, pow_le_pow_right->ZC, lt_succ_self->ZY, lt_or_ge->Jj, le_succ->Jp, le_of_not_lt->Jr, le_of_lt->Jt, pow_succ->Jw, mul_assoc->Jx, mul_le_mul_right->Jz, mul_add->JC, mul_le_mul->JM, lt_of_le_of_lt->JQ, not_lt_zero->JW, le_of_ble_eq_true->Ya, le_of_succ_le->Yb, mul_left_comm->Yc, ne_of_gt->Yn, zero_add->Yo, add_assoc->Yz, add_mul->Y9, add_zero->YH, mod_eq_of_lt->YV, le_add_right->YX, not_lt->Vy, mod_lt->Vz, lt_of_succ_lt->VA, le_of_eq->VL, sub_zero->VM, div_div_eq_div_mul->VN, lt_of_le_of_ne->Uz, mul_right_comm->U7, add_sub_cancel->UB, lt_trans->UG, lt_trichotomy->UQ, mul_comm->UR, lt_succ_of_le->US, mod_mul->Gp, min_eq_left->Gr
open Ne renaming symm->Z8
open Option renaming map_eq_some_iff->Q2, none->ZO, map_some->JA, isSome_iff_exists->JD, isSome_some->Uy, map->U8, isSome_map->UF, getD_none->Gc, getD_some->Ge
open Option.some renaming inj->Za
open Prod renaming ext->Ud
open PyProof.Rows renaming slot_tuple_getitem->Zx, callWith_type1->Z9, callWith_builtin1->JG
open PyProof.Rows.F renaming plain_set_update_loop->Jb, entry_set_update_loop->JK
open PyProof.Rows.IsTup renaming new->Gb
open PyProof.Rows.SortSt renaming mk'->G1
open PySem renaming Spec->Qi, mem_of_lookup->ZM, strKind->Jg, SetTable->Jh, Builtin->Vb, evalArgs_none->Vo, call->Gw, KeyKind->G2
open PySem.Around renaming under_plainId->Ja, under_plain->U6
open PySem.Builtin.Frozenset renaming updateFrom->Vk, newClass->Gz, slot0->GC
open PySem.Builtin.List renaming listLengthHint->Je, listSameRef->Ju, listTooLong->Yw, listExtendWith->Vu, listUpdate->VI
open PySem.Builtin.Slice renaming slicePlaces->J8, sliceAdjust->Yq, sliceApplied->Vw
open PySem.Builtin.Str renaming occurrences->ZW, strSliceIndices->Vt, glued->UI
open PySem.Builtin.Tuple renaming tupleHashOf->ZK, tupleExact->JE, tupleItemsOf->Yh
open PySem.Calls renaming spliced_cons->ZU, spliced_nil->Ji, callWith_builtin->JP, Name_function_global->Vv, call_function_entry->V7, evalArgs_plain->Ue
open PySem.Code renaming quiet_builtin->U5
open PySem.F renaming called_set->Z2, plainAttrs_list->J0, slot_tuple_hash->Yd, slot_dict_getitem->Yr, args_tuple_add_2->Yv, entry_tuple_add->Y7, slot_tuple_add->YC, plainAttrs_str->YD, slot_list_pop->YM, type_list_pop->YN, slot_dict_itemiterator_iter->Vi, plain_extend_loop->Vq, slot_str_join->VT, type_str_join->VU, args_list_init_2->U2, slot_dict_values->UC, typeCall_list_1->UJ, entry_list_init->UK, entry_type_call->UN, plain_list_iadd->UP, plainAttrs_dict->UX, slot_dict_items->UY, entry_list_pop->Gd, typeCall_set_1->Gi, entry_set_init->Gj
open PySem.Heap renaming get?_push_of_some->Qf, get?_push_size->Qs, lt_size->Qv, size_push->Zg, SameBut->ZF, get?_update_other->ZG, get?_update_ne->ZN, get?_update_self->ZQ, size_update->JN, get?_push_ne->YJ
open PySem.ItemsOf renaming nil->Go
open PySem.NameKind renaming free->Zp, cell->Zw
open PySem.Obj renaming mapSeq->QJ, putSet->U4
open PySem.Paired renaming length->JY, snoc->GE
open PySem.PassesOwn renaming never->VQ
open PySem.PyData renaming canLayAll0->Qy, eqv->QC, depth->QU, depthAll->Zb, canLay0->ZR, eqvAll->Jv, strOk->JR, tuple->JT, bool->Uf, int->U0, none->Gq
open PySem.PyData.tuple renaming inj->Yp
open PySem.SeqAt renaming eqBoolOverData->Vg
open PySem.SeqAt.ReadsAll renaming length->VZ
open PySem.SetFound renaming there->V2
open PySem.SetTable renaming grown->Jn, below->Yk, advance->YU, fits->Ut, slot->Uu, relaid->Gs, laid->G8, fill->G9
open PySem.SetTable.below renaming go->V9
open PySem.Shared renaming TypeIs->Yx
open PySem.Str renaming ofString->Zt, empty->ZH, length->Ux
open PySem.Txt renaming join->Gx, find3->GB
open PySem.Value renaming ref->QQ, type->Zj, bool->JO, isStrOf->JX, none->Yf, isStrOf_shape->Vm, str->Um, int->UZ
open PySem.W renaming Frag->Qa, mg_none_of->QN, nsIn->QZ, fnOf->ZS, keepIn->Yg, cellsFrom_some->YA, codeIn->YB, methodObj->V8, OpenLaw->VP, mg_of->Uw, WalkO->G6
open PySem.pickOrder renaming go->UO
open StateT renaming run_pure->Gu
open Sum renaming inr->Vs, inl->Ul
open Sum.inr renaming inj->Gn
open True renaming intro->Yi
set_option autoImplicit true
set_option relaxedAutoImplicit true
set_option Elab.async false
set_option linter.all false
set_option maxRecDepth 100000
local macro_rules|`(tactic|lia)=>`(tactic|first|with_reducible(first|assumption|exact Nat.le_refl _|exact Nat.zero_le _|exact Nat.le_of_lt ‹_›|exact Nat.le_succ_of_le ‹_›|exact Nat.lt_succ_of_lt ‹_›|exact Nat.lt_of_succ_lt ‹_›|exact Nat.lt_succ_of_le ‹_›|exact Nat.le_of_lt_succ ‹_›|exact Nat.pos_of_ne_zero ‹_›|exact Nat.ne_of_gt ‹_›|exact Nat.ne_of_lt ‹_›|exact Nat.le_of_not_lt ‹_›|exact Nat.lt_of_not_le ‹_›|exact Nat.succ_pos _|exact Nat.lt_succ_self _|exact Nat.lt_of_lt_of_le ‹_› ‹_›|exact Nat.lt_of_le_of_lt ‹_› ‹_›|exact Nat.le_trans ‹_› ‹_›)|grind -ring -linarith -ac -order -mbtc -ext -funext -funCC -etaStruct (ematch:=0) [-Prod]|cutsat)
local macro_rules|`(tactic|ac_rfl)=>`(tactic|(repeat infer_instance))
namespace L2
open PySem PySem.Spec PyProof.Rows
abbrev Key:=Sum Int Str
def zeq:Key->GH->Bool
 | .inl k,v=>Value.isInt k v
 | .inr x,v=>JX x v
def keyH(w:GM):Key->Int
 | .inl k=>hashInt k
 | .inr x=>ML w x
theorem za5:∀{k:Key} {v:GH},zeq k v=true->(∃i t,k=Ul i/\v=UZ i t)\/(∃x t,k=Vs x/\v=Um x t)
 | .inl i,v,h=>by
   obtain⟨t,e⟩:=Value.isInt_shape (k:=i) (v:=v) h;exact .inl ⟨i,t,rfl,e⟩
 | .inr x,v,h=>by
   obtain⟨t,e⟩:=Vm (x:=x) (v:=v) h;exact .inr ⟨x,t,rfl,e⟩
theorem ztm(i:Int)(t:Tok):zeq (.inl i) (.int i t)=true:=by simp[zeq,Value.isInt]
theorem zud(x:Str)(t:Tok):zeq (.inr x) (.str x t)=true:=by simp[zeq,JX]
theorem z6m(a b:Int):decide ((Ul a:Key)=Ul b)=(a == b):=by
 by_cases e:a=b
 .subst e;simp
 .have h:¬(Ul a:Key)=Ul b:=λq=>e (Sum.inl.inj q);rw[NK h];exact(beq_eq_false_iff_ne.mpr e).symm
theorem z7w(a b:Str):decide ((Vs a:Key)=Vs b)=decide (a=b):=by
 by_cases e:a=b
 .subst e;simp
 .have h:¬(Vs a:Key)=Vs b:=λq=>e (Gn q);rw[NK h,NK e]
theorem z6u(a:Int)(b:Str):decide ((Ul a:Key)=Vs b)=false:=NK (λq=>nomatch q)
theorem z5x(a:Str)(b:Int):decide ((Vs a:Key)=Ul b)=false:=NK (λq=>nomatch q)
def zaw(prog:GK)(w:GM):G2 prog w Key where
 is:=zeq
 hash:=keyH w
 inj:=λv a b ha hb=>by
  rcases za5 ha with ⟨i,t,rfl,rfl⟩|⟨x,t,rfl,rfl⟩
  .rcases za5 hb with ⟨j,u,rfl,e⟩|⟨y,u,rfl,e⟩
   .injection e with e1 _;rw[e1]
   .exact nomatch e
  .rcases za5 hb with ⟨j,u,rfl,e⟩|⟨y,u,rfl,e⟩
   .exact nomatch e
   .injection e with e1 _;rw[e1]
 byValue:=λk v h=>by
  rcases za5 h with ⟨i,t,rfl,rfl⟩|⟨x,t,rfl,rfl⟩ <;> rfl
 pyHash:=λhv h=>by
  rcases za5 hv with ⟨i,t,rfl,rfl⟩|⟨x,t,rfl,rfl⟩
  .exact MF h
  .exact MG h
 eqBool:=λhu hv h=>by
  rcases za5 hu with ⟨i,t,rfl,rfl⟩|⟨x,t,rfl,rfl⟩
  .rcases za5 hv with ⟨j,u,rfl,rfl⟩|⟨y,u,rfl,rfl⟩
   .rw[z6m] at h;exact wpAny_eqBool_int h
   .rw[z6u] at h;exact SeqAt.EqAt.int_str i t y u _ _ _ _ h
  .rcases za5 hv with ⟨j,u,rfl,rfl⟩|⟨y,u,rfl,rfl⟩
   .rw[z5x] at h;exact SeqAt.EqAt.str_int x t j u _ _ _ _ h
   .rw[z7w] at h;exact wpAny_eqBool_str h
 «strs»:=λk x t v h=>by
  rcases za5 h with ⟨i,u,rfl,e⟩|⟨y,u,rfl,e⟩
  .exact nomatch e
  .injection e with e1 _;subst e1;cases v <;> rfl
theorem zpo(prog:GK)(w:GM)(i:Int)(t:Tok):(zaw prog w).is (.inl i) (.int i t)=true:=ztm i t
theorem zpr(prog:GK)(w:GM)(x:Str)(t:Tok):(zaw prog w).is (.inr x) (.str x t)=true:=zud x t
inductive V where
 | non|bl (b:Bool)|int (i:Int)|str (x:Str)|byt (b:Array UInt8)|flt (b:UInt64)|ref (a:Addr)|ty (n:String)
 deriving DecidableEq
def RelV:V->GH->Prop
 | .non,u=>u=Yf
 | .bl b,u=>u=JO b
 | .int i,u=>∃t,u=UZ i t
 | .str x,u=>∃t,u=Um x t
 | .byt b,u=>∃t,u=Value.bytes b t
 | .flt b,u=>∃t,u=Value.float b t
 | .ref a,u=>u=QQ a
 | .ty n,u=>u=Zj n
abbrev Vals:List V->List GH->Prop:=Nw RelV
theorem Vals.length(r:Vals xs us):xs.length=us.length:=JY r
theorem Vals.get:∀{xs:3.3} {us:2.8} {i:Nat} {x:V},Vals xs us->xs[i]? = some x->∃u,us[i]? = some u/\RelV x u
 | _,_,_,_,.nil,e=>by simp at e
 | _,_,0,_,.cons r _,e=>by simp at e;subst e;exact⟨_,rfl,r⟩
 | _,_,i+1,x,.cons _ t,e=>by
   obtain⟨u,h1,h2⟩:=Vals.get (i:=i) (x:=x) t (by simpa using e);exact⟨u,by simpa using h1,h2⟩
theorem Vals.append:∀{xs ys:3.3} {us ws:2.8},Vals xs us->Vals ys ws->Vals (xs++ys) (us++ws)
 | _,_,_,_,.nil,s=>s
 | _,_,_,_,.cons r t,s=>.cons r (Vals.append t s)
theorem Vals.take:∀{xs:3.3} {us:2.8} (n:Nat),Vals xs us->Vals (xs.take n) (us.take n)
 | _,_,0,_=>.nil
 | _,_,_+1,.nil=>.nil
 | _,_,n+1,.cons r t=>.cons r (Vals.take n t)
theorem Vals.drop:∀{xs:3.3} {us:2.8} (n:Nat),Vals xs us->Vals (xs.drop n) (us.drop n)
 | _,_,0,r=>r
 | _,_,_+1,.nil=>.nil
 | _,_,n+1,.cons _ t=>Vals.drop n t
def RelO:Option V->Option GH->Prop
 | some v,some u=>RelV v u
 | none,none=>True
 | _,_=>False
def KV{κ:Type}:List (κ×V)->List (κ×GH)->Prop:=Nw λ(p:κ×V) (q:κ×GH)=>p.1=q.1/\RelV p.2 q.2
def kV:Key->V
 | .inl i=>.int i
 | .inr x=>.str x
inductive HO where
 | lst (xs:3.3)
 | tup (xs:3.3)
 | dK (kvs:5.8)|dT (kvs:List (List Key×V))
 | set (S:Int->Bool) (n:Nat)
 | ins (C dx:Addr) (fs:List (Str×V))
 | own (x:Addr)
 | xd (fs:List (Str×V))
 | met (f x:Addr)
 | rng (lo hi:Int)
 | frz (o:Obj) (u:HO)
 | tbl (ps:Array GH)
 | cod (ps:Array GH) (qs:List (Pos×Str))
 | ext (φ:Heap->Prop)
abbrev Hp:=Addr->Option HO
def upd(H:Hp)(a:Addr)(o:HO):Hp:=λb=>if b=a then some o else H b
theorem zae: upd H a o a=some o:=by unfold upd;rw[NI rfl]
theorem zac(h:b≠a):upd H a o b=H b:=by unfold upd;rw[NJ h]
theorem yag{H:Hp}{a b:Addr}{o u:HO}(h:H a=some o)(h':H b=some u)(d:o≠u):a≠b:=by
 intro e;subst e;rw[h] at h';exact d (Za h')
theorem zbt{H:Hp}{a b:Addr}{o:HO}(h:H a=some o)(h':H b=none):a≠b:=by
 intro e;subst e;rw[h] at h';cases h'
section
variable (P:GK)(w:GM)
def z9e(H:Hp)(cv:GH)(q:Str):Prop:=∃(c:Addr) (oc:Obj) (vs:Array GH) (t:Tok),cv = .ref c/\H c=some (.frz oc (.own 0))/\oc.data = .fields vs/\vs[1]? = some (.str q t)
def ObjOk(H:Hp)(h:Heap)(a:Addr):HO->Prop
 | .lst xs=>xs.length<=sizeLine/\∃(its:2.8) (n:Nat),Vals xs its/\h.get? a=some { cls:=.type "list",data:=.seq its.toArray n }
 | .tup xs=>xs.length<=sizeLine/\∃its:List GH,Vals xs its/\IsTup h a its.toArray
 | .dK kvs=>kvs.length<=sizeLine/\(a == Tk)=false/\∃vs,KV kvs vs/\h.DictOf (zaw P w) a vs
 | .dT kvs=>kvs.length<=sizeLine/\(a == Tk)=false/\∃xs:List (List Key×Addr×GH),
  Nw (λ(p:List Key×V) (q:List Key×Addr×GH)=>p.1=q.1/\H q.2.1=some (.tup (p.1.map kV))/\RelV p.2 q.2.2) kvs xs /\
  ∃o es ep,h.get? a=some o/\o.ExactDict/\o.data = .dict es ep/\es.toList=xs.map (entryOfKey (tupleKind (zaw P w)))/\(xs.map (·.1)).Nodup
 | .set S n=>h.SetOf (intKind P w) a S n
 | .ins C dx fs=>H dx=some (.own a)/\fs.length<=1000/\dx≠a/\h.get? a=some (PySem.W.instObj C dx) /\
  ∃mA,h.Ns1 dx mA/\(∀f,RelO (fs.lookup f) (mA f))/\PySem.Within mA (fs.map (·.1))
 | .own _=>∃o,h.get? a=some o
 | .xd fs=>∃mA,h.Ns1 a mA/\∀f,RelO (fs.lookup f) (mA f)
 | .rng lo hi=>∃t u v,h.get? a=some { cls:=.type "range",data:=.fields #[.int lo t,.int hi u,.int 1 v] }
 | .frz o u=>h.get? a=some o/\ObjOk H h a u
 | .tbl ps=>h.get? a=some { cls:=.none,data:=.fields ps }
 | .cod ps qs=>h.get? a=some { cls:=.none,data:=.fields ps }/\TriplesOk ps.toList/\∀p∈qs,∀cv,codeAmong p.1 ps.toList=some cv->z9e H cv p.2
 | .met f x=>h.get? a=some (V8 (.ref f) (.ref x))
 | .ext φ=>φ h/\(∃o,h.get? a=some o)/\∀h1 h2:Heap,φ h1->(∀o,h1.get? a=some o->h2.get? a=some o)->φ h2
def HOk(H:Hp)(h:Heap):Prop:=∀a o,H a=some o->ObjOk P w H h a o
end
section
variable {P:GK}{w:GM}{H H':Hp}{h h':Heap}{a:Addr}{o:HO}
theorem ObjOk.lt(x:ObjOk P w H h a o):a<h.objs.size:=by
 cases o with
 | lst xs=>obtain⟨_,_,_,_,e⟩:=x;exact Qv e
 | tup xs=>obtain⟨_,_,_,p⟩:=x;exact p.lt
 | dK kvs=>obtain⟨_,_,_,_,o,_,_,e,_⟩:=x;exact Qv e
 | dT kvs=>obtain⟨_,_,_,_,o,_,_,e,_⟩:=x;exact Qv e
 | set S n=>obtain⟨o,_,_,_,e,_⟩:=x;exact Qv e
 | ins C dx fs=>obtain⟨_,_,_,e,_⟩:=x;exact Qv e
 | own y=>obtain⟨_,e⟩:=x;exact Qv e
 | xd fs=>obtain⟨_,⟨_,_,_,e,_⟩,_⟩:=x;exact Qv e
 | rng lo hi=>obtain⟨_,_,_,e⟩:=x;exact Qv e
 | frz ob u=>obtain⟨e,_⟩:=x;exact Qv e
 | tbl ps=>exact Qv (show h.get? a=some _ from x)
 | cod ps qs=>exact Qv x.1
 | met f y=>exact Qv (show h.get? a=some _ from x)
 | ext φ=>obtain⟨_,⟨_,e⟩,_⟩:=x;exact Qv e
theorem Paired.mapP{α β:Type}{F G:α->β->Prop}:∀{l₁:4.2} {l₂:List β},Nw F l₁ l₂->(∀a b,F a b->G a b)->Nw G l₁ l₂
 | _,_,.nil,_=>.nil
 | _,_,.cons r t,f=>.cons (f _ _ r) (Paired.mapP t f)
theorem ObjOk.stay(x:ObjOk P w H h a o)(k:∀b u,(b=a\/H b=some (.own a))->h.get? b=some u->h'.get? b=some u)
 (ho:∀b,H b=some (.own a)->H' b=some (.own a)) (ht:∀b xs,H b=some (.tup xs)->H' b=some (.tup xs)) (hf:∀b o,H b=some (.frz o (.own 0))->H' b=some (.frz o (.own 0))):ObjOk P w H' h' a o:=by
 induction o with
 | lst xs=>obtain⟨z,its,n,r,e⟩:=x;exact⟨z,its,n,r,k _ _ (.inl rfl) e⟩
 | tup xs=>obtain⟨z,its,r,ob,e,c⟩:=x;exact⟨z,its,r,ob,k _ _ (.inl rfl) e,c⟩
 | dK kvs=>obtain⟨z,y,vs,r,ob,es,ep,e,c⟩:=x;exact⟨z,y,vs,r,ob,es,ep,k _ _ (.inl rfl) e,c⟩
 | dT kvs=>
   obtain⟨z,y,xs,r,ob,es,ep,e,c⟩:=x;exact⟨z,y,xs,Paired.mapP r λp q z=>⟨z.1,ht _ _ z.2.1,z.2.2⟩,ob,es,ep,k _ _ (.inl rfl) e,c⟩
 | set S n=>obtain⟨ob,es,ep,t,e,c⟩:=x;exact⟨ob,es,ep,t,k _ _ (.inl rfl) e,c⟩
 | ins C dx fs=>
   obtain⟨d,z,ne,e,mA,⟨od,es,ep,e2,c⟩,r⟩:=x;exact⟨ho _ d,z,ne,k _ _ (.inl rfl) e,mA,⟨od,es,ep,k _ _ (.inr d) e2,c⟩,r⟩
 | own y=>obtain⟨ob,e⟩:=x;exact⟨ob,k _ _ (.inl rfl) e⟩
 | xd fs=>obtain⟨mA,⟨od,es,ep,e,c⟩,r⟩:=x;exact⟨mA,⟨od,es,ep,k _ _ (.inl rfl) e,c⟩,r⟩
 | rng lo hi=>obtain⟨t,u,v,e⟩:=x;exact⟨t,u,v,k _ _ (.inl rfl) e⟩
 | frz ob u ih=>obtain⟨e,q⟩:=x;exact⟨k _ _ (.inl rfl) e,ih q⟩
 | tbl ps=>
   have e:h.get? a=some { cls:=.none,data:=.fields ps }:=x;show h'.get? a=some { cls:=.none,data:=.fields ps };exact k a _ (.inl rfl) e
 | cod ps qs=>obtain⟨e,t,z⟩:=x;exact⟨k _ _ (.inl rfl) e,t,λp hp cv hc=>let ⟨c,oc,vs,tk,a1,a2,a3⟩:=z p hp cv hc;⟨c,oc,vs,tk,a1,hf _ _ a2,a3⟩⟩
 | met f y=>
   have e:h.get? a=some (V8 (.ref f) (.ref y)):=x;show h'.get? a=some (V8 (.ref f) (.ref y));exact k a _ (.inl rfl) e
 | ext φ=>obtain⟨p,⟨o,e⟩,st⟩:=x;exact⟨st _ _ p λo q=>k _ _ (.inl rfl) q,⟨o,k _ _ (.inl rfl) e⟩,st⟩
theorem HOk.lt(x:HOk P w H h)(e:H a=some o):a<h.objs.size:=(x a o e).lt
theorem HOk.fresh(x:HOk P w H h)(e:h.objs.size<=a):H a=none:=by
 cases q:H a with
 | none=>rfl
 | some u=>exact absurd (QM (x.lt q) e) (Zl _)
theorem HOk.kept(x:HOk P w H h)(k:∀b u,h.get? b=some u->h'.get? b=some u):HOk P w H h':=λa o e=>
 (x a o e).stay (λb u _ q=>k b u q) (λ_ q=>q) (λ_ _ q=>q) λ_ _ q=>q
theorem HOk.laid(x:HOk P w H h)(k:∀b u,h.get? b=some u->h'.get? b=some u)(hp:h.objs.size<=a)(new:ObjOk P w (upd H a o) h' a o):HOk P w (upd H a o) h':=λb u e=>by
 have hn:=x.fresh hp
 by_cases hb:b=a
 .subst hb;rw[zae] at e;cases e;exact new
 .rw[zac hb] at e;exact(x b u e).stay (λc v _ q=>k c v q) (λc q=>by rw[zac (zbt q hn)];exact q) (λc xs q=>by rw[zac (zbt q hn)];exact q) λc oc q=>by rw[zac (zbt q hn)];exact q
end
def Rd(H:Hp)(a:Addr)(u:HO):Prop:=H a=some u\/∃o,H a=some (.frz o u)
theorem Rd.ok(r:Rd H a u)(x:HOk P w H h):ObjOk P w H h a u:=by
 rcases r with r|⟨o,r⟩
 .exact x a u r
 .obtain⟨_,q⟩:=x a _ r;exact q
def Mut:Option HO->Prop
 | some (.lst _)=>True
 | some (.dK _)=>True
 | some (.dT _)=>True
 | some (.set _ _)=>True
 | some (.ins _ _ _)=>True
 | some (.ext _)=>True
 | _=>False
section
variable {P:GK}{w:GM}{H:Hp}{h h':Heap}{x e:Addr}{o':HO}
theorem HOk.write(ok:HOk P w H h)(mu:Mut (H x))(he:e=x\/H e=some (.own x))(k:∀b u,b≠e->h.get? b=some u->h'.get? b=some u)(heo:∃u,h'.get? e=some u)
 (new:ObjOk P w (upd H x o') h' x o'):HOk P w (upd H x o') h':=λb u q=>by
 have nown:∀c y,H c=some (.own y)->c≠x:=λc y r z=>by subst z;rw[r] at mu;exact mu
 have ntup:∀c xs,H c=some (.tup xs)->c≠x:=λc xs r z=>by subst z;rw[r] at mu;exact mu
 have nfrz:∀c oc u,H c=some (.frz oc u)->c≠x:=λc oc u r z=>by subst z;rw[r] at mu;exact mu
 by_cases hb:b=x
 .subst hb;rw[zae] at q;cases q;exact new
 .rw[zac hb] at q
  by_cases hbe:b=e
  .have q':H b=some (.own x):=by
    rcases he with z|z
    .exact absurd (hbe.trans z) hb
    .rw[hbe];exact z
   rw[q] at q';cases q';obtain⟨v,hv⟩:=heo;exact⟨v,by rw[hbe];exact hv⟩
  .refine(ok b u q).stay (λc v hc r=>k c v ?_ r) (λc r=>by rw[zac (nown c b r)];exact r) (λc xs r=>by rw[zac (ntup c xs r)];exact r) λc oc r=>by rw[zac (nfrz c oc _ r)];exact r
   rcases hc with rfl|hc
   .exact hbe
   .rintro rfl;rcases he with z|z
    .exact nown c b hc z
    .rw[hc] at z;cases z;exact hb rfl
end
structure Un(fs ex:5.6)(H H':Hp)(h h':Heap):Prop where
 keep:∀b o,h.get? b=some o->H b=none->b ∉ fs->b ∉ ex->h'.get? b=some o
 slot:∀b o,h.get? b=some o->H b=none->b∈fs->b ∉ ex->∃sl,h'.get? b=some { o with slots:=sl }
 free:∀b o,h.get? b=some o->H b=none->b ∉ ex->H' b=none
 there:∀b o,h.get? b=some o->b ∉ ex->∃o',h'.get? b=some o'
 tups:∀b xs,H b=some (.tup xs)->H' b=some (.tup xs)
 frzs:∀b o u,H b=some (.frz o u)->H' b=some (.frz o u)
 tbls:∀b ps,H b=some (.tbl ps)->∃more,H' b=some (.tbl (ps++more))
section
variable {fs fs' ex ex':5.6}{H H1 H2:Hp}{h h1 h2 h':Heap}{a x e:Addr}{o:HO}
theorem Un.any(u:Un fs ex H H1 h h1)(q:h.get? b=some ob)(n:H b=none)(hx:b ∉ ex):∃sl,h1.get? b=some { ob with slots:=sl }:=by
 by_cases hb:b∈fs
 .exact u.slot b ob q n hb hx
 .exact⟨ob.slots,u.keep b ob q n hb hx⟩
theorem Un.kept(k:∀b u,h.get? b=some u->h'.get? b=some u):Un fs ex H H h h' :=
 ⟨λb ob q _ _ _=>k b ob q,λb ob q _ _ _=>⟨ob.slots,k b ob q⟩,λ_ _ _ n _=>n,λb ob q _=>⟨ob,k b ob q⟩,λ_ _ q=>q,λ_ _ _ q=>q,λ_ ps q=>⟨#[],by rw[q];simp⟩⟩
theorem Un.refl:Un fs ex H H h h:=Un.kept λ_ _ q=>q
theorem Un.laid(k:∀b u,h.get? b=some u->h'.get? b=some u)(hp:h.objs.size<=a)(hn:H a=none):Un fs ex H (upd H a o) h h' where
 keep:=λb u q _ _ _=>k b u q
 slot:=λb u q _ _ _=>⟨u.slots,k b u q⟩
 free:=λb u q n _=>by rw[zac (Q0 (QM (Qv q) hp))];exact n
 there:=λb u q _=>⟨u,k b u q⟩
 tups:=λb xs q=>by rw[zac (zbt q hn)];exact q
 frzs:=λb u xs q=>by rw[zac (zbt q hn)];exact q
 tbls:=λb ps q=>⟨#[],by rw[zac (zbt q hn),q];simp⟩
theorem Un.write(mu:Mut (H x))(he:e=x\/H e=some (.own x))(k:∀b u,b≠e->h.get? b=some u->h'.get? b=some u)(heo:∃u,h'.get? e=some u):Un fs ex H (upd H x o) h h':=by
 have hx:∀b,H b=none->b≠x:=λb n z=>by subst z;rw[n] at mu;exact mu
 have hb:∀b,H b=none->b≠e:=λb n z=>by
  subst z;rcases he with r|r
  .exact hx b n r
  .rw[n] at r;cases r
 have hm:∀b u,H b=some u->¬Mut (some u)->b≠x:=λb u q nm z=>by subst z;rw[q] at mu;exact nm mu
 refine⟨λb u q n _ _=>k b u (hb b n) q,λb u q n _ _=>⟨u.slots,k b u (hb b n) q⟩,λb u q n _=>by rw[zac (hx b n)];exact n,λb u q _=>?_,
  λb xs q=>by rw[zac (hm b _ q λz=>z)];exact q,λb u xs q=>by rw[zac (hm b _ q λz=>z)];exact q,λb ps q=>⟨#[],by rw[zac (hm b _ q λz=>z),q];simp⟩⟩
 by_cases hbe:b=e
 .subst hbe;exact heo
 .exact⟨u,k b u hbe q⟩
end
def trk(h:Heap)(H:Hp):List Addr:=(Q3 h.objs.size).filter λa=>(H a).isSome
def hidT(h:Heap)(H:Hp):Heap:=PySem.W.hideAll h (trk h H)
theorem zt8(h:Heap)(H:Hp):(hidT h H).objs.size=h.objs.size:=PySem.W.hideAll_size _ _
theorem zxe(e:h.get? b=some o)(n:H b=none):(hidT h H).get? b=some o :=
 PySem.W.hideAll_get _ e λhm=>by
  have q:(H b).isSome=true:=(QI.mp hm).2;rw[n] at q;simp at q
theorem z4b(e:(hidT h H).get? b=some o):h.get? b=some o/\H b=none:=by
 have e':h.get? b=some o:=PySem.W.of_hideAll (trk h H) e;refine⟨e',?_⟩
 cases q:H b with
 | none=>rfl
 | some x=>
   have hm:b∈trk h H:=QI.mpr ⟨Q8.mpr (Qv e'),by simp[q]⟩;have z:(hidT h H).get? b=none:=PySem.W.hideAll_none (trk h H) hm;rw[z] at e;cases e
structure Mod(K:Qa)(mg:0.4)(base:Heap):Prop where
 kin:K.In base
 glob:base.Ns mainGlobals mg
 blt:∃mb,base.Ns builtinsNs mb/\∀x:Str,x ≠ "__name__" -> mb x=Tf x
 nolimit:base.NoLimit
structure Cx where
 prog:GK
 w:GM
 K:Qa
 mg:Str->Option GH
 base:Heap
 A:GQ
 N:List Str
 s₀:GJ
 H₀:Hp
 env:Env
 outer:List Env
 stack:List Env
 ex:List Addr
 fn:Str->Bool
 calm:Bool
 pn:List (Addr×Obj)
 xe:GH->GJ->Prop
def frs(l:List Env):List Addr:=l.filterMap (·.frame)
abbrev Cx.fs(X:Cx):List Addr:=frs X.outer
def Vis(sc:TH)(x:Str):Prop:=sc.names.lookup x=some .local\/sc.names.lookup x=some .cell\/sc.names.lookup x=some .free
def Loc(sc:TH)(x:Str):Prop:=sc.names.lookup x=some .local\/sc.names.lookup x=some .cell
def Look(env:Env)(h:Heap)(m:0.4)(x:Str)(u:GH):Prop :=
 (env.kindOf x=some .local/\m x=some u)\/((env.kindOf x=some .cell\/env.kindOf x=some .free)/\∃c,env.cells.lookup x=some c/\h.IsCell c (some u))
structure Cx.Ok(X:Cx):Prop where
 mod:Mod X.K X.mg X.base
 kind:X.env.scope.kind = .function
 glob:X.env.globals=mainGlobals
 blt:X.env.builtins=builtinsNs
 above:X.s₀.heap.objs.size<=X.env.locals
 inj:∀x y c,X.env.cells.lookup x=some c->X.env.cells.lookup y=some c->x=y
 has:∀x,(X.env.kindOf x=some .cell\/X.env.kindOf x=some .free)->∃c,X.env.cells.lookup x=some c
 cab:∀x c,X.fn x=true->X.env.cells.lookup x=some c->X.s₀.heap.objs.size<=c
 hd:X.calm=true->X.A.handled=none
 frames:X.A.frames=some X.stack
 stk:X.stack=X.outer\/(X.stack=X.env::X.outer/\X.env.frame=some X.env.locals)
 exf:∀b∈X.ex,b≠X.env.locals/\∀x c,X.env.cells.lookup x=some c->c≠b
 bs:∀b o,X.base.get? b=some o->X.s₀.heap.get? b=some o/\X.H₀ b=none
 bsz:X.base.objs.size<=X.s₀.heap.objs.size
 noex:∀b o,X.base.get? b=some o->b ∉ X.ex
 exfs:∀b∈X.ex,b ∉ X.fs
 funs:X.s₀.heap.FunFrames X.base X.outer
 frf:∀b∈X.fs,X.H₀ b=none
structure Inv(X:Cx)(pins:0.9)(σ:List (Option V))(H:Hp)(s:GJ):Prop where
 ok:X.Ok
 os:s.os=X.s₀.os
 bare:M3 s.gens
 base:Un X.fs X.ex X.H₀ H X.s₀.heap s.heap
 loc:∃m,s.heap.Ns X.env.locals m/\∀(i:Nat) (x:Str) (v:V),X.N[i]? = some x->σ[i]? = some (some v)->Vis X.env.scope x->∃u,RelV v u/\Look X.env s.heap m x u
 cell:∀x c,X.env.cells.lookup x=some c->∃v,s.heap.IsCell c v
 free:H X.env.locals=none
 freeC:∀x c,X.env.cells.lookup x=some c->H c=none
 pin:∀p∈X.pn++pins,s.heap.get? p.1=some p.2/\H p.1=none/\p.1≠X.env.locals/\p.1 ∉ X.fs/\∀v,p.2.data≠.cell v
 hok:HOk X.prog X.w H s.heap
 len:σ.length=X.N.length
section
variable {X:Cx}{pins:0.9}{σ:List (Option V)}{H H':Hp}{s:GJ}{h':Heap}
theorem Cx.Ok.nofr(ok:X.Ok)(e:X.base.get? b=some o):b ∉ X.fs:=λhb=>by
 have:=(ok.funs.mem hb).1;rw[e] at this;cases this
theorem Inv.bs(I:0.5):∀b o,X.base.get? b=some o->s.heap.get? b=some o/\H b=none:=λb o e=>
 ⟨I.base.keep b o (I.ok.bs b o e).1 (I.ok.bs b o e).2 (I.ok.nofr e) (I.ok.noex b o e),I.base.free b o (I.ok.bs b o e).1 (I.ok.bs b o e).2 (I.ok.noex b o e)⟩
theorem Inv.bk(I:0.5):∀b o,X.base.get? b=some o->s.heap.get? b=some o:=λb o e=>(I.bs b o e).1
theorem Inv.mod(I:0.5):Mod X.K X.mg X.base:=I.ok.mod
theorem Inv.kIn(I:0.5):X.K.In s.heap:=I.ok.mod.kin.keeps I.bk
theorem Inv.lt(I:0.5):X.env.locals<s.heap.objs.size:=let ⟨_,hn,_⟩:=I.loc;hn.lt
theorem Inv.sz(I:0.5):X.s₀.heap.objs.size<=s.heap.objs.size:=Q1 I.ok.above (Jt I.lt)
theorem Inv.nofs(I:0.5)(h:s.heap.objs.size<=a):a ∉ X.fs:=λhb=>by
 obtain⟨_,o,ho,_⟩:=I.ok.funs.mem hb;exact absurd (QM (Qv ho) (Q1 I.sz h)) (Zl _)
theorem Inv.cne(I:0.5):∀x c,X.env.cells.lookup x=some c->c≠X.env.locals:=λx c e z=>by
 obtain⟨v,o,ho,hd⟩:=I.cell x c e;obtain⟨m,⟨o',es,ep,ho',hd',_⟩,_⟩:=I.loc;rw[z,ho'] at ho;cases ho;rw[hd'] at hd;cases hd
theorem Inv.funs(I:0.5):s.heap.FunFrames X.base X.outer:=by
 have all:∀(l:List Env),(∀b∈frs l,b∈X.fs)->X.s₀.heap.FunFrames X.base l->s.heap.FunFrames X.base l:=by
  intro l
  induction l with
  | nil=>intro _ _;trivial
  | cons env r ih=>
    intro hs hl;obtain⟨hk,⟨L,o,hf,hn,ho,hd⟩,hr⟩:=hl;have hL:L∈X.fs:=hs L (by unfold frs;rw[Vn,hf];exact Qp);obtain⟨sl,e⟩:=I.base.slot L o ho (I.ok.frf L hL) hL λz=>I.ok.exfs L z hL;exact⟨hk,⟨L,_,hf,hn,e,hd⟩,ih (λb hb=>hs b (by unfold frs;rw[Vn,hf];exact Qe _ hb)) hr⟩
 exact all X.outer (λ_ hb=>hb) I.ok.funs
theorem Inv.stack(I:0.5):s.heap.FunFrames X.base X.stack:=by
 rcases I.ok.stk with e|⟨e,hf⟩
 .rw[e];exact I.funs
 .rw[e];obtain⟨m,hn,_⟩:=I.loc;refine .cons (by rw[I.ok.kind];decide) hf hn ?_ I.funs;exact Heap.get?_none_of_le (Q1 I.ok.bsz I.ok.above)
theorem Inv.stkSub(I:0.5):∀b∈frs X.stack,b∈X.env.locals::X.fs:=λb hb=>by
 rcases I.ok.stk with e|⟨e,hf⟩
 .rw[e] at hb;exact Qe _ hb
 .rw[e] at hb;unfold frs at hb;rw[Vn,hf] at hb;exact hb
theorem Inv.stkFree(I:0.5):∀b∈frs X.stack,H b=none:=λb hb=>by
 rcases Qz.mp (I.stkSub b hb) with e|hb
 .rw[e];exact I.free
 .obtain⟨_,o,ho,_⟩:=I.ok.funs.mem hb;exact I.base.free b o ho (I.ok.frf b hb) λz=>I.ok.exfs b z hb
theorem Inv.step{g':Array Np}{t':Nat}{d':Drawn}{ch:5.6}(I:0.5)
 (hch:∀b∈ch,(b∈X.ex\/X.s₀.heap.objs.size<=b)/\b≠X.env.locals/\(∀x c,X.env.cells.lookup x=some c->c≠b)/\∀p∈X.pn++pins,p.1≠b)
 (keep:∀b o,b≠X.env.locals->b ∉ X.fs->b ∉ ch->s.heap.get? b=some o->H b=none->h'.get? b=some o)
 (slot:∀b o,b≠X.env.locals->b∈X.fs->b ∉ ch->s.heap.get? b=some o->H b=none->∃sl,h'.get? b=some { o with slots:=sl }) (free:∀b o,b ∉ ch->s.heap.get? b=some o->H b=none->H' b=none)
 (there:∀b o,b ∉ ch->s.heap.get? b=some o->∃o',h'.get? b=some o')
 (tups:∀b xs,H b=some (.tup xs)->H' b=some (.tup xs)) (frzs:∀b o u,H b=some (.frz o u)->H' b=some (.frz o u)) (tbls:∀b ps,H b=some (.tbl ps)->∃more,H' b=some (.tbl (ps++more)))
 (ns:∀m,s.heap.Ns X.env.locals m->h'.Ns X.env.locals m) (hok:HOk X.prog X.w H' h') (hg:M3 g') :
 Inv X pins σ H' { s with heap:=h',gens:=g',drawn:=d',toks:=t' }:=by
 have neL:∀b o,X.s₀.heap.get? b=some o->b≠X.env.locals:=λb o e=>Q0 (QM (Qv e) I.ok.above)
 have neC:∀b o,X.s₀.heap.get? b=some o->b ∉ X.ex->b ∉ ch:=λb o e hx hb=>by
  rcases(hch b hb).1 with z|z
  .exact hx z
  .exact absurd (QM (Qv e) z) (Zl _)
 have cellK:∀x c,X.env.cells.lookup x=some c->∀v,s.heap.IsCell c v->h'.IsCell c v:=λx c e v ⟨o,ho,hd⟩=>by
  have nch:c ∉ ch:=λz=>(hch c z).2.2.1 x c e rfl
  by_cases hc:c∈X.fs
  .obtain⟨sl,q⟩:=slot c o (I.cne x c e) hc nch ho (I.freeC x c e);exact⟨_,q,hd⟩
  .exact⟨o,keep c o (I.cne x c e) hc nch ho (I.freeC x c e),hd⟩
 refine⟨I.ok,I.os,hg,⟨λb o e n hb hx=>?_,λb o e n hb hx=>?_,λb o e n hx=>?_,λb o e hx=>?_,λb xs e=>tups b xs (I.base.tups b xs e),λb o xs e=>frzs b o xs (I.base.frzs b o xs e),λb ps e=>?_⟩,?_,λx c e=>?_,?_,λx c e=>?_,λp hp=>?_,hok,I.len⟩
 .exact keep b o (neL b o e) hb (neC b o e hx) (I.base.keep b o e n hb hx) (I.base.free b o e n hx)
 .obtain⟨sl,e1⟩:=I.base.slot b o e n hb hx;obtain⟨sl',e2⟩:=slot b _ (neL b o e) hb (neC b o e hx) e1 (I.base.free b o e n hx);exact⟨sl',e2⟩
 .obtain⟨o',e1⟩:=I.base.there b o e hx;exact free b o' (neC b o e hx) e1 (I.base.free b o e n hx)
 .obtain⟨o',e1⟩:=I.base.there b o e hx;exact there b o' (neC b o e hx) e1
 .obtain⟨m1,e1⟩:=I.base.tbls b ps e;obtain⟨m2,e2⟩:=tbls b _ e1;exact⟨m1++m2,by rw[e2,Array.append_assoc]⟩
 .obtain⟨m,hn,hl⟩:=I.loc;refine⟨m,ns m hn,λi x v e1 e2 e3=>?_⟩;obtain⟨u,r,l⟩:=hl i x v e1 e2 e3;refine⟨u,r,?_⟩;rcases l with l|⟨k,c,e,z⟩
  .exact .inl l
  .exact .inr ⟨k,c,e,cellK x c e _ z⟩
 .obtain⟨v,z⟩:=I.cell x c e;exact⟨v,cellK x c e v z⟩
 .obtain⟨m,⟨o,_,_,ho,_⟩,_⟩:=I.loc;exact free _ o (λz=>(hch _ z).2.1 rfl) ho I.free
 .obtain⟨v,o,ho,hd⟩:=I.cell x c e;exact free c o (λz=>(hch c z).2.2.1 x c e rfl) ho (I.freeC x c e)
 .obtain⟨e,n,ne,nf,d⟩:=I.pin p hp;have nch:p.1 ∉ ch:=λz=>(hch p.1 z).2.2.2 p hp rfl;exact⟨keep p.1 p.2 ne nf nch e n,free p.1 p.2 nch e n,ne,nf,d⟩
theorem Inv.un{t':Nat}(I:0.5)(u:Un X.fs [] H H' s.heap h')(hok:HOk X.prog X.w H' h'):Inv X pins σ H' { s with heap:=h',toks:=t' }:=by
 obtain⟨m,⟨o,es,ep,ho,r⟩,_⟩:=id I.loc;obtain⟨sl,hL⟩:=u.any ho I.free 0.1
 exact I.step (g':=s.gens) (d':=s.drawn) (ch:=[]) (λ_ z=>nomatch z) (λb o _ hb _ e n=>u.keep b o e n hb 0.1) (λb o _ hb _ e n=>u.slot b o e n hb 0.1) (λb o _ e n=>u.free b o e n 0.1) (λb o _ e=>u.there b o e 0.1) u.tups u.frzs u.tbls (λm' hm=>by
  obtain⟨o',es',ep',ho',r'⟩:=hm;rw[ho] at ho';cases ho'
  exact⟨_,es',ep',hL,r'⟩) hok I.bare
theorem Inv.call{t':Nat}(I:0.5)(u:Un (frs X.stack) ch H H' s.heap h')(hok:HOk X.prog X.w H' h')(hg:M3 g')
 (hch:∀b∈ch,(b∈X.ex\/X.s₀.heap.objs.size<=b)/\b≠X.env.locals/\(∀x c,X.env.cells.lookup x=some c->c≠b)/\∀p∈X.pn++pins,p.1≠b) :
 Inv X pins σ H' { s with heap:=h',gens:=g',drawn:=d',toks:=t' }:=by
 obtain⟨m,⟨o,es,ep,ho,r⟩,_⟩:=id I.loc;obtain⟨sl,hL⟩:=u.any ho I.free λz=>(hch _ z).2.1 rfl
 exact I.step (ch:=ch) hch (λb o hL hb hc e n=>u.keep b o e n (λz=>(Qz.mp (I.stkSub b z)).elim hL hb) hc) (λb o _ _ hc e n=>u.any e n hc) (λb o hc e n=>u.free b o e n hc) (λb o hc e=>u.there b o e hc) u.tups u.frzs u.tbls (λm' hm=>by
  obtain⟨o',es',ep',ho',r'⟩:=hm;rw[ho] at ho';cases ho'
  exact⟨_,es',ep',hL,r'⟩) hok hg
theorem Inv.turned{t':Nat}(I:0.5)(k:∀b o,b≠it->s.heap.get? b=some o->h'.get? b=some o)(hn:H it=none)(hL:it≠X.env.locals)
 (h1:it∈X.ex\/X.s₀.heap.objs.size<=it) (h2:∀x c,X.env.cells.lookup x=some c->c≠it) (h3:∀p∈X.pn++pins,p.1≠it):Inv X pins σ H { s with heap:=h',toks:=t' }:=by
 have nit:∀b u,H b=some u->b≠it:=λb u e z=>by rw[z,hn] at e;cases e
 refine I.step (g':=s.gens) (d':=s.drawn) (ch:=[it]) (λb hb=>?_) (λb o _ _ hc e _=>k b o (λz=>hc (by simp[z])) e) (λb o _ _ hc e _=>⟨o.slots,k b o (λz=>hc (by simp[z])) e⟩) (λ_ _ _ _ n=>n)
  (λb o hc e=>⟨o,k b o (λz=>hc (by simp[z])) e⟩) (λ_ _ e=>e) (λ_ _ _ e=>e) (λb ps e=>⟨#[],by rw[e];simp⟩) (λm hm=>?_) (λb u e=>?_) I.bare
 .have e:b=it:=by simpa using hb
  subst e;exact⟨h1,hL,h2,h3⟩
 .obtain⟨o,es,ep,ho,r⟩:=hm;exact⟨o,es,ep,k _ o (Z8 hL) ho,r⟩
 .refine(I.hok b u e).stay (λc v hc q=>k c v ?_ q) (λ_ q=>q) (λ_ _ q=>q) λ_ _ q=>q;rcases hc with z|z
  .rw[z];exact nit b u e
  .exact nit c _ z
theorem Inv.tok(I:0.5)(t:Nat):Inv X pins σ H { s with toks:=t }:=I.un (h':=s.heap) (t':=t) Un.refl I.hok
theorem Inv.kept{t':Nat}(I:0.5)(k:∀b u,s.heap.get? b=some u->h'.get? b=some u):Inv X pins σ H { s with heap:=h',toks:=t' }:=I.un (Un.kept k) (I.hok.kept k)
theorem Inv.laid{t':Nat}(I:0.5)(k:∀b u,s.heap.get? b=some u->h'.get? b=some u)(hp:s.heap.objs.size<=a)(new:ObjOk X.prog X.w (upd H a o) h' a o):
 Inv X pins σ (upd H a o) { s with heap:=h',toks:=t' }:=I.un (Un.laid k hp (I.hok.fresh hp)) (I.hok.laid k hp new)
theorem Inv.write{t':Nat}(I:0.5)(mu:Mut (H x))(he:e=x\/H e=some (.own x))(k:∀b u,b≠e->s.heap.get? b=some u->h'.get? b=some u)(heo:∃u,h'.get? e=some u)
 (new:ObjOk X.prog X.w (upd H x o) h' x o):Inv X pins σ (upd H x o) { s with heap:=h',toks:=t' }:=I.un (Un.write mu he k heo) (I.hok.write mu he k heo new)
theorem Inv.weak(I:0.5)(hl:σ'.length=σ.length)(w:∀(i:Nat) v,σ'[i]? = some (some v)->σ[i]? = some (some v)):Inv X pins σ' H s :=
 ⟨I.ok,I.os,I.bare,I.base,let ⟨m,hn,hl'⟩:=I.loc;⟨m,hn,λi x v e1 e2 e3=>hl' i x v e1 (w i v e2) e3⟩,I.cell,I.free,I.freeC,I.pin,I.hok,hl.trans I.len⟩
theorem Inv.pins_of{pins':0.9}(I:0.5)(h:∀p∈pins',s.heap.get? p.1=some p.2/\H p.1=none/\p.1≠X.env.locals/\p.1 ∉ X.fs/\∀v,p.2.data≠.cell v):Inv X pins' σ H s :=
 ⟨I.ok,I.os,I.bare,I.base,I.loc,I.cell,I.free,I.freeC,λp hp=>(Qq.mp hp).elim (λz=>I.pin p (QE _ z)) (h p),I.hok,I.len⟩
theorem znu{N:2.4}(hN:N.Nodup){i j:Nat}{x:Str}(a:N[i]? = some x)(b:N[j]? = some x):i=j:=by
 obtain⟨h1,e1⟩:=Qn.mp a;obtain⟨h2,e2⟩:=Qn.mp b;exact(Ga hN).mp (e1.trans e2.symm)
theorem zls{i:Nat}(I:0.5)(hN:X.N.Nodup)(hi:X.N[i]? = some x)(hx:Loc X.env.scope x)(r:RelV v u)
 (h:∀s',Inv X pins (σ.set i (some v)) H s'->(∃a,ZF a s.heap s'.heap/\(a=X.env.locals\/X.env.cells.lookup x=some a))->Q () s') (hf:X.fn x=true\/X.env.scope.names.lookup x=some .local:=by first|exact .inl rfl|exact .inr rfl|assumption):wpAny M A (storeName X.env x u) Q E s:=by
 obtain⟨m,hn,hl⟩:=id I.loc;have hcls:(X.env.scope.kind == .class || (X.env.scope.kind == .module && X.env.locals != X.env.globals))=false:=by rw[I.ok.kind];rfl
 have hiσ:i<σ.length:=by rw[I.len];exact(Qn.mp hi).1
 have cne:=I.cne
 have tracked:∀{a:Addr} {h':Heap},(∃o,s.heap.get? a=some o/\H a=none)->ZF a s.heap h'->HOk X.prog X.w H h':=λ{a h'} ha hs b ob e=>by
  obtain⟨_,_,hfree⟩:=ha;refine(I.hok b ob e).stay (λc w' hc q=>(hs.2 c ?_).trans q) (λ_ q=>q) (λ_ _ q=>q) λ_ _ q=>q;rintro rfl;rcases hc with rfl|hc
  .rw[hfree] at e;cases e
  .rw[hfree] at hc;cases hc
 rcases hx with hk|hk
 .refine wpAny_storeName_local hk hn (λh' hn' hs=>?_) hcls;obtain⟨oL,_,_,hoL,_⟩:=id hn;refine h _ ⟨I.ok,I.os,I.bare,⟨λb o e n hb hx=>?_,λb o e n hb hx=>?_,I.base.free,λb o e hx=>?_,I.base.tups,I.base.frzs,I.base.tbls⟩,⟨_,hn',λj y v' e1 e2 e3=>?_⟩,λy c e=>?_,I.free,I.freeC,λp hp=>?_,tracked ⟨oL,hoL,I.free⟩ hs,by simpa using I.len⟩ ⟨_,hs,.inl rfl⟩
  .exact(hs.2 b (Q0 (QM (Qv e) I.ok.above))).trans (I.base.keep b o e n hb hx)
  .obtain⟨sl,e1⟩:=I.base.slot b o e n hb hx;exact⟨sl,(hs.2 b (Q0 (QM (Qv e) I.ok.above))).trans e1⟩
  .obtain⟨o',e1⟩:=I.base.there b o e hx;exact⟨o',(hs.2 b (Q0 (QM (Qv e) I.ok.above))).trans e1⟩
  .by_cases hj:j=i
   .subst hj;rw[hi] at e1;cases e1;rw[Zf hiσ] at e2;cases e2;exact⟨u,r,.inl ⟨hk,by simp⟩⟩
   .rw[Zs (Z8 hj)] at e2;obtain⟨u',r',q⟩:=hl j y v' e1 e2 e3;refine⟨u',r',?_⟩;rcases q with ⟨k,e⟩|⟨k,c,e,z⟩
    .refine .inl ⟨k,?_⟩;have:y≠x:=λe=>hj (znu hN e1 (e ▸ hi));simp[this,e]
    .exact .inr ⟨k,c,e,z.sameBut hs (cne y c e)⟩
  .obtain⟨w',z⟩:=I.cell y c e;exact⟨w',z.sameBut hs (cne y c e)⟩
  .obtain⟨e,n,ne,nf,d⟩:=I.pin p hp;exact⟨(hs.2 p.1 ne).trans e,n,ne,nf,d⟩
 .have hfn:X.fn x=true:=by
   rcases hf with z|z
   .exact z
   .rw[z] at hk;cases hk
  obtain⟨c,hc⟩:=I.ok.has x (.inl hk);obtain⟨w',z⟩:=I.cell x c hc;refine wpAny_storeName_cell I.ok.kind hk hc z (λh' hc' hs=>?_);obtain⟨oc,hoc,hocd⟩:=id z;refine h 3.9 ⟨I.ok,I.os,I.bare,⟨λb o e n hb hx=>?_,λb o e n hb hx=>?_,I.base.free,λb o e hx=>?_,I.base.tups,I.base.frzs,I.base.tbls⟩,⟨m,hn.sameBut hs (Z8 (cne x c hc)),λj y v' e1 e2 e3=>?_⟩,λy c' e=>?_,I.free,I.freeC,λp hp=>?_,tracked ⟨oc,hoc,I.freeC x c hc⟩ hs,by simpa using I.len⟩ ⟨c,hs,.inr hc⟩
  .exact(hs.2 b (Q0 (QM (Qv e) (I.ok.cab x c hfn hc)))).trans (I.base.keep b o e n hb hx)
  .obtain⟨sl,e1⟩:=I.base.slot b o e n hb hx;exact⟨sl,(hs.2 b (Q0 (QM (Qv e) (I.ok.cab x c hfn hc)))).trans e1⟩
  .obtain⟨o',e1⟩:=I.base.there b o e hx;exact⟨o',(hs.2 b (Q0 (QM (Qv e) (I.ok.cab x c hfn hc)))).trans e1⟩
  .by_cases hj:j=i
   .subst hj;rw[hi] at e1;cases e1;rw[Zf hiσ] at e2;cases e2;exact⟨u,r,.inr ⟨.inl hk,c,hc,hc'⟩⟩
   .rw[Zs (Z8 hj)] at e2;obtain⟨u',r',q⟩:=hl j y v' e1 e2 e3;refine⟨u',r',?_⟩;rcases q with q|⟨k,c',e,z'⟩
    .exact .inl q
    .refine .inr ⟨k,c',e,z'.sameBut hs ?_⟩;rintro rfl;exact hj (znu hN e1 (I.ok.inj _ _ _ e hc ▸ hi))
  .by_cases hcc:c'=c
   .subst hcc;exact⟨_,hc'⟩
   .obtain⟨w2,z2⟩:=I.cell y c' e;exact⟨w2,z2.sameBut hs hcc⟩
  .obtain⟨e,n,ne,nf,d⟩:=I.pin p hp;refine⟨(hs.2 p.1 ?_).trans e,n,ne,nf,d⟩;intro q;rw[q,hoc] at e;have q':oc=p.2:=Za e;exact d w' (by rw[<- q'];exact hocd)
theorem zfz{i:Nat}(I:0.5)(hN:X.N.Nodup)(hi:X.N[i]? = some x)(hx:Loc X.env.scope x)(r:RelV v u)
 (h:∀s',Inv X pins (σ.set i (some v)) H s'->Q () s') (hf:X.fn x=true\/X.env.scope.names.lookup x=some .local:=by first|exact .inl rfl|exact .inr rfl|assumption):wpAny M A (storeName X.env x u) Q E s :=
 zls I hN hi hx r (λs' I' _=>h s' I') hf
theorem Inv.call'(I:0.5)(ho:s'.os=s.os)(u:Un (frs X.stack) ch H H' s.heap s'.heap)(hok:HOk X.prog X.w H' s'.heap)(hg:M3 s'.gens)
 (hch:∀b∈ch,(b∈X.ex\/X.s₀.heap.objs.size<=b)/\b≠X.env.locals/\(∀x c,X.env.cells.lookup x=some c->c≠b)/\∀p∈X.pn++pins,p.1≠b):Inv X pins σ H' s':=by
 obtain⟨h',g',d',t',o'⟩:=s';have e:o'=s.os:=ho;subst e;exact I.call (g':=g') (t':=t') (d':=d') u hok hg hch
end
abbrev XK:=GH->Option Addr->Hp->Prop
abbrev St:=List (Option V)
abbrev VK:=V->Hp->Prop
abbrev TE:=St->Hp->VK->Prop
abbrev TT:=St->Hp->(Bool->Hp->Prop)->Prop
abbrev TA:=St->Hp->(List V->Hp->Prop)->Prop
structure Ends where
 nx:St->Hp->Prop
 rt:VK
 bk:St->Hp->Prop:=λ_ _=>False
 ct:St->Hp->Prop:=λ_ _=>False
abbrev TS:=Ends->St->Hp->Prop
def EP(X:Cx)(pins:0.9)(σ:St)(Q:VK)(u:GH)(s':GJ):Prop:=∃v H',Inv X pins σ H' s'/\RelV v u/\Q v H'
def TP(X:Cx)(pins:0.9)(σ:St)(Q:Bool->Hp->Prop)(b:Bool)(s':GJ):Prop:=∃H',Inv X pins σ H' s'/\Q b H'
def AP(X:Cx)(pins:0.9)(σ:St)(Q:List V->Hp->Prop)(us:2.8)(s':GJ):Prop:=∃vs H',Inv X pins σ H' s'/\Vals vs us/\Q vs H'
def SP(X:Cx)(pins:0.9)(D:Ends)(f:Flow)(s':GJ):Prop :=
 match f with
 | .next=>∃σ' H',Inv X pins σ' H' s'/\D.nx σ' H'
 | .brk=>∃σ' H',Inv X pins σ' H' s'/\D.bk σ' H'
 | .cont=>∃σ' H',Inv X pins σ' H' s'/\D.ct σ' H'
 | .ret u=>∃v σ' H',Inv X pins σ' H' s'/\RelV v u/\D.rt v H'
def PE(X:Cx)(e:Expr)(t:TE):Prop :=
 ∀(pins:0.9) (s:GJ) (σ:St) (H:Hp) (Q:VK),Inv X pins σ H s->t σ H Q->wpAny 0.8 X.A (eval e X.env) (EP X pins σ Q) X.xe s
def PT(X:Cx)(e:Expr)(t:TT):Prop :=
 ∀(pins:0.9) (s:GJ) (σ:St) (H:Hp) (Q:Bool->Hp->Prop),Inv X pins σ H s->t σ H Q->wpAny 0.8 X.A (isTrue e X.env (eval e X.env)) (TP X pins σ Q) X.xe s
def PW(X:Cx)(e:Expr)(t:TT):Prop :=
 ∀(whole:Sem GH) (pins:0.9) (s:GJ) (σ:St) (H:Hp) (Q:Bool->Hp->Prop),Inv X pins σ H s->t σ H Q->wpAny 0.8 X.A (isTrue e X.env whole) (TP X pins σ Q) X.xe s
theorem PW.pt(h:PW X e t):PT X e t:=h _
def PA(X:Cx)(es:List Expr)(t:TA):Prop :=
 ∀(pos:Pos) (pins:0.9) (s:GJ) (σ:St) (H:Hp) (Q:List V->Hp->Prop),Inv X pins σ H s->t σ H Q->wpAny 0.8 X.A (M6 (TM pos (GN es X.env))) (AP X pins σ Q) X.xe s
def PS(X:Cx)(st:Stmt)(t:TS):Prop :=
 ∀(pins:0.9) (s:GJ) (σ:St) (H:Hp) (D:Ends),Inv X pins σ H s->t D σ H->wpAny 0.8 X.A (exec st X.env) (SP X pins D) X.xe s
def PSs(X:Cx)(st:List Stmt)(t:TS):Prop :=
 ∀(pins:0.9) (s:GJ) (σ:St) (H:Hp) (D:Ends),Inv X pins σ H s->t D σ H->wpAny 0.8 X.A (execs st X.env) (SP X pins D) X.xe s
theorem thn{α:Type}{t:Sem α}{Q Q':α->GJ->Prop}(h:wpAny M A t Q E s)(hQ:∀a s,Q a s->Q' a s):wpAny M A t Q' E s:=Ta h hQ λ_ _ x=>x
section
variable {X:Cx}
def tVar(i:Nat):TE:=λσ H Q=>∃v,σ[i]? = some (some v)/\Q v H
def tC(v:V):TE:=λ_ H Q=>Q v H
theorem zag{i:Nat}(hN:X.N[i]? = some x)(hv:Vis X.env.scope x)(hd:1.1:=by decide)(hcd:2.0:=by decide):PE X (.Name x pos) (tVar i):=by
 intro pins s σ H Q I h;obtain⟨v,e,h⟩:=h;obtain⟨m,hn,hl⟩:=I.loc;obtain⟨u,r,l⟩:=hl i x v hN e hv;have fin:EP X pins σ Q u s:=⟨v,H,I,r,h⟩;rcases l with ⟨hk,hm⟩|⟨hk,c,hc,hcell⟩
 .exact wpAny_Name (wpAny_loadName_local I.ok.kind hk hn hm fin) hd
 .rcases hk with hk|hk
  .exact wpAny_Name (wpAny_loadName_cell I.ok.kind hk hc hcell fin) hd
  .exact wpAny_Name (wpAny_loadName_free I.ok.kind hk hc hcell fin hcd) hd
theorem zau{i j pos}:PE X (.Constant (.int i) j pos) (tC (.int i)):=λ_ _ _ H _ I h=>wpAny_Constant_int ⟨.int i,H,I.tok _,⟨_,rfl⟩,h⟩
theorem z0o{b j pos}:PE X (.Constant (.bool b) j pos) (tC (.bl b)):=λ_ _ _ H _ I h=>Constant_bool ⟨.bl b,H,I,rfl,h⟩
theorem z6y{j pos}:PE X (.Constant .none j pos) (tC .non):=λ_ _ _ H _ I h=>Constant_none ⟨.non,H,I,rfl,h⟩
theorem zbm{x j pos}:PE X (.Constant (.str x) j pos) (tC (.str x)):=λ_ _ _ H _ I h=>Calls.Constant_str ⟨.str x,H,I.tok _,⟨_,rfl⟩,h⟩
def Gl(X:Cx)(x:Str):Prop:=X.env.kindOf x=some .globalImplicit
theorem zke{pins:0.9}(I:0.5)(hg:Gl X x)(hm:X.mg x=some u)(h:Q u s)
 (hd:1.1:=by decide):wpAny 0.8 X.A (eval (.Name x pos) X.env) Q E s :=
 Vv I.ok.kind hg (Calls.loadGlobal_global (by rw[I.ok.glob];exact I.mod.glob.keeps I.bk) hm h) hd
theorem zcf{pins:0.9}(I:0.5)(hg:Gl X x)(hm:X.mg x=none)(hv:Tf x=some u)(h:Q u s)
 (hn:x ≠ "__name__" := by decide) (hd:1.1:=by decide):wpAny 0.8 X.A (eval (.Name x pos) X.env) Q E s:=by
 obtain⟨mb,h1,h2⟩:=I.mod.blt;exact Vv I.ok.kind hg (Calls.loadGlobal_builtin (by rw[I.ok.glob];exact I.mod.glob.keeps I.bk) hm (by rw[I.ok.blt];exact h1.keeps I.bk) ((h2 x hn).trans hv) h) hd
theorem zp3(hg:Gl X x)(hm:X.mg x=some u)(r:RelV v u)(hd:1.1:=by decide):PE X (.Name x pos) (tC v) :=
 λ_ _ _ H _ I h=>zke I hg hm ⟨v,H,I,r,h⟩ hd
variable {a b:Expr}{ta tb:TE}{pos:Pos}
def PC(X:Cx)(op:CmpOp)(a b:Expr)(t:TE):Prop :=
 ∀(pins:0.9) (s:GJ) (σ:St) (H:Hp) (Q:VK),Inv X pins σ H s->t σ H Q ->
   wpAny 0.8 X.A (eval a X.env) (λv s₁=>wpAny 0.8 X.A (eval b X.env) (λu s₂=>wpAny 0.8 X.A (Tb op v u) (EP X pins σ Q) X.xe s₂) X.xe s₁) X.xe s
def tB(t:TE):TT:=λσ H Q=>t σ H λx H1=>∃c,x = .bl c/\Q c H1
theorem zop(h:PC X op a b t)(h1:Ti op b=false:=by first|exact nobehind _ 0.2 0.2|rfl):PT X (.Compare a [op] [b] pos) (tB t):=by
 intro pins s σ H Q I hw;refine MX (thn (h pins s σ H _ I hw) λv s1 h1=>thn h1 λu s2 h2=>thn h2 λc s3 zz=>?_) h1;obtain⟨x,H1,I1,r1,q1⟩:=zz;obtain⟨d,rfl,q⟩:=q1;cases r1;exact Td ⟨H1,I1,q⟩
theorem z6f(h:PE X e t)(he:∀whole,isTrue e X.env whole=(do let v <- whole;standAt e.pos;holding [v] (truthy v)):=by intro _;rfl):PT X e (tB t):=by
 intro pins s σ H Q I hw;refine isTrue_plain (thn (h pins s σ H _ I hw) λv s1 zz=>?_) (he _);obtain⟨x,H1,I1,r1,q1⟩:=zz;obtain⟨d,rfl,q⟩:=q1;cases r1;exact Td ⟨H1,I1,q⟩
variable {tA tB':TT}{rest:List Expr}
def tAnd(t u:TT):TT:=λσ H Q=>t σ H λc H1=>if c=true then u σ H1 Q else Q false H1
def tOr(t u:TT):TT:=λσ H Q=>t σ H λc H1=>if c=true then Q true H1 else u σ H1 Q
def tNot(t:TT):TT:=λσ H Q=>t σ H λc H1=>Q (!c) H1
theorem zq2(ha:PT X a tA):PW X (.BoolOp .And [a] pos) tA:=by
 intro wh pins s σ H Q I h;refine isTrue_and (thn (ha pins s σ H Q I h) λc s1 e=>?_)
 cases c with
 | true=>exact isTrue_and_nil e
 | false=>exact e
theorem z6i(ha:PT X a tA):PW X (.BoolOp .Or [a] pos) tA:=by
 intro wh pins s σ H Q I h;refine isTrue_or (thn (ha pins s σ H Q I h) λc s1 e=>?_)
 cases c with
 | false=>exact isTrue_or_nil e
 | true=>exact e
theorem zvo(ha:PT X a tA)(hb:PW X (.BoolOp .And (b::rest) pos) tB'):PW X (.BoolOp .And (a::b::rest) pos) (tAnd tA tB'):=by
 intro wh pins s σ H Q I h;refine isTrue_and (thn (ha pins s σ H _ I h) λc s1 zz=>?_);obtain⟨H1,I1,q1⟩:=zz
 cases c with
 | true=>exact hb wh pins s1 σ H1 Q I1 q1
 | false=>exact⟨H1,I1,q1⟩
theorem yaf(ha:PT X a tA)(hb:PW X (.BoolOp .Or (b::rest) pos) tB'):PW X (.BoolOp .Or (a::b::rest) pos) (tOr tA tB'):=by
 intro wh pins s σ H Q I h;refine isTrue_or (thn (ha pins s σ H _ I h) λc s1 zz=>?_);obtain⟨H1,I1,q1⟩:=zz
 cases c with
 | true=>exact⟨H1,I1,q1⟩
 | false=>exact hb wh pins s1 σ H1 Q I1 q1
theorem z7x(ha:PT X a tA):PT X (.UnaryOp .Not a pos) (tNot tA):=by
 intro pins s σ H Q I h;exact isTrue_not (ha pins s σ H (λc H1=>Q (!c) H1) I h)
def z1h(ta tb:TE):TE:=λσ H Q=>ta σ H λx H1=>∃c,x = .bl c/\if c=true then tb σ H1 Q else Q (.bl false) H1
def tOrV(ta tb:TE):TE:=λσ H Q=>ta σ H λx H1=>∃c,x = .bl c/\if c=true then Q (.bl true) H1 else tb σ H1 Q
def z0s(ta:TE):TE:=λσ H Q=>ta σ H λx H1=>∃c,x = .bl c/\Q (.bl (!c)) H1
theorem z5o{op}(h:PE X a t):PE X (.BoolOp op [a] pos) t:=λpins s σ H Q I hw=>BoolOp_one (h pins s σ H Q I hw)
theorem z5u(ha:PE X a ta)(hb:PE X (.BoolOp .And (b::rest) pos) tb):PE X (.BoolOp .And (a::b::rest) pos) (z1h ta tb):=by
 intro pins s σ H Q I h;refine BoolOp_and (thn (ha pins s σ H _ I h) λv s1 zz=>?_);obtain⟨x,H1,I1,r1,q1⟩:=zz;obtain⟨c,rfl,q1⟩:=q1;cases r1;refine Td ?_
 cases c with
 | true=>exact hb pins s1 σ H1 Q I1 q1
 | false=>exact⟨.bl false,H1,I1,rfl,q1⟩
theorem z9y(ha:PE X a ta)(hb:PE X (.BoolOp .Or (b::rest) pos) tb):PE X (.BoolOp .Or (a::b::rest) pos) (tOrV ta tb):=by
 intro pins s σ H Q I h;refine BoolOp_or (thn (ha pins s σ H _ I h) λv s1 zz=>?_);obtain⟨x,H1,I1,r1,q1⟩:=zz;obtain⟨c,rfl,q1⟩:=q1;cases r1;refine Td ?_
 cases c with
 | false=>exact hb pins s1 σ H1 Q I1 q1
 | true=>exact⟨.bl true,H1,I1,rfl,q1⟩
theorem z5d(ha:PE X a ta):PE X (.UnaryOp .Not a pos) (z0s ta):=by
 intro pins s σ H Q I h;refine UnaryOp_ (thn (ha pins s σ H _ I h) λv s1 zz=>?_);obtain⟨x,H1,I1,r1,q1⟩:=zz;obtain⟨c,rfl,q1⟩:=q1;cases r1;exact not_of (Td ⟨.bl (!c),H1,I1,rfl,q1⟩)
end
def SqL(K:Qa)(H:Hp)(a:Addr)(xs:3.3):Prop :=
 Rd H a 4.1 \/
  ∃(o:Obj) (its:Array GH) (n:Nat),K.lookup a=some o/\o.cls = .type "list" /\ o.dict=none/\o.data = .seq its n/\its.size<=sizeLine/\Vals xs its.toList
def SqT(K:Qa)(H:Hp)(a:Addr)(xs:3.3):Prop :=
 Rd H a (.tup xs) \/
  ∃(o:Obj) (its:Array GH) (n:Nat),K.lookup a=some o/\o.cls = .type "tuple" /\ o.data = .seq its n/\its.size<=sizeLine/\Vals xs its.toList
def absV:GH->Option V
 | .none=>some .non
 | .bool b=>some (.bl b)
 | .int i _=>some (.int i)
 | .str x _=>some (.str x)
 | .bytes b _=>some (.byt b)
 | .float b _=>some (.flt b)
 | .ref a=>some 3.1
 | .type n=>some (.ty n)
 | _=>none
theorem RelV.abs(r:RelV x u):absV u=some x:=by
 cases x with
 | non=>cases r;rfl
 | bl _=>cases r;rfl
 | int _=>obtain⟨t,rfl⟩:=r;rfl
 | str _=>obtain⟨t,rfl⟩:=r;rfl
 | byt _=>obtain⟨t,rfl⟩:=r;rfl
 | flt _=>obtain⟨t,rfl⟩:=r;rfl
 | ref _=>cases r;rfl
 | ty _=>cases r;rfl
theorem RelV.inj(r:RelV x u)(q:RelV y u):x=y:=Za (r.abs.symm.trans q.abs)
theorem Vals.inj:∀{xs ys:3.3} {us:2.8},Vals xs us->Vals ys us->xs=ys
 | _,_,_,.nil,.nil=>rfl
 | _,_,_,.cons r t,.cons r' t'=>by rw[r.inj r',Vals.inj t t']
section
variable {X:Cx}{pins:0.9}{σ:St}{H:Hp}{s:GJ}{a:Addr}{xs ys:3.3}
theorem SqL.of{K:Qa}(h:H a=some 4.1):SqL K H a xs:=.inl (.inl h)
theorem SqT.of{K:Qa}(h:H a=some (.tup xs)):SqT K H a xs:=.inl (.inl h)
theorem Inv.list(I:0.5)(h:SqL X.K H a xs):∃its:List GH,Vals xs its/\PlainL s.heap a its.toArray/\xs.length<=sizeLine:=by
 rcases h with h|⟨o,its,n,hk,hc,hd,hs,hz,r⟩
 .obtain⟨z,its,n,r,e⟩:=h.ok I.hok;exact⟨its,r,⟨_,n,e,rfl,rfl,rfl⟩,z⟩
 .refine⟨its.toList,r,⟨o,n,I.kIn a o hk,hc,hd,by simpa using hs⟩,?_⟩;have e:=r.length;simp only[QH] at e;lia
theorem Inv.tuple(I:0.5)(h:SqT X.K H a xs):∃its:List GH,Vals xs its/\IsTup s.heap a its.toArray/\xs.length<=sizeLine:=by
 rcases h with h|⟨o,its,n,hk,hc,hs,hz,r⟩
 .obtain⟨z,its,r,p⟩:=h.ok I.hok;exact⟨its,r,p,z⟩
 .refine⟨its.toList,r,⟨o,I.kIn a o hk,hc,n,by simpa using hs⟩,?_⟩;have e:=r.length;simp only[QH] at e;lia
theorem Inv.list_inj(I:0.5)(h:SqL X.K H a xs)(h':SqL X.K H a ys):xs=ys:=by
 obtain⟨its,r,⟨o,n,e,_,_,d⟩,_⟩:=I.list h;obtain⟨its',r',⟨o',n',e',_,_,d'⟩,_⟩:=I.list h';rw[e] at e';cases e';rw[d] at d';injection d' with d1 _;have:its=its':=by simpa using NO GD d1
 subst this;exact r.inj r'
theorem Inv.tuple_inj(I:0.5)(h:SqT X.K H a xs)(h':SqT X.K H a ys):xs=ys:=by
 obtain⟨its,r,⟨o,e,_,n,d⟩,_⟩:=I.tuple h;obtain⟨its',r',⟨o',e',_,n',d'⟩,_⟩:=I.tuple h';rw[e] at e';cases e';rw[d] at d';injection d' with d1 _;have:its=its':=by simpa using NO GD d1
 subst this;exact r.inj r'
end
abbrev Cx.wish(X:Cx)(E:1.0):Cx:={ X with xe:=E }
abbrev Cx.nox(X:Cx):Cx:=X.wish λ_ _=>False
theorem Cx.Ok.wish{X:Cx}(ok:X.Ok)(E:1.0):(X.wish E).Ok :=
 ⟨ok.mod,ok.kind,ok.glob,ok.blt,ok.above,ok.inj,ok.has,ok.cab,ok.hd,ok.frames,ok.stk,ok.exf,ok.bs,ok.bsz,ok.noex,ok.exfs,ok.funs,ok.frf⟩
theorem Cx.Ok.unwish{X:Cx}{E:1.0}(ok:(X.wish E).Ok):X.Ok :=
 ⟨ok.mod,ok.kind,ok.glob,ok.blt,ok.above,ok.inj,ok.has,ok.cab,ok.hd,ok.frames,ok.stk,ok.exf,ok.bs,ok.bsz,ok.noex,ok.exfs,ok.funs,ok.frf⟩
section
variable {X:Cx}{pins:0.9}{σ:St}{H:Hp}{s:GJ}{E:1.0}
theorem Inv.wish(I:0.5)(E:1.0):Inv (X.wish E) pins σ H s:=⟨I.ok.wish E,I.os,I.bare,I.base,I.loc,I.cell,I.free,I.freeC,I.pin,I.hok,I.len⟩
theorem Inv.unwish(I:Inv (X.wish E) pins σ H s):Inv X pins σ H s:=⟨I.ok.unwish,I.os,I.bare,I.base,I.loc,I.cell,I.free,I.freeC,I.pin,I.hok,I.len⟩
theorem SP.unwish(h:SP (X.wish E) pins D f s'):SP X pins D f s':=by
 cases f with
 | next=>obtain⟨σ',H',I,q⟩:=h;exact⟨σ',H',I.unwish,q⟩
 | brk=>obtain⟨σ',H',I,q⟩:=h;exact⟨σ',H',I.unwish,q⟩
 | cont=>obtain⟨σ',H',I,q⟩:=h;exact⟨σ',H',I.unwish,q⟩
 | ret u=>obtain⟨v,σ',H',I,r,q⟩:=h;exact⟨v,σ',H',I.unwish,r,q⟩
theorem PSs.nox{st:List Stmt}{t:TS}(h:PSs X.nox st t):PSs X st t:=λpins s σ H D I hw=>
 Ta (h pins s σ H D (I.wish _) hw) (λ_ _ q=>q.unwish) λ_ _ z=>ZL z
end
section
variable {X:Cx}{st:Stmt}{rest:List Stmt}{t u:TS}{e:Expr}{te:TE}{pos:Pos}
def zsh:TS:=λD σ H=>D.nx σ H
def tSeq(t u:TS):TS:=λD σ H=>t { D with nx:=u D } σ H
theorem zql:PSs X [] zsh:=λ_ _ σ H _ I h=>Mv ⟨σ,H,I,h⟩
theorem za7(h1:PS X st t)(h2:PSs X rest u):PSs X (st::rest) (tSeq t u):=by
 intro pins s σ H D I h;refine wpAny_execs_cons (thn (h1 pins s σ H { D with nx:=u D } I h) λf s1 q=>?_)
 cases f with
 | next=>
   obtain⟨σ',H',I',q⟩:=q;exact h2 pins s1 σ' H' D I' q
 | ret v=>exact q
 | brk=>exact q
 | cont=>exact q
theorem zcq(h1:PS X st t):PSs X [st] t:=by
 intro pins s σ H D I h;refine wpAny_execs_cons (thn (h1 pins s σ H D I h) λf s1 q=>?_)
 cases f with
 | next=>exact Mv q
 | ret v=>exact q
 | brk=>exact q
 | cont=>exact q
theorem Inv.quiet{pins:0.9}(I:0.5):interactive X.env=false:=by simp[interactive,I.ok.kind]
def zfy(te:TE):TS:=λD σ H=>te σ H λ_ H1=>D.nx σ H1
theorem zk1(he:PE X e te)(hs:Tc e none pos.line X.env=pure false:=by rfl):PS X (.Expr e pos) (zfy te):=by
 intro pins s σ H D I h;exact wpAny_Expr_any (thn (he pins s σ H _ I h) λv s1 ⟨x,H1,I1,r1,q1⟩=>⟨σ,H1,I1,q1⟩) I.quiet hs
def tRet(te:TE):TS:=λD σ H=>te σ H D.rt
theorem zd1(he:PE X e te):PS X (.Return (some e) pos) (tRet te):=by
 intro pins s σ H D I h;exact wpAny_Return_some (thn (he pins s σ H _ I h) λv s1 ⟨x,H1,I1,r1,q1⟩=>⟨x,σ,H1,I1,r1,q1⟩)
def tIfS(c:TT)(t u:TS):TS:=λD σ H=>c σ H λb H1=>if b=true then t D σ H1 else u D σ H1
theorem z0x(hc:PT X c tc)(ha:PSs X a t)(hb:PSs X b u):PS X (.If c a b pos) (tIfS tc t u):=by
 intro pins s σ H D I h;refine wpAny_If (thn (hc pins s σ H _ I h) λd s1 zz=>?_);obtain⟨H1,I1,q1⟩:=zz
 cases d with
 | true=>exact ha pins s1 σ H1 D I1 q1
 | false=>exact hb pins s1 σ H1 D I1 q1
end
abbrev TG:=V->St->Hp->(St->Hp->Prop)->Prop
abbrev TGs:=List V->St->Hp->(St->Hp->Prop)->Prop
def PG(X:Cx)(target:Expr)(t:TG):Prop :=
 ∀(pins:0.9) (s:GJ) (σ:St) (H:Hp) (v:V) (u:GH) (Q:St->Hp->Prop),Inv X pins σ H s->RelV v u->t v σ H Q ->
   wpAny 0.8 X.A (Ny target X.env u) (λ_ s'=>∃σ' H',Inv X pins σ' H' s'/\Q σ' H') X.xe s
def PGs(X:Cx)(ts:List Expr)(t:TGs):Prop :=
 ∀(pins:0.9) (s:GJ) (σ:St) (H:Hp) (vs:3.3) (us:2.8) (Q:St->Hp->Prop),Inv X pins σ H s->Vals vs us->t vs σ H Q ->
   wpAny 0.8 X.A (assignInOrder ((Mc ts X.env).map (·.2)) us) (λ_ s'=>∃σ' H',Inv X pins σ' H' s'/\Q σ' H') X.xe s
section
variable {X:Cx}{pos:Pos}
def zav(i:Nat):TG:=λv σ H Q=>Q (σ.set i (some v)) H
theorem zdw{i:Nat}(hN:X.N.Nodup)(hi:X.N[i]? = some x)(hx:Loc X.env.scope x)(hf:X.fn x=true\/X.env.scope.names.lookup x=some .local:=by first|exact .inl rfl|exact .inr rfl|assumption):PG X (.Name x pos) (zav i):=by
 intro pins s σ H v u Q I r h;exact wpAny_assign_Name (zfz I hN hi hx r (λs' I'=>⟨_,H,I',h⟩) hf)
def gNil:TGs:=λvs σ H Q=>vs = []/\Q σ H
def zjc(t:TG)(u:TGs):TGs:=λvs σ H Q=>∃v r,vs=v::r/\t v σ H λσ' H'=>u r σ' H' Q
theorem z1s:PGs X [] gNil:=by
 intro pins s σ H vs us Q I r h;obtain⟨e,h⟩:=h;subst e;cases r;exact assignInOrder_nil ⟨σ,H,I,h⟩
theorem zx0(h1:PG X e t)(h2:PGs X es u)
 (hs:(Mc (e::es) X.env).map (·.2)=Ny e X.env::(Mc es X.env).map (·.2):=by rfl):PGs X (e::es) (zjc t u):=by
 intro pins s σ H vs us Q I r h;obtain⟨v,vr,e1,h⟩:=h;subst e1
 cases r with
 | cons r rr=>
   rw[hs];refine Mx (thn (h1 pins s σ H _ _ _ I r h) λ_ s1 zz=>?_);obtain⟨σ1,H1,I1,q1⟩:=zz;exact h2 pins s1 σ1 H1 _ _ Q I1 rr q1
def gTup(K:Qa)(n:Nat)(t:TGs):TG:=λv σ H Q=>∃a xs,v = .ref a/\SqT K H a xs/\xs.length=n/\t xs σ H Q
theorem z7d{k:Nat}{n:Nat}(hc:X.calm=true)(h:PGs X es t)
 (hn:(Mc es X.env).length=n:=by rfl) (hst:(Mc es X.env).findIdx? (·.1)=none:=by rfl):PG X (.Tuple es k pos) (gTup X.K n t):=by
 intro pins s σ H v u Q I r hw;obtain⟨a,xs,e1,hq,hl,hw⟩:=hw;subst e1;cases r;obtain⟨its,rv,ht,hz⟩:=I.tuple hq;refine assign_Tuple_tuple (I.ok.hd hc) ht (by simp[hn,<- hl,rv.length]) hst λh' hx=>?_;have I1:Inv X pins σ H 3.9:=I.kept (t':=s.toks) λb o e=>hx b o (Q0 (Qv e)) e;exact h pins _ σ H xs _ Q I1 (by simpa using rv) hw
def tAsg(te:TE)(g:TG):TS:=λD σ H=>te σ H λx H1=>g x σ H1 D.nx
theorem zb3{i:Nat}{pos':Pos}(hN:X.N.Nodup)(hi:X.N[i]? = some x)(hx:Loc X.env.scope x)(he:PE X e te)(hs:Tc e (some (.Name x pos')) pos.line X.env=pure false:=by rfl)(hf:X.fn x=true\/X.env.scope.names.lookup x=some .local:=by first|exact .inl rfl|exact .inr rfl|assumption):
 PS X (.Assign [.Name x pos'] e pos) (tAsg te (zav i)):=by
 intro pins s σ H D I h;refine wpAny_Assign_Name (thn (he pins s σ H _ I h) λv s1 zz=>?_) hs;obtain⟨y,H1,I1,r1,q1⟩:=zz;exact zfz I1 hN hi hx r1 (λs2 I2=>⟨_,H1,I2,q1⟩) hf
def tPar(i j:Nat)(ta:TA):TS:=λD σ H=>ta σ H λvs H1=>∃v w,vs = [v,w]/\D.nx ((σ.set i (some v)).set j (some w)) H1
theorem z6a{i j:Nat}{pt:Pos}{kt k2 pt2}(hc:X.calm=true)(hN:X.N.Nodup)(hi:X.N[i]? = some x)(hj:X.N[j]? = some y)(hij:i≠j)
 (hx:X.env.scope.names.lookup x=some .local) (hy:X.env.scope.names.lookup y=some .local) (ha:PA X [a,b] ta)
 (hw:swappedStores [.Tuple [.Name x px,.Name y py] kt pt] (.Tuple [a,b] k2 pt2) X.env=pure (some [x,y]))
 (hs:swapsWithSole [.Tuple [.Name x px,.Name y py] kt pt] (.Tuple [a,b] k2 pt2) pos.line X.env=pure false:=by rfl) :
 PS X (.Assign [.Tuple [.Name x px,.Name y py] kt pt] (.Tuple [a,b] k2 pt2) pos) (tPar i j ta):=by
 intro pins s σ H D I h;rw[exec_Assign_arm];refine GF (Nl ?_);rw[hs];refine GF (GI ?_);rw[NJ 0.2];refine GF (Tuple_ (thn (ha _ pins s σ H _ I h) λus s1 zz=>?_));obtain⟨vs,H1,I1,r1,q1⟩:=zz;obtain⟨v,w,e1,q1⟩:=q1;subst e1
 obtain⟨u1,u2,rfl,rv,rw'⟩:∃u1 u2,us = [u1,u2]/\RelV v u1/\RelV w u2:=by
  cases r1 with
  | cons p q=>
    cases q with
    | cons p' q'=>
      cases q';exact⟨_,_,rfl,p,p'⟩
 refine GX ?_ (by show 2<=sizeLine;decide);have I2:Inv X pins σ H1 { s1 with heap:=s1.heap.push { cls:=.type "tuple",data:=.seq [u1,u2].toArray } }:=I1.kept (t':=s1.toks) λb o e=>Qf _ e;rw[hw];refine GF (GI ?_);show wpAny 0.8 X.A (do rule "assign.swapped-stores";let items <- unpackItems (.ref s1.heap.objs.size) 2 none;assignInOrder [λv=>NF X.env y v,λv=>NF X.env x v] items.reverse;pure Flow.next) _ _ _;refine GF (Tr (GF (unpackItems_tuple (items:=#[u1,u2]) (I.ok.hd hc) (Gb s1.heap _) λh' hx'=>?_)));have I3:=I2.kept (h':=h') (t':=s1.toks) λb o e=>hx' b o (Q0 (Qv e)) e;show wpAny _ _ (assignInOrder [λv=>NF X.env y v,λv=>NF X.env x v] [u2,u1] >>= λ_=>pure Flow.next) _ _ _;refine GF (Mx (wpAny_bindName (zfz I3 hN hj (.inl hy) rw' (λs2 I4=>?_) (.inr hy))));refine Mx (wpAny_bindName (zfz I4 hN hi (.inl hx) rv (λs3 I5=>assignInOrder_nil (GI ?_)) (.inr hx)));rw[List.set_comm _ _ (Z8 hij)] at I5;exact⟨_,H1,I5,q1⟩
end
section
variable {X:Cx}{pos:Pos}
def znp(c:TT)(tb:TS):TS:=λD σ H=>∃W:Nat->St->Hp->Prop,(∃m,W m σ H)/\∀m σ H,W m σ H ->
 c σ H λb H1=>if b=true then ∃N:St->Hp->Prop,(∀σ' H',N σ' H'->∃m',m'<m/\W m' σ' H')/\tb { D with nx:=N,ct:=N,bk:=D.nx } σ H1 else D.nx σ H1
theorem zn4{body:List Stmt}(hp:PassesOwn 0.8 X.A X.env X.xe)(hc:PT X c tc)(hb:PSs X body tb):PS X (.While c body [] pos) (znp tc tb):=by
 intro pins s σ H D I h;obtain⟨W,⟨m0,w0⟩,turn⟩:=h;refine wpAny_While (codeAny_whileLoop (λn s'=>∃σ' H',Inv X pins σ' H' s'/\W n σ' H') ?_ m0 ⟨σ,H,I,w0⟩);rintro n s1 ⟨σ1,H1,I1,w1⟩;refine TF hp (thn (hc pins s1 σ1 H1 _ I1 (turn n σ1 H1 w1)) λb s2 zz=>?_);obtain⟨H2,I2,q2⟩:=zz
 cases b with
 | true=>
   obtain⟨N,hN,q2⟩:=q2;rw[NI rfl];refine TF hp (thn (hb pins s2 σ1 H2 _ I2 q2) λf s3 q3=>?_)
   cases f with
   | next=>
     obtain⟨σ3,H3,I3,n3⟩:=q3;obtain⟨m',hm,w3⟩:=hN σ3 H3 n3;exact⟨m',hm,σ3,H3,I3,w3⟩
   | cont=>
     obtain⟨σ3,H3,I3,n3⟩:=q3;obtain⟨m',hm,w3⟩:=hN σ3 H3 n3;exact⟨m',hm,σ3,H3,I3,w3⟩
   | brk=>exact q3
   | ret v=>exact q3
 | false=>
   rw[NJ Qx];exact Mv ⟨σ1,H2,I2,q2⟩
end
structure It where
 go:Nat->Hp->Prop
 yld:Nat->Hp->V->Hp->Prop
 stop:Nat->Hp->Prop
def FpOk(X:Cx)(pins:0.9)(H:Hp)(b:Addr):Prop :=
 H b=none/\b≠X.env.locals/\b ∉ X.fs/\(b∈X.ex\/X.s₀.heap.objs.size<=b)/\(∀x c,X.env.cells.lookup x=some c->c≠b)/\∀p∈X.pn++pins,p.1≠b
theorem Inv.fpOk{pins:0.9}(I:0.5)(hb:s.heap.objs.size<=b)(hn:H' b=none):FpOk X pins H' b:=by
 refine⟨hn,Yn (QM I.lt hb),I.nofs hb,.inr (Q1 I.sz hb),λx c e z=>?_,λp hp z=>?_⟩
 .obtain⟨v,q⟩:=I.cell x c e;exact absurd (QM q.lt (by rw[z];exact hb)) (Zl _)
 .exact absurd (QM (Qv (I.pin p hp).1) (by rw[z];exact hb)) (Zl _)
structure Turn(P:GK)(w:GM)(K:Qa)(tg:Expr)(J:It)(fp:5.6)(it:Addr)(tn:Nat->Heap->Prop):Prop where
 mem:it∈fp
 obj:∀i h,tn i h->∀b∈fp,∃o,h.get? b=some o/\∀v,o.data≠.cell v
 keep:∀i h h',tn i h->(∀b∈fp,∀o,h.get? b=some o->h'.get? b=some o)->tn i h'
 item:∀(X:Cx),X.prog=P->X.w=w->X.K=K->X.calm=true->∀(i:Nat) (pins:0.9) (s:GJ) (σ:St) (H:Hp) (E:1.0),Inv X pins σ H s->(∀b∈fp,FpOk X pins H b)->tn i s.heap->J.go i H ->
  wpAny 1.5 X.A (N0 (.ref it)) (λr s1=>∃u,r=some u /\
   wpAny 1.5 X.A (Mt tg (.ref it) u) (λ_ s2=>∃x H',Inv X pins σ H' s2/\RelV x u/\J.yld i H x H'/\tn (i+1) s2.heap/\∀b∈fp,H' b=none) E s1) E s
 done:∀(X:Cx),X.prog=P->X.w=w->X.K=K->X.calm=true->∀(i:Nat) (pins:0.9) (s:GJ) (σ:St) (H:Hp) (E:1.0),Inv X pins σ H s->(∀b∈fp,FpOk X pins H b)->tn i s.heap->J.stop i H ->
  wpAny 1.5 X.A (N0 (.ref it)) (λr s1=>r=none/\Inv X pins σ H s1) E s
 self:∀(A:GQ) (i:Nat) (s:GJ) (Q:1.0) (E:1.0),tn i s.heap->Q (.ref it) s->wpAny 1.5 A (MN (.ref it)) Q E s
abbrev TI:=St->Hp->(It->Hp->Prop)->Prop
def PIE(X:Cx)(pins:0.9)(σ:St)(tg:Expr)(R:It->Hp->Prop)(itv:GH)(s2:GJ):Prop :=
 ∃(it:Addr) (fp:5.6) (tn:Nat->Heap->Prop) (J:It) (H':Hp),itv = .ref it/\Inv X pins σ H' s2/\Turn X.prog X.w X.K tg J fp it tn/\tn 0 s2.heap/\(∀b∈fp,FpOk X pins H' b)/\R J H'
def PI(X:Cx)(tg iter:Expr)(wi:TI):Prop :=
 ∀(pins:0.9) (s:GJ) (σ:St) (H:Hp) (R:It->Hp->Prop),Inv X pins σ H s->wi σ H R ->
   wpAny 0.8 X.A (eval iter X.env) (λv s1=>wpAny 0.8 X.A (MN v) (PIE X pins σ tg R) X.xe s1) X.xe s
theorem zjq(ho:s.heap.get? it=some o)(hc:o.cls = .type n)(hd:o.data = .fields vs)
 (hn:["enumerate", "zip", "dict_itemiterator", "dict_reverseitemiterator", "odict_iterator", "itertools.zip_longest", "itertools.pairwise"].contains n=false) (hQ:Q () s):wpAny M A (Mt tg (.ref it) u) Q E s:=by
 unfold Mt
 cases tg <;> first
  | exact GI hQ
  | (cases u <;> first
   | exact GI hQ
   | (refine GF (wpAny_load ho ?_)
      rw[hc,hd];show wpAny M A (if(["enumerate", "zip", "dict_itemiterator", "dict_reverseitemiterator", "odict_iterator", "itertools.zip_longest", "itertools.pairwise"].contains n && vs[0]? == some (rawInt _))=true then _ else _) Q E s;rw[NJ (by intro h;rw[hn,Bool.false_and] at h;cases h)]
      exact GI hQ))
def Itl(K:Qa)(a:Addr):It :=
 ⟨λi H=>∃xs x,SqL K H a xs/\xs[i]? = some x,λi H x H'=>H'=H/\∀xs,SqL K H a xs->xs[i]? = some x,λi H=>∃xs,SqL K H a xs/\xs.length<=i⟩
def Itt(K:Qa)(a:Addr):It :=
 ⟨λi H=>∃xs x,SqT K H a xs/\xs[i]? = some x,λi H x H'=>H'=H/\∀xs,SqT K H a xs->xs[i]? = some x,λi H=>∃xs,SqT K H a xs/\xs.length<=i⟩
def Itr(lo:Int)(n:Nat):It:=⟨λi _=>i<n,λi H x H'=>H'=H/\x = .int (lo+i),λi _=>n<=i⟩
theorem zut{P:GK}{w:GM}{K:Qa}{tg:Expr}(a it:Addr):Turn P w K tg (Itl K a) [it] it (λi h=>h.IsListIter it a i) where
 mem:=by simp
 obj:=λi h st b hb=>by
  have e:b=it:=by simpa using hb
  subst e;obtain⟨o,e,c,d⟩:=st;exact⟨o,e,λv z=>by rw[d] at z;cases z⟩
 keep:=λi h h' st k=>st.at λo e=>k it 0.1 o e
 item:=by
  intro X hP hw hK hc i pins s σ H E I hf st hg;subst hP hw hK;obtain⟨xs,x,hq,hx⟩:=hg;obtain⟨its,rv,p,hz⟩:=I.list hq;obtain⟨u,hu,ru⟩:=rv.get hx;obtain⟨f0,f1,f2,f3,f4,f5⟩:=hf it 0.1;refine wpAny_pyNext_list_item st p.isList (x:=u) (by simpa using hu) λh' st' sb=>?_;have I1:Inv X pins σ H 3.9:=I.turned (t':=s.toks) (λb o hb e=>(sb.2 b hb).trans e) f0 f1 f3 f4 f5;obtain⟨o,e,c,d⟩:=id st';exact⟨u,rfl,zjq (s:=3.9) e c d 0.2 ⟨x,H,I1,ru,⟨rfl,λys hy=>by rw[I.list_inj hy hq];exact hx⟩,st',λb hb=>(hf b hb).1⟩⟩
 done:=by
  intro X hP hw hK hc i pins s σ H E I hf st hg;subst hP hw hK;obtain⟨xs,hq,hx⟩:=hg;obtain⟨its,rv,p,hz⟩:=I.list hq;obtain⟨f0,f1,f2,f3,f4,f5⟩:=hf it 0.1;have hl:=rv.length;exact wpAny_pyNext_list_end (I.ok.hd hc) st p.isList (by simp;lia) λh' eb=>⟨rfl,I.turned (t':=s.toks) (λb o hb e=>eb b o hb e) f0 f1 f3 f4 f5⟩
 self:=λ_ _ _ _ _ st h=>wpAny_pyIter_listiter st h
theorem zsr{P:GK}{w:GM}{K:Qa}{tg:Expr}(a it:Addr):Turn P w K tg (Itt K a) [it] it (λi h=>h.IsTupleIter it a i) where
 mem:=by simp
 obj:=λi h st b hb=>by
  have e:b=it:=by simpa using hb
  subst e;obtain⟨o,e,c,d⟩:=st;exact⟨o,e,λv z=>by rw[d] at z;cases z⟩
 keep:=λi h h' st k=>st.at λo e=>k it 0.1 o e
 item:=by
  intro X hP hw hK hc i pins s σ H E I hf st hg;subst hP hw hK;obtain⟨xs,x,hq,hx⟩:=hg;obtain⟨its,rv,p,hz⟩:=I.tuple hq;obtain⟨u,hu,ru⟩:=rv.get hx;obtain⟨f0,f1,f2,f3,f4,f5⟩:=hf it 0.1;refine wpAny_pyNext_tuple_item st (show s.heap.IsTuple a its.toArray from p) (x:=u) (by simpa using hu) λh' st' sb=>?_;have I1:Inv X pins σ H 3.9:=I.turned (t':=s.toks) (λb o hb e=>(sb.2 b hb).trans e) f0 f1 f3 f4 f5;obtain⟨o,e,c,d⟩:=id st';exact⟨u,rfl,zjq (s:=3.9) e c d 0.2 ⟨x,H,I1,ru,⟨rfl,λys hy=>by rw[I.tuple_inj hy hq];exact hx⟩,st',λb hb=>(hf b hb).1⟩⟩
 done:=by
  intro X hP hw hK hc i pins s σ H E I hf st hg;subst hP hw hK;obtain⟨xs,hq,hx⟩:=hg;obtain⟨its,rv,p,hz⟩:=I.tuple hq;obtain⟨f0,f1,f2,f3,f4,f5⟩:=hf it 0.1;have hl:=rv.length;exact wpAny_pyNext_tuple_end (I.ok.hd hc) st (show s.heap.IsTuple a its.toArray from p) (by simp;lia) λh' eb=>⟨rfl,I.turned (t':=s.toks) (λb o hb e=>eb b o hb e) f0 f1 f3 f4 f5⟩
 self:=λ_ _ _ _ _ st h=>wpAny_pyIter_tupleiter st h
theorem zs6{P:GK}{w:GM}{K:Qa}{tg:Expr}(it:Addr)(lo:Int)(n:Nat):Turn P w K tg (Itr lo n) [it] it (λi h=>IsRangeIter h it (lo+(i:Nat) * 1) ((n:Int)-(i:Nat)) 1) where
 mem:=by simp
 obj:=λi h st b hb=>by
  have e:b=it:=by simpa using hb
  subst e
  exact⟨_,st,λv z=>by
   have z':Data.fields _=Data.cell v:=z
   cases z'⟩
 keep:=λi h h' st k=>k it 0.1 _ st
 item:=by
  intro X hP hw hK hc i pins s σ H E I hf st hg;subst hP hw hK;obtain⟨f0,f1,f2,f3,f4,f5⟩:=hf it 0.1;have W:=Walks.range (prog:=X.prog) (w:=X.w) (I.ok.hd hc) it lo 1 n;refine W.item i s _ _ hg st λv h' tk hv st' kk=>?_;obtain⟨t,rfl⟩:=hv;have I1:Inv X pins σ H { s with heap:=h',toks:=tk }:=I.turned (λb o hb e=>kk b o (by simpa using hb) e) f0 f1 f3 f4 f5;refine⟨_,rfl,zjq (s:={ s with heap:=h',toks:=tk }) (n := "range_iterator") st' rfl rfl 0.2 ⟨.int (lo+i),H,I1,⟨t,?_⟩,⟨rfl,rfl⟩,st',λb hb=>(hf b hb).1⟩⟩;rw[Int.mul_one]
 done:=by
  intro X hP hw hK hc i pins s σ H E I hf st hg;subst hP hw hK;obtain⟨f0,f1,f2,f3,f4,f5⟩:=hf it 0.1;exact wpAny_pyNext_range_end (I.ok.hd hc) st (by have:n<=i:=hg;lia) λh' eb=>⟨rfl,I.turned (t':=s.toks) (λb o hb e=>eb b o hb e) f0 f1 f3 f4 f5⟩
 self:=λ_ _ _ _ _ st h=>wpAny_pyIter_rangeiter st h
section
variable {X:Cx}{tg:Expr}
def zel(K:Qa)(tl:TE):TI:=λσ H R=>tl σ H λx H1=>∃a,x = .ref a/\(∃xs,SqL K H1 a xs)/\R (Itl K a) H1
def iTup(K:Qa)(tl:TE):TI:=λσ H R=>tl σ H λx H1=>∃a,x = .ref a/\(∃xs,SqT K H1 a xs)/\R (Itt K a) H1
theorem ze6(hl:PE X l tl):PI X tg l (zel X.K tl):=by
 intro pins s σ H R I h;refine thn (hl pins s σ H _ I h) λv s1 zz=>?_;obtain⟨x,H1,I1,r1,q1⟩:=zz;obtain⟨a,e,⟨xs,hq⟩,q⟩:=q1;subst e;cases r1;obtain⟨its,rv,p,hz⟩:=I1.list hq;refine M7 p.isList ?_;refine⟨s1.heap.objs.size,[s1.heap.objs.size],_,_,H1,rfl,I1.kept (t':=s1.toks) λb o e=>Qf _ e,zut a _,⟨_,Qs _ rfl,rfl,rfl⟩,λb hb=>?_,q⟩;have e:b=s1.heap.objs.size:=by simpa using hb
 subst e;exact I1.fpOk (Qg _) (I1.hok.fresh (Qg _))
theorem z6w(hl:PE X l tl):PI X tg l (iTup X.K tl):=by
 intro pins s σ H R I h;refine thn (hl pins s σ H _ I h) λv s1 zz=>?_;obtain⟨x,H1,I1,r1,q1⟩:=zz;obtain⟨a,e,⟨xs,hq⟩,q⟩:=q1;subst e;cases r1;obtain⟨its,rv,p,hz⟩:=I1.tuple hq;refine wpAny_pyIter_tuple (show s1.heap.IsTuple a its.toArray from p) ?_;refine⟨s1.heap.objs.size,[s1.heap.objs.size],_,_,H1,rfl,I1.kept (t':=s1.toks) λb o e=>Qf _ e,zsr a _,⟨_,Qs _ rfl,rfl,rfl⟩,λb hb=>?_,q⟩;have e:b=s1.heap.objs.size:=by simpa using hb
 subst e;exact I1.fpOk (Qg _) (I1.hok.fresh (Qg _))
theorem zxi{pins:0.9}{R:It->Hp->Prop}{lo hi:Int}{tk:Nat}(I:0.5)(h1:-(2 ^ 62)<=lo)(h2:lo<2 ^ 62)(h3:-(2 ^ 62)<=hi)(h4:hi<2 ^ 62)
 (q:R (Itr lo (hi-lo).toNat) H):wpAny 0.8 X.A (MN 3.8) (PIE X pins σ tg R) E { s with heap:=s.heap.push { cls:=.type "range",data:=.fields #[.int lo t,.int hi u,.int 1 v] },toks:=tk }:=by
 refine wpAny_pyIter_range (IsRange.new ..) (small_one h1 h2 h3 h4) ?_;have I1:Inv X pins σ H { s with heap:=s.heap.push { cls:=.type "range",data:=.fields #[.int lo t,.int hi u,.int 1 v] },toks:=tk }:=I.kept λb o e=>Qf _ e
 refine⟨(s.heap.push { cls:=.type "range",data:=.fields #[.int lo t,.int hi u,.int 1 v] }).objs.size,[(s.heap.push { cls:=.type "range",data:=.fields #[.int lo t,.int hi u,.int 1 v] }).objs.size],_,_,H,rfl,
  I1.kept (t':=tk) λb o e=>Qf _ e,zs6 _ lo (hi-lo).toNat,?_,λb hb=>?_,q⟩
 .have e1:lo+((0:Nat):Int) * 1=lo:=by simp
  have e2:(((hi-lo).toNat:Nat):Int)-((0:Nat):Int)=Builtin.Range.rangeSize lo hi 1:=by rw[rangeSize_one];split <;> lia
  show IsRangeIter _ _ (lo+((0:Nat):Int) * 1) ((((hi-lo).toNat:Nat):Int)-((0:Nat):Int)) 1;rw[e1,e2];exact Qs _ rfl
 .have e:b=(s.heap.push { cls:=.type "range",data:=.fields #[.int lo t,.int hi u,.int 1 v] }).objs.size:=by simpa using hb
  subst e;exact I1.fpOk (Qg _) (I1.hok.fresh (Qg _))
def zr1(ta:TA):TI:=λσ H R=>ta σ H λvs H1=>∃j:Int,vs = [.int j]/\-(2 ^ 62)<=j/\j<2 ^ 62/\R (Itr 0 j.toNat) H1
theorem zl7(hg:Gl X "range")(hm:X.mg "range" = none)(ha:PA X [a] ta)(hs:GN [a] X.env = [(false,eval a X.env)]:=by rfl):PI X tg (.Call (.Name "range" p) [a] [] pos) (zr1 ta):=by
 intro pins s σ H R I h;refine Call_ (zcf I hg hm boot_range (Z9 (thn (ha pos pins s σ H _ I h) λus s1 zz=>?_) hs rfl));obtain⟨vs,H1,I1,r1,q1⟩:=zz;obtain⟨j,e,q1,q2,q⟩:=q1;subst e
 cases r1 with
 | cons r rr=>
   cases rr;obtain⟨t,rfl⟩:=r;exact call_range_1 (zxi I1 0.0 0.0 q1 q2 (by simpa using q))
def tFor(wi:TI)(g:TG)(tb:TS):TS:=λD σ H=>wi σ H λJ H1=>∃W:Nat->Nat->St->Hp->Prop,(∃m,W 0 m σ H1)/\∀i m σ H,W i m σ H ->
 (J.stop i H/\D.nx σ H)\/(J.go i H/\∃N:St->Hp->Prop,(∀σ' H',N σ' H'->∃m',m'<m/\W (i+1) m' σ' H')/\∀x H',J.yld i H x H'->g x σ H' λσ2 H2=>tb { D with nx:=N,ct:=N,bk:=D.nx } σ2 H2)
def zgm(fp:5.6)(h:Heap):List (Addr×Obj):=fp.filterMap λb=>(h.get? b).map λo=>(b,o)
theorem zdl(hb:b∈fp)(e:h.get? b=some o):(b,o)∈zgm fp h:=Y2.mpr ⟨b,hb,by rw[e];rfl⟩
theorem zww(hp:p∈zgm fp h):p.1∈fp/\h.get? p.1=some p.2:=by
 obtain⟨b,hb,e⟩:=Y2.mp hp
 cases q:h.get? b with
 | none=>rw[q] at e;cases e
 | some o=>
   rw[q] at e;have e':(b,o)=p:=Za e;subst e';exact⟨hb,q⟩
theorem Inv.pinned{pins:0.9}(I:0.5)(hf:∀b∈fp,FpOk X pins H b)(ho:∀b∈fp,∃o,s.heap.get? b=some o/\∀v,o.data≠.cell v):Inv X (pins++zgm fp s.heap) σ H s :=
 I.pins_of λp hp=>(Qq.mp hp).elim (λz=>I.pin p (QG _ z)) λz=>by
  obtain⟨hb,e⟩:=zww z;obtain⟨f0,f1,f2,_⟩:=hf p.1 hb;obtain⟨o,e',d⟩:=ho p.1 hb;rw[e] at e';cases e';exact⟨e,f0,f1,f2,d⟩
theorem Inv.unpinned{pins:0.9}(I:Inv X (pins++pl) σ H s):Inv X pins σ H s:=I.pins_of λp hp=>I.pin p (QG _ (QE _ hp))
theorem zv6{iter:Expr}{body:List Stmt}(hp:PassesOwn 0.8 X.A X.env X.xe)(hc:X.calm=true)(hi:PI X tg iter wi)(hg:PG X tg g)(hb:PSs X body tb)
 (hs:∀x,Tv iter X.env x=pure x:=by intro _;rfl):PS X (.For tg iter body [] pos) (tFor wi g tb):=by
 intro pins s σ H D I h;refine wpAny_For (thn (hi pins s σ H _ I h) λv s1 h1=>thn h1 λitv s2 h2=>?_) hs;obtain⟨it,fp,tn,J,H2,e,I2,T,st2,f2,W,⟨m0,w0⟩,turn⟩:=h2;subst e
 -- what stays true of the iterator's objects through the loop
 have stat:∀{H':Hp},(∀b∈fp,H' b=none)->∀b∈fp,FpOk X pins H' b:=λhn b hb=>⟨hn b hb,(f2 b hb).2⟩;refine codeAny_forLoop_any (λn s'=>∃i σ' H',Inv X pins σ' H' s'/\tn i s'.heap/\(∀b∈fp,H' b=none)/\W i n σ' H') ?_ m0 ⟨0,σ,H2,I2,st2,λb hb=>(f2 b hb).1,w0⟩;rintro n s3 ⟨i,σ3,H3,I3,st3,fr3,w3⟩;rcases turn i n σ3 H3 w3 with ⟨stop,qn⟩|⟨go,N,hN,step⟩
 .refine TF hp (thn (T.done X rfl rfl rfl hc i pins s3 σ3 H3 X.xe I3 (stat fr3) st3 stop) λr s4 zz=>?_);obtain⟨hr,I4⟩:=zz;subst hr;exact Mv ⟨σ3,H3,I4,qn⟩
 .refine TF hp (thn (T.item X rfl rfl rfl hc i pins s3 σ3 H3 X.xe I3 (stat fr3) st3 go) λr s4 zz=>?_);obtain⟨u,hr,h4⟩:=zz;subst hr;refine TF hp (thn h4 λ_ s5 zz=>?_);obtain⟨x,H5,I5,r5,y5,st5,fr5⟩:=zz;have I5':=I5.pinned (stat fr5) (T.obj _ _ st5);refine TF hp (thn (hg _ s5 σ3 H5 x u _ I5' r5 (step x H5 y5)) λ_ s6 zz=>?_);obtain⟨σ6,H6,I6,q6⟩:=zz;refine TF hp (thn (hb _ s6 σ6 H6 _ I6 q6) λf s7 q7=>?_)
  have again:∀{σ7:St} {H7:Hp},Inv X (pins++zgm fp s5.heap) σ7 H7 s7->N σ7 H7->∃m,m<n/\∃i σ' H',Inv X pins σ' H' s7/\tn i s7.heap/\(∀b∈fp,H' b=none)/\W i m σ' H':=λ{σ7 H7} I7 n7=>by
   obtain⟨m',hm,w7⟩:=hN σ7 H7 n7;refine⟨m',hm,i+1,σ7,H7,I7.unpinned,T.keep _ _ _ st5 λb hb o e=>(I7.pin (b,o) (QG _ (QG _ (zdl hb e)))).1,λb hb=>?_,w7⟩;obtain⟨o,e,d⟩:=T.obj _ _ st5 b hb;exact(I7.pin (b,o) (QG _ (QG _ (zdl hb e)))).2.1
  cases f with
  | next=>obtain⟨σ7,H7,I7,n7⟩:=q7;exact again I7 n7
  | cont=>obtain⟨σ7,H7,I7,n7⟩:=q7;exact again I7 n7
  | brk=>obtain⟨σ7,H7,I7,q7⟩:=q7;exact⟨σ7,H7,I7.unpinned,q7⟩
  | ret v=>obtain⟨x7,σ7,H7,I7,r7,q7⟩:=q7;exact⟨x7,σ7,H7,I7.unpinned,r7,q7⟩
end
theorem zxf{K:Qa}{a:Addr}{xs:3.3}{g:TG}{tb:TS}{D:Ends}{σ:St}{H:Hp}(Pv:Nat->St->Hp->Prop)(h0:Pv 0 σ H)(hl:∀i σ H,i<=xs.length->Pv i σ H->SqL K H a xs)
 (hs:∀i x σ H,xs[i]? = some x->Pv i σ H->g x σ H λσ2 H2=>tb { D with nx:=Pv (i+1),ct:=Pv (i+1),bk:=D.nx } σ2 H2) (hd:∀σ H,Pv xs.length σ H->D.nx σ H) :
 ∃W:Nat->Nat->St->Hp->Prop,(∃m,W 0 m σ H)/\∀i m σ H,W i m σ H ->
   ((Itl K a).stop i H/\D.nx σ H)\/((Itl K a).go i H/\∃N:St->Hp->Prop,(∀σ' H',N σ' H'->∃m',m'<m/\W (i+1) m' σ' H')/\∀x H',(Itl K a).yld i H x H'->g x σ H' λσ2 H2=>tb { D with nx:=N,ct:=N,bk:=D.nx } σ2 H2):=by
 refine⟨λi m σ H=>m=xs.length-i/\i<=xs.length/\Pv i σ H,⟨xs.length,by simp,Q6 _,h0⟩,?_⟩;rintro i m σ H ⟨rfl,hi,p⟩;have q:=hl i σ H hi p
 by_cases hlt:i<xs.length
 .refine .inr ⟨⟨xs,xs[i],q,by simp[hlt]⟩,Pv (i+1),λσ' H' p'=>⟨xs.length-(i+1),by lia,rfl,hlt,p'⟩,λx H' y=>?_⟩;obtain⟨e,y⟩:=y;subst e;exact hs i x σ _ (y xs q) p
 .have e:i=xs.length:=by lia
  subst e;exact .inl ⟨⟨xs,q,Qg _⟩,hd σ H p⟩
abbrev R2:=V->V->Hp->VK->Prop
def OpR(X:Cx)(f:GH->GH->Sem GH)(r:R2):Prop :=
 ∀(pins:0.9) (s:GJ) (σ:St) (H:Hp) (x y:V) (v u:GH) (Q:VK),Inv X pins σ H s->RelV x v->RelV y u->r x y H Q ->
   wpAny 0.8 X.A (f v u) (EP X pins σ Q) X.xe s
def UnR(X:Cx)(f:GH->Sem GH)(r:V->Hp->VK->Prop):Prop :=
 ∀(pins:0.9) (s:GJ) (σ:St) (H:Hp) (x:V) (v:GH) (Q:VK),Inv X pins σ H s->RelV x v->r x H Q ->
   wpAny 0.8 X.A (f v) (EP X pins σ Q) X.xe s
def zcz(X:Cx)(f:GH)(r:List V->Hp->VK->Prop):Prop :=
 ∀(pins:0.9) (s:GJ) (σ:St) (H:Hp) (xs:3.3) (us:2.8) (Q:VK),Inv X pins σ H s->Vals xs us->r xs H Q ->
   wpAny 0.8 X.A (call f us) (EP X pins σ Q) X.xe s
def TruR(X:Cx)(r:V->Hp->(Bool->Hp->Prop)->Prop):Prop :=
 ∀(pins:0.9) (s:GJ) (σ:St) (H:Hp) (x:V) (v:GH) (Q:Bool->Hp->Prop),Inv X pins σ H s->RelV x v->r x H Q ->
   wpAny 0.8 X.A (truthy v) (TP X pins σ Q) X.xe s
def tOp(r:R2)(ta tb:TE):TE:=λσ H Q=>ta σ H λx H1=>tb σ H1 λy H2=>r x y H2 Q
def tUn(r:V->Hp->VK->Prop)(ta:TE):TE:=λσ H Q=>ta σ H λx H1=>r x H1 Q
def rI(C:Int->Int->Prop)(g:Int->Int->V):R2:=λx y H Q=>∃i j,x = .int i/\y = .int j/\C i j/\Q (g i j) H
def rI0(g:Int->Int->V):R2:=λx y H Q=>∃i j,x = .int i/\y = .int j/\Q (g i j) H
def rU(g:Int->V):V->Hp->VK->Prop:=λx H Q=>∃i,x = .int i/\Q (g i) H
section
variable {X:Cx}{a b c:Expr}{ta tb tc:TE}{pos:Pos}
theorem binT(ha:PE X a ta)(hb:PE X b tb){pins:0.9}{s:GJ}{σ:St}{H:Hp}{R:V->V->Hp->Prop}(I:0.5)
 (h:ta σ H λx H1=>tb σ H1 λy H2=>R x y H2) {Q:1.0} {f:GH->GH->Sem GH}
 (hf:∀v u s2 x y H2,Inv X pins σ H2 s2->RelV x v->RelV y u->R x y H2->wpAny 0.8 X.A (f v u) Q X.xe s2) :
 wpAny 0.8 X.A (eval a X.env) (λv s₁=>wpAny 0.8 X.A (eval b X.env) (λu s₂=>wpAny 0.8 X.A (f v u) Q X.xe s₂) X.xe s₁) X.xe s:=by
 refine thn (ha pins s σ H _ I h) λv s1 zz=>?_;obtain⟨x,H1,I1,r1,q1⟩:=zz;refine thn (hb pins s1 σ H1 _ I1 q1) λu s2 zz=>?_;obtain⟨y,H2,I2,r2,q2⟩:=zz;exact hf v u s2 x y H2 I2 r1 r2 q2
theorem za8(ho:OpR X (TU op) r)(ha:PE X a ta)(hb:PE X b tb):PE X (.BinOp a op b pos) (tOp r ta tb):=by
 intro pins s σ H Q I h;exact wpAny_BinOp (binT ha hb I h λv u s2 x y H2 I2 rx ry q=>ho pins s2 σ H2 x y v u Q I2 rx ry q)
theorem yah(ho:UnR X (unaryOp op) r)(ha:PE X a ta):PE X (.UnaryOp op a pos) (tUn r ta):=by
 intro pins s σ H Q I h;exact UnaryOp_ (thn (ha pins s σ H _ I h) λv s1 ⟨x,H1,I1,r1,q1⟩=>ho pins s1 σ H1 x v Q I1 r1 q1)
theorem opI{f:GH->GH->Sem GH}{C:Int->Int->Prop}{g:Int->Int->Int}
 (rule:∀(i j:Int) (t u:Tok) (s:GJ) (Q:1.0) (E:1.0),C i j->Q (.int (g i j) s.toks) { s with toks:=s.toks+1 }->wpAny 0.8 X.A (f (.int i t) (.int j u)) Q E s) :
 OpR X f (rI C λi j=>.int (g i j)):=by
 intro pins s σ H x y v u Q I rx ry h;obtain⟨i,j,rfl,rfl,hc,q⟩:=h;obtain⟨t,rfl⟩:=rx;obtain⟨t',rfl⟩:=ry;exact rule i j t t' s _ _ hc ⟨.int (g i j),H,I.tok _,⟨_,rfl⟩,q⟩
theorem opI0{f:GH->GH->Sem GH}{g:Int->Int->Int}
 (rule:∀(i j:Int) (t u:Tok) (s:GJ) (Q:1.0) (E:1.0),Q (.int (g i j) s.toks) { s with toks:=s.toks+1 }->wpAny 0.8 X.A (f (.int i t) (.int j u)) Q E s) :
 OpR X f (rI0 λi j=>.int (g i j)):=by
 intro pins s σ H x y v u Q I rx ry h;obtain⟨i,j,rfl,rfl,q⟩:=h;obtain⟨t,rfl⟩:=rx;obtain⟨t',rfl⟩:=ry;exact rule i j t t' s _ _ ⟨.int (g i j),H,I.tok _,⟨_,rfl⟩,q⟩
theorem opB0{f:GH->GH->Sem GH}{g:Int->Int->Bool}
 (rule:∀(i j:Int) (t u:Tok) (s:GJ) (Q:1.0) (E:1.0),Q (.bool (g i j)) s->wpAny 0.8 X.A (f (.int i t) (.int j u)) Q E s) :
 OpR X f (rI0 λi j=>.bl (g i j)):=by
 intro pins s σ H x y v u Q I rx ry h;obtain⟨i,j,rfl,rfl,q⟩:=h;obtain⟨t,rfl⟩:=rx;obtain⟨t',rfl⟩:=ry;exact rule i j t t' s _ _ ⟨.bl (g i j),H,I,rfl,q⟩
def CDiv(i j:Int):Prop:=0<j/\j<1073741824
def CPow(i j:Int):Prop:=0<=j/\j<=1000000/\i.natAbs<2 ^ 64
def CMul(i j:Int):Prop:=(-(2 ^ 64)<i/\i<2 ^ 64)\/(-(2 ^ 64)<j/\j<2 ^ 64)
theorem CMul.ok{i j:Int}(h:CMul i j):IntMulOk i j:=by
 rcases h with ⟨h1,h2⟩|⟨h1,h2⟩
 .exact .of_left (intBits_le_64 h1 h2)
 .exact .of_right (intBits_le_64 h1 h2)
theorem op_add:OpR X (TU .Add) (rI0 λi j=>.int (i+j)):=opI0 λ_ _ _ _ _ _ _ q=>add_int q
theorem zt3:OpR X (TU .Sub) (rI0 λi j=>.int (i-j)):=opI0 λ_ _ _ _ _ _ _ q=>sub_int q
theorem zfj:OpR X (TU .Mult) (rI CMul λi j=>.int (i * j)):=opI λ_ _ _ _ _ _ _ hc q=>mul_int q hc.ok
theorem z2g:OpR X (TU .FloorDiv) (rI CDiv λi j=>.int (i / j)):=opI λi j _ _ _ _ _ hc q=>by
 have h1:(0:Int)<j:=hc.1;have h2:j<1073741824:=hc.2;exact floordiv_int 0.0 (by rw[Int.fdiv_eq_ediv_of_nonneg i 0.0];exact q) (.inl (PyProof.noPylong_small 0.0))
theorem zdg:OpR X (TU .Mod) (rI (λ_ j=>0<j) λi j=>.int (i % j)):=opI λi j _ _ _ _ _ hc q=>by
 have h1:(0:Int)<j:=hc;exact mod_int' 0.0 (by rw[Int.fmod_eq_emod_of_nonneg i 0.0];exact q)
theorem z7r:OpR X (TU .Pow) (rI CPow λi j=>.int (i ^ j.toNat)):=opI λ_ _ _ _ _ _ _ hc q=>pow_int_small hc.1 hc.2.1 hc.2.2 q
theorem unI{f:GH->Sem GH}{g:Int->Int}
 (rule:∀(i:Int) (t:Tok) (s:GJ) (Q:1.0) (E:1.0),Q (.int (g i) s.toks) { s with toks:=s.toks+1 }->wpAny 0.8 X.A (f (.int i t)) Q E s) :
 UnR X f (rU λi=>.int (g i)):=by
 intro pins s σ H x v Q I rx h;obtain⟨i,rfl,q⟩:=h;obtain⟨t,rfl⟩:=rx;exact rule i t s _ _ ⟨.int (g i),H,I.tok _,⟨_,rfl⟩,q⟩
theorem z6n:UnR X (unaryOp .USub) (rU λi=>.int (-i)):=unI λ_ _ _ _ _ q=>neg_int q
end
def scal:V->V->Bool
 | .non,.non=>true | .non,.int _=>true | .int _,.non=>true | .non,.bl _=>true | .bl _,.non=>true | .non,.str _=>true | .str _,.non=>true
 | .int _,.int _=>true | .bl _,.bl _=>true | .str _,.str _=>true | .byt _,.byt _=>true
 | .int _,.str _=>true | .str _,.int _=>true | .bl _,.str _=>true | .str _,.bl _=>true
 | _,_=>false
def rEq:R2:=λx y H Q=>scal x y=true/\Q (.bl (decide (x=y))) H
theorem z4c{i j:Int}:decide (V.int i=V.int j)=(i == j):=by
 rw[ZE];simp
theorem z6l{i j:Bool}:decide (V.bl i=V.bl j)=(i == j):=by
 rw[ZE];simp
theorem z4a: decide (V.str i=V.str j)=(i == j):=by
 rw[ZE];simp
theorem z1n: decide (V.byt i=V.byt j)=(i.toList == j.toList):=by
 rw[ZE];cases i;cases j;simp
section
variable {X:Cx}{a b c:Expr}{ta tb tc:TE}{pos:Pos}
theorem zbg{pins:0.9}{k k':Bool}(I:0.5)(q:Q (.bl k) H)(e:k=k'):EP X pins σ Q (.bool k') s:=by
 subst e;exact⟨.bl k,H,I,rfl,q⟩
theorem z9t:OpR X (Tb .Eq) rEq:=by
 intro pins s σ H x y v u Q I rx ry h;obtain⟨hs,q⟩:=h
 cases x with
 | non=>
   cases rx
   cases y with
   | non=>cases ry;exact PySem.EqNone.eq_none_none (zbg I q 0.1)
   | bl j=>cases ry;exact PySem.EqNone.eq_none_bool (zbg I q 0.1)
   | int j=>obtain⟨t',rfl⟩:=ry;exact PySem.EqNone.eq_none_int (zbg I q 0.1)
   | str j=>obtain⟨t',rfl⟩:=ry;exact PySem.EqNone.eq_none_str (zbg I q 0.1)
   | _=>exact absurd (show false=true from hs) Qx
 | bl i=>
   cases rx
   cases y with
   | non=>cases ry;exact PySem.EqNone.eq_bool_none (zbg I q 0.1)
   | bl j=>cases ry;exact eq_bool (zbg I q z6l)
   | str j=>obtain⟨t',rfl⟩:=ry;exact PySem.EqMixed.eq_bool_str (zbg I q 0.1)
   | _=>exact absurd (show false=true from hs) Qx
 | int i=>
   obtain⟨t,rfl⟩:=rx
   cases y with
   | non=>cases ry;exact PySem.EqNone.eq_int_none (zbg I q 0.1)
   | int j=>obtain⟨t',rfl⟩:=ry;exact eq_int (zbg I q z4c)
   | str j=>obtain⟨t',rfl⟩:=ry;exact PySem.EqMixed.eq_int_str (zbg I q 0.1)
   | _=>exact absurd (show false=true from hs) Qx
 | str i=>
   obtain⟨t,rfl⟩:=rx
   cases y with
   | non=>cases ry;exact PySem.EqNone.eq_str_none (zbg I q 0.1)
   | bl j=>cases ry;exact PySem.EqMixed.eq_str_bool (zbg I q 0.1)
   | int j=>obtain⟨t',rfl⟩:=ry;exact PySem.EqMixed.eq_str_int (zbg I q 0.1)
   | str j=>obtain⟨t',rfl⟩:=ry;exact eq_str (zbg I q z4a)
   | _=>exact absurd (show false=true from hs) Qx
 | byt i=>
   obtain⟨t,rfl⟩:=rx
   cases y with
   | byt j=>obtain⟨t',rfl⟩:=ry;exact PySem.W.eq_bytes (zbg I q z1n)
   | _=>exact absurd (show false=true from hs) Qx
 | _=>cases y <;> exact absurd (show false=true from hs) Qx
theorem z9v:OpR X (Tb .Lt) (rI0 λi j=>.bl (decide (i<j))):=opB0 λ_ _ _ _ _ _ _ q=>lt_int q
theorem z0p:OpR X (Tb .Gt) (rI0 λi j=>.bl (decide (j<i))):=opB0 λ_ _ _ _ _ _ _ q=>gt_int q
theorem z9q:OpR X (Tb .GtE) (rI0 λi j=>.bl (decide (j<=i))):=opB0 λ_ _ _ _ _ _ _ q=>ge_int q
theorem z4v:OpR X (Tb .IsNot) (λx y H Q=>y = .non/\Q (.bl (!decide (x = .non))) H):=by
 intro pins s σ H x y v u Q I rx ry h;obtain⟨rfl,q⟩:=h;cases ry;refine isnot_none_gen (zbg I q ?_)
 cases x <;> first
  | (cases rx;rfl)
  | (obtain⟨t,rfl⟩:=rx;rfl)
theorem op_notin_str:OpR X (Tb .NotIn) (λx y H Q=>∃i j,x = .str i/\y = .str j/\Q (.bl (!(!(ZW j i 0 j.length 1).isEmpty))) H):=by
 intro pins s σ H x y v u Q I rx ry h;obtain⟨i,j,rfl,rfl,q⟩:=h;obtain⟨t,rfl⟩:=rx;obtain⟨t',rfl⟩:=ry;exact notIn_str (zbg I q rfl)
theorem OpR.or(h:OpR X f r)(h':OpR X f r'):OpR X f (λx y H Q=>r x y H Q\/r' x y H Q):=by
 intro pins s σ H x y v u Q I rx ry q;rcases q with q|q
 .exact h pins s σ H x y v u Q I rx ry q
 .exact h' pins s σ H x y v u Q I rx ry q
theorem zcv(b:Expr)(h:op≠.In:=by decide)(h2:op≠.NotIn:=by decide):Ti op b=false:=by
 have e1:(op == CmpOp.In)=false:=by cases op <;> first|rfl|exact absurd rfl h
 have e2:(op == CmpOp.NotIn)=false:=by cases op <;> first|rfl|exact absurd rfl h2
 cases b <;> simp[Ti,e1,e2]
theorem z4h(ho:OpR X (Tb op) r)(ha:PE X a ta)(hb:PE X b tb)(hm:Ti op b=false):PE X (.Compare a [op] [b] pos) (tOp r ta tb):=by
 intro pins s σ H Q I h;exact wpAny_Compare1 (binT ha hb I h λv u s2 x y H2 I2 rx ry q=>ho pins s2 σ H2 x y v u Q I2 rx ry q) hm
def zfx(t:TE):TT:=λσ H Q=>t σ H λx H'=>∃k,x = .bl k/\Q k H'
theorem ze4(ho:OpR X (Tb op) r)(ha:PE X a ta)(hb:PE X b tb)(hm:Ti op b=false):PT X (.Compare a [op] [b] pos) (zfx (tOp r ta tb)):=by
 intro pins s σ H Q I h
 refine MX (thn (ha pins s σ H _ I h) λv s1 ⟨x,H1,I1,r1,q1⟩=>thn (hb pins s1 σ H1 _ I1 q1) λu s2 ⟨y,H2,I2,r2,q2⟩=>
  thn (ho pins s2 σ H2 x y v u _ I2 r1 r2 q2) λc s3 ⟨z,H3,I3,r3,k,e,q3⟩=>?_) hm
 subst e;cases r3;exact Td ⟨H3,I3,q3⟩
def TruV(K:Qa)(x:V)(H:Hp)(k:Bool):Prop :=
 match x with
 | .non=>k=false
 | .bl b=>k=b
 | .int i=>k=(i != 0)
 | .str y=>y.length<=sizeLine/\k=((y.length:Int) != 0)
 | .byt y=>y.size<=sizeLine/\k=((y.size:Int) != 0)
 | .ref p=>(∃xs,SqL K H p xs/\k = !xs.isEmpty)\/(∃xs,SqT K H p xs/\k = !xs.isEmpty)\/∃kvs,H p=some (.dK kvs)/\k = !kvs.isEmpty
 | _=>False
theorem zrz{κ:Type}{kvs:List (κ×V)}{vs:List (κ×GH)}(r:KV kvs vs):(!vs.isEmpty) = !kvs.isEmpty:=by
 cases r <;> rfl
theorem zjd(r:Vals xs its):(!its.toArray.isEmpty) = !xs.isEmpty:=by
 cases r <;> simp
theorem zg3:(sizeLine:Nat)<2 ^ 63:=by rw[GP];decide
theorem z8a:TruR X (λx H Q=>∃k,TruV X.K x H k/\Q k H):=by
 intro pins s σ H x v Q I rx h;obtain⟨k,e,q⟩:=h;have hl:=zg3;have hs:sizeLine=16777216:=GP
 cases x with
 | non=>
   cases rx;have e':k=false:=e;subst e';exact truthy_none ⟨H,I,q⟩
 | bl b=>
   cases rx;have e':k=b:=e;subst e';exact Td ⟨H,I,q⟩
 | int i=>
   obtain⟨t,rfl⟩:=rx;have e':k=(i != 0):=e;subst e';exact PySem.P.truthy_int ⟨H,I,q⟩
 | str y=>
   obtain⟨t,rfl⟩:=rx;obtain⟨hy,e'⟩:y.length<=sizeLine/\k=((y.length:Int) != 0):=e;subst e';exact PySem.P.truthy_str 0.0 ⟨H,I.tok _,q⟩
 | byt y=>
   obtain⟨t,rfl⟩:=rx;obtain⟨hy,e'⟩:y.size<=sizeLine/\k=((y.size:Int) != 0):=e;subst e';exact PySem.W.truthy_bytes 0.0 ⟨H,I.tok _,q⟩
 | ref p=>
   cases rx;have e':(∃xs,SqL X.K H p xs/\k = !xs.isEmpty)\/(∃xs,SqT X.K H p xs/\k = !xs.isEmpty)\/∃kvs,H p=some (.dK kvs)/\k = !kvs.isEmpty:=e;rcases e' with ⟨xs,hx,e'⟩|⟨xs,hx,e'⟩|⟨kvs,hx,e'⟩
   .subst e';obtain⟨its,r,pl,hz⟩:=I.list hx;have hlen:=r.length;exact wpAny_truthy_list pl.isList (by simp only[Q5];lia) ⟨H,I.tok _,by rw[zjd r];exact q⟩
   .subst e';obtain⟨its,r,pl,hz⟩:=I.tuple hx;have hlen:=r.length;exact truthy_tuple pl (by simp only[Q5];lia) ⟨H,I.tok _,by rw[zjd r];exact q⟩
   .subst e';obtain⟨hz,hS,vs,r,m⟩:kvs.length<=sizeLine/\(p == Tk)=false/\∃vs,KV kvs vs/\s.heap.DictOf (zaw X.prog X.w) p vs:=I.hok p _ hx;have hlen:kvs.length=vs.length:=JY r;exact wpAny_truthy_dict hS m 0.0 ⟨H,I.tok _,by rw[zrz r];exact q⟩
 | _=>exact(show False from e).elim
theorem zxw(ha:PE X a ta)(he:∀whole,isTrue a X.env whole=(do let v <- whole;standAt a.pos;holding [v] (truthy v))):
 PT X a (λσ H Q=>ta σ H λx H'=>∃k,TruV X.K x H' k/\Q k H'):=by
 intro pins s σ H Q I h;exact isTrue_plain (thn (ha pins s σ H _ I h) λv s1 ⟨x,H1,I1,r1,q1⟩=>z8a pins s1 σ H1 x v Q I1 r1 q1) (he _)
theorem op_add_str:OpR X (TU .Add) (λx y H Q=>∃i j,x = .str i/\y = .str j/\i.length+j.length<=sizeLine/\Q (.str (i++j)) H):=by
 intro pins s σ H x y v u Q I rx ry h;obtain⟨i,j,rfl,rfl,hz,q⟩:=h;obtain⟨t,rfl⟩:=rx;obtain⟨t',rfl⟩:=ry;exact add_str (λt' tk=>⟨.str (i++j),H,I.tok _,⟨_,rfl⟩,q⟩) hz
theorem z0z(r:Vals [x] us):∃u,us = [u]/\RelV x u:=by
 cases r with
 | cons r1 r2=>cases r2;exact⟨_,rfl,r1⟩
theorem z9u(r:Vals [x,y] us):∃u w',us = [u,w']/\RelV x u/\RelV y w':=by
 cases r with
 | cons r1 r2=>
   cases r2 with
   | cons r3 r4=>cases r4;exact⟨_,_,rfl,r1,r3⟩
theorem zu3(hc:X.calm=true):zcz X (.builtin "max") (λxs H Q=>∃i j,xs = [.int i,.int j]/\Q (.int (if j > i then j else i)) H):=by
 intro pins s σ H xs us Q I r h;obtain⟨i,j,rfl,q⟩:=h;obtain⟨u,w',rfl,⟨t,rfl⟩,⟨t',rfl⟩⟩:=z9u r;refine max_two_ints (I.ok.hd hc) λh' tk k=>⟨_,H,I.kept k,?_,q⟩
 by_cases hj:j > i
 .rw[NI hj,NI hj];exact⟨_,rfl⟩
 .rw[NJ hj,NJ hj];exact⟨_,rfl⟩
def LenV(K:Qa)(x:V)(H:Hp)(n:Nat):Prop :=
 match x with
 | .str y=>y.length<=sizeLine/\n=y.length
 | .byt y=>y.size<=sizeLine/\n=y.size
 | .ref p=>(∃xs,SqL K H p xs/\n=xs.length)\/∃xs,SqT K H p xs/\n=xs.length
 | _=>False
theorem zh5:zcz X (.builtin "len") (λxs H Q=>∃x n,xs = [x]/\LenV X.K x H n/\Q (.int n) H):=by
 intro pins s σ H xs us Q I r h;obtain⟨x,n,rfl,e,q⟩:=h;obtain⟨u,rfl,rx⟩:=z0z r;have hl:=zg3;have hs:sizeLine=16777216:=GP
 cases x with
 | str y=>
   obtain⟨t,rfl⟩:=rx;obtain⟨hy,e'⟩:y.length<=sizeLine/\n=y.length:=e;subst e';exact len_str 0.0 ⟨.int _,H,I.tok _,⟨_,rfl⟩,q⟩
 | byt y=>
   obtain⟨t,rfl⟩:=rx;obtain⟨hy,e'⟩:y.size<=sizeLine/\n=y.size:=e;subst e';exact PySem.W.len_bytes 0.0 ⟨.int _,H,I.tok _,⟨_,rfl⟩,q⟩
 | ref p=>
   cases rx;have e':(∃xs,SqL X.K H p xs/\n=xs.length)\/∃xs,SqT X.K H p xs/\n=xs.length:=e;rcases e' with ⟨xs,hx,e'⟩|⟨xs,hx,e'⟩
   .subst e';obtain⟨its,r',pl,hz⟩:=I.list hx;have hlen:=r'.length;exact Calls.call_len_list pl.isList (by simp only[Q5];lia) ⟨.int xs.length,H,I.tok _,⟨_,by simp only[Q5];rw[hlen]⟩,q⟩
   .subst e';obtain⟨its,r',pl,hz⟩:=I.tuple hx;have hlen:=r'.length;exact len_tuple pl (by simp only[Q5];lia) ⟨.int xs.length,H,I.tok _,⟨_,by simp only[Q5];rw[hlen]⟩,q⟩
 | _=>exact(show False from e).elim
end
theorem RelO.some_of(r:RelO (some v) o):∃u,o=some u/\RelV v u:=by
 cases o with
 | none=>exact(show False from r).elim
 | some u=>exact⟨u,rfl,r⟩
structure Room(k:Nat)(A:GQ):Prop where
 hd:A.handled=none
 dp:A.depth+3 * k+5<recursionLimit
 un:A.units+16 * k+200<GZ
 gd:A.guards=some []
theorem Room.mono{j k:Nat}(r:Room k A)(h:j<=k):Room j A:=⟨r.hd,by have:=r.dp;lia,by have:=r.un;lia,r.gd⟩
theorem Room.deeper{k:Nat}(r:Room (k+1) A)(env:Env):Room k (A.deeper env) :=
 ⟨r.hd,by have:=r.dp;show A.depth+1+3 * k+5<_;lia,by have:=r.un;show A.units+3+16 * k+200<_;lia,r.gd⟩
theorem Room.depth{k:Nat}(r:Room k A):A.depth<recursionLimit:=by have:=r.dp;lia
theorem Room.units{k:Nat}(r:Room k A):A.units+64<GZ:=by have:=r.un;lia
def tNil:TA:=λ_ H Q=>Q [] H
def zar(ta:TE)(tr:TA):TA:=λσ H Q=>ta σ H λx H1=>tr σ H1 λxs H2=>Q (x::xs) H2
section
variable {X:Cx}{e:Expr}{es:List Expr}{te:TE}{t:TA}{pos:Pos}
theorem zbk:PA X [] tNil:=λ_ _ _ _ H Q I h=>Ji ⟨[],H,I,.nil,h⟩
theorem zao(ha:PE X e te)(hr:PA X es t)(hs:GN (e::es) X.env=(false,eval e X.env)::GN es X.env:=by rfl):PA X (e::es) (zar te t):=by
 intro pos pins s σ H Q I h;rw[hs];show wpAny _ _ (M6 ((false,eval e X.env)::TM pos (GN es X.env))) _ _ s;refine ZU (thn (ha pins s σ H _ I h) λu s1 zz=>?_);obtain⟨x,H1,I1,r1,q1⟩:=zz;exact thn (hr pos pins s1 σ H1 _ I1 q1) λus s2 ⟨xs,H2,I2,r2,q2⟩=>⟨x::xs,H2,I2,.cons r1 r2,q2⟩
def tTup(t:TA):TE:=λσ H Q=>t σ H λxs H1=>xs.length<=sizeLine/\∀p,H1 p=none->Q (.ref p) (upd H1 p (.tup xs))
def tLst(t:TA):TE:=λσ H Q=>t σ H λxs H1=>xs.length<=sizeLine/\∀p,H1 p=none->Q (.ref p) (upd H1 p 4.1)
theorem z6s{x1}(h:PA X es t):PE X (.Tuple es x1 pos) (tTup t):=by
 intro pins s σ H Q I hq;refine wpAny_Tuple_spliced (thn (h pos pins s σ H _ I hq) λus s1 ⟨xs,H1,I1,r,z,q⟩=>⟨by rw[<- r.length];exact z,?_⟩);have hf:H1 s1.heap.objs.size=none:=I1.hok.fresh (Qg _);refine⟨.ref s1.heap.objs.size,upd H1 s1.heap.objs.size (.tup xs),I1.laid (t':=s1.toks) (λb u e=>Qf _ e) (Qg _) ?_,rfl,q _ hf⟩;exact⟨z,us,r,⟨_,Qs _ rfl,rfl,_,rfl⟩⟩
theorem z8o(h:PA X es t):PE X (.List es pos) (tLst t):=by
 intro pins s σ H Q I hq;refine wpAny_List_spliced (thn (h pos pins s σ H _ I hq) λus s1 ⟨xs,H1,I1,r,z,q⟩=>⟨by rw[<- r.length];exact z,?_⟩);have hf:H1 s1.heap.objs.size=none:=I1.hok.fresh (Qg _);refine⟨.ref s1.heap.objs.size,upd H1 s1.heap.objs.size 4.1,I1.laid (t':=s1.toks) (λb u e=>Qf _ e) (Qg _) ?_,rfl,q _ hf⟩;exact⟨z,us,0,r,Qs _ rfl⟩
end
abbrev Sp:=List V->Hp->VK->XK->Prop
abbrev CXT:=List Env->Hp->GJ->XK->GH->GJ->Prop
structure Env0(P:GK)(w:GM)(K:Qa)(mg:0.4)(base:Heap)(A:GQ)(outer:List Env)(s:GJ)(H:Hp):Prop where
 frames:A.frames=some outer
 mod:Mod K mg base
 bs:∀b o,base.get? b=some o->s.heap.get? b=some o/\H b=none
 bsz:base.objs.size<=s.heap.objs.size
 funs:s.heap.FunFrames base outer
 frf:∀b∈frs outer,H b=none
 hok:HOk P w H s.heap
 bare:M3 s.gens
def CE(outer:List Env)(P:GK)(w:GM)(H:Hp)(s:GJ)(Q:VK)(u:GH)(s':GJ):Prop :=
 ∃v H',s'.os=s.os/\M3 s'.gens/\Un (frs outer) [] H H' s.heap s'.heap/\HOk P w H' s'.heap/\RelV v u/\Q v H'
def CR(CX:CXT)(outer:List Env)(P:GK)(w:GM)(H:Hp)(s:GJ)(Q:VK)(E:XK)(r:Result)(s':GJ):Prop :=
 match r with
 | .ok (.ret u)=>CE outer P w H s Q u s'
 | .ok _=>False
 | .error e=>CX outer H s E e s'
structure FnOk(P:GK)(w:GM)(K:Qa)(mg:0.4)(base:Heap)(CX:CXT)(k:Nat)(f:Addr)(fd:TQ)(ps:2.4)(sp:Sp):Prop where
 len:∀vs H Q E,sp vs H Q E->vs.length=ps.length
 run:∀(A:GQ) (outer:List Env) (s:GJ) (H:Hp) (args:Args) (us:2.8) (vs:3.3) (Q:VK) (E:XK),Room k A->Env0 P w K mg base A outer s H->No s fd args (ps.zip us)->Vals vs us->sp vs H Q E ->
  Mo 1.5 A (.call (.ref f) args) (CR CX outer P w H s Q E) s
theorem FnOk.mono{P:GK}{w:GM}{K:Qa}{mg:0.4}{base:Heap}{CX:CXT}{j k:Nat}{f:Addr}{fd:TQ}{ps:2.4}{sp:Sp}(F:FnOk P w K mg base CX j f fd ps sp)(h:j<=k):
 FnOk P w K mg base CX k f fd ps sp:=⟨F.len,λA outer s H args us vs Q E hr=>F.run A outer s H args us vs Q E (hr.mono h)⟩
theorem Env0.in1{P:GK}{w:GM}{K:Qa}{mg:0.4}{base:Heap}{A:GQ}{outer:List Env}{s:GJ}{H:Hp}(e:Env0 P w K mg base A outer s H):
 Env0 P w K mg base A.in1 outer s H:=⟨e.frames,e.mod,e.bs,e.bsz,e.funs,e.frf,e.hok,e.bare⟩
section
variable {X:Cx}{pins:0.9}{σ:St}{H:Hp}{s s':GJ}
theorem Inv.env0(I:0.5):Env0 X.prog X.w X.K X.mg X.base X.A X.stack s H :=
 ⟨I.ok.frames,I.ok.mod,I.bs,Q1 I.ok.bsz I.sz,I.stack,I.stkFree,I.hok,I.bare⟩
theorem Inv.after(I:0.5)(h:CE X.stack X.prog X.w H s Q u s'):EP X pins σ Q u s':=by
 obtain⟨v,H',os,bare,un,hok,r,q⟩:=h;obtain⟨hh,g,d,t,os'⟩:=s';obtain rfl:os'=s.os:=os;exact⟨v,H',I.call (h':=hh) (g':=g) (d':=d) (t':=t) (ch:=[]) un hok bare (λb z=>absurd z 0.1),r,q⟩
end
def zda(sp:Sp)(dvs:3.3)(E:XK)(t:TA):TE:=λσ H Q=>t σ H λvs H1=>sp (vs++dvs) H1 Q E
def Binds(K:Qa)(fd:TQ)(ps:2.4)(ds:2.8):Prop :=
 ∀(s:GJ) (us:2.8),K.In s.heap->(us++ds).length=ps.length->No s fd ⟨us,[]⟩ (ps.zip (us++ds))
theorem Binds.all{K:Qa}{fd:TQ}{ps:2.4}(h:∀us:List GH,us.length=ps.length->TV fd ⟨us,[]⟩=pure (ps.zip us)):Binds K fd ps []:=λs us _ hl=>by
 rw[QR] at hl ⊢;exact .of_eq (h us hl)
def zo7(CX:CXT)(X:Cx)(E:XK):Prop:=∀(pins:0.9) (σ:St) (H:Hp) (s:GJ) (e:GH) (s':GJ),Inv X pins σ H s->CX X.stack H s E e s'->X.xe e s'
section
variable {X:Cx}{CX:CXT}{k:Nat}{f C:Addr}{fd:TQ}{ps:2.4}{sp:Sp}{dvs:3.3}{ds:2.8}{E:XK}{x m:Str}{p pos apos:Pos}{e o:Expr}{es:List Expr}{ta:TE}{t:TA}
theorem z7p{pins:0.9}(F:FnOk X.prog X.w X.K X.mg X.base CX k f fd ps sp)(hr:Room k X.A)(hb:Binds X.K fd ps ds)(hd:Vals dvs ds)(hx:zo7 CX X E)
 (I:0.5) (r:Vals vs us) (h:sp (vs++dvs) H Q E):wpAny 0.8 X.A (call (.ref f) us) (EP X pins σ Q) X.xe s:=by
 have r2:Vals (vs++dvs) (us++ds):=r.append hd;have hl:(us++ds).length=ps.length:=by rw[<- r2.length];exact F.len _ _ _ _ h
 refine MR (TJ (F.run X.A X.stack s H ⟨us,[]⟩ (us++ds) (vs++dvs) Q E hr I.env0 (hb s us I.kIn hl) r2 h) λr s' hq=>?_)
 cases r with
 | error e=>exact hx pins σ H s e s' I hq
 | ok fl=>
   cases fl with
   | ret u=>exact I.after hq
   | next=>exact ZL hq
   | brk=>exact ZL hq
   | cont=>exact ZL hq
theorem zfg(F:FnOk X.prog X.w X.K X.mg X.base CX k f fd ps sp)(hr:Room k X.A)(hg:Gl X x)(hm:X.mg x=some (.ref f))(hk:Yg X.K (.ref f)=true)(hb:Binds X.K fd ps ds)(hd:Vals dvs ds)(hx:zo7 CX X E)
 (ha:PA X (e::es) t) (hdb:1.1:=by decide) (he:GN (e::es) X.env=(false,eval e X.env)::GN es X.env:=by rfl) (hpl:(TM pos (GN es X.env)).any (·.1)=false:=by rfl) :
 PE X (.Call (.Name x p) (e::es) [] pos) (zda sp dvs E t):=by
 intro pins s σ H Q I h;refine GU (zke I hg hm ?_ hdb);refine PySem.W.callWith_K (h₀:=X.base) I.ok.mod.kin hk (thn (ha pos pins s σ H _ I h) λus s1 ⟨vs,H1,I1,r,q⟩=>⟨I1.kIn,?_⟩) he hpl;exact z7p F hr hb hd hx I1 r q
end
structure FnScope(N P:2.4)(sc:TH):Prop where
 kind:sc.kind = .function
 co:sc.isCoroutine=false
 gen:sc.isGenerator=false
 nd:N.Nodup
 pre:N.take P.length=P
 par:∀x∈P,sc.names.lookup x=some .local\/sc.names.lookup x=some .cell
 nofree:∀y∈sc.names,y.2≠.free
theorem zlq{kindOf:Str->Option TR}: ∀{binds:List (Str×GH)} {m:0.4},(∀v,(x,v) ∉ binds)->NE kindOf binds m x=m x
 | [],_,_=>rfl
 | (n,v)::r,m,h=>by
   unfold NE;rw[zlq λw hw=>h w (Qe _ hw)]
   split
   .have:x≠n:=by rintro rfl;exact h v Qp
    simp[this]
   .rfl
theorem zlv{kindOf:Str->Option TR}: ∀{binds:List (Str×GH)} {m:0.4},(∀v,(x,v) ∉ binds)->ND kindOf binds m x=m x
 | [],_,_=>rfl
 | (n,v)::r,m,h=>by
   unfold ND;rw[zlv λw hw=>h w (Qe _ hw)]
   split
   .rfl
   .have:x≠n:=by rintro rfl;exact h v Qp
    simp[this]
theorem zlr{kindOf:Str->Option TR}: ∀{P:2.4} {vs:2.8} {i:Nat} {m:0.4},P.Nodup->P[i]? = some x->vs[i]? = some v->kindOf x=some .local ->
 NE kindOf (P.zip vs) m x=some v
 | [],_,_,_,_,h,_,_=>by simp at h
 | _::_,[],_,_,_,_,h,_=>by simp at h
 | p::P,w::vs,0,m,nd,h1,h2,hk=>by
   simp at h1 h2;subst h1;subst h2;show NE kindOf ((p,w)::P.zip vs) m p=_;unfold NE;rw[zlq λv hv=>(Zq.mp nd).1 (Vj hv).1,NI hk];simp
 | p::P,w::vs,i+1,m,nd,h1,h2,hk=>by
   show NE kindOf ((p,w)::P.zip vs) m x=_;unfold NE;exact zlr (i:=i) (Zq.mp nd).2 (by simpa using h1) (by simpa using h2) hk
theorem zll{kindOf:Str->Option TR}: ∀{P:2.4} {vs:2.8} {i:Nat} {m:0.4},P.Nodup->P[i]? = some x->vs[i]? = some v->kindOf x≠some .local ->
 ND kindOf (P.zip vs) m x=some v
 | [],_,_,_,_,h,_,_=>by simp at h
 | _::_,[],_,_,_,_,h,_=>by simp at h
 | p::P,w::vs,0,m,nd,h1,h2,hk=>by
   simp at h1 h2;subst h1;subst h2;show ND kindOf ((p,w)::P.zip vs) m p=_;unfold ND;rw[zlv λv hv=>(Zq.mp nd).1 (Vj hv).1,NJ hk];simp
 | p::P,w::vs,i+1,m,nd,h1,h2,hk=>by
   show ND kindOf ((p,w)::P.zip vs) m x=_;unfold ND;exact zll (i:=i) (Zq.mp nd).2 (by simpa using h1) (by simpa using h2) hk
def start(N:2.4)(vs:3.3):St:=vs.map some++QO (N.length-vs.length) none
def cxOf(CX:CXT)(P:GK)(w:GM)(K:Qa)(mg:0.4)(base:Heap)(N:2.4)(qual:Str)(scope:TH)(f:Addr)(cd:GH)(A:GQ)(outer:List Env)(s:GJ)(H:Hp)(E:XK):Cx where
 prog:=P
 w:=w
 K:=K
 mg:=mg
 base:=base
 A:=A.deeper (MK qual scope s.heap.objs.size f cd)
 N:=N
 s₀:=s
 H₀:=H
 env:=MK qual scope s.heap.objs.size f cd
 outer:=outer
 stack:=MK qual scope s.heap.objs.size f cd::outer
 ex:=[]
 calm:=true
 fn:=λ_=>true
 pn:=[]
 xe:=λe s'=>wpAny 1.5 (A.deeper (MK qual scope s.heap.objs.size f cd)) (leaving (MK qual scope s.heap.objs.size f cd) e) (λ_ s''=>CX outer H s E e s'') (λe' s''=>CX outer H s E e' s'') s'
theorem znx{sc:TH}{n:Nat}{x:Str}(h:sc.names.lookup x=some .cell):∃c,(Tq n sc.names []).lookup x=some c:=by
 have q:=YA sc.names n [] (.inl h);exact JD.mp q
theorem zwm{CX:CXT}{P:GK}{w:GM}{K:Qa}{mg:0.4}{base:Heap}{N ps:2.4}{qual:Str}{scope:TH}{f:Addr}{cd:GH}{A:GQ}{outer:List Env}{s s1:GJ}{H:Hp}{E:XK}{us:2.8}{vs:3.3}
 (S:FnScope N ps scope) (hd:A.handled=none) (e0:Env0 P w K mg base A outer s H) (hl:vs.length=ps.length) (r:Vals vs us)
 (x:InCallC s s.heap.objs.size (NE (MK qual scope s.heap.objs.size f cd).kindOf (ps.zip us) λ_=>none) (Tq (s.heap.objs.size+1) scope.names []) (ND (MK qual scope s.heap.objs.size f cd).kindOf (ps.zip us) λ_=>none) s1) :
 Inv (cxOf CX P w K mg base N qual scope f cd A outer s H E) [] (start N vs) H s1:=by
 have hpl:ps.length<=N.length:=by have:=NO Jo S.pre;rw[QL] at this;lia
 obtain⟨h1,tk,rfl,hk⟩:=x.done;have noA:∀b:Addr,b ∉ (cxOf CX P w K mg base N qual scope f cd A outer s H E).ex:=λb z=>absurd (show b∈([]:List Addr) from z) 0.1
 refine⟨⟨e0.mod,S.kind,rfl,rfl,Qg _,λy z c h1 h2=>?_,λy hy=>?_,λy c _ h=>?_,λ_=>hd,Around.frames_deeper e0.frames,.inr ⟨rfl,rfl⟩,λb z=>absurd z (noA b),e0.bs,e0.bsz,λb _ _=>noA b,λb z=>absurd z (noA b),e0.funs,e0.frf⟩,
  rfl,e0.bare,Un.kept hk,⟨_,x.toInCall.ns,λi y v h1 h2 h3=>?_⟩,λy c h=>⟨_,x.cell y c h⟩,e0.hok.fresh (Qg _),λy c h=>?_,λp hp=>absurd (show p∈([]:List (Addr×Obj)) from hp) 0.1,e0.hok.kept hk,?_⟩
 .exact name_of_addr x.apart (ZM h1) (ZM h2)
 .have hy:scope.names.lookup y=some .cell\/scope.names.lookup y=some .free:=hy;rcases hy with hy|hy
  .exact znx hy
  .exact absurd rfl (S.nofree _ (ZM hy))
 .exact Jt (x.above y c (ZM h))
 .have hi:i<vs.length:=by
   unfold start at h2
   by_cases hi:i<vs.length
   .exact hi
   .rw[QF 5.2] at h2;rw[ZA] at h2
    split at h2 <;> cases h2
  have ha:vs[i]? = some v:=by
   unfold start at h2;rw[QA 5.2,Qh] at h2
   cases e:vs[i]? with
   | none=>rw[e] at h2;cases h2
   | some a=>rw[e] at h2;cases h2;rfl
  obtain⟨u,hu,rv⟩:=r.get ha
  have hp:ps[i]? = some y:=by
   rw[<- S.pre,List.getElem?_take_of_lt 0.0];exact h1
  have ndP:ps.Nodup:=by rw[<- S.pre];exact S.nd.sublist (List.take_sublist _ _)
  refine⟨u,rv,?_⟩;rcases S.par y (Qt hp) with k|k
  .exact .inl ⟨k,zlr ndP hp hu k⟩
  .obtain⟨c,e⟩:=znx (n:=s.heap.objs.size+1) k;refine .inr ⟨.inl k,c,e,?_⟩;have q:=x.cell y c e;rw[zll ndP hp hu (by show scope.names.lookup y≠_;rw[k];decide)] at q;exact q
 .exact e0.hok.fresh (Jt (x.above y c (ZM h)))
 .unfold start;show _=N.length;rw[Qj,Qc,Zh];lia
theorem yai{CX:CXT}{P:GK}{w:GM}{K:Qa}{mg:0.4}{base:Heap}{k:Nat}{f:Addr}{name qual:Str}{params:Arguments}{body:List Stmt}{scope:TH}{dV kV doc pm cdv ct oc:GH}{an od:Option Addr}
 {osl:Array (Option GH)} {N ps:2.4} {sp:Sp} (lk:K.lookup f=some ⟨oc,od,.func (ZS name qual params body scope dV kV doc pm an cdv ct),osl⟩) (hcd:YB K cdv qual=true) (S:FnScope N ps scope)
 (len:∀vs H Q E,sp vs H Q E->vs.length=ps.length)
 (hbody:∀(A:GQ) (outer:List Env) (s:GJ) (H:Hp) (vs:3.3) (Q:VK) (E:XK),Room k (A.deeper (MK qual scope s.heap.objs.size f cdv))->sp vs H Q E ->
  ∃t,PSs (cxOf CX P w K mg base N qual scope f cdv A outer s H E) body t/\t { nx:=λ_ H'=>Q .non H',rt:=Q } (start N vs) H) :
 FnOk P w K mg base CX (k+1) f (ZS name qual params body scope dV kV doc pm an cdv ct) ps sp:=by
 refine⟨len,λA outer s H args us vs Q E hr e0 hb r hsp=>?_⟩;have hl:=len _ _ _ _ hsp;have KX:K.In s.heap:=e0.mod.kin.keeps λb o e=>(e0.bs b o e).1;have lim:s.heap.NoLimit:=e0.mod.nolimit.keeps λb o e=>(e0.bs b o e).1
 have hkind:∀y∈ps.zip us,scope.names.lookup y.1=some .local\/(scope.names.lookup y.1=some .cell/\((Tq (s.heap.objs.size+1) scope.names []).lookup y.1).isSome=true):=λ⟨n,v⟩ hy=>by
  rcases S.par n (Vj hy).1 with q|q
  .exact .inl q
  .exact .inr ⟨q,YA _ _ _ (.inl q)⟩
 refine codeAny_call_function hr.depth (KX _ _ lk) rfl S.co S.gen rfl (PySem.W.codeRec_of KX hcd) (hb _ _ _ _ ?_);refine wpAny_newFunctionEnv_cells S.kind hkind λenv he s1 x=>?_;subst he;refine⟨lim.keeps x.toInCall.keep,codeAny_func ?_⟩;obtain⟨t,ht,hq⟩:=hbody A outer s H vs Q E (hr.deeper _) hsp;have I:Inv (cxOf CX P w K mg base N qual scope f cdv A outer s H E) [] (start N vs) H s1:=zwm S hr.hd e0 hl r x;refine Ta (ht [] s1 (start N vs) H _ I hq) (λfl s' hs=>?_) λe s' hs=>hs
 have fin:∀{σ':St} {H':Hp} {v:V} {u:GH},Inv (cxOf CX P w K mg base N qual scope f cdv A outer s H E) [] σ' H' s'->RelV v u->Q v H'->CE outer P w H s Q u s' :=
  λ{σ' H' v u} J rv q=>⟨v,H',J.os,J.bare,J.base,J.hok,rv,q⟩
 cases fl with
 | ret u=>
   obtain⟨v,σ',H',J,rv,q⟩:=hs;exact fin J rv q
 | next=>
   obtain⟨σ',H',J,q⟩:=hs;exact fin (v:=V.non) (u:=Yf) J rfl q
 | brk=>
   obtain⟨_,_,_,q⟩:=hs;exact ZL q
 | cont=>
   obtain⟨_,_,_,q⟩:=hs;exact ZL q
section
variable {X:Cx}{x:Str}{p pos:Pos}{e:Expr}{es:List Expr}{t:TA}{id T:String}{r:List V->Hp->VK->Prop}
def tCB(r:List V->Hp->VK->Prop)(t:TA):TE:=λσ H Q=>t σ H λvs H1=>r vs H1 Q
theorem zd5(hc:zcz X (.builtin id) r)(hg:Gl X x)(hm:X.mg x=none)(hv:Tf x=some (.builtin id))(ha:PA X (e::es) t)(hn:x ≠ "__name__" := by decide)(hdb:1.1:=by decide)
 (he:GN (e::es) X.env=(false,eval e X.env)::GN es X.env:=by rfl) (hpl:(TM pos (GN es X.env)).any (·.1)=false:=by rfl):PE X (.Call (.Name x p) (e::es) [] pos) (tCB r t):=by
 intro pins s σ H Q I h;refine GU (zcf I hg hm hv ?_ hn hdb);exact JG (thn (ha pos pins s σ H _ I h) λus s1 ⟨vs,H1,I1,r1,q1⟩=>hc pins s1 σ H1 vs us Q I1 r1 q1) he hpl
theorem zgy(hc:zcz X (.type T) r)(hg:Gl X x)(hm:X.mg x=none)(hv:Tf x=some (.type T))(ha:PA X (e::es) t)(hn:x ≠ "__name__" := by decide)(hdb:1.1:=by decide)
 (he:GN (e::es) X.env=(false,eval e X.env)::GN es X.env:=by rfl) (hpl:(TM pos (GN es X.env)).any (·.1)=false:=by rfl):PE X (.Call (.Name x p) (e::es) [] pos) (tCB r t):=by
 intro pins s σ H Q I h;refine GU (zcf I hg hm hv ?_ hn hdb);exact Z9 (thn (ha pos pins s σ H _ I h) λus s1 ⟨vs,H1,I1,r1,q1⟩=>hc pins s1 σ H1 vs us Q I1 r1 q1) he hpl
end
end L2
namespace HT
open PySem PyProof.Rows
section
variable {prog:GK}{w:GM}{A:GQ}{E:1.0}{s:GJ}
theorem cat_tup(ht:IsTup s.heap t vs.toArray)(hb:IsTup s.heap b ws.toArray)(hv:vs≠[])
 (h1:ws = []->Q (.ref t) s) (h2:ws≠[]->Q 3.8 { s with heap:=s.heap.push { cls:=.type "tuple",data:=.seq (vs++ws).toArray } })
 (hsz:vs.length+ws.length<=sizeLine):wpAny 1.3 A (TU .Add (.ref t) 5.9) Q E s:=by
 obtain⟨⟨cls,dd,data,sl⟩,ho,hc,n,hd⟩:=id ht;obtain⟨⟨cls2,dd2,data2,sl2⟩,ho2,hc2,n2,hd2⟩:=id hb;simp only at hc hd hc2 hd2;subst hc hd hc2 hd2;have e:vs.toArray++ws.toArray=(vs++ws).toArray:=by simp
 by_cases hw:ws = []
 .exact Nr ⟨_,ho,rfl⟩ ⟨_,ho2,rfl⟩ MB Nj YC Y7 (Yv _ _)
   (tuple_addW1 t b vs.toArray ws.toArray n n2 dd dd2 sl sl2 (by simpa using hv) (by simp[hw])) ⟨ho,ho2,h1 hw⟩
 .refine Nr ⟨_,ho,rfl⟩ ⟨_,ho2,rfl⟩ MB Nj YC Y7 (Yv _ _)
   (tuple_addW2 t b vs.toArray ws.toArray n n2 dd dd2 sl sl2 (by simpa using hv) (by simpa using hw) (by rw[Q5,Q5];exact hsz)) ⟨ho,ho2,?_⟩
  rw[e];exact h2 hw
def sIx(n d:Nat):Option Int->Nat
 | none=>d
 | some v=>if v<0 then(v+(n:Int)).toNat else min v.toNat n
theorem sIx_le(n d:Nat)(hd:d<=n)(o:Option Int):sIx n d o<=n:=by
 cases o with
 | none=>exact hd
 | some v=>
   show(if v<0 then(v+(n:Int)).toNat else min v.toNat n)<=n
   by_cases hv:v<0
   .rw[NI hv];lia
   .rw[NJ hv];exact Nat.min_le_right _ _
theorem clip_eq(v:Int)(n d:Nat):(if v<0 then max (v+(n:Int)) 0 else min v (n:Int))=((sIx n d (some v):Nat):Int):=by
 show(if v<0 then max (v+(n:Int)) 0 else min v (n:Int))=(((if v<0 then(v+(n:Int)).toNat else min v.toNat n):Nat):Int)
 by_cases hv:v<0
 .simp only[NI hv];lia
 .simp only[NJ hv];lia
theorem zrp(lo hi:Option Int)(n:Nat):Yq lo hi 1 (n:Int)=(((sIx n 0 lo:Nat):Int),((sIx n n hi:Nat):Int)):=by
 have h1:¬((1:Int)<0):=by lia
 unfold Yq;simp only[h1,NQ];refine Ud ?_ ?_
 .cases lo with
  | none=>rfl
  | some v=>exact clip_eq v n 0
 .cases hi with
  | none=>rfl
  | some v=>exact clip_eq v n n
theorem zr8(i j:Nat):J8 (i:Int) (j:Int) 1=j-i:=by
 unfold J8;have h1:(1:Int) > 0:=by lia
 simp only[h1,NR,Int.ediv_one]
 split <;> lia
theorem ziy(p:MH v o)(h:Q o s):wpAny 1.3 A (Builtin.Slice.slicePartIndex v) Q E s:=by
 cases p with
 | none=>exact slicePart_none h
 | int i t=>exact slicePart_int h
theorem sliceApplied_gen{sl:Addr}{vl vu:GH}{lo hi:Option Int}{n:Nat}{Q:Int×Int×Nat->GJ->Prop}(hs:s.heap.IsSliceOf sl vl vu .none)(pl:MH vl lo)(pu:MH vu hi)
 (h:Q (((sIx n 0 lo:Nat):Int),1,sIx n n hi-sIx n 0 lo) s):wpAny 1.3 A (Vw (.ref sl) (pure (n:Int))) Q E s:=by
 obtain⟨os,hos,hcs,hds⟩:=id hs;unfold Vw Builtin.Slice.sliceFields;refine GF (GF (N8 hos hds (x:=vl) rfl (GF (N8 hos hds (x:=vu) rfl (GF (N8 hos hds (x:=.none) rfl (GI ?_)))))));refine GF (slicePart_none ?_);show wpAny _ _ (if((1:Int) == 0)=true then _ else _) _ _ s;rw[NJ 0.2];refine GF (ziy pl (GF (ziy pu (GF (GI ?_)))));show wpAny _ _ (match Yq lo hi 1 (n:Int) with|(lo,hi)=>pure (lo,(1:Int),J8 lo hi 1)) _ _ s;rw[zrp lo hi n];show wpAny _ _ (pure (((sIx n 0 lo:Nat):Int),(1:Int),J8 ((sIx n 0 lo:Nat):Int) ((sIx n n hi:Nat):Int) 1)) _ _ s;rw[zr8];exact GI h
theorem zxm(xs:Array GH)(i k:Nat):((Q3 k).filterMap λ(m:Nat)=>xs[((i:Int)+(m:Int) * 1).toNat]?).toArray=((xs.toList.drop i).take k).toArray:=by
 have e:(λ(m:Nat)=>xs[((i:Int)+(m:Int) * 1).toNat]?)=λm=>xs[i+m]?:=by
  funext m;have:((i:Int)+(m:Int) * 1).toNat=i+m:=by lia
  rw[this]
 rw[e];have:=pick_run xs i k;rw[List.filterMap_map] at this;have e2:((λx=>xs[x]?) ∘ λx=>i+x)=λm=>xs[i+m]?:=rfl;rw[e2] at this;rw[this]
theorem getItem_tuple_cut{t sl:Addr}{items:Array GH}{vl vu:GH}{lo hi:Option Int}{Q:1.0}(ht:IsTup s.heap t items)(hs:s.heap.IsSliceOf sl vl vu .none)(pl:MH vl lo)(pu:MH vu hi)
 (hw:¬(sIx items.size 0 lo=0/\sIx items.size items.size hi=items.size))
 (h:Q 3.8 { s with heap:=s.heap.push { cls:=.type "tuple",data:=.seq ((items.toList.drop (sIx items.size 0 lo)).take (sIx items.size items.size hi-sIx items.size 0 lo)).toArray } })
 (hsz:items.size<=sizeLine):wpAny 1.3 A (Mp (.ref t) (.ref sl)) Q E s:=by
 have htake:sizeOk (.seq ((items.toList.drop (sIx items.size 0 lo)).take (sIx items.size items.size hi-sIx items.size 0 lo)).toArray):=by
  show((items.toList.drop (sIx items.size 0 lo)).take (sIx items.size items.size hi-sIx items.size 0 lo)).toArray.size<=sizeLine;rw[Q5,QL,Zr,QH];lia
 have hj:sIx items.size items.size hi<=items.size:=sIx_le _ _ (Qg _) hi;obtain⟨os,hos,hcs,hds⟩:=id hs;have hTs:s.TypeIs (.ref sl) "slice" := ⟨os,hos,hcs⟩;unfold Mp
 try with_reducible refine GW ?_
 first|refine GF (GI ?_)|skip
 refine GF (wpAny_sequenceKey ht.typeIs 0.2 ?_)
 refine GF (TW (name:=Zt "__getitem__") ht.typeIs Zx
  (GV Zx ht.typeIs entry_tuple_getitem ?_ (args_tuple_getitem _ _)))
 show wpAny _ _ (Yh (.ref t) >>= _) _ _ s;refine GF (tupleItemsOf_ ht ?_);refine GF (TL hTs ?_);rw[NI 0.2];refine GF (sliceApplied_gen hs pl pu ?_)
 have hno:¬((((sIx items.size 0 lo:Nat):Int) == 0 && (1:Int) == 1 && (sIx items.size items.size hi-sIx items.size 0 lo) == items.size)=true):=by
  intro q;rw[Q9,Q9] at q;have q1:((sIx items.size 0 lo:Nat):Int)=0:=eq_of_beq q.1.1;have q2:sIx items.size items.size hi-sIx items.size 0 lo=items.size:=eq_of_beq q.2;exact hw ⟨by lia,by lia⟩
 show wpAny _ _ (if(((sIx items.size 0 lo:Nat):Int) == 0 && (1:Int) == 1 && (sIx items.size items.size hi-sIx items.size 0 lo) == items.size)=true then _ else _) _ _ s;rw[NJ hno,zxm]
 first
  | exact GF (m:=JE _) (GX (GI ⟨_,rfl,GI h⟩) htake)
  | exact GF (m:=JE _) (GX (GF (GI (GI ⟨_,rfl,GI h⟩))) htake)
  | exact GF (GF (m:=JE _) (GX (GI (GI ⟨_,rfl,GI h⟩)) htake))
  | exact GF (GF (m:=JE _) (GX (GI ⟨_,rfl,GI h⟩) htake))
end
end HT
namespace L2
open PySem PySem.Spec PyProof.Rows
abbrev TO:=St->Hp->(Option Int->Hp->Prop)->Prop
def PO(X:Cx)(e:Option Expr)(t:TO):Prop :=
 ∀(pins:0.9) (s:GJ) (σ:St) (H:Hp) (Q:Option Int->Hp->Prop),Inv X pins σ H s->t σ H Q ->
   wpAny 0.8 X.A (evalPart e X.env) (λu s'=>∃o H',Inv X pins σ H' s'/\MH u o/\Q o H') X.xe s
def zqr:TO:=λ_ H Q=>Q none H
def zm0(t:TE):TO:=λσ H Q=>t σ H λx H1=>∃i,x = .int i/\Q (some i) H1
section
variable {X:Cx}{e:Expr}{te:TE}{lo hi:Option Expr}{tl th:TO}{pos p2:Pos}
theorem z3f:PO X none zqr:=by
 intro pins s σ H Q I h;rw[evalPart_none];exact GI ⟨none,H,I,.none,h⟩
theorem zky(h:PE X e te):PO X (some e) (zm0 te):=by
 intro pins s σ H Q I hw;rw[evalPart_some];refine thn (h pins s σ H _ I hw) λu s1 zz=>?_;obtain⟨x,H1,I1,r1,q1⟩:=zz;obtain⟨i,rfl,q⟩:=q1;obtain⟨t,rfl⟩:=r1;exact⟨some i,H1,I1,.int i t,q⟩
def SlR(X:Cx)(r:V->Option Int->Option Int->Hp->VK->Prop):Prop :=
 ∀(pins:0.9) (s:GJ) (σ:St) (H:Hp) (x:V) (v vl vu:GH) (lo hi:Option Int) (sl:Addr) (Q:VK),Inv X pins σ H s->RelV x v->s.heap.IsSliceOf sl vl vu .none->MH vl lo->MH vu hi->r x lo hi H Q ->
   ∃T id,Nn (.type T) "__getitem__" = pure (some (.builtin id))/\s.TypeIs v T/\wpAny 0.8 X.A (Mp v (.ref sl)) (EP X pins σ Q) X.xe s
theorem SlR.or(h:SlR X r)(h':SlR X r'):SlR X (λx lo hi H Q=>r x lo hi H Q\/r' x lo hi H Q):=by
 intro pins s σ H x v vl vu lo hi sl Q I rx hs pl pu q;rcases q with q|q
 .exact h pins s σ H x v vl vu lo hi sl Q I rx hs pl pu q
 .exact h' pins s σ H x v vl vu lo hi sl Q I rx hs pl pu q
def tSl(r:V->Option Int->Option Int->Hp->VK->Prop)(te:TE)(tl th:TO):TE:=λσ H Q=>te σ H λx H1=>tl σ H1 λl H2=>th σ H2 λu H3=>r x l u H3 Q
theorem zoc(hr:SlR X r)(he:PE X e te)(hl:PO X lo tl)(hu:PO X hi th):PE X (.Subscript e (.Slice lo hi none p2) pos) (tSl r te tl th):=by
 intro pins s σ H Q I h;refine Subscript_ (thn (he pins s σ H _ I h) λv s1 zz=>?_);obtain⟨x,H1,I1,r1,q1⟩:=zz;refine wpAny_Slice (thn (hl pins s1 σ H1 _ I1 q1) λvl s2 ⟨l,H2,I2,pl,q2⟩=>thn (hu pins s2 σ H2 _ I2 q2) λvu s3 zz=>?_);obtain⟨u,H3,I3,pu,q3⟩:=zz;rw[evalPart_none];refine GI ?_;have I4:Inv X pins σ H3 { s3 with heap:=s3.heap.push { cls:=.type "slice",data:=.fields #[vl,vu,.none] } }:=I3.kept (t':=s3.toks) λb ob q=>Qf _ q;obtain⟨T,id,hT,ht,hg⟩:=hr pins { s3 with heap:=s3.heap.push { cls:=.type "slice",data:=.fields #[vl,vu,.none] } } σ H3 x v vl vu l u s3.heap.objs.size Q I4 r1 (Heap.IsSliceOf.new ..) pl pu q3;show wpAny 0.8 X.A (Nk e (.Slice lo hi none p2) v (.ref s3.heap.objs.size)) (EP X pins σ Q) X.xe { s3 with heap:=s3.heap.push { cls:=.type "slice",data:=.fields #[vl,vu,.none] } };exact tail_any (ops:=[.ref s3.heap.objs.size,v]) ht hT hg (by with_unfolding_all rfl)
def cutV(xs:3.3)(lo hi:Option Int):List V:=(xs.drop (HT.sIx xs.length 0 lo)).take (HT.sIx xs.length xs.length hi-HT.sIx xs.length 0 lo)
theorem zhz(xs:3.3)(lo hi:Option Int):(cutV xs lo hi).length<=xs.length:=by
 unfold cutV;rw[QL,Zr];lia
def rSlT(K:Qa):V->Option Int->Option Int->Hp->VK->Prop:=λx lo hi H Q=>∃a xs,x = .ref a/\SqT K H a xs /\
 ¬(HT.sIx xs.length 0 lo=0/\HT.sIx xs.length xs.length hi=xs.length)/\∀p,H p=none->Q (.ref p) (upd H p (.tup (cutV xs lo hi)))
theorem sl_tup:SlR X (rSlT X.K):=by
 intro pins s σ H x v vl vu lo hi sl Q I rx hs pl pu h;obtain⟨a,xs,rfl,hx,hw,q⟩:=h;cases rx;obtain⟨its,r,ht,hz⟩:=I.tuple hx;have hlen:its.toArray.size=xs.length:=by rw[Q5];exact r.length.symm
 refine⟨"tuple",_,Zx.lookup,ht.typeIs,?_⟩;refine HT.getItem_tuple_cut ht hs pl pu (by rw[hlen];exact hw) ?_ (by rw[hlen];exact hz);rw[hlen];refine⟨.ref s.heap.objs.size,_,I.laid (t':=s.toks) (o:=.tup (cutV xs lo hi)) (λb ob q=>Qf _ q) (Qg _) ?_,rfl,q _ (I.hok.fresh (Qg _))⟩;exact⟨Q1 (zhz xs lo hi) hz,_,(r.drop (HT.sIx xs.length 0 lo)).take (HT.sIx xs.length xs.length hi-HT.sIx xs.length 0 lo),Gb _ _⟩
def z0y(K:Qa):R2:=λx y H Q=>∃a b xs ys,x = .ref a/\y = .ref b/\SqT K H a xs/\SqT K H b ys/\xs≠[]/\xs.length+ys.length<=sizeLine /\
 (ys = []->Q 3.1 H)/\(ys≠[]->∀p,H p=none->Q (.ref p) (upd H p (.tup (xs++ys))))
theorem Vals.nil_iff(r:Vals xs us):us = []↔xs = []:=by
 cases r with
 | nil=>simp
 | cons _ _=>simp
theorem op_catT:OpR X (TU .Add) (z0y X.K):=by
 intro pins s σ H x y v u Q I rx ry h;obtain⟨a,b,xs,ys,rfl,rfl,ha,hb,hx,hz,q1,q2⟩:=h;cases rx;cases ry;obtain⟨its,r1,p1,_⟩:=I.tuple ha;obtain⟨its2,r2,p2,_⟩:=I.tuple hb;refine HT.cat_tup p1 p2 (λz=>hx (r1.nil_iff.mp z)) (λz=>⟨.ref a,H,I,rfl,q1 (r2.nil_iff.mp z)⟩) (λz=>?_) (by rw[<- r1.length,<- r2.length];exact hz);refine⟨.ref s.heap.objs.size,_,I.laid (t':=s.toks) (o:=.tup (xs++ys)) (λb ob q=>Qf _ q) (Qg _) ?_,rfl,q2 (λw=>z (r2.nil_iff.mpr w)) _ (I.hok.fresh (Qg _))⟩;exact⟨by rw[Qj];exact hz,_,r1.append r2,Gb _ _⟩
end
def ixN(n:Nat)(i:Int):Option Nat:=if 0<=i then(if i<n then some i.toNat else none) else if -(n:Int)<=i then some (i+n).toNat else none
def atI{α:Type}(xs:4.2)(i:Int):Option α:=(ixN xs.length i).bind λj=>xs[j]?
theorem z2e{n:Nat}{i:Int}{j:Nat}(h:ixN n i=some j):N1 i n=some j/\j<n/\-(n:Int)<=i/\i<n:=by
 unfold ixN at h
 by_cases h0:0<=i
 .rw[NI h0] at h
  by_cases h1:i<n
  .rw[NI h1] at h;have e:i.toNat=j:=Za h;exact⟨by rw[seqIndex_of h0 h1,e],by lia,by lia,h1⟩
  .rw[NJ h1] at h;cases h
 .rw[NJ h0] at h
  by_cases h1:-(n:Int)<=i
  .rw[NI h1] at h;have e:(i+n).toNat=j:=Za h;exact⟨by rw[seqIndex_neg 0.0 h1,e],by lia,h1,by lia⟩
  .rw[NJ h1] at h;cases h
theorem zj8{α:Type}{xs:4.2}{i:Int}{v:α}(h:atI xs i=some v):∃j,N1 i xs.length=some j/\xs[j]? = some v/\j<xs.length/\-(xs.length:Int)<=i/\i<xs.length:=by
 unfold atI at h
 cases e:ixN xs.length i with
 | none=>rw[e] at h;cases h
 | some j=>
   rw[e] at h;obtain⟨h1,h2,h3,h4⟩:=z2e e;exact⟨j,h1,h,h2,h3,h4⟩
theorem atI_nat{α:Type}{xs:4.2}{j:Nat}{v:α}(h:xs[j]? = some v):atI xs (j:Int)=some v:=by
 have hj:j<xs.length:=(Qn.mp h).1
 have e:ixN xs.length (j:Int)=some j:=by
  unfold ixN;rw[NI 0.0,NI 0.0];simp
 unfold atI;rw[e];exact h
theorem zx5{α:Type}(xs:4.2)(v:α):atI (xs ++ [v]) (-1)=some v:=by
 have hl:(xs ++ [v]).length=xs.length+1:=by simp
 have e:ixN (xs ++ [v]).length (-1)=some xs.length:=by
  unfold ixN;rw[hl,NJ 0.2,NI 0.0]
  congr 1
  lia
 unfold atI;rw[e];show(xs ++ [v])[xs.length]? = some v;simp
def zrk(b:Expr):Prop:=∀o i,subscripted b false o i=operate [o,i] (Mp o i)
def IxR(X:Cx)(r:R2):Prop :=
 ∀(value slice:Expr) (pins:0.9) (s:GJ) (σ:St) (H:Hp) (x y:V) (v u:GH) (Q:VK),Inv X pins σ H s->RelV x v->RelV y u->r x y H Q ->
   subscripted slice false v u=operate [v,u] (Mp v u)->wpAny 0.8 X.A (Nk value slice v u) (EP X pins σ Q) X.xe s
def MtR(X:Cx)(id:String)(r:V->List V->Hp->VK->Prop):Prop :=
 ∀(pins:0.9) (s:GJ) (σ:St) (H:Hp) (x:V) (xs:3.3) (v:GH) (us:2.8) (Q:VK),Inv X pins σ H s->RelV x v->Vals xs us->r x xs H Q ->
   wpAny 0.8 X.A (call (.builtin id) (v::us)) (EP X pins σ Q) X.xe s
section
variable {X:Cx}{a b:Expr}{ta tb:TE}{pos:Pos}
theorem IxR.or(h:IxR X r)(h':IxR X r'):IxR X (λx y H Q=>r x y H Q\/r' x y H Q):=by
 intro value slice pins s σ H x y v u Q I rx ry q hs;rcases q with q|q
 .exact h value slice pins s σ H x y v u Q I rx ry q hs
 .exact h' value slice pins s σ H x y v u Q I rx ry q hs
theorem yat(hr:IxR X r)(ha:PE X a ta)(hb:PE X b tb)(hs:zrk b):PE X (.Subscript a b pos) (tOp r ta tb):=by
 intro pins s σ H Q I h;exact Subscript_ (binT ha hb I h λv u s2 x y H2 I2 rx ry q=>hr a b pins s2 σ H2 x y v u Q I2 rx ry q (hs _ _))
def rIxL(K:Qa):R2:=λx y H Q=>∃p xs i v,x = .ref p/\y = .int i/\SqL K H p xs/\atI xs i=some v/\Q v H
def rIxT(K:Qa):R2:=λx y H Q=>∃p xs i v,x = .ref p/\y = .int i/\SqT K H p xs/\atI xs i=some v/\Q v H
def rIxS:R2:=λx y H Q=>∃z i c,x = .str z/\y = .int i/\z.length<=sizeLine/\atI z.cps.toList i=some c/\Q (.str ⟨#[c]⟩) H
theorem ix_list:IxR X (rIxL X.K):=by
 intro value slice pins s σ H x y v u Q I rx ry h hs;obtain⟨p,xs,i,z,rfl,rfl,hq,he,q⟩:=h;cases rx;obtain⟨t,rfl⟩:=ry;obtain⟨its,r,pl,hz⟩:=I.list hq;obtain⟨j,h1,h2,h3,h4,h5⟩:=zj8 he;obtain⟨w,ew,rw'⟩:=r.get h2;have hl:=r.length;have hn:=zg3;have fin:EP X pins σ Q w s:=⟨z,H,I,rw',q⟩
 by_cases h0:0<=i
 .have hj:i.toNat=j:=by
   rw[seqIndex_of h0 h5] at h1;exact Za h1
  exact item_listR pl.isList h0 0.0 (by rw[hj];simpa using ew) fin hs
 .have hj:(i+(its.toArray.size:Int)).toNat=j:=by
   rw[seqIndex_neg 0.0 h4] at h1;rw[Q5,<- hl];exact Za h1
  exact MQ (x:=w) pl.isList.typeIs slot_list_getitem.lookup
   (wpAny_getItem_list_neg (Q:=λr s'=>r=w/\EP X pins σ Q r s') pl.isList 0.0 (by rw[Q5] <;> lia) 0.0 (by rw[hj];simpa using ew) ⟨rfl,fin⟩) hs
theorem ix_tup:IxR X (rIxT X.K):=by
 intro value slice pins s σ H x y v u Q I rx ry h hs;obtain⟨p,xs,i,z,rfl,rfl,hq,he,q⟩:=h;cases rx;obtain⟨t,rfl⟩:=ry;obtain⟨its,r,pl,hz⟩:=I.tuple hq;obtain⟨j,h1,h2,h3,h4,h5⟩:=zj8 he;obtain⟨w,ew,rw'⟩:=r.get h2;have hl:=r.length;have hn:=zg3;have fin:EP X pins σ Q w s:=⟨z,H,I,rw',q⟩
 exact MQ (x:=w) pl.typeIs slot_tuple_getitem.lookup
  (getItem_tuple (j:=j) (Q:=λr s'=>r=w/\EP X pins σ Q r s') pl 0.0 0.0 (by rw[Q5,<- hl];exact h1) (by simpa using ew) ⟨rfl,fin⟩) hs
theorem z5k:IxR X rIxS:=by
 intro value slice pins s σ H x y v u Q I rx ry h hs;obtain⟨z,i,c,rfl,rfl,hz,he,q⟩:=h;obtain⟨t,rfl⟩:=rx;obtain⟨t',rfl⟩:=ry;obtain⟨j,h1,h2,h3,h4,h5⟩:=zj8 he;have hl:z.cps.toList.length=z.length:=by simp[Ux]
 rw[hl] at h1 h4 h5;have hn:=zg3
 exact tail_any (typeIs_str s z t) slot_str_getitem.lookup (getItem_str (c:=c) (by
  have e1:decide (i < -(2 ^ 63:Int))=false:=NK 0.0;have e2:decide (i ≥ 2 ^ 63)=false:=NK 0.0
  rw[e1,e2,G4]) (by rw[h1];simpa using h2) ⟨.str ⟨#[c]⟩,H,I.tok _,⟨_,rfl⟩,q⟩) hs
def rIx(K:Qa):R2:=λx y H Q=>rIxL K x y H Q\/rIxT K x y H Q\/rIxS x y H Q
theorem z8z:IxR X (rIx X.K):=ix_list.or (ix_tup.or z5k)
theorem zm3(lo hi:Option Int)(n:Nat):(Mi lo hi none n).1=((HT.sIx n 0 lo:Nat):Int)/\(Mi lo hi none n).2.1=((HT.sIx n n hi:Nat):Int)/\(Mi lo hi none n).2.2=1:=by
 refine⟨?_,?_,rfl⟩
 .cases lo with
  | none=>simp[Mi,HT.sIx]
  | some i=>
    simp only[Mi,HT.sIx,Gc,show(1:Int) > 0 by decide,NR]
    by_cases h:i<0
    .simp only[h,NR] <;> lia
    .simp only[h,NQ] <;> lia
 .cases hi with
  | none=>simp[Mi,HT.sIx]
  | some i=>
    simp only[Mi,HT.sIx,Gc,show(1:Int) > 0 by decide,NR]
    by_cases h:i<0
    .simp only[h,NR] <;> lia
    .simp only[h,NQ] <;> lia
theorem zmh(its:2.8)(lo hi:Option Int):slicePick its.toArray lo hi none=((its.drop (HT.sIx its.length 0 lo)).take (HT.sIx its.length its.length hi-HT.sIx its.length 0 lo)).toArray:=by
 obtain⟨h1,h2,h3⟩:=zm3 lo hi its.toArray.size;unfold slicePick;rw[h1,h2,h3];simp only[sliceRange_one,pick_run,Q5] <;> rfl
def rSlL(K:Qa):V->Option Int->Option Int->Hp->VK->Prop:=λx lo hi H Q=>∃a xs,x = .ref a/\SqL K H a xs/\∀p,H p=none->Q (.ref p) (upd H p (.lst (cutV xs lo hi)))
theorem sl_list:SlR X (rSlL X.K):=by
 intro pins s σ H x v vl vu lo hi sl Q I rx hs pl pu h;obtain⟨a,xs,rfl,hx,q⟩:=h;cases rx;obtain⟨its,r,ht,hz⟩:=I.list hx;have hlen:=r.length;refine⟨"list",_,slot_list_getitem.lookup,ht.isList.typeIs,?_⟩;refine wpAny_getItem_list_slice ht.isList hs pl pu .none 0.1 ?_ (by rw[Q5] <;> lia);rw[zmh,<- hlen];refine⟨.ref s.heap.objs.size,_,I.laid (t':=s.toks) (o:=.lst (cutV xs lo hi)) (λb ob q=>Qf _ q) (Qg _) ?_,rfl,q _ (I.hok.fresh (Qg _))⟩;exact⟨Q1 (zhz xs lo hi) hz,_,0,(r.drop (HT.sIx xs.length 0 lo)).take (HT.sIx xs.length xs.length hi-HT.sIx xs.length 0 lo),Qs _ rfl⟩
theorem zmm:zcz X (.type "tuple") (λxs H Q=>∃p ys,xs = [.ref p]/\((SqL X.K H p ys/\∀l,H l=none->Q (.ref l) (upd H l (.tup ys)))\/(SqT X.K H p ys/\Q (.ref p) H))):=by
 intro pins s σ H xs us Q I r h;obtain⟨p,ys,rfl,h⟩:=h;obtain⟨u,rfl,rx⟩:=z0z r;cases rx;rcases h with ⟨hq,q⟩|⟨hq,q⟩
 .obtain⟨its,r',pl,hz⟩:=I.list hq;have hlen:=r'.length;refine call_tuple_list pl.isList (λh' kp=>?_) (by simp only[Q5] <;> lia);have I1:Inv X pins σ H 3.9:=I.kept (t':=s.toks) kp
  have I2:Inv X pins σ (upd H h'.objs.size (.tup ys)) { s with heap:=h'.push { cls:=.type "tuple",data:=.seq its.toArray } } :=
   I1.laid (t':=s.toks) (λb o e=>Qf _ e) (Qg _) (show ObjOk X.prog X.w _ _ _ (.tup ys) from⟨hz,its,r',Gb _ _⟩)
  exact⟨.ref h'.objs.size,_,I2,rfl,q _ (I1.hok.fresh (Qg _))⟩
 .obtain⟨its,r',pl,hz⟩:=I.tuple hq;exact call_tuple_same pl ⟨.ref p,H,I,rfl,q⟩
def tyV(K:Qa)(T:String)(x:V)(H:Hp):Prop:=match x with
 | .str _=>T = "str"
 | .int _=>T = "int"
 | .ref p=>(T = "list" /\ ∃xs,SqL K H p xs)\/(T = "tuple" /\ ∃o,K.lookup p=some o/\o.cls = .type "tuple" /\ o.dict=none) \/
  (T = "dict" /\ ((∃kvs,H p=some (.dK kvs))\/∃kvs,H p=some (.dT kvs)))\/(T = "set" /\ ∃S n,H p=some (.set S n))
 | _=>False
theorem zu7{pins:0.9}(I:0.5)(r:RelV x v)(ty:tyV X.K T x H):
 s.TypeIs v T/\∀a,v = .ref a->∃ob,s.heap.get? a=some ob/\ob.dict=none:=by
 cases x with
 | str z=>
   obtain⟨t,rfl⟩:=r;cases (show T = "str" from ty);exact⟨typeIs_str s z t,λ_ e=>nomatch e⟩
 | int i=>
   obtain⟨t,rfl⟩:=r;cases (show T = "int" from ty);exact⟨typeIs_int s i t,λ_ e=>nomatch e⟩
 | ref p=>
   cases r;rcases ty with ⟨rfl,xs,hq⟩|⟨rfl,o,hk,hc,hd⟩|⟨rfl,hk⟩|⟨rfl,S,n,hk⟩
   .obtain⟨its,_,pl,_⟩:=I.list hq;refine⟨pl.isList.typeIs,λa e=>?_⟩;cases e;obtain⟨o,n,e,c,hd,_⟩:=pl;exact⟨o,e,hd⟩
   .refine⟨⟨o,I.kIn p o hk,hc⟩,λa e=>?_⟩;cases e;exact⟨o,I.kIn _ o hk,hd⟩
   .have z:∃o,s.heap.get? p=some o/\o.ExactDict:=by
     rcases hk with ⟨kvs,hk⟩|⟨kvs,hk⟩
     .obtain⟨_,_,_,_,o,_,_,e,ex,_⟩:=I.hok p _ hk;exact⟨o,e,ex⟩
     .obtain⟨_,_,_,_,o,_,_,e,ex,_⟩:=I.hok p _ hk;exact⟨o,e,ex⟩
    obtain⟨o,e,ex⟩:=z;refine⟨⟨o,e,ex.1⟩,λa e2=>?_⟩;cases e2;exact⟨o,e,ex.2.1⟩
   .obtain⟨o,_,_,_,e,ex,_⟩:=I.hok p _ hk;refine⟨⟨o,e,ex.1⟩,λa e2=>?_⟩;cases e2;exact⟨o,e,ex.2.1⟩
 | _=>exact ZL ty
def tBM0(K:Qa)(T:String)(r:V->List V->Hp->VK->Prop)(to:TE):TE:=λσ H Q=>to σ H λx H1=>tyV K T x H1/\r x [] H1 Q
def tBM(K:Qa)(T:String)(r:V->List V->Hp->VK->Prop)(to:TE)(t:TA):TE:=λσ H Q=>to σ H λx H1=>tyV K T x H1/\t σ H1 λxs H2=>r x xs H2 Q
variable {o e:Expr}{es:List Expr}{to:TE}{t:TA}{name:Str}{apos cpos:Pos}{T id:String}{r:V->List V->Hp->VK->Prop}
theorem zwk(pa:PlainAttrs T)(slot:Slot T name id)(hty:N4 (.builtin id)=pure (.type "method_descriptor"))(hm:MtR X id r)(ho:PE X o to)
 (hbase:Th o name X.env (eval o X.env)=eval o X.env:=by rfl) (hline:(apos.endLine == cpos.line)=true:=by rfl):PE X (.Call (.Attribute o name apos) [] [] cpos) (tBM0 X.K T r to):=by
 intro pins s σ H Q I h;refine Mj hbase hline (thn (ho pins s σ H _ I h) λv s1 zz=>?_);obtain⟨x,H1,I1,r1,ty,q1⟩:=zz;obtain⟨h1,h2⟩:=zu7 I1 r1 ty;exact⟨T,id,pa,slot,hty,h1,h2,JP rfl (Vo (hm pins s1 σ H1 x [] v [] Q I1 r1 .nil q1))⟩
theorem zg8(pa:PlainAttrs T)(slot:Slot T name id)(hty:N4 (.builtin id)=pure (.type "method_descriptor"))(hm:MtR X id r)(ho:PE X o to)(ha:PA X (e::es) t)
 (hbase:Th o name X.env (eval o X.env)=eval o X.env:=by rfl)
 (hfew:((TM cpos (GN (e::es) X.env)).all (λx=>!x.1) && (Nq cpos (M5 [] X.env)).all (λx=>x.1.isSome)
  && decide ((e::es).length+([]:List Mw).length+(if([]:List Mw).isEmpty then 0 else 1)<30))=true:=by rfl)
 (hline:(apos.endLine == cpos.line)=true:=by rfl) (hs:GN (e::es) X.env=(false,eval e X.env)::GN es X.env:=by rfl) (hplain:(TM cpos (GN es X.env)).any (·.1)=false:=by rfl) :
 PE X (.Call (.Attribute o name apos) (e::es) [] cpos) (tBM X.K T r to t):=by
 intro pins s σ H Q I h;refine wpAny_Call_method_late hbase hfew hline rfl (thn (ho pins s σ H _ I h) λv s1 zz=>?_);obtain⟨x,H1,I1,r1,ty,q1⟩:=zz;obtain⟨h1,h2⟩:=zu7 I1 r1 ty;refine⟨T,id,pa,slot,hty,h1,h2,?_⟩;have hA:=ha cpos pins s1 σ H1 _ I1 q1;rw[hs] at hA ⊢;refine JP (by show(false || (TM cpos (GN es X.env)).any (·.1))=false;rw[hplain] <;> rfl) (Ue ?_);exact thn hA λus s2 ⟨vs,H2,I2,r2,q2⟩=>hm pins s2 σ H2 x vs v us Q I2 r1 r2 q2
/- xs.append(e),list.index on a module's tuple .. are MtR facts of 06m -/
end
def MtM(X:Cx)(id:String)(r:V->List V->Hp->VK->Prop):Prop :=
 ∀(pins:0.9) (s:GJ) (σ:St) (H:Hp) (x:V) (xs:3.3) (v:GH) (us:2.8) (Q:VK),Inv X pins σ H s->RelV x v->Vals xs us->r x xs H Q ->
   wpAny 0.8 X.A (call (.builtin id) (v::us)) (EP X pins σ Q) X.xe s
theorem Vals.one:∀{x:V} {us:2.8},Vals [x] us->∃u,us = [u]/\RelV x u
 | _,_,h=>by
   cases h with
   | cons r t=>cases t;exact⟨_,rfl,r⟩
theorem Vals.zero:∀{us:2.8},Vals [] us->us = []
 | _,.nil=>rfl
theorem Vals.dropLast(h:Vals xs us):Vals xs.dropLast us.dropLast:=by
 induction h with
 | nil=>exact .nil
 | cons r t ih=>
   cases t with
   | nil=>exact .nil
   | cons q t'=>exact .cons r ih
theorem Vals.eraseIdx:∀{xs:3.3} {us:2.8} (i:Nat),Vals xs us->Vals (xs.eraseIdx i) (us.eraseIdx i)
 | _,_,_,.nil=>.nil
 | _,_,0,.cons _ t=>t
 | _,_,i+1,.cons r t=>.cons r (Vals.eraseIdx i t)
theorem Vals.reverse(h:Vals xs us):Vals xs.reverse us.reverse:=by
 induction h with
 | nil=>exact .nil
 | cons r t ih=>rw[UD,UD];exact Vals.append ih (.cons r .nil)
theorem zrx{α:Type}(l:4.2):l.eraseIdx (l.length-1)=l.dropLast:=by
 induction l with
 | nil=>rfl
 | cons a r ih=>
   cases r with
   | nil=>rfl
   | cons b r=>
     have e:(a::b::r).length-1=((b::r).length-1)+1:=by
      have h1:(a::b::r).length=r.length+2:=rfl;have h2:(b::r).length=r.length+1:=rfl;lia
     rw[e,Zy,ih]
     all_goals rfl
theorem zlk{α:Type}:∀(l:4.2) (i:Nat),(l.eraseIdx i).length<=l.length
 | [],_=>Qg _
 | _::_,0=>Jp _
 | _::r,i+1=>Nat.succ_le_succ (zlk r i)
section
variable {X:Cx}{pins:0.9}{σ:St}{H:Hp}{s:GJ}{l b:Addr}{xs ys zs:3.3}
theorem Inv.lset{its its':2.8}{n:Nat}{f:Array GH->Array GH}{t':Nat}(I:0.5)(hH:H l=some 4.1)
 (e:s.heap.get? l=some { cls:=.type "list",data:=.seq its.toArray n }) (hf:f its.toArray=its'.toArray) (hv:Vals ys its') (hz:ys.length<=sizeLine) :
 Inv X pins σ (upd H l (.lst ys)) { s with heap:=s.heap.update l (QJ f),toks:=t' }:=by
 have q:=PySem.IsL.update e f;rw[hf] at q;refine I.write (x:=l) (e:=l) (by rw[hH];exact trivial) (.inl rfl) (λb' u hb hu=>(ZG s.heap (QJ f) (Z8 hb)).trans hu) ⟨_,q⟩ ?_;exact⟨hz,its',_,hv,q⟩
theorem Inv.lnew{t':Nat}(I:0.5)(hv:Vals ys its)(hz:ys.length<=sizeLine):
 Inv X pins σ (upd H s.heap.objs.size (.lst ys)) { s with heap:=s.heap.push { cls:=.type "list",data:=.seq its.toArray },toks:=t' } :=
 I.laid (λ_ _ q=>Qf _ q) (Qg _) ⟨hz,its,0,hv,Qs _ rfl⟩
theorem Inv.fresh(I:0.5):H s.heap.objs.size=none:=I.hok.fresh (Qg _)
theorem Inv.lstM(I:0.5)(hH:H l=some 4.1):xs.length<=sizeLine/\∃(its:2.8) (n:Nat),Vals xs its/\xs.length=its.length/\s.heap.get? l=some { cls:=.type "list",data:=.seq its.toArray n }:=by
 obtain⟨z,its,n,r,e⟩:=I.hok l _ hH;exact⟨z,its,n,r,r.length,e⟩
theorem zyl{n:Nat}(h:n<=sizeLine):Yw n=false:=by
 unfold Yw;exact NK 0.0
end
section
variable {X:Cx}
def zhk:V->List V->Hp->VK->Prop:=λx vs H Q=>∃l xs y,x = .ref l/\vs = [y]/\H l=some 4.1/\xs.length<sizeLine/\Q .non (upd H l (.lst (xs ++ [y])))
theorem zma:MtM X "list.append" zhk:=by
 intro pins s σ H x vs v us Q I rx rv h;obtain⟨l,xs,y,rfl,rfl,hH,hz,q⟩:=h;cases rx;obtain⟨u,rfl,ru⟩:=rv.one;obtain⟨z,its,n,r,hl,e⟩:=I.lstM hH;refine MJ F.slot_list_append ⟨_,e,rfl⟩ F.entry_list_append (F.args_list_append_2 _ _) (PySem.list_append l its.toArray n u (by rw[Q5];lia)) ⟨e,?_⟩;refine⟨.non,_,I.lset (its':=its ++ [u]) hH e 0.1 (r.append (.cons ru .nil)) ?_,rfl,q⟩;rw[Qj,Zd];lia
def zhl:V->List V->Hp->VK->Prop:=λx vs H Q=>∃l b xs zs,x = .ref l/\vs = [.ref b]/\H l=some 4.1/\H b=some (.lst zs)/\xs.length+zs.length<=sizeLine/\Q .non (upd H l (.lst (xs++zs)))
theorem zwu:MtM X "list.extend" zhl:=by
 intro pins s σ H x vs v us Q I rx rv h;obtain⟨l,b,xs,zs,rfl,rfl,hH,hB,hz,q⟩:=h;cases rx;obtain⟨u,rfl,ru⟩:=rv.one;cases ru;obtain⟨z,its,n,r,hl,e⟩:=I.lstM hH;obtain⟨z2,its2,n2,r2,hl2,e2⟩:=I.lstM hB;have hsz:its.toArray.size+its2.toArray.size<=sizeLine:=by rw[Q5,Q5];lia
 have hlong:¬(!its.toArray.isEmpty && Yw (its.toArray.size+its2.toArray.size))=true:=by
  rw[zyl hsz,Gv];exact Qx
 refine MJ F.slot_list_extend ⟨_,e,rfl⟩ F.entry_list_extend (F.args_list_extend_2 _ _)
  (AutoSeq1.list_extend_list_list_0 l its.toArray n b its2.toArray n2 hlong (by rw[Q5];lia) 0.0) ⟨e,e2,?_⟩
 refine⟨.non,_,I.lset (its':=its++its2) hH e 0.1 (r.append r2) ?_,rfl,q⟩;rw[Qj];lia
def rPop:V->List V->Hp->VK->Prop:=λx vs H Q=>∃l xs y,x = .ref l/\vs = []/\H l=some 4.1/\xs[xs.length-1]? = some y/\Q y (upd H l (.lst xs.dropLast))
theorem z6g:MtM X "list.pop" rPop:=by
 intro pins s σ H x vs v us Q I rx rv h;obtain⟨l,xs,y,rfl,rfl,hH,hy,q⟩:=h;cases rx;have hus:=rv.zero;subst hus;obtain⟨z,its,n,r,hl,e⟩:=I.lstM hH;obtain⟨u,hu,ru⟩:=r.get hy
 have hy':its.toArray[its.toArray.size-1]? = some u:=by
  show its.toArray[its.length-1]? = some u;rw[<- Q7,<- hl];exact hu
 refine MJ F.slot_list_pop ⟨_,e,rfl⟩ Gd (F.args_list_pop_1 _) (MeetsSeq.list_pop_last l its.toArray n u hy' (by rw[Q5];lia)) ⟨e,?_⟩;refine⟨y,_,I.lset (its':=its.dropLast) hH e ?_ r.dropLast ?_,ru,q⟩
 .show its.toArray.eraseIdxIfInBounds (its.toArray.size-1)=its.dropLast.toArray;rw[Q5,YL,zrx]
 .rw[List.length_dropLast];lia
def ziv:V->List V->Hp->VK->Prop:=λx vs H Q=>∃l xs i k y,x = .ref l/\vs = [.int i]/\H l=some 4.1/\-(2 ^ 63)<=i/\i<2 ^ 63/\N1 i xs.length=some k/\xs[k]? = some y/\Q y (upd H l (.lst (xs.eraseIdx k)))
theorem zx3:MtM X "list.pop" ziv:=by
 intro pins s σ H x vs v us Q I rx rv h;obtain⟨l,xs,i,k,y,rfl,rfl,hH,h1,h2,hk,hy,q⟩:=h;cases rx;obtain⟨u,rfl,ru⟩:=rv.one;obtain⟨t,rfl⟩:=ru;obtain⟨z,its,n,r,hl,e⟩:=I.lstM hH;obtain⟨w,hw,rw'⟩:=r.get hy
 refine MJ F.slot_list_pop ⟨_,e,rfl⟩ Gd (F.args_list_pop_2 _ _)
  (MeetsSeq.list_pop_at l its.toArray n i t k w (fitsIndex_both h1 h2) (by rw[Q5,<- hl];exact hk) (by rw[<- Q7];exact hw) (by rw[Q5];lia)) ⟨e,?_⟩
 refine⟨y,_,I.lset (its':=its.eraseIdx k) hH e ?_ (r.eraseIdx k) ?_,rw',q⟩
 .show its.toArray.eraseIdxIfInBounds k=(its.eraseIdx k).toArray;rw[YL]
 .have:=zlk xs k;lia
def rCat:R2:=λx y H Q=>∃l b xs zs,x = .ref l/\y = .ref b/\H l=some 4.1/\H b=some (.lst zs)/\xs.length+zs.length<=sizeLine/\∀p,H p=none->Q (.ref p) (upd H p (.lst (xs++zs)))
theorem op_cat:OpR X (TU .Add) rCat:=by
 intro pins s σ H x y v u Q I rx ry h;obtain⟨l,b,xs,zs,rfl,rfl,hH,hB,hz,q⟩:=h;cases rx;cases ry;obtain⟨z,its,n,r,hl,e⟩:=I.lstM hH;obtain⟨z2,its2,n2,r2,hl2,e2⟩:=I.lstM hB;refine PySem.P.add_list e e2 ?_ (by rw[Q5,Q5];lia);have ea:its.toArray++its2.toArray=(its++its2).toArray:=by simp
 rw[ea];exact⟨.ref _,_,I.lnew (t':=s.toks) (r.append r2) (by rw[Qj];lia),rfl,q _ I.fresh⟩
end
section
variable {κ:Type}[DecidableEq κ]
def valV(kvs:List (κ×V))(k:κ):Option V:=(kvs.find? λkv=>decide (kv.1=k)).map (·.2)
def putK(kvs:List (κ×V))(k:κ)(v:V):List (κ×V) :=
 if(kvs.any λkv=>decide (kv.1=k))=true then kvs.map (λkv=>if kv.1=k then(kv.1,v) else kv) else kvs ++ [(k,v)]
theorem zin{p:κ×V}{r:List (κ×V)}{k:κ}(e:p.1=k):valV (p::r) k=some p.2:=by simp[valV,Jq,e]
theorem zik{p:κ×V}{r:List (κ×V)}{k:κ}(e:¬p.1=k):valV (p::r) k=valV r k:=by simp[valV,Jq,e]
theorem zc7(k:κ):∀kvs:List (κ×V),(kvs.any λkv=>decide (kv.1=k))=(valV kvs k).isSome
 | []=>rfl
 | p::r=>by
   rw[YZ]
   by_cases e:p.1=k
   .simp only[zin e,NM e,Bool.true_or,Uy]
   .rw[zik e,NK e,G5];exact zc7 k r
theorem zez(kvs:List (κ×V))(k:κ)(v:V):(putK kvs k v).length<=kvs.length+1:=by
 unfold putK
 split
 .rw[Qc];lia
 .rw[Qj,Ql,JU];lia
theorem RelO.isSome_eq(r:RelO o u):o.isSome=u.isSome:=by
 cases o with
 | none=>cases u with
   | none=>rfl
   | some _=>exact(show False from r).elim
 | some _=>cases u with
   | none=>exact(show False from r).elim
   | some _=>rfl
theorem KV.val(r:KV kvs vs)(k:κ):RelO (valV kvs k) (Ni vs k):=by
 unfold KV at r
 induction r with
 | nil=>exact Yi
 | @cons p q ps qs h t ih=>
   obtain⟨h1,h2⟩:=h
   by_cases e:p.1=k
   .have e':q.1=k:=h1.symm.trans e;have b:Ni (q::qs) k=some q.2:=by simp[Ni,Jq,e']
    rw[zin e,b];exact h2
   .have e':¬q.1=k:=λz=>e (h1.trans z);have b:Ni (q::qs) k=Ni qs k:=by simp[Ni,Jq,e']
    rw[zik e,b];exact ih
theorem KV.any(r:KV kvs vs)(k:κ):(kvs.any λkv=>decide (kv.1=k))=vs.any λkv=>decide (kv.1=k):=by
 unfold KV at r
 induction r with
 | nil=>rfl
 | cons h t ih=>rw[YZ,YZ,ih,h.1]
theorem KV.repl(r:KV kvs vs)(k:κ)(ry:RelV y u):
 KV (kvs.map λkv=>if kv.1=k then(kv.1,y) else kv) (vs.map λkv=>if kv.1=k then(kv.1,u) else kv):=by
 unfold KV at r ⊢
 induction r with
 | nil=>exact .nil
 | @cons p q ps qs h t ih=>
   rw[QB,QB];refine .cons ?_ ih;obtain⟨h1,h2⟩:=h
   by_cases e:p.1=k
   .rw[NI e,NI (h1.symm.trans e)];exact⟨h1,ry⟩
   .rw[NJ e,NJ (λz=>e (h1.trans z))];exact⟨h1,h2⟩
theorem KV.put(r:KV kvs vs)(k:κ)(ry:RelV y u):KV (putK kvs k y) (stored vs k u):=by
 unfold putK stored;rw[r.any k]
 by_cases e:(vs.any λkv=>decide (kv.1=k))=true
 .rw[NI e,NI e];exact r.repl k ry
 .rw[NJ e,NJ e];exact GE r ⟨rfl,ry⟩
theorem KV.length(r:KV kvs vs):kvs.length=vs.length:=JY r
end
theorem zj0{k:Key}(r:RelV (kV k) u):(zaw P w).is k u=true:=by
 cases k with
 | inl i=>obtain⟨t,e⟩:=(show ∃t,u=UZ i t from r);subst e;exact zpo P w i t
 | inr x=>obtain⟨t,e⟩:=(show ∃t,u=Um x t from r);subst e;exact zpr P w x t
theorem zlw: ∀{ks:List Key} {us:2.8},Vals (ks.map kV) us->ItemsAre (zaw P w) ks us
 | [],_,r=>by rw[UE] at r;cases r;exact .nil
 | k::ks,_,r=>by
   rw[QB] at r
   cases r with
   | cons h t=>exact .cons (zj0 h) (zlw t)
abbrev KT(H:Hp):List (List Key×V)->List (List Key×Addr×GH)->Prop:=Nw λp q=>p.1=q.1/\H q.2.1=some (.tup (p.1.map kV))/\RelV p.2 q.2.2
theorem KT.val(r:KT H kvs xs)(k:List Key):RelO (valV kvs k) ((M4 xs k).map (·.2)):=by
 induction r with
 | nil=>exact Yi
 | @cons p q ps qs h t ih=>
   obtain⟨h1,_,h2⟩:=h
   by_cases e:p.1=k
   .have e':q.1=k:=h1.symm.trans e;have b:M4 (q::qs) k=some q.2:=by simp[M4,Jq,e']
    rw[zin e,b];exact h2
   .have e':¬q.1=k:=λz=>e (h1.trans z);have b:M4 (q::qs) k=M4 qs k:=by simp[M4,Jq,e']
    rw[zik e,b];exact ih
theorem KT.repl(r:KT H kvs xs)(k:List Key)(ry:RelV y u):
 KT H (kvs.map λkv=>if kv.1=k then(kv.1,y) else kv) (xs.map (putAt k u)):=by
 induction r with
 | nil=>exact .nil
 | @cons p q ps qs h t ih=>
   rw[QB,QB];refine .cons ?_ ih;obtain⟨h1,h2,h3⟩:=h;unfold putAt
   by_cases e:p.1=k
   .rw[NI e,NI (h1.symm.trans e)];exact⟨h1,h2,ry⟩
   .rw[NJ e,NJ (λz=>e (h1.trans z))];exact⟨h1,h2,h3⟩
theorem KT.put(r:KT H kvs xs)(k:List Key)(hb:H b=some (.tup (k.map kV)))(ry:RelV y u):
 KT H (putK kvs k y) (storedH xs k b u):=by
 have e:(kvs.any λkv=>decide (kv.1=k))=(M4 xs k).isSome:=by
  rw[zc7,(r.val k).isSome_eq,UF]
 unfold putK storedH;rw[e]
 by_cases q:(M4 xs k).isSome=true
 .rw[NI q,NI q];exact r.repl k ry
 .rw[NJ q,NJ q];exact GE r ⟨rfl,hb,ry⟩
theorem KT.keeps(r:KT H kvs xs)(ht:∀b ys,H b=some (.tup ys)->H' b=some (.tup ys)):KT H' kvs xs :=
 Paired.mapP r λ_ _ z=>⟨z.1,ht _ _ z.2.1,z.2.2⟩
section
variable {P:GK}{w:GM}{H:Hp}{h:Heap}{a:Addr}
theorem z0g(ok:HOk P w H h)(e:Rd H a u):ObjOk P w H h a u:=e.ok ok
theorem zmr(ok:HOk P w H h)(e:Rd H a (.dK kvs)):kvs.length<=sizeLine/\(a == Tk)=false/\∃vs,KV kvs vs/\h.DictOf (zaw P w) a vs :=
 show ObjOk P w H h a (.dK kvs) from z0g ok e
theorem z1g(ok:HOk P w H h)(e:H a=some (.dK kvs)):kvs.length<=sizeLine/\(a == Tk)=false/\∃vs,KV kvs vs/\h.DictOf (zaw P w) a vs:=zmr ok (.inl e)
theorem zi5(ok:HOk P w H h)(e:H a=some (.tup (ks.map kV))):(tupleKind (zaw P w)).is h ks a:=by
 obtain⟨_,its,r,o,h1,h2,n,h3⟩:=(show ObjOk P w H h a (.tup (ks.map kV)) from ok a _ e);exact⟨o,its.toArray,n,h1,h2,h3,by simpa using zlw r⟩
theorem zmq(ok:HOk P w H h)(e:Rd H a (.dT kvs)):kvs.length<=sizeLine/\(a == Tk)=false /\
 ∃xs,KT H kvs xs/\h.DictOfH (tupleKind (zaw P w)) a xs:=by
 obtain⟨z,y,xs,r,o,es,ep,h1,h2,h3,h4,h5⟩:=(show ObjOk P w H h a (.dT kvs) from z0g ok e);refine⟨z,y,xs,r,o,es,ep,h1,h2,h3,h4,λx hx=>?_,h5⟩
 have all:∀{l:List (List Key×V)} {m:List (List Key×Addr×GH)},KT H l m->∀x∈m,(tupleKind (zaw P w)).is h x.1 x.2.1:=by
  intro l m q
  induction q with
  | nil=>intro x hx;exact nomatch hx
  | @cons p q ps qs hq t ih=>
    intro x hx;rcases Qz.mp hx with e|hx
    .subst e;exact zi5 ok (by rw[<- hq.1];exact hq.2.1)
    .exact ih x hx
 exact all r x hx
theorem yad(ok:HOk P w H h)(e:H a=some (.dT kvs)):kvs.length<=sizeLine/\(a == Tk)=false /\
 ∃xs,KT H kvs xs/\h.DictOfH (tupleKind (zaw P w)) a xs:=zmq ok (.inl e)
end
def DGet(H:Hp)(a:Addr)(y:V)(r:Option V):Prop :=
 (∃kvs k,Rd H a (.dK kvs)/\y=kV k/\r=valV kvs k)\/∃kvs k b,Rd H a (.dT kvs)/\y = .ref b/\H b=some (.tup (k.map kV))/\r=valV kvs k
def DPut(H:Hp)(a:Addr)(y v:V)(H':Hp):Prop :=
 (∃kvs k,H a=some (.dK kvs)/\y=kV k/\kvs.length<sizeLine/\H'=upd H a (.dK (putK kvs k v))) \/
 ∃kvs k b,H a=some (.dT kvs)/\y = .ref b/\H b=some (.tup (k.map kV))/\kvs.length<sizeLine/\H'=upd H a (.dT (putK kvs k v))
theorem DGet.k{k:Key}(e:H a=some (.dK kvs)):DGet H a (kV k) (valV kvs k):=.inl ⟨kvs,k,.inl e,rfl,rfl⟩
theorem DPut.k{k:Key}(e:H a=some (.dK kvs))(hl:kvs.length<sizeLine):DPut H a (kV k) v (upd H a (.dK (putK kvs k v))):=.inl ⟨kvs,k,e,rfl,hl,rfl⟩
section
variable {X:Cx}{pins:0.9}{σ:St}{H:Hp}{s:GJ}{a:Addr}{y v:V}{u r:GH}{o:Option V}{A:GQ}{E:1.0}
theorem Inv.big(I:0.5):Tk<s.heap.objs.size:=by
 have h:mainGlobals<s.heap.objs.size:=(I.mod.glob.keeps I.bk).lt;exact UG 0.2 h
theorem zvg(hu:A.units+1<GZ)(I:0.5)(g:DGet H a y (some v))(ry:RelV y u)(h:∀w' s',Inv X pins σ H s'->RelV v w'->Q w' s'):
 wpAny 0.8 A (Mp 3.1 u) Q E s:=by
 rcases g with ⟨kvs,k,e,ey,l⟩|⟨kvs,k,b,e,ey,eb,l⟩
 .subst ey;obtain⟨z,hd,vs,rel,dd⟩:=zmr I.hok e;obtain⟨w',hw,rw'⟩:=RelO.some_of (v:=v) (o:=Ni vs k) (by rw[l];exact rel.val k);exact wpAny_getItem_of (zj0 ry) dd.mapOf hw (h w' _ (I.tok _) rw')
 .subst ey;cases (show u=QQ b from ry);obtain⟨z,hd,xs,rel,dd⟩:=zmq I.hok e;obtain⟨w',hw,rw'⟩:=RelO.some_of (v:=v) (o:=(M4 xs k).map (·.2)) (by rw[l];exact rel.val k);obtain⟨p,hp,hp2⟩:=Q2.mp hw;refine Mz (My hu) (zi5 I.hok eb) dd hp ?_;rw[hp2];exact h w' _ (I.tok _) rw'
theorem z4f(hu:A.units+1<GZ)(I:0.5)(g:DGet H a y o)(ry:RelV y u)(h:∀s',Inv X pins σ H s'->Q (.bool (!o.isSome)) s'):
 wpAny 0.8 A (Tb .NotIn u 3.1) Q E s:=by
 rcases g with ⟨kvs,k,e,ey,l⟩|⟨kvs,k,b,e,ey,eb,l⟩
 .subst ey;obtain⟨z,hd,vs,rel,dd⟩:=zmr I.hok e;refine wpAny_notIn_of (zj0 ry) hd dd.mapOf ?_;rw[<- (rel.val k).isSome_eq,<- l];exact h _ (I.tok _)
 .subst ey;cases (show u=QQ b from ry);obtain⟨z,hd,xs,rel,dd⟩:=zmq I.hok e;refine ME (My hu) (zi5 I.hok eb) hd dd ?_;have q:=(rel.val k).isSome_eq;rw[UF] at q;rw[<- q,<- l];exact h _ (I.tok _)
theorem zfi{t':Nat}(I:0.5)(mu:Mut (H a))(hs:ZF a s.heap h')(he:∃q,h'.get? a=some q)(new:ObjOk X.prog X.w (upd H a ob) h' a ob):
 Inv X pins σ (upd H a ob) { s with heap:=h',toks:=t' } :=
 I.write (x:=a) (e:=a) mu (.inl rfl) (λb q hb z=>(hs.2 b hb).trans z) he new
theorem zwg(z:kvs.length<=sizeLine)(hd:(a == Tk)=false)(rel:KV kvs vs)(dd:h'.DictOf (zaw P w) a vs):
 ObjOk P w H' h' a (.dK kvs):=⟨z,hd,vs,rel,dd⟩
theorem zu4(hu:A.units+1<GZ)(I:0.5)(g:DPut H a y v H')(ry:RelV y u)(rv:RelV v r)(h:∀s',Inv X pins σ H' s'->Q () s'):
 wpAny 0.8 A (setItem 3.1 u r) Q E s:=by
 rcases g with ⟨kvs,k,e,ey,l,eH⟩|⟨kvs,k,b,e,ey,eb,l,eH⟩
 .subst ey eH;obtain⟨z,hd,vs,rel,dd⟩:=z1g I.hok e;have hz:vs.length<=sizeLine:=by rw[<- rel.length];exact z
  have hl:(putK kvs k v).length<=sizeLine:=by have:=zez kvs k v;lia
  refine wpAny_setItem_pairs (hsz:=hz) (zj0 ry) dd λh' dd' hs=>h _ ?_;have he:∃q,h'.get? a=some q:=let ⟨q,_,_,hq,_⟩:=dd';⟨q,hq⟩
  exact zfi I (by rw[e];exact Yi) hs he (zwg hl hd (rel.put k rv) dd')
 .subst ey eH;cases (show u=QQ b from ry);obtain⟨z,hd,xs,rel,dd⟩:=yad I.hok e;have hz:xs.length<=sizeLine:=by rw[<- JY rel];exact z
  have hl:(putK kvs k v).length<=sizeLine:=by have:=zez kvs k v;lia
  refine M1 (hsz:=hz) (My hu) (zi5 I.hok eb) dd λh' dd' hs=>h _ ?_;obtain⟨q,es,ep,hq,h2,h3,h4,_,h5⟩:=dd';refine zfi I (by rw[e];exact Yi) hs ⟨q,hq⟩ ⟨hl,hd,_,(rel.put k eb rv).keeps λc ys ec=>?_,q,es,ep,hq,h2,h3,h4,h5⟩;rw[zac (yag ec e (λz=>nomatch z))];exact ec
end
def NoSl(i:Expr):Prop:=∀ov iv,subscripted i false ov iv=operate [ov,iv] (Mp ov iv)
theorem zj5{prog:GK}{w:GM}{A:GQ}{E:1.0}{s:GJ}{env:Env}{value slice:Expr}{pos:Pos}{T id:String}{Q:1.0}
 (hl:Nn (.type T) "__getitem__" = pure (some (.builtin id))) (hs:NoSl slice)
 (h:wpAny 1.3 A (eval value env) (λo s₁=>wpAny 1.3 A (eval slice env) (λi s₂=>s₂.TypeIs o T/\wpAny 1.3 A (Mp o i) Q E s₂) E s₁) E s) :
 wpAny 1.3 A (eval (.Subscript value slice pos) env) Q E s:=by
 refine Subscript_ (Ta h (λo s₁ h₁=>Ta h₁ (λi s₂ h₂=>?_) λ_ _ x=>x) λ_ _ x=>x);obtain⟨hT,h₂⟩:=h₂;unfold Nk;refine GF ?_;rw[getitemInPython_of_ne hT.not_modules];refine GF (Tn hT hl ?_)
 have fin:wpAny 1.3 A (subscripted slice false o i) (λr s₃=>wpAny 1.3 A (letTemporaryGo value o r >>= λ_=>pure r) Q E s₃) E s₂:=by
  rw[hs o i];exact wpAny_operating (Ta h₂ (λr s₃ h₃=>GF (wpAny_letTemporaryGo (GI h₃))) λ_ _ x=>x)
 first
  | exact GI (GF fin)
  | exact GF (GI (GF fin))
  | exact GF fin
theorem zpt{pins:0.9}(I:0.5)(g:DGet H a y o):s.TypeIs 3.1 "dict" := by
 rcases g with ⟨kvs,k,e,_,_⟩|⟨kvs,k,b,e,_,_,_⟩
 .obtain⟨_,_,vs,_,dd⟩:=zmr I.hok e;exact dd.typeIs
 .obtain⟨_,_,xs,_,dd⟩:=zmq I.hok e;exact dd.typeIs
def zz7(td ty:TE):TE:=λσ H Q=>td σ H λx H1=>ty σ H1 λy H2=>∃a v,x = .ref a/\DGet H2 a y (some v)/\Q v H2
def zqh(ty td:TE):TE:=λσ H Q=>ty σ H λy H1=>td σ H1 λx H2=>∃a o,x = .ref a/\DGet H2 a y o/\Q (.bl (!o.isSome)) H2
def zhq(td ty tv:TE):TS:=λD σ H=>tv σ H λv H1=>td σ H1 λx H2=>ty σ H2 λy H3=>∃a H4,x = .ref a/\DPut H3 a y v H4/\D.nx σ H4
section
variable {X:Cx}{o i e value:Expr}{pos pos' tpos:Pos}{td ty tv:TE}
theorem zc8(hu:X.A.units+1<GZ)(ho:PE X o td)(hi:PE X i ty)(hs:NoSl i):PE X (.Subscript o i pos) (zz7 td ty):=by
 intro pins s σ H Q I h;refine zj5 Yr.lookup hs (thn (ho pins s σ H _ I h) λu s1 ⟨x,H1,I1,rx,q1⟩=>thn (hi pins s1 σ H1 _ I1 q1) λiv s2 zz=>?_);obtain⟨y,H2,I2,ry,a,v,ex,g,q2⟩:=zz;subst ex;obtain rfl:u=QQ a:=rx;exact⟨zpt I2 g,zvg hu I2 g ry λw' s3 I3 rw'=>⟨v,H2,I3,rw',q2⟩⟩
theorem zuj(hu:X.A.units+1<GZ)(hi:PE X i ty)(ho:PE X o td):PC X .NotIn i o (zqh ty td):=by
 intro pins s σ H Q I h;refine thn (hi pins s σ H _ I h) λiv s1 ⟨y,H1,I1,ry,q1⟩=>thn (ho pins s1 σ H1 _ I1 q1) λu s2 zz=>?_;obtain⟨x,H2,I2,rx,a,ov,ex,g,q2⟩:=zz;subst ex;obtain rfl:u=QQ a:=rx;exact z4f hu I2 g ry λs3 I3=>⟨.bl (!ov.isSome),H2,I3,rfl,q2⟩
theorem zff(hu:X.A.units+1<GZ)(ho:PE X o td)(hi:PE X i ty)(hv:PE X value tv)(hs:Tc value (some (.Subscript o i pos')) pos.line X.env=pure false):
 PS X (.Assign [.Subscript o i pos'] value pos) (zhq td ty tv):=by
 intro pins s σ H D I h;refine Ml (thn (hv pins s σ H _ I h) λr s1 ⟨v,H1,I1,rv,q1⟩=>thn (ho pins s1 σ H1 _ I1 q1) λu s2 ⟨x,H2,I2,rx,q2⟩=>thn (hi pins s2 σ H2 _ I2 q2) λiv s3 zz=>?_) hs;obtain⟨y,H3,I3,ry,a,H4,ex,g,q3⟩:=zz;subst ex;obtain rfl:u=QQ a:=rx;exact zu4 hu I3 g ry rv λs4 I4=>⟨σ,H4,I4,q3⟩
end
theorem zm6(h:Heap)(hb:Tk<h.objs.size):ObjOk P w H (h.push { cls:=.type "dict",data:=.dict #[] }) h.objs.size (.dK []) :=
 ⟨Q6 _,beq_eq_false_iff_ne.mpr (Z8 (Q0 hb)),[],.nil,Heap.DictOf.new h⟩
def zpf:TE:=λ_ H Q=>∀p,H p=none->Q (.ref p) (upd H p (.dK []))
section
variable {X:Cx}{pos:Pos}
theorem zow:PE X (.Dict [] [] pos) zpf:=λpins s σ H Q I h=>
 wpAny_Dict_empty ⟨.ref s.heap.objs.size,_,I.laid (a:=s.heap.objs.size) (o:=.dK []) (t':=s.toks) (λ_ _ q=>Qf _ q) (Qg _) (zm6 s.heap I.big),rfl,h _ (I.hok.fresh (Qg _))⟩
end
def zn5:List (TE×TE)->St->Hp->(List (V×V)->Hp->Prop)->Prop
 | [],_,H,Q=>Q [] H
 | (tk,tv)::r,σ,H,Q=>tk σ H λx H1=>tv σ H1 λy H2=>zn5 r σ H2 λps H3=>Q ((x,y)::ps) H3
abbrev VV:List (V×V)->List (GH×GH)->Prop:=Nw λp q=>RelV p.1 q.1/\RelV p.2 q.2
def PPs(X:Cx)(pos:Pos)(keys:List (Option Expr))(values:List Expr)(trs:List (TE×TE)):Prop :=
 ∀(pins:0.9) (s:GJ) (σ:St) (H:Hp) (Q:List (V×V)->Hp->Prop),Inv X pins σ H s->zn5 trs σ H Q ->
   wpAny 0.8 X.A (evalPairs (pairTrees keys values X.env pos)) (λvs s'=>∃ps H',Inv X pins σ H' s'/\VV ps vs/\Q ps H') X.xe s
theorem z1r: PPs X pos [] [] []:=λpins s σ H Q I h=>pairTrees_nil_walk ⟨[],H,I,.nil,h⟩
theorem zh8{k:Expr}(hk:PE X k tk)(hv:PE X v tv)(hr:PPs X pos ks vs trs):
 PPs X pos (some k::ks) (v::vs) ((tk,tv)::trs):=λpins s σ H Q I h=>
 pairTrees_cons_walk (thn (hk pins s σ H _ I h) λu s1 ⟨x,H1,I1,rx,q1⟩=>thn (hv pins s1 σ H1 _ I1 q1) λw2 s2 ⟨y,H2,I2,ry,q2⟩=>
  thn (hr pins s2 σ H2 _ I2 q2) λws s3 ⟨ps,H3,I3,rel,q3⟩=>⟨(x,y)::ps,H3,I3,.cons ⟨rx,ry⟩ rel,q3⟩)
def zeb(kvs more:5.8):List (Key×V):=more.foldl (λacc kv=>putK acc kv.1 kv.2) kvs
theorem KV.merge:∀{more:5.8} {rs:List (Key×GH)} {kvs:5.8} {vs:List (Key×GH)},KV more rs->KV kvs vs->KV (zeb kvs more) (merged vs rs):=by
 intro more rs kvs vs r;unfold KV at r
 induction r generalizing kvs vs with
 | nil=>intro q;exact q
 | @cons p q ps qs h t ih=>
   intro r0
   have e:KV (putK kvs p.1 p.2) (stored vs q.1 q.2):=by
    have:=r0.put p.1 h.2;rw[<- h.1];exact this
   exact ih e
theorem zgh:∀(more kvs:5.8),(zeb kvs more).length<=kvs.length+more.length
 | [],kvs=>by show kvs.length<=kvs.length+0;lia
 | p::r,kvs=>by
   have h1:=zgh r (putK kvs p.1 p.2);have h2:=zez kvs p.1 p.2;show(zeb (putK kvs p.1 p.2) r).length<=_;rw[Ql];lia
theorem zje: ∀{kvs:5.8} {ws:List (GH×GH)},VV (kvs.map λkv=>(kV kv.1,kv.2)) ws->∃rs,Carries (zaw P w) ws rs/\KV kvs rs
 | [],_,r=>by rw[UE] at r;cases r;exact⟨[],Yi,.nil⟩
 | p::kvs,_,r=>by
   rw[QB] at r
   cases r with
   | @cons a b as bs h t=>
     obtain⟨rs,c,q⟩:=zje (P:=P) (w:=w) t;obtain⟨b1,b2⟩:=b;exact⟨(p.1,b2)::rs,⟨zj0 h.1,rfl,c⟩,.cons ⟨rfl,h.2⟩ q⟩
def z0u(trs:List (TE×TE)):TE:=λσ H Q=>∀p,H p=none->zn5 trs σ (upd H p (.dK [])) λps H2=>H2 p=some (.dK [])/\∃kvs:List (Key×V),ps=kvs.map (λkv=>(kV kv.1,kv.2))/\kvs.length<=15/\Q (.ref p) (upd H2 p (.dK (zeb [] kvs)))
theorem z3h{keys:List (Option Expr)}{values:List Expr}(h:PPs X pos keys values trs)(hall:keys.all (·.isSome)=true)(hl:keys.length=values.length)(h0:keys≠[])
 (h15:keys.length<=15):PE X (.Dict keys values pos) (z0u trs):=by
 intro pins s σ H Q I q;have hn:=I.hok.fresh (Qg s.heap.objs.size);have I1:=I.laid (a:=s.heap.objs.size) (o:=.dK []) (h':=s.heap.push { cls:=.type "dict",data:=.dict #[] }) (t':=s.toks) (λ_ _ q=>Qf _ q) (Qg _) (zm6 s.heap I.big);refine wpAny_Dict_walk (knd:=zaw X.prog X.w) hall hl h0 h15 (thn (h pins _ σ _ _ I1 (q _ hn)) λws s2 zz=>?_);obtain⟨ps,H2,I2,rel,e,kvs,ep,lk,q2⟩:=zz;subst ep;obtain⟨rs,c,rk⟩:=zje (P:=X.prog) (w:=X.w) rel;obtain⟨z,hd,vs0,r0,dd⟩:=z1g I2.hok e;cases r0;refine⟨rs,c,dd,λh' dd' hs=>⟨.ref s.heap.objs.size,_,?_,rfl,q2⟩⟩
 have hz:(zeb [] kvs).length<=sizeLine:=by
  have h1:=zgh kvs [];rw[JU] at h1;rw[GP];lia
 have he:∃q,h'.get? s.heap.objs.size=some q:=let ⟨q,_,_,hq,_⟩:=dd';⟨q,hq⟩
 exact zfi I2 (by rw[e];exact Yi) hs he (zwg hz hd (rk.merge .nil) dd')
end L2
namespace Att
open PySem PySem.W PySem.Calls PyProof.Rows
theorem zi4: ∀(ns:List Int) (vs:2.8),WellAll P h vs (ns.map WData.int)->N9 vs ns:=by
 intro ns
 induction ns with
 | nil=>
   intro vs w;rw[UE] at w;cases w;exact .nil
 | cons n ns ih=>
   intro vs w;rw[QB] at w
   cases w with
   | cons a b=>
     cases a;exact .cons _ _ (ih _ b)
theorem zw2{l:OpenLaw}{n:Nat}(hn:l.most=some n){P:Params}{h:Heap}{args:List WData}{vals:2.8}
 (hpre:l.row.toRowW.claim.pre args=true) (hwl:WellAll P h vals args) :
 ∃a vs ns,vals = [QQ a]/\args = [WData.list (ns.map WData.int)]/\h.get? a=some { cls:=.type "list",data:=.seq vs.toArray }/\N9 vs ns/\ns.length<=n:=by
 have hsh:WShape.hasAll [] args [.list .int]=true:=(pre_splitW hpre).1;have hc:l.pre.holds [] { args:=args }=true:=(pre_splitW hpre).2;obtain⟨d,r,rfl,h1,h2⟩:=hasAllW_cons hsh;obtain rfl:=hasAllW_nil h2;obtain⟨xs,rfl,h3⟩:=hasW_list h1;obtain⟨ns,rfl⟩:=items_int h3
 have hlen:ns.length<=n:=by
  unfold OpenLaw.pre at hc
  have h4:(WTm.not (.lt (.lit (.int (n:Int))) (.len (.arg 0)))).holds [] { args:=[.list (ns.map .int)] }=true:=by
   have h4:=(holds_andW hc).1;rw[hn] at h4;exact h4
  have h5:=condW_of h4 (w_not (w_lt w_lit (w_len_list (w_arg rfl))));rw[Qc] at h5;refine Jr λq=>?_;have q':(n:Int)<((ns.length:Nat):Int):=by lia
  first
   | (rw[NM q'] at h5;exact absurd h5 0.2)
   | (simp at h5;lia)
 cases hwl with
 | cons w1 w2=>
   cases w2
   cases w1 with
   | list ho hall=>exact⟨_,_,ns,rfl,rfl,ho,zi4 ns _ hall,hlen⟩
theorem ztv(l:OpenLaw)(args:List WData):l.row.toRowW.claim.post args (.bool true) args=true :=
 postW_of (r:=l.row.toRowW) (X:=(true == true))
  (show WShape.has [] (.bool true) .bool=true by first|rfl|decide|simp[WShape.has,WShape.arms,WShape.armsAll])
  (show(WTm.eq .res (.lit (.bool true))).value [] { args:=args,res:=some (.bool true),after:=args }=some (.bool (true == true)) from w_eq_bool (w_res rfl) w_lit) rfl
theorem attach_call{l:OpenLaw}{n:Nat}{q:GK}{loose:2.4}{XP:(Str->Option GH)->Heap->Prop}{YP:GM->Heap->Prop}{d:DefRec}
 (hn:l.most=some n) (hdf:d.params.defaults = [])
 (call:∀(w:GM) (s₀ s₁:GJ) (mg mb:0.4) (fa:Addr) (o:Obj) (pm cd doc:GH) (a:Addr) (vs:2.8) (ns:List Int),
  Ground q loose [] XP w s₀ mg mb s₁.heap->YP w s₁.heap ->
  s₁.heap.get? fa=some o->o.data = .func (docDef d.name d.params d.body d.scope pm cd doc)->s₁.heap.CodeRec cd d.name->mg d.name=some (.ref fa) ->
  s₁.heap.get? a=some { cls:=.type "list",data:=.seq vs.toArray }->N9 vs ns->ns.length<=n->s₁.gens = #[] ->
  Mo (model l.prog w) callerA (.call (.ref fa) ⟨[.ref a],[]⟩) (λr s'=>r = .ok (.ret (.bool true))/\OldK s₁.heap s'.heap/\s'.os=s₁.os/\M3 s'.gens) s₁) :
 WalkO q loose XP YP l.row.toRowW d [] (λf vs=>Gw f vs):=by
 intro w s₀ s₁ mg mb G Y fa o pm cd doc dV kV ho hd hcd hD hmg hg args vals as hpre hlay hrd hwl hlo;obtain rfl:dV = .none:=Dflts.none hD hdf;obtain rfl:kV = .none:=Dflts.noKw hD;obtain⟨a,vs,ns,rfl,rfl,hobj,hints,hlen⟩:=zw2 hn hpre hwl;refine enter_call (TJ (call w s₀ s₁ mg mb fa o pm cd doc a vs ns G Y ho (fd_plain hd) hcd hmg hobj hints hlen hg) λr s' hq=>?_);obtain⟨rfl,h2,h3,h4⟩:=hq;exact⟨.inl ⟨.bool true,.bool true,[],rfl,λ_=>rfl,.bool true,ztv l _,λ_=>⟨UH,λ_ hm=>(nomatch hm)⟩⟩,h2,h3,h4⟩
end Att
namespace L2
open PySem PySem.Spec PyProof.Rows
theorem zlj:∀{vs:2.8} {ns:List Int},N9 vs ns->Vals (ns.map V.int) vs
 | _,_,.nil=>.nil
 | _,_,.cons n t h=>.cons ⟨t,rfl⟩ (zlj h)
def Only(H:Hp):Prop:=∀b,H b=none\/∃o xs,H b=some (.frz o 4.1)
theorem zxh{P:GK}{w:GM}{K:Qa}{mg mb:0.4}{CX:CXT}{k:Nat}{fa a:Addr}{fd:TQ}{x:Str}{sp:Sp}{s₁:GJ}{vs:2.8}{ns:List Int}
 (KX:K.In s₁.heap) (hns:s₁.heap.Ns mainGlobals mg) (hb:s₁.heap.Ns builtinsNs mb) (hbb:∀x:Str,x ≠ "__name__" -> mb x=Tf x) (hlim:s₁.heap.NoLimit) (hg:s₁.gens = #[])
 (ha:s₁.heap.get? a=some { cls:=.type "list",data:=.seq vs.toArray }) (hi:N9 vs ns) (hl:ns.length<=sizeLine) (hr:Room k callerA)
 (F:∀base:Heap,K.In base->base.Ns mainGlobals mg->FnOk P w K mg base CX k fa fd [x] sp) (hbind:∀(s:GJ) (u:GH),No s fd ⟨[u],[]⟩ [(x,u)])
 (hsp:∀H:Hp,Only H->SqL K H a (ns.map V.int)->sp [.ref a] H (λv _=>v = .bl true) λ_ _ _=>False)
 (hCX:∀H e s',CX [] H s₁ (λ_ _ _=>False) e s'->False) :
 Mo 1.5 callerA (.call (.ref fa) ⟨[.ref a],[]⟩) (λr s'=>r = .ok (.ret (.bool true))/\OldK s₁.heap s'.heap/\s'.os=s₁.os/\M3 s'.gens) s₁:=by
 have rv:=zlj hi;have lenV:=hi.length
 -- from an abstract heap in which nothing but the script may be tracked
 have core:∀H:Hp,Only H->SqL K H a (ns.map V.int)->HOk P w H s₁.heap->(∀b,H b≠none->b=a)->(H a≠none->K.lookup a=none) ->
  Mo 1.5 callerA (.call (.ref fa) ⟨[.ref a],[]⟩) (λr s'=>r = .ok (.ret (.bool true))/\OldK s₁.heap s'.heap/\s'.os=s₁.os/\M3 s'.gens) s₁:=by
  intro H hO hS hok hA hK;have base_of:∀{b:Addr} {o:Obj},s₁.heap.get? b=some o->H b=none->(hidT s₁.heap H).get? b=some o:=λe n=>zxe e n
  have noA:∀{b:Addr} {o:Obj} {es:Array DictEntry} {ep:Nat},s₁.heap.get? b=some o->o.data = .dict es ep->H b=none:=λ{b o es ep} e d=>by
   cases q:H b with
   | none=>rfl
   | some u=>
     have e':b=a:=hA b (by rw[q];simp);subst e';rw[ha] at e;cases e;have d':Data.seq vs.toArray _=Data.dict es ep:=d;cases d'
  have nsK:∀{b:Addr} {m:0.4},s₁.heap.Ns b m->(hidT s₁.heap H).Ns b m:=λ{b m} ⟨o,es,ep,e,d,r⟩=>⟨o,es,ep,base_of e (noA e d),d,r⟩
  have hKb:K.In (hidT s₁.heap H):=λb o e=>base_of (KX b o e) (by
   cases q:H b with
   | none=>rfl
   | some u=>
     have e':b=a:=hA b (by rw[q];simp);subst e'
     rw[hK (by rw[q];simp)] at e;cases e)
  have hM:Mod K mg (hidT s₁.heap H):=⟨hKb,nsK hns,⟨mb,nsK hb,hbb⟩,let ⟨mc,h1,h2⟩:=hlim;⟨mc,nsK h1,h2⟩⟩;have e0:Env0 P w K mg (hidT s₁.heap H) callerA [] s₁ H:=⟨rfl,hM,λb o e=>z4b e,VL (zt8 _ _),trivial,λb hb=>absurd (show b∈([]:List Addr) from hb) 0.1,hok,.of_eq hg⟩;refine TJ ((F _ hKb (nsK hns)).run callerA [] s₁ H ⟨[.ref a],[]⟩ [.ref a] [.ref a] _ _ hr e0 (hbind s₁ 3.1) (.cons rfl .nil) (hsp H hO hS)) λr s' h=>?_
  cases r with
  | error e=>exact(hCX H e s' h).elim
  | ok fl=>
    cases fl with
    | next=>exact ZL h
    | brk=>exact ZL h
    | cont=>exact ZL h
    | ret u=>
      obtain⟨v,H',os,bare,un,hok',r',q⟩:=h;have q':v = .bl true:=q;subst q';obtain rfl:u=JO true:=r';refine⟨rfl,OldK.of_keep λb o e=>?_,os,bare⟩
      cases q:H b with
      | none=>exact un.keep b o e q (by intro z;exact absurd (show b∈([]:List Addr) from z) 0.1) 0.1
      | some u=>
        rcases hO b with z|⟨ob,xs,z⟩
        .rw[q] at z;cases z
        .have z2:=un.frzs b ob _ z;obtain⟨e1,_⟩:=hok b _ z;obtain⟨e2,_⟩:=hok' b _ z2;rw[e] at e1;cases e1;exact e2
 cases hk:K.lookup a with
 | some o=>
   -- the script is one of the module's own objects
   have e:=KX a o hk;rw[ha] at e;cases e;refine core (λ_=>none) (λ_=>.inl rfl) (.inr ⟨_,vs.toArray,_,hk,rfl,rfl,rfl,by rw[Q5,lenV];exact hl,by simpa using rv⟩) (λb u z=>by have z':(none:Option HO)=some u:=z;cases z') (λb z=>absurd rfl z) λz=>absurd rfl z
 | none=>
   refine core (λb=>if b=a then some (.frz { cls:=.type "list",data:=.seq vs.toArray } (.lst (ns.map V.int))) else none) (λb=>?_) (.inl (.inr ⟨{ cls:=.type "list",data:=.seq vs.toArray },NI rfl⟩)) (λb u z=>?_) (λb z=>?_) λ_=>hk
   .by_cases hb:b=a
    .exact .inr ⟨_,_,NI hb⟩
    .exact .inl (NJ hb)
   .by_cases hb:b=a
    .have z':=(NI hb).symm.trans z;cases z';subst hb;exact⟨ha,by rw[Qc];exact hl,vs,_,rv,ha⟩
    .have z':=(NJ hb).symm.trans z;cases z'
   .by_cases hb:b=a
    .exact hb
    .exact absurd (NJ hb) z
theorem walk_of{l:VP}{n k:Nat}{q:GK}{loose:2.4}{XP:(Str->Option GH)->Heap->Prop}{YP:GM->Heap->Prop}{d:DefRec}{K:Params->Qa}{CX:GM->CXT}{sp:GM->Sp}{x:Str}
 (hn:l.most=some n) (hn2:n<=sizeLine) (hdf:d.params.defaults = []) (hr:Room k callerA)
 (hY:∀(w:GM) (h:Heap),YP w h->(K w.params).In h)
 (F:∀(w:GM) (mg:0.4) (fa:Addr) (h:Heap),(K w.params).In h->h.Ns mainGlobals mg->mg d.name=some (.ref fa) ->
  ∃fd:TQ,(∀(s:GJ) (u:GH),No s fd ⟨[u],[]⟩ [(x,u)]) /\
    ∀base:Heap,(K w.params).In base->base.Ns mainGlobals mg->FnOk l.prog w (K w.params) mg base (CX w) k fa fd [x] (sp w))
 (hsp:∀(w:GM) (H:Hp) (a:Addr) (ns:List Int),ns.length<=n->Only H->SqL (K w.params) H a (ns.map V.int)->sp w [.ref a] H (λv _=>v = .bl true) λ_ _ _=>False)
 (hCX:∀(w:GM) (H:Hp) (s:GJ) (e:GH) (s':GJ),CX w [] H s (λ_ _ _=>False) e s'->False) :
 G6 q loose XP YP l.row.toRowW d [] (λf vs=>Gw f vs):=by
 refine Att.attach_call hn hdf λw s₀ s₁ mg mb fa o pm cd doc a vs ns G Y ho hd hcd hmg hobj hints hlen hg=>?_;have KX:=hY w _ Y;obtain⟨fd,hb,hF⟩:=F w mg fa _ KX G.T.g hmg;exact zxh KX G.T.g G.T.b G.T.builtins G.T.nolimit hg hobj hints (Q1 hlen hn2) hr hF hb (λH hO hS=>hsp w H a ns hlen hO hS) λH e s'=>hCX w H s₁ e s'
def zb0(s:Stmt):Arguments:=match s with
 | .FunctionDef _ a _ _ _ _ _ _ _ _=>a
 | _=>{ posonlyargs:=[],args:=[],vararg:=none,kwonlyargs:=[],kw_defaults:=[],kwarg:=none,defaults:=[] }
def za2(s:Stmt):List Stmt:=match s with
 | .FunctionDef _ _ b _ _ _ _ _ _ _=>b
 | _=>[]
def zad(s:Stmt):TH:=match s with
 | .FunctionDef _ _ _ _ _ _ sc _ _ _=>sc
 | _=>{ kind:=.function,names:=[],isGenerator:=false,isCoroutine:=false }
abbrev CX0:CXT:=λ_ _ _ _ _ _=>False
abbrev E0:XK:=λ_ _ _=>False
theorem zit: zo7 CX0 X E0:=λ_ _ _ _ _ _ _ h=>h.elim
structure Fun(K:Qa)(x qual:Str)(st:Stmt)(f:Addr)(fd:TQ):Prop where
 ex:∃(oc:GH) (od:Option Addr) (kV doc pm:GH) (an:Option Addr) (cdv ct:GH) (osl:Array (Option GH)),
  fd=ZS x qual (zb0 st) (za2 st) 6.3 .none kV doc pm an cdv ct/\K.lookup f=some ⟨oc,od,.func fd,osl⟩/\YB K cdv qual=true
 kp:Yg K (.ref f)=true
section
variable {P:GK}{w:GM}{K:Qa}{mg:0.4}{base:Heap}
theorem Fun.ok{x qual:Str}{st:Stmt}{f:Addr}{fd:TQ}{N ps:2.4}{k:Nat}{sp:Sp}(F:Fun K x qual st f fd)(S:FnScope N ps 6.3)(len:∀vs H Q E,sp vs H Q E->vs.length=ps.length)
 (hbody:∀(cdv:GH) (A:GQ) (outer:List Env) (s:GJ) (H:Hp) (vs:3.3) (Q:VK) (E:XK),Room k (A.deeper (MK qual 6.3 s.heap.objs.size f cdv))->sp vs H Q E ->
  ∃t,PSs (cxOf CX0 P w K mg base N qual 6.3 f cdv A outer s H E).nox (za2 st) t/\t { nx:=λ_ H'=>Q .non H',rt:=Q } (start N vs) H):FnOk P w K mg base CX0 (k+1) f fd ps sp:=by
 obtain⟨oc,od,kV,doc,pm,an,cdv,ct,osl,rfl,lk,hcd⟩:=F.ex;refine yai lk hcd S len λA outer s H vs Q E hr hsp=>?_;obtain⟨t,h,q⟩:=hbody cdv A outer s H vs Q E hr hsp;exact⟨t,h.nox,q⟩
theorem Fun.binds{x qual:Str}{st:Stmt}{f:Addr}{fd:TQ}{ps:2.4}(F:Fun K x qual st f fd)
 (h:∀(kV doc pm:GH) (an:Option Addr) (cdv ct:GH) (us:2.8),us.length=ps.length->TV (ZS x qual (zb0 st) (za2 st) 6.3 .none kV doc pm an cdv ct) ⟨us,[]⟩=pure (ps.zip us)):Binds K fd ps []:=by
 obtain⟨oc,od,kV,doc,pm,an,cdv,ct,osl,rfl,lk,hcd⟩:=F.ex;exact .all (h kV doc pm an cdv ct)
theorem zw1{x qual:Str}{st:Stmt}{f:Addr}{oc:GH}{od an:Option Addr}{osl:Array (Option GH)}{kV doc pm cdv ct:GH}(l:K.lookup f=some ⟨oc,od,.func (ZS x qual (zb0 st) (za2 st) 6.3 .none kV doc pm an cdv ct),osl⟩)
 (c:YB K cdv qual=true) (k:Yg K (.ref f)=true):Fun K x qual st f (ZS x qual (zb0 st) (za2 st) 6.3 .none kV doc pm an cdv ct):=⟨⟨oc,od,kV,doc,pm,an,cdv,ct,osl,rfl,l,c⟩,k⟩
end
theorem zce{k:Nat}(hr:Room k A):A.units+1<GZ:=JQ (Nat.add_le_add_left (by decide:1<=64) _) hr.units
theorem iteF{A B:Prop}(h:B):if false=true then A else B:=by
 rw[NJ Qx];exact h
theorem iteT{A B:Prop}(h:A):if true=true then A else B:=by
 rw[NI rfl];exact h
theorem ite2{c A B:Prop}[Decidable c](h1:c->A)(h2:¬c->B):if c then A else B:=by
 by_cases h:c
 .rw[NI h];exact h1 h
 .rw[NJ h];exact h2 h
def Same(H H':Hp):Prop:=∀b o,H b=some o->H' b=some o
theorem Same.refl(H:Hp):Same H H:=λ_ _ h=>h
theorem Same.trans(a:Same H H1)(b:Same H1 H2):Same H H2:=λc o h=>b c o (a c o h)
theorem Same.free(e:Same H H')(h:H' l=ZO):H l=ZO:=by
 cases q:H l with
 | none=>rfl
 | some o=>
   rw[e l o q] at h;cases h
theorem Same.seq{K:Qa}{H H':Hp}{a:Addr}{xs:3.3}(e:Same H H')(h:SqL K H a xs):SqL K H' a xs:=by
 rcases h with (h|⟨o,h⟩)|h
 .exact .inl (.inl (e _ _ h))
 .exact .inl (.inr ⟨o,e _ _ h⟩)
 .exact .inr h
end L2
set_option maxHeartbeats 4000000
namespace L3
open PySem PySem.Spec
open PyProof.Rows hiding St
open L2
theorem zsc{α β:Type}{l:4.2}{f:α->β->Sem (ForInStep β)}(g:α->β->β):∀(c:β),(∀x∈l,∀c,f x c=pure (.yield (g x c)))->forIn l c f=pure (l.foldl (λc x=>g x c) c):=by
 induction l with
 | nil=>intro c _;rfl
 | cons x l ih=>
   intro c h;rw[List.forIn_cons,h x Qp,pure_bind];exact ih (g x c) λy hy=>h y (Qe _ hy)
def clOf(ns:List (Str×TR))(env:Env):List (Str×Addr):=ns.foldl (λcs x=>if x.2 == .free then(x.1,(env.cells.lookup x.1).getD 0)::cs else cs) []
theorem ztb{scope:TH}(h:∀p∈scope.names,p.2 = .free->∃c,env.cells.lookup p.1=some c):closureFor scope env=pure (clOf scope.names env):=by
 simp only[closureFor];unfold clOf;rw[zsc (λ(x:Str×TR) (cs:List (Str×Addr))=>if x.2 == .free then(x.1,(env.cells.lookup x.1).getD 0)::cs else cs)]
 .rfl
 .intro x hx c;obtain⟨n,k⟩:=x;dsimp only
  by_cases hk:k = .free
  .subst hk;obtain⟨a,ha⟩:=h _ hx rfl;have ha':env.cells.lookup n=some a:=ha;simp only[NP,NR,cellOf,ha',pure_bind,Ge]
  .have hb:(k == Zp)=false:=by simpa using hk
   simp only[hb,QT,NQ]
theorem z4n{env:Env}{x:Str}:∀(ns:List (Str×TR)) (acc:List (Str×Addr)) (c:Addr),
 (ns.foldl (λcs y=>if y.2 == .free then(y.1,(env.cells.lookup y.1).getD 0)::cs else cs) acc).lookup x=some c->acc.lookup x=some c\/((x,Zp)∈ns/\c=(env.cells.lookup x).getD 0):=by
 intro ns
 induction ns with
 | nil=>intro acc c h;exact .inl h
 | cons y r ih=>
   intro acc c h;obtain⟨n,k⟩:=y;rw[J9] at h;rcases ih _ c h with h1|⟨h1,h2⟩
   .by_cases hk:k = .free
    .subst hk;simp only[NP,NR] at h1
     by_cases hx:x=n
     .subst hx;rw[Z7] at h1;cases h1;exact .inr ⟨Qp,rfl⟩
     .have hb:(x == n)=false:=by simpa using hx
      rw[ZX,hb] at h1;exact .inl h1
    .have hb:(k == Zp)=false:=by simpa using hk
     simp only[hb,QT,NQ] at h1;exact .inl h1
   .exact .inr ⟨Qe _ h1,h2⟩
theorem zpx{env:Env}{x:Str}:∀(ns:List (Str×TR)) (acc:List (Str×Addr)),(acc.lookup x).isSome=true\/(x,Zp)∈ns ->
 ((ns.foldl (λcs y=>if y.2 == .free then(y.1,(env.cells.lookup y.1).getD 0)::cs else cs) acc).lookup x).isSome=true:=by
 intro ns
 induction ns with
 | nil => intro acc h;rcases h with h|h
          .exact h
          .exact absurd h 0.1
 | cons y r ih=>
   intro acc h;obtain⟨n,k⟩:=y;rw[J9];refine ih _ ?_
   by_cases hk:k = .free
   .subst hk;simp only[NP,NR]
    by_cases hx:x=n
    .subst hx;left;rw[Z7];rfl
    .have hb:(x == n)=false:=by simpa using hx
     rw[ZX,hb];rcases h with h|h
     .exact .inl h
     .rcases Qz.mp h with z|z
      .injection z with z1 _;exact absurd z1 hx
      .exact .inr z
   .have hb:(k == Zp)=false:=by simpa using hk
    simp only[hb,QT,NQ];rcases h with h|h
    .exact .inl h
    .rcases Qz.mp h with z|z
     .injection z with _ z2;exact absurd z2.symm hk
     .exact .inr z
theorem zsp(h:(clOf ns env).lookup x=some c):(x,Zp)∈ns/\c=(env.cells.lookup x).getD 0:=by
 rcases z4n ns [] c h with z|z
 .cases z
 .exact z
theorem zuf(h:(x,Zp)∈ns)(e:env.cells.lookup x=some c):(clOf ns env).lookup x=some c:=by
 obtain⟨d,hd⟩:=JD.mp (zpx (env:=env) ns [] (.inr h));have hd':(clOf ns env).lookup x=some d:=hd;rw[hd',(zsp hd').2,e];rfl
theorem zc1{env:Env}{x:Str}:∀(names:List (Str×TR)),
 (names.map λ(n,k)=>if(k == Zp && env.scope.kind == .function && env.kindOf n == some .cell) then(n,Zw) else(n,k)).lookup x =
  (names.lookup x).map λk=>if(k == Zp && env.scope.kind == .function && env.kindOf x == some .cell) then Zw else k
 | []=>rfl
 | (n,k)::r=>by
   have ih:=zc1 (env:=env) (x:=x) r;show List.lookup x ((if(k == Zp && env.scope.kind == .function && env.kindOf n == some .cell)=true then(n,Zw) else(n,k))::_)=_
   by_cases hx:x=n
   .subst hx
    by_cases hc:(k == Zp && env.scope.kind == .function && env.kindOf x == some .cell)=true
    .rw[NI hc,Z7,Z7,JA,NI hc]
    .rw[NJ hc,Z7,Z7,JA,NJ hc]
   .have hb:(x == n)=false:=by simpa using hx
    by_cases hc:(k == Zp && env.scope.kind == .function && env.kindOf n == some .cell)=true
    .rw[NI hc,ZX,hb,ZX,hb];exact ih
    .rw[NJ hc,ZX,hb,ZX,hb];exact ih
theorem zjf: ∀(names:List (Str×TR)) (h:Heap) (acc:List (Str×Addr)),(Tq h.objs.size names acc).lookup x=some c ->
 acc.lookup x=some c\/((x,Zw)∈names/\h.objs.size<=c/\(pushCells h names).IsCell c none)
 | [],_,_,e=>.inl e
 | (n,k)::r,h,acc,e=>by
   unfold Tq at e;unfold pushCells
   by_cases hk:k = .cell
   .subst hk;simp only[NP,NR] at e ⊢;rw[<- Zg h { cls:=.type "cell",data:=.cell none }] at e;rcases zjf r _ _ e with z|⟨z1,z2,z3⟩
    .by_cases hx:x=n
     .subst hx;rw[Z7] at z;cases z;exact .inr ⟨Qp,Qg _,⟨_,MU r _ _ _ (Qs _ rfl),rfl⟩⟩
     .have hb:(x == n)=false:=by simpa using hx
      rw[ZX,hb] at z;exact .inl z
    .rw[Zg] at z2;exact .inr ⟨Qe _ z1,by lia,z3⟩
   .have hb:(k == Zw)=false:=by simpa using hk
    simp only[hb,QT,NQ] at e ⊢;rcases zjf r h acc e with z|⟨z1,z2,z3⟩
    .exact .inl z
    .exact .inr ⟨Qe _ z1,z2,z3⟩
theorem ziw: ∀(names:List (Str×TR)) (n:Nat) (acc:List (Str×Addr)),(x,Zw) ∉ names->(Tq n names acc).lookup x=acc.lookup x
 | [],_,_,_=>rfl
 | (y,k)::r,n,acc,h=>by
   have hr:(x,Zw) ∉ r:=λz=>h (Qe _ z);unfold Tq
   by_cases hk:k = .cell
   .subst hk;simp only[NP,NR]
    have hx:(x == y)=false:=by
     have:x≠y:=λz=>h (by rw[z];exact Qp);simpa using this
    rw[ziw r _ _ hr,ZX,hx]
   .have hb:(k == Zw)=false:=by simpa using hk
    simp only[hb,QT,NQ];exact ziw r n acc hr
theorem zn6:∀(names:List (Str×TR)) (n:Nat) (acc:List (Str×Addr)),(∀x c,acc.lookup x=some c->c<n)->(∀x y c,acc.lookup x=some c->acc.lookup y=some c->x=y) ->
 ∀x y c,(Tq n names acc).lookup x=some c->(Tq n names acc).lookup y=some c->x=y
 | [],_,_,_,hi=>hi
 | (a,k)::r,n,acc,hb,hi=>by
   unfold Tq
   by_cases hk:k = .cell
   .subst hk;simp only[NP,NR]
    have lk:∀x c,((a,n)::acc).lookup x=some c->(x=a/\c=n)\/(x≠a/\acc.lookup x=some c):=λx c e=>by
     by_cases hx:x=a
     .subst hx;rw[Z7] at e;cases e;exact .inl ⟨rfl,rfl⟩
     .have hz:(x == a)=false:=by simpa using hx
      rw[ZX,hz] at e;exact .inr ⟨hx,e⟩
    refine zn6 r (n+1) _ (λx c e=>?_) λx y c e1 e2=>?_
    .rcases lk x c e with ⟨_,z⟩|⟨_,z⟩
     .rw[z];exact ZY _
     .exact QW (hb x c z)
    .rcases lk x c e1 with ⟨z1,w1⟩|⟨z1,w1⟩ <;> rcases lk y c e2 with ⟨z2,w2⟩|⟨z2,w2⟩
     .rw[z1,z2]
     .exact absurd (hb y c w2) (by rw[w1];exact Zl _)
     .exact absurd (hb x c w1) (by rw[w2];exact Zl _)
     .exact hi x y c w1 w2
   .have hz:(k == Zw)=false:=by simpa using hk
    simp only[hz,QT,NQ];exact zn6 r n acc hb hi
theorem zsx{scope:TH}{globals:Addr}{qual:Str}{code:GH}{builtins:Addr} 
 (h:∀h',h'.Ns s.heap.objs.size (λ_=>none)->(∀b o,s.heap.get? b=some o->h'.get? b=some o)->(∀x c,(Tq (s.heap.objs.size+1) scope.names cl).lookup x=some c->cl.lookup x=some c\/((x,Zw)∈scope.names/\s.heap.objs.size+1<=c/\h'.IsCell c none)) ->
  Q (newEnv scope s.heap.objs.size globals (Tq (s.heap.objs.size+1) scope.names cl) qual none code (some env) builtins) 3.9) :
 wpAny M A (newFunctionEnv scope globals cl [] qual none code (some env) builtins) Q E s:=by
 simp only[newFunctionEnv,Uy,NR];refine GF (wpAny_alloc ?_);refine GF (wpAny_layCells _ (λname kind cells=>by cases hkc:kind == Zw <;> simp[hkc]) _ _ _ _ ?_);rw[show({ s with heap:=s.heap.push { cls:=.type "dict",data:=.dict #[] } }:GJ).heap.objs.size=s.heap.objs.size+1 from Zg ..];rw[List.forIn_nil];refine GF (GI (GI (h _ ((Heap.Ns.new s.heap (.type "dict")).keeps (MU _ _)) (λb o e=>MU _ _ b o (Qf _ e)) λx c e=>?_)));have:=zjf scope.names (s.heap.push { cls:=.type "dict",data:=.dict #[] }) cl (x:=x) (c:=c) (by rw[Zg];exact e);rwa [Zg] at this
def zbv(X:Cx)(scope:TH)(N':2.4)(C:Addr)(s:GJ)(H:Hp)(ex:5.6):Cx :=
 { X with N:=N',s₀:=s,H₀:=H,env:=compEnvC scope (Tq (C+1) scope.names (clOf scope.names X.env)) C X.env,outer:=X.stack,stack:=X.stack,ex:=ex,fn:=λx=>scope.names.lookup x == some .cell,pn:=[],xe:=λ_ _=>False }
def zqe(h:Nat)(N' N:2.4)(names sc:List (Str×TR)):Bool :=
 decide (N'.length=h+N.length) && decide N'.Nodup
 && (names.all λp=>(p.2 != .cell || names.lookup p.1 == some .cell) && (p.2 != .local || names.lookup p.1 == some .local) && (p.2 != .free || (names.lookup p.1 == some .free && (sc.lookup p.1 == some .cell || sc.lookup p.1 == some .free))))
 && (((N'.drop h).zip N).all λp=>match names.lookup p.1 with|some .free=>p.1 == p.2|some .local=>false|some .cell=>false|_=>true)
structure ScopeOk(h:Nat)(N' N:2.4)(scope:TH)(sc:TH):Prop where
 kind:scope.kind = .function
 len:N'.length=h+N.length
 nd:N'.Nodup
 cell:∀y∈scope.names,y.2 = .cell->scope.names.lookup y.1=some .cell
 loc:∀y∈scope.names,y.2 = .local->scope.names.lookup y.1=some .local
 free:∀y∈scope.names,y.2 = .free->scope.names.lookup y.1=some .free/\(sc.names.lookup y.1=some .cell\/sc.names.lookup y.1=some .free)
 out:∀(i:Nat) (x:Str) (k:TR),N'[h+i]? = some x->scope.names.lookup x=some k->(k = .local\/k = .cell\/k = .free)->N[i]? = some x/\k = .free
theorem ScopeOk.of{h:Nat}{scope:TH}(hk:scope.kind = .function)(e:zqe h N' N scope.names sc.names=true):ScopeOk h N' N scope sc:=by
 unfold zqe at e;simp only[Q9,NN,ZZ] at e;obtain⟨⟨⟨e1,e2⟩,e3⟩,e4⟩:=e;refine⟨hk,e1,e2,λy hy z=>?_,λy hy z=>?_,λy hy z=>?_,λi x k hx hl hkk=>?_⟩
 .have:=e3 y hy;rw[z] at this;simpa using this
 .have:=e3 y hy;rw[z] at this;simpa using this
 .have:=e3 y hy;rw[z] at this;simpa using this
 .have h1:(N'.drop h)[i]? = some x:=by rw[Z0];exact hx
  have hi:i<N.length:=by
   obtain⟨z,_⟩:=Qn.mp hx;lia
  have h2:N[i]? = some N[i]:=Qb hi
  have hm:(x,N[i])∈(N'.drop h).zip N:=by
   refine Qt (i:=i) ?_;rw[V6];exact⟨h1,h2⟩
  have q:=e4 _ hm;rw[hl] at q;rcases hkk with rfl|rfl|rfl
  .exact absurd q 0.1
  .exact absurd q 0.1
  .have q':x=N[i]:=by simpa using q
   exact⟨by rw[h2,<- q'],rfl⟩
def PF(X:Cx)(ifs:List Expr)(t:TT):Prop :=
 ∀(pins:0.9) (s:GJ) (σ:St) (H:Hp) (Q:Bool->Hp->Prop),Inv X pins σ H s->t σ H Q ->
   wpAny 0.8 X.A (forIn ifs true λc r=>if r=true then do let ok <- isTrue c X.env (eval c X.env);pure (Y1 ok) else pure (Y1 r)) (TP X pins σ Q) X.xe s
def tYes:TT:=λ_ H Q=>Q true H
theorem zox: PF X [] tYes:=λ_ _ _ H _ I h=>wpAny_tests_nil ⟨H,I,h⟩
theorem zuo(h:PT X c t):PF X [c] t:=λpins s σ H Q I q=>wpAny_tests_one (h pins s σ H Q I q)
def OwnG(h:Nat)(g:TG):Prop:=∀v (σ:St) H Q,h<=σ.length->g v σ H Q->g v σ H λσ2 H2=>Q σ2 H2/\σ2.length=σ.length/\σ2.drop h=σ.drop h
theorem zd7{h i:Nat}(hi:i<h):OwnG h (zav i):=λv σ H Q hl q=>⟨q,by simp,by rw[Uo hi]⟩
def zjs(h:Nat)(g:TGs):Prop:=∀vs (σ:St) H Q,h<=σ.length->g vs σ H Q->g vs σ H λσ2 H2=>Q σ2 H2/\σ2.length=σ.length/\σ2.drop h=σ.drop h
theorem z2q{h:Nat}:zjs h gNil:=λvs σ H Q _ q=>⟨q.1,q.2,rfl,rfl⟩
def MonG(g:TG):Prop:=∀v σ H (Q Q':St->Hp->Prop),(∀σ H,Q σ H->Q' σ H)->g v σ H Q->g v σ H Q'
def zjn(g:TGs):Prop:=∀v σ H (Q Q':St->Hp->Prop),(∀σ H,Q σ H->Q' σ H)->g v σ H Q->g v σ H Q'
theorem zoe{i:Nat}:MonG (zav i):=λ_ _ _ _ _ h q=>h _ _ q
theorem z5c:zjn gNil:=λ_ _ _ _ _ h q=>⟨q.1,h _ _ q.2⟩
theorem zzd(a:MonG g)(b:zjn gs):zjn (zjc g gs):=λvs σ H Q Q' h ⟨v,r,e,q⟩=>⟨v,r,e,a _ _ _ _ _ (λσ' H' z=>b _ _ _ _ _ h z) q⟩
theorem zx9{h:Nat}(m:MonG g)(m2:zjn gs)(a:OwnG h g)(b:zjs h gs):zjs h (zjc g gs):=λvs σ H Q hl ⟨v,r,e,q⟩=>by
 refine⟨v,r,e,m _ _ _ _ _ (λσ' H' z=>?_) (a v σ H _ hl q)⟩;obtain⟨z1,z2,z3⟩:=z;exact m2 _ _ _ _ _ (λσ2 H2 ⟨y1,y2,y3⟩=>⟨y1,y2.trans z2,y3.trans z3⟩) (b r σ' H' Q 0.0 z1)
theorem z1m{K:Qa}{h n:Nat}{gs:TGs}(b:zjs h gs):OwnG h (gTup K n gs):=λv σ H Q hl ⟨a,xs,e1,e2,e3,q⟩=>⟨a,xs,e1,e2,e3,b xs σ H Q hl q⟩
def zfl(h:Nat)(wi:TI)(g:TG)(tf:TT)(te:TE):TE:=λσ H Q=>wi σ H λJ H1=>∀D,H1 D=none->∃W:Nat->Nat->List V->Hp->Prop,(∃m,W 0 m [] (upd H1 D (.lst [])))/\∀i m ys H,W i m ys H ->
 H D=some (.lst ys)/\((J.stop i H/\Q (.ref D) H)\/(J.go i H/\∀x H',J.yld i H x H'->g x (QO h none++σ) H' λσ2 H2=>tf σ2 H2 λc H3=>
   if c=true then te σ2 H3 λy H4=>H4 D=some (.lst ys)/\ys.length<sizeLine/\∃m',m'<m/\W (i+1) m' (ys ++ [y]) (upd H4 D (.lst (ys ++ [y]))) else ∃m',m'<m/\W (i+1) m' ys H3))
theorem zpm{prog:GK}{R:Result->GJ->Prop}{target iter:Expr}{scope:TH}(I:Nat->GJ->Prop)
 (turn:∀n s,I n s->wpAny 1.3 A (N0 it) (λr s₁=>match r with
  | none=>R (.ok .next) s₁
  | some v=>wpAny 1.3 A (Mt target it v) (λ_ s₀=>wpAny 1.3 A (Ny target env v) (λ_ s₂=>
   wpAny 1.3 A (forIn ifs true λc r=>if r=true then do let ok <- isTrue c env (eval c env);pure (Y1 ok) else pure (Y1 r)) (λok s₃=>
    if ok=true then wpAny 1.3 A (eval elt env) (λx s₄=>
     wpAny 1.3 A (call (.builtin "list.append") [acc,x]) (λ_ s₅=>∃m,m<n/\I m s₅) (λ_ _=>False) s₄) (λ_ _=>False) s₃
    else ∃m,m<n/\I m s₃) (λ_ _=>False) s₂) (λ_ _=>False) s₀) (λ_ _=>False) s₁) (λ_ _=>False) s)
 (n:Nat) (h:I n s):Mo 1.3 A (.compLoop (.ListComp elt [⟨target,iter,ifs,0⟩] scope pos) 0 it acc env) R s:=by
 refine codeAny_loop rfl I (λn s hI=>?_) n h;show wpAny _ A ((compTurn (.ListComp elt [⟨target,iter,ifs,0⟩] scope pos) 0 it acc env).onRaise (λx=>do noteFrame x env;theTreesLotGoes x)) _ _ s;refine wpAny_noted ?_;rw[compTurn_list];refine GF (Nl (GF (Ta (turn n s hI) (λr s₁ h₁=>?_) λ_ _ h'=>h'.elim)))
 cases r with
 | none=>exact GI h₁
 | some v=>
   refine GF (Ta h₁ (λ_ s₀ h₀=>?_) λ_ _ h'=>h'.elim);refine GF (Ta h₀ (λ_ s₂ h₂=>GF (Ta h₂ (λok s₃ h₃=>?_) λ_ _ h'=>h'.elim)) λ_ _ h'=>h'.elim)
   cases ok with
   | false=>exact GI ⟨rfl,h₃⟩
   | true=>
     exact GF (GF (Ta h₃ (λx s₄ h₄=>GF (Ta h₄ (λ_ s₅ h₅=>GI (GI ⟨rfl,h₅⟩)) λ_ _ h'=>h'.elim)) λ_ _ h'=>h'.elim))
section
variable {X:Cx}{pins:0.9}{σ:St}{H:Hp}{s:GJ}
theorem ze5{h:Nat}{scope:TH}(I:0.5)(S:ScopeOk h N' X.N scope X.env.scope):∀x c,(clOf scope.names X.env).lookup x=some c->X.env.cells.lookup x=some c:=λx c e=>by
 obtain⟨h1,h2⟩:=zsp e;obtain⟨d,hd⟩:=I.ok.has x (S.free _ h1 rfl).2;rw[hd] at h2 ⊢;rw[h2];rfl
theorem zk2{h:Nat}{scope:TH}(S:ScopeOk h N' X.N scope X.env.scope)(hf:(x,Zp)∈scope.names):(x,Zw) ∉ scope.names:=λz=>by
 have a:=(S.free _ hf rfl).1;have b:=S.cell _ z rfl;rw[show scope.names.lookup x=some .free from a] at b;cases b
theorem zjz{h:Nat}{scope:TH}(I:0.5)(S:ScopeOk h N' X.N scope X.env.scope):∀x c,(Tq (s.heap.objs.size+1) scope.names (clOf scope.names X.env)).lookup x=some c->X.env.cells.lookup x=some c\/((x,Zw)∈scope.names/\s.heap.objs.size+1<=c):=λx c e=>by
 have z:=zjf scope.names (s.heap.push { cls:=.type "dict",data:=.dict #[] }) (clOf scope.names X.env) (x:=x) (c:=c) (by rw[Zg];exact e);rw[Zg] at z;rcases z with z|⟨z1,z2,_⟩
 .exact .inl (ze5 I S x c z)
 .exact .inr ⟨z1,z2⟩
theorem zru{h:Nat}{scope:TH}(I:0.5)(S:ScopeOk h N' X.N scope X.env.scope):∀x c,(clOf scope.names X.env).lookup x=some c->c<s.heap.objs.size+1:=λx c e=>by
 obtain⟨v,o,ho,_⟩:=I.cell x c (ze5 I S x c e);exact QW (Qv ho)
theorem z3b{h:Nat}{scope:TH}(I:0.5)(S:ScopeOk h N' X.N scope X.env.scope)(hf:∀b∈fp,FpOk X pins H b)(hlt:∀b∈fp,b<s.heap.objs.size):
 (zbv X scope N' s.heap.objs.size s H fp).Ok:=by
 have cl:=zjz I S;refine⟨I.ok.mod,?_,I.ok.glob,I.ok.blt,Qg _,zn6 _ _ _ (zru I S) λx y c e1 e2=>I.ok.inj x y c (ze5 I S x c e1) (ze5 I S y c e2),λx hx=>?_,λx c z e=>?_,I.ok.hd,I.ok.frames,.inl rfl,λb hb=>⟨Q0 (hlt b hb),λx c e=>(cl x c e).elim (λz=>(hf b hb).2.2.2.2.1 x c z) λz w=>Zl _ (QM (hlt b hb) (Yb (w ▸ z.2)))⟩,λb o e=>I.bs b o e,Q1 I.ok.bsz I.sz,λb o e hb=>?_,λb hb z=>?_,I.stack,I.stkFree⟩
 .exact S.kind
 .have hx':(relabel scope X.env).names.lookup x=some .cell\/(relabel scope X.env).names.lookup x=some .free:=hx;have e:=zc1 (env:=X.env) (x:=x) scope.names
  have hl:scope.names.lookup x=some .free\/scope.names.lookup x=some .cell:=by
   cases q:scope.names.lookup x with
   | none=>rw[q] at e;rcases hx' with z|z <;> (have z':=e.symm.trans z;cases z')
   | some k=>
     rw[q,JA] at e
     by_cases hk:k = .free
     .rw[hk];exact .inl rfl
     .have hc:¬(k == Zp && X.env.scope.kind == .function && X.env.kindOf x == some .cell)=true:=by
       have:(k == Zp)=false:=by simpa using hk
       rw[this];simp
      rw[NJ hc] at e;rcases hx' with z|z
      .have z':=e.symm.trans z;cases z';exact .inr rfl
      .have z':=e.symm.trans z;cases z';exact .inl rfl
  rcases hl with hl|hl
  .have hm:=ZM hl;obtain⟨c,hc⟩:=I.ok.has x (S.free _ hm rfl).2;exact⟨c,(ziw _ _ _ (zk2 S hm)).trans (zuf hm hc)⟩
  .exact JD.mp (YA _ _ _ (.inl hl))
 .have z:(scope.names.lookup x == some Zw)=true:=z;have z:scope.names.lookup x=some .cell:=by simpa using z
  rcases zjf scope.names (s.heap.push { cls:=.type "dict",data:=.dict #[] }) (clOf scope.names X.env) (x:=x) (c:=c) (by rw[Zg];exact e) with w|⟨_,w,_⟩
  .exact absurd (ZM z) (zk2 S (zsp w).1)
  .rw[Zg] at w;exact Yb w
 .rcases(hf b hb).2.2.2.1 with z|z
  .exact I.ok.noex b o e z
  .exact absurd (QM (Qv (I.ok.bs b o e).1) z) (Zl _)
 .obtain⟨_,f1,f2,_⟩:=hf b hb;rcases Qz.mp (I.stkSub b z) with q|q
  .exact f1 q
  .exact f2 q
theorem zrt{h:Nat}{scope:TH}{tk:Nat}(I:0.5)(S:ScopeOk h N' X.N scope X.env.scope)(hf:∀b∈fp,FpOk X pins H b)(hlt:∀b∈fp,b<s.heap.objs.size)
 (hn:h'.Ns s.heap.objs.size λ_=>none) (kp:∀b o,s.heap.get? b=some o->h'.get? b=some o) (hcs:∀x c,(Tq (s.heap.objs.size+1) scope.names (clOf scope.names X.env)).lookup x=some c->(clOf scope.names X.env).lookup x=some c\/((x,Zw)∈scope.names/\s.heap.objs.size+1<=c/\h'.IsCell c none)) :
 Inv (zbv X scope N' s.heap.objs.size s H fp) [] (QO h none++σ) H { s with heap:=h',toks:=tk }:=by
 have ok:=z3b I S hf hlt;have cl:=ze5 I S;refine⟨ok,rfl,I.bare,Un.kept kp,⟨_,hn,λi x v e1 e2 e3=>?_⟩,λx c e=>?_,I.hok.fresh (Qg _),λx c e=>(hcs x c e).elim (λz=>I.freeC x c (cl x c z)) λz=>I.hok.fresh (Yb z.2.1),λp hp=>absurd (show p∈([]:List (Addr×Obj)) from hp) 0.1,I.hok.kept kp,?_⟩
 .have e1:N'[i]? = some x:=e1
  by_cases hi:i<h
  .rw[QA 5.2,ZA,NI hi] at e2;cases e2
  .obtain⟨j,rfl⟩:∃j,i=h+j:=⟨i-h,by lia⟩;rw[QF 0.1,Zh,Nat.add_sub_cancel_left] at e2;have e3:Vis (relabel scope X.env) x:=e3;have er:=zc1 (env:=X.env) (x:=x) scope.names
   have hl:∃k,scope.names.lookup x=some k/\(k = .local\/k = .cell\/k = .free)/\(relabel scope X.env).names.lookup x=some (if(k == Zp && X.env.scope.kind == .function && X.env.kindOf x == some .cell) then Zw else k):=by
    cases q:scope.names.lookup x with
    | none=>rw[q] at er;rcases e3 with z|z|z <;> (have z':=er.symm.trans z;cases z')
    | some k=>
      rw[q,JA] at er;refine⟨k,rfl,?_,er⟩
      by_cases hc:(k == Zp && X.env.scope.kind == .function && X.env.kindOf x == some .cell)=true
      .simp only[Q9,beq_iff_eq] at hc;exact .inr (.inr hc.1.1)
      .rw[NJ hc] at er;rcases e3 with z|z|z <;> (have z':=er.symm.trans z;cases z';simp)
   obtain⟨k,hk,hkk,hre⟩:=hl;obtain⟨hN,rfl⟩:=S.out j x k e1 hk hkk;have hm:=ZM hk;have hfr:=(S.free _ hm rfl).2;obtain⟨m,hnm,hlk⟩:=I.loc;obtain⟨u,ru,lk⟩:=hlk j x v hN e2 (by rcases hfr with z|z;exact .inr (.inl z);exact .inr (.inr z));refine⟨u,ru,?_⟩;rcases lk with ⟨hloc,_⟩|⟨hkd,c,hc,hcell⟩
   .have hloc:X.env.scope.names.lookup x=some .local:=hloc;rcases hfr with z|z <;> (rw[hloc] at z;cases z)
   .refine .inr ⟨?_,c,(ziw _ _ _ (zk2 S hm)).trans (zuf hm hc),?_⟩
    .show(relabel scope X.env).names.lookup x=some .cell\/(relabel scope X.env).names.lookup x=some .free;rw[hre]
     split
     .exact .inl rfl
     .exact .inr rfl
    .obtain⟨o,ho,hd⟩:=hcell;exact⟨o,kp c o ho,hd⟩
 .rcases hcs x c e with z|z
  .obtain⟨v,o,ho,hd⟩:=I.cell x c (cl x c z);exact⟨v,o,kp c o ho,hd⟩
  .exact⟨_,z.2.2⟩
 .show(QO h none++σ).length=N'.length;rw[Qj,Zh,S.len,I.len]
theorem zy9{h:Nat}{scope:TH}{pins':0.9}(I:0.5)(S:ScopeOk h N' X.N scope X.env.scope)(hf:∀b∈fp,FpOk X pins H b)
 (J:Inv (zbv X scope N' s.heap.objs.size s H fp) pins' σ' H' s') (hs:ZF s.heap.objs.size s'.heap h'):Inv X pins σ H' { s' with heap:=h' }:=by
 have ne:∀b o,s.heap.get? b=some o->b≠s.heap.objs.size:=λb o e=>Q0 (Qv e);have u:Un (frs X.stack) fp H H' s.heap s'.heap:=J.base;have hC:H' s.heap.objs.size=none:=J.free;obtain⟨m0,⟨oC,_,_,hoC,_⟩,_⟩:=id J.loc;refine I.call' (s':={ s' with heap:=h' }) (ch:=fp) J.os ⟨λb o e n hb hx=>(hs.2 b (ne b o e)).trans (u.keep b o e n hb hx),λb o e n hb hx=>?_,u.free,λb o e hx=>?_,u.tups,u.frzs,u.tbls⟩ (λb ob e=>?_) J.bare λb hb=>?_
 .obtain⟨sl,z⟩:=u.slot b o e n hb hx;exact⟨sl,(hs.2 b (ne b o e)).trans z⟩
 .obtain⟨o',z⟩:=u.there b o e hx;exact⟨o',(hs.2 b (ne b o e)).trans z⟩
 .refine(J.hok b ob e).stay (λc w' hc q=>(hs.2 c ?_).trans q) (λ_ q=>q) (λ_ _ q=>q) λ_ _ q=>q;rintro rfl;rcases hc with z|z
  .rw[<- z,hC] at e;cases e
  .rw[hC] at z;cases z
 .obtain⟨_,f1,_,f3,f4,f5⟩:=hf b hb;exact⟨f3,f1,f4,f5⟩
end
theorem zl3{iter:Expr}{scope:TH}{R:1.0}{pins:0.9}(h:Nat)(S:ScopeOk h N' X.N scope X.env.scope)(hc:X.calm=true)(hi:PI X tg iter wi)
 (hg:∀C s H ex,PG (zbv X scope N' C s H ex) tg g) (ho:OwnG h g) (ht:∀C s H ex,PF (zbv X scope N' C s H ex) ifs tf) (he:∀C s H ex,PE (zbv X scope N' C s H ex) elt te)
 (hs:∀x,Tv iter X.env x=pure x) (I:0.5) (hq:zfl h wi g tf te σ H Q)
 (fin:∀(D:Addr) (H3 H5:Hp) (s3 s6:GJ) m6 fl,Inv X pins σ H3 s3->(∀h7,ZF s3.heap.objs.size s6.heap h7->Inv X pins σ H5 { s6 with heap:=h7 })->H5 s3.heap.objs.size=none->s6.heap.Ns s3.heap.objs.size m6->Q (.ref D) H5->compPost 0.8 X.A X.xe use R (.ref D) s3.heap.objs.size (.ok fl) s6) :
 wpAny 0.8 X.A (comprehension (.ListComp elt [⟨tg,iter,ifs,0⟩] scope pos) scope X.env cp (newList []) false (eval iter X.env) use) R X.xe s:=by
 refine wpAny_comprehension_free (use:=use) rfl hs (ztb (env:=X.env) λp hp hk=>I.ok.has p.1 (S.free p hp hk).2) S.kind S.loc ?_;refine thn (hi pins s σ H _ I hq) λv s1 h1=>thn h1 λitv s2 h2=>?_;obtain⟨it,fp,tn,J,H2,rfl,I2,T,st2,f2,hq⟩:=h2;refine GX ?_ (by show 0<=sizeLine;exact Q6 _);have hD:H2 s2.heap.objs.size=none:=I2.hok.fresh (Qg _);have I3:Inv X pins σ (upd H2 s2.heap.objs.size (.lst [])) { s2 with heap:=s2.heap.push { cls:=.type "list",data:=.seq ([]:List GH).toArray },toks:=s2.toks }:=I2.lnew (t':=s2.toks) .nil (Q6 _);generalize hs3:({ s2 with heap:=s2.heap.push { cls:=.type "list",data:=.seq ([]:List GH).toArray },toks:=s2.toks }:GJ)=s3 at I3;have hs3':({ s2 with heap:=s2.heap.push { cls:=.type "list",data:=.seq ([]:List GH).toArray } }:GJ)=s3:=hs3;obtain⟨W,⟨m0,w0⟩,turn⟩:=hq s2.heap.objs.size hD
 have olt:∀b∈fp,b<s2.heap.objs.size:=λb hb=>by
  obtain⟨o,e,_⟩:=T.obj _ _ st2 b hb;exact Qv e
 have hsz:s3.heap.objs.size=s2.heap.objs.size+1:=by rw[<- hs3];exact Zg ..
 have k23:∀b o,s2.heap.get? b=some o->s3.heap.get? b=some o:=λb o e=>by rw[<- hs3];exact Qf _ e
 have f3:∀b∈fp,FpOk X pins (upd H2 s2.heap.objs.size (.lst [])) b:=λb hb=>⟨by rw[zac (Q0 (olt b hb))];exact(f2 b hb).1,(f2 b hb).2⟩;have lt3:∀b∈fp,b<s3.heap.objs.size:=λb hb=>by rw[hsz];exact QW (olt b hb)
 refine zsx λh4 hn4 k34 cs4=>?_;have I4:=zrt (h':=h4) (tk:=s3.toks) I3 S f3 lt3 hn4 k34 cs4;have st4:tn 0 h4:=T.keep _ _ _ st2 λb hb o e=>k34 b o (k23 b o e);generalize hX:zbv X scope N' s3.heap.objs.size s3 (upd H2 s2.heap.objs.size (.lst [])) fp=X' at I4;have hA:X'.A=X.A:=by rw[<- hX];rfl
 -- the iterator's objects,in the block
 have fpX:∀{H':Hp} {pl:0.9},(∀b∈fp,H' b=none)->pl = []->∀b∈fp,FpOk X' pl H' b:=λ{H' pl} hn0 hpl b hb=>by
  subst hpl;obtain⟨q0,q1,q2,q3,q4,q5⟩:=f3 b hb;subst hX;refine⟨hn0 b hb,Q0 (lt3 b hb),λz=>?_,.inl hb,λx c e=>(zjz I3 S x c e).elim (q4 x c) λz w=>Zl _ (QM (lt3 b hb) (Yb (w ▸ z.2))),λp hp=>absurd (show p∈([]:List (Addr×Obj)) from hp) 0.1⟩;rcases Qz.mp (I3.stkSub b z) with z|z
  .exact q1 z
  .exact q2 z
 have hcX:X'.calm=true:=by rw[<- hX];exact hc
 have hR:∀s':GJ,(∃(m:Nat) (i:Nat) (ys:3.3) (H':Hp),Inv X' [] (QO h none++σ) H' s'/\tn i s'.heap/\(∀b∈fp,H' b=none)/\W i m ys H')->True:=λ_ _=>trivial
 have loop:∀(sL:GJ),(Inv X' [] (QO h none++σ) (upd H2 s2.heap.objs.size (.lst [])) sL)->tn 0 sL.heap ->
  Mo 0.8 X.A (.compLoop (.ListComp elt [⟨tg,iter,ifs,0⟩] scope pos) 0 (.ref it) (.ref s2.heap.objs.size) X'.env)
   (compPost 0.8 X.A X.xe use R (.ref s2.heap.objs.size) s3.heap.objs.size) sL:=by
  intro sL IL stL;refine zpm (λn s'=>∃i ys H',Inv X' [] (QO h none++σ) H' s'/\tn i s'.heap/\(∀b∈fp,H' b=none)/\W i n ys H') ?_ m0 ⟨0,[],_,IL,stL,λb hb=>(f3 b hb).1,w0⟩;rintro n s5 ⟨i,ys,H5,I5,st5,fr5,w5⟩;obtain⟨hDy,hh⟩:=turn i n ys H5 w5;have eP:X'.prog=X.prog:=by rw[<- hX];rfl
  have eW:X'.w=X.w:=by rw[<- hX];rfl
  have eK:X'.K=X.K:=by rw[<- hX];rfl
  have eE:X'.xe=λ_ _=>False:=by rw[<- hX];rfl
  rcases hh with ⟨stop,qn⟩|⟨go,step⟩
  .have:=T.done X' eP eW eK hcX i [] s5 _ H5 (λ_ _=>False) I5 (fpX fr5 rfl) st5 stop;rw[hA] at this;refine thn this λr s6 zz=>?_;obtain⟨hr,I6⟩:=zz;subst hr;obtain⟨m6,hm6,_⟩:=id I6.loc;rw[<- hX] at hm6 I6;exact fin _ _ H5 s3 s6 m6 _ I3 (λh7 hs7=>zy9 I3 S f3 I6 hs7) I6.free hm6 qn
  .have:=T.item X' eP eW eK hcX i [] s5 _ H5 (λ_ _=>False) I5 (fpX fr5 rfl) st5 go;rw[hA] at this;refine thn this λr s6 zz=>?_;obtain⟨u,hr,h6⟩:=zz;subst hr;refine thn h6 λ_ s7 zz=>?_;obtain⟨x,H7,I7,r7,y7,st7,fr7⟩:=zz;have I7':=I7.pinned (fpX fr7 rfl) (T.obj _ _ st7)
   have back:∀{σ':St} {H':Hp} {s':GJ},Inv X' ([]++zgm fp s7.heap) σ' H' s'->σ'.length=(QO h none++σ:St).length->σ'.drop h=(QO h none++σ:St).drop h ->
    Inv X' [] (QO h none++σ) H' s'/\tn (i+1) s'.heap/\∀b∈fp,H' b=none:=by
    intro σ' H' s' I' hl hd;refine⟨I'.unpinned.weak hl.symm λj v e=>?_,T.keep _ _ _ st7 λb hb o e=>?_,λb hb=>?_⟩
    .by_cases hj:j<h
     .rw[QA (by simpa using hj),ZA,NI hj] at e;cases e
     .have e1:(σ'.drop h)[j-h]? = σ'[j]?:=by rw[Z0];congr 1;lia
      have e2:((QO h none++σ:St).drop h)[j-h]? = (QO h none++σ:St)[j]?:=by rw[Z0];congr 1;lia
      rw[<- e1,hd,e2];exact e
    .exact(I'.pin (b,o) (QG _ (QG _ (zdl hb e)))).1
    .obtain⟨o,e,_⟩:=T.obj _ _ st7 b hb;exact(I'.pin (b,o) (QG _ (QG _ (zdl hb e)))).2.1
   have hg':=hg s3.heap.objs.size s3 (upd H2 s2.heap.objs.size (.lst [])) fp;have ht':=ht s3.heap.objs.size s3 (upd H2 s2.heap.objs.size (.lst [])) fp;have he':=he s3.heap.objs.size s3 (upd H2 s2.heap.objs.size (.lst [])) fp;rw[hX] at hg' ht' he';have hl0:h<=(QO h none++σ:St).length:=by simp
   have a1:=hg' _ s7 _ H7 x u _ I7' r7 (ho x _ H7 _ hl0 (step x H7 y7));rw[hA,eP,eW,eE] at a1;refine thn a1 λ_ s8 zz=>?_;obtain⟨σ8,H8,I8,q8,l8,d8⟩:=zz;have a2:=ht' _ s8 σ8 H8 _ I8 q8;rw[hA,eP,eW,eE] at a2;refine thn a2 λc s9 zz=>?_;obtain⟨H9,I9,q9⟩:=zz
   cases c with
   | false=>
     obtain⟨m',hm',w'⟩:=q9;obtain⟨b1,b2,b3⟩:=back I9 l8 d8;exact⟨m',hm',i+1,ys,H9,b1,b2,b3,w'⟩
   | true=>
     have a3:=he' _ s9 σ8 H9 _ I9 q9;rw[hA,eP,eW,eE] at a3;refine thn a3 λyv s10 zz=>?_;obtain⟨y,H10,I10,r10,hD10,hz10,m',hm',w'⟩:=zz;have a4:=zma (X:=X') _ s10 σ8 H10 (.ref s2.heap.objs.size) [y] (.ref s2.heap.objs.size) [yv] (λ_ Hz=>Hz=upd H10 s2.heap.objs.size (.lst (ys ++ [y]))) I10 rfl (.cons r10 .nil) ⟨_,ys,y,rfl,rfl,hD10,hz10,rfl⟩;rw[hA,eP,eW,eE] at a4;refine thn a4 λ_ s11 zz=>?_;obtain⟨_,H11,I11,_,e11⟩:=zz;subst e11;obtain⟨b1,b2,b3⟩:=back I11 l8 d8;exact⟨m',hm',i+1,ys ++ [y],_,b1,b2,b3,w'⟩
 have end_:=codeAny_compStart_list (prog:=X.prog) (w:=X.w) (A:=X.A) (R:=compPost 0.8 X.A X.xe use R (.ref s2.heap.objs.size) s3.heap.objs.size) (elt:=elt) (target:=tg) (iter:=iter) (ifs:=ifs) (rest:=[]) (scope:=scope) (pos:=pos) (it:=.ref it) (acc:=.ref s2.heap.objs.size) (env:=X'.env)
  (loop _ I4 st4) (T.self _ 0 _ _ _ st4 (loop _ I4 st4))
 have hE:X'.env=compEnvC scope (Tq (s3.heap.objs.size+1) scope.names (clOf scope.names X.env)) s3.heap.objs.size X.env:=by rw[<- hX];rfl
 rw[hE] at end_;exact end_
theorem zkm{iter:Expr}{scope:TH}(h:Nat)(S:ScopeOk h N' X.N scope X.env.scope)(hc:X.calm=true)(hi:PI X tg iter wi)
 (hg:∀C s H ex,PG (zbv X scope N' C s H ex) tg g) (ho:OwnG h g) (ht:∀C s H ex,PF (zbv X scope N' C s H ex) ifs tf) (he:∀C s H ex,PE (zbv X scope N' C s H ex) elt te)
 (hs:∀x,Tv iter X.env x=pure x:=by intro _;rfl) :
 PE X (.ListComp elt [⟨tg,iter,ifs,0⟩] scope pos) (zfl h wi g tf te):=by
 intro pins s σ H Q I hq;rw[eval_ListComp];exact zl3 h S hc hi hg ho ht he hs I hq λD H3 H5 s3 s6 m6 fl I3 bk hC hm qn=>⟨m6,hm,λh7 hs7=>⟨.ref D,H5,bk h7 hs7,rfl,qn⟩⟩
theorem zjj{iter:Expr}{scope:TH}{spos:Pos}{n0:Nat}(hN0:X.N.Nodup)(hi0:X.N[n0]? = some x0)(hx0:X.env.scope.names.lookup x0=some .local)(hsw:Tc (.ListComp elt [⟨tg,iter,ifs,0⟩] scope pos) (some (.Name x0 py)) spos.line X.env=pure true)(h:Nat)(S:ScopeOk h N' X.N scope X.env.scope)(hc:X.calm=true)(hi:PI X tg iter wi)
 (hg:∀C s H ex,PG (zbv X scope N' C s H ex) tg g) (ho:OwnG h g) (ht:∀C s H ex,PF (zbv X scope N' C s H ex) ifs tf) (he:∀C s H ex,PE (zbv X scope N' C s H ex) elt te)
 (hs:∀x,Tv iter X.env x=pure x:=by intro _;rfl) :
 PS X (.Assign [.Name x0 py] (.ListComp elt [⟨tg,iter,ifs,0⟩] scope pos) spos) (tAsg (zfl h wi g tf te) (zav n0)):=by
 intro pins s σ H DD I hq;rw[exec_Assign_Name_used _ _ _ _ hsw];refine GF (Nl (GF ?_));show wpAny _ X.A (do let _ <- comprehension (.ListComp elt [⟨tg,iter,ifs,0⟩] scope pos) scope X.env _ (newList []) false (eval iter X.env) (some (Ny (.Name x0 py) X.env))) _ _ s;refine GF (Ta (zl3 (use:=some (Ny (.Name x0 py) X.env)) (R:=λ_ s'=>SP X pins DD .next s') h S hc hi hg ho ht he hs I hq λD H3 H5 s3 s6 m6 fl I3 bk hC hm qn=>?_) (λ_ s' hq=>GI (GI hq)) λ_ _ e=>e);have J6:Inv X pins σ H5 s6:=bk _ (Heap.SameBut.refl ..);have neL:s3.heap.objs.size≠X.env.locals:=Yn I3.lt
 have neC:∀x c,X.env.cells.lookup x=some c->c≠s3.heap.objs.size:=λx c e=>by
  obtain⟨v,z⟩:=I3.cell x c e;exact Q0 z.lt
 show wpAny 0.8 X.A (Ny (.Name x0 py) X.env (.ref D)) _ _ s6;refine wpAny_assign_Name (zls (v:=.ref D) J6 hN0 hi0 (.inl hx0) rfl (λs7 I7 zz=>?_) (.inr hx0));obtain⟨a,hsb,ha⟩:=zz
 have hac:s3.heap.objs.size≠a:=by
  rcases ha with rfl|ha
  .exact neL
  .exact Z8 (neC _ _ ha)
 refine⟨m6,hm.sameBut hsb hac,λh8 hs8=>⟨_,H5,I7.turned (t':=s7.toks) (it:=s3.heap.objs.size) (λb o hb e=>(hs8.2 b hb).trans e) hC neL (.inr I3.sz) neC (λp hp=>?_),qn⟩⟩;exact Q0 (Qv (I3.pin p hp).1)
def chA(_:GH):Prop:=False
end L3
namespace L3
open PySem PySem.Spec PySem.Calls
open PyProof.Rows hiding St
open L2
section
variable {X:Cx}{pins:0.9}{σ:St}{H:Hp}{s:GJ}{a:Addr}
def XR(a C dx:Addr):HO:=.ext λh=>∃o vs,h.get? a=some o/\o.cls = .ref C/\o.dict=some dx/\o.data = .fields vs/\(vs[2]? = some .none\/chA (.ref C))
end
mutual
inductive Is(K:Qa)(F:3.4)(H:Hp):V->GG->Prop
 | none:Is K F H .non .none
 | bool (b):Is K F H (.bl b) (.bool b)
 | int (i):Is K F H (.int i) (.int i)
 | str (x):Is K F H (.str x) (.str x)
 | list {a xs ds}:F a->H a=some 4.1->IsAll K F H xs ds->Is K F H 3.1 (.list ds)
 | tuple {a xs ds}:SqT K H a xs->IsAll K F H xs ds->Is K F H 3.1 (.tuple ds)
inductive IsAll(K:Qa)(F:3.4)(H:Hp):List V->List GG->Prop
 | nil:IsAll K F H [] []
 | cons {v vs d ds}:Is K F H v d->IsAll K F H vs ds->IsAll K F H (v::vs) (d::ds)
end
section
variable {K:Qa}{F F':3.4}{H H':Hp}
mutual
theorem Is.to(hL:∀a xs,F a->H a=some 4.1->F' a/\H' a=some 4.1)(hT:∀a xs,SqT K H a xs->SqT K H' a xs):∀{v d},Is K F H v d->Is K F' H' v d
 | _,_,.none=>.none
 | _,_,.bool b=>.bool b
 | _,_,.int i=>.int i
 | _,_,.str x=>.str x
 | _,_,.list f q r=>.list (hL _ _ f q).1 (hL _ _ f q).2 (IsAll.to hL hT r)
 | _,_,.tuple q r=>.tuple (hT _ _ q) (IsAll.to hL hT r)
theorem IsAll.to(hL:∀a xs,F a->H a=some 4.1->F' a/\H' a=some 4.1)(hT:∀a xs,SqT K H a xs->SqT K H' a xs):∀{vs ds},IsAll K F H vs ds->IsAll K F' H' vs ds
 | _,_,.nil=>.nil
 | _,_,.cons r t=>.cons (Is.to hL hT r) (IsAll.to hL hT t)
end
theorem IsAll.length:∀{vs ds},IsAll K F H vs ds->vs.length=ds.length
 | _,_,.nil=>rfl
 | _,_,.cons _ t=>by rw[Ql,Ql,IsAll.length t]
theorem IsAll.get:∀{vs ds} {i:Nat} {d},IsAll K F H vs ds->ds[i]? = some d->∃v,vs[i]? = some v/\Is K F H v d
 | _,_,_,_,.nil,e=>by simp at e
 | _,_,0,_,.cons r _,e=>by simp at e;subst e;exact⟨_,rfl,r⟩
 | _,_,i+1,d,.cons _ t,e=>by
   obtain⟨v,h1,h2⟩:=IsAll.get (i:=i) (d:=d) t (by simpa using e);exact⟨v,by simpa using h1,h2⟩
theorem IsAll.append:∀{vs ds ws es},IsAll K F H vs ds->IsAll K F H ws es->IsAll K F H (vs++ws) (ds++es)
 | _,_,_,_,.nil,s=>s
 | _,_,_,_,.cons r t,s=>.cons r (IsAll.append t s)
theorem IsAll.snoc{vs ds v d}(h:IsAll K F H vs ds)(r:Is K F H v d):IsAll K F H (vs ++ [v]) (ds ++ [d]):=h.append (.cons r .nil)
theorem IsAll.take:∀{vs ds} (n:Nat),IsAll K F H vs ds->IsAll K F H (vs.take n) (ds.take n)
 | _,_,0,_=>.nil
 | _,_,_+1,.nil=>.nil
 | _,_,n+1,.cons r t=>.cons r (IsAll.take n t)
theorem IsAll.drop:∀{vs ds} (n:Nat),IsAll K F H vs ds->IsAll K F H (vs.drop n) (ds.drop n)
 | _,_,0,r=>r
 | _,_,_+1,.nil=>.nil
 | _,_,n+1,.cons _ t=>IsAll.drop n t
end
def SameB(M:3.4)(H H':Hp):Prop:=∀a o,H a=some o->¬M a->H' a=some o
theorem SameB.refl(M:3.4)(H:Hp):SameB M H H:=λ_ _ h _=>h
theorem SameB.trans(a:SameB M H H1)(b:SameB M H1 H2):SameB M H H2:=λc o h n=>b c o (a c o h n) n
theorem SameB.of(s:Same H H'):SameB M H H':=λa o h _=>s a o h
theorem SameB.free(e:SameB M H H')(hm:¬M l)(h:H' l=ZO):H l=ZO:=by
 cases q:H l with
 | none=>rfl
 | some o=>rw[e l o q hm] at h;cases h
def TupStay(H H':Hp):Prop:=∀a u,(∃xs,u=HO.tup xs\/∃o,u=HO.frz o (.tup xs))->H a=some u->H' a=some u
theorem SqT.stay{K:Qa}{H H':Hp}{a:Addr}{xs:3.3}(e:TupStay H H')(h:SqT K H a xs):SqT K H' a xs:=by
 rcases h with (h|⟨o,h⟩)|h
 .exact .inl (.inl (e _ _ ⟨xs,.inl rfl⟩ h))
 .exact .inl (.inr ⟨o,e _ _ ⟨xs,.inr ⟨o,rfl⟩⟩ h⟩)
 .exact .inr h
structure Ob where
 M:Addr->Prop
 P:Hp->Prop
 v:V
structure Ob.Ok(O:Ob):Prop where
 loc:∀H H',(∀a,O.M a->H' a=H a)->O.P H->O.P H'
 mutb:∀H a o,O.P H->H a=some o->O.M a->(∀xs,o≠.tup xs)/\∀q u,o≠.frz q u
 here:∀H a,O.P H->O.M a->∃o,H a=some o
theorem Ob.Ok.grow{O:Ob}(ok:O.Ok)(H H':Hp)(s:Same H H')(p:O.P H):O.P H':=ok.loc H H' (λa m=>by
 obtain⟨o,e⟩:=ok.here H a p m
 rw[e,s a o e]) p
def Ob.plus(O:Ob)(D:Addr)(u:HO):Ob:=⟨λa=>O.M a\/a=D,λH=>O.P H/\H D=some u,O.v⟩
theorem Ob.Ok.plus{O:Ob}(ok:O.Ok)(D:Addr)(xs:3.3):(O.plus D 4.1).Ok :=
 ⟨λH H' e p=>⟨ok.loc H H' (λa m=>e a (.inl m)) p.1,(e D (.inr rfl)).trans p.2⟩,
  λH a o p e m=>by
   rcases m with m|rfl
   .exact ok.mutb H a o p.1 e m
   .rw[p.2] at e;cases e;exact⟨λ_ h=>(by cases h),λ_ _ h=>(by cases h)⟩,
  λH a p m=>by
   rcases m with m|rfl
   .exact ok.here H a p.1 m
   .exact⟨_,p.2⟩⟩
structure Stp(O:Ob)(H H':Hp):Prop where
 s:SameB O.M H H'
 p:O.P H->O.P H'
 t:TupStay H H'
theorem Stp.refl(O:Ob)(H:Hp):Stp O H H:=⟨.refl _ _,λh=>h,λ_ _ _ h=>h⟩
theorem Stp.trans(a:Stp O H H1)(b:Stp O H1 H2):Stp O H H2:=⟨a.s.trans b.s,λh=>b.p (a.p h),λc u hu h=>b.t c u hu (a.t c u hu h)⟩
theorem Stp.same(ok:O.Ok)(s:Same H H'):Stp O H H':=⟨.of s,ok.grow H H' s,λa u _ h=>s a u h⟩
theorem same_new(h:H p=none)(o:HO):Same H (upd H p o):=λb u q=>by rw[zac (zbt q h)];exact q
theorem Stp.new{O:Ob}(ok:O.Ok){H:Hp}{p:Addr}(h:H p=none)(o:HO):Stp O H (upd H p o):=.same ok (same_new h o)
section
variable {K:Qa}{O:Ob}{F F':3.4}{H H':Hp}{v:V}{d:GG}
theorem Is.stp(s:Stp O H H')(hF:∀a,F a->F' a)(hM:∀a,F a->¬O.M a)(h:Is K F H v d):Is K F' H' v d :=
 h.to (λa xs f q=>⟨hF a f,s.s a _ q (hM a f)⟩) λa xs q=>SqT.stay (h:=q) s.t
theorem IsAll.stp(s:Stp O H H')(hF:∀a,F a->F' a)(hM:∀a,F a->¬O.M a)(h:IsAll K F H vs ds):IsAll K F' H' vs ds :=
 h.to (λa xs f q=>⟨hF a f,s.s a _ q (hM a f)⟩) λa xs q=>SqT.stay (h:=q) s.t
theorem Is.weak(h:Is K F H v d)(hF:∀a,F a->F' a):Is K F' H v d:=h.to (λa xs f q=>⟨hF a f,q⟩) λa xs q=>q
theorem IsAll.weak(h:IsAll K F H vs ds)(hF:∀a,F a->F' a):IsAll K F' H vs ds:=h.to (λa xs f q=>⟨hF a f,q⟩) λa xs q=>q
end
mutual
def flat:GG->Bool
 | .none=>true
 | .bool _=>true
 | .int _=>true
 | .str _=>true
 | .tuple ds=>flats ds
 | _=>false
def flats:List GG->Bool
 | []=>true
 | d::ds=>flat d && flats ds
end
theorem flats_iff:∀{ds:2.3},flats ds=true↔∀d∈ds,flat d=true
 | []=>by simp[flats]
 | d::ds=>by rw[flats,Q9,flats_iff];simp
mutual
theorem Is.flat{K:Qa}{F F':3.4}{H H':Hp}(t:TupStay H H'):∀{v d},Is K F H v d->L3.flat d=true->Is K F' H' v d
 | _,_,.none,_=>.none
 | _,_,.bool b,_=>.bool b
 | _,_,.int i,_=>.int i
 | _,_,.str x,_=>.str x
 | _,_,.list _ _ _,h=>by simp[L3.flat] at h
 | _,_,.tuple q r,h=>.tuple (SqT.stay t q) (IsAll.flats t r (by simpa[L3.flat] using h))
theorem IsAll.flats{K:Qa}{F F':3.4}{H H':Hp}(t:TupStay H H'):∀{vs ds},IsAll K F H vs ds->L3.flats ds=true->IsAll K F' H' vs ds
 | _,_,.nil,_=>.nil
 | _,_,.cons r s,h=>by
   rw[L3.flats,Q9] at h;exact .cons (Is.flat t r h.1) (IsAll.flats t s h.2)
end
theorem TupStay.refl(H:Hp):TupStay H H:=λ_ _ _ h=>h
section
variable {X:Cx}{pins:0.9}{σ:St}{H:Hp}{s:GJ}{F:3.4}
mutual
theorem Is.reads(I:0.5):∀{v d} {u:GH},Is X.K F H v d->RelV v u->∃as,Tg s.heap u d as
 | _,_,_,.none,r=>by cases r;exact⟨_,.none⟩
 | _,_,_,.bool b,r=>by cases r;exact⟨_,.bool b⟩
 | _,_,_,.int i,r=>by obtain⟨t,rfl⟩:=r;exact⟨_,.int i t⟩
 | _,_,_,.str x,r=>by obtain⟨t,rfl⟩:=r;exact⟨_,.str x t⟩
 | _,_,_,.list f q rs,r=>by
   cases r;obtain⟨its,rv,⟨o,n,e,c,_,dt⟩,_⟩:=I.list (.of q);obtain⟨as,ra⟩:=IsAll.reads I rs rv;exact⟨_,.list e c dt (by simpa using ra)⟩
 | _,_,_,.tuple q rs,r=>by
   cases r;obtain⟨its,rv,⟨o,e,c,n,dt⟩,_⟩:=I.tuple q;obtain⟨as,ra⟩:=IsAll.reads I rs rv;exact⟨_,.tuple e c dt (by simpa using ra)⟩
theorem IsAll.reads(I:0.5):∀{vs ds} {us:2.8},IsAll X.K F H vs ds->Vals vs us->∃as,Ts s.heap us ds as
 | _,_,_,.nil,r=>by cases r;exact⟨_,.nil⟩
 | _,_,_,.cons h t,r=>by
   cases r with
   | cons r1 r2=>
     obtain⟨as,ra⟩:=Is.reads I h r1;obtain⟨bs,rb⟩:=IsAll.reads I t r2;exact⟨_,.cons ra rb⟩
end
end
def IsS(K:Qa)(F:3.4)(H:Hp)(v:V)(n:Nat):Prop:=∃a xs,v = .ref a/\xs.length=n/\((F a/\Rd H a 4.1)\/∀H',SqL K H' a xs)
theorem IsS.to{K:Qa}{F F':3.4}{H H':Hp}{v:V}{n:Nat}(hL:∀a u,F a->H a=some u->F' a/\H' a=some u)(h:IsS K F H v n):IsS K F' H' v n:=by
 obtain⟨a,xs,e,l,⟨f,q|⟨o,q⟩⟩|q⟩:=h
 .exact⟨a,xs,e,l,.inl ⟨(hL a _ f q).1,.inl (hL a _ f q).2⟩⟩
 .exact⟨a,xs,e,l,.inl ⟨(hL a _ f q).1,.inr ⟨o,(hL a _ f q).2⟩⟩⟩
 .exact⟨a,xs,e,l,.inr q⟩
def DkAt(H:Hp)(v:V)(a:Addr)(ks:2.4):Prop:=v = .ref a/\∃kvs,H a=some (.dK kvs)/\kvs.map (·.1)=ks.map Vs
theorem DkAt.to(h:DkAt H v a ks)(e:∀u,H a=some u->H' a=some u):DkAt H' v a ks:=let ⟨h1,kvs,h2,h3⟩:=h;⟨h1,kvs,e _ h2,h3⟩
inductive R where
 | o (d:GG)
 | n (ds:2.3)
def R.d:R->GG
 | .o d=>d
 | .n ds=>.list ds
structure Thg where
 R:Qa->(Addr->Prop)->(Addr->Prop)->Hp->V->Prop
 to:∀{K:Qa} {F F' W W':3.4} {H H':Hp} {v:V},(∀a u,F a->H a=some u->F' a/\H' a=some u)->(∀a u,W a->H a=some u->W' a/\H' a=some u)->TupStay H H'->R K F W H v->R K F' W' H' v
inductive DV where
 | im (d:GG)
 | own (ds:2.3)
 | ob
 | scr (n:Nat)
 | dct (ks:2.4)
   | gen (f:Addr->List V->HO) (ds:2.3)
   | rd (f:Addr->List V->HO) (ds:2.3)
   | exc (C:Addr) (ns:2.4) (ds:2.3)
   | thg (T:Thg)
   | thr (T:Thg)
abbrev DSt:=List (Option DV)
abbrev DE:=DSt->2.7->Prop
abbrev DT:=DSt->(Bool->Prop)->Prop
abbrev DA:=DSt->(List GG->Prop)->Prop
def unM(O:Ob):Addr->Prop:=λa=>¬O.M a
def ExAt(F:3.4)(H:Hp)(v:V)(C:Addr)(ns:2.4)(xs:3.3):Prop:=∃a dx,v = .ref a/\F a/\F dx/\H a=some (XR a C dx)/\H dx=some (.xd (ns.zip xs))/\xs.length=ns.length
theorem ExAt.to(hL:∀a u,F a->H a=some u->F' a/\H' a=some u)(h:ExAt F H v C ns xs):ExAt F' H' v C ns xs:=by
 obtain⟨a,dx,e,f1,f2,q1,q2,l⟩:=h;exact⟨a,dx,e,(hL a _ f1 q1).1,(hL dx _ f2 q2).1,(hL a _ f1 q1).2,(hL dx _ f2 q2).2,l⟩
def SeenV(K:Qa)(O:Ob)(H:Hp)(v:V):DV->Prop
 | .im d=>Is K 3.7 H v d
 | .own ds=>Is K 3.7 H v (.list ds)
 | .ob=>v=O.v
 | .scr n=>IsS K 3.7 H v n
 | .dct ks=>∃a,¬O.M a/\DkAt H v a ks
 | .gen f ds=>∃a xs,v = .ref a/\¬O.M a/\H a=some (f a xs)/\IsAll K 3.7 H xs ds
 | .rd f ds=>∃a xs,v = .ref a/\¬O.M a/\H a=some (f a xs)/\IsAll K 3.7 H xs ds
 | .exc C ns ds=>∃xs,ExAt 3.7 H v C ns xs/\IsAll K 3.7 H xs ds
 | .thg T=>∃W:Addr->Prop,(∀a,W a->¬O.M a/\∃o,H a=some o)/\T.R K 3.7 W H v
 | .thr T=>∃W:Addr->Prop,(∀a,W a->¬O.M a/\∃o,H a=some o)/\T.R K 3.7 W H v
structure Seen(K:Qa)(O:Ob)(H:Hp)(σ:St)(ρ:DSt):Prop where
 ok:O.Ok
 p:O.P H
 at_:∀(i:Nat) r,ρ[i]? = some (some r)->∃v,σ[i]? = some (some v)/\SeenV K O H v r
 len:ρ.length=σ.length
theorem SeenV.stp{K:Qa}{O:Ob}{H H':Hp}{v:V}{r:DV}(s:Stp O H H')(h:SeenV K O H v r):SeenV K O H' v r:=by
 cases r with
 | im d=>exact Is.stp s 4.7 4.7 h
 | own ds=>exact Is.stp s 4.7 4.7 h
 | ob=>exact h
 | scr n=>exact IsS.to (λa u f q=>⟨f,s.s a u q f⟩) h
 | dct ks=>obtain⟨a,n,h⟩:=h;exact⟨a,n,h.to λu q=>s.s a u q n⟩
 | gen f ds=>obtain⟨a,xs,e,n,q,z⟩:=h;exact⟨a,xs,e,n,s.s a _ q n,IsAll.stp s 4.7 4.7 z⟩
 | rd f ds=>obtain⟨a,xs,e,n,q,z⟩:=h;exact⟨a,xs,e,n,s.s a _ q n,IsAll.stp s 4.7 4.7 z⟩
 | exc C ns ds=>obtain⟨xs,e,z⟩:=h;exact⟨xs,e.to λa u f q=>⟨f,s.s a u q f⟩,IsAll.stp s 4.7 4.7 z⟩
 | thg T=>obtain⟨W,hw,z⟩:=h;exact⟨W,λa w=>⟨(hw a w).1,let ⟨o,e⟩:=(hw a w).2;⟨o,s.s a o e (hw a w).1⟩⟩,T.to (λa u f q=>⟨f,s.s a u q f⟩) (λa u w q=>⟨w,s.s a u q (hw a w).1⟩) s.t z⟩
 | thr T=>obtain⟨W,hw,z⟩:=h;exact⟨W,λa w=>⟨(hw a w).1,let ⟨o,e⟩:=(hw a w).2;⟨o,s.s a o e (hw a w).1⟩⟩,T.to (λa u f q=>⟨f,s.s a u q f⟩) (λa u w q=>⟨w,s.s a u q (hw a w).1⟩) s.t z⟩
theorem Seen.stp{K:Qa}{O:Ob}{H H':Hp}{σ:St}{ρ:DSt}(S:Seen K O H σ ρ)(s:Stp O H H'):Seen K O H' σ ρ :=
 ⟨S.ok,s.p S.p,λi r e=>let ⟨v,h1,h2⟩:=S.at_ i r e;⟨v,h1,h2.stp s⟩,S.len⟩
def Out(K:Qa)(O:Ob)(H H':Hp)(v:V):R->Prop
 | .o d=>Is K 3.7 H' v d
 | .n ds=>∃a xs,v = .ref a/\H a=none/\H' a=some 4.1/\IsAll K 3.7 H' xs ds
theorem Out.is{K:Qa}{O:Ob}{H H':Hp}{v:V}{r:R}(ok:O.Ok)(p:O.P H)(h:Out K O H H' v r):Is K 3.7 H' v r.d:=by
 cases r with
 | o d=>exact h
 | n ds=>
   obtain⟨a,xs,rfl,hn,e,q⟩:=h;exact .list (λm=>by obtain⟨o,z⟩:=ok.here H a p m;rw[hn] at z;cases z) e q
def ED(K:Qa)(O:Ob)(t:TE)(f:DE):Prop :=
 ∀(σ:St) (H:Hp) (ρ:DSt) (Q:VK) (Qd:R->Prop),Seen K O H σ ρ->f ρ Qd->(∀v H' r,Stp O H H'->Out K O H H' v r->Qd r->Q v H')->t σ H Q
def TD(K:Qa)(O:Ob)(t:TT)(f:DT):Prop :=
 ∀(σ:St) (H:Hp) (ρ:DSt) (Q:Bool->Hp->Prop) (Qd:Bool->Prop),Seen K O H σ ρ->f ρ Qd->(∀b H',Stp O H H'->Qd b->Q b H')->t σ H Q
def AD(K:Qa)(O:Ob)(t:TA)(f:DA):Prop :=
 ∀(σ:St) (H:Hp) (ρ:DSt) (Q:List V->Hp->Prop) (Qd:List GG->Prop),Seen K O H σ ρ->f ρ Qd->(∀vs H' ds,Stp O H H'->IsAll K 3.7 H' vs ds->Qd ds->Q vs H')->t σ H Q
section
variable {K:Qa}{O:Ob}
def cD(d:GG):DE:=λ_ Q=>Q (.o d)
theorem z8b{i:Int}:ED K O (tC (.int i)) (cD (.int i)):=λσ H ρ Q Qd S h k=>k _ H (.o (.int i)) 3.0 (Is.int i) h
theorem z6h: ED K O (tC (.str x)) (cD (.str x)):=λσ H ρ Q Qd S h k=>k _ H (.o (.str x)) 3.0 (Is.str x) h
theorem z9w{b:Bool}:ED K O (tC (.bl b)) (cD (.bool b)):=λσ H ρ Q Qd S h k=>k _ H (.o (.bool b)) 3.0 (Is.bool b) h
theorem z8k:ED K O (tC .non) (cD .none):=λσ H ρ Q Qd S h k=>k _ H (.o .none) 3.0 Is.none h
def seeR:DV->Option GG
 | .im d=>some d
 | .own ds=>some (.list ds)
 | .ob=>none
 | .scr _=>none
 | .dct _=>none
 | .gen _ _=>none
 | .rd _ _=>none
 | .exc _ _ _=>none
 | .thg _=>none
 | .thr _=>none
def vD(i:Nat):DE:=λρ Q=>∃r d,ρ[i]? = some (some r)/\seeR r=some d/\Q (.o d)
theorem z7q{i:Nat}:ED K O (tVar i) (vD i):=λσ H ρ Q Qd S h k=>by
 obtain⟨r,d,e,e2,h⟩:=h;obtain⟨v,hv,sv⟩:=S.at_ i r e;refine⟨v,hv,k _ H _ 3.0 ?_ h⟩
 cases r with
 | im d'=>cases e2;exact sv
 | own ds=>cases e2;exact sv
 | ob=>cases e2
 | scr n=>cases e2
 | dct ks=>cases e2
 | gen f ds=>cases e2
 | rd f ds=>cases e2
 | exc C ns ds=>cases e2
 | thg T=>cases e2
 | thr T=>cases e2
def OpD(K:Qa)(O:Ob)(r:R2)(f:GG->GG->2.7->Prop):Prop :=
 ∀(H:Hp) (x y:V) (d e:GG) (Q:VK) (Qd:R->Prop),O.Ok->O.P H->Is K 3.7 H x d->Is K 3.7 H y e->f d e Qd->(∀v H' r,Stp O H H'->Out K O H H' v r->Qd r->Q v H')->r x y H Q
theorem Out.ahead(ok:O.Ok)(p:O.P H)(s1:Stp O H H1)(h:Out K O H1 H2 v r):Out K O H H2 v r:=by
 cases r with
 | o d=>exact h
 | n ds=>
   obtain⟨a,xs,rfl,hn,e,q⟩:=h;have m:¬O.M a:=λm=>by obtain⟨o,z⟩:=ok.here H1 a (s1.p p) m;rw[hn] at z;cases z
   exact⟨a,xs,rfl,s1.s.free m hn,e,q⟩
def opDE(f:GG->GG->2.7->Prop)(fa fb:DE):DE:=λρ Q=>fa ρ λa=>fb ρ λb=>f a.d b.d Q
theorem zmp(hr:OpD K O r f)(ha:ED K O ta fa)(hb:ED K O tb fb):ED K O (tOp r ta tb) (opDE f fa fb):=λσ H ρ Q Qd S h k=>by
 refine ha σ H ρ _ _ S h λv H1 a s1 o1 h1=>?_;refine hb σ H1 ρ _ _ (S.stp s1) h1 λw H2 b s2 o2 h2=>?_;have p1:=s1.p S.p;refine hr H2 v w a.d b.d _ _ S.ok (s2.p p1) (Is.stp s2 4.7 4.7 (o1.is S.ok S.p)) (o2.is S.ok p1) h2 λz H3 c s3 o3 h3=>?_;exact k z H3 c ((s1.trans s2).trans s3) (Out.ahead S.ok S.p 6.0 o3) h3
def fn2(F:GG->GG->Option R):GG->GG->2.7->Prop:=λa b Q=>∃r,F a b=some r/\Q r
def bD(f:DE):DT:=λρ Q=>f ρ λr=>∃b,r.d = .bool b/\Q b
theorem z6o(h:ED K O t f):TD K O (zfx t) (bD f):=λσ H ρ Q Qd S hf k=>by
 refine h σ H ρ _ _ S hf λv H1 r s1 o1 zz=>?_;obtain⟨b,e,q⟩:=zz;have i:=o1.is S.ok S.p;rw[e] at i;cases i;exact⟨b,rfl,k b H1 s1 q⟩
theorem zrj(h:ED K O t f):TD K O (tB t) (bD f):=λσ H ρ Q Qd S hf k=>by
 refine h σ H ρ _ _ S hf λv H1 r s1 o1 zz=>?_;obtain⟨b,e,q⟩:=zz;have i:=o1.is S.ok S.p;rw[e] at i;cases i;exact⟨b,rfl,k b H1 s1 q⟩
def andT(f g:DT):DT:=λρ Q=>f ρ λb=>if b=true then g ρ Q else Q false
def orT(f g:DT):DT:=λρ Q=>f ρ λb=>if b=true then Q true else g ρ Q
def notT(f:DT):DT:=λρ Q=>f ρ λb=>Q (!b)
theorem z5v(h:TD K O t f)(h':TD K O u g):TD K O (tAnd t u) (andT f g):=λσ H ρ Q Qd S hf k=>by
 refine h σ H ρ _ _ S hf λb H1 s1 q=>?_
 cases b with
 | true=>exact h' σ H1 ρ _ _ (S.stp s1) q λc H2 s2 q2=>k c H2 6.0 q2
 | false=>exact k false H1 s1 q
theorem yac(h:TD K O t f)(h':TD K O u g):TD K O (tOr t u) (orT f g):=λσ H ρ Q Qd S hf k=>by
 refine h σ H ρ _ _ S hf λb H1 s1 q=>?_
 cases b with
 | false=>exact h' σ H1 ρ _ _ (S.stp s1) q λc H2 s2 q2=>k c H2 6.0 q2
 | true=>exact k true H1 s1 q
theorem z7e(h:TD K O t f):TD K O (tNot t) (notT f):=λσ H ρ Q Qd S hf k=>h σ H ρ _ _ S hf λb H1 s1 q=>k (!b) H1 s1 q
def andV(f g:DE):DE:=λρ Q=>f ρ λr=>∃b,r.d = .bool b/\if b=true then g ρ Q else Q (.o (.bool false))
def orV(f g:DE):DE:=λρ Q=>f ρ λr=>∃b,r.d = .bool b/\if b=true then Q (.o (.bool true)) else g ρ Q
def notV(f:DE):DE:=λρ Q=>f ρ λr=>∃b,r.d = .bool b/\Q (.o (.bool (!b)))
theorem z2b(h:ED K O t f)(h':ED K O u g):ED K O (z1h t u) (andV f g):=λσ H ρ Q Qd S hf k=>by
 refine h σ H ρ _ _ S hf λv H1 r s1 o1 zz=>?_;obtain⟨b,e,q⟩:=zz;have i:=o1.is S.ok S.p;rw[e] at i;cases i;refine⟨b,rfl,?_⟩
 cases b with
 | true=>exact h' σ H1 ρ _ _ (S.stp s1) q λc H2 r s2 o2 q2=>k c H2 r 6.0 (o2.ahead S.ok S.p s1) q2
 | false=>exact k (.bl false) H1 (.o (.bool false)) s1 (.bool false) q
theorem z7g(h:ED K O t f)(h':ED K O u g):ED K O (tOrV t u) (orV f g):=λσ H ρ Q Qd S hf k=>by
 refine h σ H ρ _ _ S hf λv H1 r s1 o1 zz=>?_;obtain⟨b,e,q⟩:=zz;have i:=o1.is S.ok S.p;rw[e] at i;cases i;refine⟨b,rfl,?_⟩
 cases b with
 | false=>exact h' σ H1 ρ _ _ (S.stp s1) q λc H2 r s2 o2 q2=>k c H2 r 6.0 (o2.ahead S.ok S.p s1) q2
 | true=>exact k (.bl true) H1 (.o (.bool true)) s1 (.bool true) q
theorem z2m(h:ED K O t f):ED K O (z0s t) (notV f):=λσ H ρ Q Qd S hf k=>by
 refine h σ H ρ _ _ S hf λv H1 r s1 o1 zz=>?_;obtain⟨b,e,q⟩:=zz;have i:=o1.is S.ok S.p;rw[e] at i;cases i;exact⟨b,rfl,k _ H1 (.o (.bool (!b))) s1 (.bool _) q⟩
def aNil:DA:=λ_ Q=>Q []
def zdq(f:DE)(g:DA):DA:=λρ Q=>f ρ λr=>g ρ λds=>Q (r.d::ds)
theorem z7a:AD K O tNil aNil:=λσ H ρ Q Qd S h k=>k [] H [] 3.0 .nil h
theorem z1p(h:ED K O t f)(h':AD K O u g):AD K O (zar t u) (zdq f g):=λσ H ρ Q Qd S hf k=>by
 refine h σ H ρ _ _ S hf λv H1 r s1 o1 q=>?_;refine h' σ H1 ρ _ _ (S.stp s1) q λvs H2 ds s2 o2 q2=>?_;exact k (v::vs) H2 (r.d::ds) 6.0 (.cons (Is.stp s2 4.7 4.7 (o1.is S.ok S.p)) o2) q2
def tupD(g:DA):DE:=λρ Q=>g ρ λds=>ds.length<=sizeLine/\Q (.o (.tuple ds))
def lstD(g:DA):DE:=λρ Q=>g ρ λds=>ds.length<=sizeLine/\Q (.n ds)
theorem z8j(h:AD K O u g):ED K O (tTup u) (tupD g):=λσ H ρ Q Qd S hf k=>by
 refine h σ H ρ _ _ S hf λvs H1 ds s1 o1 ⟨z,q⟩=>⟨by rw[o1.length];exact z,λp hp=>?_⟩;have s2:Stp O H1 (upd H1 p (.tup vs)):=.new S.ok hp _;exact k _ _ (.o (.tuple ds)) 6.0 (.tuple (.of zae) (o1.stp s2 4.7 4.7)) q
theorem z8w(h:AD K O u g):ED K O (tLst u) (lstD g):=λσ H ρ Q Qd S hf k=>by
 refine h σ H ρ _ _ S hf λvs H1 ds s1 o1 ⟨z,q⟩=>⟨by rw[o1.length];exact z,λp hp=>?_⟩;have s2:Stp O H1 (upd H1 p (.lst vs)):=.new S.ok hp _;have m:¬O.M p:=λm=>by obtain⟨o,z⟩:=S.ok.here H1 p (s1.p S.p) m;rw[hp] at z;cases z
 exact k _ _ (.n ds) 6.0 ⟨p,vs,rfl,s1.s.free m hp,zae,o1.stp s2 4.7 4.7⟩ q
def zg9(K:Qa)(O:Ob)(r:List V->Hp->VK->Prop)(f:List GG->2.7->Prop):Prop :=
 ∀(H:Hp) (vs:3.3) (ds:2.3) (Q:VK) (Qd:R->Prop),O.Ok->O.P H->IsAll K 3.7 H vs ds->f ds Qd->(∀v H' r,Stp O H H'->Out K O H H' v r->Qd r->Q v H')->r vs H Q
def zdd(f:List GG->2.7->Prop)(g:DA):DE:=λρ Q=>g ρ λds=>f ds Q
theorem znw(hr:zg9 K O r f)(h:AD K O u g):ED K O (tCB r u) (zdd f g):=λσ H ρ Q Qd S hf k=>by
 refine h σ H ρ _ _ S hf λvs H1 ds s1 o1 q=>?_;exact hr H1 vs ds _ _ S.ok (s1.p S.p) o1 q λv H2 r s2 o2 q2=>k v H2 r 6.0 (o2.ahead S.ok S.p s1) q2
def fn1(F:List GG->Option R):List GG->2.7->Prop:=λds Q=>∃r,F ds=some r/\Q r
end
abbrev DG:=GG->DSt->(DSt->Prop)->Prop
def gN(i:Nat):DG:=λd ρ Q=>Q (ρ.set i (some (.im d)))
def gTD:List Nat->List GG->DSt->(DSt->Prop)->Prop
 | [],[],ρ,Q=>Q ρ
 | i::is,d::ds,ρ,Q=>gTD is ds (ρ.set i (some (.im d))) Q
 | _,_,_,_=>False
def gT(is:0.7):DG:=λd ρ Q=>∃ds,d = .tuple ds/\gTD is ds ρ Q
def GS(K:Qa)(O:Ob)(t:TG)(g:DG):Prop :=
 ∀(σ:St) (H:Hp) (ρ:DSt) (v:V) (d:GG) (Q:St->Hp->Prop) (Qd:DSt->Prop),Seen K O H σ ρ->Is K 3.7 H v d->g d ρ Qd->(∀σ' ρ',Seen K O H σ' ρ'->Qd ρ'->Q σ' H)->t v σ H Q
section
variable {K:Qa}{O:Ob}
theorem Seen.set{i:Nat}(S:Seen K O H σ ρ)(h:SeenV K O H v r):Seen K O H (σ.set i (some v)) (ρ.set i (some r)):=by
 have hl:=S.len;refine⟨S.ok,S.p,λj r' e=>?_,by rw[ZT,ZT];exact S.len⟩
 by_cases hj:i=j
 .subst hj
  have hi:i<ρ.length:=by
   rcases Jj i ρ.length with z|z
   .exact z
   .rw[QD (by simpa using z)] at e;cases e
  rw[Zf hi] at e;cases e;exact⟨v,Zf 0.0,h⟩
 .rw[Zs hj] at e;obtain⟨w,h1,h2⟩:=S.at_ j r' e;exact⟨w,by rw[Zs hj];exact h1,h2⟩
theorem z4j{i:Nat}:GS K O (zav i) (gN i):=λσ H ρ v d Q Qd S i h k=>k _ _ (S.set (r:=.im d) i) h
def GSs(K:Qa)(O:Ob)(t:TGs)(is:0.7):Prop :=
 ∀(σ:St) (H:Hp) (ρ:DSt) (vs:3.3) (ds:2.3) (Q:St->Hp->Prop) (Qd:DSt->Prop),Seen K O H σ ρ->IsAll K 3.7 H vs ds->gTD is ds ρ Qd->(∀σ' ρ',Seen K O H σ' ρ'->Qd ρ'->Q σ' H)->t vs σ H Q
theorem z4q:GSs K O gNil []:=λσ H ρ vs ds Q Qd S i h k=>by
 cases i with
 | nil=>exact⟨rfl,k σ ρ S h⟩
 | cons _ _=>exact h.elim
theorem zy8{i:Nat}{is:0.7}(ht:GSs K O t is):GSs K O (zjc (zav i) t) (i::is):=λσ H ρ vs ds Q Qd S h q k=>by
 cases h with
 | nil=>exact q.elim
 | cons h1 h2=>exact⟨_,_,rfl,ht _ H _ _ _ _ _ (S.set (r:=.im _) h1) h2 q k⟩
theorem zla:∀{is:0.7} {ds:2.3} {ρ:DSt} {Q:DSt->Prop},gTD is ds ρ Q->ds.length=is.length
 | [],[],_,_,_=>rfl
 | [],_::_,_,_,h=>h.elim
 | _::_,[],_,_,h=>h.elim
 | _::is,_::ds,ρ,Q,h=>by
   have e:=zla (is:=is) (ds:=ds) (Q:=Q) h;rw[Ql,Ql,e]
theorem z8u{is:0.7}{n:Nat}(hn:is.length=n)(ht:GSs K O t is):GS K O (gTup K n t) (gT is):=λσ H ρ v d Q Qd S i h k=>by
 obtain⟨ds,rfl,h⟩:=h
 cases i with
 | tuple q r=>exact⟨_,_,rfl,q,by rw[r.length,zla h];exact hn,ht σ H ρ _ ds Q Qd S r h k⟩
structure Walk(K:Qa)(O:Ob)(H H1:Hp)(J:It)(ds:2.3)(B:3.4):Prop where
 st:Stp O H H1
 hb:∀a,B a->¬O.M a/\∃o,H1 a=some o
 stop:∀H2 i,(∀a o,B a->H1 a=some o->H2 a=some o)->TupStay H1 H2->ds.length<=i->J.stop i H2
 item:∀H2 i d,(∀a o,B a->H1 a=some o->H2 a=some o)->TupStay H1 H2->ds[i]? = some d->(flat d=true\/∀a o,H1 a=some o->¬O.M a->H2 a=some o) ->
  J.go i H2/\∀x H3,J.yld i H2 x H3->Same H2 H3/\Is K (λa=>¬O.M a/\(flat d=true\/∃o,H1 a=some o)) H3 x d
abbrev DI:=DSt->(Bool->List GG->Prop)->Prop
def SrcS(K:Qa)(O:Ob)(wi:TI)(f:DI):Prop :=
 ∀(σ:St) (H:Hp) (ρ:DSt) (R:It->Hp->Prop) (Qd:Bool->List GG->Prop),Seen K O H σ ρ->f ρ Qd ->
   (∀(J:It) (H1:Hp) (ds:2.3) (B:3.4) (fr:Bool),Walk K O H H1 J ds B->(fr=true->∀a,B a->H a=none)->Qd fr ds->R J H1)->wi σ H R
end
def zbd(h:Nat)(g:DG)(ft:DT)(fe:DE)(ρ:DSt)(Q:List GG->Prop):List GG->List GG->Prop
 | [],acc=>Q acc
 | d::ds,acc=>g d (QO h none++ρ) λρ2=>ft ρ2 λb=>if b=true then fe ρ2 λr=>acc.length<sizeLine/\zbd h g ft fe ρ Q ds (acc ++ [r.d]) else zbd h g ft fe ρ Q ds acc
def zs1(h:Nat)(f:DI)(g:DG)(ft:DT)(fe:DE):DE:=λρ Q=>f ρ λ_ ds=>zbd h g ft fe ρ (λes=>Q (.n es)) ds []
section
variable {K:Qa}{O:Ob}
theorem zzj(S:Seen K O H σ ρ)(h:Nat):Seen K O H (QO h none++σ) (QO h none++ρ):=by
 refine⟨S.ok,S.p,λi r e=>?_,by rw[Qj,Qj,Zh,Zh,S.len]⟩
 by_cases hi:i<h
 .rw[QA 5.2,ZA,NI hi] at e;cases e
 .rw[QF (by simpa using Jr hi),Zh] at e;obtain⟨v,h1,h2⟩:=S.at_ _ r e;exact⟨v,by rw[QF (by simpa using Jr hi),Zh];exact h1,h2⟩
theorem zwn(S:Seen K O H σ ρ)(hD:H D=none):Seen K (O.plus D 4.1) (upd H D 4.1) σ ρ:=by
 have gr:Same H (upd H D 4.1):=same_new hD _;refine⟨S.ok.plus D xs,⟨S.ok.grow _ _ gr S.p,zae⟩,λi r e=>?_,S.len⟩;obtain⟨v,h1,h2⟩:=S.at_ i r e
 have go:∀d,Is K 3.7 H v d->Is K (unM (O.plus D 4.1)) (upd H D 4.1) v d:=λd z=>
  z.to (λa ys f q=>⟨λm=>(by
   rcases m with m|rfl
   .exact f m
   .rw[hD] at q;cases q),gr _ _ q⟩) λa ys q=>SqT.stay (h:=q) λb u _ hb=>gr b u hb
 refine⟨v,h1,?_⟩
 cases r with
 | im d=>exact go d h2
 | own ds=>exact go _ h2
 | ob=>exact h2
 | scr n=>exact IsS.to (λa u f q=>⟨λm=>(by
  rcases m with m|rfl
  .exact f m
  .rw[hD] at q;cases q),gr _ _ q⟩) h2
 | dct ks=>
   obtain⟨a,n,h2⟩:=h2;refine⟨a,λm=>?_,h2.to λu q=>gr _ _ q⟩;rcases m with m|rfl
   .exact n m
   .obtain⟨_,kvs,q,_⟩:=h2;rw[hD] at q;cases q
 | gen f ds=>
   obtain⟨a,ys,e,n,q,z⟩:=h2
   refine⟨a,ys,e,λm=>?_,gr _ _ q,z.to (λa ys f q=>⟨λm=>(by
    rcases m with m|rfl
    .exact f m
    .rw[hD] at q;cases q),gr _ _ q⟩) λa ys q=>SqT.stay (h:=q) λb u _ hb=>gr b u hb⟩
   rcases m with m|rfl
   .exact n m
   .rw[hD] at q;cases q
 | rd f ds=>
   obtain⟨a,ys,e,n,q,z⟩:=h2
   refine⟨a,ys,e,λm=>?_,gr _ _ q,z.to (λa ys f q=>⟨λm=>(by
    rcases m with m|rfl
    .exact f m
    .rw[hD] at q;cases q),gr _ _ q⟩) λa ys q=>SqT.stay (h:=q) λb u _ hb=>gr b u hb⟩
   rcases m with m|rfl
   .exact n m
   .rw[hD] at q;cases q
 | exc C ns ds=>
   obtain⟨ys,e,z⟩:=h2
   have mv:∀a u,unM O a->H a=some u->unM (O.plus D 4.1) a/\upd H D 4.1 a=some u:=λa u f q=>⟨λm=>(by
    rcases m with m|rfl
    .exact f m
    .rw[hD] at q;cases q),gr _ _ q⟩
   exact⟨ys,e.to mv,z.to (λa ys f q=>mv a _ f q) λa ys q=>SqT.stay (h:=q) λb u _ hb=>gr b u hb⟩
 | thg T=>
   obtain⟨W,hw,z⟩:=h2
   exact⟨W,λa w=>⟨λm=>(by
    obtain⟨n,o,q⟩:=hw a w;rcases m with m|rfl
    .exact n m
    .rw[hD] at q;cases q),let ⟨o,q⟩:=(hw a w).2;⟨o,gr _ _ q⟩⟩,T.to (λa u f q=>⟨λm=>(by
    rcases m with m|rfl
    .exact f m
    .rw[hD] at q;cases q),gr _ _ q⟩) (λa u w q=>⟨w,gr _ _ q⟩) (λb u _ hb=>gr b u hb) z⟩
 | thr T=>
   obtain⟨W,hw,z⟩:=h2
   exact⟨W,λa w=>⟨λm=>(by
    obtain⟨n,o,q⟩:=hw a w;rcases m with m|rfl
    .exact n m
    .rw[hD] at q;cases q),let ⟨o,q⟩:=(hw a w).2;⟨o,gr _ _ q⟩⟩,T.to (λa u f q=>⟨λm=>(by
    rcases m with m|rfl
    .exact f m
    .rw[hD] at q;cases q),gr _ _ q⟩) (λa u w q=>⟨w,gr _ _ q⟩) (λb u _ hb=>gr b u hb) z⟩
theorem zq5{h:Nat}(hs:SrcS K O wi f)(hg:∀O':Ob,GS K O' tg g)
 (hf:∀(D:Addr) (xs:3.3),¬O.M D->TD K (O.plus D 4.1) tf ft) (he:∀(D:Addr) (xs:3.3),¬O.M D->ED K (O.plus D 4.1) te fe):ED K O (zfl h wi tg tf te) (zs1 h f g ft fe):=by
 intro σ H ρ Q Qd S hq k;refine hs σ H ρ _ _ S hq λJ H1 ds B fr W _ hgo D hD=>?_;have S1:=S.stp W.st;have nM:¬O.M D:=λm=>by obtain⟨o,z⟩:=S.ok.here H1 D S1.p m;rw[hD] at z;cases z
 have aD:∀a o,H1 a=some o->a≠D:=λa o e z=>by rw[z,hD] at e;cases e
 refine⟨λi m ys H2=>m=ds.length-i/\i<=ds.length/\H2 D=some (.lst ys)/\(∀a o,H1 a=some o->¬O.M a->H2 a=some o)/\TupStay H1 H2/\Seen K (O.plus D (.lst ys)) H2 σ ρ /\
  ∃acc,IsAll K (λa=>¬(O.M a\/a=D)) H2 ys acc/\zbd h g ft fe ρ (λes=>Qd (.n es)) (ds.drop i) acc,⟨ds.length,rfl,Q6 _,zae,λa o e _=>by rw[zac (aD a o e)];exact e,λa u _ e=>by rw[zac (aD a u e)];exact e,zwn S1 hD,[],.nil,by simpa using hgo⟩,?_⟩
 rintro i m ys H2 ⟨rfl,hi,hDy,kp,tst,S2,acc,hacc,go⟩;refine⟨hDy,?_⟩;have kB:∀a o,B a->H1 a=some o->H2 a=some o:=λa o b e=>kp a o e (W.hb a b).1
 by_cases hlt:i<ds.length
 .right;have hd:ds[i]? = some ds[i]:=Qb hlt;rw[QX hlt] at go;obtain⟨hgo1,hy⟩:=W.item H2 i ds[i] kB tst hd (.inr kp);refine⟨hgo1,λx H3 y=>?_⟩;obtain⟨sm,ix⟩:=hy x H3 y;have st3:Stp (O.plus D (.lst ys)) H2 H3:=.same S2.ok sm;have S3:=S2.stp st3
  have ix':Is K (unM (O.plus D (.lst ys))) H3 x ds[i]:=by
   by_cases hfl:flat ds[i]=true
   .exact Is.flat (TupStay.refl H3) ix hfl
   .exact ix.weak λa ha mm=>by
     rcases mm with mm|mm
     .exact ha.1 mm
     .rcases ha.2 with z|⟨o,z⟩
      .exact hfl z
      .exact aD a o z mm
  refine hg _ _ H3 _ x ds[i] _ _ (zzj S3 h) ix' go λσ2 ρ2 Sg q=>?_;refine hf D ys nM σ2 H3 ρ2 _ _ Sg q λb H4 st4 q4=>?_;have st34:=st3.trans st4;have acc4:∀{H':Hp},Stp (O.plus D (.lst ys)) H2 H'->IsAll K (λa=>¬(O.M a\/a=D)) H' ys acc:=λst=>hacc.stp st (λ_ z=>z) (λ_ z=>z)
  cases b with
  | false=>
    refine⟨ds.length-(i+1),by lia,rfl,hlt,st34.s D _ hDy |> λz=>(st34.p S2.p).2,λa o e n=>?_,λa u hu e=>st34.t a u hu (tst a u hu e),S2.stp st34,acc,acc4 st34,q4⟩
    exact st34.s a o (kp a o e n) λmm=>by
     rcases mm with mm|mm
     .exact n mm
     .exact aD a o e mm
  | true=>
    refine he D ys nM σ2 H4 ρ2 _ _ (Sg.stp st4) q4 λyv H5 r st5 o5 zz=>?_;obtain⟨hz,q5⟩:=zz;have st25:=st34.trans st5;have S5:=S2.stp st25;have hD5:H5 D=some (.lst ys):=(st25.p S2.p).2;have iy:=o5.is (Sg.stp st4).ok (Sg.stp st4).p;have a5:=acc4 st25;refine⟨hD5,by rw[hacc.length];exact hz,ds.length-(i+1),by lia,rfl,hlt,zae,λa o e n=>?_,λa u hu e=>?_,?_,acc ++ [r.d],?_,q5⟩
    .rw[zac (aD a o e)]
     exact st25.s a o (kp a o e n) λmm=>by
      rcases mm with mm|mm
      .exact n mm
      .exact aD a o e mm
    .rw[zac (aD a u e)];exact st25.t a u hu (tst a u hu e)
    .have p5:O.P (upd H5 D (.lst (ys ++ [yv]))):=S.ok.loc H5 _ (λa m=>zac λz=>nM (z ▸ m)) S5.p.1;refine⟨S.ok.plus D _,⟨p5,zae⟩,λj r' e=>?_,S5.len⟩;obtain⟨v',h1,h2⟩:=S5.at_ j r' e
     have go:∀d,Is K (unM (O.plus D (.lst ys))) H5 v' d->Is K (unM (O.plus D (.lst (ys ++ [yv])))) (upd H5 D (.lst (ys ++ [yv]))) v' d:=λd z=>
      z.to (λa xs fa qa=>⟨fa,by rw[zac λz=>fa (.inr z)];exact qa⟩) λa xs qa=>SqT.stay (h:=qa) λb u hu hb=>by
       rw[zac λz=>?_]
       .exact hb
       .obtain⟨us,e1|⟨o',e1⟩⟩:=hu <;> (rw[z,hD5] at hb;cases hb;cases e1)
     refine⟨v',h1,?_⟩
     cases r' with
     | im d=>exact go d h2
     | own es=>exact go _ h2
     | ob=>exact h2
     | scr n=>exact IsS.to (λa u fa qa=>⟨fa,by rw[zac λz=>fa (.inr z)];exact qa⟩) h2
     | dct ks=>obtain⟨a,fa,h2⟩:=h2;exact⟨a,fa,h2.to λu qa=>by rw[zac λz=>fa (.inr z)];exact qa⟩
     | gen f ds=>
       obtain⟨a,xs,e,fa,q,z⟩:=h2;refine⟨a,xs,e,fa,by rw[zac λz=>fa (.inr z)];exact q,z.to (λa xs fa qa=>⟨fa,by rw[zac λz=>fa (.inr z)];exact qa⟩) λa xs qa=>SqT.stay (h:=qa) λb u hu hb=>?_⟩;rw[zac λz=>?_]
       .exact hb
       .obtain⟨us,e1|⟨o',e1⟩⟩:=hu <;> (rw[z,hD5] at hb;cases hb;cases e1)
     | rd f ds=>
       obtain⟨a,xs,e,fa,q,z⟩:=h2;refine⟨a,xs,e,fa,by rw[zac λz=>fa (.inr z)];exact q,z.to (λa xs fa qa=>⟨fa,by rw[zac λz=>fa (.inr z)];exact qa⟩) λa xs qa=>SqT.stay (h:=qa) λb u hu hb=>?_⟩;rw[zac λz=>?_]
       .exact hb
       .obtain⟨us,e1|⟨o',e1⟩⟩:=hu <;> (rw[z,hD5] at hb;cases hb;cases e1)
     | exc C ns ds=>
       obtain⟨xs,e,z⟩:=h2;have mv:∀a u,unM (O.plus D (.lst ys)) a->H5 a=some u->unM (O.plus D (.lst (ys ++ [yv]))) a/\upd H5 D (.lst (ys ++ [yv])) a=some u:=λa u fa qa=>⟨fa,by rw[zac λz=>fa (.inr z)];exact qa⟩;refine⟨xs,e.to mv,z.to (λa xs fa qa=>mv a _ fa qa) λa xs qa=>SqT.stay (h:=qa) λb u hu hb=>?_⟩;rw[zac λz=>?_]
       .exact hb
       .obtain⟨us,e1|⟨o',e1⟩⟩:=hu <;> (rw[z,hD5] at hb;cases hb;cases e1)
     | thg T=>
       obtain⟨W,hw,z⟩:=h2;refine⟨W,λa w=>⟨(hw a w).1,let ⟨o,q⟩:=(hw a w).2;⟨o,by rw[zac λz=>(hw a w).1 (.inr z)];exact q⟩⟩,T.to (λa u fa qa=>⟨fa,by rw[zac λz=>fa (.inr z)];exact qa⟩) (λa u w q=>⟨w,by rw[zac λz=>(hw a w).1 (.inr z)];exact q⟩) (λb u hu hb=>?_) z⟩;rw[zac λz=>?_]
       .exact hb
       .obtain⟨us,e1|⟨o',e1⟩⟩:=hu <;> (rw[z,hD5] at hb;cases hb;cases e1)
     | thr T=>
       obtain⟨W,hw,z⟩:=h2;refine⟨W,λa w=>⟨(hw a w).1,let ⟨o,q⟩:=(hw a w).2;⟨o,by rw[zac λz=>(hw a w).1 (.inr z)];exact q⟩⟩,T.to (λa u fa qa=>⟨fa,by rw[zac λz=>fa (.inr z)];exact qa⟩) (λa u w q=>⟨w,by rw[zac λz=>(hw a w).1 (.inr z)];exact q⟩) (λb u hu hb=>?_) z⟩;rw[zac λz=>?_]
       .exact hb
       .obtain⟨us,e1|⟨o',e1⟩⟩:=hu <;> (rw[z,hD5] at hb;cases hb;cases e1)
    .have mv:∀{vs es},IsAll K (λa=>¬(O.M a\/a=D)) H5 vs es->IsAll K (λa=>¬(O.M a\/a=D)) (upd H5 D (.lst (ys ++ [yv]))) vs es:=λz=>
      z.to (λa xs fa qa=>⟨fa,by rw[zac λz=>fa (.inr z)];exact qa⟩) λa xs qa=>SqT.stay (h:=qa) λb u hu hb=>by
       rw[zac λz=>?_]
       .exact hb
       .obtain⟨us,e1|⟨o',e1⟩⟩:=hu <;> (rw[z,hD5] at hb;cases hb;cases e1)
     exact mv (a5.snoc iy)
 .left;have e:i=ds.length:=by lia
  subst e;rw[Js] at go;refine⟨W.stop H2 _ kB tst (Qg _),k _ H2 (.n acc) ?_ ⟨D,ys,rfl,W.st.s.free nM hD,hDy,hacc.weak λa z m=>z (.inl m)⟩ go⟩;refine W.st.trans ⟨λa o e n=>kp a o e n,λ_=>S2.p.1,tst⟩
end
section
variable {K:Qa}{O:Ob}
theorem zkk{i:Nat}{d:GG}(h:IsAll K 3.7 H1 xs ds)(hd:ds[i]? = some d)(t:TupStay H1 H2)(c:flat d=true\/∀a o,H1 a=some o->¬O.M a->H2 a=some o):
 ∃v,xs[i]? = some v/\Is K (λa=>¬O.M a/\(flat d=true\/∃o,H1 a=some o)) H2 v d:=by
 obtain⟨v,hv,iv⟩:=h.get hd;refine⟨v,hv,?_⟩;rcases c with c|c
 .exact Is.flat t iv c
 .exact iv.to (λa ys f q=>⟨⟨f,.inr ⟨_,q⟩⟩,c a _ q f⟩) λa ys q=>SqT.stay (h:=q) t
def R.isN:R->Bool
 | .n _=>true
 | .o _=>false
def srcL(f:DE):DI:=λρ Q=>f ρ λr=>∃ds,r.d = .list ds/\Q r.isN ds
theorem zyj(h:ED K O t f):SrcS K O (zel K t) (srcL f):=λσ H ρ R Qd S hf k=>by
 refine h σ H ρ _ _ S hf λv H1 r st o1 zz=>?_;obtain⟨ds,e,q⟩:=zz;have i1:=o1.is S.ok S.p;rw[e] at i1
 cases i1 with
 | list f0 ha hs=>
   rename_i a xs
   refine⟨a,rfl,⟨xs,.of ha⟩,k (Itl K a) H1 ds (λb=>b=a) r.isN ⟨st,λb hb=>by subst hb;exact⟨f0,_,ha⟩,λH2 i kb _ hi=>?_,λH2 i d kb t2 hd c=>?_⟩ (λz b hb=>?_) q⟩
   .exact⟨xs,.of (kb a _ rfl ha),by rw[hs.length];exact hi⟩
   .obtain⟨w,hw,iw⟩:=zkk (O:=O) hs hd t2 c;have q2:SqL K H2 a xs:=.of (kb a _ rfl ha);refine⟨⟨xs,w,q2,hw⟩,λx H3 zz=>?_⟩;obtain⟨e3,y⟩:=zz;subst e3;have:=y xs q2;rw[hw] at this;cases this;exact⟨Same.refl _,iw⟩
   .subst hb
    cases r with
    | o d=>cases z
    | n es=>
      obtain⟨a',xs',e',hn,_⟩:=o1;cases e';exact hn
def srcT(f:DE):DI:=λρ Q=>f ρ λr=>∃ds,r.d = .tuple ds/\Q true ds
theorem z2v(h:ED K O t f):SrcS K O (iTup K t) (srcT f):=λσ H ρ R Qd S hf k=>by
 refine h σ H ρ _ _ S hf λv H1 r st o1 zz=>?_;obtain⟨ds,e,q⟩:=zz;have i1:=o1.is S.ok S.p;rw[e] at i1
 cases i1 with
 | tuple ha hs=>
   rename_i a xs
   refine⟨a,rfl,⟨xs,ha⟩,k (Itt K a) H1 ds (λ_=>False) true ⟨st,λb hb=>hb.elim,λH2 i kb t2 hi=>?_,λH2 i d kb t2 hd c=>?_⟩ (λz b hb=>hb.elim) q⟩
   .exact⟨xs,SqT.stay t2 ha,by rw[hs.length];exact hi⟩
   .obtain⟨w,hw,iw⟩:=zkk (O:=O) hs hd t2 c;have q2:SqT K H2 a xs:=SqT.stay t2 ha;refine⟨⟨xs,w,q2,hw⟩,λx H3 zz=>?_⟩;obtain⟨e3,y⟩:=zz;subst e3;have:=y xs q2;rw[hw] at this;cases this;exact⟨Same.refl _,iw⟩
def zge(lo:Int)(n:Nat):List GG:=(Q3 n).map λk=>.int (lo+(k:Nat))
theorem zmc{lo:Int}{n i:Nat}{d:GG}(h:(zge lo n)[i]? = some d):i<n/\d = .int (lo+(i:Nat)):=by
 unfold zge at h;rw[Qh] at h
 by_cases hi:i<n
 .rw[J4 hi] at h;cases h;exact⟨hi,rfl⟩
 .rw[QD 5.2] at h;cases h
theorem zvf(st:Stp O H H1)(lo:Int)(n:Nat):Walk K O H H1 (Itr lo n) (zge lo n) (λ_=>False) :=
 ⟨st,λb hb=>hb.elim,λH2 i _ _ hi=>(show n<=i by simpa[zge] using hi),λH2 i d _ t2 hd c=>by
  obtain⟨hi,rfl⟩:=zmc hd;refine⟨hi,λx H3 zz=>?_⟩;obtain⟨e3,y⟩:=zz;subst e3 y
  exact⟨Same.refl _,.int _⟩⟩
def zz9(g:DA):DI:=λρ Q=>g ρ λds=>∃j:Int,ds = [.int j]/\-(2 ^ 62)<=j/\j<2 ^ 62/\Q true (zge 0 j.toNat)
theorem zy1(h:AD K O t g):SrcS K O (zr1 t) (zz9 g):=λσ H ρ R Qd S hf k=>by
 refine h σ H ρ _ _ S hf λvs H1 ds st is zz=>?_;obtain⟨j,e,b1,b2,q⟩:=zz;subst e
 cases is with
 | cons i0 is=>
   cases is;cases i0;exact⟨j,rfl,b1,b2,k _ H1 _ _ true (zvf st 0 j.toNat) (λ_ _ hb=>hb.elim) q⟩
end
def sg(c:Nat):Str:=⟨#[c]⟩
def Its(x:Str):It:=⟨λi _=>i<x.cps.size,λi H v H'=>H'=H/\∃c,x.cps[i]? = some c/\v = .str (sg c),λi _=>x.cps.size<=i⟩
theorem zna{P:GK}{w:GM}{K:Qa}{tg:Expr}{it:Addr}{x:Str}{t:Tok}{ty:String}(hty:["enumerate", "zip", "dict_itemiterator", "dict_reverseitemiterator", "odict_iterator", "itertools.zip_longest", "itertools.pairwise"].contains ty=false)
 (W:∀A':GQ,A'.handled=none->Walks P w A' it [it] [it] x.cps.size (SignAt x) (λi h=>h.IsStrIter it ty x t i))
 (hself:∀(A:GQ) (i:Nat) (s:GJ) (Q:1.0) (E:1.0),s.heap.IsStrIter it ty x t i->Q (.ref it) s->wpAny 1.5 A (MN (.ref it)) Q E s) :
 Turn P w K tg (Its x) [it] it (λi h=>i<=x.cps.size/\h.IsStrIter it ty x t i) where
 mem:=by simp
 obj:=λi h st b hb=>by
  have e:b=it:=by simpa using hb
  subst e;obtain⟨_,o,e,c,d⟩:=st;exact⟨o,e,λv z=>by rw[d] at z;cases z⟩
 keep:=λi h h' st k=>⟨st.1,by
  obtain⟨_,o,e,c⟩:=st
  exact⟨o,k it 0.1 o e,c⟩⟩
 item:=by
  intro X hP hw hK hc i pins s σ H E I hf st hg;subst hP hw hK;obtain⟨f0,f1,f2,f3,f4,f5⟩:=hf it 0.1;refine(W X.A (I.ok.hd hc)).item i s _ _ hg st.2 λv h' tk hv st' kk=>?_;obtain⟨c,u,hcx,rfl⟩:=hv;have I1:Inv X pins σ H { s with heap:=h',toks:=tk }:=I.turned (λb o hb e=>kk b o (by simpa using hb) e) f0 f1 f3 f4 f5;obtain⟨o,e,hcl,hdt⟩:=id st';exact⟨_,rfl,zjq (s:={ s with heap:=h',toks:=tk }) e hcl hdt hty ⟨.str (sg c),H,I1,⟨u,rfl⟩,⟨rfl,c,hcx,rfl⟩,⟨hg,st'⟩,λb hb=>(hf b hb).1⟩⟩
 done:=by
  intro X hP hw hK hc i pins s σ H E I hf st hg;subst hP hw hK;obtain⟨f0,f1,f2,f3,f4,f5⟩:=hf it 0.1;have hi:i=x.cps.size:=Nat.le_antisymm st.1 hg;subst hi;exact(W X.A (I.ok.hd hc)).done s _ _ st.2 λh' tk kk=>⟨rfl,I.turned (λb o hb e=>kk b o (by simpa using hb) e) f0 f1 f3 f4 f5⟩
 self:=λA i s Q E st h=>hself A i s Q E st.2 h
def iStr(t:TE):TI:=λσ H R=>t σ H λv H1=>∃x,v = .str x/\R (Its x) H1
theorem z6z(hl:PE X l tl):PI X tg l (iStr tl):=by
 intro pins s σ H R I h;refine thn (hl pins s σ H _ I h) λv s1 zz=>?_;obtain⟨y,H1,I1,r1,q1⟩:=zz;obtain⟨x,e,q⟩:=q1;subst e;obtain⟨t,rfl⟩:=r1
 have fin:∀(o:Obj) (T:Nat->Heap->Prop),Turn X.prog X.w X.K tg (Its x) [s1.heap.objs.size] s1.heap.objs.size T->T 0 (s1.heap.push o)->PIE X pins σ tg R (.ref s1.heap.objs.size) { s1 with heap:=s1.heap.push o }:=λo T hT h0=>by
  refine⟨s1.heap.objs.size,[s1.heap.objs.size],T,Its x,H1,rfl,I1.kept (t':=s1.toks) λb o e=>Qf _ e,hT,h0,λb hb=>?_,q⟩;have e:b=s1.heap.objs.size:=by simpa using hb
  subst e;exact I1.fpOk (Qg _) (I1.hok.fresh (Qg _))
 cases ha:x.cps.all (· < 128)
 .exact wpAny_pyIter_wide ha (fin _ _ (zna 0.2 (λA' hA=>Walks.strWide hA _ x t) λ_ _ _ _ _ st h=>wpAny_pyIter_striter_wide st h) ⟨Q6 _,_,Qs _ rfl,rfl,rfl⟩)
 .exact wpAny_pyIter_ascii ha (fin _ _ (zna 0.2 (λA' hA=>Walks.strAscii hA _ x t) λ_ _ _ _ _ st h=>wpAny_pyIter_striter_ascii st h) ⟨Q6 _,_,Qs _ rfl,rfl,rfl⟩)
def sgs(x:Str):List GG:=x.cps.toList.map λc=>.str (sg c)
def srcS(f:DE):DI:=λρ Q=>f ρ λr=>∃x,r.d = .str x/\Q true (sgs x)
theorem z3k{K:Qa}{O:Ob}{t:TE}{f:DE}(h:ED K O t f):SrcS K O (iStr t) (srcS f):=λσ H ρ R Qd S hf k=>by
 refine h σ H ρ _ _ S hf λv H1 r st o1 zz=>?_;obtain⟨x,e,q⟩:=zz;have i1:=o1.is S.ok S.p;rw[e] at i1;cases i1;refine⟨x,rfl,k (Its x) H1 (sgs x) (λ_=>False) true ⟨st,λb hb=>hb.elim,λH2 i _ _ hi=>(show x.cps.size<=i by simpa[sgs] using hi),λH2 i d _ t2 hd c=>?_⟩ (λ_ _ hb=>hb.elim) q⟩;unfold sgs at hd;rw[Qh] at hd;obtain⟨n,hn,rfl⟩:=Q2.mp hd;have hn':x.cps[i]? = some n:=by simpa using hn
 have hi:i<x.cps.size:=by
  obtain⟨z,_⟩:=Vx.mp hn';exact z
 refine⟨hi,λy H3 zz=>?_⟩;obtain⟨e3,n',h1,h2⟩:=zz;subst e3 h2;rw[hn'] at h1;cases h1;exact⟨Same.refl _,.str _⟩
structure DEnds where
 nx:DSt->Prop
 rt:R->Prop
 bk:DSt->Prop:=λ_=>False
 ct:DSt->Prop:=λ_=>False
abbrev DS:=DEnds->DSt->Prop
def unO(O:Ob)(A:Nat->Addr->Prop):Addr->Prop:=λa=>¬O.M a/\∀j,¬A j a
def OwnO(o:HO):Prop:=(∀us,o≠.tup us/\∀o',o≠.frz o' (.tup us))/\∀o',o≠.frz o' (.own 0)
theorem OwnO.lst: OwnO 4.1:=⟨λ_=>⟨λz=>(nomatch z),λ_ z=>(nomatch z)⟩,λ_ z=>(nomatch z)⟩
theorem OwnO.ext: OwnO (.ext φ):=⟨λ_=>⟨λz=>(nomatch z),λ_ z=>(nomatch z)⟩,λ_ z=>(nomatch z)⟩
def RepV(K:Qa)(O:Ob)(A:Nat->Addr->Prop)(H:Hp)(i:Nat)(v:V):DV->Prop
 | .im d=>Is K (unO O A) H v d
 | .own ds=>∃a xs,v = .ref a/\A i a/\H a=some 4.1/\IsAll K (unO O A) H xs ds
 | .ob=>v=O.v
 | .scr n=>IsS K (unO O A) H v n
 | .dct ks=>∃a,A i a/\DkAt H v a ks
 | .gen f ds=>∃a xs,v = .ref a/\A i a/\H a=some (f a xs)/\IsAll K (unO O A) H xs ds
 | .rd f ds=>∃a xs,v = .ref a/\unO O A a/\H a=some (f a xs)/\IsAll K (unO O A) H xs ds
 | .exc C ns ds=>∃xs,ExAt (unO O A) H v C ns xs/\IsAll K (unO O A) H xs ds
 | .thg T=>T.R K (unO O A) (A i) H v
 | .thr T=>∃W:Addr->Prop,(∀a,W a->unO O A a/\∃o,H a=some o)/\T.R K (unO O A) W H v
structure Rep(K:Qa)(O:Ob)(H₀:Hp)(A:Nat->Addr->Prop)(H:Hp)(σ:St)(ρ:DSt):Prop where
 ok:O.Ok
 p:O.P H
 p0:O.P H₀
 st:Stp O H₀ H
 dis:∀i j a,A i a->A j a->i=j
 own:∀i a,A i a->H₀ a=none/\(∃o,H a=some o/\OwnO o)/\¬O.M a
 at_:∀(i:Nat) r,ρ[i]? = some (some r)->∃v,σ[i]? = some (some v)/\RepV K O A H i v r
 len:ρ.length=σ.length
def Frm(O:Ob)(A:Nat->Addr->Prop)(H:Hp)(A':Nat->Addr->Prop)(H':Hp):Prop:=∀a o,H a=some o->unO O A a->H' a=some o/\unO O A' a
theorem Frm.refl: Frm O A H A H:=λ_ _ h u=>⟨h,u⟩
theorem Frm.trans(a:Frm O A H A1 H1)(b:Frm O A1 H1 A2 H2):Frm O A H A2 H2:=λc o h u=>let ⟨h1,u1⟩:=a c o h u;b c o h1 u1
structure Post(K:Qa)(O:Ob)(H₀:Hp)(A:Nat->Addr->Prop)(H:Hp)(D:Ends)(Dd:DEnds):Prop where
 nx:∀A' σ' H' ρ',Rep K O H₀ A' H' σ' ρ'->Frm O A H A' H'->Dd.nx ρ'->D.nx σ' H'
 bk:∀A' σ' H' ρ',Rep K O H₀ A' H' σ' ρ'->Frm O A H A' H'->Dd.bk ρ'->D.bk σ' H'
 ct:∀A' σ' H' ρ',Rep K O H₀ A' H' σ' ρ'->Frm O A H A' H'->Dd.ct ρ'->D.ct σ' H'
 rt:∀H' v r,Stp O H₀ H'->Out K O H₀ H' v r->Dd.rt r->D.rt v H'
def SD(K:Qa)(O:Ob)(t:TS)(g:DS):Prop :=
 ∀(H₀:Hp) (A:Nat->Addr->Prop) (σ:St) (H:Hp) (ρ:DSt) (D:Ends) (Dd:DEnds),Rep K O H₀ A H σ ρ->g Dd ρ->Post K O H₀ A H D Dd->t D σ H
section
variable {K:Qa}{O:Ob}{H₀ H H':Hp}{A:Nat->Addr->Prop}{σ:St}{ρ:DSt}
theorem Rep.seen(r:5.3):Seen K O H σ ρ:=by
 refine⟨r.ok,r.p,λi x e=>?_,r.len⟩;obtain⟨v,hv,h⟩:=r.at_ i x e;refine⟨v,hv,?_⟩
 cases x with
 | im d=>exact h.weak λa u=>u.1
 | own ds=>
   obtain⟨a,xs,rfl,ha,hl,hs⟩:=h;exact .list (r.own i a ha).2.2 hl (hs.weak λa u=>u.1)
 | ob=>exact h
 | scr n=>exact IsS.to (λa u f q=>⟨f.1,q⟩) h
 | dct ks=>obtain⟨a,ha,h⟩:=h;exact⟨a,(r.own i a ha).2.2,h⟩
 | gen f ds=>obtain⟨a,xs,e,ha,q,z⟩:=h;exact⟨a,xs,e,(r.own i a ha).2.2,q,z.weak λa u=>u.1⟩
 | rd f ds=>obtain⟨a,xs,e,ha,q,z⟩:=h;exact⟨a,xs,e,ha.1,q,z.weak λa u=>u.1⟩
 | exc C ns ds=>obtain⟨xs,e,z⟩:=h;exact⟨xs,e.to λa u f q=>⟨f.1,q⟩,z.weak λa u=>u.1⟩
 | thg T=>exact⟨A i,λa w=>⟨(r.own i a w).2.2,let ⟨o,q,_⟩:=(r.own i a w).2.1;⟨o,q⟩⟩,T.to (λa u f q=>⟨f.1,q⟩) (λa u w q=>⟨w,q⟩) (TupStay.refl _) h⟩
 | thr T=>obtain⟨W,hw,z⟩:=h;exact⟨W,λa w=>⟨(hw a w).1.1,(hw a w).2⟩,T.to (λa u f q=>⟨f.1,q⟩) (λa u w q=>⟨w,q⟩) (TupStay.refl _) z⟩
theorem Rep.stp(r:5.3)(s:Stp O H H'):Rep K O H₀ A H' σ ρ:=by
 refine⟨r.ok,s.p r.p,r.p0,r.st.trans s,r.dis,λi a ha=>?_,λi x e=>?_,r.len⟩
 .obtain⟨h0,⟨xs,hx,ho⟩,hm⟩:=r.own i a ha;exact⟨h0,⟨xs,s.s a _ hx hm,ho⟩,hm⟩
 .obtain⟨v,hv,h⟩:=r.at_ i x e;refine⟨v,hv,?_⟩
  cases x with
  | im d=>exact Is.stp s (λ_ z=>z) (λ_ z=>z.1) h
  | own ds=>
    obtain⟨a,xs,rfl,ha,hl,hs⟩:=h;exact⟨a,xs,rfl,ha,s.s a _ hl (r.own i a ha).2.2,hs.stp s (λ_ z=>z) (λ_ z=>z.1)⟩
  | ob=>exact h
  | scr n=>exact IsS.to (λa u f q=>⟨f,s.s a u q f.1⟩) h
  | dct ks=>obtain⟨a,ha,h⟩:=h;exact⟨a,ha,h.to λu q=>s.s a u q (r.own i a ha).2.2⟩
  | gen f ds=>obtain⟨a,xs,e,ha,q,z⟩:=h;exact⟨a,xs,e,ha,s.s a _ q (r.own i a ha).2.2,z.stp s (λ_ z=>z) (λ_ z=>z.1)⟩
  | rd f ds=>obtain⟨a,xs,e,ha,q,z⟩:=h;exact⟨a,xs,e,ha,s.s a _ q ha.1,z.stp s (λ_ z=>z) (λ_ z=>z.1)⟩
  | exc C ns ds=>obtain⟨xs,e,z⟩:=h;exact⟨xs,e.to λa u f q=>⟨f,s.s a u q f.1⟩,z.stp s (λ_ z=>z) (λ_ z=>z.1)⟩
  | thg T=>exact T.to (λa u f q=>⟨f,s.s a u q f.1⟩) (λa u w q=>⟨w,s.s a u q (r.own i a w).2.2⟩) s.t h
  | thr T=>obtain⟨W,hw,z⟩:=h;exact⟨W,λa w=>let ⟨f,o,q⟩:=hw a w;⟨f,o,s.s a o q f.1⟩,T.to (λa u f q=>⟨f,s.s a u q f.1⟩) (λa u w q=>⟨w,s.s a u q (hw a w).1.1⟩) s.t z⟩
theorem Frm.stp(s:Stp O H H'):Frm O A H A H':=λa o e u=>⟨s.s a o e u.1,u⟩
theorem Rep.setIm{i:Nat}{d:GG}(r:5.3)(h:Is K (unO O A) H v d):Rep K O H₀ (λj a=>j≠i/\A j a) H (σ.set i (some v)) (ρ.set i (some (.im d))):=by
 have un:∀a,unO O A a->unO O (λj a=>j≠i/\A j a) a:=λa u=>⟨u.1,λj z=>u.2 j z.2⟩;refine⟨r.ok,r.p,r.p0,r.st,λj k a x y=>r.dis j k a x.2 y.2,λj a x=>r.own j a x.2,λj x e=>?_,by rw[ZT,ZT];exact r.len⟩
 by_cases hj:i=j
 .subst hj
  have hi:i<ρ.length:=by
   rcases Jj i ρ.length with z|z
   .exact z
   .rw[QD (by simpa using z)] at e;cases e
  rw[Zf hi] at e;cases e;exact⟨v,Zf (by have:=r.len;lia),h.weak un⟩
 .rw[Zs hj] at e;obtain⟨w,h1,h2⟩:=r.at_ j x e;refine⟨w,by rw[Zs hj];exact h1,?_⟩
  cases x with
  | im d=>exact h2.weak un
  | own ds=>
    obtain⟨a,xs,rfl,ha,hl,hs⟩:=h2;exact⟨a,xs,rfl,⟨λz=>hj z.symm,ha⟩,hl,hs.weak un⟩
  | ob=>exact h2
  | scr n=>exact IsS.to (λa u f q=>⟨un a f,q⟩) h2
  | dct ks=>obtain⟨a,ha,h2⟩:=h2;exact⟨a,⟨λz=>hj z.symm,ha⟩,h2⟩
  | gen f ds=>obtain⟨a,xs,e,ha,q,z⟩:=h2;exact⟨a,xs,e,⟨λz=>hj z.symm,ha⟩,q,z.weak un⟩
  | rd f ds=>obtain⟨a,xs,e,ha,q,z⟩:=h2;exact⟨a,xs,e,un a ha,q,z.weak un⟩
  | exc C ns ds=>obtain⟨xs,e,z⟩:=h2;exact⟨xs,e.to λa u f q=>⟨un a f,q⟩,z.weak un⟩
  | thg T=>exact T.to (λa u f q=>⟨un a f,q⟩) (λa u w q=>⟨⟨λz=>hj z.symm,w⟩,q⟩) (TupStay.refl _) h2
  | thr T=>obtain⟨W,hw,z⟩:=h2;exact⟨W,λa w=>⟨un a (hw a w).1,(hw a w).2⟩,T.to (λa u f q=>⟨un a f,q⟩) (λa u w q=>⟨w,q⟩) (TupStay.refl _) z⟩
def reg(A:Nat->Addr->Prop)(i:Nat)(W:3.4):Nat->Addr->Prop:=λj b=>(j≠i/\A j b)\/(j=i/\W b)
theorem Rep.tstay{i:Nat}(r:5.3)(stay:∀b u,H b=some u->¬A i b->H' b=some u):TupStay H H':=λb u hu hb=>stay b u hb λz=>by
 obtain⟨_,⟨o,q,ho⟩,_⟩:=r.own i b z;rw[hb] at q;cases q;obtain⟨us,e1|⟨o',e1⟩⟩:=hu
 .exact(ho.1 us).1 e1
 .exact(ho.1 us).2 o' e1
theorem Rep.setX{i:Nat}{W:3.4}(r:5.3)(s:Stp O H H1)(stay1:∀b u,H1 b=some u->¬A i b->H' b=some u)(hW:∀b,W b->(A i b\/H b=ZO)/\∃o,H' b=some o/\OwnO o)
 (hR:RepV K O (reg A i W) H' i v y):Rep K O H₀ (reg A i W) H' (σ.set i (some v)) (ρ.set i (some y)):=by
 have ts1:=(r.stp s).tstay stay1;have ts:TupStay H H':=λb u hu hb=>ts1 b u hu (s.t b u hu hb);have nA:∀b,O.M b->¬A i b:=λb m z=>(r.own i b z).2.2 m;have stay:∀b u,H b=some u->¬A i b->¬O.M b->H' b=some u:=λb u e z m=>stay1 b u (s.s b u e m) z
 have sM:∀b,O.M b->H' b=H1 b:=λb m=>by
  obtain⟨o,e⟩:=r.ok.here H1 b (s.p r.p) m;rw[e,stay1 b o e (nA b m)]
 have pp:O.P H':=r.ok.loc H1 _ sM (s.p r.p);have oth:∀{j b},j≠i->A j b->¬A i b:=λhj a z=>hj (r.dis _ _ _ a z)
 have un:∀b u,H b=some u->unO O A b->unO O (reg A i W) b:=λb u e f=>⟨f.1,λj z=>by
  rcases z with z|z
  .exact f.2 j z.2
  .rcases(hW b z.2).1 with y|y
   .exact f.2 i y
   .rw[e] at y;cases y⟩
 have tF:∀b u,unO O A b->H b=some u->unO O (reg A i W) b/\H' b=some u:=λb u f q=>⟨un b u q f,stay b u q (f.2 i) f.1⟩;have mv:∀{v d},Is K (unO O A) H v d->Is K (unO O (reg A i W)) H' v d:=λz=>z.to (λb ys f q=>tF b _ f q) λb ys q=>SqT.stay (h:=q) ts;have mvs:∀{v d},IsAll K (unO O A) H v d->IsAll K (unO O (reg A i W)) H' v d:=λz=>z.to (λb ys f q=>tF b _ f q) λb ys q=>SqT.stay (h:=q) ts
 have wm:∀b,W b->H₀ b=ZO/\¬O.M b:=λb w=>by
  rcases(hW b w).1 with z|z
  .exact⟨(r.own i b z).1,(r.own i b z).2.2⟩
  .have m:¬O.M b:=λm=>by obtain⟨o,e⟩:=r.ok.here H b r.p m;rw[z] at e;cases e
   exact⟨r.st.s.free m z,m⟩
 refine⟨r.ok,pp,r.p0,⟨λb o hb n=>?_,λ_=>pp,λb u hu hb=>ts b u hu (r.st.t b u hu hb)⟩,λj k b x y=>?_,λj b x=>?_,λj x e=>?_,by rw[ZT,ZT];exact r.len⟩
 .exact stay b o (r.st.s b o hb n) (λz=>by rw[(r.own i b z).1] at hb;cases hb) n
 .rcases x with x|x <;> rcases y with y|y
  .exact r.dis j k b x.2 y.2
  .rcases(hW b y.2).1 with z|z
   .exact absurd (r.dis j i b x.2 z) x.1
   .obtain⟨_,⟨o,q,_⟩,_⟩:=r.own j b x.2;rw[z] at q;cases q
  .rcases(hW b x.2).1 with z|z
   .exact absurd (r.dis k i b y.2 z) y.1
   .obtain⟨_,⟨o,q,_⟩,_⟩:=r.own k b y.2;rw[z] at q;cases q
  .exact x.1.trans y.1.symm
 .rcases x with x|x
  .obtain⟨h0,⟨o,q,ho⟩,m⟩:=r.own j b x.2;exact⟨h0,⟨o,stay b o q (oth x.1 x.2) m,ho⟩,m⟩
  .exact⟨(wm b x.2).1,(hW b x.2).2,(wm b x.2).2⟩
 .by_cases hj:i=j
  .subst hj
   have hi:i<ρ.length:=by
    rcases Jj i ρ.length with z|z
    .exact z
    .rw[QD (by simpa using z)] at e;cases e
   rw[Zf hi] at e;cases e;exact⟨v,Zf (by have:=r.len;lia),hR⟩
  .rw[Zs hj] at e;obtain⟨w,h1,h2⟩:=r.at_ j x e;have hj':j≠i:=λz=>hj z.symm;refine⟨w,by rw[Zs hj];exact h1,?_⟩
   cases x with
   | im d=>exact mv h2
   | own es=>
     obtain⟨b,ys,rfl,hb,hlb,hs⟩:=h2;exact⟨b,ys,rfl,.inl ⟨hj',hb⟩,stay b _ hlb (oth hj' hb) (r.own j b hb).2.2,mvs hs⟩
   | ob=>exact h2
   | scr n=>exact IsS.to (λb u f q=>tF b u f q) h2
   | dct ks=>obtain⟨b,hb,h2⟩:=h2;exact⟨b,.inl ⟨hj',hb⟩,h2.to λu q=>stay b u q (oth hj' hb) (r.own j b hb).2.2⟩
   | gen f ds=>obtain⟨b,xs,e,hb,q,z⟩:=h2;exact⟨b,xs,e,.inl ⟨hj',hb⟩,stay b _ q (oth hj' hb) (r.own j b hb).2.2,mvs z⟩
   | rd f ds=>obtain⟨b,xs,e,hb,q,z⟩:=h2;exact⟨b,xs,e,un b _ q hb,stay b _ q (hb.2 i) hb.1,mvs z⟩
   | exc C ns ds=>obtain⟨xs,e,z⟩:=h2;exact⟨xs,e.to λb u f q=>tF b u f q,mvs z⟩
   | thg T=>exact T.to (λb u f q=>tF b u f q) (λb u w q=>⟨.inl ⟨hj',w⟩,stay b u q (oth hj' w) (r.own j b w).2.2⟩) ts h2
   | thr T=>obtain⟨W',hw,z⟩:=h2;exact⟨W',λb w=>let ⟨f,o,q⟩:=hw b w;⟨un b o q f,o,stay b o q (f.2 i) f.1⟩,T.to (λb u f q=>tF b u f q) (λb u w q=>⟨w,stay b u q ((hw b w).1.2 i) (hw b w).1.1⟩) ts z⟩
theorem Rep.setOwn{i:Nat}(r:5.3)(s:Stp O H H')(hn:H a=none)(hl:H' a=some 4.1)(hf:IsAll K 3.7 H' xs ds)(fl:flats ds=true):
 Rep K O H₀ (λj b=>(j≠i/\A j b)\/(j=i/\b=a)) H' (σ.set i (some 3.1)) (ρ.set i (some (.own ds))) :=
 r.setX (W:=λb=>b=a) s (λ_ _ e _=>e) (λb e=>by subst e;exact⟨.inr hn,_,hl,.lst⟩) ⟨a,xs,rfl,.inr ⟨rfl,rfl⟩,hl,IsAll.flats (TupStay.refl H') hf fl⟩
theorem Frm.setIm{i:Nat}(s:Stp O H H'):Frm O A H (λj a=>j≠i/\A j a) H':=λa o e u=>⟨s.s a o e u.1,u.1,λj z=>u.2 j z.2⟩
theorem Frm.setOwn{i:Nat}(s:Stp O H H')(hn:H a=none):Frm O A H (λj b=>(j≠i/\A j b)\/(j=i/\b=a)) H':=λb o e u=>⟨s.s b o e u.1,u.1,λj z=>by
 rcases z with z|z
 .exact u.2 j z.2
 .rw[z.2,hn] at e;cases e⟩
theorem zn3{i:Nat}:reg A i (A i)=A:=by
 funext j b;refine propext ⟨λz=>?_,λz=>?_⟩
 .rcases z with z|z
  .exact z.2
  .rw[z.1];exact z.2
 .by_cases e:j=i
  .exact .inr ⟨e,e ▸ z⟩
  .exact .inl ⟨e,z⟩
theorem Rep.changeX{i:Nat}(r:5.3)(hv:σ[i]? = some (some 3.1))(ha:A i a)(ho:OwnO o)(hR:RepV K O A (upd H a o) i 3.1 y):Rep K O H₀ A (upd H a o) σ (ρ.set i (some y)):=by
 have hs:σ.set i (some 3.1)=σ:=by
  refine Jk λj=>?_;rw[List.getElem?_set]
  split
  .rename_i e
   subst e;rw[NI (Qn.mp hv).1,hv]
  .rfl
 have:=r.setX (i:=i) (v:=.ref a) (W:=A i) (y:=y) (H':=upd H a o) (.refl O H) (λb u e n=>by rw[zac λz=>n (by rw[z];exact ha)];exact e) (λb z=>⟨.inl z,by
  by_cases e:b=a
  .subst e;exact⟨_,zae,ho⟩
  .obtain⟨_,⟨u,q,ou⟩,_⟩:=r.own i b z
   exact⟨u,by rw[zac e];exact q,ou⟩⟩) (by rw[zn3];exact hR)
 rw[zn3,hs] at this;exact this
theorem Rep.up{i:Nat}(r:5.3)(ha:A i a)(h:IsAll K (unO O A) H xs ds):IsAll K (unO O A) (upd H a o) xs ds :=
 have st:∀b u,H b=some u->¬A i b->upd H a o b=some u:=λb u e n=>by rw[zac λz=>n (by rw[z];exact ha)];exact e
 h.to (λb ys f q=>⟨f,st b _ q (f.2 i)⟩) λb ys q=>SqT.stay (h:=q) (r.tstay st)
theorem Rep.change{i:Nat}(r:5.3)(e:ρ[i]? = some (some (.own ds)))(hv:σ[i]? = some (some 3.1))(ha:A i a)(hs:IsAll K (unO O A) H ys es):
 Rep K O H₀ A (upd H a (.lst ys)) σ (ρ.set i (some (.own es))) :=
 r.changeX hv ha .lst ⟨a,ys,rfl,ha,zae,r.up ha hs⟩
theorem Frm.change{i:Nat}(ha:A i a):Frm O A H A (upd H a o):=λb u e n=>⟨by rw[zac (show b≠a from λz=>n.2 i (by rw[z];exact ha))];exact e,n⟩
theorem Rep.disown{i:Nat}(r:5.3)(e:ρ[i]? = some (some (.own ds))):Rep K O H₀ (λj a=>j≠i/\A j a) H σ (ρ.set i (some (.im (.list ds)))):=by
 have un:∀a,unO O A a->unO O (λj a=>j≠i/\A j a) a:=λa u=>⟨u.1,λj z=>u.2 j z.2⟩;refine⟨r.ok,r.p,r.p0,r.st,λj k a x y=>r.dis j k a x.2 y.2,λj a x=>r.own j a x.2,λj x ej=>?_,by rw[ZT];exact r.len⟩
 by_cases hj:i=j
 .subst hj;have hi:i<ρ.length:=(Qn.mp e).1;rw[Zf hi] at ej;cases ej;obtain⟨w,h1,h2⟩:=r.at_ i _ e;obtain⟨a,xs,rfl,ha,hl,hs⟩:=h2;exact⟨.ref a,h1,.list ⟨(r.own i a ha).2.2,λj z=>z.1 (r.dis j i a z.2 ha)⟩ hl (hs.weak un)⟩
 .rw[Zs hj] at ej;obtain⟨w,h1,h2⟩:=r.at_ j x ej;refine⟨w,h1,?_⟩
  cases x with
  | im d=>exact h2.weak un
  | own fs=>
    obtain⟨b,us,rfl,hb,hlb,hs2⟩:=h2;exact⟨b,us,rfl,⟨λz=>hj z.symm,hb⟩,hlb,hs2.weak un⟩
  | ob=>exact h2
  | scr n=>exact IsS.to (λa u f q=>⟨un a f,q⟩) h2
  | dct ks=>obtain⟨b,hb,h2⟩:=h2;exact⟨b,⟨λz=>hj z.symm,hb⟩,h2⟩
  | gen f ds=>obtain⟨b,xs,e,hb,q,z⟩:=h2;exact⟨b,xs,e,⟨λz=>hj z.symm,hb⟩,q,z.weak un⟩
  | rd f ds=>obtain⟨b,xs,e,hb,q,z⟩:=h2;exact⟨b,xs,e,un b hb,q,z.weak un⟩
  | exc C ns ds=>obtain⟨xs,e,z⟩:=h2;exact⟨xs,e.to λb u f q=>⟨un b f,q⟩,z.weak un⟩
  | thg T=>exact T.to (λa u f q=>⟨un a f,q⟩) (λa u w q=>⟨⟨λz=>hj z.symm,w⟩,q⟩) (TupStay.refl _) h2
  | thr T=>obtain⟨W,hw,z⟩:=h2;exact⟨W,λa w=>⟨un a (hw a w).1,(hw a w).2⟩,T.to (λa u f q=>⟨un a f,q⟩) (λa u w q=>⟨w,q⟩) (TupStay.refl _) z⟩
end
section
variable {K:Qa}{O:Ob}
theorem Post.frm(P:Post K O H₀ A H D Dd)(f:Frm O A H A1 H1):Post K O H₀ A1 H1 D Dd :=
 ⟨λA' σ' H' ρ' r g=>P.nx A' σ' H' ρ' r (f.trans g),λA' σ' H' ρ' r g=>P.bk A' σ' H' ρ' r (f.trans g),λA' σ' H' ρ' r g=>P.ct A' σ' H' ρ' r (f.trans g),P.rt⟩
def seqD(g k:DS):DS:=λDd ρ=>g { Dd with nx:=k Dd } ρ
theorem z8h{k:DS}(h:SD K O t g)(h':SD K O u k):SD K O (tSeq t u) (seqD g k):=λH₀ A σ H ρ D Dd r q P=>
 h H₀ A σ H ρ _ _ r q ⟨λA' σ' H' ρ' r' f q'=>h' H₀ A' σ' H' ρ' D Dd r' q' (P.frm f),P.bk,P.ct,P.rt⟩
theorem z2d:SD K O zsh (λDd ρ=>Dd.nx ρ):=λH₀ A σ H ρ D Dd r q P=>P.nx A σ H ρ r .refl q
def ifS(c:DT)(g k:DS):DS:=λDd ρ=>c ρ λb=>if b=true then g Dd ρ else k Dd ρ
theorem yaj{k:DS}(hc:TD K O c fc)(h:SD K O t g)(h':SD K O u k):SD K O (tIfS c t u) (ifS fc g k):=λH₀ A σ H ρ D Dd r q P=>by
 refine hc σ H ρ _ _ r.seen q λb H1 s1 q1=>?_
 cases b with
 | true=>exact h H₀ A σ H1 ρ D Dd (r.stp s1) q1 (P.frm (.stp s1))
 | false=>exact h' H₀ A σ H1 ρ D Dd (r.stp s1) q1 (P.frm (.stp s1))
def retS(f:DE):DS:=λDd ρ=>f ρ Dd.rt
theorem z7u(h:ED K O t f):SD K O (tRet t) (retS f):=λH₀ A σ H ρ D Dd r q P=>by
 refine h σ H ρ _ _ r.seen q λv H1 x s1 o1 q1=>P.rt H1 v x (r.st.trans s1) (o1.ahead r.ok r.p0 r.st) q1
def retO(i:Nat):DS:=λDd ρ=>∃ds,ρ[i]? = some (some (.own ds))/\Dd.rt (.n ds)
theorem zw4{i:Nat}:SD K O (tRet (tVar i)) (retO i):=λH₀ A σ H ρ D Dd r q P=>by
 obtain⟨ds,e,q⟩:=q;obtain⟨v,hv,a,xs,rfl,ha,hl,hs⟩:=r.at_ i _ e;exact⟨_,hv,P.rt H _ (.n ds) r.st ⟨a,xs,rfl,(r.own i a ha).1,hl,hs.weak λb u=>u.1⟩ q⟩
def asgS(i:Nat)(f:DE):DS:=λDd ρ=>f ρ λr=>match r with
 | .o d=>flat d=true/\Dd.nx (ρ.set i (some (.im d)))
 | .n ds=>flats ds=true/\Dd.nx (ρ.set i (some (.own ds)))
theorem zuu{i:Nat}(h:ED K O t f):SD K O (tAsg t (zav i)) (asgS i f):=λH₀ A σ H ρ D Dd r q P=>by
 refine h σ H ρ _ _ r.seen q λv H1 x s1 o1 q1=>?_
 cases x with
 | o d=>
   obtain⟨fl,q1⟩:=q1;exact P.nx _ _ H1 _ ((r.stp s1).setIm (Is.flat (TupStay.refl H1) o1 fl)) (.setIm s1) q1
 | n ds=>
   obtain⟨fl,q1⟩:=q1;obtain⟨a,xs,rfl,hn,hl,hs⟩:=o1;exact P.nx _ _ H1 _ (r.setOwn s1 hn hl hs fl) (.setOwn s1 hn) q1
def appS(i:Nat)(f:DE):DS:=λDd ρ=>∃ds,ρ[i]? = some (some (.own ds))/\f ρ λr=>flat r.d=true/\ds.length<sizeLine/\Dd.nx (ρ.set i (some (.own (ds ++ [r.d]))))
theorem ztu{i:Nat}(h:ED K O t f):SD K O (zfy (tBM K "list" zhk (tVar i) (zar t tNil))) (appS i f):=λH₀ A σ H ρ D Dd r q P=>by
 obtain⟨ds,e,q⟩:=q;obtain⟨v,hv,a,xs,rfl,ha,hl,hs⟩:=r.at_ i _ e;refine⟨_,hv,?_⟩;refine⟨.inl ⟨rfl,xs,.of hl⟩,?_⟩;refine h σ H ρ _ _ r.seen q λw H1 x s1 o1 zz=>?_;obtain⟨fl,hz,q1⟩:=zz;have r1:=r.stp s1;obtain⟨v1,hv1,a1,xs1,e1,ha1,hl1,hs1⟩:=r1.at_ i _ e;rw[hv] at hv1;cases hv1;cases e1;refine⟨a,xs1,w,rfl,rfl,hl1,by rw[hs1.length];exact hz,?_⟩;have iw:Is K (unO O A) H1 w x.d:=Is.flat (TupStay.refl H1) (o1.is r.ok r.p) fl;exact P.nx A σ _ _ (r1.change e hv ha (hs1.snoc iw)) ((Frm.stp s1).trans (.change ha)) q1
end
def GR(K:Qa)(O:Ob)(t:TG)(g:DG):Prop :=
 ∀(H₀:Hp) (A:Nat->Addr->Prop) (σ:St) (H:Hp) (ρ:DSt) (v:V) (d:GG) (Q:St->Hp->Prop) (Qd:DSt->Prop),Rep K O H₀ A H σ ρ->flat d=true->Is K (unO O A) H v d->g d ρ Qd ->
   (∀A' σ' ρ',Rep K O H₀ A' H σ' ρ'->Frm O A H A' H->Qd ρ'->Q σ' H)->t v σ H Q
section
variable {K:Qa}{O:Ob}
theorem z3w{i:Nat}:GR K O (zav i) (gN i):=λH₀ A σ H ρ v d Q Qd r _ h q k=>k _ _ _ (r.setIm h) (.setIm 3.0) q
def GRs(K:Qa)(O:Ob)(t:TGs)(is:0.7):Prop :=
 ∀(H₀:Hp) (A:Nat->Addr->Prop) (σ:St) (H:Hp) (ρ:DSt) (vs:3.3) (ds:2.3) (Q:St->Hp->Prop) (Qd:DSt->Prop),Rep K O H₀ A H σ ρ->flats ds=true->IsAll K (unO O A) H vs ds->gTD is ds ρ Qd ->
   (∀A' σ' ρ',Rep K O H₀ A' H σ' ρ'->Frm O A H A' H->Qd ρ'->Q σ' H)->t vs σ H Q
theorem z4k:GRs K O gNil []:=λH₀ A σ H ρ vs ds Q Qd r _ i h k=>by
 cases i with
 | nil=>exact⟨rfl,k A σ ρ r .refl h⟩
 | cons _ _=>exact h.elim
theorem zyr{i:Nat}{is:0.7}(ht:GRs K O t is):GRs K O (zjc (zav i) t) (i::is):=λH₀ A σ H ρ vs ds Q Qd r fl h q k=>by
 cases h with
 | nil=>exact q.elim
 | cons h1 h2=>
   rw[flats,Q9] at fl;have f1:Frm O A H (λj a=>j≠i/\A j a) H:=.setIm 3.0;refine⟨_,_,rfl,ht _ _ _ H _ _ _ _ _ (r.setIm h1) fl.2 (IsAll.flats (TupStay.refl H) h2 fl.2) q λA' σ' ρ' r' f q'=>k A' σ' ρ' r' (f1.trans f) q'⟩
theorem z5w{is:0.7}{n:Nat}(hn:is.length=n)(ht:GRs K O t is):GR K O (gTup K n t) (gT is):=λH₀ A σ H ρ v d Q Qd r fl i h k=>by
 obtain⟨ds,rfl,h⟩:=h
 cases i with
 | tuple q is'=>exact⟨_,_,rfl,q,by rw[is'.length,zla h];exact hn,ht H₀ A σ H ρ _ ds Q Qd r (by simpa[flat] using fl) is' h k⟩
def zeo(g:DG)(gb:DS)(Dd:DEnds):List GG->DSt->Prop
 | [],ρ=>Dd.nx ρ
 | d::ds,ρ=>flat d=true/\g d ρ λρ2=>gb { Dd with nx:=zeo g gb Dd ds,ct:=zeo g gb Dd ds,bk:=Dd.nx } ρ2
abbrev DJ:=DSt->(List GG->Prop)->Prop
def SrcR(K:Qa)(O:Ob)(wi:TI)(f:DJ):Prop :=
 ∀(H₀:Hp) (A:Nat->Addr->Prop) (σ:St) (H:Hp) (ρ:DSt) (R:It->Hp->Prop) (Qd:List GG->Prop),Rep K O H₀ A H σ ρ->f ρ Qd ->
   (∀(J:It) (H1:Hp) (ds:2.3) (B:3.4),Walk K O H H1 J ds B->(∀a,B a->unO O A a)->Qd ds->R J H1)->wi σ H R
def newJ(f:DI):DJ:=λρ Q=>f ρ λfr ds=>fr=true/\Q ds
theorem z1t(h:SrcS K O wi f):SrcR K O wi (newJ f):=λH₀ A σ H ρ R Qd r q k=>by
 refine h σ H ρ _ _ r.seen q λJ H1 ds B fr W hfr ⟨e,q1⟩=>k J H1 ds B W (λa b=>⟨(W.hb a b).1,λj z=>?_⟩) q1;obtain⟨_,⟨xs,q,_⟩,_⟩:=r.own j a z;rw[hfr e a b] at q;cases q
def varJ(i:Nat):DJ:=λρ Q=>∃ds,ρ[i]? = some (some (.im (.list ds)))/\Q ds
theorem zyd{i:Nat}:SrcR K O (zel K (tVar i)) (varJ i):=λH₀ A σ H ρ R Qd r q k=>by
 obtain⟨ds,e,q⟩:=q;obtain⟨v,hv,h⟩:=r.at_ i _ e;have h':Is K (unO O A) H v (.list ds):=h
 cases h' with
 | list f0 ha hs=>
   rename_i a xs
   have hs':IsAll K 3.7 H xs ds:=hs.weak λb u=>u.1;refine⟨_,hv,a,rfl,⟨xs,.of ha⟩,k (Itl K a) H ds (λb=>b=a) ⟨.refl _ _,λb hb=>by subst hb;exact⟨f0.1,_,ha⟩,λH2 i kb _ hi=>?_,λH2 i d kb t2 hd c=>?_⟩ (λb hb=>by subst hb;exact f0) q⟩
   .exact⟨xs,.of (kb a _ rfl ha),by rw[hs.length];exact hi⟩
   .obtain⟨w,hw,iw⟩:=zkk (O:=O) hs' hd t2 c;have q2:SqL K H2 a xs:=.of (kb a _ rfl ha);refine⟨⟨xs,w,q2,hw⟩,λx H3 zz=>?_⟩;obtain⟨e3,y⟩:=zz;subst e3;have:=y xs q2;rw[hw] at this;cases this;exact⟨Same.refl _,iw⟩
def forS(f:DJ)(g:DG)(gb:DS):DS:=λDd ρ=>f ρ λds=>zeo g gb Dd ds ρ
theorem Rep.tupStay(r:Rep K O H₀ A H1 σ ρ)(f:Frm O A H1 A2 H2):TupStay H1 H2:=λa u hu e=>by
 refine(f a u e ⟨λm=>?_,λj z=>?_⟩).1
 .have mm:=r.ok.mutb H1 a u r.p e m;obtain⟨xs,e1|⟨o,e1⟩⟩:=hu
  .exact mm.1 xs e1
  .exact mm.2 o _ e1
 .obtain⟨_,⟨xs,q,ho⟩,_⟩:=r.own j a z;rw[e] at q;cases q;obtain⟨ys,e1|⟨o,e1⟩⟩:=hu
  .exact(ho.1 ys).1 e1
  .exact(ho.1 ys).2 o e1
theorem z7c(hs:SrcR K O wi f)(hg:GR K O tg g)(hb:SD K O tb gb):SD K O (tFor wi tg tb) (forS f g gb):=λH₀ A σ H ρ D Dd r q P=>by
 refine hs H₀ A σ H ρ _ _ r q λJ H1 ds B W uB go=>?_;have r1:=r.stp W.st;have f1:Frm O A H A H1:=.stp W.st;refine⟨λi m σ2 H2=>m=ds.length-i/\i<=ds.length/\∃A2 ρ2,Rep K O H₀ A2 H2 σ2 ρ2/\Frm O A H1 A2 H2/\zeo g gb Dd (ds.drop i) ρ2,⟨ds.length,rfl,Q6 _,A,ρ,r1,.refl,by simpa using go⟩,?_⟩;rintro i m σ2 H2 ⟨rfl,hi,A2,ρ2,r2,f2,go2⟩;have kB:∀a o,B a->H1 a=some o->H2 a=some o:=λa o b e=>(f2 a o e (uB a b)).1;have ts:TupStay H1 H2:=r1.tupStay f2
 by_cases hlt:i<ds.length
 .right;have hd:ds[i]? = some ds[i]:=Qb hlt;rw[QX hlt] at go2;obtain⟨fl,go2⟩:=go2;obtain⟨hgo,hy⟩:=W.item H2 i ds[i] kB ts hd (.inl fl);refine⟨hgo,λσ' H'=>∃A' ρ',Rep K O H₀ A' H' σ' ρ'/\Frm O A H1 A' H'/\zeo g gb Dd (ds.drop (i+1)) ρ',λσ' H' ⟨A',ρ',x1,x2,x3⟩=>⟨ds.length-(i+1),by lia,rfl,hlt,A',ρ',x1,x2,x3⟩,λx H3 y=>?_⟩;obtain⟨sm,ix⟩:=hy x H3 y;have st3:Stp O H2 H3:=.same r2.ok sm;have r3:=r2.stp st3;refine hg H₀ A2 σ2 H3 ρ2 x ds[i] _ _ r3 fl (Is.flat (TupStay.refl H3) ix fl) go2 λA3 σ3 ρ3 r3' f3 q3=>?_;have f13:Frm O A H1 A3 H3:=(f2.trans (.stp st3)).trans f3;refine hb H₀ A3 σ3 H3 ρ3 _ _ r3' q3 ⟨λA' σ' H' ρ' r' f' q'=>⟨A',ρ',r',f13.trans f',q'⟩,λA' σ' H' ρ' r' f' q'=>P.nx A' σ' H' ρ' r' (f1.trans (f13.trans f')) q',λA' σ' H' ρ' r' f' q'=>⟨A',ρ',r',f13.trans f',q'⟩,P.rt⟩
 .left;have e:i=ds.length:=by lia
  subst e;rw[Js] at go2;exact⟨W.stop H2 _ kB ts (Qg _),P.nx A2 σ2 H2 ρ2 r2 (f1.trans f2) go2⟩
def zwq(c:DT)(gb:DS):DS:=λDd ρ=>∃W:Nat->DSt->Prop,(∃m,W m ρ)/\∀m ρ,W m ρ->c ρ λb=>if b=true then gb { Dd with nx:=λρ'=>∃m',m'<m/\W m' ρ',ct:=λρ'=>∃m',m'<m/\W m' ρ',bk:=Dd.nx } ρ else Dd.nx ρ
theorem zyo(hc:TD K O c fc)(hb:SD K O tb gb):SD K O (znp c tb) (zwq fc gb):=λH₀ A σ H ρ D Dd r q P=>by
 obtain⟨W,⟨m0,w0⟩,turn⟩:=q;refine⟨λm σ2 H2=>∃A2 ρ2,Rep K O H₀ A2 H2 σ2 ρ2/\Frm O A H A2 H2/\W m ρ2,⟨m0,A,ρ,r,.refl,w0⟩,?_⟩;rintro m σ2 H2 ⟨A2,ρ2,r2,f2,w2⟩;refine hc σ2 H2 ρ2 _ _ r2.seen (turn m ρ2 w2) λb H3 s3 q3=>?_;have f3:Frm O A H A2 H3:=f2.trans (.stp s3)
 cases b with
 | true=>
   refine⟨λσ' H'=>∃A' ρ',Rep K O H₀ A' H' σ' ρ'/\Frm O A H A' H'/\∃m',m'<m/\W m' ρ',λσ' H' ⟨A',ρ',x1,x2,m',x3,x4⟩=>⟨m',x3,A',ρ',x1,x2,x4⟩,?_⟩;exact hb H₀ A2 σ2 H3 ρ2 _ _ (r2.stp s3) q3 ⟨λA' σ' H' ρ' r' f' q'=>⟨A',ρ',r',f3.trans f',q'⟩,λA' σ' H' ρ' r' f' q'=>P.nx A' σ' H' ρ' r' (f3.trans f') q',λA' σ' H' ρ' r' f' q'=>⟨A',ρ',r',f3.trans f',q'⟩,P.rt⟩
 | false=>exact P.nx A2 σ2 H3 ρ2 (r2.stp s3) f3 q3
end
def spO(K:Qa)(φ:Ob->Prop)(n:Nat)(f:List GG->2.7->Prop):Sp:=λvs H Q _=>
 ∃(O:Ob) (ds:2.3) (Qr:R->Prop),O.Ok/\φ O/\O.P H/\ds.length=n/\IsAll K 3.7 H vs ds/\f ds Qr/\∀r,Qr r->∀v H',Stp O H H'->Out K O H H' v r->Q v H'
def spD(K:Qa)(φ:Ob->Prop)(n:Nat)(f:List GG->2.7->Prop):Sp:=λvs H Q _=>
 ∃(O:Ob) (ds:2.3) (ws:3.3) (Qr:R->Prop),O.Ok/\φ O/\O.P H/\ds.length=n/\vs=O.v::ws/\IsAll K 3.7 H ws ds/\f ds Qr/\∀r,Qr r->∀v H',Stp O H H'->Out K O H H' v r->Q v H'
def zb4(N:2.4)(rs:List DV):DSt:=rs.map some++QO (N.length-rs.length) none
section
variable {K:Qa}{O:Ob}
theorem zlz{rs:List DV}(ok:O.Ok)(p:O.P H)(hl:vs.length=rs.length)(h:∀(i:Nat) r,rs[i]? = some r->∃v,vs[i]? = some v/\((∃d,r = .im d/\Is K 3.7 H v d)\/(r = .ob/\v=O.v))):
 Rep K O H (λ_ _=>False) H (L2.start N vs) (zb4 N rs):=by
 refine⟨ok,p,p,.refl _ _,λ_ _ _ z=>z.elim,λ_ _ z=>z.elim,λi r e=>?_,?_⟩
 .unfold zb4 at e
  by_cases hi:i<rs.length
  .rw[QA 5.2,Qh] at e
   cases q:rs[i]? with
   | none=>rw[q] at e;cases e
   | some r'=>
     rw[q] at e;have e':r'=r:=Za (Za e);subst e';obtain⟨v,hv,hh⟩:=h i r' q;refine⟨v,?_,?_⟩
     .unfold L2.start;rw[QA (by rw[Qc,hl];exact hi),Qh,hv];rfl
     .rcases hh with ⟨d,rfl,hd⟩|⟨rfl,hd⟩
      .exact hd.weak λa u=>⟨u,λj z=>z⟩
      .exact hd
  .rw[QF 5.2,ZA] at e
   split at e <;> cases e
 .unfold zb4 L2.start;rw[Qj,Qj,Qc,Qc,Zh,Zh,hl]
theorem z9j(h:SD K O t g)(ok:O.Ok)(p:O.P H)(ia:IsAll K 3.7 H vs ds)
 (hg:g { nx:=λ_=>Qr (.o .none),rt:=Qr } (zb4 N (ds.map .im))) (hQ:∀r,Qr r->∀v H',Stp O H H'->Out K O H H' v r->Q v H'):t { nx:=λ_ H'=>Q .non H',rt:=Q } (L2.start N vs) H:=by
 refine h H _ _ H _ _ _ (zlz ok p (by rw[Qc];exact ia.length) λi r e=>?_) hg ⟨λA' σ' H' ρ' r' _ q=>hQ _ q .non H' r'.st Is.none,λA' σ' H' ρ' r' _ q=>q.elim,λA' σ' H' ρ' r' _ q=>q.elim,λH' v r s o q=>hQ r q v H' s o⟩;rw[Qh] at e;obtain⟨d,hd,rfl⟩:=Q2.mp e;obtain⟨v,hv,iv⟩:=ia.get hd;exact⟨v,hv,.inl ⟨d,rfl,iv⟩⟩
theorem yae(h:SD K O t g)(ok:O.Ok)(p:O.P H)(ia:IsAll K 3.7 H ws ds)
 (hg:g { nx:=λ_=>Qr (.o .none),rt:=Qr } (zb4 N (.ob::ds.map .im))) (hQ:∀r,Qr r->∀v H',Stp O H H'->Out K O H H' v r->Q v H'):t { nx:=λ_ H'=>Q .non H',rt:=Q } (L2.start N (O.v::ws)) H:=by
 refine h H _ _ H _ _ _ (zlz ok p (by rw[Ql,Ql,Qc,ia.length]) λi r e=>?_) hg ⟨λA' σ' H' ρ' r' _ q=>hQ _ q .non H' r'.st Is.none,λA' σ' H' ρ' r' _ q=>q.elim,λA' σ' H' ρ' r' _ q=>q.elim,λH' v r s o q=>hQ r q v H' s o⟩
 cases i with
 | zero=>cases e;exact⟨O.v,rfl,.inr ⟨rfl,rfl⟩⟩
 | succ i=>
   rw[ZB,Qh] at e;obtain⟨d,hd,rfl⟩:=Q2.mp e;obtain⟨v,hv,iv⟩:=ia.get hd;exact⟨v,by rw[ZB];exact hv,.inl ⟨d,rfl,iv⟩⟩
def calD(n:Nat)(f:List GG->2.7->Prop)(g:DA):DE:=λρ Q=>g ρ λds=>ds.length=n/\f ds Q
theorem z3j{n:Nat}(hφ:φ O)(h:AD K O t g):ED K O (zda (spO K φ n f) [] E t) (calD n f g):=λσ H ρ Q Qd S q k=>by
 refine h σ H ρ _ _ S q λvs H1 ds s1 is zz=>?_;obtain⟨hn,q1⟩:=zz;rw[QR];exact⟨O,ds,Qd,S.ok,hφ,s1.p S.p,hn,is,q1,λr qr v H' s2 o2=>k v H' r 6.0 (o2.ahead S.ok S.p s1) qr⟩
def calO(i:Nat)(n:Nat)(f:List GG->2.7->Prop)(g:DA):DE:=λρ Q=>ρ[i]? = some (some .ob)/\g ρ λds=>ds.length=n/\f ds Q
theorem zye{i n:Nat}(hφ:φ O)(h:AD K O t g):ED K O (zda (spD K φ n f) [] E (zar (tVar i) t)) (calO i n f g):=λσ H ρ Q Qd S q k=>by
 obtain⟨e,q⟩:=q;obtain⟨v,hv,hh⟩:=S.at_ i _ e;refine⟨v,hv,?_⟩;refine h σ H ρ _ _ S q λvs H1 ds s1 is zz=>?_;obtain⟨hn,q1⟩:=zz;show spD K φ n f ((v::vs) ++ []) H1 Q E;rw[QR];exact⟨O,ds,vs,Qd,S.ok,hφ,s1.p S.p,hn,by rw[show v=O.v from hh],is,q1,λr qr v H' s2 o2=>k v H' r 6.0 (o2.ahead S.ok S.p s1) qr⟩
theorem z4d{φ:Ob->Prop}{n:Nat}{f:List GG->2.7->Prop}{ps:2.4}(hn:ps.length=n):∀vs H Q E,spO K φ n f vs H Q E->vs.length=ps.length:=λvs H Q E zz=>by obtain⟨O,ds,_,_,_,_,h,is,_⟩:=zz;rw[is.length,h,hn]
theorem zj9{φ:Ob->Prop}{n:Nat}{f:List GG->2.7->Prop}{ps:2.4}(hn:ps.length=n+1):∀vs H Q E,spD K φ n f vs H Q E->vs.length=ps.length:=λvs H Q E zz=>by obtain⟨O,ds,ws,_,_,_,_,h,e,is,_⟩:=zz;rw[e,Ql,is.length,h,hn]
end
section
variable {X:Cx}
def rEqD(K:Qa)(neg:Bool):R2:=λx y H Q=>∃F G d e,Is K F H x d/\Is K G H y e/\d.canLay0=true/\e.canLay0=true/\d.depth<=60/\Q (.bl (if neg then !PyData.eqv d e else QC d e)) H
theorem z6v(hu:X.A.units+64<GZ):OpR X (Tb .Eq) (rEqD X.K false):=by
 intro pins s σ H x y v u Q I rx ry h;obtain⟨F,G,d,e,i1,i2,h1,h2,h3,q⟩:=h;obtain⟨as,ra⟩:=i1.reads I rx;obtain⟨bs,rb⟩:=i2.reads I ry;exact SeqAt.compareEq_reads ra rb h1 h2 0.0 ⟨.bl _,H,I,rfl,q⟩
theorem z7b(hu:X.A.units+64<GZ):OpR X (Tb .NotEq) (rEqD X.K true):=by
 intro pins s σ H x y v u Q I rx ry h;obtain⟨F,G,d,e,i1,i2,h1,h2,h3,q⟩:=h;obtain⟨as,ra⟩:=i1.reads I rx;obtain⟨bs,rb⟩:=i2.reads I ry;exact SeqAt.compareNe_reads ra rb h1 h2 0.0 ⟨.bl _,H,I,rfl,q⟩
def rInD(K:Qa)(neg:Bool):R2:=λx y H Q=>∃F G d es,Is K F H x d/\(Is K G H y (.list es)\/Is K G H y (.tuple es))/\d.canLay0=true/\Qy es=true/\d.depth<=60 /\
 Q (.bl (if neg then !es.any (λy=>QC y d) else es.any λy=>QC y d)) H
theorem ztr(hu:X.A.units+64<GZ):OpR X (Tb .NotIn) (rInD X.K true):=by
 intro pins s σ H x y v u Q I rx ry h;obtain⟨F,G,d,es,i1,i2,h1,h2,h3,q⟩:=h;obtain⟨as,ra⟩:=i1.reads I rx;rcases i2 with i2|i2
 .obtain⟨bs,rb⟩:=i2.reads I ry;exact SeqAt.notIn_list_reads rb ra h2 h1 0.0 ⟨.bl _,H,I,rfl,q⟩
 .obtain⟨bs,rb⟩:=i2.reads I ry;exact SeqAt.notIn_tuple_reads rb ra h2 h1 0.0 ⟨.bl _,H,I,rfl,q⟩
theorem zqa:∀{bs:List Bool} {us:2.8},Vals (bs.map V.bl) us->us=bs.map JO
 | [],_,r=>by cases r;rfl
 | b::bs,_,r=>by
   rw[QB] at r
   cases r with
   | cons h t=>rw[zqa t,show _=JO b from h];rfl
theorem ztp{bs:List Bool}:(Q3 bs.length).all (λi=>bs[i]?.getD false)=bs.all id:=by
 apply ZE.mpr;rw[ZZ,ZZ];constructor
 .intro h x hx;obtain⟨i,hi,e⟩:=List.mem_iff_getElem.mp hx;have:=h i 5.2;rw[Qb hi] at this;rw[<- e];simpa using this
 .intro h i hi;have hi':i<bs.length:=by simpa using hi
  rw[Qb hi'];simpa using h _ (Ze hi')
def rAll(any:Bool):List V->Hp->VK->Prop:=λxs H Q=>∃(p:Addr) (bs:List Bool),xs = [.ref p]/\H p=some (.lst (bs.map V.bl))/\Q (.bl (if any then bs.any id else bs.all id)) H
theorem zva(hc:X.calm=true):zcz X (.builtin "all") (rAll false):=by
 intro pins s σ H xs us Q I r h;obtain⟨p,bs,rfl,hH,q⟩:=h;obtain⟨u,rfl,ru⟩:=Vals.one r;cases ru;obtain⟨z,its,n,rv,hl,e⟩:=I.lstM hH;have ei:=zqa rv;subst ei;have pl:s.heap.IsList p (bs.map JO).toArray:=⟨_,e,rfl,_,rfl⟩;have hne:p≠s.heap.objs.size:=Q0 (Qv e);refine call_all_walk (M7 pl ?_);refine⟨s.heap.objs.size,_,_,_,_,_,λi=>bs[i]?.getD false,rfl,Walks.list (A:=X.A.in1) (I.ok.hd hc) _ p hne (bs.map JO).toArray,⟨⟨_,Qs _ rfl,rfl,rfl⟩,_,Qf _ e,rfl,_,rfl⟩,?_,λh' tk kk=>?_⟩
 .intro i v s' Q' E' hv hq;have hv:(bs.map JO).toArray[i]? = some v:=hv;rw[VS,Qh] at hv;obtain⟨b,hb,rfl⟩:=Q2.mp hv;have hq:Q' (bs[i]?.getD false) s':=hq;rw[hb] at hq;exact Td hq
 .have I1:Inv X pins σ H { s with heap:=h',toks:=tk }:=I.kept λb o eb=>kk b o (by simp;exact Q0 (Qv eb)) (Qf _ eb);refine⟨.bl _,H,I1,?_,q⟩;show JO _=JO _;rw[Q5,Qc,ztp];rfl
theorem zf9:∀{ys:2.4} {us:2.8},Vals (ys.map V.str) us->MI us ys
 | [],_,r=>by cases r;exact .nil
 | y::ys,_,r=>by
   rw[QB] at r
   cases r with
   | cons h t=>obtain⟨tk,rfl⟩:=h;exact .cons y tk (zf9 t)
theorem zdz:∀{ys:2.4} {us:2.8},MI us ys->Vals (ys.map V.str) us
 | _,_,.nil=>.nil
 | _,_,.cons y t r=>.cons ⟨t,rfl⟩ (zdz r)
def zjx:V->List V->Hp->VK->Prop:=λx vs H Q=>∃sep p ys,x = .str sep/\vs = [.ref p]/\H p=some (.lst (ys.map V.str))/\(ys.map (·.length)).sum+ys.length * sep.length<=16777216/\Q (.str (Gx sep ys)) H
theorem z5b:MtM X "str.join" zjx:=by
 intro pins s σ H x vs v us Q I rx rv h;obtain⟨sep,p,ys,rfl,rfl,hH,hz,q⟩:=h;obtain⟨t,rfl⟩:=rx;obtain⟨u,rfl,ru⟩:=rv.one;cases ru;obtain⟨z,its,n,r,hl,e⟩:=I.lstM hH;exact join_list ⟨_,e,rfl,_,rfl⟩ (by simpa using zf9 r) hz λt' k=>⟨.str _,H,I.tok _,⟨_,rfl⟩,q⟩
def zvj:List V->Hp->VK->Prop:=λxs H Q=>∃p ys,xs = [.ref p]/\H p=some (.lst (ys.map V.str))/\ys.length<64/\∀zs l,zs.Perm ys->MP zs=true->H l=none->Q (.ref l) (upd H l (.lst (zs.map V.str)))
theorem zr2:zcz X (.builtin "sorted") zvj:=by
 intro pins s σ H xs us Q I r h;obtain⟨p,ys,rfl,hH,hz,q⟩:=h;obtain⟨u,rfl,ru⟩:=Vals.one r;cases ru;obtain⟨z,its,n,rv,hl,e⟩:=I.lstM hH;refine sorted_strs (ss:=ys) ⟨_,e,rfl,_,rfl⟩ (zf9 rv) (by rw[<- hl,Qc];exact hz) λout zs h1 h2 h3=>?_;obtain⟨c,he⟩:=sortedAll_at s.heap its out;have hn:H (s.heap.objs.size+1)=none:=I.hok.fresh (Jp _);refine⟨.ref _,_,I.laid (a:=s.heap.objs.size+1) (o:=.lst (zs.map V.str)) (t':=s.toks) (λb o eb=>sortedAll_old eb) (Jp _) ?_,rfl,q zs _ h2 h3 hn⟩;refine⟨?_,out.toList,c,zdz h1,by simpa using he⟩;rw[Qc,h2.length_eq];have:sizeLine=16777216:=GP;lia
theorem zr0(h:ItemsOf P acc ys.length)(hv:∀i v,P i v->∃y,ys[i]? = some y/\RelV y v):Vals ys acc.toList:=by
 have go:∀(k:Nat) (zs:3.3) (l:2.8),zs.length=l.length->(∀(i:Nat) v,l[i]? = some v->∃y,zs[i]? = some y/\RelV y v)->Vals zs l:=by
  intro k zs l
  induction l generalizing zs with
  | nil=>intro e _;cases zs with
    | nil=>exact .nil
    | cons _ _=>simp at e
  | cons a l ih=>intro e hh;cases zs with
    | nil=>simp at e
    | cons z zs=>
      obtain⟨y,h1,h2⟩:=hh 0 a rfl;simp at h1;subst h1;exact .cons h2 (ih zs (by simpa using e) λi v ev=>by simpa using hh (i+1) v (by simpa using ev))
 refine go 0 ys acc.toList (by have e:=h.1;simp[e]) λi v e=>hv i v (h.2 i v (by simpa using e))
def ztw:List V->Hp->VK->Prop:=λxs H Q=>∃x:Str,xs = [.str x]/\x.cps.size<=sizeLine/\∀l,H l=none->Q (.ref l) (upd H l (.lst (x.cps.toList.map λc=>V.str (sg c))))
theorem zr5(hc:X.calm=true):zcz X (.type "list") ztw:=by
 intro pins s σ H xs us Q I r h;obtain⟨x,rfl,hz,q⟩:=h;obtain⟨u,rfl,ru⟩:=Vals.one r;obtain⟨t,rfl⟩:=ru;refine call_list_str (I.ok.hd hc) x t (λh' tk acc c kk e it=>?_) hz;refine⟨.ref _,_,I.laid (a:=s.heap.objs.size) (o:=.lst (x.cps.toList.map λc=>V.str (sg c))) kk (Qg _) ?_,rfl,q _ I.fresh⟩;refine⟨by simpa using hz,acc.toList,c,zr0 (P:=SignAt x) (by simpa using it) λi v hv=>?_,by simpa using e⟩;obtain⟨cc,uu,h1,rfl⟩:=hv;exact⟨.str (sg cc),by rw[Qh];simp[h1],⟨uu,rfl⟩⟩
end
def tx(l:0.7):Str:=⟨l.toArray⟩
theorem zvt(x:Str):tx x.cps.toList=x:=by cases x;simp[tx]
theorem zbu(l:0.7):(tx l).cps.toList=l:=by simp[tx]
theorem zv5(l:0.7):(tx l).length=l.length:=by simp[tx,Ux]
def cutL{α:Type}(xs:4.2)(lo hi:Option Int):List α:=(xs.drop (HT.sIx xs.length 0 lo)).take (HT.sIx xs.length xs.length hi-HT.sIx xs.length 0 lo)
theorem zij(n d:Nat)(v:Int):max (0:Int) (min (if v<0 then v+n else v) n)=((HT.sIx n d (some v):Nat):Int):=by
 rw[<- HT.clip_eq v n d]
 by_cases h:v<0
 .rw[NI h,NI h];lia
 .rw[NJ h,NJ h];lia
theorem zpw(lo hi:Option Int)(n:Nat):Vt lo hi 1 n=(Q3 (HT.sIx n n hi-HT.sIx n 0 lo)).map λk=>HT.sIx n 0 lo+k:=by
 have e1:(match lo with|none=>(0:Int)|some i=>max 0 (min (if i<0 then i+(n:Int) else i) n))=((HT.sIx n 0 lo:Nat):Int):=by
  cases lo with
  | none=>rfl
  | some v=>exact zij n 0 v
 have e2:(match hi with|none=>(n:Int)|some i=>max 0 (min (if i<0 then i+(n:Int) else i) n))=((HT.sIx n n hi:Nat):Int):=by
  cases hi with
  | none=>rfl
  | some v=>exact zij n n v
 have e0:Vt lo hi 1 n=sliceRange ((HT.sIx n 0 lo:Nat):Int) ((HT.sIx n n hi:Nat):Int) 1:=by
  rw[<- e1,<- e2];cases lo <;> cases hi <;> rfl
 rw[e0];generalize HT.sIx n 0 lo=a;generalize HT.sIx n n hi=b;simp only[sliceRange,show((1:Int) > 0)=True from by simp,NR]
 by_cases hlt:(a:Int)<b
 .have e3:(((b:Int)-a+1-1) / 1).toNat=b-a:=by first|lia|(simp;done)|(simp;lia)
  simp only[hlt,NR,e3];refine Vp λk _=>?_;lia
 .have:b-a=0:=by lia
  simp[hlt,this]
theorem zur{α:Type}(l:4.2):∀(n a:Nat),a+n<=l.length->((Q3 n).map λk=>a+k).filterMap (λi=>l[i]?)=(l.drop a).take n
 | 0,_,_=>by simp
 | n+1,a,h=>by
   have hlt:a+n<l.length:=by lia
   rw[List.range_succ,Qu,List.filterMap_append,zur l n a 0.0,Jl,Z0];simp[Qb hlt]
section
variable {X:Cx}
def rSlS:V->Option Int->Option Int->Hp->VK->Prop:=λx lo hi H Q=>∃z:Str,x = .str z/\z.length<=sizeLine/\Q (.str (tx (cutL z.cps.toList lo hi))) H
theorem z6x:SlR X rSlS:=by
 intro pins s σ H x v vl vu lo hi sl Q I rx hs pl pu h;obtain⟨z,rfl,hz,q⟩:=h;obtain⟨t,rfl⟩:=rx;refine⟨"str",_,PySem.F.slot_str_getitem.lookup,typeIs_str s z t,?_⟩;have hl:z.cps.toList.length=z.length:=by simp[Ux]
 have hi':HT.sIx z.length z.length hi<=z.length:=HT.sIx_le _ _ (Qg _) hi
 have key:∀l u:Option (Int×Tok),l.map (·.1)=lo->u.map (·.1)=hi->s.heap.IsSlice sl l u none->wpAny 0.8 X.A (Mp (.str z t) (.ref sl)) (EP X pins σ Q) X.xe s:=by
  intro l u el eu hsl
  have e:Nc z l u none=(Q3 (HT.sIx z.length z.length hi-HT.sIx z.length 0 lo)).map λk=>HT.sIx z.length 0 lo+k:=by
   unfold Nc;rw[el,eu];exact zpw lo hi z.length
  have ec:tx (cutL z.cps.toList lo hi)=⟨((Nc z l u none).filterMap (z.cps[·]?)).toArray⟩:=by
   rw[e];unfold cutL tx;rw[hl]
   by_cases hij:HT.sIx z.length 0 lo<=HT.sIx z.length z.length hi
   .have p:=zur z.cps.toList (HT.sIx z.length z.length hi-HT.sIx z.length 0 lo) (HT.sIx z.length 0 lo) (by rw[hl];lia);rw[<- p];simp
   .have:HT.sIx z.length z.length hi-HT.sIx z.length 0 lo=0:=by lia
    rw[this];simp
  refine wpAny_getItem_str_slice hsl rfl ?_;unfold sliceMade
  split
  .rename_i hc
   have hw:(Nc z l u none).length=z.length:=by simpa using hc
   have ex:tx (cutL z.cps.toList lo hi)=z:=by
    rw[e,Qc,QS] at hw;unfold cutL;rw[hl];have h0:HT.sIx z.length 0 lo=0\/z.length=0:=by lia
    rcases h0 with h0|h0
    .rw[h0] at hw ⊢;rw[JH,Zu (by rw[hl];lia)];exact zvt z
    .have hn:z.cps.toList = []:=Zn (by rw[hl];exact h0);rw[hn];simp only[List.drop_nil,G7];rw[<- hn];exact zvt z
   exact⟨.str _,H,I,⟨t,by rw[ex]⟩,q⟩
  .rw[<- ec]
   have hlen:(tx (cutL z.cps.toList lo hi)).length<=sizeLine:=by
    rw[zv5];unfold cutL;rw[QL,Zr,hl];lia
   first
    | exact⟨.str _,H,I.tok _,⟨_,rfl⟩,q⟩
    | exact⟨hlen,.str _,H,I.tok _,⟨_,rfl⟩,q⟩
    | exact λ_=>⟨.str _,H,I.tok _,⟨_,rfl⟩,q⟩
 obtain⟨o,ho,hc,hd⟩:=hs
 cases pl with
 | none=>cases pu with
   | none=>exact key none none rfl rfl ⟨o,ho,hc,hd⟩
   | int j t'=>exact key none (some (j,t')) rfl rfl ⟨o,ho,hc,hd⟩
 | int i ti=>cases pu with
   | none=>exact key (some (i,ti)) none rfl rfl ⟨o,ho,hc,hd⟩
   | int j t'=>exact key (some (i,ti)) (some (j,t')) rfl rfl ⟨o,ho,hc,hd⟩
def z0n(K:Qa):V->Option Int->Option Int->Hp->VK->Prop:=λx lo hi H Q=>∃a xs,x = .ref a/\SqT K H a xs/\(HT.sIx xs.length 0 lo=0/\HT.sIx xs.length xs.length hi=xs.length)/\Q 3.1 H
theorem zgj{prog:GK}{w:GM}{A:GQ}{E:1.0}{s:GJ}{t sl:Addr}{items:Array GH}{vl vu:GH}{lo hi:Option Int}{Q:1.0}(ht:IsTup s.heap t items)(hs:s.heap.IsSliceOf sl vl vu .none)(pl:MH vl lo)(pu:MH vu hi)
 (hw:HT.sIx items.size 0 lo=0/\HT.sIx items.size items.size hi=items.size) (h:Q (.ref t) s):wpAny 1.3 A (Mp (.ref t) (.ref sl)) Q E s:=by
 obtain⟨os,hos,hcs,hds⟩:=id hs;have hTs:s.TypeIs (.ref sl) "slice" := ⟨os,hos,hcs⟩;unfold Mp
 try with_reducible refine GW ?_
 first|refine GF (GI ?_)|skip
 refine GF (wpAny_sequenceKey ht.typeIs 0.2 ?_)
 refine GF (TW (name:=Zt "__getitem__") ht.typeIs Zx
  (GV Zx ht.typeIs entry_tuple_getitem ?_ (args_tuple_getitem _ _)))
 show wpAny _ _ (Yh (.ref t) >>= _) _ _ s;refine GF (tupleItemsOf_ ht ?_);refine GF (TL hTs ?_);rw[NI 0.2];refine GF (HT.sliceApplied_gen hs pl pu ?_)
 have hno:(((HT.sIx items.size 0 lo:Nat):Int) == 0 && (1:Int) == 1 && (HT.sIx items.size items.size hi-HT.sIx items.size 0 lo) == items.size)=true:=by
  rw[hw.1,hw.2];simp
 show wpAny _ _ (if(((HT.sIx items.size 0 lo:Nat):Int) == 0 && (1:Int) == 1 && (HT.sIx items.size items.size hi-HT.sIx items.size 0 lo) == items.size)=true then _ else _) _ _ s;rw[NI hno];obtain⟨o,ho,hc,n,hd⟩:=id ht;refine GF ?_;unfold Builtin.Tuple.tupleIsExact;refine GF (TL ht.typeIs (GI ?_));show wpAny _ _ (if((Zj "tuple") == (Zj "tuple"))=true then _ else _) _ _ s;rw[NI 0.2];exact GF (Tr (GI ⟨_,rfl,GI h⟩))
theorem sl_tupW:SlR X (z0n X.K):=by
 intro pins s σ H x v vl vu lo hi sl Q I rx hs pl pu h;obtain⟨a,xs,rfl,hx,hw,q⟩:=h;cases rx;obtain⟨its,r,ht,hz⟩:=I.tuple hx;have hlen:its.toArray.size=xs.length:=by rw[Q5];exact r.length.symm
 exact⟨"tuple",_,Zx.lookup,ht.typeIs,zgj ht hs pl pu (by rw[hlen];exact hw) ⟨.ref a,H,I,rfl,q⟩⟩
def rSl(K:Qa):V->Option Int->Option Int->Hp->VK->Prop:=λx lo hi H Q=>rSlL K x lo hi H Q\/rSlT K x lo hi H Q\/z0n K x lo hi H Q\/rSlS x lo hi H Q
theorem z5g:SlR X (rSl X.K):=sl_list.or (sl_tup.or (sl_tupW.or z6x))
def zve(K:Qa):R2:=λx y H Q=>∃a b ys,x = .ref a/\y = .ref b/\SqT K H a []/\SqT K H b ys/\Q 5.9 H
theorem zxg:OpR X (TU .Add) (zve X.K):=by
 intro pins s σ H x y v u Q I rx ry h;obtain⟨a,b,ys,rfl,rfl,ha,hb,q⟩:=h;cases rx;cases ry;obtain⟨its,r1,p1,_⟩:=I.tuple ha;obtain⟨its2,r2,p2,_⟩:=I.tuple hb;cases r1;obtain⟨⟨cls,dd,data,sl⟩,ho,hc,n,hd⟩:=id p1;obtain⟨⟨cls2,dd2,data2,sl2⟩,ho2,hc2,n2,hd2⟩:=id p2;simp only at hc hd hc2 hd2;subst hc hd hc2 hd2
 exact Nr ⟨_,ho,rfl⟩ ⟨_,ho2,rfl⟩ MB Nj YC Y7 (Yv _ _)
  (tuple_addW0 a b _ its2.toArray n n2 dd dd2 sl sl2 0.1) ⟨ho,ho2,⟨.ref b,H,I,rfl,q⟩⟩
end
section
variable {K:Qa}{O:Ob}{F:3.4}{H:Hp}
theorem zf6:∀{vs:3.3} {ys:2.4},IsAll K F H vs (ys.map .str)->vs=ys.map V.str
 | _,[],h=>by cases h;rfl
 | _,y::ys,h=>by
   rw[QB] at h
   cases h with
   | cons h1 h2=>cases h1;rw[zf6 h2];rfl
theorem zhv:∀{vs:3.3} {bs:List Bool},IsAll K F H vs (bs.map .bool)->vs=bs.map V.bl
 | _,[],h=>by cases h;rfl
 | _,y::ys,h=>by
   rw[QB] at h
   cases h with
   | cons h1 h2=>cases h1;rw[zhv h2];rfl
theorem zi2:∀(ys:2.4),IsAll K F H (ys.map V.str) (ys.map .str)
 | []=>.nil
 | y::ys=>.cons (.str y) (zi2 ys)
theorem zlu{i:Int}{d:GG}(h:IsAll K F H vs ds)(e:atI ds i=some d):∃v,atI vs i=some v/\Is K F H v d:=by
 unfold atI at e ⊢;rw[h.length]
 cases q:ixN ds.length i with
 | none=>rw[q] at e;cases e
 | some j=>
   rw[q] at e;obtain⟨v,hv,iv⟩:=h.get (i:=j) e;exact⟨v,hv,iv⟩
theorem zgq(h:IsAll K F H vs ds)(lo hi:Option Int):IsAll K F H (cutV vs lo hi) (cutL ds lo hi):=by
 unfold cutV cutL;rw[h.length];exact(h.drop _).take _
theorem zee(ok:O.Ok)(hp:H p=none)(h:IsAll K 3.7 H vs ds):Stp O H (upd H p (.lst vs))/\Out K O H (upd H p (.lst vs)) (.ref p) (.n ds):=by
 have s:Stp O H (upd H p (.lst vs)):=.new ok hp _;exact⟨s,p,vs,rfl,hp,zae,h.stp s (λ_ z=>z) (λ_ z=>z)⟩
theorem zj6(ok:O.Ok)(hp:H p=none)(h:IsAll K 3.7 H vs ds):Stp O H (upd H p (.tup vs))/\Out K O H (upd H p (.tup vs)) (.ref p) (.o (.tuple ds)):=by
 have s:Stp O H (upd H p (.tup vs)):=.new ok hp _;exact⟨s,Is.tuple (.of zae) (h.stp s (λ_ z=>z) (λ_ z=>z))⟩
def okD(d:GG):Bool:=d.canLay0 && decide (d.depth<=60)
def eqF(neg:Bool):GG->GG->Option R:=λd e=>if(okD d && e.canLay0)=true then some (.o (.bool (if neg then !PyData.eqv d e else QC d e))) else none
theorem znz(neg:Bool):OpD K O (rEqD K neg) (fn2 (eqF neg)):=λH x y d e Q Qd ok p ix iy ⟨r,hr,q⟩ k=>by
 unfold eqF at hr
 split at hr
 .rename_i hc
  cases hr;simp only[Q9,okD,NN] at hc;exact⟨_,_,d,e,ix,iy,hc.1.1,hc.2,hc.1.2,k _ H (.o _) 3.0 (Is.bool _) q⟩
 .cases hr
def inF(neg:Bool):GG->GG->Option R:=λd e=>match d,e with
 | .str x,.str y=>some (.o (.bool (if neg then !(!(ZW y x 0 y.length 1).isEmpty) else !(ZW y x 0 y.length 1).isEmpty)))
 | d,.list es=>if(okD d && Qy es)=true then some (.o (.bool (if neg then !es.any (λy=>QC y d) else es.any λy=>QC y d))) else none
 | d,.tuple es=>if(okD d && Qy es)=true then some (.o (.bool (if neg then !es.any (λy=>QC y d) else es.any λy=>QC y d))) else none
 | _,_=>none
def zlb(K:Qa):R2:=λx y H Q=>(∃i j,x = .str i/\y = .str j/\Q (.bl (!(!(ZW j i 0 j.length 1).isEmpty))) H)\/rInD K true x y H Q
theorem zt2(hu:X.A.units+64<GZ):OpR X (Tb .NotIn) (zlb X.K):=op_notin_str.or (ztr hu)
theorem z3y{neg:Bool}{d:GG}(ix:Is K 3.7 H x d)(iy:Is K 3.7 H y e)(q:fn2 (inF neg) d e Qd)(k:∀v H' r,Stp O H H'->Out K O H H' v r->Qd r->Q v H'):
 (∃i j,x = .str i/\y = .str j/\Q (.bl (if neg then !(!(ZW j i 0 j.length 1).isEmpty) else !(ZW j i 0 j.length 1).isEmpty)) H)\/rInD K neg x y H Q:=by
 obtain⟨r,hr,q⟩:=q;unfold inF at hr
 split at hr
 .rename_i a b
  cases ix;cases iy;cases hr;exact .inl ⟨a,b,rfl,rfl,k _ H (.o _) 3.0 (Is.bool _) q⟩
 .split at hr
  .rename_i hc
   cases hr;simp only[Q9,okD,NN] at hc;exact .inr ⟨_,_,_,_,ix,.inl iy,hc.1.1,hc.2,hc.1.2,k _ H (.o _) 3.0 (Is.bool _) q⟩
  .cases hr
 .split at hr
  .rename_i hc
   cases hr;simp only[Q9,okD,NN] at hc;exact .inr ⟨_,_,_,_,ix,.inr iy,hc.1.1,hc.2,hc.1.2,k _ H (.o _) 3.0 (Is.bool _) q⟩
  .cases hr
 .cases hr
theorem zwr:OpD K O (zlb K) (fn2 (inF true)):=λH x y d e Q Qd ok p ix iy q k=>z3y (neg:=true) ix iy q k
def intF(g:Int->Int->GG):GG->GG->Option R
 | .int i,.int j=>some (.o (g i j))
 | _,_=>none
theorem zov(h:∀i j H,Is K 3.7 H (g i j) (G i j)):OpD K O (rI0 g) (fn2 (intF G)):=λH x y d e Q Qd ok p ix iy ⟨r,hr,q⟩ k=>by
 unfold intF at hr
 split at hr
 .cases ix;cases iy;cases hr;exact⟨_,_,rfl,rfl,k _ H (.o _) 3.0 (h _ _ H) q⟩
 .cases hr
theorem z1k:OpD K O (rI0 λi j=>.int (i-j)) (fn2 (intF λi j=>.int (i-j))):=zov λ_ _ _=>.int _
theorem z7v:OpD K O (rI0 λi j=>.bl (decide (i<j))) (fn2 (intF λi j=>.bool (decide (i<j)))):=zov λ_ _ _=>.bool _
def isNF(neg:Bool):GG->GG->2.7->Prop:=λd e Q=>e = .none/\Q (.o (.bool (match d with | .none=>!neg|_=>neg)))
theorem Is.non{d:GG}(h:Is K F H v d):decide (v = .non)=(match d with | .none=>true|_=>false):=by cases h <;> rfl
theorem zy2:OpD K O (λx y H Q=>y = .non/\Q (.bl (!decide (x = .non))) H) (isNF true):=λH x y d e Q Qd ok p ix iy ⟨e1,q⟩ k=>by
 subst e1;cases iy;refine⟨rfl,k _ H (.o _) 3.0 ?_ q⟩;rw[ix.non];cases d <;> exact Is.bool _
def z0c(K:Qa):R2:=λx y H Q=>rI0 (λi j=>.int (i+j)) x y H Q\/(∃i j,x = .str i/\y = .str j/\i.length+j.length<=sizeLine/\Q (.str (i++j)) H)\/rCat x y H Q\/z0y K x y H Q\/zve K x y H Q
theorem z2h: OpR X (TU .Add) (z0c X.K):=op_add.or (op_add_str.or (op_cat.or (op_catT.or zxg)))
def addF:GG->GG->Option R:=λd e=>match d,e with
 | .int i,.int j=>some (.o (.int (i+j)))
 | .str x,.str y=>if x.length+y.length<=sizeLine then some (.o (.str (x++y))) else none
 | .list a,.list b=>if a.length+b.length<=sizeLine then some (.n (a++b)) else none
 | .tuple a,.tuple b=>if a.length+b.length<=sizeLine then some (.o (.tuple (a++b))) else none
 | _,_=>none
theorem z2n:OpD K O (z0c K) (fn2 addF):=λH x y d e Q Qd ok p ix iy ⟨r,hr,q⟩ k=>by
 unfold addF at hr
 split at hr
 .cases ix;cases iy;cases hr;exact .inl ⟨_,_,rfl,rfl,k _ H (.o _) 3.0 (Is.int _) q⟩
 .split at hr
  .rename_i hz
   cases ix;cases iy;cases hr;exact .inr (.inl ⟨_,_,rfl,rfl,hz,k _ H (.o _) 3.0 (Is.str _) q⟩)
  .cases hr
 .split at hr
  .rename_i hz
   cases hr
   cases ix with
   | list f1 h1 s1=>
     cases iy with
     | list f2 h2 s2=>
       refine .inr (.inr (.inl ⟨_,_,_,_,rfl,rfl,h1,h2,by rw[s1.length,s2.length];exact hz,λp' hp=>?_⟩));obtain⟨a1,a2⟩:=zee ok hp (s1.append s2);exact k _ _ _ a1 a2 q
  .cases hr
 .split at hr
  .rename_i hz
   cases hr
   cases ix with
   | tuple h1 s1=>
     cases iy with
     | tuple h2 s2=>
       rename_i a xs b ys
       cases xs with
       | nil=>
         cases s1;exact .inr (.inr (.inr (.inr ⟨a,b,ys,rfl,rfl,h1,h2,k _ H (.o _) 3.0 (Is.tuple h2 s2) q⟩)))
       | cons z zs=>
         refine .inr (.inr (.inr (.inl ⟨a,b,_,ys,rfl,rfl,h1,h2,by simp,by rw[s1.length,s2.length];exact hz,λe=>?_,λ_ p' hp=>?_⟩)))
         .subst e;cases s2;rw[QR] at q;exact k _ H (.o _) 3.0 (Is.tuple h1 s1) q
         .obtain⟨a1,a2⟩:=zj6 ok hp (s1.append s2);exact k _ _ _ a1 a2 q
  .cases hr
 .cases hr
def idxF:GG->GG->Option R:=λd e=>match d,e with
 | .list ds,.int i=>(atI ds i).map .o
 | .tuple ds,.int i=>(atI ds i).map .o
 | .str x,.int i=>if x.length<=sizeLine then(atI x.cps.toList i).map λc=>.o (.str (sg c)) else none
 | _,_=>none
theorem z2s:OpD K O (rIx K) (fn2 idxF):=λH x y d e Q Qd ok p ix iy ⟨r,hr,q⟩ k=>by
 unfold idxF at hr
 split at hr
 .obtain⟨z,hz,rfl⟩:=Q2.mp hr;cases iy
  cases ix with
  | list f1 h1 s1=>
    obtain⟨v,hv,iv⟩:=zlu s1 hz;exact .inl ⟨_,_,_,v,rfl,rfl,.of h1,hv,k v H (.o z) 3.0 iv q⟩
 .obtain⟨z,hz,rfl⟩:=Q2.mp hr;cases iy
  cases ix with
  | tuple h1 s1=>
    obtain⟨v,hv,iv⟩:=zlu s1 hz;exact .inr (.inl ⟨_,_,_,v,rfl,rfl,h1,hv,k v H (.o z) 3.0 iv q⟩)
 .split at hr
  .rename_i hl
   obtain⟨c,hc,rfl⟩:=Q2.mp hr;cases iy;cases ix;exact .inr (.inr ⟨_,_,c,rfl,rfl,hl,hc,k _ H (.o _) 3.0 (Is.str _) q⟩)
  .cases hr
 .cases hr
abbrev DO:=DSt->(Option Int->Prop)->Prop
def OD(K:Qa)(O:Ob)(t:TO)(f:DO):Prop :=
 ∀(σ:St) (H:Hp) (ρ:DSt) (Q:Option Int->Hp->Prop) (Qd:Option Int->Prop),Seen K O H σ ρ->f ρ Qd->(∀o H',Stp O H H'->Qd o->Q o H')->t σ H Q
def noO:DO:=λ_ Q=>Q none
def zzx(f:DE):DO:=λρ Q=>f ρ λr=>∃i,r.d = .int i/\Q (some i)
theorem z3p:OD K O zqr noO:=λσ H ρ Q Qd S h k=>k none H 3.0 h
theorem z4p(h:ED K O t f):OD K O (zm0 t) (zzx f):=λσ H ρ Q Qd S hf k=>by
 refine h σ H ρ _ _ S hf λv H1 r s1 o1 zz=>?_;obtain⟨i,e,q⟩:=zz;have iv:=o1.is S.ok S.p;rw[e] at iv;cases iv;exact⟨i,rfl,k (some i) H1 s1 q⟩
def slcF(lo hi:Option Int):GG->Option R
 | .list ds=>some (.n (cutL ds lo hi))
 | .tuple ds=>some (.o (.tuple (cutL ds lo hi)))
 | .str x=>if x.length<=sizeLine then some (.o (.str (tx (cutL x.cps.toList lo hi)))) else none
 | _=>none
def slD(f:DE)(a b:DO):DE:=λρ Q=>f ρ λr=>a ρ λlo=>b ρ λhi=>∃s,slcF lo hi r.d=some s/\Q s
theorem zy0(h:ED K O t f)(ha:OD K O tl a)(hb:OD K O th b):ED K O (tSl (rSl K) t tl th) (slD f a b):=λσ H ρ Q Qd S hf k=>by
 refine h σ H ρ _ _ S hf λv H1 r s1 o1 q1=>?_;refine ha σ H1 ρ _ _ (S.stp s1) q1 λlo H2 s2 q2=>?_;refine hb σ H2 ρ _ _ ((S.stp s1).stp s2) q2 λhi H3 s3 zz=>?_;obtain⟨s,hr,q⟩:=zz;have st:=(s1.trans s2).trans s3;have iv:Is K 3.7 H3 v r.d:=Is.stp (s2.trans s3) (λ_ z=>z) (λ_ z=>z) (o1.is S.ok S.p);revert hr;generalize r.d=d at iv;intro hr;unfold slcF at hr
 split at hr
 .cases hr
  cases iv with
  | list f1 h1 z1=>
    refine .inl ⟨_,_,rfl,.of h1,λp hp=>?_⟩;obtain⟨a1,a2⟩:=zee S.ok hp (zgq z1 lo hi);exact k _ _ _ (st.trans a1) (Out.ahead S.ok S.p st a2) q
 .cases hr
  cases iv with
  | tuple h1 z1=>
    rename_i a' xs
    by_cases hw:HT.sIx xs.length 0 lo=0/\HT.sIx xs.length xs.length hi=xs.length
    .refine .inr (.inr (.inl ⟨a',xs,rfl,h1,hw,k _ H3 (.o _) st ?_ q⟩))
     have e:cutV xs lo hi=xs:=by
      unfold cutV;rw[hw.1,hw.2,JH,VM,Z4]
     have z2:=zgq z1 lo hi;rw[e] at z2;exact Is.tuple h1 z2
    .refine .inr (.inl ⟨a',xs,rfl,h1,hw,λp hp=>?_⟩);obtain⟨a1,a2⟩:=zj6 S.ok hp (zgq z1 lo hi);exact k _ _ _ (st.trans a1) (Out.ahead S.ok S.p st a2) q
 .split at hr
  .rename_i hl
   cases hr;cases iv;exact .inr (.inr (.inr ⟨_,rfl,hl,k _ H3 (.o _) st (Is.str _) q⟩))
  .cases hr
 .cases hr
def lenF:List GG->Option R
 | [.str x]=>if x.length<=sizeLine then some (.o (.int x.length)) else none
 | [.list ds]=>some (.o (.int ds.length))
 | [.tuple ds]=>some (.o (.int ds.length))
 | _=>none
theorem zb5{d:GG}(h:IsAll K F H vs [d]):∃v,vs = [v]/\Is K F H v d:=by
 cases h with
 | cons h1 h2=>cases h2;exact⟨_,rfl,h1⟩
theorem z5n:zg9 K O (λxs H Q=>∃x n,xs = [x]/\LenV K x H n/\Q (.int n) H) (fn1 lenF):=λH vs ds Q Qd ok p is ⟨r,hr,q⟩ k=>by
 unfold lenF at hr
 split at hr
 .split at hr
  .rename_i hl
   obtain⟨v,rfl,iv⟩:=zb5 is;cases iv;cases hr;exact⟨_,_,rfl,⟨hl,rfl⟩,k _ H (.o _) 3.0 (Is.int _) q⟩
  .cases hr
 .obtain⟨v,rfl,iv⟩:=zb5 is;cases hr
  cases iv with
  | list f1 h1 s1=>exact⟨_,_,rfl,.inl ⟨_,.of h1,s1.length.symm⟩,k _ H (.o _) 3.0 (Is.int _) q⟩
 .obtain⟨v,rfl,iv⟩:=zb5 is;cases hr
  cases iv with
  | tuple h1 s1=>exact⟨_,_,rfl,.inr ⟨_,h1,s1.length.symm⟩,k _ H (.o _) 3.0 (Is.int _) q⟩
 .cases hr
def allD(any:Bool):List GG->2.7->Prop:=λds Q=>∃bs:List Bool,ds = [.list (bs.map .bool)]/\Q (.o (.bool (if any then bs.any id else bs.all id)))
theorem z8d(any:Bool):zg9 K O (rAll any) (allD any):=λH vs ds Q Qd ok p is ⟨bs,e,q⟩ k=>by
 subst e;obtain⟨v,rfl,iv⟩:=zb5 is
 cases iv with
 | list f1 h1 s1=>
   rw[zhv s1] at h1;exact⟨_,bs,rfl,h1,k _ H (.o _) 3.0 (Is.bool _) q⟩
def tupF:List GG->Option R
 | [.list ds]=>some (.o (.tuple ds))
 | [.tuple ds]=>some (.o (.tuple ds))
 | _=>none
theorem zyn:zg9 K O (λxs H Q=>∃p ys,xs = [.ref p]/\((SqL K H p ys/\∀l,H l=none->Q (.ref l) (upd H l (.tup ys)))\/(SqT K H p ys/\Q (.ref p) H))) (fn1 tupF):=λH vs ds Q Qd ok p is ⟨r,hr,q⟩ k=>by
 unfold tupF at hr
 split at hr
 .obtain⟨v,rfl,iv⟩:=zb5 is;cases hr
  cases iv with
  | list f1 h1 s1=>
    refine⟨_,_,rfl,.inl ⟨.of h1,λl hl=>?_⟩⟩;obtain⟨a1,a2⟩:=zj6 ok hl s1;exact k _ _ _ a1 a2 q
 .obtain⟨v,rfl,iv⟩:=zb5 is;cases hr
  cases iv with
  | tuple h1 s1=>exact⟨_,_,rfl,.inr ⟨h1,k _ H (.o _) 3.0 (Is.tuple h1 s1) q⟩⟩
 .cases hr
def zzs(fo:DE)(fa:DE):DE:=λρ Q=>fo ρ λr0=>∃sep,r0.d = .str sep/\fa ρ λr=>∃ys:List Str,r.d = .list (ys.map .str)/\(ys.map (·.length)).sum+ys.length * sep.length<=16777216/\Q (.o (.str (Gx sep ys)))
theorem z2r{to:TE}(ho:ED K O to fo)(ha:ED K O ta fa):ED K O (tBM K "str" zjx to (zar ta tNil)) (zzs fo fa):=λσ H ρ Q Qd S hf k=>by
 refine ho σ H ρ _ _ S hf λv H1 r0 s1 o1 zz=>?_;obtain⟨sep,e0,q1⟩:=zz;have i0:=o1.is S.ok S.p;rw[e0] at i0;cases i0;refine 3.2;refine ha σ H1 ρ _ _ (S.stp s1) q1 λw H2 r s2 o2 zz=>?_;obtain⟨ys,e,hz,q⟩:=zz;have i1:=o2.is S.ok (s1.p S.p);rw[e] at i1
 cases i1 with
 | list f1 h1 z1=>
   rw[zf6 z1] at h1;exact⟨sep,_,ys,rfl,rfl,h1,hz,k _ H2 (.o _) 6.0 (Is.str _) q⟩
end
structure Ctx3{ι:Type}(P:GK)(w:GM)(K:Qa)(mg:0.4)(base:Heap)(k:Nat)(X:ι->Cx):Prop where
 hP:∀i,(X i).prog=P
 hw:∀i,(X i).w=w
 hK:∀i,(X i).K=K
 hmg:∀i,(X i).mg=mg
 hb:∀i,(X i).base=base
 calm:∀i,(X i).calm=true
 room:∀i,Room k (X i).A
 xe:∀i,(X i).xe=λ_ _=>False
def E3{ι κ:Type}(K:Qa)(X:ι->Cx)(O:κ->Ob)(e:Expr)(f:DE):Prop:=∃t,(∀i,PE (X i) e t)/\∀j,ED K (O j) t f
def T3{ι κ:Type}(K:Qa)(X:ι->Cx)(O:κ->Ob)(e:Expr)(f:DT):Prop:=∃t,(∀i,PT (X i) e t)/\∀j,TD K (O j) t f
def W3{ι κ:Type}(K:Qa)(X:ι->Cx)(O:κ->Ob)(e:Expr)(f:DT):Prop:=∃t,(∀i,PW (X i) e t)/\∀j,TD K (O j) t f
def A3{ι κ:Type}(K:Qa)(X:ι->Cx)(O:κ->Ob)(es:List Expr)(f:DA):Prop:=∃t,(∀i,PA (X i) es t)/\∀j,AD K (O j) t f
def I3{ι κ:Type}(K:Qa)(X:ι->Cx)(O:κ->Ob)(tg e:Expr)(f:DI):Prop:=∃t,(∀i,PI (X i) tg e t)/\∀j,SrcS K (O j) t f
def J3{ι κ:Type}(K:Qa)(X:ι->Cx)(O:κ->Ob)(tg e:Expr)(f:DJ):Prop:=∃t,(∀i,PI (X i) tg e t)/\∀j,SrcR K (O j) t f
def S3{ι κ:Type}(K:Qa)(X:ι->Cx)(O:κ->Ob)(s:Stmt)(g:DS):Prop:=∃t,(∀i,PS (X i) s t)/\∀j,SD K (O j) t g
def Ss3{ι κ:Type}(K:Qa)(X:ι->Cx)(O:κ->Ob)(s:List Stmt)(g:DS):Prop:=∃t,(∀i,PSs (X i) s t)/\∀j,SD K (O j) t g
def O3{ι κ:Type}(K:Qa)(X:ι->Cx)(O:κ->Ob)(e:Option Expr)(f:DO):Prop:=∃t,(∀i,PO (X i) e t)/\∀j,OD K (O j) t f
def G3{ι:Type}(K:Qa)(X:ι->Cx)(h:Nat)(tg:Expr)(g:DG):Prop:=∃t,(∀i,PG (X i) tg t)/\(∀O:Ob,GS K O t g)/\(∀O:Ob,GR K O t g)/\OwnG h t
section
variable {ι κ:Type}{P:GK}{w:GM}{K:Qa}{mg:0.4}{base:Heap}{k:Nat}{X:ι->Cx}{O:κ->Ob}{a b c:Expr}{fa fb fc:DE}{pos:Pos}
theorem zaa(n:Nat)(hN:1.8:=by intro i;rfl)(hv:2.6:=by intro i;first|exact Or.inl rfl|exact Or.inr 4.5|exact Or.inr 4.4)
 (hd:1.1:=by decide) (hcd:2.0:=by decide):E3 K X O (.Name x pos) (vD n):=⟨_,λi=>zag (hN i) (hv i) hd hcd,λj=>z7q⟩
theorem zak{n:Int}{j:Nat}:E3 K X O (.Constant (.int n) j pos) (cD (.int n)):=⟨_,λi=>zau,λj=>z8b⟩
theorem zsv{j:Nat}:E3 K X O (.Constant (.str x) j pos) (cD (.str x)):=⟨_,λi=>zbm,λj=>z6h⟩
theorem e_bl{x:Bool}{j:Nat}:E3 K X O (.Constant (.bool x) j pos) (cD (.bool x)):=⟨_,λi=>z0o,λj=>z9w⟩
theorem z0h{j:Nat}:E3 K X O (.Constant .none j pos) (cD .none):=⟨_,λi=>z6y,λj=>z8k⟩
theorem e_op(ho:∀i,OpR (X i) (TU op) r)(hd:∀j,OpD K (O j) r F)(ha:2.2)(hb:E3 K X O b fb):E3 K X O (.BinOp a op b pos) (opDE F fa fb) :=
 let ⟨_,p1,d1⟩:=ha;let ⟨_,p2,d2⟩:=hb;⟨_,λi=>za8 (ho i) (p1 i) (p2 i),λj=>zmp (hd j) (d1 j) (d2 j)⟩
theorem zct(C:0.6)(ha:2.2)(hb:E3 K X O b fb):E3 K X O (.BinOp a .Add b pos) (opDE (fn2 addF) fa fb):=e_op (λi=>by have h:=z2h (X:=X i);rw[C.hK] at h;exact h) (λ_=>z2n) ha hb
theorem yas(ha:2.2)(hb:E3 K X O b fb):E3 K X O (.BinOp a .Sub b pos) (opDE (fn2 (intF λi j=>.int (i-j))) fa fb):=e_op (λi=>zt3) (λ_=>z1k) ha hb
theorem zz3(ho:∀i,OpR (X i) (Tb op) r)(hd:∀j,OpD K (O j) r F)(ha:2.2)(hb:E3 K X O b fb)(hm:Ti op b=false):E3 K X O (.Compare a [op] [b] pos) (opDE F fa fb) :=
 let ⟨_,p1,d1⟩:=ha;let ⟨_,p2,d2⟩:=hb;⟨_,λi=>z4h (ho i) (p1 i) (p2 i) hm,λj=>zmp (hd j) (d1 j) (d2 j)⟩
theorem zm1(ho:∀i,OpR (X i) (Tb op) r)(hd:∀j,OpD K (O j) r F)(ha:2.2)(hb:E3 K X O b fb)(hm:Ti op b=false):T3 K X O (.Compare a [op] [b] pos) (bD (opDE F fa fb)) :=
 let ⟨_,p1,d1⟩:=ha;let ⟨_,p2,d2⟩:=hb;⟨_,λi=>ze4 (ho i) (p1 i) (p2 i) hm,λj=>z6o (zmp (hd j) (d1 j) (d2 j))⟩
theorem z0t(C:0.6):∀i,OpR (X i) (Tb .Eq) (rEqD K false):=λi=>by have h:=z6v (X:=X i) (C.room i).units;rw[C.hK] at h;exact h
theorem z9h(C:0.6):∀i,OpR (X i) (Tb .NotEq) (rEqD K true):=λi=>by have h:=z7b (X:=X i) (C.room i).units;rw[C.hK] at h;exact h
theorem zys(C:0.6):∀i,OpR (X i) (Tb .NotIn) (zlb K):=λi=>by have h:=zt2 (X:=X i) (C.room i).units;rw[C.hK] at h;exact h
theorem e_eq(C:0.6)(ha:2.2)(hb:E3 K X O b fb):E3 K X O (.Compare a [.Eq] [b] pos) (opDE (fn2 (eqF false)) fa fb):=zz3 (z0t C) (λ_=>znz false) ha hb (zcv b)
theorem z3e(ha:2.2)(hb:E3 K X O b fb):E3 K X O (.Compare a [.IsNot] [b] pos) (opDE (isNF true) fa fb):=zz3 (λi=>z4v) (λ_=>zy2) ha hb (zcv b)
theorem t_eq(C:0.6)(ha:2.2)(hb:E3 K X O b fb):T3 K X O (.Compare a [.Eq] [b] pos) (bD (opDE (fn2 (eqF false)) fa fb)):=zm1 (z0t C) (λ_=>znz false) ha hb (zcv b)
theorem t_ne(C:0.6)(ha:2.2)(hb:E3 K X O b fb):T3 K X O (.Compare a [.NotEq] [b] pos) (bD (opDE (fn2 (eqF true)) fa fb)):=zm1 (z9h C) (λ_=>znz true) ha hb (zcv b)
theorem t_lt(ha:2.2)(hb:E3 K X O b fb):T3 K X O (.Compare a [.Lt] [b] pos) (bD (opDE (fn2 (intF λi j=>.bool (decide (i<j)))) fa fb)):=zm1 (λi=>z9v) (λ_=>z7v) ha hb (zcv b)
theorem zqo(C:0.6)(ha:2.2)(hb:E3 K X O b fb)(hm:Ti .NotIn b=false:=by rfl):T3 K X O (.Compare a [.NotIn] [b] pos) (bD (opDE (fn2 (inF true)) fa fb)):=zm1 (zys C) (λ_=>zwr) ha hb hm
variable {ft fu:DT}{rest:List Expr}
theorem zhc(ha:2.2)(he:∀i whole,isTrue a (X i).env whole=(do let v <- whole;standAt a.pos;holding [v] (truthy v)):=by intro _ _;rfl):T3 K X O a (bD fa):=let ⟨_,p,d⟩:=ha;⟨_,λi=>z6f (p i) (he i),λj=>zrj (d j)⟩
theorem zmu(h:T3 K X O a ft):T3 K X O (.UnaryOp .Not a pos) (notT ft):=let ⟨_,p,d⟩:=h;⟨_,λi=>z7x (p i),λj=>z7e (d j)⟩
theorem zvq(h:T3 K X O a ft):W3 K X O (.BoolOp .And [a] pos) ft:=let ⟨_,p,d⟩:=h;⟨_,λi=>zq2 (p i),d⟩
theorem zsd(h:T3 K X O a ft):W3 K X O (.BoolOp .Or [a] pos) ft:=let ⟨_,p,d⟩:=h;⟨_,λi=>z6i (p i),d⟩
theorem z0q(h:T3 K X O a ft)(h':W3 K X O (.BoolOp .And (b::rest) pos) fu):W3 K X O (.BoolOp .And (a::b::rest) pos) (andT ft fu):=let ⟨_,p,d⟩:=h;let ⟨_,p2,d2⟩:=h';⟨_,λi=>zvo (p i) (p2 i),λj=>z5v (d j) (d2 j)⟩
theorem w_or(h:T3 K X O a ft)(h':W3 K X O (.BoolOp .Or (b::rest) pos) fu):W3 K X O (.BoolOp .Or (a::b::rest) pos) (orT ft fu):=let ⟨_,p,d⟩:=h;let ⟨_,p2,d2⟩:=h';⟨_,λi=>yaf (p i) (p2 i),λj=>yac (d j) (d2 j)⟩
theorem t_w(h:W3 K X O a ft):T3 K X O a ft:=let ⟨_,p,d⟩:=h;⟨_,λi=>(p i).pt,d⟩
theorem zi6(h:2.2):E3 K X O (.BoolOp op [a] pos) fa:=let ⟨_,p,d⟩:=h;⟨_,λi=>z5o (p i),d⟩
theorem zsy(h:2.2)(h':E3 K X O (.BoolOp .And (b::rest) pos) fb):E3 K X O (.BoolOp .And (a::b::rest) pos) (andV fa fb):=let ⟨_,p,d⟩:=h;let ⟨_,p2,d2⟩:=h';⟨_,λi=>z5u (p i) (p2 i),λj=>z2b (d j) (d2 j)⟩
theorem e_or(h:2.2)(h':E3 K X O (.BoolOp .Or (b::rest) pos) fb):E3 K X O (.BoolOp .Or (a::b::rest) pos) (orV fa fb):=let ⟨_,p,d⟩:=h;let ⟨_,p2,d2⟩:=h';⟨_,λi=>z9y (p i) (p2 i),λj=>z7g (d j) (d2 j)⟩
theorem yan(h:2.2):E3 K X O (.UnaryOp .Not a pos) (notV fa):=let ⟨_,p,d⟩:=h;⟨_,λi=>z5d (p i),λj=>z2m (d j)⟩
variable {es:List Expr}{ga:DA}
theorem zaf:A3 K X O [] aNil:=⟨_,λi=>zbk,λj=>z7a⟩
theorem zab(ha:2.2)(hr:A3 K X O es ga)(hs:6.5:=by intro i;rfl):A3 K X O (a::es) (zdq fa ga):=let ⟨_,p,d⟩:=ha;let ⟨_,p2,d2⟩:=hr;⟨_,λi=>zao (p i) (p2 i) (hs i),λj=>z1p (d j) (d2 j)⟩
theorem zms{n:Nat}(h:A3 K X O es ga):E3 K X O (.Tuple es n pos) (tupD ga):=let ⟨_,p,d⟩:=h;⟨_,λi=>z6s (p i),λj=>z8j (d j)⟩
theorem zc0(h:A3 K X O es ga):E3 K X O (.List es pos) (lstD ga):=let ⟨_,p,d⟩:=h;⟨_,λi=>z8o (p i),λj=>z8w (d j)⟩
theorem zba(C:0.6)(ha:2.2)(hb:E3 K X O b fb)(hs:zrk b:=by intro _ _;rfl):E3 K X O (.Subscript a b pos) (opDE (fn2 idxF) fa fb) :=
 let ⟨_,p1,d1⟩:=ha;let ⟨_,p2,d2⟩:=hb;⟨tOp (rIx K) _ _,λi=>by have h:=yat (pos:=pos) (z8z (X:=X i)) (p1 i) (p2 i) hs;rw[C.hK] at h;exact h,λj=>zmp z2s (d1 j) (d2 j)⟩
theorem zgx:O3 K X O none noO:=⟨_,λi=>z3f,λj=>z3p⟩
theorem zgv(ha:2.2):O3 K X O (some a) (zzx fa):=let ⟨_,p,d⟩:=ha;⟨_,λi=>zky (p i),λj=>z4p (d j)⟩
theorem zfh(C:0.6){lo hi:Option Expr}{fl fh:DO}{p2:Pos}(ha:2.2)(hl:O3 K X O lo fl)(hh:O3 K X O hi fh):E3 K X O (.Subscript a (.Slice lo hi none p2) pos) (slD fa fl fh) :=
 let ⟨_,p1,d1⟩:=ha;let ⟨_,q2,d2⟩:=hl;let ⟨_,q3,d3⟩:=hh;⟨tSl (rSl K) _ _ _,λi=>by have h:=zoc (pos:=pos) (p2:=p2) (z5g (X:=X i)) (p1 i) (q2 i) (q3 i);rw[C.hK] at h;exact h,λj=>zy0 (d1 j) (d2 j) (d3 j)⟩
theorem z1e{x:Str}{id:String}{r:List V->Hp->VK->Prop}{F:List GG->2.7->Prop}{p:Pos}(C:0.6)(hc:∀i,zcz (X i) (.builtin id) r)(hd:∀j,zg9 K (O j) r F)(hv:Tf x=some (.builtin id))(hm:mg x=none)(ha:A3 K X O (a::es) ga)
 (hg:∀i,Gl (X i) x:=by intro i;rfl) (hn:x ≠ "__name__" := by decide) (hdb:1.1:=by decide) (he:6.5:=by intro i;rfl) (hpl:∀i,(TM pos (GN es (X i).env)).any (·.1)=false:=by intro i;rfl) :
 E3 K X O (.Call (.Name x p) (a::es) [] pos) (zdd F ga):=let ⟨_,q,d⟩:=ha;⟨_,λi=>zd5 (hc i) (hg i) (by rw[C.hmg];exact hm) hv (q i) hn hdb (he i) (hpl i),λj=>znw (hd j) (d j)⟩
theorem z9g(C:0.6)(hc:∀i,zcz (X i) (.type T) r)(hd:∀j,zg9 K (O j) r F)(hv:Tf x=some (.type T))(hm:mg x=none)(ha:A3 K X O (a::es) ga)
 (hg:∀i,Gl (X i) x:=by intro i;rfl) (hn:x ≠ "__name__" := by decide) (hdb:1.1:=by decide) (he:6.5:=by intro i;rfl) (hpl:∀i,(TM pos (GN es (X i).env)).any (·.1)=false:=by intro i;rfl) :
 E3 K X O (.Call (.Name x p) (a::es) [] pos) (zdd F ga):=let ⟨_,q,d⟩:=ha;⟨_,λi=>zgy (hc i) (hg i) (by rw[C.hmg];exact hm) hv (q i) hn hdb (he i) (hpl i),λj=>znw (hd j) (d j)⟩
end
theorem zpb:Tf "len" = some (.builtin "len"):=by decide +kernel
theorem z5r:Tf "all" = some (.builtin "all"):=by decide +kernel
theorem zes:Tf "sorted" = some (.builtin "sorted"):=by decide +kernel
theorem zqx:Tf "list" = some (.type "list"):=by decide +kernel
theorem zzi:Tf "tuple" = some (.type "tuple"):=by decide +kernel
structure Blt(mg:0.4):Prop where
 len:mg "len" = none
 all:mg "all" = none
 any:mg "any" = none
 sorted:mg "sorted" = none
 min:mg "min" = none
 max:mg "max" = none
 repr:mg "repr" = none
 int:mg "int" = none
 list:mg "list" = none
 tuple:mg "tuple" = none
 range:mg "range" = none
 set:mg "set" = none
 isinstance:mg "isinstance" = none
 enumerate:mg "enumerate" = none
 zip:mg "zip" = none
 reversed:mg "reversed" = none
 str:mg "str" = none
 sum:mg "sum" = none
 dict:mg "dict" = none
 bool:mg "bool" = none
structure Def3(P:GK)(w:GM)(K:Qa)(mg:0.4)(base:Heap)(k:Nat)(x:Str)(ps:2.4)(sp:Sp):Prop where
 ex:∃f fd,FnOk P w K mg base CX0 k f fd ps sp/\mg x=some (.ref f)/\Yg K (.ref f)=true/\Binds K fd ps []
structure Top3(K:Qa)(mg:0.4)(x:Str)(st:Stmt):Prop where
 ex:∃f fd,Fun K x x st f fd/\mg x=some (.ref f)
structure CIx where
 C:Addr
 s:GJ
 H:Hp
 ex:List Addr
def zfm{ι:Type}(X:ι->Cx)(scope:TH)(N':2.4):ι×CIx->Cx:=λp=>zbv (X p.1) scope N' p.2.C p.2.s p.2.H p.2.ex
def zjm{κ:Type}(O:κ->Ob):{ p:κ×(Addr×List V) // ¬(O p.1).M p.2.1 }->Ob:=λp=>(O p.1.1).plus p.1.2.1 (.lst p.1.2.2)
def F3{ι κ:Type}(K:Qa)(X:ι->Cx)(O:κ->Ob)(ifs:List Expr)(f:DT):Prop:=∃t,(∀i,PF (X i) ifs t)/\∀j,TD K (O j) t f
def yesD:DT:=λ_ Q=>Q true
section
variable {ι κ:Type}{P:GK}{w:GM}{K:Qa}{mg:0.4}{base:Heap}{k:Nat}{X:ι->Cx}{O:κ->Ob}{a b c tg:Expr}{fa fb fc:DE}{pos p:Pos}{es:List Expr}{ga:DA}
theorem Ctx3.comp(C:0.6)(scope:TH)(N':2.4):Ctx3 P w K mg base k (zfm X scope N'):=⟨λi=>C.hP i.1,λi=>C.hw i.1,λi=>C.hK i.1,λi=>C.hmg i.1,λi=>C.hb i.1,λi=>C.calm i.1,λi=>C.room i.1,λ_=>rfl⟩
theorem zhr(C:0.6)(B:Blt mg)(ha:A3 K X O [a] ga)(hg:∀i,Gl (X i) "len" := by intro i;rfl)(he:∀i,GN [a] (X i).env=4.3::GN [] (X i).env:=by intro i;rfl):E3 K X O (.Call (.Name "len" p) [a] [] pos) (zdd (fn1 lenF) ga) :=
 z1e C (λi=>by have h:=zh5 (X:=X i);rw[C.hK] at h;exact h) (λ_=>z5n) zpb B.len ha hg 0.2 0.2 he
theorem yal(C:0.6)(B:Blt mg)(ha:A3 K X O [a] ga)(hg:∀i,Gl (X i) "all" := by intro i;rfl)(he:∀i,GN [a] (X i).env=4.3::GN [] (X i).env:=by intro i;rfl):E3 K X O (.Call (.Name "all" p) [a] [] pos) (zdd (allD false) ga) :=
 z1e C (λi=>zva (C.calm i)) (λ_=>z8d false) z5r B.all ha hg 0.2 0.2 he
theorem zf1(C:0.6)(B:Blt mg)(ha:A3 K X O [a] ga)(hg:∀i,Gl (X i) "tuple" := by intro i;rfl)(he:∀i,GN [a] (X i).env=4.3::GN [] (X i).env:=by intro i;rfl):E3 K X O (.Call (.Name "tuple" p) [a] [] pos) (zdd (fn1 tupF) ga) :=
 z9g C (λi=>by have h:=zmm (X:=X i);rw[C.hK] at h;exact h) (λ_=>zyn) zzi B.tuple ha hg 0.2 0.2 he
theorem zo8{X:Cx}:MtR X "str.join" zjx:=λpins s σ H x xs v us Q I rx rv h=>z5b pins s σ H x xs v us Q I rx rv h
theorem z6b{apos:Pos}(C:0.6)(ho:2.2)(hb:E3 K X O b fb)(hbase:∀i,Th a "join" (X i).env (eval a (X i).env)=eval a (X i).env:=by intro i;rfl)
 (hfew:∀i,((TM pos (GN [b] (X i).env)).all (λx=>!x.1) && (Nq pos (M5 [] (X i).env)).all (λx=>x.1.isSome) && decide (([b]:List Expr).length+([]:List Mw).length+(if([]:List Mw).isEmpty then 0 else 1)<30))=true:=by intro i;rfl)
 (hline:(apos.endLine == pos.line)=true:=by rfl) (hs:∀i,GN [b] (X i).env = [(false,eval b (X i).env)]:=by intro i;rfl):E3 K X O (.Call (.Attribute a "join" apos) [b] [] pos) (zzs fa fb) :=
 let ⟨_,p1,d1⟩:=ho;let ⟨_,p2,d2⟩:=hb;⟨tBM K "str" zjx _ (zar _ tNil),λi=>by
  have h:=zg8 (apos:=apos) (cpos:=pos) YD VT VU (zo8 (X:=X i)) (p1 i) (zao (p2 i) zbk (hs i)) (hbase i) (hfew i) hline (hs i);rw[C.hK] at h
  exact h,λj=>z2r (d1 j) (d2 j)⟩
theorem zal{k' n:Nat}(C:0.6)(D:Def3 P w K mg base k' x ps (spO K φ n F))(hφ:∀j,φ (O j))(ha:A3 K X O (a::es) ga)(hk:k'<=k:=by decide)(hg:∀i,Gl (X i) x:=by intro i;rfl)
 (hdb:1.1:=by decide) (he:6.5:=by intro i;rfl) (hpl:∀i,(TM pos (GN es (X i).env)).any (·.1)=false:=by intro i;rfl):E3 K X O (.Call (.Name x p) (a::es) [] pos) (calD n F ga):=by
 obtain⟨f,fd,G,m,kp,bn⟩:=D.ex;obtain⟨t,q,d⟩:=ha;refine⟨zda (spO K φ n F) [] E0 t,λi=>?_,λj=>z3j (hφ j) (d j)⟩;have G':FnOk (X i).prog (X i).w (X i).K (X i).mg (X i).base CX0 k f fd ps (spO K φ n F):=by rw[C.hP,C.hw,C.hK,C.hmg,C.hb];exact G.mono hk
 exact zfg G' (C.room i) (hg i) (by rw[C.hmg];exact m) (by rw[C.hK];exact kp) (by rw[C.hK];exact bn) .nil zit (q i) hdb (he i) (hpl i)
theorem zbs{k' n:Nat}(v:Nat)(C:0.6)(D:Def3 P w K mg base k' x ps (spD K φ n F))(hφ:∀j,φ (O j))(ha:A3 K X O es ga)(hk:k'<=k:=by decide)(hg:∀i,Gl (X i) x:=by intro i;rfl)
 (hN:∀i,(X i).N[v]? = some y:=by intro i;rfl) (hv:∀i,Vis (X i).env.scope y:=by intro i;first|exact Or.inl rfl|exact Or.inr 4.5|exact Or.inr 4.4) (hd:(y == ("__debug__" : Str))=false:=by decide) (hcd:(y == ("__classdict__" : Str))=false:=by decide)
 (hdb:1.1:=by decide) (he:∀i,GN (.Name y py::es) (X i).env=(false,eval (.Name y py) (X i).env)::GN es (X i).env:=by intro i;rfl) (hpl:∀i,(TM pos (GN es (X i).env)).any (·.1)=false:=by intro i;rfl) :
 E3 K X O (.Call (.Name x p) (.Name y py::es) [] pos) (calO v n F ga):=by
 obtain⟨f,fd,G,m,kp,bn⟩:=D.ex;obtain⟨t,q,d⟩:=ha;refine⟨zda (spD K φ n F) [] E0 (zar (tVar v) t),λi=>?_,λj=>zye (hφ j) (d j)⟩;have G':FnOk (X i).prog (X i).w (X i).K (X i).mg (X i).base CX0 k f fd ps (spD K φ n F):=by rw[C.hP,C.hw,C.hK,C.hmg,C.hb];exact G.mono hk
 exact zfg G' (C.room i) (hg i) (by rw[C.hmg];exact m) (by rw[C.hK];exact kp) (by rw[C.hK];exact bn) .nil zit (zao (zag (hN i) (hv i) hd hcd) (q i) (he i)) hdb (he i) (hpl i)
theorem ze2(C:0.6)(ha:2.2):I3 K X O tg a (srcL fa):=let ⟨_,p,d⟩:=ha;⟨zel K _,λi=>by have h:=ze6 (tg:=tg) (p i);rw[C.hK] at h;exact h,λj=>zyj (d j)⟩
theorem zho(C:0.6)(ha:2.2):I3 K X O tg a (srcT fa):=let ⟨_,p,d⟩:=ha;⟨iTup K _,λi=>by have h:=z6w (tg:=tg) (p i);rw[C.hK] at h;exact h,λj=>z2v (d j)⟩
theorem zsk(ha:2.2):I3 K X O tg a (srcS fa):=let ⟨_,p,d⟩:=ha;⟨_,λi=>z6z (p i),λj=>z3k (d j)⟩
theorem i_r1(C:0.6)(B:Blt mg)(ha:A3 K X O [a] ga)(hg:∀i,Gl (X i) "range" := by intro i;rfl)(hs:∀i,GN [a] (X i).env = [4.3]:=by intro i;rfl):I3 K X O tg (.Call (.Name "range" p) [a] [] pos) (zz9 ga) :=
 let ⟨_,q,d⟩:=ha;⟨_,λi=>zl7 (hg i) (by rw[C.hmg];exact B.range) (q i) (hs i),λj=>zy1 (d j)⟩
theorem zek(h:I3 K X O tg a fi):J3 K X O tg a (newJ fi):=let ⟨_,p,d⟩:=h;⟨_,p,λj=>z1t (d j)⟩
theorem zrr(C:0.6)(n:Nat)(hN:1.8:=by intro i;rfl)(hv:2.6:=by intro i;first|exact Or.inl rfl|exact Or.inr 4.5|exact Or.inr 4.4)(hd:1.1:=by decide)(hcd:2.0:=by decide):
 J3 K X O tg (.Name x pos) (varJ n):=⟨zel K (tVar n),λi=>by have h:=ze6 (tg:=tg) (X:=X i) (zag (pos:=pos) (hN i) (hv i) hd hcd);rw[C.hK] at h;exact h,λj=>zyd⟩
theorem za3{h:Nat}(n:Nat)(hlt:n<h:=by decide)(hN:∀i,(X i).N.Nodup:=by intro i;exact NL 2.5)(hi:1.8:=by intro i;rfl)(hx:∀i,Loc (X i).env.scope x:=by intro i;first|exact Or.inl rfl|exact Or.inr rfl)
 (hf:6.2:=by intro i;first|exact .inl rfl|exact .inr rfl):G3 K X h (.Name x pos) (gN n):=⟨_,λi=>zdw (hN i) (hi i) (hx i) (hf i),λ_=>z4j,λ_=>z3w,zd7 hlt⟩
def Gs3{ι:Type}(K:Qa)(X:ι->Cx)(h:Nat)(es:List Expr)(is:0.7):Prop:=∃t,(∀i,PGs (X i) es t)/\(∀O:Ob,GSs K O t is)/\(∀O:Ob,GRs K O t is)/\zjs h t/\zjn t
theorem zu0{h:Nat}:Gs3 K X h [] []:=⟨_,λi=>z1s,λ_=>z4q,λ_=>z4k,z2q,z5c⟩
theorem zhi{h:Nat}{is:0.7}(n:Nat)(hr:Gs3 K X h es is)(hlt:n<h:=by decide)(hN:∀i,(X i).N.Nodup:=by intro i;exact NL 2.5)(hi:1.8:=by intro i;rfl)(hx:∀i,Loc (X i).env.scope x:=by intro i;first|exact Or.inl rfl|exact Or.inr rfl)
 (hf:6.2:=by intro i;first|exact .inl rfl|exact .inr rfl) (hs:∀i,(Mc (.Name x pos::es) (X i).env).map (·.2)=Ny (.Name x pos) (X i).env::(Mc es (X i).env).map (·.2):=by intro i;rfl):Gs3 K X h (.Name x pos::es) (n::is) :=
 let ⟨_,p,d1,d2,o,m⟩:=hr;⟨_,λi=>zx0 (zdw (hN i) (hi i) (hx i) (hf i)) (p i) (hs i),λO=>zy8 (d1 O),λO=>zyr (d2 O),zx9 zoe m (zd7 hlt) o,zzd zoe m⟩
theorem zz4{h n:Nat}{is:0.7}{j:Nat}(C:0.6)(hr:Gs3 K X h es is)(hn:is.length=n:=by rfl)(hn2:∀i,(Mc es (X i).env).length=n:=by intro i;rfl)(hst:∀i,(Mc es (X i).env).findIdx? (·.1)=none:=by intro i;rfl):G3 K X h (.Tuple es j pos) (gT is) :=
 let ⟨_,p,d1,d2,o,m⟩:=hr;⟨_,λi=>by have z:=z7d (pos:=pos) (k:=j) (C.calm i) (p i) (hn2 i) (hst i);rw[C.hK] at z;exact z,λO=>z8u hn (d1 O),λO=>z5w hn (d2 O),z1m o⟩
theorem z9s{n:Int}{j:Nat}: E3 K X O (.UnaryOp .USub (.Constant (.int n) j p2) pos) (cD (.int (-n))):=⟨tUn (rU λi=>.int (-i)) (tC (.int n)),λi=>yah z6n zau,λ_ σ H ρ Q Qd S h kk=>⟨n,rfl,kk _ H (.o _) 3.0 (Is.int _) h⟩⟩
theorem zfq: F3 K X O' [] yesD:=⟨_,λi=>zox,λj σ H ρ Q Qd S h k=>k true H 3.0 h⟩
theorem zmv(h:T3 K X O c ft):F3 K X O [c] ft:=let ⟨_,p,d⟩:=h;⟨_,λi=>zuo (p i),d⟩
theorem zcr{iter:Expr}{scope:TH}(h:Nat)(N':2.4)(C:0.6)(S:∀i,ScopeOk h N' (X i).N scope (X i).env.scope)(hs:I3 K X O tg iter fi)
 (hg:G3 K (zfm X scope N') h tg g) (hf:F3 K (zfm X scope N') (zjm O) ifs ft) (he:E3 K (zfm X scope N') (zjm O) elt fe) (hset:∀i x,Tv iter (X i).env x=pure x:=by intro _ _;rfl) :
 E3 K X O (.ListComp elt [⟨tg,iter,ifs,0⟩] scope pos) (zs1 h fi g ft fe):=by
 obtain⟨ti,p1,d1⟩:=hs;obtain⟨tg',p2,d2,_,ow⟩:=hg;obtain⟨tf,p3,d3⟩:=hf;obtain⟨te,p4,d4⟩:=he;exact⟨_,λi=>zkm h (S i) (C.calm i) (p1 i) (λc s H ex=>p2 (i,⟨c,s,H,ex⟩)) ow (λc s H ex=>p3 (i,⟨c,s,H,ex⟩)) (λc s H ex=>p4 (i,⟨c,s,H,ex⟩)) (hset i),λj=>zq5 (d1 j) d2 (λD xs nm=>d3 ⟨(j,(D,xs)),nm⟩) λD xs nm=>d4 ⟨(j,(D,xs)),nm⟩⟩
variable {st:Stmt}{sts:List Stmt}{g1 g2:DS}{ft:DT}
theorem zbn:Ss3 K X O [] (λDd ρ=>Dd.nx ρ):=⟨_,λi=>zql,λj=>z2d⟩
theorem zai(h:S3 K X O st g1):Ss3 K X O [st] g1:=let ⟨_,p,d⟩:=h;⟨_,λi=>zcq (p i),d⟩
theorem zah(h:S3 K X O st g1)(h':Ss3 K X O sts g2):Ss3 K X O (st::sts) (seqD g1 g2):=let ⟨_,p,d⟩:=h;let ⟨_,p2,d2⟩:=h';⟨_,λi=>za7 (p i) (p2 i),λj=>z8h (d j) (d2 j)⟩
theorem zax(ha:2.2):S3 K X O (.Return (some a) pos) (retS fa):=let ⟨_,p,d⟩:=ha;⟨_,λi=>zd1 (p i),λj=>z7u (d j)⟩
theorem zm4(n:Nat)(hN:1.8:=by intro i;rfl)(hv:2.6:=by intro i;first|exact Or.inl rfl|exact Or.inr 4.5|exact Or.inr 4.4)(hd:1.1:=by decide)(hcd:2.0:=by decide):
 S3 K X O (.Return (some 1.9) pos) (retO n):=⟨_,λi=>zd1 (zag (hN i) (hv i) hd hcd),λj=>zw4⟩
theorem s_if(hc:T3 K X O c ft)(h:Ss3 K X O sa g1)(h':Ss3 K X O sb g2):S3 K X O (.If c sa sb pos) (ifS ft g1 g2):=let ⟨_,p,d⟩:=hc;let ⟨_,p1,d1⟩:=h;let ⟨_,p2,d2⟩:=h';⟨_,λi=>z0x (p i) (p1 i) (p2 i),λj=>yaj (d j) (d1 j) (d2 j)⟩
theorem za9(n:Nat)(ha:2.2)(hN:∀i,(X i).N.Nodup:=by intro i;exact NL 2.5)(hi:1.8:=by intro i;rfl)(hx:∀i,Loc (X i).env.scope x:=by intro i;first|exact Or.inl rfl|exact Or.inr rfl)
 (hs:∀i,Tc a (some 1.9) pos.line (X i).env=pure false:=by intro i;rfl) (hf:6.2:=by intro i;first|exact .inl rfl|exact .inr rfl):S3 K X O (.Assign [.Name x px] a pos) (asgS n fa) :=
 let ⟨_,p,d⟩:=ha;⟨_,λi=>zb3 (hN i) (hi i) (hx i) (p i) (hs i) (hf i),λj=>zuu (d j)⟩
theorem zu2(n:Nat){iter:Expr}{scope:TH}(h:Nat)(N':2.4)(C:0.6)(S:∀i,ScopeOk h N' (X i).N scope (X i).env.scope)(hs:I3 K X O tg iter fi)
 (hg:G3 K (zfm X scope N') h tg g) (hf:F3 K (zfm X scope N') (zjm O) ifs ft) (he:E3 K (zfm X scope N') (zjm O) elt fe) (hN:∀i,(X i).N.Nodup:=by intro i;exact NL 2.5) (hi:1.8:=by intro i;rfl) (hx:∀i,(X i).env.scope.names.lookup x=some .local:=by intro i;rfl)
 (hsw:∀i,Tc (.ListComp elt [⟨tg,iter,ifs,0⟩] scope p0) (some 1.9) pos.line (X i).env=pure true:=by intro i;rfl) (hset:∀i x,Tv iter (X i).env x=pure x:=by intro _ _;rfl) :
 S3 K X O (.Assign [.Name x px] (.ListComp elt [⟨tg,iter,ifs,0⟩] scope p0) pos) (asgS n (zs1 h fi g ft fe)):=by
 obtain⟨ti,p1,d1⟩:=hs;obtain⟨tg',p2,d2,_,ow⟩:=hg;obtain⟨tf,p3,d3⟩:=hf;obtain⟨te,p4,d4⟩:=he;exact⟨_,λi=>zjj (hN i) (hi i) (hx i) (hsw i) h (S i) (C.calm i) (p1 i) (λc s H ex=>p2 (i,⟨c,s,H,ex⟩)) ow (λc s H ex=>p3 (i,⟨c,s,H,ex⟩)) (λc s H ex=>p4 (i,⟨c,s,H,ex⟩)) (hset i),λj=>zuu (zq5 (d1 j) d2 (λD xs nm=>d3 ⟨(j,(D,xs)),nm⟩) λD xs nm=>d4 ⟨(j,(D,xs)),nm⟩)⟩
theorem zs5{X:Cx}:MtR X "list.append" zhk:=λpins s σ H x xs v us Q I rx rv h=>zma pins s σ H x xs v us Q I rx rv h
theorem zmo(n:Nat){apos cpos:Pos}(C:0.6)(hb:E3 K X O b fb)(hN:1.8:=by intro i;rfl)(hv:2.6:=by intro i;first|exact Or.inl rfl|exact Or.inr 4.5|exact Or.inr 4.4)(hd:1.1:=by decide)(hcd:2.0:=by decide)
 (hbase:∀i,Th 1.9 "append" (X i).env (eval 1.9 (X i).env)=eval 1.9 (X i).env:=by intro i;rfl)
 (hfew:∀i,((TM cpos (GN [b] (X i).env)).all (λx=>!x.1) && (Nq cpos (M5 [] (X i).env)).all (λx=>x.1.isSome) && decide (([b]:List Expr).length+([]:List Mw).length+(if([]:List Mw).isEmpty then 0 else 1)<30))=true:=by intro i;rfl)
 (hline:(apos.endLine == cpos.line)=true:=by rfl) (hs:∀i,GN [b] (X i).env = [(false,eval b (X i).env)]:=by intro i;rfl) (hsw:∀i,Tc (.Call (.Attribute 1.9 "append" apos) [b] [] cpos) none pos.line (X i).env=pure false:=by intro i;rfl) :
 S3 K X O (.Expr (.Call (.Attribute 1.9 "append" apos) [b] [] cpos) pos) (appS n fb):=let ⟨_,p2,d2⟩:=hb;
 ⟨zfy (tBM K "list" zhk (tVar n) (zar _ tNil)),λi=>by
  have h:=zg8 (apos:=apos) (cpos:=cpos) J0 PySem.F.slot_list_append PySem.F.type_list_append (zs5 (X:=X i)) 5.4 (zao (p2 i) zbk (hs i)) (hbase i) (hfew i) hline (hs i);rw[C.hK] at h
  exact zk1 h (hsw i),λj=>ztu (d2 j)⟩
theorem zgu{X:Cx}(h:X.xe=λ_ _=>False):PassesOwn 0.8 X.A X.env X.xe:=by rw[h];exact VQ
theorem zcw{iter:Expr}{body:List Stmt}{hh:Nat}(C:0.6)(hi:J3 K X O tg iter fj)(hg:G3 K X hh tg g)(hb:Ss3 K X O body g1)(hs:∀i x,Tv iter (X i).env x=pure x:=by intro _ _;rfl):S3 K X O (.For tg iter body [] pos) (forS fj g g1):=by
 obtain⟨ti,p1,d1⟩:=hi;obtain⟨tg',p2,_,d2,_⟩:=hg;obtain⟨tb,p3,d3⟩:=hb;exact⟨_,λi=>zv6 (zgu (C.xe i)) (C.calm i) (p1 i) (p2 i) (p3 i) (hs i),λj=>z7c (d1 j) (d2 (O j)) (d3 j)⟩
theorem z4m{body:List Stmt}(C:0.6)(hc:T3 K X O c ft)(hb:Ss3 K X O body g1):S3 K X O (.While c body [] pos) (zwq ft g1):=let ⟨_,p,d⟩:=hc;let ⟨_,p2,d2⟩:=hb;⟨_,λi=>zn4 (zgu (C.xe i)) (p i) (p2 i),λj=>zyo (d j) (d2 j)⟩
end
theorem len1(hl:us.length=1)(h:∀u0,TV fd ⟨[u0],[]⟩=pure ([p0].zip [u0])):TV fd ⟨us,[]⟩=pure ([p0].zip us):=by
 match us,hl with
 | [u0],_=>exact h u0
theorem len2(hl:us.length=2)(h:∀u0 u1,TV fd ⟨[u0,u1],[]⟩=pure ([p0,p1].zip [u0,u1])):TV fd ⟨us,[]⟩=pure ([p0,p1].zip us):=by
 match us,hl with
 | [u0,u1],_=>exact h u0 u1
theorem len3(hl:us.length=3)(h:∀u0 u1 u2,TV fd ⟨[u0,u1,u2],[]⟩=pure ([p0,p1,p2].zip [u0,u1,u2])):TV fd ⟨us,[]⟩=pure ([p0,p1,p2].zip us):=by
 match us,hl with
 | [u0,u1,u2],_=>exact h u0 u1 u2
theorem len4(hl:us.length=4)(h:∀u0 u1 u2 u3,TV fd ⟨[u0,u1,u2,u3],[]⟩=pure ([p0,p1,p2,p3].zip [u0,u1,u2,u3])):TV fd ⟨us,[]⟩=pure ([p0,p1,p2,p3].zip us):=by
 match us,hl with
 | [u0,u1,u2,u3],_=>exact h u0 u1 u2 u3
section
variable {P:GK}{w:GM}{K:Qa}{mg:0.4}{base:Heap}{k n:Nat}{x:Str}{st:Stmt}{N ps:2.4}{φ:Ob->Prop}{F:List GG->2.7->Prop}
abbrev zcb(P:GK)(w:GM)(K:Qa)(mg:0.4)(base:Heap)(N:2.4)(x:Str)(sc:TH)(f:Addr)(cdv:GH)(A:GQ)(outer:List Env)(s:GJ)(H:Hp)(E:XK):Unit->Cx:=λ_=>(cxOf CX0 P w K mg base N x sc f cdv A outer s H E).nox
theorem zed{outer:List Env}(hr:Room k (A.deeper (MK x sc s.heap.objs.size f cdv))):Ctx3 P w K mg base k (zcb P w K mg base N x sc f cdv A outer s H E) :=
 ⟨λ_=>rfl,λ_=>rfl,λ_=>rfl,λ_=>rfl,λ_=>rfl,λ_=>rfl,λ_=>hr,λ_=>rfl⟩
theorem mk_O(T:Top3 K mg x st)(S:FnScope N ps 6.3)(hb:∀(kV doc pm:GH) (an:Option Addr) (cdv ct:GH) (us:2.8),us.length=ps.length->TV (ZS x x (zb0 st) (za2 st) 6.3 .none kV doc pm an cdv ct) ⟨us,[]⟩=pure (ps.zip us))(hn:ps.length=n)
 (body:∀(f:Addr) (cdv:GH) (A:GQ) (outer:List Env) (s:GJ) (H:Hp) (E:XK) (O:Ob),φ O->Ctx3 P w K mg base k (zcb P w K mg base N x 6.3 f cdv A outer s H E) ->
  ∃g,Ss3 K (zcb P w K mg base N x 6.3 f cdv A outer s H E) (λ_:Unit=>O) (za2 st) g/\∀ds Qr,ds.length=n->F ds Qr->g { nx:=λ_=>Qr (.o .none),rt:=Qr } (zb4 N (ds.map .im))):Def3 P w K mg base (k+1) x ps (spO K φ n F):=by
 obtain⟨f,fd,Fu,m⟩:=T.ex;refine⟨f,fd,Fu.ok S (z4d hn) (λcdv A outer s H vs Q E hr h=>?_),m,Fu.kp,Fu.binds hb⟩;obtain⟨O,ds,Qr,ok,hφ,p,hl,is,q,kk⟩:=h;obtain⟨g,⟨t,h1,h2⟩,h3⟩:=body f cdv A outer s H E O hφ (zed hr);exact⟨t,h1 (),z9j (h2 ()) ok p is (h3 ds Qr hl q) kk⟩
theorem mk_D(T:Top3 K mg x st)(S:FnScope N ps 6.3)(hb:∀(kV doc pm:GH) (an:Option Addr) (cdv ct:GH) (us:2.8),us.length=ps.length->TV (ZS x x (zb0 st) (za2 st) 6.3 .none kV doc pm an cdv ct) ⟨us,[]⟩=pure (ps.zip us))(hn:ps.length=n+1)
 (body:∀(f:Addr) (cdv:GH) (A:GQ) (outer:List Env) (s:GJ) (H:Hp) (E:XK) (O:Ob),φ O->Ctx3 P w K mg base k (zcb P w K mg base N x 6.3 f cdv A outer s H E) ->
  ∃g,Ss3 K (zcb P w K mg base N x 6.3 f cdv A outer s H E) (λ_:Unit=>O) (za2 st) g/\∀ds Qr,ds.length=n->F ds Qr->g { nx:=λ_=>Qr (.o .none),rt:=Qr } (zb4 N (.ob::ds.map .im))):Def3 P w K mg base (k+1) x ps (spD K φ n F):=by
 obtain⟨f,fd,Fu,m⟩:=T.ex;refine⟨f,fd,Fu.ok S (zj9 hn) (λcdv A outer s H vs Q E hr h=>?_),m,Fu.kp,Fu.binds hb⟩;obtain⟨O,ds,ws,Qr,ok,hφ,p,hl,rfl,is,q,kk⟩:=h;obtain⟨g,⟨t,h1,h2⟩,h3⟩:=body f cdv A outer s H E O hφ (zed hr);exact⟨t,h1 (),yae (h2 ()) ok p is (h3 ds Qr hl q) kk⟩
end
structure PotStp(a l:Addr)(H H':Hp):Prop where
 oth:∀b,b≠a->b≠l->H' b=H b
theorem PotStp.refl(a l:Addr)(H:Hp):PotStp a l H H:=⟨λ_ _ _=>rfl⟩
theorem PotStp.trans(x:PotStp a l H H1)(y:PotStp a l H1 H2):PotStp a l H H2:=⟨λb h1 h2=>(y.oth b h1 h2).trans (x.oth b h1 h2)⟩
theorem PotStp.upA(o:HO):PotStp a l H (upd H a o):=⟨λb h1 _=>zac h1⟩
theorem PotStp.upL(o:HO):PotStp a l H (upd H l o):=⟨λb _ h2=>zac h2⟩
abbrev lenR(K:Qa):List V->Hp->VK->Prop:=λxs H Q=>∃x n,xs = [x]/\LenV K x H n/\Q (.int n) H
def zc9:List GG->2.7->Prop:=λds Q=>∃m:Int,ds = [.int m]/\0<m/\m<1073741824/\∀k,0<=k->k<m->Q (.o (.int k))
theorem zuz: MtR X "list.pop" ziv:=λpins s σ H x xs v us Q I rx rv h=>zx3 pins s σ H x xs v us Q I rx rv h
theorem zx1(ns:List Int)(lo hi:Option Int):cutV (ns.map V.int) lo hi=(cutL ns lo hi).map V.int:=by
 unfold cutV cutL;rw[Qc,Va,VC]
def abc:List Nat:=(Q3 26).map (· + 97)
def zf3(c:Nat):Prop:=97<=c/\c<123
def zf2:List GG->2.7->Prop:=λds Q=>∃m:Int,ds = [.int m]/\0<=m/\m<=26/\∀w:List Nat,(w.length:Int)=m->(∀c∈w,zf3 c)->w.Pairwise (· < ·)->Q (.o (.str (tx w)))
def zib(K:Qa)(drawSp:Sp):TS :=
 tSeq (tAsg (tCB ztw (zar (tC (.str "abcdefghijklmnopqrstuvwxyz")) tNil)) (zav 2))
 (tRet (tBM K "str" zjx (tC (.str "")) (zar (tCB zvj (zar (zfl 1 (zr1 (zar (tVar 1) tNil)) (zav 0) tYes (tBM K "list" ziv (tVar 3) (zar (zda drawSp [] E0 (zar (tVar 1) (zar (tCB (lenR K) (zar (tVar 3) tNil)) tNil))) tNil))) tNil)) tNil)))
theorem zln:∀(l:0.7) (acc:Array Nat),(l.map sg).foldl (λacc p=>acc++(Zt "").cps++p.cps) acc=acc++l.toArray
 | [],acc=>by simp
 | c::r,acc=>by
   rw[QB,J9,zln r];have e:(Zt "").cps = #[]:=by decide +kernel
   rw[e];apply YR.mp;simp[sg]
theorem zqm(w:0.7):Gx "" (w.map sg)=tx w:=by
 cases w with
 | nil=>decide +kernel
 | cons c r=>
   show UI (Zt "") (sg c::r.map sg)=tx (c::r);unfold UI;show(⟨(r.map sg).foldl _ (sg c).cps⟩:Str)=_;rw[zln];unfold tx sg
   congr 1
   apply YR.mp;simp
theorem z6q(c:Nat):(sg c).length=1:=rfl
theorem ztx(w:0.7):((w.map sg).map (·.length)).sum=w.length:=by
 induction w with
 | nil=>rfl
 | cons c r ih=>rw[QB,QB,List.sum_cons,ih,z6q,Ql];lia
theorem unsg:∀{zs:2.4},(∀z∈zs,∃c,z=sg c/\zf3 c)->∃w:List Nat,zs=w.map sg/\∀c∈w,zf3 c
 | [],_=>⟨[],rfl,by simp⟩
 | z::zs,h=>by
   obtain⟨c,rfl,hc⟩:=h z Qp;obtain⟨w,rfl,hw⟩:=unsg (zs:=zs) λy hy=>h y (Qe _ hy);exact⟨c::w,rfl,λd hd=>by rcases Qz.mp hd with e|e;(rw[e];exact hc);exact hw d e⟩
theorem zl1{α β:Type}(f:α->β):∀(l:4.2) (i:Nat),(l.map f).eraseIdx i=(l.eraseIdx i).map f
 | [],_=>rfl
 | _::_,0=>rfl
 | a::l,i+1=>by rw[QB,Zy,Zy,QB,zl1 f l i]
theorem znj{α:Type}{l:4.2}{i:Nat}{x:α}(h:x∈l.eraseIdx i):x∈l:=List.mem_of_mem_eraseIdx h
theorem zmd{α:Type}:∀{l:4.2} {i:Nat} (h:i<l.length),([l[i]]++l.eraseIdx i).Perm l
 | a::l,0,_=>.refl _
 | a::l,i+1,h=>by
   have h':i<l.length:=by simpa using h
   have ih:=zmd (l:=l) (i:=i) h';show(l[i]::a::l.eraseIdx i).Perm (a::l);exact(Gy a l[i] _).trans (List.Perm.cons a ih)
theorem zu1{a b:Nat}(h:sg a=sg b):a=b:=by
 have:=NO (λx:Str=>x.cps.toList) h;simpa[sg] using this
theorem zh0:∀{w:0.7} {x:Nat},risingS (sg x) (w.map sg)=true->(∀c∈w,x<=c)/\w.Pairwise (·<=·)
 | [],_,_=>⟨λ_ h=>(nomatch h),.nil⟩
 | y::r,x,h=>by
   have h:(!(decide (y<x) || (y == x && false)) && risingS (sg y) (r.map sg))=true:=h;rw[Gv,G4,Q9,JB,decide_eq_false_iff_not] at h;obtain⟨h1,h2⟩:=zh0 (w:=r) (x:=y) h.2;refine⟨λc hc=>?_,.cons h1 h2⟩;rcases Qz.mp hc with rfl|hc
   .lia
   .have:=h1 c hc;lia
theorem zjt:∀{w:0.7},MP (w.map sg)=true->w.Nodup->w.Pairwise (· < ·)
 | [],_,_=>.nil
 | x::r,h,hn=>by
   obtain⟨h1,h2⟩:=zh0 (w:=r) (x:=x) h;obtain⟨n1,n2⟩:=Zq.mp hn;refine .cons (λc hc=>Uz (h1 c hc) λe=>n1 (e ▸ hc)) ?_;exact(List.Pairwise.and h2 n2).imp λ⟨a,b⟩=>Uz a b
theorem zrg{neg:Bool}(hx:JR x=true)(hy:JR y=true):eqF neg (.str x) (.str y)=some (.o (.bool (if neg then !(x == y) else x == y))):=by
 unfold eqF;rw[NI (by simp[okD,ZR,QU,hx,hy])];rfl
theorem zgr(h:tx v=tx w):v=w:=by
 have:=NO (λx:Str=>x.cps.toList) h;simpa[tx] using this
theorem zos(v w:0.7):(tx v == tx w)=decide (v=w):=by
 by_cases e:v=w
 .subst e;simp
 .rw[NK e];exact beq_eq_false_iff_ne.mpr λh=>e (zgr h)
theorem zqj{neg:Bool}{i j:Int}:eqF neg (.int i) (.int j)=some (.o (.bool (if neg then !decide (i=j) else decide (i=j)))):=by
 unfold eqF;have e:(okD (U0 i) && (U0 j).canLay0)=true:=by simp[okD,ZR,QU]
 rw[NI e];rfl
theorem ze7{α:Type}{enc:α->GG}{i:Nat}{fe:DE}{ρ:DSt}{Q:List GG->Prop}{as:4.2}{e:α->GG}{h:Nat}(step:∀a∈as,∀P:R->Prop,(∀r,r.d=e a->P r)->fe ((QO h none++ρ).set i (some (.im (enc a)))) P)(hz:as.length<=sizeLine)(q:Q (as.map e)):
 zbd h (gN i) yesD fe ρ Q (as.map enc) []:=by
 have key:∀(as:4.2) (acc:2.3),(∀a∈as,∀P:R->Prop,(∀r,r.d=e a->P r)->fe ((QO h none++ρ).set i (some (.im (enc a)))) P)->acc.length+as.length<=sizeLine->Q (acc++as.map e)->zbd h (gN i) yesD fe ρ Q (as.map enc) acc:=by
  intro as
  induction as with
  | nil=>intro acc _ _ q;show Q acc;simpa using q
  | cons a as ih=>
    intro acc st hz q;rw[Ql] at hz;refine st a Qp _ λr hr=>?_;refine⟨by lia,?_⟩;rw[hr];exact ih (acc ++ [e a]) (λa' ha=>st a' (Qe _ ha)) (by rw[Qj];simp;lia) (by simpa using q)
 exact key as [] step (by simpa using hz) (by simpa using q)
theorem zbh(J:Nat->DSt->Prop)(h0:J 0 ρ)(fin:∀ρ,J ds.length ρ->Dd.nx ρ)
 (step:∀(j:Nat) d ρ (N:DSt->Prop),ds[j]? = some d->(∀ρ',J (j+1) ρ'->N ρ')->J j ρ->flat d=true/\g d ρ λρ2=>gb { Dd with nx:=N,ct:=N,bk:=Dd.nx } ρ2):zeo g gb Dd ds ρ:=by
 have key:∀(k j:Nat),j+k=ds.length->∀ρ,J j ρ->zeo g gb Dd (ds.drop j) ρ:=by
  intro k
  induction k with
  | zero=>
    intro j hj ρ h;rw[Jm 0.0];have e:j=ds.length:=by lia
    rw[e] at h;exact fin ρ h
  | succ k ih=>
    intro j hj ρ h;have hlt:j<ds.length:=by lia
    rw[QX hlt];exact step j ds[j] ρ _ (Qb hlt) (λρ' h'=>ih (j+1) 0.0 ρ' h') h
 have:=key ds.length 0 0.0 ρ h0;simpa using this
theorem zv2(lo:Int)(n:Nat):(zge lo n).length=n:=by simp[zge]
theorem zq9(w:0.7):(sgs (tx w)).length=w.length:=by simp[sgs,tx]
theorem zqq{j:Nat}{d:GG}(h:(sgs (tx w))[j]? = some d):∃c,w[j]? = some c/\d = .str (sg c):=by
 unfold sgs at h;rw[zbu,Qh] at h;obtain⟨c,hc,rfl⟩:=Q2.mp h;exact⟨c,hc,rfl⟩
theorem zbb{α:Type}{f:α->GG}(h:∀a,flat (f a)=true):∀l:List α,flats (l.map f)=true
 | []=>rfl
 | a::l=>by rw[QB,flats,h a,zbb h l];rfl
abbrev LowW(w:0.7):Prop:=∀c∈w,zf3 c
theorem zdy(w:0.7):(tx w).length=w.length:=by simp[tx,Ux]
theorem zd4(h:w.length<=16777216):lenF [.str (tx w)]=some (.o (.int w.length)):=by
 unfold lenF;dsimp only;rw[zdy,NI (by rw[GP];exact h)]
theorem znm{k:Nat}(h:k<w.length)(hl:w.length<=16777216):idxF (.str (tx w)) (.int (k:Nat))=some (.o (.str (tx [w[k]]))):=by
 unfold idxF;dsimp only;rw[zdy,NI (by rw[GP];exact hl),zbu,atI_nat (v:=w[k]) (by rw[Qb h])];rfl
theorem zvy(h:v.length+w.length<=16777216):addF (.str (tx v)) (.str (tx w))=some (.o (.str (tx (v++w)))):=by
 unfold addF;dsimp only;rw[zdy,zdy,NI (by rw[GP];exact h)]
 have e:tx v++tx w=tx (v++w):=by
  show Str.mk _=Str.mk _;simp[tx]
 rw[e]
theorem zqt(n d m:Nat):HT.sIx n d (some (m:Int))=min m n:=by
 have:=zij n d (m:Int);rw[NJ 0.0] at this;lia
theorem znt(n d:Nat):HT.sIx n d none=d:=rfl
theorem zw8{α:Type}(xs:4.2)(m:Nat):cutL xs none (some (m:Int))=xs.take m:=by
 unfold cutL;rw[zqt,znt,JH,VM,VW,Nat.min_assoc,Nat.min_self,<- VW]
theorem zob{α:Type}(xs:4.2)(m:Nat):cutL xs (some (m:Int)) none=xs.drop m:=by
 unfold cutL;rw[zqt,znt];rcases Nat.le_total m xs.length with h|h
 .rw[Gr h,Zu (by rw[Zr];exact Qg _)]
 .rw[Nat.min_eq_right h,Jm (Qg _),Jm h,G7]
theorem zsm{v:0.7}{lo hi:Option Int}(h:v.length<=16777216):slcF lo hi (.str (tx v))=some (.o (.str (tx (cutL v lo hi)))):=by
 unfold slcF;dsimp only;rw[zdy,zbu,NI (by rw[GP];exact h)]
theorem zwz{o:Nat}{m:Int}(hρ:ρ[o]? = some (some .ob))(h0:0<m)(h1:m<1073741824)(q:∀k:Nat,(k:Int)<m->Q (.o (.int (k:Nat)))):calO o 1 zc9 (zdq (cD (.int m)) aNil) ρ Q:=by
 refine⟨hρ,rfl,m,rfl,h0,h1,λk k0 k1=>?_⟩;have:=q k.toNat 0.0;rwa [show((k.toNat:Nat):Int)=k by lia] at this
theorem zxk{o i:Nat}{d:GG}{n:Nat}(hρ:ρ[o]? = some (some .ob))(hi:ρ[i]? = some (some v))(hv:seeR v=some d)(hl:lenF [d]=some (.o (.int (n:Nat))))(h0:0<n)(h1:n<1073741824)(q:∀k:Nat,k<n->Q (.o (.int (k:Nat)))):
 calO o 1 zc9 (zdq (zdd (fn1 lenF) (zdq (vD i) aNil)) aNil) ρ Q:=by
 refine⟨hρ,_,_,hi,hv,_,hl,rfl,_,rfl,by lia,by lia,λk k0 k1=>?_⟩;have:=q k.toNat 0.0;rwa [show((k.toNat:Nat):Int)=k by lia] at this
theorem zu5{o i:Nat}(hρ:ρ[o]? = some (some .ob))(hi:ρ[i]? = some (some (.im (.str (tx ls)))))(hn:ls≠[])(hl:ls.length<=1000)(q:∀c∈ls,Q (.o (.str (tx [c])))):
 opDE (fn2 idxF) (vD i) (calO o 1 zc9 (zdq (zdd (fn1 lenF) (zdq (vD i) aNil)) aNil)) ρ Q:=by
 have h0:0<ls.length:=Ys.mpr hn;refine⟨_,_,hi,rfl,zxk hρ hi rfl (zd4 0.0) h0 0.0 λk hk=>⟨_,znm hk 0.0,q _ (Ze hk)⟩⟩
theorem zoo{α β:Type}{enc:α->GG}{enc2:β->GG}{good:β->Prop}{i h:Nat}{ft:DT}{fe:DE}{ρ:DSt}{Q:List GG->Prop}{as:4.2}
 (step:∀a∈as,∀(Pn:Prop) (Py:GG->Prop),Pn->(∀b,good b->Py (enc2 b))->ft ((QO h none++ρ).set i (some (.im (enc a)))) λt=>if t=true then fe ((QO h none++ρ).set i (some (.im (enc a)))) (λr=>Py r.d) else Pn)
 (hz:as.length<=1000) (q:∀bs:List β,(∀b∈bs,good b)->bs.length<=as.length->Q (bs.map enc2)):zbd h (gN i) ft fe ρ Q (as.map enc) []:=by
 have sz:=GP
 have key:∀(l:4.2) (bs:List β),(∀a∈l,a∈as)->(∀b∈bs,good b)->bs.length+l.length<=as.length->zbd h (gN i) ft fe ρ Q (l.map enc) (bs.map enc2):=by
  intro l
  induction l with
  | nil=>intro bs _ hb hl;exact q bs hb hl
  | cons a l ih=>
    intro bs hs hb hl;rw[Ql] at hl;refine step a (hs a Qp) _ (λd=>(bs.map enc2).length<sizeLine/\zbd h (gN i) ft fe ρ Q (l.map enc) (bs.map enc2 ++ [d])) (ih bs (λx hx=>hs x (Qe _ hx)) hb 0.0) λb gb=>⟨by rw[Qc];lia,?_⟩;have:=ih (bs ++ [b]) (λx hx=>hs x (Qe _ hx)) (λx hx=>by rcases Qq.mp hx with hx|hx;(exact hb x hx);(rw[Qm.mp hx];exact gb)) (by rw[Qj];simp;lia);rwa [Qu] at this
 exact key as [] (λ_ h=>h) 0.1 0.1
theorem z3g(ws:0.7)(hl:ws.length<=1000):∃ys:List Str,PyData.list (ws.map λc=>.str (tx [c])) = .list (ys.map .str)/\(ys.map (·.length)).sum+ys.length * (Zt "").length<=16777216/\Gx "" ys=tx ws:=by
 refine⟨ws.map sg,by rw[QY];rfl,?_,zqm ws⟩;have e0:(Zt "").length=0:=by decide +kernel
 rw[ztx,e0];lia
theorem zrm{k:DS}(J:DSt->Prop)(hg:∀N:DSt->Prop,(∀ρ,J ρ->N ρ)->g { Dd with nx:=N } ρ)(hk:∀ρ,J ρ->k Dd ρ):seqD g k Dd ρ:=hg (k Dd) hk
def zi7(K:Qa):Sp:=λvs H Q _=>∃(a:Addr) (ns:List Int),vs = [.ref a]/\SqL K H a (ns.map V.int)/\ns.length<=63/\∀H',Q (.bl true) H'
section
open PySem PySem.Builtin PySem.Builtin.Str
def sOk(x:PySem.Str):Prop:=∀c∈x.cps.toList,c<0x110000
theorem zv9: JR x=true↔sOk x:=by
 unfold JR sOk;rw[U1];simp
end
open PySem PySem.Spec
open PyProof.Rows hiding St
open L2
theorem zdi{α:Type}{f:α->GG}:∀{l:4.2},(∀a∈l,(f a).canLay0=true)->Qy (l.map f)=true
 | [],_=>rfl
 | a::l,h=>by rw[QB,Qy,h a Qp,zdi λx hx=>h x (Qe _ hx)];rfl
theorem zd8{α:Type}{f:α->GG}{n:Nat}:∀{l:4.2},(∀a∈l,(f a).depth<=n)->Zb (l.map f)<=n
 | [],_=>by simp[Zb]
 | a::l,h=>by
   rw[QB,Zb];exact Nat.max_le.mpr ⟨h a Qp,zd8 λx hx=>h x (Qe _ hx)⟩
theorem zcj{neg:Bool}{a b:Bool}:eqF neg (.bool a) (.bool b)=some (.o (.bool (if neg then !(a == b) else a == b))):=by
 unfold eqF;have e:(okD (Uf a) && (Uf b).canLay0)=true:=by simp[okD,ZR,QU]
 rw[NI e];cases neg <;> cases a <;> cases b <;> rfl
section
variable {K:Qa}{O:Ob}
def disS(m:Nat)(g:DS):DS:=λDd ρ=>g Dd ρ\/∃ds,ρ[m]? = some (some (.own ds))/\g Dd (ρ.set m (some (.im (.list ds))))
theorem z5y{m:Nat}(h:SD K O t g):SD K O t (disS m g):=λH₀ A σ H ρ D Dd r q P=>by
 rcases q with q|⟨ds,e,q⟩
 .exact h H₀ A σ H ρ D Dd r q P
 .exact h H₀ _ σ H _ D Dd (r.disown e) q (P.frm (.setIm 3.0))
def setS(n m:Nat):DS:=λDd ρ=>∃d,ρ[m]? = some (some (.im d))/\Dd.nx (ρ.set n (some (.im d)))
theorem z4i{n m:Nat}:SD K O (tAsg (tVar m) (zav n)) (setS n m):=λH₀ A σ H ρ D Dd r q P=>by
 obtain⟨d,e,q⟩:=q;obtain⟨v,hv,h⟩:=r.at_ m _ e;exact⟨v,hv,P.nx _ _ H _ (r.setIm h) (.setIm 3.0) q⟩
end
section
variable {ι κ:Type}{P:GK}{w:GM}{K:Qa}{mg:0.4}{base:Heap}{k:Nat}{X:ι->Cx}{O:κ->Ob}{st:Stmt}{g:DS}{pos:Pos}
theorem z0l(m:Nat)(h:S3 K X O st g):S3 K X O st (disS m g):=let ⟨t,p,d⟩:=h;⟨t,p,λj=>z5y (d j)⟩
theorem z8l(n m:Nat)(hN:∀i,(X i).N.Nodup:=by intro i;exact NL 2.5)(hi:1.8:=by intro i;rfl)(hx:∀i,Loc (X i).env.scope x:=by intro i;first|exact Or.inl rfl|exact Or.inr rfl)
 (hN2:∀i,(X i).N[m]? = some y:=by intro i;rfl) (hv:∀i,Vis (X i).env.scope y:=by intro i;first|exact Or.inl rfl|exact Or.inr 4.5|exact Or.inr 4.4) (hd:(y == ("__debug__" : Str))=false:=by decide) (hcd:(y == ("__classdict__" : Str))=false:=by decide)
 (hs:∀i,Tc (.Name y py) (some 1.9) pos.line (X i).env=pure false:=by intro i;rfl) (hf:6.2:=by intro i;first|exact .inl rfl|exact .inr rfl):S3 K X O (.Assign [.Name x px] (.Name y py) pos) (setS n m) :=
 ⟨_,λi=>zb3 (hN i) (hi i) (hx i) (zag (hN2 i) (hv i) hd hcd) (hs i) (hf i),λj=>z4i⟩
end
def truB:GG->Option Bool
 | .none=>some false
 | .bool b=>some b
 | .int i=>some (i != 0)
 | .str x=>if x.length<=sizeLine then some ((x.length:Int) != 0) else none
 | .list ds=>some (!ds.isEmpty)
 | .tuple ds=>some (!ds.isEmpty)
 | _=>none
def truD(f:DE):DT:=λρ Q=>f ρ λr=>∃b,truB r.d=some b/\Q b
section
variable {K:Qa}{O:Ob}
theorem zhy(h:IsAll K F H xs ds):xs.isEmpty=ds.isEmpty:=by
 cases h <;> rfl
theorem z8f(h:ED K O t f):TD K O (λσ H Q=>t σ H λx H'=>∃k,TruV K x H' k/\Q k H') (truD f):=λσ H ρ Q Qd S hf k=>by
 refine h σ H ρ _ _ S hf λv H1 r s1 o1 zz=>?_;obtain⟨b,e,q⟩:=zz;have iv:=o1.is S.ok S.p;refine⟨b,?_,k b H1 s1 q⟩;generalize r.d=d at iv e
 cases iv with
 | none=>cases e;rfl
 | bool b=>cases e;rfl
 | int i=>cases e;rfl
 | str x=>
   have e:(if x.length<=sizeLine then some ((x.length:Int) != 0) else none)=some b:=e
   by_cases hl:x.length<=sizeLine
   .rw[NI hl] at e;cases e;exact⟨hl,rfl⟩
   .rw[NJ hl] at e;cases e
 | list f1 h1 s1=>cases e;exact .inl ⟨_,.of h1,by rw[zhy s1]⟩
 | tuple h1 s1=>cases e;exact .inr (.inl ⟨_,h1,by rw[zhy s1]⟩)
def popS(i:Nat):DS:=λDd ρ=>∃ds,ρ[i]? = some (some (.own ds))/\ds≠[]/\Dd.nx (ρ.set i (some (.own ds.dropLast)))
theorem zfd: ∀{xs:3.3} {ds:2.3},IsAll K F H xs ds->IsAll K F H xs.dropLast ds.dropLast
 | _,_,.nil=>.nil
 | _,_,.cons h .nil=>.nil
 | _,_,.cons h (.cons h2 h3)=>.cons h (zfd (.cons h2 h3))
theorem z5l{i:Nat}:SD K O (zfy (tBM0 K "list" rPop (tVar i))) (popS i):=λH₀ A σ H ρ D Dd r q P=>by
 obtain⟨ds,e,hne,q⟩:=q;obtain⟨v,hv,a,xs,rfl,ha,hl,hs⟩:=r.at_ i _ e;refine⟨_,hv,.inl ⟨rfl,xs,.of hl⟩,?_⟩
 have hx:xs.length-1<xs.length:=by
  have:=hs.length;have:0<ds.length:=Ys.mpr hne;lia
 refine⟨a,xs,xs[xs.length-1],rfl,rfl,hl,Qb hx,?_⟩;exact P.nx A σ _ _ (r.change e hv ha (zfd hs)) (.change ha) q
end
section
variable {ι κ:Type}{P:GK}{w:GM}{K:Qa}{mg:0.4}{base:Heap}{k:Nat}{X:ι->Cx}{O:κ->Ob}{a b:Expr}{fa:DE}{pos p:Pos}{ga:DA}
theorem z0v(C:0.6)(ha:2.2)(he:∀i whole,isTrue a (X i).env whole=(do let v <- whole;standAt a.pos;holding [v] (truthy v)):=by intro _ _;rfl):T3 K X O a (truD fa):=let ⟨_,q,d⟩:=ha;
 ⟨_,λi=>by have h:=zxw (X:=X i) (q i) (he i);rw[C.hK] at h;exact h,λj=>z8f (d j)⟩
theorem zp1{X:Cx}:MtR X "list.pop" rPop:=λpins s σ H x xs v us Q I rx rv h=>z6g pins s σ H x xs v us Q I rx rv h
theorem yak(n:Nat){apos cpos:Pos}(C:0.6)(hN:1.8:=by intro i;rfl)(hv:2.6:=by intro i;first|exact Or.inl rfl|exact Or.inr 4.5|exact Or.inr 4.4)(hd:1.1:=by decide)(hcd:2.0:=by decide)
 (hbase:∀i,Th 1.9 "pop" (X i).env (eval 1.9 (X i).env)=eval 1.9 (X i).env:=by intro i;rfl) (hline:(apos.endLine == cpos.line)=true:=by rfl) (hsw:∀i,Tc (.Call (.Attribute 1.9 "pop" apos) [] [] cpos) none pos.line (X i).env=pure false:=by intro i;rfl) :
 S3 K X O (.Expr (.Call (.Attribute 1.9 "pop" apos) [] [] cpos) pos) (popS n) :=
 ⟨zfy (tBM0 K "list" rPop (tVar n)),λi=>by
  have h:=zwk (apos:=apos) (cpos:=cpos) J0 YM YN (zp1 (X:=X i)) 5.4 (hbase i) hline;rw[C.hK] at h
  exact zk1 h (hsw i),λj=>z5l⟩
end
section
variable {K:Qa}{O:Ob}
def extS(i:Nat)(f:DE):DS:=λDd ρ=>∃ds,ρ[i]? = some (some (.own ds))/\f ρ λr=>∃es,r.d = .list es/\flats es=true/\ds.length+es.length<=sizeLine/\Dd.nx (ρ.set i (some (.own (ds++es))))
theorem zv7{i:Nat}(h:ED K O t f):SD K O (zfy (tBM K "list" zhl (tVar i) (zar t tNil))) (extS i f):=λH₀ A σ H ρ D Dd r q P=>by
 obtain⟨ds,e,q⟩:=q;obtain⟨v,hv,a,xs,rfl,ha,hl,hs⟩:=r.at_ i _ e;refine⟨_,hv,?_⟩;refine⟨.inl ⟨rfl,xs,.of hl⟩,?_⟩;refine h σ H ρ _ _ r.seen q λw H1 x s1 o1 zz=>?_;obtain⟨es,ed,fl,hz,q1⟩:=zz;have r1:=r.stp s1;obtain⟨v1,hv1,a1,xs1,e1,ha1,hl1,hs1⟩:=r1.at_ i _ e;rw[hv] at hv1;cases hv1;cases e1;have iw:=o1.is r.ok r.p;rw[ed] at iw
 cases iw with
 | list f1 h1 s2=>
   refine⟨a,_,xs1,_,rfl,rfl,hl1,h1,by rw[hs1.length,s2.length];exact hz,?_⟩;exact P.nx A σ _ _ (r1.change e hv ha (hs1.append (IsAll.flats (TupStay.refl H1) s2 fl))) ((Frm.stp s1).trans (.change ha)) q1
end
section
variable {ι κ:Type}{P:GK}{w:GM}{K:Qa}{mg:0.4}{base:Heap}{k:Nat}{X:ι->Cx}{O:κ->Ob}{a b:Expr}{fa fb:DE}{pos p:Pos}{ga:DA}
theorem z7i:Tf "max" = some (.builtin "max"):=by decide +kernel
theorem zsf{X:Cx}:MtR X "list.extend" zhl:=λpins s σ H x xs v us Q I rx rv h=>zwu pins s σ H x xs v us Q I rx rv h
theorem zs3(n:Nat){apos cpos:Pos}(C:0.6)(hb:E3 K X O b fb)(hN:1.8:=by intro i;rfl)(hv:2.6:=by intro i;first|exact Or.inl rfl|exact Or.inr 4.5|exact Or.inr 4.4)(hd:1.1:=by decide)(hcd:2.0:=by decide)
 (hbase:∀i,Th 1.9 "extend" (X i).env (eval 1.9 (X i).env)=eval 1.9 (X i).env:=by intro i;rfl)
 (hfew:∀i,((TM cpos (GN [b] (X i).env)).all (λx=>!x.1) && (Nq cpos (M5 [] (X i).env)).all (λx=>x.1.isSome) && decide (([b]:List Expr).length+([]:List Mw).length+(if([]:List Mw).isEmpty then 0 else 1)<30))=true:=by intro i;rfl)
 (hline:(apos.endLine == cpos.line)=true:=by rfl) (hs:∀i,GN [b] (X i).env = [(false,eval b (X i).env)]:=by intro i;rfl) (hsw:∀i,Tc (.Call (.Attribute 1.9 "extend" apos) [b] [] cpos) none pos.line (X i).env=pure false:=by intro i;rfl) :
 S3 K X O (.Expr (.Call (.Attribute 1.9 "extend" apos) [b] [] cpos) pos) (extS n fb):=let ⟨_,p2,d2⟩:=hb;
 ⟨zfy (tBM K "list" zhl (tVar n) (zar _ tNil)),λi=>by
  have h:=zg8 (apos:=apos) (cpos:=cpos) J0 PySem.F.slot_list_extend PySem.F.type_list_extend (zsf (X:=X i)) 5.4 (zao (p2 i) zbk (hs i)) (hbase i) (hfew i) hline (hs i);rw[C.hK] at h
  exact zk1 h (hsw i),λj=>zv7 (d2 j)⟩
end
namespace RV
theorem zl0:Nn (.type "list_reverseiterator") "__len__" = pure none:=by rw[Mu,Ma];kernel_rfl
theorem zn1:Nn (.type "list_reverseiterator") "__length_hint__" = pure (some (.builtin "list_reverseiterator.__length_hint__")):=by rw[Mu,Ma];kernel_rfl
theorem zgs:MA (.type "list_reverseiterator") (.type "list_reverseiterator")=pure true:=by rw[Md];kernel_rfl
theorem zsw:splitId "list_reverseiterator.__length_hint__" = some ("list_reverseiterator", "__length_hint__"):=by decide +kernel
theorem z2u{prog:GK}(t:s.TypeIs (.ref it) "list_reverseiterator")(q:Q false s):wpAny 1.3 A (Je (.ref it)) Q E s:=by
 have sp:=zsw;unfold Je;refine GF (Tn t zl0 (GF (Tn t zn1 ?_)));revert sp;generalize z:("list_reverseiterator.__length_hint__" : String)=nm;intro sp;dsimp only;rw[sp];subst z;exact GF (Me (b:=true) t zgs (GI q))
theorem list_of_rev{prog:GK}{items:Array GH}(hh:A.handled=none)(hr:s.heap.IsRevIter it l ((items.size:Int)-1))(hl:s.heap.IsList l items)(hne:l≠it)(hz:items.size<=sizeLine)
 (q:∀h' t' vs c,(∀b o,b≠it->s.heap.get? b=some o->h'.get? b=some o)->h'.get? s.heap.objs.size=some { cls:=.type "list",dict:=none,data:=.seq vs c,slots:=#[] }->ItemsOf (λi v=>items[items.size-1-i]? = some v) vs items.size->Q 3.8 { s with heap:=h',toks:=t' }) :
 wpAny 1.3 A (call (.type "list") [.ref it]) Q E s:=by
 have W:=(Walks.listRev (prog:=prog) (w:=w) (A:=A.in1.in1) hh it l hne items).toS
 have new:∀b o,s.heap.get? b=some o->b≠s.heap.objs.size:=λb o e z=>by
  subst z;rw[Heap.get?] at e;simp at e
 refine callType_codes (Q₁:=λv s1=>v = .ref s.heap.objs.size/\s1 = { s with heap:=s.heap.push { cls:=.type "list",data:=.seq #[] } }) F.called_list (UJ _) UK (code_list_new _ ⟨rfl,rfl⟩) ?_;rintro _ _ ⟨rfl,rfl⟩;refine⟨⟨_,Qs _ rfl,rfl⟩,U2 _ _,?_⟩;obtain⟨o,ho,hc,hd⟩:=id hr;have nI:s.heap.objs.size≠it:=λz=>new it _ ho z.symm;have same:Ju 3.8 (.ref it)=false:=by simp[Ju,nI]
 have t1:Zj "list_reverseiterator" ≠ Zj "list" := by decide
 have eS:(s.heap.push { cls:=.type "list",data:=.seq #[] }).get? s.heap.objs.size=some { cls:=.type "list",data:=.seq #[] }:=Qs _ rfl;have eI:=Qf { cls:=.type "list",data:=.seq (#[]:Array GH) } ho;have a1:=zl0;have a2:=zn1;have a3:=zgs;obtain⟨hp,g,dr,tk,os⟩:=s
 have eI2:(((hp.push { cls:=.type "list",data:=.seq #[] }).update hp.objs.size 4.0).get? it)=some o:=by
  rw[ZG _ _ nI];exact eI
 have eS2:=ZQ (QJ (λ_=>(#[]:Array GH))) eS rfl;have hr2:((hp.push { cls:=.type "list",data:=.seq #[] }).update hp.objs.size 4.0).IsRevIter it l ((items.size:Int)-1):=⟨o,eI2,hc,hd⟩;have hT:Yx ⟨((hp.push { cls:=.type "list",data:=.seq #[] }).update hp.objs.size 4.0),g,dr,tk,os⟩ (.ref it) "list_reverseiterator" := ⟨o,eI2,hc⟩;unfold Builtin.«list.__init__»
 wp_walk using wpAny_pyIter_revIter hr2,TL hT,z2u hT
 have hl2:((hp.push { cls:=.type "list",data:=.seq #[] }).update hp.objs.size 4.0).IsList l items:=by
  obtain⟨ol,h1,h2⟩:=hl;refine⟨ol,?_,h2⟩;rw[ZG _ _ (λz=>new l _ h1 z.symm)];exact Qf _ h1
 have hS:hp.objs.size ∉ [it,l]:=λz=>by
  obtain⟨ol,h1,_⟩:=hl;rcases Qz.mp z with z|z
  .exact nI z
  .exact new l _ h1 (Qm.mp z).symm
 refine⟨TZ Vq _,Ms W hz _ hS _ items.size 0 _ _ _ rfl (Q6 _) ⟨Q6 _,by simpa using hr2,hl2⟩ eS2 (Go _) λs' vs c m e is=>3.2⟩;obtain⟨hp',g',dr',tk',os'⟩:=s';obtain⟨m1,m2,m3,m4,m5⟩:=m;have m2:g'=g:=m2;have m3:dr'=dr:=m3;have m4:os'=os:=m4;subst m2 m3 m4;refine q hp' tk' vs c (λb ob hb eb=>m1 b ob (λz=>?_) ?_) e is
 .rcases Qz.mp z with z|z
  .exact new b _ eb z
  .exact hb (Qm.mp z)
 .show((hp.push _).update _ _).get? b=_;rw[ZG _ _ (λz=>new b _ eb z.symm)];exact Qf _ eb
theorem items_rev{its:2.8}{vs:Array GH}(h:ItemsOf (λi v=>its.toArray[its.toArray.size-1-i]? = some v) vs its.toArray.size):vs=its.reverse.toArray:=by
 obtain⟨h1,h2⟩:=h;apply Array.ext';apply Jk;intro i
 by_cases hi:i<vs.size
 .have e:vs.toList[i]? = some vs[i]:=by simp[hi]
  have e2:=h2 i vs[i] (by simp[hi]);rw[e,<- e2];simp at h1 e2 ⊢;rw[List.getElem?_reverse 0.0]
 .rw[QD 5.2];symm;apply QD;simp at h1 ⊢;lia
end RV
def tLR(K:Qa)(te:TE):TE:=λσ H Q=>te σ H λv H1=>∃a xs,v = .ref a/\SqL K H1 a xs/\∀p,H1 p=none->Q (.ref p) (upd H1 p (.lst xs.reverse))
theorem zta(calm:X.A.handled=none)(gl:Gl X "list")(ml:X.mg "list" = none)(gr:Gl X "reversed")(mr:X.mg "reversed" = none)(he:PE X e te)
 (s1:GN [.Call (.Name "reversed" p2) [e] [] p3] X.env=(false,eval (.Call (.Name "reversed" p2) [e] [] p3) X.env)::GN [] X.env:=by rfl) (s2:GN [e] X.env=(false,eval e X.env)::GN [] X.env:=by rfl) :
 PE X (.Call (.Name "list" p1) [.Call (.Name "reversed" p2) [e] [] p3] [] p4) (tLR X.K te):=by
 intro pins s σ H Q I h;refine GU (zcf I gl ml (u:=.type "list") rfl ?_);refine Z9 ?_ s1;rw[s1];show wpAny _ _ (M6 ((false,eval (.Call (.Name "reversed" p2) [e] [] p3) X.env) :: [])) _ _ s;refine ZU ?_;refine GU (zcf I gr mr (u:=.type "reversed") rfl ?_);refine Z9 ?_ s2;rw[s2];show wpAny _ _ (M6 ((false,eval e X.env) :: [])) _ _ s;refine ZU (thn (he pins s σ H _ I h) λu s' zz=>?_);obtain⟨y,H1,I1,r1,a,xs,ey,hq,q⟩:=zz;subst ey;cases r1;refine Ji ?_;obtain⟨its,rv,pl,hz⟩:=I1.list hq;have hlen:=rv.length;have isl:=pl.isList;refine call_reversed_list isl ?_;refine Ji ?_
 have new:a≠s'.heap.objs.size:=λz=>by
  obtain⟨o,ho,_⟩:=isl;exact Zl _ (z ▸ Qv ho)
 have isl2:(s'.heap.push (revObj a ((its.toArray.size:Int)-1))).IsList a its.toArray:=isl.push _;refine RV.list_of_rev (s:={ s' with heap:=s'.heap.push (revObj a ((its.toArray.size:Int)-1)) }) calm ⟨_,Qs _ rfl,rfl,rfl⟩ isl2 new (by simp;lia) λh' t' vs c kp e is=>?_;have ez:(s'.heap.push (revObj a ((its.toArray.size:Int)-1))).objs.size=s'.heap.objs.size+1:=Zg ..;have ev:=RV.items_rev is;subst ev;have kp2:∀b o,s'.heap.get? b=some o->h'.get? b=some o:=λb o eb=>kp b o (λz=>Zl _ (z ▸ Qv eb)) (Qf _ eb);have fr:H1 (s'.heap.objs.size+1)=none:=I1.hok.fresh (Jp _);dsimp only at e ⊢;rw[ez] at e ⊢;exact⟨.ref (s'.heap.objs.size+1),_,I1.laid (t':=t') kp2 (Jp _) (show ObjOk X.prog X.w _ h' _ (.lst xs.reverse) from⟨by rw[List.length_reverse];exact hz,its.reverse,c,rv.reverse,e⟩),rfl,q _ fr⟩
end L3
namespace L3
open PySem PySem.Spec
open PyProof.Rows hiding St
open L2
abbrev zcg:Key:=.inr "seed"
abbrev kNum:Key:=.inr "number"
abbrev zdm:Key:=.inr "left"
def zbe(seed num:Int)(l:Addr):List (Key×V):=[(zcg,.int seed),(kNum,.int num),(zdm,.ref l)]
def zj3(seed num:Int)(l:Addr):HO:=.dK (zbe seed num l)
theorem zyi(s n:Int)(l:Addr):valV (zbe s n l) zcg=some (.int s):=by simp[valV,zbe,Jq]
theorem z1j(s n:Int)(l:Addr):valV (zbe s n l) kNum=some (.int n):=by
 have h1:¬(zcg=kNum):=by decide +kernel
 simp[valV,zbe,Jq,h1]
theorem zy7(s n:Int)(l:Addr):valV (zbe s n l) zdm=some (.ref l):=by
 have h1:¬(zcg=zdm):=by decide +kernel
 have h2:¬(kNum=zdm):=by decide +kernel
 simp[valV,zbe,Jq,h1,h2]
theorem zxv(s n s':Int)(l:Addr):putK (zbe s n l) zcg (.int s')=zbe s' n l:=by
 have h1:¬(kNum=zcg):=by decide +kernel
 have h2:¬(zdm=zcg):=by decide +kernel
 simp[putK,zbe,h1,h2]
theorem z4x(s n n':Int)(l:Addr):putK (zbe s n l) kNum (.int n')=zbe s n' l:=by
 have h1:¬(zcg=kNum):=by decide +kernel
 have h2:¬(zdm=kNum):=by decide +kernel
 simp[putK,zbe,h1,h2]
structure DealAt(H:Hp)(a l:Addr)(seed num:Int)(ns:List Int):Prop where
 ne:a≠l
 ha:H a=some (zj3 seed num l)
 hl:H l=some (.lst (ns.map V.int))
 s0:0<=seed
 s1:seed<4294967296
 n0:0<=num
 ns0:∀n∈ns,0<=n
structure IsDeal(O:Ob):Prop where
 ex:∃a l,O.v = .ref a/\O.M a/\O.M l/\(∀H,O.P H->∃s n ns,DealAt H a l s n ns)/\∀H H' s n ns,O.P H->DealAt H' a l s n ns->(∀b,O.M b->b≠a->b≠l->H' b=H b)->O.P H'
theorem IsDeal.plus(h:IsDeal O)(D:Addr)(u:HO)(nm:¬O.M D):IsDeal (O.plus D u):=by
 obtain⟨a,l,hv,ma,ml,h1,h2⟩:=h.ex;have da:D≠a:=λe=>nm (e ▸ ma);have dl:D≠l:=λe=>nm (e ▸ ml);refine⟨a,l,hv,.inl ma,.inl ml,λH p=>h1 H p.1,λH H' s n ns p q k=>⟨h2 H H' s n ns p.1 q λb mb=>k b (.inl mb),?_⟩⟩;rw[k D (.inr rfl) da dl];exact p.2
theorem upD{κ:Type}{O:κ->Ob}(h:∀j,IsDeal (O j)):∀j,IsDeal (zjm O j):=λj=>(h j.1.1).plus _ _ j.2
def zjp(a l:Addr):Ob:=⟨λb=>b=a\/b=l,λH=>∃s n ns,DealAt H a l s n ns,.ref a⟩
theorem zvp(a l:Addr):(zjp a l).Ok:=by
 refine⟨λH H' e ⟨s,n,ns,p⟩=>⟨s,n,ns,p.ne,(e a (.inl rfl)).trans p.ha,(e l (.inr rfl)).trans p.hl,p.s0,p.s1,p.n0,p.ns0⟩,λH b o ⟨s,n,ns,p⟩ eb m=>?_,λH b ⟨s,n,ns,p⟩ m=>?_⟩
 .rcases m with rfl|rfl
  .rw[p.ha] at eb;cases eb;exact⟨λ_ z=>(by cases z),λ_ _ z=>(by cases z)⟩
  .rw[p.hl] at eb;cases eb;exact⟨λ_ z=>(by cases z),λ_ _ z=>(by cases z)⟩
 .rcases m with rfl|rfl
  .exact⟨_,p.ha⟩
  .exact⟨_,p.hl⟩
theorem zua(a l:Addr):IsDeal (zjp a l):=⟨a,l,rfl,.inl rfl,.inr rfl,λ_ p=>p,λ_ _ s n ns _ q _=>⟨s,n,ns,q⟩⟩
abbrev dAt(k:Str):TE:=zz7 (tVar 0) (tC (.str k))
def z7m(K:Qa):TS :=
 znp (tAnd (zfx (tOp rEq (dAt "number") (tC (.int 0)))) (zfx (tOp (rI0 λi j=>.bl (decide (j<i))) (tCB (lenR K) (zar (dAt "left") tNil)) (tC (.int 0)))))
  (zhq (tVar 0) (tC (.str "number")) (tBM0 K "list" rPop (dAt "left")))
theorem zwc{s n:Int}(p:DealAt H a l s n ns)(hσ:σ[0]? = some (some 3.1))(q:Q (.int n) H):dAt "number" σ H Q :=
 ⟨_,hσ,a,_,rfl,.inl ⟨_,kNum,.inl p.ha,rfl,(z1j s n l).symm⟩,q⟩
theorem zk7{s n:Int}(p:DealAt H a l s n ns)(hσ:σ[0]? = some (some 3.1))(q:Q (.int s) H):dAt "seed" σ H Q :=
 ⟨_,hσ,a,_,rfl,.inl ⟨_,zcg,.inl p.ha,rfl,(zyi s n l).symm⟩,q⟩
theorem zp0{s n:Int}(p:DealAt H a l s n ns)(hσ:σ[0]? = some (some 3.1))(q:Q (.ref l) H):dAt "left" σ H Q :=
 ⟨_,hσ,a,_,rfl,.inl ⟨_,zdm,.inl p.ha,rfl,(zy7 s n l).symm⟩,q⟩
theorem zue(s n:Int)(l:Addr):(zbe s n l).length<sizeLine:=by rw[GP];show 3<16777216;decide
theorem DealAt.setN{s n:Int}(p:DealAt H a l s n ns){n':Int}(h:0<=n'):DealAt (upd H a (zj3 s n' l)) a l s n' ns :=
 ⟨p.ne,zae,by rw[zac (Z8 p.ne)];exact p.hl,p.s0,p.s1,h,p.ns0⟩
theorem DealAt.setS{s n:Int}(p:DealAt H a l s n ns){s':Int}(h:0<=s')(h2:s'<4294967296):DealAt (upd H a (zj3 s' n l)) a l s' n ns :=
 ⟨p.ne,zae,by rw[zac (Z8 p.ne)];exact p.hl,h,h2,p.n0,p.ns0⟩
theorem z0r{s n:Int}(p:DealAt H a l s n ns)(n':Int):DPut H a (.str "number") (.int n') (upd H a (zj3 s n' l)) :=
 .inl ⟨_,kNum,p.ha,rfl,zue s n l,by rw[z4x];rfl⟩
theorem z9p{s n:Int}(p:DealAt H a l s n ns)(s':Int):DPut H a (.str "seed") (.int s') (upd H a (zj3 s' n l)) :=
 .inl ⟨_,zcg,p.ha,rfl,zue s n l,by rw[zxv];rfl⟩
theorem zyc{s n s' n':Int}(ma:O.M a)(ml:O.M l)(h2:∀H H' s n ns,O.P H->DealAt H' a l s n ns->(∀b,O.M b->b≠a->b≠l->H' b=H b)->O.P H')(p:DealAt H a l s n ns)(p':DealAt H' a l s' n' ns')(st:PotStp a l H H'):Stp O H H':=by
 refine⟨λb o e nm=>?_,λpp=>h2 H H' _ _ _ pp p' λb _ h3 h4=>st.oth b h3 h4,λb u hu e=>?_⟩
 .rw[st.oth b (λz=>nm (z ▸ ma)) λz=>nm (z ▸ ml)];exact e
 .rw[st.oth b (λz=>?_) λz=>?_]
  .exact e
  .rw[z,p.ha] at e;cases e;obtain⟨xs,e1|⟨o,e1⟩⟩:=hu <;> cases e1
  .rw[z,p.hl] at e;cases e;obtain⟨xs,e1|⟨o,e1⟩⟩:=hu <;> cases e1
theorem upd2(H:Hp)(a:Addr)(x y:HO):upd (upd H a x) a y=upd H a y:=by
 funext b
 by_cases e:b=a
 .subst e;rw[zae,zae]
 .rw[zac e,zac e,zac e]
theorem zjw{K:Qa}{c:Addr}{ns:List Int}{σ:St}{H:Hp}{tf:TT}{te:TE}{G:Addr->Hp->Prop}(p:Int->Bool)(f:Int->Int)(hS:SqL K H c (ns.map V.int))(hz:ns.length<=63)
 (ht:∀n H' R,R (p n) H'->tf (some (.int n)::σ) H' R) (he:∀n H' R,R (V.int (f n)) H'->te (some (.int n)::σ) H' R)
 (q:∀D,H D=none->G D (upd H D (.lst (((ns.filter p).map f).map V.int)))) :
 ∀D,H D=none->∃W:Nat->Nat->List V->Hp->Prop,(∃m,W 0 m [] (upd H D (.lst [])))/\∀i m ys H',W i m ys H'->H' D=some (.lst ys)/\(((Itl K c).stop i H'/\G D H')\/((Itl K c).go i H'/\∀x H'',(Itl K c).yld i H' x H''->zav 0 x (QO 1 none++σ) H'' λσ2 H2=>tf σ2 H2 λb H3=>
   if b=true then te σ2 H3 λy H4=>H4 D=some (.lst ys)/\ys.length<sizeLine/\∃m',m'<m/\W (i+1) m' (ys ++ [y]) (upd H4 D (.lst (ys ++ [y]))) else ∃m',m'<m/\W (i+1) m' ys H3)):=by
 intro D hD;have sz:=GP;refine⟨λi m ys H'=>m=ns.length-i/\i<=ns.length/\ys=(((ns.take i).filter p).map f).map V.int/\H'=upd H D (.lst ys),⟨_,rfl,Q6 _,rfl,rfl⟩,?_⟩;rintro i m ys H' ⟨rfl,hi,rfl,rfl⟩;refine⟨zae,?_⟩;have hS':=(L3.same_new hD (.lst ((((ns.take i).filter p).map f).map V.int))).seq hS
 by_cases lt:i<ns.length
 .right;refine⟨⟨_,.int ns[i],hS',by rw[Qh,Qb lt];rfl⟩,λx H'' ⟨e,y⟩=>?_⟩;subst e;have ex:=y _ hS';rw[Qh,Qb lt] at ex;cases ex;show tf (some (.int ns[i])::σ) _ _
  have et:(ns.take (i+1)).filter p=(ns.take i).filter p++(if p ns[i]=true then[ns[i]] else[]):=by
   rw[YE lt,Y3,Zz];rfl
  refine ht _ _ _ ?_
  by_cases cc:p ns[i]=true
  .rw[NI cc] at et ⊢;have hlen:((ns.take i).filter p).length<=ns.length:=Q1 (JZ _ _) (by rw[QL];lia);refine he _ _ _ ⟨zae,by rw[Qc,Qc];lia,ns.length-(i+1),by lia,rfl,lt,?_,upd2 _ _ _ _⟩;rw[et,Qu,Qu];rfl
  .rw[NJ cc] at et ⊢;rw[QR] at et;exact⟨ns.length-(i+1),by lia,rfl,lt,by rw[et],rfl⟩
 .left;have e:i=ns.length:=by lia
  subst e;refine⟨⟨_,hS',by rw[Qc];exact Qg _⟩,?_⟩;rw[Z4];exact q D hD
abbrev zzv:List V->Hp->VK->Prop:=λxs H Q=>∃i j,xs = [.int i,.int j]/\Q (.int (if j > i then j else i)) H
def zju(K:Qa):Sp:=λvs H Q _=>∃(a:Addr) (ns:List Int),vs = [.ref a,.int 0]/\SqL K H a (ns.map V.int)/\ns.length<=63/\∀p l s left H',H p=none->H l=none->Same H H'->DealAt H' p l s 0 left->Q (.ref p) H'
theorem z3a{P:GK}{w:GM}{K:Qa}{mg:0.4}{base:Heap}{k:Nat}{st st0:Stmt}{rest:List Stmt}{N:2.4}{f₁:Addr}{fd₁:TQ}(Fu:Fun K "law" "law" st f₁ fd₁)(S:FnScope ("_law_script" :: "_law_deal_here" :: N) ["_law_script"] 6.3)
 (hs:za2 st=st0::rest)
 (first:∀(f:Addr) (cdv:GH) (A:GQ) (outer:List Env) (s:GJ) (H:Hp) (E:XK),Ctx3 P w K mg base k (zcb P w K mg base ("_law_script" :: "_law_deal_here" :: N) "law" 6.3 f cdv A outer s H E) ->
  PS (zcb P w K mg base ("_law_script" :: "_law_deal_here" :: N) "law" 6.3 f cdv A outer s H E ()) st0 (tAsg (zda (zju K) [] E0 (zar (tVar 0) (zar (tC (.int 0)) tNil))) (zav 1)))
 (body:∀(f:Addr) (cdv:GH) (A:GQ) (outer:List Env) (s:GJ) (H:Hp) (E:XK),Ctx3 P w K mg base k (zcb P w K mg base ("_law_script" :: "_law_deal_here" :: N) "law" 6.3 f cdv A outer s H E) ->
  ∃g,Ss3 K (zcb P w K mg base ("_law_script" :: "_law_deal_here" :: N) "law" 6.3 f cdv A outer s H E) (λj:Addr×Addr=>zjp j.1 j.2) rest g/\g { nx:=λ_=>False,rt:=λr=>r = .o (.bool true) } (none::some .ob::QO N.length none)) :
 FnOk P w K mg base CX0 (k+1) f₁ fd₁ ["_law_script"] (zi7 K):=by
 refine Fu.ok S (λvs H Q E h=>by obtain⟨a,ns,rfl,_⟩:=h;rfl) (λcdv A outer s H vs Q E hr h=>?_);obtain⟨a,ns,rfl,hS,hl,q⟩:=h;have C:=zed (P:=P) (w:=w) (K:=K) (mg:=mg) (base:=base) (N := "_law_script" :: "_law_deal_here" :: N) (x := "law") (sc:=zad st) (f:=f₁) (cdv:=cdv) (A:=A) (outer:=outer) (s:=s) (H:=H) (E:=E) hr;obtain⟨g,⟨t,h1,h2⟩,h3⟩:=body f₁ cdv A outer s H E C;refine⟨tSeq (tAsg (zda (zju K) [] E0 (zar (tVar 0) (zar (tC (.int 0)) tNil))) (zav 1)) t,?_,?_⟩
 .rw[hs];exact za7 (first f₁ cdv A outer s H E C) (h1 ())
 .refine⟨_,rfl,a,ns,rfl,hS,hl,λp l s left H' hp hln sm pa=>?_⟩;refine h2 (p,l) H' (λ_ _=>False) _ H' _ _ _ ⟨zvp p l,⟨s,0,left,pa⟩,⟨s,0,left,pa⟩,.refl _ _,λ_ _ _ z=>z.elim,λ_ _ z=>z.elim,λi r e=>?_,?_⟩ h3 ⟨λ_ _ _ _ _ _ z=>z.elim,λ_ _ _ _ _ _ z=>z.elim,λ_ _ _ _ _ _ z=>z.elim,λH' v r _ o e=>?_⟩
  .match i with
   | 0=>cases e
   | 1=>cases e;exact⟨_,rfl,rfl⟩
   | i+2=>
     rw[ZB,ZB,ZA] at e
     split at e <;> cases e
  .rw[ZT];simp[L2.start]
  .subst e;cases o;exact q H'
structure DC where
 (cb cc ce m2 m3 m4:Int)
structure DC.Ok(c:DC):Prop where
 (cc:-(2 ^ 64)<c.cc/\c.cc<2 ^ 64) 
 (m2:0<c.m2/\c.m2<4294967296)
 (m3:0<c.m3/\c.m3<4294967296)
 (m4:0<c.m4/\c.m4<4294967296)
def zkb(K:Qa)(c:DC):TS :=
 tSeq (tAsg (dAt "number") (zav 2))
 (tSeq (tIfS (zfx (tOp (rI0 λi j=>.bl (decide (j<i))) (tVar 2) (tC (.int 0))))
  (tSeq (zhq (tVar 0) (tC (.str "number")) (tOp (rI CDiv λi j=>.int (i / j)) (tVar 2) (tVar 1))) (tRet (tOp (rI (λ_ j=>0<j) λi j=>.int (i % j)) (tVar 2) (tVar 1)))) zsh)
 (tSeq (tAsg (tOp (rI (λ_ j=>0<j) λi j=>.int (i % j)) (tOp (rI0 λi j=>.int (i+j)) (tOp (rI CMul λi j=>.int (i * j)) (dAt "seed") (tC (.int 48271))) (tC (.int c.cb))) (tC (.int 2147483647))) (zav 3))
 (tSeq (zhq (tVar 0) (tC (.str "seed")) (tOp (rI (λ_ j=>0<j) λi j=>.int (i % j)) (tOp (rI0 λi j=>.int (i+j)) (tOp (rI CMul λi j=>.int (i * j)) (tVar 3) (tC (.int c.cc))) (tC (.int c.ce))) (tC (.int c.m2))))
 (tSeq (tAsg (tOp (rI (λ_ j=>0<j) λi j=>.int (i % j)) (tOp (rI CMul λi j=>.int (i * j)) (dAt "seed") (dAt "seed")) (tC (.int c.m3))) (zav 4))
 (tRet (tOp (rI (λ_ j=>0<j) λi j=>.int (i % j)) (tOp (rI0 λi j=>.int (i+j)) (tOp (rI CMul λi j=>.int (i * j)) (tOp (rI (λ_ j=>0<j) λi j=>.int (i % j)) (tOp (rI CMul λi j=>.int (i * j)) (tVar 3) (tVar 3)) (tC (.int c.m4))) (tC (.int c.m3))) (tVar 4)) (tVar 1)))))))
def zkx(K:Qa)(c:DC):TS:=tSeq (z7m K) (zkb K c)
theorem zt9{K:Qa}{c:DC}(hc:c.Ok){H:Hp}{a l:Addr}{s n:Int}{ns:List Int}{m:Int}{D:Ends}(p:DealAt H a l s n ns)(m0:0<m)(m1:m<1073741824)
 (q:∀k H' s' n' ns',0<=k->k<m->DealAt H' a l s' n' ns'->PotStp a l H H'->D.rt (.int k) H'):zkb K c D [some 3.1,some (.int m),none,none,none] H:=by
 refine zwc p rfl ?_;refine⟨_,rfl,n,0,rfl,rfl,_,rfl,?_⟩;refine ite2 (λ_=>?_) (λ_=>?_)
 .refine⟨_,rfl,_,rfl,n,m,rfl,rfl,⟨m0,m1⟩,?_⟩;refine⟨_,rfl,a,_,rfl,z0r p _,?_⟩;exact⟨_,rfl,_,rfl,n,m,rfl,rfl,m0,q _ _ s _ ns (JV _ 0.0) (J7 _ m0) (p.setN (Int.ediv_nonneg p.n0 0.0)) (.upA _)⟩
 .have s0:=p.s0;have s1:=p.s1;refine zk7 p rfl ?_;refine⟨s,48271,rfl,rfl,.inl ⟨by lia,by lia⟩,?_⟩;refine⟨_,_,rfl,rfl,_,_,rfl,rfl,(show(0:Int)<2147483647 by decide),?_⟩;dsimp only;have e0:0<=(s * 48271+c.cb) % 2147483647:=JV _ 0.2;have e1:(s * 48271+c.cb) % 2147483647<2147483647:=J7 _ 0.2;generalize (s * 48271+c.cb) % 2147483647=one at e0 e1;have hm2:=hc.m2;have hm3:=hc.m3;have hm4:=hc.m4;refine⟨_,rfl,one,c.cc,rfl,rfl,.inl ⟨by lia,by lia⟩,?_⟩;refine⟨_,_,rfl,rfl,_,_,rfl,rfl,hm2.1,?_⟩;dsimp only;have f0:0<=(one * c.cc+c.ce) % c.m2:=JV _ 0.0;have f1:(one * c.cc+c.ce) % c.m2<c.m2:=J7 _ hm2.1;generalize (one * c.cc+c.ce) % c.m2=sd at f0 f1;refine⟨_,rfl,a,_,rfl,z9p p _,?_⟩;have p2:=p.setS (s':=sd) 0.0 0.0;refine zk7 p2 rfl (zk7 p2 rfl ?_);refine⟨sd,sd,rfl,rfl,.inl ⟨by lia,by lia⟩,_,_,rfl,rfl,hm3.1,?_⟩;have g0:0<=one * one % c.m4:=JV _ 0.0;have g1:one * one % c.m4<c.m4:=J7 _ hm4.1;refine⟨_,rfl,_,rfl,one,one,rfl,rfl,.inl ⟨by lia,by lia⟩,?_⟩;refine⟨_,_,rfl,rfl,hm4.1,_,_,rfl,rfl,.inl ⟨by lia,by lia⟩,?_⟩;refine⟨_,rfl,_,_,rfl,rfl,_,rfl,_,_,rfl,rfl,m0,?_⟩;exact q _ _ _ _ _ (JV _ 0.0) (J7 _ m0) p2 (.upA _)
theorem zxx{K:Qa}{dc:DC}(hc:dc.Ok){H:Hp}{a l:Addr}{s n:Int}{ns:List Int}{m:Int}{D:Ends}(p:DealAt H a l s n ns)(m0:0<m)(m1:m<1073741824)
 (q:∀k H' s' n' ns',0<=k->k<m->DealAt H' a l s' n' ns'->PotStp a l H H'->D.rt (.int k) H'):zkx K dc D [some 3.1,some (.int m),none,none,none] H:=by
 refine⟨λc σ H'=>σ = [some 3.1,some (.int m),none,none,none]/\∃s n ns,c=ns.length/\DealAt H' a l s n ns/\PotStp a l H H',⟨_,rfl,s,n,ns,rfl,p,.refl _ _ _⟩,?_⟩;rintro c σ H1 ⟨rfl,s,n,ns,rfl,p,st⟩;have out:zkb K dc D [some 3.1,some (.int m),none,none,none] H1:=zt9 hc p m0 m1 λk H' s' n' ns' h1 h2 h3 h4=>q k H' s' n' ns' h1 h2 h3 (st.trans h4);refine zwc p rfl ?_;refine⟨rfl,_,rfl,?_⟩;refine ite2 (λc=>?_) (λc=>iteF out);refine zp0 p rfl ?_;refine⟨_,_,rfl,.inl ⟨_,.of p.hl,rfl⟩,_,_,rfl,rfl,_,rfl,?_⟩;refine ite2 (λc2=>?_) (λc2=>out);have c3:=NL c2;have hne:ns≠[]:=λe=>by rw[e] at c3;simp at c3
 obtain⟨r,x,rfl⟩:∃r x,ns=r ++ [x]:=⟨ns.dropLast,ns.getLast hne,(List.dropLast_concat_getLast hne).symm⟩;refine⟨λσ' H'=>σ' = [some 3.1,some (.int m),none,none,none]/\∃s n ns,ns.length<(r ++ [x]).length/\DealAt H' a l s n ns/\PotStp a l H H',λσ' H' ⟨e,s,n,ns,hl,h1,h2⟩=>⟨_,hl,e,s,n,ns,rfl,h1,h2⟩,?_⟩;refine zp0 p rfl ?_;have p1:DealAt (upd H1 l (.lst ((r ++ [x]).map V.int).dropLast)) a l s n r:=⟨p.ne,by rw[zac p.ne];exact p.ha,by rw[zae,Qu];show some (HO.lst (List.dropLast (_ ++ [V.int x])))=_;rw[Ug],p.s0,p.s1,p.n0,λz hz=>p.ns0 z (QE _ hz)⟩;refine⟨.inl ⟨rfl,_,.of p.hl⟩,l,_,.int x,rfl,rfl,p.hl,by simp,?_⟩;refine⟨_,rfl,a,_,rfl,z0r p1 x,rfl,s,x,r,by simp,p1.setN (p.ns0 x 0.1),st.trans (PotStp.trans (.upL _) (.upA _))⟩
theorem zpk{K:Qa}{c:DC}(hc:c.Ok){O:Ob}{H:Hp}{ds:2.3}{ws:3.3}{Qr:R->Prop}{Q:VK}{x1 x2 x3 x4 x5:Str}(hφ:IsDeal O)(p:O.P H)(is:IsAll K 3.7 H ws ds)(q:zc9 ds Qr)(kk:∀r,Qr r->∀v H',Stp O H H'->Out K O H H' v r->Q v H'):
 zkx K c { nx:=λ_ H'=>Q .non H',rt:=Q } (L2.start [x1,x2,x3,x4,x5] (O.v::ws)) H:=by
 obtain⟨m,rfl,m0,m1,q⟩:=q;obtain⟨a,l,hv,ma,ml,h1,h2⟩:=hφ.ex;obtain⟨s,n,ns,pa⟩:=h1 H p;obtain⟨v,rfl,iv⟩:=zb5 is;cases iv;rw[hv];exact zxx hc pa m0 m1 λk H' s' n' ns' k0 k1 p' st=>kk _ (q k k0 k1) _ H' (zyc ma ml h2 pa p' st) (Is.int k)
def zu9(K:Qa)(ti ts:TE):TS :=
 tSeq (tAsg (zfl 1 (zel K (tSl (rSlL K) (tVar 0) (zm0 (tVar 1)) (zm0 (tC (.int 63))))) (zav 0) tYes (tCB zzv (zar (tVar 0) (zar (tOp (rI0 λi j=>.int (i-j)) (tC (.int 0)) (tVar 0)) tNil)))) (zav 2))
 (tSeq (tAsg ti (zav 3))
 (tSeq (tFor (zel K (tVar 2)) (zav 4)
  (tAsg ts (zav 3)))
 (tRet (z0u [(tC (.str "seed"),tVar 3),(tC (.str "number"),tC (.int 0)),(tC (.str "left"),tLR K (zfl 1 (zel K (tVar 2)) (zav 0) (zfx (tOp (rI0 λi j=>.bl (decide (j<=i))) (tVar 0) (tOp (rI CPow λi j=>.int (i ^ j.toNat)) (tC (.int 10)) (tC (.int 18))))) (tVar 0)))]))))
theorem zry{K:Qa}{ti ts:TE}{s0:Int}(hs0:0<=s0)(hs1:s0<4294967296)(hi:∀(v v1:V) H Q,Q (.int s0) H->ti [some v,some (.int 0),some v1,none,none] H Q)(hst:∀(v v1:V) (s n:Int) H Q,0<=s->s<4294967296->(∀s',0<=s'->s'<4294967296->Q (.int s') H)->ts [some v,some (.int 0),some v1,some (.int s),some (.int n)] H Q){H:Hp}{Q:VK}{a:Addr}{ns:List Int}(hS:SqL K H a (ns.map V.int))(hl:ns.length<=63)
 (q:∀p l s left H',H p=none->H l=none->Same H H'->DealAt H' p l s 0 left->Q (.ref p) H'):zu9 K ti ts { nx:=λ_ H'=>Q .non H',rt:=Q } [some 3.1,some (.int 0),none,none,none] H:=by
 have sL:=GP;refine⟨_,rfl,_,rfl,_,rfl,63,rfl,a,_,rfl,hS,λc hc=>?_⟩;rw[zx1]
 have hcl:(cutL ns (some 0) (some 63)).length<=63:=by
  unfold cutL;rw[QL,Zr];lia
 generalize cutL ns (some 0) (some 63)=cs at hcl;refine⟨c,rfl,⟨_,.of zae⟩,?_⟩;have g1:Same H (upd H c (.lst (cs.map V.int))):=L3.same_new hc _;refine zjw (K:=K) (c:=c) (H:=upd H c (.lst (cs.map V.int))) (σ:=[some 3.1,some (.int 0),none,none,none]) (tf:=tYes) (te:=tCB zzv (zar (tVar 0) (zar (tOp (rI0 λi j=>.int (i-j)) (tC (.int 0)) (tVar 0)) tNil))) (λ_=>true) (λn=>if 0-n > n then 0-n else n) (.of zae) hcl (λn H' R r=>r) (λn H' R r=>⟨_,rfl,_,rfl,0,n,rfl,rfl,n,0-n,rfl,r⟩) λd hd=>?_;have hcs:cs.filter (λ_=>true)=cs:=List.filter_eq_self.mpr λ_ _=>rfl;rw[hcs]
 have habs:∀n∈cs.map (λn=>if 0-n > n then 0-n else n),0<=n:=λn hn=>by
  obtain⟨m,_,rfl⟩:=Qo.mp hn
  split <;> lia
 have hal:(cs.map (λn=>if 0-n > n then 0-n else n)).length<=63:=by rw[Qc];exact hcl
 generalize cs.map (λn=>if 0-n > n then 0-n else n)=es at habs hal;have g2:Same H (upd (upd H c (.lst (cs.map V.int))) d (.lst (es.map V.int))):=g1.trans (L3.same_new hd _);generalize eH:upd (upd H c (.lst (cs.map V.int))) d (.lst (es.map V.int))=H1 at g2;have hd1:H1 d=some (.lst (es.map V.int)):=by rw[<- eH];exact zae
 refine hi _ _ _ _ ?_;refine⟨_,rfl,d,rfl,⟨_,.of hd1⟩,?_⟩;refine zxf (xs:=es.map V.int) (λi σ H'=>∃(s:Int) (o:Option V),σ = [some 3.1,some (.int 0),some (.ref d),some (.int s),o]/\0<=s/\s<4294967296/\H'=H1) ?_ ?_ ?_ ?_
 .exact⟨_,none,rfl,hs0,hs1,rfl⟩
 .rintro i σ H' hi ⟨s,o,rfl,h1,h2,rfl⟩;exact .of hd1
 .rintro i x σ H' hx ⟨s,o,rfl,h1,h2,rfl⟩;rw[Qh] at hx;obtain⟨n,hn,rfl⟩:=Q2.mp hx;exact hst _ _ s n _ _ h1 h2 λs' f0 f1=>⟨_,_,rfl,f0,f1,rfl⟩
 .rintro σ H' ⟨s,o,rfl,h1,h2,rfl⟩;intro p hp;have npd:p≠d:=λz=>by rw[z,hd1] at hp;cases hp
  refine⟨_,rfl,?_⟩;have hd2:upd H' p (.dK []) d=some (.lst (es.map V.int)):=by rw[zac (Z8 npd)];exact hd1
  refine⟨_,rfl,d,rfl,⟨_,.of hd2⟩,?_⟩;refine zjw (tf:=zfx (tOp (rI0 λi j=>.bl (decide (j<=i))) (tVar 0) (tOp (rI CPow λi j=>.int (i ^ j.toNat)) (tC (.int 10)) (tC (.int 18))))) (te:=tVar 0) (λn=>decide ((10:Int) ^ (18:Int).toNat<=n)) (λn=>n) (.of hd2) hal (λn H' R r=>⟨_,rfl,10,18,rfl,rfl,⟨by decide,by decide,by decide⟩,_,_,rfl,rfl,_,rfl,r⟩) (λn H' R r=>⟨_,rfl,r⟩) λe he=>?_;rw[List.map_id'];have hfl:∀n∈es.filter (λn=>decide ((10:Int) ^ (18:Int).toNat<=n)),0<=n:=λn hn=>habs n (QI.mp hn).1;generalize es.filter (λn=>decide ((10:Int) ^ (18:Int).toNat<=n))=left at hfl;have npe:p≠e:=λz=>by rw[<- z,zae] at he;cases he
  refine⟨e,_,rfl,.of zae,λl hln=>?_⟩
  have npl:p≠l:=λz=>by
   rw[<- z,zac npe,zae] at hln;cases hln
  have nel:e≠l:=λz=>by rw[<- z,zae] at hln;cases hln
  have hlp:upd H' p (.dK []) l=none:=by rw[zac (Z8 nel)] at hln;exact hln
  have hlH:H' l=none:=by rw[zac (Z8 npl)] at hlp;exact hlp
  refine⟨by rw[zac npl,zac npe];exact zae,zbe s 0 l,rfl,by show 3<=15;decide,?_⟩
  have em:zeb [] (zbe s 0 l)=zbe s 0 l:=by
   have a1:¬(zcg=kNum):=by decide +kernel
   have a2:¬(zcg=zdm):=by decide +kernel
   have a3:¬(kNum=zdm):=by decide +kernel
   simp[zeb,zbe,putK,a1,a2,a3]
  rw[em];have heH:H' e=none:=by rw[zac (Z8 npe)] at he;exact he
  have hm:(left.map V.int).reverse=left.reverse.map V.int:=Gf.symm;rw[hm];refine q p l s left.reverse _ (g2.free hp) (g2.free hlH) (λb o eb=>?_) ⟨npl,zae,?_,h1,h2,Int.le_refl 0,λn hn=>hfl n (Gg.mp hn)⟩
  .have e1:=g2 b o eb;have n1:b≠p:=λz=>by rw[z,hp] at e1;cases e1
   have n2:b≠l:=λz=>by rw[z,hlH] at e1;cases e1
   have n3:b≠e:=λz=>by rw[z,heH] at e1;cases e1
   rw[zac n1,zac n2,zac n3,zac n1];exact e1
  .rw[zac (Z8 npl)];exact zae
theorem zmi{K:Qa}{φ:Ob->Prop}(hp:∀(O:Ob) (D:Addr) (u:HO),φ O->¬O.M D->φ (O.plus D u)){O:Ob}{H:Hp}{ds:2.3}{ws:3.3}{Qr:R->Prop}{Q:VK}{x1 x2 x3:Str}(ok:O.Ok)(hφ:φ O)(p:O.P H)(is:IsAll K 3.7 H ws ds)(q:zf2 ds Qr)(kk:∀r,Qr r->∀v H',Stp O H H'->Out K O H H' v r->Q v H'):
 zib K (spD K φ 1 zc9) { nx:=λ_ H'=>Q .non H',rt:=Q } (L2.start [x1,x2,x3] (O.v::ws)) H:=by
 obtain⟨m,rfl,m0,m1,q⟩:=q;obtain⟨v,rfl,iv⟩:=zb5 is;cases iv;have hsz:sizeLine=16777216:=GP;refine⟨_,rfl,by decide,λl hl=>?_⟩;have eabc:(Zt "abcdefghijklmnopqrstuvwxyz").cps.toList=abc:=by decide +kernel
 rw[eabc];have sl:Stp O H (upd H l (.lst (abc.map λc=>V.str (sg c)))):=.new ok hl _;have nMl:¬O.M l:=λmm=>by obtain⟨o,z⟩:=ok.here H l p mm;rw[hl] at z;cases z
 have al:∀b o,H b=some o->b≠l:=λb o e z=>by rw[z,hl] at e;cases e
 refine 3.2;refine⟨_,rfl,m,rfl,by lia,by lia,λD hD=>?_⟩;have nlD:l≠D:=λz=>by rw[<- z,zae] at hD;cases hD
 have hDH:H D=none:=Same.free (L3.same_new hl _) hD;have nMD:¬O.M D:=λmm=>by obtain⟨o,z⟩:=ok.here H D p mm;rw[hDH] at z;cases z
 have aD:∀b o,H b=some o->b≠D:=λb o e z=>by rw[z,hDH] at e;cases e
 have pl:∀{H':Hp} {b:Addr} {o:HO},¬O.M b->O.P H'->O.P (upd H' b o):=λ{H' b o} nb pp=>ok.loc H' _ (λc mc=>zac λz=>nb (z ▸ mc)) pp
 refine⟨λi c ys H'=>c=m.toNat-i/\i<=m.toNat/\H' D=some (.lst ys)/\(∃w r:List Nat,ys=w.map (λc=>V.str (sg c))/\w.length=i/\(∀c∈w,zf3 c)/\H' l=some (.lst (r.map λc=>V.str (sg c)))/\r.length+i=26/\(∀c∈r,zf3 c)/\(w++r).Nodup) /\
  O.P H'/\(∀b o,H b=some o->¬O.M b->H' b=some o)/\TupStay H H',⟨_,rfl,Q6 _,zae,⟨[],abc,rfl,rfl,by simp,by rw[zac nlD];exact zae,rfl,by unfold zf3;decide,by decide⟩,pl nMD (pl nMl p),λb o e n=>?_,λb u _ e=>?_⟩,?_⟩
 .rw[zac (aD b o e),zac (al b o e)];exact e
 .rw[zac (aD b u e),zac (al b u e)];exact e
 rintro i c ys H' ⟨rfl,hi,hDy,⟨w,r,rfl,hw,hwl,hr,hrl,hrc,hnd⟩,pp,kp,ts⟩;refine⟨hDy,?_⟩
 by_cases hlt:i<m.toNat
 .right;refine⟨hlt,λx H2 zz=>?_⟩;obtain⟨e2,_⟩:=zz;subst e2;have hr0:0<r.length:=by lia
  show tBM K "list" ziv (tVar 3) _ _ H2 _;refine⟨_,rfl,.inl ⟨rfl,_,.of hr⟩,_,rfl,?_⟩;refine⟨_,rfl,_,r.length,rfl,.inl ⟨_,.of hr,by rw[Qc]⟩,?_⟩;have okp:=(ok.plus D (w.map λc=>V.str (sg c))).plus l (r.map λc=>V.str (sg c))
  have nl2:¬(O.plus D (.lst (w.map λc=>V.str (sg c)))).M l:=λmm=>by
   rcases mm with mm|mm
   .exact nMl mm
   .exact nlD mm
  show spD K φ 1 zc9 ([O.v,V.int r.length] ++ []) H2 _ E0;refine⟨_,[.int r.length],[.int r.length],λx=>∃k:Int,x = .o (.int k)/\0<=k/\k<r.length,okp,hp _ l _ (hp _ D _ hφ nMD) nl2,⟨⟨pp,hDy⟩,hr⟩,rfl,rfl,.cons (.int _) .nil,⟨_,rfl,by lia,by lia,λk k0 k1=>⟨k,rfl,k0,k1⟩⟩,?_⟩;rintro _ ⟨k,rfl,k0,k1⟩ v H3 st o3;cases o3;obtain⟨⟨p3,hD3⟩,hl3⟩:=st.p ⟨⟨pp,hDy⟩,hr⟩;have hk:k.toNat<r.length:=by lia
  have ek:k=((k.toNat:Nat):Int):=by lia
  refine⟨l,_,k,k.toNat,V.str (sg r[k.toNat]),rfl,rfl,hl3,by lia,by lia,?_,by rw[Qh,Qb hk];rfl,?_⟩
  .rw[Qc];unfold N1;simp only[show ¬k<0 by lia,NQ]
   first|(rw[NI 0.0])|(simp;lia)|lia
  .have ne1:D≠l:=Z8 nlD;refine⟨by rw[zac ne1];exact hD3,by rw[Qc];lia,m.toNat-(i+1),by lia,rfl,hlt,zae,⟨w ++ [r[k.toNat]],r.eraseIdx k.toNat,by rw[Qu];rfl,by rw[Qj,hw];rfl,λc hc=>?_,?_,?_,λc hc=>hrc c (znj hc),?_⟩,pl nMD (pl nMl p3),λb o e n=>?_,λb u hu e=>?_⟩
   .rcases Qq.mp hc with hc|hc
    .exact hwl c hc
    .rw[Qm.mp hc];exact hrc _ (Ze hk)
   .rw[zac nlD,zae,zl1]
   .rw[Yj];rw[NI hk];lia
   .rw[QP];refine(List.Perm.nodup_iff (VX w ?_)).mp hnd;exact(zmd hk).symm
   .rw[zac (aD b o e),zac (al b o e)]
    exact st.s b o (kp b o e n) λmm=>by
     rcases mm with (mm|mm)|mm
     .exact n mm
     .exact aD b o e mm
     .exact al b o e mm
   .rw[zac (aD b u e),zac (al b u e)];exact st.t b u hu (ts b u hu e)
 .left;have e:i=m.toNat:=by lia
  refine⟨by show m.toNat<=i;lia,?_⟩;refine⟨D,w.map sg,rfl,by rw[hDy,QY];rfl,by rw[Qc];lia,λzs z hpm hs hz=>?_⟩
  obtain⟨w2,rfl,hw2⟩:=unsg (zs:=zs) λy hy=>by
   obtain⟨c,hc,rfl⟩:=Qo.mp (hpm.mem_iff.mp hy);exact⟨c,rfl,hwl c hc⟩
  have hlen:w2.length=w.length:=by have:=hpm.length_eq;simpa using this
  have hinc:w2.Pairwise (· < ·):=by
   refine zjt hs ?_;have hw1:(w.map sg).Nodup:=ZP.mpr ((J1.mp hnd).1.imp λne e=>ne (zu1 e));have hw3:(w2.map sg).Nodup:=hpm.symm.nodup_iff.mp hw1;exact(ZP.mp hw3).imp λne e=>ne (NO sg e)
  refine⟨_,z,w2.map sg,rfl,rfl,zae,?_,?_⟩
  .rw[ztx,Qc];have e0:(Zt "").length=0:=by decide +kernel
   rw[e0];lia
  .rw[zqm];have az:∀b o,H b=some o->¬O.M b->b≠z:=λb o eb n e2=>by rw[e2] at eb;have:=kp z o eb (e2 ▸ n);rw[hz] at this;cases this
   have nMz:¬O.M z:=λmm=>by obtain⟨o,y⟩:=ok.here H' z pp mm;rw[hz] at y;cases y
   refine kk _ (q w2 0.0 hw2 hinc) _ _ ⟨λb o eb n=>by rw[zac (az b o eb n)];exact kp b o eb n,λ_=>pl nMz pp,λb u hu eb=>?_⟩ (Is.str _);have h1:=ts b u hu eb;rw[zac λe2=>by rw[e2,hz] at h1;cases h1];exact h1
theorem zo2{K:Qa}{O:Ob}{H:Hp}{ds:2.3}{ws:3.3}{Qr:R->Prop}{Q:VK}{x1 x2 x3:Str}(ok:O.Ok)(hφ:IsDeal O)(p:O.P H)(is:IsAll K 3.7 H ws ds)(q:zf2 ds Qr)(kk:∀r,Qr r->∀v H',Stp O H H'->Out K O H H' v r->Q v H'):
 zib K (spD K IsDeal 1 zc9) { nx:=λ_ H'=>Q .non H',rt:=Q } (L2.start [x1,x2,x3] (O.v::ws)) H:=zmi (λO D u h n=>h.plus D u n) ok hφ p is q kk
end L3
namespace L16
open PySem PySem.Spec
open PyProof.Rows hiding St
open L2 L3
def top(i:Nat):Stmt:=PySem.Challenge.pw_lostpost_k16_whole_joined_and_met_sets.main.body.getD i (.Pass ⟨0,0,0,0⟩)
section
variable {P:GK}{w:GM}{K:Qa}{mg:0.4}{base:Heap}{k:Nat}
abbrev zmn(P:GK)(w:GM)(K:Qa)(mg:0.4)(base:Heap):Prop:=Def3 P w K mg base 1 "_law_draw" ["_law_deal_here", "_law_many"] (spD K IsDeal 1 zc9)
abbrev zr6:Stmt:=top 22
theorem z7l:FnScope ["_law_script", "_law_base", "_law_cells", "_law_number", "_law_cell"] ["_law_script", "_law_base"] (zad zr6):=1.2
theorem d_law_deal(B:Blt mg)(T:Top3 K mg "_law_deal" zr6):Def3 P w K mg base 1 "_law_deal" ["_law_script", "_law_base"] (zju K):=by
 obtain⟨f,fd,Fu,m⟩:=T.ex;refine⟨f,fd,Fu.ok z7l (λvs H Q E h=>by obtain⟨a,ns,rfl,_⟩:=h;rfl) (λcdv A outer s H vs Q E hr h=>?_),m,Fu.kp,Fu.binds 2.9⟩;obtain⟨a,ns,rfl,hS,hl,q⟩:=h;refine⟨zu9 K (tOp (rI0 λi j=>.int (i+j)) (tC (.int 7919)) (tVar 1)) (tOp (rI (λ_ j=>0<j) λi j=>.int (i % j)) (tOp (rI0 λi j=>.int (i+j)) (tOp (rI CMul λi j=>.int (i * j)) (tVar 3) (tC (.int 48271))) (tOp (rI (λ_ j=>0<j) λi j=>.int (i % j)) (tVar 4) (tC (.int 2147483629)))) (tC (.int 2147483647))),?_,zry (s0:=7919+0) 0.2 0.2 (λv v1 H Q q=>⟨_,rfl,7919,0,rfl,rfl,q⟩) (λv v1 s n H Q h1 h2 q=>⟨_,rfl,s,48271,rfl,rfl,.inl ⟨by lia,by lia⟩,_,rfl,n,2147483629,rfl,rfl,(show(0:Int)<2147483629 by decide),_,_,rfl,rfl,_,_,rfl,rfl,(show(0:Int)<2147483647 by decide),q _ (JV _ 0.2) (Int.lt_of_lt_of_le (J7 _ 0.2) 0.2)⟩) hS hl q⟩;have nd:(["_law_script", "_law_base", "_law_cells", "_law_number", "_law_cell"]:List Str).Nodup:=by decide +kernel
 exact(za7 (zjj (n0:=2) nd rfl rfl rfl 1 (N':=["_law_cell", "_law_script", "_law_base", "_law_cells", "_law_number", "._law_cell"]) (.of rfl 2.5) rfl (ze6 (zoc sl_list 4.9 (zky (zag (i:=1) rfl 0.3)) (zky zau))) (λC s H ex=>zdw (NL 2.5) rfl 4.8 (by first|exact .inl rfl|exact .inr rfl)) (zd7 0.2) (λC s H ex=>zox) (λC s H ex=>zd5 (zu3 rfl) rfl B.max z7i (zao 4.9 (zao (za8 zt3 zau 4.9) zbk))))
  (za7 (zb3 (i:=3) nd rfl 4.8 (za8 op_add zau (zag (i:=1) rfl 0.3)))
  (za7 (zv6 VQ rfl (ze6 (zag (i:=2) rfl 0.3)) (zdw (i:=4) nd rfl 4.8) (zcq (zb3 (i:=3) nd rfl 4.8 (za8 zdg (za8 op_add (za8 zfj (zag (i:=3) rfl 0.3) zau) (za8 zdg (zag (i:=4) rfl 0.3) zau)) zau))))
  (zcq (zd1 (z3h (zh8 zbm (zag (i:=3) rfl 0.3) (zh8 zbm zau (zh8 zbm (zta (hr.hd) rfl B.list rfl B.reversed (zkm 1 (N':=["_law_cell", "_law_script", "_law_base", "_law_cells", "_law_number", "._law_cell"]) (.of rfl 2.5) rfl (ze6 (zag (i:=2) rfl 0.3)) (λC s H ex=>zdw (NL 2.5) rfl 4.8 (by first|exact .inl rfl|exact .inr rfl)) (zd7 0.2) (λC s H ex=>zuo (ze4 z9q 4.9 (za8 z7r zau zau) (zcv _))) (λC s H ex=>4.9))) z1r))) rfl rfl 0.1 0.2))))))
def dc:DC:=⟨7919,40692,104729,2147483399,2147483563,2147483629⟩
theorem z9m:dc.Ok:=⟨by decide,by decide,by decide,by decide⟩
abbrev zr3:Stmt:=top 23
theorem z7h:FnScope ["_law_deal_here", "_law_many", "_law_number", "_law_one", "_law_other"] ["_law_deal_here", "_law_many"] (zad zr3):=1.2
theorem d_law_draw(B:Blt mg)(T:Top3 K mg "_law_draw" zr3):Def3 P w K mg base 1 "_law_draw" ["_law_deal_here", "_law_many"] (spD K IsDeal 1 zc9):=by
 obtain⟨f,fd,Fu,m⟩:=T.ex;refine⟨f,fd,Fu.ok z7h (zj9 rfl) (λcdv A outer s H vs Q E hr h=>?_),m,Fu.kp,Fu.binds 2.9⟩;obtain⟨O,ds,ws,Qr,ok,hφ,p,hl,rfl,is,q,kk⟩:=h;refine⟨zkx K dc,?_,zpk z9m hφ p is q kk⟩;have nd:(["_law_deal_here", "_law_many", "_law_number", "_law_one", "_law_other"]:List Str).Nodup:=by decide +kernel
 exact(za7 (zn4 VQ (PW.pt (zvo (ze4 z9t (zc8 (zce hr) 4.9 zbm (λ_ _=>rfl)) zau (zcv _)) (zq2 (ze4 z0p (zd5 zh5 rfl B.len zpb (zao (zc8 (zce hr) 4.9 zbm (λ_ _=>rfl)) zbk)) zau (zcv _))))) (zcq (zff (zce hr) 4.9 zbm (zwk J0 YM YN zp1 (zc8 (zce hr) 4.9 zbm (λ_ _=>rfl))) rfl)))
  (za7 (zb3 (i:=2) nd rfl 4.8 (zc8 (zce hr) 4.9 zbm (λ_ _=>rfl)))
  (za7 (z0x (ze4 z0p (zag (i:=2) rfl 0.3) zau (zcv _)) (za7 (zff (zce hr) 4.9 zbm (za8 z2g (zag (i:=2) rfl 0.3) (zag (i:=1) rfl 0.3)) rfl) (zcq (zd1 (za8 zdg (zag (i:=2) rfl 0.3) (zag (i:=1) rfl 0.3))))) zql)
  (za7 (zb3 (i:=3) nd rfl 4.8 (za8 zdg (za8 op_add (za8 zfj (zc8 (zce hr) 4.9 zbm (λ_ _=>rfl)) zau) zau) zau))
  (za7 (zff (zce hr) 4.9 zbm (za8 zdg (za8 op_add (za8 zfj (zag (i:=3) rfl 0.3) zau) zau) zau) rfl)
  (za7 (zb3 (i:=4) nd rfl 4.8 (za8 zdg (za8 zfj (zc8 (zce hr) 4.9 zbm (λ_ _=>rfl)) (zc8 (zce hr) 4.9 zbm (λ_ _=>rfl))) zau))
  (zcq (zd1 (za8 zdg (za8 op_add (za8 zfj (za8 zdg (za8 zfj (zag (i:=3) rfl 0.3) (zag (i:=3) rfl 0.3)) zau) zau) (zag (i:=4) rfl 0.3)) (zag (i:=1) rfl 0.3))))))))))
abbrev zgk:Stmt:=top 24
theorem zse:FnScope ["_law_deal_here", "_law_many", "_law_left"] ["_law_deal_here", "_law_many"] (zad zgk):=1.2
theorem zc6(B:Blt mg)(d_law_draw:zmn P w K mg base)(T:Top3 K mg "_law_alphabet" zgk):Def3 P w K mg base 2 "_law_alphabet" ["_law_deal_here", "_law_many"] (spD K IsDeal 1 zf2):=by
 obtain⟨f,fd,Fu,m⟩:=T.ex;refine⟨f,fd,Fu.ok zse (zj9 rfl) (λcdv A outer s H vs Q E hr h=>?_),m,Fu.kp,Fu.binds 2.9⟩;obtain⟨O,ds,ws,Qr,ok,hφ,p,hl,rfl,is,q,kk⟩:=h;refine⟨zib K (spD K IsDeal 1 zc9),?_,zo2 ok hφ p is q kk⟩;have nd:(["_law_deal_here", "_law_many", "_law_left"]:List Str).Nodup:=by decide +kernel
 obtain⟨fD,fdD,G,mD,kpD,bnD⟩:=d_law_draw.ex
 exact za7 (zb3 (i:=2) nd rfl 4.8 (zgy (zr5 rfl) rfl B.list zqx (zao zbm zbk)))
  (zcq (zd1 (zg8 YD VT VU zo8 zbm (zao (zd5 zr2 rfl B.sorted zes (zao
   (zkm 1 (N':=["_law_k", "_law_deal_here", "_law_many", "_law_left"]) (.of rfl 2.5) rfl (zl7 rfl B.range (zao (zag (i:=1) rfl 0.3) zbk))
    (λC s H ex=>zdw (NL 2.5) rfl 4.8 (by first|exact .inl rfl|exact .inr rfl)) (zd7 0.2) (λC s H ex=>zox)
    (λC s H ex=>zg8 J0 YM YN zuz (zag (i:=3) rfl 0.3)
     (zao (zfg (k:=1) (by exact G) (by exact hr) rfl mD kpD bnD .nil zit (zao (zag (i:=1) rfl 0.3) (zao (zd5 zh5 rfl B.len zpb (zao (zag (i:=3) rfl 0.3) zbk)) zbk))) zbk))) zbk)) zbk))))
end
end L16
namespace L6
def eat(c:Nat):List Nat->List Nat
 | []=>[]
 | x::r=>if x=c then r else x::r
def eats(l:0.7):List Nat->List Nat:=λless=>l.foldl (λr c=>eat c r) less
def under(less more:0.7):Bool:=(eats more less).isEmpty
theorem zx6(l:0.7):eats l [] = []:=by
 induction l with
 | nil=>rfl
 | cons c l ih=>exact ih
theorem under_iff:∀{more less:0.7},under less more=true↔less.Sublist more
 | [],[]=>by simp[under,eats]
 | [],x::less=>by simp[under,eats]
 | c::more,[]=>by simp[under,zx6]
 | c::more,x::less=>by
   show under (eat c (x::less)) more=true↔_
   by_cases h:x=c
   .subst h;rw[show eat x (x::less)=less from NI rfl,under_iff (more:=more) (less:=less)];exact⟨λz=>z.cons_cons x,λz=>by cases z with|cons _ z=>exact List.Sublist.trans (Zk _ _) z|cons_cons _ z=>exact z⟩
   .rw[show eat c (x::less)=x::less from NJ h,under_iff (more:=more) (less:=x::less)];exact⟨λz=>z.cons c,λz=>by cases z with|cons _ z=>exact z|cons_cons _ z=>exact absurd rfl h⟩
theorem zgn(w:0.7):under w w=true:=under_iff.mpr (List.Sublist.refl w)
theorem zh2(h:under a b=true)(h':under b c=true):under a c=true:=under_iff.mpr ((under_iff.mp h).trans (under_iff.mp h'))
theorem zl5(h:under a b=true):a.length<=b.length:=(under_iff.mp h).length_le
theorem zok(h:under a b=true)(hl:b.length<=a.length):a=b:=(under_iff.mp h).eq_of_length_le hl
def zbq(c:Nat)(more:0.7)(start:Nat):Option Nat:=((Q3 more.length).filter λi=>decide (start<=i) && decide (more[i]? = some c)).head?
def plc:List Nat->List Nat->Nat->List Nat->Option 1.4
 | [],_,_,acc=>some acc
 | c::r,more,start,acc=>match zbq c more start with
   | none=>none
   | some p=>plc r more (p+1) (acc ++ [p])
theorem zeh{c:Nat}{more:0.7}{start p:Nat}(h:zbq c more start=some p):start<=p/\more[p]? = some c/\∀i,start<=i->i<p->more[i]?≠some c:=by
 unfold zbq at h;rw[UL] at h;have h1:=List.find?_some h;rw[Q9] at h1;refine⟨NL h1.1,NL h1.2,λi hi hp e=>?_⟩;obtain⟨_,as,bs,e1,e2⟩:=Vd.mp h
 have hl:p=as.length:=by
  have:=NO (λl=>l[as.length]?) e1;simp at this
  have hlt:as.length<more.length:=by
   have:=NO Jo e1;simp at this;lia
  rw[J4 hlt] at this;simpa using this.symm
 have hlt:p<more.length:=by
  have:=(Qn.mp (NL h1.2)).1;exact this
 have hm:i∈as:=by
  have e3:=NO (λl=>l[i]?) e1;rw[J4 0.0,QA 0.0] at e3;exact Qt e3.symm
 have:=e2 i hm;rw[NM hi,NM e] at this;simp at this
theorem zl2{c:Nat}{more:0.7}{start:Nat}(h:zbq c more start=none):∀i,start<=i->more[i]?≠some c:=λi hi e=>by
 unfold zbq at h;rw[UL,U3] at h;have hlt:=(Qn.mp e).1;have:=h i (Q8.mpr hlt);rw[NM hi,NM e] at this;simp at this
theorem zof{c:Nat}: ∀{k:Nat} {l:0.7},(∀i,i<k->l[i]?≠some c)->((c::r).Sublist l↔(c::r).Sublist (l.drop k))
 | 0,l,_=>by simp
 | k+1,[],_=>by simp
 | k+1,y::l,h=>by
   have hy:y≠c:=λe=>h 0 0.0 (by simp[e]);have ih:=zof (r:=r) (k:=k) (l:=l) λi hi=>by have:=h (i+1) 0.0;simpa using this
   rw[List.drop_succ_cons,<- ih];exact⟨λz=>by cases z with|cons _ z=>exact z|cons_cons _ z=>exact absurd rfl hy,λz=>z.cons y⟩
theorem zi0:∀(less more:0.7) (start:Nat) (acc:0.7),(plc less more start acc).isSome=true↔less.Sublist (more.drop start)
 | [],more,start,acc=>by simp[plc]
 | c::r,more,start,acc=>by
   unfold plc
   cases h:zbq c more start with
   | none=>
     have hn:=zl2 h;refine⟨λz=>(by cases z),λz=>?_⟩;have hm:c∈more.drop start:=z.subset Qp;obtain⟨i,hi⟩:=QK.mp hm;rw[Z0] at hi;exact absurd hi (hn _ 0.0)
   | some p=>
     obtain⟨h1,h2,h3⟩:=zeh h;have ih:=zi0 r more (p+1) (acc ++ [p]);show(plc r more (p+1) (acc ++ [p])).isSome=true↔_;rw[ih]
     have e1:=zof (c:=c) (r:=r) (k:=p-start) (l:=more.drop start) λi hi=>by
      rw[Z0];exact h3 _ 0.0 0.0
     rw[e1,JI,show start+(p-start)=p by lia];obtain⟨hp,hv⟩:=Qn.mp h2;rw[QX hp,hv];exact⟨λz=>z.cons_cons c,λz=>by cases z with|cons _ z=>exact(Zk _ _).trans z|cons_cons _ z=>exact z⟩
theorem zul(less more:0.7):(plc less more 0 []).isSome=under less more:=by
 have:=zi0 less more 0 [];rw[JH,<- under_iff] at this;cases h:(plc less more 0 []).isSome <;> cases h':under less more <;> simp_all
def wlt(a b:0.7):Bool:=decide (a.length<b.length) || (decide (a.length=b.length) && decide (a<b))
theorem zb1(a:0.7):wlt a a=false:=by simp[wlt,JJ]
theorem wlt_iff: wlt a b=true↔a.length<b.length\/(a.length=b.length/\a<b):=by simp[wlt]
theorem zjg(a b c:0.7)(h:wlt a b=true)(h':wlt b c=true):wlt a c=true:=by
 rw[wlt_iff] at *;rcases h with h|⟨h1,h2⟩ <;> rcases h' with h'|⟨h3,h4⟩
 .left;lia
 .left;lia
 .left;lia
 .right;exact⟨by lia,Vc h2 h4⟩
theorem zkh(a b:0.7)(h:wlt a b=false)(h':wlt b a=false):a=b:=by
 have n1:¬(wlt a b=true):=by rw[h];simp
 have n2:¬(wlt b a=true):=by rw[h'];simp
 rw[wlt_iff] at n1 n2;have hl:a.length=b.length:=by lia
 have l1:¬a<b:=λz=>n1 (.inr ⟨hl,z⟩);have l2:¬b<a:=λz=>n2 (.inr ⟨hl.symm,z⟩);exact Gh (Ve.mp l2) (Ve.mp l1)
theorem z3t(a b c:0.7)(h:wlt a c=true):wlt a b=true\/wlt b c=true:=by
 cases h1:wlt a b with
 | true=>exact .inl rfl
 | false=>
   right
   cases h2:wlt b a with
   | true=>exact zjg _ _ _ h2 h
   | false=>rw[<- zkh a b h1 h2];exact h
theorem zpu{α:Type}[BEq α][LawfulBEq α]{l m:4.2}(h:l.Nodup)(h':m.Nodup)(e:∀x,x∈l↔x∈m):l.Perm m:=by
 rw[Uq];intro a;rw[h.count,h'.count]
 by_cases z:a∈l
 .rw[NI z,NI ((e a).mp z)]
 .rw[NJ z,NJ λq=>z ((e a).mpr q)]
theorem zly{l m:3.5}(h:l.Pairwise λa b=>wlt a b=true)(h':m.Pairwise λa b=>wlt a b=true)(e:∀x,x∈l↔x∈m):l=m:=by
 have nd:∀{l:3.5},l.Pairwise (λa b=>wlt a b=true)->l.Nodup:=λh=>h.imp λ{a b} z e=>by subst e;rw[zb1] at z;cases z
 refine VD (le:=λa b=>wlt a b=true) (λa b _ _ z1 z2=>?_) h h' (zpu (nd h) (nd h') e);have:=zjg _ _ _ z1 z2;rw[zb1] at this;cases this
def zaz(kept:3.5)(w:0.7):List 1.4:=if kept.any (λv=>under v w) then kept else kept ++ [w]
def zbi(ws:3.5):List 1.4:=ws.foldl zaz []
structure Kept(ws kept:3.5):Prop where
 asc:kept.Pairwise λa b=>wlt a b=true
 of:∀w∈kept,w∈ws
 bel:∀w∈ws,∃v∈kept,under v w=true
 min:∀v∈kept,∀w∈ws,under w v=true->w=v
theorem zol(h:under a b=true)(hn:a≠b):wlt a b=true:=by
 rw[wlt_iff];left;have:=zl5 h;rcases Jj a.length b.length with z|z
 .exact z
 .exact absurd (zok h z) hn
theorem zza{kept:3.5}(h:Kept ws kept)(hw:∀v∈ws,wlt w v=false):Kept (ws ++ [w]) (zaz kept w):=by
 unfold zaz
 by_cases c:kept.any (λv=>under v w)=true
 .rw[NI c];obtain⟨u,hu,hu2⟩:=Z5.mp c;refine⟨h.asc,λv hv=>QE _ (h.of v hv),λv hv=>?_,λv hv x hx hxv=>?_⟩
  .rcases Qq.mp hv with hv|hv
   .exact h.bel v hv
   .rw[Qm.mp hv];exact⟨u,hu,hu2⟩
  .rcases Qq.mp hx with hx|hx
   .exact h.min v hv x hx hxv
   .have ex:=Qm.mp hx;subst ex;have e1:=h.min v hv u (h.of u hu) (zh2 hu2 hxv);subst e1;exact zok hxv (zl5 hu2)
 .rw[NJ c]
  have nc:∀v∈kept,under v w=false:=λv hv=>by
   cases e:under v w with
   | false=>rfl
   | true=>exact absurd (Z5.mpr ⟨v,hv,e⟩) c
  refine⟨?_,λv hv=>?_,λv hv=>?_,λv hv x hx hxv=>?_⟩
  .refine Jy.mpr ⟨h.asc,Y8 _ _,λa ha b hb=>?_⟩;rw[Qm.mp hb]
   cases e:wlt a w with
   | true=>rfl
   | false=>
     have:=zkh a w e (hw a (h.of a ha));have n:=nc a ha;rw[this,zgn] at n;cases n
  .rcases Qq.mp hv with hv|hv
   .exact QE _ (h.of v hv)
   .exact QG _ hv
  .rcases Qq.mp hv with hv|hv
   .obtain⟨u,hu,hu2⟩:=h.bel v hv;exact⟨u,QE _ hu,hu2⟩
   .rw[Qm.mp hv];exact⟨w,QG _ Qp,zgn w⟩
  .rcases Qq.mp hv with hv|hv
   .rcases Qq.mp hx with hx|hx
    .exact h.min v hv x hx hxv
    .have ex:=Qm.mp hx;subst ex
     cases e:decide (x=v) with
     | true=>exact NL e
     | false=>
       have:=zol hxv (of_decide_eq_false e);rw[hw v (h.of v (by assumption))] at this;cases this
   .have ev:=Qm.mp hv;subst ev;rcases Qq.mp hx with hx|hx
    .obtain⟨u,hu,hu2⟩:=h.bel x hx;have:=nc u hu;rw[zh2 hu2 hxv] at this;cases this
    .exact Qm.mp hx
theorem zm8:∀(ws done kept:3.5),Kept done kept->(∀v∈done,∀w∈ws,wlt w v=false)->ws.Pairwise (λa b=>wlt b a=false)->Kept (done++ws) (ws.foldl zaz kept)
 | [],done,kept,h,_,_=>by simpa using h
 | w::ws,done,kept,h,hd,hp=>by
   rw[Z1] at hp
   have:=zm8 ws (done ++ [w]) (zaz kept w) (zza h λv hv=>hd v hv w Qp) (λv hv x hx=>by
    rcases Qq.mp hv with hv|hv
    .exact hd v hv x (Qe _ hx)
    .rw[Qm.mp hv];exact hp.1 x hx) hp.2
   simpa using this
theorem zji(hp:ws.Pairwise λa b=>wlt b a=false):Kept ws (zbi ws):=by
 have:=zm8 ws [] [] ⟨.nil,λ_ h=>(by cases h),λ_ h=>(by cases h),λ_ h=>(by cases h)⟩ (λ_ h=>by cases h) hp;simpa[zbi] using this
theorem zth{k:3.5}(e:∀x,x∈ws↔x∈vs)(h:Kept ws k)(h':Kept vs l):k=l:=by
 refine zly h.asc h'.asc λx=>⟨λhx=>?_,λhx=>?_⟩
 .obtain⟨u,hu,hu2⟩:=h'.bel x ((e x).mp (h.of x hx));have:=h.min x hx u ((e u).mpr (h'.of u hu)) hu2;rw[<- this];exact hu
 .obtain⟨u,hu,hu2⟩:=h.bel x ((e x).mpr (h'.of x hx));have:=h'.min x hx u ((e u).mp (h.of u hu)) hu2;rw[<- this];exact hu
end L6
namespace L3
open PySem PySem.Spec
open PyProof.Rows hiding St
open L2
abbrev tS(w:0.7):GG:=.str (tx w)
def Sml(w:0.7):Prop:=w.length<=100/\∀c∈w,c<128
theorem zd6(h:Sml w):JR (tx w)=true:=by
 rw[zv9];intro c hc;rw[zbu] at hc;have:=h.2 c hc;lia
mutual
def solid:GG->Bool
 | .none=>true
 | .int _=>true
 | .str _=>true
 | .tuple ds=>solids ds
 | _=>false
def solids:List GG->Bool
 | []=>true
 | d::ds=>solid d && solids ds
end
mutual
theorem eqv_solid:∀d e:GG,solid d=true->solid e=true->(QC d e=true↔d=e)
 | .none,e,_,h=>by cases e <;> simp[QC,solid] at *
 | .int i,e,_,h=>by cases e <;> simp[QC,solid] at *
 | .str x,e,_,h=>by cases e <;> simp[QC,solid] at *
 | .tuple ds,e,h0,h=>by
   cases e with
   | tuple es=>
     have:=zj2 ds es (by simpa[solid] using h0) (by simpa[solid] using h);simp only[QC];rw[this];exact⟨λz=>by rw[z],λz=>by cases z;rfl⟩
   | none=>simp[QC]
   | int _=>simp[QC]
   | str _=>simp[QC]
   | bool _=>simp[solid] at h
   | list _=>simp[solid] at h
   | dict _=>simp[solid] at h
 | .bool _,_,h,_=>by simp[solid] at h
 | .list _,_,h,_=>by simp[solid] at h
 | .dict _,_,h,_=>by simp[solid] at h
theorem zj2:∀ds es:List GG,solids ds=true->solids es=true->(Jv ds es=true↔ds=es)
 | [],[],_,_=>by simp[Jv]
 | [],_::_,_,_=>by simp[Jv]
 | _::_,[],_,_=>by simp[Jv]
 | d::ds,e::es,h,h'=>by
   simp only[solids,Q9] at h h';simp only[Jv,Q9];rw[eqv_solid d e h.1 h'.1,zj2 ds es h.2 h'.2];simp
end
theorem zdv{i:Nat}{d:GG}(h:ds[i]? = some d):idxF (.list ds) (.int (i:Nat))=some (.o d):=by
 show(atI ds _).map R.o=_;rw[atI_nat (v:=d) h];rfl
theorem z2l(h:a.length+b.length<=16777216):addF (.list a) (.list b)=some (.n (a++b)):=by
 show(if a.length+b.length<=sizeLine then some (R.n (a++b)) else none)=_;rw[NI (by rw[GP];exact h)]
end L3
namespace L6
structure WO{α:Type}(blt:2.1):Prop where
 irr:∀a,blt a a=false
 tr:∀a b c,blt a b=true->blt b c=true->blt a c=true
 neg:∀a b c,blt a c=true->blt a b=true\/blt b c=true
section
variable {α:Type}{blt:2.1}{k:5.7}
def Rk(blt:2.1)(k:5.7)(a b:Nat):Prop:=blt (k a) (k b)=true\/(blt (k b) (k a)=false/\a<b)
theorem Rk.trans(W:WO blt){a b c:Nat}(h:Rk blt k a b)(h':Rk blt k b c):Rk blt k a c:=by
 rcases h with h|⟨h,l⟩ <;> rcases h' with h'|⟨h',l'⟩
 .exact .inl (W.tr _ _ _ h h')
 .rcases W.neg _ (k c) _ h with z|z
  .exact .inl z
  .rw[h'] at z;cases z
 .rcases W.neg _ (k a) _ h' with z|z
  .rw[h] at z;cases z
  .exact .inl z
 .refine .inr ⟨?_,by lia⟩
  cases e:blt (k c) (k a) with
  | false=>rfl
  | true=>
    rcases W.neg _ (k b) _ e with z|z
    .rw[h'] at z;cases z
    .rw[h] at z;cases z
theorem Rk.le(W:WO blt){a b:Nat}(h:Rk blt k a b):blt (k b) (k a)=false:=by
 rcases h with h|⟨h,_⟩
 .cases e:blt (k b) (k a) with
  | false=>rfl
  | true=>have:=W.tr _ _ _ h e;rw[W.irr] at this;cases this
 .exact h
theorem zfs(W:WO blt)(h:blt x y=true)(h':blt z y=false):blt x z=true:=by
 rcases W.neg _ z _ h with e|e
 .exact e
 .rw[h'] at e;cases e
theorem zhg(W:WO blt){x y z:α}(h:blt y x=false)(h':blt y z=true):blt x z=true:=by
 rcases W.neg _ x _ h' with e|e
 .rw[h] at e;cases e
 .exact e
theorem zcu(W:WO blt)(h:blt y x=false)(h':blt z y=false):blt z x=false:=by
 cases e:blt z x with
 | false=>rfl
 | true=>
   rcases W.neg _ y _ e with q|q
   .rw[h'] at q;cases q
   .rw[h] at q;cases q
def Up(blt:2.1)(k:5.7)(ix:Nat->Nat)(m:Nat):Prop:=∀i j,i<j->j<m->Rk blt k (ix i) (ix j)
def Dn(blt:2.1)(k:5.7)(ix:Nat->Nat)(m:Nat):Prop:=∀i j,i<j->j<m->Rk blt k (ix j) (ix i)
structure Pre(ix:Nat->Nat)(m:Nat):Prop where
 lt:∀i,i<m->ix i<m
 id:∀i,m<=i->ix i=i
theorem Pre.more{m n:Nat}(h:Pre ix m)(hm:m<=n):Pre ix n :=
 ⟨λi hi=>by
  by_cases z:i<m
  .have:=h.lt i z;lia
  .rw[h.id i 0.0];exact hi,λi hi=>h.id i 0.0⟩
theorem Pre.idf:Pre (λi=>i) m:=⟨λ_ h=>h,λ_ _=>rfl⟩
def mixF(ix:Nat->Nat)(i j:Nat):Nat->Nat:=λp=>if i<=p/\p<j then ix (i+j-1-p) else ix p
def bubF(ix:Nat->Nat)(s l:Nat):Nat->Nat:=λp=>if p=l then ix s else if l<p/\p<=s then ix (p-1) else ix p
theorem Pre.mix{m i j:Nat}(h:Pre ix m)(hj:j<=m):Pre (mixF ix i j) m:=by
 refine⟨λp hp=>?_,λp hp=>?_⟩
 .unfold mixF
  split
  .exact h.lt _ 0.0
  .exact h.lt _ hp
 .unfold mixF;rw[NJ 0.0];exact h.id p hp
theorem Pre.bub{s l:Nat}(h:Pre ix s)(hl:l<=s):Pre (bubF ix s l) (s+1):=by
 refine⟨λp hp=>?_,λp hp=>?_⟩
 .unfold bubF
  split
  .rw[h.id s (Qg _)];lia
  .split
   .have:=h.lt (p-1) 0.0;lia
   .have:=h.lt p 0.0;lia
 .unfold bubF;rw[NJ 0.0,NJ 0.0];exact h.id p 0.0
theorem ztt(W:WO blt){m:Nat}(h:Up blt k ix m)(hm:0<m)(n:Rk blt k (ix (m-1)) (ix m)):Up blt k ix (m+1):=λi j hij hj=>by
 by_cases e:j<m
 .exact h i j hij e
 .have:j=m:=by lia
  subst this
  by_cases e2:i=j-1
  .subst e2;exact n
  .exact(h i (j-1) 0.0 0.0).trans W n
theorem z5m{m:Nat}(h:Dn blt k ix m):Up blt k (mixF ix 0 m) m:=λi j hij hj=>by
 unfold mixF;rw[NI 0.0,NI 0.0];exact h _ _ 0.0 0.0
theorem z8c{s l:Nat}(h:Up blt k ix s)(p:Pre ix s)(hl:l<=s)(lo:∀i,i<l->blt (k s) (k (ix i))=false)(hi:∀i,l<=i->i<s->blt (k s) (k (ix i))=true):Up blt k (bubF ix s l) (s+1):=by
 have es:=p.id s (Qg _);intro i j hij hj;unfold bubF
 by_cases a:i=l
 .rw[NI a,NJ 0.0,NI 0.0,es];exact .inl (hi _ 0.0 0.0)
 .rw[NJ a]
  by_cases b:l<i/\i<=s
  .rw[NI b,NJ 0.0,NI 0.0];exact h _ _ 0.0 0.0
  .rw[NJ b]
   by_cases c:j=l
   .rw[NI c,es];exact .inr ⟨lo i 0.0,p.lt i 0.0⟩
   .rw[NJ c]
    by_cases d:l<j/\j<=s
    .rw[NI d];exact h _ _ 0.0 0.0
    .rw[NJ d];exact h _ _ 0.0 0.0
structure Des(blt:2.1)(k:5.7)(ix:Nat->Nat)(m q:Nat):Prop where
 le:q+1<=m
 up:∀i j,i<j->j<m->i+(q+1)<m->Rk blt k (ix j) (ix i)
 far:∀i j,i+(q+1)<m->m<=j+(q+1)->j<m->blt (k (ix j)) (k (ix i))=true
 al:∀i j,m<=i+(q+1)->i<j->j<m->blt (k (ix i)) (k (ix j))=false/\blt (k (ix j)) (k (ix i))=false/\ix i<ix j
theorem Des.turn{m q:Nat}(h:Des blt k ix m q):Dn blt k (mixF ix (m-(q+1)) m) m:=by
 intro i j hij hj;have:=h.le;unfold mixF
 by_cases a:m-(q+1)<=i/\i<m
 .rw[NI a,NI 0.0];obtain⟨h1,h2,h3⟩:=h.al (m-(q+1)+m-1-j) (m-(q+1)+m-1-i) 0.0 0.0 0.0;exact .inr ⟨h2,h3⟩
 .rw[NJ a]
  by_cases b:m-(q+1)<=j/\j<m
  .rw[NI b];exact h.up _ _ 0.0 0.0 0.0
  .rw[NJ b];exact h.up _ _ hij hj 0.0
theorem Des.dn{m:Nat}(h:Des blt k ix m 0):Dn blt k ix m:=λi j hij hj=>h.up i j hij hj 0.0
theorem zhj(W:WO blt){m:Nat}(h:Dn blt k ix m)(hm:0<m)(n:blt (k (ix m)) (k (ix (m-1)))=true):Des blt k ix (m+1) 0:=by
 have hb:∀i,i<m->blt (k (ix m)) (k (ix i))=true:=λi hi=>by
  by_cases e:i=m-1
  .subst e;exact n
  .exact zfs W n ((h i (m-1) 0.0 0.0).le W)
 refine⟨by lia,λi j hij hj _=>?_,λi j h1 h2 h3=>?_,λi j h1 h2 h3=>by lia⟩
 .by_cases e:j<m
  .exact h i j hij e
  .have:j=m:=by lia
   subst this;exact .inl (hb i hij)
 .have:j=m:=by lia
  subst this;exact hb i 0.0
theorem z5i(W:WO blt){m q:Nat}(h:Des blt k ix m q)(p:Pre ix m)(n1:blt (k (ix m)) (k (ix (m-1)))=false)(n2:blt (k (ix (m-1))) (k (ix m))=false):Des blt k ix (m+1) (q+1):=by
 have hl:=h.le;have em:=p.id m (Qg _)
 have key:∀i,m<=i+(q+1)->i<m->blt (k (ix i)) (k (ix m))=false/\blt (k (ix m)) (k (ix i))=false:=λi h1 h2=>by
  by_cases e:i=m-1
  .subst e;exact⟨n2,n1⟩
  .obtain⟨a,b,_⟩:=h.al i (m-1) h1 0.0 0.0;exact⟨zcu W n2 a,zcu W b n1⟩
 refine⟨by lia,λi j hij hj hi=>?_,λi j h1 h2 h3=>?_,λi j h1 h2 h3=>?_⟩
 .by_cases e:j<m
  .exact h.up i j hij e 0.0
  .have:j=m:=by lia
   subst this;exact .inl (zhg W n2 (h.far i (j-1) 0.0 0.0 0.0))
 .by_cases e:j<m
  .exact h.far i j 0.0 0.0 e
  .have:j=m:=by lia
   subst this;exact zhg W n2 (h.far i (j-1) 0.0 0.0 0.0)
 .by_cases e:j<m
  .exact h.al i j 0.0 h2 e
  .have:j=m:=by lia
   subst this;obtain⟨a,b⟩:=key i 0.0 h2;refine⟨a,b,?_⟩;rw[em];exact p.lt i h2
structure Bij(ix:Nat->Nat)(n:Nat):Prop where
 lt:∀i,i<n->ix i<n
 inj:∀i j,i<n->j<n->ix i=ix j->i=j
 sur:∀p,p<n->∃i,i<n/\ix i=p
theorem Bij.idf{n:Nat}:Bij (λi=>i) n:=⟨λ_ h=>h,λ_ _ _ _ e=>e,λp h=>⟨p,h,rfl⟩⟩
theorem Bij.comp{n:Nat}(h:Bij ix n)(g:Bij f n):Bij (λp=>ix (f p)) n :=
 ⟨λi hi=>h.lt _ (g.lt i hi),λi j hi hj e=>g.inj i j hi hj (h.inj _ _ (g.lt i hi) (g.lt j hj) e),λp hp=>by
  obtain⟨i,hi,e⟩:=h.sur p hp;obtain⟨j,hj,e'⟩:=g.sur i hi
  exact⟨j,hj,by rw[e',e]⟩⟩
theorem Bij.of{f g:Nat->Nat}{n:Nat}(a:∀i,i<n->f i<n)(b:∀i,i<n->g i<n)(c:∀i,i<n->g (f i)=i)(d:∀i,i<n->f (g i)=i):Bij f n :=
 ⟨a,λi j hi hj e=>by rw[<- c i hi,e,c j hj],λp hp=>⟨g p,b p hp,d p hp⟩⟩
def swF(i j p:Nat):Nat:=if i<=p/\p<j then i+j-1-p else p
def bbF(s l p:Nat):Nat:=if p=l then s else if l<p/\p<=s then p-1 else p
def bbG(s l p:Nat):Nat:=if p=s then l else if l<=p/\p<s then p+1 else p
theorem zuc{i j n p:Nat}(hj:j<=n)(hp:p<n):swF i j p<n:=by unfold swF;split <;> lia
theorem zvm(i j p:Nat):swF i j (swF i j p)=p:=by
 unfold swF
 by_cases a:i<=p/\p<j
 .rw[NI a,NI 0.0];lia
 .rw[NJ a,NJ a]
theorem Bij.mix{n i j:Nat}(h:Bij ix n)(hj:j<=n):Bij (mixF ix i j) n:=by
 have e:mixF ix i j=λp=>ix (swF i j p):=by
  funext p;unfold mixF swF
  split <;> rfl
 rw[e];exact h.comp (.of (g:=swF i j) (λp hp=>zuc hj hp) (λp hp=>zuc hj hp) (λp _=>zvm i j p) λp _=>zvm i j p)
theorem Bij.bub{n s l:Nat}(h:Bij ix n)(hs:s<n)(hl:l<=s):Bij (bubF ix s l) n:=by
 have e:bubF ix s l=λp=>ix (bbF s l p):=by
  funext p;unfold bubF bbF
  split
  .rfl
  .split <;> rfl
 rw[e];refine h.comp (.of (g:=bbG s l) (λp hp=>?_) (λp hp=>?_) (λp hp=>?_) λp hp=>?_)
 .unfold bbF;repeat' split
  all_goals lia
 .unfold bbG;repeat' split
  all_goals lia
 .unfold bbF bbG;repeat' split
  all_goals lia
 .unfold bbF bbG;repeat' split
  all_goals lia
theorem Bij.perm{n:Nat}(h:Bij ix n):((Q3 n).map ix).Perm (Q3 n):=by
 rw[Uq];intro a
 have nd:((Q3 n).map ix).Nodup:=by
  unfold List.Nodup;rw[ZP,Zi];intro i j hi hj hij e;rw[QS] at hi hj;rw[ZV,ZV] at e;have:=h.inj i j hi hj e;lia
 rw[nd.count,YS.count]
 have:(a∈(Q3 n).map ix)↔a∈Q3 n:=by
  rw[Qo,Q8];constructor
  .rintro⟨i,hi,rfl⟩;exact h.lt i (Q8.mp hi)
  .intro ha;obtain⟨i,hi,e⟩:=h.sur a ha;exact⟨i,Q8.mpr hi,e⟩
 by_cases z:a∈Q3 n
 .rw[NI z,NI (this.mpr z)]
 .rw[NJ z,NJ λq=>z (this.mp q)]
theorem z1w{γ:Type}(g:Nat->γ)(n:Nat):((Q3 n).map g).zipIdx=(Q3 n).map λi=>(g i,i):=by
 refine VG 0.1 λi h1 h2=>?_;simp
theorem ztd{γ:Type}{key:γ->α}{g:Nat->γ}{n:Nat}{ix:Nat->Nat}(W:WO blt)(up:Up blt (λi=>key (g i)) ix n)(b:Bij ix n):
 (Q3 n).map (λi=>g (ix i))=((Q3 n).map g).mergeSort (λp q=>!blt (key q) (key p)):=by
 rw[<- List.mergeSort_zipIdx,z1w];have e:(Q3 n).map (λi=>g (ix i))=((Q3 n).map λi=>(g (ix i),ix i)).map (·.1):=by rw[QY];rfl
 rw[e];refine NO (UM (λx:γ×Nat=>x.1)) ?_
 have tr:∀a b c:γ,(!blt (key b) (key a))=true->(!blt (key c) (key b))=true->(!blt (key c) (key a))=true:=λa b c h1 h2=>by
  rw[JB] at h1 h2 ⊢;exact zcu W h1 h2
 have tt:∀a b:γ,((!blt (key b) (key a)) || (!blt (key a) (key b)))=true:=λa b=>by
  cases h1:blt (key b) (key a) with
  | false=>rfl
  | true=>
    cases h2:blt (key a) (key b) with
    | false=>rfl
    | true=>have:=W.tr _ _ _ h1 h2;rw[W.irr] at this;cases this
 have m1:∀x,x∈((Q3 n).map λi=>(g (ix i),ix i))->x.1=g x.2:=λx hx=>by
  obtain⟨i,_,rfl⟩:=Qo.mp hx;rfl
 have m2:∀x,x∈(((Q3 n).map λi=>(g i,i)).mergeSort (VE λp q=>!blt (key q) (key p)))->x.1=g x.2:=λx hx=>by
  rw[(JF _ _).mem_iff] at hx;obtain⟨i,_,rfl⟩:=Qo.mp hx;rfl
 refine VD (le:=λa b=>VE (λp q=>!blt (key q) (key p)) a b=true) (λx y hx hy h1 h2=>?_) ?_ (VH (List.zipIdxLE_trans tr) (List.zipIdxLE_total tt) _) ?_
 .have e1:=m1 x hx;have e2:=m2 y hy
  have e3:x.2=y.2:=by
   unfold VE at h1 h2;dsimp only at h1 h2;cases a:blt (key y.1) (key x.1) <;> cases c:blt (key x.1) (key y.1) <;> simp[a,c] at h1 h2;lia
  exact Ud (by rw[e1,e2,e3]) e3
 .rw[ZP,Zi];intro i j hi hj hij;rw[QS] at hi hj;rw[ZV,ZV];have r:=up i j hij hj;have rl:=r.le W;unfold VE
  have key2:∀(x y:Bool) (d:Bool),x=false->(y=true\/d=true)->(if(!x)=true then(if(!y)=true then d else true) else false)=true:=by
   intro x y d hx hy;subst hx;cases y
   .rcases hy with hy|hy
    .cases hy
    .simpa using hy
   .rfl
  refine key2 _ _ _ rl ?_;rcases r with r|⟨r,l⟩
  .exact .inl r
  .exact .inr (NM (Jt l))
 .refine List.Perm.trans ?_ (JF _ _).symm;have:=b.perm.map λi=>(g i,i);rw[QY] at this;exact this
end
end L6
namespace L6
open PySem PyProof.Rows
section
variable {prog:GK}{w:GM}{A:GQ}{E:1.0}{s:GJ}{α:Type}{blt:2.1}{k:5.7}{a₀:Array Tj}{kd:Tt}{ix:Nat->Nat}{st:Te}
def zb6(prog:GK)(w:GM)(A:GQ)(s:GJ)(kd:Tt)(a₀:Array Tj)(blt:2.1)(k:5.7):Prop :=
 ∀(i j:Nat) (x p y q:GH) (E:1.0) (Q:Bool->GJ->Prop),a₀[i]? = some (x,p)->a₀[j]? = some (y,q)->Q (blt (k i) (k j)) s->wpAny 1.3 A (keyLt' kd x y) Q E s
structure Sb(a₀:Array Tj)(kd:Tt)(ix:Nat->Nat)(st:Te):Prop where
 sz:(arrOf st).size=a₀.size
 at_:∀i,i<a₀.size->(arrOf st)[i]? = a₀[ix i]?
 bj:Bij ix a₀.size
 fa:Tu st=none
 pe:pendingOf st = #[]
 ki:kindOf st=kd
end
section
variable {prog:GK}{w:GM}{A:GQ}{E:1.0}{s:GJ}
structure Ord{α:Type}(blt:2.1)(k:5.7)(n:Nat)(ix:Nat->Nat):Prop where
 bj:Bij ix n
 up:Up blt k ix n
def zbz(vs:2.8)(ix:Nat->Nat):List GH:=(Q3 vs.length).map λi=>vs.getD (ix i) .none
structure KeysOk{α:Type}(prog:GK)(w:GM)(A:GQ)(s:GJ)(ks vs:2.8)(blt:2.1)(k:5.7):Prop where
 wo:WO blt
 kd:2<=vs.length->∃kd:Tt,(∀(E:1.0) (Q:Tt->GJ->Prop),Q kd s->wpAny 1.3 A (keyKind' ks.toArray) Q E s)/\zb6 prog w A s kd (ks.toArray.zip vs.toArray) blt k
theorem zcx{ks vs:2.8}(hl:ks.length=vs.length){i:Nat}{p:Tj}(h:(ks.toArray.zip vs.toArray)[i]? = some p):ks[i]? = some p.1/\vs[i]? = some p.2:=by
 have:(ks.zip vs)[i]? = some p:=by
  have e:ks.toArray.zip vs.toArray=(ks.zip vs).toArray:=by simp
  rw[e] at h;simpa using h
 rw[V6] at this;exact this
theorem zqd{vs:2.8}{ks:2.8}(hl:ks.length=vs.length){ix:Nat->Nat}(bj:Bij ix vs.length){arr:Array Tj}(hz:arr.size=vs.length)(h:∀i,i<vs.length->arr[i]? = (ks.toArray.zip vs.toArray)[ix i]?):arr.map (·.2)=(zbz vs ix).toArray:=by
 refine Array.ext (by simp[zbz,hz]) λi h1 h2=>?_;have hi:i<vs.length:=by simpa[zbz] using h2
 have hx:=bj.lt i hi;have h3:=h i hi;obtain⟨p,hp⟩:∃p,arr[i]? = some p:=⟨_,Q4 0.0⟩;have h4:=(zcx hl (h3.symm.trans hp)).2;have e1:(arr.map (·.2))[i]? = some p.2:=by simp[hp]
 have e2:(zbz vs ix).toArray[i]? = some p.2:=by
  simp only[zbz,VS,Qh,J4 hi,JA];rw[Qw,h4];rfl
 rw[Q4 h1] at e1;rw[Q4 h2] at e2;exact Za (e1.trans e2.symm)
end
end L6
namespace L6
open PySem PyProof.Rows PySem.W
theorem z7n:WO (λa b:Int=>decide (a<b)):=⟨λa=>by simp,λa b c h h'=>by simp at *;lia,λa b c h=>by simp at *;lia⟩
theorem z8g:WO (λa b:List Nat=>decide (a<b)):=by
 refine⟨λa=>by simp[JJ],λa b c h h'=>?_,λa b c h=>?_⟩
 .simp only[NN] at *;exact Vc h h'
 .simp only[NN] at *
  by_cases z:a<b
  .exact .inl z
  .exact .inr (Ur (Ve.mp z) h)
def plt(a b:Int×List Nat):Bool:=decide (a.1<b.1) || (decide (a.1=b.1) && decide (a.2<b.2))
theorem zg5: plt a b=true↔a.1<b.1\/(a.1=b.1/\a.2<b.2):=by simp[plt]
theorem zty:WO plt:=by
 refine⟨λa=>by simp[plt,JJ],λa b c h h'=>?_,λa b c h=>?_⟩
 .rw[zg5] at *;rcases h with h|⟨h1,h2⟩ <;> rcases h' with h'|⟨h3,h4⟩
  .left;lia
  .left;lia
  .left;lia
  .right;exact⟨by lia,Vc h2 h4⟩
 .rw[zg5,zg5];rw[zg5] at h
  by_cases z1:a.1<b.1
  .exact .inl (.inl z1)
  .by_cases z2:b.1<c.1
   .exact .inr (.inl z2)
   .rcases h with h|⟨h1,h2⟩
    .lia
    .have e1:a.1=b.1:=by lia
     have e2:b.1=c.1:=by lia
     by_cases z:a.2<b.2
     .exact .inl (.inr ⟨e1,z⟩)
     .exact .inr (.inr ⟨e2,Ur (Ve.mp z) h2⟩)
theorem z3u(a b:0.7):plt ((a.length:Nat),a) ((b.length:Nat),b)=wlt a b:=by
 unfold plt wlt
 congr 1
 .exact decide_eq_decide.mpr (by show((a.length:Nat):Int)<((b.length:Nat):Int)↔_;lia)
 .congr 1
  exact decide_eq_decide.mpr (by show((a.length:Nat):Int)=((b.length:Nat):Int)↔_;lia)
section
variable {prog:GK}{w:GM}{A:GQ}{s:GJ}{ks vs:2.8}
theorem zyt{ns:List Int}(hl:ks.length=vs.length)(hk:∀(i:Nat) v,ks[i]? = some v->∃t,v = .int (ns.getD i 0) t):KeysOk prog w A s ks vs (λa b:Int=>decide (a<b)) (λi=>ns.getD i 0):=by
 refine⟨z7n,λh2=>⟨NH,λE Q q=>?_,λi j x p y q E Q hi hj h=>?_⟩⟩
 .refine kas_kind (T:=.type "int") 0.0 (λv hv=>?_) (by rfl) (by rfl) q;obtain⟨i,hi⟩:=QK.mp hv;obtain⟨t,rfl⟩:=hk i v hi;exact .now
 .obtain⟨t,rfl⟩:=hk i x (zcx hl hi).1;obtain⟨u,rfl⟩:=hk j y (zcx hl hj).1;exact kat_lt_int h
theorem zn0{xs:2.4}(hl:ks.length=vs.length)(hk:∀(i:Nat) v,ks[i]? = some v->∃t,v = .str (xs.getD i ZH) t):KeysOk prog w A s ks vs (λa b:List Nat=>decide (a<b)) (λi=>(xs.getD i ZH).cps.toList):=by
 refine⟨z8g,λh2=>⟨NH,λE Q q=>?_,λi j x p y q E Q hi hj h=>?_⟩⟩
 .refine kas_kind (T:=.type "str") 0.0 (λv hv=>?_) (by rfl) (by rfl) q;obtain⟨i,hi⟩:=QK.mp hv;obtain⟨t,rfl⟩:=hk i v hi;exact .now
 .obtain⟨t,rfl⟩:=hk i x (zcx hl hi).1;obtain⟨u,rfl⟩:=hk j y (zcx hl hj).1;exact kas_lt_str h
def zny(h:Heap)(v:GH)(n:Int)(x:Str):Prop:=∃(a:Addr) (o:Obj) (t u:Tok) (e:Nat),v = .ref a/\h.get? a=some o/\o.cls = .type "tuple" /\ o.data = .seq #[.int n t,.str x u] e
theorem zuy{ps:List (Int×Str)}(hl:ks.length=vs.length)(hp:ps.length=ks.length)(hk:∀(i:Nat) v p,ks[i]? = some v->ps[i]? = some p->zny s.heap v p.1 p.2):
 KeysOk prog w A s ks vs plt (λi=>((ps.getD i (0,ZH)).1,(ps.getD i (0,ZH)).2.cps.toList)):=by
 have hk':∀(i:Nat) v,ks[i]? = some v->zny s.heap v (ps.getD i (0,ZH)).1 (ps.getD i (0,ZH)).2:=λi v e=>by
  have hi:i<ps.length:=by rw[hp];exact(Qn.mp e).1
  have:=hk i v ps[i] e (Qb hi);rw[Qw,Qb hi];exact this
 refine⟨zty,λh2=>⟨tuples' true,λE Q q=>?_,λi j x p y q E Q hi hj h=>?_⟩⟩
 .have go:∀l:List GH,(∀v∈l,∃n x,zny s.heap v n x)->∃fs:List GH,KatTups s.heap l fs/\fs.length=l.length/\∀f∈fs,∃n t,f = .int n t:=by
   intro l
   induction l with
   | nil=>exact λ_=>⟨[],.nil,rfl,λ_ h=>by cases h⟩
   | cons v l ih=>
     intro h;obtain⟨fs,z1,z2,z3⟩:=ih λv' hv=>h v' (Qe _ hv);obtain⟨n,x,a,o,t,u,e,rfl,ho,hc,hd⟩:=h v Qp;refine⟨.int n t::fs,.cons ho hc hd rfl z1,by simp[z2],λf hf=>?_⟩;rcases Qz.mp hf with rfl|hf
     .exact⟨n,t,rfl⟩
     .exact z3 f hf
  obtain⟨fs,z1,z2,z3⟩:=go ks λv hv=>by
   obtain⟨i,hi⟩:=QK.mp hv;exact⟨_,_,hk' i v hi⟩
  refine kat_kind (T:=.type "int") z1 0.0 (λf hf=>?_) (by rfl) q;obtain⟨n,t,rfl⟩:=z3 f hf;exact .now
 .obtain⟨a,o,t,u,e,rfl,ho,hc,hd⟩:=hk' i x (zcx hl hi).1;obtain⟨a',o',t',u',e',rfl,ho',hc',hd'⟩:=hk' j y (zcx hl hj).1;dsimp only at h;generalize (ps.getD i (0,ZH)).1=n at *;generalize (ps.getD i (0,ZH)).2=x at *;generalize (ps.getD j (0,ZH)).1=m at *;generalize (ps.getD j (0,ZH)).2=y at *;refine kat_lt ho hd ho' hd' (kat_cons (wpAny_eqBool_int ?_))
  by_cases en:n=m
  .subst en;rw[show(n == n)=true by simp];refine kat_yes (kat_cons (wpAny_eqBool_str ?_))
   by_cases ex:x=y
   .subst ex;rw[show decide (x=x)=true by simp];refine kat_yes (kat_nil ?_);simpa[plt,JJ] using h
   .rw[NK ex];refine kat_no (kat_one _ _ ?_);have e1:plt (n,x.cps.toList) (n,y.cps.toList)=decide (x.cps.toList<y.cps.toList):=by simp[plt]
    rw[e1] at h;exact lt_str h
  .rw[show(n == m)=false by simpa using en];refine kat_no ?_;have e1:plt (n,x.cps.toList) (m,y.cps.toList)=decide (n<m):=by simp[plt,en]
   rw[e1] at h;exact oneLt_int h
end
end L6
namespace L2
open PySem PySem.Spec
open PyProof.Rows hiding St
section
variable {X:Cx}{pins:0.9}{σ:St}{H:Hp}{s:GJ}{h':Heap}
theorem Inv.adopt{t':Nat}(I:0.5)(fp:FpOk X pins H q)(k:∀b u,b≠q->s.heap.get? b=some u->h'.get? b=some u)(new:ObjOk X.prog X.w (upd H q o) h' q o):Inv X pins σ (upd H q o) { s with heap:=h',toks:=t' }:=by
 obtain⟨f0,f1,f2,f3,f4,f5⟩:=fp;have nq:∀c u,H c=some u->c≠q:=λc u e=>zbt e f0
 refine I.step (g':=s.gens) (d':=s.drawn) (ch:=[q]) (λb hb=>?_) (λb o _ _ hc e _=>k b o (λz=>hc (by simp[z])) e) (λb o _ _ hc e _=>⟨o.slots,k b o (λz=>hc (by simp[z])) e⟩)
  (λb o hc _ n=>by rw[zac (λz=>hc (by simp[z]))];exact n) (λb o hc e=>⟨o,k b o (λz=>hc (by simp[z])) e⟩) (λb xs e=>by rw[zac (nq _ _ e)];exact e) (λb o u e=>by rw[zac (nq _ _ e)];exact e)
  (λb ps e=>⟨#[],by rw[zac (nq _ _ e),e];simp⟩) (λm hm=>?_) (λb u e=>?_) I.bare
 .have e:b=q:=by simpa using hb
  subst e;exact⟨f3,f1,f4,f5⟩
 .obtain⟨o,es,ep,ho,r⟩:=hm;exact⟨o,es,ep,k _ o (Z8 f1) ho,r⟩
 .by_cases hb:b=q
  .subst hb;rw[zae] at e;cases e;exact new
  .rw[zac hb] at e;refine(I.hok b u e).stay (λc v hc r=>k c v ?_ r) (λc r=>by rw[zac (nq _ _ r)];exact r) (λc xs r=>by rw[zac (nq _ _ r)];exact r) λc oc r=>by rw[zac (nq _ _ r)];exact r
   rcases hc with z|z
   .rw[z];exact hb
   .exact nq _ _ z
theorem Room.in2{k:Nat}(r:Room (k+1) A):Room k A.in1.in1 :=
 ⟨r.hd,by have:=r.dp;show A.depth+3 * k+5<_;lia,by have:=r.un;show A.units+1+1+16 * k+200<_;lia,r.gd⟩
theorem z3c{k:Nat}(F:FnOk X.prog X.w X.K X.mg X.base CX0 k f fd ps sp)(hr:Room (k+1) X.A)(hb:Binds X.K fd ps [])
 (I:0.5) (r:Vals vs us) (h:sp vs H Q E0):wpAny 0.8 X.A.in1.in1 (call (.ref f) us) (EP X pins σ Q) (λ_ _=>False) s:=by
 have hl:us.length=ps.length:=by rw[<- r.length];exact F.len _ _ _ _ h
 have bd:=hb s us I.kIn (by rw[QR];exact hl);rw[QR] at bd;refine MR (TJ (F.run X.A.in1.in1 X.stack s H ⟨us,[]⟩ us vs Q E0 hr.in2 I.env0.in1.in1 bd r h) λr s' hq=>?_)
 cases r with
 | error e=>exact ZL hq
 | ok fl=>
   cases fl with
   | ret u=>exact I.after hq
   | next=>exact ZL hq
   | brk=>exact ZL hq
   | cont=>exact ZL hq
end
end L2
namespace L6
open PySem PySem.Spec
open PyProof.Rows hiding St
open L2 L3
def zhp(sp:Sp)(R:List V->Hp->Prop):List V->List V->Hp->Prop
 | [],ks,H=>R ks H
 | x::xs,ks,H=>sp [x] H (λk H'=>zhp sp R xs (ks ++ [k]) H') E0
inductive KeysV(K:Qa)(H:Hp):List V->(α:Type)->(α->α->Bool)->(Nat->α)->Prop
 | int (ns:List Int):KeysV K H (ns.map V.int) Int (λa b=>decide (a<b)) (λi=>ns.getD i 0)
 | txt (xs:2.4):KeysV K H (xs.map V.str) 1.4 (λa b=>decide (a<b)) (λi=>(xs.getD i ZH).cps.toList)
 | pair (ps:List (Int×Str)) (ks:3.3) (hl:ps.length=ks.length) (h:∀(i:Nat) v p,ks[i]? = some v->ps[i]? = some p->∃a,v = .ref a/\SqT K H a [.int p.1,.str p.2]) :
  KeysV K H ks (Int×List Nat) plt (λi=>((ps.getD i (0,ZH)).1,(ps.getD i (0,ZH)).2.cps.toList))
def zen{α:Type}(d:α)(xs:4.2)(ix:Nat->Nat):List α:=(Q3 xs.length).map λi=>xs.getD (ix i) d
section
variable {X:Cx}{pins:0.9}{σ:St}{H:Hp}{s:GJ}
theorem Vals.pick(r:Vals xs vs)(bj:Bij ix vs.length):Vals (zen .non xs ix) (zbz vs ix):=by
 have hl:=r.length
 have go:∀l:List Nat,(∀i∈l,i<vs.length)->Vals (l.map λi=>xs.getD (ix i) .non) (l.map λi=>vs.getD (ix i) .none):=by
  intro l
  induction l with
  | nil=>exact λ_=>.nil
  | cons i l ih=>
    intro h;have hi:=bj.lt i (h i Qp);have e1:xs[ix i]? = some (xs.getD (ix i) .non):=by rw[Qw,Qb 0.0];rfl
    obtain⟨u,hu,ru⟩:=Vals.get r e1;have e2:vs.getD (ix i) .none=u:=by rw[Qw,hu];rfl
    refine .cons ?_ (ih λj hj=>h j (Qe _ hj));show L2.RelV (xs.getD (ix i) .non) (vs.getD (ix i) .none);rw[e2];exact ru
 unfold zen zbz;rw[hl];exact go _ λi hi=>Q8.mp hi
theorem zxl{α:Type}{blt:2.1}{k:5.7}{kvs:3.3}{ks vs:2.8}{A:GQ}(I:0.5)(h:KeysV X.K H kvs α blt k)(r:Vals kvs ks)(hl:ks.length=vs.length):KeysOk X.prog X.w A s ks vs blt k:=by
 cases h with
 | int ns=>
   refine zyt hl λi v e=>?_;have hi:=(Qn.mp e).1;have hi':i<ns.length:=by have:=r.length;rw[Qc] at this;lia
   obtain⟨u,hu,ru⟩:=Vals.get r (i:=i) (x:=V.int ns[i]) (by rw[Qh,Qb hi'];rfl);rw[e] at hu;cases hu;obtain⟨t,rfl⟩:=ru;exact⟨t,by rw[Qw,Qb hi'];rfl⟩
 | txt xs=>
   refine zn0 hl λi v e=>?_;have hi:=(Qn.mp e).1;have hi':i<xs.length:=by have:=r.length;rw[Qc] at this;lia
   obtain⟨u,hu,ru⟩:=Vals.get r (i:=i) (x:=V.str xs[i]) (by rw[Qh,Qb hi'];rfl);rw[e] at hu;cases hu;obtain⟨t,rfl⟩:=ru;exact⟨t,by rw[Qw,Qb hi'];rfl⟩
 | pair ps _ hp hk=>
   refine zuy hl (by rw[hp];exact r.length) λi v p e ep=>?_;have hi:=(Qn.mp e).1;have hi':i<kvs.length:=by rw[r.length];exact hi
   obtain⟨u,hu,ru⟩:=Vals.get r (Qb hi');rw[e] at hu;cases hu;obtain⟨a,ea,hs⟩:=hk i _ p (Qb hi') ep;rw[ea] at ru;cases ru;obtain⟨its,rv,⟨o,e1,c,n,d⟩,_⟩:=I.tuple hs
   cases rv with
   | cons r1 rv=>
     cases rv with
     | cons r2 rv=>
       cases rv;obtain⟨t,rfl⟩:=r1;obtain⟨u,rfl⟩:=r2;exact⟨a,o,t,u,n,rfl,e1,c,d⟩
end
end L6
namespace L3
open PySem PySem.Spec
open PyProof.Rows hiding St
open L2
section
variable {X:Cx}
def znr:V->List V->Hp->VK->Prop:=λx vs H Q=>∃(t y:Str) (i:Int),x = .str t/\vs = [.str y,.int i]/\Q (.int (GB t y i)) H
theorem zzq:MtR X "str.find" znr:=by
 intro pins s σ H x vs v us Q I rx rv h;obtain⟨t,y,i,rfl,rfl,q⟩:=h;obtain⟨tk,rfl⟩:=rx
 cases rv with
 | cons r1 rv=>
   cases rv with
   | cons r2 rv=>
     cases rv;obtain⟨t1,rfl⟩:=r1;obtain⟨t2,rfl⟩:=r2;exact SC.find3 ⟨.int _,H,I.tok _,⟨_,rfl⟩,q⟩
end
section
variable {K:Qa}{O:Ob}
def zt0(fo:DE)(g:DA):DE:=λρ Q=>fo ρ λr0=>∃t,r0.d = .str t/\g ρ λds=>∃y i,ds = [.str y,.int i]/\Q (.o (.int (GB t y i)))
theorem zyw{to:TE}(ho:ED K O to fo)(ha:AD K O ta g):ED K O (tBM K "str" znr to ta) (zt0 fo g):=λσ H ρ Q Qd S hf k=>by
 refine ho σ H ρ _ _ S hf λv H1 r0 s1 o1 zz=>?_;obtain⟨t,e0,q1⟩:=zz;have i0:=o1.is S.ok S.p;rw[e0] at i0;cases i0;refine 3.2;refine ha σ H1 ρ _ _ (S.stp s1) q1 λvs H2 ds s2 is zz=>?_;obtain⟨y,i,e,q⟩:=zz;subst e
 cases is with
 | cons i1 is=>
   cases is with
   | cons i2 is=>
     cases is;cases i1;cases i2;exact⟨t,y,i,rfl,rfl,k _ H2 (.o _) 6.0 (Is.int _) q⟩
end
section
variable {ι κ:Type}{P:GK}{w:GM}{K:Qa}{mg:0.4}{base:Heap}{k:Nat}{X:ι->Cx}{O:κ->Ob}{a b c:Expr}{fa fb:DE}{pos p:Pos}{es:List Expr}{ga:DA}
theorem z4u{apos:Pos}(C:0.6)(ho:2.2)(ha:A3 K X O [b,c] ga)(hbase:∀i,Th a "find" (X i).env (eval a (X i).env)=eval a (X i).env:=by intro i;rfl)
 (hfew:∀i,((TM pos (GN [b,c] (X i).env)).all (λx=>!x.1) && (Nq pos (M5 [] (X i).env)).all (λx=>x.1.isSome) && decide (([b,c]:List Expr).length+([]:List Mw).length+(if([]:List Mw).isEmpty then 0 else 1)<30))=true:=by intro i;rfl)
 (hline:(apos.endLine == pos.line)=true:=by rfl) (hs:∀i,GN [b,c] (X i).env=(false,eval b (X i).env)::GN [c] (X i).env:=by intro i;rfl) (hpl:∀i,(TM pos (GN [c] (X i).env)).any (·.1)=false:=by intro i;rfl):E3 K X O (.Call (.Attribute a "find" apos) [b,c] [] pos) (zt0 fa ga) :=
 let ⟨_,p1,d1⟩:=ho;let ⟨_,p2,d2⟩:=ha;⟨tBM K "str" znr _ _,λi=>by
  have h:=zg8 (apos:=apos) (cpos:=pos) YD PySem.F.slot_str_find PySem.F.type_str_find (zzq (X:=X i)) (p1 i) (p2 i) (hbase i) (hfew i) hline (hs i) (hpl i);rw[C.hK] at h
  exact h,λj=>zyw (d1 j) (d2 j)⟩
end
end L3
namespace SX
open PySem PySem.Spec PyProof.Rows
abbrev Es:=Array (Int×GH)
def keyE(e:Int×GH):Str:=strOf e.2
def keys(es:Es):List Str:=es.toList.map keyE
def byT(w:GM):Bool:=w.params.followText "set-order"
structure Sx(w:GM)(h:Heap)(a:Addr)(es:Es)(ep:Nat)(t:GY):Prop where
 at_:∃o,h.get? a=some o/\o.ExactSet/\o.data = .set es ep t
 lt:es.size<scanBound
 fit:t.fits es.size=true
 led:t.led = !byT w
 pl:1<es.size->t.plain=false
structure Tx(P:GK)(w:GM)(h:Heap)(a:Addr)(es:Es)(ep:Nat)(t:GY):Prop extends Sx w h a es ep t where
 el:ElemsOf (Jg P w) es.toList
 nd:(keys es).Nodup
theorem z5a(t:GY)(es:Es)(h:Int)(x:GH):(layNew t es h x).2.1.led=t.led:=by
 unfold layNew
 cases t.freeSlot h with
 | none=>rfl
 | some p=>
   obtain⟨j,d⟩:=p;show((t.put j).1.orStandIn _).led=t.led;unfold SetTable.orStandIn
   split <;> rfl
theorem z4o(t:GY)(es:Es)(n:Nat):(MC t es n).2.1.led=t.led/\(t.plain=false->(MC t es n).2.1.plain=false):=by
 unfold MC
 cases e:t.relaid (es.map (·.1)) n with
 | none=>exact⟨rfl,λ_=>rfl⟩
 | some p=>
   obtain⟨t',ord⟩:=p
   have:t'.led=t.led/\t'.plain=t.plain:=by
    unfold Gs G8 at e
    cases q:SetTable.layClean (SetTable.sizeAbove n-1) (es.map (·.1)) with
    | none=>rw[q] at e;cases e
    | some o=>rw[q] at e;cases e;exact⟨rfl,rfl⟩
   dsimp only
   split
   .exact⟨this.1,λh=>this.2.trans h⟩
   .exact⟨rfl,λ_=>rfl⟩
section
variable {P:GK}{w:GM}{A:GQ}{E:1.0}{s:GJ}
theorem zvh(h:∃k,(Jg P w).is k e.2=true/\e.1=(Jg P w).hash k)(k:Str):(Jg P w).is k e.2=true↔keyE e=k:=by
 obtain⟨k',hk,_⟩:=h;obtain⟨i,v⟩:=e;obtain⟨t,ev⟩:=Vm hk;subst ev;show JX k (.str k' t)=true↔k'=k;constructor
 .intro h;exact(Jg P w).inj (.str k' t) _ _ hk h
 .rintro rfl;exact hk
theorem Tx.put{ep:Nat}(S:Tx P w s.heap a es ep t)(el:ElemsOf (Jg P w) es'.toList)(nd:(keys es').Nodup)(lt:es'.size<scanBound)(fit:t'.fits es'.size=true)(led:t'.led = !byT w)(pl:t'.plain=false)
 (h:∀h',ZF a s.heap h'->Tx P w h' a es' (ep+1) t'->Q () 3.9):wpAny 1.5 A (Nv a es' t') Q E s:=by
 obtain⟨o,ho,hx,hd⟩:=S.at_;refine wpAny_storeSet_of ho hd (h _ (.update ..) ⟨⟨⟨{ o with data:=.set es' (ep+1) t' },?_,hx,rfl⟩,lt,fit,led,λ_=>pl⟩,el,nd⟩) (Mb lt);have:=ZQ (U4 es' t') ho (by rw[Nz es' t' hd];rfl);rw[Nz es' t' hd] at this;exact this
theorem zuk{es es':Es}(p:es'.toList.Perm es.toList):es'.size=es.size:=by simpa using p.length_eq
theorem zl6(p:es'.toList.Perm es.toList):(keys es').Perm (keys es):=p.map _
theorem Tx.add{ep:Nat}(S:Tx P w s.heap a es ep t)(hr:es.size+1<scanBound)
 (h:∀b h' es' ep' t',ZF a s.heap h'->Tx P w h' a es' ep' t'->(∀k,k∈keys es'↔k∈keys es\/k=x)->es'.size<=es.size+1->Q b 3.9) :
 wpAny 1.5 A (MO a (.str x tk) (ML w x)) Q E s:=by
 have hk:(Jg P w).is x (.str x tk)=true:=by show JX x (.str x tk)=true;simp[JX]
 obtain⟨o,ho,hx,hd⟩:=S.at_
 have gw:∀(b:Bool) (s₁:GJ) (Q':Unit->GJ->Prop),Q' () s₁->wpAny 1.5 A (match b with|true=>rule "set.scan.the-table-gave-way" | false=>pure ()) Q' E s₁:=λb s₁ Q' q=>by
  cases b
  .exact GI q
  .exact Tr q
 unfold MO Nb;refine GW (GF (wpAny_setState_of ho hd S.fit ?_));dsimp only;rw[NI (byScan_of rfl S.lt S.el)];unfold setAddByScan;refine GF (GF (Tr (GF (wpAny_setScan_of (knd:=Jg P w) hk ho hd S.fit S.el ?_))))
 cases hf:es.toList.findIdx? (λe=>(Jg P w).is x e.2) with
 | some j=>
   obtain⟨hj,hp,_⟩:=List.findIdx?_eq_some_iff_getElem.mp hf;have hm:x∈keys es:=Qo.mpr ⟨_,Ze hj,(zvh (S.el _ (Ze hj)).1 x).mp hp⟩;refine GI (GI ?_);exact h false s.heap es ep t (.refl ..) S (λk=>⟨.inl,λz=>z.elim id λz=>z ▸ hm⟩) (Jp _)
 | none=>
   have hm:x ∉ keys es:=λhm=>by
    obtain⟨e,he,hk'⟩:=Qo.mp hm;have:=List.findIdx?_eq_none_iff.mp hf e he;rw[(zvh (S.el e he).1 x).mpr hk'] at this;cases this
   have hp:=layNew_perm t es (ML w x) (.str x tk);have hfit:=layNew_fits t es (ML w x) (.str x tk);have hled:=z5a t es (ML w x) (.str x tk);generalize layNew t es (ML w x) (Um x tk)=L at hp hfit hled ⊢;obtain⟨e1,t1,wd,gv⟩:=L;dsimp only at hp hfit hled ⊢;rw[YF] at hp;have el1:ElemsOf (Jg P w) e1.toList:=(S.el.push (k:=x) (x:=.str x tk) hk rfl).perm hp
   have kp:(keys e1).Perm (keys es ++ [x]):=by
    have:=hp.map keyE;rw[Qu] at this;exact this
   have nd1:(keys e1).Nodup:=kp.nodup_iff.mpr (J1.mpr ⟨S.nd,0.1,λa ha b hb=>by
    rw[Qm] at hb;subst hb
    exact λz=>hm (z ▸ ha)⟩)
   have mem1:∀k,k∈keys e1↔k∈keys es\/k=x:=λk=>by rw[kp.mem_iff,Qq,Qm]
   have sz1:e1.size=es.size+1:=by simpa using hp.length_eq
   have lt1:e1.size<scanBound:=by lia
   refine GF (gw _ _ _ ?_)
   have fin:∀t2:GY,t2.fits e1.size=true->t2.led=t.led->t2.plain=false->wpAny 1.5 A (do
    Nv a e1 t2
    if(!wd && t2.tooFull)=true then do
        (match (MC t2 e1 (Jn e1.size)).2.2 with|true=>rule "set.scan.the-table-gave-way" | false=>pure ())
        Nv a (MC t2 e1 (Jn e1.size)).1 (MC t2 e1 (Jn e1.size)).2.1
        pure (some true)
     else pure (some true)) (λr s₁=>wpAny 1.5 A (match r with|some b=>pure b|none=>Nb a (.str x tk) (ML w x) 99999) Q E s₁) E s:=λt2 f2 l2 p2=>by
    refine GF (S.put el1 nd1 lt1 f2 (l2.trans S.led) p2 λh1 sb1 S1=>?_)
    cases hw:(!wd && t2.tooFull) with
    | false=>exact GI (GI (h true h1 e1 _ t2 sb1 S1 mem1 (VL sz1)))
    | true=>
      have rp:=relayAll_perm t2 e1 (Jn e1.size);have rf:=relayAll_fits t2 e1 (Jn e1.size);have rl:=z4o t2 e1 (Jn e1.size);generalize MC t2 e1 (Jn e1.size)=R at rp rf rl ⊢;obtain⟨e2,t3,g2⟩:=R;dsimp only at rp rf rl ⊢;refine GF (gw _ _ _ ?_);have z2:=zuk rp;refine GF (S1.put (s:={ s with heap:=h1 }) (el1.perm rp) ((zl6 rp).nodup_iff.mpr nd1) 0.0 rf (rl.1.trans (l2.trans S.led)) (rl.2 p2) λh2 sb2 S2=>?_);exact GI (GI (h true h2 e2 _ t3 (sb1.trans sb2) S2 (λk=>by rw[(zl6 rp).mem_iff];exact mem1 k) 0.0))
   split
   .rename_i hpl
    refine GF ?_;rw[TC 8 (x:=.str x tk) rfl];refine GI ?_;exact fin { t1 with plain:=false } (SetTable.fits_plain_off hfit) hled rfl
   .rename_i hpl
    refine GF (GI ?_);exact fin t1 hfit hled (by simpa using hpl)
end
end SX
namespace SX
open PySem PySem.Spec PyProof.Rows
section
variable {P:GK}{w:GM}{A:GQ}{R:Result->GJ->Prop}{I:Addr}{fp wr:5.6}{G:Array Np->Array Np->Prop}{n:Nat}{Pv:Nat->GH->Prop}{St:Nat->GJ->Prop}
theorem Sx.keep{ep:Nat}(S:Sx w h a es ep t)(k:∀o,h.get? a=some o->h'.get? a=some o):Sx w h' a es ep t :=
 { S with at_:=let ⟨o,e,r⟩:=S.at_;⟨o,k o e,r⟩ }
theorem Tx.keep{ep:Nat}(S:Tx P w h a es ep t)(k:∀o,h.get? a=some o->h'.get? a=some o):Tx P w h' a es ep t :=
 ⟨S.toSx.keep k,S.el,S.nd⟩
theorem z2t(W:WalksS P w A.in1 I fp wr G n Pv St)(S:Addr)(hS:S ∉ fp)(val:Nat->Str)(hval:∀i v,Pv i v->∃t,v = .str (val i) t)(hb:n+1<scanBound):
 ∀(m i:Nat) (s:GJ) (es:Es) (ep:Nat) (t:GY),n-i=m->i<=n->St i s->Tx P w s.heap S es ep t->(∀x,x∈keys es↔∃j,j<i/\val j=x)->es.size<=i ->
   (∀s' es' ep' t',Moved (S::wr) G s s'->Tx P w s'.heap S es' ep' t'->(∀x,x∈keys es'↔∃j,j<n/\val j=x)->R (.ok (.ret .none)) s') ->
   Mo 1.5 A (.builtin "set.update.loop" ⟨[.ref S,.ref I],[]⟩) R s:=by
 have nw:S ∉ wr:=λz=>hS (W.sub _ z);have up:∀b∈wr,b∈S::wr:=λb z=>Qe _ z;intro m
 induction m with
 | zero=>
   intro i s es ep t hm hi st T hk _ k;obtain rfl:i=n:=by lia
   refine Tl JK ?_;rw[Ja Jb _];refine GF (W.done s _ _ st λs' mv=>GI ?_);exact k s' es ep t (mv.mono up) (T.keep λo e=>mv.heap S o nw e) hk
 | succ m ih=>
   intro i s es ep t hm hi st T hk hz k;have hlt:i<n:=by lia
   refine Tl JK ?_;rw[Ja Jb _];refine GF (W.item i s _ _ hlt st λv s' pv st' mv=>?_);obtain⟨tk,rfl⟩:=hval i v pv;have T1:Tx P w s'.heap S es ep t:=T.keep λo e=>mv.heap S o nw e;refine GF (m:=holding [Um (val i) tk] (setAdd S (.str (val i) tk))) (GW ?_);unfold setAdd;refine GW (GF ((Jg P w).pyHash (k:=val i) (by show JX (val i) (.str (val i) tk)=true;simp[JX]) ?_));refine Tx.add (s:={ s' with toks:=s'.toks+1 }) (x:=val i) T1 0.0 λb h' es' ep' t' sb T2 hk' hz'=>?_;refine GI ⟨TZ Jb _,ih (i+1) _ es' ep' t' 0.0 hlt (W.frame _ s' _ _ st' (Jp _) λb hb o e=>?_) T2 (λx=>?_) 0.0 λs'' e2 p2 t2 mv2 T3 hk3=>?_⟩
   .rw[sb.2 b (λz:b=S=>hS (z ▸ hb))];exact e
   .rw[hk',hk];constructor
    .rintro(⟨j,h1,h2⟩|rfl)
     .exact⟨j,by lia,h2⟩
     .exact⟨i,by lia,rfl⟩
    .rintro⟨j,h1,h2⟩
     by_cases hj:j=i
     .subst hj;exact .inr h2.symm
     .exact .inl ⟨j,by lia,h2⟩
   .refine k s'' e2 p2 t2 (.trans W.gtrans ((mv.mono up).then_heap (Jp _) λb o hb e=>?_) mv2) T3 hk3;rw[sb.2 b (λz:b=S=>hb (z ▸ Qp))];exact e
end
section
variable {P:GK}{w:GM}{A:GQ}{E:1.0}{s:GJ}
abbrev eObj(w:GM):Obj:={ cls:=.type "set",dict:=none,data:=.set #[] 0 (.fresh 0 0 (!byT w)) }
theorem z8t(e:h.get? a=some (eObj w)):Tx P w h a #[] 0 (.fresh 0 0 (!byT w)) :=
 ⟨⟨⟨_,e,⟨rfl,rfl,rfl⟩,rfl⟩,by decide,rfl,rfl,λz=>absurd z 0.2⟩,λ_ z=>by simp at z,by simp[keys]⟩
theorem zq8(v:GH)(h:Q 3.8 { s with heap:=s.heap.push (eObj w) }):
 Mo 1.5 A (.call (.builtin "set.__new__") ⟨[.type "set",v],[]⟩) (wants Q E) s:=by
 refine MS ?_;refine GF (m:=checkBuiltinCall "set.__new__" ⟨[.type "set",v],[]⟩) (TK (F.newCall_set_1 v) (GI ⟨TZ F.plain_set_new _,Tl F.entry_set_new ?_⟩));rw[Ja F.plain_set_new _];unfold Builtin.«set.__new__» Gz;have hsub:=sub_set_self;obtain⟨hp,g,d,tk,os⟩:=s;dsimp only
 wp_walk
 refine MD (GI ?_);dsimp only;simp only[newObj];refine GF (wpAny_alloc (GI ?_));exact GI h
end
end SX
namespace SX
open PySem PySem.Spec PyProof.Rows
section
variable {P:GK}{w:GM}{A:GQ}{E:1.0}{s:GJ}
abbrev Ext(h h':Heap):Prop:=∀b o,h.get? b=some o->h'.get? b=some o
def Src(P:GK)(w:GM)(h:Heap)(v:GH)(n:Nat)(Pv:Nat->GH->Prop):Prop :=
 ∀(A:GQ) (E:1.0) (s₁:GJ) (Q:1.0),A.handled=none->Ext h s₁.heap ->
   (∀I h' fp St,(∀A':GQ,A'.handled=none->Walks P w A' I fp [I] n Pv St)->St 0 h'->Ext s₁.heap h'->(∀b∈fp,b<h.objs.size\/s₁.heap.objs.size<=b)->s₁.heap.objs.size<=I->Q (.ref I) { s₁ with heap:=h' }) ->
   wpAny 1.5 A (MN v) Q E s₁
theorem zle{n:Nat}{val:Nat->Str}(hh:A.handled=none)(hT:∀s₁:GJ,Ext s.heap s₁.heap->s₁.TypeIs v T)
 (h1:MA (.type T) (.type "set")=pure false) (h2:MA (.type T) (.type "frozenset")=pure false) (h3:(Zj T == Zj "dict")=false) (src:Src P w s.heap v n Pv)
 (hval:∀i v,Pv i v->∃t,v = .str (val i) t) (hb:n+1<scanBound)
 (k:∀h' tk es ep t,Tx P w h' s.heap.objs.size es ep t->(∀x,x∈keys es↔∃j,j<n/\val j=x)->Ext s.heap h'->Q 3.8 { s with heap:=h',toks:=tk }) :
 wpAny 1.5 A (call (.type "set") [v]) Q E s:=by
 obtain⟨c,tl,hmro⟩:=Z2.mro;have hmade:=Z2.made;have hsub:=Z2.sub;refine MR (MS ?_);show wpAny _ _ (callAny (.type "set") _) _ _ _;refine GI ⟨U5 _ 5.5,Tl UN ?_⟩;rw[U6 (MW "set" [v] []) rfl];have c1:=Z2.notType;have c2:=Z2.canCreate;have c3:=Gi v
 repeat (any_goals (first|assumption|wp_step))
 refine TJ (zq8 v (E:=E) (Q:=λr s₁=>r = .ref s.heap.objs.size/\s₁ = { s with heap:=s.heap.push (eObj w) }) ⟨rfl,rfl⟩) λr s₁ hr=>?_
 cases r with
 | error e=>exact hr
 | ok fl=>
   cases fl with
   | ret obj=>
     obtain⟨rfl,rfl⟩:=hr;have eS:(s.heap.push (eObj w)).get? s.heap.objs.size=some (eObj w):=Qs _ rfl;have hS:Yx { s with heap:=s.heap.push (eObj w) } 3.8 "set" := ⟨_,eS,rfl⟩;have c4:=Z2.init.lookup;have c5:=Z2.init.bind 3.8
     repeat (any_goals (first|assumption|wp_step))
     refine TJ (MY (R:=wants (λr s₂=>r = .none/\∃h' tk es ep t,s₂ = { s with heap:=h',toks:=tk }/\Tx P w h' s.heap.objs.size es ep t/\(∀x,x∈keys es↔∃j,j<n/\val j=x)/\Ext s.heap h') E) Z2.init.plain Gj (check_set_init_1 hS ?_)) λr₂ s₂ hr₂=>?_
     .have e0:Ext s.heap (s.heap.push (eObj w)):=λb o e=>Qf _ e;have hTv:=hT { s with heap:=s.heap.push (eObj w) } e0;unfold Builtin.«set.__init__» noKeywords Vk;generalize hPI:MN=PI
      wp_walk
      subst hPI;have lt0:s.heap.objs.size<(s.heap.push (eObj w)).objs.size:=by rw[Zg];exact ZY _
      refine src _ _ _ _ (by simpa using hh) e0 λI h' fp St W st ex fpb hI=>?_;refine GF (Ng ?_)
      have nS:s.heap.objs.size ∉ fp:=λz=>by
       rcases fpb _ z with y|y
       .exact Zl _ y
       .exact absurd lt0 (Vy.mpr y)
      refine z2t (W _ (by simpa using hh)).toS s.heap.objs.size nS val hval hb n 0 _ #[] 0 _ rfl (Q6 _) st (z8t (ex _ _ eS)) (λx=>by simp[keys]) (Qg _) λs' es ep t mv T hk=>?_;obtain⟨h2,g2,d2,tk2,os2⟩:=s';obtain rfl:g2=s.gens:=mv.gens;obtain rfl:d2=s.drawn:=mv.drawn;obtain rfl:os2=s.os:=mv.os;show wpAny _ _ _ _ _ _;refine GI (GI ⟨rfl,h2,tk2,es,ep,t,rfl,T,hk,λb o e=>mv.heap b o (λz=>?_) (ex b o (e0 b o e))⟩);have hbl:=Qv e;rcases Qz.mp z with z|z
      .exact Q0 hbl z
      .rw[Qm.mp z] at hbl;exact absurd hbl (Vy.mpr (Q1 (Jt lt0) hI))
     .cases r₂ with
      | error e=>exact hr₂
      | ok fl₂=>
        cases fl₂ with
        | ret r=>
          obtain⟨rfl,h',tk,es,ep,t,rfl,T,hk,ex⟩:=hr₂
          repeat (any_goals (first|assumption|wp_step))
          exact k _ _ _ _ _ T hk ex
        | _=>exact hr₂.elim
   | _=>exact hr.elim
end
end SX
namespace SX
open PySem PySem.Spec PyProof.Rows
theorem nx_slot:Slot "set_iterator" "__next__" "set_iterator.__next__" := by
 refine Slot.of (owner := "set_iterator") (n := "__next__") ?_ 5.5 5.5 5.5 ?_ ?_
 .rw[Mu,Ma];kernel_rfl
 .first
   | exact .inl 5.5
   | exact .inr 5.5
 .rw[Md];kernel_rfl
theorem zqf:Slot "set_iterator" "__iter__" "set_iterator.__iter__" := by
 refine Slot.of (owner := "set_iterator") (n := "__iter__") ?_ 5.5 5.5 5.5 ?_ ?_
 .rw[Mu,Ma];kernel_rfl
 .first
   | exact .inl 5.5
   | exact .inr 5.5
 .rw[Md];kernel_rfl
theorem zm5:NG table "set_iterator.__next__" = some Builtin.«set_iterator.__next__»:=by
 refine entryFor_of_tree ?_;kernel_rfl
theorem zy5:NG table "set_iterator.__iter__" = some Builtin.«dict_keyiterator.__iter__»:=by
 refine MZ (id' := "dict_keyiterator.__iter__") ?_ rfl ?_ ?_
 .kernel_rfl
 .decide +kernel
 .kernel_rfl
theorem zkn:NG table "set.__iter__" = some Builtin.«frozenset.__iter__»:=by
 refine MZ (id' := "frozenset.__iter__") ?_ rfl ?_ ?_
 .kernel_rfl
 .decide +kernel
 .kernel_rfl
theorem zng:Manifest.owners.lookup (String.ofList ['r','o','t','a','r','e','t','i','_','t','e','s'].reverse)=some Manifest.sig_set_iterator:=by kernel_rfl
theorem zrh(a:GH):argsOk "set_iterator.__next__" ⟨[a],[]⟩:=by
 unfold argsOk;rw[signature?_of (id := "set_iterator.__next__") (n:=['_','_','t','x','e','n','_','_']) (o:=['r','o','t','a','r','e','t','i','_','t','e','s']) 2.5 zng];kernel_rfl
theorem z2j(a:GH):argsOk "set_iterator.__iter__" ⟨[a],[]⟩:=by
 unfold argsOk;rw[signature?_of (id := "set_iterator.__iter__") (n:=['_','_','r','e','t','i','_','_']) (o:=['r','o','t','a','r','e','t','i','_','t','e','s']) 2.5 zng];kernel_rfl
theorem zf0{α:Type}:∀{l:4.2} {i:Nat} (h:i<l.length),(l[i]::l.eraseIdx i).Perm l
 | [],_,h=>absurd h (JW _)
 | x::l,0,_=>.refl _
 | x::l,i+1,h=>(Gy x _ _).trans ((zf0 (l:=l) (i:=i) (Nat.lt_of_succ_lt_succ h)).cons x)
theorem zq6{α:Type}(f:Nat->Nat):∀(m k:Nat) (l:4.2) (out:Array α),l.length=m->(UO f m k l out).toList.Perm (out.toList++l)
 | 0,k,l,out,h=>by
   obtain rfl:l = []:=by cases l with|nil=>rfl|cons _ _=>simp at h
   simp[UO]
 | m+1,k,l,out,h=>by
   have hi:f k % l.length<l.length:=Vz _ 0.0;unfold UO;rw[Qb hi];refine(zq6 f m (k+1) (l.eraseIdx (f k % l.length)) (out.push l[f k % l.length]) (by rw[Yj];simp[hi];lia)).trans ?_;rw[YF,QP];refine VX _ ?_;exact zf0 hi
theorem zv0{α:Type}(f:Nat->Nat)(xs:Array α):(Mh f xs).toList.Perm xs.toList:=by
 simpa[Mh] using zq6 f xs.size 0 xs.toList #[] 0.1
end SX
namespace SX
open PySem PySem.Spec PyProof.Rows
section
variable {P:GK}{w:GM}{A:GQ}{E:1.0}{s:GJ}{α:Type}
theorem zv1{n:Nat}(hn:n≠0)(h:∀i d,i<n->Q i { s with drawn:=d }):wpAny 1.5 A (choose src n) Q E s:=λΓ p _=>
 ⟨hn,h _ _ (Vz _ (Nat.pos_of_ne_zero hn))⟩
theorem zq3:∀(m:Nat) (xs:4.2) (s:GJ) (Q:List α->GJ->Prop),xs.length=m->(∀ys d,ys.Perm xs->Q ys { s with drawn:=d })->wpAny 1.5 A (drawOrder m xs) Q E s
 | 0,xs,s,Q,e,h=>by
   obtain rfl:xs = []:=Jc.mp e;exact GI (h [] s.drawn .nil)
 | m+1,[],s,Q,e,h=>by cases e
 | m+1,x::xs,s,Q,e,h=>by
   unfold drawOrder;refine GF (zv1 0.1 λi d hi=>?_);rw[Qb hi];refine GF (zq3 m _ _ _ (by rw[Yj,NI hi];simpa using e) λys d2 hp=>?_);exact GI (h _ d2 ((hp.cons _).trans (zf0 hi)))
theorem wp_f{c:Prop}[Decidable c](hc:¬c)(h:wpAny 1.5 A b Q E s):wpAny 1.5 A (if c then a else b) Q E s:=by
 rw[NJ hc];exact h
theorem wp_t{c:Prop}[Decidable c](hc:c)(h:wpAny 1.5 A a Q E s):wpAny 1.5 A (if c then a else b) Q E s:=by
 rw[NI hc];exact h
theorem zix(h:Q (byT w) s):wpAny 1.5 A setsByText Q E s:=by
 unfold setsByText;exact GF (MD (GI h))
theorem Sx.state{ep:Nat}(S:Sx w s.heap a es ep t)(h:Q (es,ep,t) s):wpAny 1.5 A (setState a) Q E s :=
 let ⟨_,ho,_,hd⟩:=S.at_
 wpAny_setState_of ho hd S.fit h
theorem Sx.entries{ep:Nat}(S:Sx w s.heap a es ep t)(h:Q es s):wpAny 1.5 A (setEntries a) Q E s :=
 let ⟨_,ho,_,hd⟩:=S.at_
 wpAny_setEntries_of ho hd S.fit h
theorem Sx.epoch{ep:Nat}(S:Sx w s.heap a es ep t)(h:Q ep s):wpAny 1.5 A (setEpoch a) Q E s :=
 let ⟨_,ho,_,hd⟩:=S.at_
 wpAny_setEpoch_of ho hd S.fit h
abbrev itO(first:GH)(i:Nat)(S:Addr)(n ep:Nat):Obj:={ cls:=.type "set_iterator",dict:=none,data:=.fields #[first,.int i 0,.ref S,.int n 0,.int ep 0],slots:=#[] }
theorem zq4{R:Option GH->GJ->Prop}(hh:A.handled=none)(h:∀h',Ext s.heap h'->R none 3.9):
 wpAny 1.5 A.in1 (do raiseNew (<- newExc (.type "StopIteration") [])) Z (λe s₁=>wpAny 1.5 A (do if <- isInstance e (.type "StopIteration") then pure none else throw e) R E s₁) s:=by
 refine GF ?_;simp only[newExc,newTuple];refine GF (GX ?_ (by size_fits));refine GF (m:=firstArgMember _ _) (TK (a:=Yf) (by first|rfl|(simp only[firstArgMember];rfl)) ?_);refine GX ?_ (by size_fits);simp only[raiseNew];refine GF (wpAny_handled ?_);rw[show A.in1.handled=none from hh];refine GF (GI (wpAny_throw ?_));refine GF (Me (T := "StopIteration") (b:=true) ⟨_,Qs _ rfl,rfl⟩ isSubtype_stop ?_);exact GI (h _ λb o e=>Qf _ (Qf _ e))
end
end SX
namespace SX
open PySem PySem.Spec PyProof.Rows
section
variable {P:GK}{w:GM}{A:GQ}{E:1.0}{s:GJ}{it S:Addr}{es:Es}{ep:Nat}{t:GY}
theorem zhm{first:GH}{sl:Nat}{i:Nat}{R:Option GH->GJ->Prop}(hf:first = .int sl 0)(ho:s.heap.get? it=some (itO first i S es.size ep))(T:Sx w s.heap S es ep t)
 (h:wpAny 1.5 A.in1 (NC S sl i ep) (λr s₁=>s₁=s/\match r with
  | some (x,nx)=>∀h',h'.get? it=some (itO (.int nx 0) (i+1) S es.size ep)->ZF it s.heap h'->R (some x) 3.9
  | none=>∀h',(∀b o,b≠it->s.heap.get? b=some o->h'.get? b=some o)->R none 3.9) (λ_ _=>False) s) (hh:A.handled=none):wpAny 1.5 A (N0 (.ref it)) R E s:=by
 subst hf;have hT:s.TypeIs (.ref it) "set_iterator" := ⟨_,ho,rfl⟩;unfold N0;refine GF (Mq (TW (name:=Zt "__next__") hT nx_slot (GV nx_slot hT zm5 ?_ (zrh _))));unfold Builtin.«set_iterator.__next__»;refine GF (GI ?_);refine GF (wpAny_fieldsOf ho rfl ?_);refine GF (T.entries ?_);refine wp_f 0.1 ?_;refine GF (Ta h (λr s₁ q=>?_) λ_ _ z=>z.elim);obtain⟨rfl,q⟩:=q
 match r,q with
 | some (x,nx),q=>
   refine GF (Tz ho 0.1 λh1 e1 b1=>?_);refine GF (Tz (s:={ s₁ with heap:=h1 }) e1 0.1 λh2 e2 b2=>?_);refine GI ⟨x,rfl,GI (q h2 ?_ (b1.trans b2))⟩;exact e2
 | none,q=>
   refine GF (Tz ho 0.1 λh1 e1 b1=>?_);exact zq4 (s:={ s₁ with heap:=h1 }) hh λh' ex=>q h' λb o n e=>ex b o ((b1.2 b n).trans e)
end
end SX
namespace SX
open PySem PySem.Spec PyProof.Rows
section
variable {P:GK}{w:GM}{A:GQ}{E:1.0}{s:GJ}{it S:Addr}{es:Es}{ep:Nat}{t:GY}
theorem z1c{sl i:Nat}(hb:byT w=true)(T:Sx w s.heap S es ep t)(h:Q (((Mh (w.params.setOrder S ep) es)[i]?).map λe=>(e.2,sl)) s):wpAny 1.5 A (NC S sl i ep) Q E s:=by
 unfold NC;refine GF (T.state ?_);refine GF (zix ?_);rw[hb];refine wp_t rfl ?_;refine wp_f 0.1 ?_;refine GF ?_;unfold setWalk;refine GF (T.state ?_);refine GF (zix ?_);rw[hb];refine wp_t rfl ?_;exact GF (MD (GI (GI h)))
theorem zzr{sl i:Nat}(hb:byT w=false)(hz:es.size<=1)(T:Sx w s.heap S es ep t)(h:Q (match es[Yk t.place sl]?,t.place[Yk t.place sl]? with
 | some (_,x),some j=>some (x,j+1)
 | _,_=>none) s):wpAny 1.5 A (NC S sl i ep) Q E s:=by
 unfold NC;refine GF (T.state ?_);refine GF (zix ?_);rw[hb];refine wp_f 0.2 ?_;refine wp_f (show ¬((!t.plain && decide (es.size > 1))=true) by simp;lia) ?_;refine GF (m:=if(!t.led && !es.isEmpty)=true then N7 "set:maker-not-led" else pure ()) (wp_f (by rw[T.led,hb];simp) (GI ?_));exact GI h
theorem zrb{Tp:Addr}{pls:2.8}{c:Nat}{i:Nat}{R:Option GH->GJ->Prop}(ho:s.heap.get? it=some (itO (.ref Tp) i S es.size ep))(hp:s.heap.get? Tp=some { cls:=.type "tuple",data:=.seq pls.toArray c })(T:Sx w s.heap S es ep t)
 (h:match pls[i]? with
  | some v=>∃(j:Nat) (e:Int×GH),v = .int j 0/\es[j]? = some e/\∀h',h'.get? it=some (itO (.ref Tp) (i+1) S es.size ep)->ZF it s.heap h'->R (some e.2) 3.9
  | none=>∀h',(∀b o,b≠it->s.heap.get? b=some o->h'.get? b=some o)->R none 3.9) (hh:A.handled=none):wpAny 1.5 A (N0 (.ref it)) R E s:=by
 have hT:s.TypeIs (.ref it) "set_iterator" := ⟨_,ho,rfl⟩;unfold N0;refine GF (Mq (TW (name:=Zt "__next__") hT nx_slot (GV nx_slot hT zm5 ?_ (zrh _))));unfold Builtin.«set_iterator.__next__»;refine GF (GI ?_);refine GF (wpAny_fieldsOf ho rfl ?_);refine GF (T.entries ?_);refine wp_f 0.1 ?_;refine GF (M0 hp rfl ?_);have ea:(pls.toArray)[(i:Int).toNat]? = pls[i]?:=by simp
 dsimp only;rw[ea]
 cases hv:pls[i]? with
 | some v=>
   rw[hv] at h;obtain⟨j,e,rfl,he,h⟩:=h;dsimp only;refine GF ?_;unfold setNextDrawn;refine GF (T.state ?_);refine wp_f 0.1 ?_;have ej:es[(j:Int).toNat]? = some e:=by simpa using he
   rw[ej];refine GI ?_;refine GF (Tz ho 0.1 λh1 e1 b1=>?_);exact GI ⟨_,rfl,GI (h h1 e1 b1)⟩
 | none=>
   rw[hv] at h;dsimp only;refine GF (Tz ho 0.1 λh1 e1 b1=>?_);refine GF (Tz (s:={ s with heap:=h1 }) e1 0.1 λh2 e2 b2=>?_);exact zq4 (s:={ s with heap:=h2 }) hh λh' ex=>h h' λb o n e=>ex b o ((b2.2 b n).trans ((b1.2 b n).trans e))
theorem zkp{first:GH}{i n:Nat}(ho:s.heap.get? it=some (itO first i S n ep))(h:Q (.ref it) s):wpAny 1.5 A (MN (.ref it)) Q E s:=by
 have hT:s.TypeIs (.ref it) "set_iterator" := ⟨_,ho,rfl⟩;refine M8 hT zqf (GV zqf hT zy5 ?_ (z2j _));exact GI ⟨_,rfl, "set_iterator",_,hT,nx_slot.lookup,h⟩
end
end SX
namespace SX
open PySem PySem.Spec PyProof.Rows
section
variable {P:GK}{w:GM}{A:GQ}{E:1.0}{s:GJ}{it S:Addr}{es:Es}{ep:Nat}{t:GY}
def ordP(ord:List (Int×GH)):Nat->GH->Prop:=λi v=>∃e,ord[i]? = some e/\v=e.2
theorem z7t(hh:A.handled=none)(hb:byT w=true)(ne:S≠it):
 Walks P w A it [it,S] [it] (Mh (w.params.setOrder S ep) es).toList.length (ordP (Mh (w.params.setOrder S ep) es).toList) (λi h=>(∃sl:Nat,h.get? it=some (itO (.int sl 0) i S es.size ep))/\Sx w h S es ep t) where
 sub:=λb z=>by simp at z;simp[z]
 frame:=λi h h' st k=>⟨let ⟨sl,e⟩:=st.1;⟨sl,k it 0.1 _ e⟩,st.2.keep λo e=>k S 0.1 o e⟩
 item:=λi s Q E hi st k=>by
  obtain⟨⟨sl,ho⟩,T⟩:=st;refine zhm rfl ho T (z1c hb T 3.2) hh
  have hx:(Mh (w.params.setOrder S ep) es)[i]? = some ((Mh (w.params.setOrder S ep) es).toList[i]):=by
   rw[<- Q7];exact Qb hi
  rw[hx];refine λh' e' sb=>k _ h' s.toks ⟨_,Qb hi,rfl⟩ ⟨⟨sl,e'⟩,T.keep λo e=>(sb.2 S ne).trans e⟩ λb o nb e=>(sb.2 b (by simpa using nb)).trans e
 done:=λs Q E st k=>by
  obtain⟨⟨sl,ho⟩,T⟩:=st;refine zhm rfl ho T (z1c hb T 3.2) hh;rw[show(Mh (w.params.setOrder S ep) es)[(Mh (w.params.setOrder S ep) es).toList.length]? = none by simp];exact λh' kp=>k h' s.toks λb o nb e=>kp b o (by simpa using nb) e
 self:=λi s Q E st h=>zkp st.1.choose_spec h
theorem zn2:∀{js:0.7},(∀j∈js,j<es.size)->(js.filterMap λj=>es[j]?)=js.map λj=>es[j]?.getD (0,.none)
 | [],_=>rfl
 | j::js,hj=>by
   obtain⟨e,h1⟩:∃e,es[j]? = some e:=⟨_,Q4 (hj j 0.1)⟩;rw[VF h1,QB,h1,zn2 λx z=>hj x (Qe _ z)];rfl
theorem z7j{Tp:Addr}{ord:List (Int×GH)}{js:0.7}(hh:A.handled=none)(ne:S≠it)(nt:Tp≠it)(ho:ord=js.filterMap λj=>es[j]?)(hj:∀j∈js,j<es.size):
 Walks P w A it [it,S,Tp] [it] ord.length (ordP ord) (λi h=>h.get? it=some (itO (.ref Tp) i S es.size ep)/\Sx w h S es ep t/\h.get? Tp=some { cls:=.type "tuple",data:=.seq (js.map λ(j:Nat)=>UZ j 0).toArray }) where
 sub:=λb z=>by simp at z;simp[z]
 frame:=λi h h' st k=>⟨k it 0.1 _ st.1,st.2.1.keep λo e=>k S 0.1 o e,k Tp 0.1 _ st.2.2⟩
 item:=λi s Q E hi st k=>by
  obtain⟨hi1,T,ht⟩:=st;have el:=ho.trans (zn2 hj);have hl:i<js.length:=by rw[el] at hi;simpa using hi
  obtain⟨e,h1⟩:∃e,es[js[i]]? = some e:=⟨_,Q4 (hj _ (Ze hl))⟩;refine zrb hi1 ht T ?_ hh;rw[Qh,Qb hl];refine⟨js[i],_,rfl,h1,λh' e' sb=>k _ h' s.toks ⟨e,?_,rfl⟩ ⟨e',T.keep λo e=>(sb.2 S ne).trans e,(sb.2 Tp nt).trans ht⟩ λb o nb e=>(sb.2 b (by simpa using nb)).trans e⟩;rw[el,Qh,Qb hl];show some (es[js[i]]?.getD (0,.none))=_;rw[h1];rfl
 done:=λs Q E st k=>by
  obtain⟨hi1,T,ht⟩:=st;have el:ord.length=js.length:=by rw[ho.trans (zn2 hj)];simp
  refine zrb hi1 ht T ?_ hh;rw[Qh,QD 0.0];exact λh' kp=>k h' s.toks λb o nb e=>kp b o (by simpa using nb) e
 self:=λi s Q E st h=>zkp st.1 h
theorem zlt{sl:Nat}(h:p.size=1):Yk p sl=if p.getD 0 sl<sl then 1 else 0:=by
 unfold Yk;rw[h];unfold V9;rw[NI 0.0];show(if p.getD 0 sl<sl then V9 p sl 0 1 1 else V9 p sl 0 0 0)=_
 split <;> rfl
theorem z8x(hh:A.handled=none)(hb:byT w=false)(hz:es.size<=1)(ne:S≠it):
 Walks P w A it [it,S] [it] es.toList.length (ordP es.toList) (λi h=>(∃sl:Nat,(i=0->sl=0)/\(i=1->∃j,t.place[0]? = some j/\sl=j+1)/\h.get? it=some (itO (.int sl 0) i S es.size ep))/\Sx w h S es ep t) where
 sub:=λb z=>by simp at z;simp[z]
 frame:=λi h h' st k=>⟨let ⟨sl,e0,e1,e⟩:=st.1;⟨sl,e0,e1,k it 0.1 _ e⟩,st.2.keep λo e=>k S 0.1 o e⟩
 item:=λi s Q E hi st k=>by
  obtain⟨⟨sl,h0,_,ho⟩,T⟩:=st;have hi':i<es.size:=by simpa using hi
  obtain rfl:i=0:=by lia
  obtain rfl:=h0 rfl
  have f1:t.place.size=1:=by
   have:=T.fit;simp only[Ut,Q9,beq_iff_eq] at this;lia
  have hbel:Yk t.place 0=0:=by rw[zlt f1,NJ (JW _)]
  refine zhm rfl ho T (zzr hb hz T 3.2) hh;rw[hbel];have e1:es[0]? = some es[0]:=Q4 hi';have e2:t.place[0]? = some t.place[0]:=Q4 0.0;rw[e1,e2];refine λh' e' sb=>k _ h' s.toks ⟨es[0],by rw[Q7];exact e1,rfl⟩ ⟨⟨t.place[0]+1,λz=>by lia,λ_=>⟨_,e2,rfl⟩,e'⟩,T.keep λo e=>(sb.2 S ne).trans e⟩ λb o nb e=>(sb.2 b (by simpa using nb)).trans e
 done:=λs Q E st k=>by
  obtain⟨⟨sl,_,h1,ho⟩,T⟩:=st
  have f1:t.place.size=es.size:=by
   have:=T.fit;simp only[Ut,Q9,beq_iff_eq] at this;lia
  refine zhm rfl ho T (zzr hb hz T 3.2) hh
  have none':es[Yk t.place sl]? = none:=by
   by_cases h:es.size=0
   .exact J5 0.0
   .obtain⟨j,e1,e2⟩:=h1 (by simp;lia);rw[zlt 0.0,Jf,e1,e2];show es[if j<j+1 then 1 else 0]? = none;rw[NI (ZY _)];exact J5 0.0
  rw[none'];exact λh' kp=>k h' s.toks λb o nb e=>kp b o (by simpa using nb) e
 self:=λi s Q E st h=>zkp st.1.choose_spec.2.2 h
end
end SX
namespace SX
open PySem PySem.Spec PyProof.Rows
section
variable {P:GK}{w:GM}{A:GQ}{E:1.0}{s:GJ}{it S:Addr}{es:Es}{ep:Nat}{t:GY}
theorem Sx.typ(T:Sx w s.heap S es ep t):s.TypeIs (.ref S) "set" := let ⟨_,ho,hx,_⟩:=T.at_;⟨_,ho,hx.1⟩
theorem Sx.lts(T:Sx w s.heap S es ep t):S<s.heap.objs.size:=let ⟨_,ho,_⟩:=T.at_;Qv ho
theorem zzb(T:Sx w s.heap S es ep t)(h:Q (!byT w && decide (es.size > 1)) s):wpAny 1.5 A (setDrawn S) Q E s:=by
 unfold setDrawn;refine GF (T.state ?_);refine GF (zix ?_)
 have e:(!byT w && (!t.plain && decide (es.size > 1)))=(!byT w && decide (es.size > 1)):=by
  by_cases hz:1<es.size
  .rw[T.pl hz];simp
  .simp[hz]
 refine GI ?_;show Q (!byT w && (!t.plain && decide (es.size > 1))) s;rw[e];exact h
theorem zzg(T:Sx w s.heap S es ep t)
 (k:∀(it:Addr) (h':Heap) (d':Drawn) (ord:List (Int×GH)) (fp:5.6) (St:Nat->Heap->Prop),ord.Perm es.toList->(∀A':GQ,A'.handled=none->Walks P w A' it fp [it] ord.length (ordP ord) St)->St 0 h'->Ext s.heap h'->(∀b∈fp,b<s.heap.objs.size->b=S)->(∀b∈fp,b<h'.objs.size)->s.heap.objs.size<=it->it∈fp->Q (.ref it) { s with heap:=h',drawn:=d' }) :
 wpAny 1.5 A (MN (.ref S)) Q E s:=by
 have hlt:=T.lts;refine M8 T.typ F.slot_set_iter (GV F.slot_set_iter T.typ zkn ?_ (F.args_set_iter_1 _));unfold Builtin.«frozenset.__iter__»;refine GF (m:=GC "__iter__" ⟨[.ref S],[]⟩) (GI ?_);refine GF (GF (T.entries (GI ?_)));refine GF (zzb T ?_);have sz:∀(h:Heap) (o:Obj),(h.push o).objs.size=h.objs.size+1:=λh o=>Zg ..
 cases hd:(!byT w && decide (es.size > 1)) with
 | true=>
   refine wp_t rfl ?_;refine GF (zq3 es.size _ _ _ 0.1 λjs d hp=>?_)
   have hz:js.length<=sizeLine:=by
    have:=Mb T.lt;rw[hp.length_eq,QS];exact this
   refine GF (Nf ?_ (by rw[Qc];exact hz));have T1:Sx w (s.heap.push { cls:=.type "tuple",data:=.seq (js.map λ(j:Nat)=>rawInt j).toArray }) S es ep t:=T.keep λo e=>Qf _ e;refine GF (Sx.epoch (s:={ s with heap:=s.heap.push { cls:=.type "tuple",data:=.seq (js.map λ(j:Nat)=>rawInt j).toArray },drawn:=d }) T1 ?_);refine GF (GX (GI ⟨_,rfl, "set_iterator",_,⟨_,Qs _ rfl,rfl⟩,nx_slot.lookup,?_⟩));have hj:∀j∈js,j<es.size:=λj z=>Q8.mp (hp.mem_iff.mp z);refine k _ _ d (js.filterMap λj=>es[j]?) [(s.heap.push { cls:=.type "tuple",data:=.seq (js.map λ(j:Nat)=>rawInt j).toArray }).objs.size,S,s.heap.objs.size] _ ?_ (λA' hA=>z7j (t:=t) (ep:=ep) hA ?_ ?_ rfl hj) ⟨Qs _ rfl,T1.keep λo e=>Qf _ e,Qf _ (Qs _ rfl)⟩ (λb o e=>Qf _ (Qf _ e)) ?_ ?_ ?_ 0.1
   .refine(hp.filterMap _).trans ?_;rw[M9]
   .rw[sz];exact Q0 (QW hlt)
   .rw[sz];exact Q0 (ZY _)
   .intro b hb hl;rw[sz] at hb;simp at hb;rcases hb with rfl|rfl|rfl
    .exact absurd hl (Vy.mpr (Jp _))
    .rfl
    .exact absurd hl (Zl _)
   .intro b hb;rw[sz] at hb;rw[sz,sz];simp at hb;rcases hb with rfl|rfl|rfl
    .exact ZY _
    .exact QW (QW hlt)
    .exact QW (ZY _)
   .rw[sz];exact Jp _
 | false=>
   refine wp_f 0.2 (GF (GI ?_));refine GF (T.epoch ?_);refine GF (GX (GI ⟨_,rfl, "set_iterator",_,⟨_,Qs _ rfl,rfl⟩,nx_slot.lookup,?_⟩));have ne:S≠s.heap.objs.size:=Q0 hlt
   have fpo:∀b∈[s.heap.objs.size,S],b<s.heap.objs.size->b=S:=λb hb hl=>by
    simp at hb;rcases hb with rfl|rfl
    .exact absurd hl (Zl _)
    .rfl
   have fpl:∀o:Obj,∀b∈[s.heap.objs.size,S],b<(s.heap.push o).objs.size:=λo b hb=>by
    rw[sz];simp at hb;rcases hb with rfl|rfl
    .exact ZY _
    .exact QW hlt
   cases hb:byT w with
   | true=>
     exact k _ _ s.drawn _ [s.heap.objs.size,S] _ (zv0 _ es) (λA' hA=>z7t (t:=t) hA hb ne) ⟨⟨0,Qs _ rfl⟩,T.keep λo e=>Qf _ e⟩ (λb o e=>Qf _ e) fpo (fpl _) (Qg _) 0.1
   | false=>
     have hz:es.size<=1:=by rw[hb] at hd;simpa using hd
     exact k _ _ s.drawn es.toList [s.heap.objs.size,S] _ (.refl _) (λA' hA=>z8x (t:=t) (ep:=ep) hA hb hz ne) ⟨⟨0,λ_=>rfl,λz=>absurd z 0.2,Qs _ rfl⟩,T.keep λo e=>Qf _ e⟩ (λb o e=>Qf _ e) fpo (fpl _) (Qg _) 0.1
end
end SX
namespace SX
open PySem PySem.Spec PyProof.Rows
section
variable {P:GK}{w:GM}{A:GQ}{E:1.0}{s:GJ}{it S:Addr}{es:Es}{ep:Nat}{t:GY}
abbrev lO(xs:Array GH)(c:Nat):Obj:={ cls:=.type "list",dict:=none,data:=.seq xs c,slots:=#[] }
theorem zxd:MA (.type "set") (.type "set")=pure true:=by
 rw[Md];kernel_rfl
theorem zto{c:Nat}(f:Array GH->Array GH)(ho:s.heap.get? a=some (lO xs c))(hz:xs.size<=sizeLine)(hz2:(f xs).size<=sizeLine+1)
 (h:∀h' c',h'.get? a=some (lO (f xs) c')->ZF a s.heap h'->Q () 3.9):wpAny 1.5 A (VI 3.1 f) Q E s :=
 TY ho rfl (h _ _ (ZQ (QJ f) ho rfl) (.update ..)) hz hz2
theorem zhu(hh:A.handled=none)(T:Sx w s.heap S es ep t)
 (k:∀(h':Heap) (d':Drawn) (tk:Nat) (vs:2.8),Ext s.heap h'->vs.Perm (es.toList.map (·.2))->s.heap.objs.size<h'.objs.size->Q vs { s with heap:=h',drawn:=d',toks:=tk }):wpAny 1.5 A (collect (.ref S)) Q E s:=by
 have hlt:=T.lts;unfold collect;refine GF (Ng (Tl F.entry_proto_collect ?_));rw[Ja F.plain_proto_collect _];refine GF (m:=newList []) (GX ?_);refine GI ⟨TZ UP _,Tl F.entry_list_iadd ?_⟩;rw[Ja UP _];have T1:Sx w (s.heap.push (lO #[] 0)) S es ep t:=T.keep λo e=>Qf _ e;have eL:(s.heap.push (lO #[] 0)).get? s.heap.objs.size=some (lO #[] 0):=Qs _ rfl;have sz1:(s.heap.push (lO #[] 0)).objs.size=s.heap.objs.size+1:=Zg ..;show wpAny _ A.in1 (Vu 3.8 (.ref S) 3.8) _ _ { s with heap:=s.heap.push (lO #[] 0) };unfold Vu;refine GF (TL (T1.typ (s:={ s with heap:=s.heap.push (lO #[] 0) })) ?_)
 have nsr:Ju 3.8 (.ref S)=false:=by
  show(s.heap.objs.size == S)=false;exact beq_eq_false_iff_ne.mpr (Yn hlt)
 rw[nsr];refine wp_f 0.2 ?_;refine GF (zzg (s:={ s with heap:=s.heap.push (lO #[] 0) }) T1 λit h2 d2 ord fp St hp W st ex fpo fpl hit hmem=>?_);have T2:Sx w h2 S es ep t:=T1.keep λo e=>ex _ o e;have tS:Yx { s with heap:=h2,drawn:=d2 } (.ref S) "set" := T2.typ (s:={ s with heap:=h2,drawn:=d2 });refine GF (GW ?_);unfold Je;refine GF (Tn tS F.slot_set_len.lookup ?_);generalize hid:("set.__len__" : String)=id0
 (fail_if_success (clear hid id0))
 wp_delta
 rw[show splitId id0=some ("set", "__len__") from by subst hid;decide +kernel];subst hid;refine GF (Me (b:=true) tS zxd ?_);refine wp_f 0.2 ?_;refine wp_t 5.5 ?_;refine GF (TL tS ?_);refine GI ?_;refine wp_t 5.5 ?_;refine GF (Tr ?_);refine GF ?_;unfold Builtin.List.listTouch;have h64:(0:Nat)<=sizeLine:=Q6 _;have eL2:h2.get? s.heap.objs.size=some (lO #[] 0):=ex _ _ eL;refine GF (zto (s:={ s with heap:=h2,drawn:=d2 }) (·.push Yf) eL2 h64 0.1 λh3 c3 e3 b3=>?_);refine zto (s:={ s with heap:=h3,drawn:=d2 }) (·.pop) e3 (by rw[GP];decide) 0.1 λh4 c4 e4 b4=>?_
 have nLf:s.heap.objs.size ∉ fp:=λz=>by
  have:=fpo _ z (by rw[sz1];exact ZY _);exact Yn hlt this
 have st4:St 0 h4:=(W A hh).frame 0 h2 h4 st λb hb o e=>by
  have nb:b≠s.heap.objs.size:=λz=>nLf (z ▸ hb);exact(b4.2 b nb).trans ((b3.2 b nb).trans e)
 have hn:ord.length<=sizeLine:=by
  rw[hp.length_eq,QH];exact Mb T.lt
 refine GI ⟨TZ Vq _,Ms (W A.in1 (by simpa using hh)).toS hn _ nLf _ ord.length 0 { s with heap:=h4,drawn:=d2 } #[] c4 rfl (Q6 _) st4 e4 (Go _) λs' acc c mv eA hacc=>?_⟩;refine GF (wpAny_load eA (GI ?_));obtain⟨h5,g5,d5,tk5,os5⟩:=s';obtain rfl:g5=s.gens:=mv.gens;obtain rfl:d5=d2:=mv.drawn;obtain rfl:os5=s.os:=mv.os
 have ev:acc.toList=ord.map (·.2):=by
  refine Jk λi=>?_;rw[Q7]
  by_cases hi:i<acc.size
  .rw[Q4 hi];obtain⟨e,h1,h2⟩:=hacc.2 i _ (Q4 hi);rw[Qh,h1,h2];rfl
  .rw[J5 0.0,Qh,QD (by have:=hacc.1;lia)];rfl
 refine k h5 d5 tk5 acc.toList (λb o e=>mv.heap b o (λz=>?_) ?_) (by rw[ev];exact hp.map _) (Qv eA)
 .have hbl:=Qv e;rcases Qz.mp z with z|z
  .exact Q0 hbl z
  .rw[Qm.mp z] at hbl;have:s.heap.objs.size+1<=it:=by rw[<- sz1];exact hit
   exact absurd hbl (Vy.mpr (Yb this))
 .have nb:b≠s.heap.objs.size:=Q0 (Qv e);exact(b4.2 b nb).trans ((b3.2 b nb).trans (ex b o (Qf _ e)))
end
end SX
namespace SX
open PySem PySem.Spec PyProof.Rows
section
variable {P:GK}{w:GM}{A:GQ}{E:1.0}{s:GJ}{it S:Addr}{es:Es}{ep:Nat}{t:GY}
theorem zq0:∀{vs:2.8},(∀v∈vs,∃x t,v = .str x t)->MI vs (vs.map strOf)
 | [],_=>.nil
 | v::vs,h=>by
   obtain⟨x,t,rfl⟩:=h v 0.1;exact .cons x t (zq0 λu z=>h u (Qe _ z))
end
end SX
namespace L3
open PySem PySem.Spec
open PyProof.Rows hiding St
open L2
open SX
theorem Inv.draw{pins:0.9}(I:0.5)(d:Drawn):Inv X pins σ H { s with drawn:=d } :=
 ⟨I.ok,I.os,I.bare,I.base,I.loc,I.cell,I.free,I.freeC,I.pin,I.hok,I.len⟩
def TxsV(K:Qa)(H:Hp)(v:V)(ys:2.4):Prop:=(∃x:Str,v = .str x/\ys=x.cps.toList.map sg)\/∃a,v = .ref a/\SqL K H a (ys.map V.str)
theorem z8e(x:Str)(tk:Tok):Src P w h (.str x tk) x.cps.size (SignAt x):=λA E s₁ Q hh ex k=>by
 refine wpAny_pyIter_str λo St W st=>?_;refine k _ _ [s₁.heap.objs.size] St W st (λb o e=>Qf _ e) (λb hb=>.inr (by simp at hb;exact VL hb.symm)) (Qg _)
theorem zug{items:Array GH}(hl:h.IsList l items):Src P w h (.ref l) items.size (λi v=>items[i]? = some v):=λA E s₁ Q hh ex k=>by
 have hl1:s₁.heap.IsList l items:=hl.at λo e=>ex l o e;have lt:l<h.objs.size:=by obtain⟨o,e,_⟩:=hl;exact Qv e
 have lt1:l<s₁.heap.objs.size:=by obtain⟨o,e,_⟩:=hl1;exact Qv e
 refine M7 hl1 ?_;refine k s₁.heap.objs.size _ [s₁.heap.objs.size,l] _ (λA' hA=>Walks.list hA _ l (Q0 lt1) items) ⟨⟨_,Qs _ rfl,rfl,rfl⟩,hl1.push _⟩ (λb o e=>Qf _ e) (λb hb=>?_) (Qg _);simp at hb;rcases hb with rfl|rfl
 .exact .inr (Qg _)
 .exact .inl lt
theorem ztn{xs ys:2.4}(h:xs.Nodup)(hs:∀k∈xs,k∈ys):xs.length<=ys.length:=by
 induction xs generalizing ys with
 | nil=>exact Q6 _
 | cons x xs ih=>
   have hx:x∈ys:=hs x 0.1;have h':=Zq.mp h;have:=ih (ys:=ys.erase x) h'.2 λk hk=>(Vf (λz:k=x=>h'.1 (z ▸ hk))).mpr (hs k (Qe _ hk));rw[Yy hx] at this;have:0<ys.length:=YG hx;simp only[Ql];lia
def TxsD(d:GG)(ys:2.4):Prop:=(∃x:Str,d = .str x/\ys=x.cps.toList.map sg)\/d = .list (ys.map .str)
def parS(i j:Nat)(g:DA):DS:=λDd ρ=>g ρ λds=>∃d e,ds = [d,e]/\flat d=true/\flat e=true/\Dd.nx ((ρ.set i (some (.im d))).set j (some (.im e)))
theorem z5e{K:Qa}{O:Ob}{i j:Nat}{ta:TA}{g:DA}(h:AD K O ta g):SD K O (tPar i j ta) (parS i j g):=λH₀ A σ H ρ D Dd r q P=>by
 refine h σ H ρ _ _ r.seen q λvs H1 ds s1 is zz=>?_;obtain⟨d,e,ed,f1,f2,q1⟩:=zz;subst ed
 cases is with
 | cons i0 is=>
   cases is with
   | cons i1 is=>
     cases is;refine⟨_,_,rfl,?_⟩;have r1:=(r.stp s1).setIm (i:=i) (Is.flat (TupStay.refl H1) i0 f1);have r2:=r1.setIm (i:=j) (Is.flat (TupStay.refl H1) i1 f2);exact P.nx _ _ H1 _ r2 ((Frm.setIm (i:=i) s1).trans (Frm.setIm (i:=j) 3.0)) q1
theorem z1f{ι κ:Type}{P:GK}{w:GM}{K:Qa}{mg:0.4}{base:Heap}{k:Nat}{X:ι->Cx}{O:κ->Ob}{a b:Expr}{ga:DA}{pos px py pt pt2:Pos}{kt k2:Nat}(n m:Nat){x y:Str}(C:0.6)(ha:A3 K X O [a,b] ga)(hnm:n≠m:=by decide)
 (hN:∀i,(X i).N.Nodup:=by intro i;exact NL 2.5) (hi:1.8:=by intro i;rfl) (hj:∀i,(X i).N[m]? = some y:=by intro i;rfl) (hx:∀i,(X i).env.scope.names.lookup x=some .local:=by intro i;rfl) (hy:∀i,(X i).env.scope.names.lookup y=some .local:=by intro i;rfl)
 (hw:∀i,swappedStores [.Tuple [.Name x px,.Name y py] kt pt] (.Tuple [a,b] k2 pt2) (X i).env=pure (some [x,y]):=by intro i;rfl) (hs:∀i,swapsWithSole [.Tuple [.Name x px,.Name y py] kt pt] (.Tuple [a,b] k2 pt2) pos.line (X i).env=pure false:=by intro i;rfl) :
 S3 K X O (.Assign [.Tuple [.Name x px,.Name y py] kt pt] (.Tuple [a,b] k2 pt2) pos) (parS n m ga) :=
 let ⟨_,p,d⟩:=ha
 ⟨_,λi=>z6a (C.calm i) (hN i) (hi i) (hj i) hnm (hx i) (hy i) (p i) (hw i) (hs i),λj=>z5e (d j)⟩
theorem zif{α:Type}{enc:α->GG}{i h:Nat}{ft:DT}{fe:DE}{ρ:DSt}{Q:List GG->Prop}{as:4.2}{p:α->Bool}{e:α->GG}
 (step:∀a∈as,∀(Pn:Prop) (Py:R->Prop),(p a=false->Pn)->(p a=true->∀r,r.d=e a->Py r)->ft ((QO h none++ρ).set i (some (.im (enc a)))) λt=>if t=true then fe ((QO h none++ρ).set i (some (.im (enc a)))) Py else Pn)
 (hz:as.length<=sizeLine) (q:Q ((as.filter p).map e)):zbd h (gN i) ft fe ρ Q (as.map enc) []:=by
 have key:∀(l:4.2) (acc:2.3),(∀a∈l,a∈as)->acc.length+l.length<=sizeLine->Q (acc++(l.filter p).map e)->zbd h (gN i) ft fe ρ Q (l.map enc) acc:=by
  intro l
  induction l with
  | nil=>intro acc _ _ q;show Q acc;simpa using q
  | cons a l ih=>
    intro acc hs hz q;rw[Ql] at hz;refine step a (hs a Qp) (zbd h (gN i) ft fe ρ Q (l.map enc) acc) (λr=>acc.length<sizeLine/\zbd h (gN i) ft fe ρ Q (l.map enc) (acc ++ [r.d])) (λhp=>?_) (λhp r hr=>⟨by lia,?_⟩)
    .refine ih acc (λb hb=>hs b (Qe _ hb)) 0.0 ?_;rw[Zz,hp] at q;exact q
    .refine ih _ (λb hb=>hs b (Qe _ hb)) (by rw[Qj,Zd];lia) ?_;rw[Zz,hp,NI rfl,QB] at q;rw[hr,QP];exact q
 exact key as [] (λ_ h=>h) (by simpa using hz) (by simpa using q)
end L3
namespace L3
open PySem PySem.Spec
open PyProof.Rows hiding St
open L2 L6
section
variable {K:Qa}{O:Ob}
def KsAre(K:Qa)(H:Hp)(ks:3.3)(ps:List (Int×Str)):Prop:=ps.length=ks.length/\∀(i:Nat) v p,ks[i]? = some v->ps[i]? = some p->∃a,v = .ref a/\SqT K H a [.int p.1,.str p.2]
theorem KsAre.stay(t:TupStay H H')(h:KsAre K H ks ps):KsAre K H' ks ps:=⟨h.1,λi v p e1 e2=>let ⟨a,e,q⟩:=h.2 i v p e1 e2;⟨a,e,SqT.stay t q⟩⟩
theorem KsAre.snoc(h:KsAre K H ks ps)(q:SqT K H a [.int p.1,.str p.2]):KsAre K H (ks ++ [.ref a]) (ps ++ [p]):=by
 refine⟨by rw[Qj,Qj,h.1];rfl,λi v p' e1 e2=>?_⟩
 by_cases hi:i<ks.length
 .rw[QA hi] at e1;rw[QA (by rw[h.1];exact hi)] at e2;exact h.2 i v p' e1 e2
 .rw[QF (Jr hi)] at e1;rw[QF (by rw[h.1];exact Jr hi),h.1] at e2
  cases hk:i-ks.length with
  | zero=>
    rw[hk] at e1 e2;cases e1;cases e2;exact⟨a,rfl,q⟩
  | succ j=>
    rw[hk] at e1;cases e1
theorem z1y{i:Int}(h:Is K F H v (.tuple [.int i,.str x])):∃a,v = .ref a/\SqT K H a [.int i,.str x]:=by
 cases h with
 | tuple q r=>
   cases r with
   | cons r1 r2=>
     cases r2 with
     | cons r2 r3=>
       cases r3;cases r1;cases r2;exact⟨_,rfl,q⟩
theorem zwa(ok:O.Ok)(hφ:φ O):
 ∀(ds:2.3) (xs:3.3) (done:List (Int×Str)) (ks:3.3) (H:Hp),O.P H->IsAll K 3.7 H xs ds->KsAre K H ks done->(∀d∈ds,F [d] λr=>r.d = .tuple [.int (kf d).1,.str (kf d).2]) ->
   (∀ks' H',Stp O H H'->KsAre K H' ks' (done++ds.map kf)->Z ks' H')->zhp (spO K φ 1 F) Z xs ks H
 | [],[],done,ks,H,p,.nil,hk,_,k=>k ks H 3.0 (by simpa using hk)
 | d::ds,x::xs,done,ks,H,p,.cons ix is,hk,hF,k=>by
   refine⟨O,[d],_,ok,hφ,p,rfl,.cons ix .nil,hF d 0.1,λr hr v H' st o=>?_⟩;have iv:=o.is ok p;rw[hr] at iv;obtain⟨a,rfl,q⟩:=z1y iv;refine zwa ok hφ ds xs (done ++ [kf d]) (ks ++ [.ref a]) H' (st.p p) (is.stp st 4.7 4.7) ((hk.stay st.t).snoc q) (λe he=>hF e (Qe _ he)) λks' H2 st2 hk2=>k ks' H2 (st.trans st2) ?_;rw[QP] at hk2;exact hk2
def kfl(kf:GG->Int×Str)(d:GG):Int×List Nat:=((kf d).1,(kf d).2.cps.toList)
def zfc(kf:GG->Int×Str)(ds:2.3):List GG:=ds.mergeSort λp q=>!plt (kfl kf q) (kfl kf p)
theorem zr7{H:Hp}{F:3.4}{xs:3.3}{ds:2.3}(h:IsAll K F H xs ds){ix:Nat->Nat}{n:Nat}(hx:∀i,i<n->ix i<ds.length):IsAll K F H ((Q3 n).map λi=>xs.getD (ix i) .non) ((Q3 n).map λi=>ds.getD (ix i) .none):=by
 have go:∀l:List Nat,(∀i∈l,ix i<ds.length)->IsAll K F H (l.map λi=>xs.getD (ix i) .non) (l.map λi=>ds.getD (ix i) .none):=by
  intro l
  induction l with
  | nil=>intro _;exact .nil
  | cons i l ih=>
    intro hl;refine .cons ?_ (ih λj hj=>hl j (Qe _ hj));have hi:=hl i 0.1;obtain⟨v,hv,iv⟩:=h.get (i:=ix i) (d:=ds[ix i]) (Qb hi);show Is K F H (xs.getD (ix i) .non) (ds.getD (ix i) .none);rw[Qw,Qw,hv,Qb hi];exact iv
 exact go _ λi hi=>hx i (Q8.mp hi)
end
def stl(a:Addr)(o:Obj):HO:=.ext λh=>h.get? a=some o
theorem zpc{k:Key}(h:zeq k v=true):RelV (kV k) v:=by
 rcases za5 h with ⟨i,t,rfl,rfl⟩|⟨x,t,rfl,rfl⟩
 .exact⟨t,rfl⟩
 .exact⟨t,rfl⟩
end L3
namespace L6
open PySem PySem.Spec
open PyProof.Rows hiding St
open L2 L3
section
variable {X:Cx}{pins:0.9}{σ:St}{H:Hp}{s:GJ}
theorem zli:∀{kvs:5.8} {vs:List (Key×GH)} {us:2.8},KV kvs vs->us.length=vs.length->(∀(i:Nat) u,us[i]? = some u->∃p,vs[i]? = some p/\zeq p.1 u=true)->Vals (kvs.map λp=>kV p.1) us
 | [],[],[],_,_,_=>.nil
 | [],[],_::_,_,hl,_=>by simp at hl
 | _::_,_::_,[],_,hl,_=>by simp at hl
 | p::kvs,q::vs,u::us,.cons r t,hl,h=>by
   refine .cons ?_ (zli (vs:=vs) t (by simpa using hl) λi u e=>?_)
   .obtain⟨p',e,hk⟩:=h 0 u rfl;have e':q=p':=by simpa using e
    subst e';show RelV (kV p.1) u;rw[r.1];exact zpc hk
   .obtain⟨p',e,hk⟩:=h (i+1) u (by simpa using e);exact⟨p',by simpa using e,hk⟩
end
end L6
namespace L3
open PySem PySem.Spec
open PyProof.Rows hiding St
open L2 L6
section
variable {K:Qa}{O:Ob}
theorem ztq{n:Nat}(hn:n=ds.length)(od:Ord plt (λi=>(((ds.map kf).getD i (0,ZH)).1,((ds.map kf).getD i (0,ZH)).2.cps.toList)) n ix):
 ((Q3 n).map λi=>ds.getD (ix i) .none)=zfc kf ds:=by
 have hb:∀i,i<n->ix i<ds.length:=λi hi=>by rw[<- hn];exact od.bj.lt i hi
 have up:Up plt (λi=>kfl kf (ds.getD i .none)) ix n:=by
  intro i j hij hj;have:=od.up i j hij hj;have h1:=hb i 0.0;have h2:=hb j hj
  have key:∀m,m<ds.length->kfl kf (ds.getD m .none)=(((ds.map kf).getD m (0,ZH)).1,((ds.map kf).getD m (0,ZH)).2.cps.toList):=λm hm=>by
   simp[kfl,Qw,hm]
  unfold Rk at this ⊢;dsimp only at this ⊢;rw[key _ h1,key _ h2];exact this
 have:=ztd (key:=kfl kf) (g:=λi=>ds.getD i .none) zty up od.bj;rw[this];unfold zfc
 congr 1
 rw[hn];refine Jk λi=>?_
 by_cases hi:i<ds.length
 .simp[hi]
 .rw[QD (by simp;lia),QD 0.0]
end
theorem zuw{α:Type}{enc:α->GG}{h:Nat}{as:4.2}{p:α->Bool}{e:α->GG}
 (step:∀a∈as,∀(Pn:Prop) (Py:R->Prop),(p a=false->Pn)->(p a=true->∀r,r.d=e a->Py r)->g (enc a) (QO h none++ρ) λρ2=>ft ρ2 λt=>if t=true then fe ρ2 Py else Pn)
 (hz:as.length<=sizeLine) (q:Q ((as.filter p).map e)):zbd h g ft fe ρ Q (as.map enc) []:=by
 have key:∀(l:4.2) (acc:2.3),(∀a∈l,a∈as)->acc.length+l.length<=sizeLine->Q (acc++(l.filter p).map e)->zbd h g ft fe ρ Q (l.map enc) acc:=by
  intro l
  induction l with
  | nil=>intro acc _ _ q;show Q acc;simpa using q
  | cons a l ih=>
    intro acc hs hz q;rw[Ql] at hz;refine step a (hs a Qp) (zbd h g ft fe ρ Q (l.map enc) acc) (λr=>acc.length<sizeLine/\zbd h g ft fe ρ Q (l.map enc) (acc ++ [r.d])) (λhp=>?_) (λhp r hr=>⟨by lia,?_⟩)
    .refine ih acc (λb hb=>hs b (Qe _ hb)) 0.0 ?_;rw[Zz,hp] at q;exact q
    .refine ih _ (λb hb=>hs b (Qe _ hb)) (by rw[Qj,Zd];lia) ?_;rw[Zz,hp,NI rfl,QB] at q;rw[hr,QP];exact q
 exact key as [] (λ_ h=>h) (by simpa using hz) (by simpa using q)
def za4(ws:3.5):List 1.4:=ws.mergeSort λa b=>!wlt b a
theorem zml{α β:Type}{r:2.1}{s:β->β->Bool}{f:α->β}{l:4.2}(hr:∀a∈l,∀b∈l,r a b=s (f a) (f b)):(l.mergeSort r).map f=(l.map f).mergeSort s:=List.map_mergeSort hr
theorem zns(hk:∀w∈ws,kf (tS w)=(((w.length:Nat):Int),tx w)):zfc kf 5.1=(za4 ws).map tS:=by
 unfold zfc za4;refine(zml λa ha b hb=>?_).symm;have h1:kfl kf (tS a)=(((a.length:Nat):Int),a):=by unfold kfl;rw[hk a ha];show(_,(tx a).cps.toList)=_;rw[zbu]
 have h2:kfl kf (tS b)=(((b.length:Nat):Int),b):=by unfold kfl;rw[hk b hb];show(_,(tx b).cps.toList)=_;rw[zbu]
 rw[h1,h2,z3u]
def wkey:GG->Int×Str
 | .str x=>((x.length:Nat),x)
 | _=>(0,ZH)
theorem zhh(w:0.7):wkey (tS w)=(((w.length:Nat):Int),tx w):=by
 show((((tx w).length:Nat):Int),tx w)=_;rw[zdy]
theorem ze1(ws:3.5):zfc wkey 5.1=(za4 ws).map tS:=zns λw _=>zhh w
theorem sortW_mem: w∈za4 ws↔w∈ws:=List.mem_mergeSort
theorem zl9: (za4 ws).length=ws.length:=VY ws
theorem zoy(ws:3.5):(za4 ws).Pairwise λa b=>wlt b a=false:=by
 have:=VH (le:=λa b=>!wlt b a) (λa b c h1 h2=>?_) (λa b=>?_) ws
 .exact this.imp λh=>by simpa using h
 .have h1:wlt b a=false:=by simpa using h1
  have h2:wlt c b=false:=by simpa using h2
  show(!wlt c a)=true
  cases h:wlt c a with
  | false=>rfl
  | true=>
    rcases z3t c b a h with z|z
    .rw[z] at h2;cases h2
    .rw[z] at h1;cases h1
 .show(!wlt b a || !wlt a b)=true;cases h1:wlt b a <;> cases h2:wlt a b <;> try rfl
  have:=zjg _ _ _ h1 h2;rw[zb1] at this;cases this
theorem zzp(h:ws.Nodup):(za4 ws).Nodup:=(JF ws _).nodup_iff.mpr h
theorem zgo(h:ws.Nodup):(za4 ws).Pairwise λa b=>wlt a b=true:=by
 have h1:=zoy ws;have h2:(za4 ws).Pairwise λa b=>a≠b:=zzp h;refine(h1.and h2).imp λ{a b} h=>?_
 cases z:wlt a b with
 | true=>rfl
 | false=>exact absurd (zkh a b z h.1) h.2
abbrev W:=List Nat
def CS(a b w:W):Prop:=a.Sublist w/\b.Sublist w
def Mn(a b w:W):Prop:=CS a b w/\∀i,i<w.length->¬CS a b (w.eraseIdx i)
theorem CS.swap(h:CS a b w):CS b a w:=⟨h.2,h.1⟩
theorem mn_swap: Mn a b w↔Mn b a w:=⟨λh=>⟨h.1.swap,λi hi z=>h.2 i hi z.swap⟩,λh=>⟨h.1.swap,λi hi z=>h.2 i hi z.swap⟩⟩
theorem zqu:∀{b w:W},b.Sublist w->b≠w->∃i,i<w.length/\b.Sublist (w.eraseIdx i)
 | _,_,.slnil,h=>absurd rfl h
 | b,x::w,.cons _ s,_=>⟨0,by simp,s⟩
 | x::b,_::w,.cons₂ _ s,h=>by
   obtain⟨i,hi,z⟩:=zqu s (λe=>h (by rw[e]));exact⟨i+1,by simpa using hi,z.cons₂ x⟩
theorem mn_nil: Mn [] b w↔w=b:=by
 constructor
 .rintro⟨⟨_,h⟩,z⟩
  by_cases e:b=w
  .exact e.symm
  .obtain⟨i,hi,h'⟩:=zqu h e;exact absurd ⟨Jd _,h'⟩ (z i hi)
 .rintro rfl;refine⟨⟨Jd _,.refl _⟩,λi hi zz=>?_⟩;obtain⟨_,z⟩:=zz;have:=z.length_le;rw[Yj,NI hi] at this;lia
theorem zfk{c d:Nat}(h:c≠d):(c::b).Sublist (d::u)↔(c::b).Sublist u:=by
 constructor
 .intro s
  cases s with
  | cons _ s=>exact s
  | cons_cons _ s=>exact absurd rfl h
 .exact λs=>s.cons d
theorem z4w{c:Nat}(hb:∀x b',b=x::b'->x≠c):CS (c::a) b (c::u)↔CS a b u:=by
 constructor
 .rintro⟨h1,h2⟩;refine⟨ZI.mp h1,?_⟩
  cases b with
  | nil=>exact Jd _
  | cons x b'=>exact(zfk (hb x b' rfl)).mp h2
 .rintro⟨h1,h2⟩;exact⟨ZI.mpr h1,h2.cons c⟩
theorem zie{x:Nat}(h:Mn a b (x::w)):(∃a',a=x::a')\/∃b',b=x::b':=by
 have z:=h.2 0 0.1;rw[JL] at z
 cases a with
 | nil=>
   cases b with
   | nil=>exact absurd ⟨Jd _,Jd _⟩ z
   | cons y b'=>
     by_cases e:y=x
     .exact .inr ⟨b',by rw[e]⟩
     .exact absurd ⟨Jd _,(zfk e).mp h.1.2⟩ z
 | cons c a'=>
   by_cases e:c=x
   .exact .inl ⟨a',by rw[e]⟩
   .have s1:=(zfk e).mp h.1.1
    cases b with
    | nil=>exact absurd ⟨s1,Jd _⟩ z
    | cons y b'=>
      by_cases e':y=x
      .exact .inr ⟨b',by rw[e']⟩
      .exact absurd ⟨s1,(zfk e').mp h.1.2⟩ z
theorem mn_same{c:Nat}: Mn (c::a) (c::b) w↔∃u,w=c::u/\Mn a b u:=by
 have up:∀u,CS (c::a) (c::b) (c::u)↔CS a b u:=λu=>⟨λh=>⟨ZI.mp h.1,ZI.mp h.2⟩,λh=>⟨ZI.mpr h.1,ZI.mpr h.2⟩⟩;constructor
 .intro h
  cases w with
  | nil=>exact absurd h.1.1.length_le 0.1
  | cons x u=>
    have e:x=c:=by
     rcases zie h with ⟨a',e⟩|⟨b',e⟩ <;> (injection e with e _;exact e.symm)
    subst e;refine⟨u,rfl,(up u).mp h.1,λi hi z=>h.2 (i+1) 5.2 ?_⟩;rw[Zy];exact(up _).mpr z
 .rintro⟨u,rfl,h⟩;refine⟨(up u).mpr h.1,λi hi z=>?_⟩
  cases i with
  | succ i=>
    rw[Zy] at z;exact h.2 i 5.2 ((up _).mp z)
  | zero=>
    rw[JL] at z
    -- the first c in u may go
    have key:∀{a u:W},(c::a).Sublist u->∃i,i<u.length/\(∀j,j<i->u[j]?≠some c)/\u[i]? = some c:=by
     intro a u s
     induction u with
     | nil=>exact absurd s.length_le 0.1
     | cons x u ih=>
       by_cases e:x=c
       .exact⟨0,by simp,λj hj=>absurd hj 0.0,by simp[e]⟩
       .obtain⟨i,h1,h2,h3⟩:=ih ((zfk (Z8 e)).mp s);refine⟨i+1,by simpa using h1,λj hj=>?_,by simpa using h3⟩
        cases j with
        | zero=>simpa using e
        | succ j=>simpa using h2 j 0.0
    have rem:∀{a u:W} {i:Nat},(c::a).Sublist u->(∀j,j<i->u[j]?≠some c)->u[i]? = some c->a.Sublist (u.eraseIdx i):=by
     intro a u
     induction u with
     | nil=>intro i s;exact absurd s.length_le 0.1
     | cons x u ih=>
       intro i s h2 h3
       cases i with
       | zero=>
         have e:x=c:=by simpa using h3
         subst e;exact ZI.mp s
       | succ i=>
         have e:x≠c:=by simpa using h2 0 0.0
         rw[Zy];exact(ih ((zfk (Z8 e)).mp s) (λj hj=>by simpa using h2 (j+1) 0.0) (by simpa using h3)).cons x
    obtain⟨i,h1,h2,h3⟩:=key z.1;exact h.2 i h1 ⟨rem z.1 h2 h3,rem z.2 h2 h3⟩
theorem zhd{c d:Nat}(ne:c≠d):Mn (c::a) (d::b) (c::u)↔Mn a (d::b) u/\¬CS (c::a) (d::b) u:=by
 have up:∀u,CS (c::a) (d::b) (c::u)↔CS a (d::b) u:=λu=>z4w λx b' e=>by injection e with e _;rw[<- e];exact Z8 ne
 constructor
 .intro h;refine⟨⟨(up u).mp h.1,λi hi z=>h.2 (i+1) 5.2 ?_⟩,?_⟩
  .rw[Zy];exact(up _).mpr z
  .have:=h.2 0 0.1;rwa [JL] at this
 .rintro⟨h,n⟩;refine⟨(up u).mpr h.1,λi hi z=>?_⟩
  cases i with
  | zero=>rw[JL] at z;exact n z
  | succ i=>
    rw[Zy] at z;exact h.2 i 5.2 ((up _).mp z)
theorem zne{c d:Nat}(ne:c≠d):Mn (c::a) (d::b) (d::u)↔Mn (c::a) b u/\¬CS (c::a) (d::b) u:=by
 rw[mn_swap,zhd (Z8 ne),mn_swap (a:=b)];exact⟨λh=>⟨h.1,λz=>h.2 z.swap⟩,λh=>⟨h.1,λz=>h.2 z.swap⟩⟩
theorem z4s{c d:Nat}(ne:c≠d):Mn (c::a) (d::b) w↔(∃u,w=c::u/\Mn a (d::b) u/\¬CS (c::a) (d::b) u)\/∃u,w=d::u/\Mn (c::a) b u/\¬CS (c::a) (d::b) u:=by
 constructor
 .intro h
  cases w with
  | nil=>exact absurd h.1.1.length_le 0.1
  | cons x u=>
    rcases zie h with ⟨a',e⟩|⟨b',e⟩
    .injection e with e _;subst e;exact .inl ⟨u,rfl,(zhd ne).mp h⟩
    .injection e with e _;subst e;exact .inr ⟨u,rfl,(zne ne).mp h⟩
 .rintro(⟨u,rfl,h⟩|⟨u,rfl,h⟩)
  .exact(zhd ne).mpr h
  .exact(zne ne).mpr h
def wnf(l:List W):List W:=l.foldl (λk w=>if k.contains w.tail then k else if k.contains w then k else k ++ [w]) []
theorem zxb{good:W->Bool}(so:s.Pairwise λx y=>wlt x y=true)(ne:∀w∈s,w≠[])(hg:∀w∈s,good w=false↔(w.tail∈s/\good w.tail=true)):
 ∀(rest pre:List W),s=pre++rest->rest.foldl (λk w=>if k.contains w.tail then k else if k.contains w then k else k ++ [w]) (pre.filter good)=s.filter good
 | [],pre,e=>by rw[e,QR];rfl
 | w::rest,pre,e=>by
   have hw:w∈s:=by rw[e];simp
   have tw:w.tail∈s->w.tail∈pre:=λh=>by
    rw[e] at h so;rcases Qq.mp h with h|h
    .exact h
    .exfalso
     have le:w.tail.length<w.length:=by
      cases w with
      | nil=>exact absurd rfl (ne [] hw)
      | cons x w=>simp
     have so2:=(Jy.mp so).2.1;rcases Qz.mp h with h|h
     .rw[h] at le;lia
     .have:=(Z1.mp so2).1 _ h;rcases wlt_iff.mp this with z|z <;> lia
   have nw:w ∉ pre:=λh=>by
    rw[e] at so;have:=(Jy.mp so).2.2 w h w 0.1;rw[zb1] at this;cases this
   have ih:=zxb so ne hg rest (pre ++ [w]) (by rw[e];simp);rw[J9];rw[Y3] at ih
   cases h:good w with
   | false=>
     obtain⟨h1,h2⟩:=(hg w hw).mp h;rw[NI (by simpa using ⟨tw h1,h2⟩)];rw[List.filter_cons_of_neg (by rw[h];decide)] at ih;simpa using ih
   | true=>
     rw[NJ,NJ]
     .rw[List.filter_cons_of_pos h] at ih;simpa using ih
     .intro z;have z:w∈pre.filter good:=by simpa using z
      exact nw (QI.mp z).1
     .intro z;have z:w.tail∈pre.filter good:=by simpa using z
      obtain⟨z1,z2⟩:=QI.mp z;have:good w=false:=(hg w hw).mpr ⟨by rw[e];exact QE _ z1,z2⟩;rw[h] at this;cases this
theorem zsz{good:W->Bool}(so:s.Pairwise λx y=>wlt x y=true)(ne:∀w∈s,w≠[])(hg:∀w∈s,good w=false↔(w.tail∈s/\good w.tail=true)):wnf s=s.filter good:=zxb so ne hg s [] rfl
open Classical in
theorem zga:∀{w a b:W},Mn a b w->w.length<=a.length+b.length/\∀c∈w,c∈a\/c∈b
 | [],a,b,_=>⟨by simp,λc hc=>by cases hc⟩
 | x::u,a,b,h=>by
   have go:∀{a b:W},Mn (x::a) b (x::u)->(x::u).length<=(x::a).length+b.length/\∀c∈x::u,c∈x::a\/c∈b:=λ{a b} h=>by
    cases b with
    | nil=>
      rw[mn_swap,mn_nil] at h;rw[h];exact⟨by simp,λc hc=>.inl hc⟩
    | cons y b'=>
      by_cases e:x=y
      .subst e;obtain⟨u',e',h'⟩:=mn_same.mp h;injection e' with _ e';subst e';obtain⟨h1,h2⟩:=zga h';refine⟨by simp only[Ql];lia,λc hc=>?_⟩;rcases Qz.mp hc with rfl|hc
       .exact .inl 0.1
       .rcases h2 c hc with z|z
        .exact .inl (Qe _ z)
        .exact .inr (Qe _ z)
      .obtain⟨h1,h2⟩:=zga ((zhd e).mp h).1;refine⟨by simp only[Ql] at h1 ⊢;lia,λc hc=>?_⟩;rcases Qz.mp hc with rfl|hc
       .exact .inl 0.1
       .rcases h2 c hc with z|z
        .exact .inl (Qe _ z)
        .exact .inr z
   rcases zie h with ⟨a',rfl⟩|⟨b',rfl⟩
   .exact go h
   .obtain⟨h1,h2⟩:=go (mn_swap.mp h);exact⟨by lia,λc hc=>(h2 c hc).symm⟩
structure LstS(S:List Nat->Prop)(zs:3.5):Prop where
 asc:zs.Pairwise λa b=>wlt a b=true
 mem:∀w,w∈zs↔S w/\∀v,S v->v.Sublist w->v=w
theorem LstS.uniq(h:LstS S a)(h':LstS S b):a=b:=zly h.asc h'.asc λx=>(h.mem x).trans (h'.mem x).symm
theorem LstS.congr(h:LstS S a)(e:∀w,S w↔T w):LstS T a:=⟨h.asc,λw=>(h.mem w).trans ⟨λ⟨x,y⟩=>⟨(e w).mp x,λv hv=>y v ((e v).mpr hv)⟩,λ⟨x,y⟩=>⟨(e w).mpr x,λv hv=>y v ((e v).mp hv)⟩⟩⟩
open Classical in
theorem zwx{S:List Nat->Prop}(up:∀v w,S v->v.Sublist w->S w)(ne:¬S []){cs:0.7}(hc:∀c u,S (c::u)->¬S u->c∈cs){zs:Nat->List 1.4}(hz:∀c∈cs,LstS (λu=>S (c::u)) (zs c)){s:3.5}(so:s.Pairwise λx y=>wlt x y=true)(hs:∀w,w∈s↔∃c∈cs,∃u∈zs c,w=c::u):LstS S (wnf s):=by
 let good:List Nat->Bool:=λw=>decide (∀v,S v->v.Sublist w->v=w)
 have gd:∀w,good w=true↔∀v,S v->v.Sublist w->v=w:=λw=>NS
 have sS:∀w,w∈s->S w:=λw hw=>by
  obtain⟨c,h1,u,h2,rfl⟩:=(hs w).mp hw;exact(((hz c h1).mem u).mp h2).1
 have inS:∀c u,S (c::u)->(∀v,S v->v.Sublist (c::u)->v=c::u)->c::u∈s:=λc u h1 h2=>by
  have nu:¬S u:=λz=>by
   have:=NO Jo (h2 u z (Zk c u));simp at this
  have hcc:=hc c u h1 nu;refine(hs _).mpr ⟨c,hcc,u,((hz c hcc).mem u).mpr ⟨h1,λv hv hl=>?_⟩,rfl⟩;have:=h2 (c::v) hv (hl.cons_cons c);injection this
 have hg:∀w∈s,good w=false↔(w.tail∈s/\good w.tail=true):=λw hw=>by
  obtain⟨c,h1,u,h2,rfl⟩:=(hs w).mp hw;obtain⟨m1,m2⟩:=((hz c h1).mem u).mp h2;show good (c::u)=false↔(u∈s/\good u=true);constructor
  .intro h;have:¬∀v,S v->v.Sublist (c::u)->v=c::u:=λz=>by rw[(gd _).mpr z] at h;cases h
   have:∃v,S v/\v.Sublist (c::u)/\v≠c::u:=Zc λz=>this λv a b=>Zc λe=>z ⟨v,a,b,e⟩;obtain⟨v,hv,hl,hne⟩:=this
   have vu:v.Sublist u:=by
    cases hl with
    | cons _ z=>exact z
    | cons_cons _ z=>exact absurd (by rw[m2 _ hv z]) hne
   have su:=up v u hv vu;have gu:∀x,S x->x.Sublist u->x=u:=λx hx hl=>m2 x (up x (c::x) hx (Zk c x)) hl;refine⟨?_,(gd u).mpr gu⟩
   cases u with
   | nil=>exact absurd su ne
   | cons d u'=>exact inS d u' su gu
  .rintro⟨a,b⟩
   cases e:good (c::u) with
   | false=>rfl
   | true=>
     have:=NO Jo ((gd _).mp e u (sS u a) (Zk c u));simp at this
 have ee:=zsz so (λw hw=>by obtain⟨c,_,u,_,rfl⟩:=(hs w).mp hw;exact List.cons_ne_nil _ _) hg;rw[ee];refine⟨so.sublist List.filter_sublist,λw=>?_⟩;rw[QI,gd];constructor
 .exact λ⟨a,b⟩=>⟨sS w a,b⟩
 .intro⟨a,b⟩;refine⟨?_,b⟩
  cases w with
  | nil=>exact absurd a ne
  | cons c u=>exact inS c u a b
def upS(A:3.5)(w:0.7):Prop:=∃a∈A,a.Sublist w
theorem zd3(h:upS A v)(s:v.Sublist w):upS A w:=let ⟨a,ha,d⟩:=h;⟨a,ha,d.trans s⟩
def shtB(A:3.5)(c:Nat):List 1.4:=(A.filter λw=>decide (w.take 1 = [c])).map List.tail
def kptB(A:3.5)(c:Nat):List 1.4:=A.filter λw=>!(shtB A c).any λv=>under v w
def behB(A:3.5)(c:Nat):List 1.4:=za4 (shtB A c++kptB A c)
theorem mem_sht{c:Nat}: u∈shtB A c↔c::u∈A:=by
 unfold shtB;rw[Qo];constructor
 .rintro⟨w,hw,rfl⟩;obtain⟨h1,h2⟩:=QI.mp hw;rw[NN] at h2
  cases w with
  | nil=>cases h2
  | cons d w=>
    have:d=c:=by simpa using h2
    subst this;exact h1
 .intro h;exact⟨c::u,QI.mpr ⟨h,by simp⟩,rfl⟩
theorem ze9{c:Nat}: upS (behB A c) w↔upS A (c::w):=by
 have hm:∀x,x∈behB A c↔x∈shtB A c\/x∈kptB A c:=λx=>by unfold behB;rw[sortW_mem,Qq]
 have over:∀{a x:0.7},a∈A->a.Sublist x->∃y∈behB A c,y.Sublist x:=λ{a x} ha hl=>by
  cases h:(shtB A c).any λv=>under v a with
  | true=>
    obtain⟨v,hv,d⟩:=Z5.mp h;exact⟨v,(hm v).mpr (.inl hv),(under_iff.mp d).trans hl⟩
  | false=>exact⟨a,(hm a).mpr (.inr (QI.mpr ⟨ha,by rw[h];rfl⟩)),hl⟩
 constructor
 .rintro⟨a,ha,hl⟩;rcases(hm a).mp ha with z|z
  .exact⟨c::a,mem_sht.mp z,hl.cons_cons c⟩
  .exact⟨a,(QI.mp z).1,hl.trans (Zk c w)⟩
 .rintro⟨a,ha,hl⟩
  cases hl with
  | cons _ z=>exact over ha z
  | @cons_cons l _ _ z=>exact⟨l,(hm l).mpr (.inl (mem_sht.mpr ha)),z⟩
def zch(A:3.5):Prop:=∀v∈A,∀w∈A,w.Sublist v->w=v
theorem znv(h:zch A)(c:Nat):zch (behB A c):=by
 have hm:∀x,x∈behB A c↔x∈shtB A c\/x∈kptB A c:=λx=>by unfold behB;rw[sortW_mem,Qq]
 intro v hv w hw s;rcases(hm v).mp hv with a|a <;> rcases(hm w).mp hw with b|b
 .have:=h _ (mem_sht.mp a) _ (mem_sht.mp b) (s.cons_cons c);injection this
 .have:=h _ (mem_sht.mp a) _ (QI.mp b).1 (s.trans (Zk c v));have e:=NO Jo this;have:=s.length_le;simp at e;lia
 .have hk:=(QI.mp a).2;have:(shtB A c).any (λx=>under x v)=true:=Z5.mpr ⟨w,b,under_iff.mpr s⟩;rw[this] at hk;cases hk
 .exact h _ (QI.mp a).1 _ (QI.mp b).1 s
def MetS(A B:3.5)(w:0.7):Prop:=upS A w/\upS B w
theorem zub{A B:3.5}(hA:[] ∉ A)(hB:[] ∉ B){cs:0.7}(hc:∀c,c∈cs↔∃u,c::u∈A++B){zs:Nat->List 1.4}(hz:∀c∈cs,LstS (MetS (behB A c) (behB B c)) (zs c)){s:3.5}(so:s.Pairwise λx y=>wlt x y=true)(hs:∀w,w∈s↔∃c∈cs,∃u∈zs c,w=c::u)(hab:A≠[]\/B≠[]):LstS (MetS A B) (wnf s):=by
 refine zwx (cs:=cs) (zs:=zs) (λv w h d=>⟨zd3 h.1 d,zd3 h.2 d⟩) (λh=>?_) (λc u h nu=>?_) (λc hcc=>(hz c hcc).congr λw=>?_) so hs
 .obtain⟨a,ha,d⟩:=h.1;cases d;exact hA ha
 .obtain⟨a,ha,da⟩:=h.1;obtain⟨b,hb,db⟩:=h.2;rw[hc]
  cases da with
  | @cons_cons l _ _ z=>exact⟨l,QE _ ha⟩
  | cons _ z=>
    cases db with
    | @cons_cons l _ _ z=>exact⟨l,QG _ hb⟩
    | cons _ z2=>exact absurd ⟨⟨a,ha,z⟩,⟨b,hb,z2⟩⟩ nu
 .unfold MetS;rw[ze9,ze9]
def zdn:List GG->2.7->Prop:=λds Q=>∃w:List Nat,ds = [tS w]/\w.length<=100/\∀r:R,r.d = .tuple [.int (w.length:Nat),tS w]->Q r
def SubW(ls w:0.7):Prop:=∀c∈w,c∈ls
def zw3:List GG->2.7->Prop:=λds Q=>∃(ls:0.7) (n:Nat),ds = [.str (tx ls),.int n]/\LowW ls/\ls≠[]/\ls.length<=26/\n<=50/\∀w:List Nat,SubW ls w->w.length<=n->Q (.o (.str (tx w)))
theorem zk0(w:0.7)(v:Nat):(tx w).cps.getD v 0=w.getD v 0:=by
 simp[tx,YT,Zo]
 split
 .rename_i h
  rw[Qb h];rfl
 .rename_i h
  rw[QD 0.0];rfl
theorem zm2(n s:Nat)(h:s<=n):fromIndex n (s:Int)=s:=by
 unfold fromIndex
 first|lia|(simp;lia)|(split <;> lia)
def zg7(c:Nat)(more:0.7)(start:Nat):Int:=match zbq c more start with|none=>-1|some p=>(p:Int)
theorem z1l{more:0.7}{c start:Nat}(h:start<=more.length):GB (tx more) (sg c) (start:Int)=zg7 c more start:=by
 unfold zg7;have hl:(tx more).length=more.length:=zdy more;rcases StrLaws.find3_spec (tx more) c (start:Int) with ⟨h1,h2⟩|⟨k,h1,h2,h3,h4,h5⟩
 .rw[show sg c=⟨#[c]⟩ from rfl,h1]
  cases hf:zbq c more start with
  | none=>rfl
  | some p=>
    obtain⟨a,b,_⟩:=zeh hf;obtain⟨b1,b2⟩:=Qn.mp b;have:=h2 p (by rw[hl,zm2 _ _ h];exact a) (by rw[hl];exact b1);rw[zk0,Zo,b] at this;exact absurd rfl this
 .rw[show sg c=⟨#[c]⟩ from rfl,h1];rw[hl,zm2 _ _ h] at h2 h5;rw[hl] at h3
  have hk:more[k]? = some c:=by
   rw[zk0,Zo,Qb h3] at h4;rw[Qb h3];exact NO some h4
  cases hf:zbq c more start with
  | none=>exact absurd hk (zl2 hf k h2)
  | some p=>
    obtain⟨a,b,d⟩:=zeh hf
    have e:k=p:=by
     rcases UQ k p with z|z|z
     .exact absurd hk (d k h2 z)
     .exact z
     .have:=h5 p a z;rw[zk0,Zo,b] at this;exact absurd rfl this
    rw[e]
def zq7:List GG->2.7->Prop:=λds Q=>∃less more:List Nat,ds = [tS less,tS more]/\Sml less/\Sml more/\((plc less more 0 []=none->Q (.o .none))/\∀ps:List Nat,plc less more 0 []=some ps->Q (.n (ps.map λp=>.int (p:Nat))))
def zdp:List GG->2.7->Prop:=λds Q=>∃less more:List Nat,ds = [tS less,tS more]/\Sml less/\Sml more/\Q (.o (.bool (under less more)))
abbrev zrl:=zdp
end L3
namespace TB
open PySem PySem.SetTable
def cc:Nat->Nat
 | 0=>0
 | n+1=>5 * cc n+1
def gg(n x:Nat):Nat:=5 ^ n * x+cc n
theorem zm9:∀n,4 * cc n+1=5 ^ n
 | 0=>rfl
 | n+1=>by rw[cc,Jw,<- zm9 n];lia
theorem zxa(a b:Nat):cc (a+b)=5 ^ a * cc b+cc a:=by
 induction a with
 | zero=>simp[cc]
 | succ a ih=>
   rw[show a+1+b=(a+b)+1 by lia,cc,ih,cc,Jw,JC,U7];lia
theorem zwt(a b x:Nat):gg (a+b) x=gg a (gg b x):=by
 unfold gg;rw[zxa,Nat.pow_add,JC,Jx,Yz]
theorem zvd:∀m,∃q,cc (2 ^ m)=2 ^ m * (2 * q+1)
 | 0=>⟨0,rfl⟩
 | m+1=>by
   obtain⟨q,e⟩:=zvd m
   have h1:cc (2 ^ (m+1))=cc (2 ^ m) * (4 * cc (2 ^ m)+2):=by
    rw[show 2 ^ (m+1)=2 ^ m+2 ^ m by rw[Jw];lia,zxa,<- zm9];have:(4 * cc (2 ^ m)+1) * cc (2 ^ m)=cc (2 ^ m) * (4 * cc (2 ^ m)+1):=UR _ _;rw[this,JC,JC];lia
   refine⟨q+(2 * q+1) * cc (2 ^ m),?_⟩;rw[h1,show 4 * cc (2 ^ m)+2=2 * (2 * cc (2 ^ m)+1) by lia,<- Jx];generalize hc:cc (2 ^ m)=c at *
   have h2:2 * (q+(2 * q+1) * c)+1=(2 * q+1) * (2 * c+1):=by
    rw[JC (2 * q+1),Yc (2 * q+1) 2 c];lia
   rw[h2,<- Jx,Jw,U7 (2 ^ m) 2,<- e]
theorem come:∀(m x y:Nat),∃n,n<2 ^ m/\gg n x % 2 ^ m=y % 2 ^ m
 | 0,x,y=>⟨0,by simp,by simp[Nat.mod_one]⟩
 | m+1,x,y=>by
   obtain⟨n,hn,e⟩:=come m x y;have h2:2 ^ (m+1)=2 * 2 ^ m:=by rw[Jw];lia
   by_cases he:gg n x % 2 ^ (m+1)=y % 2 ^ (m+1)
   .exact⟨n,by lia,he⟩
   .refine⟨2 ^ m+n,by lia,?_⟩;rw[zwt];obtain⟨q,hq⟩:=zvd m
    have h3:gg (2 ^ m) (gg n x)=gg n x+2 ^ m+2 ^ (m+1) * (2 * (2 * q+1) * gg n x+q):=by
     unfold gg;rw[<- zm9,hq,h2];generalize 5 ^ n * x+cc n=z;generalize 2 ^ m=M;rw[JC 2 (2 * q) 1,JC M (2 * q) 1,JC (2 * M)]
     have a1:(4 * (M * (2 * q)+M * 1)+1) * z=8 * (M * q * z)+4 * (M * z)+z:=by
      rw[Y9,Nat.one_mul,Jx,Y9,Nat.mul_one,JC];have:M * (2 * q) * z=2 * (M * q * z):=by rw[Yc,Jx]
      rw[this];lia
     have a2:2 * M * ((2 * (2 * q)+2 * 1) * z)=8 * (M * q * z)+4 * (M * z):=by
      rw[Y9,JC]
      have b1:2 * M * (2 * (2 * q) * z)=8 * (M * q * z):=by
       rw[show 2 * (2 * q)=4 * q by lia,Jx 4,Yc (2 * M),Jx 2 M,<- Jx M q z];lia
      have b2:2 * M * (2 * 1 * z)=4 * (M * z):=by
       rw[Nat.mul_one,Yc (2 * M),Jx 2 M];lia
      rw[b1,b2]
     have a3:M * (2 * q)=2 * (M * q):=Yc ..;have a4:2 * M * q=2 * (M * q):=Jx ..;rw[a1,a2,a3,a4];lia
    rw[h3,Nat.add_mul_mod_self_left];generalize gg n x=z at *;have hM:0<2 ^ m:=Nat.pow_pos 0.2;rw[h2] at he ⊢;generalize 2 ^ m=M at *;have ez:=Gp (x:=z) (a:=M) (b:=2);have ey:=Gp (x:=y) (a:=M) (b:=2);have ew:=Gp (x:=z+M) (a:=M) (b:=2);rw[Nat.add_mod_right,Nat.add_div_right _ hM] at ew;rw[UR 2 M] at he ⊢;have c1:z / M % 2≠y / M % 2:=λc=>he (by rw[ez,ey,e,c]);rw[ew,ey,e];have c2:(z / M).succ % 2=y / M % 2:=by lia
    rw[c2]
end TB
namespace TB
open PySem PySem.SetTable
def T0(mask:Nat):GY:={ mask,place:=#[],dummies:=#[],finger:=0,led:=false,moves:=0,plain:=false }
def sq(mask:Nat)(h:Int):Nat->Probe
 | 0=>(T0 mask).probeStart h
 | n+1=>(T0 mask).advance (sq mask h n)
def lp(mask:Nat)(h:Int):Nat->Nat×Nat
 | 0=>(bits h % (mask+1),bits h)
 | k+1=>leap mask (lp mask h k).1 (lp mask h k).2
def rs(mask:Nat)(q:Nat×Nat):Probe:={ j:=q.1,more:=runEnd mask q.1-q.1,i:=q.1,perturb:=q.2,dummy:=none }
theorem z2y(mask i:Nat):runEnd mask i-i<=9:=by
 unfold runEnd
 split <;> lia
theorem zsa{mask:Nat}{h:Int}{n:Nat}(e:sq mask h n=rs mask q):∀d,d<=runEnd mask q.1-q.1->sq mask h (n+d) = { rs mask q with j:=q.1+d,more:=runEnd mask q.1-q.1-d }
 | 0,_=>by rw[YH,e];rfl
 | d+1,hd=>by
   rw[<- Yz];show(T0 mask).advance (sq mask h (n+d))=_;rw[zsa e d 0.0];unfold YU;rw[NI (by show 0<runEnd mask q.1-q.1-d;lia)];show({ rs mask q with j:=q.1+d+1,more:=runEnd mask q.1-q.1-d-1 }:Probe)=_;rw[show runEnd mask q.1-q.1-d-1=runEnd mask q.1-q.1-(d+1) by lia];rfl
theorem zq1{mask:Nat}{h:Int}{n:Nat}(e:sq mask h n=rs mask q):sq mask h (n+(runEnd mask q.1-q.1)+1)=rs mask (leap mask q.1 q.2):=by
 show(T0 mask).advance (sq mask h (n+(runEnd mask q.1-q.1)))=_;rw[zsa e _ (Qg _)];unfold YU;rw[NJ (by show ¬0<runEnd mask q.1-q.1-(runEnd mask q.1-q.1);lia)];rfl
theorem zun(mask:Nat)(h:Int):∀k,∃n,n<=10 * k/\sq mask h n=rs mask (lp mask h k)
 | 0=>⟨0,Qg _,rfl⟩
 | k+1=>by
   obtain⟨n,hn,e⟩:=zun mask h k;have:=z2y mask (lp mask h k).1;exact⟨_,by lia,zq1 e⟩
theorem z4r(h:Int):bits h<2 ^ 64:=by
 unfold bits;lia
theorem zv3(mask:Nat)(h:Int):∀k,(lp mask h k).2=bits h / 32 ^ k
 | 0=>by simp[lp]
 | k+1=>by
   show(lp mask h k).2 / 32=_;rw[zv3 mask h k,VN,Jw]
theorem z1o(mask:Nat)(h:Int){k:Nat}(hk:12<=k):(lp mask h k).2 / 32=0:=by
 rw[zv3,VN,<- Jw];refine Nat.div_eq_of_lt (QM (z4r h) ?_);exact Q1 (by decide:2 ^ 64<=32 ^ 13) (ZC 0.2 0.0)
theorem zte(mask:Nat)(h:Int):∀n,(lp mask h (12+n)).1 % (mask+1)=gg n (lp mask h 12).1 % (mask+1)
 | 0=>by simp[gg,cc]
 | n+1=>by
   show((lp mask h (12+n)).1 * 5+1+(lp mask h (12+n)).2 / 32) % (mask+1) % (mask+1)=_;rw[z1o mask h 0.0,Nat.mod_mod,YH];have ih:=zte mask h n
   have e:gg (n+1) (lp mask h 12).1=gg n (lp mask h 12).1 * 5+1:=by
    rw[Nat.add_comm n 1,zwt];show 5 ^ 1 * _+(5 * 0+1)=_;lia
   rw[e,Nat.add_mod,Nat.mul_mod,ih,<- Nat.mul_mod,<- Nat.add_mod]
theorem zs7(mask:Nat)(h:Int):∀k,(lp mask h k).1<mask+1
 | 0=>Vz _ (Nat.succ_pos _)
 | k+1=>Vz _ (Nat.succ_pos _)
theorem yap{mask m:Nat}(hm:mask+1=2 ^ m)(h:Int){j:Nat}(hj:j<=mask):∃n,n<10 * turns mask/\(sq mask h n).j=j:=by
 obtain⟨n,hn,e⟩:=come m (lp mask h 12).1 j;rw[<- hm] at e hn;have e2:=zte mask h n;rw[e,YV (zs7 ..),YV (US hj)] at e2;obtain⟨k,hk,ek⟩:=zun mask h (12+n);refine⟨k,?_,?_⟩
 .unfold turns;lia
 .rw[ek];exact e2
theorem zr4(mask:Nat)(h:Int):∀n,(sq mask h n).dummy=none
 | 0=>rfl
 | n+1=>by
   show((T0 mask).advance (sq mask h n)).dummy=none;unfold YU
   split
   .exact zr4 mask h n
   .exact zr4 mask h n
theorem z5j{p:Nat->Prop}(n:Nat)(hp:p n):∃m,m<=n/\p m/\∀k,k<m->¬p k:=by
 induction n using Nat.strongRecOn with
 | ind n ih=>
   by_cases h:∃k,k<n/\p k
   .obtain⟨k,hk,pk⟩:=h;obtain⟨m,h1,h2,h3⟩:=ih k hk pk;exact⟨m,by lia,h2,h3⟩
   .exact⟨n,Qg _,hp,λk hk z=>h ⟨k,hk,z⟩⟩
def Inc(xs:Array Nat):Prop:=∀i k,i<k->k<xs.size->xs.getD i 0<xs.getD k 0
theorem zyf{xs:Array Nat}{i:Nat}(h:i<xs.size)(a b:Nat):xs.getD i a=xs.getD i b:=by
 simp[YT,h]
def zkq(xs:Array Nat)(j r:Nat):Prop:=r<=xs.size/\(∀i,i<r->xs.getD i 0<j)/\∀i,r<=i->i<xs.size->j<=xs.getD i 0
theorem zih(hI:Inc xs)(j:Nat):∀fuel lo hi,hi-lo<=fuel->lo<=hi->hi<=xs.size->(∀i,i<lo->xs.getD i 0<j)->(∀i,hi<=i->i<xs.size->j<=xs.getD i 0)->zkq xs j (below.go xs j fuel lo hi)
 | 0,lo,hi,h1,h2,h3,h4,h5=>by
   obtain rfl:lo=hi:=by lia
   exact⟨h3,h4,h5⟩
 | fuel+1,lo,hi,h1,h2,h3,h4,h5=>by
   unfold below.go
   split
   .rename_i hlt
    have hm:(lo+hi) / 2<xs.size:=by lia
    show zkq xs j (if xs.getD ((lo+hi) / 2) j<j then below.go xs j fuel ((lo+hi) / 2+1) hi else below.go xs j fuel lo ((lo+hi) / 2));rw[zyf hm j 0]
    by_cases hc:xs.getD ((lo+hi) / 2) 0<j
    .rw[NI hc];refine zih hI j fuel ((lo+hi) / 2+1) hi 0.0 0.0 h3 (λi hi'=>?_) h5
     by_cases e:i=(lo+hi) / 2
     .subst e;exact hc
     .have:=hI i ((lo+hi) / 2) 0.0 hm;lia
    .rw[NJ hc];refine zih hI j fuel lo ((lo+hi) / 2) 0.0 0.0 0.0 h4 (λi hi' hs=>?_)
     by_cases e:i=(lo+hi) / 2
     .subst e;lia
     .have:=hI ((lo+hi) / 2) i 0.0 hs;lia
   .obtain rfl:lo=hi:=by lia
    exact⟨h3,h4,h5⟩
theorem zia(hI:Inc xs)(j:Nat):zkq xs j (below xs j):=zih hI j _ _ _ 0.0 (Q6 _) (Qg _) (λi h=>absurd h (JW _)) λi h1 h2=>by lia
theorem zrs(hI:Inc xs){i:Nat}(hi:i<xs.size):below xs (xs.getD i 0)=i:=by
 obtain⟨h1,h2,h3⟩:=zia hI (xs.getD i 0)
 by_cases e:below xs (xs.getD i 0)<i
 .have a:=h3 _ (Qg _) 0.0;have b:=hI _ i e hi;lia
 .by_cases e2:i<below xs (xs.getD i 0)
  .exact absurd (h2 i e2) (Zl _)
  .lia
theorem zxc{xs:Array Nat}{i:Nat}(hi:i<xs.size):xs[i]? = some (xs.getD i 0):=by
 simp[YT,hi]
section
variable {t:GY}(hI:Inc t.place)(hd:t.dummies = #[])
include hI
theorem zlm{i:Nat}(hi:i<t.place.size):t.slot (t.place.getD i 0) = .live i:=by
 unfold Uu;dsimp only;rw[zrs hI hi,zxc hi];simp
omit hI in
theorem zkv{i j:Nat}(h:t.slot j = .live i):i<t.place.size/\t.place.getD i 0=j:=by
 unfold Uu at h;dsimp only at h
 split at h
 .rename_i hc
  cases h;have hc':=eq_of_beq hc;obtain⟨h1,h2⟩:=Vx.mp hc';exact⟨h1,by simp[YT,h1,h2]⟩
 .split at h <;> cases h
omit hI in
include hd in
theorem zkz(j:Nat):t.slot j = .empty\/∃i,t.slot j = .live i:=by
 unfold Uu;dsimp only
 split
 .exact .inr ⟨_,rfl⟩
 .have:has t.dummies j=false:=by
   rw[hd];unfold has;simp
  rw[this];exact .inl rfl
theorem zgc{j i:Nat}(h:t.slot j = .empty)(hi:i<t.place.size):t.place.getD i 0≠j:=λe=>by
 have:=zlm hI hi;rw[e,h] at this;cases this
omit hI in
include hd in
theorem zs0{j:Nat}(h:∀i,i<t.place.size->t.place.getD i 0≠j):t.slot j = .empty:=by
 rcases zkz hd j with e|⟨i,e⟩
 .exact e
 .obtain⟨h1,h2⟩:=zkv e;exact absurd h2 (h i h1)
omit hI in
include hd in
theorem zzw(hashAt:Nat->Int)(h:Int)(N:Nat)(h0:t.slot (sq t.mask h N).j = .empty)(hb:∀k,k<N->t.slot (sq t.mask h k).j≠.empty):∀fuel n,N<n+fuel->n<=N ->
 (∃k i,n<=k/\k<N/\t.slot (sq t.mask h k).j = .live i/\hashAt i=h/\(∀k',n<=k'->k'<k->∃i',t.slot (sq t.mask h k').j = .live i'/\hashAt i'≠h)/\probe.go t hashAt h fuel (sq t.mask h n)=some (.candidate (sq t.mask h k).j i (sq t.mask h (k+1))))
 \/ ((∀k,n<=k->k<N->∃i,t.slot (sq t.mask h k).j = .live i/\hashAt i≠h)/\probe.go t hashAt h fuel (sq t.mask h n)=some (.empty (sq t.mask h N).j none))
 | 0,n,h1,h2=>absurd h1 0.0
 | fuel+1,n,h1,h2=>by
   by_cases e:n=N
   .subst e;refine .inr ⟨λk a b=>by lia,?_⟩;unfold probe.go;rw[h0,zr4]
   .obtain⟨i,hi⟩:=(zkz hd (sq t.mask h n).j).resolve_left (hb n 0.0)
    by_cases eh:hashAt i=h
    .refine .inl ⟨n,i,Qg _,by lia,hi,eh,λk' a b=>by lia,?_⟩;unfold probe.go;rw[hi];show(if hashAt i == h then _ else _)=_;rw[NI (by simp[eh])];rfl
    .have gs:probe.go t hashAt h (fuel+1) (sq t.mask h n)=probe.go t hashAt h fuel (sq t.mask h (n+1)):=by
      rw[probe.go,hi];show(if hashAt i == h then _ else _)=_;rw[NJ (by simp[eh])];rfl
     rw[gs]
     have add:∀k',n<=k'->(n+1<=k'->∃i',t.slot (sq t.mask h k').j = .live i'/\hashAt i'≠h)->∃i',t.slot (sq t.mask h k').j = .live i'/\hashAt i'≠h:=λk' a b=>by
      by_cases z:k'=n
      .subst z;exact⟨i,hi,eh⟩
      .exact b 0.0
     rcases zzw hashAt h N h0 hb fuel (n+1) 0.0 0.0 with ⟨k,i',a1,a2,a3,a4,a5,a6⟩|⟨a1,a2⟩
     .exact .inl ⟨k,i',by lia,a2,a3,a4,λk' b1 b2=>add k' b1 λz=>a5 k' z b2,a6⟩
     .exact .inr ⟨λk b1 b2=>add k b1 λz=>a1 k z b2,a2⟩
end
end TB
namespace TB
open PySem PySem.SetTable
theorem len_nd{α:Type}[BEq α][LawfulBEq α]{xs ys:4.2}(h:xs.Nodup)(hs:∀k∈xs,k∈ys):xs.length<=ys.length:=by
 induction xs generalizing ys with
 | nil=>exact Q6 _
 | cons x xs ih=>
   have hx:x∈ys:=hs x 0.1;have h':=Zq.mp h;have:=ih (ys:=ys.erase x) h'.2 λk hk=>(Vf (λz:k=x=>h'.1 (z ▸ hk))).mpr (hs k (Qe _ hk));rw[Yy hx] at this;have:0<ys.length:=YG hx;simp only[Ql];lia
theorem zrf{ps:0.7}{M:Nat}(h:ps.length<M):∃j,j<M/\j ∉ ps:=by
 refine Zc λz=>?_;have:=len_nd (xs:=Q3 M) (ys:=ps) YS λk hk=>Zc λq=>z ⟨k,Q8.mp hk,q⟩;rw[QS] at this;lia
structure TOk(t:GY)(hs:List Int)(m:Nat):Prop where
 mm:t.mask+1=2 ^ m
 m3:3<=m
 mb:m<=13
 dm:t.dummies = #[]
 sz:t.place.size=hs.length
 inc:Inc t.place
 le:∀i,i<t.place.size->t.place.getD i 0<=t.mask
 rm:t.place.size<=t.mask
 rc:∀i h,hs[i]? = some h->∃n,(sq t.mask h n).j=t.place.getD i 0/\∀k,k<n->t.slot (sq t.mask h k).j≠.empty
theorem zet(xs:Array Nat)(i:Nat):xs.getD i 0=xs.toList[i]?.getD 0:=by
 rw[Jf,Q7]
theorem TOk.free{m:Nat}(O:TOk t hs m)(h:Int):∃N,N<10 * turns t.mask/\t.slot (sq t.mask h N).j = .empty/\∀k,k<N->t.slot (sq t.mask h k).j≠.empty:=by
 obtain⟨j,hj,hn⟩:=zrf (ps:=t.place.toList) (M:=t.mask+1) (by have:=O.rm;simp;lia);obtain⟨n,h1,h2⟩:=yap O.mm h (j:=j) 0.0
 have he:t.slot j = .empty:=zs0 O.dm λi hi e=>hn (by
  have:=zxc hi;rw[e] at this
  exact Qt (by rw[Q7];exact this))
 obtain⟨N,a1,a2,a3⟩:=z5j (p:=λk=>t.slot (sq t.mask h k).j = .empty) n (by rw[h2];exact he);exact⟨N,by lia,a2,a3⟩
def ins{α:Type}(p:Nat)(x:α)(l:4.2):List α:=l.take p++x::l.drop p
theorem zhe{α:Type}{p:Nat}{x:α}{l:4.2}(hp:p<=l.length)(i:Nat):(ins p x l)[i]? = if i<p then l[i]? else if i=p then some x else l[i-1]?:=by
 unfold ins;rw[Uh];have hl:(l.take p).length=p:=by rw[QL];lia
 rw[hl]
 by_cases h1:i<p
 .rw[NI h1,NI h1,Y4,NI h1]
 .rw[NJ h1,NJ h1]
  by_cases h2:i=p
  .subst h2;simp
  .rw[NJ h2,show i-p=(i-p-1)+1 by lia,ZB,Z0]
   congr 1
   lia
theorem ze8{α:Type}{p:Nat}{x:α}{l:4.2}:(ins p x l).length=l.length+1:=by
 unfold ins;rw[Qj,Ql,QL,Zr];lia
theorem insA{α:Type}(xs:Array α)(p:Nat)(x:α):(insertAt xs p x).toList=ins p x xs.toList:=by
 rw[SetTable.toList_insertAt];rfl
theorem TOk.put{m:Nat}(O:TOk t hs m){h:Int}{N:Nat}(hz:t.place.size+1<=t.mask)(h0:t.slot (sq t.mask h N).j = .empty)(hb:∀k,k<N->t.slot (sq t.mask h k).j≠.empty)(hm:(sq t.mask h N).j<=t.mask)(b:Bool):
 TOk { (t.put (sq t.mask h N).j).1 with plain:=b } (ins (below t.place (sq t.mask h N).j) h hs) m/\(t.put (sq t.mask h N).j).2=below t.place (sq t.mask h N).j:=by
 refine⟨?_,rfl⟩;generalize hj:(sq t.mask h N).j=j at *;obtain⟨b1,b2,b3⟩:=zia O.inc j;generalize hp:below t.place j=p at *
 have hd:has t.dummies j=false:=by
  rw[O.dm];unfold has;simp
 generalize ht:({ (t.put j).1 with plain:=b }:GY)=t';have mk':t'.mask=t.mask:=by subst ht;rfl
 have dm':t'.dummies = #[]:=by
  subst ht;show(if has t.dummies j=true then _ else t.dummies) = #[];rw[NJ (by rw[hd];exact Qx)];exact O.dm
 have pl:t'.place.toList=ins p j t.place.toList:=by
  subst ht;show(insertAt t.place (below t.place j) j).toList=_;rw[insA,hp]
 have psz:t'.place.size=t.place.size+1:=by
  rw[<- QH,pl,ze8,QH]
 have hpl:p<=t.place.toList.length:=by simpa using b1
 have at':∀i,t'.place.getD i 0=if i<p then t.place.getD i 0 else if i=p then j else t.place.getD (i-1) 0:=λi=>by
  rw[zet,pl,zhe hpl]
  split
  .rw[zet]
  .split
   .rfl
   .rw[zet]
 have ne:∀i,i<t.place.size->t.place.getD i 0≠j:=λi hi=>zgc O.inc h0 hi
 have inc':Inc t'.place:=λi k hik hk=>by
  rw[at',at'];rw[psz] at hk
  by_cases c1:k<p
  .rw[NI c1,NI 0.0];exact O.inc i k hik 0.0
  .rw[NJ c1]
   by_cases c2:k=p
   .rw[NI c2,NI 0.0];exact b2 i 0.0
   .rw[NJ c2]
    by_cases c3:i<p
    .rw[NI c3];exact O.inc i (k-1) 0.0 0.0
    .rw[NJ c3]
     by_cases c4:i=p
     .rw[NI c4];have:=b3 (k-1) 0.0 0.0;have:=ne (k-1) 0.0;lia
     .rw[NJ c4];exact O.inc (i-1) (k-1) 0.0 0.0
 have keep:∀q,t.slot q≠.empty->t'.slot q≠.empty:=λq hq z=>by
  obtain⟨i,hi⟩:=(zkz O.dm q).resolve_left hq;obtain⟨h1,h2⟩:=zkv hi
  by_cases c:i<p
  .refine zgc inc' z (i:=i) 0.0 ?_;rw[at',NI c,h2]
  .refine zgc inc' z (i:=i+1) 0.0 ?_;rw[at',NJ 0.0,NJ 0.0];exact h2
 have hsl:p<=hs.length:=by rw[<- O.sz];exact b1
 refine⟨by rw[mk'];exact O.mm,O.m3,O.mb,dm',by rw[psz,ze8,O.sz],inc',λi hi=>?_,by rw[psz,mk'];exact hz,λi g hg=>?_⟩
 .rw[at',mk']
  split
  .exact O.le i 0.0
  .split
   .exact hm
   .exact O.le (i-1) 0.0
 .rw[zhe hsl] at hg;rw[at',mk']
  have lift:∀i',hs[i']? = some g->∃n,(sq t.mask g n).j=t.place.getD i' 0/\∀k,k<n->t'.slot (sq t.mask g k).j≠.empty:=λi' e=>by
   obtain⟨n,a,c⟩:=O.rc i' g e;exact⟨n,a,λk hk=>keep _ (c k hk)⟩
  by_cases c1:i<p
  .rw[NI c1] at hg ⊢;exact lift i hg
  .rw[NJ c1] at hg ⊢
   by_cases c2:i=p
   .rw[NI c2] at hg ⊢;cases hg;exact⟨N,hj,λk hk=>keep _ (hb k hk)⟩
   .rw[NJ c2] at hg ⊢;exact lift (i-1) hg
theorem z0i{mask:Nat}(h:Int):∀n,(sq mask h n).j<=mask/\(sq mask h n).more<=mask-(sq mask h n).j:=by
 have hr:∀i,i<mask+1->runEnd mask i-i<=mask-i:=λi hi=>by
  unfold runEnd
  split <;> lia
 intro n
 induction n with
 | zero=>
   have:=Vz (bits h) (show mask+1 > 0 by lia);exact⟨by show bits h % (mask+1)<=mask;lia,hr _ this⟩
 | succ n ih=>
   show((T0 mask).advance (sq mask h n)).j<=mask/\((T0 mask).advance (sq mask h n)).more<=mask-((T0 mask).advance (sq mask h n)).j;unfold YU
   split
   .dsimp only;lia
   .have:=Vz ((sq mask h n).i * 5+1+(sq mask h n).perturb / 32) (show mask+1 > 0 by lia);exact⟨by show((sq mask h n).i * 5+1+(sq mask h n).perturb / 32) % (mask+1)<=mask;lia,hr _ this⟩
end TB
namespace TB
open PySem PySem.SetTable
def stn(mask:Nat)(h:Int):Nat->Nat
 | 0=>0
 | k+1=>stn mask h k+(runEnd mask (lp mask h k).1-(lp mask h k).1)+1
theorem zzt(mask:Nat)(h:Int):∀k,sq mask h (stn mask h k)=rs mask (lp mask h k)
 | 0=>rfl
 | k+1=>zq1 (zzt mask h k)
theorem zxn{mask m:Nat}(hm:mask+1=2 ^ m)(h:Int){j:Nat}(hj:j<=mask):∃K,K<=12+mask/\(lp mask h K).1=j:=by
 obtain⟨n,hn,e⟩:=come m (lp mask h 12).1 j;rw[<- hm] at e hn;have e2:=zte mask h n;rw[e,YV (zs7 ..),YV (US hj)] at e2;exact⟨12+n,by lia,e2⟩
structure Own(mask:Nat)(hs:List Int)(ps:0.7)(owner:Array (Option Nat)):Prop where
 sz:owner.size=mask+1
 nd:ps.Nodup
 le:∀p∈ps,p<=mask
 yes:∀(i p:Nat),ps[i]? = some p->owner.getD p none=some i
 no:∀j,j<=mask->j ∉ ps->owner.getD j none=none
 rc:∀(i p:Nat) (h:Int),ps[i]? = some p->hs[i]? = some h->∃n,(sq mask h n).j=p/\∀k,k<n->(sq mask h k).j∈ps
section
variable {mask:Nat}{hs:List Int}{ps:0.7}{owner:Array (Option Nat)}
theorem Own.look(O:Own mask hs ps owner){j:Nat}(hj:j<=mask):(owner.getD j (some 0)).isNone=true↔j ∉ ps:=by
 have e:owner.getD j (some 0)=owner.getD j none:=by
  have:=O.sz;simp[YT,show j<owner.size by lia]
 rw[e];constructor
 .intro h hp;obtain⟨i,hi⟩:=QK.mp hp;rw[O.yes i j hi] at h;cases h
 .intro h;rw[O.no j hj h];rfl
theorem zon{i d:Nat}(hi:i<mask+1)(hd:d<=runEnd mask i-i):i+d<=mask:=by
 unfold runEnd at hd
 split at hd <;> lia
theorem zp6(O:Own mask hs ps owner)(h:Int)(K:Nat)(hK:(lp mask h K).1 ∉ ps):∀fuel k,K<k+fuel->k<=K ->
 ∃N,layClean.free mask owner fuel (lp mask h k).1 (lp mask h k).2=some (sq mask h N).j/\(sq mask h N).j ∉ ps/\∀k',stn mask h k<=k'->k'<N->(sq mask h k').j∈ps
 | 0,k,h1,h2=>absurd h1 0.0
 | fuel+1,k,h1,h2=>by
   have hl:=zs7 mask h k;have pos:∀d,d<=runEnd mask (lp mask h k).1-(lp mask h k).1->(sq mask h (stn mask h k+d)).j=(lp mask h k).1+d:=λd hd=>by rw[zsa (zzt mask h k) d hd]
   have rge:(lp mask h k).1<=runEnd mask (lp mask h k).1:=by unfold runEnd;split <;> lia
   unfold layClean.free
   cases e:(Q3 (runEnd mask (lp mask h k).1+1-(lp mask h k).1)).find? λd=>(owner.getD ((lp mask h k).1+d) (some 0)).isNone with
   | some d=>
     dsimp only;obtain⟨e1,as,bs,e2,e3⟩:=Vd.mp e
     have hd:d<runEnd mask (lp mask h k).1+1-(lp mask h k).1:=by
      have:d∈Q3 (runEnd mask (lp mask h k).1+1-(lp mask h k).1):=by rw[e2];simp
      exact Q8.mp this
     have hd':d<=runEnd mask (lp mask h k).1-(lp mask h k).1:=by lia
     refine⟨stn mask h k+d,by rw[pos d hd'],?_,λk' a1 a2=>?_⟩
     .rw[pos d hd'];exact(O.look (zon hl hd')).mp e1
     .obtain⟨c,rfl⟩:∃c,k'=stn mask h k+c:=⟨k'-stn mask h k,by lia⟩;have hc:c<=runEnd mask (lp mask h k).1-(lp mask h k).1:=by lia
      rw[pos c hc]
      have hmem:c∈as:=by
       have al:as=Q3 as.length:=by
        have:=NO (List.take as.length) e2;rw[YI,List.take_range] at this
        have hle:as.length<=runEnd mask (lp mask h k).1+1-(lp mask h k).1:=by
         have:=NO Jo e2;simp at this;lia
        rw[Gr hle] at this;exact this.symm
       have ad:as.length=d:=by
        have:=NO (λl=>l[as.length]?) e2;simp only[QF (Qg _),Nat.sub_self,List.getElem?_cons_zero] at this;rw[Qn] at this;obtain⟨_,q⟩:=this;rw[ZV] at q;exact q
       rw[al,Q8];lia
      have:=e3 c hmem;refine Zc λz=>?_;rw[(O.look (zon hl hc)).mpr z] at this;cases this
   | none=>
     have all:∀d,d<=runEnd mask (lp mask h k).1-(lp mask h k).1->(lp mask h k).1+d∈ps:=λd hd=>by
      have:=U3.mp e d (Q8.mpr 0.0);refine Zc λz=>this ((O.look (zon hl hd)).mpr z)
     have ne:k≠K:=λz=>by
      subst z;exact hK (by simpa using all 0 (Q6 _))
     obtain⟨N,a1,a2,a3⟩:=zp6 O h K hK fuel (k+1) 0.0 0.0;refine⟨N,a1,a2,λk' b1 b2=>?_⟩
     by_cases c:stn mask h (k+1)<=k'
     .exact a3 k' c b2
     .obtain⟨c',rfl⟩:∃c,k'=stn mask h k+c:=⟨k'-stn mask h k,by lia⟩
      have hc:c'<=runEnd mask (lp mask h k).1-(lp mask h k).1:=by
       have:stn mask h (k+1)=stn mask h k+(runEnd mask (lp mask h k).1-(lp mask h k).1)+1:=rfl;lia
      rw[pos c' hc];exact all c' hc
theorem Own.nil(mask:Nat)(hs:List Int):Own mask hs [] (VR (mask+1) none) :=
 { sz:=by simp,nd:=.nil,le:=(λp h=>(ZJ h).elim),yes:=(λi p h=>by simp at h),no:=(λj hj _=>by simp[YT]),rc:=(λi p h e=>by simp at e) }
theorem Own.more(O:Own mask hs ps owner){j:Nat}{h:Int}(hj:j<=mask)(hn:j ∉ ps)(hh:hs[ps.length]? = some h){N:Nat}(e:(sq mask h N).j=j)(hb:∀k,k<N->(sq mask h k).j∈ps):Own mask hs (ps ++ [j]) (owner.setIfInBounds j (some ps.length)):=by
 have hsz:=O.sz
 have gd:∀q,q<=mask->(owner.setIfInBounds j (some ps.length)).getD q none=if q=j then some ps.length else owner.getD q none:=λq hq=>by
  rw[Jf,Array.getElem?_setIfInBounds,Jf]
  by_cases c:q=j
  .subst c;rw[NI rfl,NI rfl,NI 0.0];rfl
  .rw[NJ (Z8 c),NJ c]
 have up:∀(i p:Nat),(ps ++ [j])[i]? = some p->(i<ps.length/\ps[i]? = some p)\/(i=ps.length/\p=j):=λi p hi=>by
  rw[Uh] at hi
  split at hi
  .rename_i c;exact .inl ⟨c,hi⟩
  .rename_i c
   by_cases c2:i=ps.length
   .subst c2;simp at hi;exact .inr ⟨rfl,hi.symm⟩
   .rw[QD (by simp;lia)] at hi;cases hi
 refine⟨by simpa using hsz,?_,λp hp=>?_,λi p hi=>?_,λq hq hqn=>?_,λi p g hi hg=>?_⟩
 .exact J1.mpr ⟨O.nd,by simp,λa ha b hb=>by rw[Qm] at hb;subst hb;exact λz=>hn (z ▸ ha)⟩
 .rcases Qq.mp hp with hp|hp
  .exact O.le p hp
  .rw[Qm.mp hp];exact hj
 .rcases up i p hi with ⟨h1,h2⟩|⟨h1,h2⟩
  .have pm:=Qt h2;rw[gd p (O.le p pm),NJ (λz:p=j=>hn (z ▸ pm))];exact O.yes i p h2
  .subst h1 h2;rw[gd p hj,NI rfl]
 .rw[gd q hq,NJ (λz=>hqn (by simp[z]))];exact O.no q hq λz=>hqn (by simp[z])
 .rcases up i p hi with ⟨h1,h2⟩|⟨h1,h2⟩
  .obtain⟨n,a,b⟩:=O.rc i p g h2 hg;exact⟨n,a,λk hk=>QE _ (b k hk)⟩
  .subst h1 h2;rw[hh] at hg;cases hg;exact⟨N,e,λk hk=>QE _ (hb k hk)⟩
abbrev zmx(mask:Nat)(acc:Option (Array (Option Nat)×Nat))(h:Int):Option (Array (Option Nat)×Nat):=do
 let (owner,k) <- acc
 let j <- layClean.free mask owner (turns mask) (bits h % (mask+1)) (bits h)
 pure (owner.setIfInBounds j (some k),k+1)
theorem zor{m:Nat}(hm:mask+1=2 ^ m)(hz:hs.length<=mask):∀(rest:List Int) (ps:0.7) (owner:Array (Option Nat)),hs.drop ps.length=rest->ps.length<=hs.length->Own mask hs ps owner ->
 ∃ps' owner',rest.foldl (zmx mask) (some (owner,ps.length))=some (owner',hs.length)/\Own mask hs ps' owner'/\ps'.length=hs.length
 | [],ps,owner,hd,hl,O=>by
   have:ps.length=hs.length:=by
    have:=NO Jo hd;simp at this;lia
   exact⟨ps,owner,by rw[this];rfl,O,this⟩
 | h::rest,ps,owner,hd,hl,O=>by
   have hh:hs[ps.length]? = some h:=by
    have:=NO (λl=>l[0]?) hd;simpa using this
   have hlt:ps.length<hs.length:=(Qn.mp hh).1;obtain⟨j,hj,hn⟩:=zrf (ps:=ps) (M:=mask+1) 0.0;obtain⟨K,k1,k2⟩:=zxn hm h (j:=j) 0.0;obtain⟨N,a1,a2,a3⟩:=zp6 O h K (by rw[k2];exact hn) (turns mask) 0 (by unfold turns;lia) (Q6 _)
   have st:zmx mask (some (owner,ps.length)) h=some (owner.setIfInBounds (sq mask h N).j (some ps.length),ps.length+1):=by
    show((layClean.free mask owner (turns mask) (lp mask h 0).1 (lp mask h 0).2).bind λj=>some (owner.setIfInBounds j (some ps.length),ps.length+1))=_;rw[a1];rfl
   rw[J9,st];have O':=O.more (z0i h N).1 a2 hh rfl λk hk=>a3 k (Q6 _) hk
   have:=zor hm hz rest (ps ++ [(sq mask h N).j]) _ (by
    rw[Qj,Zd,<- JI,hd];rfl) (by simp;lia) O'
   rw[Qj,Zd] at this;exact this
theorem zwd{m:Nat}(hm:mask+1=2 ^ m)(hz:hs.length<=mask):∃ps owner,layClean mask hs.toArray=some owner/\Own mask hs ps owner/\ps.length=hs.length:=by
 obtain⟨ps,owner,a,b,c⟩:=zor hm hz hs [] _ rfl (Q6 _) (Own.nil mask hs);refine⟨ps,owner,?_,b,c⟩;unfold layClean
 have e:(hs.toArray.foldl (zmx mask) (some (VR (mask+1) none,0)))=some (owner,hs.length):=by
  rw[<- Array.foldl_toList];exact a
 show U8 (·.1) (hs.toArray.foldl (zmx mask) (some (VR (mask+1) none,0)))=_;rw[e];rfl
end
end TB
namespace TB
open PySem PySem.SetTable
theorem zn9(n:Nat):∀fuel m,n<2 ^ (m+fuel)->∃m',m<=m'/\sizeAbove.go n fuel (2 ^ m)=2 ^ m'/\n<2 ^ m'/\(m'=m\/2 ^ m'<=2 * n)
 | 0,m,h=>⟨m,Qg _,rfl,h,.inl rfl⟩
 | fuel+1,m,h=>by
   unfold sizeAbove.go
   by_cases c:2 ^ m<=n
   .rw[NI c,show 2 ^ m * 2=2 ^ (m+1) from(Jw ..).symm];obtain⟨m',a,b,d,e⟩:=zn9 n fuel (m+1) (by rw[show m+1+fuel=m+(fuel+1) by lia];exact h);refine⟨m',by lia,b,d,.inr ?_⟩;rcases e with e|e
    .rw[e,Jw];lia
    .exact e
   .rw[NJ c];exact⟨m,Qg _,rfl,by lia,.inl rfl⟩
theorem above{n:Nat}(hn:n<2 ^ 60):∃m,3<=m/\sizeAbove n=2 ^ m/\n<2 ^ m/\(m=3\/2 ^ m<=2 * n) :=
 zn9 n 64 3 (QM hn (ZC 0.2 0.2))
theorem zfb{β γ:Type}{f:β->Option γ}:∀{l:List β},(∀b∈l,(f b).isSome=true)->∀a:Nat,(l.filterMap f)[a]? = l[a]?.bind f
 | [],_,a=>by simp
 | b::l,h,a=>by
   obtain⟨c,hc⟩:=JD.mp (h b 0.1);rw[VF hc]
   cases a with
   | zero=>simp[hc]
   | succ a=>
     rw[ZB,ZB];exact zfb (λb' hb=>h b' (Qe _ hb)) a
theorem zwb{α:Type}(t:GY)(es:Array (Int×α))(hz:es.size<=1000):∃t' order m,t.relaid (es.map (·.1)) (es.size * 4)=some (t',order)/\TOk t' ((order.filterMap (es[·]?)).toList.map (·.1)) m/\(order.filterMap (es[·]?)).toList.Perm es.toList/\t'.led=t.led/\t'.plain=t.plain/\t'.tooFull=false/\order.toList.Perm (Q3 es.size):=by
 obtain⟨m,m3,em,lm,um⟩:=above (n:=es.size * 4) 0.0
 have m13:m<=12:=by
  rcases um with rfl|um
  .decide
  .refine Jr λc=>?_;have:2 ^ 13<=2 ^ m:=ZC 0.2 c;lia
 unfold Gs G8;rw[em];have hm:2 ^ m-1+1=2 ^ m:=by lia
 generalize 2 ^ m-1=mask at hm ⊢
 have he:(es.map (·.1))=(es.toList.map (·.1)).toArray:=by
  apply YR.mp;simp
 rw[he];generalize hhs:es.toList.map (·.1)=hs;have hl:hs.length=es.size:=by rw[<- hhs];simp
 obtain⟨ps,owner,a,O,c⟩:=zwd (mask:=mask) (hs:=hs) hm 0.0;rw[a];generalize hlv:((Q3 (mask+1)).filterMap λj=>(owner.getD j none).map (j,·))=lv
 have mem1:∀q∈lv,q.1<=mask/\ps[q.2]? = some q.1:=λq hq=>by
  rw[<- hlv] at hq;obtain⟨j,hj,e⟩:=Y2.mp hq;have hj':=Q8.mp hj
  cases eo:owner.getD j none with
  | none=>rw[eo] at e;cases e
  | some i=>
    rw[eo] at e;cases e;refine⟨Nat.le_of_lt_succ hj',?_⟩;refine Zc λz=>?_
    by_cases hp:j∈ps
    .obtain⟨i',hi'⟩:=QK.mp hp;have:=O.yes i' j hi';rw[eo] at this;cases this;exact z hi'
    .have:=O.no j 0.0 hp;rw[eo] at this;cases this
 have mem2:∀i j,ps[i]? = some j->(j,i)∈lv:=λi j h=>by
  rw[<- hlv];refine Y2.mpr ⟨j,Q8.mpr (by have:=O.le j (Qt h);lia),?_⟩;rw[O.yes i j h];rfl
 have rise:lv.Pairwise λa b=>a.1<b.1:=by
  rw[<- hlv,List.pairwise_filterMap];refine UT ?_ VO;intro x y hxy b hb b' hb'
  cases e1:owner.getD x none with
  | none=>rw[e1] at hb;cases hb
  | some i=>
    cases e2:owner.getD y none with
    | none=>rw[e2] at hb';cases hb'
    | some i'=>
      rw[e1] at hb;rw[e2] at hb';cases hb;cases hb';exact hxy
 have nd2:(lv.map (·.2)).Nodup:=by
  unfold List.Nodup;rw[ZP];refine List.Pairwise.imp_of_mem ?_ rise;intro x y hx hy hxy z;have h1:=(mem1 x hx).2;have h2:=(mem1 y hy).2;rw[z,h2] at h1;have:=Za h1;lia
 have perm:(lv.map (·.2)).Perm (Q3 es.size):=by
  refine(V0 nd2 YS).mpr λi=>?_;rw[Q8,Qo];constructor
  .rintro⟨q,hq,rfl⟩;have:=(Qn.mp (mem1 q hq).2).1;lia
  .intro hi;exact⟨(ps[i]' 0.0,i),mem2 i _ (Qb 0.0),rfl⟩
 have lvlen:lv.length=es.size:=by simpa using perm.length_eq
 have fm:((lv.map (·.2)).toArray.filterMap (es[·]?)).toList=(lv.map (·.2)).filterMap (es[·]?):=by simp
 have isS:∀i∈lv.map (·.2),(es[i]?).isSome=true:=λi hi=>by
  have:=Q8.mp (perm.mem_iff.mp hi);simp[this]
 have p2:((lv.map (·.2)).toArray.filterMap (es[·]?)).toList.Perm es.toList:=by
  rw[fm,<- M9 es];exact perm.filterMap _
 refine⟨{ mask,place:=((lv.map (·.1)).toArray:Array Nat),dummies:=#[],finger:=t.finger,led:=t.led,moves:=t.movedTo mask,plain:=t.plain },(lv.map (·.2)).toArray,m,by rw[<- hlv];rfl,?_,p2,rfl,rfl,?_,by simpa using perm⟩
 .have pe:((lv.map (·.1)).toArray:Array Nat).size=es.size:=by simp[lvlen]
  have gd:∀i q,lv[i]? = some q->((lv.map (·.1)).toArray:Array Nat).getD i 0=q.1:=λi q h=>by
   rw[zet];simp[h]
  have inc:Inc ((lv.map (·.1)).toArray:Array Nat):=λi k hik hk=>by
   have hk':k<lv.length:=by simpa using hk
   rw[gd i lv[i] (Qb 0.0),gd k lv[k] (Qb hk')];exact Zi.mp rise i k 0.0 hk' hik
  refine⟨hm,m3,by lia,rfl,?_,inc,λi hi=>?_,?_,λi h hg=>?_⟩
  .show((lv.map (·.1)).toArray:Array Nat).size=_;rw[pe,Qc,p2.length_eq,QH]
  .have hi':i<lv.length:=by simpa using hi
   show((lv.map (·.1)).toArray:Array Nat).getD i 0<=mask;rw[gd i lv[i] (Qb hi')];exact(mem1 _ (Ze hi')).1
  .show((lv.map (·.1)).toArray:Array Nat).size<=mask;rw[pe];lia
  .rw[Qh,fm,zfb isS,Qh] at hg
   cases eq:lv[i]? with
   | none=>rw[eq] at hg;cases hg
   | some q=>
     rw[eq] at hg;have hq:=mem1 q (Qt eq)
     have hes:hs[q.2]? = some h:=by
      rw[<- hhs,Qh,Q7];exact hg
     obtain⟨n,n1,n2⟩:=O.rc q.2 q.1 h hq.2 hes;refine⟨n,?_,λk hk z=>?_⟩
     .show _=((lv.map (·.1)).toArray:Array Nat).getD i 0;rw[gd i q eq];exact n1
     .obtain⟨i',hi'⟩:=QK.mp (n2 k hk);obtain⟨a',ha'⟩:=QK.mp (mem2 i' _ hi');refine zgc (t:={ mask,place:=((lv.map (·.1)).toArray:Array Nat),dummies:=#[],finger:=t.finger,led:=t.led,moves:=t.movedTo mask,plain:=t.plain }) inc z (i:=a') ?_ ?_
      .show a'<((lv.map (·.1)).toArray:Array Nat).size;rw[pe,<- lvlen];exact(Qn.mp ha').1
      .exact gd a' _ ha'
 .show decide (((lv.map (·.1)).toArray.size+(#[]:Array Nat).size) * 5 ≥ mask * 3)=false;rw[show((lv.map (·.1)).toArray:Array Nat).size=es.size by simp[lvlen]];have:(#[]:Array Nat).size=0:=rfl;have h8:2 ^ 3<=2 ^ m:=ZC 0.2 m3;refine NK ?_;lia
end TB
namespace HK
open PySem PySem.Spec PyProof.Rows
mutual
def hk:GG->Bool
 | .int _=>true
 | .str _=>true
 | .tuple ds=>hks ds
 | _=>false
def hks:List GG->Bool
 | []=>true
 | d::ds=>hk d && hks ds
end
mutual
def hD(w:GM):GG->Int
 | .int i=>hashInt i
 | .str x=>ML w x
 | .tuple ds=>reduceHash (ZK (hDs w ds))
 | _=>0
def hDs(w:GM):List GG->List Int
 | []=>[]
 | d::ds=>hD w d::hDs w ds
end
mutual
def bv:GG->Bool
 | .int _=>true
 | .tuple ds=>bvs ds
 | _=>false
def bvs:List GG->Bool
 | []=>true
 | d::ds=>bv d && bvs ds
end
mutual
def dr:GG->Nat
 | .tuple ds=>drs ds+1
 | _=>1
def drs:List GG->Nat
 | []=>0
 | d::ds=>dr d+drs ds
end
theorem zdu:∀{ds:2.3},hks ds=true->∀d∈ds,hk d=true
 | d::ds,h,e,he=>by
   simp only[hks,Q9] at h;rcases Qz.mp he with rfl|he
   .exact h.1
   .exact zdu h.2 e he
theorem zc3:∀{ds:2.3} {d:GG},d∈ds->d.depth<=Zb ds
 | e::ds,d,h=>by
   rw[Zb];rcases Qz.mp h with rfl|h
   .exact Nat.le_max_left _ _
   .exact Q1 (zc3 h) (Nat.le_max_right _ _)
mutual
theorem zcm:∀d:GG,hk d=true->L3.solid d=true
 | .int _,_=>rfl
 | .str _,_=>rfl
 | .tuple ds,h=>zi3 ds (by simpa[hk] using h)
 | .none,h=>rfl
 | .bool _,h=>by simp[hk] at h
 | .list _,h=>by simp[hk] at h
 | .dict _,h=>by simp[hk] at h
theorem zi3:∀ds:List GG,hks ds=true->L3.solids ds=true
 | [],_=>rfl
 | d::ds,h=>by
   simp only[hks,Q9] at h;rw[L3.solids,zcm d h.1,zi3 ds h.2];rfl
end
section
variable {P:GK}{w:GM}
theorem zbw{as:5.6}(r:Ts h (v::vs) ds as):∃d ds' a b,ds=d::ds'/\Tg h v d a/\Ts h vs ds' b:=by
 cases r with
 | cons r1 r2=>exact⟨_,_,_,_,rfl,r1,r2⟩
theorem zjo:∀(n:Nat) (d:GG),d.depth<=n->hk d=true->∀(A:GQ) (E:1.0) (s:GJ) (v:GH) (as:5.6) (Q:Int->GJ->Prop),A.units+d.depth<GZ->Tg s.heap v d as ->
 Q (hD w d) { s with toks:=s.toks+dr d }->wpAny 1.5 A (pyHash v) Q E s:=by
 intro n
 induction n with
 | zero=>
   intro d hd hk' A E s v as Q hu r h
   cases r with
   | int i t=>exact MF h
   | str x t=>exact MG h
   | tuple _ _ _ _=>simp[QU] at hd
   | _=>simp[hk] at hk'
 | succ n ih=>
   intro d hd hk' A E s v as Q hu r h
   cases r with
   | int i t=>exact MF h
   | str x t=>exact MG h
   | @tuple a o vs c ds as ho hc hdt hr=>
     have hds:hks ds=true:=by simpa[hk] using hk'
     rw[QU] at hd hu;have hT:s.TypeIs 3.1 "tuple" := ⟨o,ho,hc⟩;unfold pyHash pyHashByItsType;refine GF (wpAny_cRoomFor_or (.inr 0.0) ?_);refine GF (Tn hT Yd.lookup ?_);show wpAny _ _ (if(some (Value.builtin "tuple.__hash__") == some Yf)=true then _ else _) Q E s;rw[NJ (by rw[beq_builtin_none];exact Qx)];refine GF (Tn hT Yd.lookup ?_);show wpAny _ _ (callSpecialIfBoundUnlessNone? 3.1 "__hash__" _ >>= _) Q E s;refine GF (wpAny_callSpecialIfBoundUnlessNone?_slot hT Yd (GV Yd hT F.entry_tuple_hash ?_ (F.args_tuple_hash_1 _)));show wpAny _ _ (Yh 3.1 >>= _) _ _ s;refine GF (wpAny_tupleItemsOf ho hdt ?_);refine GF ?_;rw[<- JS]
     refine TX _
      (λrest (b:Array Int) s'=>∃left as',Ts s.heap rest left as'/\(∀d∈left,d∈ds)/\b.toList++hDs w left=hDs w ds/\∃k,s' = { s with toks:=s.toks+k }/\k+drs left=drs ds)
      _ ?_ ?_ _ _ ⟨ds,_,hr,λ_ z=>z,rfl,0,rfl,Yo _⟩
     .rintro x rest b s' ⟨left,as',hl,hm,hb,k,rfl,hk2⟩;obtain⟨d,ds',a1,b1,rfl,r1,r2⟩:=zbw hl;have hd':=hm d 0.1;have hdep:=zc3 hd';refine GF (ih d 0.0 (zdu hds d hd') A.in1 _ { s with toks:=s.toks+k } x a1 _ (by show A.units+1+d.depth<GZ;lia) r1 ?_);rw[hDs] at hb;rw[drs] at hk2
      first
       | exact GI ⟨ds',b1,r2,λe z=>hm e (Qe _ z),by simpa using hb,k+dr d,by simp[Yz],by lia⟩
       | exact GF (GI (GI ⟨ds',b1,r2,λe z=>hm e (Qe _ z),by simpa using hb,k+dr d,by simp[Yz],by lia⟩))
     .rintro b s' ⟨left,as',hl,hm,hb,k,rfl,hk2⟩;cases hl;simp only[hDs,QR] at hb;simp only[drs,YH] at hk2;show wpAny _ _ (retInt (ZK b.toList)) _ _ _;rw[hb];refine wpAny_ret_mkInt ?_;rw[dr,hD] at h;show wpAny _ _ (if(decide (-(2:Int) ^ 63<=ZK (hDs w ds)) && decide (ZK (hDs w ds)<2 ^ 63))=true then _ else _) Q E _;unfold reduceHash at h;subst hk2
      by_cases hr':(decide (-(2:Int) ^ 63<=ZK (hDs w ds)) && decide (ZK (hDs w ds)<2 ^ 63))=true
      .rw[NI hr'];rw[NI hr'] at h;exact GI (by simpa[Yz] using h)
      .rw[NJ hr'];rw[NJ hr'] at h;exact GF (Tr (GI (by simpa[Yz] using h)))
   | _=>simp[hk] at hk'
theorem zew:∀(n:Nat) (d:GG),d.depth<=n->hk d=true->∀(A:GQ) (E:1.0) (s:GJ) (v:GH) (as:5.6) (Q:Bool->GJ->Prop),Tg s.heap v d as->Q true s->wpAny 1.5 A (eqIsQuiet n v) Q E s:=by
 intro n
 induction n with
 | zero=>
   intro d hd hk' A E s v as Q r h
   cases r with
   | int i t=>exact TK (Mk _ rfl) h
   | str x t=>exact TK (Mk _ rfl) h
   | tuple _ _ _ _=>simp[QU] at hd
   | _=>simp[hk] at hk'
 | succ n ih=>
   intro d hd hk' A E s v as Q r h
   cases r with
   | int i t=>exact TK (Mk _ rfl) h
   | str x t=>exact TK (Mk _ rfl) h
   | @tuple a o vs c ds as ho hc hdt hr=>
     have hds:hks ds=true:=by simpa[hk] using hk'
     rw[QU] at hd;have hT:s.TypeIs 3.1 "tuple" := ⟨o,ho,hc⟩;unfold eqIsQuiet;refine GF (Tn hT F.slot_tuple_eq.lookup ?_);show wpAny _ _ (isInstance 3.1 (.type "tuple") >>= _) _ _ s;refine GF (Me hT isSubtype_tuple_tuple ?_);simp only[Y0,QT,NQ];refine GF (M0 ho hdt ?_);refine GF ?_;show wpAny _ _ (forIn vs _ _) _ _ s;rw[<- JS];refine TX _ (λrest r s'=>r.1=none/\s'=s/\∃left as',Ts s.heap rest left as'/\∀d∈left,d∈ds) _ ?_ ?_ _ _ ⟨rfl,rfl,ds,_,hr,λ_ z=>z⟩
     .rintro v rest r s' ⟨hr',rfl,left,as',hl,hm⟩;obtain⟨d,ds',a1,b1,rfl,r1,r2⟩:=zbw hl;have hd':=hm d 0.1;have hdep:=zc3 hd';refine GF (ih d 0.0 (zdu hds d hd') _ _ _ v a1 _ r1 ?_);simp only[Y0,QT,NQ];exact GI ⟨rfl,rfl,ds',b1,r2,λe z=>hm e (Qe _ z)⟩
     .rintro⟨r1,r2⟩ s' ⟨hr',rfl,_⟩;simp only at hr';subst hr';exact GI h
   | _=>simp[hk] at hk'
theorem zh1:∀(n:Nat) (d:GG),d.depth<=n->hk d=true->∀(A:GQ) (E:1.0) (s:GJ) (v:GH) (as:5.6) (Q:Bool->GJ->Prop),Tg s.heap v d as->Q false s->wpAny 1.5 A (ofAClassStatement n v) Q E s:=by
 intro n
 induction n with
 | zero=>
   intro d hd hk' A E s v as Q r h
   cases r with
   | int i t=>exact GI h
   | str x t=>exact GI h
   | tuple _ _ _ _=>simp[QU] at hd
   | _=>simp[hk] at hk'
 | succ n ih=>
   intro d hd hk' A E s v as Q r h
   cases r with
   | int i t=>exact GI h
   | str x t=>exact GI h
   | @tuple a o vs c ds as ho hc hdt hr=>
     have hds:hks ds=true:=by simpa[hk] using hk'
     rw[QU] at hd;have hT:s.TypeIs 3.1 "tuple" := ⟨o,ho,hc⟩;unfold ofAClassStatement;refine GF (TL hT ?_);refine GF (GI ?_);refine SX.wp_f 0.2 ?_;refine GF (M0 ho hdt ?_);refine GF ?_;show wpAny _ _ (forIn vs _ _) _ _ s;rw[<- JS];refine TX _ (λrest r s'=>r.1=none/\s'=s/\∃left as',Ts s.heap rest left as'/\∀d∈left,d∈ds) _ ?_ ?_ _ _ ⟨rfl,rfl,ds,_,hr,λ_ z=>z⟩
     .rintro v rest r s' ⟨hr',rfl,left,as',hl,hm⟩;obtain⟨d,ds',a1,b1,rfl,r1,r2⟩:=zbw hl;have hd':=hm d 0.1;have hdep:=zc3 hd';refine GF (ih d 0.0 (zdu hds d hd') _ _ _ v a1 _ r1 ?_);simp only[QT,NQ];exact GI ⟨rfl,rfl,ds',b1,r2,λe z=>hm e (Qe _ z)⟩
     .rintro⟨r1,r2⟩ s' ⟨hr',rfl,_⟩;simp only at hr';subst hr';exact GI h
   | _=>simp[hk] at hk'
theorem zuq:∀(n:Nat) (d:GG),d.depth<=n->hk d=true->∀(A:GQ) (E:1.0) (s:GJ) (v:GH) (as:5.6) (Q:Bool->GJ->Prop),Tg s.heap v d as->Q (bv d) s->wpAny 1.5 A (hashByValue n v) Q E s:=by
 intro n
 induction n with
 | zero=>
   intro d hd hk' A E s v as Q r h
   cases r with
   | int i t=>exact TK (TC 0 rfl) h
   | str x t=>exact TK (TC 0 rfl) h
   | tuple _ _ _ _=>simp[QU] at hd
   | _=>simp[hk] at hk'
 | succ n ih=>
   intro d hd hk' A E s v as Q r h
   cases r with
   | int i t=>exact TK (TC _ rfl) h
   | str x t=>exact TK (TC _ rfl) h
   | @tuple a o vs c ds as ho hc hdt hr=>
     have hds:hks ds=true:=by simpa[hk] using hk'
     rw[QU] at hd;rw[bv] at h;have hT:s.TypeIs 3.1 "tuple" := ⟨o,ho,hc⟩;unfold hashByValue;refine GF (Tn hT Yd.lookup ?_);show wpAny _ _ (seqItems? 3.1 >>= _) _ _ s;refine GF (M0 ho hdt ?_);refine GF ?_;show wpAny _ _ (forIn vs _ _) _ _ s;rw[<- JS];refine TX _ (λrest r s'=>r.1=none/\s'=s/\∃left as',Ts s.heap rest left as'/\(∀d∈left,d∈ds)/\bvs left=bvs ds) _ ?_ ?_ _ _ ⟨rfl,rfl,ds,_,hr,λ_ z=>z,rfl⟩
     .rintro v rest r s' ⟨hr',rfl,left,as',hl,hm,hb⟩;obtain⟨d,ds',a1,b1,rfl,r1,r2⟩:=zbw hl;have hd':=hm d 0.1;have hdep:=zc3 hd';refine GF (ih d 0.0 (zdu hds d hd') _ _ _ v a1 _ r1 ?_);rw[bvs] at hb
      cases e:bv d with
      | true=>
        rw[e] at hb;simp only[Y0,QT,NQ];exact GI ⟨rfl,rfl,ds',b1,r2,λe z=>hm e (Qe _ z),by simpa using hb⟩
      | false=>
        rw[e] at hb;simp only[V1,NR];rw[<- hb] at h;exact GI (GI h)
     .rintro⟨r1,r2⟩ s' ⟨hr',rfl,left,as',hl,hm,hb⟩;simp only at hr';subst hr';cases hl;rw[<- hb] at h;exact GI h
   | _=>simp[hk] at hk'
end
end HK
namespace HK
open PySem PySem.Spec PyProof.Rows PySem.W
mutual
def dlt:GG->GG->Bool
 | .int i,.int j=>decide (i<j)
 | .str x,.str y=>decide (x.cps.toList<y.cps.toList)
 | .tuple xs,.tuple ys=>dlts xs ys
 | _,_=>false
def dlts:List GG->List GG->Bool
 | [],[]=>false
 | [],_::_=>true
 | _::_,[]=>false
 | x::xs,y::ys=>if QC x y then dlts xs ys else dlt x y
end
inductive Sh where
 | n
 | t
 | arr (s:Sh)
 | fnil
 | fcons (a r:Sh)
def zaj:Sh->GG->Prop
 | .n,d=>∃i,d = .int i
 | .t,d=>∃x,d = .str x
 | .arr s,d=>∃xs,d = .tuple xs/\∀x∈xs,zaj s x
 | .fnil,d=>d = .tuple []
 | .fcons a r,d=>∃x xs,d = .tuple (x::xs)/\zaj a x/\zaj r (.tuple xs)
theorem zt4:∀{ds:2.3},(∀d∈ds,hk d=true)->hks ds=true
 | [],_=>rfl
 | d::ds,h=>by rw[hks,h d 0.1,zt4 λe z=>h e (Qe _ z)];rfl
theorem zhn:∀(σ:Sh) (d:GG),zaj σ d->hk d=true
 | .n,_,⟨_,e⟩=>by subst e;rfl
 | .t,_,⟨_,e⟩=>by subst e;rfl
 | .arr s,_,⟨xs,e,h⟩=>by subst e;rw[hk];exact zt4 λd z=>zhn s d (h d z)
 | .fnil,_,e=>by subst e;rfl
 | .fcons a r,_,⟨x,xs,e,h1,h2⟩=>by
   subst e;have:=zhn r _ h2;rw[hk] at this;rw[hk,hks,zhn a x h1,this];rfl
theorem zjb{d:GG}(h:zaj σ d)(h':zaj σ e):QC d e=true↔d=e:=L3.eqv_solid d e (zcm d (zhn σ d h)) (zcm e (zhn σ e h'))
structure TO(F:GG->Prop):Prop where
 irr:∀a,F a->dlt a a=false
 tr:∀a b c,F a->F b->F c->dlt a b=true->dlt b c=true->dlt a c=true
 tri:∀a b,F a->F b->dlt a b=true\/a=b\/dlt b a=true
theorem zco(hx:zaj σ x)(hy:zaj σ y)(xs ys:2.3):dlts (x::xs) (y::ys)=true↔(x=y/\dlts xs ys=true)\/(x≠y/\dlt x y=true):=by
 rw[dlts]
 by_cases e:x=y
 .rw[NI ((zjb hx hy).mpr e)];simp[e]
 .rw[NJ (λc=>e ((zjb hx hy).mp c))];simp[e]
theorem znl(T:TO (zaj σ)):∀{xs:2.3},(∀x∈xs,zaj σ x)->dlts xs xs=false
 | [],_=>rfl
 | x::xs,h=>by
   have hx:=h x 0.1;rw[dlts,NI ((zjb hx hx).mpr rfl)];exact znl T λy z=>h y (Qe _ z)
theorem zp7(T:TO (zaj σ))(hx:zaj σ x)(hy:zaj σ y)(hz:zaj σ z)(ih:dlts xs ys=true->dlts ys zs=true->dlts xs zs=true)(h1:dlts (x::xs) (y::ys)=true)(h2:dlts (y::ys) (z::zs)=true):dlts (x::xs) (z::zs)=true:=by
 rw[zco hx hz];rcases(zco hx hy xs ys).mp h1 with ⟨rfl,a⟩|⟨a,b⟩
 .rcases(zco hx hz ys zs).mp h2 with ⟨rfl,c⟩|⟨c,d⟩
  .exact .inl ⟨rfl,ih a c⟩
  .exact .inr ⟨c,d⟩
 .rcases(zco hy hz ys zs).mp h2 with ⟨rfl,c⟩|⟨c,d⟩
  .exact .inr ⟨a,b⟩
  .have t:=T.tr x y z hx hy hz b d;refine .inr ⟨λe=>?_,t⟩;rw[e,T.irr z hz] at t;cases t
theorem zqw(T:TO (zaj σ)):∀{xs ys zs:2.3},(∀x∈xs,zaj σ x)->(∀x∈ys,zaj σ x)->(∀x∈zs,zaj σ x)->dlts xs ys=true->dlts ys zs=true->dlts xs zs=true
 | [],[],_,_,_,_,h,_=>by cases h
 | [],_::_,[],_,_,_,_,h=>by cases h
 | [],_::_,_::_,_,_,_,_,_=>rfl
 | _::_,[],_,_,_,_,h,_=>by cases h
 | _::_,_::_,[],_,_,_,_,h=>by cases h
 | x::xs,y::ys,z::zs,a,b,c,h1,h2=>zp7 T (a x 0.1) (b y 0.1) (c z 0.1) (zqw T (λq w=>a q (Qe _ w)) (λq w=>b q (Qe _ w)) (λq w=>c q (Qe _ w))) h1 h2
theorem znq(T:TO (zaj σ))(hx:zaj σ x)(hy:zaj σ y)(ih:dlts xs ys=true\/xs=ys\/dlts ys xs=true):dlts (x::xs) (y::ys)=true\/x::xs=y::ys\/dlts (y::ys) (x::xs)=true:=by
 rw[zco hx hy,zco hy hx]
 by_cases e:x=y
 .subst e;rcases ih with i|i|i
  .exact .inl (.inl ⟨rfl,i⟩)
  .exact .inr (.inl (by rw[i]))
  .exact .inr (.inr (.inl ⟨rfl,i⟩))
 .rcases T.tri x y hx hy with i|i|i
  .exact .inl (.inr ⟨e,i⟩)
  .exact absurd i e
  .exact .inr (.inr (.inr ⟨Z8 e,i⟩))
theorem zpd(T:TO (zaj σ)):∀{xs ys:2.3},(∀x∈xs,zaj σ x)->(∀x∈ys,zaj σ x)->dlts xs ys=true\/xs=ys\/dlts ys xs=true
 | [],[],_,_=>.inr (.inl rfl)
 | [],_::_,_,_=>.inl rfl
 | _::_,[],_,_=>.inr (.inr rfl)
 | x::xs,y::ys,a,b=>znq T (a x 0.1) (b y 0.1) (zpd T (λq w=>a q (Qe _ w)) (λq w=>b q (Qe _ w)))
theorem z3m{x y:Str}(h:x.cps.toList=y.cps.toList):x=y:=by
 obtain⟨a⟩:=x;obtain⟨b⟩:=y
 congr
 exact YR.mp h
theorem zjr:∀σ:Sh,TO (zaj σ)
 | .n=>by
   refine⟨λa zz=>?_,λa b c ⟨i,e⟩ ⟨j,e2⟩ ⟨k,e3⟩ h1 h2=>?_,λa b ⟨i,e⟩ ⟨j,e2⟩=>?_⟩
   .obtain⟨i,e⟩:=zz;subst e;simp[dlt]
   .subst e e2 e3;simp[dlt] at *;lia
   .subst e e2;simp[dlt];lia
 | .t=>by
   refine⟨λa zz=>?_,λa b c ⟨i,e⟩ ⟨j,e2⟩ ⟨k,e3⟩ h1 h2=>?_,λa b ⟨i,e⟩ ⟨j,e2⟩=>?_⟩
   .obtain⟨i,e⟩:=zz;subst e;simp[dlt,JJ]
   .subst e e2 e3;simp only[dlt,NN] at *;exact Vc h1 h2
   .subst e e2;simp only[dlt,NN]
    by_cases c:i.cps.toList<j.cps.toList
    .exact .inl c
    .by_cases c2:j.cps.toList<i.cps.toList
     .exact .inr (.inr c2)
     .exact .inr (.inl (by rw[z3m (Gh (Ve.mp c2) (Ve.mp c))]))
 | .arr s=>by
   have T:=zjr s;refine⟨λa zz=>?_,λa b c ⟨xs,e,h⟩ ⟨ys,e2,h2⟩ ⟨zs,e3,h3⟩ h4 h5=>?_,λa b ⟨xs,e,h⟩ ⟨ys,e2,h2⟩=>?_⟩
   .obtain⟨xs,e,h⟩:=zz;subst e;exact znl T h
   .subst e e2 e3;exact zqw T h h2 h3 h4 h5
   .subst e e2;rcases zpd T h h2 with i|i|i
    .exact .inl i
    .exact .inr (.inl (by rw[i]))
    .exact .inr (.inr i)
 | .fnil=>by
   refine⟨λa e=>?_,λa b c e e2 e3 h4 h5=>?_,λa b e e2=>?_⟩
   .have e:a = .tuple []:=e;subst e;rfl
   .have e:a = .tuple []:=e;have e2:b = .tuple []:=e2;subst e e2;cases h4
   .have e:a = .tuple []:=e;have e2:b = .tuple []:=e2;exact .inr (.inl (e.trans e2.symm))
 | .fcons f r=>by
   have T:=zjr f;have U:=zjr r;refine⟨λa zz=>?_,λa b c ⟨x,xs,e,h,g⟩ ⟨y,ys,e2,h2,g2⟩ ⟨z,zs,e3,h3,g3⟩ h4 h5=>?_,λa b ⟨x,xs,e,h,g⟩ ⟨y,ys,e2,h2,g2⟩=>?_⟩
   .obtain⟨x,xs,e,h,g⟩:=zz;subst e;show dlts (x::xs) (x::xs)=false;rw[dlts,NI ((zjb h h).mpr rfl)];exact U.irr _ g
   .subst e e2 e3;exact zp7 T h h2 h3 (λp q=>U.tr _ _ _ g g2 g3 p q) h4 h5
   .subst e e2
    have:=znq T h h2 (xs:=xs) (ys:=ys) (by
     rcases U.tri _ _ g g2 with i|i|i
     .exact .inl i
     .exact .inr (.inl (by injection i))
     .exact .inr (.inr i))
    rcases this with i|i|i
    .exact .inl i
    .exact .inr (.inl (by rw[i]))
    .exact .inr (.inr i)
theorem zz5(σ:Sh):L6.WO (λa b:{ d:GG // zaj σ d }=>dlt a.1 b.1):=by
 have T:=zjr σ;refine⟨λa=>T.irr _ a.2,λa b c h h'=>T.tr _ _ _ a.2 b.2 c.2 h h',λa b c h=>?_⟩;rcases T.tri a.1 b.1 a.2 b.2 with i|i|i
 .exact .inl i
 .right;rw[<- i];exact h
 .exact .inr (T.tr _ _ _ b.2 a.2 c.2 i h)
end HK
namespace HK
open PySem PySem.Spec PyProof.Rows PySem.W
def LtOk(d e:GG):Prop:=∀(prog:GK) (w:GM) (A:GQ) (E:1.0) (s:GJ) (v u:GH) (as bs:5.6) (Q:1.0),Tg s.heap v d as->Tg s.heap u e bs->A.units+d.depth+2<GZ->Q (.bool (dlt d e)) s->wpAny 1.3 A (Tb .Lt v u) Q E s
section
open PySem.SeqAt
open PySem.AutoSeq1 (wpAny_loadPart')
open PySem.MeetsSeq PySem.MeetsSeq2 PySem.MeetsSeq3
theorem zgi(l b:Addr)(items items2:Array GH)(n n2:Nat)(dd dd2:Option Addr)(sl sl2:Array (Option GH))(xs ys:2.3)(hx:Qy xs=true)(hy:Qy ys=true)(hp:∀p∈xs.zip ys,LtOk p.1 p.2):
 Meets (Builtin.«tuple.__lt__» ⟨[.ref l,.ref b],[]⟩)
  (λA R s=>s.heap.get? l=some { cls:=.type "tuple",dict:=dd,data:=.seq items n,slots:=sl }/\s.heap.get? b=some { cls:=.type "tuple",dict:=dd2,data:=.seq items2 n2,slots:=sl2 } /\
   (∃as bs,Ts s.heap items.toList xs as/\Ts s.heap items2.toList ys bs)/\A.units+Zb xs+3<GZ/\R (.ok (.ret (.bool (dlts xs ys)))) s) :=
 .of_wp λprog w A R s h=>by
  obtain⟨hp',g,d,tk,os⟩:=s;obtain⟨hl,hb,⟨as,bs,r1,r2⟩,hu,h⟩:=h;have f2:=AutoSeq1.sub_tuple_tuple;have z1:items.size=xs.length:=by simpa using ReadsAll.length _ _ _ r1
  have z2:items2.size=ys.length:=by simpa using ReadsAll.length _ _ _ r2
  wp_walk using MV hl,MV hb,TX _ (λrest b s'=>b.1=none/\s'=⟨hp',g,d,tk,os⟩/\∃(vs ws:2.8) (xs' ys':2.3) (as' bs':5.6),rest=vs.zip ws /\
   Ts hp' vs xs' as'/\Ts hp' ws ys' bs'/\xs'.length+items2.size=ys'.length+items.size/\Qy xs'=true/\Qy ys'=true/\(∀p∈xs'.zip ys',LtOk p.1 p.2)/\Zb xs'<=Zb xs/\R (.ok (.ret (.bool (dlts xs' ys')))) ⟨hp',g,d,tk,os⟩) _
  case turn=>
   rintro⟨y,x⟩ rest b s' ⟨hb',rfl,vs,ws,xs',ys',as',bs',hz,hvi,hwi,hlen,cx,cy,hpp,hdp,hR⟩
   cases hvi with
   | nil=>rw[UU] at hz;cases hz
   | @cons v vs d1 ds1 a1 b1 q1 hvi'=>
     cases hwi with
     | nil=>rw[U9] at hz;cases hz
     | @cons v2 vs2 d2 ds2 a2 b2 q2 hwi'=>
       rw[Y5] at hz;injection hz with hyx hrest;injection hyx with hy' hx';subst hy' hx';rw[dlts] at hR;simp only[Ql] at hlen;simp only[Qy,Q9] at cx cy;rw[Zb] at hdp;refine GF (eqBoolOverData _ _ _ _ _ _ _ d1 d2 _ _ _ q1 q2 cx.1 cy.1 (by show A.units+1+min d1.depth d2.depth<GZ;lia) ?_)
       cases e:QC d1 d2 with
       | true=>
         rw[e,NI rfl] at hR
         wp_walk
         exact⟨rfl,rfl,_,_,_,_,_,_,hrest,hvi',hwi',by lia,cx.2,cy.2,λp z=>hpp p (Qe _ z),by lia,hR⟩
       | false=>
         rw[e,NJ Qx] at hR
         have hri:∀(E:1.0) (Q:1.0),Q (.bool (dlt d1 d2)) ⟨hp',g,d,tk,os⟩->wpAny 1.3 A.in1 (richCompare .Lt y x) Q E ⟨hp',g,d,tk,os⟩:=λE Q q=>
          hpp (d1,d2) 0.1 prog w A.in1 E ⟨hp',g,d,tk,os⟩ y x _ _ Q q1 q2 (by show A.units+1+d1.depth+2<GZ;lia) q
         wp_walk using hri
         exact⟨_,rfl,by simpa using hR⟩
  case fin=>
   rintro⟨b1,b2⟩ s' ⟨hb',rfl,vs,ws,xs',ys',as',bs',hz,hvi,hwi,hlen,cx,cy,hpp,hdp,hR⟩;simp only at hb';subst hb'
   have hv:dlts xs' ys'=decide (items.size<items2.size):=by
    cases hvi with
    | nil=>
      cases hwi with
      | nil=>
        simp only[JU] at hlen;exact(NK 0.0).symm
      | cons c u=>
        simp only[JU,Ql] at hlen;exact(NM 0.0).symm
    | cons a t=>
      cases hwi with
      | nil=>
        simp only[JU,Ql] at hlen;exact(NK 0.0).symm
      | cons c u=>
        rw[Y5] at hz;cases hz
   rw[hv] at hR
   wp_walk
   exact⟨_,rfl,by simpa[Builtin.Tuple.tupleCompareSizes] using hR⟩
  case h=>
   exact⟨rfl,rfl,items.toList,items2.toList,xs,ys,as,bs,rfl,r1,r2,by lia,hx,hy,hp,Qg _,h⟩
end
theorem zf5(hx:Qy xs=true)(hy:Qy ys=true)(hp:∀p∈xs.zip ys,LtOk p.1 p.2):LtOk (.tuple xs) (.tuple ys):=λprog w A E s v u as bs Q r1 r2 hu h=>by
 cases r1 with
 | @tuple a o vs c _ _ h1 h2 h3 h4=>
   cases r2 with
   | @tuple a2 o2 vs2 c2 _ _ k1 k2 k3 k4=>
     obtain⟨oc,odd,od,osl⟩:=o;obtain⟨oc2,odd2,od2,osl2⟩:=o2;simp only at h2 h3 k2 k3;subst h2 h3 k2 k3;rw[QU] at hu
     exact richCompare_meets_room (op:=.Lt) ⟨_,h1,rfl⟩ ⟨_,k1,rfl⟩ PySem.F.slot_tuple_lt PySem.F.entry_tuple_lt (PySem.F.args_tuple_lt_2 _ _) (zgi a a2 vs vs2 c c2 odd odd2 osl osl2 xs ys hx hy hp)
      ⟨h1,k1,⟨_,_,h4,k4⟩,by lia,show JO (dlts xs ys)≠Value.notImplemented/\Q (.bool (dlts xs ys)) s from⟨(λx=>nomatch x),h⟩⟩ 0.0
end HK
namespace HK
open PySem PySem.Spec PyProof.Rows PySem.W
def zhf(d e:GG):Prop:=∀(prog:GK) (w:GM) (A:GQ) (E:1.0) (s:GJ) (v u:GH) (as bs:5.6) (b:Bool) (Q:Bool->GJ->Prop),Tg s.heap v d as->Tg s.heap u e bs->A.units+d.depth+2<GZ->Q (dlt d e) s->wpAny 1.3 A (oneLt' b v u) Q E s
theorem zj4:∀{xs:2.3},Qy xs=true->∀x∈xs,x.canLay0=true
 | x::xs,h,y,hy=>by
   simp only[Qy,Q9] at h;rcases Qz.mp hy with rfl|hy
   .exact h.1
   .exact zj4 h.2 y hy
theorem zg0{d:GG}(L:LtOk d e)(prog:GK)(w:GM)(A:GQ)(E:1.0)(s:GJ)(v u:GH)(as bs:5.6)(Q:Bool->GJ->Prop)(r1:Tg s.heap v d as)(r2:Tg s.heap u e bs)(hu:A.units+d.depth+2<GZ)(h:Q (dlt d e) s):wpAny 1.3 A (oneLt' false v u) Q E s :=
 kat_one v u (L prog w A E s v u as bs _ r1 r2 hu h)
theorem zej(hx:Qy xs=true)(hy:Qy ys=true)(hp:∀p∈xs.zip ys,LtOk p.1 p.2):zhf (.tuple xs) (.tuple ys):=λprog w A E s v u as bs b Q r1 r2 hu h=>by
 cases b with
 | false=>exact zg0 (zf5 hx hy hp) prog w A E s v u as bs Q r1 r2 hu h
 | true=>
   cases r1 with
   | @tuple a o vs c _ _ h1 h2 h3 h4=>
     cases r2 with
     | @tuple a2 o2 vs2 c2 _ _ k1 k2 k3 k4=>
       obtain⟨oc,odd,od,osl⟩:=o;obtain⟨oc2,odd2,od2,osl2⟩:=o2;simp only at h2 h3 k2 k3;subst h2 h3 k2 k3;rw[QU] at hu;rw[oneLt'_eq];simp only[NR];refine GF (wpAny_cRoomFor_or (.inr 0.0) ?_);refine GF (wpAny_callSpecialIfBound?_slot ⟨_,h1,rfl⟩ F.slot_tuple_lt (MJ F.slot_tuple_lt ⟨_,h1,rfl⟩ F.entry_tuple_lt (F.args_tuple_lt_2 _ _) (zgi a a2 vs vs2 c c2 odd odd2 osl osl2 xs ys hx hy hp) ⟨h1,k1,⟨_,_,h4,k4⟩,by lia,?_⟩));exact Td h
theorem zaq(h:(JT xs).canLay0=true):Qy xs=true:=by simpa[ZR] using h
theorem both:∀σ:Sh,(∀d e,zaj σ d->zaj σ e->d.canLay0=true->e.canLay0=true->LtOk d e/\zhf d e)/\(∀xs ys,zaj σ (.tuple xs)->zaj σ (.tuple ys)->Qy xs=true->Qy ys=true->∀p∈xs.zip ys,LtOk p.1 p.2/\zhf p.1 p.2)
 | .n=>by
   refine⟨λd e ⟨i,h1⟩ ⟨j,h2⟩ _ _=>?_,λxs ys ⟨i,h1⟩=>by cases h1⟩;subst h1 h2
   have L:LtOk (.int i) (.int j):=λprog w A E s v u as bs Q r1 r2 hu h=>by
    cases r1;cases r2;exact lt_int (by simpa[dlt] using h)
   refine⟨L,λprog w A E s v u as bs b Q r1 r2 hu h=>?_⟩
   cases b with
   | false=>exact zg0 L prog w A E s v u as bs Q r1 r2 hu h
   | true=>
     cases r1;cases r2;exact oneLt_int (by simpa[dlt] using h)
 | .t=>by
   refine⟨λd e ⟨i,h1⟩ ⟨j,h2⟩ _ _=>?_,λxs ys ⟨i,h1⟩=>by cases h1⟩;subst h1 h2
   have L:LtOk (.str i) (.str j):=λprog w A E s v u as bs Q r1 r2 hu h=>by
    cases r1;cases r2;exact lt_str (by simpa[dlt] using h)
   refine⟨L,λprog w A E s v u as bs b Q r1 r2 hu h=>?_⟩
   cases b with
   | false=>exact zg0 L prog w A E s v u as bs Q r1 r2 hu h
   | true=>
     cases r1;cases r2;exact oneLt_str (by simpa[dlt] using h)
 | .arr s=>by
   obtain⟨B,_⟩:=both s
   have pr:∀xs ys,zaj (.arr s) (.tuple xs)->zaj (.arr s) (.tuple ys)->Qy xs=true->Qy ys=true->∀p∈xs.zip ys,LtOk p.1 p.2/\zhf p.1 p.2:=λxs ys ⟨xs',e1,h1⟩ ⟨ys',e2,h2⟩ c1 c2 p hp=>by
    cases e1;cases e2;obtain⟨q1,q2⟩:=Vj (show(p.1,p.2)∈xs.zip ys from hp);exact B p.1 p.2 (h1 _ q1) (h2 _ q2) (zj4 c1 _ q1) (zj4 c2 _ q2)
   refine⟨λd e hd he cd ce=>?_,pr⟩;obtain⟨xs,rfl,h1⟩:=id hd;obtain⟨ys,rfl,h2⟩:=id he;have hp:=pr xs ys hd he (zaq cd) (zaq ce);exact⟨zf5 (zaq cd) (zaq ce) λp z=>(hp p z).1,zej (zaq cd) (zaq ce) λp z=>(hp p z).1⟩
 | .fnil=>by
   refine⟨λd e hd he _ _=>?_,λxs ys hd _ _ _ p hp=>?_⟩
   .have hd:d = .tuple []:=hd;have he:e = .tuple []:=he;subst hd he;exact⟨zf5 rfl rfl (λp z=>(ZJ z).elim),zej rfl rfl (λp z=>(ZJ z).elim)⟩
   .have hd:JT xs = .tuple []:=hd;cases hd;cases hp
 | .fcons a r=>by
   obtain⟨B,_⟩:=both a;obtain⟨_,C⟩:=both r
   have pr:∀xs ys,zaj (.fcons a r) (.tuple xs)->zaj (.fcons a r) (.tuple ys)->Qy xs=true->Qy ys=true->∀p∈xs.zip ys,LtOk p.1 p.2/\zhf p.1 p.2:=λxs ys ⟨x,xs',e1,h1,g1⟩ ⟨y,ys',e2,h2,g2⟩ c1 c2 p hp=>by
    cases e1;cases e2;simp only[Qy,Q9] at c1 c2;rw[Y5] at hp;rcases Qz.mp hp with rfl|hp
    .exact B x y h1 h2 c1.1 c2.1
    .exact C xs' ys' g1 g2 c1.2 c2.2 p hp
   refine⟨λd e hd he cd ce=>?_,pr⟩;obtain⟨x,xs,rfl,h1,g1⟩:=id hd;obtain⟨y,ys,rfl,h2,g2⟩:=id he;have hp:=pr _ _ hd he (zaq cd) (zaq ce);exact⟨zf5 (zaq cd) (zaq ce) λp z=>(hp p z).1,zej (zaq cd) (zaq ce) λp z=>(hp p z).1⟩
section
variable {prog:GK}{w:GM}{A:GQ}{E:1.0}{s:GJ}
theorem zpa{b fin:Bool}: ∀(vs us:2.8) (xs ys:2.3) (as bs:5.6) (i:Nat),Ts s.heap vs xs as->Ts s.heap us ys bs->Qy xs=true->Qy ys=true->(∀p∈xs.zip ys,zhf p.1 p.2)->A.units+Zb xs+2<GZ->fin=decide (xs.length<ys.length)->Q (dlts xs ys) s->KatLex prog w A b fin Q (vs.zip us) i s
 | [],us,xs,ys,as,bs,i,r1,r2,_,_,_,_,hf,h=>by
   cases r1;rw[UU];refine kat_nil ?_
   cases ys with
   | nil=>rw[hf];exact h
   | cons y ys=>rw[hf];exact h
 | v::vs,[],xs,ys,as,bs,i,r1,r2,_,_,_,_,hf,h=>by
   cases r2;rw[U9];refine kat_nil ?_;obtain⟨d,ds',a,b',rfl,_,_⟩:=zbw r1;rw[hf];exact h
 | v::vs,u::us,xs,ys,as,bs,i,r1,r2,c1,c2,hp,hu,hf,h=>by
   obtain⟨d,ds,a1,b1,rfl,q1,t1⟩:=zbw r1;obtain⟨e,es,a2,b2,rfl,q2,t2⟩:=zbw r2;simp only[Qy,Q9] at c1 c2;rw[Zb] at hu;rw[Y5];rw[dlts] at h;refine kat_cons (Vg _ _ _ _ _ _ _ d e _ _ _ q1 q2 c1.1 c2.1 0.0 ?_)
   cases he:QC d e with
   | true=>
     rw[he,NI rfl] at h;refine kat_yes (zpa vs us ds es b1 b2 (i+1) t1 t2 c1.2 c2.2 (λp z=>hp p (Qe _ z)) 0.0 ?_ h);rw[hf];simp
   | false=>
     rw[he,NJ Qx] at h;exact kat_no (hp (d,e) 0.1 prog w A _ s v u a1 a2 _ _ q1 q2 (by show A.units+d.depth+2<GZ;lia) h)
def tyS:Sh->String
 | .n=> "int"
 | .t=> "str"
 | _=> "tuple"
def hdS:Sh->Sh
 | .arr s=>s
 | .fcons a _=>a
 | s=>s
theorem z9d:∀{σ:Sh} {x:GG} {xs:2.3},zaj σ (.tuple (x::xs))->zaj (hdS σ) x
 | .n,_,_,⟨_,e⟩=>by cases e
 | .t,_,_,⟨_,e⟩=>by cases e
 | .arr s,_,_,⟨_,e,h⟩=>by cases e;exact h _ 0.1
 | .fnil,_,_,e=>by
   have e:JT _=JT []:=e;cases e
 | .fcons a r,_,_,⟨_,_,e,h,_⟩=>by cases e;exact h
theorem zgb(h1:h.get? b=some o)(h2:o.cls = .type "tuple"):Looks M h (N4 5.9) (.type "tuple"):=by
 have:=(show Looks M h (N4 5.9) o.cls from(Looks.ld h1).andThen .now);rw[h2] at this;exact this
theorem z1u: ∀{σ:Sh} {d:GG} {v:GH} {as:5.6},zaj σ d->Tg h v d as->Looks M h (N4 v) (.type (tyS σ))
 | .n,_,_,_,⟨_,e⟩,r=>by subst e;cases r;exact .now
 | .t,_,_,_,⟨_,e⟩,r=>by subst e;cases r;exact .now
 | .arr s,_,_,_,⟨_,e,_⟩,r=>by
   subst e
   cases r with
   | tuple h1 h2 h3 h4=>exact zgb h1 h2
 | .fnil,_,_,_,e,r=>by
   have e:_=JT []:=e;subst e
   cases r with
   | tuple h1 h2 h3 h4=>exact zgb h1 h2
 | .fcons _ _,_,_,_,⟨_,_,e,_,_⟩,r=>by
   subst e
   cases r with
   | tuple h1 h2 h3 h4=>exact zgb h1 h2
def TupS(σ:Sh)(h:Heap)(v:GH):Prop:=∃b ds as,v = .ref b/\Tg h 5.9 (.tuple ds) as/\zaj σ (.tuple ds)
theorem zl4: ∀(vs:2.8),(∀v∈vs,TupS σ s.heap v)->∃fs:List (Option GH),fs.length=vs.length/\(∀f,some f∈fs->Looks M s.heap (N4 f) (.type (tyS (hdS σ))))/\∀(E:1.0) (Q:List (Option GH)->GJ->Prop),Q fs s->wpAny M A (vs.mapM firstOfTuple') Q E s
 | [],_=>⟨[],rfl,(λf z=>(ZJ z).elim),λE Q h=>by rw[List.mapM_nil];exact GI h⟩
 | v::vs,h=>by
   obtain⟨fs,h1,h2,h3⟩:=zl4 (M:=M) vs λu z=>h u (Qe _ z);obtain⟨b,ds,as,rfl,r,hs⟩:=h v 0.1
   cases r with
   | @tuple _ o items c _ _ k1 k2 k3 k4=>
     refine⟨items[0]? :: fs,by simp[h1],λf z=>?_,λE Q q=>?_⟩
     .rcases Qz.mp z with z|z
      .cases hv:items.toList with
       | nil=>
         rw[<- Q7,hv] at z;cases z
       | cons i its=>
         rw[hv] at k4;obtain⟨d,ds',a1,b1,rfl,q1,q2⟩:=zbw k4;rw[<- Q7,hv] at z;cases z;exact z1u (z9d hs) q1
      .exact h2 f z
     .rw[List.mapM_cons];refine GF ?_;rw[kas_first_eq];refine GF (Looks.here (show Looks M s.heap (N4 5.9) o.cls from(Looks.ld k1).andThen .now) ?_);rw[k2,NJ (by first|decide|simp)];refine GF (MM k1 k3 (GI ?_));exact GF (h3 _ _ (GI q))
theorem z3v{M:Model}{σ:Sh}{vs:2.8}(h:∀v∈vs,TupS σ s.heap v)(h2:2<=vs.length):∃kd:Tt,(kd=tuples' true\/kd=tuples' false\/kd=general'\/kd=NH)/\∀(E:1.0) (Q:Tt->GJ->Prop),Q kd s->wpAny M A (keyKind' vs.toArray) Q E s:=by
 obtain⟨fs,l1,l2,l3⟩:=zl4 (M:=M) (A:=A) vs h;have beqT:∀T:GH,(∃x,T = .type x)->(T == T)=true:=λT ⟨x,e⟩=>by subst e;simp
 by_cases ha:fs.toArray.all (λx=>x.isSome)=true
 .refine⟨tuples' (Zj (tyS (hdS σ)) != Zj "tuple"),?_,λE Q q=>?_⟩
  .cases (Zj (tyS (hdS σ)) != Zj "tuple")
   .exact .inr (.inl rfl)
   .exact .inl rfl
  .rw[N5,Ye,NT];refine GF (GF (l3 _ _ (GI ?_)));rw[NI ha];refine GF (Tr ?_);have hfm:(fs.toArray.filterMap id)=(fs.filterMap id).toArray:=by simp
   have hlen:0<(fs.filterMap id).length:=by
    cases fs with
    | nil=>simp at l1;lia
    | cons f fr=>
      cases f with
      | none=>simp at ha
      | some f=>simp
   rw[hfm,oneTypeOnly'_eq,Ye,NT];refine GF (GF (GF (kas_mapM (r:=Zj (tyS (hdS σ))) _ (λv hv Q' hq=>(l2 v (by simpa using hv)).here hq) (GI ?_))));generalize fs.filterMap id=gs at hlen ⊢
   obtain⟨g,gr,rfl⟩:∃g gr,gs=g::gr:=by
    match gs,hlen with
    | g::gr,_=>exact⟨g,gr,rfl⟩
   have hall2:((UM (λ_=>Zj (tyS (hdS σ))) (g::gr)).toArray.all λx=>x == Zj (tyS (hdS σ)))=true:=by
    simp only[Gk,UV,ZZ];intro _ _;exact beqT _ ⟨_,rfl⟩
   have h0:(UM (λ_=>Zj (tyS (hdS σ))) (g::gr)).toArray[0]? = some (Zj (tyS (hdS σ))):=by simp
   rw[h0];simp only[hall2,NR];exact GI (GI q)
 .by_cases hf:(fs.toArray[0]?.bind id).isSome=true
  .refine⟨general',.inr (.inr (.inl rfl)),λE Q q=>?_⟩;rw[N5,Ye,NT];refine GF (GF (l3 _ _ (GI ?_)));rw[NJ ha,NI hf];exact GI q
  .refine⟨NH,.inr (.inr (.inr rfl)),λE Q q=>?_⟩;rw[N5,Ye,NT];refine GF (GF (l3 _ _ (GI ?_)));rw[NJ ha,NJ hf];rw[oneTypeOnly'_eq,Ye,NT];refine GF (GF (GF (kas_mapM (r:=Zj "tuple") _ (λv hv Q' hq=>?_) (GI ?_))))
   .obtain⟨b,ds,as,rfl,r,hs⟩:=h v hv
    cases r with
    | tuple k1 k2 k3 k4=>
      exact(zgb k1 k2).here hq
   .obtain⟨v₁,rest,rfl⟩:∃v₁ rest,vs=v₁::rest:=by
     match vs,h2 with
     | v₁::rest,_=>exact⟨v₁,rest,rfl⟩
    have hall2:((UM (λ_=>Zj "tuple") (v₁::rest)).toArray.all λx=>x == Zj "tuple")=true:=by
     simp only[Gk,UV,ZZ];intro _ _;exact beqT _ ⟨_,rfl⟩
    have h0:(UM (λ_=>Zj "tuple") (v₁::rest)).toArray[0]? = some (Zj "tuple"):=by simp
    rw[h0];simp only[hall2,NR];exact GI (GI q)
theorem zp8{σ:Sh}{kd:2.3}{d0:GG}(h0:zaj σ d0)(h:∀d∈kd,zaj σ d)(i:Nat):zaj σ (kd.getD i d0):=by
 rw[Qw]
 cases e:kd[i]? with
 | none=>exact h0
 | some d=>exact h d (Qt e)
open L6 in
theorem z3q{σ:Sh}{kd:2.3}{vs:2.8}{d0:GG}(h0:zaj σ d0)(hs:∀d∈kd,zaj σ d)(hl:kd.length=vs.length)(la:∀d∈kd,d.canLay0=true)(de:∀d∈kd,d.depth<=8)(hu:A.units+12<GZ)
 (hk:∀(i:Nat) v d,vs[i]? = some v->kd[i]? = some d->∃b ds as,v = .ref b/\d = .tuple ds/\Tg s.heap 5.9 d as):KeysOk prog w A s vs vs (λa b:{ d:GG // zaj σ d }=>dlt a.1 b.1) (λi=>⟨kd.getD i d0,zp8 h0 hs i⟩):=by
 have hk':∀(i:Nat) v,vs[i]? = some v->∃b ds as,v = .ref b/\kd.getD i d0 = .tuple ds /\ .tuple ds∈kd/\Tg s.heap 5.9 (.tuple ds) as:=λi v e=>by
  have hi:i<kd.length:=by rw[hl];exact(Qn.mp e).1
  obtain⟨b,ds,as,e1,e2,r⟩:=hk i v kd[i] e (Qb hi);refine⟨b,ds,as,e1,?_,?_,by rw[<- e2];exact r⟩
  .rw[Qw,Qb hi];exact e2
  .rw[<- e2];exact Ze hi
 refine⟨zz5 σ,λh2=>?_⟩
 obtain⟨kk,c,q⟩:=z3v (M:=model prog w) (A:=A) (σ:=σ) (s:=s) (vs:=vs) (λv hv=>by
  obtain⟨i,hi⟩:=QK.mp hv;obtain⟨b,ds,as,e1,_,e3,r⟩:=hk' i v hi
  exact⟨b,ds,as,e1,r,hs _ e3⟩) h2
 refine⟨kk,q,λi j x p y q' E Q hi hj h=>?_⟩;obtain⟨b,ds,as,rfl,g1,m1,r1⟩:=hk' i x (zcx rfl hi).1;obtain⟨b2,ds2,as2,rfl,g2,m2,r2⟩:=hk' j y (zcx rfl hj).1;dsimp only at h;rw[g1,g2] at h;have de1:=de _ m1;rw[QU] at de1;have hp:=(both σ).2 ds ds2 (hs _ m1) (hs _ m2) (zaq (la _ m1)) (zaq (la _ m2));have one:∀b':Bool,wpAny 1.3 A (oneLt' b' 5.9 (.ref b2)) Q E s:=λb'=>zej (zaq (la _ m1)) (zaq (la _ m2)) (λp z=>(hp p z).1) prog w A E s _ _ as as2 b' Q r1 r2 (by rw[QU];lia) h
 have lex:∀b':Bool,wpAny 1.3 A (keyLt' (tuples' b') 5.9 (.ref b2)) Q E s:=λb'=>by
  cases r1 with
  | tuple k1 k2 k3 k4=>
    cases r2 with
    | tuple l1 l2 l3 l4=>
      refine kat_lt k1 k3 l1 l3 (zpa _ _ ds ds2 _ _ 0 k4 l4 (zaq (la _ m1)) (zaq (la _ m2)) (λp z=>(hp p z).2) 0.0 ?_ h);have z1:=VZ _ _ _ k4;have z2:=VZ _ _ _ l4;simp at z1 z2;rw[z1,z2]
 rcases c with rfl|rfl|rfl|rfl
 .exact lex true
 .exact lex false
 .exact one false
 .exact one true
end
end HK
namespace HK
open PySem PySem.Spec PyProof.Rows PySem.SetTable SX TB
abbrev zeg(h h':Heap):Prop:=∀b o xs n,h.get? b=some o->o.data = .seq xs n->h'.get? b=some o
theorem zgg(F:GG->Prop)(hF:∀d,F d->∀v as,Tg h v d as->Tg h' v d as):∀{vs:2.8} {ds:2.3} {as:5.6},(∀d∈ds,F d)->Ts h vs ds as->Ts h' vs ds as
 | [],_,_,hd,r=>by cases r;exact .nil
 | v::vs,_,_,hd,r=>by
   cases r with
   | cons r1 r2=>exact .cons (hF _ (hd _ 0.1) _ _ r1) (zgg F hF (λd z=>hd d (Qe _ z)) r2)
theorem zis(K:zeg h h'):∀(n:Nat) (d:GG),d.depth<=n->hk d=true->∀v as,Tg h v d as->Tg h' v d as:=by
 intro n
 induction n with
 | zero=>
   intro d hd hk' v as r
   cases r with
   | int i t=>exact .int i t
   | str x t=>exact .str x t
   | tuple _ _ _ _=>simp[QU] at hd
   | _=>simp[hk] at hk'
 | succ n ih=>
   intro d hd hk' v as r
   cases r with
   | int i t=>exact .int i t
   | str x t=>exact .str x t
   | @tuple a o vs c ds as ho hc hdt hr=>
     have hds:hks ds=true:=by simpa[hk] using hk'
     rw[QU] at hd;exact .tuple (K a o vs c ho hdt) hc hdt (zgg (λd=>d∈ds) (λd z v as r=>ih d (by have:=zc3 z;lia) (zdu hds d z) v as r) (λd z=>z) hr)
   | _=>simp[hk] at hk'
structure TupK(k:GG):Prop where
 tu:∃ds,k = .tuple ds
 ha:hk k=true
 la:k.canLay0=true
 de:k.depth<=8
 tx:bv k=true->k = .tuple []
theorem TupK.keep{k:GG}{as:5.6}(hk':TupK k)(K:zeg h h')(r:Tg h v k as):Tg h' v k as:=zis K 8 k hk'.de hk'.ha v as r
theorem zw5{k:GG}{as:5.6}(hk':TupK k)(r:Tg h 5.9 k as):∃o xs n,h.get? b=some o/\o.data = .seq xs n:=by
 obtain⟨ds,e⟩:=hk'.tu;subst e
 cases r with
 | tuple h1 h2 h3 h4=>exact⟨_,_,_,h1,h3⟩
structure Kx(w:GM)(h0:Heap)(Sp:Addr->GG->Prop)(h:Heap)(a:Addr)(es:Es)(ep:Nat)(t:GY)(ks:2.3)(m:Nat):Prop extends Sx w h a es ep t where
 el:∀(i:Nat) e,es[i]? = some e->∃k b as,ks[i]? = some k/\e=(hD w k,.ref b)/\b≠a/\Tg h0 5.9 k as/\Sp b k
 len:ks.length=es.size
 kt:∀k∈ks,TupK k
 nd:ks.Nodup
 ok:TOk t (ks.map (hD w)) m
 nf:t.tooFull=false
 pn:t.plain=true->∀k∈ks,bv k=true
section
variable {P:GK}{w:GM}{A:GQ}{E:1.0}{s:GJ}{S:Addr}{es:Es}{ep:Nat}{t:GY}{ks:2.3}{m:Nat}{h0:Heap}{Sp:Addr->GG->Prop}
theorem z3r{k:GG}{as:5.6}(hk':TupK k)(r:Tg s.heap 5.9 k as): ∀(ys:2.8),(∀y∈ys,∃k' b' as',y = .ref b'/\TupK k'/\Tg s.heap (.ref b') k' as')->Q false s->wpAny 1.5 A (searchCouldBeSeen 5.9 ys) Q E s:=by
 intro ys hy h;unfold searchCouldBeSeen;refine GF ?_;refine TX _ (λrest r s'=>r.1=none/\s'=s/\∀y∈rest,∃k' b' as',y = .ref b'/\TupK k'/\Tg s.heap (.ref b') k' as') _ ?_ ?_ _ _ ⟨rfl,rfl,hy⟩
 .rintro y rest r' s' ⟨hr',rfl,hall⟩;obtain⟨k',b',as',rfl,hk2,r2⟩:=hall y 0.1;have nx:∀y∈rest,∃k' b' as',y = .ref b'/\TupK k'/\Tg s'.heap (.ref b') k' as':=λy z=>hall y (Qe _ z);dsimp only
  by_cases hv:((b == b') || (carriedByValue 5.9 && carriedByValue (.ref b')))=true
  .refine wp_t hv ?_;exact GI ⟨rfl,rfl,nx⟩
  .refine wp_f hv ?_;refine GF (zew 8 k hk'.de hk'.ha _ _ _ _ _ _ r ?_);refine wp_f 0.2 ?_;refine GF (zew 8 k' hk2.de hk2.ha _ _ _ _ _ _ r2 ?_);refine wp_f 0.2 ?_;refine GF (zh1 8 k hk'.de hk'.ha _ _ _ _ _ _ r ?_);refine wp_f 0.2 ?_;refine GF (zh1 8 k' hk2.de hk2.ha _ _ _ _ _ _ r2 ?_);refine wp_f 0.2 ?_;exact GI ⟨rfl,rfl,nx⟩
 .rintro⟨r1,r2⟩ s' ⟨hr',rfl,_⟩;simp only at hr';subst hr';exact GI h
theorem zqz{k:GG}(h:TupK k)(h':TupK k'):QC k k'=true↔k=k':=L3.eqv_solid k k' (zcm k h.ha) (zcm k' h'.ha)
theorem Kx.odd(K:Kx w h0 Sp s.heap S es ep t ks m):t.gaveWay=false:=by
 unfold SetTable.gaveWay;have h1:=K.ok.mm;have h2:=K.ok.m3
 have:2 ^ m=8 * 2 ^ (m-3):=by
  rw[show(8:Nat)=2 ^ 3 from rfl,<- Nat.pow_add]
  congr 1
  lia
 simp;lia
theorem Kx.search(K:Kx w h0 Sp s.heap S es ep t ks m)(X:zeg h0 s.heap){k:GG}{as:5.6}(hk':TupK k)(r:Tg s.heap 5.9 k as)(hu:A.units+8<GZ){N:Nat}(h0:t.slot (sq t.mask 6.4 N).j = .empty)(hb:∀k',k'<N->t.slot (sq t.mask 6.4 k').j≠.empty)(hN:N<10 * turns t.mask) 
 (y:k∈ks->Q (.there none) s) (n:(∀k'<N,∀i,t.slot (sq t.mask 6.4 k').j = .live i->ks[i]?≠some k)->Q (.free (sq t.mask 6.4 N).j false) s) :
 ∀(fuel c:Nat) (st:Option Probe),N<c+fuel->c<=N->st.getD (t.probeStart 6.4)=sq t.mask 6.4 c->(∀k'<c,∀i,t.slot (sq t.mask 6.4 k').j = .live i->ks[i]?≠some k) ->
 wpAny 1.5 A (TN S 5.9 6.4 true fuel st) Q E s
 | 0,c,st,h1,h2,_,_=>absurd h1 0.0
 | fuel+1,c,st,h1,h2,h3,h4=>by
   unfold TN;refine GF (K.state ?_);refine wp_f (by rw[K.odd];exact Qx) ?_;rw[h3]
   have hashAt:∀(i:Nat) k',ks[i]? = some k'->((es[i]?.map (·.1)).getD 0:Int)=hD w k':=λi k' hi=>by
    have hil:i<es.size:=by rw[<- K.len];exact(Qn.mp hi).1
    obtain⟨k2,b2,as2,e1,e2,_,_⟩:=K.el i _ (Q4 hil);rw[Q4 hil,e2];rw[hi] at e1;cases e1;rfl
   have g:=zzw K.ok.dm (λi=>((es[i]?.map (·.1)).getD 0:Int)) 6.4 N h0 hb (10 * turns t.mask) c 0.0 h2;rcases g with ⟨j,i,a1,a2,a3,a4,a5,a6⟩|⟨a1,a2⟩
   .have gp:t.probe (λi=>((es[i]?.map (·.1)).getD 0:Int)) 6.4 (sq t.mask 6.4 c)=some (.candidate (sq t.mask 6.4 j).j i (sq t.mask 6.4 (j+1))):=a6;have il:=(zkv a3).1;rw[K.ok.sz,Qc,K.len] at il;obtain⟨k2,b2,as2,e1,e2,nb,r2,_⟩:=K.el i _ (Q4 il);have hk2:=K.kt k2 (Qt e1)
    replace r2:=hk2.keep X r2
    dsimp only
    split
    .rename_i met he
     have hmet:=Za (gp.symm.trans he);subst hmet;dsimp only
     have rest:wpAny 1.5 A (do
      let equal <- holding [QQ b2] (eqBool (.ref b2) 5.9)
      let __x <- setState S
      match __x with
       | (es',_,t')=>
         if(true && equal)=true then pure (V2 none)
         else
          match t'.sameMemory t.moves t.mask with
          | some same=>
            match if same=true then t'.slot (sq t.mask 6.4 j).j else Slot.empty with
            | Slot.live i'=>
              match es'[i']? with
              | some (_,y')=>do
                let __do_lift <- isSame y' (.ref b2)
                let still <- pure (if __do_lift=true then some i' else none)
                match still with
                 | none=>do
                   rule "set.search.anew"
                   TN S (QQ b) 6.4 true fuel none
                 | some i'=>
                   if equal=true then pure (V2 (some i'))
                   else TN S (QQ b) 6.4 true fuel (some (sq t.mask 6.4 (j+1)))
              | none=>do
                let still <- pure none
                match still with
                 | none=>do
                   rule "set.search.anew"
                   TN S (QQ b) 6.4 true fuel none
                 | some i'=>
                   if equal=true then pure (V2 (some i'))
                   else TN S (QQ b) 6.4 true fuel (some (sq t.mask 6.4 (j+1)))
            | x=>do
              let still <- pure none
              match still with
               | none=>do
                 rule "set.search.anew"
                 TN S (QQ b) 6.4 true fuel none
               | some i'=>
                 if equal=true then pure (V2 (some i'))
                 else TN S (QQ b) 6.4 true fuel (some (sq t.mask 6.4 (j+1)))
          | x=>N7 "set.changed-during-lookup:is-the-new-block-at-the-old-address") Q E s:=by
      refine GF (GW (Vg _ _ _ _ _ _ _ k2 k _ _ _ r2 r hk2.la hk'.la (by have:=hk'.de;lia) ?_));refine GF (K.state ?_);dsimp only
      by_cases ek:k2=k
      .rw[(zqz hk2 hk').mpr ek];refine wp_t rfl (GI (y ?_));rw[<- ek];exact Qt e1
      .have en:QC k2 k=false:=by
        cases c:QC k2 k with
        | false=>rfl
        | true=>exact absurd ((zqz hk2 hk').mp c) ek
       rw[en];refine wp_f 0.2 ?_
       have sm:t.sameMemory t.moves t.mask=some true:=by
        unfold SetTable.sameMemory;rw[NI 0.1]
       rw[sm];dsimp only;rw[NI rfl,a3];dsimp only;rw[Q4 il,e2];dsimp only;refine GF (wpAny_isSame_ref_self ?_);refine GF (GI ?_);rw[NI rfl];dsimp only;refine wp_f 0.2 ?_;refine Kx.search K X hk' r hu h0 hb hN y n fuel (j+1) _ 0.0 0.0 rfl λk' hk3 i' hl=>?_
       by_cases z1:k'<c
       .exact h4 k' z1 i' hl
       .by_cases z2:k'=j
        .subst z2;rw[a3] at hl;cases hl;rw[e1];exact λz=>ek (Za z)
        .obtain⟨i2,q1,q2⟩:=a5 k' 0.0 0.0;rw[hl] at q1;cases q1;exact λz=>q2 (hashAt i' k z)
     have ge:es[i]? = some (hD w k2,QQ b2):=by rw[Q4 il,e2]
     rw[ge]
     split
     .refine GF (z3r hk' r _ (λy' hy=>?_) ?_)
      .obtain⟨e,he',rfl⟩:=Qo.mp hy;have:=(Array.mem_toList_iff.mp he');obtain⟨i3,hi3⟩:=Array.mem_iff_getElem?.mp (Array.mem_filter.mp this).1;obtain⟨k3,b3,as3,q1,q2,_,q3,_⟩:=K.el i3 e hi3;exact⟨k3,b3,as3,by rw[q2],K.kt k3 (Qt q1),(K.kt k3 (Qt q1)).keep X q3⟩
      .refine wp_f 0.2 ?_;exact rest
     .exact rest
    .rename_i he
     exact(he _ gp).elim
   .have gp:t.probe (λi=>((es[i]?.map (·.1)).getD 0:Int)) 6.4 (sq t.mask 6.4 c)=some (.empty (sq t.mask 6.4 N).j none):=a2;dsimp only
    split
    .rename_i met he
     have hmet:=Za (gp.symm.trans he);subst hmet;dsimp only;refine GI (n λk' hk3 i' hl=>?_)
     by_cases z1:k'<c
     .exact h4 k' z1 i' hl
     .obtain⟨i2,q1,q2⟩:=a1 k' 0.0 hk3;rw[hl] at q1;cases q1;exact λz=>q2 (hashAt i' k z)
    .rename_i he
     exact(he _ gp).elim
end
end HK
namespace HK
open PySem PySem.Spec PyProof.Rows PySem.SetTable SX TB
section
variable {P:GK}{w:GM}{A:GQ}{E:1.0}{s:GJ}{S:Addr}{es:Es}{ep:Nat}{t:GY}{ks:2.3}{m:Nat}{h0:Heap}{Sp:Addr->GG->Prop}
theorem Kx.keep(K:Kx w h0 Sp h S es ep t ks m)(kS:∀o,h.get? S=some o->h'.get? S=some o):Kx w h0 Sp h' S es ep t ks m :=
 ⟨K.toSx.keep kS,K.el,K.len,K.kt,K.nd,K.ok,K.nf,K.pn⟩
theorem zsu(ho:h.get? S=some o)(hd:o.data = .set es ep t)(sb:ZF S h h'):zeg h h':=λb o' xs n e d=>by
 have nb:b≠S:=λz=>by
  subst z;rw[ho] at e;cases e;rw[hd] at d;cases d
 exact(sb.2 b nb).trans e
theorem zu8(kt:∀k∈ks,TupK k)(nd:ks.Nodup)(pn:t.plain=true->∀k∈ks,bv k=true)(hl:1<ks.length):t.plain=false:=by
 cases c:t.plain with
 | false=>rfl
 | true=>
   exfalso;have h0:=Ze (l:=ks) (n:=0) 0.0;have h1:=Ze (l:=ks) (n:=1) hl;have e0:=(kt _ h0).tx (pn c _ h0);have e1:=(kt _ h1).tx (pn c _ h1);have:=(Ga (i:=0) (j:=1) (h₀:=by lia) (h₁:=hl) nd).mp (e0.trans e1.symm);lia
theorem zwv(K:Sx w s.heap S es ep t){m':Nat}(el:∀(i:Nat) e,es'[i]? = some e->∃k b as,ks'[i]? = some k/\e=(hD w k,.ref b)/\b≠S/\Tg h0 5.9 k as/\Sp b k)(len:ks'.length=es'.size)(kt:∀k∈ks',TupK k)(nd:ks'.Nodup)(ok:TOk t' (ks'.map (hD w)) m')(pn:t'.plain=true->∀k∈ks',bv k=true)(led:t'.led = !byT w)(lt:es'.size<scanBound)
 (h:∀h',ZF S s.heap h'->Sx w h' S es' (ep+1) t'->(t'.tooFull=false->Kx w h0 Sp h' S es' (ep+1) t' ks' m')->Q () 3.9):wpAny 1.5 A (Nv S es' t') Q E s:=by
 obtain⟨o,ho,hx,hd⟩:=K.at_;have sb:ZF S s.heap (s.heap.update S (U4 es' t')):=.update ..
 have fit:t'.fits es'.size=true:=by
  have h1:=ok.sz;have h2:=ok.rm;rw[Qc,len] at h1;simp[Ut,G9,ok.dm,h1];lia
 have sx:Sx w (s.heap.update S (U4 es' t')) S es' (ep+1) t':=by
  refine⟨⟨{ o with data:=.set es' (ep+1) t' },?_,hx,rfl⟩,lt,fit,led,λz=>zu8 kt nd pn 0.0⟩;have:=ZQ (U4 es' t') ho (by rw[Nz es' t' hd];rfl);rw[Nz es' t' hd] at this;exact this
 refine wpAny_storeSet_of ho hd (h _ sb sx λnf=>?_) (Mb lt);exact⟨sx,el,len,kt,nd,ok,nf,pn⟩
theorem z4t{α β:Type}(f:α->β)(p:Nat)(x:α)(l:4.2):(ins p x l).map f=ins p (f x) (l.map f):=by
 unfold ins;rw[Qu,QB,Va,VC]
theorem zzh{α:Type}(p:Nat)(x:α)(l:4.2):(ins p x l).Perm (x::l):=by
 unfold ins;refine YW.trans (.cons x ?_);rw[Zm]
theorem Kx.add(K:Kx w h0 Sp s.heap S es ep t ks m)(X:zeg h0 s.heap){k:GG}{as:5.6}(hk':TupK k)(r0:Tg h0 5.9 k as)(sp:Sp b k)(hu:A.units+8<GZ)(hz:es.size<999) 
 (h:∀c h' es' ep' t' ks' m',ZF S s.heap h'->Kx w h0 Sp h' S es' ep' t' ks' m'->(∀x,x∈ks'↔x∈ks\/x=k)->es'.size<=es.size+1->Q c 3.9) :
 wpAny 1.5 A (MO S 5.9 6.4) Q E s:=by
 have r:=hk'.keep X r0;obtain⟨N,n1,n2,n3⟩:=K.ok.free 6.4
 have nb:b≠S:=λz=>by
  obtain⟨o,xs,n,h1,h2⟩:=zw5 hk' r;obtain⟨o',h3,_,h4⟩:=K.at_;rw[z,h3] at h1;cases h1;rw[h4] at h2;cases h2
 unfold MO Nb;refine GW (GF (K.state ?_));dsimp only;rw[NJ (by simp[byScan,Value.scannable])];have mk1:=K.ok.mm;have mk2:2 ^ m<=2 ^ 13:=ZC 0.2 K.ok.mb;refine GF ?_;unfold setSearch;refine K.search X hk' r hu n2 n3 n1 (λhm=>?_) (λhn=>?_) 100000 0 none (by unfold turns at n1;lia) (Q6 _) rfl (λk' z=>absurd z (JW _))
 .exact GI (h false s.heap es ep t ks m (.refl ..) K (λx=>⟨.inl,λz=>z.elim id λz=>z ▸ hm⟩) (Jp _))
 .have km:k ∉ ks:=λhm=>by
   obtain⟨i,hi⟩:=QK.mp hm;obtain⟨n,q1,q2⟩:=K.ok.rc i 6.4 (by rw[Qh,hi];rfl)
   have il:i<t.place.size:=by
    rw[K.ok.sz,Qc];exact(Qn.mp hi).1
   have sl:=zlm K.ok.inc il;rw[<- q1] at sl
   by_cases c:n<N
   .exact hn n c i sl hi
   .by_cases c2:N<n
    .exact q2 N c2 n2
    .obtain rfl:n=N:=by lia
     rw[n2] at sl;cases sl
  refine GF (K.state ?_);have psz:t.place.size=es.size:=by rw[K.ok.sz,Qc,K.len]
  have tf:t.place.size * 5<t.mask * 3:=by
   have:=K.nf;simp[SetTable.tooFull,G9,K.ok.dm] at this;lia
  have m8:2 ^ 3<=2 ^ m:=ZC 0.2 K.ok.m3;have hmask:t.place.size+1<=t.mask:=by lia
  have put:=λb=>K.ok.put (h:=hD w k) (N:=N) hmask n2 n3 (z0i _ N).1 b;generalize hj:(sq t.mask 6.4 N).j=j at *;generalize hp:below t.place j=p at *;have pls:(t.put j).1.led=t.led/\(t.put j).1.plain=t.plain:=⟨rfl,rfl⟩;have pp:(t.put j).2=p:=(put true).2
  have hpl:p<=es.size:=by
   rw[<- hp,<- psz];exact(zia K.ok.inc j).1
  have el1:∀(i:Nat) e,(insertAt es p (hD w k,QQ b))[i]? = some e->∃k' b' as',(ins p k ks)[i]? = some k'/\e=(hD w k',.ref b')/\b'≠S/\Tg h0 (.ref b') k' as'/\Sp b' k':=λi e he=>by
   rw[<- Q7,insA,zhe (by simpa using hpl)] at he;rw[zhe (by rw[K.len];exact hpl)]
   split at he
   .rename_i c
    rw[NI c];exact K.el i e (by rw[<- Q7];exact he)
   .rename_i c
    rw[NJ c]
    split at he
    .rename_i c2
     rw[NI c2];cases he;exact⟨k,b,as,rfl,rfl,nb,r0,sp⟩
    .rename_i c2
     rw[NJ c2];exact K.el (i-1) e (by rw[<- Q7];exact he)
  have pk:=zzh p k ks
  have len1:(ins p k ks).length=(insertAt es p (hD w k,QQ b)).size:=by
   rw[ze8,<- QH,insA,ze8,K.len,QH]
  have kt1:∀x∈ins p k ks,TupK x:=λx hx=>by
   rcases Qz.mp (pk.mem_iff.mp hx) with rfl|hx
   .exact hk'
   .exact K.kt x hx
  have nd1:(ins p k ks).Nodup:=pk.nodup_iff.mpr (Zq.mpr ⟨km,K.nd⟩);have mem1:∀x,x∈ins p k ks↔x∈ks\/x=k:=λx=>by rw[pk.mem_iff,Qz,or_comm]
  have sz1:(insertAt es p (hD w k,QQ b)).size=es.size+1:=by rw[<- len1,ze8,K.len]
  generalize hes1:insertAt es p (hD w k,QQ b)=es1 at *;generalize hks1:ins p k ks=ks1 at *
  have fin:∀b':Bool,(b'=true->∀x∈ks1,bv x=true)->wpAny 1.5 A (do
   Nv S es1 { (t.put j).1 with plain:=b' }
   if(!false && ({ (t.put j).1 with plain:=b' }:GY).tooFull)=true then do
       setRelay S (Jn (es.size+1))
       pure true
    else pure true) Q E s:=λb' hb'=>by
   have ok1:=(put b').1;rw[<- z4t,hks1] at ok1;refine GF (zwv K.toSx el1 len1 kt1 nd1 ok1 hb' (pls.1.trans K.led) (by rw[sz1];unfold scanBound;lia) λh1 sb1 sx1 mk=>?_)
   cases hw:({ (t.put j).1 with plain:=b' }:GY).tooFull with
   | false=>
     refine wp_f 0.2 (GI (h true h1 _ _ _ _ _ sb1 (mk hw) mem1 (VL sz1)))
   | true=>
     refine wp_t rfl ?_;generalize ht1:({ (t.put j).1 with plain:=b' }:GY)=t1 at *;obtain⟨t2,order,m2,z1,z2,z3,z4,z5,z6,z7⟩:=zwb t1 es1 0.0;obtain⟨m',y1,y2,y3,y4⟩:=above (n:=es1.size * 4) 0.0
     have gr:Jn (es.size+1)=es1.size * 4:=by
      unfold Jn;rw[NJ 0.0,sz1]
     rw[gr];unfold setRelay;refine GF (GF (Sx.state (s:={ s with heap:=h1 }) sx1 ?_))
     refine wp_f (by
      rw[y2,GP]
      have:2 ^ m'<=8000:=by
       rcases y4 with rfl|y4
       .decide
       .lia
      lia) ?_
     dsimp only;rw[z1]
     have z3':(order.filterMap (es1[·]?)).size=es1.size:=by
      rw[<- QH,z3.length_eq,QH]
     refine GF (m:=(do
      if((order.filterMap (es1[·]?)).size != es1.size)=true then N7 "internal:set-table-lost-an-element"
      pure (order.filterMap (es1[·]?),t2))) (wp_f (by simp[z3']) (GI ?_))
     have isE:∀i∈order.toList,(es1[i]?).isSome=true:=λi hi=>by
      have:=Q8.mp (z7.mem_iff.mp hi);simp[this]
     have isK:∀i∈order.toList,(ks1[i]?).isSome=true:=λi hi=>by
      have:=Q8.mp (z7.mem_iff.mp hi);simp;lia
     have e2:(order.filterMap (es1[·]?)).toList=order.toList.filterMap (es1[·]?):=by simp
     have p2:(order.toList.filterMap (ks1[·]?)).Perm ks1:=by
      have:=z7.filterMap (λi=>ks1[i]?);rw[<- len1] at this;rw[List.filterMap_getElem?_range_length] at this;exact this
     obtain⟨o1,ho1,hx1,hd1⟩:=K.at_;have ke:zeg s.heap h1:=zsu ho1 hd1 sb1
     have el2:∀(i:Nat) e,(order.filterMap (es1[·]?))[i]? = some e->∃k' b' as',(order.toList.filterMap (ks1[·]?))[i]? = some k'/\e=(hD w k',.ref b')/\b'≠S/\Tg h0 (.ref b') k' as'/\Sp b' k':=λi e he=>by
      rw[<- Q7,e2,zfb isE] at he;rw[zfb isK]
      cases eq:order.toList[i]? with
      | none=>rw[eq] at he;cases he
      | some i'=>
        rw[eq] at he;obtain⟨k',b2,as',q1,q2,q3,q4⟩:=el1 i' e he;exact⟨k',b2,as',q1,q2,q3,q4⟩
     have hm2:(order.filterMap (es1[·]?)).toList.map (·.1)=(order.toList.filterMap (ks1[·]?)).map (hD w):=by
      refine Jk λi=>?_;rw[Qh,Qh,e2,zfb isE,zfb isK]
      cases eq:order.toList[i]? with
      | none=>rfl
      | some i'=>
        have hi':i'<es1.size:=Q8.mp (z7.mem_iff.mp (Qt eq));obtain⟨k',b2,as',q1,q2,q3,q4⟩:=el1 i' _ (Q4 hi');show U8 _ es1[i']? = U8 _ ks1[i']?;rw[Q4 hi',q2,q1];rfl
     rw[hm2] at z2;refine zwv (s:={ s with heap:=h1 }) sx1 el2 (by rw[p2.length_eq,len1,z3']) (λx hx=>kt1 x (p2.mem_iff.mp hx)) (p2.nodup_iff.mpr nd1) z2 (λpl x hx=>hb' (by rw[z5] at pl;rw[<- ht1] at pl;exact pl) x (p2.mem_iff.mp hx)) (by rw[z4,<- ht1];exact pls.1.trans K.led) (by rw[z3',sz1];unfold scanBound;lia) λh2 sb2 sx2 mk2=>?_;exact GI (h true h2 _ _ _ _ _ (sb1.trans sb2) (mk2 z6) (λx=>by rw[p2.mem_iff];exact mem1 x) (by rw[z3',sz1];exact Qg _))
  dsimp only;rw[pp,hes1]
  split
  .rename_i hpt
   refine GF (zuq 8 k hk'.de hk'.ha _ _ _ _ _ _ r ?_)
   cases hbv:bv k with
   | true=>
     refine fin t.plain λhp' x hx=>?_;rcases(mem1 x).mp hx with hx|rfl
     .exact K.pn hp' x hx
     .exact hbv
   | false=>exact fin false λz=>by cases z
  .rename_i hpt
   refine GF (GI ?_);exact fin t.plain λhp'=>absurd hp' hpt
end
end HK
namespace HK
open PySem PySem.Spec PyProof.Rows PySem.SetTable SX TB
section
variable {P:GK}{w:GM}{A:GQ}{R:Result->GJ->Prop}{I:Addr}{fp wr:5.6}{G:Array Np->Array Np->Prop}{n:Nat}{Pv:Nat->GH->Prop}{St:Nat->GJ->Prop}{Sp:Addr->GG->Prop}
theorem z4l(W:WalksS P w A.in1 I fp wr G n Pv St)(S:Addr)(hS:S ∉ fp)(h0:Heap)(hn:∀b o,h0.get? b=some o->b ∉ S::wr)(val:Nat->GG)(hv:∀i,i<n->TupK (val i))(hval:∀i v,i<n->Pv i v->∃b as,v = .ref b/\Tg h0 5.9 (val i) as/\Sp b (val i))(hu:A.units+9<GZ)(hb:n<999):
 ∀(m i:Nat) (s:GJ) (es:Es) (ep:Nat) (t:GY) (ks:2.3) (mm:Nat),n-i=m->i<=n->St i s->Ext h0 s.heap->Kx w h0 Sp s.heap S es ep t ks mm->(∀x,x∈ks↔∃j,j<i/\val j=x)->es.size<=i ->
   (∀s' es' ep' t' ks' mm',Moved (S::wr) G s s'->Kx w h0 Sp s'.heap S es' ep' t' ks' mm'->(∀x,x∈ks'↔∃j,j<n/\val j=x)->R (.ok (.ret .none)) s') ->
   Mo 1.5 A (.builtin "set.update.loop" ⟨[.ref S,.ref I],[]⟩) R s:=by
 have nw:S ∉ wr:=λz=>hS (W.sub _ z);have up:∀b∈wr,b∈S::wr:=λb z=>Qe _ z;intro m
 induction m with
 | zero=>
   intro i s es ep t ks mm hm hi st X T hk _ k;obtain rfl:i=n:=by lia
   refine Tl JK ?_;rw[Ja Jb _];refine GF (W.done s _ _ st λs' mv=>GI ?_);exact k s' es ep t ks mm (mv.mono up) (T.keep λo e=>mv.heap S o nw e) hk
 | succ m ih=>
   intro i s es ep t ks mm hm hi st X T hk hz k;have hlt:i<n:=by lia
   refine Tl JK ?_;rw[Ja Jb _];refine GF (W.item i s _ _ hlt st λv s' pv st' mv=>?_);obtain⟨b,as,rfl,hr,hsp⟩:=hval i v hlt pv;have T1:=T.keep λo e=>mv.heap S o nw e;have X1:Ext h0 s'.heap:=λb o e=>mv.heap b o (λz=>hn b o e (up b z)) (X b o e);have kp:zeg h0 s'.heap:=λb o _ _ e _=>X1 b o e;refine GF (m:=holding [QQ b] (setAdd S 5.9)) (GW ?_);unfold setAdd;have hvi:=hv i hlt;have hde:=hvi.de;refine GW (GF (zjo 8 (val i) hvi.de hvi.ha _ _ _ _ _ _ (by show A.units+1+(val i).depth<GZ;lia) (hvi.keep kp hr) ?_));refine Kx.add (s:={ s' with toks:=s'.toks+dr (val i) }) T1 kp hvi hr hsp (by show A.units+1+8<GZ;lia) 0.0 λc h' es' ep' t' ks' m' sb T2 hk' hz'=>?_;have X2:Ext h0 h':=λb o e=>(sb.2 b (λz=>hn b o e (z ▸ Qp))).trans (X1 b o e);refine GI ⟨TZ Jb _,ih (i+1) _ es' ep' t' ks' m' 0.0 hlt (W.frame _ s' _ _ st' (YX _ _) λb hb o e=>?_) X2 T2 (λx=>?_) 0.0 λs'' e2 p2 t2 k2 m2 mv2 T3 hk3=>?_⟩
   .rw[sb.2 b (λz:b=S=>hS (z ▸ hb))];exact e
   .rw[hk',hk];constructor
    .rintro(⟨j,h1,h2⟩|rfl)
     .exact⟨j,by lia,h2⟩
     .exact⟨i,by lia,rfl⟩
    .rintro⟨j,h1,h2⟩
     by_cases hj:j=i
     .subst hj;exact .inr h2.symm
     .exact .inl ⟨j,by lia,h2⟩
   .refine k s'' e2 p2 t2 k2 m2 (.trans W.gtrans ((mv.mono up).then_heap (YX _ _) λb o hb e=>?_) mv2) T3 hk3;rw[sb.2 b (λz:b=S=>hb (z ▸ Qp))];exact e
end
section
variable {P:GK}{w:GM}{A:GQ}{E:1.0}{s:GJ}{Sp:Addr->GG->Prop}
theorem z8y(e:h.get? a=some (eObj w)):Kx w h0 Sp h a #[] 0 (.fresh 0 0 (!byT w)) [] 3 :=
 ⟨⟨⟨_,e,⟨rfl,rfl,rfl⟩,rfl⟩,by decide,rfl,rfl,λz=>absurd z 0.2⟩,(λi e z=>by simp at z),rfl,(λk z=>(ZJ z).elim),UH,
   ⟨rfl,by decide,by decide,rfl,rfl,λi k _ z=>absurd z (JW _),λi z=>absurd z (JW _),Q6 _,(λi h z=>by simp at z)⟩,rfl,λ_ k z=>(ZJ z).elim⟩
theorem zvr{n:Nat}{val:Nat->GG}(hh:A.handled=none)(hT:∀s₁:GJ,Ext s.heap s₁.heap->s₁.TypeIs v T)
 (h1:MA (.type T) (.type "set")=pure false) (h2:MA (.type T) (.type "frozenset")=pure false) (h3:(Zj T == Zj "dict")=false) (src:Src P w s.heap v n Pv)
 (hv:∀i,i<n->TupK (val i)) (hval:∀i v,i<n->Pv i v->∃b as,v = .ref b/\Tg s.heap 5.9 (val i) as/\Sp b (val i)) (hu:A.units+64<GZ) (hb:n<999)
 (k:∀h' tk es ep t ks m,Kx w s.heap Sp h' s.heap.objs.size es ep t ks m->(∀x,x∈ks↔∃j,j<n/\val j=x)->Ext s.heap h'->Q 3.8 { s with heap:=h',toks:=tk }) :
 wpAny 1.5 A (call (.type "set") [v]) Q E s:=by
 obtain⟨c,tl,hmro⟩:=Z2.mro;have hmade:=Z2.made;have hsub:=Z2.sub;refine MR (MS ?_);show wpAny _ _ (callAny (.type "set") _) _ _ _;refine GI ⟨U5 _ 5.5,Tl UN ?_⟩;rw[U6 (MW "set" [v] []) rfl];have c1:=Z2.notType;have c2:=Z2.canCreate;have c3:=Gi v
 repeat (any_goals (first|assumption|wp_step))
 refine TJ (zq8 v (E:=E) (Q:=λr s₁=>r = .ref s.heap.objs.size/\s₁ = { s with heap:=s.heap.push (eObj w) }) ⟨rfl,rfl⟩) λr s₁ hr=>?_
 cases r with
 | error e=>exact hr
 | ok fl=>
   cases fl with
   | ret obj=>
     obtain⟨rfl,rfl⟩:=hr;have eS:(s.heap.push (eObj w)).get? s.heap.objs.size=some (eObj w):=Qs _ rfl;have hS:Yx { s with heap:=s.heap.push (eObj w) } 3.8 "set" := ⟨_,eS,rfl⟩;have c4:=Z2.init.lookup;have c5:=Z2.init.bind 3.8
     repeat (any_goals (first|assumption|wp_step))
     refine TJ (MY (R:=wants (λr s₂=>r = .none/\∃h' tk es ep t ks m,s₂ = { s with heap:=h',toks:=tk }/\Kx w s.heap Sp h' s.heap.objs.size es ep t ks m/\(∀x,x∈ks↔∃j,j<n/\val j=x)/\Ext s.heap h') E) Z2.init.plain Gj (check_set_init_1 hS ?_)) λr₂ s₂ hr₂=>?_
     .have e0:Ext s.heap (s.heap.push (eObj w)):=λb o e=>Qf _ e;have hTv:=hT { s with heap:=s.heap.push (eObj w) } e0;unfold Builtin.«set.__init__» noKeywords Vk;generalize hPI:MN=PI
      wp_walk
      subst hPI;have lt0:s.heap.objs.size<(s.heap.push (eObj w)).objs.size:=by rw[Zg];exact ZY _
      refine src _ _ _ _ (by simpa using hh) e0 λI h' fp St W st ex fpb hI=>?_;refine GF (Ng ?_)
      have nS:s.heap.objs.size ∉ fp:=λz=>by
       rcases fpb _ z with y|y
       .exact Zl _ y
       .exact absurd lt0 (Vy.mpr y)
      have hn:∀b o,s.heap.get? b=some o->b ∉ s.heap.objs.size :: [I]:=λb o e z=>by
       have hbl:=Qv e;rcases Qz.mp z with z|z
       .exact Q0 hbl z
       .rw[Qm.mp z] at hbl;exact absurd hbl (Vy.mpr (Q1 (Jt lt0) hI))
      refine z4l (W _ (by simpa using hh)).toS s.heap.objs.size nS s.heap hn val hv hval ?hu hb n 0 _ #[] 0 _ [] 3 rfl (Q6 _) st (λb o e=>ex b o (e0 b o e)) (z8y (ex _ _ eS)) (λx=>by simp) (Qg _) λs' es ep t ks m mv T hk=>?_
      case hu=>
       show A.units+1+1+9<GZ;lia
      obtain⟨h2,g2,d2,tk2,os2⟩:=s';obtain rfl:g2=s.gens:=mv.gens;obtain rfl:d2=s.drawn:=mv.drawn;obtain rfl:os2=s.os:=mv.os;show wpAny _ _ _ _ _ _;refine GI (GI ⟨rfl,h2,tk2,es,ep,t,ks,m,rfl,T,hk,λb o e=>mv.heap b o (hn b o e) (ex b o (e0 b o e))⟩)
     .cases r₂ with
      | error e=>exact hr₂
      | ok fl₂=>
        cases fl₂ with
        | ret r=>
          obtain⟨rfl,h',tk,es,ep,t,ks,m,rfl,T,hk,ex⟩:=hr₂
          repeat (any_goals (first|assumption|wp_step))
          exact k _ _ _ _ _ _ _ T hk ex
        | _=>exact hr₂.elim
   | _=>exact hr.elim
end
end HK
namespace HK
open PySem PySem.Spec PyProof.Rows SX TB L6
section
variable {prog:GK}{w:GM}{A:GQ}{E:1.0}{s:GJ}
abbrev zhb(h:Heap)(a:Addr)(vs:2.8):Heap:=((h.update a (QJ λ_=>#[])).push (seqObj "tuple" vs.toArray 0)).push (seqObj "list" #[] 0)
theorem zgt{α β:Type}{f:α->β}:∀{vs:List β} {l:4.2},vs.Perm (l.map f)->∃l':List α,l'.Perm l/\l'.map f=vs
 | [],l,h=>by
   have:=h.length_eq;simp at this;exact⟨[],by rw[Jc.mp this.symm],rfl⟩
 | v::vs,l,h=>by
   obtain⟨x,hx,rfl⟩:=Qo.mp (h.mem_iff.mp (Qp));obtain⟨l1,l2,rfl⟩:=Y6 hx;rw[Qu,QB] at h;have h':=(h.trans YW).cons_inv;rw[<- Qu] at h';obtain⟨l',a,b⟩:=zgt h';exact⟨x::l',(a.cons x).trans YW.symm,by rw[QB,b]⟩
theorem znh{R:(Int×GH)->Addr->GG->Prop}(hR:∀e b k,R e b k->e.2 = .ref b):∀(l:List (Int×GH)) (ks:2.3),ks.length=l.length->(∀(i:Nat) e,l[i]? = some e->∃k b,ks[i]? = some k/\R e b k)->∃ps:List (Addr×GG),(ps.map λp=>QQ p.1)=l.map (·.2)/\ps.map (·.2)=ks/\∀p∈ps,∃e∈l,R e p.1 p.2
 | [],[],_,_=>⟨[],rfl,rfl,λp z=>(ZJ z).elim⟩
 | [],_::_,h,_=>by simp at h
 | _::_,[],h,_=>by simp at h
 | e::l,k::ks,h,g=>by
   obtain⟨k',b,e1,r⟩:=g 0 e rfl;cases e1;obtain⟨ps,a1,a2,a3⟩:=znh hR l ks (by simpa using h) λi e' he=>g (i+1) e' (by simpa using he);refine⟨(b,k)::ps,by simp[a1,hR e b k r],by simp[a2],λp hp=>?_⟩;rcases Qz.mp hp with rfl|hp
   .exact⟨e,by simp,r⟩
   .obtain⟨e',h1,h2⟩:=a3 p hp;exact⟨e',Qe _ h1,h2⟩
end
end HK
namespace L3
open PySem PySem.Spec
open PyProof.Rows hiding St
open L2 SX HK
theorem zlp:∀(qs:List (Addr×GG)),Vals (qs.map λq=>V.ref q.1) (qs.map λq=>QQ q.1)
 | []=>.nil
 | b::bs=>.cons rfl (zlp bs)
theorem zoz{K:Qa}{F:3.4}{H:Hp}:∀{qs:List (Addr×GG)},(∀q∈qs,Is K F H (.ref q.1) q.2)->IsAll K F H (qs.map λq=>V.ref q.1) (qs.map (·.2))
 | [],_=>.nil
 | q::qs,h=>.cons (h q 0.1) (zoz λr z=>h r (Qe _ z))
end L3
namespace L3
open PySem PySem.Spec
open PyProof.Rows hiding St
open L2 L6 HK
def encL(w:0.7):GG:=.tuple [.int (w.length:Nat),tS w]
abbrev shL:Sh:=.fcons .n (.fcons .t .fnil)
theorem zkf(w:0.7):zaj shL (encL w):=⟨_,_,rfl,⟨_,rfl⟩,_,_,rfl,⟨_,rfl⟩,rfl⟩
theorem z8n(h:Sml w):TupK (encL w):=by
 refine⟨⟨_,rfl⟩,zhn shL _ (zkf w),?_,?_,λz=>?_⟩
 .simp[encL,ZR,Qy,zd6 h]
 .simp[encL,QU,Zb]
 .simp[encL,bv,bvs] at z
theorem zpe(h:encL a=encL b):a=b:=by
 unfold encL at h;injection h with h;injection h with _ h;injection h with h _;injection h with h;exact zgr h
theorem yav(a b:0.7):dlt (encL a) (encL b)=wlt a b:=by
 show dlts _ _=_
 have e1:QC (.int (a.length:Nat)) (.int (b.length:Nat))=decide (a.length=b.length):=by
  show((a.length:Int) == (b.length:Int))=_
  by_cases e:a.length=b.length
  .rw[NM e,e];simp
  .rw[NK e];exact beq_eq_false_iff_ne.mpr 0.0
 rw[dlts,e1];unfold wlt
 by_cases e:a.length=b.length
 .rw[NM e,NI rfl,dlts]
  have e2:QC (tS a) (tS b)=decide (a=b):=by
   show(tx a == tx b)=_;rw[zos]
  rw[e2]
  by_cases e3:a=b
  .subst e3;simp[dlts,JJ]
  .rw[NK e3,NJ Qx];show decide ((tx a).cps.toList<(tx b).cps.toList)=_;rw[zbu,zbu];simp[e]
 .rw[NK e,NJ Qx];show decide ((a.length:Int)<(b.length:Int))=_;simp
theorem z2k{ws:3.5}{zs:2.3}(nd:zs.Nodup)(mem:∀d,d∈zs↔d∈ws.map encL)(up:zs.Pairwise λa b=>dlt a b=true):∃us:List 1.4,zs=us.map encL/\us.Nodup/\(∀w,w∈us↔w∈ws)/\us.Pairwise λa b=>wlt a b=true:=by
 have:∃us:List 1.4,zs=us.map encL:=by
  have go:∀l:List GG,(∀d∈l,∃p,d=encL p)->∃us:List 1.4,l=us.map encL:=by
   intro l
   induction l with
   | nil=>exact λ_=>⟨[],rfl⟩
   | cons d l ih=>
     intro h;obtain⟨us,e⟩:=ih λx hx=>h x (Qe _ hx);obtain⟨p,rfl⟩:=h d 0.1;exact⟨p::us,by rw[e];rfl⟩
  refine go zs λd hd=>?_;obtain⟨e,_,rfl⟩:=Qo.mp ((mem d).mp hd);exact⟨_,rfl⟩
 obtain⟨us,rfl⟩:=this;refine⟨us,rfl,?_,λp=>?_,?_⟩
 .rw[List.nodup_iff_pairwise_ne,ZP] at nd;exact nd.imp λh e=>h (by rw[e])
 .have:=mem (encL p);rw[Qo,Qo] at this;constructor
  .intro hp;obtain⟨e,he,e2⟩:=this.mp ⟨p,hp,rfl⟩;rw[<- zpe e2];exact he
  .intro he;obtain⟨p',hp',e2⟩:=this.mpr ⟨p,he,rfl⟩;rw[<- zpe e2];exact hp'
 .rw[ZP] at up;exact up.imp λh=>by rw[yav] at h;exact h
def ztk:List GG->2.7->Prop:=λds Q=>∃(ws:3.5) (d:GG),ds = [d]/\(d = .list 5.1\/d = .tuple 5.1)/\(∀w∈ws,Sml w)/\ws.length<64/\Q (.n ((zbi (za4 ws)).map tS))
theorem zim{kept:3.5}:∀{ws:3.5} (w),w∈ws.foldl zaz kept->w∈kept\/w∈ws
 | [],w,h=>.inl h
 | v::ws,w,h=>by
   rcases zim (kept:=zaz kept v) (ws:=ws) w h with h|h
   .unfold zaz at h
    split at h
    .exact .inl h
    .rcases Qq.mp h with h|h
     .exact .inl h
     .rw[Qm.mp h];exact .inr 0.1
   .exact .inr (Qe _ h)
theorem ziq{kept:3.5}:∀{ws:3.5},(ws.foldl zaz kept).length<=kept.length+ws.length
 | []=>Qg _
 | v::ws=>by
   have:=ziq (kept:=zaz kept v) (ws:=ws)
   have h2:(zaz kept v).length<=kept.length+1:=by
    unfold zaz
    split
    .lia
    .rw[Qj,Zd];exact Qg _
   rw[J9,Ql];lia
def sumL(l:3.5):Nat:=(l.map Jo).sum
theorem zbo(w:0.7)(l:3.5):sumL (w::l)=w.length+sumL l:=rfl
theorem zze(a b:3.5):sumL (a++b)=sumL a+sumL b:=by unfold sumL;rw[Qu,List.sum_append]
theorem zwp(h:a.Perm b):sumL a=sumL b:=by
 induction h with
 | nil=>rfl
 | cons x _ ih=>rw[zbo,zbo,ih]
 | swap x y l=>rw[zbo,zbo,zbo,zbo];lia
 | trans _ _ h1 h2=>exact h1.trans h2
theorem zoi{c:Nat}: ∀{A:3.5},(∀w∈A,p w=true->w.take 1≠[c])->sumL ((A.filter λw=>decide (w.take 1 = [c])).map List.tail)+sumL (A.filter p)+(A.filter λw=>decide (w.take 1 = [c])).length<=sumL A
 | [],_=>by simp[sumL]
 | w::A,h=>by
   have ih:=zoi (c:=c) (p:=p) (A:=A) λx hx=>h x (Qe _ hx);have h1:=h w Qp;rw[zbo,Zz,Zz]
   by_cases e:w.take 1 = [c]
   .have hp:p w=false:=by
     cases q:p w with
     | false=>rfl
     | true=>exact absurd e (h1 q)
    rw[NI (NM e),hp,NJ 0.2,QB,zbo,Ql,List.length_tail]
    have:1<=w.length:=by
     cases w with
     | nil=>cases e
     | cons x w=>rw[Ql];lia
    lia
   .rw[NJ (by simpa using e)]
    cases q:p w with
    | true=>rw[NI rfl,zbo];lia
    | false=>rw[NJ 0.2];lia
theorem zqb(A:3.5)(c:Nat):sumL (behB A c)+(A.filter λw=>decide (w.take 1 = [c])).length<=sumL A:=by
 have e:sumL (behB A c)=sumL (shtB A c)+sumL (kptB A c):=by
  unfold behB za4;rw[zwp (JF _ _),zze]
 rw[e];refine zoi (c:=c) (p:=λw=>!(shtB A c).any λv=>under v w) (A:=A) λw hw hp z=>?_
 have:(shtB A c).any (λv=>under v w)=true:=by
  cases w with
  | nil=>cases z
  | cons d u=>
    have:d=c:=by simpa using z
    subst this;exact Z5.mpr ⟨u,mem_sht.mpr hw,under_iff.mpr (Zk d u)⟩
 have hp:(!(shtB A c).any λv=>under v w)=true:=hp;rw[this] at hp;cases hp
theorem zvk(A:3.5)(c:Nat):sumL (behB A c)<=sumL A:=by have:=zqb A c;lia
theorem zvz{c:Nat}(h:c::u∈A):sumL (behB A c)<sumL A:=by
 have:=zqb A c
 have:0<(A.filter λw=>decide (w.take 1 = [c])).length:=Ys.mpr λz=>by
  have:c::u∈A.filter λw=>decide (w.take 1 = [c]):=QI.mpr ⟨h,by simp⟩;rw[z] at this;cases this
 lia
def lowK(l:3.5):List 1.4:=zbi (za4 l)
theorem zap(l:3.5):Kept l (lowK l) :=
 have h:=zji (zoy l)
 ⟨h.asc,λw hw=>sortW_mem.mp (h.of w hw),λw hw=>h.bel w (sortW_mem.mpr hw),λv hv w hw hu=>h.min v hv w (sortW_mem.mpr hw) hu⟩
theorem zdf: upS (lowK l) w↔upS l w:=by
 constructor
 .rintro⟨a,ha,d⟩;exact⟨a,(zap l).of a ha,d⟩
 .rintro⟨a,ha,d⟩;obtain⟨v,hv,hl⟩:=(zap l).bel a ha;exact⟨v,hv,(under_iff.mp hl).trans d⟩
theorem zca(l:3.5):zch (lowK l):=λv hv w hw s=>(zap l).min v hv w ((zap l).of w hw) (under_iff.mpr s)
theorem zbx(asc:A.Pairwise λa b=>wlt a b=true)(h:zch A):LstS (upS A) A:=by
 refine⟨asc,λw=>⟨λhw=>⟨⟨w,hw,.refl _⟩,λv ⟨a,ha,d⟩ s=>?_⟩,λ⟨⟨a,ha,d⟩,m⟩=>?_⟩⟩
 .have e:=h w hw a ha (d.trans s);subst e;exact s.eq_of_length_le d.length_le
 .have:=m a ⟨a,ha,.refl _⟩ d;exact this ▸ ha
def zdb(c:Nat)(w:0.7):List Nat:=if w.take 1 = [c] then w.tail else w
theorem z7y{c:Nat}: upS (L.map (zdb c)) w↔upS L (c::w):=by
 have one:∀a:List Nat,(zdb c a).Sublist w↔a.Sublist (c::w):=λa=>by
  unfold zdb
  cases a with
  | nil=>simp
  | cons d a=>
    by_cases e:d=c
    .subst e;rw[NI 0.1]
     exact⟨λh=>h.cons_cons d,λh=>by
      cases h with
      | cons _ z=>exact(Zk d a).trans z
      | cons_cons _ z=>exact z⟩
    .rw[NJ (by simpa using e)]
     exact⟨λh=>h.trans (Zk c w),λh=>by
      cases h with
      | cons _ z=>exact z
      | cons_cons _ z=>exact absurd rfl e⟩
 constructor
 .rintro⟨a,ha,d⟩;obtain⟨b,hb,rfl⟩:=Qo.mp ha;exact⟨b,hb,(one b).mp d⟩
 .rintro⟨b,hb,d⟩;exact⟨_,Qo.mpr ⟨b,hb,rfl⟩,(one b).mpr d⟩
def chcs:List 1.4->List (List 1.4)
 | []=>[[]]
 | a::A=>(Q3 (a.length+1)).flatMap λi=>(chcs A).map (a.drop i :: ·)
theorem zer:∀{A:3.5},A∈chcs A
 | []=>Qm.mpr rfl
 | a::A=>QV.mpr ⟨0,Q8.mpr 0.0,Qo.mpr ⟨A,zer,rfl⟩⟩
theorem zfw{c:Nat}:∀{A L:3.5},L∈chcs A->L.map (zdb c)∈chcs A
 | [],L,h=>by rw[Qm.mp h];exact Qm.mpr rfl
 | a::A,L,h=>by
   obtain⟨i,hi,h⟩:=QV.mp h;obtain⟨M,hM,rfl⟩:=Qo.mp h;have ih:=zfw (c:=c) hM;have hi:=Q8.mp hi
   have hd:∃j,j<a.length+1/\zdb c (a.drop i)=a.drop j:=by
    unfold zdb
    split
    .rename_i e
     have:i<a.length:=by
      refine Zc λz=>?_;rw[Jm 0.0] at e;cases e
     exact⟨i+1,by lia,by rw[List.tail_drop]⟩
    .exact⟨i,hi,rfl⟩
   obtain⟨j,hj,e⟩:=hd;exact QV.mpr ⟨j,Q8.mpr hj,Qo.mpr ⟨_,ih,by rw[QB,e]⟩⟩
theorem zc4{m:Nat}:∀{A:3.5},(∀w∈A,w.length<=m)->(chcs A).length<=(m+1) ^ A.length
 | [],_=>by simp[chcs]
 | a::A,h=>by
   have ih:=zc4 (m:=m) (A:=A) λw hw=>h w (Qe _ hw);have ha:=h a Qp
   have e:(chcs (a::A)).length=(a.length+1) * (chcs A).length:=by
    show((Q3 (a.length+1)).flatMap λi=>(chcs A).map (a.drop i :: ·)).length=_
    have key:∀l:List Nat,(l.flatMap λi=>(chcs A).map (a.drop i :: ·)).length=l.length * (chcs A).length:=λl=>by
     induction l with
     | nil=>simp
     | cons x l ih=>rw[UW,Qj,Qc,ih,Ql,Y9,Nat.one_mul,Nat.add_comm]
    rw[key,QS]
   rw[e,Ql,Jw,UR];exact JM ih 0.0
theorem zk4(L:3.5)(c:Nat)(asc:(behB (lowK L) c).Pairwise λa b=>wlt a b=true):behB (lowK L) c=lowK (L.map (zdb c)) :=
 (zbx asc (znv (zca L) c)).uniq ((zbx (zap _).asc (zca _)).congr λw=>by rw[zdf,z7y,ze9,zdf])
theorem zig(asc:A.Pairwise λa b=>wlt a b=true)(h:zch A):lowK A=A :=
 ((zbx (zap _).asc (zca _)).congr λw=>zdf).uniq (zbx asc h)
theorem zha(asc:A.Pairwise λa b=>wlt a b=true)(h:zch A)(c:Nat):(behB A c).Pairwise λa b=>wlt a b=true:=by
 have nd:A.Nodup:=asc.imp λ{a b} z e=>by subst e;rw[zb1] at z;cases z
 unfold behB;refine zgo (J1.mpr ⟨?_,nd.filter _,λx hx y hy e=>?_⟩)
 .unfold shtB;refine ZP.mpr ((nd.filter _).imp_of_mem λ{a b} ha hb ne e=>?_);have h1:=(QI.mp ha).2;have h2:=(QI.mp hb).2;rw[NN] at h1 h2
  cases a with
  | nil=>cases h1
  | cons x a=>
    cases b with
    | nil=>cases h2
    | cons y b=>
      have e1:x=c:=by simpa using h1
      have e2:y=c:=by simpa using h2
      have e3:a=b:=e;exact ne (by rw[e1,e2,e3])
 .subst e;have hk:=(QI.mp hy).2;have:(shtB A c).any (λv=>under v x)=true:=Z5.mpr ⟨x,hx,zgn x⟩;rw[this] at hk;cases hk
theorem zw0(h:[]∈A)(w:0.7):upS A w:=⟨[],h,Jd w⟩
theorem zyx(h:[]∈A)(asc:B.Pairwise λa b=>wlt a b=true)(an:zch B):LstS (MetS A B) B:=(zbx asc an).congr λw=>⟨λz=>⟨zw0 h w,z⟩,λz=>z.2⟩
theorem zxz(h:[]∈B)(asc:A.Pairwise λa b=>wlt a b=true)(an:zch A):LstS (MetS A B) A:=(zbx asc an).congr λw=>⟨λz=>⟨z,zw0 h w⟩,λz=>z.1⟩
theorem z8i(h:A = []\/B = []):LstS (MetS A B) []:=by
 refine⟨.nil,λw=>⟨λz=>(nomatch z),λz=>?_⟩⟩;obtain⟨⟨⟨a,ha,_⟩,b,hb,_⟩,_⟩:=z;rcases h with rfl|rfl
 .cases ha
 .cases hb
theorem zxq(an:zch A)(h:[]∈A)(nd:A.Nodup):A = [[]]:=by
 have all:∀w∈A,w = []:=λw hw=>(an w hw [] h (Jd w)).symm
 cases A with
 | nil=>cases h
 | cons x A=>
   have hx:=all x Qp;subst hx
   cases A with
   | nil=>rfl
   | cons y A=>
     have hy:=all y 0.1;subst hy;exact absurd (Qp) (Zq.mp nd).1
end L3
namespace HK
open PySem PySem.Spec PyProof.Rows PySem.SetTable SX TB
noncomputable instance:DecidableEq GG:=λa b=>J2 (a=b)
structure DKey(k:GG):Prop where
 tu:∃ds,k = .tuple ds
 ha:hk k=true
 la:k.canLay0=true
 de:k.depth<=8
theorem zgz{n:Nat}(ih:∀d:GG,d.depth<=n->hk d=true->∀(e:GG) v as bs,hk e=true->Tg h v d as->Tg h v e bs->d=e):∀{vs:2.8} {ds es:2.3} {as bs:5.6},(∀d∈ds,d.depth<=n)->hks ds=true->hks es=true->Ts h vs ds as->Ts h vs es bs->ds=es
 | [],_,_,_,_,_,_,_,r,r'=>by cases r;cases r';rfl
 | v::vs,_,_,_,_,hd,h1,h2,r,r'=>by
   cases r with
   | cons r1 r2=>
     cases r' with
     | cons r3 r4=>
       simp only[hks,Q9] at h1 h2;rw[ih _ (hd _ 0.1) h1.1 _ _ _ _ h2.1 r1 r3,zgz ih (λd z=>hd d (Qe _ z)) h1.2 h2.2 r2 r4]
theorem zvb: ∀(n:Nat) (d:GG),d.depth<=n->hk d=true->∀(e:GG) v as bs,hk e=true->Tg h v d as->Tg h v e bs->d=e:=by
 intro n
 induction n with
 | zero=>
   intro d hd hk' e v as bs he r r'
   cases r with
   | int i t=>cases r';rfl
   | str x t=>cases r';rfl
   | tuple _ _ _ _=>simp[QU] at hd
   | _=>simp[hk] at hk'
 | succ n ih=>
   intro d hd hk' e v as bs he r r'
   cases r with
   | int i t=>cases r';rfl
   | str x t=>cases r';rfl
   | @tuple a o vs c ds as ho hc hdt hr=>
     have hds:hks ds=true:=by simpa[hk] using hk'
     rw[QU] at hd
     cases r' with
     | @tuple _ o' vs' c' es bs ho' hc' hdt' hr'=>
       obtain rfl:o=o':=Za (ho.symm.trans ho');rw[hdt] at hdt';injection hdt' with h1 _;subst h1;have hes:hks es=true:=by simpa[hk] using he
       rw[zgz ih (λd z=>by have:=zc3 z;lia) hds hes hr hr']
     | list _ _ _ _=>simp[hk] at he
     | dict _ _ _ _ _=>simp[hk] at he
   | _=>simp[hk] at hk'
theorem zo4{k:GG}(h:DKey k)(h':DKey k'):QC k k'=true↔k=k':=L3.eqv_solid k k' (zcm k h.ha) (zcm k' h'.ha)
noncomputable def dataKind(P:GK)(w:GM):HeapKind P w GG where
 is h k a:=DKey k/\∃as,Tg h 3.1 k as
 hash:=hD w
 draws:=dr
 room A:=A.units+16<GZ
 inj:=λ⟨h1,_,r1⟩ ⟨h2,_,r2⟩=>zvb 8 _ h1.de h1.ha _ _ _ _ h2.ha r1 r2
 keeps:=by
  rintro h h' k a d o es ep ⟨hk',as,r⟩ ho hd sb;refine⟨hk',as,zis (λb o' xs n e dt=>?_) 8 k hk'.de hk'.ha _ _ r⟩
  have ne:b≠d:=by
   rintro rfl;rw[ho] at e;cases e;rw[hd] at dt;exact nomatch dt
  exact(sb.2 b ne).trans e
 pyHash:=λhr ⟨hk',as,r⟩ q=>zjo 8 _ hk'.de hk'.ha _ _ _ _ _ _ (by have:=hk'.de;lia) r q
 eqBool:=by
  rintro A E s x y a b Q hr ⟨hx,as,rx⟩ ⟨hy,bs,ry⟩ q;refine Vg _ _ _ _ _ _ _ x y _ _ _ rx ry hx.la hy.la (by have:=hy.de;have:=hx.de;lia) ?_
  have e:decide (x=y)=QC x y:=by
   by_cases z:x=y
   .rw[NM z,(zo4 hx hy).mpr z]
   .rw[NK z];cases h:QC x y
    .rfl
    .exact absurd ((zo4 hx hy).mp h) z
  rw[<- e];exact q
 quiet:=λ⟨hk',as,r⟩ q=>zew 8 _ hk'.de hk'.ha _ _ _ _ _ _ r q
end HK
namespace L3
open PySem PySem.Spec
open PyProof.Rows hiding St
open L2
def DdOk(w:GM)(ks:2.3)(a:Addr)(xs:3.3)(h:Heap):Prop :=
 (a == Tk)=false/\ks.length<=sizeLine/\ks.Nodup/\(∀k∈ks,HK.DKey k)/\∃zs:List (GG×Addr×GH),zs.map (·.1)=ks/\Vals xs (zs.map (λz=>QQ z.2.1)++zs.map (λz=>z.2.2)) /\
  ∃o es ep,h.get? a=some o/\o.ExactDict/\o.data = .dict es ep/\es.toList=zs.map λz=>(⟨HK.hD w z.1,.ref z.2.1,z.2.2⟩:DictEntry)
def ddO(w:GM)(ks:2.3)(a:Addr)(xs:3.3):HO:=.ext (DdOk w ks a xs)
theorem zht: OwnO (ddO w ks a xs):=.ext
theorem ztc(x:DdOk w' ks a xs h):ObjOk P w H h a (ddO w' ks a xs):=by
 obtain⟨h1,h2,h3,h4,zs,h5,h6,o,es,ep,h7,h8⟩:=id x;refine⟨x,⟨o,h7⟩,λg1 g2 y e=>?_⟩;obtain⟨h1,h2,h3,h4,zs,h5,h6,o,es,ep,h7,h8⟩:=y;exact⟨h1,h2,h3,h4,zs,h5,h6,o,es,ep,e _ h7,h8⟩
theorem zd9: ∀{us:2.8} {ds:2.3} {as:5.6} {i:Nat} {u:GH},Ts h us ds as->us[i]? = some u->∃d bs,ds[i]? = some d/\Tg h u d bs
 | _::_,_,_,0,_,.cons r _,e=>by cases e;exact⟨_,_,rfl,r⟩
 | _::_,_,_,i+1,_,.cons _ t,e=>by
   obtain⟨d,bs,h1,h2⟩:=zd9 (i:=i) t (by simpa using e);exact⟨d,bs,by simpa using h1,h2⟩
section
variable {X:Cx}{pins:0.9}{σ:St}{H:Hp}{s:GJ}{a:Addr}{ks vs:2.3}{xs:3.3}{F:3.4}
theorem zsb(I:0.5)(e:H a=some (ddO X.w ks a xs))(is:IsAll X.K F H xs (ks++vs)):(a == Tk)=false/\ks.length<=sizeLine/\ks.Nodup/\(∀k∈ks,HK.DKey k) /\
 ∃zs:List (GG×Addr×GH),zs.map (·.1)=ks/\Vals xs (zs.map (λz=>QQ z.2.1)++zs.map (λz=>z.2.2))/\s.heap.DictOfH (HK.dataKind X.prog X.w) a zs:=by
 obtain⟨h1,h2,h3,h4,zs,h5,h6,o,es,ep,h7,h8,h9,h10⟩:=(show ObjOk X.prog X.w H s.heap a (ddO X.w ks a xs) from I.hok a _ e).1;refine⟨h1,h2,h3,h4,zs,h5,h6,o,es,ep,h7,h8,h9,h10,λz hz=>?_,by rw[h5];exact h3⟩;obtain⟨as,ra⟩:=IsAll.reads I is h6;obtain⟨i,hi⟩:=QK.mp hz;have il:i<zs.length:=(Qn.mp hi).1;obtain⟨d,bs,hd,r⟩:=zd9 (i:=i) (u:=.ref z.2.1) ra (by rw[QA (by simpa using il),Qh,hi];rfl);have hk:ks[i]? = some z.1:=by rw[<- h5,Qh,hi];rfl
 rw[QA (by rw[<- h5];simpa using il),hk] at hd;cases hd;exact⟨h4 _ (Qt hk),bs,r⟩
theorem zdt(I:0.5){k:GG}(hk:HK.DKey k)(is:Is X.K F H y k)(ry:RelV y u):∃b,y = .ref b/\u = .ref b/\(HK.dataKind X.prog X.w).is s.heap k b:=by
 obtain⟨as,r⟩:=Is.reads I is ry;obtain⟨ds,e⟩:=hk.tu;subst e
 cases is with
 | tuple q rs=>
   cases ry;exact⟨_,rfl,rfl,hk,as,r⟩
theorem znf(h5:zs.map (·.1)=ks)(nd:ks.Nodup){k:GG}{i:Nat}(hi:ks[i]? = some k):∃p,zs[i]? = some (k,p)/\M4 zs k=some p:=by
 rw[<- h5,Qh] at hi;obtain⟨⟨k',p⟩,hz,rfl⟩:=Q2.mp hi;exact⟨p,hz,atKey_of_get (by rw[h5];exact nd) hz⟩
theorem zf7(h5:zs.map (·.1)=ks)(nd:ks.Nodup){k:GG}:(M4 zs k).isSome=decide (k∈ks):=by
 by_cases h:k∈ks
 .obtain⟨i,hi⟩:=QK.mp h;obtain⟨p,_,e⟩:=znf h5 nd hi;rw[e,NM h];rfl
 .rw[NK h,atKey_none_of_get λj p e=>h ?_]
  .rfl
  .rw[<- h5];exact Qo.mpr ⟨_,Qt e,rfl⟩
end
def zni(w:GM):TE:=λ_ H Q=>∀p,H p=none->Q (.ref p) (upd H p (ddO w [] p []))
def zw6(w:GM)(K:Qa)(td ty:TE):TE:=λσ H Q=>td σ H λx H1=>ty σ H1 λy H2=>∃(a:Addr) (ks vs:2.3) (xs:3.3) (F:3.4) (i:Nat) (k:GG) (v:V),x = .ref a/\H2 a=some (ddO w ks a xs)/\IsAll K F H2 xs (ks++vs) /\
 Is K F H2 y k/\ks[i]? = some k/\xs[ks.length+i]? = some v/\Q v H2
def zo0(w:GM)(K:Qa)(ty td:TE):TE:=λσ H Q=>ty σ H λy H1=>td σ H1 λx H2=>∃(a:Addr) (ks vs:2.3) (xs:3.3) (F:3.4) (k:GG),x = .ref a/\H2 a=some (ddO w ks a xs)/\IsAll K F H2 xs (ks++vs) /\
 Is K F H2 y k/\HK.DKey k/\Q (.bl (!decide (k∈ks))) H2
def zvw(w:GM)(K:Qa)(td ty tv:TE):TS:=λD σ H=>tv σ H λv H1=>td σ H1 λx H2=>ty σ H2 λy H3=>∃(a:Addr) (ks vs:2.3) (us ys:3.3) (F:3.4) (k:GG),x = .ref a/\H3 a=some (ddO w ks a (us++ys))/\us.length=ks.length/\IsAll K F H3 (us++ys) (ks++vs) /\
 Is K F H3 y k/\HK.DKey k/\k ∉ ks/\ks.length<sizeLine/\D.nx σ (upd H3 a (ddO w (ks ++ [k]) a ((us ++ [y])++(ys ++ [v]))))
section
variable {X:Cx}{o i e value:Expr}{pos pos':Pos}{td ty tv:TE}
theorem zom:PE X (.Dict [] [] pos) (zni X.w):=λpins s σ H Q I h=>
 wpAny_Dict_empty ⟨.ref s.heap.objs.size,_,I.laid (a:=s.heap.objs.size) (o:=ddO X.w [] s.heap.objs.size []) (t':=s.toks) (λ_ _ q=>Qf _ q) (Qg _)
  (ztc ⟨beq_eq_false_iff_ne.mpr (Z8 (Q0 I.big)),Q6 _,Ui,λ_ z=>(nomatch z),[],rfl,(show Vals [] [] from .nil),_,#[],0,Qs _ rfl,⟨rfl,rfl,rfl⟩,rfl,rfl⟩),rfl,h _ (I.hok.fresh (Qg _))⟩
theorem zy4(hu:X.A.units+64<GZ)(ho:PE X o td)(hi:PE X i ty)(hs:NoSl i):PE X (.Subscript o i pos) (zw6 X.w X.K td ty):=by
 intro pins s σ H Q I h;refine zj5 Yr.lookup hs (thn (ho pins s σ H _ I h) λu s1 ⟨x,H1,I1,rx,q1⟩=>thn (hi pins s1 σ H1 _ I1 q1) λiv s2 zz=>?_);obtain⟨y,H2,I2,ry,a,ks,vs,xs,F,i,k,v,ex,g,is,iy,hk,hv,q2⟩:=zz;subst ex;obtain rfl:u=QQ a:=rx;obtain⟨hd,z,nd,dk,zs,h5,h6,D⟩:=zsb I2 g is;obtain⟨b,rfl,rfl,kb⟩:=zdt I2 (dk k (Qt hk)) iy ry;obtain⟨p,hz,hp⟩:=znf h5 nd hk;refine⟨D.typeIs,Mz (show _+16<GZ by show X.A.units+1+16<GZ;lia) kb D hp ⟨v,H2,I2.tok _,?_,q2⟩⟩;obtain⟨u',hu',r'⟩:=h6.get hv;have l5:zs.length=ks.length:=by rw[<- h5,Qc]
 rw[QF (by simp;lia),Qh,Qc,show ks.length+i-zs.length=i by lia,hz] at hu';cases hu';exact r'
theorem zsi(hu:X.A.units+64<GZ)(hi:PE X i ty)(ho:PE X o td):PC X .NotIn i o (zo0 X.w X.K ty td):=by
 intro pins s σ H Q I h;refine thn (hi pins s σ H _ I h) λiv s1 ⟨y,H1,I1,ry,q1⟩=>thn (ho pins s1 σ H1 _ I1 q1) λu s2 zz=>?_;obtain⟨x,H2,I2,rx,a,ks,vs,xs,F,k,ex,g,is,iy,hk,q2⟩:=zz;subst ex;obtain rfl:u=QQ a:=rx;obtain⟨hd,z,nd,dk,zs,h5,h6,D⟩:=zsb I2 g is;obtain⟨b,rfl,rfl,kb⟩:=zdt I2 hk iy ry;refine ME (show _+16<GZ by show X.A.units+1+16<GZ;lia) kb hd D ?_;rw[zf7 h5 nd];exact⟨.bl (!decide (k∈ks)),H2,I2.tok _,rfl,q2⟩
theorem zxo(hu:X.A.units+64<GZ)(ho:PE X o td)(hi:PE X i ty)(hv:PE X value tv)(hs:Tc value (some (.Subscript o i pos')) pos.line X.env=pure false):
 PS X (.Assign [.Subscript o i pos'] value pos) (zvw X.w X.K td ty tv):=by
 intro pins s σ H D I h;refine Ml (thn (hv pins s σ H _ I h) λr s1 ⟨v,H1,I1,rv,q1⟩=>thn (ho pins s1 σ H1 _ I1 q1) λu s2 ⟨x,H2,I2,rx,q2⟩=>thn (hi pins s2 σ H2 _ I2 q2) λiv s3 zz=>?_) hs;obtain⟨y,H3,I3,ry,a,ks,vs,us,ys,F,k,ex,g,lu,is,iy,hk,nk,hz,q3⟩:=zz;subst ex;obtain rfl:u=QQ a:=rx;obtain⟨hd,z,nd,dk,zs,h5,h6,Dd⟩:=zsb I3 g is;obtain⟨b,rfl,rfl,kb⟩:=zdt I3 hk iy ry;have l5:zs.length=ks.length:=by rw[<- h5,Qc]
 have none:M4 zs k = .none:=by
  have:=zf7 h5 nd (k:=k);rw[NK nk] at this;cases hh:M4 zs k
  .rfl
  .rw[hh] at this;cases this
 refine M1 (hsz:=by lia) (show _+16<GZ by show X.A.units+1+16<GZ;lia) kb Dd λh' D' sb=>⟨σ,_,?_,q3⟩;rw[storedH_new none] at D';obtain⟨q,es,ep,hq,e2,e3,e4,_,e5⟩:=D';refine zfi I3 (by rw[g];exact Yi) sb ⟨q,hq⟩ (ztc ⟨hd,by simp;lia,?_,?_,zs ++ [(k,b,r)],by rw[Qu,h5];rfl,?_,q,es,ep,hq,e2,e3,e4⟩)
 .rw[Qu,h5] at e5;exact e5
 .intro k' hk';rcases Qq.mp hk' with z|z
  .exact dk k' z
  .rw[Qm.mp z];exact hk
 .have hu:=h6.take zs.length;have hy:=h6.drop zs.length;rw[Vh 0.0,Zu 0.0,Vh 0.1,Zu 0.1] at hu;rw[show zs.length=us.length by lia,Yl,show us.length=(zs.map λz=>QQ z.2.1).length by simp;lia,Yl] at hy;rw[Qu,Qu];exact(hu.append (.cons (show RelV 5.9 5.9 from rfl) .nil)).append (hy.append (.cons rv .nil))
end
section
variable {K:Qa}{O:Ob}{H₀ H H':Hp}{A:Nat->Addr->Prop}{σ:St}{ρ:DSt}
theorem Rep.setGen{i:Nat}(r:5.3)(s:Stp O H H')(hn:H a=ZO)(hl:H' a=some (f a xs))(ho:OwnO (f a xs))(hf:IsAll K 3.7 H' xs ds)(fl:flats ds=true):
 Rep K O H₀ (λj b=>(j≠i/\A j b)\/(j=i/\b=a)) H' (σ.set i (some 3.1)) (ρ.set i (some (.gen f ds))) :=
 r.setX (W:=λb=>b=a) s (λ_ _ e _=>e) (λb e=>by subst e;exact⟨.inr hn,_,hl,ho⟩) ⟨a,xs,rfl,.inr ⟨rfl,rfl⟩,hl,IsAll.flats (TupStay.refl H') hf fl⟩
theorem Rep.changeG{i:Nat}(r:5.3)(e:ρ[i]? = some (some (.gen f ds)))(hv:σ[i]? = some (some 3.1))(ha:A i a)(ho:OwnO (f' a ys))(hs:IsAll K (unO O A) H ys es):
 Rep K O H₀ A (upd H a (f' a ys)) σ (ρ.set i (some (.gen f' es))) :=
 r.changeX hv ha ho ⟨a,ys,rfl,ha,zae,r.up ha hs⟩
mutual
theorem zds:∀d:GG,HK.hk d=true->flat d=true
 | .int _,_=>rfl
 | .str _,_=>rfl
 | .tuple ds,h=>by rw[flat];exact zlo ds (by simpa[HK.hk] using h)
 | .none,h=>by simp[HK.hk] at h
 | .bool _,h=>by simp[HK.hk] at h
 | .list _,h=>by simp[HK.hk] at h
 | .dict _,h=>by simp[HK.hk] at h
theorem zlo:∀ds:List GG,HK.hks ds=true->flats ds=true
 | [],_=>rfl
 | d::ds,h=>by
   simp only[HK.hks,Q9] at h;rw[flats,zds d h.1,zlo ds h.2];rfl
end
def zs9(w:GM)(n:Nat)(ρ:DSt)(ks vs:2.3):Prop:=ks.length=vs.length/\(ρ[n]? = some (some (.gen (ddO w ks) (ks++vs)))\/ρ[n]? = some (some (.rd (ddO w ks) (ks++vs))))
theorem zod{n:Nat}(S:Seen K O H σ ρ)(h:zs9 w n ρ ks vs):∃a xs,σ[n]? = some (some 3.1)/\¬O.M a/\H a=some (ddO w ks a xs)/\IsAll K 3.7 H xs (ks++vs):=by
 rcases h.2 with e|e
 .obtain⟨v,h1,a,xs,rfl,nm,q,z⟩:=S.at_ n _ e;exact⟨a,xs,h1,nm,q,z⟩
 .obtain⟨v,h1,a,xs,rfl,nm,q,z⟩:=S.at_ n _ e;exact⟨a,xs,h1,nm,q,z⟩
def zux(w:GM)(n:Nat):DS:=λDd ρ=>Dd.nx (ρ.set n (some (.gen (ddO w []) [])))
def zw9(w:GM)(n:Nat)(fk:DE):DE:=λρ Q=>∃ks vs,zs9 w n ρ ks vs/\fk ρ λr=>∃(i:Nat) (v:GG),ks[i]? = some r.d/\vs[i]? = some v/\Q (.o v)
def zou(w:GM)(n:Nat)(fk:DE):DT:=λρ Q=>∃ks vs,zs9 w n ρ ks vs/\fk ρ λr=>HK.DKey r.d/\∀b:Bool,(b=true↔r.d ∉ ks)->Q b
def ztz(w:GM)(n:Nat)(fv fk:DE):DS:=λDd ρ=>∃ks vs,ks.length=vs.length/\ρ[n]? = some (some (.gen (ddO w ks) (ks++vs)))/\fv ρ λrv=>fk ρ λrk=>flat rv.d=true/\HK.DKey rk.d/\rk.d ∉ ks/\ks.length<sizeLine/\Dd.nx (ρ.set n (some (.gen (ddO w (ks ++ [rk.d])) ((ks ++ [rk.d])++(vs ++ [rv.d])))))
theorem zxs{n:Nat}:SD K O (tAsg (zni w) (zav n)) (zux w n):=λH₀ A σ H ρ D Dd r q P=>by
 intro p hp;have st:Stp O H (upd H p (ddO w [] p [])):=.new r.ok hp _;exact P.nx _ _ _ _ (r.setGen (i:=n) (f:=ddO w []) (ds:=[]) st hp zae zht .nil rfl) (.setOwn st hp) q
theorem zyh{n:Nat}(h:ED K O t f):ED K O (zw6 w K (tVar n) t) (zw9 w n f):=λσ H ρ Q Qd S q k=>by
 obtain⟨ks,vs,hd,q⟩:=q;obtain⟨a,xs,h1,nm,g,is⟩:=zod S hd;refine⟨_,h1,?_⟩;refine h σ H ρ _ _ S q λy H1 r s1 o1 zz=>?_;obtain⟨i,v,hk,hv,q1⟩:=zz;have is1:=is.stp s1 4.7 4.7;have hv':(ks++vs)[ks.length+i]? = some v:=by rw[QF 0.0,show ks.length+i-ks.length=i by lia];exact hv
 obtain⟨u,hu,iu⟩:=is1.get hv';exact⟨a,ks,vs,xs,unM O,i,r.d,u,rfl,s1.s a _ g nm,is1,o1.is S.ok S.p,hk,hu,k u H1 (.o v) s1 iu q1⟩
theorem zr9{n:Nat}(h:ED K O t f):TD K O (tB (zo0 w K t (tVar n))) (zou w n f):=λσ H ρ Q Qd S q k=>by
 obtain⟨ks,vs,hd,q⟩:=q;refine h σ H ρ _ _ S q λy H1 r s1 o1 zz=>?_;obtain⟨hk,q1⟩:=zz;obtain⟨a,xs,h1,nm,g,is⟩:=zod (S.stp s1) hd;exact⟨_,h1,a,ks,vs,xs,unM O,r.d,rfl,g,is,o1.is S.ok S.p,hk,_,rfl,k _ H1 s1 (q1 _ 0.1)⟩
theorem zyz{n:Nat}(hv:ED K O tv fv)(hk:ED K O tk fk):SD K O (zvw w K (tVar n) tk tv) (ztz w n fv fk):=λH₀ A σ H ρ D Dd r q P=>by
 obtain⟨ks,vs,ln,e,q⟩:=q;refine hv σ H ρ _ _ r.seen q λv H1 x s1 o1 q1=>?_;have r1:=r.stp s1;obtain⟨u,h1,a0,xs0,rfl,ha0,hl0,hs0⟩:=r1.at_ n _ e;refine⟨_,h1,?_⟩;refine hk σ H1 ρ _ _ r1.seen q1 λy H2 z s2 o2 zz=>?_;obtain⟨fl,dk,nk,hz,q2⟩:=zz;have r2:=r1.stp s2;obtain⟨u,h2,a,xs,e2,ha,hl,hs⟩:=r2.at_ n _ e;rw[h1] at h2;cases h2;cases e2;have lx:=hs.length;rw[Qj] at lx;have hu:=hs.take ks.length;have hy:=hs.drop ks.length;rw[YI] at hu;rw[Yl] at hy;have ex:xs.take ks.length++xs.drop ks.length=xs:=Zm _ _;have iv:Is K (unO O A) H2 v x.d:=Is.flat s2.t (o1.is r.ok r.p) fl;have iy:Is K (unO O A) H2 y z.d:=Is.flat (TupStay.refl H2) (o2.is r1.ok r1.p) (zds _ dk.ha);refine⟨a0,ks,vs,xs.take ks.length,xs.drop ks.length,unO O A,z.d,rfl,by rw[ex];exact hl,by rw[QL];lia,by rw[ex];exact hs,iy,dk,nk,hz,?_⟩;have rr:=r2.changeG (f':=ddO w (ks ++ [z.d])) (ys:=(xs.take ks.length ++ [y])++(xs.drop ks.length ++ [v])) (es:=(ks ++ [z.d])++(vs ++ [x.d])) e h1 ha zht ((hu.snoc iy).append (hy.snoc iv));exact P.nx A σ _ _ rr ((Frm.stp 6.0).trans (.change ha)) q2
end
section
variable {ι κ:Type}{P:GK}{w:GM}{K:Qa}{mg:0.4}{base:Heap}{k:Nat}{X:ι->Cx}{O:κ->Ob}{a b:Expr}{fa fb:DE}{pos p:Pos}
theorem z1q(n:Nat)(C:0.6)(hN:∀i,(X i).N.Nodup:=by intro i;exact NL 2.5)(hi:1.8:=by intro i;rfl)(hx:∀i,Loc (X i).env.scope x:=by intro i;first|exact Or.inl rfl|exact Or.inr rfl)
 (hs:∀i,Tc (.Dict [] [] p3) (some 1.9) pos.line (X i).env=pure false:=by intro i;rfl) (hf:6.2:=by intro i;first|exact .inl rfl|exact .inr rfl) :
 S3 K X O (.Assign [.Name x px] (.Dict [] [] p3) pos) (zux w n) :=
 ⟨_,λi=>by
  have h:=zom (X:=X i) (pos:=p3);rw[C.hw] at h
  exact zb3 (hN i) (hi i) (hx i) h (hs i) (hf i),λj=>zxs⟩
theorem zrn(n:Nat)(C:0.6)(ha:2.2)(hN:1.8:=by intro i;rfl)(hv:2.6:=by intro i;first|exact Or.inl rfl|exact Or.inr 4.5|exact Or.inr 4.4)(hd:1.1:=by decide)(hcd:2.0:=by decide)
 (hs:NoSl a:=by intro _ _;rfl):E3 K X O (.Subscript 1.9 a pos) (zw9 w n fa):=let ⟨_,p1,d1⟩:=ha;
 ⟨_,λi=>by
  have h:=zy4 (pos:=pos) (C.room i).units 5.4 (p1 i) hs;rw[C.hw,C.hK] at h
  exact h,λj=>zyh (d1 j)⟩
theorem zvl(n:Nat)(C:0.6)(ha:2.2)(hN:1.8:=by intro i;rfl)(hv:2.6:=by intro i;first|exact Or.inl rfl|exact Or.inr 4.5|exact Or.inr 4.4)(hd:1.1:=by decide)(hcd:2.0:=by decide)
 (hm:Ti .NotIn 1.9=false:=by rfl):T3 K X O (.Compare a [.NotIn] [.Name x px] pos) (zou w n fa):=let ⟨_,p1,d1⟩:=ha;
 ⟨_,λi=>by
  have h:=zsi (C.room i).units (p1 i) 5.4;rw[C.hw,C.hK] at h
  exact zop h hm,λj=>zr9 (d1 j)⟩
theorem z2p(n:Nat)(C:0.6)(hv:2.2)(hi:E3 K X O b fb)(hN:1.8:=by intro i;rfl)(hvx:2.6:=by intro i;first|exact Or.inl rfl|exact Or.inr 4.5|exact Or.inr 4.4)(hd:1.1:=by decide)(hcd:2.0:=by decide)
 (hs:∀i,Tc a (some (.Subscript 1.9 b tp)) pos.line (X i).env=pure false:=by intro i;rfl) :
 S3 K X O (.Assign [.Subscript 1.9 b tp] a pos) (ztz w n fa fb):=let ⟨_,p1,d1⟩:=hv;let ⟨_,p2,d2⟩:=hi;
 ⟨_,λi=>by
  have h:=zxo (pos:=pos) (pos':=tp) (C.room i).units (zag (pos:=px) (hN i) (hvx i) hd hcd) (p2 i) (p1 i) (hs i);rw[C.hw,C.hK] at h
  exact h,λj=>zyz (d1 j) (d2 j)⟩
end
def ArgV(K:Qa)(O:Ob)(H:Hp)(v:V)(r:DV):Prop:=(∃d,r = .im d/\Is K 3.7 H v d)\/(∃f ds,r = .rd f ds/\SeenV K O H v (.rd f ds))\/(r = .ob/\v=O.v)\/∃T,r = .thr T/\SeenV K O H v (.thr T)
def Args(K:Qa)(O:Ob)(H:Hp):List V->List DV->Prop
 | [],[]=>True
 | v::vs,r::rs=>ArgV K O H v r/\Args K O H vs rs
 | _,_=>False
theorem Args.length{K:Qa}{O:Ob}{H:Hp}:∀{vs:3.3} {rs:List DV},Args K O H vs rs->vs.length=rs.length
 | [],[],_=>rfl
 | _::_,_::_,h=>by rw[Ql,Ql,Args.length h.2]
theorem Args.get{K:Qa}{O:Ob}{H:Hp}:∀{vs:3.3} {rs:List DV} {i:Nat} {r:DV},Args K O H vs rs->rs[i]? = some r->∃v,vs[i]? = some v/\ArgV K O H v r
 | [],[],_,_,_,e=>by simp at e
 | [],_::_,_,_,h,_=>h.elim
 | _::_,[],_,_,h,_=>h.elim
 | _::_,_::_,0,_,h,e=>by cases e;exact⟨_,rfl,h.1⟩
 | _::_,_::_,i+1,_,h,e=>by
   obtain⟨v,h1,h2⟩:=Args.get (i:=i) h.2 (by simpa using e);exact⟨v,by simpa using h1,h2⟩
def spG(K:Qa)(φ:Ob->Prop)(n:Nat)(f:List DV->2.7->Prop):Sp:=λvs H Q _=>
 ∃(O:Ob) (rs:List DV) (Qr:R->Prop),O.Ok/\φ O/\O.P H/\rs.length=n/\Args K O H vs rs/\f rs Qr/\∀r,Qr r->∀v H',Stp O H H'->Out K O H H' v r->Q v H'
theorem z2x{K:Qa}{φ:Ob->Prop}{n:Nat}{f:List DV->2.7->Prop}{ps:2.4}(hn:ps.length=n):∀vs H Q E,spG K φ n f vs H Q E->vs.length=ps.length:=λvs H Q E zz=>by obtain⟨O,rs,_,_,_,_,h,is,_⟩:=zz;rw[is.length,h,hn]
abbrev DGA:=DSt->(List DV->Prop)->Prop
def AG(K:Qa)(O:Ob)(t:TA)(f:DGA):Prop :=
 ∀(σ:St) (H:Hp) (ρ:DSt) (Q:List V->Hp->Prop) (Qd:List DV->Prop),Seen K O H σ ρ->f ρ Qd->(∀vs H' rs,Stp O H H'->Args K O H' vs rs->Qd rs->Q vs H')->t σ H Q
def z0w:DGA:=λ_ Q=>Q []
def gImA(f:DE)(g:DGA):DGA:=λρ Q=>f ρ λr=>g ρ λrs=>Q (.im r.d::rs)
def zz8(n:Nat)(g:DGA):DGA:=λρ Q=>∃f ds,(ρ[n]? = some (some (.gen f ds))\/ρ[n]? = some (some (.rd f ds)))/\g ρ λrs=>Q (.rd f ds::rs)
section
variable {K:Qa}{O:Ob}
theorem z7s:AG K O tNil z0w:=λσ H ρ Q Qd S h k=>k [] H [] 3.0 trivial h
theorem yar(h:ED K O t f)(h':AG K O u g):AG K O (zar t u) (gImA f g):=λσ H ρ Q Qd S hf k=>by
 refine h σ H ρ _ _ S hf λv H1 r s1 o1 q1=>?_;refine h' σ H1 ρ _ _ (S.stp s1) q1 λvs H2 rs s2 a2 q2=>?_;exact k (v::vs) H2 (.im r.d::rs) 6.0 ⟨.inl ⟨r.d,rfl,Is.stp s2 4.7 4.7 (o1.is S.ok S.p)⟩,a2⟩ q2
theorem z7z{n:Nat}(h':AG K O u g):AG K O (zar (tVar n) u) (zz8 n g):=λσ H ρ Q Qd S hf k=>by
 obtain⟨f,ds,e,q⟩:=hf
 have:∃v,σ[n]? = some (some v)/\SeenV K O H v (.rd f ds):=by
  rcases e with e|e
  .obtain⟨v,h1,h2⟩:=S.at_ n _ e;exact⟨v,h1,h2⟩
  .obtain⟨v,h1,h2⟩:=S.at_ n _ e;exact⟨v,h1,h2⟩
 obtain⟨v,h1,h2⟩:=this;refine⟨v,h1,?_⟩;refine h' σ H ρ _ _ S q λvs H2 rs s2 a2 q2=>?_;exact k (v::vs) H2 (.rd f ds::rs) s2 ⟨.inr (.inl ⟨f,ds,rfl,SeenV.stp s2 h2⟩),a2⟩ q2
def zz1(n:Nat)(g:DGA):DGA:=λρ Q=>∃T,ρ[n]? = some (some (.thr T))/\g ρ λrs=>Q (.thr T::rs)
theorem z6r{n:Nat}(h':AG K O u g):AG K O (zar (tVar n) u) (zz1 n g):=λσ H ρ Q Qd S hf k=>by
 obtain⟨T,e,q⟩:=hf;obtain⟨v,h1,h2⟩:=S.at_ n _ e;refine⟨v,h1,?_⟩;refine h' σ H ρ _ _ S q λvs H2 rs s2 a2 q2=>?_;exact k (v::vs) H2 (.thr T::rs) s2 ⟨.inr (.inr (.inr ⟨T,rfl,SeenV.stp s2 h2⟩)),a2⟩ q2
def calG(n:Nat)(f:List DV->2.7->Prop)(g:DGA):DE:=λρ Q=>g ρ λrs=>rs.length=n/\f rs Q
theorem zx4{n:Nat}(hφ:φ O)(h:AG K O t g):ED K O (zda (spG K φ n f) [] E t) (calG n f g):=λσ H ρ Q Qd S q k=>by
 refine h σ H ρ _ _ S q λvs H1 rs s1 is zz=>?_;obtain⟨hn,q1⟩:=zz;rw[QR];exact⟨O,rs,Qd,S.ok,hφ,s1.p S.p,hn,is,q1,λr qr v H' s2 o2=>k v H' r 6.0 (o2.ahead S.ok S.p s1) qr⟩
theorem zi1{rs:List DV}(ok:O.Ok)(p:O.P H)(h:Args K O H vs rs):Rep K O H (λ_ _=>False) H (L2.start N vs) (zb4 N rs):=by
 have hl:=h.length;refine⟨ok,p,p,.refl _ _,λ_ _ _ z=>z.elim,λ_ _ z=>z.elim,λi r e=>?_,?_⟩
 .unfold zb4 at e
  by_cases hi:i<rs.length
  .rw[QA 5.2,Qh] at e
   cases q:rs[i]? with
   | none=>rw[q] at e;cases e
   | some r'=>
     rw[q] at e;have e':r'=r:=Za (Za e);subst e';obtain⟨v,hv,hh⟩:=h.get q;refine⟨v,?_,?_⟩
     .unfold L2.start;rw[QA (by rw[Qc,hl];exact hi),Qh,hv];rfl
     .rcases hh with ⟨d,rfl,hd⟩|⟨f,ds,rfl,a,xs,e1,nm,q1,z⟩|⟨rfl,hd⟩|⟨T,rfl,W,hw,z⟩
      .exact hd.weak λa u=>⟨u,λj z=>z⟩
      .exact⟨a,xs,e1,⟨nm,λ_ z=>z⟩,q1,z.weak λa u=>⟨u,λj z=>z⟩⟩
      .exact hd
      .exact⟨W,λb w=>⟨⟨(hw b w).1,λ_ z=>z⟩,(hw b w).2⟩,T.to (λb u f q=>⟨⟨f,λ_ z=>z⟩,q⟩) (λb u w q=>⟨w,q⟩) (TupStay.refl _) z⟩
  .rw[QF 5.2,ZA] at e
   split at e <;> cases e
 .unfold zb4 L2.start;rw[Qj,Qj,Qc,Qc,Zh,Zh,hl]
theorem yau{rs:List DV}(h:SD K O t g)(ok:O.Ok)(p:O.P H)(ia:Args K O H vs rs)
 (hg:g { nx:=λ_=>Qr (.o .none),rt:=Qr } (zb4 N rs)) (hQ:∀r,Qr r->∀v H',Stp O H H'->Out K O H H' v r->Q v H'):t { nx:=λ_ H'=>Q .non H',rt:=Q } (L2.start N vs) H :=
 h H _ _ H _ _ _ (zi1 ok p ia) hg ⟨λA' σ' H' ρ' r' _ q=>hQ _ q .non H' r'.st Is.none,λA' σ' H' ρ' r' _ q=>q.elim,λA' σ' H' ρ' r' _ q=>q.elim,λH' v r s o q=>hQ r q v H' s o⟩
end
def AG3{ι κ:Type}(K:Qa)(X:ι->Cx)(O:κ->Ob)(es:List Expr)(f:DGA):Prop:=∃t,(∀i,PA (X i) es t)/\∀j,AG K (O j) t f
section
variable {ι κ:Type}{P:GK}{w:GM}{K:Qa}{mg:0.4}{base:Heap}{k:Nat}{X:ι->Cx}{O:κ->Ob}{a:Expr}{es:List Expr}{fa:DE}{ga:DGA}{pos p:Pos}
theorem zmw:AG3 K X O [] z0w:=⟨tNil,λi=>zbk,λj=>z7s⟩
theorem g_im(ha:2.2)(hs:AG3 K X O es ga)(he:6.5:=by intro i;rfl):AG3 K X O (a::es) (gImA fa ga):=let ⟨_,p1,d1⟩:=ha;let ⟨_,p2,d2⟩:=hs;⟨_,λi=>zao (p1 i) (p2 i) (he i),λj=>yar (d1 j) (d2 j)⟩
theorem z0a(n:Nat)(hs:AG3 K X O es ga)(hN:1.8:=by intro i;rfl)(hv:2.6:=by intro i;first|exact Or.inl rfl|exact Or.inr 4.5|exact Or.inr 4.4)(hd:1.1:=by decide)(hcd:2.0:=by decide)
 (he:∀i,GN (.Name x px::es) (X i).env=(false,eval 1.9 (X i).env)::GN es (X i).env:=by intro i;rfl):AG3 K X O (.Name x px::es) (zz8 n ga):=let ⟨_,p2,d2⟩:=hs;⟨_,λi=>zao (zag (hN i) (hv i) hd hcd) (p2 i) (he i),λj=>z7z (d2 j)⟩
theorem z9x(n:Nat)(hs:AG3 K X O es ga)(hN:1.8:=by intro i;rfl)(hv:2.6:=by intro i;first|exact Or.inl rfl|exact Or.inr 4.5|exact Or.inr 4.4)(hd:1.1:=by decide)(hcd:2.0:=by decide)
 (he:∀i,GN (.Name x px::es) (X i).env=(false,eval 1.9 (X i).env)::GN es (X i).env:=by intro i;rfl):AG3 K X O (.Name x px::es) (zz1 n ga):=let ⟨_,p2,d2⟩:=hs;⟨_,λi=>zao (zag (hN i) (hv i) hd hcd) (p2 i) (he i),λj=>z6r (d2 j)⟩
theorem zp4{k' n:Nat}(C:0.6)(D:Def3 P w K mg base k' x ps (spG K φ n F))(hφ:∀j,φ (O j))(ha:AG3 K X O (a::es) ga)(hk:k'<=k:=by decide)(hg:∀i,Gl (X i) x:=by intro i;rfl)
 (hdb:1.1:=by decide) (he:6.5:=by intro i;rfl) (hpl:∀i,(TM pos (GN es (X i).env)).any (·.1)=false:=by intro i;rfl):E3 K X O (.Call (.Name x p) (a::es) [] pos) (calG n F ga):=by
 obtain⟨f,fd,G,m,kp,bn⟩:=D.ex;obtain⟨t,q,d⟩:=ha;refine⟨zda (spG K φ n F) [] E0 t,λi=>?_,λj=>zx4 (hφ j) (d j)⟩;have G':FnOk (X i).prog (X i).w (X i).K (X i).mg (X i).base CX0 k f fd ps (spG K φ n F):=by rw[C.hP,C.hw,C.hK,C.hmg,C.hb];exact G.mono hk
 exact zfg G' (C.room i) (hg i) (by rw[C.hmg];exact m) (by rw[C.hK];exact kp) (by rw[C.hK];exact bn) .nil zit (q i) hdb (he i) (hpl i)
end
section
variable {P:GK}{w:GM}{K:Qa}{mg:0.4}{base:Heap}{k n:Nat}{x:Str}{st:Stmt}{N ps:2.4}{φ:Ob->Prop}{F:List DV->2.7->Prop}
theorem mk_G(T:Top3 K mg x st)(S:FnScope N ps 6.3)(hb:∀(kV doc pm:GH) (an:Option Addr) (cdv ct:GH) (us:2.8),us.length=ps.length->TV (ZS x x (zb0 st) (za2 st) 6.3 .none kV doc pm an cdv ct) ⟨us,[]⟩=pure (ps.zip us))(hn:ps.length=n)
 (body:∀(f:Addr) (cdv:GH) (A:GQ) (outer:List Env) (s:GJ) (H:Hp) (E:XK) (O:Ob),φ O->Ctx3 P w K mg base k (zcb P w K mg base N x 6.3 f cdv A outer s H E) ->
  ∃g,Ss3 K (zcb P w K mg base N x 6.3 f cdv A outer s H E) (λ_:Unit=>O) (za2 st) g/\∀rs Qr,rs.length=n->F rs Qr->g { nx:=λ_=>Qr (.o .none),rt:=Qr } (zb4 N rs)):Def3 P w K mg base (k+1) x ps (spG K φ n F):=by
 obtain⟨f,fd,Fu,m⟩:=T.ex;refine⟨f,fd,Fu.ok S (z2x hn) (λcdv A outer s H vs Q E hr h=>?_),m,Fu.kp,Fu.binds hb⟩;obtain⟨O,rs,Qr,ok,hφ,p,hl,is,q,kk⟩:=h;obtain⟨g,⟨t,h1,h2⟩,h3⟩:=body f cdv A outer s H E O hφ (zed hr);exact⟨t,h1 (),yau (h2 ()) ok p is (h3 rs Qr hl q) kk⟩
end
section
variable {K:Qa}{O:Ob}{H₀ H H':Hp}{A:Nat->Addr->Prop}{σ:St}{ρ:DSt}
theorem Rep.setT{i:Nat}{W:3.4}(r:5.3)(s:Stp O H H1)(stay1:∀b u,H1 b=some u->¬A i b->H' b=some u)(hW:∀b,W b->(A i b\/H b=ZO)/\∃o,H' b=some o/\OwnO o)
 (hR:T.R K (unO O (reg A i W)) W H' v):Rep K O H₀ (reg A i W) H' (σ.set i (some v)) (ρ.set i (some (.thg T))) :=
 r.setX s stay1 hW (T.to (λb u f q=>⟨f,q⟩) (λb u w q=>⟨.inr ⟨rfl,w⟩,q⟩) (TupStay.refl _) hR)
theorem Frm.setT{i:Nat}{W:3.4}(s:Stp O H H1)(stay:∀b u,H1 b=some u->¬A i b->H' b=some u)(hW:∀b,W b->(A i b\/H b=ZO)):Frm O A H (reg A i W) H':=λb o e u=>⟨stay b o (s.s b o e u.1) (u.2 i),u.1,λj z=>by
 rcases z with z|z
 .exact u.2 j z.2
 .rcases hW b z.2 with y|y
  .exact u.2 i y
  .rw[e] at y;cases y⟩
end
mutual
inductive Ow(K:Qa)(H:Hp):V->GG->List Addr->Prop
 | leaf {v d}:flat d=true->Is K (λ_=>False) H v d->Ow K H v d []
 | list {a xs ds as}:H a=some 4.1->OwAll K H xs ds as->Ow K H 3.1 (.list ds) (a::as)
 | tuple {a xs ds as}:H a=some (.tup xs)->OwAll K H xs ds as->Ow K H 3.1 (.tuple ds) as
inductive OwAll(K:Qa)(H:Hp):List V->List GG->List Addr->Prop
 | nil:OwAll K H [] [] []
 | cons {v vs d ds as bs}:Ow K H v d as->OwAll K H vs ds bs->OwAll K H (v::vs) (d::ds) (as++bs)
end
def kD:Key->GG
 | .inl i=>.int i
 | .inr x=>.str x
theorem zid{β:Type}{l:List β}{i:Nat}{x:β}(h:l[i]? = some x):l.set i x=l:=by
 obtain⟨z,rfl⟩:=Qn.mp h;exact List.set_getElem_self z
section
variable {K:Qa}{O:Ob}
theorem yaa{k:Key}(h:Is K F H v (kD k)):v=kV k:=by
 cases k <;> (cases h;rfl)
end
theorem putK_new{k:Key}(h:valV ws k=none):putK ws k v=ws ++ [(k,v)]:=by
 unfold putK;rw[NJ];intro z;rw[zc7,h] at z;cases z
theorem ownK: OwnO (.dK ws):=⟨λ_=>⟨λz=>(nomatch z),λ_ z=>(nomatch z)⟩,λ_ z=>(nomatch z)⟩
end L3
namespace L3
open PySem PySem.Spec
open PyProof.Rows hiding St
open L2
open PySem.W (CodeHd tabObj fnMade fnX)
def LkF(f:Addr)(h:Heap):Prop:=∀M:Model,∃k,(k=Keeper.frame\/k=Keeper.machine\/k=Keeper.boundFrame)/\PySem.W.Looks M h (keeperOf (.ref f)) k
def Kn(H:Hp)(G:List (Addr×Obj×Addr)):Prop:=∀p∈G,H p.1=some (.frz p.2.1 (.own p.2.2))
structure Calls(P:GK)(w:GM)(K:Qa)(mg:0.4)(base:Heap)(k:Nat)(f:Addr)(G:List (Addr×Obj×Addr))(ws:3.3)(n:Nat)(sp:Sp):Prop where
 at_:∀(A:GQ) (outer:List Env) (s:GJ) (H:Hp),Env0 P w K mg base A outer s H->Kn H G->LkF f s.heap
 run:∀(A:GQ) (outer:List Env) (s:GJ) (H:Hp) (us:2.8) (vs:3.3) (Q:VK),Room k A->Env0 P w K mg base A outer s H->Kn H G->Vals vs us->vs.length=n->sp (vs++ws) H Q E0->Mo 1.5 A (.call (.ref f) ⟨us,[]⟩) (CR CX0 outer P w H s Q E0) s
def zf4(P:GK)(w:GM)(mg:0.4)(base:Heap)(k n:Nat)(sp:Qa->Sp)(fs:2.3):Thg :=
 ⟨λK F _ H v=>∃(f:Addr) (G:List (Addr×Obj×Addr)) (ws:3.3),v = .ref f/\Kn H G/\(∀p∈G,F p.1)/\IsAll K F H ws fs/\Calls P w K mg base k f G ws n (sp K),
  λhF _ ts ⟨f,G,ws,e,g,gF,i,c⟩=>⟨f,G,ws,e,λp hp=>(hF p.1 _ (gF p hp) (g p hp)).2,λp hp=>(hF p.1 _ (gF p hp) (g p hp)).1,i.to (λa xs f q=>hF a _ f q) (λa xs q=>SqT.stay (h:=q) ts),c⟩⟩
section
variable {X:Cx}{e:Expr}{es:List Expr}{t:TA}{pos p:Pos}{k i:Nat}{x:Str}
def zi9(P:GK)(w:GM)(K:Qa)(mg:0.4)(base:Heap)(k i:Nat)(t:TA):TE:=λσ H Q=>∃(f:Addr) (G:List (Addr×Obj×Addr)) (ws:3.3) (n:Nat) (sp:Sp),σ[i]? = some (some (.ref f))/\Kn H G/\Calls P w K mg base k f G ws n sp/\t σ H λvs H1=>Kn H1 G/\vs.length=n/\sp (vs++ws) H1 Q E0
theorem zo6(hr:Room k X.A)(hN:X.N[i]? = some x)(hv:Vis X.env.scope x)(ha:PA X (e::es) t)(hd:1.1:=by decide)(hcd:2.0:=by decide)(he:GN (e::es) X.env=(false,eval e X.env)::GN es X.env:=by rfl)(hpl:(TM pos (GN es X.env)).any (·.1)=false:=by rfl):
 PE X (.Call (.Name x p) (e::es) [] pos) (zi9 X.prog X.w X.K X.mg X.base k i t):=by
 intro pins s σ H Q I h;obtain⟨f,G,ws,n,sp,hs,g,c,h⟩:=h;refine GU (thn (zag (pos:=p) hN hv hd hcd pins s σ H (λv H'=>v = .ref f/\H'=H) I ⟨_,hs,rfl,rfl⟩) λu s1 zz=>?_);obtain⟨v,H1,I1,r1,ev,eH⟩:=zz;subst ev eH;obtain rfl:u=QQ f:=r1;have hA:=ha pos pins s1 σ H1 _ I1 h;rw[he] at hA ⊢;refine PySem.W.callWith_of (P:=LkF f) (by show((false || (TM pos (GN es X.env)).any (·.1)) || false)=false;rw[hpl];rfl) (λh l=>l _) (Ue ?_);refine thn hA λus s2 ⟨vs,H2,I2,r,g2,hn,q⟩=>⟨c.at_ X.A X.stack s2 H2 I2.env0 g2,?_⟩;refine MR (TJ (c.run X.A X.stack s2 H2 us vs Q hr I2.env0 g2 r hn q) λr s' hq=>?_)
 cases r with
 | error e=>exact hq.elim
 | ok fl=>
   cases fl with
   | ret u=>exact I2.after hq
   | next=>exact ZL hq
   | brk=>exact ZL hq
   | cont=>exact ZL hq
end
section
variable {ι κ:Type}{P:GK}{w:GM}{K:Qa}{mg:0.4}{base:Heap}{k:Nat}{X:ι->Cx}{O:κ->Ob}{a:Expr}{es:List Expr}{gg:DGA}{pos p:Pos}
def calF(P:GK)(w:GM)(mg:0.4)(base:Heap)(k:Nat)(φ:Ob->Prop)(i:Nat)(gg:DGA):DE:=λρ Q=>∃(n m:Nat) (F:List DV->2.7->Prop) (fs:2.3),ρ[i]? = some (some (.thr (zf4 P w mg base k n (λK=>spG K φ m F) fs)))/\gg ρ λrs=>rs.length=n/\n+fs.length=m/\F (rs++fs.map .im) Q
theorem zo5{K:Qa}{O:Ob}{H:Hp}:∀{ws:3.3} {ds:2.3},IsAll K 3.7 H ws ds->Args K O H ws (ds.map .im)
 | _,_,.nil=>trivial
 | _,_,.cons h t=>⟨.inl ⟨_,rfl,h⟩,zo5 t⟩
theorem zir{K:Qa}{O:Ob}{H:Hp}:∀{vs:3.3} {rs:List DV} {ws:3.3} {ds:2.3},Args K O H vs rs->IsAll K 3.7 H ws ds->Args K O H (vs++ws) (rs++ds.map .im)
 | [],[],ws,ds,_,i=>by
   rw[Vl,Vl];exact zo5 i
 | [],_::_,_,_,h,_=>h.elim
 | _::_,[],_,_,h,_=>h.elim
 | v::vs,r::rs,ws,ds,h,i=>⟨h.1,zir h.2 i⟩
theorem z2o(i:Nat){k':Nat}(C:0.6)(hφ:∀j,φ (O j))(ha:AG3 K X O (a::es) gg)(hk:k'<=k:=by decide)
 (hN:∀j,(X j).N[i]? = some y:=by intro i;rfl) (hv:∀j,Vis (X j).env.scope y:=by intro i;first|exact Or.inl rfl|exact Or.inr 4.5|exact Or.inr 4.4) (hd:(y == ("__debug__" : Str))=false:=by decide) (hcd:(y == ("__classdict__" : Str))=false:=by decide)
 (he:6.5:=by intro i;rfl) (hpl:∀i,(TM pos (GN es (X i).env)).any (·.1)=false:=by intro i;rfl):E3 K X O (.Call (.Name y p) (a::es) [] pos) (calF P w mg base k' φ i gg):=by
 obtain⟨t,q,d⟩:=ha;refine⟨zi9 P w K mg base k' i t,λj=>?_,λj σ H ρ Q Qd S hf kk=>?_⟩
 .have:=zo6 (X:=X j) (pos:=pos) (p:=p) ((C.room j).mono hk) (hN j) (hv j) (q j) hd hcd (he j) (hpl j);rw[C.hP,C.hw,C.hK,C.hmg,C.hb] at this;exact this
 .obtain⟨n,m,F,fs,e,hf⟩:=hf;obtain⟨v,hv,W,hw,f,G,ws,rfl,g,gF,iw,c⟩:=S.at_ i _ e;refine⟨f,G,ws,n,_,hv,g,c,d j σ H ρ _ _ S hf λvs H1 rs s1 is ⟨hn,hm,q1⟩=>⟨λp hp=>s1.s _ _ (g p hp) (gF p hp),by rw[is.length];exact hn,?_⟩⟩;refine⟨O j,rs++fs.map .im,Qd,S.ok,hφ j,s1.p S.p,by rw[Qj,Qc,hn];exact hm,zir is (iw.stp s1 4.7 λ_ f=>f),q1,λr qr v H' s2 o2=>kk v H' r 6.0 (o2.ahead S.ok S.p s1) qr⟩
end
end L3
namespace L6
open PySem PyProof.Rows
def zfa:Bool->Tj->Array Tj->Nat->Nat->Nat->StateT Te Sem (Option Nat):=sortPriv% PySem.Builtin.gallop
section
variable {prog:GK}{w:GM}{A:GQ}{E:1.0}{s:GJ}{α:Type}{blt:2.1}{k:5.7}{a₀:Array Tj}{kd:Tt}{st:Te}
theorem lt_x{i j:Nat}(hC:4.6)(ki:kindOf st=kd)(gi:a₀[i]? = some x)(gj:a₀[j]? = some y)(h:Q (some (blt (k i) (k j))) st):wpS 1.3 A E s (lt' x y) Q st:=by
 rw[lt'_eq];refine GL (Mf ?_);rw[ki];refine GL (M2 (Mq (hC i j x.1 x.2 y.1 y.2 _ _ gi gj 3.2)));exact GO h
theorem za0{i:Nat}(e:arr[i]? = some x)(h:Q x st):wpS 1.3 A E s (elem' arr i) Q st:=by
 rw[elem'_eq,e];exact GO h
def Pg(blt:2.1)(k:5.7)(left:Bool)(L:Nat->Nat)(jk i:Nat):Bool:=if left then blt (k (L i)) (k jk) else !blt (k jk) (k (L i))
theorem ziz{left:Bool}{base n hint jk:Nat}(hC:4.6)(ki:kindOf st=kd)(gk:a₀[jk]? = some key)(ga:∀i,i<n->∃x,arr[base+i]? = some x/\a₀[L i]? = some x)(mono:∀i j,i<j->j<n->Pg blt k left L jk j=true->Pg blt k left L jk i=true)(hh:hint<n)
 (h:∀p,p<=n->(∀i,i<p->Pg blt k left L jk i=true)->(∀i,p<=i->i<n->Pg blt k left L jk i=false)->Q (some p) st):wpS 1.3 A E s (zfa left key arr base n hint) Q st:=by
 have bey:∀(i:Nat) {R:Option Bool->Te->Prop},i<n->R (some (Pg blt k left L jk i)) st->wpS 1.3 A E s (elem' arr (base+i) >>= λx=>if left=true then lt' x key else(do let r <- lt' key x;return r.map (!·))) R st:=λi R hi hr=>by
  obtain⟨x,e1,e2⟩:=ga i hi;refine GL (za0 e1 ?_);unfold Pg at hr
  cases left with
  | true=>rw[NI rfl] at hr ⊢;exact lt_x hC ki e2 gk hr
  | false=>rw[NJ Qx] at hr ⊢;exact GL (lt_x hC ki gk e2 (GO hr))
 refine GL (bey hint hh ?_);dsimp only
 cases h0:Pg blt k left L jk hint with
 | true=>
   rw[NI rfl]
   refine GL (To (GT (I:=λx c st2=>st=st2/\∃l o,c=(none,l,o)/\x<=o/\l<o/\(l=0\/hint+l<n)/\(∀i,i<=hint+l->i<n->Pg blt k left L jk i=true))
    (Q:=λc st2=>st=st2/\∃l o,c=(none,l,o)/\l<o/\(l=0\/hint+l<n)/\(∀i,i<=hint+l->i<n->Pg blt k left L jk i=true)/\∀i,hint+o<=i->i<n->Pg blt k left L jk i=false) ?tu ?ou ?bg) ?re)
   case bg=>exact⟨rfl,0,1,rfl,by lia,by lia,.inl rfl,λi hi hn=>by
    by_cases e:i=hint
    .subst e;exact h0
    .exact mono i hint 0.0 hh h0⟩
   case ou=>
    rintro c st2 ⟨rfl,l,o,rfl,z1,z2,z3,z4⟩;exact⟨rfl,l,o,rfl,z2,z3,z4,λi h1 h2=>by lia⟩
   case re=>
    rintro c st2 ⟨rfl,l,o,rfl,z2,z3,z4,z5⟩;dsimp only;have b1:hint+l+1<=hint+min o (n-hint):=by lia
    have b2:hint+min o (n-hint)<=n:=by lia
    have b3:∀i,i<hint+l+1->Pg blt k left L jk i=true:=λi hi=>z4 i 0.0 0.0;have b4:∀i,hint+min o (n-hint)<=i->i<n->Pg blt k left L jk i=false:=λi h1 h2=>z5 i 0.0 h2
    refine GL (To (GT (I:=λx c st2=>st=st2/\∃l r,c=(none,l,r)/\l<=r/\r<=n/\r-l<=n-x/\(∀i,i<l->Pg blt k left L jk i=true)/\∀i,r<=i->i<n->Pg blt k left L jk i=false)
     (Q:=λc st2=>st=st2/\∃l r,c=(none,l,r)/\r<=n/\(∀i,i<r->Pg blt k left L jk i=true)/\∀i,r<=i->i<n->Pg blt k left L jk i=false) ?tu2 ?ou2 ?bg2) ?re2)
    case bg2=>exact⟨rfl,_,_,rfl,b1,b2,by lia,b3,b4⟩
    case ou2=>
     rintro c st2 ⟨rfl,l,r,rfl,z1,z2,z3,z4,z5⟩;have:l=r:=by lia
     subst this;exact⟨rfl,l,l,rfl,z2,z4,z5⟩
    case re2=>
     rintro c st2 ⟨rfl,l,r,rfl,z2,z4,z5⟩;exact GO (h r z2 z4 z5)
    case tu2=>
     rintro x c st2 _ hx ⟨rfl,l,r,rfl,z1,z2,z3,z4,z5⟩;dsimp only
     by_cases ge:l ≥ r
     .rw[NI ge];have:l=r:=by lia
      subst this;exact GO ⟨rfl,l,l,rfl,z2,z4,z5⟩
     .rw[NJ ge];refine GL (bey (l+(r-l) / 2) 0.0 ?_);dsimp only
      cases hP:Pg blt k left L jk (l+(r-l) / 2) with
      | true=>
        rw[NI rfl];refine GO ⟨rfl,l+(r-l) / 2+1,r,rfl,by lia,z2,by lia,λi hi=>?_,z5⟩
        by_cases e:i=l+(r-l) / 2
        .subst e;exact hP
        .exact mono i _ (show i<l+(r-l) / 2 by lia) 0.0 hP
      | false=>
        rw[NJ Qx];refine GO ⟨rfl,l,l+(r-l) / 2,rfl,by lia,by lia,by lia,z4,λi h1 h2=>?_⟩
        by_cases e:i=l+(r-l) / 2
        .subst e;exact hP
        .cases hq:Pg blt k left L jk i with
         | false=>rfl
         | true=>rw[mono _ i (show l+(r-l) / 2<i by lia) h2 hq] at hP;cases hP
   case tu=>
    rintro x c st2 _ hx ⟨rfl,l,o,rfl,z1,z2,z3,z4⟩;dsimp only
    by_cases ge:o ≥ n-hint
    .rw[NI ge];exact GO ⟨rfl,l,o,rfl,z2,z3,z4,λi h1 h2=>by lia⟩
    .rw[NJ ge];refine GL (bey (hint+o) 0.0 ?_);dsimp only
     cases hP:Pg blt k left L jk (hint+o) with
     | true=>
       rw[NJ 0.2];refine GO ⟨rfl,o,2 * o+1,rfl,by lia,by lia,.inr 0.0,λi h1 h2=>?_⟩
       by_cases e:i=hint+o
       .subst e;exact hP
       .exact mono i _ (show i<hint+o by lia) 0.0 hP
     | false=>
       rw[NI 0.2];refine GO ⟨rfl,l,o,rfl,z2,z3,z4,λi h1 h2=>?_⟩
       by_cases e:i=hint+o
       .subst e;exact hP
       .cases hq:Pg blt k left L jk i with
        | false=>rfl
        | true=>rw[mono _ i (show hint+o<i by lia) h2 hq] at hP;cases hP
 | false=>
   rw[NJ Qx]
   refine GL (To (GT (I:=λx c st2=>st=st2/\∃l o,c=(none,l,o)/\x<=o/\l<o/\l<=hint/\(∀i,hint-l<=i->i<n->Pg blt k left L jk i=false))
    (Q:=λc st2=>st=st2/\∃l o,c=(none,l,o)/\l<o/\l<=hint/\(∀i,hint-l<=i->i<n->Pg blt k left L jk i=false)/\∀i,o<=hint->i<=hint-o->Pg blt k left L jk i=true) ?tu ?ou ?bg) ?re)
   case bg=>exact⟨rfl,0,1,rfl,by lia,by lia,by lia,λi hi hn=>by
    by_cases e:i=hint
    .subst e;exact h0
    .cases hq:Pg blt k left L jk i with
     | false=>rfl
     | true=>rw[mono hint i 0.0 hn hq] at h0;cases h0⟩
   case ou=>
    rintro c st2 ⟨rfl,l,o,rfl,z1,z2,z3,z4⟩;exact⟨rfl,l,o,rfl,z2,z3,z4,λi h1 h2=>by lia⟩
   case re=>
    rintro c st2 ⟨rfl,l,o,rfl,z2,z3,z4,z5⟩;dsimp only;have b1:hint+1-min o (hint+1)<=hint-l:=by lia
    have b2:hint-l<=n:=by lia
    have b3:∀i,i<hint+1-min o (hint+1)->Pg blt k left L jk i=true:=λi hi=>z5 i 0.0 0.0;have b4:∀i,hint-l<=i->i<n->Pg blt k left L jk i=false:=z4
    refine GL (To (GT (I:=λx c st2=>st=st2/\∃l r,c=(none,l,r)/\l<=r/\r<=n/\r-l<=n-x/\(∀i,i<l->Pg blt k left L jk i=true)/\∀i,r<=i->i<n->Pg blt k left L jk i=false)
     (Q:=λc st2=>st=st2/\∃l r,c=(none,l,r)/\r<=n/\(∀i,i<r->Pg blt k left L jk i=true)/\∀i,r<=i->i<n->Pg blt k left L jk i=false) ?tu2 ?ou2 ?bg2) ?re2)
    case bg2=>exact⟨rfl,_,_,rfl,b1,b2,by lia,b3,b4⟩
    case ou2=>
     rintro c st2 ⟨rfl,l,r,rfl,z1,z2,z3,z4,z5⟩;have:l=r:=by lia
     subst this;exact⟨rfl,l,l,rfl,z2,z4,z5⟩
    case re2=>
     rintro c st2 ⟨rfl,l,r,rfl,z2,z4,z5⟩;exact GO (h r z2 z4 z5)
    case tu2=>
     rintro x c st2 _ hx ⟨rfl,l,r,rfl,z1,z2,z3,z4,z5⟩;dsimp only
     by_cases ge:l ≥ r
     .rw[NI ge];have:l=r:=by lia
      subst this;exact GO ⟨rfl,l,l,rfl,z2,z4,z5⟩
     .rw[NJ ge];refine GL (bey (l+(r-l) / 2) 0.0 ?_);dsimp only
      cases hP:Pg blt k left L jk (l+(r-l) / 2) with
      | true=>
        rw[NI rfl];refine GO ⟨rfl,l+(r-l) / 2+1,r,rfl,by lia,z2,by lia,λi hi=>?_,z5⟩
        by_cases e:i=l+(r-l) / 2
        .subst e;exact hP
        .exact mono i _ (show i<l+(r-l) / 2 by lia) 0.0 hP
      | false=>
        rw[NJ Qx];refine GO ⟨rfl,l,l+(r-l) / 2,rfl,by lia,by lia,by lia,z4,λi h1 h2=>?_⟩
        by_cases e:i=l+(r-l) / 2
        .subst e;exact hP
        .cases hq:Pg blt k left L jk i with
         | false=>rfl
         | true=>rw[mono _ i (show l+(r-l) / 2<i by lia) h2 hq] at hP;cases hP
   case tu=>
    rintro x c st2 _ hx ⟨rfl,l,o,rfl,z1,z2,z3,z4⟩;dsimp only
    by_cases ge:o ≥ hint+1
    .rw[NI ge];exact GO ⟨rfl,l,o,rfl,z2,z3,z4,λi h1 h2=>by lia⟩
    .rw[NJ ge];refine GL (bey (hint-o) 0.0 ?_);dsimp only
     cases hP:Pg blt k left L jk (hint-o) with
     | true=>
       rw[NI rfl];refine GO ⟨rfl,l,o,rfl,z2,z3,z4,λi h1 h2=>?_⟩
       by_cases e:i=hint-o
       .subst e;exact hP
       .exact mono i _ (show i<hint-o by lia) 0.0 hP
     | false=>
       rw[NJ Qx];refine GO ⟨rfl,o,2 * o+1,rfl,by lia,by lia,by lia,λi h1 h2=>?_⟩
       by_cases e:i=hint-o
       .subst e;exact hP
       .cases hq:Pg blt k left L jk i with
        | false=>rfl
        | true=>rw[mono _ i (show hint-o<i by lia) h2 hq] at hP;cases hP
end
section
variable {α:Type}{blt:2.1}{k:5.7}
def mg(blt:2.1)(k:5.7):List Nat->List Nat->List Nat
 | [],bs=>bs
 | as,[]=>as
 | a::as,b::bs=>if blt (k b) (k a)=true then b::mg blt k (a::as) bs else a::mg blt k as (b::bs)
termination_by as bs=>as.length+bs.length
theorem zbl(bs:0.7):mg blt k [] bs=bs:=by rw[mg]
theorem zbj(as:0.7):mg blt k as []=as:=by cases as <;> rw[mg];simp
theorem mg_b{a b:Nat}{as bs:0.7}(h:blt (k b) (k a)=true):mg blt k (a::as) (b::bs)=b::mg blt k (a::as) bs:=by rw[mg,NI h]
theorem mg_a{a b:Nat}{as bs:0.7}(h:blt (k b) (k a)=false):mg blt k (a::as) (b::bs)=a::mg blt k as (b::bs):=by rw[mg,NJ (by rw[h];exact Qx)]
theorem zmz{b:Nat}{bs:0.7}:∀{xs as:0.7},(∀x∈xs,blt (k b) (k x)=false)->mg blt k (xs++as) (b::bs)=xs++mg blt k as (b::bs)
 | [],as,h=>rfl
 | x::xs,as,h=>by rw[Z6,mg_a (h x 0.1),zmz λy hy=>h y (by simp[hy])];rfl
theorem zmy{a:Nat}{as:0.7}:∀{ys bs:0.7},(∀y∈ys,blt (k y) (k a)=true)->mg blt k (a::as) (ys++bs)=ys++mg blt k (a::as) bs
 | [],bs,h=>rfl
 | y::ys,bs,h=>by rw[Z6,mg_b (h y 0.1),zmy λz hz=>h z (by simp[hz])];rfl
theorem z6p{a:Nat}(h:∀y∈ys,blt (k y) (k a)=true):mg blt k [a] ys=ys ++ [a]:=by
 have:=zmy (as:=[]) (bs:=[]) h;rw[QR,zbj] at this;exact this
theorem yao: ∀(n:Nat) (xs ys:0.7),xs.length+ys.length=n->(∀w∈ws,∀y∈ys,blt (k y) (k w)=true)->mg blt k (xs++ws) ys=mg blt k xs ys++ws:=by
 intro n
 induction n with
 | zero=>
   intro xs ys hn h;have:xs = []:=Zn 0.0;have:ys = []:=Zn 0.0;subst xs;subst ys;rw[zbj,zbj]
 | succ n ih=>
   intro xs ys hn h
   cases ys with
   | nil=>rw[zbj,zbj]
   | cons y ys=>
     cases xs with
     | nil=>
       rw[zbl,Vl]
       cases ws with
       | nil=>rw[zbl,QR]
       | cons w ws=>
         have:=zmy (blt:=blt) (k:=k) (as:=ws) (bs:=[]) (h w 0.1);rw[QR,zbj] at this;exact this
     | cons x xs=>
       simp only[Ql] at hn;rw[Z6]
       cases e:blt (k y) (k x) with
       | true=>
         rw[mg_b e,mg_b e,Z6,<- Z6,ih (x::xs) ys (by simp only[Ql];lia) λw hw z hz=>h w hw z (by simp[hz])]
       | false=>rw[mg_a e,mg_a e,Z6,ih xs (y::ys) (by simp only[Ql];lia) h]
theorem zqc(h:∀w∈ws,∀y∈ys,blt (k y) (k w)=true):mg blt k (xs++ws) ys=mg blt k xs ys++ws:=yao _ xs ys rfl h
theorem z9b: ∀(n:Nat) (xs ys:0.7),xs.length+ys.length=n->(∀z∈zs,∀x∈xs,blt (k z) (k x)=false)->mg blt k xs (ys++zs)=mg blt k xs ys++zs:=by
 intro n
 induction n with
 | zero=>
   intro xs ys hn h;have:xs = []:=Zn 0.0;have:ys = []:=Zn 0.0;subst xs;subst ys;rw[zbl,zbl]
 | succ n ih=>
   intro xs ys hn h
   cases xs with
   | nil=>rw[zbl,zbl]
   | cons x xs=>
     cases ys with
     | nil=>
       rw[zbj,Vl]
       cases zs with
       | nil=>rw[zbj,QR]
       | cons z zs=>
         have:=zmz (blt:=blt) (k:=k) (bs:=zs) (as:=[]) (h z 0.1);rw[QR,zbl] at this;exact this
     | cons y ys=>
       simp only[Ql] at hn;rw[Z6]
       cases e:blt (k y) (k x) with
       | true=>rw[mg_b e,mg_b e,Z6,ih (x::xs) ys (by simp only[Ql];lia) h]
       | false=>rw[mg_a e,mg_a e,Z6,<- Z6,ih xs (y::ys) (by simp only[Ql];lia) λz hz w hw=>h z hz w (by simp[hw])]
theorem zku(h:∀z∈zs,∀x∈xs,blt (k z) (k x)=false):mg blt k xs (ys++zs)=mg blt k xs ys++zs:=z9b _ xs ys rfl h
theorem zra:∀(n:Nat) (xs ys:0.7),xs.length+ys.length=n->(mg blt k xs ys).Perm (xs++ys):=by
 intro n
 induction n with
 | zero=>
   intro xs ys hn;have:xs = []:=Zn 0.0;subst xs;rw[zbl];exact .refl _
 | succ n ih=>
   intro xs ys hn
   cases xs with
   | nil=>rw[zbl];exact .refl _
   | cons x xs=>
     cases ys with
     | nil=>rw[zbj,QR]
     | cons y ys=>
       simp only[Ql] at hn
       cases e:blt (k y) (k x) with
       | true=>
         rw[mg_b e];refine .trans (.cons y (ih (x::xs) ys (by simp only[Ql];lia))) ?_;exact(YW (a:=y) (l₁:=x::xs) (l₂:=ys)).symm
       | false=>
         rw[mg_a e,Z6];exact .cons x (ih xs (y::ys) (by simp only[Ql];lia))
theorem mg_mem{z:Nat}:z∈mg blt k xs ys↔z∈xs\/z∈ys:=by rw[(zra _ xs ys rfl).mem_iff,Qq]
theorem zvv(xs ys:0.7):(mg blt k xs ys).length=xs.length+ys.length:=by rw[(zra _ xs ys rfl).length_eq,Qj]
theorem z9f(W:WO blt):∀(n:Nat) (xs ys:0.7),xs.length+ys.length=n->xs.Pairwise (Rk blt k)->ys.Pairwise (Rk blt k)->(∀x∈xs,∀y∈ys,x<y)->(mg blt k xs ys).Pairwise (Rk blt k):=by
 intro n
 induction n with
 | zero=>
   intro xs ys hn h1 h2 h3;have:xs = []:=Zn 0.0;subst xs;rw[zbl];exact h2
 | succ n ih=>
   intro xs ys hn h1 h2 h3
   cases xs with
   | nil=>rw[zbl];exact h2
   | cons x xs=>
     cases ys with
     | nil=>rw[zbj];exact h1
     | cons y ys=>
       simp only[Ql] at hn;have p1:=Z1.mp h1;have p2:=Z1.mp h2
       cases e:blt (k y) (k x) with
       | true=>
         rw[mg_b e];refine Z1.mpr ⟨λz hz=>?_,ih (x::xs) ys (by simp only[Ql];lia) h1 p2.2 λa ha b hb=>h3 a ha b (by simp[hb])⟩;rcases mg_mem.mp hz with hz|hz
         .rcases Qz.mp hz with rfl|hz
          .exact .inl e
          .exact Rk.trans W (.inl e) (p1.1 z hz)
         .exact p2.1 z hz
       | false=>
         rw[mg_a e];have rx:Rk blt k x y:=.inr ⟨e,h3 x 0.1 y 0.1⟩;refine Z1.mpr ⟨λz hz=>?_,ih xs (y::ys) (by simp only[Ql];lia) p1.2 h2 λa ha b hb=>h3 a (by simp[ha]) b hb⟩;rcases mg_mem.mp hz with hz|hz
         .exact p1.1 z hz
         .rcases Qz.mp hz with rfl|hz
          .exact rx
          .exact Rk.trans W rx (p2.1 z hz)
theorem zvc(W:WO blt)(h1:xs.Pairwise (Rk blt k))(h2:ys.Pairwise (Rk blt k))(h3:∀x∈xs,∀y∈ys,x<y):(mg blt k xs ys).Pairwise (Rk blt k):=z9f W _ xs ys rfl h1 h2 h3
end
def at0(a₀:Array Tj)(n:Nat):Tj:=a₀.getD n (.none,.none)
theorem zka{n:Nat}(h:n<a₀.size):a₀[n]? = some (at0 a₀ n):=by
 unfold at0;rw[Q4 h];simp[YT,h]
structure Nmd(a₀:Array Tj)(arr:Array Tj)(L:0.7):Prop where
 eq:arr.toList=L.map (at0 a₀)
 lt:∀n∈L,n<a₀.size
section
variable {a₀:Array Tj}{a b out:Array Tj}{LA LB oN:0.7}
theorem Nmd.size(h:6.1):a.size=LA.length:=by rw[<- QH,h.eq,Qc]
theorem Nmd.get(h:6.1){i:Nat}(hi:i<LA.length):∃x,a[i]? = some x/\a₀[LA.getD i 0]? = some x/\x=at0 a₀ (LA.getD i 0):=by
 refine⟨at0 a₀ (LA.getD i 0),?_,zka (h.lt _ ?_),rfl⟩
 .rw[<- Q7,h.eq,Qh,Qb hi];simp[Zo,hi]
 .simp[Zo,hi]
theorem Nmd.push(h:Nmd a₀ out oN){n:Nat}(hn:n<a₀.size):Nmd a₀ (out.push (at0 a₀ n)) (oN ++ [n]) :=
 ⟨by rw[YF,h.eq,Qu];rfl,λx hx=>by rcases Qq.mp hx with z|z;(exact h.lt x z);(rw[Qm.mp z];exact hn)⟩
theorem Nmd.app(h:Nmd a₀ out oN)(h':6.1):Nmd a₀ (out++a) (oN++LA) :=
 ⟨by rw[Array.toList_append,h.eq,h'.eq,Qu],λx hx=>by rcases Qq.mp hx with z|z;(exact h.lt x z);(exact h'.lt x z)⟩
theorem Nmd.cut(h:6.1)(i j:Nat):Nmd a₀ (a.extract i j) ((LA.drop i).take (j-i)) :=
 ⟨by rw[Array.toList_extract,h.eq,List.extract_eq_drop_take',List.drop_take,<- VC,<- Va],λx hx=>h.lt x (Ym (Zv hx))⟩
theorem Nmd.rest(h:6.1)(i:Nat):Nmd a₀ (a.extract i) (LA.drop i):=by
 have:=h.cut i a.size;rw[h.size,Zu (by rw[Zr];exact Qg _),<- h.size] at this;exact this
end
section
variable {α:Type}{blt:2.1}{k:5.7}{a₀ a b out:Array Tj}{LA LB:0.7}
structure Mid(blt:2.1)(k:5.7)(a₀:Array Tj)(LA LB:0.7)(out:Array Tj)(ia ib:Nat):Prop where
 ha:ia<=LA.length
 hb:ib<=LB.length
 ex:∃oN,Nmd a₀ out oN/\oN++mg blt k (LA.drop ia) (LB.drop ib)=mg blt k LA LB
theorem zei{L:0.7}{i:Nat}(h:i<L.length):L.drop i=L.getD i 0::L.drop (i+1):=by
 rw[QX h];simp[Zo,h]
theorem Mid.pb(A:6.1)(B:Nmd a₀ b LB){ia ib:Nat}(m:Mid blt k a₀ LA LB out ia ib)(h1:ia<LA.length)(h2:ib<LB.length)(h:blt (k (LB.getD ib 0)) (k (LA.getD ia 0))=true):Mid blt k a₀ LA LB (out.push (at0 a₀ (LB.getD ib 0))) ia (ib+1):=by
 obtain⟨oN,n,e⟩:=m.ex;refine⟨m.ha,h2,oN ++ [LB.getD ib 0],n.push (B.lt _ (by simp[Zo,h2])),?_⟩;rw[<- e,zei h1,zei h2,mg_b h,QP];rfl
theorem Mid.pa(A:6.1)(B:Nmd a₀ b LB){ia ib:Nat}(m:Mid blt k a₀ LA LB out ia ib)(h1:ia<LA.length)(h2:ib<LB.length)(h:blt (k (LB.getD ib 0)) (k (LA.getD ia 0))=false):Mid blt k a₀ LA LB (out.push (at0 a₀ (LA.getD ia 0))) (ia+1) ib:=by
 obtain⟨oN,n,e⟩:=m.ex;refine⟨h1,m.hb,oN ++ [LA.getD ia 0],n.push (A.lt _ (by simp[Zo,h1])),?_⟩;rw[<- e,zei h1,zei h2,mg_a h,QP];rfl
theorem zc5{L:0.7}{i p x:Nat}(hx:x∈(L.drop i).take p):∃j,j<p/\i+j<L.length/\x=L.getD (i+j) 0:=by
 obtain⟨j,hj,e⟩:=Yt hx;rw[QL,Zr] at hj;refine⟨j,by lia,by lia,?_⟩;rw[<- e,List.getElem_take,List.getElem_drop];simp[Zo,show i+j<L.length by lia]
theorem zvx{L:0.7}{i p:Nat}(h:i+p<=L.length):L.drop i=(L.drop i).take p++L.drop (i+p):=by
 rw[<- JI,Zm]
theorem Mid.as(A:6.1){ia ib p:Nat}(m:Mid blt k a₀ LA LB out ia ib)(h1:ia+p<=LA.length)(h2:ib<LB.length)(h:∀i,i<p->blt (k (LB.getD ib 0)) (k (LA.getD (ia+i) 0))=false):Mid blt k a₀ LA LB (out++a.extract ia (ia+p)) (ia+p) ib:=by
 obtain⟨oN,n,e⟩:=m.ex;have c:=A.cut ia (ia+p);rw[show ia+p-ia=p by lia] at c;refine⟨h1,m.hb,oN++(LA.drop ia).take p,n.app c,?_⟩;rw[<- e,QP]
 congr 1
 rw[zei h2]
 conv=>rhs;rw[zvx h1]
 rw[zmz];intro x hx;obtain⟨j,hj,_,rfl⟩:=zc5 hx;exact h j hj
theorem Mid.bs(B:Nmd a₀ b LB){ia ib p:Nat}(m:Mid blt k a₀ LA LB out ia ib)(h1:ia<LA.length)(h2:ib+p<=LB.length)(h:∀i,i<p->blt (k (LB.getD (ib+i) 0)) (k (LA.getD ia 0))=true):Mid blt k a₀ LA LB (out++b.extract ib (ib+p)) ia (ib+p):=by
 obtain⟨oN,n,e⟩:=m.ex;have c:=B.cut ib (ib+p);rw[show ib+p-ib=p by lia] at c;refine⟨m.ha,h2,oN++(LB.drop ib).take p,n.app c,?_⟩;rw[<- e,QP]
 congr 1
 rw[zei h1]
 conv=>rhs;rw[zvx h2]
 rw[zmy];intro x hx;obtain⟨j,hj,_,rfl⟩:=zc5 hx;exact h j hj
def Mrg(blt:2.1)(k:5.7)(a₀:Array Tj)(LA LB:0.7)(r:Array Tj):Prop:=Nmd a₀ r (mg blt k LA LB)
theorem Mid.endB(A:6.1)(B:Nmd a₀ b LB){ia ib:Nat}(m:Mid blt k a₀ LA LB out ia ib)(h:ib=LB.length):Mrg blt k a₀ LA LB (out++a.extract ia++b.extract ib):=by
 obtain⟨oN,n,e⟩:=m.ex;subst h;have:=(n.app (A.rest ia)).app (B.rest LB.length);rw[Js,zbj] at e;rw[Js,QR,e] at this;exact this
theorem Mid.endA(A:6.1)(B:Nmd a₀ b LB){ia ib:Nat}(m:Mid blt k a₀ LA LB out ia ib)(h:ia=LA.length):Mrg blt k a₀ LA LB (out++a.extract ia++b.extract ib):=by
 obtain⟨oN,n,e⟩:=m.ex;subst h;have:=(n.app (A.rest LA.length)).app (B.rest ib);rw[Js,zbl] at e;rw[Js,QR,e] at this;exact this
theorem Mid.last(A:6.1)(B:Nmd a₀ b LB){ia ib:Nat}(m:Mid blt k a₀ LA LB out ia ib)(h:ia+1=LA.length)(hl:∀y∈LB,blt (k y) (k (LA.getD (LA.length-1) 0))=true):Mrg blt k a₀ LA LB (out++b.extract ib++a.extract ia):=by
 obtain⟨oN,n,e⟩:=m.ex;have:=(n.app (B.rest ib)).app (A.rest ia);have d:LA.drop ia = [LA.getD ia 0]:=by rw[zei 0.0,Jm 0.0]
 rw[d] at e this;rw[z6p (λy hy=>by have:=hl y (Ym hy);rwa [show LA.length-1=ia by lia] at this)] at e;rw[QP,e] at this;exact this
end
def zxj:Array Tj->Array Tj->StateT Te Sem (Array Tj):=sortPriv% PySem.Builtin.mergeLo
structure Keep(st st':Te):Prop where
 ki:kindOf st'=kindOf st
 ar:arrOf st'=arrOf st
 pe:pendingOf st'=pendingOf st
 fa:Tu st'=Tu st
theorem Keep.refl(st:Te):Keep st st:=⟨rfl,rfl,rfl,rfl⟩
theorem Keep.trans(h:Keep a b)(h':Keep b c):Keep a c:=⟨h'.ki.trans h.ki,h'.ar.trans h.ar,h'.pe.trans h.pe,h'.fa.trans h.fa⟩
section
variable {prog:GK}{w:GM}{A:GQ}{E:1.0}{s:GJ}{α:Type}{blt:2.1}{k:5.7}{a₀ a b:Array Tj}{kd:Tt}{st:Te}{LA LB:0.7}
def Srt(blt:2.1)(k:5.7)(L:0.7):Prop:=∀i j,i<j->j<L.length->blt (k (L.getD j 0)) (k (L.getD i 0))=false
theorem galA{ia jb n hint:Nat}(W:WO blt)(hC:4.6)(ki:kindOf st=kd)(NA:6.1)(sa:Srt blt k LA)(hj:a₀[jb]? = some key)(hn:ia+n<=LA.length)(hh:hint<n)
 (h:∀p,p<=n->(∀i,i<p->blt (k jb) (k (LA.getD (ia+i) 0))=false)->(∀i,p<=i->i<n->blt (k jb) (k (LA.getD (ia+i) 0))=true)->Q (some p) st):wpS 1.3 A E s (zfa false key a ia n hint) Q st:=by
 refine ziz (L:=λi=>LA.getD (ia+i) 0) (jk:=jb) hC ki hj (λi hi=>?_) (λi j hij hjn e=>?_) hh λp hp h1 h2=>h p hp (λi hi=>?_) λi hi hi2=>?_
 .obtain⟨x,e1,e2,_⟩:=NA.get (i:=ia+i) 0.0;exact⟨x,e1,e2⟩
 .have e:(!blt (k jb) (k (LA.getD (ia+j) 0)))=true:=e;show(!blt (k jb) (k (LA.getD (ia+i) 0)))=true;rw[JB] at e ⊢;exact zcu W (sa (ia+i) (ia+j) 0.0 0.0) e
 .have e:(!blt (k jb) (k (LA.getD (ia+i) 0)))=true:=h1 i hi;rwa [JB] at e
 .have e:(!blt (k jb) (k (LA.getD (ia+i) 0)))=false:=h2 i hi hi2;rwa [UA] at e
theorem galB{ib ja n hint:Nat}(W:WO blt)(hC:4.6)(ki:kindOf st=kd)(NB:Nmd a₀ b LB)(sb:Srt blt k LB)(hj:a₀[ja]? = some key)(hn:ib+n<=LB.length)(hh:hint<n)
 (h:∀p,p<=n->(∀i,i<p->blt (k (LB.getD (ib+i) 0)) (k ja)=true)->(∀i,p<=i->i<n->blt (k (LB.getD (ib+i) 0)) (k ja)=false)->Q (some p) st):wpS 1.3 A E s (zfa true key b ib n hint) Q st:=by
 refine ziz (L:=λi=>LB.getD (ib+i) 0) (jk:=ja) hC ki hj (λi hi=>?_) (λi j hij hjn e=>?_) hh λp hp h1 h2=>h p hp (λi hi=>h1 i hi) λi hi hi2=>h2 i hi hi2
 .obtain⟨x,e1,e2,_⟩:=NB.get (i:=ib+i) 0.0;exact⟨x,e1,e2⟩
 .exact zhg W (sb (ib+i) (ib+j) 0.0 0.0) e
theorem zbf{β:Type}{c:Bool}{t e:StateT Te Sem β}{Q:β->Te->Prop}(h1:c=true->wpS M A E s t Q st)(h2:c=false->wpS M A E s e Q st):wpS M A E s (if c=true then t else e) Q st:=by
 cases c with
 | true=>rw[NI rfl];exact h1 rfl
 | false=>rw[NJ Qx];exact h2 rfl
theorem zo1{β γ:Type}{m:StateT Te Sem β}{Q:β->Te->Prop}(jp:PUnit->γ->StateT Te Sem β)(J:γ->Te->Prop)(hv:∀x st',J x st'->wpS M A E s (jp ⟨⟩ x) Q st')(h:(∀x st',J x st'->wpS M A E s (jp ⟨⟩ x) Q st')->wpS M A E s m Q st):wpS M A E s m Q st:=h hv
theorem zfp{β γ δ:Type}{m:StateT Te Sem β}{Q:β->Te->Prop}(jp:PUnit->γ->δ->StateT Te Sem β)(J:γ->δ->Te->Prop)(hv:∀x y st',J x y st'->wpS M A E s (jp ⟨⟩ x y) Q st')(h:(∀x y st',J x y st'->wpS M A E s (jp ⟨⟩ x y) Q st')->wpS M A E s m Q st):wpS M A E s m Q st:=h hv
theorem yam(W:WO blt)(hC:4.6)(ki:kindOf st=kd)(NA:6.1)(NB:Nmd a₀ b LB)(sa:Srt blt k LA)(sb:Srt blt k LB)(hA:0<LA.length)(hB:0<LB.length)
 (hf:blt (k (LB.getD 0 0)) (k (LA.getD 0 0))=true) (hl:∀y∈LB,blt (k y) (k (LA.getD (LA.length-1) 0))=true) (h:∀r st',Mrg blt k a₀ LA LB r->Keep st st'->Q r st'):wpS 1.3 A E s (zxj a b) Q st:=by
 have za:=NA.size;have zb:=NB.size;refine GL (M2 (Tr 3.2))
 extract_lets -merge +onlyGivenNames total done lastOfA
 obtain⟨x0,e0,_,rfl⟩:=NB.get hB;refine GL (za0 e0 ?_)
 extract_lets -merge +onlyGivenNames out0 ia0 ib0
 have m0:Mid blt k a₀ LA LB #[at0 a₀ (LB.getD 0 0)] 0 1:=by
  have:=Mid.pb (out:=#[]) NA NB ⟨Q6 _,Q6 _,[],⟨rfl,λ_ h=>by cases h⟩,rfl⟩ hA hB hf;exact this
 by_cases c1:1=b.size
 .rw[NI (by simpa using c1)];exact GO (h _ _ (m0.endB NA NB 0.0) (.refl _))
 rw[NJ (by simpa using c1)]
 by_cases c2:0+1=a.size
 .rw[NI (by simpa using c2)];exact GO (h _ _ (m0.last NA NB 0.0 hl) (.refl _))
 rw[NJ (by simpa using c2)];refine GL (Mf ?_)
 extract_lets -merge +onlyGivenNames g0
 refine GL (To (GT
  (I:=λx c st'=>Keep st st'/\∃out ia ib g,c=(none,out,ia,ib,g)/\Mid blt k a₀ LA LB out ia ib/\ia+1<LA.length/\ib<LB.length/\x<=ia+ib)
  (Q:=λc st'=>Keep st st'/\∃r d,c=(some r,d)/\Mrg blt k a₀ LA LB r) ?turn ?out ⟨.refl _,_,_,_,_,rfl,m0,by lia,by lia,by lia⟩) ?rest)
 case rest=>
  rintro c st' ⟨kp,r,d,rfl,m⟩;exact GO (h r st' m kp)
 case out=>
  rintro c st' ⟨kp,o,i,j,g,rfl,m,h1,h2,h3⟩;exact absurd h3 0.0
 case turn=>
  rintro x c st' _ hx ⟨kp,out,ia,ib,g,rfl,m,h1,h2,h3⟩
  extract_lets -merge +onlyGivenNames s1 o1 s2 i1 s3 j1 gg1 ac1 bc1
  have ki':kindOf st'=kd:=kp.ki.trans ki
  refine GL (To (GT
   (I:=λy c st2=>st2=st'/\∃out1 ia1 ib1 ac bc,c=(none,out1,ia1,ib1,ac,bc)/\Mid blt k a₀ LA LB out1 ia1 ib1/\ia1+1<LA.length/\ib1<LB.length/\y+(ia+ib)<=ia1+ib1)
   (Q:=λc st2=>st2=st'/\((∃r d,c=(some r,d)/\Mrg blt k a₀ LA LB r)\/∃out1 ia1 ib1 ac bc,c=(none,out1,ia1,ib1,ac,bc)/\Mid blt k a₀ LA LB out1 ia1 ib1/\ia1+1<LA.length/\ib1<LB.length/\1+(ia+ib)<=ia1+ib1)) ?t1 ?o1 ⟨rfl,_,_,_,_,_,rfl,m,h1,h2,by lia⟩) ?r1)
  case o1=>
   rintro c st2 ⟨e,o,i,j,ac,bc,rfl,m,g1,g2,g3⟩;exact⟨e,.inr ⟨o,i,j,ac,bc,rfl,m,g1,g2,by lia⟩⟩
  case t1=>
   rintro y c st2 _ hy ⟨rfl,o,i,j,ac,bc,rfl,m,g1,g2,g3⟩;dsimp only;obtain⟨xb,eb,nb,rfl⟩:=NB.get g2;obtain⟨xa,ea,na,rfl⟩:=NA.get (i:=i) 0.0;refine GL (za0 eb (GL (za0 ea (GL (lt_x hC ki' nb na ?_)))));dsimp only
   cases q:blt (k (LB.getD j 0)) (k (LA.getD i 0)) with
   | true=>
     rw[NI rfl];have m2:=m.pb NA NB 0.0 g2 q;refine GL (za0 eb ?_)
     by_cases z:j+1=b.size
     .rw[NI (by simpa using z)];exact GO ⟨rfl,.inl ⟨_,_,rfl,m2.endB NA NB 0.0⟩⟩
     .rw[NJ (by simpa using z)]
      split
      .exact GO ⟨rfl,.inr ⟨_,_,_,_,_,rfl,m2,g1,by lia,by lia⟩⟩
      .exact GO ⟨rfl,_,_,_,_,_,rfl,m2,g1,by lia,by lia⟩
   | false=>
     rw[NJ Qx];have m2:=m.pa NA NB 0.0 g2 q;refine GL (za0 ea ?_)
     by_cases z:i+1+1=a.size
     .rw[NI (by simpa using z)];exact GO ⟨rfl,.inl ⟨_,_,rfl,m2.last NA NB 0.0 hl⟩⟩
     .rw[NJ (by simpa using z)]
      split
      .exact GO ⟨rfl,.inr ⟨_,_,_,_,_,rfl,m2,by lia,g2,by lia⟩⟩
      .exact GO ⟨rfl,_,_,_,_,_,rfl,m2,by lia,g2,by lia⟩
  case r1=>
   rintro c st2 ⟨rfl,⟨r,d,rfl,mm⟩|⟨o,i,j,ac,bc,rfl,m,g1,g2,g3⟩⟩
   .exact GO ⟨kp,_,_,rfl,mm⟩
   extract_lets -merge +onlyGivenNames s1 s2 o1 s3 i1 s4 j1 s5 ac1 bc1
   refine GL (M2 (Tr 3.2))
   extract_lets -merge +onlyGivenNames g0
   refine GL (To (GT
    (I:=λy c st3=>Keep st st3/\∃out1 ia1 ib1 g ac bc,c=(none,out1,ia1,ib1,g,ac,bc)/\Mid blt k a₀ LA LB out1 ia1 ib1/\ia1+1<LA.length/\ib1<LB.length/\1+(ia+ib)<=ia1+ib1)
    (Q:=λc st3=>Keep st st3/\((∃r d,c=(some r,d)/\Mrg blt k a₀ LA LB r)\/∃out1 ia1 ib1 g ac bc,c=(none,out1,ia1,ib1,g,ac,bc)/\Mid blt k a₀ LA LB out1 ia1 ib1/\ia1+1<LA.length/\ib1<LB.length/\1+(ia+ib)<=ia1+ib1)) ?t2 ?o2 ⟨kp,_,_,_,_,_,_,rfl,m,g1,g2,g3⟩) ?r2)
   case o2=>
    rintro c st3 ⟨kp3,z⟩;exact⟨kp3,.inr z⟩
   case r2=>
    rintro c st3 ⟨kp3,⟨r,d,rfl,mm⟩|⟨o,i,j,g,ac,bc,rfl,m,g1,g2,g3⟩⟩
    .exact GO ⟨kp3,_,_,rfl,mm⟩
    dsimp only;refine GL (Tw ?_);exact GO ⟨kp3.trans ⟨rfl,rfl,rfl,rfl⟩,_,_,_,_,rfl,m,g1,g2,by lia⟩
   case t2=>
    rintro y c st3 _ hy ⟨kp3,o,i,j,g,ac,bc,rfl,m,g1,g2,g3⟩
    extract_lets -merge +onlyGivenNames s1 o1 s2 i1 s3 j1 s4 gg1 s5 ac1 bc1 jb jp
    refine zo1 jp (λ_ st4=>Keep st st4) (λg' st4 kp4=>?_) λhj=>?_
    case refine_2=>clear_value jp;split <;> exact hj _ _ kp3
    unfold jp;dsimp -zeta only [s1,o1,s2,i1,s3,j1,s4,gg1,s5,ac1,bc1,jb];obtain⟨xb,eb,nb,rfl⟩:=NB.get g2;refine GL (Tw ?_);refine GL (za0 eb ?_);refine GL (galA W hC (kp4.ki.trans ki) NA sa nb (ia:=i) (n:=a.size-i) 0.0 0.0 λp hp p1 p2=>?_);dsimp -zeta only
    extract_lets -merge +onlyGivenNames ac2 jp2
    refine zfp jp2 (λout' ia' st5=>Keep st st5/\Mid blt k a₀ LA LB out' ia' j/\ia'+1<LA.length/\i<=ia'/\blt (k (LB.getD j 0)) (k (LA.getD ia' 0))=true) (λout' ia' st5 h5=>?_) λhj2=>?_
    case refine_2=>
     clear_value jp2
     by_cases pp:p > 0
     .rw[NI pp];have m1:=m.as NA (p:=p) 0.0 g2 p1;dsimp only
      by_cases z1:i+p+1=a.size
      .rw[NI (by simpa using z1)];exact GO ⟨kp4.trans ⟨rfl,rfl,rfl,rfl⟩,.inl ⟨_,_,rfl,m1.last NA NB 0.0 hl⟩⟩
      rw[NJ (by simpa using z1)]
      by_cases z2:i+p=a.size
      .rw[NI (by simpa using z2)];exact GO ⟨kp4.trans ⟨rfl,rfl,rfl,rfl⟩,.inl ⟨_,_,rfl,m1.endA NA NB 0.0⟩⟩
      rw[NJ (by simpa using z2)];exact hj2 _ _ _ ⟨kp4.trans ⟨rfl,rfl,rfl,rfl⟩,m1,by lia,YX _ _,p2 p (Qg _) 0.0⟩
     .rw[NJ pp];exact hj2 _ _ _ ⟨kp4.trans ⟨rfl,rfl,rfl,rfl⟩,m,g1,Qg _,p2 0 0.0 0.0⟩
    obtain⟨kp6,m1,h1',pr,q1⟩:=h5;have m2:=m1.pb NA NB 0.0 g2 q1;refine GL (za0 eb ?_)
    extract_lets -merge +onlyGivenNames out2
    by_cases z3:j+1=b.size
    .rw[NI (by simpa using z3)];exact GO ⟨kp6,.inl ⟨_,_,rfl,m2.endB NA NB 0.0⟩⟩
    rw[NJ (by simpa using z3)];obtain⟨xa,ea,na,rfl⟩:=NA.get (VA h1');refine GL (za0 ea ?_);refine GL (galB W hC (kp6.ki.trans ki) NB sb na (ib:=j+1) (n:=b.size-(j+1)) 0.0 0.0 λq hq r1 r2=>?_);dsimp -zeta only
    extract_lets -merge +onlyGivenNames bc2 ja jp3
    refine zfp jp3 (λout' ib' st5=>Keep st st5/\Mid blt k a₀ LA LB out' ia' ib'/\ib'<LB.length/\j+1<=ib'/\blt (k (LB.getD ib' 0)) (k (LA.getD ia' 0))=false) (λout' ib' st5 h5=>?_) λhj3=>?_
    case refine_2=>
     clear_value jp3
     by_cases qq:q > 0
     .rw[NI qq];have m3:=m2.bs NB (p:=q) (VA h1') 0.0 r1;dsimp only
      by_cases z4:j+1+q=b.size
      .rw[NI (by simpa using z4)];exact GO ⟨kp6,.inl ⟨_,_,rfl,m3.endB NA NB 0.0⟩⟩
      rw[NJ (by simpa using z4)];exact hj3 _ _ _ ⟨kp6,m3,by lia,YX _ _,r2 q (Qg _) 0.0⟩
     .rw[NJ qq];exact hj3 _ _ _ ⟨kp6,m2,by lia,Qg _,r2 0 0.0 0.0⟩
    unfold jp3;obtain⟨kp7,m3,h2',pq,q2⟩:=h5;have m4:=m3.pa NA NB (VA h1') h2' q2;refine GL (za0 ea ?_);have last:=λe=>m4.last NA NB e hl;refine zbf (λz5=>?_) λz5=>zbf (λ_=>?_) λ_=>?_
    .have z5:=beq_iff_eq.mp z5;exact GO ⟨kp7,.inl ⟨_,_,rfl,last 0.0⟩⟩
    all_goals have z5:=beq_eq_false_iff_ne.mp z5
    .exact GO ⟨kp7,.inr ⟨_,_,_,_,_,_,rfl,m4,by lia,h2',by lia⟩⟩
    .exact GO ⟨kp7,_,_,_,_,_,_,rfl,m4,by lia,h2',by lia⟩
end
def zzm:Array Tj->Array Tj->StateT Te Sem (Array Tj):=sortPriv% PySem.Builtin.mergeHi
section
variable {α:Type}{blt:2.1}{k:5.7}{a₀ a b out:Array Tj}{LA LB:0.7}
structure MidH(blt:2.1)(k:5.7)(a₀:Array Tj)(LA LB:0.7)(out:Array Tj)(na nb:Nat):Prop where
 ha:na<=LA.length
 hb:nb<=LB.length
 ex:∃oN,Nmd a₀ out oN/\mg blt k (LA.take na) (LB.take nb)++oN.reverse=mg blt k LA LB
theorem Nmd.rev(h:Nmd a₀ out oN):Nmd a₀ out.reverse oN.reverse:=⟨by rw[Array.toList_reverse,h.eq,Gf],λx hx=>h.lt x (Gg.mp hx)⟩
theorem zss{L:0.7}{i:Nat}(h:i<L.length):L.take (i+1)=L.take i ++ [L.getD i 0]:=by
 rw[G0,Qb h];simp[Zo,h]
theorem zfv{L:0.7}{p x:Nat}(hx:x∈L.take p):∃j,j<p/\j<L.length/\x=L.getD j 0:=by
 have:=zc5 (L:=L) (i:=0) (p:=p) (by simpa using hx);obtain⟨j,h1,h2,h3⟩:=this;exact⟨j,h1,by lia,by rw[h3,Yo]⟩
theorem Srt.le(W:WO blt)(h:Srt blt k L){i j:Nat}(hij:i<=j)(hj:j<L.length):blt (k (L.getD j 0)) (k (L.getD i 0))=false:=by
 rcases Jj i j with z|z
 .exact h i j z hj
 .have:i=j:=by lia
  subst this;exact W.irr _
theorem MidH.pa(A:6.1){na nb:Nat}(m:MidH blt k a₀ LA LB out (na+1) nb)(h:∀i,i<nb->blt (k (LB.getD i 0)) (k (LA.getD na 0))=true):MidH blt k a₀ LA LB (out.push (at0 a₀ (LA.getD na 0))) na nb:=by
 obtain⟨oN,n,e⟩:=m.ex;have hna:na<LA.length:=m.ha;refine⟨by lia,m.hb,oN ++ [LA.getD na 0],n.push (A.lt _ (by simp[Zo,hna])),?_⟩;rw[zss hna,zqc (λw hw y hy=>by obtain⟨j,h1,_,rfl⟩:=zfv hy;rw[Qm.mp hw];exact h j h1)] at e;rw[<- e,Yu,QP];rfl
theorem MidH.pb(B:Nmd a₀ b LB){na nb:Nat}(m:MidH blt k a₀ LA LB out na (nb+1))(h:∀i,i<na->blt (k (LB.getD nb 0)) (k (LA.getD i 0))=false):MidH blt k a₀ LA LB (out.push (at0 a₀ (LB.getD nb 0))) na nb:=by
 obtain⟨oN,n,e⟩:=m.ex;have hnb:nb<LB.length:=m.hb;refine⟨m.ha,by lia,oN ++ [LB.getD nb 0],n.push (B.lt _ (by simp[Zo,hnb])),?_⟩;rw[zss hnb,zku (λz hz x hx=>by obtain⟨j,h1,_,rfl⟩:=zfv hx;rw[Qm.mp hz];exact h j h1)] at e;rw[<- e,Yu,QP];rfl
theorem znc{L:0.7}{p n:Nat}(h:p<=n):L.take n=L.take p++(L.drop p).take (n-p):=by
 rw[<- Uv,show p+(n-p)=n by lia]
theorem MidH.as(A:6.1){na nb p:Nat}(m:MidH blt k a₀ LA LB out na nb)(hp:p<=na)(h:∀j,p<=j->j<na->∀i,i<nb->blt (k (LB.getD i 0)) (k (LA.getD j 0))=true):MidH blt k a₀ LA LB (out++(a.extract p na).reverse) p nb:=by
 obtain⟨oN,n,e⟩:=m.ex;have hh:=m.ha;refine⟨by lia,m.hb,oN++((LA.drop p).take (na-p)).reverse,n.app (A.cut p na).rev,?_⟩;rw[znc hp,zqc (λw hw y hy=>by obtain⟨i,h1,_,rfl⟩:=zfv hy;obtain⟨j,j1,_,rfl⟩:=zc5 hw;exact h (p+j) 0.0 0.0 i h1)] at e;rw[<- e,Yu,Uj,QP]
theorem MidH.bs(B:Nmd a₀ b LB){na nb p:Nat}(m:MidH blt k a₀ LA LB out na nb)(hp:p<=nb)(h:∀j,p<=j->j<nb->∀i,i<na->blt (k (LB.getD j 0)) (k (LA.getD i 0))=false):MidH blt k a₀ LA LB (out++(b.extract p nb).reverse) na p:=by
 obtain⟨oN,n,e⟩:=m.ex;have hh:=m.hb;refine⟨m.ha,by lia,oN++((LB.drop p).take (nb-p)).reverse,n.app (B.cut p nb).rev,?_⟩;rw[znc hp,zku (λz hz x hx=>by obtain⟨i,h1,_,rfl⟩:=zfv hx;obtain⟨j,j1,_,rfl⟩:=zc5 hz;exact h (p+j) 0.0 0.0 i h1)] at e;rw[<- e,Yu,Uj,QP]
theorem Nmd.upto(h:6.1)(n:Nat):Nmd a₀ (a.extract 0 n) (LA.take n):=by
 have:=h.cut 0 n;rwa [JH,VM] at this
theorem MidH.done(A:6.1)(B:Nmd a₀ b LB){na nb:Nat}(m:MidH blt k a₀ LA LB out na nb)(h:na=0\/nb=0):Mrg blt k a₀ LA LB (a.extract 0 na++b.extract 0 nb++out.reverse):=by
 obtain⟨oN,n,e⟩:=m.ex;have:=((A.upto na).app (B.upto nb)).app n.rev
 have z:LA.take na++LB.take nb++oN.reverse=mg blt k LA LB:=by
  rw[<- e];rcases h with rfl|rfl
  .rw[V3,zbl];rfl
  .rw[V3,zbj,QR]
 rw[z] at this;exact this
theorem MidH.first(A:6.1)(B:Nmd a₀ b LB){na nb:Nat}(m:MidH blt k a₀ LA LB out na nb)(h:nb=1)(hf:blt (k (LB.getD 0 0)) (k (LA.getD 0 0))=true):Mrg blt k a₀ LA LB (b.extract 0 nb++a.extract 0 na++out.reverse):=by
 obtain⟨oN,n,e⟩:=m.ex;have:=((B.upto nb).app (A.upto na)).app n.rev
 have z:LB.take nb++LA.take na++oN.reverse=mg blt k LA LB:=by
  rw[<- e];subst h;have hb:=m.hb
  have t1:LB.take 1 = [LB.getD 0 0]:=by
   have:=zss (L:=LB) (i:=0) 0.0;simpa using this
  rw[t1]
  cases LA with
  | nil=>simp[zbl]
  | cons x xs=>
    cases na with
    | zero=>simp[zbl]
    | succ na=>
      have hf:blt (k (LB.getD 0 0)) (k x)=true:=by simpa using hf
      rw[Us,mg_b hf,zbj];rfl
 rw[z] at this;exact this
end
section
variable {prog:GK}{w:GM}{A:GQ}{E:1.0}{s:GJ}{α:Type}{blt:2.1}{k:5.7}{a₀ a b:Array Tj}{kd:Tt}{st:Te}{LA LB:0.7}
theorem z9i(W:WO blt)(hC:4.6)(ki:kindOf st=kd)(NA:6.1)(NB:Nmd a₀ b LB)(sa:Srt blt k LA)(sb:Srt blt k LB)(hA:0<LA.length)(hB:0<LB.length)
 (hf:blt (k (LB.getD 0 0)) (k (LA.getD 0 0))=true) (hl:∀i,i<LB.length->blt (k (LB.getD i 0)) (k (LA.getD (LA.length-1) 0))=true) (h:∀r st',Mrg blt k a₀ LA LB r->Keep st st'->Q r st'):wpS 1.3 A E s (zzm a b) Q st:=by
 have za:=NA.size;have zb:=NB.size;refine GL (M2 (Tr 3.2))
 extract_lets -merge +onlyGivenNames total done firstOfB na0 nb0
 obtain⟨x0,e0,_,rfl⟩:=NA.get (i:=a.size-1) 0.0;refine GL (za0 e0 ?_)
 extract_lets -merge +onlyGivenNames out0
 have m0:MidH blt k a₀ LA LB #[at0 a₀ (LA.getD (a.size-1) 0)] (a.size-1) b.size:=by
  have mm:MidH blt k a₀ LA LB #[] (a.size-1+1) b.size:=⟨by lia,by lia,[],⟨rfl,λ_ h=>by cases h⟩,by rw[show a.size-1+1=LA.length by lia,zb,Z4,Z4];simp⟩;exact mm.pa NA λi hi=>by rw[za];exact hl i 0.0
 refine zbf (λz=>?_) λz=>zbf (λz'=>?_) λz'=>?_
 .exact GO (h _ _ (m0.done NA NB (.inl (beq_iff_eq.mp z))) (.refl _))
 .exact GO (h _ _ (m0.first NA NB (beq_iff_eq.mp z') hf) (.refl _))
 have z:=beq_eq_false_iff_ne.mp z;have z':=beq_eq_false_iff_ne.mp z';refine GL (Mf ?_)
 extract_lets -merge +onlyGivenNames g0
 refine GL (To (GT
  (I:=λx c st'=>Keep st st'/\∃out na nb g,c=(none,na,nb,out,g)/\MidH blt k a₀ LA LB out na nb/\1<=na/\2<=nb/\x+na+nb<=LA.length+LB.length)
  (Q:=λc st'=>Keep st st'/\∃r d,c=(some r,d)/\Mrg blt k a₀ LA LB r) ?turn ?out ⟨.refl _,_,_,_,_,rfl,m0,by lia,by lia,by lia⟩) ?rest)
 case rest=>
  rintro c st' ⟨kp,r,d,rfl,m⟩;exact GO (h r st' m kp)
 case out=>
  rintro c st' ⟨kp,o,i,j,g,rfl,m,h1,h2,h3⟩;exact absurd h3 0.0
 case turn=>
  rintro x c st' _ hx ⟨kp,out,na,nb,g,rfl,m,h1,h2,h3⟩
  extract_lets -merge +onlyGivenNames s1 na1 s2 nb1 s3 o1 gg1 ac1 bc1
  have ki':kindOf st'=kd:=kp.ki.trans ki
  refine GL (To (GT
   (I:=λy c st2=>st2=st'/\∃out1 na1 nb1 ac bc,c=(none,na1,nb1,out1,ac,bc)/\MidH blt k a₀ LA LB out1 na1 nb1/\1<=na1/\2<=nb1/\y+na1+nb1<=na+nb)
   (Q:=λc st2=>st2=st'/\((∃r d,c=(some r,d)/\Mrg blt k a₀ LA LB r)\/∃out1 na1 nb1 ac bc,c=(none,na1,nb1,out1,ac,bc)/\MidH blt k a₀ LA LB out1 na1 nb1/\1<=na1/\2<=nb1/\1+na1+nb1<=na+nb)) ?t1 ?o1 ⟨rfl,_,_,_,_,_,rfl,m,h1,h2,by lia⟩) ?r1)
  case o1=>
   rintro c st2 ⟨e,o,i,j,ac,bc,rfl,m,g1,g2,g3⟩;exact⟨e,.inr ⟨o,i,j,ac,bc,rfl,m,g1,g2,by lia⟩⟩
  case t1=>
   rintro y c st2 _ hy ⟨rfl,o,i,j,ac,bc,rfl,m,g1,g2,g3⟩;obtain⟨i,rfl⟩:∃i',i=i'+1:=⟨i-1,by lia⟩;obtain⟨j,rfl⟩:∃j',j=j'+1:=⟨j-1,by lia⟩;have ma:=m.ha;have mb:=m.hb;dsimp only;obtain⟨xb,eb,nb,rfl⟩:=NB.get (i:=j) 0.0;obtain⟨xa,ea,na,rfl⟩:=NA.get (i:=i) 0.0;refine GL (za0 eb (GL (za0 ea (GL (lt_x hC ki' nb na ?_)))));dsimp only
   cases q:blt (k (LB.getD j 0)) (k (LA.getD i 0)) with
   | true=>
     rw[NI rfl];have m2:=m.pa NA λt ht=>zhg W (sb.le W (show t<=j by lia) 0.0) q;refine GL (za0 ea ?_);refine zbf (λz=>?_) λz=>?_
     .exact GO ⟨rfl,.inl ⟨_,_,rfl,m2.done NA NB (.inl (beq_iff_eq.mp z))⟩⟩
     .have z:=beq_eq_false_iff_ne.mp z
      split
      .exact GO ⟨rfl,.inr ⟨_,_,_,_,_,rfl,m2,by lia,g2,by lia⟩⟩
      .exact GO ⟨rfl,_,_,_,_,_,rfl,m2,by lia,g2,by lia⟩
   | false=>
     rw[NJ Qx];have m2:=m.pb NB λt ht=>zcu W (sa.le W (show t<=i by lia) 0.0) q;refine GL (za0 eb ?_);refine zbf (λz=>?_) λz=>?_
     .exact GO ⟨rfl,.inl ⟨_,_,rfl,m2.first NA NB (beq_iff_eq.mp z) hf⟩⟩
     .have z:=beq_eq_false_iff_ne.mp z
      split
      .exact GO ⟨rfl,.inr ⟨_,_,_,_,_,rfl,m2,g1,by lia,by lia⟩⟩
      .exact GO ⟨rfl,_,_,_,_,_,rfl,m2,g1,by lia,by lia⟩
  case r1=>
   rintro c st2 ⟨rfl,⟨r,d,rfl,mm⟩|⟨o,i,j,ac,bc,rfl,m,g1,g2,g3⟩⟩
   .exact GO ⟨kp,_,_,rfl,mm⟩
   extract_lets -merge +onlyGivenNames s1 s2 na1 s3 nb1 s4 o1 s5 ac1 bc1
   refine GL (M2 (Tr 3.2))
   extract_lets -merge +onlyGivenNames g0
   refine GL (To (GT
    (I:=λy c st3=>Keep st st3/\∃out1 na1 nb1 g ac bc,c=(none,na1,nb1,out1,g,ac,bc)/\MidH blt k a₀ LA LB out1 na1 nb1/\1<=na1/\2<=nb1/\1+na1+nb1<=na+nb)
    (Q:=λc st3=>Keep st st3/\((∃r d,c=(some r,d)/\Mrg blt k a₀ LA LB r)\/∃out1 na1 nb1 g ac bc,c=(none,na1,nb1,out1,g,ac,bc)/\MidH blt k a₀ LA LB out1 na1 nb1/\1<=na1/\2<=nb1/\1+na1+nb1<=na+nb)) ?t2 ?o2 ⟨kp,_,_,_,_,_,_,rfl,m,g1,g2,g3⟩) ?r2)
   case o2=>
    rintro c st3 ⟨kp3,z⟩;exact⟨kp3,.inr z⟩
   case r2=>
    rintro c st3 ⟨kp3,⟨r,d,rfl,mm⟩|⟨o,i,j,g,ac,bc,rfl,m,g1,g2,g3⟩⟩
    .exact GO ⟨kp3,_,_,rfl,mm⟩
    dsimp only;refine GL (Tw ?_);exact GO ⟨kp3.trans ⟨rfl,rfl,rfl,rfl⟩,_,_,_,_,rfl,m,g1,g2,by lia⟩
   case t2=>
    rintro y c st3 _ hy ⟨kp3,o,i,j,g,ac,bc,rfl,m,g1,g2,g3⟩;obtain⟨j,rfl⟩:∃j',j=j'+1:=⟨j-1,by lia⟩;have ma:=m.ha;have mb:=m.hb
    extract_lets -merge +onlyGivenNames s1 na1 s2 nb1 s3 o1 s4 gg1 s5 ac1 bc1 jx jp
    refine zo1 jp (λ_ st4=>Keep st st4) (λg' st4 kp4=>?_) λhj=>?_
    case refine_2=>clear_value jp;split <;> exact hj _ _ kp3
    unfold jp;dsimp -zeta only [s1,na1,s2,nb1,s3,o1,s4,gg1,s5,ac1,bc1,jx];simp -zeta only [UB];obtain⟨xb,eb,nb,rfl⟩:=NB.get (i:=j) 0.0;refine GL (Tw ?_);refine GL (za0 eb ?_);refine GL (galA W hC (kp4.ki.trans ki) NA sa nb (ia:=0) (n:=i) 0.0 0.0 λp hp p1 p2=>?_);simp only[Yo] at p1 p2;dsimp -zeta only
    extract_lets -merge +onlyGivenNames k1 ac2 jp2
    refine zfp jp2 (λna' out' st5=>Keep st st5/\MidH blt k a₀ LA LB out' na' (j+1)/\1<=na'/\na'<=i/\∀t,t<na'->blt (k (LB.getD j 0)) (k (LA.getD t 0))=false) (λna' out' st5 h5=>?_) λhj2=>?_
    case refine_2=>
     clear_value jp2
     by_cases pp:i-p > 0
     .rw[NI pp];have m1:=m.as NA (p:=p) hp λt t1 t2 u hu=>zhg W (sb.le W (show u<=j by lia) 0.0) (p2 t t1 t2);refine zbf (λz=>?_) λz=>?_
      .exact GO ⟨kp4.trans ⟨rfl,rfl,rfl,rfl⟩,.inl ⟨_,_,rfl,m1.done NA NB (.inl (beq_iff_eq.mp z))⟩⟩
      have z:=beq_eq_false_iff_ne.mp z;exact hj2 _ _ _ ⟨kp4.trans ⟨rfl,rfl,rfl,rfl⟩,m1,by lia,hp,p1⟩
     .rw[NJ pp];obtain rfl:p=i:=by lia
      exact hj2 _ _ _ ⟨kp4.trans ⟨rfl,rfl,rfl,rfl⟩,m,g1,Qg _,p1⟩
    obtain⟨kp6,m1,h1',pr,q1⟩:=h5;have m2:=m1.pb NB q1;refine GL (za0 eb ?_)
    extract_lets -merge +onlyGivenNames out2
    refine zbf (λz3=>?_) λz3=>?_
    .exact GO ⟨kp6,.inl ⟨_,_,rfl,m2.first NA NB (beq_iff_eq.mp z3) hf⟩⟩
    have z3:=beq_eq_false_iff_ne.mp z3;obtain⟨p,rfl⟩:∃p',na'=p'+1:=⟨na'-1,by lia⟩;simp -zeta only [UB];obtain⟨xa,ea,na2,rfl⟩:=NA.get (i:=p) 0.0;refine GL (za0 ea ?_);refine GL (galB W hC (kp6.ki.trans ki) NB sb na2 (ib:=0) (n:=j) 0.0 0.0 λq hq r1 r2=>?_);simp only[Yo] at r1 r2;dsimp -zeta only
    extract_lets -merge +onlyGivenNames k2 bc2 jy jp3
    refine zfp jp3 (λnb' out' st5=>Keep st st5/\MidH blt k a₀ LA LB out' (p+1) nb'/\2<=nb'/\nb'<=j/\∀t,t<nb'->blt (k (LB.getD t 0)) (k (LA.getD p 0))=true) (λnb' out' st5 h5=>?_) λhj3=>?_
    case refine_2=>
     clear_value jp3
     by_cases qq:j-q > 0
     .rw[NI qq];have m3:=m2.bs NB (p:=q) hq λt t1 t2 u hu=>zcu W (sa.le W (show u<=p by lia) 0.0) (r2 t t1 t2);refine zbf (λz4=>?_) λz4=>zbf (λz5=>?_) λz5=>?_
      .exact GO ⟨kp6,.inl ⟨_,_,rfl,m3.first NA NB (beq_iff_eq.mp z4) hf⟩⟩
      .exact GO ⟨kp6,.inl ⟨_,_,rfl,m3.done NA NB (.inr (beq_iff_eq.mp z5))⟩⟩
      have z4:=beq_eq_false_iff_ne.mp z4;have z5:=beq_eq_false_iff_ne.mp z5;exact hj3 _ _ _ ⟨kp6,m3,by lia,hq,r1⟩
     .rw[NJ qq];obtain rfl:q=j:=by lia
      exact hj3 _ _ _ ⟨kp6,m2,by lia,Qg _,r1⟩
    unfold jp3;obtain⟨kp7,m3,h2',pq,q2⟩:=h5;have m4:=m3.pa NA q2;refine GL (za0 ea ?_);refine zbf (λz6=>?_) λz6=>zbf (λ_=>?_) λ_=>?_
    .exact GO ⟨kp7,.inl ⟨_,_,rfl,m4.done NA NB (.inl (beq_iff_eq.mp z6))⟩⟩
    all_goals have z6:=beq_eq_false_iff_ne.mp z6
    .exact GO ⟨kp7,.inr ⟨_,_,_,_,_,_,rfl,m4,by lia,h2',by lia⟩⟩
    .exact GO ⟨kp7,_,_,_,_,_,_,rfl,m4,by lia,h2',by lia⟩
end
section
variable {prog:GK}{w:GM}{A:GQ}{E:1.0}{s:GJ}{α:Type}{blt:2.1}{k:5.7}{a₀ a b:Array Tj}{kd:Tt}{st:Te}{LA LB N:0.7}
def SrtW(blt:2.1)(k:5.7)(N:0.7)(lo n:Nat):Prop:=∀i j,i<j->j<n->blt (k (N.getD (lo+j) 0)) (k (N.getD (lo+i) 0))=false
theorem z9z{ia jb n hint:Nat}(W:WO blt)(hC:4.6)(ki:kindOf st=kd)(NA:Nmd a₀ a N)(sa:SrtW blt k N ia n)(hj:a₀[jb]? = some key)(hn:ia+n<=N.length)(hh:hint<n)
 (h:∀p,p<=n->(∀i,i<p->blt (k jb) (k (N.getD (ia+i) 0))=false)->(∀i,p<=i->i<n->blt (k jb) (k (N.getD (ia+i) 0))=true)->Q (some p) st):wpS 1.3 A E s (zfa false key a ia n hint) Q st:=by
 refine ziz (L:=λi=>N.getD (ia+i) 0) (jk:=jb) hC ki hj (λi hi=>?_) (λi j hij hjn e=>?_) hh λp hp h1 h2=>h p hp (λi hi=>?_) λi hi hi2=>?_
 .obtain⟨x,e1,e2,_⟩:=NA.get (i:=ia+i) 0.0;exact⟨x,e1,e2⟩
 .have e:(!blt (k jb) (k (N.getD (ia+j) 0)))=true:=e;show(!blt (k jb) (k (N.getD (ia+i) 0)))=true;rw[JB] at e ⊢;exact zcu W (sa i j hij hjn) e
 .have e:(!blt (k jb) (k (N.getD (ia+i) 0)))=true:=h1 i hi;rwa [JB] at e
 .have e:(!blt (k jb) (k (N.getD (ia+i) 0)))=false:=h2 i hi hi2;rwa [UA] at e
theorem yab{ib ja n hint:Nat}(W:WO blt)(hC:4.6)(ki:kindOf st=kd)(NB:Nmd a₀ b N)(sb:SrtW blt k N ib n)(hj:a₀[ja]? = some key)(hn:ib+n<=N.length)(hh:hint<n)
 (h:∀p,p<=n->(∀i,i<p->blt (k (N.getD (ib+i) 0)) (k ja)=true)->(∀i,p<=i->i<n->blt (k (N.getD (ib+i) 0)) (k ja)=false)->Q (some p) st):wpS 1.3 A E s (zfa true key b ib n hint) Q st:=by
 refine ziz (L:=λi=>N.getD (ib+i) 0) (jk:=ja) hC ki hj (λi hi=>?_) (λi j hij hjn e=>?_) hh λp hp h1 h2=>h p hp (λi hi=>h1 i hi) λi hi hi2=>h2 i hi hi2
 .obtain⟨x,e1,e2,_⟩:=NB.get (i:=ib+i) 0.0;exact⟨x,e1,e2⟩
 .exact zhg W (sb i j hij hjn) e
theorem zb8{lo n i:Nat}(h:i<n)(hn:lo+n<=N.length):((N.drop lo).take n).getD i 0=N.getD (lo+i) 0:=by
 simp[Zo,Y4,h,Z0]
theorem zcp{lo n:Nat}(hn:lo+n<=N.length):((N.drop lo).take n).length=n:=by rw[QL,Zr];lia
theorem SrtW.seg{lo n:Nat}(h:SrtW blt k N lo n)(hn:lo+n<=N.length):Srt blt k ((N.drop lo).take n):=λi j hij hj=>by
 rw[zcp hn] at hj;rw[zb8 hj hn,zb8 0.0 hn];exact h i j hij hj
theorem SrtW.cut{lo n p m:Nat}(h:SrtW blt k N lo n)(hp:p+m<=n):SrtW blt k N (lo+p) m:=λi j hij hj=>by
 have:=h (p+i) (p+j) 0.0 0.0;rwa [show lo+(p+j)=lo+p+j by lia,show lo+(p+i)=lo+p+i by lia] at this
theorem SrtW.le(W:WO blt){lo n i j:Nat}(h:SrtW blt k N lo n)(hij:i<=j)(hj:j<n):blt (k (N.getD (lo+j) 0)) (k (N.getD (lo+i) 0))=false:=by
 rcases Jj i j with z|z
 .exact h i j z hj
 .have:i=j:=by lia
  subst this;exact W.irr _
theorem zlg{β:Type}:∀(xs:List β) (s n:Nat) (arr:Array β),s+n+xs.length<=arr.size->((xs.zipIdx n).foldl (λa (p:β×Nat)=>a.setIfInBounds (s+p.2) p.1) arr).toList=arr.toList.take (s+n)++xs++arr.toList.drop (s+n+xs.length)
 | [],s,n,arr,h=>by simp
 | x::xs,s,n,arr,h=>by
   rw[List.zipIdx_cons,J9];have hl:arr.toList.length=arr.size:=QH;rw[Ql] at h;rw[zlg xs s (n+1) _ (by rw[Array.size_setIfInBounds];lia),V4];dsimp only
   have h1:(arr.toList.set (s+n) x).take (s+(n+1))=arr.toList.take (s+n) ++ [x]:=by
    rw[show s+(n+1)=s+n+1 by lia,G0,Zf 0.0];rw[List.take_set_of_le (Qg _)];rfl
   have h2:(arr.toList.set (s+n) x).drop (s+(n+1)+xs.length)=arr.toList.drop (s+n+(x::xs).length):=by
    rw[Uo 0.0,Ql,show s+(n+1)+xs.length=s+n+(xs.length+1) by lia]
   rw[h1,h2];simp
theorem Nmd.over{s:Nat}(h:Nmd a₀ arr N)(h':Nmd a₀ m M)(hs:s+M.length<=N.length):Nmd a₀ (m.toList.zipIdx.foldl (λa (p:Tj×Nat)=>a.setIfInBounds (s+p.2) p.1) arr) (N.take s++M++N.drop (s+M.length)):=by
 have hz:=h.size;have hm:m.toList.length=M.length:=by rw[h'.eq,Qc]
 refine⟨?_,λx hx=>?_⟩
 .have:=zlg m.toList s 0 arr 0.0;rw[YH,hm] at this;rw[this,h.eq,h'.eq,Qu,Qu,Va,VC]
 .rcases Qq.mp hx with hx|hx
  .rcases Qq.mp hx with hx|hx
   .exact h.lt x (Zv hx)
   .exact h'.lt x hx
  .exact h.lt x (Ym hx)
end
theorem z2z{σ:Type}{M:Model}{A:GQ}{E:1.0}{s:GJ}{Q:PUnit->σ->Prop}{st st2:σ}(h:Q ⟨⟩ st2):wpS M A E s (set st2:StateT σ Sem PUnit) Q st:=by
 unfold wpS;rw[StateT.run_set];exact GI ⟨rfl,h⟩
theorem zmb(N:0.7)(lo n m:Nat):N=N.take lo++((N.drop lo).take n++(N.drop (lo+n)).take m)++N.drop (lo+n+m):=by
 conv=>lhs;rw[<- Zm lo N,<- Zm n (N.drop lo),JI,<- Zm m (N.drop (lo+n)),JI]
 simp only[QP]
theorem zyk{N:0.7}{lo n:Nat}(h:0<n)(hn:lo+n<=N.length):∃r,(N.drop lo).take n=N.getD lo 0::r:=by
 rw[zei 0.0];obtain⟨m,rfl⟩:∃m,n=m+1:=⟨n-1,by lia⟩;exact⟨_,Us⟩
theorem zft{N:0.7}{lo n x:Nat}(h:x∈(N.drop lo).take n):∃j,j<n/\lo+j<N.length/\x=N.getD (lo+j) 0:=zc5 h
theorem zj7(N:0.7)(lo n p:Nat)(h:p<=n):(N.drop lo).take n=(N.drop lo).take p++(N.drop (lo+p)).take (n-p):=by
 rw[<- JI,<- Uv,show p+(n-p)=n by lia]
section
variable {prog:GK}{w:GM}{A:GQ}{E:1.0}{s:GJ}{α:Type}{blt:2.1}{k:5.7}{a₀ a b:Array Tj}{kd:Tt}{st:Te}{N:0.7}
theorem z9n{i sa na pw nb pw2:Nat}(W:WO blt)(hC:4.6)(ki:kindOf st=kd)(fa:Tu st=none)(NA:Nmd a₀ (arrOf st) N)(p1:(pendingOf st)[i]? = some (sa,na,pw))(p2:(pendingOf st)[i+1]? = some (sa+na,nb,pw2))
 (h1:0<na) (h2:0<nb) (hN:sa+na+nb<=N.length) (w1:SrtW blt k N sa na) (w2:SrtW blt k N (sa+na) nb)
 (h:∀st',kindOf st'=kd->Tu st'=none->Nmd a₀ (arrOf st') (N.take sa++mg blt k ((N.drop sa).take na) ((N.drop (sa+na)).take nb)++N.drop (sa+na+nb))->pendingOf st'=((pendingOf st).setIfInBounds i (sa,na+nb,pw)).eraseIdxIfInBounds (i+1)->Q true st'):wpS 1.3 A E s (mergeAt' i) Q st:=by
 have zN:=NA.size;refine GL (Mf ?_);rw[p1,p2];refine GL (z2z ?_);obtain⟨xb,eb,gb,rfl⟩:=NA.get (i:=sa+na) 0.0;refine GL (za0 eb ?_);refine GL (z9z W hC ki NA w1 gb 0.0 h1 λp hp q1 q2=>?_);obtain⟨rB,eB⟩:=zyk (N:=N) (lo:=sa+na) h2 0.0
 have hX:mg blt k ((N.drop sa).take na) ((N.drop (sa+na)).take nb)=(N.drop sa).take p++mg blt k ((N.drop (sa+p)).take (na-p)) ((N.drop (sa+na)).take nb):=by
  rw[zj7 N sa na p hp,eB,zmz];intro x hx;obtain⟨j,j1,_,rfl⟩:=zft hx;exact q1 j j1
 refine zbf (λz=>?_) λz=>?_
 .have z:=beq_iff_eq.mp z;refine GO (h _ ki fa ?_ rfl);rw[hX,z,V3,zbl,show p=na by lia,<- zmb];exact NA
 have z:=beq_eq_false_iff_ne.mp z;obtain⟨xa,ea,ga,rfl⟩:=NA.get (i:=sa+p+(na-p)-1) 0.0;refine GL (za0 ea ?_);refine GL (yab W hC ki NA w2 ga 0.0 0.0 λq hq r1 r2=>?_);rw[show sa+p+(na-p)-1=sa+(na-1) by lia] at r1 r2
 have hZ:mg blt k ((N.drop (sa+p)).take (na-p)) ((N.drop (sa+na)).take nb)=mg blt k ((N.drop (sa+p)).take (na-p)) ((N.drop (sa+na)).take q)++(N.drop (sa+na+q)).take (nb-q):=by
  rw[zj7 N (sa+na) nb q hq,zku];intro z hz x hx;obtain⟨j,j1,_,rfl⟩:=zft hz;obtain⟨i',i1,_,rfl⟩:=zft hx;have e1:=w1.le W (show p+i'<=na-1 by lia) 0.0;rw[show sa+(p+i')=sa+p+i' by lia] at e1;have e2:=r2 (q+j) 0.0 0.0;rw[show sa+na+(q+j)=sa+na+q+j by lia] at e2;exact zcu W e1 e2
 refine zbf (λz=>?_) λz'=>?_
 .have z:=beq_iff_eq.mp z;refine GO (h _ ki fa ?_ rfl);rw[hX,hZ,z,V3,zbj];have:=zmb N sa na nb;rw[zj7 N sa na p hp,QP] at this;simp only[YH,VM,QP] at this ⊢;rw[<- this];exact NA
 have z':=beq_eq_false_iff_ne.mp z'
 have A1:Nmd a₀ ((arrOf st).extract (sa+p) (sa+na)) ((N.drop (sa+p)).take (na-p)):=by
  have:=NA.cut (sa+p) (sa+na);rwa [show sa+na-(sa+p)=na-p by lia] at this
 have B1:Nmd a₀ ((arrOf st).extract (sa+na) (sa+na+q)) ((N.drop (sa+na)).take q):=by
  have:=NA.cut (sa+na) (sa+na+q);rwa [show sa+na+q-(sa+na)=q by lia] at this
 have sA:Srt blt k ((N.drop (sa+p)).take (na-p)):=(w1.cut (p:=p) (m:=na-p) 0.0).seg 0.0
 have sB:Srt blt k ((N.drop (sa+na)).take q):=by
  have:=w2.cut (p:=0) (m:=q) 0.0;rw[YH] at this;exact this.seg 0.0
 have lA:((N.drop (sa+p)).take (na-p)).length=na-p:=zcp 0.0;have lB:((N.drop (sa+na)).take q).length=q:=zcp 0.0
 have hf:blt (k (((N.drop (sa+na)).take q).getD 0 0)) (k (((N.drop (sa+p)).take (na-p)).getD 0 0))=true:=by
  rw[zb8 0.0 0.0,zb8 0.0 0.0];exact q2 p (Qg _) 0.0
 have hl:∀i,i<((N.drop (sa+na)).take q).length->blt (k (((N.drop (sa+na)).take q).getD i 0)) (k (((N.drop (sa+p)).take (na-p)).getD (((N.drop (sa+p)).take (na-p)).length-1) 0))=true:=λi hi=>by
  rw[lB] at hi;rw[lA,zb8 hi 0.0,zb8 0.0 0.0,show sa+p+(na-p-1)=sa+(na-1) by lia];exact r1 i hi
 have fin:∀r st',Mrg blt k a₀ ((N.drop (sa+p)).take (na-p)) ((N.drop (sa+na)).take q) r->arrOf st'=arrOf st->Nmd a₀ (r.toList.zipIdx.foldl (λa (p':Tj×Nat)=>a.setIfInBounds (sa+p+p'.2) p'.1) (arrOf st')) (N.take sa++mg blt k ((N.drop sa).take na) ((N.drop (sa+na)).take nb)++N.drop (sa+na+nb)):=λr st' mr e=>by
  have ml:(mg blt k ((N.drop (sa+p)).take (na-p)) ((N.drop (sa+na)).take q)).length=na-p+q:=by rw[zvv,lA,lB]
  have:=(show Nmd a₀ (arrOf st') N by rw[e];exact NA).over (s:=sa+p) mr (by rw[ml];lia);rw[ml] at this;have e1:N.take (sa+p)=N.take sa++(N.drop sa).take p:=Uv
  have e2:N.drop (sa+p+(na-p+q))=(N.drop (sa+na+q)).take (nb-q)++N.drop (sa+na+nb):=by
   rw[show sa+p+(na-p+q)=sa+na+q by lia]
   conv=>lhs;rw[<- Zm (nb-q) (N.drop (sa+na+q)),JI,show sa+na+q+(nb-q)=sa+na+nb by lia]
  rw[e1,e2] at this;rw[hX,hZ];simp only[QP] at this ⊢;exact this
 by_cases c:na-p<=q
 .rw[NI c];refine GL (yam W hC ki A1 B1 sA sB 0.0 0.0 hf (λy hy=>?_) λr st' mr kp=>?_)
  .obtain⟨j,j1,j2,rfl⟩:=zc5 (L:=(N.drop (sa+na)).take q) (i:=0) (p:=q) (by rw[JH,Zu 0.0];exact hy);rw[Yo] at j2 ⊢;exact hl j j2
  .refine GL (Tw (GL (Mf ?_)));have f':Tu st'=none:=kp.fa.trans fa;refine GO ?_;change Q (Tu st').isNone _;rw[f'];exact h _ (kp.ki.trans ki) f' (fin r st' mr kp.ar) kp.pe
 .rw[NJ c];refine GL (z9i W hC ki A1 B1 sA sB 0.0 0.0 hf hl λr st' mr kp=>?_);refine GL (Tw (GL (Mf ?_)));have f':Tu st'=none:=kp.fa.trans fa;refine GO ?_;change Q (Tu st').isNone _;rw[f'];exact h _ (kp.ki.trans ki) f' (fin r st' mr kp.ar) kp.pe
end
section
variable {prog:GK}{w:GM}{A:GQ}{E:1.0}{s:GJ}{α:Type}{blt:2.1}{k:5.7}{a₀:Array Tj}{kd:Tt}{ix:Nat->Nat}{st:Te}{lo:Nat}{N:0.7}{pd:Array (Nat×Nat×Nat)}
structure So(a₀:Array Tj)(kd:Tt)(pd:Array (Nat×Nat×Nat))(lo:Nat)(N:0.7)(ix:Nat->Nat)(st:Te):Prop where
 sz:(arrOf st).size=a₀.size
 be:∀p,p<lo->(arrOf st)[p]? = a₀[N.getD p 0]?
 at_:∀i,lo+i<a₀.size->(arrOf st)[lo+i]? = a₀[lo+ix i]?
 bj:Bij ix (a₀.size-lo)
 fa:Tu st=none
 pe:pendingOf st=pd
 ki:kindOf st=kd
theorem lt_o{i j:Nat}(hC:4.6)(b:So a₀ kd pd lo N ix st)(hi:lo+i<a₀.size)(hj:lo+j<a₀.size)(h:Q (some (blt (k (lo+ix i)) (k (lo+ix j)))) st):wpS 1.3 A E s (ltAt' (lo+i) (lo+j)) Q st:=by
 have li:=b.bj.lt i 0.0;have lj:=b.bj.lt j 0.0;obtain⟨⟨x,p⟩,gi⟩:∃z,a₀[lo+ix i]? = some z:=⟨_,Q4 0.0⟩;obtain⟨⟨y,q⟩,gj⟩:∃z,a₀[lo+ix j]? = some z:=⟨_,Q4 0.0⟩;rw[ltAt'_eq];refine GL (Mf ?_);change wpS 1.3 A E s (elem' (arrOf st) (lo+i) >>= λx=>elem' (arrOf st) (lo+j) >>= λy=>lt' x y) Q st;rw[elem'_eq,elem'_eq,b.at_ i hi,b.at_ j hj,gi,gj];refine GL (GO (GL (GO ?_)));rw[lt'_eq];refine GL (Mf ?_);rw[b.ki];refine GL (M2 (Mq (hC _ _ _ _ _ _ _ _ gi gj 3.2)));exact GO h
theorem So.mix{i j:Nat}(b:So a₀ kd pd lo N ix st)(hj:lo+j<=a₀.size):So a₀ kd pd lo N (mixF ix i j) (setArr st (mirror (arrOf st) (lo+i) (lo+j) ((lo+j-(lo+i)) / 2))):=by
 refine⟨(mirror_size _ _ _ _).trans b.sz,λp hp=>?_,λp hp=>?_,b.bj.mix 0.0,b.fa,b.pe,b.ki⟩
 .show(mirror (arrOf st) (lo+i) (lo+j) ((lo+j-(lo+i)) / 2))[p]? = _;rw[getElem?_mirror_all (by rw[b.sz];exact hj),NJ 0.0];exact b.be p hp
 .show(mirror (arrOf st) (lo+i) (lo+j) ((lo+j-(lo+i)) / 2))[lo+p]? = _;rw[getElem?_mirror_all (by rw[b.sz];exact hj)];unfold mixF
  by_cases z:i<=p/\p<j
  .rw[NI 0.0,NI z,show lo+i+(lo+j)-1-(lo+p)=lo+(i+j-1-p) by lia];exact b.at_ _ 0.0
  .rw[NJ 0.0,NJ z];exact b.at_ _ hp
theorem So.bub{q l:Nat}(b:So a₀ kd pd lo N ix st)(hq:lo+q<a₀.size)(hl:l<=q):So a₀ kd pd lo N (bubF ix q l) (setArr st (bubble (arrOf st) (lo+q) (lo+q-(lo+l)))):=by
 refine⟨(bubble_size _ _ _).trans b.sz,λp hp=>?_,λp hp=>?_,b.bj.bub 0.0 hl,b.fa,b.pe,b.ki⟩
 .show(bubble (arrOf st) (lo+q) (lo+q-(lo+l)))[p]? = _;rw[getElem?_bubble (by rw[b.sz];exact hq) _ 0.0,NJ 0.0,NJ 0.0];exact b.be p hp
 .show(bubble (arrOf st) (lo+q) (lo+q-(lo+l)))[lo+p]? = _;rw[getElem?_bubble (by rw[b.sz];exact hq) _ 0.0];unfold bubF
  by_cases z:p=l
  .rw[NI 0.0,NI z];exact b.at_ _ hq
  .rw[NJ 0.0,NJ z]
   by_cases y:l<p/\p<=q
   .rw[NI 0.0,NI y,show lo+p-1=lo+(p-1) by lia];exact b.at_ _ 0.0
   .rw[NJ 0.0,NJ y];exact b.at_ _ hp
theorem z9o{n ok:Nat}(W:WO blt)(hC:4.6)(hn:lo+n<=a₀.size)(hok:ok<=n)(h1:1<=ok)(b:So a₀ kd pd lo N ix st)(up:Up blt (λi=>k (lo+i)) ix ok)(pr:Pre ix ok)
 (h:∀ix' st',So a₀ kd pd lo N ix' st'->Up blt (λi=>k (lo+i)) ix' n->Pre ix' n->Q true st'):wpS 1.3 A E s (binarySort' lo n ok) Q st:=by
 rw[binarySort'_eq];rw[show max ok 1=ok by lia];refine GL (To (GT (I:=λq c st'=>c=(none,())/\∃ix',So a₀ kd pd lo N ix' st'/\Up blt (λi=>k (lo+i)) ix' q/\Pre ix' q) (Q:=λc st'=>c=(none,())/\∃ix',So a₀ kd pd lo N ix' st'/\Up blt (λi=>k (lo+i)) ix' n/\Pre ix' n) ?turn ?out ⟨rfl,ix,b,up,pr⟩) ?rest)
 case rest=>
  rintro c st' ⟨rfl,ix',b',u',p'⟩;exact GO (h ix' st' b' u' p')
 case out=>
  rintro c st' ⟨hc,ix',b',u',p'⟩;rw[show max ok n=n by lia] at u' p';exact⟨hc,ix',b',u',p'⟩
 case turn=>
  rintro q c st' hq1 hq2 ⟨rfl,ix',b',u',p'⟩;have hq:lo+q<a₀.size:=by lia
  have eq:=p'.id q (Qg _)
  refine GL (To (GT (I:=λx c st2=>st2=st'/\∃l r,c=(none,l,r)/\l<=r/\r<=q/\r-l<=q-x/\(∀i,i<l->blt (k (lo+q)) (k (lo+ix' i))=false)/\∀i,r<=i->i<q->blt (k (lo+q)) (k (lo+ix' i))=true)
   (Q:=λc st2=>st2=st'/\∃l r,c=(none,l,r)/\l<=q/\(∀i,i<l->blt (k (lo+q)) (k (lo+ix' i))=false)/\∀i,l<=i->i<q->blt (k (lo+q)) (k (lo+ix' i))=true) ?tu ?ou ?bg) ?re)
  case bg=>exact⟨rfl,0,q,rfl,by lia,Qg _,by lia,λi z=>absurd z 0.0,λi z z'=>absurd z 0.0⟩
  case ou=>
   rintro c st2 ⟨rfl,l,r,rfl,z1,z2,z3,z4,z5⟩;have:l=r:=by lia
   subst this;exact⟨rfl,l,l,rfl,z2,z4,z5⟩
  case tu=>
   rintro x c st2 _ hx ⟨rfl,l,r,rfl,z1,z2,z3,z4,z5⟩;dsimp only
   by_cases ge:l ≥ r
   .rw[NI ge];have:l=r:=by lia
    subst this;exact GO ⟨rfl,l,l,rfl,z2,z4,z5⟩
   .rw[NJ ge];refine GL (lt_o hC b' hq (j:=(l+r) / 2) 0.0 ?_);rw[eq]
    cases le:blt (k (lo+q)) (k (lo+ix' ((l+r) / 2))) with
    | true=>
      refine GO ⟨rfl,l,(l+r) / 2,rfl,by lia,by lia,by lia,z4,λi y1 y2=>?_⟩
      by_cases e:i=(l+r) / 2
      .subst e;exact le
      .exact zfs W le ((u' _ _ (show(l+r) / 2<i by lia) y2).le W)
    | false=>
      refine GO ⟨rfl,(l+r) / 2+1,r,rfl,by lia,by lia,by lia,λi y1=>?_,z5⟩
      by_cases e:i=(l+r) / 2
      .subst e;exact le
      .exact zcu W ((u' i _ (show i<(l+r) / 2 by lia) 0.0).le W) le
  case re=>
   rintro c st2 ⟨rfl,l,r,rfl,z2,z4,z5⟩;change wpS 1.3 A E s (moveDown' (lo+q) (lo+l) >>= λ_=>pure (Y1 (none,()))) _ st2;rw[moveDown'_eq];exact GL (Tw (GO ⟨rfl,bubF ix' q l,b'.bub hq z2,z8c (k:=λi=>k (lo+i)) u' p' z2 z4 z5,p'.bub z2⟩))
end
section
variable {prog:GK}{w:GM}{A:GQ}{E:1.0}{s:GJ}{α:Type}{blt:2.1}{k:5.7}{a₀:Array Tj}{kd:Tt}{ix:Nat->Nat}{st:Te}{lo:Nat}{N:0.7}{pd:Array (Nat×Nat×Nat)}
theorem z9l{n:Nat}(W:WO blt)(hC:4.6)(hn:lo+n<=a₀.size)(h1:1<=n)(b:So a₀ kd pd lo N (λi=>i) st)
 (h:∀m' ix' st',So a₀ kd pd lo N ix' st'->1<=m'->m'<=n->Up blt (λi=>k (lo+i)) ix' m'->Pre ix' m'->Q (some m') st'):wpS 1.3 A E s (countRun' lo n) Q st:=by
 have one:∀m,1<=m->lo+m-1=lo+(m-1):=λm hm=>by lia
 rw[countRun'_eq];refine GL (To (GT (I:=λx c st'=>st'=st/\c=(none,x)/\Up blt (λi=>k (lo+i)) (λi=>i) x) (Q:=λc st'=>st'=st/\∃m,c=(none,m)/\1<=m/\m<=n/\Up blt (λi=>k (lo+i)) (λi=>i) m/\(m=n\/blt (k (lo+m)) (k (lo+(m-1)))=true)) ?t1 ?o1 ⟨rfl,rfl,λi j z z'=>absurd z 0.0⟩) ?r1)
 case o1=>
  rintro c st' ⟨rfl,rfl,u⟩;rw[show max 1 n=n by lia] at u ⊢;exact⟨rfl,n,rfl,h1,Qg _,u,.inl rfl⟩
 case t1=>
  rintro x c st' x1 x2 ⟨rfl,rfl,u⟩;dsimp only;rw[one x x1];refine GL (lt_o hC b 0.0 0.0 ?_)
  cases le:blt (k (lo+x)) (k (lo+(x-1))) with
  | true=>
    exact GO ⟨rfl,x,rfl,x1,by lia,u,.inr le⟩
  | false=>
    exact GO ⟨rfl,rfl,ztt W u 0.0 (.inr ⟨le,by lia⟩)⟩
 case r1=>
  rintro c st' ⟨rfl,m,rfl,z1,z2,u,o⟩;dsimp only
  by_cases e:m=n
  .rw[NI (by simpa using e)];exact GO (h m _ _ b z1 z2 u Pre.idf)
  rw[NJ (by simpa using e)];have lt:=o.resolve_left e
  by_cases g:m > 1 <;> first
   | rw[NI g,one m z1]
     refine GL ?_;refine lt_o hC b (i:=0) (j:=m-1) 0.0 0.0 ?_;refine zbf (λro=>GO (h m _ _ b z1 z2 u Pre.idf)) λro=>?_;refine GL (Nh ?_);have b1:So a₀ kd pd lo N (mixF (λi=>i) 0 m) (setArr st' (mirror (arrOf st') lo (lo+m) ((lo+m-lo) / 2))):=b.mix (i:=0) (j:=m) 0.0;have pr1:Pre (mixF (λi=>i) 0 m) (m+1):=(Pre.idf.mix (Qg m)).more 0.0
     have d1:Des blt (λi=>k (lo+i)) (mixF (λi=>i) 0 m) (m+1) 0:=by
      have al:∀i j,i<j->j<m->blt (k (lo+j)) (k (lo+i))=false/\blt (k (lo+i)) (k (lo+j))=false:=λi j y1 y2=>by
       refine⟨(u i j y1 y2).le W,?_⟩
       have a1:blt (k (lo+i)) (k (lo+0))=false:=by
        by_cases q:i=0
        .subst q;exact W.irr _
        .exact(u 0 i 0.0 0.0).le W
       have a2:blt (k (lo+(m-1))) (k (lo+j))=false:=by
        by_cases q:j=m-1
        .subst q;exact W.irr _
        .exact(u j (m-1) 0.0 0.0).le W
       exact zcu W (zcu W a2 ro) a1
      refine zhj W (λi j y1 y2=>?_) 0.0 ?_
      .have e1:mixF (λi=>i) 0 m i=m-1-i:=by unfold mixF;rw[NI 0.0];show 0+m-1-i=m-1-i;lia
       have e2:mixF (λi=>i) 0 m j=m-1-j:=by unfold mixF;rw[NI 0.0];show 0+m-1-j=m-1-j;lia
       rw[e1,e2];exact .inr ⟨(al _ _ 0.0 0.0).1,by lia⟩
      .have e1:mixF (λi=>i) 0 m m=m:=by unfold mixF;rw[NJ 0.0]
       have e2:mixF (λi=>i) 0 m (m-1)=0:=by unfold mixF;rw[NI 0.0];show 0+m-1-(m-1)=0;lia
       rw[e1,e2];exact zfs W lt ro
   | rw[NJ g]
     have me:m=1:=by lia
     have b1:=b;have pr1:Pre (λi=>i) (m+1):=Pre.idf
     have d1:Des blt (λi=>k (lo+i)) (λi=>i) (m+1) 0:=by
      subst me;exact zhj W (λi j y1 y2=>absurd y1 0.0) 0.0 lt
  all_goals
   refine GL (M2 (Tr 3.2))
   refine GL (To (GT (I:=λx c st'=>∃q ix',c=(none,x,q)/\So a₀ kd pd lo N ix' st'/\Des blt (λi=>k (lo+i)) ix' x q/\Pre ix' x)
    (Q:=λc st'=>∃m' q ix',c=(none,m',q)/\So a₀ kd pd lo N ix' st'/\m+1<=m'/\m'<=n/\Des blt (λi=>k (lo+i)) ix' m' q/\Pre ix' m') ?t2 ?o2 ⟨0,_,rfl,b1,d1,pr1⟩) ?r2)
   case o2=>
    rintro c st' ⟨q,ix',rfl,b',d',p'⟩;rw[show max (m+1) n=n by lia] at d' p' ⊢;exact⟨n,q,ix',rfl,b',by lia,Qg _,d',p'⟩
   case t2=>
    rintro x c st' x1 x2 ⟨q,ix',rfl,b',d',p'⟩;dsimp only;have hq:=d'.le;rw[one x 0.0];refine GL (lt_o hC b' 0.0 0.0 ?_)
    cases le:blt (k (lo+ix' x)) (k (lo+ix' (x-1))) with
    | true=>
      simp only[NR]
      by_cases z:q > 0
      .rw[NI z,show lo+x-(q+1)=lo+(x-(q+1)) by lia];refine GL (Nh (GO ⟨0,_,rfl,b'.mix 0.0,?_,(p'.mix (Qg _)).more 0.0⟩));refine zhj W d'.turn 0.0 ?_;have e1:mixF ix' (x-(q+1)) x x=ix' x:=by unfold mixF;rw[NJ 0.0]
       have e2:mixF ix' (x-(q+1)) x (x-1)=ix' (x-(q+1)):=by unfold mixF;rw[NI 0.0];congr 1;lia
       rw[e1,e2];have:=d'.al (x-(q+1)) (x-1) 0.0 0.0 0.0;exact zfs W le this.1
      .rw[NJ z];have:q=0:=by lia
       subst this;exact GO ⟨0,ix',rfl,b',zhj W d'.dn 0.0 le,p'.more 0.0⟩
    | false=>
      refine GL (lt_o hC b' 0.0 0.0 ?_)
      cases gr:blt (k (lo+ix' (x-1))) (k (lo+ix' x)) with
      | true=>
        exact GO ⟨x,q,ix',rfl,b',x1,by lia,d',p'⟩
      | false=>
        exact GO ⟨q+1,ix',rfl,b',z5i W d' p' le gr,p'.more 0.0⟩
   case r2=>
    rintro c st2 ⟨m',q,ix',rfl,b',y1,y2,d',p'⟩;dsimp only;have hq:=d'.le
    by_cases z:q > 0 <;> first
     | rw[NI z,show lo+m'-(q+1)=lo+(m'-(q+1)) by lia]
       refine GL (Nh ?_);have b2:=b'.mix (i:=m'-(q+1)) (j:=m') 0.0;have d2:=d'.turn;have p2:=p'.mix (i:=m'-(q+1)) (Qg m')
     | rw[NJ z]
       have qe:q=0:=by lia
       subst qe;have b2:=b';have d2:=d'.dn;have p2:=p'
    all_goals
     refine GL (Nh ?_);have b3:=b2.mix (i:=0) (j:=m') 0.0;have u3:=z5m d2;have p3:=p2.mix (i:=0) (Qg m');refine GL (To (GT (I:=λx c st'=>∃ix3,So a₀ kd pd lo N ix3 st'/\c=(none,x)/\Up blt (λi=>k (lo+i)) ix3 x/\Pre ix3 x) (Q:=λc st'=>∃ix3 m3,So a₀ kd pd lo N ix3 st'/\c=(none,m3)/\1<=m3/\m3<=n/\Up blt (λi=>k (lo+i)) ix3 m3/\Pre ix3 m3) ?t3 ?o3 ⟨_,b3,rfl,u3,p3⟩) ?r3)
     case o3=>
      rintro c st' ⟨ix3,b4,rfl,u,p4⟩;rw[show max m' n=n by lia] at u p4 ⊢;exact⟨ix3,n,b4,rfl,h1,Qg _,u,p4⟩
     case r3=>
      rintro c st' ⟨ix3,m3,b4,rfl,w1,w2,u,p4⟩;exact GO (h m3 ix3 st' b4 w1 w2 u p4)
     case t3=>
      rintro x c st' x1 x2 ⟨ix3,b4,rfl,u,p4⟩;dsimp only;rw[one x 0.0];refine GL (lt_o hC b4 0.0 0.0 ?_)
      cases le:blt (k (lo+ix3 x)) (k (lo+ix3 (x-1))) with
      | true=>
        exact GO ⟨ix3,x,b4,rfl,by lia,by lia,u,p4⟩
      | false=>
        refine GO ⟨ix3,b4,rfl,ztt W u 0.0 (.inr ⟨le,?_⟩),p4.more 0.0⟩;rw[p4.id x (Qg _)];exact p4.lt _ 0.0
end
section
variable {α:Type}{blt:2.1}{k:5.7}{N N':0.7}
def SegOk(blt:2.1)(k:5.7)(N:0.7)(s n:Nat):Prop:=((N.drop s).take n).Pairwise (Rk blt k)/\∀x∈(N.drop s).take n,s<=x/\x<s+n
def Segs(blt:2.1)(k:5.7)(N:0.7):List (Nat×Nat×Nat)->Nat->Nat->Prop
 | [],s,e=>s=e
 | (a,n,_)::r,s,e=>a=s/\0<n/\SegOk blt k N s n/\Segs blt k N r (s+n) e
theorem zg6:∀{l:List (Nat×Nat×Nat)} {s e:Nat},Segs blt k N l s e->s+l.length<=e
 | [],s,e,h=>by have h:s=e:=h;simp[h]
 | (a,n,p)::r,s,e,h=>by
   have:=zg6 h.2.2.2;have:=h.2.1;rw[Ql];lia
theorem segs_app:∀{l r:List (Nat×Nat×Nat)} {s e:Nat},Segs blt k N (l++r) s e↔∃m,Segs blt k N l s m/\Segs blt k N r m e
 | [],r,s,e=>⟨λh=>⟨s,rfl,h⟩,λ⟨m,h1,h2⟩=>by have h1:s=m:=h1;rw[h1];exact h2⟩
 | (a,n,p)::l,r,s,e=>by
   constructor
   .rintro⟨h1,h2,h3,h4⟩;obtain⟨m,h5,h6⟩:=segs_app.mp h4;exact⟨m,⟨h1,h2,h3,h5⟩,h6⟩
   .rintro⟨m,⟨h1,h2,h3,h5⟩,h6⟩;exact⟨h1,h2,h3,segs_app.mpr ⟨m,h5,h6⟩⟩
theorem zpz{s n:Nat}(hl:N'.length=N.length)(h:∀p,s<=p->p<s+n->N'.getD p 0=N.getD p 0):(N'.drop s).take n=(N.drop s).take n:=by
 refine VG (by simp[hl]) λi h1 h2=>?_;rw[QL,Zr] at h1 h2;have:=h (s+i) 0.0 0.0;simp only[Zo,Qb (show s+i<N'.length by lia),Qb (show s+i<N.length by lia),Ge] at this;simpa using this
theorem zdr(hl:N'.length=N.length):∀{l:List (Nat×Nat×Nat)} {s e:Nat},Segs blt k N l s e->(∀p,s<=p->p<e->N'.getD p 0=N.getD p 0)->Segs blt k N' l s e
 | [],s,e,h,_=>h
 | (a,n,p)::r,s,e,h,g=>by
   have le:=zg6 h.2.2.2;refine⟨h.1,h.2.1,?_,zdr hl h.2.2.2 λq q1 q2=>g q 0.0 q2⟩;unfold SegOk;rw[zpz hl λq q1 q2=>g q q1 0.0];exact h.2.2.1
theorem zoq(hf:∀a b c,(f (a,b,c)).1=a/\(f (a,b,c)).2.1=b):∀{l:List (Nat×Nat×Nat)} {i s e:Nat},Segs blt k N l s e->Segs blt k N (l.modify i f) s e
 | [],i,s,e,h=>by simpa using h
 | (a,n,p)::r,0,s,e,h=>by
   rw[List.modify_zero_cons];obtain⟨z1,z2⟩:=hf a n p;have:f (a,n,p)=(a,n,(f (a,n,p)).2.2):=Ud z1 (Ud z2 rfl);rw[this];exact h
 | (a,n,p)::r,i+1,s,e,h=>by
   rw[List.modify_succ_cons];exact⟨h.1,h.2.1,h.2.2.1,zoq hf h.2.2.2⟩
theorem SegOk.srt(W:WO blt){s n:Nat}(h:SegOk blt k N s n)(hn:s+n<=N.length):SrtW blt k N s n:=λi j hij hj=>by
 have:=Zi.mp h.1 i j (by rw[zcp hn];lia) (by rw[zcp hn];exact hj) hij
 have e:∀t,t<n->∀ht,((N.drop s).take n)[t]'ht=N.getD (s+t) 0:=λt ht hh=>by
  rw[<- zb8 ht hn];unfold Zo;rw[Qb hh];rfl
 rw[e i 0.0,e j hj] at this;exact this.le W
theorem SegOk.merge(W:WO blt){s n m:Nat}(h1:SegOk blt k N s n)(h2:SegOk blt k N (s+n) m)(hN:s+n+m<=N.length)(N':0.7)(e:N'=N.take s++mg blt k ((N.drop s).take n) ((N.drop (s+n)).take m)++N.drop (s+n+m)):
 N'.length=N.length/\SegOk blt k N' s (n+m)/\(∀p,p<s->N'.getD p 0=N.getD p 0)/\∀p,s+n+m<=p->N'.getD p 0=N.getD p 0:=by
 have lm:(mg blt k ((N.drop s).take n) ((N.drop (s+n)).take m)).length=n+m:=by rw[zvv,zcp 0.0,zcp 0.0]
 have lt:(N.take s).length=s:=by rw[QL];lia
 have lN:N'.length=N.length:=by rw[e,Qj,Qj,lm,lt,Zr];lia
 have seg:(N'.drop s).take (n+m)=mg blt k ((N.drop s).take n) ((N.drop (s+n)).take m):=by
  rw[e,QP]
  have:(N.take s++(mg blt k ((N.drop s).take n) ((N.drop (s+n)).take m)++N.drop (s+n+m))).drop s=mg blt k ((N.drop s).take n) ((N.drop (s+n)).take m)++N.drop (s+n+m):=by
   conv=>lhs;arg 1;rw[<- lt]
   exact Yl
  rw[this,<- lm,YI]
 refine⟨lN,⟨?_,λx hx=>?_⟩,λp hp=>?_,λp hp=>?_⟩
 .rw[seg];exact zvc W h1.1 h2.1 λx hx y hy=>by have:=h1.2 x hx;have:=h2.2 y hy;lia
 .rw[seg] at hx;rcases mg_mem.mp hx with z|z
  .have:=h1.2 x z;lia
  .have:=h2.2 x z;lia
 .rw[e,QP];simp only[Zo];rw[QA 0.0,Y4,NI hp]
 .rw[e];simp only[Zo];rw[QF (by rw[Qj,lm,lt];lia),Qj,lm,lt,Z0,show s+n+m+(p-(s+(n+m)))=p by lia]
end
theorem zwe:∀{zs ys:0.7},zs.Nodup->(∀z∈zs,z∈ys)->zs.length<=ys.length
 | [],ys,_,_=>Q6 _
 | z::zs,ys,nd,h=>by
   have n:=Zq.mp nd;have hz:=h z 0.1;have:=zwe (zs:=zs) (ys:=ys.erase z) n.2 λx hx=>(Vf (show x≠z from λe=>n.1 (by rw[<- e];exact hx))).mpr (h x (by simp[hx]));rw[Yy hz] at this;have:=YG hz;rw[Ql];lia
section
variable {prog:GK}{w:GM}{A:GQ}{E:1.0}{s:GJ}{α:Type}{blt:2.1}{k:5.7}{a₀:Array Tj}{kd:Tt}{ix:Nat->Nat}{st:Te}{lo:Nat}{N:0.7}{pd:Array (Nat×Nat×Nat)}{T:Nat->Nat}
structure RI(blt:2.1)(k:5.7)(a₀:Array Tj)(kd:Tt)(T:Nat->Nat)(lo:Nat)(st:Te):Prop where
 ki:kindOf st=kd
 fa:Tu st=none
 le:lo<=a₀.size
 ex:∃N:List Nat,N.length=a₀.size/\Nmd a₀ (arrOf st) N/\(∀p,lo<=p->p<a₀.size->N.getD p 0=T p)/\Segs blt k N (pendingOf st).toList 0 lo
theorem z8r{β:Type}{l:List β}{i:Nat}(h:i+1<l.length):∃a b,l=l.take i++a::b::l.drop (i+2)/\l[i]? = some a/\l[i+1]? = some b:=by
 refine⟨l[i],l[i+1],?_,Qb 0.0,Qb h⟩
 conv=>lhs;rw[<- Zm i l,QX (show i<l.length by lia),QX (show i+1<l.length by lia)]
theorem zot{i:Nat}(W:WO blt)(hC:4.6)(r:RI blt k a₀ kd T lo st)(hi:i+1<(pendingOf st).size)(h:∀st',RI blt k a₀ kd T lo st'->(pendingOf st').size+1=(pendingOf st).size->Q true st'):wpS 1.3 A E s (mergeAt' i) Q st:=by
 obtain⟨N,hl,NA,idn,sg⟩:=r.ex;have rle:=r.le;obtain⟨⟨sA,nA,pA⟩,⟨sB,nB,pB⟩,el,e1,e2⟩:=z8r (l:=(pendingOf st).toList) (i:=i) (by rw[QH];exact hi);have li:((pendingOf st).toList.take i).length=i:=by rw[QL,QH];lia
 generalize hl1:(pendingOf st).toList.take i=l1 at el li;generalize hl2:(pendingOf st).toList.drop (i+2)=l2 at el;rw[el] at sg;obtain⟨m,g1,g2⟩:=segs_app.mp sg;obtain⟨rfl,hA,okA,g3⟩:=g2;obtain⟨rfl,hB,okB,g4⟩:=g3;have le4:=zg6 g4;refine z9n (i:=i) (sa:=sA) (na:=nA) (nb:=nB) W hC r.ki r.fa NA (by rw[<- Q7];exact e1) (by rw[<- Q7];exact e2) hA hB 0.0 (okA.srt W 0.0) (okB.srt W 0.0) λst' k1 k2 k3 k4=>?_;obtain⟨lN,ok,q1,q2⟩:=okA.merge W okB 0.0 _ rfl
 have tl:(pendingOf st').toList=l1++(sA,nA+nB,pA)::l2:=by
  rw[k4,Array.toList_eraseIdxIfInBounds,V4,el,<- li,List.set_append_right _ _ (Qg _),Nat.sub_self,List.set_cons_zero,List.eraseIdx_append_of_length_le 0.0,show l1.length+1-l1.length=1 by lia];rfl
 refine h st' ⟨k1,k2,rle,_,by rw[lN];exact hl,k3,λp p1 p2=>?_,?_⟩ ?_
 .rw[q2 p 0.0];exact idn p p1 p2
 .rw[tl];refine segs_app.mpr ⟨sA,zdr lN g1 λp _ p2=>q1 p p2,rfl,by lia,ok,?_⟩;rw[show sA+(nA+nB)=sA+nA+nB by lia];exact zdr lN g4 λp p1 _=>q2 p 0.0
 .rw[<- QH,<- QH,tl,el];simp;lia
theorem z9r(NA:Nmd a₀ (arrOf st) N)(hl:N.length=a₀.size)(idn:∀p,lo<=p->p<a₀.size->N.getD p 0=p)(ki:kindOf st=kd)(fa:Tu st=none)(le:lo<=a₀.size):So a₀ kd (pendingOf st) lo N (λi=>i) st:=by
 have z:=NA.size;refine⟨by rw[z,hl],λp hp=>?_,λi hi=>?_,Bij.idf,fa,rfl,ki⟩
 .obtain⟨x,e1,e2,_⟩:=NA.get (i:=p) 0.0;rw[e1,e2]
 .obtain⟨x,e1,e2,_⟩:=NA.get (i:=lo+i) 0.0;rw[idn (lo+i) 0.0 hi] at e2;rw[e1,e2]
theorem z8s{m:Nat}(b:So a₀ kd pd lo N ix st)(hN:∀n∈N,n<a₀.size)(hl:N.length=a₀.size)(le:lo<=a₀.size)(hm:lo+m<=a₀.size)(up:Up blt (λi=>k (lo+i)) ix m)(pr:Pre ix m):
 ∃N':List Nat,N'.length=a₀.size/\Nmd a₀ (arrOf st) N'/\(∀p,p<lo->N'.getD p 0=N.getD p 0)/\SegOk blt k N' lo m/\∀p,lo+m<=p->p<a₀.size->N'.getD p 0=p:=by
 have lt:(N.take lo).length=lo:=by rw[QL];lia
 have gl:∀p,p<lo->(N.take lo++(Q3 (a₀.size-lo)).map λi=>lo+ix i).getD p 0=N.getD p 0:=λp hp=>by
  simp only[Zo];rw[QA 0.0,Y4,NI hp]
 have gr:∀i,lo+i<a₀.size->(N.take lo++(Q3 (a₀.size-lo)).map λi=>lo+ix i).getD (lo+i) 0=lo+ix i:=λi hi=>by
  simp only[Zo];rw[QF 0.0,lt,show lo+i-lo=i by lia,Qh,J4 0.0];rfl
 have lN:(N.take lo++(Q3 (a₀.size-lo)).map λi=>lo+ix i).length=a₀.size:=by rw[Qj,lt,Qc,QS];lia
 have inr:∀n∈(N.take lo++(Q3 (a₀.size-lo)).map λi=>lo+ix i),n<a₀.size:=λn hn=>by
  rcases Qq.mp hn with z|z
  .exact hN n (Zv z)
  .obtain⟨i,hi,rfl⟩:=Qo.mp z;have:=b.bj.lt i (Q8.mp hi);lia
 generalize hN':(N.take lo++(Q3 (a₀.size-lo)).map λi=>lo+ix i)=N' at gl gr lN inr;refine⟨N',lN,⟨?_,inr⟩,gl,?_,λp p1 p2=>?_⟩
 .refine Jk λp=>?_;rw[Q7,Qh];rcases Jj p a₀.size with hp|hp
  .have ge:N'[p]? = some (N'.getD p 0):=by
    unfold Zo;rw[Qb 0.0];rfl
   have mem:N'.getD p 0<a₀.size:=inr _ (Qt ge);rw[ge,JA,<- zka mem];rcases Jj p lo with z|z
   .rw[gl p z];exact b.be p z
   .obtain⟨i,rfl⟩:∃i,p=lo+i:=⟨p-lo,by lia⟩;rw[gr i hp];exact b.at_ i hp
  .rw[J5 (by rw[b.sz];exact hp),QD 0.0];rfl
 .have seg:∀i j,i<j->j<m->Rk blt k (N'.getD (lo+i) 0) (N'.getD (lo+j) 0):=λi j hij hj=>by
   rw[gr i 0.0,gr j 0.0];rcases up i j hij hj with z|⟨z,z'⟩
   .exact .inl z
   .exact .inr ⟨z,by lia⟩
  refine⟨Zi.mpr λi j h1 h2 hij=>?_,λx hx=>?_⟩
  .have l:=zcp (N:=N') (lo:=lo) (n:=m) 0.0
   have e:∀t,t<m->∀ht,((N'.drop lo).take m)[t]'ht=N'.getD (lo+t) 0:=λt ht hh=>by
    rw[<- zb8 ht 0.0];unfold Zo;rw[Qb hh];rfl
   rw[e i 0.0,e j 0.0];exact seg i j hij 0.0
  .obtain⟨j,j1,j2,rfl⟩:=zft hx;rw[gr j 0.0];have:=pr.lt j j1;lia
 .obtain⟨i,rfl⟩:∃i,p=lo+i:=⟨p-lo,by lia⟩;rw[gr i p2,pr.id i 0.0]
end
section
variable {prog:GK}{w:GM}{A:GQ}{E:1.0}{s:GJ}{α:Type}{blt:2.1}{k:5.7}{a₀:Array Tj}{kd:Tt}{st:Te}
theorem z7o(b:Sb a₀ kd (λi=>i) st):Nmd a₀ (arrOf st) (Q3 a₀.size):=by
 refine⟨Jk λp=>?_,λn hn=>Q8.mp hn⟩;rw[Q7,Qh];rcases Jj p a₀.size with hp|hp
 .rw[J4 hp,JA,<- zka hp];exact b.at_ p hp
 .rw[J5 (by rw[b.sz];exact hp),QD (by rw[QS];exact hp)];rfl
theorem znn(W:WO blt)(hC:4.6)(b:Sb a₀ kd (λi=>i) st)(h2:2<=a₀.size)
 (h:∀ix' st',(arrOf st').size=a₀.size->(∀i,i<a₀.size->(arrOf st')[i]? = a₀[ix' i]?)->Bij ix' a₀.size->Tu st'=none->Up blt k ix' a₀.size->Q () st'):wpS 1.3 A E s sortRuns' Q st:=by
 rw[sortRuns'_eq];refine GL (Mf ?_);dsimp only;simp only[b.sz];have r0:RI blt k a₀ kd (λp=>p) 0 st:=⟨b.ki,b.fa,Q6 _,Q3 a₀.size,QS,z7o b,λp _ hp=>by simp[Zo,hp],by rw[b.pe];rfl⟩;refine GL (To (GT (I:=λx c st'=>∃lo,c=(none,lo)/\RI blt k a₀ kd (λp=>p) lo st'/\(x<=lo\/lo=a₀.size)) (Q:=λc st'=>c=(none,a₀.size)/\RI blt k a₀ kd (λp=>p) a₀.size st') ?turn ?out ⟨0,rfl,r0,.inl (Qg _)⟩) ?rest)
 case out=>
  rintro c st' ⟨lo,rfl,r,o⟩;have:=r.le;have:lo=a₀.size:=by rcases o with o|o <;> lia
  subst this;exact⟨rfl,r⟩
 case turn=>
  rintro x c st' _ hx ⟨lo,rfl,r,o⟩;have rle:=r.le
  by_cases ge:lo ≥ a₀.size
  .rw[NI ge];have:lo=a₀.size:=by lia
   subst this;exact GO ⟨rfl,r⟩
  rw[NJ ge];obtain⟨N,hl,NA,idn,sg⟩:=r.ex;refine GL (z9l W hC (n:=a₀.size-lo) 0.0 0.0 (z9r NA hl idn r.ki r.fa rle) λm ix1 st1 b1 m1 m2 u1 p1=>?_);dsimp only
  have fin:∀(nn:Nat) (ix2:Nat->Nat) (st2:Te),So a₀ kd (pendingOf st') lo N ix2 st2->1<=nn->lo+nn<=a₀.size->Up blt (λi=>k (lo+i)) ix2 nn->Pre ix2 nn->∃N':List Nat,N'.length=a₀.size/\RI blt k a₀ kd (λp=>N'.getD p 0) lo st2/\(∀st3,RI blt k a₀ kd (λp=>N'.getD p 0) lo st3->RI blt k a₀ kd (λp=>p) (lo+nn) (setPending st3 ((pendingOf st3).push (lo,nn,0)))):=by
   intro nn ix2 st2 b2 n1 n2 u2 p2;obtain⟨N',l',A',e1,e2,e3⟩:=z8s b2 NA.2 hl rle n2 u2 p2;refine⟨N',l',⟨b2.ki,b2.fa,rle,N',l',A',λp _ _=>rfl,?_⟩,λst3 r3=>?_⟩
   .rw[b2.pe];exact zdr 0.0 sg λp _ hp=>e1 p hp
   .obtain⟨N3,l3,A3,t3,g3⟩:=r3.ex;refine⟨r3.ki,r3.fa,n2,N3,l3,A3,λp p1 p2=>?_,?_⟩
    .rw[t3 p 0.0 p2];exact e3 p p1 p2
    .show Segs blt k N3 ((pendingOf st3).push (lo,nn,0)).toList 0 (lo+nn);rw[YF];refine segs_app.mpr ⟨lo,g3,rfl,n1,?_,rfl⟩;unfold SegOk;rw[zpz (N:=N') 0.0 λp p1 p2=>t3 p p1 0.0];exact e2
  have md:∀(T:Nat->Nat) (pw:Nat) (st3:Te),RI blt k a₀ kd T lo st3->RI blt k a₀ kd T lo (setPending st3 ((pendingOf st3).modify ((pendingOf st3).size-1) λx=>(x.1,x.2.1,pw))):=by
   intro T pw st3 r3;obtain⟨N3,l3,A3,t3,g3⟩:=r3.ex;refine⟨r3.ki,r3.fa,r3.le,N3,l3,A3,t3,?_⟩;rw[Array.toList_modify];exact zoq (λ_ _ _=>⟨rfl,rfl⟩) g3
  by_cases lt:m<minRun' a₀.size a₀.size 0
  .rw[NI lt];refine GL (M2 (Tr 3.2));generalize hnn:min (a₀.size-lo) (minRun' a₀.size a₀.size 0)=nn;have n1:1<=nn:=by lia
   have n2:lo+nn<=a₀.size:=by lia
   refine GL (z9o W hC n2 0.0 m1 b1 u1 p1 λix2 st2 b2 u2 p2=>?_);clear hnn lt;obtain⟨N',l',r2,push⟩:=fin nn ix2 st2 b2 n1 n2 u2 p2;clear fin;refine GL (Mf ?_)
   cases hb:(pendingOf st2).back? with
   | none=>
     exact GL (Tw (GO ⟨lo+nn,rfl,push _ r2,by lia⟩))
   | some e=>
     obtain⟨s1,l1,w1⟩:=e;dsimp only;generalize power' a₀.size (2 * s1+l1) (2 * s1+l1+l1+nn) a₀.size=pw;refine GL (To (GT (I:=λ_ c st3=>c=(none,())/\RI blt k a₀ kd (λp=>N'.getD p 0) lo st3) (Q:=λc st3=>c=(none,())/\RI blt k a₀ kd (λp=>N'.getD p 0) lo st3) ?_ (λ_ _ y=>y) ⟨rfl,r2⟩) ?_)
     .rintro y c st3 _ _ ⟨rfl,r3⟩;refine GL (Mf ?_)
      by_cases big:(pendingOf st3).size > 1
      .rw[NI big]
       cases hq:(pendingOf st3)[(pendingOf st3).size-2]? with
       | none=>exact GO ⟨rfl,r3⟩
       | some e=>
         obtain⟨e1,e2,older⟩:=e;dsimp only
         by_cases le:older<=pw
         .rw[NI le];exact GO ⟨rfl,r3⟩
         .rw[NJ le];refine GL (zot W hC r3 0.0 λst4 r4 _=>?_);exact GO ⟨rfl,r4⟩
      .rw[NJ big];exact GO ⟨rfl,r3⟩
     .rintro c st3 ⟨rfl,r3⟩;exact GL (Tw (GL (Tw (GO ⟨lo+nn,rfl,push _ (md _ pw _ r3),by lia⟩))))
  .rw[NJ lt];have n2:lo+m<=a₀.size:=by lia
   obtain⟨N',l',r2,push⟩:=fin m ix1 st1 b1 m1 n2 u1 p1;clear fin lt;generalize m=nn at *;generalize st1=st2 at *;refine GL (Mf ?_)
   cases hb:(pendingOf st2).back? with
   | none=>
     exact GL (Tw (GO ⟨lo+nn,rfl,push _ r2,by lia⟩))
   | some e=>
     obtain⟨s1,l1,w1⟩:=e;dsimp only;generalize power' a₀.size (2 * s1+l1) (2 * s1+l1+l1+nn) a₀.size=pw;refine GL (To (GT (I:=λ_ c st3=>c=(none,())/\RI blt k a₀ kd (λp=>N'.getD p 0) lo st3) (Q:=λc st3=>c=(none,())/\RI blt k a₀ kd (λp=>N'.getD p 0) lo st3) ?_ (λ_ _ y=>y) ⟨rfl,r2⟩) ?_)
     .rintro y c st3 _ _ ⟨rfl,r3⟩;refine GL (Mf ?_)
      by_cases big:(pendingOf st3).size > 1
      .rw[NI big]
       cases hq:(pendingOf st3)[(pendingOf st3).size-2]? with
       | none=>exact GO ⟨rfl,r3⟩
       | some e=>
         obtain⟨e1,e2,older⟩:=e;dsimp only
         by_cases le:older<=pw
         .rw[NI le];exact GO ⟨rfl,r3⟩
         .rw[NJ le];refine GL (zot W hC r3 0.0 λst4 r4 _=>?_);exact GO ⟨rfl,r4⟩
      .rw[NJ big];exact GO ⟨rfl,r3⟩
     .rintro c st3 ⟨rfl,r3⟩;exact GL (Tw (GL (Tw (GO ⟨lo+nn,rfl,push _ (md _ pw _ r3),by lia⟩))))
 case rest=>
  rintro c st' ⟨rfl,r⟩
  have pl:(pendingOf st').size<=a₀.size:=by
   obtain⟨N,hl,NA,_,sg⟩:=r.ex;have:=zg6 sg;rw[QH] at this;lia
  refine GL (To (GT (I:=λx c st2=>c=(none,())/\RI blt k a₀ kd (λp=>p) a₀.size st2/\(pendingOf st2).size+x<=a₀.size) (Q:=λc st2=>c=(none,())/\RI blt k a₀ kd (λp=>p) a₀.size st2/\(pendingOf st2).size<=1) ?_ ?_ ⟨rfl,r,pl⟩) ?_)
  .rintro x c st2 _ hx ⟨rfl,r2,z⟩;refine GL (Mf ?_)
   by_cases le:(pendingOf st2).size<=1
   .rw[NI le];exact GO ⟨rfl,r2,le⟩
   .rw[NJ le];refine GL (zot W hC r2 ?_ λst4 r4 q4=>?_)
    .by_cases c:(Option.any (λx=>decide (x<(pendingOf st2)[(pendingOf st2).size-2+1]?.elim 0 λx=>x.snd.fst)) (if(pendingOf st2).size-2 > 0 then U8 (λx=>x.snd.fst) (pendingOf st2)[(pendingOf st2).size-2-1]? else none))=true
     .rw[NI c];lia
     .rw[NJ c];lia
    .simp only[Y0,QT,NQ];exact GO ⟨rfl,r4,by lia⟩
  .rintro c st2 ⟨rfl,r2,z⟩;exact⟨rfl,r2,by lia⟩
  .rintro c st2 ⟨rfl,r2,z⟩;refine GO ?_;obtain⟨N,hl,NA,_,sg⟩:=r2.ex;rw[<- QH] at z;generalize (pendingOf st2).toList=l at sg z
   match l,sg,z with
   | [],sg,_=>exact absurd (show 0=a₀.size from sg) 0.0
   | [(_,n,_)],sg,_=>
     obtain⟨_,_,ok,e⟩:=sg;have e:0+n=a₀.size:=e;obtain rfl:n=a₀.size:=by lia
     have ee:(N.drop 0).take a₀.size=N:=by rw[JH,Zu 0.0]
     have pw:=ok.1;rw[ee] at pw
     have rk:∀i j,i<j->j<a₀.size->Rk blt k (N.getD i 0) (N.getD j 0):=λi j hij hj=>by
      have:=Zi.mp pw i j 0.0 0.0 hij;simpa[Zo,Qb (show i<N.length by lia),Qb (show j<N.length by lia)] using this
     have irr:∀a,¬Rk blt k a a:=λa h=>by
      rcases h with h|⟨_,h⟩
      .rw[W.irr] at h;cases h
      .lia
     have nd:N.Nodup:=UT (S:=λx y=>x≠y) (λ{x y} h (e:x=y)=>irr x (by rw[<- e] at h;exact h)) pw
     have gt:∀i,i<a₀.size->N[i]? = some (N.getD i 0):=λi hi=>by
      unfold Zo;rw[Qb 0.0];rfl
     have lt:∀i,i<a₀.size->N.getD i 0<a₀.size:=λi hi=>NA.2 _ (Qt (gt i hi));refine h (λi=>N.getD i 0) st2 (by rw[NA.size,hl]) (λi hi=>?_) ⟨lt,λi j hi hj e=>?_,λp hp=>?_⟩ r2.fa rk
     .obtain⟨x,e1,e2,_⟩:=NA.get (i:=i) 0.0;rw[e1,e2]
     .rcases UQ i j with t|t|t
      .exact absurd (rk i j t hj) (by rw[show N.getD i 0=N.getD j 0 from e];exact irr _)
      .exact t
      .exact absurd (rk j i t hi) (by rw[show N.getD i 0=N.getD j 0 from e];exact irr _)
     .by_cases mem:p∈N
      .obtain⟨i,hi,e⟩:=Yt mem;refine⟨i,by lia,?_⟩;unfold Zo;rw[Qb hi,e];rfl
      .have:=zwe (zs:=p::N) (ys:=Q3 a₀.size) (Zq.mpr ⟨mem,nd⟩) λz hz=>Q8.mpr (by
        rcases Qz.mp hz with rfl|hz
        .exact hp
        .exact NA.2 z hz)
       rw[Ql,QS,hl] at this;lia
end
section
variable {prog:GK}{w:GM}{A:GQ}{E:1.0}{s:GJ}
theorem zxp{α:Type}{blt:2.1}{k:5.7}{e ea:Nat}(hl:ks.length=vs.length)(h64:vs.length<=1000000)
 (hk:s.heap.get? kS=some (seqObj "list" ks.toArray e)) (ha:s.heap.get? a=some (seqObj "list" #[] ea)) (hne:kS≠a) (K:KeysOk prog w A s ks vs blt k)
 (h:∀ix,Ord blt k vs.length ix->P (.done (.ret .none)) { s with heap:=(s.heap.update kS (QJ λ_=>#[])).update a (QJ λ_=>(zbz vs ix).toArray) }) :
 wpAny 1.3 A (ksk_end a false vs.toArray ea (.ref kS) ks.toArray) P E s:=by
 have hz:(ks.toArray.zip vs.toArray).size=vs.length:=by simp[hl]
 have ha2:(s.heap.update kS (QJ λ_=>#[])).get? a=some (seqObj "list" #[] ea):=by
  have:=Mg hk (λ_=>#[]);rw[ZN _ _ _ _ (Z8 hne)];exact ha
 have fin:∀(st':Te) ix,(arrOf st').size=vs.length->(∀i,i<vs.length->(arrOf st')[i]? = (ks.toArray.zip vs.toArray)[ix i]?)->Tu st'=none->Ord blt k vs.length ix ->
  wpAny 1.3 A (ksk_tail a false ea (.ref kS) st') P E s:=λst' ix z1 z2 z3 o=>by
  have ep:=zqd hl o.bj z1 z2;unfold ksk_tail;dsimp only;refine GF (TY hk rfl ?_ (by rw[GP];simp;lia));refine GF (wpAny_letGo ?_);refine GF (Na ha2 rfl ?_)
  refine GF (TY ha2 rfl ?_ (hsz2:=by
   rw[GP];simp only[QT,NQ];rw[ep];simp[zbz]
   lia))
  rw[z3];simp only[bne_self_eq_false,QT,NQ];rw[ep];exact GI (h ix o)
 unfold ksk_end;dsimp only;simp only[QT,NQ]
 by_cases h2:vs.toArray.size<2
 .rw[NI h2,NI h2];refine GF (GI ?_);rw[Gu];refine GF (GI ?_);have h2':vs.length<2:=by simpa using h2
  refine fin _ (λi=>i) hz (λi _=>rfl) rfl ⟨Bij.idf,λi j z1 z2=>by lia⟩
 .rw[NJ h2,NJ h2];have h2':2<=vs.length:=by simpa using h2
  obtain⟨kd,kk,cm⟩:=K.kd h2';refine GF (kk _ _ ?_)
  refine GF (Ta (znn (kd:=kd) (st:=G1 kd (ks.toArray.zip vs.toArray) #[] 7 none) (Q:=λ_ st'=>∃ix,(arrOf st').size=vs.length/\(∀i,i<vs.length->(arrOf st')[i]? = (ks.toArray.zip vs.toArray)[ix i]?)/\Tu st'=none/\Ord blt k vs.length ix)
   K.wo cm ⟨rfl,λi _=>rfl,Bij.idf,rfl,rfl,rfl⟩ 0.0 λix st' z1 z2 z3 z4 z5=>?_) ?_ λ_ _ e=>e)
  .rw[hz] at z1 z2 z3 z5;exact⟨ix,z1,z2,z4,z3,z5⟩
  .rintro⟨⟨⟩,st'⟩ s' ⟨rfl,ix,z1,z2,z3,z4⟩;exact fin st' ix z1 z2 z3 z4
theorem zw7{ea:Nat}(J:Nat->List GH->GJ->Prop)(h64:vs.length<=1000000)(h0:J 0 [] s)
 (step:∀(i:Nat) (x:GH) (ks:2.8) (s':GJ),vs[i]? = some x->ks.length=i->J i ks s'->wpAny 1.3 A (call f [x]) (λkv s2=>(∃e,s2.heap.get? kS=some (seqObj "list" ks.toArray e))/\J (i+1) (ks ++ [kv]) { s2 with heap:=s2.heap.update kS (QJ (·.push kv)) }) (λ_ _=>False) s')
 (fin:∀(ks:2.8) (s':GJ),ks.length=vs.length->J vs.length ks s'->∃(α:Type) (blt:2.1) (k:5.7) (e:Nat),s'.heap.get? kS=some (seqObj "list" ks.toArray e)/\s'.heap.get? a=some (seqObj "list" #[] ea)/\kS≠a/\KeysOk prog w A s' ks vs blt k /\
  ∀ix,Ord blt k vs.length ix->P (.done (.ret .none)) { s' with heap:=(s'.heap.update kS (QJ λ_=>#[])).update a (QJ λ_=>(zbz vs ix).toArray) }) :
 wpAny 1.3 A (ksk_rest a f false vs.toArray ea (.ref kS)) P E s:=by
 unfold ksk_rest;refine GF (Tr ?_);refine GF ?_;rw[<- JS];refine ksk_fold (λi s'=>∃ks,ks.length=i/\J i ks s') vs 0 s ⟨[],rfl,h0⟩ (λj x s' hx zz=>?_) λs' zz=>?_
 .obtain⟨ks,hk,hJ⟩:=zz;rw[Yo] at hk hJ ⊢;have hj:j<vs.length:=(Qn.mp hx).1;refine GF (Mq (Ta (step j x ks s' hx hk hJ) (λkv s2 ⟨⟨e,h1⟩,h2⟩=>?_) λ_ _ z=>z.elim));dsimp only;refine GF (TY h1 rfl ?_ (by rw[GP];simp;lia) (by rw[GP];simp;lia));exact GI ⟨rfl,ks ++ [kv],by simp[hk],h2⟩
 .obtain⟨ks,hk,hJ⟩:=zz;rw[Yo] at hk hJ;obtain⟨α,blt,k,e,h1,h2,h3,h4,h5⟩:=fin ks s' hk hJ;refine GF (MM h1 rfl ?_);exact zxp hk h64 h1 h2 h3 h4 h5
end
end L6
namespace HK
open PySem PySem.Spec PyProof.Rows SX TB L6
section
variable {prog:GK}{w:GM}{A:GQ}{E:1.0}{s:GJ}
theorem ziu{α:Type}{blt:2.1}{k:5.7}{n:Nat}(ho:s.heap.get? a=some (seqObj "list" vs.toArray n))(h64:vs.length<=1000000)(K:KeysOk prog w A { s with heap:=zhb s.heap a vs } vs vs blt k)
 (h:∀ix,Ord blt k vs.length ix->P (.done (.ret .none)) { s with heap:=Nm s.heap a vs (zbz vs ix).toArray }):wpAny 1.3 A (Builtin.«list.sort» ⟨[.ref a],[]⟩) P E s:=by
 rw[list_sort_plain];have ha:a<s.heap.objs.size:=Qv ho;refine GF (MM ho rfl ?_);refine GF (TY ho rfl ?_);obtain⟨e1,ho1⟩:∃e1,(s.heap.update a (QJ λ_=>#[])).get? a=some (seqObj "list" #[] e1):=⟨_,Mg ho (λ_=>#[])⟩;refine GF (Na ho1 rfl ?_);refine GF (Nf ?_);refine GF (Mr ?_);refine GW ?_
 have ho6:(zhb s.heap a vs).get? a=some (seqObj "list" #[] e1):=by
  rw[YJ _ _ _ (by rw[Mm,JN];exact Q0 (QW ha)),YJ _ _ _ (by rw[JN];exact Q0 ha)];exact ho1
 show wpAny 1.3 A _ P E { s with heap:=zhb s.heap a vs };dsimp only;have hz:(vs.toArray.zip vs.toArray).size=vs.length:=by simp
 have fin:∀(st':Te) ix,(arrOf st').size=vs.length->(∀i,i<vs.length->(arrOf st')[i]? = (vs.toArray.zip vs.toArray)[ix i]?)->Tu st'=none->Ord blt k vs.length ix ->
  wpAny 1.3 A (do
   let touched:=(<- seqEpoch a) != e1
   VI 3.1 λ_=>(arrOf st').map (·.2)
   if let some e:=Tu st' then rule "list.sort.comparison-raised";throw e
   if touched then rule "list.sort.modified";raiseError "ValueError" "list modified during sort"
   ret .none) P E { s with heap:=zhb s.heap a vs }:=λst' ix z1 z2 z3 o=>by
  have ep:=zqd rfl o.bj z1 z2;refine GF (Na ho6 rfl ?_)
  refine GF (TY ho6 rfl ?_ (hsz2:=by
   rw[GP,ep];simp[zbz]
   lia))
  rw[z3];simp only[bne_self_eq_false,QT,NQ];rw[ep];exact GI (h ix o)
 by_cases h2:vs.toArray.size<2
 .rw[NI h2,NI h2];refine GF (GI ?_);rw[Gu];refine GF (GI ?_);have h2':vs.length<2:=by simpa using h2
  exact fin (G1 general' (vs.toArray.zip vs.toArray) #[] 7 none) (λi=>i) hz (λi _=>rfl) rfl ⟨Bij.idf,λi j z1 z2=>by lia⟩
 .rw[NJ h2,NJ h2];have h2':2<=vs.length:=by simpa using h2
  obtain⟨kd,kk,cm⟩:=K.kd h2';refine GF (kk _ _ ?_)
  refine GF (Ta (znn (kd:=kd) (st:=G1 kd (vs.toArray.zip vs.toArray) #[] 7 none) (Q:=λ_ st'=>∃ix,(arrOf st').size=vs.length/\(∀i,i<vs.length->(arrOf st')[i]? = (vs.toArray.zip vs.toArray)[ix i]?)/\Tu st'=none/\Ord blt k vs.length ix)
   K.wo cm ⟨rfl,λi _=>rfl,Bij.idf,rfl,rfl,rfl⟩ 0.0 λix st' z1 z2 z3 z4 z5=>?_) ?_ λ_ _ e=>e)
  .rw[hz] at z1 z2 z3 z5;exact⟨ix,z1,z2,z4,z3,z5⟩
  .rintro⟨⟨⟩,st'⟩ s' ⟨rfl,ix,z1,z2,z3,z4⟩;exact fin st' ix z1 z2 z3 z4
end
end HK
namespace L6
open PySem PySem.Spec PyProof.Rows
theorem Ord.perm{α β:Type}{blt:2.1}{k:5.7}{n:Nat}{ix:Nat->Nat}(o:Ord blt k n ix){d:β}{l:List β}(hl:l.length=n):((Q3 n).map λi=>l.getD (ix i) d).Perm l:=by
 have p:((Q3 n).map ix).Perm (Q3 n):=by
  refine(V0 ?_ YS).mpr λx=>?_
  .refine Zi.mpr λi j h1 h2 hij e=>?_;simp only[Gm,ZV] at e;simp only[Qc,QS] at h1 h2;have:=o.bj.inj i j h1 h2 e;lia
  .rw[Qo,Q8];constructor
   .rintro⟨i,hi,rfl⟩;exact o.bj.lt i (Q8.mp hi)
   .intro hx;obtain⟨i,hi,e⟩:=o.bj.sur x hx;exact⟨i,Q8.mpr hi,e⟩
 have q:=p.map λi=>l.getD i d;rw[QY] at q
 have e:((Q3 n).map λi=>l.getD i d)=l:=by
  refine VG (by simp[hl]) λi h1 h2=>?_;simp[Zo,Qb h2]
 rw[e] at q;exact q
theorem zlx:∀{r:2.4} {p:Str},(p::r).Pairwise (λx y=>¬y.cps.toList<x.cps.toList)->risingS p r=true
 | [],p,_=>rfl
 | x::r,p,h=>by
   have c:=Z1.mp h
   have:ltCps x.cps.toList p.cps.toList=false:=by
    cases e:ltCps x.cps.toList p.cps.toList with
    | false=>rfl
    | true=>rw[ltCps_eq] at e;exact absurd (NL e) (c.1 x 0.1)
   show(!ltCps x.cps.toList p.cps.toList && risingS x r)=true;rw[this,zlx c.2];rfl
theorem zup(h:l.Pairwise λx y=>¬y.cps.toList<x.cps.toList):MP l=true:=by
 cases l with
 | nil=>rfl
 | cons x r=>exact zlx h
end L6
namespace HK
open PySem PySem.Spec PyProof.Rows SX TB L6
section
variable {prog:GK}{w:GM}{A:GQ}{E:1.0}{s:GJ}
theorem sort_strA{n:Nat}(ho:s.heap.get? a=some (seqObj "list" vs.toArray n))(hS:MI vs ss)(h64:vs.length<=1000000)
 (h:∀(out:Array GH) (zs:2.4),MI out.toList zs->zs.Perm ss->MP zs=true->P (.done (.ret .none)) { s with heap:=Nm s.heap a vs out }):wpAny 1.3 A (Builtin.«list.sort» ⟨[.ref a],[]⟩) P E s:=by
 have ln:=StrsAre.length hS;refine ziu ho h64 (zn0 (xs:=ss) rfl λi v hv=>?_) λix o=>?_
 .obtain⟨y,t,rfl,hy⟩:=hS.item i v hv;exact⟨t,by rw[Qw,hy];rfl⟩
 .refine h _ ((Q3 vs.length).map λi=>ss.getD (ix i) ZH) ?_ (o.perm ln.symm) (zup ?_)
  .have go:∀l:List Nat,(∀i∈l,i<vs.length)->MI (l.map λi=>vs.getD (ix i) .none) (l.map λi=>ss.getD (ix i) ZH):=by
    intro l
    induction l with
    | nil=>intro _;exact .nil
    | cons i l ih=>
      intro hl;have hx:=o.bj.lt i (hl i 0.1);obtain⟨t,ht⟩:=hS.get (ix i) (ss[ix i]' 0.0) (Qb 0.0);rw[QB,QB,Qw,Qw,ht,Qb (show ix i<ss.length by lia)];exact .cons _ t (ih λj hj=>hl j (by simp[hj]))
   exact go _ λi hi=>Q8.mp hi
  .refine Zi.mpr λi j h1 h2 hij=>?_;simp only[Qc,QS] at h1 h2;simp only[Gm,ZV];rcases o.up i j hij h2 with z|⟨z,_⟩
   .exact λz'=>absurd (Vc (NL z) z') (JJ _)
   .exact of_decide_eq_false z
end
end HK
namespace SX
open PySem PySem.Spec PyProof.Rows
section
variable {P:GK}{w:GM}{A:GQ}{E:1.0}{s:GJ}{it S:Addr}{es:Es}{ep:Nat}{t:GY}
theorem zpv(hh:A.handled=none)(T:Tx P w s.heap S es ep t)(h64:es.size<=1000000)
 (k:∀(h':Heap) (d':Drawn) (tk:Nat) (out:Array GH) (c:Nat) (zs:2.4) (l:Addr),Ext s.heap h'->s.heap.objs.size<=l->h'.get? l=some (seqObj "list" out c)->MI out.toList zs->zs.Perm (keys es)->MP zs=true->Q (.ref l) { s with heap:=h',drawn:=d',toks:=tk }) :
 wpAny 1.5 A (call (.builtin "sorted") [.ref S]) Q E s:=by
 refine V7 N6 Nu Nt (args_sorted1 _) ?_;unfold Builtin.«sorted»;refine GF (m:=checkCount "sorted" 1 1 _) (GI ?_);refine GF (zhu (by simpa using hh) T.toSx λh' d' tk vs ex hp hl=>?_);have v64:vs.length<=1000000:=by rw[hp.length_eq];simpa using h64
 refine GF (Mr ?_ (by rw[GP];lia))
 have hS:MI vs (vs.map strOf):=zq0 λv z=>by
  obtain⟨e,he,rfl⟩:=Qo.mp (hp.mem_iff.mp z);obtain⟨⟨x,hx,_⟩,_⟩:=T.el e he;obtain⟨u,hu⟩:=Vm hx;exact⟨x,u,hu⟩
 have eL:(h'.push 3.6).get? h'.objs.size=some 3.6:=Qs _ rfl;refine GF (GW (GV Nd ⟨_,eL,rfl⟩ MT (HK.sort_strA (s:={ s with heap:=h'.push 3.6,drawn:=d',toks:=tk }) eL hS v64 λout zs z1 z2 z3=>⟨_,rfl,?_⟩) (args_list_sort _)));obtain⟨c,ec⟩:=sortedHeap_at (out:=out) eL;refine GI ⟨_,rfl,k _ d' tk _ c zs h'.objs.size (λb o e=>?_) (Jt hl) ec z1 ?_ z3⟩
 .have eb:=ex b o e;have nb:b≠h'.objs.size:=Q0 (Qv eb);show(Nm (h'.push 3.6) h'.objs.size vs _).get? b=_;rw[sortedHeap_old nb (by rw[Mm];exact QW (Qv eb))];exact Qf _ eb
 .refine z2.trans ?_;have:=hp.map strOf;rw[QY] at this;exact this
end
end SX
namespace L3
open PySem PySem.Spec
open PyProof.Rows hiding St
open L2 L6
open SX
def tSSA(K:Qa)(te:TE):TE:=λσ H Q=>te σ H λv H1=>∃ys:List Str,TxsV K H1 v ys/\ys.length<=4090/\∀(zs:2.4) p,zs.Nodup->(∀k,k∈zs↔k∈ys)->MP zs=true->H1 p=none->Q (.ref p) (upd H1 p (.lst (zs.map V.str)))
theorem zpn(hc:X.calm=true)(gl:Gl X "sorted")(ml:X.mg "sorted" = none)(gr:Gl X "set")(mr:X.mg "set" = none)(he:PE X e te)
 (s1:GN [.Call (.Name "set" p2) [e] [] p3] X.env=(false,eval (.Call (.Name "set" p2) [e] [] p3) X.env)::GN [] X.env:=by rfl) (s2:GN [e] X.env=(false,eval e X.env)::GN [] X.env:=by rfl) :
 PE X (.Call (.Name "sorted" p1) [.Call (.Name "set" p2) [e] [] p3] [] p4) (tSSA X.K te):=by
 intro pins s σ H Q I h;have calm:=I.ok.hd hc;refine GU (zcf I gl ml zes ?_);refine JG ?_ s1;rw[s1];show wpAny _ _ (M6 ((false,eval (.Call (.Name "set" p2) [e] [] p3) X.env) :: [])) _ _ s;refine ZU ?_;refine GU (zcf I gr mr (u:=.type "set") rfl ?_);refine Z9 ?_ s2;rw[s2];show wpAny _ _ (M6 ((false,eval e X.env) :: [])) _ _ s;refine ZU (thn (he pins s σ H _ I h) λu s' zz=>?_);obtain⟨y,H1,I1,r1,ys,hy,hz,q⟩:=zz;refine Ji ?_
 have fin:∀(n:Nat) (val:Nat->Str) (h':Heap) (tk:Nat) (es:Es) (ep:Nat) (t:GY),(∀k,(∃j,j<n/\val j=k)↔k∈ys)->Tx X.prog X.w h' s'.heap.objs.size es ep t->(∀x,x∈keys es↔∃j,j<n/\val j=x)->Ext s'.heap h' ->
  wpAny 0.8 X.A (M6 []) (λa s₁=>wpAny 0.8 X.A (call (.builtin "sorted") (QQ s'.heap.objs.size::a)) (EP X pins σ Q) X.xe s₁) X.xe { s' with heap:=h',toks:=tk }:=λn val h' tk es ep t hv T hk ex=>by
  have mem:∀k,k∈keys es↔k∈ys:=λk=>(hk k).trans (hv k)
  have z64:es.size<=1000000:=by
   have:=ztn T.nd (λk hk=>(mem k).mp hk);simp[keys] at this;lia
  refine Ji ?_;refine zpv (s:={ s' with heap:=h',toks:=tk }) calm T z64 λh2 d2 tk2 out c zs l ex2 hl el st zp zs'=>?_;have lt':s'.heap.objs.size<=l:=Q1 (Jt (T.lts (s:={ s' with heap:=h',toks:=tk }))) hl;have I2:=(Inv.draw (I1.laid (a:=l) (o:=.lst (zs.map V.str)) (t':=tk2) (h':=h2) (λb o e=>ex2 b o (ex b o e)) lt' ?_) d2)
  .exact⟨.ref l,_,I2,rfl,q zs l (zp.nodup_iff.mpr T.nd) (λk=>by rw[zp.mem_iff];exact mem k) zs' (I1.hok.fresh lt')⟩
  .refine⟨?_,out.toList,c,zdz st,by simpa using el⟩;rw[Qc,zp.length_eq];simp only[keys,Qc,QH];exact Mb T.lt
 rcases hy with ⟨x,rfl,rfl⟩|⟨a,rfl,hq⟩
 .obtain⟨tk,rfl⟩:=r1;have hn:x.cps.size<=4090:=by simpa using hz
  refine zle (T := "str") (val:=λi=>sg (x.cps.getD i 0)) calm (λ_ _=>rfl) ?_ ?_ 0.2 (z8e x tk) (λi v hv=>?_) (by unfold scanBound;lia) λh' tk' es ep t T hk ex=>fin x.cps.size _ h' tk' es ep t (λk=>?_) T hk ex
  .rw[Md];kernel_rfl
  .rw[Md];kernel_rfl
  .obtain⟨c,u,hc,rfl⟩:=hv;exact⟨u,by rw[Jf,hc];rfl⟩
  .constructor
   .rintro⟨j,hj,rfl⟩;exact Qo.mpr ⟨x.cps[j],by simp,by simp[hj]⟩
   .intro hk;obtain⟨c,hc,rfl⟩:=Qo.mp hk;obtain⟨j,hj,e⟩:=Yt hc;have hj':j<x.cps.size:=by simpa using hj
    exact⟨j,hj',by simp at e;simp[hj',e]⟩
 .cases r1;obtain⟨its,rv,pl,hz2⟩:=I1.list hq;have sa:=zf9 rv;have ln:its.length=ys.length:=by have:=rv.length;simp at this;exact this.symm
  refine zle (T := "list") (val:=λi=>ys.getD i (sg 0)) calm (λs₁ ex=>?_) F.sub_list_set F.sub_list_frozenset 0.2 (zug pl.isList) (λi v hv=>?_) (by unfold scanBound;simp;lia) λh' tk' es ep t T hk ex=>fin _ _ h' tk' es ep t (λk=>?_) T hk ex
  .obtain⟨o,e,c,_⟩:=pl.isList;exact⟨o,ex _ o e,c⟩
  .have hv':its[i]? = some v:=by simpa using hv
   have hi:i<ys.length:=by
    obtain⟨z,_⟩:=Qn.mp hv';lia
   obtain⟨u,hu,ru⟩:=rv.get (i:=i) (x:=V.str ys[i]) (by rw[Qh,Qb hi];rfl);rw[hv'] at hu;cases hu;obtain⟨u,rfl⟩:=ru;exact⟨u,by rw[Qw,Qb hi];rfl⟩
  .have e:its.toArray.size=ys.length:=by simpa using ln
   rw[e];constructor
   .rintro⟨j,hj,rfl⟩;rw[Qw,Qb hj];exact Ze hj
   .intro hk;obtain⟨j,hj,e⟩:=Yt hk;exact⟨j,hj,by rw[Qw,Qb hj];exact e⟩
def ssDA(f:DE):DE:=λρ Q=>f ρ λr=>∃ys:List Str,TxsD r.d ys/\ys.length<=4090/\∀zs:List Str,zs.Nodup->(∀k,k∈zs↔k∈ys)->MP zs=true->Q (.n (zs.map .str))
theorem z5p{K:Qa}{O:Ob}{te:TE}{f:DE}(h:ED K O te f):ED K O (tSSA K te) (ssDA f):=λσ H ρ Q Qd S hf k=>by
 refine h σ H ρ _ _ S hf λv H1 r s1 o1 zz=>?_;obtain⟨ys,hy,hl,q⟩:=zz;have i:=o1.is S.ok S.p;have ok:=S.ok;have p1:=s1.p S.p;refine⟨ys,?_,hl,λzs p h1 h2 h3 hn=>?_⟩
 .rcases hy with ⟨x,e,rfl⟩|e
  .rw[e] at i;cases i;exact .inl ⟨x,rfl,rfl⟩
  .rw[e] at i
   cases i with
   | list f1 a1 b1=>
     rw[zf6 b1] at a1;exact .inr ⟨_,rfl,.of a1⟩
 .obtain⟨a1,a2⟩:=zee (K:=K) ok hn (zi2 zs);exact k _ _ _ (s1.trans a1) (a2.ahead ok S.p s1) (q zs h1 h2 h3)
theorem zsq{ι κ:Type}{P:GK}{w:GM}{K:Qa}{mg:0.4}{base:Heap}{k:Nat}{X:ι->Cx}{O:κ->Ob}{a:Expr}{fa:DE}{p1 p2 p3 p4:Pos}(C:0.6)(B:Blt mg)(ha:2.2)(g1:∀i,Gl (X i) "sorted" := by intro i;rfl)(g2:∀i,Gl (X i) "set" := by intro i;rfl)
 (s1:∀i,GN [.Call (.Name "set" p2) [a] [] p3] (X i).env=(false,eval (.Call (.Name "set" p2) [a] [] p3) (X i).env)::GN [] (X i).env:=by intro i;rfl) (s2:∀i,GN [a] (X i).env=4.3::GN [] (X i).env:=by intro i;rfl) :
 E3 K X O (.Call (.Name "sorted" p1) [.Call (.Name "set" p2) [a] [] p3] [] p4) (ssDA fa) :=
 let ⟨_,q,d⟩:=ha
 ⟨tSSA K _,λi=>by
  have h:=zpn (X:=X i) (p1:=p1) (p2:=p2) (p3:=p3) (p4:=p4) (C.calm i) (g1 i) (by rw[C.hmg];exact B.sorted) (g2 i) (by rw[C.hmg];exact B.set) (q i) (s1 i) (s2 i);rw[C.hK] at h
  exact h,λj=>z5p (d j)⟩
theorem zqy{β:Type}{l:List β}{i:Nat}{x:β}(h:l[i]? = some x):l.take (i+1)=l.take i ++ [x]:=by rw[Jl,h];rfl
theorem sl_tup(xs:2.3)(lo hi:Option Int):slcF lo hi (.tuple xs)=some (.o (.tuple (cutL xs lo hi))):=rfl
theorem zlc(h:a.length+b.length<=16777216):addF (.tuple a) (.tuple b)=some (.o (.tuple (a++b))):=by
 show(if a.length+b.length<=sizeLine then some (R.o (.tuple (a++b))) else none)=_;rw[NI (by rw[GP];exact h)]
mutual
def solL:GG->Bool
 | .none=>true
 | .int _=>true
 | .str _=>true
 | .tuple ds=>zci ds
 | .list ds=>zci ds
 | _=>false
def zci:List GG->Bool
 | []=>true
 | d::ds=>solL d && zci ds
end
mutual
theorem zfu:∀d e:GG,solL d=true->solL e=true->(QC d e=true↔d=e)
 | .none,e,_,h=>by cases e <;> simp[QC,solL] at *
 | .int i,e,_,h=>by cases e <;> simp[QC,solL] at *
 | .str x,e,_,h=>by cases e <;> simp[QC,solL] at *
 | .tuple ds,e,h0,h=>by
   cases e with
   | tuple es=>
     have:=zg2 ds es (by simpa[solL] using h0) (by simpa[solL] using h);simp only[QC];rw[this];exact⟨λz=>by rw[z],λz=>by cases z;rfl⟩
   | none=>simp[QC]
   | int _=>simp[QC]
   | str _=>simp[QC]
   | bool _=>simp[solL] at h
   | list _=>simp[QC]
   | dict _=>simp[solL] at h
 | .list ds,e,h0,h=>by
   cases e with
   | list es=>
     have:=zg2 ds es (by simpa[solL] using h0) (by simpa[solL] using h);simp only[QC];rw[this];exact⟨λz=>by rw[z],λz=>by cases z;rfl⟩
   | none=>simp[QC]
   | int _=>simp[QC]
   | str _=>simp[QC]
   | bool _=>simp[solL] at h
   | tuple _=>simp[QC]
   | dict _=>simp[solL] at h
 | .bool _,_,h,_=>by simp[solL] at h
 | .dict _,_,h,_=>by simp[solL] at h
theorem zg2:∀ds es:List GG,zci ds=true->zci es=true->(Jv ds es=true↔ds=es)
 | [],[],_,_=>by simp[Jv]
 | [],_::_,_,_=>by simp[Jv]
 | _::_,[],_,_=>by simp[Jv]
 | d::ds,e::es,h,h'=>by
   simp only[zci,Q9] at h h';simp only[Jv,Q9];rw[zfu d e h.1 h'.1,zg2 ds es h.2 h'.2];simp
end
structure Sl(n:Nat)(d:GG):Prop where
 lay:d.canLay0=true
 dep:d.depth<=n
 sol:solL d=true
theorem z5s(h:JR x=true):Sl 0 (.str x):=⟨h,Qg _,rfl⟩
theorem zlf{α:Type}{f:α->GG}:∀{l:4.2},(∀a∈l,solL (f a)=true)->zci (l.map f)=true
 | [],_=>rfl
 | a::l,h=>by rw[QB,zci,h a Qp,zlf λx hx=>h x (Qe _ hx)];rfl
theorem z8q{α:Type}{f:α->GG}{l:4.2}{n:Nat}(h:∀a∈l,Sl n (f a)):Sl (n+1) (.tuple (l.map f)):=by
 refine⟨zdi λa ha=>(h a ha).lay,?_,?_⟩
 .rw[QU];have:=zd8 (f:=f) (n:=n) (l:=l) λa ha=>(h a ha).dep;lia
 .rw[solL];exact zlf λa ha=>(h a ha).sol
theorem z6c(n:Nat):Sl (n+1) (.tuple []):=⟨rfl,by simp[QU,Zb],rfl⟩
theorem zrd{n:Nat}{d:GG}(h:Sl n d)(h':Sl (n+1) (.tuple ds)):Sl (n+1) (.tuple (d::ds)):=by
 obtain⟨a1,a2,a3⟩:=h;obtain⟨b1,b2,b3⟩:=h';simp only[ZR,QU,solL] at b1 b2 b3;refine⟨?_,?_,?_⟩
 .simp only[ZR,Qy,a1,b1];rfl
 .simp only[QU,Zb];lia
 .simp only[solL,zci,a3,b3];rfl
theorem Sl.okD{n:Nat}{d:GG}(h:Sl n d)(hn:n<=60:=by decide):L3.okD d=true:=by
 unfold L3.okD;rw[h.lay];have:=h.dep;simp;lia
theorem z9c{n n':Nat}{neg:Bool}{d:GG}(h:Sl n d)(h':Sl n' e)(hn:n<=60:=by decide){q:Bool}(hq:q=true↔d=e):eqF neg d e=some (.o (.bool (if neg then !q else q))):=by
 unfold eqF;rw[NI (by rw[h.okD hn,h'.lay];rfl)]
 have e1:QC d e=q:=by
  have:=(zfu d e h.sol h'.sol).trans hq.symm;cases h1:QC d e <;> cases q <;> simp_all
 rw[e1]
theorem zl8:∀{l:2.3},zci l=true->∀y∈l,solL y=true
 | [],_,y,hy=>(ZJ hy).elim
 | a::l,hl,y,hy=>by
   simp only[zci,Q9] at hl;rcases Qz.mp hy with z|z
   .rw[z];exact hl.1
   .exact zl8 hl.2 y z
theorem z5f{n:Nat}{d:GG}(h:Sl n d)(hs:zci es=true){q:Bool}(hq:q=true↔d∈es):(es.any λy=>QC y d)=q:=by
 have:(es.any λy=>QC y d)=true↔q=true:=by
  rw[hq,Z5];constructor
  .rintro⟨y,hy,e⟩;rw[<- (zfu y d (zl8 hs y hy) h.sol).mp e];exact hy
  .intro hd;exact⟨d,hd,(zfu d d h.sol h.sol).mpr rfl⟩
 exact ZE.mpr this
theorem z7k{n n':Nat}{neg:Bool}{d:GG}(h:Sl n d)(h':Sl n' (.tuple es))(hn:n<=60:=by decide){q:Bool}(hq:q=true↔d∈es):inF neg d (.tuple es)=some (.o (.bool (if neg then !q else q))):=by
 have e1:=z5f h (by simpa[solL] using h'.sol) hq;have l1:Qy es=true:=by simpa[ZR] using h'.lay
 have e2:inF neg d (.tuple es)=if(L3.okD d && Qy es)=true then some (.o (.bool (if neg then !es.any (λy=>QC y d) else es.any λy=>QC y d))) else none:=by
  cases d <;> rfl
 rw[e2,NI (by rw[h.okD hn,l1];rfl),e1]
theorem zpg{α:Type}{f:α->GG}(xs:4.2)(c:Nat):slcF none (some (c:Int)) (.tuple (xs.map f))=some (.o (.tuple ((xs.take c).map f))):=by
 rw[sl_tup,zw8,Va]
theorem z5t{zs:2.4}{v:0.7}(h:∀k∈zs,k∈v.map sg):∃z:List Nat,zs=z.map sg/\∀c∈z,c∈v:=by
 induction zs with
 | nil=>exact⟨[],rfl,by simp⟩
 | cons k zs ih=>
   obtain⟨c,hc,rfl⟩:=Qo.mp (h k 0.1);obtain⟨z,rfl,hz⟩:=ih λk hk=>h k (Qe _ hk)
   exact⟨c::z,rfl,λd hd=>by
    rcases Qz.mp hd with rfl|hd
    .exact hc
    .exact hz d hd⟩
theorem z5z{v:0.7}{zs:2.4}(hn:zs.Nodup)(hm:∀k,k∈zs↔k∈v.map sg)(hs:MP zs=true):∃z:List Nat,zs=z.map sg/\z.Nodup/\(∀c,c∈z↔c∈v)/\z.Pairwise (· < ·):=by
 obtain⟨z,rfl,hz⟩:=z5t λk hk=>(hm k).mp hk;have nd:z.Nodup:=List.Pairwise.of_map sg (λa b h e=>h (by rw[e])) hn
 exact⟨z,rfl,nd,λc=>⟨hz c,λhc=>by
  obtain⟨d,hd,e⟩:=Qo.mp ((hm (sg c)).mpr (Qo.mpr ⟨c,hc,rfl⟩));rw[<- zu1 e]
  exact hd⟩,zjt hs nd⟩
def zam(l:3.5)(w:0.7):Bool:=l.any λv=>under v w
def zz6(T:Thg)(g:DGA):DGA:=λρ Q=>g ρ λrs=>Q (.thr T::rs)
section
variable {K:Qa}{O:Ob}{mg:0.4}
theorem z5h{base:Heap}{k_ n:Nat}(c:Calls P w K mg base k_ f [] [] n (sp K))(h':AG K O u g):AG K O (zar (tC (.ref f)) u) (zz6 (zf4 P w mg base k_ n sp []) g):=λσ H ρ Q Qd S hf k=>by
 refine h' σ H ρ _ _ S hf λvs H2 rs s2 o2 q2=>?_;exact k (.ref f::vs) H2 (.thr (zf4 P w mg base k_ n sp [])::rs) s2 ⟨.inr (.inr (.inr ⟨_,rfl,λ_=>False,λa z=>z.elim,f,[],[],rfl,λp hp=>(nomatch hp),λp hp=>(nomatch hp),.nil,c⟩)),o2⟩ q2
end
section
variable {ι κ:Type}{P:GK}{w:GM}{K:Qa}{mg:0.4}{base:Heap}{k:Nat}{X:ι->Cx}{O:κ->Ob}{a tg:Expr}{fa:DE}
def z0k(f:DE):DI:=λρ Q=>srcL f ρ Q\/srcT f ρ Q
theorem i_lt(C:0.6)(ha:2.2):I3 K X O tg a (z0k fa):=by
 obtain⟨t,p,d⟩:=ze2 (tg:=tg) C ha;obtain⟨t',p',d'⟩:=zho (tg:=tg) C ha;refine⟨λσ H R=>t σ H R\/t' σ H R,λi pins s σ H R I h=>?_,λj σ H ρ R Qd S q k=>?_⟩
 .rcases h with h|h
  .exact p i pins s σ H R I h
  .exact p' i pins s σ H R I h
 .rcases q with q|q
  .exact .inl (d j σ H ρ R Qd S q k)
  .exact .inr (d' j σ H ρ R Qd S q k)
def ltJ(n:Nat):DJ:=λρ Q=>varJ n ρ Q\/newJ (srcT (vD n)) ρ Q
theorem j_lt(C:0.6)(n:Nat)(hN:1.8:=by intro i;rfl)(hv:2.6:=by intro i;first|exact Or.inl rfl|exact Or.inr 4.5|exact Or.inr 4.4)(hd:1.1:=by decide)(hcd:2.0:=by decide):
 J3 K X O tg (.Name x pos) (ltJ n):=by
 obtain⟨t,p,d⟩:=zrr (O:=O) (tg:=tg) (pos:=pos) C n hN hv hd hcd;obtain⟨t',p',d'⟩:=zek (zho (tg:=tg) C (zaa (O:=O) (pos:=pos) n hN hv hd hcd));refine⟨λσ H R=>t σ H R\/t' σ H R,λi pins s σ H R I h=>?_,λj H₀ A σ H ρ R Qd r q k=>?_⟩
 .rcases h with h|h
  .exact p i pins s σ H R I h
  .exact p' i pins s σ H R I h
 .rcases q with q|q
  .exact .inl (d j H₀ A σ H ρ R Qd r q k)
  .exact .inr (d' j H₀ A σ H ρ R Qd r q k)
end
def LTd(d:GG)(ws:3.5):Prop:=d = .list 5.1\/d = .tuple 5.1
def oluF:List GG->2.7->Prop:=λds Q=>∃(ws:3.5) (w:0.7) (d:GG),ds = [d,tS w]/\LTd d ws/\(∀v∈ws,Sml v)/\Sml w/\Q (.o (.bool (zam ws w)))
def hasF:List GG->2.7->Prop:=λds Q=>∃(ws:3.5) (w:0.7),ds = [.tuple 5.1,tS w]/\(∀v∈ws,Sml v)/\Sml w/\Q (.o (.bool (zam ws w)))
def zrc:List GG->2.7->Prop:=λds Q=>∃ws vs:List 1.4,ds = [.tuple 5.1,.tuple (vs.map tS)]/\ws.length<=1000/\(∀v∈ws,Sml v)/\(∀v∈vs,Sml v)/\Q (.o (.bool (ws.all λw=>zam vs w)))
def zki:List GG->2.7->Prop:=λds Q=>∃ws vs:List 1.4,ds = [.tuple 5.1,.tuple (vs.map tS)]/\ws.length<=20/\vs.length<=20/\(∀v∈ws,Sml v)/\(∀v∈vs,Sml v)/\Q (.o (.tuple ((lowK (ws++vs)).map tS)))
def zqk:List GG->2.7->Prop:=λds Q=>∃(ws:3.5) (c:Nat),ds = [.tuple 5.1,tS [c]]/\ws.length<=1000/\(∀v∈ws,Sml v)/\c<128/\Q (.o (.tuple ((behB ws c).map tS)))
section
variable {X:Cx}{pins:0.9}{σ:L2.St}{H:Hp}{s:GJ}{h':Heap}{t':Nat}
theorem zvs{fp:5.6}(I:0.5)(hf:∀b∈fp,FpOk X pins H b)(k:∀b o,b ∉ fp->s.heap.get? b=some o->h'.get? b=some o):Inv X pins σ H { s with heap:=h',toks:=t' }:=by
 have nit:∀b u,H b=some u->b ∉ fp:=λb u e z=>by rw[(hf b z).1] at e;cases e
 refine I.step (g':=s.gens) (d':=s.drawn) (ch:=fp) (λb hb=>let ⟨_,a,_,b,c,d⟩:=hf b hb;⟨b,a,c,d⟩) (λb o _ _ hc e _=>k b o hc e) (λb o _ _ hc e _=>⟨o.slots,k b o hc e⟩) (λ_ _ _ _ n=>n) (λb o hc e=>⟨o,k b o hc e⟩) (λ_ _ e=>e) (λ_ _ _ e=>e) (λb ps e=>⟨#[],by rw[e];simp⟩)
  (λm ⟨o,es,ep,ho,r⟩=>⟨o,es,ep,k _ o (λz=>(hf _ z).2.1 rfl) ho,r⟩) (λb u e=>(I.hok b u e).stay (λc v hc q=>k c v ?_ q) (λ_ q=>q) (λ_ _ q=>q) λ_ _ q=>q) I.bare
 rcases hc with z|z
 .rw[z];exact nit b u e
 .exact nit c _ z
theorem zt6{fp:5.6}{a:Addr}{o:HO}(I:0.5)(hf:∀b∈fp,FpOk X pins H b)(k:∀b o,b ∉ fp->s.heap.get? b=some o->h'.get? b=some o)(hp:s.heap.objs.size<=a)(new:ObjOk X.prog X.w (upd H a o) h' a o):Inv X pins σ (upd H a o) { s with heap:=h',toks:=t' }:=by
 have nit:∀b u,H b=some u->b ∉ fp:=λb u e z=>by rw[(hf b z).1] at e;cases e
 have hn:=I.hok.fresh hp;have na:∀b u,H b=some u->b≠a:=λb u e z=>by rw[z,hn] at e;cases e
 have nb:∀b (o:Obj),s.heap.get? b=some o->b≠a:=λb o e z=>Zl _ (QM (Qv e) (z ▸ hp))
 refine I.step (g':=s.gens) (d':=s.drawn) (ch:=fp) (λb hb=>let ⟨_,a,_,b,c,d⟩:=hf b hb;⟨b,a,c,d⟩) (λb o _ _ hc e _=>k b o hc e) (λb o _ _ hc e _=>⟨o.slots,k b o hc e⟩) (λb o _ e n=>by rw[zac (nb b o e)];exact n) (λb o hc e=>⟨o,k b o hc e⟩) (λb _ e=>by rw[zac (na b _ e)];exact e) (λb _ _ e=>by rw[zac (na b _ e)];exact e) (λb ps e=>⟨#[],by rw[zac (na b _ e),e];simp⟩)
  (λm ⟨o,es,ep,ho,r⟩=>⟨o,es,ep,k _ o (λz=>(hf _ z).2.1 rfl) ho,r⟩) (λb u e=>?_) I.bare
 by_cases hb:b=a
 .subst hb;rw[zae] at e;cases e;exact new
 .rw[zac hb] at e;refine(I.hok b u e).stay (λc v hc q=>k c v ?_ q) (λc q=>by rw[zac (na c _ q)];exact q) (λc xs q=>by rw[zac (na c _ q)];exact q) λc oc q=>by rw[zac (na c _ q)];exact q
  rcases hc with z|z
  .rw[z];exact nit b u e
  .exact nit c _ z
end
def NObj(P:GK)(w:GM)(a:Addr)(o:Obj)(ws:5.8):Prop:=ws.length<=sizeLine/\(a == Tk)=false/\o.ExactDict/\∃(vs:List (Key×GH)) (ep:Nat),KV ws vs/\∀h:Heap,h.get? a=some o->h.DictAt (zaw P w) a vs ep
theorem zso{pins:0.9}(I:0.5)(ha:H a=some (.dK ws)):∃o,NObj X.prog X.w a o ws/\Inv X pins σ (upd H a (stl a o)) s:=by
 obtain⟨z,y,vs,r,o,es,ep,e,c,g1,g2,g3,g4⟩:=I.hok a _ ha;exact⟨o,⟨z,y,c,vs,ep,r,λh e'=>⟨o,es,e',c,g1,g2,g3,g4⟩⟩,I.write (x:=a) (e:=a) (t':=s.toks) (h':=s.heap) (by rw[ha];exact Yi) (.inl rfl) (λ_ _ _ q=>q) ⟨o,e⟩ ⟨e,⟨o,e⟩,λh1 h2 p k=>k o p⟩⟩
def Itk(a:Addr)(o:Obj)(ws:5.8):It :=
 ⟨λi H=>i<ws.length/\H a=some (stl a o),λi H x H'=>∃p q,H p=none/\ws[i]? = some q/\x = .ref p/\H'=upd H p (.tup [kV q.1,q.2]),λi H=>ws.length<=i/\H a=some (stl a o)⟩
theorem zt5(r:KV ws vs):∀{i:Nat} {q:Key×V},ws[i]? = some q->∃v,vs[i]? = some (q.1,v)/\RelV q.2 v:=by
 unfold KV at r
 induction r with
 | nil=>intro i q h;simp at h
 | @cons p p' ps qs h t ih=>
   intro i q hi
   cases i with
   | zero=>cases hi;exact⟨p'.2,by rw[h.1];rfl,h.2⟩
   | succ i=>exact ih 5.2
theorem zh9:NG table "dict_itemiterator.__iter__" = some Builtin.«dict_keyiterator.__iter__»:=by
 first
  | exact MZ (id (Eq.refl (fastTable "dict_itemiterator.__iter__"))) rfl 0.2 (id (Eq.refl (fastTable "dict_keyiterator.__iter__")))
  | kernel_rfl
theorem zsn{prog:GK}{d:Addr}{i n ep:Nat}{ok:GH}(st:IsItemIter s.heap it d i n ep ok ov)(h:Q (.ref it) s):wpAny 1.3 A (MN (.ref it)) Q E s:=by
 have T:s.TypeIs (.ref it) "dict_itemiterator" := ⟨_,st,rfl⟩;refine M8 T Vi (GV Vi T zh9 ?_ (F.args_dict_itemiterator_iter_1 _));unfold Builtin.«dict_keyiterator.__iter__»
 wp_walk
 exact⟨_,rfl, "dict_itemiterator",_,T,F.slot_dict_itemiterator_next.lookup,h⟩
theorem ztf{P:GK}{w:GM}{K:Qa}{elts:List Expr}{x1:Nat}{pos:Pos}{a it:Addr}{o:Obj}{ws:5.8}{vs:List (Key×GH)}{ep:Nat}(ne:a≠it)(r:KV ws vs)(D:∀h:Heap,h.get? a=some o->h.DictAt (zaw P w) a vs ep):
 Turn P w K (.Tuple elts x1 pos) (Itk a o ws) [it] it (λi h=>∃ok ov,IsItemIter h it a i vs.length ep ok ov) where
 mem:=by simp
 obj:=λi h st b hb=>by
  have e:b=it:=by simpa using hb
  subst e;obtain⟨ok,ov,st⟩:=st;exact⟨_,st,λv z=>by cases z⟩
 keep:=λi h h' ⟨ok,ov,st⟩ k=>⟨ok,ov,k it 0.1 _ st⟩
 item:=by
  intro X hP hw hK hc i pins s σ H E I hf st hg;subst hP hw hK;obtain⟨hi,ha⟩:=hg;obtain⟨ok,ov,st⟩:=st;obtain⟨eo,_,_⟩:=I.hok a _ ha;obtain⟨v,hv,rv⟩:=zt5 r (Qb hi);have lt:it≠s.heap.objs.size:=Q0 (Qv st);refine wpAny_pyNext_items_item st (D _ eo) hv λkey h' hk out tp sz up=>⟨_,rfl,?_⟩;refine wpAny_letOwnedTupleGo_items out λh2 it2 sb=>?_
  have up2:∀b u,b ∉ [it]->s.heap.get? b=some u->h2.get? b=some u:=λb u hb e=>by
   have nb:b≠it:=by simpa using hb
   exact(sb.2 b nb).trans (up b u nb e)
  have P2:h2.get? s.heap.objs.size=some { cls:=.type "tuple",data:=.seq #[key,v] }:=(sb.2 _ (Z8 lt)).trans tp;have sL:=GP;refine⟨.ref s.heap.objs.size,_,zt6 (s:=s) (t':=s.toks) I hf up2 (Qg _) (o:=.tup [kV ws[i].1,ws[i].2]) ⟨by show 2<=sizeLine;lia,[key,v],.cons (zpc hk) (.cons rv .nil),⟨_,P2,rfl,_,rfl⟩⟩,rfl,⟨_,ws[i],I.hok.fresh (Qg _),Qb hi,rfl,rfl⟩,⟨key,v,it2⟩,λb hb=>?_⟩;have e:b=it:=by simpa using hb
  subst e;rw[zac lt];exact(hf _ hb).1
 done:=by
  intro X hP hw hK hc i pins s σ H E I hf st hg;subst hP hw hK;obtain⟨hi,ha⟩:=hg;obtain⟨ok,ov,st⟩:=st;obtain⟨eo,_,_⟩:=I.hok a _ ha;have ln:ws.length=vs.length:=JY r;refine wpAny_pyNext_items_end (I.ok.hd hc) st (D _ eo) (QD 0.0) λh' ex=>⟨rfl,zvs (t':=s.toks) I hf λb u hb e=>ex b u (by simpa using hb) e⟩
 self:=by
  intro _ _ _ _ _ ⟨_,_,st⟩ h;exact zsn st h
def zm7(P:GK)(w:GM)(t:TE):TI:=λσ H R=>t σ H λv H1=>∃a o ws,v = .ref a/\H1 a=some (stl a o)/\NObj P w a o ws/\R (Itk a o ws) H1
theorem zya{elts:List Expr}{x1:Nat}{apos cpos:Pos}{to:TE}(ho:PE X o to)(hbase:Th o "items" X.env (eval o X.env)=eval o X.env)(hline:(apos.endLine == cpos.line)=true):PI X (.Tuple elts x1 pos) (.Call (.Attribute o "items" apos) [] [] cpos) (zm7 X.prog X.w to):=by
 intro pins s σ H R I h;refine Mj hbase hline (thn (ho pins s σ H _ I h) λv s1 zz=>?_);obtain⟨y,H1,I1,r1,q1⟩:=zz;obtain⟨a,ob,ws,rfl,ha,⟨z,ns,c,vs,ep,rel,D⟩,q⟩:=q1;cases r1;obtain⟨eo,_,_⟩:=I1.hok a _ ha;have T:s1.TypeIs 3.1 "dict" := ⟨_,eo,c.1⟩;refine⟨"dict", "dict.items",UX,UY,F.type_dict_items,T,λb e=>by cases e;exact⟨ob,eo,c.2.1⟩,JP rfl (Vo ?_)⟩;refine GV UY T F.entry_dict_items ?_ (F.args_dict_items_1 _);unfold Builtin.«dict.items»
 wp_walk
 rw[c.1,NJ 0.2]
 wp_walk
 refine⟨_,rfl,?_⟩;have eo1:(s1.heap.push { cls:=.type "dict_items",data:=.fields #[.ref a] }).get? a=some ob:=Qf _ eo;refine wpAny_pyIter_items ⟨_,Qs _ rfl,rfl,rfl⟩ (D _ eo1) ?_;have sz:(s1.heap.push { cls:=.type "dict_items",data:=.fields #[.ref a] }).objs.size=s1.heap.objs.size+1:=Zg ..;have le:s1.heap.objs.size<=(s1.heap.push { cls:=.type "dict_items",data:=.fields #[.ref a] }).objs.size:=by rw[sz];exact Jp _
 have ne:a≠(s1.heap.push { cls:=.type "dict_items",data:=.fields #[.ref a] }).objs.size:=by rw[sz];exact Q0 (QW (Qv eo))
 refine⟨_,[(s1.heap.push { cls:=.type "dict_items",data:=.fields #[.ref a] }).objs.size],_,Itk a ob ws,H1,rfl,I1.kept (t':=s1.toks) λb u e=>Qf _ (Qf _ e),ztf ne rel D,⟨_,_,Qs _ rfl⟩,λb hb=>?_,q⟩;rw[Qm.mp hb];exact I1.fpOk le (I1.hok.fresh le)
section
variable {K:Qa}{O:Ob}{H₀ H:Hp}{A:Nat->Addr->Prop}{σ:St}{ρ:DSt}{P:GK}{w:GM}
theorem Rep.stillG{m:Nat}{T0:Thg}(r:5.3)(hv:σ[m]? = some (some 3.1))(w1:A m a)(ha:H a=some o0)(nt:∀u,(∃us,u = .tup us\/∃o',u = .frz o' (.tup us))->u=o0->False)(hT:TupStay H (upd H a u0)->T0.R K (unO O (λj b=>j≠m/\A j b)) (λb=>b=a) (upd H a u0) 3.1):
 Rep K O H₀ (λj b=>j≠m/\A j b) (upd H a u0) σ (ρ.set m (some (.thr T0)))/\Frm O A H (λj b=>j≠m/\A j b) (upd H a u0):=by
 obtain⟨h0,_,nm⟩:=r.own m a w1;have ne:∀b,unO O A b->b≠a:=λb f z=>f.2 m (by rw[z];exact w1);have un:∀b,unO O A b->unO O (λj b=>j≠m/\A j b) b:=λb f=>⟨f.1,λj z=>f.2 j z.2⟩;have tF:∀b u,unO O A b->H b=some u->unO O (λj b=>j≠m/\A j b) b/\upd H a (u0) b=some u:=λb u f q=>⟨un b f,by rw[zac (ne b f)];exact q⟩
 have ts:TupStay H (upd H a (u0)):=λb u hu hb=>by
  rw[zac λz=>?_]
  .exact hb
  .rw[z,ha] at hb;cases hb;exact nt _ hu rfl
 have oj:∀j b,j≠m->A j b->b≠a:=λj b hj z e=>hj (r.dis j m b z (by rw[e];exact w1));have mv:∀{v d},Is K (unO O A) H v d->Is K (unO O (λj b=>j≠m/\A j b)) (upd H a (u0)) v d:=λz=>z.to (λb ys f q=>tF b _ f q) λb ys q=>SqT.stay (h:=q) ts;have mvs:∀{v d},IsAll K (unO O A) H v d->IsAll K (unO O (λj b=>j≠m/\A j b)) (upd H a (u0)) v d:=λz=>z.to (λb ys f q=>tF b _ f q) λb ys q=>SqT.stay (h:=q) ts;refine⟨⟨r.ok,r.ok.loc H _ (λb mb=>zac λz=>nm (z ▸ mb)) r.p,r.p0,⟨λb u e n=>?_,λ_=>r.ok.loc H _ (λb mb=>zac λz=>nm (z ▸ mb)) r.p,λb u hu hb=>ts b u hu (r.st.t b u hu hb)⟩,λj k b x y=>r.dis j k b x.2 y.2,λj b x=>?_,λj x e=>?_,by rw[ZT];exact r.len⟩,λb u e f=>⟨(tF b u f e).2,un b f⟩⟩
 .rw[zac λz=>by rw[z,h0] at e;cases e];exact r.st.s b u e n
 .obtain⟨g1,⟨u,g2,g3⟩,g4⟩:=r.own j b x.2;exact⟨g1,⟨u,by rw[zac (oj j b x.1 x.2)];exact g2,g3⟩,g4⟩
 .by_cases hj:m=j
  .subst hj
   have hi:m<ρ.length:=by
    rcases Jj m ρ.length with z|z
    .exact z
    .rw[QD (by rw[ZT];exact z)] at e;cases e
   rw[Zf hi] at e;cases e;exact⟨.ref a,hv,λb=>b=a,λb e=>by subst e;exact⟨⟨nm,λj z=>z.1 (r.dis j m _ z.2 w1)⟩,_,zae⟩,hT ts⟩
  .rw[Zs hj] at e;have hj':j≠m:=λz=>hj z.symm;obtain⟨v,h1,h2⟩:=r.at_ j x e;refine⟨v,h1,?_⟩
   cases x with
   | im d=>exact mv h2
   | own es=>obtain⟨b,ys,e,hb,hlb,hs⟩:=h2;exact⟨b,ys,e,⟨hj',hb⟩,by rw[zac (oj j b hj' hb)];exact hlb,mvs hs⟩
   | ob=>exact h2
   | scr n=>exact IsS.to (λb u f q=>tF b u f q) h2
   | dct ks=>obtain⟨b,hb,h2⟩:=h2;exact⟨b,⟨hj',hb⟩,h2.to λu q=>by rw[zac (oj j b hj' hb)];exact q⟩
   | gen f ds=>obtain⟨b,ys,e,hb,q,z⟩:=h2;exact⟨b,ys,e,⟨hj',hb⟩,by rw[zac (oj j b hj' hb)];exact q,mvs z⟩
   | rd f ds=>obtain⟨b,ys,e,hb,q,z⟩:=h2;exact⟨b,ys,e,un b hb,(tF b _ hb q).2,mvs z⟩
   | exc C ns ds=>obtain⟨ys,e,z⟩:=h2;exact⟨ys,e.to λb u f q=>tF b u f q,mvs z⟩
   | thg T=>exact T.to (λb u f q=>tF b u f q) (λb u w q=>⟨⟨hj',w⟩,by rw[zac (oj j b hj' w)];exact q⟩) ts h2
   | thr T=>obtain⟨W',hw,z⟩:=h2;exact⟨W',λb w=>let ⟨f,o,q⟩:=hw b w;⟨un b f,o,(tF b _ f q).2⟩,T.to (λb u f q=>tF b u f q) (λb u w q=>⟨w,(tF b u (hw b w).1 q).2⟩) ts z⟩
end
abbrev KX:=List (Key×GG)
structure XV(K:Qa)(H:Hp)(ws:5.8)(kvs:KX):Prop where
 ks:ws.map (·.1)=kvs.map (·.1)
 fl:flats (kvs.map (·.2))=true
 is:IsAll K (λ_=>False) H (ws.map (·.2)) (kvs.map (·.2))
theorem XV.to{K:Qa}{H H':Hp}{ws:5.8}{kvs:KX}(ts:TupStay H H')(h:XV K H ws kvs):XV K H' ws kvs:=⟨h.ks,h.fl,IsAll.flats ts h.is h.fl⟩
theorem XV.length{K:Qa}{H:Hp}{ws:5.8}{kvs:KX}(h:XV K H ws kvs):ws.length=kvs.length:=by have:=NO Jo h.ks;simpa using this
theorem XV.snoc{K:Qa}{H:Hp}{ws:5.8}{kvs:KX}{k:Key}{v:V}{d:GG}(h:XV K H ws kvs)(f:flat d=true)(is:Is K (λ_=>False) H v d):XV K H (ws ++ [(k,v)]) (kvs ++ [(k,d)]):=by
 refine⟨by rw[Qu,Qu,h.ks];rfl,?_,by rw[Qu,Qu];exact h.is.snoc is⟩;rw[Qu];refine flats_iff.mpr λx hx=>?_;rcases Qq.mp hx with z|z
 .exact flats_iff.mp h.fl x z
 .rw[Qm.mp z];exact f
theorem XV.get{K:Qa}{H:Hp}{ws:5.8}{kvs:KX}{i:Nat}{p:Key×GG}(h:XV K H ws kvs)(e:kvs[i]? = some p):∃v,ws[i]? = some (p.1,v)/\flat p.2=true/\Is K (λ_=>False) H v p.2:=by
 have e2:(kvs.map (·.2))[i]? = some p.2:=by rw[Qh,e];rfl
 obtain⟨v,hv,iv⟩:=h.is.get e2;have e1:(ws.map (·.1))[i]? = some p.1:=by rw[h.ks,Qh,e];rfl
 rw[Qh] at e1 hv;obtain⟨q,hq,q1⟩:=Q2.mp e1;obtain⟨q',hq',q2⟩:=Q2.mp hv;rw[hq] at hq';cases hq';exact⟨v,by rw[hq,<- q1,<- q2],flats_iff.mp h.fl _ (Qt e2),iv⟩
theorem valV_some{k:Key}:(valV ws k).isSome=true↔k∈ws.map (·.1):=by
 rw[<- zc7,Z5,Qo];exact⟨λ⟨p,hp,e⟩=>⟨p,hp,NL e⟩,λ⟨p,hp,e⟩=>⟨p,hp,NM e⟩⟩
def DctX(kvs:KX):Thg:=⟨λK _ W H v=>∃a ws,v = .ref a/\W a/\H a=some (.dK ws)/\XV K H ws kvs,λ_ hW ts ⟨a,ws,e,w,q,z⟩=>⟨a,ws,e,(hW a _ w q).1,(hW a _ w q).2,z.to ts⟩⟩
def DctZ(P:GK)(w:GM)(kvs:KX):Thg:=⟨λK F _ H v=>∃a o ws,v = .ref a/\F a/\H a=some (stl a o)/\NObj P w a o ws/\XV K H ws kvs,λhF _ ts ⟨a,o,ws,e,z,q,t,l⟩=>⟨a,o,ws,e,(hF a _ z q).1,(hF a _ z q).2,t,l.to ts⟩⟩
theorem zOut{P:GK}{w:GM}{K:Qa}{O:Ob}{W W':3.4}{H H':Hp}{v:V}{kvs:KX}(s:Stp O H H')(h:(DctZ P w kvs).R K 3.7 W H v):(DctZ P w kvs).R K 3.7 W' H' v:=by
 obtain⟨a,o,ws,e,f,q,t,l⟩:=h;exact⟨a,o,ws,e,f,s.s a _ q f,t,l.to s.t⟩
def zFr(H:Hp)(v:V):Prop:=∀a,v = .ref a->H a=none
theorem z8v{P:GK}{w:GM}{K:Qa}{O:Ob}{W:3.4}{H H1 H2:Hp}{v:V}{kvs:KX}(s:Stp O H H1)(h:(DctZ P w kvs).R K 3.7 W H2 v)(f:zFr H1 v):zFr H v:=λa e=>by
 obtain⟨b,o,ws,e',nm,_⟩:=h;rw[e] at e';cases e';exact s.s.free nm (f a e)
abbrev DZ:=DSt->(KX->Prop)->Prop
def ZD(P:GK)(w:GM)(K:Qa)(O:Ob)(b:Bool)(t:TE)(f:DZ):Prop :=
 ∀(σ:St) (H:Hp) (ρ:DSt) (Q:VK) (Qk:KX->Prop),Seen K O H σ ρ->f ρ Qk->(∀v H' kvs,Stp O H H'->(DctZ P w kvs).R K 3.7 (λ_=>False) H' v->(b=true->zFr H v)->Qk kvs->Q v H')->t σ H Q
def zpy(P:GK)(w:GM)(t:TE):TE:=λσ H Q=>t σ H λv H1=>∃a ws,v = .ref a/\H1 a=some (.dK ws)/\∀o,NObj P w a o ws->Q v (upd H1 a (stl a o))
theorem zum(h:PE X e t):PE X e (zpy X.prog X.w t):=λpins s σ H Q I hq=>
 thn (h pins s σ H _ I hq) λu s1 ⟨v,H1,I1,r1,a,ws,ev,ha,q⟩=>by
  obtain⟨o,T,I2⟩:=zso I1 ha;exact⟨v,_,I2,r1,q o T⟩
section
variable {K:Qa}{O:Ob}{P:GK}{w:GM}
def spZ(P:GK)(w:GM)(K:Qa)(φ:Ob->Prop)(n:Nat)(f:List DV->(KX->Prop)->Prop):Sp:=λvs H Q _=>
 ∃(O:Ob) (rs:List DV) (Qk:KX->Prop),O.Ok/\φ O/\O.P H/\rs.length=n/\Args K O H vs rs/\f rs Qk/\∀kvs v H',Qk kvs->Stp O H H'->(DctZ P w kvs).R K 3.7 (λ_=>False) H' v->zFr H v->Q v H'
theorem z2w{φ:Ob->Prop}{n:Nat}{f:List DV->(KX->Prop)->Prop}{ps:2.4}(hn:ps.length=n):∀vs H Q E,spZ P w K φ n f vs H Q E->vs.length=ps.length:=λvs H Q E zz=>by obtain⟨O,rs,_,_,_,_,h,is,_⟩:=zz;rw[is.length,h,hn]
def z1a(P:GK)(w:GM)(mg:0.4)(base:Heap)(k:Nat)(φ:Ob->Prop)(i:Nat)(gg:DGA):DZ:=λρ Q=>∃(n m:Nat) (F:List DV->(KX->Prop)->Prop) (fs:2.3),ρ[i]? = some (some (.thr (zf4 P w mg base k n (λK=>spZ P w K φ m F) fs)))/\gg ρ λrs=>rs.length=n/\n+fs.length=m/\F (rs++fs.map .im) Q
theorem zyb{mg:0.4}{base:Heap}{k i:Nat}{gg:DGA}{b:Bool}(hφ:φ O)(h:AG K O t gg):ZD P w K O b (zi9 P w K mg base k i t) (z1a P w mg base k φ i gg):=λσ H ρ Q Qd S hf kk=>by
 obtain⟨n,m,F,fs,e,hf⟩:=hf;obtain⟨v,hv,W,hw,f,G,ws,rfl,g,gF,iw,c⟩:=S.at_ i _ e;refine⟨f,G,ws,n,_,hv,g,c,h σ H ρ _ _ S hf λvs H1 rs s1 is ⟨hn,hm,q1⟩=>⟨λp hp=>s1.s _ _ (g p hp) (gF p hp),by rw[is.length];exact hn,?_⟩⟩;exact⟨O,rs++fs.map .im,Qd,S.ok,hφ,s1.p S.p,by rw[Qj,Qc,hn];exact hm,zir is (iw.stp s1 4.7 λ_ f=>f),q1,λkvs v H' qk s2 o2 n2=>kk v H' kvs 6.0 o2 (λ_=>z8v s1 o2 n2) qk⟩
def gZA(P:GK)(w:GM)(f:DZ)(g:DGA):DGA:=λρ Q=>f ρ λkvs=>g ρ λrs=>Q (.thr (DctZ P w kvs)::rs)
theorem ag_z{b:Bool}(h:ZD P w K O b t f)(h':AG K O u g):AG K O (zar t u) (gZA P w f g):=λσ H ρ Q Qd S hf k=>by
 refine h σ H ρ _ _ S hf λv H1 kvs s1 o1 _ q1=>?_;refine h' σ H1 ρ _ _ (S.stp s1) q1 λvs H2 rs s2 a2 q2=>?_;exact k (v::vs) H2 (.thr (DctZ P w kvs)::rs) 6.0 ⟨.inr (.inr (.inr ⟨_,rfl,λ_=>False,λ_ z=>z.elim,zOut s2 o1⟩)),a2⟩ q2
def newX(i:Nat):DS:=λDd ρ=>Dd.nx (ρ.set i (some (.thg (DctX []))))
theorem z3s{i:Nat}:SD K O (tAsg zpf (zav i)) (newX i):=λH₀ A σ H ρ D Dd r q P=>by
 intro p hp;have st:Stp O H (upd H p (.dK [])):=.new r.ok hp _;have hW:∀b,b=p->(A i b\/H b=ZO)/\∃o,upd H p (.dK []) b=some o/\OwnO o:=λb e=>by subst e;exact⟨.inr hp,_,zae,ownK⟩
 exact P.nx _ _ _ _ (r.setT (W:=λb=>b=p) (T:=DctX []) st (λb u e _=>e) hW ⟨p,[],rfl,rfl,zae,rfl,rfl,.nil⟩) (.setT st (λb u e _=>e) λb m=>(hW b m).1) q
def putX(n:Nat)(fv fk:DE):DS:=λDd ρ=>∃kvs,ρ[n]? = some (some (.thg (DctX kvs)))/\fv ρ λr=>fk ρ λr2=>∃k:Key,r2.d=kD k/\flat r.d=true/\k ∉ kvs.map (·.1)/\kvs.length<sizeLine/\Dd.nx (ρ.set n (some (.thg (DctX (kvs ++ [(k,r.d)])))))
theorem z2i{n:Nat}(hv:ED K O tv fv)(hk:ED K O tk fk):SD K O (zhq (tVar n) tk tv) (putX n fv fk):=λH₀ A σ H ρ D Dd r q P=>by
 obtain⟨kvs,e,q⟩:=q;refine hv σ H ρ _ _ r.seen q λx H1 r1 s1 o1 q1=>?_;obtain⟨v,hv,a,ws,rfl,w,hH,z⟩:=r.at_ n _ e;refine⟨_,hv,?_⟩;refine hk σ H1 ρ _ _ (r.seen.stp s1) q1 λy H2 r2 s2 o2 zz=>?_;obtain⟨i,e2,fl,nw,ln,q2⟩:=zz;have iy:=o2.is r.ok (s1.p r.p);rw[e2] at iy;obtain rfl:=yaa iy;have m:=(r.own n a w).2.2;have st:=s1.trans s2;have hH2:H2 a=some (.dK ws):=st.s a _ hH m;have z2:XV K H2 ws kvs:=z.to st.t
 have vn:valV ws i=none:=by
  cases h:valV ws i with
  | none=>rfl
  | some v=>exact absurd (z.ks ▸ valV_some.mp (by rw[h];rfl)) nw
 refine⟨a,_,rfl,DPut.k (k:=i) hH2 (by rw[z2.length];exact ln),?_⟩;rw[L3.putK_new vn];have hW:∀c,c=a->(A n c\/H c=ZO)/\∃o,upd H2 a (.dK (ws ++ [(i,x)])) c=some o/\OwnO o:=λc e=>by subst e;exact⟨.inl w,_,zae,ownK⟩
 have stay:∀c u,H2 c=some u->¬A n c->upd H2 a (.dK (ws ++ [(i,x)])) c=some u:=λc u e n=>by
  rw[zac λz=>n (by rw[z];exact w)];exact e
 have ts3:=(r.stp st).tstay stay;have ix:Is K (λ_=>False) (upd H2 a (.dK (ws ++ [(i,x)]))) x r1.d:=Is.flat ts3 (Is.flat s2.t (o1.is r.ok r.p) fl:Is K (λ_=>False) H2 x r1.d) fl;have rr:=r.setT (i:=n) (v:=.ref a) (W:=λc=>c=a) (T:=DctX (kvs ++ [(i,r1.d)])) st stay hW ⟨a,_,rfl,rfl,zae,(z2.to ts3).snoc fl ix⟩;rw[zid hv] at rr;exact P.nx _ _ _ _ rr (.setT st stay λc m=>(hW c m).1) q2
def SDz(P:GK)(w:GM)(K:Qa)(O:Ob)(t:TS)(g:(KX->Prop)->DSt->Prop):Prop:=∀(H₀:Hp) (A:Nat->Addr->Prop) (σ:St) (H:Hp) (ρ:DSt) (R:VK) (Qk:KX->Prop) (Nx:St->Hp->Prop),Rep K O H₀ A H σ ρ->g Qk ρ->(∀kvs v H',Qk kvs->Stp O H₀ H'->(DctZ P w kvs).R K 3.7 (λ_=>False) H' v->zFr H₀ v->R v H')->t { nx:=Nx,rt:=R } σ H
def rtXz(m:Nat):(KX->Prop)->DSt->Prop:=λQk ρ=>∃kvs,ρ[m]? = some (some (.thg (DctX kvs)))/\Qk kvs
theorem z1v{m:Nat}:SDz P w K O (tRet (zpy P w (tVar m))) (rtXz m):=λH₀ A σ H ρ R Qk Nx r ⟨kvs,e,q⟩ k=>by
 obtain⟨v,hv,a,ws,rfl,w1,hH,z⟩:=r.at_ m _ e;obtain⟨h0,_,nm⟩:=r.own m a w1;refine⟨_,hv,a,ws,rfl,hH,λo T=>?_⟩;obtain⟨r1,f1⟩:=r.stillG (u0:=stl a o) (T0:=⟨λ_ _ _ _ _=>True,λ_ _ _ _=>trivial⟩) hv w1 hH (λu hu e=>by subst e;obtain⟨us,e1|⟨o',e1⟩⟩:=hu <;> cases e1) λts=>trivial
 have ts:TupStay H (upd H a (stl a o)):=λb u hu hb=>by
  rw[zac λy=>?_]
  .exact hb
  .rw[y,hH] at hb;cases hb;obtain⟨us,e1|⟨o',e1⟩⟩:=hu <;> cases e1
 exact k kvs _ _ q r1.st ⟨a,o,ws,rfl,nm,zae,T,z.to ts⟩ λb e=>by cases e;exact h0
theorem zy6(h:SD K O t g1)(h':SDz P w K O u g2):SDz P w K O (tSeq t u) (λQk ρ=>g1 { nx:=g2 Qk,rt:=λ_=>False } ρ):=λH₀ A σ H ρ R Qk Nx r q k=>by
 refine h H₀ A σ H ρ _ _ r q ⟨λA' σ' H' ρ' r' _ q'=>?_,λ_ _ _ _ _ _ z=>z.elim,λ_ _ _ _ _ _ z=>z.elim,λ_ _ _ _ _ z=>z.elim⟩;exact h' H₀ A' σ' H' ρ' R Qk Nx r' q' k
end
def Ivz(a:Addr)(o:Obj)(ws:5.8):It :=
 ⟨λi H=>i<ws.length/\H a=some (stl a o),λi H x H'=>H'=H/\∃q,ws[i]? = some q/\x=q.2,λi H=>ws.length<=i/\H a=some (stl a o)⟩
theorem zwi{P:GK}{w:GM}{K:Qa}{tg:Expr}{a it:Addr}{o:Obj}{ws:5.8}{vs:List (Key×GH)}{ep:Nat}(ne:a≠it)(r:KV ws vs)(D:∀h:Heap,h.get? a=some o->h.DictAt (zaw P w) a vs ep):
 Turn P w K tg (Ivz a o ws) [it] it (λi h=>h.IsValIter it a i vs.length ep) where
 mem:=by simp
 obj:=λi h st b hb=>by
  have e:b=it:=by simpa using hb
  subst e;obtain⟨o,e,c,d⟩:=st;exact⟨o,e,λv z=>by rw[d] at z;cases z⟩
 keep:=λi h h' st k=>st.at λo e=>k it 0.1 o e
 item:=by
  intro X hP hw hK hc i pins s σ H E I hf st hg;subst hP hw hK;obtain⟨f0,f1,f2,f3,f4,f5⟩:=hf it 0.1;obtain⟨hi,ha⟩:=hg;obtain⟨eo,_,_⟩:=I.hok a _ ha;obtain⟨v,hv,rv⟩:=zt5 r (Qb hi);refine wpAny_pyNext_values_item st (D _ eo) hv λh' t' sb=>?_;have kk:=sb.extBut;have I1:Inv X pins σ H 3.9:=I.turned (t':=s.toks) (λb o hb e=>kk b o hb e) f0 f1 f3 f4 f5;obtain⟨oi,e,hcl,hdt⟩:=id t';exact⟨_,rfl,zjq (s:=3.9) e hcl hdt 0.2 ⟨ws[i].2,H,I1,rv,⟨rfl,_,Qb hi,rfl⟩,t',λb hb=>(hf b hb).1⟩⟩
 done:=by
  intro X hP hw hK hc i pins s σ H E I hf st hg;subst hP hw hK;obtain⟨f0,f1,f2,f3,f4,f5⟩:=hf it 0.1;obtain⟨hi,ha⟩:=hg;obtain⟨eo,_,_⟩:=I.hok a _ ha;have ln:ws.length=vs.length:=JY r;exact wpAny_pyNext_values_end (I.ok.hd hc) st (D _ eo) (QD 0.0) λh' kk=>⟨rfl,I.turned (t':=s.toks) (λb o hb e=>kk b o hb e) f0 f1 f3 f4 f5⟩
 self:=λ_ _ _ _ _ st h=>wpAny_pyIter_valiter st h
def zrq(P:GK)(w:GM)(t:TE):TI:=λσ H R=>t σ H λv H1=>∃a o ws,v = .ref a/\H1 a=some (stl a o)/\NObj P w a o ws/\R (Ivz a o ws) H1
theorem z1x{apos cpos:Pos}{to:TE}(ho:PE X o to)(hbase:Th o "values" X.env (eval o X.env)=eval o X.env)(hline:(apos.endLine == cpos.line)=true):PI X tg (.Call (.Attribute o "values" apos) [] [] cpos) (zrq X.prog X.w to):=by
 intro pins s σ H R I h;refine Mj hbase hline (thn (ho pins s σ H _ I h) λv s1 zz=>?_);obtain⟨y,H1,I1,r1,q1⟩:=zz;obtain⟨a,ob,ws,rfl,ha,⟨z,ns,c,vs,ep,rel,D⟩,q⟩:=q1;cases r1;obtain⟨eo,_,_⟩:=I1.hok a _ ha;have T:s1.TypeIs 3.1 "dict" := ⟨_,eo,c.1⟩;refine⟨"dict", "dict.values",UX,UC,F.type_dict_values,T,λb e=>by cases e;exact⟨ob,eo,c.2.1⟩,JP rfl (Vo ?_)⟩;refine GV UC T F.entry_dict_values ?_ (F.args_dict_values_1 _);unfold Builtin.«dict.values»
 wp_walk
 rw[c.1,NJ 0.2]
 wp_walk
 refine⟨_,rfl,?_⟩;have eo1:(s1.heap.push { cls:=.type "dict_values",data:=.fields #[.ref a] }).get? a=some ob:=Qf _ eo;refine wpAny_pyIter_values ⟨_,Qs _ rfl,rfl,rfl⟩ (D _ eo1) ?_;have sz:(s1.heap.push { cls:=.type "dict_values",data:=.fields #[.ref a] }).objs.size=s1.heap.objs.size+1:=Zg ..;have le:s1.heap.objs.size<=(s1.heap.push { cls:=.type "dict_values",data:=.fields #[.ref a] }).objs.size:=by rw[sz];exact Jp _
 have ne:a≠(s1.heap.push { cls:=.type "dict_values",data:=.fields #[.ref a] }).objs.size:=by rw[sz];exact Q0 (QW (Qv eo))
 refine⟨_,[(s1.heap.push { cls:=.type "dict_values",data:=.fields #[.ref a] }).objs.size],_,Ivz a ob ws,H1,rfl,I1.kept (t':=s1.toks) λb u e=>Qf _ (Qf _ e),zwi ne rel D,⟨_,Qs _ rfl,rfl,rfl⟩,λb hb=>?_,q⟩;rw[Qm.mp hb];exact I1.fpOk le (I1.hok.fresh le)
section
variable {K:Qa}{O:Ob}{P:GK}{w:GM}{H:Hp}
theorem ztj(st:Stp O H H1)(hm:¬O.M a)(ha:H1 a=some (stl a o))(z:XV K H1 ws kvs):Walk K O H H1 (Ivz a o ws) (kvs.map (·.2)) (λb=>b=a):=by
 have ln:=z.length;refine⟨st,λb hb=>by subst hb;exact⟨hm,_,ha⟩,λH2 i kb _ hi=>?_,λH2 i d kb t2 hd c=>?_⟩
 .exact⟨by rw[Qc] at hi;lia,kb a _ rfl ha⟩
 .rw[Qh] at hd;obtain⟨p,hp,rfl⟩:=Q2.mp hd;obtain⟨v,hv,fl,iv⟩:=z.get hp;refine⟨⟨(Qn.mp hv).1,kb a _ rfl ha⟩,λx H3 ⟨e3,q,hq,ex⟩=>?_⟩;rw[hv] at hq;cases hq;subst e3 ex;exact⟨Same.refl _,Is.flat t2 iv fl⟩
def z0e(f:DZ):DI:=λρ Q=>f ρ λkvs=>Q false (kvs.map (·.2))
theorem zvi{b:Bool}(h:ZD P w K O b t f):SrcS K O (zrq P w t) (z0e f):=λσ H ρ R Qd S q k=>by
 refine h σ H ρ _ _ S q λv H1 kvs s1 ⟨a,o,ws,e,nm,ha,T,z⟩ _ q1=>?_;exact⟨a,o,ws,e,ha,T,k _ _ _ (λb=>b=a) false (ztj s1 nm ha z) (λz=>by cases z) q1⟩
def zzu(p:Key×GG):GG:=.tuple [kD p.1,p.2]
theorem zpp(hm:¬O.M a)(ha:H a=some (stl a o))(z:XV K H ws kvs):Walk K O H H (Itk a o ws) (kvs.map zzu) (λb=>b=a):=by
 have ln:=z.length;refine⟨.refl _ _,λb hb=>by subst hb;exact⟨hm,_,ha⟩,λH2 i kb _ hi=>?_,λH2 i d kb t2 hd c=>?_⟩
 .exact⟨by rw[Qc] at hi;lia,kb a _ rfl ha⟩
 .rw[Qh] at hd;obtain⟨p,hp,rfl⟩:=Q2.mp hd;obtain⟨v,hv,fl,iv⟩:=z.get hp;refine⟨⟨(Qn.mp hv).1,kb a _ rfl ha⟩,λx H3 ⟨p',q,hn,hq,ex,e3⟩=>?_⟩;rw[hv] at hq;cases hq;subst ex;have sm:Same H2 H3:=by rw[e3];exact L3.same_new hn _
  have ts:TupStay H H3:=λb u hu hb=>sm b u (t2 b u hu hb);refine⟨sm,.tuple (xs:=[kV p.1,v]) (.inl (.inl ?_)) (.cons ?_ (.cons (Is.flat ts iv fl) .nil))⟩
  .rw[e3];exact zae
  .cases p.1 with
   | inl i=>exact .int i
   | inr x=>exact .str x
def zuh(P:GK)(w:GM)(m:Nat):DJ:=λρ Q=>∃kvs,ρ[m]? = some (some (.thr (DctZ P w kvs)))/\Q (kvs.map zzu)
theorem zps{m:Nat}:SrcR K O (zm7 P w (tVar m)) (zuh P w m):=λH₀ A σ H ρ R Qd r q k=>by
 obtain⟨kvs,e,q⟩:=q;obtain⟨v,hv,W,hw,a,o,ws,rfl,f,ha,T,z⟩:=r.at_ m _ e;exact⟨_,hv,a,o,ws,rfl,ha,T,k _ _ _ (λb=>b=a) (zpp f.1 ha z) (λb z=>by subst z;exact f) q⟩
end
section
variable {X:Cx}{pins:0.9}{σ:St}{H:Hp}{s:GJ}{a:Addr}{ks:2.3}{us ys:3.3}{F:3.4}
theorem zs8(I:0.5)(e:H a=some (ddO X.w ks a (us++ys)))(is:IsAll X.K F H us ks):(a == Tk)=false/\ks.length<=sizeLine/\ks.Nodup/\(∀k∈ks,HK.DKey k) /\
 ∃zs:List (GG×Addr×GH),zs.map (·.1)=ks/\Vals us (zs.map λz=>QQ z.2.1)/\Vals ys (zs.map λz=>z.2.2)/\s.heap.DictOfH (HK.dataKind X.prog X.w) a zs:=by
 obtain⟨h1,h2,h3,h4,zs,h5,h6,o,es,ep,h7,h8,h9,h10⟩:=(show ObjOk X.prog X.w H s.heap a (ddO X.w ks a (us++ys)) from I.hok a _ e).1;have l5:zs.length=ks.length:=by rw[<- h5,Qc]
 have lu:us.length=zs.length:=by rw[is.length,l5]
 have hu:=h6.take us.length;have hy:=h6.drop us.length;rw[YI,show us.length=(zs.map λz=>QQ z.2.1).length by simp;lia,YI] at hu;rw[Yl,show us.length=(zs.map λz=>QQ z.2.1).length by simp;lia,Yl] at hy;refine⟨h1,h2,h3,h4,zs,h5,hu,hy,o,es,ep,h7,h8,h9,h10,λz hz=>?_,by rw[h5];exact h3⟩;obtain⟨as,ra⟩:=IsAll.reads I is hu;obtain⟨i,hi⟩:=QK.mp hz;obtain⟨d,bs,hd,r⟩:=zd9 (i:=i) (u:=.ref z.2.1) ra (by rw[Qh,hi];rfl);have hk:ks[i]? = some z.1:=by rw[<- h5,Qh,hi];rfl
 rw[hk] at hd;cases hd;exact⟨h4 _ (Qt hk),bs,r⟩
end
def zwh(w:GM)(K:Qa)(td ty:TE):TE:=λσ H Q=>td σ H λx H1=>ty σ H1 λy H2=>∃(a:Addr) (ks:2.3) (us ys:3.3) (F:3.4) (i:Nat) (k:GG) (v:V),x = .ref a/\H2 a=some (ddO w ks a (us++ys))/\IsAll K F H2 us ks /\
 Is K F H2 y k/\ks[i]? = some k/\ys[i]? = some v/\Q v H2
def zo3(w:GM)(K:Qa)(ty td:TE):TE:=λσ H Q=>ty σ H λy H1=>td σ H1 λx H2=>∃(a:Addr) (ks:2.3) (us ys:3.3) (F:3.4) (k:GG),x = .ref a/\H2 a=some (ddO w ks a (us++ys))/\IsAll K F H2 us ks /\
 Is K F H2 y k/\HK.DKey k/\Q (.bl (!decide (k∈ks))) H2
def zwj(w:GM)(K:Qa)(td ty tv:TE):TS:=λD σ H=>tv σ H λv H1=>td σ H1 λx H2=>ty σ H2 λy H3=>∃(a:Addr) (ks:2.3) (us ys:3.3) (F:3.4) (k:GG),x = .ref a/\H3 a=some (ddO w ks a (us++ys))/\IsAll K F H3 us ks /\
 Is K F H3 y k/\HK.DKey k/\k ∉ ks/\ks.length<sizeLine/\D.nx σ (upd H3 a (ddO w (ks ++ [k]) a ((us ++ [y])++(ys ++ [v]))))
section
variable {X:Cx}{o i e value:Expr}{pos pos':Pos}{td ty tv:TE}
theorem zzk(hu:X.A.units+64<GZ)(ho:PE X o td)(hi:PE X i ty)(hs:NoSl i):PE X (.Subscript o i pos) (zwh X.w X.K td ty):=by
 intro pins s σ H Q I h;refine zj5 Yr.lookup hs (thn (ho pins s σ H _ I h) λu s1 ⟨x,H1,I1,rx,q1⟩=>thn (hi pins s1 σ H1 _ I1 q1) λiv s2 zz=>?_);obtain⟨y,H2,I2,ry,a,ks,us,ys,F,i,k,v,ex,g,is,iy,hk,hv,q2⟩:=zz;subst ex;obtain rfl:u=QQ a:=rx;obtain⟨hd,z,nd,dk,zs,h5,h6,h6',D⟩:=zs8 I2 g is;obtain⟨b,rfl,rfl,kb⟩:=zdt I2 (dk k (Qt hk)) iy ry;obtain⟨p,hz,hp⟩:=znf h5 nd hk;refine⟨D.typeIs,Mz (show _+16<GZ by show X.A.units+1+16<GZ;lia) kb D hp ⟨v,H2,I2.tok _,?_,q2⟩⟩;obtain⟨u',hu',r'⟩:=h6'.get hv;rw[Qh,hz] at hu';cases hu';exact r'
theorem zro(hu:X.A.units+64<GZ)(hi:PE X i ty)(ho:PE X o td):PC X .NotIn i o (zo3 X.w X.K ty td):=by
 intro pins s σ H Q I h;refine thn (hi pins s σ H _ I h) λiv s1 ⟨y,H1,I1,ry,q1⟩=>thn (ho pins s1 σ H1 _ I1 q1) λu s2 zz=>?_;obtain⟨x,H2,I2,rx,a,ks,us,ys,F,k,ex,g,is,iy,hk,q2⟩:=zz;subst ex;obtain rfl:u=QQ a:=rx;obtain⟨hd,z,nd,dk,zs,h5,h6,h6',D⟩:=zs8 I2 g is;obtain⟨b,rfl,rfl,kb⟩:=zdt I2 hk iy ry;refine ME (show _+16<GZ by show X.A.units+1+16<GZ;lia) kb hd D ?_;rw[zf7 h5 nd];exact⟨.bl (!decide (k∈ks)),H2,I2.tok _,rfl,q2⟩
theorem zzn(hu:X.A.units+64<GZ)(ho:PE X o td)(hi:PE X i ty)(hv:PE X value tv)(hs:Tc value (some (.Subscript o i pos')) pos.line X.env=pure false):
 PS X (.Assign [.Subscript o i pos'] value pos) (zwj X.w X.K td ty tv):=by
 intro pins s σ H D I h;refine Ml (thn (hv pins s σ H _ I h) λr s1 ⟨v,H1,I1,rv,q1⟩=>thn (ho pins s1 σ H1 _ I1 q1) λu s2 ⟨x,H2,I2,rx,q2⟩=>thn (hi pins s2 σ H2 _ I2 q2) λiv s3 zz=>?_) hs;obtain⟨y,H3,I3,ry,a,ks,us,ys,F,k,ex,g,is,iy,hk,nk,hz,q3⟩:=zz;subst ex;obtain rfl:u=QQ a:=rx;obtain⟨hd,z,nd,dk,zs,h5,h6,h6',Dd⟩:=zs8 I3 g is;obtain⟨b,rfl,rfl,kb⟩:=zdt I3 hk iy ry
 have none:M4 zs k = .none:=by
  have:=zf7 h5 nd (k:=k);rw[NK nk] at this;cases hh:M4 zs k
  .rfl
  .rw[hh] at this;cases this
 refine M1 (hsz:=by rw[show zs.length=ks.length by rw[<- h5,Qc]];exact Jt hz) (show _+16<GZ by show X.A.units+1+16<GZ;lia) kb Dd λh' D' sb=>⟨σ,_,?_,q3⟩;rw[storedH_new none] at D';obtain⟨q,es,ep,hq,e2,e3,e4,_,e5⟩:=D';refine zfi I3 (by rw[g];exact Yi) sb ⟨q,hq⟩ (ztc ⟨hd,by simp;lia,?_,?_,zs ++ [(k,b,r)],by rw[Qu,h5];rfl,?_,q,es,ep,hq,e2,e3,e4⟩)
 .rw[Qu,h5] at e5;exact e5
 .intro k' hk';rcases Qq.mp hk' with z|z
  .exact dk k' z
  .rw[Qm.mp z];exact hk
 .rw[Qu,Qu];exact(h6.append (.cons (show RelV 5.9 5.9 from rfl) .nil)).append (h6'.append (.cons rv .nil))
end
structure MvAll(P:GK)(w:GM)(K:Qa)(F:3.4)(H:Hp)(us ys:3.3)(ms:List (GG×KX)):Prop where
 dk:∀p∈ms,HK.DKey p.1
 ks:IsAll K (λ_=>False) H us (ms.map (·.1))
 len:ys.length=ms.length
 at_:∀(i:Nat) p,ms[i]? = some p->∃v,ys[i]? = some v/\(DctZ P w p.2).R K F (λ_=>False) H v
theorem MvAll.fl{P:GK}{w:GM}{K:Qa}{F:3.4}{H:Hp}{us ys:3.3}{ms:List (GG×KX)}(h:MvAll P w K F H us ys ms):flats (ms.map (·.1))=true :=
 flats_iff.mpr λd hd=>let ⟨p,hp,e⟩:=Qo.mp hd;e ▸ zds _ (h.dk p hp).ha
theorem MvAll.to{P:GK}{w:GM}{K:Qa}{F F':3.4}{H H':Hp}{us ys:3.3}{ms:List (GG×KX)}(hF:∀a u,F a->H a=some u->F' a/\H' a=some u)(ts:TupStay H H')(h:MvAll P w K F H us ys ms):MvAll P w K F' H' us ys ms :=
 ⟨h.dk,IsAll.flats ts h.ks h.fl,h.len,λi p e=>let ⟨v,hv,z⟩:=h.at_ i p e;⟨v,hv,(DctZ P w p.2).to hF (λ_ _ z=>z.elim) ts z⟩⟩
def MvT(P:GK)(w:GM)(ms:List (GG×KX)):Thg :=
 ⟨λK F W H v=>∃a us ys,v = .ref a/\W a/\H a=some (ddO w (ms.map (·.1)) a (us++ys))/\MvAll P w K F H us ys ms,
  λhF hW ts ⟨a,us,ys,e,w1,q,z⟩=>⟨a,us,ys,e,(hW a _ w1 q).1,(hW a _ w1 q).2,z.to hF ts⟩⟩
section
variable {K:Qa}{O:Ob}{P:GK}{w:GM}
def z0j(P:GK)(w:GM)(i:Nat):DS:=λDd ρ=>Dd.nx (ρ.set i (some (.thg (MvT P w []))))
theorem zyg{i:Nat}:SD K O (tAsg (zni w) (zav i)) (z0j P w i):=λH₀ A σ H ρ D Dd r q Ps=>by
 intro p hp;have st:Stp O H (upd H p (ddO w [] p [])):=.new r.ok hp _;have hW:∀b,b=p->(A i b\/H b=ZO)/\∃o,upd H p (ddO w [] p []) b=some o/\OwnO o:=λb e=>by subst e;exact⟨.inr hp,_,zae,zht⟩
 exact Ps.nx _ _ _ _ (r.setT (W:=λb=>b=p) (T:=MvT P w []) st (λb u e _=>e) hW ⟨p,[],[],rfl,rfl,zae,λ_ z=>(nomatch z),.nil,rfl,λi p e=>by simp at e⟩) (.setT st (λb u e _=>e) λb m=>(hW b m).1) q
def zz0(P:GK)(w:GM)(n:Nat)(fk:DE):DT:=λρ Q=>∃ms,ρ[n]? = some (some (.thg (MvT P w ms)))/\fk ρ λr=>HK.DKey r.d/\∀b:Bool,(b=true↔r.d ∉ ms.map (·.1))->Q b
theorem zyv{n:Nat}(h:ED K O t f):TD K O (tB (zo3 w K t (tVar n))) (zz0 P w n f):=λσ H ρ Q Qd S q k=>by
 obtain⟨ms,e,q⟩:=q;refine h σ H ρ _ _ S q λy H1 r s1 o1 zz=>?_;obtain⟨hk,q1⟩:=zz;obtain⟨v,hv,W,hw,a,us,ys,rfl,w1,g,z⟩:=(S.stp s1).at_ n _ e;exact⟨_,hv,a,_,us,ys,unM O,r.d,rfl,g,z.ks.weak (λ_ z=>z.elim),o1.is S.ok S.p,hk,_,rfl,k _ H1 s1 (q1 _ 0.1)⟩
def z1d(P:GK)(w:GM)(n:Nat)(fk:DE):DZ:=λρ Q=>∃ms,ρ[n]? = some (some (.thg (MvT P w ms)))/\fk ρ λr=>∃(i:Nat) (kvs:KX),ms[i]? = some (r.d,kvs)/\Q kvs
theorem zx7{n:Nat}(h:ED K O t f):ZD P w K O false (zwh w K (tVar n) t) (z1d P w n f):=λσ H ρ Q Qd S q k=>by
 obtain⟨ms,e,q⟩:=q;obtain⟨v0,hv0,W,hw,a0,us0,ys0,rfl,w1,g,z⟩:=S.at_ n _ e;refine⟨_,hv0,?_⟩;refine h σ H ρ _ _ S q λy H1 r s1 o1 zz=>?_;obtain⟨i,kvs,hm,q1⟩:=zz;have z1:MvAll P w K 3.7 H1 us0 ys0 ms:=z.to (λa u f q=>⟨f,s1.s a u q f⟩) s1.t;obtain⟨v,hv,zz⟩:=z1.at_ i _ hm;exact⟨a0,_,us0,ys0,unM O,i,r.d,v,rfl,s1.s a0 _ g (hw a0 w1).1,z1.ks.weak (λ_ z=>z.elim),o1.is S.ok S.p,by rw[Qh,hm];rfl,hv,k v H1 kvs s1 zz (λe=>by cases e) q1⟩
def z0d(P:GK)(w:GM)(n:Nat)(fv:DZ)(fk:DE):DS:=λDd ρ=>∃ms,ρ[n]? = some (some (.thg (MvT P w ms)))/\fv ρ λkvs=>fk ρ λrk=>HK.DKey rk.d/\rk.d ∉ ms.map (·.1)/\ms.length<sizeLine/\Dd.nx (ρ.set n (some (.thg (MvT P w (ms ++ [(rk.d,kvs)])))))
theorem zzc{n:Nat}(hv:ZD P w K O true tv fv)(hk:ED K O tk fk):SD K O (zwj w K (tVar n) tk tv) (z0d P w n fv fk):=λH₀ A σ H ρ D Dd r q Ps=>by
 obtain⟨ms,e,q⟩:=q;refine hv σ H ρ _ _ r.seen q λv H1 kvs s1 o1 n1 q1=>?_;obtain⟨v0,hv0,a,us,ys,rfl,w1,g,z⟩:=r.at_ n _ e;refine⟨_,hv0,?_⟩;refine hk σ H1 ρ _ _ (r.seen.stp s1) q1 λy H2 rk s2 o2 zz=>?_;obtain⟨dk,nk,lt,q2⟩:=zz;have st:=s1.trans s2;have m:=(r.own n a w1).2.2;have g2:H2 a=some (ddO w (ms.map (·.1)) a (us++ys)):=st.s a _ g m;have z2:MvAll P w K (unO O A) H2 us ys ms:=z.to (λb u f q=>⟨f,st.s b u q f.1⟩) st.t;have iy:Is K (λ_=>False) H2 y rk.d:=Is.flat (TupStay.refl H2) (o2.is r.ok (s1.p r.p)) (zds _ dk.ha);refine⟨a,_,us,ys,λ_=>False,rk.d,rfl,g2,z2.ks,iy,dk,nk,by rw[Qc];exact lt,?_⟩;have ez:ddO w (ms.map (·.1) ++ [rk.d]) a ((us ++ [y])++(ys ++ [v]))=ddO w ((ms ++ [(rk.d,kvs)]).map (·.1)) a ((us ++ [y])++(ys ++ [v])):=by rw[Qu];rfl
 rw[ez];have hW:∀c,c=a->(A n c\/H c=ZO)/\∃o,upd H2 a (ddO w ((ms ++ [(rk.d,kvs)]).map (·.1)) a ((us ++ [y])++(ys ++ [v]))) c=some o/\OwnO o:=λc e=>by subst e;exact⟨.inl w1,_,zae,zht⟩
 have stay:∀c u,H2 c=some u->¬A n c->upd H2 a (ddO w ((ms ++ [(rk.d,kvs)]).map (·.1)) a ((us ++ [y])++(ys ++ [v]))) c=some u:=λc u e n=>by
  rw[zac λz=>n (by rw[z];exact w1)];exact e
 have ts3:=(r.stp st).tstay stay;have zz2:=zOut (W':=λ_=>False) s2 o1
 have fr:∀b,unO O A b->unO O (reg A n (λc=>c=a)) b:=λb f=>⟨f.1,λj x=>by
  rcases x with x|x
  .exact f.2 j x.2
  .exact f.2 n (by rw[x.2];exact w1)⟩
 have z3:MvAll P w K (unO O (reg A n (λc=>c=a))) (upd H2 a (ddO w ((ms ++ [(rk.d,kvs)]).map (·.1)) a ((us ++ [y])++(ys ++ [v])))) (us ++ [y]) (ys ++ [v]) (ms ++ [(rk.d,kvs)]):=by
  have z2':=z2.to (F':=unO O (reg A n (λc=>c=a))) (λb u f q=>⟨fr b f,stay b u q (f.2 n)⟩) ts3;refine⟨λp hp=>?_,?_,by rw[Qj,Qj,z2.len];rfl,λi p e=>?_⟩
  .rcases Qq.mp hp with x|x
   .exact z2.dk p x
   .rw[Qm.mp x];exact dk
  .have:=z2'.ks.snoc (Is.flat ts3 iy (zds _ dk.ha));rwa [show ms.map (·.1) ++ [rk.d]=(ms ++ [(rk.d,kvs)]).map (·.1) by rw[Qu];rfl] at this
  .by_cases hi:i<ms.length
   .rw[QA hi] at e;obtain⟨u,hu,zz⟩:=z2'.at_ i p e;exact⟨u,by rw[QA (by rw[z2.len];exact hi)];exact hu,zz⟩
   .rw[QF (Jr hi)] at e
    have hi0:i-ms.length=0:=by
     rcases Nat.eq_zero_or_pos (i-ms.length) with x|x
     .exact x
     .rw[QD (show[(rk.d,kvs)].length<=_ from x)] at e;cases e
    rw[hi0] at e;cases e;obtain⟨b,o,ws,rfl,nm,hb,T,l⟩:=zz2
    have nb:∀j,¬A j b:=λj x=>by
     obtain⟨_,⟨u,hu,_⟩,_⟩:=r.own j b x;rw[n1 rfl b rfl] at hu;cases hu
    exact⟨.ref b,by rw[QF (by rw[z2.len];exact Jr hi),z2.len,hi0];rfl,b,o,ws,rfl,fr b ⟨nm,nb⟩,stay b _ hb (nb n),T,l.to ts3⟩
 have rr:=r.setT (i:=n) (v:=.ref a) (W:=λc=>c=a) (T:=MvT P w (ms ++ [(rk.d,kvs)])) st stay hW ⟨a,_,_,rfl,rfl,zae,z3⟩;rw[zid hv0] at rr;exact Ps.nx _ _ _ _ rr (.setT st stay λc m=>(hW c m).1) q2
end
def Z3{ι κ:Type}(P:GK)(w:GM)(b:Bool)(K:Qa)(X:ι->Cx)(O:κ->Ob)(e:Expr)(f:DZ):Prop:=∃t,(∀i,PE (X i) e t)/\∀j,ZD P w K (O j) b t f
def Sz3{ι κ:Type}(P:GK)(w:GM)(K:Qa)(X:ι->Cx)(O:κ->Ob)(s:List Stmt)(g:(KX->Prop)->DSt->Prop):Prop:=∃t,(∀i,PSs (X i) s t)/\∀j,SDz P w K (O j) t g
section
variable {ι κ:Type}{P:GK}{w:GM}{K:Qa}{mg:0.4}{base:Heap}{k:Nat}{X:ι->Cx}{O:κ->Ob}{a b c tg:Expr}{es:List Expr}{fa fb:DE}{fz fy:DZ}{ft:DT}{ga:DGA}{pos p px p1 apos cpos:Pos}{x y:Str}{bb:Bool}{st:Stmt}{sts:List Stmt}{g1:DS}{elts:List Expr}{x1:Nat}
theorem zzo(i:Nat){k':Nat}(C:0.6)(hφ:∀j,φ (O j))(ha:AG3 K X O (a::es) ga)(hk:k'<=k:=by decide)
 (hN:∀j,(X j).N[i]? = some y:=by intro i;rfl) (hv:∀j,Vis (X j).env.scope y:=by intro i;first|exact Or.inl rfl|exact Or.inr 4.5|exact Or.inr 4.4) (hd:(y == ("__debug__" : Str))=false:=by decide) (hcd:(y == ("__classdict__" : Str))=false:=by decide)
 (he:6.5:=by intro i;rfl) (hpl:∀i,(TM pos (GN es (X i).env)).any (·.1)=false:=by intro i;rfl):Z3 P w bb K X O (.Call (.Name y p) (a::es) [] pos) (z1a P w mg base k' φ i ga):=by
 obtain⟨t,q,d⟩:=ha;refine⟨zi9 P w K mg base k' i t,λj=>?_,λj=>zyb (hφ j) (d j)⟩;have:=zo6 (X:=X j) (pos:=pos) (p:=p) ((C.room j).mono hk) (hN j) (hv j) (q j) hd hcd (he j) (hpl j);rw[C.hP,C.hw,C.hK,C.hmg,C.hb] at this;exact this
theorem zwy(n:Nat)(C:0.6)(ha:2.2)(hN:1.8:=by intro i;rfl)(hv:2.6:=by intro i;first|exact Or.inl rfl|exact Or.inr 4.5|exact Or.inr 4.4)(hd:1.1:=by decide)(hcd:2.0:=by decide)
 (hs:NoSl a:=by intro _ _;rfl):Z3 P w false K X O (.Subscript 1.9 a pos) (z1d P w n fa):=let ⟨_,p1,d1⟩:=ha;
 ⟨_,λi=>by
  have h:=zzk (pos:=pos) (C.room i).units 5.4 (p1 i) hs;rw[C.hw,C.hK] at h
  exact h,λj=>zx7 (d1 j)⟩
theorem g_z(ha:Z3 P w bb K X O a fz)(hs:AG3 K X O es ga)(he:6.5:=by intro i;rfl):AG3 K X O (a::es) (gZA P w fz ga):=let ⟨_,p1,d1⟩:=ha;let ⟨_,p2,d2⟩:=hs;⟨_,λi=>zao (p1 i) (p2 i) (he i),λj=>ag_z (d1 j) (d2 j)⟩
theorem zu6{n k':Nat}(D:Def3 P w K mg base k' x ps sp)(m:mg x=some (.ref f))(hn:ps.length=n):Calls P w K mg base k' f [] [] n sp:=by
 obtain⟨f',fd,G,m',kp,bn⟩:=D.ex;rw[m] at m';cases m';refine⟨λA outer s H e0 _ M=>PySem.W.keeps_K kp _ (e0.mod.kin.keeps λb o e=>(e0.bs b o e).1),λA outer s H us vs Q hr e0 _ r hl q=>?_⟩;rw[QR] at q;have hu:us.length=ps.length:=by rw[<- r.length,hl,hn]
 have bb:=bn s us (e0.mod.kin.keeps λb o e=>(e0.bs b o e).1) (by rw[QR];exact hu);rw[QR] at bb;exact G.run A outer s H ⟨us,[]⟩ us vs Q E0 hr e0 bb r q
theorem zuv{k' n:Nat}(C:0.6)(D:Def3 P w K mg base k' x ps (sp K))(hs:AG3 K X O es ga)(hn:ps.length=n:=by rfl)(hg:∀i,Gl (X i) x:=by intro i;rfl)(hdb:1.1:=by decide)
 (he:∀i,GN (.Name x px::es) (X i).env=(false,eval 1.9 (X i).env)::GN es (X i).env:=by intro i;rfl):AG3 K X O (.Name x px::es) (zz6 (zf4 P w mg base k' n sp []) ga):=by
 obtain⟨f,fd,G,m,kp,bn⟩:=D.ex;obtain⟨_,p2,d2⟩:=hs;exact⟨_,λi=>zao (zp3 (v:=.ref f) (hg i) (by rw[C.hmg];exact m) rfl hdb) (p2 i) (he i),λj=>z5h (zu6 D m hn) (d2 j)⟩
theorem z7f(C:0.6)(h:Z3 P w bb K X O a fz)(hbase:∀i,Th a "values" (X i).env (eval a (X i).env)=eval a (X i).env:=by intro i;rfl)(hline:(apos.endLine == cpos.line)=true:=by rfl):I3 K X O tg (.Call (.Attribute a "values" apos) [] [] cpos) (z0e fz) :=
 let ⟨t,p,d⟩:=h;⟨zrq P w t,λi=>by have h:=z1x (X:=X i) (tg:=tg) (apos:=apos) (cpos:=cpos) (p i) (hbase i) hline;rw[C.hP,C.hw] at h;exact h,λj=>zvi (d j)⟩
theorem zxt(n:Nat)(C:0.6)(hN:1.8:=by intro i;rfl)(hv:2.6:=by intro i;first|exact Or.inl rfl|exact Or.inr 4.5|exact Or.inr 4.4)(hd:1.1:=by decide)(hcd:2.0:=by decide)
 (hbase:∀i,Th 1.9 "items" (X i).env (eval 1.9 (X i).env)=eval 1.9 (X i).env:=by intro i;rfl) (hline:(apos.endLine == cpos.line)=true:=by rfl):J3 K X O (.Tuple elts x1 pos) (.Call (.Attribute 1.9 "items" apos) [] [] cpos) (zuh P w n) :=
 ⟨zm7 P w (tVar n),λi=>by have h:=zya (X:=X i) (elts:=elts) (x1:=x1) (pos:=pos) (apos:=apos) (cpos:=cpos) 5.4 (hbase i) hline;rw[C.hP,C.hw] at h;exact h,λj=>zps⟩
theorem z6t(n:Nat)(hN:∀i,(X i).N.Nodup:=by intro i;exact NL 2.5)(hi:1.8:=by intro i;rfl)(hx:∀i,Loc (X i).env.scope x:=by intro i;first|exact Or.inl rfl|exact Or.inr rfl)
 (hs:∀i,Tc (.Dict [] [] p1) (some 1.9) pos.line (X i).env=pure false:=by intro i;rfl) (hf:6.2:=by intro i;first|exact .inl rfl|exact .inr rfl) :
 S3 K X O (.Assign [.Name x px] (.Dict [] [] p1) pos) (newX n):=⟨_,λi=>zb3 (hN i) (hi i) (hx i) zow (hs i) (hf i),λj=>z3s⟩
theorem z6k(n:Nat)(C:0.6)(hv:2.2)(hi:E3 K X O b fb)(hN:1.8:=by intro i;rfl)(hvx:2.6:=by intro i;first|exact Or.inl rfl|exact Or.inr 4.5|exact Or.inr 4.4)(hd:1.1:=by decide)(hcd:2.0:=by decide)
 (hs:∀i,Tc a (some (.Subscript 1.9 b p1)) pos.line (X i).env=pure false:=by intro i;rfl) :
 S3 K X O (.Assign [.Subscript 1.9 b p1] a pos) (putX n fa fb):=let ⟨_,q1,d1⟩:=hv;let ⟨_,q2,d2⟩:=hi;⟨_,λi=>zff (zce (C.room i)) (zag (pos:=px) (hN i) (hvx i) hd hcd) (q2 i) (q1 i) (hs i),λj=>z2i (d1 j) (d2 j)⟩
theorem z4e(n:Nat)(C:0.6)(hN:∀i,(X i).N.Nodup:=by intro i;exact NL 2.5)(hi:1.8:=by intro i;rfl)(hx:∀i,Loc (X i).env.scope x:=by intro i;first|exact Or.inl rfl|exact Or.inr rfl)
 (hs:∀i,Tc (.Dict [] [] p1) (some 1.9) pos.line (X i).env=pure false:=by intro i;rfl) (hf:6.2:=by intro i;first|exact .inl rfl|exact .inr rfl) :
 S3 K X O (.Assign [.Name x px] (.Dict [] [] p1) pos) (z0j P w n):=⟨_,λi=>by
 have h:=zom (X:=X i) (pos:=p1);rw[C.hw] at h
 exact zb3 (hN i) (hi i) (hx i) h (hs i) (hf i),λj=>zyg⟩
theorem z4z(n:Nat)(C:0.6)(ha:2.2)(hN:1.8:=by intro i;rfl)(hv:2.6:=by intro i;first|exact Or.inl rfl|exact Or.inr 4.5|exact Or.inr 4.4)(hd:1.1:=by decide)(hcd:2.0:=by decide)
 (hm:Ti .NotIn 1.9=false:=by rfl):T3 K X O (.Compare a [.NotIn] [.Name x px] pos) (zz0 P w n fa):=let ⟨_,p1,d1⟩:=ha;
 ⟨_,λi=>by
  have h:=zro (C.room i).units (p1 i) 5.4;rw[C.hw,C.hK] at h
  exact zop h hm,λj=>zyv (d1 j)⟩
theorem z3i(n:Nat)(C:0.6)(hv:Z3 P w true K X O a fz)(hi:E3 K X O b fb)(hN:1.8:=by intro i;rfl)(hvx:2.6:=by intro i;first|exact Or.inl rfl|exact Or.inr 4.5|exact Or.inr 4.4)(hd:1.1:=by decide)(hcd:2.0:=by decide)
 (hs:∀i,Tc a (some (.Subscript 1.9 b p1)) pos.line (X i).env=pure false:=by intro i;rfl) :
 S3 K X O (.Assign [.Subscript 1.9 b p1] a pos) (z0d P w n fz fb):=let ⟨_,q1,d1⟩:=hv;let ⟨_,q2,d2⟩:=hi;
 ⟨_,λi=>by
  have h:=zzn (pos:=pos) (pos':=p1) (C.room i).units (zag (pos:=px) (hN i) (hvx i) hd hcd) (q2 i) (q1 i) (hs i);rw[C.hw,C.hK] at h
  exact h,λj=>zzc (d1 j) (d2 j)⟩
theorem z3o(m:Nat)(C:0.6)(hN:∀i,(X i).N[m]? = some x:=by intro i;rfl)(hv:2.6:=by intro i;first|exact Or.inl rfl|exact Or.inr 4.5|exact Or.inr 4.4)(hd:1.1:=by decide)(hcd:2.0:=by decide):
 Sz3 P w K X O [.Return (some 1.9) pos] (rtXz m):=⟨_,λi=>by
 have h:=zum (X:=X i) 5.4;rw[C.hP,C.hw] at h
 exact zcq (zd1 h),λj=>z1v⟩
theorem zp9(h:S3 K X O st g1)(h':Sz3 P w K X O sts g2):Sz3 P w K X O (st::sts) (λQk ρ=>g1 { nx:=g2 Qk,rt:=λ_=>False } ρ):=let ⟨_,p,d⟩:=h;let ⟨_,p2,d2⟩:=h';⟨_,λi=>za7 (p i) (p2 i),λj=>zy6 (d j) (d2 j)⟩
end
section
variable {P:GK}{w:GM}{K:Qa}{mg:0.4}{base:Heap}{k n:Nat}{x:Str}{st:Stmt}{N ps:2.4}{φ:Ob->Prop}{F:List DV->(KX->Prop)->Prop}
theorem mk_Z(T:Top3 K mg x st)(S:FnScope N ps 6.3)(hb:∀(kV doc pm:GH) (an:Option Addr) (cdv ct:GH) (us:2.8),us.length=ps.length->TV (ZS x x (zb0 st) (za2 st) 6.3 .none kV doc pm an cdv ct) ⟨us,[]⟩=pure (ps.zip us))(hn:ps.length=n)
 (body:∀(f:Addr) (cdv:GH) (A:GQ) (outer:List Env) (s:GJ) (H:Hp) (E:XK) (O:Ob),φ O->Ctx3 P w K mg base k (zcb P w K mg base N x 6.3 f cdv A outer s H E) ->
  ∃g,Sz3 P w K (zcb P w K mg base N x 6.3 f cdv A outer s H E) (λ_:Unit=>O) (za2 st) g/\∀rs Qk,rs.length=n->F rs Qk->g Qk (zb4 N rs)):Def3 P w K mg base (k+1) x ps (spZ P w K φ n F):=by
 obtain⟨f,fd,Fu,m⟩:=T.ex;refine⟨f,fd,Fu.ok S (z2w hn) (λcdv A outer s H vs Q E hr h=>?_),m,Fu.kp,Fu.binds hb⟩;obtain⟨O,rs,Qk,ok,hφ,p,hl,is,q,kk⟩:=h;obtain⟨g,⟨t,h1,h2⟩,h3⟩:=body f cdv A outer s H E O hφ (zed hr);exact⟨t,h1 (),h2 () H _ _ H _ Q Qk _ (zi1 ok p is) (h3 rs Qk hl q) λkvs v H' qk s2 o n2=>kk kvs v H' qk s2 o n2⟩
end
section
variable {α:Type}{mv:α->List α}{rank:α->Nat}
def zcd(R:4.2)(told:α->Bool):Nat:=(R.filter λs=>!told s).length
theorem zyy{told told':α->Bool}: ∀{R:4.2},t∈R->told t=false->told' t=true->(∀s,told s=true->told' s=true)->zcd R told'<zcd R told:=by
 have le:∀{R:4.2},(∀s,told s=true->told' s=true)->zcd R told'<=zcd R told:=λ{R} up=>by
  unfold zcd
  induction R with
  | nil=>exact Qg _
  | cons s R ih=>
    rw[Zz,Zz]
    cases h:told s with
    | true=>
      rw[up s h];exact ih
    | false=>
      cases h':told' s with
      | true=>simp only[Y0,V1,NR,QT,NQ,Ql];lia
      | false=>simp only[V1,NR,Ql];lia
 intro R hm h0 h1 up;obtain⟨a,b,rfl⟩:=Y6 hm;have la:=le (R:=a) up;have lb:=le (R:=b) up;unfold zcd at la lb ⊢;rw[Y3,Y3,Zz,Zz,h0,h1];simp only[Y0,V1,NR,QT,NQ,Qj,Ql];lia
def zef(K:Nat)(R:4.2)(told:α->Bool)(r:Nat):Nat:=zcd R told * (K+1)+r
theorem zs4{K:Nat}{R:4.2}{told:α->Bool}{r r':Nat}(h:r'<r):zef K R told r'<zef K R told r:=by unfold zef;lia
theorem zt7{K:Nat}{R:4.2}{told told':α->Bool}{r r':Nat}(h:zcd R told'<zcd R told)(hr:r'<=K):zef K R told' r'<zef K R told r:=by
 unfold zef;have:(zcd R told'+1) * (K+1)<=zcd R told * (K+1):=Jz _ h;rw[Y9] at this;lia
end
theorem Def3.lift{P:GK}{w:GM}{K:Qa}{mg:0.4}{base:Heap}{k k':Nat}{x:Str}{ps:2.4}{sp:Sp}(D:Def3 P w K mg base k x ps sp)(h:k<=k'):Def3 P w K mg base k' x ps sp:=by
 obtain⟨f,fd,G,m,kp,bn⟩:=D.ex;exact⟨f,fd,G.mono h,m,kp,bn⟩
structure Told(mv:GG->KX)(S:GG->Prop)(rank:GG->Nat)(T:GG->GG)(start:GG)(L:2.3):Prop where
 st:S start
 mem:∀s,S s->s∈L
 few:L.length<100000
 low:rank start<100000
 dk:∀s,S s->HK.DKey s
 cl:∀s,S s->∀p∈mv s,S p.2
 dn:∀s,S s->∀p∈mv s,rank p.2<rank s
 fl:∀s,S s->flat (T s)=true
 sm:∀s,S s->(mv s).length<100000
abbrev zfT(P:GK)(w:GM)(mg:0.4)(base:Heap)(φ:Ob->Prop)(F:List DV->(KX->Prop)->Prop)(fs:2.3):Thg:=zf4 P w mg base 20 1 (λK=>spZ P w K φ (1+fs.length) F) fs
abbrev tfT(P:GK)(w:GM)(mg:0.4)(base:Heap)(φ:Ob->Prop)(F:List DV->2.7->Prop)(fs:2.3):Thg:=zf4 P w mg base 20 3 (λK=>spG K φ (3+fs.length) F) fs
def zst(P:GK)(w:GM)(mg:0.4)(base:Heap)(φ:Ob->Prop):List DV->2.7->Prop:=λrs Q=>
 ∃(start:GG) (mv:GG->KX) (S:GG->Prop) (rank:GG->Nat) (T:GG->GG) (L:2.3) (Fm:List DV->(KX->Prop)->Prop) (Ft:List DV->2.7->Prop) (fm ft:2.3),
   rs = [.im start,.thr (zfT P w mg base φ Fm fm),.thr (tfT P w mg base φ Ft ft)]/\Told mv S rank T start L /\
   (∀s,S s->∀Q,Q (mv s)->Fm (.im s::fm.map .im) Q) /\
   (∀s ks vs,S s->ks.length=vs.length->(∀(i:Nat) k,ks[i]? = some k->S k/\vs[i]? = some (T k))->(∀p∈mv s,p.2∈ks)->∀Q,Q (.o (T s))->Ft (.im s :: .thr (DctZ P w (mv s)) :: .rd (ddO w ks) (ks++vs)::ft.map .im) Q) /\
   Q (.o (T start))
theorem Told.flat{rank:GG->Nat}{start:GG}(h:Told mv S rank T start L)(hs:S s):L3.flat s=true:=zds _ (h.dk s hs).ha
noncomputable def tlB(ks:2.3)(s:GG):Bool:=@decide (s∈ks) (J2 _)
theorem tlB_iff: tlB ks s=true↔s∈ks:=by unfold tlB;exact @NS _ (J2 _)
theorem tlB_not: tlB ks s=false↔s ∉ ks:=by rw[<- tlB_iff];simp
theorem zme{α:Type}{rank:α->Nat}:∀{ds:4.2} {R:Nat},ds.Pairwise (λa b=>rank b<rank a)->(∀d∈ds,rank d<=R)->ds.length<=R+1
 | [],_,_,_=>Q6 _
 | d::ds,R,h,hr=>by
   obtain⟨h1,h2⟩:=Z1.mp h;have r0:=hr d Qp;rw[Ql]
   cases hd:rank d with
   | zero=>
     cases ds with
     | nil=>simp
     | cons e ds=>have:=h1 e Qp;lia
   | succ n=>
     have:=zme (R:=n) h2 λe he=>by have:=h1 e he;lia
     lia
theorem zv4{xs ys:2.3}(h:xs.Nodup)(hs:∀k∈xs,k∈ys):xs.length<=ys.length:=by
 induction xs generalizing ys with
 | nil=>exact Q6 _
 | cons x xs ih=>
   obtain⟨n1,n2⟩:=Zq.mp h;obtain⟨u,v,rfl⟩:=Y6 (hs x Qp)
   have:=ih (ys:=u++v) n2 λk hk=>by
    rcases Qq.mp (hs k (Qe _ hk)) with z|z
    .exact QE _ z
    .rcases Qz.mp z with z|z
     .exact absurd (z ▸ hk) n1
     .exact QG _ z
   rw[Qj] at this;rw[Ql,Qj,Ql];lia
structure ToldA{α:Type}(enc:α->GG)(mv:α->List (Key×α))(S:α->Prop)(rank:α->Nat)(T:α->GG)(start:α)(L:4.2):Prop where
 inj:∀a b,S a->S b->enc a=enc b->a=b
 st:S start
 mem:∀s,S s->s∈L
 few:L.length<100000
 low:rank start<100000
 dk:∀s,S s->HK.DKey (enc s)
 cl:∀s,S s->∀p∈mv s,S p.2
 dn:∀s,S s->∀p∈mv s,rank p.2<rank s
 fl:∀s,S s->flat (T s)=true
 sm:∀s,S s->(mv s).length<100000
def mvE{α:Type}(enc:α->GG)(m:List (Key×α)):KX:=m.map λp=>(p.1,enc p.2)
theorem zx2{α:Type}{enc:α->GG}{mv:α->List (Key×α)}{S:α->Prop}{rank:α->Nat}{T:α->GG}{start:α}{L:4.2}{mg:0.4}{base:Heap}     
 (h:ToldA enc mv S rank T start L) (hm:∀a,S a->∀Q,Q (mvE enc (mv a))->Fm (.im (enc a)::fm.map .im) Q)
 (ht:∀a ks vs,S a->ks.length=vs.length->(∀p∈mv a,∃i:Nat,ks[i]? = some (enc p.2)/\vs[i]? = some (T p.2))->∀Q,Q (.o (T a))->Ft (.im (enc a) :: .thr (DctZ P w (mvE enc (mv a))) :: .rd (ddO w ks) (ks++vs)::ft.map .im) Q)
 (q:Q (.o (T start))):zst P w mg base φ [.im (enc start),.thr (zfT P w mg base φ Fm fm),.thr (tfT P w mg base φ Ft ft)] Q:=by
 let S':GG->Prop:=λd=>∃a,S a/\enc a=d
 let pk:GG->α:=λd=>@dite _ (S' d) (J2 _) (λz=>YY z) λ_=>start
 have pkE:∀a,S a->pk (enc a)=a:=λa ha=>by
  have z:S' (enc a):=⟨a,ha,rfl⟩;show @dite _ (S' (enc a)) (J2 _) (λz=>YY z) (λ_=>start)=a;rw[dif_pos z];obtain⟨h1,h2⟩:=YO z;exact h.inj _ _ h1 ha h2
 refine⟨enc start,λd=>mvE enc (mv (pk d)),S',λd=>rank (pk d),λd=>T (pk d),L.map enc,Fm,Ft,fm,ft,rfl,⟨⟨start,h.st,rfl⟩,?_,by rw[Qc];exact h.few,?_,?_,?_,?_,?_,?_⟩,?_,?_,?_⟩
 .rintro d ⟨a,ha,rfl⟩;exact Qo.mpr ⟨a,h.mem a ha,rfl⟩
 .show rank (pk (enc start))<_;rw[pkE _ h.st];exact h.low
 .rintro d ⟨a,ha,rfl⟩;exact h.dk a ha
 .rintro d ⟨a,ha,rfl⟩ p hp
  try dsimp only at hp
  rw[pkE a ha] at hp;obtain⟨x,hx,rfl⟩:=Qo.mp hp;exact⟨x.2,h.cl a ha x hx,rfl⟩
 .rintro d ⟨a,ha,rfl⟩ p hp
  try dsimp only at hp ⊢
  rw[pkE a ha] at hp ⊢;obtain⟨x,hx,rfl⟩:=Qo.mp hp
  try dsimp only
  rw[pkE _ (h.cl a ha x hx)];exact h.dn a ha x hx
 .rintro d ⟨a,ha,rfl⟩
  try dsimp only
  rw[pkE a ha];exact h.fl a ha
 .rintro d ⟨a,ha,rfl⟩
  try dsimp only
  rw[pkE a ha];unfold mvE;rw[Qc];exact h.sm a ha
 .rintro d ⟨a,ha,rfl⟩ Q q
  try dsimp only at q
  rw[pkE a ha] at q;exact hm a ha Q q
 .rintro d ks vs ⟨a,ha,rfl⟩ hl hk hp Q q
  try dsimp only at hk hp q ⊢
  rw[pkE a ha] at hp q ⊢;refine ht a ks vs ha hl (λp hpm=>?_) Q q;have:=hp (p.1,enc p.2) (Qo.mpr ⟨p,hpm,rfl⟩);obtain⟨i,hi⟩:=QK.mp this;obtain⟨_,hv⟩:=hk i _ hi;rw[pkE _ (h.cl a ha p hpm)] at hv;exact⟨i,hi,hv⟩
 .show Q (.o (T (pk (enc start))));rw[pkE _ h.st];exact q
def Glo(K:Qa)(mg:0.4)(x:Str)(d:GG):Prop:=∃v u,mg x=some u/\RelV v u/\∀F H,Is K F H v d
def zjh:List GH->List Str->Prop
 | [],[]=>True
 | u::us,x::xs=>(∃t,u = .str x t)/\zjh us xs
 | _,_=>False
theorem ze0{K:Qa}{F:3.4}{H:Hp}:∀{us:2.8} {xs:2.4},zjh us xs->Vals (xs.map V.str) us/\IsAll K F H (xs.map V.str) (xs.map .str)
 | [],[],_=>⟨.nil,.nil⟩
 | [],_::_,h=>h.elim
 | _::_,[],h=>h.elim
 | u::us,x::xs,h=>by
   obtain⟨⟨t,rfl⟩,h⟩:=h;obtain⟨h1,h2⟩:=ze0 (K:=K) (F:=F) (H:=H) h;exact⟨.cons ⟨t,rfl⟩ h1,.cons (.str x) h2⟩
structure TupIn(K:Qa)(x:Str)(xs:2.4):Prop where
 ex:∃(a:Addr) (od:Option Addr) (its:Array GH) (n:Nat) (sl:Array (Option GH)),QZ K mainGlobals x=some (some 3.1)/\K.lookup a=some ⟨.type "tuple",od,.seq its n,sl⟩/\its.size<=sizeLine/\zjh its.toList xs
theorem tupIn_mk{K:Qa}{x:Str}{xs:2.4}{a:Addr}{od:Option Addr}{its:Array GH}{n:Nat}{sl:Array (Option GH)}(h1:QZ K mainGlobals x=some (some 3.1))(h2:K.lookup a=some ⟨.type "tuple",od,.seq its n,sl⟩)(h3:its.size<=sizeLine)(h4:zjh its.toList xs):TupIn K x xs:=⟨a,od,its,n,sl,h1,h2,h3,h4⟩
theorem TupIn.glo{K:Qa}{x:Str}{xs:2.4}{h:Heap}{mg:0.4}(T:TupIn K x xs)(X:K.In h)(G:h.Ns mainGlobals mg):Glo K mg x (.tuple (xs.map .str)):=by
 obtain⟨a,od,its,n,sl,h1,h2,h3,h4⟩:=T.ex;exact⟨.ref a,.ref a,Uw X G h1,rfl,λF H=>.tuple (.inr ⟨_,its,n,h2,rfl,rfl,h3,(ze0 (K:=K) (F:=F) (H:=H) h4).1⟩) (ze0 h4).2⟩
section
variable {ι κ:Type}{P:GK}{w:GM}{K:Qa}{mg:0.4}{base:Heap}{k:Nat}{X:ι->Cx}{O:κ->Ob}{a:Expr}{fa:DE}{x:Str}{pos px:Pos}{d:GG}{kvs:List (Str×Str)}
theorem zmt(C:0.6)(G:Glo K mg x d)(hg:∀i,Gl (X i) x:=by intro i;rfl)(hd:1.1:=by decide):E3 K X O (.Name x pos) (cD d):=by
 obtain⟨v,u,hm,r,is⟩:=G;exact⟨tC v,λi=>zp3 (hg i) (by rw[C.hmg];exact hm) r hd,λj σ H ρ Q Qd S h k=>k v H (.o d) 3.0 (is _ _) h⟩
end
end L3
namespace L6
open PySem PySem.Spec
open PyProof.Rows hiding St
open L2 L3
section
variable {X:Cx}
theorem zhw{k:Nat}{f:Addr}{fd:TQ}{y:Str}{sp:Sp}{xs:3.3}{vs:2.8}{Q:VK}{pins:0.9}{σ:St}{H1:Hp}{s1:GJ}{E:1.0}(F:FnOk X.prog X.w X.K X.mg X.base CX0 k f fd [y] sp)(hr:Room (k+1) X.A)(hb:Binds X.K fd [y] [])
 (I1:Inv X pins σ H1 s1) (rv:Vals xs vs) (h64:xs.length<=1000000)
 (go:zhp sp (λks H2=>∃(α:Type) (blt:2.1) (k:5.7),KeysV X.K H2 ks α blt k/\∀ix l,Ord blt k xs.length ix->H2 l=none->Q (.ref l) (upd H2 l (.lst (zen .non xs ix)))) xs [] H1)
 {R:PySem.Fin->GJ->Prop} (hR:∀v s',(∃u H',Inv X pins σ H' s'/\RelV u v/\Q u H')->R (.done (.ret v)) s') :
 wpAny 0.8 X.A.in1 (do let l <- newList vs;let _ <- holding [l] (call (.builtin "list.sort") [l] [(Zt "key",.ref f)]);ret l) R E s1:=by
 have hlv:xs.length=vs.length:=rv.length;have hz:xs.length<=sizeLine:=by rw[GP];lia
 have hv64:vs.length<=1000000:=by lia
 refine GF (Mr ?_ (by rw[GP];lia));obtain⟨h0,eh0⟩:∃h0,h0=s1.heap:=⟨_,rfl⟩;have sz0:h0.objs.size=s1.heap.objs.size:=by rw[eh0]
 have k0:∀b u,s1.heap.get? b=some u->h0.get? b=some u:=λb u e=>by rw[eh0];exact e
 rw[<- eh0];have hoL:(h0.push 3.6).get? h0.objs.size=some 3.6:=Qs _ rfl;show wpAny 0.8 X.A.in1 _ _ _ { s1 with heap:=h0.push 3.6 };refine GF (GW (wpAny_call_entry_kw Nd ⟨_,hoL,rfl⟩ MT ?_ (PyProof.Rows.ksk_l1 _ _)));rw[PyProof.Rows.ksk_t1];unfold PyProof.Rows.ksk_tree;refine GF (MM hoL rfl ?_);refine GF (TY hoL rfl ?_ (by rw[GP];simp;lia));obtain⟨ea,ho1⟩:∃ea,((h0.push 3.6).update h0.objs.size (QJ λ_=>#[])).get? h0.objs.size=some (seqObj "list" #[] ea):=⟨_,Mg hoL (λ_=>#[])⟩;refine GF (Na ho1 rfl ?_);refine GF (Nf ?_);refine GF (Mr ?_);refine GW ?_;generalize eh2:(h0.push 3.6).update h0.objs.size (QJ λ_=>#[])=h2 at ho1;have sz2:h2.objs.size=h0.objs.size+1:=by rw[<- eh2,JN,Mm]
 have k2:∀b u,s1.heap.get? b=some u->h2.get? b=some u:=λb u e=>by
  have:=k0 b u e;rw[<- eh2,ZN _ _ _ _ (Q0 (Qv this))];exact Qf _ this
 -- the list that is sorted,the keys' list
 generalize eq2:h0.objs.size=q2 at ho1 hoL sz2 sz0;generalize eh3:h2.push (seqObj "tuple" vs.toArray 0)=h3;have sz3:h3.objs.size=q2+2:=by rw[<- eh3,Mm,sz2]
 have k3:∀b u,h2.get? b=some u->(h3.push (seqObj "list" #[] 0)).get? b=some u:=λb u e=>by
  refine Qf _ ?_;rw[<- eh3];exact Qf _ e
 show wpAny 0.8 X.A.in1.in1 (PyProof.Rows.ksk_rest q2 (.ref f) false vs.toArray ea (.ref h3.objs.size)) _ _ { s1 with heap:=h3.push (seqObj "list" #[] 0) };have fq:FpOk X pins H1 q2:=I1.fpOk 0.0 (I1.hok.fresh 0.0);have fk:FpOk X pins H1 h3.objs.size:=I1.fpOk 0.0 (I1.hok.fresh 0.0);have hne:h3.objs.size≠q2:=by lia
 have I2:Inv X pins σ H1 { s1 with heap:=h3.push (seqObj "list" #[] 0) }:=I1.kept (t':=s1.toks) λb u e=>k3 b u (k2 b u e);have oq:=k3 _ _ ho1;have ok:(h3.push (seqObj "list" #[] 0)).get? h3.objs.size=some (seqObj "list" #[] 0):=Qs _ rfl;generalize h3.push (seqObj "list" #[] 0)=h4 at I2 oq ok ⊢;generalize h3.objs.size=kS at fk hne ok ⊢
 refine zw7 (λi ks s'=>∃(H':Hp) (kvs:3.3) (e:Nat),Inv X pins σ H' s'/\H' q2=none/\H' kS=none/\s'.heap.get? q2=some (seqObj "list" #[] ea)/\s'.heap.get? kS=some (seqObj "list" ks.toArray e)/\Vals kvs ks /\
  zhp sp (λks H2=>∃(α:Type) (blt:2.1) (k:5.7),KeysV X.K H2 ks α blt k/\∀ix l,Ord blt k xs.length ix->H2 l=none->Q (.ref l) (upd H2 l (.lst (zen .non xs ix)))) (xs.drop i) kvs H') hv64
  ⟨H1,[],0,I2,fq.1,fk.1,oq,ok,.nil,go⟩ (λi x ks s' hx hk ⟨H',kvs,e,I',n1,n2,o1,o2,rk,g⟩=>?_) λks s' hl ⟨H',kvs,e,I',n1,n2,o1,o2,rk,g⟩=>?_
 .have hi:i<vs.length:=(Qn.mp hx).1;have hi':i<xs.length:=by lia
  obtain⟨u,hu,ru⟩:=Vals.get rv (Qb hi');rw[hx] at hu;cases hu;rw[QX hi'] at g
  have I3:Inv X (pins ++ [(q2,seqObj "list" #[] ea),(kS,seqObj "list" ks.toArray e)]) σ H' s':=I'.pins_of λp hp=>by
   rcases Qq.mp hp with hp|hp
   .exact I'.pin p (QG _ hp)
   .rcases Qz.mp hp with rfl|hp
    .exact⟨o1,n1,fq.2.1,fq.2.2.1,λv z=>by cases z⟩
    .rw[Qm.mp hp];exact⟨o2,n2,fk.2.1,fk.2.2.1,λv z=>by cases z⟩
  refine Ta (z3c F hr hb I3 (.cons ru .nil) g) (λkv s2 zz=>?_) λ_ _ z=>z;obtain⟨v,H'',I4,r4,g4⟩:=zz;have p1:=I4.pin (q2,seqObj "list" #[] ea) 0.1;have p2:=I4.pin (kS,seqObj "list" ks.toArray e) 0.1;have I5:Inv X pins σ H'' s2:=I4.pins_of λp hp=>I4.pin p (by simp[hp])
  obtain⟨e',eu⟩:∃e',(s2.heap.update kS (QJ (·.push kv))).get? kS=some (seqObj "list" (ks ++ [kv]).toArray e'):=by
   have z:=Mg p2.1 (λxs=>xs.push kv);have z2:ks.toArray.push kv=(ks ++ [kv]).toArray:=by simp
   exact⟨_,z.trans (NO (λa=>some (seqObj "list" a _)) z2)⟩
  refine⟨⟨e,p2.1⟩,H'',kvs ++ [v],e',I5.turned (it:=kS) (t':=s2.toks) (λb o hb z=>by rw[ZN _ _ _ _ hb];exact z) p2.2.1 fk.2.1 fk.2.2.2.1 fk.2.2.2.2.1 fk.2.2.2.2.2,p1.2.1,p2.2.1,?_,eu,Vals.append rk (.cons r4 .nil),g4⟩;show(s2.heap.update kS _).get? q2=_;rw[ZN _ _ _ _ (Z8 hne)];exact p1.1
 .rw[<- hlv,Jm (Qg _)] at g;obtain⟨α,blt,k,kv,q⟩:=g;refine⟨α,blt,k,e,o2,o1,hne,zxl I' kv rk hl,λix o=>⟨_,rfl,GI (hR _ _ ?_)⟩⟩;have IA:=I'.turned (it:=kS) (t':=s'.toks) (h':=s'.heap.update kS (QJ λ_=>#[])) (λb o hb z=>by rw[ZN _ _ _ _ hb];exact z) n2 fk.2.1 fk.2.2.2.1 fk.2.2.2.2.1 fk.2.2.2.2.2
  have oA:(s'.heap.update kS (QJ λ_=>#[])).get? q2=some (seqObj "list" #[] ea):=by
   rw[ZN _ _ _ _ (Z8 hne)];exact o1
  refine⟨.ref q2,upd H' q2 (.lst (zen .non xs ix)),IA.adopt (t':=s'.toks) ⟨n1,fq.2⟩ (λb u hb z=>by rw[ZN _ _ _ _ hb];exact z) ?_,rfl,q ix q2 (by rw[hlv];exact o) n1⟩;refine⟨by unfold zen;rw[Qc,QS];exact hz,zbz vs ix,_,Vals.pick rv o.bj,Mg oA _⟩
def zkl(K:Qa)(sp:Sp)(ta:TE):TE:=λσ H Q=>ta σ H λv H1=>∃p xs,v = .ref p/\(H1 p=some 4.1\/SqT K H1 p xs)/\xs.length<=1000000 /\
 zhp sp (λks H2=>∃(α:Type) (blt:2.1) (k:5.7),KeysV K H2 ks α blt k/\∀ix l,Ord blt k xs.length ix->H2 l=none->Q (.ref l) (upd H2 l (.lst (zen .non xs ix)))) xs [] H1
theorem zvu{k:Nat}(F:FnOk X.prog X.w X.K X.mg X.base CX0 k f fd [y] sp)(hr:Room (k+1) X.A)(hb:Binds X.K fd [y] [])(hg:Gl X "sorted")(hm:X.mg "sorted" = none)
 (hgx:Gl X x) (hmx:X.mg x=some (.ref f)) (ha:PE X a ta) (hdx:1.1:=by decide) (hs:GN [a] X.env = [(false,eval a X.env)]:=by rfl) :
 PE X (.Call (.Name "sorted" p) [a] [⟨some "key",.Name x px,kp⟩] pos) (zkl X.K sp ta):=by
 intro pins s σ H Q I h;refine GU (zcf I hg hm zes ?_);refine callWith_kw ?_ (by rw[hs];rfl) (by rw[hs];rfl) rfl rfl;rw[hs];refine ZU (thn (ha pins s σ H _ I h) λu s1 zz=>?_);obtain⟨v,H1,I1,r1,q,xs,ev,hq,h64,go⟩:=zz;subst ev;obtain rfl:u=QQ q:=r1;refine Ji ?_;refine kws_cons (zke I1 hgx hmx (kws_nil ?_) hdx);show wpAny 0.8 X.A (call (.builtin "sorted") [.ref q] [(Zt "key",.ref f)]) _ _ s1;refine call_function_entry_kw N6 Nu Nt (PyProof.Rows.ksk_s1 _ _) ?_;unfold Builtin.«sorted»;refine GF (m:=checkCount "sorted" 1 1 _) (GI ?_);rcases hq with hq|hq
 .obtain⟨hz,vs,n,rv,hlv,e1⟩:=I1.lstM hq;refine GF (wpAny_collect_seq q (.inl rfl) e1 rfl rfl (λh' ex=>?_) (by rw[GP];simp;lia));exact zhw F hr hb (I1.kept (t':=s1.toks) ex) rv h64 go λv s' z=>⟨_,rfl,z⟩
 .obtain⟨vs,rv,⟨o,e,c,n,dt⟩,hsz⟩:=I1.tuple hq;have hlv:xs.length=vs.length:=rv.length;refine GF (wpAny_collect_seq q (.inr rfl) e c dt (λh' ex=>?_) (by rw[GP];simp;lia));exact zhw F hr hb (I1.kept (t':=s1.toks) ex) rv h64 go λv s' z=>⟨_,rfl,z⟩
end
end L6
namespace L3
open PySem PySem.Spec
open PyProof.Rows hiding St
open L2 L6
section
variable {K:Qa}{O:Ob}
def zts(F:List GG->2.7->Prop)(f:DE):DE:=λρ Q=>f ρ λr=>∃(ds:2.3) (kf:GG->Int×Str),(r.d = .list ds\/r.d = .tuple ds)/\ds.length<=1000000/\(∀d∈ds,F [d] λr=>r.d = .tuple [.int (kf d).1,.str (kf d).2])/\Q (.n (zfc kf ds))
theorem zwl(hφ:φ O)(h:ED K O te f):ED K O (zkl K (spO K φ 1 F) te) (zts F f):=λσ H ρ Q Qd S hf k=>by
 refine h σ H ρ _ _ S hf λv H1 r s1 o1 zz=>?_;obtain⟨ds,kf,e,hl,hF,q⟩:=zz;have i:=o1.is S.ok S.p;have p1:=s1.p S.p
 have core:∀(a:Addr) (xs:3.3),(H1 a=some 4.1\/SqT K H1 a xs)->IsAll K 3.7 H1 xs ds->∃p xs,V.ref a = .ref p/\(H1 p=some 4.1\/SqT K H1 p xs)/\xs.length<=1000000 /\
  zhp (spO K φ 1 F) (λks H2=>∃(α:Type) (blt:2.1) (k:5.7),KeysV K H2 ks α blt k/\∀ix l,Ord blt k xs.length ix->H2 l=none->Q (.ref l) (upd H2 l (.lst (zen .non xs ix)))) xs [] H1:=λa xs a1 b1=>by
  have hlx:=b1.length;refine⟨a,xs,rfl,a1,by rw[hlx];exact hl,?_⟩;refine zwa (kf:=kf) S.ok hφ ds xs [] [] H1 p1 b1 ⟨rfl,λi v p e1 _=>by simp at e1⟩ hF λks H2 st2 hk=>?_;refine⟨_,_,_,.pair (ds.map kf) ks hk.1 hk.2,λix l od hn=>?_⟩;have isAll2:IsAll K 3.7 H2 xs ds:=b1.stp st2 4.7 4.7;have hb:∀i,i<xs.length->ix i<ds.length:=λi hi=>by rw[<- hlx];exact od.bj.lt i hi
  have pk:=zr7 isAll2 (n:=xs.length) hb;rw[ztq hlx od] at pk;obtain⟨c1,c2⟩:=zee (K:=K) S.ok hn pk;exact k _ _ _ ((s1.trans st2).trans c1) (c2.ahead S.ok S.p (s1.trans st2)) q
 rcases e with e|e
 .rw[e] at i
  cases i with
  | list f1 a1 b1=>exact core _ _ (.inl a1) b1
 .rw[e] at i
  cases i with
  | tuple a1 b1=>exact core _ _ (.inr a1) b1
end
theorem zio{ι κ:Type}{P:GK}{w:GM}{K:Qa}{mg:0.4}{base:Heap}{k:Nat}{X:ι->Cx}{O:κ->Ob}{a:Expr}{fa:DE}{pos p px kp:Pos}{k':Nat}{x y:Str}{φ:Ob->Prop}{F:List GG->2.7->Prop}(C:0.6)(B:Blt mg)(D:Def3 P w K mg base k' x [y] (spO K φ 1 F))(hφ:∀j,φ (O j))(ha:2.2)(hk:k'+1<=k:=by decide)
 (hg:∀i,Gl (X i) "sorted" := by intro i;rfl) (hgx:∀i,Gl (X i) x:=by intro i;rfl) (hdx:1.1:=by decide) (hs:∀i,GN [a] (X i).env = [4.3]:=by intro i;rfl) :
 E3 K X O (.Call (.Name "sorted" p) [a] [⟨some "key",.Name x px,kp⟩] pos) (zts F fa):=by
 obtain⟨f,fd,G,m,kp',bn⟩:=D.ex;obtain⟨t,q,d⟩:=ha;refine⟨zkl K (spO K φ 1 F) t,λi=>?_,λj=>zwl (hφ j) (d j)⟩;obtain⟨j,rfl⟩:∃j,k=j+1:=⟨k-1,by lia⟩;have G':=G.mono (show k'<=j by lia);have h:=zvu (X:=X i) (k:=j) (f:=f) (fd:=fd) (y:=y) (x:=x) (sp:=spO K φ 1 F) (ta:=t) (a:=a) (p:=p) (px:=px) (kp:=kp) (pos:=pos) (by rw[C.hP,C.hw,C.hK,C.hmg,C.hb];exact G') (C.room i) (by rw[C.hK];exact bn) (hg i) (by rw[C.hmg];exact B.sorted) (hgx i) (by rw[C.hmg];exact m) (q i) hdx (hs i);rw[C.hK] at h;exact h
end L3
namespace HK
open PySem PySem.Spec PyProof.Rows SX TB L6
section
variable {prog:GK}{w:GM}{A:GQ}{E:1.0}{s:GJ}
theorem zsg{ep:Nat}{m:Nat}{Sp:Addr->GG->Prop}(hh:A.handled=none)(T:Kx w h0 Sp s.heap S es ep t ks m)(X:Ext h0 s.heap)(hd0:zaj σ d0)(hs:∀d∈ks,zaj σ d)(h64:es.size<=900)(hu:A.units+64<GZ)
 (k:∀(h':Heap) (d':Drawn) (tk:Nat) (qs:List (Addr×GG)) (c:Nat) (l:Addr),Ext s.heap h'->s.heap.objs.size<=l->h'.get? l=some (seqObj "list" (qs.map λq=>QQ q.1).toArray c)->(∀q∈qs,Sp q.1 q.2)->(qs.map (·.2)).Perm ks->(qs.map (·.2)).Pairwise (λa b=>dlt a b=true)->Q (.ref l) { s with heap:=h',drawn:=d',toks:=tk }) :
 wpAny 1.3 A (call (.builtin "sorted") [.ref S]) Q E s:=by
 refine V7 N6 Nu Nt (args_sorted1 _) ?_;unfold Builtin.«sorted»;refine GF (m:=checkCount "sorted" 1 1 _) (GI ?_);refine GF (zhu (by simpa using hh) T.toSx λh' d' tk vs ex hp hl=>?_)
 obtain⟨ps,p1,p2,p3⟩:=znh (R:=λe b k=>e=(hD w k,.ref b)/\(∃as,Tg h0 5.9 k as)/\Sp b k) (λe b k r=>by rw[r.1]) es.toList ks (by simpa using T.len) λi e he=>by
  obtain⟨k',b,as,a1,a2,a3,a4,a5⟩:=T.el i e (by rw[<- Q7];exact he);exact⟨k',b,a1,a2,⟨as,a4⟩,a5⟩
 rw[<- p1] at hp;obtain⟨qs,q1,q2⟩:=zgt hp;have qk:(qs.map (·.2)).Perm ks:=by rw[<- p2];exact q1.map _
 have vl:vs.length=qs.length:=by rw[<- q2];simp
 have ql:qs.length=es.size:=by
  have:=qk.length_eq;rw[T.len] at this;simpa using this
 have v64:vs.length<=1000000:=by lia
 refine GF (Mr ?_ (by rw[GP];lia));have eL:(h'.push 3.6).get? h'.objs.size=some 3.6:=Qs _ rfl;have sh':∀d∈qs.map (·.2),zaj σ d:=λd hd=>hs d (qk.mem_iff.mp hd);have kt':∀d∈qs.map (·.2),TupK d:=λd hd=>T.kt d (qk.mem_iff.mp hd)
 have ke:zeg h0 (zhb (h'.push 3.6) h'.objs.size vs):=λb o xs n e _=>by
  have eb:=ex b o (X b o e);have lb:=Qv eb;have nb:b≠h'.objs.size:=Q0 lb;have lb2:b<(h'.push 3.6).objs.size:=by rw[Mm];exact QW lb
  rw[YJ _ _ _ (by rw[Mm,JN];exact Q0 (QW lb2)),YJ _ _ _ (by rw[JN];exact Q0 lb2),ZN _ _ _ _ nb];exact Qf _ eb
 have KO:KeysOk prog w A.in1.in1 { s with heap:=zhb (h'.push 3.6) h'.objs.size vs,drawn:=d',toks:=tk } vs vs (λa b:{ d:GG // zaj σ d }=>dlt a.1 b.1) (λi=>⟨(qs.map (·.2)).getD i d0,zp8 hd0 sh' i⟩):=by
  refine z3q hd0 sh' (by rw[vl];simp) (λd hd=>(kt' d hd).la) (λd hd=>(kt' d hd).de) (by show A.units+1+1+12<GZ;lia) λi v d hv hd=>?_;rw[<- q2,Qh] at hv;rw[Qh] at hd
  cases hq:qs[i]? with
  | none=>rw[hq] at hv;cases hv
  | some q=>
    rw[hq] at hv hd;cases hv;cases hd;have mq:=Qt hq;obtain⟨e,_,_,⟨as,r⟩,_⟩:=p3 q (q1.mem_iff.mp mq);have tq:=kt' q.2 (Qo.mpr ⟨q,mq,rfl⟩);obtain⟨ds,eds⟩:=tq.tu;exact⟨q.1,ds,as,rfl,eds,tq.keep ke r⟩
 refine GF (GW (GV Nd ⟨_,eL,rfl⟩ MT (ziu (s:={ s with heap:=h'.push 3.6,drawn:=d',toks:=tk }) eL v64 KO λix o=>⟨_,rfl,?_⟩) (args_list_sort _)));obtain⟨c,ec⟩:=sortedHeap_at (out:=(zbz vs ix).toArray) eL;have hb:∀i,i<vs.length->ix i<qs.length:=λi hi=>by rw[<- vl];exact o.bj.lt i hi
 have gq:∀i,i<vs.length->qs[ix i]? = some (qs.getD (ix i) (0,.none)):=λi hi=>by
  rw[Qw,Qb (hb i hi)];rfl
 have ep2:zbz vs ix=((Q3 vs.length).map λi=>qs.getD (ix i) (0,.none)).map λq=>QQ q.1:=by
  unfold zbz;rw[QY];refine Vp λi hi=>?_;have hi':=Q8.mp hi;show vs.getD (ix i) .none=QQ (qs.getD (ix i) (0,.none)).1;rw[Qw,<- q2,Qh,gq i hi'];rfl
 have pq:((Q3 vs.length).map λi=>qs.getD (ix i) (0,.none)).Perm qs:=by
  have h1:=o.bj.perm.map (λi=>qs.getD i (0,Gq));rw[QY] at h1;refine h1.trans ?_
  have:(Q3 vs.length).map (λi=>qs.getD i (0,Gq))=qs:=by
   rw[vl];refine Jk λi=>?_
   by_cases hi:i<qs.length
   .simp[hi]
   .rw[QD (by simp;lia),QD 0.0]
  rw[this]
 refine GI ⟨_,rfl,k _ d' tk ((Q3 vs.length).map λi=>qs.getD (ix i) (0,.none)) c h'.objs.size (λb o' e=>?_) (Jt hl) (by rw[<- ep2];exact ec) (λq hq=>?_) ?_ ?_⟩
 .have eb:=ex b o' e;have nb:b≠h'.objs.size:=Q0 (Qv eb);show(Nm (h'.push 3.6) h'.objs.size vs _).get? b=_;rw[sortedHeap_old nb (by rw[Mm];exact QW (Qv eb))];exact Qf _ eb
 .obtain⟨e,_,_,_,sp⟩:=p3 q (q1.mem_iff.mp (pq.mem_iff.mp hq));exact sp
 .exact(pq.map _).trans qk
 .rw[QY,ZP,Zi];intro i j hi hj hij;simp only[QS] at hi hj;simp only[ZV]
  have gd:∀i,i<vs.length->(qs.map (·.2)).getD (ix i) d0=(qs.getD (ix i) (0,.none)).2:=λi hi=>by
   rw[Qw,Qh,gq i hi];rfl
  have up:=(o.up i j hij hj).le (zz5 σ);dsimp only at up;rw[gd i hi,gd j hj] at up;have mi:(qs.getD (ix i) (0,.none)).2∈qs.map (·.2):=Qo.mpr ⟨_,Qt (gq i hi),rfl⟩;have mj:(qs.getD (ix j) (0,.none)).2∈qs.map (·.2):=Qo.mpr ⟨_,Qt (gq j hj),rfl⟩;rcases(zjr σ).tri _ _ (sh' _ mi) (sh' _ mj) with z|z|z
  .exact z
  .exfalso;have nd:(qs.map (·.2)).Nodup:=qk.nodup_iff.mpr T.nd
   have e1:(qs.map (·.2))[ix i]? = (qs.map (·.2))[ix j]?:=by
    rw[Qh,Qh,gq i hi,gq j hj];exact NO some z
   have:=(List.getElem?_inj (by simpa using hb i hi) nd).mp e1;have:=o.bj.inj i j hi hj this;lia
  .rw[z] at up;cases up
end
end HK
namespace L3
open PySem PySem.Spec
open PyProof.Rows hiding St
open L2 SX HK
def tSTA(K:Qa)(te:TE):TE:=λσ H Q=>te σ H λv H1=>∃(a:Addr) (xs:3.3) (ds:2.3) (F:3.4) (τ:Sh) (d0:GG),v = .ref a/\SqL K H1 a xs/\IsAll K F H1 xs ds/\(∀d∈ds,TupK d)/\zaj τ d0/\(∀d∈ds,zaj τ d)/\ds.length<=900 /\
 ∀(zs:2.3) (ys:3.3) p,zs.Nodup->(∀d,d∈zs↔d∈ds)->zs.Pairwise (λa b=>dlt a b=true)->IsAll K F H1 ys zs->H1 p=none->Q (.ref p) (upd H1 p (.lst ys))
theorem zoj(hc:X.calm=true)(hu:X.A.units+64<GZ)(gl:Gl X "sorted")(ml:X.mg "sorted" = none)(gr:Gl X "set")(mr:X.mg "set" = none)(he:PE X e te)
 (s1:GN [.Call (.Name "set" p2) [e] [] p3] X.env=(false,eval (.Call (.Name "set" p2) [e] [] p3) X.env)::GN [] X.env:=by rfl) (s2:GN [e] X.env=(false,eval e X.env)::GN [] X.env:=by rfl) :
 PE X (.Call (.Name "sorted" p1) [.Call (.Name "set" p2) [e] [] p3] [] p4) (tSTA X.K te):=by
 intro pins s σ H Q I h;have calm:=I.ok.hd hc;refine GU (zcf I gl ml zes ?_);refine JG ?_ s1;rw[s1];show wpAny _ _ (M6 ((false,eval (.Call (.Name "set" p2) [e] [] p3) X.env) :: [])) _ _ s;refine ZU ?_;refine GU (zcf I gr mr (u:=.type "set") rfl ?_);refine Z9 ?_ s2;rw[s2];show wpAny _ _ (M6 ((false,eval e X.env) :: [])) _ _ s;refine ZU (thn (he pins s σ H _ I h) λu s' zz=>?_);obtain⟨y,H1,I1,r1,a,xs,ds,F,τ,d0,ey,hq,ia,tk,sh0,sh,hl,q⟩:=zz;refine Ji ?_;subst ey;cases r1;obtain⟨its,rv,pl,hz2⟩:=I1.list hq;have ln:its.length=ds.length:=by rw[<- rv.length,ia.length]
 have at':∀(i:Nat) v,its[i]? = some v->∃b as d,ds[i]? = some d/\v = .ref b/\Tg s'.heap 5.9 d as/\Is X.K F H1 5.9 d:=λi v hv=>by
  have hi:i<ds.length:=by rw[<- ln];exact(Qn.mp hv).1
  obtain⟨x,hx,ix⟩:=ia.get (Qb hi);obtain⟨u,hu',ru⟩:=rv.get hx;rw[hv] at hu';cases hu';have tki:=tk _ (Ze hi);obtain⟨ds',eds⟩:=tki.tu;rw[eds] at ix;obtain⟨as,ra⟩:=ix.reads I1 ru
  cases ix with
  | tuple q1 q2=>
    cases ru;exact⟨_,as,_,(Qb hi).trans (by rw[eds]),rfl,ra,.tuple q1 q2⟩
 refine zvr (T := "list") (val:=λi=>ds.getD i .none) (Sp:=λb d=>Is X.K F H1 5.9 d) calm (λs₁ ex=>?_) PySem.F.sub_list_set PySem.F.sub_list_frozenset 0.2 (zug pl.isList) (λi hi=>?_) (λi v hi hv=>?_) hu (by simp;lia) λh' tk' es ep t ks m T hk ex=>?_
 .obtain⟨o,e,c,_⟩:=pl.isList;exact⟨o,ex _ o e,c⟩
 .have hi':i<ds.length:=by rw[<- ln];simpa using hi
  rw[Qw,Qb hi'];exact tk _ (Ze hi')
 .have hv':its[i]? = some v:=by simpa using hv
  obtain⟨b,as,d,e1,e2,e3,e4⟩:=at' i v hv';refine⟨b,as,e2,?_⟩;rw[Qw,e1];exact⟨e3,e4⟩
 .have mem:∀d,d∈ks↔d∈ds:=λd=>by
   rw[hk];have ez:its.toArray.size=ds.length:=by simpa using ln
   rw[ez];constructor
   .rintro⟨j,hj,rfl⟩;rw[Qw,Qb hj];exact Ze hj
   .intro hd;obtain⟨j,hj⟩:=QK.mp hd;exact⟨j,(Qn.mp hj).1,by rw[Qw,hj];rfl⟩
  have z64:es.size<=900:=by
   rw[<- T.len]
   have:ks.length<=ds.length:=by
    classical
    exact TB.len_nd (xs:=ks) (ys:=ds) T.nd λk hk'=>(mem k).mp hk'
   lia
  refine Ji ?_;refine zsg (s:={ s' with heap:=h',toks:=tk' }) calm T ex sh0 (λd hd=>sh d ((mem d).mp hd)) z64 hu λh2 d2 tk2 qs c l ex2 hl2 el sp zp zs=>?_;have lt':s'.heap.objs.size<=l:=Q1 (Jt (T.toSx.lts (s:={ s' with heap:=h',toks:=tk' }))) hl2;have I2:=(Inv.draw (I1.laid (a:=l) (o:=.lst (qs.map λq=>V.ref q.1)) (t':=tk2) (h':=h2) (λb o e=>ex2 b o (ex b o e)) lt' ?_) d2)
  .exact⟨.ref l,_,I2,rfl,q (qs.map (·.2)) _ l (zp.nodup_iff.mpr T.nd) (λd=>by rw[zp.mem_iff];exact mem d) zs (zoz sp) (I1.hok.fresh lt')⟩
  .refine⟨?_,qs.map (λq=>QQ q.1),c,zlp qs,el⟩;have:=zp.length_eq;rw[Qc] at this;rw[Qc,this,T.len,GP];lia
def stDA(f:DE):DE:=λρ Q=>f ρ λr=>∃(ds:2.3) (τ:Sh) (d0:GG),r.d = .list ds/\(∀d∈ds,TupK d)/\zaj τ d0/\(∀d∈ds,zaj τ d)/\ds.length<=900/\∀zs:List GG,zs.Nodup->(∀d,d∈zs↔d∈ds)->zs.Pairwise (λa b=>dlt a b=true)->Q (.n zs)
theorem z5q{K:Qa}{O:Ob}{te:TE}{f:DE}(h:ED K O te f):ED K O (tSTA K te) (stDA f):=λσ H ρ Q Qd S hf k=>by
 refine h σ H ρ _ _ S hf λv H1 r s1 o1 zz=>?_;obtain⟨ds,τ,d0,e,tk,s0,sh,hl,q⟩:=zz;have i:=o1.is S.ok S.p;rw[e] at i
 cases i with
 | list f1 a1 b1=>
   refine⟨_,_,ds,_,τ,d0,rfl,.of a1,b1,tk,s0,sh,hl,λzs ys p h1 h2 h3 h4 hn=>?_⟩;obtain⟨c1,c2⟩:=zee (K:=K) S.ok hn h4;exact k _ _ _ (s1.trans c1) (c2.ahead S.ok S.p s1) (q zs h1 h2 h3)
theorem zpi{ι κ:Type}{P:GK}{w:GM}{K:Qa}{mg:0.4}{base:Heap}{k:Nat}{X:ι->Cx}{O:κ->Ob}{a:Expr}{fa:DE}{p1 p2 p3 p4:Pos}(C:0.6)(B:Blt mg)(ha:2.2)(g1:∀i,Gl (X i) "sorted" := by intro i;rfl)(g2:∀i,Gl (X i) "set" := by intro i;rfl)
 (s1:∀i,GN [.Call (.Name "set" p2) [a] [] p3] (X i).env=(false,eval (.Call (.Name "set" p2) [a] [] p3) (X i).env)::GN [] (X i).env:=by intro i;rfl) (s2:∀i,GN [a] (X i).env=4.3::GN [] (X i).env:=by intro i;rfl) :
 E3 K X O (.Call (.Name "sorted" p1) [.Call (.Name "set" p2) [a] [] p3] [] p4) (stDA fa) :=
 let ⟨_,q,d⟩:=ha
 ⟨tSTA K _,λi=>by
  have h:=zoj (X:=X i) (p1:=p1) (p2:=p2) (p3:=p3) (p4:=p4) (C.calm i) (C.room i).units (g1 i) (by rw[C.hmg];exact B.sorted) (g2 i) (by rw[C.hmg];exact B.set) (q i) (s1 i) (s2 i);rw[C.hK] at h
  exact h,λj=>z5q (d j)⟩
section
variable {P:GK}{w:GM}{A:GQ}{E:1.0}{s:GJ}
theorem zui{d:Addr}(tS:s.TypeIs (.ref d) "dict")(q:Q false s):wpAny 1.5 A (Je (.ref d)) Q E s:=by
 unfold Je;refine GF (Tn tS F.slot_dict_len.lookup ?_);generalize hid:("dict.__len__" : String)=id0
 (fail_if_success (clear hid id0))
 wp_delta
 rw[show splitId id0=some ("dict", "__len__") from by subst hid;decide +kernel];subst hid;refine GF (Me (b:=true) tS F.kt_sub_dict ?_);refine wp_f 0.2 ?_;refine wp_t 5.5 ?_;refine GF (TL tS ?_);exact GI q
theorem znd{K:Type}[DecidableEq K]{knd:G2 P w K}{d:Addr}{kvs:List (K×GH)}{ep:Nat}(hh:A.handled=none)(hd:(d == Tk)=false)(D:s.heap.DictAt knd d kvs ep)(hz:kvs.length<=sizeLine)
 (q:∀(h':Heap) (tk:Nat) (vs:Array GH) (c:Nat),(∀b o,s.heap.get? b=some o->h'.get? b=some o)->h'.get? s.heap.objs.size=some { cls:=.type "list",dict:=none,data:=.seq vs c,slots:=#[] }->vs.size=kvs.length->(∀(i:Nat) v,vs[i]? = some v->∃p,kvs[i]? = some p/\knd.is p.1 v=true)->Q 3.8 { s with heap:=h',toks:=tk }) :
 wpAny 1.5 A (call (.type "list") [.ref d]) Q E s:=by
 have hlt:=D.lt_size;refine callType_codes (Q₁:=λv s1=>v = .ref s.heap.objs.size/\s1 = { s with heap:=s.heap.push { cls:=.type "list",data:=.seq #[] } }) F.called_list (UJ _) UK (code_list_new _ ⟨rfl,rfl⟩) ?_;rintro _ _ ⟨rfl,rfl⟩;refine⟨⟨_,Qs _ rfl,rfl⟩,U2 _ _,?_⟩;have nI:s.heap.objs.size≠d:=Yn hlt;have same:Ju 3.8 (.ref d)=false:=by simp[Ju,nI]
 have t1:Zj "dict" ≠ Zj "list" := by decide
 have eS:(s.heap.push { cls:=.type "list",data:=.seq #[] }).get? s.heap.objs.size=some { cls:=.type "list",data:=.seq #[] }:=Qs _ rfl;obtain⟨hp,g,dr,tk,os⟩:=s
 have up:∀c o,hp.get? c=some o->((hp.push { cls:=.type "list",data:=.seq #[] }).update hp.objs.size 4.0).get? c=some o:=λc o e=>by
  rw[ZG _ _ (Yn (Qv e))];exact Qf _ e
 have eS2:=ZQ (QJ (λ_=>(#[]:Array GH))) eS rfl
 have D2:((hp.push { cls:=.type "list",data:=.seq #[] }).update hp.objs.size 4.0).DictAt knd d kvs ep:=by
  obtain⟨o,es,ho,r⟩:=D;exact⟨o,es,up d o ho,r⟩
 have hT:Yx ⟨((hp.push { cls:=.type "list",data:=.seq #[] }).update hp.objs.size 4.0),g,dr,tk,os⟩ (.ref d) "dict" := D2.dictOf.typeIs (s:=⟨((hp.push { cls:=.type "list",data:=.seq #[] }).update hp.objs.size 4.0),g,dr,tk,os⟩);have D3:=D2.push { cls:=.type "dict_keyiterator",data:=.fields #[.ref d,.int 0 0,.int kvs.length 0,.int ep 0] };have hT3:Yx ⟨((hp.push { cls:=.type "list",data:=.seq #[] }).update hp.objs.size 4.0).push { cls:=.type "dict_keyiterator",data:=.fields #[.ref d,.int 0 0,.int kvs.length 0,.int ep 0] },g,dr,tk,os⟩ (.ref d) "dict" := D3.dictOf.typeIs (s:=⟨((hp.push { cls:=.type "list",data:=.seq #[] }).update hp.objs.size 4.0).push { cls:=.type "dict_keyiterator",data:=.fields #[.ref d,.int 0 0,.int kvs.length 0,.int ep 0] },g,dr,tk,os⟩);unfold Builtin.«list.__init__»
 wp_walk using wpAny_pyIter_dict hd D2,TL hT,zui hT3
 have hltp:d<hp.objs.size:=hlt;have sz1:((hp.push { cls:=.type "list",data:=.seq #[] }).update hp.objs.size 4.0).objs.size=hp.objs.size+1:=by rw[JN,Zg]
 have eI3:(((hp.push { cls:=.type "list",data:=.seq #[] }).update hp.objs.size 4.0).push { cls:=.type "dict_keyiterator",data:=.fields #[.ref d,.int 0 0,.int kvs.length 0,.int ep 0] }).get? ((hp.push { cls:=.type "list",data:=.seq #[] }).update hp.objs.size 4.0).objs.size=some { cls:=.type "dict_keyiterator",data:=.fields #[.ref d,.int 0 0,.int kvs.length 0,.int ep 0] }:=Qs _ rfl;have eS3:=Qf { cls:=.type "dict_keyiterator",data:=.fields #[.ref d,.int 0 0,.int kvs.length 0,.int ep 0] } eS2;have upL:∀c o,hp.get? c=some o->(((hp.push { cls:=.type "list",data:=.seq #[] }).update hp.objs.size 4.0).push { cls:=.type "dict_keyiterator",data:=.fields #[.ref d,.int 0 0,.int kvs.length 0,.int ep 0] }).get? c=some o:=λc o e=>Qf _ (up c o e);generalize hh2:((hp.push { cls:=.type "list",data:=.seq #[] }).update hp.objs.size 4.0).push { cls:=.type "dict_keyiterator",data:=.fields #[.ref d,.int 0 0,.int kvs.length 0,.int ep 0] }=h2 at D3 eI3 eS3 upL ⊢;have eS4:=ZQ (QJ (·.push Yf)) eS3 rfl;have eS5:=ZQ (QJ (·.pop)) eS4 rfl
 have keep:∀b o,b≠hp.objs.size->h2.get? b=some o->((h2.update hp.objs.size (QJ (·.push Yf))).update hp.objs.size (QJ (·.pop))).get? b=some o:=λb o nb e=>by
  rw[ZG _ _ (Z8 nb),ZG _ _ (Z8 nb)];exact e
 have nLI:hp.objs.size+1≠hp.objs.size:=Nat.succ_ne_self _;have ndI:d≠hp.objs.size+1:=Q0 (QW hltp);rw[sz1] at eI3
 have st4:((h2.update hp.objs.size (QJ (·.push Yf))).update hp.objs.size (QJ (·.pop))).IsKeyIter (hp.objs.size+1) d 0 kvs.length ep/\((h2.update hp.objs.size (QJ (·.push Yf))).update hp.objs.size (QJ (·.pop))).DictAt knd d kvs ep:=by
  refine⟨⟨_,keep _ _ nLI eI3,rfl,rfl⟩,?_⟩;obtain⟨o,es,ho,r⟩:=D3;exact⟨o,es,keep d o (Q0 hltp) ho,r⟩
 have nLf:hp.objs.size ∉ [hp.objs.size+1,d]:=λz=>by
  simp only[Qz,ZJ,or_false] at z;rcases z with z|z
  .exact nLI z.symm
  .exact Yn hltp z
 show _/\Mo _ _ (.builtin "list.extend.loop" ⟨[.ref hp.objs.size,.ref ((hp.push { cls:=.type "list",data:=.seq #[] }).update hp.objs.size 4.0).objs.size,.none],[]⟩) _ _;rw[sz1];refine⟨TZ Vq _,Ms (Walks.dictKeys (A:=A.in1.in1) (knd:=knd) hh (hp.objs.size+1) d ndI kvs ep).toS hz _ nLf _ kvs.length 0 _ _ _ rfl (Q6 _) st4 eS5 (Go _) λs' acc c mv eA hacc=>3.2⟩;obtain⟨h5,g5,d5,tk5,os5⟩:=s';obtain rfl:g5=g:=mv.gens;obtain rfl:d5=dr:=mv.drawn;obtain rfl:os5=os:=mv.os;refine q h5 tk5 acc c (λb o e=>mv.heap b o (λz=>?_) ?_) eA (by have:=hacc.1;simpa using this) (λi v e=>?_)
 .have hbl:=Qv e;rcases Qz.mp z with z|z
  .exact Q0 hbl z
  .exact Q0 (QW hbl) (Qm.mp z)
 .exact keep b o (Q0 (Qv e)) (upL b o e)
 .obtain⟨k',x,h1,h2⟩:=hacc.2 i v e;exact⟨_,h1,h2⟩
end
end L3
namespace L3
open PySem PySem.Spec
open PyProof.Rows hiding St
open L2 L6
def addK(ks:2.4)(k:Str):List Str:=if ks.contains k then ks else ks ++ [k]
def DctS(ks:2.4):Thg:=⟨λ_ _ W H v=>∃a ws,v = .ref a/\W a/\H a=some (.dK ws)/\ws.map (·.1)=ks.map .inr,λ_ hW _ ⟨a,ws,e,w,q,z⟩=>⟨a,ws,e,(hW a _ w q).1,(hW a _ w q).2,z⟩⟩
theorem znk{ws:5.8}{ks:2.4}(h:ws.map (·.1)=ks.map .inr)(k:Str):(valV ws (.inr k)).isSome=ks.contains k:=by
 rw[<- zc7];apply ZE.mpr;rw[Z5,YQ];constructor
 .rintro⟨p,hp,e⟩;have e:=NL e;have:p.1∈ks.map Vs:=by rw[<- h];exact Qo.mpr ⟨p,hp,rfl⟩
  obtain⟨x,hx,e'⟩:=Qo.mp this;rw[e] at e';rw[<- Gn e'];exact hx
 .intro hk;have:(Vs k:Key)∈ws.map (·.1):=by rw[h];exact Qo.mpr ⟨k,hk,rfl⟩
  obtain⟨p,hp,e⟩:=Qo.mp this;exact⟨p,hp,NM e⟩
theorem zy3{ws:5.8}{ks:2.4}{k:Str}{v:V}(h:ws.map (·.1)=ks.map .inr):(putK ws (.inr k) v).map (·.1)=(addK ks k).map .inr:=by
 have e:=znk h k;rw[<- zc7] at e;unfold putK addK;rw[e]
 by_cases c:ks.contains k=true
 .rw[NI c,NI c,QY,<- h];refine Vp λp _=>?_;show(if p.1 = .inr k then(p.1,v) else p).1=p.1
  by_cases z:p.1 = .inr k
  .rw[NI z]
  .rw[NJ z]
 .rw[NJ c,NJ c,Qu,Qu,h];rfl
section
variable {K:Qa}{O:Ob}
def z0f(i:Nat):DS:=λDd ρ=>Dd.nx (ρ.set i (some (.thg (DctS []))))
theorem zym{i:Nat}:SD K O (tAsg zpf (zav i)) (z0f i):=λH₀ A σ H ρ D Dd r q P=>by
 intro p hp;have st:Stp O H (upd H p (.dK [])):=.new r.ok hp _;have hW:∀b,b=p->(A i b\/H b=ZO)/\∃o,upd H p (.dK []) b=some o/\OwnO o:=λb e=>by subst e;exact⟨.inr hp,_,zae,ownK⟩
 exact P.nx _ _ _ _ (r.setT (W:=λb=>b=p) (T:=DctS []) st (λb u e _=>e) hW ⟨p,[],rfl,rfl,zae,rfl⟩) (.setT st (λb u e _=>e) λb m=>(hW b m).1) q
theorem zqg{n:Nat}(S:Seen K O H σ ρ)(h:ρ[n]? = some (some (.thg (DctS ks)))):∃a ws,σ[n]? = some (some 3.1)/\¬O.M a/\H a=some (.dK ws)/\ws.map (·.1)=ks.map .inr:=by
 obtain⟨v,h1,W,hw,a,ws,rfl,w,q,z⟩:=S.at_ n _ h;exact⟨a,ws,h1,(hw a w).1,q,z⟩
def z0b(n:Nat)(fk:DE):DE:=λρ Q=>∃ks,ρ[n]? = some (some (.thg (DctS ks)))/\fk ρ λr=>∃x:Str,r.d = .str x/\Q (.o (.bool (!ks.contains x)))
theorem zxy{n:Nat}(h:ED K O t f):ED K O (zqh t (tVar n)) (z0b n f):=λσ H ρ Q Qd S q k=>by
 obtain⟨ks,hd,q⟩:=q;refine h σ H ρ _ _ S q λy H1 r s1 o1 zz=>?_;obtain⟨i,er,q1⟩:=zz;have iy:=o1.is S.ok S.p;rw[er] at iy;cases iy;obtain⟨a,ws,h1,nm,e,z⟩:=zqg (S.stp s1) hd;refine⟨_,h1,a,_,rfl,.k (k:=.inr i) e,?_⟩;rw[znk z];exact k _ H1 (.o _) s1 (Is.bool _) q1
def zzy(n:Nat)(fk:DE):DS:=λDd ρ=>∃ks,ρ[n]? = some (some (.thg (DctS ks)))/\fk ρ λr=>∃x:Str,r.d = .str x/\ks.length<sizeLine/\Dd.nx (ρ.set n (some (.thg (DctS (addK ks x)))))
theorem zzf{n:Nat}{b:Bool}(hk:ED K O tk fk):SD K O (zhq (tVar n) tk (tC (.bl b))) (zzy n fk):=λH₀ A σ H ρ D Dd r q P=>by
 obtain⟨ks,e,q⟩:=q;obtain⟨v,hv,a,ws,rfl,w,hH,z⟩:=r.at_ n _ e;refine⟨_,hv,?_⟩;refine hk σ H ρ _ _ r.seen q λy H2 r2 st o2 zz=>?_;obtain⟨x,e2,ln,q2⟩:=zz;have iy:=o2.is r.ok r.p;rw[e2] at iy;cases iy;have m:=(r.own n a w).2.2;have hH2:H2 a=some (.dK ws):=st.s a _ hH m;have lw:ws.length=ks.length:=by have:=NO Jo z;simpa using this
 refine⟨a,_,rfl,DPut.k (k:=.inr x) hH2 0.0,?_⟩;have hW:∀c,c=a->(A n c\/H c=ZO)/\∃o,upd H2 a (.dK (putK ws (.inr x) (.bl b))) c=some o/\OwnO o:=λc e=>by subst e;exact⟨.inl w,_,zae,ownK⟩
 have stay:∀c u,H2 c=some u->¬A n c->upd H2 a (.dK (putK ws (.inr x) (.bl b))) c=some u:=λc u e n=>by
  rw[zac λz=>n (by rw[z];exact w)];exact e
 have rr:=r.setT (i:=n) (v:=.ref a) (W:=λc=>c=a) (T:=DctS (addK ks x)) st stay hW ⟨a,_,rfl,rfl,zae,zy3 z⟩;rw[zid hv] at rr;exact P.nx _ _ _ _ rr (.setT st stay λc m=>(hW c m).1) q2
def zvn:List V->Hp->VK->Prop:=λxs H Q=>∃(p:Addr) (ws:5.8),xs = [.ref p]/\H p=some (.dK ws)/\∀l,H l=none->Q (.ref l) (upd H l (.lst (ws.map λp=>kV p.1)))
theorem zsj(hc:X.calm=true):zcz X (.type "list") zvn:=by
 intro pins s σ H xs us Q I r h;obtain⟨p,ws,rfl,hH,q⟩:=h;obtain⟨u,rfl,ru⟩:=Vals.one r;cases ru;obtain⟨hz,hsm,kv,rkv,D⟩:=I.hok p _ hH;obtain⟨ep,D⟩:=D.dictAt;have lkv:ws.length=kv.length:=JY rkv;refine znd (knd:=zaw X.prog X.w) (I.ok.hd hc) hsm D 0.0 λh' tk vs c ext e hl hvs=>?_;have rv:Vals (ws.map λp=>kV p.1) vs.toList:=zli rkv (by simpa using hl) λi u hu=>hvs i u (by rw[<- Q7];exact hu);refine⟨.ref s.heap.objs.size,_,I.laid (a:=s.heap.objs.size) (o:=.lst (ws.map λp=>kV p.1)) (t':=tk) ext (Qg _) ?_,rfl,q _ (I.hok.fresh (Qg _))⟩;exact⟨by rw[Qc];exact hz,vs.toList,c,rv,by simpa using e⟩
def zti(n:Nat):DE:=λρ Q=>∃ks,ρ[n]? = some (some (.thg (DctS ks)))/\Q (.n (ks.map .str))
theorem zjk: ∀ks:List Str,IsAll K F H (ks.map V.str) (ks.map .str)
 | []=>.nil
 | _::ks=>.cons (.str _) (zjk ks)
theorem zwo{n:Nat}:ED K O (tCB zvn (zar (tVar n) tNil)) (zti n):=λσ H ρ Q Qd S q k=>by
 obtain⟨ks,hd,q⟩:=q;obtain⟨a,ws,h1,nm,e,z⟩:=zqg S hd;refine⟨_,h1,a,ws,rfl,e,λl hl=>?_⟩
 have ez:(ws.map λp=>kV p.1)=ks.map V.str:=by
  rw[show(ws.map λp=>kV p.1)=(ws.map (·.1)).map kV by rw[QY];rfl,z,QY];rfl
 rw[ez];exact k _ _ (.n (ks.map .str)) (.new S.ok hl _) ⟨l,_,rfl,hl,zae,zjk ks⟩ q
end
section
variable {ι κ:Type}{P:GK}{w:GM}{K:Qa}{mg:0.4}{base:Heap}{k:Nat}{X:ι->Cx}{O:κ->Ob}{a b:Expr}{fa fb:DE}{pos px p1 p2:Pos}{x:Str}{v:Bool}{j:Nat}
theorem z2f(n:Nat)(hN:∀i,(X i).N.Nodup:=by intro i;exact NL 2.5)(hi:1.8:=by intro i;rfl)(hx:∀i,Loc (X i).env.scope x:=by intro i;first|exact Or.inl rfl|exact Or.inr rfl)
 (hs:∀i,Tc (.Dict [] [] p1) (some 1.9) pos.line (X i).env=pure false:=by intro i;rfl) (hf:6.2:=by intro i;first|exact .inl rfl|exact .inr rfl) :
 S3 K X O (.Assign [.Name x px] (.Dict [] [] p1) pos) (z0f n):=⟨_,λi=>zb3 (hN i) (hi i) (hx i) zow (hs i) (hf i),λj=>zym⟩
theorem z3z(n:Nat)(C:0.6)(ha:2.2)(hN:1.8:=by intro i;rfl)(hv:2.6:=by intro i;first|exact Or.inl rfl|exact Or.inr 4.5|exact Or.inr 4.4)(hd:1.1:=by decide)(hcd:2.0:=by decide)(hm:Ti .NotIn 1.9=false:=by rfl):
 T3 K X O (.Compare a [.NotIn] [.Name x px] pos) (bD (z0b n fa)):=let ⟨_,p1,d1⟩:=ha;⟨_,λi=>zop (zuj (zce (C.room i)) (p1 i) 5.4) hm,λj=>zrj (zxy (d1 j))⟩
theorem z2c(n:Nat)(C:0.6)(hi:E3 K X O b fb)(hN:1.8:=by intro i;rfl)(hvx:2.6:=by intro i;first|exact Or.inl rfl|exact Or.inr 4.5|exact Or.inr 4.4)(hd:1.1:=by decide)(hcd:2.0:=by decide)
 (hs:∀i,Tc (.Constant (.bool v) j p2) (some (.Subscript 1.9 b p1)) pos.line (X i).env=pure false:=by intro i;rfl) :
 S3 K X O (.Assign [.Subscript 1.9 b p1] (.Constant (.bool v) j p2) pos) (zzy n fb):=let ⟨_,q2,d2⟩:=hi;⟨_,λi=>zff (zce (C.room i)) (zag (pos:=px) (hN i) (hvx i) hd hcd) (q2 i) z0o (hs i),λj=>zzf (d2 j)⟩
theorem zyp(n:Nat)(C:0.6)(B:Blt mg)(hN:1.8:=by intro i;rfl)(hv:2.6:=by intro i;first|exact Or.inl rfl|exact Or.inr 4.5|exact Or.inr 4.4)(hd:1.1:=by decide)(hcd:2.0:=by decide)(hg:∀i,Gl (X i) "list" := by intro i;rfl)(he:∀i,GN [.Name x px] (X i).env = [(false,eval 1.9 (X i).env)]:=by intro i;rfl):
 E3 K X O (.Call (.Name "list" p1) [.Name x px] [] pos) (zti n) :=
 ⟨_,λi=>zgy (X:=X i) (zsj (C.calm i)) (hg i) (by rw[C.hmg];exact B.list) zqx (zao 5.4 zbk (he i)) 0.2 0.2 (he i),λj=>zwo⟩
end
end L3
namespace L3
open PySem PySem.Spec
open PyProof.Rows hiding St
open L2 L6 HK
def wnfF:List GG->2.7->Prop:=λds Q=>∃ws:List 1.4,ds = [.list 5.1]/\ws.length<=1000000/\(∀w∈ws,Sml w)/\Q (.n ((wnf (za4 ws)).map tS))
theorem zyq(h:∀c∈w,c<128):JR (tx w)=true:=by
 unfold JR tx;rw[U1];intro c hc;have:=h c (by simpa using hc);simp;lia
def mrg:List Nat->List Nat->List 1.4
 | [],b=>[b]
 | a,[]=>[a]
 | c::a,d::b=>if c=d then(mrg a b).map (c :: ·) else(mrg a (d::b)).map (c :: ·)++(mrg (c::a) b).map (d :: ·)
termination_by a b=>a.length+b.length
theorem z9a{ws:3.5}(h:∀w∈ws,∀c∈w,c<128):eqF false (.list 5.1) (.list [])=some (.o (.bool ws.isEmpty)):=by
 unfold eqF;have h1:Qy 5.1=true:=zdi λa ha=>zyq (h a ha);have h2:Zb 5.1<=0:=zd8 λa _=>Qg _
 have h3:okD (.list 5.1)=true:=by
  unfold okD;simp[ZR,QU,h1];lia
 rw[NI (by rw[h3];rfl),NJ Qx];cases ws <;> rfl
def frs(v:0.7):List Nat:=(Q3 128).filter λc=>decide (c∈v)
theorem zp2(h:∀c∈v,c<128){c:Nat}:c∈frs v↔c∈v:=by
 unfold frs;rw[QI,Q8,NN];exact⟨λz=>z.2,λz=>⟨h c z,z⟩⟩
theorem zo9(v:0.7):(frs v).Pairwise (· < ·):=List.Pairwise.filter _ VO
theorem zkr(v:0.7):(frs v).length<=128:=Q1 (JZ _ _) (by rw[QS];exact Qg _)
theorem zqv:∀{a b:0.7},a.Pairwise (· < ·)->b.Pairwise (· < ·)->(∀c,c∈a↔c∈b)->a=b
 | [],[],_,_,_=>rfl
 | [],y::b,_,_,h=>absurd ((h y).mpr 0.1) 0.1
 | x::a,[],_,_,h=>absurd ((h x).mp 0.1) 0.1
 | x::a,y::b,pa,pb,h=>by
   obtain⟨a1,a2⟩:=Z1.mp pa;obtain⟨b1,b2⟩:=Z1.mp pb
   have e:x=y:=by
    have hx:=(h x).mp Qp;have hy:=(h y).mpr Qp;rcases Qz.mp hx with z|z
    .exact z
    .rcases Qz.mp hy with z'|z'
     .exact z'.symm
     .have:=b1 x z;have:=a1 y z';lia
   subst e;rw[zqv a2 b2 λc=>⟨λz=>?_,λz=>?_⟩]
   .rcases Qz.mp ((h c).mp (Qe _ z)) with y|y
    .have:=a1 c z;lia
    .exact y
   .rcases Qz.mp ((h c).mpr (Qe _ z)) with y|y
    .have:=b1 c z;lia
    .exact y
abbrev Grs:=List 1.4
def zas(A:Grs):List Nat:=A.map λw=>w.headD 0
theorem zep(h:[] ∉ A){c:Nat}:c∈zas A↔∃u,c::u∈A:=by
 unfold zas;rw[Qo];constructor
 .rintro⟨w,hw,e⟩
  cases w with
  | nil=>exact absurd hw h
  | cons d u=>obtain rfl:d=c:=e;exact⟨u,hw⟩
 .rintro⟨u,hu⟩;exact⟨_,hu,rfl⟩
structure GrwOk(A:Grs):Prop where
 asc:A.Pairwise λa b=>wlt a b=true
 anti:zch A
 len:A.length<=31
 wl:∀w∈A,w.length<=12/\∀c∈w,c<128
theorem GrwOk.sml(h:GrwOk A)(hw:w∈A):Sml w:=⟨by have:=(h.wl w hw).1;lia,(h.wl w hw).2⟩
theorem GrwOk.nd(h:GrwOk A):A.Nodup:=h.asc.imp λ{a b} z e=>by rw[e,zb1] at z;cases z
theorem GrwOk.sum(h:GrwOk A):sumL A<=372:=by
 have key:∀l:Grs,(∀w∈l,w.length<=12)->sumL l<=12 * l.length:=λl=>by
  induction l with
  | nil=>intro _;exact Qg 0
  | cons x l ih=>
    intro hx;have h1:=ih λw hw=>hx w (Qe _ hw);have h2:=hx x Qp;rw[zbo,Ql];lia
 have h1:=key A λw hw=>(h.wl w hw).1;have h2:=h.len;lia
theorem GrwOk.all(h:GrwOk A):[]∈A↔A = [[]]:=⟨λz=>zxq h.anti z h.nd,λz=>by rw[z];simp⟩
open Classical in
noncomputable def metT(A B:Grs):Grs:=if h:∃zs,LstS (MetS A B) zs then YY h else[]
def endM(A B:Grs):Prop:=A = [[]]\/B = [[]]\/A = []\/B = []
instance (A B:Grs):Decidable (endM A B):=by unfold endM;infer_instance
def mvM(p:Grs×Grs):List (Key×(Grs×Grs)):=if endM p.1 p.2 then[] else(frs (zas (p.1++p.2))).map λc=>(.inr (tx [c]),(behB p.1 c,behB p.2 c))
structure MetOk(Ls:List (Grs×Grs)):Prop where
 few:Ls.length<100000
 cl:∀p∈Ls,∀c,(behB p.1 c,behB p.2 c)∈Ls
 gr:∀p∈Ls,GrwOk p.1/\GrwOk p.2
 cnt:∀p∈Ls,∀zs,LstS (MetS p.1 p.2) zs->zs.length<=1000
theorem zkt(hA:GrwOk A)(hB:GrwOk B)(h:¬endM A B):[] ∉ A /\ [] ∉ B/\A≠[]/\B≠[] :=
 ⟨λz=>h (.inl (hA.all.mp z)),λz=>h (.inr (.inl (hB.all.mp z))),λz=>h (.inr (.inr (.inl z))),λz=>h (.inr (.inr (.inr z)))⟩
def flFr(cs:0.7)(zs:Nat->Grs):Grs:=cs.flatMap λc=>(zs c).map (c :: ·)
theorem flFr_mem: w∈flFr cs zs↔∃c∈cs,∃u∈zs c,w=c::u:=by
 unfold flFr;rw[QV];exact⟨λ⟨c,h1,h2⟩=>let ⟨u,h3,e⟩:=Qo.mp h2;⟨c,h1,u,h3,e.symm⟩,λ⟨c,h1,u,h2,e⟩=>⟨c,h1,Qo.mpr ⟨u,h2,e.symm⟩⟩⟩
theorem zqs: ∀{cs:0.7},cs.Nodup->(∀c∈cs,(zs c).Nodup)->(flFr cs zs).Nodup
 | [],_,_=>.nil
 | c::cs,h,hz=>by
   obtain⟨h1,h2⟩:=Zq.mp h;show((zs c).map (c :: ·)++flFr cs zs).Nodup;refine J1.mpr ⟨List.Pairwise.map _ (λa b (n:a≠b) e=>n (by injection e)) (hz c Qp),zqs h2 λd hd=>hz d (Qe _ hd),λx hx y hy e=>?_⟩;obtain⟨u,_,rfl⟩:=Qo.mp hx;obtain⟨d,hd,v,_,rfl⟩:=flFr_mem.mp hy;injection e with e _;exact h1 (e ▸ hd)
theorem zn8{m:Nat}:∀{cs:0.7},(∀c∈cs,(zs c).length<=m)->(flFr cs zs).length<=cs.length * m
 | [],_=>Q6 _
 | c::cs,h=>by
   show((zs c).map (c :: ·)++flFr cs zs).length<=_;have h1:=h c Qp;have h2:=zn8 (m:=m) λd hd=>h d (Qe _ hd);rw[Qj,Qc,Ql,Y9];lia
theorem zil(hA:GrwOk A)(hB:GrwOk B)(h:¬endM A B)(hz:∀c∈frs (zas (A++B)),LstS (MetS (behB A c) (behB B c)) (zs c)):LstS (MetS A B) (wnf (za4 (flFr (frs (zas (A++B))) zs))):=by
 obtain⟨n1,n2,n3,n4⟩:=zkt hA hB h
 have lo:∀c∈zas (A++B),c<128:=λc hc=>by
  obtain⟨u,hu⟩:=(zep (λz=>(Qq.mp z).elim n1 n2)).mp hc;rcases Qq.mp hu with z|z
  .exact(hA.wl _ z).2 c Qp
  .exact(hB.wl _ z).2 c Qp
 refine zub n1 n2 (cs:=frs (zas (A++B))) (λc=>by rw[zp2 lo,zep λz=>(Qq.mp z).elim n1 n2]) hz (zgo (zqs ((zo9 _).imp λh=>Q0 h) λc hc=>?_)) (λw=>by rw[sortW_mem];exact flFr_mem) (.inl n3);exact(hz c hc).asc.imp λ{a b} z e=>by rw[e,zb1] at z;cases z
theorem zkg(hA:GrwOk A)(hB:GrwOk B)(h:endM A B):LstS (MetS A B) (if A = [[]] then B else if B = [[]] then A else[]):=by
 by_cases h1:A = [[]]
 .rw[NI h1];exact zyx (by rw[h1];simp) hB.asc hB.anti
 .rw[NJ h1]
  by_cases h2:B = [[]]
  .rw[NI h2];exact zxz (by rw[h2];simp) hA.asc hA.anti
  .rw[NJ h2];exact z8i ((h.resolve_left h1).resolve_left h2)
theorem zoa(hA:GrwOk A)(hB:GrwOk B)(h:¬endM A B){c:Nat}(hc:c∈frs (zas (A++B))):sumL (behB A c)+sumL (behB B c)<sumL A+sumL B:=by
 obtain⟨n1,n2,n3,n4⟩:=zkt hA hB h
 have hc':c∈zas (A++B):=by
  have:=(QI.mp hc).2;exact NL this
 obtain⟨u,hu⟩:=(zep (λz=>(Qq.mp z).elim n1 n2)).mp hc';have hl:=zvk A c;have hr:=zvk B c;rcases Qq.mp hu with z|z
 .have:=zvz z;lia
 .have:=zvz z;lia
theorem z6d(ok:MetOk Ls):∀(n:Nat) (p:Grs×Grs),p∈Ls->sumL p.1+sumL p.2<=n->∃zs,LstS (MetS p.1 p.2) zs:=by
 intro n
 induction n with
 | zero=>
   intro p hp hn;obtain⟨hA,hB⟩:=ok.gr p hp
   by_cases h:endM p.1 p.2
   .exact⟨_,zkg hA hB h⟩
   .refine⟨_,zil (zs:=λ_=>[]) hA hB h λc hc=>?_⟩;have:=zoa hA hB h hc;lia
 | succ n ih=>
   intro p hp hn;obtain⟨hA,hB⟩:=ok.gr p hp
   by_cases h:endM p.1 p.2
   .exact⟨_,zkg hA hB h⟩
   .have hz:∀c:Nat,∃zs,c∈frs (zas (p.1++p.2))->LstS (MetS (behB p.1 c) (behB p.2 c)) zs:=λc=>by
     by_cases hc:c∈frs (zas (p.1++p.2))
     .have:=zoa hA hB h hc;obtain⟨zs,z⟩:=ih _ (ok.cl p hp c) (show sumL (behB p.1 c)+sumL (behB p.2 c)<=n by lia);exact⟨zs,λ_=>z⟩
     .exact⟨[],λz=>absurd z hc⟩
    exact⟨_,zil (zs:=λc=>YY (hz c)) hA hB h λc hc=>YO (hz c) hc⟩
theorem zb7(ok:MetOk Ls)(hp:p∈Ls):LstS (MetS p.1 p.2) (metT p.1 p.2):=by
 have h:=z6d ok _ p hp (Qg _);unfold metT;rw[dif_pos h];exact YO h
theorem zn7(ok:MetOk Ls)(hp:p∈Ls):∀w∈metT p.1 p.2,w.length<=24/\∀c∈w,c<128:=λw hw=>by
 obtain⟨hA,hB⟩:=ok.gr p hp;have hL:=zb7 ok hp;obtain⟨⟨⟨a,ha,da⟩,b,hb,db⟩,mn⟩:=(hL.mem w).mp hw
 have m:Mn a b w:=⟨⟨da,db⟩,λi hi z=>by
  have:=NO Jo (mn _ ⟨⟨a,ha,z.1⟩,b,hb,z.2⟩ (Ua ..));rw[V5 hi] at this
  lia⟩
 obtain⟨h1,h2⟩:=zga m;have l1:=(hA.wl a ha).1;have l2:=(hB.wl b hb).1;exact⟨by lia,λc hc=>(h2 c hc).elim ((hA.wl a ha).2 c) ((hB.wl b hb).2 c)⟩
def zbc(p:Grs×Grs):GG:=.tuple [.tuple (p.1.map tS),.tuple (p.2.map tS)]
def zmf:List GG->2.7->Prop:=λds Q=>∃(c:Nat) (ws:3.5) (d:GG),ds = [tS [c],d]/\LTd d ws/\ws.length<=1000000/\(∀w∈ws,w.length<=50)/\Q (.n ((ws.map (c :: ·)).map tS))
def zg4:List DV->(KX->Prop)->Prop:=λrs Q=>∃A B,rs = [.im (zbc (A,B))]/\GrwOk A/\GrwOk B/\Q (mvE zbc (mvM (A,B)))
def zhx(P:GK)(w:GM):List DV->2.7->Prop:=λrs Q=>∃(cs:0.7) (st:Nat->GG) (zs:Nat->Grs) (ks vs:2.3),rs = [.thr (DctZ P w (cs.map λc=>(.inr (tx [c]),st c))),.rd (ddO w ks) (ks++vs)]/\ks.length=vs.length /\
 (∀c∈cs,c<128/\flat (st c)=true/\(∃i:Nat,ks[i]? = some (st c)/\vs[i]? = some (.tuple ((zs c).map tS)))/\(zs c).length<=100000/\∀u∈zs c,u.length<=50/\∀d∈u,d<128)/\(flFr cs zs).length<=1000000/\Q (.o (.tuple ((wnf (za4 (flFr cs zs))).map tS)))
noncomputable def metR(A B:Grs):Grs:=if A = [[]] then B else if B = [[]] then A else wnf (za4 (flFr (if endM A B then[] else frs (zas (A++B))) λc=>metT (behB A c) (behB B c)))
def zic(P:GK)(w:GM):List DV->2.7->Prop:=λrs Q=>∃(A B:Grs) (ks vs:2.3),rs = [.im (zbc (A,B)),.thr (DctZ P w (mvE zbc (mvM (A,B)))),.rd (ddO w ks) (ks++vs)]/\GrwOk A/\GrwOk B/\ks.length=vs.length /\
 (¬endM A B->∀c∈frs (zas (A++B)),(∃i:Nat,ks[i]? = some (zbc (behB A c,behB B c))/\vs[i]? = some (.tuple ((metT (behB A c) (behB B c)).map tS)))/\(metT (behB A c) (behB B c)).length<=1000/\∀u∈metT (behB A c) (behB B c),u.length<=24/\∀d∈u,d<128)/\Q (.o (.tuple ((metR A B).map tS)))
def zgp:List GG->2.7->Prop:=λds Q=>∃(A B:Grs) (Ls:List (Grs×Grs)),ds = [.tuple (A.map tS),.tuple (B.map tS)]/\MetOk Ls/\(A,B)∈Ls/\∀zs,LstS (MetS A B) zs->(zs.length<=1000/\∀w∈zs,w.length<=24/\∀c∈w,c<128)->Q (.o (.tuple (zs.map tS)))
theorem zcs{a b:Grs}(h:a.map tS=b.map tS):a=b:=by
 induction a generalizing b with
 | nil=>cases b with
   | nil=>rfl
   | cons y b=>simp at h
 | cons x a ih=>cases b with
   | nil=>simp at h
   | cons y b=>
     rw[QB,QB] at h;injection h with h1 h2;rw[ih h2,show x=y from zgr (PyData.str.inj h1)]
theorem ztl(h:zbc p=zbc q):p=q:=by
 unfold zbc at h;injection h with h;injection h with h1 h;injection h with h2 _;exact Ud (zcs (Yp h1)) (zcs (Yp h2))
theorem z6j(hA:∀w∈A,Sml w)(hB:∀w∈B,Sml w):HK.DKey (zbc (A,B)):=by
 have hk:∀l:Grs,HK.hks (l.map tS)=true:=λl=>by
  induction l with
  | nil=>rfl
  | cons x l ih=>rw[QB,HK.hks,ih];rfl
 have la:∀l:Grs,(∀w∈l,Sml w)->Qy (l.map tS)=true:=λl=>by
  induction l with
  | nil=>intro _;rfl
  | cons x l ih=>intro h;rw[QB];simp[Qy,ZR,tS,zd6 (h x Qp),ih λw hw=>h w (Qe _ hw)]
 have de:∀l:Grs,Zb (l.map tS)=0:=λl=>by
  induction l with
  | nil=>rfl
  | cons x l ih=>rw[QB];simp[Zb,QU,tS,ih]
 refine⟨⟨_,rfl⟩,?_,?_,?_⟩
 .simp[zbc,HK.hk,HK.hks,hk]
 .simp[zbc,ZR,Qy,la A hA,la B hB]
 .simp[zbc,QU,Zb,de]
theorem slW{A:Grs}(h:∀w∈A,Sml w):Sl 1 (.tuple (A.map tS)):=z8q λw hw=>z5s (zd6 (h w hw))
theorem slM(hA:∀w∈A,Sml w)(hB:∀w∈B,Sml w):Sl 2 (zbc (A,B)):=zrd (slW hA) (zrd (slW hB) (z6c 1))
theorem allE:JT (([Zt ""]:List Str).map .str) = .tuple (([[]]:Grs).map tS):=by
 show JT [.str (Zt "")] = .tuple [.str (tx [])];rw[show Zt "" = tx [] by decide +kernel]
theorem noE:JT (([]:List Str).map .str) = .tuple (([]:Grs).map tS):=rfl
theorem zk5:∀w∈([[]]:Grs),Sml w:=λw hw=>by rw[Qm.mp hw];exact⟨Q6 _,λc hc=>by cases hc⟩
theorem eq_W{neg:Bool}{A B:Grs}(hA:∀w∈A,Sml w)(hB:∀w∈B,Sml w){q:Bool}(hq:q=true↔A=B):eqF neg (.tuple (A.map tS)) (.tuple (B.map tS))=some (.o (.bool (if neg then !q else q))) :=
 z9c (slW hA) (slW hB) (hq:=hq.trans ⟨λe=>by rw[e],λe=>zcs (Yp e)⟩)
theorem in_M{neg:Bool}(hC:∀w∈C,Sml w)(hA:∀w∈A,Sml w)(hB:∀w∈B,Sml w){q:Bool}(hq:q=true↔A=C\/B=C):inF neg (.tuple (C.map tS)) (zbc (A,B))=some (.o (.bool (if neg then !q else q))):=by
 refine z7k (slW hC) (slM hA hB) (hq:=hq.trans ?_);rw[Qz,Qm];constructor
 .rintro(e|e)
  .exact .inl (by rw[e])
  .exact .inr (by rw[e])
 .rintro(e|e)
  .exact .inl (zcs (Yp e)).symm
  .exact .inr (zcs (Yp e)).symm
theorem z1z(ok:MetOk Ls)(hp:p∈Ls):metR p.1 p.2=metT p.1 p.2:=by
 obtain⟨hA,hB⟩:=ok.gr p hp;refine LstS.uniq ?_ (zb7 ok hp);unfold metR
 by_cases h:endM p.1 p.2
 .have:=zkg hA hB h
  by_cases h1:p.1 = [[]]
  .rw[NI h1] at this ⊢;exact this
  .rw[NJ h1] at this ⊢
   by_cases h2:p.2 = [[]]
   .rw[NI h2] at this ⊢;exact this
   .rw[NJ h2] at this ⊢;rw[NI h];have e:flFr [] (λc=>metT (behB p.1 c) (behB p.2 c)) = []:=rfl;rw[e,show za4 ([]:Grs) = [] from Jc.mp (by rw[zl9];rfl)];exact this
 .rw[NJ (λz=>h (.inl z)),NJ (λz=>h (.inr (.inl z))),NJ h];exact zil hA hB h λc _=>zb7 ok (ok.cl p hp c)
theorem zqi(b:W):mrg [] b = [b]:=by unfold mrg;rfl
theorem zno(a:W):mrg a [] = [a]:=by cases a <;> (unfold mrg;rfl)
theorem zks{xs ys:List W}(h:xs.Nodup)(hs:∀k∈xs,k∈ys):xs.length<=ys.length:=by
 induction xs generalizing ys with
 | nil=>exact Q6 _
 | cons x xs ih=>
   obtain⟨n1,n2⟩:=Zq.mp h;obtain⟨u,v,rfl⟩:=Y6 (hs x Qp)
   have:=ih (ys:=u++v) n2 λk hk=>by
    rcases Qq.mp (hs k (Qe _ hk)) with z|z
    .exact QE _ z
    .rcases Qz.mp z with z|z
     .exact absurd (z ▸ hk) n1
     .exact QG _ z
   rw[Qj] at this;rw[Ql,Qj,Ql];lia
def mrgN:Nat->Nat->Nat
 | 0,_=>1
 | _+1,0=>1
 | i+1,j+1=>mrgN i (j+1)+mrgN (i+1) j
theorem zjv(j:Nat):mrgN 0 j=1:=by unfold mrgN;rfl
theorem zjl(i:Nat):mrgN (i+1) 0=1:=by unfold mrgN;rfl
theorem zi8(i j:Nat):mrgN (i+1) (j+1)=mrgN i (j+1)+mrgN (i+1) j:=by rw[mrgN]
theorem zd2:∀i j,1<=mrgN i j
 | 0,_=>by rw[zjv];exact Qg _
 | _+1,0=>by rw[zjl];exact Qg _
 | i+1,j+1=>by have:=zd2 i (j+1);rw[zi8];lia
theorem z4g:∀i j,mrgN i j<=mrgN (i+1) j/\mrgN i j<=mrgN i (j+1)
 | 0,j=>⟨by rw[zjv];exact zd2 1 j,by rw[zjv,zjv];exact Qg _⟩
 | i+1,0=>⟨by rw[zjl,zjl];exact Qg _,by rw[zjl];exact zd2 (i+1) 1⟩
 | i+1,j+1=>by
   refine⟨?_,?_⟩
   .rw[zi8 (i+1) j];lia
   .rw[zi8 i (j+1)];lia
theorem zhs:∀(p q:Nat) (a b:0.7),a.length<=p->b.length<=q->(mrg a b).length<=mrgN p q
 | p,q,[],b,_,_=>by rw[zqi];exact zd2 p q
 | p,q,c::a,[],_,_=>by rw[zno];exact zd2 p q
 | 0,_,_::_,_::_,h,_=>by simp at h
 | _+1,0,_::_,_::_,_,h=>by simp at h
 | p+1,q+1,c::a,d::b,ha,hb=>by
   rw[Ql] at ha hb;have h1:=zhs p (q+1) a (d::b) 0.0 (by rw[Ql];lia);have h2:=zhs (p+1) q (c::a) b (by rw[Ql];lia) 0.0;have h3:=zhs p q a b 0.0 0.0;have h4:=(z4g p q).2;rw[mrg];rw[zi8]
   by_cases e:c=d
   .rw[NI e,Qc];lia
   .rw[NJ e,Qj,Qc,Qc];lia
theorem zjy:∀{a b w:0.7},Mn a b w->w∈mrg a b
 | [],b,w,h=>by rw[zqi];exact Qm.mpr (mn_nil.mp h)
 | c::a,[],w,h=>by rw[zno];exact Qm.mpr (mn_nil.mp (mn_swap.mp h))
 | c::a,d::b,w,h=>by
   rw[mrg]
   by_cases e:c=d
   .subst e;obtain⟨u,rfl,m⟩:=mn_same.mp h;rw[NI rfl];exact Qo.mpr ⟨u,zjy m,rfl⟩
   .rw[NJ e];rcases(z4s e).mp h with ⟨u,rfl,m,_⟩|⟨u,rfl,m,_⟩
    .exact QE _ (Qo.mpr ⟨u,zjy m,rfl⟩)
    .exact QG _ (Qo.mpr ⟨u,zjy m,rfl⟩)
termination_by a b=>a.length+b.length
theorem zdc{α β:Type}{f:α->List β}{m:Nat}:∀{l:4.2},(∀a∈l,(f a).length<=m)->(l.flatMap f).length<=l.length * m
 | [],_=>Q6 _
 | a::l,h=>by
   have h1:=h a Qp;have h2:=zdc (m:=m) λb hb=>h b (Qe _ hb);rw[UW,Qj,Ql,Y9];lia
theorem zus(h:MetS A B w)(mn:∀v,MetS A B v->v.Sublist w->v=w):∃a∈A,∃b∈B,Mn a b w:=by
 obtain⟨⟨a,ha,da⟩,b,hb,db⟩:=h
 exact⟨a,ha,b,hb,⟨da,db⟩,λi hi z=>by
  have:=NO Jo (mn _ ⟨⟨a,ha,z.1⟩,b,hb,z.2⟩ (Ua ..));rw[V5 hi] at this
  lia⟩
theorem zkc{p q:Nat}(hA:∀w∈A,w.length<=p)(hB:∀w∈B,w.length<=q)(h:LstS (MetS A B) zs):zs.length<=A.length * (B.length * mrgN p q):=by
 have nd:zs.Nodup:=h.asc.imp λ{a b} z e=>by rw[e,zb1] at z;cases z
 refine Q1 (zks (ys:=A.flatMap λa=>B.flatMap λb=>mrg a b) nd λw hw=>?_) (zdc λa ha=>zdc λb hb=>zhs p q a b (hA a ha) (hB b hb));obtain⟨h1,h2⟩:=(h.mem w).mp hw;obtain⟨a,ha,b,hb,m⟩:=zus h1 h2;exact QV.mpr ⟨a,ha,QV.mpr ⟨b,hb,zjy m⟩⟩
theorem zp5:∀{A L:Grs},L∈chcs A->L.length=A.length/\∀w∈L,∃a∈A,∃i,w=a.drop i
 | [],L,h=>by rw[Qm.mp h];exact⟨rfl,λw hw=>by cases hw⟩
 | a::A,L,h=>by
   obtain⟨i,hi,h⟩:=QV.mp h;obtain⟨M,hM,rfl⟩:=Qo.mp h;obtain⟨h1,h2⟩:=zp5 hM;refine⟨by rw[Ql,Ql,h1],λw hw=>?_⟩;rcases Qz.mp hw with rfl|hw
   .exact⟨a,Qp,i,rfl⟩
   .obtain⟨b,hb,j,e⟩:=h2 w hw;exact⟨b,Qe _ hb,j,e⟩
structure SmG(n m:Nat)(A:Grs):Prop where
 asc:A.Pairwise λa b=>wlt a b=true
 anti:zch A
 len:A.length<=n
 wl:∀w∈A,w.length<=m/\∀c∈w,c<128
theorem SmG.ok{n m:Nat}(h:SmG n m A)(hn:n<=31)(hm:m<=12):GrwOk A:=⟨h.asc,h.anti,Q1 h.len hn,λw hw=>⟨Q1 (h.wl w hw).1 hm,(h.wl w hw).2⟩⟩
theorem SmG.sml{n m:Nat}(h:SmG n m A)(hm:m<=100):∀w∈A,Sml w:=λw hw=>⟨Q1 (h.wl w hw).1 hm,(h.wl w hw).2⟩
theorem zk6{n m:Nat}(hn:l.length<=n)(hw:∀w∈l,w.length<=m/\∀c∈w,c<128):SmG n m (lowK l):=by
 have k:=zap l;have nd:(lowK l).Nodup:=k.asc.imp λ{a b} z e=>by rw[e,zb1] at z;cases z
 exact⟨k.asc,zca l,Q1 (zks nd λw hw=>k.of w hw) hn,λw h=>hw w (k.of w h)⟩
theorem zcn{n m:Nat}(h:SmG n m A)(hL:L∈chcs A):SmG n m (lowK L):=by
 obtain⟨h1,h2⟩:=zp5 hL;refine zk6 (by rw[h1];exact h.len) λw hw=>?_;obtain⟨a,ha,i,rfl⟩:=h2 w hw;have:=h.wl a ha;exact⟨Q1 (by rw[Zr];lia) this.1,λc hc=>this.2 c (Ym hc)⟩
theorem zfe{m:Nat}:∀{n k:Nat},n<=k->(m+1) ^ n<=(m+1) ^ k:=λh=>ZC 0.0 h
def zay(A B:Grs):List (Grs×Grs):=(chcs A).flatMap λL=>(chcs B).map λM=>(lowK L,lowK M)
theorem zoh{n m k l:Nat}(hA:SmG n m A)(hB:SmG k l B)(n31:n<=31)(k31:k<=31)(m12:m<=12)(l12:l<=12)(few:(m+1) ^ n * (l+1) ^ k<100000)(cnt:n * (k * mrgN m l)<=1000):MetOk (zay A B)/\(A,B)∈zay A B:=by
 refine⟨⟨?_,?_,?_,?_⟩,?_⟩
 .refine JQ (zdc (m:=(chcs B).length) λL _=>by rw[Qc];exact Qg _) (JQ (JM ?_ ?_) few)
  .exact Q1 (zc4 λw hw=>(hA.wl w hw).1) (zfe hA.len)
  .exact Q1 (zc4 λw hw=>(hB.wl w hw).1) (zfe hB.len)
 .intro p hp c;obtain⟨L,hL,hp⟩:=QV.mp hp;obtain⟨M,hM,rfl⟩:=Qo.mp hp;refine QV.mpr ⟨L.map (zdb c),zfw hL,Qo.mpr ⟨M.map (zdb c),zfw hM,?_⟩⟩;rw[<- zk4 L c (zha (zap L).asc (zca L) c),<- zk4 M c (zha (zap M).asc (zca M) c)]
 .intro p hp;obtain⟨L,hL,hp⟩:=QV.mp hp;obtain⟨M,hM,rfl⟩:=Qo.mp hp;exact⟨(zcn hA hL).ok n31 m12,(zcn hB hM).ok k31 l12⟩
 .intro p hp zs hz;obtain⟨L,hL,hp⟩:=QV.mp hp;obtain⟨M,hM,rfl⟩:=Qo.mp hp;have h1:=zcn hA hL;have h2:=zcn hB hM;exact Q1 (zkc (λw hw=>(h1.wl w hw).1) (λw hw=>(h2.wl w hw).1) hz) (Q1 (JM h1.len (Jz _ h2.len)) cnt)
 .exact QV.mpr ⟨A,zer,Qo.mpr ⟨B,zer,by rw[zig hA.asc hA.anti,zig hB.asc hB.anti]⟩⟩
def zh6:List GG->2.7->Prop:=λds Q=>∃(ws:Grs) (d:GG),ds = [d]/\LTd d ws/\(∀w∈ws,Sml w)/\ws.length<64/\Q (.o (.tuple ((lowK ws).map tS)))
def zre:List GG->2.7->Prop:=λds Q=>∃(ls:0.7) (n m:Nat),ds = [.str (tx ls),.int (n:Nat),.int (m:Nat)]/\LowW ls/\ls≠[]/\ls.length<=26/\n<=30/\m<=50/\∀A,SmG n m A->(∀w∈A,SubW ls w)->Q (.o (.tuple (A.map tS)))
theorem overG_up: zam A w=true↔upS A w:=by
 unfold zam;rw[Z5];exact⟨λ⟨v,hv,d⟩=>⟨v,hv,under_iff.mp d⟩,λ⟨v,hv,d⟩=>⟨v,hv,under_iff.mpr d⟩⟩
theorem zyu{i:Nat}{d:GG}(e:ρ[i]? = some (some (.im d)))(h:LTd d ws)(q:∀b,Q b 5.1):z0k (vD i) ρ Q:=by
 rcases h with rfl|rfl
 .exact .inl ⟨_,_,e,rfl,_,rfl,q _⟩
 .exact .inr ⟨_,_,e,rfl,_,rfl,q _⟩
theorem zk8(hA:SmG 3 3 A)(hB:SmG 3 3 B):MetOk (zay A B)/\(A,B)∈zay A B :=
 zoh hA hB 0.2 0.2 0.2 0.2 0.2 (by simp[mrgN])
theorem ztg: (A.filter λv=>under v w).isEmpty = !zam A w:=by
 unfold zam
 induction A with
 | nil=>rfl
 | cons v A ih=>
   rw[Zz,YZ]
   cases h:under v w with
   | true=>simp
   | false=>rw[NJ 0.1,G5];exact ih
theorem zde: upS (A++B) w↔upS A w\/upS B w:=by
 constructor
 .rintro⟨a,ha,d⟩;exact(Qq.mp ha).elim (λz=>.inl ⟨a,z,d⟩) λz=>.inr ⟨a,z,d⟩
 .rintro(⟨a,ha,d⟩|⟨a,ha,d⟩)
  .exact⟨a,QE _ ha,d⟩
  .exact⟨a,QG _ ha,d⟩
theorem z8m(up:∀v w,S v->v.Sublist w->S w)(h:LstS S zs): upS zs w↔S w:=by
 constructor
 .rintro⟨a,ha,d⟩;exact up a w ((h.mem a).mp ha).1 d
 .have key:∀(n:Nat) (w:0.7),w.length<=n->S w->upS zs w:=by
   intro n
   induction n with
   | zero=>
     intro w hn hw;obtain rfl:w = []:=Jc.mp 0.0;exact⟨[],(h.mem []).mpr ⟨hw,λv _ d=>List.eq_nil_of_sublist_nil d⟩,.refl _⟩
   | succ n ih=>
     intro w hn hw
     by_cases z:∀v,S v->v.Sublist w->v=w
     .exact⟨w,(h.mem w).mpr ⟨hw,z⟩,.refl _⟩
     .have:∃v,S v/\v.Sublist w/\v≠w:=Zc λy=>z λv a b=>Zc λe=>y ⟨v,a,b,e⟩;obtain⟨v,hv,d,ne⟩:=this
      have:v.length<w.length:=by
       rcases Jj v.length w.length with y|y
       .exact y
       .exact absurd (d.eq_of_length_le y) ne
      obtain⟨u,hu,e⟩:=ih v 0.0 hv;exact⟨u,hu,e.trans d⟩
  exact key _ w (Qg _)
theorem z3x: ∀v w,MetS A B v->v.Sublist w->MetS A B w:=λv w h d=>⟨zd3 h.1 d,zd3 h.2 d⟩
theorem zja(h:LstS (MetS A B) zs): upS zs w↔upS A w/\upS B w:=z8m z3x h
theorem LstS.anti(h:LstS S zs):zch zs:=λv hv w hw d=>((h.mem v).mp hv).2 w ((h.mem w).mp hw).1 d
theorem ze3(l:Grs):LstS (upS l) (lowK l):=(zbx (zap l).asc (zca l)).congr λ_=>zdf
theorem zzl(A B:Grs):lowK (A++B)=lowK (B++A):=(ze3 _).uniq ((ze3 _).congr λw=>by rw[zde,zde];exact Or.comm)
theorem zwf(A B C:Grs):lowK (lowK (A++B)++C)=lowK (A++lowK (B++C)) :=
 (ze3 _).uniq ((ze3 _).congr λw=>by rw[zde,zdf,zde,zde,zdf,zde];exact or_assoc.symm)
theorem z3n{n m:Nat}(hA:SmG n m A)(h:LstS (MetS A B) zs):(∀a∈A,upS B a)↔zs=A:=by
 constructor
 .intro hw;refine h.uniq ((zbx hA.asc hA.anti).congr λw=>⟨λz=>⟨z,?_⟩,λz=>z.1⟩);obtain⟨a,ha,d⟩:=z;exact zd3 (hw a ha) d
 .rintro rfl a ha;exact((h.mem a).mp ha).1.2
theorem z3d{n m:Nat}(hB:SmG n m B):(∀a∈A,upS B a)↔lowK (A++B)=B:=by
 constructor
 .intro hw;refine(ze3 _).uniq ((zbx hB.asc hB.anti).congr λw=>?_);rw[zde];refine⟨.inr,λz=>z.elim (λz=>?_) id⟩;obtain⟨a,ha,d⟩:=z;exact zd3 (hw a ha) d
 .intro e a ha;rw[<- e,zdf];exact⟨a,QE _ ha,.refl _⟩
theorem MetOk.swap(ok:MetOk Ls):MetOk (Ls.map λp=>(p.2,p.1)):=by
 refine⟨by rw[Qc];exact ok.few,λp hp c=>?_,λp hp=>?_,λp hp zs hz=>?_⟩
 .obtain⟨q,hq,rfl⟩:=Qo.mp hp;exact Qo.mpr ⟨_,ok.cl q hq c,rfl⟩
 .obtain⟨q,hq,rfl⟩:=Qo.mp hp;exact(ok.gr q hq).symm
 .obtain⟨q,hq,rfl⟩:=Qo.mp hp;exact ok.cnt q hq zs (hz.congr λw=>⟨λh=>⟨h.2,h.1⟩,λh=>⟨h.2,h.1⟩⟩)
theorem z2a{c:Nat}(h:LstS (MetS A B) Z):LstS (MetS (behB A c) (behB B c)) (behB Z c) :=
 (zbx (zha h.asc h.anti c) (znv h.anti c)).congr λw=>by
  rw[ze9,zja h];unfold MetS;rw[ze9,ze9]
noncomputable def zh4(A B C:Grs):List (Grs×Grs):=(zay A B).flatMap λp=>(chcs C).map λN=>(metT p.1 p.2,lowK N)
theorem zj1{n m k l:Nat}(hA:SmG n m A)(hB:SmG k l B)(hp:p∈zay A B):SmG n m p.1/\SmG k l p.2:=by
 obtain⟨L,hL,hp⟩:=QV.mp hp;obtain⟨M,hM,rfl⟩:=Qo.mp hp;exact⟨zcn hA hL,zcn hB hM⟩
theorem z6e{n m k l t:Nat}(hA:SmG n m A)(hB:SmG k l B)(h:LstS (MetS A B) Z)(hc:n * (k * mrgN m l)<=t):SmG t (m+l) Z:=by
 refine⟨h.asc,h.anti,Q1 (zkc (λw hw=>(hA.wl w hw).1) (λw hw=>(hB.wl w hw).1) h) (Q1 (JM hA.len (Jz _ hB.len)) hc),λw hw=>?_⟩;obtain⟨h1,h2⟩:=(h.mem w).mp hw;obtain⟨a,ha,b,hb,mn⟩:=zus h1 h2;obtain⟨g1,g2⟩:=zga mn;have l1:=hA.wl a ha;have l2:=hB.wl b hb;exact⟨by lia,λc hc=>(g2 c hc).elim (l1.2 c) (l2.2 c)⟩
theorem zri{n m k l t u v:Nat}(hA:SmG n m A)(hB:SmG k l B)(hC:SmG u v C)(ok:MetOk (zay A B)/\(A,B)∈zay A B)(hZ:LstS (MetS A B) Z)(ht:n * (k * mrgN m l)<=t)(t31:t<=31)(u31:u<=31)(ml:m+l<=12)(v12:v<=12)
 (few:(m+1) ^ n * (l+1) ^ k * (v+1) ^ u<100000) (cnt:t * (u * mrgN (m+l) v)<=1000):MetOk (zh4 A B C)/\(Z,C)∈zh4 A B C:=by
 have zz:∀p∈zay A B,SmG t (m+l) (metT p.1 p.2):=λp hp=>z6e (zj1 hA hB hp).1 (zj1 hA hB hp).2 (zb7 ok.1 hp) ht;refine⟨⟨?_,?_,?_,?_⟩,?_⟩
 .have e1:(zay A B).length<=(m+1) ^ n * (l+1) ^ k:=Q1 (zdc (m:=(chcs B).length) λL _=>by rw[Qc];exact Qg _) (JM (Q1 (zc4 λw hw=>(hA.wl w hw).1) (zfe hA.len)) (Q1 (zc4 λw hw=>(hB.wl w hw).1) (zfe hB.len)));refine JQ (zdc (m:=(chcs C).length) λL _=>by rw[Qc];exact Qg _) (JQ (JM e1 (Q1 (zc4 λw hw=>(hC.wl w hw).1) (zfe hC.len))) few)
 .intro q hq c;obtain⟨p,hp,hq⟩:=QV.mp hq;obtain⟨N,hN,rfl⟩:=Qo.mp hq;have hp2:=ok.1.cl p hp c;refine QV.mpr ⟨_,hp2,Qo.mpr ⟨N.map (zdb c),zfw hN,?_⟩⟩;rw[<- zk4 N c (zha (zap N).asc (zca N) c)];dsimp only;rw[(zb7 ok.1 hp2).uniq (z2a (c:=c) (zb7 ok.1 hp))]
 .intro q hq;obtain⟨p,hp,hq⟩:=QV.mp hq;obtain⟨N,hN,rfl⟩:=Qo.mp hq;exact⟨(zz p hp).ok t31 ml,(zcn hC hN).ok u31 v12⟩
 .intro q hq zs hz;obtain⟨p,hp,hq⟩:=QV.mp hq;obtain⟨N,hN,rfl⟩:=Qo.mp hq;have h1:=zz p hp;have h2:=zcn hC hN;exact Q1 (zkc (λw hw=>(h1.wl w hw).1) (λw hw=>(h2.wl w hw).1) hz) (Q1 (JM h1.len (Jz _ h2.len)) cnt)
 .exact QV.mpr ⟨_,ok.2,Qo.mpr ⟨C,zer,by rw[zig hC.asc hC.anti];exact Ud ((zb7 ok.1 ok.2).uniq hZ) rfl⟩⟩
theorem zws(hY:LstS (MetS A B) Y)(hZ:LstS (MetS B C) Z)(hy:LstS (MetS Y C) y)(hz:LstS (MetS A Z) z):y=z:=by
 refine hy.uniq (hz.congr λw=>?_);unfold MetS;rw[zja hY,zja hZ];exact and_assoc.symm
def zlh:List GG->2.7->Prop:=λds Q=>∃(ls:0.7) (n:Nat),ds = [.str (tx ls),.int (n:Nat)]/\(∀c∈ls,c<128)/\ls.length<=3/\n<=6/\(ls.length=3->n<=4)/\∀ws:Grs,(∀w,w∈ws↔SubW ls w/\w.length<=n)->Q (.n 5.1)
def zzz:List GG->2.7->Prop:=λds Q=>∃(ws A B:Grs) (ls:0.7) (m:Nat),ds = [.list 5.1,.tuple (A.map tS),.tuple (B.map tS)]/\(∀w,w∈ws↔SubW ls w/\w.length<=m)/\(∀c∈ls,c<128)/\4<=m/\m<=6/\SmG 3 3 A/\SmG 3 3 B/\(∀a∈A,SubW ls a)/\Q (.o (.bool true))
def lvlW(ls:0.7):Nat->Grs
 | 0=>[[]]
 | n+1=>(lvlW ls n).flatMap λw=>ls.map λc=>w ++ [c]
def alW(ls:0.7):Nat->Grs
 | 0=>[[]]
 | n+1=>alW ls n++lvlW ls (n+1)
theorem lvlW_mem: ∀{n:Nat} {w:0.7},w∈lvlW ls n↔SubW ls w/\w.length=n
 | 0,w=>by
   unfold lvlW;rw[Qm];exact⟨λe=>by rw[e];exact⟨λc hc=>(nomatch hc),rfl⟩,λh=>Jc.mp h.2⟩
 | n+1,w=>by
   unfold lvlW;rw[QV];constructor
   .rintro⟨v,hv,h⟩;obtain⟨c,hc,rfl⟩:=Qo.mp h;obtain⟨h1,h2⟩:=lvlW_mem.mp hv;exact⟨λd hd=>(Qq.mp hd).elim (h1 d) λz=>by rw[Qm.mp z];exact hc,by rw[Qj,h2];rfl⟩
   .rintro⟨h1,h2⟩;rcases Ub w with rfl|⟨v,c,rfl⟩
    .cases h2
    .rw[Uc] at *;rw[Qj,Zd] at h2;exact⟨v,lvlW_mem.mpr ⟨λd hd=>h1 d (QE _ hd),by lia⟩,Qo.mpr ⟨c,h1 c 0.1,rfl⟩⟩
theorem zqp: ∀{n:Nat} {w:0.7},w∈alW ls n↔SubW ls w/\w.length<=n
 | 0,w=>by
   unfold alW;rw[Qm];exact⟨λe=>by rw[e];exact⟨λc hc=>(nomatch hc),Qg _⟩,λh=>Jc.mp (Nat.le_zero.mp h.2)⟩
 | n+1,w=>by
   unfold alW;rw[Qq,zqp,lvlW_mem];constructor
   .rintro(h|h)
    .exact⟨h.1,by lia⟩
    .exact⟨h.1,by lia⟩
   .rintro⟨h1,h2⟩;rcases Jj w.length (n+1) with z|z
    .exact .inl ⟨h1,by lia⟩
    .exact .inr ⟨h1,by lia⟩
theorem zfn: ∀n:Nat,(lvlW ls n).length<=ls.length ^ n
 | 0=>Qg _
 | n+1=>by
   have h:=zdc (f:=λw:List Nat=>ls.map λc=>w ++ [c]) (l:=lvlW ls n) (m:=ls.length) λw _=>by rw[Qc];exact Qg _
   exact Q1 h (by rw[Jw];exact Jz _ (zfn n))
theorem pow3{k n:Nat}(h3:k<=3)(hn:n<=6):k ^ n<=729:=Q1 (Nat.pow_le_pow_left h3 n) (Q1 (ZC 0.2 hn) 0.2)
theorem zqn(h3:ls.length<=3):∀n:Nat,n<=6->(alW ls n).length<=729 * (n+1)
 | 0,_=>by unfold alW;decide
 | n+1,hn=>by
   have h1:=zqn h3 n 0.0;have h2:=Q1 (zfn (ls:=ls) (n+1)) (pow3 h3 hn);unfold alW;rw[Qj];lia
end L3
namespace L16
open PySem PySem.Spec
open PyProof.Rows hiding St
open L2 L3 L6
local macro_rules | `(tactic| infer_instance)=>`(tactic| first|refine⟨_,_,rfl,rfl,?_⟩|refine⟨_,eqI,?_⟩|refine⟨_,neI,?_⟩|refine⟨_,rfl,?_⟩|refine⟨rfl,?_⟩|refine⟨(by show _ ≤ sizeLine;rw[GP];exact Ya rfl),?_⟩|refine⟨_,_,rfl,?_⟩|refine⟨_,_,_,rfl,?_⟩|refine iteT ?_|refine iteF ?_|refine Or.inl ⟨rfl,?_⟩|refine Or.inr ⟨rfl,?_⟩|refine⟨_,eqS_t (by decide +kernel),?_⟩|refine⟨_,eqS_f (by decide +kernel) (by decide +kernel),?_⟩|refine⟨_,inS_t (by decide +kernel),?_⟩|refine⟨_,inS_f (by decide +kernel),?_⟩)
section
variable {P:GK}{w:GM}{K:Qa}{mg:0.4}{base:Heap}{k:Nat}
abbrev zdj:Stmt:=top 1
theorem zk9:FnScope ["start", "moves_of", "told_of", "moves", "told", "waiting", "state", "lacking"] ["start", "moves_of", "told_of"] (zad zdj):=1.2
theorem zck(B:Blt mg)(T:Top3 K mg "told_from_last" zdj):Def3 P w K mg base 21 "told_from_last" ["start", "moves_of", "told_of"] (spG K 1.6 3 (zst P w mg base λ_=>True)):=by
 refine mk_G T zk9 (λ_ _ _ _ _ _ us hl=>len3 hl λ_ _ _=>rfl) rfl λf cdv A outer s H E O hφ C=>⟨_,(zah (z4e 3 C) (zah (z1q 4 C) (zah (za9 5 (zc0 (zab 5.0 zaf))) (zah (z4m C (z0v C (zaa 5)) (zah (za9 6 (zba C (zaa 5) z9s)) (zah (s_if (z4z 3 C (zaa 6)) (zai (z3i 3 C (zzo (φ:=λ_=>True) (k':=20) 1 C 1.7 (g_im (zaa 6) zmw)) (zaa 6))) zbn) (zah (zu2 7 1 ["further", "start", "moves_of", "told_of", "moves", "told", "waiting", "state", "lacking"] C (λ_=>.of rfl 2.5) (z7f C (zwy 3 C (zaa 6))) (za3 0) (zmv (zvl 5 (C.comp _ _) 5.0)) 5.0) (zai (s_if (z0v C (zaa 7)) (zai (zmo 5 C (zba C (zaa 7) zak))) (zah (z2p 4 C (z2o (φ:=λ_=>True) (k':=20) 2 C 1.7 (g_im (zaa 6) (g_z (zwy 3 C (zaa 6)) (z0a 4 zmw)))) (zaa 6)) (zai (yak 5 C))))))))) (zai (zax (zrn 4 C 5.0))))))),λrs Qr hn q=>?_⟩;obtain⟨start,mv,S,rank,T,L,Fm,Ft,fm,ft,rfl,ok,hm,ht,q⟩:=q;have sz:=GP;have few:=ok.few;have low:=ok.low
 ac_rfl
 refine⟨by rw[flats_iff];intro d hd;rw[Qm.mp hd];exact ok.flat ok.st,λm ρ=>∃(cs ks ds:2.3) (x6 x7:Option DV),(∀d∈cs,S d)/\cs.Nodup/\(∀d∈ks,S d)/\ks.Nodup/\(∀d∈ds,S d/\d ∉ ks/\rank d<=rank start)/\ds.Pairwise (λa b=>rank b<rank a)/\(start∈ds\/start∈ks)/\m=zef (rank start) L (tlB ks) ((ds.getLast?.map rank).getD 0) /\
  ρ = [some (.im start),some (.thr (zfT P w mg base 1.6 Fm fm)),some (.thr (tfT P w mg base 1.6 Ft ft)),some (.thg (MvT P w (cs.map λs=>(s,mv s)))),some (.gen (ddO w ks) (ks++ks.map T)),some (.own ds),x6,x7],⟨_,[],[],[start],none,none,nofun,Ui,nofun,Ui,λd hd=>?_,Y8 _ _,.inl (Qm.mpr rfl),rfl,rfl⟩,?_⟩
 .rw[Qm.mp hd];exact⟨ok.st,nofun,Qg _⟩
 rintro m ρ ⟨cs,ks,ds,x6,x7,hcs,ncs,hks,nks,hds,pw,hst,rfl,rfl⟩;have lcs:=zv4 ncs λk hk=>ok.mem k (hcs k hk);have lks:=zv4 nks λk hk=>ok.mem k (hks k hk);have lds:=zme pw λd hd=>(hds d hd).2.2;refine⟨_,_,rfl,rfl,_,rfl,?_⟩;rcases Ub ds with rfl|⟨ds,s,rfl⟩
 .have hk:start∈ks:=by
   rcases hst with h|h
   .cases h
   .exact h
  obtain⟨i,hi⟩:=QK.mp hk;rw[NJ 0.1];exact⟨ks,ks.map T,⟨by rw[Qc],.inl rfl⟩,_,_,rfl,rfl,i,T start,hi,by rw[Qh,hi];rfl,q⟩
 rw[Uc] at *;obtain⟨hs,hnk,hrk⟩:=hds s 0.1;have pw':=Jy.mp pw;have eL:((ds ++ [s]).getLast?.map rank).getD 0=rank s:=by rw[Uk];rfl
 rw[Qj,Zd] at lds;have ne:(!(ds ++ [s]).isEmpty)=true:=by simp
 rw[ne,NI rfl,eL];refine⟨_,_,rfl,rfl,_,(show idxF (.list (ds ++ [s])) (.int (-1))=some (.o s) by show(atI _ _).map _=_;rw[zx5];rfl),ok.flat hs,?_⟩;dsimp only;refine zrm (λρ=>∃cs':List GG,(∀d∈cs',S d)/\cs'.Nodup/\s∈cs'/\ρ = [some (.im start),some (.thr (zfT P w mg base 1.6 Fm fm)),some (.thr (tfT P w mg base 1.6 Ft ft)),some (.thg (MvT P w (cs'.map λs=>(s,mv s)))),some (.gen (ddO w ks) (ks++ks.map T)),some (.own (ds ++ [s])),some (.im s),x7]) (λN hN=>?_) λρ zz=>?_
 .have em:(cs.map λs=>(s,mv s)).map (·.1)=cs:=by rw[QY];exact List.map_id' cs
  refine⟨_,rfl,_,_,rfl,rfl,ok.dk s hs,λb hb=>?_⟩;rw[em] at hb
  cases b with
  | false=>
    rw[NJ 0.1];exact hN _ ⟨cs,hcs,ncs,VB.mp λz=>absurd (hb.mpr z) 0.1,rfl⟩
  | true=>
    rw[NI rfl];have nin:=hb.mp rfl;refine⟨_,rfl,1,1+fm.length,Fm,fm,rfl,_,_,rfl,rfl,rfl,rfl,?_⟩;refine hm s hs _ ⟨_,_,rfl,rfl,ok.dk s hs,by rw[em];exact nin,by rw[Qc];lia,hN _ ⟨cs ++ [s],?_,?_,by simp,by rw[Qu];rfl⟩⟩
    .intro d hd;rcases Qq.mp hd with z|z
     .exact hcs d z
     .rw[Qm.mp z];exact hs
    .rw[J1];exact⟨ncs,by simp,λa ha b hb e=>nin (by rw[Qm.mp hb] at e;exact e ▸ ha)⟩
 obtain⟨cs',hcs',ncs',hsc,e⟩:=zz;subst e;obtain⟨ci,hci⟩:=QK.mp hsc;have hget:(cs'.map λs=>(s,mv s))[ci]? = some (s,mv s):=by rw[Qh,hci];rfl
 refine⟨_,rfl,_,_,rfl,rfl,ci,mv s,hget,?_⟩;have hsm:=ok.sm s hs;dsimp only;rw[show((mv s).map (·.2))=((mv s).map (·.2)).map id by rw[List.map_id]];refine zuw (p:=λd=>!tlB ks d) (e:=id) (λd hd Pn Py hPn hPy=>?_) (by rw[Qc];lia) ?_
 .obtain⟨x,hx,rfl⟩:=Qo.mp hd;refine⟨ks,ks.map T,⟨by rw[Qc],.inl rfl⟩,_,_,rfl,rfl,ok.dk _ (ok.cl s hs x hx),λb hb=>?_⟩
  cases b with
  | true=>
    rw[NI rfl];exact⟨_,_,rfl,rfl,hPy (by rw[show tlB ks x.2=false from tlB_not.mpr (hb.mp rfl)];rfl) _ rfl⟩
  | false=>
    rw[NJ 0.1];exact hPn (by rw[show tlB ks x.2=true from tlB_iff.mpr (VB.mp λz=>absurd (hb.mpr z) 0.1)];rfl)
 rw[List.map_id]
 have hlk:∀d,d∈((mv s).map (·.2)).filter (λd=>!tlB ks d)->(∃x∈mv s,x.2=d)/\d ∉ ks:=λd hd=>by
  obtain⟨h1,h2⟩:=QI.mp hd;obtain⟨x,hx,e⟩:=Qo.mp h1;exact⟨⟨x,hx,e⟩,tlB_not.mp (by simpa using h2)⟩
 have hlk2:∀x∈mv s,x.2 ∉ ks->x.2∈((mv s).map (·.2)).filter (λd=>!tlB ks d):=λx hx n=>QI.mpr ⟨Qo.mpr ⟨x,hx,rfl⟩,by rw[tlB_not.mpr n];rfl⟩;generalize ((mv s).map (·.2)).filter (λd=>!tlB ks d)=lk at hlk hlk2 ⊢;refine⟨flats_iff.mpr λd hd=>by obtain⟨⟨x,hx,rfl⟩,_⟩:=hlk d hd;exact ok.flat (ok.cl s hs x hx),?_⟩;refine⟨_,_,rfl,rfl,_,rfl,?_⟩
 cases lk with
 | cons t lk=>
   obtain⟨⟨x,hx,rfl⟩,htk⟩:=hlk t Qp;have hst':=ok.cl s hs x hx;have hrt:=ok.dn s hs x hx;rw[NI (by rfl)];refine⟨_,rfl,_,_,rfl,rfl,.o x.2,(show(atI (x.2::lk) ((0:Nat):Int)).map R.o=_ by rw[L2.atI_nat (j:=0) rfl];rfl),ok.flat hst',by rw[Qj,Zd];lia,?_⟩;refine⟨_,zs4 hrt,cs',ks,ds ++ [s] ++ [x.2],_,_,hcs',ncs',hks,nks,?_,?_,?_,?_,rfl⟩
   .intro d hd;rcases Qq.mp hd with z|z
    .exact hds d z
    .rw[Qm.mp z];exact⟨hst',htk,by lia⟩
   .rw[Jy];refine⟨pw,Y8 _ _,λa ha b hb=>?_⟩;rw[Qm.mp hb];rcases Qq.mp ha with z|z
    .have:=pw'.2.2 a z s 0.1;lia
    .rw[Qm.mp z];exact hrt
   .rcases hst with z|z
    .exact .inl (QE _ z)
    .exact .inr z
   .rw[Uk];rfl
 | nil=>
   have all:∀p∈mv s,p.2∈ks:=λp hp=>VB.mp λz=>by cases hlk2 p hp z
   rw[NJ 0.1];refine⟨ks,ks.map T,by rw[Qc],rfl,3,3+ft.length,Ft,ft,rfl,_,_,rfl,rfl,_,rfl,_,_,rfl,rfl,ci,mv s,hget,_,_,.inl rfl,rfl,rfl,?_⟩;refine ht s ks (ks.map T) hs (by rw[Qc]) (λi k hk=>⟨hks k (Qt hk),by rw[Qh,hk];rfl⟩) all _ ?_;refine⟨_,_,rfl,rfl,ok.fl s hs,ok.dk s hs,hnk,by lia,?_⟩;refine⟨_,rfl,by simp,?_⟩;have up:zcd L (tlB (ks ++ [s]))<zcd L (tlB ks):=zyy (ok.mem s hs) (tlB_not.mpr hnk) (tlB_iff.mpr 0.1) λd hd=>tlB_iff.mpr (QE _ (tlB_iff.mp hd))
   have hd':∀d∈ds,S d/\d ∉ ks ++ [s]/\rank d<=rank start:=λd hd=>by
    obtain⟨h1,h2,h3⟩:=hds d (QE _ hd);refine⟨h1,λz=>?_,h3⟩;rcases Qq.mp z with z|z
    .exact h2 z
    .have:=pw'.2.2 d hd s 0.1;rw[Qm.mp z] at this;lia
   rw[Ug];refine⟨_,zt7 (r':=(ds.getLast?.map rank).getD 0) up ?_,cs',ks ++ [s],ds,some (.im s),some (.own []),hcs',ncs',?_,?_,hd',pw'.1,?_,rfl,?_⟩
   .cases h:ds.getLast? with
    | none=>exact Q6 _
    | some d=>exact(hd' d (List.mem_of_getLast? h)).2.2
   .intro d hd;rcases Qq.mp hd with z|z
    .exact hks d z
    .rw[Qm.mp z];exact hs
   .rw[J1];exact⟨nks,by simp,λa ha b hb e=>hnk (by rw[Qm.mp hb] at e;exact e ▸ ha)⟩
   .rcases hst with z|z
    .rcases Qq.mp z with z|z
     .exact .inl z
     .exact .inr (by rw[Qm.mp z];simp)
    .exact .inr (QE _ z)
   .rw[Qu];rfl
end
section
variable {P:GK}{w:GM}{K:Qa}{mg:0.4}{base:Heap}{k:Nat}
abbrev zf8:Stmt:=top 3
theorem zpl:FnScope ["word"] ["word"] (zad zf8):=1.2
theorem zbr(B:Blt mg)(T:Top3 K mg "word_order" zf8):Def3 P w K mg base 1 "word_order" ["word"] (spO K 1.6 1 zdn):=by
 refine mk_O T zpl (λ_ _ _ _ _ _ us hl=>len1 hl λ_=>rfl) rfl λf cdv A outer s H E O hφ C=>⟨_,(zai (zax (zms (zab (zhr C B (zab 5.0 zaf)) (zab 5.0 zaf))))),λds Qr hn q=>?_⟩;obtain⟨v,rfl,hv,q⟩:=q;exact⟨_,_,rfl,rfl,_,zd4 0.0,_,_,rfl,rfl,by show 2<=sizeLine;decide,q _ rfl⟩
end
section
variable {P:GK}{w:GM}{K:Qa}{mg:0.4}{base:Heap}{k:Nat}
abbrev zko:Stmt:=top 4
theorem zxr:FnScope ["less", "more", "found", "start", "letter", "place"] ["less", "more"] (zad zko):=1.2
theorem zii(B:Blt mg)(T:Top3 K mg "places" zko):Def3 P w K mg base 1 "places" ["less", "more"] (spO K 1.6 2 zq7):=by
 refine mk_O T zxr 2.9 rfl λf cdv A outer s H E O hφ C=>⟨_,(zah (za9 2 (zc0 zaf)) (zah (za9 3 zak) (zah (zcw C (zek (zsk 5.0)) (za3 (h:=1000) 4) (zah (za9 5 (z4u C (zaa 1) (zab (zaa 4) (zab (zaa 3) zaf)))) (zah (s_if (t_lt (zaa 5) zak) (zai (zax z0h)) zbn) (zah (zmo 2 C (zaa 5)) (zai (za9 3 (zct C (zaa 5) zak))))))) (zai (zm4 2))))),λds Qr hn q=>?_⟩;obtain⟨less,more,rfl,hs,hm,q0,q1⟩:=q;have sz:=GP;have hl:=hs.1;have hl2:=hm.1;refine⟨Q6 _,rfl,rfl,_,_,rfl,rfl,_,rfl,rfl,?_⟩
 refine zbh (λj ρ=>∃(acc:0.7) (start:Nat) (o4 o5:Option DV),ρ = [some (.im (tS less)),some (.im (tS more)),some (.own (acc.map λp=>.int (p:Nat))),some (.im (.int (start:Nat))),o4,o5]/\plc less more 0 []=plc (less.drop j) more start acc/\acc.length<=j/\start<=more.length/\j<=less.length)
  ⟨[],0,none,none,rfl,rfl,Qg _,Q6 _,Q6 _⟩ (λρ ⟨acc,start0,o4,o5,e,h1,h2,h3,h4⟩=>?_) λj d ρ N hd hN ⟨acc,start0,o4,o5,e,h1,h2,h3,h4⟩=>?_
 .subst e;rw[zq9,Js] at h1;exact⟨_,rfl,q1 acc h1⟩
 .subst e;obtain⟨c,hc,rfl⟩:=zqq hd;obtain⟨hlt,ec⟩:=Qn.mp hc;rw[QX hlt,ec] at h1;refine 3.2;refine⟨_,_,rfl,rfl,_,rfl,_,_,rfl,rfl,_,_,rfl,rfl,_,_,rfl,rfl,?_⟩;rw[z1l h3];rw[show plc (c::less.drop (j+1)) more start0 acc=match zbq c more start0 with|none=>none|some p=>plc (less.drop (j+1)) more (p+1) (acc ++ [p]) from rfl] at h1
  cases hf:zbq c more start0 with
  | none=>
    rw[hf] at h1;rw[show zg7 c more start0 = -1 by unfold zg7;rw[hf]];exact⟨_,_,rfl,rfl,_,rfl,_,rfl,q0 h1⟩
  | some p=>
    rw[hf] at h1;rw[show zg7 c more start0=(p:Int) by unfold zg7;rw[hf]];obtain⟨_,b,_⟩:=zeh hf;obtain⟨b1,_⟩:=Qn.mp b;refine⟨_,_,rfl,rfl,_,rfl,_,rfl,?_⟩;rw[NK 0.0];refine iteF ⟨_,rfl,_,_,rfl,rfl,rfl,by rw[Qc];lia,_,_,rfl,rfl,_,rfl,rfl,hN _ ⟨acc ++ [p],p+1,some (.im (.str (sg c))),some (.im (.int (p:Nat))),?_,h1,by simp;lia,b1,hlt⟩⟩;show[_,_,some (DV.own (acc.map (λp=>U0 (p:Nat)) ++ [U0 (p:Nat)])),some (DV.im (.int ((p:Int)+1))),_,_]=_;rw[Qu];rfl
end
section
variable {P:GK}{w:GM}{K:Qa}{mg:0.4}{base:Heap}{k:Nat}
abbrev zfo:Stmt:=top 5
theorem zpq:FnScope ["less", "more"] ["less", "more"] (zad zfo):=1.2
theorem zd0(B:Blt mg)(zii:Def3 P w K mg base 1 "places" ["less", "more"] (spO K 1.6 2 zq7))(T:Top3 K mg "lies_under" zfo):Def3 P w K mg base 2 "lies_under" ["less", "more"] (spO K 1.6 2 zdp):=by
 refine mk_O T zpq 2.9 rfl λf cdv A outer s H E O hφ C=>⟨_,(zai (zax (z3e (zal C zii 1.7 (zab 5.0 (zab (zaa 1) zaf))) z0h))),λds Qr hn q=>?_⟩;obtain⟨less,more,rfl,hs,hm,q⟩:=q;rw[<- zul] at q;refine⟨_,_,rfl,rfl,_,_,rfl,rfl,rfl,less,more,rfl,hs,hm,λh=>3.2,λps h=>3.2⟩
 .rw[h] at q;exact q
 .rw[h] at q;exact q
end
section
variable {P:GK}{w:GM}{K:Qa}{mg:0.4}{base:Heap}{k:Nat}
abbrev zdh:Stmt:=top 6
theorem zld:FnScope ["words", "more", "less"] ["words", "more"] (zad zdh):=1.2
theorem za1(B:Blt mg)(zd0:Def3 P w K mg base 2 "lies_under" ["less", "more"] (spO K 1.6 2 zdp))(T:Top3 K mg "one_lies_under" zdh):Def3 P w K mg base 3 "one_lies_under" ["words", "more"] (spO K 1.6 2 oluF):=by
 refine mk_O T zld 2.9 rfl λf cdv A outer s H E O hφ C=>⟨_,(zah (zcw C (j_lt C 0) (za3 (h:=1000) 2) (zai (s_if (zhc (zal C zd0 1.7 (zab (zaa 2) (zab (zaa 1) zaf)))) (zai (zax e_bl)) zbn))) (zai (zax e_bl))),λds Qr hn q=>?_⟩;obtain⟨ws,w,d0,rfl,hd0,hs,hw,q⟩:=q;have sz:=GP;unfold zam at q
 have inn:∀Dd:DEnds,Dd.nx=(λρ=>retS (cD (Uf false)) { nx:=λx=>Qr (R.o Gq),rt:=Qr } ρ)->Dd.rt=Qr->zeo (gN 2) (ifS (bD (calD 2 zdp (zdq (vD 2) (zdq (vD 1) aNil)))) (retS (cD (Uf true))) λDd ρ=>Dd.nx ρ) Dd 5.1 [some (.im d0),some (.im (tS w)),none]:=by
  intro Dd h1 h2;refine zbh (λj ρ=>∃o2,ρ = [some (.im d0),some (.im (tS w)),o2]/\(ws.take j).any (λv=>L6.under v w)=false) ⟨none,rfl,rfl⟩ (λρ zz=>?_) λj d ρ N hd hN zz=>?_
  .obtain⟨o2,e,h⟩:=zz;subst e;rw[Qc,Zu (Qg _)] at h;rw[h] at q;rw[h1];exact q
  .obtain⟨o2,e,h⟩:=zz;subst e;rw[Qh] at hd;obtain⟨v,hv,rfl⟩:=Q2.mp hd;have mv:=Qt hv;refine 3.2;refine⟨_,_,rfl,rfl,_,_,rfl,rfl,rfl,v,w,rfl,hs v mv,hw,_,rfl,?_⟩
   cases c:L6.under v w with
   | true=>
     refine iteT ?_;rw[Z5.mpr ⟨v,mv,c⟩] at q;show Dd.rt _;rw[h2];exact q
   | false=>
     refine iteF (hN _ ⟨_,rfl,?_⟩);rw[zqy hv,List.any_append,h,YZ,c];rfl
 rcases hd0 with rfl|rfl
 .exact .inl ⟨_,rfl,inn _ rfl rfl⟩
 .refine .inr ?_
  ac_rfl
  exact inn _ rfl rfl
end
section
variable {P:GK}{w:GM}{K:Qa}{mg:0.4}{base:Heap}{k:Nat}
abbrev zph:Stmt:=top 7
theorem z3l:FnScope ["words", "kept", "word"] ["words"] (zad zph):=1.2
theorem zkw(B:Blt mg)(zbr:Def3 P w K mg base 1 "word_order" ["word"] (spO K 1.6 1 zdn))(za1:Def3 P w K mg base 3 "one_lies_under" ["words", "more"] (spO K 1.6 2 oluF))(T:Top3 K mg "least" zph):Def3 P w K mg base 4 "least" ["words"] (spO K 1.6 1 ztk):=by
 refine mk_O T z3l (λ_ _ _ _ _ _ us hl=>len1 hl λ_=>rfl) rfl λf cdv A outer s H E O hφ C=>⟨_,(zah (za9 1 (zc0 zaf)) (zah (zcw C (zek (ze2 C (zio C B zbr 1.7 5.0))) (za3 (h:=1000) 2) (zai (s_if (zmu (zhc (zal C za1 1.7 (zab (zaa 1) (zab (zaa 2) zaf))))) (zai (zmo 1 C (zaa 2))) zbn))) (zai (zm4 1)))),λds Qr hn q=>?_⟩;obtain⟨ws,d,rfl,hd,hs,hl,q⟩:=q;have sz:=GP;refine⟨Q6 _,rfl,_,_,rfl,rfl,ws.map tS,wkey,hd,by rw[Qc];lia,λx hx=>?_,_,rfl,rfl,?_⟩
 .obtain⟨w,hw,rfl⟩:=Qo.mp hx;exact⟨w,rfl,(hs w hw).1,λr hr=>by show r.d=_;rw[hr,zhh]⟩
 rw[ze1];have hm:∀w∈za4 ws,Sml w:=λw hw=>hs w (sortW_mem.mp hw);have hl2:=zl9 (ws:=ws);generalize hu:za4 ws=us at *;refine zbh (λj ρ=>∃o2,ρ = [some (.im d),some (.own (((us.take j).foldl zaz []).map tS)),o2]) ⟨none,rfl⟩ (λρ zz=>?_) λj x ρ N hd hN zz=>?_
 .obtain⟨o2,e⟩:=zz;subst e;rw[Qc,Zu (Qg _)];exact⟨_,rfl,q⟩
 .obtain⟨o2,e⟩:=zz;subst e;rw[Qh] at hd;obtain⟨v,hv,rfl⟩:=Q2.mp hd;have mv:=Qt hv;refine 3.2;refine⟨_,_,rfl,rfl,_,_,rfl,rfl,rfl,_,v,_,rfl,.inl rfl,λw hw=>?_,hm v mv,_,rfl,?_⟩
  .rcases zim w hw with h|h
   .exact(ZJ h).elim
   .exact hm w (Zv h)
  have e2:(us.take (j+1)).foldl zaz []=zaz ((us.take j).foldl zaz []) v:=by rw[zqy hv,YK];rfl
  have hk:=ziq (kept:=[]) (ws:=us.take j);rw[QL] at hk;simp only[JU] at hk
  cases c:zam ((us.take j).foldl zaz []) v with
  | true=>
    have e3:zaz ((us.take j).foldl zaz []) v=(us.take j).foldl zaz []:=by unfold zaz;exact NI c
    refine iteF (hN _ ⟨some (.im (tS v)),?_⟩);rw[e2,e3];rfl
  | false=>
    have e3:zaz ((us.take j).foldl zaz []) v=(us.take j).foldl zaz [] ++ [v]:=NJ (λz=>by have z2:zam ((us.take j).foldl zaz []) v=true:=z;rw[c] at z2;cases z2);refine iteT ⟨_,rfl,_,_,rfl,rfl,rfl,by rw[Qc];lia,hN _ ⟨some (.im (tS v)),?_⟩⟩;rw[e2,e3,Qu];rfl
end
theorem z1b{ks:3.5}{w:0.7}:(ks.map tx).contains (tx w)=ks.contains w:=by
 apply ZE.mpr;rw[YQ,YQ,Qo];exact⟨λ⟨v,hv,e⟩=>by rw[<- zgr e];exact hv,λh=>⟨w,h,rfl⟩⟩
section
variable {P:GK}{w:GM}{K:Qa}{mg:0.4}{base:Heap}{k:Nat}
abbrev zb2:Stmt:=top 8
theorem zeu:FnScope ["words", "kept", "word"] ["words"] (zad zb2):=1.2
theorem zbp(B:Blt mg)(zbr:Def3 P w K mg base 1 "word_order" ["word"] (spO K 1.6 1 zdn))(T:Top3 K mg "without_needless_first" zb2):Def3 P w K mg base 3 "without_needless_first" ["words"] (spO K 1.6 1 wnfF):=by
 refine mk_O T zeu (λ_ _ _ _ _ _ us hl=>len1 hl λ_=>rfl) rfl λf cdv A outer s H E O hφ C=>⟨_,(zah (z2f 1) (zah (zcw C (zek (ze2 C (zio C B zbr 1.7 5.0))) (za3 (h:=1000) 2) (zai (s_if (z3z 1 C (zfh C (zaa 2) (zgv zak) zgx)) (zai (z2c 1 C (zaa 2))) zbn))) (zai (zax (zyp 1 C B))))),λds Qr hn q=>?_⟩;obtain⟨ws,rfl,hl,hw,q⟩:=q;have sz:=GP
 ac_rfl
 refine⟨_,wkey,.inl rfl,by rw[Qc];exact hl,λd hd=>?_,?_⟩
 .obtain⟨w,hm,rfl⟩:=Qo.mp hd;rw[zhh];exact⟨w,rfl,(hw w hm).1,λr e=>e⟩
 rw[ze1];have hs:∀w∈za4 ws,Sml w:=λw hm=>hw w ((JF _ _).mem_iff.mp hm);have ls:(za4 ws).length<=1000000:=by unfold za4;rw[VY];exact hl
 generalize za4 ws=l at hs ls q;refine⟨_,rfl,rfl,?_⟩;refine zbh (λi ρ=>∃x2:Option DV,ρ = [some (.im (.list 5.1)),some (.thg (DctS ((wnf (l.take i)).map tx))),x2]/\(wnf (l.take i)).length<=i) ⟨none,rfl,Qg _⟩ (λρ hρ=>?_) λi d ρ N hd nx hρ=>?_
 .obtain⟨x2,rfl,_⟩:=hρ;rw[Qc,Z4];refine⟨_,rfl,?_⟩;rw[QY];exact q
 .obtain⟨x2,rfl,lw⟩:=hρ;rw[Qh] at hd;obtain⟨w,hw',rfl⟩:=Q2.mp hd;have sw:=hs w (Qt hw');have il:=(Qn.mp hw').1
  have es:wnf (l.take (i+1))=(if(wnf (l.take i)).contains w.tail then wnf (l.take i) else if(wnf (l.take i)).contains w then wnf (l.take i) else wnf (l.take i) ++ [w]):=by
   unfold wnf;rw[Jl,hw',YK];rfl
  refine 3.2;have l1:=sw.1
  ac_rfl
  have sl:slcF (some 1) none (.str (tx w))=some (.o (.str (tx w.tail))):=by
   rw[zsm 0.0,show cutL w (some 1) none=w.drop 1 from zob w 1,GA]
  refine⟨_,sl,_,rfl,_,rfl,?_⟩;rw[z1b]
  cases h1:(wnf (l.take i)).contains w.tail with
  | true=>
    rw[NI h1] at es
    ac_rfl
    exact nx _ ⟨_,by rw[es];rfl,by rw[es];lia⟩
  | false=>
    rw[NJ (by rw[h1];decide)] at es
    ac_rfl
    refine⟨by rw[Qc];lia,?_⟩
    have ea:addK ((wnf (l.take i)).map tx) (tx w)=(wnf (l.take (i+1))).map tx:=by
     unfold addK;rw[z1b,es]
     split
     .rfl
     .rw[Qu];rfl
    rw[ea];refine nx _ ⟨_,rfl,?_⟩;rw[es]
    split
    .lia
    .rw[Qj,Zd];lia
end
section
variable {P:GK}{w:GM}{K:Qa}{mg:0.4}{base:Heap}{k:Nat}
abbrev zgl:Stmt:=top 9
theorem zsl:FnScope ["letter", "words"] ["letter", "words"] (zad zgl):=1.2
theorem zey(B:Blt mg)(T:Top3 K mg "put_ahead" zgl):Def3 P w K mg base 1 "put_ahead" ["letter", "words"] (spO K 1.6 2 zmf):=by
 refine mk_O T zsl 2.9 rfl λf cdv A outer s H E O hφ C=>⟨_,(zai (zax (zcr 1 ["word", "letter", "words"] C (λ_=>.of rfl 2.5) (i_lt C (zaa 1)) (za3 0) zfq (zct (C.comp _ _) (zaa 1) 5.0)))),λds Qr hn q=>?_⟩;obtain⟨c,ws,d0,rfl,hd,hl,hw,q⟩:=q;have sz:=GP
 have inn:zbd 1 (gN 0) yesD (opDE (fn2 addF) (vD 1) (vD 0)) [some (.im (tS [c])),some (.im d0)] (λes=>Qr (.n es)) 5.1 []:=by
  refine ze7 (α:=List Nat) (enc:=tS) (e:=λw=>tS (c::w)) (λw hm P hP=>?_) 0.0 ?_
  .have:=hw w hm
   ac_rfl
   exact⟨_,zvy (v:=[c]) (w:=w) (by rw[Zd];lia),hP _ rfl⟩
  .rw[QY] at q;exact q
 rcases hd with rfl|rfl
 .exact .inl ⟨_,_,rfl,rfl,_,rfl,inn⟩
 .exact .inr ⟨_,_,rfl,rfl,_,rfl,inn⟩
end
section
variable {P:GK}{w:GM}{K:Qa}{mg:0.4}{base:Heap}{k:Nat}
abbrev sHas:Stmt:=top 13
theorem z9k:FnScope ["grown", "word"] ["grown", "word"] (zad sHas):=1.2
theorem zem(B:Blt mg)(za1:Def3 P w K mg base 3 "one_lies_under" ["words", "more"] (spO K 1.6 2 oluF))(T:Top3 K mg "has" sHas):Def3 P w K mg base 4 "has" ["grown", "word"] (spO K 1.6 2 hasF):=by
 refine mk_O T z9k 2.9 rfl λf cdv A outer s H E O hφ C=>⟨_,(zai (zax (zal C za1 1.7 (zab 5.0 (zab (zaa 1) zaf))))),λds Qr hn q=>?_⟩;obtain⟨ws,w,rfl,hs,hw,q⟩:=q
 ac_rfl
 exact⟨ws,w,_,rfl,.inr rfl,hs,hw,q⟩
end
section
variable {P:GK}{w:GM}{K:Qa}{mg:0.4}{base:Heap}{k:Nat}
abbrev zdx:Stmt:=top 14
theorem zmg:FnScope ["one", "other"] ["one", "other"] (zad zdx):=1.2
theorem zc2(B:Blt mg)(zem:Def3 P w K mg base 4 "has" ["grown", "word"] (spO K 1.6 2 hasF))(T:Top3 K mg "grown_within" zdx):Def3 P w K mg base 5 "grown_within" ["one", "other"] (spO K 1.6 2 zrc):=by
 refine mk_O T zmg 2.9 rfl λf cdv A outer s H E O hφ C=>⟨_,(zai (zax (yal C B (zab (zcr 1 ["word", "one", "other"] C (λ_=>.of rfl 2.5) (zho C 5.0) (za3 0) zfq (zal (C.comp _ _) zem 1.7 (zab (zaa 2) (zab 5.0 zaf)))) zaf)))),λds Qr hn q=>?_⟩;obtain⟨ws,vs,rfl,l1,h1,h2,q⟩:=q;have sz:=GP
 ac_rfl
 refine ze7 (enc:=tS) (e:=λw=>.bool (zam vs w)) (λw hw Py hPy=>?_) 0.0 ?_
 .ac_rfl
  exact⟨h2,h1 w hw,hPy _ rfl⟩
 ac_rfl
 refine⟨ws.map λw=>zam vs w,by rw[QY];rfl,?_⟩;rw[NJ 0.2,UV];exact q
end
section
variable {P:GK}{w:GM}{K:Qa}{mg:0.4}{base:Heap}{k:Nat}
abbrev zec:Stmt:=top 15
theorem zmk:FnScope ["one", "other"] ["one", "other"] (zad zec):=1.2
theorem zat(B:Blt mg)(zkw:Def3 P w K mg base 4 "least" ["words"] (spO K 1.6 1 ztk))(T:Top3 K mg "grown_joined" zec):Def3 P w K mg base 5 "grown_joined" ["one", "other"] (spO K 1.6 2 zki):=by
 refine mk_O T zmk 2.9 rfl λf cdv A outer s H E O hφ C=>⟨_,(zai (zax (zf1 C B (zab (zal C zkw 1.7 (zab (zct C 5.0 (zaa 1)) zaf)) zaf)))),λds Qr hn q=>?_⟩;obtain⟨ws,vs,rfl,l1,l2,h1,h2,q⟩:=q;have sz:=GP
 have hadd:addF (.tuple 5.1) (.tuple (vs.map tS))=some (.o (.tuple ((ws++vs).map tS))):=by
  rw[Qu];exact zlc (by rw[Qc,Qc];lia)
 (repeat first|refine⟨_,hadd,?_⟩|refine⟨hadd,?_⟩|infer_instance)
 exact⟨ws++vs,_,rfl,.inr rfl,λw hw=>(Qq.mp hw).elim (h1 w) (h2 w),by rw[Qj];lia,_,rfl,q⟩
end
section
variable {P:GK}{w:GM}{K:Qa}{mg:0.4}{base:Heap}{k:Nat}
abbrev zea:Stmt:=top 16
theorem zmj:FnScope ["grown", "letter", "shortened", "kept"] ["grown", "letter"] (zad zea):=1.2
theorem zcc(B:Blt mg)(zbr:Def3 P w K mg base 1 "word_order" ["word"] (spO K 1.6 1 zdn))(za1:Def3 P w K mg base 3 "one_lies_under" ["words", "more"] (spO K 1.6 2 oluF))(T:Top3 K mg "grown_behind" zea):Def3 P w K mg base 4 "grown_behind" ["grown", "letter"] (spO K 1.6 2 zqk):=by
 refine mk_O T zmj 2.9 rfl λf cdv A outer s H E O hφ C=>⟨_,(zah (za9 2 (zcr 1 ["word", "grown", "letter", "shortened", "kept"] C (λ_=>.of rfl 2.5) (zho C 5.0) (za3 0) (zmv (t_eq (C.comp _ _) (zfh (C.comp _ _) 5.0 zgx (zgv zak)) (zaa 2))) (zfh (C.comp _ _) 5.0 (zgv zak) zgx))) (zah (zu2 3 1 ["word", "grown", "letter", "shortened", "kept"] C (λ_=>.of rfl 2.5) (zho C 5.0) (za3 0) (zmv (zmu (zhc (zal (C.comp _ _) za1 1.7 (zab (zaa 3) (zab 5.0 zaf)))))) 5.0) (zai (zax (zf1 C B (zab (zio C B zbr 1.7 (zct C (zaa 2) (zaa 3))) zaf)))))),λds Qr hn q=>?_⟩;obtain⟨ws,c,rfl,l1,h1,hc,q⟩:=q;have sz:=GP
 have s1:∀w∈ws,slcF none (some 1) (.str (tx w))=some (.o (.str (tx (w.take 1)))):=λw hw=>by
  rw[zsm (by have:=(h1 w hw).1;lia),show(1:Int)=((1:Nat):Int) from rfl,zw8]
 have s2:∀w∈ws,slcF (some 1) none (.str (tx w))=some (.o (.str (tx w.tail))):=λw hw=>by
  rw[zsm (by have:=(h1 w hw).1;lia),show(1:Int)=((1:Nat):Int) from rfl,zob,GA]
 have e1:∀w∈ws,eqF false (.str (tx (w.take 1))) (.str (tx [c]))=some (.o (.bool (decide (w.take 1 = [c])))):=λw hw=>by
  rw[zrg (zd6 ⟨by rw[QL];lia,λd hd=>(h1 w hw).2 d (Zv hd)⟩) (zd6 ⟨by show 1<=100;decide,λd hd=>by rw[Qm.mp hd];exact hc⟩),NJ Qx,zos]
 ac_rfl
 refine zif (enc:=tS) (p:=λw=>decide (w.take 1 = [c])) (e:=λw=>tS w.tail) (λw hw Pn Py g0 g1=>?_) 0.0 ?_
 ·(repeat first|refine⟨_,s1 w hw,?_⟩|refine⟨s1 w hw,?_⟩|refine⟨_,e1 w hw,?_⟩|refine⟨e1 w hw,?_⟩|infer_instance)
  by_cases z:w.take 1 = [c]
  .rw[NM z] at g1 ⊢
   (repeat first|refine⟨_,s2 w hw,?_⟩|refine⟨s2 w hw,?_⟩|infer_instance)
   exact g1 rfl _ rfl
  .rw[NK z] at g0 ⊢;exact g0 rfl
 have es:(ws.filter λw=>decide (w.take 1 = [c])).map (λw=>tS w.tail)=(shtB ws c).map tS:=by unfold shtB;rw[QY];rfl
 rw[es]
 have hs:∀u∈shtB ws c,Sml u:=λu hu=>by
  have:=h1 _ (mem_sht.mp hu);exact⟨by have:=this.1;rw[Ql] at this;lia,λd hd=>this.2 d (Qe _ hd)⟩
 refine⟨zbb (λ_=>rfl) _,?_⟩
 ac_rfl
 refine zif (enc:=tS) (p:=λw=>!(shtB ws c).any λv=>under v w) (e:=tS) (λw hw Pn Py g0 g1=>?_) 0.0 ?_
 .ac_rfl
  refine⟨shtB ws c,w,_,rfl,.inl rfl,hs,h1 w hw,_,rfl,?_⟩
  cases z:zam (shtB ws c) w with
  | true=>
    have z2:((shtB ws c).any λv=>under v w)=true:=z;rw[z2] at g0;exact g0 rfl
  | false=>
    have z2:((shtB ws c).any λv=>under v w)=false:=z;rw[z2] at g1
    ac_rfl
    exact g1 rfl _ rfl
 have ek:(ws.filter λw=>!(shtB ws c).any λv=>under v w).map tS=(kptB ws c).map tS:=rfl;rw[ek];have ls:(shtB ws c).length<=1000:=by unfold shtB;rw[Qc];exact Q1 (JZ _ _) l1
 have lk:(kptB ws c).length<=1000:=Q1 (JZ _ _) l1
 have hadd:addF (.list ((shtB ws c).map tS)) (.list ((kptB ws c).map tS))=some (.n ((shtB ws c++kptB ws c).map tS)):=by
  rw[Qu];exact z2l (by rw[Qc,Qc];lia)
 have ha:∀w∈shtB ws c++kptB ws c,Sml w:=λw hw=>(Qq.mp hw).elim (hs w) λz=>h1 w (QI.mp z).1;refine⟨zbb (λ_=>rfl) _,?_⟩
 (repeat first|refine⟨_,hadd,?_⟩|refine⟨hadd,?_⟩|infer_instance)
 refine⟨(shtB ws c++kptB ws c).map tS,wkey,.inl rfl,by rw[Qc,Qj];lia,λx hx=>?_,?_⟩
 .obtain⟨w,hw,rfl⟩:=Qo.mp hx;exact⟨w,rfl,(ha w hw).1,λr hr=>by show r.d=_;rw[hr,zhh]⟩
 rw[ze1];exact⟨_,rfl,q⟩
end
section
variable {P:GK}{w:GM}{K:Qa}{mg:0.4}{base:Heap}{k:Nat}
abbrev zdk:Stmt:=top 17
theorem zkj:FnScope ["moves", "told", "words", "letter", "state"] ["moves", "told"] (zad zdk):=1.2
theorem zcl(B:Blt mg)(zbp:Def3 P w K mg base 3 "without_needless_first" ["words"] (spO K 1.6 1 wnfF))(zey:Def3 P w K mg base 1 "put_ahead" ["letter", "words"] (spO K 1.6 2 zmf))(T:Top3 K mg "least_by_first" zdk):Def3 P w K mg base 4 "least_by_first" ["moves", "told"] (spG K 1.6 2 (zhx P w)):=by
 refine mk_G T zkj 2.9 rfl λf cdv A outer s H E O hφ C=>⟨_,(zah (za9 2 (zc0 zaf)) (zah (zcw C (zxt 0 C) (zz4 (h:=1000) C (zhi 3 (zhi 4 zu0))) (zai (zs3 2 C (zal C zey 1.7 (zab (zaa 3) (zab (zrn 1 C (zaa 4)) zaf)))))) (zai (zax (zf1 C B (zab (zal C zbp 1.7 (zab (zaa 2) zaf)) zaf)))))),λrs Qr hn q=>?_⟩;obtain⟨cs,st,zs,ks,vs,rfl,hl,hz,hf,q⟩:=q;have sz:=GP
 ac_rfl
 have stp:∀(j:Nat) (c:Nat),cs[j]? = some c->flFr (cs.take (j+1)) zs=flFr (cs.take j) zs++(zs c).map (c :: ·):=λj c hj=>by
  rw[Jl,hj];unfold flFr;rw[Vr];simp
 have few:∀j:Nat,(flFr (cs.take j) zs).length<=1000000:=λj=>by
  have:flFr cs zs=flFr (cs.take j) zs++flFr (cs.drop j) zs:=by
   unfold flFr;rw[<- Vr,Zm]
  have e:=NO Jo this;rw[Qj] at e;lia
 refine zbh (λj ρ=>∃x3 x4:Option DV,ρ = [some (.thr (DctZ P w (cs.map λc=>(.inr (tx [c]),st c)))),some (.rd (ddO w ks) (ks++vs)),some (.own ((flFr (cs.take j) zs).map tS)),x3,x4]) ⟨none,none,rfl⟩ (λρ hρ=>?_) λj d ρ N hd hN hρ=>?_
 .obtain⟨x3,x4,rfl⟩:=hρ;rw[Qc,Qc,Z4]
  ac_rfl
  refine⟨hf,λw hw=>?_,_,rfl,q⟩;obtain⟨c,hc,u,hu,rfl⟩:=flFr_mem.mp hw;obtain⟨h1,_,_,_,h3⟩:=hz c hc;exact⟨by have:=(h3 u hu).1;rw[Ql];lia,λd hd=>(Qz.mp hd).elim (λe=>e ▸ h1) λz=>(h3 u hu).2 d z⟩
 .obtain⟨x3,x4,rfl⟩:=hρ;rw[QY,Qh] at hd;obtain⟨c,hc,rfl⟩:=Q2.mp hd;obtain⟨h1,h0,⟨i,hi,hv⟩,h2,h3⟩:=hz c (Qt hc);refine⟨by show flats [_,_]=true;simp[flats,flat,kD,h0],_,rfl,?_⟩;have f1:=few j;have f2:=few (j+1);rw[stp j c hc,Qj,Qc] at f2;refine⟨_,rfl,_,_,rfl,rfl,ks,vs,⟨hl,.inr rfl⟩,_,_,rfl,rfl,i,_,hi,hv,rfl,c,zs c,_,rfl,.inr rfl,by lia,λu hu=>(h3 u hu).1,_,rfl,zbb (λ_=>rfl) _,by rw[Qc,Qc,Qc];lia,hN _ ⟨some (.im (.str (tx [c]))),some (.im (st c)),?_⟩⟩;rw[<- Qu,<- stp j c hc];rfl
end
section
variable {P:GK}{w:GM}{K:Qa}{mg:0.4}{base:Heap}{k:Nat}
abbrev zg1:Stmt:=top 18
theorem zrw:FnScope ["both", "moves", "letter"] ["both"] (zad zg1):=1.2
theorem zev(B:Blt mg)(gALL_WORDS:Glo K mg "ALL_WORDS" (.tuple ((([""]:List Str)).map .str)))(gNO_WORDS:Glo K mg "NO_WORDS" (.tuple ((([]:List Str)).map .str)))(zcc:Def3 P w K mg base 4 "grown_behind" ["grown", "letter"] (spO K 1.6 2 zqk))(T:Top3 K mg "met_moves" zg1):Def3 P w K mg base 5 "met_moves" ["both"] (spZ P w K 1.6 1 zg4):=by
 refine mk_Z T zrw (λ_ _ _ _ _ _ us hl=>len1 hl λ_=>rfl) rfl λf cdv A outer s H E O hφ C=>⟨_,(zp9 (z6t 1) (zp9 (s_if (t_w (z0q (zqo C (zmt C gALL_WORDS) 5.0) (zvq (zqo C (zmt C gNO_WORDS) 5.0)))) (zai (zcw C (zek (ze2 C (zsq C B (zcr 1 ["word", "both", "moves", "letter"] C (λ_=>.of rfl 2.5) (zho C (zct C (zba C 5.0 zak) (zba C 5.0 zak))) (za3 0) zfq (zba (C.comp _ _) 5.0 zak))))) (za3 (h:=1000) 2) (zai (z6k 1 C (zms (zab (zal C zcc 1.7 (zab (zba C 5.0 zak) (zab (zaa 2) zaf))) (zab (zal C zcc 1.7 (zab (zba C 5.0 zak) (zab (zaa 2) zaf))) zaf))) (zaa 2))))) zbn) (z3o 1 C))),λrs Qk hn q=>?_⟩;obtain⟨A,B,rfl,hA,hB,q⟩:=q;have sz:=GP;have sA:∀w∈A,Sml w:=λw hw=>hA.sml hw;have sB:∀w∈B,Sml w:=λw hw=>hB.sml hw;have eA:=in_M (neg:=true) zk5 sA sB (q:=decide (A = [[]]\/B = [[]])) NS;have eB:=in_M (neg:=true) (C:=[]) (λw hw=>by cases hw) sA sB (q:=decide (A = []\/B = [])) NS;unfold mvM at q;dsimp only at q
 ac_rfl
 rw[allE,noE];refine⟨_,eA,_,rfl,?_⟩
 by_cases h1:A = [[]]\/B = [[]]
 .rw[NI (h1.elim .inl λz=>.inr (.inl z))] at q;rw[NM h1];exact iteF ⟨_,rfl,q⟩
 rw[NK h1];refine iteT ?_
 ac_rfl
 refine⟨_,eB,_,rfl,?_⟩;rw[NI rfl]
 by_cases h2:A = []\/B = []
 .rw[NI (.inr (.inr h2))] at q;rw[NM h2];exact iteF ⟨_,rfl,q⟩
 rw[NK h2];refine iteT ?_
 have hne:¬endM A B:=λz=>by
  rcases z with z|z|z
  .exact h1 (.inl z)
  .exact h1 (.inr z)
  .exact h2 z
 rw[NJ hne] at q;obtain⟨n1,n2,n3,n4⟩:=zkt hA hB hne;have lA:=hA.len;have lB:=hB.len;have i0:idxF (zbc (A,B)) (.int 0)=some (.o (.tuple (A.map tS))):=rfl;have i1:idxF (zbc (A,B)) (.int 1)=some (.o (.tuple (B.map tS))):=rfl
 have had:addF (.tuple (A.map tS)) (.tuple (B.map tS))=some (.o (.tuple ((A++B).map tS))):=by
  rw[Qu];exact zlc (by rw[Qc,Qc];lia)
 have sAB:∀w∈A++B,Sml w/\w≠[]:=λw hw=>(Qq.mp hw).elim (λz=>⟨sA w z,λe=>n1 (e ▸ z)⟩) λz=>⟨sB w z,λe=>n2 (e ▸ z)⟩
 have lo:∀c∈zas (A++B),c<128:=λc hc=>by
  obtain⟨u,hu⟩:=(zep (λz=>(Qq.mp z).elim n1 n2)).mp hc;exact(sAB _ hu).1.2 c Qp
 refine⟨_,_,rfl,rfl,_,i0,_,_,rfl,rfl,_,i1,_,had,_,rfl,?_⟩;refine ze7 (α:=List Nat) (enc:=tS) (e:=λw=>.str (sg (w.headD 0))) (λw hm P hP=>?_) (by rw[Qj];lia) ?_
 .obtain⟨h3,h4⟩:=sAB w hm;refine⟨_,_,rfl,rfl,.o (.str (sg (w.headD 0))),?_,hP _ rfl⟩
  cases w with
  | nil=>exact absurd rfl h4
  | cons c u=>exact znm (w:=c::u) (k:=0) 0.1 (by have:=h3.1;lia)
 refine⟨(zas (A++B)).map sg,.inr (by unfold zas;rw[QY,QY];rfl),by unfold zas;rw[Qc,Qc,Qj];lia,λzs hn hm hs=>?_⟩;obtain⟨z,rfl,z1,z2,z3⟩:=z5z hn hm hs;have ez:z=frs (zas (A++B)):=zqv z3 (zo9 _) λc=>by rw[z2,zp2 lo]
 subst ez;refine⟨_,rfl,rfl,?_⟩;refine zbh (λj ρ=>∃x2:Option DV,ρ = [some (.im (zbc (A,B))),some (.thg (DctX (mvE zbc (((frs (zas (A++B))).take j).map λc=>(.inr (tx [c]),(behB A c,behB B c)))))),x2]) ⟨none,rfl⟩ (λρ hρ=>?_) λj d ρ N hd hN hρ=>?_
 .obtain⟨x2,rfl⟩:=hρ;rw[Qc,Qc,Z4];exact⟨_,rfl,q⟩
 .obtain⟨x2,rfl⟩:=hρ;rw[QY,Qh] at hd;obtain⟨c,hc,rfl⟩:=Q2.mp hd;have mc:=Qt hc;have jl:=(Qn.mp hc).1;have l3:=zkr (zas (A++B));have hlo:c<128:=Q8.mp (QI.mp mc).1;refine 3.2
  have nin:∀d∈(frs (zas (A++B))).take j,d≠c:=λd hd=>by
   have h3:((frs (zas (A++B))).take j++(frs (zas (A++B))).drop j).Pairwise (· < ·):=by rw[Zm];exact zo9 _
   have h4:=(Jy.mp h3).2.2 d hd c (by
    have:((frs (zas (A++B))).drop j)[0]? = some c:=by rw[Z0];exact hc
    exact Qt this)
   exact Q0 h4
  have e1:∀l:Grs,flat (.tuple (l.map tS))=true:=λl=>zbb (λ_=>rfl) _;refine⟨_,rfl,_,_,rfl,rfl,_,i0,_,_,rfl,rfl,rfl,A,c,rfl,by lia,sA,hlo,?_⟩;refine⟨_,_,rfl,rfl,_,i1,_,_,rfl,rfl,rfl,B,c,rfl,by lia,sB,hlo,?_⟩;refine⟨by rw[GP];exact Ya rfl,_,_,rfl,rfl,.inr (tx [c]),rfl,?_,?_,?_,hN _ ⟨some (.im (.str (tx [c]))),?_⟩⟩
  .show(flat (.tuple ((behB A c).map tS)) && (flat (.tuple ((behB B c).map tS)) && true))=true;rw[e1,e1];rfl
  .intro hh;unfold mvE at hh;rw[QY,QY] at hh;obtain⟨d,hd,e⟩:=Qo.mp hh;have e2:tx [d]=tx [c]:=Gn e;have e3:=zgr e2;injection e3 with e3 _;exact nin d hd e3
  .unfold mvE;rw[Qc,Qc,QL];lia
  .rw[Jl,hc];unfold mvE;rw[Qu,Qu];rfl
end
section
variable {P:GK}{w:GM}{K:Qa}{mg:0.4}{base:Heap}{k:Nat}
abbrev zh7:Stmt:=top 19
theorem zv8:FnScope ["both", "moves", "told"] ["both", "moves", "told"] (zad zh7):=1.2
theorem zgd(B:Blt mg)(gALL_WORDS:Glo K mg "ALL_WORDS" (.tuple ((([""]:List Str)).map .str)))(zcl:Def3 P w K mg base 4 "least_by_first" ["moves", "told"] (spG K 1.6 2 (zhx P w)))(T:Top3 K mg "met_told" zh7):Def3 P w K mg base 5 "met_told" ["both", "moves", "told"] (spG K 1.6 3 (zic P w)):=by
 refine mk_G T zv8 (λ_ _ _ _ _ _ us hl=>len3 hl λ_ _ _=>rfl) rfl λf cdv A outer s H E O hφ C=>⟨_,(zah (s_if (t_eq C (zba C 5.0 zak) (zmt C gALL_WORDS)) (zai (zax (zba C 5.0 zak))) zbn) (zah (s_if (t_eq C (zba C 5.0 zak) (zmt C gALL_WORDS)) (zai (zax (zba C 5.0 zak))) zbn) (zai (zax (zp4 C zcl 1.7 (z9x 1 (z0a 2 zmw))))))),λrs Qr hn q=>?_⟩;obtain⟨A,B,ks,vs,rfl,hA,hB,hl,hz,q⟩:=q;have sz:=GP;have sA:∀w∈A,Sml w:=λw hw=>hA.sml hw;have sB:∀w∈B,Sml w:=λw hw=>hB.sml hw;have eA:=eq_W (neg:=false) sA zk5 (q:=decide (A = [[]])) NS;have eB:=eq_W (neg:=false) sB zk5 (q:=decide (B = [[]])) NS;unfold metR at q
 ac_rfl
 rw[allE];refine⟨_,eA,_,rfl,?_⟩
 by_cases h1:A = [[]]
 .rw[NI h1] at q;rw[NM h1]
  ac_rfl
  exact q
 rw[NJ h1] at q;rw[NK h1]
 ac_rfl
 refine⟨_,eB,_,rfl,?_⟩
 by_cases h2:B = [[]]
 .rw[NI h2] at q;rw[NM h2]
  ac_rfl
  exact q
 rw[NJ h2] at q;rw[NK h2]
 ac_rfl
 refine⟨_,_,.inr rfl,rfl,(if endM A B then[] else frs (zas (A++B))),λc=>zbc (behB A c,behB B c),λc=>metT (behB A c) (behB B c),ks,vs,?_,hl,?_,?_,q⟩
 .have e:mvE zbc (mvM (A,B))=(if endM A B then[] else frs (zas (A++B))).map λc=>(.inr (tx [c]),zbc (behB A c,behB B c)):=by
   unfold mvM mvE;dsimp only
   by_cases h:endM A B
   .rw[NI h,NI h];rfl
   .rw[NJ h,NJ h,QY];rfl
  rw[e]
 .intro c hc
  by_cases h:endM A B
  .rw[NI h] at hc;cases hc
  rw[NJ h] at hc;obtain⟨h3,h4,h5⟩:=hz h c hc;have hc2:c<128:=Q8.mp (QI.mp hc).1;refine⟨hc2,?_,h3,Q1 h4 0.2,λu hu=>⟨by have:=(h5 u hu).1;lia,(h5 u hu).2⟩⟩;have e1:∀l:Grs,flat (.tuple (l.map tS))=true:=λl=>zbb (λ_=>rfl) _;show(flat (.tuple ((behB A c).map tS)) && (flat (.tuple ((behB B c).map tS)) && true))=true;rw[e1,e1];rfl
 .by_cases h:endM A B
  .rw[NI h];exact Q6 _
  .rw[NJ h];have h1:=zn8 (cs:=frs (zas (A++B))) (zs:=λc=>metT (behB A c) (behB B c)) (m:=1000) λc hc=>(hz h c hc).2.1;have h2:=zkr (zas (A++B));have h3:(frs (zas (A++B))).length * 1000<=128 * 1000:=Jz _ h2;lia
end
section
variable {P:GK}{w:GM}{K:Qa}{mg:0.4}{base:Heap}{k:Nat}
abbrev zgw:Stmt:=top 20
theorem zrv:FnScope ["one", "other"] ["one", "other"] (zad zgw):=1.2
theorem za6(B:Blt mg)(zck:Def3 P w K mg base 21 "told_from_last" ["start", "moves_of", "told_of"] (spG K 1.6 3 (zst P w mg base λ_=>True)))(zev:Def3 P w K mg base 5 "met_moves" ["both"] (spZ P w K 1.6 1 zg4))(zgd:Def3 P w K mg base 5 "met_told" ["both", "moves", "told"] (spG K 1.6 3 (zic P w)))(T:Top3 K mg "grown_met" zgw):Def3 P w K mg base 22 "grown_met" ["one", "other"] (spO K 1.6 2 zgp):=by
 refine mk_O T zrv 2.9 rfl λf cdv A outer s H E O hφ C=>⟨_,(zai (zax (zp4 C zck 1.7 (g_im (zms (zab 5.0 (zab (zaa 1) zaf))) (zuv (sp:=λK=>spZ P w K 1.6 1 zg4) (k':=20) C (Def3.lift zev 0.2) (zuv (sp:=λK=>spG K 1.6 3 (zic P w)) (k':=20) C (Def3.lift zgd 0.2) zmw)))))),λds Qr hn q=>?_⟩;obtain⟨A,B,Ls,rfl,ok,hm,q⟩:=q;have hg:=ok.gr (A,B) hm;refine⟨_,_,rfl,rfl,_,_,rfl,rfl,(by rw[GP];exact Ya rfl),rfl,?_⟩;refine zx2 (enc:=zbc) (mv:=mvM) (S:=λp=>p∈Ls) (rank:=λp=>sumL p.1+sumL p.2) (T:=λp=>.tuple ((metT p.1 p.2).map tS)) (start:=(A,B)) (L:=Ls) (fm:=[]) (ft:=[]) ⟨λ_ _ _ _=>ztl,hm,λ_ h=>h,ok.few,?_,?_,?_,?_,λp hp=>?_,?_⟩ ?_ ?_ ?_
 .have h1:sumL A<=372:=hg.1.sum;have h2:sumL B<=372:=hg.2.sum;show sumL A+sumL B<100000;lia
 .intro p hp;obtain⟨hA,hB⟩:=ok.gr p hp;exact z6j (λw hw=>hA.sml hw) λw hw=>hB.sml hw
 .intro p hp x hx;unfold mvM at hx
  by_cases h:endM p.1 p.2
  .rw[NI h] at hx;cases hx
  .rw[NJ h] at hx;obtain⟨c,hc,rfl⟩:=Qo.mp hx;exact ok.cl p hp c
 .intro p hp x hx;obtain⟨hA,hB⟩:=ok.gr p hp;unfold mvM at hx
  by_cases h:endM p.1 p.2
  .rw[NI h] at hx;cases hx
  .rw[NJ h] at hx;obtain⟨c,hc,rfl⟩:=Qo.mp hx;exact zoa hA hB h hc
 .show flats _=true;exact zbb (λ_=>rfl) _
 .intro p hp;unfold mvM
  by_cases h:endM p.1 p.2
  .rw[NI h];exact Nat.zero_lt_succ _
  .rw[NJ h,Qc];have:=zkr (zas (p.1++p.2));lia
 .rintro⟨A,B⟩ hp Q q;obtain⟨hA,hB⟩:=ok.gr _ hp;exact⟨A,B,rfl,hA,hB,q⟩
 .rintro⟨A,B⟩ ks vs hp hl hz Q q;obtain⟨hA,hB⟩:=ok.gr _ hp;refine⟨A,B,ks,vs,rfl,hA,hB,hl,λh c hc=>?_,?_⟩
  .have hc2:=ok.cl _ hp c;refine⟨hz (.inr (tx [c]),(behB A c,behB B c)) ?_,ok.cnt _ hc2 _ (zb7 ok hc2),zn7 ok hc2⟩;unfold mvM;rw[NJ h];exact Qo.mpr ⟨c,hc,rfl⟩
  .rw[z1z ok hp];exact q
 .exact q _ (zb7 ok hm) ⟨ok.cnt _ hm _ (zb7 ok hm),zn7 ok hm⟩
end
section
variable {P:GK}{w:GM}{K:Qa}{mg:0.4}{base:Heap}{k:Nat}
abbrev zog:Stmt:=top 25
theorem z4y:FnScope ["_law_deal_here", "_law_letters", "_law_most"] ["_law_deal_here", "_law_letters", "_law_most"] (zad zog):=1.2
theorem zgf(B:Blt mg)(d_law_draw:zmn P w K mg base)(T:Top3 K mg "_law_word" zog):Def3 P w K mg base 2 "_law_word" ["_law_deal_here", "_law_letters", "_law_most"] (spD K IsDeal 2 zw3):=by
 refine mk_D T z4y (λ_ _ _ _ _ _ us hl=>len3 hl λ_ _ _=>rfl) rfl λf cdv A outer s H E O hφ C=>?_;have hO:∀j:Unit,IsDeal ((λ_:Unit=>O) j):=λ_=>hφ;refine⟨_,(zai (zax (z6b C zsv (zcr 1 ["_law_k", "_law_deal_here", "_law_letters", "_law_most"] C (λ_=>.of rfl 2.5) (i_r1 C B (zab (zbs 0 C d_law_draw hO (zab (zct C (zaa 2) zak) zaf)) zaf)) (za3 0) zfq (zba (C.comp _ _) (zaa 2) (zbs 1 (C.comp _ _) d_law_draw (upD hO) (zab (zhr (C.comp _ _) B (zab (zaa 2) zaf)) zaf))))))),λds Qr hn q=>?_⟩;obtain⟨ls,n,rfl,hw,hne,hl,ln,q⟩:=q;have sz:=GP;refine⟨_,rfl,rfl,_,_,rfl,rfl,_,rfl,rfl,_,rfl,by lia,by lia,λk k0 k1=>?_⟩;obtain⟨m,rfl⟩:=VJ k0;refine⟨_,rfl,by lia,by lia,?_⟩;refine zoo (enc2:=λc=>.str (tx [c])) (good:=λc=>c∈ls) (λc hc Pn Py hPn hPy=>?_) (by rw[QS];lia) λws hs hlp=>?_
 .refine iteT (B:=Pn) (zu5 rfl rfl hne 0.0 λc hc=>hPy c hc)
 .rw[QS] at hlp;obtain⟨ys,e1,e2,e3⟩:=z3g ws 0.0;refine⟨ys,e1,e2,?_⟩;rw[e3];exact q ws hs 0.0
end
section
variable {P:GK}{w:GM}{K:Qa}{mg:0.4}{base:Heap}{k:Nat}
abbrev zkd:Stmt:=top 26
theorem zx8:FnScope ["_law_one", "_law_other", "_law_k", "_law_letter"] ["_law_one", "_law_other"] (zad zkd):=1.2
theorem zex(B:Blt mg)(T:Top3 K mg "_law_under" zkd):Def3 P w K mg base 1 "_law_under" ["_law_one", "_law_other"] (spO K 1.6 2 zrl):=by
 refine mk_O T zx8 2.9 rfl λf cdv A outer s H E O hφ C=>⟨_,(zah (za9 2 zak) (zah (zcw C (zek (zsk (zaa 1))) (za3 (h:=1000) 3) (zai (s_if (t_w (z0q (t_lt (zaa 2) (zhr C B (zab 5.0 zaf))) (zvq (t_eq C (zba C 5.0 (zaa 2)) (zaa 3))))) (zai (za9 2 (zct C (zaa 2) zak))) zbn))) (zai (zax (e_eq C (zaa 2) (zhr C B (zab 5.0 zaf))))))),λds Qr hn q=>?_⟩;obtain⟨less,more,rfl,hs,hm,q⟩:=q;have sz:=GP;have hl:=hs.1;have hl2:=hm.1;refine⟨rfl,_,_,rfl,rfl,_,rfl,rfl,?_⟩
 refine zbh (λj ρ=>∃(at':Nat) (o3:Option DV),ρ = [some (.im (tS less)),some (.im (tS more)),some (.im (.int (at':Nat))),o3]/\eats (more.take j) less=less.drop at'/\at'<=less.length/\j<=more.length)
  ⟨0,none,rfl,rfl,Q6 _,Q6 _⟩ (λρ ⟨a,o3,e,h1,h2,h4⟩=>?_) λj d ρ N hd hN ⟨a,o3,e,h1,h2,h4⟩=>?_
 .subst e;rw[zq9,Z4] at h1;refine⟨_,_,rfl,rfl,_,_,rfl,rfl,_,zd4 0.0,_,zqj,?_⟩;rw[NJ Qx];unfold L6.under at q;rw[h1] at q
  have e:(less.drop a).isEmpty=decide ((a:Int)=(less.length:Nat)):=by
   by_cases z:a=less.length
   .rw[z,Js,NM rfl];rfl
   .rw[NK 0.0];have:0<(less.drop a).length:=by rw[Zr];lia
    cases hz:less.drop a with
    | nil=>rw[hz] at this;cases this
    | cons _ _=>rfl
  rw[e] at q;exact q
 .subst e;obtain⟨c,hc,rfl⟩:=zqq hd;obtain⟨hlt,ec⟩:=Qn.mp hc
  have et:eats (more.take (j+1)) less=eat c (less.drop a):=by
   rw[YE hlt,ec];unfold eats;rw[YK];show eat c (eats (more.take j) less)=_;rw[h1]
  refine 3.2;refine⟨_,_,rfl,rfl,_,_,rfl,rfl,_,zd4 0.0,_,rfl,_,rfl,?_⟩
  by_cases ha:a<less.length
  .rw[NM 0.0];refine iteT ⟨_,_,rfl,rfl,_,_,rfl,rfl,_,znm ha 0.0,_,_,rfl,rfl,_,zrg (zd6 ⟨by simp,λx hx=>by simp at hx;rw[hx];exact hs.2 _ (Ze ha)⟩) (zd6 (w:=[c]) ⟨by simp,λx hx=>by simp at hx;rw[hx,<- ec];exact hm.2 _ (Ze hlt)⟩),_,rfl,?_⟩;rw[NJ Qx,show sg c=tx [c] from rfl,zos];rw[QX ha] at et
   by_cases z:less[a]=c
   .rw[NM (by rw[z])];rw[show eat c (less[a]::less.drop (a+1))=less.drop (a+1) from NI z] at et;exact iteT ⟨_,_,rfl,rfl,_,rfl,rfl,hN _ ⟨a+1,_,rfl,et,ha,hlt⟩⟩
   .rw[NK (by simpa using z)];rw[show eat c (less[a]::less.drop (a+1))=less[a]::less.drop (a+1) from NJ z,<- QX ha] at et;exact iteF (hN _ ⟨a,_,rfl,et,h2,hlt⟩)
  .rw[NK 0.0];have:less.drop a = []:=List.drop_eq_nil_iff.mpr 0.0;rw[this] at et;exact iteF (iteF (hN _ ⟨a,_,rfl,by rw[et,this];rfl,h2,hlt⟩))
end
section
variable {P:GK}{w:GM}{K:Qa}{mg:0.4}{base:Heap}{k:Nat}
abbrev zh3:Stmt:=top 27
theorem zt1:FnScope ["_law_found", "_law_kept", "_law_size", "_law_word_here"] ["_law_found"] (zad zh3):=1.2
theorem zb9(B:Blt mg)(zex:Def3 P w K mg base 1 "_law_under" ["_law_one", "_law_other"] (spO K 1.6 2 zrl))(T:Top3 K mg "_law_lowest" zh3):Def3 P w K mg base 2 "_law_lowest" ["_law_found"] (spO K 1.6 1 zh6):=by
 refine mk_O T zt1 (λ_ _ _ _ _ _ us hl=>len1 hl λ_=>rfl) rfl λf cdv A outer s H E O hφ C=>⟨_,(zah (za9 1 (zc0 zaf)) (zah (zcw C (zek (ze2 C (zpi C B (zcr 1 ["_law_word_here", "_law_found", "_law_kept", "_law_size", "._law_word_here"] C (λ_=>.of rfl 2.5) (i_lt C 5.0) (za3 0) zfq (zms (zab (zhr (C.comp _ _) B (zab 5.0 zaf)) (zab 5.0 zaf))))))) (zz4 (h:=1000) C (zhi 2 (zhi 3 zu0))) (zai (s_if (t_eq C (zcr 1 ["_law_one", "_law_found", "_law_kept", "_law_size", "_law_word_here"] C (λ_=>.of rfl 2.5) (ze2 C (zaa 1)) (za3 0) (zmv (zhc (zal (C.comp _ _) zex 1.7 (zab 5.0 (zab (zaa 4) zaf))))) 5.0) (zc0 zaf)) (zai (zmo 1 C (zaa 3))) zbn))) (zai (zax (zf1 C B (zab (zaa 1) zaf)))))),λds Qr hn q=>?_⟩;obtain⟨ws,d0,rfl,hd,hs,hl,q⟩:=q;have sz:=GP;refine⟨Q6 _,rfl,?_⟩;refine zyu rfl hd λ_=>?_;refine ze7 (α:=List Nat) (enc:=tS) (e:=encL) (λw hm P hP=>⟨_,_,rfl,rfl,_,zd4 (by have:=(hs w hm).1;lia),_,_,rfl,rfl,by show 2<=sizeLine;lia,hP _ rfl⟩) 0.0 ?_;refine⟨_,shL,encL [],rfl,λd hd=>?_,zkf _,λd hd=>?_,by rw[Qc];lia,λzs h1 h2 h3=>?_⟩
 .obtain⟨w,hm,rfl⟩:=Qo.mp hd;exact z8n (hs w hm)
 .obtain⟨w,hm,rfl⟩:=Qo.mp hd;exact zkf _
 obtain⟨us,rfl,nd,mem,up⟩:=z2k h1 h2 h3;have sm:∀u∈us,Sml u:=λu hu=>hs u ((mem u).mp hu)
 have ul:us.length<64:=by
  have h4:us.length<=ws.length:=TB.len_nd nd λk hk=>(mem k).mp hk;lia
 have up2:us.Pairwise λa b=>wlt b a=false:=up.imp λ{a b} h=>by
  cases e:wlt b a with
  | false=>rfl
  | true=>have:=zjg _ _ _ h e;rw[zb1] at this;cases this
 have eL:zbi us=lowK ws:=zth mem (zji up2) (zap ws);refine⟨_,rfl,rfl,?_⟩;refine zbh (λj ρ=>∃o2 o3:Option DV,ρ = [some (.im d0),some (.own ((zbi (us.take j)).map tS)),o2,o3]) ⟨none,none,rfl⟩ (λρ zz=>?_) λj d ρ N hd hN zz=>?_
 .obtain⟨o3,o4,e⟩:=zz;subst e;rw[Qc,Z4,eL];exact⟨_,_,rfl,rfl,_,rfl,q⟩
 .obtain⟨o2,o3,e⟩:=zz;subst e;rw[Qh] at hd;obtain⟨u,hu,rfl⟩:=Q2.mp hd;have mu:=Qt hu;have su:=sm u mu
  have kl:(zbi (us.take j)).length<=64:=by
   have:=ziq (kept:=[]) (ws:=us.take j);have h5:(zbi (us.take j)).length<=(us.take j).length:=by simpa[zbi] using this
   rw[QL] at h5;lia
  have ks:∀v∈zbi (us.take j),Sml v:=λv hv=>by
   rcases zim v hv with z|z
   .cases z
   .exact sm v (Zv z)
  have e2:zbi (us.take (j+1))=zaz (zbi (us.take j)) u:=by
   rw[Jl,hu];unfold zbi;rw[YK];rfl
  generalize zbi (us.take j)=kp at kl ks e2;refine⟨rfl,_,rfl,?_⟩;refine⟨_,_,rfl,rfl,_,rfl,?_⟩;refine zif (α:=List Nat) (enc:=tS) (p:=λo=>L6.under o u) (e:=tS) (λo ho Pn Py hn hy=>?_) 0.0 ?_
  .have so:=ks o ho;refine⟨_,_,rfl,rfl,_,_,rfl,rfl,rfl,o,u,rfl,so,su,_,rfl,?_⟩
   cases c:L6.under o u with
   | true=>exact iteT ⟨_,_,rfl,rfl,hy c _ rfl⟩
   | false=>exact iteF (hn c)
  .have lf:∀v∈kp.filter (λo=>L6.under o u),∀c∈v,c<128:=λv hv=>(ks v (QI.mp hv).1).2;refine⟨Q6 _,_,z9a lf,_,rfl,?_⟩;rw[ztg];unfold zaz at e2
   cases c:zam kp u with
   | true=>
     have c2:(kp.any λv=>under v u)=true:=c;rw[c2,NI rfl] at e2;refine iteF (hN _ ⟨some (.im (.int (u.length:Nat))),some (.im (tS u)),?_⟩);rw[e2];rfl
   | false=>
     have c2:(kp.any λv=>under v u)=false:=c;rw[c2,NJ Qx] at e2;refine iteT ⟨_,rfl,_,_,rfl,rfl,rfl,by rw[Qc];lia,hN _ ⟨some (.im (.int (u.length:Nat))),some (.im (tS u)),?_⟩⟩;rw[e2,Qu];rfl
end
section
variable {P:GK}{w:GM}{K:Qa}{mg:0.4}{base:Heap}{k:Nat}
abbrev zk3:Stmt:=top 28
theorem zxu:FnScope ["_law_deal_here", "_law_letters", "_law_many", "_law_most"] ["_law_deal_here", "_law_letters", "_law_many", "_law_most"] (zad zk3):=1.2
theorem zby(B:Blt mg)(d_law_draw:zmn P w K mg base)(zgf:Def3 P w K mg base 2 "_law_word" ["_law_deal_here", "_law_letters", "_law_most"] (spD K IsDeal 2 zw3))(zb9:Def3 P w K mg base 2 "_law_lowest" ["_law_found"] (spO K 1.6 1 zh6))(T:Top3 K mg "_law_grown" zk3):Def3 P w K mg base 3 "_law_grown" ["_law_deal_here", "_law_letters", "_law_many", "_law_most"] (spD K IsDeal 3 zre):=by
 refine mk_D T zxu (λ_ _ _ _ _ _ us hl=>len4 hl λ_ _ _ _=>rfl) rfl λf cdv A outer s H E O hφ C=>?_;have hO:∀j:Unit,IsDeal ((λ_:Unit=>O) j):=λ_=>hφ;refine⟨_,(zai (zax (zal C zb9 1.7 (zab (zcr 1 ["_law_k", "_law_deal_here", "_law_letters", "_law_many", "_law_most"] C (λ_=>.of rfl 2.5) (i_r1 C B (zab (zbs 0 C d_law_draw hO (zab (zct C (zaa 2) zak) zaf)) zaf)) (za3 0) zfq (zbs 1 (C.comp _ _) zgf (upD hO) (zab (zaa 2) (zab (zaa 4) zaf)))) zaf)))),λds Qr hn q=>?_⟩;obtain⟨ls,n,m,rfl,hlow,hne,h26,hn,hm,q⟩:=q;have sz:=GP;refine⟨rfl,_,_,rfl,rfl,_,rfl,rfl,_,rfl,by lia,by lia,λk k0 k1=>?_⟩;obtain⟨t,rfl⟩:=VJ k0;refine⟨_,rfl,by lia,by lia,?_⟩;refine zoo (enc2:=tS) (good:=λw=>SubW ls w/\w.length<=m) (λc hc Pn Py hPn hPy=>?_) (by rw[QS];lia) λws hs hlp=>?_
 .refine iteT (B:=Pn) ⟨rfl,_,_,rfl,rfl,_,_,rfl,rfl,rfl,ls,(m:Nat),rfl,hlow,hne,h26,by lia,λw hw hl=>hPy w ⟨hw,by lia⟩⟩
 .rw[QS] at hlp;have lo:∀w∈ws,w.length<=m/\∀c∈w,c<128:=λw hw=>⟨(hs w hw).2,λc hc=>UG (hlow c ((hs w hw).1 c hc)).2 0.2⟩;refine⟨rfl,ws,_,rfl,.inl rfl,λw hw=>⟨by have:=(lo w hw).1;lia,(lo w hw).2⟩,by lia,?_⟩;exact q _ (zk6 0.0 lo) λw hw=>(hs w ((zap ws).of w hw)).1
end
section
variable {P:GK}{w:GM}{K:Qa}{mg:0.4}{base:Heap}{k:Nat}
abbrev zfr:Stmt:=top 29
theorem zpj:FnScope ["_law_letters", "_law_most", "_law_found", "_law_here", "_law_turn", "_law_longer", "_law_word_here"] ["_law_letters", "_law_most"] (zad zfr):=1.2
theorem zcy(B:Blt mg)(T:Top3 K mg "_law_all_words" zfr):Def3 P w K mg base 1 "_law_all_words" ["_law_letters", "_law_most"] (spO K 1.6 2 zlh):=by
 refine mk_O T zpj 2.9 rfl λf cdv A outer s H E O hφ C=>⟨_,(zah (za9 2 (zc0 (zab zsv zaf))) (zah (za9 3 (zc0 (zab zsv zaf))) (zah (z0l 3 (zcw C (zek (i_r1 C B (zab (zaa 1) zaf))) (za3 (h:=1000) 4) (zah (za9 5 (zc0 zaf)) (zah (zcw C (zrr C 3) (za3 (h:=1000) 6) (zai (zs3 5 C (zcr 1 ["_law_letter", "_law_letters", "_law_most", "_law_found", "_law_here", "_law_turn", "_law_longer", "_law_word_here"] C (λ_=>.of rfl 2.5) (zsk 5.0) (za3 0) zfq (zct (C.comp _ _) (zaa 7) 5.0))))) (zah (z0l 5 (z8l 3 5)) (zai (zs3 2 C (zaa 3)))))))) (zai (zm4 2))))),λds Qr hn q=>?_⟩;obtain⟨ls,n,rfl,lo,l3,n6,h34,q⟩:=q;have sz:=GP;have e0:PyData.str (Zt "")=tS []:=by rw[show Zt "" = tx [] by decide +kernel]
 ac_rfl
 rw[e0];refine .inr ⟨_,rfl,?_⟩;refine⟨_,_,rfl,rfl,_,rfl,by lia,by lia,rfl,?_⟩;refine zbh (λj ρ=>∃x4 x5 x6:Option DV,ρ = [some (.im (.str (tx ls))),some (.im (.int (n:Nat))),some (.own ((alW ls j).map tS)),some (.im (.list ((lvlW ls j).map tS))),x4,x5,x6]) ⟨none,none,none,rfl⟩ (λρ zz=>?_) λj d ρ N hd hN zz=>?_
 .obtain⟨x4,x5,x6,e⟩:=zz;subst e;rw[zv2,show((n:Nat):Int).toNat=n by lia];exact⟨_,rfl,q _ λw=>zqp⟩
 .obtain⟨x4,x5,x6,e⟩:=zz;subst e;obtain⟨hj,rfl⟩:=zmc hd;have jn:j<n:=by lia
  have a1:=zqn l3 j 0.0;have v1:(lvlW ls j).length<=729:=Q1 (zfn j) (pow3 l3 0.0);have v2:(lvlW ls (j+1)).length<=729:=Q1 (zfn (j+1)) (pow3 l3 0.0);refine 3.2;refine⟨Q6 _,rfl,?_⟩;refine⟨_,rfl,?_⟩
  have stp:∀(i:Nat) (w:0.7),(lvlW ls j)[i]? = some w->((lvlW ls j).take (i+1)).flatMap (λw=>ls.map λc=>w ++ [c])=((lvlW ls j).take i).flatMap (λw=>ls.map λc=>w ++ [c])++ls.map λc=>w ++ [c]:=λi w h=>by
   rw[Jl,h,Vr];simp
  have few:∀i:Nat,(((lvlW ls j).take i).flatMap λw=>ls.map λc=>w ++ [c]).length<=2187:=λi=>by
   have:=zdc (f:=λw:List Nat=>ls.map λc=>w ++ [c]) (l:=(lvlW ls j).take i) (m:=3) λw _=>by rw[Qc];exact l3
   rw[QL] at this;lia
  refine zbh (λi ρ=>∃x6:Option DV,ρ = [some (.im (.str (tx ls))),some (.im (.int (n:Nat))),some (.own ((alW ls j).map tS)),some (.im (.list ((lvlW ls j).map tS))),some (.im (.int (0+(j:Int)))),some (.own ((((lvlW ls j).take i).flatMap λw=>ls.map λc=>w ++ [c]).map tS)),x6]) ⟨x6,rfl⟩ (λρ zz=>?_) λi d ρ N2 hd hN2 zz=>?_
  .obtain⟨x6,e⟩:=zz;subst e;rw[Qc,Z4];have e1:((lvlW ls j).flatMap λw=>ls.map λc=>w ++ [c])=lvlW ls (j+1):=rfl;rw[e1];refine .inr ⟨_,rfl,_,rfl,?_⟩;refine⟨_,rfl,_,_,rfl,rfl,_,rfl,zbb (λ_=>rfl) _,by rw[Qc,Qc];lia,hN _ ⟨some (.im (.int (0+(j:Int)))),some (.im (.list ((lvlW ls (j+1)).map tS))),x6,?_⟩⟩;rw[<- Qu];rfl
  .obtain⟨x6,e⟩:=zz;subst e;rw[Qh] at hd;obtain⟨w,hw,rfl⟩:=Q2.mp hd;have lw:=(lvlW_mem.mp (Qt hw)).2;have f1:=few i;refine 3.2;refine⟨_,rfl,_,_,rfl,rfl,_,rfl,?_⟩;rw[show sgs (tx ls)=ls.map λc=>.str (tx [c]) by unfold sgs;rw[zbu];rfl];refine ze7 (α:=Nat) (enc:=λc=>.str (tx [c])) (e:=λc=>tS (w ++ [c])) (λc hc P hP=>?_) 0.0 ?_
   .exact⟨_,_,rfl,rfl,_,_,rfl,rfl,_,zvy (v:=w) (w:=[c]) (by rw[Zd];lia),hP _ rfl⟩
   .refine⟨_,rfl,zbb (λ_=>rfl) _,by rw[Qc,Qc];lia,hN2 _ ⟨some (.im (tS w)),?_⟩⟩;rw[stp i w hw,Qu,QY];rfl
end
section
variable {P:GK}{w:GM}{K:Qa}{mg:0.4}{base:Heap}{k:Nat}
abbrev znb:Stmt:=top 30
theorem z1i:FnScope ["_law_words", "_law_one", "_law_other", "_law_more", "_law_fewer", "_law_inside", "_law_word_here", "_law_here", "_law_there"] ["_law_words", "_law_one", "_law_other"] (zad znb):=1.2
theorem zdo(B:Blt mg)(zem:Def3 P w K mg base 4 "has" ["grown", "word"] (spO K 1.6 2 hasF))(zc2:Def3 P w K mg base 5 "grown_within" ["one", "other"] (spO K 1.6 2 zrc))(zat:Def3 P w K mg base 5 "grown_joined" ["one", "other"] (spO K 1.6 2 zki))(za6:Def3 P w K mg base 22 "grown_met" ["one", "other"] (spO K 1.6 2 zgp))(T:Top3 K mg "_law_just" znb):Def3 P w K mg base 23 "_law_just" ["_law_words", "_law_one", "_law_other"] (spO K 1.6 3 zzz):=by
 refine mk_O T z1i (λ_ _ _ _ _ _ us hl=>len3 hl λ_ _ _=>rfl) rfl λf cdv A outer s H E O hφ C=>⟨_,(zah (z1f 3 4 C (zab (zal C zat 1.7 (zab (zaa 1) (zab (zaa 2) zaf))) (zab (zal C za6 1.7 (zab (zaa 1) (zab (zaa 2) zaf))) zaf))) (zah (za9 5 e_bl) (zah (zcw C (zrr C 0) (za3 (h:=1000) 6) (zah (z1f 7 8 C (zab (zal C zem 1.7 (zab (zaa 1) (zab (zaa 6) zaf))) (zab (zal C zem 1.7 (zab (zaa 2) (zab (zaa 6) zaf))) zaf))) (zah (s_if (t_w (w_or (t_ne C (zal C zem 1.7 (zab (zaa 3) (zab (zaa 6) zaf))) (e_or (zaa 7) (zi6 (zaa 8)))) (zsd (t_ne C (zal C zem 1.7 (zab (zaa 4) (zab (zaa 6) zaf))) (zsy (zaa 7) (zi6 (zaa 8))))))) (zai (zax e_bl)) zbn) (zai (za9 5 (zsy (zaa 5) (zi6 (e_or (zaa 8) (zi6 (yan (zaa 7))))))))))) (zah (s_if (t_ne C (zal C zc2 1.7 (zab (zaa 1) (zab (zaa 2) zaf))) (zaa 5)) (zai (zax e_bl)) zbn) (zai (zax (zsy (e_eq C (zaa 5) (e_eq C (zaa 4) (zaa 1))) (zi6 (e_eq C (zaa 5) (e_eq C (zaa 3) (zaa 2))))))))))),λds Qr hn q=>?_⟩;obtain⟨ws,A,B,ls,m,rfl,hw,lo,m4,m6,hA,hB,hl,q⟩:=q;have sz:=GP;have sA:=hA.sml 0.2;have sB:=hB.sml 0.2;have lA:=hA.len;have lB:=hB.len;have eT:∀l:Grs,flat (.tuple (l.map tS))=true:=λl=>zbb (λ_=>rfl) _;have m1:=zk8 hA hB;refine⟨_,_,rfl,rfl,_,_,rfl,rfl,rfl,A,B,rfl,by lia,by lia,sA,sB,?_⟩;refine⟨_,_,rfl,rfl,_,_,rfl,rfl,rfl,A,B,zay A B,rfl,m1.1,m1.2,λzs hz hs=>?_⟩;refine⟨_,_,rfl,eT _,eT _,?_⟩;have sZ:∀w∈zs,Sml w:=λw hw=>⟨by have:=(hs.2 w hw).1;lia,(hs.2 w hw).2⟩;have sL:∀w∈lowK (A++B),Sml w:=λw hw=>(Qq.mp ((zap _).of w hw)).elim (sA w) (sB w);have sW:∀w∈ws,Sml w:=λw h=>⟨by have:=((hw w).mp h).2;lia,λc hc=>lo c (((hw w).mp h).1 c hc)⟩
 have oL:∀w,zam (lowK (A++B)) w=(zam A w || zam B w):=λw=>by
  rw[ZE,Bool.or_eq_true,overG_up,overG_up,overG_up,zdf,zde]
 have oZ:∀w,zam zs w=(zam A w && zam B w):=λw=>by
  rw[ZE,Q9,overG_up,overG_up,overG_up,zja hz]
 ac_rfl
 refine zbh (λj ρ=>∃x6 x7 x8:Option DV,ρ = [some (.im (.list 5.1)),some (.im (.tuple (A.map tS))),some (.im (.tuple (B.map tS))),some (.im (.tuple ((lowK (A++B)).map tS))),some (.im (.tuple (zs.map tS))),some (.im (.bool ((ws.take j).all λw=>zam B w || !zam A w))),x6,x7,x8]) ⟨none,none,none,rfl⟩ (λρ zz=>?_) λj d ρ N hd hN zz=>?_
 .obtain⟨x6,x7,x8,e⟩:=zz;subst e;rw[Qc,Z4]
  have ei:(ws.all λw=>zam B w || !zam A w)=A.all λw=>zam B w:=by
   rw[ZE,ZZ,ZZ];constructor
   .intro h a ha;have:=h a ((hw a).mpr ⟨hl a ha,by have:=(hA.wl a ha).1;lia⟩);rw[overG_up.mpr (show upS A a from⟨a,ha,.refl _⟩)] at this;simpa using this
   .intro h w _
    cases c:zam A w with
    | false=>simp
    | true=>
      obtain⟨a,ha,d⟩:=overG_up.mp c;rw[overG_up.mpr (zd3 (overG_up.mp (h a ha)) d)];rfl
  have q1:(A.all λw=>zam B w)=true↔zs=A:=by
   rw[ZZ,<- z3n hA hz];exact⟨λh a ha=>overG_up.mp (h a ha),λh a ha=>overG_up.mpr (h a ha)⟩
  have q2:(A.all λw=>zam B w)=true↔lowK (A++B)=B:=by
   rw[ZZ,<- z3d hB];exact⟨λh a ha=>overG_up.mp (h a ha),λh a ha=>overG_up.mpr (h a ha)⟩
  rw[ei];generalize hb:(A.all λw=>zam B w)=b at q1 q2;refine⟨_,_,rfl,rfl,_,_,rfl,rfl,rfl,A,B,rfl,by lia,sA,sB,?_⟩;have eb:(A.all λw=>zam B w)=b:=hb;rw[eb];refine⟨_,_,rfl,rfl,_,zcj,_,rfl,?_⟩;rw[NI rfl,NP];refine iteF ?_;have z1:=eq_W (neg:=false) sZ sA (q:=b) q1;have z2:=eq_W (neg:=false) sL sB (q:=b) q2;refine⟨_,_,rfl,rfl,_,_,rfl,rfl,_,_,rfl,rfl,_,z1,_,zcj,_,rfl,?_⟩;rw[NJ Qx,NJ Qx,NP];refine iteT ⟨_,_,rfl,rfl,_,_,rfl,rfl,_,_,rfl,rfl,_,z2,_,zcj,?_⟩;rw[NJ Qx,NJ Qx,NP];exact q
 .obtain⟨x6,x7,x8,e⟩:=zz;subst e;rw[Qh] at hd;obtain⟨w,hw',rfl⟩:=Q2.mp hd;have sw:=sW w (Qt hw');refine 3.2;refine⟨_,_,rfl,rfl,_,_,rfl,rfl,rfl,A,w,rfl,sA,sw,?_⟩;refine⟨_,_,rfl,rfl,_,_,rfl,rfl,rfl,B,w,rfl,sB,sw,_,_,rfl,rfl,rfl,?_⟩;refine⟨_,_,rfl,rfl,_,_,rfl,rfl,rfl,lowK (A++B),w,rfl,sL,sw,?_⟩;have e1:=oL w;have e2:=oZ w
  have es:((ws.take (j+1)).all λw=>zam B w || !zam A w)=(((ws.take j).all λw=>zam B w || !zam A w) && (zam B w || !zam A w)):=by
   rw[Jl,hw',List.all_append];simp
  generalize ((ws.take j).all λw=>zam B w || !zam A w)=i0 at es;rw[e1];generalize zam A w=a at e1 e2 es;generalize zam B w=b at e1 e2 es;have fin:∀v,v=(i0 && (b || !a))->N [some (.im (.list 5.1)),some (.im (.tuple (A.map tS))),some (.im (.tuple (B.map tS))),some (.im (.tuple ((lowK (A++B)).map tS))),some (.im (.tuple (zs.map tS))),some (.im (.bool v)),some (.im (tS w)),some (.im (.bool a)),some (.im (.bool b))]:=λv hv=>by subst hv;exact hN _ ⟨_,_,_,by rw[es]⟩
  cases a <;> cases b <;> cases i0 <;>
   ((repeat first|refine⟨_,zcj,?_⟩|refine⟨zcj,?_⟩|infer_instance)
    refine⟨sZ,sw,?_⟩;rw[e2]
    (repeat first|refine⟨_,zcj,?_⟩|refine⟨zcj,?_⟩|infer_instance)
    exact fin _ rfl)
end
theorem z0m{n m k l:Nat}(h:SmG n m A)(hn:n<=k)(hm:m<=l):SmG k l A:=⟨h.asc,h.anti,Q1 h.len hn,λw hw=>⟨Q1 (h.wl w hw).1 hm,(h.wl w hw).2⟩⟩
section
variable {P:GK}{w:GM}{K:Qa}{mg:0.4}{base:Heap}{k:Nat}
abbrev sLaw:Stmt:=top 31
theorem yaq:FnScope ["_law_script", "_law_deal_here", "_law_letters", "_law_words", "_law_one", "_law_other", "_law_few"] ["_law_script"] (zad sLaw):=1.2
theorem z8p(B:Blt mg)(zat:Def3 P w K mg base 5 "grown_joined" ["one", "other"] (spO K 1.6 2 zki))(za6:Def3 P w K mg base 22 "grown_met" ["one", "other"] (spO K 1.6 2 zgp))(d_law_deal:Def3 P w K mg base 1 "_law_deal" ["_law_script", "_law_base"] (zju K))(d_law_draw:zmn P w K mg base)(zc6:Def3 P w K mg base 2 "_law_alphabet" ["_law_deal_here", "_law_many"] (spD K IsDeal 1 zf2))(zb9:Def3 P w K mg base 2 "_law_lowest" ["_law_found"] (spO K 1.6 1 zh6))(zby:Def3 P w K mg base 3 "_law_grown" ["_law_deal_here", "_law_letters", "_law_many", "_law_most"] (spD K IsDeal 3 zre))(zcy:Def3 P w K mg base 1 "_law_all_words" ["_law_letters", "_law_most"] (spO K 1.6 2 zlh))(zdo:Def3 P w K mg base 23 "_law_just" ["_law_words", "_law_one", "_law_other"] (spO K 1.6 3 zzz))(Fu:Fun K "law" "law" sLaw f₁ fd₁):FnOk P w K mg base CX0 24 f₁ fd₁ ["_law_script"] (zi7 K):=by
 refine z3a (k:=23) Fu yaq rfl (λf cdv A outer s H E C=>?_) (λf cdv A outer s H E C=>?_)
 .obtain⟨fP,fdP,G,mP,kpP,bnP⟩:=d_law_deal.ex;exact zb3 (i:=1) (NL 2.5) rfl 4.8 (zfg (k:=23) (G.mono 0.2) (C.room ()) rfl mP kpP bnP .nil zit (zao 4.9 (zao zau zbk)))
 .have hO:∀j:Addr×Addr,IsDeal ((λj:Addr×Addr=>zjp j.1 j.2) j):=λj=>zua _ _;refine⟨_,(zah (za9 2 (zbs 1 C zc6 hO (zab (zct C zak (zbs 1 C d_law_draw hO (zab zak zaf))) zaf))) (zah (za9 3 (zal C zcy 1.7 (zab (zaa 2) (zab (zba C (zc0 (zab zak (zab zak (zab zak zaf)))) (yas (zhr C B (zab (zaa 2) zaf)) zak)) zaf)))) (zah (za9 4 (zbs 1 C zby hO (zab (zaa 2) (zab zak (zab zak zaf))))) (zah (za9 5 (zbs 1 C zby hO (zab (zaa 2) (zab zak (zab zak zaf))))) (zah (s_if (t_eq C (zbs 1 C d_law_draw hO (zab zak zaf)) zak) (zai (za9 5 (zal C zb9 1.7 (zab (zct C (zfh C (zaa 4) zgx (zgv zak)) (zfh C (zaa 5) zgx (zgv zak))) zaf)))) zbn) (zah (za9 6 (zc0 (zab (zbs 1 C zby hO (zab (zaa 2) (zab zak (zab zak zaf)))) (zab (zbs 1 C zby hO (zab (zaa 2) (zab zak (zab zak zaf)))) (zab (zbs 1 C zby hO (zab (zaa 2) (zab zak (zab zak zaf)))) zaf))))) (zah (s_if (t_w (w_or (zmu (zhc (zal C zdo 1.7 (zab (zaa 3) (zab (zaa 4) (zab (zaa 5) zaf)))))) (zsd (zmu (zhc (zal C zdo 1.7 (zab (zaa 3) (zab (zaa 5) (zab (zba C (zaa 6) zak) zaf))))))))) (zai (zax e_bl)) zbn) (zah (s_if (t_w (w_or (t_ne C (zal C zat 1.7 (zab (zaa 4) (zab (zaa 5) zaf))) (zal C zat 1.7 (zab (zaa 5) (zab (zaa 4) zaf)))) (zsd (t_ne C (zal C za6 1.7 (zab (zaa 4) (zab (zaa 5) zaf))) (zal C za6 1.7 (zab (zaa 5) (zab (zaa 4) zaf))))))) (zai (zax e_bl)) zbn) (zah (s_if (t_ne C (zal C zat 1.7 (zab (zal C zat 1.7 (zab (zaa 4) (zab (zaa 5) zaf))) (zab (zba C (zaa 6) zak) zaf))) (zal C zat 1.7 (zab (zaa 4) (zab (zal C zat 1.7 (zab (zaa 5) (zab (zba C (zaa 6) zak) zaf))) zaf)))) (zai (zax e_bl)) zbn) (zai (zax (e_eq C (zal C za6 1.7 (zab (zal C za6 1.7 (zab (zba C (zaa 6) zak) (zab (zba C (zaa 6) zak) zaf))) (zab (zba C (zaa 6) zak) zaf))) (zal C za6 1.7 (zab (zba C (zaa 6) zak) (zab (zal C za6 1.7 (zab (zba C (zaa 6) zak) (zab (zba C (zaa 6) zak) zaf))) zaf))))))))))))))),?_⟩;have sz:=GP;have sz:=GP;have eT:∀l:Grs,flat (.tuple (l.map tS))=true:=λl=>zbb (λ_=>rfl) _;refine⟨rfl,zwz rfl 0.2 0.2 λk1 hk1=>⟨_,rfl,rfl,_,rfl,by lia,by lia,λls hls hlow hrise=>3.2⟩⟩;have hne:ls≠[]:=λe=>by rw[e] at hls;simp at hls;lia
  have hl:ls.length<=26:=by lia
  have l3:ls.length<=3:=by lia
  have lo:∀c∈ls,c<128:=λc hc=>UG (hlow c hc).2 0.2
  obtain⟨m,m4,m6,m3,hm⟩:∃m:Nat,4<=m/\m<=6/\(ls.length=3->m<=4)/\idxF (.list [.int 6,.int 6,.int 4]) (.int ((ls.length:Nat)-1))=some (.o (.int (m:Nat))):=by
   have:1<=ls.length:=Ys.mpr hne
   match h:ls.length,this,l3 with
   | 1,_,_=>exact⟨6,by decide,by decide,nofun,zdv rfl⟩
   | 2,_,_=>exact⟨6,by decide,by decide,nofun,zdv rfl⟩
   | 3,_,_=>exact⟨4,by decide,by decide,λ_=>by decide,zdv rfl⟩
  refine⟨_,_,rfl,rfl,?_⟩
  (repeat first|refine⟨_,zd4 (show ls.length<=16777216 by lia),?_⟩|refine⟨zd4 (show ls.length<=16777216 by lia),?_⟩|refine⟨_,hm,?_⟩|refine⟨hm,?_⟩|infer_instance)
  refine⟨lo,l3,m6,m3,λws hw=>⟨zbb (λ_=>rfl) _,?_⟩⟩;have grn:∀{n m:Nat} {A:Grs},SmG n m A->n<=3->m<=3->SmG 3 3 A:=λh h1 h2=>z0m h h1 h2;refine⟨rfl,_,_,rfl,rfl,rfl,ls,3,3,rfl,hlow,hne,hl,by decide,by decide,λA hA uA=>⟨eT A,?_⟩⟩;refine⟨rfl,_,_,rfl,rfl,rfl,ls,3,3,rfl,hlow,hne,hl,by decide,by decide,λB hB uB=>⟨eT B,?_⟩⟩;dsimp only;refine zrm (λρ=>∃X:Grs,SmG 3 3 X/\(∀w∈X,SubW ls w)/\ρ = [none,some .ob,some (.im (.str (tx ls))),some (.own 5.1),some (.im (.tuple (A.map tS))),some (.im (.tuple (X.map tS))),none]) (λN2 hN2=>?_) λρ zz=>?_
  .refine zwz rfl 0.2 0.2 λk2 hk2=>⟨_,zqj,_,rfl,?_⟩;refine ite2 (λ_=>?_) (λ_=>?_)
   .have hadd:addF (.tuple ((A.take 2).map tS)) (.tuple ((B.take 1).map tS))=some (.o (.tuple ((A.take 2++B.take 1).map tS))):=by
     rw[Qu];exact zlc (by simp only[Qc,QL];lia)
    have l2:(A.take 2++B.take 1).length<=3:=by rw[Qj,QL,QL];lia
    have good:∀v∈A.take 2++B.take 1,(v.length<=3/\∀c∈v,c<128)/\SubW ls v:=λv hv=>by
     rcases Qq.mp hv with z|z
     .exact⟨hA.wl v (Zv z),uA v (Zv z)⟩
     .exact⟨hB.wl v (Zv z),uB v (Zv z)⟩
    exact⟨_,_,rfl,rfl,_,rfl,_,zpg A 2,_,_,rfl,rfl,_,rfl,_,zpg B 1,_,hadd,rfl,A.take 2++B.take 1,_,rfl,.inr rfl,λv hv=>⟨by have:=(good v hv).1.1;lia,(good v hv).1.2⟩,by lia,eT _,hN2 _ ⟨_,zk6 l2 λv hv=>(good v hv).1,λv hv=>(good v ((zap _).of v hv)).2,rfl⟩⟩
   .exact hN2 _ ⟨B,hB,uB,rfl⟩
  obtain⟨X,hX,uX,e⟩:=zz;subst e;refine⟨rfl,_,_,rfl,rfl,rfl,ls,2,2,rfl,hlow,hne,hl,by decide,by decide,λF hF uF=>?_⟩;refine⟨rfl,_,_,rfl,rfl,rfl,ls,2,2,rfl,hlow,hne,hl,by decide,by decide,λG hG uG=>?_⟩;refine⟨rfl,_,_,rfl,rfl,rfl,ls,1,2,rfl,hlow,hne,hl,by decide,by decide,λJ hJ uJ=>?_⟩;refine⟨(by rw[GP];exact Ya rfl),(by show(flat (.tuple (F.map tS)) && (flat (.tuple (G.map tS)) && (flat (.tuple (J.map tS)) && true)))=true;rw[eT,eT,eT];rfl),?_⟩;have hF3:=z0m hF (k:=3) (l:=3) 0.2 0.2;have i0:idxF (.list [.tuple (F.map tS),.tuple (G.map tS),.tuple (J.map tS)]) (.int 0)=some (.o (.tuple (F.map tS))):=zdv (i:=0) rfl;have i1:idxF (.list [.tuple (F.map tS),.tuple (G.map tS),.tuple (J.map tS)]) (.int 1)=some (.o (.tuple (G.map tS))):=zdv (i:=1) rfl;have i2:idxF (.list [.tuple (F.map tS),.tuple (G.map tS),.tuple (J.map tS)]) (.int 2)=some (.o (.tuple (J.map tS))):=zdv (i:=2) rfl;refine⟨_,_,rfl,rfl,_,_,rfl,rfl,_,_,rfl,rfl,rfl,ws,A,X,ls,m,rfl,hw,lo,m4,m6,hA,hX,uA,_,rfl,?_⟩;refine iteF ⟨_,_,rfl,rfl,_,_,rfl,rfl,_,_,rfl,rfl,_,i0,rfl,ws,X,F,ls,m,rfl,hw,lo,m4,m6,hX,hF3,uX,_,rfl,?_⟩;refine iteF ?_;have sA:=hA.sml 0.2;have sX:=hX.sml 0.2;have sF:=hF.sml 0.2;have lA:=hA.len;have lX:=hX.len;have lF:=hF.len;have sml2:∀{C D:Grs},(∀w∈C,Sml w)->(∀w∈D,Sml w)->∀w∈lowK (C++D),Sml w:=λh1 h2 w hw=>(Qq.mp ((zap _).of w hw)).elim (h1 w) (h2 w)
  have len2:∀{C D:Grs},C.length<=8->D.length<=8->(lowK (C++D)).length<=16:=λ{C D} h1 h2=>by
   have nd:(lowK (C++D)).Nodup:=(zap _).asc.imp λ{a b} z e=>by rw[e,zb1] at z;cases z
   have:=zks nd λw hw=>(zap (C++D)).of w hw;rw[Qj] at this;lia
  refine⟨_,_,rfl,rfl,_,_,rfl,rfl,rfl,A,X,rfl,by lia,by lia,sA,sX,?_⟩;refine⟨_,_,rfl,rfl,_,_,rfl,rfl,rfl,X,A,rfl,by lia,by lia,sX,sA,_,eq_W (neg:=true) (sml2 sA sX) (sml2 sX sA) (q:=true) ⟨λ_=>zzl A X,λ_=>rfl⟩,_,rfl,?_⟩;have m1:=zk8 hA hX;have m2:=zk8 hX hA;refine iteF ⟨_,_,rfl,rfl,_,_,rfl,rfl,rfl,A,X,zay A X,rfl,m1.1,m1.2,λzs hz hs=>?_⟩;refine⟨_,_,rfl,rfl,_,_,rfl,rfl,rfl,X,A,zay X A,rfl,m2.1,m2.2,λzs2 hz2 hs2=>?_⟩;obtain rfl:=hz2.uniq (hz.congr λw=>⟨λh=>⟨h.2,h.1⟩,λh=>⟨h.2,h.1⟩⟩);have smz:∀{zs:Grs},(∀w∈zs,w.length<=24/\∀c∈w,c<128)->∀w∈zs,Sml w:=λh w hw=>⟨by have:=(h w hw).1;lia,(h w hw).2⟩;refine⟨_,eq_W (neg:=true) (smz hs.2) (smz hs.2) (q:=true) ⟨λ_=>rfl,λ_=>rfl⟩,_,rfl,?_⟩;refine iteF ?_;refine⟨_,_,rfl,rfl,_,_,rfl,rfl,rfl,A,X,rfl,by lia,by lia,sA,sX,?_⟩;have l1:=len2 (C:=A) (D:=X) 0.0 0.0;have l2:=len2 (C:=X) (D:=F) 0.0 0.0;refine⟨_,_,rfl,rfl,_,i0,rfl,lowK (A++X),F,rfl,by lia,by lia,sml2 sA sX,sF,?_⟩;refine⟨_,_,rfl,rfl,_,_,rfl,rfl,_,_,rfl,rfl,_,i0,rfl,X,F,rfl,by lia,by lia,sX,sF,rfl,A,lowK (X++F),rfl,by lia,by lia,sA,sml2 sX sF,?_⟩;refine⟨_,eq_W (neg:=true) (sml2 (sml2 sA sX) sF) (sml2 sA (sml2 sX sF)) (q:=true) ⟨λ_=>zwf A X F,λ_=>rfl⟩,_,rfl,?_⟩;refine iteF ?_;have n1:mrgN 2 2=6:=by simp[mrgN]
  have n2:mrgN 4 2=15:=by simp[mrgN]
  have p1:MetOk (zay F G)/\(F,G)∈zay F G:=zoh hF hG 0.2 0.2 0.2 0.2 0.2 (by rw[n1];decide);have p2:MetOk (zay G J)/\(G,J)∈zay G J:=zoh hG hJ 0.2 0.2 0.2 0.2 0.2 (by rw[n1];decide);refine⟨_,_,rfl,rfl,_,i0,_,_,rfl,rfl,_,i1,rfl,F,G,zay F G,rfl,p1.1,p1.2,λY hY _=>?_⟩;have t1:=zri hF hG hJ p1 hY (t:=24) (by rw[n1];decide) 0.2 0.2 0.2 0.2 0.2 (by rw[n2];decide);refine⟨_,_,rfl,rfl,_,i2,rfl,Y,J,zh4 F G J,rfl,t1.1,t1.2,λy hy ys=>?_⟩;refine⟨_,_,rfl,rfl,_,i0,_,_,rfl,rfl,_,i1,_,_,rfl,rfl,_,i2,rfl,G,J,zay G J,rfl,p2.1,p2.2,λZ hZ _=>?_⟩;have t2:=zri hG hJ hF p2 hZ (t:=24) (by rw[n1];decide) 0.2 0.2 0.2 0.2 0.2 (by rw[n2];decide);refine⟨rfl,F,Z,_,rfl,t2.1.swap,Qo.mpr ⟨_,t2.2,rfl⟩,λz hz zs=>?_⟩;exact⟨_,eq_W (neg:=false) (smz ys.2) (smz zs.2) (q:=true) ⟨λ_=>zws hY hZ hy hz,λ_=>rfl⟩,rfl⟩
end
def DIn(K:Qa)(x:Str)(st:Stmt):Prop:=∃(f:Addr) (od an:Option Addr) (sl:Array (Option GH)) (oc kV dc pm cd ct:GH),QZ K mainGlobals x=some (some (.ref f))/\K.lookup f=some ⟨oc,od,.func (ZS x x (zb0 st) (za2 st) 6.3 .none kV dc pm an cd ct),sl⟩/\YB K cd x=true/\Yg K (.ref f)=true
theorem din_mk{K:Qa}{x:Str}{st:Stmt}{f:Addr}{od an:Option Addr}{sl:Array (Option GH)}{oc kV dc pm cd ct:GH}(a:QZ K mainGlobals x=some (some (.ref f)))(l:K.lookup f=some ⟨oc,od,.func (ZS x x (zb0 st) (za2 st) 6.3 .none kV dc pm an cd ct),sl⟩)(c:YB K cd x=true)(k:Yg K (.ref f)=true):DIn K x st:=⟨f,od,an,sl,oc,kV,dc,pm,cd,ct,a,l,c,k⟩
theorem zan{K:Qa}{x:Str}{st:Stmt}{h:Heap}{mg:0.4}(X:K.In h)(G:h.Ns mainGlobals mg)(D:DIn K x st):Top3 K mg x st:=by obtain⟨f,_,_,_,_,_,_,_,_,_,a,l,c,k⟩:=D;exact⟨f,_,zw1 (st:=st) l c k,Uw X G a⟩
theorem all_mk{l:VP}{w:GM}{K:Qa}{h:Heap}{mg:0.4}{fa:Addr}(X:K.In h)(G:h.Ns mainGlobals mg)(hfa:mg "law" = some (.ref fa))
 (D1:DIn K "told_from_last" zdj)
 (D2:DIn K "word_order" zf8)
 (D3:DIn K "places" zko)
 (D4:DIn K "lies_under" zfo)
 (D5:DIn K "one_lies_under" zdh)
 (D6:DIn K "least" zph)
 (D7:DIn K "without_needless_first" zb2)
 (D8:DIn K "put_ahead" zgl)
 (D9:DIn K "has" sHas)
 (D10:DIn K "grown_within" zdx)
 (D11:DIn K "grown_joined" zec)
 (D12:DIn K "grown_behind" zea)
 (D13:DIn K "least_by_first" zdk)
 (D14:DIn K "met_moves" zg1)
 (D15:DIn K "met_told" zh7)
 (D16:DIn K "grown_met" zgw)
 (D17:DIn K "_law_deal" zr6)
 (D18:DIn K "_law_draw" zr3)
 (D19:DIn K "_law_alphabet" zgk)
 (D20:DIn K "_law_word" zog)
 (D21:DIn K "_law_under" zkd)
 (D22:DIn K "_law_lowest" zh3)
 (D23:DIn K "_law_grown" zk3)
 (D24:DIn K "_law_all_words" zfr)
 (D25:DIn K "_law_just" znb)
 (D26:DIn K "law" sLaw)
 (z1:QZ K mainGlobals "len" = some none)
 (z2:QZ K mainGlobals "all" = some none)
 (z3:QZ K mainGlobals "any" = some none)
 (z4:QZ K mainGlobals "sorted" = some none)
 (z5:QZ K mainGlobals "min" = some none)
 (z6:QZ K mainGlobals "max" = some none)
 (z7:QZ K mainGlobals "repr" = some none)
 (z8:QZ K mainGlobals "int" = some none)
 (z9:QZ K mainGlobals "list" = some none)
 (z10:QZ K mainGlobals "tuple" = some none)
 (z11:QZ K mainGlobals "range" = some none)
 (z12:QZ K mainGlobals "set" = some none)
 (z13:QZ K mainGlobals "isinstance" = some none)
 (z14:QZ K mainGlobals "enumerate" = some none)
 (z15:QZ K mainGlobals "zip" = some none)
 (z16:QZ K mainGlobals "reversed" = some none)
 (z17:QZ K mainGlobals "str" = some none)
 (z18:QZ K mainGlobals "sum" = some none)
 (z19:QZ K mainGlobals "dict" = some none)
 (z20:QZ K mainGlobals "bool" = some none)
 (GIALL_WORDS:TupIn K "ALL_WORDS" [""])
 (GINO_WORDS:TupIn K "NO_WORDS" [])
 : ∃fd:TQ,(∀(s:GJ) (v:GH),No s fd ⟨[v],[]⟩ [("_law_script",v)])/\∀base:Heap,K.In base->base.Ns mainGlobals mg->FnOk l.prog w K mg base CX0 24 fa fd ["_law_script"] (zi7 K):=by
 have T1:=zan X G D1;have T2:=zan X G D2;have T3:=zan X G D3;have T4:=zan X G D4;have T5:=zan X G D5;have T6:=zan X G D6;have T7:=zan X G D7;have T8:=zan X G D8;have T9:=zan X G D9;have T10:=zan X G D10;have T11:=zan X G D11;have T12:=zan X G D12;have T13:=zan X G D13;have T14:=zan X G D14;have T15:=zan X G D15;have T16:=zan X G D16;have T17:=zan X G D17;have T18:=zan X G D18;have T19:=zan X G D19;have T20:=zan X G D20;have T21:=zan X G D21;have T22:=zan X G D22;have T23:=zan X G D23;have T24:=zan X G D24;have T25:=zan X G D25;have T26:=zan X G D26;have B:Blt mg:=⟨QN X G z1,QN X G z2,QN X G z3,QN X G z4,QN X G z5,QN X G z6,QN X G z7,QN X G z8,QN X G z9,QN X G z10,QN X G z11,QN X G z12,QN X G z13,QN X G z14,QN X G z15,QN X G z16,QN X G z17,QN X G z18,QN X G z19,QN X G z20⟩;have gALL_WORDS:=GIALL_WORDS.glo X G;have gNO_WORDS:=GINO_WORDS.glo X G;obtain⟨f26,od26,an26,sl26,oc26,kV26,dc26,pm26,cd26,ct26,a26,l26,c26,k26⟩:=D26;have e:=hfa.symm.trans (Uw X G a26);cases e;refine⟨ZS "law" "law" (zb0 sLaw) (za2 sLaw) (zad sLaw) .none kV26 dc26 pm26 an26 cd26 ct26,λs v=>.of_eq rfl,λbase _ _=>?_⟩;have e1:=zck (P:=l.prog) (w:=w) (base:=base) B T1;have e2:=zbr (P:=l.prog) (w:=w) (base:=base) B T2;have e3:=zii (P:=l.prog) (w:=w) (base:=base) B T3;have e4:=zd0 B e3 T4;have e5:=za1 B e4 T5;have e6:=zkw B e2 e5 T6;have e7:=zbp B e2 T7;have e8:=zey (P:=l.prog) (w:=w) (base:=base) B T8;have e9:=zem B e5 T9;have e10:=zc2 B e9 T10;have e11:=zat B e6 T11;have e12:=zcc B e2 e5 T12;have e13:=zcl B e7 e8 T13;have e14:=zev B gALL_WORDS gNO_WORDS e12 T14;have e15:=zgd B gALL_WORDS e13 T15;have e16:=za6 B e1 e14 e15 T16;have e17:=d_law_deal (P:=l.prog) (w:=w) (base:=base) B T17;have e18:=d_law_draw (P:=l.prog) (w:=w) (base:=base) B T18;have e19:=zc6 B e18 T19;have e20:=zgf B e18 T20;have e21:=zex (P:=l.prog) (w:=w) (base:=base) B T21;have e22:=zb9 B e21 T22;have e23:=zby B e18 e20 e22 T23;have e24:=zcy (P:=l.prog) (w:=w) (base:=base) B T24;have e25:=zdo B e9 e10 e11 e16 T25;exact z8p B e11 e16 e17 e18 e19 e22 e23 e24 e25 (zw1 (st:=sLaw) l26 c26 k26)
theorem walk{l:VP}{q:GK}{loose:2.4}{XP:(Str->Option GH)->Heap->Prop}{YP:GM->Heap->Prop}{d:DefRec}{K:Params->Qa}(hn:l.most=some 63)(hdf:d.params.defaults = [])
 (hY:∀(w:GM) (h:Heap),YP w h->(K w.params).In h)
 (F:∀(w:GM) (mg:0.4) (fa:Addr) (h:Heap),(K w.params).In h->h.Ns mainGlobals mg->mg d.name=some (.ref fa) ->
  ∃fd:TQ,(∀(s:GJ) (u:GH),No s fd ⟨[u],[]⟩ [("_law_script",u)])/\∀base:Heap,(K w.params).In base->base.Ns mainGlobals mg->FnOk l.prog w (K w.params) mg base CX0 24 fa fd ["_law_script"] (zi7 (K w.params))) :
 G6 q loose XP YP l.row.toRowW d [] (λf vs=>Gw f vs) :=
 L2.walk_of (n:=63) (k:=24) (x := "_law_script") (CX:=λ_=>CX0) (sp:=λw=>zi7 (K w.params)) hn 0.2 hdf ⟨rfl,by decide,by decide,rfl⟩ hY F (λ_ _ a ns hl _ hS=>⟨a,ns,rfl,hS,hl,λ_=>rfl⟩) λ_ _ _ _ _ z=>z
end L16
theorem PySem.W.Fast.tw7484068648633852244 : True := trivial
theorem PySem.W.Fast.tw4457578969369741602 : True := trivial
theorem PySem.W.Fast.tw2664048870228690325 : True := trivial
theorem PySem.W.Fast.tw8778100959779483242 : True := trivial
theorem PySem.W.Fast.tw651348518792052487 : True := trivial
theorem PySem.W.Fast.tw14417885349170706376 : True := trivial
theorem PySem.W.Fast.tw1653157510585285720 : True := trivial
theorem PySem.W.Fast.tw1284730563032608948 : True := trivial
theorem PySem.W.Fast.tw17946035288141359627 : True := trivial
theorem PySem.W.Fast.tw1598076428958657116 : True := trivial
theorem PySem.W.Fast.tw322753774877179694 : True := trivial
theorem PySem.W.Fast.tw15758303714893481236 : True := trivial
open PySem PySem.W PyProof.Rows
set_option maxRecDepth 100000 in
set_option maxHeartbeats 0 in
theorem PySem.Challenge.cw_lostpost_k16_whole_joined_and_met_sets_holds : PySem.Challenge.rw_lostpost_k16_whole_joined_and_met_sets.Holds := by
 w_on;o_law;k_head;(case hw=>w_witness2)
 k_fill
 refine L16.walk (l:=PySem.Challenge.rw_lostpost_k16_whole_joined_and_met_sets) rfl rfl (λw h Y=>PySem.W.kIn_of Y) ?F
 case F=>
  intro w mg fa h KX G hmg;refine' L16.all_mk KX G hmg (L16.din_mk ?a1 ?l1 ?c1 ?k1) (L16.din_mk ?a2 ?l2 ?c2 ?k2) (L16.din_mk ?a3 ?l3 ?c3 ?k3) (L16.din_mk ?a4 ?l4 ?c4 ?k4) (L16.din_mk ?a5 ?l5 ?c5 ?k5) (L16.din_mk ?a6 ?l6 ?c6 ?k6) (L16.din_mk ?a7 ?l7 ?c7 ?k7) (L16.din_mk ?a8 ?l8 ?c8 ?k8) (L16.din_mk ?a9 ?l9 ?c9 ?k9) (L16.din_mk ?a10 ?l10 ?c10 ?k10) (L16.din_mk ?a11 ?l11 ?c11 ?k11) (L16.din_mk ?a12 ?l12 ?c12 ?k12) (L16.din_mk ?a13 ?l13 ?c13 ?k13) (L16.din_mk ?a14 ?l14 ?c14 ?k14) (L16.din_mk ?a15 ?l15 ?c15 ?k15) (L16.din_mk ?a16 ?l16 ?c16 ?k16) (L16.din_mk ?a17 ?l17 ?c17 ?k17) (L16.din_mk ?a18 ?l18 ?c18 ?k18) (L16.din_mk ?a19 ?l19 ?c19 ?k19) (L16.din_mk ?a20 ?l20 ?c20 ?k20) (L16.din_mk ?a21 ?l21 ?c21 ?k21) (L16.din_mk ?a22 ?l22 ?c22 ?k22) (L16.din_mk ?a23 ?l23 ?c23 ?k23) (L16.din_mk ?a24 ?l24 ?c24 ?k24) (L16.din_mk ?a25 ?l25 ?c25 ?k25) (L16.din_mk ?a26 ?l26 ?c26 ?k26) ?z1 ?z2 ?z3 ?z4 ?z5 ?z6 ?z7 ?z8 ?z9 ?z10 ?z11 ?z12 ?z13 ?z14 ?z15 ?z16 ?z17 ?z18 ?z19 ?z20 (L3.tupIn_mk ?gALL_WORDSa ?gALL_WORDSb ?gALL_WORDSc ?gALL_WORDSd) (L3.tupIn_mk ?gNO_WORDSa ?gNO_WORDSb ?gNO_WORDSc ?gNO_WORDSd)
  (case a1=>k_is);(case l1=>k_is);(case c1=>k_is);(case k1=>k_is)
  (case a2=>k_is);(case l2=>k_is);(case c2=>k_is);(case k2=>k_is)
  (case a3=>k_is);(case l3=>k_is);(case c3=>k_is);(case k3=>k_is)
  (case a4=>k_is);(case l4=>k_is);(case c4=>k_is);(case k4=>k_is)
  (case a5=>k_is);(case l5=>k_is);(case c5=>k_is);(case k5=>k_is)
  (case a6=>k_is);(case l6=>k_is);(case c6=>k_is);(case k6=>k_is)
  (case a7=>k_is);(case l7=>k_is);(case c7=>k_is);(case k7=>k_is)
  (case a8=>k_is);(case l8=>k_is);(case c8=>k_is);(case k8=>k_is)
  (case a9=>k_is);(case l9=>k_is);(case c9=>k_is);(case k9=>k_is)
  (case a10=>k_is);(case l10=>k_is);(case c10=>k_is);(case k10=>k_is)
  (case a11=>k_is);(case l11=>k_is);(case c11=>k_is);(case k11=>k_is)
  (case a12=>k_is);(case l12=>k_is);(case c12=>k_is);(case k12=>k_is)
  (case a13=>k_is);(case l13=>k_is);(case c13=>k_is);(case k13=>k_is)
  (case a14=>k_is);(case l14=>k_is);(case c14=>k_is);(case k14=>k_is)
  (case a15=>k_is);(case l15=>k_is);(case c15=>k_is);(case k15=>k_is)
  (case a16=>k_is);(case l16=>k_is);(case c16=>k_is);(case k16=>k_is)
  (case a17=>k_is);(case l17=>k_is);(case c17=>k_is);(case k17=>k_is)
  (case a18=>k_is);(case l18=>k_is);(case c18=>k_is);(case k18=>k_is)
  (case a19=>k_is);(case l19=>k_is);(case c19=>k_is);(case k19=>k_is)
  (case a20=>k_is);(case l20=>k_is);(case c20=>k_is);(case k20=>k_is)
  (case a21=>k_is);(case l21=>k_is);(case c21=>k_is);(case k21=>k_is)
  (case a22=>k_is);(case l22=>k_is);(case c22=>k_is);(case k22=>k_is)
  (case a23=>k_is);(case l23=>k_is);(case c23=>k_is);(case k23=>k_is)
  (case a24=>k_is);(case l24=>k_is);(case c24=>k_is);(case k24=>k_is)
  (case a25=>k_is);(case l25=>k_is);(case c25=>k_is);(case k25=>k_is)
  (case a26=>k_is);(case l26=>k_is);(case c26=>k_is);(case k26=>k_is)
  (case z1=>k_is)
  (case z2=>k_is)
  (case z3=>k_is)
  (case z4=>k_is)
  (case z5=>k_is)
  (case z6=>k_is)
  (case z7=>k_is)
  (case z8=>k_is)
  (case z9=>k_is)
  (case z10=>k_is)
  (case z11=>k_is)
  (case z12=>k_is)
  (case z13=>k_is)
  (case z14=>k_is)
  (case z15=>k_is)
  (case z16=>k_is)
  (case z17=>k_is)
  (case z18=>k_is)
  (case z19=>k_is)
  (case z20=>k_is)
  (case gALL_WORDSa=>k_is);(case gALL_WORDSb=>k_is);(case gALL_WORDSc=>decide +kernel);(case gALL_WORDSd=>exact⟨⟨_,rfl⟩,trivial⟩)
  (case gNO_WORDSa=>k_is);(case gNO_WORDSb=>k_is);(case gNO_WORDSc=>decide +kernel);(case gNO_WORDSd=>exact trivial)

